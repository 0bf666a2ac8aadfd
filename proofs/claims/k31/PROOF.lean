import PyProof.Rows.All
import Wide.All
import OpenK.AllK
import Wide.FinOn
import Lean
import PyProof.EqAt
import PyProof.EqKinds
import PyProof.TupleCall
import PyProof.P3Statements
import KE.KSortTup
import PyProof.AttrMissHeap
import PyProof.ZipIter
import PyProof.Draws
import PyProof.ListMulRoad
import Wide.Seal
import KE.KLam
import KE.KNest
import KE.KNestM
import KE.KIsAll
import PyProof.ExcArgs
import PyProof.ReprStr
import PyProof.FString
import PyProof.FitsInt
import KE.KMinKey
import PySem.Challenge.RW_doorwatch_k31_whole_one_who_comes_in
set_option Elab.async false
set_option linter.all false
set_option compiler.extract_closed false
set_option genSizeOfSpec false
set_option maxRecDepth 100000
set_option maxHeartbeats 0
open PySem renaming Value → ag, Addr → ak, Around → cU, World → b8, Heap → bI, Expr → bz
open PySem.W renaming Frag → br, keepIn → nf, findIn → ng, codeIn → rl, fnOf → mj, nsIn → u0, mg_of → fR, mg_none_of → pa, emptyDict → qk, instObj → ro, codeHdIn → amr
open Option renaming bind_eq_some_iff → b0, map_eq_some_iff → dR, bind_some → cp, map_some → d4
open PySem renaming wpAny_bind → aT, Shared → aK, wpAny_pure → cy, starEach → bb, FuncData → gi, sizeLine → cB, mainGlobals → il, Program → cE, wpAny → a6, wpAny_mono → gj, mem_of_lookup → xG, keywordEach → gk, wpAny_holding → jo, backTo → c0, wpAny_Call_Name_kw → pe, wpAny_field → iP, attributeBase → ir, wpAny_callSpecial?_slot → u5, backToKw → gm, sizeLine_eq → h1, wpAny_seqItems → mq, wpAny_pyIter_tuple → pf, compareOp → iQ, codeAny_builtin → kK, wpAny_newObj_type → u6, codeAny_mono → rq, wpAny_call_entry → tj, wpAny_setField_rec → tl, swapsWith → iu, behindInMarks → oo, wpAny_truthy_bool → tm, codeAny → lT, plainId_quiet → lU, assignEach → ql, call_meets → qm, wpAny_tryCatch → rr, binaryOp → oq, NameKind → mr, model → bS, foldedSetIterable → u7, rawInt → gP
open PySem.Heap renaming get?_push_of_some → cT, lt_size → cN, get?_push_size → fy, size_push → kb, get?_update_other → nj
open List renaming mem_cons_of_mem → dq, mem_cons → ct, map_cons → cP, mem_cons_self → fx, replicate → jE, size_toArray → eo, getElem?_eq_some_iff → gZ, mem_map → dI, nodup_cons → eO, getElem?_eq_getElem → g0, length_cons → eJ, mem_singleton → ip, mem_append → gz, length_map → eb, getElem?_map → jn, pairwise_cons → lP, map_nil → kI, mem_append_right → iM, lookup_cons → lQ, set_cons_zero → f6, lookup → jG, set_cons_succ → gO, getElem?_append_right → u1, nodup_append → jH, getElem?_append_left → u2, find?_cons → ml, mem_of_getElem? → mm, append_nil → nh, zip_cons_cons → pb, length_append → jI, length_filter_le → amq, getElem?_set → u4, not_mem_nil → lS, getElem?_cons_zero → hZ, getElem?_cons_succ → iq, length_nil → ke, nil_append → pd, cons_append → mn, map_map → k'
open Nat renaming le_refl → dw, lt_of_lt_of_le → gN, ne_of_lt → ee, ne_of_gt → f5, le_trans → hi, zero_le → k9, le_succ → ni, le_add_right → tq
open PySem.Builtin.SmallTypes renaming nextOf → lO, ownedTupleIsFree → rm
open PySem.Builtin.Tuple renaming tupleExact → Bb
open Function renaming comp_def → al4
open Bool renaming and_eq_true → kJ, false_eq_true → iO, false_ne_true → ti
open PySem.PyData renaming depthAll → iN, canLayAll0 → jF, str → kc, eqv → hY, depth → lR
open Array renaming getElem?_eq_getElem → rn, length_toList → rp
open PyProof.Rows renaming callWith_type1 → amg
open PySem.Around renaming under_plainId → k8
open False renaming elim → kd
open PySem.PassesOwn renaming never → oj
open PySem.F renaming slot_tuple_iterator_next → Bc, plain_max_loop → tn, plainAttrs_list → tp
open Option.some renaming inj → fc
open Int renaming emod_nonneg → k_, emod_lt_of_pos → om
namespace PySem.W.Fast
def tw2790042347539193291:=0
def tw5239721819652556761:=0
def tw9741474177645068146:=0
def tw12660647924536853587:=0
def tw837180499695860047:=0
def tw4090030994933902970:=0
def tw2254008682278419682:=0
def tw2714489821736542884:=0
def tw16399982326021761297:=0
def tw13595513281447617035:=0
def tw8589723320362986527:=0
def tw6819099627412468164:=0
def tw12101382318195724509:=0
def tw4225392135351923924:=0
def tw6748056741023452890:=0
def tw18150594983889708471:=0
def tw8493932865768338221:=0
def tw957169364285646519:=0
def tw11076948842951818616:=0
def tw15948866233280446697:=0
def tw10412301805604641210:=0
def tw13846768075025998222:=0
def tw16122025914391111896:=0
def tw3068292642432931005:=0
def tw5877867529903785431:=0
def tw13481188038166886344:=0
def tw14861037400766256873:=0
def tw14091056066025178889:=0
def tw787098114518103410:=0
def tw6550161168600910221:=0
def tw2719611874361101260:=0
def tw16061133554001060619:=0
def tw2313035596679658425:=0
def tw9012693813715033010:=0
def tw11710411505073040231:=0
def tw8605522390505583387:=0
def tw8605057881407738498:=0
def tw14626903615142728543:=0
def tw13060380957066297467:=0
def tw12717494277408206826:=0
def tw6701055789935500381:=0
def tw17076373661795050675:=0
def tw13461670164429021034:=0
def tw9890383998095435195:=0
def tw9299788211696823911:=0
def tw9619408777663846836:=0
def tw16370388888217732709:=0
def tw17287238891437285992:=0
def tw18132640780126592354:=0
def tw3067887198786687034:=0
def tw3868210529658603412:=0
def tw14923199591552392195:=0
def tw6623204736416756443:=0
def tw4433393732530129172:=0
def tw5370553384628451326:=0
def tw6418859275899891980:=0
def tw11136950509201559479:=0
def tw8670334623210109236:=0
def tw17342728957229139753:=0
def tw16695270381891001310:=0
def tw13992505418207190370:=0
def tw9418627596100955703:=0
def tw16766435620277035038:=0
def tw9142848496074948193:=0
def tw3365935411270019897:=0
def tw2728015198682124900:=0
def tw7508905989931539365:=0
def tw2476152041608093546:=0
def tw2523412474822722616:=0
def tw18290543926803030527:=0
def tw3736575913542537863:=0
def tw3762738438118121159:=0
def tw3819206193887471499:=0
def tw11564135283982596037:=0
def tw14486919909357348912:=0
def tw9699865762934655372:=0
def tw4336156946995390220:=0
def tw11628863297371636338:=0
def tw17318760209832688193:=0
def tw5790905357258935901:=0
def tw7935715599731291520:=0
def tw18352423176889407452:=0
def tw15063710917401695907:=0
def tw3834936435817150957:=0
def tw9650276838389826217:=0
def tw1560127490931419952:=0
def tw10271184001036012447:=0
def tw1515718297611540731:=0
def tw5260906938061132284:=0
def tw9463128120616547631:=0
def tw2979743660907872025:=0
def tw1273179270308818087:=0
def tw7506314840856856216:=0
def tw12470489988529291663:=0
def tw15334325335759565220:=0
def tw4458882169823484755:=0
def tw1554263566075264365:=0
def tw3750832411442572511:=0
def tw5860251626713884004:=0
def tw8685639865320810205:=0
def tw13587002164209439170:=0
def tw13226390854340850394:=0
def tw14492600244332097402:=0
def tw5652765703612216029:=0
def tw2936443887934257802:=0
def tw5900468798855188225:=0
def tw15842469028030129067:=0
def tw10115653908087274092:=0
def tw13589983043354087647:=0
def tw5712595940651805436:=0
def tw843444240207445766:=0
def tw8824940393260615122:=0
def tw7683218452738408076:=0
def tw10887917594212457355:=0
def tw4547788235046495075:=0
def tw7609663595686775350:=0
def tw7540285571532548391:=0
def tw12250878105036812904:=0
def tw4648414362969992168:=0
def tw16774967558712220670:=0
def tw7980279502911910762:=0
def tw17405674726826873426:=0
def tw13298214925645792032:=0
def tw93281140354065007:=0
def tw6429163534460485620:=0
def tw14843003453133969038:=0
def tw10854969796419893024:=0
def tw454080609231526538:=0
def tw12615127069366315044:=0
def tw18175309672300219329:=0
def tw9532664253579231545:=0
def tw15127097293785098820:=0
def tw8212872059524265812:=0
def tw9675991399649478:=0
def tw12269568225731743706:=0
def tw16755615775970110680:=0
def tw4172698332545984593:=0
def tw9275267446684721788:=0
def tw6675865545443365613:=0
def tw4118505860218016479:=0
def tw18347304267198452691:=0
def tw7248440176434160770:=0
def tw4540176647515159882:=0
def tw10849171629973181297:=0
def tw13149925207822681621:=0
def tw9545653926507245931:=0
def tw11269166242853905593:=0
def tw15864579394616933178:=0
def tw11478466924868224179:=0
def tw7684728613383562532:=0
def tw5651504435141393841:=0
def tw16291046459096792127:=0
def tw1369807984374544766:=0
def tw17903703209295181599:=0
def tw16219028709962734463:=0
def tw16191176323809926683:=0
def tw2260712407280513805:=0
def tw14487069179807020646:=0
def tw3109562215610675024:=0
def tw14133634084927457694:=0
def tw3796122207473027330:=0
def tw13591982261867359186:=0
def tw15373355657047839062:=0
def tw4448021237203756117:=0
def tw18042673186717363086:=0
def tw1941654485740627954:=0
def tw249636121899691191:=0
def tw16935862097250102207:=0
def tw15152463415835407540:=0
def tw7130599439941389517:=0
def tw11187103387679863566:=0
def tw17967159704810049363:=0
def tw2674986552518449587:=0
def tw2734520580690148331:=0
def tw16621912982495719068:=0
def tw8022071375058554775:=0
def tw15954660183020509644:=0
def tw16891888264098765553:=0
def tw8329696575006892410:=0
def tw451818693288205618:=0
def tw12306082617134979574:=0
def tw33076075445827634:=0
def tw1159580055888870672:=0
def tw2290711219502456867:=0
def tw17927152868629319163:=0
def tw15581837940384189609:=0
def tw2533832115239050796:=0
def tw2979725874612016515:=0
def tw10745579339326771530:=0
def tw7203130574196553835:=0
def tw12974612941040151189:=0
def tw3447104452470985967:=0
def tw12908697891201209630:=0
def tw10751704064750019309:=0
def tw15840059242645045410:=0
def tw10503785996273809518:=0
def tw15950277341391344691:=0
def tw10312903768047277059:=0
def tw11545201501870909636:=0
def tw7395481564161138419:=0
def tw17010515020676779851:=0
def tw5154847087885947917:=0
def tw6862548150021036723:=0
def tw15906512987944092383:=0
def tw4618418720527267620:=0
def tw16299932271196729450:=0
def tw16159196175932748530:=0
def tw2693480685957279429:=0
def tw3267688881897796083:=0
def tw10579981735909363123:=0
def tw3979534257733785197:=0
def tw6160347092555298046:=0
def tw7524145549889584479:=0
def tw6374413791496565083:=0
def tw422355123616455867:=0
def tw2654834774215266093:=0
def tw6656111695673344228:=0
def tw795433413235801380:=0
def tw11153803789335957443:=0
def tw16741920799616978341:=0
def tw13520997284154208947:=0
def tw10234517320117567294:=0
def tw12777958636096790460:=0
def tw3660135031753943112:=0
def tw1904891024499064698:=0
def tw2882164291614527250:=0
def tw15489538739674713634:=0
def tw179869766078506121:=0
def tw12667425433771954029:=0
def tw15868361978358887644:=0
def tw2543671545570222177:=0
def tw10484467476343325996:=0
def tw2464905008088024034:=0
def tw15593103230547193707:=0
def tw11766108090112046910:=0
def tw2997989406861856694:=0
def tw5343229070978203814:=0
def tw10120460670531124357:=0
def tw473673548888010892:=0
def tw13130159869345640192:=0
def tw13279995014428544161:=0
def tw912146765915362716:=0
def tw2069508323231126203:=0
def tw17700021264788029347:=0
def tw3263636118020800886:=0
def tw1277992578520211515:=0
def tw13250451946225397246:=0
def tw15359218999990320647:=0
def tw9547294645154748402:=0
def tw17529733900939352337:=0
def tw17631336134101940032:=0
def tw14944363739432449517:=0
def tw7041245238246350979:=0
def tw214832788518490011:=0
end PySem.W.Fast
noncomputable section
section
namespace bG
open PySem PySem.Spec PyProof.Rows
abbrev Key:=Sum Int Str
def rO:Key->ag->Bool
|.inl k,v=>Value.isInt k v
|.inr x,v=>Value.isStrOf x v
def _h(w:b8):Key->Int
|.inl k=>hashInt k
|.inr x=>hashStr w x
def nq:∀{k:Key} {v:ag},rO k v=true->(∃i t,k=Sum.inl i/\v=Value.int i t)\/(∃x t,k=Sum.inr x/\v=Value.str x t)
|.inl i,v,h=>by
  obtain⟨t,e⟩:=Value.isInt_shape (k:=i) (v:=v) h;exact .inl ⟨i,t,rfl,e⟩
|.inr x,v,h=>by
  obtain⟨t,e⟩:=Value.isStrOf_shape (x:=x) (v:=v) h;exact .inr ⟨x,t,rfl,e⟩
def ahe(i:Int)(t:Tok):rO (.inl i) (.int i t)=true:=by simp[rO,Value.isInt]
def ahd(x:Str)(t:Tok):rO (.inr x) (.str x t)=true:=by simp[rO,Value.isStrOf]
def aks(a b:Int):decide ((Sum.inl a:Key)=Sum.inl b)=(a==b):=by
 by_cases e:a=b
 ·subst e;simp
 ·have h:¬(Sum.inl a:Key)=Sum.inl b:=λq=>e (Sum.inl.inj q);rw[decide_eq_false h];exact (beq_eq_false_iff_ne.mpr e).symm
def akp(a b:Str):decide ((Sum.inr a:Key)=Sum.inr b)=decide (a=b):=by
 by_cases e:a=b
 ·subst e;simp
 ·have h:¬(Sum.inr a:Key)=Sum.inr b:=λq=>e (Sum.inr.inj q);rw[decide_eq_false h,decide_eq_false e]
def akr(a:Int)(b:Str):decide ((Sum.inl a:Key)=Sum.inr b)=false:=decide_eq_false (λq=>nomatch q)
def akq(a:Str)(b:Int):decide ((Sum.inr a:Key)=Sum.inl b)=false:=decide_eq_false (λq=>nomatch q)
noncomputable def fM(prog:cE)(w:b8):PySem.KeyKind prog w Key where
 is:=rO
 hash:=_h w
 inj:=λv a b aq ab=>by
  rcases nq aq with ⟨i,t,rfl,rfl⟩|⟨x,t,rfl,rfl⟩
  ·rcases nq ab with ⟨j,u,rfl,e⟩|⟨y,u,rfl,e⟩
   ·injection e with ax _;rw[ax]
   ·exact nomatch e
  ·rcases nq ab with ⟨j,u,rfl,e⟩|⟨y,u,rfl,e⟩
   ·exact nomatch e
   ·injection e with ax _;rw[ax]
 byValue:=λk v h=>by
  rcases nq h with ⟨i,t,rfl,rfl⟩|⟨x,t,rfl,rfl⟩ <;> rfl
 pyHash:=λa4 h=>by
  rcases nq a4 with ⟨i,t,rfl,rfl⟩|⟨x,t,rfl,rfl⟩
  ·exact wpAny_pyHash_int h
  ·exact wpAny_pyHash_str h
 eqBool:=λbH a4 h=>by
  rcases nq bH with ⟨i,t,rfl,rfl⟩|⟨x,t,rfl,rfl⟩
  ·rcases nq a4 with ⟨j,u,rfl,rfl⟩|⟨y,u,rfl,rfl⟩
   ·rw[aks] at h;exact wpAny_eqBool_int h
   ·rw[akr] at h;exact SeqAt.EqAt.int_str i t y u _ _ _ _ h
  ·rcases nq a4 with ⟨j,u,rfl,rfl⟩|⟨y,u,rfl,rfl⟩
   ·rw[akq] at h;exact SeqAt.EqAt.str_int x t j u _ _ _ _ h
   ·rw[akp] at h;exact wpAny_eqBool_str h
 «strs»:=λk x t v h=>by
  rcases nq h with ⟨i,u,rfl,e⟩|⟨y,u,rfl,e⟩
  ·exact nomatch e
  ·injection e with ax _
   subst ax;cases v <;> rfl
def Ql(prog:cE)(w:b8)(k:Key)(v:ag):(fM prog w).is k v=rO k v:=rfl
def JE(prog:cE)(w:b8)(i:Int)(t:Tok):(fM prog w).is (.inl i) (.int i t)=true:=ahe i t
def JD(prog:cE)(w:b8)(x:Str)(t:Tok):(fM prog w).is (.inr x) (.str x t)=true:=ahd x t
end bG
namespace bG
open PySem PySem.Spec PyProof.Rows
inductive V where
|ff|c8 (b:Bool)|int (i:Int)|str (x:Str)|sd (b:Array UInt8)|wm (b:UInt64)|ref (a:ak)|ty (n:String)
 deriving DecidableEq
noncomputable def RelV:V->ag->Prop
|.ff,u=>u=Value.none
|.c8 b,u=>u=Value.bool b
|.int i,u=>∃t,u=Value.int i t
|.str x,u=>∃t,u=Value.str x t
|.sd b,u=>∃t,u=Value.bytes b t
|.wm b,u=>∃t,u=Value.float b t
|.ref a,u=>u=Value.ref a
|.ty n,u=>u=Value.type n
abbrev Vals:List V->List ag->Prop:=Paired RelV
theorem Vals.length{xs:List V}{us:List ag}(r:Vals xs us):xs.length=us.length:=Paired.length r
theorem Vals.get:∀{xs:List V} {us:List ag} {i:Nat} {x:V},Vals xs us->xs[i]?=some x->∃u,us[i]?=some u/\RelV x u
|_,_,_,_,.nil,e=>by simp at e
|_,_,0,_,.cons r _,e=>by simp at e;subst e;exact⟨_,rfl,r⟩
|_,_,i+1,x,.cons _ t,e=>by
  obtain⟨u,ae,aj⟩:=Vals.get (i:=i) (x:=x) t (by simpa using e);exact⟨u,by simpa using ae,aj⟩
theorem Vals.append:∀{xs ys:List V} {us ws:List ag},Vals xs us->Vals ys ws->Vals (xs++ys) (us++ws)
|_,_,_,_,.nil,s=>s
|_,_,_,_,.cons r t,s=>.cons r (Vals.append t s)
noncomputable def kq:Option V->Option ag->Prop
|some v,some u=>RelV v u
|none,none=>True
|_,_=>False
noncomputable def fB{eY:Type}:List (eY×V)->List (eY×ag)->Prop:=Paired λ(p:eY×V) (q:eY×ag)=>p.1=q.1/\RelV p.2 q.2
def dA:Key->V
|.inl i=>.int i
|.inr x=>.str x
inductive ey where
|lst (xs:List V)
|tup (xs:List V)
|dP (kvs:List (Key×V))|nP (kvs:List (List Key×V))
|set (S:Int->Bool) (n:Nat)
|ins (C bu:ak) (aB:List (Str×V))
|own (x:ak)
|I2 (aB:List (Str×V))
|met (f x:ak)
|lK (lo ba:Int)
|oN (o:Obj) (u:ey)
|ij (ps:Array ag)
|ext (pC:bI->Prop)
abbrev aA:=ak->Option ey
def upd(H:aA)(a:ak)(o:ey):aA:=λb=>if b=a then some o else H b
def dN{H:aA}{a:ak}{o:ey}:upd H a o a=some o:=by unfold upd;rw[if_pos rfl]
def cI{H:aA}{a b:ak}{o:ey}(h:b≠a):upd H a o b=H b:=by unfold upd;rw[if_neg h]
def ak_{H:aA}{a b:ak}{o u:ey}(h:H a=some o)(h':H b=some u)(d:o≠u):a≠b:=by
 intro e;subst e;rw[h] at h';exact d (fc h')
def iw{H:aA}{a b:ak}{o:ey}(h:H a=some o)(h':H b=none):a≠b:=by
 intro e;subst e;rw[h] at h';cases h'
noncomputable def oB(h:bI)(a:ak)(items:Array ag):Prop:=∃o,h.get? a=some o/\o.cls=.type "tuple"/\∃n,(o.data,o.dict)=(Data.seq items n,(none:Option ak))
def oB.tup{h:bI}{a:ak}{items:Array ag}(x:oB h a items):IsTup h a items:=let ⟨o,ae,aj,n,a8⟩:=x;⟨o,ae,aj,n,(Prod.mk.inj a8).1⟩
def oB.new(h:bI)(items:Array ag):oB (h.push {cls:=.type "tuple",data:=.seq items}) h.objs.size items:=⟨_,fy _ rfl,rfl,_,rfl⟩
def oB.lt{h:bI}{a:ak}{items:Array ag}(x:oB h a items):a<h.objs.size:=let ⟨o,ae,_⟩:=x;cN ae
section
variable (P:cE)(w:b8)
noncomputable def hv(H:aA)(h:bI)(a:ak):ey->Prop
|.lst xs=>xs.length<=cB/\∃(its:List ag) (n:Nat),Vals xs its/\h.get? a=some {cls:=.type "list",data:=.seq its.toArray n}
|.tup xs=>xs.length<=cB/\∃its:List ag,Vals xs its/\oB h a its.toArray
|.dP kvs=>kvs.length<=cB/\(a==sysModules)=false/\∃vs,fB kvs vs/\h.DictOf (fM P w) a vs
|.nP kvs=>kvs.length<=cB/\(a==sysModules)=false/\∃xs:List (List Key×ak×ag),
   Paired (λ(p:List Key×V) (q:List Key×ak×ag)=>p.1=q.1/\H q.2.1=some (.tup (p.1.map dA))/\RelV p.2 q.2.2) kvs xs /\
   ∃o es ep,h.get? a=some o/\o.ExactDict/\o.data=.dict es ep/\es.toList=xs.map (entryOfKey (tupleKind (fM P w)))/\(xs.map (·.1)).Nodup
|.set S n=>h.SetOf (intKind P w) a S n
|.ins C bu aB=>H bu=some (.own a)/\aB.length<=1000/\bu≠a/\h.get? a=some (ro C bu) /\
   ∃eM,h.Ns1 bu eM/\(∀f,kq (aB.lookup f) (eM f))/\PySem.Within eM (aB.map (·.1))
|.own _=>∃o,h.get? a=some o
|.I2 aB=>∃eM,h.Ns1 a eM/\∀f,kq (aB.lookup f) (eM f)
|.lK lo ba=>∃t u v,h.get? a=some {cls:=.type "range",data:=.fields #[.int lo t,.int ba u,.int 1 v]}
|.oN o u=>h.get? a=some o/\hv H h a u
|.ij ps=>h.get? a=some {cls:=.none,data:=.fields ps}
|.met f x=>h.get? a=some (PySem.W.methodObj (.ref f) (.ref x))
|.ext pC=>pC h/\(∃o,h.get? a=some o)/\∀ae aj:bI,pC ae->(∀o,ae.get? a=some o->aj.get? a=some o)->pC aj
def fA(H:aA)(h:bI):Prop:=∀a o,H a=some o->hv P w H h a o
end
section
variable {P:cE}{w:b8}{H ah:aA}{h h':bI}{a:ak}{o:ey}
theorem hv.lt(x:hv P w H h a o):a<h.objs.size:=by
 cases o with
|lst xs=>obtain⟨_,_,_,_,e⟩:=x;exact cN e
|tup xs=>obtain⟨_,_,_,p⟩:=x;exact p.lt
|dP kvs=>obtain⟨_,_,_,_,o,_,_,e,_⟩:=x;exact cN e
|nP kvs=>obtain⟨_,_,_,_,o,_,_,e,_⟩:=x;exact cN e
|set S n=>obtain⟨o,_,_,_,e,_⟩:=x;exact cN e
|ins C bu aB=>obtain⟨_,_,_,e,_⟩:=x;exact cN e
|own y=>obtain⟨_,e⟩:=x;exact cN e
|I2 aB=>obtain⟨_,⟨_,_,_,e,_⟩,_⟩:=x;exact cN e
|lK lo ba=>obtain⟨_,_,_,e⟩:=x;exact cN e
|oN dY u=>obtain⟨e,_⟩:=x;exact cN e
|ij ps=>exact cN (show h.get? a=some _ from x)
|met f y=>exact cN (show h.get? a=some _ from x)
|ext pC=>obtain⟨_,⟨_,e⟩,_⟩:=x;exact cN e
theorem Paired.HQ{α β:Type}{F G:α->β->Prop}:∀{uJ:List α} {w2:List β},Paired F uJ w2->(∀a b,F a b->G a b)->Paired G uJ w2
|_,_,.nil,_=>.nil
|_,_,.cons r t,f=>.cons (f _ _ r) (Paired.HQ t f)
def hv.kF(x:hv P w H h a o)(k:∀b u,(b=a\/H b=some (.own a))->h.get? b=some u->h'.get? b=some u)
  (aE:∀b,H b=some (.own a)->ah b=some (.own a)) (bo:∀b xs,H b=some (.tup xs)->ah b=some (.tup xs)):hv P w ah h' a o:=by
 induction o with
|lst xs=>obtain⟨z,its,n,r,e⟩:=x;exact⟨z,its,n,r,k _ _ (.inl rfl) e⟩
|tup xs=>obtain⟨z,its,r,dY,e,c⟩:=x;exact⟨z,its,r,dY,k _ _ (.inl rfl) e,c⟩
|dP kvs=>obtain⟨z,y,vs,r,dY,es,ep,e,c⟩:=x;exact⟨z,y,vs,r,dY,es,ep,k _ _ (.inl rfl) e,c⟩
|nP kvs=>
  obtain⟨z,y,xs,r,dY,es,ep,e,c⟩:=x;exact⟨z,y,xs,Paired.HQ r λp q z=>⟨z.1,bo _ _ z.2.1,z.2.2⟩,dY,es,ep,k _ _ (.inl rfl) e,c⟩
|set S n=>obtain⟨dY,es,ep,t,e,c⟩:=x;exact⟨dY,es,ep,t,k _ _ (.inl rfl) e,c⟩
|ins C bu aB=>
  obtain⟨d,z,ne,e,eM,⟨e4,es,ep,aL,c⟩,r⟩:=x;exact⟨aE _ d,z,ne,k _ _ (.inl rfl) e,eM,⟨e4,es,ep,k _ _ (.inr d) aL,c⟩,r⟩
|own y=>obtain⟨dY,e⟩:=x;exact⟨dY,k _ _ (.inl rfl) e⟩
|I2 aB=>obtain⟨eM,⟨e4,es,ep,e,c⟩,r⟩:=x;exact⟨eM,⟨e4,es,ep,k _ _ (.inl rfl) e,c⟩,r⟩
|lK lo ba=>obtain⟨t,u,v,e⟩:=x;exact⟨t,u,v,k _ _ (.inl rfl) e⟩
|oN dY u bc=>obtain⟨e,q⟩:=x;exact⟨k _ _ (.inl rfl) e,bc q⟩
|ij ps=>
  have e:h.get? a=some {cls:=.none,data:=.fields ps}:=x;show h'.get? a=some {cls:=.none,data:=.fields ps};exact k a _ (.inl rfl) e
|met f y=>
  have e:h.get? a=some (PySem.W.methodObj (.ref f) (.ref y)):=x;show h'.get? a=some (PySem.W.methodObj (.ref f) (.ref y));exact k a _ (.inl rfl) e
|ext pC=>obtain⟨p,⟨o,e⟩,st⟩:=x;exact⟨st _ _ p λo q=>k _ _ (.inl rfl) q,⟨o,k _ _ (.inl rfl) e⟩,st⟩
theorem fA.lt(x:fA P w H h)(e:H a=some o):a<h.objs.size:=(x a o e).lt
def fA.fresh(x:fA P w H h)(e:h.objs.size<=a):H a=none:=by
 cases q:H a with
|none=>rfl
|some u=>exact absurd (gN (x.lt q) e) (Nat.lt_irrefl _)
def fA.kept(x:fA P w H h)(k:∀b u,h.get? b=some u->h'.get? b=some u):fA P w H h':=λa o e=>
 (x a o e).kF (λb u _ q=>k b u q) (λ_ q=>q) λ_ _ q=>q
def fA.laid(x:fA P w H h)(k:∀b u,h.get? b=some u->h'.get? b=some u)(az:h.objs.size<=a)(new:hv P w (upd H a o) h' a o):fA P w (upd H a o) h':=λb u e=>by
 have aX:=x.fresh az;by_cases ab:b=a
 ·subst ab;rw[dN] at e;cases e;exact new
 ·rw[cI ab] at e;exact (x b u e).kF (λc v _ q=>k c v q) (λc q=>by rw[cI (iw q aX)];exact q) λc xs q=>by rw[cI (iw q aX)];exact q
end
def f'(H:aA)(a:ak)(u:ey):Prop:=H a=some u\/∃o,H a=some (.oN o u)
def f'.ok{P:cE}{w:b8}{H:aA}{h:bI}{a:ak}{u:ey}(r:f' H a u)(x:fA P w H h):hv P w H h a u:=by
 rcases r with r|⟨o,r⟩
 ·exact x a u r
 ·obtain⟨_,q⟩:=x a _ r;exact q
noncomputable def vU:Option ey->Prop
|some (.lst _)=>True
|some (.dP _)=>True
|some (.nP _)=>True
|some (.set _ _)=>True
|some (.ins _ _ _)=>True
|some (.ext _)=>True
|_=>False
section
variable {P:cE}{w:b8}{H:aA}{h h':bI}{x e:ak}{o':ey}
def fA.write(ok:fA P w H h)(lE:vU (H x))(he:e=x\/H e=some (.own x))(k:∀b u,b≠e->h.get? b=some u->h'.get? b=some u)(uy:∃u,h'.get? e=some u)
  (new:hv P w (upd H x o') h' x o'):fA P w (upd H x o') h':=λb u q=>by
 have Of:∀c y,H c=some (.own y)->c≠x:=λc y r z=>by subst z;rw[r] at lE;exact lE
 have _G:∀c xs,H c=some (.tup xs)->c≠x:=λc xs r z=>by subst z;rw[r] at lE;exact lE
 by_cases ab:b=x
 ·subst ab;rw[dN] at q;cases q;exact new
 ·rw[cI ab] at q;by_cases sy:b=e
  ·have d2:H b=some (.own x):=by
    rcases he with z|z
    ·exact absurd (sy.trans z) ab
    ·rw[sy];exact z
   rw[q] at d2;cases d2;obtain⟨v,a4⟩:=uy;exact⟨v,by rw[sy];exact a4⟩
  ·refine (ok b u q).kF (λc v ar r=>k c v ?_ r) (λc r=>by rw[cI (Of c b r)];exact r) λc xs r=>by rw[cI (_G c xs r)];exact r
   rcases ar with rfl|ar
   ·exact sy
   ·rintro rfl;rcases he with z|z
    ·exact Of c b ar z
    ·rw[ar] at z;cases z;exact ab rfl
end
structure ho(aB ex:List ak)(H ah:aA)(h h':bI):Prop where
 keep:∀b o,h.get? b=some o->H b=none->b∉aB->b∉ex->h'.get? b=some o
 slot:∀b o,h.get? b=some o->H b=none->b∈aB->b∉ex->∃df,h'.get? b=some {o with slots:=df}
 free:∀b o,h.get? b=some o->H b=none->b∉ex->ah b=none
 there:∀b o,h.get? b=some o->b∉ex->∃o',h'.get? b=some o'
 qg:∀b xs,H b=some (.tup xs)->ah b=some (.tup xs)
 oO:∀b o u,H b=some (.oN o u)->ah b=some (.oN o u)
 o4:∀b ps,H b=some (.ij ps)->∃more,ah b=some (.ij (ps++more))
section
variable {aB hS ex alu:List ak}{H H1 bf:aA}{h ae aj h':bI}{a x e:ak}{o:ey}
def ho.any(u:ho aB ex H H1 h ae){b:ak}{dY:Obj}(q:h.get? b=some dY)(n:H b=none)(hx:b∉ex):∃df,ae.get? b=some {dY with slots:=df}:=by
 by_cases ab:b∈aB
 ·exact u.slot b dY q n ab hx
 ·exact⟨dY.slots,u.keep b dY q n ab hx⟩
def ho.kept(k:∀b u,h.get? b=some u->h'.get? b=some u):ho aB ex H H h h':=
 ⟨λb dY q _ _ _=>k b dY q,λb dY q _ _ _=>⟨dY.slots,k b dY q⟩,λ_ _ _ n _=>n,λb dY q _=>⟨dY,k b dY q⟩,λ_ _ q=>q,λ_ _ _ q=>q,λ_ ps q=>⟨#[],by rw[q];simp⟩⟩
def ho.refl:ho aB ex H H h h:=ho.kept λ_ _ q=>q
def ho.laid(k:∀b u,h.get? b=some u->h'.get? b=some u)(az:h.objs.size<=a)(aX:H a=none):ho aB ex H (upd H a o) h h' where
 keep:=λb u q _ _ _=>k b u q
 slot:=λb u q _ _ _=>⟨u.slots,k b u q⟩
 free:=λb u q n _=>by rw[cI (ee (gN (cN q) az))];exact n
 there:=λb u q _=>⟨u,k b u q⟩
 qg:=λb xs q=>by rw[cI (iw q aX)];exact q
 oO:=λb u xs q=>by rw[cI (iw q aX)];exact q
 o4:=λb ps q=>⟨#[],by rw[cI (iw q aX),q];simp⟩
def ho.write(lE:vU (H x))(he:e=x\/H e=some (.own x))(k:∀b u,b≠e->h.get? b=some u->h'.get? b=some u)(uy:∃u,h'.get? e=some u):ho aB ex H (upd H x o) h h':=by
 have hx:∀b,H b=none->b≠x:=λb n z=>by subst z;rw[n] at lE;exact lE
 have ab:∀b,H b=none->b≠e:=λb n z=>by
  subst z;rcases he with r|r
  ·exact hx b n r
  ·rw[n] at r;cases r
 have hm:∀b u,H b=some u->¬vU (some u)->b≠x:=λb u q nm z=>by subst z;rw[q] at lE;exact nm lE
 refine⟨λb u q n _ _=>k b u (ab b n) q,λb u q n _ _=>⟨u.slots,k b u (ab b n) q⟩,λb u q n _=>by rw[cI (hx b n)];exact n,λb u q _=>?_,
  λb xs q=>by rw[cI (hm b _ q λz=>z)];exact q,λb u xs q=>by rw[cI (hm b _ q λz=>z)];exact q,λb ps q=>⟨#[],by rw[cI (hm b _ q λz=>z),q];simp⟩⟩
 by_cases sy:b=e
 ·subst sy;exact uy
 ·exact⟨u,k b u sy q⟩
end
def A8(h:bI)(H:aA):List ak:=(List.range h.objs.size).filter λa=>(H a).isSome
def oT(h:bI)(H:aA):bI:=PySem.W.hideAll h (A8 h H)
def ahk(h:bI)(H:aA):(oT h H).objs.size=h.objs.size:=PySem.W.hideAll_size _ _
def aiq{h:bI}{H:aA}{b:ak}{o:Obj}(e:h.get? b=some o)(n:H b=none):(oT h H).get? b=some o:=
 PySem.W.hideAll_get _ e λhm=>by
  have q:(H b).isSome=true:=(List.mem_filter.mp hm).2;rw[n] at q;simp at q
def ajg{h:bI}{H:aA}{b:ak}{o:Obj}(e:(oT h H).get? b=some o):h.get? b=some o/\H b=none:=by
 have bg:h.get? b=some o:=PySem.W.of_hideAll (A8 h H) e;refine⟨bg,?_⟩;cases q:H b with
|none=>rfl
|some x=>
  have hm:b∈A8 h H:=List.mem_filter.mpr ⟨List.mem_range.mpr (cN bg),by simp[q]⟩;have z:(oT h H).get? b=none:=PySem.W.hideAll_none (A8 h H) hm;rw[z] at e;cases e
noncomputable def ajG(g h:bI)(L:ak):List (ak×Obj):=(List.range h.objs.size).filterMap λa=>if a=L\/(g.get? a).isSome=true then none else (h.get? a).map λo=>(a,o)
noncomputable def rest(g h:bI)(L d:ak):List (ak×Obj):=(ajG g h L).filter λp=>decide (p.1≠d)
end bG
namespace bG
open PySem PySem.Spec PyProof.Rows
structure Mod(K:br)(mg:Str->Option ag)(base:bI):Prop where
 uE:K.In base
 glob:base.Ns il mg
 blt:∃mY,base.Ns builtinsNs mY/\∀x:Str,x≠"__name__"->mY x=bootBuiltins x
 nolimit:base.NoLimit
structure bt where
 prog:cE
 w:b8
 K:br
 mg:Str->Option ag
 base:bI
 A:cU
 N:List Str
 dM:aK
 aO:aA
 env:Env
 outer:List Env
 stack:List Env
 ex:List ak
 fn:Str->Bool
 calm:Bool
 eC:List (ak×Obj)
 d3:ag->aK->Prop
def nW(l:List Env):List ak:=l.filterMap (·.frame)
abbrev bt.aB(X:bt):List ak:=nW X.outer
noncomputable def kU(sc:Scope)(x:Str):Prop:=sc.names.lookup x=some .local\/sc.names.lookup x=some .cell\/sc.names.lookup x=some .free
noncomputable def Loc(sc:Scope)(x:Str):Prop:=sc.names.lookup x=some .local\/sc.names.lookup x=some .cell
noncomputable def Look(env:Env)(h:bI)(m:Str->Option ag)(x:Str)(u:ag):Prop:=
 (env.kindOf x=some .local/\m x=some u)\/((env.kindOf x=some .cell\/env.kindOf x=some .free)/\∃c,env.cells.lookup x=some c/\h.IsCell c (some u))
structure bt.Ok(X:bt):Prop where
 mod:Mod X.K X.mg X.base
 kind:X.env.scope.kind=.function
 glob:X.env.globals=il
 blt:X.env.builtins=builtinsNs
 above:X.dM.heap.objs.size<=X.env.locals
 inj:∀x y c,X.env.cells.lookup x=some c->X.env.cells.lookup y=some c->x=y
 has:∀x,(X.env.kindOf x=some .cell\/X.env.kindOf x=some .free)->∃c,X.env.cells.lookup x=some c
 wa:∀x c,X.fn x=true->X.env.cells.lookup x=some c->X.dM.heap.objs.size<=c
 hd:X.calm=true->X.A.handled=none
 frames:X.A.frames=some X.stack
 A2:X.stack=X.outer\/(X.stack=X.env::X.outer/\X.env.frame=some X.env.locals)
 y_:∀b∈X.ex,b≠X.env.locals/\∀x c,X.env.cells.lookup x=some c->c≠b
 bs:∀b o,X.base.get? b=some o->X.dM.heap.get? b=some o/\X.aO b=none
 oJ:X.base.objs.size<=X.dM.heap.objs.size
 amw:∀b o,X.base.get? b=some o->b∉X.ex
 wj:∀b∈X.ex,b∉X.aB
 lx:X.dM.heap.FunFrames X.base X.outer
 p1:∀b∈X.aB,X.aO b=none
structure Inv(X:bt)(ai:List (ak×Obj))(σ:List (Option V))(H:aA)(s:aK):Prop where
 ok:X.Ok
 os:s.os=X.dM.os
 bare:AllBare s.gens
 base:ho X.aB X.ex X.aO H X.dM.heap s.heap
 loc:∃m,s.heap.Ns X.env.locals m/\∀(i:Nat) (x:Str) (v:V),X.N[i]?=some x->σ[i]?=some (some v)->kU X.env.scope x->∃u,RelV v u/\Look X.env s.heap m x u
 cell:∀x c,X.env.cells.lookup x=some c->∃v,s.heap.IsCell c v
 free:H X.env.locals=none
 nV:∀x c,X.env.cells.lookup x=some c->H c=none
 pin:∀p∈X.eC++ai,s.heap.get? p.1=some p.2/\H p.1=none/\p.1≠X.env.locals/\p.1∉X.aB/\∀v,p.2.data≠.cell v
 bT:fA X.prog X.w H s.heap
 len:σ.length=X.N.length
section
variable {X:bt}{ai:List (ak×Obj)}{σ:List (Option V)}{H ah:aA}{s:aK}{h':bI}
def bt.Ok._A(ok:X.Ok){b:ak}{o:Obj}(e:X.base.get? b=some o):b∉X.aB:=λab=>by
 have:=(ok.lx.mem ab).1;rw[e] at this;cases this
theorem Inv.bs(I:Inv X ai σ H s):∀b o,X.base.get? b=some o->s.heap.get? b=some o/\H b=none:=λb o e=>
 ⟨I.base.keep b o (I.ok.bs b o e).1 (I.ok.bs b o e).2 (I.ok._A e) (I.ok.amw b o e),I.base.free b o (I.ok.bs b o e).1 (I.ok.bs b o e).2 (I.ok.amw b o e)⟩
def Inv.gC(I:Inv X ai σ H s):∀b o,X.base.get? b=some o->s.heap.get? b=some o:=λb o e=>(I.bs b o e).1
theorem Inv.mod(I:Inv X ai σ H s):Mod X.K X.mg X.base:=I.ok.mod
def Inv.k2(I:Inv X ai σ H s):X.K.In s.heap:=I.ok.mod.uE.keeps I.gC
theorem Inv.lt(I:Inv X ai σ H s):X.env.locals<s.heap.objs.size:=let ⟨_,aX,_⟩:=I.loc;aX.lt
def Inv.kG(I:Inv X ai σ H s):X.dM.heap.objs.size<=s.heap.objs.size:=hi I.ok.above (Nat.le_of_lt I.lt)
def Inv._C(I:Inv X ai σ H s){a:ak}(h:s.heap.objs.size<=a):a∉X.aB:=λab=>by
 obtain⟨_,o,aE,_⟩:=I.ok.lx.mem ab;exact absurd (gN (cN aE) (hi I.kG h)) (Nat.lt_irrefl _)
def Inv.sf(I:Inv X ai σ H s):∀x c,X.env.cells.lookup x=some c->c≠X.env.locals:=λx c e z=>by
 obtain⟨v,o,aE,hd⟩:=I.cell x c e;obtain⟨m,⟨o',es,ep,kB,sz,_⟩,_⟩:=I.loc;rw[z,kB] at aE;cases aE;rw[sz] at hd;cases hd
theorem Inv.lx(I:Inv X ai σ H s):s.heap.FunFrames X.base X.outer:=by
 have all:∀(l:List Env),(∀b∈nW l,b∈X.aB)->X.dM.heap.FunFrames X.base l->s.heap.FunFrames X.base l:=by
  intro l
  induction l with
  |nil=>intro _ _;trivial
  |cons env r bc=>
   intro aC av;obtain⟨ay,⟨L,o,hf,aX,aE,hd⟩,au⟩:=av;have fI:L∈X.aB:=aC L (by unfold nW;rw[List.filterMap_cons,hf];exact fx);obtain⟨df,e⟩:=I.base.slot L o aE (I.ok.p1 L fI) fI λz=>I.ok.wj L z fI;exact⟨ay,⟨L,_,hf,aX,e,hd⟩,bc (λb ab=>aC b (by unfold nW;rw[List.filterMap_cons,hf];exact dq _ ab)) au⟩
 exact all X.outer (λ_ ab=>ab) I.ok.lx
theorem Inv.stack(I:Inv X ai σ H s):s.heap.FunFrames X.base X.stack:=by
 rcases I.ok.A2 with e|⟨e,hf⟩
 ·rw[e];exact I.lx
 ·rw[e];obtain⟨m,aX,_⟩:=I.loc;refine .cons (by rw[I.ok.kind];decide) hf aX ?_ I.lx;exact Heap.get?_none_of_le (hi I.ok.oJ I.ok.above)
def Inv.A3(I:Inv X ai σ H s):∀b∈nW X.stack,b∈X.env.locals::X.aB:=λb ab=>by
 rcases I.ok.A2 with e|⟨e,hf⟩
 ·rw[e] at ab;exact dq _ ab
 ·rw[e] at ab;unfold nW at ab;rw[List.filterMap_cons,hf] at ab;exact ab
def Inv.OJ(I:Inv X ai σ H s):∀b∈nW X.stack,H b=none:=λb ab=>by
 rcases ct.mp (I.A3 b ab) with e|ab
 ·rw[e];exact I.free
 ·obtain⟨_,o,aE,_⟩:=I.ok.lx.mem ab;exact I.base.free b o aE (I.ok.p1 b ab) λz=>I.ok.wj b z ab
def Inv.step{g':Array GenState}{t':Nat}{d':Drawn}{ch:List ak}(I:Inv X ai σ H s)
  (qW:∀b∈ch,(b∈X.ex\/X.dM.heap.objs.size<=b)/\b≠X.env.locals/\(∀x c,X.env.cells.lookup x=some c->c≠b)/\∀p∈X.eC++ai,p.1≠b)
  (keep:∀b o,b≠X.env.locals->b∉X.aB->b∉ch->s.heap.get? b=some o->H b=none->h'.get? b=some o)
  (slot:∀b o,b≠X.env.locals->b∈X.aB->b∉ch->s.heap.get? b=some o->H b=none->∃df,h'.get? b=some {o with slots:=df}) (free:∀b o,b∉ch->s.heap.get? b=some o->H b=none->ah b=none)
  (there:∀b o,b∉ch->s.heap.get? b=some o->∃o',h'.get? b=some o')
  (qg:∀b xs,H b=some (.tup xs)->ah b=some (.tup xs)) (oO:∀b o u,H b=some (.oN o u)->ah b=some (.oN o u)) (o4:∀b ps,H b=some (.ij ps)->∃more,ah b=some (.ij (ps++more)))
  (ns:∀m,s.heap.Ns X.env.locals m->h'.Ns X.env.locals m) (bT:fA X.prog X.w ah h') (bx:AllBare g'):
  Inv X ai σ ah {s with heap:=h',gens:=g',drawn:=d',toks:=t'}:=by
 have N_:∀b o,X.dM.heap.get? b=some o->b≠X.env.locals:=λb o e=>ee (gN (cN e) I.ok.above);have sS:∀b o,X.dM.heap.get? b=some o->b∉X.ex->b∉ch:=λb o e hx ab=>by
  rcases (qW b ab).1 with z|z
  ·exact hx z
  ·exact absurd (gN (cN e) z) (Nat.lt_irrefl _)
 have cellK:∀x c,X.env.cells.lookup x=some c->∀v,s.heap.IsCell c v->h'.IsCell c v:=λx c e v ⟨o,aE,hd⟩=>by
  have w6:c∉ch:=λz=>(qW c z).2.2.1 x c e rfl;by_cases ar:c∈X.aB
  ·obtain⟨df,q⟩:=slot c o (I.sf x c e) ar w6 aE (I.nV x c e);exact⟨_,q,hd⟩
  ·exact⟨o,keep c o (I.sf x c e) ar w6 aE (I.nV x c e),hd⟩
 refine⟨I.ok,I.os,bx,⟨λb o e n ab hx=>?_,λb o e n ab hx=>?_,λb o e n hx=>?_,λb o e hx=>?_,λb xs e=>qg b xs (I.base.qg b xs e),λb o xs e=>oO b o xs (I.base.oO b o xs e),λb ps e=>?_⟩,?_,λx c e=>?_,?_,λx c e=>?_,λp az=>?_,bT,I.len⟩
 ·exact keep b o (N_ b o e) ab (sS b o e hx) (I.base.keep b o e n ab hx) (I.base.free b o e n hx)
 ·obtain⟨df,ax⟩:=I.base.slot b o e n ab hx;obtain⟨acC,aL⟩:=slot b _ (N_ b o e) ab (sS b o e hx) ax (I.base.free b o e n hx);exact⟨acC,aL⟩
 ·obtain⟨o',ax⟩:=I.base.there b o e hx;exact free b o' (sS b o e hx) ax (I.base.free b o e n hx)
 ·obtain⟨o',ax⟩:=I.base.there b o e hx;exact there b o' (sS b o e hx) ax
 ·obtain⟨iI,ax⟩:=I.base.o4 b ps e;obtain⟨iJ,aL⟩:=o4 b _ ax;exact⟨iI++iJ,by rw[aL,Array.append_assoc]⟩
 ·obtain⟨m,aX,av⟩:=I.loc;refine⟨m,ns m aX,λi x v ax aL e'=>?_⟩;obtain⟨u,r,l⟩:=av i x v ax aL e';refine⟨u,r,?_⟩;rcases l with l|⟨k,c,e,z⟩
  ·exact .inl l
  ·exact .inr ⟨k,c,e,cellK x c e _ z⟩
 ·obtain⟨v,z⟩:=I.cell x c e;exact⟨v,cellK x c e v z⟩
 ·obtain⟨m,⟨o,_,_,aE,_⟩,_⟩:=I.loc;exact free _ o (λz=>(qW _ z).2.1 rfl) aE I.free
 ·obtain⟨v,o,aE,hd⟩:=I.cell x c e;exact free c o (λz=>(qW c z).2.2.1 x c e rfl) aE (I.nV x c e)
 ·obtain⟨e,n,ne,hU,d⟩:=I.pin p az;have w6:p.1∉ch:=λz=>(qW p.1 z).2.2.2 p az rfl;exact⟨keep p.1 p.2 ne hU w6 e n,free p.1 p.2 w6 e n,ne,hU,d⟩
def Inv.un{t':Nat}(I:Inv X ai σ H s)(u:ho X.aB [] H ah s.heap h')(bT:fA X.prog X.w ah h'):Inv X ai σ ah {s with heap:=h',toks:=t'}:=by
 obtain⟨m,⟨o,es,ep,aE,r⟩,_⟩:=id I.loc;obtain⟨df,fI⟩:=u.any aE I.free (by simp);exact I.step (g':=s.gens) (d':=s.drawn) (ch:=[]) (λ_ z=>nomatch z) (λb o _ ab _ e n=>u.keep b o e n ab (by simp)) (λb o _ ab _ e n=>u.slot b o e n ab (by simp)) (λb o _ e n=>u.free b o e n (by simp)) (λb o _ e=>u.there b o e (by simp)) u.qg u.oO u.o4 (λm' hm=>by
  obtain⟨o',i4,EY,kB,cu⟩:=hm;rw[aE] at kB;cases kB;exact⟨_,i4,EY,fI,cu⟩) bT I.bare
def Inv.call{g':Array GenState}{t':Nat}{d':Drawn}{ch:List ak}(I:Inv X ai σ H s)(u:ho (nW X.stack) ch H ah s.heap h')(bT:fA X.prog X.w ah h')(bx:AllBare g')
  (qW:∀b∈ch,(b∈X.ex\/X.dM.heap.objs.size<=b)/\b≠X.env.locals/\(∀x c,X.env.cells.lookup x=some c->c≠b)/\∀p∈X.eC++ai,p.1≠b):
  Inv X ai σ ah {s with heap:=h',gens:=g',drawn:=d',toks:=t'}:=by
 obtain⟨m,⟨o,es,ep,aE,r⟩,_⟩:=id I.loc;obtain⟨df,fI⟩:=u.any aE I.free λz=>(qW _ z).2.1 rfl;exact I.step (ch:=ch) qW (λb o fI ab ar e n=>u.keep b o e n (λz=>(ct.mp (I.A3 b z)).elim fI ab) ar) (λb o _ _ ar e n=>u.any e n ar) (λb o ar e n=>u.free b o e n ar) (λb o ar e=>u.there b o e ar) u.qg u.oO u.o4 (λm' hm=>by
  obtain⟨o',i4,EY,kB,cu⟩:=hm;rw[aE] at kB;cases kB;exact⟨_,i4,EY,fI,cu⟩) bT bx
def Inv.turned{t':Nat}{it:ak}(I:Inv X ai σ H s)(k:∀b o,b≠it->s.heap.get? b=some o->h'.get? b=some o)(aX:H it=none)(fI:it≠X.env.locals)
  (ae:it∈X.ex\/X.dM.heap.objs.size<=it) (aj:∀x c,X.env.cells.lookup x=some c->c≠it) (a8:∀p∈X.eC++ai,p.1≠it):Inv X ai σ H {s with heap:=h',toks:=t'}:=by
 have Ob:∀b u,H b=some u->b≠it:=λb u e z=>by rw[z,aX] at e;cases e
 refine I.step (g':=s.gens) (d':=s.drawn) (ch:=[it]) (λb ab=>?_) (λb o _ _ ar e _=>k b o (λz=>ar (by simp[z])) e) (λb o _ _ ar e _=>⟨o.slots,k b o (λz=>ar (by simp[z])) e⟩) (λ_ _ _ _ n=>n)
  (λb o ar e=>⟨o,k b o (λz=>ar (by simp[z])) e⟩) (λ_ _ e=>e) (λ_ _ _ e=>e) (λb ps e=>⟨#[],by rw[e];simp⟩) (λm hm=>?_) (λb u e=>?_) I.bare
 ·have e:b=it:=by simpa using ab
  subst e;exact⟨ae,fI,aj,a8⟩
 ·obtain⟨o,es,ep,aE,r⟩:=hm;exact⟨o,es,ep,k _ o (Ne.symm fI) aE,r⟩
 ·refine (I.bT b u e).kF (λc v ar q=>k c v ?_ q) (λ_ q=>q) λ_ _ q=>q
  rcases ar with z|z
  ·rw[z];exact Ob b u e
  ·exact Ob c _ z
def Inv.tok(I:Inv X ai σ H s)(t:Nat):Inv X ai σ H {s with toks:=t}:=I.un (h':=s.heap) (t':=t) ho.refl I.bT
theorem Inv.kept{t':Nat}(I:Inv X ai σ H s)(k:∀b u,s.heap.get? b=some u->h'.get? b=some u):Inv X ai σ H {s with heap:=h',toks:=t'}:=I.un (ho.kept k) (I.bT.kept k)
theorem Inv.laid{a:ak}{o:ey}{t':Nat}(I:Inv X ai σ H s)(k:∀b u,s.heap.get? b=some u->h'.get? b=some u)(az:s.heap.objs.size<=a)(new:hv X.prog X.w (upd H a o) h' a o):
  Inv X ai σ (upd H a o) {s with heap:=h',toks:=t'}:=I.un (ho.laid k az (I.bT.fresh az)) (I.bT.laid k az new)
theorem Inv.write{x e:ak}{o:ey}{t':Nat}(I:Inv X ai σ H s)(lE:vU (H x))(he:e=x\/H e=some (.own x))(k:∀b u,b≠e->s.heap.get? b=some u->h'.get? b=some u)(uy:∃u,h'.get? e=some u)
  (new:hv X.prog X.w (upd H x o) h' x o):Inv X ai σ (upd H x o) {s with heap:=h',toks:=t'}:=I.un (ho.write lE he k uy) (I.bT.write lE he k uy new)
def Inv.uO{qb:List (ak×Obj)}(I:Inv X ai σ H s)(h:∀p∈qb,s.heap.get? p.1=some p.2/\H p.1=none/\p.1≠X.env.locals/\p.1∉X.aB/\∀v,p.2.data≠.cell v):Inv X qb σ H s:=
 ⟨I.ok,I.os,I.bare,I.base,I.loc,I.cell,I.free,I.nV,λp az=>(gz.mp az).elim (λz=>I.pin p (List.mem_append_left _ z)) (h p),I.bT,I.len⟩
def RC{N:List Str}(c3:N.Nodup){i j:Nat}{x:Str}(a:N[i]?=some x)(b:N[j]?=some x):i=j:=by
 obtain⟨ae,ax⟩:=gZ.mp a;obtain⟨aj,aL⟩:=gZ.mp b;exact (List.getElem_inj c3).mp (ax.trans aL.symm)
def QD{M:Model}{A:cU}{E:ag->aK->Prop}{i:Nat}{x:Str}{v:V}{u:ag}{Q:Unit->aK->Prop}(I:Inv X ai σ H s)(c3:X.N.Nodup)(ba:X.N[i]?=some x)(hx:Loc X.env.scope x)(r:RelV v u)
  (h:∀s',Inv X ai (σ.set i (some v)) H s'->(∃a,Heap.SameBut a s.heap s'.heap/\(a=X.env.locals\/X.env.cells.lookup x=some a))->Q () s') (hf:X.fn x=true\/X.env.scope.names.lookup x=some .local:=by first|exact .inl rfl|exact .inr rfl|assumption):a6 M A (storeName X.env x u) Q E s:=by
 obtain⟨m,aX,av⟩:=id I.loc;have Yv:(X.env.scope.kind==.class || (X.env.scope.kind==.module && X.env.locals != X.env.globals))=false:=by rw[I.ok.kind];rfl
 have Nv:i<σ.length:=by rw[I.len];exact (gZ.mp ba).1
 have sf:=I.sf;have tracked:∀{a:ak} {h':bI},(∃o,s.heap.get? a=some o/\H a=none)->Heap.SameBut a s.heap h'->fA X.prog X.w H h':=λ{a h'} aq aC b dY e=>by
  obtain⟨_,_,Nq⟩:=aq;refine (I.bT b dY e).kF (λc dv ar q=>(aC.2 c ?_).trans q) (λ_ q=>q) λ_ _ q=>q;rintro rfl;rcases ar with rfl|ar
  ·rw[Nq] at e;cases e
  ·rw[Nq] at ar;cases ar
 rcases hx with ay|ay
 ·refine wpAny_storeName_local ay aX (λh' YS aC=>?_) Yv
  obtain⟨_H,_,_,wK,_⟩:=id aX;refine h _ ⟨I.ok,I.os,I.bare,⟨λb o e n ab hx=>?_,λb o e n ab hx=>?_,I.base.free,λb o e hx=>?_,I.base.qg,I.base.oO,I.base.o4⟩,⟨_,YS,λj y lN ax aL e'=>?_⟩,λy c e=>?_,I.free,I.nV,λp az=>?_,tracked ⟨_H,wK,I.free⟩ aC,by simpa using I.len⟩ ⟨_,aC,.inl rfl⟩
  ·exact (aC.2 b (ee (gN (cN e) I.ok.above))).trans (I.base.keep b o e n ab hx)
  ·obtain⟨df,ax⟩:=I.base.slot b o e n ab hx;exact⟨df,(aC.2 b (ee (gN (cN e) I.ok.above))).trans ax⟩
  ·obtain⟨o',ax⟩:=I.base.there b o e hx;exact⟨o',(aC.2 b (ee (gN (cN e) I.ok.above))).trans ax⟩
  ·by_cases a':j=i
   ·subst a';rw[ba] at ax;cases ax;rw[List.getElem?_set_self Nv] at aL;cases aL;exact⟨u,r,.inl ⟨ay,by simp⟩⟩
   ·rw[List.getElem?_set_ne (Ne.symm a')] at aL;obtain⟨tb,cu,q⟩:=av j y lN ax aL e';refine⟨tb,cu,?_⟩;rcases q with ⟨k,e⟩|⟨k,c,e,z⟩
    ·refine .inl ⟨k,?_⟩
     have:y≠x:=λe=>a' (RC c3 ax (e▸ba));simp[this,e]
    ·exact .inr ⟨k,c,e,z.sameBut aC (sf y c e)⟩
  ·obtain⟨dv,z⟩:=I.cell y c e;exact⟨dv,z.sameBut aC (sf y c e)⟩
  ·obtain⟨e,n,ne,hU,d⟩:=I.pin p az;exact⟨(aC.2 p.1 ne).trans e,n,ne,hU,d⟩
 ·have FN:X.fn x=true:=by
   rcases hf with z|z
   ·exact z
   ·rw[z] at ay;cases ay
  obtain⟨c,ar⟩:=I.ok.has x (.inl ay);obtain⟨dv,z⟩:=I.cell x c ar;refine wpAny_storeName_cell I.ok.kind ay ar z (λh' d9 aC=>?_);obtain⟨hG,ND,YX⟩:=id z;refine h {s with heap:=h'} ⟨I.ok,I.os,I.bare,⟨λb o e n ab hx=>?_,λb o e n ab hx=>?_,I.base.free,λb o e hx=>?_,I.base.qg,I.base.oO,I.base.o4⟩,⟨m,aX.sameBut aC (Ne.symm (sf x c ar)),λj y lN ax aL e'=>?_⟩,λy cA e=>?_,I.free,I.nV,λp az=>?_,tracked ⟨hG,ND,I.nV x c ar⟩ aC,by simpa using I.len⟩ ⟨c,aC,.inr ar⟩
  ·exact (aC.2 b (ee (gN (cN e) (I.ok.wa x c FN ar)))).trans (I.base.keep b o e n ab hx)
  ·obtain⟨df,ax⟩:=I.base.slot b o e n ab hx;exact⟨df,(aC.2 b (ee (gN (cN e) (I.ok.wa x c FN ar)))).trans ax⟩
  ·obtain⟨o',ax⟩:=I.base.there b o e hx;exact⟨o',(aC.2 b (ee (gN (cN e) (I.ok.wa x c FN ar)))).trans ax⟩
  ·by_cases a':j=i
   ·subst a';rw[ba] at ax;cases ax;rw[List.getElem?_set_self Nv] at aL;cases aL;exact⟨u,r,.inr ⟨.inl ay,c,ar,d9⟩⟩
   ·rw[List.getElem?_set_ne (Ne.symm a')] at aL;obtain⟨tb,cu,q⟩:=av j y lN ax aL e';refine⟨tb,cu,?_⟩;rcases q with q|⟨k,cA,e,iv⟩
    ·exact .inl q
    ·refine .inr ⟨k,cA,e,iv.sameBut aC ?_⟩
     rintro rfl;exact a' (RC c3 ax (I.ok.inj _ _ _ e ar▸ba))
  ·by_cases Nh:cA=c
   ·subst Nh;exact⟨_,d9⟩
   ·obtain⟨nc,f9⟩:=I.cell y cA e;exact⟨nc,f9.sameBut aC Nh⟩
  ·obtain⟨e,n,ne,hU,d⟩:=I.pin p az;refine⟨(aC.2 p.1 ?_).trans e,n,ne,hU,d⟩;intro q;rw[q,ND] at e;have d2:hG=p.2:=fc e;exact d dv (by rw[<- d2];exact YX)
def Ru{M:Model}{A:cU}{E:ag->aK->Prop}{i:Nat}{x:Str}{v:V}{u:ag}{Q:Unit->aK->Prop}(I:Inv X ai σ H s)(c3:X.N.Nodup)(ba:X.N[i]?=some x)(hx:Loc X.env.scope x)(r:RelV v u)
  (h:∀s',Inv X ai (σ.set i (some v)) H s'->Q () s') (hf:X.fn x=true\/X.env.scope.names.lookup x=some .local:=by first|exact .inl rfl|exact .inr rfl|assumption):a6 M A (storeName X.env x u) Q E s:=
 QD I c3 ba hx r (λs' vR _=>h s' vR) hf
end
abbrev gU:=ag->Option ak->aA->Prop
abbrev St:=List (Option V)
abbrev dj:=V->aA->Prop
abbrev TE:=St->aA->dj->Prop
abbrev TT:=St->aA->(Bool->aA->Prop)->Prop
abbrev gs:=St->aA->(List V->aA->Prop)->Prop
structure Ends where
 bR:St->aA->Prop
 dB:dj
 gC:St->aA->Prop:=λ_ _=>False
 dO:St->aA->Prop:=λ_ _=>False
abbrev gT:=Ends->St->aA->Prop
noncomputable def hO(X:bt)(ai:List (ak×Obj))(σ:St)(Q:dj)(u:ag)(s':aK):Prop:=∃v ah,Inv X ai σ ah s'/\RelV v u/\Q v ah
noncomputable def yS(X:bt)(ai:List (ak×Obj))(σ:St)(Q:Bool->aA->Prop)(b:Bool)(s':aK):Prop:=∃ah,Inv X ai σ ah s'/\Q b ah
noncomputable def TA(X:bt)(ai:List (ak×Obj))(σ:St)(Q:List V->aA->Prop)(us:List ag)(s':aK):Prop:=∃vs ah,Inv X ai σ ah s'/\Vals vs us/\Q vs ah
noncomputable def r_(X:bt)(ai:List (ak×Obj))(D:Ends)(f:Flow)(s':aK):Prop:=
 match f with
|.next=>∃cj ah,Inv X ai cj ah s'/\D.bR cj ah
|.brk=>∃cj ah,Inv X ai cj ah s'/\D.gC cj ah
|.cont=>∃cj ah,Inv X ai cj ah s'/\D.dO cj ah
|.ret u=>∃v cj ah,Inv X ai cj ah s'/\RelV v u/\D.dB v ah
noncomputable def b3(X:bt)(e:bz)(t:TE):Prop:=
 ∀(ai:List (ak×Obj)) (s:aK) (σ:St) (H:aA) (Q:dj),Inv X ai σ H s->t σ H Q->a6 (bS X.prog X.w) X.A (eval e X.env) (hO X ai σ Q) X.d3 s
noncomputable def jU(X:bt)(e:bz)(t:TT):Prop:=
 ∀(ai:List (ak×Obj)) (s:aK) (σ:St) (H:aA) (Q:Bool->aA->Prop),Inv X ai σ H s->t σ H Q->a6 (bS X.prog X.w) X.A (isTrue e X.env (eval e X.env)) (yS X ai σ Q) X.d3 s
noncomputable def nI(X:bt)(e:bz)(t:TT):Prop:=
 ∀(whole:Sem ag) (ai:List (ak×Obj)) (s:aK) (σ:St) (H:aA) (Q:Bool->aA->Prop),Inv X ai σ H s->t σ H Q->a6 (bS X.prog X.w) X.A (isTrue e X.env whole) (yS X ai σ Q) X.d3 s
def nI.pt{X:bt}{e:bz}{t:TT}(h:nI X e t):jU X e t:=h _
noncomputable def h5(X:bt)(es:List bz)(t:gs):Prop:=
 ∀(pos:Pos) (ai:List (ak×Obj)) (s:aK) (σ:St) (H:aA) (Q:List V->aA->Prop),Inv X ai σ H s->t σ H Q->a6 (bS X.prog X.w) X.A (spliced (c0 pos (bb es X.env))) (TA X ai σ Q) X.d3 s
noncomputable def ko(X:bt)(st:Stmt)(t:gT):Prop:=
 ∀(ai:List (ak×Obj)) (s:aK) (σ:St) (H:aA) (D:Ends),Inv X ai σ H s->t D σ H->a6 (bS X.prog X.w) X.A (exec st X.env) (r_ X ai D) X.d3 s
noncomputable def kp(X:bt)(st:List Stmt)(t:gT):Prop:=
 ∀(ai:List (ak×Obj)) (s:aK) (σ:St) (H:aA) (D:Ends),Inv X ai σ H s->t D σ H->a6 (bS X.prog X.w) X.A (execs st X.env) (r_ X ai D) X.d3 s
def cD{α:Type}{t:Sem α}{Q LM:α->aK->Prop}{M:Model}{A:cU}{E:ag->aK->Prop}{s:aK}(h:a6 M A t Q E s)(gF:∀a s,Q a s->LM a s):a6 M A t LM E s:=gj h gF λ_ _ x=>x
end bG
namespace bG
open PySem PySem.Spec PyProof.Rows
section
variable {X:bt}
def jm(i:Nat):TE:=λσ H Q=>∃v,σ[i]?=some (some v)/\Q v H
def ta(v:V):TE:=λ_ H Q=>Q v H
def aj7{i:Nat}{x:Str}{pos:Pos}(c3:X.N[i]?=some x)(a4:kU X.env.scope x)(hd:(x==("__debug__":Str))=false:=by decide)(ec:(x==("__classdict__":Str))=false:=by decide):b3 X (.Name x pos) (jm i):=by
 intro ai s σ H Q I h;obtain⟨v,e,h⟩:=h;obtain⟨m,aX,av⟩:=I.loc;obtain⟨u,r,l⟩:=av i x v c3 e a4;have fin:hO X ai σ Q u s:=⟨v,H,I,r,h⟩;rcases l with ⟨ay,hm⟩|⟨ay,c,ar,ux⟩
 ·exact wpAny_Name (wpAny_loadName_local I.ok.kind ay aX hm fin) hd
 ·rcases ay with ay|ay
  ·exact wpAny_Name (wpAny_loadName_cell I.ok.kind ay ar ux fin) hd
  ·exact wpAny_Name (wpAny_loadName_free I.ok.kind ay ar ux fin ec) hd
def SR{i j pos}:b3 X (.Constant (.int i) j pos) (ta (.int i)):=λ_ _ _ H _ I h=>wpAny_Constant_int ⟨.int i,H,I.tok _,⟨_,rfl⟩,h⟩
def ak6{b j pos}:b3 X (.Constant (.bool b) j pos) (ta (.c8 b)):=λ_ _ _ H _ I h=>Constant_bool ⟨.c8 b,H,I,rfl,h⟩
def aj_{j pos}:b3 X (.Constant .none j pos) (ta .ff):=λ_ _ _ H _ I h=>Constant_none ⟨.ff,H,I,rfl,h⟩
def aj9{x j pos}:b3 X (.Constant (.str x) j pos) (ta (.str x)):=λ_ _ _ H _ I h=>Calls.Constant_str ⟨.str x,H,I.tok _,⟨_,rfl⟩,h⟩
def eP(X:bt)(x:Str):Prop:=X.env.kindOf x=some .globalImplicit
def KX{E:ag->aK->Prop}{ai:List (ak×Obj)}{s:aK}{σ:St}{H:aA}{x:Str}{u:ag}{pos:Pos}{Q:ag->aK->Prop}(I:Inv X ai σ H s)(bx:eP X x)(hm:X.mg x=some u)(h:Q u s)
  (hd:(x==("__debug__":Str))=false:=by decide):a6 (bS X.prog X.w) X.A (eval (.Name x pos) X.env) Q E s:=
 Calls.Name_function_global I.ok.kind bx (Calls.loadGlobal_global (by rw[I.ok.glob];exact I.mod.glob.keeps I.gC) hm h) hd
def pq{E:ag->aK->Prop}{ai:List (ak×Obj)}{s:aK}{σ:St}{H:aA}{x:Str}{u:ag}{pos:Pos}{Q:ag->aK->Prop}(I:Inv X ai σ H s)(bx:eP X x)(hm:X.mg x=none)(a4:bootBuiltins x=some u)(h:Q u s)
  (aX:x≠"__name__":=by decide) (hd:(x==("__debug__":Str))=false:=by decide):a6 (bS X.prog X.w) X.A (eval (.Name x pos) X.env) Q E s:=by
 obtain⟨mY,ae,aj⟩:=I.mod.blt;exact Calls.Name_function_global I.ok.kind bx (Calls.loadGlobal_builtin (by rw[I.ok.glob];exact I.mod.glob.keeps I.gC) hm (by rw[I.ok.blt];exact ae.keeps I.gC) ((aj x aX).trans a4) h) hd
def R'{x:Str}{v:V}{u:ag}{pos:Pos}(bx:eP X x)(hm:X.mg x=some u)(r:RelV v u)(hd:(x==("__debug__":Str))=false:=by decide):b3 X (.Name x pos) (ta v):=
 λ_ _ _ H _ I h=>KX I bx hm ⟨v,H,I,r,h⟩ hd
variable {a b:bz}{cw dd:TE}{pos:Pos}
noncomputable def vY(X:bt)(op:CmpOp)(a b:bz)(t:TE):Prop:=
 ∀(ai:List (ak×Obj)) (s:aK) (σ:St) (H:aA) (Q:dj),Inv X ai σ H s->t σ H Q ->
  a6 (bS X.prog X.w) X.A (eval a X.env) (λv dc=>a6 (bS X.prog X.w) X.A (eval b X.env) (λu m8=>a6 (bS X.prog X.w) X.A (iQ op v u) (hO X ai σ Q) X.d3 m8) X.d3 dc) X.d3 s
def RD(b:bz){op:CmpOp}(h:op≠.In)(aj:op≠.NotIn):oo op b=false:=by
 have ax:(op==CmpOp.In)=false:=by cases op <;> first|rfl|exact absurd rfl h
 have aL:(op==CmpOp.NotIn)=false:=by cases op <;> first|rfl|exact absurd rfl aj
 cases b <;> simp[oo,ax,aL]
def adE(cw:TE):TE:=λσ H Q=>cw σ H λx H1=>Q (.c8 (decide (x=.ff))) H1
def akJ(cw:TE):TE:=λσ H Q=>cw σ H λx H1=>Q (.c8 (!decide (x=.ff))) H1
def RelV.Oe{x:V}{v:ag}(r:RelV x v):(v==Value.none)=decide (x=.ff):=by
 cases x with
|ff=>cases r;rfl
|c8 _=>cases r;rfl
|int _=>obtain⟨t,rfl⟩:=r;rfl
|str _=>obtain⟨t,rfl⟩:=r;rfl
|sd _=>obtain⟨t,rfl⟩:=r;rfl
|wm _=>obtain⟨t,rfl⟩:=r;rfl
|ref _=>cases r;rfl
|ty _=>cases r;rfl
def akc{j pos'}(aq:b3 X a cw):vY X .Is a (.Constant .none j pos') (adE cw):=by
 intro ai s σ H Q I h;refine cD (aq ai s σ H _ I h) λv s1 ⟨x,H1,bw,bC,aM⟩=>?_;exact Constant_none (is_none_gen ⟨.c8 _,H1,bw,by rw[bC.Oe];rfl,aM⟩)
def Sd{j pos'}(aq:b3 X a cw):vY X .IsNot a (.Constant .none j pos') (akJ cw):=by
 intro ai s σ H Q I h;refine cD (aq ai s σ H _ I h) λv s1 ⟨x,H1,bw,bC,aM⟩=>?_;exact Constant_none (isnot_none_gen ⟨.c8 _,H1,bw,by rw[bC.Oe];rfl,aM⟩)
def IL(t:TE):TT:=λσ H Q=>t σ H λx H1=>∃c,x=.c8 c/\Q c H1
def aka{op:CmpOp}{t:TE}(h:vY X op a b t)(ae:oo op b=false:=by first|exact RD _ (by decide) (by decide)|rfl):b3 X (.Compare a [op] [b] pos) t:=λai s σ H Q I hw=>wpAny_Compare1 (h ai s σ H Q I hw) ae
def K'{op:CmpOp}{t:TE}(h:vY X op a b t)(ae:oo op b=false:=by first|exact RD _ (by decide) (by decide)|rfl):jU X (.Compare a [op] [b] pos) (IL t):=by
 intro ai s σ H Q I hw;refine wpAny_isTrue_Compare1 (cD (h ai s σ H _ I hw) λv s1 ae=>cD ae λu s2 aj=>cD aj λc s3 ⟨x,H1,bw,bC,aM⟩=>?_) ae;obtain⟨d,rfl,q⟩:=aM;cases bC;exact tm ⟨H1,bw,q⟩
def aj3{e:bz}{t:TE}(h:b3 X e t)(he:∀whole,isTrue e X.env whole=(do let v <- whole;standAt e.pos;holding [v] (truthy v)):=by intro _;rfl):jU X e (IL t):=by
 intro ai s σ H Q I hw;refine isTrue_plain (cD (h ai s σ H _ I hw) λv s1 ⟨x,H1,bw,bC,aM⟩=>?_) (he _);obtain⟨d,rfl,q⟩:=aM;cases bC;exact tm ⟨H1,bw,q⟩
variable {m9 A4:TT}{rest:List bz}
def adv(t u:TT):TT:=λσ H Q=>t σ H λc H1=>if c=true then u σ H1 Q else Q false H1
def adH(t u:TT):TT:=λσ H Q=>t σ H λc H1=>if c=true then Q true H1 else u σ H1 Q
def adG(t:TT):TT:=λσ H Q=>t σ H λc H1=>Q (!c) H1
def aiY(aq:jU X a m9):nI X (.BoolOp .And [a] pos) m9:=by
 intro xB ai s σ H Q I h;refine isTrue_and (cD (aq ai s σ H Q I h) λc s1 e=>?_);cases c with
|true=>exact isTrue_and_nil e
|false=>exact e
def ajZ(aq:jU X a m9):nI X (.BoolOp .Or [a] pos) m9:=by
 intro xB ai s σ H Q I h;refine isTrue_or (cD (aq ai s σ H Q I h) λc s1 e=>?_);cases c with
|false=>exact isTrue_or_nil e
|true=>exact e
def aj0(aq:jU X a m9)(ab:nI X (.BoolOp .And (b::rest) pos) A4):nI X (.BoolOp .And (a::b::rest) pos) (adv m9 A4):=by
 intro xB ai s σ H Q I h;refine isTrue_and (cD (aq ai s σ H _ I h) λc s1 ⟨H1,bw,aM⟩=>?_);cases c with
|true=>exact ab xB ai s1 σ H1 Q bw aM
|false=>exact⟨H1,bw,aM⟩
def ak0(aq:jU X a m9)(ab:nI X (.BoolOp .Or (b::rest) pos) A4):nI X (.BoolOp .Or (a::b::rest) pos) (adH m9 A4):=by
 intro xB ai s σ H Q I h;refine isTrue_or (cD (aq ai s σ H _ I h) λc s1 ⟨H1,bw,aM⟩=>?_);cases c with
|true=>exact⟨H1,bw,aM⟩
|false=>exact ab xB ai s1 σ H1 Q bw aM
def aj4(aq:jU X a m9):jU X (.UnaryOp .Not a pos) (adG m9):=by
 intro ai s σ H Q I h;exact isTrue_not (aq ai s σ H (λc H1=>Q (!c) H1) I h)
noncomputable def akQ(cw dd:TE):TE:=λσ H Q=>cw σ H λx H1=>∃c,x=.c8 c/\if c=true then dd σ H1 Q else Q (.c8 false) H1
noncomputable def adI(cw dd:TE):TE:=λσ H Q=>cw σ H λx H1=>∃c,x=.c8 c/\if c=true then Q (.c8 true) H1 else dd σ H1 Q
def SQ{op}{t:TE}(h:b3 X a t):b3 X (.BoolOp op [a] pos) t:=λai s σ H Q I hw=>BoolOp_one (h ai s σ H Q I hw)
def akb(aq:b3 X a cw)(ab:b3 X (.BoolOp .And (b::rest) pos) dd):b3 X (.BoolOp .And (a::b::rest) pos) (akQ cw dd):=by
 intro ai s σ H Q I h;refine BoolOp_and (cD (aq ai s σ H _ I h) λv s1 ⟨x,H1,bw,bC,aM⟩=>?_);obtain⟨c,rfl,aM⟩:=aM;cases bC;refine tm ?_;cases c with
|true=>exact ab ai s1 σ H1 Q bw aM
|false=>exact⟨.c8 false,H1,bw,rfl,aM⟩
def ak4(aq:b3 X a cw)(ab:b3 X (.BoolOp .Or (b::rest) pos) dd):b3 X (.BoolOp .Or (a::b::rest) pos) (adI cw dd):=by
 intro ai s σ H Q I h;refine BoolOp_or (cD (aq ai s σ H _ I h) λv s1 ⟨x,H1,bw,bC,aM⟩=>?_);obtain⟨c,rfl,aM⟩:=aM;cases bC;refine tm ?_;cases c with
|false=>exact ab ai s1 σ H1 Q bw aM
|true=>exact⟨.c8 true,H1,bw,rfl,aM⟩
noncomputable def adC(t:TT)(cw dd:TE):TE:=λσ H Q=>t σ H λc H1=>if c=true then cw σ H1 Q else dd σ H1 Q
def ah7{c:bz}(ar:jU X c m9)(aq:b3 X a cw)(ab:b3 X b dd):b3 X (.IfExp c a b pos) (adC m9 cw dd):=by
 intro ai s σ H Q I h;refine wpAny_IfExp (cD (ar ai s σ H _ I h) λd s1 ⟨H1,bw,aM⟩=>?_);cases d with
|true=>exact aq ai s1 σ H1 Q bw aM
|false=>exact ab ai s1 σ H1 Q bw aM
end
end bG
namespace bG
open PySem PySem.Spec PyProof.Rows
noncomputable def gb(K:br)(H:aA)(a:ak)(xs:List V):Prop:=
 f' H a (.lst xs) \/
  ∃(o:Obj) (its:Array ag) (n:Nat),K.lookup a=some o/\o.cls=.type "list"/\o.dict=none/\o.data=.seq its n/\its.size<=cB/\Vals xs its.toList
noncomputable def c6(K:br)(H:aA)(a:ak)(xs:List V):Prop:=
 f' H a (.tup xs) \/
  ∃(o:Obj) (its:Array ag) (n:Nat),K.lookup a=some o/\o.cls=.type "tuple"/\o.data=.seq its n/\its.size<=cB/\Vals xs its.toList/\o.dict=none
noncomputable def Ve:ag->Option V
|.none=>some .ff
|.bool b=>some (.c8 b)
|.int i _=>some (.int i)
|.str x _=>some (.str x)
|.bytes b _=>some (.sd b)
|.float b _=>some (.wm b)
|.ref a=>some (.ref a)
|.type n=>some (.ty n)
|_=>none
def RelV.abs{x:V}{u:ag}(r:RelV x u):Ve u=some x:=by
 cases x with
|ff=>cases r;rfl
|c8 _=>cases r;rfl
|int _=>obtain⟨t,rfl⟩:=r;rfl
|str _=>obtain⟨t,rfl⟩:=r;rfl
|sd _=>obtain⟨t,rfl⟩:=r;rfl
|wm _=>obtain⟨t,rfl⟩:=r;rfl
|ref _=>cases r;rfl
|ty _=>cases r;rfl
def RelV.inj{x y:V}{u:ag}(r:RelV x u)(q:RelV y u):x=y:=fc (r.abs.symm.trans q.abs)
theorem Vals.inj:∀{xs ys:List V} {us:List ag},Vals xs us->Vals ys us->xs=ys
|_,_,_,.nil,.nil=>rfl
|_,_,_,.cons r t,.cons cu t'=>by rw[r.inj cu,Vals.inj t t']
section
variable {X:bt}{ai:List (ak×Obj)}{σ:St}{H:aA}{s:aK}{a:ak}{xs ys:List V}
def gb.of{K:br}(h:H a=some (.lst xs)):gb K H a xs:=.inl (.inl h)
def c6.of{K:br}(h:H a=some (.tup xs)):c6 K H a xs:=.inl (.inl h)
def Inv.list(I:Inv X ai σ H s)(h:gb X.K H a xs):∃its:List ag,Vals xs its/\PlainL s.heap a its.toArray/\xs.length<=cB:=by
 rcases h with h|⟨o,its,n,ay,ar,hd,aC,hz,r⟩
 ·obtain⟨z,its,n,r,e⟩:=h.ok I.bT;exact⟨its,r,⟨_,n,e,rfl,rfl,rfl⟩,z⟩
 ·refine⟨its.toList,r,⟨o,n,I.k2 a o ay,ar,hd,by simpa using aC⟩,?_⟩
  have e:=r.length;simp only[rp] at e;omega
def Inv.tuple(I:Inv X ai σ H s)(h:c6 X.K H a xs):∃its:List ag,Vals xs its/\IsTup s.heap a its.toArray/\xs.length<=cB:=by
 rcases h with h|⟨o,its,n,ay,ar,aC,hz,r,_⟩
 ·obtain⟨z,its,r,p⟩:=h.ok I.bT;exact⟨its,r,p.tup,z⟩
 ·refine⟨its.toList,r,⟨o,I.k2 a o ay,ar,n,by simpa using aC⟩,?_⟩
  have e:=r.length;simp only[rp] at e;omega
def Inv.adY(I:Inv X ai σ H s)(h:c6 X.K H a xs):∃its:List ag,Vals xs its/\oB s.heap a its.toArray/\xs.length<=cB:=by
 rcases h with h|⟨o,its,n,ay,ar,aC,hz,r,aX⟩
 ·obtain⟨z,its,r,p⟩:=h.ok I.bT;exact⟨its,r,p,z⟩
 ·refine⟨its.toList,r,⟨o,I.k2 a o ay,ar,n,by rw[aC,aX]⟩,?_⟩
  have e:=r.length;simp only[rp] at e;omega
def Inv._m(I:Inv X ai σ H s)(h:gb X.K H a xs)(h':gb X.K H a ys):xs=ys:=by
 obtain⟨its,r,⟨o,n,e,_,_,d⟩,_⟩:=I.list h;obtain⟨its',cu,⟨o',q7,bg,_,_,d'⟩,_⟩:=I.list h';rw[e] at bg;cases bg;rw[d] at d';injection d' with wd _;have:its=its':=by simpa using congrArg Array.toList wd
 subst this;exact r.inj cu
def Inv.IX(I:Inv X ai σ H s)(h:c6 X.K H a xs)(h':c6 X.K H a ys):xs=ys:=by
 obtain⟨its,r,⟨o,e,_,n,d⟩,_⟩:=I.tuple h;obtain⟨its',cu,⟨o',bg,_,q7,d'⟩,_⟩:=I.tuple h';rw[e] at bg;cases bg;rw[d] at d';injection d' with wd _;have:its=its':=by simpa using congrArg Array.toList wd
 subst this;exact r.inj cu
end
abbrev bt.o9(X:bt)(E:ag->aK->Prop):bt:={X with d3:=E}
abbrev bt.kD(X:bt):bt:=X.o9 λ_ _=>False
theorem bt.Ok.o9{X:bt}(ok:X.Ok)(E:ag->aK->Prop):(X.o9 E).Ok:=
 ⟨ok.mod,ok.kind,ok.glob,ok.blt,ok.above,ok.inj,ok.has,ok.wa,ok.hd,ok.frames,ok.A2,ok.y_,ok.bs,ok.oJ,ok.amw,ok.wj,ok.lx,ok.p1⟩
def bt.Ok.ri{X:bt}{E:ag->aK->Prop}(ok:(X.o9 E).Ok):X.Ok:=
 ⟨ok.mod,ok.kind,ok.glob,ok.blt,ok.above,ok.inj,ok.has,ok.wa,ok.hd,ok.frames,ok.A2,ok.y_,ok.bs,ok.oJ,ok.amw,ok.wj,ok.lx,ok.p1⟩
section
variable {X:bt}{ai:List (ak×Obj)}{σ:St}{H:aA}{s:aK}{E:ag->aK->Prop}
theorem Inv.o9(I:Inv X ai σ H s)(E:ag->aK->Prop):Inv (X.o9 E) ai σ H s:=⟨I.ok.o9 E,I.os,I.bare,I.base,I.loc,I.cell,I.free,I.nV,I.pin,I.bT,I.len⟩
theorem Inv.ri(I:Inv (X.o9 E) ai σ H s):Inv X ai σ H s:=⟨I.ok.ri,I.os,I.bare,I.base,I.loc,I.cell,I.free,I.nV,I.pin,I.bT,I.len⟩
theorem r_.ri{D:Ends}{f:Flow}{s':aK}(h:r_ (X.o9 E) ai D f s'):r_ X ai D f s':=by
 cases f with
|next=>obtain⟨cj,ah,I,q⟩:=h;exact⟨cj,ah,I.ri,q⟩
|brk=>obtain⟨cj,ah,I,q⟩:=h;exact⟨cj,ah,I.ri,q⟩
|cont=>obtain⟨cj,ah,I,q⟩:=h;exact⟨cj,ah,I.ri,q⟩
|ret u=>obtain⟨v,cj,ah,I,r,q⟩:=h;exact⟨v,cj,ah,I.ri,r,q⟩
theorem kp.kD{st:List Stmt}{t:gT}(h:kp X.kD st t):kp X st t:=λai s σ H D I hw=>
 gj (h ai s σ H D (I.o9 _) hw) (λ_ _ q=>q.ri) λ_ _ z=>kd z
end
section
variable {X:bt}{st:Stmt}{rest:List Stmt}{t u:gT}{e:bz}{j_:TE}{pos:Pos}
def akK:gT:=λD σ H=>D.bR σ H
def adK(t u:gT):gT:=λD σ H=>t {D with bR:=u D} σ H
def ai2:kp X [] akK:=λ_ _ σ H _ I h=>wpAny_execs_nil ⟨σ,H,I,h⟩
def ah2(ae:ko X st t)(aj:kp X rest u):kp X (st::rest) (adK t u):=by
 intro ai s σ H D I h;refine wpAny_execs_cons (cD (ae ai s σ H {D with bR:=u D} I h) λf s1 q=>?_);cases f with
|next=>
  obtain⟨cj,ah,vR,q⟩:=q;exact aj ai s1 cj ah D vR q
|ret v=>exact q
|brk=>exact q
|cont=>exact q
def ai1(ae:ko X st t):kp X [st] t:=by
 intro ai s σ H D I h;refine wpAny_execs_cons (cD (ae ai s σ H D I h) λf s1 q=>?_);cases f with
|next=>exact wpAny_execs_nil q
|ret v=>exact q
|brk=>exact q
|cont=>exact q
def Inv.quiet{ai:List (ak×Obj)}{σ:St}{H:aA}{s:aK}(I:Inv X ai σ H s):interactive X.env=false:=by simp[interactive,I.ok.kind]
def akM(j_:TE):gT:=λD σ H=>j_ σ H λ_ H1=>D.bR σ H1
def vv(he:b3 X e j_)(aC:iu e none pos.line X.env=pure false:=by rfl):ko X (.Expr e pos) (akM j_):=by
 intro ai s σ H D I h;exact wpAny_Expr_any (cD (he ai s σ H _ I h) λv s1 ⟨x,H1,bw,bC,aM⟩=>⟨σ,H1,bw,aM⟩) I.quiet aC
def adJ(j_:TE):gT:=λD σ H=>j_ σ H D.dB
def La(he:b3 X e j_):ko X (.Return (some e) pos) (adJ j_):=by
 intro ai s σ H D I h;exact wpAny_Return_some (cD (he ai s σ H _ I h) λv s1 ⟨x,H1,bw,bC,aM⟩=>⟨x,σ,H1,bw,bC,aM⟩)
def akI:gT:=λD _ H=>D.dB .ff H
def ai3:ko X (.Return none pos) akI:=λ_ _ σ H _ I h=>wpAny_Return_none ⟨.ff,σ,H,I,rfl,h⟩
noncomputable def adD(c:TT)(t u:gT):gT:=λD σ H=>c σ H λb H1=>if b=true then t D σ H1 else u D σ H1
def ak1{c:bz}{a b:List Stmt}{tc:TT}(ar:jU X c tc)(aq:kp X a t)(ab:kp X b u):ko X (.If c a b pos) (adD tc t u):=by
 intro ai s σ H D I h;refine wpAny_If (cD (ar ai s σ H _ I h) λd s1 ⟨H1,bw,aM⟩=>?_);cases d with
|true=>exact aq ai s1 σ H1 D bw aM
|false=>exact ab ai s1 σ H1 D bw aM
end
abbrev oH:=V->St->aA->(St->aA->Prop)->Prop
abbrev pN:=List V->St->aA->(St->aA->Prop)->Prop
noncomputable def r5(X:bt)(target:bz)(t:oH):Prop:=
 ∀(ai:List (ak×Obj)) (s:aK) (σ:St) (H:aA) (v:V) (u:ag) (Q:St->aA->Prop),Inv X ai σ H s->RelV v u->t v σ H Q ->
  a6 (bS X.prog X.w) X.A (assign target X.env u) (λ_ s'=>∃cj ah,Inv X ai cj ah s'/\Q cj ah) X.d3 s
noncomputable def r6(X:bt)(ts:List bz)(t:pN):Prop:=
 ∀(ai:List (ak×Obj)) (s:aK) (σ:St) (H:aA) (vs:List V) (us:List ag) (Q:St->aA->Prop),Inv X ai σ H s->Vals vs us->t vs σ H Q ->
  a6 (bS X.prog X.w) X.A (assignInOrder ((ql ts X.env).map (·.2)) us) (λ_ s'=>∃cj ah,Inv X ai cj ah s'/\Q cj ah) X.d3 s
section
variable {X:bt}{pos:Pos}
def Tv(i:Nat):oH:=λv σ H Q=>Q (σ.set i (some v)) H
def ai8{i:Nat}{x:Str}(c3:X.N.Nodup)(ba:X.N[i]?=some x)(hx:Loc X.env.scope x)(hf:X.fn x=true\/X.env.scope.names.lookup x=some .local:=by first|exact .inl rfl|exact .inr rfl|assumption):r5 X (.Name x pos) (Tv i):=by
 intro ai s σ H v u Q I r h;exact wpAny_assign_Name (Ru I c3 ba hx r (λs' vR=>⟨_,H,vR,h⟩) hf)
def X1:pN:=λvs σ H Q=>vs=[]/\Q σ H
noncomputable def alc(t:oH)(u:pN):pN:=λvs σ H Q=>∃v r,vs=v::r/\t v σ H λcj ah=>u r cj ah Q
def ai7:r6 X [] X1:=by
 intro ai s σ H vs us Q I r h;obtain⟨e,h⟩:=h;subst e;cases r;exact assignInOrder_nil ⟨σ,H,I,h⟩
def ah6{e:bz}{es:List bz}{t:oH}{u:pN}(ae:r5 X e t)(aj:r6 X es u)
  (aC:(ql (e::es) X.env).map (·.2)=assign e X.env::(ql es X.env).map (·.2):=by rfl):r6 X (e::es) (alc t u):=by
 intro ai s σ H vs us Q I r h;obtain⟨v,IZ,ax,h⟩:=h;subst ax;cases r with
|cons r qd=>
  rw[aC];refine assignInOrder_cons (cD (ae ai s σ H _ _ _ I r h) λ_ s1 ⟨t4,H1,bw,aM⟩=>?_);exact aj ai s1 t4 H1 _ _ Q bw qd aM
noncomputable def X2(K:br)(n:Nat)(t:pN):oH:=λv σ H Q=>∃a xs,v=.ref a/\c6 K H a xs/\xs.length=n/\t xs σ H Q
def aj6{es:List bz}{k:Nat}{t:pN}{n:Nat}(ar:X.calm=true)(h:r6 X es t)
  (aX:(ql es X.env).length=n:=by rfl) (ib:(ql es X.env).findIdx? (·.1)=none:=by rfl):r5 X (.Tuple es k pos) (X2 X.K n t):=by
 intro ai s σ H v u Q I r hw;obtain⟨a,xs,ax,a_,av,hw⟩:=hw;subst ax;cases r;obtain⟨its,bV,bo,hz⟩:=I.tuple a_;refine assign_Tuple_tuple (I.ok.hd ar) bo (by simp[aX,<- av,bV.length]) ib λh' hx=>?_;have bw:Inv X ai σ H {s with heap:=h'}:=I.kept (t':=s.toks) λb o e=>hx b o (ee (cN e)) e;exact h ai _ σ H xs _ Q bw (by simpa using bV) hw
def adw(j_:TE)(g:oH):gT:=λD σ H=>j_ σ H λx H1=>g x σ H1 D.bR
def yq{i:Nat}{x:Str}{e:bz}{j_:TE}{pos':Pos}(c3:X.N.Nodup)(ba:X.N[i]?=some x)(hx:Loc X.env.scope x)(he:b3 X e j_)(aC:iu e (some (.Name x pos')) pos.line X.env=pure false:=by rfl)(hf:X.fn x=true\/X.env.scope.names.lookup x=some .local:=by first|exact .inl rfl|exact .inr rfl|assumption):
  ko X (.Assign [.Name x pos'] e pos) (adw j_ (Tv i)):=by
 intro ai s σ H D I h;refine wpAny_Assign_Name (cD (he ai s σ H _ I h) λv s1 ⟨y,H1,bw,bC,aM⟩=>?_) aC;exact Ru bw c3 ba hx bC (λs2 ck=>⟨_,H1,ck,aM⟩) hf
end
section
variable {X:bt}{pos:Pos}
noncomputable def ajL(c:TT)(dd:gT):gT:=λD σ H=>∃W:Nat->St->aA->Prop,(∃m,W m σ H)/\∀m σ H,W m σ H ->
 c σ H λb H1=>if b=true then ∃N:St->aA->Prop,(∀cj ah,N cj ah->∃m',m'<m/\W m' cj ah)/\dd {D with bR:=N,dO:=N,gC:=D.bR} σ H1 else D.bR σ H1
def ah3{c:bz}{body:List Stmt}{tc:TT}{dd:gT}(az:PassesOwn (bS X.prog X.w) X.A X.env X.d3)(ar:jU X c tc)(ab:kp X body dd):ko X (.While c body [] pos) (ajL tc dd):=by
 intro ai s σ H D I h;obtain⟨W,⟨m0,uX⟩,turn⟩:=h;refine wpAny_While (codeAny_whileLoop (λn s'=>∃cj ah,Inv X ai cj ah s'/\W n cj ah) ?_ m0 ⟨σ,H,I,uX⟩);rintro n s1 ⟨t4,H1,bw,k5⟩;refine wpAny_passesOwn az (cD (ar ai s1 t4 H1 _ bw (turn n t4 H1 k5)) λb s2 ⟨bf,ck,a9⟩=>?_);cases b with
|true=>
  obtain⟨N,c3,a9⟩:=a9;rw[if_pos rfl];refine wpAny_passesOwn az (cD (ab ai s2 t4 bf _ ck a9) λf s3 c5=>?_);cases f with
  |next=>
   obtain⟨km,eQ,dU,md⟩:=c5;obtain⟨m',hm,rj⟩:=c3 km eQ md;exact⟨m',hm,km,eQ,dU,rj⟩
  |cont=>
   obtain⟨km,eQ,dU,md⟩:=c5;obtain⟨m',hm,rj⟩:=c3 km eQ md;exact⟨m',hm,km,eQ,dU,rj⟩
  |brk=>exact c5
  |ret v=>exact c5
|false=>
  rw[if_neg ti];exact wpAny_execs_nil ⟨t4,bf,ck,a9⟩
end
structure l0 where
 go:Nat->aA->Prop
 ot:Nat->aA->V->aA->Prop
 stop:Nat->aA->Prop
noncomputable def hP(X:bt)(ai:List (ak×Obj))(H:aA)(b:ak):Prop:=
 H b=none/\b≠X.env.locals/\b∉X.aB/\(b∈X.ex\/X.dM.heap.objs.size<=b)/\(∀x c,X.env.cells.lookup x=some c->c≠b)/\∀p∈X.eC++ai,p.1≠b
def Inv.uu{X:bt}{ai:List (ak×Obj)}{σ:St}{H ah:aA}{s:aK}{b:ak}(I:Inv X ai σ H s)(ab:s.heap.objs.size<=b)(aX:ah b=none):hP X ai ah b:=by
 refine⟨aX,f5 (gN I.lt ab),I._C ab,.inr (hi I.kG ab),λx c e z=>?_,λp az z=>?_⟩
 ·obtain⟨v,q⟩:=I.cell x c e;exact absurd (gN q.lt (by rw[z];exact ab)) (Nat.lt_irrefl _)
 ·exact absurd (gN (cN (I.pin p az).1) (by rw[z];exact ab)) (Nat.lt_irrefl _)
structure Turn(P:cE)(w:b8)(K:br)(du:bz)(J:l0)(cv:List ak)(it:ak)(gM:Nat->bI->Prop):Prop where
 mem:it∈cv
 obj:∀i h,gM i h->∀b∈cv,∃o,h.get? b=some o/\∀v,o.data≠.cell v
 keep:∀i h h',gM i h->(∀b∈cv,∀o,h.get? b=some o->h'.get? b=some o)->gM i h'
 item:∀(X:bt),X.prog=P->X.w=w->X.K=K->X.calm=true->∀(i:Nat) (ai:List (ak×Obj)) (s:aK) (σ:St) (H:aA) (E:ag->aK->Prop),Inv X ai σ H s->(∀b∈cv,hP X ai H b)->gM i s.heap->J.go i H ->
  a6 (bS P w) X.A (pyNext (.ref it)) (λr s1=>∃u,r=some u /\
   a6 (bS P w) X.A (letOwnedTupleGo du (.ref it) u) (λ_ s2=>∃x ah,Inv X ai σ ah s2/\RelV x u/\J.ot i H x ah/\gM (i+1) s2.heap/\∀b∈cv,ah b=none) E s1) E s
 done:∀(X:bt),X.prog=P->X.w=w->X.K=K->X.calm=true->∀(i:Nat) (ai:List (ak×Obj)) (s:aK) (σ:St) (H:aA) (E:ag->aK->Prop),Inv X ai σ H s->(∀b∈cv,hP X ai H b)->gM i s.heap->J.stop i H ->
  a6 (bS P w) X.A (pyNext (.ref it)) (λr s1=>r=none/\Inv X ai σ H s1) E s
 self:∀(A:cU) (i:Nat) (s:aK) (Q:ag->aK->Prop) (E:ag->aK->Prop),gM i s.heap->Q (.ref it) s->a6 (bS P w) A (pyIter (.ref it)) Q E s
abbrev TI:=St->aA->(l0->aA->Prop)->Prop
noncomputable def LL(X:bt)(ai:List (ak×Obj))(σ:St)(du:bz)(R:l0->aA->Prop)(GJ:ag)(s2:aK):Prop:=
 ∃(it:ak) (cv:List ak) (gM:Nat->bI->Prop) (J:l0) (ah:aA),GJ=.ref it/\Inv X ai σ ah s2/\Turn X.prog X.w X.K du J cv it gM/\gM 0 s2.heap/\(∀b∈cv,hP X ai ah b)/\R J ah
noncomputable def qO(X:bt)(du iter:bz)(qi:TI):Prop:=
 ∀(ai:List (ak×Obj)) (s:aK) (σ:St) (H:aA) (R:l0->aA->Prop),Inv X ai σ H s->qi σ H R ->
  a6 (bS X.prog X.w) X.A (eval iter X.env) (λv s1=>a6 (bS X.prog X.w) X.A (pyIter v) (LL X ai σ du R) X.d3 s1) X.d3 s
def Ll{M:Model}{A:cU}{E:ag->aK->Prop}{s:aK}{du:bz}{it:ak}{u:ag}{o:Obj}{n:String}{vs:Array ag}{Q:Unit->aK->Prop}(aE:s.heap.get? it=some o)(ar:o.cls=.type n)(hd:o.data=.fields vs)
    (aX:["enumerate","zip","dict_itemiterator","dict_reverseitemiterator","odict_iterator","itertools.zip_longest","itertools.pairwise"].contains n=false) (gF:Q () s):a6 M A (letOwnedTupleGo du (.ref it) u) Q E s:=by
  unfold letOwnedTupleGo;cases du <;> first
    |exact cy gF
    | (cases u <;> first
        |exact cy gF
        | (refine aT (wpAny_load aE ?_)
           rw[ar,hd];show a6 M A (if (["enumerate","zip","dict_itemiterator","dict_reverseitemiterator","odict_iterator","itertools.zip_longest","itertools.pairwise"].contains n && vs[0]?==some (gP _))=true then _ else _) Q E s;rw[if_neg (by intro h;rw[aX,Bool.false_and] at h;cases h)];exact cy gF))
noncomputable def C9(K:br)(a:ak):l0:=
 ⟨λi H=>∃xs x,gb K H a xs/\xs[i]?=some x,λi H x ah=>ah=H/\∀xs,gb K H a xs->xs[i]?=some x,λi H=>∃xs,gb K H a xs/\xs.length<=i⟩
noncomputable def C_(K:br)(a:ak):l0:=
 ⟨λi H=>∃xs x,c6 K H a xs/\xs[i]?=some x,λi H x ah=>ah=H/\∀xs,c6 K H a xs->xs[i]?=some x,λi H=>∃xs,c6 K H a xs/\xs.length<=i⟩
noncomputable def yN(lo:Int)(n:Nat):l0:=⟨λi _=>i<n,λi H x ah=>ah=H/\x=.int (lo+i),λi _=>n<=i⟩
def agH{P:cE}{w:b8}{K:br}{du:bz}(a it:ak):Turn P w K du (C9 K a) [it] it (λi h=>h.IsListIter it a i) where
 mem:=by simp
 obj:=λi h st b ab=>by
  have e:b=it:=by simpa using ab
  subst e;obtain⟨o,e,c,d⟩:=st;exact⟨o,e,λv z=>by rw[d] at z;cases z⟩
 keep:=λi h h' st k=>st.at λo e=>k it (by simp) o e
 item:=by
  intro X fJ hw h9 ar i ai s σ H E I hf st bx;subst fJ hw h9;obtain⟨xs,x,a_,hx⟩:=bx;obtain⟨its,bV,p,hz⟩:=I.list a_;obtain⟨u,bH,c_⟩:=bV.get hx;obtain⟨f0,f1,f2,hR,f4,hE⟩:=hf it (by simp);refine wpAny_pyNext_list_item st p.isList (x:=u) (by simpa using bH) λh' mh jk=>?_;have bw:Inv X ai σ H {s with heap:=h'}:=I.turned (t':=s.toks) (λb o ab e=>(jk.2 b ab).trans e) f0 f1 hR f4 hE;obtain⟨o,e,c,d⟩:=id mh;exact⟨u,rfl,Ll (s:={s with heap:=h'}) e c d (by decide) ⟨x,H,bw,c_,⟨rfl,λys aV=>by rw[I._m aV a_];exact hx⟩,mh,λb ab=>(hf b ab).1⟩⟩
 done:=by
  intro X fJ hw h9 ar i ai s σ H E I hf st bx;subst fJ hw h9;obtain⟨xs,a_,hx⟩:=bx;obtain⟨its,bV,p,hz⟩:=I.list a_;obtain⟨f0,f1,f2,hR,f4,hE⟩:=hf it (by simp);have av:=bV.length;exact wpAny_pyNext_list_end (I.ok.hd ar) st p.isList (by simp;omega) λh' dQ=>⟨rfl,I.turned (t':=s.toks) (λb o ab e=>dQ b o ab e) f0 f1 hR f4 hE⟩
 self:=λ_ _ _ _ _ st h=>wpAny_pyIter_listiter st h
def afU{P:cE}{w:b8}{K:br}{du:bz}(a it:ak):Turn P w K du (C_ K a) [it] it (λi h=>h.IsTupleIter it a i) where
 mem:=by simp
 obj:=λi h st b ab=>by
  have e:b=it:=by simpa using ab
  subst e;obtain⟨o,e,c,d⟩:=st;exact⟨o,e,λv z=>by rw[d] at z;cases z⟩
 keep:=λi h h' st k=>st.at λo e=>k it (by simp) o e
 item:=by
  intro X fJ hw h9 ar i ai s σ H E I hf st bx;subst fJ hw h9;obtain⟨xs,x,a_,hx⟩:=bx;obtain⟨its,bV,p,hz⟩:=I.tuple a_;obtain⟨u,bH,c_⟩:=bV.get hx;obtain⟨f0,f1,f2,hR,f4,hE⟩:=hf it (by simp);refine wpAny_pyNext_tuple_item st (show s.heap.IsTuple a its.toArray from p) (x:=u) (by simpa using bH) λh' mh jk=>?_;have bw:Inv X ai σ H {s with heap:=h'}:=I.turned (t':=s.toks) (λb o ab e=>(jk.2 b ab).trans e) f0 f1 hR f4 hE;obtain⟨o,e,c,d⟩:=id mh;exact⟨u,rfl,Ll (s:={s with heap:=h'}) e c d (by decide) ⟨x,H,bw,c_,⟨rfl,λys aV=>by rw[I.IX aV a_];exact hx⟩,mh,λb ab=>(hf b ab).1⟩⟩
 done:=by
  intro X fJ hw h9 ar i ai s σ H E I hf st bx;subst fJ hw h9;obtain⟨xs,a_,hx⟩:=bx;obtain⟨its,bV,p,hz⟩:=I.tuple a_;obtain⟨f0,f1,f2,hR,f4,hE⟩:=hf it (by simp);have av:=bV.length;exact wpAny_pyNext_tuple_end (I.ok.hd ar) st (show s.heap.IsTuple a its.toArray from p) (by simp;omega) λh' dQ=>⟨rfl,I.turned (t':=s.toks) (λb o ab e=>dQ b o ab e) f0 f1 hR f4 hE⟩
 self:=λ_ _ _ _ _ st h=>wpAny_pyIter_tupleiter st h
def afV{P:cE}{w:b8}{K:br}{du:bz}(it:ak)(lo:Int)(n:Nat):Turn P w K du (yN lo n) [it] it (λi h=>IsRangeIter h it (lo+(i:Nat)*1) ((n:Int) - (i:Nat)) 1) where
 mem:=by simp
 obj:=λi h st b ab=>by
  have e:b=it:=by simpa using ab
  subst e;exact⟨_,st,λv z=>by
   have iv:Data.fields _=Data.cell v:=z;cases iv⟩
 keep:=λi h h' st k=>k it (by simp) _ st
 item:=by
  intro X fJ hw h9 ar i ai s σ H E I hf st bx;subst fJ hw h9;obtain⟨f0,f1,f2,hR,f4,hE⟩:=hf it (by simp);have W:=Walks.range (prog:=X.prog) (w:=X.w) (I.ok.hd ar) it lo 1 n;refine W.item i s _ _ bx st λv h' tk a4 mh b'=>?_;obtain⟨t,rfl⟩:=a4;have bw:Inv X ai σ H {s with heap:=h',toks:=tk}:=I.turned (λb o ab e=>b' b o (by simpa using ab) e) f0 f1 hR f4 hE;refine⟨_,rfl,Ll (s:={s with heap:=h',toks:=tk}) (n:="range_iterator") mh rfl rfl (by decide) ⟨.int (lo+i),H,bw,⟨t,?_⟩,⟨rfl,rfl⟩,mh,λb ab=>(hf b ab).1⟩⟩;rw[Int.mul_one]
 done:=by
  intro X fJ hw h9 ar i ai s σ H E I hf st bx;subst fJ hw h9;obtain⟨f0,f1,f2,hR,f4,hE⟩:=hf it (by simp);exact wpAny_pyNext_range_end (I.ok.hd ar) st (by have:n<=i:=bx;omega) λh' dQ=>⟨rfl,I.turned (t':=s.toks) (λb o ab e=>dQ b o ab e) f0 f1 hR f4 hE⟩
 self:=λ_ _ _ _ _ st h=>wpAny_pyIter_rangeiter st h
end bG
namespace bG
open PySem PySem.Spec PyProof.Rows
section
variable {X:bt}{du:bz}
def ahV{ai:List (ak×Obj)}{σ:St}{H:aA}{s:aK}{R:l0->aA->Prop}{E:ag->aK->Prop}{lo ba:Int}{t u v:Tok}{tk:Nat}(I:Inv X ai σ H s)(ae:-(2 ^ 62)<=lo)(aj:lo<2 ^ 62)(a8:-(2 ^ 62)<=ba)(b9:ba<2 ^ 62)
  (q:R (yN lo (ba - lo).toNat) H):a6 (bS X.prog X.w) X.A (pyIter (.ref s.heap.objs.size)) (LL X ai σ du R) E {s with heap:=s.heap.push {cls:=.type "range",data:=.fields #[.int lo t,.int ba u,.int 1 v]},toks:=tk}:=by
 refine wpAny_pyIter_range (IsRange.new ..) (small_one ae aj a8 b9) ?_
 have bw:Inv X ai σ H {s with heap:=s.heap.push {cls:=.type "range",data:=.fields #[.int lo t,.int ba u,.int 1 v]},toks:=tk}:=I.kept λb o e=>cT _ e;refine⟨(s.heap.push {cls:=.type "range",data:=.fields #[.int lo t,.int ba u,.int 1 v]}).objs.size,[(s.heap.push {cls:=.type "range",data:=.fields #[.int lo t,.int ba u,.int 1 v]}).objs.size],_,_,H,rfl,
  bw.kept (t':=tk) λb o e=>cT _ e,afV _ lo (ba - lo).toNat,?_,λb ab=>?_,q⟩
 ·have ax:lo+((0:Nat):Int)*1=lo:=by simp
  have aL:(((ba - lo).toNat:Nat):Int) - ((0:Nat):Int)=Builtin.Range.rangeSize lo ba 1:=by rw[rangeSize_one];split <;> omega
  show IsRangeIter _ _ (lo+((0:Nat):Int)*1) ((((ba - lo).toNat:Nat):Int) - ((0:Nat):Int)) 1
  rw[ax,aL];exact fy _ rfl
 ·have e:b=(s.heap.push {cls:=.type "range",data:=.fields #[.int lo t,.int ba u,.int 1 v]}).objs.size:=by simpa using ab
  subst e;exact bw.uu (dw _) (bw.bT.fresh (dw _))
noncomputable def ala(cw:gs):TI:=λσ H R=>cw σ H λvs H1=>∃j:Int,vs=[.int j]/\-(2 ^ 62)<=j/\j<2 ^ 62/\R (yN 0 j.toNat) H1
def agX{a:bz}{cw:gs}{p pos:Pos}(bx:eP X "range")(hm:X.mg "range"=none)(aq:h5 X [a] cw)(aC:bb [a] X.env=[(false,eval a X.env)]:=by rfl):qO X du (.Call (.Name "range" p) [a] [] pos) (ala cw):=by
 intro ai s σ H R I h;refine Call_ (pq I bx hm boot_range (amg (cD (aq pos ai s σ H _ I h) λus s1 ⟨vs,H1,bw,bC,aM⟩=>?_) aC rfl));obtain⟨j,e,aM,a9,q⟩:=aM;subst e;cases bC with
|cons r qd=>
  cases qd
  obtain⟨t,rfl⟩:=r;exact call_range_1 (ahV bw (by omega) (by omega) aM a9 (by simpa using q))
noncomputable def adA(qi:TI)(g:oH)(dd:gT):gT:=λD σ H=>qi σ H λJ H1=>∃W:Nat->Nat->St->aA->Prop,(∃m,W 0 m σ H1)/\∀i m σ H,W i m σ H ->
 (J.stop i H/\D.bR σ H)\/(J.go i H/\∃N:St->aA->Prop,(∀cj ah,N cj ah->∃m',m'<m/\W (i+1) m' cj ah)/\∀x ah,J.ot i H x ah->g x σ ah λyI bf=>dd {D with bR:=N,dO:=N,gC:=D.bR} yI bf)
noncomputable def amB(cv:List ak)(h:bI):List (ak×Obj):=cv.filterMap λb=>(h.get? b).map λo=>(b,o)
def BQ{cv:List ak}{h:bI}{b:ak}{o:Obj}(ab:b∈cv)(e:h.get? b=some o):(b,o)∈amB cv h:=List.mem_filterMap.mpr ⟨b,ab,by rw[e];rfl⟩
def ag5{cv:List ak}{h:bI}{p:ak×Obj}(az:p∈amB cv h):p.1∈cv/\h.get? p.1=some p.2:=by
 obtain⟨b,ab,e⟩:=List.mem_filterMap.mp az;cases q:h.get? b with
|none=>rw[q] at e;cases e
|some o=>
  rw[q] at e;have bg:(b,o)=p:=fc e;subst bg;exact⟨ab,q⟩
def Inv.pinned{ai:List (ak×Obj)}{σ:St}{H:aA}{s:aK}{cv:List ak}(I:Inv X ai σ H s)(hf:∀b∈cv,hP X ai H b)(aE:∀b∈cv,∃o,s.heap.get? b=some o/\∀v,o.data≠.cell v):Inv X (ai++amB cv s.heap) σ H s:=
 I.uO λp az=>(gz.mp az).elim (λz=>I.pin p (iM _ z)) λz=>by
  obtain⟨ab,e⟩:=ag5 z;obtain⟨f0,f1,f2,_⟩:=hf p.1 ab;obtain⟨o,bg,d⟩:=aE p.1 ab;rw[e] at bg;cases bg;exact⟨e,f0,f1,f2,d⟩
def Inv.A_{ai pl:List (ak×Obj)}{σ:St}{H:aA}{s:aK}(I:Inv X (ai++pl) σ H s):Inv X ai σ H s:=I.uO λp az=>I.pin p (iM _ (List.mem_append_left _ az))
def aj5{iter:bz}{body:List Stmt}{qi:TI}{g:oH}{dd:gT}{pos:Pos}(az:PassesOwn (bS X.prog X.w) X.A X.env X.d3)(ar:X.calm=true)(ba:qO X du iter qi)(bx:r5 X du g)(ab:kp X body dd)
  (aC:∀x,u7 iter X.env x=pure x:=by intro _;rfl):ko X (.For du iter body [] pos) (adA qi g dd):=by
 intro ai s σ H D I h;refine wpAny_For (cD (ba ai s σ H _ I h) λv s1 ae=>cD ae λGJ s2 aj=>?_) aC;obtain⟨it,cv,gM,J,bf,e,ck,T,j9,f2,W,⟨m0,uX⟩,turn⟩:=aj;subst e;have s6:∀{ah:aA},(∀b∈cv,ah b=none)->∀b∈cv,hP X ai ah b:=λaX b ab=>⟨aX b ab,(f2 b ab).2⟩;refine codeAny_forLoop_any (λn s'=>∃i cj ah,Inv X ai cj ah s'/\gM i s'.heap/\(∀b∈cv,ah b=none)/\W i n cj ah) ?_ m0 ⟨0,σ,bf,ck,j9,λb ab=>(f2 b ab).1,uX⟩;rintro n s3 ⟨i,km,eQ,dU,amx,wo,rj⟩;rcases turn i n km eQ rj with ⟨stop,xg⟩|⟨go,N,c3,step⟩
 ·refine wpAny_passesOwn az (cD (T.done X rfl rfl rfl ar i ai s3 km eQ X.d3 dU (s6 wo) amx stop) λr s4 ⟨au,nD⟩=>?_)
  subst au;exact wpAny_execs_nil ⟨km,eQ,nD,xg⟩
 ·refine wpAny_passesOwn az (cD (T.item X rfl rfl rfl ar i ai s3 km eQ X.d3 dU (s6 wo) amx go) λr s4 ⟨u,au,b9⟩=>?_)
  subst au;refine wpAny_passesOwn az (cD b9 λ_ s5 ⟨x,kR,rZ,xh,I4,sZ,Fm⟩=>?_);have C5:=rZ.pinned (s6 Fm) (T.obj _ _ sZ);refine wpAny_passesOwn az (cD (bx _ s5 km kR x u _ C5 xh (step x kR I4)) λ_ kE ⟨pB,t6,vS,rd⟩=>?_);refine wpAny_passesOwn az (cD (ab _ kE pB t6 _ vS rd) λf hc rf=>?_);have again:∀{ll:St} {hy:aA},Inv X (ai++amB cv s5.heap) ll hy hc->N ll hy->∃m,m<n/\∃i cj ah,Inv X ai cj ah hc/\gM i hc.heap/\(∀b∈cv,ah b=none)/\W i m cj ah:=λ{ll hy} ju sQ=>by
   obtain⟨m',hm,w7⟩:=c3 ll hy sQ;refine⟨m',hm,i+1,ll,hy,ju.A_,T.keep _ _ _ sZ λb ab o e=>(ju.pin (b,o) (iM _ (iM _ (BQ ab e)))).1,λb ab=>?_,w7⟩;obtain⟨o,e,d⟩:=T.obj _ _ sZ b ab;exact (ju.pin (b,o) (iM _ (iM _ (BQ ab e)))).2.1
  cases f with
  |next=>obtain⟨ll,hy,ju,sQ⟩:=rf;exact again ju sQ
  |cont=>obtain⟨ll,hy,ju,sQ⟩:=rf;exact again ju sQ
  |brk=>obtain⟨ll,hy,ju,rf⟩:=rf;exact⟨ll,hy,ju.A_,rf⟩
  |ret v=>obtain⟨uY,ll,hy,ju,oZ,rf⟩:=rf;exact⟨uY,ll,hy,ju.A_,oZ,rf⟩
end
end bG
namespace bG
open PySem PySem.Spec PyProof.Rows
abbrev hn:=V->V->aA->dj->Prop
noncomputable def fp(X:bt)(f:ag->ag->Sem ag)(r:hn):Prop:=
 ∀(ai:List (ak×Obj)) (s:aK) (σ:St) (H:aA) (x y:V) (v u:ag) (Q:dj),Inv X ai σ H s->RelV x v->RelV y u->r x y H Q ->
  a6 (bS X.prog X.w) X.A (f v u) (hO X ai σ Q) X.d3 s
noncomputable def Dg(X:bt)(f:ag->Sem ag)(r:V->aA->dj->Prop):Prop:=
 ∀(ai:List (ak×Obj)) (s:aK) (σ:St) (H:aA) (x:V) (v:ag) (Q:dj),Inv X ai σ H s->RelV x v->r x H Q ->
  a6 (bS X.prog X.w) X.A (f v) (hO X ai σ Q) X.d3 s
noncomputable def kO(X:bt)(f:ag)(r:List V->aA->dj->Prop):Prop:=
 ∀(ai:List (ak×Obj)) (s:aK) (σ:St) (H:aA) (xs:List V) (us:List ag) (Q:dj),Inv X ai σ H s->Vals xs us->r xs H Q ->
  a6 (bS X.prog X.w) X.A (call f us) (hO X ai σ Q) X.d3 s
noncomputable def Vd(X:bt)(r:V->aA->(Bool->aA->Prop)->Prop):Prop:=
 ∀(ai:List (ak×Obj)) (s:aK) (σ:St) (H:aA) (x:V) (v:ag) (Q:Bool->aA->Prop),Inv X ai σ H s->RelV x v->r x H Q ->
  a6 (bS X.prog X.w) X.A (truthy v) (yS X ai σ Q) X.d3 s
def xv(r:hn)(cw dd:TE):TE:=λσ H Q=>cw σ H λx H1=>dd σ H1 λy bf=>r x y bf Q
def adM(r:V->aA->dj->Prop)(cw:TE):TE:=λσ H Q=>cw σ H λx H1=>r x H1 Q
noncomputable def AN(C:Int->Int->Prop)(g:Int->Int->V):hn:=λx y H Q=>∃i j,x=.int i/\y=.int j/\C i j/\Q (g i j) H
def m3(g:Int->Int->V):hn:=λx y H Q=>∃i j,x=.int i/\y=.int j/\Q (g i j) H
def Ox(g:Int->V):V->aA->dj->Prop:=λx H Q=>∃i,x=.int i/\Q (g i) H
section
variable {X:bt}{a b c:bz}{cw dd tc:TE}{pos:Pos}
def D2(aq:b3 X a cw)(ab:b3 X b dd){ai:List (ak×Obj)}{s:aK}{σ:St}{H:aA}{R:V->V->aA->Prop}(I:Inv X ai σ H s)
  (h:cw σ H λx H1=>dd σ H1 λy bf=>R x y bf) {Q:ag->aK->Prop} {f:ag->ag->Sem ag}
  (hf:∀v u s2 x y bf,Inv X ai σ bf s2->RelV x v->RelV y u->R x y bf->a6 (bS X.prog X.w) X.A (f v u) Q X.d3 s2):
  a6 (bS X.prog X.w) X.A (eval a X.env) (λv dc=>a6 (bS X.prog X.w) X.A (eval b X.env) (λu m8=>a6 (bS X.prog X.w) X.A (f v u) Q X.d3 m8) X.d3 dc) X.d3 s:=by
 refine cD (aq ai s σ H _ I h) λv s1 ⟨x,H1,bw,bC,aM⟩=>?_
 refine cD (ab ai s1 σ H1 _ bw aM) λu s2 ⟨y,bf,ck,b7,a9⟩=>?_
 exact hf v u s2 x y bf ck bC b7 a9
def yB{op:Operator}{r:hn}(aE:fp X (oq op) r)(aq:b3 X a cw)(ab:b3 X b dd):b3 X (.BinOp a op b pos) (xv r cw dd):=by
 intro ai s σ H Q I h;exact wpAny_BinOp (D2 aq ab I h λv u s2 x y bf ck aY bO q=>aE ai s2 σ bf x y v u Q ck aY bO q)
def ak3{op:UnaryOp}{r:V->aA->dj->Prop}(aE:Dg X (unaryOp op) r)(aq:b3 X a cw):b3 X (.UnaryOp op a pos) (adM r cw):=by
 intro ai s σ H Q I h;exact UnaryOp_ (cD (aq ai s σ H _ I h) λv s1 ⟨x,H1,bw,bC,aM⟩=>aE ai s1 σ H1 x v Q bw bC aM)
def Ik{f:ag->ag->Sem ag}{C:Int->Int->Prop}{g:Int->Int->Int}
  (rule:∀(i j:Int) (t u:Tok) (s:aK) (Q:ag->aK->Prop) (E:ag->aK->Prop),C i j->Q (.int (g i j) s.toks) {s with toks:=s.toks+1}->a6 (bS X.prog X.w) X.A (f (.int i t) (.int j u)) Q E s):
  fp X f (AN C λi j=>.int (g i j)):=by
 intro ai s σ H x y v u Q I aY bO h;obtain⟨i,j,rfl,rfl,ar,q⟩:=h;obtain⟨t,rfl⟩:=aY;obtain⟨t',rfl⟩:=bO;exact rule i j t t' s _ _ ar ⟨.int (g i j),H,I.tok _,⟨_,rfl⟩,q⟩
def Oj{f:ag->ag->Sem ag}{g:Int->Int->Int}
  (rule:∀(i j:Int) (t u:Tok) (s:aK) (Q:ag->aK->Prop) (E:ag->aK->Prop),Q (.int (g i j) s.toks) {s with toks:=s.toks+1}->a6 (bS X.prog X.w) X.A (f (.int i t) (.int j u)) Q E s):
  fp X f (m3 λi j=>.int (g i j)):=by
 intro ai s σ H x y v u Q I aY bO h;obtain⟨i,j,rfl,rfl,q⟩:=h;obtain⟨t,rfl⟩:=aY;obtain⟨t',rfl⟩:=bO;exact rule i j t t' s _ _ ⟨.int (g i j),H,I.tok _,⟨_,rfl⟩,q⟩
def AJ{f:ag->ag->Sem ag}{g:Int->Int->Bool}
  (rule:∀(i j:Int) (t u:Tok) (s:aK) (Q:ag->aK->Prop) (E:ag->aK->Prop),Q (.bool (g i j)) s->a6 (bS X.prog X.w) X.A (f (.int i t) (.int j u)) Q E s):
  fp X f (m3 λi j=>.c8 (g i j)):=by
 intro ai s σ H x y v u Q I aY bO h;obtain⟨i,j,rfl,rfl,q⟩:=h;obtain⟨t,rfl⟩:=aY;obtain⟨t',rfl⟩:=bO;exact rule i j t t' s _ _ ⟨.c8 (g i j),H,I,rfl,q⟩
def TF(i j:Int):Prop:=0<j/\j<1073741824
def yJ(i j:Int):Prop:=(-(2 ^ 64)<i/\i<2 ^ 64)\/(-(2 ^ 64)<j/\j<2 ^ 64)
def yJ.ok{i j:Int}(h:yJ i j):IntMulOk i j:=by
 rcases h with ⟨ae,aj⟩|⟨ae,aj⟩
 ·exact .of_left (intBits_le_64 ae aj)
 ·exact .of_right (intBits_le_64 ae aj)
def akg:fp X (oq .Add) (m3 λi j=>.int (i+j)):=Oj λ_ _ _ _ _ _ _ q=>add_int q
def akd:fp X (oq .Sub) (m3 λi j=>.int (i - j)):=Oj λ_ _ _ _ _ _ _ q=>sub_int q
def ake:fp X (oq .Mult) (AN yJ λi j=>.int (i*j)):=Ik λ_ _ _ _ _ _ _ ar q=>mul_int q ar.ok
def ajb:fp X (oq .FloorDiv) (AN TF λi j=>.int (i / j)):=Ik λi j _ _ _ _ _ ar q=>by
 have ae:(0:Int)<j:=ar.1;have aj:j<1073741824:=ar.2;exact floordiv_int (by omega) (by rw[Int.fdiv_eq_ediv_of_nonneg i (by omega)];exact q) (.inl (PyProof.noPylong_small (by omega)))
def akf:fp X (oq .Mod) (AN (λ_ j=>0<j) λi j=>.int (i % j)):=Ik λi j _ _ _ _ _ ar q=>by
 have ae:(0:Int)<j:=ar;exact mod_int' (by omega) (by rw[Int.fmod_eq_emod_of_nonneg i (by omega)];exact q)
def ad6{f:ag->Sem ag}{g:Int->Int}
  (rule:∀(i:Int) (t:Tok) (s:aK) (Q:ag->aK->Prop) (E:ag->aK->Prop),Q (.int (g i) s.toks) {s with toks:=s.toks+1}->a6 (bS X.prog X.w) X.A (f (.int i t)) Q E s):
  Dg X f (Ox λi=>.int (g i)):=by
 intro ai s σ H x v Q I aY h;obtain⟨i,rfl,q⟩:=h;obtain⟨t,rfl⟩:=aY;exact rule i t s _ _ ⟨.int (g i),H,I.tok _,⟨_,rfl⟩,q⟩
def ajI:Dg X (unaryOp .USub) (Ox λi=>.int (-i)):=ad6 λ_ _ _ _ _ q=>neg_int q
end
section
variable {X:bt}{a b c:bz}{cw dd tc:TE}{pos:Pos}
def CJ{ai:List (ak×Obj)}{σ:St}{H:aA}{s:aK}{Q:dj}{k jc:Bool}(I:Inv X ai σ H s)(q:Q (.c8 k) H)(e:k=jc):hO X ai σ Q (.bool jc) s:=by
 subst e;exact⟨.c8 k,H,I,rfl,q⟩
def Tt:fp X (iQ .Lt) (m3 λi j=>.c8 (decide (i<j))):=AJ λ_ _ _ _ _ _ _ q=>lt_int q
def yC:fp X (iQ .LtE) (m3 λi j=>.c8 (decide (i<=j))):=AJ λ_ _ _ _ _ _ _ q=>le_int q
def ak7:fp X (iQ .Gt) (m3 λi j=>.c8 (decide (j<i))):=AJ λ_ _ _ _ _ _ _ q=>gt_int q
def Lk:fp X (iQ .GtE) (m3 λi j=>.c8 (decide (j<=i))):=AJ λ_ _ _ _ _ _ _ q=>ge_int q
def QO:fp X (iQ .Lt) (λx y H Q=>∃i j,x=.str i/\y=.str j/\Q (.c8 (decide (i.cps.toList<j.cps.toList))) H):=by
 intro ai s σ H x y v u Q I aY bO h;obtain⟨i,j,rfl,rfl,q⟩:=h;obtain⟨t,rfl⟩:=aY;obtain⟨t',rfl⟩:=bO;exact lt_str (CJ I q rfl)
def fp.or{f:ag->ag->Sem ag}{r cu:hn}(h:fp X f r)(h':fp X f cu):fp X f (λx y H Q=>r x y H Q\/cu x y H Q):=by
 intro ai s σ H x y v u Q I aY bO q;rcases q with q|q
 ·exact h ai s σ H x y v u Q I aY bO q
 ·exact h' ai s σ H x y v u Q I aY bO q
def S1(b:bz){op:CmpOp}(h:op≠.In:=by decide)(aj:op≠.NotIn:=by decide):oo op b=false:=by
 have ax:(op==CmpOp.In)=false:=by cases op <;> first|rfl|exact absurd rfl h
 have aL:(op==CmpOp.NotIn)=false:=by cases op <;> first|rfl|exact absurd rfl aj
 cases b <;> simp[oo,ax,aL]
def ai'{op:CmpOp}{r:hn}(aE:fp X (iQ op) r)(aq:b3 X a cw)(ab:b3 X b dd)(hm:oo op b=false):b3 X (.Compare a [op] [b] pos) (xv r cw dd):=by
 intro ai s σ H Q I h;exact wpAny_Compare1 (D2 aq ab I h λv u s2 x y bf ck aY bO q=>aE ai s2 σ bf x y v u Q ck aY bO q) hm
def akG(t:TE):TT:=λσ H Q=>t σ H λx ah=>∃k,x=.c8 k/\Q k ah
def ai0{op:CmpOp}{r:hn}(aE:fp X (iQ op) r)(aq:b3 X a cw)(ab:b3 X b dd)(hm:oo op b=false):jU X (.Compare a [op] [b] pos) (akG (xv r cw dd)):=by
 intro ai s σ H Q I h;refine wpAny_isTrue_Compare1 (cD (aq ai s σ H _ I h) λv s1 ⟨x,H1,bw,bC,aM⟩=>cD (ab ai s1 σ H1 _ bw aM) λu s2 ⟨y,bf,ck,b7,a9⟩=>
  cD (aE ai s2 σ bf x y v u _ ck bC b7 a9) λc s3 ⟨z,eQ,dU,iK,k,e,c5⟩=>?_) hm
 subst e;cases iK;exact tm ⟨eQ,dU,c5⟩
noncomputable def LN(K:br)(x:V)(H:aA)(k:Bool):Prop:=
 match x with
|.ff=>k=false
|.c8 b=>k=b
|.int i=>k=(i != 0)
|.str y=>y.length<=cB/\k=((y.length:Int) != 0)
|.sd y=>y.size<=cB/\k=((y.size:Int) != 0)
|.ref p=>(∃xs,gb K H p xs/\k=!xs.isEmpty)\/(∃xs,c6 K H p xs/\k=!xs.isEmpty)\/∃kvs,H p=some (.dP kvs)/\k=!kvs.isEmpty
|_=>False
def agd{eY:Type}{kvs:List (eY×V)}{vs:List (eY×ag)}(r:fB kvs vs):(!vs.isEmpty)=!kvs.isEmpty:=by
 cases r <;> rfl
def Qo{xs:List V}{its:List ag}(r:Vals xs its):(!its.toArray.isEmpty)=!xs.isEmpty:=by
 cases r <;> simp
def vG:(cB:Nat)<2 ^ 63:=by rw[h1];decide
def ajJ:Vd X (λx H Q=>∃k,LN X.K x H k/\Q k H):=by
 intro ai s σ H x v Q I aY h;obtain⟨k,e,q⟩:=h;have av:=vG;have aC:cB=16777216:=h1;cases x with
|ff=>
  cases aY
  have bg:k=false:=e;subst bg;exact truthy_none ⟨H,I,q⟩
|c8 b=>
  cases aY
  have bg:k=b:=e;subst bg;exact tm ⟨H,I,q⟩
|int i=>
  obtain⟨t,rfl⟩:=aY;have bg:k=(i != 0):=e;subst bg;exact PySem.P.truthy_int ⟨H,I,q⟩
|str y=>
  obtain⟨t,rfl⟩:=aY;obtain⟨aV,bg⟩:y.length<=cB/\k=((y.length:Int) != 0):=e;subst bg;exact PySem.P.truthy_str (by omega) ⟨H,I.tok _,q⟩
|sd y=>
  obtain⟨t,rfl⟩:=aY;obtain⟨aV,bg⟩:y.size<=cB/\k=((y.size:Int) != 0):=e;subst bg;exact PySem.W.truthy_bytes (by omega) ⟨H,I.tok _,q⟩
|ref p=>
  cases aY
  have bg:(∃xs,gb X.K H p xs/\k=!xs.isEmpty)\/(∃xs,c6 X.K H p xs/\k=!xs.isEmpty)\/∃kvs,H p=some (.dP kvs)/\k=!kvs.isEmpty:=e;rcases bg with ⟨xs,hx,bg⟩|⟨xs,hx,bg⟩|⟨kvs,hx,bg⟩
  ·subst bg;obtain⟨its,r,pl,hz⟩:=I.list hx;have hlen:=r.length;exact wpAny_truthy_list pl.isList (by simp only[eo];omega) ⟨H,I.tok _,by rw[Qo r];exact q⟩
  ·subst bg;obtain⟨its,r,pl,hz⟩:=I.tuple hx;have hlen:=r.length;exact truthy_tuple pl (by simp only[eo];omega) ⟨H,I.tok _,by rw[Qo r];exact q⟩
  ·subst bg;obtain⟨hz,c9,vs,r,m⟩:kvs.length<=cB/\(p==sysModules)=false/\∃vs,fB kvs vs/\s.heap.DictOf (fM X.prog X.w) p vs:=I.bT p _ hx;have hlen:kvs.length=vs.length:=Paired.length r;exact wpAny_truthy_dict c9 m (by omega) ⟨H,I.tok _,by rw[agd r];exact q⟩
|_=>exact (show False from e).elim
def ah1(aq:b3 X a cw)(he:∀whole,isTrue a X.env whole=(do let v <- whole;standAt a.pos;holding [v] (truthy v))):
  jU X a (λσ H Q=>cw σ H λx ah=>∃k,LN X.K x ah k/\Q k ah):=by
 intro ai s σ H Q I h;exact isTrue_plain (cD (aq ai s σ H _ I h) λv s1 ⟨x,H1,bw,bC,aM⟩=>ajJ ai s1 σ H1 x v Q bw bC aM) (he _)
def afZ:fp X (oq .Add) (λx y H Q=>∃i j,x=.str i/\y=.str j/\i.length+j.length<=cB/\Q (.str (i++j)) H):=by
 intro ai s σ H x y v u Q I aY bO h;obtain⟨i,j,rfl,rfl,hz,q⟩:=h;obtain⟨t,rfl⟩:=aY;obtain⟨t',rfl⟩:=bO;exact add_str (λt' tk=>⟨.str (i++j),H,I.tok _,⟨_,rfl⟩,q⟩) hz
def vals1{x:V}{us:List ag}(r:Vals [x] us):∃u,us=[u]/\RelV x u:=by
 cases r with
|cons bC b7=>cases b7;exact⟨_,rfl,bC⟩
def vals2{x y:V}{us:List ag}(r:Vals [x,y] us):∃u dv,us=[u,dv]/\RelV x u/\RelV y dv:=by
 cases r with
|cons bC b7=>
  cases b7 with
  |cons iK jh=>cases jh;exact⟨_,_,rfl,bC,iK⟩
def ahA(ar:X.calm=true):kO X (.builtin "max") (λxs H Q=>∃i j,xs=[.int i,.int j]/\Q (.int (if j > i then j else i)) H):=by
 intro ai s σ H xs us Q I r h;obtain⟨i,j,rfl,q⟩:=h;obtain⟨u,dv,rfl,⟨t,rfl⟩,⟨t',rfl⟩⟩:=vals2 r;refine max_two_ints (I.ok.hd ar) λh' tk k=>⟨_,H,I.kept k,?_,q⟩;by_cases a':j > i
 ·rw[if_pos a',if_pos a'];exact⟨_,rfl⟩
 ·rw[if_neg a',if_neg a'];exact⟨_,rfl⟩
def ahy(ar:X.calm=true):kO X (.builtin "min") (λxs H Q=>∃i j,xs=[.int i,.int j]/\Q (.int (if j<i then j else i)) H):=by
 intro ai s σ H xs us Q I r h;obtain⟨i,j,rfl,q⟩:=h;obtain⟨u,dv,rfl,⟨t,rfl⟩,⟨t',rfl⟩⟩:=vals2 r;refine min_two_ints (I.ok.hd ar) λh' tk k=>⟨_,H,I.kept k,?_,q⟩;by_cases a':j<i
 ·rw[if_pos a',if_pos a'];exact⟨_,rfl⟩
 ·rw[if_neg a',if_neg a'];exact⟨_,rfl⟩
end
end bG
namespace bG
open PySem PySem.Spec PyProof.Rows
structure r2(h:bI)(x bu C:ak)(eM:Str->Option ag):Prop where
 obj:h.get? x=some (ro C bu)
 ns:h.Ns1 bu eM
 ne:bu≠x
def ag'{h:bI}{bu:ak}{eM:Str->Option ag}(n:h.Ns1 bu eM):∃e4,h.get? bu=some e4/\∀name,PySem.W.lookIn name e4=some (eM name):=by
 obtain⟨o,es,ep,aE,hd,ay,_,hm⟩:=n;refine⟨o,aE,λname=>?_⟩;have e:=hm name;unfold nsFind findBy at e;rw[<- Array.find?_toList] at e;unfold PySem.W.lookIn;rw[hd];dsimp only;split
 ·rename_i y q
  rw[q] at e;exact congrArg some e
 ·rename_i q
  rw[q] at e;have a:es.toList.any (·.refKey)=false:=by
   rw[List.any_eq_false];intro y aV;obtain⟨z,t,YL⟩:=ay y (Array.mem_toList_iff.mp aV);simp[DictEntry.refKey,YL]
  have kr:¬es.toList.any (·.refKey)=true:=by rw[a];exact ti
  rw[if_neg kr];exact congrArg some e
def r2.look{h:bI}{x bu C:ak}{eM:Str->Option ag}(I:r2 h x bu C eM):∃e4,PySem.W.InstAt h x (ro C bu) C (some e4)/\∀name,PySem.W.lookIn name e4=some (eM name):=
 let ⟨e4,aE,av⟩:=ag' I.ns
 ⟨e4,⟨I.obj,rfl,rfl,aE⟩,av⟩
section
variable {prog:cE}{w:b8}{A:cU}{E:ag->aK->Prop}{s:aK}{K:br}{x bu C f:ak}{eM:Str->Option ag}{name:Str}{v:ag}
def get_map{expr:Bool}{Q:ag->aK->Prop}(X:K.In s.heap)(I:r2 s.heap x bu C eM)(bx:PySem.W.plainGet K C name=true)(cq:PySem.W.hasDictIn K C=true)
  (aq:ng K (.ref C) name=some none) (a4:eM name=some v) (zW:PySem.W.handedIn v=true) (h:Q v {s with toks:=s.toks+1}):
  a6 (bS prog w) A (getAttr (.ref x) name expr) Q E s:=by
 obtain⟨e4,J,av⟩:=I.look;exact PySem.W.get_value X J (PySem.W.plainGet_of bx).1 (PySem.W.findObj_own cq aq rfl (by rw[av,a4])) zW h
def air{pl:Sem Bool}{Q:ag×List ag->aK->Prop}(X:K.In s.heap)(I:r2 s.heap x bu C eM)(bx:PySem.W.plainGet K C name=true)
  (hf:ng K (.ref C) name=some (some (.ref f))) (bo:PySem.W.isFn K (.ref f)=true) (a4:eM name=none) (h:Q (.ref f,[.ref x]) s):
  a6 (bS prog w) A (getMethod (.ref x) name pl) Q E s:=by
 obtain⟨e4,J,av⟩:=I.look;exact PySem.W.method_fn X J (PySem.W.plainGet_of bx).1 (PySem.W.plainGet_of bx).2 hf (beq_iff_eq.mp bo) (by show (PySem.W.lookIn name e4).map (·.isSome)=some false;rw[av,a4];rfl) h
def aiO{ns:List Str}{Q:Unit->aK->Prop}(X:K.In s.heap)(I:r2 s.heap x bu C eM)
  (aC:ng K (.ref C) "__setattr__"=some (some (.builtin "object.__setattr__"))) (az:PySem.W.plainOver K C=true) (bo:PySem.W.takerIn K C name=some none) (cq:PySem.W.hasDictIn K C=true)
  (hw:PySem.Within eM ns) (hsz:ns.length<=cB)
  (h:∀h',r2 h' x bu C (λy=>if y=name then some v else eM y)->Heap.SameBut bu s.heap h'->Q () {s with heap:=h',toks:=s.toks+2}):
  a6 (bS prog w) A (setAttr (.ref x) name v) Q E s:=by
 obtain⟨e4,J,av⟩:=I.look;refine PySem.W.set_plain X J aC (PySem.W.osa_open (s:={s with toks:=s.toks+1}) (r:=none) X J az bo λb=>?_);obtain⟨cd,ar,sz⟩:=PySem.W.any_some cq;have hx:s.heap.get? x=some ⟨.ref C,some bu,.plain,#[]⟩:=I.obj;refine aT (cy (aT (aT (wpAny_loadPart hx (aT (PySem.W.Looks.here (s:={s with toks:=s.toks+1}) (PySem.W.looks_clsIn X ar) ?_))))));rw[sz];refine cy (a:=some bu) (aT (cy (aT ?_)));refine wpAny_nsSet1 (s:={s with toks:=s.toks+1}) I.ns λh' zQ ia=>?_;obtain⟨oD,als,alr,YW,YC,Ys⟩:=zQ.count (PySem.Within.cons name v hw);refine aT (wpAny_lookBehind YW (by rw[YC];exact pastItsLine_dict (hi Ys (by rw[eJ];omega))) ?_);exact cy (h _ ⟨(ia.2 _ (Ne.symm I.ne)).trans I.obj,zQ,I.ne⟩ ia)
def aii{R:Result->aK->Prop}{vs:List ag}{kw:List (Str×ag)}(X:K.In s.heap)(hm:PySem.W.makesIn K C=true)
  (ba:ng K (.ref C) "__init__"=some (some (.ref f))) (hf:PySem.W.typeIn K (.ref f)=some (.type "function"))
  (h:lT (bS prog w) (A.under (.builtin "type.__call__" ⟨.ref C::vs,kw⟩)) (.call (.ref f) ⟨.ref (s.heap.objs.size+1)::vs,kw⟩) (PySem.W.InitBack (s.heap.objs.size+1) R)
   {s with heap:=(s.heap.push qk).push (ro C s.heap.objs.size)}):
  lT (bS prog w) A (.call (.ref C) ⟨vs,kw⟩) R s:=by
 obtain⟨cq,g,d,t,os⟩:=s;exact PySem.W.make_core (PySem.W.makes_of X hm) (PySem.W.looks_findIn X ba) (λself=>PySem.W.bind_fn X self hf) (.inl rfl) h
end
noncomputable def hb(f:Str)(v:V):List (Str×V)->List (Str×V)
  | []=>[(f,v)]
  | (g,x)::r=>if g=f then (g,v)::r else (g,x)::hb f v r
theorem PW(f g:Str)(v:V):∀aB:List (Str×V),(hb f v aB).lookup g=if g=f then some v else aB.lookup g
  | []=>by
    show jG g [(f,v)]=_
    by_cases h:g=f
    · have ab:(g==f)=true:=beq_iff_eq.mpr h
      simp only[jG,ab,if_pos h]
    · have ab:(g==f)=false:=beq_eq_false_iff_ne.mpr h
      simp only[jG,ab,if_neg h]
  | (k,x)::r=>by
    have bc:=PW f g v r;rw[show hb f v ((k,x)::r)=(if k=f then (k,v)::r else (k,x)::hb f v r) from rfl];by_cases ay:k=f
    · rw[if_pos ay]
      by_cases h:g=k
      · have ab:(g==k)=true:=beq_iff_eq.mpr h
        simp only[jG,ab,if_pos (h.trans ay)]
      · have ab:(g==k)=false:=beq_eq_false_iff_ne.mpr h
        simp only[jG,ab,if_neg (λe:g=f=>h (e.trans ay.symm))]
    · rw[if_neg ay]
      by_cases h:g=k
      · have ab:(g==k)=true:=beq_iff_eq.mpr h
        simp only[jG,ab,if_neg (λe:g=f=>ay (h.symm.trans e))]
      · have ab:(g==k)=false:=beq_eq_false_iff_ne.mpr h
        simp only[jG,ab];exact bc
theorem Ka(f:Str)(v:V):∀aB:List (Str×V),f∈(hb f v aB).map (·.1)/\∀g,g∈aB.map (·.1)->g∈(hb f v aB).map (·.1)
  | []=>⟨by simp[hb],λg h=>by simp at h⟩
  | (k,x)::r=>by
    obtain⟨cg,cm⟩:=Ka f v r;rw[show hb f v ((k,x)::r)=(if k=f then (k,v)::r else (k,x)::hb f v r) from rfl];by_cases ay:k=f
    · rw[if_pos ay]
      subst ay;exact⟨by simp,λg h=>by simpa using h⟩
    · rw[if_neg ay]
      refine⟨?_,λg h=>?_⟩
      · rw[cP]
        exact dq _ cg
      · rw[cP] at h ⊢
        rcases ct.mp h with e|e
        · exact ct.mpr (.inl e)
        · exact dq _ (cm g e)
theorem PY(f:Str)(v:V):∀aB:List (Str×V),(hb f v aB).length<=aB.length+1
  | []=>by simp[hb]
  | (k,x)::r=>by
    have bc:=PY f v r;rw[show hb f v ((k,x)::r)=(if k=f then (k,v)::r else (k,x)::hb f v r) from rfl];by_cases ay:k=f
    · rw[if_pos ay,eJ,eJ];omega
    · rw[if_neg ay,eJ,eJ];omega
def kq.some_of{v:V}{o:Option ag}(r:kq (some v) o):∃u,o=some u/\RelV v u:=by
 cases o with
|none=>exact (show False from r).elim
|some u=>exact⟨u,rfl,r⟩
def kq.none_of{o:Option ag}(r:kq none o):o=none:=by
 cases o with
|none=>rfl
|some u=>exact (show False from r).elim
def ahn{v:V}{u:ag}(r:RelV v u):PySem.W.handedIn u=true:=by
 cases v with
|ff=>cases (show u=Value.none from r);rfl
|c8 b=>cases (show u=Value.bool b from r);rfl
|int i=>obtain⟨t,e⟩:=(show ∃t,u=Value.int i t from r);cases e;rfl
|str x=>obtain⟨t,e⟩:=(show ∃t,u=Value.str x t from r);cases e;rfl
|sd b=>obtain⟨t,e⟩:=(show ∃t,u=Value.bytes b t from r);cases e;rfl
|wm b=>obtain⟨t,e⟩:=(show ∃t,u=Value.float b t from r);cases e;rfl
|ref a=>cases (show u=Value.ref a from r);rfl
|ty n=>cases (show u=Value.type n from r);rfl
section
variable {P:cE}{w:b8}{H ah:aA}{h h':bI}{a C bu:ak}{aB hS:List (Str×V)}
def KZ(bT:fA P w H h)(e:H a=some (.ins C bu aB)):∃eM,r2 h a bu C eM/\(∀f,kq (aB.lookup f) (eM f))/\PySem.Within eM (aB.map (·.1))/\aB.length<=1000/\H bu=some (.own a):=by
 obtain⟨d,z,ne,dY,eM,n,r,q⟩:=(show hv P w H h a (.ins C bu aB) from bT a _ e);exact⟨eM,⟨dY,n,ne⟩,r,q,z,d⟩
end
structure nA(K:br)(C:ak):Prop where
 pg:PySem.W.plainGet K C Str.empty=true
 hd:PySem.W.hasDictIn K C=true
 po:PySem.W.plainOver K C=true
 sa:ng K (.ref C) "__setattr__"=some (some (.builtin "object.__setattr__"))
def nA.get{K:br}{C:ak}(c:nA K C)(f:Str):PySem.W.plainGet K C f=true:=c.pg
def qD(K:br)(C:ak)(f:Str):Prop:=ng K (.ref C) f=some none
def qD.adT{K:br}{C:ak}{f:Str}(n:qD K C f):PySem.W.takerIn K C f=some none:=by
 unfold PySem.W.takerIn;rw[show ng K (.ref C) f=some none from n];rfl
structure Meth(K:br)(C:ak)(m:Str)(f:ak):Prop where
 at_:ng K (.ref C) m=some (some (.ref f))
 fn:PySem.W.isFn K (.ref f)=true
 aw:nf K (.ref f)=true
section
variable {X:bt}{ai:List (ak×Obj)}{σ:St}{H:aA}{s:aK}{a C bu:ak}{aB:List (Str×V)}{f:Str}{v:V}{A:cU}{E:ag->aK->Prop}
def Qr{b:Bool}{Q:ag->aK->Prop}(I:Inv X ai σ H s)(e:H a=some (.ins C bu aB))(c:nA X.K C)(n:qD X.K C f)(l:aB.lookup f=some v)
  (h:∀u s',Inv X ai σ H s'->RelV v u->Q u s'):a6 (bS X.prog X.w) A (getAttr (.ref a) f b) Q E s:=by
 obtain⟨eM,O,r,_,_,_⟩:=KZ I.bT e;obtain⟨u,bH,c_⟩:=kq.some_of (v:=v) (o:=eM f) (by rw[<- l];exact r f);exact get_map I.k2 O (c.get f) c.hd n bH (ahn c_) (h u _ (I.tok _) c_)
def Qq{m:Str}{g:ak}{pl:Sem Bool}{Q:ag×List ag->aK->Prop}(I:Inv X ai σ H s)(e:H a=some (.ins C bu aB))(c:nA X.K C)(k:Meth X.K C m g)(l:aB.lookup m=none)
  (h:Q (.ref g,[.ref a]) s):a6 (bS X.prog X.w) A (getMethod (.ref a) m pl) Q E s:=by
 obtain⟨eM,O,r,_,_,_⟩:=KZ I.bT e;have aX:eM m=none:=kq.none_of (by rw[<- l];exact r m);exact air I.k2 O (c.get m) k.at_ k.fn aX h
def Qa{y:V}{u:ag}{Q:Unit->aK->Prop}(I:Inv X ai σ H s)(e:H a=some (.ins C bu aB))(c:nA X.K C)(n:qD X.K C f)(av:aB.length<1000)(bO:RelV y u)
  (h:∀s',Inv X ai σ (upd H a (.ins C bu (hb f y aB))) s'->Q () s'):a6 (bS X.prog X.w) A (setAttr (.ref a) f u) Q E s:=by
 obtain⟨eM,O,r,qi,_,aE⟩:=KZ I.bT e;have hz:(aB.map (·.1)).length<=cB:=by rw[eb,h1];omega
 refine aiO I.k2 O c.sa c.po n.adT c.hd qi hz λh' nH jk=>h _ ?_
 have hd:∃o,h'.get? bu=some o:=let ⟨o,_,_,bg,_⟩:=nH.ns;⟨o,bg⟩;refine I.write (x:=a) (e:=bu) (by rw[e];exact True.intro) (.inr aE) (λb q ab z=>(jk.2 b ab).trans z) hd ?_;refine⟨by rw[cI O.ne];exact aE,?_,O.ne,nH.obj,_,nH.ns,λg=>?_,λg bx=>?_⟩
 ·have:=PY f y aB;omega
 ·show kq ((hb f y aB).lookup g) (if g=f then some u else eM g)
  rw[PW];by_cases q:g=f
  ·rw[if_pos q,if_pos q];exact bO
  ·rw[if_neg q,if_neg q];exact r g
 ·by_cases q:g=f
  ·rw[q];exact (Ka f y aB).1
  ·refine (Ka f y aB).2 g (qi g λz=>bx ?_)
   show (if g=f then some u else eM g)=none
   rw[if_neg q];exact z
def Inv.made(I:Inv X ai σ H s):Inv X ai σ (upd (upd H s.heap.objs.size (.own (s.heap.objs.size+1))) (s.heap.objs.size+1) (.ins C s.heap.objs.size []))
  {s with heap:=(s.heap.push qk).push (ro C s.heap.objs.size)}:=by
 have ax:(s.heap.push qk).get? s.heap.objs.size=some qk:=fy s.heap rfl;have aL:((s.heap.push qk).push (ro C s.heap.objs.size)).get? (s.heap.objs.size+1)=some (ro C s.heap.objs.size):=by
  have:=fy (s.heap.push qk) (o:=ro C s.heap.objs.size) rfl
  rwa [kb] at this
 have e':(s.heap.push qk).Ns s.heap.objs.size (λ_=>none):=⟨qk,#[],_,ax,rfl,(λe he=>absurd he (by simp)),λ_=>rfl⟩;have bw:=I.laid (a:=s.heap.objs.size) (o:=.own (s.heap.objs.size+1)) (h':=s.heap.push qk) (t':=s.toks) (λb u q=>cT _ q) (dw _) ⟨_,ax⟩;refine bw.laid (a:=s.heap.objs.size+1) (o:=.ins C s.heap.objs.size []) (t':=s.toks) (λb u q=>cT _ q) (Nat.le_of_eq (kb _ _)) ?_;have ne:s.heap.objs.size≠s.heap.objs.size+1:=ee (Nat.lt_succ_self _);refine⟨by rw[cI ne,dN],k9 _,ne,aL,λ_=>none,(Heap.Ns1.of_empty e').at λo q=>cT _ q,λ_=>True.intro,λy aV=>absurd rfl aV⟩
def ajE{prog:cE}{w:b8}{env:Env}{e:bz}{f:Str}{pos:Pos}{s:aK}{Q:ag->aK->Prop}(ab:ir e f env (eval e env)=eval e env)
  (h:a6 (bS prog w) A (eval e env) (λo dc=>a6 (bS prog w) A (getAttr o f true) Q E dc) E s):a6 (bS prog w) A (eval (.Attribute e f pos) env) Q E s:=
 Attribute_any_ h (by rw[arm_eval_Attribute,ab])
end
noncomputable def adz(K:br)(cw:TE)(f:Str):TE:=λσ H Q=>cw σ H λx H1=>∃a C bu aB v,x=.ref a/\H1 a=some (.ins C bu aB)/\nA K C/\qD K C f/\aB.lookup f=some v/\Q v H1
noncomputable def acz(K:br)(cw hg:TE)(f:Str):gT:=λD σ H=>hg σ H λy H1=>cw σ H1 λx bf=>∃a C bu aB,x=.ref a/\bf a=some (.ins C bu aB)/\nA K C/\qD K C f/\aB.length<1000 /\
 D.bR σ (upd bf a (.ins C bu (hb f y aB)))
noncomputable def C6(X:bt)(op:Operator)(ji:V->V->aA->dj->Prop):Prop:=
 ∀(ai:List (ak×Obj)) (s:aK) (σ:St) (H:aA) (x y:V) (u v:ag) (Q:dj),Inv X ai σ H s->RelV x u->RelV y v->ji x y H Q->a6 (bS X.prog X.w) X.A (inplaceOp op u v) (hO X ai σ Q) X.d3 s
noncomputable def aiS(K:br)(cw hg:TE)(ji:V->V->aA->dj->Prop)(f:Str):gT:=λD σ H=>cw σ H λx H1=>∃a C bu aB v,x=.ref a/\H1 a=some (.ins C bu aB)/\nA K C/\qD K C f/\aB.lookup f=some v /\
 hg σ H1 λy bf=>ji v y bf λz eQ=>∃ug hS,eQ a=some (.ins C ug hS)/\hS.length<1000/\D.bR σ (upd eQ a (.ins C ug (hb f z hS)))
section
variable {X:bt}{o e value:bz}{f:Str}{pos pos' IW:Pos}{cw hg:TE}
def qz(he:b3 X e cw)(ab:ir e f X.env (eval e X.env)=eval e X.env):b3 X (.Attribute e f pos) (adz X.K cw f):=by
 intro ai s σ H Q I h;refine ajE ab (cD (he ai s σ H _ I h) λu s1 ⟨x,H1,bw,aY,a,C,bu,aB,v,ex,d0,c,n,l,q⟩=>?_);subst ex;obtain rfl:u=Value.ref a:=aY;exact Qr bw d0 c n l λtb s2 ck c_=>⟨v,H1,ck,c_,q⟩
def Lb(aq:b3 X o cw)(a4:b3 X value hg)(aC:iu value (some (.Attribute o f pos')) pos.line X.env=pure false):ko X (.Assign [.Attribute o f pos'] value pos) (acz X.K cw hg f):=by
 intro ai s σ H D I h;refine plainObj_wpAny_Assign_Attribute (cD (a4 ai s σ H _ I h) λu s1 ⟨y,H1,bw,bO,q⟩=>cD (aq ai s1 σ H1 _ bw q) λe5 s2 ⟨x,bf,ck,aY,a,C,bu,aB,ex,d0,c,n,l,a9⟩=>?_) aC;subst ex;obtain rfl:e5=Value.ref a:=aY;exact Qa ck d0 c n l bO λs3 dU=>⟨σ,_,dU,a9⟩
def agV{op:Operator}{ji:V->V->aA->dj->Prop}(aq:b3 X o cw)(a4:b3 X value hg)(ama:C6 X op ji):ko X (.AugAssign (.Attribute o f IW) op value pos) (aiS X.K cw hg ji f):=by
 intro ai s σ H D I h;refine wpAny_AugAssign_AttributeAny (cD (aq ai s σ H _ I h) λe5 s1 ⟨x,H1,bw,aY,a,C,bu,aB,v,ex,d0,c,n,l,q⟩=>?_);subst ex;obtain rfl:e5=Value.ref a:=aY;refine Qr bw d0 c n l λu s2 ck c_=>cD (a4 ai s2 σ H1 _ ck q) λrj s3 ⟨y,bf,dU,bO,c5⟩=>cD (ama ai s3 σ bf v y u rj _ dU c_ bO c5) λw4 s4 ⟨z,eQ,nD,IC,ug,hS,XO,mc,j4⟩=>?_;exact Qa nD XO c n mc IC λs5 rZ=>⟨σ,_,rZ,j4⟩
noncomputable def acm:V->V->aA->dj->Prop:=λx y H Q=>∃i j,x=.int i/\y=.int j/\Q (.int (i+j)) H
def S7:C6 X .Add acm:=by
 rintro ai s σ H x y u v Q I aY bO ⟨i,j,rfl,rfl,q⟩;obtain⟨t,rfl⟩:=(show ∃t,u=Value.int i t from aY);obtain⟨t',rfl⟩:=(show ∃t',v=Value.int j t' from bO);exact PyProof.Rows.iadd_int ⟨.int (i+j),H,I.tok _,⟨_,rfl⟩,q⟩
end
end bG
namespace bG
open PySem PySem.Spec PyProof.Rows
structure dF(k:Nat)(A:cU):Prop where
 hd:A.handled=none
 wg:A.depth+3*k+5<recursionLimit
 un:A.units+16*k+200<cLine
 zB:A.guards=some []
def dF.mono{j k:Nat}{A:cU}(r:dF k A)(h:j<=k):dF j A:=⟨r.hd,by have:=r.wg;omega,by have:=r.un;omega,r.zB⟩
theorem dF.deeper{k:Nat}{A:cU}(r:dF (k+1) A)(env:Env):dF k (A.deeper env):=
 ⟨r.hd,by have:=r.wg;show A.depth+1+3*k+5<_;omega,by have:=r.un;show A.units+3+16*k+200<_;omega,r.zB⟩
theorem dF.in1{k:Nat}{A:cU}(r:dF (k+1) A):dF k A.in1:=
 ⟨r.hd,by have:=r.wg;show A.depth+3*k+5<_;omega,by have:=r.un;show A.units+1+16*k+200<_;omega,r.zB⟩
def af'{A:cU}{C:ak}{us:List ag}{kw:List (Str×ag)}:(A.under (.builtin "type.__call__" ⟨.ref C::us,kw⟩)).depth=A.depth+1:=by
 first|rfl|simp[Around.under,Code.weight,Code.isCreation,Code.isGuard,Code.isCaller,Code.frames,Code.isFrame,guardIds]
def af_{A:cU}{C:ak}{us:List ag}{kw:List (Str×ag)}:(A.under (.builtin "type.__call__" ⟨.ref C::us,kw⟩)).units=A.units+1:=by
 first|rfl|simp[Around.under,Code.cUnits,Code.frames,Code.isFrame]
def afB{A:cU}{C:ak}{us:List ag}{kw:List (Str×ag)}:(A.under (.builtin "type.__call__" ⟨.ref C::us,kw⟩)).guards=A.guards:=by
 first|rfl|simp[Around.under,Code.weight,Code.isCreation,Code.isGuard,Code.isCaller,Code.frames,Code.isFrame,guardIds,Code.guards]
def dF.make{k:Nat}{A:cU}(r:dF (k+1) A)(C:ak)(us:List ag)(kw:List (Str×ag)):dF k (A.under (.builtin "type.__call__" ⟨.ref C::us,kw⟩)):=
 ⟨r.hd,by have:=r.wg;rw[af'];omega,by have:=r.un;rw[af_];omega,afB.trans r.zB⟩
theorem dF.depth{k:Nat}{A:cU}(r:dF k A):A.depth<recursionLimit:=by have:=r.wg;omega
theorem dF.units{k:Nat}{A:cU}(r:dF k A):A.units+64<cLine:=by have:=r.un;omega
def IP:gs:=λ_ H Q=>Q [] H
noncomputable def Ti(cw:TE)(tr:gs):gs:=λσ H Q=>cw σ H λx H1=>tr σ H1 λxs bf=>Q (x::xs) bf
section
variable {X:bt}{e:bz}{es:List bz}{j_:TE}{t:gs}{pos:Pos}
def jM:h5 X [] IP:=λ_ _ _ _ H Q I h=>Calls.spliced_nil ⟨[],H,I,.nil,h⟩
def iR(aq:b3 X e j_)(au:h5 X es t)(aC:bb (e::es) X.env=(false,eval e X.env)::bb es X.env:=by rfl):h5 X (e::es) (Ti j_ t):=by
 intro pos ai s σ H Q I h;rw[aC];show a6 _ _ (spliced ((false,eval e X.env)::c0 pos (bb es X.env))) _ _ s;refine Calls.spliced_cons (cD (aq ai s σ H _ I h) λu s1 ⟨x,H1,bw,bC,aM⟩=>?_);exact cD (au pos ai s1 σ H1 _ bw aM) λus s2 ⟨xs,bf,ck,b7,a9⟩=>⟨x::xs,bf,ck,.cons bC b7,a9⟩
noncomputable def adL(t:gs):TE:=λσ H Q=>t σ H λxs H1=>xs.length<=cB/\∀p,H1 p=none->Q (.ref p) (upd H1 p (.tup xs))
noncomputable def adF(t:gs):TE:=λσ H Q=>t σ H λxs H1=>xs.length<=cB/\∀p,H1 p=none->Q (.ref p) (upd H1 p (.lst xs))
def aj8{aU}(h:h5 X es t):b3 X (.Tuple es aU pos) (adL t):=by
 intro ai s σ H Q I a_;refine wpAny_Tuple_spliced (cD (h pos ai s σ H _ I a_) λus s1 ⟨xs,H1,bw,r,z,q⟩=>⟨by rw[<- r.length];exact z,?_⟩);have hf:H1 s1.heap.objs.size=none:=bw.bT.fresh (dw _);refine⟨.ref s1.heap.objs.size,upd H1 s1.heap.objs.size (.tup xs),bw.laid (t':=s1.toks) (λb u e=>cT _ e) (dw _) ?_,rfl,q _ hf⟩;exact⟨z,us,r,⟨_,fy _ rfl,rfl,_,rfl⟩⟩
def aj'(h:h5 X es t):b3 X (.List es pos) (adF t):=by
 intro ai s σ H Q I a_;refine wpAny_List_spliced (cD (h pos ai s σ H _ I a_) λus s1 ⟨xs,H1,bw,r,z,q⟩=>⟨by rw[<- r.length];exact z,?_⟩);have hf:H1 s1.heap.objs.size=none:=bw.bT.fresh (dw _);refine⟨.ref s1.heap.objs.size,upd H1 s1.heap.objs.size (.lst xs),bw.laid (t':=s1.toks) (λb u e=>cT _ e) (dw _) ?_,rfl,q _ hf⟩;exact⟨z,us,0,r,fy _ rfl⟩
end
abbrev kT:=List V->aA->dj->gU->Prop
abbrev mC:=List Env->aA->aK->gU->ag->aK->Prop
structure mE(P:cE)(w:b8)(K:br)(mg:Str->Option ag)(base:bI)(A:cU)(outer:List Env)(s:aK)(H:aA):Prop where
 frames:A.frames=some outer
 mod:Mod K mg base
 bs:∀b o,base.get? b=some o->s.heap.get? b=some o/\H b=none
 oJ:base.objs.size<=s.heap.objs.size
 lx:s.heap.FunFrames base outer
 p1:∀b∈nW outer,H b=none
 bT:fA P w H s.heap
 bare:AllBare s.gens
noncomputable def C1(outer:List Env)(P:cE)(w:b8)(H:aA)(s:aK)(Q:dj)(u:ag)(s':aK):Prop:=
 ∃v ah,s'.os=s.os/\AllBare s'.gens/\ho (nW outer) [] H ah s.heap s'.heap/\fA P w ah s'.heap/\RelV v u/\Q v ah
noncomputable def Ls(er:mC)(outer:List Env)(P:cE)(w:b8)(H:aA)(s:aK)(Q:dj)(E:gU)(r:Result)(s':aK):Prop:=
 match r with
|.ok (.ret u)=>C1 outer P w H s Q u s'
|.ok _=>False
|.error e=>er outer H s E e s'
structure fh(P:cE)(w:b8)(K:br)(mg:Str->Option ag)(base:bI)(er:mC)(k:Nat)(f:ak)(fd:gi)(ps:List Str)(sp:kT):Prop where
 len:∀vs H Q E,sp vs H Q E->vs.length=ps.length
 run:∀(A:cU) (outer:List Env) (s:aK) (H:aA) (args:Args) (us:List ag) (vs:List V) (Q:dj) (E:gU),dF k A->mE P w K mg base A outer s H->BindsTo s fd args (ps.zip us)->Vals vs us->sp vs H Q E ->
  lT (bS P w) A (.call (.ref f) args) (Ls er outer P w H s Q E) s
theorem fh.mono{P:cE}{w:b8}{K:br}{mg:Str->Option ag}{base:bI}{er:mC}{j k:Nat}{f:ak}{fd:gi}{ps:List Str}{sp:kT}(F:fh P w K mg base er j f fd ps sp)(h:j<=k):
  fh P w K mg base er k f fd ps sp:=⟨F.len,λA outer s H args us vs Q E au=>F.run A outer s H args us vs Q E (au.mono h)⟩
def fh.imp{P:cE}{w:b8}{K:br}{mg:Str->Option ag}{base:bI}{er:mC}{k:Nat}{f:ak}{fd:gi}{ps:List Str}{sp OG:kT}(F:fh P w K mg base er k f fd ps sp)
  (h:∀vs H Q E,OG vs H Q E->sp vs H Q E):fh P w K mg base er k f fd ps OG:=
 ⟨λvs H Q E q=>F.len vs H Q E (h _ _ _ _ q),λA outer s H args us vs Q E au he ab a4 aC=>F.run A outer s H args us vs Q E au he ab a4 (h _ _ _ _ aC)⟩
def mE.make{P:cE}{w:b8}{K:br}{mg:Str->Option ag}{base:bI}{A:cU}{outer:List Env}{s:aK}{H:aA}(e:mE P w K mg base A outer s H)(C:ak)(us:List ag)(kw:List (Str×ag)):
  mE P w K mg base (A.under (.builtin "type.__call__" ⟨.ref C::us,kw⟩)) outer s H:=⟨by first|exact e.frames|(simpa [Around.under,Code.envs,Code.isFrame,pushEnvs] using e.frames),e.mod,e.bs,e.oJ,e.lx,e.p1,e.bT,e.bare⟩
theorem mE.in1{P:cE}{w:b8}{K:br}{mg:Str->Option ag}{base:bI}{A:cU}{outer:List Env}{s:aK}{H:aA}(e:mE P w K mg base A outer s H):
  mE P w K mg base A.in1 outer s H:=⟨e.frames,e.mod,e.bs,e.oJ,e.lx,e.p1,e.bT,e.bare⟩
section
variable {X:bt}{ai:List (ak×Obj)}{σ:St}{H:aA}{s s':aK}
def Inv.EX(I:Inv X ai σ H s):mE X.prog X.w X.K X.mg X.base X.A X.stack s H:=
 ⟨I.ok.frames,I.ok.mod,I.bs,hi I.ok.oJ I.kG,I.stack,I.OJ,I.bT,I.bare⟩
def Inv.after{Q:dj}{u:ag}(I:Inv X ai σ H s)(h:C1 X.stack X.prog X.w H s Q u s'):hO X ai σ Q u s':=by
 obtain⟨v,ah,os,bare,un,bT,r,q⟩:=h;obtain⟨cq,g,d,t,qa⟩:=s';obtain rfl:qa=s.os:=os;exact⟨v,ah,I.call (h':=cq) (g':=g) (d':=d) (t':=t) (ch:=[]) un bT bare (λb z=>absurd z (by simp)),r,q⟩
end
noncomputable def akP(sp:kT)(h8:List V)(E:gU)(t:gs):TE:=λσ H Q=>t σ H λvs H1=>sp (vs++h8) H1 Q E
noncomputable def Th(C:ak)(m:Str)(sp:kT)(h8:List V)(E:gU)(cw:TE)(t:gs):TE:=λσ H Q=>cw σ H λx H1=>∃a bu aB,x=.ref a/\H1 a=some (.ins C bu aB)/\aB.lookup m=none /\
 t σ H1 λvs bf=>sp (x::(vs++h8)) bf Q E
noncomputable def akL(C:ak)(sp:kT)(h8:List V)(E:gU)(t:gs):TE:=λσ H Q=>t σ H λvs H1=>∀x bu,H1 x=none->H1 bu=none->bu≠x ->
 sp (.ref x::(vs++h8)) (upd (upd H1 bu (.own x)) x (.ins C bu [])) (λv bf=>v=.ff/\Q (.ref x) bf) E
noncomputable def Binds(K:br)(fd:gi)(ps:List Str)(ds:List ag):Prop:=
 ∀(s:aK) (us:List ag),K.In s.heap->(us++ds).length=ps.length->BindsTo s fd ⟨us,[]⟩ (ps.zip (us++ds))
def Binds.all{K:br}{fd:gi}{ps:List Str}(h:∀us:List ag,us.length=ps.length->bindArgs fd ⟨us,[]⟩=pure (ps.zip us)):Binds K fd ps []:=λs us _ av=>by
 rw[nh] at av ⊢;exact .of_eq (h us av)
noncomputable def Passes(er:mC)(X:bt)(E:gU):Prop:=∀(ai:List (ak×Obj)) (σ:St) (H:aA) (s:aK) (e:ag) (s':aK),Inv X ai σ H s->er X.stack H s E e s'->X.d3 e s'
section
variable {X:bt}{er:mC}{k:Nat}{f C:ak}{fd:gi}{ps:List Str}{sp:kT}{h8:List V}{ds:List ag}{E:gU}{x m:Str}{p pos apos:Pos}{e o:bz}{es:List bz}{cw:TE}{t:gs}
def K8{ai:List (ak×Obj)}{σ:St}{H:aA}{s:aK}{Q:dj}{us:List ag}{vs:List V}(F:fh X.prog X.w X.K X.mg X.base er k f fd ps sp)(au:dF k X.A)(ab:Binds X.K fd ps ds)(hd:Vals h8 ds)(hx:Passes er X E)
  (I:Inv X ai σ H s) (r:Vals vs us) (h:sp (vs++h8) H Q E):a6 (bS X.prog X.w) X.A (call (.ref f) us) (hO X ai σ Q) X.d3 s:=by
 have b7:Vals (vs++h8) (us++ds):=r.append hd;have av:(us++ds).length=ps.length:=by rw[<- b7.length];exact F.len _ _ _ _ h
 refine wpAny_call (rq (F.run X.A X.stack s H ⟨us,[]⟩ (us++ds) (vs++h8) Q E au I.EX (ab s us I.k2 av) b7 h) λr s' a_=>?_)
 cases r with
|error e=>exact hx ai σ H s e s' I a_
|ok nT=>
  cases nT with
  |ret u=>exact I.after a_
  |next=>exact kd a_
  |brk=>exact kd a_
  |cont=>exact kd a_
def Sb(F:fh X.prog X.w X.K X.mg X.base er k f fd ps sp)(au:dF k X.A)(bx:eP X x)(hm:X.mg x=some (.ref f))(ay:nf X.K (.ref f)=true)(ab:Binds X.K fd ps ds)(hd:Vals h8 ds)(hx:Passes er X E)
  (aq:h5 X (e::es) t) (k0:(x==("__debug__":Str))=false:=by decide) (he:bb (e::es) X.env=(false,eval e X.env)::bb es X.env:=by rfl) (hpl:(c0 pos (bb es X.env)).any (·.1)=false:=by rfl):
  b3 X (.Call (.Name x p) (e::es) [] pos) (akP sp h8 E t):=by
 intro ai s σ H Q I h;refine pe (KX I bx hm ?_ k0);refine PySem.W.callWith_K (h₀:=X.base) I.ok.mod.uE ay (cD (aq pos ai s σ H _ I h) λus s1 ⟨vs,H1,bw,r,q⟩=>⟨bw.k2,?_⟩) he hpl;exact K8 F au ab hd hx bw r q
def R_{pl:Sem Bool}(he:b3 X o cw)(c:nA X.K C)(hm:Meth X.K C m f)(F:fh X.prog X.w X.K X.mg X.base er k f fd ps sp)(au:dF k X.A)(ab:Binds X.K fd ps ds)(hd:Vals h8 ds)(hx:Passes er X E)(aq:h5 X (e::es) t)
  (ib:bb (e::es) X.env=(false,eval e X.env)::bb es X.env:=by rfl) (hpl:(c0 pos (bb es X.env)).any (·.1)=false:=by rfl)
  (bo:eval (.Call (.Attribute o m apos) (e::es) [] pos) X.env=(do
   let e5 <- eval o X.env
   standAt apos.atName
   let (f,first) <- holding [e5] (getMethod e5 m pl)
   callWith pos f first (c0 pos (bb (e::es) X.env)) (gm pos (gk [] X.env))):=by rfl):
  b3 X (.Call (.Attribute o m apos) (e::es) [] pos) (Th C m sp h8 E cw t):=by
 intro ai s σ H Q I h;refine PySem.W.methodCall_KW (pl:=pl) (cD (he ai s σ H _ I h) λu s1 ⟨x,H1,bw,aY,a,bu,aB,ex,d0,l,q⟩=>?_) bo;subst ex;obtain rfl:u=Value.ref a:=aY;refine Qq bw d0 c hm l ?_;refine PySem.W.callWith_K (first:=[.ref a]) (h₀:=X.base) I.ok.mod.uE hm.aw (cD (aq pos ai s1 σ H1 _ bw q) λus s2 ⟨vs,bf,ck,r,a9⟩=>⟨ck.k2,?_⟩) ib hpl;exact K8 (us:=.ref a::us) (vs:=.ref a::vs) F au ab hd hx ck (.cons rfl r) a9
def Rz{pl:Sem Bool}(he:b3 X o cw)(c:nA X.K C)(hm:Meth X.K C m f)(F:fh X.prog X.w X.K X.mg X.base er k f fd ps sp)(au:dF k X.A)(ab:Binds X.K fd ps ds)(hd:Vals h8 ds)(hx:Passes er X E)
  (bo:eval (.Call (.Attribute o m apos) [] [] pos) X.env=(do
   let e5 <- eval o X.env
   standAt apos.atName
   let (f,first) <- holding [e5] (getMethod e5 m pl)
   callWith pos f first (c0 pos (bb [] X.env)) (gm pos (gk [] X.env))):=by rfl):
  b3 X (.Call (.Attribute o m apos) [] [] pos) (Th C m sp h8 E cw IP):=by
 intro ai s σ H Q I h;refine PySem.W.methodCall_KW (pl:=pl) (cD (he ai s σ H _ I h) λu s1 ⟨x,H1,bw,aY,a,bu,aB,ex,d0,l,q⟩=>?_) bo;subst ex;obtain rfl:u=Value.ref a:=aY;refine Qq bw d0 c hm l ?_;exact PySem.W.callWith_K0 (first:=[.ref a]) bw.k2 hm.aw (K8 (us:=[.ref a]) (vs:=[.ref a]) F au ab hd hx bw (.cons rfl .nil) q)
structure vT(K:br)(C f:ak):Prop where
 makes:PySem.W.makesIn K C=true
 init:ng K (.ref C) "__init__"=some (some (.ref f))
 fn:PySem.W.isFn K (.ref f)=true
 aw:nf K (.ref C)=true
def ahS{ai:List (ak×Obj)}{σ:St}{H:aA}{s:aK}{Q:dj}{us:List ag}{vs:List V}(M:vT X.K C f)(F:fh X.prog X.w X.K X.mg X.base er k f fd ps sp)(au:dF (k+1) X.A)(ab:Binds X.K fd ps ds)(hd:Vals h8 ds)
  (hx:Passes er X E) (I:Inv X ai σ H s) (r:Vals vs us)
  (h:∀x bu,H x=none->H bu=none->bu≠x->sp (.ref x::(vs++h8)) (upd (upd H bu (.own x)) x (.ins C bu [])) (λv bf=>v=.ff/\Q (.ref x) bf) E):
  a6 (bS X.prog X.w) X.A (call (.ref C) us) (hO X ai σ Q) X.d3 s:=by
 have a_:=h (s.heap.objs.size+1) s.heap.objs.size (I.bT.fresh (ni _)) (I.bT.fresh (dw _)) (ee (Nat.lt_succ_self _));have ck:=Inv.made (C:=C) I;have b7:Vals (V.ref (s.heap.objs.size+1)::(vs++h8)) (Value.ref (s.heap.objs.size+1)::(us++ds)):=.cons rfl (r.append hd);have av:(Value.ref (s.heap.objs.size+1)::us++ds).length=ps.length:=by
  have e:=b7.length;rw[F.len _ _ _ _ a_] at e;exact e.symm
 refine wpAny_call (aii (f:=f) I.k2 M.makes M.init (beq_iff_eq.mp M.fn) (rq (F.run _ X.stack _ _ ⟨Value.ref (s.heap.objs.size+1)::us,[]⟩ (Value.ref (s.heap.objs.size+1)::(us++ds)) _ _ E (au.make C us [])
  (ck.EX.make C us []) (ab _ (Value.ref (s.heap.objs.size+1)::us) ck.k2 av) b7 a_) λr s' uA=>?_))
 cases r with
|error e=>exact hx ai σ _ _ e s' ck uA
|ok nT=>
  cases nT with
  |ret u=>
   obtain⟨v,ah,dU,bV,ev,c5⟩:=ck.after uA;subst ev;exact⟨bV,⟨V.ref (s.heap.objs.size+1),ah,dU,rfl,c5⟩⟩
  |next=>exact kd uA
  |brk=>exact kd uA
  |cont=>exact kd uA
def ai9(M:vT X.K C f)(F:fh X.prog X.w X.K X.mg X.base er k f fd ps sp)(au:dF (k+1) X.A)(bx:eP X x)(hm:X.mg x=some (.ref C))(ab:Binds X.K fd ps ds)(hd:Vals h8 ds)(hx:Passes er X E)
  (aq:h5 X (e::es) t) (k0:(x==("__debug__":Str))=false:=by decide) (he:bb (e::es) X.env=(false,eval e X.env)::bb es X.env:=by rfl) (hpl:(c0 pos (bb es X.env)).any (·.1)=false:=by rfl):
  b3 X (.Call (.Name x p) (e::es) [] pos) (akL C sp h8 E t):=by
 intro ai s σ H Q I h;refine pe (KX I bx hm ?_ k0);refine PySem.W.callWith_K (h₀:=X.base) I.ok.mod.uE M.aw (cD (aq pos ai s σ H _ I h) λus s1 ⟨vs,H1,bw,r,q⟩=>⟨bw.k2,?_⟩) he hpl;exact ahS M F au ab hd hx bw r q
end
structure c'(N P:List Str)(sc:Scope):Prop where
 kind:sc.kind=.function
 co:sc.isCoroutine=false
 gen:sc.isGenerator=false
 aW:N.Nodup
 pre:N.take P.length=P
 par:∀x∈P,sc.names.lookup x=some .local\/sc.names.lookup x=some .cell
 _B:∀y∈sc.names,y.2≠.free
theorem Q_{kindOf:Str->Option mr}{x:Str}:∀{binds:List (Str×ag)} {m:Str->Option ag},(∀v,(x,v)∉binds)->bindL kindOf binds m x=m x
  | [],_,_=>rfl
  | (n,v)::r,m,h=>by
    unfold bindL;rw[Q_ λw hw=>h w (dq _ hw)];split
    · have:x≠n:=by rintro rfl;exact h v fx
      simp[this]
    · rfl
theorem Ra{kindOf:Str->Option mr}{x:Str}:∀{binds:List (Str×ag)} {m:Str->Option ag},(∀v,(x,v)∉binds)->bindC kindOf binds m x=m x
  | [],_,_=>rfl
  | (n,v)::r,m,h=>by
    unfold bindC;rw[Ra λw hw=>h w (dq _ hw)];split
    · rfl
    · have:x≠n:=by rintro rfl;exact h v fx
      simp[this]
theorem Q'{kindOf:Str->Option mr}{x:Str}{v:ag}:∀{P:List Str} {vs:List ag} {i:Nat} {m:Str->Option ag},P.Nodup->P[i]?=some x->vs[i]?=some v->kindOf x=some .local ->
  bindL kindOf (P.zip vs) m x=some v
| [],_,_,_,_,h,_,_=>by simp at h
|_::_,[],_,_,_,_,h,_=>by simp at h
|p::P,w::vs,0,m,aW,ae,aj,ay=>by
  simp at ae aj;subst ae;subst aj;show bindL kindOf ((p,w)::P.zip vs) m p=_;unfold bindL;rw[Q_ λv a4=>(eO.mp aW).1 (List.of_mem_zip a4).1,if_pos ay];simp
|p::P,w::vs,i+1,m,aW,ae,aj,ay=>by
  show bindL kindOf ((p,w)::P.zip vs) m x=_
  unfold bindL;exact Q' (i:=i) (eO.mp aW).2 (by simpa using ae) (by simpa using aj) ay
theorem Rb{kindOf:Str->Option mr}{x:Str}{v:ag}:∀{P:List Str} {vs:List ag} {i:Nat} {m:Str->Option ag},P.Nodup->P[i]?=some x->vs[i]?=some v->kindOf x≠some .local ->
  bindC kindOf (P.zip vs) m x=some v
| [],_,_,_,_,h,_,_=>by simp at h
|_::_,[],_,_,_,_,h,_=>by simp at h
|p::P,w::vs,0,m,aW,ae,aj,ay=>by
  simp at ae aj;subst ae;subst aj;show bindC kindOf ((p,w)::P.zip vs) m p=_;unfold bindC;rw[Ra λv a4=>(eO.mp aW).1 (List.of_mem_zip a4).1,if_neg ay];simp
|p::P,w::vs,i+1,m,aW,ae,aj,ay=>by
  show bindC kindOf ((p,w)::P.zip vs) m x=_
  unfold bindC;exact Rb (i:=i) (eO.mp aW).2 (by simpa using ae) (by simpa using aj) ay
def start(N:List Str)(vs:List V):St:=vs.map some++jE (N.length - vs.length) none
noncomputable def jX(er:mC)(P:cE)(w:b8)(K:br)(mg:Str->Option ag)(base:bI)(N:List Str)(qual:Str)(scope:Scope)(f:ak)(cd:ag)(A:cU)(outer:List Env)(s:aK)(H:aA)(E:gU):bt where
 prog:=P
 w:=w
 K:=K
 mg:=mg
 base:=base
 A:=A.deeper (envOfC qual scope s.heap.objs.size f cd)
 N:=N
 dM:=s
 aO:=H
 env:=envOfC qual scope s.heap.objs.size f cd
 outer:=outer
 stack:=envOfC qual scope s.heap.objs.size f cd::outer
 ex:=[]
 calm:=true
 fn:=λ_=>true
 eC:=[]
 d3:=λe s'=>a6 (bS P w) (A.deeper (envOfC qual scope s.heap.objs.size f cd)) (leaving (envOfC qual scope s.heap.objs.size f cd) e) (λ_ xn=>er outer H s E e xn) (λbg xn=>er outer H s E bg xn) s'
def RS{sc:Scope}{n:Nat}{x:Str}(h:sc.names.lookup x=some .cell):∃c,(cellsFrom n sc.names []).lookup x=some c:=by
 have q:=PySem.W.cellsFrom_some sc.names n [] (.inl h);exact Option.isSome_iff_exists.mp q
def ahh{er:mC}{P:cE}{w:b8}{K:br}{mg:Str->Option ag}{base:bI}{N ps:List Str}{qual:Str}{scope:Scope}{f:ak}{cd:ag}{A:cU}{outer:List Env}{s s1:aK}{H:aA}{E:gU}{us:List ag}{vs:List V}
  (S:c' N ps scope) (hd:A.handled=none) (cx:mE P w K mg base A outer s H) (av:vs.length=ps.length) (r:Vals vs us)
  (x:InCallC s s.heap.objs.size (bindL (envOfC qual scope s.heap.objs.size f cd).kindOf (ps.zip us) λ_=>none) (cellsFrom (s.heap.objs.size+1) scope.names []) (bindC (envOfC qual scope s.heap.objs.size f cd).kindOf (ps.zip us) λ_=>none) s1):
  Inv (jX er P w K mg base N qual scope f cd A outer s H E) [] (start N vs) H s1:=by
 have hpl:ps.length<=N.length:=by have:=congrArg List.length S.pre;rw[List.length_take] at this;omega
 obtain⟨ae,tk,rfl,ay⟩:=x.done;have p9:∀b:ak,b∉(jX er P w K mg base N qual scope f cd A outer s H E).ex:=λb z=>absurd (show b∈([]:List ak) from z) (by simp);refine⟨⟨cx.mod,S.kind,rfl,rfl,dw _,λy z c ae aj=>?_,λy aV=>?_,λy c _ h=>?_,λ_=>hd,Around.frames_deeper cx.frames,.inr ⟨rfl,rfl⟩,λb z=>absurd z (p9 b),cx.bs,cx.oJ,λb _ _=>p9 b,λb z=>absurd z (p9 b),cx.lx,cx.p1⟩,
  rfl,cx.bare,ho.kept ay,⟨_,x.toInCall.ns,λi y v ae aj a8=>?_⟩,λy c h=>⟨_,x.cell y c h⟩,cx.bT.fresh (dw _),λy c h=>?_,λp az=>absurd (show p∈([]:List (ak×Obj)) from az) (by simp),cx.bT.kept ay,?_⟩
 ·exact name_of_addr x.apart (xG ae) (xG aj)
 ·have aV:scope.names.lookup y=some .cell\/scope.names.lookup y=some .free:=aV;rcases aV with aV|aV
  ·exact RS aV
  ·exact absurd rfl (S._B _ (xG aV))
 ·exact Nat.le_of_lt (x.above y c (xG h))
 ·have ba:i<vs.length:=by
   unfold start at aj;by_cases ba:i<vs.length
   ·exact ba
   ·rw[u1 (by simpa using ba)] at aj;rw[List.getElem?_replicate] at aj;split at aj <;> cases aj
  have aq:vs[i]?=some v:=by
   unfold start at aj;rw[u2 (by simpa using ba),jn] at aj;cases e:vs[i]? with
   |none=>rw[e] at aj;cases aj
   |some a=>rw[e] at aj;cases aj;rfl
  obtain⟨u,bH,bV⟩:=r.get aq;have az:ps[i]?=some y:=by
   rw[<- S.pre,List.getElem?_take_of_lt (by omega)];exact ae
  have N9:ps.Nodup:=by rw[<- S.pre];exact S.aW.sublist (List.take_sublist _ _)
  refine⟨u,bV,?_⟩
  rcases S.par y (mm az) with k|k
  ·exact .inl ⟨k,Q' N9 az bH k⟩
  ·obtain⟨c,e⟩:=RS (n:=s.heap.objs.size+1) k;refine .inr ⟨.inl k,c,e,?_⟩;have q:=x.cell y c e;rw[Rb N9 az bH (by show scope.names.lookup y≠_;rw[k];decide)] at q;exact q
 ·exact cx.bT.fresh (Nat.le_of_lt (x.above y c (xG h)))
 ·unfold start;show _=N.length;rw[jI,eb,List.length_replicate];omega
def Tw{er:mC}{P:cE}{w:b8}{K:br}{mg:Str->Option ag}{base:bI}{k:Nat}{f:ak}{name qual:Str}{params:Arguments}{body:List Stmt}{scope:Scope}{y0 dA doc pm cX dO hG:ag}{an e4:Option ak}
  {lI:Array (Option ag)} {N ps:List Str} {sp:kT} (lk:K.lookup f=some ⟨hG,e4,.func (mj name qual params body scope y0 dA doc pm an cX dO),lI⟩) (ec:rl K cX qual=true) (S:c' N ps scope)
  (len:∀vs H Q E,sp vs H Q E->vs.length=ps.length)
  (FC:∀(A:cU) (outer:List Env) (s:aK) (H:aA) (vs:List V) (Q:dj) (E:gU),dF k (A.deeper (envOfC qual scope s.heap.objs.size f cX))->sp vs H Q E ->
   ∃t,kp (jX er P w K mg base N qual scope f cX A outer s H E) body t/\t {bR:=λ_ ah=>Q .ff ah,dB:=Q} (start N vs) H):
  fh P w K mg base er (k+1) f (mj name qual params body scope y0 dA doc pm an cX dO) ps sp:=by
 refine⟨len,λA outer s H args us vs Q E au cx ab r q2=>?_⟩
 have av:=len _ _ _ _ q2;have nG:K.In s.heap:=cx.mod.uE.keeps λb o e=>(cx.bs b o e).1;have lim:s.heap.NoLimit:=cx.mod.nolimit.keeps λb o e=>(cx.bs b o e).1;have FX:∀y∈ps.zip us,scope.names.lookup y.1=some .local\/(scope.names.lookup y.1=some .cell/\((cellsFrom (s.heap.objs.size+1) scope.names []).lookup y.1).isSome=true):=λ⟨n,v⟩ aV=>by
  rcases S.par n (List.of_mem_zip aV).1 with q|q
  ·exact .inl q
  ·exact .inr ⟨q,PySem.W.cellsFrom_some _ _ _ (.inl q)⟩
 refine codeAny_call_function au.depth (nG _ _ lk) rfl S.co S.gen rfl (PySem.W.codeRec_of nG ec) (ab _ _ _ _ ?_)
 refine wpAny_newFunctionEnv_cells S.kind FX λenv he s1 x=>?_
 subst he;refine⟨lim.keeps x.toInCall.keep,codeAny_func ?_⟩;obtain⟨t,bo,a_⟩:=FC A outer s H vs Q E (au.deeper _) q2;have I:Inv (jX er P w K mg base N qual scope f cX A outer s H E) [] (start N vs) H s1:=ahh S au.hd cx av r x;refine gj (bo [] s1 (start N vs) H _ I a_) (λnT s' aC=>?_) λe s' aC=>aC;have fin:∀{cj:St} {ah:aA} {v:V} {u:ag},Inv (jX er P w K mg base N qual scope f cX A outer s H E) [] cj ah s'->RelV v u->Q v ah->C1 outer P w H s Q u s':=
  λ{cj ah v u} J bV q=>⟨v,ah,J.os,J.bare,J.base,J.bT,bV,q⟩
 cases nT with
|ret u=>
  obtain⟨v,cj,ah,J,bV,q⟩:=aC;exact fin J bV q
|next=>
  obtain⟨cj,ah,J,q⟩:=aC;exact fin (v:=V.ff) (u:=Value.none) J rfl q
|brk=>
  obtain⟨_,_,_,q⟩:=aC;exact kd q
|cont=>
  obtain⟨_,_,_,q⟩:=aC;exact kd q
end bG
namespace bG
open PySem PySem.Spec PyProof.Rows
section
variable {X:bt}{x:Str}{p pos:Pos}{e:bz}{es:List bz}{t:gs}{id T:String}{r:List V->aA->dj->Prop}
def IM(r:List V->aA->dj->Prop)(t:gs):TE:=λσ H Q=>t σ H λvs H1=>r vs H1 Q
def yg(ar:kO X (.builtin id) r)(bx:eP X x)(hm:X.mg x=none)(a4:bootBuiltins x=some (.builtin id))(aq:h5 X (e::es) t)(aX:x≠"__name__":=by decide)(k0:(x==("__debug__":Str))=false:=by decide)
  (he:bb (e::es) X.env=(false,eval e X.env)::bb es X.env:=by rfl) (hpl:(c0 pos (bb es X.env)).any (·.1)=false:=by rfl):b3 X (.Call (.Name x p) (e::es) [] pos) (IM r t):=by
 intro ai s σ H Q I h;refine pe (pq I bx hm a4 ?_ aX k0);exact PyProof.Rows.callWith_builtin1 (cD (aq pos ai s σ H _ I h) λus s1 ⟨vs,H1,bw,bC,aM⟩=>ar ai s1 σ H1 vs us Q bw bC aM) he hpl
def x8(ar:kO X (.type T) r)(bx:eP X x)(hm:X.mg x=none)(a4:bootBuiltins x=some (.type T))(aq:h5 X (e::es) t)(aX:x≠"__name__":=by decide)(k0:(x==("__debug__":Str))=false:=by decide)
  (he:bb (e::es) X.env=(false,eval e X.env)::bb es X.env:=by rfl) (hpl:(c0 pos (bb es X.env)).any (·.1)=false:=by rfl):b3 X (.Call (.Name x p) (e::es) [] pos) (IM r t):=by
 intro ai s σ H Q I h;refine pe (pq I bx hm a4 ?_ aX k0);exact amg (cD (aq pos ai s σ H _ I h) λus s1 ⟨vs,H1,bw,bC,aM⟩=>ar ai s1 σ H1 vs us Q bw bC aM) he hpl
end
end bG
namespace LJ
open PySem PyProof.Rows
section
variable {prog:cE}{w:b8}{A:cU}{E:ag->aK->Prop}{s:aK}
def V8{t b:ak}{vs ws:List ag}{Q:ag->aK->Prop}(bo:IsTup s.heap t vs.toArray)(ab:IsTup s.heap b ws.toArray)(a4:vs≠[])
  (ae:ws=[]->Q (.ref t) s) (aj:ws≠[]->Q (.ref s.heap.objs.size) {s with heap:=s.heap.push {cls:=.type "tuple",data:=.seq (vs++ws).toArray} })
  (hsz:vs.length+ws.length<=cB):a6 (bS prog w) A (oq .Add (.ref t) (.ref b)) Q E s:=by
 obtain⟨⟨cls,e0,data,df⟩,aE,ar,n,hd⟩:=id bo;obtain⟨⟨EN,mI,data2,lL⟩,sF,n0,eH,hd2⟩:=id ab;simp only at ar hd n0 hd2;subst ar hd n0 hd2;have e:vs.toArray++ws.toArray=(vs++ws).toArray:=by simp
 by_cases hw:ws=[]
 ·exact concat_meets ⟨_,aE,rfl⟩ ⟨_,sF,rfl⟩ noFill_tuple_add seq_tuple_add PySem.F.slot_tuple_add PySem.F.entry_tuple_add (PySem.F.args_tuple_add_2 _ _)
   (tuple_addW1 t b vs.toArray ws.toArray n eH e0 mI df lL (by simpa using a4) (by simp[hw])) ⟨aE,sF,ae hw⟩
 ·refine concat_meets ⟨_,aE,rfl⟩ ⟨_,sF,rfl⟩ noFill_tuple_add seq_tuple_add PySem.F.slot_tuple_add PySem.F.entry_tuple_add (PySem.F.args_tuple_add_2 _ _)
   (tuple_addW2 t b vs.toArray ws.toArray n eH e0 mI df lL (by simpa using a4) (by simpa using hw) (by rw[eo,eo];exact hsz)) ⟨aE,sF,?_⟩
  rw[e];exact aj hw
noncomputable def AY(n d:Nat):Option Int->Nat
|none=>d
|some v=>if v<0 then (v+(n:Int)).toNat else min v.toNat n
end
end LJ
namespace bG
open PySem PySem.Spec PyProof.Rows
abbrev b6:=St->aA->(Option Int->aA->Prop)->Prop
section
variable {X:bt}{e:bz}{j_:TE}{lo ba:Option bz}{o5 th:b6}{pos fl:Pos}
noncomputable def akV(K:br):hn:=λx y H Q=>∃a b xs ys,x=.ref a/\y=.ref b/\c6 K H a xs/\c6 K H b ys/\xs≠[]/\xs.length+ys.length<=cB /\
 (ys=[]->Q (.ref a) H)/\(ys≠[]->∀p,H p=none->Q (.ref p) (upd H p (.tup (xs++ys))))
def Vals.AE{xs:List V}{us:List ag}(r:Vals xs us):us=[] <-> xs=[]:=by
 cases r with
|nil=>simp
|cons _ _=>simp
def ajc:fp X (oq .Add) (akV X.K):=by
 intro ai s σ H x y v u Q I aY bO h;obtain⟨a,b,xs,ys,rfl,rfl,aq,ab,hx,hz,aM,a9⟩:=h;cases aY;cases bO;obtain⟨its,bC,uL,_⟩:=I.tuple aq;obtain⟨gH,b7,fl,_⟩:=I.tuple ab;refine LJ.V8 uL fl (λz=>hx (bC.AE.mp z)) (λz=>⟨.ref a,H,I,rfl,aM (b7.AE.mp z)⟩) (λz=>?_) (by rw[<- bC.length,<- b7.length];exact hz);refine⟨.ref s.heap.objs.size,_,I.laid (t':=s.toks) (o:=.tup (xs++ys)) (λb dY q=>cT _ q) (dw _) ?_,rfl,a9 (λw=>z (b7.AE.mpr w)) _ (I.bT.fresh (dw _))⟩;exact⟨by rw[jI];exact hz,_,bC.append b7,oB.new _ _⟩
end
end bG
namespace bG
open PySem PySem.Spec PyProof.Rows
noncomputable def q4(n:Nat)(i:Int):Option Nat:=if 0<=i then (if i<n then some i.toNat else none) else if -(n:Int)<=i then some (i+n).toNat else none
def v7{α:Type}(xs:List α)(i:Int):Option α:=(q4 xs.length i).bind λj=>xs[j]?
def ajm{n:Nat}{i:Int}{j:Nat}(h:q4 n i=some j):seqIndex? i n=some j/\j<n/\-(n:Int)<=i/\i<n:=by
 unfold q4 at h;by_cases h0:0<=i
 ·rw[if_pos h0] at h;by_cases ae:i<n
  ·rw[if_pos ae] at h;have e:i.toNat=j:=fc h;exact⟨by rw[seqIndex_of h0 ae,e],by omega,by omega,ae⟩
  ·rw[if_neg ae] at h;cases h
 ·rw[if_neg h0] at h;by_cases ae:-(n:Int)<=i
  ·rw[if_pos ae] at h;have e:(i+n).toNat=j:=fc h;exact⟨by rw[seqIndex_neg (by omega) ae,e],by omega,ae,by omega⟩
  ·rw[if_neg ae] at h;cases h
def K5{α:Type}{xs:List α}{i:Int}{v:α}(h:v7 xs i=some v):∃j,seqIndex? i xs.length=some j/\xs[j]?=some v/\j<xs.length/\-(xs.length:Int)<=i/\i<xs.length:=by
 unfold v7 at h;cases e:q4 xs.length i with
|none=>rw[e] at h;cases h
|some j=>
  rw[e] at h;obtain⟨ae,aj,a8,b9⟩:=ajm e;exact⟨j,ae,h,aj,a8,b9⟩
def SE(b:bz):Prop:=∀o i,subscripted b false o i=operate [o,i] (getItem o i)
noncomputable def pJ(X:bt)(r:hn):Prop:=
 ∀(value slice:bz) (ai:List (ak×Obj)) (s:aK) (σ:St) (H:aA) (x y:V) (v u:ag) (Q:dj),Inv X ai σ H s->RelV x v->RelV y u->r x y H Q ->
  subscripted slice false v u=operate [v,u] (getItem v u)->a6 (bS X.prog X.w) X.A (subscriptTail value slice v u) (hO X ai σ Q) X.d3 s
noncomputable def De(X:bt)(id:String)(r:V->List V->aA->dj->Prop):Prop:=
 ∀(ai:List (ak×Obj)) (s:aK) (σ:St) (H:aA) (x:V) (xs:List V) (v:ag) (us:List ag) (Q:dj),Inv X ai σ H s->RelV x v->Vals xs us->r x xs H Q ->
  a6 (bS X.prog X.w) X.A (call (.builtin id) (v::us)) (hO X ai σ Q) X.d3 s
section
variable {X:bt}{a b:bz}{cw dd:TE}{pos:Pos}
def pJ.or{r cu:hn}(h:pJ X r)(h':pJ X cu):pJ X (λx y H Q=>r x y H Q\/cu x y H Q):=by
 intro value slice ai s σ H x y v u Q I aY bO q aC;rcases q with q|q
 ·exact h value slice ai s σ H x y v u Q I aY bO q aC
 ·exact h' value slice ai s σ H x y v u Q I aY bO q aC
def ak5{r:hn}(au:pJ X r)(aq:b3 X a cw)(ab:b3 X b dd)(aC:SE b):b3 X (.Subscript a b pos) (xv r cw dd):=by
 intro ai s σ H Q I h;exact Subscript_ (D2 aq ab I h λv u s2 x y bf ck aY bO q=>au a b ai s2 σ bf x y v u Q ck aY bO q (aC _ _))
noncomputable def Ou(K:br):hn:=λx y H Q=>∃p xs i v,x=.ref p/\y=.int i/\gb K H p xs/\v7 xs i=some v/\Q v H
noncomputable def Ow(K:br):hn:=λx y H Q=>∃p xs i v,x=.ref p/\y=.int i/\c6 K H p xs/\v7 xs i=some v/\Q v H
noncomputable def Ov:hn:=λx y H Q=>∃z i c,x=.str z/\y=.int i/\z.length<=cB/\v7 z.cps.toList i=some c/\Q (.str ⟨#[c]⟩) H
def ajl:pJ X (Ou X.K):=by
 intro value slice ai s σ H x y v u Q I aY bO h aC;obtain⟨p,xs,i,z,rfl,rfl,a_,he,q⟩:=h;cases aY;obtain⟨t,rfl⟩:=bO;obtain⟨its,r,pl,hz⟩:=I.list a_;obtain⟨j,ae,aj,a8,b9,gE⟩:=K5 he;obtain⟨w,l4,jj⟩:=r.get aj;have av:=r.length;have aX:=vG;have fin:hO X ai σ Q w s:=⟨z,H,I,jj,q⟩;by_cases h0:0<=i
 ·have a':i.toNat=j:=by
   rw[seqIndex_of h0 gE] at ae;exact fc ae
  exact item_listR pl.isList h0 (by omega) (by rw[a'];simpa using l4) fin aC
 ·have a':(i+(its.toArray.size:Int)).toNat=j:=by
   rw[seqIndex_neg (by omega) b9] at ae;rw[eo,<- av];exact fc ae
  exact subscriptTail_builtinR (x:=w) pl.isList.typeIs slot_list_getitem.lookup
   (wpAny_getItem_list_neg (Q:=λr s'=>r=w/\hO X ai σ Q r s') pl.isList (by omega) (by rw[eo] <;> omega) (by omega) (by rw[a'];simpa using l4) ⟨rfl,fin⟩) aC
def akt:pJ X (Ow X.K):=by
 intro value slice ai s σ H x y v u Q I aY bO h aC;obtain⟨p,xs,i,z,rfl,rfl,a_,he,q⟩:=h;cases aY;obtain⟨t,rfl⟩:=bO;obtain⟨its,r,pl,hz⟩:=I.tuple a_;obtain⟨j,ae,aj,a8,b9,gE⟩:=K5 he;obtain⟨w,l4,jj⟩:=r.get aj;have av:=r.length;have aX:=vG;have fin:hO X ai σ Q w s:=⟨z,H,I,jj,q⟩;exact subscriptTail_builtinR (x:=w) pl.typeIs slot_tuple_getitem.lookup
  (getItem_tuple (j:=j) (Q:=λr s'=>r=w/\hO X ai σ Q r s') pl (by omega) (by omega) (by rw[eo,<- av];exact ae) (by simpa using l4) ⟨rfl,fin⟩) aC
def aku:pJ X Ov:=by
 intro value slice ai s σ H x y v u Q I aY bO h aC;obtain⟨z,i,c,rfl,rfl,hz,he,q⟩:=h;obtain⟨t,rfl⟩:=aY;obtain⟨t',rfl⟩:=bO;obtain⟨j,ae,aj,a8,b9,gE⟩:=K5 he;have av:z.cps.toList.length=z.length:=by simp[Str.length]
 rw[av] at ae b9 gE;have aX:=vG;exact tail_any (typeIs_str s z t) slot_str_getitem.lookup (getItem_str (c:=c) (by
  have ax:decide (i < -(2 ^ 63:Int))=false:=decide_eq_false (by omega);have aL:decide (i >= 2 ^ 63)=false:=decide_eq_false (by omega);rw[ax,aL,Bool.or_false]) (by rw[ae];simpa using aj) ⟨.str ⟨#[c]⟩,H,I.tok _,⟨_,rfl⟩,q⟩) aC
def acn(K:br):hn:=λx y H Q=>Ou K x y H Q\/Ow K x y H Q\/Ov x y H Q
def akv:pJ X (acn X.K):=ajl.or (akt.or aku)
def afi:kO X (.builtin "len") (λxs H Q=>∃p ys,xs=[.ref p]/\(gb X.K H p ys\/c6 X.K H p ys)/\Q (.int ys.length) H):=by
 intro ai s σ H xs us Q I r h;obtain⟨p,ys,rfl,a_,q⟩:=h;obtain⟨u,rfl,aY⟩:=vals1 r;cases aY;have aX:=vG;rcases a_ with a_|a_
 ·obtain⟨its,cu,pl,hz⟩:=I.list a_;have hlen:=cu.length;exact Calls.call_len_list pl.isList (by simp only[eo] <;> omega) ⟨.int ys.length,H,I.tok _,⟨s.toks+1,by rw[eo,hlen]⟩,q⟩
 ·obtain⟨its,cu,pl,hz⟩:=I.tuple a_;have hlen:=cu.length;exact len_tuple pl (by simp only[eo] <;> omega) ⟨.int ys.length,H,I.tok _,⟨s.toks+1,by rw[eo,hlen]⟩,q⟩
def afh:kO X (.builtin "len") (λxs H Q=>∃z,xs=[.str z]/\z.length<=cB/\Q (.int z.length) H):=by
 intro ai s σ H xs us Q I r h;obtain⟨z,rfl,hz,q⟩:=h;obtain⟨u,rfl,t,rfl⟩:=vals1 r;have aX:=vG;exact len_str (by omega) ⟨.int z.length,H,I.tok _,⟨_,rfl⟩,q⟩
def kO.or{f:ag}{r cu:List V->aA->dj->Prop}(h:kO X f r)(h':kO X f cu):kO X f (λxs H Q=>r xs H Q\/cu xs H Q):=by
 intro ai s σ H xs us Q I rs q;rcases q with q|q
 ·exact h ai s σ H xs us Q I rs q
 ·exact h' ai s σ H xs us Q I rs q
def PJ:kO X (.type "list") (λxs H Q=>∃p ys,xs=[.ref p]/\(gb X.K H p ys\/c6 X.K H p ys)/\∀l,H l=none->Q (.ref l) (upd H l (.lst ys))):=by
 intro ai s σ H xs us Q I r h;obtain⟨p,ys,rfl,a_,q⟩:=h;obtain⟨u,rfl,aY⟩:=vals1 r;cases aY;have fin:∀(its:List ag),Vals ys its->ys.length<=cB->∀(h':bI) (cA:Nat),(∀b o',s.heap.get? b=some o'->h'.get? b=some o') ->
   h'.get? s.heap.objs.size=some {cls:=.type "list",dict:=none,data:=.seq its.toArray cA,slots:=#[]}->hO X ai σ Q (.ref s.heap.objs.size) {s with heap:=h'}:=λits cu hz h' cA aw e=>
  ⟨.ref s.heap.objs.size,_,I.laid (t':=s.toks) aw (dw _) (show hv X.prog X.w _ h' _ (.lst ys) from ⟨hz,its,cA,cu,e⟩),rfl,q _ (I.bT.fresh (dw _))⟩
 rcases a_ with a_|a_
 ·obtain⟨its,cu,pl,hz⟩:=I.list a_;have hlen:=cu.length;obtain⟨o,aE,ar,n,hd⟩:=pl.isList;exact call_list_seq p (.inl rfl) aE ar hd (λh' cA aw e=>fin its cu hz h' cA aw e) (by simp only[eo] <;> omega)
 ·obtain⟨its,cu,pl,hz⟩:=I.tuple a_;have hlen:=cu.length;obtain⟨o,aE,ar,n,hd⟩:=pl;exact call_list_seq p (.inr rfl) aE ar hd (λh' cA aw e=>fin its cu hz h' cA aw e) (by simp only[eo] <;> omega)
def aeR:kO X (.type "tuple") (λxs H Q=>∃p ys,xs=[.ref p]/\((gb X.K H p ys/\∀l,H l=none->Q (.ref l) (upd H l (.tup ys)))\/(c6 X.K H p ys/\Q (.ref p) H))):=by
 intro ai s σ H xs us Q I r h;obtain⟨p,ys,rfl,h⟩:=h;obtain⟨u,rfl,aY⟩:=vals1 r;cases aY;rcases h with ⟨a_,q⟩|⟨a_,q⟩
 ·obtain⟨its,cu,pl,hz⟩:=I.list a_;have hlen:=cu.length;refine call_tuple_list pl.isList (λh' aw=>?_) (by simp only[eo] <;> omega);have bw:Inv X ai σ H {s with heap:=h'}:=I.kept (t':=s.toks) aw;have ck:Inv X ai σ (upd H h'.objs.size (.tup ys)) {s with heap:=h'.push {cls:=.type "tuple",data:=.seq its.toArray} }:=
   bw.laid (t':=s.toks) (λb o e=>cT _ e) (dw _) (show hv X.prog X.w _ _ _ (.tup ys) from ⟨hz,its,cu,oB.new _ _⟩)
  exact⟨.ref h'.objs.size,_,ck,rfl,q _ (bw.bT.fresh (dw _))⟩
 ·obtain⟨its,cu,pl,hz⟩:=I.tuple a_;exact call_tuple_same pl ⟨.ref p,H,I,rfl,q⟩
noncomputable def IY(K:br)(T:String)(x:V)(H:aA):Prop:=match x with
|.str _=>T="str"
|.int _=>T="int"
|.ref p=>(T="list"/\∃xs,gb K H p xs)\/(T="tuple"/\∃o,K.lookup p=some o/\o.cls=.type "tuple"/\o.dict=none) \/
   (T="dict"/\((∃kvs,H p=some (.dP kvs))\/∃kvs,H p=some (.nP kvs)))\/(T="set"/\∃S n,H p=some (.set S n))
|_=>False
def SK{ai:List (ak×Obj)}{σ:St}{H:aA}{s:aK}{T:String}{x:V}{v:ag}(I:Inv X ai σ H s)(r:RelV x v)(ty:IY X.K T x H):
  s.TypeIs v T/\∀a,v=.ref a->∃dY,s.heap.get? a=some dY/\dY.dict=none:=by
 cases x with
|str z=>
  obtain⟨t,rfl⟩:=r;cases (show T="str" from ty);exact⟨typeIs_str s z t,λ_ e=>nomatch e⟩
|int i=>
  obtain⟨t,rfl⟩:=r;cases (show T="int" from ty);exact⟨typeIs_int s i t,λ_ e=>nomatch e⟩
|ref p=>
  cases r
  rcases ty with ⟨rfl,xs,a_⟩|⟨rfl,o,ay,ar,hd⟩|⟨rfl,ay⟩|⟨rfl,S,n,ay⟩
  ·obtain⟨its,_,pl,_⟩:=I.list a_;refine⟨pl.isList.typeIs,λa e=>?_⟩;cases e;obtain⟨o,n,e,c,hd,_⟩:=pl;exact⟨o,e,hd⟩
  ·refine⟨⟨o,I.k2 p o ay,ar⟩,λa e=>?_⟩
   cases e
   exact⟨o,I.k2 _ o ay,hd⟩
  ·have z:∃o,s.heap.get? p=some o/\o.ExactDict:=by
    rcases ay with ⟨kvs,ay⟩|⟨kvs,ay⟩
    ·obtain⟨_,_,_,_,o,_,_,e,ex,_⟩:=I.bT p _ ay;exact⟨o,e,ex⟩
    ·obtain⟨_,_,_,_,o,_,_,e,ex,_⟩:=I.bT p _ ay;exact⟨o,e,ex⟩
   obtain⟨o,e,ex⟩:=z;refine⟨⟨o,e,ex.1⟩,λa aL=>?_⟩;cases aL;exact⟨o,e,ex.2.1⟩
  ·obtain⟨o,_,_,_,e,ex,_⟩:=I.bT p _ ay;refine⟨⟨o,e,ex.1⟩,λa aL=>?_⟩;cases aL;exact⟨o,e,ex.2.1⟩
|_=>exact kd ty
noncomputable def ady(K:br)(T:String)(r:V->List V->aA->dj->Prop)(to:TE):TE:=λσ H Q=>to σ H λx H1=>IY K T x H1/\r x [] H1 Q
noncomputable def adx(K:br)(T:String)(r:V->List V->aA->dj->Prop)(to:TE)(t:gs):TE:=λσ H Q=>to σ H λx H1=>IY K T x H1/\t σ H1 λxs bf=>r x xs bf Q
variable {o e:bz}{es:List bz}{to:TE}{t:gs}{name:Str}{apos de:Pos}{T id:String}{r:V->List V->aA->dj->Prop}
def SS(Im:PlainAttrs T)(slot:Slot T name id)(F':typeOf (.builtin id)=pure (.type "method_descriptor"))(hm:De X id r)(aE:b3 X o to)
  (i8:ir o name X.env (eval o X.env)=eval o X.env:=by rfl) (i9:(apos.endLine==de.line)=true:=by rfl):b3 X (.Call (.Attribute o name apos) [] [] de) (ady X.K T r to):=by
 intro ai s σ H Q I h;refine wpAny_Call_method0_late i8 i9 (cD (aE ai s σ H _ I h) λv s1 ⟨x,H1,bw,bC,ty,aM⟩=>?_);obtain⟨ae,aj⟩:=SK bw bC ty;exact⟨T,id,Im,slot,F',ae,aj,Calls.callWith_builtin rfl (PySem.evalArgs_none (hm ai s1 σ H1 x [] v [] Q bw bC .nil aM))⟩
def vJ(Im:PlainAttrs T)(slot:Slot T name id)(F':typeOf (.builtin id)=pure (.type "method_descriptor"))(hm:De X id r)(aE:b3 X o to)(aq:h5 X (e::es) t)
  (i8:ir o name X.env (eval o X.env)=eval o X.env:=by rfl)
  (l8:((c0 de (bb (e::es) X.env)).all (λx=>!x.1) && (gm de (gk [] X.env)).all (λx=>x.1.isSome)
   && decide ((e::es).length+([]:List Keyword).length+(if ([]:List Keyword).isEmpty then 0 else 1)<30))=true:=by rfl)
  (i9:(apos.endLine==de.line)=true:=by rfl) (aC:bb (e::es) X.env=(false,eval e X.env)::bb es X.env:=by rfl) (l_:(c0 de (bb es X.env)).any (·.1)=false:=by rfl):
  b3 X (.Call (.Attribute o name apos) (e::es) [] de) (adx X.K T r to t):=by
 intro ai s σ H Q I h;refine wpAny_Call_method_late i8 l8 i9 rfl (cD (aE ai s σ H _ I h) λv s1 ⟨x,H1,bw,bC,ty,aM⟩=>?_);obtain⟨ae,aj⟩:=SK bw bC ty;refine⟨T,id,Im,slot,F',ae,aj,?_⟩;have oQ:=aq de ai s1 σ H1 _ bw aM;rw[aC] at oQ ⊢;refine Calls.callWith_builtin (by show (false || (c0 de (bb es X.env)).any (·.1))=false;rw[l_] <;> rfl) (Calls.evalArgs_plain ?_);exact cD oQ λus s2 ⟨vs,bf,ck,b7,a9⟩=>hm ai s2 σ bf x vs v us Q ck bC b7 a9
end
end bG
namespace bG
open PySem PySem.Spec PyProof.Rows
noncomputable def r0(X:bt)(id:String)(r:V->List V->aA->dj->Prop):Prop:=
 ∀(ai:List (ak×Obj)) (s:aK) (σ:St) (H:aA) (x:V) (xs:List V) (v:ag) (us:List ag) (Q:dj),Inv X ai σ H s->RelV x v->Vals xs us->r x xs H Q ->
  a6 (bS X.prog X.w) X.A (call (.builtin id) (v::us)) (hO X ai σ Q) X.d3 s
def Vals.one:∀{x:V} {us:List ag},Vals [x] us->∃u,us=[u]/\RelV x u
|_,_,.cons r .nil=>⟨_,rfl,r⟩
def Vals.two:∀{x y:V} {us:List ag},Vals [x,y] us->∃u v,us=[u,v]/\RelV x u/\RelV y v
|_,_,_,.cons r (.cons q .nil)=>⟨_,_,rfl,r,q⟩
def Vals.zero:∀{us:List ag},Vals [] us->us=[]
|_,.nil=>rfl
theorem Vals.dropLast{xs:List V}{us:List ag}(h:Vals xs us):Vals xs.dropLast us.dropLast:=by
 induction h with
|nil=>exact .nil
|cons r t bc=>
  cases t with
  |nil=>exact .nil
  |cons q t'=>exact .cons r bc
theorem Vals.eraseIdx:∀{xs:List V} {us:List ag} (i:Nat),Vals xs us->Vals (xs.eraseIdx i) (us.eraseIdx i)
|_,_,_,.nil=>.nil
|_,_,0,.cons _ t=>t
|_,_,i+1,.cons r t=>.cons r (Vals.eraseIdx i t)
def agi{α:Type}(l:List α):l.eraseIdx (l.length - 1)=l.dropLast:=by
 induction l with
|nil=>rfl
|cons a r bc=>
  cases r with
  |nil=>rfl
  |cons b r=>
   have e:(a::b::r).length - 1=((b::r).length - 1)+1:=by
    have ae:(a::b::r).length=r.length+2:=rfl;have aj:(b::r).length=r.length+1:=rfl;omega
   rw[e,List.eraseIdx_cons_succ,bc]
   all_goals rfl
theorem QR{α:Type}:∀(l:List α) (i:Nat),(l.eraseIdx i).length<=l.length
| [],_=>dw _
|_::_,0=>ni _
|_::r,i+1=>Nat.succ_le_succ (QR r i)
section
variable {X:bt}{ai:List (ak×Obj)}{σ:St}{H:aA}{s:aK}{l b:ak}{xs ys zs:List V}
def Inv.uH{its its':List ag}{n:Nat}{f:Array ag->Array ag}{t':Nat}(I:Inv X ai σ H s)(eA:H l=some (.lst xs))
  (e:s.heap.get? l=some {cls:=.type "list",data:=.seq its.toArray n}) (hf:f its.toArray=its'.toArray) (a4:Vals ys its') (hz:ys.length<=cB):
  Inv X ai σ (upd H l (.lst ys)) {s with heap:=s.heap.update l (Obj.mapSeq f),toks:=t'}:=by
 have q:=PySem.IsL.update e f;rw[hf] at q;refine I.write (x:=l) (e:=l) (by rw[eA];exact trivial) (.inl rfl) (λnM u ab bH=>(nj s.heap (Obj.mapSeq f) (Ne.symm ab)).trans bH) ⟨_,q⟩ ?_;exact⟨hz,its',_,a4,q⟩
def Inv.Ay{its:List ag}{t':Nat}(I:Inv X ai σ H s)(a4:Vals ys its)(hz:ys.length<=cB):
  Inv X ai σ (upd H s.heap.objs.size (.lst ys)) {s with heap:=s.heap.push {cls:=.type "list",data:=.seq its.toArray},toks:=t'}:=
 I.laid (λ_ _ q=>cT _ q) (dw _) ⟨hz,its,0,a4,fy _ rfl⟩
theorem Inv.fresh(I:Inv X ai σ H s):H s.heap.objs.size=none:=I.bT.fresh (dw _)
def Inv.uI(I:Inv X ai σ H s)(eA:H l=some (.lst xs)):xs.length<=cB/\∃(its:List ag) (n:Nat),Vals xs its/\xs.length=its.length/\s.heap.get? l=some {cls:=.type "list",data:=.seq its.toArray n}:=by
 obtain⟨z,its,n,r,e⟩:=I.bT l _ eA;exact⟨z,its,n,r,r.length,e⟩
def RB{n:Nat}(h:n<=cB):Builtin.List.listTooLong n=false:=by
 unfold Builtin.List.listTooLong;exact decide_eq_false (by omega)
end
section
variable {X:bt}
noncomputable def aiX:V->List V->aA->dj->Prop:=λx vs H Q=>∃l xs y,x=.ref l/\vs=[y]/\H l=some (.lst xs)/\xs.length<cB/\Q .ff (upd H l (.lst (xs++[y])))
def J_:r0 X "list.append" aiX:=by
 intro ai s σ H x vs v us Q I aY bV h;obtain⟨l,xs,y,rfl,rfl,eA,hz,q⟩:=h;cases aY;obtain⟨u,rfl,c_⟩:=bV.one;obtain⟨z,its,n,r,av,e⟩:=I.uI eA;refine qm F.slot_list_append ⟨_,e,rfl⟩ F.entry_list_append (F.args_list_append_2 _ _) (PySem.list_append l its.toArray n u (by rw[eo];omega)) ⟨e,?_⟩;refine⟨.ff,_,I.uH (its':=its++[u]) eA e (by simp) (r.append (.cons c_ .nil)) ?_,rfl,q⟩;rw[jI,List.length_singleton];omega
noncomputable def Iy:V->List V->aA->dj->Prop:=λx vs H Q=>∃l xs y,x=.ref l/\vs=[]/\H l=some (.lst xs)/\xs[xs.length - 1]?=some y/\Q y (upd H l (.lst xs.dropLast))
def S3:r0 X "list.pop" Iy:=by
 intro ai s σ H x vs v us Q I aY bV h;obtain⟨l,xs,y,rfl,rfl,eA,aV,q⟩:=h;cases aY;have Y9:=bV.zero;subst Y9;obtain⟨z,its,n,r,av,e⟩:=I.uI eA;obtain⟨u,bH,c_⟩:=r.get aV;have uD:its.toArray[its.toArray.size - 1]?=some u:=by
  show its.toArray[its.length - 1]?=some u
  rw[<- Array.getElem?_toList,<- av];exact bH
 refine qm F.slot_list_pop ⟨_,e,rfl⟩ F.entry_list_pop (F.args_list_pop_1 _) (MeetsSeq.list_pop_last l its.toArray n u uD (by rw[eo];omega)) ⟨e,?_⟩
 refine⟨y,_,I.uH (its':=its.dropLast) eA e ?_ r.dropLast ?_,c_,q⟩
 ·show its.toArray.eraseIdxIfInBounds (its.toArray.size - 1)=its.dropLast.toArray
  rw[eo,List.eraseIdxIfInBounds_toArray,agi]
 ·rw[List.length_dropLast];omega
end
end bG
namespace Lp
open PySem PySem.W PySem.Calls PyProof.Rows
def aez{P:Params}{h:bI}:∀(ns:List Int) (vs:List ag),WellAll P h vs (ns.map WData.int)->IntsAre vs ns:=by
 intro ns
 induction ns with
|nil=>
  intro vs w;rw[kI] at w;cases w;exact .nil
|cons n ns bc=>
  intro vs w;rw[cP] at w;cases w with
  |cons a b=>
   cases a
   exact .cons _ _ (bc _ b)
def agO{l:OpenLaw}{n:Nat}(aX:l.most=some n){P:Params}{h:bI}{args:List WData}{vals:List ag}
    (zT:l.row.toRowW.claim.pre args=true) (Gb:WellAll P h vals args):
    ∃a vs ns,vals=[Value.ref a]/\args=[WData.list (ns.map WData.int)]/\h.get? a=some {cls:=.type "list",data:=.seq vs.toArray}/\IntsAre vs ns/\ns.length<=n:=by
  have Y5:WShape.hasAll [] args [.list .int]=true:=(pre_splitW zT).1;have ar:l.pre.holds [] {args:=args}=true:=(pre_splitW zT).2;obtain⟨d,r,rfl,ae,aj⟩:=hasAllW_cons Y5;obtain rfl:=hasAllW_nil aj;obtain⟨xs,rfl,a8⟩:=hasW_list ae;obtain⟨ns,rfl⟩:=items_int a8;have hlen:ns.length<=n:=by
    unfold OpenLaw.pre at ar;have b9:(WTm.not (.lt (.lit (.int (n:Int))) (.len (.arg 0)))).holds [] {args:=[.list (ns.map .int)]}=true:=by
      have b9:=(holds_andW ar).1;rw[aX] at b9;exact b9
    have gE:=condW_of b9 (w_not (w_lt w_lit (w_len_list (w_arg rfl))));rw[eb] at gE;refine Nat.le_of_not_lt λq=>?_;have d2:(n:Int)<((ns.length:Nat):Int):=by omega
    first
      | (rw[decide_eq_true d2] at gE;exact absurd gE (by decide))
      | (simp at gE;omega)
  cases Gb with
  |cons k5 nc=>
    cases nc
    cases k5 with
    |list aE wA=>exact⟨_,_,ns,rfl,rfl,aE,aez ns _ wA,hlen⟩
def agW(l:OpenLaw)(args:List WData):l.row.toRowW.claim.post args (.bool true) args=true:=
 postW_of (r:=l.row.toRowW) (X:=(true==true))
  (show WShape.has [] (.bool true) .bool=true by first|rfl|decide|simp[WShape.has,WShape.arms,WShape.armsAll])
  (show (WTm.eq .res (.lit (.bool true))).value [] {args:=args,res:=some (.bool true),after:=args}=some (.bool (true==true)) from w_eq_bool (w_res rfl) w_lit) rfl
def V1{l:OpenLaw}{n:Nat}{q:cE}{loose:List Str}{ua:(Str->Option ag)->bI->Prop}{oI:b8->bI->Prop}{d:DefRec}
  (aX:l.most=some n) (wC:d.params.defaults=[])
  (call:∀(w:b8) (dM dc:aK) (mg mY:Str->Option ag) (cY:ak) (o:Obj) (pm cd doc:ag) (a:ak) (vs:List ag) (ns:List Int),
   Ground q loose [] ua w dM mg mY dc.heap->oI w dc.heap ->
   dc.heap.get? cY=some o->o.data=.func (docDef d.name d.params d.body d.scope pm cd doc)->dc.heap.CodeRec cd d.name->mg d.name=some (.ref cY) ->
   dc.heap.get? a=some {cls:=.type "list",data:=.seq vs.toArray}->IntsAre vs ns->ns.length<=n->dc.gens=#[] ->
   lT (bS l.prog w) callerA (.call (.ref cY) ⟨[.ref a],[]⟩) (λr s'=>r=.ok (.ret (.bool true))/\OldK dc.heap s'.heap/\s'.os=dc.os/\AllBare s'.gens) dc):
  WalkO q loose ua oI l.row.toRowW d [] (λf vs=>PySem.call f vs):=by
 intro w dM dc mg mY G Y cY o pm cd doc y0 dA aE hd ec jw wJ bx args vals as zT alC alO Gb zP;obtain rfl:y0=.none:=Dflts.none jw wC;obtain rfl:dA=.none:=Dflts.noKw jw;obtain⟨a,vs,ns,rfl,rfl,F4,hints,hlen⟩:=agO aX zT Gb;refine enter_call (rq (call w dM dc mg mY cY o pm cd doc a vs ns G Y aE (fd_plain hd) ec wJ F4 hints hlen bx) λr s' a_=>?_);obtain⟨rfl,aj,a8,b9⟩:=a_;exact⟨.inl ⟨.bool true,.bool true,[],rfl,λ_=>rfl,.bool true,agW l _,λ_=>⟨List.Pairwise.nil,λ_ hm=>(nomatch hm)⟩⟩,aj,a8,b9⟩
end Lp
namespace bG
open PySem PySem.Spec PyProof.Rows
theorem QC:∀{vs:List ag} {ns:List Int},IntsAre vs ns->Vals (ns.map V.int) vs
|_,_,.nil=>.nil
|_,_,.cons n t h=>.cons ⟨t,rfl⟩ (QC h)
end bG
namespace bG
open PySem PySem.Spec PyProof.Rows
end bG
namespace bG
open PySem PySem.Spec PyProof.Rows
noncomputable def inClass(s:Stmt)(j:Nat):Stmt:=match s with
|.ClassDef _ _ _ body _ _ _ _ _ _ _=>body.getD j (.Pass ⟨0,0,0,0⟩)
|_=>.Pass ⟨0,0,0,0⟩
noncomputable def oy(s:Stmt):Arguments:=match s with
|.FunctionDef _ a _ _ _ _ _ _ _ _=>a
|_=>{posonlyargs:=[],args:=[],vararg:=none,kwonlyargs:=[],kw_defaults:=[],kwarg:=none,defaults:=[]}
noncomputable def hK(s:Stmt):List Stmt:=match s with
|.FunctionDef _ _ b _ _ _ _ _ _ _=>b
|_=>[]
noncomputable def cb(s:Stmt):Scope:=match s with
|.FunctionDef _ _ _ _ _ _ sc _ _ _=>sc
|_=>{kind:=.function,names:=[],isGenerator:=false,isCoroutine:=false}
abbrev fg:mC:=λ_ _ _ _ _ _=>False
abbrev yM:gU:=λ_ _ _=>False
def amo{X:bt}:Passes fg X yM:=λ_ _ _ _ _ _ _ h=>h.elim
structure cW(K:br)(x qual:Str)(st:Stmt)(f:ak)(fd:gi):Prop where
 ex:∃(hG:ag) (e4:Option ak) (dA doc pm:ag) (an:Option ak) (cX dO:ag) (lI:Array (Option ag)),
  fd=mj x qual (oy st) (hK st) (cb st) .none dA doc pm an cX dO/\K.lookup f=some ⟨hG,e4,.func fd,lI⟩/\rl K cX qual=true
 aw:nf K (.ref f)=true
section
variable {P:cE}{w:b8}{K:br}{mg:Str->Option ag}{base:bI}
def cW.ok{x qual:Str}{st:Stmt}{f:ak}{fd:gi}{N ps:List Str}{k:Nat}{sp:kT}(F:cW K x qual st f fd)(S:c' N ps (cb st))(len:∀vs H Q E,sp vs H Q E->vs.length=ps.length)
  (FC:∀(cX:ag) (A:cU) (outer:List Env) (s:aK) (H:aA) (vs:List V) (Q:dj) (E:gU),dF k (A.deeper (envOfC qual (cb st) s.heap.objs.size f cX))->sp vs H Q E ->
   ∃t,kp (jX fg P w K mg base N qual (cb st) f cX A outer s H E).kD (hK st) t/\t {bR:=λ_ ah=>Q .ff ah,dB:=Q} (start N vs) H):fh P w K mg base fg (k+1) f fd ps sp:=by
 obtain⟨hG,e4,dA,doc,pm,an,cX,dO,lI,rfl,lk,ec⟩:=F.ex;refine Tw lk ec S len λA outer s H vs Q E au q2=>?_;obtain⟨t,h,q⟩:=FC cX A outer s H vs Q E au q2;exact⟨t,h.kD,q⟩
def cW.binds{x qual:Str}{st:Stmt}{f:ak}{fd:gi}{ps:List Str}(F:cW K x qual st f fd)
  (h:∀(dA doc pm:ag) (an:Option ak) (cX dO:ag) (us:List ag),us.length=ps.length->bindArgs (mj x qual (oy st) (hK st) (cb st) .none dA doc pm an cX dO) ⟨us,[]⟩=pure (ps.zip us)):Binds K fd ps []:=by
 obtain⟨hG,e4,dA,doc,pm,an,cX,dO,lI,rfl,lk,ec⟩:=F.ex;exact .all (h dA doc pm an cX dO)
def dS{x qual:Str}{st:Stmt}{f:ak}{hG:ag}{e4 an:Option ak}{lI:Array (Option ag)}{dA doc pm cX dO:ag}(l:K.lookup f=some ⟨hG,e4,.func (mj x qual (oy st) (hK st) (cb st) .none dA doc pm an cX dO),lI⟩)
  (c:rl K cX qual=true) (k:nf K (.ref f)=true):cW K x qual st f (mj x qual (oy st) (hK st) (cb st) .none dA doc pm an cX dO):=⟨⟨hG,e4,dA,doc,pm,an,cX,dO,lI,rfl,l,c⟩,k⟩
end
def rP{A:cU}{k:Nat}(au:dF k A):A.units+1<cLine:=Nat.lt_of_le_of_lt (Nat.add_le_add_left (by decide:1<=64) _) au.units
section
variable {X:bt}
def bB(i:Nat){x:Str}{pos:Pos}(c3:X.N[i]?=some x:=by rfl)(a4:kU X.env.scope x:=by first|exact Or.inl rfl|exact Or.inr (Or.inl rfl)|exact Or.inr (Or.inr rfl))(hd:(x==("__debug__":Str))=false:=by decide)
  (ec:(x==("__classdict__":Str))=false:=by decide):b3 X (.Name x pos) (jm i):=aj7 c3 a4 hd ec
end
def wW{A B:Prop}(h:B):if false=true then A else B:=by
 rw[if_neg ti];exact h
def wX{A B:Prop}(h:A):if true=true then A else B:=by
 rw[if_pos rfl];exact h
def Va(H ah:aA):Prop:=∀b o,H b=some o->ah b=some o
end bG
end
section
namespace D
open PySem
abbrev T:=PyData
def eV(a:T):Bool:=a.canLay0 && decide (a.depth<=60)
def p_(as:List T):Bool:=jF as && decide (iN as<=60)
abbrev Key:=Sum Int Str
inductive hl where
|ht|own|ej
 deriving DecidableEq
inductive aR where
|U (t:T)|own (ts:List T)|fD (kvs:List (Key×T))|obj (m:hl) (c:Nat) (aB:List aR)
abbrev Ev:=List (Option aR)
inductive Out where
|bR (ε:Ev)|dB (t:T)|gC (ε:Ev)|dO (ε:Ev)|jC (t:T) (ε:Ev)|j6 (s:aR)
abbrev bK:=Ev->Option T
abbrev fP:=Ev->Option Bool
abbrev bD:=Ev->Option Out
abbrev lq:=Ev->Option (List T)
abbrev iB:=T->Ev->Option Ev
def big:Nat:=16777216
noncomputable def b4:T->T->Option T
|.int i,.int j=>some (.int (i+j))
|.str x,.str y=>if x.length+y.length<=big then some (.str (x++y)) else none
|.tuple xs,.tuple ys=>if xs.length+ys.length<=big then some (.tuple (xs++ys)) else none
|.list xs,.list ys=>if xs.length+ys.length<=big then some (.list (xs++ys)) else none
|_,_=>none
def q9:T->T->Option T
|.int i,.int j=>some (.int (i - j))
|_,_=>none
noncomputable def vL(i j:Int):Bool:=(decide (-(2 ^ 64)<i) && decide (i<2 ^ 64)) || (decide (-(2 ^ 64)<j) && decide (j<2 ^ 64))
noncomputable def dn:T->T->Option T
|.int i,.int j=>if vL i j then some (.int (i*j)) else none
|_,_=>none
noncomputable def oDiv:T->T->Option T
|.int i,.int j=>if 0<j/\j<1073741824 then some (.int (i / j)) else none
|_,_=>none
noncomputable def oMod:T->T->Option T
|.int i,.int j=>if 0<j then some (.int (i % j)) else none
|_,_=>none
def jg:T->Option T
|.int i=>some (.int (-i))
|_=>none
noncomputable def eL(n:Nat)(i:Int):Option Nat:=if 0<=i then (if i<n then some i.toNat else none) else if -(n:Int)<=i then some (i+n).toNat else none
def ei{α:Type}(xs:List α)(i:Int):Option α:=(eL xs.length i).bind λj=>xs[j]?
noncomputable def aP:T->T->Option T
|.tuple xs,.int i=>ei xs i
|.list xs,.int i=>ei xs i
|.str x,.int i=>if x.length<=big then (ei x.cps.toList i).map λc=>.str ⟨#[c]⟩ else none
|_,_=>none
def oEq(a b:T):Option T:=if eV a && eV b then some (.bool (hY a b)) else none
def fa(a b:T):Option T:=if eV a && eV b then some (.bool (!PyData.eqv a b)) else none
def e3(a:T):Option T:=some (.bool (match a with|.none=>true|_=>false))
def dx(a:T):Option T:=some (.bool (match a with|.none=>false|_=>true))
def strLt(x y:Str):Bool:=decide (x.cps.toList<y.cps.toList)
noncomputable def oLt:T->T->Option T
|.int i,.int j=>some (.bool (decide (i<j)))
|.str x,.str y=>some (.bool (strLt x y))
|_,_=>none
noncomputable def oLe:T->T->Option T
|.int i,.int j=>some (.bool (decide (i<=j)))
|.str x,.str y=>some (.bool (!strLt y x))
|_,_=>none
noncomputable def oY:T->T->Option T
|.int i,.int j=>some (.bool (decide (j<i)))
|.str x,.str y=>some (.bool (strLt y x))
|_,_=>none
noncomputable def m1:T->T->Option T
|.int i,.int j=>some (.bool (decide (j<=i)))
|.str x,.str y=>some (.bool (!strLt x y))
|_,_=>none
def mO(x:T)(ts:List T):Bool:=ts.any λy=>hY y x
noncomputable def eB(neg:Bool):T->T->Option T
|x,.tuple ys=>if eV x && p_ ys then some (.bool (if neg then !mO x ys else mO x ys)) else none
|x,.list ys=>if eV x && p_ ys then some (.bool (if neg then !mO x ys else mO x ys)) else none
|_,_=>none
noncomputable def fL:List T->Option T
| [.tuple xs]=>some (.int xs.length)
| [.list xs]=>some (.int xs.length)
| [.str x]=>if x.length<=big then some (.int x.length) else none
|_=>none
noncomputable def n5:List T->Option T
| [.int i,.int j]=>some (.int (if j<i then j else i))
|_=>none
noncomputable def m2:List T->Option T
| [.int i,.int j]=>some (.int (if j > i then j else i))
|_=>none
noncomputable def gq:List T->Option T
| [.tuple xs]=>some (.tuple xs)
| [.list xs]=>some (.tuple xs)
|_=>none
noncomputable def tY:List T->Option T
| [.tuple xs]=>some (.list xs)
| [.list xs]=>some (.list xs)
|_=>none
noncomputable def w8:List T->Option T
| [.int i]=>some (.int i)
| [.bool b]=>some (.int (if b then 1 else 0))
|_=>none
noncomputable def AY(n d:Nat):Option Int->Nat
|none=>d
|some v=>(if v<0 then max (v+n) 0 else min v n).toNat
noncomputable def MK{α:Type}(xs:List α)(lo ba:Option Int):List α:=(xs.drop (AY xs.length 0 lo)).take (AY xs.length xs.length ba - AY xs.length 0 lo)
noncomputable def _K(t:T)(lo ba:Option Int):Option T:=match t with
|.tuple xs=>some (.tuple (MK xs lo ba))
|.list xs=>some (.list (MK xs lo ba))
|_=>none
noncomputable def intsOf:List T->Option (List Int)
| []=>some []
|.int i::ts=>(intsOf ts).map λr=>i::r
|_::_=>none
noncomputable def strsOf:List T->Option (List Str)
| []=>some []
|.str x::ts=>(strsOf ts).map λr=>x::r
|_::_=>none
noncomputable def insI(x:Int):List Int->List Int
| []=>[x]
|y::ys=>if x<=y then x::y::ys else y::insI x ys
def sortI:List Int->List Int
| []=>[]
|x::xs=>insI x (sortI xs)
noncomputable def sL(x:Str):List Str->List Str
| []=>[x]
|y::ys=>if !strLt y x then x::y::ys else y::sL x ys
def jQ:List Str->List Str
| []=>[]
|x::xs=>sL x (jQ xs)
def keyOf:T->Option Key
|.int i=>some (.inl i)
|.str x=>some (.inr x)
|_=>none
noncomputable def putD(kvs:List (Key×T))(k:Key)(v:T):List (Key×T):=if kvs.any (λp=>decide (p.1=k)) then kvs.map λp=>if p.1=k then (k,v) else p else kvs++[(k,v)]
noncomputable def getD(kvs:List (Key×T))(k:Key):Option T:=(kvs.find? λp=>decide (p.1=k)).map (·.2)
def nZ(kvs:List (Key×T))(k:Key):Bool:=kvs.any λp=>decide (p.1=k)
def g_:Key->T
|.inl i=>.int i
|.inr x=>.str x
noncomputable def dic? (i:Nat)(ε:Ev):Option (List (Key×T)):=match ε[i]? with
|some (some (.fD kvs))=>some kvs
|_=>none
noncomputable def pT(neg:Bool)(f:bK)(i:Nat):bK:=λε=>(f ε).bind λt=>(keyOf t).bind λk=>(dic? i ε).map λkvs=>.bool (if neg then !nZ kvs k else nZ kvs k)
noncomputable def vz(i:Nat):bK:=λε=>(dic? i ε).bind λkvs=>if kvs.length<64 then (intsOf (kvs.map λp=>g_ p.1)).map λns=>.list ((sortI ns).map .int) else none
def aa(t:T):bK:=λ_=>some t
noncomputable def nm(i:Nat):bK:=λε=>match ε[i]? with
|some (some (.U t))=>some t
|some (some (.own ts))=>some (.list ts)
|_=>none
def ao(i:Nat):bK:=λε=>match ε[i]? with
|some (some (.U t))=>some t
|_=>none
def cn(o:T->Option T)(f:bK):bK:=λε=>(f ε).bind o
noncomputable def af(o:T->T->Option T)(f g:bK):bK:=λε=>(f ε).bind λx=>(g ε).bind λy=>o x y
noncomputable def args:List bK->Ev->Option (List T)
| [],_=>some []
|f::aB,ε=>(f ε).bind λt=>(args aB ε).map λts=>t::ts
def aS(o:List T->Option T)(aB:List bK):bK:=λε=>(args aB ε).bind o
noncomputable def bk(aB:List bK):bK:=λε=>(args aB ε).bind λts=>if ts.length<=big then some (.tuple ts) else none
noncomputable def dD(aB:List bK):bK:=λε=>(args aB ε).bind λts=>if ts.length<=big then some (.list ts) else none
noncomputable def opt(f:bK):Ev->Option (Option Int):=λε=>(f ε).bind λt=>match t with|.int i=>some (some i)|_=>none
def optN:Ev->Option (Option Int):=λ_=>some none
noncomputable def slice(f:bK)(lo ba:Ev->Option (Option Int)):bK:=λε=>(f ε).bind λt=>(lo ε).bind λl=>(ba ε).bind λh=>_K t l h
noncomputable def nL(f g:bK):bK:=λε=>(f ε).bind λt=>match t with|.bool true=>g ε|.bool false=>some (.bool false)|_=>none
noncomputable def xb(f g:bK):bK:=λε=>(f ε).bind λt=>match t with|.bool false=>g ε|.bool true=>some (.bool true)|_=>none
noncomputable def chain(o p:T->T->Option T)(f g h:bK):bK:=λε=>(f ε).bind λx=>(g ε).bind λy=>(o x y).bind λr=>match r with
|.bool true=>(h ε).bind λz=>p y z
|.bool false=>some (.bool false)
|_=>none
def aZ(f:bK):fP:=λε=>(f ε).bind λt=>match t with|.bool b=>some b|_=>none
noncomputable def e6(f:bK):fP:=λε=>(f ε).bind λt=>match t with|.list ts=>some (!ts.isEmpty)|.tuple ts=>some (!ts.isEmpty)|_=>none
def dy(f g:fP):fP:=λε=>(f ε).bind λb=>if b then g ε else some false
def eI(f g:fP):fP:=λε=>(f ε).bind λb=>if b then some true else g ε
def ft(f:fP):fP:=λε=>(f ε).map λb=>!b
def oW(c:fP)(f g:bK):bK:=λε=>(c ε).bind λb=>if b then f ε else g ε
def di(b:Bool):fP:=λ_=>some b
def ofT(c:fP):bK:=λε=>(c ε).map .bool
noncomputable def cQ(f:bK):lq:=λε=>(f ε).bind λt=>match t with|.tuple ts=>some ts|.list ts=>some ts|_=>none
noncomputable def kk(f:bK):lq:=λε=>(f ε).bind λt=>match t with|.tuple ts=>some ts|_=>none
noncomputable def lK(lo ba:Int):List T:=(List.range (ba - lo).toNat).map λ(k:Nat)=>.int (lo+(k:Int))
def qt(i:Int):Bool:=decide (-(2 ^ 62)<=i) && decide (i<2 ^ 62)
noncomputable def kj(f:bK):lq:=λε=>(f ε).bind λt=>match t with|.int j=>if qt j then some (lK 0 j) else none|_=>none
def enum(ts:List T):List T:=ts.zipIdx.map λp=>.tuple [.int p.2,p.1]
def oz(f:lq):lq:=λε=>(f ε).map enum
def bA(i:Nat):iB:=λt ε=>some (ε.set i (some (.U t)))
noncomputable def fG:List iB->List T->Ev->Option Ev
| [],[],ε=>some ε
|g::fH,t::ts,ε=>(g t ε).bind λε'=>fG fH ts ε'
|_,_,_=>none
def dV(fH:List iB):iB:=λt ε=>match t with|.tuple ts=>fG fH ts ε|_=>none
noncomputable def gQ(g:iB)(c:fP)(e:bK):List T->Ev->Option (List T)
| [],_=>some []
|t::ts,ε=>(g t ε).bind λmB=>(c mB).bind λb=>if b then (e mB).bind λy=>(gQ g c e ts mB).map λys=>y::ys else gQ g c e ts mB
noncomputable def fN(own:Nat)(caps:List Nat)(ε:Ev):Ev:=jE own none++caps.map λi=>(ε[i]?).join
noncomputable def comp(own:Nat)(caps:List Nat)(it:lq)(g:iB)(c:fP)(e:bK):bK:=λε=>(it ε).bind λts=>if ts.length<=big then (gQ g c e ts (fN own caps ε)).map .list else none
def skip:bD:=λε=>some (.bR ε)
def seq(a b:bD):bD:=λε=>(a ε).bind λo=>match o with|.bR ε'=>b ε'|o=>some o
def asg(i:Nat)(f:bK):bD:=λε=>(f ε).map λt=>.bR (ε.set i (some (.U t)))
noncomputable def e_(i:Nat)(f:bK):bD:=λε=>(f ε).bind λt=>match t with|.list ts=>some (.bR (ε.set i (some (.own ts))))|_=>none
def hp(g:iB)(f:bK):bD:=λε=>(f ε).bind λt=>(g t ε).map .bR
def bN(f:bK):bD:=λε=>(f ε).map .dB
def iff(c:fP)(a b:bD):bD:=λε=>(c ε).bind λx=>if x then a ε else b ε
def brk:bD:=λε=>some (.gC ε)
noncomputable def forL(g:iB)(b:bD):List T->Ev->Option Out
| [],ε=>some (.bR ε)
|t::ts,ε=>(g t ε).bind λmB=>(b mB).bind λo=>match o with
  |.bR fz=>forL g b ts fz
  |.dO fz=>forL g b ts fz
  |.gC fz=>some (.bR fz)
  |.dB t=>some (.dB t)
  |.jC t fz=>some (.jC t fz)
  |.j6 s=>some (.j6 s)
def eT(it:lq)(g:iB)(b:bD):bD:=λε=>(it ε).bind λts=>forL g b ts ε
noncomputable def og(c:fP)(b:bD):Nat->bD
|0,_=>none
|n+1,ε=>(c ε).bind λx=>if x then (b ε).bind λo=>(match o with
   |.bR fz=>og c b n fz
   |.dO fz=>og c b n fz
   |.gC fz=>some (.bR fz)
   |.dB t=>some (.dB t)
   |.jC t fz=>some (.jC t fz)
   |.j6 s=>some (.j6 s)) else some (.bR ε)
noncomputable def app(i:Nat)(f:bK):bD:=λε=>match ε[i]? with
|some (some (.own ts))=>(f ε).bind λt=>if ts.length<big then some (.bR (ε.set i (some (.own (ts++[t]))))) else none
|_=>none
noncomputable def ext(i:Nat)(f:bK):bD:=λε=>match ε[i]? with
|some (some (.own ts))=>(f ε).bind λt=>match t with
  |.list us=>if ts.length+us.length<=big then some (.bR (ε.set i (some (.own (ts++us))))) else none
  |_=>none
|_=>none
noncomputable def pop(i j:Nat):bD:=λε=>match ε[j]? with
|some (some (.own ts))=>(ts.getLast?).bind λt=>if i=j then none else some (.bR ((ε.set j (some (.own ts.dropLast))).set i (some (.U t))))
|_=>none
noncomputable def par(i j:Nat)(own:Bool)(f g:bK):bD:=λε=>(f ε).bind λt=>(g ε).bind λu=>if own then (match u with|.list us=>some (.bR ((ε.set i (some (.U t))).set j (some (.own us))))|_=>none) else some (.bR ((ε.set i (some (.U t))).set j (some (.U u))))
noncomputable def we(i:Nat)(k v:bK):bD:=λε=>(k ε).bind λt=>(keyOf t).bind λk=>(v ε).map λv=>.bR (ε.set i (some (.fD [(k,v)])))
noncomputable def yu:List T->Option (List (Key×T))
| []=>some []
|.tuple [k,v]::r=>(keyOf k).bind λk=>(yu r).map λr=>(k,v)::r
|_::_=>none
noncomputable def sh(i:Nat)(k v:bK):bD:=λε=>(v ε).bind λv=>(k ε).bind λt=>(keyOf t).bind λk=>(dic? i ε).bind λkvs=>if kvs.length<big then some (.bR (ε.set i (some (.fD (putD kvs k v))))) else none
noncomputable def cV(b:bD)(n:Nat)(as:List T):Option T:=(b ((as.map λt=>some (.U t))++jE (n - as.length) none)).bind λo=>match o with
|.dB t=>some t
|.bR _=>some .none
|_=>none
end D
end
section
namespace D
open PySem PySem.Spec PyProof.Rows bG
section
mutual
noncomputable def Rep(K:br)(F:ak->Prop)(H:aA):T->V->Prop
|.none,v=>v=.ff
|.bool b,v=>v=.c8 b
|.int i,v=>v=.int i
|.str x,v=>v=.str x
|.dict _,_=>False
|.tuple ts,v=>∃a vs,v=.ref a/\c6 K H a vs/\bp K F H ts vs
|.list ts,v=>∃a vs,v=.ref a/\F a/\f' H a (.lst vs)/\bp K F H ts vs
noncomputable def bp(K:br)(F:ak->Prop)(H:aA):List T->List V->Prop
| [],vs=>vs=[]
|t::ts,vs=>∃v r,vs=v::r/\Rep K F H t v/\bp K F H ts r
end
section
variable {K:br}{F aF:ak->Prop}{H ah:aA}
mutual
theorem Rep.keep(ae:∀b xs,c6 K H b xs->c6 K ah b xs)(aj:∀b xs,F b->f' H b (.lst xs)->aF b/\f' ah b (.lst xs)):∀{t:T} {v:V},Rep K F H t v->Rep K aF ah t v
|.none,v,h=>by simpa [Rep] using h
|.bool _,v,h=>by simpa [Rep] using h
|.dict _,v,h=>by simp[Rep] at h
|.int _,v,h=>by simpa [Rep] using h
|.str _,v,h=>by simpa [Rep] using h
|.tuple ts,v,h=>by
  simp only[Rep] at h ⊢;obtain⟨a,vs,e,q,r⟩:=h;exact⟨a,vs,e,ae _ _ q,bp.keep ae aj r⟩
|.list ts,v,h=>by
  simp only[Rep] at h ⊢;obtain⟨a,vs,e,f,q,r⟩:=h;exact⟨a,vs,e,(aj _ _ f q).1,(aj _ _ f q).2,bp.keep ae aj r⟩
theorem bp.keep(ae:∀b xs,c6 K H b xs->c6 K ah b xs)(aj:∀b xs,F b->f' H b (.lst xs)->aF b/\f' ah b (.lst xs)):∀{ts:List T} {vs:List V},bp K F H ts vs->bp K aF ah ts vs
| [],vs,h=>by simpa [bp] using h
|t::ts,vs,h=>by
  simp only[bp] at h ⊢;obtain⟨v,r,e,q,z⟩:=h;exact⟨v,r,e,Rep.keep ae aj q,bp.keep ae aj z⟩
end
def bp.nil:bp K F H [] []:=by simp[bp]
def bp.cons{t:T}{v:V}{ts:List T}{vs:List V}(h:Rep K F H t v)(r:bp K F H ts vs):bp K F H (t::ts) (v::vs):=by
 simp only[bp];exact⟨v,vs,rfl,h,r⟩
theorem bp.length:∀{ts:List T} {vs:List V},bp K F H ts vs->ts.length=vs.length
| [],vs,h=>by
  simp only[bp] at h;subst h;rfl
|t::ts,vs,h=>by
  simp only[bp] at h;obtain⟨v,r,e,q,z⟩:=h;subst e;simp[bp.length z]
theorem bp.get:∀{ts:List T} {vs:List V} {i:Nat} {t:T},bp K F H ts vs->ts[i]?=some t->∃v,vs[i]?=some v/\Rep K F H t v
| [],vs,i,t,h,e=>by simp at e
|x::ts,vs,0,t,h,e=>by
  simp only[bp] at h;obtain⟨v,r,rfl,q,z⟩:=h;simp at e;subst e;exact⟨v,rfl,q⟩
|x::ts,vs,i+1,t,h,e=>by
  simp only[bp] at h;obtain⟨v,r,rfl,q,z⟩:=h;obtain⟨u,ae,aj⟩:=bp.get (i:=i) (t:=t) z (by simpa using e);exact⟨u,by simpa using ae,aj⟩
theorem bp.append:∀{ts us:List T} {vs ws:List V},bp K F H ts vs->bp K F H us ws->bp K F H (ts++us) (vs++ws)
| [],us,vs,ws,h,r=>by
  simp only[bp] at h;subst h;exact r
|t::ts,us,vs,ws,h,r=>by
  simp only[bp] at h;obtain⟨v,z,rfl,q,y⟩:=h;exact bp.cons q (bp.append y r)
theorem bp.take:∀{ts:List T} {vs:List V} (n:Nat),bp K F H ts vs->bp K F H (ts.take n) (vs.take n)
| [],vs,n,h=>by
  simp only[bp] at h;subst h;simpa using bp.nil
|t::ts,vs,0,h=>by simpa using bp.nil
|t::ts,vs,n+1,h=>by
  simp only[bp] at h;obtain⟨v,z,rfl,q,y⟩:=h;simpa using bp.cons q (bp.take n y)
end
class cG where
 dd:List (ak×Str)
 fq:Nat->List Str
 pS:Nat->Option ak
noncomputable def yT(H:aA)(b:ak)(q:Str):Prop:=∃ps:Array ag,H b=some (.ij ps)/\TriplesOk ps.toList/\∀pos kW,codeAmong pos ps.toList=some kW->∃c,kW=.ref c/\H c=some (.ext λh=>h.CodeRec (.ref c) q)
def mG [t:cG](H:aA):Prop:=∀p∈t.dd,yT H p.1 p.2
def yT.keep{H ah:aA}{b:ak}{q:Str}(h:yT H b q)(gI:∀a ps,H a=some (.ij ps)->ah a=some (.ij ps))(eu:∀a pC,H a=some (.ext pC)->ah a=some (.ext pC)):yT ah b q:=by
 obtain⟨ps,ae,aj,a8⟩:=h;refine⟨ps,gI _ _ ae,aj,λpos kW e=>?_⟩;obtain⟨c,ax,aL⟩:=a8 pos kW e;exact⟨c,ax,eu _ _ aL⟩
variable [cG]
def nC(u:ey):Prop:=(∃xs,u=.lst xs)\/(∃xs,u=.dP xs)\/∃C bu aB,u=.ins C bu aB
def nC.cases{P:Prop}{u:ey}(h:nC u)(ae:∀xs,u=.lst xs->P)(aj:∀xs,u=.dP xs->P)(a8:∀C bu aB,u=.ins C bu aB->P):P:=by
 rcases h with ⟨xs,e⟩|⟨xs,e⟩|⟨C,bu,aB,e⟩
 ·exact ae xs e
 ·exact aj xs e
 ·exact a8 C bu aB e
def mG.OR{H:aA}(h:mG H){p:ak}{o:ey}(az:∀u,H p=some u->nC u):mG (upd H p o):=λb ab=>
 (h b ab).keep (λa ps e=>by
  have nb:a≠p:=by
   rintro rfl;exact (az _ e).cases (λ_ z=>by cases z) (λ_ z=>by cases z) (λ_ _ _ z=>by cases z)
  rw[cI nb];exact e) λa pC e=>by
  have nb:a≠p:=by
   rintro rfl;exact (az _ e).cases (λ_ z=>by cases z) (λ_ z=>by cases z) (λ_ _ _ z=>by cases z)
  rw[cI nb];exact e
theorem mG.upd{H:aA}(h:mG H){p:ak}{o:ey}(az:∀u,H p=some u->(∃xs,u=.lst xs)\/∃xs,u=.dP xs):mG (upd H p o):=h.OR λu e=>by
 rcases az u e with z|z
 ·exact .inl z
 ·exact .inr (.inl z)
def mG.new{H:aA}(h:mG H){p:ak}{o:ey}(az:H p=none):mG (bG.upd H p o):=h.upd λu e=>by rw[az] at e;cases e
structure fo(F:ak->Prop)(H:aA):Prop where
 y1:∀a,F a->∃o,H a=some o
 m_:mG H
instance {F:ak->Prop}{H:aA}:CoeFun (fo F H) λ_=>∀a,F a->∃o,H a=some o:=⟨fo.y1⟩
noncomputable def jR(H ah:aA):Prop:=∀b o,H b=some o->ah b=some o\/∃ps rb,o=.ij ps/\ah b=some (.ij rb)
def jR.refl(H:aA):jR H H:=λ_ _ h=>.inl h
def jR.ne{H ah:aA}(s:jR H ah){b:ak}{o:ey}(e:H b=some o):∃u,ah b=some u:=by
 rcases s b o e with h|⟨_,_,_,h⟩
 ·exact⟨_,h⟩
 ·exact⟨_,h⟩
theorem jR.none{H ah:aA}(s:jR H ah){b:ak}(e:ah b=none):H b=none:=by
 cases z:H b with
|none=>rfl
|some o=>
  obtain⟨u,q⟩:=s.ne z;rw[e] at q;cases q
def jR.get{H ah:aA}(s:jR H ah){b:ak}{o:ey}(e:H b=some o)(n:∀ps,o≠.ij ps:=by intro _ z;cases z):ah b=some o:=by
 rcases s b o e with h|⟨_,_,z,_⟩
 ·exact h
 ·exact absurd z (n _)
def jR.trans{H H1 bf:aA}(a:jR H H1)(b:jR H1 bf):jR H bf:=λc o h=>by
 rcases a c o h with q|⟨ps,acg,z,q⟩
 ·exact b c o q
 ·rcases b c _ q with a9|⟨_,xe,f9,a9⟩
  ·exact .inr ⟨ps,acg,z,a9⟩
  ·exact .inr ⟨ps,xe,z,a9⟩
structure Ext(F:ak->Prop)(H:aA)(aF:ak->Prop)(ah:aA):Prop where
 same:jR H ah
 sub:∀a,F a->aF a
 new:∀a,aF a->F a\/H a=none
 cf:fo aF ah
section
variable {K:br}{F a5 dt:ak->Prop}{H H1 bf:aA}
theorem Ext.refl(d:fo F H):Ext F H F H:=⟨jR.refl H,λ_ h=>h,λ_ h=>.inl h,d⟩
theorem Ext.trans(a:Ext F H a5 H1)(b:Ext a5 H1 dt bf):Ext F H dt bf:=
 ⟨a.same.trans b.same,λx h=>b.sub x (a.sub x h),λx h=>(b.new x h).elim (λz=>a.new x z) λz=>.inr (a.same.none z),b.cf⟩
def f'.same{a:ak}{u:ey}(s:jR H H1)(r:f' H a u)(n:∀ps,u≠.ij ps:=by intro _ z;cases z):f' H1 a u:=by
 rcases r with r|⟨o,r⟩
 ·exact .inl (s.get r n)
 ·exact .inr ⟨o,s.get r⟩
theorem c6.same{a:ak}{xs:List V}(s:jR H H1)(r:c6 K H a xs):c6 K H1 a xs:=by
 rcases r with r|r
 ·exact .inl (f'.same s r)
 ·exact .inr r
def Rep.ext{t:T}{v:V}(r:Rep K F H t v)(x:Ext F H a5 H1):Rep K a5 H1 t v:=r.keep (λ_ _ q=>c6.same x.same q) λb _ f q=>⟨x.sub b f,f'.same x.same q⟩
def bp.ext{t:List T}{v:List V}(r:bp K F H t v)(x:Ext F H a5 H1):bp K a5 H1 t v:=r.keep (λ_ _ q=>c6.same x.same q) λb _ f q=>⟨x.sub b f,f'.same x.same q⟩
def Ext.laid{p:ak}{o:ey}(d:fo F H)(az:H p=none):Ext F H F (upd H p o):=
 ⟨λb u q=>.inl (AZ az o b u q),λ_ h=>h,λ_ h=>.inl h,⟨λa h=>by
  obtain⟨u,e⟩:=d a h;exact⟨u,AZ az o a u e⟩,d.m_.new az⟩⟩
where AZ {H:aA} {p:ak} (h:H p=none) (o:ey):Va H (upd H p o):=λb u q=>by rw[cI (iw q h)];exact q
def Ext.Aw{p:ak}{o:ey}(d:fo F H)(az:H p=none):Ext F H (λa=>F a\/a=p) (upd H p o):=
 ⟨λb u q=>.inl (Ext.laid.AZ az o b u q),λ_ h=>.inl h,λa h=>by
  rcases h with h|rfl
  ·exact .inl h
  ·exact .inr az,⟨λa h=>by
  rcases h with h|rfl
  ·obtain⟨u,e⟩:=d a h;exact⟨u,Ext.laid.AZ az o a u e⟩
  ·exact⟨o,dN⟩,d.m_.new az⟩⟩
end
structure d6(K:br)(F:ak->Prop)(H:aA)(aF:ak->Prop)(ah:aA):Prop where
 tup:∀b xs,c6 K H b xs->c6 K ah b xs
 lst:∀b xs,F b->f' H b (.lst xs)->aF b/\f' ah b (.lst xs)
section
variable {K:br}{F a5 dt:ak->Prop}{H H1 bf:aA}
def d6.refl:d6 K F H F H:=⟨λ_ _ h=>h,λ_ _ f h=>⟨f,h⟩⟩
def d6.trans(a:d6 K F H a5 H1)(b:d6 K a5 H1 dt bf):d6 K F H dt bf:=⟨λx xs h=>b.tup x xs (a.tup x xs h),λx xs f h=>b.lst x xs (a.lst x xs f h).1 (a.lst x xs f h).2⟩
def Ext.aw(x:Ext F H a5 H1):d6 K F H a5 H1:=⟨λ_ _ q=>c6.same x.same q,λb _ f q=>⟨x.sub b f,f'.same x.same q⟩⟩
def Rep.aw{t:T}{v:V}(r:Rep K F H t v)(x:d6 K F H a5 H1):Rep K a5 H1 t v:=r.keep x.tup x.lst
def bp.aw{t:List T}{v:List V}(r:bp K F H t v)(x:d6 K F H a5 H1):bp K a5 H1 t v:=r.keep x.tup x.lst
end
noncomputable def gA(K:br)(O F:ak->Prop)(H:aA)(t:T)(v:V):Prop:=
 Rep K F H t v\/∃ts a vs,t=.list ts/\v=.ref a/\H a=some (.lst vs)/\bp K F H ts vs
section
variable {K:br}{O F a5:ak->Prop}{H H1:aA}{v:V}
theorem gA.ext{t:T}(r:gA K O F H t v)(x:Ext F H a5 H1):gA K O a5 H1 t v:=by
 rcases r with r|⟨ts,a,vs,ax,aL,i1,r⟩
 ·exact .inl (r.ext x)
 ·exact .inr ⟨ts,a,vs,ax,aL,x.same.get i1,r.ext x⟩
theorem gA.ff(r:gA K O F H .none v):v=.ff:=by
 rcases r with r|⟨ts,a,vs,ax,_⟩
 ·simpa [Rep] using r
 ·cases ax
theorem gA.c8{b:Bool}(r:gA K O F H (.bool b) v):v=.c8 b:=by
 rcases r with r|⟨ts,a,vs,ax,_⟩
 ·simpa [Rep] using r
 ·cases ax
theorem gA.int{i:Int}(r:gA K O F H (.int i) v):v=.int i:=by
 rcases r with r|⟨ts,a,vs,ax,_⟩
 ·simpa [Rep] using r
 ·cases ax
theorem gA.str{x:Str}(r:gA K O F H (.str x) v):v=.str x:=by
 rcases r with r|⟨ts,a,vs,ax,_⟩
 ·simpa [Rep] using r
 ·cases ax
def gA.tup{ts:List T}(r:gA K O F H (.tuple ts) v):∃a vs,v=.ref a/\c6 K H a vs/\bp K F H ts vs:=by
 rcases r with r|⟨ts,a,vs,ax,_⟩
 ·simpa [Rep] using r
 ·cases ax
theorem gA.lst{ts:List T}(r:gA K O F H (.list ts) v):∃a vs,v=.ref a/\f' H a (.lst vs)/\bp K F H ts vs:=by
 rcases r with r|⟨us,a,vs,ax,aL,i1,r⟩
 ·simp only[Rep] at r;obtain⟨a,vs,e,_,q,z⟩:=r;exact⟨a,vs,e,q,z⟩
 ·cases ax
  exact⟨a,vs,aL,.inl i1,r⟩
end
noncomputable def dE(K:br)(F:ak->Prop)(H:aA):List (D.Key×T)->List (D.Key×V)->Prop
| [],vs=>vs=[]
|p::ts,vs=>∃v r,vs=(p.1,v)::r/\Rep K F H p.2 v/\dE K F H ts r
theorem dE.aw{K:br}{F aF:ak->Prop}{H ah:aA}(x:d6 K F H aF ah):∀{ts:List (D.Key×T)} {vs:List (D.Key×V)},dE K F H ts vs->dE K aF ah ts vs
| [],vs,h=>h
|p::ts,vs,h=>by
  obtain⟨v,r,e,q,z⟩:=h;exact⟨v,r,e,q.aw x,dE.aw x z⟩
structure gS where
 h:aA
 je:ak
def hV:V->List ak
|.ref a=>[a]
|_=>[]
def d7:aR->V->List ak
|.U _,_=>[]
|_,v=>hV v
def dk:List aR->List V->List ak
|s::ss,v::vs=>d7 s v++dk ss vs
|_,_=>[]
noncomputable def CA(H:aA):V->List V
|.ref a=>(match H a with
  |some (.ins _ _ kvs)=>kvs.map (·.2)
  |some (.dP kvs)=>kvs.map (·.2)
  |_=>[])
|_=>[]
noncomputable def dr(H:aA):aR->V->List ak
|.U _,_=>[]
|.own _,v=>hV v
|.fD _,v=>hV v
|.obj _ _ aB,v=>hV v++dk aB (CA H v)
noncomputable def h2(H:aA)(a:ak)(c:Nat)(vs:List V):Prop:=vs.length<=(cG.fq c).length/\match cG.pS c with
|some C=>∃bu,H a=some (.ins C bu ((cG.fq c).zip vs))
|none=>H a=some (.dP (((cG.fq c).zip vs).map λp=>(.inr p.1,p.2)))
noncomputable def lZ(K:br)(F:ak->Prop)(H:aA):aR->V->Prop
|.U t,v=>Rep K F H t v
|.own ts,v=>∃b us,v=.ref b/\H b=some (.lst us)/\bp K F H ts us
|.fD kvs,v=>∃b us,v=.ref b/\H b=some (.dP us)/\dE K F H kvs us
|.obj _ _ _,_=>False
noncomputable def gr(K:br)(F:ak->Prop)(H:aA):List aR->List V->Prop
| [],vs=>vs=[]
|s::ss,vs=>∃v r,vs=v::r/\lZ K F H s v/\gr K F H ss r
noncomputable def vX(E:gS)(O F:ak->Prop)(m:hl)(b:ak):Prop:=¬F b/\match m with
|.ht=>E.h b≠none
|_=>O b
noncomputable def el(K:br)(E:gS)(O F:ak->Prop)(H:aA):aR->V->Prop
|.U t,v=>Rep K F H t v
|.own ts,v=>∃a vs,v=.ref a/\¬F a/\O a/\H a=some (.lst vs)/\bp K F H ts vs
|.fD kvs,v=>∃a vs,v=.ref a/\¬F a/\O a/\H a=some (.dP vs)/\dE K F H kvs vs
|.obj m c aB,v=>∃a vs,v=.ref a/\h2 H a c vs/\gr K F H aB vs/\(a::dk aB vs).Nodup/\(∀b∈a::dk aB vs,vX E O F m b)/\(m=.ej->a=E.je)
def aR.iH:aR->Bool
|.U _=>false
|.obj .ht _ _=>false
|_=>true
section
variable {K:br}{F aF O nH:ak->Prop}{H ah:aA}{E:gS}
theorem KH{α β:Type}:∀{xs:List α} {ys:List β},ys.length<=xs.length->(xs.zip ys).map (·.2)=ys
|xs,[],_=>by simp
| [],y::ys,h=>by simp at h
|x::xs,y::ys,h=>by simp[KH (xs:=xs) (ys:=ys) (by simpa using h)]
def h2.vals{a:ak}{c:Nat}{vs:List V}(h:h2 H a c vs):CA H (.ref a)=vs:=by
 obtain⟨av,h⟩:=h;unfold CA;split at h
 ·obtain⟨bu,e⟩:=h;simp only[e];exact KH av
 ·simp only[h,k'];exact KH av
def h2.mem{a:ak}{c:Nat}{vs:List V}(h:h2 H a c vs):∃o,H a=some o/\nC o:=by
 obtain⟨av,h⟩:=h;split at h
 ·obtain⟨bu,e⟩:=h;exact⟨_,e,.inr (.inr ⟨_,_,_,rfl⟩)⟩
 ·exact⟨_,h,.inr (.inl ⟨_,rfl⟩)⟩
def h2.keep{a:ak}{c:Nat}{vs:List V}(h:h2 H a c vs)(e:ah a=H a):h2 ah a c vs:=by
 obtain⟨av,h⟩:=h;refine⟨av,?_⟩;rw[e];exact h
def vD{v:V}{b:ak}(h:b∈hV v):v=.ref b:=by
 unfold hV at h;split at h
 ·simp at h;rw[h]
 ·simp at h
theorem lZ.at{s:aR}{v:V}{b:ak}(r:lZ K F H s v)(h:b∈d7 s v):∃o,H b=some o/\nC o:=by
 cases s with
|U t=>simp[d7] at h
|own ts=>
  obtain⟨nM,us,e,i2,_⟩:=r;have:=vD h;rw[e] at this;cases this;exact⟨_,i2,.inl ⟨_,rfl⟩⟩
|fD ts=>
  obtain⟨nM,us,e,i2,_⟩:=r;have:=vD h;rw[e] at this;cases this;exact⟨_,i2,.inr (.inl ⟨_,rfl⟩)⟩
|obj m c aB=>exact r.elim
theorem gr.at:∀{aB:List aR} {vs:List V} {b:ak},gr K F H aB vs->b∈dk aB vs->∃o,H b=some o/\nC o
| [],vs,b,r,h=>by simp[dk] at h
|s::ss,vs,b,r,h=>by
  obtain⟨v,z,rfl,bC,b7⟩:=r;rw[show dk (s::ss) (v::z)=d7 s v++dk ss z from rfl] at h;rcases gz.mp h with h|h
  ·exact bC.at h
  ·exact gr.at b7 h
def kM{m:hl}{c:Nat}{aB:List aR}{a:ak}{vs:List V}(h:h2 H a c vs):dr H (.obj m c aB) (.ref a)=a::dk aB vs:=by
 show hV (.ref a)++dk aB (CA H (.ref a))=_
 rw[h.vals];rfl
theorem el.at{s:aR}{v:V}{b:ak}(r:el K E O F H s v)(h:b∈dr H s v):∃o,H b=some o/\nC o:=by
 cases s with
|U t=>simp[dr] at h
|own ts=>
  obtain⟨nM,us,e,_,_,i2,_⟩:=r;have:=vD h;rw[e] at this;cases this;exact⟨_,i2,.inl ⟨_,rfl⟩⟩
|fD ts=>
  obtain⟨nM,us,e,_,_,i2,_⟩:=r;have:=vD h;rw[e] at this;cases this;exact⟨_,i2,.inr (.inl ⟨_,rfl⟩)⟩
|obj m c aB=>
  obtain⟨a,vs,rfl,aq,hf,_⟩:=r;rw[kM aq] at h;rcases ct.mp h with rfl|h
  ·exact aq.mem
  ·exact hf.at h
def el.held{s:aR}{v:V}{b:ak}(r:el K E O F H s v)(h:b∈dr H s v):¬F b/\(s.iH=true->O b)/\(s.iH=false->E.h b≠none):=by
 cases s with
|U t=>simp[dr] at h
|own ts=>
  obtain⟨nM,us,e,n,o,i2,_⟩:=r;have:=vD h;rw[e] at this;cases this;exact⟨n,λ_=>o,λz=>by cases z⟩
|fD ts=>
  obtain⟨nM,us,e,n,o,i2,_⟩:=r;have:=vD h;rw[e] at this;cases this;exact⟨n,λ_=>o,λz=>by cases z⟩
|obj m c aB=>
  obtain⟨a,vs,rfl,aq,hf,aW,gx,_⟩:=r;rw[kM aq] at h;obtain⟨n,q⟩:=gx b h;refine⟨n,λz=>?_,λz=>?_⟩
  ·cases m with
   |ht=>cases z
   |own=>exact q
   |ej=>exact q
  ·cases m with
   |ht=>exact q
   |own=>cases z
   |ej=>cases z
def lZ.keep{s:aR}{v:V}(r:lZ K F H s v)(aw:d6 K F H aF ah)(cq:∀b∈d7 s v,ah b=H b):lZ K aF ah s v:=by
 cases s with
|U t=>exact Rep.aw r aw
|own ts=>
  obtain⟨b,us,rfl,i2,z⟩:=r;exact⟨b,us,rfl,by rw[cq b (by simp[d7,hV])];exact i2,z.aw aw⟩
|fD ts=>
  obtain⟨b,us,rfl,i2,z⟩:=r;exact⟨b,us,rfl,by rw[cq b (by simp[d7,hV])];exact i2,dE.aw aw z⟩
|obj m c aB=>exact r.elim
theorem gr.keep:∀{aB:List aR} {vs:List V},gr K F H aB vs->d6 K F H aF ah->(∀b∈dk aB vs,ah b=H b)->gr K aF ah aB vs
| [],vs,r,_,_=>r
|s::ss,vs,r,aw,cq=>by
  obtain⟨v,z,rfl,bC,b7⟩:=r;rw[show dk (s::ss) (v::z)=d7 s v++dk ss z from rfl] at cq;exact⟨v,z,rfl,bC.keep aw λb h=>cq b (gz.mpr (.inl h)),gr.keep b7 aw λb h=>cq b (gz.mpr (.inr h))⟩
theorem el.keep{s:aR}{v:V}(r:el K E O F H s v)(aw:d6 K F H aF ah)(cq:∀b∈dr H s v,ah b=H b)(hf:∀b∈dr H s v,aF b->F b)(aE:∀b∈dr H s v,O b->nH b):
  el K E nH aF ah s v/\dr ah s v=dr H s v:=by
 cases s with
|U t=>exact⟨Rep.aw r aw,rfl⟩
|own ts=>
  obtain⟨a,vs,rfl,n,o,i2,z⟩:=r;have m:a∈dr H (.own ts) (.ref a):=by simp[dr,hV]
  exact⟨⟨a,vs,rfl,λf=>n (hf a m f),aE a m o,by rw[cq a m];exact i2,z.aw aw⟩,rfl⟩
|fD ts=>
  obtain⟨a,vs,rfl,n,o,i2,z⟩:=r;have m:a∈dr H (.fD ts) (.ref a):=by simp[dr,hV]
  exact⟨⟨a,vs,rfl,λf=>n (hf a m f),aE a m o,by rw[cq a m];exact i2,dE.aw aw z⟩,rfl⟩
|obj m c aB=>
  obtain⟨a,vs,rfl,aq,au,aW,gx,je⟩:=r;rw[kM aq] at cq hf aE;have mN:h2 ah a c vs:=aq.keep (cq a (by simp));refine⟨⟨a,vs,rfl,mN,au.keep aw λb h=>cq b (dq _ h),aW,λb h=>?_,je⟩,by rw[kM aq,kM mN]⟩;obtain⟨n,q⟩:=gx b h;refine⟨λf=>n (hf b h f),?_⟩;cases m with
  |ht=>exact q
  |own=>exact aE b h q
  |ej=>exact aE b h q
def el.amu{s:aR}{v:V}(r:el K E O F H s v)(x:Ext F H aF ah):el K E O aF ah s v/\dr ah s v=dr H s v:=
 r.keep x.aw (λb h=>by
  obtain⟨o,e,m⟩:=r.at h;rw[e];exact x.same.get e λps z=>by subst z;exact m.cases (λ_ z=>by cases z) (λ_ z=>by cases z) (λ_ _ _ z=>by cases z)) (λb h f=>by
  rcases x.new b f with z|z
  ·exact z
  ·obtain⟨o,e,_⟩:=r.at h;rw[z] at e;cases e) λ_ _ o=>o
def el.ext{s:aR}{v:V}(r:el K E O F H s v)(x:Ext F H aF ah):el K E O aF ah s v:=(r.amu x).1
end
structure cH(K:br)(aG:ak->Prop)(E:gS)(O F:ak->Prop)(H:aA)(ε:Ev)(σ:bG.St):Prop where
 len:ε.length=σ.length
 val:∀(i:Nat) (s:aR),ε[i]?=some (some s)->∃v,σ[i]?=some (some v)/\el K E O F H s v
 ne:∀(i j:Nat) (s u:aR) (v w:V),i≠j->ε[i]?=some (some s)->ε[j]?=some (some u)->s.iH=true->u.iH=true->σ[i]?=some (some v)->σ[j]?=some (some w)->∀a∈dr H s v,a∉dr H u w
 ent:Ext aG E.h F H
 o0:∀a,O a->E.h a=none
 fr:∀a,H a=none->O a
section
variable {K:br}{aG O F a5:ak->Prop}{E:gS}{H H1:aA}{ε:Ev}{σ:bG.St}
theorem cH.cf(r:cH K aG E O F H ε σ):fo F H:=r.ent.cf
theorem cH.ext(r:cH K aG E O F H ε σ)(x:Ext F H a5 H1):cH K aG E O a5 H1 ε σ:=
 ⟨r.len,λi s e=>by
  obtain⟨v,ae,aj⟩:=r.val i s e;exact⟨v,ae,aj.ext x⟩,λi j s u v w jA ax aL d_ fv ae aj=>by
  obtain⟨lN,dW,bC⟩:=r.val i s ax;obtain⟨dv,i6,b7⟩:=r.val j u aL;rw[ae] at dW;rw[aj] at i6;cases dW;cases i6;rw[(bC.amu x).2,(b7.amu x).2];exact r.ne i j s u v w jA ax aL d_ fv ae aj,r.ent.trans x,r.o0,λa e=>r.fr a (x.same.none e)⟩
def get_set{α:Type}{l:List (Option α)}{i j:Nat}{x:Option α}{y:α}(h:(l.set i x)[j]?=some (some y)):(i=j/\x=some y/\j<l.length)\/(i≠j/\l[j]?=some (some y)):=by
 rw[u4] at h;by_cases e:i=j
 ·subst e;rw[if_pos rfl] at h;split at h
  next av=>exact .inl ⟨rfl,fc h,av⟩
  next=>cases h
 ·rw[if_neg e] at h;exact .inr ⟨e,h⟩
def KJ{α:Type}{l:List (Option α)}{i:Nat}{x:Option α}(h:i<l.length):(l.set i x)[i]?=some x:=by
 rw[u4,if_pos rfl,if_pos h]
def BM{α:Type}{l:List (Option α)}{i j:Nat}{x:Option α}(h:i≠j):(l.set i x)[j]?=l[j]?:=by
 rw[u4,if_neg h]
def cH.setG{s:aR}{v:V}(r:cH K aG E O F H ε σ)(i:Nat)(h:el K E O F H s v)(fr:s.iH=true->∀(j:Nat) (u:aR) (w:V),i≠j->ε[j]?=some (some u)->u.iH=true->σ[j]?=some (some w)->∀a∈dr H s v,a∉dr H u w):
  cH K aG E O F H (ε.set i (some s)) (σ.set i (some v)):=by
 refine⟨by simp[r.len],λj u e=>?_,λj k u w oe mi oU ax aL d_ fv ae aj=>?_,r.ent,r.o0,r.fr⟩
 ·rcases get_set e with ⟨rfl,bg,av⟩|⟨ne,bg⟩
  ·cases bg
   exact⟨_,KJ (by rw[<- r.len];exact av),h⟩
  ·obtain⟨w,ae,aj⟩:=r.val j u bg;exact⟨w,by rw[BM ne];exact ae,aj⟩
 ·rcases get_set ax with ⟨rfl,bg,av⟩|⟨ne1,kv⟩
  ·rcases get_set aL with ⟨rfl,_,_⟩|⟨ne2,hA⟩
   ·exact absurd rfl oU
   ·rw[KJ (by rw[<- r.len];exact av)] at ae;rw[BM ne2] at aj;cases ae;cases bg;exact fr d_ k w mi ne2 hA fv aj
  ·rw[BM ne1] at ae;rcases get_set aL with ⟨rfl,bg,av⟩|⟨ne2,hA⟩
   ·rw[KJ (by rw[<- r.len];exact av)] at aj;cases aj;cases bg;intro a aq ab;exact fr fv j u oe ne1 kv d_ ae a ab aq
   ·rw[BM ne2] at aj;exact r.ne j k u w oe mi oU kv hA d_ fv ae aj
theorem cH.set{t:T}{v:V}(r:cH K aG E O F H ε σ)(i:Nat)(h:Rep K F H t v):cH K aG E O F H (ε.set i (some (.U t))) (σ.set i (some v)):=r.setG (s:=.U t) i h λz=>by cases z
def cH.IH{s:aR}{v:V}(r:cH K aG E O F H ε σ)(i:Nat)(x:Ext F H a5 H1)(h:el K E O a5 H1 s v)(aX:∀a∈dr H1 s v,H a=none):cH K aG E O a5 H1 (ε.set i (some s)) (σ.set i (some v)):=
 (r.ext x).setG i h λ_ j u w _ sl _ a' a aq ab=>by
  obtain⟨dv,ae,aj⟩:=r.val j u sl;rw[a'] at ae;cases ae;rw[(aj.amu x).2] at ab;obtain⟨o,e,_⟩:=aj.at ab;rw[aX a aq] at e;cases e
def Sj{x:ak}{o o':ey}(aX:¬F x)(hx:H x=some o)(hm:nC o):d6 K F H F (upd H x o'):=by
 refine⟨λb xs q=>?_,λb xs f q=>⟨f,?_⟩⟩
 ·rcases q with q|q
  ·refine .inl ?_
   have nb:b≠x:=by
    rintro rfl;rcases q with q|⟨_,q⟩ <;> (rw[hx] at q;cases q;exact hm.cases (λ_ z=>by cases z) (λ_ z=>by cases z) (λ_ _ _ z=>by cases z))
   rcases q with q|⟨u,q⟩
   ·exact .inl (by rw[cI nb];exact q)
   ·exact .inr ⟨u,by rw[cI nb];exact q⟩
  ·exact .inr q
 ·have nb:b≠x:=by
   rintro rfl;exact aX f
  rcases q with q|⟨u,q⟩
  ·exact .inl (by rw[cI nb];exact q)
  ·exact .inr ⟨u,by rw[cI nb];exact q⟩
def RL{x:ak}{o o':ey}{h0:aA}(e:Ext aG h0 F H)(X3:h0 x=none)(aX:¬F x)(hx:H x=some o)(hm:nC o):Ext aG h0 F (upd H x o'):=by
 refine⟨λb u q=>?_,e.sub,e.new,⟨λb f=>?_,e.cf.m_.OR λu z=>by rw[hx] at z;cases z;exact hm⟩⟩
 ·have nb:b≠x:=by
   rintro rfl;rw[X3] at q;cases q
  rw[cI nb];exact e.same b u q
 ·have nb:b≠x:=by
   rintro rfl;exact aX f
  rw[cI nb];exact e.cf b f
def cH.AA{s s':aR}{v:V}{x:ak}{o':ey}(r:cH K aG E O F H ε σ){i:Nat}(e:ε[i]?=some (some s))(aE:s.iH=true)(a4:σ[i]?=some (some v))(hx:x∈dr H s v)
  (h:d6 K F H F (upd H x o')->el K E O F (upd H x o') s' v)
  (az:∀b∈dr (upd H x o') s' v,b∈dr H s v\/∀(j:Nat) (u:aR) (w:V),i≠j->ε[j]?=some (some u)->u.iH=true->σ[j]?=some (some w)->b∉dr H u w):
  d6 K F H F (upd H x o')/\cH K aG E O F (upd H x o') (ε.set i (some s')) σ:=by
 obtain⟨lN,zW,rs⟩:=r.val i s e;rw[a4] at zW;cases zW;obtain⟨o,e1,hm⟩:=rs.at hx;obtain⟨AB,kz,_⟩:=rs.held hx;have Ya:=kz aE;have aw:d6 K F H F (upd H x o'):=Sj AB e1 hm;have h0:=r.o0 x Ya;have keep:∀(j:Nat) (u:aR) (w:V),i≠j->ε[j]?=some (some u)->σ[j]?=some (some w)->el K E O F H u w->el K E O F (upd H x o') u w/\dr (upd H x o') u w=dr H u w:=by
  intro j u w jA sl a' c_;refine c_.keep aw (λb ab=>cI ?_) (λ_ _ f=>f) λ_ _ o=>o;rintro rfl;cases q_:u.iH with
  |true=>exact r.ne i j s u v w jA e sl aE q_ a4 a' b hx ab
  |false=>exact (c_.held ab).2.2 q_ h0
 refine⟨aw,⟨by simp[r.len],λj u bg=>?_,λj k u w oe mi oU ax aL d_ fv ae aj=>?_,RL r.ent h0 AB e1 hm,r.o0,λb bg=>r.fr b ?_⟩⟩
 ·rcases get_set bg with ⟨rfl,pX,av⟩|⟨ne,pX⟩
  ·cases pX
   exact⟨_,a4,h aw⟩
  ·obtain⟨w,ae,aj⟩:=r.val j u pX;exact⟨w,ae,(keep j u w ne pX ae aj).1⟩
 ·rcases get_set ax with ⟨rfl,bg,av⟩|⟨ne1,kv⟩
  ·rcases get_set aL with ⟨rfl,_,_⟩|⟨ne2,hA⟩
   ·exact absurd rfl oU
   ·cases bg
    rw[a4] at ae;cases ae;obtain⟨dv,i6,b7⟩:=r.val k w hA;rw[aj] at i6;cases i6;rw[(keep k w mi ne2 hA aj b7).2];intro a aq ab;rcases az a aq with z|z
    ·exact r.ne i k s w v mi ne2 e hA aE fv a4 aj a z ab
    ·exact z k w mi ne2 hA fv aj ab
  ·obtain⟨v1,dW,bC⟩:=r.val j u kv;rw[ae] at dW;cases dW;rw[(keep j u oe ne1 kv ae bC).2];rcases get_set aL with ⟨rfl,bg,av⟩|⟨ne2,hA⟩
   ·cases bg
    rw[a4] at aj;cases aj;intro a aq ab;rcases az a ab with z|z
    ·exact r.ne i j s u v oe ne1 e kv aE d_ a4 ae a z aq
    ·exact z j u oe ne1 kv d_ ae aq
   ·obtain⟨dv,i6,b7⟩:=r.val k w hA;rw[aj] at i6;cases i6;rw[(keep k w mi ne2 hA aj b7).2];exact r.ne j k u w oe mi oU kv hA d_ fv ae aj
 ·by_cases nb:b=x
  ·subst nb;rw[dN] at bg;cases bg
  ·rwa [cI nb] at bg
def cH.mut{s s':aR}{a:ak}{o o':ey}(r:cH K aG E O F H ε σ){i:Nat}(e:ε[i]?=some (some s))(aE:s.iH=true)(a4:σ[i]?=some (some (.ref a)))(aX:¬F a)(kB:O a)(aq:H a=some o)
  (ay:(∃xs,o=.lst xs)\/∃xs,o=.dP xs) (h:d6 K F H F (upd H a o')->el K E O F (upd H a o') s' (.ref a)) (f1:∀H:aA,dr H s (.ref a)=[a]:=by intro _;rfl) (f2:∀H:aA,dr H s' (.ref a)=[a]:=by intro _;rfl):
  d6 K F H F (upd H a o')/\cH K aG E O F (upd H a o') (ε.set i (some s')) σ:=
 r.AA e aE a4 (by rw[f1];simp) h λb ab=>by
  rw[f2] at ab;rw[f1];exact .inl ab
end
noncomputable def A5(K:br)(f:bK):TE:=λσ H Q=>∃aG aO O F ε t,cH K aG aO O F H ε σ/\f ε=some t/\∀v aF ah,Ext F H aF ah->gA K O aF ah t v->Q v ah
noncomputable def uV(K:br)(f:bK):TE:=λσ H Q=>∃aG aO O F ε t,cH K aG aO O F H ε σ/\f ε=some t/\∀v aF ah,Ext F H aF ah->Rep K aF ah t v->Q v ah
noncomputable def tN(K:br)(f:bK):TE:=λσ H Q=>∃aG aO O F ε ts,cH K aG aO O F H ε σ/\f ε=some (.list ts)/\∀a vs aF ah,Ext F H aF ah->H a=none->¬aF a->ah a=some (.lst vs)->bp K aF ah ts vs->Q (.ref a) ah
noncomputable def A6(K:br)(f:fP):TT:=λσ H Q=>∃aG aO O F ε b,cH K aG aO O F H ε σ/\f ε=some b/\∀aF ah,Ext F H aF ah->Q b ah
noncomputable def OP(K:br)(aB:List bK):gs:=λσ H Q=>∃aG aO O F ε ts,cH K aG aO O F H ε σ/\args aB ε=some ts/\∀vs aF ah,Ext F H aF ah->Paired (gA K O aF ah) ts vs->Q vs ah
noncomputable def adu(K:br)(aB:List bK):gs:=λσ H Q=>∃aG aO O F ε ts,cH K aG aO O F H ε σ/\args aB ε=some ts/\∀vs aF ah,Ext F H aF ah->bp K aF ah ts vs->Q vs ah
abbrev eh(X:bt)(e:bz)(f:bK):Prop:=b3 X e (A5 X.K f)
abbrev cK(X:bt)(e:bz)(f:bK):Prop:=b3 X e (uV X.K f)
abbrev r4(X:bt)(e:bz)(f:bK):Prop:=b3 X e (tN X.K f)
abbrev jV(X:bt)(e:bz)(f:fP):Prop:=jU X e (A6 X.K f)
abbrev amc(X:bt)(e:bz)(f:fP):Prop:=nI X e (A6 X.K f)
abbrev qN(X:bt)(es:List bz)(aB:List bK):Prop:=h5 X es (OP X.K aB)
abbrev mF(X:bt)(es:List bz)(aB:List bK):Prop:=h5 X es (adu X.K aB)
def ew{X:bt}{e:bz}{t t':TE}(h:b3 X e t)(k:∀σ H Q,t' σ H Q->t σ H Q):b3 X e t':=λai s σ H Q I q=>h ai s σ H Q I (k σ H Q q)
def tT{X:bt}{e:bz}{t t':TT}(h:jU X e t)(k:∀σ H Q,t' σ H Q->t σ H Q):jU X e t':=λai s σ H Q I q=>h ai s σ H Q I (k σ H Q q)
def Te{X:bt}{e:bz}{t t':TT}(h:nI X e t)(k:∀σ H Q,t' σ H Q->t σ H Q):nI X e t':=λw ai s σ H Q I q=>h w ai s σ H Q I (k σ H Q q)
def CM{X:bt}{e:List bz}{t t':gs}(h:h5 X e t)(k:∀σ H Q,t' σ H Q->t σ H Q):h5 X e t':=λpos ai s σ H Q I q=>h pos ai s σ H Q I (k σ H Q q)
def hk{X:bt}{e:Stmt}{t t':gT}(h:ko X e t)(k:∀D σ H,t' D σ H->t D σ H):ko X e t':=λai s σ H D I q=>h ai s σ H D I (k D σ H q)
def SF{X:bt}{e:List Stmt}{t t':gT}(h:kp X e t)(k:∀D σ H,t' D σ H->t D σ H):kp X e t':=λai s σ H D I q=>h ai s σ H D I (k D σ H q)
section
variable {X:bt}{e:bz}{f:bK}
def aJ(h:cK X e f):eh X e f:=ew h λσ H Q ⟨aG,aO,O,F,ε,t,r,e,k⟩=>⟨aG,aO,O,F,ε,t,r,e,λv aF ah x q=>k v aF ah x (.inl q)⟩
def N8(h:r4 X e f)(hf:∀ε t,f ε=some t->∃ts,t=.list ts):cK X e f:=ew h λσ H Q ⟨aG,aO,O,F,ε,t,r,e,k⟩=>by
 obtain⟨ts,rfl⟩:=hf _ _ e;refine⟨aG,aO,O,F,ε,ts,r,e,λa vs aF ah x aX hU aq q=>?_⟩;have y:Ext F H (λb=>aF b\/b=a) ah:=⟨x.same,λb z=>.inl (x.sub b z),λb z=>by
  rcases z with z|rfl
  ·exact x.new b z
  ·exact .inr aX,⟨λb z=>by
  rcases z with z|rfl
  ·exact x.cf b z
  ·exact⟨_,aq⟩,x.cf.m_⟩⟩
 refine k (.ref a) _ ah y ?_
 simp only[Rep];exact⟨a,vs,rfl,.inr rfl,.inl aq,q.keep (λ_ _ z=>z) λb _ z w=>⟨.inl z,w⟩⟩
end
end
section
variable [cG]
section
variable {X:bt}{a b c e:bz}{f g h:bK}{pos:Pos}
def vI{t:T}{v:V}(he:b3 X e (ta v))(au:∀F H,Rep X.K F H t v):cK X e (aa t):=ew he λσ H Q ⟨aG,aO,O,F,ε,t',r,e,k⟩=>by
 cases e
 exact k v F H (Ext.refl r.cf) (au _ _)
def bl{i j}:cK X (.Constant (.int i) j pos) (aa (.int i)):=vI SR λ_ _=>by simp[Rep]
def me{i j}:cK X (.Constant (.bool i) j pos) (aa (.bool i)):=vI ak6 λ_ _=>by simp[Rep]
def cz{i j}:cK X (.Constant (.str i) j pos) (aa (.str i)):=vI aj9 λ_ _=>by simp[Rep]
def lX{j}:cK X (.Constant .none j pos) (aa .none):=vI aj_ λ_ _=>by simp[Rep]
def a3(i:Nat){x:Str}(c3:X.N[i]?=some x:=by rfl)(a4:kU X.env.scope x:=by first|exact Or.inl rfl|exact Or.inr (Or.inl rfl)|exact Or.inr (Or.inr rfl))(hd:(x==("__debug__":Str))=false:=by decide)
  (ec:(x==("__classdict__":Str))=false:=by decide):eh X (.Name x pos) (nm i):=ew (bB i c3 a4 hd ec) λσ H Q ⟨aG,aO,O,F,ε,t,r,e,k⟩=>by
 unfold nm at e;split at e
 next t' he=>
  cases e
  obtain⟨v,ae,aj⟩:=r.val _ _ he;exact⟨v,ae,k v F H (Ext.refl r.cf) (.inl aj)⟩
 next ts he=>
  cases e
  obtain⟨v,ae,a,vs,rfl,n,h0,cq,au⟩:=r.val _ _ he;exact⟨_,ae,k _ F H (Ext.refl r.cf) (.inr ⟨ts,a,vs,rfl,rfl,cq,au⟩)⟩
 next=>cases e
def bh(i:Nat){x:Str}(c3:X.N[i]?=some x:=by rfl)(a4:kU X.env.scope x:=by first|exact Or.inl rfl|exact Or.inr (Or.inl rfl)|exact Or.inr (Or.inr rfl))(hd:(x==("__debug__":Str))=false:=by decide)
  (ec:(x==("__classdict__":Str))=false:=by decide):cK X (.Name x pos) (ao i):=ew (bB i c3 a4 hd ec) λσ H Q ⟨aG,aO,O,F,ε,t,r,e,k⟩=>by
 unfold ao at e;split at e
 next t' he=>
  cases e
  obtain⟨v,ae,aj⟩:=r.val _ _ he;exact⟨v,ae,k v F H (Ext.refl r.cf) aj⟩
 next=>cases e
noncomputable def oG(K:br)(o:T->T->Option T)(R:hn):Prop:=
 ∀(O F:ak->Prop) (H:aA) (x y t:T) (ik ka:V) (Q:dj),fo F H->gA K O F H x ik->gA K O F H y ka->o x y=some t ->
  (∀v aF ah,Ext F H aF ah->Rep K aF ah t v->Q v ah)->R ik ka H Q
def rD{o:T->T->Option T}{R:hn}(h:oG X.K o R):∀σ H Q,uV X.K (af o f g) σ H Q->xv R (A5 X.K f) (A5 X.K g) σ H Q:=by
 rintro σ H Q ⟨aG,aO,O,F,ε,t,r,e,k⟩;simp only[af,b0] at e;obtain⟨x,ex,y,e2,e1⟩:=e;refine⟨aG,aO,O,F,ε,x,r,ex,λik a5 H1 aU aY=>⟨aG,aO,O,a5,ε,y,r.ext aU,e2,λka dt bf bQ bO=>?_⟩⟩;exact h O dt bf x y t ik ka Q bQ.cf (aY.ext bQ) bO e1 λv aF ah hh c5=>k v aF ah ((aU.trans bQ).trans hh) c5
def Inv.w1{ai:List (ak×Obj)}{σ:bG.St}{H:aA}{s:aK}{l:ak}{xs:List V}(I:Inv X ai σ H s)(eA:f' H l (.lst xs)):
  xs.length<=cB/\∃(its:List ag) (n:Nat),Vals xs its/\xs.length=its.length/\s.heap.get? l=some {cls:=.type "list",data:=.seq its.toArray n}:=by
 obtain⟨z,its,n,r,e⟩:=eA.ok I.bT;exact⟨z,its,n,r,r.length,e⟩
noncomputable def akW:hn:=λx y H Q=>∃l b xs zs,x=.ref l/\y=.ref b/\f' H l (.lst xs)/\f' H b (.lst zs)/\xs.length+zs.length<=cB/\∀p,H p=none->Q (.ref p) (upd H p (.lst (xs++zs)))
def ajd:fp X (oq .Add) akW:=by
 intro ai s σ H x y v u Q I aY bO h;obtain⟨l,b,xs,zs,rfl,rfl,eA,sq,hz,q⟩:=h;cases aY;cases bO;obtain⟨z,its,n,r,av,e⟩:=Inv.w1 I eA;obtain⟨f9,gH,eH,b7,mQ,aL⟩:=Inv.w1 I sq;refine PySem.P.add_list e aL ?_ (by rw[eo,eo];omega);have d0:its.toArray++gH.toArray=(its++gH).toArray:=by simp
 rw[d0];exact⟨.ref _,_,I.Ay (t':=s.toks) (r.append b7) (by rw[jI];omega),rfl,q _ I.fresh⟩
noncomputable def ajT(K:br):hn:=λx y H Q=>∃a b ys,x=.ref a/\y=.ref b/\c6 K H a []/\c6 K H b ys/\Q (.ref b) H
def ah8:fp X (oq .Add) (ajT X.K):=by
 intro ai s σ H x y v u Q I aY bO h;obtain⟨a,b,ys,rfl,rfl,aq,ab,q⟩:=h;cases aY;cases bO;obtain⟨its,bC,uL,_⟩:=I.tuple aq;obtain⟨gH,b7,fl,_⟩:=I.tuple ab;have EW:its=[]:=bC.AE.mpr rfl;subst EW;obtain⟨⟨cls,e0,data,df⟩,aE,ar,n,hd⟩:=id uL;obtain⟨⟨EN,mI,data2,lL⟩,sF,n0,eH,hd2⟩:=id fl;simp only at ar hd n0 hd2;subst ar hd n0 hd2;exact concat_meets ⟨_,aE,rfl⟩ ⟨_,sF,rfl⟩ noFill_tuple_add seq_tuple_add PySem.F.slot_tuple_add PySem.F.entry_tuple_add (PySem.F.args_tuple_add_2 _ _)
   (tuple_addW0 a b ([]:List ag).toArray gH.toArray n eH e0 mI df lL (by simp)) ⟨aE,sF,⟨.ref b,H,I,rfl,q⟩⟩
def lh:cB=big:=by rw[h1];rfl
def hu(aq:eh X a f)(ab:eh X b g):cK X (.BinOp a .Add b pos) (af b4 f g):=
 ew (yB (akg.or (afZ.or (ah8.or (ajc.or ajd)))) aq ab) (rD (by
  intro O F H x y t ik ka Q d aY bO e k;unfold b4 at e;split at e
  ·cases e
   rw[aY.int,bO.int];exact .inl ⟨_,_,rfl,rfl,k _ F H (Ext.refl d) (by simp[Rep])⟩
  ·split at e
   next hz=>
    cases e
    rw[aY.str,bO.str];exact .inr (.inl ⟨_,_,rfl,rfl,by rw[lh];exact hz,k _ F H (Ext.refl d) (by simp[Rep])⟩)
   next=>cases e
  ·split at e
   next xs ys hz=>
    cases e
    obtain⟨DY,vs,rfl,aC,au⟩:=aY.tup;obtain⟨V2,ws,rfl,mT,mR⟩:=bO.tup;cases xs with
    |nil=>
     simp only[bp] at au;subst au;refine .inr (.inr (.inl ⟨_,_,_,rfl,rfl,aC,mT,k _ F H (Ext.refl d) ?_⟩));simp only[Rep];exact⟨_,_,rfl,mT,by simpa using mR⟩
    |cons x0 xr=>
     refine .inr (.inr (.inr (.inl ⟨_,_,_,_,rfl,rfl,aC,mT,?_,?_,λcx=>?_,λcx p az=>?_⟩)))
     ·intro z;subst z;have:=au.length;simp at this
     ·rw[lh,<- au.length,<- mR.length];exact hz
     ·refine k _ F H (Ext.refl d) ?_
      subst cx;have ax:ys=[]:=List.eq_nil_of_length_eq_zero (by rw[mR.length];rfl);subst ax;simp only[Rep];exact⟨_,_,rfl,aC,by simpa using au⟩
     ·have aU:=Ext.laid (o:=.tup (vs++ws)) d az;refine k _ F _ aU ?_;simp only[Rep];exact⟨p,_,rfl,c6.of dN,(au.append mR).ext aU⟩
   next=>cases e
  ·split at e
   next xs ys hz=>
    cases e
    obtain⟨DY,vs,rfl,aC,au⟩:=aY.lst;obtain⟨V2,ws,rfl,mT,mR⟩:=bO.lst;refine .inr (.inr (.inr (.inr ⟨_,_,_,_,rfl,rfl,aC,mT,by rw[lh,<- au.length,<- mR.length];exact hz,λp az=>?_⟩)));have aU:=Ext.Aw (o:=.lst (vs++ws)) d az;refine k _ _ _ aU ?_;simp only[Rep];exact⟨p,_,rfl,.inr rfl,.inl dN,(au.append mR).ext aU⟩
   next=>cases e
  ·cases e))
noncomputable def ahX:V->List V->aA->dj->Prop:=λx vs H Q=>∃l b xs zs,x=.ref l/\vs=[.ref b]/\H l=some (.lst xs)/\f' H b (.lst zs)/\xs.length+zs.length<=cB/\Q .ff (upd H l (.lst (xs++zs)))
def af8:r0 X "list.extend" ahX:=by
 intro ai s σ H x vs v us Q I aY bV h;obtain⟨l,b,xs,zs,rfl,rfl,eA,sq,hz,q⟩:=h;cases aY;obtain⟨u,rfl,c_⟩:=bV.one;cases c_;obtain⟨z,its,n,r,av,e⟩:=I.uI eA;obtain⟨f9,gH,eH,b7,mQ,aL⟩:=Inv.w1 I sq;have hsz:its.toArray.size+gH.toArray.size<=cB:=by rw[eo,eo];omega
 have FZ:¬(!its.toArray.isEmpty && Builtin.List.listTooLong (its.toArray.size+gH.toArray.size))=true:=by
  rw[RB hsz,Bool.and_false];exact ti
 refine qm F.slot_list_extend ⟨_,e,rfl⟩ F.entry_list_extend (F.args_list_extend_2 _ _)
  (AutoSeq1.list_extend_list_list_0 l its.toArray n b gH.toArray eH FZ (by rw[eo];omega) (by omega)) ⟨e,aL,?_⟩
 refine⟨.ff,_,I.uH (its':=its++gH) eA e (by simp) (r.append b7) ?_,rfl,q⟩
 rw[jI];omega
def Tp(aq:eh X a f)(ab:eh X b g):cK X (.BinOp a .Sub b pos) (af q9 f g):=
 ew (yB akd aq ab) (rD (by
  intro O F H x y t ik ka Q d aY bO e k;unfold q9 at e;split at e
  ·cases e
   rw[aY.int,bO.int];exact⟨_,_,rfl,rfl,k _ F H (Ext.refl d) (by simp[Rep])⟩
  ·cases e))
def pA(aq:eh X a f)(ab:eh X b g):cK X (.BinOp a .Mult b pos) (af dn f g):=
 ew (yB ake aq ab) (rD (by
  intro O F H x y t ik ka Q d aY bO e k;unfold dn at e;split at e
  ·split at e
   next hm=>
    cases e
    rw[aY.int,bO.int];refine⟨_,_,rfl,rfl,?_,k _ F H (Ext.refl d) (by simp[Rep])⟩;simpa [vL,yJ] using hm
   next=>cases e
  ·cases e))
def tW(aq:eh X a f)(ab:eh X b g):cK X (.BinOp a .FloorDiv b pos) (af oDiv f g):=
 ew (yB ajb aq ab) (rD (by
  intro O F H x y t ik ka Q d aY bO e k;unfold oDiv at e;split at e
  ·split at e
   next hm=>
    cases e
    rw[aY.int,bO.int];exact⟨_,_,rfl,rfl,hm,k _ F H (Ext.refl d) (by simp[Rep])⟩
   next=>cases e
  ·cases e))
def lj(aq:eh X a f)(ab:eh X b g):cK X (.BinOp a .Mod b pos) (af oMod f g):=
 ew (yB akf aq ab) (rD (by
  intro O F H x y t ik ka Q d aY bO e k;unfold oMod at e;split at e
  ·split at e
   next hm=>
    cases e
    rw[aY.int,bO.int];exact⟨_,_,rfl,rfl,hm,k _ F H (Ext.refl d) (by simp[Rep])⟩
   next=>cases e
  ·cases e))
def cC(aq:eh X a f)(ab:eh X b g)(aC:SE b:=by intro _ _;rfl):cK X (.Subscript a b pos) (af aP f g):=
 ew (ak5 akv aq ab aC) (rD (by
  intro O F H x y t ik ka Q d aY bO e k;unfold aP at e;split at e
  ·obtain⟨DY,vs,rfl,aC,au⟩:=aY.tup;rw[bO.int];simp only[ei,b0] at e;obtain⟨j,a',bM⟩:=e;obtain⟨v,a4,bV⟩:=au.get bM;refine .inr (.inl ⟨_,_,_,v,rfl,rfl,aC,?_,k _ F H (Ext.refl d) bV⟩);rw[au.length] at a';show (q4 _ _).bind _=_;rw[show q4 vs.length _=some j from a'];exact a4
  ·obtain⟨DY,vs,rfl,aC,au⟩:=aY.lst;rw[bO.int];simp only[ei,b0] at e;obtain⟨j,a',bM⟩:=e;obtain⟨v,a4,bV⟩:=au.get bM;refine .inl ⟨_,_,_,v,rfl,rfl,.inl aC,?_,k _ F H (Ext.refl d) bV⟩;rw[au.length] at a';show (q4 _ _).bind _=_;rw[show q4 vs.length _=some j from a'];exact a4
  ·split at e
   next hz=>
    rw[aY.str,bO.int];simp only[dR] at e;obtain⟨c,ar,rfl⟩:=e;exact .inr (.inr ⟨_,_,c,rfl,rfl,by rw[lh];exact hz,ar,k _ F H (Ext.refl d) (by simp[Rep])⟩)
   next=>cases e
  ·cases e))
end
end
section
variable [cG]
noncomputable def yL(K:br)(aG:ak->Prop)(aO:gS)(O F:ak->Prop)(H:aA)(D:Ends):Out->Prop
|.bR ε'=>∀cj aF ah,d6 K F H aF ah->cH K aG aO O aF ah ε' cj->D.bR cj ah
|.dB t=>∀v aF ah,Ext aG aO.h aF ah->Rep K aF ah t v->D.dB v ah
|.jC t ε'=>∀v cj aF ah,cH K aG aO O aF ah ε' cj->Rep K aF ah t v->D.dB v ah
|.j6 s=>∀a aF ah,Ext aG aO.h aF ah->el K aO O aF ah s (.ref a)->D.dB (.ref a) ah
|.gC ε'=>∀cj aF ah,d6 K F H aF ah->cH K aG aO O aF ah ε' cj->D.gC cj ah
|.dO ε'=>∀cj aF ah,d6 K F H aF ah->cH K aG aO O aF ah ε' cj->D.dO cj ah
noncomputable def OQ(K:br)(g:bD):gT:=λD σ H=>∃aG aO O F ε o,cH K aG aO O F H ε σ/\g ε=some o/\yL K aG aO O F H D o
abbrev f_(X:bt)(s:Stmt)(g:bD):Prop:=ko X s (OQ X.K g)
abbrev iW(X:bt)(s:List Stmt)(g:bD):Prop:=kp X s (OQ X.K g)
def yL.aw{K:br}{aG O F a5:ak->Prop}{aO:gS}{H H1:aA}{D:Ends}{o:Out}(h:yL K aG aO O F H D o)(x:d6 K F H a5 H1):yL K aG aO O a5 H1 D o:=by
 cases o with
|bR ε=>exact λcj aF ah k r=>h cj aF ah (x.trans k) r
|dB t=>exact h
|gC ε=>exact λcj aF ah k r=>h cj aF ah (x.trans k) r
|dO ε=>exact λcj aF ah k r=>h cj aF ah (x.trans k) r
|jC t ε=>exact h
|j6 s=>exact h
section
variable {X:bt}{e a b c:bz}{f:bK}{g g':bD}{fk:fP}{st:Stmt}{rest:List Stmt}{pos:Pos}
def eX:iW X [] skip:=SF ai2 λD σ H ⟨aG,aO,O,F,ε,o,r,e,k⟩=>by
 cases e
 exact k σ F H d6.refl r
def bP(h:f_ X st g):iW X [st] g:=ai1 h
def bF(ae:f_ X st g)(aj:iW X rest g'):iW X (st::rest) (seq g g'):=SF (ah2 ae aj) λD σ H ⟨aG,aO,O,F,ε,o,r,e,k⟩=>by
 simp only[seq,b0] at e;obtain⟨d_,ax,aL⟩:=e;refine⟨aG,aO,O,F,ε,d_,r,ax,?_⟩;cases d_ with
|bR ε'=>exact λcj aF ah x cu=>⟨aG,aO,O,aF,ε',o,cu,aL,k.aw x⟩
|dB t=>
  cases aL
  exact k
|gC ε'=>
  cases aL
  exact k
|dO ε'=>
  cases aL
  exact k
|jC t ε'=>
  cases aL
  exact k
|j6 s=>
  cases aL
  exact k
def eg(h:cK X e f):f_ X (.Return (some e) pos) (bN f):=hk (La h) λD σ H ⟨aG,aO,O,F,ε,o,r,e,k⟩=>by
 simp only[bN,dR] at e;obtain⟨t,bM,rfl⟩:=e;exact⟨aG,aO,O,F,ε,t,r,bM,λv aF ah x q=>k v aF ah (r.ent.trans x) q⟩
def CD(i:Nat){x:Str}{_F:Pos}(c3:X.N[i]?=some x:=by rfl)(a4:kU X.env.scope x:=by first|exact Or.inl rfl|exact Or.inr (Or.inl rfl)|exact Or.inr (Or.inr rfl))(hd:(x==("__debug__":Str))=false:=by decide)
  (ec:(x==("__classdict__":Str))=false:=by decide):f_ X (.Return (some (.Name x _F)) pos) (bN (nm i)):=hk (La (bB i c3 a4 hd ec)) λD σ H ⟨aG,aO,O,F,ε,o,r,e,k⟩=>by
 simp only[bN,dR] at e;obtain⟨t,bM,rfl⟩:=e;unfold nm at bM;split at bM
 next t' he=>
  cases bM
  obtain⟨v,ae,aj⟩:=r.val _ _ he;exact⟨v,ae,k v F H r.ent aj⟩
 next ts he=>
  cases bM
  obtain⟨v,ae,a,vs,rfl,n,h0,aq,q⟩:=r.val _ _ he;have bQ:=r.ent;have y:Ext aG aO.h (λb=>F b\/b=a) H:=⟨bQ.same,λb z=>.inl (bQ.sub b z),λb z=>by
   rcases z with z|rfl
   ·exact bQ.new b z
   ·exact .inr (r.o0 _ h0),⟨λb z=>by
   rcases z with z|rfl
   ·exact bQ.cf b z
   ·exact⟨_,aq⟩,bQ.cf.m_⟩⟩
  refine⟨_,ae,k _ _ H y ?_⟩
  simp only[Rep];exact⟨a,vs,rfl,.inr rfl,.inl aq,q.keep (λ_ _ z=>z) λb _ z w=>⟨.inl z,w⟩⟩
 next=>cases bM
def dC(ar:jV X c fk)(aq:iW X rest g){MX:List Stmt}(ab:iW X MX g'):f_ X (.If c rest MX pos) (iff fk g g'):=hk (ak1 ar aq ab) λD σ H ⟨aG,aO,O,F,ε,o,r,e,k⟩=>by
 simp only[iff,b0] at e;obtain⟨b,dQ,e⟩:=e;refine⟨aG,aO,O,F,ε,b,r,dQ,λaF ah x=>?_⟩;cases b with
|true=>exact wX ⟨aG,aO,O,aF,ε,o,r.ext x,by simpa using e,k.aw x.aw⟩
|false=>exact wW ⟨aG,aO,O,aF,ε,o,r.ext x,by simpa using e,k.aw x.aw⟩
def ek(i:Nat){x:Str}{pos':Pos}(c3:X.N.Nodup)(he:cK X e f)(ba:X.N[i]?=some x:=by rfl)(hx:Loc X.env.scope x:=by first|exact Or.inl rfl|exact Or.inr rfl)
  (aC:iu e (some (.Name x pos')) pos.line X.env=pure false:=by rfl) (hf:X.fn x=true\/X.env.scope.names.lookup x=some .local:=by first|exact .inl rfl|exact .inr rfl):
  f_ X (.Assign [.Name x pos'] e pos) (asg i f):=hk (yq c3 ba hx he aC hf) λD σ H ⟨aG,aO,O,F,ε,o,r,e,k⟩=>by
 simp only[asg,dR] at e;obtain⟨t,bM,rfl⟩:=e;refine⟨aG,aO,O,F,ε,t,r,bM,λv aF ah x q=>?_⟩;exact k _ aF ah x.aw ((r.ext x).set i q)
def CE(i:Nat){x:Str}{pos':Pos}(c3:X.N.Nodup)(he:r4 X e f)(ba:X.N[i]?=some x:=by rfl)(hx:Loc X.env.scope x:=by first|exact Or.inl rfl|exact Or.inr rfl)
  (aC:iu e (some (.Name x pos')) pos.line X.env=pure false:=by rfl) (hf:X.fn x=true\/X.env.scope.names.lookup x=some .local:=by first|exact .inl rfl|exact .inr rfl):
  f_ X (.Assign [.Name x pos'] e pos) (e_ i f):=hk (yq c3 ba hx he aC hf) λD σ H ⟨aG,aO,O,F,ε,o,r,e,k⟩=>by
 simp only[e_,b0] at e;obtain⟨t,bM,e⟩:=e;split at e
 next ts=>
  cases e
  refine⟨aG,aO,O,F,ε,ts,r,bM,λa vs aF ah x aX hU aq q=>?_⟩
  exact k _ aF ah x.aw (r.IH (s:=.own ts) i x ⟨a,vs,rfl,hU,r.fr a aX,aq,q⟩ λb ab=>by
   have:b=a:=by simpa [dr,hV] using ab
   rw[this];exact aX)
 next=>cases e
noncomputable def tG(K:br)(g:iB):oH:=λv σ H Q=>∃aG aO O F ε t ε',cH K aG aO O F H ε σ/\Rep K F H t v/\g t ε=some ε'/\∀cj,cH K aG aO O F H ε' cj->Q cj H
noncomputable def adB(K:br)(fH:List iB):pN:=λvs σ H Q=>∃aG aO O F ε ts ε',cH K aG aO O F H ε σ/\bp K F H ts vs/\fG fH ts ε=some ε'/\∀cj,cH K aG aO O F H ε' cj->Q cj H
abbrev pL(X:bt)(e:bz)(g:iB):Prop:=r5 X e (tG X.K g)
abbrev yQ(X:bt)(es:List bz)(fH:List iB):Prop:=r6 X es (adB X.K fH)
def Tf{X:bt}{e:bz}{t t':oH}(h:r5 X e t)(k:∀v σ H Q,t' v σ H Q->t v σ H Q):r5 X e t':=λai s σ H v u Q I r q=>h ai s σ H v u Q I r (k v σ H Q q)
def SG{X:bt}{e:List bz}{t t':pN}(h:r6 X e t)(k:∀v σ H Q,t' v σ H Q->t v σ H Q):r6 X e t':=λai s σ H v u Q I r q=>h ai s σ H v u Q I r (k v σ H Q q)
def fY(i:Nat){x:Str}(c3:X.N.Nodup)(ba:X.N[i]?=some x:=by rfl)(hx:Loc X.env.scope x:=by first|exact Or.inl rfl|exact Or.inr rfl)
  (hf:X.fn x=true\/X.env.scope.names.lookup x=some .local:=by first|exact .inl rfl|exact .inr rfl):pL X (.Name x pos) (bA i):=Tf (ai8 c3 ba hx hf) λv σ H Q ⟨aG,aO,O,F,ε,t,ε',r,q,e,k⟩=>by
 cases e
 exact k _ (r.set i q)
def CT:yQ X [] []:=SG ai7 λvs σ H Q ⟨aG,aO,O,F,ε,ts,ε',r,q,e,k⟩=>by
 cases ts with
|nil=>
  cases e
  simp only[bp] at q;exact⟨q,k σ r⟩
|cons t ts=>cases e
def qB{es:List bz}{g:iB}{fH:List iB}(ae:pL X e g)(aj:yQ X es fH)(aC:(ql (e::es) X.env).map (·.2)=assign e X.env::(ql es X.env).map (·.2):=by rfl):yQ X (e::es) (g::fH):=
 SG (ah6 ae aj aC) λvs σ H Q ⟨aG,aO,O,F,ε,ts,ε',r,q,e,k⟩=>by
 cases ts with
|nil=>cases e
|cons t ts=>
  simp only[fG,b0] at e;obtain⟨mB,ax,aL⟩:=e;simp only[bp] at q;obtain⟨v,IZ,rfl,aM,a9⟩:=q;exact⟨v,IZ,rfl,aG,aO,O,F,ε,t,mB,r,aM,ax,λt4 bC=>⟨aG,aO,O,F,mB,ts,ε',bC,a9,aL,k⟩⟩
theorem RJ:∀{fH:List iB} {ts:List T} {ε ε':Ev},fG fH ts ε=some ε'->ts.length=fH.length
| [],[],_,_,_=>rfl
| [],_::_,_,_,h=>by cases h
|_::_,[],_,_,h=>by cases h
|g::fH,t::ts,ε,ε',h=>by
  simp only[fG,b0] at h;obtain⟨mB,_,h⟩:=h;simp[RJ h]
def CS{es:List bz}{k:Nat}{fH:List iB}(h:yQ X es fH)(ar:X.calm=true:=by rfl)(aX:(ql es X.env).length=fH.length:=by rfl)(ib:(ql es X.env).findIdx? (·.1)=none:=by rfl):
  pL X (.Tuple es k pos) (dV fH):=Tf (aj6 ar h aX ib) λv σ H Q ⟨aG,aO,O,F,ε,t,ε',r,q,e,k⟩=>by
 unfold dV at e;split at e
 next ts=>
  simp only[Rep] at q;obtain⟨a,vs,rfl,aC,au⟩:=q;exact⟨a,vs,rfl,aC,by rw[<- au.length];exact RJ e,aG,aO,O,F,ε,ts,ε',r,au,e,k⟩
 next=>cases e
structure qM(K:br)(J:l0)(a5:ak->Prop)(H1:aA)(ts:List T):Prop where
 go:∀i F H t,d6 K a5 H1 F H->fo F H->ts[i]?=some t->J.go i H
 ot:∀i F H t x ah,d6 K a5 H1 F H->fo F H->ts[i]?=some t->J.ot i H x ah->∃aF,Ext F H aF ah/\Rep K aF ah t x
 stop:∀i F H,d6 K a5 H1 F H->ts.length<=i->J.stop i H
noncomputable def tI(K:br)(f:lq):TI:=λσ H R=>∃aG aO O F ε ts,cH K aG aO O F H ε σ/\f ε=some ts/\∀J aF ah,Ext F H aF ah->qM K J aF ah ts->R J ah
abbrev pM(X:bt)(du e:bz)(f:lq):Prop:=qO X du e (tI X.K f)
def CL{X:bt}{du e:bz}{t t':TI}(h:qO X du e t)(k:∀σ H R,t' σ H R->t σ H R):qO X du e t':=λai s σ H R I q=>h ai s σ H R I (k σ H R q)
def ahf{K:br}{a:ak}{a5:ak->Prop}{H1:aA}{ts:List T}{vs:List V}(cY:a5 a)(au:f' H1 a (.lst vs))(q:bp K a5 H1 ts vs):qM K (C9 K a) a5 H1 ts where
 go:=λi F H t aw d e=>by
  obtain⟨v,ae,_⟩:=q.get e;exact⟨vs,v,.inl (aw.lst _ _ cY au).2,ae⟩
 ot:=λi F H t x ah aw d e y=>by
  obtain⟨rfl,y⟩:=y;obtain⟨v,ae,aj⟩:=(q.aw aw).get e;have:=y vs (.inl (aw.lst _ _ cY au).2);rw[ae] at this;cases this;exact⟨F,Ext.refl d,aj⟩
 stop:=λi F H aw av=>⟨vs,.inl (aw.lst _ _ cY au).2,by rw[<- q.length];exact av⟩
def aio{K:br}{a:ak}{a5:ak->Prop}{H1:aA}{ts:List T}{vs:List V}(au:c6 K H1 a vs)(q:bp K a5 H1 ts vs):qM K (C_ K a) a5 H1 ts where
 go:=λi F H t aw d e=>by
  obtain⟨v,ae,_⟩:=q.get e;exact⟨vs,v,aw.tup _ _ au,ae⟩
 ot:=λi F H t x ah aw d e y=>by
  obtain⟨rfl,y⟩:=y;obtain⟨v,ae,aj⟩:=(q.aw aw).get e;have:=y vs (aw.tup _ _ au);rw[ae] at this;cases this;exact⟨F,Ext.refl d,aj⟩
 stop:=λi F H aw av=>⟨vs,aw.tup _ _ au,by rw[<- q.length];exact av⟩
def KN(lo ba:Int):(lK lo ba).length=(ba - lo).toNat:=by simp[lK]
def aip{K:br}{a5:ak->Prop}{H1:aA}(lo ba:Int):qM K (yN lo (ba - lo).toNat) a5 H1 (lK lo ba) where
 go:=λi F H t aw d e=>by
  have h:=(gZ.mp e).1;rw[KN] at h;exact h
 ot:=λi F H t x ah aw d e y=>by
  obtain⟨rfl,rfl⟩:=y;refine⟨F,Ext.refl d,?_⟩;have h:=(gZ.mp e).1;rw[KN] at h;unfold lK at e;rw[jn,List.getElem?_range h] at e;simp at e;subst e;simp[Rep]
 stop:=λi F H aw av=>by
  rw[KN] at av;exact av
noncomputable def Zp(K:br)(o5:TE):TI:=λσ H R=>o5 σ H λx H1=>∃a,x=.ref a/\(((∃xs,gb K H1 a xs)/\R (C9 K a) H1)\/((∃xs,c6 K H1 a xs)/\R (C_ K a) H1))
def ak2{du l:bz}{o5:TE}(av:b3 X l o5):qO X du l (Zp X.K o5):=by
 intro ai s σ H R I h;refine cD (av ai s σ H _ I h) λv s1 ⟨x,H1,bw,bC,a,ax,q⟩=>?_;subst ax;cases bC;have cv:∀b∈[s1.heap.objs.size],hP X ai H1 b:=λb ab=>by
  have e:b=s1.heap.objs.size:=by simpa using ab
  subst e;exact bw.uu (dw _) (bw.bT.fresh (dw _))
 rcases q with ⟨⟨xs,a_⟩,q⟩|⟨⟨xs,a_⟩,q⟩
 ·obtain⟨its,bV,p,hz⟩:=bw.list a_;refine wpAny_pyIter_list p.isList ?_;exact⟨s1.heap.objs.size,[s1.heap.objs.size],_,_,H1,rfl,bw.kept (t':=s1.toks) λb o e=>cT _ e,agH a _,⟨_,fy _ rfl,rfl,rfl⟩,cv,q⟩
 ·obtain⟨its,bV,p,hz⟩:=bw.tuple a_;refine pf (show s1.heap.IsTuple a its.toArray from p) ?_;exact⟨s1.heap.objs.size,[s1.heap.objs.size],_,_,H1,rfl,bw.kept (t':=s1.toks) λb o e=>cT _ e,afU a _,⟨_,fy _ rfl,rfl,rfl⟩,cv,q⟩
def iV{du l:bz}{f:bK}(av:cK X l f):pM X du l (cQ f):=CL (ak2 av) λσ H R ⟨aG,aO,O,F,ε,ts,r,e,k⟩=>by
 simp only[cQ,b0] at e;obtain⟨t,bM,e⟩:=e;split at e
 ·cases e
  refine⟨aG,aO,O,F,ε,_,r,bM,λv aF ah x q=>?_⟩
  simp only[Rep] at q;obtain⟨a,vs,rfl,aC,au⟩:=q;exact⟨a,rfl,.inr ⟨⟨vs,aC⟩,k _ aF ah x (aio aC au)⟩⟩
 ·cases e
  refine⟨aG,aO,O,F,ε,_,r,bM,λv aF ah x q=>?_⟩
  simp only[Rep] at q;obtain⟨a,vs,rfl,cY,aC,au⟩:=q;exact⟨a,rfl,.inl ⟨⟨vs,.inl aC⟩,k _ aF ah x (ahf cY aC au)⟩⟩
 ·cases e
def S8{du a:bz}{f:bK}{p pos:Pos}(hm:X.mg "range"=none)(aq:eh X a f)(bx:eP X "range":=by rfl)(aC:bb [a] X.env=[(false,eval a X.env)]:=by rfl)(ia:bb [a] X.env=(false,eval a X.env)::bb [] X.env:=by rfl):
  pM X du (.Call (.Name "range" p) [a] [] pos) (kj f):=CL (agX bx hm (iR aq jM ia) aC) λσ H R ⟨aG,aO,O,F,ε,ts,r,e,k⟩=>by
 simp only[kj,b0] at e;obtain⟨t,bM,e⟩:=e;split at e
 next j=>
  split at e
  next hz=>
   cases e
   refine⟨aG,aO,O,F,ε,_,r,bM,λv aF ah x q=>⟨j,by rw[q.int],?_,?_,k _ aF ah x (by simpa using aip 0 j)⟩⟩
   ·simp[qt] at hz;omega
   ·simp[qt] at hz;omega
  next=>cases e
 next=>cases e
def pz{du iter:bz}{body:List Stmt}{it:lq}{i5:iB}{pR:bD}(az:PassesOwn (bS X.prog X.w) X.A X.env X.d3)(ba:pM X du iter it)(bx:pL X du i5)(ab:iW X body pR)(ar:X.calm=true:=by rfl)
  (aC:∀x,u7 iter X.env x=pure x:=by intro _;rfl):f_ X (.For du iter body [] pos) (eT it i5 pR):=hk (aj5 az ar ba bx ab aC) λD σ H ⟨aG,aO,O,F,ε,o,r,e,k⟩=>by
 simp only[eT,b0] at e;obtain⟨ts,bM,e⟩:=e;refine⟨aG,aO,O,F,ε,ts,r,bM,λJ a5 H1 aU ok=>?_⟩;refine⟨λi m cj ah=>m=ts.length - i/\i<=ts.length/\∃aF ε' ,d6 X.K a5 H1 aF ah/\cH X.K aG aO O aF ah ε' cj/\forL i5 pR (ts.drop i) ε'=some o,⟨_,rfl,k9 _,a5,ε,d6.refl,r.ext aU,by simpa using e⟩,?_⟩;rintro i m cj ah ⟨rfl,zO,aF,ε',aw,cu,bg⟩;by_cases en:i<ts.length
 ·have hd:ts.drop i=ts[i]::ts.drop (i+1):=List.drop_eq_getElem_cons en;have wF:ts[i]?=some ts[i]:=g0 en;rw[hd] at bg;simp only[forL,b0] at bg;obtain⟨mB,nR,d_,dQ,bg⟩:=bg;refine .inr ⟨ok.go i aF ah _ aw cu.cf wF,λyI bf=>∃m',m'<ts.length - i/\(m'=ts.length - (i+1)/\i+1<=ts.length/\∃dt fz,d6 X.K a5 H1 dt bf/\cH X.K aG aO O dt bf fz yI/\forL i5 pR (ts.drop (i+1)) fz=some o),λ_ _ z=>z,λx bf y=>?_⟩;obtain⟨dt,bQ,aY⟩:=ok.ot i aF ah _ x bf aw cu.cf wF y;refine⟨aG,aO,O,dt,ε',_,mB,cu.ext bQ,aY,nR,λkm iK=>⟨aG,aO,O,dt,mB,d_,iK,dQ,?_⟩⟩;have n3:d6 X.K a5 H1 dt bf:=aw.trans bQ.aw;cases d_ with
  |bR fz=>exact λt5 kn jt jd jh=>⟨_,by omega,rfl,en,kn,fz,n3.trans jd,jh,bg⟩
  |dO fz=>exact λt5 kn jt jd jh=>⟨_,by omega,rfl,en,kn,fz,n3.trans jd,jh,bg⟩
  |gC fz=>
   cases bg
   exact λt5 kn jt jd jh=>k t5 kn jt ((aU.aw.trans n3).trans jd) jh
  |dB t=>
   cases bg
   exact k
  |jC t fz=>
   cases bg
   exact k
  |j6 s=>
   cases bg
   exact k
 ·have hd:ts.drop i=[]:=List.drop_eq_nil_of_le (by omega);rw[hd] at bg;cases bg;exact .inl ⟨ok.stop i aF ah aw (by omega),k cj aF ah (aU.aw.trans aw) cu⟩
def aiQ{body:List Stmt}{pR:bD}(n:Nat)(az:PassesOwn (bS X.prog X.w) X.A X.env X.d3)(ar:jV X c fk)(ab:iW X body pR):f_ X (.While c body [] pos) (og fk pR n):=hk (ah3 az ar ab) λD σ H ⟨aG,aO,O,F,ε,o,r,e,k⟩=>by
 refine⟨λm cj ah=>∃aF ε',d6 X.K F H aF ah/\cH X.K aG aO O aF ah ε' cj/\og fk pR m ε'=some o,⟨n,F,ε,d6.refl,r,e⟩,?_⟩
 rintro m cj ah ⟨aF,ε',aw,cu,bg⟩;cases m with
|zero=>cases bg
|succ m=>
  simp only[og,b0] at bg;obtain⟨x,ex,bg⟩:=bg;refine⟨aG,aO,O,aF,ε',x,cu,ex,λa5 H1 aU=>?_⟩;cases x with
  |false=>
   simp only[iO,if_false] at bg;cases bg;exact wW (k cj a5 H1 (aw.trans aU.aw) (cu.ext aU))
  |true=>
   simp only[if_true,b0] at bg;obtain⟨d_,dQ,bg⟩:=bg;refine wX ⟨λyI bf=>∃m',m'<m+1/\∃dt fz,d6 X.K F H dt bf/\cH X.K aG aO O dt bf fz yI/\og fk pR m' fz=some o,λ_ _ z=>z,aG,aO,O,a5,ε',d_,cu.ext aU,dQ,?_⟩;have n3:=aw.trans (aU.aw (K:=X.K));cases d_ with
   |bR fz=>exact λt5 kn jt jd jh=>⟨m,by omega,kn,fz,n3.trans jd,jh,bg⟩
   |dO fz=>exact λt5 kn jt jd jh=>⟨m,by omega,kn,fz,n3.trans jd,jh,bg⟩
   |gC fz=>
    cases bg
    exact λt5 kn jt jd jh=>k t5 kn jt (n3.trans jd) jh
   |dB t=>
    cases bg
    exact k
   |jC t fz=>
    cases bg
    exact k
   |j6 s=>
    cases bg
    exact k
def Tj(i:Nat){x:Str}{dH apos de:Pos}(he:cK X e f)(c3:X.N[i]?=some x:=by rfl)(a4:kU X.env.scope x:=by first|exact Or.inl rfl|exact Or.inr (Or.inl rfl)|exact Or.inr (Or.inr rfl))(hd:(x==("__debug__":Str))=false:=by decide)
  (ec:(x==("__classdict__":Str))=false:=by decide) (j0:bb [e] X.env=(false,eval e X.env)::bb [] X.env:=by rfl)
  (i8:ir (.Name x dH) "append" X.env (eval (.Name x dH) X.env)=eval (.Name x dH) X.env:=by rfl)
  (l8:((c0 de (bb [e] X.env)).all (λx=>!x.1) && (gm de (gk [] X.env)).all (λx=>x.1.isSome)
   && decide (([e]:List bz).length+([]:List Keyword).length+(if ([]:List Keyword).isEmpty then 0 else 1)<30))=true:=by rfl)
  (i9:(apos.endLine==de.line)=true:=by rfl) (l_:(c0 de (bb [] X.env)).any (·.1)=false:=by rfl)
  (l':iu (.Call (.Attribute (.Name x dH) "append" apos) [e] [] de) none pos.line X.env=pure false:=by rfl):
  f_ X (.Expr (.Call (.Attribute (.Name x dH) "append" apos) [e] [] de) pos) (app i f):=
 hk (vv (vJ tp PySem.F.slot_list_append PySem.F.type_list_append J_ (bB i c3 a4 hd ec) (iR he jM j0) i8 l8 i9 j0 l_) l') λD σ H ⟨aG,aO,O,F,ε,o,r,e,k⟩=>by
 unfold app at e;split at e
 next ts he=>
  simp only[b0] at e;obtain⟨t,bM,e⟩:=e;split at e
  next hz=>
   cases e
   obtain⟨v,ae,a,vs,rfl,n,h0,cq,au⟩:=r.val _ _ he;refine⟨_,ae,.inl ⟨rfl,_,gb.of cq⟩,aG,aO,O,F,ε,t,r,bM,λv aF ah x q=>?_⟩;have bC:=r.ext x;obtain⟨v1,dW,a1,o6,ax,dX,M5,qY,k1⟩:=bC.val _ _ he;rw[ae] at dW;cases dW;cases ax;refine⟨a,o6,v,rfl,rfl,qY,by rw[lh,<- k1.length];exact hz,?_⟩;obtain⟨aw,b7⟩:=bC.mut (s':=.own (ts++[t])) (o':=.lst (o6++[v])) he rfl ae dX h0 qY (.inl ⟨_,rfl⟩) λaw=>⟨a,_,rfl,dX,h0,dN,(k1.aw aw).append (bp.cons (q.aw aw) bp.nil)⟩;exact k σ aF _ (x.aw.trans aw) b7
  next=>cases e
 next=>cases e
def akS(i:Nat){x:Str}{dH apos de:Pos}(he:eh X e f)(c3:X.N[i]?=some x:=by rfl)(a4:kU X.env.scope x:=by first|exact Or.inl rfl|exact Or.inr (Or.inl rfl)|exact Or.inr (Or.inr rfl))(hd:(x==("__debug__":Str))=false:=by decide)
  (ec:(x==("__classdict__":Str))=false:=by decide) (j0:bb [e] X.env=(false,eval e X.env)::bb [] X.env:=by rfl)
  (i8:ir (.Name x dH) "extend" X.env (eval (.Name x dH) X.env)=eval (.Name x dH) X.env:=by rfl)
  (l8:((c0 de (bb [e] X.env)).all (λx=>!x.1) && (gm de (gk [] X.env)).all (λx=>x.1.isSome)
   && decide (([e]:List bz).length+([]:List Keyword).length+(if ([]:List Keyword).isEmpty then 0 else 1)<30))=true:=by rfl)
  (i9:(apos.endLine==de.line)=true:=by rfl) (l_:(c0 de (bb [] X.env)).any (·.1)=false:=by rfl)
  (l':iu (.Call (.Attribute (.Name x dH) "extend" apos) [e] [] de) none pos.line X.env=pure false:=by rfl):
  f_ X (.Expr (.Call (.Attribute (.Name x dH) "extend" apos) [e] [] de) pos) (ext i f):=
 hk (vv (vJ tp PySem.F.slot_list_extend PySem.F.type_list_extend af8 (bB i c3 a4 hd ec) (iR he jM j0) i8 l8 i9 j0 l_) l') λD σ H ⟨aG,aO,O,F,ε,o,r,e,k⟩=>by
 unfold ext at e;split at e
 next ts he=>
  simp only[b0] at e;obtain⟨t,bM,e⟩:=e;split at e
  next us=>
   split at e
   next hz=>
    cases e
    obtain⟨v,ae,a,vs,rfl,n,h0,cq,au⟩:=r.val _ _ he;refine⟨_,ae,.inl ⟨rfl,_,gb.of cq⟩,aG,aO,O,F,ε,_,r,bM,λv aF ah x q=>?_⟩;obtain⟨b,ws,rfl,ab,hw⟩:=q.lst;have bC:=r.ext x;obtain⟨v1,dW,a1,o6,ax,dX,M5,qY,k1⟩:=bC.val _ _ he;rw[ae] at dW;cases dW;cases ax;refine⟨a,b,o6,ws,rfl,rfl,qY,ab,by rw[lh,<- k1.length,<- hw.length];exact hz,?_⟩;obtain⟨aw,b7⟩:=bC.mut (s':=.own (ts++us)) (o':=.lst (o6++ws)) he rfl ae dX h0 qY (.inl ⟨_,rfl⟩) λaw=>⟨a,_,rfl,dX,h0,dN,(k1.aw aw).append (hw.aw aw)⟩;exact k σ aF _ (x.aw.trans aw) b7
   next=>cases e
  next=>cases e
 next=>cases e
def s_pop(i j:Nat){x y:Str}{dH py apos de:Pos}(c3:X.N.Nodup)(ba:X.N[i]?=some x:=by rfl)(hx:Loc X.env.scope x:=by first|exact Or.inl rfl|exact Or.inr rfl)(a':X.N[j]?=some y:=by rfl)
  (a4:kU X.env.scope y:=by first|exact Or.inl rfl|exact Or.inr (Or.inl rfl)|exact Or.inr (Or.inr rfl)) (hd:(y==("__debug__":Str))=false:=by decide) (ec:(y==("__classdict__":Str))=false:=by decide)
  (i8:ir (.Name y py) "pop" X.env (eval (.Name y py) X.env)=eval (.Name y py) X.env:=by rfl) (i9:(apos.endLine==de.line)=true:=by rfl)
  (aC:iu (.Call (.Attribute (.Name y py) "pop" apos) [] [] de) (some (.Name x dH)) pos.line X.env=pure false:=by rfl) (hf:X.fn x=true\/X.env.scope.names.lookup x=some .local:=by first|exact .inl rfl|exact .inr rfl):
  f_ X (.Assign [.Name x dH] (.Call (.Attribute (.Name y py) "pop" apos) [] [] de) pos) (pop i j):=
 hk (yq c3 ba hx (SS tp PySem.F.slot_list_pop PySem.F.type_list_pop S3 (bB j a' a4 hd ec) i8 i9) aC hf) λD σ H ⟨aG,aO,O,F,ε,o,r,e,k⟩=>by
 unfold pop at e;split at e
 next ts he=>
  simp only[b0] at e;obtain⟨t,bM,e⟩:=e;split at e
  next=>cases e
  next jA=>
   cases e
   obtain⟨v,ae,a,vs,rfl,n,h0,cq,au⟩:=r.val _ _ he;rw[List.getLast?_eq_getElem?] at bM;obtain⟨w,hw,jj⟩:=au.get bM;refine⟨_,ae,.inl ⟨rfl,_,gb.of cq⟩,a,vs,w,rfl,rfl,cq,by rw[<- au.length];exact hw,?_⟩;obtain⟨aw,b7⟩:=r.mut (s':=.own ts.dropLast) (o':=.lst vs.dropLast) he rfl ae n h0 cq (.inl ⟨_,rfl⟩) λaw=>⟨a,_,rfl,n,h0,dN,by
    have:=(au.aw aw).take (ts.length - 1);rw[<- List.dropLast_eq_take,au.length,<- List.dropLast_eq_take] at this;exact this⟩
   exact k _ F _ aw (b7.set i (jj.aw aw))
 next=>cases e
end
end
section
variable [cG]
section
variable {X:bt}{a b c e:bz}{es:List bz}{f g h:bK}{aB:List bK}{fk gt:fP}{pos p:Pos}
def iT:qN X [] []:=CM jM λσ H Q ⟨aG,aO,O,F,ε,ts,r,e,k⟩=>by
 cases e
 exact k [] F H (Ext.refl r.cf) .nil
def hL(aq:eh X e f)(au:qN X es aB)(aC:bb (e::es) X.env=(false,eval e X.env)::bb es X.env:=by rfl):qN X (e::es) (f::aB):=CM (iR aq au aC) λσ H Q ⟨aG,aO,O,F,ε,ts,r,e,k⟩=>by
 simp only[args,b0,dR] at e;obtain⟨t,bM,us,hC,rfl⟩:=e;refine⟨aG,aO,O,F,ε,t,r,bM,λv a5 H1 aU aM=>⟨aG,aO,O,a5,ε,us,r.ext aU,hC,λvs dt bf bQ a9=>?_⟩⟩;exact k _ dt bf (aU.trans bQ) (.cons (aM.ext bQ) a9)
def bL:mF X [] []:=CM jM λσ H Q ⟨aG,aO,O,F,ε,ts,r,e,k⟩=>by
 cases e
 exact k [] F H (Ext.refl r.cf) bp.nil
def aI(aq:cK X e f)(au:mF X es aB)(aC:bb (e::es) X.env=(false,eval e X.env)::bb es X.env:=by rfl):mF X (e::es) (f::aB):=CM (iR aq au aC) λσ H Q ⟨aG,aO,O,F,ε,ts,r,e,k⟩=>by
 simp only[args,b0,dR] at e;obtain⟨t,bM,us,hC,rfl⟩:=e;refine⟨aG,aO,O,F,ε,t,r,bM,λv a5 H1 aU aM=>⟨aG,aO,O,a5,ε,us,r.ext aU,hC,λvs dt bf bQ a9=>?_⟩⟩;exact k _ dt bf (aU.trans bQ) (bp.cons (aM.ext bQ) a9)
def eD{aU}(h:mF X es aB):cK X (.Tuple es aU pos) (bk aB):=ew (aj8 h) λσ H Q ⟨aG,aO,O,F,ε,t,r,e,k⟩=>by
 simp only[bk,b0] at e;obtain⟨ts,bM,e⟩:=e;split at e
 next hz=>
  cases e
  refine⟨aG,aO,O,F,ε,ts,r,bM,λvs a5 H1 aU aM=>⟨by rw[lh,<- aM.length];exact hz,λp az=>?_⟩⟩
  have bQ:=Ext.laid (o:=.tup vs) aU.cf az;refine k _ a5 _ (aU.trans bQ) ?_;simp only[Rep];exact⟨p,vs,rfl,c6.of dN,aM.ext bQ⟩
 next=>cases e
def rM(h:mF X es aB):r4 X (.List es pos) (dD aB):=ew (aj' h) λσ H Q ⟨aG,aO,O,F,ε,us,r,e,k⟩=>by
 simp only[dD,b0] at e;obtain⟨ts,bM,e⟩:=e;split at e
 next hz=>
  cases e
  refine⟨aG,aO,O,F,ε,_,r,bM,λvs a5 H1 aU aM=>⟨by rw[lh,<- aM.length];exact hz,λp az=>?_⟩⟩
  have bQ:=Ext.laid (o:=.lst vs) aU.cf az;refine k p vs a5 _ (aU.trans bQ) ?_ ?_ dN (aM.ext bQ)
  ·exact aU.same.none az
  ·intro cv;obtain⟨o,e1⟩:=aU.cf p cv;rw[az] at e1;cases e1
 next=>cases e
def amA(h:mF X es aB):cK X (.List es pos) (dD aB):=N8 (rM h) λε t e=>by
 simp only[dD,b0] at e;obtain⟨ts,bM,e⟩:=e;split at e
 ·cases e
  exact⟨_,rfl⟩
 ·cases e
mutual
theorem Ry{F:ak->Prop}{ai:List (ak×Obj)}{σ:bG.St}{H:aA}{s:aK}(I:Inv X ai σ H s):∀{t:T} {v:V} {u:ag},Rep X.K F H t v->RelV v u->∃as,Reads s.heap u t as
|.none,v,u,h,r=>by
  simp only[Rep] at h;subst h;cases r;exact⟨_,.none⟩
|.bool b,v,u,h,r=>by
  simp only[Rep] at h;subst h;cases r;exact⟨_,.bool b⟩
|.int i,v,u,h,r=>by
  simp only[Rep] at h;subst h;obtain⟨t,rfl⟩:=r;exact⟨_,.int i t⟩
|.str x,v,u,h,r=>by
  simp only[Rep] at h;subst h;obtain⟨t,rfl⟩:=r;exact⟨_,.str x t⟩
|.dict _,v,u,h,r=>by simp[Rep] at h
|.tuple ts,v,u,h,r=>by
  simp only[Rep] at h;obtain⟨a,vs,rfl,aC,au⟩:=h;cases r;obtain⟨its,bV,⟨o,ae,aj,n,a8⟩,hz⟩:=I.tuple aC;obtain⟨as,j5⟩:=BZ I au bV;exact⟨_,.tuple ae aj a8 (by simpa using j5)⟩
|.list ts,v,u,h,r=>by
  simp only[Rep] at h;obtain⟨a,vs,rfl,cY,aC,au⟩:=h;cases r;obtain⟨z,its,n,bV,av,e⟩:=Inv.w1 I aC;obtain⟨as,j5⟩:=BZ I au bV;exact⟨_,.list e rfl rfl (by simpa using j5)⟩
theorem BZ{F:ak->Prop}{ai:List (ak×Obj)}{σ:bG.St}{H:aA}{s:aK}(I:Inv X ai σ H s):∀{ts:List T} {vs:List V} {us:List ag},bp X.K F H ts vs->Vals vs us->∃as,ReadsAll s.heap us ts as
| [],vs,us,h,r=>by
  simp only[bp] at h;subst h;cases r;exact⟨_,.nil⟩
|t::ts,vs,us,h,r=>by
  simp only[bp] at h;obtain⟨v,IZ,rfl,ae,aj⟩:=h;cases r with
  |cons bC b7=>
   obtain⟨as,aM⟩:=Ry I ae bC;obtain⟨bs,a9⟩:=BZ I aj b7;exact⟨_,.cons aM a9⟩
end
def nr{O F:ak->Prop}{ai:List (ak×Obj)}{σ:bG.St}{H:aA}{s:aK}(I:Inv X ai σ H s){t:T}{v:V}{u:ag}(h:gA X.K O F H t v)(r:RelV v u):∃as,Reads s.heap u t as:=by
 rcases h with h|⟨ts,a,vs,rfl,rfl,aq,h⟩
 ·exact Ry I h r
 ·cases r
  obtain⟨z,its,n,bV,av,e⟩:=Inv.w1 I (.inl aq);obtain⟨as,j5⟩:=BZ I h bV;exact⟨_,.list e rfl rfl (by simpa using j5)⟩
def rK{t:T}(h:eV t=true):t.canLay0=true/\t.depth<=60:=by
 simp only[eV,kJ,decide_eq_true_eq] at h;exact h
def SY{t:List T}(h:p_ t=true):jF t=true/\iN t<=60:=by
 simp only[p_,kJ,decide_eq_true_eq] at h;exact h
noncomputable def CO(K:br)(n:Bool):hn:=λx y H Q=>∃(O F:ak->Prop) (s t:T),gA K O F H s x/\gA K O F H t y/\eV s=true/\eV t=true/\Q (.c8 (if n then !PyData.eqv s t else hY s t)) H
def Lc(bH:X.A.units+64<cLine):fp X (iQ .Eq) (CO X.K false):=by
 intro ai s σ H x y v u Q I aY bO ⟨O,F,d,t,ae,aj,d_,fv,q⟩;obtain⟨as,j5⟩:=nr I ae aY;obtain⟨bs,fw⟩:=nr I aj bO;obtain⟨c1,bX⟩:=rK d_;obtain⟨dh,bY⟩:=rK fv;refine SeqAt.compareEq_reads j5 fw c1 dh (by have:=Nat.min_le_left d.depth t.depth;omega) ?_;exact⟨.c8 _,H,I,rfl,q⟩
def SV(bH:X.A.units+64<cLine):fp X (iQ .NotEq) (CO X.K true):=by
 intro ai s σ H x y v u Q I aY bO ⟨O,F,d,t,ae,aj,d_,fv,q⟩;obtain⟨as,j5⟩:=nr I ae aY;obtain⟨bs,fw⟩:=nr I aj bO;obtain⟨c1,bX⟩:=rK d_;obtain⟨dh,bY⟩:=rK fv;refine SeqAt.compareNe_reads j5 fw c1 dh (by have:=Nat.min_le_left d.depth t.depth;omega) ?_;exact⟨.c8 _,H,I,rfl,q⟩
def qF{op:CmpOp}{R:hn}{o:T->T->Option T}(aE:fp X (iQ op) R)(aj:oG X.K o R)(aq:eh X a f)(ab:eh X b g)(hm:oo op b=false:=by first|exact S1 _|rfl):cK X (.Compare a [op] [b] pos) (af o f g):=ew (ai' aE aq ab hm) (rD aj)
def iU{op:CmpOp}{R:hn}{o:T->T->Option T}(aE:fp X (iQ op) R)(aj:oG X.K o R)(aq:eh X a f)(ab:eh X b g)(hm:oo op b=false:=by first|exact S1 _|rfl):jV X (.Compare a [op] [b] pos) (aZ (af o f g)):=
 tT (ai0 aE aq ab hm) λσ H Q ⟨aG,aO,O,F,ε,b,r,e,k⟩=>by
 simp only[aZ,b0] at e;obtain⟨t,bM,e⟩:=e;split at e
 ·cases e
  refine rD aj σ H _ ⟨aG,aO,O,F,ε,_,r,bM,λv aF ah x q=>?_⟩
  simp only[Rep] at q;exact⟨_,q,k aF ah x⟩
 ·cases e
def Le:oG X.K oEq (CO X.K false):=by
  intro O F H x y t ik ka Q d aY bO e k;unfold oEq at e;split at e
  next hz=>
   cases e
   rw[kJ] at hz;exact⟨O,F,x,y,aY,bO,hz.1,hz.2,k _ F H (Ext.refl d) (by simp[Rep])⟩
  next=>cases e
def SW:oG X.K fa (CO X.K true):=by
  intro O F H x y t ik ka Q d aY bO e k;unfold fa at e;split at e
  next hz=>
   cases e
   rw[kJ] at hz;exact⟨O,F,x,y,aY,bO,hz.1,hz.2,k _ F H (Ext.refl d) (by simp[Rep])⟩
  next=>cases e
noncomputable def Iw(K:br)(n:Bool):hn:=λx y H Q=>∃(O F:ak->Prop) (s:T) (ts:List T),gA K O F H s x/\(gA K O F H (.tuple ts) y\/gA K O F H (.list ts) y)/\eV s=true/\p_ ts=true/\Q (.c8 (if n then !mO s ts else mO s ts)) H
def vE(bH:X.A.units+64<cLine):fp X (iQ .In) (Iw X.K false):=by
 intro ai s σ H x y v u Q I aY bO ⟨O,F,d,ts,ae,aj,d_,fv,q⟩;obtain⟨as,j5⟩:=nr I ae aY;obtain⟨c1,bX⟩:=rK d_;obtain⟨dh,bY⟩:=SY fv;have hm:=Nat.min_le_left (iN ts) d.depth;rcases aj with aj|aj
 ·obtain⟨bs,fw⟩:=nr I aj bO;exact SeqAt.in_tuple_reads fw j5 dh c1 (by omega) ⟨.c8 _,H,I,rfl,q⟩
 ·obtain⟨bs,fw⟩:=nr I aj bO;exact SeqAt.in_list_reads fw j5 dh c1 (by omega) ⟨.c8 _,H,I,rfl,q⟩
def tH(bH:X.A.units+64<cLine):fp X (iQ .NotIn) (Iw X.K true):=by
 intro ai s σ H x y v u Q I aY bO ⟨O,F,d,ts,ae,aj,d_,fv,q⟩;obtain⟨as,j5⟩:=nr I ae aY;obtain⟨c1,bX⟩:=rK d_;obtain⟨dh,bY⟩:=SY fv;have hm:=Nat.min_le_left (iN ts) d.depth;rcases aj with aj|aj
 ·obtain⟨bs,fw⟩:=nr I aj bO;exact SeqAt.notIn_tuple_reads fw j5 dh c1 (by omega) ⟨.c8 _,H,I,rfl,q⟩
 ·obtain⟨bs,fw⟩:=nr I aj bO;exact SeqAt.notIn_list_reads fw j5 dh c1 (by omega) ⟨.c8 _,H,I,rfl,q⟩
def mx{n:Bool}:oG X.K (eB n) (Iw X.K n):=by
 intro O F H x y t ik ka Q d aY bO e k;unfold eB at e;split at e
 ·split at e
  next hz=>
   cases e
   rw[kJ] at hz;exact⟨O,F,x,_,aY,.inl bO,hz.1,hz.2,k _ F H (Ext.refl d) (by simp[Rep])⟩
  next=>cases e
 ·split at e
  next hz=>
   cases e
   rw[kJ] at hz;exact⟨O,F,x,_,aY,.inr bO,hz.1,hz.2,k _ F H (Ext.refl d) (by simp[Rep])⟩
  next=>cases e
 ·cases e
def SX:oG X.K oLt (λx y H Q=>m3 (λi j=>.c8 (decide (i<j))) x y H Q\/∃i j,x=.str i/\y=.str j/\Q (.c8 (decide (i.cps.toList<j.cps.toList))) H):=by
  intro O F H x y t ik ka Q d aY bO e k;unfold oLt at e;split at e
  ·cases e
   rw[aY.int,bO.int];exact .inl ⟨_,_,rfl,rfl,k _ F H (Ext.refl d) (by simp[Rep])⟩
  ·cases e
   rw[aY.str,bO.str];exact .inr ⟨_,_,rfl,rfl,k _ F H (Ext.refl d) (by simp[Rep,strLt])⟩
  ·cases e
def amy:fp X (iQ .LtE) (λx y H Q=>∃i j,x=.str i/\y=.str j/\Q (.c8 (!strLt j i)) H):=by
 intro ai s σ H x y v u Q I aY bO ⟨i,j,ax,aL,q⟩;subst ax aL;obtain⟨t,rfl⟩:=aY;obtain⟨t',rfl⟩:=bO;exact PySem.P.le_str (CJ I q (by simp[strLt]))
def J7:fp X (iQ .GtE) (λx y H Q=>∃i j,x=.str i/\y=.str j/\Q (.c8 (!strLt i j)) H):=by
 intro ai s σ H x y v u Q I aY bO ⟨i,j,ax,aL,q⟩;subst ax aL;obtain⟨t,rfl⟩:=aY;obtain⟨t',rfl⟩:=bO;exact PySem.P.ge_str (CJ I q (by simp[strLt]))
def ag1:fp X (iQ .Gt) (λx y H Q=>∃i j,x=.str i/\y=.str j/\Q (.c8 (strLt j i)) H):=by
 intro ai s σ H x y v u Q I aY bO ⟨i,j,ax,aL,q⟩;subst ax aL;obtain⟨t,rfl⟩:=aY;obtain⟨t',rfl⟩:=bO;exact PySem.P.gt_str (CJ I q (by simp[strLt]))
def yw:oG X.K oLe (λx y H Q=>m3 (λi j=>.c8 (decide (i<=j))) x y H Q\/∃i j,x=.str i/\y=.str j/\Q (.c8 (!strLt j i)) H):=by
 intro O F H x y t ik ka Q d aY bO e k;unfold oLe at e;split at e
 ·cases e
  rw[aY.int,bO.int];exact .inl ⟨_,_,rfl,rfl,k _ F H (Ext.refl d) (by simp[Rep])⟩
 ·cases e
  rw[aY.str,bO.str];exact .inr ⟨_,_,rfl,rfl,k _ F H (Ext.refl d) (by simp[Rep])⟩
 ·cases e
def akh:oG X.K oY (λx y H Q=>m3 (λi j=>.c8 (decide (j<i))) x y H Q\/∃i j,x=.str i/\y=.str j/\Q (.c8 (strLt j i)) H):=by
 intro O F H x y t ik ka Q d aY bO e k;unfold oY at e;split at e
 ·cases e
  rw[aY.int,bO.int];exact .inl ⟨_,_,rfl,rfl,k _ F H (Ext.refl d) (by simp[Rep])⟩
 ·cases e
  rw[aY.str,bO.str];exact .inr ⟨_,_,rfl,rfl,k _ F H (Ext.refl d) (by simp[Rep])⟩
 ·cases e
def Ld:oG X.K m1 (λx y H Q=>m3 (λi j=>.c8 (decide (j<=i))) x y H Q\/∃i j,x=.str i/\y=.str j/\Q (.c8 (!strLt i j)) H):=by
 intro O F H x y t ik ka Q d aY bO e k;unfold m1 at e;split at e
 ·cases e
  rw[aY.int,bO.int];exact .inl ⟨_,_,rfl,rfl,k _ F H (Ext.refl d) (by simp[Rep])⟩
 ·cases e
  rw[aY.str,bO.str];exact .inr ⟨_,_,rfl,rfl,k _ F H (Ext.refl d) (by simp[Rep])⟩
 ·cases e
def ajU{j pos'}(aq:eh X a f):cK X (.Compare a [.IsNot] [.Constant .none j pos'] pos) (cn dx f):=ew (aka (Sd aq)) λσ H Q ⟨aG,aO,O,F,ε,t,r,e,k⟩=>by
 simp only[cn,b0] at e;obtain⟨x,ex,e⟩:=e;cases e;refine⟨aG,aO,O,F,ε,x,r,ex,λv a5 H1 aU aY=>k _ a5 H1 aU ?_⟩;cases x with
|none=>rw[aY.ff];simp[Rep]
|bool b=>rw[aY.c8];simp[Rep]
|int b=>rw[aY.int];simp[Rep]
|str b=>rw[aY.str];simp[Rep]
|tuple b=>obtain⟨_,_,e,_⟩:=aY.tup;rw[e];simp[Rep]
|list b=>obtain⟨_,_,e,_⟩:=aY.lst;rw[e];simp[Rep]
|dict b=>rcases aY with aY|⟨_,_,_,z,_⟩;simp[Rep] at aY;cases z
def Tq(aq:eh X a f):cK X (.UnaryOp .USub a pos) (cn jg f):=ew (ak3 ajI aq) λσ H Q ⟨aG,aO,O,F,ε,t,r,e,k⟩=>by
 simp only[cn,b0] at e;obtain⟨x,ex,e⟩:=e;unfold jg at e;split at e
 ·cases e
  exact⟨aG,aO,O,F,ε,_,r,ex,λv a5 H1 aU aY=>⟨_,aY.int,k _ a5 H1 aU (by simp[Rep])⟩⟩
 ·cases e
noncomputable def U7(K:br)(o:List T->Option T)(R:List V->aA->dj->Prop):Prop:=
 ∀(O F:ak->Prop) (H:aA) (ts:List T) (t:T) (vs:List V) (Q:dj),fo F H->Paired (gA K O F H) ts vs->o ts=some t ->
  (∀v aF ah,Ext F H aF ah->Rep K aF ah t v->Q v ah)->R vs H Q
def ym{o:List T->Option T}{R:List V->aA->dj->Prop}(fK:U7 X.K o R):∀σ H Q,uV X.K (aS o aB) σ H Q->IM R (OP X.K aB) σ H Q:=by
 rintro σ H Q ⟨aG,aO,O,F,ε,t,r,e,k⟩;simp only[aS,b0] at e;obtain⟨ts,bM,e1⟩:=e;exact⟨aG,aO,O,F,ε,ts,r,bM,λvs a5 H1 aU q=>fK O a5 H1 ts t vs Q aU.cf q e1 λv aF ah hh c5=>k v aF ah (aU.trans hh) c5⟩
def CP(hm:X.mg "len"=none)(aq:qN X (e::es) aB)(bx:eP X "len":=by rfl)(he:bb (e::es) X.env=(false,eval e X.env)::bb es X.env:=by rfl)(hpl:(c0 pos (bb es X.env)).any (·.1)=false:=by rfl):
  cK X (.Call (.Name "len" p) (e::es) [] pos) (aS fL aB):=ew (yg (afi.or afh) bx hm PySem.boot_len aq (he:=he) (hpl:=hpl)) (ym (by
 intro O F H ts t vs Q d q e k;unfold fL at e;split at e
 ·cases e
  cases q with
  |cons aM a9=>
   cases a9
   obtain⟨a,ws,rfl,aC,au⟩:=aM.tup;exact .inl ⟨a,ws,rfl,.inr aC,k _ F H (Ext.refl d) (by simp[Rep,au.length])⟩
 ·cases e
  cases q with
  |cons aM a9=>
   cases a9
   obtain⟨a,ws,rfl,aC,au⟩:=aM.lst;exact .inl ⟨a,ws,rfl,.inl (.inl aC),k _ F H (Ext.refl d) (by simp[Rep,au.length])⟩
 ·split at e
  next hz=>
   cases e
   cases q with
   |cons aM a9=>
    cases a9
    exact .inr ⟨_,by rw[aM.str],by rw[lh];exact hz,k _ F H (Ext.refl d) (by simp[Rep])⟩
  next=>cases e
 ·cases e))
def akZ(hm:X.mg "min"=none)(aq:qN X (e::es) aB)(ar:X.calm=true:=by rfl)(bx:eP X "min":=by rfl)(he:bb (e::es) X.env=(false,eval e X.env)::bb es X.env:=by rfl)(hpl:(c0 pos (bb es X.env)).any (·.1)=false:=by rfl):
  cK X (.Call (.Name "min" p) (e::es) [] pos) (aS n5 aB):=ew (yg (ahy ar) bx hm (by decide +kernel) aq (he:=he) (hpl:=hpl)) (ym (by
 intro O F H ts t vs Q d q e k;unfold n5 at e;split at e
 ·cases e
  cases q with
  |cons aM a9=>
   cases a9 with
   |cons a9 c5=>
    cases c5
    exact⟨_,_,by rw[aM.int,a9.int],k _ F H (Ext.refl d) (by simp[Rep])⟩
 ·cases e))
def Tr(hm:X.mg "max"=none)(aq:qN X (e::es) aB)(ar:X.calm=true:=by rfl)(bx:eP X "max":=by rfl)(he:bb (e::es) X.env=(false,eval e X.env)::bb es X.env:=by rfl)(hpl:(c0 pos (bb es X.env)).any (·.1)=false:=by rfl):
  cK X (.Call (.Name "max" p) (e::es) [] pos) (aS m2 aB):=ew (yg (ahA ar) bx hm (by decide +kernel) aq (he:=he) (hpl:=hpl)) (ym (by
 intro O F H ts t vs Q d q e k;unfold m2 at e;split at e
 ·cases e
  cases q with
  |cons aM a9=>
   cases a9 with
   |cons a9 c5=>
    cases c5
    exact⟨_,_,by rw[aM.int,a9.int],k _ F H (Ext.refl d) (by simp[Rep])⟩
 ·cases e))
def ov(hm:X.mg "tuple"=none)(aq:qN X (e::es) aB)(bx:eP X "tuple":=by rfl)(he:bb (e::es) X.env=(false,eval e X.env)::bb es X.env:=by rfl)(hpl:(c0 pos (bb es X.env)).any (·.1)=false:=by rfl):
  cK X (.Call (.Name "tuple" p) (e::es) [] pos) (aS gq aB):=ew (x8 aeR bx hm (by decide +kernel) aq (he:=he) (hpl:=hpl)) (ym (by
 intro O F H ts t vs Q d q e k;unfold gq at e;split at e
 ·cases e
  cases q with
  |cons aM a9=>
   cases a9
   obtain⟨a,ws,rfl,aC,au⟩:=aM.tup;refine⟨a,ws,rfl,.inr ⟨aC,k _ F H (Ext.refl d) ?_⟩⟩;simp only[Rep];exact⟨a,ws,rfl,aC,au⟩
 ·cases e
  cases q with
  |cons aM a9=>
   cases a9
   obtain⟨a,ws,rfl,aC,au⟩:=aM.lst;refine⟨a,ws,rfl,.inl ⟨.inl aC,λl av=>?_⟩⟩;have aU:=Ext.laid (o:=.tup ws) d av;refine k _ F _ aU ?_;simp only[Rep];exact⟨l,ws,rfl,c6.of dN,au.ext aU⟩
 ·cases e))
def CB(h:eh X e f)(he:∀whole,isTrue e X.env whole=(do let v <- whole;standAt e.pos;holding [v] (truthy v)):=by intro _;rfl):jV X e (aZ f):=tT (aj3 h he) λσ H Q ⟨aG,aO,O,F,ε,b,r,e,k⟩=>by
 simp only[aZ,b0] at e;obtain⟨t,bM,e⟩:=e;split at e
 ·cases e
  exact⟨aG,aO,O,F,ε,_,r,bM,λv a5 H1 aU aY=>⟨_,aY.c8,k a5 H1 aU⟩⟩
 ·cases e
def tV{j pos'}(aq:eh X a f):jV X (.Compare a [.Is] [.Constant .none j pos'] pos) (aZ (cn e3 f)):=tT (K' (akc aq)) λσ H Q ⟨aG,aO,O,F,ε,t,r,e,k⟩=>by
 simp only[aZ,cn,e3,b0] at e;obtain⟨_,⟨x,ex,ax⟩,e⟩:=e;cases ax;cases e;refine⟨aG,aO,O,F,ε,x,r,ex,λv a5 H1 aU aY=>⟨_,?_,k a5 H1 aU⟩⟩;cases x with
|none=>rw[aY.ff];simp
|bool b=>rw[aY.c8];simp
|int b=>rw[aY.int];simp
|str b=>rw[aY.str];simp
|tuple b=>obtain⟨_,_,e,_⟩:=aY.tup;rw[e];simp
|list b=>obtain⟨_,_,e,_⟩:=aY.lst;rw[e];simp
|dict b=>rcases aY with aY|⟨_,_,_,z,_⟩;simp[Rep] at aY;cases z
def vC{j pos'}(aq:eh X a f):jV X (.Compare a [.IsNot] [.Constant .none j pos'] pos) (aZ (cn dx f)):=tT (K' (Sd aq)) λσ H Q ⟨aG,aO,O,F,ε,t,r,e,k⟩=>by
 simp only[aZ,cn,dx,b0] at e;obtain⟨_,⟨x,ex,ax⟩,e⟩:=e;cases ax;cases e;refine⟨aG,aO,O,F,ε,x,r,ex,λv a5 H1 aU aY=>⟨_,?_,k a5 H1 aU⟩⟩;cases x with
|none=>rw[aY.ff];simp
|bool b=>rw[aY.c8];simp
|int b=>rw[aY.int];simp
|str b=>rw[aY.str];simp
|tuple b=>obtain⟨_,_,e,_⟩:=aY.tup;rw[e];simp
|list b=>obtain⟨_,_,e,_⟩:=aY.lst;rw[e];simp
|dict b=>rcases aY with aY|⟨_,_,_,z,_⟩;simp[Rep] at aY;cases z
def K6(h:eh X e f)(he:∀whole,isTrue e X.env whole=(do let v <- whole;standAt e.pos;holding [v] (truthy v)):=by intro _;rfl):jV X e (e6 f):=tT (ah1 h he) λσ H Q ⟨aG,aO,O,F,ε,b,r,e,k⟩=>by
 simp only[e6,b0] at e;obtain⟨t,bM,e⟩:=e;have emp:∀{ts:List T} {vs:List V} {a5:ak->Prop} {H1:aA},bp X.K a5 H1 ts vs->ts.isEmpty=vs.isEmpty:=λ{ts vs a5 H1} q=>by
  have:=q.length;cases ts <;> cases vs <;> simp_all
 split at e
 ·cases e
  refine⟨aG,aO,O,F,ε,_,r,bM,λv a5 H1 aU aY=>?_⟩
  obtain⟨a,vs,rfl,aC,au⟩:=aY.lst;exact⟨_,.inl ⟨vs,.inl aC,by rw[emp au]⟩,k a5 H1 aU⟩
 ·cases e
  refine⟨aG,aO,O,F,ε,_,r,bM,λv a5 H1 aU aY=>?_⟩
  obtain⟨a,vs,rfl,aC,au⟩:=aY.tup;exact⟨_,.inr (.inl ⟨vs,aC,by rw[emp au]⟩),k a5 H1 aU⟩
 ·cases e
def Tg(h:jV X e fk):jV X (.UnaryOp .Not e pos) (ft fk):=tT (aj4 h) λσ H Q ⟨aG,aO,O,F,ε,b,r,e,k⟩=>by
 simp only[ft,dR] at e;obtain⟨c,hQ,rfl⟩:=e;exact⟨aG,aO,O,F,ε,c,r,hQ,λa5 H1 aU=>k a5 H1 aU⟩
def rH(h:jV X e fk):amc X (.BoolOp .And [e] pos) fk:=aiY h
def tU(h:jV X e fk):amc X (.BoolOp .Or [e] pos) fk:=ajZ h
def w_and(h:jV X a fk)(aj:amc X (.BoolOp .And (b::es) pos) gt):amc X (.BoolOp .And (a::b::es) pos) (dy fk gt):=Te (aj0 h aj) λσ H Q ⟨aG,aO,O,F,ε,b,r,e,k⟩=>by
 simp only[dy,b0] at e;obtain⟨c,hQ,e⟩:=e;refine⟨aG,aO,O,F,ε,c,r,hQ,λa5 H1 aU=>?_⟩;cases c with
|true=>exact wX ⟨aG,aO,O,a5,ε,b,r.ext aU,by simpa using e,λdt bf bQ=>k dt bf (aU.trans bQ)⟩
|false=>
  have:b=false:=by simpa using e.symm
  subst this;exact wW (k a5 H1 aU)
def w_or(h:jV X a fk)(aj:amc X (.BoolOp .Or (b::es) pos) gt):amc X (.BoolOp .Or (a::b::es) pos) (eI fk gt):=Te (ak0 h aj) λσ H Q ⟨aG,aO,O,F,ε,b,r,e,k⟩=>by
 simp only[eI,b0] at e;obtain⟨c,hQ,e⟩:=e;refine⟨aG,aO,O,F,ε,c,r,hQ,λa5 H1 aU=>?_⟩;cases c with
|true=>
  have:b=true:=by simpa using e.symm
  subst this;exact wX (k a5 H1 aU)
|false=>exact wW ⟨aG,aO,O,a5,ε,b,r.ext aU,by simpa using e,λdt bf bQ=>k dt bf (aU.trans bQ)⟩
def k6(h:amc X e fk):jV X e fk:=h.pt
end
end
section
variable [cG]
noncomputable def spT(K:br)(n:Nat)(d:List T->Option T):kT:=λvs H Q _=>vs.length=n/\∃F ts t,fo F H/\bp K F H ts vs/\d ts=some t/\∀v aF ah,Ext F H aF ah->Rep K aF ah t v->Q v ah
section
variable {X:bt}{k n:Nat}{cY:ak}{fd:gi}{ps:List Str}{d:List T->Option T}{x:Str}{p pos:Pos}{e:bz}{es:List bz}{aB:List bK}
def ajY(F:fh X.prog X.w X.K X.mg X.base fg k cY fd ps (spT X.K n d))(au:dF k X.A)(bx:eP X x)(hm:X.mg x=some (.ref cY))(ay:nf X.K (.ref cY)=true)(ab:Binds X.K fd ps [])
  (aq:mF X (e::es) aB) (aX:aB.length=n:=by rfl) (k0:(x==("__debug__":Str))=false:=by decide) (he:bb (e::es) X.env=(false,eval e X.env)::bb es X.env:=by rfl) (hpl:(c0 pos (bb es X.env)).any (·.1)=false:=by rfl):
  cK X (.Call (.Name x p) (e::es) [] pos) (aS d aB):=ew (Sb F au bx hm ay ab .nil amo aq k0 he hpl) λσ H Q ⟨aG,aO,O,F,ε,t,r,e,k⟩=>by
 simp only[aS,b0] at e;obtain⟨ts,bM,eR⟩:=e;have av:∀(fH:List bK) (us:List T),args fH ε=some us->us.length=fH.length:=by
  intro fH
  induction fH with
  |nil=>intro us e;cases e;rfl
  |cons g fH bc=>
   intro us e;simp only[args,b0,dR] at e;obtain⟨t,_,vs,ev,rfl⟩:=e;simp[bc vs ev]
 refine⟨aG,aO,O,F,ε,ts,r,bM,λvs a5 H1 aU q=>⟨?_,a5,ts,t,aU.cf,by simpa using q,eR,λv aF ah bQ a9=>k v aF ah (aU.trans bQ) a9⟩⟩
 rw[nh,<- q.length,av aB ts bM,aX]
end
section
variable {P:cE}{w:b8}{K:br}{mg:Str->Option ag}{base:bI}
def JS{F:ak->Prop}{H:aA}{ts:List T}{vs:List V}{N:List Str}(cf:fo F H)(q:bp K F H ts vs)(n:Nat):
  cH K F ⟨H,0⟩ (λa=>H a=none) F H ((ts.map λt=>some (.U t))++jE n none) (vs.map some++jE n none):=by
 have U:∀(i:Nat) (s:aR),((ts.map λt=>some (aR.U t))++jE n none)[i]?=some (some s)->∃t,s=.U t/\ts[i]?=some t:=by
  intro i s e;by_cases ba:i<ts.length
  ·rw[u2 (by simpa using ba),jn] at e;rw[g0 ba] at e ⊢;simp at e;exact⟨_,e.symm,rfl⟩
  ·rw[u1 (by simpa using ba),List.getElem?_replicate] at e;split at e <;> cases e
 refine⟨by simp[q.length],λi s e=>?_,λi j s u v w jA ax aL d_=>?_,Ext.refl cf,λ_ h=>h,λ_ h=>h⟩
 ·obtain⟨t,rfl,bo⟩:=U i s e;obtain⟨v,a4,bV⟩:=q.get bo;refine⟨v,?_,bV⟩;rw[u2 (by have:=(gZ.mp a4).1;simpa using this),jn,a4];rfl
 ·obtain⟨t,rfl,_⟩:=U i s ax;cases d_
def Ta{x qual:Str}{st:Stmt}{f:ak}{fd:gi}{N ps:List Str}{k:Nat}{b:bD}(F:cW K x qual st f fd)(S:c' N ps (cb st))
  (ab:∀(cX:ag) (A:cU) (outer:List Env) (s:aK) (H:aA) (E:gU),dF k (A.deeper (envOfC qual (cb st) s.heap.objs.size f cX)) ->
   iW (jX fg P w K mg base N qual (cb st) f cX A outer s H E).kD (hK st) b):
  fh P w K mg base fg (k+1) f fd ps (spT K ps.length (cV b N.length)):=by
 refine F.ok S (λvs H Q E h=>h.1) λcX A outer s H vs Q E au h=>⟨_,ab cX A outer s H E au,?_⟩
 obtain⟨av,F,ts,t,cf,q,e,j3⟩:=h;simp only[cV,b0] at e;obtain⟨o,e1,e⟩:=e;refine⟨F,⟨H,0⟩,λa=>H a=none,F,_,o,?_,e1,?_⟩
 ·have:=JS (N:=N) cf q (N.length - ts.length);unfold bG.start;rw[q.length] at this ⊢;exact this
 ·cases o with
  |dB t'=>
   cases e
   exact λv aF ah x q=>j3 v aF ah x q
  |bR ε'=>
   cases e
   exact λcj aF ah _ r=>j3 _ aF ah r.ent (by simp[Rep])
  |gC _=>cases e
  |dO _=>cases e
  |jC _ _=>cases e
  |j6 _=>cases e
def aho{f:ak}{fd:gi}{ps:List Str}{k n:Nat}:fh P w K mg base fg k f fd ps (spT K n λ_=>none):=by
 have no:∀vs H Q E,¬spT K n (λ_=>none) vs H Q E:=λvs H Q E h=>by
  obtain⟨_,_,_,_,_,_,e,_⟩:=h;cases e
 exact⟨λvs H Q E h=>absurd h (no vs H Q E),λA outer s H args us vs Q E _ _ _ _ h=>absurd h (no vs H Q E)⟩
end
end
section
variable [cG]
noncomputable def g6(env:Env):List (Str×mr)->List (Str×ak)->List (Str×ak)
| [],cs=>cs
|x::r,cs=>if x.2==.free then g6 env r ((x.1,(env.cells.lookup x.1).getD 0)::cs) else g6 env r cs
def Px{scope:Scope}{env:Env}(h:∀x∈scope.names,x.2=.free->∃c,env.cells.lookup x.1=some c):closureFor scope env=pure (g6 env scope.names []):=by
 have go:∀(l:List (Str×mr)) (cs:List (Str×ak)),(∀x∈l,x.2=.free->∃c,env.cells.lookup x.1=some c) ->
   (forIn l cs (λx r=>(if (x.2==NameKind.free)=true then do let a <- cellOf env x.1;pure (ForInStep.yield ((x.1,a)::r)) else pure (ForInStep.yield r)):_->_->Sem (ForInStep (List (Str×ak)))):Sem (List (Str×ak)))=pure (g6 env l cs):=by
  intro l
  induction l with
  |nil=>intro cs _;rfl
  |cons x r bc=>
   intro cs av;rw[List.forIn_cons];have au:=λy aV=>av y (dq _ aV);by_cases k:x.2=.free
   ·obtain⟨c,ar⟩:=av x fx k;have ax:(x.2==NameKind.free)=true:=by simp[k]
    simp only[ax,if_true,cellOf,ar,g6,Option.getD_some];exact bc _ au
   ·have ax:(x.2==NameKind.free)=false:=by simpa using k
    simp only[ax,iO,if_false,g6];exact bc _ au
 have:=go scope.names [] h;simp only[closureFor];exact congrArg (λm=>m >>= λcs=>pure cs) this
theorem amz{env:Env}:∀{l:List (Str×mr)} {cs:List (Str×ak)},(∀x∈l,x.2=.free->∃c,env.cells.lookup x.1=some c)->(∀x c,cs.lookup x=some c->env.cells.lookup x=some c)->∀x c,(g6 env l cs).lookup x=some c->env.cells.lookup x=some c
| [],cs,_,h,x,c,e=>h x c e
|y::r,cs,av,h,x,c,e=>by
  unfold g6 at e;have au:=λz hz=>av z (dq _ hz);split at e
  next k=>
   refine amz au (λx c e=>?_) x c e
   rw[lQ] at e;split at e
   next ab=>
    obtain⟨cA,ar⟩:=av y fx (by simpa using k);have:x=y.1:=by simpa using ab
    subst this;rw[ar] at e ⊢;simpa using e
   next=>exact h x c e
  next=>exact amz au h x c e
theorem vp{env:Env}:∀{l:List (Str×mr)} {cs:List (Str×ak)} {x:Str},((∃y∈l,y.2=.free/\y.1=x)\/∃c,cs.lookup x=some c)->∃c,(g6 env l cs).lookup x=some c
| [],cs,x,h=>by
  rcases h with ⟨y,aV,_⟩|h
  ·cases aV
  ·exact h
|y::r,cs,x,h=>by
  unfold g6;split
  next k=>
   refine vp ?_
   rcases h with ⟨z,hz,jc,e⟩|⟨c,h⟩
   ·rcases ct.mp hz with rfl|hz
    ·refine .inr ?_
     subst e;rw[lQ];simp
    ·exact .inl ⟨z,hz,jc,e⟩
   ·refine .inr ?_
    rw[lQ];split
    ·exact⟨_,rfl⟩
    ·exact⟨c,h⟩
  next k=>
   refine vp ?_
   rcases h with ⟨z,hz,jc,e⟩|h
   ·rcases ct.mp hz with rfl|hz
    ·exact absurd (by simpa using jc) k
    ·exact .inl ⟨z,hz,jc,e⟩
   ·exact .inr h
noncomputable def jr(X:bt)(vV:List Str)(scope:Scope)(cl:List (Str×ak))(C:ak)(dM:aK)(aO:aA)(cv:List ak)(eC:List (ak×Obj)):bt where
 prog:=X.prog
 w:=X.w
 K:=X.K
 mg:=X.mg
 base:=X.base
 A:=X.A
 N:=vV
 dM:=dM
 aO:=aO
 env:=compEnvC scope cl C X.env
 outer:=X.stack
 stack:=X.stack
 ex:=cv
 fn:=λ_=>false
 calm:=X.calm
 eC:=eC
 d3:=λ_ _=>False
noncomputable def r7(X:bt)(ifs:List bz)(cc:fP):Prop:=∀(ai:List (ak×Obj)) (s:aK) (σ:bG.St) (H:aA) (Q:Bool->aA->Prop),bG.Inv X ai σ H s->A6 X.K cc σ H Q ->
 a6 (bS X.prog X.w) X.A (forIn ifs true λc r=>if r=true then do let ok <- isTrue c X.env (eval c X.env);pure (ForInStep.yield ok) else pure (ForInStep.yield r)) (yS X ai σ Q) X.d3 s
def qy{X:bt}:r7 X [] (di true):=λai s σ H Q I ⟨aG,aO,O,F,ε,b,r,e,k⟩=>by
 cases e
 exact wpAny_tests_nil ⟨H,I,k F H (Ext.refl r.cf)⟩
def vB{X:bt}{c:bz}{cc:fP}(h:jV X c cc):r7 X [c] cc:=λai s σ H Q I q=>wpAny_tests_one (h ai s σ H Q I q)
section
variable {prog:cE}{w:b8}{A:cU}{R:Result->aK->Prop}{s:aK}
def afe{elt target iter:bz}{ifs:List bz}{scope:Scope}{pos:Pos}{it acc:ag}{env:Env}(I:Nat->aK->Prop)
  (turn:∀n s,I n s->a6 (bS prog w) A (pyNext it) (λr dc=>match r with
   |none=>R (.ok .next) dc
   |some v=>a6 (bS prog w) A (letOwnedTupleGo target it v) (λ_ OM=>a6 (bS prog w) A (assign target env v) (λ_ m8=>
     a6 (bS prog w) A (forIn ifs true λc r=>if r=true then do let ok <- isTrue c env (eval c env);pure (ForInStep.yield ok) else pure (ForInStep.yield r)) (λok uU=>
      if ok=true then a6 (bS prog w) A (eval elt env) (λx ON=>
       a6 (bS prog w) A (call (.builtin "list.append") [acc,x]) (λ_ OO=>∃m,m<n/\I m OO) (λ_ _=>False) ON) (λ_ _=>False) uU
      else ∃m,m<n/\I m uU) (λ_ _=>False) m8) (λ_ _=>False) OM) (λ_ _=>False) dc) (λ_ _=>False) s)
  (n:Nat) (h:I n s):lT (bS prog w) A (.compLoop (.ListComp elt [⟨target,iter,ifs,0⟩] scope pos) 0 it acc env) R s:=by
 refine codeAny_loop rfl I (λn s qU=>?_) n h
 show a6 _ A ((compTurn (.ListComp elt [⟨target,iter,ifs,0⟩] scope pos) 0 it acc env).onRaise (λx=>do noteFrame x env;theTreesLotGoes x)) _ _ s
 refine wpAny_noted ?_
 rw[compTurn_list];refine aT (wpAny_standAt (aT (gj (turn n s qU) (λr dc gf=>?_) λ_ _ h'=>h'.elim)));cases r with
|none=>exact cy gf
|some v=>
  refine aT (gj gf (λ_ OM Zh=>?_) λ_ _ h'=>h'.elim)
  refine aT (gj Zh (λ_ m8 j1=>aT (gj j1 (λok uU ic=>?_) λ_ _ h'=>h'.elim)) λ_ _ h'=>h'.elim)
  cases ok with
  |false=>exact cy ⟨rfl,ic⟩
  |true=>
   exact aT (aT (gj ic (λx ON wR=>aT (gj wR (λ_ OO ja=>cy (cy ⟨rfl,ja⟩)) λ_ _ h'=>h'.elim)) λ_ _ h'=>h'.elim))
end
end
section
variable [cG]
theorem Pm{env:Env}{k:mr}:∀{names:List (Str×mr)} {x:Str},names.lookup x=some k->∃jc,(names.map λ(n,k)=>if (k==NameKind.free && env.scope.kind==.function && env.kindOf n==some .cell) then (n,NameKind.cell) else (n,k)).lookup x=some jc/\(jc=k\/(k=.free/\jc=.cell))
  | [],x,h=>by simp at h
  | (n,j)::r,x,h=>by
    have bc:=@Pm env k r x;show ∃jc,jG x ((if (j==NameKind.free && env.scope.kind==.function && env.kindOf n==some .cell)=true then (n,NameKind.cell) else (n,j))::_)=some jc/\_;cases hx:x==n with
    |true=>
      simp only[lQ,hx] at h;cases h;by_cases ar:(k==NameKind.free && env.scope.kind==.function && env.kindOf n==some .cell)=true
      · rw[if_pos ar]
        refine⟨.cell,by simp[lQ,hx],.inr ⟨?_,rfl⟩⟩
        simp only[kJ] at ar;simpa using ar.1.1
      · rw[if_neg ar]
        exact⟨k,by simp[lQ,hx],.inl rfl⟩
    |false=>
      simp only[lQ,hx] at h;obtain⟨jc,ae,aj⟩:=bc h;refine⟨jc,?_,aj⟩;by_cases ar:(j==NameKind.free && env.scope.kind==.function && env.kindOf n==some .cell)=true
      · rw[if_pos ar];simp only[lQ,hx];exact ae
      · rw[if_neg ar];simp only[lQ,hx];exact ae
def mem_lookup{names:List (Str×mr)}{x:Str}{k:mr}(h:names.lookup x=some k):∃y∈names,y.2=k/\y.1=x:=by
 induction names with
|nil=>simp at h
|cons y r bc=>
  rw[lQ] at h;split at h
  next ab=>
   cases h
   exact⟨y,fx,rfl,by simpa using (beq_iff_eq.mp ab).symm⟩
  next=>
   obtain⟨z,hz,ae,aj⟩:=bc h;exact⟨z,dq _ hz,ae,aj⟩
def aeY{scope:Scope}{env:Env}(ux:∀y∈scope.names,y.2≠.cell){x:Str}(h:(relabel scope env).names.lookup x=some .cell\/(relabel scope env).names.lookup x=some .free):∃y∈scope.names,y.2=.free/\y.1=x:=by
 have go:∀{k:mr},(relabel scope env).names.lookup x=some k->(k=.cell\/k=.free)->∃y∈scope.names,y.2=.free/\y.1=x:=λ{k} e ay=>by
  obtain⟨y,aV,ae,aj⟩:=mem_lookup e;obtain⟨⟨n,j⟩,hz,aL⟩:=dI.mp (show y∈scope.names.map _ from aV);by_cases ar:(j==NameKind.free && env.scope.kind==.function && env.kindOf n==some .cell)=true
  ·have e':(n,NameKind.cell)=y:=by
    have i1:(if (j==NameKind.free && env.scope.kind==.function && env.kindOf n==some .cell)=true then (n,NameKind.cell) else (n,j))=y:=aL
    rwa [if_pos ar] at i1
   subst e';simp only[kJ] at ar;exact⟨(n,j),hz,by simpa using ar.1.1,aj⟩
  ·have e':(n,j)=y:=by
    have i1:(if (j==NameKind.free && env.scope.kind==.function && env.kindOf n==some .cell)=true then (n,NameKind.cell) else (n,j))=y:=aL
    rwa [if_neg ar] at i1
   subst e';rcases ay with rfl|rfl
   ·exact absurd ae (ux _ hz)
   ·exact⟨(n,j),hz,ae,aj⟩
 rcases h with h|h
 ·exact go h (.inl rfl)
 ·exact go h (.inr rfl)
def cH.other{K:br}{aG O F:ak->Prop}{E:gS}{H:aA}{ε:Ev}{σ:bG.St}{a:ak}{xs ys:List V}(r:cH K aG E O F H ε σ)(aX:¬F a)(aE:¬O a)(h0:E.h a=none)(aq:H a=some (.lst xs)):
  d6 K F H F (upd H a (.lst ys))/\cH K aG E O F (upd H a (.lst ys)) ε σ:=by
 have hm:nC (.lst xs):=.inl ⟨_,rfl⟩;have aw:d6 K F H F (upd H a (.lst ys)):=Sj aX aq hm;have keep:∀(u:aR) (w:V),el K E O F H u w->el K E O F (upd H a (.lst ys)) u w/\dr (upd H a (.lst ys)) u w=dr H u w:=by
  intro u w c_;refine c_.keep aw (λb ab=>cI ?_) (λ_ _ f=>f) λ_ _ o=>o;rintro rfl;cases q_:u.iH with
  |true=>exact aE ((c_.held ab).2.1 q_)
  |false=>exact (c_.held ab).2.2 q_ h0
 refine⟨aw,⟨r.len,λj u e=>?_,λi j s u v w jA ax aL d_ fv ae aj=>?_,RL r.ent h0 aX aq hm,r.o0,λb e=>r.fr b ?_⟩⟩
 ·obtain⟨v,ae,aj⟩:=r.val j u e;exact⟨v,ae,(keep u v aj).1⟩
 ·obtain⟨lN,dW,bC⟩:=r.val i s ax;obtain⟨dv,i6,b7⟩:=r.val j u aL;rw[ae] at dW;rw[aj] at i6;cases dW;cases i6;rw[(keep s v bC).2,(keep u w b7).2];exact r.ne i j s u v w jA ax aL d_ fv ae aj
 ·by_cases nb:b=a
  ·subst nb;rw[dN] at e;cases e
  ·rwa [cI nb] at e
noncomputable def CY(n:Nat)(caps:List Nat)(σ:bG.St):bG.St:=jE n none++caps.map λi=>(σ[i]?).join
def join_some{α:Type}{o:Option (Option α)}{x:α}(h:o.join=some x):o=some (some x):=by
 cases o with
|none=>cases h
|some o=>exact congrArg some h
def vA{α:Type}{n:Nat}{caps:List Nat}{l:List (Option α)}{i:Nat}{x:α}(h:(jE n none++caps.map λi=>(l[i]?).join)[i]?=some (some x)):∃j,n<=i/\caps[i - n]?=some j/\l[j]?=some (some x):=by
 by_cases ba:i<n
 ·rw[u2 (by simpa using ba),List.getElem?_replicate] at h;rw[if_pos ba] at h;cases h
 ·rw[u1 (by simpa using ba),List.length_replicate,jn] at h;cases e:caps[i - n]? with
  |none=>
   rw[e] at h;cases h
  |some j=>
   rw[e] at h;exact⟨j,by omega,rfl,join_some (fc h)⟩
def ajr{α:Type}{n:Nat}{caps:List Nat}{l:List (Option α)}{i j:Nat}{x:α}(ba:n<=i)(ar:caps[i - n]?=some j)(h:l[j]?=some (some x)):(jE n none++caps.map λi=>(l[i]?).join)[i]?=some (some x):=by
 rw[u1 (by simpa using ba),List.length_replicate,jn,ar];simp[h]
def cH.EL{K:br}{aG O F:ak->Prop}{E:gS}{H:aA}{ε:Ev}{σ:bG.St}{D:ak}(r:cH K aG E O F H ε σ)(n:Nat){caps:List Nat}(aW:caps.Nodup)(jw:H D=none):
  cH K aG E (λa=>O a/\a≠D) F (upd H D (.lst [])) (fN n caps ε) (CY n caps σ):=by
 have x:=Ext.laid (o:=.lst []) r.cf jw;have keep:∀(u:aR) (w:V),el K E O F H u w->el K E (λa=>O a/\a≠D) F (upd H D (.lst [])) u w/\dr (upd H D (.lst [])) u w=dr H u w:=by
  intro u w c_;have nb:∀b∈dr H u w,b≠D:=λb ab z=>by
   obtain⟨o,e,_⟩:=c_.at ab;rw[z,jw] at e;cases e
  exact c_.keep x.aw (λb ab=>cI (nb b ab)) (λ_ _ f=>f) λb ab o=>⟨o,nb b ab⟩
 refine⟨by simp[fN,CY],λi s e=>?_,λi j s u v w jA ax aL d_ fv ae aj=>?_,r.ent.trans x,λa h=>r.o0 a h.1,λa h=>?_⟩
 ·obtain⟨j,aX,ar,bg⟩:=vA e;obtain⟨v,ae,aj⟩:=r.val j s bg;exact⟨v,ajr aX ar ae,(keep s v aj).1⟩
 ·obtain⟨Gh,ba,ci,kv⟩:=vA ax;obtain⟨N0,a',MH,hA⟩:=vA aL;obtain⟨cm,_,MG,dW⟩:=vA (l:=σ) ae;obtain⟨j2,_,MI,i6⟩:=vA (l:=σ) aj;rw[ci] at MG;rw[MH] at MI;cases MG;cases MI;obtain⟨lN,aM,bC⟩:=r.val Gh s kv;obtain⟨dv,a9,b7⟩:=r.val N0 u hA;rw[dW] at aM;rw[i6] at a9;cases aM;cases a9;rw[(keep s v bC).2,(keep u w b7).2];refine r.ne Gh N0 s u v w (λz=>?_) kv hA d_ fv dW i6;subst z;obtain⟨bX,iI⟩:=gZ.mp ci;obtain⟨bY,iJ⟩:=gZ.mp MH;have ne:i - n≠j - n:=by omega
  rcases Nat.lt_or_gt_of_ne ne with q|q
  ·exact (List.pairwise_iff_getElem.mp aW _ _ bX bY q) (iI.trans iJ.symm)
  ·exact (List.pairwise_iff_getElem.mp aW _ _ bY bX q) (iJ.trans iI.symm)
 ·have aW:a≠D:=by
   rintro rfl;rw[dN] at h;cases h
  rw[cI aW] at h;exact⟨r.fr a h,aW⟩
end
section
variable [cG]
structure rV(X:bt)(scope:Scope)(own:List Str)(caps:List (Nat×Str)):Prop where
 kind:scope.kind=.function
 names:∀y∈scope.names,y.2=.local->scope.names.lookup y.1=some .local
 cell:∀y∈scope.names,y.2≠.cell
 free:∀y∈scope.names,y.2=.free->X.env.kindOf y.1=some .cell\/X.env.kindOf y.1=some .free
 EL:∀p∈caps,X.N[p.1]?=some p.2/\scope.names.lookup p.2=some .free
 aW:(caps.map (·.1)).Nodup
 calm:X.calm=true
section
variable {X:bt}{du iter elt:bz}{ifs:List bz}{scope:Scope}{it:lq}{i5:iB}{cc:fP}{hB:bK}{pos:Pos}{own:List Str}{caps:List (Nat×Str)}
def Ss{ai:List (ak×Obj)}{σ:bG.St}{bf:aA}{s2:aK}{cv:List ak}(S:rV X scope own caps)(ck:bG.Inv X ai σ bf s2)(f2:∀b∈cv,hP X ai bf b)(jz:∀b∈cv,b<s2.heap.objs.size)(vV:List Str):
  (jr X vV scope (g6 X.env scope.names []) (s2.heap.push {cls:=.type "list",data:=.seq ([]:List ag).toArray}).objs.size {s2 with heap:=s2.heap.push {cls:=.type "list",data:=.seq ([]:List ag).toArray} } (upd bf s2.heap.objs.size (.lst [])) cv (X.eC++ai)).Ok:=by
 have l7:∀x∈scope.names,x.2=.free->∃c,X.env.cells.lookup x.1=some c:=λx hx ay=>ck.ok.has x.1 (S.free x hx ay);have se:∀x c,(g6 X.env scope.names []).lookup x=some c->X.env.cells.lookup x=some c:=amz l7 (λx c e=>by simp at e);have dU:=ck.Ay (its:=[]) (ys:=[]) (t':=s2.toks) .nil (k9 _);have kG:(s2.heap.push {cls:=.type "list",data:=.seq ([]:List ag).toArray}).objs.size=s2.heap.objs.size+1:=kb ..;refine⟨ck.ok.mod,S.kind,ck.ok.glob,ck.ok.blt,dw _,λx y c ax aL=>ck.ok.inj x y c (se x c ax) (se y c aL),λx hx=>?_,λx c h=>(by cases h),ck.ok.hd,ck.ok.frames,.inl rfl,λb ab=>⟨?_,λx c e=>(f2 b ab).2.2.2.2.1 x c (se x c e)⟩,λb o e=>?_,?_,λb o e ab=>?_,λb ab hf=>?_,dU.stack,dU.OJ⟩
 ·exact vp (.inl (aeY S.cell hx))
 ·show b≠(s2.heap.push {cls:=.type "list",data:=.seq ([]:List ag).toArray}).objs.size
  have h:=jz b ab;rw[kG];exact ee (Nat.lt_succ_of_lt h)
 ·obtain⟨ae,aj⟩:=dU.bs b o e;exact⟨ae,aj⟩
 ·have ae:=hi ck.ok.oJ ck.kG;show X.base.objs.size<=(s2.heap.push {cls:=.type "list",data:=.seq ([]:List ag).toArray}).objs.size;omega
 ·rcases (f2 b ab).2.2.2.1 with q|q
  ·exact ck.ok.amw b o e q
  ·exact absurd (gN (cN (ck.ok.bs b o e).1) q) (Nat.lt_irrefl _)
 ·rcases ct.mp (ck.A3 b hf) with q|q
  ·exact (f2 b ab).2.1 q
  ·exact (f2 b ab).2.2.1 q
def aiz{ai:List (ak×Obj)}{σ:bG.St}{bf:aA}{s2:aK}{cv:List ak}(S:rV X scope own caps)(ck:bG.Inv X ai σ bf s2)(f2:∀b∈cv,hP X ai bf b)(jz:∀b∈cv,b<s2.heap.objs.size){gf:bI}{m:Str->Option ag}{tk:Nat}
  (qZ:gf.Ns (s2.heap.push {cls:=.type "list",data:=.seq ([]:List ag).toArray}).objs.size m) (keep:∀b u,(s2.heap.push {cls:=.type "list",data:=.seq ([]:List ag).toArray}).get? b=some u->gf.get? b=some u):
  bG.Inv (jr X (own++caps.map (·.2)) scope (g6 X.env scope.names []) (s2.heap.push {cls:=.type "list",data:=.seq ([]:List ag).toArray}).objs.size {s2 with heap:=s2.heap.push {cls:=.type "list",data:=.seq ([]:List ag).toArray} } (upd bf s2.heap.objs.size (.lst [])) cv (X.eC++ai)) []
   (CY own.length (caps.map (·.1)) σ) (upd bf s2.heap.objs.size (.lst [])) {s2 with heap:=gf,toks:=tk}:=by
 have l7:∀x∈scope.names,x.2=.free->∃c,X.env.cells.lookup x.1=some c:=λx hx ay=>ck.ok.has x.1 (S.free x hx ay);have se:∀x c,(g6 X.env scope.names []).lookup x=some c->X.env.cells.lookup x=some c:=amz l7 (λx c e=>by simp at e);have dU:=ck.Ay (its:=[]) (ys:=[]) (t':=s2.toks) .nil (k9 _);refine⟨Ss S ck f2 jz _,rfl,ck.bare,ho.kept keep,⟨m,qZ,λi x v ae aj a4=>?_⟩,λx c e=>?_,?_,λx c e=>dU.nV x c (se x c e),λp az=>?_,dU.bT.kept keep,by simp[CY,jr]⟩
 ·obtain⟨j,aX,ar,a'⟩:=vA (l:=σ) aj;have hx:(caps.map (·.2))[i - own.length]?=some x:=by
   have:(own++caps.map (·.2))[i]?=some x:=ae
   rwa [u1 aX] at this
  rw[jn] at ar hx;cases ep:caps[i - own.length]? with
  |none=>rw[ep] at ar;cases ar
  |some p=>
   rw[ep] at ar hx;cases ar;cases hx;obtain⟨c3,hf⟩:=S.EL p (mm ep);obtain⟨y,aV,gI,eu⟩:=mem_lookup hf;have ay:=S.free y aV gI;rw[eu] at ay;obtain⟨q6,alH,Nx⟩:=dU.loc;have ad9:kU X.env.scope p.2:=by
    rcases ay with ay|ay
    ·exact .inr (.inl ay)
    ·exact .inr (.inr ay)
   obtain⟨u,c_,_p⟩:=Nx p.1 p.2 v c3 a' ad9;refine⟨u,c_,.inr ⟨?_,?_⟩⟩
   ·obtain⟨jc,ax,aL⟩:=Pm (env:=X.env) hf;rcases aL with rfl|⟨_,rfl⟩
    ·exact .inr ax
    ·exact .inl ax
   ·rcases _p with ⟨q,_⟩|⟨_,c,ar,ux⟩
    ·rcases ay with ay|ay
     ·rw[ay] at q;cases q
     ·rw[ay] at q;cases q
    ·obtain⟨cA,d9⟩:=vp (env:=X.env) (l:=scope.names) (cs:=[]) (x:=p.2) (.inl ⟨y,aV,gI,eu⟩);have:=se _ _ d9;rw[ar] at this;cases this;obtain⟨hG,aE,hd⟩:=ux;exact⟨c,d9,hG,keep _ _ aE,hd⟩
 ·obtain⟨v,hG,aE,hd⟩:=dU.cell x c (se x c e);exact⟨v,hG,keep _ _ aE,hd⟩
 ·exact dU.bT.fresh (dw _)
 ·have p3:p∈X.eC++ai:=by simpa [jr] using az
  obtain⟨ae,aj,a8,b9,gE⟩:=dU.pin p p3;refine⟨keep _ _ ae,aj,ee (cN ae),λz=>?_,gE⟩;rcases ct.mp (ck.A3 p.1 z) with q|q
  ·exact a8 q
  ·exact b9 q
def agr{ai:List (ak×Obj)}{σ cj:bG.St}{bf ah:aA}{s2 s':aK}{cv:List ak}{vV:List Str}(ck:bG.Inv X ai σ bf s2)(f2:∀b∈cv,hP X ai bf b)
  (J:bG.Inv (jr X vV scope (g6 X.env scope.names []) (s2.heap.push {cls:=.type "list",data:=.seq ([]:List ag).toArray}).objs.size {s2 with heap:=s2.heap.push {cls:=.type "list",data:=.seq ([]:List ag).toArray} } (upd bf s2.heap.objs.size (.lst [])) cv (X.eC++ai)) [] cj ah s')
  {h':bI} (jk:Heap.SameBut (s2.heap.push {cls:=.type "list",data:=.seq ([]:List ag).toArray}).objs.size s'.heap h'):bG.Inv X ai σ ah {s' with heap:=h'}:=by
 have dU:=ck.Ay (its:=[]) (ys:=[]) (t':=s2.toks) .nil (k9 _);have u:=J.base;have free:ah (s2.heap.push {cls:=.type "list",data:=.seq ([]:List ag).toArray}).objs.size=none:=J.free;have old:∀b o,(s2.heap.push {cls:=.type "list",data:=.seq ([]:List ag).toArray}).get? b=some o->b≠(s2.heap.push {cls:=.type "list",data:=.seq ([]:List ag).toArray}).objs.size:=λb o e=>ee (cN e);have y9:∀b,b≠(s2.heap.push {cls:=.type "list",data:=.seq ([]:List ag).toArray}).objs.size->∀o,s'.heap.get? b=some o->h'.get? b=some o:=λb ab o e=>jk.extBut b o ab e;have te:ho (nW X.stack) cv (upd bf s2.heap.objs.size (.lst [])) ah (s2.heap.push {cls:=.type "list",data:=.seq ([]:List ag).toArray}) h':=by
  refine⟨λb o e n hf hx=>y9 b (old b o e) _ (u.keep b o e n hf hx),λb o e n hf hx=>?_,u.free,λb o e hx=>?_,u.qg,u.oO,u.o4⟩
  ·obtain⟨df,q⟩:=u.slot b o e n hf hx;exact⟨df,y9 b (old b o e) _ q⟩
  ·obtain⟨o',q⟩:=u.there b o e hx;exact⟨o',y9 b (old b o e) _ q⟩
 have bT:fA X.prog X.w ah h':=λb o e=>by
  refine (J.bT b o e).kF (λc v ar q=>y9 c (λz=>?_) v q) (λ_ q=>q) λ_ _ q=>q
  rcases ar with rfl|ar
  ·rw[z,free] at e;cases e
  ·rw[z,free] at ar;cases ar
 have YY:=J.os;have Yn:=J.bare;obtain⟨cq,g,d,t,os⟩:=s';obtain rfl:os=s2.os:=YY;have fin:=dU.call (h':=h') (g':=g) (d':=d) (t':=t) (ch:=cv) te bT Yn λb ab=>⟨(f2 b ab).2.2.2.1,(f2 b ab).2.1,(f2 b ab).2.2.2.2.1,(f2 b ab).2.2.2.2.2⟩;exact fin
def ahv{X':bt}{R:Result->aK->Prop}{J:l0}{cv:List ak}{GI D:ak}{gM:Nat->bI->Prop}{aG O a5:ak->Prop}{aO:gS}{bf:aA}{ts ys:List T}(hx:X'.d3=λ_ _=>False)(ar:X'.calm=true)(bx:pL X' du i5)(bo:r7 X' ifs cc)(he:cK X' elt hB)
  (T:Turn X'.prog X'.w X'.K du J cv GI gM) (s6:∀ah:aA,(∀b∈cv,ah b=none)->∀b∈cv,hP X' [] ah b) (ok:qM X'.K J a5 bf ts) (Nf:ts.length<=big) (sr:bf D=none) (kz:¬O D) (X9:aO.h D=none)
  (fin:∀cj ah aF s1 vs,bG.Inv X' [] cj ah s1->Ext a5 bf aF ah->ah D=some (.lst vs)->¬aF D->bp X'.K aF ah ys vs->R (.ok .next) s1)
  {s:aK} {σ:bG.St} {H:aA} {F:ak->Prop} {ε:Ev} (I:bG.Inv X' [] σ H s) (st:gM 0 s.heap) (fr:∀b∈cv,H b=none) (x:Ext a5 bf F H) (r:cH X'.K aG aO O F H ε σ) (jw:H D=some (.lst [])) (_u:¬F D) (e2:gQ i5 cc hB ts ε=some ys):
  lT (bS X'.prog X'.w) X'.A (.compLoop (.ListComp elt [⟨du,iter,ifs,0⟩] scope pos) 0 (.ref GI) (.ref D) X'.env) R s:=by
 refine afe (λn s'=>∃i cj ah aF ε' ue vs,n=ts.length - i/\i<=ts.length/\bG.Inv X' [] cj ah s'/\gM i s'.heap/\(∀b∈cv,ah b=none)/\Ext a5 bf aF ah/\cH X'.K aG aO O aF ah ε' cj/\ah D=some (.lst vs)/\¬aF D/\bp X'.K aF ah ue vs/\ue.length<=i /\
  ∃rest,gQ i5 cc hB (ts.drop i) ε'=some rest/\ys=ue++rest) ?_ ts.length ⟨0,σ,H,F,ε,[],[],rfl,k9 _,I,st,fr,x,r,jw,_u,bp.nil,dw _,ys,by simpa using e2,by simp⟩
 rintro n s3 ⟨i,km,eQ,qJ,alk,ue,vs,rfl,ba,dU,amx,wo,hh,iK,wu,HV,c5,Nx,rest,kX,es⟩;have hU:∀{kn:ak->Prop} {jt:aA} {pF:ak->Prop} {kR:aA} {o:ey},Ext kn jt pF kR->jt D=some o->¬kn D->¬pF D:=λy e n z=>by
  rcases y.new D z with q|q
  ·exact n q
  ·rw[e] at q;cases q
 by_cases en:i<ts.length
 ·have hd:ts.drop i=ts[i]::ts.drop (i+1):=List.drop_eq_getElem_cons en;have wF:ts[i]?=some ts[i]:=g0 en;rw[hd] at kX;simp only[gQ,b0] at kX;obtain⟨vP,nR,b,dQ,kX⟩:=kX;refine gj (T.item X' rfl rfl rfl ar i [] s3 km eQ (λ_ _=>False) dU (s6 eQ wo) amx (ok.go i qJ eQ _ hh.aw iK.cf wF)) (λbV s4 ⟨u,au,b9⟩=>?_) λ_ _ z=>z;subst au;refine gj b9 (λ_ s5 ⟨nd,kR,rZ,xh,I4,sZ,Fm⟩=>?_) λ_ _ z=>z;obtain⟨pF,O1,aY⟩:=ok.ot i qJ eQ _ nd kR hh.aw iK.cf wF I4;have C5:=rZ.pinned (s6 kR Fm) (T.obj _ _ sZ);have Nr:=bx _ s5 km kR nd u (λpB t6=>t6=kR/\cH X'.K aG aO O pF kR vP pB) C5 xh ⟨aG,aO,O,pF,alk,_,vP,iK.ext O1,aY,nR,λpB xi=>⟨rfl,xi⟩⟩;rw[hx] at Nr;refine gj Nr (λ_ kE ⟨pB,t6,vS,ui,xi⟩=>?_) λ_ _ z=>z;subst ui;have again:∀{ll:bG.St} {hy:aA} {hc:aK},bG.Inv X' ([]++amB cv s5.heap) ll hy hc->gM (i+1) hc.heap/\(∀b∈cv,hy b=none)/\bG.Inv X' [] ll hy hc:=λ{ll hy hc} ju=>by
   refine⟨T.keep _ _ _ sZ λb ab o e=>(ju.pin (b,o) (iM _ (iM _ (BQ ab e)))).1,λb ab=>?_,ju.A_⟩
   obtain⟨o,e,d⟩:=T.obj _ _ sZ b ab;exact (ju.pin (b,o) (iM _ (iM _ (BQ ab e)))).2.1
  have NP:=bo _ kE pB t6 (λnM hy=>nM=b/\∃pG,Ext pF t6 pG hy) vS ⟨aG,aO,O,pF,vP,b,xi,dQ,λpG hy uY=>⟨rfl,pG,uY⟩⟩;rw[hx] at NP;refine gj NP (λabr hc ⟨hy,ju,qQ,pG,uY⟩=>?_) λ_ _ z=>z;subst qQ;have xD:=O1.trans uY;have oZ:=xi.ext uY;cases abr with
  |false=>
   simp only[iO,if_false] at kX ⊢;obtain⟨a1,a2,eE⟩:=again ju;exact⟨_,by omega,i+1,pB,hy,pG,vP,ue,vs,rfl,en,eE,a1,a2,hh.trans xD,oZ,xD.same.get wu,hU xD wu HV,c5.ext xD,by omega,rest,kX,es⟩
  |true=>
   simp only[if_true,b0,dR] at kX ⊢;obtain⟨y,XT,acr,XQ,rfl⟩:=kX;have kA:=he _ hc pB hy (λv rY=>∃pH,Ext pG hy pH rY/\Rep X'.K pH rY y v) ju ⟨aG,aO,O,pG,vP,y,oZ,XT,λv pH rY Ba xf=>⟨pH,Ba,xf⟩⟩;rw[hx] at kA;refine gj kA (λu8 j7 ⟨uW,rY,U1,r8,pH,Ba,xf⟩=>?_) λ_ _ z=>z;have A':=xD.trans Ba;have Fs:=A'.same.get wu;have HW:=hU A' wu HV;obtain⟨_j,r9⟩:=(oZ.ext Ba).other (ys:=vs++[uW]) HW kz X9 Fs;have aq:=J_ (X:=X') _ j7 pB rY (.ref D) [uW] (.ref D) [u8] (λ_ LI=>LI=upd rY D (.lst (vs++[uW]))) U1 rfl (.cons r8 .nil) ⟨D,vs,uW,rfl,rfl,Fs,by rw[lh,<- c5.length];omega,rfl⟩;rw[hx] at aq;refine gj aq (λu9 xo ⟨v9,LI,U2,alS,uj⟩=>?_) λ_ _ z=>z;subst uj;obtain⟨a1,a2,eE⟩:=again U2;have x9:Ext a5 bf pH (upd rY D (.lst (vs++[uW]))):=by
    have y:=hh.trans A';refine⟨λb o e=>?_,y.sub,y.new,⟨λb f=>?_,y.cf.m_.upd λu e=>.inl ⟨_,fc (e.symm.trans Fs)⟩⟩⟩
    ·have nb:b≠D:=by
      rintro rfl;rw[sr] at e;cases e
     rw[cI nb];exact y.same b o e
    ·have nb:b≠D:=by
      rintro rfl;exact HW f
     rw[cI nb];exact y.cf b f
   refine⟨_,by omega,i+1,pB,_,pH,vP,ue++[y],vs++[uW],rfl,en,eE,a1,a2,x9,r9,dN,HW,((c5.ext A').append (bp.cons xf bp.nil)).aw _j,by simp;omega,acr,XQ,by rw[es];simp⟩
 ·have hd:ts.drop i=[]:=List.drop_eq_nil_of_le (by omega);rw[hd] at kX;cases kX;refine gj (T.done X' rfl rfl rfl ar i [] s3 km eQ (λ_ _=>False) dU (s6 eQ wo) amx (ok.stop i qJ eQ hh.aw (by omega))) (λbV s4 ⟨au,nD⟩=>?_) λ_ _ z=>z;subst au;exact fin km eQ qJ s4 vs nD hh wu HV (by rw[es,nh];exact c5)
structure After(X:bt)(ai:List (ak×Obj))(σ:bG.St)(F:ak->Prop)(H:aA)(ys:List T)(D C:ak)(ah:aA)(aF:ak->Prop)(s1:aK)(vs:List V):Prop where
 inv:∀h',Heap.SameBut C s1.heap h'->bG.Inv X ai σ ah {s1 with heap:=h'}
 ns:∃m,s1.heap.Ns C m
 free:ah C=none
 above:X.dM.heap.objs.size<=C
 cells:∀x c,X.env.cells.lookup x=some c->c≠C
 pin:∀p∈X.eC++ai,p.1≠C
 loc:C≠X.env.locals
 new:H D=none
 ext:Ext F H aF ah
 hU:¬aF D
 lst:ah D=some (.lst vs)
 rep:bp X.K aF ah ys vs
def RP{use:Option (ag->Sem Unit)}{Q:ag->aK->Prop}{fl:Pos}(S:rV X scope own caps)(ba:pM X du iter it)
  (bx:∀cl C dM aO cv eC,pL (jr X (own++caps.map (·.2)) scope cl C dM aO cv eC) du i5)
  (bo:∀cl C dM aO cv eC,r7 (jr X (own++caps.map (·.2)) scope cl C dM aO cv eC) ifs cc)
  (he:∀cl C dM aO cv eC,cK (jr X (own++caps.map (·.2)) scope cl C dM aO cv eC) elt hB)
  (aC:∀x,u7 iter X.env x=pure x) {ai:List (ak×Obj)} {s:aK} {σ:bG.St} {H:aA} {aG O F:ak->Prop} {aO:gS} {ε:Ev} {ys:List T} (I:bG.Inv X ai σ H s) (r:cH X.K aG aO O F H ε σ)
  (e:comp own.length (caps.map (·.1)) it i5 cc hB ε=some (.list ys)) (fin:∀D C ah aF s1 vs,After X ai σ F H ys D C ah aF s1 vs->compPost (bS X.prog X.w) X.A X.d3 use Q (.ref D) C (.ok .next) s1):
  a6 (bS X.prog X.w) X.A (comprehension (.ListComp elt [⟨du,iter,ifs,0⟩] scope pos) scope X.env fl (newList []) false (eval iter X.env) use) Q X.d3 s:=by
 simp only[comp,b0] at e;obtain⟨ts,bM,e⟩:=e;split at e
 case isFalse=>cases e
 next Nf=>
 simp only[dR] at e;obtain⟨al1,e2,e⟩:=e;cases e;have l7:∀x∈scope.names,x.2=.free->∃c,X.env.cells.lookup x.1=some c:=λx hx ay=>I.ok.has x.1 (S.free x hx ay);refine wpAny_comprehension_free rfl aC (Px l7) S.kind S.names (cD (ba ai s σ H (λJ H1=>∃a5,Ext F H a5 H1/\qM X.K J a5 H1 ts) I ⟨aG,aO,O,F,ε,ts,r,bM,λJ a5 H1 aU ok=>⟨a5,aU,ok⟩⟩) λv s1 ae=>cD ae λGJ s2 aj=>?_);obtain⟨GI,cv,gM,J,bf,rfl,ck,T,j9,f2,a5,aU,ok⟩:=aj;have jz:∀b∈cv,b<s2.heap.objs.size:=λb ab=>by
  obtain⟨o,aE,_⟩:=T.obj 0 _ j9 b ab;exact cN aE
 have sr:bf s2.heap.objs.size=none:=ck.fresh;have jw:H s2.heap.objs.size=none:=aU.same.none sr;have kG:(s2.heap.push {cls:=.type "list",data:=.seq ([]:List ag).toArray}).objs.size=s2.heap.objs.size+1:=kb ..;refine wpAny_newList ?_ (k9 _);refine wpAny_newFunctionEnv S.cell (by intro y aV;simp at aV) (λgf YV Y4=>?_) S.kind;have keep:∀b u,(s2.heap.push {cls:=.type "list",data:=.seq ([]:List ag).toArray}).get? b=some u->gf.get? b=some u:=λb u e=>Y4.extBut b u (ee (cN e)) (cT _ e);have nD:=aiz (tk:=s2.toks+0) S ck f2 jz YV keep;have jh:=(r.ext aU).EL (D:=s2.heap.objs.size) own.length S.aW sr;refine codeAny_compStart_list ?loop (T.self _ 0 _ _ _ (T.keep 0 _ _ j9 λb ab o e=>keep b o (cT _ e)) ?loop);refine ahv (X':=jr X (own++caps.map (·.2)) scope (g6 X.env scope.names []) (s2.heap.push {cls:=.type "list",data:=.seq ([]:List ag).toArray}).objs.size {s2 with heap:=s2.heap.push {cls:=.type "list",data:=.seq ([]:List ag).toArray} } (upd bf s2.heap.objs.size (.lst [])) cv (X.eC++ai))
  rfl S.calm (bx _ _ _ _ _ _) (bo _ _ _ _ _ _) (he _ _ _ _ _ _) T (λah aX b ab=>?_) ok Nf sr (λz=>z.2 rfl) (r.o0 _ (r.fr _ jw)) (λcj ah aF s1 vs nE nd X8 _v d2=>?_) nD (T.keep 0 _ _ j9 λb ab o e=>keep b o (cT _ e)) (λb ab=>?_) (Ext.laid aU.cf sr) jh dN ?_ e2
 ·have Ij:=Ss S ck f2 jz (own++caps.map (·.2));refine⟨aX b ab,(Ij.y_ b ab).1,Ij.wj b ab,.inl ab,λx c e=>(Ij.y_ b ab).2 x c e,λp az=>?_⟩;have p3:p∈X.eC++ai:=by simpa [jr] using az
  exact (f2 b ab).2.2.2.2.2 p p3
 ·obtain⟨m,aX,_⟩:=id nE.loc;refine fin s2.heap.objs.size _ ah aF s1 vs ⟨λh' jk=>agr ck f2 nE jk,⟨m,aX⟩,nE.free,?_,λx c e z=>?_,λp az z=>?_,?_,jw,aU.trans nd,_v,X8,d2⟩
  ·rw[kG];exact Nat.le_succ_of_le ck.kG
  ·obtain⟨v,q⟩:=ck.cell x c e;have:=q.lt;rw[z,kG] at this;exact absurd this (Nat.not_lt.mpr (ni _))
  ·have:=cN (ck.pin p az).1;rw[z,kG] at this;exact absurd this (Nat.not_lt.mpr (ni _))
  ·have:=ck.lt;rw[kG];exact f5 (Nat.lt_succ_of_lt this)
 ·have:=(f2 b ab).1;rw[cI (ee (jz b ab))];exact this
 ·intro z;obtain⟨o,e⟩:=aU.cf _ z;rw[sr] at e;cases e
def ajX(S:rV X scope own caps)(ba:pM X du iter it)
  (bx:∀cl C dM aO cv eC,pL (jr X (own++caps.map (·.2)) scope cl C dM aO cv eC) du i5)
  (bo:∀cl C dM aO cv eC,r7 (jr X (own++caps.map (·.2)) scope cl C dM aO cv eC) ifs cc)
  (he:∀cl C dM aO cv eC,cK (jr X (own++caps.map (·.2)) scope cl C dM aO cv eC) elt hB)
  (aC:∀x,u7 iter X.env x=pure x:=by intro _;rfl):r4 X (.ListComp elt [⟨du,iter,ifs,0⟩] scope pos) (comp own.length (caps.map (·.1)) it i5 cc hB):=by
 intro ai s σ H Q I ⟨aG,aO,O,F,ε,ys,r,e,k⟩;rw[eval_ListComp];refine RP S ba bx bo he aC I r e λD C ah aF s1 vs a=>?_;obtain⟨m,aX⟩:=a.ns;exact⟨m,aX,λh' jk=>⟨.ref D,ah,a.inv h' jk,rfl,k D vs aF ah a.ext a.new a.hU a.lst a.rep⟩⟩
def Q6{ε:Ev}{n:Nat}{cs:List Nat}{t:T}(e:comp n cs it i5 cc hB ε=some t):∃ts,t=.list ts:=by
 simp only[comp,b0] at e;obtain⟨ts,_,e⟩:=e;split at e
 ·simp only[dR] at e;obtain⟨ys,_,e⟩:=e;exact⟨ys,e.symm⟩
 ·cases e
def ow(S:rV X scope own caps)(ba:pM X du iter it)
  (bx:∀cl C dM aO cv eC,pL (jr X (own++caps.map (·.2)) scope cl C dM aO cv eC) du i5)
  (bo:∀cl C dM aO cv eC,r7 (jr X (own++caps.map (·.2)) scope cl C dM aO cv eC) ifs cc)
  (he:∀cl C dM aO cv eC,cK (jr X (own++caps.map (·.2)) scope cl C dM aO cv eC) elt hB)
  (aC:∀x,u7 iter X.env x=pure x:=by intro _;rfl):cK X (.ListComp elt [⟨du,iter,ifs,0⟩] scope pos) (comp own.length (caps.map (·.1)) it i5 cc hB):=
 N8 (ajX S ba bx bo he aC) λε t e=>Q6 e
def CF(i:Nat){x:Str}{dH o3:Pos}(c3:X.N.Nodup)(S:rV X scope own caps)(hit:pM X du iter it)
  (bx:∀cl C dM aO cv eC,pL (jr X (own++caps.map (·.2)) scope cl C dM aO cv eC) du i5)
  (bo:∀cl C dM aO cv eC,r7 (jr X (own++caps.map (·.2)) scope cl C dM aO cv eC) ifs cc)
  (he:∀cl C dM aO cv eC,cK (jr X (own++caps.map (·.2)) scope cl C dM aO cv eC) elt hB)
  (ba:X.N[i]?=some x:=by rfl) (hx:Loc X.env.scope x:=by first|exact Or.inl rfl|exact Or.inr rfl)
  (l':iu (.ListComp elt [⟨du,iter,ifs,0⟩] scope pos) (some (.Name x dH)) o3.line X.env=pure true:=by rfl)
  (hf:X.fn x=true\/X.env.scope.names.lookup x=some .local:=by first|exact .inl rfl|exact .inr rfl)
  (aC:∀x,u7 iter X.env x=pure x:=by intro _;rfl):
  f_ X (.Assign [.Name x dH] (.ListComp elt [⟨du,iter,ifs,0⟩] scope pos) o3) (asg i (comp own.length (caps.map (·.1)) it i5 cc hB)):=by
 intro ai s σ H D I ⟨aG,aO,O,F,ε,o,r,e,k⟩;simp only[asg,dR] at e;obtain⟨t,bM,rfl⟩:=e;obtain⟨ys,rfl⟩:=Q6 bM;rw[exec_Assign_Name_used _ _ _ _ l'];refine aT (wpAny_standAt (aT ?_));show a6 _ X.A (do let _ <- comprehension (.ListComp elt [⟨du,iter,ifs,0⟩] scope pos) scope X.env _ (newList []) false (eval iter X.env) (some (assign (.Name x dH) X.env))) _ _ s;refine aT (cD (RP (use:=some (assign (.Name x dH) X.env)) (Q:=λ_ s'=>r_ X ai D .next s') S hit bx bo he aC I r bM λvQ C ah aF s1 vs a=>?_) λ_ s' a_=>cy (cy a_));have U3:=a.inv s1.heap (Heap.SameBut.refl ..);have U4:bG.Inv X ai σ ah s1:=U3;show a6 _ X.A (assign (.Name x dH) X.env (.ref vQ)) _ _ _;refine wpAny_assign_Name (QD (v:=.ref vQ) U4 c3 ba hx rfl (λs2 ck ⟨b,jk,ab⟩=>?_) hf);obtain⟨m,aX⟩:=a.ns;have nb:C≠b:=by
  rcases ab with rfl|ab
  ·exact a.loc
  ·exact (a.cells x b ab).symm
 refine⟨m,aX.sameBut jk nb,λh' acB=>?_⟩
 have dU:bG.Inv X ai (σ.set i (some (.ref vQ))) ah {s2 with heap:=h'}:=ck.turned (t':=s2.toks) (it:=C) (λb o ab e=>acB.extBut b o ab e) a.free a.loc (.inr a.above) a.cells a.pin;refine⟨_,ah,dU,?_⟩;have y:Ext F H (λb=>aF b\/b=vQ) ah:=⟨a.ext.same,λb z=>.inl (a.ext.sub b z),λb z=>by
  rcases z with z|rfl
  ·exact a.ext.new b z
  ·exact .inr a.new,⟨λb z=>by
  rcases z with z|rfl
  ·exact a.ext.cf b z
  ·exact⟨_,a.lst⟩,a.ext.cf.m_⟩⟩
 refine k _ _ ah y.aw ((r.ext y).set i ?_)
 simp only[Rep];exact⟨vQ,vs,rfl,.inr rfl,.inl a.lst,a.rep.keep (λ_ _ z=>z) λb _ z w=>⟨.inl z,w⟩⟩
end
end
section
variable [cG]
open AutoSeq1 (wpAny_loadPart')
def aej(l:ak)(items:Array ag)(n:Nat)(pW:Option ak)(df:Array (Option ag)):
  Meets (Builtin.«enumerate.__new__» ⟨[.type "enumerate",.ref l],[]⟩) (λ_ R s=>s.heap.get? l=some {cls:=.type "tuple",dict:=pW,data:=.seq items n,slots:=df} /\
   R (.ok (.ret (.ref (s.heap.push {cls:=.type "tuple_iterator",data:=.fields #[.ref l,.int 0 0]}).objs.size)))
    {s with heap:=(s.heap.push {cls:=.type "tuple_iterator",data:=.fields #[.ref l,.int 0 0]}).push {cls:=.type "enumerate",data:=.fields #[.none,.bool false,.ref s.heap.objs.size,gP 0,.none,.none]} }):=
 .of_wp λprog w A R s h=>by
  obtain⟨az,g,d,tk,os⟩:=s;obtain⟨av,h⟩:=h;have p5:=sub_enumerate;have fI:Heap.IsTuple (Shared.heap ⟨az,g,d,tk,os⟩) l items:=⟨_,av,rfl,n,rfl⟩
  wp_walk using wpAny_loadPart' av
  refine wpAny_stack_any λst=>cy ?_
  split
  ·rename_i c _ _ _ _ _
   cases (c==Value.type "enumerate")
   ·wp_walk using wpAny_loadPart' av,pf fI
    exact⟨_,rfl,h⟩
   ·wp_walk using wpAny_loadPart' av,pf fI
    exact⟨_,rfl,h⟩
  ·wp_walk using wpAny_loadPart' av,pf fI
   exact⟨_,rfl,h⟩
section
variable {prog:cE}{w:b8}{A:cU}{E:ag->aK->Prop}{s:aK}
def aek{l:ak}{items:Array ag}{Q:ag->aK->Prop}(fI:s.heap.IsTuple l items)
  (h:∀h',IsEnum h' (s.heap.objs.size+1) s.heap.objs.size 0 .none->h'.IsTupleIter s.heap.objs.size l 0->h'.objs.size=s.heap.objs.size+2 ->
   (∀b o,s.heap.get? b=some o->h'.get? b=some o)->Q (.ref (s.heap.objs.size+1)) {s with heap:=h'}):
  a6 (bS prog w) A (call (.type "enumerate") [.ref l]) Q E s:=by
 obtain⟨⟨c,pW,EP,df⟩,av,ar,n,hd⟩:=fI;replace ar:c=.type "tuple":=ar;replace hd:EP=.seq items n:=hd;subst ar hd;refine callType_new F.called_enumerate (by decide) (F.typeCall_enumerate_1 _) (F.newCall_enumerate_1 _) (λobj=>F.args_object_init_2 obj _) F.entry_enumerate_new
  (aej l items n pW df) ⟨av,?_⟩
 have hz:(s.heap.push {cls:=.type "tuple_iterator",data:=.fields #[.ref l,.int 0 0]}).objs.size=s.heap.objs.size+1:=kb ..;show _/\_;rw[hz];have he:IsEnum ((s.heap.push {cls:=.type "tuple_iterator",data:=.fields #[.ref l,.int 0 0]}).push
   {cls:=.type "enumerate",data:=.fields #[.none,.bool false,.ref s.heap.objs.size,gP 0,.none,.none]}) (s.heap.objs.size+1) s.heap.objs.size 0 .none:=by
  have:=fy (s.heap.push {cls:=.type "tuple_iterator",data:=.fields #[.ref l,.int 0 0]})
   (o:={cls:=.type "enumerate",data:=.fields #[.none,.bool false,.ref s.heap.objs.size,gP 0,.none,.none]}) rfl
  rw[hz] at this;exact this
 refine⟨⟨_,he,rfl⟩,h _ he ⟨_,cT _ (fy _ rfl),rfl,rfl⟩ (by rw[kb,hz]) λb o x=>cT _ (cT _ x)⟩
def aes{it l:ak}{i:Nat}{items}{x:ag}{Q:ag->aK->Prop}(hit:s.heap.IsTupleIter it l i)
  (av:s.heap.IsTuple l items) (hx:items[i]?=some x)
  (gF:∀h',h'.IsTupleIter it l (i+1)->Heap.SameBut it s.heap h'->Q x {s with heap:=h'}):
  a6 (bS prog w) A (lO (.ref it)) Q E s:=by
 obtain⟨o,aE,ar,hd⟩:=id hit;obtain⟨ol,F6,_,nl,FI⟩:=av;unfold lO;refine aT (u5 (name:=Str.ofString "__next__") hit.typeIs Bc
  (tj Bc hit.typeIs F.entry_tuple_iterator_next ?_ (F.args_tuple_iterator_next_1 _)))
 show a6 _ _ (field (.ref it) 0 >>= _) _ _ s
 refine aT (iP aE hd (x:=.ref l) rfl ?_)
 show a6 _ _ (if (Value.ref l==Value.none)=true then _ else _) _ _ s
 rw[if_neg (show ¬((Value.ref l==Value.none)=true) from ti)];show a6 _ _ (field (.ref it) 1 >>= _) _ _ s;refine aT (iP aE hd (x:=.int i 0) rfl ?_);show a6 _ _ (seqItems? (.ref l) >>= _) _ _ s;refine aT (mq F6 FI ?_);simp only[Int.toNat_natCast,hx];refine aT (wpAny_setField aE hd (by simp) (cy ⟨x,rfl,cy (gF _ ?_ (Heap.SameBut.update ..))⟩));exact⟨_,Heap.get?_update_self _ aE (Obj.isFreed_of_fields (Obj.data_mapFields hd _)),(Obj.cls_mapFields ..).trans ar,by
  rw[Obj.data_mapFields hd];simp[gP]⟩
def Jh{it l:ak}{i:Nat}{items}{Q:ag->aK->Prop}(cq:A.handled=none)
  (hit:s.heap.IsTupleIter it l i) (av:s.heap.IsTuple l items) (hx:items[i]?=none)
  (gX:∀h' e,Heap.ExtBut it s.heap h'->(∃o,h'.get? e=some o/\o.cls=.type "StopIteration")->E (.ref e) {s with heap:=h'}):
  a6 (bS prog w) A (lO (.ref it)) Q E s:=by
 obtain⟨o,aE,ar,hd⟩:=id hit;obtain⟨ol,F6,_,nl,FI⟩:=av;unfold lO;refine aT (u5 (name:=Str.ofString "__next__") hit.typeIs Bc
  (tj Bc hit.typeIs F.entry_tuple_iterator_next ?_ (F.args_tuple_iterator_next_1 _)))
 show a6 _ _ (field (.ref it) 0 >>= _) _ _ s
 refine aT (iP aE hd (x:=.ref l) rfl ?_)
 show a6 _ _ (if (Value.ref l==Value.none)=true then _ else _) _ _ s
 rw[if_neg (show ¬((Value.ref l==Value.none)=true) from ti)];show a6 _ _ (field (.ref it) 1 >>= _) _ _ s;refine aT (iP aE hd (x:=.int i 0) rfl ?_);show a6 _ _ (seqItems? (.ref l) >>= _) _ _ s;refine aT (mq F6 FI ?_);simp only[Int.toNat_natCast,hx];refine aT (wpAny_rule (aT (wpAny_setField aE hd (by simp) ?_)));show a6 _ _ (newExc (.type "StopIteration") [] >>= _) _ _ _;refine aT ?_;simp only[newExc,newTuple];refine aT (u6 ?_ (by size_fits));refine aT (m:=firstArgMember _ _) (wpAny_of_eq (a:=Value.none) (by first|rfl|(simp only[firstArgMember];rfl)) ?_);refine u6 ?_ (by size_fits);simp only[raiseNew];refine aT (wpAny_handled ?_)
 first|rw[show A.in1.handled=none from cq]|rw[cq]
 refine aT (cy (wpAny_throw ?_))
 exact gX _ _ (((Heap.SameBut.update ..).extBut.push _).push _) ⟨_,fy _ rfl,rfl⟩
end
def JH{prog:cE}{w:b8}{A:cU}(cq:A.handled=none)(it l:ak)(dJ:l≠it)(items:Array ag):
  Draws prog w A it [it,l] items.size (λi v=>items[i]?=some v) (λi h=>h.IsTupleIter it l i/\h.IsTuple l items) where
 live:=λ_ _ st=>let ⟨o,aE,_⟩:=st.1;⟨o,aE⟩
 frame:=λ_ _ _ st ay=>⟨st.1.at λo e=>ay it (by simp) o e,let ⟨o,aE,r⟩:=st.2;⟨o,ay l (by simp) o aE,r⟩⟩
 item:=λi s Q E ba st gF=>by
  refine aes st.1 st.2 (x:=items[i]) (by simp[ba]) λh' wH mT=>?_
  exact gF _ h' s.toks (by simp[ba]) ⟨wH,st.2.extBut mT.extBut dJ⟩ mT
 done:=λs Q E st gX=>Jh cq st.1 st.2 (by simp) gX
noncomputable def C7(K:br)(a:ak):l0:=
 ⟨λi H=>∃xs x,c6 K H a xs/\xs[i]?=some x,λi H x ah=>∃p v,H p=none/\x=.ref p/\ah=upd H p (.tup [.int i,v])/\∀xs,c6 K H a xs->xs[i]?=some v,λi H=>∃xs,c6 K H a xs/\xs.length<=i⟩
def agI{P:cE}{w:b8}{K:br}{es:List bz}{k:Nat}{pos:Pos}(a it e:ak)(dJ:e≠it)(FA:a≠it)(Fz:a≠e):Turn P w K (.Tuple es k pos) (C7 K a) [e,it] e (λi h=>(∃old,IsEnum h e it i old)/\h.IsTupleIter it a i) where
 mem:=by simp
 obj:=λi h st b ab=>by
  obtain⟨⟨old,he⟩,o,aE,ar,hd⟩:=st;rcases ct.mp ab with rfl|ab
  ·exact⟨_,he,λv z=>by
    have iv:Data.fields _=Data.cell v:=z;cases iv⟩
  ·have ax:b=it:=by simpa using ab
   subst ax;exact⟨o,aE,λv z=>by rw[hd] at z;cases z⟩
 keep:=λi h h' st b'=>by
  obtain⟨⟨old,he⟩,j9⟩:=st;exact⟨⟨old,b' e (by simp) _ he⟩,j9.at λo q=>b' it (by simp) o q⟩
 item:=by
  intro X fJ hw h9 ar i ai s σ H E I hf st bx;subst fJ hw h9;obtain⟨xs,x,a_,hx⟩:=bx;obtain⟨its,bV,p,hz⟩:=I.tuple a_;obtain⟨u,bH,c_⟩:=bV.get hx;obtain⟨⟨old,he⟩,hit⟩:=st;obtain⟨f0,f1,f2,hR,f4,hE⟩:=hf e (by simp);obtain⟨oP,g1,g2,g3,nX,ky⟩:=hf it (by simp);have ba:i<its.toArray.size:=by
   rw[eo];exact (gZ.mp bH).1
  have F2:e∉[it,a]:=by
   intro z;rcases ct.mp z with z|z
   ·exact dJ z
   ·have iv:e=a:=by simpa using z
    exact Fz iv.symm
  refine wpAny_pyNext_enum_itemD (JH (A:=X.A.in1) (I.ok.hd ar) it a FA its.toArray) he ⟨hit,p⟩ ba dJ F2 λnd h' tk Ft aE mT cL hsz ay=>?_
  have ex:nd=u:=by
   have:=Ft;rw[<- Array.getElem?_toList] at this;rw[show (its.toArray).toList=its from rfl,bH] at this;exact (fc this).symm
  subst ex;refine⟨_,rfl,wpAny_letOwnedTupleGo_enum aE λaj kA ia=>?_⟩;have wD:e<s.heap.objs.size:=cN he;have FR:it<s.heap.objs.size:=by obtain⟨o,kB,_⟩:=hit;exact cN kB
  have eu:∀b o,b≠e->b≠it->s.heap.get? b=some o->aj.get? b=some o:=λb o ae a8 q=>ia.extBut b o ae (ay b o ae a8 q);have fr:H s.heap.objs.size=none:=I.bT.fresh (dw _);have Fu:aj.get? s.heap.objs.size=some {cls:=.type "tuple",data:=.seq #[.int i tk,nd]}:=ia.extBut _ _ (f5 wD) cL;have n4:∀b o,H b=some o->b≠e/\b≠it:=λb o q=>⟨λz=>(by rw[z,f0] at q;cases q),λz=>(by rw[z,oP] at q;cases q)⟩;have F5:fA X.prog X.w (upd H s.heap.objs.size (.tup [.int i,x])) aj:=by
   intro b o q;by_cases ab:b=s.heap.objs.size
   ·subst ab;rw[dN] at q;cases q;exact⟨by show 2<=cB;decide,[.int i tk,nd],.cons ⟨tk,rfl⟩ (.cons c_ .nil),⟨_,Fu,rfl,_,rfl⟩⟩
   ·rw[cI ab] at q;refine (I.bT b o q).kF (λc v d9 d2=>eu c v ?_ ?_ d2) (λc d2=>?_) λc ys d2=>?_
    ·rcases d9 with rfl|d9
     ·exact (n4 _ _ q).1
     ·exact (n4 _ _ d9).1
    ·rcases d9 with rfl|d9
     ·exact (n4 _ _ q).2
     ·exact (n4 _ _ d9).2
    ·rw[cI (iw d2 fr)];exact d2
    ·rw[cI (iw d2 fr)];exact d2
  have ck:bG.Inv X ai σ (upd H s.heap.objs.size (.tup [.int i,x])) {s with heap:=aj,toks:=tk+1}:=by
   refine I.step (g':=s.gens) (d':=s.drawn) (ch:=[e,it]) (λb ab=>?_) (λb o _ _ d9 q _=>eu b o (λz=>d9 (by simp[z])) (λz=>d9 (by simp[z])) q) (λb o _ _ d9 q _=>⟨o.slots,eu b o (λz=>d9 (by simp[z])) (λz=>d9 (by simp[z])) q⟩) (λb o _ q n=>?_)
    (λb o d9 q=>⟨o,eu b o (λz=>d9 (by simp[z])) (λz=>d9 (by simp[z])) q⟩) (λb ys q=>by rw[cI (iw q fr)];exact q) (λb o u q=>by rw[cI (iw q fr)];exact q) (λb ps q=>⟨#[],by rw[cI (iw q fr),q];simp⟩) (λm hm=>?_) F5 I.bare
   ·rcases ct.mp ab with rfl|ab
    ·exact⟨hR,f1,f4,hE⟩
    ·have:b=it:=by simpa using ab
     subst this;exact⟨g3,g1,nX,ky⟩
   ·rw[cI (ee (cN q))];exact n
   ·obtain⟨o,i4,ep,kB,r⟩:=hm;exact⟨o,i4,ep,eu _ o (Ne.symm f1) (Ne.symm g1) kB,r⟩
  refine⟨.ref s.heap.objs.size,_,ck,rfl,⟨s.heap.objs.size,x,fr,rfl,rfl,λys aV=>by rw[I.IX aV a_];exact hx⟩,⟨⟨_,by simpa using kA⟩,mT.1.at λo q=>(ia.2 it dJ.symm).trans q⟩,λb ab=>?_⟩
  rcases ct.mp ab with rfl|ab
  ·rw[cI (ee wD)];exact f0
  ·have:b=it:=by simpa using ab
   subst this;rw[cI (ee FR)];exact oP
 done:=by
  intro X fJ hw h9 ar i ai s σ H E I hf st bx;subst fJ hw h9;obtain⟨xs,a_,hx⟩:=bx;obtain⟨its,bV,p,hz⟩:=I.tuple a_;obtain⟨⟨old,he⟩,hit⟩:=st;obtain⟨oP,g1,g2,g3,nX,ky⟩:=hf it (by simp);have cL:s.TypeIs (.ref e) "enumerate":=⟨_,he,rfl⟩;have av:=bV.length;unfold pyNext;refine aT (wpAny_attempt (u5 (name:=Str.ofString "__next__") cL F.slot_enumerate_next
   (tj F.slot_enumerate_next cL F.entry_enumerate_next ?_ (F.args_enumerate_next_1 _))))
  show a6 _ _ (field (.ref e) 2 >>= _) _ _ _
  refine aT (iP he rfl (x:=.ref it) rfl ?_)
  refine aT (Jh (I.ok.hd ar) hit (show s.heap.IsTuple a its.toArray from p) (by simp;omega) λh' x gG lB=>?_)
  obtain⟨o,aE,d9⟩:=lB;refine aT (wpAny_isInstance (T:="StopIteration") (b:=true) ⟨o,aE,d9⟩ isSubtype_stop ?_);exact cy ⟨rfl,I.turned (t':=s.toks) (λb o ab q=>gG b o ab q) oP g1 g3 nX ky⟩
 self:=λ_ _ _ _ _ st h=>by
  obtain⟨⟨old,he⟩,_⟩:=st;exact wpAny_pyIter_enum he h
noncomputable def Zn(K:br)(cw:gs):TI:=λσ H R=>cw σ H λvs H1=>∃a xs,vs=[.ref a]/\c6 K H1 a xs/\R (C7 K a) H1
section
variable {X:bt}{es:List bz}{k:Nat}{p pos fl:Pos}{a:bz}{f:bK}
def ai6{cw:gs}(bx:eP X "enumerate")(hm:X.mg "enumerate"=none)(aq:h5 X [a] cw)(aC:bb [a] X.env=[(false,eval a X.env)]:=by rfl):qO X (.Tuple es k fl) (.Call (.Name "enumerate" p) [a] [] pos) (Zn X.K cw):=by
 intro ai s σ H R I h;refine Call_ (pq I bx hm PyProof.Rows.boot_enumerate (amg (cD (aq pos ai s σ H _ I h) λus s1 ⟨vs,H1,bw,bC,aM⟩=>?_) aC rfl));obtain⟨a,xs,rfl,a_,q⟩:=aM;cases bC with
|cons r qd=>
  cases qd
  cases r
  obtain⟨its,bV,pl,hz⟩:=bw.tuple a_;have wz:a<s1.heap.objs.size:=by obtain⟨o,aE,_⟩:=pl;exact cN aE
  refine aek (show s1.heap.IsTuple a its.toArray from pl) λh' he hit hsz ay=>wpAny_pyIter_enum he ?_
  refine⟨s1.heap.objs.size+1,[s1.heap.objs.size+1,s1.heap.objs.size],_,_,H1,rfl,bw.kept (t':=s1.toks) ay,agI a s1.heap.objs.size (s1.heap.objs.size+1) (Nat.succ_ne_self _) (ee wz) (ee (Nat.lt_succ_of_lt wz)),⟨⟨_,he⟩,hit⟩,λb ab=>?_,q⟩
  have jy:s1.heap.objs.size<=b:=by
   rcases ct.mp ab with rfl|ab
   ·exact ni _
   ·have:b=s1.heap.objs.size:=by simpa using ab
    rw[this];exact dw _
  exact bw.uu jy (bw.bT.fresh jy)
def ahg{K:br}{a:ak}{a5:ak->Prop}{H1:aA}{ts:List T}{vs:List V}(au:c6 K H1 a vs)(q:bp K a5 H1 ts vs):qM K (C7 K a) a5 H1 (enum ts) where
 go:=λi F H t aw d e=>by
  have ba:=(gZ.mp e).1;simp only[enum,eb,List.length_zipIdx] at ba;obtain⟨v,ae,_⟩:=q.get (g0 ba);exact⟨vs,v,aw.tup _ _ au,ae⟩
 ot:=λi F H t x ah aw d e y=>by
  obtain⟨p,v,az,rfl,rfl,y⟩:=y;have ba:=(gZ.mp e).1;simp only[enum,eb,List.length_zipIdx] at ba;obtain⟨lN,ae,aj⟩:=(q.aw aw).get (g0 ba);have a8:=y vs (aw.tup _ _ au);rw[ae] at a8;cases a8;have aU:=Ext.laid (o:=.tup [.int i,v]) d az;refine⟨F,aU,?_⟩;have bM:t=.tuple [.int i,ts[i]]:=by
   simp only[enum,jn,List.getElem?_zipIdx,g0 ba] at e;simpa using e.symm
  subst bM;simp only[Rep];exact⟨p,_,rfl,c6.of dN,bp.cons (by simp[Rep]) (bp.cons (aj.ext aU) bp.nil)⟩
 stop:=λi F H aw av=>⟨vs,aw.tup _ _ au,by
  simp only[enum,eb,List.length_zipIdx] at av;rw[<- q.length];exact av⟩
def S9(hm:X.mg "enumerate"=none)(aq:cK X a f)(bx:eP X "enumerate":=by rfl)(aC:bb [a] X.env=[(false,eval a X.env)]:=by rfl)(ia:bb [a] X.env=(false,eval a X.env)::bb [] X.env:=by rfl):
  pM X (.Tuple es k fl) (.Call (.Name "enumerate" p) [a] [] pos) (oz (kk f)):=CL (ai6 bx hm (iR aq jM ia) aC) λσ H R ⟨aG,aO,O,F,ε,ts,r,e,k⟩=>by
 simp only[oz,kk,dR,b0] at e;obtain⟨us,⟨t,bM,e⟩,rfl⟩:=e;split at e
 ·cases e
  refine⟨aG,aO,O,F,ε,_,r,bM,λv aF ah x q=>?_⟩
  simp only[Rep] at q;obtain⟨a,vs,rfl,aC,au⟩:=q;exact⟨a,vs,rfl,aC,k _ aF ah x (ahg aC au)⟩
 ·cases e
end
end
section
variable [cG]
structure Cl(P:cE)(w:b8)(K:br)(mg:Str->Option ag)(base:bI)(x:Str)(k n:Nat)(d:List T->Option T):Prop where
 ex:∃cY fd ps,fh P w K mg base fg k cY fd ps (spT K n d)/\mg x=some (.ref cY)/\nf K (.ref cY)=true/\Binds K fd ps []
section
variable {P:cE}{w:b8}{K:br}{mg:Str->Option ag}{base:bI}{x:Str}{k n:Nat}{d:List T->Option T}
theorem Cl.mono{j:Nat}(c:Cl P w K mg base x j n d)(h:j<=k):Cl P w K mg base x k n d:=by
 obtain⟨cY,fd,ps,F,r⟩:=c.ex;exact⟨cY,fd,ps,F.mono h,r⟩
def Cl.mk'{cY:ak}{fd:gi}{ps:List Str}(F:fh P w K mg base fg k cY fd ps (spT K n d))(m:mg x=some (.ref cY))(aw:nf K (.ref cY)=true)(b:Binds K fd ps []):Cl P w K mg base x k n d:=⟨cY,fd,ps,F,m,aw,b⟩
end
section
variable {X:bt}{k n:Nat}{d:List T->Option T}{x:Str}{p pos:Pos}{e:bz}{es:List bz}{aB:List bK}
def e8(C:Cl X.prog X.w X.K X.mg X.base x k n d)(au:dF k X.A)(aq:mF X (e::es) aB)(bx:eP X x:=by rfl)(aX:aB.length=n:=by rfl)(k0:(x==("__debug__":Str))=false:=by decide)
  (he:bb (e::es) X.env=(false,eval e X.env)::bb es X.env:=by rfl) (hpl:(c0 pos (bb es X.env)).any (·.1)=false:=by rfl):cK X (.Call (.Name x p) (e::es) [] pos) (aS d aB):=by
 obtain⟨cY,fd,ps,F,m,aw,b⟩:=C.ex;exact ajY F au bx m aw b aq aX k0 he hpl
def sW{i:Int}{t:Tok}(hm:X.mg x=some (.int i t))(bx:eP X x:=by rfl)(hd:(x==("__debug__":Str))=false:=by decide):cK X (.Name x pos) (aa (.int i)):=vI (v:=.int i) (R' (v:=.int i) bx hm ⟨t,rfl⟩ hd) λ_ _=>by simp[Rep]
noncomputable def Tz(scope sc:Scope)(N:List Str)(caps:List (Nat×Str)):Bool:=
 decide (scope.kind=.function) && scope.names.all (λy=>(decide (y.2≠.local) || decide (scope.names.lookup y.1=some .local)) && decide (y.2≠.cell) && (decide (y.2≠.free) || decide (sc.names.lookup y.1=some .cell) || decide (sc.names.lookup y.1=some .free)))
  && caps.all (λq=>decide (N[q.1]?=some q.2) && decide (scope.names.lookup q.2=some .free)) && decide ((caps.map (·.1)).Nodup)
def akz{scope sc:Scope}{own:List Str}{caps:List (Nat×Str)}(N:List Str)(zU:X.env.scope=sc)(c3:X.N=N)(ar:X.calm=true)(h:Tz scope sc N caps=true):rV X scope own caps:=by
 simp only[Tz,kJ,List.all_eq_true,decide_eq_true_eq,Bool.or_eq_true] at h;obtain⟨⟨⟨ae,aj⟩,a8⟩,b9⟩:=h;refine⟨ae,λy aV av=>?_,λy aV=>(aj y aV).1.2,λy aV hf=>?_,λq a_=>by rw[c3];exact a8 q a_,b9,ar⟩
 ·rcases (aj y aV).1.1 with z|z
  ·exact absurd av z
  ·exact z
 ·have ay:X.env.kindOf y.1=sc.names.lookup y.1:=by rw[<- zU];rfl
  rw[ay];rcases (aj y aV).2 with (z|z)|z
  ·exact absurd hf z
  ·exact .inl z
  ·exact .inr z
end
def ix{P:cE}{w:b8}{K:br}{mg:Str->Option ag}{base:bI}{x:Str}{st:Stmt}{f:ak}{fd:gi}{N ps:List Str}{k:Nat}{b:bD}(F:cW K x x st f fd)(S:c' N ps (cb st))(bd:Binds K fd ps [])(m:mg x=some (.ref f))
  (ab:∀(cX:ag) (A:cU) (outer:List Env) (s:aK) (H:aA) (E:gU),dF k (A.deeper (envOfC x (cb st) s.heap.objs.size f cX)) ->
   iW (jX fg P w K mg base N x (cb st) f cX A outer s H E).kD (hK st) b):Cl P w K mg base x (k+1) ps.length (cV b N.length):=.mk' (Ta F S ab) m F.aw bd
end
end D
end
section
namespace bG
open PySem PySem.Spec PyProof.Rows
section
variable {eY:Type}[DecidableEq eY]
noncomputable def j'(kvs:List (eY×V))(k:eY):Option V:=(kvs.find? λbU=>decide (bU.1=k)).map (·.2)
noncomputable def putK(kvs:List (eY×V))(k:eY)(v:V):List (eY×V):=
 if (kvs.any λbU=>decide (bU.1=k))=true then kvs.map (λbU=>if bU.1=k then (bU.1,v) else bU) else kvs++[(k,v)]
def Ki{p:eY×V}{r:List (eY×V)}{k:eY}(e:p.1=k):j' (p::r) k=some p.2:=by simp[j',ml,e]
def Kj{p:eY×V}{r:List (eY×V)}{k:eY}(e:¬p.1=k):j' (p::r) k=j' r k:=by simp[j',ml,e]
theorem Rq(k:eY):∀kvs:List (eY×V),(kvs.any λbU=>decide (bU.1=k))=(j' kvs k).isSome
| []=>rfl
|p::r=>by
  rw[List.any_cons];by_cases e:p.1=k
  ·simp only[Ki e,decide_eq_true e,Bool.true_or,Option.isSome_some]
  ·rw[Kj e,decide_eq_false e,Bool.false_or];exact Rq k r
def JG(kvs:List (eY×V))(k:eY)(v:V):(putK kvs k v).length<=kvs.length+1:=by
 unfold putK;split
 ·rw[eb];omega
 ·rw[jI,eJ,ke];omega
def kq.GH{o:Option V}{u:Option ag}(r:kq o u):o.isSome=u.isSome:=by
 cases o with
|none=>cases u with
  |none=>rfl
  |some _=>exact (show False from r).elim
|some _=>cases u with
  |none=>exact (show False from r).elim
  |some _=>rfl
def fB.val{kvs:List (eY×V)}{vs:List (eY×ag)}(r:fB kvs vs)(k:eY):kq (j' kvs k) (valueAt vs k):=by
 unfold fB at r
 induction r with
|nil=>exact True.intro
| @cons p q ps lJ h t bc=>
  obtain⟨ae,aj⟩:=h;by_cases e:p.1=k
  ·have bg:q.1=k:=ae.symm.trans e;have b:valueAt (q::lJ) k=some q.2:=by simp[valueAt,ml,bg]
   rw[Ki e,b];exact aj
  ·have bg:¬q.1=k:=λz=>e (ae.trans z);have b:valueAt (q::lJ) k=valueAt lJ k:=by simp[valueAt,ml,bg]
   rw[Kj e,b];exact bc
theorem fB.any{kvs:List (eY×V)}{vs:List (eY×ag)}(r:fB kvs vs)(k:eY):(kvs.any λbU=>decide (bU.1=k))=vs.any λbU=>decide (bU.1=k):=by
 unfold fB at r
 induction r with
|nil=>rfl
|cons h t bc=>rw[List.any_cons,List.any_cons,bc,h.1]
def fB.IA{kvs:List (eY×V)}{vs:List (eY×ag)}(r:fB kvs vs)(k:eY){y:V}{u:ag}(bO:RelV y u):
  fB (kvs.map λbU=>if bU.1=k then (bU.1,y) else bU) (vs.map λbU=>if bU.1=k then (bU.1,u) else bU):=by
 unfold fB at r ⊢
 induction r with
|nil=>exact .nil
| @cons p q ps lJ h t bc=>
  rw[cP,cP];refine .cons ?_ bc;obtain⟨ae,aj⟩:=h;by_cases e:p.1=k
  ·rw[if_pos e,if_pos (ae.symm.trans e)];exact⟨ae,bO⟩
  ·rw[if_neg e,if_neg (λz=>e (ae.trans z))];exact⟨ae,aj⟩
def fB.put{kvs:List (eY×V)}{vs:List (eY×ag)}(r:fB kvs vs)(k:eY){y:V}{u:ag}(bO:RelV y u):fB (putK kvs k y) (stored vs k u):=by
 unfold putK stored;rw[r.any k];by_cases e:(vs.any λbU=>decide (bU.1=k))=true
 ·rw[if_pos e,if_pos e];exact r.IA k bO
 ·rw[if_neg e,if_neg e];exact Paired.snoc r ⟨rfl,bO⟩
theorem fB.length{kvs:List (eY×V)}{vs:List (eY×ag)}(r:fB kvs vs):kvs.length=vs.length:=Paired.length r
end
def vM{P:cE}{w:b8}{k:Key}{u:ag}(r:RelV (dA k) u):(fM P w).is k u=true:=by
 cases k with
|inl i=>obtain⟨t,e⟩:=(show ∃t,u=Value.int i t from r);subst e;exact JE P w i t
|inr x=>obtain⟨t,e⟩:=(show ∃t,u=Value.str x t from r);subst e;exact JD P w x t
theorem QW{P:cE}{w:b8}:∀{aH:List Key} {us:List ag},Vals (aH.map dA) us->ItemsAre (fM P w) aH us
| [],_,r=>by rw[kI] at r;cases r;exact .nil
|k::aH,_,r=>by
  rw[cP] at r;cases r with
  |cons h t=>exact .cons (vM h) (QW t)
abbrev KT(H:aA):List (List Key×V)->List (List Key×ak×ag)->Prop:=Paired λp q=>p.1=q.1/\H q.2.1=some (.tup (p.1.map dA))/\RelV p.2 q.2.2
def KT.val{H:aA}{kvs:List (List Key×V)}{xs:List (List Key×ak×ag)}(r:KT H kvs xs)(k:List Key):kq (j' kvs k) ((atKey xs k).map (·.2)):=by
 induction r with
|nil=>exact True.intro
| @cons p q ps lJ h t bc=>
  obtain⟨ae,_,aj⟩:=h;by_cases e:p.1=k
  ·have bg:q.1=k:=ae.symm.trans e;have b:atKey (q::lJ) k=some q.2:=by simp[atKey,ml,bg]
   rw[Ki e,b];exact aj
  ·have bg:¬q.1=k:=λz=>e (ae.trans z);have b:atKey (q::lJ) k=atKey lJ k:=by simp[atKey,ml,bg]
   rw[Kj e,b];exact bc
def KT.IA{H:aA}{kvs:List (List Key×V)}{xs:List (List Key×ak×ag)}(r:KT H kvs xs)(k:List Key){y:V}{u:ag}(bO:RelV y u):
  KT H (kvs.map λbU=>if bU.1=k then (bU.1,y) else bU) (xs.map (putAt k u)):=by
 induction r with
|nil=>exact .nil
| @cons p q ps lJ h t bc=>
  rw[cP,cP];refine .cons ?_ bc;obtain⟨ae,aj,a8⟩:=h;unfold putAt;by_cases e:p.1=k
  ·rw[if_pos e,if_pos (ae.symm.trans e)];exact⟨ae,aj,bO⟩
  ·rw[if_neg e,if_neg (λz=>e (ae.trans z))];exact⟨ae,aj,a8⟩
def KT.put{H:aA}{kvs:List (List Key×V)}{xs:List (List Key×ak×ag)}(r:KT H kvs xs)(k:List Key){b:ak}{y:V}{u:ag}(ab:H b=some (.tup (k.map dA)))(bO:RelV y u):
  KT H (putK kvs k y) (storedH xs k b u):=by
 have e:(kvs.any λbU=>decide (bU.1=k))=(atKey xs k).isSome:=by
  rw[Rq,(r.val k).GH,Option.isSome_map]
 unfold putK storedH;rw[e];by_cases q:(atKey xs k).isSome=true
 ·rw[if_pos q,if_pos q];exact r.IA k bO
 ·rw[if_neg q,if_neg q];exact Paired.snoc r ⟨rfl,ab,bO⟩
def KT.keeps{H ah:aA}{kvs:List (List Key×V)}{xs:List (List Key×ak×ag)}(r:KT H kvs xs)(bo:∀b ys,H b=some (.tup ys)->ah b=some (.tup ys)):KT ah kvs xs:=
 Paired.HQ r λ_ _ z=>⟨z.1,bo _ _ z.2.1,z.2.2⟩
section
variable {P:cE}{w:b8}{H:aA}{h:bI}{a:ak}
def To{u:ey}(ok:fA P w H h)(e:f' H a u):hv P w H h a u:=e.ok ok
def CX{kvs:List (Key×V)}(ok:fA P w H h)(e:f' H a (.dP kvs)):kvs.length<=cB/\(a==sysModules)=false/\∃vs,fB kvs vs/\h.DictOf (fM P w) a vs:=
 show hv P w H h a (.dP kvs) from To ok e
def Tx{kvs:List (Key×V)}(ok:fA P w H h)(e:H a=some (.dP kvs)):kvs.length<=cB/\(a==sysModules)=false/\∃vs,fB kvs vs/\h.DictOf (fM P w) a vs:=CX ok (.inl e)
def CH{aH:List Key}(ok:fA P w H h)(e:H a=some (.tup (aH.map dA))):(tupleKind (fM P w)).is h aH a:=by
 obtain⟨_,its,r,o,ae,aj,n,a8⟩:=(show hv P w H h a (.tup (aH.map dA)) from ok a _ e);exact⟨o,its.toArray,n,ae,aj,(Prod.mk.inj a8).1,by simpa using QW r⟩
def CW{kvs:List (List Key×V)}(ok:fA P w H h)(e:f' H a (.nP kvs)):kvs.length<=cB/\(a==sysModules)=false /\
  ∃xs,KT H kvs xs/\h.DictOfH (tupleKind (fM P w)) a xs:=by
 obtain⟨z,y,xs,r,o,es,ep,ae,aj,a8,b9,gE⟩:=(show hv P w H h a (.nP kvs) from To ok e);refine⟨z,y,xs,r,o,es,ep,ae,aj,a8,b9,λx hx=>?_,gE⟩;have all:∀{l:List (List Key×V)} {m:List (List Key×ak×ag)},KT H l m->∀x∈m,(tupleKind (fM P w)).is h x.1 x.2.1:=by
  intro l m q
  induction q with
  |nil=>intro x hx;exact nomatch hx
  | @cons p q ps lJ a_ t bc=>
   intro x hx;rcases ct.mp hx with e|hx
   ·subst e;exact CH ok (by rw[<- a_.1];exact a_.2.1)
   ·exact bc x hx
 exact all r x hx
def ale{kvs:List (List Key×V)}(ok:fA P w H h)(e:H a=some (.nP kvs)):kvs.length<=cB/\(a==sysModules)=false /\
  ∃xs,KT H kvs xs/\h.DictOfH (tupleKind (fM P w)) a xs:=CW ok (.inl e)
end
noncomputable def mD(H:aA)(a:ak)(y:V)(r:Option V):Prop:=
 (∃kvs k,f' H a (.dP kvs)/\y=dA k/\r=j' kvs k)\/∃kvs k b,f' H a (.nP kvs)/\y=.ref b/\H b=some (.tup (k.map dA))/\r=j' kvs k
noncomputable def qI(H:aA)(a:ak)(y v:V)(ah:aA):Prop:=
 (∃kvs k,H a=some (.dP kvs)/\y=dA k/\kvs.length<cB/\ah=upd H a (.dP (putK kvs k v))) \/
 ∃kvs k b,H a=some (.nP kvs)/\y=.ref b/\H b=some (.tup (k.map dA))/\kvs.length<cB/\ah=upd H a (.nP (putK kvs k v))
theorem mD.k{H:aA}{a:ak}{kvs:List (Key×V)}{k:Key}(e:H a=some (.dP kvs)):mD H a (dA k) (j' kvs k):=.inl ⟨kvs,k,.inl e,rfl,rfl⟩
theorem qI.k{H:aA}{a:ak}{kvs:List (Key×V)}{k:Key}{v:V}(e:H a=some (.dP kvs))(av:kvs.length<cB):qI H a (dA k) v (upd H a (.dP (putK kvs k v))):=.inl ⟨kvs,k,e,rfl,av,rfl⟩
section
variable {X:bt}{ai:List (ak×Obj)}{σ:St}{H:aA}{s:aK}{a:ak}{y v:V}{u r:ag}{o:Option V}{A:cU}{E:ag->aK->Prop}
def Inv.big(I:Inv X ai σ H s):sysModules<s.heap.objs.size:=by
 have h:il<s.heap.objs.size:=(I.mod.glob.keeps I.gC).lt;exact Nat.lt_trans (by decide) h
def Q5{Q:ag->aK->Prop}(bH:A.units+1<cLine)(I:Inv X ai σ H s)(g:mD H a y (some v))(bO:RelV y u)(h:∀dv s',Inv X ai σ H s'->RelV v dv->Q dv s'):
  a6 (bS X.prog X.w) A (getItem (.ref a) u) Q E s:=by
 rcases g with ⟨kvs,k,e,e2,l⟩|⟨kvs,k,b,e,e2,dQ,l⟩
 ·subst e2;obtain⟨z,hd,vs,rel,e0⟩:=CX I.bT e;obtain⟨dv,hw,jj⟩:=kq.some_of (v:=v) (o:=valueAt vs k) (by rw[l];exact rel.val k);exact wpAny_getItem_of (vM bO) e0.mapOf hw (h dv _ (I.tok _) jj)
 ·subst e2;cases (show u=Value.ref b from bO);obtain⟨z,hd,xs,rel,e0⟩:=CW I.bT e;obtain⟨dv,hw,jj⟩:=kq.some_of (v:=v) (o:=(atKey xs k).map (·.2)) (by rw[l];exact rel.val k);obtain⟨p,az,oV⟩:=dR.mp hw;refine wpAny_getItem_heap (tupleKind_room_in1 bH) (CH I.bT dQ) e0 az ?_;rw[oV];exact h dv _ (I.tok _) jj
def ajy{Q:ag->aK->Prop}(bH:A.units+1<cLine)(I:Inv X ai σ H s)(g:mD H a y o)(bO:RelV y u)(h:∀s',Inv X ai σ H s'->Q (.bool (!o.isSome)) s'):
  a6 (bS X.prog X.w) A (iQ .NotIn u (.ref a)) Q E s:=by
 rcases g with ⟨kvs,k,e,e2,l⟩|⟨kvs,k,b,e,e2,dQ,l⟩
 ·subst e2;obtain⟨z,hd,vs,rel,e0⟩:=CX I.bT e;refine wpAny_notIn_of (vM bO) hd e0.mapOf ?_;rw[<- (rel.val k).GH,<- l];exact h _ (I.tok _)
 ·subst e2;cases (show u=Value.ref b from bO);obtain⟨z,hd,xs,rel,e0⟩:=CW I.bT e;refine wpAny_notIn_heap (tupleKind_room_in1 bH) (CH I.bT dQ) hd e0 ?_;have q:=(rel.val k).GH;rw[Option.isSome_map] at q;rw[<- q,<- l];exact h _ (I.tok _)
def K2{h':bI}{t':Nat}{dY:ey}(I:Inv X ai σ H s)(lE:vU (H a))(aC:Heap.SameBut a s.heap h')(he:∃q,h'.get? a=some q)(new:hv X.prog X.w (upd H a dY) h' a dY):
  Inv X ai σ (upd H a dY) {s with heap:=h',toks:=t'}:=
 I.write (x:=a) (e:=a) lE (.inl rfl) (λb q ab z=>(aC.2 b ab).trans z) he new
def Tb{P:cE}{w:b8}{ah:aA}{h':bI}{kvs:List (Key×V)}{vs:List (Key×ag)}(z:kvs.length<=cB)(hd:(a==sysModules)=false)(rel:fB kvs vs)(e0:h'.DictOf (fM P w) a vs):
  hv P w ah h' a (.dP kvs):=⟨z,hd,vs,rel,e0⟩
def Q4{ah:aA}{Q:Unit->aK->Prop}(bH:A.units+1<cLine)(I:Inv X ai σ H s)(g:qI H a y v ah)(bO:RelV y u)(bV:RelV v r)(h:∀s',Inv X ai σ ah s'->Q () s'):
  a6 (bS X.prog X.w) A (setItem (.ref a) u r) Q E s:=by
 rcases g with ⟨kvs,k,e,e2,l,ET⟩|⟨kvs,k,b,e,e2,dQ,l,ET⟩
 ·subst e2 ET;obtain⟨z,hd,vs,rel,e0⟩:=Tx I.bT e;have hz:vs.length<=cB:=by rw[<- rel.length];exact z
  have av:(putK kvs k v).length<=cB:=by have:=JG kvs k v;omega
  refine wpAny_setItem_pairs (hsz:=hz) (vM bO) e0 λh' si aC=>h _ ?_
  have he:∃q,h'.get? a=some q:=let ⟨q,_,_,a_,_⟩:=si;⟨q,a_⟩;exact K2 I (by rw[e];exact True.intro) aC he (Tb av hd (rel.put k bV) si)
 ·subst e2 ET;cases (show u=Value.ref b from bO);obtain⟨z,hd,xs,rel,e0⟩:=ale I.bT e;have hz:xs.length<=cB:=by rw[<- Paired.length rel];exact z
  have av:(putK kvs k v).length<=cB:=by have:=JG kvs k v;omega
  refine wpAny_setItem_heap (hsz:=hz) (tupleKind_room_in1 bH) (CH I.bT dQ) e0 λh' si aC=>h _ ?_
  obtain⟨q,es,ep,a_,aj,a8,b9,_,gE⟩:=si;refine K2 I (by rw[e];exact True.intro) aC ⟨q,a_⟩ ⟨av,hd,_,(rel.put k dQ bV).keeps λc ys hQ=>?_,q,es,ep,a_,aj,a8,b9,gE⟩;rw[cI (ak_ hQ e (λz=>nomatch z))];exact hQ
end
def yP(i:bz):Prop:=∀e5 al3,subscripted i false e5 al3=operate [e5,al3] (getItem e5 al3)
def aiK{prog:cE}{w:b8}{A:cU}{E:ag->aK->Prop}{s:aK}{env:Env}{value slice:bz}{pos:Pos}{T id:String}{Q:ag->aK->Prop}
  (av:typeLookup (.type T) "__getitem__"=pure (some (.builtin id))) (aC:yP slice)
  (h:a6 (bS prog w) A (eval value env) (λo dc=>a6 (bS prog w) A (eval slice env) (λi m8=>m8.TypeIs o T/\a6 (bS prog w) A (getItem o i) Q E m8) E dc) E s):
  a6 (bS prog w) A (eval (.Subscript value slice pos) env) Q E s:=by
 refine Subscript_ (gj h (λo dc gf=>gj gf (λi m8 j1=>?_) λ_ _ x=>x) λ_ _ x=>x)
 obtain⟨cL,j1⟩:=j1;unfold subscriptTail;refine aT ?_;rw[getitemInPython_of_ne cL.not_modules];refine aT (wpAny_specialOf cL av ?_);have fin:a6 (bS prog w) A (subscripted slice false o i) (λr uU=>a6 (bS prog w) A (letTemporaryGo value o r >>= λ_=>pure r) Q E uU) E m8:=by
  rw[aC o i];exact wpAny_operating (gj j1 (λr uU ic=>aT (wpAny_letTemporaryGo (cy ic))) λ_ _ x=>x)
 first
  |exact cy (aT fin)
  |exact aT (cy (aT fin))
  |exact aT fin
def afL{X:bt}{ai:List (ak×Obj)}{σ:St}{H:aA}{s:aK}{a:ak}{y:V}{o:Option V}(I:Inv X ai σ H s)(g:mD H a y o):s.TypeIs (.ref a) "dict":=by
 rcases g with ⟨kvs,k,e,_,_⟩|⟨kvs,k,b,e,_,_,_⟩
 ·obtain⟨_,_,vs,_,e0⟩:=CX I.bT e;exact e0.typeIs
 ·obtain⟨_,_,xs,_,e0⟩:=CW I.bT e;exact e0.typeIs
noncomputable def akO(kH ty:TE):TE:=λσ H Q=>kH σ H λx H1=>ty σ H1 λy bf=>∃a v,x=.ref a/\mD bf a y (some v)/\Q v bf
noncomputable def R0(ty kH:TE):TE:=λσ H Q=>ty σ H λy H1=>kH σ H1 λx bf=>∃a o,x=.ref a/\mD bf a y o/\Q (.c8 (!o.isSome)) bf
noncomputable def akT(kH ty hg:TE):gT:=λD σ H=>hg σ H λv H1=>kH σ H1 λx bf=>ty σ bf λy eQ=>∃a jt,x=.ref a/\qI eQ a y v jt/\D.bR σ jt
noncomputable def akU(kH ty hg:TE)(ji:V->V->aA->dj->Prop):gT:=λD σ H=>kH σ H λx H1=>ty σ H1 λy bf=>∃a v,x=.ref a/\mD bf a y (some v) /\
 hg σ bf λxF eQ=>ji v xF eQ λz jt=>∃kR,qI jt a y z kR/\D.bR σ kR
section
variable {X:bt}{o i e value:bz}{pos pos' IW:Pos}{kH ty hg:TE}
def Sa(bH:X.A.units+1<cLine)(aE:b3 X o kH)(ba:b3 X i ty)(aC:yP i):b3 X (.Subscript o i pos) (akO kH ty):=by
 intro ai s σ H Q I h;refine aiK PySem.F.slot_dict_getitem.lookup aC (cD (aE ai s σ H _ I h) λu s1 ⟨x,H1,bw,aY,aM⟩=>cD (ba ai s1 σ H1 _ bw aM) λal3 s2 ⟨y,bf,ck,bO,a,v,ex,g,a9⟩=>?_);subst ex;obtain rfl:u=Value.ref a:=aY;exact⟨afL ck g,Q5 bH ck g bO λdv s3 dU jj=>⟨v,bf,dU,jj,a9⟩⟩
def agZ(bH:X.A.units+1<cLine)(ba:b3 X i ty)(aE:b3 X o kH):vY X .NotIn i o (R0 ty kH):=by
 intro ai s σ H Q I h;refine cD (ba ai s σ H _ I h) λal3 s1 ⟨y,H1,bw,bO,aM⟩=>cD (aE ai s1 σ H1 _ bw aM) λu s2 ⟨x,bf,ck,aY,a,e5,ex,g,a9⟩=>?_;subst ex;obtain rfl:u=Value.ref a:=aY;exact ajy bH ck g bO λs3 dU=>⟨.c8 (!e5.isSome),bf,dU,rfl,a9⟩
def R9(bH:X.A.units+1<cLine)(aE:b3 X o kH)(ba:b3 X i ty)(a4:b3 X value hg)(aC:iu value (some (.Subscript o i pos')) pos.line X.env=pure false):
  ko X (.Assign [.Subscript o i pos'] value pos) (akT kH ty hg):=by
 intro ai s σ H D I h;refine wpAny_Assign_Subscript (cD (a4 ai s σ H _ I h) λr s1 ⟨v,H1,bw,bV,aM⟩=>cD (aE ai s1 σ H1 _ bw aM) λu s2 ⟨x,bf,ck,aY,a9⟩=>cD (ba ai s2 σ bf _ ck a9) λal3 s3 ⟨y,eQ,dU,bO,a,jt,ex,g,c5⟩=>?_) aC;subst ex;obtain rfl:u=Value.ref a:=aY;exact Q4 bH dU g bO bV λs4 nD=>⟨σ,jt,nD,c5⟩
def ai4{op:Operator}{ji:V->V->aA->dj->Prop}(bH:X.A.units+1<cLine)(aE:b3 X o kH)(ba:b3 X i ty)(a4:b3 X value hg)(ama:C6 X op ji)
  (aq:∀e5 al3 new,augStore i e5 al3 new=(do holding [new,e5,al3] (setItem e5 al3 new);release [new,e5,al3] [];pure .next)):ko X (.AugAssign (.Subscript o i IW) op value pos) (akU kH ty hg ji):=by
 intro ai s σ H D I h;refine wpAny_AugAssign_SubscriptAny (cD (aE ai s σ H _ I h) λu s1 ⟨x,H1,bw,aY,aM⟩=>cD (ba ai s1 σ H1 _ bw aM) λal3 s2 ⟨y,bf,ck,bO,a,v,ex,g,a9⟩=>?_) aq;subst ex;obtain rfl:u=Value.ref a:=aY;refine Q5 bH ck g bO λdv s3 dU jj=>cD (a4 ai s3 σ bf _ dU a9) λnc s4 ⟨xF,eQ,nD,acy,c5⟩=>cD (ama ai s4 σ eQ v xF dv nc _ nD jj acy c5) λrj s5 ⟨z,jt,rZ,IC,kR,ky,j4⟩=>?_;exact Q4 bH rZ ky bO IC λkE vS=>⟨σ,kR,vS,j4⟩
end
def aix{P:cE}{w:b8}{H:aA}(h:bI)(ab:sysModules<h.objs.size):hv P w H (h.push {cls:=.type "dict",data:=.dict #[]}) h.objs.size (.dP []):=
 ⟨k9 _,beq_eq_false_iff_ne.mpr (Ne.symm (ee ab)),[],.nil,Heap.DictOf.new h⟩
noncomputable def K7:List (TE×TE)->St->aA->(List (V×V)->aA->Prop)->Prop
  | [],_,H,Q=>Q [] H
  | (tk,hg)::r,σ,H,Q=>tk σ H λx H1=>hg σ H1 λy bf=>K7 r σ bf λps eQ=>Q ((x,y)::ps) eQ
abbrev LO:List (V×V)->List (ag×ag)->Prop:=Paired λp q=>RelV p.1 q.1/\RelV p.2 q.2
noncomputable def yR(X:bt)(pos:Pos)(keys:List (Option bz))(values:List bz)(qf:List (TE×TE)):Prop:=
 ∀(ai:List (ak×Obj)) (s:aK) (σ:St) (H:aA) (Q:List (V×V)->aA->Prop),Inv X ai σ H s->K7 qf σ H Q ->
  a6 (bS X.prog X.w) X.A (evalPairs (pairTrees keys values X.env pos)) (λvs s'=>∃ps ah,Inv X ai σ ah s'/\LO ps vs/\Q ps ah) X.d3 s
def ai5{X:bt}{pos:Pos}:yR X pos [] [] []:=λai s σ H Q I h=>pairTrees_nil_walk ⟨[],H,I,.nil,h⟩
def ah4{X:bt}{pos:Pos}{k v:bz}{aH:List (Option bz)}{vs:List bz}{tk hg:TE}{qf:List (TE×TE)}(ay:b3 X k tk)(a4:b3 X v hg)(au:yR X pos aH vs qf):
  yR X pos (some k::aH) (v::vs) ((tk,hg)::qf):=λai s σ H Q I h=>
 pairTrees_cons_walk (cD (ay ai s σ H _ I h) λu s1 ⟨x,H1,bw,aY,aM⟩=>cD (a4 ai s1 σ H1 _ bw aM) λnc s2 ⟨y,bf,ck,bO,a9⟩=>
  cD (au ai s2 σ bf _ ck a9) λws s3 ⟨ps,eQ,dU,rel,c5⟩=>⟨(x,y)::ps,eQ,dU,.cons ⟨aY,bO⟩ rel,c5⟩)
noncomputable def tR(kvs more:List (Key×V)):List (Key×V):=more.foldl (λacc bU=>putK acc bU.1 bU.2) kvs
def fB.merge:∀{more:List (Key×V)} {rs:List (Key×ag)} {kvs:List (Key×V)} {vs:List (Key×ag)},fB more rs->fB kvs vs->fB (tR kvs more) (merged vs rs):=by
 intro more rs kvs vs r;unfold fB at r
 induction r generalizing kvs vs with
|nil=>intro q;exact q
| @cons p q ps lJ h t bc=>
  intro n6;have e:fB (putK kvs p.1 p.2) (stored vs q.1 q.2):=by
   have:=n6.put p.1 h.2;rw[<- h.1];exact this
  exact bc e
theorem Pt:∀(more kvs:List (Key×V)),(tR kvs more).length<=kvs.length+more.length
| [],kvs=>by show kvs.length<=kvs.length+0;omega
|p::r,kvs=>by
  have ae:=Pt r (putK kvs p.1 p.2);have aj:=JG kvs p.1 p.2;show (tR (putK kvs p.1 p.2) r).length<=_;rw[eJ];omega
theorem Qu{P:cE}{w:b8}:∀{kvs:List (Key×V)} {ws:List (ag×ag)},LO (kvs.map λbU=>(dA bU.1,bU.2)) ws->∃rs,Carries (fM P w) ws rs/\fB kvs rs
| [],_,r=>by rw[kI] at r;cases r;exact⟨[],True.intro,.nil⟩
|p::kvs,_,r=>by
  rw[cP] at r;cases r with
  | @cons a b as bs h t=>
   obtain⟨rs,c,q⟩:=Qu (P:=P) (w:=w) t;obtain⟨b1,b2⟩:=b;exact⟨(p.1,b2)::rs,⟨vM h.1,rfl,c⟩,.cons ⟨rfl,h.2⟩ q⟩
noncomputable def akN(qf:List (TE×TE)):TE:=λσ H Q=>∀p,H p=none->K7 qf σ (upd H p (.dP [])) λps bf=>bf p=some (.dP [])/\∃kvs:List (Key×V),ps=kvs.map (λbU=>(dA bU.1,bU.2))/\kvs.length<=15/\Q (.ref p) (upd bf p (.dP (tR [] kvs)))
def ai_{X:bt}{pos:Pos}{keys:List (Option bz)}{values:List bz}{qf:List (TE×TE)}(h:yR X pos keys values qf)(wA:keys.all (·.isSome)=true)(av:keys.length=values.length)(h0:keys≠[])
  (X4:keys.length<=15):b3 X (.Dict keys values pos) (akN qf):=by
 intro ai s σ H Q I q;have aX:=I.bT.fresh (dw s.heap.objs.size);have bw:=I.laid (a:=s.heap.objs.size) (o:=.dP []) (h':=s.heap.push {cls:=.type "dict",data:=.dict #[]}) (t':=s.toks) (λ_ _ q=>cT _ q) (dw _) (aix s.heap I.big);refine wpAny_Dict_walk (knd:=fM X.prog X.w) wA av h0 X4 (cD (h ai _ σ _ _ bw (q _ aX)) λws s2 ⟨ps,bf,ck,rel,e,kvs,ep,lk,a9⟩=>?_);subst ep;obtain⟨rs,c,o1⟩:=Qu (P:=X.prog) (w:=X.w) rel;obtain⟨z,hd,alY,n6,e0⟩:=Tx ck.bT e;cases n6;refine⟨rs,c,e0,λh' si aC=>⟨.ref s.heap.objs.size,_,?_,rfl,a9⟩⟩;have hz:(tR [] kvs).length<=cB:=by
  have ae:=Pt kvs [];rw[ke] at ae;rw[h1];omega
 have he:∃q,h'.get? s.heap.objs.size=some q:=let ⟨q,_,_,a_,_⟩:=si;⟨q,a_⟩;exact K2 ck (by rw[e];exact True.intro) aC he (Tb hz hd (o1.merge .nil) si)
end bG
end
section
namespace D
open PySem PySem.Spec PyProof.Rows bG
variable [cG]
def ako{K:br}{F:ak->Prop}{H:aA}{a:ak}{o o':ey}(aX:¬F a)(aq:H a=some o)(ay:(∃xs,o=.lst xs)\/∃xs,o=.dP xs):d6 K F H F (upd H a o'):=by
 refine⟨λb xs q=>?_,λb xs f q=>⟨f,?_⟩⟩
 ·rcases q with q|q
  ·refine .inl ?_
   have nb:b≠a:=by
    rintro rfl;rcases q with q|⟨_,q⟩
    ·rw[aq] at q;cases q;rcases ay with ⟨_,z⟩|⟨_,z⟩ <;> cases z
    ·rw[aq] at q;cases q;rcases ay with ⟨_,z⟩|⟨_,z⟩ <;> cases z
   rcases q with q|⟨u,q⟩
   ·exact .inl (by rw[cI nb];exact q)
   ·exact .inr ⟨u,by rw[cI nb];exact q⟩
  ·exact .inr q
 ·have nb:b≠a:=by
   rintro rfl;exact aX f
  rcases q with q|⟨u,q⟩
  ·exact .inl (by rw[cI nb];exact q)
  ·exact .inr ⟨u,by rw[cI nb];exact q⟩
section
variable {K:br}{F:ak->Prop}{H:aA}
theorem dE.any{k:D.Key}:∀{kvs:List (D.Key×T)} {vs:List (D.Key×V)},dE K F H kvs vs->nZ kvs k=(j' vs k).isSome
| [],vs,h=>by
  have:vs=[]:=h;subst this;rfl
|p::r,vs,h=>by
  obtain⟨v,w,rfl,q,z⟩:=h;have bc:=dE.any (k:=k) z;simp only[nZ,List.any_cons,j',ml] at bc ⊢;by_cases e:p.1=k
  ·simp[e]
  ·simp[e,bc]
theorem dE.get{k:D.Key}{t:T}:∀{kvs:List (D.Key×T)} {vs:List (D.Key×V)},dE K F H kvs vs->D.getD kvs k=some t->∃v,j' vs k=some v/\Rep K F H t v
| [],vs,h,e=>by cases e
|p::r,vs,h,e=>by
  obtain⟨v,w,rfl,q,z⟩:=h;simp only[D.getD,j',ml] at e ⊢;by_cases bg:p.1=k
  ·simp[bg] at e ⊢;subst e;exact q
  ·simp[bg] at e ⊢;have:=dE.get (k:=k) (t:=t) z (by simpa [D.getD] using e);simpa [j'] using this
theorem dE.length:∀{kvs:List (D.Key×T)} {vs:List (D.Key×V)},dE K F H kvs vs->kvs.length=vs.length
| [],vs,h=>by
  have:vs=[]:=h;subst this;rfl
|p::r,vs,h=>by
  obtain⟨v,w,rfl,q,z⟩:=h;simp[dE.length z]
theorem dE.append:∀{kvs us:List (D.Key×T)} {vs ws:List (D.Key×V)},dE K F H kvs vs->dE K F H us ws->dE K F H (kvs++us) (vs++ws)
| [],us,vs,ws,h,r=>by
  have:vs=[]:=h;subst this;exact r
|p::q,us,vs,ws,h,r=>by
  obtain⟨v,w,rfl,d2,z⟩:=h;exact⟨v,w++ws,rfl,d2,dE.append z r⟩
theorem dE.HR{k:D.Key}{t:T}{v:V}:∀{kvs:List (D.Key×T)} {vs:List (D.Key×V)},dE K F H kvs vs->Rep K F H t v->dE K F H (kvs.map λp=>if p.1=k then (k,t) else p) (vs.map λbU=>if bU.1=k then (bU.1,v) else bU)
| [],vs,h,q=>by
  have:vs=[]:=h;subst this;rfl
|p::r,vs,h,q=>by
  obtain⟨lN,w,rfl,d2,z⟩:=h;simp only[cP];by_cases e:p.1=k
  ·rw[if_pos e,if_pos e];exact⟨v,_,by rw[e],q,dE.HR z q⟩
  ·rw[if_neg e,if_neg e];exact⟨lN,_,rfl,d2,dE.HR z q⟩
def dE.put{k:D.Key}{t:T}{v:V}{kvs:List (D.Key×T)}{vs:List (D.Key×V)}(h:dE K F H kvs vs)(q:Rep K F H t v):dE K F H (putD kvs k t) (putK vs k v):=by
 have aq:(kvs.any λp=>decide (p.1=k))=(vs.any λbU=>decide (bU.1=k)):=by
  clear q
  induction kvs generalizing vs with
  |nil=>
   have:vs=[]:=h;subst this;rfl
  |cons p r bc=>
   obtain⟨v,w,rfl,d2,z⟩:=h;simp only[List.any_cons,bc z]
 unfold putD putK;rw[aq];split
 ·exact dE.HR h q
 ·exact h.append ⟨v,[],rfl,q,rfl⟩
def ox{t:T}{k:D.Key}{v:V}{O:ak->Prop}(e:keyOf t=some k)(r:gA K O F H t v):v=dA k:=by
 unfold keyOf at e;split at e
 ·cases e
  exact r.int
 ·cases e
  exact r.str
 ·cases e
def RO{i:Nat}{ε:Ev}{kvs:List (D.Key×T)}(h:dic? i ε=some kvs):ε[i]?=some (some (.fD kvs)):=by
 unfold dic? at h;split at h
 ·cases h
  assumption
 ·cases h
end
section
variable {X:bt}{a b e:bz}{f g:bK}{pos:Pos}
def Cy{aG O F:ak->Prop}{aO:gS}{H:aA}{ε:Ev}{σ:bG.St}{i:Nat}{kvs:List (D.Key×T)}(r:cH X.K aG aO O F H ε σ)(h:dic? i ε=some kvs):
  ∃p vs,σ[i]?=some (some (.ref p))/\¬F p/\O p/\H p=some (.dP vs)/\dE X.K F H kvs vs:=by
 obtain⟨v,ae,p,vs,rfl,n,o,cq,au⟩:=r.val _ _ (RO h);exact⟨p,vs,ae,n,o,cq,au⟩
def ajA{neg:Bool}{i:Nat}{R:TE}(fK:∀σ H Q,(∃aG aO O F ε t k kvs,cH X.K aG aO O F H ε σ/\f ε=some t/\keyOf t=some k/\dic? i ε=some kvs/\∀aF ah,Ext F H aF ah->Q (.c8 (if neg then !nZ kvs k else nZ kvs k)) ah)->R σ H Q):
  ∀σ H Q,uV X.K (pT neg f i) σ H Q->R σ H Q:=λσ H Q ⟨aG,aO,O,F,ε,t,r,e,k⟩=>by
 simp only[pT,b0,dR] at e;obtain⟨t',bM,key,eK,kvs,eR,rfl⟩:=e;exact fK σ H Q ⟨aG,aO,O,F,ε,t',key,kvs,r,bM,eK,eR,λaF ah x=>k _ aF ah x (by simp[Rep])⟩
def ahu(i:Nat):∀σ H (Q:dj),(∃aG aO O F ε t k kvs,cH X.K aG aO O F H ε σ/\f ε=some t/\keyOf t=some k/\dic? i ε=some kvs/\∀aF ah,Ext F H aF ah->Q (.c8 (if true then !nZ kvs k else nZ kvs k)) ah)->R0 (A5 X.K f) (jm i) σ H Q:=
 λσ H Q ⟨aG,aO,O,F,ε,t,k,kvs,r,bM,eK,eR,b'⟩=>⟨aG,aO,O,F,ε,t,r,bM,λv a5 H1 aU aM=>by
  obtain⟨p,vs,ae,n,o,cq,au⟩:=Cy (r.ext aU) eR;refine⟨_,ae,p,j' vs k,rfl,?_,?_⟩
  ·rw[ox eK aM];exact mD.k cq
  ·rw[<- au.any];exact b' a5 H1 aU⟩
variable {x:Str}{dH:Pos}
def akH{R:TE}{h:bK}(k:∀σ H Q,uV X.K h σ H Q->R σ H Q):∀σ H Q,A6 X.K (aZ h) σ H Q->bG.IL R σ H Q:=λσ H Q ⟨aG,aO,O,F,ε,b,r,e,b'⟩=>by
 simp only[aZ,b0] at e;obtain⟨t,bM,e⟩:=e;split at e
 ·cases e
  refine k σ H _ ⟨aG,aO,O,F,ε,_,r,bM,λv aF ah x q=>?_⟩
  simp only[Rep] at q;exact⟨_,q,b' aF ah x⟩
 ·cases e
def ajK(i:Nat)(bH:X.A.units+1<cLine)(aq:eh X a f)(c3:X.N[i]?=some x:=by rfl)(a4:kU X.env.scope x:=by first|exact Or.inl rfl|exact Or.inr (Or.inl rfl)|exact Or.inr (Or.inr rfl))(hd:(x==("__debug__":Str))=false:=by decide)
  (ec:(x==("__classdict__":Str))=false:=by decide) (ae:oo .NotIn (.Name x dH)=false:=by rfl):jV X (.Compare a [.NotIn] [.Name x dH] pos) (aZ (pT true f i)):=tT (K' (agZ bH aq (bB i c3 a4 hd ec)) ae) (akH (ajA (ahu i)))
def ajQ(i:Nat)(bH:X.A.units+1<cLine){o3:Pos}(aq:eh X a f)(he:cK X e g)(c3:X.N[i]?=some x:=by rfl)(a4:kU X.env.scope x:=by first|exact Or.inl rfl|exact Or.inr (Or.inl rfl)|exact Or.inr (Or.inr rfl))(hd:(x==("__debug__":Str))=false:=by decide)
  (ec:(x==("__classdict__":Str))=false:=by decide) (aC:iu e (some (.Subscript (.Name x dH) a o3)) pos.line X.env=pure false:=by rfl):
  f_ X (.Assign [.Subscript (.Name x dH) a o3] e pos) (sh i f g):=hk (R9 bH (bB i c3 a4 hd ec) aq he aC) λD σ H ⟨aG,aO,O,F,ε,o,r,e,k⟩=>by
 simp only[sh,b0] at e;obtain⟨v,ev,t,bM,key,eK,kvs,eR,e⟩:=e;split at e
 next hz=>
  cases e
  refine⟨aG,aO,O,F,ε,v,r,ev,λo7 a5 H1 aU aM=>?_⟩
  obtain⟨p,vs,ae,n,Oi,cq,au⟩:=Cy (r.ext aU) eR;refine⟨_,ae,aG,aO,O,a5,ε,t,r.ext aU,bM,λOT dt bf bQ a9=>?_⟩;have b7:=(r.ext aU).ext bQ;obtain⟨p',e7,dW,q7,o',Nu,mR⟩:=Cy b7 eR;rw[ae] at dW;cases dW;obtain⟨aw,iK⟩:=b7.mut (s':=.fD (putD kvs key v)) (o':=.dP (putK e7 key o7)) (RO eR) rfl ae q7 o' Nu (.inr ⟨_,rfl⟩) λaw=>⟨p,_,rfl,q7,o',dN,dE.put (dE.aw aw mR) ((aM.ext bQ).aw aw)⟩;refine⟨p,_,rfl,?_,k σ dt _ ((aU.trans bQ).aw.trans aw) iK⟩;rw[ox eK a9];exact qI.k Nu (by rw[lh,<- mR.length];exact hz)
 next=>cases e
def ajR(i:Nat){G9 ik:bz}{uf:Pos}(c3:X.N.Nodup)(ay:cK X G9 f)(he:cK X ik g)(ba:X.N[i]?=some x:=by rfl)(hx:Loc X.env.scope x:=by first|exact Or.inl rfl|exact Or.inr rfl)
  (aC:iu (.Dict [some G9] [ik] uf) (some (.Name x dH)) pos.line X.env=pure false:=by rfl) (hf:X.fn x=true\/X.env.scope.names.lookup x=some .local:=by first|exact .inl rfl|exact .inr rfl):
  f_ X (.Assign [.Name x dH] (.Dict [some G9] [ik] uf) pos) (we i f g):=hk (yq c3 ba hx (ai_ (ah4 ay he ai5) rfl rfl (by simp) (by simp)) aC hf) λD σ H ⟨aG,aO,O,F,ε,o,r,e,k⟩=>by
 simp only[we,b0,dR] at e;obtain⟨t,bM,key,eK,v,ev,rfl⟩:=e;intro p az;have x0:=Ext.laid (o:=.dP []) r.cf az;refine⟨aG,aO,O,F,ε,t,r.ext x0,bM,λod a5 H1 aU aM=>⟨aG,aO,O,a5,ε,v,(r.ext x0).ext aU,ev,λo7 dt bf bQ a9=>?_⟩⟩;have xC:=(x0.trans aU).trans bQ;have oV:bf p=some (.dP []):=(aU.trans bQ).same.get dN;have hU:¬dt p:=λz=>by
  rcases (aU.trans bQ).new p z with q|q
  ·obtain⟨o,e⟩:=r.cf p q;rw[az] at e;cases e
  ·rw[dN] at q;cases q
 refine⟨oV,[(key,o7)],?_,by simp,?_⟩
 ·have ay:=ox (O:=O) eK (.inl aM);simp[ay]
 ·have aw:d6 X.K dt bf dt (upd bf p (.dP (tR [] [(key,o7)]))):=ako hU oV (.inr ⟨_,rfl⟩);have hh:Ext F H dt (upd bf p (.dP (tR [] [(key,o7)]))):=by
   refine⟨λb o e=>?_,xC.sub,xC.new,⟨λb z=>?_,xC.cf.m_.upd λu e=>.inr ⟨_,fc (e.symm.trans oV)⟩⟩⟩
   ·rw[cI (iw e az)];exact xC.same b o e
   ·have nb:b≠p:=by
     rintro rfl;exact hU z
    rw[cI nb];exact xC.cf b z
  exact k _ dt _ hh.aw (r.IH (s:=.fD _) i hh ⟨p,_,rfl,hU,r.fr p az,dN,⟨o7,[],rfl,a9.aw aw,rfl⟩⟩ λb ab=>by
   have:b=p:=by simpa [dr,hV] using ab
   rw[this];exact az)
end
end D
end
section
namespace D
open PySem
variable [cG]
end D
end
section
namespace D
open PySem PySem.Spec PyProof.Rows bG
section
variable [cG]
theorem QK{α β:Type}{R:α->β->Prop}:∀{l mc:List α} {aH q5:List β},Paired R l aH->Paired R mc q5->Paired R (l++mc) (aH++q5)
|_,_,_,_,.nil,h=>h
|_,_,_,_,.cons a b,h=>.cons a (QK b h)
theorem rI{α β:Type}{R:α->β->Prop}:∀{l:List α} {aH:List β},Paired R l aH->l.length=aH.length
|_,_,.nil=>rfl
|_,_,.cons a b=>by simp[rI b]
theorem yt{α β:Type}{R:α->β->Prop}:∀{l:List α} {aH:List β},Paired R l aH->∀{i:Nat} {x:α},l[i]?=some x->∃k,aH[i]?=some k/\R x k
|_,_,.nil,i,x,e=>by simp at e
|_,_,.cons a b,0,x,e=>by
  simp at e;subst e;exact⟨_,rfl,a⟩
|_,_,.cons a b,i+1,x,e=>by
  simp only[iq] at e ⊢;exact yt b e
section
variable {prog:cE}{w:b8}{K:Type}[DecidableEq K](knd:PySem.KeyKind prog w K)
variable {knd}{A:cU}{E:ag->aK->Prop}{s:aK}
noncomputable def qL(knd:PySem.KeyKind prog w K)(v:ag)(k:K):Prop:=knd.is k v=true/\v.scannable=true
end
end
section
variable [cG]
section
variable {prog:cE}{w:b8}{K:Type}[DecidableEq K]{knd:PySem.KeyKind prog w K}{A:cU}{E:ag->aK->Prop}{s:aK}{a:ak}{aH:List K}
def P2{R:List ag->aK->Prop}{T:String}{r d:ak}{n:Nat}{P:Nat->ag->Prop}{r1:bI->Prop}(W:PySem.W.KdlSrc prog w T r d n P r1)(cq:A.handled=none)(bT:r1 s.heap)(aX:n<=cB)
  (h:∀(h':bI) (tk:Nat) (acc:Array ag),(∀b o,s.heap.get? b=some o->h'.get? b=some o)->s.heap.objs.size<=h'.objs.size->ItemsOf P acc n->R acc.toList {s with heap:=h',toks:=tk}):
  a6 (bS prog w) A (collect (.ref r)) R E s:=by
 have en:=W.there _ bT;unfold collect;refine aT (wpAny_runValue (kK entry_proto_collect' ?_));rw[k8 PySem.F.plain_proto_collect _];show a6 _ A.in1 (newList [] >>= λl=>again (.builtin "list.__iadd__" ⟨[l,.ref r],[]⟩)) _ _ s;refine aT (u6 ?_);refine cy ⟨lU PySem.F.plain_list_iadd _,kK entry_list_iadd' ?_⟩;rw[k8 PySem.F.plain_list_iadd _];have zG:(s.heap.push {cls:=.type "list",data:=.seq ([]:List ag).toArray}).get? s.heap.objs.size=some {cls:=.type "list",data:=.seq #[]}:=fy _ rfl;show a6 _ A.in1 (Builtin.List.listExtendWith (.ref s.heap.objs.size) (.ref r) (.ref s.heap.objs.size)) _ _ _;have key:=PySem.W.kdl_extend (A:=A) (s:={s with heap:=s.heap.push {cls:=.type "list",data:=.seq ([]:List ag).toArray} })
  (R:=λ(q:Result) (s':aK)=>∃(h':bI) (tk:Nat) (ks:Array ag) (cA:Nat),q=.ok (.ret (.ref s.heap.objs.size))/\s'={s with heap:=h',toks:=tk} /\
   (∀b o,s.heap.get? b=some o->h'.get? b=some o)/\h'.get? s.heap.objs.size=some {cls:=.type "list",dict:=none,data:=.seq ks cA,slots:=#[]}/\ItemsOf P ks n)
  W cq (W.keep _ _ bT λb _ o e=>cT _ e) s.heap.objs.size (f5 en.1) (f5 en.2) (.ref s.heap.objs.size) 0 zG
  (λh' tk ks cA ay iF jx=>⟨h',tk,ks,cA,rfl,rfl,λb o e=>ay b o (ee (cN e)) (cT _ e),iF,jx⟩) aX
 refine gj key (λfin s' x=>?_) λe s' x=>?_
 ·cases fin with
  |done f=>
   obtain⟨h',tk,ks,cA,e,rfl,ay,iF,jx⟩:=x;cases e;show a6 _ A (load s.heap.objs.size >>= _) _ _ _;refine aT (wpAny_load iF ?_);exact cy (h h' tk ks ay (Nat.le_of_lt (cN iF)) jx)
  |again c₁=>
   refine⟨x.1,rq x.2 λq m8 y=>?_⟩
   obtain⟨h',tk,ks,cA,rfl,rfl,ay,iF,jx⟩:=y;show a6 _ A (load s.heap.objs.size >>= _) _ _ _;refine aT (wpAny_load iF ?_);exact cy (h h' tk ks ay (Nat.le_of_lt (cN iF)) jx)
 ·obtain⟨_,_,_,_,bg,_⟩:=x;cases bg
end
end
section
variable [cG]
theorem Js{α:Type}{r:α->α->Prop}(LR:∀a b,r a b->r b a->a=b):∀{l m:List α},l.Perm m->l.Pairwise r->m.Pairwise r->l=m
| [],m,p,_,_=>(List.Perm.nil_eq p)
|a::l,m,p,ae,aj=>by
  cases m with
  |nil=>exact absurd p.length_eq (by simp)
  |cons b m=>
   have Yi:a=b:=by
    have aq:a∈b::m:=p.mem_iff.mp (by simp);have ab:b∈a::l:=p.mem_iff.mpr (by simp);rcases ct.mp aq with q|q
    ·exact q
    ·rcases ct.mp ab with z|z
     ·exact z.symm
     ·exact LR a b ((lP.mp ae).1 b z) ((lP.mp aj).1 a q)
   subst Yi;rw[Js LR (List.perm_cons a |>.mp p) (lP.mp ae).2 (lP.mp aj).2]
theorem insI_perm(x:Int):∀l:List Int,(insI x l).Perm (x::l)
| []=>.rfl
|y::ys=>by
  unfold insI;split
  ·exact .rfl
  ·exact ((insI_perm x ys).cons y).trans (.swap _ _ _)
theorem sortI_perm:∀l:List Int,(sortI l).Perm l
| []=>.rfl
|x::xs=>(insI_perm x _).trans ((sortI_perm xs).cons x)
theorem Sm(x:Int):∀{l:List Int},l.Pairwise (·<=·)->(insI x l).Pairwise (·<=·)
| [],_=>by simp[insI]
|y::ys,h=>by
  unfold insI;have h':=lP.mp h;split
  next q=>exact lP.mpr ⟨λz hz=>by
   rcases ct.mp hz with rfl|hz
   ·exact q
   ·exact Int.le_trans q (h'.1 z hz),h⟩
  next q=>exact lP.mpr ⟨λz hz=>by
   rcases ct.mp ((insI_perm x ys).mem_iff.mp hz) with rfl|hz
   ·omega
   ·exact h'.1 z hz,Sm x h'.2⟩
theorem B6:∀l:List Int,(sortI l).Pairwise (·<=·)
| []=>.nil
|x::xs=>Sm x (B6 xs)
def Rw{l m:List Int}(p:l.Perm m)(h:l.Pairwise (·<=·)):l=sortI m:=Js (λa b ae aj=>Int.le_antisymm ae aj) (p.trans (sortI_perm m).symm) h (B6 m)
def afo{l m:List Int}(p:l.Perm m):sortI l=sortI m:=Rw ((sortI_perm l).trans p) (B6 l)
abbrev hW(x y:Str):Prop:=strLt y x=false
def ahK(x y:Str):strLt x y=ltCps x.cps.toList y.cps.toList:=(ltCps_eq _ _).symm
def agR{x y:Str}(h:strLt x y=true):hW x y:=by
 unfold hW strLt at *;simp only[decide_eq_true_eq,decide_eq_false_iff_not] at *;exact List.lt_asymm h
def QI{x y z:Str}(ae:hW x y)(aj:hW y z):hW x z:=by
 unfold hW strLt at *;simp only[decide_eq_false_iff_not] at *;exact List.not_lt.mpr (List.le_trans (List.not_lt.mp ae) (List.not_lt.mp aj))
def ahR{x y:Str}(ae:hW x y)(aj:hW y x):x=y:=by
 unfold hW strLt at *;simp only[decide_eq_false_iff_not] at *;have e:x.cps.toList=y.cps.toList:=List.le_antisymm (List.not_lt.mp ae) (List.not_lt.mp aj);cases x;cases y;simp only[Array.toList_inj] at e;exact congrArg _ e
theorem Kd(x:Str):∀l:List Str,(sL x l).Perm (x::l)
| []=>.rfl
|y::ys=>by
  unfold sL;split
  ·exact .rfl
  ·exact ((Kd x ys).cons y).trans (.swap _ _ _)
theorem vh:∀l:List Str,(jQ l).Perm l
| []=>.rfl
|x::xs=>(Kd x _).trans ((vh xs).cons x)
theorem Sl(x:Str):∀{l:List Str},l.Pairwise hW->(sL x l).Pairwise hW
| [],_=>by simp[sL]
|y::ys,h=>by
  unfold sL;have h':=lP.mp h;split
  next q=>
   have d2:hW x y:=by simpa [hW] using q
   exact lP.mpr ⟨λz hz=>by
    rcases ct.mp hz with rfl|hz
    ·exact d2
    ·exact QI d2 (h'.1 z hz),h⟩
  next q=>
   have d2:strLt y x=true:=by simpa using q
   exact lP.mpr ⟨λz hz=>by
    rcases ct.mp ((Kd x ys).mem_iff.mp hz) with rfl|hz
    ·exact agR d2
    ·exact h'.1 z hz,Sl x h'.2⟩
theorem Kl:∀l:List Str,(jQ l).Pairwise hW
| []=>.nil
|x::xs=>Sl x (Kl xs)
def Km{l m:List Str}(p:l.Perm m)(h:l.Pairwise hW):l=jQ m:=Js (λa b ae aj=>ahR ae aj) (p.trans (vh m).symm) h (Kl m)
def afn{l m:List Str}(p:l.Perm m):jQ l=jQ m:=Km ((vh l).trans p) (Kl l)
theorem Qg:∀(l:List Str) (p:Str),risingS p l=true->(p::l).Pairwise hW
| [],p,_=>by simp
|x::r,p,h=>by
  simp only[risingS,kJ,Bool.not_eq_true'] at h;have bc:=Qg r x h.2;have NK:hW p x:=by
   unfold hW;rw[ahK];exact h.1
  refine lP.mpr ⟨λz hz=>?_,bc⟩
  rcases ct.mp hz with rfl|hz
  ·exact NK
  ·exact QI NK ((lP.mp bc).1 z hz)
def P'{l:List Str}(h:sortedS l=true):l.Pairwise hW:=by
 cases l with
|nil=>exact .nil
|cons x r=>exact Qg r x h
end
section
variable [cG]
section
variable {prog:cE}{w:b8}{A:cU}{E:ag->aK->Prop}{s:aK}
inductive ams:List ag->List ag->Prop where
|Ig {vs out:List ag} {ns:List Int}:IntsAre vs ns->IntsAre out (sortI ns)->ams vs out
|Ih {vs out:List ag} {ss:List Str}:StrsAre vs ss->StrsAre out (jQ ss)->ams vs out
noncomputable def KG(vs:List ag):Prop:=vs.length<64/\((∃ns,IntsAre vs ns)\/∃ss,StrsAre vs ss)
def sortedHeap_at{h:bI}{a:ak}{vs:List ag}{n:Nat}{out:Array ag}(aE:h.get? a=some (seqObj "list" vs.toArray n)):
  (∃e,(sortedHeap h a vs out).get? a=some (seqObj "list" out e))/\∀b o,b≠a->h.get? b=some o->(sortedHeap h a vs out).get? b=some o:=by
 have en:=cN aE;unfold sortedHeap;refine⟨?_,λb o ab e=>?_⟩
 ·have ae:=get?_update_seq aE (λ_=>(#[]:Array ag));have aj:=cT (seqObj "tuple" vs.toArray 0) ae;have a8:=cT (seqObj "list" #[] 0) aj;exact⟨_,get?_update_seq a8 (λ_=>out)⟩
 ·rw[nj _ _ (Ne.symm ab)];exact cT _ (cT _ ((nj _ _ (Ne.symm ab)).trans e))
def agK{a:ak}{vs:List ag}{n:Nat}{P:Fin->aK->Prop}(aE:s.heap.get? a=some (seqObj "list" vs.toArray n))(aC:KG vs)
  (h:∀out:Array ag,ams vs out.toList->P (.done (.ret .none)) {s with heap:=sortedHeap s.heap a vs out}):a6 (bS prog w) A (Builtin.«list.sort» ⟨[.ref a],[]⟩) P E s:=by
 obtain⟨M7,⟨ns,qU⟩|⟨ss,c9⟩⟩:=aC
 ·refine list_sort_tree aE qU M7 λout Ib a1 a2 eE=>h out (.Ig qU ?_)
  rw[<- Rw a2 eE];exact a1
 ·refine list_sort_treeK strKind_oneLt aE c9.keysOf (λalZ al0 rest e=>keyKind_strs (by rw[<- e];exact c9)) M7 λmh az aC=>?_
  obtain⟨IJ,ae,aj,a8⟩:=sorted_out_str c9 az aC;refine h _ (.Ih c9 ?_);rw[<- Km aj (P' a8)];exact ae
def PO{r:ak}{C:List ag->Prop}{Q:ag->aK->Prop}
  (Yz:∀(pE:ag->aK->Prop) (R:List ag->aK->Prop),(∀h' tk d vs,(∀b o,s.heap.get? b=some o->h'.get? b=some o)->s.heap.objs.size<=h'.objs.size->C vs->R vs {s with heap:=h',toks:=tk,drawn:=d})->a6 (bS prog w) A.in1 (collect (.ref r)) R pE s)
  (X6:∀vs,C vs->KG vs)
  (h:∀h' tk d D e vs out,C vs->ams vs out->(∀b o,s.heap.get? b=some o->h'.get? b=some o)->s.heap.objs.size<=D->h'.get? D=some (seqObj "list" out.toArray e)->Q (.ref D) {s with heap:=h',toks:=tk,drawn:=d}):
  a6 (bS prog w) A (call (.builtin "sorted") [.ref r]) Q E s:=by
 refine Calls.call_function_entry kind_sorted plain_sorted entry_sorted (args_sorted1 _) ?_
 unfold Builtin.«sorted»;refine aT (m:=checkCount "sorted" 1 1 _) (cy ?_);refine aT (Yz _ _ λh' tk d vs aw hsz c=>?_);have aC:=X6 vs c;have hz:vs.length<=cB:=by
  have:=aC.1;rw[h1];omega
 refine aT (wpAny_newList ?_ hz)
 have wK:(h'.push (seqObj "list" vs.toArray 0)).get? h'.objs.size=some (seqObj "list" vs.toArray 0):=fy _ rfl;refine aT (jo (tj slot_list_sort ⟨_,wK,rfl⟩ entry_list_sort (agK wK aC λout lM=>⟨_,rfl,?_⟩) (args_list_sort _)));obtain⟨⟨e,he⟩,ay⟩:=sortedHeap_at (out:=out) wK;refine cy ⟨_,rfl,?_⟩;exact h _ tk d h'.objs.size e vs out.toList c lM (λb o q=>ay b o (ee (cN (aw b o q))) (cT _ (aw b o q))) hsz he
end
section
variable {X:bt}{ai:List (ak×Obj)}{σ:bG.St}{H:aA}{s:aK}
def B1{a:ak}{o:ey}{t':Nat}{d':Drawn}{h':bI}(I:Inv X ai σ H s)(k:∀b u,s.heap.get? b=some u->h'.get? b=some u)(az:s.heap.objs.size<=a)(new:hv X.prog X.w (upd H a o) h' a o):
  Inv X ai σ (upd H a o) {s with heap:=h',toks:=t',drawn:=d'}:=
 I.call (ch:=[]) (g':=s.gens) (ho.laid k az (I.bT.fresh az)) (I.bT.laid k az new) I.bare λ_ z=>nomatch z
theorem Kc:∀{us:List ag} {ns:List Int},IntsAre us ns->Vals (ns.map V.int) us
|_,_,.nil=>.nil
|_,_,.cons n t r=>.cons ⟨t,rfl⟩ (Kc r)
theorem J1:∀{us:List ag} {ss:List Str},StrsAre us ss->Vals (ss.map V.str) us
|_,_,.nil=>.nil
|_,_,.cons n t r=>.cons ⟨t,rfl⟩ (J1 r)
theorem JZ:∀{us:List ag} {aH:List bG.Key},Vals (aH.map dA) us->Paired (qL (fM X.prog X.w)) us aH
| [],[],_=>.nil
|_,.inl i::aH,.cons r rs=>by
  obtain⟨t,rfl⟩:=r;exact .cons ⟨JE _ _ i t,rfl⟩ (JZ rs)
|_,.inr x::aH,.cons r rs=>by
  obtain⟨t,rfl⟩:=r;exact .cons ⟨JD _ _ x t,rfl⟩ (JZ rs)
theorem Kb:∀{us:List ag} {aH:List bG.Key} {ns:List Int},Paired (qL (fM X.prog X.w)) us aH->aH=ns.map Sum.inl->IntsAre us ns
|_,_,[],.nil,_=>.nil
|_,_,n::ns,.cons a b,e=>by
  cases e
  have a1:=a.1;rw[Ql] at a1;rcases nq a1 with ⟨i,t,ax,rfl⟩|⟨x,t,ax,rfl⟩
  ·cases ax
   exact .cons _ t (Kb b rfl)
  ·cases ax
theorem J':∀{us:List ag} {aH:List bG.Key} {ss:List Str},Paired (qL (fM X.prog X.w)) us aH->aH=ss.map Sum.inr->StrsAre us ss
|_,_,[],.nil,_=>.nil
|_,_,n::ns,.cons a b,e=>by
  cases e
  have a1:=a.1;rw[Ql] at a1;rcases nq a1 with ⟨i,t,ax,rfl⟩|⟨x,t,ax,rfl⟩
  ·cases ax
  ·cases ax
   exact .cons _ t (J' b rfl)
def BC{α β:Type}(f:α->β):∀{l:List α} {m:List β},m.Perm (l.map f)->∃mc:List α,m=mc.map f/\mc.Perm l:=by
 intro l m p;generalize hx:l.map f=lf at p
 induction p generalizing l with
|nil=>
  rw[List.map_eq_nil_iff] at hx;subst hx;exact⟨[],rfl,.rfl⟩
|cons x _ bc=>
  cases l with
  |nil=>cases hx
  |cons a r=>
   simp only[cP,List.cons.injEq] at hx;obtain⟨mc,e,q⟩:=bc hx.2;exact⟨a::mc,by rw[cP,hx.1,e],q.cons a⟩
|swap x y r=>
  match l,hx with
  |a::b::cu,hx=>
   simp only[cP,List.cons.injEq] at hx;exact⟨b::a::cu,by rw[cP,cP,hx.1,hx.2.1,hx.2.2],.swap _ _ _⟩
|trans _ _ cg cm=>
  obtain⟨bX,ax,aM⟩:=cm hx;obtain⟨bY,aL,a9⟩:=cg ax.symm;exact⟨bY,aL,a9.trans aM⟩
noncomputable def yA(aH:List bG.Key)(ys:List V):Prop:=(∃ns:List Int,aH=ns.map Sum.inl/\ys=(sortI ns).map V.int)\/∃ss:List Str,aH=ss.map Sum.inr/\ys=(jQ ss).map V.str
def Rv{vs out:List ag}{aH q5:List bG.Key}{ys:List V}(a4:Paired (qL (fM X.prog X.w)) vs q5)(az:q5.Perm aH)(lM:ams vs out)(ay:yA aH ys):Vals ys out:=by
 rcases ay with ⟨ns,rfl,rfl⟩|⟨ss,rfl,rfl⟩
 ·obtain⟨Ib,rfl,p3⟩:=BC Sum.inl az;have qU:=Kb a4 rfl;cases lM with
  |Ig a b=>
   rename_i ms
   rw[<- afo p3,show Ib=ms from ?_]
   ·exact Kc b
   ·rw[<- IntsAre.numsOf qU,<- IntsAre.numsOf a]
  |Ih a b=>
   cases a with
   |nil=>
    cases qU
    have:ns=[]:=List.Perm.eq_nil p3.symm;subst this;exact J1 b
   |cons x t _=>cases qU
 ·obtain⟨IJ,rfl,p3⟩:=BC Sum.inr az;have c9:=J' a4 rfl;cases lM with
  |Ih a b=>
   rename_i ms
   rw[<- afn p3,show IJ=ms from ?_]
   ·exact J1 b
   ·rw[<- StrsAre.strs c9,<- StrsAre.strs a]
  |Ig a b=>
   cases a with
   |nil=>
    cases c9
    have:ss=[]:=List.Perm.eq_nil p3.symm;subst this;exact Kc b
   |cons x t _=>cases c9
def Pu{vs:List ag}{aH q5:List bG.Key}{ys:List V}(hz:aH.length<64)(a4:Paired (qL (fM X.prog X.w)) vs q5)(az:q5.Perm aH)(ay:yA aH ys):KG vs:=by
 refine⟨by rw[rI a4,az.length_eq];exact hz,?_⟩
 rcases ay with ⟨ns,rfl,_⟩|⟨ss,rfl,_⟩
 ·obtain⟨Ib,rfl,_⟩:=BC Sum.inl az;exact .inl ⟨_,Kb a4 rfl⟩
 ·obtain⟨IJ,rfl,_⟩:=BC Sum.inr az;exact .inr ⟨_,J' a4 rfl⟩
def QF{aH:List bG.Key}{ys:List V}(h:yA aH ys):ys.length=aH.length:=by
 rcases h with ⟨ns,rfl,rfl⟩|⟨ss,rfl,rfl⟩
 ·simp[(sortI_perm ns).length_eq]
 ·simp[(vh ss).length_eq]
def agb{kvs:List (bG.Key×ag)}{acc:Array ag}(h:ItemsOf (λi v=>∃k x,kvs[i]?=some (k,x)/\(fM X.prog X.w).is k v=true) acc kvs.length):Paired (qL (fM X.prog X.w)) acc.toList (kvs.map (·.1)):=by
 obtain⟨ae,aj⟩:=h;have i6:∀(j:Nat) v,acc.toList[j]?=some v->∃k x,kvs[j]?=some (k,x)/\(fM X.prog X.w).is k v=true:=λj v e=>aj j v (by rw[<- Array.getElem?_toList];exact e);rw[<- rp] at ae;generalize acc.toList=l at *;clear aj
 induction l generalizing kvs with
|nil=>
  cases kvs with
  |nil=>exact .nil
  |cons a r=>simp at ae
|cons v l bc=>
  cases kvs with
  |nil=>simp at ae
  |cons a r=>
   obtain⟨k,x,ax,aL⟩:=i6 0 v rfl;simp at ax;subst ax;refine .cons ⟨aL,?_⟩ (bc (kvs:=r) (by simpa using ae) λj v e=>i6 (j+1) v (by simpa using e));rcases nq aL with ⟨i,t,_,rfl⟩|⟨x,t,_,rfl⟩ <;> rfl
theorem KY:∀{kvs:List (bG.Key×V)} {vs:List (bG.Key×ag)},fB kvs vs->kvs.map (·.1)=vs.map (·.1)
|_,_,.nil=>rfl
|_,_,.cons a b=>by simp[a.1,KY b]
def afg(ar:X.calm=true):kO X (.builtin "sorted") (λxs H Q=>∃p kvs ys,xs=[.ref p]/\H p=some (.dP kvs)/\kvs.length<64/\yA (kvs.map (·.1)) ys/\∀l,H l=none->Q (.ref l) (upd H l (.lst ys))):=by
 intro ai s σ H xs us Q I r h;obtain⟨p,kvs,ys,rfl,a_,hz,ay,q⟩:=h;obtain⟨u,rfl,aY⟩:=vals1 r;cases aY;obtain⟨i',zV,vs,l9,hd⟩:=I.bT p _ a_;obtain⟨ep,ly⟩:=hd.dictAt;have av:vs.length=kvs.length:=(Paired.length l9).symm;have YK:=KY l9;refine PO (C:=λus=>Paired (qL (fM X.prog X.w)) us (kvs.map (·.1))) (λpE R fK=>P2 (PySem.W.kdl_dict zV) (I.ok.hd ar) ly (by rw[av,h1];omega) λh' tk acc aw hz jx=>fK h' tk s.drawn acc.toList aw hz (by rw[YK];exact agb jx))
  (λus bH=>Pu (by rw[eb];exact hz) bH .rfl ay) λh' tk d D e us out bH lM aw jw he=>?_
 exact⟨.ref D,_,B1 I (o:=.lst ys) aw jw ⟨by rw[QF ay,eb,h1];omega,out,e,Rv bH .rfl lM ay,he⟩,rfl,q _ (I.bT.fresh jw)⟩
def aff(ar:X.calm=true):kO X (.builtin "sorted") (λxs H Q=>∃p aH ys,xs=[.ref p]/\gb X.K H p (aH.map dA)/\aH.length<64/\yA aH ys/\∀l,H l=none->Q (.ref l) (upd H l (.lst ys))):=by
 intro ai s σ H xs us Q I r h;obtain⟨p,aH,ys,rfl,a_,hz,ay,q⟩:=h;obtain⟨u,rfl,aY⟩:=vals1 r;cases aY;obtain⟨its,cu,pl,i'⟩:=I.list a_;have hlen:=cu.length;rw[eb] at hlen;have hit:Paired (qL (fM X.prog X.w)) its aH:=JZ (by simpa using cu);refine PO (C:=λus=>us=its) (λpE R fK=>collect_list pl.isList (fK _ s.toks s.drawn its (λb o e=>?_) ?_ rfl) (by rw[h1];omega)) (λus bH=>by subst bH;exact Pu hz hit .rfl ay) λh' tk d D e us out bH lM aw jw he=>?_
 ·exact (nj _ _ (f5 (cN e))).trans (cT _ e)
 ·rw[Heap.size_update,kb];exact ni _
 ·subst bH;exact⟨.ref D,_,B1 I (o:=.lst ys) aw jw ⟨by rw[QF ay,h1];omega,out,e,Rv hit .rfl lM ay,he⟩,rfl,q _ (I.bT.fresh jw)⟩
end
end
section
variable [cG]
theorem QX:∀{ts:List T} {ns:List Int},intsOf ts=some ns->ts=ns.map .int
| [],ns,e=>by
  cases e
  rfl
|t::ts,ns,e=>by
  unfold intsOf at e;split at e
  ·rename_i h
   cases h
  ·rename_i h
   cases h
   simp only[dR] at e;obtain⟨r,ax,rfl⟩:=e;rw[QX ax];rfl
  ·cases e
theorem J2:∀{ts:List T} {ss:List Str},strsOf ts=some ss->ts=ss.map .str
| [],ns,e=>by
  cases e
  rfl
|t::ts,ns,e=>by
  unfold strsOf at e;split at e
  ·rename_i h
   cases h
  ·rename_i h
   cases h
   simp only[dR] at e;obtain⟨r,ax,rfl⟩:=e;rw[J2 ax];rfl
  ·cases e
section
variable {K:br}{F:ak->Prop}{H:aA}
theorem J5:∀(ns:List Int),bp K F H (ns.map .int) (ns.map V.int)
| []=>bp.nil
|n::ns=>bp.cons (by simp[Rep]) (J5 ns)
theorem J4:∀(ns:List Str),bp K F H (ns.map .str) (ns.map V.str)
| []=>bp.nil
|n::ns=>bp.cons (by simp[Rep]) (J4 ns)
theorem JQ:∀{ns:List Str} {vs:List V},bp K F H (ns.map .str) vs->vs=ns.map V.str
| [],vs,h=>by simpa [bp] using h
|n::ns,vs,h=>by
  simp only[cP,bp,Rep] at h;obtain⟨v,r,rfl,rfl,z⟩:=h;rw[JQ z];rfl
end
section
variable {X:bt}{a e:bz}{es:List bz}{f:bK}{aB:List bK}{p fl pos gy:Pos}
theorem QJ{K:br}{F:ak->Prop}{H:aA}:∀{kvs:List (D.Key×T)} {vs:List (D.Key×V)},dE K F H kvs vs->kvs.map (·.1)=vs.map (·.1)
| [],vs,h=>by
  have:vs=[]:=h;subst this;rfl
|p::r,vs,h=>by
  obtain⟨v,w,rfl,_,z⟩:=h;simp[QJ z]
theorem QV:∀{aH:List D.Key} {ns:List Int},aH.map g_=ns.map .int->aH=ns.map Sum.inl
| [],[],_=>rfl
| [],n::ns,e=>by cases e
|k::aH,[],e=>by cases e
|k::aH,n::ns,e=>by
  simp only[cP,List.cons.injEq] at e ⊢;refine⟨?_,QV e.2⟩;cases k with
  |inl i=>
   have:=e.1;simp only[g_] at this;cases this;rfl
  |inr x=>
   have:=e.1;simp only[g_] at this;cases this
def agU(i:Nat){x:Str}{dH:Pos}(ar:X.calm=true)(aC:X.mg "sorted"=none)(c3:X.N[i]?=some x:=by rfl)(a4:kU X.env.scope x:=by first|exact Or.inl rfl|exact Or.inr (Or.inl rfl)|exact Or.inr (Or.inr rfl))
  (hd:(x==("__debug__":Str))=false:=by decide) (ec:(x==("__classdict__":Str))=false:=by decide) (bx:eP X "sorted":=by rfl)
  (he:bb [.Name x dH] X.env=(false,eval (.Name x dH) X.env)::bb [] X.env:=by rfl) (hpl:(c0 pos (bb [] X.env)).any (·.1)=false:=by rfl):
  cK X (.Call (.Name "sorted" p) [.Name x dH] [] pos) (vz i):=
 ew (yg (afg ar) bx aC (by decide +kernel) (iR (bB i c3 a4 hd ec) jM he) (he:=he) (hpl:=hpl)) λσ H Q ⟨aG,aO,O,F,ε,t,r,e,k⟩=>by
 simp only[vz,b0] at e;obtain⟨kvs,eR,e⟩:=e;split at e
 next hz=>
  simp only[dR] at e;obtain⟨ns,MY,rfl⟩:=e;obtain⟨q,vs,ae,n,o,cq,au⟩:=Cy r eR;refine⟨_,ae,q,vs,(sortI ns).map V.int,rfl,cq,by rw[<- au.length];exact hz,.inl ⟨ns,?_,rfl⟩,λl av=>?_⟩
  ·rw[<- QJ au];have:=QX MY;refine QV ?_;rw[<- this,k'];rfl
  ·have aU:=Ext.Aw (o:=.lst ((sortI ns).map V.int)) r.cf av;refine k _ _ _ aU ?_;simp only[Rep];exact⟨l,_,rfl,.inr rfl,.inl dN,J5 _⟩
 next=>cases e
end
end
section
variable [cG]
section
variable {X:bt}{a b e:bz}{es rest:List bz}{f g:bK}{aB:List bK}{p fl pos gy:Pos}
def K_{op:BoolOp}(h:cK X a f):cK X (.BoolOp op [a] pos) f:=SQ h
def akX{op:BoolOp}(h:cK X a f):cK X (.BoolOp op [a] pos) f:=SQ h
def CQ(aq:cK X a f)(ab:cK X (.BoolOp .And (b::rest) pos) g):cK X (.BoolOp .And (a::b::rest) pos) (nL f g):=ew (akb aq ab) λσ H Q ⟨aG,aO,O,F,ε,t,r,e,k⟩=>by
 simp only[nL,b0] at e;obtain⟨x,ex,e⟩:=e;refine⟨aG,aO,O,F,ε,x,r,ex,λv a5 H1 aU aY=>?_⟩;split at e
 ·simp only[Rep] at aY;refine⟨true,aY,?_⟩;rw[if_pos rfl];exact⟨aG,aO,O,a5,ε,t,r.ext aU,e,λv aF ah bQ q=>k v aF ah (aU.trans bQ) q⟩
 ·cases e
  simp only[Rep] at aY;refine⟨false,aY,?_⟩;rw[if_neg (by decide)];exact k _ a5 H1 aU (by simp[Rep])
 ·cases e
def aci(aq:cK X a f)(ab:cK X (.BoolOp .Or (b::rest) pos) g):cK X (.BoolOp .Or (a::b::rest) pos) (xb f g):=ew (ak4 aq ab) λσ H Q ⟨aG,aO,O,F,ε,t,r,e,k⟩=>by
 simp only[xb,b0] at e;obtain⟨x,ex,e⟩:=e;refine⟨aG,aO,O,F,ε,x,r,ex,λv a5 H1 aU aY=>?_⟩;split at e
 ·simp only[Rep] at aY;refine⟨false,aY,?_⟩;rw[if_neg (by decide)];exact⟨aG,aO,O,a5,ε,t,r.ext aU,e,λv aF ah bQ q=>k v aF ah (aU.trans bQ) q⟩
 ·cases e
  simp only[Rep] at aY;refine⟨true,aY,?_⟩;rw[if_pos rfl];exact k _ a5 H1 aU (by simp[Rep])
 ·cases e
def ajW(hm:X.mg "list"=none)(aq:qN X (e::es) aB)(bx:eP X "list":=by rfl)(he:bb (e::es) X.env=(false,eval e X.env)::bb es X.env:=by rfl)(hpl:(c0 pos (bb es X.env)).any (·.1)=false:=by rfl):
  cK X (.Call (.Name "list" p) (e::es) [] pos) (aS tY aB):=ew (x8 PJ bx hm (by decide +kernel) aq (he:=he) (hpl:=hpl)) (ym (by
 intro O F H ts t vs Q d q e k;unfold tY at e;split at e
 ·cases e
  cases q with
  |cons aM a9=>
   cases a9
   obtain⟨lC,ws,rfl,av,au⟩:=aM.tup;refine⟨lC,ws,rfl,.inr av,λl iG=>?_⟩;have aU:=Ext.Aw (o:=.lst ws) d iG;refine k _ _ _ aU ?_;simp only[Rep];exact⟨l,ws,rfl,.inr rfl,.inl dN,au.ext aU⟩
 ·cases e
  cases q with
  |cons aM a9=>
   cases a9
   obtain⟨lC,ws,rfl,av,au⟩:=aM.lst;refine⟨lC,ws,rfl,.inl (.inl av),λl iG=>?_⟩;have aU:=Ext.Aw (o:=.lst ws) d iG;refine k _ _ _ aU ?_;simp only[Rep];exact⟨l,ws,rfl,.inr rfl,.inl dN,au.ext aU⟩
 ·cases e))
end
end
end D
end
section
namespace D
open PySem PySem.W PyProof.Rows
structure U8(n:Nat)(lt:Nat->Nat->Bool):Prop where
 alo:∀i j,lt i j=true->lt j i=false
 trans:∀i j k,lt i j=true->lt j k=true->lt i k=true
 alX:∀i j,i<n->j<n->i≠j->lt i j=true\/lt j i=true
noncomputable def r_(lt:Nat->Nat->Bool)(p:Array Nat)(m:Nat):Prop:=∀i j,i<j->j<m->lt (p.getD i 0) (p.getD j 0)=true
noncomputable def C3(lt:Nat->Nat->Bool)(p:Array Nat)(m:Nat):Prop:=∀i j,i<j->j<m->lt (p.getD j 0) (p.getD i 0)=true
section
variable {n:Nat}{lt:Nat->Nat->Bool}(O:U8 n lt)
include O
end
end D
end
section
namespace D
open PySem
variable [cG]
end D
end
section
namespace D
open PySem PySem.Spec PyProof.Rows bG
section
variable [cG]
def B3:entryFor table "dict.update.loop"=some Builtin.«dict.update.loop»:=entryFor_of_tree (by kernel_rfl)
def rA:plainId "dict.update.loop"=true:=by decide +kernel
section
variable {prog:cE}{w:b8}{K:Type}[DecidableEq K]{knd:PySem.KeyKind prog w K}{A:cU}
noncomputable def tS(knd:PySem.KeyKind prog w K)(S:List ak)(h:bI)(v:ag)(bU:K×ag):Prop:=∃p o n key,v=.ref p/\p∉S/\h.get? p=some o/\o.cls=.type "tuple"/\o.data=.seq #[key,bU.2] n/\knd.is bU.1 key=true
def tS.keep{S:List ak}{h h':bI}{v:ag}{bU:K×ag}(x:tS knd S h v bU)(k:∀b o,b∉S->h.get? b=some o->h'.get? b=some o):tS knd S h' v bU:=by
 obtain⟨p,o,n,key,ae,aj,a8,r⟩:=x;exact⟨p,o,n,key,ae,aj,k p o aj a8,r⟩
def pair_items{E:ag->aK->Prop}{s:aK}{p:ak}{o:Obj}{n:Nat}{xs:Array ag}{Q:List ag->aK->Prop}(ae:s.heap.get? p=some o)(aj:o.cls=.type "tuple")(a8:o.data=.seq xs n)(h:Q xs.toList s):a6 (bS prog w) A (Builtin.Dict.pairItems (.ref p)) Q E s:=by
 obtain⟨c,pW,dat,df⟩:=o;simp only at aj a8;subst aj a8;obtain⟨az,g,d,tk,os⟩:=s;have cL:(⟨az,g,d,tk,os⟩:aK).TypeIs (.ref p) "tuple":=⟨_,ae,rfl⟩;unfold Builtin.Dict.pairItems
 repeat (any_goals (first|assumption|wp_step))
def stored_new{kvs:List (K×ag)}{k:K}{v:ag}(h:k∉kvs.map (·.1)):stored kvs k v=kvs++[(k,v)]:=by
 unfold stored;rw[if_neg];intro q;obtain⟨x,hx,e⟩:=List.any_eq_true.mp q;exact h (dI.mpr ⟨x,hx,by simpa using e⟩)
variable {R:Result->aK->Prop}{I:ak}{cv wr:List ak}{G:Array GenState->Array GenState->Prop}{St:Nat->aK->Prop}{items:Array ag}
def agq(W:WalksS prog w A.in1 I cv wr G items.size (λi v=>items[i]?=some v) St)(S:ak)(zF:S∉cv)(kvs:List (K×ag))(n2:(kvs.map (·.1)).Nodup)(hlen:items.size=kvs.length)(hz:kvs.length<=cB):
  ∀(k i:Nat) (s:aK) (c:Int) (dO:Tok),items.size - i=k->i<=items.size->St i s->(∀(j:Nat) v bU,items[j]?=some v->kvs[j]?=some bU->tS knd (S::wr) s.heap v bU)->s.heap.DictOf knd S (kvs.take i) ->
   (∀s',Moved (S::wr) G s s'->s'.heap.DictOf knd S kvs->R (.ok (.ret .none)) s') ->
   lT (bS prog w) A (.builtin "dict.update.loop" ⟨[.ref S,.ref I,.int c dO,.none],[]⟩) R s:=by
 have Na:S∉wr:=λh=>zF (W.sub _ h);have p5:∀b∈wr,b∈S::wr:=λb ab=>dq _ ab;intro k
 induction k with
|zero=>
  intro i s c dO ay ba ib fJ c9 fK;have n1:i=items.size:=by omega
  subst n1;refine kK B3 ?_;rw[k8 rA _];show a6 _ A.in1 (pyNext (.ref I) >>= _) _ _ s;refine aT (W.done s _ _ ib λs' hm=>?_);show a6 _ A.in1 (Builtin.Dict.addKeywords S [] >>= _) _ _ s';refine aT (cy ?_);rw[List.take_of_length_le (by omega)] at c9;exact cy (fK s' (hm.mono p5) (c9.at λo e=>hm.heap S _ Na e))
|succ k bc=>
  intro i s c dO ay ba ib fJ c9 fK;have en:i<items.size:=by omega
  refine kK B3 ?_
  rw[k8 rA _];show a6 _ A.in1 (pyNext (.ref I) >>= _) _ _ s;refine aT (W.item i s _ _ en ib λv s' Yb Y7 hm=>?_);have l9:kvs[i]?=some (kvs[i]'(by omega)):=g0 (by omega);have M_:∀(j:Nat) v bU,items[j]?=some v->kvs[j]?=some bU->tS knd (S::wr) s'.heap v bU:=λj v bU ax aL=>(fJ j v bU ax aL).keep λb o ab e=>hm.heap b o (λz=>ab (p5 b z)) e;obtain⟨p,o,n,key,rfl,alN,oV,Y0,Y1,Y2⟩:=M_ i v _ Yb l9;have M':s'.heap.DictOf knd S (kvs.take i):=c9.at λo e=>hm.heap S _ Na e;show a6 _ A.in1 (holding [Value.ref p] _ >>= _) _ _ s';refine aT (jo ?_);refine aT (rr (pair_items oV Y0 Y1 ?_));show a6 _ A.in1 (holding [key,_] (dictSet S key _)) _ _ s';refine jo (wpAny_dictSet_pairs Y2 M' (λh' hd al8=>?_) (by rw[List.length_take];omega));have p2:kvs[i].1∉(kvs.take i).map (·.1):=λz=>by
   have e:kvs=kvs.take i++kvs.drop i:=(List.take_append_drop i kvs).symm;rw[e,List.map_append,jH] at n2;refine n2.2.2 _ z _ (dI.mpr ⟨kvs[i],?_,rfl⟩) rfl;rw[List.drop_eq_getElem_cons (by omega)];exact fx
  rw[stored_new p2] at hd;have bM:kvs.take i++[(kvs[i].1,kvs[i].2)]=kvs.take (i+1):=by rw[List.take_succ,l9];rfl
  rw[bM] at hd;refine cy ⟨lU rA _,bc (i+1) _ _ _ (by omega) en (W.frame _ s' _ _ Y7 (ni _) λb ab o e=>?_) (λj v bU ax aL=>(M_ j v bU ax aL).keep λb o ab e=>?_) hd λxn YN Yc=>?_⟩
  ·rw[al8.2 b (λh:b=S=>zF (by rw[<- h];exact ab))];exact e
  ·rw[al8.2 b (λh:b=S=>ab (by rw[h];exact fx))];exact e
  ·refine fK xn (Moved.trans W.gtrans ((hm.mono p5).then_heap (ni _) λb o ab e=>?_) YN) Yc
   rw[al8.2 b (λh:b=S=>ab (by rw[h];exact fx))];exact e
variable {E:ag->aK->Prop}{s:aK}
end
end
section
variable [cG]
def yv(p:D.Key×T):T:=.tuple [g_ p.1,p.2]
def ain{t:T}{k:D.Key}(h:keyOf t=some k):t=g_ k:=by
 unfold keyOf at h;split at h
 ·cases h;rfl
 ·cases h;rfl
 ·cases h
theorem QM:∀{ts:List T} {kvs:List (D.Key×T)},yu ts=some kvs->ts=kvs.map yv
| [],kvs,e=>by
  cases e
  rfl
|t::ts,kvs,e=>by
  unfold yu at e;split at e
  ·rename_i h
   cases h
  ·rename_i h
   cases h
   simp only[b0,dR] at e;obtain⟨k,ax,r,aL,rfl⟩:=e;rw[ain ax,QM aL];rfl
  ·cases e
section
variable {X:bt}
def aiV{K:br}{F:ak->Prop}{H:aA}{k:D.Key}{v:V}(h:Rep K F H (g_ k) v):v=dA k:=by
 cases k with
|inl i=>simpa [g_,Rep,dA] using h
|inr x=>simpa [g_,Rep,dA] using h
theorem pairs_at{ai:List (ak×Obj)}{σ:bG.St}{H:aA}{s:aK}{F:ak->Prop}(I:Inv X ai σ H s):∀{kvs:List (D.Key×T)} {vs:List V} {us:List ag},bp X.K F H (kvs.map yv) vs->Vals vs us ->
  ∃(ws:List (D.Key×V)) (xs:List (D.Key×ag)),dE X.K F H kvs ws/\fB ws xs/\xs.map (·.1)=kvs.map (·.1)/\us.length=xs.length/\∀(j:Nat) v bU,us[j]?=some v->xs[j]?=some bU->tS (fM X.prog X.w) [] s.heap v bU
| [],vs,us,h,r=>by
  have:vs=[]:=by simpa [bp] using h
  subst this;cases r;exact⟨[],[],rfl,.nil,rfl,rfl,λj v bU e=>by simp at e⟩
|p::kvs,vs,us,h,r=>by
  simp only[cP,bp] at h;obtain⟨v,e7,rfl,ae,aj⟩:=h;simp only[yv,Rep] at ae;obtain⟨a,zs,rfl,a8,b9⟩:=ae;simp only[bp] at b9;obtain⟨z5,nk,rfl,sC,v0,f9,rfl,Y_,rfl⟩:=b9;have ay:=aiV sC;subst ay;cases r with
  |cons bC b7=>
   cases bC
   obtain⟨its,xE,⟨o,xF,I3,n,y4⟩,_⟩:=I.tuple a8;obtain⟨ws,xs,g1,g2,g3,nX,ky⟩:=pairs_at I aj b7;cases xE with
   | @cons _ xy _ _ ax xE=>
    cases xE with
    | @cons _ te _ _ aL xE=>
     cases xE
     refine⟨(p.1,v0)::ws,(p.1,te)::xs,⟨v0,ws,rfl,Y_,g1⟩,.cons ⟨rfl,aL⟩ g2,by simp[g3],by simp[nX],λj v bU f1 f2=>?_⟩
     cases j with
     |zero=>
      cases f1
      cases f2
      refine⟨a,o,n,xy,rfl,by simp,xF,I3,y4,?_⟩
      cases az:p.1 with
      |inl i=>
       rw[az] at ax;obtain⟨t,rfl⟩:=ax;exact JE _ _ i t
      |inr x=>
       rw[az] at ax;obtain⟨t,rfl⟩:=ax;exact JD _ _ x t
     |succ j=>exact ky j v bU (by simpa using f1) (by simpa using f2)
variable {a b e:bz}{f g:bK}{x y:Str}{p dH py pos gy:Pos}
end
end
section
variable [cG]
mutual
noncomputable def ie:T->T->Option Bool
|.int a,.int b=>some (decide (a<b))
|.tuple xs,.tuple ys=>sO xs ys
|_,_=>none
noncomputable def sO:List T->List T->Option Bool
| [],[]=>some false
| [],_::_=>some true
|_::_,[]=>some false
|x::xs,y::ys=>if hY x y then sO xs ys else ie x y
end
noncomputable def LK(A:cU)(s:aK)(y x:ag)(b:Bool):Prop:=
 ∀(prog:cE) (w:b8) (E:ag->aK->Prop) (Q:ag->aK->Prop),Q (.bool b) s->a6 (bS prog w) A (richCompare .Lt y x) Q E s
inductive pI(A:cU)(s:aK)(fin:Bool):List (ag×ag)->Bool->Prop
|nil:pI A s fin [] fin
|eq {y x:ag} {r:List (ag×ag)} {b:Bool}:SeqAt.EqAt A s y x true->pI A s fin r b->pI A s fin ((y,x)::r) b
|lt {y x:ag} {r:List (ag×ag)} {b:Bool}:SeqAt.EqAt A s y x false->LK A s y x b->pI A s fin ((y,x)::r) b
section
open PySem.SeqAt
open PySem.AutoSeq1 (wpAny_loadPart')
open PySem.MeetsSeq PySem.MeetsSeq2 PySem.MeetsSeq3
def aeT(l b:ak)(items p6:Array ag)(n eH:Nat)(e0 mI:Option ak)(df lL:Array (Option ag))(z:Bool):
  Meets (Builtin.«tuple.__lt__» ⟨[.ref l,.ref b],[]⟩)
   (λA R s=>s.heap.get? l=some {cls:=.type "tuple",dict:=e0,data:=.seq items n,slots:=df}/\s.heap.get? b=some {cls:=.type "tuple",dict:=mI,data:=.seq p6 eH,slots:=lL} /\
    pI A.in1 s (decide (items.size<p6.size)) (items.toList.zip p6.toList) z/\R (.ok (.ret (.bool z))) s):=
 .of_wp λprog w A R s h=>by
  obtain⟨az,g,d,tk,os⟩:=s;obtain⟨av,ab,bx,h⟩:=h;have f2:=AutoSeq1.sub_tuple_tuple
  wp_walk using wpAny_loadPart' av,wpAny_loadPart' ab,wpAny_forIn_list _ (λrest b s'=>b.1=none/\s'=⟨az,g,d,tk,os⟩/\pI A.in1 ⟨az,g,d,tk,os⟩ (decide (items.size<p6.size)) rest z) _
  case turn=>
   rintro⟨y,x⟩ rest b s' ⟨jy,rfl,jZ⟩;cases jZ with
   |eq he jZ=>
    refine aT (he prog w _ _ ?_)
    wp_walk
    exact⟨rfl,rfl,jZ⟩
   |lt he en=>
    refine aT (he prog w _ _ ?_)
    have F9:=en prog w
    wp_walk using F9
    exact⟨_,rfl,h⟩
  case fin=>
   rintro⟨b1,b2⟩ s' ⟨jy,rfl,jZ⟩;simp only at jy;subst jy;cases jZ
   wp_walk
   exact⟨_,rfl,by simpa [Builtin.Tuple.tupleCompareSizes] using h⟩
  case h=>
   exact⟨rfl,rfl,bx⟩
mutual
theorem aij:∀(pV db:T) (A:cU) (s:aK) (a b:ag) (as bs:List ak) (r:Bool),Reads s.heap a pV as->Reads s.heap b db bs->pV.canLay0=true->db.canLay0=true->A.units+min pV.depth db.depth<cLine->ie pV db=some r->LK A s a b r
|.int i,.int j,A,s,_,_,_,_,r,.int _ t,.int _ u,_,_,_,e=>by
  unfold ie at e;cases e;exact λprog w E Q q=>(PyProof.Rows.lt_int q:a6 (bS prog w) A (iQ .Lt (.int i t) (.int j u)) Q E s)
|.tuple xs,.tuple ys,A,s,_,_,_,_,r,.tuple (a:=l) (o:=o) (vs:=vs) (n:=n) ae aj a8 b9,.tuple (a:=mc) (o:=o') (vs:=e7) (n:=q7) gI eu p8 jd,aq,ab,bH,e=>by
  unfold ie at e;simp only[PyData.canLay0] at aq ab;simp only[lR] at bH;have jZ:=good_reads xs ys A.in1 s vs.toList e7.toList _ _ r b9 jd aq ab (room_in bH) e;obtain⟨cls,e0,data,df⟩:=o;obtain⟨EN,mI,data2,lL⟩:=o';simp only at aj a8 eu p8;subst aj a8 eu p8;rw[rp,rp] at jZ;exact λprog w E Q q=>richCompare_meets_room (op:=.Lt) ⟨_,ae,rfl⟩ ⟨_,gI,rfl⟩ PySem.F.slot_tuple_lt PySem.F.entry_tuple_lt (PySem.F.args_tuple_lt_2 _ _) (aeT l mc vs e7 n q7 e0 mI df lL r)
   ⟨ae,gI,jZ,show Value.bool r≠Value.notImplemented/\Q (.bool r) s from ⟨(λx=>nomatch x),q⟩⟩ (by omega)
|.none,_,_,_,_,_,_,_,_,_,_,_,_,_,e=>by simp[ie] at e
|.bool _,_,_,_,_,_,_,_,_,_,_,_,_,_,e=>by simp[ie] at e
|.str _,_,_,_,_,_,_,_,_,_,_,_,_,_,e=>by simp[ie] at e
|.list _,_,_,_,_,_,_,_,_,_,_,_,_,_,e=>by simp[ie] at e
|.dict _,_,_,_,_,_,_,_,_,_,_,_,_,_,e=>by simp[ie] at e
|.int _,.none,_,_,_,_,_,_,_,_,_,_,_,_,e=>by simp[ie] at e
|.int _,.bool _,_,_,_,_,_,_,_,_,_,_,_,_,e=>by simp[ie] at e
|.int _,.str _,_,_,_,_,_,_,_,_,_,_,_,_,e=>by simp[ie] at e
|.int _,.list _,_,_,_,_,_,_,_,_,_,_,_,_,e=>by simp[ie] at e
|.int _,.dict _,_,_,_,_,_,_,_,_,_,_,_,_,e=>by simp[ie] at e
|.int _,.tuple _,_,_,_,_,_,_,_,_,_,_,_,_,e=>by simp[ie] at e
|.tuple _,.none,_,_,_,_,_,_,_,_,_,_,_,_,e=>by simp[ie] at e
|.tuple _,.bool _,_,_,_,_,_,_,_,_,_,_,_,_,e=>by simp[ie] at e
|.tuple _,.str _,_,_,_,_,_,_,_,_,_,_,_,_,e=>by simp[ie] at e
|.tuple _,.list _,_,_,_,_,_,_,_,_,_,_,_,_,e=>by simp[ie] at e
|.tuple _,.dict _,_,_,_,_,_,_,_,_,_,_,_,_,e=>by simp[ie] at e
|.tuple _,.int _,_,_,_,_,_,_,_,_,_,_,_,_,e=>by simp[ie] at e
theorem good_reads:∀(xs ys:List T) (A:cU) (s:aK) (vs ws:List ag) (as bs:List ak) (r:Bool),ReadsAll s.heap vs xs as->ReadsAll s.heap ws ys bs->jF xs=true->jF ys=true->A.units+min (iN xs) (iN ys)<cLine->sO xs ys=some r->pI A s (decide (vs.length<ws.length)) (vs.zip ws) r
| [],[],A,s,_,_,_,_,r,.nil,.nil,_,_,_,e=>by
  unfold sO at e;cases e;exact .nil
| [],_::_,A,s,_,_,_,_,r,.nil,.cons _ _,_,_,_,e=>by
  unfold sO at e;cases e;exact pI.nil
|_::_,[],A,s,_,_,_,_,r,.cons _ _,.nil,_,_,_,e=>by
  unfold sO at e;cases e;exact pI.nil
|x::xs,y::ys,A,s,_,_,_,_,r,.cons bC b7,.cons aM a9,aq,ab,bH,e=>by
  simp only[jF,kJ] at aq ab;simp only[iN] at bH;unfold sO at e;have he:=eqAt_reads x y A s _ _ _ _ bC aM aq.1 ab.1 (room_head bH);split at e
  next h=>
   rw[h] at he;have bc:=good_reads xs ys A s _ _ _ _ r b7 a9 aq.2 ab.2 (room_tail bH) e;rw[pb];simp only[eJ,Nat.add_lt_add_iff_right];exact .eq he bc
  next h=>
   rw[Bool.not_eq_true] at h;rw[h] at he;rw[pb];exact .lt he (aij x y A s _ _ _ _ r bC aM aq.1 ab.1 (room_head bH) e)
end
end
end
end D
end
section
namespace D
open PySem
inductive TB where
|v (f:bK)|o (i:Nat)
abbrev rX:=Ev->Option (T×Ev)
abbrev qK:=Ev->Option aR
noncomputable def ig(c i:Nat)(ε:Ev):Option (hl×List aR):=match ε[i]? with
|some (some (.obj m cA aB))=>if cA=c then some (m,aB) else none
|_=>none
noncomputable def fld(c i j:Nat):bK:=λε=>(ig c i ε).bind λo=>match o.2[j]? with
|some (.U t)=>some t
|some (.own ts)=>some (.list ts)
|_=>none
noncomputable def hr(c i j:Nat):bK:=λε=>(ig c i ε).bind λo=>match o.2[j]? with
|some (.U t)=>some t
|_=>none
noncomputable def nU(c i j:Nat):Ev->Option (List (Key×T)):=λε=>(ig c i ε).bind λo=>match o.2[j]? with
|some (.fD kvs)=>some kvs
|_=>none
noncomputable def p0(c i j:Nat):Ev->Option (List T):=λε=>(ig c i ε).bind λo=>match o.2[j]? with
|some (.own ts)=>some ts
|_=>none
noncomputable def nS(c i j:Nat)(k:bK):bK:=λε=>(k ε).bind λt=>(keyOf t).bind λk=>(nU c i j ε).bind λkvs=>getD kvs k
def yG(c i j:Nat):bK:=λε=>(nU c i j ε).map λkvs=>.tuple (kvs.map (·.2))
noncomputable def iL(c i j:Nat)(s:aR)(ε:Ev):Option Ev:=(ig c i ε).bind λo=>if o.1=.ht then none else
 if j<o.2.length then some (ε.set i (some (.obj o.1 c (o.2.set j s)))) else if j=o.2.length then some (ε.set i (some (.obj o.1 c (o.2++[s])))) else none
def e9(c i j:Nat)(f:bK):bD:=λε=>(f ε).bind λt=>(iL c i j (.U t) ε).map .bR
noncomputable def mA(c i j:Nat)(f:bK):bD:=λε=>(f ε).bind λt=>match t with
|.list ts=>(iL c i j (.own ts) ε).map .bR
|_=>none
def qG:T->T->Option Int
|.int i,.int j=>some (i+j)
|_,_=>none
noncomputable def pP(c i j:Nat)(f:bK):bD:=λε=>(hr c i j ε).bind λx=>(f ε).bind λy=>(qG x y).bind λz=>(iL c i j (.U (.int z)) ε).map .bR
noncomputable def pO(c i j:Nat)(f:bK):bD:=λε=>(f ε).bind λt=>(p0 c i j ε).bind λts=>if ts.length<big then (iL c i j (.own (ts++[t])) ε).map .bR else none
noncomputable def AP(c i j:Nat)(f:bK):bD:=λε=>(f ε).bind λt=>(p0 c i j ε).bind λts=>match t,strsOf ts with
|.str x,some ss=>if x∈ss then (iL c i j (.own ((ss.erase x).map .str)) ε).map .bR else none
|_,_=>none
noncomputable def vF:T->Option T
|.tuple xs=>some (.list xs)
|.list xs=>some (.list xs)
|_=>none
noncomputable def Cb:T->Option T
|.list xs=>if xs.length<64 then (strsOf xs).map λss=>.list ((jQ ss).map .str) else none
|_=>none
noncomputable def rN(c i j:Nat)(k v:bK):bD:=λε=>(v ε).bind λv=>(k ε).bind λt=>(keyOf t).bind λk=>(nU c i j ε).bind λkvs=>if kvs.length<big then (iL c i j (.fD (putD kvs k v)) ε).map .bR else none
noncomputable def rR(c i j:Nat)(k v:bK):bD:=λε=>(k ε).bind λt=>(keyOf t).bind λk=>(nU c i j ε).bind λkvs=>(getD kvs k).bind λx=>(v ε).bind λy=>(qG x y).bind λz=>if kvs.length<big then (iL c i j (.fD (putD kvs k (.int z))) ε).map .bR else none
noncomputable def rS:List T->List T->Option (List (Key×T))
| [],_=>some []
|_::_,[]=>some []
|k::aH,v::vs=>(keyOf k).bind λk=>(rS aH vs).map λr=>(k,v)::r
noncomputable def vO(c i j:Nat)(aH vs:bK):bD:=λε=>(aH ε).bind λtk=>(vs ε).bind λhg=>match tk,hg with
|.list lk,.tuple lv=>(rS lk lv).bind λkvs=>if (kvs.map (·.1)).Nodup/\kvs.length<=1000/\(∀t∈lk,(keyOf t).isSome=true) then (iL c i j (.fD kvs) ε).map .bR else none
|_,_=>none
noncomputable def nx(c:Nat)(d:List aR->Option T)(i:Nat)(aB:List bK):bK:=λε=>(ig c i ε).bind λo=>(args aB ε).bind λts=>d (.obj .ht c o.2::ts.map .U)
noncomputable def dT(c:Nat)(d:List aR->Option (T×List aR))(i:Nat)(aB:List bK):rX:=λε=>(ig c i ε).bind λo=>if o.1=.ht then none else (args aB ε).bind λts=>
 (d (.obj .ej c o.2::ts.map .U)).map λr=>(r.1,ε.set i (some (.obj o.1 c r.2)))
noncomputable def AD(c:Nat)(d:List aR->Option (T×List aR))(aB:List bK):qK:=λε=>(args aB ε).bind λts=>(d (.obj .ej c []::ts.map .U)).bind λr=>match r.1 with
|.none=>some (.obj .own c r.2)
|_=>none
def vN(d:List T->Option aR)(aB:List bK):qK:=λε=>(args aB ε).bind d
noncomputable def vy(c:Nat):aR->Option (List aR)
|.obj .own cA aB=>if cA=c then some aB else none
|_=>none
noncomputable def AG(c:Nat)(d:List aR->Option T)(o:qK)(aB:List bK):bK:=λε=>(o ε).bind λs=>(vy c s).bind λos=>(args aB ε).bind λts=>d (.obj .ht c os::ts.map .U)
noncomputable def Cw(c j:Nat)(o:qK):bK:=λε=>(o ε).bind λs=>(vy c s).bind λos=>match os[j]? with
|some (.own ts)=>some (.list ts)
|_=>none
def d1(f:rX):bD:=λε=>(f ε).map λr=>.bR r.2
def xm(f:rX):bD:=λε=>(f ε).map λr=>.jC r.1 r.2
def xk(f:bK):bD:=λε=>(f ε).map λt=>.jC t ε
def v5(i:Nat)(f:rX):bD:=λε=>(f ε).map λr=>.bR (r.2.set i (some (.U r.1)))
def yV(i:Nat)(f:qK):bD:=λε=>(f ε).map λs=>.bR (ε.set i (some s))
noncomputable def xl(i:Nat):bD:=λε=>match ε[i]? with
|some (some (.obj .own c aB))=>some (.j6 (.obj .own c aB))
|_=>none
def qE:bD:=λε=>some (.jC .none ε)
def never:bD:=λ_=>none
def la(n:Nat)(ss:List aR):Ev:=ss.map some++jE (n - ss.length) none
noncomputable def k4(b:bD)(n:Nat)(ss:List aR):Option T:=(b (la n ss)).bind λo=>match o with
|.dB t=>some t
|.bR _=>some .none
|_=>none
noncomputable def pn(c p:Nat)(ε:Ev):Option (List aR):=match ε[p]? with
|some (some (.obj .ej cA aB))=>if cA=c then some aB else none
|_=>none
noncomputable def runM(c p:Nat)(b:bD)(n:Nat)(ss:List aR):Option (T×List aR):=(b (la n ss)).bind λo=>match o with
|.jC t ε=>(pn c p ε).map λaB=>(t,aB)
|.bR ε=>(pn c p ε).map λaB=>(.none,aB)
|_=>none
def AL:aR->Option aR
|.obj .own c aB=>some (.obj .own c aB)
|_=>none
noncomputable def sX(b:bD)(n:Nat)(ts:List T):Option aR:=(b ((ts.map λt=>some (.U t))++jE (n - ts.length) none)).bind λo=>match o with
|.j6 s=>AL s
|_=>none
end D
end
section
namespace D
open PySem PySem.Spec PyProof.Rows bG
section
variable [cG]
section
variable {K:br}{F aF O:ak->Prop}{H ah:aA}{E:gS}
theorem gr.length:∀{aB:List aR} {vs:List V},gr K F H aB vs->aB.length=vs.length
| [],vs,r=>by
  have e:vs=[]:=r;rw[e];rfl
|s::ss,vs,r=>by
  obtain⟨v,z,rfl,_,b7⟩:=r;simp[gr.length b7]
theorem gr.get:∀{aB:List aR} {vs:List V} {j:Nat} {s:aR},gr K F H aB vs->aB[j]?=some s->∃v,vs[j]?=some v/\lZ K F H s v
| [],vs,j,s,r,e=>by simp at e
|s::ss,vs,0,u,r,e=>by
  obtain⟨v,z,rfl,bC,_⟩:=r;simp at e;subst e;exact⟨v,rfl,bC⟩
|s::ss,vs,j+1,u,r,e=>by
  obtain⟨v,z,rfl,_,b7⟩:=r;obtain⟨w,ae,aj⟩:=gr.get (j:=j) (s:=u) b7 (by simpa using e);exact⟨w,by simpa using ae,aj⟩
theorem gr.set:∀{aB:List aR} {vs:List V} {j:Nat} {s:aR} {v:V},gr K F H aB vs->d6 K F H aF ah->(∀(k:Nat) (u:aR) (w:V),k≠j->aB[k]?=some u->vs[k]?=some w->∀b∈d7 u w,ah b=H b)->lZ K aF ah s v->gr K aF ah (aB.set j s) (vs.set j v)
| [],vs,j,s,v,r,_,_,_=>by
  have e:vs=[]:=r;subst e;exact rfl
|u::ss,vs,0,s,v,r,aw,ay,h=>by
  obtain⟨w,z,rfl,bC,b7⟩:=r;refine⟨v,z,rfl,h,b7.keep aw λb ab=>?_⟩;have:∀{ss:List aR} {z:List V} (n:Nat),(∀(k:Nat) (u:aR) (w:V),ss[k]?=some u->z[k]?=some w->∀b∈d7 u w,ah b=H b)->b∈dk ss z->ah b=H b:=by
   intro ss
   induction ss with
   |nil=>intro z n _ ab;simp[dk] at ab
   |cons s1 ss bc=>
    intro z n ay ab;cases z with
    |nil=>simp[dk] at ab
    |cons v1 z=>
     rw[show dk (s1::ss) (v1::z)=d7 s1 v1++dk ss z from rfl] at ab;rcases gz.mp ab with q|q
     ·exact ay 0 s1 v1 rfl rfl b q
     ·exact bc n (λk u w ax aL=>ay (k+1) u w (by simpa using ax) (by simpa using aL)) q
  exact this 0 (λk u w ax aL=>ay (k+1) u w (by omega) (by simpa using ax) (by simpa using aL)) ab
|u::ss,vs,j+1,s,v,r,aw,ay,h=>by
  obtain⟨w,z,rfl,bC,b7⟩:=r;exact⟨w,z.set j v,rfl,bC.keep aw λb ab=>ay 0 u w (by omega) rfl rfl b ab,gr.set b7 aw (λk u w alB ax aL=>ay (k+1) u w (by omega) (by simpa using ax) (by simpa using aL)) h⟩
theorem gr.snoc:∀{aB:List aR} {vs:List V} {s:aR} {v:V},gr K F H aB vs->lZ K F H s v->gr K F H (aB++[s]) (vs++[v])
| [],vs,s,v,r,h=>by
  have e:vs=[]:=r;subst e;exact⟨v,[],rfl,h,rfl⟩
|u::ss,vs,s,v,r,h=>by
  obtain⟨w,z,rfl,bC,b7⟩:=r;exact⟨w,z++[v],rfl,bC,gr.snoc b7 h⟩
theorem Ku:∀{aB:List aR} {vs:List V} {s:aR} {v:V},aB.length=vs.length->dk (aB++[s]) (vs++[v])=dk aB vs++d7 s v
| [],[],s,v,_=>by simp[dk]
|u::ss,w::z,s,v,h=>by
  show d7 u w++dk (ss++[s]) (z++[v])=(d7 u w++dk ss z)++d7 s v
  rw[Ku (by simpa using h),List.append_assoc]
| [],w::z,_,_,h=>by simp at h
|u::ss,[],_,_,h=>by simp at h
theorem pv:∀{aB:List aR} {vs:List V} {j:Nat} {s:aR} {v:V} {b:ak},aB[j]?=some s->vs[j]?=some v->b∈d7 s v->b∈dk aB vs
| [],vs,j,s,v,b,e,_,_=>by simp at e
|u::ss,[],j,s,v,b,_,e,_=>by simp at e
|u::ss,w::z,0,s,v,b,ax,aL,h=>by
  simp at ax aL;subst ax aL;exact gz.mpr (.inl h)
|u::ss,w::z,j+1,s,v,b,ax,aL,h=>gz.mpr (.inr (pv (j:=j) (by simpa using ax) (by simpa using aL) h))
theorem Li:∀{aB:List aR} {vs:List V} {b:ak},b∈dk aB vs->∃(j:Nat) (s:aR) (v:V),aB[j]?=some s/\vs[j]?=some v/\b∈d7 s v
| [],vs,b,h=>by simp[dk] at h
|u::ss,[],b,h=>by simp[dk] at h
|u::ss,w::z,b,h=>by
  rcases gz.mp (show b∈d7 u w++dk ss z from h) with q|q
  ·exact⟨0,u,w,rfl,rfl,q⟩
  ·obtain⟨j,s,v,ax,aL,h⟩:=Li q;exact⟨j+1,s,v,by simpa using ax,by simpa using aL,h⟩
theorem Kt:∀{aB:List aR} {vs:List V} {j k:Nat} {s u:aR} {v w:V} {b:ak},(dk aB vs).Nodup->j≠k->aB[j]?=some s->vs[j]?=some v->aB[k]?=some u->vs[k]?=some w->b∈d7 s v->b∈d7 u w->False
| [],vs,j,k,s,u,v,w,b,_,_,e,_,_,_,_,_=>by simp at e
|x::ss,[],j,k,s,u,v,w,b,_,_,_,e,_,_,_,_=>by simp at e
|x::ss,y::z,j,k,s,u,v,w,b,aW,oU,ax,aL,e',i1,ae,aj=>by
  have hs:(d7 x y++dk ss z).Nodup:=aW;rw[jH] at hs;obtain⟨dX,eH,md⟩:=hs;cases j with
  |zero=>
   cases k with
   |zero=>exact oU rfl
   |succ k=>
    simp at ax aL;subst ax aL;exact md b ae b (pv (j:=k) (by simpa using e') (by simpa using i1) aj) rfl
  |succ j=>
   cases k with
   |zero=>
    simp at e' i1;subst e' i1;exact md b aj b (pv (j:=j) (by simpa using ax) (by simpa using aL) ae) rfl
   |succ k=>exact Kt (j:=j) (k:=k) eH (by omega) (by simpa using ax) (by simpa using aL) (by simpa using e') (by simpa using i1) ae aj
def BK{aB:List aR}{vs:List V}{j:Nat}{s:aR}{v:V}{b:ak}(h:b∈dk (aB.set j s) (vs.set j v)):b∈dk aB vs\/b∈d7 s v:=by
 obtain⟨k,u,w,ax,aL,h⟩:=Li h;by_cases ay:j=k
 ·subst ay;have bX:=(gZ.mp ax).1;have bY:=(gZ.mp aL).1;simp at bX bY;rw[u4,if_pos rfl,if_pos bX] at ax;rw[u4,if_pos rfl,if_pos bY] at aL;cases ax;cases aL;exact .inr h
 ·rw[u4,if_neg ay] at ax aL;exact .inl (pv ax aL h)
theorem Jr:∀{aB:List aR} {vs:List V} {j:Nat} {s:aR} {v:V},(dk aB vs).Nodup->(d7 s v).Nodup->(∀b∈d7 s v,∀(k:Nat) (u:aR) (w:V),k≠j->aB[k]?=some u->vs[k]?=some w->b∉d7 u w)->(dk (aB.set j s) (vs.set j v)).Nodup
| [],vs,j,s,v,_,_,_=>by simp[dk]
|x::ss,[],j,s,v,_,_,_=>by cases j <;> simp[dk]
|x::ss,y::z,0,s,v,aW,jf,aq=>by
  have hs:(d7 x y++dk ss z).Nodup:=aW;rw[jH] at hs;show (d7 s v++dk ss z).Nodup;rw[jH];refine⟨jf,hs.2.1,λb ab c ar e=>?_⟩;subst e;obtain⟨k,u,w,ax,aL,h⟩:=Li ar;exact aq b ab (k+1) u w (by omega) (by simpa using ax) (by simpa using aL) h
|x::ss,y::z,j+1,s,v,aW,jf,aq=>by
  have hs:(d7 x y++dk ss z).Nodup:=aW;rw[jH] at hs;show (d7 x y++dk (ss.set j s) (z.set j v)).Nodup;rw[jH];refine⟨hs.1,Jr hs.2.1 jf λb ab k u w ay ax aL=>aq b ab (k+1) u w (by omega) (by simpa using ax) (by simpa using aL),λb ab c ar e=>?_⟩;subst e;rcases BK ar with q|q
  ·exact hs.2.2 b ab b q rfl
  ·exact aq b q 0 x y (by omega) rfl rfl ab
def ahU(v:V):(hV v).Nodup:=by
 unfold hV;split <;> simp
def Q0(s:aR)(v:V):(d7 s v).Nodup:=by
 cases s <;> first|exact ahU v|simp[d7]
theorem JO:∀{ns:List Str} {vs:List V} {j:Nat} {f:Str} {v:V},ns.Nodup->ns[j]?=some f->vs[j]?=some v->(ns.zip vs).lookup f=some v
| [],_,_,_,_,_,e,_=>by simp at e
|_::_,[],_,_,_,_,_,e=>by simp at e
|n::ns,w::vs,0,f,v,_,ax,aL=>by
  simp at ax aL;subst ax aL;simp[jG]
|n::ns,w::vs,j+1,f,v,aW,ax,aL=>by
  have ne:f≠n:=by
   rintro rfl;exact (eO.mp aW).1 (mm (by simpa using ax))
  have ab:(f==n)=false:=beq_eq_false_iff_ne.mpr ne;simp only[pb,jG,ab];exact JO (j:=j) (eO.mp aW).2 (by simpa using ax) (by simpa using aL)
theorem xS:∀{ns:List Str} {vs:List V} {f:Str},f∉ns->(ns.zip vs).lookup f=none
| [],_,_,_=>by simp
|_::_,[],_,_=>by simp
|n::ns,w::vs,f,h=>by
  have ne:f≠n:=λe=>h (by simp[e]);have ab:(f==n)=false:=beq_eq_false_iff_ne.mpr ne;simp only[pb,jG,ab];exact xS λz=>h (dq _ z)
theorem RY:∀{ns:List Str} {vs:List V} {j:Nat} {f:Str} {v:V},ns.Nodup->ns[j]?=some f->j<vs.length->bG.hb f v (ns.zip vs)=ns.zip (vs.set j v)
| [],_,_,_,_,_,e,_=>by simp at e
|_::_,[],_,_,_,_,_,h=>by simp at h
|n::ns,w::vs,0,f,v,_,ax,h=>by
  simp at ax;subst ax;simp[bG.hb]
|n::ns,w::vs,j+1,f,v,aW,ax,h=>by
  have ne:n≠f:=by
   rintro rfl;exact (eO.mp aW).1 (mm (by simpa using ax))
  simp only[pb,gO,bG.hb,if_neg ne];rw[RY (j:=j) (eO.mp aW).2 (by simpa using ax) (by simpa using h)]
theorem PK:∀{ns:List Str} {vs:List V} {f:Str} {v:V},ns.Nodup->ns[vs.length]?=some f->bG.hb f v (ns.zip vs)=ns.zip (vs++[v])
| [],_,_,_,_,e=>by simp at e
|n::ns,[],f,v,_,ax=>by
  simp at ax;subst ax;simp[bG.hb]
|n::ns,w::vs,f,v,aW,ax=>by
  have ne:n≠f:=by
   rintro rfl;exact (eO.mp aW).1 (mm (by simpa using ax))
  simp only[pb,mn,bG.hb,if_neg ne];rw[PK (eO.mp aW).2 (by simpa using ax)]
end
structure g4(K:br)(c:Nat)(C:ak)(ns:List Str):Prop where
 pS:cG.pS c=some C
 fq:cG.fq c=ns
 cls:nA K C
 aW:ns.Nodup
 na:∀f∈ns,qD K C f
 zz:ns.length<1000
section
variable {K:br}{aG F a5 O:ak->Prop}{H H1:aA}{E:gS}{ε ε':Ev}{σ:bG.St}{c C i j:Nat}{ns:List Str}
def pj{m:hl}{aB:List aR}(h:ig c i ε=some (m,aB)):ε[i]?=some (some (.obj m c aB)):=by
 unfold ig at h;split at h
 next m' cA hS e=>
  split at h
  next ar=>
   cases h
   rw[e,ar]
  next=>cases h
 next=>cases h
def qA{m:hl}{aB:List aR}(k:g4 K c C ns)(r:cH K aG E O F H ε σ)(h:ig c i ε=some (m,aB)):
  ∃a vs bu,σ[i]?=some (some (.ref a))/\H a=some (.ins C bu (ns.zip vs))/\vs.length<=ns.length/\h2 H a c vs/\gr K F H aB vs/\(a::dk aB vs).Nodup/\(∀b∈a::dk aB vs,vX E O F m b)/\(m=.ej->a=E.je):=by
 obtain⟨v,ae,a,vs,rfl,aq,hf,aW,gx,je⟩:=r.val i _ (pj h);obtain⟨av,hx⟩:=id aq;rw[k.pS] at hx;obtain⟨bu,hx⟩:=hx;rw[k.fq] at av hx;exact⟨a,vs,bu,ae,hx,av,aq,hf,aW,gx,je⟩
def CG{m:hl}(hm:m≠.ht){aB:List aR}:(aR.obj m c aB).iH=true:=by
 cases m with
|ht=>exact absurd rfl hm
|own=>rfl
|ej=>rfl
def cH.A1{s:aR}{v:V}{a bu:ak}{vs:List V}(k:g4 K c C ns)(r:cH K aG E O F H ε σ){m:hl}{aB:List aR}(aE:ig c i ε=some (m,aB))(ae:σ[i]?=some (some (.ref a)))(aq:h2 H a c vs)(he:iL c i j s ε=some ε')
  (rs:lZ K F H s v) (own:∀b∈d7 s v,¬F b/\O b/\b∉dr H (.obj m c aB) (.ref a)/\∀(k:Nat) (u:aR) (w:V),i≠k->ε[k]?=some (some u)->u.iH=true->σ[k]?=some (some w)->b∉dr H u w) (hx:H a=some (.ins C bu (ns.zip vs)))
  {f:Str} (a':ns[j]?=some f):d6 K F H F (upd H a (.ins C bu (bG.hb f v (ns.zip vs))))/\cH K aG E O F (upd H a (.ins C bu (bG.hb f v (ns.zip vs)))) ε' σ:=by
 obtain⟨kr,e7,ug,dW,lB,av,mN,hf,aW,gx,je⟩:=qA k r aE;rw[ae] at dW;cases dW;have ev:e7=vs:=by rw[<- aq.vals,<- mN.vals]
 subst ev;have jz:dr H (.obj m c aB) (.ref a)=a::dk aB e7:=kM aq;rw[jz] at own;unfold iL at he;rw[aE] at he;simp only[cp] at he;split at he
 next=>cases he
 next hm=>
 have hlen:=hf.length;have wL:(aR.obj m c aB).iH=true:=CG hm;have NC:∀b,vX E O F m b <-> ¬F b/\O b:=λb=>by
  cases m with
  |ht=>exact absurd rfl hm
  |own=>exact Iff.rfl
  |ej=>exact Iff.rfl
 have na:∀b∈dk aB e7,b≠a:=λb ab z=>(eO.mp aW).1 (z▸ab);split at he
 next FT=>
  cases he
  have FU:j<e7.length:=by omega
  rw[RY k.aW a' FU];have uz:∀b∈a::dk (aB.set j s) (e7.set j v),b∈a::dk aB e7\/b∈d7 s v:=λb ab=>by
   rcases ct.mp ab with rfl|ab
   ·exact .inl fx
   ·rcases BK ab with q|q
    ·exact .inl (dq _ q)
    ·exact .inr q
  have ly:∀o':aA,o' a=some (.ins C bu (ns.zip (e7.set j v)))->h2 o' a c (e7.set j v):=λo' e=>by
   refine⟨by rw[k.fq];simpa using av,?_⟩
   rw[k.pS,k.fq];exact⟨bu,e⟩
  refine r.AA (pj aE) wL ae (by rw[jz];exact fx) (λaw=>⟨a,e7.set j v,rfl,ly _ dN,?_,?_,λb ab=>?_,je⟩) λb ab=>?_
  ·refine gr.set hf aw (λk u w _ ax aL b ab=>cI (na b (pv ax aL ab))) (rs.keep aw λb ab=>cI λz=>(own b ab).2.2.1 (z▸fx))
  ·refine eO.mpr ⟨λz=>?_,Jr (eO.mp aW).2 (Q0 s v) λb ab k u w _ ax aL q=>(own b ab).2.2.1 (dq _ (pv ax aL q))⟩
   rcases BK z with q|q
   ·exact (eO.mp aW).1 q
   ·exact (own a q).2.2.1 fx
  ·rcases uz b ab with q|q
   ·exact gx b q
   ·exact (NC b).mpr ⟨(own b q).1,(own b q).2.1⟩
  ·rw[kM (ly _ dN)] at ab;rcases uz b ab with q|q
   ·exact .inl (by rw[jz];exact q)
   ·exact .inr (own b q).2.2.2
 next FT=>
  split at he
  next alz=>
   cases he
   have FU:j=e7.length:=by omega
   rw[PK k.aW (by rw[<- FU];exact a')];have alA:j<ns.length:=(gZ.mp a').1;have uz:∀b∈a::dk (aB++[s]) (e7++[v]),b∈a::dk aB e7\/b∈d7 s v:=λb ab=>by
    rw[Ku hlen] at ab;rcases ct.mp ab with rfl|ab
    ·exact .inl fx
    ·rcases gz.mp ab with q|q
     ·exact .inl (dq _ q)
     ·exact .inr q
   have ly:∀o':aA,o' a=some (.ins C bu (ns.zip (e7++[v])))->h2 o' a c (e7++[v]):=λo' e=>by
    refine⟨by rw[k.fq];simp;omega,?_⟩
    rw[k.pS,k.fq];exact⟨bu,e⟩
   refine r.AA (pj aE) wL ae (by rw[jz];exact fx) (λaw=>⟨a,e7++[v],rfl,ly _ dN,?_,?_,λb ab=>?_,je⟩) λb ab=>?_
   ·exact gr.snoc (hf.keep aw λb ab=>cI (na b ab)) (rs.keep aw λb ab=>cI λz=>(own b ab).2.2.1 (z▸fx))
   ·rw[Ku hlen];refine eO.mpr ⟨λz=>?_,jH.mpr ⟨(eO.mp aW).2,Q0 s v,λb ab d hd e=>?_⟩⟩
    ·rcases gz.mp z with q|q
     ·exact (eO.mp aW).1 q
     ·exact (own a q).2.2.1 fx
    ·subst e;exact (own b hd).2.2.1 (dq _ ab)
   ·rcases uz b ab with q|q
    ·exact gx b q
    ·exact (NC b).mpr ⟨(own b q).1,(own b q).2.1⟩
   ·rw[kM (ly _ dN)] at ab;rcases uz b ab with q|q
    ·exact .inl (by rw[jz];exact q)
    ·exact .inr (own b q).2.2.2
  next=>cases he
def cH.Az{s s':aR}{a b:ak}{vs:List V}{o':ey}(r:cH K aG E O F H ε σ){m:hl}{aB:List aR}(aE:ig c i ε=some (m,aB))(ae:σ[i]?=some (some (.ref a)))(aq:h2 H a c vs)(he:iL c i j s' ε=some ε')
  (aC:aB[j]?=some s) (a4:vs[j]?=some (.ref b)) (ba:b∈d7 s (.ref b)) (zO:d7 s' (.ref b)=[b]) (rs:d6 K F H F (upd H b o')->lZ K F (upd H b o') s' (.ref b)):d6 K F H F (upd H b o')/\cH K aG E O F (upd H b o') ε' σ:=by
 obtain⟨v,dW,kr,e7,ev,mN,hf,aW,gx,je⟩:=r.val i _ (pj aE);rw[ae] at dW;cases dW;cases ev;have ev:e7=vs:=by rw[<- aq.vals,<- mN.vals]
 subst ev;have jz:dr H (.obj m c aB) (.ref a)=a::dk aB e7:=kM aq;unfold iL at he;rw[aE] at he;simp only[cp] at he;split at he
 next=>cases he
 next hm=>
 have FT:j<aB.length:=(gZ.mp aC).1;rw[if_pos FT] at he;cases he;have l6:b∈dk aB e7:=pv aC a4 ba;have Ym:a≠b:=λz=>(eO.mp aW).1 (z▸l6);have ly:h2 (upd H b o') a c e7:=aq.keep (cI Ym);have EZ:e7.set j (.ref b)=e7:=by
  obtain⟨av,e⟩:=gZ.mp a4;rw[<- e];exact List.set_getElem_self av
 have FL:∀x∈dk (aB.set j s') e7,x∈dk aB e7:=λx hx=>by
  rw[<- EZ] at hx;rcases BK hx with q|q
  ·exact q
  ·rw[zO] at q;rw[ip.mp q];exact l6
 refine r.AA (pj aE) (CG hm) ae (by rw[jz];exact dq _ l6) (λaw=>⟨a,e7,rfl,ly,?_,?_,λx hx=>?_,je⟩) λx hx=>?_
 ·rw[<- EZ];exact gr.set hf aw (λk u w ay ax aL x hx=>cI λz=>Kt (eO.mp aW).2 (Ne.symm ay) aC a4 ax aL ba (z▸hx)) (rs aw)
 ·refine eO.mpr ⟨λz=>(eO.mp aW).1 (FL a z),?_⟩
  rw[<- EZ];refine Jr (eO.mp aW).2 (by rw[zO];simp) λx hx k u w ay ax aL q=>?_;rw[zO] at hx;rw[ip.mp hx] at q;exact Kt (eO.mp aW).2 (Ne.symm ay) aC a4 ax aL ba q
 ·rcases ct.mp hx with rfl|hx
  ·exact gx _ fx
  ·exact gx x (dq _ (FL x hx))
 ·rw[kM ly] at hx;rw[jz];rcases ct.mp hx with rfl|hx
  ·exact .inl fx
  ·exact .inl (dq _ (FL x hx))
end
end
section
variable [cG]
section
variable {K:br}{aG F O:ak->Prop}{H:aA}{E:gS}{ε:Ev}{σ:bG.St}{c C i j:Nat}{ns:List Str}{f:Str}
def oA{m:hl}{aB:List aR}{s:aR}(k:g4 K c C ns)(r:cH K aG E O F H ε σ)(h:ig c i ε=some (m,aB))(aC:aB[j]?=some s)(a':ns[j]?=some f):
  ∃a vs bu v,σ[i]?=some (some (.ref a))/\H a=some (.ins C bu (ns.zip vs))/\(ns.zip vs).lookup f=some v/\h2 H a c vs/\vs[j]?=some v/\lZ K F H s v/\(∀b∈d7 s v,vX E O F m b/\b≠a):=by
 obtain⟨a,vs,bu,ae,hx,av,aq,hf,aW,gx,je⟩:=qA k r h;obtain⟨v,a4,bV⟩:=hf.get aC;refine⟨a,vs,bu,v,ae,hx,JO k.aW a' a4,aq,a4,bV,λb ab=>⟨gx b (dq _ (pv aC a4 ab)),λz=>(eO.mp aW).1 (z▸pv aC a4 ab)⟩⟩
def lY(k:g4 K c C ns)(a':ns[j]?=some f):qD K C f:=k.na f (mm a')
end
section
variable {X:bt}{c C i j:Nat}{ns:List Str}{f:Str}{o e a:bz}{g h:bK}{pos apos:Pos}
def hM(k:g4 X.K c C ns)(aX:b3 X o (jm i))(a':ns[j]?=some f:=by rfl)(ab:ir o f X.env (eval o X.env)=eval o X.env:=by rfl):eh X (.Attribute o f pos) (fld c i j):=
 ew (qz aX ab) λσ H Q ⟨aG,aO,O,F,ε,t,r,e,b'⟩=>by
 simp only[fld,b0] at e;obtain⟨⟨m,aB⟩,aE,e⟩:=e;split at e
 next t' aC=>
  cases e
  obtain⟨a,vs,bu,v,ae,hx,av,aq,a4,bV,_⟩:=oA k r aE aC a';exact⟨_,ae,a,C,bu,_,v,rfl,hx,k.cls,lY k a',av,b' v F H (Ext.refl r.cf) (.inl bV)⟩
 next ts aC=>
  cases e
  obtain⟨a,vs,bu,v,ae,hx,av,aq,a4,⟨b,us,dQ,ab,fw⟩,_⟩:=oA k r aE aC a';subst dQ;exact⟨_,ae,a,C,bu,_,_,rfl,hx,k.cls,lY k a',av,b' _ F H (Ext.refl r.cf) (.inr ⟨ts,b,us,rfl,rfl,ab,fw⟩)⟩
 next=>cases e
def lb(k:g4 X.K c C ns)(aX:b3 X o (jm i))(a':ns[j]?=some f:=by rfl)(ab:ir o f X.env (eval o X.env)=eval o X.env:=by rfl):cK X (.Attribute o f pos) (hr c i j):=
 ew (qz aX ab) λσ H Q ⟨aG,aO,O,F,ε,t,r,e,b'⟩=>by
 simp only[hr,b0] at e;obtain⟨⟨m,aB⟩,aE,e⟩:=e;split at e
 next t' aC=>
  cases e
  obtain⟨a,vs,bu,v,ae,hx,av,aq,a4,bV,_⟩:=oA k r aE aC a';exact⟨_,ae,a,C,bu,_,v,rfl,hx,k.cls,lY k a',av,b' v F H (Ext.refl r.cf) bV⟩
 next=>cases e
def B2{ε:Ev}{kvs:List (D.Key×T)}(e:nU c i j ε=some kvs):∃m aB,ig c i ε=some (m,aB)/\aB[j]?=some (.fD kvs):=by
 simp only[nU,b0] at e;obtain⟨⟨m,aB⟩,aE,e⟩:=e;split at e
 ·cases e
  exact⟨m,aB,aE,by assumption⟩
 ·cases e
def Q1{ε:Ev}{ts:List T}(e:p0 c i j ε=some ts):∃m aB,ig c i ε=some (m,aB)/\aB[j]?=some (.own ts):=by
 simp only[p0,b0] at e;obtain⟨⟨m,aB⟩,aE,e⟩:=e;split at e
 ·cases e
  exact⟨m,aB,aE,by assumption⟩
 ·cases e
def K9(k:g4 X.K c C ns)(bH:X.A.units+1<cLine)(aX:b3 X o (jm i))(aq:eh X a g)(a':ns[j]?=some f:=by rfl)(ab:ir o f X.env (eval o X.env)=eval o X.env:=by rfl)(aC:yP a:=by intro _ _;rfl):
  cK X (.Subscript (.Attribute o f apos) a pos) (nS c i j g):=ew (Sa bH (qz aX ab) aq aC) λσ H Q ⟨aG,aO,O,F,ε,t,r,e,b'⟩=>by
 simp only[nS,b0] at e;obtain⟨t',bM,key,eK,kvs,eR,nR⟩:=e;obtain⟨m,aB,aE,aC⟩:=B2 eR;obtain⟨a,vs,bu,v,ae,hx,av,aq,a4,⟨b,us,dQ,ab,fw⟩,_⟩:=oA k r aE aC a';subst dQ;refine⟨_,ae,a,C,bu,_,_,rfl,hx,k.cls,lY k a',av,aG,aO,O,F,ε,t',r,bM,λv a5 H1 aU aM=>?_⟩;have sx:=aU.same.get ab;have uQ:=dE.aw (aU.aw (K:=X.K)) fw;obtain⟨w,hw,jj⟩:=uQ.get nR;refine⟨b,w,rfl,?_,b' w a5 H1 aU jj⟩;rw[ox eK aM,<- hw];exact mD.k sx
def RG{K:br}{aG F O a5:ak->Prop}{H H1:aA}{E:gS}{ε:Ev}{σ:bG.St}{b:ak}(r:cH K aG E O F H ε σ)(x:Ext F H a5 H1)(aX:H b=none):
  ∀(k:Nat) (u:aR) (w:V),ε[k]?=some (some u)->σ[k]?=some (some w)->b∉dr H1 u w:=λk u w eK ay ab=>by
 obtain⟨dv,ae,aj⟩:=r.val k u eK;rw[ay] at ae;cases ae;rw[(aj.amu x).2] at ab;obtain⟨o,e,_⟩:=aj.at ab;rw[aX] at e;cases e
def gp(k:g4 X.K c C ns)(aX:b3 X o (jm i))(he:cK X e g)(a':ns[j]?=some f:=by rfl)(aC:iu e (some (.Attribute o f apos)) pos.line X.env=pure false:=by rfl):
  f_ X (.Assign [.Attribute o f apos] e pos) (e9 c i j g):=hk (Lb aX he aC) λD σ H ⟨aG,aO,O,F,ε,o,r,e,b'⟩=>by
 simp only[e9,b0,dR] at e;obtain⟨t,bM,ε',es,rfl⟩:=e;refine⟨aG,aO,O,F,ε,t,r,bM,λv a5 H1 aU aM=>?_⟩;have bC:=r.ext aU;have i4:=es;unfold iL at i4;simp only[b0] at i4;obtain⟨⟨m,aB⟩,aE,_⟩:=i4;obtain⟨a,vs,bu,ae,hx,av,aq,_⟩:=qA k bC aE;obtain⟨aw,b7⟩:=bC.A1 (s:=.U t) (v:=v) k aE ae aq es aM (λb ab=>by simp[d7] at ab) hx a';refine⟨_,ae,a,C,bu,_,rfl,hx,k.cls,lY k a',?_,b' σ a5 _ (aU.aw.trans aw) b7⟩;have:=k.zz;simp only[List.length_zip];omega
def vu(k:g4 X.K c C ns)(aX:b3 X o (jm i))(he:r4 X e g)(a':ns[j]?=some f:=by rfl)(aC:iu e (some (.Attribute o f apos)) pos.line X.env=pure false:=by rfl):
  f_ X (.Assign [.Attribute o f apos] e pos) (mA c i j g):=hk (Lb aX he aC) λD σ H ⟨aG,aO,O,F,ε,o,r,e,b'⟩=>by
 simp only[mA,b0] at e;obtain⟨t,bM,e⟩:=e;split at e
 next ts=>
  simp only[dR] at e;obtain⟨ε',es,rfl⟩:=e;refine⟨aG,aO,O,F,ε,ts,r,bM,λb us a5 H1 aU p2 hU ab aM=>?_⟩;have bC:=r.ext aU;have i4:=es;unfold iL at i4;simp only[b0] at i4;obtain⟨⟨m,aB⟩,aE,_⟩:=i4;obtain⟨a,vs,bu,ae,hx,av,aq,_⟩:=qA k bC aE;have hold:=RG r aU p2;obtain⟨aw,b7⟩:=bC.A1 (s:=.own ts) (v:=.ref b) k aE ae aq es ⟨b,us,rfl,ab,aM⟩ (λd hd=>by
   have:d=b:=by simpa [d7,hV] using hd
   subst this;exact⟨hU,r.fr _ p2,hold i _ _ (pj aE) ae,λk u w _ eK _ ay=>hold k u w eK ay⟩) hx a'
  refine⟨_,ae,a,C,bu,_,rfl,hx,k.cls,lY k a',?_,b' σ a5 _ (aU.aw.trans aw) b7⟩
  have:=k.zz;simp only[List.length_zip];omega
 next=>cases e
def Ri{x y:T}{z:Int}(h:qG x y=some z):∃p q,x=.int p/\y=.int q/\z=p+q:=by
 unfold qG at h;split at h
 ·cases h
  exact⟨_,_,rfl,rfl,rfl⟩
 ·cases h
def SN(k:g4 X.K c C ns)(aX:b3 X o (jm i))(he:cK X e g)(a':ns[j]?=some f:=by rfl):f_ X (.AugAssign (.Attribute o f apos) .Add e pos) (pP c i j g):=
 hk (agV aX he S7) λD σ H ⟨aG,aO,O,F,ε,o,r,e,b'⟩=>by
 simp only[pP,b0,dR] at e;obtain⟨x,ex,y,e2,z,pY,ε',es,rfl⟩:=e;simp only[hr,b0] at ex;obtain⟨⟨m,aB⟩,aE,ex⟩:=ex;split at ex
 next t' aC=>
  cases ex
  obtain⟨p,q,rfl,rfl,rfl⟩:=Ri pY;obtain⟨a,vs,bu,v,ae,hx,av,aq,a4,bV,_⟩:=oA k r aE aC a';refine⟨_,ae,a,C,bu,_,v,rfl,hx,k.cls,lY k a',av,aG,aO,O,F,ε,_,r,e2,λw a5 H1 aU aM=>?_⟩;have bC:=r.ext aU;have ev:v=.int p:=by simpa [lZ,Rep] using bV
  have l4:w=.int q:=by simpa [Rep] using aM
  obtain⟨kr,e7,ug,dW,lB,Nw,mN,_⟩:=qA k bC aE;rw[ae] at dW;cases dW;obtain⟨aw,b7⟩:=bC.A1 (s:=.U (.int (p+q))) (v:=.int (p+q)) k aE ae mN es (by simp[lZ,Rep]) (λb ab=>by simp[d7] at ab) lB a';refine⟨p,q,ev,l4,ug,_,lB,?_,b' σ a5 _ (aU.aw.trans aw) b7⟩;have:=k.zz;simp only[List.length_zip];omega
 next=>cases ex
def SO(k:g4 X.K c C ns)(aX:b3 X o (jm i)){mH de:Pos}(he:cK X e g)(a':ns[j]?=some f:=by rfl)(ab:ir o f X.env (eval o X.env)=eval o X.env:=by rfl)
  (j0:bb [e] X.env=(false,eval e X.env)::bb [] X.env:=by rfl)
  (i8:ir (.Attribute o f apos) "append" X.env (eval (.Attribute o f apos) X.env)=eval (.Attribute o f apos) X.env:=by rfl)
  (l8:((c0 de (bb [e] X.env)).all (λx=>!x.1) && (gm de (gk [] X.env)).all (λx=>x.1.isSome)
   && decide (([e]:List bz).length+([]:List Keyword).length+(if ([]:List Keyword).isEmpty then 0 else 1)<30))=true:=by rfl)
  (i9:(mH.endLine==de.line)=true:=by rfl) (l_:(c0 de (bb [] X.env)).any (·.1)=false:=by rfl)
  (l':iu (.Call (.Attribute (.Attribute o f apos) "append" mH) [e] [] de) none pos.line X.env=pure false:=by rfl):
  f_ X (.Expr (.Call (.Attribute (.Attribute o f apos) "append" mH) [e] [] de) pos) (pO c i j g):=
 hk (vv (vJ tp PySem.F.slot_list_append PySem.F.type_list_append J_ (qz aX ab) (iR he jM j0) i8 l8 i9 j0 l_) l') λD σ H ⟨aG,aO,O,F,ε,o,r,e,b'⟩=>by
 simp only[pO,b0] at e;obtain⟨t,bM,ts,jY,e⟩:=e;split at e
 next hz=>
  simp only[dR] at e;obtain⟨ε',es,rfl⟩:=e;obtain⟨m,aB,aE,aC⟩:=Q1 jY;obtain⟨a,vs,bu,v,ae,hx,av,aq,a4,⟨b,us,dQ,ab,fw⟩,_⟩:=oA k r aE aC a';subst dQ;refine⟨_,ae,a,C,bu,_,_,rfl,hx,k.cls,lY k a',av,.inl ⟨rfl,_,gb.of ab⟩,aG,aO,O,F,ε,t,r,bM,λv a5 H1 aU aM=>?_⟩;have bC:=r.ext aU;obtain⟨a1,o6,alq,v1,M6,alP,iG,zK,zX,⟨b1,OS,XP,sx,uQ⟩,_⟩:=oA k bC aE aC a';rw[ae] at M6;cases M6;have ev:o6=vs:=by rw[<- zK.vals,<- (aq.keep ((aU.same.get hx).trans hx.symm)).vals]
  subst ev;rw[a4] at zX;cases zX;cases XP;obtain⟨aw,b7⟩:=bC.Az (s':=.own (ts++[t])) (o':=.lst (OS++[v])) aE ae zK es aC a4 (by simp[d7,hV]) rfl λaw=>⟨b,_,rfl,dN,(uQ.aw aw).append (bp.cons (aM.aw aw) bp.nil)⟩;exact⟨b,OS,v,rfl,rfl,sx,by rw[lh,<- uQ.length];exact hz,b' σ a5 _ (aU.aw.trans aw) b7⟩
 next=>cases e
def ajO(k:g4 X.K c C ns)(bH:X.A.units+1<cLine)(aX:b3 X o (jm i)){o3:Pos}(aq:eh X a h)(he:cK X e g)(a':ns[j]?=some f:=by rfl)(ab:ir o f X.env (eval o X.env)=eval o X.env:=by rfl)
  (aC:iu e (some (.Subscript (.Attribute o f apos) a o3)) pos.line X.env=pure false:=by rfl):
  f_ X (.Assign [.Subscript (.Attribute o f apos) a o3] e pos) (rN c i j h g):=hk (R9 bH (qz aX ab) aq he aC) λD σ H ⟨aG,aO,O,F,ε,o,r,e,b'⟩=>by
 simp only[rN,b0] at e;obtain⟨v,ev,t,bM,key,eK,kvs,eR,e⟩:=e;split at e
 next hz=>
  simp only[dR] at e;obtain⟨ε',es,rfl⟩:=e;obtain⟨m,aB,aE,aC⟩:=B2 eR;refine⟨aG,aO,O,F,ε,v,r,ev,λo7 a5 H1 aU aM=>?_⟩;have bC:=r.ext aU;obtain⟨a,vs,bu,w,ae,hx,av,aq,a4,⟨b,us,dQ,ab,fw⟩,_⟩:=oA k bC aE aC a';subst dQ;refine⟨_,ae,a,C,bu,_,_,rfl,hx,k.cls,lY k a',av,aG,aO,O,a5,ε,t,bC,bM,λOT dt bf bQ a9=>?_⟩;have b7:=bC.ext bQ;have Fy:h2 bf a c vs:=aq.keep ((bQ.same.get hx).trans hx.symm);have Iz:=dE.aw (bQ.aw (K:=X.K)) fw;obtain⟨aw,iK⟩:=b7.Az (s':=.fD (putD kvs key v)) (o':=.dP (putK us key o7)) aE ae Fy es aC a4 (by simp[d7,hV]) rfl λaw=>⟨b,_,rfl,dN,dE.put (dE.aw aw Iz) ((aM.ext bQ).aw aw)⟩;refine⟨b,_,rfl,?_,b' σ dt _ ((aU.trans bQ).aw.trans aw) iK⟩;rw[ox eK a9];exact qI.k (bQ.same.get ab) (by rw[lh,<- fw.length];exact hz)
 next=>cases e
def aiR(k:g4 X.K c C ns)(bH:X.A.units+1<cLine)(aX:b3 X o (jm i)){o3:Pos}(aq:eh X a h)(he:cK X e g)(a':ns[j]?=some f:=by rfl)(ab:ir o f X.env (eval o X.env)=eval o X.env:=by rfl)
  (Yj:∀e5 al3 new,augStore a e5 al3 new=(do holding [new,e5,al3] (setItem e5 al3 new);release [new,e5,al3] [];pure .next):=by intros;rfl):
  f_ X (.AugAssign (.Subscript (.Attribute o f apos) a o3) .Add e pos) (rR c i j h g):=hk (ai4 bH (qz aX ab) aq he S7 Yj) λD σ H ⟨aG,aO,O,F,ε,o,r,e,b'⟩=>by
 simp only[rR,b0] at e;obtain⟨t,bM,key,eK,kvs,eR,x,nR,y,e2,z,pY,e⟩:=e;split at e
 next hz=>
  simp only[dR] at e;obtain⟨ε',es,rfl⟩:=e;obtain⟨p,q,rfl,rfl,rfl⟩:=Ri pY;obtain⟨m,aB,aE,aC⟩:=B2 eR;obtain⟨a,vs,bu,w,ae,hx,av,aq,a4,⟨b,us,dQ,ab,fw⟩,_⟩:=oA k r aE aC a';subst dQ;refine⟨_,ae,a,C,bu,_,_,rfl,hx,k.cls,lY k a',av,aG,aO,O,F,ε,t,r,bM,λOT a5 H1 aU aM=>?_⟩;have bC:=r.ext aU;have uQ:=dE.aw (aU.aw (K:=X.K)) fw;have sx:=aU.same.get ab;obtain⟨w,hw,jj⟩:=uQ.get nR;have l4:w=.int p:=by simpa [Rep] using jj
  subst l4;refine⟨b,_,rfl,by rw[ox eK aM,<- hw];exact mD.k sx,aG,aO,O,a5,ε,_,bC,e2,λo7 dt bf bQ a9=>?_⟩;have ev:o7=.int q:=by simpa [Rep] using a9
  subst ev;refine⟨p,q,rfl,rfl,?_⟩;have b7:=bC.ext bQ;have qj:=aU.trans bQ;have Fy:h2 bf a c vs:=aq.keep ((qj.same.get hx).trans hx.symm);have Iz:=dE.aw (qj.aw (K:=X.K)) fw;obtain⟨aw,iK⟩:=b7.Az (s':=.fD (putD kvs key (.int (p+q)))) (o':=.dP (putK us key (.int (p+q)))) aE ae Fy es aC a4 (by simp[d7,hV]) rfl λaw=>⟨b,_,rfl,dN,dE.put (dE.aw aw Iz) (by simp[Rep])⟩;refine⟨_,?_,b' σ dt _ (qj.aw.trans aw) iK⟩;rw[ox eK aM];exact qI.k (qj.same.get ab) (by rw[lh,<- fw.length];exact hz)
 next=>cases e
end
end
section
variable [cG]
noncomputable def Ln(K:br)(F:ak->Prop)(H:aA)(ss:List aR)(vs:List V):Prop:=Paired (λs v=>s.iH=false/\el K ⟨H,0⟩ (λa=>H a=none) F H s v) ss vs
noncomputable def OI(K:br)(n:Nat)(d:List aR->Option T):kT:=λvs H Q _=>vs.length=n/\∃F ss t,fo F H/\Ln K F H ss vs/\d ss=some t/\∀v aF ah,Ext F H aF ah->Rep K aF ah t v->Q v ah
section
variable {K:br}{F aF aG O:ak->Prop}{H ah:aA}{E pE:gS}
theorem Paired.get{α β:Type}{R:α->β->Prop}:∀{xs:List α} {ys:List β} {i:Nat} {x:α},Paired R xs ys->xs[i]?=some x->∃y,ys[i]?=some y/\R x y
|_,_,i,x,.nil,e=>by simp at e
|_,_,0,x,.cons r _,e=>by
  simp at e;subst e;exact⟨_,rfl,r⟩
|_,_,i+1,x,.cons _ t,e=>by
  obtain⟨y,ae,aj⟩:=Paired.get (i:=i) (x:=x) t (by simpa using e);exact⟨y,by simpa using ae,aj⟩
def x7{ss:List aR}{n i:Nat}{s:aR}(h:(la n ss)[i]?=some (some s)):ss[i]?=some s:=by
 unfold la at h;by_cases ba:i<ss.length
 ·rw[u2 (by simpa using ba),jn,g0 ba] at h;rw[g0 ba];simpa using h
 ·rw[u1 (by simpa using ba),List.getElem?_replicate] at h;split at h <;> cases h
def QE{vs:List V}{n i:Nat}{v:V}(h:vs[i]?=some v):(vs.map some++jE n none)[i]?=some (some v):=by
 have ba:=(gZ.mp h).1;rw[u2 (by simpa using ba),jn,h];rfl
def Tn{m:hl}{c:Nat}{aB:List aR}{v:V}(r:el K E O F H (.obj m c aB) v)(pE:gS)(nH:ak->Prop)(he:∀b∈dr H (.obj m c aB) v,pE.h b≠none):el K pE nH F H (.obj .ht c aB) v:=by
 have cu:=r;obtain⟨a,vs,rfl,aq,hf,aW,gx,je⟩:=r;rw[kM aq] at he;exact⟨a,vs,rfl,aq,hf,aW,λb ab=>⟨(gx b ab).1,he b ab⟩,λz=>by cases z⟩
def afs{ss:List aR}{vs:List V}(cf:fo F H)(q:Ln K F H ss vs)(n:Nat):cH K F ⟨H,0⟩ (λa=>H a=none) F H (la n ss) (vs.map some++jE (n - vs.length) none):=by
 have av:ss.length=vs.length:=Paired.length q;refine⟨by simp[la,av],λi s e=>?_,λi j s u v w jA ax aL d_=>?_,Ext.refl cf,λ_ h=>h,λ_ h=>h⟩
 ·obtain⟨v,a4,_,bV⟩:=Paired.get q (x7 e);exact⟨v,QE a4,bV⟩
 ·obtain⟨_,_,z,_⟩:=Paired.get q (x7 ax);rw[z] at d_;cases d_
theorem R5:∀{ts:List T} {vs:List V},bp K F H ts vs->Ln K F H (ts.map .U) vs
| [],vs,h=>by
  simp only[bp] at h;subst h;exact .nil
|t::ts,vs,h=>by
  simp only[bp] at h;obtain⟨v,z,rfl,q,h⟩:=h;exact .cons ⟨rfl,q⟩ (R5 h)
end
section
variable {P:cE}{w:b8}{K:br}{mg:Str->Option ag}{base:bI}
def ajs{x qual:Str}{st:Stmt}{f:ak}{fd:gi}{N ps:List Str}{k:Nat}{b:bD}(F:cW K x qual st f fd)(S:c' N ps (cb st))
  (ab:∀(cX:ag) (A:cU) (outer:List Env) (s:aK) (H:aA) (E:gU),dF k (A.deeper (envOfC qual (cb st) s.heap.objs.size f cX)) ->
   iW (jX fg P w K mg base N qual (cb st) f cX A outer s H E).kD (hK st) b):
  fh P w K mg base fg (k+1) f fd ps (OI K ps.length (k4 b N.length)):=by
 refine F.ok S (λvs H Q E h=>h.1) λcX A outer s H vs Q E au h=>⟨_,ab cX A outer s H E au,?_⟩
 obtain⟨av,F,ss,t,cf,q,e,j3⟩:=h;simp only[k4,b0] at e;obtain⟨o,e1,e⟩:=e;refine⟨F,⟨H,0⟩,λa=>H a=none,F,_,o,?_,e1,?_⟩
 ·unfold bG.start;exact afs cf q N.length
 ·cases o with
  |dB t'=>
   cases e
   exact λv aF ah x q=>j3 v aF ah x q
  |bR ε'=>
   cases e
   exact λcj aF ah _ r=>j3 _ aF ah r.ent (by simp[Rep])
  |gC _=>cases e
  |dO _=>cases e
  |jC _ _=>cases e
  |j6 _=>cases e
structure jT(P:cE)(w:b8)(K:br)(mg:Str->Option ag)(base:bI)(C:ak)(m:Str)(k n:Nat)(d:List aR->Option T):Prop where
 ex:∃cY fd ps,fh P w K mg base fg k cY fd ps (OI K n d)/\Meth K C m cY/\Binds K fd ps []
theorem jT.mono{C:ak}{m:Str}{k n j:Nat}{d:List aR->Option T}(c:jT P w K mg base C m j n d)(h:j<=k):jT P w K mg base C m k n d:=by
 obtain⟨cY,fd,ps,F,r⟩:=c.ex;exact⟨cY,fd,ps,F.mono h,r⟩
def yx{C:ak}{m qual:Str}{st:Stmt}{f:ak}{fd:gi}{N ps:List Str}{k:Nat}{b:bD}(F:cW K m qual st f fd)(S:c' N ps (cb st))(bd:Binds K fd ps [])(fZ:Meth K C m f)
  (ab:∀(cX:ag) (A:cU) (outer:List Env) (s:aK) (H:aA) (E:gU),dF k (A.deeper (envOfC qual (cb st) s.heap.objs.size f cX)) ->
   iW (jX fg P w K mg base N qual (cb st) f cX A outer s H E).kD (hK st) b):jT P w K mg base C m (k+1) ps.length (k4 b N.length):=⟨f,fd,ps,ajs F S ab,fZ,bd⟩
end
theorem yk:∀{fH:List bK} {ε:Ev} {us:List T},args fH ε=some us->us.length=fH.length
| [],ε,us,e=>by
  cases e
  rfl
|g::fH,ε,us,e=>by
  simp only[args,b0,dR] at e;obtain⟨t,_,vs,ev,rfl⟩:=e;simp[yk ev]
section
variable {X:bt}{k n c C i:Nat}{ns:List Str}{d:List aR->Option T}{x m:Str}{p pos apos:Pos}{o e:bz}{es:List bz}{as:List TB}{aB:List bK}
def yl(g9:g4 X.K c C ns)(nB:jT X.prog X.w X.K X.mg X.base C m k n d)(au:dF k X.A)(aX:b3 X o (jm i))(aq:mF X (e::es) aB){pl:Sem Bool}(hm:m∉ns:=by decide +kernel)(av:aB.length+1=n:=by rfl)
  (ib:bb (e::es) X.env=(false,eval e X.env)::bb es X.env:=by rfl) (hpl:(c0 pos (bb es X.env)).any (·.1)=false:=by rfl)
  (bo:eval (.Call (.Attribute o m apos) (e::es) [] pos) X.env=(do
   let e5 <- eval o X.env
   standAt apos.atName
   let (f,first) <- holding [e5] (getMethod e5 m pl)
   callWith pos f first (c0 pos (bb (e::es) X.env)) (gm pos (gk [] X.env))):=by rfl):cK X (.Call (.Attribute o m apos) (e::es) [] pos) (nx c d i aB):=by
 obtain⟨cY,fd,ps,F,fZ,b⟩:=nB.ex;refine ew (R_ aX g9.cls fZ F au b .nil amo aq ib hpl bo) λσ H Q ⟨aG,E,O,F,ε,t,r,e,k⟩=>?_;simp only[nx,b0] at e;obtain⟨⟨sP,os⟩,aE,ts,bM,eR⟩:=e;obtain⟨a,vs,bu,ae,hx,_⟩:=qA g9 r aE;refine⟨_,ae,a,bu,_,rfl,hx,xS hm,aG,E,O,F,ε,ts,r,bM,λws a5 H1 aU q=>⟨?_,a5,_,t,aU.cf,?_,eR,λv aF ah bQ a9=>k v aF ah (aU.trans bQ) a9⟩⟩
 ·rw[nh,eJ,<- q.length,yk bM,av]
 ·rw[nh];have bC:=r.ext aU;obtain⟨lN,dW,rs⟩:=bC.val i _ (pj aE);rw[ae] at dW;cases dW;refine .cons ⟨rfl,Tn rs _ _ λb ab=>?_⟩ (R5 q);obtain⟨o,e,_⟩:=rs.at ab;show H1 b≠none;rw[e];exact λz=>by cases z
end
end
section
variable [cG]
open Classical in
noncomputable def hN(H:aA)(P:List ak)(a:ak):gS:=⟨λb=>if b∈P then none else H b,a⟩
section
variable {K:br}{F aF aG O:ak->Prop}{H ah:aA}{E:gS}{P:List ak}{a b:ak}{o:ey}{ε:Ev}{σ:bG.St}{c i:Nat}{m:hl}{aB hS:List aR}
def Ce(h:b∈P):(hN H P a).h b=none:=if_pos h
def aml(h:b∉P):(hN H P a).h b=H b:=if_neg h
def BR(h:(hN H P a).h b=none):b∈P\/H b=none:=by
 by_cases z:b∈P
 ·exact .inl z
 ·rw[aml z] at h;exact .inr h
def aga(h:(hN H P a).h b=some o):b∉P/\H b=some o:=by
 by_cases z:b∈P
 ·rw[Ce z] at h;cases h
 ·exact⟨z,by rw[aml z] at h;exact h⟩
def aik(d:fo F H):Ext F (hN H P a).h F H:=⟨λ_ _ q=>.inl (aga q).2,λ_ h=>h,λ_ h=>.inl h,d⟩
def ajj{v:V}(r:el K E O F H (.obj m c aB) (.ref a)):el K (hN H (dr H (.obj m c aB) (.ref a)) a) (λb=>(hN H (dr H (.obj m c aB) (.ref a)) a).h b=none) F H (.obj .ej c aB) (.ref a):=by
 obtain⟨kr,vs,e,aq,hf,aW,gx,je⟩:=r;cases e;rw[kM aq];exact⟨a,vs,rfl,aq,hf,aW,λb ab=>⟨(gx b ab).1,Ce ab⟩,λ_=>rfl⟩
def cH.back(r:cH K aG E O F H ε σ)(e:ε[i]?=some (some (.obj m c aB)))(hm:m≠.ht)(ae:σ[i]?=some (some (.ref a)))(fJ:P=dr H (.obj m c aB) (.ref a))(x:Ext F (hN H P a).h aF ah)
  (rs:el K (hN H P a) (λb=>(hN H P a).h b=none) aF ah (.obj .ej c hS) (.ref a)):d6 K F H aF ah/\cH K aG E O aF ah (ε.set i (some (.obj m c hS))) σ:=by
 obtain⟨v,dW,n6⟩:=r.val i _ e;rw[ae] at dW;cases dW;have wL:(aR.obj m c aB).iH=true:=CG hm;have sJ:∀b∈P,(∃o,H b=some o/\nC o)/\¬F b/\O b:=λb ab=>by
  rw[fJ] at ab;exact⟨n6.at ab,(n6.held ab).1,(n6.held ab).2.1 wL⟩
 have kF:∀b o,b∉P->H b=some o->(∀ps,o≠.ij ps)->ah b=some o:=λb o ab e n=>x.same.get (by rw[aml ab];exact e) n;have aw:d6 K F H aF ah:=by
  refine⟨λb xs q=>?_,λb xs f q=>⟨x.sub b f,?_⟩⟩
  ·rcases q with q|q
   ·refine .inl ?_
    have nb:b∉P:=λz=>by
     obtain⟨⟨o,e1,aE⟩,_⟩:=sJ b z;rcases q with q|⟨_,q⟩ <;> (rw[e1] at q;cases q;exact aE.cases (λ_ z=>by cases z) (λ_ z=>by cases z) (λ_ _ _ z=>by cases z))
    rcases q with q|⟨u,q⟩
    ·exact .inl (kF b _ nb q λ_ z=>by cases z)
    ·exact .inr ⟨u,kF b _ nb q λ_ z=>by cases z⟩
   ·exact .inr q
  ·have nb:b∉P:=λz=>(sJ b z).2.1 f;rcases q with q|⟨u,q⟩
   ·exact .inl (kF b _ nb q λ_ z=>by cases z)
   ·exact .inr ⟨u,kF b _ nb q λ_ z=>by cases z⟩
 have Oa:∀b,aF b->F b\/b∈P\/H b=none:=λb f=>by
  rcases x.new b f with z|z
  ·exact .inl z
  ·exact .inr (BR z)
 have keep:∀(j:Nat) (u:aR) (w:V),i≠j->ε[j]?=some (some u)->σ[j]?=some (some w)->el K E O F H u w->(∀b∈dr H u w,b∉P)/\el K E O aF ah u w/\dr ah u w=dr H u w:=by
  intro j u w jA sl a' c_;have sR:∀b∈dr H u w,b∉P:=λb ab z=>by
   cases q_:u.iH with
   |true=>exact r.ne i j _ u _ w jA e sl wL q_ ae a' b (fJ▸z) ab
   |false=>exact (c_.held ab).2.2 q_ (r.o0 b (sJ b z).2.2)
  refine⟨sR,c_.keep aw (λb ab=>?_) (λb ab f=>?_) λ_ _ o=>o⟩
  ·obtain⟨o,e1,aE⟩:=c_.at ab;rw[e1];exact kF b o (sR b ab) e1 λps z=>by subst z;exact aE.cases (λ_ z=>by cases z) (λ_ z=>by cases z) (λ_ _ _ z=>by cases z)
  ·rcases Oa b f with z|z|z
   ·exact z
   ·exact absurd z (sR b ab)
   ·obtain⟨o,e1,_⟩:=c_.at ab;rw[z] at e1;cases e1
 obtain⟨kr,vs,d0,aq,hf,aW,gx,_⟩:=rs;cases d0;have kz:∀b∈a::dk hS vs,¬aF b/\(b∈P\/H b=none):=λb ab=>by
  obtain⟨n,q⟩:=gx b ab;exact⟨n,BR q⟩
 have alM:(aR.obj m c hS).iH=true:=CG hm;have _k:m=.ej->a=E.je:=by
  obtain⟨_,_,cx,_,_,_,_,je⟩:=n6;cases cx;exact je
 have abv:∀b,¬aF b/\O b->vX E O aF m b:=λb h=>by
  cases m with
  |ht=>exact absurd rfl hm
  |own=>exact h
  |ej=>exact h
 have xj:el K E O aF ah (.obj m c hS) (.ref a):=⟨a,vs,rfl,aq,hf,aW,λb ab=>abv b ⟨(kz b ab).1,by
  rcases (kz b ab).2 with z|z
  ·exact (sJ b z).2.2
  ·exact r.fr b z⟩,_k⟩
 have jz:dr ah (.obj m c hS) (.ref a)=a::dk hS vs:=kM aq;have apart:∀(j:Nat) (u:aR) (w:V),i≠j->ε[j]?=some (some u)->σ[j]?=some (some w)->el K E O F H u w->∀b∈dr ah (.obj m c hS) (.ref a),b∉dr H u w:=λj u w jA sl a' c_ b ab jy=>by
  rw[jz] at ab;rcases (kz b ab).2 with z|z
  ·exact (keep j u w jA sl a' c_).1 b jy z
  ·obtain⟨o,e1,_⟩:=c_.at jy;rw[z] at e1;cases e1
 refine⟨aw,⟨by simp[r.len],λj u bg=>?_,λj k u w oe mi oU ax aL d_ fv aM a9=>?_,⟨λb o q=>?_,λb f=>x.sub b (r.ent.sub b f),λb f=>?_,x.cf⟩,r.o0,λb bg=>?_⟩⟩
 ·rcases get_set bg with ⟨rfl,pX,av⟩|⟨ne,pX⟩
  ·cases pX
   exact⟨_,ae,xj⟩
  ·obtain⟨w,aj,c_⟩:=r.val j u pX;exact⟨w,aj,(keep j u w ne pX aj c_).2.1⟩
 ·rcases get_set ax with ⟨rfl,bg,av⟩|⟨ne1,kv⟩
  ·rcases get_set aL with ⟨rfl,_,_⟩|⟨ne2,hA⟩
   ·exact absurd rfl oU
   ·cases bg
    rw[ae] at aM;cases aM;obtain⟨dv,aj,c_⟩:=r.val k w hA;rw[a9] at aj;cases aj;rw[(keep k w mi ne2 hA a9 c_).2.2];exact apart k w mi ne2 hA a9 c_
  ·obtain⟨v1,aj,bC⟩:=r.val j u kv;rw[aM] at aj;cases aj;rw[(keep j u oe ne1 kv aM bC).2.2];rcases get_set aL with ⟨rfl,bg,av⟩|⟨ne2,hA⟩
   ·cases bg
    rw[ae] at a9;cases a9;intro b ab jy;exact apart j u oe ne1 kv aM bC b jy ab
   ·obtain⟨dv,a8,b7⟩:=r.val k w hA;rw[a9] at a8;cases a8;rw[(keep k w mi ne2 hA a9 b7).2.2];exact r.ne j k u w oe mi oU kv hA d_ fv aM a9
 ·have nb:b∉P:=λz=>by
   rw[r.o0 b (sJ b z).2.2] at q;cases q
  rcases r.ent.same b o q with z|⟨ps,rb,ax,z⟩
  ·exact x.same b o (by rw[aml nb];exact z)
  ·rcases x.same b _ (by rw[aml nb];exact z) with f9|⟨_,xe,_,f9⟩
   ·exact .inr ⟨ps,rb,ax,f9⟩
   ·exact .inr ⟨ps,xe,ax,f9⟩
 ·rcases Oa b f with z|z|z
  ·exact r.ent.new b z
  ·exact .inr (r.o0 b (sJ b z).2.2)
  ·exact .inr (r.o0 b (r.fr b z))
 ·rcases BR (x.same.none bg) with z|z
  ·exact (sJ b z).2.2
  ·exact r.fr b z
end
noncomputable def xq(K:br)(n c p:Nat)(d:List aR->Option (T×List aR)):kT:=λvs H Q _=>vs.length=n/\∃(F:ak->Prop) (ss:List aR) (a:ak) (P:List ak) (aB:List aR) (r:T×List aR),fo F H/\vs[p]?=some (.ref a)/\ss[p]?=some (.obj .ej c aB) /\
 Paired (λs v=>el K (hN H P a) (λb=>(hN H P a).h b=none) F H s v) ss vs/\(∀q s,q≠p->ss[q]?=some s->s.iH=false)/\d ss=some r /\
 ∀v aF ah,Ext F (hN H P a).h aF ah->Rep K aF ah r.1 v->el K (hN H P a) (λb=>(hN H P a).h b=none) aF ah (.obj .ej c r.2) (.ref a)->Q v ah
section
variable {P:cE}{w:b8}{K:br}{mg:Str->Option ag}{base:bI}
def afE{c p:Nat}{ε:Ev}{aB:List aR}(h:pn c p ε=some aB):ε[p]?=some (some (.obj .ej c aB)):=by
 unfold pn at h;split at h
 next cA hS e=>
  split at h
  next ar=>
   cases h
   rw[e,ar]
  next=>cases h
 next=>cases h
def Sp{x qual:Str}{st:Stmt}{f:ak}{fd:gi}{N ps:List Str}{k c p:Nat}{b:bD}(F:cW K x qual st f fd)(S:c' N ps (cb st))
  (ab:∀(cX:ag) (A:cU) (outer:List Env) (s:aK) (H:aA) (E:gU),dF k (A.deeper (envOfC qual (cb st) s.heap.objs.size f cX)) ->
   iW (jX fg P w K mg base N qual (cb st) f cX A outer s H E).kD (hK st) b):
  fh P w K mg base fg (k+1) f fd ps (xq K ps.length c p (runM c p b N.length)):=by
 refine F.ok S (λvs H Q E h=>h.1) λcX A outer s H vs Q E au h=>⟨_,ab cX A outer s H E au,?_⟩
 obtain⟨av,F,ss,a,r3,aB,r,cf,a4,aC,q,aE,e,j3⟩:=h;simp only[runM,b0] at e;obtain⟨o,e1,e⟩:=e;have hlen:ss.length=vs.length:=Paired.length q;refine⟨F,hN H r3 a,λb=>(hN H r3 a).h b=none,F,_,o,?_,e1,?_⟩
 ·unfold bG.start;refine⟨by simp[la,hlen],λi s e=>?_,λi j s u v w jA ax aL d_ fv=>?_,aik cf,λ_ h=>h,λb ab=>?_⟩
  ·obtain⟨v,a4,bV⟩:=Paired.get q (x7 e);exact⟨v,QE a4,bV⟩
  ·by_cases ba:i=p
   ·subst ba;rw[aE j u (Ne.symm jA) (x7 aL)] at fv;cases fv
   ·rw[aE i s ba (x7 ax)] at d_;cases d_
  ·by_cases z:b∈r3
   ·exact Ce z
   ·exact (aml z).trans ab
 ·have fin:∀{ε':Ev} {cj:bG.St} {aF:ak->Prop} {ah:aA} {hS:List aR},cH K F (hN H r3 a) (λb=>(hN H r3 a).h b=none) aF ah ε' cj->pn c p ε'=some hS->el K (hN H r3 a) (λb=>(hN H r3 a).h b=none) aF ah (.obj .ej c hS) (.ref a):=λcu jY=>by
   obtain⟨lN,_,rs⟩:=cu.val p _ (afE jY);have xj:=rs;obtain⟨kr,_,rfl,_,_,_,_,je⟩:=rs;have:kr=a:=je rfl;subst this;exact xj
  cases o with
  |dB t'=>cases e
  |bR ε'=>
   simp only[dR] at e;obtain⟨hS,jY,rfl⟩:=e;exact λcj aF ah _ cu=>j3 _ aF ah cu.ent (by simp[Rep]) (fin cu jY)
  |gC _=>cases e
  |dO _=>cases e
  |jC t ε'=>
   simp only[dR] at e;obtain⟨hS,jY,rfl⟩:=e;exact λv cj aF ah cu bV=>j3 v aF ah cu.ent bV (fin cu jY)
  |j6 _=>cases e
structure dg(P:cE)(w:b8)(K:br)(mg:Str->Option ag)(base:bI)(C:ak)(c:Nat)(m:Str)(k n:Nat)(d:List aR->Option (T×List aR)):Prop where
 ex:∃cY fd ps,fh P w K mg base fg k cY fd ps (xq K n c 0 d)/\Meth K C m cY/\Binds K fd ps []
theorem dg.mono{C:ak}{c:Nat}{m:Str}{k n j:Nat}{d:List aR->Option (T×List aR)}(h:dg P w K mg base C c m j n d)(a':j<=k):dg P w K mg base C c m k n d:=by
 obtain⟨cY,fd,ps,F,r⟩:=h.ex;exact⟨cY,fd,ps,F.mono a',r⟩
def jN{C:ak}{m qual:Str}{st:Stmt}{f:ak}{fd:gi}{N ps:List Str}{k c:Nat}{b:bD}(F:cW K m qual st f fd)(S:c' N ps (cb st))(bd:Binds K fd ps [])(fZ:Meth K C m f)
  (ab:∀(cX:ag) (A:cU) (outer:List Env) (s:aK) (H:aA) (E:gU),dF k (A.deeper (envOfC qual (cb st) s.heap.objs.size f cX)) ->
   iW (jX fg P w K mg base N qual (cb st) f cX A outer s H E).kD (hK st) b):dg P w K mg base C c m (k+1) ps.length (runM c 0 b N.length):=⟨f,fd,ps,Sp F S ab,fZ,bd⟩
end
noncomputable def tX(K:br)(f:rX):TE:=λσ H Q=>∃aG E O F ε t ε',cH K aG E O F H ε σ/\f ε=some (t,ε')/\∀v aF ah,d6 K F H aF ah->cH K aG E O aF ah ε' σ->Rep K aF ah t v->Q v ah
abbrev Df(X:bt)(e:bz)(f:rX):Prop:=b3 X e (tX X.K f)
section
variable {X:bt}{k n c C i:Nat}{ns:List Str}{d:List aR->Option (T×List aR)}{x m:Str}{p pos apos:Pos}{o e:bz}{es:List bz}{aB fH:List bK}{M3:rX}
theorem KO{K:br}{E:gS}{O F:ak->Prop}{H:aA}:∀{ts:List T} {vs:List V},bp K F H ts vs->Paired (λs v=>el K E O F H s v) (ts.map .U) vs
| [],vs,h=>by
  simp only[bp] at h;subst h;exact .nil
|t::ts,vs,h=>by
  simp only[bp] at h;obtain⟨v,z,rfl,q,h⟩:=h;exact .cons q (KO h)
def Sn{ts:List T}{q:Nat}{s:aR}(h:(ts.map aR.U)[q]?=some s):s.iH=false:=by
 rw[jn] at h;cases e:ts[q]? with
|none=>rw[e] at h;cases h
|some t=>rw[e] at h;cases h;rfl
def RE{σ:bG.St}{H H1:aA}{aG O F a5:ak->Prop}{E:gS}{ε:Ev}{sP:hl}{os:List aR}{a:ak}{Q:dj}{ws:List V}{ts:List T}{r:T×List aR}(rE:cH X.K aG E O F H ε σ)(aE:ig c i ε=some (sP,os))(hm:sP≠.ht)(ae:σ[i]?=some (some (.ref a)))
  (aU:Ext F H a5 H1) (q:bp X.K a5 H1 ts ws) (eR:d (.obj .ej c os::ts.map .U)=some r) (av:ts.length+1=n)
  (b':∀v aF ah,d6 X.K F H aF ah->cH X.K aG E O aF ah (ε.set i (some (.obj sP c r.2))) σ->Rep X.K aF ah r.1 v->Q v ah):xq X.K n c 0 d (.ref a::ws) H1 Q yM:=by
 have bC:=rE.ext aU;obtain⟨lN,dW,rs⟩:=bC.val i _ (pj aE);rw[ae] at dW;cases dW;refine⟨by simp[<- q.length,av],a5,_,a,dr H1 (.obj sP c os) (.ref a),os,r,aU.cf,rfl,rfl,.cons (ajj (v:=.ref a) rs) (KO q),λj s a' aC=>?_,eR,λv aF ah bQ bV acv=>?_⟩
 ·cases j with
  |zero=>exact absurd rfl a'
  |succ j=>exact Sn (q:=j) (by simpa using aC)
 ·obtain⟨aw,b7⟩:=bC.back (pj aE) hm ae rfl bQ acv;exact b' v aF ah (aU.aw.trans aw) b7 bV
def fS(g9:g4 X.K c C ns)(nB:dg X.prog X.w X.K X.mg X.base C c m k n d)(au:dF k X.A)(aX:b3 X o (jm i))(aq:mF X (e::es) aB){pl:Sem Bool}(hm:m∉ns:=by decide +kernel)(av:aB.length+1=n:=by rfl)
  (ib:bb (e::es) X.env=(false,eval e X.env)::bb es X.env:=by rfl) (hpl:(c0 pos (bb es X.env)).any (·.1)=false:=by rfl)
  (bo:eval (.Call (.Attribute o m apos) (e::es) [] pos) X.env=(do
   let e5 <- eval o X.env
   standAt apos.atName
   let (f,first) <- holding [e5] (getMethod e5 m pl)
   callWith pos f first (c0 pos (bb (e::es) X.env)) (gm pos (gk [] X.env))):=by rfl):Df X (.Call (.Attribute o m apos) (e::es) [] pos) (dT c d i aB):=by
 obtain⟨cY,fd,ps,F,fZ,b⟩:=nB.ex;refine ew (R_ aX g9.cls fZ F au b .nil amo aq ib hpl bo) λσ H Q ⟨aG,E,O,F,ε,t,ε',r,e,b'⟩=>?_;simp only[dT,b0] at e;obtain⟨⟨sP,os⟩,aE,e⟩:=e;split at e
 next=>cases e
 next F0=>
  simp only[b0,dR] at e;obtain⟨ts,bM,cu,eR,e⟩:=e;cases e;obtain⟨a,vs,bu,ae,hx,_⟩:=qA g9 r aE;refine⟨_,ae,a,bu,_,rfl,hx,xS hm,aG,E,O,F,ε,ts,r,bM,λws a5 H1 aU q=>?_⟩;show xq X.K n c 0 d (V.ref a::(ws++[])) H1 Q yM;rw[nh];exact RE r aE F0 ae aU q eR (by rw[yk bM,av]) b'
def tM(g9:g4 X.K c C ns)(nB:dg X.prog X.w X.K X.mg X.base C c m k n d)(au:dF k X.A)(aX:b3 X o (jm i)){pl:Sem Bool}(hm:m∉ns:=by decide +kernel)(av:1=n:=by rfl)
  (bo:eval (.Call (.Attribute o m apos) [] [] pos) X.env=(do
   let e5 <- eval o X.env
   standAt apos.atName
   let (f,first) <- holding [e5] (getMethod e5 m pl)
   callWith pos f first (c0 pos (bb [] X.env)) (gm pos (gk [] X.env))):=by rfl):Df X (.Call (.Attribute o m apos) [] [] pos) (dT c d i []):=by
 obtain⟨cY,fd,ps,F,fZ,b⟩:=nB.ex;refine ew (Rz aX g9.cls fZ F au b .nil amo bo) λσ H Q ⟨aG,E,O,F,ε,t,ε',r,e,b'⟩=>?_;simp only[dT,b0] at e;obtain⟨⟨sP,os⟩,aE,e⟩:=e;split at e
 next=>cases e
 next F0=>
  simp only[b0,dR] at e;obtain⟨ts,bM,cu,eR,e⟩:=e;cases e;cases bM;obtain⟨a,vs,bu,ae,hx,_⟩:=qA g9 r aE;refine⟨_,ae,a,bu,_,rfl,hx,xS hm,?_⟩;exact RE r aE F0 ae (Ext.refl r.cf) bp.nil eR (by simpa using av) b'
def eW(h:Df X e M3)(l':iu e none pos.line X.env=pure false:=by rfl):f_ X (.Expr e pos) (d1 M3):=hk (vv h l') λD σ H ⟨aG,E,O,F,ε,o,r,e,k⟩=>by
 simp only[d1,dR] at e;obtain⟨⟨t,ε'⟩,bM,rfl⟩:=e;exact⟨aG,E,O,F,ε,t,ε',r,bM,λv aF ah aw cu _=>k σ aF ah aw cu⟩
def KL:f_ X (.Return none pos) qE:=hk ai3 λD σ H ⟨aG,E,O,F,ε,o,r,e,k⟩=>by
 cases e
 exact k .ff σ F H r (by simp[Rep])
def R2{st:Stmt}:f_ X st never:=λai s σ H D I ⟨aG,E,O,F,ε,o,r,e,k⟩=>by cases e
end
end
section
variable [cG]
noncomputable def tO(K:br)(f:qK):TE:=λσ H Q=>∃aG E O F ε s,cH K aG E O F H ε σ/\f ε=some s/\∀a aF ah,Ext F H aF ah->el K E O aF ah s (.ref a)->(∀b∈dr ah s (.ref a),H b=none)->Q (.ref a) ah
abbrev vZ(X:bt)(e:bz)(f:qK):Prop:=b3 X e (tO X.K f)
noncomputable def OH(K:br)(n:Nat)(d:List T->Option aR):kT:=λvs H Q _=>vs.length=n/\∃F ts s,fo F H/\bp K F H ts vs/\d ts=some s/\∀a aF ah,Ext F H aF ah->el K ⟨H,0⟩ (λb=>H b=none) aF ah s (.ref a)->Q (.ref a) ah
def QN{s t:aR}(h:AL s=some t):∃c os,s=.obj .own c os/\t=.obj .own c os:=by
 unfold AL at h;split at h
 ·cases h
  exact⟨_,_,rfl,rfl⟩
 ·cases h
section
variable {P:cE}{w:b8}{K:br}{mg:Str->Option ag}{base:bI}
def ajt{x qual:Str}{st:Stmt}{f:ak}{fd:gi}{N ps:List Str}{k:Nat}{b:bD}(F:cW K x qual st f fd)(S:c' N ps (cb st))
  (ab:∀(cX:ag) (A:cU) (outer:List Env) (s:aK) (H:aA) (E:gU),dF k (A.deeper (envOfC qual (cb st) s.heap.objs.size f cX)) ->
   iW (jX fg P w K mg base N qual (cb st) f cX A outer s H E).kD (hK st) b):
  fh P w K mg base fg (k+1) f fd ps (OH K ps.length (sX b N.length)):=by
 refine F.ok S (λvs H Q E h=>h.1) λcX A outer s H vs Q E au h=>⟨_,ab cX A outer s H E au,?_⟩
 obtain⟨av,F,ts,t,cf,q,e,j3⟩:=h;simp only[sX,b0] at e;obtain⟨o,e1,e⟩:=e;refine⟨F,⟨H,0⟩,λa=>H a=none,F,_,o,?_,e1,?_⟩
 ·have:=JS (N:=N) cf q (N.length - ts.length);unfold bG.start;rw[q.length] at this ⊢;exact this
 ·cases o with
  |j6 s=>
   obtain⟨c,os,rfl,rfl⟩:=QN e;exact λa aF ah x rs=>j3 a aF ah x rs
  |bR ε'=>cases e
  |gC _=>cases e
  |dO _=>cases e
  |jC _ _=>cases e
  |dB _=>cases e
structure qH(P:cE)(w:b8)(K:br)(mg:Str->Option ag)(base:bI)(x:Str)(k n:Nat)(d:List T->Option aR):Prop where
 ex:∃cY fd ps,fh P w K mg base fg k cY fd ps (OH K n d)/\mg x=some (.ref cY)/\nf K (.ref cY)=true/\Binds K fd ps []
theorem qH.mono{x:Str}{k n j:Nat}{d:List T->Option aR}(c:qH P w K mg base x j n d)(h:j<=k):qH P w K mg base x k n d:=by
 obtain⟨cY,fd,ps,F,r⟩:=c.ex;exact⟨cY,fd,ps,F.mono h,r⟩
def akA{x:Str}{st:Stmt}{f:ak}{fd:gi}{N ps:List Str}{k:Nat}{b:bD}(F:cW K x x st f fd)(S:c' N ps (cb st))(bd:Binds K fd ps [])(m:mg x=some (.ref f))
  (ab:∀(cX:ag) (A:cU) (outer:List Env) (s:aK) (H:aA) (E:gU),dF k (A.deeper (envOfC x (cb st) s.heap.objs.size f cX)) ->
   iW (jX fg P w K mg base N x (cb st) f cX A outer s H E).kD (hK st) b):qH P w K mg base x (k+1) ps.length (sX b N.length):=⟨f,fd,ps,ajt F S ab,m,F.aw,bd⟩
structure rU(P:cE)(w:b8)(K:br)(mg:Str->Option ag)(base:bI)(x:Str)(C:ak)(c k n:Nat)(d:List aR->Option (T×List aR)):Prop where
 ex:∃cY fd ps,fh P w K mg base fg k cY fd ps (xq K n c 0 d)/\vT K C cY/\mg x=some (.ref C)/\Binds K fd ps []
theorem rU.mono{x:Str}{C:ak}{c k n j:Nat}{d:List aR->Option (T×List aR)}(h:rU P w K mg base x C c j n d)(a':j<=k):rU P w K mg base x C c k n d:=by
 obtain⟨cY,fd,ps,F,r⟩:=h.ex;exact⟨cY,fd,ps,F.mono a',r⟩
def akn{x:Str}{C:ak}{qual:Str}{st:Stmt}{f:ak}{fd:gi}{N ps:List Str}{k c:Nat}{b:bD}(F:cW K "__init__" qual st f fd)(S:c' N ps (cb st))(bd:Binds K fd ps [])(fZ:vT K C f)(m:mg x=some (.ref C))
  (ab:∀(cX:ag) (A:cU) (outer:List Env) (s:aK) (H:aA) (E:gU),dF k (A.deeper (envOfC qual (cb st) s.heap.objs.size f cX)) ->
   iW (jX fg P w K mg base N qual (cb st) f cX A outer s H E).kD (hK st) b):rU P w K mg base x C c (k+1) ps.length (runM c 0 b N.length):=⟨f,fd,ps,Sp F S ab,fZ,m,bd⟩
end
section
variable {X:bt}{k n c C i j:Nat}{ns:List Str}{x m f:Str}{p pos apos:Pos}{o e:bz}{es:List bz}{aB:List bK}{ur:qK}
def R6{K:br}{E pE:gS}{O nH aF:ak->Prop}{ah:aA}{m:hl}{c:Nat}{os:List aR}{a:ak}(rs:el K pE nH aF ah (.obj m c os) (.ref a))(hm:m≠.ht)(h:∀b,nH b->O b):el K E O aF ah (.obj .own c os) (.ref a):=by
 obtain⟨kr,vs,e,aq,hf,aW,gx,_⟩:=rs;refine⟨kr,vs,e,aq,hf,aW,λb ab=>⟨(gx b ab).1,h b ?_⟩,λz=>by cases z⟩;have q:=(gx b ab).2;cases m with
|ht=>exact absurd rfl hm
|own=>exact q
|ej=>exact q
def ak9{d:List aR->Option (T×List aR)}(g9:g4 X.K c C ns)(nB:rU X.prog X.w X.K X.mg X.base x C c k n d)(au:dF (k+1) X.A)(aq:mF X (e::es) aB)(bx:eP X x:=by rfl)(av:aB.length+1=n:=by rfl)(k0:(x==("__debug__":Str))=false:=by decide)
  (he:bb (e::es) X.env=(false,eval e X.env)::bb es X.env:=by rfl) (hpl:(c0 pos (bb es X.env)).any (·.1)=false:=by rfl):vZ X (.Call (.Name x p) (e::es) [] pos) (AD c d aB):=by
 obtain⟨cY,fd,ps,F,M,hm,b⟩:=nB.ex;refine ew (ai9 M F au bx hm b .nil amo aq k0 he hpl) λσ H Q ⟨aG,E,O,F,ε,s,r,e,b'⟩=>?_;simp only[AD,b0] at e;obtain⟨ts,bM,cu,eR,e⟩:=e;refine⟨aG,E,O,F,ε,ts,r,bM,λws a5 H1 aU q=>λy bu aV Nm dJ=>?_⟩;rw[nh];have Zc:upd (upd H1 bu (.own y)) y (.ins C bu []) y=some (.ins C bu []):=dN;have ly:∀bf:aA,bf y=some (.ins C bu [])->h2 bf y c []:=λbf e=>by
  refine⟨k9 _,?_⟩
  rw[g9.pS];exact⟨bu,by simpa using e⟩
 have n4:∀b,b≠y->b≠bu->upd (upd H1 bu (.own y)) y (.ins C bu []) b=H1 b:=λb ae aj=>by rw[cI ae,cI aj]
 have rk:Ext a5 H1 a5 (upd H1 bu (.own y)):=Ext.laid aU.cf Nm;have Zb:upd H1 bu (.own y) y=none:=by rw[cI (Ne.symm dJ)];exact aV
 have o_:Ext a5 H1 a5 (upd (upd H1 bu (.own y)) y (.ins C bu [])):=rk.trans (Ext.laid rk.cf Zb);have AB:¬a5 y:=λz=>by
  obtain⟨o,e⟩:=aU.cf y z;rw[aV] at e;cases e
 split at e
 next k1=>
  cases e
  refine⟨by simp[<- q.length,yk bM,av],a5,.obj .ej c []::ts.map .U,y,[y],[],cu,o_.cf,rfl,rfl,.cons ⟨y,[],rfl,ly _ Zc,rfl,by simp[dk],λb ab=>?_,λ_=>rfl⟩ (KO (q.ext o_)),λj s a' aC=>?_,eR,λv aF ah bQ bV rs=>?_⟩
  ·have:b=y:=by simpa [dk] using ab
   subst this;exact⟨AB,Ce (by simp)⟩
  ·cases j with
   |zero=>exact absurd rfl a'
   |succ j=>exact Sn (q:=j) (by simpa using aC)
  ·rw[k1] at bV;refine⟨by simpa [Rep] using bV,?_⟩;have Ia:∀b,(hN (upd (upd H1 bu (.own y)) y (.ins C bu [])) [y] y).h b=none->H b=none:=λb ab=>by
    rcases BR ab with z|z
    ·have:b=y:=by simpa using z
     rw[this];exact aU.same.none aV
    ·exact aU.same.none (o_.same.none z)
   have d3:Ext F H aF ah:=by
    refine⟨λb o q=>?_,λb z=>bQ.sub b (aU.sub b z),λb z=>?_,bQ.cf⟩
    ·have step:∀u,H1 b=some u->(hN (upd (upd H1 bu (.own y)) y (.ins C bu [])) [y] y).h b=some u:=λu ax=>by
      have dX:b≠y:=λz=>by rw[z,aV] at ax;cases ax
      have eH:b≠bu:=λz=>by rw[z,Nm] at ax;cases ax
      rw[aml (by simpa using dX),n4 b dX eH];exact ax
     rcases aU.same b o q with z|⟨ps,rb,ax,z⟩
     ·exact bQ.same b o (step _ z)
     ·rcases bQ.same b _ (step _ z) with f9|⟨_,xe,_,f9⟩
      ·exact .inr ⟨ps,rb,ax,f9⟩
      ·exact .inr ⟨ps,xe,ax,f9⟩
    ·rcases bQ.new b z with z|z
     ·exact aU.new b z
     ·exact .inr (Ia b z)
   refine b' y aF ah d3 (R6 rs (by decide) λb ab=>r.fr b (Ia b ab)) λb ab=>?_
   obtain⟨kr,vs,d0,mN,hf,aW,gx,_⟩:=rs;cases d0;rw[kM mN] at ab;exact Ia b (gx b ab).2
 next=>cases e
def S0{d:List T->Option aR}(nB:qH X.prog X.w X.K X.mg X.base x k n d)(hd:∀ts s,d ts=some s->∃c os,s=.obj .own c os)(au:dF k X.A)(aq:mF X (e::es) aB)(bx:eP X x:=by rfl)(av:aB.length=n:=by rfl)(k0:(x==("__debug__":Str))=false:=by decide)
  (he:bb (e::es) X.env=(false,eval e X.env)::bb es X.env:=by rfl) (hpl:(c0 pos (bb es X.env)).any (·.1)=false:=by rfl):vZ X (.Call (.Name x p) (e::es) [] pos) (vN d aB):=by
 obtain⟨cY,fd,ps,F,hm,aw,b⟩:=nB.ex;refine ew (Sb F au bx hm aw b .nil amo aq k0 he hpl) λσ H Q ⟨aG,E,O,F,ε,s,r,e,b'⟩=>?_;simp only[vN,b0] at e;obtain⟨ts,bM,eR⟩:=e;obtain⟨c,os,rfl⟩:=hd _ _ eR;refine⟨aG,E,O,F,ε,ts,r,bM,λws a5 H1 aU q=>⟨?_,a5,ts,_,aU.cf,by simpa using q,eR,λa aF ah bQ rs=>?_⟩⟩
 ·rw[nh,<- q.length,yk bM,av]
 ·refine b' a aF ah (aU.trans bQ) (R6 rs (by decide) λb ab=>r.fr b (aU.same.none ab)) λb ab=>?_
  obtain⟨kr,vs,d0,mN,hf,aW,gx,_⟩:=rs;cases d0;rw[kM mN] at ab;exact aU.same.none (gx b ab).2
def ahT{b:bD}{n:Nat}{ts:List T}{s:aR}(h:sX b n ts=some s):∃c os,s=.obj .own c os:=by
 simp only[sX,b0] at h;obtain⟨o,e1,e⟩:=h;cases o with
|j6 s'=>
  obtain⟨c,os,_,rfl⟩:=QN e;exact⟨c,os,rfl⟩
|_=>cases e
def ajS(j:Nat){y:Str}{pos':Pos}(c3:X.N.Nodup)(h:vZ X e ur)(ba:X.N[j]?=some y:=by rfl)(hx:Loc X.env.scope y:=by first|exact Or.inl rfl|exact Or.inr rfl)
  (aC:iu e (some (.Name y pos')) pos.line X.env=pure false:=by rfl) (hf:X.fn y=true\/X.env.scope.names.lookup y=some .local:=by first|exact .inl rfl|exact .inr rfl):
  f_ X (.Assign [.Name y pos'] e pos) (yV j ur):=hk (yq c3 ba hx h aC hf) λD σ H ⟨aG,E,O,F,ε,o,r,e,k⟩=>by
 simp only[yV,dR] at e;obtain⟨s,es,rfl⟩:=e;exact⟨aG,E,O,F,ε,s,r,es,λa aF ah x rs aX=>k _ aF ah x.aw (r.IH j x rs aX)⟩
def ajN(aX:b3 X e (jm i)):f_ X (.Return (some e) pos) (xl i):=hk (La aX) λD σ H ⟨aG,E,O,F,ε,o,r,e,k⟩=>by
 unfold xl at e;split at e
 next c aB he=>
  cases e
  obtain⟨v,ae,rs⟩:=r.val i _ he;have xj:=rs;obtain⟨a,vs,rfl,_⟩:=rs;exact⟨_,ae,k a F H r.ent xj⟩
 next=>cases e
def PH{s:aR}{os:List aR}(h:vy c s=some os):s=.obj .own c os:=by
 unfold vy at h;split at h
 next cA aB=>
  split at h
  next ar=>
   cases h
   rw[ar]
  next=>cases h
 next=>cases h
def S2{K:br}{E:gS}{O F:ak->Prop}{H:aA}{os:List aR}{a:ak}(g9:g4 K c C ns)(rs:el K E O F H (.obj .own c os) (.ref a)):∃bu vs,H a=some (.ins C bu (ns.zip vs))/\h2 H a c vs/\gr K F H os vs:=by
 obtain⟨kr,vs,d0,aq,hf,_⟩:=rs;cases d0;obtain⟨av,hx⟩:=id aq;rw[g9.pS] at hx;obtain⟨bu,hx⟩:=hx;rw[g9.fq] at hx;exact⟨bu,vs,hx,aq,hf⟩
def akY{d:List aR->Option T}(g9:g4 X.K c C ns)(nB:jT X.prog X.w X.K X.mg X.base C m k n d)(au:dF k X.A)(aE:vZ X o ur){pl:Sem Bool}(hm:m∉ns:=by decide +kernel)(av:1=n:=by rfl)
  (bo:eval (.Call (.Attribute o m apos) [] [] pos) X.env=(do
   let e5 <- eval o X.env
   standAt apos.atName
   let (f,first) <- holding [e5] (getMethod e5 m pl)
   callWith pos f first (c0 pos (bb [] X.env)) (gm pos (gk [] X.env))):=by rfl):cK X (.Call (.Attribute o m apos) [] [] pos) (AG c d ur []):=by
 obtain⟨cY,fd,ps,F,fZ,b⟩:=nB.ex;refine ew (Rz aE g9.cls fZ F au b .nil amo bo) λσ H Q ⟨aG,E,O,F,ε,t,r,e,k⟩=>?_;simp only[AG,b0] at e;obtain⟨s,es,os,e1,ts,bM,eR⟩:=e;cases bM;have:=PH e1;subst this;refine⟨aG,E,O,F,ε,_,r,es,λa a5 H1 aU rs aX=>?_⟩;obtain⟨bu,vs,hx,aq,hf⟩:=S2 g9 rs;refine⟨a,bu,_,rfl,hx,xS hm,⟨by simp[av],a5,_,t,aU.cf,.cons ⟨rfl,Tn rs _ _ λb ab=>?_⟩ .nil,eR,λv aF ah bQ a9=>k v aF ah (aU.trans bQ) a9⟩⟩;obtain⟨o,e,_⟩:=rs.at ab;show H1 b≠none;rw[e];exact λz=>by cases z
def agT(g9:g4 X.K c C ns)(aE:vZ X o ur)(a':ns[j]?=some f:=by rfl)(ab:ir o f X.env (eval o X.env)=eval o X.env:=by rfl):cK X (.Attribute o f pos) (Cw c j ur):=
 ew (qz aE ab) λσ H Q ⟨aG,E,O,F,ε,t,r,e,k⟩=>by
 simp only[Cw,b0] at e;obtain⟨s,es,os,e1,e⟩:=e;have:=PH e1;subst this;split at e
 next ts aC=>
  cases e
  refine⟨aG,E,O,F,ε,_,r,es,λa a5 H1 aU rs aX=>?_⟩
  obtain⟨bu,vs,hx,aq,hf⟩:=S2 g9 rs;obtain⟨v,a4,b,us,rfl,ab,fw⟩:=hf.get aC;have Yr:H b=none:=aX b (by rw[kM aq];exact dq _ (pv aC a4 (by simp[d7,hV])));refine⟨a,C,bu,_,_,rfl,hx,g9.cls,lY g9 a',JO g9.aW a' a4,?_⟩;have y:Ext F H (λd=>a5 d\/d=b) H1:=⟨aU.same,λd z=>.inl (aU.sub d z),λd z=>by
   rcases z with z|rfl
   ·exact aU.new d z
   ·exact .inr Yr,⟨λd z=>by
   rcases z with z|rfl
   ·exact aU.cf d z
   ·exact⟨_,ab⟩,aU.cf.m_⟩⟩
  refine k _ _ H1 y ?_
  simp only[Rep];exact⟨b,us,rfl,.inr rfl,.inl ab,fw.keep (λ_ _ z=>z) λ_ _ z w=>⟨.inl z,w⟩⟩
 next=>cases e
def Ts{dO a b:bz}{fk:fP}{g h:bK}(ar:jV X dO fk)(aq:cK X a g)(ab:cK X b h):cK X (.IfExp dO a b pos) (oW fk g h):=ew (ah7 ar aq ab) λσ H Q ⟨aG,E,O,F,ε,t,r,e,k⟩=>by
 simp only[oW,b0] at e;obtain⟨v,ev,e⟩:=e;refine⟨aG,E,O,F,ε,v,r,ev,λa5 H1 aU=>?_⟩;cases v with
|true=>exact wX ⟨aG,E,O,a5,ε,t,r.ext aU,by simpa using e,λv aF ah bQ q=>k v aF ah (aU.trans bQ) q⟩
|false=>exact wW ⟨aG,E,O,a5,ε,t,r.ext aU,by simpa using e,λv aF ah bQ q=>k v aF ah (aU.trans bQ) q⟩
def lW(xs:List Str):List T:=xs.map .str
def Ot{xs:List Str}{a:ak}(hm:X.mg x=some (.ref a))(ay:∃(o:Obj) (its:Array ag) (n:Nat),X.K.lookup a=some o/\o.cls=.type "tuple"/\o.data=.seq its n/\its.size<=cB/\Vals (xs.map V.str) its.toList/\o.dict=none)(bx:eP X x:=by rfl)(hd:(x==("__debug__":Str))=false:=by decide):cK X (.Name x pos) (aa (.tuple (lW xs))):=
 vI (v:=.ref a) (R' (v:=.ref a) bx hm rfl hd) λF H=>by
  simp only[Rep];refine⟨a,xs.map V.str,rfl,.inr ay,?_⟩;unfold lW;clear hm ay bx hd
  induction xs with
  |nil=>exact bp.nil
  |cons y ys bc=>exact bp.cons (by simp[Rep]) bc
end
end
section
variable [cG]
open AutoSeq1 (wpAny_loadPart')
section
variable {X:bt}{a e o:bz}{f g:bK}{p pos apos:Pos}
def R7(hm:X.mg "list"=none)(aq:eh X a f)(bx:eP X "list":=by rfl)(he:bb [a] X.env=(false,eval a X.env)::bb [] X.env:=by rfl)(hpl:(c0 pos (bb [] X.env)).any (·.1)=false:=by rfl):
  r4 X (.Call (.Name "list" p) [a] [] pos) (cn vF f):=ew (x8 PJ bx hm (by decide +kernel) (iR aq jM he) (he:=he) (hpl:=hpl)) λσ H Q ⟨aG,E,O,F,ε,ts,r,e,k⟩=>by
 simp only[cn,b0] at e;obtain⟨t,bM,e⟩:=e;refine⟨aG,E,O,F,ε,t,r,bM,λv a5 H1 aU aM=>?_⟩;have fin:∀(ws:List V),bp X.K a5 H1 ts ws->∀l,H1 l=none->Q (.ref l) (upd H1 l (.lst ws)):=λws au l av=>by
  have bQ:=Ext.laid (o:=.lst ws) aU.cf av;refine k l ws a5 _ (aU.trans bQ) (aU.same.none av) (λz=>?_) dN (au.ext bQ);obtain⟨o,e⟩:=aU.cf l z;rw[av] at e;cases e
 unfold vF at e;split at e
 ·cases e
  obtain⟨lC,ws,rfl,av,au⟩:=aM.tup;exact⟨lC,ws,rfl,.inr av,fin ws au⟩
 ·cases e
  obtain⟨lC,ws,rfl,av,au⟩:=aM.lst;exact⟨lC,ws,rfl,.inl (.inl av),fin ws au⟩
 ·cases e
def agS(ar:X.calm=true)(hm:X.mg "sorted"=none)(aq:eh X a f)(bx:eP X "sorted":=by rfl)(he:bb [a] X.env=(false,eval a X.env)::bb [] X.env:=by rfl)(hpl:(c0 pos (bb [] X.env)).any (·.1)=false:=by rfl):
  r4 X (.Call (.Name "sorted" p) [a] [] pos) (cn Cb f):=ew (yg (aff ar) bx hm (by decide +kernel) (iR aq jM he) (he:=he) (hpl:=hpl)) λσ H Q ⟨aG,E,O,F,ε,ts,r,e,k⟩=>by
 simp only[cn,b0] at e;obtain⟨t,bM,e⟩:=e;refine⟨aG,E,O,F,ε,t,r,bM,λv a5 H1 aU aM=>?_⟩;unfold Cb at e;split at e
 next xs=>
  split at e
  next hz=>
   simp only[dR] at e;obtain⟨ss,wM,e⟩:=e;cases e;have Za:=J2 wM;subst Za;obtain⟨lC,ws,rfl,av,au⟩:=aM.lst;refine⟨lC,ss.map .inr,(jQ ss).map V.str,rfl,?_,by simpa using hz,.inr ⟨ss,rfl,rfl⟩,λl iG=>?_⟩
   ·have ax:ws=(ss.map (Sum.inr:Str->bG.Key)).map dA:=by rw[JQ au];simp[dA,al4]
    rw[<- ax];exact .inl av
   ·have bQ:=Ext.laid (o:=.lst ((jQ ss).map V.str)) aU.cf iG;refine k l _ a5 _ (aU.trans bQ) (aU.same.none iG) (λz=>?_) dN (J4 _);obtain⟨o,e⟩:=aU.cf l z;rw[iG] at e;cases e
  next=>cases e
 next=>cases e
end
def Q3:entryFor table "list.remove.loop"=some Builtin.«list.remove.loop»:=entryFor_of_tree (by kernel_rfl)
def B0:plainId "list.remove.loop"=true:=by decide +kernel
def aiT(l:ak)(its:Array ag)(n:Nat)(x:Str)(t:Tok)(j:Nat)(hz:its.size<=cB)(a':j<its.size)(hit:∃u,its[j]=.str x u)(k:Nat):
  ∀i:Nat,j - i=k->i<=j->(∀(m:Nat) (hm:m<its.size),i<=m->m<j->∃y u,its[m]=.str y u/\y≠x)->Meets (Builtin.«list.remove.loop» ⟨[.ref l,.str x t,gP i],[]⟩)
   (λ_ R s=>s.heap.get? l=some {cls:=.type "list",data:=.seq its n}/\R (.ok (.ret .none)) {s with heap:=s.heap.update l (Obj.mapSeq λa=>a.eraseIdxIfInBounds j)}):=by
 induction k with
|zero=>
  intro i ay jA _ prog w A R s h;obtain⟨az,g,d,tk,os⟩:=s;obtain⟨av,h⟩:=h;obtain rfl:i=j:=by omega
  obtain⟨u,bH⟩:=hit
  wp_walk using wpAny_loadPart' av
  rw[show its[((i:Nat):Int).toNat]?=some (.str x u) by simp[a',bH]];refine aT (wpAny_eqBool_str ?_);rw[decide_eq_true rfl]
  wp_walk using wpAny_loadPart' av
  rw[show ((Obj.mapSeq (λz=>z.eraseIdxIfInBounds ((i:Nat):Int).toNat) {cls:=.type "list",data:=.seq its n}:Obj).data.pastItsLine)=none from
   pastItsLine_seq (by
    have:(its.eraseIdxIfInBounds ((i:Nat):Int).toNat).size<=its.size:=by
     unfold Array.eraseIdxIfInBounds;split
     ·rw[Array.size_eraseIdx];omega
     ·omega
    show (its.eraseIdxIfInBounds ((i:Nat):Int).toNat).size<=_
    omega)]
  wp_walk
  exact h
|succ k bc=>
  intro i ay jA zS prog w A R s h;obtain⟨az,g,d,tk,os⟩:=s;obtain⟨av,h⟩:=h;have en:i<its.size:=by omega
  obtain⟨y,u,aV,ne⟩:=zS i en (dw _) (by omega)
  wp_walk using wpAny_loadPart' av
  rw[show its[((i:Nat):Int).toNat]?=some (.str y u) by simp[en,aV]];refine aT (wpAny_eqBool_str ?_);rw[decide_eq_false ne]
  wp_walk
  rw[show ((i:Int)+1)=((i+1:Nat):Int) by push_cast;rfl];exact⟨lU B0 _,kK Q3 (by
   rw[k8 B0 _];exact bc (i+1) (by omega) (by omega) (λm hm ae aj=>zS m hm (by omega) aj) prog w A R _ ⟨av,h⟩)⟩
def ae7(l:ak)(its:Array ag)(n:Nat)(x:Str)(t:Tok)(j:Nat)(hz:its.size<=cB)(a':j<its.size)(hit:∃u,its[j]=.str x u)(zS:∀(m:Nat) (hm:m<its.size),m<j->∃y u,its[m]=.str y u/\y≠x):
  Meets (Builtin.«list.remove» ⟨[.ref l,.str x t],[]⟩) (λ_ R s=>s.heap.get? l=some {cls:=.type "list",data:=.seq its n}/\R (.ok (.ret .none)) {s with heap:=s.heap.update l (Obj.mapSeq λa=>a.eraseIdxIfInBounds j)}):=by
 intro prog w A R s h;obtain⟨az,g,d,tk,os⟩:=s;obtain⟨av,h⟩:=h
 wp_walk using wpAny_loadPart' av
 exact⟨lU B0 _,kK Q3 (by
  rw[k8 B0 _];exact aiT l its n x t j hz a' hit _ 0 rfl (k9 _) (λm hm _ aj=>zS m hm aj) prog w A R _ ⟨av,h⟩)⟩
noncomputable def aiW:V->List V->aA->dj->Prop:=λx vs H Q=>∃(l:ak) (ss:List Str) (y:Str),x=.ref l/\vs=[.str y]/\H l=some (.lst (ss.map V.str))/\y∈ss/\Q .ff (upd H l (.lst ((ss.erase y).map V.str)))
def Rt{ss:List Str}{its:List ag}(r:Vals (ss.map V.str) its){m:Nat}{y:Str}(h:ss[m]?=some y):∃u,its[m]?=some (.str y u):=by
 obtain⟨v,a4,bV⟩:=r.get (i:=m) (x:=.str y) (by rw[jn,h];rfl);obtain⟨u,rfl⟩:=bV;exact⟨u,a4⟩
theorem RN{α:Type}[BEq α][LawfulBEq α]:∀{ss:List α} {y:α},y∈ss->∃j,ss[j]?=some y/\(∀m z,m<j->ss[m]?=some z->z≠y)/\ss.erase y=ss.eraseIdx j
| [],y,h=>by simp at h
|x::ss,y,h=>by
  by_cases e:x=y
  ·subst e;exact⟨0,rfl,λm z hm=>by omega,by simp⟩
  ·have h':y∈ss:=by
    rcases ct.mp h with z|z
    ·exact absurd z.symm e
    ·exact z
   obtain⟨j,ae,aj,a8⟩:=RN h';refine⟨j+1,by simpa using ae,λm z hm hz=>?_,?_⟩
   ·cases m with
    |zero=>
     simp at hz;exact hz▸e
    |succ m=>exact aj m z (by omega) (by simpa using hz)
   ·rw[List.erase_cons_tail (by simpa using e),a8];rfl
theorem Pr{α β:Type}(f:α->β):∀(l:List α) (j:Nat),(l.eraseIdx j).map f=(l.map f).eraseIdx j
| [],_=>rfl
|_::_,0=>rfl
|a::l,j+1=>by simp[Pr f l j]
def ag9{X:bt}:r0 X "list.remove" aiW:=by
 intro ai s σ H x vs v us Q I aY bV h;obtain⟨l,ss,y,rfl,rfl,eA,aV,q⟩:=h;cases aY;obtain⟨u,rfl,c_⟩:=bV.one;obtain⟨t,rfl⟩:=c_;obtain⟨z,its,n,r,av,e⟩:=I.uI eA;obtain⟨j,ae,aj,a8⟩:=RN aV;obtain⟨w,hw⟩:=Rt r ae;have a':j<its.length:=(gZ.mp hw).1;refine qm F.slot_list_remove ⟨_,e,rfl⟩ F.entry_list_remove (F.args_list_remove_2 _ _) (ae7 l its.toArray n y t j (by rw[eo];omega) (by rw[eo];exact a') ⟨w,?_⟩ λm hm YQ=>?_) ⟨e,?_⟩
 ·rw[g0 a'] at hw;simpa using hw
 ·rw[eo] at hm;have NA:m<ss.length:=by rw[eb] at av;omega
  obtain⟨u,bH⟩:=Rt r (g0 NA);rw[g0 hm] at bH;exact⟨_,u,by simpa using bH,aj m _ YQ (g0 NA)⟩
 ·rw[a8] at q;have aL:(ss.eraseIdx j).map V.str=(ss.map V.str).eraseIdx j:=Pr _ _ _;rw[aL] at q;refine⟨.ff,_,I.uH (t':=s.toks) (its':=its.eraseIdx j) eA e ?_ (r.eraseIdx j) (hi (QR _ _) z),rfl,q⟩;unfold Array.eraseIdxIfInBounds;rw[dif_pos (by rw[eo];exact a')];simp
section
variable {X:bt}{c C i j:Nat}{ns:List Str}{f:Str}{o e:bz}{g:bK}{pos apos:Pos}
def akR(k:g4 X.K c C ns)(aX:b3 X o (jm i)){mH de:Pos}(he:cK X e g)(a':ns[j]?=some f:=by rfl)(ab:ir o f X.env (eval o X.env)=eval o X.env:=by rfl)
  (j0:bb [e] X.env=(false,eval e X.env)::bb [] X.env:=by rfl)
  (i8:ir (.Attribute o f apos) "remove" X.env (eval (.Attribute o f apos) X.env)=eval (.Attribute o f apos) X.env:=by rfl)
  (l8:((c0 de (bb [e] X.env)).all (λx=>!x.1) && (gm de (gk [] X.env)).all (λx=>x.1.isSome)
   && decide (([e]:List bz).length+([]:List Keyword).length+(if ([]:List Keyword).isEmpty then 0 else 1)<30))=true:=by rfl)
  (i9:(mH.endLine==de.line)=true:=by rfl) (l_:(c0 de (bb [] X.env)).any (·.1)=false:=by rfl)
  (l':iu (.Call (.Attribute (.Attribute o f apos) "remove" mH) [e] [] de) none pos.line X.env=pure false:=by rfl):
  f_ X (.Expr (.Call (.Attribute (.Attribute o f apos) "remove" mH) [e] [] de) pos) (AP c i j g):=
 hk (vv (vJ tp PySem.F.slot_list_remove PySem.F.type_list_remove ag9 (qz aX ab) (iR he jM j0) i8 l8 i9 j0 l_) l') λD σ H ⟨aG,aO,O,F,ε,o,r,e,b'⟩=>by
 simp only[AP,b0] at e;obtain⟨t,bM,ts,jY,e⟩:=e;split at e
 next x ss wM=>
  split at e
  next hx=>
   simp only[dR] at e;obtain⟨ε',es,rfl⟩:=e;have lA:=J2 wM;subst lA;obtain⟨m,aB,aE,aC⟩:=Q1 jY;obtain⟨a,vs,bu,v,ae,wN,av,aq,a4,⟨b,us,dQ,ab,fw⟩,_⟩:=oA k r aE aC a';subst dQ;refine⟨_,ae,a,C,bu,_,_,rfl,wN,k.cls,lY k a',av,.inl ⟨rfl,_,gb.of ab⟩,aG,aO,O,F,ε,_,r,bM,λv a5 H1 aU aM=>?_⟩;have bC:=r.ext aU;have zK:h2 H1 a c vs:=aq.keep ((aU.same.get wN).trans wN.symm);have ev:v=.str x:=by simpa [Rep] using aM
   subst ev;have hC:=JQ fw;subst hC;obtain⟨aw,b7⟩:=bC.Az (s':=.own ((ss.erase x).map .str)) (o':=.lst ((ss.erase x).map V.str)) aE ae zK es aC a4 (by simp[d7,hV]) rfl λaw=>⟨b,_,rfl,dN,J4 _⟩;exact⟨b,ss,x,rfl,rfl,aU.same.get ab,hx,b' σ a5 _ (aU.aw.trans aw) b7⟩
  next=>cases e
 next=>cases e
end
end
section
variable [cG]
open AutoSeq1 (wpAny_loadPart')
section
variable {prog:cE}{w:b8}{A:cU}{E:ag->aK->Prop}{s:aK}{T:String}{r d:ak}{n:Nat}{P:Nat->ag->Prop}{r1:bI->Prop}
def aey(W:PySem.W.KdlSrc prog w T r d n P r1)(aX:n<=cB)(o:Obj)(ar:o.cls=.type T):
  MeetsIn prog w (Builtin.«tuple.__new__» ⟨[.type "tuple",.ref r],[]⟩)
   (λA R s=>A.handled=none/\r1 s.heap/\s.heap.get? r=some o/\∀(h':bI) (tk:Nat) (acc:Array ag),(∀b o,s.heap.get? b=some o->h'.get? b=some o)->s.heap.objs.size<=h'.objs.size->ItemsOf P acc n->R (.ok (.ret (.ref h'.objs.size))) {s with heap:=h'.push {cls:=.type "tuple",data:=.seq acc},toks:=tk}):=
 .of_wp λA R s h=>by
  obtain⟨az,g,sk,tk,os⟩:=s;obtain⟨cq,bT,aE,h⟩:=h;have p5:=sub_tuple_self;have YH:=init_tuple_lookup;have YP:=madeHere_tuple;have cL:Shared.TypeIs ⟨az,g,sk,tk,os⟩ (.ref r) T:=W.type _ bT;have dX:=W.notList;have eH:=W.notTuple
  wp_walk using wpAny_loadPart' aE,wpAny_typeOf cL,P2 W (by simpa using cq) bT aX
  intro h' oc acc ay hsz jx;show a6 _ _ (Bb acc.toList.toArray >>= λv=>ret v) _ _ _;unfold Bb;have hz:acc.size<=cB:=by rw[jx.1];exact aX
  refine aT (u6 ?_ (by show acc.toList.toArray.size<=cB;simpa using hz))
  refine cy ⟨_,rfl,?_⟩
  rw[show acc.toList.toArray=acc by simp];exact h h' oc acc ay hsz jx
def aeK{Q:ag->aK->Prop}(W:PySem.W.KdlSrc prog w T r d n P r1)(aX:n<=cB){o:Obj}(ar:o.cls=.type T)(cq:A.handled=none)(bT:r1 s.heap)(aE:s.heap.get? r=some o)
  (h:∀(h':bI) (tk:Nat) (acc:Array ag),(∀b o,s.heap.get? b=some o->h'.get? b=some o)->s.heap.objs.size<=h'.objs.size->ItemsOf P acc n->Q (.ref h'.objs.size) {s with heap:=h'.push {cls:=.type "tuple",data:=.seq acc},toks:=tk}):
  a6 (bS prog w) A (call (.type "tuple") [.ref r]) Q E s:=
 callType_newIn F.called_tuple (by decide) (F.typeCall_tuple_1 _) (F.newCall_tuple_1 _) (λobj=>F.args_object_init_2 obj _) F.entry_tuple_new
  (aey W aX o ar) ⟨by simpa using cq,bT,aE,λh' tk acc ay hsz jx=>⟨⟨_,fy _ rfl,rfl⟩,h h' tk acc ay hsz jx⟩⟩
end
def CN(p d:ak):ey:=.ext λh=>h.IsValuesView p d
section
variable {X:bt}
def ag8:r0 X "dict.values" (λx vs H Q=>∃d kvs,x=.ref d/\vs=[]/\H d=some (.dP kvs)/\∀p,H p=none->Q (.ref p) (upd H p (CN p d))):=by
 intro ai s σ H x vs v us Q I aY bV h;obtain⟨d,kvs,rfl,rfl,eA,q⟩:=h;cases aY;cases bV;obtain⟨hz,zV,ws,l9,hd⟩:=I.bT d _ eA;refine call_meetsIn PySem.F.slot_dict_values hd.typeIs PySem.F.entry_dict_values (PySem.F.args_dict_values_1 _) (meets_dict_values (fM X.prog X.w) d zV) ⟨⟨ws,hd⟩,?_⟩;have a4:(s.heap.push {cls:=.type "dict_values",data:=.fields #[.ref d]}).IsValuesView s.heap.objs.size d:=⟨_,fy _ rfl,rfl,rfl⟩;refine⟨.ref s.heap.objs.size,upd H s.heap.objs.size (CN s.heap.objs.size d),I.laid (t':=s.toks) (λb u e=>cT _ e) (dw _) ⟨a4,⟨_,fy _ rfl⟩,λae aj p k=>?_⟩,rfl,q _ I.fresh⟩;obtain⟨o,aE,r⟩:=p;exact⟨o,k o aE,r⟩
theorem S4:∀{kvs:List (bG.Key×V)} {vs:List (bG.Key×ag)},fB kvs vs->Vals (kvs.map (·.2)) (vs.map (·.2))
|_,_,.nil=>.nil
|_,_,.cons a b=>.cons a.2 (S4 b)
def aeA(ar:X.calm=true):kO X (.type "tuple") (λxs H Q=>∃p d kvs,xs=[.ref p]/\H p=some (CN p d)/\H d=some (.dP kvs)/\∀t,H t=none->Q (.ref t) (upd H t (.tup (kvs.map (·.2))))):=by
 intro ai s σ H xs us Q I r h;obtain⟨p,d,kvs,rfl,az,a_,q⟩:=h;obtain⟨u,rfl,aY⟩:=vals1 r;cases aY;obtain⟨i',zV,vs,l9,hd⟩:=I.bT d _ a_;obtain⟨ep,ly⟩:=hd.dictAt;have av:vs.length=kvs.length:=(Paired.length l9).symm;have a4:s.heap.IsValuesView p d:=(I.bT p _ az).1;obtain⟨o,aE,l7,aly⟩:=id a4;refine aeK (PySem.W.kdl_values (knd:=fM X.prog X.w) (kvs:=vs) (ep:=ep)) (by rw[av];exact i') l7 (I.ok.hd ar) ⟨a4,ly⟩ aE λh' tk acc ay hsz jx=>?_;have ma:(kvs.map (·.2)).length<=cB:=by rw[eb];exact i'
 have d0:acc.toList=vs.map (·.2):=by
  refine List.ext_getElem? λi=>?_
  rw[jn];by_cases ba:i<acc.size
  ·obtain⟨k,ay⟩:=jx.2 i acc[i] (by simp[ba]);rw[ay];simp[ba]
  ·rw[List.getElem?_eq_none (by simpa using ba),List.getElem?_eq_none (by rw[jx.1] at ba;omega)];rfl
 have cL:(h'.push {cls:=.type "tuple",data:=.seq acc}).get? h'.objs.size=some {cls:=.type "tuple",data:=.seq acc}:=fy _ rfl;refine⟨.ref h'.objs.size,_,B1 I (o:=.tup (kvs.map (·.2))) (d':=s.drawn) (λb u e=>cT _ (ay b u e)) hsz ⟨ma,vs.map (·.2),S4 l9,⟨_,cL,rfl,0,by rw[<- d0]⟩⟩,rfl,q _ (I.bT.fresh hsz)⟩
variable {c C i j:Nat}{ns:List Str}{f:Str}{o:bz}{p pos apos mH de:Pos}
theorem dE.snd{K:br}{F:ak->Prop}{H:aA}:∀{ts:List (D.Key×T)} {vs:List (D.Key×V)},dE K F H ts vs->bp K F H (ts.map (·.2)) (vs.map (·.2))
| [],vs,h=>by
  have e:vs=[]:=h;subst e;exact bp.nil
|t::ts,vs,h=>by
  obtain⟨v,r,rfl,q,z⟩:=h;exact bp.cons q (dE.snd z)
def R8(k:g4 X.K c C ns)(ar:X.calm=true)(bo:X.mg "tuple"=none)(aX:b3 X o (jm i))(a':ns[j]?=some f:=by rfl)(ab:ir o f X.env (eval o X.env)=eval o X.env:=by rfl)
  (i8:ir (.Attribute o f apos) "values" X.env (eval (.Attribute o f apos) X.env)=eval (.Attribute o f apos) X.env:=by rfl) (i9:(mH.endLine==de.line)=true:=by rfl) (bx:eP X "tuple":=by rfl)
  (he:bb [.Call (.Attribute (.Attribute o f apos) "values" mH) [] [] de] X.env=(false,eval (.Call (.Attribute (.Attribute o f apos) "values" mH) [] [] de) X.env)::bb [] X.env:=by rfl)
  (hpl:(c0 pos (bb [] X.env)).any (·.1)=false:=by rfl):
  cK X (.Call (.Name "tuple" p) [.Call (.Attribute (.Attribute o f apos) "values" mH) [] [] de] [] pos) (yG c i j):=
 ew (x8 (aeA ar) bx bo (by decide +kernel) (iR (SS PySem.F.plainAttrs_dict PySem.F.slot_dict_values PySem.F.type_dict_values ag8 (qz aX ab) i8 i9) jM he) (he:=he) (hpl:=hpl)) λσ H Q ⟨aG,E,O,F,ε,t,r,e,b'⟩=>by
 simp only[yG,dR] at e;obtain⟨kvs,eR,rfl⟩:=e;obtain⟨m,aB,aE,aC⟩:=B2 eR;obtain⟨a,vs,bu,v,ae,hx,av,aq,a4,⟨b,us,dQ,ab,fw⟩,_⟩:=oA k r aE aC a';subst dQ;refine⟨_,ae,a,C,bu,_,_,rfl,hx,k.cls,lY k a',av,.inr (.inr (.inl ⟨rfl,.inl ⟨_,ab⟩⟩)),b,us,rfl,rfl,ab,λp az=>?_⟩;have aU:=Ext.laid (o:=CN p b) r.cf az;refine⟨p,b,us,rfl,dN,aU.same.get ab,λt bo=>?_⟩;have bQ:=aU.trans (Ext.laid (o:=.tup (us.map (·.2))) aU.cf bo);refine b' _ F _ bQ ?_;simp only[Rep];exact⟨t,_,rfl,c6.of dN,(fw.snd).ext bQ⟩
end
end
section
variable [cG]
open AutoSeq1 (wpAny_loadPart')
noncomputable def fi(h:bI)(z TI b6:ak)(f0 f1:ag):Prop:=h.get? z=some {cls:=.type "zip",dict:=none,data:=.fields #[f0,f1,.bool false,.ref TI,.ref b6],slots:=#[]}
section
variable {prog:cE}{w:b8}{A:cU}{E:ag->aK->Prop}{s:aK}{z TI b6 cg cm bX bY:ak}{k dX eH:Nat}{t8 t9:Nat->ag->Prop}{iC iX:Nat->bI->Prop}{a b f1:ag}
def ahF{Q:ag->aK->Prop}(D:ZipApart z TI b6 cg cm bX bY)(jS:Draws prog w A cg [cg,bX] dX t8 iC)(lp:Draws prog w A cm [cm,bY] eH t9 iX)(hz:fi s.heap z TI b6 .none f1)(g8:IsPair s.heap TI (.ref cg) (.ref cm))(i7:IsPair s.heap b6 a b)
  (s1:iC k s.heap) (s2:iX k s.heap) (ae:k<dX) (aj:k<eH)
  (gF:∀h' x y tk,t8 k x->t9 k y->fi h' z TI b6 (gP s.heap.objs.size) (.bool false)->IsPair h' b6 x y->iC (k+1) h'->iX (k+1) h'->IsPair h' s.heap.objs.size x y->h'.objs.size=s.heap.objs.size+1 ->
   (∀c o,c≠z->c≠b6->c≠cg->c≠cm->s.heap.get? c=some o->h'.get? c=some o)->Q (.ref s.heap.objs.size) {s with heap:=h',toks:=tk}):
  a6 (bS prog w) A (Builtin.«zip.__next__» ⟨[.ref z],[]⟩) (λfin s'=>∃v,fin=.done (.ret v)/\Q v s') E s:=by
 unfold fi at hz;refine aT (m:=field (.ref z) 2) (iP hz rfl (x:=.bool false) rfl (aT (m:=field (.ref z) 3) (iP hz rfl (x:=.ref TI) rfl (aT (mq g8 rfl ?_)))));refine aT (m:=rm (.ref z)) ?_;unfold rm;refine aT (iP hz rfl (x:=.none) rfl (cy ?_));simp only[if_true];refine aT (wpAny_rule (aT (iP hz rfl (x:=.ref b6) rfl (aT (tl hz (by simp) λgf mb fQ=>?_)))));replace mb:fi gf z TI b6 .ellipsis f1:=mb;refine aT ?_;simp only[List.zipIdx_cons,List.zipIdx_nil,List.forIn_cons,List.forIn_nil];have oa:iC k gf:=jS.frame k _ _ s1 λc ar o e=>by
  rcases ct.mp ar with rfl|ar
  ·exact fQ.extBut _ _ D.i1z e
  ·rw[ip.mp ar] at e ⊢;exact fQ.extBut _ _ D.l1z e
 refine aT (aT (wpAny_onRaise (aT (m:=lO (.ref cg)) (jS.item k _ _ _ ae oa λx j1 tk dH t1 gD=>cy ?_))))
 have wy:IsPair j1 b6 a b:=gD.extBut _ _ D.TOi1 (fQ.extBut _ _ D.TOz i7);refine aT (mq wy rfl (aT (wpAny_updateSeq_pair wy λic zH hD=>?_)));replace zH:IsPair ic b6 x b:=zH;refine aT (wpAny_letGo (cy ?_));have j9:iX k ic:=lp.frame k _ _ s2 λc ar o e=>by
  rcases ct.mp ar with rfl|ar
  ·exact hD.extBut _ _ D.TOi2.symm (gD.extBut _ _ D.i12.symm (fQ.extBut _ _ D.i2z e))
  ·rw[ip.mp ar] at e ⊢;exact hD.extBut _ _ D.l2TO (gD.extBut _ _ D.l2i1 (fQ.extBut _ _ D.l2z e))
 refine aT (aT (wpAny_onRaise (aT (m:=lO (.ref cm)) (lp.item k _ _ _ aj j9 λy wR xx py qe pZ=>cy ?_))))
 have Nc:IsPair wR b6 x b:=pZ.extBut _ _ D.TOi2 zH;refine aT (mq Nc rfl (aT (wpAny_updateSeq_pair Nc λja zI oM=>?_)));replace zI:IsPair ja b6 x y:=zI;refine aT (wpAny_letGo (cy (cy (aT (mq zI rfl (aT (wpAny_newTuple ?_)))))));have uT:ja.objs.size=s.heap.objs.size:=by rw[oM.1,pZ.1,hD.1,gD.1,fQ.1]
 have NX:fi ja z TI b6 .ellipsis f1:=oM.extBut _ _ D.TOz.symm (pZ.extBut _ _ D.i2z.symm (hD.extBut _ _ D.TOz.symm (gD.extBut _ _ D.i1z.symm mb)));have _i:∀c o,c≠z->c≠b6->c≠cg->c≠cm->s.heap.get? c=some o->ja.get? c=some o:=λc o c1 dh fe c4 e=>oM.extBut _ _ dh (pZ.extBut _ _ c4 (hD.extBut _ _ dh (gD.extBut _ _ fe (fQ.extBut _ _ c1 e))));have xy:iC (k+1) ja:=jS.frame _ _ _ t1 λc ar o e=>by
  rcases ct.mp ar with rfl|ar
  ·exact oM.extBut _ _ D.TOi1.symm (pZ.extBut _ _ D.i12 (hD.extBut _ _ D.TOi1.symm e))
  ·rw[ip.mp ar] at e ⊢;exact oM.extBut _ _ D.l1TO (pZ.extBut _ _ D.l1i2 (hD.extBut _ _ D.l1TO e))
 have te:iX (k+1) ja:=lp.frame _ _ _ qe λc ar o e=>by
  rcases ct.mp ar with rfl|ar
  ·exact oM.extBut _ _ D.TOi2.symm e
  ·rw[ip.mp ar] at e ⊢;exact oM.extBut _ _ D.l2TO e
 have vK:z<ja.objs.size:=cN NX;refine aT (m:=Builtin.SmallTypes.ownedTupleHandOut (.ref z) (.ref ja.objs.size)) ?_;unfold Builtin.SmallTypes.ownedTupleHandOut;have Zg:fi (ja.push {cls:=.type "tuple",data:=.seq #[x,y]}) z TI b6 .ellipsis f1:=cT _ NX;refine aT (tl Zg (by simp) λZi Gg E0=>?_);replace Gg:fi Zi z TI b6 (gP ja.objs.size) f1:=Gg;refine tl Gg (by simp) λwU zZ E1=>?_;replace zZ:fi wU z TI b6 (gP ja.objs.size) (.bool false):=zZ;have up:∀c o,c≠z->ja.get? c=some o->wU.get? c=some o:=λc o c1 e=>E1.extBut _ _ c1 (E0.extBut _ _ c1 (cT _ e));have cL:IsPair wU ja.objs.size x y:=E1.extBut _ _ (f5 vK) (E0.extBut _ _ (f5 vK) (fy _ rfl));have OL:wU.objs.size=ja.objs.size+1:=by rw[E1.1,E0.1,kb]
 rw[uT] at zZ cL OL;refine cy ⟨_,rfl,?_⟩;show Q (.ref ja.objs.size) _;rw[uT];refine gF wU x y _ dH py zZ (up _ _ D.TOz zI) (jS.frame _ _ _ xy λc ar o e=>?_) (lp.frame _ _ _ te λc ar o e=>?_) cL OL λc o c1 dh fe c4 e=>up c o c1 (_i c o c1 dh fe c4 e)
 ·refine up c o ?_ e
  rcases ct.mp ar with rfl|ar
  ·exact D.i1z
  ·rw[ip.mp ar];exact D.l1z
 ·refine up c o ?_ e
  rcases ct.mp ar with rfl|ar
  ·exact D.i2z
  ·rw[ip.mp ar];exact D.l2z
def ahD{Q:Fin->aK->Prop}(D:ZipApart z TI b6 cg cm bX bY)(jS:Draws prog w A cg [cg,bX] dX t8 iC)(lp:Draws prog w A cm [cm,bY] eH t9 iX)(hz:fi s.heap z TI b6 .none f1)(g8:IsPair s.heap TI (.ref cg) (.ref cm))(i7:IsPair s.heap b6 a b)
  (s1:iC k s.heap) (s2:iX k s.heap) (ay:k=dX\/(k<dX/\k=eH))
  (gX:∀h' e tk,(∀c o,c≠z->c≠b6->c≠cg->c≠cm->s.heap.get? c=some o->h'.get? c=some o)->(∃o,h'.get? e=some o/\o.cls=.type "StopIteration")->E (.ref e) {s with heap:=h',toks:=tk}):
  a6 (bS prog w) A (Builtin.«zip.__next__» ⟨[.ref z],[]⟩) Q E s:=by
 unfold fi at hz;refine aT (m:=field (.ref z) 2) (iP hz rfl (x:=.bool false) rfl (aT (m:=field (.ref z) 3) (iP hz rfl (x:=.ref TI) rfl (aT (mq g8 rfl ?_)))));refine aT (m:=rm (.ref z)) ?_;unfold rm;refine aT (iP hz rfl (x:=.none) rfl (cy ?_));simp only[if_true];refine aT (wpAny_rule (aT (iP hz rfl (x:=.ref b6) rfl (aT (tl hz (by simp) λgf mb fQ=>?_)))));replace mb:fi gf z TI b6 .ellipsis f1:=mb;refine aT ?_;simp only[List.zipIdx_cons,List.zipIdx_nil,List.forIn_cons,List.forIn_nil];have oa:iC k gf:=jS.frame k _ _ s1 λc ar o e=>by
  rcases ct.mp ar with rfl|ar
  ·exact fQ.extBut _ _ D.i1z e
  ·rw[ip.mp ar] at e ⊢;exact fQ.extBut _ _ D.l1z e
 rcases ay with rfl|⟨ae,rfl⟩
 ·refine aT (aT (wpAny_onRaise (aT (m:=lO (.ref cg)) (jS.done _ _ _ oa λj1 e gD he=>?_))))
  obtain⟨Ie,sG,wB⟩:=he;have Ge:fi j1 z TI b6 .ellipsis f1:=gD _ _ D.i1z.symm mb;have ne:e≠z:=λq=>by
   subst q;unfold fi at Ge;rw[Ge] at sG;cases sG;simp at wB
  exact tl Ge (by simp) λic _ hD=>gX ic e _ (λc o c1 _ fe _ q=>hD.extBut _ _ c1 (gD _ _ fe (fQ.extBut _ _ c1 q))) ⟨Ie,hD.extBut _ _ ne sG,wB⟩
 ·refine aT (aT (wpAny_onRaise (aT (m:=lO (.ref cg)) (jS.item k _ _ _ ae oa λx j1 tk dH t1 gD=>cy ?_))))
  have wy:IsPair j1 b6 a b:=gD.extBut _ _ D.TOi1 (fQ.extBut _ _ D.TOz i7);refine aT (mq wy rfl (aT (wpAny_updateSeq_pair wy λic zH hD=>?_)));refine aT (wpAny_letGo (cy ?_));have j9:iX k ic:=lp.frame k _ _ s2 λc ar o e=>by
   rcases ct.mp ar with rfl|ar
   ·exact hD.extBut _ _ D.TOi2.symm (gD.extBut _ _ D.i12.symm (fQ.extBut _ _ D.i2z e))
   ·rw[ip.mp ar] at e ⊢;exact hD.extBut _ _ D.l2TO (gD.extBut _ _ D.l2i1 (fQ.extBut _ _ D.l2z e))
  refine aT (aT (wpAny_onRaise (aT (m:=lO (.ref cm)) (lp.done _ _ _ j9 λwR e pZ he=>?_))))
  obtain⟨Ie,sG,wB⟩:=he;have Gf:fi wR z TI b6 .ellipsis f1:=pZ _ _ D.i2z.symm (hD.extBut _ _ D.TOz.symm (gD.extBut _ _ D.i1z.symm mb));have ne:e≠z:=λq=>by
   subst q;unfold fi at Gf;rw[Gf] at sG;cases sG;simp at wB
  exact tl Gf (by simp) λja _ oM=>gX ja e _ (λc o c1 dh fe c4 q=>oM.extBut _ _ c1 (pZ _ _ c4 (hD.extBut _ _ dh (gD.extBut _ _ fe (fQ.extBut _ _ c1 q))))) ⟨Ie,oM.extBut _ _ ne sG,wB⟩
def aiC{c:ak}{Q:Option Obj->aK->Prop}(h:Q (s.heap.get? c) s):a6 (bS prog w) A (loadIfAlive c) Q E s:=λΓ p _=>by
 unfold loadIfAlive;rw[Sem.wp_loadIfAlive];simpa using h
def Qi{T:ak}{fb:Obj}{f:Bool}(hz:fi s.heap z TI b6 (gP T) (.bool f))(cL:s.heap.get? T=some fb):
  a6 (bS prog w) A (rm (.ref z)) (λc s'=>c=false/\∃gf,s'={s with heap:=gf}/\fi gf z TI b6 (gP T) (.bool true)/\Heap.SameBut z s.heap gf) E s:=by
 unfold fi at hz;unfold rm;refine aT (iP hz rfl (x:=gP T) rfl ?_);refine aT (m:=loadIfAlive ((T:Nat):Int).toNat) (aiC ?_);rw[Int.toNat_natCast,cL];simp only[Option.isNone_some,iO,if_false];refine aT (iP hz rfl (x:=.bool f) rfl ?_);cases f with
|true=>
  simp only[bne_self_eq_false,iO,if_false];exact cy ⟨rfl,s.heap,rfl,hz,Heap.SameBut.refl ..⟩
|false=>
  rw[if_pos (by decide)];exact aT (tl hz (by simp) λgf mb fQ=>cy ⟨rfl,gf,rfl,mb,fQ⟩)
def ahE{Q:ag->aK->Prop}{T:ak}{fb:Obj}{f:Bool}(D:ZipApart z TI b6 cg cm bX bY)(jS:Draws prog w A cg [cg,bX] dX t8 iC)(lp:Draws prog w A cm [cm,bY] eH t9 iX)(hz:fi s.heap z TI b6 (gP T) (.bool f))(cL:s.heap.get? T=some fb)(g8:IsPair s.heap TI (.ref cg) (.ref cm))
  (s1:iC k s.heap) (s2:iX k s.heap) (ae:k<dX) (aj:k<eH)
  (gF:∀h' x y tk,t8 k x->t9 k y->fi h' z TI b6 (gP T) (.bool true)->iC (k+1) h'->iX (k+1) h'->IsPair h' s.heap.objs.size x y->h'.objs.size=s.heap.objs.size+1 ->
   (∀c o,c≠z->c≠cg->c≠cm->s.heap.get? c=some o->h'.get? c=some o)->Q (.ref s.heap.objs.size) {s with heap:=h',toks:=tk}):
  a6 (bS prog w) A (Builtin.«zip.__next__» ⟨[.ref z],[]⟩) (λfin s'=>∃v,fin=.done (.ret v)/\Q v s') E s:=by
 have wO:=hz;unfold fi at hz;refine aT (m:=field (.ref z) 2) (iP hz rfl (x:=.bool false) rfl (aT (m:=field (.ref z) 3) (iP hz rfl (x:=.ref TI) rfl (aT (mq g8 rfl ?_)))));refine aT (m:=rm (.ref z)) (gj (Qi wO cL) (λc s' ⟨hQ,gf,es,mb,fQ⟩=>?_) λ_ _ q=>q);subst hQ es;simp only[iO,if_false];refine aT ?_;rw[<- Array.forIn_toList];simp only[List.forIn_cons,List.forIn_nil];have oa:iC k gf:=jS.frame k _ _ s1 λc ar o e=>by
  rcases ct.mp ar with rfl|ar
  ·exact fQ.extBut _ _ D.i1z e
  ·rw[ip.mp ar] at e ⊢;exact fQ.extBut _ _ D.l1z e
 refine aT (aT (jo (aT (m:=lO (.ref cg)) (jS.item k _ _ _ ae oa λx j1 tk dH t1 gD=>cy (cy ?_)))))
 have j9:iX k j1:=lp.frame k _ _ s2 λc ar o e=>by
  rcases ct.mp ar with rfl|ar
  ·exact gD.extBut _ _ D.i12.symm (fQ.extBut _ _ D.i2z e)
  ·rw[ip.mp ar] at e ⊢;exact gD.extBut _ _ D.l2i1 (fQ.extBut _ _ D.l2z e)
 refine aT (aT (jo (aT (m:=lO (.ref cm)) (lp.item k _ _ _ aj j9 λy ic xx py qe hD=>cy (cy (cy ?_))))))
 refine aT (wpAny_newTuple (cy ⟨_,rfl,?_⟩) (by show 2<=cB;decide))
 have OK:ic.objs.size=s.heap.objs.size:=by rw[hD.1,gD.1,fQ.1]
 have adt:iC (k+1) ic:=jS.frame _ _ _ t1 λc ar o e=>by
  rcases ct.mp ar with rfl|ar
  ·exact hD.extBut _ _ D.i12 e
  ·rw[ip.mp ar] at e ⊢;exact hD.extBut _ _ D.l1i2 e
 have Zf:fi ic z TI b6 (gP T) (.bool true):=hD.extBut _ _ D.i2z.symm (gD.extBut _ _ D.i1z.symm mb);have az:(ic.push {cls:=.type "tuple",data:=.seq #[x,y]}).get? ic.objs.size=some _:=fy _ rfl;show Q (.ref ic.objs.size) _;rw[OK] at az ⊢;refine gF (ic.push {cls:=.type "tuple",data:=.seq #[x,y]}) x y _ dH py (cT _ Zf) (jS.frame _ _ _ adt λc _ o e=>cT _ e) (lp.frame _ _ _ qe λc _ o e=>cT _ e) az (by rw[kb,OK])
  λc o c1 fe c4 e=>cT _ (hD.extBut _ _ c4 (gD.extBut _ _ fe (fQ.extBut _ _ c1 e)))
def aeL{Q:Fin->aK->Prop}{T:ak}{fb:Obj}{f:Bool}(D:ZipApart z TI b6 cg cm bX bY)(jS:Draws prog w A cg [cg,bX] dX t8 iC)(lp:Draws prog w A cm [cm,bY] eH t9 iX)(hz:fi s.heap z TI b6 (gP T) (.bool f))(cL:s.heap.get? T=some fb)(g8:IsPair s.heap TI (.ref cg) (.ref cm))
  (s1:iC k s.heap) (s2:iX k s.heap) (ay:k=dX\/(k<dX/\k=eH))
  (gX:∀h' e tk,(∀c o,c≠z->c≠cg->c≠cm->s.heap.get? c=some o->h'.get? c=some o)->(∃o,h'.get? e=some o/\o.cls=.type "StopIteration")->E (.ref e) {s with heap:=h',toks:=tk}):
  a6 (bS prog w) A (Builtin.«zip.__next__» ⟨[.ref z],[]⟩) Q E s:=by
 have wO:=hz;unfold fi at hz;refine aT (m:=field (.ref z) 2) (iP hz rfl (x:=.bool false) rfl (aT (m:=field (.ref z) 3) (iP hz rfl (x:=.ref TI) rfl (aT (mq g8 rfl ?_)))));refine aT (m:=rm (.ref z)) (gj (Qi wO cL) (λc s' ⟨hQ,gf,es,mb,fQ⟩=>?_) λ_ _ q=>q);subst hQ es;simp only[iO,if_false];refine aT ?_;rw[<- Array.forIn_toList];simp only[List.forIn_cons,List.forIn_nil];have oa:iC k gf:=jS.frame k _ _ s1 λc ar o e=>by
  rcases ct.mp ar with rfl|ar
  ·exact fQ.extBut _ _ D.i1z e
  ·rw[ip.mp ar] at e ⊢;exact fQ.extBut _ _ D.l1z e
 rcases ay with rfl|⟨ae,rfl⟩
 ·refine aT (aT (jo (aT (m:=lO (.ref cg)) (jS.done _ _ _ oa λj1 e gD he=>?_))))
  exact gX j1 e _ (λc o c1 fe _ q=>gD _ _ fe (fQ.extBut _ _ c1 q)) he
 ·refine aT (aT (jo (aT (m:=lO (.ref cg)) (jS.item k _ _ _ ae oa λx j1 tk dH t1 gD=>cy (cy ?_)))))
  have j9:iX k j1:=lp.frame k _ _ s2 λc ar o e=>by
   rcases ct.mp ar with rfl|ar
   ·exact gD.extBut _ _ D.i12.symm (fQ.extBut _ _ D.i2z e)
   ·rw[ip.mp ar] at e ⊢;exact gD.extBut _ _ D.l2i1 (fQ.extBut _ _ D.l2z e)
  refine aT (aT (jo (aT (m:=lO (.ref cm)) (lp.done _ _ _ j9 λic e hD he=>?_))))
  exact gX ic e _ (λc o c1 fe c4 q=>hD _ _ c4 (gD.extBut _ _ fe (fQ.extBut _ _ c1 q))) he
end
end
section
variable [cG]
open AutoSeq1 (wpAny_loadPart')
def Zt(b:Bool):String:=if b then "list_iterator" else "tuple_iterator"
noncomputable def jb(b:Bool)(h:bI)(it l:ak)(i:Nat):Prop:=match b with
|true=>h.IsListIter it l i
|false=>h.IsTupleIter it l i
noncomputable def gL(b:Bool)(h:bI)(l:ak)(xs:Array ag):Prop:=match b with
|true=>h.IsList l xs
|false=>h.IsTuple l xs
theorem jb.at{b:Bool}{h h':bI}{it l:ak}{i:Nat}(x:jb b h it l i)(k:∀o,h.get? it=some o->h'.get? it=some o):jb b h' it l i:=by
 cases b with
|true=>exact Heap.IsListIter.at x k
|false=>
  obtain⟨o,aE,r⟩:=x;exact⟨o,k o aE,r⟩
def jb.obj{b:Bool}{h:bI}{it l:ak}{i:Nat}(x:jb b h it l i):∃o,h.get? it=some o/\∀v,o.data≠.cell v:=by
 cases b with
|true=>
  obtain⟨o,aE,ar,hd⟩:=x;exact⟨o,aE,λv z=>by rw[hd] at z;cases z⟩
|false=>
  obtain⟨o,aE,ar,hd⟩:=x;exact⟨o,aE,λv z=>by rw[hd] at z;cases z⟩
def gL.at{b:Bool}{h h':bI}{l:ak}{xs:Array ag}(x:gL b h l xs)(k:∀o,h.get? l=some o->h'.get? l=some o):gL b h' l xs:=by
 cases b with
|true=>
  obtain⟨o,aE,r⟩:=x;exact⟨o,k o aE,r⟩
|false=>
  obtain⟨o,aE,r⟩:=x;exact⟨o,k o aE,r⟩
def gL.lt{b:Bool}{h:bI}{l:ak}{xs:Array ag}(x:gL b h l xs):l<h.objs.size:=by
 cases b with
|true=>
  obtain⟨o,aE,r⟩:=x;exact cN aE
|false=>
  obtain⟨o,aE,r⟩:=x;exact cN aE
def amb{prog:cE}{w:b8}{A:cU}(b:Bool)(cq:A.handled=none)(it l:ak)(dJ:l≠it)(xs:Array ag):
  Draws prog w A it [it,l] xs.size (λi v=>xs[i]?=some v) (λi h=>jb b h it l i/\gL b h l xs):=by
 cases b with
|true=>exact Draws.list cq it l dJ xs
|false=>exact JH cq it l dJ xs
abbrev yE(b:Bool)(l:ak):Obj:={cls:=.type (Zt b),data:=.fields #[.ref l,.int 0 0]}
abbrev afq(b1 b2:Bool)(h:bI)(bX bY:ak):bI:=((h.push (yE b1 bX)).push (yE b2 bY)).push {cls:=.type "tuple",data:=.seq #[.ref h.objs.size,.ref (h.objs.size+1)]}
abbrev Rj(b1 b2:Bool)(h:bI)(bX bY:ak):bI:=(afq b1 b2 h bX bY).push {cls:=.type "tuple",data:=.seq #[.none,.none]}
abbrev Rk(b1 b2:Bool)(h:bI)(bX bY:ak):bI:=(Rj b1 b2 h bX bY).push {cls:=.type "zip",data:=.fields #[.none,.bool false,.bool false,.ref (h.objs.size+2),.ref (h.objs.size+3)]}
section
variable {prog:cE}{w:b8}{A:cU}{E:ag->aK->Prop}{s:aK}
def amG{b:Bool}{l:ak}{xs:Array ag}{Q:ag->aK->Prop}(av:gL b s.heap l xs)(h:Q (.ref s.heap.objs.size) {s with heap:=s.heap.push (yE b l)}):a6 (bS prog w) A (pyIter (.ref l)) Q E s:=by
 cases b with
|true=>exact wpAny_pyIter_list av h
|false=>exact pf av h
def af9(b1 b2:Bool)(bX bY:ak)(xs ys:Array ag):
  Meets (Builtin.«zip.__new__» ⟨[.type "zip",.ref bX,.ref bY],[]⟩) (λ_ R s=>gL b1 s.heap bX xs/\gL b2 s.heap bY ys /\
   R (.ok (.ret (.ref (s.heap.objs.size+4)))) {s with heap:=Rk b1 b2 s.heap bX bY}):=
 .of_wp λprog w A R s h=>by
  obtain⟨az,g,d,tk,os⟩:=s;obtain⟨ae,aj,h⟩:=h;have p5:=sub_zip;have dW:gL b1 (Shared.heap ⟨az,g,d,tk,os⟩) bX xs:=ae;have i6:gL b2 (Shared.heap ⟨az.push (yE b1 bX),g,d,tk,os⟩) bY ys:=aj.at λo e=>cT _ e
  wp_walk using amG dW,amG i6
  refine⟨_,rfl,?_⟩
  simp only[kb] at h ⊢;exact h
def Q9{b1 b2:Bool}{bX bY:ak}{xs ys:Array ag}{Q:ag->aK->Prop}(ae:gL b1 s.heap bX xs)(aj:gL b2 s.heap bY ys)
  (h:∀h',fi h' (s.heap.objs.size+4) (s.heap.objs.size+2) (s.heap.objs.size+3) .none (.bool false)->IsPair h' (s.heap.objs.size+2) (.ref s.heap.objs.size) (.ref (s.heap.objs.size+1))->IsPair h' (s.heap.objs.size+3) .none .none ->
   jb b1 h' s.heap.objs.size bX 0->jb b2 h' (s.heap.objs.size+1) bY 0->h'.objs.size=s.heap.objs.size+5->(∀c o,s.heap.get? c=some o->h'.get? c=some o)->Q (.ref (s.heap.objs.size+4)) {s with heap:=h'}):
  a6 (bS prog w) A (call (.type "zip") [.ref bX,.ref bY]) Q E s:=by
 have ba:∀(b:Bool) (h':bI) (it l:ak),h'.get? it=some (yE b l)->jb b h' it l 0:=λb h' it l e=>by
  cases b with
  |true=>exact⟨_,e,rfl,rfl⟩
  |false=>exact⟨_,e,rfl,rfl⟩
 refine callType_new F.called_zip (by decide) (F.typeCall_zip_2 _ _) (F.newCall_zip_2 _ _) (λobj=>F.args_object_init_3 obj _ _) F.entry_zip_new (af9 b1 b2 bX bY xs ys) ⟨ae,aj,?_⟩
 have at_:∀(cq:bI) (n:Nat) (o o':Obj),cq.objs.size=n->o.isFreed=false->(cq.push o).get? n=some o:=λcq n o o' e f=>by
  rw[<- e];exact fy _ f
 have ky:(Rk b1 b2 s.heap bX bY).get? (s.heap.objs.size+4)=some _:=at_ (Rj b1 b2 s.heap bX bY) (s.heap.objs.size+4) _ default (by simp only[kb]) rfl;refine⟨⟨_,ky,rfl⟩,h _ ky ?_ ?_ ?_ ?_ (by simp only[kb]) λc o e=>cT _ (cT _ (cT _ (cT _ (cT _ e))))⟩
 ·exact cT _ (cT _ (at_ _ _ _ default (by simp only[kb]) rfl))
 ·exact cT _ (at_ _ _ _ default (by simp only[kb]) rfl)
 ·exact ba b1 _ _ _ (cT _ (cT _ (cT _ (cT _ (fy _ rfl)))))
 ·exact ba b2 _ _ _ (cT _ (cT _ (cT _ (at_ _ _ _ default (by simp only[kb]) rfl))))
end
end
section
variable [cG]
def afC:typeLookup (.type "zip") "keys"=pure none:=by rw[typeLookup_type,builtinLookup_eq_fast];kernel_rfl
def aeF:typeLookup (.type "zip") "__getattr__"=pure none:=by rw[typeLookup_type,builtinLookup_eq_fast];kernel_rfl
def ae9:entryFor table "zip.__getattribute__"=some Builtin.«object.__getattribute__»:=entryFor_alias (id':="object.__getattribute__") (by kernel_rfl) (by decide +kernel) (by decide +kernel) (by kernel_rfl)
def aeE(a:ak)(vs:Array ag)(name:Str)(u:Tok)(alF:typeLookup (.type "zip") name=pure none)(zR:(["__module__","__name__","__qualname__","__doc__","__annotations__"]:List Str).contains name=false)(hsz:name.length+100<=cB):
  Meets (Builtin.«object.__getattribute__» ⟨[.ref a,.str name u],[]⟩) (λA R s=>s.heap.get? a=some {cls:=.type "zip",dict:=none,data:=.fields vs,slots:=#[]}/\raisesAttr (.ref a) name A R s):=
 Meets.of_wp λprog w A R s aC=>by
  obtain⟨az,g,d,tk,os⟩:=s;obtain⟨hx,aC⟩:=aC;have ty:(⟨az,g,d,tk,os⟩:aK).TypeIs (.ref a) "zip":=⟨_,hx,rfl⟩;unfold Builtin.«object.__getattribute__»
  repeat (any_goals (first|assumption|wp_step))
  simp only[zR,iO,if_false]
  repeat (any_goals (first|assumption|wp_step))
  exact wpAny_raiseAttrError aC.1 aC.2 (attrMsg_fits (by decide +kernel) hsz)
def aid{prog:cE}{w:b8}{A:cU}{E:ag->aK->Prop}{s:aK}{a:ak}{vs:Array ag}{Q:Option ag->aK->Prop}
  (hx:s.heap.get? a=some {cls:=.type "zip",dict:=none,data:=.fields vs,slots:=#[]}) (oQ:A.handled=none)
  (h:∀h' tk,(∀b o,s.heap.get? b=some o->h'.get? b=some o)->Q none {s with heap:=h',toks:=tk}):
  a6 (bS prog w) A (getAttr? (.ref a) "keys") Q E s:=by
 obtain⟨az,g,d,tk,os⟩:=s;have ty:∀oc,(⟨az,g,d,oc,os⟩:aK).TypeIs (.ref a) "zip":=λ_=>⟨_,hx,rfl⟩;have f1:=sub_AttributeError;have hR:=F.slot_zip_getattribute.lookup;have f4:=F.slot_zip_getattribute.bind (.ref a);have hE:=aeF;have nm:(["__module__","__name__","__qualname__","__doc__","__annotations__"]:List Str).contains ("keys":Str)=false:=by decide +kernel
 have kG:("keys":Str).length+100<=cB:=by rw[h1];decide
 unfold getAttr? getAttrBy? getAttrBy
 repeat (any_goals (first|assumption|exact ty _|((with_reducible show a6 _ _ (call (Value.builtin "zip.__getattribute__") _ _) _ _ _);refine qm F.slot_zip_getattribute (ty _) ae9 (F.args_zip_getattribute_2 _ _) (aeE a vs "keys" _ afC nm kG) ⟨hx,oQ,λh' oc e lB=>?_⟩)|wp_step))
 obtain⟨t',tb,he⟩:=lB.there;show a6 _ _ (getattributeRaised _ _ _ _ _ _ _) _ _ _;unfold getattributeRaised
 repeat (any_goals (first|assumption|wp_step))
 exact h _ _ lB.keeps
section
variable {prog:cE}{w:b8}{K:Type}[DecidableEq K]{knd:PySem.KeyKind prog w K}{A:cU}{E:ag->aK->Prop}{s:aK}{R:Result->aK->Prop}{z TI b6 cg cm bX bY:ak}{b1 b2:Bool}{xs ys:Array ag}
noncomputable def ny(S z TI b6 cg cm bX bY:ak)(b1 b2:Bool)(xs ys:Array ag)(i:Nat)(h:bI):Prop:=IsPair h TI (.ref cg) (.ref cm)/\(∃a b,IsPair h b6 a b)/\(jb b1 h cg bX i/\gL b1 h bX xs)/\(jb b2 h cm bY i/\gL b2 h bY ys) /\
 (fi h z TI b6 .none (.bool false)\/∃(T:Nat) (fb:Obj) (f:Bool),fi h z TI b6 (gP T) (.bool f)/\h.get? T=some fb/\T≠S/\T≠z/\T≠b6/\T≠cg/\T≠cm)
noncomputable def Kept(S z b6 cg cm:ak)(h h':bI):Prop:=∀c o,c≠S->c≠z->c≠b6->c≠cg->c≠cm->h.get? c=some o->h'.get? c=some o
def P6{S:ak}{i:Nat}{Q:Option ag->aK->Prop}(cq:A.handled=none)(D:ZipApart z TI b6 cg cm bX bY)(st:ny S z TI b6 cg cm bX bY b1 b2 xs ys i s.heap)(c9:∃o,s.heap.get? S=some o)(h_:S≠z/\S≠b6/\S≠cg/\S≠cm)
  (hx:i<xs.size) (aV:i<ys.size)
  (gF:∀h' tk,IsPair h' s.heap.objs.size xs[i] ys[i]->ny S z TI b6 cg cm bX bY b1 b2 xs ys (i+1) h'->(∀o,s.heap.get? S=some o->h'.get? S=some o)->Kept S z b6 cg cm s.heap h'->s.heap.objs.size<=h'.objs.size->Q (some (.ref s.heap.objs.size)) {s with heap:=h',toks:=tk}):
  a6 (bS prog w) A (pyNext (.ref z)) Q E s:=by
 obtain⟨g8,⟨a,b,i7⟩,aM,a9,hz⟩:=st;have vK:∀{f0 f1:ag},fi s.heap z TI b6 f0 f1->z<s.heap.objs.size:=λh=>cN h;have cL:s.TypeIs (.ref z) "zip":=by
  rcases hz with h|⟨T,fb,f,h,_⟩
  ·exact⟨_,h,rfl⟩
  ·exact⟨_,h,rfl⟩
 have NZ:cg<s.heap.objs.size/\cm<s.heap.objs.size:=by
  obtain⟨d_,ax,_⟩:=aM.1.obj;obtain⟨fv,aL,_⟩:=a9.1.obj;exact⟨cN ax,cN aL⟩
 have Vb:S<s.heap.objs.size:=by
  obtain⟨o,e⟩:=c9;exact cN e
 have Vc:b6<s.heap.objs.size:=cN i7;unfold pyNext;refine aT (wpAny_attempt (u5 (name:=Str.ofString "__next__") cL F.slot_zip_next (tj F.slot_zip_next cL F.entry_zip_next ?_ (F.args_zip_next_1 _))));rcases hz with hz|⟨T,fb,f,hz,zJ,t1,qe,t3,xu,IK⟩
 ·refine ahF (iC:=λi h=>jb b1 h cg bX i/\gL b1 h bX xs) (iX:=λi h=>jb b2 h cm bY i/\gL b2 h bY ys) D (amb (A:=A.in1) b1 cq cg bX D.l1i1 xs) (amb (A:=A.in1) b2 cq cm bY D.l2i2 ys) hz g8 i7 aM a9 hx aV λh' x y tk dH py i' Yh s1 s2 az hsz aw=>cy ?_
  have ex:xs[i]=x:=fc ((rn hx).symm.trans dH);have e2:ys[i]=y:=fc ((rn aV).symm.trans py);subst ex e2;refine gF h' tk az ⟨aw _ _ D.TIz D.TITO D.TIi1 D.TIi2 g8,⟨_,_,Yh⟩,s1,s2,.inr ⟨_,_,false,i',az,?_⟩⟩ (λo e=>aw _ _ h_.1 h_.2.1 h_.2.2.1 h_.2.2.2 e) (λc o _ dh fe c4 h7 e=>aw c o dh fe c4 h7 e) (by omega);exact⟨f5 Vb,f5 (vK hz),f5 Vc,f5 NZ.1,f5 NZ.2⟩
 ·refine ahE (iC:=λi h=>jb b1 h cg bX i/\gL b1 h bX xs) (iX:=λi h=>jb b2 h cm bY i/\gL b2 h bY ys) D (amb (A:=A.in1) b1 cq cg bX D.l1i1 xs) (amb (A:=A.in1) b2 cq cm bY D.l2i2 ys) hz zJ g8 aM a9 hx aV λh' x y tk dH py i' s1 s2 az hsz aw=>cy ?_
  have ex:xs[i]=x:=fc ((rn hx).symm.trans dH);have e2:ys[i]=y:=fc ((rn aV).symm.trans py);subst ex e2;exact gF h' tk az ⟨aw _ _ D.TIz D.TIi1 D.TIi2 g8,⟨a,b,aw _ _ D.TOz D.TOi1 D.TOi2 i7⟩,s1,s2,.inr ⟨T,fb,true,i',aw _ _ qe xu IK zJ,t1,qe,t3,xu,IK⟩⟩ (λo e=>aw _ _ h_.1 h_.2.2.1 h_.2.2.2 e) (λc o _ dh fe c4 h7 e=>aw c o dh c4 h7 e) (by omega)
def P7{S:ak}{i:Nat}{Q:Option ag->aK->Prop}(cq:A.handled=none)(D:ZipApart z TI b6 cg cm bX bY)(st:ny S z TI b6 cg cm bX bY b1 b2 xs ys i s.heap)(h_:S≠z/\S≠b6/\S≠cg/\S≠cm)(ba:i=xs.size\/(i<xs.size/\i=ys.size))
  (gF:∀h' tk,(∀o,s.heap.get? S=some o->h'.get? S=some o)->Kept S z b6 cg cm s.heap h'->Q none {s with heap:=h',toks:=tk}):
  a6 (bS prog w) A (pyNext (.ref z)) Q E s:=by
 obtain⟨g8,⟨a,b,i7⟩,aM,a9,hz⟩:=st;have cL:s.TypeIs (.ref z) "zip":=by
  rcases hz with h|⟨T,fb,f,h,_⟩
  ·exact⟨_,h,rfl⟩
  ·exact⟨_,h,rfl⟩
 unfold pyNext;refine aT (wpAny_attempt (u5 (name:=Str.ofString "__next__") cL F.slot_zip_next (tj F.slot_zip_next cL F.entry_zip_next ?_ (F.args_zip_next_1 _))));rcases hz with hz|⟨T,fb,f,hz,zJ,t1,qe,t3,xu,IK⟩
 ·refine ahD (iC:=λi h=>jb b1 h cg bX i/\gL b1 h bX xs) (iX:=λi h=>jb b2 h cm bY i/\gL b2 h bY ys) D (amb (A:=A.in1) b1 cq cg bX D.l1i1 xs) (amb (A:=A.in1) b2 cq cm bY D.l2i2 ys) hz g8 i7 aM a9 ba λh' e tk aw he=>?_
  obtain⟨o,aE,ar⟩:=he;refine aT (wpAny_isInstance (T:="StopIteration") (b:=true) ⟨o,aE,ar⟩ isSubtype_stop (cy ?_));exact gF h' tk (λo e=>aw _ _ h_.1 h_.2.1 h_.2.2.1 h_.2.2.2 e) λc o _ dh fe c4 h7 e=>aw c o dh fe c4 h7 e
 ·refine aeL (iC:=λi h=>jb b1 h cg bX i/\gL b1 h bX xs) (iX:=λi h=>jb b2 h cm bY i/\gL b2 h bY ys) D (amb (A:=A.in1) b1 cq cg bX D.l1i1 xs) (amb (A:=A.in1) b2 cq cm bY D.l2i2 ys) hz zJ g8 aM a9 ba λh' e tk aw he=>?_
  obtain⟨o,aE,ar⟩:=he;refine aT (wpAny_isInstance (T:="StopIteration") (b:=true) ⟨o,aE,ar⟩ isSubtype_stop (cy ?_));exact gF h' tk (λo e=>aw _ _ h_.1 h_.2.2.1 h_.2.2.2 e) λc o _ dh fe c4 h7 e=>aw c o dh c4 h7 e
def ny.frame{S:ak}{i:Nat}{h h':bI}(st:ny S z TI b6 cg cm bX bY b1 b2 xs ys i h)(c9:∀c∈[z,TI,b6,cg,cm,bX,bY],S≠c)(k:∀c o,c≠S->h.get? c=some o->h'.get? c=some o):ny S z TI b6 cg cm bX bY b1 b2 xs ys i h':=by
 obtain⟨g8,⟨a,b,i7⟩,aM,a9,hz⟩:=st;have ne:∀c∈[z,TI,b6,cg,cm,bX,bY],c≠S:=λc ar=>(c9 c ar).symm;refine⟨k _ _ (ne _ (by simp)) g8,⟨a,b,k _ _ (ne _ (by simp)) i7⟩,⟨aM.1.at λo e=>k _ _ (ne _ (by simp)) e,aM.2.at λo e=>k _ _ (ne _ (by simp)) e⟩,⟨a9.1.at λo e=>k _ _ (ne _ (by simp)) e,a9.2.at λo e=>k _ _ (ne _ (by simp)) e⟩,?_⟩;rcases hz with hz|⟨T,fb,f,hz,cL,t⟩
 ·exact .inl (k _ _ (ne z (by simp)) hz)
 ·exact .inr ⟨T,fb,f,k _ _ (ne z (by simp)) hz,k _ _ t.1 cL,t⟩
def afc(cq:A.handled=none)(D:ZipApart z TI b6 cg cm bX bY)(S:ak)(c9:∀c∈[z,TI,b6,cg,cm,bX,bY],S≠c)(kvs:List (K×ag))(n2:(kvs.map (·.1)).Nodup)(hlen:kvs.length=min xs.size ys.size)(hz:kvs.length<=cB)
  (l9:∀(j:Nat) (bU:K×ag),kvs[j]?=some bU->∃key,xs[j]?=some key/\knd.is bU.1 key=true/\ys[j]?=some bU.2):
  ∀(k i:Nat) (s:aK) (c:Int) (dO:Tok),kvs.length - i=k->i<=kvs.length->ny S z TI b6 cg cm bX bY b1 b2 xs ys i s.heap->s.heap.DictOf knd S (kvs.take i) ->
   (∀h' tk,Kept S z b6 cg cm s.heap h'->h'.DictOf knd S kvs->R (.ok (.ret .none)) {s with heap:=h',toks:=tk}) ->
   lT (bS prog w) A (.builtin "dict.update.loop" ⟨[.ref S,.ref z,.int c dO,.none],[]⟩) R s:=by
 have h_:S≠z/\S≠b6/\S≠cg/\S≠cm:=⟨c9 _ (by simp),c9 _ (by simp),c9 _ (by simp),c9 _ (by simp)⟩;intro k
 induction k with
|zero=>
  intro i s c dO ay ba ib hd fK;have n1:i=kvs.length:=by omega
  subst n1;refine kK B3 ?_;rw[k8 rA _];refine aT (m:=pyNext (.ref z)) (P7 (A:=A.in1) cq D ib h_ (by omega) λh' tk amf aw=>?_);refine aT (m:=Builtin.Dict.addKeywords S []) (cy ?_);rw[List.take_of_length_le (dw _)] at hd;exact cy (fK h' tk aw (hd.at λo e=>amf o e))
|succ k bc=>
  intro i s c dO ay ba ib hd fK;have en:i<kvs.length:=by omega
  have hx:i<xs.size:=by omega
  have aV:i<ys.size:=by omega
  have uw:∃o,s.heap.get? S=some o:=by
   obtain⟨o,_,_,e,_⟩:=hd;exact⟨o,e⟩
  refine kK B3 ?_
  rw[k8 rA _];refine aT (m:=pyNext (.ref z)) (P6 (A:=A.in1) cq D ib uw h_ hx aV λh' tk az mh amf aw hsz=>?_);have wG:kvs[i]?=some kvs[i]:=g0 en;obtain⟨key,ax,aL,e'⟩:=l9 i _ wG;have ex:xs[i]=key:=fc ((rn hx).symm.trans ax);have e2:ys[i]=kvs[i].2:=fc ((rn aV).symm.trans e');rw[ex,e2] at az;refine aT (jo (aT (rr (pair_items (s:={s with heap:=h',toks:=tk}) az rfl rfl ?_))));have FE:h'.DictOf knd S (kvs.take i):=hd.at λo e=>amf o e;refine jo (wpAny_dictSet_pairs (s:={s with heap:=h',toks:=tk}) aL FE (λaj hd2 al8=>?_) (by rw[List.length_take];omega));have p2:kvs[i].1∉(kvs.take i).map (·.1):=λq=>by
   rw[<- List.take_append_drop i kvs,List.map_append,jH] at n2;refine n2.2.2 _ q _ (dI.mpr ⟨kvs[i],?_,rfl⟩) rfl;rw[List.drop_eq_getElem_cons en];exact fx
  rw[stored_new p2,show kvs.take i++[(kvs[i].1,kvs[i].2)]=kvs.take (i+1) by rw[List.take_succ,wG];rfl] at hd2;refine cy ⟨lU rA _,bc (i+1) _ _ _ (by omega) en (mh.frame c9 λc o ar e=>?_) hd2 λa8 IV wZ FF=>fK a8 IV (λc o c1 dh fe c4 h7 e=>wZ c o c1 dh fe c4 h7 ?_) FF⟩
  ·exact (al8.2 c ar).trans e
  ·exact (al8.2 c c1).trans (aw c o c1 dh fe c4 h7 e)
def agv{kvs:List (K×ag)}{Q:ag->aK->Prop}(cq:A.handled=none)(D:ZipApart z TI b6 cg cm bX bY)(st:ny s.heap.objs.size z TI b6 cg cm bX bY b1 b2 xs ys 0 s.heap)(hz:fi s.heap z TI b6 .none (.bool false))(n2:(kvs.map (·.1)).Nodup)(hlen:kvs.length=min xs.size ys.size)(hsz:kvs.length<=cB)
  (l9:∀(j:Nat) (bU:K×ag),kvs[j]?=some bU->∃key,xs[j]?=some key/\knd.is bU.1 key=true/\ys[j]?=some bU.2)
  (h:∀(h':bI) (tk:Nat),h'.DictOf knd s.heap.objs.size kvs->(∀c o,c≠z->c≠b6->c≠cg->c≠cm->s.heap.get? c=some o->h'.get? c=some o)->Q (.ref s.heap.objs.size) {s with heap:=h',toks:=tk}):
  a6 (bS prog w) A (call (.type "dict") [.ref z]) Q E s:=by
 obtain⟨g8,⟨a,b,i7⟩,aM,a9,_⟩:=id st;have vK:z<s.heap.objs.size:=cN hz;have c9:∀c∈[z,TI,b6,cg,cm,bX,bY],s.heap.objs.size≠c:=by
  obtain⟨d_,ax,_⟩:=aM.1.obj;obtain⟨fv,aL,_⟩:=a9.1.obj;have a1:=cN g8;have a2:=cN i7;have eE:=cN ax;have fW:=cN aL;have h6:=aM.2.lt;have jW:=a9.2.lt;intro c ar;simp only[ct,lS,or_false] at ar;rcases ar with rfl|rfl|rfl|rfl|rfl|rfl|rfl
  ·exact f5 vK
  ·exact f5 a1
  ·exact f5 a2
  ·exact f5 eE
  ·exact f5 fW
  ·exact f5 h6
  ·exact f5 jW
 refine callType_codes (Q₁:=λobj dc=>obj=.ref s.heap.objs.size/\dc={s with heap:=s.heap.push {cls:=.type "dict",data:=.dict #[]} }) F.kt_called_dict (F.kt_typeCall_dict_1 _) F.entry_dict_init (kt_code_dict_new _ ⟨rfl,rfl⟩) ?_
 rintro obj dc ⟨rfl,rfl⟩;have sg:(s.heap.push {cls:=.type "dict",data:=.dict #[]}).DictOf knd s.heap.objs.size []:=Heap.DictOf.new s.heap;have hF:fi (s.heap.push {cls:=.type "dict",data:=.dict #[]}) z TI b6 .none (.bool false):=cT _ hz;refine⟨sg.typeIs,F.args_dict_init_2 _ _,?_⟩;unfold Builtin.«dict.__init__»;refine aT ?_;unfold Builtin.Dict.selfAndRest;refine aT (wpAny_notOrdered_dict sg.typeIs ?_);show a6 _ _ (pure (s.heap.objs.size,[Value.ref z])) _ _ _;refine cy ?_;show a6 _ _ (Builtin.Dict.updateFrom "dict.__init__" s.heap.objs.size (.ref z) [] .none) _ _ _;unfold Builtin.Dict.updateFrom;refine aT (wpAny_typeOf (show Shared.TypeIs _ (.ref z) "zip" from ⟨_,hF,rfl⟩) ?_);rw[if_pos (by decide)];refine aT (aid hF (by simp[cq]) λaj xx eu=>?_);have ma:IsZip aj z TI b6 .none:=eu _ _ hF;simp only[Option.isNone_none,if_true];refine aT (wpAny_rule (aT (wpAny_pyIter_zip (s:={s with heap:=aj,toks:=xx}) ma (cy ⟨lU rA _,?_⟩))));have aw:∀c o,s.heap.get? c=some o->aj.get? c=some o:=λc o e=>eu _ _ (cT _ e);refine afc (knd:=knd) (by simp[cq]) D s.heap.objs.size c9 kvs n2 hlen hsz l9 (kvs.length - 0) 0 _ 0 _ (by omega) (k9 _) (st.frame c9 λc o _ e=>aw c o e) (by simpa using sg.at λo e=>eu _ _ e) λh' tk wZ FF=>⟨rfl,h h' tk FF λc o dh fe c4 h7 e=>?_⟩;exact wZ c o (ee (cN e)) dh fe c4 h7 (aw c o e)
end
end
section
variable [cG]
def PL{n bX bY:Nat}(ae:bX<n)(aj:bY<n):ZipApart (n+4) (n+2) (n+3) n (n+1) bX bY:=by constructor <;> (show (_:Nat)≠_) <;> omega
section
variable {X:bt}{a b:bz}{f g:bK}{p fl pos gy:Pos}
noncomputable def kl:List bG.Key->List V->List (bG.Key×V)
|k::aH,v::vs=>(k,v)::kl aH vs
|_,_=>[]
theorem Rl:∀(aH:List bG.Key) (vs:List V),(kl aH vs).length=min aH.length vs.length
| [],vs=>by simp[kl]
|k::aH,[]=>by simp[kl]
|k::aH,v::vs=>by simp only[kl,eJ,Rl aH vs];omega
theorem KI:∀{aH:List bG.Key} {vs:List V} {us:List ag},Vals vs us->fB (kl aH vs) ((aH.zip us))
| [],vs,us,_=>by
  rw[show kl [] vs=[] from rfl,List.zip_nil_left];exact .nil
|k::aH,_,_,.nil=>.nil
|k::aH,_,_,.cons r t=>.cons ⟨rfl,r⟩ (KI t)
def agC(X:bt){aH:List bG.Key}{us:List ag}{xs:List ag}(hx:Vals (aH.map dA) xs)(j:Nat)(bU:bG.Key×ag)(h:(aH.zip us)[j]?=some bU):∃key,xs.toArray[j]?=some key/\rO bU.1 key=true/\us.toArray[j]?=some bU.2:=by
 rw[List.getElem?_zip_eq_some] at h;obtain⟨ae,aj⟩:=h;obtain⟨u,bH,c_⟩:=hx.get (i:=j) (x:=dA bU.1) (by rw[jn,ae];rfl);refine⟨u,by simpa using bH,vM (P:=X.prog) (w:=X.w) c_,by simpa using aj⟩
noncomputable def akF(K:br)(cw:gs):TE:=λσ H Q=>cw σ H λvs H1=>∃bX bY aH ys,vs=[.ref bX,.ref bY]/\gb K H1 bX (aH.map dA)/\c6 K H1 bY ys/\((kl aH ys).map (·.1)).Nodup/\(kl aH ys).length<=1000/\∀q,H1 q=none->Q (.ref q) (upd H1 q (.dP (kl aH ys)))
def afY{cw:gs}(ar:X.calm=true)(hd:X.mg "dict"=none)(hz:X.mg "zip"=none)(aq:h5 X [a,b] cw)(bx:eP X "dict")(sA:eP X "zip")(kA:bb [a,b] X.env=(false,eval a X.env)::bb [b] X.env)(sH:(c0 gy (bb [b] X.env)).any (·.1)=false)
  (he:bb [.Call (.Name "zip" fl) [a,b] [] gy] X.env=(false,eval (.Call (.Name "zip" fl) [a,b] [] gy) X.env)::bb [] X.env) (hpl:(c0 pos (bb [] X.env)).any (·.1)=false):
  b3 X (.Call (.Name "dict" p) [.Call (.Name "zip" fl) [a,b] [] gy] [] pos) (akF X.K cw):=by
 intro ai s σ H Q I h;refine pe (pq I bx hd PyProof.Rows.boot_dict ?_);refine amg ?_ he hpl;rw[he];show a6 _ _ (spliced ((false,eval (.Call (.Name "zip" fl) [a,b] [] gy) X.env)::c0 pos (bb [] X.env))) _ _ s;refine Calls.spliced_cons (pe (pq I sA hz PyProof.Rows.boot_zip (amg (cD (aq gy ai s σ H _ I h) λus s1 ⟨vs,H1,bw,bC,aM⟩=>?_) kA sH)));obtain⟨bX,bY,aH,ys,rfl,F7,F8,n2,hle,q⟩:=aM;obtain⟨xy,te,rfl,ax,aL⟩:=bC.two;cases ax;cases aL;obtain⟨its,bV,pl,hF⟩:=bw.list F7;obtain⟨gH,rg,xd,ma⟩:=bw.tuple F8;have gI:gL true s1.heap bX its.toArray:=pl.isList;have eu:gL false s1.heap bY gH.toArray:=xd;refine Q9 gI eu λh' wQ g8 i7 FP FQ hsz ay=>Calls.spliced_nil ?_;have iG:aH.length=its.length:=by have:=bV.length;simpa using this
 have mQ:ys.length=gH.length:=rg.length;have hlen:(aH.zip gH).length=(kl aH ys).length:=by rw[Rl,List.length_zip,mQ]
 have FV:(aH.zip gH).map (·.1)=(kl aH ys).map (·.1):=(KY (KI rg)).symm;have big:=bw.big;have uT:h'.objs.size=s1.heap.objs.size+5:=hsz;refine agv (knd:=fM X.prog X.w) (kvs:=aH.zip gH) (s:={s1 with heap:=h'}) (bw.ok.hd ar) (PL gI.lt eu.lt) ⟨g8,⟨_,_,i7⟩,⟨FP,gI.at λo e=>ay _ o e⟩,⟨FQ,eu.at λo e=>ay _ o e⟩,.inl wQ⟩ wQ (by rw[FV];exact n2) (by rw[List.length_zip,eo,eo,iG]) (by rw[hlen,h1];omega) (λj bU e=>agC X bV j bU e) λaj tk hd2 n3=>?_;have keep:∀c o,s1.heap.get? c=some o->aj.get? c=some o:=λc o e=>by
  have ar:c<s1.heap.objs.size:=cN e;have ne:∀m:Nat,c≠s1.heap.objs.size+m:=λm=>ee (gN ar (tq _ m));exact n3 c o (ne 4) (ne 3) (ne 0) (ne 1) (ay c o e)
 have HP:s1.heap.objs.size<=h'.objs.size:=by rw[uT];exact tq _ _
 refine⟨.ref h'.objs.size,_,B1 (s:=s1) bw (o:=.dP (kl aH ys)) (d':=s1.drawn) (t':=tk) keep HP ⟨by rw[h1];omega,?_,aH.zip gH,KI rg,hd2⟩,rfl,q _ (bw.bT.fresh HP)⟩
 rw[beq_eq_false_iff_ne];exact f5 (gN big HP)
variable {c C i j:Nat}{ns:List Str}{fn:Str}{o:bz}{apos:Pos}
theorem Rm{K:br}{F:ak->Prop}{H:aA}:∀{lk lv:List T} {kvs:List (D.Key×T)} {ws ys:List V},rS lk lv=some kvs->bp K F H lk ws->bp K F H lv ys->(∀t∈lk,∃k,keyOf t=some k)->∃aH:List bG.Key,ws=aH.map dA/\dE K F H kvs (kl aH ys)/\(kl aH ys).map (·.1)=kvs.map (·.1)
| [],lv,kvs,ws,ys,e,ae,aj,_=>by
  cases e
  simp only[bp] at ae;subst ae;exact⟨[],rfl,rfl,rfl⟩
|t::lk,[],kvs,ws,ys,e,ae,aj,aq=>by
  cases e
  simp only[bp] at ae aj;subst aj;obtain⟨v,r,rfl,q,z⟩:=ae;obtain⟨k,ay⟩:=aq t (by simp);have a4:v=dA k:=ox (O:=λ_=>False) ay (.inl q);have key:∀{lk:List T} {r:List V},bp K F H lk r->(∀t∈lk,∃k,keyOf t=some k)->∃aH:List bG.Key,r=aH.map dA:=by
   intro lk
   induction lk with
   |nil=>
    intro r h _;simp only[bp] at h;exact⟨[],h⟩
   |cons t lk bc=>
    intro r h aq;simp only[bp] at h;obtain⟨v,cu,rfl,q,z⟩:=h;obtain⟨k,ay⟩:=aq t (by simp);obtain⟨aH,rfl⟩:=bc z λu bH=>aq u (dq _ bH);exact⟨k::aH,by rw[ox (O:=λ_=>False) ay (.inl q)];rfl⟩
  obtain⟨aH,rfl⟩:=key z λu bH=>aq u (dq _ bH);exact⟨k::aH,by rw[a4];rfl,rfl,rfl⟩
|t::lk,u::lv,kvs,ws,ys,e,ae,aj,aq=>by
  simp only[rS,b0,dR] at e;obtain⟨k,ay,r,kX,rfl⟩:=e;simp only[bp] at ae aj;obtain⟨v,bC,rfl,aM,nk⟩:=ae;obtain⟨w,b7,rfl,a9,f9⟩:=aj;obtain⟨aH,rfl,ji,o1⟩:=Rm kX nk f9 λu bH=>aq u (dq _ bH);exact⟨k::aH,by rw[ox (O:=λ_=>False) ay (.inl aM)];rfl,⟨w,_,rfl,a9,ji⟩,by simp[kl,o1]⟩
def R3(k:g4 X.K c C ns)(ar:X.calm=true)(hd:X.mg "dict"=none)(hz:X.mg "zip"=none)(aX:b3 X o (jm i))(aq:eh X a f)(ab:eh X b g){uf:Pos}(a':ns[j]?=some fn:=by rfl)(bx:eP X "dict":=by rfl)(sA:eP X "zip":=by rfl)
  (kA:bb [a,b] X.env=(false,eval a X.env)::bb [b] X.env:=by rfl) (FJ:bb [b] X.env=(false,eval b X.env)::bb [] X.env:=by rfl) (sH:(c0 gy (bb [b] X.env)).any (·.1)=false:=by rfl)
  (he:bb [.Call (.Name "zip" fl) [a,b] [] gy] X.env=(false,eval (.Call (.Name "zip" fl) [a,b] [] gy) X.env)::bb [] X.env:=by rfl) (hpl:(c0 uf (bb [] X.env)).any (·.1)=false:=by rfl)
  (aC:iu (.Call (.Name "dict" p) [.Call (.Name "zip" fl) [a,b] [] gy] [] uf) (some (.Attribute o fn apos)) pos.line X.env=pure false:=by rfl):
  f_ X (.Assign [.Attribute o fn apos] (.Call (.Name "dict" p) [.Call (.Name "zip" fl) [a,b] [] gy] [] uf) pos) (vO c i j f g):=
 hk (Lb aX (afY ar hd hz (iR aq (iR ab jM FJ) kA) bx sA kA sH he hpl) aC) λD σ H ⟨aG,E,O,F,ε,o,r,e,b'⟩=>by
 simp only[vO,b0] at e;obtain⟨tk,XR,hg,XS,e⟩:=e;split at e
 next lk lv=>
  simp only[b0] at e;obtain⟨kvs,pY,e⟩:=e;split at e
  next Ni=>
   simp only[dR] at e;obtain⟨ε',es,rfl⟩:=e;refine⟨aG,E,O,F,ε,_,r,XR,λv1 a5 H1 aU aM=>⟨aG,E,O,a5,ε,_,r.ext aU,XS,λv2 dt bf bQ a9=>?_⟩⟩;obtain⟨bX,ws,rfl,iG,k1⟩:=(aM.ext bQ).lst;obtain⟨bY,ys,rfl,mQ,q1⟩:=a9.tup;obtain⟨aH,rfl,ji,o1⟩:=Rm pY k1 q1 λt bo=>Option.isSome_iff_exists.mp (Ni.2.2 t bo);have qj:=aU.trans bQ;refine⟨bX,bY,aH,ys,rfl,.inl iG,mQ,by rw[o1];exact Ni.1,by have:=congrArg List.length o1;simp only[eb] at this;omega,λq a_=>?_⟩;have hh:=Ext.laid (o:=.dP (kl aH ys)) qj.cf a_;have I1:=qj.trans hh;have bC:=r.ext I1;have p2:H q=none:=qj.same.none a_;have hU:¬dt q:=λz=>by
    obtain⟨o,e⟩:=qj.cf q z;rw[a_] at e;cases e
   have i4:=es;unfold iL at i4;simp only[b0] at i4;obtain⟨⟨m,aB⟩,aE,_⟩:=i4;obtain⟨V0,vs,bu,ae,hx,av,aq,_⟩:=qA k bC aE;have hold:=RG r I1 p2;obtain⟨aw,b7⟩:=bC.A1 (s:=.fD kvs) (v:=.ref q) k aE ae aq es ⟨q,_,rfl,dN,dE.aw hh.aw ji⟩ (λd hd=>by
    have:d=q:=by simpa [d7,hV] using hd
    subst this;exact⟨hU,r.fr _ p2,hold i _ _ (pj aE) ae,λk u w _ eK _ ay=>hold k u w eK ay⟩) hx a'
   refine⟨_,ae,V0,C,bu,_,rfl,hx,k.cls,lY k a',?_,b' σ dt _ (I1.aw.trans aw) b7⟩
   have:=k.zz;simp only[List.length_zip];omega
  next=>cases e
 next=>cases e
end
end
section
variable [cG]
open AutoSeq1 (wpAny_loadPart')
noncomputable def _J:T->T->Option T
|.tuple xs,.int k=>if 2<=k/\k<1000/\xs≠[]/\xs.length*k.toNat<=big then some (.tuple (jE k.toNat xs).flatten) else none
|.list xs,.int k=>if 0<=k/\k<1000/\xs.length*k.toNat<=big then some (.list (jE k.toNat xs).flatten) else none
|_,_=>none
end
section
abbrev t0:cG:=⟨[],λ_=>[],λ_=>none⟩
def ef(ns:List Int):T:=.list (ns.map .int)
def Od(K:br):Bool:=K.all λp=>match p.2.cls with
|.type t=>t != "list"
|_=>true
theorem PX{α β:Type}[BEq α][LawfulBEq α]{a:α}{b:β}:∀{l:List (α×β)},l.lookup a=some b->(a,b)∈l
  | [],h=>by cases h
  | (x,y)::l,h=>by
    rw[lQ] at h;split at h
    next q=>
      cases h
      have:a=x:=by simpa using q
      subst this;simp
    next=>exact dq _ (PX h)
end
section
variable [cG]
open PySem.W (kas_ask kas_sort kat_run kat_snds kat_lt kat_kind KatTups KatLex KatGo kas_item KasT)
def cL(x:Str×List T):T:=.tuple (.str x.1::x.2)
end
section
open AutoSeq1 (wpAny_loadPart')
section
variable {prog:cE}{w:b8}{A:cU}{E:ag->aK->Prop}{s:aK}
def ajn{T sT:String}{fZ:ag}{as:List ag}{ha:List (Str×ag)}(av:typeLookup (.type T) "__init__"=pure (some (.builtin "object.__init__")))(hm:Bind.madeBy (.type T)=pure (some sT))(dJ:(some sT != some "object.__new__")=true):
  Meets (Builtin.«object.__init__» ⟨fZ::as,ha⟩) (λ_ R s=>s.TypeIs fZ T/\R (.ok (.ret .none)) s):=.of_wp λprog w A R s aC=>by
 obtain⟨cL,a_⟩:=aC;cases as with
|nil=>
  cases ha with
  |nil=>exact cy ⟨_,rfl,a_⟩
  |cons k ha=>
   repeat any_goals first|assumption|wp_step
   exact⟨_,rfl,a_⟩
|cons a as=>
  repeat any_goals first|assumption|wp_step
  exact⟨_,rfl,a_⟩
def afP{T sT:String}{Lq:Builtin}{as:List ag}{ha:List (Str×ag)}{S:PySem.Spec}{Q:ag->aK->Prop}(fk:TypeCalled T sT "object.__init__")(dJ:(some sT != some "object.__new__")=true)
  (alx:checkTypeCall T ⟨as,ha⟩=pure ()) (Yy:checkBuiltinCall sT ⟨.type T::as,ha⟩=pure ()) (bT:∀o,argsOk "object.__init__" ⟨o::as,ha⟩) (ent:entryFor table sT=some Lq) (g:Meets (Lq ⟨.type T::as,ha⟩) S)
  (h:S A.in1 (wants (λo s1=>s1.TypeIs o T/\Q o s1) E) s):a6 (bS prog w) A (call (.type T) as ha) Q E s:=by
 obtain⟨c,o5,alG⟩:=fk.mro;have alE:=fk.made;have p5:=fk.sub;refine wpAny_call (codeAny_of_tree ?_);show a6 _ _ (callAny (.type T) _) _ _ _;refine cy ⟨Code.quiet_builtin _ (by decide +kernel),kK F.entry_type_call ?_⟩;rw[Around.under_plain (weight_type_call_type T as ha) (units_type_call_type T as ha)];have alQ:=fk.notType;have alR:=fk.canCreate
 repeat any_goals first|assumption|wp_step
 refine rq (codeAny_call_builtin fk.plain ent (wpAny_of_eq Yy (g prog w A.in1 _ s h))) λr s1 au=>?_
 cases r with
|error e=>exact au
|ok nT=>
  cases nT with
  |ret obj=>
   obtain⟨cL,gF⟩:=au;have li:=fk.init.lookup;have bi:=fk.init.bind obj
   repeat any_goals first|assumption|wp_step
   refine rq (codeAny_call_builtin fk.init.plain F.entry_object_init (fk.init.check _ _ _ _ _ _ _ _ cL (bT obj) (ajn li fk.made dJ prog w A.in1 (wants (λr s2=>r=Value.none/\Q obj s2) E) s1 ⟨cL,rfl,gF⟩))) λb7 s2 q1=>?_
   cases b7 with
   |error e=>exact q1
   |ok f2=>
    cases f2 with
    |ret r=>
     obtain⟨rfl,a_⟩:=q1
     repeat any_goals first|assumption|wp_step
    |_=>exact q1.elim
  |_=>exact au.elim
end
def ahq(l:ak)(items:Array ag)(n:Nat)(pW:Option ak)(df:Array (Option ag))(t:Tok):
  Meets (Builtin.«enumerate.__new__» ⟨[.type "enumerate",.ref l],[("start",.int 1 t)]⟩) (λ_ R s=>s.heap.get? l=some {cls:=.type "tuple",dict:=pW,data:=.seq items n,slots:=df} /\
   R (.ok (.ret (.ref (s.heap.push {cls:=.type "tuple_iterator",data:=.fields #[.ref l,.int 0 0]}).objs.size)))
    {s with heap:=(s.heap.push {cls:=.type "tuple_iterator",data:=.fields #[.ref l,.int 0 0]}).push {cls:=.type "enumerate",data:=.fields #[.none,.bool false,.ref s.heap.objs.size,gP 1,.none,.none]} }):=
 .of_wp λprog w A R s h=>by
  obtain⟨az,g,d,tk,os⟩:=s;obtain⟨av,h⟩:=h;have p5:=sub_enumerate;have fI:Heap.IsTuple (Shared.heap ⟨az,g,d,tk,os⟩) l items:=⟨_,av,rfl,n,rfl⟩
  wp_walk using wpAny_loadPart' av
  refine wpAny_stack_any λst=>cy ?_
  split
  ·rename_i c _ _ _ _ _
   cases (c==Value.type "enumerate")
   ·wp_walk using wpAny_loadPart' av,pf fI
    exact⟨_,rfl,h⟩
   ·wp_walk using wpAny_loadPart' av,pf fI
    exact⟨_,rfl,h⟩
  ·wp_walk using wpAny_loadPart' av,pf fI
   exact⟨_,rfl,h⟩
def afT(a:ag)(t:Tok):checkTypeCall "enumerate" ⟨[a],[("start",.int 1 t)]⟩=pure ():=by kernel_rfl
def ag6(a:ag)(t:Tok):checkBuiltinCall "enumerate.__new__" ⟨[.type "enumerate",a],[("start",.int 1 t)]⟩=pure ():=by kernel_rfl
def agf(o a:ag)(t:Tok):argsOk "object.__init__" ⟨[o,a],[("start",.int 1 t)]⟩:=by unfold argsOk;kernel_rfl
end
section
variable [cG]
section
variable {M:Model}{A:cU}{E:ag->aK->Prop}{s:aK}{env:Env}
def cw_kw{pos:Pos}{T:String}{e:bz}{rest:List bz}{ha:List Keyword}{Q:ag->aK->Prop}
  (h:a6 M A (spliced (c0 pos (bb (e::rest) env))) (λvs s1=>a6 M A (evalAll ((gm pos (gk ha env)).map (·.2))) (λaH s2=>a6 M A (call (.type T) vs (((gm pos (gk ha env)).filterMap (·.1)).zip aH)) Q E s2) E s1) E s)
  (he:c0 pos (bb (e::rest) env)=(false,eval e env)::c0 pos (bb rest env):=by rfl) (az:(c0 pos (bb (e::rest) env)).any (·.1)=false:=by rfl)
  (aq:(gm pos (gk ha env)).all (·.1.isSome)=true:=by rfl) (ay:(gm pos (gk ha env)).any (·.1.isNone)=false:=by rfl):
  a6 M A (callWith pos (.type T) [] (c0 pos (bb (e::rest) env)) (gm pos (gk ha env))) Q E s:=by
 have FK:a6 M A (evalArgs (.type T) true (c0 pos (bb (e::rest) env)) (gm pos (gk ha env))) (λa s1=>a6 M A (call (.type T) ([]++a.pos) a.kw) Q E s1) E s:=by
  rw[he] at h ⊢;exact evalArgs_kwB aq h
 unfold callWith;refine aT (jo (gj FK (λa s1 g1=>aT (wpAny_standAt ?_)) λ_ _ x=>x));simp only[az,ay,Bool.or_false];refine aT (cy (aT (gj g1 (λr s2 au=>?_) λ_ _ x=>x)));exact aT (jo (wpAny_point (cy au)))
end
section
variable {prog:cE}{w:b8}{A:cU}{E:ag->aK->Prop}{s:aK}
def agu{l:ak}{items:Array ag}{t:Tok}{Q:ag->aK->Prop}(fI:s.heap.IsTuple l items)
  (h:∀h',IsEnum h' (s.heap.objs.size+1) s.heap.objs.size 1 .none->h'.IsTupleIter s.heap.objs.size l 0->h'.objs.size=s.heap.objs.size+2 ->
   (∀b o,s.heap.get? b=some o->h'.get? b=some o)->Q (.ref (s.heap.objs.size+1)) {s with heap:=h'}):
  a6 (bS prog w) A (call (.type "enumerate") [.ref l] [("start",.int 1 t)]) Q E s:=by
 obtain⟨⟨c,pW,EP,df⟩,av,ar,n,hd⟩:=fI;replace ar:c=.type "tuple":=ar;replace hd:EP=.seq items n:=hd;subst ar hd;refine afP F.called_enumerate (by decide) (afT _ t) (ag6 _ t) (λobj=>agf obj _ t) F.entry_enumerate_new (ahq l items n pW df t) ⟨av,?_⟩;have hz:(s.heap.push {cls:=.type "tuple_iterator",data:=.fields #[.ref l,.int 0 0]}).objs.size=s.heap.objs.size+1:=kb ..;show _/\_;rw[hz];have he:IsEnum ((s.heap.push {cls:=.type "tuple_iterator",data:=.fields #[.ref l,.int 0 0]}).push
   {cls:=.type "enumerate",data:=.fields #[.none,.bool false,.ref s.heap.objs.size,gP 1,.none,.none]}) (s.heap.objs.size+1) s.heap.objs.size 1 .none:=by
  have:=fy (s.heap.push {cls:=.type "tuple_iterator",data:=.fields #[.ref l,.int 0 0]})
   (o:={cls:=.type "enumerate",data:=.fields #[.none,.bool false,.ref s.heap.objs.size,gP 1,.none,.none]}) rfl
  rw[hz] at this;exact this
 refine⟨⟨_,he,rfl⟩,h _ he ⟨_,cT _ (fy _ rfl),rfl,rfl⟩ (by rw[kb,hz]) λb o x=>cT _ (cT _ x)⟩
end
def aiv{prog:cE}{w:b8}{A:cU}{it:ak}{cv:List ak}{n:Nat}{P:Nat->ag->Prop}{St:Nat->bI->Prop}(D:Draws prog w A it cv n P St):
  Draws prog w A it cv (n+1) (λi v=>1<=i/\P (i - 1) v) (λi h=>1<=i/\St (i - 1) h) where
 live:=λi h st=>D.live (i - 1) h st.2
 frame:=λi h h' st ay=>⟨st.1,D.frame (i - 1) h h' st.2 ay⟩
 item:=λi s Q E ba st gF=>D.item (i - 1) s Q E (by have:=st.1;omega) st.2 λx h' tk a b c=>gF x h' tk ⟨st.1,a⟩ ⟨by omega,by
  have e:i+1 - 1=i - 1+1:=by have:=st.1;omega
  rw[e];exact b⟩ c
 done:=λs Q E st gX=>D.done s Q E (by simpa using st.2) gX
noncomputable def C8(K:br)(a:ak):l0:=
 ⟨λi H=>∃xs x,c6 K H a xs/\xs[i]?=some x,λi H x ah=>∃p v,H p=none/\x=.ref p/\ah=upd H p (.tup [.int ((i+1:Nat):Int),v])/\∀xs,c6 K H a xs->xs[i]?=some v,λi H=>∃xs,c6 K H a xs/\xs.length<=i⟩
def afW{P:cE}{w:b8}{K:br}{es:List bz}{k:Nat}{pos:Pos}(a it e:ak)(dJ:e≠it)(FA:a≠it)(Fz:a≠e):Turn P w K (.Tuple es k pos) (C8 K a) [e,it] e (λi h=>(∃old,IsEnum h e it ((i+1:Nat):Int) old)/\h.IsTupleIter it a i) where
 mem:=by simp
 obj:=λi h st b ab=>by
  obtain⟨⟨old,he⟩,o,aE,ar,hd⟩:=st;rcases ct.mp ab with rfl|ab
  ·exact⟨_,he,λv z=>by
    have iv:Data.fields _=Data.cell v:=z;cases iv⟩
  ·have ax:b=it:=by simpa using ab
   subst ax;exact⟨o,aE,λv z=>by rw[hd] at z;cases z⟩
 keep:=λi h h' st b'=>by
  obtain⟨⟨old,he⟩,j9⟩:=st;exact⟨⟨old,b' e (by simp) _ he⟩,j9.at λo q=>b' it (by simp) o q⟩
 item:=by
  intro X fJ hw h9 ar i ai s σ H E I hf st bx;subst fJ hw h9;obtain⟨xs,x,a_,hx⟩:=bx;obtain⟨its,bV,p,hz⟩:=I.tuple a_;obtain⟨u,bH,c_⟩:=bV.get hx;obtain⟨⟨old,he⟩,hit⟩:=st;obtain⟨f0,f1,f2,hR,f4,hE⟩:=hf e (by simp);obtain⟨oP,g1,g2,g3,nX,ky⟩:=hf it (by simp);have ba:i<its.toArray.size:=by
   rw[eo];exact (gZ.mp bH).1
  have F2:e∉[it,a]:=by
   intro z;rcases ct.mp z with z|z
   ·exact dJ z
   ·have iv:e=a:=by simpa using z
    exact Fz iv.symm
  refine wpAny_pyNext_enum_itemD (i:=i+1) (aiv (JH (A:=X.A.in1) (I.ok.hd ar) it a FA its.toArray)) he ⟨by omega,by simpa using hit,p⟩ (by omega) dJ F2 λnd h' tk Ft aE mT cL hsz ay=>?_
  have ex:nd=u:=by
   have:=Ft.2;rw[Nat.add_sub_cancel,<- Array.getElem?_toList] at this;rw[show (its.toArray).toList=its from rfl,bH] at this;exact (fc this).symm
  subst ex;refine⟨_,rfl,wpAny_letOwnedTupleGo_enum aE λaj kA ia=>?_⟩;have wD:e<s.heap.objs.size:=cN he;have FR:it<s.heap.objs.size:=by obtain⟨o,kB,_⟩:=hit;exact cN kB
  have eu:∀b o,b≠e->b≠it->s.heap.get? b=some o->aj.get? b=some o:=λb o ae a8 q=>ia.extBut b o ae (ay b o ae a8 q);have fr:H s.heap.objs.size=none:=I.bT.fresh (dw _);have Fu:aj.get? s.heap.objs.size=some {cls:=.type "tuple",data:=.seq #[.int ((i+1:Nat):Int) tk,nd]}:=ia.extBut _ _ (f5 wD) cL;have n4:∀b o,H b=some o->b≠e/\b≠it:=λb o q=>⟨λz=>(by rw[z,f0] at q;cases q),λz=>(by rw[z,oP] at q;cases q)⟩;have F5:fA X.prog X.w (upd H s.heap.objs.size (.tup [.int ((i+1:Nat):Int),x])) aj:=by
   intro b o q;by_cases ab:b=s.heap.objs.size
   ·subst ab;rw[dN] at q;cases q;exact⟨by show 2<=cB;decide,[.int ((i+1:Nat):Int) tk,nd],.cons ⟨tk,rfl⟩ (.cons c_ .nil),⟨_,Fu,rfl,_,rfl⟩⟩
   ·rw[cI ab] at q;refine (I.bT b o q).kF (λc v d9 d2=>eu c v ?_ ?_ d2) (λc d2=>?_) λc ys d2=>?_
    ·rcases d9 with rfl|d9
     ·exact (n4 _ _ q).1
     ·exact (n4 _ _ d9).1
    ·rcases d9 with rfl|d9
     ·exact (n4 _ _ q).2
     ·exact (n4 _ _ d9).2
    ·rw[cI (iw d2 fr)];exact d2
    ·rw[cI (iw d2 fr)];exact d2
  have ck:bG.Inv X ai σ (upd H s.heap.objs.size (.tup [.int ((i+1:Nat):Int),x])) {s with heap:=aj,toks:=tk+1}:=by
   refine I.step (g':=s.gens) (d':=s.drawn) (ch:=[e,it]) (λb ab=>?_) (λb o _ _ d9 q _=>eu b o (λz=>d9 (by simp[z])) (λz=>d9 (by simp[z])) q) (λb o _ _ d9 q _=>⟨o.slots,eu b o (λz=>d9 (by simp[z])) (λz=>d9 (by simp[z])) q⟩) (λb o _ q n=>?_)
    (λb o d9 q=>⟨o,eu b o (λz=>d9 (by simp[z])) (λz=>d9 (by simp[z])) q⟩) (λb ys q=>by rw[cI (iw q fr)];exact q) (λb o u q=>by rw[cI (iw q fr)];exact q) (λb ps q=>⟨#[],by rw[cI (iw q fr),q];simp⟩) (λm hm=>?_) F5 I.bare
   ·rcases ct.mp ab with rfl|ab
    ·exact⟨hR,f1,f4,hE⟩
    ·have:b=it:=by simpa using ab
     subst this;exact⟨g3,g1,nX,ky⟩
   ·rw[cI (ee (cN q))];exact n
   ·obtain⟨o,i4,ep,kB,r⟩:=hm;exact⟨o,i4,ep,eu _ o (Ne.symm f1) (Ne.symm g1) kB,r⟩
  refine⟨.ref s.heap.objs.size,_,ck,rfl,⟨s.heap.objs.size,x,fr,rfl,rfl,λys aV=>by rw[I.IX aV a_];exact hx⟩,⟨⟨_,by have:=kA;simpa using this⟩,(show h'.IsTupleIter it a (i+1) by simpa using mT.2.1).at λo q=>(ia.2 it dJ.symm).trans q⟩,λb ab=>?_⟩
  rcases ct.mp ab with rfl|ab
  ·rw[cI (ee wD)];exact f0
  ·have:b=it:=by simpa using ab
   subst this;rw[cI (ee FR)];exact oP
 done:=by
  intro X fJ hw h9 ar i ai s σ H E I hf st bx;subst fJ hw h9;obtain⟨xs,a_,hx⟩:=bx;obtain⟨its,bV,p,hz⟩:=I.tuple a_;obtain⟨⟨old,he⟩,hit⟩:=st;obtain⟨oP,g1,g2,g3,nX,ky⟩:=hf it (by simp);have cL:s.TypeIs (.ref e) "enumerate":=⟨_,he,rfl⟩;have av:=bV.length;unfold pyNext;refine aT (wpAny_attempt (u5 (name:=Str.ofString "__next__") cL F.slot_enumerate_next
   (tj F.slot_enumerate_next cL F.entry_enumerate_next ?_ (F.args_enumerate_next_1 _))))
  show a6 _ _ (field (.ref e) 2 >>= _) _ _ _
  refine aT (iP he rfl (x:=.ref it) rfl ?_)
  refine aT (Jh (I.ok.hd ar) hit (show s.heap.IsTuple a its.toArray from p) (by simp;omega) λh' x gG lB=>?_)
  obtain⟨o,aE,d9⟩:=lB;refine aT (wpAny_isInstance (T:="StopIteration") (b:=true) ⟨o,aE,d9⟩ isSubtype_stop ?_);exact cy ⟨rfl,I.turned (t':=s.toks) (λb o ab q=>gG b o ab q) oP g1 g3 nX ky⟩
 self:=λ_ _ _ _ _ st h=>by
  obtain⟨⟨old,he⟩,_⟩:=st;exact wpAny_pyIter_enum he h
noncomputable def Zo(K:br)(cw:gs):TI:=λσ H R=>cw σ H λvs H1=>∃a xs,vs=[.ref a]/\c6 K H1 a xs/\R (C8 K a) H1
noncomputable def rQ(ts:List T):List T:=ts.zipIdx.map λp=>.tuple [.int ((p.2+1:Nat):Int),p.1]
def vx(f:lq):lq:=λε=>(f ε).map rQ
section
variable {X:bt}{es:List bz}{k g9:Nat}{p pos fl pc uP:Pos}{a:bz}{f:bK}
def ah5{cw:gs}(bx:eP X "enumerate")(hm:X.mg "enumerate"=none)(aq:h5 X [a] cw)(aC:bb [a] X.env=[(false,eval a X.env)]:=by rfl)(ia:bb [a] X.env=(false,eval a X.env)::bb [] X.env:=by rfl):qO X (.Tuple es k fl) (.Call (.Name "enumerate" p) [a] [⟨some "start",.Constant (.int 1) g9 pc,uP⟩] pos) (Zo X.K cw):=by
 intro ai s σ H R I h;refine pe (pq I bx hm PyProof.Rows.boot_enumerate (cw_kw (cD (aq pos ai s σ H _ I h) λus s0 ⟨vs,H1,U0,bC,aM⟩=>kws_cons (cD ((show b3 X (.Constant (.int 1) g9 pc) (ta (.int 1)) from SR) ai s0 σ H1 (λy bf=>y=.int 1/\bf=H1) U0 ⟨rfl,rfl⟩) λsv s1 ⟨y,bf,bw,acx,e2,i2⟩=>kws_nil ?_)) (by rw[ia];rfl) (by rw[aC];rfl)));subst e2 i2;obtain⟨adV,rfl⟩:=acx;obtain⟨a,xs,rfl,a_,q⟩:=aM;show a6 _ _ (call (.type "enumerate") us [("start",.int 1 adV)]) _ _ _;cases bC with
|cons r qd=>
  cases qd
  cases r
  obtain⟨its,bV,pl,hz⟩:=bw.tuple a_;have wz:a<s1.heap.objs.size:=by obtain⟨o,aE,_⟩:=pl;exact cN aE
  refine agu (show s1.heap.IsTuple a its.toArray from pl) λh' he hit hsz ay=>wpAny_pyIter_enum he ?_
  refine⟨s1.heap.objs.size+1,[s1.heap.objs.size+1,s1.heap.objs.size],_,_,bf,rfl,bw.kept (t':=s1.toks) ay,afW a s1.heap.objs.size (s1.heap.objs.size+1) (Nat.succ_ne_self _) (ee wz) (ee (Nat.lt_succ_of_lt wz)),⟨⟨_,he⟩,hit⟩,λb ab=>?_,q⟩
  have jy:s1.heap.objs.size<=b:=by
   rcases ct.mp ab with rfl|ab
   ·exact ni _
   ·have:b=s1.heap.objs.size:=by simpa using ab
    rw[this];exact dw _
  exact bw.uu jy (bw.bT.fresh jy)
def agc{K:br}{a:ak}{a5:ak->Prop}{H1:aA}{ts:List T}{vs:List V}(au:c6 K H1 a vs)(q:bp K a5 H1 ts vs):qM K (C8 K a) a5 H1 (rQ ts) where
 go:=λi F H t aw d e=>by
  have ba:=(gZ.mp e).1;simp only[rQ,eb,List.length_zipIdx] at ba;obtain⟨v,ae,_⟩:=q.get (g0 ba);exact⟨vs,v,aw.tup _ _ au,ae⟩
 ot:=λi F H t x ah aw d e y=>by
  obtain⟨p,v,az,rfl,rfl,y⟩:=y;have ba:=(gZ.mp e).1;simp only[rQ,eb,List.length_zipIdx] at ba;obtain⟨lN,ae,aj⟩:=(q.aw aw).get (g0 ba);have a8:=y vs (aw.tup _ _ au);rw[ae] at a8;cases a8;have aU:=Ext.laid (o:=.tup [.int ((i+1:Nat):Int),v]) d az;refine⟨F,aU,?_⟩;have bM:t=.tuple [.int ((i+1:Nat):Int),ts[i]]:=by
   simp only[rQ,jn,List.getElem?_zipIdx,g0 ba] at e;simpa using e.symm
  subst bM;simp only[Rep];exact⟨p,_,rfl,c6.of dN,bp.cons (by simp[Rep]) (bp.cons (aj.ext aU) bp.nil)⟩
 stop:=λi F H aw av=>⟨vs,aw.tup _ _ au,by
  simp only[rQ,eb,List.length_zipIdx] at av;rw[<- q.length];exact av⟩
def ajq(hm:X.mg "enumerate"=none)(aq:cK X a f)(bx:eP X "enumerate":=by rfl)(aC:bb [a] X.env=[(false,eval a X.env)]:=by rfl)(ia:bb [a] X.env=(false,eval a X.env)::bb [] X.env:=by rfl):
  pM X (.Tuple es k fl) (.Call (.Name "enumerate" p) [a] [⟨some "start",.Constant (.int 1) g9 pc,uP⟩] pos) (vx (kk f)):=CL (ah5 bx hm (iR aq jM ia) aC ia) λσ H R ⟨aG,aO,O,F,ε,ts,r,e,k⟩=>by
 simp only[vx,kk,dR,b0] at e;obtain⟨us,⟨t,bM,e⟩,rfl⟩:=e;split at e
 ·cases e
  refine⟨aG,aO,O,F,ε,_,r,bM,λv aF ah x q=>?_⟩
  simp only[Rep] at q;obtain⟨a,vs,rfl,aC,au⟩:=q;exact⟨a,vs,rfl,aC,k _ aF ah x (agc aC au)⟩
 ·cases e
end
section
variable {X:bt}{e:bz}{f:bK}{pos:Pos}
noncomputable def ahW(K:br):V->List V->aA->dj->Prop:=λx vs H Q=>∃l b xs zs,x=.ref l/\vs=[.ref b]/\H l=some (.lst xs)/\c6 K H b zs/\xs.length+zs.length<=cB/\Q .ff (upd H l (.lst (xs++zs)))
open AutoSeq1 in
def ahp(l:ak)(as:Array ag)(n:Nat)(b:ak)(bs:Array ag)(m:Nat)(e0:Option ak)(df:Array (Option ag))(oP:¬(!as.isEmpty && Builtin.List.listTooLong (as.size+bs.size))=true)(g1:as.size<=cB)(g2:as.size+bs.size<=cB+1):
  Meets (Builtin.«list.extend» ⟨[.ref l,.ref b],[]⟩) (λ_ R s=>s.heap.get? l=some {cls:=.type "list",dict:=none,data:=.seq as n,slots:=#[]}/\s.heap.get? b=some {cls:=.type "tuple",dict:=e0,data:=.seq bs m,slots:=df} /\
   R (.ok (.ret Value.none)) {s with heap:=s.heap.update l (Obj.mapSeq λx=>x++bs),toks:=s.toks}):=
 .of_wp λprog w A R s h=>by
  obtain⟨az,fH,d,tk,os⟩:=s;obtain⟨av,ab,h⟩:=h;have f2:=AutoSeq1.sub_tuple_tuple;have hR:=AutoSeq1.sub_list_list;have f4:=AutoSeq1.sub_tuple_list;have hE:=AutoSeq1.sub_list_tuple;have g3:(as++bs).size<=cB+1:=by
   rw[Array.size_append];exact g2
  wp_walk using (wpAny_updateSeq av rfl (hz:=g1) (_hz':=g3)),wpAny_loadPart' av,wpAny_loadPart' ab
  exact⟨_,rfl,h⟩
def af7:r0 X "list.extend" (ahW X.K):=by
 intro ai s σ H x vs v us Q I aY bV h;obtain⟨l,b,xs,zs,rfl,rfl,eA,sq,hz,q⟩:=h;cases aY;obtain⟨u,rfl,c_⟩:=bV.one;cases c_;obtain⟨z,its,n,r,av,e⟩:=I.uI eA;obtain⟨gH,b7,xd,f9⟩:=I.tuple sq;have mQ:=b7.length;obtain⟨⟨cls,e0,data,df⟩,aE,ar,eH,hd⟩:=id xd;simp only at ar hd;subst ar hd;have hsz:its.toArray.size+gH.toArray.size<=cB:=by rw[eo,eo];omega
 have FZ:¬(!its.toArray.isEmpty && Builtin.List.listTooLong (its.toArray.size+gH.toArray.size))=true:=by
  rw[RB hsz,Bool.and_false];exact ti
 refine qm F.slot_list_extend ⟨_,e,rfl⟩ F.entry_list_extend (F.args_list_extend_2 _ _) (ahp l its.toArray n b gH.toArray eH e0 df FZ (by rw[eo];omega) (by omega)) ⟨e,aE,?_⟩
 refine⟨.ff,_,I.uH (its':=its++gH) eA e (by simp) (r.append b7) ?_,rfl,q⟩
 rw[jI];omega
noncomputable def uo(i:Nat)(f:bK):bD:=λε=>match ε[i]? with
|some (some (.own ts))=>(f ε).bind λt=>match t with
  |.tuple us=>if ts.length+us.length<=big then some (.bR (ε.set i (some (.own (ts++us))))) else none
  |_=>none
|_=>none
def ajP(i:Nat){x:Str}{dH apos de:Pos}(he:eh X e f)(c3:X.N[i]?=some x:=by rfl)(a4:kU X.env.scope x:=by first|exact Or.inl rfl|exact Or.inr (Or.inl rfl)|exact Or.inr (Or.inr rfl))(hd:(x==("__debug__":Str))=false:=by decide)
  (ec:(x==("__classdict__":Str))=false:=by decide) (j0:bb [e] X.env=(false,eval e X.env)::bb [] X.env:=by rfl)
  (i8:ir (.Name x dH) "extend" X.env (eval (.Name x dH) X.env)=eval (.Name x dH) X.env:=by rfl)
  (l8:((c0 de (bb [e] X.env)).all (λx=>!x.1) && (gm de (gk [] X.env)).all (λx=>x.1.isSome)
   && decide (([e]:List bz).length+([]:List Keyword).length+(if ([]:List Keyword).isEmpty then 0 else 1)<30))=true:=by rfl)
  (i9:(apos.endLine==de.line)=true:=by rfl) (l_:(c0 de (bb [] X.env)).any (·.1)=false:=by rfl)
  (l':iu (.Call (.Attribute (.Name x dH) "extend" apos) [e] [] de) none pos.line X.env=pure false:=by rfl):
  f_ X (.Expr (.Call (.Attribute (.Name x dH) "extend" apos) [e] [] de) pos) (uo i f):=
 hk (vv (vJ tp PySem.F.slot_list_extend PySem.F.type_list_extend af7 (bB i c3 a4 hd ec) (iR he jM j0) i8 l8 i9 j0 l_) l') λD σ H ⟨aG,aO,O,F,ε,o,r,e,k⟩=>by
 unfold uo at e;split at e
 next ts he=>
  simp only[b0] at e;obtain⟨t,bM,e⟩:=e;split at e
  next us=>
   split at e
   next hz=>
    cases e
    obtain⟨v,ae,a,vs,rfl,n,h0,cq,au⟩:=r.val _ _ he;refine⟨_,ae,.inl ⟨rfl,_,gb.of cq⟩,aG,aO,O,F,ε,_,r,bM,λv aF ah x q=>?_⟩;obtain⟨b,ws,rfl,ab,hw⟩:=q.tup;have bC:=r.ext x;obtain⟨v1,dW,a1,o6,ax,dX,M5,qY,k1⟩:=bC.val _ _ he;rw[ae] at dW;cases dW;cases ax;refine⟨a,b,o6,ws,rfl,rfl,qY,ab,by rw[lh,<- k1.length,<- hw.length];exact hz,?_⟩;obtain⟨aw,b7⟩:=bC.mut (s':=.own (ts++us)) (o':=.lst (o6++ws)) he rfl ae dX h0 qY (.inl ⟨_,rfl⟩) λaw=>⟨a,_,rfl,dX,h0,dN,(k1.aw aw).append (hw.aw aw)⟩;exact k σ aF _ (x.aw.trans aw) b7
   next=>cases e
  next=>cases e
 next=>cases e
end
end
section
def agz{pos:Pos}{c kW:ag}{a b:Int}(l:List ag)(h:TriplesOk l)(e:codeAmong pos (l++[gP a,gP b,c])=some kW):codeAmong pos l=some kW\/kW=c:=by
 fun_induction TriplesOk l with
|case1=>
  simp only[pd,codeAmong,gP] at e;split at e
  ·exact .inr (fc e).symm
  ·cases e
|case2 kr t nM u x rest bc=>
  simp only[mn,codeAmong] at e ⊢;split at e
  next ar=>rw[if_pos ar];exact .inl e
  next ar=>rw[if_neg ar];exact bc h e
|case3 _ _ _=>exact h.elim
noncomputable def pD(mg:Str->Option ag)(h:bI):Prop:=∃bm dY,mg "__builtins__"=some (.ref bm)/\bm≠builtinsNs/\h.get? bm=some dY/\dY.cls=.type "module"/\dY.dict=some builtinsNs/\dY.data=.plain
def uG(o:Obj)(q:ak):ey:=.ext λh=>h.get? q=some o
def wb(c:ak)(q:Str):ey:=.ext λh=>h.CodeRec (.ref c) q
variable [cG]
def aim{X:bt}{ai:List (ak×Obj)}{σ:bG.St}{H:aA}{s:aK}{params:Arguments}{body:bz}{scope:Scope}{lD:Pos}{c P:ak}{g6:List (Str×ak)}{Q:ag->aK->Prop}(I:Inv X ai σ H s)
  (zM:X.env.code=.ref c) (C:PySem.W.CodeHd X.base c P) (l6:pD X.mg X.base) (FH:defaultsOf params X.env=([],[])) (l7:closureFor scope X.env=pure g6)
  (d:mG H) (dd:(P,X.env.qual++"<lambda>")∈cG.dd) (un:∀p∈cG.dd,p.1=P->p.2=X.env.qual++"<lambda>")
  (h:∀(q cA:ak) (kV:ag) (ah:aA) (s':aK),Inv X ai σ ah s'->jR H ah->mG ah->H q=none->ah q=some (uG (PySem.W.kla_obj "<lambda>" (X.env.qual++"<lambda>") params body scope g6 ((X.mg "__name__").getD .none) cA kV) q) ->
   ah cA=some (wb cA (X.env.qual++"<lambda>"))->Q (.ref q) s'):
  a6 (bS X.prog X.w) X.A (eval (.Lambda params body scope lD) X.env) Q X.d3 s:=by
 obtain⟨ps,eA,bo,bx⟩:=d _ dd;have fJ:s.heap.get? P=some (PySem.W.tabObj ps):=I.bT P _ eA;have ns:s.heap.Ns il X.mg:=I.ok.mod.glob.keeps I.gC;obtain⟨bm,dY,b1,b2,gB,l3,pQ,nN⟩:=l6;have v8:=I.gC _ _ gB;have YG:il≠P:=λz=>by
  obtain⟨o,es,ep,e,hd,_⟩:=ns;rw[z,fJ] at e;cases e;cases hd
 have Yl:bm≠P:=λz=>by
  rw[z,fJ] at v8;cases v8;cases l3
 have Yk:bm≠il:=λz=>by
  obtain⟨o,es,ep,e,hd,_⟩:=ns;rw[z,e] at v8;cases v8;rw[hd] at nN;cases nN
 have ab:s.heap.BuiltinsAt X.mg P:=⟨bm,dY,b1,b2,Yk,Yl,v8,l3,pQ,nN⟩;have Lr:=C.keeps I.gC;refine PySem.W.kla_eval FH ?_;cases hf:codeAmong lD ps.toList with
|some kW=>
  obtain⟨cA,rfl,d9⟩:=bx lD kW hf;refine PySem.W.kla_makeFunctionHit l7 I.ok.glob ns zM Lr fJ bo hf ab λkV h' tk k hsz=>?_;have fr:H h'.objs.size=none:=I.bT.fresh hsz;refine h h'.objs.size cA kV (upd H h'.objs.size (uG _ h'.objs.size)) _ (I.laid (t':=tk) (λb u e=>cT _ (k b u e)) hsz ⟨fy _ rfl,⟨_,fy _ rfl⟩,λae aj ax aL=>aL _ ax⟩)
   (λb o e=>.inl (by rw[cI (iw e fr)];exact e)) (d.new fr) fr dN (by rw[cI (iw d9 fr)];exact d9)
|none=>
  refine PySem.W.kla_makeFunction l7 I.ok.glob ns zM Lr fJ bo hf YG ab λcA kV h' tk hx amF en NN uC=>?_
  have M1:H h'.objs.size=none:=I.bT.fresh (hi amF (Nat.le_of_lt en));have XY:H cA=none:=I.bT.fresh amF;have Wa:cA≠h'.objs.size:=ee en;have sS:∀b o,H b=some o->b≠cA:=λb o e=>iw e XY;have N':∀b o,H b=some o->b≠h'.objs.size:=λb o e=>iw e M1;have U9:=sS P _ eA;have U_:=N' P _ eA
  let ah:aA:=upd (upd (upd H P (.ij (ps++#[gP lD.line,gP lD.col,.ref cA]))) cA (wb cA (X.env.qual++"<lambda>"))) h'.objs.size (uG (PySem.W.kla_obj "<lambda>" (X.env.qual++"<lambda>") params body scope g6 ((X.mg "__name__").getD .none) cA kV) h'.objs.size)
  have MZ:ah h'.objs.size=some (uG (PySem.W.kla_obj "<lambda>" (X.env.qual++"<lambda>") params body scope g6 ((X.mg "__name__").getD .none) cA kV) h'.objs.size):=dN;have EV:ah cA=some (wb cA (X.env.qual++"<lambda>")):=by show upd _ _ _ _=_;rw[cI Wa,dN]
  have y7:ah P=some (.ij (ps++#[gP lD.line,gP lD.col,.ref cA])):=by show upd _ _ _ _=_;rw[cI U_,cI U9,dN]
  have EU:∀b,b≠P->b≠cA->b≠h'.objs.size->ah b=H b:=λb dX eH md=>by show upd _ _ _ _=_;rw[cI md,cI eH,cI dX]
  have mK:∀b o,H b=some o->b≠P->ah b=some o:=λb o e n=>by rw[EU b n (sS b o e) (N' b o e)];exact e
  have aw:∀b o,b≠P->s.heap.get? b=some o->(h'.push (PySem.W.kla_obj "<lambda>" (X.env.qual++"<lambda>") params body scope g6 ((X.mg "__name__").getD .none) cA kV)).get? b=some o:=λb o n e=>cT _ (hx b o n e);have sR:∀b,H b=none->b≠P:=λb e z=>by rw[z,eA] at e;cases e
  have uS:jR H ah:=λb o e=>by
   by_cases z:b=P
   ·subst z;rw[eA] at e;cases e;exact .inr ⟨_,_,rfl,y7⟩
   ·exact .inl (mK b o e z)
  refine h h'.objs.size cA kV ah _ (I.un (t':=tk) ⟨λb o e n _ _=>aw b o (sR b n) e,λb o e n _ _=>⟨o.slots,aw b o (sR b n) e⟩,λb o e n _=>?_,λb o e _=>?_,λb xs e=>mK b _ e λz=>by (rw[z,eA] at e;cases e),λb o u e=>mK b _ e λz=>by (rw[z,eA] at e;cases e),λb lJ e=>?_⟩ λa o e=>?_) uS (λp az=>?_) M1 MZ EV
  ·have lt:=cN e;rw[EU b (sR b n) (ee (gN lt amF)) (ee (Nat.lt_trans (gN lt amF) en))];exact n
  ·by_cases z:b=P
   ·subst z;exact⟨_,cT _ uC⟩
   ·exact⟨o,aw b o z e⟩
  ·by_cases z:b=P
   ·subst z;rw[eA] at e;cases e;exact⟨_,y7⟩
   ·exact⟨#[],by rw[mK b _ e z];simp⟩
  ·by_cases nk:a=h'.objs.size
   ·subst nk;rw[MZ] at e;cases e;exact⟨fy _ rfl,⟨_,fy _ rfl⟩,λae aj ax aL=>aL _ ax⟩
   by_cases f9:a=cA
   ·subst f9;rw[EV] at e;cases e;refine⟨NN.at λo e=>cT _ e,?_,λae aj ax aL=>ax.at aL⟩;obtain⟨dh,o,vs,t,aL,aE,_⟩:=NN;cases aL;exact⟨o,cT _ aE⟩
   by_cases I8:a=P
   ·subst I8;rw[y7] at e;cases e;exact cT _ uC
   ·rw[EU a I8 f9 nk] at e;refine (I.bT a o e).kF (λb u ab q=>aw b u ?_ q) (λb q=>mK b _ q λz=>by (rw[z,eA] at q;cases q)) λb xs q=>mK b _ q λz=>by (rw[z,eA] at q;cases q)
    rcases ab with rfl|ab
    ·exact I8
    ·exact λz=>by rw[z,eA] at ab;cases ab
  ·by_cases z:p.1=P
   ·have aL:=un p az z;obtain⟨uL,fl⟩:=p;simp only at z aL;subst z aL;refine⟨_,y7,by rw[Array.toList_append];exact TriplesOk_snoc _ _ _ _ bo,λpos kW e=>?_⟩;rw[Array.toList_append] at e;rcases agz _ bo e with e|e
    ·obtain⟨dh,ax,aL⟩:=bx pos kW e;exact⟨dh,ax,mK _ _ aL λz=>by (rw[z,eA] at aL;cases aL)⟩
    ·exact⟨cA,e,EV⟩
   ·obtain⟨lJ,aM,a9,c5⟩:=d p az;refine⟨lJ,mK _ _ aM z,a9,λpos kW e=>?_⟩;obtain⟨dh,ax,aL⟩:=c5 pos kW e;exact⟨dh,ax,mK _ _ aL λz=>by (rw[z,eA] at aL;cases aL)⟩
end
section
variable [cG]
noncomputable def um(qual:Str)(scope:Scope)(L q:ak)(cd:ag)(cl:List (Str×ak)):Env:=
 {scope:=scope,locals:=L,globals:=il,cells:=cl,qual:=qual++".<locals>.",func:=some q,code:=cd,frame:=some L,builtins:=builtinsNs}
noncomputable def wc(P:cE)(w:b8)(K:br)(mg:Str->Option ag)(base:bI)(N:List Str)(qual:Str)(scope:Scope)(q:ak)(cd:ag)(cl:List (Str×ak))(A:cU)(outer:List Env)(s:aK)(H:aA):bt where
 prog:=P
 w:=w
 K:=K
 mg:=mg
 base:=base
 A:=A.deeper (um qual scope s.heap.objs.size q cd cl)
 N:=N
 dM:=s
 aO:=H
 env:=um qual scope s.heap.objs.size q cd cl
 outer:=outer
 stack:=um qual scope s.heap.objs.size q cd cl::outer
 ex:=[]
 calm:=true
 fn:=λ_=>false
 eC:=[]
 d3:=λ_ _=>False
structure C2(N:List Str)(scope:Scope)(cl:List (Str×ak))(σ:bG.St)(H:aA)(h:bI):Prop where
 inj:∀x y c,cl.lookup x=some c->cl.lookup y=some c->x=y
 has:∀x,(scope.names.lookup x=some .cell\/scope.names.lookup x=some .free)->∃c,cl.lookup x=some c
 MF:∀x c,cl.lookup x=some c->(∃v,h.IsCell c v)/\H c=none
 len:σ.length=N.length
 val:∀(i:Nat) (x:Str) (v:V),N[i]?=some x->σ[i]?=some (some v)->kU scope x->∃u c,RelV v u/\scope.names.lookup x=some .free/\cl.lookup x=some c/\h.IsCell c (some u)
def PZ{h h':bI}{c:ak}{v:Option ag}(x:h.IsCell c v)(k:∀b o,h.get? b=some o->h'.get? b=some o):h'.IsCell c v:=by
 obtain⟨o,aE,hd⟩:=x;exact⟨o,k _ _ aE,hd⟩
end
section
noncomputable def CZ(ts:List ak)(H:aA):Prop:=(∀b,H b=none\/(∃o xs,H b=some (.oN o (.lst xs)))\/(b∈ts/\H b=some (.ij #[])))/\∀b∈ts,H b=some (.ij #[])
def ahb{P:cE}{w:b8}{K:br}{mg mY:Str->Option ag}{er:mC}{k:Nat}{cY a:ak}{fd:gi}{x:Str}{sp:kT}{dc:aK}{vs:List ag}{ns:List Int}{ts:List ak}
  (nG:K.In dc.heap) (lA:∀b∈ts,dc.heap.get? b=some (PySem.W.tabObj #[])) (wx:∀b∈ts,K.lookup b=none) (ec:∀b∈ts,∃c,amr K c b=true)
  (qZ:dc.heap.Ns il mg) (ab:dc.heap.Ns builtinsNs mY) (Yo:∀x:Str,x≠"__name__"->mY x=bootBuiltins x) (YM:dc.heap.NoLimit) (bx:dc.gens=#[])
  (aq:dc.heap.get? a=some {cls:=.type "list",data:=.seq vs.toArray}) (ba:IntsAre vs ns) (av:ns.length<=cB) (au:dF k callerA)
  (l6:pD mg dc.heap) (F:∀base:bI,K.In base->base.Ns il mg->pD mg base->fh P w K mg base er k cY fd [x] sp) (Yp:∀(s:aK) (u:ag),BindsTo s fd ⟨[u],[]⟩ [(x,u)])
  (q2:∀H:aA,CZ ts H->gb K H a (ns.map V.int)->sp [.ref a] H (λv _=>v=.c8 true) λ_ _ _=>False)
  (Fq:∀H e s',er [] H dc (λ_ _ _=>False) e s'->False):
  lT (bS P w) callerA (.call (.ref cY) ⟨[.ref a],[]⟩) (λr s'=>r=.ok (.ret (.bool true))/\OldK dc.heap s'.heap/\s'.os=dc.os/\AllBare s'.gens) dc:=by
 have bV:=QC ba;have _l:=ba.length;have nat:a∉ts:=λz=>by
  have:=lA a z;rw[aq] at this;cases this
 have core:∀H:aA,CZ ts H->gb K H a (ns.map V.int)->fA P w H dc.heap->(∀b,H b≠none->b=a\/b∈ts)->(H a≠none->K.lookup a=none) ->
   lT (bS P w) callerA (.call (.ref cY) ⟨[.ref a],[]⟩) (λr s'=>r=.ok (.ret (.bool true))/\OldK dc.heap s'.heap/\s'.os=dc.os/\AllBare s'.gens) dc:=by
  intro H kz c9 bT oQ h9;have D1:∀{b:ak} {o:Obj},dc.heap.get? b=some o->H b=none->(oT dc.heap H).get? b=some o:=λe n=>aiq e n;have p9:∀{b:ak} {o:Obj} {es:Array DictEntry} {ep:Nat},dc.heap.get? b=some o->o.data=.dict es ep->H b=none:=λ{b o es ep} e d=>by
   cases q:H b with
   |none=>rfl
   |some u=>
    rcases oQ b (by rw[q];simp) with bg|bg
    ·subst bg;rw[aq] at e;cases e;have d':Data.seq vs.toArray _=Data.dict es ep:=d;cases d'
    ·rw[lA b bg] at e;cases e;have d':Data.fields _=Data.dict es ep:=d;cases d'
  have AF:∀{b:ak} {m:Str->Option ag},dc.heap.Ns b m->(oT dc.heap H).Ns b m:=λ{b m} ⟨o,es,ep,e,d,r⟩=>⟨o,es,ep,D1 e (p9 e d),d,r⟩;have M8:K.In (oT dc.heap H):=λb o e=>D1 (nG b o e) (by
   cases q:H b with
   |none=>rfl
   |some u=>
    rcases oQ b (by rw[q];simp) with bg|bg
    ·subst bg;rw[h9 (by rw[q];simp)] at e;cases e
    ·rw[wx b bg] at e;cases e)
  have Yq:pD mg (oT dc.heap H):=by
   obtain⟨bm,dY,b1,b2,gB,l3,pQ,nN⟩:=l6;refine⟨bm,dY,b1,b2,D1 gB ?_,l3,pQ,nN⟩;cases q:H bm with
   |none=>rfl
   |some u=>
    rcases oQ bm (by rw[q];simp) with bg|bg
    ·subst bg;rw[aq] at gB;cases gB;cases nN
    ·rw[lA bm bg] at gB;cases gB;cases nN
  have X_:Mod K mg (oT dc.heap H):=⟨M8,AF qZ,⟨mY,AF ab,Yo⟩,let ⟨_s,ae,aj⟩:=YM;⟨_s,AF ae,aj⟩⟩;have cx:mE P w K mg (oT dc.heap H) callerA [] dc H:=⟨rfl,X_,λb o e=>ajg e,Nat.le_of_eq (ahk _ _),trivial,λb ab=>absurd (show b∈([]:List ak) from ab) (by simp),bT,.of_eq bx⟩;refine rq ((F _ M8 (AF qZ) Yq).run callerA [] dc H ⟨[.ref a],[]⟩ [.ref a] [.ref a] _ _ au cx (Yp dc (.ref a)) (.cons rfl .nil) (q2 H kz c9)) λr s' h=>?_;cases r with
  |error e=>exact (Fq H e s' h).elim
  |ok nT=>
   cases nT with
   |next=>exact kd h
   |brk=>exact kd h
   |cont=>exact kd h
   |ret u=>
    obtain⟨v,ah,os,bare,un,NF,cu,q⟩:=h;have d2:v=.c8 true:=q;subst d2;obtain rfl:u=Value.bool true:=cu;refine⟨rfl,⟨λb o e=>?_,λb o e=>un.there b o e (by simp)⟩,os,bare⟩;cases q:H b with
    |none=>exact .inl (un.keep b o e q (by intro z;exact absurd (show b∈([]:List ak) from z) (by simp)) (by simp))
    |some u=>
     rcases kz.1 b with z|⟨dY,xs,z⟩|⟨Ng,z⟩
     ·rw[q] at z;cases z
     ·have f9:=un.oO b dY _ z;obtain⟨ax,_⟩:=bT b _ z;obtain⟨aL,_⟩:=NF b _ f9;rw[e] at ax;cases ax;exact .inl aL
     ·obtain⟨more,f9⟩:=un.o4 b _ z;have aL:s'.heap.get? b=some (PySem.W.tabObj (#[]++more)):=NF b _ f9;have ax:=lA b Ng;rw[e] at ax;cases ax;obtain⟨c,ar⟩:=ec b Ng;exact .inr (.inl ⟨((PySem.W.codeHd_of_K nG ar).tab e).isCodeTable,rfl,#[],more,rfl,aL⟩)
 cases ay:K.lookup a with
|some o=>
  have e:=nG a o ay;rw[aq] at e;cases e;refine core (λb=>if b∈ts then some (.ij #[]) else none) ⟨λb=>?_,λb ab=>if_pos ab⟩ (.inr ⟨_,vs.toArray,_,ay,rfl,rfl,rfl,by rw[eo,_l];exact av,by simpa using bV⟩) (λb u z=>?_) (λb z=>?_) λz=>?_
  ·by_cases ab:b∈ts
   ·exact .inr (.inr ⟨ab,if_pos ab⟩)
   ·exact .inl (if_neg ab)
  ·by_cases ab:b∈ts
   ·have iv:=(if_pos ab).symm.trans z;cases iv;exact lA b ab
   ·have iv:=(if_neg ab).symm.trans z;cases iv
  ·by_cases ab:b∈ts
   ·exact .inr ab
   ·exact absurd (if_neg ab) z
  ·exact absurd (if_neg nat) z
|none=>
  refine core (λb=>if b=a then some (.oN {cls:=.type "list",data:=.seq vs.toArray} (.lst (ns.map V.int))) else if b∈ts then some (.ij #[]) else none) ⟨λb=>?_,λb ab=>?_⟩ (.inl (.inr ⟨{cls:=.type "list",data:=.seq vs.toArray},if_pos rfl⟩)) (λb u z=>?_) (λb z=>?_) λ_=>ay
  ·by_cases ab:b=a
   ·exact .inr (.inl ⟨_,_,if_pos ab⟩)
   ·by_cases mP:b∈ts
    ·exact .inr (.inr ⟨mP,(if_neg ab).trans (if_pos mP)⟩)
    ·exact .inl ((if_neg ab).trans (if_neg mP))
  ·have ne:b≠a:=λz=>nat (z▸ab);exact (if_neg ne).trans (if_pos ab)
  ·by_cases ab:b=a
   ·have iv:=(if_pos ab).symm.trans z;cases iv;subst ab;exact⟨aq,by rw[eb];exact av,vs,_,bV,aq⟩
   ·by_cases mP:b∈ts
    ·have iv:=((if_neg ab).trans (if_pos mP)).symm.trans z;cases iv;exact lA b mP
    ·have iv:=((if_neg ab).trans (if_neg mP)).symm.trans z;cases iv
  ·by_cases ab:b=a
   ·exact .inl ab
   ·by_cases mP:b∈ts
    ·exact .inr mP
    ·exact absurd ((if_neg ab).trans (if_neg mP)) z
def ahG{l:PySem.W.OpenLaw}{n k:Nat}{q:cE}{loose:List Str}{ua:(Str->Option ag)->bI->Prop}{oI:b8->bI->Prop}{d:DefRec}{K:Params->br}{er:b8->mC}{sp:b8->kT}{x:Str}{ts:List ak}
  (aX:l.most=some n) (zQ:n<=cB) (wC:d.params.defaults=[]) (au:dF k callerA)
  (Fw:∀(w:b8) (h:bI),oI w h->(K w.params).In h) (cL:∀(w:b8) (h:bI),oI w h->∀b∈ts,h.get? b=some (PySem.W.tabObj #[]))
  (wx:∀(w:b8),∀b∈ts,(K w.params).lookup b=none) (ec:∀(w:b8),∀b∈ts,∃c,amr (K w.params) c b=true)
  (F:∀(w:b8) (mg:Str->Option ag) (cY:ak) (h:bI),(K w.params).In h->h.Ns il mg->mg d.name=some (.ref cY) ->
   ∃fd:gi,(∀(s:aK) (u:ag),BindsTo s fd ⟨[u],[]⟩ [(x,u)]) /\
    ∀base:bI,(K w.params).In base->base.Ns il mg->pD mg base->fh l.prog w (K w.params) mg base (er w) k cY fd [x] (sp w))
  (q2:∀(w:b8) (H:aA) (a:ak) (ns:List Int),ns.length<=n->CZ ts H->gb (K w.params) H a (ns.map V.int)->sp w [.ref a] H (λv _=>v=.c8 true) λ_ _ _=>False)
  (Fq:∀(w:b8) (H:aA) (s:aK) (e:ag) (s':aK),er w [] H s (λ_ _ _=>False) e s'->False):
  PySem.W.WalkO q loose ua oI l.row.toRowW d [] (λf vs=>PySem.call f vs):=by
 refine Lp.V1 aX wC λw dM dc mg mY cY o pm cd doc a vs ns G Y aE hd alw wJ F4 hints hlen bx=>?_
 have nG:=Fw w _ Y;obtain⟨fd,ab,oR⟩:=F w mg cY _ nG G.T.g wJ;exact ahb nG (cL w _ Y) (wx w) (ec w) G.T.g G.T.b G.T.builtins G.T.nolimit bx F4 hints (hi hlen zQ) au G.T.bmain oR ab (λH kz c9=>q2 w H a ns hlen kz c9) λH e s'=>Fq w H dc e s'
def agJ{t:cG}{K:br}{H:aA}{a:ak}{ns:List Int}{d:List T->Option T}{ts:List ak}(lA:∀p∈t.dd,p.1∈ts)(kz:CZ ts H)(fI:Od K=true)(hd:d [ef ns]=some (.bool true))(c9:gb K H a (ns.map V.int)):spT K 1 d [.ref a] H (λv _=>v=.c8 true) λ_ _ _=>False:=by
 rcases c9 with c9|⟨o,its,n,ay,ar,_⟩
 ·refine⟨rfl,λb=>b=a,[ef ns],.bool true,⟨?_,λp az=>⟨#[],kz.2 p.1 (lA p az),trivial,λpos kW e=>by cases e⟩⟩,bp.cons ?_ bp.nil,hd,λv aF ah x r=>by simpa [Rep] using r⟩
  ·rintro b rfl;rcases c9 with q|⟨u,q⟩
   ·exact⟨_,q⟩
   ·exact⟨_,q⟩
  ·simp only[ef,Rep];exact⟨a,_,rfl,rfl,c9,J5 ns⟩
 ·have:=List.all_eq_true.mp fI _ (PX ay);simp[ar] at this
end
section
variable [cG]
abbrev aln:=Ev->Option (Bool×Ev)
end
section
variable [cG]
def aju{P:cE}{w:b8}{K:br}{mg:Str->Option ag}{base:bI}{x qual:Str}{st:Stmt}{f:ak}{hG:ag}{e4 an:Option ak}{lI:Array (Option ag)}{dA doc pm cX dO:ag}{N ps:List Str}{k:Nat}{b:bD}
  (l:K.lookup f=some ⟨hG,e4,.func (mj x qual (oy st) (hK st) (cb st) .none dA doc pm an cX dO),lI⟩) (ec:rl K cX qual=true) (S:c' N ps (cb st))
  (ab:∀(A:cU) (outer:List Env) (s:aK) (H:aA) (E:gU),dF k (A.deeper (envOfC qual (cb st) s.heap.objs.size f cX)) ->
   iW (jX fg P w K mg base N qual (cb st) f cX A outer s H E).kD (hK st) b):
  fh P w K mg base fg (k+1) f (mj x qual (oy st) (hK st) (cb st) .none dA doc pm an cX dO) ps (spT K ps.length (cV b N.length)):=by
 refine Tw l ec S (λvs H Q E h=>h.1) λA outer s H vs Q E au h=>⟨_,(ab A outer s H E au).kD,?_⟩
 obtain⟨av,F,ts,t,cf,q,e,j3⟩:=h;simp only[cV,b0] at e;obtain⟨o,e1,e⟩:=e;refine⟨F,⟨H,0⟩,λa=>H a=none,F,_,o,?_,e1,?_⟩
 ·have:=JS (N:=N) cf q (N.length - ts.length);unfold bG.start;rw[q.length] at this ⊢;exact this
 ·cases o with
  |dB t'=>
   cases e
   exact λv aF ah x q=>j3 v aF ah x q
  |bR ε'=>
   cases e
   exact λcj aF ah _ r=>j3 _ aF ah r.ent (by simp[Rep])
  |gC _=>cases e
  |dO _=>cases e
  |jC _ _=>cases e
  |j6 _=>cases e
end
section
abbrev ob(dd:List (ak×Str)):cG:=⟨dd,λ_=>[],λ_=>none⟩
def ajv{t:cG}{dd:List (ak×Str)}(bo:t.dd=dd){P:cE}{w:b8}{K:br}{mg:Str->Option ag}{base:bI}{k n:Nat}{f:ak}{fd:gi}{ps:List Str}{d:List T->Option T}(F:fh P w K mg base fg k f fd ps (@spT t K n d)):fh P w K mg base fg k f fd ps (@spT (ob dd) K n d):=by
 subst bo;have wd:∀{F:ak->Prop} {H:aA},@fo (ob t.dd) F H->@fo t F H:=λ{F H} h=>@fo.mk t F H (@fo.y1 (ob t.dd) F H h) (@fo.m_ (ob t.dd) F H h);have WZ:∀{F:ak->Prop} {H:aA},@fo t F H->@fo (ob t.dd) F H:=λ{F H} h=>@fo.mk (ob t.dd) F H (@fo.y1 t F H h) (@fo.m_ t F H h);refine F.imp λvs H Q E h=>?_;obtain⟨av,F,ts,r,cf,q,e,j3⟩:=h;exact⟨av,F,ts,r,wd cf,q,e,λv aF ah x bV=>j3 v aF ah (@Ext.mk (ob t.dd) F H aF ah (@Ext.same t F H aF ah x) (@Ext.sub t F H aF ah x) (@Ext.new t F H aF ah x) (WZ (@Ext.cf t F H aF ah x))) bV⟩
end
end D
end
section
namespace D
open PySem PySem.Spec PySem.Calls PySem.W PyProof.Rows PySem.Builtin PySem.Builtin.ObjectAttr PySem.Builtin.Getset_descriptor
end D
end
section
namespace D
open PySem PySem.Spec PyProof.Rows bG
section
variable [cG]
abbrev UZ:=Ev->Bool
def al9(f:bK):UZ:=λε=>(f ε).isSome
end
section

end
section
variable [cG]
def hP.at{X:bt}{ai:List (ak×Obj)}{H ah:aA}{b:ak}(h:hP X ai H b)(e:ah b=none):hP X ai ah b:=⟨e,h.2⟩
end
section
variable [cG]
def aiA{X:bt}{ai:List (ak×Obj)}{σ:bG.St}{H:aA}{s:aK}{scope:Scope}{y:Str}(I:Inv X ai σ H s)(sE:∀x∈scope.names,x.2≠.cell)(zP:∀x∈scope.names,x.2=.local->x.1=y)(aV:y∉X.N)(qX:∀x∈scope.names,x.2=.free->X.env.scope.names.lookup x.1=some .cell):
  C2 X.N scope (g6 X.env scope.names []) σ H s.heap:=by
 have av:∀x∈scope.names,x.2=.free->∃c,X.env.cells.lookup x.1=some c:=λx hx hf=>I.ok.has x.1 (.inl (qX x hx hf));have fr:∀x c,(g6 X.env scope.names []).lookup x=some c->X.env.cells.lookup x=some c:=amz av λx c e=>by cases e
 refine⟨λx y c ae aj=>I.ok.inj x y c (fr x c ae) (fr y c aj),λx h=>?_,λx c h=>⟨I.cell x c (fr x c h),I.nV x c (fr x c h)⟩,I.len,λi x v ae aj a8=>?_⟩
 ·rcases h with h|h
  ·obtain⟨y,aV,ax,aL⟩:=mem_lookup h;exact absurd ax (sE y aV)
  ·obtain⟨y,aV,ax,aL⟩:=mem_lookup h;exact vp (.inl ⟨y,aV,ax,aL⟩)
 ·have hf:scope.names.lookup x=some .free:=by
   rcases a8 with h|h|h
   ·obtain⟨z,hz,ax,aL⟩:=mem_lookup h;have:=zP z hz ax;rw[aL] at this;exact absurd (this▸mm ae) aV
   ·obtain⟨y,aV,ax,_⟩:=mem_lookup h;exact absurd ax (sE y aV)
   ·exact h
  obtain⟨y,aV,ax,aL⟩:=mem_lookup hf;have ay:X.env.scope.names.lookup x=some .cell:=by rw[<- aL];exact qX y aV ax
  obtain⟨m,_,a4⟩:=I.loc;obtain⟨u,c_,lk⟩:=a4 i x v ae aj (.inr (.inl ay));obtain⟨c,ar⟩:=vp (env:=X.env) (l:=scope.names) (cs:=[]) (x:=x) (.inl ⟨y,aV,ax,aL⟩);refine⟨u,c,c_,hf,ar,?_⟩;rcases lk with ⟨FW,_⟩|⟨_,dh,n0,hx⟩
  ·have:X.env.scope.names.lookup x=some .local:=FW;rw[ay] at this;cases this
  ·rw[fr x c ar] at n0;cases n0;exact hx
def cH.V_{K:br}{aG O F:ak->Prop}{E:gS}{H:aA}{ε:Ev}{σ:bG.St}{d:T}{v:V}(r:cH K aG E O F H ε σ)(ji:Rep K F H d v):cH K aG E O F H (some (.U d)::ε) (some v::σ):=by
 refine⟨by simp[r.len],λi s e=>?_,λi j s u v1 k5 jA ax aL d_ fv ae aj=>?_,r.ent,r.o0,r.fr⟩
 ·cases i with
  |zero=>
   simp at e;subst e;exact⟨v,rfl,ji⟩
  |succ i=>exact r.val i s (by simpa using e)
 ·cases i with
  |zero=>
   simp at ax;subst ax;cases d_
  |succ i=>
   cases j with
   |zero=>
    simp at aL;subst aL;cases fv
   |succ j=>exact r.ne i j s u v1 k5 (by omega) (by simpa using ax) (by simpa using aL) d_ fv (by simpa using ae) (by simpa using aj)
section
variable {P:cE}{w:b8}{K:br}{mg:Str->Option ag}{base:bI}{k:Nat}{q cA:ak}{N:List Str}{qual:Str}{scope:Scope}{cd:ag}{cl:List (Str×ak)}{A:cU}{outer:List Env}{s:aK}{H:aA}{σ:bG.St}{y:Str}
def age{ae:bI}{tk:Nat}{m:Str->Option ag}{v:V}{u:ag}(ay:scope.kind=.function)(hd:A.handled=none)(cx:mE P w K mg base A outer s H)(C:C2 N scope cl σ H s.heap)(qZ:ae.Ns s.heap.objs.size m)(aV:scope.names.lookup y=some .local)(hm:m y=some u)(bV:RelV v u)(aw:∀b o,s.heap.get? b=some o->ae.get? b=some o):
  Inv (wc P w K mg base (y::N) qual scope q cd cl A outer s H) [] (some v::σ) H {s with heap:=ae,toks:=tk}:=by
 have p9:∀b:ak,b∉(wc P w K mg base (y::N) qual scope q cd cl A outer s H).ex:=λb z=>absurd (show b∈([]:List ak) from z) (by simp);refine⟨⟨cx.mod,ay,rfl,rfl,dw _,C.inj,C.has,λy c hf _=>(by cases hf),λ_=>hd,Around.frames_deeper cx.frames,.inr ⟨rfl,rfl⟩,λb z=>absurd z (p9 b),cx.bs,cx.oJ,λb _ _=>p9 b,λb z=>absurd z (p9 b),cx.lx,cx.p1⟩,
  rfl,cx.bare,ho.kept aw,⟨m,qZ,λi x v1 dW aj a8=>?_⟩,λy c h=>?_,cx.bT.fresh (dw _),λy c h=>(C.MF y c h).2,λp az=>absurd (show p∈([]:List (ak×Obj)) from az) (by simp),cx.bT.kept aw,by
  show (some v::σ).length=(y::N).length
  simp[C.len]⟩
 ·replace dW:(y::N)[i]?=some x:=dW;cases i with
  |zero=>
   have ax:y=x:=by simpa using dW
   have aL:v=v1:=by simpa using aj
   subst ax aL;exact⟨u,bV,.inl ⟨aV,hm⟩⟩
  |succ i=>
   obtain⟨u,c,c_,hf,ar,hx⟩:=C.val i x v1 (by simpa using dW) (by simpa using aj) a8;exact⟨u,c_,.inr ⟨.inr hf,c,ar,PZ hx aw⟩⟩
 ·obtain⟨⟨v,a4⟩,_⟩:=C.MF y c h;exact⟨v,PZ a4 aw⟩
def ahc{params:Arguments}{body:bz}{pm kV:ag}{g:bK}{Q:dj}{LG:gU}(ay:scope.kind=.function)(FD:scope.isCoroutine=false)(FO:scope.isGenerator=false)(sE:∀x∈scope.names,x.2≠.cell)(aV:scope.names.lookup y=some .local)
  (ab:∀(A:cU) (outer:List Env) (s:aK) (H:aA),dF k (A.deeper (um qual scope s.heap.objs.size q (.ref cA) cl))->cK (wc P w K mg base (y::N) qual scope q (.ref cA) cl A outer s H) body g)
  {u:ag} {v:V} (bd:bindArgs (PySem.W.kla_fn "<lambda>" qual params body scope cl pm (.ref cA) kV) ⟨[u],[]⟩=pure [(y,u)])
  (au:dF (k+1) A) (cx:mE P w K mg base A outer s H) (a_:H q=some (uG (PySem.W.kla_obj "<lambda>" qual params body scope cl pm cA kV) q)) (ar:H cA=some (wb cA qual)) (C:C2 N scope cl σ H s.heap) (bV:RelV v u)
  {aG O F:ak->Prop} {E:gS} {ε:Ev} {d t:T} (r:cH K aG E O F H ε σ) (ji:Rep K F H d v) (e:g (some (.U d)::ε)=some t) (j3:∀v aF ah,Ext F H aF ah->Rep K aF ah t v->Q v ah):
  lT (bS P w) A (.call (.ref q) ⟨[u],[]⟩) (Ls fg outer P w H s Q LG) s:=by
 have _D:s.heap.NoLimit:=cx.mod.nolimit.keeps λb o e=>(cx.bs b o e).1;refine PySem.W.kla_callFunE au.depth (cx.bT q _ a_).1 rfl FD FO rfl (cx.bT cA _ ar).1 ?_;rw[bd];refine cy (wpAny_newFunctionEnv sE (λx hx=>by rw[ip.mp hx];exact aV) (λgf qZ al8=>⟨_D.fresh _ al8,?_⟩) ay);have aw:∀b o,s.heap.get? b=some o->gf.get? b=some o:=λb o e=>al8.extBut b o (ee (cN e)) (cT _ e);show lT _ _ (.expr body (um qual scope s.heap.objs.size q (.ref cA) cl)) _ _;refine PySem.W.kla_codeExpr ?_;have I:Inv (wc P w K mg base (y::N) qual scope q (.ref cA) cl A outer s H) [] (some v::σ) H {s with heap:=gf,toks:=s.toks+([(y,u)]:List (Str×ag)).length}:=age ay au.hd cx C qZ aV (by simp) bV aw;refine gj (ab A outer s H (au.deeper _) [] _ _ H (λv ah=>Q v ah) I ⟨aG,E,O,F,_,t,r.V_ ji,e,λv aF ah x q=>j3 v aF ah x q⟩) (λu s' aC=>?_) λe s' aC=>(show False from aC).elim;obtain⟨v,ah,J,bV,qv⟩:=aC;exact⟨v,ah,J.os,J.bare,J.base,J.bT,bV,qv⟩
end
section
variable {M:Model}{A:cU}{E:ag->aK->Prop}{s:aK}{env:Env}
def alf{pos:Pos}{id:String}{e:bz}{rest:List bz}{ha:List Keyword}{Q:ag->aK->Prop}
  (h:a6 M A (spliced (c0 pos (bb (e::rest) env))) (λvs s1=>a6 M A (evalAll ((gm pos (gk ha env)).map (·.2))) (λaH s2=>a6 M A (call (.builtin id) vs (((gm pos (gk ha env)).filterMap (·.1)).zip aH)) Q E s2) E s1) E s)
  (he:c0 pos (bb (e::rest) env)=(false,eval e env)::c0 pos (bb rest env)) (az:(c0 pos (bb (e::rest) env)).any (·.1)=false)
  (aq:(gm pos (gk ha env)).all (·.1.isSome)=true) (ay:(gm pos (gk ha env)).any (·.1.isNone)=false):
  a6 M A (callWith pos (.builtin id) [] (c0 pos (bb (e::rest) env)) (gm pos (gk ha env))) Q E s:=by
 have FK:a6 M A (evalArgs (.builtin id) true (c0 pos (bb (e::rest) env)) (gm pos (gk ha env))) (λa s1=>a6 M A (call (.builtin id) ([]++a.pos) a.kw) Q E s1) E s:=by
  rw[he] at h ⊢;exact evalArgs_kwB aq h
 unfold callWith;refine aT (jo (gj FK (λa s1 g1=>aT (wpAny_standAt ?_)) λ_ _ x=>x));simp only[az,ay,Bool.or_false];refine aT (cy (aT (gj g1 (λr s2 au=>?_) λ_ _ x=>x)));exact aT (jo (wpAny_point (cy au)))
end
noncomputable def As(g:bK)(ε:Ev):T->Option T:=λd=>(g (some (.U d)::ε)).bind λeG=>if eV eG=true then some eG else none
def akB{P:cE}{w:b8}{K:br}{mg:Str->Option ag}{base:bI}{x:Str}{st:Stmt}{f:ak}{hG:ag}{e4 an:Option ak}{lI:Array (Option ag)}{dA doc pm cX dO:ag}{N ps:List Str}{k:Nat}{b:bD}
  (l:K.lookup f=some ⟨hG,e4,.func (mj x x (oy st) (hK st) (cb st) .none dA doc pm an cX dO),lI⟩) (ec:rl K cX x=true) (S:c' N ps (cb st))
  (bd:∀fd,cW K x x st f fd->Binds K fd ps []) (m:mg x=some (.ref f)) (aw:nf K (.ref f)=true)
  (ab:∀(A:cU) (outer:List Env) (s:aK) (H:aA) (E:gU),dF k (A.deeper (envOfC x (cb st) s.heap.objs.size f cX)) ->
   iW (jX fg P w K mg base N x (cb st) f cX A outer s H E).kD (hK st) b):Cl P w K mg base x (k+1) ps.length (cV b N.length):=
 .mk' (aju l ec S ab) m aw (bd _ (dS (st:=st) l ec aw))
end
section
variable [cG]
mutual
noncomputable def gw:T->T->Option Bool
|.int a,.int b=>some (decide (b<a))
|.tuple xs,.tuple ys=>mX xs ys
|_,_=>none
noncomputable def mX:List T->List T->Option Bool
| [],[]=>some false
| [],_::_=>some false
|_::_,[]=>some true
|x::xs,y::ys=>if hY x y then mX xs ys else gw x y
end
noncomputable def LH(A:cU)(s:aK)(y x:ag)(b:Bool):Prop:=
 ∀(prog:cE) (w:b8) (E:ag->aK->Prop) (Q:ag->aK->Prop),Q (.bool b) s->a6 (bS prog w) A (richCompare .Gt y x) Q E s
inductive GoodG(A:cU)(s:aK)(fin:Bool):List (ag×ag)->Bool->Prop
|nil:GoodG A s fin [] fin
|eq {y x:ag} {r:List (ag×ag)} {b:Bool}:SeqAt.EqAt A s y x true->GoodG A s fin r b->GoodG A s fin ((y,x)::r) b
|lt {y x:ag} {r:List (ag×ag)} {b:Bool}:SeqAt.EqAt A s y x false->LH A s y x b->GoodG A s fin ((y,x)::r) b
section
open PySem.SeqAt
open PySem.AutoSeq1 (wpAny_loadPart')
open PySem.MeetsSeq PySem.MeetsSeq2 PySem.MeetsSeq3
def aeU(l b:ak)(items p6:Array ag)(n eH:Nat)(e0 mI:Option ak)(df lL:Array (Option ag))(z:Bool):
  Meets (Builtin.«tuple.__gt__» ⟨[.ref l,.ref b],[]⟩)
   (λA R s=>s.heap.get? l=some {cls:=.type "tuple",dict:=e0,data:=.seq items n,slots:=df}/\s.heap.get? b=some {cls:=.type "tuple",dict:=mI,data:=.seq p6 eH,slots:=lL} /\
    GoodG A.in1 s (decide (p6.size<items.size)) (items.toList.zip p6.toList) z/\R (.ok (.ret (.bool z))) s):=
 .of_wp λprog w A R s h=>by
  obtain⟨az,g,d,tk,os⟩:=s;obtain⟨av,ab,bx,h⟩:=h;have f2:=AutoSeq1.sub_tuple_tuple
  wp_walk using wpAny_loadPart' av,wpAny_loadPart' ab,wpAny_forIn_list _ (λrest b s'=>b.1=none/\s'=⟨az,g,d,tk,os⟩/\GoodG A.in1 ⟨az,g,d,tk,os⟩ (decide (p6.size<items.size)) rest z) _
  case turn=>
   rintro⟨y,x⟩ rest b s' ⟨jy,rfl,jZ⟩;cases jZ with
   |eq he jZ=>
    refine aT (he prog w _ _ ?_)
    wp_walk
    exact⟨rfl,rfl,jZ⟩
   |lt he en=>
    refine aT (he prog w _ _ ?_)
    have F9:=en prog w
    wp_walk using F9
    exact⟨_,rfl,h⟩
  case fin=>
   rintro⟨b1,b2⟩ s' ⟨jy,rfl,jZ⟩;simp only at jy;subst jy;cases jZ
   wp_walk
   exact⟨_,rfl,by simpa [Builtin.Tuple.tupleCompareSizes] using h⟩
  case h=>
   exact⟨rfl,rfl,bx⟩
mutual
theorem RI:∀(pV db:T) (A:cU) (s:aK) (a b:ag) (as bs:List ak) (r:Bool),Reads s.heap a pV as->Reads s.heap b db bs->pV.canLay0=true->db.canLay0=true->A.units+min pV.depth db.depth<cLine->gw pV db=some r->LH A s a b r
|.int i,.int j,A,s,_,_,_,_,r,.int _ t,.int _ u,_,_,_,e=>by
  unfold gw at e;cases e;exact λprog w E Q q=>(PyProof.Rows.gt_int q:a6 (bS prog w) A (iQ .Gt (.int i t) (.int j u)) Q E s)
|.tuple xs,.tuple ys,A,s,_,_,_,_,r,.tuple (a:=l) (o:=o) (vs:=vs) (n:=n) ae aj a8 b9,.tuple (a:=mc) (o:=o') (vs:=e7) (n:=q7) gI eu p8 jd,aq,ab,bH,e=>by
  unfold gw at e;simp only[PyData.canLay0] at aq ab;simp only[lR] at bH;have jZ:=goodG_reads xs ys A.in1 s vs.toList e7.toList _ _ r b9 jd aq ab (room_in bH) e;obtain⟨cls,e0,data,df⟩:=o;obtain⟨EN,mI,data2,lL⟩:=o';simp only at aj a8 eu p8;subst aj a8 eu p8;rw[rp,rp] at jZ;exact λprog w E Q q=>richCompare_meets_room (op:=.Gt) ⟨_,ae,rfl⟩ ⟨_,gI,rfl⟩ PySem.F.slot_tuple_gt PySem.F.entry_tuple_gt (PySem.F.args_tuple_gt_2 _ _) (aeU l mc vs e7 n q7 e0 mI df lL r)
   ⟨ae,gI,jZ,show Value.bool r≠Value.notImplemented/\Q (.bool r) s from ⟨(λx=>nomatch x),q⟩⟩ (by omega)
|.none,_,_,_,_,_,_,_,_,_,_,_,_,_,e=>by simp[gw] at e
|.bool _,_,_,_,_,_,_,_,_,_,_,_,_,_,e=>by simp[gw] at e
|.str _,_,_,_,_,_,_,_,_,_,_,_,_,_,e=>by simp[gw] at e
|.list _,_,_,_,_,_,_,_,_,_,_,_,_,_,e=>by simp[gw] at e
|.dict _,_,_,_,_,_,_,_,_,_,_,_,_,_,e=>by simp[gw] at e
|.int _,.none,_,_,_,_,_,_,_,_,_,_,_,_,e=>by simp[gw] at e
|.int _,.bool _,_,_,_,_,_,_,_,_,_,_,_,_,e=>by simp[gw] at e
|.int _,.str _,_,_,_,_,_,_,_,_,_,_,_,_,e=>by simp[gw] at e
|.int _,.list _,_,_,_,_,_,_,_,_,_,_,_,_,e=>by simp[gw] at e
|.int _,.dict _,_,_,_,_,_,_,_,_,_,_,_,_,e=>by simp[gw] at e
|.int _,.tuple _,_,_,_,_,_,_,_,_,_,_,_,_,e=>by simp[gw] at e
|.tuple _,.none,_,_,_,_,_,_,_,_,_,_,_,_,e=>by simp[gw] at e
|.tuple _,.bool _,_,_,_,_,_,_,_,_,_,_,_,_,e=>by simp[gw] at e
|.tuple _,.str _,_,_,_,_,_,_,_,_,_,_,_,_,e=>by simp[gw] at e
|.tuple _,.list _,_,_,_,_,_,_,_,_,_,_,_,_,e=>by simp[gw] at e
|.tuple _,.dict _,_,_,_,_,_,_,_,_,_,_,_,_,e=>by simp[gw] at e
|.tuple _,.int _,_,_,_,_,_,_,_,_,_,_,_,_,e=>by simp[gw] at e
theorem goodG_reads:∀(xs ys:List T) (A:cU) (s:aK) (vs ws:List ag) (as bs:List ak) (r:Bool),ReadsAll s.heap vs xs as->ReadsAll s.heap ws ys bs->jF xs=true->jF ys=true->A.units+min (iN xs) (iN ys)<cLine->mX xs ys=some r->GoodG A s (decide (ws.length<vs.length)) (vs.zip ws) r
| [],[],A,s,_,_,_,_,r,.nil,.nil,_,_,_,e=>by
  unfold mX at e;cases e;exact .nil
| [],_::_,A,s,_,_,_,_,r,.nil,.cons _ _,_,_,_,e=>by
  unfold mX at e;cases e;exact GoodG.nil
|_::_,[],A,s,_,_,_,_,r,.cons _ _,.nil,_,_,_,e=>by
  unfold mX at e;cases e;exact GoodG.nil
|x::xs,y::ys,A,s,_,_,_,_,r,.cons bC b7,.cons aM a9,aq,ab,bH,e=>by
  simp only[jF,kJ] at aq ab;simp only[iN] at bH;unfold mX at e;have he:=eqAt_reads x y A s _ _ _ _ bC aM aq.1 ab.1 (room_head bH);split at e
  next h=>
   rw[h] at he;have bc:=goodG_reads xs ys A s _ _ _ _ r b7 a9 aq.2 ab.2 (room_tail bH) e;rw[pb];simp only[eJ,Nat.add_lt_add_iff_right];exact .eq he bc
  next h=>
   rw[Bool.not_eq_true] at h;rw[h] at he;rw[pb];exact .lt he (RI x y A s _ _ _ _ r bC aM aq.1 ab.1 (room_head bH) e)
end
end
noncomputable def amm(kf:T->Option T)(b N4:T):List T->Option T
| []=>some b
|d::ds=>(kf d).bind λeG=>(gw eG N4).bind λz=>if z then amm kf d eG ds else amm kf b N4 ds
noncomputable def HS(kf:T->Option T):List T->Option T
| []=>none
|d::ds=>(kf d).bind λeG=>amm kf d eG ds
def aih{X:bt}{kf:T->Option T}(ar:X.calm=true)(bH:X.A.units+70<cLine){l q I S:ak}{xs:List V}{ds:List T}{ai:List (ak×Obj)}{σ:bG.St}{tc:(ak->Prop)->aA->Prop}{R:Result->aK->Prop}{sk:T}(su:I≠S)
  (tk:∀F H aF ah,Ext F H aF ah->tc F H->tc aF ah) (bT:∀d eG,kf d=some eG->eV eG=true)
  (zL:∀(qb:List (ak×Obj)) (H:aA) (s:aK) (F:ak->Prop) (d eG:T) (v:V) (u:ag),Inv X qb σ H s->fo F H->tc F H->Rep X.K F H d v->RelV v u->kf d=some eG ->
   a6 (bS X.prog X.w) X.A.in1 (call (.ref q) [u]) (hO X qb σ λbU ah=>∃aF,Ext F H aF ah/\Rep X.K aF ah eG bU) (λ_ _=>False) s):
  ∀(r j:Nat) (s:aK) (H:aA) (F:ak->Prop) (db sj:T) (o_ tg:V) (qh od:ag) (c:Nat),ds.length - (j+1)=r->j+1<=ds.length->Inv X ai σ H s->fo F H->tc F H->c6 X.K H l xs->bp X.K F H ds xs->s.heap.IsTupleIter I l (j+1) ->
   s.heap.get? S=some (seqObj "list" #[qh,od] c)->hP X ai H I->hP X ai H S->RelV o_ qh->Rep X.K F H db o_->RelV tg od->Rep X.K F H sj tg->eV sj=true->amm kf db sj (ds.drop (j+1))=some sk ->
   (∀s' ah aF v x,Inv X ai σ ah s'->Ext F H aF ah->RelV x v->Rep X.K aF ah sk x->R (.ok (.ret v)) s') ->
   lT (bS X.prog X.w) X.A (.builtin "max.loop" ⟨[.ref I,.ref q,.ref S],[]⟩) R s:=by
 have nm:(toString "max"++toString ".loop":String)="max.loop":=by decide
 intro r
 induction r with
|zero=>
  intro j s H F db sj o_ tg qh od c au a' J cf sI a_ mS hit c9 g7 kZ fw Io o1 uP sU lz fK;obtain⟨its,bV,p,hz⟩:=J.tuple a_;have hlen:its.length=ds.length:=by rw[mS.length,bV.length]
  refine kK (id:="max.loop") PySem.F.entry_max_loop ?_
  rw[k8 (tn) _];show a6 _ X.A.in1 (seqItems? (.ref S) >>= _) _ _ _;refine aT (mq (a:=S) c9 rfl ?_);show a6 _ X.A.in1 (tryCatch (pyNext (.ref I)) _ >>= _) _ _ _;refine aT (rr (wpAny_pyNext_tuple_end (J.ok.hd ar) hit (show s.heap.IsTuple l its.toArray from p) (by simp;omega) λh' dQ=>?_));have nE:Inv X ai σ H {s with heap:=h'}:=J.turned (t':=s.toks) (λb o ab e=>dQ b o ab e) g7.1 g7.2.1 g7.2.2.2.1 g7.2.2.2.2.1 g7.2.2.2.2.2;have iF:=dQ S _ (Ne.symm su) c9;show a6 _ X.A.in1 (updateSeq S (λ_=>#[]) >>= _) _ _ _;refine aT (wpAny_updateSeq iF rfl (aT (wpAny_letGo (cy ?_))));rw[List.drop_of_length_le (by omega)] at lz;cases lz;exact fK _ H F qh o_ (nE.turned (t':=s.toks) (λb o ab e=>(nj _ _ (Ne.symm ab)).trans e) kZ.1 kZ.2.1 kZ.2.2.2.1 kZ.2.2.2.2.1 kZ.2.2.2.2.2) (Ext.refl cf) fw Io
|succ r bc=>
  intro j s H F db sj o_ tg qh od c au a' J cf sI a_ mS hit c9 g7 kZ fw Io o1 uP sU lz fK;have en:j+1<ds.length:=by omega
  obtain⟨its,bV,p,hz⟩:=J.tuple a_;have hd:ds[j+1]?=some ds[j+1]:=g0 en;obtain⟨x,hx,dH⟩:=mS.get hd;obtain⟨u,mU,c_⟩:=bV.get hx;rw[List.drop_eq_getElem_cons en,amm] at lz;obtain⟨eG,wi,lz⟩:=b0.mp lz;obtain⟨z,pY,lz⟩:=b0.mp lz;refine kK (id:="max.loop") PySem.F.entry_max_loop ?_;rw[k8 (tn) _];show a6 _ X.A.in1 (seqItems? (.ref S) >>= _) _ _ _;refine aT (mq (a:=S) c9 rfl ?_);show a6 _ X.A.in1 (tryCatch (pyNext (.ref I)) _ >>= _) _ _ _;refine aT (rr (wpAny_pyNext_tuple_item hit (show s.heap.IsTuple l its.toArray from p) (x:=u) (by simpa using mU) λh' wH jk=>?_));have nE:Inv X ai σ H {s with heap:=h'}:=J.turned (t':=s.toks) (λb o ab e=>(jk.2 b ab).trans e) g7.1 g7.2.1 g7.2.2.2.1 g7.2.2.2.2.1 g7.2.2.2.2.2;have iF:h'.get? S=some (seqObj "list" #[qh,od] c):=(jk.2 S (Ne.symm su)).trans c9;obtain⟨q8,F3,yZ,gu⟩:=id wH;have C':Inv X ((S,seqObj "list" #[qh,od] c)::(I,q8)::ai) σ H {s with heap:=h'}:=nE.uO λp az=>by
   rcases ct.mp az with rfl|az
   ·exact⟨iF,kZ.1,kZ.2.1,kZ.2.2.1,λv z=>by cases z⟩
   ·rcases ct.mp az with rfl|az
    ·exact⟨F3,g7.1,g7.2.1,g7.2.2.1,λv z=>by rw[gu] at z;cases z⟩
    ·exact nE.pin p (iM _ az)
  show a6 _ X.A.in1 (tryCatch (holding [u] (call (.ref q) [u])) _ >>= _) _ _ _
  refine aT (rr (jo (gj (zL _ H _ F _ eG x u C' cf sI dH c_ wi) (λmW s2 he=>?_) λ_ _ oR=>oR.elim)))
  obtain⟨bU,bf,pK,AO,dt,bQ,AM⟩:=he;have ra:=pK.pin (S,seqObj "list" #[qh,od] c) (iM _ (.head _));have uN:=pK.pin (I,q8) (iM _ (.tail _ (.head _)));have t7:Inv X ai σ bf s2:=pK.uO λp az=>pK.pin p (iM _ (.tail _ (.tail _ az)));have zy:=hP.at g7 uN.2.1;have lu:=hP.at kZ ra.2.1;have YI:s2.heap.IsTupleIter I l (j+1+1):=⟨q8,uN.1,yZ,gu⟩;obtain⟨as,j5⟩:=nr (O:=λ_=>False) t7 (.inl AM) AO;obtain⟨bs,aco⟩:=nr (O:=λ_=>False) t7 (.inl (uP.ext bQ)) o1;have AI:=bT _ _ wi;obtain⟨c1,bX⟩:=rK AI;obtain⟨dh,bY⟩:=rK sU;have Yx:=RI _ _ X.A.in1 s2 mW od as bs z j5 aco c1 dh (by have:=Nat.min_le_left eG.depth sj.depth;show X.A.units+1+_<_;omega) pY;show a6 _ X.A.in1 (tryCatch (holding [u,mW] (richCompare .Gt mW od >>= _)) _ >>= _) _ _ _;refine aT (rr (jo (aT (Yx X.prog X.w _ _ ?_))));refine aT (jo (tm (aT (wpAny_letGo (cy ?_)))));cases z with
  |true=>
   simp only[if_true] at lz ⊢;refine aT (wpAny_updateSeq ra.1 rfl (aT (wpAny_letGo ?_)));rw[nm];refine cy ⟨lU tn _,bc (j+1) _ bf dt ds[j+1] eG x bU u mW _ (by omega) en (t7.turned (t':=s2.toks) (λb o ab e=>(nj _ _ (Ne.symm ab)).trans e) lu.1 lu.2.1 lu.2.2.2.1 lu.2.2.2.2.1 lu.2.2.2.2.2) bQ.cf (tk _ _ _ _ bQ sI) (c6.same bQ.same a_) (mS.ext bQ)
    ⟨q8,(nj _ _ (Ne.symm su)).trans uN.1,yZ,gu⟩ (get?_update_seq ra.1 λ_=>#[u,mW]) zy lu c_ (dH.ext bQ) AO AM AI lz λs' ah aF v y a1 a2 eE fW=>fK s' ah aF v y a1 (bQ.trans a2) eE fW⟩
  |false=>
   simp only[iO,if_false] at lz ⊢;refine aT (wpAny_letGo ?_);rw[nm];exact cy ⟨lU tn _,bc (j+1) _ bf dt db sj o_ tg qh od c (by omega) en t7 bQ.cf (tk _ _ _ _ bQ sI) (c6.same bQ.same a_) (mS.ext bQ) YI ra.1 zy lu fw (Io.ext bQ) o1 (uP.ext bQ) sU lz λs' ah aF v y a1 a2 eE fW=>fK s' ah aF v y a1 (bQ.trans a2) eE fW⟩
def ahz{X:bt}{kf:T->Option T}(ar:X.calm=true)(bH:X.A.units+70<cLine){l q:ak}{xs:List V}{ds:List T}{ai:List (ak×Obj)}{σ:bG.St}{tc:(ak->Prop)->aA->Prop}{sk:T}
  (tk:∀F H aF ah,Ext F H aF ah->tc F H->tc aF ah) (bT:∀d eG,kf d=some eG->eV eG=true)
  (zL:∀(qb:List (ak×Obj)) (H:aA) (s:aK) (F:ak->Prop) (d eG:T) (v:V) (u:ag),Inv X qb σ H s->fo F H->tc F H->Rep X.K F H d v->RelV v u->kf d=some eG ->
   a6 (bS X.prog X.w) X.A.in1 (call (.ref q) [u]) (hO X qb σ λbU ah=>∃aF,Ext F H aF ah/\Rep X.K aF ah eG bU) (λ_ _=>False) s)
  {s:aK} {H:aA} {F:ak->Prop} {Q:dj} (J:Inv X ai σ H s) (cf:fo F H) (sI:tc F H) (a_:c6 X.K H l xs) (mS:bp X.K F H ds xs) (hm:HS kf ds=some sk)
  (gF:∀v aF ah,Ext F H aF ah->Rep X.K aF ah sk v->Q v ah):
  a6 (bS X.prog X.w) X.A (call (.builtin "max") [.ref l] [(Str.ofString "key",.ref q)]) (hO X ai σ Q) X.d3 s:=by
 have zR:(toString "max"++toString ".loop":String)="max.loop":=by decide
 cases ds with
|nil=>cases hm
|cons d ds=>
  obtain⟨eG,wi,lz⟩:=b0.mp hm;obtain⟨its,bV,p,hz⟩:=J.tuple a_;refine PyProof.Rows.kmk_tree PySem.F.kind_max PySem.F.plain_max PySem.F.entry_max (PyProof.Rows.kmk_max_key _ _) ?_;show a6 _ X.A.in1 (Builtin.Builtins.bindParams "max" ["key","default"] 0 ⟨[],[(Str.ofString "key",.ref q)]⟩ >>= _) _ _ s;refine aT (wpAny_of_eq (show Builtin.Builtins.bindParams "max" ["key","default"] 0 ⟨[],[(Str.ofString "key",.ref q)]⟩=pure [some (.ref q),none] from rfl) ?_);refine aT (cy ?_);refine aT (pf (show s.heap.IsTuple l its.toArray from p) ?_);refine aT (wpAny_newList ?_ (k9 _));rw[zR];refine cy ⟨lU tn _,?_⟩;generalize MW:s.heap.objs.size=I;generalize mK:(s.heap.push {cls:=.type "tuple_iterator",data:=.fields #[.ref l,.int 0 0]}).objs.size=S;have M':S=I+1:=by rw[<- mK,<- MW];exact size_push' ..
  have su:I≠S:=by omega
  have X0:((s.heap.push {cls:=.type "tuple_iterator",data:=.fields #[.ref l,.int 0 0]}).push (seqObj "list" #[] 0)).get? I=some {cls:=.type "tuple_iterator",data:=.fields #[.ref l,.int 0 0]}:=by
   rw[<- MW];exact cT _ (fy _ rfl)
  have M4:((s.heap.push {cls:=.type "tuple_iterator",data:=.fields #[.ref l,.int 0 0]}).push (seqObj "list" #[] 0)).get? S=some (seqObj "list" #[] 0):=by
   rw[<- mK];exact fy _ rfl
  have U5:Inv X ai σ H {s with heap:=(s.heap.push {cls:=.type "tuple_iterator",data:=.fields #[.ref l,.int 0 0]}).push (seqObj "list" #[] 0)}:=J.kept (t':=s.toks) λb u e=>cT _ (cT _ e);have g7:hP X ai H I:=J.uu (by omega) (J.bT.fresh (by omega));have kZ:hP X ai H S:=J.uu (by omega) (J.bT.fresh (by omega));obtain⟨x0,wN,Oq⟩:=mS.get (i:=0) (t:=d) rfl;obtain⟨td,Y8,OA⟩:=bV.get wN;have Zr:((s.heap.push {cls:=.type "tuple_iterator",data:=.fields #[.ref l,.int 0 0]}).push (seqObj "list" #[] 0)).IsTupleIter I l 0:=⟨_,X0,rfl,rfl⟩;have Yg:((s.heap.push {cls:=.type "tuple_iterator",data:=.fields #[.ref l,.int 0 0]}).push (seqObj "list" #[] 0)).IsTuple l its.toArray:=by
   obtain⟨o,aE,au⟩:=(show s.heap.IsTuple l its.toArray from p);exact⟨o,cT _ (cT _ aE),au⟩
  refine kK (id:="max.loop") PySem.F.entry_max_loop ?_
  rw[k8 tn _];show a6 _ X.A.in1 (seqItems? (.ref S) >>= _) _ _ _;refine aT (mq (a:=S) M4 rfl ?_);show a6 _ X.A.in1 (tryCatch (pyNext (.ref I)) _ >>= _) _ _ _;refine aT (rr (wpAny_pyNext_tuple_item Zr Yg (x:=td) (by simpa using Y8) λh' wH jk=>?_));have nE:=U5.turned (h':=h') (t':=s.toks) (λb o ab e=>(jk.2 b ab).trans e) g7.1 g7.2.1 g7.2.2.2.1 g7.2.2.2.2.1 g7.2.2.2.2.2;have iF:h'.get? S=some (seqObj "list" #[] 0):=(jk.2 S (Ne.symm su)).trans M4;obtain⟨q8,F3,yZ,gu⟩:=id wH;have C':Inv X ((S,seqObj "list" #[] 0)::(I,q8)::ai) σ H {s with heap:=h'}:=nE.uO λp az=>by
   rcases ct.mp az with rfl|az
   ·exact⟨iF,kZ.1,kZ.2.1,kZ.2.2.1,λv z=>by cases z⟩
   ·rcases ct.mp az with rfl|az
    ·exact⟨F3,g7.1,g7.2.1,g7.2.2.1,λv z=>by rw[gu] at z;cases z⟩
    ·exact nE.pin p (iM _ az)
  show a6 _ X.A.in1 (tryCatch (holding [td] (call (.ref q) [td])) _ >>= _) _ _ _
  refine aT (rr (jo (gj (zL _ H _ F _ eG x0 td C' cf sI Oq OA wi) (λmW s2 he=>?_) λ_ _ oR=>oR.elim)))
  obtain⟨bU,bf,pK,AO,dt,bQ,AM⟩:=he;have ra:=pK.pin (S,seqObj "list" #[] 0) (iM _ (.head _));have uN:=pK.pin (I,q8) (iM _ (.tail _ (.head _)));have t7:Inv X ai σ bf s2:=pK.uO λp az=>pK.pin p (iM _ (.tail _ (.tail _ az)));have zy:=hP.at g7 uN.2.1;have lu:=hP.at kZ ra.2.1;have AI:=bT _ _ wi;show a6 _ X.A.in1 (updateSeq S (λ_=>#[td,mW]) >>= _) _ _ _;refine aT ?_;refine wpAny_updateSeq ra.1 rfl ?_;rw[zR];refine cy ⟨lU tn _,aih (ds:=d::ds) ar bH su tk bT zL _ 0 _ bf dt d eG x0 bU td mW _ rfl (by simp) (t7.turned (t':=s2.toks) (λb o ab e=>(nj _ _ (Ne.symm ab)).trans e) lu.1 lu.2.1 lu.2.2.2.1 lu.2.2.2.2.1 lu.2.2.2.2.2) bQ.cf (tk _ _ _ _ bQ sI) (c6.same bQ.same a_) (mS.ext bQ)
   ⟨q8,(nj _ _ (Ne.symm su)).trans uN.1,yZ,gu⟩ (get?_update_seq ra.1 λ_=>#[td,mW]) zy lu OA (Oq.ext bQ) AO AM AI (by simpa using lz) λs' ah aF v y a1 a2 eE fW=>⟨y,ah,a1,eE,gF y aF ah (bQ.trans a2) fW⟩⟩
noncomputable def CR(f g:bK):bK:=λε=>(f ε).bind λt=>match t with
|.tuple ds=>HS (As g ε) ds
|_=>none
def ajV{X:bt}{k:Nat}{e:bz}{f g:bK}{params:Arguments}{body:bz}{scope:Scope}{lD w0 p pos:Pos}{c amd:ak}{xg y:Str}
  (he:cK X e f) (hm:X.mg "max"=none) (zM:X.env.code=.ref c) (ec:amr X.K c amd=true) (l6:pD X.mg X.base) (uC:(amd,xg)∈cG.dd) (Ga:∀p∈cG.dd,p.1=amd->p.2=xg) (au:dF (k+2) X.A)
  (ab:∀(q cA:ak) (cl:List (Str×ak)) (A:cU) (outer:List Env) (s:aK) (H:aA),dF k (A.deeper (um (X.env.qual++"<lambda>") scope s.heap.objs.size q (.ref cA) cl))->cK (wc X.prog X.w X.K X.mg X.base (y::X.N) (X.env.qual++"<lambda>") scope q (.ref cA) cl A outer s H) body g)
  (ar:X.calm=true:=by rfl)
  (zU:(decide (scope.kind=.function) && !scope.isCoroutine && !scope.isGenerator && decide (scope.names.lookup y=some .local) && decide (y∉X.N) && scope.names.all λz=>decide (z.2≠.cell) && (decide (z.2≠.local) || decide (z.1=y)))=true:=by rfl)
  (qX:(scope.names.all λy=>decide (y.2≠.free) || decide (X.env.scope.names.lookup y.1=some .cell))=true:=by rfl)
  (V3:∀(cl:List (Str×ak)) (pm:ag) (cA:ak) (kV u:ag),bindArgs (PySem.W.kla_fn "<lambda>" (X.env.qual++"<lambda>") params body scope cl pm (.ref cA) kV) ⟨[u],[]⟩=pure [(y,u)]:=by intros;rfl)
  (bx:eP X "max":=by rfl) (FH:defaultsOf params X.env=([],[]):=by rfl)
  (ae:c0 pos (bb [e] X.env)=(false,eval e X.env)::c0 pos (bb [] X.env):=by rfl) (aj:(c0 pos (bb [e] X.env)).any (·.1)=false:=by rfl)
  (a8:(gm pos (gk [⟨some "key",.Lambda params body scope lD,w0⟩] X.env)).all (·.1.isSome)=true:=by rfl) (b9:(gm pos (gk [⟨some "key",.Lambda params body scope lD,w0⟩] X.env)).any (·.1.isNone)=false:=by rfl)
  (gE:bb [e] X.env=(false,eval e X.env)::bb [] X.env:=by rfl)
  (X5:(gm pos (gk [⟨some "key",.Lambda params body scope lD,w0⟩] X.env)).map (·.2)=[(do let v <- eval (.Lambda params body scope lD) X.env;standAt pos;pure v)]:=by rfl)
  (qT:(gm pos (gk [⟨some "key",.Lambda params body scope lD,w0⟩] X.env)).filterMap (·.1)=[Str.ofString "key"]:=by rfl)
  (NL:X.env.qual++"<lambda>"=xg:=by rfl):
  cK X (.Call (.Name "max" p) [e] [⟨some "key",.Lambda params body scope lD,w0⟩] pos) (CR f g):=by
 subst NL;simp only[kJ,Bool.or_eq_true,Bool.not_eq_true',decide_eq_true_eq,List.all_eq_true] at zU;obtain⟨⟨⟨⟨⟨ay,FD⟩,FO⟩,Ze⟩,Zd⟩,NB⟩:=zU;have sE:∀x∈scope.names,x.2≠.cell:=λx hx=>(NB x hx).1;have zP:∀x∈scope.names,x.2=.local->x.1=y:=λx hx av=>by
  rcases (NB x hx).2 with z|z
  ·exact absurd av z
  ·exact z
 simp only[List.all_eq_true,Bool.or_eq_true,decide_eq_true_eq] at qX;have oS:∀y∈scope.names,y.2=.free->X.env.scope.names.lookup y.1=some .cell:=λy aV hf=>by
  rcases qX y aV with z|z
  ·exact absurd hf z
  ·exact z
 intro ai s σ H Q I ⟨aG,E,O,F,ε,t,Oz,ax,b'⟩;simp only[CR,b0] at ax;obtain⟨t0,amD,ax⟩:=ax;have Ui:=PySem.W.codeHd_of_K I.ok.mod.uE ec;refine pe (pq I bx hm (u:=.builtin "max") (by decide +kernel) ?_);refine alf ?_ ae aj a8 b9;have aq:h5 X [e] (Ti (uV X.K f) IP):=iR he jM gE;refine cD (aq pos ai s σ H (λvs H1=>∃v a5,vs=[v]/\Ext F H a5 H1/\Rep X.K a5 H1 t0 v) I ⟨aG,E,O,F,ε,t0,Oz,amD,λv aF ah x q=>⟨v,aF,rfl,x,q⟩⟩) λus s1 ⟨vs,H1,bw,bC,v,a5,ev,aU,bV⟩=>?_;subst ev;cases bC with
|cons c_ qd=>
 cases qd
 rw[X5];refine wpAny_evalAll_cons (aT ?_);have av:∀x∈scope.names,x.2=.free->∃c,X.env.cells.lookup x.1=some c:=λx hx hf=>bw.ok.has x.1 (.inl (oS x hx hf));have IB:=Oz.ext aU;refine aim bw zM Ui l6 FH (Px av) IB.cf.m_ uC Ga λq cA kV bf s2 ck uS adU NL a_ d9=>?_;refine aT (wpAny_standAt (cy (wpAny_evalAll_nil ?_)));rw[qT];have bQ:Ext a5 H1 a5 bf:=⟨uS,λ_ h=>h,λ_ h=>.inl h,⟨λa aq=>by
  obtain⟨o,aE⟩:=IB.cf.y1 a aq;exact uS.ne aE,adU⟩⟩
 have acs:=IB.ext bQ;have rg:=bV.ext bQ;split at ax
 next ds=>
  simp only[Rep] at rg;obtain⟨l,xs,ev,Y6,mS⟩:=rg;subst ev;cases c_;have bH:=au.un;refine ahz (tc:=λF H=>cH X.K aG E O F H ε σ/\H q=some (uG (PySem.W.kla_obj "<lambda>" (X.env.qual++"<lambda>") params body scope (g6 X.env scope.names []) ((X.mg "__name__").getD .none) cA kV) q)/\H cA=some (wb cA (X.env.qual++"<lambda>"))) (kf:=As g ε) ar (by omega)
   (λF H aF ah x ⟨a1,a2,eE⟩=>⟨a1.ext x,x.same.get a2,x.same.get eE⟩) (λd eG eK=>?_) (λqb eQ s3 qJ d eG v3 u3 dU alp F_ acp acw eK=>?_) ck bQ.cf ⟨acs,a_,d9⟩ Y6 mS ax λv aF ah x q=>b' v aF ah ((aU.trans bQ).trans x) q
  ·obtain⟨z5,_,aL⟩:=b0.mp eK;split at aL
   next cq=>cases aL;exact cq
   next=>cases aL
  ·obtain⟨z5,nR,aL⟩:=b0.mp eK;split at aL
   next cq=>
    cases aL
    refine wpAny_call (rq (ahc (Q:=λbU ah=>∃aF,Ext qJ eQ aF ah/\Rep X.K aF ah eG bU) (LG:=yM) ay FD FO sE Ze (ab q cA _) (V3 _ _ _ _ _) au.in1 dU.EX.in1 F_.2.1 F_.2.2 (aiA dU sE zP Zd oS) acw F_.1 acp nR λv aF ah x q=>⟨aF,x,q⟩) λr s' a_=>?_)
    cases r with
    |error e=>exact kd a_
    |ok nT=>
     cases nT with
     |ret u=>exact dU.after a_
     |next=>exact kd a_
     |brk=>exact kd a_
     |cont=>exact kd a_
   next=>cases aL
 next=>cases ax
end
section
variable [cG]
noncomputable def Iy:V->List V->aA->dj->Prop:=λx vs H Q=>∃(l:ak) (ws:List V) (y:V),x=.ref l/\vs=[]/\H l=some (.lst (ws++[y]))/\Q y (upd H l (.lst ws))
def S3{X:bt}:r0 X "list.pop" Iy:=by
 intro ai s σ H x vs v us Q I aY bV h;obtain⟨l,ws,y,rfl,rfl,eA,q⟩:=h;cases aY;cases bV;obtain⟨z,its,n,r,av,e⟩:=I.uI eA;have hz:its.length=ws.length+1:=by
  have:=r.length;simp only[jI,eJ,ke] at this;omega
 obtain⟨u,bH,c_⟩:=r.get (i:=ws.length) (x:=y) (by simp);have pY:(ws++[y]).eraseIdx ws.length=ws:=by
  rw[List.eraseIdx_append_of_length_le (dw _)];simp
 refine qm PySem.F.slot_list_pop ⟨_,e,rfl⟩ PySem.F.entry_list_pop (PySem.F.args_list_pop_1 _) (PySem.MeetsSeq.list_pop_last l its.toArray n u (by
  rw[eo,hz,Nat.add_sub_cancel];simpa using bH) (by rw[eo,<- av];exact z)) ⟨e,?_⟩
 have bV:=r.eraseIdx ws.length;rw[pY] at bV;refine⟨y,_,I.uH (t':=s.toks) (its':=its.eraseIdx ws.length) eA e ?_ bV (by
  have:=r.length;simp only[jI,eJ,ke] at this z;omega),c_,q⟩
 unfold Array.eraseIdxIfInBounds;rw[dif_pos (by rw[eo];omega)];simp[hz]
end
section
variable [cG]
noncomputable def rJ:List T->Option (List (Option Str))
| []=>some []
|.none::ts=>(rJ ts).map λr=>none::r
|.str x::ts=>(rJ ts).map λr=>some x::r
|_::_=>none
def AK:Option Str->T
|none=>.none
|some x=>.str x
def Il:Option Str->V
|none=>.ff
|some x=>.str x
noncomputable def Cv:T->T->Option T
|.list xs,.str y=>(rJ xs).bind λss=>if some y∈ss then some (.int (ss.idxOf (some y):Nat)) else none
|_,_=>none
theorem J6:∀{ts:List T} {ss:List (Option Str)},rJ ts=some ss->ts=ss.map AK
| [],ns,e=>by
  cases e
  rfl
|t::ts,ns,e=>by
  unfold rJ at e;split at e
  ·rename_i h
   cases h
  ·rename_i h
   cases h
   simp only[dR] at e;obtain⟨r,ax,rfl⟩:=e;rw[J6 ax];rfl
  ·rename_i h
   cases h
   simp only[dR] at e;obtain⟨r,ax,rfl⟩:=e;rw[J6 ax];rfl
  ·cases e
theorem JR{K:br}{F:ak->Prop}{H:aA}:∀{ss:List (Option Str)} {vs:List V},bp K F H (ss.map AK) vs->vs=ss.map Il
| [],vs,h=>by simpa [bp] using h
|none::ss,vs,h=>by
  simp only[cP,AK,bp,Rep] at h;obtain⟨v,r,rfl,rfl,z⟩:=h;rw[JR z];rfl
|some x::ss,vs,h=>by
  simp only[cP,AK,bp,Rep] at h;obtain⟨v,r,rfl,rfl,z⟩:=h;rw[JR z];rfl
noncomputable def Zq(o:Option Str)(v:ag):Prop:=match o with
|none=>v=.none
|some x=>∃t,v=.str x t
theorem Ca:∀{ss:List (Option Str)} {us:List ag},Vals (ss.map Il) us->∀{i:Nat} {o:Option Str},ss[i]?=some o->∃v,us[i]?=some v/\Zq o v
| [],_,_,i,o,e=>by simp at e
|s::ss,_,.cons a b,0,o,e=>by
  simp at e;subst e;refine⟨_,rfl,?_⟩;cases s with
  |none=>exact a
  |some x=>exact a
|s::ss,_,.cons a b,i+1,o,e=>by
  simp only[iq] at e ⊢;exact Ca b e
theorem P0{α:Type}[BEq α][LawfulBEq α]{y:α}:∀{ss:List α} {m:Nat} {z:α},m<ss.idxOf y->ss[m]?=some z->z≠y
|x::ss,0,z,h,e=>by
  simp at e;subst e;rintro rfl;simp at h
|x::ss,m+1,z,h,e=>by
  rcases Classical.em (x=y) with q|q
  ·subst q;simp at h
  ·have ab:(x==y)=false:=beq_eq_false_iff_ne.mpr q;rw[List.idxOf_cons,ab] at h;exact P0 (ss:=ss) (m:=m) (by simpa using h) (by simpa using e)
def ag_{X:bt}:De X "list.index" (λx vs H Q=>∃(l:ak) (ss:List (Option Str)) (y:Str),x=.ref l/\vs=[.str y]/\gb X.K H l (ss.map Il)/\some y∈ss/\Q (.int (ss.idxOf (some y):Nat)) H):=by
 intro ai s σ H x vs v us Q I aY bV h;obtain⟨l,ss,y,rfl,rfl,a_,aV,q⟩:=h;cases aY;obtain⟨u,rfl,c_⟩:=bV.one;obtain⟨t,rfl⟩:=c_;obtain⟨its,r,⟨⟨cls,e0,data,df⟩,n,aE,ar,hd,aC⟩,hz⟩:=I.list a_;simp only at ar hd aC;subst ar hd aC;have hlen:ss.length=its.length:=by have:=r.length;simpa using this
 have a':ss.idxOf (some y)<ss.length:=List.idxOf_lt_length_iff.mpr aV;rw[eb] at hz;rw[h1] at hz;refine qm PySem.F.slot_list_index ⟨_,aE,rfl⟩ PySem.F.entry_list_index (PySem.F.args_list_index_2 _ _)
  (SeqAt.list_indexAt l its.toArray n _ _ (.str y t) (Value.isStrOf y) (ss.idxOf (some y)) (by rw[eo];omega) (by omega) ?_ ?_) ⟨aE,λz i'=>?_,⟨V.int (ss.idxOf (some y):Nat),H,I.tok _,⟨_,rfl⟩,q⟩⟩
 ·obtain⟨v,bH,a4⟩:=Ca r (g0 a');have mU:=(gZ.mp bH).2;show Value.isStrOf y its[ss.idxOf (some y)]=true;rw[List.getElem_idxOf a'] at a4;obtain⟨t',rfl⟩:=a4;rw[mU];simp[Value.isStrOf]
 ·intro m hm en;have sD:m<ss.length:=by omega
  obtain⟨v,bH,a4⟩:=Ca r (g0 sD);have mU:=(gZ.mp bH).2;show Value.isStrOf y its[m]=false;rw[mU];have ne:=P0 en (g0 sD);cases aC:ss[m] with
  |none=>
   rw[aC] at a4;cases a4;rfl
  |some x=>
   rw[aC] at a4 ne;obtain⟨t',rfl⟩:=a4;have:x≠y:=λz=>ne (by rw[z]);simpa [Value.isStrOf] using this
 ·obtain⟨m,hm,e⟩:=List.getElem_of_mem (show z∈its by simpa using i');have sD:m<ss.length:=by omega
  obtain⟨v,bH,a4⟩:=Ca r (g0 sD);have mU:=(gZ.mp bH).2;rw[<- e,mU];cases aC:ss[m] with
  |none=>
   rw[aC] at a4;cases a4;exact SeqAt.EqAt.none_str _ _
  |some x=>
   rw[aC] at a4;obtain⟨t',rfl⟩:=a4;exact SeqAt.EqAt.str_str _ _ _ _
section
variable {X:bt}{o e:bz}{f g:bK}{apos de:Pos}
def ahZ(aE:eh X o f)(he:eh X e g)(j0:bb [e] X.env=(false,eval e X.env)::bb [] X.env:=by rfl)
  (i8:ir o "index" X.env (eval o X.env)=eval o X.env:=by rfl)
  (l8:((c0 de (bb [e] X.env)).all (λx=>!x.1) && (gm de (gk [] X.env)).all (λx=>x.1.isSome)
   && decide (([e]:List bz).length+([]:List Keyword).length+(if ([]:List Keyword).isEmpty then 0 else 1)<30))=true:=by rfl)
  (i9:(apos.endLine==de.line)=true:=by rfl) (l_:(c0 de (bb [] X.env)).any (·.1)=false:=by rfl):
  cK X (.Call (.Attribute o "index" apos) [e] [] de) (af Cv f g):=
 ew (vJ tp PySem.F.slot_list_index PySem.F.type_list_index ag_ aE (iR he jM j0) i8 l8 i9 j0 l_) λσ H Q ⟨aG,aO,O,F,ε,t,r,e,k⟩=>by
 simp only[af,b0] at e;obtain⟨x,ex,y,e2,e⟩:=e;unfold Cv at e;split at e
 next xs y=>
  simp only[b0] at e;obtain⟨ss,wM,e⟩:=e;split at e
  next aV=>
   cases e
   have lA:=J6 wM;subst lA;refine⟨aG,aO,O,F,ε,_,r,ex,λv a5 H1 aU aM=>?_⟩;obtain⟨lC,ws,rfl,av,au⟩:=aM.lst;refine⟨.inl ⟨rfl,_,.inl av⟩,aG,aO,O,a5,ε,_,r.ext aU,e2,λw dt bf bQ a9=>?_⟩;obtain⟨bX,tf,ax,Nw,mR⟩:=(aM.ext bQ).lst;cases ax;have l4:w=.str y:=a9.str;subst l4;have hC:=JR mR;subst hC;exact⟨lC,ss,y,rfl,rfl,.inl Nw,aV,k _ dt bf (aU.trans bQ) (by simp[Rep])⟩
  next=>cases e
 next=>cases e
end
end
section
variable [cG]
open AutoSeq1 (wpAny_loadPart')
section
variable {prog:cE}{w:b8}{A:cU}{E:ag->aK->Prop}{s:aK}{R:Result->aK->Prop}{z TI b6 cg cm bX bY:ak}{b1 b2:Bool}{xs ys:Array ag}
noncomputable def l2(h:bI)(N:Nat)(ps:List ak)(vs:List (ag×ag)):Prop:=Paired (λp v=>IsPair h p v.1 v.2) ps vs/\ps.Pairwise (·<·)/\(∀p∈ps,N<=p)
def l2.keep{h h':bI}{N:Nat}{ps:List ak}{vs:List (ag×ag)}(x:l2 h N ps vs)(k:∀b o,N<=b->h.get? b=some o->h'.get? b=some o):l2 h' N ps vs:=by
 obtain⟨ae,aj,a8⟩:=x;refine⟨?_,aj,a8⟩;clear aj
 induction ae with
|nil=>exact .nil
|cons a _ bc=>exact .cons (k _ _ (a8 _ (by simp)) a) (bc λp az=>a8 p (by simp[az]))
def l2.push{h h':bI}{N p:Nat}{ps:List ak}{vs:List (ag×ag)}{a b:ag}(x:l2 h N ps vs)(k:∀b o,N<=b->h.get? b=some o->h'.get? b=some o)(az:h.objs.size<=p)(c3:N<=p)(n:IsPair h' p a b):l2 h' N (ps++[p]) (vs++[(a,b)]):=by
 have lt:∀q∈ps,q<p:=λq a_=>by
  obtain⟨i,ba⟩:=List.getElem?_of_mem a_;obtain⟨v,_,a4⟩:=yt x.1 ba;exact gN (cN a4) az
 obtain⟨ae,aj,a8⟩:=x.keep k;refine⟨QK ae (.cons n .nil),List.pairwise_append.mpr ⟨aj,List.pairwise_singleton _ _,λq a_ r au=>?_⟩,λq a_=>?_⟩
 ·rw[ip] at au;subst au;exact lt q a_
 ·rcases gz.mp a_ with a_|a_
  ·exact a8 q a_
  ·rw[ip] at a_;subst a_;exact c3
def agB(cq:A.handled=none)(D:ZipApart z TI b6 cg cm bX bY)(S N:ak)(c9:∀c∈[z,TI,b6,cg,cm,bX,bY],S≠c)(c3:∀c∈[S,z,b6,cg,cm],c<N)(res:ag)(vs:List (ag×ag))(hlen:vs.length=min xs.size ys.size)(hz:vs.length<=1000)
  (a4:∀(j:Nat) (v:ag×ag),vs[j]?=some v->xs[j]?=some v.1/\ys[j]?=some v.2):
  ∀(k i:Nat) (s:aK) (ps:List ak) (c:Nat),vs.length - i=k->i<=vs.length->ny S z TI b6 cg cm bX bY b1 b2 xs ys i s.heap->s.heap.get? S=some {cls:=.type "list",dict:=none,data:=.seq (ps.map Value.ref).toArray c,slots:=#[]}->N<=s.heap.objs.size->l2 s.heap N ps (vs.take i) ->
   (∀h' tk rb cA,Kept S z b6 cg cm s.heap h'->h'.get? S=some {cls:=.type "list",dict:=none,data:=.seq (rb.map Value.ref).toArray cA,slots:=#[]}->l2 h' N rb vs->R (.ok (.ret res)) {s with heap:=h',toks:=tk}) ->
   lT (bS prog w) A (.builtin "list.extend.loop" ⟨[.ref S,.ref z,res],[]⟩) R s:=by
 have h_:S≠z/\S≠b6/\S≠cg/\S≠cm:=⟨c9 _ (by simp),c9 _ (by simp),c9 _ (by simp),c9 _ (by simp)⟩;have nw:∀c,N<=c->c≠S/\c≠z/\c≠b6/\c≠cg/\c≠cm:=λc ar=>by
  have ae:=c3 S (by simp);have aj:=c3 z (by simp);have a8:=c3 b6 (by simp);have b9:=c3 cg (by simp);have gE:=c3 cm (by simp);exact⟨f5 (gN ae ar),f5 (gN aj ar),f5 (gN a8 ar),f5 (gN b9 ar),f5 (gN gE ar)⟩
 intro k
 induction k with
|zero=>
  intro i s ps c ay ba ib uw zC i_ fK;have n1:i=vs.length:=by omega
  subst n1;refine kK F.entry_extend_loop ?_;rw[k8 F.plain_extend_loop _];refine aT (m:=pyNext (.ref z)) (P7 (A:=A.in1) cq D ib h_ (by omega) λh' tk amf aw=>?_);rw[List.take_of_length_le (dw _)] at i_;have Ye:=amf _ uw;exact cy (fK h' tk ps c aw Ye (i_.keep λb o ab e=>let ⟨a1,a2,eE,fW,h6⟩:=nw b ab;aw b o a1 a2 eE fW h6 e))
|succ k bc=>
  intro i s ps c ay ba ib uw zC i_ fK;have en:i<vs.length:=by omega
  have hx:i<xs.size:=by omega
  have aV:i<ys.size:=by omega
  refine kK F.entry_extend_loop ?_
  rw[k8 F.plain_extend_loop _];refine aT (m:=pyNext (.ref z)) (P6 (A:=A.in1) cq D ib ⟨_,uw⟩ h_ hx aV λh' tk az mh amf aw hsz=>?_);have wG:vs[i]?=some vs[i]:=g0 en;obtain⟨ax,aL⟩:=a4 i _ wG;have ex:xs[i]=vs[i].1:=fc ((rn hx).symm.trans ax);have e2:ys[i]=vs[i].2:=fc ((rn aV).symm.trans aL);rw[ex,e2] at az;have iF:=amf _ uw;have hpl:ps.length=i:=by rw[rI i_.1,List.length_take];omega
  show a6 _ A.in1 (updateSeq S (·.push (.ref s.heap.objs.size)) >>= _) _ _ _
  refine aT ?_
  obtain⟨cA,ups⟩:∃cA,(h'.update S (Obj.mapSeq (·.push (Value.ref s.heap.objs.size)))).get? S=some {cls:=.type "list",dict:=none,data:=.seq ((ps.map Value.ref).toArray.push (Value.ref s.heap.objs.size)) cA,slots:=#[]}:=⟨_,Heap.get?_update_self (Obj.mapSeq (·.push (Value.ref s.heap.objs.size))) iF rfl⟩;have f3:∀b o,b≠S->h'.get? b=some o->(h'.update S (Obj.mapSeq (·.push (Value.ref s.heap.objs.size)))).get? b=some o:=λb o ab e=>(nj _ _ (Ne.symm ab)).trans e;refine wpAny_updateSeq iF rfl (cy ⟨lU F.plain_extend_loop _,bc (i+1) _ (ps++[s.heap.objs.size]) cA (by omega) en (mh.frame c9 f3) ?_ ?_ ?_ λa8 IV ach fe wZ Yd Y3=>fK a8 IV ach fe (λb o c1 dh fe c4 h7 e=>wZ b o c1 dh fe c4 h7 (f3 b o c1 (aw b o c1 dh fe c4 h7 e))) Yd Y3⟩) (by simp only[eo,eb];rw[hpl,h1];omega) (by simp only[Array.size_push,eo,eb];rw[hpl,h1];omega)
  ·rw[List.map_append];have e:((ps.map Value.ref)++[Value.ref s.heap.objs.size]).toArray=(ps.map Value.ref).toArray.push (Value.ref s.heap.objs.size):=by simp
   rw[show List.map Value.ref [s.heap.objs.size]=[Value.ref s.heap.objs.size] from rfl,e];exact ups
  ·rw[Heap.size_update];exact hi zC hsz
  ·have:=i_.push (p:=s.heap.objs.size) (h':=h'.update S (Obj.mapSeq (·.push (Value.ref s.heap.objs.size)))) (a:=vs[i].1) (b:=vs[i].2) (λb o ab e=>let ⟨a1,a2,eE,fW,h6⟩:=nw b ab;f3 b o a1 (aw b o a1 a2 eE fW h6 e)) (dw _) zC (f3 _ _ (nw _ zC).1 az);rw[List.take_succ,wG];exact this
end
end
section
variable [cG]
open AutoSeq1 (wpAny_loadPart')
def afR:typeLookup (.type "zip") "__len__"=pure none:=by rw[typeLookup_type,builtinLookup_eq_fast];kernel_rfl
def afk:typeLookup (.type "zip") "__length_hint__"=pure none:=by rw[typeLookup_type,builtinLookup_eq_fast];kernel_rfl
section
variable {prog:cE}{w:b8}{A:cU}{E:ag->aK->Prop}{s:aK}{z TI b6 cg cm bX bY:ak}{b1 b2:Bool}{xs ys:Array ag}
def afN{Q:List ag->aK->Prop}(cq:A.handled=none)(D:ZipApart z TI b6 cg cm bX bY)(st:ny s.heap.objs.size z TI b6 cg cm bX bY b1 b2 xs ys 0 s.heap)(hz:fi s.heap z TI b6 .none (.bool false))(vs:List (ag×ag))(hlen:vs.length=min xs.size ys.size)(hsz:vs.length<=1000)
  (a4:∀(j:Nat) (v:ag×ag),vs[j]?=some v->xs[j]?=some v.1/\ys[j]?=some v.2)
  (gF:∀h' tk ps,(∀c o,c≠z->c≠b6->c≠cg->c≠cm->s.heap.get? c=some o->h'.get? c=some o)->l2 h' (s.heap.objs.size+1) ps vs->Q (ps.map Value.ref) {s with heap:=h',toks:=tk}):
  a6 (bS prog w) A (collect (.ref z)) Q E s:=by
 obtain⟨g8,⟨a,b,i7⟩,aM,a9,_⟩:=id st;have lt:∀c∈[z,TI,b6,cg,cm,bX,bY],c<s.heap.objs.size:=by
  obtain⟨d_,ax,_⟩:=aM.1.obj;obtain⟨fv,aL,_⟩:=a9.1.obj;have a0:=cN hz;have a1:=cN g8;have a2:=cN i7;have eE:=cN ax;have fW:=cN aL;have h6:=aM.2.lt;have jW:=a9.2.lt;intro c ar;simp only[ct,lS,or_false] at ar;rcases ar with rfl|rfl|rfl|rfl|rfl|rfl|rfl <;> assumption
 have c9:∀c∈[z,TI,b6,cg,cm,bX,bY],s.heap.objs.size≠c:=λc ar=>f5 (lt c ar);have c3:∀c∈[s.heap.objs.size,z,b6,cg,cm],c<s.heap.objs.size+1:=λc ar=>by
  simp only[ct,lS,or_false] at ar;rcases ar with rfl|rfl|rfl|rfl|rfl
  ·exact Nat.lt_succ_self _
  ·exact Nat.lt_succ_of_lt (lt _ (by simp))
  ·exact Nat.lt_succ_of_lt (lt _ (by simp))
  ·exact Nat.lt_succ_of_lt (lt _ (by simp))
  ·exact Nat.lt_succ_of_lt (lt _ (by simp))
 unfold collect;refine aT (wpAny_runValue (kK F.entry_proto_collect ?_));rw[k8 F.plain_proto_collect _];show a6 _ A.in1 (newList [] >>= λx=>again (.builtin "list.__iadd__" ⟨[x,.ref z],[]⟩)) _ _ s;refine aT (u6 (cy ⟨lU F.plain_list_iadd _,kK F.entry_list_iadd ?_⟩));rw[k8 F.plain_list_iadd _];show a6 _ A.in1 (Builtin.List.listExtendWith (.ref s.heap.objs.size) (.ref z) (.ref s.heap.objs.size)) _ _ _;have hF:fi (s.heap.push {cls:=.type "list",data:=.seq ([]:List ag).toArray}) z TI b6 .none (.bool false):=cT _ hz;have ma:IsZip (s.heap.push {cls:=.type "list",data:=.seq ([]:List ag).toArray}) z TI b6 .none:=hF;have cL:Shared.TypeIs {s with heap:=s.heap.push {cls:=.type "list",data:=.seq ([]:List ag).toArray} } (.ref z) "zip":=⟨_,hF,rfl⟩;unfold Builtin.List.listExtendWith;refine aT (wpAny_typeOf cL ?_);have ae:Builtin.List.listSameRef (.ref s.heap.objs.size) (.ref z)=false:=by simp[Builtin.List.listSameRef,c9 z (by simp)]
 have aj:(Value.type "zip"==Value.type "list")=false:=by decide
 have a8:(Value.type "zip"==Value.type "tuple")=false:=by decide
 simp only[ae,aj,a8,Bool.or_false,iO,if_false];refine aT (wpAny_pyIter_zip ma ?_);refine aT (jo ?_);unfold Builtin.List.listLengthHint;refine aT (wpAny_specialOf cL afR ?_);show a6 _ A.in1 (specialOf (Value.ref z) (Str.ofString "__length_hint__") >>= _) _ _ _;refine aT (wpAny_specialOf cL afk ?_);refine cy ?_;show a6 _ A.in1 (rule "list.extend.makes-room" >>= λ_=>Builtin.List.listTouch (.ref s.heap.objs.size) >>= λ_=>
  again (.builtin "list.extend.loop" ⟨[.ref s.heap.objs.size,.ref z,.ref s.heap.objs.size],[]⟩)) _ _ _
 refine aT (wpAny_rule ?_)
 have zG:(s.heap.push {cls:=.type "list",data:=.seq ([]:List ag).toArray}).get? s.heap.objs.size=some {cls:=.type "list",data:=.seq ([]:List ag).toArray}:=fy _ rfl;refine aT ?_;show a6 _ A.in1 (updateSeq s.heap.objs.size (·.push .none) >>= λ_=>updateSeq s.heap.objs.size (·.pop)) _ _ _;refine aT (wpAny_updateSeq zG rfl ?_);have Nb:=Heap.get?_update_self (Obj.mapSeq (·.push Value.none)) zG rfl;refine wpAny_updateSeq Nb rfl ?_;have Yf:=Heap.get?_update_self (Obj.mapSeq (·.pop)) Nb rfl;have f3:∀b o,b≠s.heap.objs.size->(s.heap.push {cls:=.type "list",data:=.seq ([]:List ag).toArray}).get? b=some o ->
   (((s.heap.push {cls:=.type "list",data:=.seq ([]:List ag).toArray}).update s.heap.objs.size (Obj.mapSeq (·.push Value.none))).update s.heap.objs.size (Obj.mapSeq (·.pop))).get? b=some o:=
  λb o ab e=>(nj _ _ (Ne.symm ab)).trans ((nj _ _ (Ne.symm ab)).trans e)
 have oa:=st.frame c9 λc o ar e=>f3 c o ar (cT {cls:=.type "list",data:=.seq ([]:List ag).toArray} e);refine cy ⟨lU F.plain_extend_loop _,agB cq D s.heap.objs.size (s.heap.objs.size+1) c9 c3 _ vs hlen hsz a4 (vs.length - 0) 0 _ [] _ rfl (k9 _) oa Yf ?_ ⟨.nil,.nil,λp az=>nomatch az⟩ λh' tk ps c aw iF i_=>?_⟩
 ·show _<=(Heap.update _ _ _).objs.size
  rw[Heap.size_update,Heap.size_update];show _<=(Array.push _ _).size;rw[Array.size_push];exact dw _
 ·show a6 _ A (load s.heap.objs.size >>= _) _ _ _
  refine aT (wpAny_load iF ?_)
  have cx:((ps.map Value.ref).toArray).toList=ps.map Value.ref:=by simp
  refine cy ?_
  show Q ((ps.map Value.ref).toArray).toList _
  rw[cx];exact gF h' tk ps (λc o dh fe c4 h7 e=>aw c o (ee (cN e)) dh fe c4 h7 (f3 c o (ee (cN e)) (cT _ e))) i_
def aex(D:ZipApart z TI b6 cg cm bX bY)(vs:List (ag×ag))(hlen:vs.length=min xs.size ys.size)(hsz:vs.length<=1000)
  (a4:∀(j:Nat) (v:ag×ag),vs[j]?=some v->xs[j]?=some v.1/\ys[j]?=some v.2):
  Meets (Builtin.«tuple.__new__» ⟨[.type "tuple",.ref z],[]⟩)
   (λA R s=>A.handled=none/\ny s.heap.objs.size z TI b6 cg cm bX bY b1 b2 xs ys 0 s.heap/\fi s.heap z TI b6 .none (.bool false)/\∀(h':bI) (tk:Nat) (ps:List ak),(∀c o,c≠z->c≠b6->c≠cg->c≠cm->s.heap.get? c=some o->h'.get? c=some o)->l2 h' (s.heap.objs.size+1) ps vs->R (.ok (.ret (.ref h'.objs.size))) {s with heap:=h'.push {cls:=.type "tuple",data:=.seq (ps.map Value.ref).toArray},toks:=tk}):=
 .of_wp λprog w A R s h=>by
  obtain⟨az,g,d,tk,os⟩:=s;obtain⟨cq,st,bo,h⟩:=h;have p5:=sub_tuple_self;have YH:=init_tuple_lookup;have YP:=madeHere_tuple;have cL:Shared.TypeIs ⟨az,g,d,tk,os⟩ (.ref z) "zip":=⟨_,bo,rfl⟩
  wp_walk using wpAny_loadPart' bo,wpAny_typeOf cL,afN (by simpa using cq) D st bo vs hlen hsz a4
  intro h' oc ps ay jx;show a6 _ _ (Bb (ps.map Value.ref).toArray >>= λv=>ret v) _ _ _;unfold Bb;have hz:ps.length<=1000:=by rw[rI jx.1];exact hsz
  refine aT (u6 ?_ (by show (ps.map Value.ref).toArray.size<=cB;rw[eo,eb,h1];omega))
  refine cy ⟨_,rfl,?_⟩
  exact h h' oc ps ay jx
def aeJ{Q:ag->aK->Prop}(cq:A.handled=none)(D:ZipApart z TI b6 cg cm bX bY)(st:ny s.heap.objs.size z TI b6 cg cm bX bY b1 b2 xs ys 0 s.heap)(hz:fi s.heap z TI b6 .none (.bool false))(vs:List (ag×ag))(hlen:vs.length=min xs.size ys.size)(hsz:vs.length<=1000)
  (a4:∀(j:Nat) (v:ag×ag),vs[j]?=some v->xs[j]?=some v.1/\ys[j]?=some v.2)
  (h:∀(h':bI) (tk:Nat) (ps:List ak),(∀c o,c≠z->c≠b6->c≠cg->c≠cm->s.heap.get? c=some o->h'.get? c=some o)->l2 h' (s.heap.objs.size+1) ps vs->Q (.ref h'.objs.size) {s with heap:=h'.push {cls:=.type "tuple",data:=.seq (ps.map Value.ref).toArray},toks:=tk}):
  a6 (bS prog w) A (call (.type "tuple") [.ref z]) Q E s:=
 callType_new F.called_tuple (by decide) (F.typeCall_tuple_1 _) (F.newCall_tuple_1 _) (λobj=>F.args_object_init_2 obj _) F.entry_tuple_new
  (aex (b1:=b1) (b2:=b2) D vs hlen hsz a4) ⟨by simpa using cq,st,hz,λh' tk ps ay i_=>⟨⟨_,fy _ rfl,rfl⟩,h h' tk ps ay i_⟩⟩
end
end
section
variable [cG]
noncomputable def k3(H:aA):List ak->List (V×V)->aA
|p::ps,v::vs=>upd (k3 H ps vs) p (.tup [v.1,v.2])
|_,_=>H
theorem Cf{H:aA}{b:ak}:∀{ps:List ak} {vs:List (V×V)},b∉ps->k3 H ps vs b=H b
| [],_,_=>by rw[k3];exact λ_ _ _ _ z=>nomatch z
|p::ps,[],_=>rfl
|p::ps,v::vs,h=>by
  rw[k3,cI (λz=>h (by simp[z]))];exact Cf λz=>h (dq _ z)
theorem Ks{H:aA}:∀{ps:List ak} {vs:List (V×V)},ps.Pairwise (·<·)->ps.length=vs.length->Paired (λp v=>k3 H ps vs p=some (.tup [v.1,v.2])) ps vs
| [],[],_,_=>.nil
|p::ps,v::vs,h,av=>by
  rw[lP] at h;refine .cons (by rw[k3,dN]) (Paired.N6 (Ks (H:=H) h.2 (by simpa using av)) λq w a_ e=>?_);rw[k3,cI (f5 (h.1 q a_))];exact e
where
 Paired.N6 {α β:Type} {F G:α->β->Prop}:∀{uJ:List α} {w2:List β},Paired F uJ w2->(∀a b,a∈uJ->F a b->G a b)->Paired G uJ w2
  |_,_,.nil,_=>.nil
  |_,_,.cons r t,f=>.cons (f _ _ (by simp) r) (Paired.N6 t λa b h=>f a b (dq _ h))
section
variable {X:bt}{ai:List (ak×Obj)}{σ:List (Option V)}{H:aA}{s:aK}{h':bI}
def ahi{t':Nat}{ps:List ak}{vs:List (V×V)}{us:List (ag×ag)}(I:Inv X ai σ H s)(k:∀b u,s.heap.get? b=some u->h'.get? b=some u)(i_:l2 h' s.heap.objs.size ps us)
  (a4:Paired (λ(v:V×V) (u:ag×ag)=>RelV v.1 u.1/\RelV v.2 u.2) vs us):Inv X ai σ (k3 H ps vs) {s with heap:=h',toks:=t'}:=by
 obtain⟨ae,aj,a8⟩:=i_;have hlen:ps.length=vs.length:=by rw[rI ae,<- rI a4]
 have old:∀b,b<s.heap.objs.size->k3 H ps vs b=H b:=λb ab=>Cf λz=>absurd (gN ab (a8 b z)) (Nat.lt_irrefl _);have xa:∀b o,H b=some o->k3 H ps vs b=some o:=λb o e=>(old b (I.bT.lt e)).trans e;refine I.un ⟨λb o e n _ _=>k b o e,λb o e n _ _=>⟨o.slots,k b o e⟩,λb o e n _=>(old b (cN e)).trans n,λb o e _=>⟨o,k b o e⟩,λb xs e=>xa b _ e,λb o u e=>xa b _ e,λb ps e=>⟨#[],by rw[xa b _ e];simp⟩⟩ λb o e=>?_;by_cases ab:b∈ps
 ·obtain⟨i,ba⟩:=List.getElem?_of_mem ab;obtain⟨u,bH,az⟩:=yt ae ba;obtain⟨v,zX,oV⟩:=yt (Ks (H:=H) aj hlen) ba;rw[e] at oV;cases oV;obtain⟨tb,mU,bC,b7⟩:=yt a4 zX;rw[bH] at mU;cases mU;refine⟨by rw[h1];show 2<=_;decide,[u.1,u.2],.cons bC (.cons b7 .nil),_,az,rfl,_,rfl⟩
 ·rw[Cf ab] at e;exact (I.bT b o e).kF (λc v _ q=>k c v q) (λc q=>xa c _ q) λc xs q=>xa c _ q
end
noncomputable def Cu:T->T->Option T
|.tuple xs,.tuple ys=>if (xs.zip ys).length<=1000 then some (.tuple ((xs.zip ys).map λp=>.tuple [p.1,p.2])) else none
|_,_=>none
section
variable {X:bt}{a b:bz}{f g:bK}{p fl pos gy:Pos}
noncomputable def aiJ(K:br)(cw:gs):TE:=λσ H Q=>cw σ H λvs H1=>∃bX bY xs ys,vs=[.ref bX,.ref bY]/\c6 K H1 bX xs/\c6 K H1 bY ys/\(xs.zip ys).length<=1000 /\
 ∀l ps,(∀p∈ps,H1 p=none)->ps.Pairwise (·<·)->ps.length=(xs.zip ys).length->k3 H1 ps (xs.zip ys) l=none->Q (.ref l) (upd (k3 H1 ps (xs.zip ys)) l (.tup (ps.map V.ref)))
theorem Rp:∀{xs ys:List V} {us ws:List ag},Vals xs us->Vals ys ws->Paired (λ(v:V×V) (u:ag×ag)=>RelV v.1 u.1/\RelV v.2 u.2) (xs.zip ys) (us.zip ws)
|_,_,_,_,.nil,_=>by
  rw[List.zip_nil_left,List.zip_nil_left];exact .nil
|_,_,_,_,.cons _ _,.nil=>.nil
|_,_,_,_,.cons a b,.cons c d=>.cons ⟨a,c⟩ (Rp b d)
theorem QB:∀(ps:List ak),Vals (ps.map V.ref) (ps.map Value.ref)
| []=>.nil
|p::ps=>.cons rfl (QB ps)
def agY{cw:gs}(ar:X.calm=true)(hd:X.mg "tuple"=none)(hz:X.mg "zip"=none)(aq:h5 X [a,b] cw)(bx:eP X "tuple")(sA:eP X "zip")(kA:bb [a,b] X.env=(false,eval a X.env)::bb [b] X.env)(sH:(c0 gy (bb [b] X.env)).any (·.1)=false)
  (he:bb [.Call (.Name "zip" fl) [a,b] [] gy] X.env=(false,eval (.Call (.Name "zip" fl) [a,b] [] gy) X.env)::bb [] X.env) (hpl:(c0 pos (bb [] X.env)).any (·.1)=false):
  b3 X (.Call (.Name "tuple" p) [.Call (.Name "zip" fl) [a,b] [] gy] [] pos) (aiJ X.K cw):=by
 intro ai s σ H Q I h;refine pe (pq I bx hd PyProof.Rows.boot_tuple ?_);refine amg ?_ he hpl;rw[he];show a6 _ _ (spliced ((false,eval (.Call (.Name "zip" fl) [a,b] [] gy) X.env)::c0 pos (bb [] X.env))) _ _ s;refine Calls.spliced_cons (pe (pq I sA hz PyProof.Rows.boot_zip (amg (cD (aq gy ai s σ H _ I h) λus s1 ⟨vs,H1,bw,bC,aM⟩=>?_) kA sH)));obtain⟨bX,bY,xs,ys,rfl,F7,F8,hle,q⟩:=aM;obtain⟨xy,te,rfl,ax,aL⟩:=bC.two;cases ax;cases aL;obtain⟨its,bV,pl,hF⟩:=bw.tuple F7;obtain⟨gH,rg,xd,ma⟩:=bw.tuple F8;have gI:gL false s1.heap bX its.toArray:=pl;have eu:gL false s1.heap bY gH.toArray:=xd;refine Q9 gI eu λh' wQ g8 i7 FP FQ hsz ay=>Calls.spliced_nil ?_;have NO:=Rp bV rg;have Nz:(its.zip gH).length=(xs.zip ys).length:=(rI NO).symm;have uT:h'.objs.size=s1.heap.objs.size+5:=hsz;refine aeJ (s:={s1 with heap:=h'}) (bw.ok.hd ar) (PL gI.lt eu.lt) ⟨g8,⟨_,_,i7⟩,⟨FP,gI.at λo e=>ay _ o e⟩,⟨FQ,eu.at λo e=>ay _ o e⟩,.inl wQ⟩ wQ (its.zip gH) (by rw[List.length_zip,eo,eo]) (by rw[Nz];exact hle) (λj v e=>?_) λaj tk ps n3 i_=>?_
 ·rw[List.getElem?_zip_eq_some] at e;exact⟨by simpa using e.1,by simpa using e.2⟩
 have keep:∀c o,s1.heap.get? c=some o->aj.get? c=some o:=λc o e=>by
  have ar:c<s1.heap.objs.size:=cN e;have ne:∀m:Nat,c≠s1.heap.objs.size+m:=λm=>ee (gN ar (tq _ m));exact n3 c o (ne 4) (ne 3) (ne 0) (ne 1) (ay c o e)
 have NI:l2 aj s1.heap.objs.size ps (its.zip gH):=⟨i_.1,i_.2.1,λp az=>hi (by show s1.heap.objs.size<=h'.objs.size+1;rw[uT];exact hi (tq _ 5) (ni _)) (i_.2.2 p az)⟩;have ck:=ahi (t':=tk) bw keep NI NO;have NH:ps.length=(xs.zip ys).length:=by rw[rI i_.1,Nz]
 have dU:Inv X ai σ (upd (k3 H1 ps (xs.zip ys)) aj.objs.size (.tup (ps.map V.ref))) {s1 with heap:=aj.push {cls:=.type "tuple",data:=.seq (ps.map Value.ref).toArray},toks:=tk}:=
  ck.laid (t':=tk) (λb o e=>cT _ e) (dw _) (show hv X.prog X.w _ _ _ (.tup _) from ⟨by rw[eb,NH,h1];omega,ps.map Value.ref,QB ps,oB.new _ _⟩)
 exact⟨.ref aj.objs.size,_,dU,rfl,q _ ps (λp az=>bw.bT.fresh (NI.2.2 p az)) i_.2.1 NH (ck.bT.fresh (dw _))⟩
theorem RM{F:ak->Prop}{H:aA}(d:fo F H):∀{ps:List ak} {vs:List (V×V)},(∀p∈ps,H p=none)->ps.Pairwise (·<·)->Ext F H F (k3 H ps vs)
| [],vs,_,_=>by rw[k3];exact Ext.refl d;exact λ_ _ _ _ z=>nomatch z
|p::ps,[],_,_=>Ext.refl d
|p::ps,v::vs,h,az=>by
  rw[lP] at az;have x:=RM d (vs:=vs) (λq a_=>h q (dq _ a_)) az.2;refine x.trans (Ext.laid x.cf ?_);rw[Cf λz=>absurd (az.1 p z) (Nat.lt_irrefl _)];exact h p (by simp)
theorem R4{K:br}{F:ak->Prop}{H:aA}:∀{xs ys:List T} {vs ws:List V} {ps:List ak},bp K F H xs vs->bp K F H ys ws->Paired (λp v=>H p=some (.tup [v.1,v.2])) ps (vs.zip ws)->bp K F H ((xs.zip ys).map λp=>.tuple [p.1,p.2]) (ps.map V.ref)
| [],ys,vs,ws,ps,ae,aj,a8=>by
  simp only[bp] at ae;subst ae;rw[List.zip_nil_left] at a8;cases a8;exact bp.nil
|x::xs,[],vs,ws,ps,ae,aj,a8=>by
  simp only[bp] at aj;subst aj;rw[List.zip_nil_right] at a8;cases a8;exact bp.nil
|x::xs,y::ys,vs,ws,ps,ae,aj,a8=>by
  simp only[bp] at ae aj;obtain⟨v,bC,rfl,aM,nk⟩:=ae;obtain⟨w,b7,rfl,a9,f9⟩:=aj;rw[pb] at a8;cases a8 with
  | @cons p _ ps _ e t=>
   refine bp.cons ?_ (R4 nk f9 t)
   simp only[Rep];exact⟨p,_,rfl,c6.of e,bp.cons aM (bp.cons a9 bp.nil)⟩
def ahY(ar:X.calm=true)(hd:X.mg "tuple"=none)(hz:X.mg "zip"=none)(aq:eh X a f)(ab:eh X b g)(bx:eP X "tuple":=by rfl)(sA:eP X "zip":=by rfl)
  (kA:bb [a,b] X.env=(false,eval a X.env)::bb [b] X.env:=by rfl) (FJ:bb [b] X.env=(false,eval b X.env)::bb [] X.env:=by rfl) (sH:(c0 gy (bb [b] X.env)).any (·.1)=false:=by rfl)
  (he:bb [.Call (.Name "zip" fl) [a,b] [] gy] X.env=(false,eval (.Call (.Name "zip" fl) [a,b] [] gy) X.env)::bb [] X.env:=by rfl) (hpl:(c0 pos (bb [] X.env)).any (·.1)=false:=by rfl):
  cK X (.Call (.Name "tuple" p) [.Call (.Name "zip" fl) [a,b] [] gy] [] pos) (af Cu f g):=
 ew (agY ar hd hz (iR aq (iR ab jM FJ) kA) bx sA kA sH he hpl) λσ H Q ⟨aG,aO,O,F,ε,t,r,e,k⟩=>by
 simp only[af,b0] at e;obtain⟨tx,ex,ty,e2,e⟩:=e;unfold Cu at e;split at e
 next xs ys=>
  split at e
  next hle=>
   cases e
   refine⟨aG,aO,O,F,ε,_,r,ex,λv1 a5 H1 aU aM=>⟨aG,aO,O,a5,ε,_,r.ext aU,e2,λv2 dt bf bQ a9=>?_⟩⟩
   obtain⟨bX,vs,rfl,iG,k1⟩:=(aM.ext bQ).tup;obtain⟨bY,ws,rfl,mQ,q1⟩:=a9.tup;have ax:=k1.length;have aL:=q1.length;refine⟨bX,bY,vs,ws,rfl,iG,mQ,by rw[List.length_zip] at hle ⊢;omega,λl ps aX NJ hlen av=>?_⟩;have hh:=RM bQ.cf (vs:=vs.zip ws) aX NJ;have i_:=Ks (H:=bf) NJ hlen;have O0:=Ext.laid (o:=.tup (ps.map V.ref)) hh.cf av;refine k _ dt _ (((aU.trans bQ).trans hh).trans O0) ?_;simp only[Rep];exact⟨l,_,rfl,c6.of dN,(R4 (k1.ext hh) (q1.ext hh) i_).ext O0⟩
  next=>cases e
 next=>cases e
end
end
section
variable [cG]
def aeP:typeLookup (.type "tuple") "keys"=pure none:=by rw[typeLookup_type,builtinLookup_eq_fast];kernel_rfl
def aie{prog:cE}{w:b8}{A:cU}{E:ag->aK->Prop}{s:aK}{a:ak}{xs:Array ag}{k:Nat}{df:Array (Option ag)}{Q:Option ag->aK->Prop}
  (hx:s.heap.get? a=some {cls:=.type "tuple",dict:=none,data:=.seq xs k,slots:=df}) (oQ:A.handled=none)
  (h:∀h' tk,(∀b o,s.heap.get? b=some o->h'.get? b=some o)->Q none {s with heap:=h',toks:=tk}):
  a6 (bS prog w) A (getAttr? (.ref a) "keys") Q E s:=by
 obtain⟨az,g,d,tk,os⟩:=s;have cL:∀oc,(⟨az,g,d,oc,os⟩:aK).TypeIs (.ref a) "tuple":=λ_=>⟨_,hx,rfl⟩;have f1:=sub_AttributeError;have hR:=F.slot_tuple_getattribute.lookup;have f4:=F.slot_tuple_getattribute.bind (.ref a);have hE:=am_tuple_getattr_none;have nm:(["__module__","__name__","__qualname__","__doc__","__annotations__"]:List Str).contains ("keys":Str)=false:=by decide +kernel
 have kG:("keys":Str).length+100<=cB:=by rw[h1];decide
 unfold getAttr? getAttrBy? getAttrBy
 repeat (any_goals (first|assumption|exact cL _|((with_reducible show a6 _ _ (call (Value.builtin "tuple.__getattribute__") _ _) _ _ _);refine qm F.slot_tuple_getattribute (cL _) am_entry_tuple_getattribute (F.args_tuple_getattribute_2 _ _) (meets_getattribute_miss_tuple a xs k df "keys" _ aeP nm kG) ⟨hx,oQ,λh' oc e lB=>?_⟩)|wp_step))
 obtain⟨t',tb,he⟩:=lB.there;show a6 _ _ (getattributeRaised _ _ _ _ _ _ _) _ _ _;unfold getattributeRaised
 repeat (any_goals (first|assumption|wp_step))
 exact h _ _ lB.keeps
section
variable {prog:cE}{w:b8}{K:Type}[DecidableEq K]{knd:PySem.KeyKind prog w K}{A:cU}{E:ag->aK->Prop}{s:aK}
def agw{l:ak}{items:Array ag}{nl:Nat}{df:Array (Option ag)}{kvs:List (K×ag)}{Q:ag->aK->Prop}(cq:A.handled=none)
  (av:s.heap.get? l=some {cls:=.type "tuple",dict:=none,data:=.seq items nl,slots:=df}) (n2:(kvs.map (·.1)).Nodup) (hlen:items.size=kvs.length) (hz:kvs.length<=cB)
  (fJ:∀(j:Nat) v bU,items[j]?=some v->kvs[j]?=some bU->tS knd [] s.heap v bU)
  (h:∀(h':bI) (tk:Nat),h'.DictOf knd s.heap.objs.size kvs->(∀b o,s.heap.get? b=some o->h'.get? b=some o)->Q (.ref s.heap.objs.size) {s with heap:=h',toks:=tk}):
  a6 (bS prog w) A (call (.type "dict") [.ref l]) Q E s:=by
 refine callType_codes (Q₁:=λobj dc=>obj=.ref s.heap.objs.size/\dc={s with heap:=s.heap.push {cls:=.type "dict",data:=.dict #[]} }) F.kt_called_dict (F.kt_typeCall_dict_1 _) F.entry_dict_init (kt_code_dict_new _ ⟨rfl,rfl⟩) ?_
 rintro obj dc ⟨rfl,rfl⟩;have sg:(s.heap.push {cls:=.type "dict",data:=.dict #[]}).DictOf knd s.heap.objs.size []:=Heap.DictOf.new s.heap;have iG:(s.heap.push {cls:=.type "dict",data:=.dict #[]}).get? l=some {cls:=.type "tuple",dict:=none,data:=.seq items nl,slots:=df}:=cT _ av;refine⟨sg.typeIs,F.args_dict_init_2 _ _,?_⟩;unfold Builtin.«dict.__init__»;refine aT ?_;unfold Builtin.Dict.selfAndRest;refine aT (wpAny_notOrdered_dict sg.typeIs ?_);show a6 _ _ (pure (s.heap.objs.size,[Value.ref l])) _ _ _;refine cy ?_;show a6 _ _ (Builtin.Dict.updateFrom "dict.__init__" s.heap.objs.size (.ref l) [] .none) _ _ _;unfold Builtin.Dict.updateFrom;refine aT (wpAny_typeOf (show Shared.TypeIs _ (.ref l) "tuple" from ⟨_,iG,rfl⟩) ?_);rw[if_pos (by decide)];refine aT (aie iG (by simp[cq]) λaj xx eu=>?_);have mQ:aj.get? l=some {cls:=.type "tuple",dict:=none,data:=.seq items nl,slots:=df}:=eu _ _ iG;simp only[Option.isNone_none,if_true];refine aT (wpAny_rule ?_);have M9:aj.IsTuple l items:=⟨_,mQ,rfl,nl,rfl⟩;refine aT (pf (s:={s with heap:=aj,toks:=xx}) M9 (cy ⟨lU rA _,?_⟩));have Nj:aj.DictOf knd s.heap.objs.size []:=sg.at λo e=>eu _ _ e;have Ny:l<s.heap.objs.size:=cN av;have zE:s.heap.objs.size<aj.objs.size:=by
  obtain⟨o,_,_,e,_⟩:=Nj;exact cN e
 have YT:l≠aj.objs.size:=ee (Nat.lt_trans Ny zE);have zF:s.heap.objs.size∉[aj.objs.size,l]:=by
  simp only[ct,ip,lS,or_false,not_or];exact⟨ee zE,f5 Ny⟩
 have keep:∀b o,s.heap.get? b=some o->(aj.push {cls:=.type "tuple_iterator",data:=.fields #[.ref l,.int 0 0]}).get? b=some o:=λb o e=>cT _ (eu _ _ (cT _ e));refine agq (knd:=knd) ((Walks.tuple (by simp[cq]) _ l YT items).toS) s.heap.objs.size zF kvs n2 hlen hz (items.size - 0) 0 _ 0 _ (by omega) (k9 _)
  ⟨⟨_,fy _ rfl,rfl,rfl⟩,(M9.push _)⟩ (λj v bU ax aL=>?_) (by simpa using Nj.push _) λs' hm iF=>?_
 ·obtain⟨p,o,n,key,aM,a9,c5,r⟩:=fJ j v bU ax aL;have az:=cN c5;refine⟨p,o,n,key,aM,?_,keep p o c5,r⟩;simp only[ct,ip,lS,or_false,not_or];exact⟨ee az,ee (Nat.lt_trans az zE)⟩
 ·obtain⟨h',g',d',oc,qa⟩:=s';have nR:g'=s.gens:=hm.gens;have eR:d'=s.drawn:=hm.drawn;have e1:qa=s.os:=hm.os;subst nR;subst eR;subst e1;refine⟨rfl,h h' oc iF λb o e=>?_⟩;have ab:=cN e;exact hm.heap b o (by simp only[ct,ip,lS,or_false,not_or];exact⟨ee ab,ee (Nat.lt_trans ab zE)⟩) (keep b o e)
end
noncomputable def vw:T->T->Option T
|.tuple ts,y=>(yu ts).bind λkvs=>(keyOf y).bind λk=>if (kvs.map (·.1)).Nodup/\kvs.length<=1000 then getD kvs k else none
|_,_=>none
section
variable {X:bt}{a b:bz}{f g:bK}{p pos gy:Pos}
def afQ(ar:X.calm=true):kO X (.type "dict") (λxs H Q=>∃p vs F kvs,xs=[.ref p]/\c6 X.K H p vs/\bp X.K F H (kvs.map yv) vs/\(kvs.map (·.1)).Nodup/\kvs.length<=1000/\∀l ws,H l=none->dE X.K F H kvs ws->Q (.ref l) (upd H l (.dP ws))):=by
 intro ai s σ H xs us Q I r h;obtain⟨p,vs,F,kvs,rfl,a_,mS,aW,hz,q⟩:=h;obtain⟨u,rfl,aY⟩:=vals1 r;cases aY;obtain⟨its,cu,⟨o,e,l7,n,Nk⟩,i'⟩:=I.adY a_;obtain⟨ws,ys,g1,g2,g3,nX,ky⟩:=pairs_at I mS cu;obtain⟨c,pW,dat,df⟩:=o;simp only at l7 Nk;obtain⟨FE,hd2⟩:=Prod.mk.inj Nk;subst l7 FE hd2;have av:ws.length=ys.length:=Paired.length g2;have aV:ys.length=kvs.length:=by have:=congrArg List.length g3;simpa using this
 refine agw (knd:=fM X.prog X.w) (kvs:=ys) (I.ok.hd ar) e (by rw[g3];exact aW) (by simpa using nX) (by rw[aV,h1];omega) (λj v bU f1 f2=>ky j v bU (by simpa using f1) f2) λh' tk hd aw=>?_
 refine⟨.ref s.heap.objs.size,_,I.laid (t':=tk) (o:=.dP ws) aw (dw _) ⟨by rw[av,aV,h1];omega,beq_eq_false_iff_ne.mpr (Ne.symm (ee I.big)),ys,g2,hd⟩,rfl,q _ _ (I.bT.fresh (dw _)) g1⟩
def ah0(ar:X.calm=true)(hm:X.mg "dict"=none)(bH:X.A.units+1<cLine)(aq:eh X a f)(ab:eh X b g)(bx:eP X "dict":=by rfl)(he:bb [a] X.env=(false,eval a X.env)::bb [] X.env:=by rfl)(hpl:(c0 gy (bb [] X.env)).any (·.1)=false:=by rfl)(aC:yP b:=by intro _ _;rfl):
  cK X (.Subscript (.Call (.Name "dict" p) [a] [] gy) b pos) (af vw f g):=
 ew (Sa bH (x8 (afQ ar) bx hm (by decide +kernel) (hL aq iT he) (he:=he) (hpl:=hpl)) ab aC) λσ H Q ⟨aG,aO,O,F,ε,t,r,e,k⟩=>by
 simp only[af,b0] at e;obtain⟨tx,ex,ty,e2,e⟩:=e;unfold vw at e;split at e
 next ts=>
  simp only[b0] at e;obtain⟨kvs,ax,key,eK,aL⟩:=e;split at aL
  next n0=>
   have lA:=QM ax;subst lA;refine⟨aG,aO,O,F,ε,[.tuple (kvs.map yv)],r,by simp[args,ex],λvs a5 H1 aU aM=>?_⟩;cases aM with
   |cons aM a9=>
    cases a9
    obtain⟨lC,us,rfl,av,au⟩:=aM.tup;refine⟨lC,us,a5,kvs,rfl,av,au,n0.1,n0.2,λl ws iG hw=>?_⟩;have bQ:=Ext.laid (o:=.dP ws) aU.cf iG;refine⟨aG,aO,O,a5,ε,_,(r.ext aU).ext bQ,e2,λv dt bf hh c5=>?_⟩;have hd2:bf l=some (.dP ws):=hh.same.get dN;obtain⟨w,Y',jj⟩:=((hw.aw bQ.aw).aw hh.aw).get aL;refine⟨l,w,rfl,?_,k w dt bf ((aU.trans bQ).trans hh) jj⟩;rw[ox eK c5,<- Y'];exact mD.k hd2
  next=>cases aL
 next=>cases e
end
end
end D
end
section
namespace b5
open D
noncomputable def Rf:bD:=
  (seq (eT (cQ (af aP (nm 0) (aa (.int 0)))) (bA 2) (iff (aZ (af oEq (af aP (nm 2) (aa (.int 0))) (nm 1))) (bN (af aP (nm 2) (aa (.int 1)))) skip))
  never)
def tJ:List T->Option T:=cV Rf 3
noncomputable def SA:bD:=
  (seq (asg 1 (aS gq [(comp 1 [] (cQ (af aP (nm 0) (aa (.int 0)))) (bA 0) (di true) (aa (.str "shut")))])) (seq (asg 2 (aS gq [(comp 1 [] (cQ (af aP (nm 0) (aa (.int 1)))) (bA 0) (di true) (aa (.int 0)))])) (bN (bk [(aa (.str "off")),(aa (.int 0)),(aa .none),(ao 1),(bk []),(aa (.int 0)),(bk []),(aa (.int 0)),(aa (.int 0)),(ao 2)]))))
def rG:List T->Option T:=cV SA 3
noncomputable def Rg:bD:=
  (seq (eT (cQ (af aP (nm 0) (aa (.int 1)))) (bA 2) (iff (aZ (af oEq (af aP (nm 2) (aa (.int 0))) (nm 1))) (bN (nm 2)) skip)) (bN (aa .none)))
def yb:List T->Option T:=cV Rg 3
def Qw:bD:=
  (bN (aS m2 [(af q9 (nm 0) (nm 1)),(aa (.int 0))]))
def tE:List T->Option T:=cV Qw 2
noncomputable def Pc:bD:=
  (seq (e9 0 0 0 (ao 1)) (seq (e9 0 0 1 (af aP (nm 2) (aa (.int 0)))) (seq (e9 0 0 2 (af aP (nm 2) (aa (.int 1)))) (seq (e9 0 0 3 (af aP (nm 2) (aa (.int 2)))) (seq (vO 0 0 4 (comp 1 [] (cQ (af aP (nm 1) (aa (.int 0)))) (bA 0) (di true) (af aP (nm 0) (aa (.int 0)))) (af aP (nm 2) (aa (.int 3)))) (seq (mA 0 0 5 (cn vF (af aP (nm 2) (aa (.int 4))))) (seq (e9 0 0 6 (af aP (nm 2) (aa (.int 5)))) (seq (mA 0 0 7 (cn vF (af aP (nm 2) (aa (.int 6))))) (seq (e9 0 0 8 (af aP (nm 2) (aa (.int 7)))) (seq (e9 0 0 9 (af aP (nm 2) (aa (.int 8)))) (seq (vO 0 0 10 (comp 1 [] (cQ (af aP (nm 1) (aa (.int 1)))) (bA 0) (di true) (af aP (nm 0) (aa (.int 0)))) (af aP (nm 2) (aa (.int 9)))) (seq (e9 0 0 11 (aa (.int 0))) (mA 0 0 12 (dD []))))))))))))))
def xO:List aR->Option (T×List aR):=runM 0 0 Pc 3
noncomputable def Po:bD:=
  (seq (asg 1 (yG 0 0 4)) (seq (asg 2 (aS gq [(fld 0 0 5)])) (seq (asg 3 (aS gq [(fld 0 0 7)])) (seq (asg 4 (yG 0 0 10)) (bN (bk [(hr 0 0 1),(hr 0 0 2),(hr 0 0 3),(ao 1),(ao 2),(hr 0 0 6),(ao 3),(hr 0 0 8),(hr 0 0 9),(ao 4)]))))))
def xU:List aR->Option T:=k4 Po 5
def Py:bD:=
  (pO 0 0 12 (bk [(hr 0 0 11),(ao 1),(ao 2)]))
def gn:List aR->Option (T×List aR):=runM 0 0 Py 3
noncomputable def Pf:bD:=
  (e9 0 0 6 (af aP (af aP (fld 0 0 0) (aa (.int 2))) (aa (.int 2))))
def tA:List aR->Option (T×List aR):=runM 0 0 Pf 1
noncomputable def Jq:bD:=
  (seq (d1 (dT 0 tA 0 [])) (iff (aZ (af (eB true) (nm 1) (fld 0 0 7))) (seq (pO 0 0 7 (ao 1)) (d1 (dT 0 gn 0 [(aa (.str "alarm")),(ao 1)]))) skip))
def lV:List aR->Option (T×List aR):=runM 0 0 Jq 2
noncomputable def Br:bD:=
  (seq (iff (eI (aZ (af fa (nm 2) (aa (.str "way")))) (aZ (af oLe (af aP (af aP (fld 0 0 0) (aa (.int 2))) (aa (.int 1))) (aa (.int 0))))) (seq (d1 (dT 0 lV 0 [(ao 1)]))
  qE) skip) (seq (e9 0 0 1 (aa (.str "coming"))) (seq (e9 0 0 2 (af aP (af aP (fld 0 0 0) (aa (.int 2))) (aa (.int 1)))) (seq (e9 0 0 3 (ao 1)) (d1 (dT 0 gn 0 [(aa (.str "coming")),(ao 1)]))))))
def amj:List aR->Option (T×List aR):=runM 0 0 Br 3
noncomputable def Pe:bD:=
  (seq (asg 3 (aS tJ [(hr 0 0 0),(ao 1)])) (iff (aZ (af oEq (nm 3) (aa (.str "day")))) (d1 (dT 0 lV 0 [(ao 1)])) (iff (aZ (af oEq (fld 0 0 1) (aa (.str "off")))) (iff (aZ (af oEq (nm 2) (aa (.str "cut")))) (d1 (dT 0 gn 0 [(aa (.str "fault")),(ao 1)])) skip) (iff (eI (aZ (af oEq (nm 2) (aa (.str "cut")))) (aZ (af oEq (nm 3) (aa (.str "once"))))) (d1 (dT 0 lV 0 [(ao 1)])) (iff (aZ (af oEq (fld 0 0 1) (aa (.str "on")))) (d1 (dT 0 amj 0 [(ao 1),(ao 3)])) skip)))))
def xP:List aR->Option (T×List aR):=runM 0 0 Pe 4
noncomputable def Pz:bD:=
  (seq (asg 3 (nS 0 0 4 (nm 1))) (seq (iff (aZ (af oEq (nm 2) (nm 3))) qE skip) (seq (rN 0 0 4 (nm 1) (ao 2)) (iff (aZ (af oEq (nm 2) (aa (.str "shut")))) (iff (aZ (af oEq (nm 3) (aa (.str "cut")))) (d1 (dT 0 gn 0 [(aa (.str "mended")),(ao 1)])) skip) (iff (aZ (af (eB true) (nm 1) (fld 0 0 5))) (d1 (dT 0 xP 0 [(ao 1),(ao 2)])) skip)))))
def xW:List aR->Option (T×List aR):=runM 0 0 Pz 4
noncomputable def Jd:bD:=
  (bN (nL (af fa (af aP (nm 1) (aa (.int 3))) (aa (.int 0))) (af m1 (nS 0 0 10 (af aP (nm 1) (aa (.int 0)))) (af aP (nm 1) (aa (.int 3))))))
def vb:List aR->Option T:=k4 Jd 2
noncomputable def Jb:bD:=
  (seq (d1 (dT 0 gn 0 [(aa (.str "wrong")),(aa .none)])) (seq (pP 0 0 8 (aa (.int 1))) (iff (aZ (af m1 (fld 0 0 8) (aa (.int 3)))) (seq (e9 0 0 8 (aa (.int 0))) (seq (e9 0 0 9 (aa (.int 90))) (seq (d1 (dT 0 tA 0 [])) (d1 (dT 0 gn 0 [(aa (.str "attack")),(aa .none)]))))) skip)))
def u':List aR->Option (T×List aR):=runM 0 0 Jb 1
noncomputable def tu:bD:=
  (seq (iff (aZ (af oEq (nm 1) (aa (.str "unset")))) (bN (aa (.bool false))) skip) (seq (iff (aZ (af fa (fld 0 0 1) (aa (.str "off")))) (bN (aa (.bool true))) skip) (seq (iff (aZ (af oEq (nm 1) (aa (.str "shunt")))) (bN (xb (af oEq (aS tJ [(hr 0 0 0),(ao 2)]) (aa (.str "day"))) (af (eB false) (nm 2) (fld 0 0 5)))) skip) (bN (nL (af oEq (nm 1) (aa (.str "free"))) (af (eB true) (nm 2) (fld 0 0 5)))))))
def al6:List aR->Option T:=k4 tu 3
noncomputable def O':bD:=
  (seq (asg 2 (comp 1 [1] (cQ (af aP (fld 0 0 0) (aa (.int 0)))) (bA 0) (aZ (af (eB false) (af aP (nm 0) (aa (.int 1))) (nm 1))) (af aP (nm 0) (aa (.int 0))))) (bN (comp 1 [0] (cQ (ao 2)) (bA 0) (dy (aZ (af fa (nS 0 1 4 (nm 0)) (aa (.str "shut")))) (aZ (af (eB true) (nm 0) (fld 0 1 5)))) (ao 0))))
def ami:List aR->Option T:=k4 O' 3
noncomputable def O3:bD:=
  (seq (asg 4 (oW (aZ (af oEq (nm 2) (aa (.str "free")))) (aa (.str "shunt")) (ao 2))) (seq (iff (aZ (af (eB true) (nm 4) (af aP (nm 1) (aa (.int 2))))) (bN (bk [(aa (.str "denied")),(af aP (nm 1) (aa (.int 1)))])) skip) (seq (iff (aZ (nx 0 al6 0 [(ao 2),(ao 3)])) (bN (bk [(aa (.str "no")),(af aP (nm 1) (aa (.int 1)))])) skip) (seq (asg 5 (nx 0 ami 0 [(aa (.tuple (lW ["day","once"])))])) (seq (iff (dy (aZ (af oEq (nm 2) (aa (.str "set")))) (e6 (nm 5))) (bN (bk [(aa (.str "open")),(af aP (nm 5) (aa (.int 0)))])) skip) (bN (aa .none)))))))
def xH:List aR->Option T:=k4 O3 6
noncomputable def O8:bD:=
  (seq (e9 0 0 1 (aa (.str "on"))) (seq (e9 0 0 2 (aa (.int 0))) (seq (d1 (dT 0 gn 0 [(aa (.str "on")),(aa .none)])) (eT (cQ (nx 0 ami 0 [(aa (.tuple (lW ["inner","way"])))])) (bA 1) (d1 (dT 0 lV 0 [(ao 1)]))))))
def amh:List aR->Option (T×List aR):=runM 0 0 O8 2
noncomputable def Jn:bD:=
  (seq (mA 0 0 7 (dD [])) (seq (e9 0 0 6 (aa (.int 0))) (seq (e9 0 0 1 (aa (.str "leaving"))) (seq (e9 0 0 2 (af aP (af aP (fld 0 0 0) (aa (.int 2))) (aa (.int 0)))) (seq (d1 (dT 0 gn 0 [(aa (.str "set")),(ao 1)])) (iff (aZ (af oLe (fld 0 0 2) (aa (.int 0)))) (d1 (dT 0 amh 0 [])) skip))))))
def vf:List aR->Option (T×List aR):=runM 0 0 Jn 2
noncomputable def Pb:bD:=
  (seq (e9 0 0 1 (aa (.str "off"))) (seq (e9 0 0 2 (aa (.int 0))) (seq (e9 0 0 6 (aa (.int 0))) (seq (e9 0 0 3 (aa .none)) (seq (mA 0 0 5 (dD [])) (d1 (dT 0 gn 0 [(aa (.str "unset")),(ao 1)])))))))
def xN:List aR->Option (T×List aR):=runM 0 0 Pb 2
noncomputable def xR:bD:=
  (iff (aZ (af oEq (nm 2) (aa (.str "set")))) (d1 (dT 0 vf 0 [(ao 1)])) (iff (aZ (af oEq (nm 2) (aa (.str "unset")))) (d1 (dT 0 xN 0 [(ao 1)])) (iff (aZ (af oEq (nm 2) (aa (.str "shunt")))) (seq (mA 0 0 5 (cn Cb (af b4 (fld 0 0 5) (dD [(ao 3)])))) (d1 (dT 0 gn 0 [(aa (.str "shunt")),(ao 3)]))) (seq (AP 0 0 5 (ao 3)) (d1 (dT 0 gn 0 [(aa (.str "free")),(ao 3)]))))))
def rt:List aR->Option (T×List aR):=runM 0 0 xR 4
noncomputable def Jc:bD:=
  (seq (asg 4 (nx 0 xH 0 [(ao 1),(ao 2),(ao 3)])) (iff (aZ (cn e3 (nm 4))) (seq (rR 0 0 10 (af aP (nm 1) (aa (.int 0))) (aa (.int 1))) (d1 (dT 0 rt 0 [(af aP (nm 1) (aa (.int 1))),(ao 2),(ao 3)]))) (d1 (dT 0 gn 0 [(af aP (nm 4) (aa (.int 0))),(af aP (nm 4) (aa (.int 1)))]))))
def va:List aR->Option (T×List aR):=runM 0 0 Jc 5
noncomputable def xX:bD:=
  (seq (asg 4 (aS yb [(hr 0 0 0),(ao 1)])) (iff (aZ (af oY (fld 0 0 9) (aa (.int 0)))) (d1 (dT 0 gn 0 [(aa (.str "locked")),(aa .none)])) (iff (eI (aZ (cn e3 (nm 4))) (aZ (nx 0 vb 0 [(ao 4)]))) (d1 (dT 0 u' 0 [])) (seq (e9 0 0 8 (aa (.int 0))) (d1 (dT 0 va 0 [(ao 4),(ao 2),(ao 3)]))))))
def ry:List aR->Option (T×List aR):=runM 0 0 xX 5
noncomputable def O_:bD:=
  (seq (pP 0 0 11 (ao 1)) (seq (e9 0 0 9 (aS tE [(hr 0 0 9),(ao 1)])) (seq (e9 0 0 6 (aS tE [(hr 0 0 6),(ao 1)])) (e9 0 0 2 (aS tE [(hr 0 0 2),(ao 1)])))))
def tv:List aR->Option (T×List aR):=runM 0 0 O_ 2
noncomputable def O9:bD:=
  (seq (asg 1 (hr 0 0 3)) (seq (e9 0 0 1 (aa (.str "on"))) (seq (e9 0 0 3 (aa .none)) (d1 (dT 0 lV 0 [(ao 1)])))))
def xJ:List aR->Option (T×List aR):=runM 0 0 O9 2
noncomputable def Jg:bD:=
  (iff (aZ (af oEq (fld 0 0 1) (aa (.str "leaving")))) (d1 (dT 0 amh 0 [])) (d1 (dT 0 xJ 0 [])))
def vd:List aR->Option (T×List aR):=runM 0 0 Jg 1
noncomputable def xV:bD:=
  (seq (iff (aZ (af oLt (nm 1) (aa (.int 1)))) qE skip) (iff (dy (aZ (af (eB false) (fld 0 0 1) (bk [(aa (.str "leaving")),(aa (.str "coming"))]))) (aZ (af oLe (fld 0 0 2) (nm 1)))) (seq (asg 2 (af q9 (nm 1) (fld 0 0 2))) (seq (d1 (dT 0 tv 0 [(hr 0 0 2)])) (seq (d1 (dT 0 vd 0 [])) (d1 (dT 0 tv 0 [(ao 2)]))))) (d1 (dT 0 tv 0 [(ao 1)]))))
def rv:List aR->Option (T×List aR):=runM 0 0 xV 3
noncomputable def Bu:bD:=
  (iff (aZ (af oEq (af aP (nm 1) (aa (.int 0))) (aa (.str "line")))) (d1 (dT 0 xW 0 [(af aP (nm 1) (aa (.int 1))),(af aP (nm 1) (aa (.int 2)))])) (iff (aZ (af oEq (af aP (nm 1) (aa (.int 0))) (aa (.str "code")))) (d1 (dT 0 ry 0 [(af aP (nm 1) (aa (.int 1))),(af aP (nm 1) (aa (.int 2))),(af aP (nm 1) (aa (.int 3)))])) (d1 (dT 0 rv 0 [(af aP (nm 1) (aa (.int 1)))]))))
def ru:List aR->Option (T×List aR):=runM 0 0 Bu 2
noncomputable def JN:bD:=
  (seq (yV 3 (AD 0 xO [(ao 0),(ao 1)])) (seq (eT (cQ (ao 2)) (bA 4) (d1 (dT 0 ru 3 [(ao 4)]))) (xl 3)))
def rz:List T->Option aR:=sX JN 5
noncomputable def SD:bD:=
  (bN (AG 0 xU (vN rz [(ao 0),(ao 1),(ao 2)]) []))
def qw:List T->Option T:=cV SD 3
noncomputable def Sz:bD:=
  (bN (aS gq [(Cw 0 12 (vN rz [(ao 0),(ao 1),(ao 2)]))]))
def rF:List T->Option T:=cV Sz 3
end b5
end
section
namespace b5
open D b5
noncomputable def tD:bD:=
  (seq (iff (aZ (af oLt (nm 1) (aS fL [(nm 0)]))) (bN (af aP (nm 0) (nm 1))) skip) (bN (aa (.int 0))))
def mu:List T->Option T:=cV tD 2
noncomputable def tK:bD:=
  (seq (asg 2 (af oMod (af dn (af b4 (af b4 (aS mu [(ao 0),(ao 1)]) (af dn (aa (.int 7919)) (nm 1))) (aa (.int 1))) (aa (.int 48271))) (aa (.int 2147483647)))) (bN (af oMod (af b4 (af b4 (af dn (nm 2) (nm 2)) (af dn (aa (.int 7)) (nm 2))) (nm 1)) (aa (.int 2147483629)))))
def kg:List T->Option T:=cV tK 3
noncomputable def tL:bD:=
  (seq (asg 2 (af oMod (af dn (af b4 (af b4 (nm 0) (af dn (aa (.int 104729)) (nm 1))) (aa (.int 17))) (aa (.int 69621))) (aa (.int 2147483647)))) (bN (af oMod (af b4 (af b4 (af dn (nm 2) (nm 2)) (af dn (aa (.int 3)) (nm 2))) (nm 1)) (aa (.int 2147483629)))))
def kh:List T->Option T:=cV tL 3
noncomputable def aiB:bD:=
  (seq (asg 1 (bk [])) (seq (eT (oz (kk (bk [(aa (.str "a")),(aa (.str "b")),(aa (.str "back")),(aa (.str "d")),(aa (.str "hall")),(aa (.str "r")),(aa (.str "win")),(aa (.str "z"))]))) (dV [(bA 2),(bA 3)]) (seq (asg 4 (af oDiv (aS kh [(ao 0),(ao 2)]) (aa (.int 4)))) (iff (eI (aZ (af oLt (af oMod (nm 4) (aa (.int 8))) (af b4 (aa (.int 3)) (af oMod (nm 0) (aa (.int 5)))))) (aZ (af oEq (nm 2) (af oMod (af oDiv (nm 0) (aa (.int 8))) (aa (.int 8)))))) (asg 1 (af b4 (nm 1) (bk [(bk [(ao 3),(af aP (bk [(aa (.str "day")),(aa (.str "inner")),(aa (.str "once")),(aa (.str "way")),(aa (.str "way"))]) (af oMod (af oDiv (nm 4) (aa (.int 8))) (aa (.int 5))))])]))) skip))) (seq (asg 5 (bk [])) (seq (eT (oz (kk (bk [(aa (.str "0000")),(aa (.str "1234")),(aa (.str "4321")),(aa (.str "7777")),(aa (.str "9990")),(aa (.str "9999"))]))) (dV [(bA 2),(bA 6)]) (seq (asg 4 (af oDiv (aS kh [(ao 0),(af b4 (aa (.int 10)) (nm 2))]) (aa (.int 4)))) (iff (eI (aZ (af oY (af oMod (nm 4) (aa (.int 3))) (aa (.int 0)))) (aZ (af oEq (nm 2) (aa (.int 1))))) (seq (asg 7 (aS gq [(comp 1 [4] (kj (aa (.int 3))) (bA 0) (aZ (af oY (af oMod (af oDiv (nm 1) (af aP (bk [(aa (.int 4)),(aa (.int 16)),(aa (.int 64))]) (nm 0))) (aa (.int 4))) (aa (.int 0)))) (af aP (bk [(aa (.str "set")),(aa (.str "shunt")),(aa (.str "unset"))]) (nm 0)))])) (seq (asg 8 (af aP (bk [(aa (.str "ann")),(aa (.str "bo")),(aa (.str "cy"))]) (af oMod (af oDiv (nm 4) (aa (.int 256))) (aa (.int 3))))) (asg 5 (af b4 (nm 5) (bk [(bk [(ao 6),(ao 8),(ao 7),(af aP (bk [(aa (.int 0)),(aa (.int 0)),(aa (.int 1)),(aa (.int 2)),(aa (.int 9))]) (af oMod (af oDiv (nm 4) (aa (.int 1024))) (aa (.int 5))))])]))))) skip))) (seq (asg 4 (af oDiv (aS kh [(ao 0),(aa (.int 20))]) (aa (.int 4)))) (seq (asg 9 (bk [(af aP (bk [(aa (.int 0)),(aa (.int 5)),(aa (.int 30)),(aa (.int 60))]) (af oMod (nm 4) (aa (.int 4)))),(af aP (bk [(aa (.int 0)),(aa (.int 4)),(aa (.int 20)),(aa (.int 60))]) (af oMod (af oDiv (nm 4) (aa (.int 4))) (aa (.int 4)))),(af aP (bk [(aa (.int 1)),(aa (.int 9)),(aa (.int 120)),(aa (.int 300))]) (af oMod (af oDiv (nm 4) (aa (.int 16))) (aa (.int 4))))])) (bN (bk [(ao 1),(ao 5),(ao 9)]))))))))
def aiy:List T->Option T:=cV aiB 10
noncomputable def Rd:bD:=
  (seq (asg 2 (af aP (af aP (af aP (nm 0) (aa (.int 0))) (af oMod (af oDiv (nm 1) (aa (.int 8))) (aS fL [(af aP (nm 0) (aa (.int 0)))]))) (aa (.int 0)))) (seq (asg 3 (af oMod (nm 1) (aa (.int 10)))) (seq (iff (aZ (af oLt (nm 3) (aa (.int 5)))) (bN (bk [(aa (.str "line")),(ao 2),(af aP (bk [(aa (.str "shut")),(aa (.str "open")),(aa (.str "open")),(aa (.str "cut"))]) (af oMod (af oDiv (nm 1) (aa (.int 512))) (aa (.int 4))))])) skip) (seq (iff (aZ (af oLt (nm 3) (aa (.int 7)))) (bN (bk [(aa (.str "ticks")),(af b4 (aa (.int 1)) (af oMod (af oDiv (nm 1) (aa (.int 64))) (af aP (bk [(aa (.int 3)),(aa (.int 40)),(aa (.int 200))]) (af oMod (af oDiv (nm 1) (aa (.int 4096))) (aa (.int 3))))))])) skip) (seq (asg 4 (af aP (af aP (af aP (nm 0) (aa (.int 1))) (af oMod (af oDiv (nm 1) (aa (.int 64))) (aS fL [(af aP (nm 0) (aa (.int 1)))]))) (aa (.int 0)))) (seq (iff (aZ (af oEq (af oMod (af oDiv (nm 1) (aa (.int 65536))) (aa (.int 4))) (aa (.int 0)))) (asg 4 (af aP (bk [(aa (.str "0001")),(aa (.str "1111")),(aa (.str "9999")),(aa (.str "0000"))]) (af oMod (af oDiv (nm 1) (aa (.int 512))) (aa (.int 4))))) skip) (seq (asg 5 (af aP (bk [(aa (.str "set")),(aa (.str "set")),(aa (.str "unset")),(aa (.str "shunt")),(aa (.str "free")),(aa (.str "shunt"))]) (af oMod (af oDiv (nm 1) (aa (.int 4096))) (aa (.int 6))))) (seq (iff (aZ (af (eB false) (nm 5) (bk [(aa (.str "set")),(aa (.str "unset"))]))) (bN (bk [(aa (.str "code")),(ao 4),(ao 5),(aa .none)])) skip) (bN (bk [(aa (.str "code")),(ao 4),(ao 5),(ao 2)]))))))))))
def ya:List T->Option T:=cV Rd 6
noncomputable def ajD:bD:=
  (seq (asg 3 (aS gq [(comp 1 [0,1] (kj (af oMod (nm 1) (af b4 (nm 2) (aa (.int 1))))) (bA 0) (di true) (aS ya [(ao 1),(af oDiv (aS kh [(ao 2),(af b4 (aa (.int 30)) (nm 0))]) (aa (.int 4)))]))])) (seq (iff (dy (aZ (af oEq (af oMod (af oDiv (nm 1) (aa (.int 64))) (aa (.int 5))) (aa (.int 0)))) (aZ (af oY (aS fL [(nm 3)]) (aa (.int 2))))) (asg 3 (af b4 (slice (nm 3) optN (opt (cn jg (aa (.int 3))))) (af _J (bk [(bk [(aa (.str "code")),(aa (.str "5555")),(aa (.str "unset")),(aa .none)])]) (aa (.int 3))))) skip) (bN (nm 3))))
def ajz:List T->Option T:=cV ajD 4
end b5
end
section
namespace oF
open D b5
noncomputable def vq:bD:=
  (seq (iff (aZ (af oEq (af aP (nm 0) (aa (.int 0))) (nm 1))) (bN (af aP (nm 0) (aa (.int 1)))) skip) (seq (iff (aZ (af oEq (af aP (nm 0) (aa (.int 1))) (nm 1))) (bN (af aP (nm 0) (aa (.int 0)))) skip) (bN (aa .none))))
def jK:List T->Option T:=cV vq 2
noncomputable def vl(rec:List T->Option T):bD:=
  (seq (iff (aZ (af oEq (af aP (nm 2) (cn jg (aa (.int 1)))) (nm 1))) (bN (dD [(bk [])])) skip) (seq (e_ 3 (dD [])) (seq (eT (oz (kk (af aP (nm 0) (aa (.int 1))))) (dV [(bA 4),(bA 5)]) (seq (asg 6 (aS jK [(ao 5),(af aP (nm 2) (cn jg (aa (.int 1))))])) (iff (dy (aZ (cn dx (nm 6))) (aZ (af (eB true) (nm 6) (nm 2)))) (ext 3 (comp 1 [4] (cQ (aS rec [(ao 0),(ao 1),(af b4 (nm 2) (bk [(ao 6)]))])) (bA 0) (di true) (af b4 (bk [(ao 1)]) (nm 0)))) skip))) (bN (nm 3)))))
noncomputable def mw:Nat->List T->Option T
|0=>λ_=>none
|n+1=>cV (vl (mw n)) 7
noncomputable def yz:bD:=
  (bN (aS gq [(aS (mw 20) [(ao 0),(ao 1),(bk [(aa (.int 0))])])]))
def i0:List T->Option T:=cV yz 2
noncomputable def KC:bD:=
  (seq (asg 2 (af aP (nm 0) (aa (.int 2)))) (seq (iff (aZ (cn e3 (nm 2))) (bN (bk [(bk [(aa (.str "ticks")),(aa (.int 1))]),(bk [(aa (.str "ticks")),(ao 1)])])) skip) (bN (bk [(bk [(aa (.str "line")),(ao 2),(aa (.str "open"))]),(bk [(aa (.str "ticks")),(aa (.int 1))]),(bk [(aa (.str "line")),(ao 2),(aa (.str "shut"))]),(bk [(aa (.str "ticks")),(ao 1)])]))))
def nt:List T->Option T:=cV KC 3
noncomputable def KA:bD:=
  (seq (e_ 3 (dD [])) (seq (eT (cQ (ao 1)) (bA 4) (uo 3 (aS nt [(af aP (af aP (nm 0) (aa (.int 1))) (nm 4)),(ao 2)]))) (bN (aS gq [(nm 3)]))))
def qs:List T->Option T:=cV KA 5
noncomputable def JM:bD:=
  (bN (af (eB false) (aa (.str "alarm")) (comp 3 [] (cQ (ao 0)) (dV [(bA 0),(bA 1),(bA 2)]) (di true) (ao 1))))
def tC:List T->Option T:=cV JM 1
noncomputable def KD:bD:=
  (seq (asg 5 (ao 2)) (seq (eT (vx (kk (ao 3))) (dV [(bA 6),(bA 7)]) (seq (asg 8 (aS nt [(af aP (af aP (nm 1) (aa (.int 1))) (nm 7)),(ao 4)])) (seq (iff (aZ (aS tC [(aS rF [(ao 0),(ao 5),(ao 8)])])) (bN (nm 6)) skip) (asg 5 (aS qw [(ao 0),(ao 5),(ao 8)]))))) (bN (aa .none))))
def jJ:List T->Option T:=cV KD 9
noncomputable def ye:bD:=
  (seq (asg 1 (af b4 (aa (.int 1)) (af oMod (nm 0) (aa (.int 7))))) (seq (asg 2 (bk [])) (seq (eT (kj (af oMod (af oDiv (nm 0) (aa (.int 8))) (aa (.int 11)))) (bA 3) (seq (asg 4 (af oDiv (aS kh [(ao 0),(af b4 (aa (.int 50)) (nm 3))]) (aa (.int 4)))) (seq (asg 5 (af oMod (nm 4) (af b4 (nm 1) (aa (.int 1))))) (seq (asg 6 (af oMod (af b4 (af b4 (nm 5) (aa (.int 1))) (af oMod (af oDiv (nm 4) (aa (.int 8))) (nm 1))) (af b4 (nm 1) (aa (.int 1))))) (seq (asg 7 (af aP (bk [(aa .none),(aa .none),(aa (.str "a")),(aa (.str "b")),(aa (.str "back")),(aa (.str "hall")),(aa (.str "win"))]) (af oMod (af oDiv (nm 4) (aa (.int 64))) (aa (.int 7))))) (asg 2 (af b4 (nm 2) (bk [(bk [(aS n5 [(nm 5),(nm 6)]),(aS m2 [(nm 5),(nm 6)]),(ao 7)])])))))))) (bN (bk [(ao 1),(ao 2)])))))
def pU:List T->Option T:=cV ye 8
noncomputable def afj:bD:=
  (seq (hp (dV [(bA 2),(bA 3)]) (aS pU [(ao 1)])) (seq (asg 4 (comp 1 [] (cQ (af aP (nm 0) (aa (.int 0)))) (bA 0) (di true) (af aP (nm 0) (aa (.int 0))))) (seq (asg 5 (bk [])) (seq (eT (cQ (ao 3)) (dV [(bA 6),(bA 7),(bA 8)]) (asg 5 (af b4 (nm 5) (bk [(bk [(ao 6),(ao 7),(af aP (bk [(ao 8),(aa .none)]) (aS w8 [(af (eB true) (nm 8) (nm 4))]))])])))) (bN (bk [(ao 2),(ao 5)]))))))
def afd:List T->Option T:=cV afj 9
noncomputable def yH:bD:=
  (seq (asg 1 (aS aiy [(aS kg [(ao 0),(aa (.int 0))])])) (seq (asg 2 (aS afd [(ao 1),(aS kg [(ao 0),(aa (.int 1))])])) (seq (asg 3 (aS kg [(ao 0),(aa (.int 2))])) (seq (asg 4 (aS qw [(ao 1),(aS rG [(ao 1)]),(aS ajz [(ao 1),(ao 3),(aa (.int 8))])])) (seq (asg 5 (af b4 (aa (.int 1)) (af oMod (af oDiv (nm 3) (aa (.int 512))) (aa (.int 20))))) (seq (eT (cQ (slice (aS i0 [(ao 2),(af b4 (aa (.int 1)) (af oMod (af oDiv (nm 3) (aa (.int 64))) (af aP (nm 2) (aa (.int 0)))))]) optN (opt (aa (.int 8))))) (bA 6) (seq (asg 7 (aS jJ [(ao 1),(ao 2),(ao 4),(ao 6),(ao 5)])) (seq (asg 8 (comp 1 [] (cQ (aS rF [(ao 1),(ao 4),(aS qs [(ao 2),(ao 6),(ao 5)])])) (bA 0) (aZ (af oEq (af aP (nm 0) (aa (.int 1))) (aa (.str "alarm")))) (ao 0))) (seq (iff (aZ (af fa (cn e3 (nm 7)) (af oEq (nm 8) (dD [])))) (bN (aa (.bool false))) skip) (seq (eT (kj (af b4 (aS fL [(nm 6)]) (aa (.int 1)))) (bA 9) (seq (asg 10 (ao 7)) (seq (iff (dy (aZ (cn dx (nm 7))) (aZ (af oLt (nm 9) (nm 7)))) (asg 10 (aa .none)) skip) (iff (aZ (af fa (aS jJ [(ao 1),(ao 2),(ao 4),(slice (nm 6) optN (opt (nm 9))),(ao 5)]) (nm 10))) (bN (aa (.bool false))) skip)))) (iff (dy (aZ (cn dx (nm 7))) (ft (aZ (chain oLe oLe (aa (.int 1)) (nm 7) (aS fL [(nm 6)]))))) (bN (aa (.bool false))) skip)))))) (bN (aa (.bool true)))))))))
def tZ:List T->Option T:=cV yH 11
end oF
end
section
namespace t_
open D b5 oF
noncomputable def qn:bD:=
  (seq (asg 2 (aS i0 [(ao 0),(ao 1)])) (seq (iff (ft (e6 (nm 2))) never skip) (bN (nm 2))))
def rx:List T->Option T:=cV qn 3
noncomputable def agy:bD:=
  (bN (oW (aZ (cn e3 (nm 0))) (bk [(aa (.int 1)),(aa (.int 0))]) (bk [(aa (.int 0)),(ao 0)])))
def x4:List T->Option T:=cV agy 1
noncomputable def Cn:bD:=
  (bN (CR (aS rx [(ao 1),(ao 3)]) (aS x4 [(aS jJ [(ao 1),(ao 2),(ao 3),(ao 0),(ao 5)])])))
def Ck:List T->Option T:=cV Cn 5
end t_
end
section
namespace nF
open D b5 oF t_
noncomputable def yj:bD:=
  (seq (asg 2 (comp 1 [1] (cQ (af aP (nm 0) (aa (.int 1)))) (bA 0) (eI (aZ (cn e3 (af aP (nm 0) (aa (.int 2))))) (aZ (af (eB false) (af aP (nm 0) (aa (.int 2))) (nm 1)))) (ao 0))) (seq (we 3 (aa (.int 0)) (aa (.bool true))) (seq (e_ 4 (dD [(aa (.int 0))])) (seq (og (e6 (nm 4)) (seq (pop 5 4) (eT (cQ (ao 2)) (bA 6) (seq (asg 7 (aS jK [(ao 6),(ao 5)])) (iff (dy (aZ (cn dx (nm 7))) (aZ (pT true (nm 7) 3))) (seq (sh 3 (nm 7) (aa (.bool true))) (app 4 (ao 7))) skip)))) 1000) (bN (aS gq [(vz 3)]))))))
def oK:List T->Option T:=cV yj 8
noncomputable def JL:bD:=
  (seq (asg 7 (af b4 (af Cv (nm 2) (af aP (nm 1) (aa (.int 0)))) (aa (.int 1)))) (seq (iff (eI (aZ (af fa (af vw (nm 0) (af aP (nm 1) (aa (.int 0)))) (aa (.str "way")))) (eI (aZ (af oEq (nm 3) (aa (.int 0)))) (aZ (af oLe (nm 3) (nm 4))))) (iff (aZ (af fa (nm 5) (nm 7))) (bN (aa (.bool false))) skip) skip) (seq (iff (aZ (cn e3 (nm 5))) (bN (aa (.bool true))) skip) (bN (nL (af m1 (nm 5) (nm 7)) (nL (cn dx (nm 6)) (af oLe (nm 6) (nm 5))))))))
def tB:List T->Option T:=cV JL 8
noncomputable def yH:bD:=
  (seq (asg 1 (aS pU [(aS kg [(ao 0),(aa (.int 0))])])) (seq (asg 2 (aS kg [(ao 0),(aa (.int 1))])) (seq (asg 3 (aS gq [(comp 1 [2] (kj (aa (.int 5))) (bA 0) (di true) (af aP (bk [(aa (.str "once")),(aa (.str "way")),(aa (.str "inner")),(aa (.str "way"))]) (af oMod (af oDiv (nm 1) (af aP (bk [(aa (.int 8)),(aa (.int 32)),(aa (.int 128)),(aa (.int 512)),(aa (.int 2048))]) (nm 0))) (aa (.int 4)))))])) (seq (asg 4 (af aP (bk [(aa (.int 0)),(aa (.int 6)),(aa (.int 40))]) (af oMod (nm 2) (aa (.int 3))))) (seq (asg 5 (af Cu (bk [(aa (.str "a")),(aa (.str "b")),(aa (.str "back")),(aa (.str "hall")),(aa (.str "win"))]) (nm 3))) (seq (asg 6 (bk [(ao 5),(bk [(bk [(aa (.str "5555")),(aa (.str "me")),(bk [(aa (.str "set")),(aa (.str "shunt")),(aa (.str "unset"))]),(aa (.int 0))])]),(bk [(aa (.int 0)),(ao 4),(aa (.int 30))])])) (seq (asg 7 (comp 2 [2] (oz (kk (ao 5))) (dV [(bA 0),(bA 1)]) (aZ (af oEq (af oMod (af oDiv (nm 2) (af aP (bk [(aa (.int 16384)),(aa (.int 65536)),(aa (.int 262144)),(aa (.int 1048576)),(aa (.int 4194304))]) (nm 0))) (aa (.int 4))) (aa (.int 0)))) (af aP (nm 1) (aa (.int 0))))) (seq (asg 8 (af b4 (aS gq [(comp 1 [] (cQ (ao 7)) (bA 0) (di true) (bk [(aa (.str "code")),(aa (.str "5555")),(aa (.str "shunt")),(ao 0)]))]) (bk [(bk [(aa (.str "code")),(aa (.str "5555")),(aa (.str "set")),(aa .none)])]))) (seq (asg 9 (aS qw [(ao 6),(aS rG [(ao 6)]),(ao 8)])) (seq (iff (eI (aZ (af fa (af aP (nm 9) (aa (.int 0))) (aa (.str "on")))) (aZ (af fa (aS tY [(af aP (nm 9) (aa (.int 4)))]) (nm 7)))) (bN (aa (.bool false))) skip) (seq (asg 10 (af b4 (aa (.int 1)) (af oMod (aS kg [(ao 0),(aa (.int 2))]) (af aP (nm 1) (aa (.int 0)))))) (seq (asg 11 (af b4 (aa (.int 1)) (af oMod (af oDiv (aS kg [(ao 0),(aa (.int 2))]) (aa (.int 8))) (aa (.int 30))))) (seq (e_ 12 (dD [])) (seq (eT (cQ (aS i0 [(ao 1),(ao 10)])) (bA 13) (seq (asg 14 (comp 1 [1] (cQ (ao 13)) (bA 0) (di true) (af aP (af aP (af aP (nm 1) (aa (.int 1))) (nm 0)) (aa (.int 2))))) (seq (asg 15 (comp 1 [7] (cQ (ao 14)) (bA 0) (dy (aZ (cn dx (nm 0))) (aZ (af (eB true) (nm 0) (nm 1)))) (ao 0))) (seq (asg 16 (aS jJ [(ao 6),(ao 1),(ao 9),(ao 13),(ao 11)])) (seq (iff (aZ (cn dx (aS jJ [(ao 6),(ao 1),(aS rG [(ao 6)]),(ao 13),(ao 11)]))) (bN (aa (.bool false))) skip) (seq (iff (dy (aZ (af oEq (nm 15) (dD []))) (aZ (cn dx (nm 16)))) (bN (aa (.bool false))) skip) (seq (asg 17 (aS jJ [(ao 6),(ao 1),(ao 9),(ao 13),(af b4 (nm 11) (aa (.int 9)))])) (seq (iff (dy (aZ (af fa (nm 15) (dD []))) (ft (aZ (aS tB [(ao 5),(ao 15),(ao 14),(ao 4),(ao 11),(ao 16),(ao 17)])))) (bN (aa (.bool false))) skip) (seq (iff (aZ (cn e3 (nm 16))) (app 12 (ao 13)) skip) (iff (aZ (af fa (aS fL [(aS qs [(ao 1),(ao 13),(ao 11)])]) (af b4 (af dn (aa (.int 2)) (aS fL [(nm 13)])) (af dn (aa (.int 2)) (aS fL [(comp 1 [] (cQ (ao 14)) (bA 0) (aZ (cn dx (nm 0))) (ao 0))]))))) (bN (aa (.bool false))) skip)))))))))) (seq (iff (aZ (af (eB false) (nm 10) (aS oK [(ao 1),(aS gq [(nm 7)])]))) (iff (eI (aZ (af oEq (nm 12) (dD []))) (aZ (af fa (aS Ck [(ao 6),(ao 1),(ao 9),(ao 10),(ao 11)]) (af aP (nm 12) (aa (.int 0)))))) (bN (aa (.bool false))) skip) skip) (bN (aa (.bool true))))))))))))))))))
def tZ:List T->Option T:=cV yH 18
end nF
end
section
namespace nF
open PySem PySem.Spec PyProof.Rows bG D b5 oF t_
variable [cG]
noncomputable def top(i:Nat):Stmt:=PySem.Challenge.pw_doorwatch_k31_whole_one_who_comes_in.main.body.getD i (.Pass ⟨0,0,0,0⟩)
section
variable {P:cE}{w:b8}{K:br}{mg:Str->Option ag}{base:bI}{bE:ak}{k:Nat}{f:ak}{fd:gi}
def ad0{α:Type}{us:List α}(h:us.length=1):∃a,us=[a]:=match us,h with|[a],_=>⟨_,rfl⟩
def ad1{α:Type}{us:List α}(h:us.length=2):∃a b,us=[a,b]:=match us,h with|[a,b],_=>⟨_,_,rfl⟩
def ad2{α:Type}{us:List α}(h:us.length=3):∃a b c,us=[a,b,c]:=match us,h with|[a,b,c],_=>⟨_,_,_,rfl⟩
def ad3{α:Type}{us:List α}(h:us.length=4):∃a b c d,us=[a,b,c,d]:=match us,h with|[a,b,c,d],_=>⟨_,_,_,_,rfl⟩
def ad4{α:Type}{us:List α}(h:us.length=5):∃a b c d e,us=[a,b,c,d,e]:=match us,h with|[a,b,c,d,e],_=>⟨_,_,_,_,_,rfl⟩
def ad5{α:Type}{us:List α}(h:us.length=7):∃a b c d e g i,us=[a,b,c,d,e,g,i]:=match us,h with|[a,b,c,d,e,g,i],_=>⟨_,_,_,_,_,_,_,rfl⟩
set_option hygiene false in
local macro_rules | `(unop% b1 $F) => `(cW.binds $F λ_ _ _ _ _ _ us av => by obtain ⟨_, rfl⟩ := ad0 av; rfl)
set_option hygiene false in
local macro_rules | `(unop% b2 $F) => `(cW.binds $F λ_ _ _ _ _ _ us av => by obtain ⟨_, _, rfl⟩ := ad1 av; rfl)
set_option hygiene false in
local macro_rules | `(unop% gB $F) => `(cW.binds $F λ_ _ _ _ _ _ us av => by obtain ⟨_, _, _, rfl⟩ := ad2 av; rfl)
set_option hygiene false in
local macro_rules | `(unop% l3 $F) => `(cW.binds $F λ_ _ _ _ _ _ us av => by obtain ⟨_, _, _, _, rfl⟩ := ad3 av; rfl)
set_option hygiene false in
local macro_rules | `(unop% pQ $F) => `(cW.binds $F λ_ _ _ _ _ _ us av => by obtain ⟨_, _, _, _, _, rfl⟩ := ad4 av; rfl)
set_option hygiene false in
local macro_rules | `(unop% amt $F) => `(cW.binds $F λ_ _ _ _ _ _ us av => by obtain ⟨_, _, _, _, _, _, _, rfl⟩ := ad5 av; rfl)
local macro_rules | `(unop% dK 0) => `(⟨rfl, rfl, rfl, by decide +kernel, rfl, by decide +kernel, by decide +kernel⟩)
set_option hygiene false in
local macro_rules | `(unop% gJ 0) => `(g4 K 0 bE ["plan", "mode", "left", "came", "lines", "shunts", "siren", "alarms", "tries", "locked", "used", "past", "told"])
set_option hygiene false in
local macro_rules | `(unop% lm $t) => `(λcX A outer s H E au => $t)
local macro_rules | `(unop% ed $t) => `(λ_ _ _ _ _ _ => $t)
local macro_rules | `(unop% aW $l) => `(show List.Nodup ($l : List Str) by decide +kernel)
local macro_rules | `(binop% co $s $l) => `(akz (sc := cb $s) $l rfl rfl rfl (by decide +kernel))
set_option hygiene false in
local macro_rules | `(binop% gv $a $b) => `(iU (Lc (by exact au.units)) Le $a $b)
set_option hygiene false in
local macro_rules | `(binop% lF $a $b) => `(iU (SV (by exact au.units)) SW $a $b)
abbrev BW:Stmt:=top 38
def Qc:c' ["_law_number","_law_k","_law_drawn_here"] ["_law_number","_law_k"] (cb BW):=unop%dK 0
def Kf(F:cW K "_law_drawn" "_law_drawn" BW f fd)(m:mg "_law_drawn"=some (.ref f)) :Cl P w K mg base "_law_drawn" (k+1) 2 kh:=
 ix F Qc (unop%b2 F) m unop%lm
  (bF (ek 2 Qc.aW (lj (aJ (pA (aJ (hu (aJ (hu (a3 0) (aJ (pA (aJ bl) (a3 1))))) (aJ bl))) (aJ bl))) (aJ bl))) (bP (eg (lj (aJ (hu (aJ (hu (aJ (pA (a3 2) (a3 2))) (aJ (pA (aJ bl) (a3 2))))) (a3 1))) (aJ bl)))))
abbrev BV:Stmt:=top 39
def qo:c' ["_law_number","_law_rooms","_law_openings","_law_k","_law_drawn_here","_law_one","_law_other","_law_zone"] ["_law_number"] (cb BV):=unop%dK 0
def Ke(F:cW K "_law_house" "_law_house" BV f fd)(m:mg "_law_house"=some (.ref f))(al7:mg "range"=none)(Kf:Cl P w K mg base "_law_drawn" k 2 kh)(tQ:mg "min"=none)(my:mg "max"=none):Cl P w K mg base "_law_house" (k+1) 1 pU:=
 ix F qo (unop%b1 F) m unop%lm
  (bF (ek 1 qo.aW (hu (aJ bl) (aJ (lj (a3 0) (aJ bl))))) (bF (ek 2 qo.aW (eD bL)) (bF (pz oj (S8 al7 (aJ (lj (aJ (tW (a3 0) (aJ bl))) (aJ bl)))) (fY 3 qo.aW) (bF (ek 4 qo.aW (tW (aJ (e8 Kf au (aI (bh 0) (aI (hu (aJ bl) (a3 3)) bL)))) (aJ bl))) (bF (ek 5 qo.aW (lj (a3 4) (aJ (hu (a3 1) (aJ bl))))) (bF (ek 6 qo.aW (lj (aJ (hu (aJ (hu (a3 5) (aJ bl))) (aJ (lj (aJ (tW (a3 4) (aJ bl))) (a3 1))))) (aJ (hu (a3 1) (aJ bl))))) (bF (ek 7 qo.aW (cC (aJ (eD (aI lX (aI lX (aI cz (aI cz (aI cz (aI cz (aI cz bL))))))))) (aJ (lj (aJ (tW (a3 4) (aJ bl))) (aJ bl))))) (bP (ek 2 qo.aW (hu (a3 2) (aJ (eD (aI (eD (aI (akZ tQ (hL (a3 5) (hL (a3 6) iT))) (aI (Tr my (hL (a3 5) (hL (a3 6) iT))) (aI (bh 7) bL)))) bL))))))))))) (bP (eg (eD (aI (bh 1) (aI (bh 2) bL))))))))
abbrev BH:Stmt:=top 36
def aeW:c' ["_law_script","_law_k"] ["_law_script","_law_k"] (cb BH):=unop%dK 0
def JJ(F:cW K "_law_cell_at" "_law_cell_at" BH f fd)(m:mg "_law_cell_at"=some (.ref f))(nv:mg "len"=none):Cl P w K mg base "_law_cell_at" (k+1) 2 mu:=
 ix F aeW (unop%b2 F) m unop%lm
  (bF (dC (iU (Tt.or QO) SX (a3 1) (aJ (CP (by exact nv) (hL (a3 0) iT)))) (bP (eg (cC (a3 0) (a3 1)))) eX) (bP (eg bl)))
abbrev BU:Stmt:=top 37
def Qb:c' ["_law_script","_law_k","_law_drawn_here"] ["_law_script","_law_k"] (cb BU):=unop%dK 0
def vk(F:cW K "_law_mixed" "_law_mixed" BU f fd)(m:mg "_law_mixed"=some (.ref f))(JJ:Cl P w K mg base "_law_cell_at" k 2 mu):Cl P w K mg base "_law_mixed" (k+1) 2 kg:=
 ix F Qb (unop%b2 F) m unop%lm
  (bF (ek 2 Qb.aW (lj (aJ (pA (aJ (hu (aJ (hu (aJ (e8 JJ au (aI (bh 0) (aI (bh 1) bL)))) (aJ (pA (aJ bl) (a3 1))))) (aJ bl))) (aJ bl))) (aJ bl))) (bP (eg (lj (aJ (hu (aJ (hu (aJ (pA (a3 2) (a3 2))) (aJ (pA (aJ bl) (a3 2))))) (a3 1))) (aJ bl)))))
abbrev Bw:Stmt:=inClass (top 14) 1
def xT:c' ["self","lines","shunts","alarms","used"] ["self"] (cb Bw):=unop%dK 0
def Jp(F:cW K "state" "Course.state" Bw f fd)(m:Meth K bE "state" f)(al2:unop%gJ 0)(fO:mg "tuple"=none):jT P w K mg base bE "state" (k+1) 1 xU:=
 yx F xT (unop%b1 F) m unop%lm
  (bF (ek 1 xT.aW (R8 (j:=4) al2 rfl fO (bB 0))) (bF (ek 2 xT.aW (ov fO (hL (hM (j:=5) al2 (bB 0)) iT))) (bF (ek 3 xT.aW (ov fO (hL (hM (j:=7) al2 (bB 0)) iT))) (bF (ek 4 xT.aW (R8 (j:=10) al2 rfl fO (bB 0))) (bP (eg (eD (aI (lb (j:=1) al2 (bB 0)) (aI (lb (j:=2) al2 (bB 0)) (aI (lb (j:=3) al2 (bB 0)) (aI (bh 1) (aI (bh 2) (aI (lb (j:=6) al2 (bB 0)) (aI (bh 3) (aI (lb (j:=8) al2 (bB 0)) (aI (lb (j:=9) al2 (bB 0)) (aI (bh 4) bL)))))))))))))))))
abbrev vc:Stmt:=inClass (top 14) 0
def aeo:c' ["self","plan","state"] ["self","plan","state"] (cb vc):=unop%dK 0
def aet(F:cW K "__init__" "Course.__init__" vc f fd)(fZ:vT K bE f)(m:mg "Course"=some (.ref bE))(al2:unop%gJ 0)(oC:mg "dict"=none)(al5:mg "list"=none)(oE:mg "zip"=none):rU P w K mg base "Course" bE 0 (k+1) 3 xO:=
 akn F aeo (unop%gB F) fZ m unop%lm
  (bF (gp (j:=0) al2 (bB 0) (bh 1)) (bF (gp (j:=1) al2 (bB 0) (cC (a3 2) (aJ bl))) (bF (gp (j:=2) al2 (bB 0) (cC (a3 2) (aJ bl))) (bF (gp (j:=3) al2 (bB 0) (cC (a3 2) (aJ bl))) (bF (R3 (j:=4) al2 rfl oC oE (bB 0) (aJ (ow (own:=["zone"]) (caps:=[]) (binop%co vc ["self","plan","state"]) (iV (cC (a3 1) (aJ bl))) (unop%ed (fY 0 (unop%aW ["zone"]))) (unop%ed qy) (unop%ed (cC (a3 0) (aJ bl))))) (aJ (cC (a3 2) (aJ bl)))) (bF (vu (j:=5) al2 (bB 0) (R7 al5 (aJ (cC (a3 2) (aJ bl))))) (bF (gp (j:=6) al2 (bB 0) (cC (a3 2) (aJ bl))) (bF (vu (j:=7) al2 (bB 0) (R7 al5 (aJ (cC (a3 2) (aJ bl))))) (bF (gp (j:=8) al2 (bB 0) (cC (a3 2) (aJ bl))) (bF (gp (j:=9) al2 (bB 0) (cC (a3 2) (aJ bl))) (bF (R3 (j:=10) al2 rfl oC oE (bB 0) (aJ (ow (own:=["code"]) (caps:=[]) (binop%co vc ["self","plan","state"]) (iV (cC (a3 1) (aJ bl))) (unop%ed (fY 0 (unop%aW ["code"]))) (unop%ed qy) (unop%ed (cC (a3 0) (aJ bl))))) (aJ (cC (a3 2) (aJ bl)))) (bF (gp (j:=11) al2 (bB 0) bl) (bP (vu (j:=12) al2 (bB 0) (rM bL)))))))))))))))
abbrev Bz:Stmt:=inClass (top 14) 3
def aeD:c' ["self","word","name"] ["self","word","name"] (cb Bz):=unop%dK 0
def hj(F:cW K "tell" "Course.tell" Bz f fd)(m:Meth K bE "tell" f)(al2:unop%gJ 0):dg P w K mg base bE 0 "tell" (k+1) 3 gn:=
 jN F aeD (unop%gB F) m unop%lm
  (bP (SO (j:=12) al2 (bB 0) (eD (aI (lb (j:=11) al2 (bB 0)) (aI (bh 1) (aI (bh 2) bL))))))
abbrev BX:Stmt:=top 5
def Qd:c' ["plan","name","zone"] ["plan","name"] (cb BX):=unop%dK 0
def yd(F:cW K "kind_of" "kind_of" BX f fd)(m:mg "kind_of"=some (.ref f)) :Cl P w K mg base "kind_of" (k+1) 2 tJ:=
 ix F Qd (unop%b2 F) m unop%lm
  (bF (pz oj (iV (cC (a3 0) (aJ bl))) (fY 2 Qd.aW) (bP (dC (binop%gv (aJ (cC (a3 2) (aJ bl))) (a3 1)) (bP (eg (cC (a3 2) (aJ bl)))) eX))) (bP R2))
abbrev Bq:Stmt:=inClass (top 14) 4
def aer:c' ["self"] ["self"] (cb Bq):=unop%dK 0
def xQ(F:cW K "be_loud" "Course.be_loud" Bq f fd)(m:Meth K bE "be_loud" f)(al2:unop%gJ 0):dg P w K mg base bE 0 "be_loud" (k+1) 1 tA:=
 jN F aer (unop%b1 F) m unop%lm
  (bP (gp (j:=6) al2 (bB 0) (cC (aJ (cC (hM (j:=0) al2 (bB 0)) (aJ bl))) (aJ bl))))
abbrev Bx:Stmt:=inClass (top 14) 5
def aew:c' ["self","zone"] ["self","zone"] (cb Bx):=unop%dK 0
def ph(F:cW K "alarm" "Course.alarm" Bx f fd)(m:Meth K bE "alarm" f)(al2:unop%gJ 0)(xQ:dg P w K mg base bE 0 "be_loud" k 1 tA)(hj:dg P w K mg base bE 0 "tell" k 3 gn):dg P w K mg base bE 0 "alarm" (k+1) 2 lV:=
 jN F aew (unop%b2 F) m unop%lm
  (bF (eW (tM al2 xQ au (bB 0))) (bP (dC (iU (tH (by exact au.units)) mx (a3 1) (hM (j:=7) al2 (bB 0))) (bF (SO (j:=7) al2 (bB 0) (bh 1)) (bP (eW (fS al2 hj au (bB 0) (aI cz (aI (bh 1) bL)))))) eX)))
abbrev Bp:Stmt:=inClass (top 14) 9
def aeq:c' ["self","zone","kind"] ["self","zone","kind"] (cb Bp):=unop%dK 0
def Jk(F:cW K "come_in" "Course.come_in" Bp f fd)(m:Meth K bE "come_in" f)(al2:unop%gJ 0)(hj:dg P w K mg base bE 0 "tell" k 3 gn)(ph:dg P w K mg base bE 0 "alarm" k 2 lV):dg P w K mg base bE 0 "come_in" (k+1) 3 amj:=
 jN F aeq (unop%gB F) m unop%lm
  (bF (dC (k6 (w_or (binop%lF (a3 2) (aJ cz)) (tU (iU (yC.or amy) yw (aJ (cC (aJ (cC (hM (j:=0) al2 (bB 0)) (aJ bl))) (aJ bl))) (aJ bl))))) (bF (eW (fS al2 ph au (bB 0) (aI (bh 1) bL))) (bP KL)) eX) (bF (gp (j:=1) al2 (bB 0) cz) (bF (gp (j:=2) al2 (bB 0) (cC (aJ (cC (hM (j:=0) al2 (bB 0)) (aJ bl))) (aJ bl))) (bF (gp (j:=3) al2 (bB 0) (bh 1)) (bP (eW (fS al2 hj au (bB 0) (aI cz (aI (bh 1) bL)))))))))
abbrev Bo:Stmt:=inClass (top 14) 8
def Pa:c' ["self","zone","what","kind"] ["self","zone","what"] (cb Bo):=unop%dK 0
def Jj(F:cW K "disturb" "Course.disturb" Bo f fd)(m:Meth K bE "disturb" f)(al2:unop%gJ 0)(yd:Cl P w K mg base "kind_of" k 2 tJ)(ph:dg P w K mg base bE 0 "alarm" k 2 lV)(hj:dg P w K mg base bE 0 "tell" k 3 gn)(Jk:dg P w K mg base bE 0 "come_in" k 3 amj):dg P w K mg base bE 0 "disturb" (k+1) 3 xP:=
 jN F Pa (unop%gB F) m unop%lm
  (bF (ek 3 Pa.aW (e8 yd au (aI (lb (j:=0) al2 (bB 0)) (aI (bh 1) bL)))) (bP (dC (binop%gv (a3 3) (aJ cz)) (bP (eW (fS al2 ph au (bB 0) (aI (bh 1) bL)))) (bP (dC (binop%gv (hM (j:=1) al2 (bB 0)) (aJ cz)) (bP (dC (binop%gv (a3 2) (aJ cz)) (bP (eW (fS al2 hj au (bB 0) (aI cz (aI (bh 1) bL))))) eX)) (bP (dC (k6 (w_or (binop%gv (a3 2) (aJ cz)) (tU (binop%gv (a3 3) (aJ cz))))) (bP (eW (fS al2 ph au (bB 0) (aI (bh 1) bL)))) (bP (dC (binop%gv (hM (j:=1) al2 (bB 0)) (aJ cz)) (bP (eW (fS al2 Jk au (bB 0) (aI (bh 1) (aI (bh 3) bL))))) eX)))))))))
abbrev BA:Stmt:=inClass (top 14) 7
def Pk:c' ["self","zone","what","before"] ["self","zone","what"] (cb BA):=unop%dK 0
def Jv(F:cW K "line" "Course.line" BA f fd)(m:Meth K bE "line" f)(al2:unop%gJ 0)(hj:dg P w K mg base bE 0 "tell" k 3 gn)(Jj:dg P w K mg base bE 0 "disturb" k 3 xP):dg P w K mg base bE 0 "line" (k+1) 3 xW:=
 jN F Pk (unop%gB F) m unop%lm
  (bF (ek 3 Pk.aW (K9 (j:=4) al2 (rP au) (bB 0) (a3 1))) (bF (dC (binop%gv (a3 2) (a3 3)) (bP KL) eX) (bF (ajO (j:=4) al2 (rP au) (bB 0) (a3 1) (bh 2)) (bP (dC (binop%gv (a3 2) (aJ cz)) (bP (dC (binop%gv (a3 3) (aJ cz)) (bP (eW (fS al2 hj au (bB 0) (aI cz (aI (bh 1) bL))))) eX)) (bP (dC (iU (tH (by exact au.units)) mx (a3 1) (hM (j:=5) al2 (bB 0))) (bP (eW (fS al2 Jj au (bB 0) (aI (bh 1) (aI (bh 2) bL))))) eX)))))))
abbrev BY:Stmt:=top 12
def Qe:c' ["plan","figures","code"] ["plan","figures"] (cb BY):=unop%dK 0
def Kg(F:cW K "code_of" "code_of" BY f fd)(m:mg "code_of"=some (.ref f)) :Cl P w K mg base "code_of" (k+1) 2 yb:=
 ix F Qe (unop%b2 F) m unop%lm
  (bF (pz oj (iV (cC (a3 0) (aJ bl))) (fY 2 Qe.aW) (bP (dC (binop%gv (aJ (cC (a3 2) (aJ bl))) (a3 1)) (bP (CD 2)) eX))) (bP (eg lX)))
abbrev Bi:Stmt:=inClass (top 14) 16
def aeh:c' ["self","code"] ["self","code"] (cb Bi):=unop%dK 0
def I'(F:cW K "is_used_up" "Course.is_used_up" Bi f fd)(m:Meth K bE "is_used_up" f)(al2:unop%gJ 0):jT P w K mg base bE "is_used_up" (k+1) 2 vb:=
 yx F aeh (unop%b2 F) m unop%lm
  (bP (eg (CQ (qF (SV (by exact au.units)) SW (aJ (cC (a3 1) (aJ bl))) (aJ bl)) (K_ (qF (Lk.or J7) Ld (aJ (K9 (j:=10) al2 (rP au) (bB 0) (aJ (cC (a3 1) (aJ bl))))) (aJ (cC (a3 1) (aJ bl))))))))
abbrev Bg:Stmt:=inClass (top 14) 17
def aeg:c' ["self"] ["self"] (cb Bg):=unop%dK 0
def I9(F:cW K "take_wrong" "Course.take_wrong" Bg f fd)(m:Meth K bE "take_wrong" f)(al2:unop%gJ 0)(hj:dg P w K mg base bE 0 "tell" k 3 gn)(xQ:dg P w K mg base bE 0 "be_loud" k 1 tA){IT:Tok}(so:mg "WRONG_IN_A_ROW"=some (.int 3 IT)){IQ:Tok}(sm:mg "TICKS_LOCKED"=some (.int 90 IQ)):dg P w K mg base bE 0 "take_wrong" (k+1) 1 u':=
 jN F aeg (unop%b1 F) m unop%lm
  (bF (eW (fS al2 hj au (bB 0) (aI cz (aI lX bL)))) (bF (SN (j:=8) al2 (bB 0) bl) (bP (dC (iU (Lk.or J7) Ld (hM (j:=8) al2 (bB 0)) (aJ (sW so))) (bF (gp (j:=8) al2 (bB 0) bl) (bF (gp (j:=9) al2 (bB 0) (sW sm)) (bF (eW (tM al2 xQ au (bB 0))) (bP (eW (fS al2 hj au (bB 0) (aI cz (aI lX bL)))))))) eX))))
abbrev Be:Stmt:=inClass (top 14) 20
def aef:c' ["self","deed","zone"] ["self","deed","zone"] (cb Be):=unop%dK 0
def I7(F:cW K "is_untimely" "Course.is_untimely" Be f fd)(m:Meth K bE "is_untimely" f)(al2:unop%gJ 0)(yd:Cl P w K mg base "kind_of" k 2 tJ):jT P w K mg base bE "is_untimely" (k+1) 3 al6:=
 yx F aef (unop%gB F) m unop%lm
  (bF (dC (binop%gv (a3 1) (aJ cz)) (bP (eg me)) eX) (bF (dC (binop%lF (hM (j:=1) al2 (bB 0)) (aJ cz)) (bP (eg me)) eX) (bF (dC (binop%gv (a3 1) (aJ cz)) (bP (eg (aci (qF (Lc (by exact au.units)) Le (aJ (e8 yd au (aI (lb (j:=0) al2 (bB 0)) (aI (bh 2) bL)))) (aJ cz)) (akX (qF (vE (by exact au.units)) mx (a3 2) (hM (j:=5) al2 (bB 0))))))) eX) (bP (eg (CQ (qF (Lc (by exact au.units)) Le (a3 1) (aJ cz)) (K_ (qF (tH (by exact au.units)) mx (a3 2) (hM (j:=5) al2 (bB 0))))))))))
abbrev u_:Stmt:=inClass (top 14) 6
def O7:c' ["self","kinds","zones"] ["self","kinds"] (cb u_):=unop%dK 0
def xM(F:cW K "bare_zones" "Course.bare_zones" u_ f fd)(m:Meth K bE "bare_zones" f)(al2:unop%gJ 0):jT P w K mg base bE "bare_zones" (k+1) 2 ami:=
 yx F O7 (unop%b2 F) m unop%lm
  (bF (CF 2 O7.aW (own:=["zone"]) (caps:=[(1,"kinds")]) (binop%co u_ ["self","kinds","zones"]) (iV (cC (hM (j:=0) al2 (bB 0)) (aJ bl))) (unop%ed (fY 0 (unop%aW ["zone","kinds"]))) (unop%ed (vB (iU (vE (by exact au.units)) mx (aJ (cC (a3 0) (aJ bl))) (a3 1)))) (unop%ed (cC (a3 0) (aJ bl)))) (bP (eg (ow (own:=["zone"]) (caps:=[(0,"self")]) (binop%co u_ ["self","kinds","zones"]) (iV (bh 2)) (unop%ed (fY 0 (unop%aW ["zone","self"]))) (unop%ed (vB (k6 (w_and (binop%lF (aJ (K9 (j:=4) (by exact al2) (by exact rP au) (bB 1) (a3 0))) (aJ cz)) (rH (iU (tH (by exact au.units)) mx (a3 0) (hM (j:=5) (by exact al2) (bB 1)))))))) (unop%ed (bh 0))))))
abbrev Bd:Stmt:=inClass (top 14) 19
def I5:c' ["self","code","deed","zone","right","bare"] ["self","code","deed","zone"] (cb Bd):=unop%dK 0
def I6(F:cW K "what_is_against" "Course.what_is_against" Bd f fd)(m:Meth K bE "what_is_against" f)(al2:unop%gJ 0)(I7:jT P w K mg base bE "is_untimely" k 3 al6)(xM:jT P w K mg base bE "bare_zones" k 2 ami){uc:ak}(_r:mg "KINDS_SHUT_TO_SET"=some (.ref uc))(adQ:∃(o:Obj) (its:Array ag) (n:Nat),K.lookup uc=some o/\o.cls=.type "tuple"/\o.data=.seq its n/\its.size<=cB/\Vals ((["day","once"]:List Str).map V.str) its.toList/\o.dict=none):jT P w K mg base bE "what_is_against" (k+1) 4 xH:=
 yx F I5 (unop%l3 F) m unop%lm
  (bF (ek 4 I5.aW (Ts (binop%gv (a3 2) (aJ cz)) cz (bh 2))) (bF (dC (iU (tH (by exact au.units)) mx (a3 4) (aJ (cC (a3 1) (aJ bl)))) (bP (eg (eD (aI cz (aI (cC (a3 1) (aJ bl)) bL))))) eX) (bF (dC (CB (aJ (yl al2 I7 au (bB 0) (aI (bh 2) (aI (bh 3) bL))))) (bP (eg (eD (aI cz (aI (cC (a3 1) (aJ bl)) bL))))) eX) (bF (ek 5 I5.aW (yl al2 xM au (bB 0) (aI (Ot _r adQ) bL))) (bF (dC (k6 (w_and (binop%gv (a3 2) (aJ cz)) (rH (K6 (a3 5))))) (bP (eg (eD (aI cz (aI (cC (a3 5) (aJ bl)) bL))))) eX) (bP (eg lX)))))))
abbrev Bf:Stmt:=inClass (top 14) 13
def O4:c' ["self","zone"] ["self"] (cb Bf):=unop%dK 0
def xI(F:cW K "end_leaving" "Course.end_leaving" Bf f fd)(m:Meth K bE "end_leaving" f)(al2:unop%gJ 0)(hj:dg P w K mg base bE 0 "tell" k 3 gn)(xM:jT P w K mg base bE "bare_zones" k 2 ami)(ph:dg P w K mg base bE 0 "alarm" k 2 lV){ub:ak}(_q:mg "KINDS_LEFT_BY"=some (.ref ub))(adN:∃(o:Obj) (its:Array ag) (n:Nat),K.lookup ub=some o/\o.cls=.type "tuple"/\o.data=.seq its n/\its.size<=cB/\Vals ((["inner","way"]:List Str).map V.str) its.toList/\o.dict=none):dg P w K mg base bE 0 "end_leaving" (k+1) 1 amh:=
 jN F O4 (unop%b1 F) m unop%lm
  (bF (gp (j:=1) al2 (bB 0) cz) (bF (gp (j:=2) al2 (bB 0) bl) (bF (eW (fS al2 hj au (bB 0) (aI cz (aI lX bL)))) (bP (pz oj (iV (yl al2 xM au (bB 0) (aI (Ot _q adN) bL))) (fY 1 O4.aW) (bP (eW (fS al2 ph au (bB 0) (aI (bh 1) bL)))))))))
abbrev Bt:Stmt:=inClass (top 14) 22
def aev:c' ["self","who"] ["self","who"] (cb Bt):=unop%dK 0
def Jm(F:cW K "do_set" "Course.do_set" Bt f fd)(m:Meth K bE "do_set" f)(al2:unop%gJ 0)(hj:dg P w K mg base bE 0 "tell" k 3 gn)(xI:dg P w K mg base bE 0 "end_leaving" k 1 amh):dg P w K mg base bE 0 "do_set" (k+1) 2 vf:=
 jN F aev (unop%b2 F) m unop%lm
  (bF (vu (j:=7) al2 (bB 0) (rM bL)) (bF (gp (j:=6) al2 (bB 0) bl) (bF (gp (j:=1) al2 (bB 0) cz) (bF (gp (j:=2) al2 (bB 0) (cC (aJ (cC (hM (j:=0) al2 (bB 0)) (aJ bl))) (aJ bl))) (bF (eW (fS al2 hj au (bB 0) (aI cz (aI (bh 1) bL)))) (bP (dC (iU (yC.or amy) yw (hM (j:=2) al2 (bB 0)) (aJ bl)) (bP (eW (tM al2 xI au (bB 0)))) eX)))))))
abbrev Bm:Stmt:=inClass (top 14) 23
def aen:c' ["self","who"] ["self","who"] (cb Bm):=unop%dK 0
def Jf(F:cW K "do_unset" "Course.do_unset" Bm f fd)(m:Meth K bE "do_unset" f)(al2:unop%gJ 0)(hj:dg P w K mg base bE 0 "tell" k 3 gn):dg P w K mg base bE 0 "do_unset" (k+1) 2 xN:=
 jN F aen (unop%b2 F) m unop%lm
  (bF (gp (j:=1) al2 (bB 0) cz) (bF (gp (j:=2) al2 (bB 0) bl) (bF (gp (j:=6) al2 (bB 0) bl) (bF (gp (j:=3) al2 (bB 0) lX) (bF (vu (j:=5) al2 (bB 0) (rM bL)) (bP (eW (fS al2 hj au (bB 0) (aI cz (aI (bh 1) bL))))))))))
abbrev Bn:Stmt:=inClass (top 14) 21
def aep:c' ["self","who","deed","zone"] ["self","who","deed","zone"] (cb Bn):=unop%dK 0
def Ji(F:cW K "do_deed" "Course.do_deed" Bn f fd)(m:Meth K bE "do_deed" f)(al2:unop%gJ 0)(Jm:dg P w K mg base bE 0 "do_set" k 2 vf)(Jf:dg P w K mg base bE 0 "do_unset" k 2 xN)(px:mg "sorted"=none)(hj:dg P w K mg base bE 0 "tell" k 3 gn):dg P w K mg base bE 0 "do_deed" (k+1) 4 rt:=
 jN F aep (unop%l3 F) m unop%lm
  (bP (dC (binop%gv (a3 2) (aJ cz)) (bP (eW (fS al2 Jm au (bB 0) (aI (bh 1) bL)))) (bP (dC (binop%gv (a3 2) (aJ cz)) (bP (eW (fS al2 Jf au (bB 0) (aI (bh 1) bL)))) (bP (dC (binop%gv (a3 2) (aJ cz)) (bF (vu (j:=5) al2 (bB 0) (agS rfl px (aJ (hu (hM (j:=5) al2 (bB 0)) (aJ (amA (aI (bh 3) bL))))))) (bP (eW (fS al2 hj au (bB 0) (aI cz (aI (bh 3) bL)))))) (bF (akR (j:=5) al2 (bB 0) (bh 3)) (bP (eW (fS al2 hj au (bB 0) (aI cz (aI (bh 3) bL))))))))))))
abbrev Bh:Stmt:=inClass (top 14) 18
def O5:c' ["self","code","deed","zone","against"] ["self","code","deed","zone"] (cb Bh):=unop%dK 0
def I_(F:cW K "take_right" "Course.take_right" Bh f fd)(m:Meth K bE "take_right" f)(al2:unop%gJ 0)(I6:jT P w K mg base bE "what_is_against" k 4 xH)(Ji:dg P w K mg base bE 0 "do_deed" k 4 rt)(hj:dg P w K mg base bE 0 "tell" k 3 gn):dg P w K mg base bE 0 "take_right" (k+1) 4 va:=
 jN F O5 (unop%l3 F) m unop%lm
  (bF (ek 4 O5.aW (yl al2 I6 au (bB 0) (aI (bh 1) (aI (bh 2) (aI (bh 3) bL))))) (bP (dC (tV (a3 4)) (bF (aiR (j:=10) al2 (rP au) (bB 0) (aJ (cC (a3 1) (aJ bl))) bl) (bP (eW (fS al2 Ji au (bB 0) (aI (cC (a3 1) (aJ bl)) (aI (bh 2) (aI (bh 3) bL))))))) (bP (eW (fS al2 hj au (bB 0) (aI (cC (a3 4) (aJ bl)) (aI (cC (a3 4) (aJ bl)) bL))))))))
abbrev BB:Stmt:=inClass (top 14) 15
def Pl:c' ["self","figures","deed","zone","code"] ["self","figures","deed","zone"] (cb BB):=unop%dK 0
def Jw(F:cW K "code" "Course.code" BB f fd)(m:Meth K bE "code" f)(al2:unop%gJ 0)(Kg:Cl P w K mg base "code_of" k 2 yb)(hj:dg P w K mg base bE 0 "tell" k 3 gn)(I':jT P w K mg base bE "is_used_up" k 2 vb)(I9:dg P w K mg base bE 0 "take_wrong" k 1 u')(I_:dg P w K mg base bE 0 "take_right" k 4 va):dg P w K mg base bE 0 "code" (k+1) 4 ry:=
 jN F Pl (unop%l3 F) m unop%lm
  (bF (ek 4 Pl.aW (e8 Kg au (aI (lb (j:=0) al2 (bB 0)) (aI (bh 1) bL)))) (bP (dC (iU (ak7.or ag1) akh (hM (j:=9) al2 (bB 0)) (aJ bl)) (bP (eW (fS al2 hj au (bB 0) (aI cz (aI lX bL))))) (bP (dC (k6 (w_or (tV (a3 4)) (tU (CB (aJ (yl al2 I' au (bB 0) (aI (bh 4) bL))))))) (bP (eW (tM al2 I9 au (bB 0)))) (bF (gp (j:=8) al2 (bB 0) bl) (bP (eW (fS al2 I_ au (bB 0) (aI (bh 4) (aI (bh 2) (aI (bh 3) bL))))))))))))
abbrev BN:Stmt:=top 13
def afp:c' ["ticks","many"] ["ticks","many"] (cb BN):=unop%dK 0
def x5(F:cW K "lessened" "lessened" BN f fd)(m:mg "lessened"=some (.ref f))(my:mg "max"=none):Cl P w K mg base "lessened" (k+1) 2 tE:=
 ix F afp (unop%b2 F) m unop%lm
  (bP (eg (Tr my (hL (aJ (Tp (a3 0) (a3 1))) (hL (aJ bl) iT)))))
abbrev Bk:Stmt:=inClass (top 14) 11
def aei:c' ["self","many"] ["self","many"] (cb Bk):=unop%dK 0
def xK(F:cW K "count_down" "Course.count_down" Bk f fd)(m:Meth K bE "count_down" f)(al2:unop%gJ 0)(x5:Cl P w K mg base "lessened" k 2 tE):dg P w K mg base bE 0 "count_down" (k+1) 2 tv:=
 jN F aei (unop%b2 F) m unop%lm
  (bF (SN (j:=11) al2 (bB 0) (bh 1)) (bF (gp (j:=9) al2 (bB 0) (e8 x5 au (aI (lb (j:=9) al2 (bB 0)) (aI (bh 1) bL)))) (bF (gp (j:=6) al2 (bB 0) (e8 x5 au (aI (lb (j:=6) al2 (bB 0)) (aI (bh 1) bL)))) (bP (gp (j:=2) al2 (bB 0) (e8 x5 au (aI (lb (j:=2) al2 (bB 0)) (aI (bh 1) bL))))))))
abbrev Bj:Stmt:=inClass (top 14) 14
def O6:c' ["self","zone"] ["self"] (cb Bj):=unop%dK 0
def Ja(F:cW K "end_coming" "Course.end_coming" Bj f fd)(m:Meth K bE "end_coming" f)(al2:unop%gJ 0)(ph:dg P w K mg base bE 0 "alarm" k 2 lV):dg P w K mg base bE 0 "end_coming" (k+1) 1 xJ:=
 jN F O6 (unop%b1 F) m unop%lm
  (bF (ek 1 O6.aW (lb (j:=3) al2 (bB 0))) (bF (gp (j:=1) al2 (bB 0) cz) (bF (gp (j:=3) al2 (bB 0) lX) (bP (eW (fS al2 ph au (bB 0) (aI (bh 1) bL)))))))
abbrev Bl:Stmt:=inClass (top 14) 12
def aem:c' ["self"] ["self"] (cb Bl):=unop%dK 0
def Je(F:cW K "end_time" "Course.end_time" Bl f fd)(m:Meth K bE "end_time" f)(al2:unop%gJ 0)(xI:dg P w K mg base bE 0 "end_leaving" k 1 amh)(Ja:dg P w K mg base bE 0 "end_coming" k 1 xJ):dg P w K mg base bE 0 "end_time" (k+1) 1 vd:=
 jN F aem (unop%b1 F) m unop%lm
  (bP (dC (binop%gv (hM (j:=1) al2 (bB 0)) (aJ cz)) (bP (eW (tM al2 xI au (bB 0)))) (bP (eW (tM al2 Ja au (bB 0))))))
abbrev Bv:Stmt:=inClass (top 14) 10
def Pg:c' ["self","many","rest"] ["self","many"] (cb Bv):=unop%dK 0
def Jo(F:cW K "ticks" "Course.ticks" Bv f fd)(m:Meth K bE "ticks" f)(al2:unop%gJ 0)(xK:dg P w K mg base bE 0 "count_down" k 2 tv)(Je:dg P w K mg base bE 0 "end_time" k 1 vd):dg P w K mg base bE 0 "ticks" (k+1) 2 rv:=
 jN F Pg (unop%b2 F) m unop%lm
  (bF (dC (iU (Tt.or QO) SX (a3 1) (aJ bl)) (bP KL) eX) (bP (dC (k6 (w_and (iU (vE (by exact au.units)) mx (hM (j:=1) al2 (bB 0)) (aJ (eD (aI cz (aI cz bL))))) (rH (iU (yC.or amy) yw (hM (j:=2) al2 (bB 0)) (a3 1))))) (bF (ek 2 Pg.aW (Tp (a3 1) (hM (j:=2) al2 (bB 0)))) (bF (eW (fS al2 xK au (bB 0) (aI (lb (j:=2) al2 (bB 0)) bL))) (bF (eW (tM al2 Je au (bB 0))) (bP (eW (fS al2 xK au (bB 0) (aI (bh 2) bL))))))) (bP (eW (fS al2 xK au (bB 0) (aI (bh 1) bL)))))))
abbrev Bs:Stmt:=inClass (top 14) 2
def aeu:c' ["self","event"] ["self","event"] (cb Bs):=unop%dK 0
def Jl(F:cW K "happen" "Course.happen" Bs f fd)(m:Meth K bE "happen" f)(al2:unop%gJ 0)(Jv:dg P w K mg base bE 0 "line" k 3 xW)(Jw:dg P w K mg base bE 0 "code" k 4 ry)(Jo:dg P w K mg base bE 0 "ticks" k 2 rv):dg P w K mg base bE 0 "happen" (k+1) 2 ru:=
 jN F aeu (unop%b2 F) m unop%lm
  (bP (dC (binop%gv (aJ (cC (a3 1) (aJ bl))) (aJ cz)) (bP (eW (fS al2 Jv au (bB 0) (aI (cC (a3 1) (aJ bl)) (aI (cC (a3 1) (aJ bl)) bL))))) (bP (dC (binop%gv (aJ (cC (a3 1) (aJ bl))) (aJ cz)) (bP (eW (fS al2 Jw au (bB 0) (aI (cC (a3 1) (aJ bl)) (aI (cC (a3 1) (aJ bl)) (aI (cC (a3 1) (aJ bl)) bL)))))) (bP (eW (fS al2 Jo au (bB 0) (aI (cC (a3 1) (aJ bl)) bL))))))))
abbrev BI:Stmt:=top 15
def Jx:c' ["plan","state","row","course","event"] ["plan","state","row"] (cb BI):=unop%dK 0
def PS(ts:List T)(s:aR)(h:rz ts=some s):∃c os,s=.obj .own c os:=ahT (b:=JN) h
def x2(F:cW K "course_of" "course_of" BI f fd)(m:mg "course_of"=some (.ref f))(al2:unop%gJ 0)(V7:rU P w K mg base "Course" bE 0 k 3 xO)(Jl:dg P w K mg base bE 0 "happen" k 2 ru):qH P w K mg base "course_of" (k+2) 3 rz:=
 akA F Jx (unop%gB F) m unop%lm
  (bF (ajS 3 Jx.aW (ak9 al2 V7 au (aI (bh 0) (aI (bh 1) bL)))) (bF (pz oj (iV (bh 2)) (fY 4 Jx.aW) (bP (eW (fS al2 Jl (au.mono (ni _)) (bB 3) (aI (bh 4) bL))))) (bP (ajN (bB 3)))))
abbrev Cs:Stmt:=top 17
def ahQ:c' ["plan","state","row"] ["plan","state","row"] (cb Cs):=unop%dK 0
def yo(F:cW K "after" "after" Cs f fd)(m:mg "after"=some (.ref f))(al2:unop%gJ 0)(Jp:jT P w K mg base bE "state" k 1 xU)(x2:qH P w K mg base "course_of" k 3 rz):Cl P w K mg base "after" (k+1) 3 qw:=
 ix F ahQ (unop%gB F) m unop%lm
  (bP (eg (akY al2 Jp au (S0 x2 PS au (aI (bh 0) (aI (bh 1) (aI (bh 2) bL)))))))
abbrev B_:Stmt:=top 21
def agQ:c' ["opening","here"] ["opening","here"] (cb B_):=unop%dK 0
def rC(F:cW K "beyond" "beyond" B_ f fd)(m:mg "beyond"=some (.ref f)) :Cl P w K mg base "beyond" (k+1) 2 jK:=
 ix F agQ (unop%b2 F) m unop%lm
  (bF (dC (binop%gv (aJ (cC (a3 0) (aJ bl))) (a3 1)) (bP (eg (cC (a3 0) (aJ bl)))) eX) (bF (dC (binop%gv (aJ (cC (a3 0) (aJ bl))) (a3 1)) (bP (eg (cC (a3 0) (aJ bl)))) eX) (bP (eg lX))))
abbrev amk:Stmt:=top 23
def x3:c' ["house","room","places","found","number","opening","there"] ["house","room","places"] (cb amk):=unop%dK 0
def Qv{K:br}{f:ak}{fd:gi}(F:cW K "ways_on" "ways_on" amk f fd):Binds K fd ["house","room","places"] []:=F.binds (ps:=["house","room","places"]) λ_ _ _ _ _ _ us av=>match us,av with|[_,_,_],_=>rfl
def agx{d:List T->Option T}(F:cW K "ways_on" "ways_on" amk f fd)(m:mg "ways_on"=some (.ref f))(vj:Cl P w K mg base "ways_on" k 3 d)(kP:mg "enumerate"=none)(rC:Cl P w K mg base "beyond" k 2 jK):Cl P w K mg base "ways_on" (k+1) 3 (cV (vl d) 7):=
 ix F x3 (Qv F) m unop%lm
  (bF (dC (binop%gv (aJ (cC (a3 2) (aJ (Tq (aJ bl))))) (a3 1)) (bP (eg (amA (aI (eD bL) bL)))) eX) (bF (CE 3 x3.aW (rM bL)) (bF (pz oj (S9 kP (cC (a3 0) (aJ bl))) (CS (qB (fY 4 x3.aW) (qB (fY 5 x3.aW) CT))) (bF (ek 6 x3.aW (e8 rC au (aI (bh 5) (aI (cC (a3 2) (aJ (Tq (aJ bl)))) bL)))) (bP (dC (k6 (w_and (vC (a3 6)) (rH (iU (tH (by exact au.units)) mx (a3 6) (a3 2))))) (bP (akS 3 (aJ (ow (own:=["rest"]) (caps:=[(4,"number")]) (binop%co amk ["house","room","places","found","number","opening","there"]) (iV (e8 vj au (aI (bh 0) (aI (bh 1) (aI (hu (a3 2) (aJ (eD (aI (bh 6) bL)))) bL))))) (unop%ed (fY 0 (unop%aW ["rest","number"]))) (unop%ed qy) (unop%ed (hu (aJ (eD (aI (bh 1) bL))) (a3 0))))))) eX)))) (bP (CD 3)))))
theorem vj(F:cW K "ways_on" "ways_on" amk f fd)(m:mg "ways_on"=some (.ref f))(kP:mg "enumerate"=none)(rC:Cl P w K mg base "beyond" k 2 jK):∀n,Cl P w K mg base "ways_on" (k+n) 3 (mw n)
|0=>.mk' aho m F.aw (Qv F)
|n+1=>agx F m (vj F m kP rC  n) kP (rC.mono (tq _ _))
abbrev CC:Stmt:=top 24
def aiP:c' ["house","room"] ["house","room"] (cb CC):=unop%dK 0
def yy(F:cW K "ways" "ways" CC f fd)(m:mg "ways"=some (.ref f))(fO:mg "tuple"=none)(vj:Cl P w K mg base "ways_on" k 3 (mw 20)){xw:Tok}(nY:mg "OUTSIDE"=some (.int 0 xw)):Cl P w K mg base "ways" (k+1) 2 i0:=
 ix F aiP (unop%b2 F) m unop%lm
  (bP (eg (ov fO (hL (aJ (e8 vj au (aI (bh 0) (aI (bh 1) (aI (eD (aI (sW nY) bL)) bL))))) iT))))
abbrev vt:Stmt:=top 6
def zev:c' ["plan","lines","used"] ["plan"] (cb vt):=unop%dK 0
def Cz(F:cW K "begun" "begun" vt f fd)(m:mg "begun"=some (.ref f))(fO:mg "tuple"=none):Cl P w K mg base "begun" (k+1) 1 rG:=
 ix F zev (unop%b1 F) m unop%lm
  (bF (ek 1 zev.aW (ov fO (hL (aJ (ow (own:=["zone"]) (caps:=[]) (binop%co vt ["plan","lines","used"]) (iV (cC (a3 0) (aJ bl))) (unop%ed (fY 0 (unop%aW ["zone"]))) (unop%ed qy) (unop%ed cz))) iT))) (bF (ek 2 zev.aW (ov fO (hL (aJ (ow (own:=["code"]) (caps:=[]) (binop%co vt ["plan","lines","used"]) (iV (cC (a3 0) (aJ bl))) (unop%ed (fY 0 (unop%aW ["code"]))) (unop%ed qy) (unop%ed bl))) iT))) (bP (eg (eD (aI cz (aI bl (aI lX (aI (bh 1) (aI (eD bL) (aI bl (aI (eD bL) (aI bl (aI bl (aI (bh 2) bL)))))))))))))))
abbrev B8:Stmt:=top 29
def QH:c' ["opening","pace","zone"] ["opening","pace"] (cb B8):=unop%dK 0
def yi(F:cW K "passed" "passed" B8 f fd)(m:mg "passed"=some (.ref f)){IS:Tok}(qS:mg "TICKS_TO_PASS"=some (.int 1 IS)):Cl P w K mg base "passed" (k+1) 2 nt:=
 ix F QH (unop%b2 F) m unop%lm
  (bF (ek 2 QH.aW (cC (a3 0) (aJ bl))) (bF (dC (tV (a3 2)) (bP (eg (eD (aI (eD (aI cz (aI (sW qS) bL))) (aI (eD (aI cz (aI (bh 1) bL))) bL))))) eX) (bP (eg (eD (aI (eD (aI cz (aI (bh 2) (aI cz bL)))) (aI (eD (aI cz (aI (sW qS) bL))) (aI (eD (aI cz (aI (bh 2) (aI cz bL)))) (aI (eD (aI cz (aI (bh 1) bL))) bL)))))))))
abbrev xY:Stmt:=top 31
def aeX:c' ["told"] ["told"] (cb xY):=unop%dK 0
def JK(F:cW K "has_alarm" "has_alarm" xY f fd)(m:mg "has_alarm"=some (.ref f)) :Cl P w K mg base "has_alarm" (k+1) 1 tC:=
 ix F aeX (unop%b1 F) m unop%lm
  (bP (eg (qF (vE (by exact au.units)) mx (aJ cz) (aJ (ow (own:=["past","word","name"]) (caps:=[]) (binop%co xY ["told"]) (iV (bh 0)) (unop%ed (CS (qB (fY 0 (unop%aW ["past","word","name"])) (qB (fY 1 (unop%aW ["past","word","name"])) (qB (fY 2 (unop%aW ["past","word","name"])) CT))))) (unop%ed qy) (unop%ed (bh 1)))))))
abbrev Cr:Stmt:=top 18
def ahP:c' ["plan","state","row"] ["plan","state","row"] (cb Cr):=unop%dK 0
def K4(F:cW K "story" "story" Cr f fd)(m:mg "story"=some (.ref f))(al2:unop%gJ 0)(fO:mg "tuple"=none)(x2:qH P w K mg base "course_of" k 3 rz):Cl P w K mg base "story" (k+1) 3 rF:=
 ix F ahP (unop%gB F) m unop%lm
  (bP (eg (ov fO (hL (aJ (agT (j:=12) al2 (S0 x2 PS au (aI (bh 0) (aI (bh 1) (aI (bh 2) bL)))))) iT))))
abbrev B9:Stmt:=top 32
def vi:c' ["plan","house","state","way","pace","here","place","number","row"] ["plan","house","state","way","pace"] (cb B9):=unop%dK 0
def amn(F:cW K "caught" "caught" B9 f fd)(m:mg "caught"=some (.ref f))(kP:mg "enumerate"=none)(yi:Cl P w K mg base "passed" k 2 nt)(JK:Cl P w K mg base "has_alarm" k 1 tC)(yo:Cl P w K mg base "after" k 3 qw)(K4:Cl P w K mg base "story" k 3 rF):Cl P w K mg base "caught" (k+1) 5 jJ:=
 ix F vi (unop%pQ F) m unop%lm
  (bF (ek 5 vi.aW (bh 2)) (bF (pz oj (ajq kP (bh 3)) (CS (qB (fY 6 vi.aW) (qB (fY 7 vi.aW) CT))) (bF (ek 8 vi.aW (e8 yi au (aI (cC (aJ (cC (a3 1) (aJ bl))) (a3 7)) (aI (bh 4) bL)))) (bF (dC (CB (aJ (e8 JK au (aI (e8 K4 au (aI (bh 0) (aI (bh 5) (aI (bh 8) bL)))) bL)))) (bP (CD 6)) eX) (bP (ek 5 vi.aW (e8 yo au (aI (bh 0) (aI (bh 5) (aI (bh 8) bL))))))))) (bP (eg lX))))
abbrev yf:Stmt:=top 22
def tF:c' ["house","names","unwatched","reached","waiting","here","opening","there"] ["house","names"] (cb yf):=unop%dK 0
def Ky(F:cW K "unseen" "unseen" yf f fd)(m:mg "unseen"=some (.ref f))(fO:mg "tuple"=none)(px:mg "sorted"=none)(rC:Cl P w K mg base "beyond" k 2 jK){xw:Tok}(nY:mg "OUTSIDE"=some (.int 0 xw)):Cl P w K mg base "unseen" (k+1) 2 oK:=
 ix F tF (unop%b2 F) m unop%lm
  (bF (CF 2 tF.aW (own:=["opening"]) (caps:=[(1,"names")]) (binop%co yf ["house","names","unwatched","reached","waiting","here","opening","there"]) (iV (cC (a3 0) (aJ bl))) (unop%ed (fY 0 (unop%aW ["opening","names"]))) (unop%ed (vB (k6 (w_or (tV (aJ (cC (a3 0) (aJ bl)))) (tU (iU (vE (by exact au.units)) mx (aJ (cC (a3 0) (aJ bl))) (a3 1))))))) (unop%ed (bh 0))) (bF (ajR 3 tF.aW (sW nY) me) (bF (CE 4 tF.aW (rM (aI (sW nY) bL))) (bF (aiQ 1000 oj (K6 (a3 4)) (bF (s_pop 5 4 tF.aW) (bP (pz oj (iV (bh 2)) (fY 6 tF.aW) (bF (ek 7 tF.aW (e8 rC au (aI (bh 6) (aI (bh 5) bL)))) (bP (dC (k6 (w_and (vC (a3 7)) (rH (ajK 3 (rP au) (a3 7))))) (bF (ajQ 3 (rP au) (a3 7) me) (bP (Tj 4 (bh 7)))) eX))))))) (bP (eg (ov fO (hL (aJ (agU 3 rfl px)) iT))))))))
abbrev BG:Stmt:=top 40
def PD:c' ["_law_zones","_law_live","_law_watched","_law_come","_law_pace","_law_place","_law_slow","_law_at"] ["_law_zones","_law_live","_law_watched","_law_come","_law_pace","_law_place","_law_slow"] (cb BG):=unop%dK 0
def JI(F:cW K "_law_is_fair" "_law_is_fair" BG f fd)(m:mg "_law_is_fair"=some (.ref f))(oC:mg "dict"=none):Cl P w K mg base "_law_is_fair" (k+1) 7 tB:=
 ix F PD (unop%amt F) m unop%lm
  (bF (ek 7 PD.aW (hu (aJ (ahZ (a3 2) (aJ (cC (a3 1) (aJ bl))))) (aJ bl))) (bF (dC (k6 (w_or (binop%lF (aJ (ah0 rfl oC (rP au) (a3 0) (aJ (cC (a3 1) (aJ bl))))) (aJ cz)) (w_or (binop%gv (a3 3) (aJ bl)) (tU (iU (yC.or amy) yw (a3 3) (a3 4)))))) (bP (dC (binop%lF (a3 5) (a3 7)) (bP (eg me)) eX)) eX) (bF (dC (tV (a3 5)) (bP (eg me)) eX) (bP (eg (CQ (qF (Lk.or J7) Ld (a3 5) (a3 7)) (CQ (ajU (a3 6)) (K_ (qF (yC.or amy) yw (a3 6) (a3 5))))))))))
abbrev B7:Stmt:=top 30
def J3:c' ["house","way","pace","row","number"] ["house","way","pace"] (cb B7):=unop%dK 0
def Kx(F:cW K "walked" "walked" B7 f fd)(m:mg "walked"=some (.ref f))(fO:mg "tuple"=none)(yi:Cl P w K mg base "passed" k 2 nt):Cl P w K mg base "walked" (k+1) 3 qs:=
 ix F J3 (unop%gB F) m unop%lm
  (bF (CE 3 J3.aW (rM bL)) (bF (pz oj (iV (bh 1)) (fY 4 J3.aW) (bP (ajP 3 (aJ (e8 yi au (aI (cC (aJ (cC (a3 0) (aJ bl))) (a3 4)) (aI (bh 2) bL))))))) (bP (eg (ov fO (hL (a3 3) iT))))))
abbrev By:Stmt:=top 26
def Pj:c' ["house","room","through"] ["house","room"] (cb By):=unop%dK 0
def Ju(F:cW K "ways_at_all" "ways_at_all" By f fd)(m:mg "ways_at_all"=some (.ref f))(yy:Cl P w K mg base "ways" k 2 i0):Cl P w K mg base "ways_at_all" (k+1) 2 rx:=
 ix F Pj (unop%b2 F) m unop%lm
  (bF (ek 2 Pj.aW (e8 yy au (aI (bh 0) (aI (bh 1) bL)))) (bF (dC (Tg (K6 (a3 2))) (bP R2) eX) (bP (CD 2))))
abbrev BO:Stmt:=top 33
def afr:c' ["place"] ["place"] (cb BO):=unop%dK 0
def JV(F:cW K "lateness" "lateness" BO f fd)(m:mg "lateness"=some (.ref f)) :Cl P w K mg base "lateness" (k+1) 1 x4:=
 ix F afr (unop%b1 F) m unop%lm
  (bP (eg (Ts (tV (a3 0)) (eD (aI bl (aI bl bL))) (eD (aI bl (aI (bh 0) bL))))))
abbrev al_:Stmt:=top 34
def agP:c' ["plan","house","state","room","pace"] ["plan","house","state","room","pace"] (cb al_):=unop%dK 0
def ahB{K:br}{f:ak}{fd:gi}(F:cW K "safest" "safest" al_ f fd):Binds K fd ["plan","house","state","room","pace"] []:=F.binds (ps:=["plan","house","state","room","pace"]) λ_ _ _ _ _ _ us av=>match us,av with|[_,_,_,_,_],_=>rfl
def Kz{k:Nat}{f EJ amd:ak}{hG:ag}{e4 an:Option ak}{lI:Array (Option ag)}{dA doc pm dO:ag}(l:K.lookup f=some ⟨hG,e4,.func (mj "safest" "safest" (oy al_) (hK al_) (cb al_) .none dA doc pm an (.ref EJ) dO),lI⟩)(ec:rl K (.ref EJ) "safest"=true)(aw:nf K (.ref f)=true)(m:mg "safest"=some (.ref f))(X7:amr K EJ amd=true)(l6:pD mg base)(uC:(amd,(("safest":Str)++".<locals>.")++"<lambda>")∈cG.dd)(Ga:∀p∈cG.dd,p.1=amd->p.2=(("safest":Str)++".<locals>.")++"<lambda>")(my:mg "max"=none)(Ju:Cl P w K mg base "ways_at_all" k 2 rx)(JV:Cl P w K mg base "lateness" k 1 x4)(amn:Cl P w K mg base "caught" k 5 jJ):Cl P w K mg base "safest" (k+3) 5 Ck:=
 akB l ec agP (λ_ F=>ahB F) m aw λA outer s H E au=>
  (bP (eg (ajV (y:="way") (e8 Ju (au.mono (tq _ 2)) (aI (bh 1) (aI (bh 3) bL))) my rfl X7 l6 uC Ga au (λq dh cl h3 fv s2 bf NM=>by exact (e8 JV NM (aI (e8 amn NM (aI (bh 1) (aI (bh 2) (aI (bh 3) (aI (bh 0) (aI (bh 5) bL)))))) bL))))))
abbrev mz:Stmt:=top 41
def jL:c' ["_law_script","_law_house_here","_law_number","_law_kinds","_law_come","_law_zones","_law_plan","_law_shunts","_law_row","_law_state","_law_room","_law_pace","_law_free","_law_way","_law_watched","_law_live","_law_place","_law_slow"] ["_law_script"] (cb mz):=unop%dK 0
def ald(F:cW K "law" "law" mz f fd)(Ke:Cl P w K mg base "_law_house" k 1 pU)(vk:Cl P w K mg base "_law_mixed" k 2 kg)(fO:mg "tuple"=none)(yo:Cl P w K mg base "after" k 3 qw)(yy:Cl P w K mg base "ways" k 2 i0)(oE:mg "zip"=none)(Cz:Cl P w K mg base "begun" k 1 rG)(amn:Cl P w K mg base "caught" k 5 jJ)(Ky:Cl P w K mg base "unseen" k 2 oK)(kP:mg "enumerate"=none)(al5:mg "list"=none)(nv:mg "len"=none)(al7:mg "range"=none)(JI:Cl P w K mg base "_law_is_fair" k 7 tB)(Kx:Cl P w K mg base "walked" k 3 qs)(Kz:Cl P w K mg base "safest" k 5 Ck):fh P w K mg base fg (k+1) f fd ["_law_script"] (spT K 1 tZ):=
 Ta F jL unop%lm
  (bF (ek 1 jL.aW (e8 Ke au (aI (e8 vk au (aI (bh 0) (aI bl bL))) bL))) (bF (ek 2 jL.aW (e8 vk au (aI (bh 0) (aI bl bL)))) (bF (ek 3 jL.aW (ov fO (hL (aJ (ow (own:=["_law_k"]) (caps:=[(2,"_law_number")]) (binop%co mz ["_law_script","_law_house_here","_law_number","_law_kinds","_law_come","_law_zones","_law_plan","_law_shunts","_law_row","_law_state","_law_room","_law_pace","_law_free","_law_way","_law_watched","_law_live","_law_place","_law_slow"]) (S8 al7 (aJ bl)) (unop%ed (fY 0 (unop%aW ["_law_k","_law_number"]))) (unop%ed qy) (unop%ed (cC (aJ (eD (aI cz (aI cz (aI cz (aI cz bL)))))) (aJ (lj (aJ (tW (a3 1) (aJ (cC (aJ (eD (aI bl (aI bl (aI bl (aI bl (aI bl bL))))))) (a3 0))))) (aJ bl))))))) iT))) (bF (ek 4 jL.aW (cC (aJ (eD (aI bl (aI bl (aI bl bL))))) (aJ (lj (a3 2) (aJ bl))))) (bF (ek 5 jL.aW (ahY rfl fO oE (aJ (eD (aI cz (aI cz (aI cz (aI cz (aI cz bL))))))) (a3 3))) (bF (ek 6 jL.aW (eD (aI (bh 5) (aI (eD (aI (eD (aI cz (aI cz (aI (eD (aI cz (aI cz (aI cz bL)))) (aI bl bL))))) bL)) (aI (eD (aI bl (aI (bh 4) (aI bl bL)))) bL))))) (bF (ek 7 jL.aW (ow (own:=["_law_k","_law_zone"]) (caps:=[(2,"_law_number")]) (binop%co mz ["_law_script","_law_house_here","_law_number","_law_kinds","_law_come","_law_zones","_law_plan","_law_shunts","_law_row","_law_state","_law_room","_law_pace","_law_free","_law_way","_law_watched","_law_live","_law_place","_law_slow"]) (S9 kP (bh 5)) (unop%ed (CS (qB (fY 0 (unop%aW ["_law_k","_law_zone","_law_number"])) (qB (fY 1 (unop%aW ["_law_k","_law_zone","_law_number"])) CT)))) (unop%ed (vB (binop%gv (aJ (lj (aJ (tW (a3 2) (aJ (cC (aJ (eD (aI bl (aI bl (aI bl (aI bl (aI bl bL))))))) (a3 0))))) (aJ bl))) (aJ bl)))) (unop%ed (cC (a3 1) (aJ bl))))) (bF (ek 8 jL.aW (hu (aJ (ov fO (hL (aJ (ow (own:=["_law_name"]) (caps:=[]) (binop%co mz ["_law_script","_law_house_here","_law_number","_law_kinds","_law_come","_law_zones","_law_plan","_law_shunts","_law_row","_law_state","_law_room","_law_pace","_law_free","_law_way","_law_watched","_law_live","_law_place","_law_slow"]) (iV (bh 7)) (unop%ed (fY 0 (unop%aW ["_law_name"]))) (unop%ed qy) (unop%ed (eD (aI cz (aI cz (aI cz (aI (bh 0) bL)))))))) iT))) (aJ (eD (aI (eD (aI cz (aI cz (aI cz (aI lX bL))))) bL))))) (bF (ek 9 jL.aW (e8 yo au (aI (bh 6) (aI (e8 Cz au (aI (bh 6) bL)) (aI (bh 8) bL))))) (bF (dC (k6 (w_or (binop%lF (aJ (cC (a3 9) (aJ bl))) (aJ cz)) (tU (binop%lF (aJ (ajW al5 (hL (aJ (cC (a3 9) (aJ bl))) iT))) (a3 7))))) (bP (eg me)) eX) (bF (ek 10 jL.aW (hu (aJ bl) (aJ (lj (aJ (e8 vk au (aI (bh 0) (aI bl bL)))) (aJ (cC (a3 1) (aJ bl))))))) (bF (ek 11 jL.aW (hu (aJ bl) (aJ (lj (aJ (tW (aJ (e8 vk au (aI (bh 0) (aI bl bL)))) (aJ bl))) (aJ bl))))) (bF (CE 12 jL.aW (rM bL)) (bF (pz oj (iV (e8 yy au (aI (bh 1) (aI (bh 10) bL)))) (fY 13 jL.aW) (bF (CF 14 jL.aW (own:=["_law_one"]) (caps:=[(1,"_law_house_here")]) (binop%co mz ["_law_script","_law_house_here","_law_number","_law_kinds","_law_come","_law_zones","_law_plan","_law_shunts","_law_row","_law_state","_law_room","_law_pace","_law_free","_law_way","_law_watched","_law_live","_law_place","_law_slow"]) (iV (bh 13)) (unop%ed (fY 0 (unop%aW ["_law_one","_law_house_here"]))) (unop%ed qy) (unop%ed (cC (aJ (cC (aJ (cC (a3 1) (aJ bl))) (a3 0))) (aJ bl)))) (bF (CF 15 jL.aW (own:=["_law_name"]) (caps:=[(7,"_law_shunts")]) (binop%co mz ["_law_script","_law_house_here","_law_number","_law_kinds","_law_come","_law_zones","_law_plan","_law_shunts","_law_row","_law_state","_law_room","_law_pace","_law_free","_law_way","_law_watched","_law_live","_law_place","_law_slow"]) (iV (bh 14)) (unop%ed (fY 0 (unop%aW ["_law_name","_law_shunts"]))) (unop%ed (vB (k6 (w_and (vC (a3 0)) (rH (iU (tH (by exact au.units)) mx (a3 0) (a3 1))))))) (unop%ed (bh 0))) (bF (ek 16 jL.aW (e8 amn au (aI (bh 6) (aI (bh 1) (aI (bh 9) (aI (bh 13) (aI (bh 11) bL))))))) (bF (dC (vC (aJ (e8 amn au (aI (bh 6) (aI (bh 1) (aI (e8 Cz au (aI (bh 6) bL)) (aI (bh 13) (aI (bh 11) bL)))))))) (bP (eg me)) eX) (bF (dC (k6 (w_and (binop%gv (a3 15) (aJ (amA bL))) (rH (vC (a3 16))))) (bP (eg me)) eX) (bF (ek 17 jL.aW (e8 amn au (aI (bh 6) (aI (bh 1) (aI (bh 9) (aI (bh 13) (aI (hu (a3 11) (aJ bl)) bL))))))) (bF (dC (k6 (w_and (binop%lF (a3 15) (aJ (amA bL))) (rH (Tg (CB (aJ (e8 JI au (aI (bh 5) (aI (bh 15) (aI (bh 14) (aI (bh 4) (aI (bh 11) (aI (bh 16) (aI (bh 17) bL)))))))))))))) (bP (eg me)) eX) (bF (dC (tV (a3 16)) (bP (Tj 12 (bh 13))) eX) (bP (dC (binop%lF (aJ (CP (by exact nv) (hL (aJ (e8 Kx au (aI (bh 1) (aI (bh 13) (aI (bh 11) bL))))) iT))) (aJ (hu (aJ (pA (aJ bl) (aJ (CP (by exact nv) (hL (a3 13) iT))))) (aJ (pA (aJ bl) (aJ (CP (by exact nv) (hL (aJ (ow (own:=["_law_name"]) (caps:=[]) (binop%co mz ["_law_script","_law_house_here","_law_number","_law_kinds","_law_come","_law_zones","_law_plan","_law_shunts","_law_row","_law_state","_law_room","_law_pace","_law_free","_law_way","_law_watched","_law_live","_law_place","_law_slow"]) (iV (bh 14)) (unop%ed (fY 0 (unop%aW ["_law_name"]))) (unop%ed (vB (vC (a3 0)))) (unop%ed (bh 0)))) iT)))))))) (bP (eg me)) eX))))))))))) (bF (dC (iU (vE (by exact au.units)) mx (a3 10) (aJ (e8 Ky au (aI (bh 1) (aI (ov fO (hL (a3 7) iT)) bL))))) (bP (dC (k6 (w_or (binop%gv (a3 12) (aJ (amA bL))) (tU (binop%lF (aJ (e8 Kz au (aI (bh 6) (aI (bh 1) (aI (bh 9) (aI (bh 10) (aI (bh 11) bL))))))) (aJ (cC (a3 12) (aJ bl))))))) (bP (eg me)) eX)) eX) (bP (eg me)))))))))))))))))
end
end nF
end
section
namespace D
open PySem
def RA(ns:List Int):jF (ns.map .int)=true/\iN (ns.map .int)<=1:=by
 induction ns with
|nil=>simp[jF,iN]
|cons n ns bc=>simp[jF,PyData.canLay0,iN,lR,bc]
def aia(ss:List Str)(h:∀x∈ss,(kc x).canLay0=true):jF (ss.map .str)=true/\iN (ss.map .str)<=1:=by
 induction ss with
|nil=>simp[jF,iN]
|cons n ns bc=>
  have ae:=h n (by simp);have aj:=bc λx hx=>h x (by simp[hx]);simp[jF,iN,lR,ae,aj]
theorem RH(n:Int):∀ns:List Int,mO (.int n) (ns.map .int)=decide (n∈ns)
| []=>by simp[mO]
|m::ns=>by
  have bc:=RH n ns;unfold mO at bc ⊢;rw[cP,List.any_cons,bc];simp[hY,Bool.beq_eq_decide_eq,eq_comm]
theorem Ci(n:Str):∀ns:List Str,mO (.str n) (ns.map .str)=decide (n∈ns)
| []=>by simp[mO]
|m::ns=>by
  have bc:=Ci n ns;unfold mO at bc ⊢;rw[cP,List.any_cons,bc];simp[hY,Bool.beq_eq_decide_eq,eq_comm]
def qu(n:Int):eV (.int n)=true:=by simp[eV,PyData.canLay0,lR]
def tP{x:Str}(h:(kc x).canLay0=true):eV (.str x)=true:=by simp[eV,lR,h]
def ag4(ns:List Int):p_ (ns.map .int)=true:=by
 have:=RA ns;simp[p_,this.1];omega
def J8(ss:List Str)(h:∀x∈ss,(kc x).canLay0=true):p_ (ss.map .str)=true:=by
 have:=aia ss h;simp[p_,this.1];omega
def KU(neg:Bool)(n:Int)(ns:List Int):eB neg (.int n) (.tuple (ns.map .int))=some (.bool (if neg then !decide (n∈ns) else decide (n∈ns))):=by
 simp only[eB,qu,ag4,RH,Bool.and_self,if_true]
def KS(neg:Bool)(n:Str)(ns:List Str)(h0:(kc n).canLay0=true)(h:∀x∈ns,(kc x).canLay0=true):eB neg (.str n) (.tuple (ns.map .str))=some (.bool (if neg then !decide (n∈ns) else decide (n∈ns))):=by
 simp only[eB,tP h0,J8 ns h,Ci,Bool.and_self,if_true]
end D
end
section
namespace aQ
open D
noncomputable def vq:bD:=
  (seq (iff (aZ (af oEq (af aP (nm 0) (aa (.int 0))) (nm 1))) (bN (af aP (nm 0) (aa (.int 1)))) skip) (seq (iff (aZ (af oEq (af aP (nm 0) (aa (.int 1))) (nm 1))) (bN (af aP (nm 0) (aa (.int 0)))) skip) (bN (aa .none))))
def jK:List T->Option T:=cV vq 2
noncomputable def yj:bD:=
  (seq (asg 2 (comp 1 [1] (cQ (af aP (nm 0) (aa (.int 1)))) (bA 0) (eI (aZ (cn e3 (af aP (nm 0) (aa (.int 2))))) (aZ (af (eB false) (af aP (nm 0) (aa (.int 2))) (nm 1)))) (ao 0))) (seq (we 3 (aa (.int 0)) (aa (.bool true))) (seq (e_ 4 (dD [(aa (.int 0))])) (seq (og (e6 (nm 4)) (seq (pop 5 4) (eT (cQ (ao 2)) (bA 6) (seq (asg 7 (aS jK [(ao 6),(ao 5)])) (iff (dy (aZ (cn dx (nm 7))) (aZ (pT true (nm 7) 3))) (seq (sh 3 (nm 7) (aa (.bool true))) (app 4 (ao 7))) skip)))) 1000) (bN (aS gq [(vz 3)]))))))
def oK:List T->Option T:=cV yj 8
noncomputable def vl(rec:List T->Option T):bD:=
  (seq (iff (aZ (af oEq (af aP (nm 2) (cn jg (aa (.int 1)))) (nm 1))) (bN (dD [(bk [])])) skip) (seq (e_ 3 (dD [])) (seq (eT (oz (kk (af aP (nm 0) (aa (.int 1))))) (dV [(bA 4),(bA 5)]) (seq (asg 6 (aS jK [(ao 5),(af aP (nm 2) (cn jg (aa (.int 1))))])) (iff (dy (aZ (cn dx (nm 6))) (aZ (af (eB true) (nm 6) (nm 2)))) (ext 3 (comp 1 [4] (cQ (aS rec [(ao 0),(ao 1),(af b4 (nm 2) (bk [(ao 6)]))])) (bA 0) (di true) (af b4 (bk [(ao 1)]) (nm 0)))) skip))) (bN (nm 3)))))
noncomputable def mw:Nat->List T->Option T
|0=>λ_=>none
|n+1=>cV (vl (mw n)) 7
noncomputable def yz:bD:=
  (bN (aS gq [(aS (mw 20) [(ao 0),(ao 1),(bk [(aa (.int 0))])])]))
def i0:List T->Option T:=cV yz 2
noncomputable def tD:bD:=
  (seq (iff (aZ (af oLt (nm 1) (aS fL [(nm 0)]))) (bN (af aP (nm 0) (nm 1))) skip) (bN (aa (.int 0))))
def mu:List T->Option T:=cV tD 2
noncomputable def tK:bD:=
  (seq (asg 2 (af oMod (af dn (af b4 (af b4 (aS mu [(ao 0),(ao 1)]) (af dn (aa (.int 7919)) (nm 1))) (aa (.int 1))) (aa (.int 48271))) (aa (.int 2147483647)))) (bN (af oMod (af b4 (af b4 (af dn (nm 2) (nm 2)) (af dn (aa (.int 7)) (nm 2))) (nm 1)) (aa (.int 2147483629)))))
def kg:List T->Option T:=cV tK 3
noncomputable def tL:bD:=
  (seq (asg 2 (af oMod (af dn (af b4 (af b4 (nm 0) (af dn (aa (.int 104729)) (nm 1))) (aa (.int 17))) (aa (.int 69621))) (aa (.int 2147483647)))) (bN (af oMod (af b4 (af b4 (af dn (nm 2) (nm 2)) (af dn (aa (.int 3)) (nm 2))) (nm 1)) (aa (.int 2147483629)))))
def kh:List T->Option T:=cV tL 3
noncomputable def ye:bD:=
  (seq (asg 1 (af b4 (aa (.int 1)) (af oMod (nm 0) (aa (.int 7))))) (seq (asg 2 (bk [])) (seq (eT (kj (af oMod (af oDiv (nm 0) (aa (.int 8))) (aa (.int 11)))) (bA 3) (seq (asg 4 (af oDiv (aS kh [(ao 0),(af b4 (aa (.int 50)) (nm 3))]) (aa (.int 4)))) (seq (asg 5 (af oMod (nm 4) (af b4 (nm 1) (aa (.int 1))))) (seq (asg 6 (af oMod (af b4 (af b4 (nm 5) (aa (.int 1))) (af oMod (af oDiv (nm 4) (aa (.int 8))) (nm 1))) (af b4 (nm 1) (aa (.int 1))))) (seq (asg 7 (af aP (bk [(aa .none),(aa .none),(aa (.str "a")),(aa (.str "b")),(aa (.str "back")),(aa (.str "hall")),(aa (.str "win"))]) (af oMod (af oDiv (nm 4) (aa (.int 64))) (aa (.int 7))))) (asg 2 (af b4 (nm 2) (bk [(bk [(aS n5 [(nm 5),(nm 6)]),(aS m2 [(nm 5),(nm 6)]),(ao 7)])])))))))) (bN (bk [(ao 1),(ao 2)])))))
def pU:List T->Option T:=cV ye 8
end aQ
end
section
namespace c2
noncomputable def g5(e:Int×Int)(x:Int):Option Int:=if e.1=x then some e.2 else if e.2=x then some e.1 else none
def kQ(E:List (Int×Int))(x y:Int):Prop:=∃e∈E,g5 e x=some y
inductive Reach(E:List (Int×Int)):Int->Prop
|zero:Reach E 0
|step {x y:Int}:Reach E x->kQ E x y->Reach E y
noncomputable def Within(R:Int)(E:List (Int×Int)):Prop:=∀e∈E,0<=e.1/\e.1<=R/\0<=e.2/\e.2<=R
def JX{R:Int}{E:List (Int×Int)}(h:Within R E){x y:Int}(a:kQ E x y):0<=y/\y<=R:=by
 obtain⟨e,he,aq⟩:=a;obtain⟨ae,aj,a8,b9⟩:=h e he;unfold g5 at aq;split at aq
 ·cases aq;exact⟨a8,b9⟩
 ·split at aq
  ·cases aq;exact⟨ae,aj⟩
  ·cases aq
theorem uK:∀(n:Nat) (l:List Int),l.Nodup->(∀x∈l,0<=x/\x<n)->l.length<=n
|0,l,_,ab=>by
  cases l with
  |nil=>simp
  |cons x r=>have:=ab x (by simp);omega
|n+1,l,aW,ab=>by
  have ae:=uK n (l.filter λx=>decide (x≠(n:Int))) (aW.filter _) (λx hx=>by
   have:=List.mem_filter.mp hx;have lB:=ab x this.1;have:x≠(n:Int):=by simpa using this.2
   omega)
  have aj:l.length<=(l.filter λx=>decide (x≠(n:Int))).length+1:=by
   clear ae ab
   induction l with
   |nil=>simp
   |cons y r bc=>
    have hs:=eO.mp aW;by_cases e:y=(n:Int)
    ·subst e;have:r.filter (λx=>decide (x≠(n:Int)))=r:=List.filter_eq_self.mpr λx hx=>by
      have:x≠(n:Int):=λz=>hs.1 (z▸hx);simpa using this
     rw[List.filter_cons_of_neg (by simp),this];simp
    ·rw[List.filter_cons_of_pos (by simpa using e)];have:=bc hs.2;simp only[eJ];omega
  omega
noncomputable def inner(h:Int):List (Int×Int)->List Int->List Int->List Int×List Int
| [],r,w=>(r,w)
|e::es,r,w=>match g5 e h with
  |some t=>if t∈r then inner h es r w else inner h es (r++[t]) (w++[t])
  |none=>inner h es r w
noncomputable def nO(E:List (Int×Int)):Nat->List Int->List Int->Option (List Int)
|0,_,_=>none
|n+1,r,w=>match w.getLast? with
  |none=>some r
  |some h=>nO E n (inner h E r w.dropLast).1 (inner h E r w.dropLast).2
theorem Cg(h:Int):∀(E:List (Int×Int)) (r w:List Int),∃new:List Int,inner h E r w=(r++new,w++new)/\(r.Nodup->(r++new).Nodup)/\(∀y∈new,kQ E h y)/\∀y,kQ E h y->y∈r++new
| [],r,w=>⟨[],by simp[inner],by simp,by simp,λy ⟨e,he,_⟩=>by simp at he⟩
|e::es,r,w=>by
  unfold inner;have up:∀{y:Int},kQ es h y->kQ (e::es) h y:=λ⟨bg,ae,aj⟩=>⟨bg,dq _ ae,aj⟩;split
  next t bo=>
   split
   next hm=>
    obtain⟨new,ae,aj,a8,b9⟩:=Cg h es r w;refine⟨new,ae,aj,λy aV=>up (a8 y aV),λy ⟨bg,gG,aq⟩=>?_⟩;rcases ct.mp gG with rfl|gG
    ·rw[bo] at aq;cases aq;exact List.mem_append_left _ hm
    ·exact b9 y ⟨bg,gG,aq⟩
   next hm=>
    obtain⟨new,ae,aj,a8,b9⟩:=Cg h es (r++[t]) (w++[t]);refine⟨t::new,by rw[ae];simp,λaW=>?_,λy aV=>?_,λy ⟨bg,gG,aq⟩=>?_⟩
    ·have:(r++[t]).Nodup:=by
      rw[jH];refine⟨aW,by simp,λa aq b ab=>?_⟩;have:b=t:=by simpa using ab
      subst this;exact λz=>hm (z▸aq)
     simpa using aj this
    ·rcases ct.mp aV with rfl|aV
     ·exact⟨e,fx,bo⟩
     ·exact up (a8 y aV)
    ·rcases ct.mp gG with rfl|gG
     ·rw[bo] at aq;cases aq;simp
     ·have:=b9 y ⟨bg,gG,aq⟩;simpa using this
  next aX=>
   obtain⟨new,ae,aj,a8,b9⟩:=Cg h es r w;refine⟨new,ae,aj,λy aV=>up (a8 y aV),λy ⟨bg,gG,aq⟩=>?_⟩;rcases ct.mp gG with rfl|gG
   ·rw[aX] at aq;cases aq
   ·exact b9 y ⟨bg,gG,aq⟩
structure Dd(R:Int)(E:List (Int×Int))(r w:List Int):Prop where
 aW:r.Nodup
 z:(0:Int)∈r
 wr:∀x∈w,x∈r
 bd:∀x∈r,0<=x/\x<=R
 re:∀x∈r,Reach E x
 cl:∀x∈r,x∉w->∀y,kQ E x y->y∈r
theorem Sw{R:Int}{E:List (Int×Int)}(gX:Within R E)(fK:R<=7):∀(n:Nat) (r w:List Int),Dd R E r w->2*(8 - r.length)+w.length<n->∃cu,nO E n r w=some cu/\Dd R E cu []
|0,r,w,m,h=>by omega
|n+1,r,w,m,h=>by
  unfold nO;split
  next e=>exact⟨r,rfl,by have:w=[]:=(by simpa using e);subst this;exact m⟩
  next x e=>
   have hw:w=w.dropLast++[x]:=by
    have dJ:w≠[]:=by rintro rfl;simp at e
    have:=List.dropLast_concat_getLast dJ;have aL:w.getLast dJ=x:=by
     rw[List.getLast?_eq_getLast dJ] at e;exact fc e
    rw[aL] at this;exact this.symm
   obtain⟨new,ae,aj,a8,b9⟩:=Cg x E r w.dropLast;rw[ae];have hx:x∈w:=by rw[hw];simp
   have aW:=aj m.aW;have m':Dd R E (r++new) (w.dropLast++new):=by
    refine⟨aW,List.mem_append_left _ m.z,λy aV=>?_,λy aV=>?_,λy aV=>?_,λy aV aX z LS=>?_⟩
    ·rcases gz.mp aV with aV|aV
     ·exact List.mem_append_left _ (m.wr y (List.dropLast_subset _ aV))
     ·exact iM _ aV
    ·rcases gz.mp aV with aV|aV
     ·exact m.bd y aV
     ·exact JX gX (a8 y aV)
    ·rcases gz.mp aV with aV|aV
     ·exact m.re y aV
     ·exact .step (m.re x (m.wr x hx)) (a8 y aV)
    ·by_cases M0:y=x
     ·subst M0;exact b9 z LS
     ·rcases gz.mp aV with aV|aV
      ·refine List.mem_append_left _ (m.cl y aV (λNU=>aX (List.mem_append_left _ ?_)) z LS)
       rw[hw] at NU;rcases gz.mp NU with q|q
       ·exact q
       ·exact absurd (by simpa using q) M0
      ·exact absurd (iM _ aV) aX
   have _o:(r++new).length<=8:=uK 8 _ aW λy aV=>by have:=m'.bd y aV;omega
   have lw:w.length=w.dropLast.length+1:=by
    conv=>lhs;rw[hw]
    simp
   refine Sw gX fK n _ _ m' ?_
   simp only[jI] at _o ⊢;omega
def V4{R:Int}{E:List (Int×Int)}(gX:Within R E)(h0:0<=R)(fK:R<=7){n:Nat}(aX:15<n):∃r,nO E n [0] [0]=some r/\r.Nodup/\(∀x,x∈r <-> Reach E x)/\∀x∈r,0<=x/\x<=R:=by
 obtain⟨r,ae,m⟩:=Sw (n:=n) gX fK [0] [0] ⟨by simp,by simp,by simp,by simpa using h0,λx hx=>(show x=0 by simpa using hx)▸Reach.zero,by simp⟩ (by simp;omega);refine⟨r,ae,m.aW,λx=>⟨m.re x,λhx=>?_⟩,m.bd⟩
 induction hx with
|zero=>exact m.z
|step _ a bc=>exact m.cl _ bc (by simp) _ a
noncomputable def exts(rec:List Int->Option (List (List Nat)))(pl:List Int)(h:Int):Nat->List (Int×Int)->Option (List (List Nat))
|_,[]=>some []
|k,e::es=>match g5 e h with
  |some t=>if t∈pl then exts rec pl h (k+1) es else (rec (pl++[t])).bind λws=>(exts rec pl h (k+1) es).map λvs=>ws.map (λw=>k::w)++vs
  |none=>exts rec pl h (k+1) es
noncomputable def gY(E:List (Int×Int))(room:Int):Nat->List Int->Option (List (List Nat))
|0,_=>none
|n+1,pl=>match pl.getLast? with
  |none=>none
  |some h=>if h=room then some [[]] else exts (gY E room n) pl h 0 E
theorem Kv{rec:List Int->Option (List (List Nat))}{pl:List Int}{h:Int}{B:Nat}(C4:List (Int×Int))(au:∀t,kQ C4 h t->t∉pl->∃ws,rec (pl++[t])=some ws/\ws.length<=B):
  ∀(k:Nat) (E:List (Int×Int)),(∀e∈E,e∈C4)->∃ws,exts rec pl h k E=some ws/\ws.length<=E.length*B
|k,[],_=>⟨[],rfl,by simp⟩
|k,e::es,aC=>by
  obtain⟨vs,ae,aj⟩:=Kv C4 au (k+1) es λe he=>aC e (dq _ he);have a8:es.length*B<=(e::es).length*B:=Nat.mul_le_mul_right _ (by simp);unfold exts;split
  next t bo=>
   split
   next=>exact⟨vs,ae,by omega⟩
   next hm=>
    obtain⟨ws,b9,gE⟩:=au t ⟨e,aC e fx,bo⟩ hm;refine⟨_,by rw[b9,ae];rfl,?_⟩;simp only[jI,eb,eJ,Nat.succ_mul];omega
  next=>exact⟨vs,ae,by omega⟩
theorem OV{R:Int}{E:List (Int×Int)}(gX:Within R E)(fK:R<=7)(av:E.length<=10)(room:Int):
  ∀(n:Nat) (pl:List Int),pl≠[]->pl.Nodup->(∀x∈pl,0<=x/\x<=R)->9<=n+pl.length->∃ws,gY E room n pl=some ws/\ws.length<=10 ^ (8 - pl.length)
|0,pl,dJ,aW,ab,aX=>by
  have:=uK 8 pl aW λy aV=>by have:=ab y aV;omega
  omega
|n+1,pl,dJ,aW,ab,aX=>by
  unfold gY;rw[List.getLast?_eq_getLast dJ];simp only;split
  next=>exact⟨_,rfl,by simpa using Nat.one_le_pow _ 10 (by decide)⟩
  next=>
   have Av:=uK 8 pl aW λy aV=>by have:=ab y aV;omega
   by_cases full:pl.length=8
   ·
    have _E:∀t,kQ E (pl.getLast dJ) t->t∉pl->False:=λt a hm=>by
     have hw:=JX gX a;have hs:(pl++[t]).Nodup:=by
      rw[jH];refine⟨aW,by simp,λx hx y aV=>?_⟩;have:y=t:=by simpa using aV
      subst this;exact λz=>hm (z▸hx)
     have:=uK 8 (pl++[t]) hs λy aV=>by
      rcases gz.mp aV with aV|aV
      ·have:=ab y aV;omega
      ·have:y=t:=by simpa using aV
       subst this;omega
     simp at this;omega
    obtain⟨ws,ae,aj⟩:=Kv (B:=0) (pl:=pl) (h:=pl.getLast dJ) (rec:=gY E room n) E (λt a hm=>(_E t a hm).elim) 0 E λ_ h=>h;exact⟨ws,ae,by have:ws.length=0:=(by omega);rw[this];exact k9 _⟩
   ·obtain⟨ws,ae,aj⟩:=Kv (B:=10 ^ (8 - (pl.length+1))) (pl:=pl) (h:=pl.getLast dJ) (rec:=gY E room n) E (λt a hm=>by
     have hw:=JX gX a;have:=OV gX fK av room n (pl++[t]) (by simp) (by
      rw[jH];refine⟨aW,by simp,λx hx y aV=>?_⟩;have:y=t:=by simpa using aV
      subst this;exact λz=>hm (z▸hx)) (λy aV=>by
      rcases gz.mp aV with aV|aV
      ·exact ab y aV
      ·have:y=t:=by simpa using aV
       subst this;exact hw) (by simp;omega)
     simpa using this) 0 E λ_ h=>h
    refine⟨ws,ae,?_⟩
    have e:8 - pl.length=(8 - (pl.length+1))+1:=by omega
    rw[e,Nat.pow_succ];have:=Nat.mul_le_mul_right (10 ^ (8 - (pl.length+1))) av;omega
inductive Walk(E:List (Int×Int)):Int->List Int->Int->Prop
|nil (x:Int):Walk E x [] x
|cons {x y z:Int} {p:List Int}:kQ E x y->Walk E y p z->Walk E x (y::p) z
theorem x'{rec:List Int->Option (List (List Nat))}{pl:List Int}{h:Int}:∀{k:Nat} {E:List (Int×Int)} {ws:List (List Nat)},exts rec pl h k E=some ws->∀t,kQ E h t->t∉pl->∃vs,rec (pl++[t])=some vs/\(vs≠[]->ws≠[])
|k,[],ws,e,t,⟨bg,gG,_⟩,_=>by simp at gG
|k,e::es,ws,ae,t,⟨bg,gG,aq⟩,hm=>by
  unfold exts at ae;split at ae
  next t' uB=>
   split at ae
   next sD=>
    rcases ct.mp gG with rfl|gG
    ·rw[uB] at aq;cases aq;exact absurd sD hm
    ·exact x' ae t ⟨bg,gG,aq⟩ hm
   next sD=>
    simp only[b0,dR] at ae;obtain⟨us,aj,vs,a8,rfl⟩:=ae;rcases ct.mp gG with rfl|gG
    ·rw[uB] at aq;cases aq;exact⟨us,aj,λq z=>q (by have:=(List.append_eq_nil_iff.mp z).1;simpa using this)⟩
    ·obtain⟨xs,aM,a9⟩:=x' a8 t ⟨bg,gG,aq⟩ hm;exact⟨xs,aM,λq z=>a9 q (List.append_eq_nil_iff.mp z).2⟩
  next aX=>
   rcases ct.mp gG with rfl|gG
   ·rw[aX] at aq;cases aq
   ·exact x' ae t ⟨bg,gG,aq⟩ hm
theorem Cx{rec:List Int->Option (List (List Nat))}{pl:List Int}{h:Int}:∀{k:Nat} {E:List (Int×Int)} {ws:List (List Nat)},exts rec pl h k E=some ws->ws≠[]->∃t vs,kQ E h t/\t∉pl/\rec (pl++[t])=some vs/\vs≠[]
|k,[],ws,e,aX=>by
  cases e
  exact absurd rfl aX
|k,e::es,ws,ae,dJ=>by
  have up:∀{y:Int},kQ es h y->kQ (e::es) h y:=λ⟨bg,ae,aj⟩=>⟨bg,dq _ ae,aj⟩;unfold exts at ae;split at ae
  next t bo=>
   split at ae
   next=>
    obtain⟨t',vs,a,b,c,d⟩:=Cx ae dJ;exact⟨t',vs,up a,b,c,d⟩
   next hm=>
    simp only[b0,dR] at ae;obtain⟨us,aj,vs,a8,rfl⟩:=ae;by_cases bH:us=[]
    ·subst bH;obtain⟨t',e7,a,b,c,d⟩:=Cx a8 (by simpa using dJ);exact⟨t',e7,up a,b,c,d⟩
    ·exact⟨t,us,⟨e,fx,bo⟩,hm,aj,bH⟩
  next=>
   obtain⟨t',vs,a,b,c,d⟩:=Cx ae dJ;exact⟨t',vs,up a,b,c,d⟩
theorem PA{E:List (Int×Int)}{room:Int}:∀{p:List Int} {n:Nat} {pl:List Int} {cur:Int} {ws:List (List Nat)},Walk E cur p room->(cur::p).Nodup->(∀y∈p,y∉pl)->pl.getLast?=some cur->gY E room n pl=some ws->ws≠[]
|p,0,pl,cur,ws,_,_,_,_,h=>by cases h
| [],n+1,pl,cur,ws,hw,_,_,av,h=>by
  cases hw
  unfold gY at h;rw[av] at h;simp only[if_true] at h;cases h;simp
|y::p,n+1,pl,cur,ws,hw,aW,az,av,h=>by
  cases hw with
  |cons a w=>
   unfold gY at h;rw[av] at h;simp only at h;split at h
   next=>cases h;simp
   next=>
    obtain⟨vs,ae,aj⟩:=x' h y a (az y (by simp));have hs:=(eO.mp aW).2;refine aj (PA w hs (λz hz hm=>?_) (by simp) ae);rcases gz.mp hm with hm|hm
    ·exact az z (dq _ hz) hm
    ·have:z=y:=by simpa using hm
     subst this;exact (eO.mp hs).1 hz
theorem PB{E:List (Int×Int)}{room:Int}:∀{n:Nat} {pl:List Int} {cur:Int} {ws:List (List Nat)},pl.getLast?=some cur->gY E room n pl=some ws->ws≠[]->∃p,Walk E cur p room
|0,pl,cur,ws,_,h,_=>by cases h
|n+1,pl,cur,ws,av,h,dJ=>by
  unfold gY at h;rw[av] at h;simp only at h;split at h
  next e=>
   subst e;exact⟨[],.nil _⟩
  next=>
   obtain⟨t,vs,a,b,c,d⟩:=Cx h dJ;obtain⟨p,w⟩:=PB (pl:=pl++[t]) (cur:=t) (by simp) c d;exact⟨t::p,.cons a w⟩
def agF{E:List (Int×Int)}{x y z:Int}{p:List Int}(w:Walk E x p y)(a:kQ E y z):Walk E x (p++[z]) z:=by
 induction w with
|nil x=>exact .cons a (.nil z)
|cons b _ bc=>exact .cons b (bc a)
def P_{E:List (Int×Int)}{x y:Int}{p:List Int}(w:Walk E x p y)(r:Reach E x):Reach E y:=by
 induction w with
|nil x=>exact r
|cons a _ bc=>exact bc (.step r a)
def ahH{E:List (Int×Int)}{x z y:Int}{p:List Int}(w:Walk E x p z)(aW:(x::p).Nodup)(aV:y∈x::p):∃q,Walk E x q y/\(x::q).Nodup:=by
 induction w with
|nil x=>
  have:y=x:=by simpa using aV
  subst this;exact⟨[],.nil _,by simp⟩
| @cons x u z p a w bc=>
  by_cases e:y=x
  ·subst e;exact⟨[],.nil _,by simp⟩
  ·have hs:=eO.mp aW;have sub:∀{q:List Int},Walk E u q y->True:=λ_=>trivial;obtain⟨q,dv,H',aC⟩:∃q,Walk E u q y/\(u::q).Nodup/\∀t∈u::q,t∈u::p:=by
    have uD:y∈u::p:=by
     rcases ct.mp aV with h|h
     ·exact absurd h e
     ·exact h
    clear bc sub a aW aV e;have _y:=hs.2;clear hs
    induction w with
    |nil u=>
     have:y=u:=by simpa using uD
     subst this;exact⟨[],.nil _,by simp,by simp⟩
    | @cons u v z p b w bc=>
     by_cases e:y=u
     ·subst e;exact⟨[],.nil _,by simp,by simp⟩
     ·have md:=eO.mp _y;obtain⟨q,dv,H',aC⟩:=bc (by
       rcases ct.mp uD with h|h
       ·exact absurd h e
       ·exact h) md.2
      refine⟨v::q,.cons b dv,eO.mpr ⟨λh=>md.1 (aC u h),H'⟩,λt bo=>?_⟩
      rcases ct.mp bo with rfl|bo
      ·simp
      ·exact dq _ (aC t bo)
   exact⟨u::q,.cons a dv,eO.mpr ⟨λh=>hs.1 (aC x h),H'⟩⟩
def Qh{E:List (Int×Int)}{x:Int}(r:Reach E x):∃p,Walk E 0 p x/\((0:Int)::p).Nodup:=by
 induction r with
|zero=>exact⟨[],.nil _,by simp⟩
| @step x y _ a bc=>
  obtain⟨p,w,aW⟩:=bc;by_cases h:y∈(0:Int)::p
  ·exact ahH w aW h
  ·refine⟨p++[y],agF w a,?_⟩
   rw[<- mn,jH];refine⟨aW,by simp,λs aC t bo=>?_⟩;have:t=y:=by simpa using bo
   subst this;exact λe=>h (e▸aC)
def ad'{E:List (Int×Int)}{room:Int}{n:Nat}{ws:List (List Nat)}(h:gY E room n [0]=some ws):ws≠[] <-> Reach E room:=by
 constructor
 ·intro dJ;obtain⟨p,w⟩:=PB (cur:=0) (by simp) h dJ;exact P_ w .zero
 ·intro r;obtain⟨p,w,aW⟩:=Qh r;refine PA w aW (λy aV hm=>?_) (by simp) h;have:y=0:=by simpa using hm
  subst this;exact (eO.mp aW).1 aV
end c2
end
section
namespace aQ
open PySem D
abbrev Op:=Int×Int×Option Str
def cJ:Option Str->T
|none=>.none
|some x=>.str x
def cZ(o:Op):T:=.tuple [.int o.1,.int o.2.1,cJ o.2.2]
def b_(R:Int)(os:List Op):T:=.tuple [.int R,.tuple (os.map cZ)]
def iS(ns:List Str):T:=.tuple (ns.map .str)
noncomputable def free(ns:List Str)(o:Op):Bool:=match o.2.2 with
|none=>true
|some x=>decide (x∈ns)
def fs(o:Op):Int×Int:=(o.1,o.2.1)
def fb:Option Int->T
|some t=>.int t
|none=>.none
def al'(a b:Int):oEq (.int a) (.int b)=some (.bool (decide (a=b))):=by
 simp[oEq,qu,hY,Bool.beq_eq_decide_eq]
def fT{a b:bD}{ε ε':Ev}(h:a ε=some (.bR ε')):seq a b ε=b ε':=by
 simp only[seq,h,cp]
def Rc(o:Op)(h:Int):jK [cZ o,.int h]=some (fb (c2.g5 (fs o) h)):=by
 obtain⟨a,b,z⟩:=o;by_cases ae:a=h
 ·simp[jK,vq,cZ,cV,seq,iff,aZ,e6,dy,eI,ft,di,ofT,cn,af,aS,args,aa,nm,ao,bN,skip,asg,e_,hp,par,bk,dD,e3,dx,aP,ei,eL,bA,dV,fG,cQ,comp,fN,al',c2.g5,fs,fb,ae]
 ·by_cases aj:b=h
  ·simp[jK,vq,cZ,cV,seq,iff,aZ,e6,dy,eI,ft,di,ofT,cn,af,aS,args,aa,nm,ao,bN,skip,asg,e_,hp,par,bk,dD,e3,dx,aP,ei,eL,bA,dV,fG,cQ,comp,fN,al',c2.g5,fs,fb,ae,aj]
  ·simp[jK,vq,cZ,cV,seq,iff,aZ,e6,dy,eI,ft,di,ofT,cn,af,aS,args,aa,nm,ao,bN,skip,asg,e_,hp,par,bk,dD,e3,dx,aP,ei,eL,bA,dV,fG,cQ,comp,fN,al',c2.g5,fs,fb,ae,aj]
def Lj(ns:List Str):Prop:=∀x∈ns,(kc x).canLay0=true
def Lo(os:List Op):Prop:=∀o∈os,∀x,o.2.2=some x->(kc x).canLay0=true
theorem Q7{ns:List Str}(aX:Lj ns):∀(os:List Op),Lo os->∀j,gQ (bA 0) (eI (aZ (cn e3 (af aP (nm 0) (aa (.int 2))))) (aZ (af (eB false) (af aP (nm 0) (aa (.int 2))) (nm 1)))) (ao 0) (os.map cZ) [j,some (.U (iS ns))]=some ((os.filter (free ns)).map cZ)
| [],_,j=>rfl
|o::os,aE,j=>by
  obtain⟨a,b,z⟩:=o;have bc:=Q7 aX os (λo h=>aE o (by simp[h])) (some (.U (cZ (a,b,z))));cases z with
  |none=>
   simp[gQ,cV,seq,iff,aZ,e6,dy,eI,ft,di,ofT,cn,af,aS,args,aa,nm,ao,bN,skip,asg,e_,hp,par,bk,dD,e3,dx,aP,ei,eL,bA,dV,fG,cQ,comp,fN,cZ,cJ,free] at bc ⊢;exact⟨_,bc,rfl⟩
  |some x=>
   have hx:=aE (a,b,some x) (by simp) x rfl;by_cases hm:x∈ns
   ·simp[gQ,cV,seq,iff,aZ,e6,dy,eI,ft,di,ofT,cn,af,aS,args,aa,nm,ao,bN,skip,asg,e_,hp,par,bk,dD,e3,dx,aP,ei,eL,bA,dV,fG,cQ,comp,fN,cZ,cJ,free,iS,KS _ _ _ hx aX,hm] at bc ⊢;exact bc
   ·simp[gQ,cV,seq,iff,aZ,e6,dy,eI,ft,di,ofT,cn,af,aS,args,aa,nm,ao,bN,skip,asg,e_,hp,par,bk,dD,e3,dx,aP,ei,eL,bA,dV,fG,cQ,comp,fN,cZ,cJ,free,iS,KS _ _ _ hx aX,hm] at bc ⊢;exact bc
def bU(r:List Int):List (Key×T):=r.map λx=>(Sum.inl x,.bool true)
def K0(r:List Int)(t:Int):nZ (bU r) (.inl t)=decide (t∈r):=by
 induction r with
|nil=>rfl
|cons a r bc=>
  unfold nZ bU at bc ⊢;rw[cP,List.any_cons,bc];by_cases e:a=t
  ·simp[e]
  ·have bg:¬t=a:=λz=>e z.symm;simp[e,bg]
def aiZ{r:List Int}{t:Int}(h:t∉r):putD (bU r) (.inl t) (.bool true)=bU (r++[t]):=by
 have:=K0 r t;unfold nZ at this;unfold putD;rw[this];simp[h,bU]
noncomputable def ud:bD:=seq (asg 7 (aS jK [(ao 6),(ao 5)]))
  (iff (dy (aZ (cn dx (nm 7))) (aZ (pT true (nm 7) 3))) (seq (sh 3 (nm 7) (aa (.bool true))) (app 4 (ao 7))) skip)
noncomputable def gd(h n u:T)(r w:List Int)(here:Option aR)(da dm:Option aR):Ev:=[some (.U h),some (.U n),some (.U u),some (.fD (bU r)),some (.own (w.map .int)),here,da,dm]
def ajp(h n u:T)(r w:List Int)(here:Int)(o:Op)(dm:Option aR)(au:r.length<16777216)(hw:w.length<16777216):
  ud (gd h n u r w (some (.U (.int here))) (some (.U (cZ o))) dm)=some (.bR (match c2.g5 (fs o) here with
   |some t=>if t∈r then gd h n u r w (some (.U (.int here))) (some (.U (cZ o))) (some (.U (.int t))) else gd h n u (r++[t]) (w++[t]) (some (.U (.int here))) (some (.U (cZ o))) (some (.U (.int t)))
   |none=>gd h n u r w (some (.U (.int here))) (some (.U (cZ o))) (some (.U .none)))):=by
 have ab:=Rc o here;cases aq:c2.g5 (fs o) here with
|none=>
  rw[aq] at ab;simp[ud,gd,cV,seq,iff,aZ,e6,dy,eI,ft,di,ofT,cn,af,aS,args,aa,nm,ao,bN,skip,asg,e_,hp,par,bk,dD,e3,dx,aP,ei,eL,bA,dV,fG,cQ,comp,fN,ab,fb]
|some t=>
  rw[aq] at ab;by_cases hm:t∈r
  ·simp[ud,gd,cV,seq,iff,aZ,e6,dy,eI,ft,di,ofT,cn,af,aS,args,aa,nm,ao,bN,skip,asg,e_,hp,par,bk,dD,e3,dx,aP,ei,eL,bA,dV,fG,cQ,comp,fN,ab,fb,pT,keyOf,dic?,K0,hm]
  ·have ay:(bU r).length=r.length:=by simp[bU]
   simp[ud,gd,cV,seq,iff,aZ,e6,dy,eI,ft,di,ofT,cn,af,aS,args,aa,nm,ao,bN,skip,asg,e_,hp,par,bk,dD,e3,dx,aP,ei,eL,bA,dV,fG,cQ,comp,fN,ab,fb,pT,sh,app,keyOf,dic?,K0,aiZ hm,hm,ay,au,hw,big]
theorem CI(h n u:T)(here:Int):∀(os:List Op) (r w:List Int) (da dm:Option aR),r.length+os.length<16777216->w.length+os.length<16777216 ->
  ∃kC oX,forL (bA 6) ud (os.map cZ) (gd h n u r w (some (.U (.int here))) da dm)=some (.bR (gd h n u (c2.inner here (os.map fs) r w).1 (c2.inner here (os.map fs) r w).2 (some (.U (.int here))) kC oX))
| [],r,w,da,dm,_,_=>⟨da,dm,rfl⟩
|o::os,r,w,da,dm,au,hw=>by
  simp only[eJ] at au hw;have st:=ajp h n u r w here o dm (by omega) (by omega);have cx:bA 6 (cZ o) (gd h n u r w (some (.U (.int here))) da dm)=some (gd h n u r w (some (.U (.int here))) (some (.U (cZ o))) dm):=rfl;simp only[cP,forL,cx,cp,st,c2.inner];cases aq:c2.g5 (fs o) here with
  |none=>exact CI h n u here os r w _ _ (by omega) (by omega)
  |some t=>
   by_cases hm:t∈r
   ·simp only[hm,if_true];exact CI h n u here os r w _ _ (by omega) (by omega)
   ·simp only[hm,if_false];exact CI h n u here os (r++[t]) (w++[t]) _ _ (by simp;omega) (by simp;omega)
def D0:bD:=seq (pop 5 4)
  (eT (cQ (ao 2)) (bA 6)
  ud)
theorem x_(h:Int):∀(E:List (Int×Int)) (r w:List Int),r.length<=(c2.inner h E r w).1.length/\(c2.inner h E r w).2.length+r.length=(c2.inner h E r w).1.length+w.length
| [],r,w=>⟨dw _,by simp[c2.inner];omega⟩
|e::E,r,w=>by
  unfold c2.inner;split
  next t _=>
   split
   ·exact x_ h E r w
   ·have:=x_ h E (r++[t]) (w++[t]);simp only[jI,eJ,ke] at this;omega
  next=>exact x_ h E r w
theorem Sx{E:List (Int×Int)}:∀(n:Nat) (r w:List Int) (cu:List Int),c2.nO E n r w=some cu->r.length<=cu.length
|0,r,w,cu,e=>by cases e
|n+1,r,w,cu,e=>by
  unfold c2.nO at e;split at e
  ·cases e
   exact dw _
  ·exact hi (x_ _ E r _).1 (Sx n _ _ cu e)
theorem Sf(h n:T)(os:List Op)(av:os.length<=10)(cu:List Int)(Fo:cu.length<=8):∀(k:Nat) (r w:List Int) (eU da dm:Option aR),c2.nO (os.map fs) k r w=some cu->w.length<=r.length ->
  ∃sN kC oX,og (e6 (nm 4)) D0 k (gd h n (.list (os.map cZ)) r w eU da dm)=some (.bR (gd h n (.list (os.map cZ)) cu [] sN kC oX))
|0,r,w,eU,da,dm,e,_=>by cases e
|k+1,r,w,eU,da,dm,e,hw=>by
  have au:=Sx _ r w cu e;unfold c2.nO at e;unfold og;cases mV:w.getLast? with
  |none=>
   rw[mV] at e;cases e;have:w=[]:=List.getLast?_eq_none_iff.mp mV;subst this;refine⟨eU,da,dm,?_⟩;simp[gd,e6,nm]
  |some here=>
   rw[mV] at e;dsimp only at e;have dJ:w≠[]:=λz=>by subst z;cases mV
   have bo:e6 (nm 4) (gd h n (.list (os.map cZ)) r w eU da dm)=some true:=by
    simp[gd,e6,nm,dJ]
   have az:pop 5 4 (gd h n (.list (os.map cZ)) r w eU da dm)=some (.bR (gd h n (.list (os.map cZ)) r w.dropLast (some (.U (.int here))) da dm)):=by
    have:(w.map PyData.int).getLast?=some (.int here):=by rw[List.getLast?_map,mV];rfl
    simp[pop,gd,this,List.map_dropLast]
   have hd:w.dropLast.length+1=w.length:=by
    rw[List.length_dropLast];have:=List.length_pos_iff.mpr dJ;omega
   obtain⟨kC,oX,aC⟩:=CI h n (.list (os.map cZ)) here os r w.dropLast da dm (by omega) (by omega);have hit:cQ (ao 2) (gd h n (.list (os.map cZ)) r w.dropLast (some (.U (.int here))) da dm)=some (os.map cZ):=by
    simp[cQ,ao,gd]
   have ab:D0 (gd h n (.list (os.map cZ)) r w eU da dm)=some (.bR (gd h n (.list (os.map cZ)) (c2.inner here (os.map fs) r w.dropLast).1 (c2.inner here (os.map fs) r w.dropLast).2 (some (.U (.int here))) kC oX)):=by
    simp only[D0,seq,az,cp,eT,hit,aC]
   have alD:=x_ here (os.map fs) r w.dropLast;obtain⟨a,b,c,z⟩:=Sf h n os av cu Fo k _ _ (some (.U (.int here))) kC oX e (by omega);exact⟨a,b,c,by simp only[bo,cp,if_true,ab,z]⟩
def uv(ns:List Str)(os:List Op):List (Int×Int):=(os.filter (free ns)).map fs
def ahj(r:List Int):intsOf ((bU r).map λp=>g_ p.1)=some r:=by
 induction r with
|nil=>rfl
|cons a r bc=>
  simp only[bU,cP,g_,intsOf] at bc ⊢;rw[bc];rfl
def agG{ns:List Str}(aX:Lj ns){R:Int}{os:List Op}(aE:Lo os)(av:os.length<=10){r:List Int}(ab:c2.nO (uv ns os) 1000 [0] [0]=some r)(Fo:r.length<=8):
  oK [b_ R os,iS ns]=some (.tuple ((sortI r).map .int)):=by
 have hf:(os.filter (free ns)).length<=10:=hi (amq _ _) av;obtain⟨eU,da,dm,aC⟩:=Sf (b_ R os) (iS ns) (os.filter (free ns)) hf r Fo 1000 [0] [0] none none none ab (by simp);have ar:=Q7 aX os aE none;have YA:asg 2 (comp 1 [1] (cQ (af aP (nm 0) (aa (.int 1)))) (bA 0) (eI (aZ (cn e3 (af aP (nm 0) (aa (.int 2))))) (aZ (af (eB false) (af aP (nm 0) (aa (.int 2))) (nm 1)))) (ao 0))
   [some (.U (b_ R os)),some (.U (iS ns)),none,none,none,none,none,none]=some (.bR [some (.U (b_ R os)),some (.U (iS ns)),some (.U (.list ((os.filter (free ns)).map cZ))),none,none,none,none,none]):=by
  have hit:cQ (af aP (nm 0) (aa (.int 1))) [some (.U (b_ R os)),some (.U (iS ns)),none,none,none,none,none,none]=some (os.map cZ):=by
   simp[cQ,af,nm,b_,aP,aa,ei,eL]
  have Yt:fN 1 [1] [some (.U (b_ R os)),some (.U (iS ns)),none,none,none,none,none,none]=[none,some (.U (iS ns))]:=rfl;simp only[asg,comp,hit,cp,Yt,ar,eb];rw[if_pos (by unfold big;omega)];rfl
 have aj:we 3 (aa (.int 0)) (aa (.bool true)) [some (.U (b_ R os)),some (.U (iS ns)),some (.U (.list ((os.filter (free ns)).map cZ))),none,none,none,none,none]=some (.bR [some (.U (b_ R os)),some (.U (iS ns)),some (.U (.list ((os.filter (free ns)).map cZ))),some (.fD (bU [0])),none,none,none,none]):=rfl;have a8:e_ 4 (dD [(aa (.int 0))]) [some (.U (b_ R os)),some (.U (iS ns)),some (.U (.list ((os.filter (free ns)).map cZ))),some (.fD (bU [0])),none,none,none,none]=some (.bR (gd (b_ R os) (iS ns) (.list ((os.filter (free ns)).map cZ)) [0] [0] none none none)):=by
  simp[e_,dD,args,aa,big,gd]
 have b9:bN (aS gq [(vz 3)]) (gd (b_ R os) (iS ns) (.list ((os.filter (free ns)).map cZ)) r [] eU da dm)=some (.dB (.tuple ((sortI r).map .int))):=by
  have ay:(bU r).length=r.length:=by simp[bU]
  have YD:dic? 3 (gd (b_ R os) (iS ns) (.list ((os.filter (free ns)).map cZ)) r [] eU da dm)=some (bU r):=rfl;simp only[bN,aS,args,vz,YD,cp,ay];rw[if_pos (by omega),ahj];simp[gq]
 have cx:oK [b_ R os,iS ns]=(yj [some (.U (b_ R os)),some (.U (iS ns)),none,none,none,none,none,none]).bind λo=>match o with|.dB t=>some t|.bR _=>some .none|_=>none:=rfl
 rw[cx];have ia:og (e6 (nm 4)) (seq (pop 5 4)
  (eT (cQ (ao 2)) (bA 6)
  (seq (asg 7 (aS jK [(ao 6),(ao 5)]))
  (iff (dy (aZ (cn dx (nm 7))) (aZ (pT true (nm 7) 3))) (seq (sh 3 (nm 7) (aa (.bool true)))
  (app 4 (ao 7))) skip)))) 1000 (gd (b_ R os) (iS ns) (.list ((os.filter (free ns)).map cZ)) [0] [0] none none none)=some (.bR (gd (b_ R os) (iS ns) (.list ((os.filter (free ns)).map cZ)) r [] eU da dm)):=aC
 unfold yj;rw[fT YA,fT aj,fT a8,fT ia,b9];rfl
end aQ
end
section
namespace aQ
open PySem D
def wT(w:List Nat):T:=.tuple (w.map λ(k:Nat)=>PyData.int (k:Int))
noncomputable def v'(rec:List T->Option T):bD:=(seq (asg 6 (aS jK [(ao 5),(af aP (nm 2) (cn jg (aa (.int 1))))])) (iff (dy (aZ (cn dx (nm 6))) (aZ (af (eB true) (nm 6) (nm 2)))) (ext 3 (comp 1 [4] (cQ (aS rec [(ao 0),(ao 1),(af b4 (nm 2) (bk [(ao 6)]))])) (bA 0) (di true) (af b4 (bk [(ao 1)]) (nm 0)))) skip))
noncomputable def fF(h:T)(room:Int)(pl:List Int)(acc:List (List Nat))(hT eU da:Option aR):Ev:=[some (.U h),some (.U (.int room)),some (.U (.tuple (pl.map .int))),some (.own (acc.map wT)),hT,eU,da]
theorem RR(k:Nat):∀(ws:List (List Nat)) (j:Option aR),(∀w∈ws,w.length<=100)->gQ (bA 0) (di true) (af b4 (bk [(ao 1)]) (nm 0)) (ws.map wT) [j,some (.U (.int k))]=some ((ws.map λw=>k::w).map wT)
| [],j,_=>rfl
|w::ws,j,h=>by
  have bc:=RR k ws (some (.U (wT w))) λw hw=>h w (by simp[hw]);have hw:=h w (by simp);have ax:af b4 (bk [(ao 1)]) (nm 0) [some (.U (wT w)),some (.U (.int k))]=some (wT (k::w)):=by
   have:1+w.length<=16777216:=by omega
   simp[af,bk,args,ao,nm,big,wT,b4,this]
  have cx:bA 0 (wT w) [j,some (.U (.int k))]=some [some (.U (wT w)),some (.U (.int k))]:=rfl;simp only[cP,gQ,cx,cp,di,if_true,ax,bc,d4]
def Si{pl:List Int}{h:Int}(az:pl.getLast?=some h):ei (pl.map PyData.int) (-1)=some (.int h):=by
 have dJ:pl≠[]:=λz=>by subst z;cases az
 have av:=List.length_pos_iff.mpr dJ;have hx:eL (pl.map PyData.int).length (-1)=some (pl.length - 1):=by
  unfold eL;rw[if_neg (by decide),eb,if_pos (by omega)];congr 1;omega
 unfold ei;rw[hx];simp only[cp,jn];rw[<- List.getLast?_eq_getElem?,az];rfl
def ajH{rec:List T->Option T}{m4:List Int->Option (List (List Nat))}(cL:T)(room:Int)(pl:List Int)(h:Int)(az:pl.getLast?=some h)(hpl:pl.length<=100)
  (o:Op) (k:Nat) (acc:List (List Nat)) (da:Option aR) (vs:List (List Nat))
  (a4:(match c2.g5 (fs o) h with|some t=>if t∈pl then some [] else (m4 (pl++[t])).map λws=>ws.map λw=>k::w|none=>some [])=some vs)
  (au:∀t ws,t∉pl->m4 (pl++[t])=some ws->ws.length<=vs.length->rec [cL,.int room,.tuple ((pl++[t]).map .int)]=some (.list (ws.map wT))/\∀w∈ws,w.length<=100) (hz:acc.length+vs.length<=16777216):
  ∃kC,v' rec (fF cL room pl acc (some (.U (.int k))) (some (.U (cZ o))) da)=some (.bR (fF cL room pl (acc++vs) (some (.U (.int k))) (some (.U (cZ o))) kC)):=by
 have ab:=Rc o h;have ba:=Si az;have ax:aS jK [(ao 5),(af aP (nm 2) (cn jg (aa (.int 1))))] (fF cL room pl acc (some (.U (.int k))) (some (.U (cZ o))) da)=some (fb (c2.g5 (fs o) h)):=by
  have:af aP (nm 2) (cn jg (aa (.int 1))) (fF cL room pl acc (some (.U (.int k))) (some (.U (cZ o))) da)=some (.int h):=by
   simp only[af,nm,fF,iq,hZ,cp,cn,aa,jg,aP];exact ba
  have amv:ao 5 (fF cL room pl acc (some (.U (.int k))) (some (.U (cZ o))) da)=some (cZ o):=rfl;simp only[aS,args,this,amv,cp,d4];exact ab
 have aL:asg 6 (aS jK [(ao 5),(af aP (nm 2) (cn jg (aa (.int 1))))]) (fF cL room pl acc (some (.U (.int k))) (some (.U (cZ o))) da)=some (.bR (fF cL room pl acc (some (.U (.int k))) (some (.U (cZ o))) (some (.U (fb (c2.g5 (fs o) h)))))):=by
  simp only[asg,ax,d4];rfl
 refine⟨some (.U (fb (c2.g5 (fs o) h))),?_⟩
 unfold v';rw[fT aL];cases aq:c2.g5 (fs o) h with
|none=>
  rw[aq] at a4;cases a4;simp[iff,dy,aZ,cn,dx,nm,fF,fb,skip]
|some t=>
  rw[aq] at a4;by_cases hm:t∈pl
  ·simp only[hm,if_true] at a4;cases a4;simp[iff,dy,aZ,cn,af,dx,nm,fF,fb,skip,KU,hm]
  ·simp only[hm,if_false,dR] at a4;obtain⟨ws,q3,rfl⟩:=a4;simp only[eb] at hz au;obtain⟨ae,aj⟩:=au t ws hm q3 (dw _);have c1:dy (aZ (cn dx (nm 6))) (aZ (af (eB true) (nm 6) (nm 2))) (fF cL room pl acc (some (.U (.int k))) (some (.U (cZ o))) (some (.U (fb (some t)))))=some true:=by
    simp[dy,aZ,cn,af,dx,nm,fF,fb,KU,hm]
   have a1:af b4 (nm 2) (bk [(ao 6)]) (fF cL room pl acc (some (.U (.int k))) (some (.U (cZ o))) (some (.U (fb (some t)))))=some (.tuple ((pl++[t]).map .int)):=by
    have:pl.length+1<=16777216:=by omega
    simp[af,nm,ao,fF,bk,args,big,fb,b4,this]
   have Zs:cQ (aS rec [(ao 0),(ao 1),(af b4 (nm 2) (bk [(ao 6)]))]) (fF cL room pl acc (some (.U (.int k))) (some (.U (cZ o))) (some (.U (fb (some t)))))=some (ws.map wT):=by
    have jf:ao 0 (fF cL room pl acc (some (.U (.int k))) (some (.U (cZ o))) (some (.U (fb (some t)))))=some cL:=rfl;have dX:ao 1 (fF cL room pl acc (some (.U (.int k))) (some (.U (cZ o))) (some (.U (fb (some t)))))=some (.int room):=rfl;simp only[cQ,aS,args,a1,jf,dX,cp,d4,ae]
   have V':comp 1 [4] (cQ (aS rec [(ao 0),(ao 1),(af b4 (nm 2) (bk [(ao 6)]))])) (bA 0) (di true) (af b4 (bk [(ao 1)]) (nm 0)) (fF cL room pl acc (some (.U (.int k))) (some (.U (cZ o))) (some (.U (fb (some t)))))=some (.list ((ws.map λw=>k::w).map wT)):=by
    simp only[comp,Zs,cp,eb];rw[if_pos (by unfold big;omega)];have:fN 1 [4] (fF cL room pl acc (some (.U (.int k))) (some (.U (cZ o))) (some (.U (fb (some t)))))=[none,some (.U (.int k))]:=rfl;rw[this,RR k ws none aj];rfl
   simp only[iff,c1,cp,if_true,ext,V'];simp only[fF,iq,hZ,eb];rw[if_pos (by unfold big;omega)];simp
theorem Sq{rec:List T->Option T}{m4:List Int->Option (List (List Nat))}(cL:T)(room:Int)(pl:List Int)(h:Int)(az:pl.getLast?=some h)(hpl:pl.length<=100)(N:Nat)(c3:N<=16777216)
  (au:∀t ws,t∉pl->m4 (pl++[t])=some ws->ws.length<=N->rec [cL,.int room,.tuple ((pl++[t]).map .int)]=some (.list (ws.map wT))/\∀w∈ws,w.length<=100):
  ∀(os:List Op) (k:Nat) (acc vs:List (List Nat)) (hT eU da:Option aR),c2.exts m4 pl h k (os.map fs)=some vs->acc.length+vs.length<=N ->
   ∃wY sN kC,forL (dV [(bA 4),(bA 5)]) (v' rec) (((os.map cZ).zipIdx k).map λp=>.tuple [.int p.2,p.1]) (fF cL room pl acc hT eU da)=some (.bR (fF cL room pl (acc++vs) wY sN kC))
| [],k,acc,vs,hT,eU,da,e,_=>by
  cases e
  exact⟨hT,eU,da,by simp[forL]⟩
|o::os,k,acc,vs,hT,eU,da,e,hz=>by
  have key:∃v1 v2,(match c2.g5 (fs o) h with|some t=>if t∈pl then some [] else (m4 (pl++[t])).map λws=>ws.map λw=>k::w|none=>some [])=some v1/\c2.exts m4 pl h (k+1) (os.map fs)=some v2/\vs=v1++v2:=by
   rw[cP] at e;unfold c2.exts at e;cases aq:c2.g5 (fs o) h with
   |none=>
    rw[aq] at e;exact⟨[],vs,rfl,e,rfl⟩
   |some t=>
    rw[aq] at e;by_cases hm:t∈pl
    ·simp only[hm,if_true] at e ⊢;exact⟨[],vs,rfl,e,rfl⟩
    ·simp only[hm,if_false,b0,dR] at e ⊢;obtain⟨ws,ae,v2,aj,rfl⟩:=e;exact⟨_,v2,⟨ws,ae,rfl⟩,aj,rfl⟩
  obtain⟨v1,v2,ae,aj,rfl⟩:=key;rw[jI] at hz;obtain⟨kC,aC⟩:=ajH (rec:=rec) (m4:=m4) cL room pl h az hpl o k acc da v1 ae (λt ws a b c=>au t ws a b (by omega)) (by omega);obtain⟨a,b,c,bc⟩:=Sq (rec:=rec) (m4:=m4) cL room pl h az hpl N c3 au os (k+1) (acc++v1) v2 (some (.U (.int k))) (some (.U (cZ o))) kC aj (by rw[jI];omega);refine⟨a,b,c,?_⟩;have cx:dV [(bA 4),(bA 5)] (.tuple [.int k,cZ o]) (fF cL room pl acc hT eU da)=some (fF cL room pl acc (some (.U (.int k))) (some (.U (cZ o))) da):=rfl;rw[cP,List.zipIdx_cons,cP];simp only[forL,cx,cp,aC];rw[bc,List.append_assoc]
def OU{E:List (Int×Int)}{room:Int}:∀(n:Nat) (pl:List Int) (ws:List (List Nat)),c2.gY E room n pl=some ws->∀w∈ws,w.length<=n:=by
 have ex:∀(n:Nat) (rec:List Int->Option (List (List Nat))) (pl:List Int) (h:Int),(∀q ws,rec q=some ws->∀w∈ws,w.length<=n)->∀(E:List (Int×Int)) (k:Nat) (ws:List (List Nat)),c2.exts rec pl h k E=some ws->∀w∈ws,w.length<=n+1:=by
  intro n rec pl h au E
  induction E with
  |nil=>
   intro k ws e w hw;cases e;cases hw
  |cons cx E bc=>
   intro k ws e w hw;unfold c2.exts at e;split at e
   ·split at e
    ·exact bc _ _ e w hw
    ·simp only[b0,dR] at e;obtain⟨us,ae,v2,aj,rfl⟩:=e;rcases gz.mp hw with q|q
     ·obtain⟨u,bH,rfl⟩:=dI.mp q;have:=au _ _ ae u bH;simp;omega
     ·exact bc _ _ aj w q
   ·exact bc _ _ e w hw
 intro n
 induction n with
|zero=>
  intro pl ws e;cases e
|succ n bc=>
  intro pl ws e w hw;unfold c2.gY at e;split at e
  ·cases e
  ·split at e
   ·cases e
    simp at hw;subst hw;simp
   ·exact ex n _ _ _ (λq ws e=>bc q ws e) _ _ _ e w hw
theorem P9{R:Int}{os:List Op}{room:Int}:∀(n:Nat) (pl:List Int) (ws:List (List Nat)),n+pl.length<=90->c2.gY (os.map fs) room n pl=some ws->ws.length<=16777216 ->
  mw n [b_ R os,.int room,.tuple (pl.map .int)]=some (.list (ws.map wT))
|0,pl,ws,aX,e,_=>by cases e
|n+1,pl,ws,aX,e,hz=>by
  have cx:mw (n+1) [b_ R os,.int room,.tuple (pl.map .int)]=(vl (mw n) [some (.U (b_ R os)),some (.U (.int room)),some (.U (.tuple (pl.map .int))),none,none,none,none]).bind λo=>match o with|.dB t=>some t|.bR _=>some .none|_=>none:=rfl
  rw[cx];unfold c2.gY at e;cases az:pl.getLast? with
  |none=>
   rw[az] at e;cases e
  |some h=>
   rw[az] at e;dsimp only at e;have ba:=Si az;have yX:aZ (af oEq (af aP (nm 2) (cn jg (aa (.int 1)))) (nm 1)) [some (.U (b_ R os)),some (.U (.int room)),some (.U (.tuple (pl.map .int))),none,none,none,none]=some (decide (h=room)):=by
    simp only[aZ,af,nm,iq,hZ,cp,cn,aa,jg,aP,ba,al']
   unfold vl;by_cases au:h=room
   ·rw[if_pos au] at e;cases e;simp only[seq,iff,yX,au,cp,decide_true,if_true,bN,dD,bk,args,d4];simp[big,wT]
   ·rw[if_neg au] at e;have s1:iff (aZ (af oEq (af aP (nm 2) (cn jg (aa (.int 1)))) (nm 1))) (bN (dD [(bk [])])) skip [some (.U (b_ R os)),some (.U (.int room)),some (.U (.tuple (pl.map .int))),none,none,none,none]=some (.bR [some (.U (b_ R os)),some (.U (.int room)),some (.U (.tuple (pl.map .int))),none,none,none,none]):=by
     simp only[iff,yX,au,cp,decide_false,iO,if_false,skip]
    have s2:e_ 3 (dD []) [some (.U (b_ R os)),some (.U (.int room)),some (.U (.tuple (pl.map .int))),none,none,none,none]=some (.bR (fF (b_ R os) room pl [] none none none)):=by
     simp[e_,dD,args,big,fF]
    obtain⟨a,b,c,aC⟩:=Sq (rec:=mw n) (m4:=c2.gY (os.map fs) room n) (b_ R os) room pl h az (by omega) ws.length hz
     (λt tf _ aj a8=>⟨P9 n (pl++[t]) tf (by simp;omega) aj (by omega),λw hw=>hi (OU n _ _ aj w hw) (by omega)⟩) os 0 [] ws none none none e (by simp)
    have it:oz (kk (af aP (nm 0) (aa (.int 1)))) (fF (b_ R os) room pl [] none none none)=some (((os.map cZ).zipIdx 0).map λp=>.tuple [.int p.2,p.1]):=by
     simp[oz,kk,af,nm,fF,b_,aa,aP,ei,eL,enum]
    have s3:eT (oz (kk (af aP (nm 0) (aa (.int 1))))) (dV [(bA 4),(bA 5)]) (v' (mw n)) (fF (b_ R os) room pl [] none none none)=some (.bR (fF (b_ R os) room pl ws a b c)):=by
     simp only[eT,it,cp];exact aC
    rw[fT s1,fT s2];have s4:seq (eT (oz (kk (af aP (nm 0) (aa (.int 1))))) (dV [(bA 4),(bA 5)]) (v' (mw n))) (bN (nm 3)) (fF (b_ R os) room pl [] none none none)=some (.dB (.list (ws.map wT))):=by
     rw[fT s3];simp[bN,nm,fF]
    have s5:=congrArg (λx:Option Out=>x.bind λo=>match o with|.dB t=>some t|.bR _=>some .none|_=>none) s4;exact s5
def aiF{R:Int}{os:List Op}{room:Int}{ws:List (List Nat)}(h:c2.gY (os.map fs) room 20 [0]=some ws)(hz:ws.length<=16777216):i0 [b_ R os,.int room]=some (.tuple (ws.map wT)):=by
 have ae:=P9 (R:=R) 20 [0] ws (by decide) h hz;have cx:i0 [b_ R os,.int room]=(yz [some (.U (b_ R os)),some (.U (.int room))]).bind λo=>match o with|.dB t=>some t|.bR _=>some .none|_=>none:=rfl
 rw[cx];have a1:args [(ao 0),(ao 1),(bk [(aa (.int 0))])] [some (.U (b_ R os)),some (.U (.int room))]=some [b_ R os,.int room,.tuple ([0].map .int)]:=by
  simp[args,ao,bk,aa,big]
 simp only[yz,bN,aS,args] at a1 ⊢;rw[a1];simp only[cp,ae,d4,gq]
end aQ
end
section
namespace aQ
open PySem D
def ef(ns:List Int):T:=.list (ns.map .int)
def K3(ns:List Int)(k:Nat):mu [ef ns,.int k]=some (.int (ns.getD k 0)):=by
 by_cases h:k<ns.length
 ·have h':(k:Int)<(ns.length:Int):=by omega
  simp[mu,tD,ef,cV,seq,iff,aZ,e6,dy,eI,ft,di,ofT,cn,af,aS,args,aa,nm,ao,bN,skip,asg,e_,hp,par,bk,dD,e3,dx,aP,ei,eL,bA,dV,fG,cQ,comp,fN,b4,q9,dn,oDiv,oMod,jg,fL,n5,m2,gq,tY,w8,oLt,oLe,oY,m1,big,h,h',List.getD]
 ·have h':¬(k:Int)<(ns.length:Int):=by omega
  simp[mu,tD,ef,cV,seq,iff,aZ,e6,dy,eI,ft,di,ofT,cn,af,aS,args,aa,nm,ao,bN,skip,asg,e_,hp,par,bk,dD,e3,dx,aP,ei,eL,bA,dV,fG,cQ,comp,fN,b4,q9,dn,oDiv,oMod,jg,fL,n5,m2,gq,tY,w8,oLt,oLe,oY,m1,big,h,h',List.getD]
def ki{i j:Int}(h:-(2 ^ 64)<j/\j<2 ^ 64):dn (.int i) (.int j)=some (.int (i*j)):=by
 unfold dn vL;simp only[decide_eq_true h.1,decide_eq_true h.2,Bool.and_self,Bool.or_true,if_true]
def kN{i j:Int}(h:0<j):oMod (.int i) (.int j)=some (.int (i % j)):=if_pos h
def vH{i j:Int}(h:0<j/\j<1073741824):oDiv (.int i) (.int j)=some (.int (i / j)):=if_pos h
def jP{i j:Int}:b4 (.int i) (.int j)=some (.int (i+j)):=rfl
def GK{α:Type}{a:α}{r:List α}:(a::r)[0]?=some a:=rfl
def Cd(ns:List Int)(k:Nat):∃m:Int,0<=m/\kg [ef ns,.int k]=some (.int m):=by
 have ar:=K3 ns k;have hd:0<=(ns.getD k 0+7919*(k:Int)+1)*48271 % 2147483647/\(ns.getD k 0+7919*(k:Int)+1)*48271 % 2147483647<2147483647:=⟨k_ _ (by decide),om _ (by decide)⟩;generalize hx:(ns.getD k 0+7919*(k:Int)+1)*48271 % 2147483647=d at hd;refine⟨(d*d+7*d+k) % 2147483629,k_ _ (by decide),?_⟩;have cx:kg [ef ns,.int k]=(tK [some (.U (ef ns)),some (.U (.int k)),none]).bind λo=>match o with|.dB t=>some t|.bR _=>some .none|_=>none:=rfl
 have iI:dn (.int 7919) (.int k)=some (.int (7919*k)):=by
  unfold dn vL;simp
 have jf:ao 0 [some (.U (ef ns)),some (.U (.int k)),none]=some (ef ns):=rfl;have dX:ao 1 [some (.U (ef ns)),some (.U (.int k)),none]=some (.int k):=rfl;have HU:nm 1 [some (.U (ef ns)),some (.U (.int k)),none]=some (.int k):=rfl;have s1:asg 2 (af oMod (af dn (af b4 (af b4 (aS mu [(ao 0),(ao 1)]) (af dn (aa (.int 7919)) (nm 1))) (aa (.int 1))) (aa (.int 48271))) (aa (.int 2147483647))) [some (.U (ef ns)),some (.U (.int k)),none]=some (.bR [some (.U (ef ns)),some (.U (.int k)),some (.U (.int d))]):=by
  simp only[asg,af,aS,args,jf,dX,HU,cp,d4,ar,aa,iI,jP,ki (i:=ns.getD k 0+7919*(k:Int)+1) (j:=48271) (by decide),kN (j:=2147483647) (by decide),hx];rfl
 have iJ:dn (.int d) (.int d)=some (.int (d*d)):=ki (by omega);have q6:dn (.int 7) (.int d)=some (.int (7*d)):=ki (by omega);rw[cx];unfold tK;rw[fT s1];have a9:nm 2 [some (.U (ef ns)),some (.U (.int k)),some (.U (.int d))]=some (.int d):=rfl;have aM:nm 1 [some (.U (ef ns)),some (.U (.int k)),some (.U (.int d))]=some (.int k):=rfl;simp only[bN,af,a9,aM,cp,d4,aa,iJ,q6,jP,kN (j:=2147483629) (by decide)]
def Kw(n k:Int)(ay:-(2 ^ 64)<k/\k<2 ^ 64):∃m:Int,0<=m/\kh [.int n,.int k]=some (.int m):=by
 have hd:0<=(n+104729*k+17)*69621 % 2147483647/\(n+104729*k+17)*69621 % 2147483647<2147483647:=⟨k_ _ (by decide),om _ (by decide)⟩;generalize hx:(n+104729*k+17)*69621 % 2147483647=d at hd;refine⟨(d*d+3*d+k) % 2147483629,k_ _ (by decide),?_⟩;have cx:kh [.int n,.int k]=(tL [some (.U (.int n)),some (.U (.int k)),none]).bind λo=>match o with|.dB t=>some t|.bR _=>some .none|_=>none:=rfl
 have iI:dn (.int 104729) (.int k)=some (.int (104729*k)):=ki ay;have jf:nm 0 [some (.U (.int n)),some (.U (.int k)),none]=some (.int n):=rfl;have dX:nm 1 [some (.U (.int n)),some (.U (.int k)),none]=some (.int k):=rfl;have s1:asg 2 (af oMod (af dn (af b4 (af b4 (nm 0) (af dn (aa (.int 104729)) (nm 1))) (aa (.int 17))) (aa (.int 69621))) (aa (.int 2147483647))) [some (.U (.int n)),some (.U (.int k)),none]=some (.bR [some (.U (.int n)),some (.U (.int k)),some (.U (.int d))]):=by
  simp only[asg,af,jf,dX,cp,d4,aa,iI,jP,ki (i:=n+104729*k+17) (j:=69621) (by decide),kN (j:=2147483647) (by decide),hx];rfl
 have iJ:dn (.int d) (.int d)=some (.int (d*d)):=ki (by omega);have q6:dn (.int 3) (.int d)=some (.int (3*d)):=ki (by omega);rw[cx];unfold tL;rw[fT s1];have a9:nm 2 [some (.U (.int n)),some (.U (.int k)),some (.U (.int d))]=some (.int d):=rfl;have aM:nm 1 [some (.U (.int n)),some (.U (.int k)),some (.U (.int d))]=some (.int k):=rfl;simp only[bN,af,a9,aM,cp,d4,aa,iJ,q6,jP,kN (j:=2147483629) (by decide)]
def names5:List Str:=["a","b","back","hall","win"]
noncomputable def vW(R:Int)(o:Op):Prop:=0<=o.1/\o.1<o.2.1/\o.2.1<=R/\∀x,o.2.2=some x->x∈names5
structure Drawn(R:Int)(os:List Op):Prop where
 bC:1<=R
 oZ:R<=7
 len:os.length<=10
 ok:∀o∈os,vW R o
noncomputable def v_:bD:=(seq (asg 4 (af oDiv (aS kh [(ao 0),(af b4 (aa (.int 50)) (nm 3))]) (aa (.int 4)))) (seq (asg 5 (af oMod (nm 4) (af b4 (nm 1) (aa (.int 1))))) (seq (asg 6 (af oMod (af b4 (af b4 (nm 5) (aa (.int 1))) (af oMod (af oDiv (nm 4) (aa (.int 8))) (nm 1))) (af b4 (nm 1) (aa (.int 1))))) (seq (asg 7 (af aP (bk [(aa .none),(aa .none),(aa (.str "a")),(aa (.str "b")),(aa (.str "back")),(aa (.str "hall")),(aa (.str "win"))]) (af oMod (af oDiv (nm 4) (aa (.int 64))) (aa (.int 7))))) (asg 2 (af b4 (nm 2) (bk [(bk [(aS n5 [(nm 5),(nm 6)]),(aS m2 [(nm 5),(nm 6)]),(ao 7)])])))))))
noncomputable def eF(n R:Int)(os:List Op)(sM hT eU da dm:Option aR):Ev:=[some (.U (.int n)),some (.U (.int R)),some (.U (.tuple (os.map cZ))),sM,hT,eU,da,dm]
def aiE(i:Int)(h0:0<=i)(qT:i<7)(ε:Ev):∃z:Option Str,(bk [(aa .none),(aa .none),(aa (.str "a")),(aa (.str "b")),(aa (.str "back")),(aa (.str "hall")),(aa (.str "win"))] ε).bind (λt=>aP t (.int i))=some (cJ z)/\∀x,z=some x->x∈names5:=by
 have ar:i=0\/i=1\/i=2\/i=3\/i=4\/i=5\/i=6:=by omega
 have e:bk [(aa .none),(aa .none),(aa (.str "a")),(aa (.str "b")),(aa (.str "back")),(aa (.str "hall")),(aa (.str "win"))] ε=some (.tuple [.none,.none,.str "a",.str "b",.str "back",.str "hall",.str "win"]):=by
  simp[bk,args,aa,big]
 rw[e];rcases ar with rfl|rfl|rfl|rfl|rfl|rfl|rfl
 ·exact⟨none,rfl,λx h=>by cases h⟩
 ·exact⟨none,rfl,λx h=>by cases h⟩
 ·exact⟨some "a",rfl,λx h=>by cases h;simp[names5]⟩
 ·exact⟨some "b",rfl,λx h=>by cases h;simp[names5]⟩
 ·exact⟨some "back",rfl,λx h=>by cases h;simp[names5]⟩
 ·exact⟨some "hall",rfl,λx h=>by cases h;simp[names5]⟩
 ·exact⟨some "win",rfl,λx h=>by cases h;simp[names5]⟩
def agg(n R:Int)(ae:1<=R)(qT:R<=7)(os:List Op)(av:os.length<1000)(k:Int)(ay:0<=k/\k<1000)(hT eU da dm:Option aR):
  ∃o wY sN kC oX,vW R o/\v_ (eF n R os (some (.U (.int k))) hT eU da dm)=some (.bR (eF n R (os++[o]) (some (.U (.int k))) wY sN kC oX)):=by
 obtain⟨m,hm,hd⟩:=Kw n (50+k) (by omega);have q0:0<=m / 4:=Int.ediv_nonneg hm (by decide);generalize a_:m / 4=q at q0;have s1:asg 4 (af oDiv (aS kh [(ao 0),(af b4 (aa (.int 50)) (nm 3))]) (aa (.int 4))) (eF n R os (some (.U (.int k))) hT eU da dm)=some (.bR (eF n R os (some (.U (.int k))) (some (.U (.int q))) eU da dm)):=by
  have jf:ao 0 (eF n R os (some (.U (.int k))) hT eU da dm)=some (.int n):=rfl;have md:nm 3 (eF n R os (some (.U (.int k))) hT eU da dm)=some (.int k):=rfl;simp only[asg,af,aS,args,jf,md,aa,jP,cp,d4,hd,vH (j:=4) (by decide),a_];rfl
 have alJ:0<=q % (R+1)/\q % (R+1)<R+1:=⟨k_ _ (by omega),om _ (by omega)⟩;have alL:0<=q / 8 % R/\q / 8 % R<R:=⟨k_ _ (by omega),om _ (by omega)⟩;have alI:(q % (R+1)+1+q / 8 % R) % (R+1)≠q % (R+1):=by
  generalize q % (R+1)=a at *;generalize q / 8 % R=b at *;intro e;by_cases c:a+1+b<R+1
  ·rw[Int.emod_eq_of_lt (by omega) c] at e;omega
  ·have:(a+1+b) % (R+1)=a+1+b - (R+1):=by
    rw[<- Int.sub_emod_right,Int.emod_eq_of_lt (by omega) (by omega)]
   omega
 have alK:0<=(q % (R+1)+1+q / 8 % R) % (R+1)/\(q % (R+1)+1+q / 8 % R) % (R+1)<R+1:=⟨k_ _ (by omega),om _ (by omega)⟩;have s2:asg 5 (af oMod (nm 4) (af b4 (nm 1) (aa (.int 1)))) (eF n R os (some (.U (.int k))) (some (.U (.int q))) eU da dm)=some (.bR (eF n R os (some (.U (.int k))) (some (.U (.int q))) (some (.U (.int (q % (R+1))))) da dm)):=by
  have w3:nm 4 (eF n R os (some (.U (.int k))) (some (.U (.int q))) eU da dm)=some (.int q):=rfl;have dX:nm 1 (eF n R os (some (.U (.int k))) (some (.U (.int q))) eU da dm)=some (.int R):=rfl;simp only[asg,af,w3,dX,aa,jP,cp,d4,kN (j:=R+1) (by omega)];rfl
 generalize q % (R+1)=one at *;have s3:asg 6 (af oMod (af b4 (af b4 (nm 5) (aa (.int 1))) (af oMod (af oDiv (nm 4) (aa (.int 8))) (nm 1))) (af b4 (nm 1) (aa (.int 1)))) (eF n R os (some (.U (.int k))) (some (.U (.int q))) (some (.U (.int one))) da dm)=some (.bR (eF n R os (some (.U (.int k))) (some (.U (.int q))) (some (.U (.int one))) (some (.U (.int ((one+1+q / 8 % R) % (R+1))))) dm)):=by
  have amv:nm 5 (eF n R os (some (.U (.int k))) (some (.U (.int q))) (some (.U (.int one))) da dm)=some (.int one):=rfl;have w3:nm 4 (eF n R os (some (.U (.int k))) (some (.U (.int q))) (some (.U (.int one))) da dm)=some (.int q):=rfl;have dX:nm 1 (eF n R os (some (.U (.int k))) (some (.U (.int q))) (some (.U (.int one))) da dm)=some (.int R):=rfl;simp only[asg,af,amv,w3,dX,aa,jP,cp,d4,vH (j:=8) (by decide),kN (j:=R) (by omega),kN (j:=R+1) (by omega)];rfl
 generalize (one+1+q / 8 % R) % (R+1)=f3 at *;obtain⟨z,hz,zY⟩:=aiE (q / 64 % 7) (k_ _ (by decide)) (om _ (by decide)) (eF n R os (some (.U (.int k))) (some (.U (.int q))) (some (.U (.int one))) (some (.U (.int f3))) dm);have s4:asg 7 (af aP (bk [(aa .none),(aa .none),(aa (.str "a")),(aa (.str "b")),(aa (.str "back")),(aa (.str "hall")),(aa (.str "win"))]) (af oMod (af oDiv (nm 4) (aa (.int 64))) (aa (.int 7)))) (eF n R os (some (.U (.int k))) (some (.U (.int q))) (some (.U (.int one))) (some (.U (.int f3))) dm)=some (.bR (eF n R os (some (.U (.int k))) (some (.U (.int q))) (some (.U (.int one))) (some (.U (.int f3))) (some (.U (cJ z))))):=by
  have w3:nm 4 (eF n R os (some (.U (.int k))) (some (.U (.int q))) (some (.U (.int one))) (some (.U (.int f3))) dm)=some (.int q):=rfl;have ba:af oMod (af oDiv (nm 4) (aa (.int 64))) (aa (.int 7)) (eF n R os (some (.U (.int k))) (some (.U (.int q))) (some (.U (.int one))) (some (.U (.int f3))) dm)=some (.int (q / 64 % 7)):=by
   simp only[af,w3,aa,cp,vH (j:=64) (by decide),kN (j:=7) (by decide)]
  have cq:af aP (bk [(aa .none),(aa .none),(aa (.str "a")),(aa (.str "b")),(aa (.str "back")),(aa (.str "hall")),(aa (.str "win"))]) (af oMod (af oDiv (nm 4) (aa (.int 64))) (aa (.int 7))) (eF n R os (some (.U (.int k))) (some (.U (.int q))) (some (.U (.int one))) (some (.U (.int f3))) dm)=some (cJ z):=by
   rw[<- hz];unfold af at ba ⊢;simp only[ba,cp]
  simp only[asg,cq,d4];rfl
 refine⟨((if f3<one then f3 else one),(if f3 > one then f3 else one),z),some (.U (.int q)),some (.U (.int one)),some (.U (.int f3)),some (.U (cJ z)),⟨?_,?_,?_,zY⟩,?_⟩
 ·dsimp only;split <;> omega
 ·dsimp only;split <;> split <;> omega
 ·dsimp only;split <;> omega
 ·have s5:asg 2 (af b4 (nm 2) (bk [(bk [(aS n5 [(nm 5),(nm 6)]),(aS m2 [(nm 5),(nm 6)]),(ao 7)])])) (eF n R os (some (.U (.int k))) (some (.U (.int q))) (some (.U (.int one))) (some (.U (.int f3))) (some (.U (cJ z))))=some (.bR (eF n R (os++[((if f3<one then f3 else one),(if f3 > one then f3 else one),z)]) (some (.U (.int k))) (some (.U (.int q))) (some (.U (.int one))) (some (.U (.int f3))) (some (.U (cJ z))))):=by
   have amv:nm 5 (eF n R os (some (.U (.int k))) (some (.U (.int q))) (some (.U (.int one))) (some (.U (.int f3))) (some (.U (cJ z))))=some (.int one):=rfl;have _t:nm 6 (eF n R os (some (.U (.int k))) (some (.U (.int q))) (some (.U (.int one))) (some (.U (.int f3))) (some (.U (cJ z))))=some (.int f3):=rfl;have sQ:ao 7 (eF n R os (some (.U (.int k))) (some (.U (.int q))) (some (.U (.int one))) (some (.U (.int f3))) (some (.U (cJ z))))=some (cJ z):=rfl;have eH:nm 2 (eF n R os (some (.U (.int k))) (some (.U (.int q))) (some (.U (.int one))) (some (.U (.int f3))) (some (.U (cJ z))))=some (.tuple (os.map cZ)):=rfl;have ab:(os.map cZ).length+1<=16777216:=by simp;omega
   simp only[asg,af,aS,bk,args,amv,_t,sQ,eH,cp,d4,n5,m2,b4,eJ,ke,big];simp[ab,eF,cZ];omega
  unfold v_;rw[fT s1,fT s2,fT s3,fT s4,s5]
theorem Qp(n R:Int)(ae:1<=R)(qT:R<=7):∀(aH:List Int) (os:List Op) (sM hT eU da dm:Option aR),(∀k∈aH,0<=k/\k<1000)->os.length+aH.length<1000->(∀o∈os,vW R o) ->
  ∃qa Zv wY sN kC oX,qa.length=os.length+aH.length/\(∀o∈qa,vW R o)/\forL (bA 3) v_ (aH.map .int) (eF n R os sM hT eU da dm)=some (.bR (eF n R qa Zv wY sN kC oX))
| [],os,sM,hT,eU,da,dm,_,_,aE=>⟨os,sM,hT,eU,da,dm,rfl,aE,rfl⟩
|k::aH,os,sM,hT,eU,da,dm,ay,av,aE=>by
  simp only[eJ] at av;obtain⟨o,fW,h6,jW,sb,Oi,aC⟩:=agg n R ae qT os (by omega) k (ay k (by simp)) hT eU da dm;obtain⟨qa,gB,l3,pQ,nN,amt,ax,aL,e'⟩:=Qp n R ae qT aH (os++[o]) (some (.U (.int k))) fW h6 jW sb (λjc h=>ay jc (by simp[h])) (by simp;omega) λo' h=>by
   rcases gz.mp h with q|q
   ·exact aE o' q
   ·simp at q;subst q;exact Oi
  refine⟨qa,gB,l3,pQ,nN,amt,by rw[ax];simp;omega,aL,?_⟩
  have cx:bA 3 (.int k) (eF n R os sM hT eU da dm)=some (eF n R os (some (.U (.int k))) hT eU da dm):=rfl;simp only[cP,forL,cx,cp,aC,e']
def YZ(n:Int)(aX:0<=n):∃R os,Drawn R os/\pU [.int n]=some (b_ R os):=by
 have fK:0<=n % 7/\n % 7<7:=⟨k_ _ (by decide),om _ (by decide)⟩;have c3:0<=n / 8 % 11/\n / 8 % 11<11:=⟨k_ _ (by decide),om _ (by decide)⟩;have s1:asg 1 (af b4 (aa (.int 1)) (af oMod (nm 0) (aa (.int 7)))) [some (.U (.int n)),none,none,none,none,none,none,none]=some (.bR [some (.U (.int n)),some (.U (.int (1+n % 7))),none,none,none,none,none,none]):=by
  have jf:nm 0 [some (.U (.int n)),none,none,none,none,none,none,none]=some (.int n):=rfl;simp only[asg,af,jf,aa,cp,d4,kN (j:=7) (by decide),jP];rfl
 have s2:asg 2 (bk []) [some (.U (.int n)),some (.U (.int (1+n % 7))),none,none,none,none,none,none]=some (.bR (eF n (1+n % 7) [] none none none none none)):=by
  simp[asg,bk,args,big,eF]
 have hit:kj (af oMod (af oDiv (nm 0) (aa (.int 8))) (aa (.int 11))) (eF n (1+n % 7) [] none none none none none)=some (((List.range (n / 8 % 11).toNat).map λ(k:Nat)=>(k:Int)).map .int):=by
  have jf:nm 0 (eF n (1+n % 7) [] none none none none none)=some (.int n):=rfl;have aC:qt (n / 8 % 11)=true:=by
   unfold qt;simp;omega
  simp only[kj,af,jf,aa,cp,vH (j:=8) (by decide),kN (j:=11) (by decide),aC,if_true,lK,Int.sub_zero,Int.zero_add,k',al4]
 obtain⟨os,gB,l3,pQ,nN,amt,ax,aL,e'⟩:=Qp n (1+n % 7) (by omega) (by omega) ((List.range (n / 8 % 11).toNat).map λ(k:Nat)=>(k:Int)) [] none none none none none (λk ay=>by
  obtain⟨j,a',rfl⟩:=dI.mp ay;have:=List.mem_range.mp a';omega) (by simp;omega) (by simp)
 simp only[ke,eb,List.length_range] at ax;refine⟨1+n % 7,os,⟨by omega,by omega,by omega,aL⟩,?_⟩;have s3:eT (kj (af oMod (af oDiv (nm 0) (aa (.int 8))) (aa (.int 11)))) (bA 3) v_ (eF n (1+n % 7) [] none none none none none)=some (.bR (eF n (1+n % 7) os gB l3 pQ nN amt)):=by
  simp only[eT,hit,cp];exact e'
 have s4:seq (eT (kj (af oMod (af oDiv (nm 0) (aa (.int 8))) (aa (.int 11)))) (bA 3) v_) (bN (bk [(ao 1),(ao 2)])) (eF n (1+n % 7) [] none none none none none)=some (.dB (b_ (1+n % 7) os)):=by
  rw[fT s3];simp[bN,bk,args,ao,eF,big,b_]
 have cx:pU [.int n]=(ye [some (.U (.int n)),none,none,none,none,none,none,none]).bind λo=>match o with|.dB t=>some t|.bR _=>some .none|_=>none:=rfl
 rw[cx];unfold ye;rw[fT s1,fT s2];exact congrArg (λx:Option Out=>x.bind λo=>match o with|.dB t=>some t|.bR _=>some .none|_=>none) s4
end aQ
end
section
namespace aQ
open PySem D
local instance:cG:=⟨[],λ_=>[],λ_=>none⟩
def ahr{R:Int}{os:List Op}(d:Drawn R os):Lo os:=λo aE x hx=>by
 have:=(d.ok o aE).2.2.2 x hx;simp only[names5,ct,lS,or_false] at this;rcases this with rfl|rfl|rfl|rfl|rfl <;> decide +kernel
def P8{R:Int}{os:List Op}(d:Drawn R os):c2.Within R (os.map fs):=λe he=>by
 obtain⟨o,aE,rfl⟩:=dI.mp he;have:=d.ok o aE;unfold vW at this;unfold fs;dsimp only;omega
def OW{R:Int}{os:List Op}(d:Drawn R os)(ns:List Str):c2.Within R (uv ns os):=λe he=>by
 obtain⟨o,aE,rfl⟩:=dI.mp he;exact P8 d (fs o) (dI.mpr ⟨o,(List.mem_filter.mp aE).1,rfl⟩)
def qc(F:List (Int×Int)):List Int:=sortI ((c2.nO F 1000 [0] [0]).getD [])
def Oy{R:Int}{F:List (Int×Int)}(gX:c2.Within R F)(h0:0<=R)(qT:R<=7):
  (∃r,c2.nO F 1000 [0] [0]=some r/\r.length<=8/\qc F=sortI r)/\(∀x,x∈qc F <-> c2.Reach F x)/\(qc F).Pairwise (·<·)/\∀x∈qc F,0<=x/\x<=R:=by
 obtain⟨r,ae,aj,a8,b9⟩:=c2.V4 gX h0 qT (n:=1000) (by decide);have e:qc F=sortI r:=by rw[qc,ae];rfl
 have az:=sortI_perm r;refine⟨⟨r,ae,c2.uK 8 r aj λx hx=>by have:=b9 x hx;omega,e⟩,λx=>by rw[e,az.mem_iff];exact a8 x,?_,λx hx=>b9 x (az.mem_iff.mp (e▸hx))⟩;rw[e];have aW:(sortI r).Nodup:=az.nodup_iff.mpr aj;have pw:=B6 r;exact (pw.and aW).imp λh=>by have ae:=h.1;have aj:=h.2;omega
def ad7{R:Int}{os:List Op}(d:Drawn R os){ns:List Str}(aX:Lj ns):oK [b_ R os,.tuple (ns.map .str)]=some (.tuple ((qc (uv ns os)).map .int)):=by
 obtain⟨⟨r,ae,aj,a8⟩,_⟩:=Oy (OW d ns) (by have:=d.bC;omega) d.oZ;rw[a8];exact agG aX (ahr d) d.len ae aj
def aea{R:Int}{os:List Op}(d:Drawn R os)(room:Int):∃ws,c2.gY (os.map fs) room 20 [0]=some ws/\i0 [b_ R os,.int room]=some (.tuple (ws.map wT))/\(ws≠[] <-> c2.Reach (os.map fs) room):=by
 obtain⟨ws,ae,aj⟩:=c2.OV (P8 d) d.oZ (by simpa using d.len) room 20 [0] (by simp) (by simp) (by have:=d.bC;simp;omega) (by simp);exact⟨ws,ae,aiF ae (hi aj (by simp)),c2.ad' ae⟩
noncomputable def bare(ns:List Str)(o:Op):Op:=(o.1,o.2.1,match o.2.2 with
|none=>none
|some x=>if x∈ns then none else some x)
end aQ
end
section
namespace c2
noncomputable def rW(E:List (Int×Int)):Int->List Nat->List Int->Prop
|_,[],p=>p=[]
|cur,k::w,p=>∃e t q,E[k]?=some e/\g5 e cur=some t/\p=t::q/\rW E t w q
theorem RK{rec:List Int->Option (List (List Nat))}{pl:List Int}{h:Int}:∀{E:List (Int×Int)} {k:Nat} {ws:List (List Nat)},exts rec pl h k E=some ws->∀w,w∈ws <-> ∃j e t us dv,E[j]?=some e/\g5 e h=some t/\t∉pl/\rec (pl++[t])=some us/\dv∈us/\w=(k+j)::dv
| [],k,ws,e,w=>by
  cases e
  simp
|e::es,k,ws,ae,w=>by
  have bW:∀{vs:List (List Nat)},exts rec pl h (k+1) es=some vs->(w∈vs <-> ∃j bg t us dv,(e::es)[j+1]?=some bg/\g5 bg h=some t/\t∉pl/\rec (pl++[t])=some us/\dv∈us/\w=(k+(j+1))::dv):=λa4=>by
   rw[RK a4 w];constructor
   ·rintro⟨j,bg,t,us,dv,a1,a2,eE,fW,h6,jW⟩;exact⟨j,bg,t,us,dv,by simpa using a1,a2,eE,fW,h6,by rw[jW];congr 1;omega⟩
   ·rintro⟨j,bg,t,us,dv,a1,a2,eE,fW,h6,jW⟩;exact⟨j,bg,t,us,dv,by simpa using a1,a2,eE,fW,h6,by rw[jW];congr 1;omega⟩
  unfold exts at ae;split at ae
  next t bo=>
   split at ae
   next hm=>
    rw[bW ae];constructor
    ·rintro⟨j,r⟩;exact⟨j+1,r⟩
    ·rintro⟨j,bg,t',us,dv,a1,a2,eE,r⟩;cases j with
     |zero=>
      cases a1
      rw[bo] at a2;cases a2;exact absurd hm eE
     |succ j=>exact⟨j,bg,t',us,dv,a1,a2,eE,r⟩
   next hm=>
    simp only[b0,dR] at ae;obtain⟨us,aj,vs,a8,rfl⟩:=ae;rw[gz,bW a8,dI];constructor
    ·rintro (⟨dv,aM,a9⟩|⟨j,r⟩)
     ·exact⟨0,e,t,us,dv,rfl,bo,hm,aj,aM,by rw[<- a9];rfl⟩
     ·exact⟨j+1,r⟩
    ·rintro⟨j,bg,t',ad8,dv,a1,a2,eE,fW,h6,jW⟩;cases j with
     |zero=>
      cases a1
      rw[bo] at a2;cases a2;rw[aj] at fW;cases fW;exact .inl ⟨dv,h6,jW.symm⟩
     |succ j=>exact .inr ⟨j,bg,t',ad8,dv,a1,a2,eE,fW,h6,jW⟩
  next aX=>
   rw[bW ae];constructor
   ·rintro⟨j,r⟩;exact⟨j+1,r⟩
   ·rintro⟨j,bg,t',us,dv,a1,a2,eE,r⟩;cases j with
    |zero=>
     cases a1
     rw[aX] at a2;cases a2
    |succ j=>exact⟨j,bg,t',us,dv,a1,a2,eE,r⟩
def ait{rec:List Int->Option (List (List Nat))}{pl:List Int}{h:Int}{E:List (Int×Int)}{k:Nat}{ws:List (List Nat)}(e:exts rec pl h k E=some ws){j:Nat}{bg:Int×Int}{t:Int}(ae:E[j]?=some bg)(aj:g5 bg h=some t)(a8:t∉pl):∃vs,rec (pl++[t])=some vs:=by
 obtain⟨vs,a4,_⟩:=x' e t ⟨bg,mm ae,aj⟩ a8;exact⟨vs,a4⟩
theorem Kh{E:List (Int×Int)}{room:Int}:∀{n:Nat} {pl:List Int} {cur:Int} {ws:List (List Nat)},pl.getLast?=some cur->gY E room n pl=some ws->∀w,w∈ws <-> ∃p,rW E cur w p/\p.Nodup/\(∀y∈p,y∉pl)/\(cur::p).getLast?=some room
|0,pl,cur,ws,_,h,_=>by cases h
|n+1,pl,cur,ws,av,h,w=>by
  have YB:cur∈pl:=List.mem_of_getLast? av;unfold gY at h;rw[av] at h;simp only at h;split at h
  next e=>
   subst e;cases h;constructor
   ·intro hw;have:w=[]:=by simpa using hw
    subst this;exact⟨[],rfl,by simp,by simp,rfl⟩
   ·rintro⟨p,ae,aj,a8,b9⟩;cases w with
    |nil=>simp
    |cons k w=>
     obtain⟨bg,t,q,_,_,rfl,_⟩:=ae;have hm:cur∈t::q:=by
      rw[List.getLast?_cons_cons] at b9;exact List.mem_of_getLast? b9
     exact absurd YB (a8 cur hm)
  next dJ=>
   rw[RK h w];constructor
   ·rintro⟨j,bg,t,us,dv,a1,a2,eE,fW,h6,jW⟩;obtain⟨p,uL,fl,Ol,p4⟩:=(Kh (pl:=pl++[t]) (cur:=t) (by simp) fW dv).mp h6;refine⟨t::p,?_,?_,?_,by rw[List.getLast?_cons_cons];exact p4⟩
    ·rw[jW];exact⟨bg,t,p,by simpa using a1,a2,rfl,uL⟩
    ·exact eO.mpr ⟨λz=>Ol t z (by simp),fl⟩
    ·intro y aV;rcases ct.mp aV with rfl|aV
     ·exact eE
     ·exact λz=>Ol y aV (by simp[z])
   ·rintro⟨p,ae,aj,a8,b9⟩;cases w with
    |nil=>
     have:p=[]:=ae;subst this;simp at b9;exact absurd b9 dJ
    |cons k w=>
     obtain⟨bg,t,q,b1,b2,rfl,gB⟩:=ae;have bo:t∉pl:=a8 t (by simp);obtain⟨us,bH⟩:=ait h b1 b2 bo;have aW:=eO.mp aj;refine⟨k,bg,t,us,w,b1,b2,bo,bH,?_,by simp⟩;refine (Kh (pl:=pl++[t]) (cur:=t) (by simp) bH w).mpr ⟨q,gB,aW.2,λy aV z=>?_,by rw[List.getLast?_cons_cons] at b9;exact b9⟩;rcases gz.mp z with z|z
     ·exact a8 y (by simp[aV]) z
     ·have:y=t:=by simpa using z
      subst this;exact aW.1 aV
def I0{E:List (Int×Int)}{room:Int}{n:Nat}{ws:List (List Nat)}(h:gY E room n [0]=some ws)(w:List Nat):w∈ws <-> ∃p,rW E 0 w p/\((0:Int)::p).Nodup/\((0:Int)::p).getLast?=some room:=by
 rw[Kh (cur:=0) rfl h w];constructor
 ·rintro⟨p,ae,aj,a8,b9⟩;exact⟨p,ae,eO.mpr ⟨λz=>a8 0 z (by simp),aj⟩,b9⟩
 ·rintro⟨p,ae,aj,b9⟩;have aW:=eO.mp aj;exact⟨p,ae,aW.2,λy aV z=>aW.1 (by have:y=0:=(by simpa using z);exact this▸aV),b9⟩
def QA{E:List (Int×Int)}{x y:Int}{p:List Int}(w:Walk E x p y):(x::p).getLast?=some y:=by
 induction w with
|nil x=>rfl
|cons a w bc=>rw[List.getLast?_cons_cons];exact bc
def afF{E F:List (Int×Int)}(P:Nat->Prop)(oR:∀e∈F,∃k,E[k]?=some e/\P k){x y:Int}{p:List Int}(w:Walk F x p y):∃v,rW E x v p/\∀k∈v,P k:=by
 induction w with
|nil x=>exact⟨[],rfl,by simp⟩
| @cons x t y p a w bc=>
  obtain⟨v,ae,aj⟩:=bc;obtain⟨e,he,aq⟩:=a;obtain⟨k,ay,az⟩:=oR e he;refine⟨k::v,⟨e,t,p,ay,aq,rfl,ae⟩,λj a'=>?_⟩;rcases ct.mp a' with rfl|a'
  ·exact az
  ·exact aj j a'
theorem PM{E F:List (Int×Int)}(P:Nat->Prop)(oR:∀k e,E[k]?=some e->P k->e∈F):∀{v:List Nat} {x:Int} {p:List Int},rW E x v p->(∀k∈v,P k)->∃y,Walk F x p y
| [],x,p,h,_=>by
  have:p=[]:=h;subst this;exact⟨x,.nil x⟩
|k::v,x,p,⟨e,t,q,ae,aj,a8,b9⟩,az=>by
  subst a8;obtain⟨y,w⟩:=PM P oR b9 λj a'=>az j (by simp[a']);exact⟨y,.cons ⟨e,oR k e ae (az k (by simp)),aj⟩ w⟩
def acq{E F:List (Int×Int)}(P:Nat->Prop)(ae:∀e∈F,∃k,E[k]?=some e/\P k)(aj:∀k e,E[k]?=some e->P k->e∈F){room:Int}{n:Nat}{ws:List (List Nat)}(h:gY E room n [0]=some ws):
  Reach F room <-> ∃w∈ws,∀k∈w,P k:=by
 constructor
 ·intro r;obtain⟨p,w,aW⟩:=Qh r;obtain⟨v,aM,a9⟩:=afF P ae w;exact⟨v,(I0 h v).mpr ⟨p,aM,aW,QA w⟩,a9⟩
 ·rintro⟨v,a4,az⟩;obtain⟨p,aM,a9,c5⟩:=(I0 h v).mp a4;obtain⟨y,w⟩:=PM P aj aM az;have:y=room:=by
   have:=QA w;rw[c5] at this;exact (fc this).symm
  subst this;exact P_ w .zero
end c2
end
section
namespace b5
open D PySem
structure gR where
 eS:Str
 jD:Str
 n7:List Str
 uses:Int
structure a7 where
 bZ:List (Str×Str)
 codes:List gR
 leave:Int
 bq:Int
 loud:Int
structure aN where
 mode:Str
 left:Int
 fC:Option Str
 lines:List (Str×Str)
 dp:List Str
 gh:Int
 cO:List Str
 tries:Int
 locked:Int
 used:List (Str×Int)
 past:Int
 told:List (Int×Str×Option Str)
def gK:Option Str->T
|none=>.none
|some x=>.str x
def et(z:Str×Str):T:=.tuple [.str z.1,.str z.2]
def fm(c:gR):T:=.tuple [.str c.eS,.str c.jD,.tuple (c.n7.map .str),.int c.uses]
noncomputable def cR(p:a7):T:=.tuple [.tuple (p.bZ.map et),.tuple (p.codes.map fm),.tuple [.int p.leave,.int p.bq,.int p.loud]]
def oL(w:Int×Str×Option Str):T:=.tuple [.int w.1,.str w.2.1,gK w.2.2]
def gV(l:List (Str×Str)):List (D.Key×T):=l.map λp=>(.inr p.1,.str p.2)
def gu(l:List (Str×Int)):List (D.Key×T):=l.map λp=>(.inr p.1,.int p.2)
noncomputable def encC(p:a7)(c:aN):List aR:=[.U (cR p),.U (.str c.mode),.U (.int c.left),.U (gK c.fC),.fD (gV c.lines),.own (c.dp.map .str),.U (.int c.gh),.own (c.cO.map .str),.U (.int c.tries),.U (.int c.locked),.fD (gu c.used),.U (.int c.past),.own (c.told.map oL)]
def Pq:¬(("off":Str)="leaving"):=by decide +kernel
def aif:¬(("off":Str)="on"):=by decide +kernel
def BD:¬(("off":Str)="coming"):=by decide +kernel
def aeO:¬(("leaving":Str)="off"):=by decide +kernel
def ae4:¬(("leaving":Str)="on"):=by decide +kernel
def Pd:¬(("leaving":Str)="coming"):=by decide +kernel
def Kq:¬(("on":Str)="off"):=by decide +kernel
def PG:¬(("on":Str)="leaving"):=by decide +kernel
def BJ:¬(("on":Str)="coming"):=by decide +kernel
def Jz:¬(("coming":Str)="off"):=by decide +kernel
def ve:¬(("coming":Str)="leaving"):=by decide +kernel
def PU:¬(("coming":Str)="on"):=by decide +kernel
def afu:¬(("shut":Str)="open"):=by decide +kernel
def af1:¬(("shut":Str)="cut"):=by decide +kernel
def afv:¬(("open":Str)="shut"):=by decide +kernel
def af2:¬(("open":Str)="cut"):=by decide +kernel
def af5:¬(("cut":Str)="shut"):=by decide +kernel
def af6:¬(("cut":Str)="open"):=by decide +kernel
def afz:¬(("day":Str)="inner"):=by decide +kernel
def af4:¬(("day":Str)="once"):=by decide +kernel
def ag7:¬(("day":Str)="way"):=by decide +kernel
def afy:¬(("inner":Str)="day"):=by decide +kernel
def ae5:¬(("inner":Str)="once"):=by decide +kernel
def afx:¬(("inner":Str)="way"):=by decide +kernel
def Qk:¬(("once":Str)="day"):=by decide +kernel
def ae2:¬(("once":Str)="inner"):=by decide +kernel
def af3:¬(("once":Str)="way"):=by decide +kernel
def QQ:¬(("way":Str)="day"):=by decide +kernel
def aft:¬(("way":Str)="inner"):=by decide +kernel
def Qj:¬(("way":Str)="once"):=by decide +kernel
def PT:¬(("set":Str)="unset"):=by decide +kernel
def JC:¬(("set":Str)="shunt"):=by decide +kernel
def BP:¬(("set":Str)="free"):=by decide +kernel
def JB:¬(("unset":Str)="set"):=by decide +kernel
def Pp:¬(("unset":Str)="shunt"):=by decide +kernel
def Jy:¬(("unset":Str)="free"):=by decide +kernel
def xZ:¬(("shunt":Str)="set"):=by decide +kernel
def vg:¬(("shunt":Str)="unset"):=by decide +kernel
def PE:¬(("shunt":Str)="free"):=by decide +kernel
def JU:¬(("free":Str)="set"):=by decide +kernel
def BE:¬(("free":Str)="unset"):=by decide +kernel
def BF:¬(("free":Str)="shunt"):=by decide +kernel
def afw:¬(("line":Str)="code"):=by decide +kernel
def ae3:¬(("line":Str)="ticks"):=by decide +kernel
def afA:¬(("code":Str)="line"):=by decide +kernel
def ae6:¬(("code":Str)="ticks"):=by decide +kernel
def aeZ:¬(("ticks":Str)="line"):=by decide +kernel
def ae0:¬(("ticks":Str)="code"):=by decide +kernel
def tell(w:Str)(n:Option Str)(c:aN):aN:={c with told:=c.told++[(c.past,w,n)]}
def ku(p:a7)(c:aN):aN:={c with gh:=p.loud}
noncomputable def fj(p:a7)(z:Str)(c:aN):aN:=if z∈c.cO then ku p c else tell "alarm" (some z) {ku p c with cO:=c.cO++[z]}
section
variable (p:a7)(c:aN)
def CV:(encC p c).length=13:=rfl
def cx:(encC p c)[0]?=some (.U (cR p)):=rfl
def ax:(encC p c)[1]?=some (.U (.str c.mode)):=rfl
def aL:(encC p c)[2]?=some (.U (.int c.left)):=rfl
def e':(encC p c)[3]?=some (.U (gK c.fC)):=rfl
def i1:(encC p c)[4]?=some (.fD (gV c.lines)):=rfl
def amC:(encC p c)[5]?=some (.own (c.dp.map .str)):=rfl
def ui:(encC p c)[6]?=some (.U (.int c.gh)):=rfl
def qQ:(encC p c)[7]?=some (.own (c.cO.map .str)):=rfl
def y5:(encC p c)[8]?=some (.U (.int c.tries)):=rfl
def uj:(encC p c)[9]?=some (.U (.int c.locked)):=rfl
def y2:(encC p c)[10]?=some (.fD (gu c.used)):=rfl
def y3:(encC p c)[11]?=some (.U (.int c.past)):=rfl
def wh:(encC p c)[12]?=some (.own (c.told.map oL)):=rfl
def s1(x:Str):(encC p c).set 1 (.U (.str x))=encC p {c with mode:=x}:=rfl
def s2(x:Int):(encC p c).set 2 (.U (.int x))=encC p {c with left:=x}:=rfl
def s3(x:Str):(encC p c).set 3 (.U (.str x))=encC p {c with fC:=some x}:=rfl
def AU:(encC p c).set 3 (.U .none)=encC p {c with fC:=none}:=rfl
def s4(l:List (Str×Str)):(encC p c).set 4 (.fD (gV l))=encC p {c with lines:=l}:=rfl
def s5(l:List Str):(encC p c).set 5 (.own (l.map .str))=encC p {c with dp:=l}:=rfl
def AV:(encC p c).set 5 (.own [])=encC p {c with dp:=[]}:=rfl
def kE(x:Int):(encC p c).set 6 (.U (.int x))=encC p {c with gh:=x}:=rfl
def hc(l:List Str):(encC p c).set 7 (.own (l.map .str))=encC p {c with cO:=l}:=rfl
def AX:(encC p c).set 7 (.own [])=encC p {c with cO:=[]}:=rfl
def AW(l:List Str)(z:Str):(encC p c).set 7 (.own (l.map .str++[.str z]))=encC p {c with cO:=l++[z]}:=by simp[encC]
def j7(x:Int):(encC p c).set 8 (.U (.int x))=encC p {c with tries:=x}:=rfl
def xo(x:Int):(encC p c).set 9 (.U (.int x))=encC p {c with locked:=x}:=rfl
def AQ(l:List (Str×Int)):(encC p c).set 10 (.fD (gu l))=encC p {c with used:=l}:=rfl
def AR(x:Int):(encC p c).set 11 (.U (.int x))=encC p {c with past:=x}:=rfl
def AS(l:List (Int×Str×Option Str))(i:Int)(w:Str)(n:Option Str):(encC p c).set 12 (.own (l.map oL++[.tuple [.int i,.str w,gK n]]))=encC p {c with told:=l++[(i,w,n)]}:=by simp[encC,oL]
end
end b5
open D b5
open PySem hiding run fresh code
local macro_rules
| `(tactic| simp! [hX,$xs,*] $[$l]?)=>`(tactic| simp[CV,cx,ax,aL,e',i1,amC,ui,qQ,y5,uj,y2,y3,wh,s1,s2,s3,AU,s4,s5,AV,kE,hc,AX,AW,j7,xo,AQ,AR,AS,runM,k4,la,pn,d1,dT,nx,xk,qE,xm,e9,mA,pP,pO,iL,ig,fld,hr,nU,p0,nS,rN,rR,qG,never,v5,oW,lW,cV,seq,iff,aZ,e6,dy,eI,ft,di,ofT,cn,af,aS,args,aa,nm,ao,bN,skip,asg,e_,hp,par,bk,dD,e3,dx,aP,ei,eL,bA,dV,fG,cQ,comp,fN,$xs,*] $[$l]?)
local macro_rules
| `(tactic| simp! [j8,$xs,*] $[$l]?)=>`(tactic| simp[cV,seq,iff,aZ,e6,dy,eI,ft,di,ofT,cn,af,aS,args,aa,nm,ao,bN,skip,asg,e_,hp,par,bk,dD,e3,dx,aP,ei,eL,bA,dV,fG,cQ,comp,fN,$xs,*] $[$l]?)
| `(tactic| simp! [j8] $[$l]?)=>`(tactic| simp[cV,seq,iff,aZ,e6,dy,eI,ft,di,ofT,cn,af,aS,args,aa,nm,ao,bN,skip,asg,e_,hp,par,bk,dD,e3,dx,aP,ei,eL,bA,dV,fG,cQ,comp,fN] $[$l]?)
local macro_rules
| `(tactic| simp! [jl,$xs,*] $[$l]?)=>`(tactic| simp[b4,q9,dn,oDiv,oMod,jg,fL,n5,m2,gq,tY,w8,oLt,oLe,oY,m1,big,CV,cx,ax,aL,e',i1,amC,ui,qQ,y5,uj,y2,y3,wh,s1,s2,s3,AU,s4,s5,AV,kE,hc,AX,AW,j7,xo,AQ,AR,AS,runM,k4,la,pn,d1,dT,nx,xk,qE,xm,e9,mA,pP,pO,iL,ig,fld,hr,nU,p0,nS,rN,rR,qG,never,v5,oW,lW,cV,seq,iff,aZ,e6,dy,eI,ft,di,ofT,cn,af,aS,args,aa,nm,ao,bN,skip,asg,e_,hp,par,bk,dD,e3,dx,aP,ei,eL,bA,dV,fG,cQ,comp,fN,$xs,*] $[$l]?)
local macro_rules
| `(tactic| simp! [o2,$xs,*] $[$l]?)=>`(tactic| simp[runM,k4,la,pn,d1,dT,nx,xk,qE,xm,e9,mA,pP,pO,iL,ig,fld,hr,nU,p0,nS,rN,rR,qG,never,v5,oW,lW,cV,seq,iff,aZ,e6,dy,eI,ft,di,ofT,cn,af,aS,args,aa,nm,ao,bN,skip,asg,e_,hp,par,bk,dD,e3,dx,aP,ei,eL,bA,dV,fG,cQ,comp,fN,$xs,*] $[$l]?)
local macro_rules
| `(tactic| simp! [hJ,$xs,*] $[$l]?)=>`(tactic| simp[CV,cx,ax,aL,e',i1,amC,ui,qQ,y5,uj,y2,y3,wh,s1,s2,s3,AU,s4,s5,AV,kE,hc,AX,AW,j7,xo,AQ,AR,AS,runM,k4,la,pn,d1,dT,nx,xk,qE,xm,e9,mA,pP,pO,iL,ig,fld,hr,nU,p0,nS,rN,rR,qG,never,v5,oW,lW,Pq,aif,BD,aeO,ae4,Pd,Kq,PG,BJ,Jz,ve,PU,afu,af1,afv,af2,af5,af6,afz,af4,ag7,afy,ae5,afx,Qk,ae2,af3,QQ,aft,Qj,PT,JC,BP,JB,Pp,Jy,xZ,vg,PE,JU,BE,BF,afw,ae3,afA,ae6,aeZ,ae0,cV,seq,iff,aZ,e6,dy,eI,ft,di,ofT,cn,af,aS,args,aa,nm,ao,bN,skip,asg,e_,hp,par,bk,dD,e3,dx,aP,ei,eL,bA,dV,fG,cQ,comp,fN,$xs,*] $[$l]?)
local macro_rules
| `(tactic| simp! [II,$xs,*] $[$l]?)=>`(tactic| simp[b4,q9,dn,oDiv,oMod,jg,fL,n5,m2,gq,tY,w8,oLt,oLe,oY,m1,big,cV,seq,iff,aZ,e6,dy,eI,ft,di,ofT,cn,af,aS,args,aa,nm,ao,bN,skip,asg,e_,hp,par,bk,dD,e3,dx,aP,ei,eL,bA,dV,fG,cQ,comp,fN,$xs,*] $[$l]?)
local macro_rules
| `(tactic| simp! [adq,$xs,*] $[$l]?)=>`(tactic| simp[runM,k4,la,pn,d1,dT,nx,xk,qE,xm,e9,mA,pP,pO,iL,ig,fld,hr,nU,p0,nS,rN,rR,qG,never,v5,oW,lW,$xs,*] $[$l]?)
local macro_rules
| `(tactic| simp! [ads,$xs,*] $[$l]?)=>`(tactic| simp[CV,cx,ax,aL,e',i1,amC,ui,qQ,y5,uj,y2,y3,wh,s1,s2,s3,AU,s4,s5,AV,kE,hc,AX,AW,j7,xo,AQ,AR,AS,$xs,*] $[$l]?)
local macro_rules
| `(tactic| simp! [mf,$xs,*] $[$l]?)=>`(tactic| simp[cV,seq,iff,aZ,e6,dy,eI,ft,di,ofT,cn,af,aS,args,aa,nm,ao,bN,skip,asg,e_,hp,par,bk,dD,e3,dx,bA,dV,fG,cQ,comp,fN,$xs,*] $[$l]?)
| `(tactic| simp! [mf] $[$l]?)=>`(tactic| simp[cV,seq,iff,aZ,e6,dy,eI,ft,di,ofT,cn,af,aS,args,aa,nm,ao,bN,skip,asg,e_,hp,par,bk,dD,e3,dx,bA,dV,fG,cQ,comp,fN] $[$l]?)
namespace b5
open D PySem
def cF(x:Str):Prop:=(kc x).canLay0=true
def d5{x y:Str}(ae:cF x)(aj:cF y):oEq (.str x) (.str y)=some (.bool (decide (x=y))):=by
 unfold oEq;rw[tP ae,tP aj];by_cases e:x=y <;> simp[hY,e]
def nu{x y:Str}(ae:cF x)(aj:cF y):fa (.str x) (.str y)=some (.bool (!decide (x=y))):=by
 unfold fa;rw[tP ae,tP aj];by_cases e:x=y <;> simp[hY,e]
def vn(neg:Bool){n:Str}{ns:List Str}(h0:cF n)(h:∀x∈ns,cF x):eB neg (.str n) (.list (ns.map .str))=some (.bool (if neg then !decide (n∈ns) else decide (n∈ns))):=by
 simp only[eB,tP h0,J8 ns h,Ci];rfl
def Cc(neg:Bool){n:Str}{ns:List Str}(h0:cF n)(h:∀x∈ns,cF x):eB neg (.str n) (.tuple (ns.map .str))=some (.bool (if neg then !decide (n∈ns) else decide (n∈ns))):=KS neg n ns h0 h
def RZ(p:a7)(c:aN)(w:Str)(n:Option Str)(h:c.told.length<big):gn [.obj .ej 0 (encC p c),.U (.str w),.U (gK n)]=some (.none,encC p (tell w n c)):=by
 have h':c.told.length<16777216:=h;simp! [hX,gn,Py,tell,big,h']
def BS(p:a7)(c:aN)(w:Str)(h:c.told.length<big):gn [.obj .ej 0 (encC p c),.U (.str w),.U .none]=some (.none,encC p (tell w none c)):=RZ p c w none h
def qp(p:a7)(c:aN)(w z:Str)(h:c.told.length<big):gn [.obj .ej 0 (encC p c),.U (.str w),.U (.str z)]=some (.none,encC p (tell w (some z) c)):=RZ p c w (some z) h
def JW(p:a7)(c:aN):tA [.obj .ej 0 (encC p c)]=some (.none,encC p (ku p c)):=by
 simp! [hX,tA,Pf,ku,cR]
structure bj(p:a7)(c:aN):Prop where
 zn:∀z∈p.bZ,cF z.1/\cF z.2
 fq:∀k∈p.codes,cF k.eS/\cF k.jD/\∀r∈k.n7,cF r
 fU:p.bZ.length<=40
 mo:cF c.mode
 ca:∀z,c.fC=some z->cF z/\z∈p.bZ.map (·.1)
 iZ:c.mode="coming"->c.fC≠none
 ln:c.lines.map (·.1)=p.bZ.map (·.1)
 lo:∀l∈c.lines,cF l.2
 us:c.used.map (·.1)=p.codes.map (·.eS)
 bW:c.dp.Nodup/\∀z∈c.dp,z∈p.bZ.map (·.1)
 al:c.cO.Nodup/\∀z∈c.cO,z∈p.bZ.map (·.1)
def bj.lH{p:a7}{c:aN}(h:bj p c){z:Str}(hz:z∈p.bZ.map (·.1)):cF z:=by
 obtain⟨x,hx,rfl⟩:=dI.mp hz;exact (h.zn x hx).1
def bj.w'{p:a7}{c:aN}(h:bj p c):∀z∈c.dp,cF z:=λz hz=>h.lH (h.bW.2 z hz)
def bj.abu{p:a7}{c:aN}(h:bj p c):∀z∈c.cO,cF z:=λz hz=>h.lH (h.al.2 z hz)
def QP{α:Type}[BEq α][LawfulBEq α]{l m:List α}(h:l.Nodup)(aC:∀x∈l,x∈m):l.length<=m.length:=by
 induction l generalizing m with
|nil=>simp
|cons x l bc=>
  obtain⟨ae,aj⟩:=eO.mp h;have hx:=aC x fx;have:=bc (m:=m.erase x) aj λy aV=>(List.mem_erase_of_ne (λe:y=x=>ae (e▸aV))).mpr (aC y (dq _ aV));have av:=List.length_erase_of_mem hx;have:=List.length_pos_of_mem hx;simp only[eJ];omega
def bj.LP{p:a7}{c:aN}(h:bj p c):c.cO.length<=40:=by
 have:=QP h.al.1 h.al.2;have:=h.fU;simp at *;omega
def bj.OF{p:a7}{c:aN}(h:bj p c):c.dp.length<=40:=by
 have:=QP h.bW.1 h.bW.2;have:=h.fU;simp at *;omega
def Cp(p:a7)(c:aN)(z:Str)(h:bj p c)(hz:cF z)(bo:c.told.length<big):lV [.obj .ej 0 (encC p c),.U (.str z)]=some (.none,encC p (fj p z c)):=by
 have aq:=h.LP;have n1:eB true (.str z) (.list (c.cO.map .str))=some (.bool (!decide (z∈c.cO))):=by rw[vn true hz h.abu];rfl
 have ab:(ku p c).cO=c.cO:=rfl;have en:c.cO.length<16777216:=by omega
 by_cases hm:z∈c.cO
 ·simp! [hX,lV,Jq,JW,ab,n1,hm,fj]
 ·have o5:({ku p c with cO:=c.cO++[z]}:aN).told.length<big:=bo;simp! [hX,lV,Jq,JW,ab,n1,hm,fj,big,en,qp p _ "alarm" z o5]
def kindOf(p:a7)(z:Str):Str:=((p.bZ.find? λx=>decide (x.1=z)).map (·.2)).getD ""
def codeOf(p:a7)(f:Str):Option gR:=p.codes.find? λk=>decide (k.eS=f)
theorem QT{z:Str}(hz:cF z)(s0:Option aR):∀(zs:List (Str×Str)) (t0:Option aR),(∀x∈zs,cF x.1)->z∈zs.map (·.1)->forL (bA 2) (iff (aZ (af oEq (af aP (nm 2) (aa (.int 0))) (nm 1))) (bN (af aP (nm 2) (aa (.int 1)))) skip) (zs.map et) [s0,some (.U (.str z)),t0]=some (.dB (.str (((zs.find? λx=>decide (x.1=z)).map (·.2)).getD "")))
| [],t0,_,h=>by simp at h
|x::zs,t0,aE,h=>by
  have e:=d5 (aE x (by simp)) hz;by_cases hx:x.1=z
  ·simp! [j8,forL,et,hx,d5 hz hz]
  ·have h':z∈zs.map (·.1):=by
    rw[cP] at h;rcases ct.mp h with q|q
    ·exact absurd q.symm hx
    ·exact q
   have bc:=QT hz s0 zs (some (.U (et x))) (λy aV=>aE y (dq _ aV)) h';simp[et] at bc;simp! [j8,forL,et,hx,e];simpa [cV,seq,iff,aZ,e6,dy,eI,ft,di,ofT,cn,af,aS,args,aa,nm,ao,bN,skip,asg,e_,hp,par,bk,dD,e3,dx,aP,ei,eL,bA,dV,fG,cQ,comp,fN] using bc
def Qn{p:a7}{z:Str}(aE:∀x∈p.bZ,cF x.1/\cF x.2)(hz:z∈p.bZ.map (·.1)):tJ [cR p,.str z]=some (.str (kindOf p z)):=by
 obtain⟨x,hx,rfl⟩:=dI.mp hz;have:=QT (aE x hx).1 (some (.U (cR p))) p.bZ none (λy aV=>(aE y aV).1) hz;simp! [j8,tJ,Rf,eT,cR] at this ⊢;simp[this,kindOf]
def uk:Option gR->T
|none=>.none
|some k=>fm k
theorem Q8{f:Str}(hf:cF f)(s0:Option aR):∀(aH:List gR) (t0:Option aR),(∀k∈aH,cF k.eS)->forL (bA 2) (iff (aZ (af oEq (af aP (nm 2) (aa (.int 0))) (nm 1))) (bN (nm 2)) skip) (aH.map fm) [s0,some (.U (.str f)),t0] =
   match aH.find? λk=>decide (k.eS=f) with
   |some k=>some (.dB (fm k))
   |none=>some (.bR [s0,some (.U (.str f)),(aH.getLast?.map λk=>aR.U (fm k)).elim t0 some])
| [],t0,_=>by simp[forL]
|k::aH,t0,aE=>by
  have e:=d5 (aE k (by simp)) hf;by_cases hx:k.eS=f
  ·simp! [j8,forL,fm,hx,d5 hf hf]
  ·have bc:=Q8 hf s0 aH (some (.U (fm k))) (λy aV=>aE y (dq _ aV));simp only[cP,forL];simp! [j8,fm,hx,e] at bc ⊢;rw[bc];cases aH with
   |nil=>simp
   |cons jc aH=>simp[List.getLast?_cons]
def agt{p:a7}{f:Str}(aE:∀k∈p.codes,cF k.eS)(hf:cF f):yb [cR p,.str f]=some (uk (codeOf p f)):=by
 have:=Q8 hf (some (.U (cR p))) p.codes none aE;simp! [j8,yb,Rg,eT,cR] at this ⊢;rw[this];unfold codeOf;cases e:p.codes.find? λk=>decide (k.eS=f) with
|none=>simp[uk]
|some k=>simp[uk]
def jO(c:aN)(z:Str):Str:=(c.lines.lookup z).getD ""
noncomputable def gg(l:List (Str×Str))(z w:Str):List (Str×Str):=l.map λp=>if p.1=z then (z,w) else p
def SJ(c:aN)(f:Str):Int:=(c.used.lookup f).getD 0
noncomputable def nK(l:List (Str×Int))(f:Str):List (Str×Int):=l.map λp=>if p.1=f then (f,p.2+1) else p
theorem S'{z:Str}:∀{l:List (Str×Str)},z∈l.map (·.1)->getD (gV l) (.inr z)=some (.str ((l.lookup z).getD ""))
  | [],h=>by simp at h
  | (k,v)::l,h=>by
    by_cases e:k=z
    · subst e
      simp[getD,gV,jG]
    · have h':z∈l.map (·.1):=by
        rw[cP] at h;rcases ct.mp h with q|q
        · exact absurd q.symm e
        · exact q
      have bc:=S' h';have ne:(z==k)=false:=beq_eq_false_iff_ne.mpr (Ne.symm e);simp only[getD,gV,cP,ml] at bc ⊢;rw[decide_eq_false (λq=>e (Sum.inr.inj q))];simp only[jG,ne];exact bc
theorem Lg{z:Str}:∀{l:List (Str×Int)},z∈l.map (·.1)->getD (gu l) (.inr z)=some (.int ((l.lookup z).getD 0))
  | [],h=>by simp at h
  | (k,v)::l,h=>by
    by_cases e:k=z
    · subst e
      simp[getD,gu,jG]
    · have h':z∈l.map (·.1):=by
        rw[cP] at h;rcases ct.mp h with q|q
        · exact absurd q.symm e
        · exact q
      have bc:=Lg h';have ne:(z==k)=false:=beq_eq_false_iff_ne.mpr (Ne.symm e);simp only[getD,gu,cP,ml] at bc ⊢;rw[decide_eq_false (λq=>e (Sum.inr.inj q))];simp only[jG,ne];exact bc
def alg{z:Str}{l:List (Str×Str)}(h:z∈l.map (·.1)):(gV l).any (λp=>decide (p.1=(Sum.inr z:D.Key)))=true:=by
 obtain⟨x,hx,rfl⟩:=dI.mp h;rw[List.any_eq_true];exact⟨(.inr x.1,.str x.2),dI.mpr ⟨x,hx,rfl⟩,by simp⟩
def alh{z:Str}{l:List (Str×Int)}(h:z∈l.map (·.1)):(gu l).any (λp=>decide (p.1=(Sum.inr z:D.Key)))=true:=by
 obtain⟨x,hx,rfl⟩:=dI.mp h;rw[List.any_eq_true];exact⟨(.inr x.1,.int x.2),dI.mpr ⟨x,hx,rfl⟩,by simp⟩
def aj1{z w:Str}{l:List (Str×Str)}(h:z∈l.map (·.1)):putD (gV l) (.inr z) (.str w)=gV (gg l z w):=by
 unfold putD;rw[alg h,if_pos rfl];simp only[gV,gg,k'];refine List.map_congr_left λx _=>?_;by_cases e:x.1=z
 ·simp[e]
 ·have:¬(Sum.inr x.1:D.Key)=Sum.inr z:=λq=>e (Sum.inr.inj q);simp[e,this]
def aj2{z:Str}{l:List (Str×Int)}(h:z∈l.map (·.1))(aW:(l.map (·.1)).Nodup):putD (gu l) (.inr z) (.int ((l.lookup z).getD 0+1))=gu (nK l z):=by
 unfold putD;rw[alh h,if_pos rfl];simp only[gu,nK,k'];refine List.map_congr_left λx hx=>?_;by_cases e:x.1=z
 ·have:∀{l:List (Str×Int)},x∈l->(l.map (·.1)).Nodup->l.lookup x.1=some x.2:=by
   intro l
   induction l with
   |nil=>intro h;simp at h
   |cons y l bc=>
    intro h aW;rcases ct.mp h with rfl|h
    ·simp[jG]
    ·rw[cP,eO] at aW;have ne:(x.1==y.1)=false:=beq_eq_false_iff_ne.mpr λq=>aW.1 (q▸dI.mpr ⟨x,h,rfl⟩);simp only[jG,ne];exact bc h aW.2
  have av:=this hx aW;subst e;simp[av]
 ·have:¬(Sum.inr x.1:D.Key)=Sum.inr z:=λq=>e (Sum.inr.inj q);simp[e,this]
theorem qC{α:Type}{cc:fP}{hB:bK}{caps:Ev}(enc:α->T)(q:α->Bool)(f:α->T):∀(ts:List α) (s0:Option aR),(∀a∈ts,cc (some (.U (enc a))::caps)=some (q a)/\(q a=true->hB (some (.U (enc a))::caps)=some (f a)))->gQ (bA 0) cc hB (ts.map enc) (s0::caps)=some ((ts.filter q).map f)
| [],_,_=>rfl
|a::ts,s0,h=>by
  obtain⟨ae,aj⟩:=h a (by simp);have bc:=qC enc q f ts (some (.U (enc a))) λb ab=>h b (dq _ ab);simp only[cP,gQ,bA,f6,cp,ae];cases a_:q a with
  |false=>simp[bc,a_]
  |true=>simp[bc,a_,aj a_]
noncomputable def bare(p:a7)(kinds:List Str)(c:aN):List Str:=((p.bZ.filter λz=>decide (z.2∈kinds)).map (·.1)).filter λz=>decide (jO c z≠"shut") && !decide (z∈c.dp)
def bJ(x:Str)(h:(kc x).canLay0=true:=by decide +kernel):cF x:=h
theorem lookup_mem{α:Type}{z:Str}:∀{l:List (Str×α)} {v:α},l.lookup z=some v->(z,v)∈l
  | [],v,h=>by cases h
  | (k,x)::l,v,h=>by
    rw[lQ] at h;split at h
    next q=>
      cases h
      have:z=k:=by simpa using q
      subst this;simp
    next=>exact dq _ (lookup_mem h)
def bj.w_{p:a7}{c:aN}(h:bj p c)(z:Str):cF (jO c z):=by
 unfold jO;cases e:c.lines.lookup z with
|none=>exact bJ ""
|some v=>exact h.lo _ (lookup_mem e)
def bj.N5{p:a7}{c:aN}(h:bj p c){z:Str}(hz:z∈p.bZ.map (·.1)):getD (gV c.lines) (.inr z)=some (.str (jO c z)):=S' (by rw[h.ln];exact hz)
def Sy(p:a7)(c:aN)(aH:List Str)(m:hl)(h:bj p c)(ay:∀k∈aH,cF k):ami [.obj m 0 (encC p c),.U (.tuple (lW aH))]=some (.list ((bare p aH c).map .str)):=by
 have NV:=h.fU;have c1:=qC (cc:=aZ (af (eB false) (af aP (nm 0) (aa (.int 1))) (nm 1))) (hB:=af aP (nm 0) (aa (.int 0))) (caps:=[some (.U (.tuple (lW aH)))]) et (λz=>decide (z.2∈aH)) (λz=>.str z.1) p.bZ none λz hz=>by
  have:=Cc false (h.zn z hz).2 ay;simp at this;constructor
  ·simp! [j8,et,lW,this]
  ·intro _;simp! [j8,et]
 have dh:=qC (cc:=dy (aZ (af fa (nS 0 1 4 (nm 0)) (aa (.str "shut")))) (aZ (af (eB true) (nm 0) (fld 0 1 5)))) (hB:=ao 0) (caps:=[some (.obj m 0 (encC p c))]) kc (λz=>decide (jO c z≠"shut") && !decide (z∈c.dp)) kc ((p.bZ.filter λz=>decide (z.2∈aH)).map (·.1)) none λz hz=>by
  have zY:z∈p.bZ.map (·.1):=by
   obtain⟨x,hx,rfl⟩:=dI.mp hz;exact dI.mpr ⟨x,(List.mem_filter.mp hx).1,rfl⟩
  have ax:=h.N5 zY;have aL:=nu (h.w_ z) (bJ "shut");have e':=vn true (h.lH zY) h.w';simp at e';constructor
  ·by_cases aC:jO c z="shut"
   ·simp! [hX,keyOf,ax,aL,aC,nu (bJ "shut") (bJ "shut")]
   ·simp! [hX,keyOf,ax,aL,e',aC]
  ·intro _;simp! [j8]
 have bX:(p.bZ.map et).length<=16777216:=by simp;omega
 have bY:(((p.bZ.filter λz=>decide (z.2∈aH)).map λz=>kc z.1)).length<=16777216:=by
  rw[eb];have:=amq (λz:Str×Str=>decide (z.2∈aH)) p.bZ;omega
 simp only[k',al4] at dh;simp only[ami,O',k4,la];simp! [hX,cR] at c1 dh ⊢;have sx:p.bZ.length<=big:=by unfold big;omega
 have mP:(p.bZ.filter λz=>decide (z.2∈aH)).length<=big:=by
  have:=amq (λz:Str×Str=>decide (z.2∈aH)) p.bZ;omega
 rw[if_pos sx,c1];simp only[d4,cp,iq,hZ,Function.comp_apply,eb,mP,if_true,Option.join_some];rw[dh];simp[bare]
noncomputable def iD(p:a7)(z k:Str)(c:aN):aN:=if k≠"way"\/p.bq<=0 then fj p z c else tell "coming" (some z) {c with mode:="coming",left:=p.bq,fC:=some z}
noncomputable def fE(p:a7)(z w:Str)(c:aN):aN:=
 if kindOf p z="day" then fj p z c
 else if c.mode="off" then (if w="cut" then tell "fault" (some z) c else c)
 else if w="cut"\/kindOf p z="once" then fj p z c
 else if c.mode="on" then iD p z (kindOf p z) c else c
noncomputable def line(p:a7)(z w:Str)(c:aN):aN:=
 if w=jO c z then c
 else if w="shut" then (if jO c z="cut" then tell "mended" (some z) {c with lines:=gg c.lines z w} else {c with lines:=gg c.lines z w})
 else if z∈c.dp then {c with lines:=gg c.lines z w} else fE p z w {c with lines:=gg c.lines z w}
def ags(p:a7)(c:aN)(z k:Str)(h:bj p c)(hz:cF z)(ay:cF k)(bo:c.told.length<big):amj [.obj .ej 0 (encC p c),.U (.str z),.U (.str k)]=some (.none,encC p (iD p z k c)):=by
 have e:=nu ay (bJ "way");have d0:=Cp p c z h hz bo;by_cases ae:k="way"
 ·by_cases aj:p.bq<=0
  ·simp! [jl,amj,Br,cR,e,ae,aj,d0,iD];simp! [o2,nu (bJ "way") (bJ "way"),d0,aj]
  ·have bM:=qp p {c with mode:="coming",left:=p.bq,fC:=some z} "coming" z bo;simp! [jl,amj,Br,cR,ae,aj,iD];simp! [jl,nu (bJ "way") (bJ "way"),bM,aj,cR]
 ·simp! [jl,amj,Br,cR,e,ae,d0,iD]
def agp(p:a7)(c:aN)(z w:Str)(h:bj p c)(hz:z∈p.bZ.map (·.1))(hw:cF w)(bo:c.told.length<big):xP [.obj .ej 0 (encC p c),.U (.str z),.U (.str w)]=some (.none,encC p (fE p z w c)):=by
 have eK:=Qn h.zn hz;have FY:cF (kindOf p z):=by
  unfold kindOf;cases e:p.bZ.find? λx=>decide (x.1=z) with
  |none=>exact bJ ""
  |some x=>exact (h.zn x (List.mem_of_find?_eq_some e)).2
 have d0:=Cp p c z h (h.lH hz) bo;have bM:=qp p c "fault" z bo;have hQ:=ags p c z (kindOf p z) h (h.lH hz) FY bo;have aM:=d5 FY (bJ "day");have a9:=d5 h.mo (bJ "off");have c5:=d5 hw (bJ "cut");have j4:=d5 FY (bJ "once");have sV:=d5 h.mo (bJ "on");simp only[xP,Pe,fE];by_cases ae:kindOf p z="day"
 ·simp! [hJ,eK,aM,ae,d0];simp! [o2,d5 (bJ "day") (bJ "day"),d0]
 ·by_cases aj:c.mode="off"
  ·by_cases a8:w="cut"
   ·simp! [hJ,eK,aM,ae,a9,aj,c5,a8,bM,d5 (bJ "off") (bJ "off"),d5 (bJ "cut") (bJ "cut")]
   ·simp! [hJ,eK,aM,ae,a9,aj,c5,a8,bM,d5 (bJ "off") (bJ "off")]
  ·by_cases a8:w="cut"
   ·simp! [hJ,eK,aM,ae,a9,aj,c5,a8,d0,d5 (bJ "cut") (bJ "cut")]
   ·by_cases b9:kindOf p z="once"
    ·simp! [hJ,eK,aM,ae,a9,aj,c5,a8,j4,b9,d0,d5 (bJ "once") (bJ "once"),d5 (bJ "once") (bJ "day")]
    ·by_cases gE:c.mode="on"
     ·simp! [hJ,eK,aM,ae,a9,aj,c5,a8,j4,b9,sV,gE,hQ,d5 (bJ "on") (bJ "on"),d5 (bJ "on") (bJ "off")]
     ·simp! [hJ,eK,aM,ae,a9,aj,c5,a8,j4,b9,sV,gE,hQ]
def agN(l:List (Str×Str))(z w:Str):(gg l z w).map (·.1)=l.map (·.1):=by
 unfold gg;rw[k'];refine List.map_congr_left λx _=>?_;by_cases e:x.1=z <;> simp[e]
def ahC(l:List (Str×Int))(z:Str):(nK l z).map (·.1)=l.map (·.1):=by
 unfold nK;rw[k'];refine List.map_congr_left λx _=>?_;by_cases e:x.1=z <;> simp[e]
def bj.OD{p:a7}{c:aN}(h:bj p c)(z:Str){w:Str}(hw:cF w):bj p {c with lines:=gg c.lines z w}:=
 ⟨h.zn,h.fq,h.fU,h.mo,h.ca,h.iZ,(agN _ _ _).trans h.ln,λl av=>by
  obtain⟨x,hx,rfl⟩:=dI.mp av;by_cases e:x.1=z
  ·rw[if_pos e];exact hw
  ·rw[if_neg e];exact h.lo x hx,h.us,h.bW,h.al⟩
theorem bj.tell{p:a7}{c:aN}(h:bj p c)(w:Str)(n:Option Str):bj p (b5.tell w n c):=⟨h.zn,h.fq,h.fU,h.mo,h.ca,h.iZ,h.ln,h.lo,h.us,h.bW,h.al⟩
def bj.loud{p:a7}{c:aN}(h:bj p c):bj p (ku p c):=⟨h.zn,h.fq,h.fU,h.mo,h.ca,h.iZ,h.ln,h.lo,h.us,h.bW,h.al⟩
theorem bj.fj{p:a7}{c:aN}(h:bj p c){z:Str}(hz:z∈p.bZ.map (·.1)):bj p (b5.fj p z c):=by
 unfold b5.fj;split
 ·exact h.loud
 next hm=>
  refine bj.tell (c:={ku p c with cO:=c.cO++[z]}) ⟨h.zn,h.fq,h.fU,h.mo,h.ca,h.iZ,h.ln,h.lo,h.us,h.bW,?_,?_⟩ _ _
  ·show (c.cO++[z]).Nodup
   rw[jH];exact⟨h.al.1,by simp,λa aq b ab e=>hm (by simp at ab;subst ab;exact e▸aq)⟩
  ·intro y aV;rcases gz.mp aV with q|q
   ·exact h.al.2 y q
   ·simp at q;exact q▸hz
def x6(p:a7)(z:Str)(c:aN):(fj p z c).told.length<=c.told.length+1:=by
 unfold fj tell ku;split <;> simp
def aji(p:a7)(c:aN)(z w:Str)(h:bj p c)(hz:z∈p.bZ.map (·.1))(hw:cF w)(bo:c.told.length<big):xW [.obj .ej 0 (encC p c),.U (.str z),.U (.str w)]=some (.none,encC p (line p z w c)):=by
 have ax:=h.N5 hz;have NV:z∈c.lines.map (·.1):=by rw[h.ln];exact hz
 have aL:=aj1 (w:=w) NV;have aM:=d5 hw (h.w_ z);have a9:=d5 hw (bJ "shut");have c5:=d5 (h.w_ z) (bJ "cut");have j4:=vn true (h.lH hz) h.w';simp at j4;have hlen:(gV c.lines).length<16777216:=by
  have:=congrArg List.length h.ln;have:=h.fU;simp[gV] at *;omega
 have hd:=agp p _ z w (h.OD z hw) hz hw bo;have bM:=qp p {c with lines:=gg c.lines z w} "mended" z bo;simp only[xW,Pz,line];by_cases ae:w=jO c z
 ·simp! [hJ,keyOf,ax,aM,ae,d5 (h.w_ z) (h.w_ z)]
 ·by_cases aj:w="shut"
  ·subst aj;by_cases a8:jO c z="cut"
   ·simp! [hJ,big,keyOf,ax,aL,aM,ae,a9,c5,a8,hlen,bM,d5 (bJ "cut") (bJ "cut"),d5 (bJ "shut") (bJ "shut"),d5 (bJ "shut") (bJ "cut")]
   ·simp! [hJ,big,keyOf,ax,aL,aM,ae,a9,c5,a8,hlen,d5 (bJ "shut") (bJ "shut")]
  ·by_cases b9:z∈c.dp
   ·simp! [hJ,big,keyOf,ax,aL,aM,ae,a9,aj,j4,b9,hlen]
   ·simp! [hJ,big,keyOf,ax,aL,aM,ae,a9,aj,j4,b9,hlen,hd]
def less(a n:Int):Int:=if 0 > a - n then 0 else a - n
noncomputable def dZ(n:Int)(c:aN):aN:={c with past:=c.past+n,locked:=less c.locked n,gh:=less c.gh n,left:=less c.left n}
def afD(a n:Int):tE [.int a,.int n]=some (.int (less a n)):=by
 simp! [II,tE,Qw,less]
def Jt(p:a7)(c:aN)(n:Int):tv [.obj .ej 0 (encC p c),.U (.int n)]=some (.none,encC p (dZ n c)):=by
 simp! [hX,tv,O_,afD,dZ]
def cO(p:a7)(zs:List Str)(c:aN):aN:=zs.foldl (λc z=>fj p z c) c
noncomputable def i3(p:a7)(c:aN):aN:=cO p (bare p ["inner","way"] (tell "on" none {c with mode:="on",left:=0})) (tell "on" none {c with mode:="on",left:=0})
noncomputable def mL(p:a7)(c:aN):aN:=fj p (c.fC.getD "") {c with mode:="on",fC:=none}
def iE(p:a7)(c:aN):aN:=if c.mode="leaving" then i3 p c else mL p c
noncomputable def cM(p:a7)(n:Int)(c:aN):aN:=
 if n<1 then c else if (c.mode="leaving"\/c.mode="coming")/\c.left<=n then dZ (n - c.left) (iE p (dZ c.left c)) else dZ n c
theorem Qx(p:a7):∀(zs:List Str) (c:aN) (s1:Option aR),bj p c->(∀z∈zs,z∈p.bZ.map (·.1))->c.told.length+zs.length<big->∃uR,forL (bA 1) (d1 (dT 0 lV 0 [(ao 1)])) (zs.map .str) [some (.obj .ej 0 (encC p c)),s1]=some (.bR [some (.obj .ej 0 (encC p (cO p zs c))),uR])
| [],c,s1,_,_,_=>⟨s1,by simp[forL,cO]⟩
|z::zs,c,s1,h,hz,bo=>by
  have NW:=hz z (by simp);have d0:=Cp p c z h (h.lH NW) (by simp at bo;omega);have:=x6 p z c;obtain⟨uR,bc⟩:=Qx p zs (fj p z c) (some (.U (.str z))) (h.fj NW) (λy aV=>hz y (dq _ aV)) (by simp at bo;omega);refine⟨uR,?_⟩;rw[cP,forL];simp! [o2,d0];simpa [cV,seq,iff,aZ,e6,dy,eI,ft,di,ofT,cn,af,aS,args,aa,nm,ao,bN,skip,asg,e_,hp,par,bk,dD,e3,dx,aP,ei,eL,bA,dV,fG,cQ,comp,fN,cO] using bc
def Cm{p:a7}{aH:List Str}{c:aN}{z:Str}(h:z∈bare p aH c):z∈p.bZ.map (·.1):=by
 unfold bare at h;obtain⟨x,hx,rfl⟩:=dI.mp (List.mem_filter.mp h).1;exact dI.mpr ⟨x,(List.mem_filter.mp hx).1,rfl⟩
def RV(p:a7)(aH:List Str)(c:aN):(bare p aH c).length<=p.bZ.length:=by
 unfold bare;have ae:=amq (λz=>decide (jO c z≠"shut") && !decide (z∈c.dp)) ((p.bZ.filter λz=>decide (z.2∈aH)).map (·.1));have aj:=amq (λz:Str×Str=>decide (z.2∈aH)) p.bZ;rw[eb] at ae;omega
theorem bj.on{p:a7}{c:aN}(h:bj p c)(x:Int):bj p {c with mode:="on",left:=x}:=⟨h.zn,h.fq,h.fU,bJ "on",h.ca,λe=>absurd e BJ,h.ln,h.lo,h.us,h.bW,h.al⟩
def Pn(p:a7)(c:aN)(h:bj p c)(bo:c.told.length+50<big):amh [.obj .ej 0 (encC p c)]=some (.none,encC p (i3 p c)):=by
 have k5:=(h.on 0).tell "on" none;have bM:=BS p {c with mode:="on",left:=0} "on" (by show c.told.length<big;omega);have dQ:=Sy p (tell "on" none {c with mode:="on",left:=0}) ["inner","way"] .ht k5 (by
  intro k ay;simp at ay;rcases ay with rfl|rfl
  ·exact bJ "inner"
  ·exact bJ "way")
 have av:=RV p ["inner","way"] (tell "on" none {c with mode:="on",left:=0});have hz:=h.fU;obtain⟨uR,_n⟩:=Qx p (bare p ["inner","way"] (tell "on" none {c with mode:="on",left:=0})) (tell "on" none {c with mode:="on",left:=0}) none k5 (λz hz=>Cm hz) (by
  have:(tell "on" none {c with mode:="on",left:=0}:aN).told.length=c.told.length+1:=by simp[tell]
  omega)
 simp only[lW,cP,kI] at dQ;simp! [hX,amh,O8,bM,dQ,eT];rw[_n];simp! [adq,i3]
def bj.Oh{p:a7}{c:aN}(h:bj p c):bj p {c with mode:="on",fC:=none}:=⟨h.zn,h.fq,h.fU,bJ "on",λz e=>(nomatch e),λe=>absurd e BJ,h.ln,h.lo,h.us,h.bW,h.al⟩
def aeQ(p:a7)(c:aN)(h:bj p c)(ar:c.fC≠none)(bo:c.told.length<big):xJ [.obj .ej 0 (encC p c)]=some (.none,encC p (mL p c)):=by
 obtain⟨z,hz⟩:=Option.ne_none_iff_exists'.mp ar;have d0:=Cp p {c with mode:="on",fC:=none} z h.Oh (h.ca z hz).1 bo;simp! [hX,xJ,O9,hz,gK,d0,mL]
def bj.cd{p:a7}{c:aN}(h:bj p c)(n:Int):bj p (dZ n c):=⟨h.zn,h.fq,h.fU,h.mo,h.ca,h.iZ,h.ln,h.lo,h.us,h.bW,h.al⟩
def afG(p:a7)(c:aN)(h:bj p c)(hm:c.mode="leaving"\/c.mode="coming")(bo:c.told.length+50<big):vd [.obj .ej 0 (encC p c)]=some (.none,encC p (iE p c)):=by
 have gW:=Pn p c h bo;have q:=d5 h.mo (bJ "leaving");rcases hm with hm|hm
 ·simp! [hJ,vd,Jg,hm,gW,iE,d5 (bJ "leaving") (bJ "leaving")]
 ·have jv:=aeQ p c h (h.iZ hm) (by omega);simp! [hJ,vd,Jg,hm,jv,iE,d5 (bJ "coming") (bJ "leaving")]
def ahJ(p:a7)(c:aN)(n:Int)(h:bj p c)(bo:c.told.length+50<big):rv [.obj .ej 0 (encC p c),.U (.int n)]=some (.none,encC p (cM p n c)):=by
 have q:eB false (.str c.mode) (.tuple [.str "leaving",.str "coming"])=some (.bool (decide (c.mode="leaving"\/c.mode="coming"))):=by
  have:=Cc false (n:=c.mode) (ns:=["leaving","coming"]) h.mo (by
   intro k ay;simp at ay;rcases ay with rfl|rfl
   ·exact bJ "leaving"
   ·exact bJ "coming")
  simpa using this
 have gW:=Jt p c c.left;have mJ:=Jt p c n;by_cases ae:n<1
 ·simp! [jl,rv,xV,ae,cM]
 ·by_cases aj:c.mode="leaving"\/c.mode="coming"
  ·by_cases a8:c.left<=n
   ·have jv:=afG p (dZ c.left c) (h.cd _) aj bo;have uh:=Jt p (iE p (dZ c.left c)) (n - c.left);rw[decide_eq_true aj] at q;simp only[cM,if_neg ae,if_pos (And.intro aj a8)];simp! [jl,rv,xV,ae,q,a8,gW,jv,uh]
   ·rw[decide_eq_true aj] at q;simp only[cM,if_neg ae,if_neg (λz:(c.mode="leaving"\/c.mode="coming")/\c.left<=n=>a8 z.2)];simp! [jl,rv,xV,ae,q,a8,mJ]
  ·rw[decide_eq_false aj] at q;simp only[cM,if_neg ae,if_neg (λz:(c.mode="leaving"\/c.mode="coming")/\c.left<=n=>aj z.1)];simp! [jl,rv,xV,ae,q,mJ]
def qx(k:gR)(c:aN):Bool:=decide (k.uses≠0) && decide (k.uses<=SJ c k.eS)
def k7(c:aN):aN:={tell "wrong" none c with tries:=c.tries+1}
noncomputable def ih(p:a7)(c:aN):aN:=if 3<=c.tries+1 then tell "attack" none (ku p {k7 c with tries:=0,locked:=90}) else k7 c
noncomputable def kL(p:a7)(d:Str)(z:Option Str)(c:aN):Bool:=
 if d="unset" then false else if c.mode≠"off" then true
 else if d="shunt" then decide (kindOf p (z.getD "")="day") || decide (z.getD ""∈c.dp)
 else decide (d="free") && !decide (z.getD ""∈c.dp)
noncomputable def iY(p:a7)(k:gR)(d:Str)(z:Option Str)(c:aN):Option (Str×Str):=
 if (if d="free" then ("shunt":Str) else d)∉k.n7 then some ("denied",k.jD)
 else if kL p d z c then some ("no",k.jD)
 else if d="set"/\bare p ["day","once"] c≠[] then some ("open",(bare p ["day","once"] c).headD "") else none
noncomputable def lr(p:a7)(jD:Str)(c:aN):aN:=
 let c1:=tell "set" (some jD) {c with cO:=[],gh:=0,mode:="leaving",left:=p.leave}
 if p.leave<=0 then i3 p c1 else c1
noncomputable def nQ(jD:Str)(c:aN):aN:=tell "unset" (some jD) {c with mode:="off",left:=0,gh:=0,fC:=none,dp:=[]}
noncomputable def gc(p:a7)(jD d:Str)(z:Option Str)(c:aN):aN:=
 if d="set" then lr p jD c else if d="unset" then nQ jD c
 else if d="shunt" then tell "shunt" z {c with dp:=jQ (c.dp++[z.getD ""])}
 else tell "free" z {c with dp:=c.dp.erase (z.getD "")}
noncomputable def takeRight(p:a7)(k:gR)(d:Str)(z:Option Str)(c:aN):aN:=match iY p k d z c with
|none=>gc p k.jD d z {c with used:=nK c.used k.eS}
|some (w,n)=>tell w (some n) c
noncomputable def code(p:a7)(f d:Str)(z:Option Str)(c:aN):aN:=
 if 0<c.locked then tell "locked" none c else match codeOf p f with
  |none=>ih p c
  |some k=>if qx k c then ih p c else takeRight p k d z {c with tries:=0}
def afS(p:a7)(c:aN)(k:gR)(h:bj p c)(ay:k∈p.codes)(m:hl):vb [.obj m 0 (encC p c),.U (fm k)]=some (.bool (qx k c)):=by
 have e:getD (gu c.used) (.inr k.eS)=some (.int (SJ c k.eS)):=Lg (by rw[h.us];exact dI.mpr ⟨k,ay,rfl⟩);have q:fa (.int k.uses) (.int 0)=some (.bool (!decide (k.uses=0))):=by
  unfold fa;rw[qu,qu];by_cases e:k.uses=0 <;> simp[hY,e]
 by_cases ae:k.uses=0
 ·simp! [jl,vb,Jd,fm,q,ae,nL,qx];simp[fa,qu,hY]
 ·simp! [jl,vb,Jd,fm,q,ae,nL,qx,keyOf,e]
def aeM(p:a7)(c:aN)(bo:c.told.length+2<big):u' [.obj .ej 0 (encC p c)]=some (.none,encC p (ih p c)):=by
 have gW:=BS p c "wrong" (by omega);have jv:=JW p {k7 c with tries:=0,locked:=90};have mJ:=BS p (ku p {k7 c with tries:=0,locked:=90}) "attack" (by simp[ku,k7,tell];omega);have w:({mode:=(tell "wrong" none c).mode,left:=(tell "wrong" none c).left,fC:=(tell "wrong" none c).fC,lines:=(tell "wrong" none c).lines,dp:=(tell "wrong" none c).dp,gh:=(tell "wrong" none c).gh,cO:=(tell "wrong" none c).cO,tries:=c.tries+1,locked:=(tell "wrong" none c).locked,used:=(tell "wrong" none c).used,past:=(tell "wrong" none c).past,told:=(tell "wrong" none c).told}:aN)=k7 c:=rfl;have IU:(tell "wrong" none c).tries=c.tries:=rfl;by_cases a8:3<=c.tries+1
 ·simp! [jl,u',Jb,gW,IU,a8,ih];simp[k7] at jv mJ ⊢;simp[jv,mJ]
 ·simp! [jl,u',Jb,gW,IU,a8,ih,k7]
end b5
section
namespace b5
open D PySem
def bj.sU{p:a7}{c:aN}(h:bj p c)(z:Str):cF (kindOf p z):=by
 unfold kindOf;cases e:p.bZ.find? λx=>decide (x.1=z) with
|none=>exact bJ ""
|some x=>exact (h.zn x (List.mem_of_find?_eq_some e)).2
def pk:(2<=big)=True:=by simp[big]
def Rr:(10<=big)=True:=by simp[big]
noncomputable def al9(p:a7)(d:Str)(z:Option Str):Prop:=(d="shunt"\/d="free")->∃x,z=some x/\x∈p.bZ.map (·.1)
def aeG(p:a7)(c:aN)(d:Str)(z:Option Str)(m:hl)(h:bj p c)(hd:cF d)(hz:al9 p d z):al6 [.obj m 0 (encC p c),.U (.str d),.U (gK z)]=some (.bool (kL p d z c)):=by
 have aM:=d5 hd (bJ "unset");have a9:=nu h.mo (bJ "off");have c5:=d5 hd (bJ "shunt");have j4:=d5 hd (bJ "free");by_cases ae:d="unset"
 ·simp! [hX,al6,tu,aM,ae,kL];simp[d5 (bJ "unset") (bJ "unset")]
 ·by_cases aj:c.mode="off"
  ·by_cases a8:d="shunt"
   ·obtain⟨x,rfl,hx⟩:=hz (.inl a8);subst a8;have eK:=Qn h.zn hx;have sV:=d5 (h.sU x) (bJ "day");have rd:=vn false (h.lH hx) h.w';simp at rd;by_cases b9:kindOf p x="day"
    ·simp! [hJ,al6,tu,aM,ae,aj,nu (bJ "off") (bJ "off"),c5,xb,gK,eK,sV,rd,b9,kL];simp[d5 (bJ "day") (bJ "day")]
    ·simp! [hJ,al6,tu,aM,ae,aj,nu (bJ "off") (bJ "off"),c5,xb,gK,eK,sV,rd,b9,kL]
   ·by_cases b9:d="free"
    ·obtain⟨x,rfl,hx⟩:=hz (.inr b9);subst b9;have rd:=vn true (h.lH hx) h.w';simp at rd;simp! [hJ,al6,tu,aM,aj,nu (bJ "off") (bJ "off"),c5,j4,nL,gK,rd,kL]
    ·simp! [hJ,al6,tu,aM,ae,aj,nu (bJ "off") (bJ "off"),c5,a8,j4,b9,nL,kL]
  ·simp! [hX,al6,tu,aM,ae,a9,aj,kL]
def qR:Option (Str×Str)->T
|none=>.none
|some (w,n)=>.tuple [.str w,.str n]
def ael(p:a7)(c:aN)(k:gR)(d:Str)(z:Option Str)(m:hl)(h:bj p c)(ay:k∈p.codes)(hd:cF d)(hz:al9 p d z):xH [.obj m 0 (encC p c),.U (fm k),.U (.str d),.U (gK z)]=some (qR (iY p k d z c)):=by
 have aM:=d5 hd (bJ "free");have a9:=d5 hd (bJ "set");have hC:=aeG p c d z .ht h hd hz;have dQ:=Sy p c ["day","once"] .ht h (by
  intro k ay;simp at ay;rcases ay with rfl|rfl
  ·exact bJ "day"
  ·exact bJ "once")
 simp only[lW,cP,kI] at dQ;have c5:=Cc true (n:=if d="free" then ("shunt":Str) else d) (ns:=k.n7) (by
  split
  ·exact bJ "shunt"
  ·exact hd) (h.fq k ay).2.2
 simp at c5;have qr:(oW (aZ (af oEq (nm 2) (aa (.str "free")))) (aa (.str "shunt")) (ao 2)) [some (.obj m 0 (encC p c)),some (.U (fm k)),some (.U (.str d)),some (.U (gK z)),none,none]=some (.str (if d="free" then ("shunt":Str) else d)):=by
  by_cases h0:d="free"
  ·simp! [o2,aM,h0,d5 (bJ "free") (bJ "free")]
  ·simp! [o2,aM,h0]
 simp only[xH,O3,k4,la,seq,asg,cP,kI,eJ,ke,jE,mn,pd,qr,d4,cp,gO,f6];generalize au:(if d="free" then ("shunt":Str) else d)=r at c5 ⊢;unfold iY;rw[au];by_cases ae:r∈k.n7
 ·by_cases aj:kL p d z c=true
  ·simp! [hX,fm,pk,c5,ae,hC,aj,qR]
  ·simp at aj;by_cases a8:d="set"
   ·subst a8;cases e:bare p ["day","once"] c with
    |nil=>
     rw[e] at dQ;simp! [hX,fm,pk,c5,ae,hC,aj,dQ,a9,qR]
    |cons b bs=>
     rw[e] at dQ;simp! [hX,fm,pk,c5,ae,hC,aj,dQ,a9,qR]
   ·simp! [hX,fm,pk,c5,ae,hC,aj,dQ,a9,a8,qR]
 ·simp! [hX,fm,pk,c5,ae,qR]
def bj.A0{p:a7}{c:aN}(h:bj p c)(x:Int):bj p {c with cO:=[],gh:=0,mode:="leaving",left:=x}:=⟨h.zn,h.fq,h.fU,bJ "leaving",h.ca,λe=>absurd e Pd,h.ln,h.lo,h.us,h.bW,by simp⟩
def ahs(p:a7)(c:aN)(w:Str)(h:bj p c)(bo:c.told.length+60<big):vf [.obj .ej 0 (encC p c),.U (.str w)]=some (.none,encC p (lr p w c)):=by
 have gW:=qp p {c with cO:=[],gh:=0,mode:="leaving",left:=p.leave} "set" w (by show c.told.length<big;omega);have jv:=Pn p (tell "set" (some w) {c with cO:=[],gh:=0,mode:="leaving",left:=p.leave}) ((h.A0 p.leave).tell _ _) (by
  have:(tell "set" (some w) {c with cO:=[],gh:=0,mode:="leaving",left:=p.leave}:aN).told.length=c.told.length+1:=by simp[tell]
  omega)
 have lf:(tell "set" (some w) {c with cO:=[],gh:=0,mode:="leaving",left:=p.leave}:aN).left=p.leave:=rfl;by_cases ae:p.leave<=0
 ·simp! [jl,vf,Jn,cR,gW,lf,ae,jv,lr]
 ·simp! [jl,vf,Jn,cR,gW,lf,ae,lr]
def afH(p:a7)(c:aN)(w:Str)(bo:c.told.length<big):xN [.obj .ej 0 (encC p c),.U (.str w)]=some (.none,encC p (nQ w c)):=by
 have gW:=qp p {c with mode:="off",left:=0,gh:=0,fC:=none,dp:=[]} "unset" w bo;simp! [jl,xN,Pb,gW,nQ]
theorem JP:∀l:List Str,strsOf (l.map .str)=some l
| []=>rfl
|x::l=>by simp[strsOf,JP l]
noncomputable def AH(p:a7)(d:Str)(z:Option Str)(c:aN):Prop:=d="set"\/d="unset"\/(d="shunt"/\∃x,z=some x/\x∈p.bZ.map (·.1))\/(d="free"/\∃x,z=some x/\x∈c.dp)
def agk(p:a7)(c:aN)(w d:Str)(z:Option Str)(h:bj p c)(hd:cF d)(hz:AH p d z c)(bo:c.told.length+60<big):rt [.obj .ej 0 (encC p c),.U (.str w),.U (.str d),.U (gK z)]=some (.none,encC p (gc p w d z c)):=by
 have aM:=d5 hd (bJ "set");have a9:=d5 hd (bJ "unset");have c5:=d5 hd (bJ "shunt");have es:=ahs p c w h bo;have hC:=afH p c w (by omega);rcases hz with rfl|rfl|⟨rfl,x,rfl,hx⟩|⟨rfl,x,rfl,hx⟩
 ·simp! [hX,rt,xR,aM,es,gc]
 ·simp! [hJ,rt,xR,aM,a9,hC,gc]
 ·have av:=h.OF;have gW:=qp p {c with dp:=jQ (c.dp++[x])} "shunt" x (by show c.told.length<big;omega);have b1:c.dp.length+1<=big:=by unfold big;omega
  have b2:c.dp.length+1<64:=by omega
  have yW:1<=big:=by decide
  have gB:=JP (c.dp++[x]);simp at gB;simp! [hJ,rt,xR,aM,a9,c5,gK,b4,yW,b1,b2,Cb,gB,gW,gc]
 ·have gW:=qp p {c with dp:=c.dp.erase x} "free" x (by show c.told.length<big;omega);simp! [hJ,rt,xR,aM,a9,c5,gK,AP,JP,hx,gW,gc]
structure Wp(p:a7):Prop where
 cd:(p.codes.map (·.eS)).Nodup
 P4:(p.bZ.map (·.1)).Nodup
 cl:p.codes.length<=40
 IU:0<=p.leave/\0<=p.bq/\0<=p.loud
def bj.add{p:a7}{c:aN}(h:bj p c)(f:Str):bj p {c with used:=nK c.used f}:=⟨h.zn,h.fq,h.fU,h.mo,h.ca,h.iZ,h.ln,h.lo,(ahC _ _).trans h.us,h.bW,h.al⟩
def bj.A7{p:a7}{c:aN}(h:bj p c)(n:Int):bj p {c with tries:=n}:=⟨h.zn,h.fq,h.fU,h.mo,h.ca,h.iZ,h.ln,h.lo,h.us,h.bW,h.al⟩
def Lf{p:a7}{c:aN}{k:gR}{d:Str}{z:Option Str}(hd:d="set"\/d="unset"\/d="shunt"\/d="free")(hz:al9 p d z)(aq:iY p k d z c=none):AH p d z c:=by
 rcases hd with rfl|rfl|rfl|rfl
 ·exact .inl rfl
 ·exact .inr (.inl rfl)
 ·exact .inr (.inr (.inl ⟨rfl,hz (.inl rfl)⟩))
 ·refine .inr (.inr (.inr ⟨rfl,?_⟩))
  obtain⟨x,rfl,hx⟩:=hz (.inr rfl);refine⟨x,rfl,?_⟩;refine Classical.byContradiction λbH=>?_;have:kL p "free" (some x) c=true:=by
   by_cases hm:c.mode="off" <;> simp[kL,BE,BF,bH,hm]
  unfold iY at aq;rw[this] at aq;by_cases au:(if ("free":Str)="free" then ("shunt":Str) else "free")∈k.n7
  ·rw[if_neg (λq=>q au),if_pos rfl] at aq;cases aq
  ·rw[if_pos au] at aq;cases aq
def aeN(p:a7)(c:aN)(k:gR)(d:Str)(z:Option Str)(h:bj p c)(az:Wp p)(ay:k∈p.codes)(hd:d="set"\/d="unset"\/d="shunt"\/d="free")(hz:al9 p d z)(bo:c.told.length+60<big):va [.obj .ej 0 (encC p c),.U (fm k),.U (.str d),.U (gK z)]=some (.none,encC p (takeRight p k d z c)):=by
 have e4:cF d:=by
  rcases hd with rfl|rfl|rfl|rfl
  ·exact bJ "set"
  ·exact bJ "unset"
  ·exact bJ "shunt"
  ·exact bJ "free"
 have d0:=ael p c k d z .ht h ay e4 hz;have mW:k.eS∈c.used.map (·.1):=by rw[h.us];exact dI.mpr ⟨k,ay,rfl⟩
 cases e:iY p k d z c with
|none=>
  have jw:=Lf hd hz e;have g1:=Lg mW;have g2:=aj2 mW (by rw[h.us];exact az.cd);have av:(gu c.used).length<big:=by
   have:=congrArg List.length h.us;have:=az.cl;simp[gu] at *;unfold big;omega
  have eR:=agk p {c with used:=nK c.used k.eS} k.jD d z (h.add _) e4 jw bo;rw[e] at d0;simp only[fm] at d0;simp! [hX,va,Jc,d0,qR,fm,keyOf,g1,g2,av,eR,takeRight,e]
|some wn=>
  obtain⟨w,n⟩:=wn;have bM:=qp p c w n (by omega);rw[e] at d0;simp only[fm] at d0;simp! [hX,va,Jc,d0,qR,fm,bM,takeRight,e]
def Qt{p:a7}{f:Str}{k:gR}(h:codeOf p f=some k):k∈p.codes:=List.mem_of_find?_eq_some h
def ajC(p:a7)(c:aN)(f d:Str)(z:Option Str)(h:bj p c)(az:Wp p)(hf:cF f)(hd:d="set"\/d="unset"\/d="shunt"\/d="free")(hz:al9 p d z)(bo:c.told.length+60<big):ry [.obj .ej 0 (encC p c),.U (.str f),.U (.str d),.U (gK z)]=some (.none,encC p (code p f d z c)):=by
 have hQ:=agt (λk ay=>(h.fq k ay).1) hf;have bM:=BS p c "locked" (by omega);have l4:=aeM p c (by omega);by_cases ae:0<c.locked
 ·simp! [jl,ry,xX,hQ,ae,bM,code]
 ·cases e:codeOf p f with
  |none=>
   rw[e] at hQ;simp! [jl,ry,xX,hQ,uk,ae,l4,code,e]
  |some k=>
   rw[e] at hQ;have ay:=Qt e;have hC:=afS p c k h ay .ht;have kX:=aeN p {c with tries:=0} k d z (h.A7 0) az ay hd hz bo;cases aj:qx k c with
   |true=>
    rw[aj] at hC;simp! [jl,ry,xX,hQ,uk,ae,hC,fm] at hC ⊢;simp[hC,l4,code,e,ae,aj]
   |false=>
    rw[aj] at hC;simp! [jl,ry,xX,hQ,uk,ae,hC,fm] at hC kX ⊢;simp! [ads,hC,kX,code,e,ae,aj]
inductive fV where
|line (z w:Str)
|code (f d:Str) (z:Option Str)
|cM (n:Int)
noncomputable def dG:fV->T
|.line z w=>.tuple [.str "line",.str z,.str w]
|.code f d z=>.tuple [.str "code",.str f,.str d,gK z]
|.cM n=>.tuple [.str "ticks",.int n]
noncomputable def lG(p:a7):fV->Prop
|.line z w=>z∈p.bZ.map (·.1)/\(w="shut"\/w="open"\/w="cut")
|.code f d z=>cF f/\(d="set"\/d="unset"\/d="shunt"\/d="free")/\al9 p d z
|.cM n=>1<=n
noncomputable def d8(p:a7)(c:aN):fV->aN
|.line z w=>line p z w c
|.code f d z=>code p f d z c
|.cM n=>cM p n c
def ahm(p:a7)(c:aN)(e:fV)(h:bj p c)(az:Wp p)(he:lG p e)(bo:c.told.length+60<big):ru [.obj .ej 0 (encC p c),.U (dG e)]=some (.none,encC p (d8 p c e)):=by
 have q (x y:Str) (hx:cF x) (aV:cF y):=d5 hx aV;cases e with
|line z w=>
  have gx:cF w:=by
   rcases he.2 with rfl|rfl|rfl
   ·exact bJ "shut"
   ·exact bJ "open"
   ·exact bJ "cut"
  have jY:=aji p c z w h he.1 gx (by omega);simp! [hX,ru,Bu,dG,d5 (bJ "line") (bJ "line"),jY,d8]
|code f d z=>
  have jY:=ajC p c f d z h az he.1 he.2.1 he.2.2 bo;simp! [hJ,ru,Bu,dG,d5 (bJ "code") (bJ "line"),d5 (bJ "code") (bJ "code"),jY,d8]
|cM n=>
  have jY:=ahJ p c n h (by omega);simp! [hJ,ru,Bu,dG,d5 (bJ "ticks") (bJ "line"),d5 (bJ "ticks") (bJ "code"),jY,d8]
end b5
end
section
namespace b5
open D PySem
local instance:cG:=⟨[],λ_=>[],λ_=>none⟩
def mv(w:Str)(n:Option Str)(c:aN):(tell w n c).told.length=c.told.length+1:=by simp[tell]
theorem bj.V9{p:a7}{c:aN}(h:bj p c)(x:Int){z:Str}(hz:z∈p.bZ.map (·.1)):bj p {c with mode:="coming",left:=x,fC:=some z}:=
 ⟨h.zn,h.fq,h.fU,bJ "coming",λy e=>fc e▸⟨h.lH hz,hz⟩,λ_ e=>(nomatch e),h.ln,h.lo,h.us,h.bW,h.al⟩
theorem bj.iD{p:a7}{c:aN}(h:bj p c){z:Str}(k:Str)(hz:z∈p.bZ.map (·.1)):bj p (iD p z k c):=by
 unfold b5.iD;split
 ·exact h.fj hz
 ·exact (h.V9 p.bq hz).tell _ _
def afM(p:a7)(z k:Str)(c:aN):(iD p z k c).told.length<=c.told.length+1:=by
 unfold b5.iD;split
 ·exact x6 p z c
 ·rw[mv];exact dw _
theorem bj.fE{p:a7}{c:aN}(h:bj p c){z:Str}(w:Str)(hz:z∈p.bZ.map (·.1)):bj p (fE p z w c):=by
 unfold b5.fE
 repeat' split
 all_goals first|exact h.fj hz|exact h.tell _ _|exact h.iD _ hz|exact h
def afa(p:a7)(z w:Str)(c:aN):(fE p z w c).told.length<=c.told.length+1:=by
 unfold b5.fE
 repeat' split
 all_goals first|exact x6 p z c|exact afM p z _ c|(rw[mv];exact dw _)|omega
theorem bj.line{p:a7}{c:aN}(h:bj p c){z w:Str}(hz:z∈p.bZ.map (·.1))(hw:cF w):bj p (line p z w c):=by
 have h':=h.OD z hw;unfold b5.line
 repeat' split
 all_goals first|exact h|exact h'|exact h'.tell _ _|exact h'.fE _ hz
def aha(p:a7)(z w:Str)(c:aN):(line p z w c).told.length<=c.told.length+1:=by
 unfold b5.line
 repeat' split
 all_goals first|omega|(rw[mv];exact dw _)|exact afa p z w {c with lines:=gg c.lines z w}|exact ni _
theorem bj.cO{p:a7}:∀{zs:List Str} {c:aN},bj p c->(∀z∈zs,z∈p.bZ.map (·.1))->bj p (b5.cO p zs c)
| [],_,h,_=>h
|z::zs,c,h,hz=>bj.cO (zs:=zs) (h.fj (hz z fx)) λy aV=>hz y (dq _ aV)
theorem P5(p:a7):∀(zs:List Str) (c:aN),(b5.cO p zs c).told.length<=c.told.length+zs.length
| [],c=>dw _
|z::zs,c=>by
  have ae:=P5 p zs (fj p z c);have aj:=x6 p z c;simp only[eJ];show (b5.cO p zs (fj p z c)).told.length<=_;omega
theorem bj.i3{p:a7}{c:aN}(h:bj p c):bj p (i3 p c):=bj.cO ((h.on 0).tell _ _) λz hz=>Cm hz
def Ph{p:a7}{c:aN}(h:bj p c):(i3 p c).told.length<=c.told.length+41:=by
 have ae:=P5 p (bare p ["inner","way"] (tell "on" none {c with mode:="on",left:=0})) (tell "on" none {c with mode:="on",left:=0});have aj:=RV p ["inner","way"] (tell "on" none {c with mode:="on",left:=0});have a8:=h.fU;rw[mv] at ae;show (b5.cO p _ _).told.length<=_;have b9:({c with mode:="on",left:=0}:aN).told.length=c.told.length:=rfl;omega
theorem bj.mL{p:a7}{c:aN}(h:bj p c)(ar:c.fC≠none):bj p (mL p c):=by
 obtain⟨z,hz⟩:=Option.ne_none_iff_exists'.mp ar;unfold b5.mL;rw[hz];exact h.Oh.fj (h.ca z hz).2
def aeH(p:a7)(c:aN):(mL p c).told.length<=c.told.length+1:=x6 _ _ _
theorem bj.iE{p:a7}{c:aN}(h:bj p c)(hm:c.mode="leaving"\/c.mode="coming"):bj p (iE p c):=by
 unfold b5.iE;split
 ·exact h.i3
 next q=>exact h.mL (h.iZ (hm.resolve_left q))
def ae_{p:a7}{c:aN}(h:bj p c):(iE p c).told.length<=c.told.length+41:=by
 unfold b5.iE;split
 ·exact Ph h
 ·have:=aeH p c;omega
theorem bj.cM{p:a7}{c:aN}(h:bj p c)(n:Int):bj p (cM p n c):=by
 unfold b5.cM;split
 ·exact h
 ·split
  next q=>exact ((h.cd _).iE q.1).cd _
  ·exact h.cd _
def afX{p:a7}{c:aN}(h:bj p c)(n:Int):(cM p n c).told.length<=c.told.length+41:=by
 unfold b5.cM;split
 ·omega
 ·split
  ·exact ae_ (h.cd c.left)
  ·exact tq _ _
theorem bj.ih{p:a7}{c:aN}(h:bj p c):bj p (ih p c):=by
 unfold b5.ih;split
 ·exact bj.tell (bj.loud (c:={k7 c with tries:=0,locked:=90}) ⟨h.zn,h.fq,h.fU,h.mo,h.ca,h.iZ,h.ln,h.lo,h.us,h.bW,h.al⟩) _ _
 ·exact⟨h.zn,h.fq,h.fU,h.mo,h.ca,h.iZ,h.ln,h.lo,h.us,h.bW,h.al⟩
def aeB(p:a7)(c:aN):(ih p c).told.length<=c.told.length+2:=by
 unfold b5.ih;split
 ·rw[mv];show (tell _ _ c).told.length+1<=_;rw[mv];exact dw _
 ·show (tell _ _ c).told.length<=_
  rw[mv];omega
theorem bj.lr{p:a7}{c:aN}(h:bj p c)(w:Str):bj p (lr p w c):=by
 unfold b5.lr;have h':=(h.A0 p.leave).tell "set" (some w);show bj p (if p.leave<=0 then _ else _);split
 ·exact h'.i3
 ·exact h'
def agm{p:a7}{c:aN}(h:bj p c)(w:Str):(lr p w c).told.length<=c.told.length+42:=by
 unfold b5.lr;have h':=(h.A0 p.leave).tell "set" (some w);have e:=mv "set" (some w) {c with cO:=[],gh:=0,mode:="leaving",left:=p.leave};have bg:({c with cO:=[],gh:=0,mode:="leaving",left:=p.leave}:aN).told.length=c.told.length:=rfl;show (if p.leave<=0 then i3 p _ else _:aN).told.length<=_;split
 ·have:=Ph h';omega
 ·omega
theorem bj.nQ{p:a7}{c:aN}(h:bj p c)(w:Str):bj p (nQ w c):=
 ⟨h.zn,h.fq,h.fU,bJ "off",λz e=>(nomatch e),λe=>absurd e BD,h.ln,h.lo,h.us,by simp[b5.nQ,b5.tell],h.al⟩
theorem bj.gc{p:a7}{c:aN}(h:bj p c)(w:Str){d:Str}{z:Option Str}(hz:AH p d z c)(aX:d="shunt"->z.getD ""∉c.dp):bj p (gc p w d z c):=by
 rcases hz with rfl|rfl|⟨rfl,x,rfl,hx⟩|⟨rfl,x,rfl,hx⟩
 ·simp only[b5.gc,if_true];exact h.lr w
 ·simp only[b5.gc,if_neg JB,if_true];exact h.nQ w
 ·simp only[b5.gc,if_neg xZ,if_neg vg,if_true];refine bj.tell (c:={c with dp:=jQ (c.dp++[x])}) ⟨h.zn,h.fq,h.fU,h.mo,h.ca,h.iZ,h.ln,h.lo,h.us,⟨?_,?_⟩,h.al⟩ _ _
  ·show (jQ (c.dp++[x])).Nodup
   rw[(vh _).nodup_iff,jH];refine⟨h.bW.1,by simp,λa aq b ab e=>?_⟩;simp at ab;exact aX rfl (by show x∈_;exact ab▸e▸aq)
  ·intro y aV;have uD:=(vh _).mem_iff.mp aV;rcases gz.mp uD with q|q
   ·exact h.bW.2 y q
   ·simp at q;exact q▸hx
 ·simp only[b5.gc,if_neg JU,if_neg BE,if_neg BF];refine bj.tell (c:={c with dp:=c.dp.erase x}) ⟨h.zn,h.fq,h.fU,h.mo,h.ca,h.iZ,h.ln,h.lo,h.us,⟨?_,?_⟩,h.al⟩ _ _
  ·exact h.bW.1.erase x
  ·exact λy aV=>h.bW.2 y (List.mem_of_mem_erase aV)
def afI{p:a7}{c:aN}(h:bj p c)(w d:Str)(z:Option Str):(gc p w d z c).told.length<=c.told.length+42:=by
 unfold b5.gc;split
 ·exact agm h w
 ·split
  ·show (tell _ _ _).told.length<=_
   rw[mv];show c.told.length+1<=_;omega
  ·split
   ·rw[mv];show c.told.length+1<=_;omega
   ·rw[mv];show c.told.length+1<=_;omega
def aeS{p:a7}{c:aN}{k:gR}{z:Option Str}(aq:iY p k "shunt" z c=none):z.getD ""∉c.dp/\c.mode="off"/\kindOf p (z.getD "")≠"day":=by
 have bH:kL p "shunt" z c≠true:=by
  intro q;unfold iY at aq;rw[q] at aq;by_cases au:(if ("shunt":Str)="free" then ("shunt":Str) else "shunt")∈k.n7
  ·rw[if_neg (λq=>q au),if_pos rfl] at aq;cases aq
  ·rw[if_pos au] at aq;cases aq
 unfold kL at bH;rw[if_neg vg] at bH;by_cases hm:c.mode="off"
 ·rw[if_neg (λq=>q hm),if_pos rfl] at bH;simp at bH;exact⟨bH.2,hm,bH.1⟩
 ·rw[if_pos hm] at bH;exact absurd rfl bH
theorem bj.takeRight{p:a7}{c:aN}(h:bj p c)(k:gR){d:Str}{z:Option Str}(hd:d="set"\/d="unset"\/d="shunt"\/d="free")(hz:al9 p d z):bj p (takeRight p k d z c):=by
 unfold b5.takeRight;split
 next e=>
  refine (h.add _).gc _ (Lf hd hz e) λq=>?_
  subst q;exact (aeS e).1
 ·exact h.tell _ _
def aeC{p:a7}{c:aN}(h:bj p c)(k:gR)(d:Str)(z:Option Str):(takeRight p k d z c).told.length<=c.told.length+42:=by
 unfold b5.takeRight;split
 ·exact afI (h.add k.eS) _ _ _
 ·rw[mv];omega
theorem bj.code{p:a7}{c:aN}(h:bj p c)(f:Str){d:Str}{z:Option Str}(hd:d="set"\/d="unset"\/d="shunt"\/d="free")(hz:al9 p d z):bj p (code p f d z c):=by
 unfold b5.code;split
 ·exact h.tell _ _
 ·split
  ·exact h.ih
  ·split
   ·exact h.ih
   ·exact (h.A7 0).takeRight _ hd hz
def ahx{p:a7}{c:aN}(h:bj p c)(f d:Str)(z:Option Str):(code p f d z c).told.length<=c.told.length+42:=by
 have:=aeB p c;unfold b5.code;split
 ·rw[mv];omega
 ·split
  ·omega
  ·split
   ·omega
   ·exact aeC (h.A7 0) _ _ _
def ak8{p:a7}{z w:Str}(he:lG p (.line z w)):cF w:=by
 rcases he.2 with rfl|rfl|rfl
 ·exact bJ "shut"
 ·exact bJ "open"
 ·exact bJ "cut"
theorem bj.d8{p:a7}{c:aN}(h:bj p c){e:fV}(he:lG p e):bj p (d8 p c e):=by
 cases e with
|line z w=>exact h.line he.1 (ak8 he)
|code f d z=>exact h.code f he.2.1 he.2.2
|cM n=>exact h.cM n
def P1{p:a7}{c:aN}(h:bj p c)(e:fV):(d8 p c e).told.length<=c.told.length+50:=by
 cases e with
|line z w=>have:=aha p z w c;show (line p z w c).told.length<=_;omega
|code f d z=>have:=ahx h f d z;show (code p f d z c).told.length<=_;omega
|cM n=>have:=afX h n;show (cM p n c).told.length<=_;omega
def run(p:a7)(c:aN)(es:List fV):aN:=es.foldl (d8 p) c
def fresh(c:aN):aN:={c with past:=0,told:=[]}
theorem bj.fresh{p:a7}{c:aN}(h:bj p c):bj p (fresh c):=⟨h.zn,h.fq,h.fU,h.mo,h.ca,h.iZ,h.ln,h.lo,h.us,h.bW,h.al⟩
theorem bj.run{p:a7}:∀{es:List fV} {c:aN},bj p c->(∀e∈es,lG p e)->bj p (run p c es)
| [],_,h,_=>h
|e::es,c,h,he=>bj.run (es:=es) (h.d8 (he e fx)) λy aV=>he y (dq _ aV)
theorem Ko{p:a7}:∀{es:List fV} {c:aN},bj p c->(∀e∈es,lG p e)->(run p c es).told.length<=c.told.length+50*es.length
| [],_,_,_=>dw _
|e::es,c,h,he=>by
  have ae:=Ko (es:=es) (h.d8 (he e fx)) λy aV=>he y (dq _ aV);have aj:=P1 h e;show (run p (d8 p c e) es).told.length<=_;simp only[eJ];omega
noncomputable def dz(c:aN):T:=.tuple [.str c.mode,.int c.left,gK c.fC,.tuple (c.lines.map λl=>.str l.2),.tuple (c.dp.map .str),.int c.gh,.tuple (c.cO.map .str),.int c.tries,.int c.locked,.tuple (c.used.map λu=>.int u.2)]
theorem SH:∀(aH:List Str) (l:List (Str×Str)),l.map (·.1)=aH->rS (aH.map .str) (l.map λl=>.str l.2)=some (gV l)
| [],[],_=>rfl
| [],_::_,h=>by cases h
|_::_,[],h=>by cases h
|k::aH,x::l,h=>by
  simp at h;simp[rS,keyOf,SH aH l h.2,gV,h.1]
theorem SI:∀(aH:List Str) (l:List (Str×Int)),l.map (·.1)=aH->rS (aH.map .str) (l.map λl=>.int l.2)=some (gu l)
| [],[],_=>rfl
| [],_::_,h=>by cases h
|_::_,[],h=>by cases h
|k::aH,x::l,h=>by
  simp at h;simp[rS,keyOf,SI aH l h.2,gu,h.1]
def J9{l:List Str}(h:l.Nodup):(l.map (Sum.inr:Str->D.Key)).Nodup:=by
 rw[List.nodup_iff_pairwise_ne,List.pairwise_map];exact (List.nodup_iff_pairwise_ne.mp h).imp λq e=>q (Sum.inr.inj e)
def Sk(l:List (Str×Str)):(gV l).map (·.1)=(l.map (·.1)).map Sum.inr:=by simp[gV,al4]
def ajk(l:List (Str×Int)):(gu l).map (·.1)=(l.map (·.1)).map Sum.inr:=by simp[gu,al4]
def RQ{α:Type}(enc:α->T)(g:α->T)(caps:Ev)(ts:List α)(s0:Option aR)(h:∀a∈ts,(af aP (nm 0) (aa (.int 0))) (some (.U (enc a))::caps)=some (g a)):gQ (bA 0) (di true) (af aP (nm 0) (aa (.int 0))) (ts.map enc) (s0::caps)=some (ts.map g):=by
 have:=qC (cc:=di true) (hB:=af aP (nm 0) (aa (.int 0))) (caps:=caps) enc (λ_=>true) g ts s0 λa aq=>⟨rfl,λ_=>h a aq⟩;rw[List.filter_eq_self.mpr (λ_ _=>rfl)] at this;exact this
def ajo(p:a7)(c:aN)(h:bj p c)(az:Wp p):xO [.obj .ej 0 [],.U (cR p),.U (dz c)]=some (.none,encC p (fresh c)):=by
 have hz:=h.fU;have ar:=az.cl;have c1:=RQ et (λz=>.str z.1) [] p.bZ none λz hz=>by simp! [j8,et]
 have dh:=RQ fm (λz=>.str z.eS) [] p.codes none λz hz=>by simp! [j8,fm]
 have nk:=SH (p.bZ.map (·.1)) c.lines h.ln;have f9:=SI (p.codes.map (·.eS)) c.used h.us;rw[k'] at nk f9;have b1:p.bZ.length<=big:=by unfold big;omega
 have b2:p.codes.length<=big:=by unfold big;omega
 have dX:((gV c.lines).map (·.1)).Nodup/\(gV c.lines).length<=1000/\∀t∈(p.bZ.map λz=>kc z.1),(keyOf t).isSome=true:=by
  refine⟨?_,?_,?_⟩
  ·rw[Sk,h.ln];exact J9 az.P4
  ·have:=congrArg List.length h.ln;simp[gV] at *;omega
  ·intro t bo;obtain⟨z,_,rfl⟩:=dI.mp bo;rfl
 have eH:((gu c.used).map (·.1)).Nodup/\(gu c.used).length<=1000/\∀t∈(p.codes.map λz=>kc z.eS),(keyOf t).isSome=true:=by
  refine⟨?_,?_,?_⟩
  ·rw[ajk,h.us];exact J9 az.cd
  ·have:=congrArg List.length h.us;simp[gu] at *;omega
  ·intro t bo;obtain⟨z,_,rfl⟩:=dI.mp bo;rfl
 have yW:(0<=big)=True:=by simp
 simp only[al4] at nk f9;simp only[xO,Pc,runM,la];simp! [o2,cR,dz,vO,vF,c1,dh,b1,b2,nk,f9];rw[if_pos dX];simp! [o2,vF,vO,c1,dh,b1,b2,nk,f9];rw[if_pos ⟨eH.1,eH.2.1,λa aq=>rfl⟩];simp! [o2,encC,fresh,cR]
def ahN(p:a7)(c:aN)(m:hl)(h:bj p c):xU [.obj m 0 (encC p c)]=some (dz c):=by
 have ae:=h.OF;have aj:=h.LP;have b1:c.dp.length<=big:=by unfold big;omega
 have b2:c.cO.length<=big:=by unfold big;omega
 simp! [hX,xU,Po,yG,gq,b1,b2,Rr,dz,gV,gu,al4]
theorem Rx(p:a7)(az:Wp p):∀(es:List fV) (c:aN) (s0 s1 s2 s4:Option aR),bj p c->(∀e∈es,lG p e)->c.told.length+50*es.length+60<big->∃rh,forL (bA 4) (d1 (dT 0 ru 3 [(ao 4)])) (es.map dG) [s0,s1,s2,some (.obj .own 0 (encC p c)),s4]=some (.bR [s0,s1,s2,some (.obj .own 0 (encC p (run p c es))),rh])
| [],c,s0,s1,s2,s4,_,_,_=>⟨s4,by simp[forL,run]⟩
|e::es,c,s0,s1,s2,s4,h,he,bo=>by
  have Nn:=he e fx;simp only[eJ] at bo;have d0:=ahm p c e h az Nn (by omega);have:=P1 h e;obtain⟨uR,bc⟩:=Rx p az es (d8 p c e) s0 s1 s2 (some (.U (dG e))) (h.d8 Nn) (λy aV=>he y (dq _ aV)) (by omega);refine⟨uR,?_⟩;rw[cP,forL];simp! [o2,d0];simpa [cV,seq,iff,aZ,e6,dy,eI,ft,di,ofT,cn,af,aS,args,aa,nm,ao,bN,skip,asg,e_,hp,par,bk,dD,e3,dx,aP,ei,eL,bA,dV,fG,cQ,comp,fN,run] using bc
def PI(p:a7)(c:aN)(es:List fV)(h:bj p c)(az:Wp p)(he:∀e∈es,lG p e)(av:es.length<=1000):rz [cR p,dz c,.tuple (es.map dG)]=some (.obj .own 0 (encC p (run p (fresh c) es))):=by
 have EW:=ajo p c h az;have ab:(fresh c).told.length=0:=rfl;have b2:(60000<big):=by decide
 obtain⟨rh,jY⟩:=Rx p az es (fresh c) (some (.U (cR p))) (some (.U (dz c))) (some (.U (.tuple (es.map dG)))) none h.fresh he (by omega);simp only[rz,JN,sX];simp! [o2,yV,AD,EW,eT,xl];rw[jY];simp[xl,AL]
def RX(p:a7)(c:aN)(es:List fV)(h:bj p c)(az:Wp p)(he:∀e∈es,lG p e)(av:es.length<=1000):qw [cR p,dz c,.tuple (es.map dG)]=some (dz (run p (fresh c) es)):=by
 have gW:=PI p c es h az he av;have jv:=ahN p (run p (fresh c) es) .ht (h.fresh.run he);simp! [j8,qw,SD,vN,AG,gW,vy,jv]
def ahL(p:a7)(c:aN)(es:List fV)(h:bj p c)(az:Wp p)(he:∀e∈es,lG p e)(av:es.length<=1000):rF [cR p,dz c,.tuple (es.map dG)]=some (.tuple ((run p (fresh c) es).told.map oL)):=by
 have gW:=PI p c es h az he av;have ab:=Ko h.fresh he;have b2:(60000<big):=by decide
 have h0:(fresh c).told.length=0:=rfl;have b1:(run p (fresh c) es).told.length<=big:=by omega
 simp! [j8,rF,Sz,vN,Cw,gW,vy,wh,gq,b1]
noncomputable def js(p:a7):aN:={mode:="off",left:=0,fC:=none,lines:=p.bZ.map λz=>(z.1,"shut"),dp:=[],gh:=0,cO:=[],tries:=0,locked:=0,used:=p.codes.map λk=>(k.eS,0),past:=0,told:=[]}
def RT(p:a7)(hz:p.bZ.length<=40)(az:Wp p):rG [cR p]=some (dz (js p)):=by
 have ar:=az.cl;have b1:p.bZ.length<=big:=by unfold big;omega
 have b2:p.codes.length<=big:=by unfold big;omega
 have c1:=qC (cc:=di true) (hB:=aa (.str "shut")) (caps:=[]) et (λ_=>true) (λ_=>.str "shut") p.bZ none λa aq=>⟨rfl,λ_=>rfl⟩;have dh:=qC (cc:=di true) (hB:=aa (.int 0)) (caps:=[]) fm (λ_=>true) (λ_=>.int 0) p.codes none λa aq=>⟨rfl,λ_=>rfl⟩;rw[List.filter_eq_self.mpr (λ_ _=>rfl)] at c1 dh;simp! [j8,rG,SA,cR,gq,b1,b2,c1,dh,Rr,dz,js,gK,al4]
end b5
end
section
namespace b5
open D PySem
local instance:cG:=⟨[],λ_=>[],λ_=>none⟩
def K3(ns:List Int)(k:Nat):mu [ef ns,.int k]=some (.int (ns.getD k 0)):=by
 by_cases h:k<ns.length
 ·have h':(k:Int)<(ns.length:Int):=by omega
  simp! [II,mu,tD,ef,h,h',List.getD]
 ·have h':¬(k:Int)<(ns.length:Int):=by omega
  simp! [II,mu,tD,ef,h,h',List.getD]
def ki{i j:Int}(h:-(2 ^ 64)<j/\j<2 ^ 64):dn (.int i) (.int j)=some (.int (i*j)):=by
 unfold dn vL;simp only[decide_eq_true h.1,decide_eq_true h.2,Bool.and_self,Bool.or_true,if_true]
def kN{i j:Int}(h:0<j):oMod (.int i) (.int j)=some (.int (i % j)):=if_pos h
def vH{i j:Int}(h:0<j/\j<1073741824):oDiv (.int i) (.int j)=some (.int (i / j)):=if_pos h
def jP{i j:Int}:b4 (.int i) (.int j)=some (.int (i+j)):=rfl
def fT{a b:bD}{ε ε':Ev}(h:a ε=some (.bR ε')):seq a b ε=b ε':=by
 unfold seq;rw[h];rfl
def Cd(ns:List Int)(k:Nat):∃m:Int,0<=m/\kg [ef ns,.int k]=some (.int m):=by
 have ar:=K3 ns k;have hd:0<=(ns.getD k 0+7919*(k:Int)+1)*48271 % 2147483647/\(ns.getD k 0+7919*(k:Int)+1)*48271 % 2147483647<2147483647:=⟨k_ _ (by decide),om _ (by decide)⟩;generalize hx:(ns.getD k 0+7919*(k:Int)+1)*48271 % 2147483647=d at hd;refine⟨(d*d+7*d+k) % 2147483629,k_ _ (by decide),?_⟩;have cx:kg [ef ns,.int k]=(tK [some (.U (ef ns)),some (.U (.int k)),none]).bind λo=>match o with|.dB t=>some t|.bR _=>some .none|_=>none:=rfl
 have iI:dn (.int 7919) (.int k)=some (.int (7919*k)):=by
  unfold dn vL;simp
 have jf:ao 0 [some (.U (ef ns)),some (.U (.int k)),none]=some (ef ns):=rfl;have dX:ao 1 [some (.U (ef ns)),some (.U (.int k)),none]=some (.int k):=rfl;have HU:nm 1 [some (.U (ef ns)),some (.U (.int k)),none]=some (.int k):=rfl;have s1:asg 2 (af oMod (af dn (af b4 (af b4 (aS mu [(ao 0),(ao 1)]) (af dn (aa (.int 7919)) (nm 1))) (aa (.int 1))) (aa (.int 48271))) (aa (.int 2147483647))) [some (.U (ef ns)),some (.U (.int k)),none]=some (.bR [some (.U (ef ns)),some (.U (.int k)),some (.U (.int d))]):=by
  simp only[asg,af,aS,args,jf,dX,HU,cp,d4,ar,aa,iI,jP,ki (i:=ns.getD k 0+7919*(k:Int)+1) (j:=48271) (by decide),kN (j:=2147483647) (by decide),hx];rfl
 have iJ:dn (.int d) (.int d)=some (.int (d*d)):=ki (by omega);have q6:dn (.int 7) (.int d)=some (.int (7*d)):=ki (by omega);rw[cx];unfold tK;rw[fT s1];have a9:nm 2 [some (.U (ef ns)),some (.U (.int k)),some (.U (.int d))]=some (.int d):=rfl;have aM:nm 1 [some (.U (ef ns)),some (.U (.int k)),some (.U (.int d))]=some (.int k):=rfl;simp only[bN,af,a9,aM,cp,d4,aa,iJ,q6,jP,kN (j:=2147483629) (by decide)]
def Kw(n k:Int)(ay:-(2 ^ 64)<k/\k<2 ^ 64):∃m:Int,0<=m/\kh [.int n,.int k]=some (.int m):=by
 have hd:0<=(n+104729*k+17)*69621 % 2147483647/\(n+104729*k+17)*69621 % 2147483647<2147483647:=⟨k_ _ (by decide),om _ (by decide)⟩;generalize hx:(n+104729*k+17)*69621 % 2147483647=d at hd;refine⟨(d*d+3*d+k) % 2147483629,k_ _ (by decide),?_⟩;have cx:kh [.int n,.int k]=(tL [some (.U (.int n)),some (.U (.int k)),none]).bind λo=>match o with|.dB t=>some t|.bR _=>some .none|_=>none:=rfl
 have iI:dn (.int 104729) (.int k)=some (.int (104729*k)):=ki ay;have jf:nm 0 [some (.U (.int n)),some (.U (.int k)),none]=some (.int n):=rfl;have dX:nm 1 [some (.U (.int n)),some (.U (.int k)),none]=some (.int k):=rfl;have s1:asg 2 (af oMod (af dn (af b4 (af b4 (nm 0) (af dn (aa (.int 104729)) (nm 1))) (aa (.int 17))) (aa (.int 69621))) (aa (.int 2147483647))) [some (.U (.int n)),some (.U (.int k)),none]=some (.bR [some (.U (.int n)),some (.U (.int k)),some (.U (.int d))]):=by
  simp only[asg,af,jf,dX,cp,d4,aa,iI,jP,ki (i:=n+104729*k+17) (j:=69621) (by decide),kN (j:=2147483647) (by decide),hx];rfl
 have iJ:dn (.int d) (.int d)=some (.int (d*d)):=ki (by omega);have q6:dn (.int 3) (.int d)=some (.int (3*d)):=ki (by omega);rw[cx];unfold tL;rw[fT s1];have a9:nm 2 [some (.U (.int n)),some (.U (.int k)),some (.U (.int d))]=some (.int d):=rfl;have aM:nm 1 [some (.U (.int n)),some (.U (.int k)),some (.U (.int d))]=some (.int k):=rfl;simp only[bN,af,a9,aM,cp,d4,aa,iJ,q6,jP,kN (j:=2147483629) (by decide)]
def al'(a b:Int):oEq (.int a) (.int b)=some (.bool (decide (a=b))):=by
 unfold oEq;rw[qu,qu];by_cases e:a=b <;> simp[hY,e]
def divQ(m:Int)(j:Int)(h:0<j/\j<1073741824:=by decide):∃q,q=m / j/\oDiv (.int m) (.int j)=some (.int q):=⟨_,rfl,vH h⟩
def modQ(m:Int)(j:Int)(h:0<j:=by decide):∃q,q=m % j/\0<=q/\q<j/\oMod (.int m) (.int j)=some (.int q):=⟨_,rfl,k_ _ (by omega),om _ h,kN h⟩
def z3{ts:List T}{j:Int}(h0:0<=j)(ae:j<ts.length):∃t∈ts,aP (.tuple ts) (.int j)=some t:=by
 have a':j.toNat<ts.length:=by omega
 refine⟨ts[j.toNat],List.getElem_mem a',?_⟩
 simp only[aP,ei,eL,if_pos h0,if_pos ae,cp];exact g0 a'
def z2(ss:List Str){j:Int}(h0:0<=j)(ae:j<ss.length):∃s∈ss,aP (.tuple (ss.map .str)) (.int j)=some (.str s):=by
 obtain⟨t,bo,e⟩:=z3 (ts:=ss.map .str) h0 (by simpa using ae);obtain⟨s,aC,rfl⟩:=dI.mp bo;exact⟨s,aC,e⟩
def z1(ss:List Int){j:Int}(h0:0<=j)(ae:j<ss.length):∃s∈ss,aP (.tuple (ss.map .int)) (.int j)=some (.int s):=by
 obtain⟨t,bo,e⟩:=z3 (ts:=ss.map .int) h0 (by simpa using ae);obtain⟨s,aC,rfl⟩:=dI.mp bo;exact⟨s,aC,e⟩
def yn:(4<=big)=True:=by simp[big]
def Kk:(3<=big)=True:=by simp[big]
def SM:(6<=big)=True:=by simp[big]
def kinds:List Str:=["day","inner","once","way","way"]
def aiU:List Str:=["set","shunt","unset"]
def aec:List Str:=["ann","bo","cy"]
noncomputable def zN:List (Int×Str):=[(0,"a"),(1,"b"),(2,"back"),(3,"d"),(4,"hall"),(5,"r"),(6,"win"),(7,"z")]
noncomputable def LU:List (Int×Str):=[(0,"0000"),(1,"1234"),(2,"4321"),(3,"7777"),(4,"9990"),(5,"9999")]
structure C3(p:a7):Prop where
 zs:(p.bZ.map (·.1)).Sublist (zN.map (·.2))
 zk:∀z∈p.bZ,z.2∈kinds
 f7:p.bZ≠[]
 cs:(p.codes.map (·.eS)).Sublist (LU.map (·.2))
 pS:∀k∈p.codes,k.jD∈aec/\k.n7.Sublist aiU/\k.uses∈([0,0,1,2,9]:List Int)
 yX:p.codes≠[]
 o5:p.leave∈([0,5,30,60]:List Int)
 tc:p.bq∈([0,4,20,60]:List Int)
 to:p.loud∈([1,9,120,300]:List Int)
def vm{l:List Str}(h:l.all (λx=>(kc x).canLay0)=true:=by decide +kernel){x:Str}(hx:x∈l):cF x:=List.all_eq_true.mp h x hx
end b5
end
section
namespace b5
open D PySem
def z4(p:a7):aP (cR p) (.int 0)=some (.tuple (p.bZ.map et)):=by simp[aP,ei,eL,cR]
def Zu(p:a7):aP (cR p) (.int 1)=some (.tuple (p.codes.map fm)):=by simp[aP,ei,eL,cR]
def yD(z:Str×Str):aP (et z) (.int 0)=some (.str z.1):=by simp[aP,ei,eL,et]
def ak'(k:gR):aP (fm k) (.int 0)=some (.str k.eS):=by simp[aP,ei,eL,fm]
def N7(m:Int){l:List T}(h:l≠[]):∃q:Int,0<=q/\q<l.length/\oMod (.int m) (.int l.length)=some (.int q):=by
 have av:0<(l.length:Int):=by
  have:=List.length_pos_iff.mpr h;omega
 obtain⟨q,_,ae,aj,e⟩:=modQ m l.length av;exact⟨q,ae,aj,e⟩
def yF:List Str:=["0000","1234","4321","7777","9990","9999","0001","1111","5555"]
noncomputable def LF(p:a7):fV->Prop
|.line z w=>z∈p.bZ.map (·.1)/\w∈(["shut","open","open","cut"]:List Str)
|.code f d z=>f∈yF/\(((d="set"\/d="unset")/\z=none)\/((d="shunt"\/d="free")/\∃x,z=some x/\x∈p.bZ.map (·.1)))
|.cM n=>1<=n/\n<=1000000000
def aiu{p:a7}(h:C3 p)(n:Int):∃e,LF p e/\ya [cR p,.int n]=some (dG e):=by
 obtain⟨aM,_,gW⟩:=divQ n 8;obtain⟨i,z0,cg,jv⟩:=N7 (l:=p.bZ.map et) aM (by simpa using h.f7);obtain⟨t,bo,mJ⟩:=z3 z0 cg;obtain⟨z,hz,rfl⟩:=dI.mp bo;have hF:z.1∈p.bZ.map (·.1):=dI.mpr ⟨z,hz,rfl⟩;obtain⟨k,_,_,_,uh⟩:=modQ n 10;obtain⟨a9,_,MR⟩:=divQ n 512;obtain⟨b7,_,N1,N2,MS⟩:=modQ a9 4;obtain⟨w,hw,MT⟩:=z2 ["shut","open","open","cut"] N1 N2;obtain⟨E2,Np,MU⟩:=z2 ["0001","1111","9999","0000"] N1 N2;obtain⟨c5,_,MV⟩:=divQ n 64;obtain⟨j4,_,ER⟩:=divQ n 4096;obtain⟨jh,_,z5,gI,XK⟩:=modQ j4 3;obtain⟨u,bH,MM⟩:=z1 [3,40,200] z5 gI;have mU:0<u/\u<=200:=by
  simp at bH;omega
 obtain⟨iK,_,lC,bX,XM⟩:=modQ c5 u mU.1;obtain⟨Gh,Zj,Zk,MN⟩:=N7 (l:=p.codes.map fm) c5 (by simpa using h.yX);obtain⟨t',uB,XN⟩:=z3 Zj Zk;obtain⟨c,ar,rfl⟩:=dI.mp uB;have Yu:c.eS∈yF:=by
  have:=h.cs.subset (dI.mpr ⟨c,ar,rfl⟩);simp[LU,yF] at this ⊢;rcases this with q|q|q|q|q|q <;> simp[q]
 obtain⟨sV,_,MO⟩:=divQ n 65536;obtain⟨xh,_,_,_,MP⟩:=modQ sV 4;obtain⟨xi,_,m0,iI,MQ⟩:=modQ j4 6;obtain⟨d,hd,ES⟩:=z2 ["set","set","unset","shunt","free","shunt"] m0 iI;simp only[cP,kI] at MT MU MM ES;simp only[eb] at jv MN;have yO:fL [.tuple (p.bZ.map et)]=some (.int p.bZ.length):=by simp[fL]
 have bG:fL [.tuple (p.codes.map fm)]=some (.int p.codes.length):=by simp[fL]
 simp only[ya,Rd,cV,cP,kI,eJ,ke,jE,mn,pd];by_cases ae:k<5
 ·exact⟨.line z.1 w,⟨hF,hw⟩,by simp! [mf,z4,yD,gW,yO,jv,mJ,uh,oLt,ae,MR,MS,MT,yn,Kk,dG]⟩
 ·by_cases aj:k<7
  ·exact⟨.cM (1+iK),⟨by omega,by omega⟩,by simp! [mf,z4,yD,gW,yO,jv,mJ,uh,oLt,ae,aj,MV,ER,XK,MM,XM,jP,Kk,pk,dG]⟩
  ·have e4:cF d:=vm (l:=["set","set","unset","shunt","free","shunt"]) (hx:=hd);have Iu:=Cc false (n:=d) (ns:=["set","unset"]) e4 (by
    intro k ay;exact vm (l:=["set","unset"]) (hx:=ay))
   simp only[cP,kI] at Iu;obtain⟨f,hf,amD⟩:∃f∈yF,(iff (aZ (af oEq (af oMod (af oDiv (nm 1) (aa (.int 65536))) (aa (.int 4))) (aa (.int 0)))) (asg 4 (af aP (bk [(aa (.str "0001")),(aa (.str "1111")),(aa (.str "9999")),(aa (.str "0000"))]) (af oMod (af oDiv (nm 1) (aa (.int 512))) (aa (.int 4))))) skip) [some (.U (cR p)),some (.U (.int n)),some (.U (.str z.1)),some (.U (.int k)),some (.U (.str c.eS)),none]=some (.bR [some (.U (cR p)),some (.U (.int n)),some (.U (.str z.1)),some (.U (.int k)),some (.U (.str f)),none]):=by
    by_cases a8:xh=0
    ·refine⟨E2,?_,by simp! [mf,MO,MP,al',a8,MR,MS,MU,yn]⟩
     simp[yF] at Np ⊢;rcases Np with q|q|q|q <;> simp[q]
    ·exact⟨c.eS,Yu,by simp! [mf,MO,MP,al',a8]⟩
   have OB:∀X:bD,iff (aZ (af oLt (nm 3) (aa (.int 5)))) X skip [some (.U (cR p)),some (.U (.int n)),some (.U (.str z.1)),some (.U (.int k)),none,none]=some (.bR [some (.U (cR p)),some (.U (.int n)),some (.U (.str z.1)),some (.U (.int k)),none,none]):=λX=>by simp! [mf,oLt,ae]
   have sB:∀X:bD,iff (aZ (af oLt (nm 3) (aa (.int 7)))) X skip [some (.U (cR p)),some (.U (.int n)),some (.U (.str z.1)),some (.U (.int k)),none,none]=some (.bR [some (.U (cR p)),some (.U (.int n)),some (.U (.str z.1)),some (.U (.int k)),none,none]):=λX=>by simp! [mf,oLt,aj]
   have OC:asg 4 (af aP (af aP (af aP (nm 0) (aa (.int 1))) (af oMod (af oDiv (nm 1) (aa (.int 64))) (aS fL [(af aP (nm 0) (aa (.int 1)))]))) (aa (.int 0))) [some (.U (cR p)),some (.U (.int n)),some (.U (.str z.1)),some (.U (.int k)),none,none]=some (.bR [some (.U (cR p)),some (.U (.int n)),some (.U (.str z.1)),some (.U (.int k)),some (.U (.str c.eS)),none]):=by simp! [mf,Zu,bG,MV,MN,XN,ak']
   by_cases b9:d="set"\/d="unset"
   ·refine⟨.code f d none,⟨hf,.inl ⟨b9,rfl⟩⟩,?_⟩
    have Iv:eB false (.str d) (.tuple [.str "set",.str "unset"])=some (.bool true):=by
     rw[Iu];simp[b9]
    have pre:∀B:bD,(seq (asg 2 (af aP (af aP (af aP (nm 0) (aa (.int 0))) (af oMod (af oDiv (nm 1) (aa (.int 8))) (aS fL [(af aP (nm 0) (aa (.int 0)))]))) (aa (.int 0)))) (seq (asg 3 (af oMod (nm 1) (aa (.int 10)))) B)) [some (.U (cR p)),some (.U (.int n)),none,none,none,none]=B [some (.U (cR p)),some (.U (.int n)),some (.U (.str z.1)),some (.U (.int k)),none,none]:=by
     intro B;simp! [mf,z4,yD,gW,yO,jv,mJ,uh]
    rw[pre];rw[fT (OB _),fT (sB _),fT OC,fT amD];simp! [mf,ER,MQ,ES,SM,pk,Iv,yn,dG,gK]
   ·refine⟨.code f d (some z.1),⟨hf,.inr ⟨?_,z.1,rfl,hF⟩⟩,?_⟩
    ·simp at hd;rcases hd with q|q|q|q|q
     ·exact absurd (.inl q) b9
     ·exact absurd (.inr q) b9
     ·exact .inl q
     ·exact .inr q
     ·exact .inl q
    have Iv:eB false (.str d) (.tuple [.str "set",.str "unset"])=some (.bool false):=by
     rw[Iu];simp at b9;simp[b9]
    have pre:∀B:bD,(seq (asg 2 (af aP (af aP (af aP (nm 0) (aa (.int 0))) (af oMod (af oDiv (nm 1) (aa (.int 8))) (aS fL [(af aP (nm 0) (aa (.int 0)))]))) (aa (.int 0)))) (seq (asg 3 (af oMod (nm 1) (aa (.int 10)))) B)) [some (.U (cR p)),some (.U (.int n)),none,none,none,none]=B [some (.U (cR p)),some (.U (.int n)),some (.U (.str z.1)),some (.U (.int k)),none,none]:=by
     intro B;simp! [mf,z4,yD,gW,yO,jv,mJ,uh]
    rw[pre];rw[fT (OB _),fT (sB _),fT OC,fT amD];simp! [mf,ER,MQ,ES,SM,pk,Iv,yn,dG,gK]
theorem B'{p:a7}(h:C3 p)(n:Int):∀(aH:List Int) (s0:Option aR),(∀k∈aH,0<=k/\k<1000)->∃es:List fV,(∀e∈es,LF p e)/\es.length=aH.length/\gQ (bA 0) (di true) (aS ya [(ao 1),(af oDiv (aS kh [(ao 2),(af b4 (aa (.int 30)) (nm 0))]) (aa (.int 4)))]) (aH.map .int) [s0,some (.U (cR p)),some (.U (.int n))]=some (es.map dG)
| [],s0,_=>⟨[],by simp,rfl,rfl⟩
|k::aH,s0,ay=>by
  obtain⟨m,_,gW⟩:=Kw n (30+k) (by have:=ay k fx;omega);obtain⟨q,_,jv⟩:=divQ m 4;obtain⟨e,he,mJ⟩:=aiu h q;obtain⟨es,cg,cm,Zl⟩:=B' h n aH (some (.U (.int k))) λy aV=>ay y (dq _ aV);refine⟨e::es,λx hx=>?_,by simp[cm],?_⟩
  ·rcases ct.mp hx with rfl|hx
   ·exact he
   ·exact cg x hx
  ·have ar:aS ya [(ao 1),(af oDiv (aS kh [(ao 2),(af b4 (aa (.int 30)) (nm 0))]) (aa (.int 4)))] [some (.U (.int k)),some (.U (cR p)),some (.U (.int n))]=some (dG e):=by
    simp! [mf,jP,gW,jv,mJ]
   rw[cP];simp only[gQ,bA,f6,cp,di,if_true,ar];rw[Zl];rfl
end b5
end
section
namespace b5
open D PySem
def xp(k:Int)(w:Int×Str×Option Str):Int×Str×Option Str:=(k+w.1,w.2)
noncomputable def bW(k:Int)(pre:List (Int×Str×Option Str))(c:aN):aN:={c with past:=k+c.past,told:=pre++c.told.map (xp k)}
section
variable (k:Int)(pre:List (Int×Str×Option Str))(p:a7)
def ou(w:Str)(n:Option Str)(c:aN):tell w n (bW k pre c)=bW k pre (tell w n c):=by simp[tell,bW,xp]
def Co(z:Str)(c:aN):fj p z (bW k pre c)=bW k pre (fj p z c):=by
 by_cases h:z∈c.cO <;> simp[fj,bW,h,tell,ku,xp]
theorem Rh:∀(zs:List Str) (c:aN),cO p zs (bW k pre c)=bW k pre (cO p zs c)
| [],c=>rfl
|z::zs,c=>by
  show cO p zs (fj p z (bW k pre c))=_
  rw[Co,Rh zs];rfl
def ahw(z x:Str)(c:aN):iD p z x (bW k pre c)=bW k pre (iD p z x c):=by
 unfold iD;by_cases h:x≠"way"\/p.bq<=0
 ·rw[if_pos h,if_pos h,Co]
 ·rw[if_neg h,if_neg h,<- ou];rfl
def agn(z w:Str)(c:aN):fE p z w (bW k pre c)=bW k pre (fE p z w c):=by
 have hm:(bW k pre c).mode=c.mode:=rfl;unfold fE;rw[hm,Co,ou,ahw]
 repeat' split
 all_goals rfl
def ajh(z w:Str)(c:aN):line p z w (bW k pre c)=bW k pre (line p z w c):=by
 show (if w=jO c z then bW k pre c else if w="shut" then (if jO c z="cut" then tell "mended" (some z) (bW k pre {c with lines:=gg c.lines z w}) else bW k pre {c with lines:=gg c.lines z w})
  else if z∈c.dp then bW k pre {c with lines:=gg c.lines z w} else fE p z w (bW k pre {c with lines:=gg c.lines z w}))=bW k pre (line p z w c)
 unfold line;rw[ou,agn]
 repeat' split
 all_goals rfl
def JA(n:Int)(c:aN):dZ n (bW k pre c)=bW k pre (dZ n c):=by simp[dZ,bW,Int.add_assoc]
def Pw(c:aN):i3 p (bW k pre c)=bW k pre (i3 p c):=by
 show cO p (bare p ["inner","way"] (tell "on" none {c with mode:="on",left:=0})) (tell "on" none (bW k pre {c with mode:="on",left:=0}))=_
 rw[ou,Rh];rfl
def ae'(c:aN):mL p (bW k pre c)=bW k pre (mL p c):=by
 unfold mL;rw[<- Co];rfl
def agj(c:aN):iE p (bW k pre c)=bW k pre (iE p c):=by
 have hm:(bW k pre c).mode=c.mode:=rfl;unfold iE;rw[hm,Pw,ae'];split <;> rfl
def ahI(n:Int)(c:aN):cM p n (bW k pre c)=bW k pre (cM p n c):=by
 have hm:(bW k pre c).mode=c.mode:=rfl;have av:(bW k pre c).left=c.left:=rfl;unfold cM;rw[hm,av,JA,agj,JA,JA]
 repeat' split
 all_goals rfl
def PC(c:aN):ih p (bW k pre c)=bW k pre (ih p c):=by
 have bo:(bW k pre c).tries=c.tries:=rfl;have ae:k7 (bW k pre c)=bW k pre (k7 c):=by simp[k7,tell,bW,xp]
 unfold ih;rw[bo,ae];split
 ·exact ou k pre "attack" none (ku p {k7 c with tries:=0,locked:=90})
 ·rfl
def aiw(w:Str)(c:aN):lr p w (bW k pre c)=bW k pre (lr p w c):=by
 show (if p.leave<=0 then i3 p (tell "set" (some w) (bW k pre {c with cO:=[],gh:=0,mode:="leaving",left:=p.leave})) else tell "set" (some w) (bW k pre {c with cO:=[],gh:=0,mode:="leaving",left:=p.leave}))=bW k pre (if p.leave<=0 then _ else _)
 rw[ou,Pw];split <;> rfl
def agl(w:Str)(c:aN):nQ w (bW k pre c)=bW k pre (nQ w c):=by
 unfold nQ;rw[<- ou];rfl
def aht(w d:Str)(z:Option Str)(c:aN):gc p w d z (bW k pre c)=bW k pre (gc p w d z c):=by
 show (if d="set" then lr p w (bW k pre c) else if d="unset" then nQ w (bW k pre c) else if d="shunt" then tell "shunt" z (bW k pre {c with dp:=jQ (c.dp++[z.getD ""])}) else tell "free" z (bW k pre {c with dp:=c.dp.erase (z.getD "")}))=bW k pre (gc p w d z c)
 unfold gc;rw[ou,ou,aiw,agl]
 repeat' split
 all_goals rfl
def aeV(x:gR)(d:Str)(z:Option Str)(c:aN):takeRight p x d z (bW k pre c)=bW k pre (takeRight p x d z c):=by
 have h0:iY p x d z (bW k pre c)=iY p x d z c:=rfl;unfold takeRight;rw[h0];cases iY p x d z c with
|none=>exact aht k pre p _ _ _ {c with used:=nK c.used x.eS}
|some wn=>exact ou k pre _ _ _
def ajB(f d:Str)(z:Option Str)(c:aN):code p f d z (bW k pre c)=bW k pre (code p f d z c):=by
 have h0:(bW k pre c).locked=c.locked:=rfl;unfold code;rw[h0,ou];split
 ·rfl
 ·cases codeOf p f with
  |none=>exact PC k pre p c
  |some x=>
   show (if qx x c=true then ih p (bW k pre c) else takeRight p x d z (bW k pre {c with tries:=0}))=bW k pre (if qx x c=true then _ else _)
   rw[PC,aeV];split <;> rfl
def ahl(e:fV)(c:aN):d8 p (bW k pre c) e=bW k pre (d8 p c e):=by
 cases e with
|line z w=>exact ajh k pre p z w c
|code f d z=>exact ajB k pre p f d z c
|cM n=>exact ahI k pre p n c
theorem SP:∀(es:List fV) (c:aN),run p (bW k pre c) es=bW k pre (run p c es)
| [],c=>rfl
|e::es,c=>by
  show run p (d8 p (bW k pre c) e) es=_
  rw[ahl,SP es];rfl
end
def Qf(p:a7)(c:aN)(xs ys:List fV):run p c (xs++ys)=run p (run p c xs) ys:=by simp[run]
def akE(c:aN):Prop:=c.mode="leaving"\/c.mode="coming"
end b5
end
section
namespace b5
open D PySem
def okN(d:Nat)(t:T):Prop:=t.canLay0=true/\t.depth<=d
theorem okN.eV{d:Nat}{t:T}(h:okN d t)(hd:d<=60:=by decide):eV t=true:=by
 unfold D.eV;rw[h.1,decide_eq_true (hi h.2 hd)];rfl
theorem KQ{d:Nat}:∀{ts:List T},(∀t∈ts,okN d t)->jF ts=true/\iN ts<=d
| [],_=>by simp[jF,iN]
|t::ts,h=>by
  obtain⟨ae,aj⟩:=KQ λx hx=>h x (dq _ hx);obtain⟨a8,b9⟩:=h t fx;constructor
  ·rw[jF,a8,ae];rfl
  ·rw[iN];omega
def ag3{d:Nat}{ts:List T}(h:∀t∈ts,okN d t):okN (d+1) (.tuple ts):=by
 obtain⟨ae,aj⟩:=KQ h;constructor
 ·rw[PyData.canLay0];exact ae
 ·rw[lR];omega
def Kp{d:Nat}{ts:List T}(h:∀t∈ts,okN d t):okN (d+1) (.list ts):=by
 obtain⟨ae,aj⟩:=KQ h;constructor
 ·rw[PyData.canLay0];exact ae
 ·rw[lR];omega
def ajf(d:Nat)(n:Int):okN d (.int n):=⟨rfl,by rw[lR];omega⟩
def ah'(d:Nat):okN d .none:=⟨rfl,by rw[lR];omega⟩
def Sh(d:Nat){x:Str}(h:cF x):okN d (.str x):=⟨h,by rw[lR];omega⟩
def akl(d:Nat){x:Option Str}(h:∀z,x=some z->cF z):okN d (gK x):=by
 cases x with
|none=>exact ah' d
|some z=>exact Sh d (h z rfl)
def aib{d:Nat}{t:T}(h:okN d t)(hd:d<=60:=by decide):fa t t=some (.bool false):=by
 unfold fa;rw[h.eV hd,PySem.SeqAt.eqv_refl t h.1];rfl
def c7(c:aN):Prop:=∀w∈c.told,cF w.2.1/\∀n,w.2.2=some n->cF n
theorem c7.tell{c:aN}(h:c7 c){w:Str}{n:Option Str}(hw:cF w)(aX:∀x,n=some x->cF x):c7 (b5.tell w n c):=by
 intro x hx;rcases gz.mp hx with q|q
 ·exact h x q
 ·simp at q;subst q;exact⟨hw,aX⟩
theorem c7.fj{p:a7}{c:aN}(h:c7 c){z:Str}(hz:cF z):c7 (b5.fj p z c):=by
 unfold b5.fj;split
 ·exact h
 ·exact c7.tell (c:={ku p c with cO:=c.cO++[z]}) h (bJ "alarm") λx e=>fc e▸hz
theorem c7.cO{p:a7}:∀{zs:List Str} {c:aN},c7 c->(∀z∈zs,cF z)->c7 (b5.cO p zs c)
| [],_,h,_=>h
|z::zs,c,h,hz=>c7.cO (zs:=zs) (h.fj (hz z fx)) λy aV=>hz y (dq _ aV)
theorem c7.iD{p:a7}{c:aN}(h:c7 c){z k:Str}(hz:cF z):c7 (b5.iD p z k c):=by
 unfold b5.iD;split
 ·exact h.fj hz
 ·exact c7.tell (c:={c with mode:="coming",left:=p.bq,fC:=some z}) h (bJ "coming") λx e=>fc e▸hz
theorem c7.fE{p:a7}{c:aN}(h:c7 c){z w:Str}(hz:cF z):c7 (b5.fE p z w c):=by
 unfold b5.fE
 repeat' split
 all_goals first|exact h.fj hz|exact h.tell (bJ "fault") λx e=>fc e▸hz|exact h.iD hz|exact h
theorem c7.line{p:a7}{c:aN}(h:c7 c){z w:Str}(hz:cF z):c7 (b5.line p z w c):=by
 have h':c7 {c with lines:=gg c.lines z w}:=h;unfold b5.line
 repeat' split
 all_goals first|exact h|exact h'|exact h'.tell (bJ "mended") λx e=>fc e▸hz|exact h'.fE hz
theorem c7.i3{p:a7}{c:aN}(h:c7 c)(hw:bj p c):c7 (b5.i3 p c):=
 c7.cO (c7.tell (c:={c with mode:="on",left:=0}) h (bJ "on") λx e=>(nomatch e)) λz hz=>hw.lH (Cm hz)
theorem c7.iE{p:a7}{c:aN}(h:c7 c)(hw:bj p c)(hm:akE c):c7 (b5.iE p c):=by
 unfold b5.iE;split
 ·exact h.i3 hw
 next q=>
  obtain⟨z,hz⟩:=Option.ne_none_iff_exists'.mp (hw.iZ (hm.resolve_left q));unfold b5.mL;rw[hz];exact c7.fj (c:={c with mode:="on",fC:=none}) h (hw.ca z hz).1
theorem c7.cM{p:a7}{c:aN}(h:c7 c)(hw:bj p c)(n:Int):c7 (b5.cM p n c):=by
 unfold b5.cM;split
 ·exact h
 ·split
  next q=>exact c7.iE (c:=dZ c.left c) h (hw.cd _) q.1
  ·exact h
theorem c7.ih{p:a7}{c:aN}(h:c7 c):c7 (b5.ih p c):=by
 have ae:c7 (k7 c):=c7.tell h (bJ "wrong") λx e=>(nomatch e);unfold b5.ih;split
 ·exact c7.tell (c:=ku p {k7 c with tries:=0,locked:=90}) ae (bJ "attack") λx e=>(nomatch e)
 ·exact ae
def agA{p:a7}{c:aN}(hw:bj p c){k:gR}(ay:k∈p.codes){d:Str}{z:Option Str}{x:Str×Str}(h:iY p k d z c=some x):cF x.1/\cF x.2:=by
 have NR:=(hw.fq k ay).2.1;unfold iY at h;by_cases ae:(if d="free" then ("shunt":Str) else d)∈k.n7
 ·rw[if_neg (λq=>q ae)] at h;split at h
  ·cases h
   exact⟨bJ "no",NR⟩
  ·split at h
   next q=>
    cases h
    refine⟨bJ "open",?_⟩
    have ab:=q.2;cases e:bare p ["day","once"] c with
    |nil=>exact absurd e ab
    |cons b bs=>
     have:b∈bare p ["day","once"] c:=by rw[e];simp
     simpa using hw.lH (Cm this)
   ·cases h
 ·rw[if_pos ae] at h;cases h;exact⟨bJ "denied",NR⟩
theorem c7.gc{p:a7}{c:aN}(h:c7 c)(hw:bj p c){w d:Str}{z:Option Str}(how:cF w)(hz:AH p d z c):c7 (b5.gc p w d z c):=by
 rcases hz with rfl|rfl|⟨rfl,x,rfl,hx⟩|⟨rfl,x,rfl,hx⟩
 ·simp only[b5.gc,if_true];have h':c7 (b5.tell "set" (some w) {c with cO:=[],gh:=0,mode:="leaving",left:=p.leave}):=c7.tell (c:={c with cO:=[],gh:=0,mode:="leaving",left:=p.leave}) h (bJ "set") λx e=>fc e▸how;show c7 (if p.leave<=0 then b5.i3 p (b5.tell "set" (some w) {c with cO:=[],gh:=0,mode:="leaving",left:=p.leave}) else b5.tell "set" (some w) {c with cO:=[],gh:=0,mode:="leaving",left:=p.leave});split
  ·exact h'.i3 ((hw.A0 p.leave).tell _ _)
  ·exact h'
 ·simp only[b5.gc,if_neg JB,if_true];exact c7.tell (c:={c with mode:="off",left:=0,gh:=0,fC:=none,dp:=[]}) h (bJ "unset") λx e=>fc e▸how
 ·simp only[b5.gc,if_neg xZ,if_neg vg,if_true];exact c7.tell (c:={c with dp:=jQ (c.dp++[x])}) h (bJ "shunt") λy e=>fc e▸hw.lH hx
 ·simp only[b5.gc,if_neg JU,if_neg BE,if_neg BF];exact c7.tell (c:={c with dp:=c.dp.erase x}) h (bJ "free") λy e=>fc e▸hw.w' x hx
theorem c7.d8{p:a7}{c:aN}(h:c7 c)(hw:bj p c){e:fV}(he:lG p e):c7 (b5.d8 p c e):=by
 cases e with
|line z w=>exact h.line (hw.lH he.1)
|cM n=>exact h.cM hw n
|code f d z=>
  show c7 (b5.code p f d z c)
  unfold b5.code;split
  ·exact h.tell (bJ "locked") λx e=>(nomatch e)
  ·split
   ·exact h.ih
   next k eK=>
    have ay:=Qt eK;split
    ·exact h.ih
    ·have uX:=hw.A7 0;have h0:c7 {c with tries:=0}:=h;unfold b5.takeRight;split
     next d0=>exact c7.gc (c:={c with tries:=0,used:=nK c.used k.eS}) h (uX.add k.eS) (hw.fq k ay).2.1 (Lf he.2.1 he.2.2 d0)
     next d0=>
      have:=agA uX ay d0;exact h0.tell this.1 λx e=>fc e▸this.2
theorem c7.run{p:a7}:∀{es:List fV} {c:aN},c7 c->bj p c->(∀e∈es,lG p e)->c7 (b5.run p c es)
| [],_,h,_,_=>h
|e::es,c,h,hw,he=>c7.run (es:=es) (h.d8 hw (he e fx)) (hw.d8 (he e fx)) λy aV=>he y (dq _ aV)
theorem c7.fresh(c:aN):c7 (b5.fresh c):=λw hw=>by cases hw
end b5
end
section
namespace b5
open D PySem
def jq{i:Nat}{f:bK}{b:bD}{ε:Ev}{t:T}{r:Option Out}(h:f ε=some t)(aj:b (ε.set i (some (.U t)))=r):seq (asg i f) b ε=r:=by
 rw[fT (ε':=ε.set i (some (.U t))),aj];unfold asg;rw[h];rfl
def yh{c:fP}{a b:bD}{ε:Ev}{r:Option Out}(h:c ε=some false)(aj:b ε=r):seq (iff c a skip) b ε=r:=by
 rw[fT (ε':=ε),aj];unfold iff;rw[h];rfl
def qq{a b:bD}{ε ε':Ev}{r:Option Out}(h:a ε=some (.bR ε'))(aj:b ε'=r):seq a b ε=r:=by rw[fT h,aj]
theorem Q2:∀{l:List gR} {k:gR},(l.map (·.eS)).Nodup->k∈l->l.find? (λx=>decide (x.eS=k.eS))=some k
|x::l,k,aW,ay=>by
  rw[cP,eO] at aW;rcases ct.mp ay with rfl|q
  ·simp
  ·have:¬x.eS=k.eS:=λe=>aW.1 (e▸dI.mpr ⟨k,q,rfl⟩);rw[ml,decide_eq_false this];exact Q2 aW.2 q
def afO{p:a7}(h:Wp p){k:gR}(ay:k∈p.codes):codeOf p k.eS=some k:=Q2 h.cd ay
theorem JF:∀{l:List (Str×Str)} {z:Str},(∀x∈l,x.2="shut")->z∈l.map (·.1)->l.lookup z=some "shut"
  | (a,b)::l,z,aC,hz=>by
    rw[lQ];by_cases e:z=a
    · have ab:b="shut":=aC (a,b) (by simp)
      simp[e,ab]
    · have:(z==a)=false:=beq_eq_false_iff_ne.mpr e
      rw[this];rw[cP] at hz;rcases ct.mp hz with q|q
      · exact absurd q e
      · exact JF (λx hx=>aC x (dq _ hx)) q
structure U'(p:a7)(c:aN):Prop where
 mo:c.mode="off"
 bW:∀l∈c.lines,l.2="shut"
 ln:c.lines.map (·.1)=p.bZ.map (·.1)
def RU{p:a7}{c:aN}(aH:List Str)(aC:∀l∈c.lines,l.2="shut")(aX:c.lines.map (·.1)=p.bZ.map (·.1)):bare p aH c=[]:=by
 unfold bare;rw[List.filter_eq_nil_iff];intro z hz;obtain⟨x,hx,rfl⟩:=dI.mp hz;have hm:x.1∈c.lines.map (·.1):=by
  rw[aX];exact dI.mpr ⟨x,(List.mem_filter.mp hx).1,rfl⟩
 simp[jO,JF aC hm]
theorem denied{p:a7}{c:aN}{k:gR}{d:Str}(hd:d="set"\/d="unset")(au:d∉k.n7):takeRight p k d none c=tell "denied" (some k.jD) c:=by
 have:iY p k d none c=some (("denied":Str),k.jD):=by
  rcases hd with rfl|rfl <;> simp[iY,BP,Jy,au]
 unfold takeRight;rw[this]
noncomputable def setC(p:a7)(k:gR)(c:aN):aN:={c with used:=nK c.used k.eS,cO:=[],gh:=0,mode:=if p.leave<=0 then "on" else "leaving",left:=if p.leave<=0 then 0 else p.leave,told:=c.told++(c.past,("set":Str),some k.jD)::(if p.leave<=0 then [(c.past,("on":Str),none)] else [])}
def agL{p:a7}{c:aN}{k:gR}(h:U' p c)(au:("set":Str)∈k.n7):takeRight p k "set" none c=setC p k c:=by
 have aq:iY p k "set" none c=none:=by
  simp[iY,BP,PT,JC,au,kL,h.mo,RU _ h.bW h.ln]
 unfold takeRight;rw[aq];simp only[gc,if_true,lr];by_cases av:p.leave<=0
 ·have ab:=RU (p:=p) (c:=tell "on" none {tell "set" (some k.jD) {c with used:=nK c.used k.eS,cO:=[],gh:=0,mode:="leaving",left:=p.leave} with mode:="on",left:=0}) ["inner","way"] h.bW h.ln;simp only[if_pos av,i3,ab,cO,List.foldl_nil,setC];simp[tell]
 ·simp only[if_neg av,setC];simp[tell]
def akm{p:a7}{f d:Str}(hf:cF f)(hd:d="set"\/d="unset"):lG p (.code f d none):=by
 refine⟨hf,?_,?_⟩
 ·rcases hd with h|h
  ·exact .inl h
  ·exact .inr (.inl h)
 ·intro h;rcases hd with rfl|rfl <;> rcases h with h|h
  ·exact absurd h JC
  ·exact absurd h BP
  ·exact absurd h Pp
  ·exact absurd h Jy
def KR(a b:Int):fa (.int a) (.int b)=some (.bool (!decide (a=b))):=by
 unfold fa;rw[qu,qu];by_cases e:a=b <;> simp[hY,e]
def iff_eq{c:fP}{x y:bD}{ε:Ev}{b:Bool}(h:c ε=some b):iff c x y ε=if b then x ε else y ε:=by
 unfold iff;rw[h];rfl
end b5
end
section
namespace b5
open D PySem
end b5
end
section
namespace oF
open D b5
open PySem hiding run fresh code
local instance:cG:=⟨[],λ_=>[],λ_=>none⟩
def agD:i0=aQ.i0:=rfl
def agh:pU=aQ.pU:=rfl
abbrev Op:=aQ.Op
noncomputable def eN(z:Option Str)(aD:Int):List fV:=match z with
|none=>[.cM 1,.cM aD]
|some z=>[.line z "open",.cM 1,.line z "shut",.cM aD]
def Se(z:Option Str)(aD:Int):(eN z aD).length<=4:=by cases z <;> simp[eN]
def zoneAt(os:List Op)(k:Nat):Option Str:=(os[k]?).bind (·.2.2)
noncomputable def oh(os:List Op)(way:List Nat)(aD:Int):List fV:=(way.map λk=>eN (zoneAt os k) aD).flatten
def QL(o:Op)(aD:Int):nt [aQ.cZ o,.int aD]=some (.tuple ((eN o.2.2 aD).map dG)):=by
 obtain⟨a,b,z⟩:=o;cases z with
|none=>simp! [j8,nt,KC,aQ.cZ,aQ.cJ,eN,dG,pk]
|some z=>simp! [j8,nt,KC,aQ.cZ,aQ.cJ,eN,dG,pk,Kk,yn]
def Fx(R:Int)(os:List Op):aP (aQ.b_ R os) (.int 1)=some (.tuple (os.map aQ.cZ)):=by simp[aP,ei,eL,aQ.b_]
def alb(R:Int)(os:List Op):aP (aQ.b_ R os) (.int 0)=some (.int R):=by simp[aP,ei,eL,aQ.b_]
def Ic{os:List Op}{k:Nat}(ay:k<os.length):aP (.tuple (os.map aQ.cZ)) (.int (k:Nat))=some (aQ.cZ os[k]):=by
 show ei _ _=_
 unfold ei eL;rw[if_pos (by omega),if_pos (by simp;omega)];show ((os.map aQ.cZ)[((k:Nat):Int).toNat]?)=_;rw[Int.toNat_natCast,jn,g0 ay];rfl
def JY{os:List Op}{k:Nat}(ay:k<os.length):zoneAt os k=os[k].2.2:=by
 unfold zoneAt;rw[g0 ay];rfl
theorem Qz(R:Int)(os:List Op)(aD:Int)(s1:Option aR):∀(way:List Nat) (acc:List fV) (s4:Option aR),(∀k∈way,k<os.length)->acc.length+4*way.length<=1000->∃rh,forL (bA 4) (uo 3 (aS nt [(af aP (af aP (nm 0) (aa (.int 1))) (nm 4)),(ao 2)])) (way.map λ(k:Nat)=>PyData.int (k:Int)) [some (.U (aQ.b_ R os)),s1,some (.U (.int aD)),some (.own (acc.map dG)),s4] =
   some (.bR [some (.U (aQ.b_ R os)),s1,some (.U (.int aD)),some (.own ((acc++oh os way aD).map dG)),rh])
| [],acc,s4,_,_=>⟨s4,by simp[forL,oh]⟩
|k::aH,acc,s4,ay,av=>by
  have sC:=ay k (by simp);have pl:=Se (zoneAt os k) aD;simp only[eJ] at av;obtain⟨rh,bc⟩:=Qz R os aD s1 aH (acc++eN (zoneAt os k) aD) (some (.U (.int k))) (λy aV=>ay y (dq _ aV)) (by simp only[jI];omega);refine⟨rh,?_⟩;have ab:(acc.map dG).length+((eN (zoneAt os k) aD).map dG).length<=big:=by
   simp only[eb];unfold big;omega
  have xc:=QL os[k] aD;rw[<- JY sC] at xc;have step:uo 3 (aS nt [(af aP (af aP (nm 0) (aa (.int 1))) (nm 4)),(ao 2)]) [some (.U (aQ.b_ R os)),s1,some (.U (.int aD)),some (.own (acc.map dG)),some (.U (.int k))]=some (.bR [some (.U (aQ.b_ R os)),s1,some (.U (.int aD)),some (.own ((acc++eN (zoneAt os k) aD).map dG)),some (.U (.int k))]):=by
   simp only[uo,aS,af,args,nm,ao,aa,iq,hZ,cp,d4,Fx,Ic sC,xc,if_pos ab,gO,f6,List.map_append]
  rw[cP,forL];simp only[bA,gO,f6,cp,step];rw[bc];simp[oh]
def agE{R:Int}{os:List Op}{way:List Nat}{aD:Int}(ay:∀k∈way,k<os.length)(av:way.length<=100):qs [aQ.b_ R os,aQ.wT way,.int aD]=some (.tuple ((oh os way aD).map dG)):=by
 obtain⟨rh,uZ⟩:=Qz R os aD (some (.U (aQ.wT way))) way [] none ay (by simp;omega);have it:cQ (ao 1) [some (.U (aQ.b_ R os)),some (.U (aQ.wT way)),some (.U (.int aD)),some (.own []),none]=some (way.map λ(k:Nat)=>PyData.int (k:Int)):=rfl;suffices aC:KA [some (.U (aQ.b_ R os)),some (.U (aQ.wT way)),some (.U (.int aD)),none,none]=some (.dB (.tuple ((oh os way aD).map dG))) by
  unfold qs cV;simp only[cP,kI,eJ,ke,mn,pd];exact congrArg (λo=>Option.bind o _) aC
 unfold KA;refine qq (ε':=[some (.U (aQ.b_ R os)),some (.U (aQ.wT way)),some (.U (.int aD)),some (.own []),none]) ?_ ?_
 ·simp[e_,dD,args]
 refine qq (ε':=[some (.U (aQ.b_ R os)),some (.U (aQ.wT way)),some (.U (.int aD)),some (.own ((oh os way aD).map dG)),rh]) ?_ ?_
 ·unfold eT;rw[it];exact uZ
 ·simp[bN,aS,args,nm,gq]
def eZ(w:Int×Str×Option Str):Bool:=decide (w.2.1="alarm")
theorem Sr(caps:Ev):∀(ws:List (Int×Str×Option Str)) (s0 s1 s2:Option aR),gQ (dV [(bA 0),(bA 1),(bA 2)]) (di true) (ao 1) (ws.map oL) (s0::s1::s2::caps)=some ((ws.map (·.2.1)).map .str)
| [],_,_,_=>rfl
|w::ws,s0,s1,s2=>by
  have bc:=Sr caps ws (some (.U (.int w.1))) (some (.U (.str w.2.1))) (some (.U (gK w.2.2)));rw[cP,gQ];simp only[oL,dV,fG,bA,cp,f6,gO,di,if_true,ao,iq,hZ] at bc ⊢;rw[bc];rfl
def ae8{ws:List (Int×Str×Option Str)}(aE:∀w∈ws,cF w.2.1)(av:ws.length<=100000):tC [.tuple (ws.map oL)]=some (.bool (ws.any eZ)):=by
 have ab:(ws.map oL).length<=big:=by rw[eb];unfold big;omega
 have c:=Sr [] ws none none none;have oi:=vn false (n:="alarm") (ns:=ws.map (·.2.1)) (bJ "alarm") (λx hx=>by
  obtain⟨w,hw,rfl⟩:=dI.mp hx;exact aE w hw)
 have e:decide (("alarm":Str)∈ws.map (·.2.1))=ws.any eZ:=by
  rw[Bool.eq_iff_iff];simp only[decide_eq_true_eq,dI,List.any_eq_true,eZ]
 suffices aC:JM [some (.U (.tuple (ws.map oL)))]=some (.dB (.bool (ws.any eZ))) by
  unfold tC cV;simp only[cP,kI,eJ,ke,mn,pd];exact congrArg (λo=>Option.bind o _) aC
 simp only[JM,bN,af,aa,comp,cQ,ao,hZ,cp,if_pos ab,fN,jE,kI,nh];rw[c];simp only[d4,cp,oi,e];rfl
section
variable (p:a7)(os:List Op)(aD:Int)
def lg(c:aN)(k:Nat):aN:=run p (fresh c) (eN (zoneAt os k) aD)
noncomputable def fX:aN->List Nat->Nat->Option Nat
|_,[],_=>none
|c,k::aH,i=>if (lg p os aD c k).told.any eZ then some (i+1) else fX (lg p os aD c k) aH (i+1)
end
def ea:Option Nat->T
|none=>.none
|some k=>.int (k:Int)
def ame(p:a7)(os:List Op):Prop:=∀o∈os,∀z,o.2.2=some z->z∈p.bZ.map (·.1)
def SU{p:a7}{os:List Op}(hz:ame p os){aD:Int}(az:1<=aD)(k:Nat):∀e∈eN (zoneAt os k) aD,lG p e:=by
 cases ay:os[k]? with
|none=>
  have:zoneAt os k=none:=by unfold zoneAt;rw[ay];rfl
  rw[this];intro e he;simp[eN] at he;rcases he with rfl|rfl
  ·show (1:Int)<=1
   decide
  ·exact az
|some o=>
  have ax:zoneAt os k=o.2.2:=by unfold zoneAt;rw[ay];rfl
  have hm:=hz o (mm ay);rw[ax];cases a_:o.2.2 with
  |none=>
   intro e he;simp[eN] at he;rcases he with rfl|rfl
   ·show (1:Int)<=1
    decide
   ·exact az
  |some z=>
   have i':=hm z a_;intro e he;simp[eN] at he;rcases he with rfl|rfl|rfl|rfl
   ·exact⟨i',.inr (.inl rfl)⟩
   ·show (1:Int)<=1
    decide
   ·exact⟨i',.inl rfl⟩
   ·exact az
def aiL{p:a7}{os:List Op}(hz:ame p os){aD:Int}(az:1<=aD){c:aN}(hw:bj p c)(k:Nat):bj p (lg p os aD c k):=hw.fresh.run (SU hz az k)
noncomputable def qP:bD:=(seq (asg 8 (aS nt [(af aP (af aP (nm 1) (aa (.int 1))) (nm 7)),(ao 4)])) (seq (iff (aZ (aS tC [(aS rF [(ao 0),(ao 5),(ao 8)])])) (bN (nm 6)) skip) (asg 5 (aS qw [(ao 0),(ao 5),(ao 8)]))))
theorem Td{p:a7}(wp:Wp p){R:Int}{os:List Op}(hz:ame p os){aD:Int}(az:1<=aD)(s2 s3:Option aR):∀(aH:List Nat) (i:Nat) (c:aN) (kE hc j7:Option aR),bj p c->(∀k∈aH,k<os.length) ->
  ∃cA ID IE IF,forL (dV [(bA 6),(bA 7)]) qP ((aH.zipIdx i).map λq=>.tuple [.int ((q.2+1:Nat):Int),.int (q.1:Nat)]) [some (.U (cR p)),some (.U (aQ.b_ R os)),s2,s3,some (.U (.int aD)),some (.U (dz c)),kE,hc,j7] =
   match fX p os aD c aH i with
   |some j=>some (.dB (.int (j:Nat)))
   |none=>some (.bR [some (.U (cR p)),some (.U (aQ.b_ R os)),s2,s3,some (.U (.int aD)),some (.U (dz cA)),ID,IE,IF])
| [],i,c,kE,hc,j7,_,_=>⟨c,kE,hc,j7,rfl⟩
|k::aH,i,c,kE,hc,j7,hw,ay=>by
  have sC:=ay k (by simp);have ok:=SU hz az k;have pl:=Se (zoneAt os k) aD;have xs:=ahL p c (eN (zoneAt os k) aD) hw wp ok (by omega);have rk:=RX p c (eN (zoneAt os k) aD) hw wp ok (by omega);have tw:=c7.run (c7.fresh c) hw.fresh ok;have o5:=Ko hw.fresh ok;have f7:(fresh c).told.length=0:=rfl;have aq:=ae8 (ws:=(run p (fresh c) (eN (zoneAt os k) aD)).told) (λw hw=>(tw w hw).1) (by omega);have xc:=QL os[k] aD;rw[<- JY sC] at xc;have g:dV [(bA 6),(bA 7)] (.tuple [.int ((i+1:Nat):Int),.int (k:Nat)]) [some (.U (cR p)),some (.U (aQ.b_ R os)),s2,s3,some (.U (.int aD)),some (.U (dz c)),kE,hc,j7]=some [some (.U (cR p)),some (.U (aQ.b_ R os)),s2,s3,some (.U (.int aD)),some (.U (dz c)),some (.U (.int ((i+1:Nat):Int))),some (.U (.int (k:Nat))),j7]:=rfl;have first:∀B:bD,seq (asg 8 (aS nt [(af aP (af aP (nm 1) (aa (.int 1))) (nm 7)),(ao 4)])) B [some (.U (cR p)),some (.U (aQ.b_ R os)),s2,s3,some (.U (.int aD)),some (.U (dz c)),some (.U (.int ((i+1:Nat):Int))),some (.U (.int (k:Nat))),j7]=B [some (.U (cR p)),some (.U (aQ.b_ R os)),s2,s3,some (.U (.int aD)),some (.U (dz c)),some (.U (.int ((i+1:Nat):Int))),some (.U (.int (k:Nat))),some (.U (.tuple ((eN (zoneAt os k) aD).map dG)))]:=λB=>by
   refine jq (t:=.tuple ((eN (zoneAt os k) aD).map dG)) ?_ rfl
   simp only[aS,af,args,nm,ao,aa,iq,hZ,cp,d4,Fx,Ic sC,xc]
  have A9:(aZ (aS tC [(aS rF [(ao 0),(ao 5),(ao 8)])])) [some (.U (cR p)),some (.U (aQ.b_ R os)),s2,s3,some (.U (.int aD)),some (.U (dz c)),some (.U (.int ((i+1:Nat):Int))),some (.U (.int (k:Nat))),some (.U (.tuple ((eN (zoneAt os k) aD).map dG)))]=some ((lg p os aD c k).told.any eZ):=by
   simp only[aZ,aS,args,ao,iq,hZ,cp,d4,xs,aq];rfl
  cases a_:(lg p os aD c k).told.any eZ with
  |true=>
   refine⟨c,none,none,none,?_⟩
   simp only[fX,a_,if_true];rw[List.zipIdx_cons,cP,forL];simp only[g,cp];have:qP [some (.U (cR p)),some (.U (aQ.b_ R os)),s2,s3,some (.U (.int aD)),some (.U (dz c)),some (.U (.int ((i+1:Nat):Int))),some (.U (.int (k:Nat))),j7]=some (.dB (.int ((i+1:Nat):Int))):=by
    unfold qP;rw[first];rw[a_] at A9;simp only[seq,iff,A9,cp,if_true];rfl
   rw[this];rfl
  |false=>
   obtain⟨cA,ID,IE,IF,bc⟩:=Td wp (R:=R) hz az s2 s3 aH (i+1) (lg p os aD c k) (some (.U (.int ((i+1:Nat):Int)))) (some (.U (.int (k:Nat)))) (some (.U (.tuple ((eN (zoneAt os k) aD).map dG)))) (aiL hz az hw k) (λy aV=>ay y (dq _ aV));refine⟨cA,ID,IE,IF,?_⟩;simp only[fX,a_,iO,if_false];rw[List.zipIdx_cons,cP,forL];simp only[g,cp];have:qP [some (.U (cR p)),some (.U (aQ.b_ R os)),s2,s3,some (.U (.int aD)),some (.U (dz c)),some (.U (.int ((i+1:Nat):Int))),some (.U (.int (k:Nat))),j7]=some (.bR [some (.U (cR p)),some (.U (aQ.b_ R os)),s2,s3,some (.U (.int aD)),some (.U (dz (lg p os aD c k))),some (.U (.int ((i+1:Nat):Int))),some (.U (.int (k:Nat))),some (.U (.tuple ((eN (zoneAt os k) aD).map dG)))]):=by
    unfold qP;rw[first];rw[a_] at A9;refine yh A9 ?_;simp only[asg,aS,args,ao,iq,hZ,cp,d4,rk,gO,f6];rfl
   rw[this];exact bc
def B4{p:a7}(wp:Wp p){R:Int}{os:List Op}(hz:ame p os){aD:Int}(az:1<=aD){c:aN}(hw:bj p c){way:List Nat}(ay:∀k∈way,k<os.length):jJ [cR p,aQ.b_ R os,dz c,aQ.wT way,.int aD]=some (ea (fX p os aD c way 0)):=by
 obtain⟨cA,kE,hc,j7,uZ⟩:=Td wp (R:=R) hz az (some (.U (dz c))) (some (.U (aQ.wT way))) way 0 c none none none hw ay;have it:vx (kk (ao 3)) [some (.U (cR p)),some (.U (aQ.b_ R os)),some (.U (dz c)),some (.U (aQ.wT way)),some (.U (.int aD)),some (.U (dz c)),none,none,none]=some ((way.zipIdx 0).map λq=>.tuple [.int ((q.2+1:Nat):Int),.int (q.1:Nat)]):=by
  show some (rQ (way.map λ(k:Nat)=>PyData.int (k:Int)))=_
  unfold rQ;rw[List.zipIdx_map,k'];rfl
 suffices aC:KD [some (.U (cR p)),some (.U (aQ.b_ R os)),some (.U (dz c)),some (.U (aQ.wT way)),some (.U (.int aD)),none,none,none,none]=some (.dB (ea (fX p os aD c way 0))) by
  unfold jJ cV;simp only[cP,kI,eJ,ke,mn,pd];exact congrArg (λo=>Option.bind o _) aC
 unfold KD;refine jq (t:=dz c) rfl ?_;simp only[gO,f6];have hf:eT (vx (kk (ao 3))) (dV [(bA 6),(bA 7)]) qP [some (.U (cR p)),some (.U (aQ.b_ R os)),some (.U (dz c)),some (.U (aQ.wT way)),some (.U (.int aD)),some (.U (dz c)),none,none,none]=forL (dV [(bA 6),(bA 7)]) qP ((way.zipIdx 0).map λq=>.tuple [.int ((q.2+1:Nat):Int),.int (q.1:Nat)]) [some (.U (cR p)),some (.U (aQ.b_ R os)),some (.U (dz c)),some (.U (aQ.wT way)),some (.U (.int aD)),some (.U (dz c)),none,none,none]:=by
  unfold eT;rw[it];rfl
 rw[uZ] at hf;show seq (eT (vx (kk (ao 3))) (dV [(bA 6),(bA 7)]) qP) (bN (aa .none)) _=_;cases a_:fX p os aD c way 0 with
|some j=>
  rw[a_] at hf;simp only[seq,hf,cp];rfl
|none=>
  rw[a_] at hf;exact qq hf rfl
theorem Tc(p:a7)(os:List Op)(aD:Int):∀(w:List Nat) (c:aN) (i q:Nat),fX p os aD c w i=some q->i<q/\q<=i+w.length
| [],c,i,q,e=>by cases e
|k::aH,c,i,q,e=>by
  simp only[fX] at e;split at e
  ·cases e
   simp only[eJ];omega
  ·have:=Tc p os aD aH _ (i+1) q e;simp only[eJ];omega
def aiN(c:aN):bW c.past c.told (fresh c)=c:=by simp[bW,fresh]
def ajF(p:a7)(c:aN)(es:List fV):(run p c es).told.any eZ=(c.told.any eZ || (run p (fresh c) es).told.any eZ):=by
 have h:=SP c.past c.told p es (fresh c);rw[aiN] at h;rw[h];show (c.told++(run p (fresh c) es).told.map (xp c.past)).any eZ=_;rw[List.any_append,List.any_map];rfl
theorem zA{E:List (Int×Int)}:∀{w:List Nat} {x:Int} {q:List Int},c2.rW E x w q->∀k∈w,k<E.length
| [],_,_,_,k,ay=>by cases ay
|j::w,x,q,h,k,ay=>by
  obtain⟨e,t,r,ae,_,_,b9⟩:=h;rcases ct.mp ay with rfl|ay
  ·exact (gZ.mp ae).1
  ·exact zA b9 k ay
def Kn{j:Int}(h0:0<=j)(ae:j<=100):qt j=true:=by
 unfold qt;simp;omega
def S6{f:bK}{ε:Ev}{j:Int}(h:f ε=some (.int j))(h0:0<=j)(ae:j<=100):kj f ε=some (lK 0 j):=by
 unfold kj;rw[h];simp only[cp];rw[if_pos (Kn h0 ae)]
section
variable {p:a7}(wp:Wp p){R:Int}{os:List Op}(hz:ame p os){aD:Int}(az:1<=aD){c:aN}(hw:bj p c){way:List Nat}(ay:∀k∈way,k<os.length)
include wp hz az hw ay
end
end oF
end
section
namespace c2
theorem Qs{α:Type}{p q r:α->Bool}:∀{l:List α},(∀x∈l,p x=true->r x=true)->(∀x∈l,q x=true->r x=true)->(∀x∈l,p x=true->q x=true->False)->l.countP p+l.countP q<=l.countP r
| [],_,_,_=>by simp
|x::l,ae,aj,a8=>by
  have bc:=Qs (l:=l) (λx h=>ae x (by simp[h])) (λx h=>aj x (by simp[h])) (λx h=>a8 x (by simp[h]));have a1:=ae x (by simp);have a2:=aj x (by simp);have eE:=a8 x (by simp);simp only[List.countP_cons];cases az:p x <;> cases a_:q x <;> cases au:r x <;> simp_all <;> omega
noncomputable def q'(pl:List Int)(h:Int)(e:Int×Int):Bool:=match g5 e h with
|some t=>decide (t∉pl)
|none=>false
def w9(pl:List Int)(e:Int×Int):Bool:=decide (e.1∉pl) && decide (e.2∉pl)
theorem Cj{rec:List Int->Option (List (List Nat))}{pl:List Int}{h:Int}{B:Nat}(au:∀t us,t∉pl->rec (pl++[t])=some us->us.length<=B):∀{E:List (Int×Int)} {k:Nat} {ws:List (List Nat)},exts rec pl h k E=some ws->ws.length<=E.countP (q' pl h)*B
| [],k,ws,e=>by
  cases e
  simp
|e::es,k,ws,ae=>by
  unfold exts at ae;rw[List.countP_cons];have up:es.countP (q' pl h)*B<=(es.countP (q' pl h)+if q' pl h e=true then 1 else 0)*B:=Nat.mul_le_mul_right _ (by omega);split at ae
  next t bo=>
   split at ae
   next hm=>exact hi (Cj au ae) up
   next hm=>
    simp only[b0,dR] at ae;obtain⟨us,aj,vs,a8,rfl⟩:=ae;have a:=Cj au a8;have b:=au t us hm aj;have c:q' pl h e=true:=by simp[q',bo,hm]
    rw[if_pos c,Nat.succ_mul,jI,eb];omega
  next=>exact hi (Cj au ae) up
def G(m:Nat):Nat:=[1,1,2,3,4,6,9,12,18,27,36].getD m 0
def akC:∀m,m<=10->∀d,d<=10->∀m',m'<=10->d+m'<=m->d*G m'<=G m:=by decide
def alj:∀m,m<=10->1<=G m:=by decide
def ali:∀m,m<=10->G m<=36:=by decide
theorem Rn{E:List (Int×Int)}{room:Int}(gX:∀e∈E,e.1≠e.2)(av:E.length<=10):∀{n:Nat} {pl:List Int} {ws:List (List Nat)},pl.Nodup->gY E room n pl=some ws->ws.length<=G (E.countP (w9 pl.dropLast))
|0,pl,ws,_,h=>by cases h
|n+1,pl,ws,aW,h=>by
  have ar:∀p:Int×Int->Bool,E.countP p<=10:=λp=>hi List.countP_le_length av;unfold gY at h;split at h
  ·cases h
  next x hx=>
   split at h
   ·cases h
    exact alj _ (ar _)
   ·have az:pl=pl.dropLast++[x]:=by
     have dJ:pl≠[]:=by rintro rfl;cases hx
     have ax:=List.dropLast_concat_getLast dJ;rw[List.getLast?_eq_getLast dJ] at hx;rw[fc hx] at ax;exact ax.symm
    have NS:x∉pl.dropLast:=λz=>by
     rw[az,jH] at aW;exact aW.2.2 x z x (by simp) rfl
    have sq:=Cj (B:=G (E.countP (w9 pl))) (λt us bo bH=>by
     have hs:(pl++[t]).Nodup:=by
      rw[jH];exact⟨aW,by simp,λa aq b ab=>by
       have:b=t:=by simpa using ab
       subst this;exact λz=>bo (z▸aq)⟩
     have:=Rn gX av hs bH;simpa using this) h
    refine hi sq (akC _ (ar _) _ (ar _) _ (ar _) (Qs (λe he q=>?_) (λe he q=>?_) (λe he aM a9=>?_)))
    ·unfold q' at q;split at q
     next t bo=>
      have uB:t∉pl:=by simpa using q
      have NQ:t∉pl.dropLast:=λz=>uB (List.dropLast_subset _ z);unfold g5 at bo;unfold w9;split at bo
      next ax=>cases bo;simp[ax,NS,NQ]
      next=>
       split at bo
       next aL=>cases bo;simp[aL,NS,NQ]
       next=>cases bo
     next=>cases q
    ·unfold w9 at q ⊢;simp only[kJ,decide_eq_true_eq] at q ⊢;exact⟨λz=>q.1 (List.dropLast_subset _ z),λz=>q.2 (List.dropLast_subset _ z)⟩
    ·have NT:x∈pl:=by rw[az];simp
     unfold w9 at a9;simp only[kJ,decide_eq_true_eq] at a9;unfold q' g5 at aM;split at aM
     next t bo=>
      split at bo
      next ax=>exact a9.1 (ax▸NT)
      next=>
       split at bo
       next aL=>exact a9.2 (aL▸NT)
       next=>cases bo
     next=>cases aM
def ad_{E:List (Int×Int)}{room:Int}(gX:∀e∈E,e.1≠e.2)(av:E.length<=10){n:Nat}{ws:List (List Nat)}(h:gY E room n [0]=some ws):ws.length<=36:=
 hi (Rn gX av (by simp) h) (ali _ (hi List.countP_le_length av))
end c2
end
section
namespace c2
abbrev C0:=Int×Int×Int
def ind(b:Bool):Int:=if b then 1 else 0
noncomputable def lF(x:Int):List C0->Int
| []=>0
|a::L=>a.2.2*(ind (decide (a.1=x)) - ind (decide (a.2.1=x)))+lF x L
def ends(L:List C0):List (Int×Int):=L.map λa=>(a.1,a.2.1)
structure Flow(E:List (Int×Int))(s t:Int)(v:Int)(L:List C0):Prop where
 MY:ends L=E
 un:∀a∈L,-1<=a.2.2/\a.2.2<=1
 cons:∀x,x≠s->x≠t->lF x L=0
 val:lF s L=v
end c2
end
section
namespace c2
end c2
end
section
namespace r'
open D aQ
end r'
end
section
namespace r'
open PySem D aQ
def EO(w:List Nat):List Int:=w.map λ(k:Nat)=>(k:Int)
def aiG(w:List Nat):wT w=.tuple ((EO w).map .int):=by simp[wT,EO]
def Kn{j:Int}(h0:0<=j)(ae:j<=100):qt j=true:=by
 unfold qt;simp;omega
def S6{f:bK}{ε:Ev}{j:Int}(h:f ε=some (.int j))(h0:0<=j)(ae:j<=100):kj f ε=some (lK 0 j):=by
 unfold kj;rw[h];simp only[cp];rw[if_pos (Kn h0 ae)]
end r'
end
section
namespace nJ
open D aQ r'
noncomputable def qn:bD:=
  (seq (asg 2 (aS i0 [(ao 0),(ao 1)])) (seq (iff (ft (e6 (nm 2))) never skip) (bN (nm 2))))
def rx:List T->Option T:=cV qn 3
end nJ
end
section
namespace nJ
open PySem D aQ r'
local instance:cG:=⟨[],λ_=>[],λ_=>none⟩
def aki(w:List Nat):(wT w).canLay0=true/\(wT w).depth<=2:=by
 have ba:=RA (EO w);rw[aiG];simp only[PyData.canLay0,lR,ba.1,true_and];have:=ba.2;omega
def abt(w:List Nat):eV (wT w)=true:=by
 have:=aki w;simp[eV,this.1];omega
def all_eq{h:T}{room:Int}{ws:List (List Nat)}(hw:i0 [h,.int room]=some (.tuple (ws.map wT)))(dJ:ws≠[]):rx [h,.int room]=some (.tuple (ws.map wT)):=by
 have ax:aS i0 [(ao 0),(ao 1)] [some (.U h),some (.U (.int room)),none]=some (.tuple (ws.map wT)):=by
  simp only[aS,args,ao,iq,hZ,cp,d4,hw]
 have aL:ft (e6 (nm 2)) [some (.U h),some (.U (.int room)),some (.U (.tuple (ws.map wT)))]=some false:=by
  cases ws with
  |nil=>exact absurd rfl dJ
  |cons w ws=>rfl
 have aC:qn [some (.U h),some (.U (.int room)),none]=some (.dB (.tuple (ws.map wT))):=by
  unfold qn seq asg;rw[ax];simp only[d4,cp,gO,f6];unfold iff;rw[aL];rfl
 unfold rx cV;show Option.bind (qn [some (.U h),some (.U (.int room)),none]) _=_;rw[aC];rfl
end nJ
end
section
namespace nJ
open PySem D aQ r'
local instance:cG:=⟨[],λ_=>[],λ_=>none⟩
def _I{t:T}(h:eV t=true):fa t t=some (.bool false):=by
 have ar:t.canLay0=true:=by
  unfold eV at h;simp only[kJ] at h;exact h.1
 unfold fa;rw[h,PySem.SeqAt.eqv_refl t ar];rfl
def _z{R:Int}{os:List Op}(d:Drawn R os):∀e∈os.map fs,e.1≠e.2:=λe he=>by
 obtain⟨o,aE,rfl⟩:=dI.mp he;obtain⟨ae,aj,a8,b9⟩:=d.ok o aE;show o.1≠o.2.1;omega
theorem zA{E:List (Int×Int)}:∀{w:List Nat} {x:Int} {q:List Int},c2.rW E x w q->∀k∈w,k<E.length
| [],_,_,_,k,ay=>by cases ay
|j::w,x,q,h,k,ay=>by
  obtain⟨e,t,r,ae,_,_,b9⟩:=h;rcases ct.mp ay with rfl|ay
  ·exact (gZ.mp ae).1
  ·exact zA b9 k ay
def KR(a b:Int):fa (.int a) (.int b)=some (.bool (!decide (a=b))):=by
 simp[fa,eV,PyData.canLay0,lR,hY];rw[Bool.beq_eq_decide_eq]
end nJ
end
section
namespace nJ
open PySem D aQ r'
local instance:cG:=⟨[],λ_=>[],λ_=>none⟩
end nJ
end
section
namespace kS
open D b5 oF t_
open PySem hiding run fresh code
local instance:cG:=⟨[],λ_=>[],λ_=>none⟩
def jB:Option Nat->Nat
|none=>99
|some q=>q
noncomputable def g_:Option Nat->T
|none=>.tuple [.int 1,.int 0]
|some q=>.tuple [.int 0,.int (q:Int)]
noncomputable def mZ(g:List Nat->Option Nat)(b:List Nat):List (List Nat)->List Nat
| []=>b
|w::ws=>if jB (g b)<jB (g w) then mZ g w ws else mZ g b ws
def aje(o:Option Nat):eV (g_ o)=true:=by
 cases o with
|none=>decide +kernel
|some q=>simp[g_,eV,PyData.canLay0,jF,lR,iN]
def akw{a b:Option Nat}(aq:∀q,a=some q->q<99)(ab:∀q,b=some q->q<99):gw (g_ a) (g_ b)=some (decide (jB b<jB a)):=by
 cases a with
|none=>
  cases b with
  |none=>simp[g_,jB,gw,mX,hY]
  |some q=>
   have:=ab q rfl;simp[g_,jB,gw,mX,hY,this]
|some p=>
  have ae:=aq p rfl;cases b with
  |none=>
   have:¬99<p:=by omega
   simp[g_,jB,gw,mX,hY,this]
  |some q=>
   by_cases e:p=q
   ·subst e;simp[g_,jB,gw,mX,hY]
   ·have bg:¬(p:Int)=(q:Int):=by omega
    simp only[g_,jB,gw,mX,hY];have aL:((p:Int)==(q:Int))=false:=by simpa using bg
    have e':((q:Int)<(p:Int)) <-> q<p:=by omega
    simp only[show ((0:Int)==0)=true from rfl,if_true,aL,iO,if_false];exact congrArg some (decide_eq_decide.mpr e')
theorem max_eq{kf:T->Option T}{g:List Nat->Option Nat}:∀(ws:List (List Nat)) (b:List Nat),(∀w∈b::ws,kf (aQ.wT w)=some (g_ (g w))/\∀q,g w=some q->q<99)->amm kf (aQ.wT b) (g_ (g b)) (ws.map aQ.wT)=some (aQ.wT (mZ g b ws))
| [],b,h=>rfl
|w::ws,b,h=>by
  obtain⟨b1,b2⟩:=h b (by simp);obtain⟨k5,nc⟩:=h w (by simp);rw[cP,amm,k5];simp only[cp,akw nc b2];unfold mZ;by_cases q:jB (g b)<jB (g w)
  ·rw[decide_eq_true q,if_pos rfl,if_pos q];exact max_eq ws w λv a4=>h v (by rcases ct.mp a4 with rfl|a4 <;> simp[*])
  ·rw[decide_eq_false q,if_neg (by decide),if_neg q];exact max_eq ws b λv a4=>h v (by rcases ct.mp a4 with rfl|a4 <;> simp[*])
def all_eq{R:Int}{os:List Op}{x:Int}{ws:List (List Nat)}(hw:i0 [aQ.b_ R os,.int x]=some (.tuple (ws.map aQ.wT)))(aX:ws≠[]):rx [aQ.b_ R os,.int x]=some (.tuple (ws.map aQ.wT)):=by
 have ax:aS i0 [(ao 0),(ao 1)] [some (.U (aQ.b_ R os)),some (.U (.int x)),none]=some (.tuple (ws.map aQ.wT)):=by
  simp only[aS,args,ao,iq,hZ,cp,d4,hw]
 have aL:ft (e6 (nm 2)) [some (.U (aQ.b_ R os)),some (.U (.int x)),some (.U (.tuple (ws.map aQ.wT)))]=some false:=by
  cases ws with
  |nil=>exact absurd rfl aX
  |cons w ws=>rfl
 show Option.bind (qn [some (.U (aQ.b_ R os)),some (.U (.int x)),none]) _=_
 have:qn [some (.U (aQ.b_ R os)),some (.U (.int x)),none]=some (.dB (.tuple (ws.map aQ.wT))):=by
  unfold qn;refine jq ax ?_;simp only[gO,f6];unfold seq iff;rw[aL];rfl
 rw[this];rfl
def acA{p:a7}{R:Int}{os:List Op}{x aD:Int}{c:aN}{b:List Nat}{ws:List (List Nat)}{g:List Nat->Option Nat}(hw:i0 [aQ.b_ R os,.int x]=some (.tuple ((b::ws).map aQ.wT)))
  (bx:∀w∈b::ws,jJ [cR p,aQ.b_ R os,dz c,aQ.wT w,.int aD]=some (ea (g w))/\∀q,g w=some q->q<99):Ck [cR p,aQ.b_ R os,dz c,.int x,.int aD]=some (aQ.wT (mZ g b ws)):=by
 have gI:∀w∈b::ws,As (aS x4 [(aS jJ [(ao 1),(ao 2),(ao 3),(ao 0),(ao 5)])]) [some (.U (cR p)),some (.U (aQ.b_ R os)),some (.U (dz c)),some (.U (.int x)),some (.U (.int aD))] (aQ.wT w)=some (g_ (g w)):=λw h=>by
  have e:aS x4 [(aS jJ [(ao 1),(ao 2),(ao 3),(ao 0),(ao 5)])] [some (.U (aQ.wT w)),some (.U (cR p)),some (.U (aQ.b_ R os)),some (.U (dz c)),some (.U (.int x)),some (.U (.int aD))]=some (g_ (g w)):=by
   simp only[aS,args,ao,iq,hZ,cp,d4,(bx w h).1];cases g w <;> rfl
  unfold As;rw[e];simp only[cp,aje,if_true]
 have aC:Cn [some (.U (cR p)),some (.U (aQ.b_ R os)),some (.U (dz c)),some (.U (.int x)),some (.U (.int aD))]=some (.dB (aQ.wT (mZ g b ws))):=by
  have a:aS rx [(ao 1),(ao 3)] [some (.U (cR p)),some (.U (aQ.b_ R os)),some (.U (dz c)),some (.U (.int x)),some (.U (.int aD))]=some (.tuple ((b::ws).map aQ.wT)):=by
   simp only[aS,args,ao,iq,hZ,cp,d4,all_eq hw (by simp)]
  unfold Cn bN CR;rw[a];simp only[cp,cP,HS,gI b (by simp)];rw[max_eq ws b λw h=>⟨gI w h,(bx w h).2⟩];rfl
 show Option.bind (Cn [some (.U (cR p)),some (.U (aQ.b_ R os)),some (.U (dz c)),some (.U (.int x)),some (.U (.int aD))]) _=_
 rw[aC];rfl
end kS
end
section
namespace nF
open D b5 oF
open PySem hiding run fresh code
local instance:cG:=⟨[],λ_=>[],λ_=>none⟩
structure h4(p:a7)(S:List Str)(c:aN):Prop where
 bW:∀l∈c.lines,l.2="shut"
 ln:c.lines.map (·.1)=p.bZ.map (·.1)
 m7:c.dp=S
 al:c.cO=[]
def QU(l:List (Str×Str))(z w:Str):(gg l z w).map (·.1)=l.map (·.1):=by
 unfold gg;rw[k'];refine List.map_congr_left λx _=>?_;simp only[Function.comp];split
 ·rename_i h
  exact h.symm
 ·rfl
theorem PV:∀{l:List (Str×Str)} {z w:Str},z∈l.map (·.1)->(gg l z w).lookup z=some w
  | (a,b)::l,z,w,h=>by
    by_cases e:a=z
    · simp[gg,e,jG]
    · have hz:z∈l.map (·.1):=by
        rw[cP] at h;rcases ct.mp h with q|q
        · exact absurd q.symm e
        · exact q
      have ab:(z==a)=false:=beq_eq_false_iff_ne.mpr λq=>e q.symm;have bc:=PV (w:=w) hz;unfold gg at bc ⊢;simp only[cP,if_neg e,lQ,ab];exact bc
def agM{l:List (Str×Str)}(h:∀x∈l,x.2="shut")(z w:Str):∀x∈gg (gg l z w) z "shut",x.2="shut":=by
 intro x hx;unfold gg at hx;simp only[k',dI,Function.comp] at hx;obtain⟨y,aV,rfl⟩:=hx;by_cases e:y.1=z
 ·simp[e]
 ·simp only[if_neg e];exact h y aV
def hH(c:aN)(z:Str):aN:={c with lines:=gg c.lines z "open" }
def cls(c:aN)(z:Str):aN:={c with lines:=gg c.lines z "shut" }
def PF:¬(("open":Str)="shut"):=by decide +kernel
def ae1:¬(("shut":Str)="open"):=by decide +kernel
def x1:¬(("open":Str)="cut"):=by decide +kernel
section
variable {p:a7}{S:List Str}{c:aN}{z:Str}
def KP(h:h4 p S c)(hz:z∈p.bZ.map (·.1)):d8 p c (.line z "open")=if z∈S then hH c z else fE p z "open" (hH c z):=by
 have e:jO c z="shut":=by
  unfold jO;rw[JF h.bW (by rw[h.ln];exact hz)];rfl
 have aL:=h.m7;subst aL;show line p z "open" c=_;unfold line;rw[e,if_neg PF,if_neg PF];rfl
def R1(e:c.lines.lookup z=some ("open":Str)):d8 p c (.line z "shut")=cls c z:=by
 have e:jO c z="open":=by
  unfold jO;rw[e];rfl
 show line p z "shut" c=_
 unfold line;rw[e,if_neg ae1,if_pos rfl,if_neg x1];rfl
def vr{n:Int}(aX:1<=n)(ae:c.mode≠"leaving")(aj:c.mode="coming"->n<c.left):d8 p c (.cM n)=dZ n c:=by
 show cM p n c=_
 unfold cM;rw[if_neg (by omega),if_neg];rintro⟨h|h,q⟩
 ·exact ae h
 ·have:=aj h;omega
def B5(h:c.cO=[])(z:Str):(fj p z c).told.any eZ=true:=by
 unfold fj;rw[h,if_neg (by simp)];simp[tell,eZ]
def BL{n:Int}(aX:1<=n)(hm:c.mode="coming")(av:c.left<=n)(aq:c.cO=[]):(d8 p c (.cM n)).told.any eZ=true:=by
 show (cM p n c).told.any eZ=true
 unfold cM;rw[if_neg (by omega),if_pos ⟨.inr hm,av⟩];show (iE p (dZ c.left c)).told.any eZ=true;unfold iE;rw[if_neg (by show ¬c.mode="leaving";rw[hm];exact ve)];exact B5 (c:={dZ c.left c with mode:="on",fC:=none}) aq _
def Ct{p:a7}{c:aN}(xs ys:List fV)(h:(run p c xs).told.any eZ=true):(run p c (xs++ys)).told.any eZ=true:=by
 rw[Qf,ajF,h,Bool.true_or]
end
noncomputable def hl(m:Option Int)(c:aN):Prop:=match m with
|none=>c.mode="on"
|some L=>c.mode="coming"/\c.left=L/\1<=L
section
variable (p:a7)(S:List Str)(aD:Int)
def dead(z:Option Str):Bool:=match z with
|none=>true
|some z=>decide (z∈S)
noncomputable def fu(m:Option Int)(z:Option Str):Option (Option Int):=match m with
|none=>if dead S z then some none else if kindOf p (z.getD "")≠"way"\/p.bq<=0\/p.bq<=1+aD then none else some (some (p.bq - 1 - aD))
|some L=>if (dead S z=false/\kindOf p (z.getD "")="once")\/L<=1+aD then none else some (some (L - 1 - aD))
noncomputable def go(m:Option Int):List (Option Str)->Nat->Option Nat
| [],_=>none
|z::zs,i=>match fu p S aD m z with
  |none=>some (i+1)
  |some m'=>go m' zs (i+1)
end
section
variable {p:a7}{S:List Str}{aD:Int}{c:aN}
def rB{a n:Int}(h:n<=a):less a n=a - n:=by
 unfold less;rw[if_neg (by omega)]
def Cq{c1:aN}{z:Str}(az:1<=aD)(av:c1.lines.lookup z=some ("open":Str))(ae:c1.mode≠"leaving")(aj:c1.mode="coming"->1+aD<c1.left):
  run p c1 [.cM 1,.line z "shut",.cM aD]=dZ aD (cls (dZ 1 c1) z):=by
 have a1:d8 p c1 (.cM 1)=dZ 1 c1:=vr (by decide) ae λh=>by have:=aj h;omega
 have a2:d8 p (dZ 1 c1) (.line z "shut")=cls (dZ 1 c1) z:=R1 av;have eE:d8 p (cls (dZ 1 c1) z) (.cM aD)=dZ aD (cls (dZ 1 c1) z):=vr az ae λh=>by
  have:=aj h;show aD<less c1.left 1;rw[rB (by omega)];omega
 show d8 p (d8 p (d8 p c1 (.cM 1)) (.line z "shut")) (.cM aD)=_
 rw[a1,a2,eE]
def tail_any{c1:aN}{z:Str}(az:1<=aD)(av:c1.lines.lookup z=some ("open":Str))(hm:c1.mode="coming")(ae:1<=c1.left)(aj:c1.left<=1+aD)(aq:c1.cO=[]):
  (run p c1 [.cM 1,.line z "shut",.cM aD]).told.any eZ=true:=by
 by_cases q:c1.left<=1
 ·exact Ct (xs:=[.cM 1]) (ys:=[.line z "shut",.cM aD]) (BL (by decide) hm q aq)
 ·have a1:d8 p c1 (.cM 1)=dZ 1 c1:=vr (by decide) (by rw[hm];exact ve) λh=>by omega
  have a2:d8 p (dZ 1 c1) (.line z "shut")=cls (dZ 1 c1) z:=R1 av;show (d8 p (d8 p (d8 p c1 (.cM 1)) (.line z "shut")) (.cM aD)).told.any eZ=true;rw[a1,a2];refine BL (c:=cls (dZ 1 c1) z) az hm ?_ aq;show less c1.left 1<=aD;rw[rB (by omega)];omega
def KV(az:1<=aD)(ae:c.mode≠"leaving")(aj:c.mode="coming"->1+aD<c.left):run p c [.cM 1,.cM aD]=dZ aD (dZ 1 c):=by
 have a1:d8 p c (.cM 1)=dZ 1 c:=vr (by decide) ae λh=>by have:=aj h;omega
 have a2:d8 p (dZ 1 c) (.cM aD)=dZ aD (dZ 1 c):=vr az ae λh=>by
  have:=aj h;show aD<less c.left 1;rw[rB (by omega)];omega
 show d8 p (d8 p c (.cM 1)) (.cM aD)=_
 rw[a1,a2]
def aic(az:1<=aD)(hm:c.mode="coming")(ae:1<=c.left)(aj:c.left<=1+aD)(aq:c.cO=[]):(run p c [.cM 1,.cM aD]).told.any eZ=true:=by
 by_cases q:c.left<=1
 ·exact Ct (xs:=[.cM 1]) (ys:=[.cM aD]) (BL (by decide) hm q aq)
 ·have a1:d8 p c (.cM 1)=dZ 1 c:=vr (by decide) (by rw[hm];exact ve) λh=>by omega
  show (d8 p (d8 p c (.cM 1)) (.cM aD)).told.any eZ=true
  rw[a1];refine BL (c:=dZ 1 c) az hm ?_ aq;show less c.left 1<=aD;rw[rB (by omega)];omega
theorem h4.fresh(h:h4 p S c):h4 p S (fresh c):=⟨h.bW,h.ln,h.m7,h.al⟩
def vo(h:h4 p S c){z:Str}(hz:z∈p.bZ.map (·.1)):(hH c z).lines.lookup z=some ("open":Str):=PV (by rw[h.ln];exact hz)
def h4.tail{z:Str}{c1:aN}(h:h4 p S c)(av:c1.lines=gg c.lines z "open")(aC:c1.dp=S)(aq:c1.cO=[]):h4 p S (dZ aD (cls (dZ 1 c1) z)):=by
 refine⟨?_,?_,aC,aq⟩
 ·show ∀l∈gg c1.lines z "shut",l.2="shut"
  rw[av];exact agM h.bW z "open"
 ·show (gg c1.lines z "shut").map (·.1)=_
  rw[av,QU,QU,h.ln]
def ago{z:Str}{c1:aN}(hd:kindOf p z≠"day")(hm:c1.mode="on")(aq:c1.cO=[])(h:kindOf p z≠"way"\/p.bq<=0):(fE p z "open" c1).told.any eZ=true:=by
 unfold fE;rw[if_neg hd,hm,if_neg Kq];by_cases q:kindOf p z="once"
 ·rw[if_pos (.inr q)];exact B5 aq z
 ·rw[if_neg (by rintro (h|h);exact x1 h;exact q h),if_pos rfl];unfold iD;rw[if_pos h];exact B5 aq z
noncomputable def fC(p:a7)(z:Str)(c:aN):aN:=tell "coming" (some z) {c with mode:="coming",left:=p.bq,fC:=some z}
def afJ{z:Str}{c1:aN}(hm:c1.mode="on")(hw:kindOf p z="way")(ar:0<p.bq):fE p z "open" c1=fC p z c1:=by
 unfold fE;rw[hw,if_neg QQ,hm,if_neg Kq,if_neg (by rintro (h|h);exact x1 h;exact Qj h),if_pos rfl];unfold iD;rw[if_neg (by rintro (h|h);exact h rfl;omega)];rfl
def aeI{z:Str}{c1:aN}(hd:kindOf p z≠"day")(hm:c1.mode="coming")(hw:kindOf p z≠"once"):fE p z "open" c1=c1:=by
 unfold fE;rw[if_neg hd,hm,if_neg Jz,if_neg (by rintro (h|h);exact x1 h;exact hw h),if_neg PU]
def afb{z:Str}{c1:aN}(hm:c1.mode≠"off")(hw:kindOf p z="once")(aq:c1.cO=[]):(fE p z "open" c1).told.any eZ=true:=by
 unfold fE;rw[hw,if_neg Qk,if_neg hm,if_pos (.inr rfl)];exact B5 aq z
def afK{z:Str}{c1:aN}(hd:kindOf p z≠"day")(hm:c1.mode="off"):fE p z "open" c1=c1:=by
 unfold fE;rw[if_neg hd,hm,if_pos rfl,if_neg x1]
def J0{c1:aN}{z:Str}:(dZ aD (cls (dZ 1 c1) z)).told=c1.told:=rfl
def QS{c1:aN}{z:Str}(az:1<=aD)(h:1+aD<c1.left):(dZ aD (cls (dZ 1 c1) z)).left=c1.left - 1 - aD:=by
 show less (less c1.left 1) aD=_
 rw[rB (a:=c1.left) (by omega),rB (by omega)]
def aiM(az:1<=aD)(a':h4 p S c)(hm:c.mode="on")(bo:c.told=[])(z:Option Str)(hz:∀x,z=some x->x∈p.bZ.map (·.1)/\kindOf p x≠"day"):
  match fu p S aD none z with
  |none=>(run p c (eN z aD)).told.any eZ=true
  |some m=>(run p c (eN z aD)).told.any eZ=false/\h4 p S (run p c (eN z aD))/\hl m (run p c (eN z aD)):=by
 have nl:c.mode≠"leaving":=by rw[hm];exact PG
 have w5:c.mode≠"coming":=by rw[hm];exact BJ
 cases z with
|none=>
  have e:run p c (eN none aD)=dZ aD (dZ 1 c):=KV az nl λh=>absurd h w5;rw[e];refine⟨?_,⟨a'.bW,a'.ln,a'.m7,a'.al⟩,hm⟩;show c.told.any eZ=false;rw[bo];rfl
|some z=>
  obtain⟨hF,ma⟩:=hz z rfl;have cx:run p c (eN (some z) aD)=run p (if z∈S then hH c z else fE p z "open" (hH c z)) [.cM 1,.line z "shut",.cM aD]:=by
   rw[<- KP a' hF];rfl
  by_cases hd:z∈S
  ·have aX:fu p S aD none (some z)=some none:=by simp[fu,dead,hd]
   rw[aX,cx,if_pos hd,Cq az (vo a' hF) nl λh=>absurd h w5];exact⟨by rw[J0];show c.told.any eZ=false;rw[bo];rfl,a'.tail rfl a'.m7 a'.al,hm⟩
  ·by_cases ay:kindOf p z≠"way"\/p.bq<=0
   ·have aX:fu p S aD none (some z)=none:=by
     simp only[fu,dead,hd,decide_false,Option.getD_some];rw[if_neg (by simp),if_pos (ay.elim .inl λh=>.inr (.inl h))]
    rw[aX,cx,if_neg hd];exact Ct (xs:=[]) (ys:=[.cM 1,.line z "shut",.cM aD]) (ago ma hm a'.al ay)
   ·have hw:kindOf p z="way":=Classical.byContradiction λq=>ay (.inl q);have ar:0<p.bq:=by
     have:¬p.bq<=0:=λq=>ay (.inr q);omega
    have ab:=afJ (c1:=hH c z) hm hw ar;by_cases av:p.bq<=1+aD
    ·have aX:fu p S aD none (some z)=none:=by
      simp only[fu,dead,hd,decide_false,Option.getD_some];rw[if_neg (by simp),if_pos (.inr (.inr av))]
     rw[aX,cx,if_neg hd,ab];exact tail_any (c1:=fC p z (hH c z)) az (vo a' hF) rfl ar av a'.al
    ·have aX:fu p S aD none (some z)=some (some (p.bq - 1 - aD)):=by
      simp only[fu,dead,hd,decide_false,Option.getD_some];rw[if_neg (by simp),if_neg];rintro (h|h|h)
      ·exact h hw
      ·omega
      ·exact av h
     rw[aX,cx,if_neg hd,ab,Cq (c1:=fC p z (hH c z)) az (vo a' hF) ve λ_=>by show 1+aD<p.bq;omega];refine⟨?_,a'.tail (c1:=fC p z (hH c z)) rfl a'.m7 a'.al,rfl,QS (c1:=fC p z (hH c z)) az (by show 1+aD<p.bq;omega),by omega⟩;rw[J0];show (c.told++[(c.past,("coming":Str),some z)]).any eZ=false;rw[bo];simp[eZ];decide +kernel
def afm{L:Int}(az:1<=aD)(a':h4 p S c)(hm:c.mode="coming")(fI:c.left=L)(ae:1<=L)(bo:c.told=[])(z:Option Str)(hz:∀x,z=some x->x∈p.bZ.map (·.1)/\kindOf p x≠"day"):
  match fu p S aD (some L) z with
  |none=>(run p c (eN z aD)).told.any eZ=true
  |some m=>(run p c (eN z aD)).told.any eZ=false/\h4 p S (run p c (eN z aD))/\hl m (run p c (eN z aD)):=by
 have nl:c.mode≠"leaving":=by rw[hm];exact ve
 cases z with
|none=>
  by_cases av:L<=1+aD
  ·have aX:fu p S aD (some L) none=none:=by
    simp only[fu];rw[if_pos (.inr av)]
   rw[aX];exact aic az hm (by omega) (by omega) a'.al
  ·have aX:fu p S aD (some L) none=some (some (L - 1 - aD)):=by
    simp only[fu];rw[if_neg];rintro (h|h)
    ·cases h.1
    ·exact av h
   have e:run p c (eN none aD)=dZ aD (dZ 1 c):=KV az nl λh=>by omega
   rw[aX,e];refine⟨by show c.told.any eZ=false;rw[bo];rfl,⟨a'.bW,a'.ln,a'.m7,a'.al⟩,hm,?_,by omega⟩;show less (less c.left 1) aD=_;rw[rB (a:=c.left) (by omega),rB (by omega),fI]
|some z=>
  obtain⟨hF,ma⟩:=hz z rfl;have cx:run p c (eN (some z) aD)=run p (if z∈S then hH c z else fE p z "open" (hH c z)) [.cM 1,.line z "shut",.cM aD]:=by
   rw[<- KP a' hF];rfl
  by_cases aE:z∉S/\kindOf p z="once"
  ·have aX:fu p S aD (some L) (some z)=none:=by
    have hx:dead S (some z)=false:=by simp[dead,aE.1]
    simp only[fu];rw[if_pos (Or.inl ⟨hx,aE.2⟩)]
   rw[aX,cx,if_neg aE.1];exact Ct (xs:=[]) (ys:=[.cM 1,.line z "shut",.cM aD]) (afb (by show c.mode≠"off";rw[hm];exact Jz) aE.2 a'.al)
  ·have ax:(if z∈S then hH c z else fE p z "open" (hH c z))=hH c z:=by
    by_cases hd:z∈S
    ·rw[if_pos hd]
    ·rw[if_neg hd];exact aeI ma hm λq=>aE ⟨hd,q⟩
   rw[ax] at cx;by_cases av:L<=1+aD
   ·have aX:fu p S aD (some L) (some z)=none:=by
     simp only[fu];rw[if_pos (.inr av)]
    rw[aX,cx];exact tail_any (c1:=hH c z) az (vo a' hF) hm (by show 1<=c.left;omega) (by show c.left<=_;omega) a'.al
   ·have aX:fu p S aD (some L) (some z)=some (some (L - 1 - aD)):=by
     simp only[fu];rw[if_neg];rintro (h|h)
     ·exact aE ⟨by simpa [dead] using h.1,h.2⟩
     ·exact av h
    rw[aX,cx,Cq (c1:=hH c z) az (vo a' hF) nl λ_=>by show _<c.left;omega];refine⟨by rw[J0];show c.told.any eZ=false;rw[bo];rfl,a'.tail rfl a'.m7 a'.al,hm,?_,by omega⟩;rw[QS (c1:=hH c z) az (by show _<c.left;omega)];show c.left - 1 - aD=_;rw[fI]
theorem CK{os:List Op}(az:1<=aD)(hz:∀o∈os,∀x,o.2.2=some x->x∈p.bZ.map (·.1)/\kindOf p x≠"day"):∀(w:List Nat) (c:aN) (m:Option Int) (i:Nat),h4 p S c->hl m c->fX p os aD c w i=go p S aD m (w.map (zoneAt os)) i
| [],c,m,i,_,_=>rfl
|k::w,c,m,i,a',hm=>by
  have i':∀x,zoneAt os k=some x->x∈p.bZ.map (·.1)/\kindOf p x≠"day":=λx hx=>by
   unfold zoneAt at hx;obtain⟨o,aE,hx⟩:=b0.mp hx;exact hz o (mm aE) x hx
  have st:match fu p S aD m (zoneAt os k) with
   |none=>(lg p os aD c k).told.any eZ=true
   |some m=>(lg p os aD c k).told.any eZ=false/\h4 p S (lg p os aD c k)/\hl m (lg p os aD c k):=by
   cases m with
   |none=>exact aiM (c:=fresh c) az a'.fresh hm rfl (zoneAt os k) i'
   |some L=>exact afm (c:=fresh c) az a'.fresh hm.1 hm.2.1 hm.2.2 rfl (zoneAt os k) i'
  simp only[fX,cP,go];cases e:fu p S aD m (zoneAt os k) with
  |none=>
   rw[e] at st;rw[if_pos st]
  |some m'=>
   rw[e] at st;rw[if_neg (by rw[st.1];decide)];exact CK az hz w _ m' (i+1) st.2.1 st.2.2
theorem Sv{os:List Op}(az:1<=aD)(hz:∀o∈os,∀x,o.2.2=some x->x∈p.bZ.map (·.1)/\kindOf p x≠"day"):∀(w:List Nat) (c:aN) (i:Nat),h4 p S c->c.mode="off"->fX p os aD c w i=none
| [],c,i,_,_=>rfl
|k::w,c,i,a',hm=>by
  have i':∀x,zoneAt os k=some x->x∈p.bZ.map (·.1)/\kindOf p x≠"day":=λx hx=>by
   unfold zoneAt at hx;obtain⟨o,aE,hx⟩:=b0.mp hx;exact hz o (mm aE) x hx
  have nl:c.mode≠"leaving":=by rw[hm];exact Pq
  have w5:c.mode≠"coming":=by rw[hm];exact BD
  have st:(lg p os aD c k).told.any eZ=false/\h4 p S (lg p os aD c k)/\(lg p os aD c k).mode="off":=by
   unfold lg;cases ay:zoneAt os k with
   |none=>
    have e:run p (fresh c) (eN none aD)=dZ aD (dZ 1 (fresh c)):=KV az nl λh=>absurd h w5;rw[e];exact⟨rfl,⟨a'.bW,a'.ln,a'.m7,a'.al⟩,hm⟩
   |some z=>
    obtain⟨hF,ma⟩:=i' z ay;have ax:(if z∈S then hH (fresh c) z else fE p z "open" (hH (fresh c) z))=hH (fresh c) z:=by
     by_cases hd:z∈S
     ·rw[if_pos hd]
     ·rw[if_neg hd];exact afK ma hm
    have cx:run p (fresh c) (eN (some z) aD)=run p (hH (fresh c) z) [.cM 1,.line z "shut",.cM aD]:=by
     rw[<- ax,<- KP a'.fresh hF];rfl
    rw[cx,Cq (c1:=hH (fresh c) z) az (vo a'.fresh hF) nl λh=>absurd h w5];exact⟨rfl,a'.fresh.tail rfl a'.m7 a'.al,hm⟩
  simp only[fX,st.1];exact Sv az hz w _ (i+1) st.2.1 st.2.2
end
section
variable {p:a7}{S:List Str}{aD:Int}
theorem Lm:∀{zs:List (Option Str)} {m:Option Int} {i q:Nat},go p S aD m zs i=some q->i<q/\q<=i+zs.length
| [],m,i,q,e=>by cases e
|z::zs,m,i,q,e=>by
  simp only[go] at e;split at e
  ·cases e
   simp only[eJ];omega
  ·have:=Lm e;simp only[eJ];omega
theorem K1:∀{ds rest:List (Option Str)} {i:Nat},(∀z∈ds,dead S z=true)->go p S aD none (ds++rest) i=go p S aD none rest (i+ds.length)
| [],rest,i,_=>rfl
|z::ds,rest,i,h=>by
  have aX:fu p S aD none z=some none:=by simp only[fu,h z (by simp),if_true]
  simp only[mn,go,aX,eJ];rw[K1 λy aV=>h y (dq _ aV)];congr 1;omega
def S_{zs:List (Option Str)}{i:Nat}(h:∀z∈zs,dead S z=true):go p S aD none zs i=none:=by
 have:=K1 (p:=p) (aD:=aD) (rest:=[]) (i:=i) h;rw[nh] at this;rw[this];rfl
def akx{z:Option Str}{rest:List (Option Str)}{i:Nat}(hd:dead S z=false)(h:kindOf p (z.getD "")≠"way"\/p.bq<=0\/p.bq<=1+aD):go p S aD none (z::rest) i=some (i+1):=by
 have aX:fu p S aD none z=none:=by simp only[fu,hd,iO,if_false,if_pos h]
 simp only[go,aX]
noncomputable def Ax:Option Int->Option Int->Prop
|none,none=>True
|some a,some b=>a<=b
|_,_=>False
theorem So{m6:Int}(aC:aD<=m6):∀{zs:List (Option Str)} {m m':Option Int} {i q:Nat},Ax m' m->go p S aD m zs i=some q->∃d2,go p S m6 m' zs i=some d2/\d2<=q
| [],m,m',i,q,_,e=>by cases e
|z::zs,m,m',i,q,hm,e=>by
  have key:match fu p S aD m z,fu p S m6 m' z with
   |none,none=>True
   |some a,some b=>Ax b a
   |some _,none=>True
   |none,some _=>False:=by
   cases m with
   |none=>
    cases m' with
    |some a=>exact hm.elim
    |none=>
     simp only[fu];by_cases hd:dead S z=true
     ·simp only[hd,if_true]
      trivial
     ·by_cases ae:kindOf p (z.getD "")≠"way"\/p.bq<=0\/p.bq<=1+aD
      ·have aj:kindOf p (z.getD "")≠"way"\/p.bq<=0\/p.bq<=1+m6:=ae.imp_right λh=>h.imp_right λh=>by omega
       simp only[if_neg hd,if_pos ae,if_pos aj]
      ·by_cases aj:kindOf p (z.getD "")≠"way"\/p.bq<=0\/p.bq<=1+m6
       ·simp only[if_neg hd,if_neg ae,if_pos aj]
       ·simp only[if_neg hd,if_neg ae,if_neg aj,Ax];omega
   |some L=>
    cases m' with
    |none=>exact hm.elim
    |some Dc=>
     have fI:Dc<=L:=hm;simp only[fu];by_cases ae:(dead S z=false/\kindOf p (z.getD "")="once")\/L<=1+aD
     ·have aj:(dead S z=false/\kindOf p (z.getD "")="once")\/Dc<=1+m6:=ae.imp_right λh=>by omega
      simp only[if_pos ae,if_pos aj]
     ·by_cases aj:(dead S z=false/\kindOf p (z.getD "")="once")\/Dc<=1+m6
      ·simp only[if_neg ae,if_pos aj]
      ·simp only[if_neg ae,if_neg aj,Ax];omega
  simp only[go] at e ⊢;cases ab:fu p S m6 m' z with
  |none=>
   refine⟨i+1,rfl,?_⟩
   split at e
   ·cases e
    exact dw _
   ·exact Nat.le_of_lt (Lm e).1
  |some b=>
   cases aq:fu p S aD m z with
   |none=>
    rw[aq,ab] at key;exact key.elim
   |some a=>
    rw[aq,ab] at key;rw[aq] at e;exact So aC key e
end
theorem KW{g:List Nat->Option Nat}(bx:∀w q,g w=some q->q<99):∀(ws:List (List Nat)) (b:List Nat),g b=none->kS.mZ g b ws=b
| [],b,_=>rfl
|w::ws,b,h=>by
  have:¬kS.jB (g b)<kS.jB (g w):=by
   rw[h];cases hw:g w with
   |none=>simp[kS.jB]
   |some q=>
    have:=bx w q hw;simp only[kS.jB];omega
  rw[kS.mZ,if_neg this];exact KW bx ws b h
theorem Kr{g:List Nat->Option Nat}(bx:∀w q,g w=some q->q<99):∀(ws:List (List Nat)) (b:List Nat),g b≠none->∀{f:List Nat} {r:List (List Nat)},ws.filter (λw=>(g w).isNone)=f::r->kS.mZ g b ws=f
| [],b,_,f,r,h=>by cases h
|w::ws,b,ab,f,r,h=>by
  rw[List.filter_cons] at h;cases hw:g w with
  |none=>
   rw[hw] at h;simp only[Option.isNone_none,if_true,List.cons.injEq] at h;have:kS.jB (g b)<kS.jB (g w):=by
    rw[hw];cases a_:g b with
    |none=>exact absurd a_ ab
    |some q=>
     have:=bx b q a_;simp only[kS.jB];omega
   rw[kS.mZ,if_pos this,KW bx ws w hw];exact h.1
  |some q=>
   rw[hw] at h;simp only[Option.isNone_some,iO,if_false] at h;rw[kS.mZ];split
   ·exact Kr bx ws w (by rw[hw];simp) h
   ·exact Kr bx ws b ab h
noncomputable def uM(ns:List Str)(os:List Op)(k:Nat):Bool:=match os[k]? with
|some o=>aQ.free ns o
|none=>true
def ais{ns:List Str}{os:List Op}{room:Int}{k:Nat}{ws:List (List Nat)}(h:c2.gY (os.map aQ.fs) room k [0]=some ws):c2.Reach (aQ.uv ns os) room <-> (ws.any λw=>w.all (uM ns os))=true:=by
 rw[c2.acq (λk=>uM ns os k=true) (λe he=>?_) (λk e ae aj=>?_) h]
 ·simp[List.any_eq_true,List.all_eq_true]
 ·obtain⟨op,ama,rfl⟩:=dI.mp he;have hm:=List.mem_filter.mp ama;obtain⟨k,ay⟩:=List.mem_iff_getElem?.mp hm.1;exact⟨k,by rw[jn,ay];rfl,by simp only[uM,ay];exact hm.2⟩
 ·rw[jn] at ae;obtain⟨op,ama,rfl⟩:=dR.mp ae;simp only[uM,ama] at aj;exact dI.mpr ⟨op,List.mem_filter.mpr ⟨mm ama,aj⟩,rfl⟩
def aja(S:List Str)(os:List Op)(k:Nat):uM S os k=dead S (zoneAt os k):=by
 unfold uM zoneAt;cases os[k]? with
|none=>rfl
|some o=>
  obtain⟨a,b,z⟩:=o;cases z <;> rfl
end nF
end
section
namespace nF
open D b5 oF t_
open PySem hiding run fresh code
local instance:cG:=⟨[],λ_=>[],λ_=>none⟩
def afl:oK=aQ.oK:=rfl
def akD(o:Option Str):aQ.cJ o=gK o:=by cases o <;> rfl
theorem JT:∀W:List (Option Str),rJ (W.map aQ.cJ)=some W
| []=>rfl
|none::W=>by
  show (rJ (W.map aQ.cJ)).map _=_
  rw[JT W];rfl
|some x::W=>by
  show (rJ (W.map aQ.cJ)).map _=_
  rw[JT W];rfl
def ah_{W:List (Option Str)}(h:∀z∈W,∀x,z=some x->cF x):eV (.list (W.map aQ.cJ))=true:=by
 refine (Kp (d:=1) λt bo=>?_).eV
 obtain⟨z,hz,rfl⟩:=dI.mp bo;rw[akD];exact akl 1 (h z hz)
def Sg:eV (.list ([]:List T))=true:=by decide
def eq_nil{ts:List T}(h:eV (.list ts)=true):oEq (.list ts) (.list [])=some (.bool ts.isEmpty):=by
 unfold oEq;rw[h,Sg];cases ts <;> simp[hY,PyData.eqvAll]
def ne_nil{ts:List T}(h:eV (.list ts)=true):fa (.list ts) (.list [])=some (.bool (!ts.isEmpty)):=by
 unfold fa;rw[h,Sg];cases ts <;> simp[hY,PyData.eqvAll]
def af0{S:List Str}(c9:∀x∈S,cF x){z:Str}(hz:cF z):eB true (.str z) (.list (S.map .str))=some (.bool (!decide (z∈S))):=by
 simp only[eB,tP hz,J8 S c9,Ci,Bool.and_self,if_true]
def CU{a b:fP}{ε:Ev}{x y:Bool}(ae:a ε=some x)(aj:b ε=some y):eI a b ε=some (x || y):=by
 unfold eI;rw[ae];cases x
 ·simpa using aj
 ·rfl
def Lh{a b:fP}{ε:Ev}{x y:Bool}(ae:a ε=some x)(aj:x=true->b ε=some y):dy a b ε=some (x && y):=by
 unfold dy;rw[ae];cases x
 ·rfl
 ·simpa using aj rfl
def kx{f:bK}{ε:Ev}{b:Bool}(h:f ε=some (.bool b)):aZ f ε=some b:=by
 unfold aZ;rw[h];rfl
def ez{o:T->T->Option T}{f g:bK}{ε:Ev}{x y t:T}(hf:f ε=some x)(bx:g ε=some y)(h:o x y=some t):af o f g ε=some t:=by
 unfold af;rw[hf,bx];exact h
def XX{o:T->Option T}{f:bK}{ε:Ev}{x t:T}(hf:f ε=some x)(h:o x=some t):cn o f ε=some t:=by
 unfold cn;rw[hf];exact h
def uq{own:Nat}{caps:List Nat}{it:lq}{g:iB}{c:fP}{e:bK}{ε δ:Ev}{ts us:List T}(ba:it ε=some ts)(av:ts.length<=1000)(hd:fN own caps ε=δ)(h:gQ g c e ts δ=some us):comp own caps it g c e ε=some (.list us):=by
 unfold comp;rw[ba];simp only[cp];rw[if_pos (by unfold big;omega),hd,h];rfl
theorem PN{q:Option Str->Bool}:∀{W:List (Option Str)} {z:Option Str} {L:List (Option Str)},W.filter q=z::L->∃ds rest,W=ds++z::rest/\(∀y∈ds,q y=false)/\q z=true
| [],z,L,h=>by cases h
|y::W,z,L,h=>by
  rw[List.filter_cons] at h;cases a_:q y with
  |true=>
   rw[a_,if_pos rfl] at h;cases h;exact⟨[],W,rfl,(λ_ z=>nomatch z),a_⟩
  |false=>
   rw[a_,if_neg (by decide)] at h;obtain⟨ds,rest,e,ae,aj⟩:=PN h;refine⟨y::ds,rest,by rw[e];rfl,λx hx=>?_,aj⟩;rcases ct.mp hx with rfl|hx
   ·exact a_
   ·exact ae x hx
theorem QY{z:Option Str}:∀{ds rest:List (Option Str)},z∉ds->(ds++z::rest).idxOf z=ds.length
| [],rest,_=>by simp
|y::ds,rest,h=>by
  have ab:(y==z)=false:=beq_eq_false_iff_ne.mpr λe=>h (by simp[e]);rw[mn,List.idxOf_cons,ab,QY λq=>h (dq _ q)];rfl
theorem PR:∀zs:List (Str×Str),yu (zs.map et)=some (gV zs)
| []=>rfl
|z::zs=>by
  show (keyOf (.str z.1)).bind _=_
  simp only[keyOf,cp];rw[PR zs];rfl
theorem QZ{z:Str}:∀{zs:List (Str×Str)},z∈zs.map (·.1)->getD (gV zs) (.inr z)=some (.str (((zs.find? λx=>decide (x.1=z)).map (·.2)).getD ""))
| [],h=>by simp at h
|x::zs,h=>by
  by_cases e:x.1=z
  ·simp[getD,gV,e]
  ·have h':z∈zs.map (·.1):=by
    rw[cP] at h;rcases ct.mp h with q|q
    ·exact absurd q.symm e
    ·exact q
   have bc:=QZ h';unfold getD gV at bc ⊢;have ax:¬(Sum.inr x.1:D.Key)=Sum.inr z:=λq=>e (Sum.inr.inj q);rw[cP,ml,ml,decide_eq_false ax,decide_eq_false e];exact bc
def ajx{p:a7}(wp:Wp p)(av:p.bZ.length<=40){z:Str}(hz:z∈p.bZ.map (·.1)):vw (.tuple (p.bZ.map et)) (.str z)=some (.str (kindOf p z)):=by
 unfold vw;dsimp only;rw[PR];simp only[cp,keyOf];rw[if_pos ⟨by rw[Sk];exact J9 wp.P4,by simp[gV];omega⟩];exact QZ hz
def ajw{p:a7}(wp:Wp p)(av:p.bZ.length<=40)(sU:∀z∈p.bZ,cF z.1/\cF z.2){S:List Str}{W L:List (Option Str)}{f7:Str}(hf:W.filter (λz=>!dead S z)=some f7::L)(hz:f7∈p.bZ.map (·.1)){aD:Int}:
  tB [.tuple (p.bZ.map et),.list ((some f7::L).map aQ.cJ),.list (W.map aQ.cJ),.int p.bq,.int aD,ea (go p S aD none W 0),ea (go p S (aD+9) none W 0)]=some (.bool true):=by
 obtain⟨ds,rest,qV,YE,wO⟩:=PN hf;have Nl:∀z∈ds,dead S z=true:=λz h=>by simpa using YE z h
 have Gd:dead S (some f7)=false:=by simpa using wO
 have YJ:W.idxOf (some f7)=ds.length:=by
  rw[qV];exact QY λh=>by rw[Nl _ h] at Gd;cases Gd
 have F1:some f7∈W:=by rw[qV];simp
 have Nt:∀pc:Int,go p S pc none W 0=go p S pc none (some f7::rest) ds.length:=λpc=>by
  rw[qV,K1 Nl,Nat.zero_add]
 have FX:cF (kindOf p f7):=by
  unfold kindOf;cases a_:p.bZ.find? λx=>decide (x.1=f7) with
  |none=>exact bJ ""
  |some y=>exact (sU y (List.mem_of_find?_eq_some a_)).2
 have m6:∀q,go p S aD none W 0=some q->∃d2,go p S (aD+9) none W 0=some d2/\d2<=q:=λq e=>So (by omega) (m:=none) (m':=none) trivial e;have low:∀q,go p S aD none W 0=some q->ds.length+1<=q:=λq e=>by
  rw[Nt] at e;exact (Lm e).1
 have NG:(kindOf p f7≠"way"\/p.bq=0\/p.bq<=aD)->go p S aD none W 0=some (ds.length+1):=λh=>by
  rw[Nt];refine akx Gd ?_;rcases h with h|h|h
  ·exact .inl h
  ·exact .inr (.inl (by omega))
  ·exact .inr (.inr (by omega))
 generalize go p S aD none W 0=pl at m6 low NG;generalize go p S (aD+9) none W 0=df at m6;suffices aC:JL [some (.U (.tuple (p.bZ.map et))),some (.U (.list ((some f7::L).map aQ.cJ))),some (.U (.list (W.map aQ.cJ))),some (.U (.int p.bq)),some (.U (.int aD)),some (.U (ea pl)),some (.U (ea df)),none]=some (.dB (.bool true)) by
  unfold tB cV;simp only[cP,kI,eJ,ke,mn,pd];exact congrArg (λo=>Option.bind o _) aC
 have GK:∀hc:Option aR,af aP (nm 1) (aa (.int 0)) [some (.U (.tuple (p.bZ.map et))),some (.U (.list ((some f7::L).map aQ.cJ))),some (.U (.list (W.map aQ.cJ))),some (.U (.int p.bq)),some (.U (.int aD)),some (.U (ea pl)),some (.U (ea df)),hc]=some (.str f7):=λhc=>by
  refine ez (x:=.list ((some f7::L).map aQ.cJ)) (y:=.int 0) rfl rfl ?_
  simp[aP,ei,eL,aQ.cJ]
 unfold JL;refine jq (t:=.int ((ds.length+1:Nat):Int)) (ez (x:=.int (ds.length:Nat)) (y:=.int 1) (ez (x:=.list (W.map aQ.cJ)) rfl (GK none) ?_) rfl ?_) ?_
 ·unfold Cv;dsimp only;rw[JT];simp only[cp];rw[if_pos F1,YJ]
 ·rfl
 simp only[gO,f6];have t1:aZ (af fa (af vw (nm 0) (af aP (nm 1) (aa (.int 0)))) (aa (.str "way"))) [some (.U (.tuple (p.bZ.map et))),some (.U (.list ((some f7::L).map aQ.cJ))),some (.U (.list (W.map aQ.cJ))),some (.U (.int p.bq)),some (.U (.int aD)),some (.U (ea pl)),some (.U (ea df)),some (.U (.int ((ds.length+1:Nat):Int)))]=some (!decide (kindOf p f7="way")):=
  kx (ez (ez (x:=.tuple (p.bZ.map et)) rfl (GK _) (ajx wp av hz)) rfl (nu FX (bJ "way")))
 have qe:aZ (af oEq (nm 3) (aa (.int 0))) [some (.U (.tuple (p.bZ.map et))),some (.U (.list ((some f7::L).map aQ.cJ))),some (.U (.list (W.map aQ.cJ))),some (.U (.int p.bq)),some (.U (.int aD)),some (.U (ea pl)),some (.U (ea df)),some (.U (.int ((ds.length+1:Nat):Int)))]=some (decide (p.bq=0)):=
  kx (ez rfl rfl (al' _ _))
 have t3:aZ (af oLe (nm 3) (nm 4)) [some (.U (.tuple (p.bZ.map et))),some (.U (.list ((some f7::L).map aQ.cJ))),some (.U (.list (W.map aQ.cJ))),some (.U (.int p.bq)),some (.U (.int aD)),some (.U (ea pl)),some (.U (ea df)),some (.U (.int ((ds.length+1:Nat):Int)))]=some (decide (p.bq<=aD)):=
  kx (ez rfl rfl rfl)
 refine qq (ε':=[some (.U (.tuple (p.bZ.map et))),some (.U (.list ((some f7::L).map aQ.cJ))),some (.U (.list (W.map aQ.cJ))),some (.U (.int p.bq)),some (.U (.int aD)),some (.U (ea pl)),some (.U (ea df)),some (.U (.int ((ds.length+1:Nat):Int)))]) ?_ ?_
 ·rw[iff_eq (CU t1 (CU qe t3))];split
  ·rename_i h
   have h':kindOf p f7≠"way"\/p.bq=0\/p.bq<=aD:=by
    simp only[Bool.or_eq_true,Bool.not_eq_true',decide_eq_false_iff_not,decide_eq_true_eq] at h;exact h
   have e:=NG h';subst e;have xu:aZ (af fa (nm 5) (nm 7)) [some (.U (.tuple (p.bZ.map et))),some (.U (.list ((some f7::L).map aQ.cJ))),some (.U (.list (W.map aQ.cJ))),some (.U (.int p.bq)),some (.U (.int aD)),some (.U (ea (some (ds.length+1)))),some (.U (ea df)),some (.U (.int ((ds.length+1:Nat):Int)))]=some false:=
    kx (ez rfl rfl ((KR _ _).trans (by simp)))
   rw[iff_eq xu];rfl
  ·rfl
 cases pl with
|none=>rfl
|some q=>
  obtain⟨d2,rfl,uA⟩:=m6 q rfl;have a_:=low q rfl;refine qq (ε':=[some (.U (.tuple (p.bZ.map et))),some (.U (.list ((some f7::L).map aQ.cJ))),some (.U (.list (W.map aQ.cJ))),some (.U (.int p.bq)),some (.U (.int aD)),some (.U (ea (some q))),some (.U (ea (some d2))),some (.U (.int ((ds.length+1:Nat):Int)))]) rfl ?_;have a1:m1 (.int (q:Int)) (.int ((ds.length+1:Nat):Int))=some (.bool true):=by
   simp only[m1,Option.some.injEq,PyData.bool.injEq,decide_eq_true_eq];omega
  have a2:oLe (.int (d2:Int)) (.int (q:Int))=some (.bool true):=by
   simp only[oLe,Option.some.injEq,PyData.bool.injEq,decide_eq_true_eq];omega
  have b1:af m1 (nm 5) (nm 7) [some (.U (.tuple (p.bZ.map et))),some (.U (.list ((some f7::L).map aQ.cJ))),some (.U (.list (W.map aQ.cJ))),some (.U (.int p.bq)),some (.U (.int aD)),some (.U (ea (some q))),some (.U (ea (some d2))),some (.U (.int ((ds.length+1:Nat):Int)))]=some (.bool true):=ez rfl rfl a1;have b2:af oLe (nm 6) (nm 5) [some (.U (.tuple (p.bZ.map et))),some (.U (.list ((some f7::L).map aQ.cJ))),some (.U (.list (W.map aQ.cJ))),some (.U (.int p.bq)),some (.U (.int aD)),some (.U (ea (some q))),some (.U (ea (some d2))),some (.U (.int ((ds.length+1:Nat):Int)))]=some (.bool true):=ez rfl rfl a2;unfold bN nL;rw[b1];simp only[cp];show Option.map Out.dB (Option.bind (some (PyData.bool true)) λt=>match t with|.bool true=>af oLe (nm 6) (nm 5) _|.bool false=>some (.bool false)|_=>none)=_;simp only[cp];rw[b2];rfl
section
variable (iy h3 iz iA:T)(p:a7)(R:Int)(os:List Op)(S:List Str)(c:aN)(x aD:Int)
noncomputable def V(acc:List T)(sY n8 n9 n_ n':Option aR):Ev:=
 [some (.U iy),some (.U (aQ.b_ R os)),some (.U h3),some (.U iz),some (.U (.int p.bq)),some (.U (.tuple (p.bZ.map et))),some (.U (cR p)),some (.U (.list (S.map .str))),some (.U iA),some (.U (dz c)),some (.U (.int x)),some (.U (.int aD)),some (.own acc),sY,n8,n9,n_,n']
end
noncomputable def DZ:bD:=
  (seq (asg 14 (comp 1 [1] (cQ (ao 13)) (bA 0) (di true) (af aP (af aP (af aP (nm 1) (aa (.int 1))) (nm 0)) (aa (.int 2))))) (seq (asg 15 (comp 1 [7] (cQ (ao 14)) (bA 0) (dy (aZ (cn dx (nm 0))) (aZ (af (eB true) (nm 0) (nm 1)))) (ao 0))) (seq (asg 16 (aS jJ [(ao 6),(ao 1),(ao 9),(ao 13),(ao 11)])) (seq (iff (aZ (cn dx (aS jJ [(ao 6),(ao 1),(aS rG [(ao 6)]),(ao 13),(ao 11)]))) (bN (aa (.bool false))) skip) (seq (iff (dy (aZ (af oEq (nm 15) (dD []))) (aZ (cn dx (nm 16)))) (bN (aa (.bool false))) skip) (seq (asg 17 (aS jJ [(ao 6),(ao 1),(ao 9),(ao 13),(af b4 (nm 11) (aa (.int 9)))])) (seq (iff (dy (aZ (af fa (nm 15) (dD []))) (ft (aZ (aS tB [(ao 5),(ao 15),(ao 14),(ao 4),(ao 11),(ao 16),(ao 17)])))) (bN (aa (.bool false))) skip) (seq (iff (aZ (cn e3 (nm 16))) (app 12 (ao 13)) skip) (iff (aZ (af fa (aS fL [(aS qs [(ao 1),(ao 13),(ao 11)])]) (af b4 (af dn (aa (.int 2)) (aS fL [(nm 13)])) (af dn (aa (.int 2)) (aS fL [(comp 1 [] (cQ (ao 14)) (bA 0) (aZ (cn dx (nm 0))) (ao 0))]))))) (bN (aa (.bool false))) skip)))))))))
theorem Ro(os:List Op)(aD:Int):∀w:List Nat,(oh os w aD).length=2*w.length+2*((w.map (zoneAt os)).filter (·.isSome)).length
| []=>rfl
|k::w=>by
  have bc:=Ro os aD w;have e:oh os (k::w) aD=eN (zoneAt os k) aD++oh os w aD:=rfl;rw[e,jI,bc,cP,List.filter_cons];cases zoneAt os k with
  |none=>
   simp only[eN,eJ,ke,Option.isSome_none,iO,if_false];omega
  |some z=>
   simp only[eN,eJ,ke,Option.isSome_some,if_true];omega
def mM{o:List T->Option T}{aB:List bK}{ε:Ev}{xs:List T}{t:T}(h:args aB ε=some xs)(aE:o xs=some t):aS o aB ε=some t:=by
 unfold aS;rw[h];exact aE
section
variable {iy h3 iz iA:T}{p:a7}{R:Int}{os:List Op}{S:List Str}{c:aN}{x aD:Int}
structure yU(p:a7)(os:List Op)(S:List Str)(c:aN)(aD:Int):Prop where
 wp:Wp p
 xA:bj p (js p)
 o8:bj p c
 GL:h4 p S c
 mo:c.mode="on"
 t2:∀o∈os,∀y,o.2.2=some y->y∈p.bZ.map (·.1)/\kindOf p y≠"day"
 pc:1<=aD
 dK:∀y∈S,cF y
def RF(p:a7):h4 p [] (js p):=⟨λl av=>by
 obtain⟨z,_,rfl⟩:=dI.mp av;rfl,by simp[js,al4],rfl,rfl⟩
def aiD(h:yU p os S c aD){k:Nat}{y:Str}(e:zoneAt os k=some y):y∈p.bZ.map (·.1)/\cF y:=by
 unfold zoneAt at e;obtain⟨o,aE,e⟩:=b0.mp e;have aV:=(h.t2 o (mm aE) y e).1;refine⟨aV,?_⟩;obtain⟨z,hz,rfl⟩:=dI.mp aV;exact (h.o8.zn z hz).1
def aiI(h:yU p os S c aD){w:List Nat}(hw:w.length<=20)(ay:∀k∈w,k<os.length)(acc:List T)(aq:acc.length<=1000)(n8 n9 n_ n':Option aR):∃s7 s8 s9 s_,
  DZ (V iy h3 iz iA p R os S c x aD acc (some (.U (aQ.wT w))) n8 n9 n_ n')=some (.bR (V iy h3 iz iA p R os S c x aD (if (fX p os aD c w 0).isNone then acc++[aQ.wT w] else acc) (some (.U (aQ.wT w))) s7 s8 s9 s_)):=by
 have hz:ame p os:=λo aE y e=>(h.t2 o aE y e).1;have Om:1<=aD+9:=by have:=h.pc;omega
 have ca:=B4 h.wp (R:=R) hz h.pc h.o8 ay;have cs:=B4 h.wp (R:=R) hz Om h.o8 ay;have LW:=B4 h.wp (R:=R) hz h.pc h.xA ay;rw[Sv h.pc h.t2 w (js p) 0 (RF p) rfl] at LW;have ga:=CK h.pc h.t2 w c none 0 h.GL h.mo;have fH:=CK Om h.t2 w c none 0 h.GL h.mo;rw[ga] at ca ⊢;rw[fH] at cs;have V5:=RT p h.o8.fU h.wp;generalize qV:w.map (zoneAt os)=W at ca cs ⊢;have Fv:∀z∈W,∀y,z=some y->y∈p.bZ.map (·.1)/\cF y:=λz hz y e=>by
  subst qV;obtain⟨k,_,rfl⟩:=dI.mp hz;exact aiD h e
 have Nd:W.length=w.length:=by rw[<- qV,eb]
 have Og:eV (.list ((W.filter λz=>!dead S z).map aQ.cJ))=true:=ah_ λz hz y e=>(Fv z (List.mem_filter.mp hz).1 y e).2;refine⟨some (.U (.list (W.map aQ.cJ))),some (.U (.list ((W.filter λz=>!dead S z).map aQ.cJ))),some (.U (ea (go p S aD none W 0))),some (.U (ea (go p S (aD+9) none W 0))),?_⟩;unfold DZ;refine jq (t:=.list (W.map aQ.cJ)) ?_ ?_
 ·refine uq (δ:=[none,some (.U (aQ.b_ R os))]) (ts:=w.map λ(k:Nat)=>PyData.int (k:Int)) rfl (by simp;omega) rfl ?_
  have:=qC (cc:=di true) (hB:=af aP (af aP (af aP (nm 1) (aa (.int 1))) (nm 0)) (aa (.int 2))) (caps:=[some (.U (aQ.b_ R os))]) (λ(k:Nat)=>PyData.int (k:Int)) (λ_=>true) (λk=>aQ.cJ (zoneAt os k)) w none λk wI=>⟨rfl,λ_=>by
   refine ez (x:=aQ.cZ (os[k]'(ay k wI))) (y:=.int 2) (ez (ez rfl rfl (Fx R os)) rfl (Ic (ay k wI))) rfl ?_
   rw[JY (ay k wI)];simp[aP,ei,eL,aQ.cZ]⟩
  rw[this,List.filter_eq_self.mpr (λ_ _=>rfl),<- qV,k'];rfl
 simp only[V,gO,f6];refine jq (t:=.list ((W.filter λz=>!dead S z).map aQ.cJ)) ?_ ?_
 ·refine uq (δ:=[none,some (.U (.list (S.map .str)))]) (ts:=W.map aQ.cJ) rfl (by rw[eb,Nd];omega) rfl ?_
  refine qC (cc:=dy (aZ (cn dx (nm 0))) (aZ (af (eB true) (nm 0) (nm 1)))) (hB:=ao 0) (caps:=[some (.U (.list (S.map .str)))]) aQ.cJ (λz=>!dead S z) aQ.cJ W none λz hz=>⟨?_,λ_=>rfl⟩
  cases z with
  |none=>rfl
  |some y=>
   refine (Lh (x:=true) (y:=!decide (y∈S)) rfl λ_=>kx (ez rfl rfl (af0 h.dK (Fv _ hz y rfl).2))).trans ?_
   rw[Bool.true_and];rfl
 simp only[gO,f6];refine jq (t:=ea (go p S aD none W 0)) (mM (xs:=[cR p,aQ.b_ R os,dz c,aQ.wT w,.int aD]) rfl ca) ?_;simp only[gO,f6];refine yh (kx (XX (x:=.none) (mM (xs:=[cR p,aQ.b_ R os,dz (js p),aQ.wT w,.int aD]) ?_ LW) rfl)) ?_
 ·simp only[args,aS,ao,iq,hZ,cp,d4,V5]
 have live:(W.filter λz=>!dead S z)=[]->go p S aD none W 0=none:=λe=>by
  refine S_ λz hz=>?_
  have:=List.filter_eq_nil_iff.mp e z hz;simpa using this
 refine yh ?_ ?_
 ·refine (Lh (x:=(W.filter λz=>!dead S z).isEmpty) (y:=(go p S aD none W 0).isSome) (kx (ez rfl rfl ((eq_nil Og).trans ?_))) λ_=>?_).trans ?_
  ·rw[List.isEmpty_map]
  ·cases go p S aD none W 0 <;> rfl
  ·cases hf:(W.filter λz=>!dead S z) with
   |nil=>
    rw[live hf];rfl
   |cons a b=>rfl
 refine jq (t:=ea (go p S (aD+9) none W 0)) (mM (xs:=[cR p,aQ.b_ R os,dz c,aQ.wT w,.int (aD+9)]) rfl cs) ?_
 simp only[gO,f6];refine yh ?_ ?_
 ·refine (Lh (x:=!(W.filter λz=>!dead S z).isEmpty) (y:=false) (kx (ez rfl rfl ((ne_nil Og).trans ?_))) λdJ=>?_).trans (by rw[Bool.and_false])
  ·rw[List.isEmpty_map]
  ·cases hf:(W.filter λz=>!dead S z) with
   |nil=>
    rw[hf] at dJ;cases dJ
   |cons a L=>
    have hm:a∈W.filter λz=>!dead S z:=by rw[hf];simp
    cases a with
    |none=>
     have:=(List.mem_filter.mp hm).2;cases this
    |some f7=>
     have XW:=ajw h.wp h.o8.fU h.o8.zn hf (Fv _ (List.mem_filter.mp hm).1 f7 rfl).1 (aD:=aD);have t:aZ (aS tB [(ao 5),(ao 15),(ao 14),(ao 4),(ao 11),(ao 16),(ao 17)]) [some (.U iy),some (.U (aQ.b_ R os)),some (.U h3),some (.U iz),some (.U (.int p.bq)),some (.U (.tuple (p.bZ.map et))),some (.U (cR p)),some (.U (.list (S.map .str))),some (.U iA),some (.U (dz c)),some (.U (.int x)),some (.U (.int aD)),some (.own acc),some (.U (aQ.wT w)),some (.U (.list (W.map aQ.cJ))),some (.U (.list ((some f7::L).map aQ.cJ))),some (.U (ea (go p S aD none W 0))),some (.U (ea (go p S (aD+9) none W 0)))]=some true:=kx (mM rfl XW);unfold ft;rw[t];rfl
 have fin:∀ks:List T,iff (aZ (af fa (aS fL [(aS qs [(ao 1),(ao 13),(ao 11)])]) (af b4 (af dn (aa (.int 2)) (aS fL [(nm 13)])) (af dn (aa (.int 2)) (aS fL [(comp 1 [] (cQ (ao 14)) (bA 0) (aZ (cn dx (nm 0))) (ao 0))]))))) (bN (aa (.bool false))) skip (V iy h3 iz iA p R os S c x aD ks (some (.U (aQ.wT w))) (some (.U (.list (W.map aQ.cJ)))) (some (.U (.list ((W.filter λz=>!dead S z).map aQ.cJ)))) (some (.U (ea (go p S aD none W 0)))) (some (.U (ea (go p S (aD+9) none W 0)))))=some (.bR (V iy h3 iz iA p R os S c x aD ks (some (.U (aQ.wT w))) (some (.U (.list (W.map aQ.cJ)))) (some (.U (.list ((W.filter λz=>!dead S z).map aQ.cJ)))) (some (.U (ea (go p S aD none W 0)))) (some (.U (ea (go p S (aD+9) none W 0)))))):=λks=>by
  have wk:=agE (R:=R) (aD:=aD) ay (by omega);have bX:aS fL [(aS qs [(ao 1),(ao 13),(ao 11)])] (V iy h3 iz iA p R os S c x aD ks (some (.U (aQ.wT w))) (some (.U (.list (W.map aQ.cJ)))) (some (.U (.list ((W.filter λz=>!dead S z).map aQ.cJ)))) (some (.U (ea (go p S aD none W 0)))) (some (.U (ea (go p S (aD+9) none W 0)))))=some (.int ((2*w.length+2*(W.filter (·.isSome)).length:Nat):Int)):=by
   refine mM (xs:=[.tuple ((oh os w aD).map dG)]) ?_ ?_
   ·simp only[V,args,aS,ao,iq,hZ,cp,d4,wk]
   ·show some (PyData.int ((oh os w aD).map dG).length)=_
    rw[eb,Ro,qV]
  have bY:aS fL [(nm 13)] (V iy h3 iz iA p R os S c x aD ks (some (.U (aQ.wT w))) (some (.U (.list (W.map aQ.cJ)))) (some (.U (.list ((W.filter λz=>!dead S z).map aQ.cJ)))) (some (.U (ea (go p S aD none W 0)))) (some (.U (ea (go p S (aD+9) none W 0)))))=some (.int (w.length:Nat)):=by
   refine mM (xs:=[aQ.wT w]) rfl ?_
   show some (PyData.int (w.map λ(k:Nat)=>PyData.int (k:Int)).length)=_
   rw[eb]
  have uF:aS fL [(comp 1 [] (cQ (ao 14)) (bA 0) (aZ (cn dx (nm 0))) (ao 0))] (V iy h3 iz iA p R os S c x aD ks (some (.U (aQ.wT w))) (some (.U (.list (W.map aQ.cJ)))) (some (.U (.list ((W.filter λz=>!dead S z).map aQ.cJ)))) (some (.U (ea (go p S aD none W 0)))) (some (.U (ea (go p S (aD+9) none W 0)))))=some (.int ((W.filter (·.isSome)).length:Nat)):=by
   have iZ:comp 1 [] (cQ (ao 14)) (bA 0) (aZ (cn dx (nm 0))) (ao 0) (V iy h3 iz iA p R os S c x aD ks (some (.U (aQ.wT w))) (some (.U (.list (W.map aQ.cJ)))) (some (.U (.list ((W.filter λz=>!dead S z).map aQ.cJ)))) (some (.U (ea (go p S aD none W 0)))) (some (.U (ea (go p S (aD+9) none W 0)))))=some (.list ((W.filter (·.isSome)).map aQ.cJ)):=by
    refine uq (δ:=[none]) (ts:=W.map aQ.cJ) rfl (by rw[eb,Nd];omega) rfl ?_
    exact qC (cc:=aZ (cn dx (nm 0))) (hB:=ao 0) (caps:=[]) aQ.cJ (·.isSome) aQ.cJ W none λz hz=>⟨by cases z <;> rfl,λ_=>rfl⟩
   refine mM (xs:=[.list ((W.filter (·.isSome)).map aQ.cJ)]) (by simp only[args,iZ,cp,d4]) ?_
   show some (PyData.int ((W.filter (·.isSome)).map aQ.cJ).length)=_
   rw[eb]
  have uS:(W.filter (·.isSome)).length<=20:=hi (amq _ _) (by omega);generalize (W.filter (·.isSome)).length=eH at bX uF uS;generalize w.length=dX at bX bY hw;have iI:dn (.int 2) (.int (dX:Int))=some (.int (2*(dX:Int))):=ki ⟨by omega,by omega⟩;have iJ:dn (.int 2) (.int (eH:Int))=some (.int (2*(eH:Int))):=ki ⟨by omega,by omega⟩;have e:=kx (ez bX (ez (ez (f:=aa (.int 2)) rfl bY iI) (ez (f:=aa (.int 2)) rfl uF iJ) (jP (i:=2*(dX:Int)) (j:=2*(eH:Int)))) ((KR _ _).trans (congrArg (λb=>some (PyData.bool b)) (show (!decide (((2*dX+2*eH:Nat):Int)=2*(dX:Int)+2*(eH:Int)))=false by
   rw[decide_eq_true (by omega)];rfl))))
  rw[iff_eq e];rfl
 show seq _ _ (V iy h3 iz iA p R os S c x aD acc (some (.U (aQ.wT w))) (some (.U (.list (W.map aQ.cJ)))) (some (.U (.list ((W.filter λz=>!dead S z).map aQ.cJ)))) (some (.U (ea (go p S aD none W 0)))) (some (.U (ea (go p S (aD+9) none W 0)))))=_
 refine qq ?_ (fin _)
 cases bx:go p S aD none W 0 with
|none=>
  have V6:acc.length<big:=by unfold big;omega
  refine (iff_eq (b:=true) rfl).trans ?_
  rw[if_pos rfl];unfold app;show (Option.bind (some (aQ.wT w)) λt=>if acc.length<big then some (Out.bR _) else none)=_;rw[cp,if_pos V6];rfl
|some q=>rfl
end
section
variable {iy h3 iz iA:T}{p:a7}{R:Int}{os:List Op}{S:List Str}{c:aN}{x aD:Int}
theorem RW(h:yU p os S c aD):∀(ws:List (List Nat)) (acc:List T) (sY n8 n9 n_ n':Option aR),(∀w∈ws,w.length<=20/\∀k∈w,k<os.length)->acc.length+ws.length<=1000->∃xt s7 s8 s9 s_,
  forL (bA 13) DZ (ws.map aQ.wT) (V iy h3 iz iA p R os S c x aD acc sY n8 n9 n_ n')=some (.bR (V iy h3 iz iA p R os S c x aD (acc++(ws.filter λw=>(fX p os aD c w 0).isNone).map aQ.wT) xt s7 s8 s9 s_))
| [],acc,sY,n8,n9,n_,n',_,_=>⟨sY,n8,n9,n_,n',by rw[List.filter_nil,kI,nh];rfl⟩
|w::ws,acc,sY,n8,n9,n_,n',hw,av=>by
  simp only[eJ] at av;obtain⟨ae,aj⟩:=hw w (by simp);obtain⟨a,b,d,e,st⟩:=aiI (iy:=iy) (h3:=h3) (iz:=iz) (iA:=iA) (R:=R) (x:=x) h ae aj acc (by omega) n8 n9 n_ n';have mQ:(if (fX p os aD c w 0).isNone then acc++[aQ.wT w] else acc).length+ws.length<=1000:=by
   split
   ·simp only[jI,eJ,ke];omega
   ·omega
  obtain⟨kr,nM,d',bg,E2,bc⟩:=RW h ws (if (fX p os aD c w 0).isNone then acc++[aQ.wT w] else acc) (some (.U (aQ.wT w))) a b d e (λy aV=>hw y (dq _ aV)) mQ;refine⟨kr,nM,d',bg,E2,?_⟩;have i5:bA 13 (aQ.wT w) (V iy h3 iz iA p R os S c x aD acc sY n8 n9 n_ n')=some (V iy h3 iz iA p R os S c x aD acc (some (.U (aQ.wT w))) n8 n9 n_ n'):=rfl;rw[cP,forL];simp only[i5,cp,st];rw[bc,List.filter_cons];cases (fX p os aD c w 0).isNone with
  |true=>simp only[if_true,cP,List.append_assoc,mn,pd]
  |false=>simp only[iO,if_false]
end
def fZ:gR:=⟨"5555","me",["set","shunt","unset"],0⟩
def cS(aH:List Str)(bq:Int):a7:=⟨aQ.names5.zip aH,[fZ],0,bq,30⟩
def rL:List Str:=["once","way","inner","way"]
structure l1(aH:List Str)(bq:Int):Prop where
 len:aH.length=5
 mem:∀y∈aH,y∈rL
 iZ:0<=bq
section
variable {aH:List Str}{bq:Int}
def names(h:l1 aH bq):(cS aH bq).bZ.map (·.1)=aQ.names5:=by
 show (aQ.names5.zip aH).map (·.1)=_
 exact List.map_fst_zip (by rw[h.len];decide)
def fU(h:l1 aH bq):(cS aH bq).bZ.length=5:=by
 show (aQ.names5.zip aH).length=5
 rw[List.length_zip,h.len];rfl
def ag0(h:l1 aH bq):∀z∈(cS aH bq).bZ,cF z.1/\cF z.2:=λz hz=>by
 have:=List.of_mem_zip (a:=z.1) (b:=z.2) hz;exact⟨vm (l:=aQ.names5) (hx:=this.1),vm (l:=rL) (hx:=h.mem _ this.2)⟩
def OY(h:l1 aH bq):Wp (cS aH bq):=⟨by simp[cS],by rw[names h];decide +kernel,by simp[cS],by
 have:=h.iZ;simp only[cS];omega⟩
def aeb(h:l1 aH bq):bj (cS aH bq) (js (cS aH bq)):=by
 refine⟨ag0 h,?_,by rw[fU h];decide,bJ "off",λz e=>(nomatch e),λe=>absurd e BD,?_,?_,?_,by simp[js],by simp[js]⟩
 ·intro k ay;have:k=fZ:=by simpa [cS] using ay
  subst this;exact⟨bJ "5555",bJ "me",λr au=>vm (l:=["set","shunt","unset"]) (hx:=au)⟩
 ·simp[js,al4]
 ·intro l av;obtain⟨z,_,rfl⟩:=dI.mp av;exact bJ "shut"
 ·simp[js,al4]
def Tu(h:l1 aH bq)(z:Str):kindOf (cS aH bq) z≠"day":=by
 unfold kindOf;cases a_:(cS aH bq).bZ.find? λy=>decide (y.1=z) with
|none=>decide +kernel
|some y=>
  have:=h.mem _ (List.of_mem_zip (a:=y.1) (b:=y.2) (List.mem_of_find?_eq_some a_)).2;simp only[rL,ct,lS,or_false] at this;show y.2≠"day";rcases this with e|e|e|e <;> rw[e] <;> decide +kernel
structure rT(aH:List Str)(bq:Int)(S:List Str)(c:aN):Prop where
 mo:c.mode="off"
 lo:c.locked=0
 p7:h4 (cS aH bq) S c
def aiH(c:aN):qx fZ c=false:=by simp[qx,fZ]
def Su(h:l1 aH bq){c:aN}(av:c.locked=0)(d:Str)(z:Option Str):d8 (cS aH bq) c (.code "5555" d z)=takeRight (cS aH bq) fZ d z {c with tries:=0}:=by
 have e:=afO (OY h) (k:=fZ) (by simp[cS]);have aL:codeOf (cS aH bq) "5555"=some fZ:=e;show code (cS aH bq) "5555" d z c=_;unfold code;rw[av,if_neg (by decide),aL];simp only[aiH,iO,if_false]
def ahO(h:l1 aH bq){S:List Str}{c:aN}(b:rT aH bq S c){z:Str}(hz:z∉S)(az:(S++[z]).Pairwise hW):rT aH bq (S++[z]) (d8 (cS aH bq) c (.code "5555" "shunt" (some z))):=by
 have aC:c.dp=S:=b.p7.m7;have aq:iY (cS aH bq) fZ "shunt" (some z) {c with tries:=0}=none:=by
  have u:kL (cS aH bq) "shunt" (some z) {c with tries:=0}=false:=by
   unfold kL;rw[if_neg vg,if_neg (by simp[b.mo]),if_pos rfl];simp only[Option.getD_some,decide_eq_false (Tu h z),Bool.false_or];rw[aC];exact decide_eq_false hz
  unfold iY;rw[if_neg PE,if_neg (by simp[fZ]),u,if_neg (by decide),if_neg λq=>xZ q.1]
 rw[Su h b.lo];unfold takeRight;rw[aq];show rT aH bq (S++[z]) (gc (cS aH bq) "me" "shunt" (some z) _);unfold gc;rw[if_neg xZ,if_neg vg,if_pos rfl];refine⟨b.mo,b.lo,⟨b.p7.bW,b.p7.ln,?_,b.p7.al⟩⟩;show jQ (c.dp++[z])=_;rw[aC];exact (Km (List.Perm.refl _) az).symm
theorem QG(h:l1 aH bq):∀(T S:List Str) (c:aN),rT aH bq S c->(S++T).Pairwise hW->(S++T).Nodup->rT aH bq (S++T) (run (cS aH bq) c (T.map λz=>.code "5555" "shunt" (some z)))
| [],S,c,b,_,_=>by
  rw[nh];exact b
|z::T,S,c,b,az,aX=>by
  have e:S++z::T=(S++[z])++T:=by simp
  rw[e] at az aX ⊢;have hz:z∉S:=λq=>by
   have:=(jH.mp (jH.mp aX).1).2.2 z q z (by simp);exact this rfl
  exact QG h T (S++[z]) _ (ahO h b hz (List.pairwise_append.mp az).1) az aX
def ajM(h:l1 aH bq){S:List Str}{c:aN}(b:rT aH bq S c):(d8 (cS aH bq) c (.code "5555" "set" none)).mode="on"/\h4 (cS aH bq) S (d8 (cS aH bq) c (.code "5555" "set" none)):=by
 rw[Su h b.lo,agL (c:={c with tries:=0}) ⟨b.mo,b.p7.bW,b.p7.ln⟩ (by simp[fZ])];refine⟨?_,b.p7.bW,b.p7.ln,b.p7.m7,rfl⟩;show (if (cS aH bq).leave<=0 then ("on":Str) else "leaving")="on";exact if_pos (show (cS aH bq).leave<=0 from Int.le_refl 0)
noncomputable def kY(S:List Str):List fV:=(S.map λz=>.code "5555" "shunt" (some z))++[.code "5555" "set" none]
def aky(h:l1 aH bq){S:List Str}(c9:∀z∈S,z∈aQ.names5):∀e∈kY S,lG (cS aH bq) e:=λe he=>by
 rcases gz.mp he with q|q
 ·obtain⟨z,hz,rfl⟩:=dI.mp q;exact⟨bJ "5555",.inr (.inr (.inl rfl)),λ_=>⟨z,rfl,by rw[names h];exact c9 z hz⟩⟩
 ·have:e=.code "5555" "set" none:=by simpa using q
  subst this;exact akm (bJ "5555") (.inl rfl)
def ahM(h:l1 aH bq){S:List Str}(c9:S.Sublist aQ.names5):(run (cS aH bq) (js (cS aH bq)) (kY S)).mode="on"/\h4 (cS aH bq) S (run (cS aH bq) (js (cS aH bq)) (kY S)):=by
 have yW:rT aH bq [] (js (cS aH bq)):=⟨rfl,rfl,RF _⟩;have az:aQ.names5.Pairwise hW:=P' (by decide +kernel);have aX:aQ.names5.Nodup:=by decide +kernel
 have b:=QG h S [] _ yW (az.sublist c9) (aX.sublist c9);unfold kY;rw[Qf];exact ajM h b
end
noncomputable def y6:bK:=af aP (bk [(aa (.str "once")),(aa (.str "way")),(aa (.str "inner")),(aa (.str "way"))]) (af oMod (af oDiv (nm 1) (af aP (bk [(aa (.int 8)),(aa (.int 32)),(aa (.int 128)),(aa (.int 512)),(aa (.int 2048))]) (nm 0))) (aa (.int 4)))
def ah9(n k:Int)(h0:0<=k)(gE:k<5):∃y∈rL,y6 [some (.U (.int k)),some (.U (.int n))]=some (.str y):=by
 obtain⟨d,hd,ax⟩:=z1 [8,32,128,512,2048] (j:=k) h0 (by simpa using gE);have sz:0<d/\d<1073741824:=by
  simp only[ct,lS,or_false] at hd;omega
 obtain⟨q,_,aL⟩:=divQ n d sz;obtain⟨r,_,n6,jh,e'⟩:=modQ q 4;obtain⟨y,aV,i1⟩:=z2 rL (j:=r) n6 (by show r<4;exact jh);refine⟨y,aV,?_⟩;have iI:bk [(aa (.int 8)),(aa (.int 32)),(aa (.int 128)),(aa (.int 512)),(aa (.int 2048))] [some (.U (.int k)),some (.U (.int n))]=some (.tuple (([8,32,128,512,2048]:List Int).map .int)):=by
  simp[bk,args,aa,big]
 have iJ:bk [(aa (.str "once")),(aa (.str "way")),(aa (.str "inner")),(aa (.str "way"))] [some (.U (.int k)),some (.U (.int n))]=some (.tuple (rL.map .str)):=by
  simp[bk,args,aa,big,rL]
 exact ez iJ (ez (ez rfl (ez iI rfl ax) aL) rfl e') i1
theorem Qm(n:Int):∀(is:List Int) (s0:Option aR),(∀k∈is,0<=k/\k<5)->∃aH:List Str,(∀y∈aH,y∈rL)/\aH.length=is.length/\gQ (bA 0) (di true) y6 (is.map .int) [s0,some (.U (.int n))]=some (aH.map .str)
| [],s0,_=>⟨[],(λ_ h=>nomatch h),rfl,rfl⟩
|k::is,s0,h=>by
  have ay:=h k (by simp);obtain⟨y,aV,e⟩:=ah9 n k ay.1 ay.2;obtain⟨aH,ae,aj,a8⟩:=Qm n is (some (.U (.int k))) λj a'=>h j (dq _ a');refine⟨y::aH,λz hz=>?_,by simp[aj],?_⟩
  ·rcases ct.mp hz with rfl|hz
   ·exact aV
   ·exact ae z hz
  ·rw[cP,gQ];simp only[bA,di,cp,f6,if_true,e,a8,d4,cP]
noncomputable def LV:fP:=aZ (af oEq (af oMod (af oDiv (nm 2) (af aP (bk [(aa (.int 16384)),(aa (.int 65536)),(aa (.int 262144)),(aa (.int 1048576)),(aa (.int 4194304))]) (nm 0))) (aa (.int 4))) (aa (.int 0)))
def ag2(n k:Int)(t:T)(h0:0<=k)(gE:k<5):∃b,LV [some (.U (.int k)),some (.U t),some (.U (.int n))]=some b:=by
 obtain⟨d,hd,ax⟩:=z1 [16384,65536,262144,1048576,4194304] (j:=k) h0 (by simpa using gE);have sz:0<d/\d<1073741824:=by
  simp only[ct,lS,or_false] at hd;omega
 obtain⟨q,_,aL⟩:=divQ n d sz;obtain⟨r,_,n6,jh,e'⟩:=modQ q 4;have iI:bk [(aa (.int 16384)),(aa (.int 65536)),(aa (.int 262144)),(aa (.int 1048576)),(aa (.int 4194304))] [some (.U (.int k)),some (.U t),some (.U (.int n))]=some (.tuple (([16384,65536,262144,1048576,4194304]:List Int).map .int)):=by
  simp[bk,args,aa,big]
 exact⟨_,kx (ez (ez (ez rfl (ez iI rfl ax) aL) rfl e') rfl (al' _ _))⟩
theorem PQ(n:Int):∀(zs:List ((Str×Str)×Nat)) (s0 s1:Option aR),(∀z∈zs,z.2<5)->∃S:List Str,S.Sublist (zs.map (·.1.1))/\gQ (dV [(bA 0),(bA 1)]) LV (af aP (nm 1) (aa (.int 0))) (zs.map λz=>.tuple [.int (z.2:Int),et z.1]) [s0,s1,some (.U (.int n))]=some (S.map .str)
| [],s0,s1,_=>⟨[],List.Sublist.slnil,rfl⟩
|z::zs,s0,s1,h=>by
  obtain⟨b,e⟩:=ag2 n (z.2:Int) (et z.1) (by omega) (by have:=h z (by simp);omega);obtain⟨S,ae,aj⟩:=PQ n zs (some (.U (.int (z.2:Int)))) (some (.U (et z.1))) λy aV=>h y (dq _ aV);have cx:af aP (nm 1) (aa (.int 0)) [some (.U (.int (z.2:Int))),some (.U (et z.1)),some (.U (.int n))]=some (.str z.1.1):=ez rfl rfl (yD z.1);cases b with
  |true=>
   refine⟨z.1.1::S,ae.cons_cons z.1.1,?_⟩
   rw[cP,gQ];simp only[dV,fG,bA,cp,f6,gO,e,if_true,cx,aj,d4,cP]
  |false=>
   refine⟨S,ae.cons _,?_⟩
   rw[cP,gQ];simp only[dV,fG,bA,cp,f6,gO,e,iO,if_false,aj]
def acu:lK 0 5=([0,1,2,3,4]:List Int).map .int:=by simp[lK,List.range_succ]
theorem Qy:∀(xs ys:List Str),((xs.map kc).zip (ys.map kc)).map (λp=>PyData.tuple [p.1,p.2])=(xs.zip ys).map et
| [],ys=>rfl
|x::xs,[]=>rfl
|x::xs,y::ys=>by
  simp only[cP,pb,Qy xs ys];rfl
theorem B':∀(S:List Str) (s0:Option aR),gQ (bA 0) (di true) (bk [(aa (.str "code")),(aa (.str "5555")),(aa (.str "shunt")),(ao 0)]) (S.map .str) [s0]=some ((S.map λz=>fV.code "5555" "shunt" (some z)).map dG)
| [],s0=>rfl
|z::S,s0=>by
  have e:bk [(aa (.str "code")),(aa (.str "5555")),(aa (.str "shunt")),(ao 0)] [some (.U (.str z))]=some (dG (.code "5555" "shunt" (some z))):=by
   simp[bk,args,aa,ao,big,dG,gK]
  rw[cP,gQ];simp only[bA,di,cp,f6,if_true,e,B' S,d4,cP]
def akk{zs:List Str}(h:∀z∈zs,cF z):okN 1 (.list (zs.map .str)):=Kp (d:=0) λx hx=>by
 obtain⟨z,hz,rfl⟩:=dI.mp hx;exact Sh 0 (h z hz)
def akj(l:List (List Nat)):eV (.list (l.map aQ.wT))=true:=by
 refine (Kp (d:=1) λt bo=>?_).eV
 obtain⟨w,_,rfl⟩:=dI.mp bo;exact ag3 (d:=0) λu bH=>by
  obtain⟨k,_,rfl⟩:=dI.mp bH;exact ajf 0 _
def ail(ns:List Int)(h:ns.length<=63):tZ [ef ns]=some (.bool true):=by
 obtain⟨m0,YO,x0⟩:=Cd ns 0;obtain⟨n,aX,aU⟩:=Cd ns 1;obtain⟨iJ,uz,bQ⟩:=Cd ns 2;obtain⟨R,os,d,O2⟩:=aQ.YZ m0 YO;rw[<- agh] at O2;have aed:kg [ef ns,.int 0]=some (.int m0):=x0;have aee:kg [ef ns,.int 1]=some (.int n):=aU;have OZ:kg [ef ns,.int 2]=some (.int iJ):=bQ;have fK:=d.bC;have alv:=d.oZ;obtain⟨aH,FV,FW,tg⟩:=Qm n [0,1,2,3,4] none (by decide);obtain⟨iK,_,acj,ack,I3⟩:=modQ n 3;obtain⟨bq,Yw,yc⟩:=z1 [0,6,40] (j:=iK) acj (by show iK<3;exact ack);have eG:l1 aH bq:=⟨FW,FV,by
  simp only[ct,lS,or_false] at Yw;omega⟩
 have Oc:=names eG;obtain⟨S,c9,xs⟩:=PQ n ((cS aH bq).bZ.zipIdx) none none λz hz=>by
  have:=List.snd_lt_of_mem_zipIdx hz;rw[fU eG] at this;omega
 have zD:S.Sublist aQ.names5:=by
  rw[<- Oc];have e:((cS aH bq).bZ.zipIdx).map (·.1.1)=(cS aH bq).bZ.map (·.1):=by
   have ax:((cS aH bq).bZ.zipIdx).map (·.1.1)=(((cS aH bq).bZ.zipIdx).map Prod.fst).map (·.1):=by
    rw[k'];rfl
   rw[ax,List.zipIdx_map_fst]
  rw[<- e];exact c9
 have S5:S.length<=5:=zD.length_le;have Ii:∀y∈S,cF y:=λy aV=>vm (l:=aQ.names5) (hx:=zD.subset aV);have wp:=OY eG;have xA:=aeb eG;have es:=aky eG (S:=S) λz hz=>zD.subset hz;have dQ:=RT (cS aH bq) (by rw[fU eG];decide) wp;have rk:=RX (cS aH bq) (js (cS aH bq)) (kY S) xA wp es (by simp[kY];omega);have XU:fresh (js (cS aH bq))=js (cS aH bq):=rfl;have o8:=xA.run es;have lM:=ahM eG zD;rw[XU] at rk;generalize run (cS aH bq) (js (cS aH bq)) (kY S)=c at rk o8 lM;obtain⟨m5,_,alT,alU,yr⟩:=modQ iJ R (by omega);obtain⟨xf,_,y8⟩:=divQ iJ 8;obtain⟨hI,_,alV,alW,yp⟩:=modQ xf 30;have gM:yU (cS aH bq) os S c (1+hI):=⟨wp,xA,o8,lM.2,lM.1,λo aE y e=>⟨by rw[Oc];exact (d.ok o aE).2.2.2 y e,Tu eG y⟩,by omega,Ii⟩;obtain⟨ws,k5,nc,_⟩:=aQ.aea d (1+m5);have un:=aQ.ad7 d (ns:=S) Ii;obtain⟨_,F1,_,_⟩:=aQ.Oy (aQ.OW d S) (by omega) d.oZ;rw[<- agD] at nc;rw[<- afl] at un;have wf:ws.length<=36:=c2.ad_ (nJ._z d) (by simpa using d.len) k5;have OX:=aQ.OU _ _ _ k5;have ay:∀w∈ws,∀k∈w,k<os.length:=λw hw k ay=>by
  obtain⟨q,hf,_⟩:=(c2.I0 k5 w).mp hw;simpa using nJ.zA hf k ay
 obtain⟨xt,s7,s8,s9,s_,uZ⟩:=RW (iy:=ef ns) (h3:=.int n) (iz:=.tuple (aH.map .str)) (iA:=.tuple ((kY S).map dG)) (R:=R) (x:=1+m5) gM ws [] none none none none none (λw hw=>⟨OX w hw,ay w hw⟩) (by simp;omega);rw[pd] at uZ;have hz:ame (cS aH bq) os:=λo aE y e=>(gM.t2 o aE y e).1;have bx:∀w∈ws,jJ [cR (cS aH bq),aQ.b_ R os,dz c,aQ.wT w,.int (1+hI)]=some (ea (fX (cS aH bq) os (1+hI) c w 0)):=λw hw=>B4 wp (R:=R) hz gM.pc o8 (ay w hw);suffices aC:yH [some (.U (ef ns)),none,none,none,none,none,none,none,none,none,none,none,none,none,none,none,none,none]=some (.dB (.bool true)) by
  unfold tZ cV;simp only[cP,kI,eJ,ke,mn,pd];exact congrArg (λo=>Option.bind o _) aC
 unfold yH;refine jq (t:=aQ.b_ R os) (by simp only[aS,args,ao,aa,hZ,cp,d4,aed,O2]) ?_;simp only[gO,f6];refine jq (t:=.int n) (by simp only[aS,args,ao,aa,hZ,cp,d4,aee]) ?_;simp only[gO,f6];refine jq (t:=.tuple (aH.map .str)) (mM (xs:=[.list (aH.map .str)]) ?_ rfl) ?_
 ·have wV:kj (aa (.int 5)) [some (.U (ef ns)),some (.U (aQ.b_ R os)),some (.U (.int n)),none,none,none,none,none,none,none,none,none,none,none,none,none,none,none]=some (([0,1,2,3,4]:List Int).map .int):=by
   rw[S6 (f:=aa (.int 5)) (j:=5) rfl (by decide) (by decide),acu]
  have:=uq (own:=1) (caps:=[2]) (g:=bA 0) (c:=di true) (e:=y6) wV (by simp) (show fN 1 [2] [some (.U (ef ns)),some (.U (aQ.b_ R os)),some (.U (.int n)),none,none,none,none,none,none,none,none,none,none,none,none,none,none,none]=[none,some (.U (.int n))] from rfl) tg;unfold y6 at this;simp only[args,this,cp,d4]
 simp only[gO,f6];refine jq (t:=.int bq) (ez (x:=.tuple (([0,6,40]:List Int).map .int)) (by simp[bk,args,aa,big]) (ez rfl rfl I3) yc) ?_;simp only[gO,f6];refine jq (t:=.tuple ((cS aH bq).bZ.map et)) (ez (x:=.tuple (aQ.names5.map .str)) (y:=.tuple (aH.map .str)) (by simp[bk,args,aa,big,aQ.names5]) rfl ?_) ?_
 ·unfold Cu;dsimp only;rw[if_pos (by rw[List.length_zip,eb,eb,eG.len];decide),Qy];rfl
 simp only[gO,f6];refine jq (t:=cR (cS aH bq)) (by simp[bk,args,aa,ao,big,cR,cS,fZ,fm]) ?_;simp only[gO,f6];refine jq (t:=.list (S.map .str)) ?_ ?_
 ·refine uq (δ:=[none,none,some (.U (.int n))]) (ts:=(cS aH bq).bZ.zipIdx.map λ(z:(Str×Str)×Nat)=>PyData.tuple [PyData.int (z.2:Int),et z.1]) ?_ (by rw[eb,List.length_zipIdx,fU eG];decide) rfl xs
  show some (enum ((cS aH bq).bZ.map et))=_
  unfold enum;rw[List.zipIdx_map,k'];rfl
 simp only[gO,f6];refine jq (t:=.tuple ((kY S).map dG)) (ez (x:=.tuple ((S.map λz=>fV.code "5555" "shunt" (some z)).map dG)) (y:=.tuple [dG (.code "5555" "set" none)]) (mM (xs:=[.list ((S.map λz=>fV.code "5555" "shunt" (some z)).map dG)]) ?_ rfl) ?_ ?_) ?_
 ·have:=λ(ε:Ev) (qQ:ao 7 ε=some (.list (S.map .str)))=>uq (own:=1) (caps:=[]) (g:=bA 0) (c:=di true) (e:=bk [(aa (.str "code")),(aa (.str "5555")),(aa (.str "shunt")),(ao 0)]) (it:=cQ (ao 7)) (ε:=ε) (ts:=S.map .str) (by simp only[cQ,qQ,cp]) (by rw[eb];omega) (show fN 1 [] ε=[none] from rfl) (B' S none);have sb:∀ε:Ev,ao 7 ε=some (.list (S.map .str))->args [(comp 1 [] (cQ (ao 7)) (bA 0) (di true) (bk [(aa (.str "code")),(aa (.str "5555")),(aa (.str "shunt")),(ao 0)]))] ε=some [.list ((S.map λz=>fV.code "5555" "shunt" (some z)).map dG)]:=λε e=>by
   simp only[args,this ε e,cp,d4]
  exact sb _ rfl
 ·simp[bk,args,aa,big,dG,gK]
 ·show b4 (.tuple _) (.tuple _)=_
  simp[b4,kY,big];omega
 simp only[gO,f6];refine jq (t:=dz c) (by simp only[aS,args,ao,aa,iq,hZ,cp,d4,dQ,rk]) ?_;simp only[gO,f6];have z0:aP (dz c) (.int 0)=some (.str c.mode):=by simp[aP,ei,eL,dz]
 have NY:aP (dz c) (.int 4)=some (.tuple (c.dp.map .str)):=by simp[aP,ei,eL,dz]
 rw[lM.1] at z0;rw[lM.2.m7] at NY;refine yh (CU (x:=false) (y:=false) (kx (ez (ez rfl rfl z0) rfl ((nu (bJ "on") (bJ "on")).trans (by simp)))) (kx (ez (mM (xs:=[.tuple (S.map .str)]) ?_ rfl) rfl (aib (akk Ii))))) ?_
 ·have Zm:∀ε:Ev,nm 9 ε=some (dz c)->af aP (nm 9) (aa (.int 4)) ε=some (.tuple (S.map .str)):=λε e=>ez e rfl NY;have fW:∀ε:Ev,nm 9 ε=some (dz c)->args [(af aP (nm 9) (aa (.int 4)))] ε=some [.tuple (S.map .str)]:=λε e=>by
   simp only[args,Zm ε e,cp,d4]
  exact fW _ rfl
 have h0:=alb R os;refine jq (t:=.int (1+m5)) (by simp only[af,aS,args,nm,ao,aa,iq,hZ,cp,d4,OZ,h0,yr,jP]) ?_;simp only[gO,f6];refine jq (t:=.int (1+hI)) (by simp only[af,aS,args,nm,ao,aa,iq,hZ,cp,d4,OZ,y8,yp,jP]) ?_;simp only[gO,f6];refine qq (ε':=V (ef ns) (.int n) (.tuple (aH.map .str)) (.tuple ((kY S).map dG)) (cS aH bq) R os S c (1+m5) (1+hI) [] none none none none none) rfl ?_;have it:cQ (aS i0 [(ao 1),(ao 10)]) (V (ef ns) (.int n) (.tuple (aH.map .str)) (.tuple ((kY S).map dG)) (cS aH bq) R os S c (1+m5) (1+hI) [] none none none none none)=some (ws.map aQ.wT):=by
  simp only[V,cQ,aS,args,ao,iq,hZ,cp,d4,nc]
 refine qq (ε':=V (ef ns) (.int n) (.tuple (aH.map .str)) (.tuple ((kY S).map dG)) (cS aH bq) R os S c (1+m5) (1+hI) ((ws.filter λw=>(fX (cS aH bq) os (1+hI) c w 0).isNone).map aQ.wT) xt s7 s8 s9 s_) (by
  unfold eT;rw[it];exact uZ) ?_
 have adZ:aZ (af (eB false) (nm 10) (aS oK [(ao 1),(aS gq [(nm 7)])])) (V (ef ns) (.int n) (.tuple (aH.map .str)) (.tuple ((kY S).map dG)) (cS aH bq) R os S c (1+m5) (1+hI) ((ws.filter λw=>(fX (cS aH bq) os (1+hI) c w 0).isNone).map aQ.wT) xt s7 s8 s9 s_)=some (decide (1+m5∈aQ.qc (aQ.uv S os))):=by
  refine kx (ez (x:=.int (1+m5)) rfl (mM (xs:=[aQ.b_ R os,.tuple (S.map .str)]) ?_ un) ?_)
  ·rfl
  ·rw[KU];rfl
 refine qq (ε':=V (ef ns) (.int n) (.tuple (aH.map .str)) (.tuple ((kY S).map dG)) (cS aH bq) R os S c (1+m5) (1+hI) ((ws.filter λw=>(fX (cS aH bq) os (1+hI) c w 0).isNone).map aQ.wT) xt s7 s8 s9 s_) ?_ rfl
 rw[iff_eq adZ];by_cases bH:1+m5∈aQ.qc (aQ.uv S os)
 ·rw[decide_eq_true bH,if_pos rfl];have XZ:=(ais k5).mp ((F1 _).mp bH);obtain⟨w,hw,wA⟩:=List.any_eq_true.mp XZ;have YU:fX (cS aH bq) os (1+hI) c w 0=none:=by
   rw[CK gM.pc gM.t2 w c none 0 gM.GL gM.mo];refine S_ λz hz=>?_;obtain⟨k,wI,rfl⟩:=dI.mp hz;rw[<- aja];exact List.all_eq_true.mp wA k wI
  have n1:w∈ws.filter λw=>(fX (cS aH bq) os (1+hI) c w 0).isNone:=List.mem_filter.mpr ⟨hw,by rw[YU];rfl⟩;cases qX:(ws.filter λw=>(fX (cS aH bq) os (1+hI) c w 0).isNone) with
  |nil=>
   rw[qX] at n1;cases n1
  |cons f fr=>
   cases q3:ws with
   |nil=>
    rw[q3] at hw;cases hw
   |cons b tf=>
    have Fn:∀w q,(λw=>if w∈ws then fX (cS aH bq) os (1+hI) c w 0 else none) w=some q->q<99:=λw q e=>by
     dsimp only at e;split at e
     ·rename_i mV
      have:=Tc (cS aH bq) os (1+hI) w c 0 q e;have:=OX w mV;omega
     ·cases e
    have OE:=kS.acA (p:=cS aH bq) (c:=c) (aD:=1+hI) (g:=λw=>if w∈ws then fX (cS aH bq) os (1+hI) c w 0 else none) (by rw[<- q3];exact nc) λw mV=>⟨by
     rw[if_pos (by rw[q3];exact mV)];exact bx w (by rw[q3];exact mV),λq e=>Fn w q e⟩
    have YR:kS.mZ (λw=>if w∈ws then fX (cS aH bq) os (1+hI) c w 0 else none) b tf=f:=by
     have ab:b∈ws:=by rw[q3];simp
     have oS:(b::tf).filter (λw=>((λw=>if w∈ws then fX (cS aH bq) os (1+hI) c w 0 else none) w).isNone)=f::fr:=by
      rw[<- qX,<- q3];refine List.filter_congr λw mV=>?_;dsimp only;rw[if_pos mV]
     rw[List.filter_cons] at oS;cases a_:(λw=>if w∈ws then fX (cS aH bq) os (1+hI) c w 0 else none) b with
     |none=>
      rw[a_] at oS;simp only[Option.isNone_none,if_true,List.cons.injEq] at oS;rw[KW Fn tf b a_];exact oS.1
     |some q=>
      rw[a_] at oS;simp only[Option.isNone_some,iO,if_false] at oS;exact Kr Fn tf b (λz=>nomatch a_.symm.trans z) oS
    rw[YR] at OE;refine iff_eq (b:=false) (CU (x:=false) (y:=false) (kx (ez rfl rfl (eq_nil (akj (f::fr))))) (kx (ez (mM (xs:=[cR (cS aH bq),aQ.b_ R os,dz c,.int (1+m5),.int (1+hI)]) rfl OE) (ez (x:=.list ((f::fr).map aQ.wT)) (y:=.int 0) (t:=aQ.wT f) rfl rfl ?_) (nJ._I (nJ.abt f)))));simp[aP,ei,eL]
 ·rw[decide_eq_false bH];rfl
end nF
end
end
section
namespace nF
open PySem PySem.Spec PyProof.Rows bG D b5 oF t_
set_option hygiene false in
local macro_rules | `(unop% lk ($f, $hG, $e4, $n, $q, $s, $a, $b, $c, $d, $e, $g, $h)) => `(K.lookup $f = some ⟨$hG, $e4, .func (mj $n $q (oy $s) (hK $s) (cb $s) .none $a $b $c $d $e $g), $h⟩)
set_option hygiene false in
local macro_rules | `(binop% cd $c $q) => `(rl K $c $q = true)
set_option hygiene false in
local macro_rules | `(unop% aw $c) => `(nf K (.ref $c) = true)
set_option hygiene false in
local macro_rules | `(unop% hq $c) => `(PySem.W.isFn K (.ref $c) = true)
set_option hygiene false in
local macro_rules | `(binop% ns $q $c) => `(u0 K il $q = some (some (.ref $c)))
set_option hygiene false in
local macro_rules | `(unop% zn $q) => `(u0 K il $q = some none)
set_option hygiene false in
local macro_rules | `(unop% fn ($C, $q, $c)) => `(ng K (.ref $C) $q = some (some (.ref $c)))
set_option hygiene false in
local macro_rules | `(binop% l5 $C $q) => `(ng K (.ref $C) $q = some none)
local macro_rules | `(unop% mo $x) => `(($x).mono (by decide))
set_option hygiene false in
local macro_rules | `(unop% b' ($f $n $as*)) => `($f (P := l.prog) (w := w) (mg := mg) (base := base) (k := $n) $as*)
def all_mk{l:PySem.W.OpenLaw}{w:b8}{K:br}{h:bI}{mg:Str->Option ag}{cY bE f1 f2 hR f4 hE zv zw f8 zx y' za zb zc E3 zd ze zf zg zh zi zj amE zl zm zo E4 zp zq zr zt zu E5 E6 E7 E8 E9 E_ E' Fb Fc Fd Fe Ff Fg Fh Fi Fj Fl uc ub EK:ak}{aaH Vf aaS Vq aa3 VB abc VM abm VV abn VW abo VX abp VY abq VZ aaI Vg aaJ Vh aaK Vi aaL Vj aaM Vk aaN Vl aaO Vm aaP Vn aaQ Vo aaR Vp aaT Vr aaU Vs aaV Vt aaW Vu aaX Vv aaY Vw aaZ Vx aa0 Vy aa1 Vz aa2 VA aa4 VC aa5 VD aa6 VE aa7 VF aa8 VG aa9 VH aa_ VI aa' VJ aba VK abb VL abd VN abe VO abf VP abg VQ abh VR abi VS abj VT abk VU abl LQ:Option ak}{acD lL acY ac9 adj adk adl adm adn acE acF acG acH acI acJ acK acL acM acN acO acP acQ acR acS acT acU acV acW acX acZ ac0 ac1 ac2 ac3 ac4 ac5 ac6 ac7 ac8 ac_ ac' ada adb ade adf adg adh adi adp ado:Array (Option ag)}{_L Zw W0 abw LX Wb _W ZI Xa abH L8 Wm aah ZT Xl abS Mh Wy aas Z4 Xw ab3 Ms WK aaC _b XF aca MA WU aaD _c XG acb MB WV aaE _d XH acd MC WW aaF _e XI ace MD WX aaG _g XJ acf ME WY _M Zx W2 abx LY Wc _N Zy W3 aby LZ Wd _O Zz W4 abz L0 We _P ZA W5 abA L1 Wf _Q ZC W6 abB L2 Wg _R ZD W7 abC L3 Wh _S ZE W8 abD L4 Wi _T ZF W9 abE L5 Wj _U ZG W_ abF L6 Wk _V ZH W' abG L7 Wl _X ZJ Xb abI L9 Wn _Y ZK Xc abJ L_ Wo _Z ZL Xd abK L' Wq aaa ZM Xe abL Ma Wr aab ZN Xf abM Mb Ws aac ZO Xg abN Mc Wt aad ZP Xh abO Md Wu aae ZQ Xi abP Me Wv aaf ZR Xj abQ Mf Ww aag ZS Xk abR Mg Wx aai ZU Xm abT Mi Wz aaj ZV Xn abU Mj WA aak ZW Xo abV Mk WB aal ZX Xp abW Ml WC aam ZY Xq abX Mm WD aan ZZ Xr abY Mn WE aao Z0 Xs abZ Mo WG aap Z1 Xt ab0 Mp WH aaq Z2 Xu ab1 Mq WI aar Z3 Xv ab2 Mr WJ aat Z5 Xx ab4 Mt WL aau Z6 Xy ab5 Mu WM aav Z7 Xz ab6 Mv WN aaw Z8 XA ab7 Mw WO aax Z9 XB ab8 Mx WQ aay Z_ XC ab9 My WR aaz Z' XD ab_ Mz WS aaA _a XE ab' WT aaB N3 ML Oo EM MJ:ag}{IT IQ adR adS adO adP xw IS:Tok}{_x _w:Nat}(X:K.In h)(G:h.Ns il mg)(YF:mg "law"=some (.ref cY))(DX:binop%ns "Course" bE)(Ip:PySem.W.plainGet K bE Str.empty=true)(FG:PySem.W.hasDictIn K bE=true)(Iq:PySem.W.plainOver K bE=true)(IG:ng K (.ref bE) "__setattr__"=some (some (.builtin "object.__setattr__")))(HT:PySem.W.makesIn K bE=true)(G8:unop%aw bE)(HX:binop%l5 bE "plan")(HY:binop%l5 bE "mode")(H3:binop%l5 bE "left")(H4:binop%l5 bE "came")(H5:binop%l5 bE "lines")(H6:binop%l5 bE "shunts")(H7:binop%l5 bE "siren")(H8:binop%l5 bE "alarms")(H9:binop%l5 bE "tries")(H_:binop%l5 bE "locked")(HZ:binop%l5 bE "used")(H0:binop%l5 bE "past")(H2:binop%l5 bE "told")(a1:binop%ns "_law_drawn" f1)(bX:unop%lk (f1,_L,aaH,"_law_drawn","_law_drawn",BW,Zw,W0,abw,Vf,LX,Wb,acD))(c1:binop%cd LX "_law_drawn")(gI:unop%aw f1)(a2:binop%ns "_law_house" f2)(bY:unop%lk (f2,_W,aaS,"_law_house","_law_house",BV,ZI,Xa,abH,Vq,L8,Wm,lL))(dh:binop%cd L8 "_law_house")(eu:unop%aw f2)(eE:binop%ns "_law_cell_at" hR)(uF:unop%lk (hR,aah,aa3,"_law_cell_at","_law_cell_at",BH,ZT,Xl,abS,VB,Mh,Wy,acY))(fe:binop%cd Mh "_law_cell_at")(p8:unop%aw hR)(fW:binop%ns "_law_mixed" f4)(HC:unop%lk (f4,aas,abc,"_law_mixed","_law_mixed",BU,Z4,Xw,ab3,VM,Ms,WK,ac9))(c4:binop%cd Ms "_law_mixed")(jd:unop%aw f4)(h6:unop%fn (bE,"state",hE))(wV:unop%hq hE)(HL:unop%lk (hE,aaC,abm,"state","Course.state",Bw,_b,XF,aca,VV,MA,WU,adj))(h7:binop%cd MA "Course.state")(Ap:unop%aw hE)(jW:unop%fn (bE,"__init__",zv))(GD:unop%hq zv)(HM:unop%lk (zv,aaD,abn,"__init__","Course.__init__",vc,_c,XG,acb,VW,MB,WV,adk))(EF:binop%cd MB "Course.__init__")(G6:unop%aw zv)(sb:unop%fn (bE,"tell",zw))(GF:unop%hq zw)(HN:unop%lk (zw,aaE,abo,"tell","Course.tell",Bz,_d,XH,acd,VX,MC,WW,adl))(EG:binop%cd MC "Course.tell")(Aq:unop%aw zw)(DV:binop%ns "kind_of" f8)(Av:unop%lk (f8,aaF,abp,"kind_of","kind_of",BX,_e,XI,ace,VY,MD,WX,adm))(EH:binop%cd MD "kind_of")(G7:unop%aw f8)(DW:unop%fn (bE,"be_loud",zx))(GG:unop%hq zx)(HO:unop%lk (zx,aaG,abq,"be_loud","Course.be_loud",Bq,_g,XJ,acf,VZ,ME,WY,adn))(EI:binop%cd ME "Course.be_loud")(Ar:unop%aw zx)(Dh:unop%fn (bE,"alarm",y'))(Gi:unop%hq y')(G_:unop%lk (y',_M,aaI,"alarm","Course.alarm",Bx,Zx,W2,abx,Vg,LY,Wc,acE))(D3:binop%cd LY "Course.alarm")(z6:unop%aw y')(Di:unop%fn (bE,"come_in",za))(Gj:unop%hq za)(G':unop%lk (za,_N,aaJ,"come_in","Course.come_in",Bp,Zy,W3,aby,Vh,LZ,Wd,acF))(D4:binop%cd LZ "Course.come_in")(z7:unop%aw za)(Dj:unop%fn (bE,"disturb",zb))(i12:unop%hq zb)(Ha:unop%lk (zb,_O,aaK,"disturb","Course.disturb",Bo,Zz,W4,abz,Vi,L0,We,acG))(D5:binop%cd L0 "Course.disturb")(z8:unop%aw zb)(Dk:unop%fn (bE,"line",zc))(Gk:unop%hq zc)(Hb:unop%lk (zc,_P,aaL,"line","Course.line",BA,ZA,W5,abA,Vj,L1,Wf,acH))(D6:binop%cd L1 "Course.line")(z9:unop%aw zc)(Dl:binop%ns "code_of" E3)(Hc:unop%lk (E3,_Q,aaM,"code_of","code_of",BY,ZC,W6,abB,Vk,L2,Wg,acI))(D7:binop%cd L2 "code_of")(GN:unop%aw E3)(Dm:unop%fn (bE,"is_used_up",zd))(Gl:unop%hq zd)(Hd:unop%lk (zd,_R,aaN,"is_used_up","Course.is_used_up",Bi,ZD,W7,abC,Vl,L3,Wh,acJ))(D8:binop%cd L3 "Course.is_used_up")(z_:unop%aw zd)(Dn:unop%fn (bE,"take_wrong",ze))(Gm:unop%hq ze)(He:unop%lk (ze,_S,aaO,"take_wrong","Course.take_wrong",Bg,ZE,W8,abD,Vm,L4,Wi,acK))(D9:binop%cd L4 "Course.take_wrong")(z':unop%aw ze)(Dp:unop%fn (bE,"is_untimely",zf))(Gn:unop%hq zf)(Hf:unop%lk (zf,_T,aaP,"is_untimely","Course.is_untimely",Be,ZF,W9,abE,Vn,L5,Wj,acL))(D_:binop%cd L5 "Course.is_untimely")(Aa:unop%aw zf)(Dq:unop%fn (bE,"bare_zones",zg))(Gp:unop%hq zg)(Hg:unop%lk (zg,_U,aaQ,"bare_zones","Course.bare_zones",u_,ZG,W_,abF,Vo,L6,Wk,acM))(D':binop%cd L6 "Course.bare_zones")(Ab:unop%aw zg)(Dr:unop%fn (bE,"what_is_against",zh))(Gq:unop%hq zh)(Hh:unop%lk (zh,_V,aaR,"what_is_against","Course.what_is_against",Bd,ZH,W',abG,Vp,L7,Wl,acN))(Ea:binop%cd L7 "Course.what_is_against")(Ac:unop%aw zh)(Ds:unop%fn (bE,"end_leaving",zi))(Gr:unop%hq zi)(Hi:unop%lk (zi,_X,aaT,"end_leaving","Course.end_leaving",Bf,ZJ,Xb,abI,Vr,L9,Wn,acO))(Eb:binop%cd L9 "Course.end_leaving")(Ad:unop%aw zi)(Dt:unop%fn (bE,"do_set",zj))(Gs:unop%hq zj)(Hj:unop%lk (zj,_Y,aaU,"do_set","Course.do_set",Bt,ZK,Xc,abJ,Vs,L_,Wo,acP))(Ec:binop%cd L_ "Course.do_set")(Ae:unop%aw zj)(Du:unop%fn (bE,"do_unset",amE))(Gu:unop%hq amE)(Hk:unop%lk (amE,_Z,aaV,"do_unset","Course.do_unset",Bm,ZL,Xd,abK,Vt,L',Wq,acQ))(Ed:binop%cd L' "Course.do_unset")(Af:unop%aw amE)(Dv:unop%fn (bE,"do_deed",zl))(Gv:unop%hq zl)(Hl:unop%lk (zl,aaa,aaW,"do_deed","Course.do_deed",Bn,ZM,Xe,abL,Vu,Ma,Wr,acR))(Ee:binop%cd Ma "Course.do_deed")(Ag:unop%aw zl)(Dw:unop%fn (bE,"take_right",zm))(Gw:unop%hq zm)(Hm:unop%lk (zm,aab,aaX,"take_right","Course.take_right",Bh,ZN,Xf,abM,Vv,Mb,Ws,acS))(Ef:binop%cd Mb "Course.take_right")(Ah:unop%aw zm)(Dx:unop%fn (bE,"code",zo))(Gx:unop%hq zo)(Hn:unop%lk (zo,aac,aaY,"code","Course.code",BB,ZO,Xg,abN,Vw,Mc,Wt,acT))(Eg:binop%cd Mc "Course.code")(Ai:unop%aw zo)(Dy:binop%ns "lessened" E4)(Ho:unop%lk (E4,aad,aaZ,"lessened","lessened",BN,ZP,Xh,abO,Vx,Md,Wu,acU))(Eh:binop%cd Md "lessened")(GO:unop%aw E4)(Dz:unop%fn (bE,"count_down",zp))(Gy:unop%hq zp)(Hp:unop%lk (zp,aae,aa0,"count_down","Course.count_down",Bk,ZQ,Xi,abP,Vy,Me,Wv,acV))(Ei:binop%cd Me "Course.count_down")(Aj:unop%aw zp)(DA:unop%fn (bE,"end_coming",zq))(Gz:unop%hq zq)(Hq:unop%lk (zq,aaf,aa1,"end_coming","Course.end_coming",Bj,ZR,Xj,abQ,Vz,Mf,Ww,acW))(Ej:binop%cd Mf "Course.end_coming")(Ak:unop%aw zq)(DB:unop%fn (bE,"end_time",zr))(GA:unop%hq zr)(Hr:unop%lk (zr,aag,aa2,"end_time","Course.end_time",Bl,ZS,Xk,abR,VA,Mg,Wx,acX))(Ek:binop%cd Mg "Course.end_time")(Al:unop%aw zr)(DC:unop%fn (bE,"ticks",zt))(GB:unop%hq zt)(Hs:unop%lk (zt,aai,aa4,"ticks","Course.ticks",Bv,ZU,Xm,abT,VC,Mi,Wz,acZ))(El:binop%cd Mi "Course.ticks")(Am:unop%aw zt)(DD:unop%fn (bE,"happen",zu))(GC:unop%hq zu)(Ht:unop%lk (zu,aaj,aa5,"happen","Course.happen",Bs,ZV,Xn,abU,VD,Mj,WA,ac0))(Em:binop%cd Mj "Course.happen")(An:unop%aw zu)(DE:binop%ns "course_of" E5)(Hu:unop%lk (E5,aak,aa6,"course_of","course_of",BI,ZW,Xo,abV,VE,Mk,WB,ac1))(En:binop%cd Mk "course_of")(GP:unop%aw E5)(DF:binop%ns "after" E6)(Hv:unop%lk (E6,aal,aa7,"after","after",Cs,ZX,Xp,abW,VF,Ml,WC,ac2))(Eo:binop%cd Ml "after")(GQ:unop%aw E6)(DG:binop%ns "beyond" E7)(Hw:unop%lk (E7,aam,aa8,"beyond","beyond",B_,ZY,Xq,abX,VG,Mm,WD,ac3))(Ep:binop%cd Mm "beyond")(GR:unop%aw E7)(DH:binop%ns "ways_on" E8)(Hx:unop%lk (E8,aan,aa9,"ways_on","ways_on",amk,ZZ,Xr,abY,VH,Mn,WE,ac4))(Er:binop%cd Mn "ways_on")(GS:unop%aw E8)(DI:binop%ns "ways" E9)(Hy:unop%lk (E9,aao,aa_,"ways","ways",CC,Z0,Xs,abZ,VI,Mo,WG,ac5))(Es:binop%cd Mo "ways")(GU:unop%aw E9)(DJ:binop%ns "begun" E_)(Hz:unop%lk (E_,aap,aa',"begun","begun",vt,Z1,Xt,ab0,VJ,Mp,WH,ac6))(Et:binop%cd Mp "begun")(GV:unop%aw E_)(DK:binop%ns "passed" E')(HA:unop%lk (E',aaq,aba,"passed","passed",B8,Z2,Xu,ab1,VK,Mq,WI,ac7))(Eu:binop%cd Mq "passed")(GW:unop%aw E')(DL:binop%ns "has_alarm" Fb)(HB:unop%lk (Fb,aar,abb,"has_alarm","has_alarm",xY,Z3,Xv,ab2,VL,Mr,WJ,ac8))(Ew:binop%cd Mr "has_alarm")(GX:unop%aw Fb)(DM:binop%ns "story" Fc)(HD:unop%lk (Fc,aat,abd,"story","story",Cr,Z5,Xx,ab4,VN,Mt,WL,ac_))(Ex:binop%cd Mt "story")(GY:unop%aw Fc)(DN:binop%ns "caught" Fd)(HE:unop%lk (Fd,aau,abe,"caught","caught",B9,Z6,Xy,ab5,VO,Mu,WM,ac'))(Ey:binop%cd Mu "caught")(GZ:unop%aw Fd)(DO:binop%ns "unseen" Fe)(HF:unop%lk (Fe,aav,abf,"unseen","unseen",yf,Z7,Xz,ab6,VP,Mv,WN,ada))(Ez:binop%cd Mv "unseen")(G0:unop%aw Fe)(DP:binop%ns "_law_is_fair" Ff)(HG:unop%lk (Ff,aaw,abg,"_law_is_fair","_law_is_fair",BG,Z8,XA,ab7,VQ,Mw,WO,adb))(EA:binop%cd Mw "_law_is_fair")(G1:unop%aw Ff)(DQ:binop%ns "walked" Fg)(HH:unop%lk (Fg,aax,abh,"walked","walked",B7,Z9,XB,ab8,VR,Mx,WQ,ade))(EB:binop%cd Mx "walked")(G2:unop%aw Fg)(DR:binop%ns "ways_at_all" Fh)(HI:unop%lk (Fh,aay,abi,"ways_at_all","ways_at_all",By,Z_,XC,ab9,VS,My,WR,adf))(EC:binop%cd My "ways_at_all")(G3:unop%aw Fh)(DS:binop%ns "lateness" Fi)(HJ:unop%lk (Fi,aaz,abj,"lateness","lateness",BO,Z',XD,ab_,VT,Mz,WS,adg))(ED:binop%cd Mz "lateness")(G4:unop%aw Fi)(DT:binop%ns "safest" Fj)(Au:K.lookup Fj=some ⟨aaA,abk,.func (mj "safest" "safest" (oy al_) (hK al_) (cb al_) .none _a XE ab' VU (.ref EK) WT),adh⟩)(yY:rl K (.ref EK) "safest"=true)(Ao:unop%aw Fj)(DU:binop%ns "law" Fl)(HK:unop%lk (Fl,aaB,abl,"law","law",mz,N3,ML,Oo,LQ,EM,MJ,adi))(EE:binop%cd EM "law")(G5:unop%aw Fl)(al7:unop%zn "range")(tQ:unop%zn "min")(my:unop%zn "max")(nv:unop%zn "len")(fO:unop%zn "tuple")(oC:unop%zn "dict")(al5:unop%zn "list")(oE:unop%zn "zip")(px:unop%zn "sorted")(kP:unop%zn "enumerate")(so:u0 K il "WRONG_IN_A_ROW"=some (some (.int 3 IT)))(sm:u0 K il "TICKS_LOCKED"=some (some (.int 90 IQ)))(wt:binop%ns "KINDS_SHUT_TO_SET" uc)(It:K.lookup uc=some ⟨.type "tuple",none,.seq #[.str "day" adR,.str "once" adS] _x,adp⟩)(wq:binop%ns "KINDS_LEFT_BY" ub)(Ir:K.lookup ub=some ⟨.type "tuple",none,.seq #[.str "inner" adO,.str "way" adP] _w,ado⟩)(nY:u0 K il "OUTSIDE"=some (some (.int 0 xw)))(qS:u0 K il "TICKS_TO_PASS"=some (some (.int 1 IS)))(Fp:amr K EK 344=true):
  ∃fd:gi,(∀(s:aK) (v:ag),BindsTo s fd ⟨[v],[]⟩ [("_law_script",v)])/\∀base:bI,K.In base->base.Ns il mg->pD mg base->fh l.prog w K mg base fg 27 cY fd ["_law_script"] (@spT (ob [(344,(("safest":Str)++".<locals>.")++"<lambda>")]) K 1 tZ):=by
 have e:=YF.symm.trans (fR X G DU);cases e;refine⟨mj "law" "law" (oy mz) (hK mz) (cb mz) .none N3 ML Oo LQ EM MJ,λs v=>.of_eq rfl,λbase _ _ l6=>?_⟩;letI tt:cG:=⟨[(344,(("safest":Str)++".<locals>.")++"<lambda>")],λc=>match c with|0=>["plan","mode","left","came","lines","shunts","siren","alarms","tries","locked","used","past","told"]|_=>[],λc=>match c with|0=>some bE|_=>none⟩;have al2:g4 K 0 bE ["plan","mode","left","came","lines","shunts","siren","alarms","tries","locked","used","past","told"]:=⟨rfl,rfl,⟨Ip,FG,Iq,IG⟩,by decide +kernel,λf hf=>by
  simp only[ct,lS,or_false] at hf;rcases hf with rfl|rfl|rfl|rfl|rfl|rfl|rfl|rfl|rfl|rfl|rfl|rfl|rfl
  ·exact HX
  ·exact HY
  ·exact H3
  ·exact H4
  ·exact H5
  ·exact H6
  ·exact H7
  ·exact H8
  ·exact H9
  ·exact H_
  ·exact HZ
  ·exact H0
  ·exact H2,by decide⟩
 replace al7:=pa X G al7;replace tQ:=pa X G tQ;replace my:=pa X G my;replace nv:=pa X G nv;replace fO:=pa X G fO;replace oC:=pa X G oC;replace al5:=pa X G al5;replace oE:=pa X G oE;replace px:=pa X G px;replace kP:=pa X G kP;replace so:=fR X G so;replace sm:=fR X G sm;replace wt:=fR X G wt;have adX:∃(o:Obj) (its:Array ag) (n:Nat),K.lookup uc=some o/\o.cls=.type "tuple"/\o.data=.seq its n/\its.size<=cB/\Vals ((["day","once"]:List Str).map V.str) its.toList/\o.dict=none:=⟨_,_,_,It,rfl,rfl,by show 2<=cB;decide,(.cons ⟨_,rfl⟩ (.cons ⟨_,rfl⟩ .nil)),rfl⟩;replace wq:=fR X G wq;have adW:∃(o:Obj) (its:Array ag) (n:Nat),K.lookup ub=some o/\o.cls=.type "tuple"/\o.data=.seq its n/\its.size<=cB/\Vals ((["inner","way"]:List Str).map V.str) its.toList/\o.dict=none:=⟨_,_,_,Ir,rfl,rfl,by show 2<=cB;decide,(.cons ⟨_,rfl⟩ (.cons ⟨_,rfl⟩ .nil)),rfl⟩;replace nY:=fR X G nY;replace qS:=fR X G qS;have a5:=dS (st:=BW) bX c1 gI;have T7:=unop%b' (Kf 0 a5 (fR X G a1));have dt:=dS (st:=BV) bY dh eu;have T8:=unop%b' (Ke 1 dt (fR X G a2) al7 (unop%mo T7) tQ my);have qJ:=dS (st:=BH) uF fe p8;have T6:=unop%b' (JJ 0 qJ (fR X G eE) nv);have kn:=dS (st:=BU) HC c4 jd;have T_:=unop%b' (vk 1 kn (fR X G fW) (unop%mo T6));have pF:=dS (st:=Bw) HL h7 Ap;have TX:=unop%b' (Jp 0 pF (⟨h6,wV,Ap⟩) al2 fO);have UX:=dS (st:=vc) HM EF G6;have TG:=unop%b' (aet 0 UX ⟨HT,jW,GD,G8⟩ (fR X G DX) al2 oC al5 oE);have pG:=dS (st:=Bz) HN EG Aq;have nz:=unop%b' (hj 0 pG (⟨sb,GF,Aq⟩) al2);have pH:=dS (st:=BX) Av EH G7;have LB:=unop%b' (yd 0 pH (fR X G DV));have UY:=dS (st:=Bq) HO EI Ar;have Lv:=unop%b' (xQ 0 UY (⟨DW,GG,Ar⟩) al2);have Uj:=dS (st:=Bx) G_ D3 z6;have yK:=unop%b' (ph 1 Uj (⟨Dh,Gi,z6⟩) al2 (unop%mo Lv) (unop%mo nz));have Uk:=dS (st:=Bp) G' D4 z7;have TJ:=unop%b' (Jk 2 Uk (⟨Di,Gj,z7⟩) al2 (unop%mo nz) (unop%mo yK));have Ul:=dS (st:=Bo) Ha D5 z8;have TL:=unop%b' (Jj 3 Ul (⟨Dj,i12,z8⟩) al2 (unop%mo LB) (unop%mo yK) (unop%mo nz) (unop%mo TJ));have Um:=dS (st:=BA) Hb D6 z9;have TV:=unop%b' (Jv 4 Um (⟨Dk,Gk,z9⟩) al2 (unop%mo nz) (unop%mo TL));have Un:=dS (st:=BY) Hc D7 GN;have T4:=unop%b' (Kg 0 Un (fR X G Dl));have Uo:=dS (st:=Bi) Hd D8 z_;have TU:=unop%b' (I' 0 Uo (⟨Dm,Gl,z_⟩) al2);have Up:=dS (st:=Bg) He D9 z';have TZ:=unop%b' (I9 1 Up (⟨Dn,Gm,z'⟩) al2 (unop%mo nz) (unop%mo Lv) so sm);have Uq:=dS (st:=Be) Hf D_ Aa;have TS:=unop%b' (I7 1 Uq (⟨Dp,Gn,Aa⟩) al2 (unop%mo LB));have Ur:=dS (st:=u_) Hg D' Ab;have Lu:=unop%b' (xM 0 Ur (⟨Dq,Gp,Ab⟩) al2);have Us:=dS (st:=Bd) Hh Ea Ac;have T2:=unop%b' (I6 2 Us (⟨Dr,Gq,Ac⟩) al2 (unop%mo TS) (unop%mo Lu) wt adX);have Ut:=dS (st:=Bf) Hi Eb Ad;have Lw:=unop%b' (xI 2 Ut (⟨Ds,Gr,Ad⟩) al2 (unop%mo nz) (unop%mo Lu) (unop%mo yK) wq adW);have Uu:=dS (st:=Bt) Hj Ec Ae;have TN:=unop%b' (Jm 3 Uu (⟨Dt,Gs,Ae⟩) al2 (unop%mo nz) (unop%mo Lw))
 have Uv:=dS (st:=Bm) Hk Ed Af;have TO:=unop%b' (Jf 1 Uv (⟨Du,Gu,Af⟩) al2 (unop%mo nz));have Uw:=dS (st:=Bn) Hl Ee Ag;have TM:=unop%b' (Ji 4 Uw (⟨Dv,Gv,Ag⟩) al2 (unop%mo TN) (unop%mo TO) px (unop%mo nz));have Ux:=dS (st:=Bh) Hm Ef Ah;have TY:=unop%b' (I_ 5 Ux (⟨Dw,Gw,Ah⟩) al2 (unop%mo T2) (unop%mo TM) (unop%mo nz));have Uy:=dS (st:=BB) Hn Eg Ai;have TH:=unop%b' (Jw 6 Uy (⟨Dx,Gx,Ai⟩) al2 (unop%mo T4) (unop%mo nz) (unop%mo TU) (unop%mo TZ) (unop%mo TY));have Uz:=dS (st:=BN) Ho Eh GO;have Ua:=unop%b' (x5 0 Uz (fR X G Dy) my);have UA:=dS (st:=Bk) Hp Ei Aj;have TK:=unop%b' (xK 1 UA (⟨Dz,Gy,Aj⟩) al2 (unop%mo Ua));have UB:=dS (st:=Bj) Hq Ej Ak;have TP:=unop%b' (Ja 2 UB (⟨DA,Gz,Ak⟩) al2 (unop%mo yK));have UC:=dS (st:=Bl) Hr Ek Al;have TQ:=unop%b' (Je 3 UC (⟨DB,GA,Al⟩) al2 (unop%mo Lw) (unop%mo TP));have UD:=dS (st:=Bv) Hs El Am;have T1:=unop%b' (Jo 4 UD (⟨DC,GB,Am⟩) al2 (unop%mo TK) (unop%mo TQ));have UE:=dS (st:=Bs) Ht Em An;have TR:=unop%b' (Jl 7 UE (⟨DD,GC,An⟩) al2 (unop%mo TV) (unop%mo TH) (unop%mo T1));have UG:=dS (st:=BI) Hu En GP;have LA:=unop%b' (x2 8 UG (fR X G DE) al2 (unop%mo TG) (unop%mo TR));have UH:=dS (st:=Cs) Hv Eo GQ;have Lx:=unop%b' (yo 10 UH (fR X G DF) al2 (unop%mo TX) (unop%mo LA));have UI:=dS (st:=B_) Hw Ep GR;have Ly:=unop%b' (rC 0 UI (fR X G DG));have UJ:=dS (st:=amk) Hx Er GS;have Uh:=unop%b' (vj 1 UJ (fR X G DH) kP (unop%mo Ly) 20);have UK:=dS (st:=CC) Hy Es GU;have LD:=unop%b' (yy 21 UK (fR X G DI) fO (unop%mo Uh) nY);have UL:=dS (st:=vt) Hz Et GV;have T3:=unop%b' (Cz 0 UL (fR X G DJ) fO);have UM:=dS (st:=B8) HA Eu GW;have LC:=unop%b' (yi 0 UM (fR X G DK) qS);have UN:=dS (st:=xY) HB Ew GX;have T5:=unop%b' (JK 0 UN (fR X G DL));have UO:=dS (st:=Cr) HD Ex GY;have Uc:=unop%b' (K4 10 UO (fR X G DM) al2 fO (unop%mo LA));have UP:=dS (st:=B9) HE Ey GZ;have Lz:=unop%b' (amn 11 UP (fR X G DN) kP (unop%mo LC) (unop%mo T5) (unop%mo Lx) (unop%mo Uc));have UQ:=dS (st:=yf) HF Ez G0;have Ud:=unop%b' (Ky 1 UQ (fR X G DO) fO px (unop%mo Ly) nY);have UR:=dS (st:=BG) HG EA G1;have T9:=unop%b' (JI 0 UR (fR X G DP) oC);have US:=dS (st:=B7) HH EB G2;have Ue:=unop%b' (Kx 1 US (fR X G DQ) fO (unop%mo LC));have UT:=dS (st:=By) HI EC G3;have Ug:=unop%b' (Ju 22 UT (fR X G DR) (unop%mo LD));have UU:=dS (st:=BO) HJ ED G4;have T':=unop%b' (JV 0 UU (fR X G DS));have alm:=dS (st:=al_) Au yY Ao;have Ub:=unop%b' (Kz 23 Au yY Ao (fR X G DT) Fp l6 (by show _∈[(344,(("safest":Str)++".<locals>.")++"<lambda>")];simp) (λp az=>by have az:p∈[(344,(("safest":Str)++".<locals>.")++"<lambda>")]:=az;simp only[ct,lS,or_false] at az;rcases az with rfl <;> first|(intro z;exact absurd z (by decide))|(intro _;rfl)) my (unop%mo Ug) (unop%mo T') (unop%mo Lz));have UW:=dS (st:=mz) HK EE G5;exact ajv rfl (ald (k:=26) UW (unop%mo T8) (unop%mo T_) fO (unop%mo Lx) (unop%mo LD) oE (unop%mo T3) (unop%mo Lz) (unop%mo Ud) kP al5 nv al7 (unop%mo T9) (unop%mo Ue) (unop%mo Ub))
def walk{l:PySem.W.OpenLaw}{q:cE}{loose:List Str}{ua:(Str->Option ag)->bI->Prop}{oI:b8->bI->Prop}{d:DefRec}{K:Params->br}(aX:l.most=some 63)(wC:d.params.defaults=[])(fI:∀w:b8,Od (K w.params)=true)(Fw:∀(w:b8) (h:bI),oI w h->(K w.params).In h)(cL:∀(w:b8) (h:bI),oI w h->∀b∈[344],h.get? b=some (PySem.W.tabObj #[]))(wx:∀w:b8,(([344]:List Nat).all λb=>((K w.params).lookup b).isNone)=true)(ec:∀w:b8,(([344]:List Nat).all λb=>(K w.params).any λp=>amr (K w.params) p.1 b)=true)(F:∀(w:b8) (mg:Str->Option ag) (cY:ak) (h:bI),(K w.params).In h->h.Ns il mg->mg d.name=some (.ref cY) ->
   ∃fd:gi,(∀(s:aK) (u:ag),BindsTo s fd ⟨[u],[]⟩ [("_law_script",u)])/\∀base:bI,(K w.params).In base->base.Ns il mg->pD mg base->fh l.prog w (K w.params) mg base fg 27 cY fd ["_law_script"] (@spT (ob [(344,(("safest":Str)++".<locals>.")++"<lambda>")]) (K w.params) 1 tZ)):
  PySem.W.WalkO q loose ua oI l.row.toRowW d [] (λf vs=>PySem.call f vs):=
 ahG (n:=63) (k:=27) (x:="_law_script") (ts:=[344]) (er:=λ_=>fg) (sp:=λw=>@spT (ob [(344,(("safest":Str)++".<locals>.")++"<lambda>")]) (K w.params) 1 tZ) aX (by decide) wC ⟨rfl,by decide,by decide,rfl⟩ Fw cL (λw b ab=>Option.isNone_iff_eq_none.mp (List.all_eq_true.mp (wx w) b ab)) (λw b ab=>by
  obtain⟨p,_,az⟩:=List.any_eq_true.mp (List.all_eq_true.mp (ec w) b ab);exact⟨p.1,az⟩) F (λw H a ns av kz c9=>agJ (t:=ob [(344,(("safest":Str)++".<locals>.")++"<lambda>")]) (λp az=>by have az:p∈[(344,(("safest":Str)++".<locals>.")++"<lambda>")]:=az;simp only[ct,lS,or_false] at az;rcases az with rfl <;> simp) kz (fI w) (ail ns av) c9) λ_ _ _ _ _ z=>z
end nF
open PySem PySem.W PyProof.Rows
set_option maxRecDepth 100000 in
set_option maxHeartbeats 0 in
theorem PySem.Challenge.cw_doorwatch_k31_whole_one_who_comes_in_holds : PySem.Challenge.rw_doorwatch_k31_whole_one_who_comes_in.Holds := by
 w_on;o_law;k_head;(case hw=>w_witness2)
 k_fill
 refine nF.walk (l:=PySem.Challenge.rw_doorwatch_k31_whole_one_who_comes_in) rfl rfl ?L (λw h Y=>PySem.W.km_in_of Y) (λw h Y=>PySem.W.km_tabs_of Y) ?U6 ?TC ?F
 case L=>
  intro w
  first|rfl|(with_unfolding_all rfl)|kernel_rfl
 case U6=>
  intro w
  first|rfl|(with_unfolding_all rfl)|kernel_rfl
 case TC=>
  intro w
  first|rfl|(with_unfolding_all rfl)|kernel_rfl
 case F=>
  intro w mg cY h nG G wJ;refine' nF.all_mk nG G wJ ?DX ?Ip ?FG ?Iq ?IG ?HT ?G8 ?HX ?HY ?H3 ?H4 ?H5 ?H6 ?H7 ?H8 ?H9 ?H_ ?HZ ?H0 ?H2 ?a1 ?bX ?c1 ?gI ?a2 ?bY ?dh ?eu ?eE ?uF ?fe ?p8 ?fW ?HC ?c4 ?jd ?h6 ?wV ?HL ?h7 ?Ap ?jW ?GD ?HM ?EF ?G6 ?sb ?GF ?HN ?EG ?Aq ?DV ?Av ?EH ?G7 ?DW ?GG ?HO ?EI ?Ar ?Dh ?Gi ?G_ ?D3 ?z6 ?Di ?Gj ?G' ?D4 ?z7 ?Dj ?i12 ?Ha ?D5 ?z8 ?Dk ?Gk ?Hb ?D6 ?z9 ?Dl ?Hc ?D7 ?GN ?Dm ?Gl ?Hd ?D8 ?z_ ?Dn ?Gm ?He ?D9 ?z' ?Dp ?Gn ?Hf ?D_ ?Aa ?Dq ?Gp ?Hg ?D' ?Ab ?Dr ?Gq ?Hh ?Ea ?Ac ?Ds ?Gr ?Hi ?Eb ?Ad ?Dt ?Gs ?Hj ?Ec ?Ae ?Du ?Gu ?Hk ?Ed ?Af ?Dv ?Gv ?Hl ?Ee ?Ag ?Dw ?Gw ?Hm ?Ef ?Ah ?Dx ?Gx ?Hn ?Eg ?Ai ?Dy ?Ho ?Eh ?GO ?Dz ?Gy ?Hp ?Ei ?Aj ?DA ?Gz ?Hq ?Ej ?Ak ?DB ?GA ?Hr ?Ek ?Al ?DC ?GB ?Hs ?El ?Am ?DD ?GC ?Ht ?Em ?An ?DE ?Hu ?En ?GP ?DF ?Hv ?Eo ?GQ ?DG ?Hw ?Ep ?GR ?DH ?Hx ?Er ?GS ?DI ?Hy ?Es ?GU ?DJ ?Hz ?Et ?GV ?DK ?HA ?Eu ?GW ?DL ?HB ?Ew ?GX ?DM ?HD ?Ex ?GY ?DN ?HE ?Ey ?GZ ?DO ?HF ?Ez ?G0 ?DP ?HG ?EA ?G1 ?DQ ?HH ?EB ?G2 ?DR ?HI ?EC ?G3 ?DS ?HJ ?ED ?G4 ?DT ?Au ?yY ?Ao ?DU ?HK ?EE ?G5 ?al7 ?tQ ?my ?nv ?fO ?oC ?al5 ?oE ?px ?kP ?so ?sm ?wt ?It ?wq ?Ir ?nY ?qS ?Fp
  (case Fp=>first|kernel_rfl|rfl|(with_unfolding_all rfl))
  (case DX|Ip|FG|Iq|IG|HT|G8|HX|HY|H3|H4|H5|H6|H7|H8|H9|H_|HZ|H0|H2|a1|bX|c1|gI|a2|bY|dh|eu|eE|uF|fe|p8|fW|HC=>k_is)
  (case c4|jd|h6|wV|HL|h7|Ap|jW|GD|HM|EF|G6|sb|GF|HN|EG|Aq|DV|Av|EH|G7|DW|GG|HO|EI|Ar|Dh|Gi|G_|D3|z6|Di|Gj|G'|D4|z7|Dj|i12|Ha|D5|z8|Dk|Gk|Hb|D6|z9|Dl|Hc|D7|GN|Dm|Gl|Hd|D8|z_=>k_is)
  (case Dn|Gm|He|D9|z'|Dp|Gn|Hf|D_|Aa|Dq|Gp|Hg|D'|Ab|Dr|Gq|Hh|Ea|Ac|Ds|Gr|Hi|Eb|Ad|Dt|Gs|Hj|Ec|Ae|Du|Gu|Hk|Ed|Af|Dv|Gv|Hl|Ee|Ag|Dw|Gw|Hm|Ef|Ah|Dx|Gx|Hn|Eg|Ai|Dy=>k_is)
  (case Ho|Eh|GO|Dz|Gy|Hp|Ei|Aj|DA|Gz|Hq|Ej|Ak|DB|GA|Hr|Ek|Al|DC|GB|Hs|El|Am|DD|GC|Ht|Em|An|DE|Hu|En|GP|DF|Hv|Eo|GQ|DG|Hw|Ep|GR|DH|Hx|Er|GS|DI|Hy|Es|GU|DJ|Hz|Et=>k_is)
  (case GV|DK|HA|Eu|GW|DL|HB|Ew|GX|DM|HD|Ex|GY|DN|HE|Ey|GZ|DO|HF|Ez|G0|DP|HG|EA|G1|DQ|HH|EB|G2|DR|HI|EC|G3|DS|HJ|ED|G4|DT|Au|yY|Ao|DU|HK|EE|G5|al7|tQ|my|nv=>k_is)
  (case fO|oC|al5|oE|px|kP|so|sm|wt|It|wq|Ir|nY|qS=>k_is)
end
end
