import PyProof.Rows.All
import Wide.All
import OpenK.AllK
import Wide.FinOn
import Lean
import PyProof.EqAt
import PyProof.EqKinds
import PyProof.TupleCall
import PyProof.P3Statements
import KE.KSortTup
import PyProof.AttrMissHeap
import PyProof.ZipIter
import PyProof.Draws
import PyProof.ListMulRoad
import Wide.Seal
import KE.KLam
import KE.KNest
import KE.KNestM
import KE.KIsAll
import PyProof.ExcArgs
import PyProof.ReprStr
import PyProof.FString
import PyProof.FitsInt
import KE.KMinKey
import PySem.Challenge.RW_doorwatch_k34_whole_safest_of_all
set_option Elab.async false
set_option linter.all false
set_option compiler.extract_closed false
set_option genSizeOfSpec false
set_option maxRecDepth 100000
set_option maxHeartbeats 0
open PySem renaming Value → ao, Addr → aj, Around → cp, World → b8, Heap → bL, Expr → bt
open PySem.W renaming Frag → a', keepIn → m8, findIn → lL, codeIn → qc, fnOf → kS, nsIn → wk, mg_of → eE, mg_none_of → m9, emptyDict → ra, instObj → sM, kitOne → ob, codeHdIn → ri
open Option renaming bind_eq_some_iff → cf, map_eq_some_iff → dR, bind_some → cz, map_some → eb
open PySem renaming wpAny_bind → aO, Shared → aH, wpAny_pure → bX, starEach → a9, FuncData → er, sizeLine → cn, mainGlobals → iY, Program → cu, wpAny → a0, wpAny_mono → et, mem_of_lookup → zf, keywordEach → fO, wpAny_holding → ia, backTo → c3, wpAny_Call_Name_kw → nc, wpAny_field → ib, attributeBase → j4, wpAny_callSpecial?_slot → sP, backToKw → fP, sizeLine_eq → jJ, wpAny_seqItems → kV, wpAny_pyIter_tuple → rg, compareOp → i2, codeAny_builtin → ml, wpAny_newObj_type → qe, codeAny_mono → nd, wpAny_call_entry → rh, wpAny_setField_rec → uS, swapsWith → kr, behindInMarks → qf, wpAny_truthy_bool → sQ, codeAny → hu, plainId_quiet → nf, assignEach → pe, call_meets → qg, wpAny_tryCatch → pf, wpAny_call → qh, wpAny_newFunctionEnv → CV, binaryOp → ng, NameKind → nh, model → bA, foldedSetIterable → wy, wpAny_letGo → anN, rawInt → gW
open PySem.Heap renaming get?_push_of_some → cQ, lt_size → c2, get?_push_size → fx, size_push → j2, get?_update_other → kW
open List renaming mem_cons_of_mem → dF, mem_cons → cN, map_cons → c8, mem_cons_self → fg, replicate → d5, size_toArray → eW, getElem?_eq_some_iff → gU, mem_map → d_, nodup_cons → eP, getElem?_eq_getElem → iZ, length_cons → fy, mem_singleton → kT, mem_append → h8, length_map → f5, getElem?_map → kp, pairwise_cons → lM, map_nil → jk, mem_append_right → j3, lookup_cons → n5, set_cons_zero → i1, lookup → kq, set_cons_succ → jl, getElem?_append_right → wm, nodup_append → mi, getElem?_append_left → wo, find?_cons → rb, replicate_succ → uQ, mem_of_getElem? → pb, append_nil → lO, zip_cons_cons → sO, length_append → n7, length_filter_le → CT, getElem?_set → wu, flatten_cons → wx, not_mem_nil → uR, getElem?_cons_zero → ha, getElem?_cons_succ → h_, length_nil → n_, nil_append → rd, cons_append → rf, map_map → oa
open Nat renaming le_refl → dy, lt_of_lt_of_le → i0, ne_of_lt → eQ, ne_of_gt → hO, le_trans → h9, zero_le → n8, le_succ → qd, le_add_right → lP
open PySem.Builtin.SmallTypes renaming nextOf → mh, ownedTupleIsFree → sL
open PySem.Builtin.Tuple renaming tupleExact → uP
open Function renaming comp_def → pa
open Bool renaming and_eq_true → gV, false_eq_true → lN, false_ne_true → m_
open PySem.PyData renaming depthAll → fM, canLayAll0 → hP, str → mj, eqv → f6, depth → m'
open PyProof.Rows renaming slot_tuple_getitem → CR, callWith_type1 → wt
open PySem.Builtin.Slice renaming slicePlaces → CS
open Array renaming getElem?_eq_getElem → wq, length_toList → sN
open PySem.Around renaming under_plainId → anG
open False renaming elim → d6
open PySem.PassesOwn renaming never → n9
open PySem.F renaming slot_tuple_iterator_next → CU, plain_max_loop → uT, plainAttrs_list → wz
open Option.some renaming inj → fN
open Int renaming emod_nonneg → kU, emod_lt_of_pos → n'
set_option hygiene false in
local macro_rules
|`(unop%W0 0)=>`((s.heap.push {cls:=.type "tuple_iterator",data:=.fields #[.ref l,.int 0 0]}))
|`(unop%W1 0)=>`((s2.heap.push {cls:=.type "list",data:=.seq ([]:List ao).toArray}))
|`(unop%W2 0)=>`((aq aZ (bo [(ae .none),(ae .none),(ae (.str "a")),(ae (.str "b")),(ae (.str "back")),(ae (.str "hall")),(ae (.str "win"))]) (aq oMod (aq oDiv (nm 4) (ae (.int 64))) (ae (.int 7)))))
|`(unop%W3 0)=>`(fm dC P w K mg base N qual (bQ st) f b3 A outer s H E)
|`(unop%W4 0)=>`(some (.aa (.int k)))
|`(unop%W5 0)=>`(A.deeper (envOfC qual (bQ st) s.heap.objs.size f b3))
|`(unop%W6 0)=>`((j6 (hU (bo [(ae (.str "a")),(ae (.str "b")),(ae (.str "back")),(ae (.str "d")),(ae (.str "hall")),(ae (.str "r")),(ae (.str "win")),(ae (.str "z"))]))))
|`(unop%W7 0)=>`((aq oMod (aq dT (aq b4 (aq b4 (a3 ni [(av 0),(av 1)]) (aq dT (ae (.int 7919)) (nm 1))) (ae (.int 1))) (ae (.int 48271))) (ae (.int 2147483647))))
|`(unop%W8 0)=>`((s.heap.push {cls:=.type "list_iterator",data:=.fields #[.ref l,.int 0 0]}))
|`(unop%W9 0)=>`(aq oMod (aq dT (aq b4 (aq b4 (nm 0) (aq dT (ae (.int 104729)) (nm 1))) (ae (.int 17))) (ae (.int 69621))) (ae (.int 2147483647)))
|`(unop%Wa 0)=>`((j6 (hU (bo [(ae (.str "0000")),(ae (.str "1234")),(ae (.str "4321")),(ae (.str "7777")),(ae (.str "9990")),(ae (.str "9999"))]))))
|`(unop%Wb 0)=>`(aq oMod (aq b4 (aq b4 (nm 5) (ae (.int 1))) (aq oMod (aq oDiv (nm 4) (ae (.int 8))) (nm 1))) (aq b4 (nm 1) (ae (.int 1))))
|`(unop%Wc 0)=>`((356,(("safest":Str)++".<locals>.")++"<lambda>"))
|`(unop%Wd 0)=>`(aq aZ (nm 0) (ae (.int 0)))
|`(unop%We 0)=>`(aq aZ (nm 0) (ae (.int 1)))
|`(unop%Wf 0)=>`((420,(("law":Str)++".<locals>.")++"<lambda>"))
|`(unop%Wg 0)=>`(PySem.W.kla_obj "<lambda>" (X.env.qual++"<lambda>") params body scope f' ((X.mg "__name__").getD .none) bZ gJ)
|`(unop%Wh 0)=>`((∀b o,s.heap.get? b=some o->h'.get? b=some o))
|`(unop%Wi 0)=>`((fm dC P w K mg base ["_law_deed","_law_found","e","_law_kinds"] "_law_told" (bQ pn) f b3 A outer s H j_))
|`(unop%Wj 0)=>`((tell "on" none {c with mode:="on",left:=0}))
|`(unop%Wk 0)=>`(bA X.prog X.w)
|`(unop%Wl 0)=>`(some (.aa (.int q)))
|`(unop%Wm 0)=>`(.Attribute o f apos)
|`(unop%Wn 0)=>`((.ListComp elt [⟨cV,iter,ifs,0⟩] scope pos))
|`(unop%Wo 0)=>`((aq b4 (nm 2) (bo [(bo [(a3 oZ [(nm 5),(nm 6)]),(a3 nV [(nm 5),(nm 6)]),(av 7)])])))
|`(unop%Wp 0)=>`(.aa (.int n))
|`(unop%Wq 0)=>`(s.heap.objs.size+1)
|`(unop%Wr 0)=>`((fm dC X.prog X.w X.K X.mg X.base [m7,o_,pd,zg] x (bQ st) ck b3 A outer s H j_))
|`(unop%Ws 0)=>`(A.deeper (lq (X.env.qual++"<lambda>") scope s.heap.objs.size q (.ref bZ) cl))
|`(unop%Wt 0)=>`(aq aZ (nm 2) (cX hp (ae (.int 1))))
|`(unop%Wu 0)=>`(c3 pos (a9 es X.env))
|`(unop%Wv 0)=>`(kS x qual (mr st) (fh st) (bQ st) .none dD doc pm an b3 cP)
|`(unop%Ww 0)=>`(some (.aa (.int one)))
|`(unop%Wx 0)=>`(some (.aa (.int x)))
|`(unop%Wy 0)=>`(eS (fQ a4 hv ay (bC 0) (aD b2 (aD (bl 1) bz))))
|`(unop%Wz 0)=>`(.Call (.Name x p) (e::es) [] pos)
|`(unop%WA 0)=>`(((unop%W8 0).push {cls:=.type "list",data:=.seq ([]:List ao).toArray}))
|`(unop%WB 0)=>`(.ref s.heap.objs.size)
|`(unop%WC 0)=>`(lq qual scope s.heap.objs.size q (.ref bZ) cl)
|`(unop%WD 0)=>`((fP pos (fO [⟨some "key",.Lambda params body scope hI,yz⟩] X.env)))
|`(unop%WE 0)=>`((aq oDiv (a3 ic [(av 2),(aq b4 (ae (.int 30)) (nm 0))]) (ae (.int 4))))
|`(unop%WF 0)=>`((aq oDiv (a3 ic [(av 0),(aq b4 (ae (.int 50)) (nm 3))]) (ae (.int 4))))
|`(unop%WG 0)=>`(aq oMod (aq oDiv (nm 0) (ae (.int 8))) (ae (.int 11)))
|`(unop%WH 0)=>`(f' X.env scope.names [])
|`(unop%WI 0)=>`((a3 rec [(av 0),(av 1),(aq b4 (nm 2) (bo [(av 6)]))]))
|`(unop%WJ 0)=>`(.Call (.Attribute o m apos) (e::es) [] pos)
|`(unop%WK 0)=>`(.aa (bq.c1 R os))
|`(unop%WL 0)=>`(aC (fz (aC (hz (a8 4) (aC aW))) (aC aW)))
|`(unop%WM 0)=>`(aC (fz (aC (hz (a8 1) (aC aW))) (aC aW)))
|`(unop%WN 0)=>`(aq aZ (nm 2) (ae (.int 0)))
|`(unop%WO 0)=>`(aq aZ (nm 1) (ae (.int 1)))
|`(unop%WP 0)=>`(cx (a8 0) (aC aW))
|`(unop%WQ 0)=>`(cx (a8 1) (aC aW))
|`(unop%WR 0)=>`(.aa (.tuple (acc.map dY)))
|`(unop%WS 0)=>`(X.env.qual++"<lambda>")
|`(unop%WT 0)=>`(.Call (.Attribute o m apos) [] [] pos)
|`(unop%WU 0)=>`(aD b2 (aD b2 (aD b2 (aD b2 bz))))
|`(unop%WV 0)=>`(some (.aa (.int (fL (g w):Int))))
|`(unop%WW 0)=>`((A.under (.builtin "type.__call__" ⟨.ref C::us,kw⟩)))
|`(unop%WX 0)=>`(.builtin "getset_descriptor.__get__")
namespace PySem.W.Fast
def tw15529247934636095449:=0
def tw14321829015365148331:=0
def tw16367843410814625750:=0
def tw2332812121100996192:=0
def tw3106492861438720327:=0
def tw13725503023301033392:=0
def tw17072590256070057395:=0
def tw6913946240570003537:=0
def tw2176371007173289617:=0
def tw5718845319217056546:=0
def tw1601977543936858850:=0
def tw2906826015079500106:=0
def tw10030661674420310916:=0
def tw5395361523231031176:=0
def tw11027776977988516324:=0
def tw8287944452526798121:=0
def tw2438615713599013848:=0
def tw17490700655189582191:=0
def tw6699387955136996137:=0
def tw14178678079177626567:=0
def tw12246108889495024948:=0
def tw11021989237512376989:=0
def tw7926307893773343597:=0
def tw8614338029722090140:=0
def tw17839495450608395811:=0
def tw2487179977702938331:=0
def tw4731666878093443000:=0
def tw2795606789353169140:=0
def tw8353081451607655671:=0
def tw14664272351865801673:=0
def tw13736393709787031684:=0
def tw8357263341737115402:=0
def tw10256156278576015360:=0
def tw9944614435457516264:=0
def tw18362550527066760615:=0
def tw4026381162979477663:=0
def tw14550102077991575556:=0
def tw13114353920966395373:=0
def tw7776815165235871071:=0
def tw16791344987207051550:=0
def tw10162540658360308770:=0
def tw1839137719056629114:=0
def tw15387310577164161522:=0
def tw11718123026067276913:=0
def tw13274941081916742371:=0
def tw8570115079428183087:=0
def tw17675594146268571344:=0
def tw4710709790639331873:=0
def tw9401518889714170979:=0
def tw17646609783287092518:=0
def tw8939016396030235858:=0
def tw8342859171564113913:=0
def tw10199323680498273462:=0
def tw404241066425580854:=0
def tw17831587314577177361:=0
def tw7589293690862101422:=0
def tw16433049878296954515:=0
def tw12150383595553757640:=0
def tw16486845938991659978:=0
def tw519417246196730010:=0
def tw11212801060313213545:=0
def tw7102683562921951860:=0
def tw18227923568146192097:=0
def tw10566930880527227888:=0
def tw11447617410091610351:=0
def tw8338186165752180399:=0
def tw15942726318688940080:=0
def tw13157836357294468045:=0
def tw5828308650978752340:=0
def tw1763196834983462540:=0
def tw3859947419470721973:=0
def tw13115007592347000474:=0
def tw2426990478960032267:=0
def tw6569272822226304369:=0
def tw4469156828948762123:=0
def tw6679848247602944406:=0
def tw3393097136723621993:=0
def tw7073303159628962474:=0
def tw7684226009548806062:=0
def tw12014432787577794740:=0
def tw16106251786875227704:=0
def tw5237607713979296562:=0
def tw9252408336222049077:=0
def tw10788906598114118985:=0
def tw1488135796459886166:=0
def tw9641557035586286760:=0
def tw6896354361972011081:=0
def tw11069459653403068772:=0
def tw5811999792220252756:=0
def tw6795384155901193218:=0
def tw5384581412660722404:=0
def tw7291911459538623662:=0
def tw14917719359144216040:=0
def tw976474310009091320:=0
def tw1035972962345307513:=0
def tw2350731037187594796:=0
def tw15933797424703798503:=0
def tw1180998123696171603:=0
def tw17790528265019780231:=0
def tw4014632262747972585:=0
def tw6557412979606925898:=0
def tw2840521181579103542:=0
def tw11764198874750805110:=0
def tw3821884289024803528:=0
def tw1399519925217421213:=0
def tw13214662855348068721:=0
def tw12346391288456723153:=0
def tw7560280795412798886:=0
def tw3452627293841740981:=0
def tw3257429186556116293:=0
def tw10624395897750029815:=0
def tw11563077937291279176:=0
def tw1358733069494156141:=0
def tw12208905056750932895:=0
def tw10731765482693765116:=0
def tw16490458021458720412:=0
def tw12152720939811642412:=0
def tw17531605029649049019:=0
def tw16722708272068795484:=0
def tw8917966366010513733:=0
def tw2860747069940164394:=0
def tw11299356547214152382:=0
def tw12813442968495530251:=0
def tw11475423402919902746:=0
def tw10031998442511822191:=0
def tw15019926360874385591:=0
def tw8686175800691389424:=0
def tw11822032985762172335:=0
def tw14146554129146428299:=0
def tw14314065021087221438:=0
def tw3907546685572007746:=0
def tw3692329054379052732:=0
def tw17135227234436996097:=0
def tw9275124411797409429:=0
def tw11632361267171218821:=0
def tw6465128810836549619:=0
def tw12312324098022968947:=0
def tw7737145081144569227:=0
def tw9589950407619948686:=0
def tw7166999099044865757:=0
def tw4574459027801829994:=0
def tw5898261329709749471:=0
def tw7517752092775948829:=0
def tw17329639795058559624:=0
def tw2663907340414543654:=0
def tw2119432455385784693:=0
def tw15533354398448764353:=0
def tw17690261615662144768:=0
def tw1246984693156780883:=0
def tw7874838078505767509:=0
def tw13872973663504279266:=0
def tw10878781514550498797:=0
def tw5321259251651948425:=0
def tw7824155003404927508:=0
def tw1106987677004989615:=0
def tw2258509711199818745:=0
def tw6086966697633927292:=0
def tw1380612728666115765:=0
def tw16070670007741104111:=0
def tw18401867141532642030:=0
def tw4005066580532561969:=0
def tw10234625856598459524:=0
def tw11658114978957223897:=0
def tw11479269837209107168:=0
def tw8879096830407169034:=0
def tw13703790692185149543:=0
def tw6994475422241619810:=0
def tw457843219449794357:=0
def tw10853295954388838192:=0
def tw16061283567333905333:=0
def tw11466529577369838137:=0
def tw16540815174852794178:=0
def tw10459698759695006184:=0
def tw11568953706837670139:=0
def tw2146049544143802904:=0
def tw10243485514603900644:=0
def tw6274263421133049062:=0
def tw6475845003205162745:=0
def tw6139019299272408164:=0
def tw2148725750530500203:=0
def tw5185442278550070169:=0
def tw4979660925677148672:=0
def tw11093767133167503861:=0
def tw16669295682249765369:=0
def tw15297939686999887734:=0
def tw8699795952573020765:=0
def tw7319868566109941300:=0
def tw13464474394342240948:=0
def tw10338719185786351007:=0
def tw8574915512677058560:=0
def tw2883054971508454039:=0
def tw12438020206497775158:=0
def tw1155095775701751492:=0
def tw15471688418439750842:=0
def tw10608391579099681709:=0
def tw5796660032344418488:=0
def tw1467549588072801735:=0
def tw9369316015567281956:=0
def tw174854699202288943:=0
def tw14464400574254699265:=0
def tw7906457143948386959:=0
def tw1143855543011293900:=0
def tw3626505646344340033:=0
def tw13731011950413592479:=0
def tw4222528081261760617:=0
def tw16445595319276074798:=0
def tw7550068124159881641:=0
def tw16334791790409288636:=0
def tw4957450469967149129:=0
def tw15587778089545001964:=0
def tw10873248868918374113:=0
def tw4740846527204447286:=0
def tw12491498974560136395:=0
def tw7319724003824012591:=0
def tw4606500581241730832:=0
def tw17136637042266761495:=0
def tw17654373675070801084:=0
def tw5081314453720818225:=0
def tw17041450713313689764:=0
def tw2451170799397001964:=0
def tw1971809372474618488:=0
def tw13322109985401591029:=0
def tw5495330186999407014:=0
def tw8553122002615802741:=0
def tw10810466914820796485:=0
def tw3422907799991586996:=0
def tw4396698937241686009:=0
def tw1140593429432316602:=0
def tw17450604573935524160:=0
def tw2691142288160573455:=0
def tw6748524149987014126:=0
def tw1846797308095441794:=0
def tw5693064793350206410:=0
def tw1410221582981663048:=0
def tw11382684025527736812:=0
def tw4444714718526040241:=0
def tw2869117797654554794:=0
def tw2918666371621716750:=0
def tw5384559975838702795:=0
def tw12553922354414410997:=0
def tw10256454481285219033:=0
def tw8673606629713965791:=0
def tw5567272587463320091:=0
def tw7323979974516292021:=0
def tw17189505087787886491:=0
def tw6111825769491844943:=0
def tw15755735109928613322:=0
def tw8027101510187939472:=0
def tw13761485399032938516:=0
def tw14704998816169157623:=0
def tw12422894195409221195:=0
def tw6735984824802343339:=0
def tw16525612425954734640:=0
def tw3688616748411133592:=0
def tw13576698376229660065:=0
def tw7376198580691214923:=0
def tw5622601017881901991:=0
def tw9724753988552484264:=0
def tw6814549389023704988:=0
def tw774786321853742039:=0
def tw17404465074400036146:=0
def tw17061864296009467907:=0
def tw13420180234067306028:=0
end PySem.W.Fast
noncomputable section
section
namespace bu
open PySem PySem.Spec PyProof.Rows
abbrev Key:=Sum Int Str
noncomputable def tl:Key->ao->Bool
|.inl k,v=>Value.isInt k v
|.inr x,v=>Value.isStrOf x v
noncomputable def aaJ(w:b8):Key->Int
|.inl k=>hashInt k
|.inr x=>hashStr w x
def pk:∀{k:Key} {v:ao},tl k v=true->(∃i t,k=Sum.inl i/\v=Value.int i t)\/(∃x t,k=Sum.inr x/\v=Value.str x t)
|.inl i,v,h=>by
  obtain⟨t,e⟩:=Value.isInt_shape (k:=i) (v:=v) h;exact .inl ⟨i,t,rfl,e⟩
|.inr x,v,h=>by
  obtain⟨t,e⟩:=Value.isStrOf_shape (x:=x) (v:=v) h;exact .inr ⟨x,t,rfl,e⟩
def aiG(i:Int)(t:Tok):tl (.inl i) (.int i t)=true:=by simp[tl,Value.isInt]
def aiF(x:Str)(t:Tok):tl (.inr x) (.str x t)=true:=by simp[tl,Value.isStrOf]
def alS(a b:Int):decide ((Sum.inl a:Key)=Sum.inl b)=(a==b):=by
 by_cases e:a=b
 ·subst e;simp
 ·have h:¬(Sum.inl a:Key)=Sum.inl b:=λq=>e (Sum.inl.inj q);rw[decide_eq_false h];exact (beq_eq_false_iff_ne.mpr e).symm
def alP(a b:Str):decide ((Sum.inr a:Key)=Sum.inr b)=decide (a=b):=by
 by_cases e:a=b
 ·subst e;simp
 ·have h:¬(Sum.inr a:Key)=Sum.inr b:=λq=>e (Sum.inr.inj q);rw[decide_eq_false h,decide_eq_false e]
def alR(a:Int)(b:Str):decide ((Sum.inl a:Key)=Sum.inr b)=false:=decide_eq_false (λq=>nomatch q)
def alQ(a:Str)(b:Int):decide ((Sum.inr a:Key)=Sum.inl b)=false:=decide_eq_false (λq=>nomatch q)
noncomputable def hQ(prog:cu)(w:b8):PySem.KeyKind prog w Key where
 is:=tl
 hash:=aaJ w
 inj:=λv a b aA af=>by
  rcases pk aA with ⟨i,t,rfl,rfl⟩|⟨x,t,rfl,rfl⟩
  ·rcases pk af with ⟨j,u,rfl,e⟩|⟨y,u,rfl,e⟩
   ·injection e with aw _;rw[aw]
   ·exact nomatch e
  ·rcases pk af with ⟨j,u,rfl,e⟩|⟨y,u,rfl,e⟩
   ·exact nomatch e
   ·injection e with aw _;rw[aw]
 byValue:=λk v h=>by
  rcases pk h with ⟨i,t,rfl,rfl⟩|⟨x,t,rfl,rfl⟩ <;> rfl
 pyHash:=λbh h=>by
  rcases pk bh with ⟨i,t,rfl,rfl⟩|⟨x,t,rfl,rfl⟩
  ·exact wpAny_pyHash_int h
  ·exact wpAny_pyHash_str h
 eqBool:=λb1 bh h=>by
  rcases pk b1 with ⟨i,t,rfl,rfl⟩|⟨x,t,rfl,rfl⟩
  ·rcases pk bh with ⟨j,u,rfl,rfl⟩|⟨y,u,rfl,rfl⟩
   ·rw[alS] at h;exact wpAny_eqBool_int h
   ·rw[alR] at h;exact SeqAt.EqAt.int_str i t y u _ _ _ _ h
  ·rcases pk bh with ⟨j,u,rfl,rfl⟩|⟨y,u,rfl,rfl⟩
   ·rw[alQ] at h;exact SeqAt.EqAt.str_int x t j u _ _ _ _ h
   ·rw[alP] at h;exact wpAny_eqBool_str h
 «strs»:=λk x t v h=>by
  rcases pk h with ⟨i,u,rfl,e⟩|⟨y,u,rfl,e⟩
  ·exact nomatch e
  ·injection e with aw _
   subst aw;cases v <;> rfl
def RC(prog:cu)(w:b8)(k:Key)(v:ao):(hQ prog w).is k v=tl k v:=rfl
def Rh(prog:cu)(w:b8)(i:Int)(t:Tok):(hQ prog w).is (.inl i) (.int i t)=true:=aiG i t
def Rg(prog:cu)(w:b8)(x:Str)(t:Tok):(hQ prog w).is (.inr x) (.str x t)=true:=aiF x t
end bu
namespace bu
open PySem PySem.Spec PyProof.Rows
inductive V where
|d1|b5 (b:Bool)|int (i:Int)|str (x:Str)|mJ (b:Array UInt8)|xX (b:UInt64)|ref (a:aj)|ty (n:String)
 deriving DecidableEq
noncomputable def RelV:V->ao->Prop
|.d1,u=>u=Value.none
|.b5 b,u=>u=Value.bool b
|.int i,u=>∃t,u=Value.int i t
|.str x,u=>∃t,u=Value.str x t
|.mJ b,u=>∃t,u=Value.bytes b t
|.xX b,u=>∃t,u=Value.float b t
|.ref a,u=>u=Value.ref a
|.ty n,u=>u=Value.type n
abbrev Vals:List V->List ao->Prop:=Paired RelV
theorem Vals.length{xs:List V}{us:List ao}(r:Vals xs us):xs.length=us.length:=Paired.length r
theorem Vals.get:∀{xs:List V} {us:List ao} {i:Nat} {x:V},Vals xs us->xs[i]?=some x->∃u,us[i]?=some u/\RelV x u
|_,_,_,_,.nil,e=>by simp at e
|_,_,0,_,.cons r _,e=>by simp at e;subst e;exact⟨_,rfl,r⟩
|_,_,i+1,x,.cons _ t,e=>by
  obtain⟨u,ah,ar⟩:=Vals.get (i:=i) (x:=x) t (by simpa using e);exact⟨u,by simpa using ah,ar⟩
theorem Vals.append:∀{xs ys:List V} {us ws:List ao},Vals xs us->Vals ys ws->Vals (xs++ys) (us++ws)
|_,_,_,_,.nil,s=>s
|_,_,_,_,.cons r t,s=>.cons r (Vals.append t s)
theorem Vals.take:∀{xs:List V} {us:List ao} (n:Nat),Vals xs us->Vals (xs.take n) (us.take n)
|_,_,0,_=>.nil
|_,_,_+1,.nil=>.nil
|_,_,n+1,.cons r t=>.cons r (Vals.take n t)
theorem Vals.drop:∀{xs:List V} {us:List ao} (n:Nat),Vals xs us->Vals (xs.drop n) (us.drop n)
|_,_,0,r=>r
|_,_,_+1,.nil=>.nil
|_,_,n+1,.cons _ t=>Vals.drop n t
noncomputable def kC:Option V->Option ao->Prop
|some v,some u=>RelV v u
|none,none=>True
|_,_=>False
noncomputable def hB{eT:Type}:List (eT×V)->List (eT×ao)->Prop:=Paired λ(p:eT×V) (q:eT×ao)=>p.1=q.1/\RelV p.2 q.2
noncomputable def dD:Key->V
|.inl i=>.int i
|.inr x=>.str x
inductive ed where
|lst (xs:List V)
|tup (xs:List V)
|fo (kvs:List (Key×V))|nF (kvs:List (List Key×V))
|set (S:Int->Bool) (n:Nat)
|ins (C bE:aj) (aF:List (Str×V))
|own (x:aj)
|jj (aF:List (Str×V))
|met (f x:aj)
|km (lo aQ:Int)
|oP (o:Obj) (u:ed)
|iA (ps:Array ao)
|ext (pz:bL->Prop)
abbrev aB:=aj->Option ed
noncomputable def upd(H:aB)(a:aj)(o:ed):aB:=λb=>if b=a then some o else H b
def dU{H:aB}{a:aj}{o:ed}:upd H a o a=some o:=by unfold upd;rw[if_pos rfl]
def cR{H:aB}{a b:aj}{o:ed}(h:b≠a):upd H a o b=H b:=by unfold upd;rw[if_neg h]
def amD{H:aB}{a b:aj}{o u:ed}(h:H a=some o)(h':H b=some u)(d:o≠u):a≠b:=by
 intro e;subst e;rw[h] at h';exact d (fN h')
def jm{H:aB}{a b:aj}{o:ed}(h:H a=some o)(h':H b=none):a≠b:=by
 intro e;subst e;rw[h] at h';cases h'
section
variable (P:cu)(w:b8)
noncomputable def hV(H:aB)(h:bL)(a:aj):ed->Prop
|.lst xs=>xs.length<=cn/\∃(its:List ao) (n:Nat),Vals xs its/\h.get? a=some {cls:=.type "list",data:=.seq its.toArray n}
|.tup xs=>xs.length<=cn/\∃its:List ao,Vals xs its/\IsTup h a its.toArray
|.fo kvs=>kvs.length<=cn/\(a==sysModules)=false/\∃vs,hB kvs vs/\h.DictOf (hQ P w) a vs
|.nF kvs=>kvs.length<=cn/\(a==sysModules)=false/\∃xs:List (List Key×aj×ao),
   Paired (λ(p:List Key×V) (q:List Key×aj×ao)=>p.1=q.1/\H q.2.1=some (.tup (p.1.map dD))/\RelV p.2 q.2.2) kvs xs /\
   ∃o es ep,h.get? a=some o/\o.ExactDict/\o.data=.dict es ep/\es.toList=xs.map (entryOfKey (tupleKind (hQ P w)))/\(xs.map (·.1)).Nodup
|.set S n=>h.SetOf (intKind P w) a S n
|.ins C bE aF=>H bE=some (.own a)/\aF.length<=1000/\bE≠a/\h.get? a=some (sM C bE) /\
   ∃eJ,h.Ns1 bE eJ/\(∀f,kC (aF.lookup f) (eJ f))/\PySem.Within eJ (aF.map (·.1))
|.own _=>∃o,h.get? a=some o
|.jj aF=>∃eJ,h.Ns1 a eJ/\∀f,kC (aF.lookup f) (eJ f)
|.km lo aQ=>∃t u v,h.get? a=some {cls:=.type "range",data:=.fields #[.int lo t,.int aQ u,.int 1 v]}
|.oP o u=>h.get? a=some o/\hV H h a u
|.iA ps=>h.get? a=some {cls:=.none,data:=.fields ps}
|.met f x=>h.get? a=some (PySem.W.methodObj (.ref f) (.ref x))
|.ext pz=>pz h/\(∃o,h.get? a=some o)/\∀ah ar:bL,pz ah->(∀o,ah.get? a=some o->ar.get? a=some o)->pz ar
noncomputable def eL(H:aB)(h:bL):Prop:=∀a o,H a=some o->hV P w H h a o
end
section
variable {P:cu}{w:b8}{H ag:aB}{h h':bL}{a:aj}{o:ed}
theorem hV.lt(x:hV P w H h a o):a<h.objs.size:=by
 cases o with
|lst xs=>obtain⟨_,_,_,_,e⟩:=x;exact c2 e
|tup xs=>obtain⟨_,_,_,p⟩:=x;exact p.lt
|fo kvs=>obtain⟨_,_,_,_,o,_,_,e,_⟩:=x;exact c2 e
|nF kvs=>obtain⟨_,_,_,_,o,_,_,e,_⟩:=x;exact c2 e
|set S n=>obtain⟨o,_,_,_,e,_⟩:=x;exact c2 e
|ins C bE aF=>obtain⟨_,_,_,e,_⟩:=x;exact c2 e
|own y=>obtain⟨_,e⟩:=x;exact c2 e
|jj aF=>obtain⟨_,⟨_,_,_,e,_⟩,_⟩:=x;exact c2 e
|km lo aQ=>obtain⟨_,_,_,e⟩:=x;exact c2 e
|oP dA u=>obtain⟨e,_⟩:=x;exact c2 e
|iA ps=>exact c2 (show h.get? a=some _ from x)
|met f y=>exact c2 (show h.get? a=some _ from x)
|ext pz=>obtain⟨_,⟨_,e⟩,_⟩:=x;exact c2 e
theorem Paired.JA{α β:Type}{F G:α->β->Prop}:∀{PN:List α} {PO:List β},Paired F PN PO->(∀a b,F a b->G a b)->Paired G PN PO
|_,_,.nil,_=>.nil
|_,_,.cons r t,f=>.cons (f _ _ r) (Paired.JA t f)
def hV.jY(x:hV P w H h a o)(k:∀b u,(b=a\/H b=some (.own a))->h.get? b=some u->h'.get? b=some u)
  (aK:∀b,H b=some (.own a)->ag b=some (.own a)) (bp:∀b xs,H b=some (.tup xs)->ag b=some (.tup xs)):hV P w ag h' a o:=by
 induction o with
|lst xs=>obtain⟨z,its,n,r,e⟩:=x;exact⟨z,its,n,r,k _ _ (.inl rfl) e⟩
|tup xs=>obtain⟨z,its,r,dA,e,c⟩:=x;exact⟨z,its,r,dA,k _ _ (.inl rfl) e,c⟩
|fo kvs=>obtain⟨z,y,vs,r,dA,es,ep,e,c⟩:=x;exact⟨z,y,vs,r,dA,es,ep,k _ _ (.inl rfl) e,c⟩
|nF kvs=>
  obtain⟨z,y,xs,r,dA,es,ep,e,c⟩:=x;exact⟨z,y,xs,Paired.JA r λp q z=>⟨z.1,bp _ _ z.2.1,z.2.2⟩,dA,es,ep,k _ _ (.inl rfl) e,c⟩
|set S n=>obtain⟨dA,es,ep,t,e,c⟩:=x;exact⟨dA,es,ep,t,k _ _ (.inl rfl) e,c⟩
|ins C bE aF=>
  obtain⟨d,z,ne,e,eJ,⟨eB,es,ep,aN,c⟩,r⟩:=x;exact⟨aK _ d,z,ne,k _ _ (.inl rfl) e,eJ,⟨eB,es,ep,k _ _ (.inr d) aN,c⟩,r⟩
|own y=>obtain⟨dA,e⟩:=x;exact⟨dA,k _ _ (.inl rfl) e⟩
|jj aF=>obtain⟨eJ,⟨eB,es,ep,e,c⟩,r⟩:=x;exact⟨eJ,⟨eB,es,ep,k _ _ (.inl rfl) e,c⟩,r⟩
|km lo aQ=>obtain⟨t,u,v,e⟩:=x;exact⟨t,u,v,k _ _ (.inl rfl) e⟩
|oP dA u bM=>obtain⟨e,q⟩:=x;exact⟨k _ _ (.inl rfl) e,bM q⟩
|iA ps=>
  have e:h.get? a=some {cls:=.none,data:=.fields ps}:=x;show h'.get? a=some {cls:=.none,data:=.fields ps};exact k a _ (.inl rfl) e
|met f y=>
  have e:h.get? a=some (PySem.W.methodObj (.ref f) (.ref y)):=x;show h'.get? a=some (PySem.W.methodObj (.ref f) (.ref y));exact k a _ (.inl rfl) e
|ext pz=>obtain⟨p,⟨o,e⟩,st⟩:=x;exact⟨st _ _ p λo q=>k _ _ (.inl rfl) q,⟨o,k _ _ (.inl rfl) e⟩,st⟩
theorem eL.lt(x:eL P w H h)(e:H a=some o):a<h.objs.size:=(x a o e).lt
def eL.fresh(x:eL P w H h)(e:h.objs.size<=a):H a=none:=by
 cases q:H a with
|none=>rfl
|some u=>exact absurd (i0 (x.lt q) e) (Nat.lt_irrefl _)
def eL.kept(x:eL P w H h)(k:∀b u,h.get? b=some u->h'.get? b=some u):eL P w H h':=λa o e=>
 (x a o e).jY (λb u _ q=>k b u q) (λ_ q=>q) λ_ _ q=>q
def eL.laid(x:eL P w H h)(k:∀b u,h.get? b=some u->h'.get? b=some u)(aM:h.objs.size<=a)(new:hV P w (upd H a o) h' a o):eL P w (upd H a o) h':=λb u e=>by
 have bc:=x.fresh aM;by_cases af:b=a
 ·subst af;rw[dU] at e;cases e;exact new
 ·rw[cR af] at e;exact (x b u e).jY (λc v _ q=>k c v q) (λc q=>by rw[cR (jm q bc)];exact q) λc xs q=>by rw[cR (jm q bc)];exact q
end
noncomputable def fT(H:aB)(a:aj)(u:ed):Prop:=H a=some u\/∃o,H a=some (.oP o u)
def fT.ok{P:cu}{w:b8}{H:aB}{h:bL}{a:aj}{u:ed}(r:fT H a u)(x:eL P w H h):hV P w H h a u:=by
 rcases r with r|⟨o,r⟩
 ·exact x a u r
 ·obtain⟨_,q⟩:=x a _ r;exact q
noncomputable def xC:Option ed->Prop
|some (.lst _)=>True
|some (.fo _)=>True
|some (.nF _)=>True
|some (.set _ _)=>True
|some (.ins _ _ _)=>True
|some (.ext _)=>True
|_=>False
section
variable {P:cu}{w:b8}{H:aB}{h h':bL}{x e:aj}{o':ed}
def eL.write(ok:eL P w H h)(l9:xC (H x))(he:e=x\/H e=some (.own x))(k:∀b u,b≠e->h.get? b=some u->h'.get? b=some u)(vT:∃u,h'.get? e=some u)
  (new:hV P w (upd H x o') h' x o'):eL P w (upd H x o') h':=λb u q=>by
 have PZ:∀c y,H c=some (.own y)->c≠x:=λc y r z=>by subst z;rw[r] at l9;exact l9
 have aa3:∀c xs,H c=some (.tup xs)->c≠x:=λc xs r z=>by subst z;rw[r] at l9;exact l9
 by_cases af:b=x
 ·subst af;rw[dU] at q;cases q;exact new
 ·rw[cR af] at q;by_cases ua:b=e
  ·have eO:H b=some (.own x):=by
    rcases he with z|z
    ·exact absurd (ua.trans z) af
    ·rw[ua];exact z
   rw[q] at eO;cases eO;obtain⟨v,bh⟩:=vT;exact⟨v,by rw[ua];exact bh⟩
  ·refine (ok b u q).jY (λc v ax r=>k c v ?_ r) (λc r=>by rw[cR (PZ c b r)];exact r) λc xs r=>by rw[cR (aa3 c xs r)];exact r
   rcases ax with rfl|ax
   ·exact ua
   ·rintro rfl;rcases he with z|z
    ·exact PZ c b ax z
    ·rw[ax] at z;cases z;exact af rfl
end
structure fV(aF ex:List aj)(H ag:aB)(h h':bL):Prop where
 keep:∀b o,h.get? b=some o->H b=none->b∉aF->b∉ex->h'.get? b=some o
 slot:∀b o,h.get? b=some o->H b=none->b∈aF->b∉ex->∃cG,h'.get? b=some {o with slots:=cG}
 free:∀b o,h.get? b=some o->H b=none->b∉ex->ag b=none
 there:∀b o,h.get? b=some o->b∉ex->∃o',h'.get? b=some o'
 lJ:∀b xs,H b=some (.tup xs)->ag b=some (.tup xs)
 kL:∀b o u,H b=some (.oP o u)->ag b=some (.oP o u)
 kQ:∀b ps,H b=some (.iA ps)->∃more,ag b=some (.iA (ps++more))
section
variable {aF ir ex am0:List aj}{H H1 bw:aB}{h ah ar h':bL}{a x e:aj}{o:ed}
def fV.any(u:fV aF ex H H1 h ah){b:aj}{dA:Obj}(q:h.get? b=some dA)(n:H b=none)(hx:b∉ex):∃cG,ah.get? b=some {dA with slots:=cG}:=by
 by_cases af:b∈aF
 ·exact u.slot b dA q n af hx
 ·exact⟨dA.slots,u.keep b dA q n af hx⟩
def fV.kept(k:∀b u,h.get? b=some u->h'.get? b=some u):fV aF ex H H h h':=
 ⟨λb dA q _ _ _=>k b dA q,λb dA q _ _ _=>⟨dA.slots,k b dA q⟩,λ_ _ _ n _=>n,λb dA q _=>⟨dA,k b dA q⟩,λ_ _ q=>q,λ_ _ _ q=>q,λ_ ps q=>⟨#[],by rw[q];simp⟩⟩
def fV.refl:fV aF ex H H h h:=fV.kept λ_ _ q=>q
def fV.laid(k:∀b u,h.get? b=some u->h'.get? b=some u)(aM:h.objs.size<=a)(bc:H a=none):fV aF ex H (upd H a o) h h' where
 keep:=λb u q _ _ _=>k b u q
 slot:=λb u q _ _ _=>⟨u.slots,k b u q⟩
 free:=λb u q n _=>by rw[cR (eQ (i0 (c2 q) aM))];exact n
 there:=λb u q _=>⟨u,k b u q⟩
 lJ:=λb xs q=>by rw[cR (jm q bc)];exact q
 kL:=λb u xs q=>by rw[cR (jm q bc)];exact q
 kQ:=λb ps q=>⟨#[],by rw[cR (jm q bc),q];simp⟩
def fV.write(l9:xC (H x))(he:e=x\/H e=some (.own x))(k:∀b u,b≠e->h.get? b=some u->h'.get? b=some u)(vT:∃u,h'.get? e=some u):fV aF ex H (upd H x o) h h':=by
 have hx:∀b,H b=none->b≠x:=λb n z=>by subst z;rw[n] at l9;exact l9
 have af:∀b,H b=none->b≠e:=λb n z=>by
  subst z;rcases he with r|r
  ·exact hx b n r
  ·rw[n] at r;cases r
 have hm:∀b u,H b=some u->¬xC (some u)->b≠x:=λb u q nm z=>by subst z;rw[q] at l9;exact nm l9
 refine⟨λb u q n _ _=>k b u (af b n) q,λb u q n _ _=>⟨u.slots,k b u (af b n) q⟩,λb u q n _=>by rw[cR (hx b n)];exact n,λb u q _=>?_,
  λb xs q=>by rw[cR (hm b _ q λz=>z)];exact q,λb u xs q=>by rw[cR (hm b _ q λz=>z)];exact q,λb ps q=>⟨#[],by rw[cR (hm b _ q λz=>z),q];simp⟩⟩
 by_cases ua:b=e
 ·subst ua;exact vT
 ·exact⟨u,k b u ua q⟩
end
noncomputable def CI(h:bL)(H:aB):List aj:=(List.range h.objs.size).filter λa=>(H a).isSome
noncomputable def pY(h:bL)(H:aB):bL:=PySem.W.hideAll h (CI h H)
def aiM(h:bL)(H:aB):(pY h H).objs.size=h.objs.size:=PySem.W.hideAll_size _ _
def ajO{h:bL}{H:aB}{b:aj}{o:Obj}(e:h.get? b=some o)(n:H b=none):(pY h H).get? b=some o:=
 PySem.W.hideAll_get _ e λhm=>by
  have q:(H b).isSome=true:=(List.mem_filter.mp hm).2;rw[n] at q;simp at q
def akG{h:bL}{H:aB}{b:aj}{o:Obj}(e:(pY h H).get? b=some o):h.get? b=some o/\H b=none:=by
 have bx:h.get? b=some o:=PySem.W.of_hideAll (CI h H) e;refine⟨bx,?_⟩;cases q:H b with
|none=>rfl
|some x=>
  have hm:b∈CI h H:=List.mem_filter.mpr ⟨List.mem_range.mpr (c2 bx),by simp[q]⟩;have z:(pY h H).get? b=none:=PySem.W.hideAll_none (CI h H) hm;rw[z] at e;cases e
noncomputable def ak4(g h:bL)(L:aj):List (aj×Obj):=(List.range h.objs.size).filterMap λa=>if a=L\/(g.get? a).isSome=true then none else (h.get? a).map λo=>(a,o)
noncomputable def rest(g h:bL)(L d:aj):List (aj×Obj):=(ak4 g h L).filter λp=>decide (p.1≠d)
end bu
namespace bu
open PySem PySem.Spec PyProof.Rows
structure Mod(K:a')(mg:Str->Option ao)(base:bL):Prop where
 oX:K.In base
 glob:base.Ns iY mg
 blt:∃l8,base.Ns builtinsNs l8/\∀x:Str,x≠"__name__"->l8 x=bootBuiltins x
 nolimit:base.NoLimit
structure aY where
 prog:cu
 w:b8
 K:a'
 mg:Str->Option ao
 base:bL
 A:cp
 N:List Str
 dm:aH
 aT:aB
 env:Env
 outer:List Env
 stack:List Env
 ex:List aj
 fn:Str->Bool
 calm:Bool
 du:List (aj×Obj)
 di:ao->aH->Prop
noncomputable def e6(l:List Env):List aj:=l.filterMap (·.frame)
abbrev aY.aF(X:aY):List aj:=e6 X.outer
noncomputable def oB(sc:Scope)(x:Str):Prop:=sc.names.lookup x=some .local\/sc.names.lookup x=some .cell\/sc.names.lookup x=some .free
noncomputable def Loc(sc:Scope)(x:Str):Prop:=sc.names.lookup x=some .local\/sc.names.lookup x=some .cell
noncomputable def Look(env:Env)(h:bL)(m:Str->Option ao)(x:Str)(u:ao):Prop:=
 (env.kindOf x=some .local/\m x=some u)\/((env.kindOf x=some .cell\/env.kindOf x=some .free)/\∃c,env.cells.lookup x=some c/\h.IsCell c (some u))
structure aY.Ok(X:aY):Prop where
 mod:Mod X.K X.mg X.base
 kind:X.env.scope.kind=.function
 glob:X.env.globals=iY
 blt:X.env.builtins=builtinsNs
 above:X.dm.heap.objs.size<=X.env.locals
 inj:∀x y c,X.env.cells.lookup x=some c->X.env.cells.lookup y=some c->x=y
 has:∀x,(X.env.kindOf x=some .cell\/X.env.kindOf x=some .free)->∃c,X.env.cells.lookup x=some c
 tQ:∀x c,X.fn x=true->X.env.cells.lookup x=some c->X.dm.heap.objs.size<=c
 hd:X.calm=true->X.A.handled=none
 frames:X.A.frames=some X.stack
 p8:X.stack=X.outer\/(X.stack=X.env::X.outer/\X.env.frame=some X.env.locals)
 vN:∀b∈X.ex,b≠X.env.locals/\∀x c,X.env.cells.lookup x=some c->c≠b
 bs:∀b o,X.base.get? b=some o->X.dm.heap.get? b=some o/\X.aT b=none
 mI:X.base.objs.size<=X.dm.heap.objs.size
 uy:∀b o,X.base.get? b=some o->b∉X.ex
 tY:∀b∈X.ex,b∉X.aF
 kb:X.dm.heap.FunFrames X.base X.outer
 nI:∀b∈X.aF,X.aT b=none
structure Inv(X:aY)(ak:List (aj×Obj))(σ:List (Option V))(H:aB)(s:aH):Prop where
 ok:X.Ok
 os:s.os=X.dm.os
 bare:AllBare s.gens
 base:fV X.aF X.ex X.aT H X.dm.heap s.heap
 loc:∃m,s.heap.Ns X.env.locals m/\∀(i:Nat) (x:Str) (v:V),X.N[i]?=some x->σ[i]?=some (some v)->oB X.env.scope x->∃u,RelV v u/\Look X.env s.heap m x u
 cell:∀x c,X.env.cells.lookup x=some c->∃v,s.heap.IsCell c v
 free:H X.env.locals=none
 ka:∀x c,X.env.cells.lookup x=some c->H c=none
 pin:∀p∈X.du++ak,s.heap.get? p.1=some p.2/\H p.1=none/\p.1≠X.env.locals/\p.1∉X.aF/\∀v,p.2.data≠.cell v
 bF:eL X.prog X.w H s.heap
 len:σ.length=X.N.length
section
variable {X:aY}{ak:List (aj×Obj)}{σ:List (Option V)}{H ag:aB}{s:aH}{h':bL}
def aY.Ok.aaY(ok:X.Ok){b:aj}{o:Obj}(e:X.base.get? b=some o):b∉X.aF:=λaf=>by
 have:=(ok.kb.mem af).1;rw[e] at this;cases this
theorem Inv.bs(I:Inv X ak σ H s):∀b o,X.base.get? b=some o->s.heap.get? b=some o/\H b=none:=λb o e=>
 ⟨I.base.keep b o (I.ok.bs b o e).1 (I.ok.bs b o e).2 (I.ok.aaY e) (I.ok.uy b o e),I.base.free b o (I.ok.bs b o e).1 (I.ok.bs b o e).2 (I.ok.uy b o e)⟩
def Inv.gI(I:Inv X ak σ H s):∀b o,X.base.get? b=some o->s.heap.get? b=some o:=λb o e=>(I.bs b o e).1
theorem Inv.mod(I:Inv X ak σ H s):Mod X.K X.mg X.base:=I.ok.mod
def Inv.jU(I:Inv X ak σ H s):X.K.In s.heap:=I.ok.mod.oX.keeps I.gI
theorem Inv.lt(I:Inv X ak σ H s):X.env.locals<s.heap.objs.size:=let ⟨_,bc,_⟩:=I.loc;bc.lt
def Inv.anA(I:Inv X ak σ H s):X.dm.heap.objs.size<=s.heap.objs.size:=h9 I.ok.above (Nat.le_of_lt I.lt)
def Inv.aa0(I:Inv X ak σ H s){a:aj}(h:s.heap.objs.size<=a):a∉X.aF:=λaf=>by
 obtain⟨_,o,aK,_⟩:=I.ok.kb.mem af;exact absurd (i0 (c2 aK) (h9 I.anA h)) (Nat.lt_irrefl _)
def Inv.oG(I:Inv X ak σ H s):∀x c,X.env.cells.lookup x=some c->c≠X.env.locals:=λx c e z=>by
 obtain⟨v,o,aK,hd⟩:=I.cell x c e;obtain⟨m,⟨o',es,ep,jv,Hl,_⟩,_⟩:=I.loc;rw[z,jv] at aK;cases aK;rw[Hl] at hd;cases hd
theorem Inv.kb(I:Inv X ak σ H s):s.heap.FunFrames X.base X.outer:=by
 have all:∀(l:List Env),(∀b∈e6 l,b∈X.aF)->X.dm.heap.FunFrames X.base l->s.heap.FunFrames X.base l:=by
  intro l
  induction l with
  |nil=>intro _ _;trivial
  |cons env r bM=>
   intro az aI;obtain⟨aL,⟨L,o,hf,bc,aK,hd⟩,ay⟩:=aI;have fZ:L∈X.aF:=az L (by unfold e6;rw[List.filterMap_cons,hf];exact fg);obtain⟨cG,e⟩:=I.base.slot L o aK (I.ok.nI L fZ) fZ λz=>I.ok.tY L z fZ;exact⟨aL,⟨L,_,hf,bc,e,hd⟩,bM (λb af=>az b (by unfold e6;rw[List.filterMap_cons,hf];exact dF _ af)) ay⟩
 exact all X.outer (λ_ af=>af) I.ok.kb
theorem Inv.stack(I:Inv X ak σ H s):s.heap.FunFrames X.base X.stack:=by
 rcases I.ok.p8 with e|⟨e,hf⟩
 ·rw[e];exact I.kb
 ·rw[e];obtain⟨m,bc,_⟩:=I.loc;refine .cons (by rw[I.ok.kind];decide) hf bc ?_ I.kb;exact Heap.get?_none_of_le (h9 I.ok.mI I.ok.above)
def Inv.CA(I:Inv X ak σ H s):∀b∈e6 X.stack,b∈X.env.locals::X.aF:=λb af=>by
 rcases I.ok.p8 with e|⟨e,hf⟩
 ·rw[e] at af;exact dF _ af
 ·rw[e] at af;unfold e6 at af;rw[List.filterMap_cons,hf] at af;exact af
def Inv.Kv(I:Inv X ak σ H s):∀b∈e6 X.stack,H b=none:=λb af=>by
 rcases cN.mp (I.CA b af) with e|af
 ·rw[e];exact I.free
 ·obtain⟨_,o,aK,_⟩:=I.ok.kb.mem af;exact I.base.free b o aK (I.ok.nI b af) λz=>I.ok.tY b z af
def Inv.step{g':Array GenState}{t':Nat}{d':Drawn}{ch:List aj}(I:Inv X ak σ H s)
  (pV:∀b∈ch,(b∈X.ex\/X.dm.heap.objs.size<=b)/\b≠X.env.locals/\(∀x c,X.env.cells.lookup x=some c->c≠b)/\∀p∈X.du++ak,p.1≠b)
  (keep:∀b o,b≠X.env.locals->b∉X.aF->b∉ch->s.heap.get? b=some o->H b=none->h'.get? b=some o)
  (slot:∀b o,b≠X.env.locals->b∈X.aF->b∉ch->s.heap.get? b=some o->H b=none->∃cG,h'.get? b=some {o with slots:=cG}) (free:∀b o,b∉ch->s.heap.get? b=some o->H b=none->ag b=none)
  (there:∀b o,b∉ch->s.heap.get? b=some o->∃o',h'.get? b=some o')
  (lJ:∀b xs,H b=some (.tup xs)->ag b=some (.tup xs)) (kL:∀b o u,H b=some (.oP o u)->ag b=some (.oP o u)) (kQ:∀b ps,H b=some (.iA ps)->∃more,ag b=some (.iA (ps++more)))
  (ns:∀m,s.heap.Ns X.env.locals m->h'.Ns X.env.locals m) (bF:eL X.prog X.w ag h') (bg:AllBare g'):
  Inv X ak σ ag {s with heap:=h',gens:=g',drawn:=d',toks:=t'}:=by
 have PT:∀b o,X.dm.heap.get? b=some o->b≠X.env.locals:=λb o e=>eQ (i0 (c2 e) I.ok.above);have uw:∀b o,X.dm.heap.get? b=some o->b∉X.ex->b∉ch:=λb o e hx af=>by
  rcases (pV b af).1 with z|z
  ·exact hx z
  ·exact absurd (i0 (c2 e) z) (Nat.lt_irrefl _)
 have cellK:∀x c,X.env.cells.lookup x=some c->∀v,s.heap.IsCell c v->h'.IsCell c v:=λx c e v ⟨o,aK,hd⟩=>by
  have yG:c∉ch:=λz=>(pV c z).2.2.1 x c e rfl;by_cases ax:c∈X.aF
  ·obtain⟨cG,q⟩:=slot c o (I.oG x c e) ax yG aK (I.ka x c e);exact⟨_,q,hd⟩
  ·exact⟨o,keep c o (I.oG x c e) ax yG aK (I.ka x c e),hd⟩
 refine⟨I.ok,I.os,bg,⟨λb o e n af hx=>?_,λb o e n af hx=>?_,λb o e n hx=>?_,λb o e hx=>?_,λb xs e=>lJ b xs (I.base.lJ b xs e),λb o xs e=>kL b o xs (I.base.kL b o xs e),λb ps e=>?_⟩,?_,λx c e=>?_,?_,λx c e=>?_,λp aM=>?_,bF,I.len⟩
 ·exact keep b o (PT b o e) af (uw b o e hx) (I.base.keep b o e n af hx) (I.base.free b o e n hx)
 ·obtain⟨cG,aw⟩:=I.base.slot b o e n af hx;obtain⟨Cx,aN⟩:=slot b _ (PT b o e) af (uw b o e hx) aw (I.base.free b o e n hx);exact⟨Cx,aN⟩
 ·obtain⟨o',aw⟩:=I.base.there b o e hx;exact free b o' (uw b o e hx) aw (I.base.free b o e n hx)
 ·obtain⟨o',aw⟩:=I.base.there b o e hx;exact there b o' (uw b o e hx) aw
 ·obtain⟨jy,aw⟩:=I.base.kQ b ps e;obtain⟨hJ,aN⟩:=kQ b _ aw;exact⟨jy++hJ,by rw[aN,Array.append_assoc]⟩
 ·obtain⟨m,bc,aI⟩:=I.loc;refine⟨m,ns m bc,λi x v aw aN dv=>?_⟩;obtain⟨u,r,l⟩:=aI i x v aw aN dv;refine⟨u,r,?_⟩;rcases l with l|⟨k,c,e,z⟩
  ·exact .inl l
  ·exact .inr ⟨k,c,e,cellK x c e _ z⟩
 ·obtain⟨v,z⟩:=I.cell x c e;exact⟨v,cellK x c e v z⟩
 ·obtain⟨m,⟨o,_,_,aK,_⟩,_⟩:=I.loc;exact free _ o (λz=>(pV _ z).2.1 rfl) aK I.free
 ·obtain⟨v,o,aK,hd⟩:=I.cell x c e;exact free c o (λz=>(pV c z).2.2.1 x c e rfl) aK (I.ka x c e)
 ·obtain⟨e,n,ne,jc,d⟩:=I.pin p aM;have yG:p.1∉ch:=λz=>(pV p.1 z).2.2.2 p aM rfl;exact⟨keep p.1 p.2 ne jc yG e n,free p.1 p.2 yG e n,ne,jc,d⟩
def Inv.un{t':Nat}(I:Inv X ak σ H s)(u:fV X.aF [] H ag s.heap h')(bF:eL X.prog X.w ag h'):Inv X ak σ ag {s with heap:=h',toks:=t'}:=by
 obtain⟨m,⟨o,es,ep,aK,r⟩,_⟩:=id I.loc;obtain⟨cG,fZ⟩:=u.any aK I.free (by simp);exact I.step (g':=s.gens) (d':=s.drawn) (ch:=[]) (λ_ z=>nomatch z) (λb o _ af _ e n=>u.keep b o e n af (by simp)) (λb o _ af _ e n=>u.slot b o e n af (by simp)) (λb o _ e n=>u.free b o e n (by simp)) (λb o _ e=>u.there b o e (by simp)) u.lJ u.kL u.kQ (λl7 hm=>by
  obtain⟨o',ju,GA,jv,cm⟩:=hm;rw[aK] at jv;cases jv;exact⟨_,ju,GA,fZ,cm⟩) bF I.bare
def Inv.call{g':Array GenState}{t':Nat}{d':Drawn}{ch:List aj}(I:Inv X ak σ H s)(u:fV (e6 X.stack) ch H ag s.heap h')(bF:eL X.prog X.w ag h')(bg:AllBare g')
  (pV:∀b∈ch,(b∈X.ex\/X.dm.heap.objs.size<=b)/\b≠X.env.locals/\(∀x c,X.env.cells.lookup x=some c->c≠b)/\∀p∈X.du++ak,p.1≠b):
  Inv X ak σ ag {s with heap:=h',gens:=g',drawn:=d',toks:=t'}:=by
 obtain⟨m,⟨o,es,ep,aK,r⟩,_⟩:=id I.loc;obtain⟨cG,fZ⟩:=u.any aK I.free λz=>(pV _ z).2.1 rfl;exact I.step (ch:=ch) pV (λb o fZ af ax e n=>u.keep b o e n (λz=>(cN.mp (I.CA b z)).elim fZ af) ax) (λb o _ _ ax e n=>u.any e n ax) (λb o ax e n=>u.free b o e n ax) (λb o ax e=>u.there b o e ax) u.lJ u.kL u.kQ (λl7 hm=>by
  obtain⟨o',ju,GA,jv,cm⟩:=hm;rw[aK] at jv;cases jv;exact⟨_,ju,GA,fZ,cm⟩) bF bg
def Inv.turned{t':Nat}{it:aj}(I:Inv X ak σ H s)(k:∀b o,b≠it->s.heap.get? b=some o->h'.get? b=some o)(bc:H it=none)(fZ:it≠X.env.locals)
  (ah:it∈X.ex\/X.dm.heap.objs.size<=it) (ar:∀x c,X.env.cells.lookup x=some c->c≠it) (bk:∀p∈X.du++ak,p.1≠it):Inv X ak σ H {s with heap:=h',toks:=t'}:=by
 have PW:∀b u,H b=some u->b≠it:=λb u e z=>by rw[z,bc] at e;cases e
 refine I.step (g':=s.gens) (d':=s.drawn) (ch:=[it]) (λb af=>?_) (λb o _ _ ax e _=>k b o (λz=>ax (by simp[z])) e) (λb o _ _ ax e _=>⟨o.slots,k b o (λz=>ax (by simp[z])) e⟩) (λ_ _ _ _ n=>n)
  (λb o ax e=>⟨o,k b o (λz=>ax (by simp[z])) e⟩) (λ_ _ e=>e) (λ_ _ _ e=>e) (λb ps e=>⟨#[],by rw[e];simp⟩) (λm hm=>?_) (λb u e=>?_) I.bare
 ·have e:b=it:=by simpa using af
  subst e;exact⟨ah,fZ,ar,bk⟩
 ·obtain⟨o,es,ep,aK,r⟩:=hm;exact⟨o,es,ep,k _ o (Ne.symm fZ) aK,r⟩
 ·refine (I.bF b u e).jY (λc v ax q=>k c v ?_ q) (λ_ q=>q) λ_ _ q=>q
  rcases ax with z|z
  ·rw[z];exact PW b u e
  ·exact PW c _ z
def Inv.tok(I:Inv X ak σ H s)(t:Nat):Inv X ak σ H {s with toks:=t}:=I.un (h':=s.heap) (t':=t) fV.refl I.bF
theorem Inv.kept{t':Nat}(I:Inv X ak σ H s)(k:∀b u,s.heap.get? b=some u->h'.get? b=some u):Inv X ak σ H {s with heap:=h',toks:=t'}:=I.un (fV.kept k) (I.bF.kept k)
theorem Inv.laid{a:aj}{o:ed}{t':Nat}(I:Inv X ak σ H s)(k:∀b u,s.heap.get? b=some u->h'.get? b=some u)(aM:s.heap.objs.size<=a)(new:hV X.prog X.w (upd H a o) h' a o):
  Inv X ak σ (upd H a o) {s with heap:=h',toks:=t'}:=I.un (fV.laid k aM (I.bF.fresh aM)) (I.bF.laid k aM new)
theorem Inv.write{x e:aj}{o:ed}{t':Nat}(I:Inv X ak σ H s)(l9:xC (H x))(he:e=x\/H e=some (.own x))(k:∀b u,b≠e->s.heap.get? b=some u->h'.get? b=some u)(vT:∃u,h'.get? e=some u)
  (new:hV X.prog X.w (upd H x o) h' x o):Inv X ak σ (upd H x o) {s with heap:=h',toks:=t'}:=I.un (fV.write l9 he k vT) (I.bF.write l9 he k vT new)
def Inv.wa{q6:List (aj×Obj)}(I:Inv X ak σ H s)(h:∀p∈q6,s.heap.get? p.1=some p.2/\H p.1=none/\p.1≠X.env.locals/\p.1∉X.aF/\∀v,p.2.data≠.cell v):Inv X q6 σ H s:=
 ⟨I.ok,I.os,I.bare,I.base,I.loc,I.cell,I.free,I.ka,λp aM=>(h8.mp aM).elim (λz=>I.pin p (List.mem_append_left _ z)) (h p),I.bF,I.len⟩
def Me{N:List Str}(dw:N.Nodup){i j:Nat}{x:Str}(a:N[i]?=some x)(b:N[j]?=some x):i=j:=by
 obtain⟨ah,aw⟩:=gU.mp a;obtain⟨ar,aN⟩:=gU.mp b;exact (List.getElem_inj dw).mp (aw.trans aN.symm)
def RT{M:Model}{A:cp}{E:ao->aH->Prop}{i:Nat}{x:Str}{v:V}{u:ao}{Q:Unit->aH->Prop}(I:Inv X ak σ H s)(dw:X.N.Nodup)(aQ:X.N[i]?=some x)(hx:Loc X.env.scope x)(r:RelV v u)
  (h:∀s',Inv X ak (σ.set i (some v)) H s'->(∃a,Heap.SameBut a s.heap s'.heap/\(a=X.env.locals\/X.env.cells.lookup x=some a))->Q () s') (hf:X.fn x=true\/X.env.scope.names.lookup x=some .local:=by first|exact .inl rfl|exact .inr rfl|assumption):a0 M A (storeName X.env x u) Q E s:=by
 obtain⟨m,bc,aI⟩:=id I.loc;have Zy:(X.env.scope.kind==.class || (X.env.scope.kind==.module && X.env.locals != X.env.globals))=false:=by rw[I.ok.kind];rfl
 have Bm:i<σ.length:=by rw[I.len];exact (gU.mp aQ).1
 have oG:=I.oG;have tracked:∀{a:aj} {h':bL},(∃o,s.heap.get? a=some o/\H a=none)->Heap.SameBut a s.heap h'->eL X.prog X.w H h':=λ{a h'} aA az b dA e=>by
  obtain⟨_,_,Pb⟩:=aA;refine (I.bF b dA e).jY (λc df ax q=>(az.2 c ?_).trans q) (λ_ q=>q) λ_ _ q=>q;rintro rfl;rcases ax with rfl|ax
  ·rw[Pb] at e;cases e
  ·rw[Pb] at ax;cases ax
 rcases hx with aL|aL
 ·refine wpAny_storeName_local aL bc (λh' Z0 az=>?_) Zy
  obtain⟨oL,_,_,si,_⟩:=id bc;refine h _ ⟨I.ok,I.os,I.bare,⟨λb o e n af hx=>?_,λb o e n af hx=>?_,I.base.free,λb o e hx=>?_,I.base.lJ,I.base.kL,I.base.kQ⟩,⟨_,Z0,λj y hM aw aN dv=>?_⟩,λy c e=>?_,I.free,I.ka,λp aM=>?_,tracked ⟨oL,si,I.free⟩ az,by simpa using I.len⟩ ⟨_,az,.inl rfl⟩
  ·exact (az.2 b (eQ (i0 (c2 e) I.ok.above))).trans (I.base.keep b o e n af hx)
  ·obtain⟨cG,aw⟩:=I.base.slot b o e n af hx;exact⟨cG,(az.2 b (eQ (i0 (c2 e) I.ok.above))).trans aw⟩
  ·obtain⟨o',aw⟩:=I.base.there b o e hx;exact⟨o',(az.2 b (eQ (i0 (c2 e) I.ok.above))).trans aw⟩
  ·by_cases bS:j=i
   ·subst bS;rw[aQ] at aw;cases aw;rw[List.getElem?_set_self Bm] at aN;cases aN;exact⟨u,r,.inl ⟨aL,by simp⟩⟩
   ·rw[List.getElem?_set_ne (Ne.symm bS)] at aN;obtain⟨uK,cm,q⟩:=aI j y hM aw aN dv;refine⟨uK,cm,?_⟩;rcases q with ⟨k,e⟩|⟨k,c,e,z⟩
    ·refine .inl ⟨k,?_⟩
     have:y≠x:=λe=>bS (Me dw aw (e▸aQ));simp[this,e]
    ·exact .inr ⟨k,c,e,z.sameBut az (oG y c e)⟩
  ·obtain⟨df,z⟩:=I.cell y c e;exact⟨df,z.sameBut az (oG y c e)⟩
  ·obtain⟨e,n,ne,jc,d⟩:=I.pin p aM;exact⟨(az.2 p.1 ne).trans e,n,ne,jc,d⟩
 ·have Hs:X.fn x=true:=by
   rcases hf with z|z
   ·exact z
   ·rw[z] at aL;cases aL
  obtain⟨c,ax⟩:=I.ok.has x (.inl aL);obtain⟨df,z⟩:=I.cell x c ax;refine wpAny_storeName_cell I.ok.kind aL ax z (λh' dx az=>?_);obtain⟨gQ,Pm,Z4⟩:=id z;refine h {s with heap:=h'} ⟨I.ok,I.os,I.bare,⟨λb o e n af hx=>?_,λb o e n af hx=>?_,I.base.free,λb o e hx=>?_,I.base.lJ,I.base.kL,I.base.kQ⟩,⟨m,bc.sameBut az (Ne.symm (oG x c ax)),λj y hM aw aN dv=>?_⟩,λy bZ e=>?_,I.free,I.ka,λp aM=>?_,tracked ⟨gQ,Pm,I.ka x c ax⟩ az,by simpa using I.len⟩ ⟨c,az,.inr ax⟩
  ·exact (az.2 b (eQ (i0 (c2 e) (I.ok.tQ x c Hs ax)))).trans (I.base.keep b o e n af hx)
  ·obtain⟨cG,aw⟩:=I.base.slot b o e n af hx;exact⟨cG,(az.2 b (eQ (i0 (c2 e) (I.ok.tQ x c Hs ax)))).trans aw⟩
  ·obtain⟨o',aw⟩:=I.base.there b o e hx;exact⟨o',(az.2 b (eQ (i0 (c2 e) (I.ok.tQ x c Hs ax)))).trans aw⟩
  ·by_cases bS:j=i
   ·subst bS;rw[aQ] at aw;cases aw;rw[List.getElem?_set_self Bm] at aN;cases aN;exact⟨u,r,.inr ⟨.inl aL,c,ax,dx⟩⟩
   ·rw[List.getElem?_set_ne (Ne.symm bS)] at aN;obtain⟨uK,cm,q⟩:=aI j y hM aw aN dv;refine⟨uK,cm,?_⟩;rcases q with q|⟨k,bZ,e,i3⟩
    ·exact .inl q
    ·refine .inr ⟨k,bZ,e,i3.sameBut az ?_⟩
     rintro rfl;exact bS (Me dw aw (I.ok.inj _ _ _ e ax▸aQ))
  ·by_cases O5:bZ=c
   ·subst O5;exact⟨_,dx⟩
   ·obtain⟨o8,gD⟩:=I.cell y bZ e;exact⟨o8,gD.sameBut az O5⟩
  ·obtain⟨e,n,ne,jc,d⟩:=I.pin p aM;refine⟨(az.2 p.1 ?_).trans e,n,ne,jc,d⟩;intro q;rw[q,Pm] at e;have eO:gQ=p.2:=fN e;exact d df (by rw[<- eO];exact Z4)
def L9{M:Model}{A:cp}{E:ao->aH->Prop}{i:Nat}{x:Str}{v:V}{u:ao}{Q:Unit->aH->Prop}(I:Inv X ak σ H s)(dw:X.N.Nodup)(aQ:X.N[i]?=some x)(hx:Loc X.env.scope x)(r:RelV v u)
  (h:∀s',Inv X ak (σ.set i (some v)) H s'->Q () s') (hf:X.fn x=true\/X.env.scope.names.lookup x=some .local:=by first|exact .inl rfl|exact .inr rfl|assumption):a0 M A (storeName X.env x u) Q E s:=
 RT I dw aQ hx r (λs' ov _=>h s' ov) hf
def Inv.NQ{s':aH}{ch:List aj}(I:Inv X ak σ H s)(aK:s'.os=s.os)(u:fV (e6 X.stack) ch H ag s.heap s'.heap)(bF:eL X.prog X.w ag s'.heap)(bg:AllBare s'.gens)
  (pV:∀b∈ch,(b∈X.ex\/X.dm.heap.objs.size<=b)/\b≠X.env.locals/\(∀x c,X.env.cells.lookup x=some c->c≠b)/\∀p∈X.du++ak,p.1≠b):Inv X ak σ ag s':=by
 obtain⟨h',g',d',t',o'⟩:=s';have e:o'=s.os:=aK;subst e;exact I.call (g':=g') (t':=t') (d':=d') u bF bg pV
end
abbrev e5:=ao->Option aj->aB->Prop
abbrev St:=List (Option V)
abbrev c0:=V->aB->Prop
abbrev TE:=St->aB->c0->Prop
abbrev TT:=St->aB->(Bool->aB->Prop)->Prop
abbrev fH:=St->aB->(List V->aB->Prop)->Prop
structure Ends where
 bG:St->aB->Prop
 dE:c0
 gI:St->aB->Prop:=λ_ _=>False
 cP:St->aB->Prop:=λ_ _=>False
abbrev fU:=Ends->St->aB->Prop
noncomputable def gX(X:aY)(ak:List (aj×Obj))(σ:St)(Q:c0)(u:ao)(s':aH):Prop:=∃v ag,Inv X ak σ ag s'/\RelV v u/\Q v ag
noncomputable def Ax(X:aY)(ak:List (aj×Obj))(σ:St)(Q:Bool->aB->Prop)(b:Bool)(s':aH):Prop:=∃ag,Inv X ak σ ag s'/\Q b ag
noncomputable def UC(X:aY)(ak:List (aj×Obj))(σ:St)(Q:List V->aB->Prop)(us:List ao)(s':aH):Prop:=∃vs ag,Inv X ak σ ag s'/\Vals vs us/\Q vs ag
noncomputable def qC(X:aY)(ak:List (aj×Obj))(D:Ends)(f:Flow)(s':aH):Prop:=
 match f with
|.next=>∃cj ag,Inv X ak cj ag s'/\D.bG cj ag
|.brk=>∃cj ag,Inv X ak cj ag s'/\D.gI cj ag
|.cont=>∃cj ag,Inv X ak cj ag s'/\D.cP cj ag
|.ret u=>∃v cj ag,Inv X ak cj ag s'/\RelV v u/\D.dE v ag
noncomputable def b0(X:aY)(e:bt)(t:TE):Prop:=
 ∀(ak:List (aj×Obj)) (s:aH) (σ:St) (H:aB) (Q:c0),Inv X ak σ H s->t σ H Q->a0 (unop%Wk 0) X.A (eval e X.env) (gX X ak σ Q) X.di s
noncomputable def i8(X:aY)(e:bt)(t:TT):Prop:=
 ∀(ak:List (aj×Obj)) (s:aH) (σ:St) (H:aB) (Q:Bool->aB->Prop),Inv X ak σ H s->t σ H Q->a0 (unop%Wk 0) X.A (isTrue e X.env (eval e X.env)) (Ax X ak σ Q) X.di s
noncomputable def anI(X:aY)(e:bt)(t:TT):Prop:=
 ∀(whole:Sem ao) (ak:List (aj×Obj)) (s:aH) (σ:St) (H:aB) (Q:Bool->aB->Prop),Inv X ak σ H s->t σ H Q->a0 (unop%Wk 0) X.A (isTrue e X.env whole) (Ax X ak σ Q) X.di s
def anI.pt{X:aY}{e:bt}{t:TT}(h:anI X e t):i8 X e t:=h _
noncomputable def fR(X:aY)(es:List bt)(t:fH):Prop:=
 ∀(pos:Pos) (ak:List (aj×Obj)) (s:aH) (σ:St) (H:aB) (Q:List V->aB->Prop),Inv X ak σ H s->t σ H Q->a0 (unop%Wk 0) X.A (spliced (unop%Wu 0)) (UC X ak σ Q) X.di s
noncomputable def hY(X:aY)(st:Stmt)(t:fU):Prop:=
 ∀(ak:List (aj×Obj)) (s:aH) (σ:St) (H:aB) (D:Ends),Inv X ak σ H s->t D σ H->a0 (unop%Wk 0) X.A (exec st X.env) (qC X ak D) X.di s
noncomputable def fS(X:aY)(st:List Stmt)(t:fU):Prop:=
 ∀(ak:List (aj×Obj)) (s:aH) (σ:St) (H:aB) (D:Ends),Inv X ak σ H s->t D σ H->a0 (unop%Wk 0) X.A (execs st X.env) (qC X ak D) X.di s
def cH{α:Type}{t:Sem α}{Q Aw:α->aH->Prop}{M:Model}{A:cp}{E:ao->aH->Prop}{s:aH}(h:a0 M A t Q E s)(hn:∀a s,Q a s->Aw a s):a0 M A t Aw E s:=et h hn λ_ _ x=>x
end bu
namespace bu
open PySem PySem.Spec PyProof.Rows
section
variable {X:aY}
noncomputable def gS(i:Nat):TE:=λσ H Q=>∃v,σ[i]?=some (some v)/\Q v H
noncomputable def jH(v:V):TE:=λ_ H Q=>Q v H
def alA{i:Nat}{x:Str}{pos:Pos}(dw:X.N[i]?=some x)(bh:oB X.env.scope x)(hd:(x==("__debug__":Str))=false:=by decide)(eg:(x==("__classdict__":Str))=false:=by decide):b0 X (.Name x pos) (gS i):=by
 intro ak s σ H Q I h;obtain⟨v,e,h⟩:=h;obtain⟨m,bc,aI⟩:=I.loc;obtain⟨u,r,l⟩:=aI i x v dw e bh;have fin:gX X ak σ Q u s:=⟨v,H,I,r,h⟩;rcases l with ⟨aL,hm⟩|⟨aL,c,ax,vS⟩
 ·exact wpAny_Name (wpAny_loadName_local I.ok.kind aL bc hm fin) hd
 ·rcases aL with aL|aL
  ·exact wpAny_Name (wpAny_loadName_cell I.ok.kind aL ax vS fin) hd
  ·exact wpAny_Name (wpAny_loadName_free I.ok.kind aL ax vS fin eg) hd
def Eb{i j pos}:b0 X (.Constant (.int i) j pos) (jH (.int i)):=λ_ _ _ H _ I h=>wpAny_Constant_int ⟨.int i,H,I.tok _,⟨_,rfl⟩,h⟩
def M'{b j pos}:b0 X (.Constant (.bool b) j pos) (jH (.b5 b)):=λ_ _ _ H _ I h=>Constant_bool ⟨.b5 b,H,I,rfl,h⟩
def alB{j pos}:b0 X (.Constant .none j pos) (jH .d1):=λ_ _ _ H _ I h=>Constant_none ⟨.d1,H,I,rfl,h⟩
def z4{x j pos}:b0 X (.Constant (.str x) j pos) (jH (.str x)):=λ_ _ _ H _ I h=>Calls.Constant_str ⟨.str x,H,I.tok _,⟨_,rfl⟩,h⟩
noncomputable def dZ(X:aY)(x:Str):Prop:=X.env.kindOf x=some .globalImplicit
def vh{E:ao->aH->Prop}{ak:List (aj×Obj)}{s:aH}{σ:St}{H:aB}{x:Str}{u:ao}{pos:Pos}{Q:ao->aH->Prop}(I:Inv X ak σ H s)(bg:dZ X x)(hm:X.mg x=some u)(h:Q u s)
  (hd:(x==("__debug__":Str))=false:=by decide):a0 (unop%Wk 0) X.A (eval (.Name x pos) X.env) Q E s:=
 Calls.Name_function_global I.ok.kind bg (Calls.loadGlobal_global (by rw[I.ok.glob];exact I.mod.glob.keeps I.gI) hm h) hd
def pv{E:ao->aH->Prop}{ak:List (aj×Obj)}{s:aH}{σ:St}{H:aB}{x:Str}{u:ao}{pos:Pos}{Q:ao->aH->Prop}(I:Inv X ak σ H s)(bg:dZ X x)(hm:X.mg x=none)(bh:bootBuiltins x=some u)(h:Q u s)
  (bc:x≠"__name__":=by decide) (hd:(x==("__debug__":Str))=false:=by decide):a0 (unop%Wk 0) X.A (eval (.Name x pos) X.env) Q E s:=by
 obtain⟨l8,ah,ar⟩:=I.mod.blt;exact Calls.Name_function_global I.ok.kind bg (Calls.loadGlobal_builtin (by rw[I.ok.glob];exact I.mod.glob.keeps I.gI) hm (by rw[I.ok.blt];exact ah.keeps I.gI) ((ar x bc).trans bh) h) hd
def w1{x:Str}{v:V}{u:ao}{pos:Pos}(bg:dZ X x)(hm:X.mg x=some u)(r:RelV v u)(hd:(x==("__debug__":Str))=false:=by decide):b0 X (.Name x pos) (jH v):=
 λ_ _ _ H _ I h=>vh I bg hm ⟨v,H,I,r,h⟩ hd
def akw{x:Str}{v:V}{u:ao}{pos:Pos}(bg:dZ X x)(hm:X.mg x=none)(bh:bootBuiltins x=some u)(r:RelV v u)(bc:x≠"__name__":=by decide)(hd:(x==("__debug__":Str))=false:=by decide):b0 X (.Name x pos) (jH v):=
 λ_ _ _ H _ I h=>pv I bg hm bh ⟨v,H,I,r,h⟩ bc hd
variable {a b:bt}{cy de:TE}{pos:Pos}
noncomputable def ES(X:aY)(op:CmpOp)(a b:bt)(t:TE):Prop:=
 ∀(ak:List (aj×Obj)) (s:aH) (σ:St) (H:aB) (Q:c0),Inv X ak σ H s->t σ H Q ->
  a0 (unop%Wk 0) X.A (eval a X.env) (λv cZ=>a0 (unop%Wk 0) X.A (eval b X.env) (λu jZ=>a0 (unop%Wk 0) X.A (i2 op v u) (gX X ak σ Q) X.di jZ) X.di cZ) X.di s
def ajA(b:bt){op:CmpOp}(h:op≠.In)(ar:op≠.NotIn):qf op b=false:=by
 have aw:(op==CmpOp.In)=false:=by cases op <;> first|rfl|exact absurd rfl h
 have aN:(op==CmpOp.NotIn)=false:=by cases op <;> first|rfl|exact absurd rfl ar
 cases b <;> simp[qf,aw,aN]
noncomputable def ae3(cy:TE):TE:=λσ H Q=>cy σ H λx H1=>Q (.b5 (decide (x=.d1))) H1
noncomputable def amc(cy:TE):TE:=λσ H Q=>cy σ H λx H1=>Q (.b5 (!decide (x=.d1))) H1
def RelV.PY{x:V}{v:ao}(r:RelV x v):(v==Value.none)=decide (x=.d1):=by
 cases x with
|d1=>cases r;rfl
|b5 _=>cases r;rfl
|int _=>obtain⟨t,rfl⟩:=r;rfl
|str _=>obtain⟨t,rfl⟩:=r;rfl
|mJ _=>obtain⟨t,rfl⟩:=r;rfl
|xX _=>obtain⟨t,rfl⟩:=r;rfl
|ref _=>cases r;rfl
|ty _=>cases r;rfl
def alE{j pos'}(aA:b0 X a cy):ES X .Is a (.Constant .none j pos') (ae3 cy):=by
 intro ak s σ H Q I h;refine cH (aA ak s σ H _ I h) λv s1 hqq=>?_;obtain⟨x,H1,ba,a_,aP⟩:=hqq;exact Constant_none (is_none_gen ⟨.b5 _,H1,ba,by rw[a_.PY];rfl,aP⟩)
def akx{j pos'}(aA:b0 X a cy):ES X .IsNot a (.Constant .none j pos') (amc cy):=by
 intro ak s σ H Q I h;refine cH (aA ak s σ H _ I h) λv s1 hqq=>?_;obtain⟨x,H1,ba,a_,aP⟩:=hqq;exact Constant_none (isnot_none_gen ⟨.b5 _,H1,ba,by rw[a_.PY];rfl,aP⟩)
noncomputable def Kx(t:TE):TT:=λσ H Q=>t σ H λx H1=>∃c,x=.b5 c/\Q c H1
def TY{op:CmpOp}{t:TE}(h:ES X op a b t)(ah:qf op b=false:=by first|exact ajA _ (by decide) (by decide)|rfl):i8 X (.Compare a [op] [b] pos) (Kx t):=by
 intro ak s σ H Q I hw;refine wpAny_isTrue_Compare1 (cH (h ak s σ H _ I hw) λv s1 ah=>cH ah λu s2 ar=>cH ar λc s3 hqq=>?_) ah;obtain⟨x,H1,ba,a_,aP⟩:=hqq;obtain⟨d,rfl,q⟩:=aP;cases a_;exact sQ ⟨H1,ba,q⟩
def TX{e:bt}{t:TE}(h:b0 X e t)(he:∀whole,isTrue e X.env whole=(do let v <- whole;standAt e.pos;holding [v] (truthy v)):=by intro _;rfl):i8 X e (Kx t):=by
 intro ak s σ H Q I hw;refine isTrue_plain (cH (h ak s σ H _ I hw) λv s1 hqq=>?_) (he _);obtain⟨x,H1,ba,a_,aP⟩:=hqq;obtain⟨d,rfl,q⟩:=aP;cases a_;exact sQ ⟨H1,ba,q⟩
variable {n2 CC:TT}{rest:List bt}
noncomputable def Qr(t u:TT):TT:=λσ H Q=>t σ H λc H1=>if c=true then u σ H1 Q else Q false H1
noncomputable def ae5(t u:TT):TT:=λσ H Q=>t σ H λc H1=>if c=true then Q true H1 else u σ H1 Q
noncomputable def ae4(t:TT):TT:=λσ H Q=>t σ H λc H1=>Q (!c) H1
def Ta(aA:i8 X a n2):anI X (.BoolOp .And [a] pos) n2:=by
 intro za ak s σ H Q I h;refine isTrue_and (cH (aA ak s σ H Q I h) λc s1 e=>?_);cases c with
|true=>exact isTrue_and_nil e
|false=>exact e
def alr(aA:i8 X a n2):anI X (.BoolOp .Or [a] pos) n2:=by
 intro za ak s σ H Q I h;refine isTrue_or (cH (aA ak s σ H Q I h) λc s1 e=>?_);cases c with
|false=>exact isTrue_or_nil e
|true=>exact e
def TV(aA:i8 X a n2)(af:anI X (.BoolOp .And (b::rest) pos) CC):anI X (.BoolOp .And (a::b::rest) pos) (Qr n2 CC):=by
 intro za ak s σ H Q I h;refine isTrue_and (cH (aA ak s σ H _ I h) λc s1 hqq=>?_);obtain⟨H1,ba,aP⟩:=hqq;cases c with
|true=>exact af za ak s1 σ H1 Q ba aP
|false=>exact⟨H1,ba,aP⟩
def amw(aA:i8 X a n2)(af:anI X (.BoolOp .Or (b::rest) pos) CC):anI X (.BoolOp .Or (a::b::rest) pos) (ae5 n2 CC):=by
 intro za ak s σ H Q I h;refine isTrue_or (cH (aA ak s σ H _ I h) λc s1 hqq=>?_);obtain⟨H1,ba,aP⟩:=hqq;cases c with
|true=>exact⟨H1,ba,aP⟩
|false=>exact af za ak s1 σ H1 Q ba aP
def alv(aA:i8 X a n2):i8 X (.UnaryOp .Not a pos) (ae4 n2):=by
 intro ak s σ H Q I h;exact isTrue_not (aA ak s σ H (λc H1=>Q (!c) H1) I h)
noncomputable def amh(cy de:TE):TE:=λσ H Q=>cy σ H λx H1=>∃c,x=.b5 c/\if c=true then de σ H1 Q else Q (.b5 false) H1
noncomputable def ae6(cy de:TE):TE:=λσ H Q=>cy σ H λx H1=>∃c,x=.b5 c/\if c=true then Q (.b5 true) H1 else de σ H1 Q
def TZ{op}{t:TE}(h:b0 X a t):b0 X (.BoolOp op [a] pos) t:=λak s σ H Q I hw=>BoolOp_one (h ak s σ H Q I hw)
def alD(aA:b0 X a cy)(af:b0 X (.BoolOp .And (b::rest) pos) de):b0 X (.BoolOp .And (a::b::rest) pos) (amh cy de):=by
 intro ak s σ H Q I h;refine BoolOp_and (cH (aA ak s σ H _ I h) λv s1 hqq=>?_);obtain⟨x,H1,ba,a_,aP⟩:=hqq;obtain⟨c,rfl,aP⟩:=aP;cases a_;refine sQ ?_;cases c with
|true=>exact af ak s1 σ H1 Q ba aP
|false=>exact⟨.b5 false,H1,ba,rfl,aP⟩
def amy(aA:b0 X a cy)(af:b0 X (.BoolOp .Or (b::rest) pos) de):b0 X (.BoolOp .Or (a::b::rest) pos) (ae6 cy de):=by
 intro ak s σ H Q I h;refine BoolOp_or (cH (aA ak s σ H _ I h) λv s1 hqq=>?_);obtain⟨x,H1,ba,a_,aP⟩:=hqq;obtain⟨c,rfl,aP⟩:=aP;cases a_;refine sQ ?_;cases c with
|false=>exact af ak s1 σ H1 Q ba aP
|true=>exact⟨.b5 true,H1,ba,rfl,aP⟩
noncomputable def ae2(t:TT)(cy de:TE):TE:=λσ H Q=>t σ H λc H1=>if c=true then cy σ H1 Q else de σ H1 Q
def ajt{c:bt}(ax:i8 X c n2)(aA:b0 X a cy)(af:b0 X b de):b0 X (.IfExp c a b pos) (ae2 n2 cy de):=by
 intro ak s σ H Q I h;refine wpAny_IfExp (cH (ax ak s σ H _ I h) λd s1 hqq=>?_);obtain⟨H1,ba,aP⟩:=hqq;cases d with
|true=>exact aA ak s1 σ H1 Q ba aP
|false=>exact af ak s1 σ H1 Q ba aP
end
end bu
namespace bu
open PySem PySem.Spec PyProof.Rows
noncomputable def fi(K:a')(H:aB)(a:aj)(xs:List V):Prop:=
 fT H a (.lst xs) \/
  ∃(o:Obj) (its:Array ao) (n:Nat),K.lookup a=some o/\o.cls=.type "list"/\o.dict=none/\o.data=.seq its n/\its.size<=cn/\Vals xs its.toList
noncomputable def c'(K:a')(H:aB)(a:aj)(xs:List V):Prop:=
 fT H a (.tup xs) \/
  ∃(o:Obj) (its:Array ao) (n:Nat),K.lookup a=some o/\o.cls=.type "tuple"/\o.data=.seq its n/\its.size<=cn/\Vals xs its.toList
noncomputable def V':ao->Option V
|.none=>some .d1
|.bool b=>some (.b5 b)
|.int i _=>some (.int i)
|.str x _=>some (.str x)
|.bytes b _=>some (.mJ b)
|.float b _=>some (.xX b)
|.ref a=>some (.ref a)
|.type n=>some (.ty n)
|_=>none
def RelV.abs{x:V}{u:ao}(r:RelV x u):V' u=some x:=by
 cases x with
|d1=>cases r;rfl
|b5 _=>cases r;rfl
|int _=>obtain⟨t,rfl⟩:=r;rfl
|str _=>obtain⟨t,rfl⟩:=r;rfl
|mJ _=>obtain⟨t,rfl⟩:=r;rfl
|xX _=>obtain⟨t,rfl⟩:=r;rfl
|ref _=>cases r;rfl
|ty _=>cases r;rfl
def RelV.inj{x y:V}{u:ao}(r:RelV x u)(q:RelV y u):x=y:=fN (r.abs.symm.trans q.abs)
theorem Vals.inj:∀{xs ys:List V} {us:List ao},Vals xs us->Vals ys us->xs=ys
|_,_,_,.nil,.nil=>rfl
|_,_,_,.cons r t,.cons cm t'=>by rw[r.inj cm,Vals.inj t t']
section
variable {X:aY}{ak:List (aj×Obj)}{σ:St}{H:aB}{s:aH}{a:aj}{xs ys:List V}
def fi.of{K:a'}(h:H a=some (.lst xs)):fi K H a xs:=.inl (.inl h)
def c'.of{K:a'}(h:H a=some (.tup xs)):c' K H a xs:=.inl (.inl h)
def Inv.list(I:Inv X ak σ H s)(h:fi X.K H a xs):∃its:List ao,Vals xs its/\PlainL s.heap a its.toArray/\xs.length<=cn:=by
 rcases h with h|⟨o,its,n,aL,ax,hd,az,au,r⟩
 ·obtain⟨z,its,n,r,e⟩:=h.ok I.bF;exact⟨its,r,⟨_,n,e,rfl,rfl,rfl⟩,z⟩
 ·refine⟨its.toList,r,⟨o,n,I.jU a o aL,ax,hd,by simpa using az⟩,?_⟩
  have e:=r.length;simp only[sN] at e;omega
def Inv.tuple(I:Inv X ak σ H s)(h:c' X.K H a xs):∃its:List ao,Vals xs its/\IsTup s.heap a its.toArray/\xs.length<=cn:=by
 rcases h with h|⟨o,its,n,aL,ax,az,au,r⟩
 ·obtain⟨z,its,r,p⟩:=h.ok I.bF;exact⟨its,r,p,z⟩
 ·refine⟨its.toList,r,⟨o,I.jU a o aL,ax,n,by simpa using az⟩,?_⟩
  have e:=r.length;simp only[sN] at e;omega
def Inv.aaP(I:Inv X ak σ H s)(h:fi X.K H a xs)(h':fi X.K H a ys):xs=ys:=by
 obtain⟨its,r,⟨o,n,e,_,_,d⟩,_⟩:=I.list h;obtain⟨its',cm,⟨o',yD,bx,_,_,d'⟩,_⟩:=I.list h';rw[e] at bx;cases bx;rw[d] at d';injection d' with xR _;have:its=its':=by simpa using congrArg Array.toList xR
 subst this;exact r.inj cm
def Inv.KQ(I:Inv X ak σ H s)(h:c' X.K H a xs)(h':c' X.K H a ys):xs=ys:=by
 obtain⟨its,r,⟨o,e,_,n,d⟩,_⟩:=I.tuple h;obtain⟨its',cm,⟨o',bx,_,yD,d'⟩,_⟩:=I.tuple h';rw[e] at bx;cases bx;rw[d] at d';injection d' with xR _;have:its=its':=by simpa using congrArg Array.toList xR
 subst this;exact r.inj cm
end
abbrev aY.kR(X:aY)(E:ao->aH->Prop):aY:={X with di:=E}
abbrev aY.d9(X:aY):aY:=X.kR λ_ _=>False
theorem aY.Ok.kR{X:aY}(ok:X.Ok)(E:ao->aH->Prop):(X.kR E).Ok:=
 ⟨ok.mod,ok.kind,ok.glob,ok.blt,ok.above,ok.inj,ok.has,ok.tQ,ok.hd,ok.frames,ok.p8,ok.vN,ok.bs,ok.mI,ok.uy,ok.tY,ok.kb,ok.nI⟩
def aY.Ok.n4{X:aY}{E:ao->aH->Prop}(ok:(X.kR E).Ok):X.Ok:=
 ⟨ok.mod,ok.kind,ok.glob,ok.blt,ok.above,ok.inj,ok.has,ok.tQ,ok.hd,ok.frames,ok.p8,ok.vN,ok.bs,ok.mI,ok.uy,ok.tY,ok.kb,ok.nI⟩
section
variable {X:aY}{ak:List (aj×Obj)}{σ:St}{H:aB}{s:aH}{E:ao->aH->Prop}
theorem Inv.kR(I:Inv X ak σ H s)(E:ao->aH->Prop):Inv (X.kR E) ak σ H s:=⟨I.ok.kR E,I.os,I.bare,I.base,I.loc,I.cell,I.free,I.ka,I.pin,I.bF,I.len⟩
theorem Inv.n4(I:Inv (X.kR E) ak σ H s):Inv X ak σ H s:=⟨I.ok.n4,I.os,I.bare,I.base,I.loc,I.cell,I.free,I.ka,I.pin,I.bF,I.len⟩
theorem qC.n4{D:Ends}{f:Flow}{s':aH}(h:qC (X.kR E) ak D f s'):qC X ak D f s':=by
 cases f with
|next=>obtain⟨cj,ag,I,q⟩:=h;exact⟨cj,ag,I.n4,q⟩
|brk=>obtain⟨cj,ag,I,q⟩:=h;exact⟨cj,ag,I.n4,q⟩
|cont=>obtain⟨cj,ag,I,q⟩:=h;exact⟨cj,ag,I.n4,q⟩
|ret u=>obtain⟨v,cj,ag,I,r,q⟩:=h;exact⟨v,cj,ag,I.n4,r,q⟩
theorem b0.d9{e:bt}{t:TE}(h:b0 X.d9 e t):b0 X e t:=λak s σ H Q I hw=>
 et (h ak s σ H Q (I.kR _) hw) (λ_ _ ⟨v,ag,ov,r,q⟩=>⟨v,ag,ov.n4,r,q⟩) λ_ _ z=>d6 z
theorem i8.d9{e:bt}{t:TT}(h:i8 X.d9 e t):i8 X e t:=λak s σ H Q I hw=>
 et (h ak s σ H Q (I.kR _) hw) (λ_ _ ⟨ag,ov,q⟩=>⟨ag,ov.n4,q⟩) λ_ _ z=>d6 z
theorem fS.d9{st:List Stmt}{t:fU}(h:fS X.d9 st t):fS X st t:=λak s σ H D I hw=>
 et (h ak s σ H D (I.kR _) hw) (λ_ _ q=>q.n4) λ_ _ z=>d6 z
end
section
variable {X:aY}{st:Stmt}{rest:List Stmt}{t u:fU}{e:bt}{g8:TE}{pos:Pos}
noncomputable def Uo:fU:=λD σ H=>D.bG σ H
noncomputable def CF(t u:fU):fU:=λD σ H=>t {D with bG:=u D} σ H
def Tb:fS X [] Uo:=λ_ _ σ H _ I h=>wpAny_execs_nil ⟨σ,H,I,h⟩
def vb(ah:hY X st t)(ar:fS X rest u):fS X (st::rest) (CF t u):=by
 intro ak s σ H D I h;refine wpAny_execs_cons (cH (ah ak s σ H {D with bG:=u D} I h) λf s1 q=>?_);cases f with
|next=>
  obtain⟨cj,ag,ov,q⟩:=q;exact ar ak s1 cj ag D ov q
|ret v=>exact q
|brk=>exact q
|cont=>exact q
def vf(ah:hY X st t):fS X [st] t:=by
 intro ak s σ H D I h;refine wpAny_execs_cons (cH (ah ak s σ H D I h) λf s1 q=>?_);cases f with
|next=>exact wpAny_execs_nil q
|ret v=>exact q
|brk=>exact q
|cont=>exact q
def Inv.quiet{ak:List (aj×Obj)}{σ:St}{H:aB}{s:aH}(I:Inv X ak σ H s):interactive X.env=false:=by simp[interactive,I.ok.kind]
noncomputable def ame(g8:TE):fU:=λD σ H=>g8 σ H λ_ H1=>D.bG σ H1
def zW(he:b0 X e g8)(az:kr e none pos.line X.env=pure false:=by rfl):hY X (.Expr e pos) (ame g8):=by
 intro ak s σ H D I h;exact wpAny_Expr_any (cH (he ak s σ H _ I h) λv s1 ⟨x,H1,ba,a_,aP⟩=>⟨σ,H1,ba,aP⟩) I.quiet az
noncomputable def Qu(g8:TE):fU:=λD σ H=>g8 σ H D.dE
def xa(he:b0 X e g8):hY X (.Return (some e) pos) (Qu g8):=by
 intro ak s σ H D I h;exact wpAny_Return_some (cH (he ak s σ H _ I h) λv s1 ⟨x,H1,ba,a_,aP⟩=>⟨x,σ,H1,ba,a_,aP⟩)
noncomputable def ama:fU:=λD _ H=>D.dE .d1 H
def akj:hY X (.Return none pos) ama:=λ_ _ σ H _ I h=>wpAny_Return_none ⟨.d1,σ,H,I,rfl,h⟩
noncomputable def Qs(c:TT)(t u:fU):fU:=λD σ H=>c σ H λb H1=>if b=true then t D σ H1 else u D σ H1
def El{c:bt}{a b:List Stmt}{tc:TT}(ax:i8 X c tc)(aA:fS X a t)(af:fS X b u):hY X (.If c a b pos) (Qs tc t u):=by
 intro ak s σ H D I h;refine wpAny_If (cH (ax ak s σ H _ I h) λd s1 hqq=>?_);obtain⟨H1,ba,aP⟩:=hqq;cases d with
|true=>exact aA ak s1 σ H1 D ba aP
|false=>exact af ak s1 σ H1 D ba aP
end
abbrev oA:=V->St->aB->(St->aB->Prop)->Prop
abbrev qD:=List V->St->aB->(St->aB->Prop)->Prop
noncomputable def rP(X:aY)(target:bt)(t:oA):Prop:=
 ∀(ak:List (aj×Obj)) (s:aH) (σ:St) (H:aB) (v:V) (u:ao) (Q:St->aB->Prop),Inv X ak σ H s->RelV v u->t v σ H Q ->
  a0 (unop%Wk 0) X.A (assign target X.env u) (λ_ s'=>∃cj ag,Inv X ak cj ag s'/\Q cj ag) X.di s
noncomputable def tH(X:aY)(ts:List bt)(t:qD):Prop:=
 ∀(ak:List (aj×Obj)) (s:aH) (σ:St) (H:aB) (vs:List V) (us:List ao) (Q:St->aB->Prop),Inv X ak σ H s->Vals vs us->t vs σ H Q ->
  a0 (unop%Wk 0) X.A (assignInOrder ((pe ts X.env).map (·.2)) us) (λ_ s'=>∃cj ag,Inv X ak cj ag s'/\Q cj ag) X.di s
section
variable {X:aY}{pos:Pos}
noncomputable def tm(i:Nat):oA:=λv σ H Q=>Q (σ.set i (some v)) H
def akr{i:Nat}{x:Str}(dw:X.N.Nodup)(aQ:X.N[i]?=some x)(hx:Loc X.env.scope x)(hf:X.fn x=true\/X.env.scope.names.lookup x=some .local:=by first|exact .inl rfl|exact .inr rfl|assumption):rP X (.Name x pos) (tm i):=by
 intro ak s σ H v u Q I r h;exact wpAny_assign_Name (L9 I dw aQ hx r (λs' ov=>⟨_,H,ov,h⟩) hf)
noncomputable def Y1:qD:=λvs σ H Q=>vs=[]/\Q σ H
noncomputable def amJ(t:oA)(u:qD):qD:=λvs σ H Q=>∃v r,vs=v::r/\t v σ H λcj ag=>u r cj ag Q
def akq:tH X [] Y1:=by
 intro ak s σ H vs us Q I r h;obtain⟨e,h⟩:=h;subst e;cases r;exact assignInOrder_nil ⟨σ,H,I,h⟩
def ajr{e:bt}{es:List bt}{t:oA}{u:qD}(ah:rP X e t)(ar:tH X es u)
  (az:(pe (e::es) X.env).map (·.2)=assign e X.env::(pe es X.env).map (·.2):=by rfl):tH X (e::es) (amJ t u):=by
 intro ak s σ H vs us Q I r h;obtain⟨v,KU,aw,h⟩:=h;subst aw;cases r with
|cons r m1=>
  rw[az];refine assignInOrder_cons (cH (ah ak s σ H _ _ _ I r h) λ_ s1 hqq=>?_);obtain⟨Nh,H1,ba,aP⟩:=hqq;exact ar ak s1 Nh H1 _ _ Q ba m1 aP
noncomputable def Y2(K:a')(n:Nat)(t:qD):oA:=λv σ H Q=>∃a xs,v=.ref a/\c' K H a xs/\xs.length=n/\t xs σ H Q
def alz{es:List bt}{k:Nat}{t:qD}{n:Nat}(ax:X.calm=true)(h:tH X es t)
  (bc:(pe es X.env).length=n:=by rfl) (gg:(pe es X.env).findIdx? (·.1)=none:=by rfl):rP X (.Tuple es k pos) (Y2 X.K n t):=by
 intro ak s σ H v u Q I r hw;obtain⟨a,xs,aw,aX,aI,hw⟩:=hw;subst aw;cases r;obtain⟨its,bW,bp,au⟩:=I.tuple aX;refine assign_Tuple_tuple (I.ok.hd ax) bp (by simp[bc,<- aI,bW.length]) gg λh' hx=>?_;have ba:Inv X ak σ H {s with heap:=h'}:=I.kept (t':=s.toks) λb o e=>hx b o (eQ (c2 e)) e;exact h ak _ σ H xs _ Q ba (by simpa using bW) hw
noncomputable def sI(g8:TE)(g:oA):fU:=λD σ H=>g8 σ H λx H1=>g x σ H1 D.bG
def aly{cV e:bt}{g8:TE}{g:oA}(he:b0 X e g8)(bg:rP X cV g)(az:swapsWithSole [cV] e pos.line X.env=pure false:=by rfl)(hw:swappedStores [cV] e X.env=pure none:=by rfl)
  (ah:(pe [cV] X.env).map (·.2)=[assign cV X.env]:=by rfl):hY X (.Assign [cV] e pos) (sI g8 g):=by
 intro ak s σ H D I h;refine wpAny_Assign_stores (cH (he ak s σ H _ I h) λv s1 hqq=>?_) az hw;obtain⟨x,H1,ba,a_,aP⟩:=hqq;rw[ah];exact cH (bg ak s1 σ H1 x v _ ba a_ aP) λ_ s2 q=>q
def td{i:Nat}{x:Str}{e:bt}{g8:TE}{pos':Pos}(dw:X.N.Nodup)(aQ:X.N[i]?=some x)(hx:Loc X.env.scope x)(he:b0 X e g8)(az:kr e (some (.Name x pos')) pos.line X.env=pure false:=by rfl)(hf:X.fn x=true\/X.env.scope.names.lookup x=some .local:=by first|exact .inl rfl|exact .inr rfl|assumption):
  hY X (.Assign [.Name x pos'] e pos) (sI g8 (tm i)):=by
 intro ak s σ H D I h;refine wpAny_Assign_Name (cH (he ak s σ H _ I h) λv s1 hqq=>?_) az;obtain⟨y,H1,ba,a_,aP⟩:=hqq;exact L9 ba dw aQ hx a_ (λs2 cq=>⟨_,H1,cq,aP⟩) hf
end
structure mH where
 go:Nat->aB->Prop
 ph:Nat->aB->V->aB->Prop
 stop:Nat->aB->Prop
noncomputable def il(X:aY)(ak:List (aj×Obj))(H:aB)(b:aj):Prop:=
 H b=none/\b≠X.env.locals/\b∉X.aF/\(b∈X.ex\/X.dm.heap.objs.size<=b)/\(∀x c,X.env.cells.lookup x=some c->c≠b)/\∀p∈X.du++ak,p.1≠b
def Inv.vQ{X:aY}{ak:List (aj×Obj)}{σ:St}{H ag:aB}{s:aH}{b:aj}(I:Inv X ak σ H s)(af:s.heap.objs.size<=b)(bc:ag b=none):il X ak ag b:=by
 refine⟨bc,hO (i0 I.lt af),I.aa0 af,.inr (h9 I.anA af),λx c e z=>?_,λp aM z=>?_⟩
 ·obtain⟨v,q⟩:=I.cell x c e;exact absurd (i0 q.lt (by rw[z];exact af)) (Nat.lt_irrefl _)
 ·exact absurd (i0 (c2 (I.pin p aM).1) (by rw[z];exact af)) (Nat.lt_irrefl _)
structure Turn(P:cu)(w:b8)(K:a')(cV:bt)(J:mH)(ct:List aj)(it:aj)(jI:Nat->bL->Prop):Prop where
 mem:it∈ct
 obj:∀i h,jI i h->∀b∈ct,∃o,h.get? b=some o/\∀v,o.data≠.cell v
 keep:∀i h h',jI i h->(∀b∈ct,∀o,h.get? b=some o->h'.get? b=some o)->jI i h'
 item:∀(X:aY),X.prog=P->X.w=w->X.K=K->X.calm=true->∀(i:Nat) (ak:List (aj×Obj)) (s:aH) (σ:St) (H:aB) (E:ao->aH->Prop),Inv X ak σ H s->(∀b∈ct,il X ak H b)->jI i s.heap->J.go i H ->
  a0 (bA P w) X.A (pyNext (.ref it)) (λr s1=>∃u,r=some u /\
   a0 (bA P w) X.A (letOwnedTupleGo cV (.ref it) u) (λ_ s2=>∃x ag,Inv X ak σ ag s2/\RelV x u/\J.ph i H x ag/\jI (i+1) s2.heap/\∀b∈ct,ag b=none) E s1) E s
 done:∀(X:aY),X.prog=P->X.w=w->X.K=K->X.calm=true->∀(i:Nat) (ak:List (aj×Obj)) (s:aH) (σ:St) (H:aB) (E:ao->aH->Prop),Inv X ak σ H s->(∀b∈ct,il X ak H b)->jI i s.heap->J.stop i H ->
  a0 (bA P w) X.A (pyNext (.ref it)) (λr s1=>r=none/\Inv X ak σ H s1) E s
 self:∀(A:cp) (i:Nat) (s:aH) (Q:ao->aH->Prop) (E:ao->aH->Prop),jI i s.heap->Q (.ref it) s->a0 (bA P w) A (pyIter (.ref it)) Q E s
abbrev TI:=St->aB->(mH->aB->Prop)->Prop
noncomputable def NF(X:aY)(ak:List (aj×Obj))(σ:St)(cV:bt)(R:mH->aB->Prop)(Il:ao)(s2:aH):Prop:=
 ∃(it:aj) (ct:List aj) (jI:Nat->bL->Prop) (J:mH) (ag:aB),Il=.ref it/\Inv X ak σ ag s2/\Turn X.prog X.w X.K cV J ct it jI/\jI 0 s2.heap/\(∀b∈ct,il X ak ag b)/\R J ag
noncomputable def qB(X:aY)(cV iter:bt)(q9:TI):Prop:=
 ∀(ak:List (aj×Obj)) (s:aH) (σ:St) (H:aB) (R:mH->aB->Prop),Inv X ak σ H s->q9 σ H R ->
  a0 (unop%Wk 0) X.A (eval iter X.env) (λv s1=>a0 (unop%Wk 0) X.A (pyIter v) (NF X ak σ cV R) X.di s1) X.di s
def Nb{M:Model}{A:cp}{E:ao->aH->Prop}{s:aH}{cV:bt}{it:aj}{u:ao}{o:Obj}{n:String}{vs:Array ao}{Q:Unit->aH->Prop}(aK:s.heap.get? it=some o)(ax:o.cls=.type n)(hd:o.data=.fields vs)
    (bc:["enumerate","zip","dict_itemiterator","dict_reverseitemiterator","odict_iterator","itertools.zip_longest","itertools.pairwise"].contains n=false) (hn:Q () s):a0 M A (letOwnedTupleGo cV (.ref it) u) Q E s:=by
  unfold letOwnedTupleGo;cases cV <;> first
    |exact bX hn
    | (cases u <;> first
        |exact bX hn
        | (refine aO (wpAny_load aK ?_)
           rw[ax,hd];show a0 M A (if (["enumerate","zip","dict_itemiterator","dict_reverseitemiterator","odict_iterator","itertools.zip_longest","itertools.pairwise"].contains n && vs[0]?==some (gW _))=true then _ else _) Q E s;rw[if_neg (by intro h;rw[bc,Bool.false_and] at h;cases h)];exact bX hn))
noncomputable def EK(K:a')(a:aj):mH:=
 ⟨λi H=>∃xs x,fi K H a xs/\xs[i]?=some x,λi H x ag=>ag=H/\∀xs,fi K H a xs->xs[i]?=some x,λi H=>∃xs,fi K H a xs/\xs.length<=i⟩
noncomputable def EL(K:a')(a:aj):mH:=
 ⟨λi H=>∃xs x,c' K H a xs/\xs[i]?=some x,λi H x ag=>ag=H/\∀xs,c' K H a xs->xs[i]?=some x,λi H=>∃xs,c' K H a xs/\xs.length<=i⟩
noncomputable def xA(lo:Int)(n:Nat):mH:=⟨λi _=>i<n,λi H x ag=>ag=H/\x=.int (lo+i),λi _=>n<=i⟩
def ah6{P:cu}{w:b8}{K:a'}{cV:bt}(a it:aj):Turn P w K cV (EK K a) [it] it (λi h=>h.IsListIter it a i) where
 mem:=by simp
 obj:=λi h st b af=>by
  have e:b=it:=by simpa using af
  subst e;obtain⟨o,e,c,d⟩:=st;exact⟨o,e,λv z=>by rw[d] at z;cases z⟩
 keep:=λi h h' st k=>st.at λo e=>k it (by simp) o e
 item:=by
  intro X fC hw iO ax i ak s σ H E I hf st bg;subst fC hw iO;obtain⟨xs,x,aX,hx⟩:=bg;obtain⟨its,bW,p,au⟩:=I.list aX;obtain⟨u,b1,cY⟩:=bW.get hx;obtain⟨f0,f1,f2,i',f4,ja⟩:=hf it (by simp);refine wpAny_pyNext_list_item st p.isList (x:=u) (by simpa using b1) λh' o6 jF=>?_;have ba:Inv X ak σ H {s with heap:=h'}:=I.turned (t':=s.toks) (λb o af e=>(jF.2 b af).trans e) f0 f1 i' f4 ja;obtain⟨o,e,c,d⟩:=id o6;exact⟨u,rfl,Nb (s:={s with heap:=h'}) e c d (by decide) ⟨x,H,ba,cY,⟨rfl,λys a7=>by rw[I.aaP a7 aX];exact hx⟩,o6,λb af=>(hf b af).1⟩⟩
 done:=by
  intro X fC hw iO ax i ak s σ H E I hf st bg;subst fC hw iO;obtain⟨xs,aX,hx⟩:=bg;obtain⟨its,bW,p,au⟩:=I.list aX;obtain⟨f0,f1,f2,i',f4,ja⟩:=hf it (by simp);have aI:=bW.length;exact wpAny_pyNext_list_end (I.ok.hd ax) st p.isList (by simp;omega) λh' d4=>⟨rfl,I.turned (t':=s.toks) (λb o af e=>d4 b o af e) f0 f1 i' f4 ja⟩
 self:=λ_ _ _ _ _ st h=>wpAny_pyIter_listiter st h
def ahj{P:cu}{w:b8}{K:a'}{cV:bt}(a it:aj):Turn P w K cV (EL K a) [it] it (λi h=>h.IsTupleIter it a i) where
 mem:=by simp
 obj:=λi h st b af=>by
  have e:b=it:=by simpa using af
  subst e;obtain⟨o,e,c,d⟩:=st;exact⟨o,e,λv z=>by rw[d] at z;cases z⟩
 keep:=λi h h' st k=>st.at λo e=>k it (by simp) o e
 item:=by
  intro X fC hw iO ax i ak s σ H E I hf st bg;subst fC hw iO;obtain⟨xs,x,aX,hx⟩:=bg;obtain⟨its,bW,p,au⟩:=I.tuple aX;obtain⟨u,b1,cY⟩:=bW.get hx;obtain⟨f0,f1,f2,i',f4,ja⟩:=hf it (by simp);refine wpAny_pyNext_tuple_item st (show s.heap.IsTuple a its.toArray from p) (x:=u) (by simpa using b1) λh' o6 jF=>?_;have ba:Inv X ak σ H {s with heap:=h'}:=I.turned (t':=s.toks) (λb o af e=>(jF.2 b af).trans e) f0 f1 i' f4 ja;obtain⟨o,e,c,d⟩:=id o6;exact⟨u,rfl,Nb (s:={s with heap:=h'}) e c d (by decide) ⟨x,H,ba,cY,⟨rfl,λys a7=>by rw[I.KQ a7 aX];exact hx⟩,o6,λb af=>(hf b af).1⟩⟩
 done:=by
  intro X fC hw iO ax i ak s σ H E I hf st bg;subst fC hw iO;obtain⟨xs,aX,hx⟩:=bg;obtain⟨its,bW,p,au⟩:=I.tuple aX;obtain⟨f0,f1,f2,i',f4,ja⟩:=hf it (by simp);have aI:=bW.length;exact wpAny_pyNext_tuple_end (I.ok.hd ax) st (show s.heap.IsTuple a its.toArray from p) (by simp;omega) λh' d4=>⟨rfl,I.turned (t':=s.toks) (λb o af e=>d4 b o af e) f0 f1 i' f4 ja⟩
 self:=λ_ _ _ _ _ st h=>wpAny_pyIter_tupleiter st h
def ahk{P:cu}{w:b8}{K:a'}{cV:bt}(it:aj)(lo:Int)(n:Nat):Turn P w K cV (xA lo n) [it] it (λi h=>IsRangeIter h it (lo+(i:Nat)*1) ((n:Int) - (i:Nat)) 1) where
 mem:=by simp
 obj:=λi h st b af=>by
  have e:b=it:=by simpa using af
  subst e;exact⟨_,st,λv z=>by
   have i3:Data.fields _=Data.cell v:=z;cases i3⟩
 keep:=λi h h' st k=>k it (by simp) _ st
 item:=by
  intro X fC hw iO ax i ak s σ H E I hf st bg;subst fC hw iO;obtain⟨f0,f1,f2,i',f4,ja⟩:=hf it (by simp);have W:=Walks.range (prog:=X.prog) (w:=X.w) (I.ok.hd ax) it lo 1 n;refine W.item i s _ _ bg st λv h' tk bh o6 b9=>?_;obtain⟨t,rfl⟩:=bh;have ba:Inv X ak σ H {s with heap:=h',toks:=tk}:=I.turned (λb o af e=>b9 b o (by simpa using af) e) f0 f1 i' f4 ja;refine⟨_,rfl,Nb (s:={s with heap:=h',toks:=tk}) (n:="range_iterator") o6 rfl rfl (by decide) ⟨.int (lo+i),H,ba,⟨t,?_⟩,⟨rfl,rfl⟩,o6,λb af=>(hf b af).1⟩⟩;rw[Int.mul_one]
 done:=by
  intro X fC hw iO ax i ak s σ H E I hf st bg;subst fC hw iO;obtain⟨f0,f1,f2,i',f4,ja⟩:=hf it (by simp);exact wpAny_pyNext_range_end (I.ok.hd ax) st (by have:n<=i:=bg;omega) λh' d4=>⟨rfl,I.turned (t':=s.toks) (λb o af e=>d4 b o af e) f0 f1 i' f4 ja⟩
 self:=λ_ _ _ _ _ st h=>wpAny_pyIter_rangeiter st h
end bu
namespace bu
open PySem PySem.Spec PyProof.Rows
section
variable {X:aY}{cV:bt}
def SF{ak:List (aj×Obj)}{σ:St}{H:aB}{s:aH}{R:mH->aB->Prop}{E:ao->aH->Prop}{lo aQ:Int}{t u v:Tok}{tk:Nat}(I:Inv X ak σ H s)(ah:-(2 ^ 62)<=lo)(ar:lo<2 ^ 62)(bk:-(2 ^ 62)<=aQ)(cB:aQ<2 ^ 62)
  (q:R (xA lo (aQ - lo).toNat) H):a0 (unop%Wk 0) X.A (pyIter (unop%WB 0)) (NF X ak σ cV R) E {s with heap:=s.heap.push {cls:=.type "range",data:=.fields #[.int lo t,.int aQ u,.int 1 v]},toks:=tk}:=by
 refine wpAny_pyIter_range (IsRange.new ..) (small_one ah ar bk cB) ?_
 have ba:Inv X ak σ H {s with heap:=s.heap.push {cls:=.type "range",data:=.fields #[.int lo t,.int aQ u,.int 1 v]},toks:=tk}:=I.kept λb o e=>cQ _ e;refine⟨(s.heap.push {cls:=.type "range",data:=.fields #[.int lo t,.int aQ u,.int 1 v]}).objs.size,[(s.heap.push {cls:=.type "range",data:=.fields #[.int lo t,.int aQ u,.int 1 v]}).objs.size],_,_,H,rfl,
  ba.kept (t':=tk) λb o e=>cQ _ e,ahk _ lo (aQ - lo).toNat,?_,λb af=>?_,q⟩
 ·have aw:lo+((0:Nat):Int)*1=lo:=by simp
  have aN:(((aQ - lo).toNat:Nat):Int) - ((0:Nat):Int)=Builtin.Range.rangeSize lo aQ 1:=by rw[rangeSize_one];split <;> omega
  show IsRangeIter _ _ (lo+((0:Nat):Int)*1) ((((aQ - lo).toNat:Nat):Int) - ((0:Nat):Int)) 1
  rw[aw,aN];exact fx _ rfl
 ·have e:b=(s.heap.push {cls:=.type "range",data:=.fields #[.int lo t,.int aQ u,.int 1 v]}).objs.size:=by simpa using af
  subst e;exact ba.vQ (dy _) (ba.bF.fresh (dy _))
noncomputable def amH(cy:fH):TI:=λσ H R=>cy σ H λvs H1=>∃j:Int,vs=[.int j]/\-(2 ^ 62)<=j/\j<2 ^ 62/\R (xA 0 j.toNat) H1
noncomputable def amG(cy:fH):TI:=λσ H R=>cy σ H λvs H1=>∃i j:Int,vs=[.int i,.int j]/\(-(2 ^ 62)<=i/\i<2 ^ 62/\-(2 ^ 62)<=j/\j<2 ^ 62)/\R (xA i (j - i).toNat) H1
def ain{a:bt}{cy:fH}{p pos:Pos}(bg:dZ X "range")(hm:X.mg "range"=none)(aA:fR X [a] cy)(az:a9 [a] X.env=[(false,eval a X.env)]:=by rfl):qB X cV (.Call (.Name "range" p) [a] [] pos) (amH cy):=by
 intro ak s σ H R I h;refine Call_ (pv I bg hm boot_range (wt (cH (aA pos ak s σ H _ I h) λus s1 hqq=>?_) az rfl));obtain⟨vs,H1,ba,a_,aP⟩:=hqq;obtain⟨j,e,aP,bf,q⟩:=aP;subst e;cases a_ with
|cons r m1=>
  cases m1
  obtain⟨t,rfl⟩:=r;exact call_range_1 (SF ba (by omega) (by omega) aP bf (by simpa using q))
def aim{a b:bt}{cy:fH}{p pos:Pos}(bg:dZ X "range")(hm:X.mg "range"=none)(aA:fR X [a,b] cy)(az:a9 [a,b] X.env=[(false,eval a X.env),(false,eval b X.env)]:=by rfl)(g0:a9 [b] X.env=[(false,eval b X.env)]:=by rfl):
  qB X cV (.Call (.Name "range" p) [a,b] [] pos) (amG cy):=by
 intro ak s σ H R I h;refine Call_ (pv I bg hm boot_range (wt (cH (aA pos ak s σ H _ I h) λus s1 hqq=>?_) (by rw[az,g0]) (by rw[g0];rfl)));obtain⟨vs,H1,ba,a_,aP⟩:=hqq;obtain⟨i,j,e,⟨aP,bf,dc,jB⟩,q⟩:=aP;subst e;cases a_ with
|cons r m1=>
  cases m1 with
  |cons cm m1=>
   cases m1
   obtain⟨t,rfl⟩:=r;obtain⟨t',rfl⟩:=cm;exact call_range_2 (SF ba aP bf dc jB q)
noncomputable def ae0(q9:TI)(g:oA)(de:fU):fU:=λD σ H=>q9 σ H λJ H1=>∃W:Nat->Nat->St->aB->Prop,(∃m,W 0 m σ H1)/\∀i m σ H,W i m σ H ->
 (J.stop i H/\D.bG σ H)\/(J.go i H/\∃N:St->aB->Prop,(∀cj ag,N cj ag->∃l7,l7<m/\W (i+1) l7 cj ag)/\∀x ag,J.ph i H x ag->g x σ ag λxt bw=>de {D with bG:=N,cP:=N,gI:=D.bG} xt bw)
noncomputable def z2(ct:List aj)(h:bL):List (aj×Obj):=ct.filterMap λb=>(h.get? b).map λo=>(b,o)
def DB{ct:List aj}{h:bL}{b:aj}{o:Obj}(af:b∈ct)(e:h.get? b=some o):(b,o)∈z2 ct h:=List.mem_filterMap.mpr ⟨b,af,by rw[e];rfl⟩
def aiq{ct:List aj}{h:bL}{p:aj×Obj}(aM:p∈z2 ct h):p.1∈ct/\h.get? p.1=some p.2:=by
 obtain⟨b,af,e⟩:=List.mem_filterMap.mp aM;cases q:h.get? b with
|none=>rw[q] at e;cases e
|some o=>
  rw[q] at e;have bx:(b,o)=p:=fN e;subst bx;exact⟨af,q⟩
def Inv.pinned{ak:List (aj×Obj)}{σ:St}{H:aB}{s:aH}{ct:List aj}(I:Inv X ak σ H s)(hf:∀b∈ct,il X ak H b)(aK:∀b∈ct,∃o,s.heap.get? b=some o/\∀v,o.data≠.cell v):Inv X (ak++z2 ct s.heap) σ H s:=
 I.wa λp aM=>(h8.mp aM).elim (λz=>I.pin p (j3 _ z)) λz=>by
  obtain⟨af,e⟩:=aiq z;obtain⟨f0,f1,f2,_⟩:=hf p.1 af;obtain⟨o,bx,d⟩:=aK p.1 af;rw[e] at bx;cases bx;exact⟨e,f0,f1,f2,d⟩
def Inv.CL{ak pl:List (aj×Obj)}{σ:St}{H:aB}{s:aH}(I:Inv X (ak++pl) σ H s):Inv X ak σ H s:=I.wa λp aM=>I.pin p (j3 _ (List.mem_append_left _ aM))
def alx{iter:bt}{body:List Stmt}{q9:TI}{g:oA}{de:fU}{pos:Pos}(aM:PassesOwn (unop%Wk 0) X.A X.env X.di)(ax:X.calm=true)(aQ:qB X cV iter q9)(bg:rP X cV g)(af:fS X body de)
  (az:∀x,wy iter X.env x=pure x:=by intro _;rfl):hY X (.For cV iter body [] pos) (ae0 q9 g de):=by
 intro ak s σ H D I h;refine wpAny_For (cH (aQ ak s σ H _ I h) λv s1 ah=>cH ah λIl s2 ar=>?_) az;obtain⟨it,ct,jI,J,bw,e,cq,T,kn,f2,W,⟨m0,CM⟩,turn⟩:=ar;subst e;have uE:∀{ag:aB},(∀b∈ct,ag b=none)->∀b∈ct,il X ak ag b:=λbc b af=>⟨bc b af,(f2 b af).2⟩;refine codeAny_forLoop_any (λn s'=>∃i cj ag,Inv X ak cj ag s'/\jI i s'.heap/\(∀b∈ct,ag b=none)/\W i n cj ag) ?_ m0 ⟨0,σ,bw,cq,kn,λb af=>(f2 b af).1,CM⟩;rintro n s3 ⟨i,nx,eZ,ej,y2,xY,CN⟩;rcases turn i n nx eZ CN with ⟨stop,anL⟩|⟨go,N,dw,step⟩
 ·refine wpAny_passesOwn aM (cH (T.done X rfl rfl rfl ax i ak s3 nx eZ X.di ej (uE xY) y2 stop) λr s4 hqq=>?_);obtain⟨ay,mG⟩:=hqq
  subst ay;exact wpAny_execs_nil ⟨nx,eZ,mG,anL⟩
 ·refine wpAny_passesOwn aM (cH (T.item X rfl rfl rfl ax i ak s3 nx eZ X.di ej (uE xY) y2 go) λr s4 hqq=>?_);obtain⟨u,ay,cB⟩:=hqq
  subst ay;refine wpAny_passesOwn aM (cH cB λ_ s5 hqq=>?_);obtain⟨x,k',tC,yR,KX,uD,G5⟩:=hqq;have EF:=tC.pinned (uE G5) (T.obj _ _ uD);refine wpAny_passesOwn aM (cH (bg _ s5 nx k' x u _ EF yR (step x k' KX)) λ_ dM hqq=>?_);obtain⟨anQ,vx,xy,sE⟩:=hqq;refine wpAny_passesOwn aM (cH (af _ dM anQ vx _ xy sE) λf dh sF=>?_);have again:∀{lV:St} {hX:aB},Inv X (ak++z2 ct s5.heap) lV hX dh->N lV hX->∃m,m<n/\∃i cj ag,Inv X ak cj ag dh/\jI i dh.heap/\(∀b∈ct,ag b=none)/\W i m cj ag:=λ{lV hX} i5 uu=>by
   obtain⟨l7,hm,w7⟩:=dw lV hX uu;refine⟨l7,hm,i+1,lV,hX,i5.CL,T.keep _ _ _ uD λb af o e=>(i5.pin (b,o) (j3 _ (j3 _ (DB af e)))).1,λb af=>?_,w7⟩;obtain⟨o,e,d⟩:=T.obj _ _ uD b af;exact (i5.pin (b,o) (j3 _ (j3 _ (DB af e)))).2.1
  cases f with
  |next=>obtain⟨lV,hX,i5,uu⟩:=sF;exact again i5 uu
  |cont=>obtain⟨lV,hX,i5,uu⟩:=sF;exact again i5 uu
  |brk=>obtain⟨lV,hX,i5,sF⟩:=sF;exact⟨lV,hX,i5.CL,sF⟩
  |ret v=>obtain⟨wj,lV,hX,i5,p5,sF⟩:=sF;exact⟨wj,lV,hX,i5.CL,p5,sF⟩
end
end bu
namespace bu
open PySem PySem.Spec PyProof.Rows
abbrev gG:=V->V->aB->c0->Prop
noncomputable def eU(X:aY)(f:ao->ao->Sem ao)(r:gG):Prop:=
 ∀(ak:List (aj×Obj)) (s:aH) (σ:St) (H:aB) (x y:V) (v u:ao) (Q:c0),Inv X ak σ H s->RelV x v->RelV y u->r x y H Q ->
  a0 (unop%Wk 0) X.A (f v u) (gX X ak σ Q) X.di s
noncomputable def ET(X:aY)(f:ao->Sem ao)(r:V->aB->c0->Prop):Prop:=
 ∀(ak:List (aj×Obj)) (s:aH) (σ:St) (H:aB) (x:V) (v:ao) (Q:c0),Inv X ak σ H s->RelV x v->r x H Q ->
  a0 (unop%Wk 0) X.A (f v) (gX X ak σ Q) X.di s
noncomputable def anw(X:aY)(f:ao)(r:List V->aB->c0->Prop):Prop:=
 ∀(ak:List (aj×Obj)) (s:aH) (σ:St) (H:aB) (xs:List V) (us:List ao) (Q:c0),Inv X ak σ H s->Vals xs us->r xs H Q ->
  a0 (unop%Wk 0) X.A (call f us) (gX X ak σ Q) X.di s
noncomputable def V8(X:aY)(r:V->aB->(Bool->aB->Prop)->Prop):Prop:=
 ∀(ak:List (aj×Obj)) (s:aH) (σ:St) (H:aB) (x:V) (v:ao) (Q:Bool->aB->Prop),Inv X ak σ H s->RelV x v->r x H Q ->
  a0 (unop%Wk 0) X.A (truthy v) (Ax X ak σ Q) X.di s
noncomputable def uI(r:gG)(cy de:TE):TE:=λσ H Q=>cy σ H λx H1=>de σ H1 λy bw=>r x y bw Q
noncomputable def Qw(r:V->aB->c0->Prop)(cy:TE):TE:=λσ H Q=>cy σ H λx H1=>r x H1 Q
noncomputable def Cm(C:Int->Int->Prop)(g:Int->Int->V):gG:=λx y H Q=>∃i j,x=.int i/\y=.int j/\C i j/\Q (g i j) H
noncomputable def nX(g:Int->Int->V):gG:=λx y H Q=>∃i j,x=.int i/\y=.int j/\Q (g i j) H
noncomputable def Kl(g:Int->V):V->aB->c0->Prop:=λx H Q=>∃i,x=.int i/\Q (g i) H
section
variable {X:aY}{a b c:bt}{cy de tc:TE}{pos:Pos}
def FF(aA:b0 X a cy)(af:b0 X b de){ak:List (aj×Obj)}{s:aH}{σ:St}{H:aB}{R:V->V->aB->Prop}(I:Inv X ak σ H s)
  (h:cy σ H λx H1=>de σ H1 λy bw=>R x y bw) {Q:ao->aH->Prop} {f:ao->ao->Sem ao}
  (hf:∀v u s2 x y bw,Inv X ak σ bw s2->RelV x v->RelV y u->R x y bw->a0 (unop%Wk 0) X.A (f v u) Q X.di s2):
  a0 (unop%Wk 0) X.A (eval a X.env) (λv cZ=>a0 (unop%Wk 0) X.A (eval b X.env) (λu jZ=>a0 (unop%Wk 0) X.A (f v u) Q X.di jZ) X.di cZ) X.di s:=by
 refine cH (aA ak s σ H _ I h) λv s1 hqq=>?_;obtain⟨x,H1,ba,a_,aP⟩:=hqq
 refine cH (af ak s1 σ H1 _ ba aP) λu s2 hqq=>?_;obtain⟨y,bw,cq,b_,bf⟩:=hqq
 exact hf v u s2 x y bw cq a_ b_ bf
def xl{op:Operator}{r:gG}(aK:eU X (ng op) r)(aA:b0 X a cy)(af:b0 X b de):b0 X (.BinOp a op b pos) (uI r cy de):=by
 intro ak s σ H Q I h;exact wpAny_BinOp (FF aA af I h λv u s2 x y bw cq aU bD q=>aK ak s2 σ bw x y v u Q cq aU bD q)
def Uw{op:UnaryOp}{r:V->aB->c0->Prop}(aK:ET X (unaryOp op) r)(aA:b0 X a cy):b0 X (.UnaryOp op a pos) (Qw r cy):=by
 intro ak s σ H Q I h;exact UnaryOp_ (cH (aA ak s σ H _ I h) λv s1 ⟨x,H1,ba,a_,aP⟩=>aK ak s1 σ H1 x v Q ba a_ aP)
def J'{f:ao->ao->Sem ao}{C:Int->Int->Prop}{g:Int->Int->Int}
  (rule:∀(i j:Int) (t u:Tok) (s:aH) (Q:ao->aH->Prop) (E:ao->aH->Prop),C i j->Q (.int (g i j) s.toks) {s with toks:=s.toks+1}->a0 (unop%Wk 0) X.A (f (.int i t) (.int j u)) Q E s):
  eU X f (Cm C λi j=>.int (g i j)):=by
 intro ak s σ H x y v u Q I aU bD h;obtain⟨i,j,rfl,rfl,ax,q⟩:=h;obtain⟨t,rfl⟩:=aU;obtain⟨t',rfl⟩:=bD;exact rule i j t t' s _ _ ax ⟨.int (g i j),H,I.tok _,⟨_,rfl⟩,q⟩
def P1{f:ao->ao->Sem ao}{g:Int->Int->Int}
  (rule:∀(i j:Int) (t u:Tok) (s:aH) (Q:ao->aH->Prop) (E:ao->aH->Prop),Q (.int (g i j) s.toks) {s with toks:=s.toks+1}->a0 (unop%Wk 0) X.A (f (.int i t) (.int j u)) Q E s):
  eU X f (nX λi j=>.int (g i j)):=by
 intro ak s σ H x y v u Q I aU bD h;obtain⟨i,j,rfl,rfl,q⟩:=h;obtain⟨t,rfl⟩:=aU;obtain⟨t',rfl⟩:=bD;exact rule i j t t' s _ _ ⟨.int (g i j),H,I.tok _,⟨_,rfl⟩,q⟩
def Cf{f:ao->ao->Sem ao}{g:Int->Int->Bool}
  (rule:∀(i j:Int) (t u:Tok) (s:aH) (Q:ao->aH->Prop) (E:ao->aH->Prop),Q (.bool (g i j)) s->a0 (unop%Wk 0) X.A (f (.int i t) (.int j u)) Q E s):
  eU X f (nX λi j=>.b5 (g i j)):=by
 intro ak s σ H x y v u Q I aU bD h;obtain⟨i,j,rfl,rfl,q⟩:=h;obtain⟨t,rfl⟩:=aU;obtain⟨t',rfl⟩:=bD;exact rule i j t t' s _ _ ⟨.b5 (g i j),H,I,rfl,q⟩
noncomputable def UG(i j:Int):Prop:=0<j/\j<1073741824
noncomputable def Am(i j:Int):Prop:=(-(2 ^ 64)<i/\i<2 ^ 64)\/(-(2 ^ 64)<j/\j<2 ^ 64)
def Am.ok{i j:Int}(h:Am i j):IntMulOk i j:=by
 rcases h with ⟨ah,ar⟩|⟨ah,ar⟩
 ·exact .of_left (intBits_le_64 ah ar)
 ·exact .of_right (intBits_le_64 ah ar)
def alI:eU X (ng .Add) (nX λi j=>.int (i+j)):=P1 λ_ _ _ _ _ _ _ q=>add_int q
def alF:eU X (ng .Sub) (nX λi j=>.int (i - j)):=P1 λ_ _ _ _ _ _ _ q=>sub_int q
def alG:eU X (ng .Mult) (Cm Am λi j=>.int (i*j)):=J' λ_ _ _ _ _ _ _ ax q=>mul_int q ax.ok
def akC:eU X (ng .FloorDiv) (Cm UG λi j=>.int (i / j)):=J' λi j _ _ _ _ _ ax q=>by
 have ah:(0:Int)<j:=ax.1;have ar:j<1073741824:=ax.2;exact floordiv_int (by omega) (by rw[Int.fdiv_eq_ediv_of_nonneg i (by omega)];exact q) (.inl (PyProof.noPylong_small (by omega)))
def alH:eU X (ng .Mod) (Cm (λ_ j=>0<j) λi j=>.int (i % j)):=J' λi j _ _ _ _ _ ax q=>by
 have ah:(0:Int)<j:=ax;exact mod_int' (by omega) (by rw[Int.fmod_eq_emod_of_nonneg i (by omega)];exact q)
def afn{f:ao->Sem ao}{g:Int->Int}
  (rule:∀(i:Int) (t:Tok) (s:aH) (Q:ao->aH->Prop) (E:ao->aH->Prop),Q (.int (g i) s.toks) {s with toks:=s.toks+1}->a0 (unop%Wk 0) X.A (f (.int i t)) Q E s):
  ET X f (Kl λi=>.int (g i)):=by
 intro ak s σ H x v Q I aU h;obtain⟨i,rfl,q⟩:=h;obtain⟨t,rfl⟩:=aU;exact rule i t s _ _ ⟨.int (g i),H,I.tok _,⟨_,rfl⟩,q⟩
def TM:ET X (unaryOp .USub) (Kl λi=>.int (-i)):=afn λ_ _ _ _ _ q=>neg_int q
end
noncomputable def ad1:V->V->Bool
|.d1,.d1=>true|.d1,.int _=>true|.int _,.d1=>true|.d1,.b5 _=>true|.b5 _,.d1=>true|.d1,.str _=>true|.str _,.d1=>true
|.int _,.int _=>true|.b5 _,.b5 _=>true|.str _,.str _=>true|.mJ _,.mJ _=>true
|.int _,.str _=>true|.str _,.int _=>true|.b5 _,.str _=>true|.str _,.b5 _=>true
|_,_=>false
noncomputable def P7:gG:=λx y H Q=>ad1 x y=true/\Q (.b5 (decide (x=y))) H
def ak0{i j:Int}:decide (V.int i=V.int j)=(i==j):=by
 rw[Bool.eq_iff_iff];simp
def al0{i j:Bool}:decide (V.b5 i=V.b5 j)=(i==j):=by
 rw[Bool.eq_iff_iff];simp
def akZ{i j:Str}:decide (V.str i=V.str j)=(i==j):=by
 rw[Bool.eq_iff_iff];simp
def ak1{i j:Array UInt8}:decide (V.mJ i=V.mJ j)=(i.toList==j.toList):=by
 rw[Bool.eq_iff_iff];cases i;cases j;simp
section
variable {X:aY}{a b c:bt}{cy de tc:TE}{pos:Pos}
def jL{ak:List (aj×Obj)}{σ:St}{H:aB}{s:aH}{Q:c0}{k iT:Bool}(I:Inv X ak σ H s)(q:Q (.b5 k) H)(e:k=iT):gX X ak σ Q (.bool iT) s:=by
 subst e;exact⟨.b5 k,H,I,rfl,q⟩
def amA:eU X (i2 .Eq) P7:=by
 intro ak s σ H x y v u Q I aU bD h;obtain⟨az,q⟩:=h;cases x with
|d1=>
  cases aU
  cases y with
  |d1=>cases bD;exact PySem.EqNone.eq_none_none (jL I q (by simp))
  |b5 j=>cases bD;exact PySem.EqNone.eq_none_bool (jL I q (by simp))
  |int j=>obtain⟨t',rfl⟩:=bD;exact PySem.EqNone.eq_none_int (jL I q (by simp))
  |str j=>obtain⟨t',rfl⟩:=bD;exact PySem.EqNone.eq_none_str (jL I q (by simp))
  |_=>exact absurd (show false=true from az) m_
|b5 i=>
  cases aU
  cases y with
  |d1=>cases bD;exact PySem.EqNone.eq_bool_none (jL I q (by simp))
  |b5 j=>cases bD;exact eq_bool (jL I q al0)
  |str j=>obtain⟨t',rfl⟩:=bD;exact PySem.EqMixed.eq_bool_str (jL I q (by simp))
  |_=>exact absurd (show false=true from az) m_
|int i=>
  obtain⟨t,rfl⟩:=aU;cases y with
  |d1=>cases bD;exact PySem.EqNone.eq_int_none (jL I q (by simp))
  |int j=>obtain⟨t',rfl⟩:=bD;exact eq_int (jL I q ak0)
  |str j=>obtain⟨t',rfl⟩:=bD;exact PySem.EqMixed.eq_int_str (jL I q (by simp))
  |_=>exact absurd (show false=true from az) m_
|str i=>
  obtain⟨t,rfl⟩:=aU;cases y with
  |d1=>cases bD;exact PySem.EqNone.eq_str_none (jL I q (by simp))
  |b5 j=>cases bD;exact PySem.EqMixed.eq_str_bool (jL I q (by simp))
  |int j=>obtain⟨t',rfl⟩:=bD;exact PySem.EqMixed.eq_str_int (jL I q (by simp))
  |str j=>obtain⟨t',rfl⟩:=bD;exact eq_str (jL I q akZ)
  |_=>exact absurd (show false=true from az) m_
|mJ i=>
  obtain⟨t,rfl⟩:=aU;cases y with
  |mJ j=>obtain⟨t',rfl⟩:=bD;exact PySem.W.eq_bytes (jL I q ak1)
  |_=>exact absurd (show false=true from az) m_
|_=>cases y <;> exact absurd (show false=true from az) m_
def Af:eU X (i2 .Lt) (nX λi j=>.b5 (decide (i<j))):=Cf λ_ _ _ _ _ _ _ q=>lt_int q
def Na:eU X (i2 .LtE) (nX λi j=>.b5 (decide (i<=j))):=Cf λ_ _ _ _ _ _ _ q=>le_int q
def Em:eU X (i2 .Gt) (nX λi j=>.b5 (decide (j<i))):=Cf λ_ _ _ _ _ _ _ q=>gt_int q
def Ux:eU X (i2 .GtE) (nX λi j=>.b5 (decide (j<=i))):=Cf λ_ _ _ _ _ _ _ q=>ge_int q
def zJ:eU X (i2 .Lt) (λx y H Q=>∃i j,x=.str i/\y=.str j/\Q (.b5 (decide (i.cps.toList<j.cps.toList))) H):=by
 intro ak s σ H x y v u Q I aU bD h;obtain⟨i,j,rfl,rfl,q⟩:=h;obtain⟨t,rfl⟩:=aU;obtain⟨t',rfl⟩:=bD;exact lt_str (jL I q rfl)
def eU.or{f:ao->ao->Sem ao}{r cm:gG}(h:eU X f r)(h':eU X f cm):eU X f (λx y H Q=>r x y H Q\/cm x y H Q):=by
 intro ak s σ H x y v u Q I aU bD q;rcases q with q|q
 ·exact h ak s σ H x y v u Q I aU bD q
 ·exact h' ak s σ H x y v u Q I aU bD q
def Ee(b:bt){op:CmpOp}(h:op≠.In:=by decide)(ar:op≠.NotIn:=by decide):qf op b=false:=by
 have aw:(op==CmpOp.In)=false:=by cases op <;> first|rfl|exact absurd rfl h
 have aN:(op==CmpOp.NotIn)=false:=by cases op <;> first|rfl|exact absurd rfl ar
 cases b <;> simp[qf,aw,aN]
def akv{op:CmpOp}{r:gG}(aK:eU X (i2 op) r)(aA:b0 X a cy)(af:b0 X b de)(hm:qf op b=false):b0 X (.Compare a [op] [b] pos) (uI r cy de):=by
 intro ak s σ H Q I h;exact wpAny_Compare1 (FF aA af I h λv u s2 x y bw cq aU bD q=>aK ak s2 σ bw x y v u Q cq aU bD q) hm
noncomputable def Un(t:TE):TT:=λσ H Q=>t σ H λx ag=>∃k,x=.b5 k/\Q k ag
def My{op:CmpOp}{r:gG}(aK:eU X (i2 op) r)(aA:b0 X a cy)(af:b0 X b de)(hm:qf op b=false):i8 X (.Compare a [op] [b] pos) (Un (uI r cy de)):=by
 intro ak s σ H Q I h;refine wpAny_isTrue_Compare1 (cH (aA ak s σ H _ I h) λv s1 ⟨x,H1,ba,a_,aP⟩=>cH (af ak s1 σ H1 _ ba aP) λu s2 ⟨y,bw,cq,b_,bf⟩=>
  cH (aK ak s2 σ bw x y v u _ cq a_ b_ bf) λc s3 ⟨z,eZ,ej,lE,k,e,dc⟩=>?_) hm
 subst e;cases lE;exact sQ ⟨eZ,ej,dc⟩
noncomputable def NI(K:a')(x:V)(H:aB)(k:Bool):Prop:=
 match x with
|.d1=>k=false
|.b5 b=>k=b
|.int i=>k=(i != 0)
|.str y=>y.length<=cn/\k=((y.length:Int) != 0)
|.mJ y=>y.size<=cn/\k=((y.size:Int) != 0)
|.ref p=>(∃xs,fi K H p xs/\k=!xs.isEmpty)\/(∃xs,c' K H p xs/\k=!xs.isEmpty)\/∃kvs,H p=some (.fo kvs)/\k=!kvs.isEmpty
|_=>False
def ahJ{eT:Type}{kvs:List (eT×V)}{vs:List (eT×ao)}(r:hB kvs vs):(!vs.isEmpty)=!kvs.isEmpty:=by
 cases r <;> rfl
def RF{xs:List V}{its:List ao}(r:Vals xs its):(!its.toArray.isEmpty)=!xs.isEmpty:=by
 cases r <;> simp
def xe:(cn:Nat)<2 ^ 63:=by rw[jJ];decide
def ak8:V8 X (λx H Q=>∃k,NI X.K x H k/\Q k H):=by
 intro ak s σ H x v Q I aU h;obtain⟨k,e,q⟩:=h;have aI:=xe;have az:cn=16777216:=jJ;cases x with
|d1=>
  cases aU
  have bx:k=false:=e;subst bx;exact truthy_none ⟨H,I,q⟩
|b5 b=>
  cases aU
  have bx:k=b:=e;subst bx;exact sQ ⟨H,I,q⟩
|int i=>
  obtain⟨t,rfl⟩:=aU;have bx:k=(i != 0):=e;subst bx;exact PySem.P.truthy_int ⟨H,I,q⟩
|str y=>
  obtain⟨t,rfl⟩:=aU;obtain⟨a7,bx⟩:y.length<=cn/\k=((y.length:Int) != 0):=e;subst bx;exact PySem.P.truthy_str (by omega) ⟨H,I.tok _,q⟩
|mJ y=>
  obtain⟨t,rfl⟩:=aU;obtain⟨a7,bx⟩:y.size<=cn/\k=((y.size:Int) != 0):=e;subst bx;exact PySem.W.truthy_bytes (by omega) ⟨H,I.tok _,q⟩
|ref p=>
  cases aU
  have bx:(∃xs,fi X.K H p xs/\k=!xs.isEmpty)\/(∃xs,c' X.K H p xs/\k=!xs.isEmpty)\/∃kvs,H p=some (.fo kvs)/\k=!kvs.isEmpty:=e;rcases bx with ⟨xs,hx,bx⟩|⟨xs,hx,bx⟩|⟨kvs,hx,bx⟩
  ·subst bx;obtain⟨its,r,pl,au⟩:=I.list hx;have hlen:=r.length;exact wpAny_truthy_list pl.isList (by simp only[eW];omega) ⟨H,I.tok _,by rw[RF r];exact q⟩
  ·subst bx;obtain⟨its,r,pl,au⟩:=I.tuple hx;have hlen:=r.length;exact truthy_tuple pl (by simp only[eW];omega) ⟨H,I.tok _,by rw[RF r];exact q⟩
  ·subst bx;obtain⟨au,dP,vs,r,m⟩:kvs.length<=cn/\(p==sysModules)=false/\∃vs,hB kvs vs/\s.heap.DictOf (hQ X.prog X.w) p vs:=I.bF p _ hx;have hlen:kvs.length=vs.length:=Paired.length r;exact wpAny_truthy_dict dP m (by omega) ⟨H,I.tok _,by rw[ahJ r];exact q⟩
|_=>exact (show False from e).elim
def ajn(aA:b0 X a cy)(he:∀whole,isTrue a X.env whole=(do let v <- whole;standAt a.pos;holding [v] (truthy v))):
  i8 X a (λσ H Q=>cy σ H λx ag=>∃k,NI X.K x ag k/\Q k ag):=by
 intro ak s σ H Q I h;exact isTrue_plain (cH (aA ak s σ H _ I h) λv s1 ⟨x,H1,ba,a_,aP⟩=>ak8 ak s1 σ H1 x v Q ba a_ aP) (he _)
def aht:eU X (ng .Add) (λx y H Q=>∃i j,x=.str i/\y=.str j/\i.length+j.length<=cn/\Q (.str (i++j)) H):=by
 intro ak s σ H x y v u Q I aU bD h;obtain⟨i,j,rfl,rfl,au,q⟩:=h;obtain⟨t,rfl⟩:=aU;obtain⟨t',rfl⟩:=bD;exact add_str (λt' tk=>⟨.str (i++j),H,I.tok _,⟨_,rfl⟩,q⟩) au
def rB{x:V}{us:List ao}(r:Vals [x] us):∃u,us=[u]/\RelV x u:=by
 cases r with
|cons a_ b_=>cases b_;exact⟨_,rfl,a_⟩
def Ul{x y:V}{us:List ao}(r:Vals [x,y] us):∃u df,us=[u,df]/\RelV x u/\RelV y df:=by
 cases r with
|cons a_ b_=>
  cases b_ with
  |cons lE anP=>cases anP;exact⟨_,_,rfl,a_,lE⟩
def ai2(ax:X.calm=true):anw X (.builtin "max") (λxs H Q=>∃i j,xs=[.int i,.int j]/\Q (.int (if j > i then j else i)) H):=by
 intro ak s σ H xs us Q I r h;obtain⟨i,j,rfl,q⟩:=h;obtain⟨u,df,rfl,⟨t,rfl⟩,⟨t',rfl⟩⟩:=Ul r;refine max_two_ints (I.ok.hd ax) λh' tk k=>⟨_,H,I.kept k,?_,q⟩;by_cases bS:j > i
 ·rw[if_pos bS,if_pos bS];exact⟨_,rfl⟩
 ·rw[if_neg bS,if_neg bS];exact⟨_,rfl⟩
def ai0(ax:X.calm=true):anw X (.builtin "min") (λxs H Q=>∃i j,xs=[.int i,.int j]/\Q (.int (if j<i then j else i)) H):=by
 intro ak s σ H xs us Q I r h;obtain⟨i,j,rfl,q⟩:=h;obtain⟨u,df,rfl,⟨t,rfl⟩,⟨t',rfl⟩⟩:=Ul r;refine min_two_ints (I.ok.hd ax) λh' tk k=>⟨_,H,I.kept k,?_,q⟩;by_cases bS:j<i
 ·rw[if_pos bS,if_pos bS];exact⟨_,rfl⟩
 ·rw[if_neg bS,if_neg bS];exact⟨_,rfl⟩
def ai3:anw X (.type "int") (λxs H Q=>(∃i,xs=[.int i]/\Q (.int i) H)\/∃k,xs=[.b5 k]/\Q (.int (if k then 1 else 0)) H):=by
 intro ak s σ H xs us Q I r h;rcases h with ⟨i,rfl,q⟩|⟨k,rfl,q⟩
 ·obtain⟨u,rfl,t,rfl⟩:=rB r;exact call_int_int ⟨.int i,H,I,⟨_,rfl⟩,q⟩
 ·obtain⟨u,rfl,a_⟩:=rB r;cases a_;exact call_int_bool ⟨.int (if k then 1 else 0),H,I.tok _,⟨_,rfl⟩,q⟩
end
end bu
namespace bu
open PySem PySem.Spec PyProof.Rows
structure tE(h:bL)(x bE C:aj)(eJ:Str->Option ao):Prop where
 obj:h.get? x=some (sM C bE)
 ns:h.Ns1 bE eJ
 ne:bE≠x
def aiz{h:bL}{bE:aj}{eJ:Str->Option ao}(n:h.Ns1 bE eJ):∃eB,h.get? bE=some eB/\∀name,PySem.W.lookIn name eB=some (eJ name):=by
 obtain⟨o,es,ep,aK,hd,aL,_,hm⟩:=n;refine⟨o,aK,λname=>?_⟩;have e:=hm name;unfold nsFind findBy at e;rw[<- Array.find?_toList] at e;unfold PySem.W.lookIn;rw[hd];dsimp only;split
 ·rename_i y q
  rw[q] at e;exact congrArg some e
 ·rename_i q
  rw[q] at e;have a:es.toList.any (·.refKey)=false:=by
   rw[List.any_eq_false];intro y a7;obtain⟨z,t,ZS⟩:=aL y (Array.mem_toList_iff.mp a7);simp[DictEntry.refKey,ZS]
  have kF:¬es.toList.any (·.refKey)=true:=by rw[a];exact m_
  rw[if_neg kF];exact congrArg some e
def tE.look{h:bL}{x bE C:aj}{eJ:Str->Option ao}(I:tE h x bE C eJ):∃eB,PySem.W.InstAt h x (sM C bE) C (some eB)/\∀name,PySem.W.lookIn name eB=some (eJ name):=
 let ⟨eB,aK,aI⟩:=aiz I.ns
 ⟨eB,⟨I.obj,rfl,rfl,aK⟩,aI⟩
section
variable {prog:cu}{w:b8}{A:cp}{E:ao->aH->Prop}{s:aH}{K:a'}{x bE C f:aj}{eJ:Str->Option ao}{name:Str}{v:ao}
def akS{expr:Bool}{Q:ao->aH->Prop}(X:K.In s.heap)(I:tE s.heap x bE C eJ)(bg:PySem.W.plainGet K C name=true)(cM:PySem.W.hasDictIn K C=true)
  (aA:lL K (.ref C) name=some none) (bh:eJ name=some v) (uj:PySem.W.handedIn v=true) (h:Q v {s with toks:=s.toks+1}):
  a0 (bA prog w) A (getAttr (.ref x) name expr) Q E s:=by
 obtain⟨eB,J,aI⟩:=I.look;exact PySem.W.get_value X J (PySem.W.plainGet_of bg).1 (PySem.W.findObj_own cM aA rfl (by rw[aI,bh])) uj h
def ajP{pl:Sem Bool}{Q:ao×List ao->aH->Prop}(X:K.In s.heap)(I:tE s.heap x bE C eJ)(bg:PySem.W.plainGet K C name=true)
  (hf:lL K (.ref C) name=some (some (.ref f))) (bp:PySem.W.isFn K (.ref f)=true) (bh:eJ name=none) (h:Q (.ref f,[.ref x]) s):
  a0 (bA prog w) A (getMethod (.ref x) name pl) Q E s:=by
 obtain⟨eB,J,aI⟩:=I.look;exact PySem.W.method_fn X J (PySem.W.plainGet_of bg).1 (PySem.W.plainGet_of bg).2 hf (beq_iff_eq.mp bp) (by show (PySem.W.lookIn name eB).map (·.isSome)=some false;rw[aI,bh];rfl) h
def aka{ns:List Str}{Q:Unit->aH->Prop}(X:K.In s.heap)(I:tE s.heap x bE C eJ)
  (az:lL K (.ref C) "__setattr__"=some (some (.builtin "object.__setattr__"))) (aM:PySem.W.plainOver K C=true) (bp:PySem.W.takerIn K C name=some none) (cM:PySem.W.hasDictIn K C=true)
  (hw:PySem.Within eJ ns) (hsz:ns.length<=cn)
  (h:∀h',tE h' x bE C (λy=>if y=name then some v else eJ y)->Heap.SameBut bE s.heap h'->Q () {s with heap:=h',toks:=s.toks+2}):
  a0 (bA prog w) A (setAttr (.ref x) name v) Q E s:=by
 obtain⟨eB,J,aI⟩:=I.look;refine PySem.W.set_plain X J az (PySem.W.osa_open (s:={s with toks:=s.toks+1}) (r:=none) X J aM bp λb=>?_);obtain⟨cd,ax,Hl⟩:=PySem.W.any_some cM;have hx:s.heap.get? x=some ⟨.ref C,some bE,.plain,#[]⟩:=I.obj;refine aO (bX (aO (aO (wpAny_loadPart hx (aO (PySem.W.Looks.here (s:={s with toks:=s.toks+1}) (PySem.W.looks_clsIn X ax) ?_))))));rw[Hl];refine bX (a:=some bE) (aO (bX (aO ?_)));refine wpAny_nsSet1 (s:={s with toks:=s.toks+1}) I.ns λh' Bp g0=>?_;obtain⟨oD,amZ,amY,Z3,ZE,qR⟩:=Bp.count (PySem.Within.cons name v hw);refine aO (wpAny_lookBehind Z3 (by rw[ZE];exact pastItsLine_dict (h9 qR (by rw[fy];omega))) ?_);exact bX (h _ ⟨(g0.2 _ (Ne.symm I.ne)).trans I.obj,Bp,I.ne⟩ g0)
def ajG{R:Result->aH->Prop}{vs:List ao}{kw:List (Str×ao)}(X:K.In s.heap)(hm:PySem.W.makesIn K C=true)
  (aQ:lL K (.ref C) "__init__"=some (some (.ref f))) (hf:PySem.W.typeIn K (.ref f)=some (.type "function"))
  (h:hu (bA prog w) (A.under (.builtin "type.__call__" ⟨.ref C::vs,kw⟩)) (.call (.ref f) ⟨.ref (unop%Wq 0)::vs,kw⟩) (PySem.W.InitBack (unop%Wq 0) R)
   {s with heap:=(s.heap.push ra).push (sM C s.heap.objs.size)}):
  hu (bA prog w) A (.call (.ref C) ⟨vs,kw⟩) R s:=by
 obtain⟨cM,g,d,t,os⟩:=s;exact PySem.W.make_core (PySem.W.makes_of X hm) (PySem.W.looks_findIn X aQ) (λself=>PySem.W.bind_fn X self hf) (.inl rfl) h
end
noncomputable def hq(f:Str)(v:V):List (Str×V)->List (Str×V)
  | []=>[(f,v)]
  | (g,x)::r=>if g=f then (g,v)::r else (g,x)::hq f v r
theorem Ri(f g:Str)(v:V):∀aF:List (Str×V),(hq f v aF).lookup g=if g=f then some v else aF.lookup g
  | []=>by
    show kq g [(f,v)]=_
    by_cases h:g=f
    · have af:(g==f)=true:=beq_iff_eq.mpr h
      simp only[kq,af,if_pos h]
    · have af:(g==f)=false:=beq_eq_false_iff_ne.mpr h
      simp only[kq,af,if_neg h]
  | (k,x)::r=>by
    have bM:=Ri f g v r;rw[show hq f v ((k,x)::r)=(if k=f then (k,v)::r else (k,x)::hq f v r) from rfl];by_cases aL:k=f
    · rw[if_pos aL]
      by_cases h:g=k
      · have af:(g==k)=true:=beq_iff_eq.mpr h
        simp only[kq,af,if_pos (h.trans aL)]
      · have af:(g==k)=false:=beq_eq_false_iff_ne.mpr h
        simp only[kq,af,if_neg (λe:g=f=>h (e.trans aL.symm))]
    · rw[if_neg aL]
      by_cases h:g=k
      · have af:(g==k)=true:=beq_iff_eq.mpr h
        simp only[kq,af,if_neg (λe:g=f=>aL (h.symm.trans e))]
      · have af:(g==k)=false:=beq_eq_false_iff_ne.mpr h
        simp only[kq,af];exact bM
theorem LX(f:Str)(v:V):∀aF:List (Str×V),f∈(hq f v aF).map (·.1)/\∀g,g∈aF.map (·.1)->g∈(hq f v aF).map (·.1)
  | []=>⟨by simp[hq],λg h=>by simp at h⟩
  | (k,x)::r=>by
    obtain⟨cC,cI⟩:=LX f v r;rw[show hq f v ((k,x)::r)=(if k=f then (k,v)::r else (k,x)::hq f v r) from rfl];by_cases aL:k=f
    · rw[if_pos aL]
      subst aL;exact⟨by simp,λg h=>by simpa using h⟩
    · rw[if_neg aL]
      refine⟨?_,λg h=>?_⟩
      · rw[c8]
        exact dF _ cC
      · rw[c8] at h ⊢
        rcases cN.mp h with e|e
        · exact cN.mpr (.inl e)
        · exact dF _ (cI g e)
theorem Rl(f:Str)(v:V):∀aF:List (Str×V),(hq f v aF).length<=aF.length+1
  | []=>by simp[hq]
  | (k,x)::r=>by
    have bM:=Rl f v r;rw[show hq f v ((k,x)::r)=(if k=f then (k,v)::r else (k,x)::hq f v r) from rfl];by_cases aL:k=f
    · rw[if_pos aL,fy,fy];omega
    · rw[if_neg aL,fy,fy];omega
def kC.some_of{v:V}{o:Option ao}(r:kC (some v) o):∃u,o=some u/\RelV v u:=by
 cases o with
|none=>exact (show False from r).elim
|some u=>exact⟨u,rfl,r⟩
def kC.none_of{o:Option ao}(r:kC none o):o=none:=by
 cases o with
|none=>rfl
|some u=>exact (show False from r).elim
def aiO{v:V}{u:ao}(r:RelV v u):PySem.W.handedIn u=true:=by
 cases v with
|d1=>cases (show u=Value.none from r);rfl
|b5 b=>cases (show u=Value.bool b from r);rfl
|int i=>obtain⟨t,e⟩:=(show ∃t,u=Value.int i t from r);cases e;rfl
|str x=>obtain⟨t,e⟩:=(show ∃t,u=Value.str x t from r);cases e;rfl
|mJ b=>obtain⟨t,e⟩:=(show ∃t,u=Value.bytes b t from r);cases e;rfl
|xX b=>obtain⟨t,e⟩:=(show ∃t,u=Value.float b t from r);cases e;rfl
|ref a=>cases (show u=Value.ref a from r);rfl
|ty n=>cases (show u=Value.type n from r);rfl
section
variable {P:cu}{w:b8}{H ag:aB}{h h':bL}{a C bE:aj}{aF ir:List (Str×V)}
def MC(bF:eL P w H h)(e:H a=some (.ins C bE aF)):∃eJ,tE h a bE C eJ/\(∀f,kC (aF.lookup f) (eJ f))/\PySem.Within eJ (aF.map (·.1))/\aF.length<=1000/\H bE=some (.own a):=by
 obtain⟨d,z,ne,dA,eJ,n,r,q⟩:=(show hV P w H h a (.ins C bE aF) from bF a _ e);exact⟨eJ,⟨dA,n,ne⟩,r,q,z,d⟩
end
structure oq(K:a')(C:aj):Prop where
 pg:PySem.W.plainGet K C Str.empty=true
 hd:PySem.W.hasDictIn K C=true
 po:PySem.W.plainOver K C=true
 sa:lL K (.ref C) "__setattr__"=some (some (.builtin "object.__setattr__"))
def oq.get{K:a'}{C:aj}(c:oq K C)(f:Str):PySem.W.plainGet K C f=true:=c.pg
noncomputable def rA(K:a')(C:aj)(f:Str):Prop:=lL K (.ref C) f=some none
def rA.afd{K:a'}{C:aj}{f:Str}(n:rA K C f):PySem.W.takerIn K C f=some none:=by
 unfold PySem.W.takerIn;rw[show lL K (.ref C) f=some none from n];rfl
structure Meth(K:a')(C:aj)(m:Str)(f:aj):Prop where
 at_:lL K (.ref C) m=some (some (.ref f))
 fn:PySem.W.isFn K (.ref f)=true
 aG:m8 K (.ref f)=true
section
variable {X:aY}{ak:List (aj×Obj)}{σ:St}{H:aB}{s:aH}{a C bE:aj}{aF:List (Str×V)}{f:Str}{v:V}{A:cp}{E:ao->aH->Prop}
def RK{b:Bool}{Q:ao->aH->Prop}(I:Inv X ak σ H s)(e:H a=some (.ins C bE aF))(c:oq X.K C)(n:rA X.K C f)(l:aF.lookup f=some v)
  (h:∀u s',Inv X ak σ H s'->RelV v u->Q u s'):a0 (unop%Wk 0) A (getAttr (.ref a) f b) Q E s:=by
 obtain⟨eJ,O,r,_,_,_⟩:=MC I.bF e;obtain⟨u,b1,cY⟩:=kC.some_of (v:=v) (o:=eJ f) (by rw[<- l];exact r f);exact akS I.jU O (c.get f) c.hd n b1 (aiO cY) (h u _ (I.tok _) cY)
def RJ{m:Str}{g:aj}{pl:Sem Bool}{Q:ao×List ao->aH->Prop}(I:Inv X ak σ H s)(e:H a=some (.ins C bE aF))(c:oq X.K C)(k:Meth X.K C m g)(l:aF.lookup m=none)
  (h:Q (.ref g,[.ref a]) s):a0 (unop%Wk 0) A (getMethod (.ref a) m pl) Q E s:=by
 obtain⟨eJ,O,r,_,_,_⟩:=MC I.bF e;have bc:eJ m=none:=kC.none_of (by rw[<- l];exact r m);exact ajP I.jU O (c.get m) k.at_ k.fn bc h
def Rv{y:V}{u:ao}{Q:Unit->aH->Prop}(I:Inv X ak σ H s)(e:H a=some (.ins C bE aF))(c:oq X.K C)(n:rA X.K C f)(aI:aF.length<1000)(bD:RelV y u)
  (h:∀s',Inv X ak σ (upd H a (.ins C bE (hq f y aF))) s'->Q () s'):a0 (unop%Wk 0) A (setAttr (.ref a) f u) Q E s:=by
 obtain⟨eJ,O,r,q9,_,aK⟩:=MC I.bF e;have au:(aF.map (·.1)).length<=cn:=by rw[f5,jJ];omega
 refine aka I.jU O c.sa c.po n.afd c.hd q9 au λh' ox jF=>h _ ?_
 have hd:∃o,h'.get? bE=some o:=let ⟨o,_,_,bx,_⟩:=ox.ns;⟨o,bx⟩;refine I.write (x:=a) (e:=bE) (by rw[e];exact True.intro) (.inr aK) (λb q af z=>(jF.2 b af).trans z) hd ?_;refine⟨by rw[cR O.ne];exact aK,?_,O.ne,ox.obj,_,ox.ns,λg=>?_,λg bg=>?_⟩
 ·have:=Rl f y aF;omega
 ·show kC ((hq f y aF).lookup g) (if g=f then some u else eJ g)
  rw[Ri];by_cases q:g=f
  ·rw[if_pos q,if_pos q];exact bD
  ·rw[if_neg q,if_neg q];exact r g
 ·by_cases q:g=f
  ·rw[q];exact (LX f y aF).1
  ·refine (LX f y aF).2 g (q9 g λz=>bg ?_)
   show (if g=f then some u else eJ g)=none
   rw[if_neg q];exact z
def Inv.made(I:Inv X ak σ H s):Inv X ak σ (upd (upd H s.heap.objs.size (.own (unop%Wq 0))) (unop%Wq 0) (.ins C s.heap.objs.size []))
  {s with heap:=(s.heap.push ra).push (sM C s.heap.objs.size)}:=by
 have aw:(s.heap.push ra).get? s.heap.objs.size=some ra:=fx s.heap rfl;have aN:((s.heap.push ra).push (sM C s.heap.objs.size)).get? (s.heap.objs.size+1)=some (sM C s.heap.objs.size):=by
  have:=fx (s.heap.push ra) (o:=sM C s.heap.objs.size) rfl
  rwa [j2] at this
 have dv:(s.heap.push ra).Ns s.heap.objs.size (λ_=>none):=⟨ra,#[],_,aw,rfl,(λe he=>absurd he (by simp)),λ_=>rfl⟩;have ba:=I.laid (a:=s.heap.objs.size) (o:=.own (unop%Wq 0)) (h':=s.heap.push ra) (t':=s.toks) (λb u q=>cQ _ q) (dy _) ⟨_,aw⟩;refine ba.laid (a:=s.heap.objs.size+1) (o:=.ins C s.heap.objs.size []) (t':=s.toks) (λb u q=>cQ _ q) (Nat.le_of_eq (j2 _ _)) ?_;have ne:s.heap.objs.size≠s.heap.objs.size+1:=eQ (Nat.lt_succ_self _);refine⟨by rw[cR ne,dU],n8 _,ne,aN,λ_=>none,(Heap.Ns1.of_empty dv).at λo q=>cQ _ q,λ_=>True.intro,λy a7=>absurd rfl a7⟩
def ak3{prog:cu}{w:b8}{env:Env}{e:bt}{f:Str}{pos:Pos}{s:aH}{Q:ao->aH->Prop}(af:j4 e f env (eval e env)=eval e env)
  (h:a0 (bA prog w) A (eval e env) (λo cZ=>a0 (bA prog w) A (getAttr o f true) Q E cZ) E s):a0 (bA prog w) A (eval (.Attribute e f pos) env) Q E s:=
 Attribute_any_ h (by rw[arm_eval_Attribute,af])
end
noncomputable def aeZ(K:a')(cy:TE)(f:Str):TE:=λσ H Q=>cy σ H λx H1=>∃a C bE aF v,x=.ref a/\H1 a=some (.ins C bE aF)/\oq K C/\rA K C f/\aF.lookup f=some v/\Q v H1
noncomputable def adZ(K:a')(cy je:TE)(f:Str):fU:=λD σ H=>je σ H λy H1=>cy σ H1 λx bw=>∃a C bE aF,x=.ref a/\bw a=some (.ins C bE aF)/\oq K C/\rA K C f/\aF.length<1000 /\
 D.bG σ (upd bw a (.ins C bE (hq f y aF)))
noncomputable def EH(X:aY)(op:Operator)(jD:V->V->aB->c0->Prop):Prop:=
 ∀(ak:List (aj×Obj)) (s:aH) (σ:St) (H:aB) (x y:V) (u v:ao) (Q:c0),Inv X ak σ H s->RelV x u->RelV y v->jD x y H Q->a0 (unop%Wk 0) X.A (inplaceOp op u v) (gX X ak σ Q) X.di s
noncomputable def akd(K:a')(cy je:TE)(jD:V->V->aB->c0->Prop)(f:Str):fU:=λD σ H=>cy σ H λx H1=>∃a C bE aF v,x=.ref a/\H1 a=some (.ins C bE aF)/\oq K C/\rA K C f/\aF.lookup f=some v /\
 je σ H1 λy bw=>jD v y bw λz eZ=>∃vI ir,eZ a=some (.ins C vI ir)/\ir.length<1000/\D.bG σ (upd eZ a (.ins C vI (hq f z ir)))
section
variable {X:aY}{o e value:bt}{f:Str}{pos pos' KP:Pos}{cy je:TE}
def ry(he:b0 X e cy)(af:j4 e f X.env (eval e X.env)=eval e X.env):b0 X (.Attribute e f pos) (aeZ X.K cy f):=by
 intro ak s σ H Q I h;refine ak3 af (cH (he ak s σ H _ I h) λu s1 hqq=>?_);obtain⟨x,H1,ba,aU,a,C,bE,aF,v,ex,ea,c,n,l,q⟩:=hqq;subst ex;obtain rfl:u=Value.ref a:=aU;exact RK ba ea c n l λuK s2 cq cY=>⟨v,H1,cq,cY,q⟩
def MT(aA:b0 X o cy)(bh:b0 X value je)(az:kr value (some (.Attribute o f pos')) pos.line X.env=pure false):hY X (.Assign [.Attribute o f pos'] value pos) (adZ X.K cy je f):=by
 intro ak s σ H D I h;refine plainObj_wpAny_Assign_Attribute (cH (bh ak s σ H _ I h) λu s1 ⟨y,H1,ba,bD,q⟩=>cH (aA ak s1 σ H1 _ ba q) λe7 s2 hqq=>?_) az;obtain⟨x,bw,cq,aU,a,C,bE,aF,ex,ea,c,n,l,bf⟩:=hqq;subst ex;obtain rfl:e7=Value.ref a:=aU;exact Rv cq ea c n l bD λs3 ej=>⟨σ,_,ej,bf⟩
def aik{op:Operator}{jD:V->V->aB->c0->Prop}(aA:b0 X o cy)(bh:b0 X value je)(HH:EH X op jD):hY X (.AugAssign (.Attribute o f KP) op value pos) (akd X.K cy je jD f):=by
 intro ak s σ H D I h;refine wpAny_AugAssign_AttributeAny (cH (aA ak s σ H _ I h) λe7 s1 hqq=>?_);obtain⟨x,H1,ba,aU,a,C,bE,aF,v,ex,ea,c,n,l,q⟩:=hqq;subst ex;obtain rfl:e7=Value.ref a:=aU;refine RK ba ea c n l λu s2 cq cY=>cH (bh ak s2 σ H1 _ cq q) λCN s3 ⟨y,bw,ej,bD,dc⟩=>cH (HH ak s3 σ bw v y u CN _ ej cY bD dc) λw4 s4 hqq=>?_;obtain⟨z,eZ,mG,Kr,vI,ir,YO,p3,jB⟩:=hqq;exact Rv mG YO c n p3 Kr λs5 tC=>⟨σ,_,tC,jB⟩
noncomputable def adF:V->V->aB->c0->Prop:=λx y H Q=>∃i j,x=.int i/\y=.int j/\Q (.int (i+j)) H
def T':EH X .Add adF:=by
 rintro ak s σ H x y u v Q I aU bD ⟨i,j,rfl,rfl,q⟩;obtain⟨t,rfl⟩:=(show ∃t,u=Value.int i t from aU);obtain⟨t',rfl⟩:=(show ∃t',v=Value.int j t' from bD);exact PyProof.Rows.iadd_int ⟨.int (i+j),H,I.tok _,⟨_,rfl⟩,q⟩
end
end bu
namespace bu
open PySem PySem.Spec PyProof.Rows
structure c9(k:Nat)(A:cp):Prop where
 hd:A.handled=none
 xS:A.depth+3*k+5<recursionLimit
 un:A.units+16*k+200<cLine
def c9.mono{j k:Nat}{A:cp}(r:c9 k A)(h:j<=k):c9 j A:=⟨r.hd,by have:=r.xS;omega,by have:=r.un;omega⟩
theorem c9.deeper{k:Nat}{A:cp}(r:c9 (k+1) A)(env:Env):c9 k (A.deeper env):=
 ⟨r.hd,by have:=r.xS;show A.depth+1+3*k+5<_;omega,by have:=r.un;show A.units+3+16*k+200<_;omega⟩
theorem c9.in1{k:Nat}{A:cp}(r:c9 (k+1) A):c9 k A.in1:=
 ⟨r.hd,by have:=r.xS;show A.depth+3*k+5<_;omega,by have:=r.un;show A.units+1+16*k+200<_;omega⟩
def ahG{A:cp}{C:aj}{us:List ao}{kw:List (Str×ao)}:(unop%WW 0).depth=A.depth+1:=by
 first|rfl|simp[Around.under,Code.weight,Code.isCreation,Code.isGuard,Code.isCaller,Code.frames,Code.isFrame,guardIds]
def ahF{A:cp}{C:aj}{us:List ao}{kw:List (Str×ao)}:(unop%WW 0).units=A.units+1:=by
 first|rfl|simp[Around.under,Code.cUnits,Code.frames,Code.isFrame]
def c9.make{k:Nat}{A:cp}(r:c9 (k+1) A)(C:aj)(us:List ao)(kw:List (Str×ao)):c9 k (unop%WW 0):=
 ⟨r.hd,by have:=r.xS;rw[ahG];omega,by have:=r.un;rw[ahF];omega⟩
theorem c9.depth{k:Nat}{A:cp}(r:c9 k A):A.depth<recursionLimit:=by have:=r.xS;omega
theorem c9.units{k:Nat}{A:cp}(r:c9 k A):A.units+64<cLine:=by have:=r.un;omega
noncomputable def md:fH:=λ_ H Q=>Q [] H
noncomputable def iB(cy:TE)(tr:fH):fH:=λσ H Q=>cy σ H λx H1=>tr σ H1 λxs bw=>Q (x::xs) bw
section
variable {X:aY}{e:bt}{es:List bt}{g8:TE}{t:fH}{pos:Pos}
def hb:fR X [] md:=λ_ _ _ _ H Q I h=>Calls.spliced_nil ⟨[],H,I,.nil,h⟩
def e3(aA:b0 X e g8)(ay:fR X es t)(az:a9 (e::es) X.env=(false,eval e X.env)::a9 es X.env:=by rfl):fR X (e::es) (iB g8 t):=by
 intro pos ak s σ H Q I h;rw[az];show a0 _ _ (spliced ((false,eval e X.env)::c3 pos (a9 es X.env))) _ _ s;refine Calls.spliced_cons (cH (aA ak s σ H _ I h) λu s1 hqq=>?_);obtain⟨x,H1,ba,a_,aP⟩:=hqq;exact cH (ay pos ak s1 σ H1 _ ba aP) λus s2 ⟨xs,bw,cq,b_,bf⟩=>⟨x::xs,bw,cq,.cons a_ b_,bf⟩
noncomputable def wg(t:fH):TE:=λσ H Q=>t σ H λxs H1=>xs.length<=cn/\∀p,H1 p=none->Q (.ref p) (upd H1 p (.tup xs))
noncomputable def Qt(t:fH):TE:=λσ H Q=>t σ H λxs H1=>xs.length<=cn/\∀p,H1 p=none->Q (.ref p) (upd H1 p (.lst xs))
def z3{aS}(h:fR X es t):b0 X (.Tuple es aS pos) (wg t):=by
 intro ak s σ H Q I aX;refine wpAny_Tuple_spliced (cH (h pos ak s σ H _ I aX) λus s1 ⟨xs,H1,ba,r,z,q⟩=>⟨by rw[<- r.length];exact z,?_⟩);have hf:H1 s1.heap.objs.size=none:=ba.bF.fresh (dy _);refine⟨.ref s1.heap.objs.size,upd H1 s1.heap.objs.size (.tup xs),ba.laid (t':=s1.toks) (λb u e=>cQ _ e) (dy _) ?_,rfl,q _ hf⟩;exact⟨z,us,r,⟨_,fx _ rfl,rfl,_,rfl⟩⟩
def T1(h:fR X es t):b0 X (.List es pos) (Qt t):=by
 intro ak s σ H Q I aX;refine wpAny_List_spliced (cH (h pos ak s σ H _ I aX) λus s1 ⟨xs,H1,ba,r,z,q⟩=>⟨by rw[<- r.length];exact z,?_⟩);have hf:H1 s1.heap.objs.size=none:=ba.bF.fresh (dy _);refine⟨.ref s1.heap.objs.size,upd H1 s1.heap.objs.size (.lst xs),ba.laid (t':=s1.toks) (λb u e=>cQ _ e) (dy _) ?_,rfl,q _ hf⟩;exact⟨z,us,0,r,fx _ rfl⟩
end
abbrev kD:=List V->aB->c0->e5->Prop
abbrev mD:=List Env->aB->aH->e5->ao->aH->Prop
structure kA(P:cu)(w:b8)(K:a')(mg:Str->Option ao)(base:bL)(A:cp)(outer:List Env)(s:aH)(H:aB):Prop where
 frames:A.frames=some outer
 mod:Mod K mg base
 bs:∀b o,base.get? b=some o->s.heap.get? b=some o/\H b=none
 mI:base.objs.size<=s.heap.objs.size
 kb:s.heap.FunFrames base outer
 nI:∀b∈e6 outer,H b=none
 bF:eL P w H s.heap
 bare:AllBare s.gens
noncomputable def Al(outer:List Env)(P:cu)(w:b8)(H:aB)(s:aH)(Q:c0)(u:ao)(s':aH):Prop:=
 ∃v ag,s'.os=s.os/\AllBare s'.gens/\fV (e6 outer) [] H ag s.heap s'.heap/\eL P w ag s'.heap/\RelV v u/\Q v ag
noncomputable def om(ei:mD)(outer:List Env)(P:cu)(w:b8)(H:aB)(s:aH)(Q:c0)(E:e5)(r:Result)(s':aH):Prop:=
 match r with
|.ok (.ret u)=>Al outer P w H s Q u s'
|.ok _=>False
|.error e=>ei outer H s E e s'
structure eY(P:cu)(w:b8)(K:a')(mg:Str->Option ao)(base:bL)(ei:mD)(k:Nat)(f:aj)(fd:er)(ps:List Str)(sp:kD):Prop where
 len:∀vs H Q E,sp vs H Q E->vs.length=ps.length
 run:∀(A:cp) (outer:List Env) (s:aH) (H:aB) (args:Args) (us:List ao) (vs:List V) (Q:c0) (E:e5),c9 k A->kA P w K mg base A outer s H->BindsTo s fd args (ps.zip us)->Vals vs us->sp vs H Q E ->
  hu (bA P w) A (.call (.ref f) args) (om ei outer P w H s Q E) s
theorem eY.mono{P:cu}{w:b8}{K:a'}{mg:Str->Option ao}{base:bL}{ei:mD}{j k:Nat}{f:aj}{fd:er}{ps:List Str}{sp:kD}(F:eY P w K mg base ei j f fd ps sp)(h:j<=k):
  eY P w K mg base ei k f fd ps sp:=⟨F.len,λA outer s H args us vs Q E ay=>F.run A outer s H args us vs Q E (ay.mono h)⟩
def eY.imp{P:cu}{w:b8}{K:a'}{mg:Str->Option ao}{base:bL}{ei:mD}{k:Nat}{f:aj}{fd:er}{ps:List Str}{sp Qh:kD}(F:eY P w K mg base ei k f fd ps sp)
  (h:∀vs H Q E,Qh vs H Q E->sp vs H Q E):eY P w K mg base ei k f fd ps Qh:=
 ⟨λvs H Q E q=>F.len vs H Q E (h _ _ _ _ q),λA outer s H args us vs Q E ay he af bh az=>F.run A outer s H args us vs Q E ay he af bh (h _ _ _ _ az)⟩
def kA.make{P:cu}{w:b8}{K:a'}{mg:Str->Option ao}{base:bL}{A:cp}{outer:List Env}{s:aH}{H:aB}(e:kA P w K mg base A outer s H)(C:aj)(us:List ao)(kw:List (Str×ao)):
  kA P w K mg base (unop%WW 0) outer s H:=⟨by first|exact e.frames|(simpa [Around.under,Code.envs,Code.isFrame,pushEnvs] using e.frames),e.mod,e.bs,e.mI,e.kb,e.nI,e.bF,e.bare⟩
theorem kA.in1{P:cu}{w:b8}{K:a'}{mg:Str->Option ao}{base:bL}{A:cp}{outer:List Env}{s:aH}{H:aB}(e:kA P w K mg base A outer s H):
  kA P w K mg base A.in1 outer s H:=⟨e.frames,e.mod,e.bs,e.mI,e.kb,e.nI,e.bF,e.bare⟩
section
variable {X:aY}{ak:List (aj×Obj)}{σ:St}{H:aB}{s s':aH}
def Inv.tX(I:Inv X ak σ H s):kA X.prog X.w X.K X.mg X.base X.A X.stack s H:=
 ⟨I.ok.frames,I.ok.mod,I.bs,h9 I.ok.mI I.anA,I.stack,I.Kv,I.bF,I.bare⟩
def Inv.after{Q:c0}{u:ao}(I:Inv X ak σ H s)(h:Al X.stack X.prog X.w H s Q u s'):gX X ak σ Q u s':=by
 obtain⟨v,ag,os,bare,un,bF,r,q⟩:=h;obtain⟨cM,g,d,t,q5⟩:=s';obtain rfl:q5=s.os:=os;exact⟨v,ag,I.call (h':=cM) (g':=g) (d':=d) (t':=t) (ch:=[]) un bF bare (λb z=>absurd z (by simp)),r,q⟩
end
noncomputable def amg(sp:kD)(iK:List V)(E:e5)(t:fH):TE:=λσ H Q=>t σ H λvs H1=>sp (vs++iK) H1 Q E
noncomputable def Up(C:aj)(m:Str)(sp:kD)(iK:List V)(E:e5)(cy:TE)(t:fH):TE:=λσ H Q=>cy σ H λx H1=>∃a bE aF,x=.ref a/\H1 a=some (.ins C bE aF)/\aF.lookup m=none /\
 t σ H1 λvs bw=>sp (x::(vs++iK)) bw Q E
noncomputable def amd(C:aj)(sp:kD)(iK:List V)(E:e5)(t:fH):TE:=λσ H Q=>t σ H λvs H1=>∀x bE,H1 x=none->H1 bE=none->bE≠x ->
 sp (.ref x::(vs++iK)) (upd (upd H1 bE (.own x)) x (.ins C bE [])) (λv bw=>v=.d1/\Q (.ref x) bw) E
noncomputable def f7(K:a')(fd:er)(ps:List Str)(ds:List ao):Prop:=
 ∀(s:aH) (us:List ao),K.In s.heap->(us++ds).length=ps.length->BindsTo s fd ⟨us,[]⟩ (ps.zip (us++ds))
def f7.all{K:a'}{fd:er}{ps:List Str}(h:∀us:List ao,us.length=ps.length->bindArgs fd ⟨us,[]⟩=pure (ps.zip us)):f7 K fd ps []:=λs us _ aI=>by
 rw[lO] at aI ⊢;exact .of_eq (h us aI)
noncomputable def tf(ei:mD)(X:aY)(E:e5):Prop:=∀(ak:List (aj×Obj)) (σ:St) (H:aB) (s:aH) (e:ao) (s':aH),Inv X ak σ H s->ei X.stack H s E e s'->X.di e s'
section
variable {X:aY}{ei:mD}{k:Nat}{f C:aj}{fd:er}{ps:List Str}{sp:kD}{iK:List V}{ds:List ao}{E:e5}{x m:Str}{p pos apos:Pos}{e o:bt}{es:List bt}{cy:TE}{t:fH}
def MQ{ak:List (aj×Obj)}{σ:St}{H:aB}{s:aH}{Q:c0}{us:List ao}{vs:List V}(F:eY X.prog X.w X.K X.mg X.base ei k f fd ps sp)(ay:c9 k X.A)(af:f7 X.K fd ps ds)(hd:Vals iK ds)(hx:tf ei X E)
  (I:Inv X ak σ H s) (r:Vals vs us) (h:sp (vs++iK) H Q E):a0 (unop%Wk 0) X.A (call (.ref f) us) (gX X ak σ Q) X.di s:=by
 have b_:Vals (vs++iK) (us++ds):=r.append hd;have aI:(us++ds).length=ps.length:=by rw[<- b_.length];exact F.len _ _ _ _ h
 refine qh (nd (F.run X.A X.stack s H ⟨us,[]⟩ (us++ds) (vs++iK) Q E ay I.tX (af s us I.jU aI) b_ h) λr s' aX=>?_)
 cases r with
|error e=>exact hx ak σ H s e s' I aX
|ok dt=>
  cases dt with
  |ret u=>exact I.after aX
  |next=>exact d6 aX
  |brk=>exact d6 aX
  |cont=>exact d6 aX
def Mz(F:eY X.prog X.w X.K X.mg X.base ei k f fd ps sp)(ay:c9 k X.A)(bg:dZ X x)(hm:X.mg x=some (.ref f))(aL:m8 X.K (.ref f)=true)(af:f7 X.K fd ps ds)(hd:Vals iK ds)(hx:tf ei X E)
  (aA:fR X (e::es) t) (fD:(x==("__debug__":Str))=false:=by decide) (he:a9 (e::es) X.env=(false,eval e X.env)::a9 es X.env:=by rfl) (hpl:(unop%Wu 0).any (·.1)=false:=by rfl):
  b0 X (unop%Wz 0) (amg sp iK E t):=by
 intro ak s σ H Q I h;refine nc (vh I bg hm ?_ fD);refine PySem.W.callWith_K (h₀:=X.base) I.ok.mod.oX aL (cH (aA pos ak s σ H _ I h) λus s1 ⟨vs,H1,ba,r,q⟩=>⟨ba.jU,?_⟩) he hpl;exact MQ F ay af hd hx ba r q
def Tc{pl:Sem Bool}(he:b0 X o cy)(c:oq X.K C)(hm:Meth X.K C m f)(F:eY X.prog X.w X.K X.mg X.base ei k f fd ps sp)(ay:c9 k X.A)(af:f7 X.K fd ps ds)(hd:Vals iK ds)(hx:tf ei X E)(aA:fR X (e::es) t)
  (gg:a9 (e::es) X.env=(false,eval e X.env)::a9 es X.env:=by rfl) (hpl:(unop%Wu 0).any (·.1)=false:=by rfl)
  (bp:eval (unop%WJ 0) X.env=(do
   let e7 <- eval o X.env
   standAt apos.atName
   let (f,first) <- holding [e7] (getMethod e7 m pl)
   callWith pos f first (c3 pos (a9 (e::es) X.env)) (fP pos (fO [] X.env))):=by rfl):
  b0 X (unop%WJ 0) (Up C m sp iK E cy t):=by
 intro ak s σ H Q I h;refine PySem.W.methodCall_KW (pl:=pl) (cH (he ak s σ H _ I h) λu s1 hqq=>?_) bp;obtain⟨x,H1,ba,aU,a,bE,aF,ex,ea,l,q⟩:=hqq;subst ex;obtain rfl:u=Value.ref a:=aU;refine RJ ba ea c hm l ?_;refine PySem.W.callWith_K (first:=[.ref a]) (h₀:=X.base) I.ok.mod.oX hm.aG (cH (aA pos ak s1 σ H1 _ ba q) λus s2 ⟨vs,bw,cq,r,bf⟩=>⟨cq.jU,?_⟩) gg hpl;exact MQ (us:=.ref a::us) (vs:=.ref a::vs) F ay af hd hx cq (.cons rfl r) bf
def SG{pl:Sem Bool}(he:b0 X o cy)(c:oq X.K C)(hm:Meth X.K C m f)(F:eY X.prog X.w X.K X.mg X.base ei k f fd ps sp)(ay:c9 k X.A)(af:f7 X.K fd ps ds)(hd:Vals iK ds)(hx:tf ei X E)
  (bp:eval (unop%WT 0) X.env=(do
   let e7 <- eval o X.env
   standAt apos.atName
   let (f,first) <- holding [e7] (getMethod e7 m pl)
   callWith pos f first (c3 pos (a9 [] X.env)) (fP pos (fO [] X.env))):=by rfl):
  b0 X (unop%WT 0) (Up C m sp iK E cy md):=by
 intro ak s σ H Q I h;refine PySem.W.methodCall_KW (pl:=pl) (cH (he ak s σ H _ I h) λu s1 hqq=>?_) bp;obtain⟨x,H1,ba,aU,a,bE,aF,ex,ea,l,q⟩:=hqq;subst ex;obtain rfl:u=Value.ref a:=aU;refine RJ ba ea c hm l ?_;exact PySem.W.callWith_K0 (first:=[.ref a]) ba.jU hm.aG (MQ (us:=[.ref a]) (vs:=[.ref a]) F ay af hd hx ba (.cons rfl .nil) q)
structure xB(K:a')(C f:aj):Prop where
 makes:PySem.W.makesIn K C=true
 init:lL K (.ref C) "__init__"=some (some (.ref f))
 fn:PySem.W.isFn K (.ref f)=true
 aG:m8 K (.ref C)=true
def ajj{ak:List (aj×Obj)}{σ:St}{H:aB}{s:aH}{Q:c0}{us:List ao}{vs:List V}(M:xB X.K C f)(F:eY X.prog X.w X.K X.mg X.base ei k f fd ps sp)(ay:c9 (k+1) X.A)(af:f7 X.K fd ps ds)(hd:Vals iK ds)
  (hx:tf ei X E) (I:Inv X ak σ H s) (r:Vals vs us)
  (h:∀x bE,H x=none->H bE=none->bE≠x->sp (.ref x::(vs++iK)) (upd (upd H bE (.own x)) x (.ins C bE [])) (λv bw=>v=.d1/\Q (.ref x) bw) E):
  a0 (unop%Wk 0) X.A (call (.ref C) us) (gX X ak σ Q) X.di s:=by
 have aX:=h (unop%Wq 0) s.heap.objs.size (I.bF.fresh (qd _)) (I.bF.fresh (dy _)) (eQ (Nat.lt_succ_self _));have cq:=Inv.made (C:=C) I;have b_:Vals (V.ref (unop%Wq 0)::(vs++iK)) (Value.ref (unop%Wq 0)::(us++ds)):=.cons rfl (r.append hd);have aI:(Value.ref (unop%Wq 0)::us++ds).length=ps.length:=by
  have e:=b_.length;rw[F.len _ _ _ _ aX] at e;exact e.symm
 refine qh (ajG (f:=f) I.jU M.makes M.init (beq_iff_eq.mp M.fn) (nd (F.run _ X.stack _ _ ⟨Value.ref (unop%Wq 0)::us,[]⟩ (Value.ref (unop%Wq 0)::(us++ds)) _ _ E (ay.make C us [])
  (cq.tX.make C us []) (af _ (Value.ref (unop%Wq 0)::us) cq.jU aI) b_ aX) λr s' yi=>?_))
 cases r with
|error e=>exact hx ak σ _ _ e s' cq yi
|ok dt=>
  cases dt with
  |ret u=>
   obtain⟨v,ag,ej,bW,ev,dc⟩:=cq.after yi;subst ev;exact⟨bW,⟨V.ref (unop%Wq 0),ag,ej,rfl,dc⟩⟩
  |next=>exact d6 yi
  |brk=>exact d6 yi
  |cont=>exact d6 yi
def aks(M:xB X.K C f)(F:eY X.prog X.w X.K X.mg X.base ei k f fd ps sp)(ay:c9 (k+1) X.A)(bg:dZ X x)(hm:X.mg x=some (.ref C))(af:f7 X.K fd ps ds)(hd:Vals iK ds)(hx:tf ei X E)
  (aA:fR X (e::es) t) (fD:(x==("__debug__":Str))=false:=by decide) (he:a9 (e::es) X.env=(false,eval e X.env)::a9 es X.env:=by rfl) (hpl:(unop%Wu 0).any (·.1)=false:=by rfl):
  b0 X (unop%Wz 0) (amd C sp iK E t):=by
 intro ak s σ H Q I h;refine nc (vh I bg hm ?_ fD);refine PySem.W.callWith_K (h₀:=X.base) I.ok.mod.oX M.aG (cH (aA pos ak s σ H _ I h) λus s1 ⟨vs,H1,ba,r,q⟩=>⟨ba.jU,?_⟩) he hpl;exact ajj M F ay af hd hx ba r q
end
structure cW(N P:List Str)(sc:Scope):Prop where
 kind:sc.kind=.function
 co:sc.isCoroutine=false
 gen:sc.isGenerator=false
 aV:N.Nodup
 pre:N.take P.length=P
 par:∀x∈P,sc.names.lookup x=some .local\/sc.names.lookup x=some .cell
 aaZ:∀y∈sc.names,y.2≠.free
theorem Sf{kindOf:Str->Option nh}{x:Str}:∀{binds:List (Str×ao)} {m:Str->Option ao},(∀v,(x,v)∉binds)->bindL kindOf binds m x=m x
  | [],_,_=>rfl
  | (n,v)::r,m,h=>by
    unfold bindL;rw[Sf λw hw=>h w (dF _ hw)];split
    · have:x≠n:=by rintro rfl;exact h v fg
      simp[this]
    · rfl
theorem Sh{kindOf:Str->Option nh}{x:Str}:∀{binds:List (Str×ao)} {m:Str->Option ao},(∀v,(x,v)∉binds)->bindC kindOf binds m x=m x
  | [],_,_=>rfl
  | (n,v)::r,m,h=>by
    unfold bindC;rw[Sh λw hw=>h w (dF _ hw)];split
    · rfl
    · have:x≠n:=by rintro rfl;exact h v fg
      simp[this]
theorem Sg{kindOf:Str->Option nh}{x:Str}{v:ao}:∀{P:List Str} {vs:List ao} {i:Nat} {m:Str->Option ao},P.Nodup->P[i]?=some x->vs[i]?=some v->kindOf x=some .local ->
  bindL kindOf (P.zip vs) m x=some v
| [],_,_,_,_,h,_,_=>by simp at h
|_::_,[],_,_,_,_,h,_=>by simp at h
|p::P,w::vs,0,m,aV,ah,ar,aL=>by
  simp at ah ar;subst ah;subst ar;show bindL kindOf ((p,w)::P.zip vs) m p=_;unfold bindL;rw[Sf λv bh=>(eP.mp aV).1 (List.of_mem_zip bh).1,if_pos aL];simp
|p::P,w::vs,i+1,m,aV,ah,ar,aL=>by
  show bindL kindOf ((p,w)::P.zip vs) m x=_
  unfold bindL;exact Sg (i:=i) (eP.mp aV).2 (by simpa using ah) (by simpa using ar) aL
theorem Si{kindOf:Str->Option nh}{x:Str}{v:ao}:∀{P:List Str} {vs:List ao} {i:Nat} {m:Str->Option ao},P.Nodup->P[i]?=some x->vs[i]?=some v->kindOf x≠some .local ->
  bindC kindOf (P.zip vs) m x=some v
| [],_,_,_,_,h,_,_=>by simp at h
|_::_,[],_,_,_,_,h,_=>by simp at h
|p::P,w::vs,0,m,aV,ah,ar,aL=>by
  simp at ah ar;subst ah;subst ar;show bindC kindOf ((p,w)::P.zip vs) m p=_;unfold bindC;rw[Sh λv bh=>(eP.mp aV).1 (List.of_mem_zip bh).1,if_neg aL];simp
|p::P,w::vs,i+1,m,aV,ah,ar,aL=>by
  show bindC kindOf ((p,w)::P.zip vs) m x=_
  unfold bindC;exact Si (i:=i) (eP.mp aV).2 (by simpa using ah) (by simpa using ar) aL
noncomputable def start(N:List Str)(vs:List V):St:=vs.map some++d5 (N.length - vs.length) none
noncomputable def fm(ei:mD)(P:cu)(w:b8)(K:a')(mg:Str->Option ao)(base:bL)(N:List Str)(qual:Str)(scope:Scope)(f:aj)(cd:ao)(A:cp)(outer:List Env)(s:aH)(H:aB)(E:e5):aY where
 prog:=P
 w:=w
 K:=K
 mg:=mg
 base:=base
 A:=A.deeper (envOfC qual scope s.heap.objs.size f cd)
 N:=N
 dm:=s
 aT:=H
 env:=envOfC qual scope s.heap.objs.size f cd
 outer:=outer
 stack:=envOfC qual scope s.heap.objs.size f cd::outer
 ex:=[]
 calm:=true
 fn:=λ_=>true
 du:=[]
 di:=λe s'=>a0 (bA P w) (A.deeper (envOfC qual scope s.heap.objs.size f cd)) (leaving (envOfC qual scope s.heap.objs.size f cd) e) (λ_ lI=>ei outer H s E e lI) (λbx lI=>ei outer H s E bx lI) s'
def S0{sc:Scope}{n:Nat}{x:Str}(h:sc.names.lookup x=some .cell):∃c,(cellsFrom n sc.names []).lookup x=some c:=by
 have q:=PySem.W.cellsFrom_some sc.names n [] (.inl h);exact Option.isSome_iff_exists.mp q
def R7{ei:mD}{P:cu}{w:b8}{K:a'}{mg:Str->Option ao}{base:bL}{N ps:List Str}{qual:Str}{scope:Scope}{f:aj}{cd:ao}{A:cp}{outer:List Env}{s s1:aH}{H:aB}{E:e5}{us:List ao}{vs:List V}
  (S:cW N ps scope) (hd:A.handled=none) (bP:kA P w K mg base A outer s H) (aI:vs.length=ps.length) (r:Vals vs us)
  (x:InCallC s s.heap.objs.size (bindL (envOfC qual scope s.heap.objs.size f cd).kindOf (ps.zip us) λ_=>none) (cellsFrom (unop%Wq 0) scope.names []) (bindC (envOfC qual scope s.heap.objs.size f cd).kindOf (ps.zip us) λ_=>none) s1):
  Inv (fm ei P w K mg base N qual scope f cd A outer s H E) [] (start N vs) H s1:=by
 have hpl:ps.length<=N.length:=by have:=congrArg List.length S.pre;rw[List.length_take] at this;omega
 obtain⟨ah,tk,rfl,aL⟩:=x.done;have mY:∀b:aj,b∉(fm ei P w K mg base N qual scope f cd A outer s H E).ex:=λb z=>absurd (show b∈([]:List aj) from z) (by simp);refine⟨⟨bP.mod,S.kind,rfl,rfl,dy _,λy z c ah ar=>?_,λy a7=>?_,λy c _ h=>?_,λ_=>hd,Around.frames_deeper bP.frames,.inr ⟨rfl,rfl⟩,λb z=>absurd z (mY b),bP.bs,bP.mI,λb _ _=>mY b,λb z=>absurd z (mY b),bP.kb,bP.nI⟩,
  rfl,bP.bare,fV.kept aL,⟨_,x.toInCall.ns,λi y v ah ar bk=>?_⟩,λy c h=>⟨_,x.cell y c h⟩,bP.bF.fresh (dy _),λy c h=>?_,λp aM=>absurd (show p∈([]:List (aj×Obj)) from aM) (by simp),bP.bF.kept aL,?_⟩
 ·exact name_of_addr x.apart (zf ah) (zf ar)
 ·have a7:scope.names.lookup y=some .cell\/scope.names.lookup y=some .free:=a7;rcases a7 with a7|a7
  ·exact S0 a7
  ·exact absurd rfl (S.aaZ _ (zf a7))
 ·exact Nat.le_of_lt (x.above y c (zf h))
 ·have aQ:i<vs.length:=by
   unfold start at ar;by_cases aQ:i<vs.length
   ·exact aQ
   ·rw[wm (by simpa using aQ)] at ar;rw[List.getElem?_replicate] at ar;split at ar <;> cases ar
  have aA:vs[i]?=some v:=by
   unfold start at ar;rw[wo (by simpa using aQ),kp] at ar;cases e:vs[i]? with
   |none=>rw[e] at ar;cases ar
   |some a=>rw[e] at ar;cases ar;rfl
  obtain⟨u,b1,bW⟩:=r.get aA;have aM:ps[i]?=some y:=by
   rw[<- S.pre,List.getElem?_take_of_lt (by omega)];exact ah
  have PS:ps.Nodup:=by rw[<- S.pre];exact S.aV.sublist (List.take_sublist _ _)
  refine⟨u,bW,?_⟩
  rcases S.par y (pb aM) with k|k
  ·exact .inl ⟨k,Sg PS aM b1 k⟩
  ·obtain⟨c,e⟩:=S0 (n:=s.heap.objs.size+1) k;refine .inr ⟨.inl k,c,e,?_⟩;have q:=x.cell y c e;rw[Si PS aM b1 (by show scope.names.lookup y≠_;rw[k];decide)] at q;exact q
 ·exact bP.bF.fresh (Nat.le_of_lt (x.above y c (zf h)))
 ·unfold start;show _=N.length;rw[n7,f5,List.length_replicate];omega
def Nc{ei:mD}{P:cu}{w:b8}{K:a'}{mg:Str->Option ao}{base:bL}{k:Nat}{f:aj}{name qual:Str}{params:Arguments}{body:List Stmt}{scope:Scope}{AI dD doc pm b3 cP gQ:ao}{an eB:Option aj}
  {jW:Array (Option ao)} {N ps:List Str} {sp:kD} (lk:K.lookup f=some ⟨gQ,eB,.func (kS name qual params body scope AI dD doc pm an b3 cP),jW⟩) (eg:qc K b3 qual=true) (S:cW N ps scope)
  (len:∀vs H Q E,sp vs H Q E->vs.length=ps.length)
  (qQ:∀(A:cp) (outer:List Env) (s:aH) (H:aB) (vs:List V) (Q:c0) (E:e5),c9 k (A.deeper (envOfC qual scope s.heap.objs.size f b3))->sp vs H Q E ->
   ∃t,fS (fm ei P w K mg base N qual scope f b3 A outer s H E) body t/\t {bG:=λ_ ag=>Q .d1 ag,dE:=Q} (start N vs) H):
  eY P w K mg base ei (k+1) f (kS name qual params body scope AI dD doc pm an b3 cP) ps sp:=by
 refine⟨len,λA outer s H args us vs Q E ay bP af r sk=>?_⟩
 have aI:=len _ _ _ _ sk;have la:K.In s.heap:=bP.mod.oX.keeps λb o e=>(bP.bs b o e).1;have lim:s.heap.NoLimit:=bP.mod.nolimit.keeps λb o e=>(bP.bs b o e).1;have Hx:∀y∈ps.zip us,scope.names.lookup y.1=some .local\/(scope.names.lookup y.1=some .cell/\((cellsFrom (unop%Wq 0) scope.names []).lookup y.1).isSome=true):=λ⟨n,v⟩ a7=>by
  rcases S.par n (List.of_mem_zip a7).1 with q|q
  ·exact .inl q
  ·exact .inr ⟨q,PySem.W.cellsFrom_some _ _ _ (.inl q)⟩
 refine codeAny_call_function ay.depth (la _ _ lk) rfl S.co S.gen rfl (PySem.W.codeRec_of la eg) (af _ _ _ _ ?_)
 refine wpAny_newFunctionEnv_cells S.kind Hx λenv he s1 x=>?_
 subst he;refine⟨lim.keeps x.toInCall.keep,codeAny_func ?_⟩;obtain⟨t,bp,aX⟩:=qQ A outer s H vs Q E (ay.deeper _) sk;have I:Inv (fm ei P w K mg base N qual scope f b3 A outer s H E) [] (start N vs) H s1:=R7 S ay.hd bP aI r x;refine et (bp [] s1 (start N vs) H _ I aX) (λdt s' az=>?_) λe s' az=>az;have fin:∀{cj:St} {ag:aB} {v:V} {u:ao},Inv (fm ei P w K mg base N qual scope f b3 A outer s H E) [] cj ag s'->RelV v u->Q v ag->Al outer P w H s Q u s':=
  λ{cj ag v u} J bW q=>⟨v,ag,J.os,J.bare,J.base,J.bF,bW,q⟩
 cases dt with
|ret u=>
  obtain⟨v,cj,ag,J,bW,q⟩:=az;exact fin J bW q
|next=>
  obtain⟨cj,ag,J,q⟩:=az;exact fin (v:=V.d1) (u:=Value.none) J rfl q
|brk=>
  obtain⟨_,_,_,q⟩:=az;exact d6 q
|cont=>
  obtain⟨_,_,_,q⟩:=az;exact d6 q
end bu
namespace bu
open PySem PySem.Spec PyProof.Rows
section
variable {X:aY}{x:Str}{p pos:Pos}{e:bt}{es:List bt}{t:fH}{id T:String}{r:List V->aB->c0->Prop}
noncomputable def CD(r:List V->aB->c0->Prop)(t:fH):TE:=λσ H Q=>t σ H λvs H1=>r vs H1 Q
def wU(ax:anw X (.builtin id) r)(bg:dZ X x)(hm:X.mg x=none)(bh:bootBuiltins x=some (.builtin id))(aA:fR X (e::es) t)(bc:x≠"__name__":=by decide)(fD:(x==("__debug__":Str))=false:=by decide)
  (he:a9 (e::es) X.env=(false,eval e X.env)::a9 es X.env:=by rfl) (hpl:(unop%Wu 0).any (·.1)=false:=by rfl):b0 X (unop%Wz 0) (CD r t):=by
 intro ak s σ H Q I h;refine nc (pv I bg hm bh ?_ bc fD);exact PyProof.Rows.callWith_builtin1 (cH (aA pos ak s σ H _ I h) λus s1 ⟨vs,H1,ba,a_,aP⟩=>ax ak s1 σ H1 vs us Q ba a_ aP) he hpl
def DO(ax:anw X (.type T) r)(bg:dZ X x)(hm:X.mg x=none)(bh:bootBuiltins x=some (.type T))(aA:fR X (e::es) t)(bc:x≠"__name__":=by decide)(fD:(x==("__debug__":Str))=false:=by decide)
  (he:a9 (e::es) X.env=(false,eval e X.env)::a9 es X.env:=by rfl) (hpl:(unop%Wu 0).any (·.1)=false:=by rfl):b0 X (unop%Wz 0) (CD r t):=by
 intro ak s σ H Q I h;refine nc (pv I bg hm bh ?_ bc fD);exact wt (cH (aA pos ak s σ H _ I h) λus s1 ⟨vs,H1,ba,a_,aP⟩=>ax ak s1 σ H1 vs us Q ba a_ aP) he hpl
end
end bu
namespace fA
open PySem PyProof.Rows
section
variable {prog:cu}{w:b8}{A:cp}{E:ao->aH->Prop}{s:aH}
def W7{t b:aj}{vs ws:List ao}{Q:ao->aH->Prop}(bp:IsTup s.heap t vs.toArray)(af:IsTup s.heap b ws.toArray)(bh:vs≠[])
  (ah:ws=[]->Q (.ref t) s) (ar:ws≠[]->Q (unop%WB 0) {s with heap:=s.heap.push {cls:=.type "tuple",data:=.seq (vs++ws).toArray} })
  (hsz:vs.length+ws.length<=cn):a0 (bA prog w) A (ng .Add (.ref t) (.ref b)) Q E s:=by
 obtain⟨⟨cls,dd,data,cG⟩,aK,ax,n,hd⟩:=id bp;obtain⟨⟨Gs,nG,data2,iy⟩,ud,ke,fE,hd2⟩:=id af;simp only at ax hd ke hd2;subst ax hd ke hd2;have e:vs.toArray++ws.toArray=(vs++ws).toArray:=by simp
 by_cases hw:ws=[]
 ·exact concat_meets ⟨_,aK,rfl⟩ ⟨_,ud,rfl⟩ noFill_tuple_add seq_tuple_add PySem.F.slot_tuple_add PySem.F.entry_tuple_add (PySem.F.args_tuple_add_2 _ _)
   (tuple_addW1 t b vs.toArray ws.toArray n fE dd nG cG iy (by simpa using bh) (by simp[hw])) ⟨aK,ud,ah hw⟩
 ·refine concat_meets ⟨_,aK,rfl⟩ ⟨_,ud,rfl⟩ noFill_tuple_add seq_tuple_add PySem.F.slot_tuple_add PySem.F.entry_tuple_add (PySem.F.args_tuple_add_2 _ _)
   (tuple_addW2 t b vs.toArray ws.toArray n fE dd nG cG iy (by simpa using bh) (by simpa using hw) (by rw[eW,eW];exact hsz)) ⟨aK,ud,?_⟩
  rw[e];exact ar hw
noncomputable def c7(n d:Nat):Option Int->Nat
|none=>d
|some v=>if v<0 then (v+(n:Int)).toNat else min v.toNat n
def ale(n d:Nat)(hd:d<=n)(o:Option Int):c7 n d o<=n:=by
 cases o with
|none=>exact hd
|some v=>
  show (if v<0 then (v+(n:Int)).toNat else min v.toNat n)<=n
  by_cases bh:v<0
  ·rw[if_pos bh];omega
  ·rw[if_neg bh];exact Nat.min_le_right _ _
def Tu(v:Int)(n d:Nat):(if v<0 then max (v+(n:Int)) 0 else min v (n:Int))=((c7 n d (some v):Nat):Int):=by
 show (if v<0 then max (v+(n:Int)) 0 else min v (n:Int))=(((if v<0 then (v+(n:Int)).toNat else min v.toNat n):Nat):Int)
 by_cases bh:v<0
 ·simp only[if_pos bh];omega
 ·simp only[if_neg bh];omega
def ah1(lo aQ:Option Int)(n:Nat):Builtin.Slice.sliceAdjust lo aQ 1 (n:Int)=(((c7 n 0 lo:Nat):Int),((c7 n n aQ:Nat):Int)):=by
 have ah:¬((1:Int)<0):=by omega
 unfold Builtin.Slice.sliceAdjust;simp only[ah,if_false];refine Prod.ext ?_ ?_
 ·cases lo with
  |none=>rfl
  |some v=>exact Tu v n 0
 ·cases aQ with
  |none=>rfl
  |some v=>exact Tu v n n
def ahq(i j:Nat):CS (i:Int) (j:Int) 1=j - i:=by
 unfold CS;have ah:(1:Int) > 0:=by omega
 simp only[ah,if_true,Int.ediv_one];split <;> omega
def Ru{v:ao}{o:Option Int}{Q:Option Int->aH->Prop}(p:IsPart v o)(h:Q o s):a0 (bA prog w) A (Builtin.Slice.slicePartIndex v) Q E s:=by
 cases p with
|none=>exact slicePart_none h
|int i t=>exact slicePart_int h
def Qg{cG:aj}{h7 e9:ao}{lo aQ:Option Int}{n:Nat}{Q:Int×Int×Nat->aH->Prop}(az:s.heap.IsSliceOf cG h7 e9 .none)(pl:IsPart h7 lo)(pu:IsPart e9 aQ)
  (h:Q (((c7 n 0 lo:Nat):Int),1,c7 n n aQ - c7 n 0 lo) s):a0 (bA prog w) A (Builtin.Slice.sliceApplied (.ref cG) (pure (n:Int))) Q E s:=by
 obtain⟨os,qV,Bj,x'⟩:=id az;unfold Builtin.Slice.sliceApplied Builtin.Slice.sliceFields;refine aO (aO (ib qV x' (x:=h7) rfl (aO (ib qV x' (x:=e9) rfl (aO (ib qV x' (x:=.none) rfl (bX ?_)))))));refine aO (slicePart_none ?_);show a0 _ _ (if ((1:Int)==0)=true then _ else _) _ _ s;rw[if_neg (by decide)];refine aO (Ru pl (aO (Ru pu (aO (bX ?_)))));show a0 _ _ (match Builtin.Slice.sliceAdjust lo aQ 1 (n:Int) with|(lo,aQ)=>pure (lo,(1:Int),CS lo aQ 1)) _ _ s;rw[ah1 lo aQ n];show a0 _ _ (pure (((c7 n 0 lo:Nat):Int),(1:Int),CS ((c7 n 0 lo:Nat):Int) ((c7 n n aQ:Nat):Int) 1)) _ _ s;rw[ahq];exact bX h
def ajp(xs:Array ao)(i k:Nat):((List.range k).filterMap λ(m:Nat)=>xs[((i:Int)+(m:Int)*1).toNat]?).toArray=((xs.toList.drop i).take k).toArray:=by
 have e:(λ(m:Nat)=>xs[((i:Int)+(m:Int)*1).toNat]?)=λm=>xs[i+m]?:=by
  funext m;have:((i:Int)+(m:Int)*1).toNat=i+m:=by omega
  rw[this]
 rw[e];have:=pick_run xs i k;rw[List.filterMap_map] at this;have aN:((λx=>xs[x]?) ∘ λx=>i+x)=λm=>xs[i+m]?:=rfl;rw[aN] at this;rw[this]
def Y3{t cG:aj}{items:Array ao}{h7 e9:ao}{lo aQ:Option Int}{Q:ao->aH->Prop}(bp:IsTup s.heap t items)(az:s.heap.IsSliceOf cG h7 e9 .none)(pl:IsPart h7 lo)(pu:IsPart e9 aQ)
  (hw:¬(c7 items.size 0 lo=0/\c7 items.size items.size aQ=items.size))
  (h:Q (unop%WB 0) {s with heap:=s.heap.push {cls:=.type "tuple",data:=.seq ((items.toList.drop (c7 items.size 0 lo)).take (c7 items.size items.size aQ - c7 items.size 0 lo)).toArray} })
  (hsz:items.size<=cn):a0 (bA prog w) A (getItem (.ref t) (.ref cG)) Q E s:=by
 have Bw:sizeOk (.seq ((items.toList.drop (c7 items.size 0 lo)).take (c7 items.size items.size aQ - c7 items.size 0 lo)).toArray):=by
  show ((items.toList.drop (c7 items.size 0 lo)).take (c7 items.size items.size aQ - c7 items.size 0 lo)).toArray.size<=cn
  rw[eW,List.length_take,List.length_drop,sN];omega
 have bS:c7 items.size items.size aQ<=items.size:=ale _ _ (dy _) aQ;obtain⟨os,qV,Bj,x'⟩:=id az;have Hd:s.TypeIs (.ref cG) "slice":=⟨os,qV,Bj⟩;unfold getItem
 try with_reducible refine ia ?_
 first|refine aO (bX ?_)|skip
 refine aO (wpAny_sequenceKey bp.typeIs (by decide) ?_)
 refine aO (sP (name:=Str.ofString "__getitem__") bp.typeIs CR
  (rh CR bp.typeIs entry_tuple_getitem ?_ (args_tuple_getitem _ _)))
 show a0 _ _ (Builtin.Tuple.tupleItemsOf (.ref t) >>= _) _ _ s
 refine aO (tupleItemsOf_ bp ?_)
 refine aO (wpAny_typeOf Hd ?_)
 rw[if_pos (by decide)];refine aO (Qg az pl pu ?_);have vW:¬((((c7 items.size 0 lo:Nat):Int)==0 && (1:Int)==1 && (c7 items.size items.size aQ - c7 items.size 0 lo)==items.size)=true):=by
  intro q;rw[gV,gV] at q;have aP:((c7 items.size 0 lo:Nat):Int)=0:=eq_of_beq q.1.1;have bf:c7 items.size items.size aQ - c7 items.size 0 lo=items.size:=eq_of_beq q.2;exact hw ⟨by omega,by omega⟩
 show a0 _ _ (if (((c7 items.size 0 lo:Nat):Int)==0 && (1:Int)==1 && (c7 items.size items.size aQ - c7 items.size 0 lo)==items.size)=true then _ else _) _ _ s
 rw[if_neg vW,ajp]
 first
  |exact aO (m:=uP _) (qe (bX ⟨_,rfl,bX h⟩) Bw)
  |exact aO (m:=uP _) (qe (aO (bX (bX ⟨_,rfl,bX h⟩))) Bw)
  |exact aO (aO (m:=uP _) (qe (bX (bX ⟨_,rfl,bX h⟩)) Bw))
  |exact aO (aO (m:=uP _) (qe (bX ⟨_,rfl,bX h⟩) Bw))
end
end fA
namespace bu
open PySem PySem.Spec PyProof.Rows
abbrev cL:=St->aB->(Option Int->aB->Prop)->Prop
noncomputable def pH(X:aY)(e:Option bt)(t:cL):Prop:=
 ∀(ak:List (aj×Obj)) (s:aH) (σ:St) (H:aB) (Q:Option Int->aB->Prop),Inv X ak σ H s->t σ H Q ->
  a0 (unop%Wk 0) X.A (evalPart e X.env) (λu s'=>∃o ag,Inv X ak σ ag s'/\IsPart u o/\Q o ag) X.di s
noncomputable def aj8:cL:=λ_ H Q=>Q none H
noncomputable def amb(t:TE):cL:=λσ H Q=>t σ H λx H1=>∃i,x=.int i/\Q (some i) H1
section
variable {X:aY}{e:bt}{g8:TE}{lo aQ:Option bt}{j0 CG:cL}{pos eN:Pos}
def akn:pH X none aj8:=by
 intro ak s σ H Q I h;rw[evalPart_none];exact bX ⟨none,H,I,.none,h⟩
def akm(h:b0 X e g8):pH X (some e) (amb g8):=by
 intro ak s σ H Q I hw;rw[evalPart_some];refine cH (h ak s σ H _ I hw) λu s1 hqq=>?_;obtain⟨x,H1,ba,a_,aP⟩:=hqq;obtain⟨i,rfl,q⟩:=aP;obtain⟨t,rfl⟩:=a_;exact⟨some i,H1,ba,.int i t,q⟩
noncomputable def rR(X:aY)(r:V->Option Int->Option Int->aB->c0->Prop):Prop:=
 ∀(ak:List (aj×Obj)) (s:aH) (σ:St) (H:aB) (x:V) (v h7 e9:ao) (lo aQ:Option Int) (cG:aj) (Q:c0),Inv X ak σ H s->RelV x v->s.heap.IsSliceOf cG h7 e9 .none->IsPart h7 lo->IsPart e9 aQ->r x lo aQ H Q ->
  ∃T id,typeLookup (.type T) "__getitem__"=pure (some (.builtin id))/\s.TypeIs v T/\a0 (unop%Wk 0) X.A (getItem v (.ref cG)) (gX X ak σ Q) X.di s
def rR.or{r cm:V->Option Int->Option Int->aB->c0->Prop}(h:rR X r)(h':rR X cm):rR X (λx lo aQ H Q=>r x lo aQ H Q\/cm x lo aQ H Q):=by
 intro ak s σ H x v h7 e9 lo aQ cG Q I aU az pl pu q;rcases q with q|q
 ·exact h ak s σ H x v h7 e9 lo aQ cG Q I aU az pl pu q
 ·exact h' ak s σ H x v h7 e9 lo aQ cG Q I aU az pl pu q
noncomputable def ae7(r:V->Option Int->Option Int->aB->c0->Prop)(g8:TE)(j0 CG:cL):TE:=λσ H Q=>g8 σ H λx H1=>j0 σ H1 λl bw=>CG σ bw λu eZ=>r x l u eZ Q
def ajs{r:V->Option Int->Option Int->aB->c0->Prop}(ay:rR X r)(he:b0 X e g8)(aI:pH X lo j0)(b1:pH X aQ CG):b0 X (.Subscript e (.Slice lo aQ none eN) pos) (ae7 r g8 j0 CG):=by
 intro ak s σ H Q I h;refine Subscript_ (cH (he ak s σ H _ I h) λv s1 hqq=>?_);obtain⟨x,H1,ba,a_,aP⟩:=hqq;refine wpAny_Slice (cH (aI ak s1 σ H1 _ ba aP) λh7 s2 ⟨l,bw,cq,pl,bf⟩=>cH (b1 ak s2 σ bw _ cq bf) λe9 s3 hqq=>?_);obtain⟨u,eZ,ej,pu,dc⟩:=hqq;rw[evalPart_none];refine bX ?_;have mG:Inv X ak σ eZ {s3 with heap:=s3.heap.push {cls:=.type "slice",data:=.fields #[h7,e9,.none]} }:=ej.kept (t':=s3.toks) λb dA q=>cQ _ q;obtain⟨T,id,cU,bp,bg⟩:=ay ak {s3 with heap:=s3.heap.push {cls:=.type "slice",data:=.fields #[h7,e9,.none]} } σ eZ x v h7 e9 l u s3.heap.objs.size Q mG a_ (Heap.IsSliceOf.new ..) pl pu dc;show a0 (unop%Wk 0) X.A (subscriptTail e (.Slice lo aQ none eN) v (.ref s3.heap.objs.size)) (gX X ak σ Q) X.di {s3 with heap:=s3.heap.push {cls:=.type "slice",data:=.fields #[h7,e9,.none]} };exact tail_any (ops:=[.ref s3.heap.objs.size,v]) bp cU bg (by with_unfolding_all rfl)
noncomputable def oH(xs:List V)(lo aQ:Option Int):List V:=(xs.drop (fA.c7 xs.length 0 lo)).take (fA.c7 xs.length xs.length aQ - fA.c7 xs.length 0 lo)
def Rq(xs:List V)(lo aQ:Option Int):(oH xs lo aQ).length<=xs.length:=by
 unfold oH;rw[List.length_take,List.length_drop];omega
noncomputable def adK(K:a'):V->Option Int->Option Int->aB->c0->Prop:=λx lo aQ H Q=>∃a xs,x=.ref a/\c' K H a xs /\
 ¬(fA.c7 xs.length 0 lo=0/\fA.c7 xs.length xs.length aQ=xs.length)/\∀p,H p=none->Q (.ref p) (upd H p (.tup (oH xs lo aQ)))
def ak':rR X (adK X.K):=by
 intro ak s σ H x v h7 e9 lo aQ cG Q I aU az pl pu h;obtain⟨a,xs,rfl,hx,hw,q⟩:=h;cases aU;obtain⟨its,r,bp,au⟩:=I.tuple hx;have hlen:its.toArray.size=xs.length:=by rw[eW];exact r.length.symm
 refine⟨"tuple",_,PyProof.Rows.slot_tuple_getitem.lookup,bp.typeIs,?_⟩
 refine fA.Y3 bp az pl pu (by rw[hlen];exact hw) ?_ (by rw[hlen];exact au)
 rw[hlen];refine⟨.ref s.heap.objs.size,_,I.laid (t':=s.toks) (o:=.tup (oH xs lo aQ)) (λb dA q=>cQ _ q) (dy _) ?_,rfl,q _ (I.bF.fresh (dy _))⟩;exact⟨h9 (Rq xs lo aQ) au,_,(r.drop (fA.c7 xs.length 0 lo)).take (fA.c7 xs.length xs.length aQ - fA.c7 xs.length 0 lo),IsTup.new _ _⟩
noncomputable def amq(K:a'):gG:=λx y H Q=>∃a b xs ys,x=.ref a/\y=.ref b/\c' K H a xs/\c' K H b ys/\xs≠[]/\xs.length+ys.length<=cn /\
 (ys=[]->Q (.ref a) H)/\(ys≠[]->∀p,H p=none->Q (.ref p) (upd H p (.tup (xs++ys))))
def Vals.B'{xs:List V}{us:List ao}(r:Vals xs us):us=[] <-> xs=[]:=by
 cases r with
|nil=>simp
|cons _ _=>simp
def akD:eU X (ng .Add) (amq X.K):=by
 intro ak s σ H x y v u Q I aU bD h;obtain⟨a,b,xs,ys,rfl,rfl,aA,af,hx,au,aP,bf⟩:=h;cases aU;cases bD;obtain⟨its,a_,lC,_⟩:=I.tuple aA;obtain⟨kj,b_,eN,_⟩:=I.tuple af;refine fA.W7 lC eN (λz=>hx (a_.B'.mp z)) (λz=>⟨.ref a,H,I,rfl,aP (b_.B'.mp z)⟩) (λz=>?_) (by rw[<- a_.length,<- b_.length];exact au);refine⟨.ref s.heap.objs.size,_,I.laid (t':=s.toks) (o:=.tup (xs++ys)) (λb dA q=>cQ _ q) (dy _) ?_,rfl,bf (λw=>z (b_.B'.mpr w)) _ (I.bF.fresh (dy _))⟩;exact⟨by rw[n7];exact au,_,a_.append b_,IsTup.new _ _⟩
end
end bu
namespace bu
open PySem PySem.Spec PyProof.Rows
noncomputable def sq(n:Nat)(i:Int):Option Nat:=if 0<=i then (if i<n then some i.toNat else none) else if -(n:Int)<=i then some (i+n).toNat else none
noncomputable def xM{α:Type}(xs:List α)(i:Int):Option α:=(sq xs.length i).bind λj=>xs[j]?
def akN{n:Nat}{i:Int}{j:Nat}(h:sq n i=some j):seqIndex? i n=some j/\j<n/\-(n:Int)<=i/\i<n:=by
 unfold sq at h;by_cases h0:0<=i
 ·rw[if_pos h0] at h;by_cases ah:i<n
  ·rw[if_pos ah] at h;have e:i.toNat=j:=fN h;exact⟨by rw[seqIndex_of h0 ah,e],by omega,by omega,ah⟩
  ·rw[if_neg ah] at h;cases h
 ·rw[if_neg h0] at h;by_cases ah:-(n:Int)<=i
  ·rw[if_pos ah] at h;have e:(i+n).toNat=j:=fN h;exact⟨by rw[seqIndex_neg (by omega) ah,e],by omega,ah,by omega⟩
  ·rw[if_neg ah] at h;cases h
def MJ{α:Type}{xs:List α}{i:Int}{v:α}(h:xM xs i=some v):∃j,seqIndex? i xs.length=some j/\xs[j]?=some v/\j<xs.length/\-(xs.length:Int)<=i/\i<xs.length:=by
 unfold xM at h;cases e:sq xs.length i with
|none=>rw[e] at h;cases h
|some j=>
  rw[e] at h;obtain⟨ah,ar,bk,cB⟩:=akN e;exact⟨j,ah,h,ar,bk,cB⟩
noncomputable def TB(b:bt):Prop:=∀o i,subscripted b false o i=operate [o,i] (getItem o i)
noncomputable def qx(X:aY)(r:gG):Prop:=
 ∀(value slice:bt) (ak:List (aj×Obj)) (s:aH) (σ:St) (H:aB) (x y:V) (v u:ao) (Q:c0),Inv X ak σ H s->RelV x v->RelV y u->r x y H Q ->
  subscripted slice false v u=operate [v,u] (getItem v u)->a0 (unop%Wk 0) X.A (subscriptTail value slice v u) (gX X ak σ Q) X.di s
noncomputable def Ar(X:aY)(id:String)(r:V->List V->aB->c0->Prop):Prop:=
 ∀(ak:List (aj×Obj)) (s:aH) (σ:St) (H:aB) (x:V) (xs:List V) (v:ao) (us:List ao) (Q:c0),Inv X ak σ H s->RelV x v->Vals xs us->r x xs H Q ->
  a0 (unop%Wk 0) X.A (call (.builtin id) (v::us)) (gX X ak σ Q) X.di s
section
variable {X:aY}{a b:bt}{cy de:TE}{pos:Pos}
def qx.or{r cm:gG}(h:qx X r)(h':qx X cm):qx X (λx y H Q=>r x y H Q\/cm x y H Q):=by
 intro value slice ak s σ H x y v u Q I aU bD q az;rcases q with q|q
 ·exact h value slice ak s σ H x y v u Q I aU bD q az
 ·exact h' value slice ak s σ H x y v u Q I aU bD q az
def amz{r:gG}(ay:qx X r)(aA:b0 X a cy)(af:b0 X b de)(az:TB b):b0 X (.Subscript a b pos) (uI r cy de):=by
 intro ak s σ H Q I h;exact Subscript_ (FF aA af I h λv u s2 x y bw cq aU bD q=>ay a b ak s2 σ bw x y v u Q cq aU bD q (az _ _))
noncomputable def P9(K:a'):gG:=λx y H Q=>∃p xs i v,x=.ref p/\y=.int i/\fi K H p xs/\xM xs i=some v/\Q v H
noncomputable def P'(K:a'):gG:=λx y H Q=>∃p xs i v,x=.ref p/\y=.int i/\c' K H p xs/\xM xs i=some v/\Q v H
noncomputable def P_:gG:=λx y H Q=>∃z i c,x=.str z/\y=.int i/\z.length<=cn/\xM z.cps.toList i=some c/\Q (.str ⟨#[c]⟩) H
def akM:qx X (P9 X.K):=by
 intro value slice ak s σ H x y v u Q I aU bD h az;obtain⟨p,xs,i,z,rfl,rfl,aX,he,q⟩:=h;cases aU;obtain⟨t,rfl⟩:=bD;obtain⟨its,r,pl,au⟩:=I.list aX;obtain⟨j,ah,ar,bk,cB,gf⟩:=MJ he;obtain⟨w,oM,lH⟩:=r.get ar;have aI:=r.length;have bc:=xe;have fin:gX X ak σ Q w s:=⟨z,H,I,lH,q⟩;by_cases h0:0<=i
 ·have bS:i.toNat=j:=by
   rw[seqIndex_of h0 gf] at ah;exact fN ah
  exact item_listR pl.isList h0 (by omega) (by rw[bS];simpa using oM) fin az
 ·have bS:(i+(its.toArray.size:Int)).toNat=j:=by
   rw[seqIndex_neg (by omega) cB] at ah;rw[eW,<- aI];exact fN ah
  exact subscriptTail_builtinR (x:=w) pl.isList.typeIs slot_list_getitem.lookup
   (wpAny_getItem_list_neg (Q:=λr s'=>r=w/\gX X ak σ Q r s') pl.isList (by omega) (by rw[eW] <;> omega) (by omega) (by rw[bS];simpa using oM) ⟨rfl,fin⟩) az
def alT:qx X (P' X.K):=by
 intro value slice ak s σ H x y v u Q I aU bD h az;obtain⟨p,xs,i,z,rfl,rfl,aX,he,q⟩:=h;cases aU;obtain⟨t,rfl⟩:=bD;obtain⟨its,r,pl,au⟩:=I.tuple aX;obtain⟨j,ah,ar,bk,cB,gf⟩:=MJ he;obtain⟨w,oM,lH⟩:=r.get ar;have aI:=r.length;have bc:=xe;have fin:gX X ak σ Q w s:=⟨z,H,I,lH,q⟩;exact subscriptTail_builtinR (x:=w) pl.typeIs slot_tuple_getitem.lookup
  (getItem_tuple (j:=j) (Q:=λr s'=>r=w/\gX X ak σ Q r s') pl (by omega) (by omega) (by rw[eW,<- aI];exact ah) (by simpa using oM) ⟨rfl,fin⟩) az
def alU:qx X P_:=by
 intro value slice ak s σ H x y v u Q I aU bD h az;obtain⟨z,i,c,rfl,rfl,au,he,q⟩:=h;obtain⟨t,rfl⟩:=aU;obtain⟨t',rfl⟩:=bD;obtain⟨j,ah,ar,bk,cB,gf⟩:=MJ he;have aI:z.cps.toList.length=z.length:=by simp[Str.length]
 rw[aI] at ah cB gf;have bc:=xe;exact tail_any (typeIs_str s z t) slot_str_getitem.lookup (getItem_str (c:=c) (by
  have aw:decide (i < -(2 ^ 63:Int))=false:=decide_eq_false (by omega);have aN:decide (i >= 2 ^ 63)=false:=decide_eq_false (by omega);rw[aw,aN,Bool.or_false]) (by rw[ah];simpa using ar) ⟨.str ⟨#[c]⟩,H,I.tok _,⟨_,rfl⟩,q⟩) az
noncomputable def adI(K:a'):gG:=λx y H Q=>P9 K x y H Q\/P' K x y H Q\/P_ x y H Q
def alV:qx X (adI X.K):=akM.or (alT.or alU)
def agl(lo aQ:Option Int)(n:Nat):(sliceBounds lo aQ none n).1=((fA.c7 n 0 lo:Nat):Int)/\(sliceBounds lo aQ none n).2.1=((fA.c7 n n aQ:Nat):Int)/\(sliceBounds lo aQ none n).2.2=1:=by
 refine⟨?_,?_,rfl⟩
 ·cases lo with
  |none=>simp[sliceBounds,fA.c7]
  |some i=>
   simp only[sliceBounds,fA.c7,Option.getD_none,show (1:Int) > 0 by decide,if_true];by_cases h:i<0
   ·simp only[h,if_true] <;> omega
   ·simp only[h,if_false] <;> omega
 ·cases aQ with
  |none=>simp[sliceBounds,fA.c7]
  |some i=>
   simp only[sliceBounds,fA.c7,Option.getD_none,show (1:Int) > 0 by decide,if_true];by_cases h:i<0
   ·simp only[h,if_true] <;> omega
   ·simp only[h,if_false] <;> omega
def agb(its:List ao)(lo aQ:Option Int):slicePick its.toArray lo aQ none=((its.drop (fA.c7 its.length 0 lo)).take (fA.c7 its.length its.length aQ - fA.c7 its.length 0 lo)).toArray:=by
 obtain⟨ah,ar,bk⟩:=agl lo aQ its.toArray.size;unfold slicePick;rw[ah,ar,bk];simp only[sliceRange_one,pick_run,eW] <;> rfl
noncomputable def adJ(K:a'):V->Option Int->Option Int->aB->c0->Prop:=λx lo aQ H Q=>∃a xs,x=.ref a/\fi K H a xs/\∀p,H p=none->Q (.ref p) (upd H p (.lst (oH xs lo aQ)))
def aj':rR X (adJ X.K):=by
 intro ak s σ H x v h7 e9 lo aQ cG Q I aU az pl pu h;obtain⟨a,xs,rfl,hx,q⟩:=h;cases aU;obtain⟨its,r,bp,au⟩:=I.list hx;have hlen:=r.length;refine⟨"list",_,slot_list_getitem.lookup,bp.isList.typeIs,?_⟩;refine wpAny_getItem_list_slice bp.isList az pl pu .none (by simp) ?_ (by rw[eW] <;> omega);rw[agb,<- hlen];refine⟨.ref s.heap.objs.size,_,I.laid (t':=s.toks) (o:=.lst (oH xs lo aQ)) (λb dA q=>cQ _ q) (dy _) ?_,rfl,q _ (I.bF.fresh (dy _))⟩;exact⟨h9 (Rq xs lo aQ) au,_,0,(r.drop (fA.c7 xs.length 0 lo)).take (fA.c7 xs.length xs.length aQ - fA.c7 xs.length 0 lo),fx _ rfl⟩
def agJ:anw X (.builtin "len") (λxs H Q=>∃p ys,xs=[.ref p]/\(fi X.K H p ys\/c' X.K H p ys)/\Q (.int ys.length) H):=by
 intro ak s σ H xs us Q I r h;obtain⟨p,ys,rfl,aX,q⟩:=h;obtain⟨u,rfl,aU⟩:=rB r;cases aU;have bc:=xe;rcases aX with aX|aX
 ·obtain⟨its,cm,pl,au⟩:=I.list aX;have hlen:=cm.length;exact Calls.call_len_list pl.isList (by simp only[eW] <;> omega) ⟨.int ys.length,H,I.tok _,⟨s.toks+1,by rw[eW,hlen]⟩,q⟩
 ·obtain⟨its,cm,pl,au⟩:=I.tuple aX;have hlen:=cm.length;exact len_tuple pl (by simp only[eW] <;> omega) ⟨.int ys.length,H,I.tok _,⟨s.toks+1,by rw[eW,hlen]⟩,q⟩
def agI:anw X (.builtin "len") (λxs H Q=>∃z,xs=[.str z]/\z.length<=cn/\Q (.int z.length) H):=by
 intro ak s σ H xs us Q I r h;obtain⟨z,rfl,au,q⟩:=h;obtain⟨u,rfl,t,rfl⟩:=rB r;have bc:=xe;exact len_str (by omega) ⟨.int z.length,H,I.tok _,⟨_,rfl⟩,q⟩
def anw.or{f:ao}{r cm:List V->aB->c0->Prop}(h:anw X f r)(h':anw X f cm):anw X f (λxs H Q=>r xs H Q\/cm xs H Q):=by
 intro ak s σ H xs us Q I rs q;rcases q with q|q
 ·exact h ak s σ H xs us Q I rs q
 ·exact h' ak s σ H xs us Q I rs q
def agH:anw X (.type "list") (λxs H Q=>∃p ys,xs=[.ref p]/\(fi X.K H p ys\/c' X.K H p ys)/\∀l,H l=none->Q (.ref l) (upd H l (.lst ys))):=by
 intro ak s σ H xs us Q I r h;obtain⟨p,ys,rfl,aX,q⟩:=h;obtain⟨u,rfl,aU⟩:=rB r;cases aU;have fin:∀(its:List ao),Vals ys its->ys.length<=cn->∀(h':bL) (bZ:Nat),(∀b o',s.heap.get? b=some o'->h'.get? b=some o') ->
   h'.get? s.heap.objs.size=some {cls:=.type "list",dict:=none,data:=.seq its.toArray bZ,slots:=#[]}->gX X ak σ Q (unop%WB 0) {s with heap:=h'}:=λits cm au h' bZ aG e=>
  ⟨.ref s.heap.objs.size,_,I.laid (t':=s.toks) aG (dy _) (show hV X.prog X.w _ h' _ (.lst ys) from ⟨au,its,bZ,cm,e⟩),rfl,q _ (I.bF.fresh (dy _))⟩
 rcases aX with aX|aX
 ·obtain⟨its,cm,pl,au⟩:=I.list aX;have hlen:=cm.length;obtain⟨o,aK,ax,n,hd⟩:=pl.isList;exact call_list_seq p (.inl rfl) aK ax hd (λh' bZ aG e=>fin its cm au h' bZ aG e) (by simp only[eW] <;> omega)
 ·obtain⟨its,cm,pl,au⟩:=I.tuple aX;have hlen:=cm.length;obtain⟨o,aK,ax,n,hd⟩:=pl;exact call_list_seq p (.inr rfl) aK ax hd (λh' bZ aG e=>fin its cm au h' bZ aG e) (by simp only[eW] <;> omega)
def agh:anw X (.type "tuple") (λxs H Q=>∃p ys,xs=[.ref p]/\((fi X.K H p ys/\∀l,H l=none->Q (.ref l) (upd H l (.tup ys)))\/(c' X.K H p ys/\Q (.ref p) H))):=by
 intro ak s σ H xs us Q I r h;obtain⟨p,ys,rfl,h⟩:=h;obtain⟨u,rfl,aU⟩:=rB r;cases aU;rcases h with ⟨aX,q⟩|⟨aX,q⟩
 ·obtain⟨its,cm,pl,au⟩:=I.list aX;have hlen:=cm.length;refine call_tuple_list pl.isList (λh' aG=>?_) (by simp only[eW] <;> omega);have ba:Inv X ak σ H {s with heap:=h'}:=I.kept (t':=s.toks) aG;have cq:Inv X ak σ (upd H h'.objs.size (.tup ys)) {s with heap:=h'.push {cls:=.type "tuple",data:=.seq its.toArray} }:=
   ba.laid (t':=s.toks) (λb o e=>cQ _ e) (dy _) (show hV X.prog X.w _ _ _ (.tup ys) from ⟨au,its,cm,IsTup.new _ _⟩)
  exact⟨.ref h'.objs.size,_,cq,rfl,q _ (ba.bF.fresh (dy _))⟩
 ·obtain⟨its,cm,pl,au⟩:=I.tuple aX;exact call_tuple_same pl ⟨.ref p,H,I,rfl,q⟩
noncomputable def KR(K:a')(T:String)(x:V)(H:aB):Prop:=match x with
|.str _=>T="str"
|.int _=>T="int"
|.ref p=>(T="list"/\∃xs,fi K H p xs)\/(T="tuple"/\∃o,K.lookup p=some o/\o.cls=.type "tuple"/\o.dict=none) \/
   (T="dict"/\((∃kvs,H p=some (.fo kvs))\/∃kvs,H p=some (.nF kvs)))\/(T="set"/\∃S n,H p=some (.set S n))
|_=>False
def TN{ak:List (aj×Obj)}{σ:St}{H:aB}{s:aH}{T:String}{x:V}{v:ao}(I:Inv X ak σ H s)(r:RelV x v)(ty:KR X.K T x H):
  s.TypeIs v T/\∀a,v=.ref a->∃dA,s.heap.get? a=some dA/\dA.dict=none:=by
 cases x with
|str z=>
  obtain⟨t,rfl⟩:=r;cases (show T="str" from ty);exact⟨typeIs_str s z t,λ_ e=>nomatch e⟩
|int i=>
  obtain⟨t,rfl⟩:=r;cases (show T="int" from ty);exact⟨typeIs_int s i t,λ_ e=>nomatch e⟩
|ref p=>
  cases r
  rcases ty with ⟨rfl,xs,aX⟩|⟨rfl,o,aL,ax,hd⟩|⟨rfl,aL⟩|⟨rfl,S,n,aL⟩
  ·obtain⟨its,_,pl,_⟩:=I.list aX;refine⟨pl.isList.typeIs,λa e=>?_⟩;cases e;obtain⟨o,n,e,c,hd,_⟩:=pl;exact⟨o,e,hd⟩
  ·refine⟨⟨o,I.jU p o aL,ax⟩,λa e=>?_⟩
   cases e
   exact⟨o,I.jU _ o aL,hd⟩
  ·have z:∃o,s.heap.get? p=some o/\o.ExactDict:=by
    rcases aL with ⟨kvs,aL⟩|⟨kvs,aL⟩
    ·obtain⟨_,_,_,_,o,_,_,e,ex,_⟩:=I.bF p _ aL;exact⟨o,e,ex⟩
    ·obtain⟨_,_,_,_,o,_,_,e,ex,_⟩:=I.bF p _ aL;exact⟨o,e,ex⟩
   obtain⟨o,e,ex⟩:=z;refine⟨⟨o,e,ex.1⟩,λa aN=>?_⟩;cases aN;exact⟨o,e,ex.2.1⟩
  ·obtain⟨o,_,_,_,e,ex,_⟩:=I.bF p _ aL;refine⟨⟨o,e,ex.1⟩,λa aN=>?_⟩;cases aN;exact⟨o,e,ex.2.1⟩
|_=>exact d6 ty
noncomputable def aeY(K:a')(T:String)(r:V->List V->aB->c0->Prop)(to:TE):TE:=λσ H Q=>to σ H λx H1=>KR K T x H1/\r x [] H1 Q
noncomputable def Ky(K:a')(T:String)(r:V->List V->aB->c0->Prop)(to:TE)(t:fH):TE:=λσ H Q=>to σ H λx H1=>KR K T x H1/\t σ H1 λxs bw=>r x xs bw Q
variable {o e:bt}{es:List bt}{to:TE}{t:fH}{name:Str}{apos d3:Pos}{T id:String}{r:V->List V->aB->c0->Prop}
def alC(Ka:PlainAttrs T)(slot:Slot T name id)(HO:typeOf (.builtin id)=pure (.type "method_descriptor"))(hm:Ar X id r)(aK:b0 X o to)
  (mS:j4 o name X.env (eval o X.env)=eval o X.env:=by rfl) (mT:(apos.endLine==d3.line)=true:=by rfl):b0 X (.Call (.Attribute o name apos) [] [] d3) (aeY X.K T r to):=by
 intro ak s σ H Q I h;refine wpAny_Call_method0_late mS mT (cH (aK ak s σ H _ I h) λv s1 hqq=>?_);obtain⟨x,H1,ba,a_,ty,aP⟩:=hqq;obtain⟨ah,ar⟩:=TN ba a_ ty;exact⟨T,id,Ka,slot,HO,ah,ar,Calls.callWith_builtin rfl (PySem.evalArgs_none (hm ak s1 σ H1 x [] v [] Q ba a_ .nil aP))⟩
def xm(Ka:PlainAttrs T)(slot:Slot T name id)(HO:typeOf (.builtin id)=pure (.type "method_descriptor"))(hm:Ar X id r)(aK:b0 X o to)(aA:fR X (e::es) t)
  (mS:j4 o name X.env (eval o X.env)=eval o X.env:=by rfl)
  (qT:((c3 d3 (a9 (e::es) X.env)).all (λx=>!x.1) && (fP d3 (fO [] X.env)).all (λx=>x.1.isSome)
   && decide ((e::es).length+([]:List Keyword).length+(if ([]:List Keyword).isEmpty then 0 else 1)<30))=true:=by rfl)
  (mT:(apos.endLine==d3.line)=true:=by rfl) (az:a9 (e::es) X.env=(false,eval e X.env)::a9 es X.env:=by rfl) (qX:(c3 d3 (a9 es X.env)).any (·.1)=false:=by rfl):
  b0 X (.Call (.Attribute o name apos) (e::es) [] d3) (Ky X.K T r to t):=by
 intro ak s σ H Q I h;refine wpAny_Call_method_late mS qT mT rfl (cH (aK ak s σ H _ I h) λv s1 hqq=>?_);obtain⟨x,H1,ba,a_,ty,aP⟩:=hqq;obtain⟨ah,ar⟩:=TN ba a_ ty;refine⟨T,id,Ka,slot,HO,ah,ar,?_⟩;have anV:=aA d3 ak s1 σ H1 _ ba aP;rw[az] at anV ⊢;refine Calls.callWith_builtin (by show (false || (c3 d3 (a9 es X.env)).any (·.1))=false;rw[qX] <;> rfl) (Calls.evalArgs_plain ?_);exact cH anV λus s2 ⟨vs,bw,cq,b_,bf⟩=>hm ak s2 σ bw x vs v us Q cq a_ b_ bf
end
end bu
namespace bu
open PySem PySem.Spec PyProof.Rows
noncomputable def Aq(X:aY)(id:String)(r:V->List V->aB->c0->Prop):Prop:=
 ∀(ak:List (aj×Obj)) (s:aH) (σ:St) (H:aB) (x:V) (xs:List V) (v:ao) (us:List ao) (Q:c0),Inv X ak σ H s->RelV x v->Vals xs us->r x xs H Q ->
  a0 (unop%Wk 0) X.A (call (.builtin id) (v::us)) (gX X ak σ Q) X.di s
def Vals.one:∀{x:V} {us:List ao},Vals [x] us->∃u,us=[u]/\RelV x u
|_,_,.cons r .nil=>⟨_,rfl,r⟩
def Vals.two:∀{x y:V} {us:List ao},Vals [x,y] us->∃u v,us=[u,v]/\RelV x u/\RelV y v
|_,_,_,.cons r (.cons q .nil)=>⟨_,_,rfl,r,q⟩
theorem Vals.eraseIdx:∀{xs:List V} {us:List ao} (i:Nat),Vals xs us->Vals (xs.eraseIdx i) (us.eraseIdx i)
|_,_,_,.nil=>.nil
|_,_,0,.cons _ t=>t
|_,_,i+1,.cons r t=>.cons r (Vals.eraseIdx i t)
theorem Vals.rep{xs:List V}{us:List ao}(h:Vals xs us):∀k:Nat,Vals (d5 k xs).flatten (d5 k us).flatten
|0=>.nil
|k+1=>by
  rw[uQ,uQ,wx,wx];exact Vals.append h (Vals.rep h k)
theorem R3{α:Type}:∀(l:List α) (i:Nat),(l.eraseIdx i).length<=l.length
| [],_=>dy _
|_::_,0=>qd _
|_::r,i+1=>Nat.succ_le_succ (R3 r i)
theorem DR(its:List ao):∀(k:Nat) (acc:List ao),
  List.foldl (λaS bN=>aS++bN) acc.toArray (d5 k its.toArray)=(acc++(d5 k its).flatten).toArray
|0,acc=>by simp
|k+1,acc=>by
  have e:acc.toArray++its.toArray=(acc++its).toArray:=by simp
  have aN:(acc++its)++(d5 k its).flatten=acc++(d5 (k+1) its).flatten:=by
   rw[uQ,wx,List.append_assoc]
  rw[<- aN,<- DR its k (acc++its),<- e,uQ,List.foldl_cons]
section
variable {X:aY}{ak:List (aj×Obj)}{σ:St}{H:aB}{s:aH}{l b:aj}{xs ys zs:List V}
def Inv.Jy{its its':List ao}{n:Nat}{f:Array ao->Array ao}{t':Nat}(I:Inv X ak σ H s)(e1:H l=some (.lst xs))
  (e:s.heap.get? l=some {cls:=.type "list",data:=.seq its.toArray n}) (hf:f its.toArray=its'.toArray) (bh:Vals ys its') (au:ys.length<=cn):
  Inv X ak σ (upd H l (.lst ys)) {s with heap:=s.heap.update l (Obj.mapSeq f),toks:=t'}:=by
 have q:=PySem.IsL.update e f;rw[hf] at q;refine I.write (x:=l) (e:=l) (by rw[e1];exact trivial) (.inl rfl) (λanJ u af b1=>(kW s.heap (Obj.mapSeq f) (Ne.symm af)).trans b1) ⟨_,q⟩ ?_;exact⟨au,its',_,bh,q⟩
def Inv.yC{its:List ao}{t':Nat}(I:Inv X ak σ H s)(bh:Vals ys its)(au:ys.length<=cn):
  Inv X ak σ (upd H s.heap.objs.size (.lst ys)) {s with heap:=s.heap.push {cls:=.type "list",data:=.seq its.toArray},toks:=t'}:=
 I.laid (λ_ _ q=>cQ _ q) (dy _) ⟨au,its,0,bh,fx _ rfl⟩
theorem Inv.fresh(I:Inv X ak σ H s):H s.heap.objs.size=none:=I.bF.fresh (dy _)
def Inv.Jz(I:Inv X ak σ H s)(e1:H l=some (.lst xs)):xs.length<=cn/\∃(its:List ao) (n:Nat),Vals xs its/\xs.length=its.length/\s.heap.get? l=some {cls:=.type "list",data:=.seq its.toArray n}:=by
 obtain⟨z,its,n,r,e⟩:=I.bF l _ e1;exact⟨z,its,n,r,r.length,e⟩
def SI{n:Nat}(h:n<=cn):Builtin.List.listTooLong n=false:=by
 unfold Builtin.List.listTooLong;exact decide_eq_false (by omega)
end
section
variable {X:aY}
noncomputable def akh:V->List V->aB->c0->Prop:=λx vs H Q=>∃l xs y,x=.ref l/\vs=[y]/\H l=some (.lst xs)/\xs.length<cn/\Q .d1 (upd H l (.lst (xs++[y])))
def LV:Aq X "list.append" akh:=by
 intro ak s σ H x vs v us Q I aU bW h;obtain⟨l,xs,y,rfl,rfl,e1,au,q⟩:=h;cases aU;obtain⟨u,rfl,cY⟩:=bW.one;obtain⟨z,its,n,r,aI,e⟩:=I.Jz e1;refine qg F.slot_list_append ⟨_,e,rfl⟩ F.entry_list_append (F.args_list_append_2 _ _) (PySem.list_append l its.toArray n u (by rw[eW];omega)) ⟨e,?_⟩;refine⟨.d1,_,I.Jy (its':=its++[u]) e1 e (by simp) (r.append (.cons cY .nil)) ?_,rfl,q⟩;rw[n7,List.length_singleton];omega
def MB{α:Type}(xs:List α)(k:Nat):(d5 k xs).flatten.length=k*xs.length:=by
 induction k with
|zero=>simp
|succ k bM=>rw[uQ,wx,n7,bM,Nat.succ_mul,Nat.add_comm]
end
end bu
namespace Nk
open PySem PySem.W PySem.Calls PyProof.Rows
def afZ{P:Params}{h:bL}:∀(ns:List Int) (vs:List ao),WellAll P h vs (ns.map WData.int)->IntsAre vs ns:=by
 intro ns
 induction ns with
|nil=>
  intro vs w;rw[jk] at w;cases w;exact .nil
|cons n ns bM=>
  intro vs w;rw[c8] at w;cases w with
  |cons a b=>
   cases a
   exact .cons _ _ (bM _ b)
def aib{l:OpenLaw}{n:Nat}(bc:l.most=some n){P:Params}{h:bL}{args:List WData}{vals:List ao}
    (Bs:l.row.toRowW.claim.pre args=true) (HQ:WellAll P h vals args):
    ∃a vs ns,vals=[Value.ref a]/\args=[WData.list (ns.map WData.int)]/\h.get? a=some {cls:=.type "list",data:=.seq vs.toArray}/\IntsAre vs ns/\ns.length<=n:=by
  have _g:WShape.hasAll [] args [.list .int]=true:=(pre_splitW Bs).1;have ax:l.pre.holds [] {args:=args}=true:=(pre_splitW Bs).2;obtain⟨d,r,rfl,ah,ar⟩:=hasAllW_cons _g;obtain rfl:=hasAllW_nil ar;obtain⟨xs,rfl,bk⟩:=hasW_list ah;obtain⟨ns,rfl⟩:=items_int bk;have hlen:ns.length<=n:=by
    unfold OpenLaw.pre at ax;have cB:(WTm.not (.lt (.lit (.int (n:Int))) (.len (.arg 0)))).holds [] {args:=[.list (ns.map .int)]}=true:=by
      have cB:=(holds_andW ax).1;rw[bc] at cB;exact cB
    have gf:=condW_of cB (w_not (w_lt w_lit (w_len_list (w_arg rfl))));rw[f5] at gf;refine Nat.le_of_not_lt λq=>?_;have eO:(n:Int)<((ns.length:Nat):Int):=by omega
    first
      | (rw[decide_eq_true eO] at gf;exact absurd gf (by decide))
      | (simp at gf;omega)
  cases HQ with
  |cons m6 o8=>
    cases o8
    cases m6 with
    |list aK Zm=>exact⟨_,_,ns,rfl,rfl,aK,afZ ns _ Zm,hlen⟩
def ail(l:OpenLaw)(args:List WData):l.row.toRowW.claim.post args (.bool true) args=true:=
 postW_of (r:=l.row.toRowW) (X:=(true==true))
  (show WShape.has [] (.bool true) .bool=true by first|rfl|decide|simp[WShape.has,WShape.arms,WShape.armsAll])
  (show (WTm.eq .res (.lit (.bool true))).value [] {args:=args,res:=some (.bool true),after:=args}=some (.bool (true==true)) from w_eq_bool (w_res rfl) w_lit) rfl
def W3{l:OpenLaw}{n:Nat}{q:cu}{loose:List Str}{vD:(Str->Option ao)->bL->Prop}{pI:b8->bL->Prop}{d:DefRec}
  (bc:l.most=some n) (x_:d.params.defaults=[])
  (call:∀(w:b8) (dm cZ:aH) (mg l8:Str->Option ao) (ck:aj) (o:Obj) (pm cd doc:ao) (a:aj) (vs:List ao) (ns:List Int),
   Ground q loose [] vD w dm mg l8 cZ.heap->pI w cZ.heap ->
   cZ.heap.get? ck=some o->o.data=.func (docDef d.name d.params d.body d.scope pm cd doc)->cZ.heap.CodeRec cd d.name->mg d.name=some (.ref ck) ->
   cZ.heap.get? a=some {cls:=.type "list",data:=.seq vs.toArray}->IntsAre vs ns->ns.length<=n->cZ.gens=#[] ->
   hu (bA l.prog w) callerA (.call (.ref ck) ⟨[.ref a],[]⟩) (λr s'=>r=.ok (.ret (.bool true))/\OldK cZ.heap s'.heap/\s'.os=cZ.os/\AllBare s'.gens) cZ):
  WalkO q loose vD pI l.row.toRowW d [] (λf vs=>PySem.call f vs):=by
 intro w dm cZ mg l8 G Y ck o pm cd doc AI dD aK hd eg anz yg bg args vals as Bs am_ yk HQ nP;obtain rfl:AI=.none:=Dflts.none anz x_;obtain rfl:dD=.none:=Dflts.noKw anz;obtain⟨a,vs,ns,rfl,rfl,HE,hints,hlen⟩:=aib bc Bs HQ;refine enter_call (nd (call w dm cZ mg l8 ck o pm cd doc a vs ns G Y aK (fd_plain hd) eg yg HE hints hlen bg) λr s' aX=>?_);obtain⟨rfl,ar,bk,cB⟩:=aX;exact⟨.inl ⟨.bool true,.bool true,[],rfl,λ_=>rfl,.bool true,ail l _,λ_=>⟨List.Pairwise.nil,λ_ hm=>(nomatch hm)⟩⟩,ar,bk,cB⟩
end Nk
namespace bu
open PySem PySem.Spec PyProof.Rows
theorem RS:∀{vs:List ao} {ns:List Int},IntsAre vs ns->Vals (ns.map V.int) vs
|_,_,.nil=>.nil
|_,_,.cons n t h=>.cons ⟨t,rfl⟩ (RS h)
end bu
namespace bu
open PySem PySem.Spec PyProof.Rows
end bu
namespace bu
open PySem PySem.Spec PyProof.Rows
noncomputable def hR(s:Stmt)(j:Nat):Stmt:=match s with
|.ClassDef _ _ _ body _ _ _ _ _ _ _=>body.getD j (.Pass ⟨0,0,0,0⟩)
|_=>.Pass ⟨0,0,0,0⟩
noncomputable def mr(s:Stmt):Arguments:=match s with
|.FunctionDef _ a _ _ _ _ _ _ _ _=>a
|_=>{posonlyargs:=[],args:=[],vararg:=none,kwonlyargs:=[],kw_defaults:=[],kwarg:=none,defaults:=[]}
noncomputable def fh(s:Stmt):List Stmt:=match s with
|.FunctionDef _ _ b _ _ _ _ _ _ _=>b
|_=>[]
noncomputable def bQ(s:Stmt):Scope:=match s with
|.FunctionDef _ _ _ _ _ _ sc _ _ _=>sc
|_=>{kind:=.function,names:=[],isGenerator:=false,isCoroutine:=false}
abbrev dC:mD:=λ_ _ _ _ _ _=>False
abbrev j_:e5:=λ_ _ _=>False
def vp{X:aY}:tf dC X j_:=λ_ _ _ _ _ _ _ h=>h.elim
structure cK(K:a')(x qual:Str)(st:Stmt)(f:aj)(fd:er):Prop where
 ex:∃(gQ:ao) (eB:Option aj) (dD doc pm:ao) (an:Option aj) (b3 cP:ao) (jW:Array (Option ao)),
  fd=kS x qual (mr st) (fh st) (bQ st) .none dD doc pm an b3 cP/\K.lookup f=some ⟨gQ,eB,.func fd,jW⟩/\qc K b3 qual=true
 aG:m8 K (.ref f)=true
section
variable {P:cu}{w:b8}{K:a'}{mg:Str->Option ao}{base:bL}
def cK.ok{x qual:Str}{st:Stmt}{f:aj}{fd:er}{N ps:List Str}{k:Nat}{sp:kD}(F:cK K x qual st f fd)(S:cW N ps (bQ st))(len:∀vs H Q E,sp vs H Q E->vs.length=ps.length)
  (qQ:∀(b3:ao) (A:cp) (outer:List Env) (s:aH) (H:aB) (vs:List V) (Q:c0) (E:e5),c9 k (unop%W5 0)->sp vs H Q E ->
   ∃t,fS (unop%W3 0).d9 (fh st) t/\t {bG:=λ_ ag=>Q .d1 ag,dE:=Q} (start N vs) H):eY P w K mg base dC (k+1) f fd ps sp:=by
 obtain⟨gQ,eB,dD,doc,pm,an,b3,cP,jW,rfl,lk,eg⟩:=F.ex;refine Nc lk eg S len λA outer s H vs Q E ay sk=>?_;obtain⟨t,h,q⟩:=qQ b3 A outer s H vs Q E ay sk;exact⟨t,h.d9,q⟩
def cK.binds{x qual:Str}{st:Stmt}{f:aj}{fd:er}{ps:List Str}(F:cK K x qual st f fd)
  (h:∀(dD doc pm:ao) (an:Option aj) (b3 cP:ao) (us:List ao),us.length=ps.length->bindArgs (unop%Wv 0) ⟨us,[]⟩=pure (ps.zip us)):f7 K fd ps []:=by
 obtain⟨gQ,eB,dD,doc,pm,an,b3,cP,jW,rfl,lk,eg⟩:=F.ex;exact .all (h dD doc pm an b3 cP)
def dG{x qual:Str}{st:Stmt}{f:aj}{gQ:ao}{eB an:Option aj}{jW:Array (Option ao)}{dD doc pm b3 cP:ao}(l:K.lookup f=some ⟨gQ,eB,.func (unop%Wv 0),jW⟩)
  (c:qc K b3 qual=true) (k:m8 K (.ref f)=true):cK K x qual st f (unop%Wv 0):=⟨⟨gQ,eB,dD,doc,pm,an,b3,cP,jW,rfl,l,c⟩,k⟩
end
def Ah{A:cp}{k:Nat}(ay:c9 k A):A.units+1<cLine:=Nat.lt_of_le_of_lt (Nat.add_le_add_left (by decide:1<=64) _) ay.units
section
variable {X:aY}
def bC(i:Nat){x:Str}{pos:Pos}(dw:X.N[i]?=some x:=by rfl)(bh:oB X.env.scope x:=by first|exact Or.inl rfl|exact Or.inr (Or.inl rfl)|exact Or.inr (Or.inr rfl))(hd:(x==("__debug__":Str))=false:=by decide)
  (eg:(x==("__classdict__":Str))=false:=by decide):b0 X (.Name x pos) (gS i):=alA dw bh hd eg
end
def v7{A B:Prop}(h:B):if false=true then A else B:=by
 rw[if_neg m_];exact h
def so{A B:Prop}(h:A):if true=true then A else B:=by
 rw[if_pos rfl];exact h
noncomputable def V5(H ag:aB):Prop:=∀b o,H b=some o->ag b=some o
end bu
end
section
namespace D
open PySem
abbrev T:=PyData
noncomputable def fe(a:T):Bool:=a.canLay0 && decide (a.depth<=60)
noncomputable def lB(as:List T):Bool:=hP as && decide (fM as<=60)
abbrev Key:=Sum Int Str
inductive jq where
|hr|own|d8
 deriving DecidableEq
inductive aR where
|aa (t:T)|own (ts:List T)|h1 (kvs:List (Key×T))|obj (m:jq) (c:Nat) (aF:List aR)
abbrev Ev:=List (Option aR)
inductive Out where
|bG (ai:Ev)|dE (t:T)|gI (ai:Ev)|cP (ai:Ev)|lF (t:T) (ai:Ev)|ma (s:aR)
abbrev bY:=Ev->Option T
abbrev f_:=Ev->Option Bool
abbrev bK:=Ev->Option Out
abbrev lX:=Ev->Option (List T)
abbrev i4:=T->Ev->Option Ev
noncomputable def big:Nat:=16777216
noncomputable def b4:T->T->Option T
|.int i,.int j=>some (.int (i+j))
|.str x,.str y=>if x.length+y.length<=big then some (.str (x++y)) else none
|.tuple xs,.tuple ys=>if xs.length+ys.length<=big then some (.tuple (xs++ys)) else none
|.list xs,.list ys=>if xs.length+ys.length<=big then some (.list (xs++ys)) else none
|_,_=>none
noncomputable def sz:T->T->Option T
|.int i,.int j=>some (.int (i - j))
|_,_=>none
noncomputable def xn(i j:Int):Bool:=(decide (-(2 ^ 64)<i) && decide (i<2 ^ 64)) || (decide (-(2 ^ 64)<j) && decide (j<2 ^ 64))
noncomputable def dT:T->T->Option T
|.int i,.int j=>if xn i j then some (.int (i*j)) else none
|_,_=>none
noncomputable def oDiv:T->T->Option T
|.int i,.int j=>if 0<j/\j<1073741824 then some (.int (i / j)) else none
|_,_=>none
noncomputable def oMod:T->T->Option T
|.int i,.int j=>if 0<j then some (.int (i % j)) else none
|_,_=>none
noncomputable def hp:T->Option T
|.int i=>some (.int (-i))
|_=>none
noncomputable def fs(n:Nat)(i:Int):Option Nat:=if 0<=i then (if i<n then some i.toNat else none) else if -(n:Int)<=i then some (i+n).toNat else none
noncomputable def eM{α:Type}(xs:List α)(i:Int):Option α:=(fs xs.length i).bind λj=>xs[j]?
noncomputable def aZ:T->T->Option T
|.tuple xs,.int i=>eM xs i
|.list xs,.int i=>eM xs i
|.str x,.int i=>if x.length<=big then (eM x.cps.toList i).map λc=>.str ⟨#[c]⟩ else none
|_,_=>none
noncomputable def oEq(a b:T):Option T:=if fe a && fe b then some (.bool (f6 a b)) else none
noncomputable def h5(a b:T):Option T:=if fe a && fe b then some (.bool (!PyData.eqv a b)) else none
noncomputable def g5(a:T):Option T:=some (.bool (match a with|.none=>true|_=>false))
noncomputable def gE(a:T):Option T:=some (.bool (match a with|.none=>false|_=>true))
noncomputable def iC(x y:Str):Bool:=decide (x.cps.toList<y.cps.toList)
noncomputable def oLt:T->T->Option T
|.int i,.int j=>some (.bool (decide (i<j)))
|.str x,.str y=>some (.bool (iC x y))
|_,_=>none
noncomputable def oLe:T->T->Option T
|.int i,.int j=>some (.bool (decide (i<=j)))
|.str x,.str y=>some (.bool (!iC y x))
|_,_=>none
noncomputable def jA:T->T->Option T
|.int i,.int j=>some (.bool (decide (j<i)))
|.str x,.str y=>some (.bool (iC y x))
|_,_=>none
noncomputable def sx:T->T->Option T
|.int i,.int j=>some (.bool (decide (j<=i)))
|.str x,.str y=>some (.bool (!iC x y))
|_,_=>none
noncomputable def ly(x:T)(ts:List T):Bool:=ts.any λy=>f6 y x
noncomputable def fc(neg:Bool):T->T->Option T
|x,.tuple ys=>if fe x && lB ys then some (.bool (if neg then !ly x ys else ly x ys)) else none
|x,.list ys=>if fe x && lB ys then some (.bool (if neg then !ly x ys else ly x ys)) else none
|_,_=>none
noncomputable def iw:List T->Option T
| [.tuple xs]=>some (.int xs.length)
| [.list xs]=>some (.int xs.length)
| [.str x]=>if x.length<=big then some (.int x.length) else none
|_=>none
noncomputable def oZ:List T->Option T
| [.int i,.int j]=>some (.int (if j<i then j else i))
|_=>none
noncomputable def nV:List T->Option T
| [.int i,.int j]=>some (.int (if j > i then j else i))
|_=>none
noncomputable def hy:List T->Option T
| [.tuple xs]=>some (.tuple xs)
| [.list xs]=>some (.tuple xs)
|_=>none
noncomputable def Eo:List T->Option T
| [.tuple xs]=>some (.list xs)
| [.list xs]=>some (.list xs)
|_=>none
noncomputable def q4:List T->Option T
| [.int i]=>some (.int i)
| [.bool b]=>some (.int (if b then 1 else 0))
|_=>none
noncomputable def c7(n d:Nat):Option Int->Nat
|none=>d
|some v=>(if v<0 then max (v+n) 0 else min v n).toNat
noncomputable def xQ{α:Type}(xs:List α)(lo aQ:Option Int):List α:=(xs.drop (c7 xs.length 0 lo)).take (c7 xs.length xs.length aQ - c7 xs.length 0 lo)
noncomputable def J4(t:T)(lo aQ:Option Int):Option T:=match t with
|.tuple xs=>some (.tuple (xQ xs lo aQ))
|.list xs=>some (.list (xQ xs lo aQ))
|_=>none
noncomputable def vl:List T->Option (List Str)
| []=>some []
|.str x::ts=>(vl ts).map λr=>x::r
|_::_=>none
noncomputable def insI(x:Int):List Int->List Int
| []=>[x]
|y::ys=>if x<=y then x::y::ys else y::insI x ys
noncomputable def tg:List Int->List Int
| []=>[]
|x::xs=>insI x (tg xs)
noncomputable def uq(x:Str):List Str->List Str
| []=>[x]
|y::ys=>if !iC y x then x::y::ys else y::uq x ys
noncomputable def k7:List Str->List Str
| []=>[]
|x::xs=>uq x (k7 xs)
noncomputable def iD:T->Option Key
|.int i=>some (.inl i)
|.str x=>some (.inr x)
|_=>none
noncomputable def putD(kvs:List (Key×T))(k:Key)(v:T):List (Key×T):=if kvs.any (λp=>decide (p.1=k)) then kvs.map λp=>if p.1=k then (k,v) else p else kvs++[(k,v)]
noncomputable def getD(kvs:List (Key×T))(k:Key):Option T:=(kvs.find? λp=>decide (p.1=k)).map (·.2)
noncomputable def l5:Key->T
|.inl i=>.int i
|.inr x=>.str x
noncomputable def ae(t:T):bY:=λ_=>some t
noncomputable def nm(i:Nat):bY:=λai=>match ai[i]? with
|some (some (.aa t))=>some t
|some (some (.own ts))=>some (.list ts)
|_=>none
noncomputable def av(i:Nat):bY:=λai=>match ai[i]? with
|some (some (.aa t))=>some t
|_=>none
noncomputable def cX(o:T->Option T)(f:bY):bY:=λai=>(f ai).bind o
noncomputable def aq(o:T->T->Option T)(f g:bY):bY:=λai=>(f ai).bind λx=>(g ai).bind λy=>o x y
noncomputable def args:List bY->Ev->Option (List T)
| [],_=>some []
|f::aF,ai=>(f ai).bind λt=>(args aF ai).map λts=>t::ts
noncomputable def a3(o:List T->Option T)(aF:List bY):bY:=λai=>(args aF ai).bind o
noncomputable def bo(aF:List bY):bY:=λai=>(args aF ai).bind λts=>if ts.length<=big then some (.tuple ts) else none
noncomputable def eF(aF:List bY):bY:=λai=>(args aF ai).bind λts=>if ts.length<=big then some (.list ts) else none
noncomputable def opt(f:bY):Ev->Option (Option Int):=λai=>(f ai).bind λt=>match t with|.int i=>some (some i)|_=>none
noncomputable def optN:Ev->Option (Option Int):=λ_=>some none
noncomputable def slice(f:bY)(lo aQ:Ev->Option (Option Int)):bY:=λai=>(f ai).bind λt=>(lo ai).bind λl=>(aQ ai).bind λh=>J4 t l h
noncomputable def rX(f g:bY):bY:=λai=>(f ai).bind λt=>match t with|.bool true=>g ai|.bool false=>some (.bool false)|_=>none
noncomputable def yN(f g:bY):bY:=λai=>(f ai).bind λt=>match t with|.bool false=>g ai|.bool true=>some (.bool true)|_=>none
noncomputable def amN(o p:T->T->Option T)(f g h:bY):bY:=λai=>(f ai).bind λx=>(g ai).bind λy=>(o x y).bind λr=>match r with
|.bool true=>(h ai).bind λz=>p y z
|.bool false=>some (.bool false)
|_=>none
noncomputable def bO(f:bY):f_:=λai=>(f ai).bind λt=>match t with|.bool b=>some b|_=>none
noncomputable def gT(f:bY):f_:=λai=>(f ai).bind λt=>match t with|.list ts=>some (!ts.isEmpty)|.tuple ts=>some (!ts.isEmpty)|_=>none
noncomputable def fk(f g:f_):f_:=λai=>(f ai).bind λb=>if b then g ai else some false
noncomputable def gR(f g:f_):f_:=λai=>(f ai).bind λb=>if b then some true else g ai
noncomputable def gP(f:f_):f_:=λai=>(f ai).map λb=>!b
noncomputable def p1(c:f_)(f g:bY):bY:=λai=>(c ai).bind λb=>if b then f ai else g ai
noncomputable def ez(b:Bool):f_:=λ_=>some b
noncomputable def ofT(c:f_):bY:=λai=>(c ai).map .bool
noncomputable def dV(f:bY):lX:=λai=>(f ai).bind λt=>match t with|.tuple ts=>some ts|.list ts=>some ts|_=>none
noncomputable def hU(f:bY):lX:=λai=>(f ai).bind λt=>match t with|.tuple ts=>some ts|_=>none
noncomputable def km(lo aQ:Int):List T:=(List.range (aQ - lo).toNat).map λ(k:Nat)=>.int (lo+(k:Int))
noncomputable def anC(i:Int):Bool:=decide (-(2 ^ 62)<=i) && decide (i<2 ^ 62)
noncomputable def jK(f:bY):lX:=λai=>(f ai).bind λt=>match t with|.int j=>if anC j then some (km 0 j) else none|_=>none
noncomputable def xf(f g:bY):lX:=λai=>(f ai).bind λt=>(g ai).bind λu=>match t,u with|.int i,.int j=>if anC i && anC j then some (km i j) else none|_,_=>none
noncomputable def enum(ts:List T):List T:=ts.zipIdx.map λp=>.tuple [.int p.2,p.1]
noncomputable def j6(f:lX):lX:=λai=>(f ai).map enum
noncomputable def bH(i:Nat):i4:=λt ai=>some (ai.set i (some (.aa t)))
noncomputable def gy:List i4->List T->Ev->Option Ev
| [],[],ai=>some ai
|g::gd,t::ts,ai=>(g t ai).bind λε'=>gy gd ts ε'
|_,_,_=>none
noncomputable def dH(gd:List i4):i4:=λt ai=>match t with|.tuple ts=>gy gd ts ai|_=>none
noncomputable def hg(g:i4)(c:f_)(e:bY):List T->Ev->Option (List T)
| [],_=>some []
|t::ts,ai=>(g t ai).bind λij=>(c ij).bind λb=>if b then (e ij).bind λy=>(hg g c e ts ij).map λys=>y::ys else hg g c e ts ij
noncomputable def hS(own:Nat)(caps:List Nat)(ai:Ev):Ev:=d5 own none++caps.map λi=>(ai[i]?).join
noncomputable def comp(own:Nat)(caps:List Nat)(it:lX)(g:i4)(c:f_)(e:bY):bY:=λai=>(it ai).bind λts=>if ts.length<=big then (hg g c e ts (hS own caps ai)).map .list else none
noncomputable def skip:bK:=λai=>some (.bG ai)
noncomputable def seq(a b:bK):bK:=λai=>(a ai).bind λo=>match o with|.bG ε'=>b ε'|o=>some o
noncomputable def asg(i:Nat)(f:bY):bK:=λai=>(f ai).map λt=>.bG (ai.set i (some (.aa t)))
noncomputable def gY(i:Nat)(f:bY):bK:=λai=>(f ai).bind λt=>match t with|.list ts=>some (.bG (ai.set i (some (.own ts))))|_=>none
noncomputable def iH(g:i4)(f:bY):bK:=λai=>(f ai).bind λt=>(g t ai).map .bG
noncomputable def b'(f:bY):bK:=λai=>(f ai).map .dE
noncomputable def iff(c:f_)(a b:bK):bK:=λai=>(c ai).bind λx=>if x then a ai else b ai
noncomputable def brk:bK:=λai=>some (.gI ai)
noncomputable def forL(g:i4)(b:bK):List T->Ev->Option Out
| [],ai=>some (.bG ai)
|t::ts,ai=>(g t ai).bind λij=>(b ij).bind λo=>match o with
  |.bG j8=>forL g b ts j8
  |.cP j8=>forL g b ts j8
  |.gI j8=>some (.bG j8)
  |.dE t=>some (.dE t)
  |.lF t j8=>some (.lF t j8)
  |.ma s=>some (.ma s)
noncomputable def ef(it:lX)(g:i4)(b:bK):bK:=λai=>(it ai).bind λts=>forL g b ts ai
noncomputable def app(i:Nat)(f:bY):bK:=λai=>match ai[i]? with
|some (some (.own ts))=>(f ai).bind λt=>if ts.length<big then some (.bG (ai.set i (some (.own (ts++[t]))))) else none
|_=>none
noncomputable def ext(i:Nat)(f:bY):bK:=λai=>match ai[i]? with
|some (some (.own ts))=>(f ai).bind λt=>match t with
  |.list us=>if ts.length+us.length<=big then some (.bG (ai.set i (some (.own (ts++us))))) else none
  |_=>none
|_=>none
noncomputable def par(i j:Nat)(own:Bool)(f g:bY):bK:=λai=>(f ai).bind λt=>(g ai).bind λu=>if own then (match u with|.list us=>some (.bG ((ai.set i (some (.aa t))).set j (some (.own us))))|_=>none) else some (.bG ((ai.set i (some (.aa t))).set j (some (.aa u))))
noncomputable def c5(b:bK)(n:Nat)(as:List T):Option T:=(b ((as.map λt=>some (.aa t))++d5 (n - as.length) none)).bind λo=>match o with
|.dE t=>some t
|.bG _=>some .none
|_=>none
end D
end
section
namespace D
open PySem PySem.Spec PyProof.Rows bu
section
mutual
noncomputable def Rep(K:a')(F:aj->Prop)(H:aB):T->V->Prop
|.none,v=>v=.d1
|.bool b,v=>v=.b5 b
|.int i,v=>v=.int i
|.str x,v=>v=.str x
|.dict _,_=>False
|.tuple ts,v=>∃a vs,v=.ref a/\c' K H a vs/\bB K F H ts vs
|.list ts,v=>∃a vs,v=.ref a/\F a/\fT H a (.lst vs)/\bB K F H ts vs
noncomputable def bB(K:a')(F:aj->Prop)(H:aB):List T->List V->Prop
| [],vs=>vs=[]
|t::ts,vs=>∃v r,vs=v::r/\Rep K F H t v/\bB K F H ts r
end
section
variable {K:a'}{F aE:aj->Prop}{H ag:aB}
mutual
theorem Rep.keep(ah:∀b xs,c' K H b xs->c' K ag b xs)(ar:∀b xs,F b->fT H b (.lst xs)->aE b/\fT ag b (.lst xs)):∀{t:T} {v:V},Rep K F H t v->Rep K aE ag t v
|.none,v,h=>by simpa [Rep] using h
|.bool _,v,h=>by simpa [Rep] using h
|.dict _,v,h=>by simp[Rep] at h
|.int _,v,h=>by simpa [Rep] using h
|.str _,v,h=>by simpa [Rep] using h
|.tuple ts,v,h=>by
  simp only[Rep] at h ⊢;obtain⟨a,vs,e,q,r⟩:=h;exact⟨a,vs,e,ah _ _ q,bB.keep ah ar r⟩
|.list ts,v,h=>by
  simp only[Rep] at h ⊢;obtain⟨a,vs,e,f,q,r⟩:=h;exact⟨a,vs,e,(ar _ _ f q).1,(ar _ _ f q).2,bB.keep ah ar r⟩
theorem bB.keep(ah:∀b xs,c' K H b xs->c' K ag b xs)(ar:∀b xs,F b->fT H b (.lst xs)->aE b/\fT ag b (.lst xs)):∀{ts:List T} {vs:List V},bB K F H ts vs->bB K aE ag ts vs
| [],vs,h=>by simpa [bB] using h
|t::ts,vs,h=>by
  simp only[bB] at h ⊢;obtain⟨v,r,e,q,z⟩:=h;exact⟨v,r,e,Rep.keep ah ar q,bB.keep ah ar z⟩
end
def bB.nil:bB K F H [] []:=by simp[bB]
def bB.cons{t:T}{v:V}{ts:List T}{vs:List V}(h:Rep K F H t v)(r:bB K F H ts vs):bB K F H (t::ts) (v::vs):=by
 simp only[bB];exact⟨v,vs,rfl,h,r⟩
theorem bB.length:∀{ts:List T} {vs:List V},bB K F H ts vs->ts.length=vs.length
| [],vs,h=>by
  simp only[bB] at h;subst h;rfl
|t::ts,vs,h=>by
  simp only[bB] at h;obtain⟨v,r,e,q,z⟩:=h;subst e;simp[bB.length z]
theorem bB.get:∀{ts:List T} {vs:List V} {i:Nat} {t:T},bB K F H ts vs->ts[i]?=some t->∃v,vs[i]?=some v/\Rep K F H t v
| [],vs,i,t,h,e=>by simp at e
|x::ts,vs,0,t,h,e=>by
  simp only[bB] at h;obtain⟨v,r,rfl,q,z⟩:=h;simp at e;subst e;exact⟨v,rfl,q⟩
|x::ts,vs,i+1,t,h,e=>by
  simp only[bB] at h;obtain⟨v,r,rfl,q,z⟩:=h;obtain⟨u,ah,ar⟩:=bB.get (i:=i) (t:=t) z (by simpa using e);exact⟨u,by simpa using ah,ar⟩
theorem bB.append:∀{ts us:List T} {vs ws:List V},bB K F H ts vs->bB K F H us ws->bB K F H (ts++us) (vs++ws)
| [],us,vs,ws,h,r=>by
  simp only[bB] at h;subst h;exact r
|t::ts,us,vs,ws,h,r=>by
  simp only[bB] at h;obtain⟨v,z,rfl,q,y⟩:=h;exact bB.cons q (bB.append y r)
theorem bB.take:∀{ts:List T} {vs:List V} (n:Nat),bB K F H ts vs->bB K F H (ts.take n) (vs.take n)
| [],vs,n,h=>by
  simp only[bB] at h;subst h;simpa using bB.nil
|t::ts,vs,0,h=>by simpa using bB.nil
|t::ts,vs,n+1,h=>by
  simp only[bB] at h;obtain⟨v,z,rfl,q,y⟩:=h;simpa using bB.cons q (bB.take n y)
theorem bB.drop:∀{ts:List T} {vs:List V} (n:Nat),bB K F H ts vs->bB K F H (ts.drop n) (vs.drop n)
| [],vs,n,h=>by
  simp only[bB] at h;subst h;simpa using bB.nil
|t::ts,vs,0,h=>by simpa using h
|t::ts,vs,n+1,h=>by
  simp only[bB] at h;obtain⟨v,z,rfl,q,y⟩:=h;simpa using bB.drop n y
end
class cD where
 de:List (aj×Str)
 fl:Nat->List Str
 oF:Nat->Option aj
noncomputable def Ay(H:aB)(b:aj)(q:Str):Prop:=∃ps:Array ao,H b=some (.iA ps)/\TriplesOk ps.toList/\∀pos cv,codeAmong pos ps.toList=some cv->∃c,cv=.ref c/\H c=some (.ext λh=>h.CodeRec (.ref c) q)
noncomputable def nC [t:cD](H:aB):Prop:=∀p∈t.de,Ay H p.1 p.2
def Ay.keep{H ag:aB}{b:aj}{q:Str}(h:Ay H b q)(k1:∀a ps,H a=some (.iA ps)->ag a=some (.iA ps))(k2:∀a pz,H a=some (.ext pz)->ag a=some (.ext pz)):Ay ag b q:=by
 obtain⟨ps,ah,ar,bk⟩:=h;refine⟨ps,k1 _ _ ah,ar,λpos cv e=>?_⟩;obtain⟨c,aw,aN⟩:=bk pos cv e;exact⟨c,aw,k2 _ _ aN⟩
variable [cD]
noncomputable def ou(u:ed):Prop:=(∃xs,u=.lst xs)\/(∃xs,u=.fo xs)\/∃C bE aF,u=.ins C bE aF
def ou.cases{P:Prop}{u:ed}(h:ou u)(ah:∀xs,u=.lst xs->P)(ar:∀xs,u=.fo xs->P)(bk:∀C bE aF,u=.ins C bE aF->P):P:=by
 rcases h with ⟨xs,e⟩|⟨xs,e⟩|⟨C,bE,aF,e⟩
 ·exact ah xs e
 ·exact ar xs e
 ·exact bk C bE aF e
def nC.Qy{H:aB}(h:nC H){p:aj}{o:ed}(aM:∀u,H p=some u->ou u):nC (upd H p o):=λb af=>
 (h b af).keep (λa ps e=>by
  have nb:a≠p:=by
   rintro rfl;exact (aM _ e).cases (λ_ z=>by cases z) (λ_ z=>by cases z) (λ_ _ _ z=>by cases z)
  rw[cR nb];exact e) λa pz e=>by
  have nb:a≠p:=by
   rintro rfl;exact (aM _ e).cases (λ_ z=>by cases z) (λ_ z=>by cases z) (λ_ _ _ z=>by cases z)
  rw[cR nb];exact e
theorem nC.upd{H:aB}(h:nC H){p:aj}{o:ed}(aM:∀u,H p=some u->(∃xs,u=.lst xs)\/∃xs,u=.fo xs):nC (upd H p o):=h.Qy λu e=>by
 rcases aM u e with z|z
 ·exact .inl z
 ·exact .inr (.inl z)
def nC.new{H:aB}(h:nC H){p:aj}{o:ed}(aM:H p=none):nC (bu.upd H p o):=h.upd λu e=>by rw[aM] at e;cases e
structure e'(F:aj->Prop)(H:aB):Prop where
 vH:∀a,F a->∃o,H a=some o
 m4:nC H
instance {F:aj->Prop}{H:aB}:CoeFun (e' F H) λ_=>∀a,F a->∃o,H a=some o:=⟨e'.vH⟩
noncomputable def j7(H ag:aB):Prop:=∀b o,H b=some o->ag b=some o\/∃ps yO,o=.iA ps/\ag b=some (.iA yO)
def j7.refl(H:aB):j7 H H:=λ_ _ h=>.inl h
def j7.ne{H ag:aB}(s:j7 H ag){b:aj}{o:ed}(e:H b=some o):∃u,ag b=some u:=by
 rcases s b o e with h|⟨_,_,_,h⟩
 ·exact⟨_,h⟩
 ·exact⟨_,h⟩
theorem j7.none{H ag:aB}(s:j7 H ag){b:aj}(e:ag b=none):H b=none:=by
 cases z:H b with
|none=>rfl
|some o=>
  obtain⟨u,q⟩:=s.ne z;rw[e] at q;cases q
def j7.get{H ag:aB}(s:j7 H ag){b:aj}{o:ed}(e:H b=some o)(n:∀ps,o≠.iA ps:=by intro _ z;cases z):ag b=some o:=by
 rcases s b o e with h|⟨_,_,z,_⟩
 ·exact h
 ·exact absurd z (n _)
def j7.trans{H H1 bw:aB}(a:j7 H H1)(b:j7 H1 bw):j7 H bw:=λc o h=>by
 rcases a c o h with q|⟨ps,adD,z,q⟩
 ·exact b c o q
 ·rcases b c _ q with bf|⟨_,yP,gD,bf⟩
  ·exact .inr ⟨ps,adD,z,bf⟩
  ·exact .inr ⟨ps,yP,z,bf⟩
structure Ext(F:aj->Prop)(H:aB)(aE:aj->Prop)(ag:aB):Prop where
 same:j7 H ag
 sub:∀a,F a->aE a
 new:∀a,aE a->F a\/H a=none
 cb:e' aE ag
section
variable {K:a'}{F a6 dr:aj->Prop}{H H1 bw:aB}
theorem Ext.refl(d:e' F H):Ext F H F H:=⟨j7.refl H,λ_ h=>h,λ_ h=>.inl h,d⟩
theorem Ext.trans(a:Ext F H a6 H1)(b:Ext a6 H1 dr bw):Ext F H dr bw:=
 ⟨a.same.trans b.same,λx h=>b.sub x (a.sub x h),λx h=>(b.new x h).elim (λz=>a.new x z) λz=>.inr (a.same.none z),b.cb⟩
def fT.same{a:aj}{u:ed}(s:j7 H H1)(r:fT H a u)(n:∀ps,u≠.iA ps:=by intro _ z;cases z):fT H1 a u:=by
 rcases r with r|⟨o,r⟩
 ·exact .inl (s.get r n)
 ·exact .inr ⟨o,s.get r⟩
theorem c'.same{a:aj}{xs:List V}(s:j7 H H1)(r:c' K H a xs):c' K H1 a xs:=by
 rcases r with r|r
 ·exact .inl (fT.same s r)
 ·exact .inr r
def Rep.ext{t:T}{v:V}(r:Rep K F H t v)(x:Ext F H a6 H1):Rep K a6 H1 t v:=r.keep (λ_ _ q=>c'.same x.same q) λb _ f q=>⟨x.sub b f,fT.same x.same q⟩
def bB.ext{t:List T}{v:List V}(r:bB K F H t v)(x:Ext F H a6 H1):bB K a6 H1 t v:=r.keep (λ_ _ q=>c'.same x.same q) λb _ f q=>⟨x.sub b f,fT.same x.same q⟩
def Ext.laid{p:aj}{o:ed}(d:e' F H)(aM:H p=none):Ext F H F (upd H p o):=
 ⟨λb u q=>.inl (Cu aM o b u q),λ_ h=>h,λ_ h=>.inl h,⟨λa h=>by
  obtain⟨u,e⟩:=d a h;exact⟨u,Cu aM o a u e⟩,d.m4.new aM⟩⟩
where Cu {H:aB} {p:aj} (h:H p=none) (o:ed):V5 H (upd H p o):=λb u q=>by rw[cR (jm q h)];exact q
def Ext.Jw{p:aj}{o:ed}(d:e' F H)(aM:H p=none):Ext F H (λa=>F a\/a=p) (upd H p o):=
 ⟨λb u q=>.inl (Ext.laid.Cu aM o b u q),λ_ h=>.inl h,λa h=>by
  rcases h with h|rfl
  ·exact .inl h
  ·exact .inr aM,⟨λa h=>by
  rcases h with h|rfl
  ·obtain⟨u,e⟩:=d a h;exact⟨u,Ext.laid.Cu aM o a u e⟩
  ·exact⟨o,dU⟩,d.m4.new aM⟩⟩
end
structure ek(K:a')(F:aj->Prop)(H:aB)(aE:aj->Prop)(ag:aB):Prop where
 tup:∀b xs,c' K H b xs->c' K ag b xs
 lst:∀b xs,F b->fT H b (.lst xs)->aE b/\fT ag b (.lst xs)
section
variable {K:a'}{F a6 dr:aj->Prop}{H H1 bw:aB}
def ek.refl:ek K F H F H:=⟨λ_ _ h=>h,λ_ _ f h=>⟨f,h⟩⟩
def ek.trans(a:ek K F H a6 H1)(b:ek K a6 H1 dr bw):ek K F H dr bw:=⟨λx xs h=>b.tup x xs (a.tup x xs h),λx xs f h=>b.lst x xs (a.lst x xs f h).1 (a.lst x xs f h).2⟩
def Ext.aG(x:Ext F H a6 H1):ek K F H a6 H1:=⟨λ_ _ q=>c'.same x.same q,λb _ f q=>⟨x.sub b f,fT.same x.same q⟩⟩
def Rep.aG{t:T}{v:V}(r:Rep K F H t v)(x:ek K F H a6 H1):Rep K a6 H1 t v:=r.keep x.tup x.lst
def bB.aG{t:List T}{v:List V}(r:bB K F H t v)(x:ek K F H a6 H1):bB K a6 H1 t v:=r.keep x.tup x.lst
end
noncomputable def gq(K:a')(O F:aj->Prop)(H:aB)(t:T)(v:V):Prop:=
 Rep K F H t v\/∃ts a vs,t=.list ts/\v=.ref a/\H a=some (.lst vs)/\bB K F H ts vs
section
variable {K:a'}{O F a6:aj->Prop}{H H1:aB}{v:V}
theorem gq.ext{t:T}(r:gq K O F H t v)(x:Ext F H a6 H1):gq K O a6 H1 t v:=by
 rcases r with r|⟨ts,a,vs,aw,aN,gL,r⟩
 ·exact .inl (r.ext x)
 ·exact .inr ⟨ts,a,vs,aw,aN,x.same.get gL,r.ext x⟩
theorem gq.d1(r:gq K O F H .none v):v=.d1:=by
 rcases r with r|⟨ts,a,vs,aw,_⟩
 ·simpa [Rep] using r
 ·cases aw
theorem gq.b5{b:Bool}(r:gq K O F H (.bool b) v):v=.b5 b:=by
 rcases r with r|⟨ts,a,vs,aw,_⟩
 ·simpa [Rep] using r
 ·cases aw
theorem gq.int{i:Int}(r:gq K O F H (.int i) v):v=.int i:=by
 rcases r with r|⟨ts,a,vs,aw,_⟩
 ·simpa [Rep] using r
 ·cases aw
theorem gq.str{x:Str}(r:gq K O F H (.str x) v):v=.str x:=by
 rcases r with r|⟨ts,a,vs,aw,_⟩
 ·simpa [Rep] using r
 ·cases aw
def gq.tup{ts:List T}(r:gq K O F H (.tuple ts) v):∃a vs,v=.ref a/\c' K H a vs/\bB K F H ts vs:=by
 rcases r with r|⟨ts,a,vs,aw,_⟩
 ·simpa [Rep] using r
 ·cases aw
theorem gq.lst{ts:List T}(r:gq K O F H (.list ts) v):∃a vs,v=.ref a/\fT H a (.lst vs)/\bB K F H ts vs:=by
 rcases r with r|⟨us,a,vs,aw,aN,gL,r⟩
 ·simp only[Rep] at r;obtain⟨a,vs,e,_,q,z⟩:=r;exact⟨a,vs,e,q,z⟩
 ·cases aw
  exact⟨a,vs,aN,.inl gL,r⟩
end
noncomputable def el(K:a')(F:aj->Prop)(H:aB):List (D.Key×T)->List (D.Key×V)->Prop
| [],vs=>vs=[]
|p::ts,vs=>∃v r,vs=(p.1,v)::r/\Rep K F H p.2 v/\el K F H ts r
theorem el.aG{K:a'}{F aE:aj->Prop}{H ag:aB}(x:ek K F H aE ag):∀{ts:List (D.Key×T)} {vs:List (D.Key×V)},el K F H ts vs->el K aE ag ts vs
| [],vs,h=>h
|p::ts,vs,h=>by
  obtain⟨v,r,e,q,z⟩:=h;exact⟨v,r,e,q.aG x,el.aG x z⟩
structure f9 where
 h:aB
 jx:aj
noncomputable def iW:V->List aj
|.ref a=>[a]
|_=>[]
noncomputable def d0:aR->V->List aj
|.aa _,_=>[]
|_,v=>iW v
noncomputable def dq:List aR->List V->List aj
|s::ss,v::vs=>d0 s v++dq ss vs
|_,_=>[]
noncomputable def D_(H:aB):V->List V
|.ref a=>(match H a with
  |some (.ins _ _ kvs)=>kvs.map (·.2)
  |some (.fo kvs)=>kvs.map (·.2)
  |_=>[])
|_=>[]
noncomputable def dz(H:aB):aR->V->List aj
|.aa _,_=>[]
|.own _,v=>iW v
|.h1 _,v=>iW v
|.obj _ _ aF,v=>iW v++dq aF (D_ H v)
noncomputable def iF(H:aB)(a:aj)(c:Nat)(vs:List V):Prop:=vs.length<=(cD.fl c).length/\match cD.oF c with
|some C=>∃bE,H a=some (.ins C bE ((cD.fl c).zip vs))
|none=>H a=some (.fo (((cD.fl c).zip vs).map λp=>(.inr p.1,p.2)))
noncomputable def mz(K:a')(F:aj->Prop)(H:aB):aR->V->Prop
|.aa t,v=>Rep K F H t v
|.own ts,v=>∃b us,v=.ref b/\H b=some (.lst us)/\bB K F H ts us
|.h1 kvs,v=>∃b us,v=.ref b/\H b=some (.fo us)/\el K F H kvs us
|.obj _ _ _,_=>False
noncomputable def gp(K:a')(F:aj->Prop)(H:aB):List aR->List V->Prop
| [],vs=>vs=[]
|s::ss,vs=>∃v r,vs=v::r/\mz K F H s v/\gp K F H ss r
noncomputable def xF(E:f9)(O F:aj->Prop)(m:jq)(b:aj):Prop:=¬F b/\match m with
|.hr=>E.h b≠none
|_=>O b
noncomputable def ec(K:a')(E:f9)(O F:aj->Prop)(H:aB):aR->V->Prop
|.aa t,v=>Rep K F H t v
|.own ts,v=>∃a vs,v=.ref a/\¬F a/\O a/\H a=some (.lst vs)/\bB K F H ts vs
|.h1 kvs,v=>∃a vs,v=.ref a/\¬F a/\O a/\H a=some (.fo vs)/\el K F H kvs vs
|.obj m c aF,v=>∃a vs,v=.ref a/\iF H a c vs/\gp K F H aF vs/\(a::dq aF vs).Nodup/\(∀b∈a::dq aF vs,xF E O F m b)/\(m=.d8->a=E.jx)
noncomputable def aR.jb:aR->Bool
|.aa _=>false
|.obj .hr _ _=>false
|_=>true
section
variable {K:a'}{F aE O ox:aj->Prop}{H ag:aB}{E:f9}
theorem Mr{α β:Type}:∀{xs:List α} {ys:List β},ys.length<=xs.length->(xs.zip ys).map (·.2)=ys
|xs,[],_=>by simp
| [],y::ys,h=>by simp at h
|x::xs,y::ys,h=>by simp[Mr (xs:=xs) (ys:=ys) (by simpa using h)]
def iF.vals{a:aj}{c:Nat}{vs:List V}(h:iF H a c vs):D_ H (.ref a)=vs:=by
 obtain⟨aI,h⟩:=h;unfold D_;split at h
 ·obtain⟨bE,e⟩:=h;simp only[e];exact Mr aI
 ·simp only[h,oa];exact Mr aI
def iF.mem{a:aj}{c:Nat}{vs:List V}(h:iF H a c vs):∃o,H a=some o/\ou o:=by
 obtain⟨aI,h⟩:=h;split at h
 ·obtain⟨bE,e⟩:=h;exact⟨_,e,.inr (.inr ⟨_,_,_,rfl⟩)⟩
 ·exact⟨_,h,.inr (.inl ⟨_,rfl⟩)⟩
def iF.keep{a:aj}{c:Nat}{vs:List V}(h:iF H a c vs)(e:ag a=H a):iF ag a c vs:=by
 obtain⟨aI,h⟩:=h;refine⟨aI,?_⟩;rw[e];exact h
def w'{v:V}{b:aj}(h:b∈iW v):v=.ref b:=by
 unfold iW at h;split at h
 ·simp at h;rw[h]
 ·simp at h
theorem mz.at{s:aR}{v:V}{b:aj}(r:mz K F H s v)(h:b∈d0 s v):∃o,H b=some o/\ou o:=by
 cases s with
|aa t=>simp[d0] at h
|own ts=>
  obtain⟨anJ,us,e,hk,_⟩:=r;have:=w' h;rw[e] at this;cases this;exact⟨_,hk,.inl ⟨_,rfl⟩⟩
|h1 ts=>
  obtain⟨anJ,us,e,hk,_⟩:=r;have:=w' h;rw[e] at this;cases this;exact⟨_,hk,.inr (.inl ⟨_,rfl⟩)⟩
|obj m c aF=>exact r.elim
theorem gp.at:∀{aF:List aR} {vs:List V} {b:aj},gp K F H aF vs->b∈dq aF vs->∃o,H b=some o/\ou o
| [],vs,b,r,h=>by simp[dq] at h
|s::ss,vs,b,r,h=>by
  obtain⟨v,z,rfl,a_,b_⟩:=r;rw[show dq (s::ss) (v::z)=d0 s v++dq ss z from rfl] at h;rcases h8.mp h with h|h
  ·exact a_.at h
  ·exact gp.at b_ h
def kY{m:jq}{c:Nat}{aF:List aR}{a:aj}{vs:List V}(h:iF H a c vs):dz H (.obj m c aF) (.ref a)=a::dq aF vs:=by
 show iW (.ref a)++dq aF (D_ H (.ref a))=_
 rw[h.vals];rfl
theorem ec.at{s:aR}{v:V}{b:aj}(r:ec K E O F H s v)(h:b∈dz H s v):∃o,H b=some o/\ou o:=by
 cases s with
|aa t=>simp[dz] at h
|own ts=>
  obtain⟨anJ,us,e,_,_,hk,_⟩:=r;have:=w' h;rw[e] at this;cases this;exact⟨_,hk,.inl ⟨_,rfl⟩⟩
|h1 ts=>
  obtain⟨anJ,us,e,_,_,hk,_⟩:=r;have:=w' h;rw[e] at this;cases this;exact⟨_,hk,.inr (.inl ⟨_,rfl⟩)⟩
|obj m c aF=>
  obtain⟨a,vs,rfl,aA,hf,_⟩:=r;rw[kY aA] at h;rcases cN.mp h with rfl|h
  ·exact aA.mem
  ·exact hf.at h
def ec.held{s:aR}{v:V}{b:aj}(r:ec K E O F H s v)(h:b∈dz H s v):¬F b/\(s.jb=true->O b)/\(s.jb=false->E.h b≠none):=by
 cases s with
|aa t=>simp[dz] at h
|own ts=>
  obtain⟨anJ,us,e,n,o,hk,_⟩:=r;have:=w' h;rw[e] at this;cases this;exact⟨n,λ_=>o,λz=>by cases z⟩
|h1 ts=>
  obtain⟨anJ,us,e,n,o,hk,_⟩:=r;have:=w' h;rw[e] at this;cases this;exact⟨n,λ_=>o,λz=>by cases z⟩
|obj m c aF=>
  obtain⟨a,vs,rfl,aA,hf,aV,gB,_⟩:=r;rw[kY aA] at h;obtain⟨n,q⟩:=gB b h;refine⟨n,λz=>?_,λz=>?_⟩
  ·cases m with
   |hr=>cases z
   |own=>exact q
   |d8=>exact q
  ·cases m with
   |hr=>exact q
   |own=>cases z
   |d8=>cases z
def mz.keep{s:aR}{v:V}(r:mz K F H s v)(aG:ek K F H aE ag)(cM:∀b∈d0 s v,ag b=H b):mz K aE ag s v:=by
 cases s with
|aa t=>exact Rep.aG r aG
|own ts=>
  obtain⟨b,us,rfl,hk,z⟩:=r;exact⟨b,us,rfl,by rw[cM b (by simp[d0,iW])];exact hk,z.aG aG⟩
|h1 ts=>
  obtain⟨b,us,rfl,hk,z⟩:=r;exact⟨b,us,rfl,by rw[cM b (by simp[d0,iW])];exact hk,el.aG aG z⟩
|obj m c aF=>exact r.elim
theorem gp.keep:∀{aF:List aR} {vs:List V},gp K F H aF vs->ek K F H aE ag->(∀b∈dq aF vs,ag b=H b)->gp K aE ag aF vs
| [],vs,r,_,_=>r
|s::ss,vs,r,aG,cM=>by
  obtain⟨v,z,rfl,a_,b_⟩:=r;rw[show dq (s::ss) (v::z)=d0 s v++dq ss z from rfl] at cM;exact⟨v,z,rfl,a_.keep aG λb h=>cM b (h8.mpr (.inl h)),gp.keep b_ aG λb h=>cM b (h8.mpr (.inr h))⟩
theorem ec.keep{s:aR}{v:V}(r:ec K E O F H s v)(aG:ek K F H aE ag)(cM:∀b∈dz H s v,ag b=H b)(hf:∀b∈dz H s v,aE b->F b)(aK:∀b∈dz H s v,O b->ox b):
  ec K E ox aE ag s v/\dz ag s v=dz H s v:=by
 cases s with
|aa t=>exact⟨Rep.aG r aG,rfl⟩
|own ts=>
  obtain⟨a,vs,rfl,n,o,hk,z⟩:=r;have m:a∈dz H (.own ts) (.ref a):=by simp[dz,iW]
  exact⟨⟨a,vs,rfl,λf=>n (hf a m f),aK a m o,by rw[cM a m];exact hk,z.aG aG⟩,rfl⟩
|h1 ts=>
  obtain⟨a,vs,rfl,n,o,hk,z⟩:=r;have m:a∈dz H (.h1 ts) (.ref a):=by simp[dz,iW]
  exact⟨⟨a,vs,rfl,λf=>n (hf a m f),aK a m o,by rw[cM a m];exact hk,el.aG aG z⟩,rfl⟩
|obj m c aF=>
  obtain⟨a,vs,rfl,aA,ay,aV,gB,jx⟩:=r;rw[kY aA] at cM hf aK;have nK:iF ag a c vs:=aA.keep (cM a (by simp));refine⟨⟨a,vs,rfl,nK,ay.keep aG λb h=>cM b (dF _ h),aV,λb h=>?_,jx⟩,by rw[kY aA,kY nK]⟩;obtain⟨n,q⟩:=gB b h;refine⟨λf=>n (hf b h f),?_⟩;cases m with
  |hr=>exact q
  |own=>exact aK b h q
  |d8=>exact aK b h q
def ec.xW{s:aR}{v:V}(r:ec K E O F H s v)(x:Ext F H aE ag):ec K E O aE ag s v/\dz ag s v=dz H s v:=
 r.keep x.aG (λb h=>by
  obtain⟨o,e,m⟩:=r.at h;rw[e];exact x.same.get e λps z=>by subst z;exact m.cases (λ_ z=>by cases z) (λ_ z=>by cases z) (λ_ _ _ z=>by cases z)) (λb h f=>by
  rcases x.new b f with z|z
  ·exact z
  ·obtain⟨o,e,_⟩:=r.at h;rw[z] at e;cases e) λ_ _ o=>o
def ec.ext{s:aR}{v:V}(r:ec K E O F H s v)(x:Ext F H aE ag):ec K E O aE ag s v:=(r.xW x).1
end
structure cJ(K:a')(aJ:aj->Prop)(E:f9)(O F:aj->Prop)(H:aB)(ai:Ev)(σ:bu.St):Prop where
 len:ai.length=σ.length
 val:∀(i:Nat) (s:aR),ai[i]?=some (some s)->∃v,σ[i]?=some (some v)/\ec K E O F H s v
 ne:∀(i j:Nat) (s u:aR) (v w:V),i≠j->ai[i]?=some (some s)->ai[j]?=some (some u)->s.jb=true->u.jb=true->σ[i]?=some (some v)->σ[j]?=some (some w)->∀a∈dz H s v,a∉dz H u w
 ent:Ext aJ E.h F H
 o0:∀a,O a->E.h a=none
 fr:∀a,H a=none->O a
section
variable {K:a'}{aJ O F a6:aj->Prop}{E:f9}{H H1:aB}{ai:Ev}{σ:bu.St}
theorem cJ.cb(r:cJ K aJ E O F H ai σ):e' F H:=r.ent.cb
theorem cJ.ext(r:cJ K aJ E O F H ai σ)(x:Ext F H a6 H1):cJ K aJ E O a6 H1 ai σ:=
 ⟨r.len,λi s e=>by
  obtain⟨v,ah,ar⟩:=r.val i s e;exact⟨v,ah,ar.ext x⟩,λi j s u v w kg aw aN dK en ah ar=>by
  obtain⟨hM,dI,a_⟩:=r.val i s aw;obtain⟨df,jQ,b_⟩:=r.val j u aN;rw[ah] at dI;rw[ar] at jQ;cases dI;cases jQ;rw[(a_.xW x).2,(b_.xW x).2];exact r.ne i j s u v w kg aw aN dK en ah ar,r.ent.trans x,r.o0,λa e=>r.fr a (x.same.none e)⟩
def oe{α:Type}{l:List (Option α)}{i j:Nat}{x:Option α}{y:α}(h:(l.set i x)[j]?=some (some y)):(i=j/\x=some y/\j<l.length)\/(i≠j/\l[j]?=some (some y)):=by
 rw[wu] at h;by_cases e:i=j
 ·subst e;rw[if_pos rfl] at h;split at h
  next aI=>exact .inl ⟨rfl,fN h,aI⟩
  next=>cases h
 ·rw[if_neg e] at h;exact .inr ⟨e,h⟩
def Mu{α:Type}{l:List (Option α)}{i:Nat}{x:Option α}(h:i<l.length):(l.set i x)[i]?=some x:=by
 rw[wu,if_pos rfl,if_pos h]
def Dy{α:Type}{l:List (Option α)}{i j:Nat}{x:Option α}(h:i≠j):(l.set i x)[j]?=l[j]?:=by
 rw[wu,if_neg h]
def cJ.setG{s:aR}{v:V}(r:cJ K aJ E O F H ai σ)(i:Nat)(h:ec K E O F H s v)(fr:s.jb=true->∀(j:Nat) (u:aR) (w:V),i≠j->ai[j]?=some (some u)->u.jb=true->σ[j]?=some (some w)->∀a∈dz H s v,a∉dz H u w):
  cJ K aJ E O F H (ai.set i (some s)) (σ.set i (some v)):=by
 refine⟨by simp[r.len],λj u e=>?_,λj k u w e9 m5 pZ aw aN dK en ah ar=>?_,r.ent,r.o0,r.fr⟩
 ·rcases oe e with ⟨rfl,bx,aI⟩|⟨ne,bx⟩
  ·cases bx
   exact⟨_,Mu (by rw[<- r.len];exact aI),h⟩
  ·obtain⟨w,ah,ar⟩:=r.val j u bx;exact⟨w,by rw[Dy ne];exact ah,ar⟩
 ·rcases oe aw with ⟨rfl,bx,aI⟩|⟨ne1,kJ⟩
  ·rcases oe aN with ⟨rfl,_,_⟩|⟨ne2,h2⟩
   ·exact absurd rfl pZ
   ·rw[Mu (by rw[<- r.len];exact aI)] at ah;rw[Dy ne2] at ar;cases ah;cases bx;exact fr dK k w m5 ne2 h2 en ar
  ·rw[Dy ne1] at ah;rcases oe aN with ⟨rfl,bx,aI⟩|⟨ne2,h2⟩
   ·rw[Mu (by rw[<- r.len];exact aI)] at ar;cases ar;cases bx;intro a aA af;exact fr en j u e9 ne1 kJ dK ah a af aA
   ·rw[Dy ne2] at ar;exact r.ne j k u w e9 m5 pZ kJ h2 dK en ah ar
theorem cJ.set{t:T}{v:V}(r:cJ K aJ E O F H ai σ)(i:Nat)(h:Rep K F H t v):cJ K aJ E O F H (ai.set i (some (.aa t))) (σ.set i (some v)):=r.setG (s:=.aa t) i h λz=>by cases z
def cJ.Qe{s:aR}{v:V}(r:cJ K aJ E O F H ai σ)(i:Nat)(x:Ext F H a6 H1)(h:ec K E O a6 H1 s v)(bc:∀a∈dz H1 s v,H a=none):cJ K aJ E O a6 H1 (ai.set i (some s)) (σ.set i (some v)):=
 (r.ext x).setG i h λ_ j u w _ tW _ bS a aA af=>by
  obtain⟨df,ah,ar⟩:=r.val j u tW;rw[bS] at ah;cases ah;rw[(ar.xW x).2] at af;obtain⟨o,e,_⟩:=ar.at af;rw[bc a aA] at e;cases e
def Tg{x:aj}{o o':ed}(bc:¬F x)(hx:H x=some o)(hm:ou o):ek K F H F (upd H x o'):=by
 refine⟨λb xs q=>?_,λb xs f q=>⟨f,?_⟩⟩
 ·rcases q with q|q
  ·refine .inl ?_
   have nb:b≠x:=by
    rintro rfl;rcases q with q|⟨_,q⟩ <;> (rw[hx] at q;cases q;exact hm.cases (λ_ z=>by cases z) (λ_ z=>by cases z) (λ_ _ _ z=>by cases z))
   rcases q with q|⟨u,q⟩
   ·exact .inl (by rw[cR nb];exact q)
   ·exact .inr ⟨u,by rw[cR nb];exact q⟩
  ·exact .inr q
 ·have nb:b≠x:=by
   rintro rfl;exact bc f
  rcases q with q|⟨u,q⟩
  ·exact .inl (by rw[cR nb];exact q)
  ·exact .inr ⟨u,by rw[cR nb];exact q⟩
def SV{x:aj}{o o':ed}{h0:aB}(e:Ext aJ h0 F H)(Y6:h0 x=none)(bc:¬F x)(hx:H x=some o)(hm:ou o):Ext aJ h0 F (upd H x o'):=by
 refine⟨λb u q=>?_,e.sub,e.new,⟨λb f=>?_,e.cb.m4.Qy λu z=>by rw[hx] at z;cases z;exact hm⟩⟩
 ·have nb:b≠x:=by
   rintro rfl;rw[Y6] at q;cases q
  rw[cR nb];exact e.same b u q
 ·have nb:b≠x:=by
   rintro rfl;exact bc f
  rw[cR nb];exact e.cb b f
def cJ.B8{s s':aR}{v:V}{x:aj}{o':ed}(r:cJ K aJ E O F H ai σ){i:Nat}(e:ai[i]?=some (some s))(aK:s.jb=true)(bh:σ[i]?=some (some v))(hx:x∈dz H s v)
  (h:ek K F H F (upd H x o')->ec K E O F (upd H x o') s' v)
  (aM:∀b∈dz (upd H x o') s' v,b∈dz H s v\/∀(j:Nat) (u:aR) (w:V),i≠j->ai[j]?=some (some u)->u.jb=true->σ[j]?=some (some w)->b∉dz H u w):
  ek K F H F (upd H x o')/\cJ K aJ E O F (upd H x o') (ai.set i (some s')) σ:=by
 obtain⟨hM,uj,rs⟩:=r.val i s e;rw[bh] at uj;cases uj;obtain⟨o,eH,hm⟩:=rs.at hx;obtain⟨B9,kM,_⟩:=rs.held hx;have Zd:=kM aK;have aG:ek K F H F (upd H x o'):=Tg B9 eH hm;have h0:=r.o0 x Zd;have keep:∀(j:Nat) (u:aR) (w:V),i≠j->ai[j]?=some (some u)->σ[j]?=some (some w)->ec K E O F H u w->ec K E O F (upd H x o') u w/\dz (upd H x o') u w=dz H u w:=by
  intro j u w kg tW bS cY;refine cY.keep aG (λb af=>cR ?_) (λ_ _ f=>f) λ_ _ o=>o;rintro rfl;cases sA:u.jb with
  |true=>exact r.ne i j s u v w kg e tW aK sA bh bS b hx af
  |false=>exact (cY.held af).2.2 sA h0
 refine⟨aG,⟨by simp[r.len],λj u bx=>?_,λj k u w e9 m5 pZ aw aN dK en ah ar=>?_,SV r.ent h0 B9 eH hm,r.o0,λb bx=>r.fr b ?_⟩⟩
 ·rcases oe bx with ⟨rfl,qM,aI⟩|⟨ne,qM⟩
  ·cases qM
   exact⟨_,bh,h aG⟩
  ·obtain⟨w,ah,ar⟩:=r.val j u qM;exact⟨w,ah,(keep j u w ne qM ah ar).1⟩
 ·rcases oe aw with ⟨rfl,bx,aI⟩|⟨ne1,kJ⟩
  ·rcases oe aN with ⟨rfl,_,_⟩|⟨ne2,h2⟩
   ·exact absurd rfl pZ
   ·cases bx
    rw[bh] at ah;cases ah;obtain⟨df,jQ,b_⟩:=r.val k w h2;rw[ar] at jQ;cases jQ;rw[(keep k w m5 ne2 h2 ar b_).2];intro a aA af;rcases aM a aA with z|z
    ·exact r.ne i k s w v m5 ne2 e h2 aK en bh ar a z af
    ·exact z k w m5 ne2 h2 en ar af
  ·obtain⟨v1,dI,a_⟩:=r.val j u kJ;rw[ah] at dI;cases dI;rw[(keep j u e9 ne1 kJ ah a_).2];rcases oe aN with ⟨rfl,bx,aI⟩|⟨ne2,h2⟩
   ·cases bx
    rw[bh] at ar;cases ar;intro a aA af;rcases aM a af with z|z
    ·exact r.ne i j s u v e9 ne1 e kJ aK dK bh ah a z aA
    ·exact z j u e9 ne1 kJ dK ah aA
   ·obtain⟨df,jQ,b_⟩:=r.val k w h2;rw[ar] at jQ;cases jQ;rw[(keep k w m5 ne2 h2 ar b_).2];exact r.ne j k u w e9 m5 pZ kJ h2 dK en ah ar
 ·by_cases nb:b=x
  ·subst nb;rw[dU] at bx;cases bx
  ·rwa [cR nb] at bx
def cJ.mut{s s':aR}{a:aj}{o o':ed}(r:cJ K aJ E O F H ai σ){i:Nat}(e:ai[i]?=some (some s))(aK:s.jb=true)(bh:σ[i]?=some (some (.ref a)))(bc:¬F a)(jv:O a)(aA:H a=some o)
  (aL:(∃xs,o=.lst xs)\/∃xs,o=.fo xs) (h:ek K F H F (upd H a o')->ec K E O F (upd H a o') s' (.ref a)) (f1:∀H:aB,dz H s (.ref a)=[a]:=by intro _;rfl) (f2:∀H:aB,dz H s' (.ref a)=[a]:=by intro _;rfl):
  ek K F H F (upd H a o')/\cJ K aJ E O F (upd H a o') (ai.set i (some s')) σ:=
 r.B8 e aK bh (by rw[f1];simp) h λb af=>by
  rw[f2] at af;rw[f1];exact .inl af
end
noncomputable def KA(K:a')(f:bY):TE:=λσ H Q=>∃aJ aT O F ai t,cJ K aJ aT O F H ai σ/\f ai=some t/\∀v aE ag,Ext F H aE ag->gq K O aE ag t v->Q v ag
noncomputable def y8(K:a')(f:bY):TE:=λσ H Q=>∃aJ aT O F ai t,cJ K aJ aT O F H ai σ/\f ai=some t/\∀v aE ag,Ext F H aE ag->Rep K aE ag t v->Q v ag
noncomputable def tN(K:a')(f:bY):TE:=λσ H Q=>∃aJ aT O F ai ts,cJ K aJ aT O F H ai σ/\f ai=some (.list ts)/\∀a vs aE ag,Ext F H aE ag->H a=none->¬aE a->ag a=some (.lst vs)->bB K aE ag ts vs->Q (.ref a) ag
noncomputable def KD(K:a')(f:f_):TT:=λσ H Q=>∃aJ aT O F ai b,cJ K aJ aT O F H ai σ/\f ai=some b/\∀aE ag,Ext F H aE ag->Q b ag
noncomputable def Qq(K:a')(aF:List bY):fH:=λσ H Q=>∃aJ aT O F ai ts,cJ K aJ aT O F H ai σ/\args aF ai=some ts/\∀vs aE ag,Ext F H aE ag->Paired (gq K O aE ag) ts vs->Q vs ag
noncomputable def aeX(K:a')(aF:List bY):fH:=λσ H Q=>∃aJ aT O F ai ts,cJ K aJ aT O F H ai σ/\args aF ai=some ts/\∀vs aE ag,Ext F H aE ag->bB K aE ag ts vs->Q vs ag
abbrev ey(X:aY)(e:bt)(f:bY):Prop:=b0 X e (KA X.K f)
abbrev cO(X:aY)(e:bt)(f:bY):Prop:=b0 X e (y8 X.K f)
abbrev an0(X:aY)(e:bt)(f:bY):Prop:=b0 X e (tN X.K f)
abbrev kB(X:aY)(e:bt)(f:f_):Prop:=i8 X e (KD X.K f)
abbrev tJ(X:aY)(e:bt)(f:f_):Prop:=anI X e (KD X.K f)
abbrev qA(X:aY)(es:List bt)(aF:List bY):Prop:=fR X es (Qq X.K aF)
abbrev nB(X:aY)(es:List bt)(aF:List bY):Prop:=fR X es (aeX X.K aF)
def eu{X:aY}{e:bt}{t t':TE}(h:b0 X e t)(k:∀σ H Q,t' σ H Q->t σ H Q):b0 X e t':=λak s σ H Q I q=>h ak s σ H Q I (k σ H Q q)
def vn{X:aY}{e:bt}{t t':TT}(h:i8 X e t)(k:∀σ H Q,t' σ H Q->t σ H Q):i8 X e t':=λak s σ H Q I q=>h ak s σ H Q I (k σ H Q q)
def Ui{X:aY}{e:bt}{t t':TT}(h:anI X e t)(k:∀σ H Q,t' σ H Q->t σ H Q):anI X e t':=λw ak s σ H Q I q=>h w ak s σ H Q I (k σ H Q q)
def Ab{X:aY}{e:List bt}{t t':fH}(h:fR X e t)(k:∀σ H Q,t' σ H Q->t σ H Q):fR X e t':=λpos ak s σ H Q I q=>h pos ak s σ H Q I (k σ H Q q)
def hT{X:aY}{e:Stmt}{t t':fU}(h:hY X e t)(k:∀D σ H,t' D σ H->t D σ H):hY X e t':=λak s σ H D I q=>h ak s σ H D I (k D σ H q)
def zY{X:aY}{e:List Stmt}{t t':fU}(h:fS X e t)(k:∀D σ H,t' D σ H->t D σ H):fS X e t':=λak s σ H D I q=>h ak s σ H D I (k D σ H q)
section
variable {X:aY}{e:bt}{f:bY}
def aC(h:cO X e f):ey X e f:=eu h λσ H Q ⟨aJ,aT,O,F,ai,t,r,e,k⟩=>⟨aJ,aT,O,F,ai,t,r,e,λv aE ag x q=>k v aE ag x (.inl q)⟩
def PR(h:an0 X e f)(hf:∀ai t,f ai=some t->∃ts,t=.list ts):cO X e f:=eu h<|by
 rintro σ H Q ⟨aJ,aT,O,F,ai,t,r,e,k⟩
 obtain⟨ts,rfl⟩:=hf _ _ e;refine⟨aJ,aT,O,F,ai,ts,r,e,λa vs aE ag x bc jc aA q=>?_⟩;have y:Ext F H (λb=>aE b\/b=a) ag:=⟨x.same,λb z=>.inl (x.sub b z),λb z=>by
  rcases z with z|rfl
  ·exact x.new b z
  ·exact .inr bc,⟨λb z=>by
  rcases z with z|rfl
  ·exact x.cb b z
  ·exact⟨_,aA⟩,x.cb.m4⟩⟩
 refine k (.ref a) _ ag y ?_
 simp only[Rep];exact⟨a,vs,rfl,.inr rfl,.inl aA,q.keep (λ_ _ z=>z) λb _ z w=>⟨.inl z,w⟩⟩
end
end
section
variable [cD]
section
variable {X:aY}{a b c e:bt}{f g h:bY}{pos:Pos}
def xk{t:T}{v:V}(he:b0 X e (jH v))(ay:∀F H,Rep X.K F H t v):cO X e (ae t):=eu he<|by
 rintro σ H Q ⟨aJ,aT,O,F,ai,t',r,e,k⟩
 cases e
 exact k v F H (Ext.refl r.cb) (ay _ _)
def aW{i j}:cO X (.Constant (.int i) j pos) (ae (.int i)):=xk Eb λ_ _=>by simp[Rep]
def Ck{i j}:cO X (.Constant (.bool i) j pos) (ae (.bool i)):=xk M' λ_ _=>by simp[Rep]
def b2{i j}:cO X (.Constant (.str i) j pos) (ae (.str i)):=xk z4 λ_ _=>by simp[Rep]
def k8{j}:cO X (.Constant .none j pos) (ae .none):=xk alB λ_ _=>by simp[Rep]
def a8(i:Nat){x:Str}(dw:X.N[i]?=some x:=by rfl)(bh:oB X.env.scope x:=by first|exact Or.inl rfl|exact Or.inr (Or.inl rfl)|exact Or.inr (Or.inr rfl))(hd:(x==("__debug__":Str))=false:=by decide)
  (eg:(x==("__classdict__":Str))=false:=by decide):ey X (.Name x pos) (nm i):=eu (bC i dw bh hd eg) λσ H Q ⟨aJ,aT,O,F,ai,t,r,e,k⟩=>by
 unfold nm at e;split at e
 next t' he=>
  cases e
  obtain⟨v,ah,ar⟩:=r.val _ _ he;exact⟨v,ah,k v F H (Ext.refl r.cb) (.inl ar)⟩
 next ts he=>
  cases e
  obtain⟨v,ah,a,vs,rfl,n,h0,cM,ay⟩:=r.val _ _ he;exact⟨_,ah,k _ F H (Ext.refl r.cb) (.inr ⟨ts,a,vs,rfl,rfl,cM,ay⟩)⟩
 next=>cases e
def bl(i:Nat){x:Str}(dw:X.N[i]?=some x:=by rfl)(bh:oB X.env.scope x:=by first|exact Or.inl rfl|exact Or.inr (Or.inl rfl)|exact Or.inr (Or.inr rfl))(hd:(x==("__debug__":Str))=false:=by decide)
  (eg:(x==("__classdict__":Str))=false:=by decide):cO X (.Name x pos) (av i):=eu (bC i dw bh hd eg) λσ H Q ⟨aJ,aT,O,F,ai,t,r,e,k⟩=>by
 unfold av at e;split at e
 next t' he=>
  cases e
  obtain⟨v,ah,ar⟩:=r.val _ _ he;exact⟨v,ah,k v F H (Ext.refl r.cb) ar⟩
 next=>cases e
noncomputable def nA(K:a')(o:T->T->Option T)(R:gG):Prop:=
 ∀(O F:aj->Prop) (H:aB) (x y t:T) (jh ji:V) (Q:c0),e' F H->gq K O F H x jh->gq K O F H y ji->o x y=some t ->
  (∀v aE ag,Ext F H aE ag->Rep K aE ag t v->Q v ag)->R jh ji H Q
def rv{o:T->T->Option T}{R:gG}(h:nA X.K o R):∀σ H Q,y8 X.K (aq o f g) σ H Q->uI R (KA X.K f) (KA X.K g) σ H Q:=by
 rintro σ H Q ⟨aJ,aT,O,F,ai,t,r,e,k⟩;simp only[aq,cf] at e;obtain⟨x,ex,y,fI,eH⟩:=e;refine⟨aJ,aT,O,F,ai,x,r,ex,λjh a6 H1 aS aU=>⟨aJ,aT,O,a6,ai,y,r.ext aS,fI,λji dr bw bN bD=>?_⟩⟩;exact h O dr bw x y t jh ji Q bN.cb (aU.ext bN) bD eH λv aE ag g_ dc=>k v aE ag ((aS.trans bN).trans g_) dc
def Inv.v8{ak:List (aj×Obj)}{σ:bu.St}{H:aB}{s:aH}{l:aj}{xs:List V}(I:Inv X ak σ H s)(e1:fT H l (.lst xs)):
  xs.length<=cn/\∃(its:List ao) (n:Nat),Vals xs its/\xs.length=its.length/\s.heap.get? l=some {cls:=.type "list",data:=.seq its.toArray n}:=by
 obtain⟨z,its,n,r,e⟩:=e1.ok I.bF;exact⟨z,its,n,r,r.length,e⟩
noncomputable def amr:gG:=λx y H Q=>∃l b xs zs,x=.ref l/\y=.ref b/\fT H l (.lst xs)/\fT H b (.lst zs)/\xs.length+zs.length<=cn/\∀p,H p=none->Q (.ref p) (upd H p (.lst (xs++zs)))
def akE:eU X (ng .Add) amr:=by
 intro ak s σ H x y v u Q I aU bD h;obtain⟨l,b,xs,zs,rfl,rfl,e1,x2,au,q⟩:=h;cases aU;cases bD;obtain⟨z,its,n,r,aI,e⟩:=Inv.v8 I e1;obtain⟨gD,kj,fE,b_,yf,aN⟩:=Inv.v8 I x2;refine PySem.P.add_list e aN ?_ (by rw[eW,eW];omega);have ea:its.toArray++kj.toArray=(its++kj).toArray:=by simp
 rw[ea];exact⟨.ref _,_,I.yC (t':=s.toks) (r.append b_) (by rw[n7];omega),rfl,q _ I.fresh⟩
noncomputable def alj(K:a'):gG:=λx y H Q=>∃a b ys,x=.ref a/\y=.ref b/\c' K H a []/\c' K H b ys/\Q (.ref b) H
def ajw:eU X (ng .Add) (alj X.K):=by
 intro ak s σ H x y v u Q I aU bD h;obtain⟨a,b,ys,rfl,rfl,aA,af,q⟩:=h;cases aU;cases bD;obtain⟨its,a_,lC,_⟩:=I.tuple aA;obtain⟨kj,b_,eN,_⟩:=I.tuple af;have Gz:its=[]:=a_.B'.mpr rfl;subst Gz;obtain⟨⟨cls,dd,data,cG⟩,aK,ax,n,hd⟩:=id lC;obtain⟨⟨Gs,nG,data2,iy⟩,ud,ke,fE,hd2⟩:=id eN;simp only at ax hd ke hd2;subst ax hd ke hd2;exact concat_meets ⟨_,aK,rfl⟩ ⟨_,ud,rfl⟩ noFill_tuple_add seq_tuple_add PySem.F.slot_tuple_add PySem.F.entry_tuple_add (PySem.F.args_tuple_add_2 _ _)
   (tuple_addW0 a b ([]:List ao).toArray kj.toArray n fE dd nG cG iy (by simp)) ⟨aK,ud,⟨.ref b,H,I,rfl,q⟩⟩
def lT:cn=big:=by rw[jJ];rfl
def gm(aA:ey X a f)(af:ey X b g):cO X (.BinOp a .Add b pos) (aq b4 f g):=
 eu (xl (alI.or (aht.or (ajw.or (akD.or akE)))) aA af) (rv (by
  intro O F H x y t jh ji Q d aU bD e k;unfold b4 at e;split at e
  ·cases e
   rw[aU.int,bD.int];exact .inl ⟨_,_,rfl,rfl,k _ F H (Ext.refl d) (by simp[Rep])⟩
  ·split at e
   next au=>
    cases e
    rw[aU.str,bD.str];exact .inr (.inl ⟨_,_,rfl,rfl,by rw[lT];exact au,k _ F H (Ext.refl d) (by simp[Rep])⟩)
   next=>cases e
  ·split at e
   next xs ys au=>
    cases e
    obtain⟨an2,vs,rfl,az,ay⟩:=aU.tup;obtain⟨W4,ws,rfl,nR,ug⟩:=bD.tup;cases xs with
    |nil=>
     simp only[bB] at ay;subst ay;refine .inr (.inr (.inl ⟨_,_,_,rfl,rfl,az,nR,k _ F H (Ext.refl d) ?_⟩));simp only[Rep];exact⟨_,_,rfl,nR,by simpa using ug⟩
    |cons x0 QH=>
     refine .inr (.inr (.inr (.inl ⟨_,_,_,_,rfl,rfl,az,nR,?_,?_,λbP=>?_,λbP p aM=>?_⟩)))
     ·intro z;subst z;have:=ay.length;simp at this
     ·rw[lT,<- ay.length,<- ug.length];exact au
     ·refine k _ F H (Ext.refl d) ?_
      subst bP;have aw:ys=[]:=List.eq_nil_of_length_eq_zero (by rw[ug.length];rfl);subst aw;simp only[Rep];exact⟨_,_,rfl,az,by simpa using ay⟩
     ·have aS:=Ext.laid (o:=.tup (vs++ws)) d aM;refine k _ F _ aS ?_;simp only[Rep];exact⟨p,_,rfl,c'.of dU,(ay.append ug).ext aS⟩
   next=>cases e
  ·split at e
   next xs ys au=>
    cases e
    obtain⟨an2,vs,rfl,az,ay⟩:=aU.lst;obtain⟨W4,ws,rfl,nR,ug⟩:=bD.lst;refine .inr (.inr (.inr (.inr ⟨_,_,_,_,rfl,rfl,az,nR,by rw[lT,<- ay.length,<- ug.length];exact au,λp aM=>?_⟩)));have aS:=Ext.Jw (o:=.lst (vs++ws)) d aM;refine k _ _ _ aS ?_;simp only[Rep];exact⟨p,_,rfl,.inr rfl,.inl dU,(ay.append ug).ext aS⟩
   next=>cases e
  ·cases e))
noncomputable def ajm:V->List V->aB->c0->Prop:=λx vs H Q=>∃l b xs zs,x=.ref l/\vs=[.ref b]/\H l=some (.lst xs)/\fT H b (.lst zs)/\xs.length+zs.length<=cn/\Q .d1 (upd H l (.lst (xs++zs)))
def ahD:Aq X "list.extend" ajm:=by
 intro ak s σ H x vs v us Q I aU bW h;obtain⟨l,b,xs,zs,rfl,rfl,e1,x2,au,q⟩:=h;cases aU;obtain⟨u,rfl,cY⟩:=bW.one;cases cY;obtain⟨z,its,n,r,aI,e⟩:=I.Jz e1;obtain⟨gD,kj,fE,b_,yf,aN⟩:=Inv.v8 I x2;have hsz:its.toArray.size+kj.toArray.size<=cn:=by rw[eW,eW];omega
 have HA:¬(!its.toArray.isEmpty && Builtin.List.listTooLong (its.toArray.size+kj.toArray.size))=true:=by
  rw[SI hsz,Bool.and_false];exact m_
 refine qg F.slot_list_extend ⟨_,e,rfl⟩ F.entry_list_extend (F.args_list_extend_2 _ _)
  (AutoSeq1.list_extend_list_list_0 l its.toArray n b kj.toArray fE HA (by rw[eW];omega) (by omega)) ⟨e,aN,?_⟩
 refine⟨.d1,_,I.Jy (its':=its++kj) e1 e (by simp) (r.append b_) ?_,rfl,q⟩
 rw[n7];omega
def Us(aA:ey X a f)(af:ey X b g):cO X (.BinOp a .Sub b pos) (aq sz f g):=
 eu (xl alF aA af) (rv (by
  intro O F H x y t jh ji Q d aU bD e k;unfold sz at e;split at e
  ·cases e
   rw[aU.int,bD.int];exact⟨_,_,rfl,rfl,k _ F H (Ext.refl d) (by simp[Rep])⟩
  ·cases e))
def th(aA:ey X a f)(af:ey X b g):cO X (.BinOp a .Mult b pos) (aq dT f g):=
 eu (xl alG aA af) (rv (by
  intro O F H x y t jh ji Q d aU bD e k;unfold dT at e;split at e
  ·split at e
   next hm=>
    cases e
    rw[aU.int,bD.int];refine⟨_,_,rfl,rfl,?_,k _ F H (Ext.refl d) (by simp[Rep])⟩;simpa [xn,Am] using hm
   next=>cases e
  ·cases e))
def hz(aA:ey X a f)(af:ey X b g):cO X (.BinOp a .FloorDiv b pos) (aq oDiv f g):=
 eu (xl akC aA af) (rv (by
  intro O F H x y t jh ji Q d aU bD e k;unfold oDiv at e;split at e
  ·split at e
   next hm=>
    cases e
    rw[aU.int,bD.int];exact⟨_,_,rfl,rfl,hm,k _ F H (Ext.refl d) (by simp[Rep])⟩
   next=>cases e
  ·cases e))
def fz(aA:ey X a f)(af:ey X b g):cO X (.BinOp a .Mod b pos) (aq oMod f g):=
 eu (xl alH aA af) (rv (by
  intro O F H x y t jh ji Q d aU bD e k;unfold oMod at e;split at e
  ·split at e
   next hm=>
    cases e
    rw[aU.int,bD.int];exact⟨_,_,rfl,rfl,hm,k _ F H (Ext.refl d) (by simp[Rep])⟩
   next=>cases e
  ·cases e))
def cx(aA:ey X a f)(af:ey X b g)(az:TB b:=by intro _ _;rfl):cO X (.Subscript a b pos) (aq aZ f g):=
 eu (amz alV aA af az) (rv (by
  intro O F H x y t jh ji Q d aU bD e k;unfold aZ at e;split at e
  ·obtain⟨an2,vs,rfl,az,ay⟩:=aU.tup;rw[bD.int];simp only[eM,cf] at e;obtain⟨j,bS,bU⟩:=e;obtain⟨v,bh,bW⟩:=ay.get bU;refine .inr (.inl ⟨_,_,_,v,rfl,rfl,az,?_,k _ F H (Ext.refl d) bW⟩);rw[ay.length] at bS;show (sq _ _).bind _=_;rw[show sq vs.length _=some j from bS];exact bh
  ·obtain⟨an2,vs,rfl,az,ay⟩:=aU.lst;rw[bD.int];simp only[eM,cf] at e;obtain⟨j,bS,bU⟩:=e;obtain⟨v,bh,bW⟩:=ay.get bU;refine .inl ⟨_,_,_,v,rfl,rfl,.inl az,?_,k _ F H (Ext.refl d) bW⟩;rw[ay.length] at bS;show (sq _ _).bind _=_;rw[show sq vs.length _=some j from bS];exact bh
  ·split at e
   next au=>
    rw[aU.str,bD.int];simp only[dR] at e;obtain⟨c,ax,rfl⟩:=e;exact .inr (.inr ⟨_,_,c,rfl,rfl,by rw[lT];exact au,ax,k _ F H (Ext.refl d) (by simp[Rep])⟩)
   next=>cases e
  ·cases e))
end
end
section
variable [cD]
noncomputable def Ap(K:a')(aJ:aj->Prop)(aT:f9)(O F:aj->Prop)(H:aB)(D:Ends):Out->Prop
|.bG ε'=>∀cj aE ag,ek K F H aE ag->cJ K aJ aT O aE ag ε' cj->D.bG cj ag
|.dE t=>∀v aE ag,Ext aJ aT.h aE ag->Rep K aE ag t v->D.dE v ag
|.lF t ε'=>∀v cj aE ag,cJ K aJ aT O aE ag ε' cj->Rep K aE ag t v->D.dE v ag
|.ma s=>∀a aE ag,Ext aJ aT.h aE ag->ec K aT O aE ag s (.ref a)->D.dE (.ref a) ag
|.gI ε'=>∀cj aE ag,ek K F H aE ag->cJ K aJ aT O aE ag ε' cj->D.gI cj ag
|.cP ε'=>∀cj aE ag,ek K F H aE ag->cJ K aJ aT O aE ag ε' cj->D.cP cj ag
noncomputable def Qv(K:a')(g:bK):fU:=λD σ H=>∃aJ aT O F ai o,cJ K aJ aT O F H ai σ/\g ai=some o/\Ap K aJ aT O F H D o
abbrev gF(X:aY)(s:Stmt)(g:bK):Prop:=hY X s (Qv X.K g)
abbrev i7(X:aY)(s:List Stmt)(g:bK):Prop:=fS X s (Qv X.K g)
def Ap.aG{K:a'}{aJ O F a6:aj->Prop}{aT:f9}{H H1:aB}{D:Ends}{o:Out}(h:Ap K aJ aT O F H D o)(x:ek K F H a6 H1):Ap K aJ aT O a6 H1 D o:=by
 cases o with
|bG ai=>exact λcj aE ag k r=>h cj aE ag (x.trans k) r
|dE t=>exact h
|gI ai=>exact λcj aE ag k r=>h cj aE ag (x.trans k) r
|cP ai=>exact λcj aE ag k r=>h cj aE ag (x.trans k) r
|lF t ai=>exact h
|ma s=>exact h
section
variable {X:aY}{e a b c:bt}{f:bY}{g g':bK}{fb:f_}{st:Stmt}{rest:List Stmt}{pos:Pos}
def e4:i7 X [] skip:=zY Tb<|by
 rintro D σ H ⟨aJ,aT,O,F,ai,o,r,e,k⟩
 cases e
 exact k σ F H ek.refl r
def bR(h:gF X st g):i7 X [st] g:=vf h
def bJ(ah:gF X st g)(ar:i7 X rest g'):i7 X (st::rest) (seq g g'):=zY (vb ah ar)<|by
 rintro D σ H ⟨aJ,aT,O,F,ai,o,r,e,k⟩
 simp only[seq,cf] at e;obtain⟨dK,aw,aN⟩:=e;refine⟨aJ,aT,O,F,ai,dK,r,aw,?_⟩;cases dK with
|bG ε'=>exact λcj aE ag x cm=>⟨aJ,aT,O,aE,ε',o,cm,aN,k.aG x⟩
|dE t=>
  cases aN
  exact k
|gI ε'=>
  cases aN
  exact k
|cP ε'=>
  cases aN
  exact k
|lF t ε'=>
  cases aN
  exact k
|ma s=>
  cases aN
  exact k
def eC(h:cO X e f):gF X (.Return (some e) pos) (b' f):=hT (xa h)<|by
 rintro D σ H ⟨aJ,aT,O,F,ai,o,r,e,k⟩
 simp only[b',dR] at e;obtain⟨t,bU,rfl⟩:=e;exact⟨aJ,aT,O,F,ai,t,r,bU,λv aE ag x q=>k v aE ag (r.ent.trans x) q⟩
def z1(i:Nat){x:Str}{uz:Pos}(dw:X.N[i]?=some x:=by rfl)(bh:oB X.env.scope x:=by first|exact Or.inl rfl|exact Or.inr (Or.inl rfl)|exact Or.inr (Or.inr rfl))(hd:(x==("__debug__":Str))=false:=by decide)
  (eg:(x==("__classdict__":Str))=false:=by decide):gF X (.Return (some (.Name x uz)) pos) (b' (nm i)):=hT (xa (bC i dw bh hd eg)) λD σ H ⟨aJ,aT,O,F,ai,o,r,e,k⟩=>by
 simp only[b',dR] at e;obtain⟨t,bU,rfl⟩:=e;unfold nm at bU;split at bU
 next t' he=>
  cases bU
  obtain⟨v,ah,ar⟩:=r.val _ _ he;exact⟨v,ah,k v F H r.ent ar⟩
 next ts he=>
  cases bU
  obtain⟨v,ah,a,vs,rfl,n,h0,aA,q⟩:=r.val _ _ he;have bN:=r.ent;have y:Ext aJ aT.h (λb=>F b\/b=a) H:=⟨bN.same,λb z=>.inl (bN.sub b z),λb z=>by
   rcases z with z|rfl
   ·exact bN.new b z
   ·exact .inr (r.o0 _ h0),⟨λb z=>by
   rcases z with z|rfl
   ·exact bN.cb b z
   ·exact⟨_,aA⟩,bN.cb.m4⟩⟩
  refine⟨_,ah,k _ _ H y ?_⟩
  simp only[Rep];exact⟨a,vs,rfl,.inr rfl,.inl aA,q.keep (λ_ _ z=>z) λb _ z w=>⟨.inl z,w⟩⟩
 next=>cases bU
def dQ(ax:kB X c fb)(aA:i7 X rest g){r7:List Stmt}(af:i7 X r7 g'):gF X (.If c rest r7 pos) (iff fb g g'):=hT (El ax aA af)<|by
 rintro D σ H ⟨aJ,aT,O,F,ai,o,r,e,k⟩
 simp only[iff,cf] at e;obtain⟨b,d4,e⟩:=e;refine⟨aJ,aT,O,F,ai,b,r,d4,λaE ag x=>?_⟩;cases b with
|true=>exact so ⟨aJ,aT,O,aE,ai,o,r.ext x,by simpa using e,k.aG x.aG⟩
|false=>exact v7 ⟨aJ,aT,O,aE,ai,o,r.ext x,by simpa using e,k.aG x.aG⟩
def dj(i:Nat){x:Str}{pos':Pos}(dw:X.N.Nodup)(he:cO X e f)(aQ:X.N[i]?=some x:=by rfl)(hx:Loc X.env.scope x:=by first|exact Or.inl rfl|exact Or.inr rfl)
  (az:kr e (some (.Name x pos')) pos.line X.env=pure false:=by rfl) (hf:X.fn x=true\/X.env.scope.names.lookup x=some .local:=by first|exact .inl rfl|exact .inr rfl):
  gF X (.Assign [.Name x pos'] e pos) (asg i f):=hT (td dw aQ hx he az hf) λD σ H ⟨aJ,aT,O,F,ai,o,r,e,k⟩=>by
 simp only[asg,dR] at e;obtain⟨t,bU,rfl⟩:=e;refine⟨aJ,aT,O,F,ai,t,r,bU,λv aE ag x q=>?_⟩;exact k _ aE ag x.aG ((r.ext x).set i q)
def TP(i:Nat){x:Str}{pos':Pos}(dw:X.N.Nodup)(he:an0 X e f)(aQ:X.N[i]?=some x:=by rfl)(hx:Loc X.env.scope x:=by first|exact Or.inl rfl|exact Or.inr rfl)
  (az:kr e (some (.Name x pos')) pos.line X.env=pure false:=by rfl) (hf:X.fn x=true\/X.env.scope.names.lookup x=some .local:=by first|exact .inl rfl|exact .inr rfl):
  gF X (.Assign [.Name x pos'] e pos) (gY i f):=hT (td dw aQ hx he az hf) λD σ H ⟨aJ,aT,O,F,ai,o,r,e,k⟩=>by
 simp only[gY,cf] at e;obtain⟨t,bU,e⟩:=e;split at e
 next ts=>
  cases e
  refine⟨aJ,aT,O,F,ai,ts,r,bU,λa vs aE ag x bc jc aA q=>?_⟩
  exact k _ aE ag x.aG (r.Qe (s:=.own ts) i x ⟨a,vs,rfl,jc,r.fr a bc,aA,q⟩ λb af=>by
   have:b=a:=by simpa [dz,iW] using af
   rw[this];exact bc)
 next=>cases e
noncomputable def tG(K:a')(g:i4):oA:=λv σ H Q=>∃aJ aT O F ai t ε',cJ K aJ aT O F H ai σ/\Rep K F H t v/\g t ai=some ε'/\∀cj,cJ K aJ aT O F H ε' cj->Q cj H
noncomputable def ae1(K:a')(gd:List i4):qD:=λvs σ H Q=>∃aJ aT O F ai ts ε',cJ K aJ aT O F H ai σ/\bB K F H ts vs/\gy gd ts ai=some ε'/\∀cj,cJ K aJ aT O F H ε' cj->Q cj H
abbrev pF(X:aY)(e:bt)(g:i4):Prop:=rP X e (tG X.K g)
abbrev Au(X:aY)(es:List bt)(gd:List i4):Prop:=tH X es (ae1 X.K gd)
def Uk{X:aY}{e:bt}{t t':oA}(h:rP X e t)(k:∀v σ H Q,t' v σ H Q->t v σ H Q):rP X e t':=λak s σ H v u Q I r q=>h ak s σ H v u Q I r (k v σ H Q q)
def TC{X:aY}{e:List bt}{t t':qD}(h:tH X e t)(k:∀v σ H Q,t' v σ H Q->t v σ H Q):tH X e t':=λak s σ H v u Q I r q=>h ak s σ H v u Q I r (k v σ H Q q)
def fq(i:Nat){x:Str}(dw:X.N.Nodup)(aQ:X.N[i]?=some x:=by rfl)(hx:Loc X.env.scope x:=by first|exact Or.inl rfl|exact Or.inr rfl)
  (hf:X.fn x=true\/X.env.scope.names.lookup x=some .local:=by first|exact .inl rfl|exact .inr rfl):pF X (.Name x pos) (bH i):=Uk (akr dw aQ hx hf) λv σ H Q ⟨aJ,aT,O,F,ai,t,ε',r,q,e,k⟩=>by
 cases e
 exact k _ (r.set i q)
def an6:Au X [] []:=TC akq<|by
 rintro vs σ H Q ⟨aJ,aT,O,F,ai,ts,ε',r,q,e,k⟩
 cases ts with
|nil=>
  cases e
  simp only[bB] at q;exact⟨q,k σ r⟩
|cons t ts=>cases e
def k6{es:List bt}{g:i4}{gd:List i4}(ah:pF X e g)(ar:Au X es gd)(az:(pe (e::es) X.env).map (·.2)=assign e X.env::(pe es X.env).map (·.2):=by rfl):Au X (e::es) (g::gd):=
 TC (ajr ah ar az) λvs σ H Q ⟨aJ,aT,O,F,ai,ts,ε',r,q,e,k⟩=>by
 cases ts with
|nil=>cases e
|cons t ts=>
  simp only[gy,cf] at e;obtain⟨ij,aw,aN⟩:=e;simp only[bB] at q;obtain⟨v,KU,rfl,aP,bf⟩:=q;exact⟨v,KU,rfl,aJ,aT,O,F,ai,t,ij,r,aP,aw,λNh a_=>⟨aJ,aT,O,F,ij,ts,ε',a_,bf,aN,k⟩⟩
theorem SR:∀{gd:List i4} {ts:List T} {ai ε':Ev},gy gd ts ai=some ε'->ts.length=gd.length
| [],[],_,_,_=>rfl
| [],_::_,_,_,h=>by cases h
|_::_,[],_,_,h=>by cases h
|g::gd,t::ts,ai,ε',h=>by
  simp only[gy,cf] at h;obtain⟨ij,_,h⟩:=h;simp[SR h]
def vr{es:List bt}{k:Nat}{gd:List i4}(h:Au X es gd)(ax:X.calm=true:=by rfl)(bc:(pe es X.env).length=gd.length:=by rfl)(gg:(pe es X.env).findIdx? (·.1)=none:=by rfl):
  pF X (.Tuple es k pos) (dH gd):=Uk (alz ax h bc gg) λv σ H Q ⟨aJ,aT,O,F,ai,t,ε',r,q,e,k⟩=>by
 unfold dH at e;split at e
 next ts=>
  simp only[Rep] at q;obtain⟨a,vs,rfl,az,ay⟩:=q;exact⟨a,vs,rfl,az,by rw[<- ay.length];exact SR e,aJ,aT,O,F,ai,ts,ε',r,ay,e,k⟩
 next=>cases e
def alc{cV:bt}{g:i4}(he:cO X e f)(bg:pF X cV g)(az:swapsWithSole [cV] e pos.line X.env=pure false:=by rfl)(hw:swappedStores [cV] e X.env=pure none:=by rfl)
  (ah:(pe [cV] X.env).map (·.2)=[assign cV X.env]:=by rfl):gF X (.Assign [cV] e pos) (iH g f):=hT (aly he bg az hw ah) λD σ H ⟨aJ,aT,O,F,ai,o,r,e,k⟩=>by
 simp only[iH,cf,dR] at e;obtain⟨t,bU,ε',mP,rfl⟩:=e;refine⟨aJ,aT,O,F,ai,t,r,bU,λv aE ag x q=>?_⟩;exact⟨aJ,aT,O,aE,ai,t,ε',r.ext x,q,mP,λcj cm=>k cj aE ag x.aG cm⟩
structure rK(K:a')(J:mH)(a6:aj->Prop)(H1:aB)(ts:List T):Prop where
 go:∀i F H t,ek K a6 H1 F H->e' F H->ts[i]?=some t->J.go i H
 ph:∀i F H t x ag,ek K a6 H1 F H->e' F H->ts[i]?=some t->J.ph i H x ag->∃aE,Ext F H aE ag/\Rep K aE ag t x
 stop:∀i F H,ek K a6 H1 F H->ts.length<=i->J.stop i H
noncomputable def tI(K:a')(f:lX):TI:=λσ H R=>∃aJ aT O F ai ts,cJ K aJ aT O F H ai σ/\f ai=some ts/\∀J aE ag,Ext F H aE ag->rK K J aE ag ts->R J ag
abbrev pG(X:aY)(cV e:bt)(f:lX):Prop:=qB X cV e (tI X.K f)
def Aa{X:aY}{cV e:bt}{t t':TI}(h:qB X cV e t)(k:∀σ H R,t' σ H R->t σ H R):qB X cV e t':=λak s σ H R I q=>h ak s σ H R I (k σ H R q)
def aiH{K:a'}{a:aj}{a6:aj->Prop}{H1:aB}{ts:List T}{vs:List V}(ck:a6 a)(ay:fT H1 a (.lst vs))(q:bB K a6 H1 ts vs):rK K (EK K a) a6 H1 ts where
 go:=λi F H t aG d e=>by
  obtain⟨v,ah,_⟩:=q.get e;exact⟨vs,v,.inl (aG.lst _ _ ck ay).2,ah⟩
 ph:=λi F H t x ag aG d e y=>by
  obtain⟨rfl,y⟩:=y;obtain⟨v,ah,ar⟩:=(q.aG aG).get e;have:=y vs (.inl (aG.lst _ _ ck ay).2);rw[ah] at this;cases this;exact⟨F,Ext.refl d,ar⟩
 stop:=λi F H aG aI=>⟨vs,.inl (aG.lst _ _ ck ay).2,by rw[<- q.length];exact aI⟩
def ajK{K:a'}{a:aj}{a6:aj->Prop}{H1:aB}{ts:List T}{vs:List V}(ay:c' K H1 a vs)(q:bB K a6 H1 ts vs):rK K (EL K a) a6 H1 ts where
 go:=λi F H t aG d e=>by
  obtain⟨v,ah,_⟩:=q.get e;exact⟨vs,v,aG.tup _ _ ay,ah⟩
 ph:=λi F H t x ag aG d e y=>by
  obtain⟨rfl,y⟩:=y;obtain⟨v,ah,ar⟩:=(q.aG aG).get e;have:=y vs (aG.tup _ _ ay);rw[ah] at this;cases this;exact⟨F,Ext.refl d,ar⟩
 stop:=λi F H aG aI=>⟨vs,aG.tup _ _ ay,by rw[<- q.length];exact aI⟩
def Mw(lo aQ:Int):(km lo aQ).length=(aQ - lo).toNat:=by simp[km]
def SN{K:a'}{a6:aj->Prop}{H1:aB}(lo aQ:Int):rK K (xA lo (aQ - lo).toNat) a6 H1 (km lo aQ) where
 go:=λi F H t aG d e=>by
  have h:=(gU.mp e).1;rw[Mw] at h;exact h
 ph:=λi F H t x ag aG d e y=>by
  obtain⟨rfl,rfl⟩:=y;refine⟨F,Ext.refl d,?_⟩;have h:=(gU.mp e).1;rw[Mw] at h;unfold km at e;rw[kp,List.getElem?_range h] at e;simp at e;subst e;simp[Rep]
 stop:=λi F H aG aI=>by
  rw[Mw] at aI;exact aI
noncomputable def _E(K:a')(j0:TE):TI:=λσ H R=>j0 σ H λx H1=>∃a,x=.ref a/\(((∃xs,fi K H1 a xs)/\R (EK K a) H1)\/((∃xs,c' K H1 a xs)/\R (EL K a) H1))
def amx{cV l:bt}{j0:TE}(aI:b0 X l j0):qB X cV l (_E X.K j0):=by
 intro ak s σ H R I h;refine cH (aI ak s σ H _ I h) λv s1 hqq=>?_;obtain⟨x,H1,ba,a_,a,aw,q⟩:=hqq;subst aw;cases a_;have ct:∀b∈[s1.heap.objs.size],il X ak H1 b:=λb af=>by
  have e:b=s1.heap.objs.size:=by simpa using af
  subst e;exact ba.vQ (dy _) (ba.bF.fresh (dy _))
 rcases q with ⟨⟨xs,aX⟩,q⟩|⟨⟨xs,aX⟩,q⟩
 ·obtain⟨its,bW,p,au⟩:=ba.list aX;refine wpAny_pyIter_list p.isList ?_;exact⟨s1.heap.objs.size,[s1.heap.objs.size],_,_,H1,rfl,ba.kept (t':=s1.toks) λb o e=>cQ _ e,ah6 a _,⟨_,fx _ rfl,rfl,rfl⟩,ct,q⟩
 ·obtain⟨its,bW,p,au⟩:=ba.tuple aX;refine rg (show s1.heap.IsTuple a its.toArray from p) ?_;exact⟨s1.heap.objs.size,[s1.heap.objs.size],_,_,H1,rfl,ba.kept (t':=s1.toks) λb o e=>cQ _ e,ahj a _,⟨_,fx _ rfl,rfl,rfl⟩,ct,q⟩
def lU{cV l:bt}{f:bY}(aI:cO X l f):pG X cV l (dV f):=Aa (amx aI)<|by
 rintro σ H R ⟨aJ,aT,O,F,ai,ts,r,e,k⟩
 simp only[dV,cf] at e;obtain⟨t,bU,e⟩:=e;split at e
 ·cases e
  refine⟨aJ,aT,O,F,ai,_,r,bU,λv aE ag x q=>?_⟩
  simp only[Rep] at q;obtain⟨a,vs,rfl,az,ay⟩:=q;exact⟨a,rfl,.inr ⟨⟨vs,az⟩,k _ aE ag x (ajK az ay)⟩⟩
 ·cases e
  refine⟨aJ,aT,O,F,ai,_,r,bU,λv aE ag x q=>?_⟩
  simp only[Rep] at q;obtain⟨a,vs,rfl,ck,az,ay⟩:=q;exact⟨a,rfl,.inl ⟨⟨vs,.inl az⟩,k _ aE ag x (aiH ck az ay)⟩⟩
 ·cases e
def M3{cV a:bt}{f:bY}{p pos:Pos}(hm:X.mg "range"=none)(aA:ey X a f)(bg:dZ X "range":=by rfl)(az:a9 [a] X.env=[(false,eval a X.env)]:=by rfl)(g0:a9 [a] X.env=(false,eval a X.env)::a9 [] X.env:=by rfl):
  pG X cV (.Call (.Name "range" p) [a] [] pos) (jK f):=Aa (ain bg hm (e3 aA hb g0) az) λσ H R ⟨aJ,aT,O,F,ai,ts,r,e,k⟩=>by
 simp only[jK,cf] at e;obtain⟨t,bU,e⟩:=e;split at e
 next j=>
  split at e
  next au=>
   cases e
   refine⟨aJ,aT,O,F,ai,_,r,bU,λv aE ag x q=>⟨j,by rw[q.int],?_,?_,k _ aE ag x (by simpa using SN 0 j)⟩⟩
   ·simp[anC] at au;omega
   ·simp[anC] at au;omega
  next=>cases e
 next=>cases e
def alW{cV a b:bt}{f g:bY}{p pos:Pos}(hm:X.mg "range"=none)(aA:ey X a f)(af:ey X b g)(bg:dZ X "range":=by rfl)(az:a9 [a,b] X.env=[(false,eval a X.env),(false,eval b X.env)]:=by rfl)(g0:a9 [b] X.env=[(false,eval b X.env)]:=by rfl)
  (_b:a9 [a,b] X.env=(false,eval a X.env)::a9 [b] X.env:=by rfl) (_c:a9 [b] X.env=(false,eval b X.env)::a9 [] X.env:=by rfl):
  pG X cV (.Call (.Name "range" p) [a,b] [] pos) (xf f g):=Aa (aim bg hm (e3 aA (e3 af hb _c) _b) az g0) λσ H R ⟨aJ,aT,O,F,ai,ts,r,e,k⟩=>by
 simp only[xf,cf] at e;obtain⟨t,bU,u,gc,e⟩:=e;split at e
 next i j=>
  split at e
  next au=>
   cases e
   refine⟨aJ,aT,O,F,ai,_,r,bU,λv a6 H1 aS aP=>⟨aJ,aT,O,a6,ai,_,r.ext aS,gc,λw dr bw bN bf=>⟨i,j,by rw[aP.int,bf.int],?_,k _ dr bw (aS.trans bN) (SN i j)⟩⟩⟩
   simp[anC] at au;omega
  next=>cases e
 next=>cases e
def oh{cV iter:bt}{body:List Stmt}{it:lX}{iN:i4}{xP:bK}(aM:PassesOwn (unop%Wk 0) X.A X.env X.di)(aQ:pG X cV iter it)(bg:pF X cV iN)(af:i7 X body xP)(ax:X.calm=true:=by rfl)
  (az:∀x,wy iter X.env x=pure x:=by intro _;rfl):gF X (.For cV iter body [] pos) (ef it iN xP):=hT (alx aM ax aQ bg af az) λD σ H ⟨aJ,aT,O,F,ai,o,r,e,k⟩=>by
 simp only[ef,cf] at e;obtain⟨ts,bU,e⟩:=e;refine⟨aJ,aT,O,F,ai,ts,r,bU,λJ a6 H1 aS ok=>?_⟩;refine⟨λi m cj ag=>m=ts.length - i/\i<=ts.length/\∃aE ε' ,ek X.K a6 H1 aE ag/\cJ X.K aJ aT O aE ag ε' cj/\forL iN xP (ts.drop i) ε'=some o,⟨_,rfl,n8 _,a6,ai,ek.refl,r.ext aS,by simpa using e⟩,?_⟩;rintro i m cj ag ⟨rfl,Bl,aE,ε',aG,cm,bx⟩;by_cases d7:i<ts.length
 ·have hd:ts.drop i=ts[i]::ts.drop (i+1):=List.drop_eq_getElem_cons d7;have yb:ts[i]?=some ts[i]:=iZ d7;rw[hd] at bx;simp only[forL,cf] at bx;obtain⟨ij,mP,dK,d4,bx⟩:=bx;refine .inr ⟨ok.go i aE ag _ aG cm.cb yb,λxt bw=>∃l7,l7<ts.length - i/\(l7=ts.length - (i+1)/\i+1<=ts.length/\∃dr j8,ek X.K a6 H1 dr bw/\cJ X.K aJ aT O dr bw j8 xt/\forL iN xP (ts.drop (i+1)) j8=some o),λ_ _ z=>z,λx bw y=>?_⟩;obtain⟨dr,bN,aU⟩:=ok.ph i aE ag _ x bw aG cm.cb yb y;refine⟨aJ,aT,O,dr,ε',_,ij,cm.ext bN,aU,mP,λnx lE=>⟨aJ,aT,O,dr,ij,dK,lE,d4,?_⟩⟩;have p2:ek X.K a6 H1 dr bw:=aG.trans bN.aG;cases dK with
  |bG j8=>exact λNi pE lZ mW anP=>⟨_,by omega,rfl,d7,pE,j8,p2.trans mW,anP,bx⟩
  |cP j8=>exact λNi pE lZ mW anP=>⟨_,by omega,rfl,d7,pE,j8,p2.trans mW,anP,bx⟩
  |gI j8=>
   cases bx
   exact λNi pE lZ mW anP=>k Ni pE lZ ((aS.aG.trans p2).trans mW) anP
  |dE t=>
   cases bx
   exact k
  |lF t j8=>
   cases bx
   exact k
  |ma s=>
   cases bx
   exact k
 ·have hd:ts.drop i=[]:=List.drop_eq_nil_of_le (by omega);rw[hd] at bx;cases bx;exact .inl ⟨ok.stop i aE ag aG (by omega),k cj aE ag (aS.aG.trans aG) cm⟩
def aml(i:Nat){x:Str}{f3 apos d3:Pos}(he:cO X e f)(dw:X.N[i]?=some x:=by rfl)(bh:oB X.env.scope x:=by first|exact Or.inl rfl|exact Or.inr (Or.inl rfl)|exact Or.inr (Or.inr rfl))(hd:(x==("__debug__":Str))=false:=by decide)
  (eg:(x==("__classdict__":Str))=false:=by decide) (oR:a9 [e] X.env=(false,eval e X.env)::a9 [] X.env:=by rfl)
  (mS:j4 (.Name x f3) "append" X.env (eval (.Name x f3) X.env)=eval (.Name x f3) X.env:=by rfl)
  (qT:((c3 d3 (a9 [e] X.env)).all (λx=>!x.1) && (fP d3 (fO [] X.env)).all (λx=>x.1.isSome)
   && decide (([e]:List bt).length+([]:List Keyword).length+(if ([]:List Keyword).isEmpty then 0 else 1)<30))=true:=by rfl)
  (mT:(apos.endLine==d3.line)=true:=by rfl) (qX:(c3 d3 (a9 [] X.env)).any (·.1)=false:=by rfl)
  (oT:kr (.Call (.Attribute (.Name x f3) "append" apos) [e] [] d3) none pos.line X.env=pure false:=by rfl):
  gF X (.Expr (.Call (.Attribute (.Name x f3) "append" apos) [e] [] d3) pos) (app i f):=
 hT (zW (xm wz PySem.F.slot_list_append PySem.F.type_list_append LV (bC i dw bh hd eg) (e3 he hb oR) mS qT mT oR qX) oT) λD σ H ⟨aJ,aT,O,F,ai,o,r,e,k⟩=>by
 unfold app at e;split at e
 next ts he=>
  simp only[cf] at e;obtain⟨t,bU,e⟩:=e;split at e
  next au=>
   cases e
   obtain⟨v,ah,a,vs,rfl,n,h0,cM,ay⟩:=r.val _ _ he;refine⟨_,ah,.inl ⟨rfl,_,fi.of cM⟩,aJ,aT,O,F,ai,t,r,bU,λv aE ag x q=>?_⟩;have a_:=r.ext x;obtain⟨v1,dI,a1,uN,aw,eA,Y5,yc,nQ⟩:=a_.val _ _ he;rw[ah] at dI;cases dI;cases aw;refine⟨a,uN,v,rfl,rfl,yc,by rw[lT,<- nQ.length];exact au,?_⟩;obtain⟨aG,b_⟩:=a_.mut (s':=.own (ts++[t])) (o':=.lst (uN++[v])) he rfl ah eA h0 yc (.inl ⟨_,rfl⟩) λaG=>⟨a,_,rfl,eA,h0,dU,(nQ.aG aG).append (bB.cons (q.aG aG) bB.nil)⟩;exact k σ aE _ (x.aG.trans aG) b_
  next=>cases e
 next=>cases e
def amk(i:Nat){x:Str}{f3 apos d3:Pos}(he:ey X e f)(dw:X.N[i]?=some x:=by rfl)(bh:oB X.env.scope x:=by first|exact Or.inl rfl|exact Or.inr (Or.inl rfl)|exact Or.inr (Or.inr rfl))(hd:(x==("__debug__":Str))=false:=by decide)
  (eg:(x==("__classdict__":Str))=false:=by decide) (oR:a9 [e] X.env=(false,eval e X.env)::a9 [] X.env:=by rfl)
  (mS:j4 (.Name x f3) "extend" X.env (eval (.Name x f3) X.env)=eval (.Name x f3) X.env:=by rfl)
  (qT:((c3 d3 (a9 [e] X.env)).all (λx=>!x.1) && (fP d3 (fO [] X.env)).all (λx=>x.1.isSome)
   && decide (([e]:List bt).length+([]:List Keyword).length+(if ([]:List Keyword).isEmpty then 0 else 1)<30))=true:=by rfl)
  (mT:(apos.endLine==d3.line)=true:=by rfl) (qX:(c3 d3 (a9 [] X.env)).any (·.1)=false:=by rfl)
  (oT:kr (.Call (.Attribute (.Name x f3) "extend" apos) [e] [] d3) none pos.line X.env=pure false:=by rfl):
  gF X (.Expr (.Call (.Attribute (.Name x f3) "extend" apos) [e] [] d3) pos) (ext i f):=
 hT (zW (xm wz PySem.F.slot_list_extend PySem.F.type_list_extend ahD (bC i dw bh hd eg) (e3 he hb oR) mS qT mT oR qX) oT) λD σ H ⟨aJ,aT,O,F,ai,o,r,e,k⟩=>by
 unfold ext at e;split at e
 next ts he=>
  simp only[cf] at e;obtain⟨t,bU,e⟩:=e;split at e
  next us=>
   split at e
   next au=>
    cases e
    obtain⟨v,ah,a,vs,rfl,n,h0,cM,ay⟩:=r.val _ _ he;refine⟨_,ah,.inl ⟨rfl,_,fi.of cM⟩,aJ,aT,O,F,ai,_,r,bU,λv aE ag x q=>?_⟩;obtain⟨b,ws,rfl,af,hw⟩:=q.lst;have a_:=r.ext x;obtain⟨v1,dI,a1,uN,aw,eA,Y5,yc,nQ⟩:=a_.val _ _ he;rw[ah] at dI;cases dI;cases aw;refine⟨a,b,uN,ws,rfl,rfl,yc,af,by rw[lT,<- nQ.length,<- hw.length];exact au,?_⟩;obtain⟨aG,b_⟩:=a_.mut (s':=.own (ts++us)) (o':=.lst (uN++ws)) he rfl ah eA h0 yc (.inl ⟨_,rfl⟩) λaG=>⟨a,_,rfl,eA,h0,dU,(nQ.aG aG).append (hw.aG aG)⟩;exact k σ aE _ (x.aG.trans aG) b_
   next=>cases e
  next=>cases e
 next=>cases e
end
end
section
variable [cD]
section
variable {X:aY}{a b c e:bt}{es:List bt}{f g h:bY}{aF:List bY}{fb gt:f_}{pos p:Pos}
def kv:qA X [] []:=Ab hb<|by
 rintro σ H Q ⟨aJ,aT,O,F,ai,ts,r,e,k⟩
 cases e
 exact k [] F H (Ext.refl r.cb) .nil
def jn(aA:ey X e f)(ay:qA X es aF)(az:a9 (e::es) X.env=(false,eval e X.env)::a9 es X.env:=by rfl):qA X (e::es) (f::aF):=Ab (e3 aA ay az)<|by
 rintro σ H Q ⟨aJ,aT,O,F,ai,ts,r,e,k⟩
 simp only[args,cf,dR] at e;obtain⟨t,bU,us,gc,rfl⟩:=e;refine⟨aJ,aT,O,F,ai,t,r,bU,λv a6 H1 aS aP=>⟨aJ,aT,O,a6,ai,us,r.ext aS,gc,λvs dr bw bN bf=>?_⟩⟩;exact k _ dr bw (aS.trans bN) (.cons (aP.ext bN) bf)
def bz:nB X [] []:=Ab hb<|by
 rintro σ H Q ⟨aJ,aT,O,F,ai,ts,r,e,k⟩
 cases e
 exact k [] F H (Ext.refl r.cb) bB.nil
def aD(aA:cO X e f)(ay:nB X es aF)(az:a9 (e::es) X.env=(false,eval e X.env)::a9 es X.env:=by rfl):nB X (e::es) (f::aF):=Ab (e3 aA ay az)<|by
 rintro σ H Q ⟨aJ,aT,O,F,ai,ts,r,e,k⟩
 simp only[args,cf,dR] at e;obtain⟨t,bU,us,gc,rfl⟩:=e;refine⟨aJ,aT,O,F,ai,t,r,bU,λv a6 H1 aS aP=>⟨aJ,aT,O,a6,ai,us,r.ext aS,gc,λvs dr bw bN bf=>?_⟩⟩;exact k _ dr bw (aS.trans bN) (bB.cons (aP.ext bN) bf)
def c_{aS}(h:nB X es aF):cO X (.Tuple es aS pos) (bo aF):=eu (z3 h)<|by
 rintro σ H Q ⟨aJ,aT,O,F,ai,t,r,e,k⟩
 simp only[bo,cf] at e;obtain⟨ts,bU,e⟩:=e;split at e
 next au=>
  cases e
  refine⟨aJ,aT,O,F,ai,ts,r,bU,λvs a6 H1 aS aP=>⟨by rw[lT,<- aP.length];exact au,λp aM=>?_⟩⟩
  have bN:=Ext.laid (o:=.tup vs) aS.cb aM;refine k _ a6 _ (aS.trans bN) ?_;simp only[Rep];exact⟨p,vs,rfl,c'.of dU,aP.ext bN⟩
 next=>cases e
def xj(h:nB X es aF):an0 X (.List es pos) (eF aF):=eu (T1 h)<|by
 rintro σ H Q ⟨aJ,aT,O,F,ai,us,r,e,k⟩
 simp only[eF,cf] at e;obtain⟨ts,bU,e⟩:=e;split at e
 next au=>
  cases e
  refine⟨aJ,aT,O,F,ai,_,r,bU,λvs a6 H1 aS aP=>⟨by rw[lT,<- aP.length];exact au,λp aM=>?_⟩⟩
  have bN:=Ext.laid (o:=.lst vs) aS.cb aM;refine k p vs a6 _ (aS.trans bN) ?_ ?_ dU (aP.ext bN)
  ·exact aS.same.none aM
  ·intro ct;obtain⟨o,eH⟩:=aS.cb p ct;rw[aM] at eH;cases eH
 next=>cases e
def MR(h:nB X es aF):cO X (.List es pos) (eF aF):=PR (xj h) λai t e=>by
 simp only[eF,cf] at e;obtain⟨ts,bU,e⟩:=e;split at e
 ·cases e
  exact⟨_,rfl⟩
 ·cases e
mutual
theorem SE{F:aj->Prop}{ak:List (aj×Obj)}{σ:bu.St}{H:aB}{s:aH}(I:Inv X ak σ H s):∀{t:T} {v:V} {u:ao},Rep X.K F H t v->RelV v u->∃as,Reads s.heap u t as
|.none,v,u,h,r=>by
  simp only[Rep] at h;subst h;cases r;exact⟨_,.none⟩
|.bool b,v,u,h,r=>by
  simp only[Rep] at h;subst h;cases r;exact⟨_,.bool b⟩
|.int i,v,u,h,r=>by
  simp only[Rep] at h;subst h;obtain⟨t,rfl⟩:=r;exact⟨_,.int i t⟩
|.str x,v,u,h,r=>by
  simp only[Rep] at h;subst h;obtain⟨t,rfl⟩:=r;exact⟨_,.str x t⟩
|.dict _,v,u,h,r=>by simp[Rep] at h
|.tuple ts,v,u,h,r=>by
  simp only[Rep] at h;obtain⟨a,vs,rfl,az,ay⟩:=h;cases r;obtain⟨its,bW,⟨o,ah,ar,n,bk⟩,au⟩:=I.tuple az;obtain⟨as,jC⟩:=DL I ay bW;exact⟨_,.tuple ah ar bk (by simpa using jC)⟩
|.list ts,v,u,h,r=>by
  simp only[Rep] at h;obtain⟨a,vs,rfl,ck,az,ay⟩:=h;cases r;obtain⟨z,its,n,bW,aI,e⟩:=Inv.v8 I az;obtain⟨as,jC⟩:=DL I ay bW;exact⟨_,.list e rfl rfl (by simpa using jC)⟩
theorem DL{F:aj->Prop}{ak:List (aj×Obj)}{σ:bu.St}{H:aB}{s:aH}(I:Inv X ak σ H s):∀{ts:List T} {vs:List V} {us:List ao},bB X.K F H ts vs->Vals vs us->∃as,ReadsAll s.heap us ts as
| [],vs,us,h,r=>by
  simp only[bB] at h;subst h;cases r;exact⟨_,.nil⟩
|t::ts,vs,us,h,r=>by
  simp only[bB] at h;obtain⟨v,KU,rfl,ah,ar⟩:=h;cases r with
  |cons a_ b_=>
   obtain⟨as,aP⟩:=SE I ah a_;obtain⟨bs,bf⟩:=DL I ar b_;exact⟨_,.cons aP bf⟩
end
def nk{O F:aj->Prop}{ak:List (aj×Obj)}{σ:bu.St}{H:aB}{s:aH}(I:Inv X ak σ H s){t:T}{v:V}{u:ao}(h:gq X.K O F H t v)(r:RelV v u):∃as,Reads s.heap u t as:=by
 rcases h with h|⟨ts,a,vs,rfl,rfl,aA,h⟩
 ·exact SE I h r
 ·cases r
  obtain⟨z,its,n,bW,aI,e⟩:=Inv.v8 I (.inl aA);obtain⟨as,jC⟩:=DL I h bW;exact⟨_,.list e rfl rfl (by simpa using jC)⟩
def te{t:T}(h:fe t=true):t.canLay0=true/\t.depth<=60:=by
 simp only[fe,gV,decide_eq_true_eq] at h;exact h
def MX{t:List T}(h:lB t=true):hP t=true/\fM t<=60:=by
 simp only[lB,gV,decide_eq_true_eq] at h;exact h
noncomputable def Ei(K:a')(n:Bool):gG:=λx y H Q=>∃(O F:aj->Prop) (s t:T),gq K O F H s x/\gq K O F H t y/\fe s=true/\fe t=true/\Q (.b5 (if n then !PyData.eqv s t else f6 s t)) H
def MU(b1:X.A.units+64<cLine):eU X (i2 .Eq) (Ei X.K false):=by
 intro ak s σ H x y v u Q I aU bD ⟨O,F,d,t,ah,ar,dK,en,q⟩;obtain⟨as,jC⟩:=nk I ah aU;obtain⟨bs,e8⟩:=nk I ar bD;obtain⟨cT,cw⟩:=te dK;obtain⟨dp,cE⟩:=te en;refine SeqAt.compareEq_reads jC e8 cT dp (by have:=Nat.min_le_left d.depth t.depth;omega) ?_;exact⟨.b5 _,H,I,rfl,q⟩
def xb(b1:X.A.units+64<cLine):eU X (i2 .NotEq) (Ei X.K true):=by
 intro ak s σ H x y v u Q I aU bD ⟨O,F,d,t,ah,ar,dK,en,q⟩;obtain⟨as,jC⟩:=nk I ah aU;obtain⟨bs,e8⟩:=nk I ar bD;obtain⟨cT,cw⟩:=te dK;obtain⟨dp,cE⟩:=te en;refine SeqAt.compareNe_reads jC e8 cT dp (by have:=Nat.min_le_left d.depth t.depth;omega) ?_;exact⟨.b5 _,H,I,rfl,q⟩
def ti{op:CmpOp}{R:gG}{o:T->T->Option T}(aK:eU X (i2 op) R)(ar:nA X.K o R)(aA:ey X a f)(af:ey X b g)(hm:qf op b=false:=by first|exact Ee _|rfl):cO X (.Compare a [op] [b] pos) (aq o f g):=eu (akv aK aA af hm) (rv ar)
def hc{op:CmpOp}{R:gG}{o:T->T->Option T}(aK:eU X (i2 op) R)(ar:nA X.K o R)(aA:ey X a f)(af:ey X b g)(hm:qf op b=false:=by first|exact Ee _|rfl):kB X (.Compare a [op] [b] pos) (bO (aq o f g)):=
 vn (My aK aA af hm) λσ H Q ⟨aJ,aT,O,F,ai,b,r,e,k⟩=>by
 simp only[bO,cf] at e;obtain⟨t,bU,e⟩:=e;split at e
 ·cases e
  refine rv ar σ H _ ⟨aJ,aT,O,F,ai,_,r,bU,λv aE ag x q=>?_⟩
  simp only[Rep] at q;exact⟨_,q,k aE ag x⟩
 ·cases e
def MW:nA X.K oEq (Ei X.K false):=by
  intro O F H x y t jh ji Q d aU bD e k;unfold oEq at e;split at e
  next au=>
   cases e
   rw[gV] at au;exact⟨O,F,x,y,aU,bD,au.1,au.2,k _ F H (Ext.refl d) (by simp[Rep])⟩
  next=>cases e
def xc:nA X.K h5 (Ei X.K true):=by
  intro O F H x y t jh ji Q d aU bD e k;unfold h5 at e;split at e
  next au=>
   cases e
   rw[gV] at au;exact⟨O,F,x,y,aU,bD,au.1,au.2,k _ F H (Ext.refl d) (by simp[Rep])⟩
  next=>cases e
noncomputable def Kk(K:a')(n:Bool):gG:=λx y H Q=>∃(O F:aj->Prop) (s:T) (ts:List T),gq K O F H s x/\(gq K O F H (.tuple ts) y\/gq K O F H (.list ts) y)/\fe s=true/\lB ts=true/\Q (.b5 (if n then !ly s ts else ly s ts)) H
def z6(b1:X.A.units+64<cLine):eU X (i2 .In) (Kk X.K false):=by
 intro ak s σ H x y v u Q I aU bD ⟨O,F,d,ts,ah,ar,dK,en,q⟩;obtain⟨as,jC⟩:=nk I ah aU;obtain⟨cT,cw⟩:=te dK;obtain⟨dp,cE⟩:=MX en;have hm:=Nat.min_le_left (fM ts) d.depth;rcases ar with ar|ar
 ·obtain⟨bs,e8⟩:=nk I ar bD;exact SeqAt.in_tuple_reads e8 jC dp cT (by omega) ⟨.b5 _,H,I,rfl,q⟩
 ·obtain⟨bs,e8⟩:=nk I ar bD;exact SeqAt.in_list_reads e8 jC dp cT (by omega) ⟨.b5 _,H,I,rfl,q⟩
def u6(b1:X.A.units+64<cLine):eU X (i2 .NotIn) (Kk X.K true):=by
 intro ak s σ H x y v u Q I aU bD ⟨O,F,d,ts,ah,ar,dK,en,q⟩;obtain⟨as,jC⟩:=nk I ah aU;obtain⟨cT,cw⟩:=te dK;obtain⟨dp,cE⟩:=MX en;have hm:=Nat.min_le_left (fM ts) d.depth;rcases ar with ar|ar
 ·obtain⟨bs,e8⟩:=nk I ar bD;exact SeqAt.notIn_tuple_reads e8 jC dp cT (by omega) ⟨.b5 _,H,I,rfl,q⟩
 ·obtain⟨bs,e8⟩:=nk I ar bD;exact SeqAt.notIn_list_reads e8 jC dp cT (by omega) ⟨.b5 _,H,I,rfl,q⟩
def og{n:Bool}:nA X.K (fc n) (Kk X.K n):=by
 intro O F H x y t jh ji Q d aU bD e k;unfold fc at e;split at e
 ·split at e
  next au=>
   cases e
   rw[gV] at au;exact⟨O,F,x,_,aU,.inl bD,au.1,au.2,k _ F H (Ext.refl d) (by simp[Rep])⟩
  next=>cases e
 ·split at e
  next au=>
   cases e
   rw[gV] at au;exact⟨O,F,x,_,aU,.inr bD,au.1,au.2,k _ F H (Ext.refl d) (by simp[Rep])⟩
  next=>cases e
 ·cases e
def z7:nA X.K oLt (λx y H Q=>nX (λi j=>.b5 (decide (i<j))) x y H Q\/∃i j,x=.str i/\y=.str j/\Q (.b5 (decide (i.cps.toList<j.cps.toList))) H):=by
  intro O F H x y t jh ji Q d aU bD e k;unfold oLt at e;split at e
  ·cases e
   rw[aU.int,bD.int];exact .inl ⟨_,_,rfl,rfl,k _ F H (Ext.refl d) (by simp[Rep])⟩
  ·cases e
   rw[aU.str,bD.str];exact .inr ⟨_,_,rfl,rfl,k _ F H (Ext.refl d) (by simp[Rep,iC])⟩
  ·cases e
def LS:eU X (i2 .LtE) (λx y H Q=>∃i j,x=.str i/\y=.str j/\Q (.b5 (!iC j i)) H):=by
 intro ak s σ H x y v u Q I aU bD ⟨i,j,aw,aN,q⟩;subst aw aN;obtain⟨t,rfl⟩:=aU;obtain⟨t',rfl⟩:=bD;exact PySem.P.le_str (jL I q (by simp[iC]))
def R0:eU X (i2 .GtE) (λx y H Q=>∃i j,x=.str i/\y=.str j/\Q (.b5 (!iC i j)) H):=by
 intro ak s σ H x y v u Q I aU bD ⟨i,j,aw,aN,q⟩;subst aw aN;obtain⟨t,rfl⟩:=aU;obtain⟨t',rfl⟩:=bD;exact PySem.P.ge_str (jL I q (by simp[iC]))
def DP:eU X (i2 .Gt) (λx y H Q=>∃i j,x=.str i/\y=.str j/\Q (.b5 (iC j i)) H):=by
 intro ak s σ H x y v u Q I aU bD ⟨i,j,aw,aN,q⟩;subst aw aN;obtain⟨t,rfl⟩:=aU;obtain⟨t',rfl⟩:=bD;exact PySem.P.gt_str (jL I q (by simp[iC]))
def MV:nA X.K oLe (λx y H Q=>nX (λi j=>.b5 (decide (i<=j))) x y H Q\/∃i j,x=.str i/\y=.str j/\Q (.b5 (!iC j i)) H):=by
 intro O F H x y t jh ji Q d aU bD e k;unfold oLe at e;split at e
 ·cases e
  rw[aU.int,bD.int];exact .inl ⟨_,_,rfl,rfl,k _ F H (Ext.refl d) (by simp[Rep])⟩
 ·cases e
  rw[aU.str,bD.str];exact .inr ⟨_,_,rfl,rfl,k _ F H (Ext.refl d) (by simp[Rep])⟩
 ·cases e
def Ed:nA X.K jA (λx y H Q=>nX (λi j=>.b5 (decide (j<i))) x y H Q\/∃i j,x=.str i/\y=.str j/\Q (.b5 (iC j i)) H):=by
 intro O F H x y t jh ji Q d aU bD e k;unfold jA at e;split at e
 ·cases e
  rw[aU.int,bD.int];exact .inl ⟨_,_,rfl,rfl,k _ F H (Ext.refl d) (by simp[Rep])⟩
 ·cases e
  rw[aU.str,bD.str];exact .inr ⟨_,_,rfl,rfl,k _ F H (Ext.refl d) (by simp[Rep])⟩
 ·cases e
def T4:nA X.K sx (λx y H Q=>nX (λi j=>.b5 (decide (j<=i))) x y H Q\/∃i j,x=.str i/\y=.str j/\Q (.b5 (!iC i j)) H):=by
 intro O F H x y t jh ji Q d aU bD e k;unfold sx at e;split at e
 ·cases e
  rw[aU.int,bD.int];exact .inl ⟨_,_,rfl,rfl,k _ F H (Ext.refl d) (by simp[Rep])⟩
 ·cases e
  rw[aU.str,bD.str];exact .inr ⟨_,_,rfl,rfl,k _ F H (Ext.refl d) (by simp[Rep])⟩
 ·cases e
def Ej(aA:ey X a f):cO X (.UnaryOp .USub a pos) (cX hp f):=eu (Uw TM aA)<|by
 rintro σ H Q ⟨aJ,aT,O,F,ai,t,r,e,k⟩
 simp only[cX,cf] at e;obtain⟨x,ex,e⟩:=e;unfold hp at e;split at e
 ·cases e
  exact⟨aJ,aT,O,F,ai,_,r,ex,λv a6 H1 aS aU=>⟨_,aU.int,k _ a6 H1 aS (by simp[Rep])⟩⟩
 ·cases e
noncomputable def V1(K:a')(o:List T->Option T)(R:List V->aB->c0->Prop):Prop:=
 ∀(O F:aj->Prop) (H:aB) (ts:List T) (t:T) (vs:List V) (Q:c0),e' F H->Paired (gq K O F H) ts vs->o ts=some t ->
  (∀v aE ag,Ext F H aE ag->Rep K aE ag t v->Q v ag)->R vs H Q
def w2{o:List T->Option T}{R:List V->aB->c0->Prop}(iP:V1 X.K o R):∀σ H Q,y8 X.K (a3 o aF) σ H Q->CD R (Qq X.K aF) σ H Q:=by
 rintro σ H Q ⟨aJ,aT,O,F,ai,t,r,e,k⟩;simp only[a3,cf] at e;obtain⟨ts,bU,eH⟩:=e;exact⟨aJ,aT,O,F,ai,ts,r,bU,λvs a6 H1 aS q=>iP O a6 H1 ts t vs Q aS.cb q eH λv aE ag g_ dc=>k v aE ag (aS.trans g_) dc⟩
def Ek(hm:X.mg "len"=none)(aA:qA X (e::es) aF)(bg:dZ X "len":=by rfl)(he:a9 (e::es) X.env=(false,eval e X.env)::a9 es X.env:=by rfl)(hpl:(unop%Wu 0).any (·.1)=false:=by rfl):
  cO X (.Call (.Name "len" p) (e::es) [] pos) (a3 iw aF):=eu (wU (agJ.or agI) bg hm PySem.boot_len aA (he:=he) (hpl:=hpl)) (w2 (by
 intro O F H ts t vs Q d q e k;unfold iw at e;split at e
 ·cases e
  cases q with
  |cons aP bf=>
   cases bf
   obtain⟨a,ws,rfl,az,ay⟩:=aP.tup;exact .inl ⟨a,ws,rfl,.inr az,k _ F H (Ext.refl d) (by simp[Rep,ay.length])⟩
 ·cases e
  cases q with
  |cons aP bf=>
   cases bf
   obtain⟨a,ws,rfl,az,ay⟩:=aP.lst;exact .inl ⟨a,ws,rfl,.inl (.inl az),k _ F H (Ext.refl d) (by simp[Rep,ay.length])⟩
 ·split at e
  next au=>
   cases e
   cases q with
   |cons aP bf=>
    cases bf
    exact .inr ⟨_,by rw[aP.str],by rw[lT];exact au,k _ F H (Ext.refl d) (by simp[Rep])⟩
  next=>cases e
 ·cases e))
def amv(hm:X.mg "min"=none)(aA:qA X (e::es) aF)(ax:X.calm=true:=by rfl)(bg:dZ X "min":=by rfl)(he:a9 (e::es) X.env=(false,eval e X.env)::a9 es X.env:=by rfl)(hpl:(unop%Wu 0).any (·.1)=false:=by rfl):
  cO X (.Call (.Name "min" p) (e::es) [] pos) (a3 oZ aF):=eu (wU (ai0 ax) bg hm (by decide +kernel) aA (he:=he) (hpl:=hpl)) (w2 (by
 intro O F H ts t vs Q d q e k;unfold oZ at e;split at e
 ·cases e
  cases q with
  |cons aP bf=>
   cases bf with
   |cons bf dc=>
    cases dc
    exact⟨_,_,by rw[aP.int,bf.int],k _ F H (Ext.refl d) (by simp[Rep])⟩
 ·cases e))
def Ut(hm:X.mg "max"=none)(aA:qA X (e::es) aF)(ax:X.calm=true:=by rfl)(bg:dZ X "max":=by rfl)(he:a9 (e::es) X.env=(false,eval e X.env)::a9 es X.env:=by rfl)(hpl:(unop%Wu 0).any (·.1)=false:=by rfl):
  cO X (.Call (.Name "max" p) (e::es) [] pos) (a3 nV aF):=eu (wU (ai2 ax) bg hm (by decide +kernel) aA (he:=he) (hpl:=hpl)) (w2 (by
 intro O F H ts t vs Q d q e k;unfold nV at e;split at e
 ·cases e
  cases q with
  |cons aP bf=>
   cases bf with
   |cons bf dc=>
    cases dc
    exact⟨_,_,by rw[aP.int,bf.int],k _ F H (Ext.refl d) (by simp[Rep])⟩
 ·cases e))
def sY(hm:X.mg "tuple"=none)(aA:qA X (e::es) aF)(bg:dZ X "tuple":=by rfl)(he:a9 (e::es) X.env=(false,eval e X.env)::a9 es X.env:=by rfl)(hpl:(unop%Wu 0).any (·.1)=false:=by rfl):
  cO X (.Call (.Name "tuple" p) (e::es) [] pos) (a3 hy aF):=eu (DO agh bg hm (by decide +kernel) aA (he:=he) (hpl:=hpl)) (w2 (by
 intro O F H ts t vs Q d q e k;unfold hy at e;split at e
 ·cases e
  cases q with
  |cons aP bf=>
   cases bf
   obtain⟨a,ws,rfl,az,ay⟩:=aP.tup;refine⟨a,ws,rfl,.inr ⟨az,k _ F H (Ext.refl d) ?_⟩⟩;simp only[Rep];exact⟨a,ws,rfl,az,ay⟩
 ·cases e
  cases q with
  |cons aP bf=>
   cases bf
   obtain⟨a,ws,rfl,az,ay⟩:=aP.lst;refine⟨a,ws,rfl,.inl ⟨.inl az,λl aI=>?_⟩⟩;have aS:=Ext.laid (o:=.tup ws) d aI;refine k _ F _ aS ?_;simp only[Rep];exact⟨l,ws,rfl,c'.of dU,ay.ext aS⟩
 ·cases e))
def aln(hm:X.mg "int"=none)(aA:qA X (e::es) aF)(bg:dZ X "int":=by rfl)(he:a9 (e::es) X.env=(false,eval e X.env)::a9 es X.env:=by rfl)(hpl:(unop%Wu 0).any (·.1)=false:=by rfl):
  cO X (.Call (.Name "int" p) (e::es) [] pos) (a3 q4 aF):=eu (DO ai3 bg hm (by decide +kernel) aA (he:=he) (hpl:=hpl)) (w2 (by
 intro O F H ts t vs Q d q e k;unfold q4 at e;split at e
 ·cases e
  cases q with
  |cons aP bf=>
   cases bf
   exact .inl ⟨_,by rw[aP.int],k _ F H (Ext.refl d) (by simp[Rep])⟩
 ·cases e
  cases q with
  |cons aP bf=>
   cases bf
   exact .inr ⟨_,by rw[aP.b5],k _ F H (Ext.refl d) (by simp[Rep])⟩
 ·cases e))
def MM(h:ey X e f)(he:∀whole,isTrue e X.env whole=(do let v <- whole;standAt e.pos;holding [v] (truthy v)):=by intro _;rfl):kB X e (bO f):=vn (TX h he)<|by
 rintro σ H Q ⟨aJ,aT,O,F,ai,b,r,e,k⟩
 simp only[bO,cf] at e;obtain⟨t,bU,e⟩:=e;split at e
 ·cases e
  exact⟨aJ,aT,O,F,ai,_,r,bU,λv a6 H1 aS aU=>⟨_,aU.b5,k a6 H1 aS⟩⟩
 ·cases e
def Ae{j pos'}(aA:ey X a f):kB X (.Compare a [.Is] [.Constant .none j pos'] pos) (bO (cX g5 f)):=vn (TY (alE aA))<|by
 rintro σ H Q ⟨aJ,aT,O,F,ai,t,r,e,k⟩
 simp only[bO,cX,g5,cf] at e;obtain⟨_,⟨x,ex,aw⟩,e⟩:=e;cases aw;cases e;refine⟨aJ,aT,O,F,ai,x,r,ex,λv a6 H1 aS aU=>⟨_,?_,k a6 H1 aS⟩⟩;cases x with
|none=>rw[aU.d1];simp
|bool b=>rw[aU.b5];simp
|int b=>rw[aU.int];simp
|str b=>rw[aU.str];simp
|tuple b=>obtain⟨_,_,e,_⟩:=aU.tup;rw[e];simp
|list b=>obtain⟨_,_,e,_⟩:=aU.lst;rw[e];simp
|dict b=>rcases aU with aU|⟨_,_,_,z,_⟩;simp[Rep] at aU;cases z
def ak_{j pos'}(aA:ey X a f):kB X (.Compare a [.IsNot] [.Constant .none j pos'] pos) (bO (cX gE f)):=vn (TY (akx aA))<|by
 rintro σ H Q ⟨aJ,aT,O,F,ai,t,r,e,k⟩
 simp only[bO,cX,gE,cf] at e;obtain⟨_,⟨x,ex,aw⟩,e⟩:=e;cases aw;cases e;refine⟨aJ,aT,O,F,ai,x,r,ex,λv a6 H1 aS aU=>⟨_,?_,k a6 H1 aS⟩⟩;cases x with
|none=>rw[aU.d1];simp
|bool b=>rw[aU.b5];simp
|int b=>rw[aU.int];simp
|str b=>rw[aU.str];simp
|tuple b=>obtain⟨_,_,e,_⟩:=aU.tup;rw[e];simp
|list b=>obtain⟨_,_,e,_⟩:=aU.lst;rw[e];simp
|dict b=>rcases aU with aU|⟨_,_,_,z,_⟩;simp[Rep] at aU;cases z
def ML(h:ey X e f)(he:∀whole,isTrue e X.env whole=(do let v <- whole;standAt e.pos;holding [v] (truthy v)):=by intro _;rfl):kB X e (gT f):=vn (ajn h he)<|by
 rintro σ H Q ⟨aJ,aT,O,F,ai,b,r,e,k⟩
 simp only[gT,cf] at e;obtain⟨t,bU,e⟩:=e;have emp:∀{ts:List T} {vs:List V} {a6:aj->Prop} {H1:aB},bB X.K a6 H1 ts vs->ts.isEmpty=vs.isEmpty:=λ{ts vs a6 H1} q=>by
  have:=q.length;cases ts <;> cases vs <;> simp_all
 split at e
 ·cases e
  refine⟨aJ,aT,O,F,ai,_,r,bU,λv a6 H1 aS aU=>?_⟩
  obtain⟨a,vs,rfl,az,ay⟩:=aU.lst;exact⟨_,.inl ⟨vs,.inl az,by rw[emp ay]⟩,k a6 H1 aS⟩
 ·cases e
  refine⟨aJ,aT,O,F,ai,_,r,bU,λv a6 H1 aS aU=>?_⟩
  obtain⟨a,vs,rfl,az,ay⟩:=aU.tup;exact⟨_,.inr (.inl ⟨vs,az,by rw[emp ay]⟩),k a6 H1 aS⟩
 ·cases e
def Um(h:kB X e fb):kB X (.UnaryOp .Not e pos) (gP fb):=vn (alv h)<|by
 rintro σ H Q ⟨aJ,aT,O,F,ai,b,r,e,k⟩
 simp only[gP,dR] at e;obtain⟨c,fa,rfl⟩:=e;exact⟨aJ,aT,O,F,ai,c,r,fa,λa6 H1 aS=>k a6 H1 aS⟩
def zZ(h:kB X e fb):tJ X (.BoolOp .And [e] pos) fb:=Ta h
def Ac(h:kB X e fb):tJ X (.BoolOp .Or [e] pos) fb:=alr h
def Ad(h:kB X a fb)(ar:tJ X (.BoolOp .And (b::es) pos) gt):tJ X (.BoolOp .And (a::b::es) pos) (fk fb gt):=Ui (TV h ar)<|by
 rintro σ H Q ⟨aJ,aT,O,F,ai,b,r,e,k⟩
 simp only[fk,cf] at e;obtain⟨c,fa,e⟩:=e;refine⟨aJ,aT,O,F,ai,c,r,fa,λa6 H1 aS=>?_⟩;cases c with
|true=>exact so ⟨aJ,aT,O,a6,ai,b,r.ext aS,by simpa using e,λdr bw bN=>k dr bw (aS.trans bN)⟩
|false=>
  have:b=false:=by simpa using e.symm
  subst this;exact v7 (k a6 H1 aS)
def w_or(h:kB X a fb)(ar:tJ X (.BoolOp .Or (b::es) pos) gt):tJ X (.BoolOp .Or (a::b::es) pos) (gR fb gt):=Ui (amw h ar)<|by
 rintro σ H Q ⟨aJ,aT,O,F,ai,b,r,e,k⟩
 simp only[gR,cf] at e;obtain⟨c,fa,e⟩:=e;refine⟨aJ,aT,O,F,ai,c,r,fa,λa6 H1 aS=>?_⟩;cases c with
|true=>
  have:b=true:=by simpa using e.symm
  subst this;exact so (k a6 H1 aS)
|false=>exact v7 ⟨aJ,aT,O,a6,ai,b,r.ext aS,by simpa using e,λdr bw bN=>k dr bw (aS.trans bN)⟩
def qa(h:tJ X e fb):kB X e fb:=h.pt
end
end
section
variable [cD]
noncomputable def spT(K:a')(n:Nat)(d:List T->Option T):kD:=λvs H Q _=>vs.length=n/\∃F ts t,e' F H/\bB K F H ts vs/\d ts=some t/\∀v aE ag,Ext F H aE ag->Rep K aE ag t v->Q v ag
section
variable {X:aY}{k n:Nat}{ck:aj}{fd:er}{ps:List Str}{d:List T->Option T}{x:Str}{p pos:Pos}{e:bt}{es:List bt}{aF:List bY}
def alq(F:eY X.prog X.w X.K X.mg X.base dC k ck fd ps (spT X.K n d))(ay:c9 k X.A)(bg:dZ X x)(hm:X.mg x=some (.ref ck))(aL:m8 X.K (.ref ck)=true)(af:f7 X.K fd ps [])
  (aA:nB X (e::es) aF) (bc:aF.length=n:=by rfl) (fD:(x==("__debug__":Str))=false:=by decide) (he:a9 (e::es) X.env=(false,eval e X.env)::a9 es X.env:=by rfl) (hpl:(unop%Wu 0).any (·.1)=false:=by rfl):
  cO X (unop%Wz 0) (a3 d aF):=eu (Mz F ay bg hm aL af .nil vp aA fD he hpl) λσ H Q ⟨aJ,aT,O,F,ai,t,r,e,k⟩=>by
 simp only[a3,cf] at e;obtain⟨ts,bU,gw⟩:=e;have aI:∀(gd:List bY) (us:List T),args gd ai=some us->us.length=gd.length:=by
  intro gd
  induction gd with
  |nil=>intro us e;cases e;rfl
  |cons g gd bM=>
   intro us e;simp only[args,cf,dR] at e;obtain⟨t,_,vs,ev,rfl⟩:=e;simp[bM vs ev]
 refine⟨aJ,aT,O,F,ai,ts,r,bU,λvs a6 H1 aS q=>⟨?_,a6,ts,t,aS.cb,by simpa using q,gw,λv aE ag bN bf=>k v aE ag (aS.trans bN) bf⟩⟩
 rw[lO,<- q.length,aI aF ts bU,bc]
end
section
variable {P:cu}{w:b8}{K:a'}{mg:Str->Option ao}{base:bL}
def LH{F:aj->Prop}{H:aB}{ts:List T}{vs:List V}{N:List Str}(cb:e' F H)(q:bB K F H ts vs)(n:Nat):
  cJ K F ⟨H,0⟩ (λa=>H a=none) F H ((ts.map λt=>some (.aa t))++d5 n none) (vs.map some++d5 n none):=by
 have aa:∀(i:Nat) (s:aR),((ts.map λt=>some (aR.aa t))++d5 n none)[i]?=some (some s)->∃t,s=.aa t/\ts[i]?=some t:=by
  intro i s e;by_cases aQ:i<ts.length
  ·rw[wo (by simpa using aQ),kp] at e;rw[iZ aQ] at e ⊢;simp at e;exact⟨_,e.symm,rfl⟩
  ·rw[wm (by simpa using aQ),List.getElem?_replicate] at e;split at e <;> cases e
 refine⟨by simp[q.length],λi s e=>?_,λi j s u v w kg aw aN dK=>?_,Ext.refl cb,λ_ h=>h,λ_ h=>h⟩
 ·obtain⟨t,rfl,bp⟩:=aa i s e;obtain⟨v,bh,bW⟩:=q.get bp;refine⟨v,?_,bW⟩;rw[wo (by have:=(gU.mp bh).1;simpa using this),kp,bh];rfl
 ·obtain⟨t,rfl,_⟩:=aa i s aw;cases dK
def alY{x qual:Str}{st:Stmt}{f:aj}{fd:er}{N ps:List Str}{k:Nat}{b:bK}(F:cK K x qual st f fd)(S:cW N ps (bQ st))
  (af:∀(b3:ao) (A:cp) (outer:List Env) (s:aH) (H:aB) (E:e5),c9 k (unop%W5 0) ->
   i7 (unop%W3 0).d9 (fh st) b):
  eY P w K mg base dC (k+1) f fd ps (spT K ps.length (c5 b N.length)):=by
 refine F.ok S (λvs H Q E h=>h.1) λb3 A outer s H vs Q E ay h=>⟨_,af b3 A outer s H E ay,?_⟩
 obtain⟨aI,F,ts,t,cb,q,e,iU⟩:=h;simp only[c5,cf] at e;obtain⟨o,eH,e⟩:=e;refine⟨F,⟨H,0⟩,λa=>H a=none,F,_,o,?_,eH,?_⟩
 ·have:=LH (N:=N) cb q (N.length - ts.length);unfold bu.start;rw[q.length] at this ⊢;exact this
 ·cases o with
  |dE t'=>
   cases e
   exact λv aE ag x q=>iU v aE ag x q
  |bG ε'=>
   cases e
   exact λcj aE ag _ r=>iU _ aE ag r.ent (by simp[Rep])
  |gI _=>cases e
  |cP _=>cases e
  |lF _ _=>cases e
  |ma _=>cases e
def aiP{f:aj}{fd:er}{ps:List Str}{k n:Nat}:eY P w K mg base dC k f fd ps (spT K n λ_=>none):=by
 have no:∀vs H Q E,¬spT K n (λ_=>none) vs H Q E:=λvs H Q E h=>by
  obtain⟨_,_,_,_,_,_,e,_⟩:=h;cases e
 exact⟨λvs H Q E h=>absurd h (no vs H Q E),λA outer s H args us vs Q E _ _ _ _ h=>absurd h (no vs H Q E)⟩
end
end
section
variable [cD]
noncomputable def f'(env:Env):List (Str×nh)->List (Str×aj)->List (Str×aj)
| [],cs=>cs
|x::r,cs=>if x.2==.free then f' env r ((x.1,(env.cells.lookup x.1).getD 0)::cs) else f' env r cs
def Dn{scope:Scope}{env:Env}(h:∀x∈scope.names,x.2=.free->∃c,env.cells.lookup x.1=some c):closureFor scope env=pure (f' env scope.names []):=by
 have go:∀(l:List (Str×nh)) (cs:List (Str×aj)),(∀x∈l,x.2=.free->∃c,env.cells.lookup x.1=some c) ->
   (forIn l cs (λx r=>(if (x.2==NameKind.free)=true then do let a <- cellOf env x.1;pure (ForInStep.yield ((x.1,a)::r)) else pure (ForInStep.yield r)):_->_->Sem (ForInStep (List (Str×aj)))):Sem (List (Str×aj)))=pure (f' env l cs):=by
  intro l
  induction l with
  |nil=>intro cs _;rfl
  |cons x r bM=>
   intro cs aI;rw[List.forIn_cons];have ay:=λy a7=>aI y (dF _ a7);by_cases k:x.2=.free
   ·obtain⟨c,ax⟩:=aI x fg k;have aw:(x.2==NameKind.free)=true:=by simp[k]
    simp only[aw,if_true,cellOf,ax,f',Option.getD_some];exact bM _ ay
   ·have aw:(x.2==NameKind.free)=false:=by simpa using k
    simp only[aw,lN,if_false,f'];exact bM _ ay
 have:=go scope.names [] h;simp only[closureFor];exact congrArg (λm=>m >>= λcs=>pure cs) this
theorem wN{env:Env}:∀{l:List (Str×nh)} {cs:List (Str×aj)},(∀x∈l,x.2=.free->∃c,env.cells.lookup x.1=some c)->(∀x c,cs.lookup x=some c->env.cells.lookup x=some c)->∀x c,(f' env l cs).lookup x=some c->env.cells.lookup x=some c
| [],cs,_,h,x,c,e=>h x c e
|y::r,cs,aI,h,x,c,e=>by
  unfold f' at e;have ay:=λz au=>aI z (dF _ au);split at e
  next k=>
   refine wN ay (λx c e=>?_) x c e
   rw[n5] at e;split at e
   next af=>
    obtain⟨bZ,ax⟩:=aI y fg (by simpa using k);have:x=y.1:=by simpa using af
    subst this;rw[ax] at e ⊢;simpa using e
   next=>exact h x c e
  next=>exact wN ay h x c e
theorem sX{env:Env}:∀{l:List (Str×nh)} {cs:List (Str×aj)} {x:Str},((∃y∈l,y.2=.free/\y.1=x)\/∃c,cs.lookup x=some c)->∃c,(f' env l cs).lookup x=some c
| [],cs,x,h=>by
  rcases h with ⟨y,a7,_⟩|h
  ·cases a7
  ·exact h
|y::r,cs,x,h=>by
  unfold f';split
  next k=>
   refine sX ?_
   rcases h with ⟨z,au,iT,e⟩|⟨c,h⟩
   ·rcases cN.mp au with rfl|au
    ·refine .inr ?_
     subst e;rw[n5];simp
    ·exact .inl ⟨z,au,iT,e⟩
   ·refine .inr ?_
    rw[n5];split
    ·exact⟨_,rfl⟩
    ·exact⟨c,h⟩
  next k=>
   refine sX ?_
   rcases h with ⟨z,au,iT,e⟩|h
   ·rcases cN.mp au with rfl|au
    ·exact absurd (by simpa using iT) k
    ·exact .inl ⟨z,au,iT,e⟩
   ·exact .inr h
noncomputable def jM(X:aY)(xD:List Str)(scope:Scope)(cl:List (Str×aj))(C:aj)(dm:aH)(aT:aB)(ct:List aj)(du:List (aj×Obj)):aY where
 prog:=X.prog
 w:=X.w
 K:=X.K
 mg:=X.mg
 base:=X.base
 A:=X.A
 N:=xD
 dm:=dm
 aT:=aT
 env:=compEnvC scope cl C X.env
 outer:=X.stack
 stack:=X.stack
 ex:=ct
 fn:=λ_=>false
 calm:=X.calm
 du:=du
 di:=λ_ _=>False
noncomputable def an1(X:aY)(ifs:List bt)(cc:f_):Prop:=∀(ak:List (aj×Obj)) (s:aH) (σ:bu.St) (H:aB) (Q:Bool->aB->Prop),bu.Inv X ak σ H s->KD X.K cc σ H Q ->
 a0 (unop%Wk 0) X.A (forIn ifs true λc r=>if r=true then do let ok <- isTrue c X.env (eval c X.env);pure (ForInStep.yield ok) else pure (ForInStep.yield r)) (Ax X ak σ Q) X.di s
def tb{X:aY}:an1 X [] (ez true):=by
 rintro ak s σ H Q I ⟨aJ,aT,O,F,ai,b,r,e,k⟩
 cases e
 exact wpAny_tests_nil ⟨H,I,k F H (Ext.refl r.cb)⟩
def MK{X:aY}{c:bt}{cc:f_}(h:kB X c cc):an1 X [c] cc:=λak s σ H Q I q=>wpAny_tests_one (h ak s σ H Q I q)
section
variable {prog:cu}{w:b8}{A:cp}{R:Result->aH->Prop}{s:aH}
def agF{elt target iter:bt}{ifs:List bt}{scope:Scope}{pos:Pos}{it acc:ao}{env:Env}(I:Nat->aH->Prop)
  (turn:∀n s,I n s->a0 (bA prog w) A (pyNext it) (λr cZ=>match r with
   |none=>R (.ok .next) cZ
   |some v=>a0 (bA prog w) A (letOwnedTupleGo target it v) (λ_ Qn=>a0 (bA prog w) A (assign target env v) (λ_ jZ=>
     a0 (bA prog w) A (forIn ifs true λc r=>if r=true then do let ok <- isTrue c env (eval c env);pure (ForInStep.yield ok) else pure (ForInStep.yield r)) (λok p_=>
      if ok=true then a0 (bA prog w) A (eval elt env) (λx Qo=>
       a0 (bA prog w) A (call (.builtin "list.append") [acc,x]) (λ_ Qp=>∃m,m<n/\I m Qp) (λ_ _=>False) Qo) (λ_ _=>False) p_
      else ∃m,m<n/\I m p_) (λ_ _=>False) jZ) (λ_ _=>False) Qn) (λ_ _=>False) cZ) (λ_ _=>False) s)
  (n:Nat) (h:I n s):hu (bA prog w) A (.compLoop (.ListComp elt [⟨target,iter,ifs,0⟩] scope pos) 0 it acc env) R s:=by
 refine codeAny_loop rfl I (λn s sb=>?_) n h
 show a0 _ A ((compTurn (.ListComp elt [⟨target,iter,ifs,0⟩] scope pos) 0 it acc env).onRaise (λx=>do noteFrame x env;theTreesLotGoes x)) _ _ s
 refine wpAny_noted ?_
 rw[compTurn_list];refine aO (wpAny_standAt (aO (et (turn n s sb) (λr cZ e2=>?_) λ_ _ h'=>h'.elim)));cases r with
|none=>exact bX e2
|some v=>
  refine aO (et e2 (λ_ Qn _x=>?_) λ_ _ h'=>h'.elim)
  refine aO (et _x (λ_ jZ ki=>aO (et ki (λok p_ iS=>?_) λ_ _ h'=>h'.elim)) λ_ _ h'=>h'.elim)
  cases ok with
  |false=>exact bX ⟨rfl,iS⟩
  |true=>
   exact aO (aO (et iS (λx Qo v5=>aO (et v5 (λ_ Qp h4=>bX (bX ⟨rfl,h4⟩)) λ_ _ h'=>h'.elim)) λ_ _ h'=>h'.elim))
end
end
section
variable [cD]
theorem Q2{env:Env}{k:nh}:∀{names:List (Str×nh)} {x:Str},names.lookup x=some k->∃iT,(names.map λ(n,k)=>if (k==NameKind.free && env.scope.kind==.function && env.kindOf n==some .cell) then (n,NameKind.cell) else (n,k)).lookup x=some iT/\(iT=k\/(k=.free/\iT=.cell))
  | [],x,h=>by simp at h
  | (n,j)::r,x,h=>by
    have bM:=@Q2 env k r x;show ∃iT,kq x ((if (j==NameKind.free && env.scope.kind==.function && env.kindOf n==some .cell)=true then (n,NameKind.cell) else (n,j))::_)=some iT/\_;cases hx:x==n with
    |true=>
      simp only[n5,hx] at h;cases h;by_cases ax:(k==NameKind.free && env.scope.kind==.function && env.kindOf n==some .cell)=true
      · rw[if_pos ax]
        refine⟨.cell,by simp[n5,hx],.inr ⟨?_,rfl⟩⟩
        simp only[gV] at ax;simpa using ax.1.1
      · rw[if_neg ax]
        exact⟨k,by simp[n5,hx],.inl rfl⟩
    |false=>
      simp only[n5,hx] at h;obtain⟨iT,ah,ar⟩:=bM h;refine⟨iT,?_,ar⟩;by_cases ax:(j==NameKind.free && env.scope.kind==.function && env.kindOf n==some .cell)=true
      · rw[if_pos ax];simp only[n5,hx];exact ah
      · rw[if_neg ax];simp only[n5,hx];exact ah
def oc{names:List (Str×nh)}{x:Str}{k:nh}(h:names.lookup x=some k):∃y∈names,y.2=k/\y.1=x:=by
 induction names with
|nil=>simp at h
|cons y r bM=>
  rw[n5] at h;split at h
  next af=>
   cases h
   exact⟨y,fg,rfl,by simpa using (beq_iff_eq.mp af).symm⟩
  next=>
   obtain⟨z,au,ah,ar⟩:=bM h;exact⟨z,dF _ au,ah,ar⟩
def ago{scope:Scope}{env:Env}(vS:∀y∈scope.names,y.2≠.cell){x:Str}(h:(relabel scope env).names.lookup x=some .cell\/(relabel scope env).names.lookup x=some .free):∃y∈scope.names,y.2=.free/\y.1=x:=by
 have go:∀{k:nh},(relabel scope env).names.lookup x=some k->(k=.cell\/k=.free)->∃y∈scope.names,y.2=.free/\y.1=x:=λ{k} e aL=>by
  obtain⟨y,a7,ah,ar⟩:=oc e;obtain⟨⟨n,j⟩,au,aN⟩:=d_.mp (show y∈scope.names.map _ from a7);by_cases ax:(j==NameKind.free && env.scope.kind==.function && env.kindOf n==some .cell)=true
  ·have dv:(n,NameKind.cell)=y:=by
    have gL:(if (j==NameKind.free && env.scope.kind==.function && env.kindOf n==some .cell)=true then (n,NameKind.cell) else (n,j))=y:=aN
    rwa [if_pos ax] at gL
   subst dv;simp only[gV] at ax;exact⟨(n,j),au,by simpa using ax.1.1,ar⟩
  ·have dv:(n,j)=y:=by
    have gL:(if (j==NameKind.free && env.scope.kind==.function && env.kindOf n==some .cell)=true then (n,NameKind.cell) else (n,j))=y:=aN
    rwa [if_neg ax] at gL
   subst dv;rcases aL with rfl|rfl
   ·exact absurd ah (vS _ au)
   ·exact⟨(n,j),au,ah,ar⟩
 rcases h with h|h
 ·exact go h (.inl rfl)
 ·exact go h (.inr rfl)
def cJ.other{K:a'}{aJ O F:aj->Prop}{E:f9}{H:aB}{ai:Ev}{σ:bu.St}{a:aj}{xs ys:List V}(r:cJ K aJ E O F H ai σ)(bc:¬F a)(aK:¬O a)(h0:E.h a=none)(aA:H a=some (.lst xs)):
  ek K F H F (upd H a (.lst ys))/\cJ K aJ E O F (upd H a (.lst ys)) ai σ:=by
 have hm:ou (.lst xs):=.inl ⟨_,rfl⟩;have aG:ek K F H F (upd H a (.lst ys)):=Tg bc aA hm;have keep:∀(u:aR) (w:V),ec K E O F H u w->ec K E O F (upd H a (.lst ys)) u w/\dz (upd H a (.lst ys)) u w=dz H u w:=by
  intro u w cY;refine cY.keep aG (λb af=>cR ?_) (λ_ _ f=>f) λ_ _ o=>o;rintro rfl;cases sA:u.jb with
  |true=>exact aK ((cY.held af).2.1 sA)
  |false=>exact (cY.held af).2.2 sA h0
 refine⟨aG,⟨r.len,λj u e=>?_,λi j s u v w kg aw aN dK en ah ar=>?_,SV r.ent h0 bc aA hm,r.o0,λb e=>r.fr b ?_⟩⟩
 ·obtain⟨v,ah,ar⟩:=r.val j u e;exact⟨v,ah,(keep u v ar).1⟩
 ·obtain⟨hM,dI,a_⟩:=r.val i s aw;obtain⟨df,jQ,b_⟩:=r.val j u aN;rw[ah] at dI;rw[ar] at jQ;cases dI;cases jQ;rw[(keep s v a_).2,(keep u w b_).2];exact r.ne i j s u v w kg aw aN dK en ah ar
 ·by_cases nb:b=a
  ·subst nb;rw[dU] at e;cases e
  ·rwa [cR nb] at e
noncomputable def Eu(n:Nat)(caps:List Nat)(σ:bu.St):bu.St:=d5 n none++caps.map λi=>(σ[i]?).join
def join_some{α:Type}{o:Option (Option α)}{x:α}(h:o.join=some x):o=some (some x):=by
 cases o with
|none=>cases h
|some o=>exact congrArg some h
def w9{α:Type}{n:Nat}{caps:List Nat}{l:List (Option α)}{i:Nat}{x:α}(h:(d5 n none++caps.map λi=>(l[i]?).join)[i]?=some (some x)):∃j,n<=i/\caps[i - n]?=some j/\l[j]?=some (some x):=by
 by_cases aQ:i<n
 ·rw[wo (by simpa using aQ),List.getElem?_replicate] at h;rw[if_pos aQ] at h;cases h
 ·rw[wm (by simpa using aQ),List.length_replicate,kp] at h;cases e:caps[i - n]? with
  |none=>
   rw[e] at h;cases h
  |some j=>
   rw[e] at h;exact⟨j,by omega,rfl,join_some (fN h)⟩
def akT{α:Type}{n:Nat}{caps:List Nat}{l:List (Option α)}{i j:Nat}{x:α}(aQ:n<=i)(ax:caps[i - n]?=some j)(h:l[j]?=some (some x)):(d5 n none++caps.map λi=>(l[i]?).join)[i]?=some (some x):=by
 rw[wm (by simpa using aQ),List.length_replicate,kp,ax];simp[h]
def cJ.Gr{K:a'}{aJ O F:aj->Prop}{E:f9}{H:aB}{ai:Ev}{σ:bu.St}{D:aj}(r:cJ K aJ E O F H ai σ)(n:Nat){caps:List Nat}(aV:caps.Nodup)(anz:H D=none):
  cJ K aJ E (λa=>O a/\a≠D) F (upd H D (.lst [])) (hS n caps ai) (Eu n caps σ):=by
 have x:=Ext.laid (o:=.lst []) r.cb anz;have keep:∀(u:aR) (w:V),ec K E O F H u w->ec K E (λa=>O a/\a≠D) F (upd H D (.lst [])) u w/\dz (upd H D (.lst [])) u w=dz H u w:=by
  intro u w cY;have nb:∀b∈dz H u w,b≠D:=λb af z=>by
   obtain⟨o,e,_⟩:=cY.at af;rw[z,anz] at e;cases e
  exact cY.keep x.aG (λb af=>cR (nb b af)) (λ_ _ f=>f) λb af o=>⟨o,nb b af⟩
 refine⟨by simp[hS,Eu],λi s e=>?_,λi j s u v w kg aw aN dK en ah ar=>?_,r.ent.trans x,λa h=>r.o0 a h.1,λa h=>?_⟩
 ·obtain⟨j,bc,ax,bx⟩:=w9 e;obtain⟨v,ah,ar⟩:=r.val j s bx;exact⟨v,akT bc ax ah,(keep s v ar).1⟩
 ·obtain⟨HV,aQ,ci,kJ⟩:=w9 aw;obtain⟨sr,bS,OI,h2⟩:=w9 aN;obtain⟨cI,_,OH,dI⟩:=w9 (l:=σ) ah;obtain⟨PG,_,OJ,jQ⟩:=w9 (l:=σ) ar;rw[ci] at OH;rw[OI] at OJ;cases OH;cases OJ;obtain⟨hM,aP,a_⟩:=r.val HV s kJ;obtain⟨df,bf,b_⟩:=r.val sr u h2;rw[dI] at aP;rw[jQ] at bf;cases aP;cases bf;rw[(keep s v a_).2,(keep u w b_).2];refine r.ne HV sr s u v w (λz=>?_) kJ h2 dK en dI jQ;subst z;obtain⟨cw,jy⟩:=gU.mp ci;obtain⟨cE,hJ⟩:=gU.mp OI;have ne:i - n≠j - n:=by omega
  rcases Nat.lt_or_gt_of_ne ne with q|q
  ·exact (List.pairwise_iff_getElem.mp aV _ _ cw cE q) (jy.trans hJ.symm)
  ·exact (List.pairwise_iff_getElem.mp aV _ _ cE cw q) (hJ.trans jy.symm)
 ·have aV:a≠D:=by
   rintro rfl;rw[dU] at h;cases h
  rw[cR aV] at h;exact⟨r.fr a h,aV⟩
end
section
variable [cD]
structure tx(X:aY)(scope:Scope)(own:List Str)(caps:List (Nat×Str)):Prop where
 kind:scope.kind=.function
 names:∀y∈scope.names,y.2=.local->scope.names.lookup y.1=some .local
 cell:∀y∈scope.names,y.2≠.cell
 free:∀y∈scope.names,y.2=.free->X.env.kindOf y.1=some .cell\/X.env.kindOf y.1=some .free
 Gr:∀p∈caps,X.N[p.1]?=some p.2/\scope.names.lookup p.2=some .free
 aV:(caps.map (·.1)).Nodup
 calm:X.calm=true
section
variable {X:aY}{cV iter elt:bt}{ifs:List bt}{scope:Scope}{it:lX}{iN:i4}{cc:f_}{hD:bY}{pos:Pos}{own:List Str}{caps:List (Nat×Str)}
def Tt{ak:List (aj×Obj)}{σ:bu.St}{bw:aB}{s2:aH}{ct:List aj}(S:tx X scope own caps)(cq:bu.Inv X ak σ bw s2)(f2:∀b∈ct,il X ak bw b)(jT:∀b∈ct,b<s2.heap.objs.size)(xD:List Str):
  (jM X xD scope (unop%WH 0) (unop%W1 0).objs.size {s2 with heap:=s2.heap.push {cls:=.type "list",data:=.seq ([]:List ao).toArray} } (upd bw s2.heap.objs.size (.lst [])) ct (X.du++ak)).Ok:=by
 have pW:∀x∈scope.names,x.2=.free->∃c,X.env.cells.lookup x.1=some c:=λx hx aL=>cq.ok.has x.1 (S.free x hx aL);have tR:∀x c,(unop%WH 0).lookup x=some c->X.env.cells.lookup x=some c:=wN pW (λx c e=>by simp at e);have ej:=cq.yC (its:=[]) (ys:=[]) (t':=s2.toks) .nil (n8 _);have anA:(unop%W1 0).objs.size=s2.heap.objs.size+1:=j2 ..;refine⟨cq.ok.mod,S.kind,cq.ok.glob,cq.ok.blt,dy _,λx y c aw aN=>cq.ok.inj x y c (tR x c aw) (tR y c aN),λx hx=>?_,λx c h=>(by cases h),cq.ok.hd,cq.ok.frames,.inl rfl,λb af=>⟨?_,λx c e=>(f2 b af).2.2.2.2.1 x c (tR x c e)⟩,λb o e=>?_,?_,λb o e af=>?_,λb af hf=>?_,ej.stack,ej.Kv⟩
 ·exact sX (.inl (ago S.cell hx))
 ·show b≠(s2.heap.push {cls:=.type "list",data:=.seq ([]:List ao).toArray}).objs.size
  have h:=jT b af;rw[anA];exact eQ (Nat.lt_succ_of_lt h)
 ·obtain⟨ah,ar⟩:=ej.bs b o e;exact⟨ah,ar⟩
 ·have ah:=h9 cq.ok.mI cq.anA;show X.base.objs.size<=(s2.heap.push {cls:=.type "list",data:=.seq ([]:List ao).toArray}).objs.size;omega
 ·rcases (f2 b af).2.2.2.1 with q|q
  ·exact cq.ok.uy b o e q
  ·exact absurd (i0 (c2 (cq.ok.bs b o e).1) q) (Nat.lt_irrefl _)
 ·rcases cN.mp (cq.CA b hf) with q|q
  ·exact (f2 b af).2.1 q
  ·exact (f2 b af).2.2.1 q
def ajX{ak:List (aj×Obj)}{σ:bu.St}{bw:aB}{s2:aH}{ct:List aj}(S:tx X scope own caps)(cq:bu.Inv X ak σ bw s2)(f2:∀b∈ct,il X ak bw b)(jT:∀b∈ct,b<s2.heap.objs.size){e2:bL}{m:Str->Option ao}{tk:Nat}
  (l3:e2.Ns (unop%W1 0).objs.size m) (keep:∀b u,(unop%W1 0).get? b=some u->e2.get? b=some u):
  bu.Inv (jM X (own++caps.map (·.2)) scope (unop%WH 0) (unop%W1 0).objs.size {s2 with heap:=s2.heap.push {cls:=.type "list",data:=.seq ([]:List ao).toArray} } (upd bw s2.heap.objs.size (.lst [])) ct (X.du++ak)) []
   (Eu own.length (caps.map (·.1)) σ) (upd bw s2.heap.objs.size (.lst [])) {s2 with heap:=e2,toks:=tk}:=by
 have pW:∀x∈scope.names,x.2=.free->∃c,X.env.cells.lookup x.1=some c:=λx hx aL=>cq.ok.has x.1 (S.free x hx aL);have tR:∀x c,(unop%WH 0).lookup x=some c->X.env.cells.lookup x=some c:=wN pW (λx c e=>by simp at e);have ej:=cq.yC (its:=[]) (ys:=[]) (t':=s2.toks) .nil (n8 _);refine⟨Tt S cq f2 jT _,rfl,cq.bare,fV.kept keep,⟨m,l3,λi x v ah ar bh=>?_⟩,λx c e=>?_,?_,λx c e=>ej.ka x c (tR x c e),λp aM=>?_,ej.bF.kept keep,by simp[Eu,jM]⟩
 ·obtain⟨j,bc,ax,bS⟩:=w9 (l:=σ) ar;have hx:(caps.map (·.2))[i - own.length]?=some x:=by
   have:(own++caps.map (·.2))[i]?=some x:=ah
   rwa [wm bc] at this
  rw[kp] at ax hx;cases ep:caps[i - own.length]? with
  |none=>rw[ep] at ax;cases ax
  |some p=>
   rw[ep] at ax hx;cases ax;cases hx;obtain⟨dw,hf⟩:=S.Gr p (pb ep);obtain⟨y,a7,k1,k2⟩:=oc hf;have aL:=S.free y a7 k1;rw[k2] at aL;obtain⟨anW,anf,Pf⟩:=ej.loc;have afp:oB X.env.scope p.2:=by
    rcases aL with aL|aL
    ·exact .inr (.inl aL)
    ·exact .inr (.inr aL)
   obtain⟨u,cY,lu⟩:=Pf p.1 p.2 v dw bS afp;refine⟨u,cY,.inr ⟨?_,?_⟩⟩
   ·obtain⟨iT,aw,aN⟩:=Q2 (env:=X.env) hf;rcases aN with rfl|⟨_,rfl⟩
    ·exact .inr aw
    ·exact .inl aw
   ·rcases lu with ⟨q,_⟩|⟨_,c,ax,vS⟩
    ·rcases aL with aL|aL
     ·rw[aL] at q;cases q
     ·rw[aL] at q;cases q
    ·obtain⟨bZ,dx⟩:=sX (env:=X.env) (l:=scope.names) (cs:=[]) (x:=p.2) (.inl ⟨y,a7,k1,k2⟩);have:=tR _ _ dx;rw[ax] at this;cases this;obtain⟨gQ,aK,hd⟩:=vS;exact⟨c,dx,gQ,keep _ _ aK,hd⟩
 ·obtain⟨v,gQ,aK,hd⟩:=ej.cell x c (tR x c e);exact⟨v,gQ,keep _ _ aK,hd⟩
 ·exact ej.bF.fresh (dy _)
 ·have qW:p∈X.du++ak:=by simpa [jM] using aM
  obtain⟨ah,ar,bk,cB,gf⟩:=ej.pin p qW;refine⟨keep _ _ ah,ar,eQ (c2 ah),λz=>?_,gf⟩;rcases cN.mp (cq.CA p.1 z) with q|q
  ·exact bk q
  ·exact cB q
def ahR{ak:List (aj×Obj)}{σ cj:bu.St}{bw ag:aB}{s2 s':aH}{ct:List aj}{xD:List Str}(cq:bu.Inv X ak σ bw s2)(f2:∀b∈ct,il X ak bw b)
  (J:bu.Inv (jM X xD scope (unop%WH 0) (unop%W1 0).objs.size {s2 with heap:=s2.heap.push {cls:=.type "list",data:=.seq ([]:List ao).toArray} } (upd bw s2.heap.objs.size (.lst [])) ct (X.du++ak)) [] cj ag s')
  {h':bL} (jF:Heap.SameBut (unop%W1 0).objs.size s'.heap h'):bu.Inv X ak σ ag {s' with heap:=h'}:=by
 have ej:=cq.yC (its:=[]) (ys:=[]) (t':=s2.toks) .nil (n8 _);have u:=J.base;have free:ag (unop%W1 0).objs.size=none:=J.free;have old:∀b o,(unop%W1 0).get? b=some o->b≠(s2.heap.push {cls:=.type "list",data:=.seq ([]:List ao).toArray}).objs.size:=λb o e=>eQ (c2 e);have AO:∀b,b≠(s2.heap.push {cls:=.type "list",data:=.seq ([]:List ao).toArray}).objs.size->∀o,s'.heap.get? b=some o->h'.get? b=some o:=λb af o e=>jF.extBut b o af e;have CK:fV (e6 X.stack) ct (upd bw s2.heap.objs.size (.lst [])) ag (unop%W1 0) h':=by
  refine⟨λb o e n hf hx=>AO b (old b o e) _ (u.keep b o e n hf hx),λb o e n hf hx=>?_,u.free,λb o e hx=>?_,u.lJ,u.kL,u.kQ⟩
  ·obtain⟨cG,q⟩:=u.slot b o e n hf hx;exact⟨cG,AO b (old b o e) _ q⟩
  ·obtain⟨o',q⟩:=u.there b o e hx;exact⟨o',AO b (old b o e) _ q⟩
 have bF:eL X.prog X.w ag h':=λb o e=>by
  refine (J.bF b o e).jY (λc v ax q=>AO c (λz=>?_) v q) (λ_ q=>q) λ_ _ q=>q
  rcases ax with rfl|ax
  ·rw[z,free] at e;cases e
  ·rw[z,free] at ax;cases ax
 have qV:=J.os;have Zq:=J.bare;obtain⟨cM,g,d,t,os⟩:=s';obtain rfl:os=s2.os:=qV;have fin:=ej.call (h':=h') (g':=g) (d':=d) (t':=t) (ch:=ct) CK bF Zq λb af=>⟨(f2 b af).2.2.2.1,(f2 b af).2.1,(f2 b af).2.2.2.2.1,(f2 b af).2.2.2.2.2⟩;exact fin
def aiV{X':aY}{R:Result->aH->Prop}{J:mH}{ct:List aj}{Ik D:aj}{jI:Nat->bL->Prop}{aJ O a6:aj->Prop}{aT:f9}{bw:aB}{ts ys:List T}(hx:X'.di=λ_ _=>False)(ax:X'.calm=true)(bg:pF X' cV iN)(bp:an1 X' ifs cc)(he:cO X' elt hD)
  (T:Turn X'.prog X'.w X'.K cV J ct Ik jI) (uE:∀ag:aB,(∀b∈ct,ag b=none)->∀b∈ct,il X' [] ag b) (ok:rK X'.K J a6 bw ts) (O3:ts.length<=big) (t8:bw D=none) (kM:¬O D) (Zb:aT.h D=none)
  (fin:∀cj ag aE s1 vs,bu.Inv X' [] cj ag s1->Ext a6 bw aE ag->ag D=some (.lst vs)->¬aE D->bB X'.K aE ag ys vs->R (.ok .next) s1)
  {s:aH} {σ:bu.St} {H:aB} {F:aj->Prop} {ai:Ev} (I:bu.Inv X' [] σ H s) (st:jI 0 s.heap) (fr:∀b∈ct,H b=none) (x:Ext a6 bw F H) (r:cJ X'.K aJ aT O F H ai σ) (anz:H D=some (.lst [])) (nD:¬F D) (fI:hg iN cc hD ts ai=some ys):
  hu (bA X'.prog X'.w) X'.A (.compLoop (unop%Wn 0) 0 (.ref Ik) (.ref D) X'.env) R s:=by
 refine agF (λn s'=>∃i cj ag aE ε' oI vs,n=ts.length - i/\i<=ts.length/\bu.Inv X' [] cj ag s'/\jI i s'.heap/\(∀b∈ct,ag b=none)/\Ext a6 bw aE ag/\cJ X'.K aJ aT O aE ag ε' cj/\ag D=some (.lst vs)/\¬aE D/\bB X'.K aE ag oI vs/\oI.length<=i /\
  ∃rest,hg iN cc hD (ts.drop i) ε'=some rest/\ys=oI++rest) ?_ ts.length ⟨0,σ,H,F,ai,[],[],rfl,n8 _,I,st,fr,x,r,anz,nD,bB.nil,dy _,ys,by simpa using fI,by simp⟩
 rintro n s3 ⟨i,nx,eZ,ot,amT,oI,vs,rfl,aQ,ej,y2,xY,g_,lE,x3,JF,dc,Pf,rest,iM,es⟩;have jc:∀{pE:aj->Prop} {lZ:aB} {qt:aj->Prop} {k':aB} {o:ed},Ext pE lZ qt k'->lZ D=some o->¬pE D->¬qt D:=λy e n z=>by
  rcases y.new D z with q|q
  ·exact n q
  ·rw[e] at q;cases q
 by_cases d7:i<ts.length
 ·have hd:ts.drop i=ts[i]::ts.drop (i+1):=List.drop_eq_getElem_cons d7;have yb:ts[i]?=some ts[i]:=iZ d7;rw[hd] at iM;simp only[hg,cf] at iM;obtain⟨xr,mP,b,d4,iM⟩:=iM;refine et (T.item X' rfl rfl rfl ax i [] s3 nx eZ (λ_ _=>False) ej (uE eZ xY) y2 (ok.go i ot eZ _ g_.aG lE.cb yb)) (λbW s4 hqq=>?_) λ_ _ z=>z;obtain⟨u,ay,cB⟩:=hqq;subst ay;refine et cB (λ_ s5 hqq=>?_) λ_ _ z=>z;obtain⟨mf,k',tC,yR,KX,uD,G5⟩:=hqq;obtain⟨qt,QG,aU⟩:=ok.ph i ot eZ _ mf k' g_.aG lE.cb yb KX;have EF:=tC.pinned (uE k' G5) (T.obj _ _ uD);have Pc:=bg _ s5 nx k' mf u (λanQ vx=>vx=k'/\cJ X'.K aJ aT O qt k' xr anQ) EF yR ⟨aJ,aT,O,qt,amT,_,xr,lE.ext QG,aU,mP,λanQ yS=>⟨rfl,yS⟩⟩;rw[hx] at Pc;refine et Pc (λ_ dM hqq=>?_) λ_ _ z=>z;obtain⟨anQ,vx,xy,r5,yS⟩:=hqq;subst r5;have again:∀{lV:bu.St} {hX:aB} {dh:aH},bu.Inv X' ([]++z2 ct s5.heap) lV hX dh->jI (i+1) dh.heap/\(∀b∈ct,hX b=none)/\bu.Inv X' [] lV hX dh:=λ{lV hX dh} i5=>by
   refine⟨T.keep _ _ _ uD λb af o e=>(i5.pin (b,o) (j3 _ (j3 _ (DB af e)))).1,λb af=>?_,i5.CL⟩
   obtain⟨o,e,d⟩:=T.obj _ _ uD b af;exact (i5.pin (b,o) (j3 _ (j3 _ (DB af e)))).2.1
  have Pr:=bp _ dM anQ vx (λanJ hX=>anJ=b/\∃qu,Ext qt vx qu hX) xy ⟨aJ,aT,O,qt,xr,b,yS,d4,λqu hX wj=>⟨rfl,qu,wj⟩⟩;rw[hx] at Pr;refine et Pr (λacK dh hqq=>?_) λ_ _ z=>z;obtain⟨hX,i5,vK,qu,wj⟩:=hqq;subst vK;have zc:=QG.trans wj;have p5:=yS.ext wj;cases acK with
  |false=>
   simp only[lN,if_false] at iM ⊢;obtain⟨a1,a2,fj⟩:=again i5;exact⟨_,by omega,i+1,anQ,hX,qu,xr,oI,vs,rfl,d7,fj,a1,a2,g_.trans zc,p5,zc.same.get x3,jc zc x3 JF,dc.ext zc,by omega,rest,iM,es⟩
  |true=>
   simp only[if_true,cf,dR] at iM ⊢;obtain⟨y,YV,adP,YR,rfl⟩:=iM;have oQ:=he _ dh anQ hX (λv tB=>∃qv,Ext qu hX qv tB/\Rep X'.K qv tB y v) i5 ⟨aJ,aT,O,qu,xr,y,p5,YV,λv qv tB CP o2=>⟨qv,CP,o2⟩⟩;rw[hx] at oQ;refine et oQ (λu8 c6 hqq=>?_) λ_ _ z=>z;obtain⟨wi,tB,EG,r8,qv,CP,o2⟩:=hqq;have aoe:=zc.trans CP;have G_:=aoe.same.get x3;have JG:=jc aoe x3 JF;obtain⟨aaM,r9⟩:=(p5.ext CP).other (ys:=vs++[wi]) JG kM Zb G_;have aA:=LV (X:=X') _ c6 anQ tB (.ref D) [wi] (.ref D) [u8] (λ_ NA=>NA=upd tB D (.lst (vs++[wi]))) EG rfl (.cons r8 .nil) ⟨D,vs,wi,rfl,rfl,G_,by rw[lT,<- dc.length];omega,rfl⟩;rw[hx] at aA;refine et aA (λu9 fv hqq=>?_) λ_ _ z=>z;obtain⟨v9,NA,VV,anr,vL⟩:=hqq;subst vL;obtain⟨a1,a2,fj⟩:=again VV;have x9:Ext a6 bw qv (upd tB D (.lst (vs++[wi]))):=by
    have y:=g_.trans aoe;refine⟨λb o e=>?_,y.sub,y.new,⟨λb f=>?_,y.cb.m4.upd λu e=>.inl ⟨_,fN (e.symm.trans G_)⟩⟩⟩
    ·have nb:b≠D:=by
      rintro rfl;rw[t8] at e;cases e
     rw[cR nb];exact y.same b o e
    ·have nb:b≠D:=by
      rintro rfl;exact JG f
     rw[cR nb];exact y.cb b f
   refine⟨_,by omega,i+1,anQ,_,qv,xr,oI++[y],vs++[wi],rfl,d7,fj,a1,a2,x9,r9,dU,JG,((dc.ext aoe).append (bB.cons o2 bB.nil)).aG aaM,by simp;omega,adP,YR,by rw[es];simp⟩
 ·have hd:ts.drop i=[]:=List.drop_eq_nil_of_le (by omega);rw[hd] at iM;cases iM;refine et (T.done X' rfl rfl rfl ax i [] s3 nx eZ (λ_ _=>False) ej (uE eZ xY) y2 (ok.stop i ot eZ g_.aG (by omega))) (λbW s4 hqq=>?_) λ_ _ z=>z;obtain⟨ay,mG⟩:=hqq;subst ay;exact fin nx eZ ot s4 vs mG g_ x3 JF (by rw[es,lO];exact dc)
structure After(X:aY)(ak:List (aj×Obj))(σ:bu.St)(F:aj->Prop)(H:aB)(ys:List T)(D C:aj)(ag:aB)(aE:aj->Prop)(s1:aH)(vs:List V):Prop where
 inv:∀h',Heap.SameBut C s1.heap h'->bu.Inv X ak σ ag {s1 with heap:=h'}
 ns:∃m,s1.heap.Ns C m
 free:ag C=none
 above:X.dm.heap.objs.size<=C
 cells:∀x c,X.env.cells.lookup x=some c->c≠C
 pin:∀p∈X.du++ak,p.1≠C
 loc:C≠X.env.locals
 new:H D=none
 ext:Ext F H aE ag
 jc:¬aE D
 lst:ag D=some (.lst vs)
 rep:bB X.K aE ag ys vs
def SX{use:Option (ao->Sem Unit)}{Q:ao->aH->Prop}{eN:Pos}(S:tx X scope own caps)(aQ:pG X cV iter it)
  (bg:∀cl C dm aT ct du,pF (jM X (own++caps.map (·.2)) scope cl C dm aT ct du) cV iN)
  (bp:∀cl C dm aT ct du,an1 (jM X (own++caps.map (·.2)) scope cl C dm aT ct du) ifs cc)
  (he:∀cl C dm aT ct du,cO (jM X (own++caps.map (·.2)) scope cl C dm aT ct du) elt hD)
  (az:∀x,wy iter X.env x=pure x) {ak:List (aj×Obj)} {s:aH} {σ:bu.St} {H:aB} {aJ O F:aj->Prop} {aT:f9} {ai:Ev} {ys:List T} (I:bu.Inv X ak σ H s) (r:cJ X.K aJ aT O F H ai σ)
  (e:comp own.length (caps.map (·.1)) it iN cc hD ai=some (.list ys)) (fin:∀D C ag aE s1 vs,After X ak σ F H ys D C ag aE s1 vs->compPost (unop%Wk 0) X.A X.di use Q (.ref D) C (.ok .next) s1):
  a0 (unop%Wk 0) X.A (comprehension (unop%Wn 0) scope X.env eN (newList []) false (eval iter X.env) use) Q X.di s:=by
 simp only[comp,cf] at e;obtain⟨ts,bU,e⟩:=e;split at e
 case isFalse=>cases e
 next O3=>
 simp only[dR] at e;obtain⟨anv,fI,e⟩:=e;cases e;have pW:∀x∈scope.names,x.2=.free->∃c,X.env.cells.lookup x.1=some c:=λx hx aL=>I.ok.has x.1 (S.free x hx aL);refine wpAny_comprehension_free rfl az (Dn pW) S.kind S.names (cH (aQ ak s σ H (λJ H1=>∃a6,Ext F H a6 H1/\rK X.K J a6 H1 ts) I ⟨aJ,aT,O,F,ai,ts,r,bU,λJ a6 H1 aS ok=>⟨a6,aS,ok⟩⟩) λv s1 ah=>cH ah λIl s2 ar=>?_);obtain⟨Ik,ct,jI,J,bw,rfl,cq,T,kn,f2,a6,aS,ok⟩:=ar;have jT:∀b∈ct,b<s2.heap.objs.size:=λb af=>by
  obtain⟨o,aK,_⟩:=T.obj 0 _ kn b af;exact c2 aK
 have t8:bw s2.heap.objs.size=none:=cq.fresh;have anz:H s2.heap.objs.size=none:=aS.same.none t8;have anA:(unop%W1 0).objs.size=s2.heap.objs.size+1:=j2 ..;refine wpAny_newList ?_ (n8 _);refine CV S.cell (by intro y a7;simp at a7) (λe2 Z2 _e=>?_) S.kind;have keep:∀b u,(unop%W1 0).get? b=some u->e2.get? b=some u:=λb u e=>_e.extBut b u (eQ (c2 e)) (cQ _ e);have mG:=ajX (tk:=s2.toks+0) S cq f2 jT Z2 keep;have anP:=(r.ext aS).Gr (D:=s2.heap.objs.size) own.length S.aV t8;refine codeAny_compStart_list ?loop (T.self _ 0 _ _ _ (T.keep 0 _ _ kn λb af o e=>keep b o (cQ _ e)) ?loop);refine aiV (X':=jM X (own++caps.map (·.2)) scope (unop%WH 0) (unop%W1 0).objs.size {s2 with heap:=s2.heap.push {cls:=.type "list",data:=.seq ([]:List ao).toArray} } (upd bw s2.heap.objs.size (.lst [])) ct (X.du++ak))
  rfl S.calm (bg _ _ _ _ _ _) (bp _ _ _ _ _ _) (he _ _ _ _ _ _) T (λag bc b af=>?_) ok O3 t8 (λz=>z.2 rfl) (r.o0 _ (r.fr _ anz)) (λcj ag aE s1 vs ow mf Za aaT eO=>?_) mG (T.keep 0 _ _ kn λb af o e=>keep b o (cQ _ e)) (λb af=>?_) (Ext.laid aS.cb t8) anP dU ?_ fI
 ·have J9:=Tt S cq f2 jT (own++caps.map (·.2));refine⟨bc b af,(J9.vN b af).1,J9.tY b af,.inl af,λx c e=>(J9.vN b af).2 x c e,λp aM=>?_⟩;have qW:p∈X.du++ak:=by simpa [jM] using aM
  exact (f2 b af).2.2.2.2.2 p qW
 ·obtain⟨m,bc,_⟩:=id ow.loc;refine fin s2.heap.objs.size _ ag aE s1 vs ⟨λh' jF=>ahR cq f2 ow jF,⟨m,bc⟩,ow.free,?_,λx c e z=>?_,λp aM z=>?_,?_,anz,aS.trans mf,aaT,Za,eO⟩
  ·rw[anA];exact Nat.le_succ_of_le cq.anA
  ·obtain⟨v,q⟩:=cq.cell x c e;have:=q.lt;rw[z,anA] at this;exact absurd this (Nat.not_lt.mpr (qd _))
  ·have:=c2 (cq.pin p aM).1;rw[z,anA] at this;exact absurd this (Nat.not_lt.mpr (qd _))
  ·have:=cq.lt;rw[anA];exact hO (Nat.lt_succ_of_lt this)
 ·have:=(f2 b af).1;rw[cR (eQ (jT b af))];exact this
 ·intro z;obtain⟨o,e⟩:=aS.cb _ z;rw[t8] at e;cases e
def alp(S:tx X scope own caps)(aQ:pG X cV iter it)
  (bg:∀cl C dm aT ct du,pF (jM X (own++caps.map (·.2)) scope cl C dm aT ct du) cV iN)
  (bp:∀cl C dm aT ct du,an1 (jM X (own++caps.map (·.2)) scope cl C dm aT ct du) ifs cc)
  (he:∀cl C dm aT ct du,cO (jM X (own++caps.map (·.2)) scope cl C dm aT ct du) elt hD)
  (az:∀x,wy iter X.env x=pure x:=by intro _;rfl):an0 X (unop%Wn 0) (comp own.length (caps.map (·.1)) it iN cc hD):=by
 intro ak s σ H Q I ⟨aJ,aT,O,F,ai,ys,r,e,k⟩;rw[eval_ListComp];refine SX S aQ bg bp he az I r e λD C ag aE s1 vs a=>?_;obtain⟨m,bc⟩:=a.ns;exact⟨m,bc,λh' jF=>⟨.ref D,ag,a.inv h' jF,rfl,k D vs aE ag a.ext a.new a.jc a.lst a.rep⟩⟩
def Sd{ai:Ev}{n:Nat}{cs:List Nat}{t:T}(e:comp n cs it iN cc hD ai=some t):∃ts,t=.list ts:=by
 simp only[comp,cf] at e;obtain⟨ts,_,e⟩:=e;split at e
 ·simp only[dR] at e;obtain⟨ys,_,e⟩:=e;exact⟨ys,e.symm⟩
 ·cases e
def ru(S:tx X scope own caps)(aQ:pG X cV iter it)
  (bg:∀cl C dm aT ct du,pF (jM X (own++caps.map (·.2)) scope cl C dm aT ct du) cV iN)
  (bp:∀cl C dm aT ct du,an1 (jM X (own++caps.map (·.2)) scope cl C dm aT ct du) ifs cc)
  (he:∀cl C dm aT ct du,cO (jM X (own++caps.map (·.2)) scope cl C dm aT ct du) elt hD)
  (az:∀x,wy iter X.env x=pure x:=by intro _;rfl):cO X (unop%Wn 0) (comp own.length (caps.map (·.1)) it iN cc hD):=
 PR (alp S aQ bg bp he az) λai t e=>Sd e
def TQ(i:Nat){x:Str}{f3 uC:Pos}(dw:X.N.Nodup)(S:tx X scope own caps)(hit:pG X cV iter it)
  (bg:∀cl C dm aT ct du,pF (jM X (own++caps.map (·.2)) scope cl C dm aT ct du) cV iN)
  (bp:∀cl C dm aT ct du,an1 (jM X (own++caps.map (·.2)) scope cl C dm aT ct du) ifs cc)
  (he:∀cl C dm aT ct du,cO (jM X (own++caps.map (·.2)) scope cl C dm aT ct du) elt hD)
  (aQ:X.N[i]?=some x:=by rfl) (hx:Loc X.env.scope x:=by first|exact Or.inl rfl|exact Or.inr rfl)
  (oT:kr (unop%Wn 0) (some (.Name x f3)) uC.line X.env=pure true:=by rfl)
  (hf:X.fn x=true\/X.env.scope.names.lookup x=some .local:=by first|exact .inl rfl|exact .inr rfl)
  (az:∀x,wy iter X.env x=pure x:=by intro _;rfl):
  gF X (.Assign [.Name x f3] (unop%Wn 0) uC) (asg i (comp own.length (caps.map (·.1)) it iN cc hD)):=by
 intro ak s σ H D I ⟨aJ,aT,O,F,ai,o,r,e,k⟩;simp only[asg,dR] at e;obtain⟨t,bU,rfl⟩:=e;obtain⟨ys,rfl⟩:=Sd bU;rw[exec_Assign_Name_used _ _ _ _ oT];refine aO (wpAny_standAt (aO ?_));show a0 _ X.A (do let _ <- comprehension (unop%Wn 0) scope X.env _ (newList []) false (eval iter X.env) (some (assign (.Name x f3) X.env))) _ _ s;refine aO (cH (SX (use:=some (assign (.Name x f3) X.env)) (Q:=λ_ s'=>qC X ak D .next s') S hit bg bp he az I r bU λxu C ag aE s1 vs a=>?_) λ_ s' aX=>bX (bX aX));have VW:=a.inv s1.heap (Heap.SameBut.refl ..);have VX:bu.Inv X ak σ ag s1:=VW;show a0 _ X.A (assign (.Name x f3) X.env (.ref xu)) _ _ _;refine wpAny_assign_Name (RT (v:=.ref xu) VX dw aQ hx rfl (λs2 cq hqq=>?_) hf);obtain⟨b,jF,af⟩:=hqq;obtain⟨m,bc⟩:=a.ns;have nb:C≠b:=by
  rcases af with rfl|af
  ·exact a.loc
  ·exact (a.cells x b af).symm
 refine⟨m,bc.sameBut jF nb,λh' ad0=>?_⟩
 have ej:bu.Inv X ak (σ.set i (some (.ref xu))) ag {s2 with heap:=h'}:=cq.turned (t':=s2.toks) (it:=C) (λb o af e=>ad0.extBut b o af e) a.free a.loc (.inr a.above) a.cells a.pin;refine⟨_,ag,ej,?_⟩;have y:Ext F H (λb=>aE b\/b=xu) ag:=⟨a.ext.same,λb z=>.inl (a.ext.sub b z),λb z=>by
  rcases z with z|rfl
  ·exact a.ext.new b z
  ·exact .inr a.new,⟨λb z=>by
  rcases z with z|rfl
  ·exact a.ext.cb b z
  ·exact⟨_,a.lst⟩,a.ext.cb.m4⟩⟩
 refine k _ _ ag y.aG ((r.ext y).set i ?_)
 simp only[Rep];exact⟨xu,vs,rfl,.inr rfl,.inl a.lst,a.rep.keep (λ_ _ z=>z) λb _ z w=>⟨.inl z,w⟩⟩
end
end
section
variable [cD]
open AutoSeq1 (wpAny_loadPart')
def afE(l:aj)(items:Array ao)(n:Nat)(pL:Option aj)(cG:Array (Option ao)):
  Meets (Builtin.«enumerate.__new__» ⟨[.type "enumerate",.ref l],[]⟩) (λ_ R s=>s.heap.get? l=some {cls:=.type "tuple",dict:=pL,data:=.seq items n,slots:=cG} /\
   R (.ok (.ret (.ref (unop%W0 0).objs.size)))
    {s with heap:=(unop%W0 0).push {cls:=.type "enumerate",data:=.fields #[.none,.bool false,.ref s.heap.objs.size,gW 0,.none,.none]} }):=
 .of_wp λprog w A R s h=>by
  obtain⟨aM,g,d,tk,os⟩:=s;obtain⟨aI,h⟩:=h;have Bv:=sub_enumerate;have fZ:Heap.IsTuple (Shared.heap ⟨aM,g,d,tk,os⟩) l items:=⟨_,aI,rfl,n,rfl⟩
  wp_walk using wpAny_loadPart' aI
  refine wpAny_stack_any λst=>bX ?_
  split
  ·rename_i c _ _ _ _ _
   cases (c==Value.type "enumerate")
   ·wp_walk using wpAny_loadPart' aI,rg fZ
    exact⟨_,rfl,h⟩
   ·wp_walk using wpAny_loadPart' aI,rg fZ
    exact⟨_,rfl,h⟩
  ·wp_walk using wpAny_loadPart' aI,rg fZ
   exact⟨_,rfl,h⟩
section
variable {prog:cu}{w:b8}{A:cp}{E:ao->aH->Prop}{s:aH}
def afF{l:aj}{items:Array ao}{Q:ao->aH->Prop}(fZ:s.heap.IsTuple l items)
  (h:∀h',IsEnum h' (unop%Wq 0) s.heap.objs.size 0 .none->h'.IsTupleIter s.heap.objs.size l 0->h'.objs.size=s.heap.objs.size+2 ->
   (unop%Wh 0)->Q (.ref (unop%Wq 0)) {s with heap:=h'}):
  a0 (bA prog w) A (call (.type "enumerate") [.ref l]) Q E s:=by
 obtain⟨⟨c,pL,qL,cG⟩,aI,ax,n,hd⟩:=fZ;replace ax:c=.type "tuple":=ax;replace hd:qL=.seq items n:=hd;subst ax hd;refine callType_new F.called_enumerate (by decide) (F.typeCall_enumerate_1 _) (F.newCall_enumerate_1 _) (λobj=>F.args_object_init_2 obj _) F.entry_enumerate_new
  (afE l items n pL cG) ⟨aI,?_⟩
 have au:(unop%W0 0).objs.size=s.heap.objs.size+1:=j2 ..;show _/\_;rw[au];have he:IsEnum ((unop%W0 0).push
   {cls:=.type "enumerate",data:=.fields #[.none,.bool false,.ref s.heap.objs.size,gW 0,.none,.none]}) (unop%Wq 0) s.heap.objs.size 0 .none:=by
  have:=fx (unop%W0 0)
   (o:={cls:=.type "enumerate",data:=.fields #[.none,.bool false,.ref s.heap.objs.size,gW 0,.none,.none]}) rfl
  rw[au] at this;exact this
 refine⟨⟨_,he,rfl⟩,h _ he ⟨_,cQ _ (fx _ rfl),rfl,rfl⟩ (by rw[j2,au]) λb o x=>cQ _ (cQ _ x)⟩
def afS{it l:aj}{i:Nat}{items}{x:ao}{Q:ao->aH->Prop}(hit:s.heap.IsTupleIter it l i)
  (aI:s.heap.IsTuple l items) (hx:items[i]?=some x)
  (hn:∀h',h'.IsTupleIter it l (i+1)->Heap.SameBut it s.heap h'->Q x {s with heap:=h'}):
  a0 (bA prog w) A (mh (.ref it)) Q E s:=by
 obtain⟨o,aK,ax,hd⟩:=id hit;obtain⟨ol,HG,_,nl,Ho⟩:=aI;unfold mh;refine aO (sP (name:=Str.ofString "__next__") hit.typeIs CU
  (rh CU hit.typeIs F.entry_tuple_iterator_next ?_ (F.args_tuple_iterator_next_1 _)))
 show a0 _ _ (field (.ref it) 0 >>= _) _ _ s
 refine aO (ib aK hd (x:=.ref l) rfl ?_)
 show a0 _ _ (if (Value.ref l==Value.none)=true then _ else _) _ _ s
 rw[if_neg (show ¬((Value.ref l==Value.none)=true) from m_)];show a0 _ _ (field (.ref it) 1 >>= _) _ _ s;refine aO (ib aK hd (x:=.int i 0) rfl ?_);show a0 _ _ (seqItems? (.ref l) >>= _) _ _ s;refine aO (kV HG Ho ?_);simp only[Int.toNat_natCast,hx];refine aO (wpAny_setField aK hd (by simp) (bX ⟨x,rfl,bX (hn _ ?_ (Heap.SameBut.update ..))⟩));exact⟨_,Heap.get?_update_self _ aK (Obj.isFreed_of_fields (Obj.data_mapFields hd _)),(Obj.cls_mapFields ..).trans ax,by
  rw[Obj.data_mapFields hd];simp[gW]⟩
def K'{it l:aj}{i:Nat}{items}{Q:ao->aH->Prop}(cM:A.handled=none)
  (hit:s.heap.IsTupleIter it l i) (aI:s.heap.IsTuple l items) (hx:items[i]?=none)
  (hG:∀h' e,Heap.ExtBut it s.heap h'->(∃o,h'.get? e=some o/\o.cls=.type "StopIteration")->E (.ref e) {s with heap:=h'}):
  a0 (bA prog w) A (mh (.ref it)) Q E s:=by
 obtain⟨o,aK,ax,hd⟩:=id hit;obtain⟨ol,HG,_,nl,Ho⟩:=aI;unfold mh;refine aO (sP (name:=Str.ofString "__next__") hit.typeIs CU
  (rh CU hit.typeIs F.entry_tuple_iterator_next ?_ (F.args_tuple_iterator_next_1 _)))
 show a0 _ _ (field (.ref it) 0 >>= _) _ _ s
 refine aO (ib aK hd (x:=.ref l) rfl ?_)
 show a0 _ _ (if (Value.ref l==Value.none)=true then _ else _) _ _ s
 rw[if_neg (show ¬((Value.ref l==Value.none)=true) from m_)];show a0 _ _ (field (.ref it) 1 >>= _) _ _ s;refine aO (ib aK hd (x:=.int i 0) rfl ?_);show a0 _ _ (seqItems? (.ref l) >>= _) _ _ s;refine aO (kV HG Ho ?_);simp only[Int.toNat_natCast,hx];refine aO (wpAny_rule (aO (wpAny_setField aK hd (by simp) ?_)));show a0 _ _ (newExc (.type "StopIteration") [] >>= _) _ _ _;refine aO ?_;simp only[newExc,newTuple];refine aO (qe ?_ (by size_fits));refine aO (m:=firstArgMember _ _) (wpAny_of_eq (a:=Value.none) (by first|rfl|(simp only[firstArgMember];rfl)) ?_);refine qe ?_ (by size_fits);simp only[raiseNew];refine aO (wpAny_handled ?_)
 first|rw[show A.in1.handled=none from cM]|rw[cM]
 refine aO (bX (wpAny_throw ?_))
 exact hG _ _ (((Heap.SameBut.update ..).extBut.push _).push _) ⟨_,fx _ rfl,rfl⟩
end
def Lx{prog:cu}{w:b8}{A:cp}(cM:A.handled=none)(it l:aj)(dJ:l≠it)(items:Array ao):
  Draws prog w A it [it,l] items.size (λi v=>items[i]?=some v) (λi h=>h.IsTupleIter it l i/\h.IsTuple l items) where
 live:=λ_ _ st=>let ⟨o,aK,_⟩:=st.1;⟨o,aK⟩
 frame:=λ_ _ _ st aL=>⟨st.1.at λo e=>aL it (by simp) o e,let ⟨o,aK,r⟩:=st.2;⟨o,aL l (by simp) o aK,r⟩⟩
 item:=λi s Q E aQ st hn=>by
  refine afS st.1 st.2 (x:=items[i]) (by simp[aQ]) λh' yd nR=>?_
  exact hn _ h' s.toks (by simp[aQ]) ⟨yd,st.2.extBut nR.extBut dJ⟩ nR
 done:=λs Q E st hG=>K' cM st.1 st.2 (by simp) hG
noncomputable def EI(K:a')(a:aj):mH:=
 ⟨λi H=>∃xs x,c' K H a xs/\xs[i]?=some x,λi H x ag=>∃p v,H p=none/\x=.ref p/\ag=upd H p (.tup [.int i,v])/\∀xs,c' K H a xs->xs[i]?=some v,λi H=>∃xs,c' K H a xs/\xs.length<=i⟩
def ah7{P:cu}{w:b8}{K:a'}{es:List bt}{k:Nat}{pos:Pos}(a it e:aj)(dJ:e≠it)(Hi:a≠it)(Hh:a≠e):Turn P w K (.Tuple es k pos) (EI K a) [e,it] e (λi h=>(∃old,IsEnum h e it i old)/\h.IsTupleIter it a i) where
 mem:=by simp
 obj:=λi h st b af=>by
  obtain⟨⟨old,he⟩,o,aK,ax,hd⟩:=st;rcases cN.mp af with rfl|af
  ·exact⟨_,he,λv z=>by
    have i3:Data.fields _=Data.cell v:=z;cases i3⟩
  ·have aw:b=it:=by simpa using af
   subst aw;exact⟨o,aK,λv z=>by rw[hd] at z;cases z⟩
 keep:=λi h h' st b9=>by
  obtain⟨⟨old,he⟩,kn⟩:=st;exact⟨⟨old,b9 e (by simp) _ he⟩,kn.at λo q=>b9 it (by simp) o q⟩
 item:=by
  intro X fC hw iO ax i ak s σ H E I hf st bg;subst fC hw iO;obtain⟨xs,x,aX,hx⟩:=bg;obtain⟨its,bW,p,au⟩:=I.tuple aX;obtain⟨u,b1,cY⟩:=bW.get hx;obtain⟨⟨old,he⟩,hit⟩:=st;obtain⟨f0,f1,f2,i',f4,ja⟩:=hf e (by simp);obtain⟨pU,g1,g2,g3,t2,nJ⟩:=hf it (by simp);have aQ:i<its.toArray.size:=by
   rw[eW];exact (gU.mp b1).1
  have HC:e∉[it,a]:=by
   intro z;rcases cN.mp z with z|z
   ·exact dJ z
   ·have i3:e=a:=by simpa using z
    exact Hh i3.symm
  refine wpAny_pyNext_enum_itemD (Lx (A:=X.A.in1) (I.ok.hd ax) it a Hi its.toArray) he ⟨hit,p⟩ aQ dJ HC λmf h' tk Ha aK nR cU hsz aL=>?_
  have ex:mf=u:=by
   have:=Ha;rw[<- Array.getElem?_toList] at this;rw[show (its.toArray).toList=its from rfl,b1] at this;exact (fN this).symm
  subst ex;refine⟨_,rfl,wpAny_letOwnedTupleGo_enum aK λar oQ g0=>?_⟩;have ya:e<s.heap.objs.size:=c2 he;have Hu:it<s.heap.objs.size:=by obtain⟨o,jv,_⟩:=hit;exact c2 jv
  have k2:∀b o,b≠e->b≠it->s.heap.get? b=some o->ar.get? b=some o:=λb o ah bk q=>g0.extBut b o ah (aL b o ah bk q);have fr:H s.heap.objs.size=none:=I.bF.fresh (dy _);have Hc:ar.get? s.heap.objs.size=some {cls:=.type "tuple",data:=.seq #[.int i tk,mf]}:=g0.extBut _ _ (hO ya) cU;have oY:∀b o,H b=some o->b≠e/\b≠it:=λb o q=>⟨λz=>(by rw[z,f0] at q;cases q),λz=>(by rw[z,pU] at q;cases q)⟩;have HF:eL X.prog X.w (upd H s.heap.objs.size (.tup [.int i,x])) ar:=by
   intro b o q;by_cases af:b=s.heap.objs.size
   ·subst af;rw[dU] at q;cases q;exact⟨by show 2<=cn;decide,[.int i tk,mf],.cons ⟨tk,rfl⟩ (.cons cY .nil),⟨_,Hc,rfl,_,rfl⟩⟩
   ·rw[cR af] at q;refine (I.bF b o q).jY (λc v dx eO=>k2 c v ?_ ?_ eO) (λc eO=>?_) λc ys eO=>?_
    ·rcases dx with rfl|dx
     ·exact (oY _ _ q).1
     ·exact (oY _ _ dx).1
    ·rcases dx with rfl|dx
     ·exact (oY _ _ q).2
     ·exact (oY _ _ dx).2
    ·rw[cR (jm eO fr)];exact eO
    ·rw[cR (jm eO fr)];exact eO
  have cq:bu.Inv X ak σ (upd H s.heap.objs.size (.tup [.int i,x])) {s with heap:=ar,toks:=tk+1}:=by
   refine I.step (g':=s.gens) (d':=s.drawn) (ch:=[e,it]) (λb af=>?_) (λb o _ _ dx q _=>k2 b o (λz=>dx (by simp[z])) (λz=>dx (by simp[z])) q) (λb o _ _ dx q _=>⟨o.slots,k2 b o (λz=>dx (by simp[z])) (λz=>dx (by simp[z])) q⟩) (λb o _ q n=>?_)
    (λb o dx q=>⟨o,k2 b o (λz=>dx (by simp[z])) (λz=>dx (by simp[z])) q⟩) (λb ys q=>by rw[cR (jm q fr)];exact q) (λb o u q=>by rw[cR (jm q fr)];exact q) (λb ps q=>⟨#[],by rw[cR (jm q fr),q];simp⟩) (λm hm=>?_) HF I.bare
   ·rcases cN.mp af with rfl|af
    ·exact⟨i',f1,f4,ja⟩
    ·have:b=it:=by simpa using af
     subst this;exact⟨g3,g1,t2,nJ⟩
   ·rw[cR (eQ (c2 q))];exact n
   ·obtain⟨o,ju,ep,jv,r⟩:=hm;exact⟨o,ju,ep,k2 _ o (Ne.symm f1) (Ne.symm g1) jv,r⟩
  refine⟨.ref s.heap.objs.size,_,cq,rfl,⟨s.heap.objs.size,x,fr,rfl,rfl,λys a7=>by rw[I.KQ a7 aX];exact hx⟩,⟨⟨_,by simpa using oQ⟩,nR.1.at λo q=>(g0.2 it dJ.symm).trans q⟩,λb af=>?_⟩
  rcases cN.mp af with rfl|af
  ·rw[cR (eQ ya)];exact f0
  ·have:b=it:=by simpa using af
   subst this;rw[cR (eQ Hu)];exact pU
 done:=by
  intro X fC hw iO ax i ak s σ H E I hf st bg;subst fC hw iO;obtain⟨xs,aX,hx⟩:=bg;obtain⟨its,bW,p,au⟩:=I.tuple aX;obtain⟨⟨old,he⟩,hit⟩:=st;obtain⟨pU,g1,g2,g3,t2,nJ⟩:=hf it (by simp);have cU:s.TypeIs (.ref e) "enumerate":=⟨_,he,rfl⟩;have aI:=bW.length;unfold pyNext;refine aO (wpAny_attempt (sP (name:=Str.ofString "__next__") cU F.slot_enumerate_next
   (rh F.slot_enumerate_next cU F.entry_enumerate_next ?_ (F.args_enumerate_next_1 _))))
  show a0 _ _ (field (.ref e) 2 >>= _) _ _ _
  refine aO (ib he rfl (x:=.ref it) rfl ?_)
  refine aO (K' (I.ok.hd ax) hit (show s.heap.IsTuple a its.toArray from p) (by simp;omega) λh' x lz kh=>?_)
  obtain⟨o,aK,dx⟩:=kh;refine aO (wpAny_isInstance (T:="StopIteration") (b:=true) ⟨o,aK,dx⟩ isSubtype_stop ?_);exact bX ⟨rfl,I.turned (t':=s.toks) (λb o af q=>lz b o af q) pU g1 g3 t2 nJ⟩
 self:=λ_ _ _ _ _ st h=>by
  obtain⟨⟨old,he⟩,_⟩:=st;exact wpAny_pyIter_enum he h
noncomputable def _C(K:a')(cy:fH):TI:=λσ H R=>cy σ H λvs H1=>∃a xs,vs=[.ref a]/\c' K H1 a xs/\R (EI K a) H1
section
variable {X:aY}{es:List bt}{k:Nat}{p pos eN:Pos}{a:bt}{f:bY}
def akp{cy:fH}(bg:dZ X "enumerate")(hm:X.mg "enumerate"=none)(aA:fR X [a] cy)(az:a9 [a] X.env=[(false,eval a X.env)]:=by rfl):qB X (.Tuple es k eN) (.Call (.Name "enumerate" p) [a] [] pos) (_C X.K cy):=by
 intro ak s σ H R I h;refine Call_ (pv I bg hm PyProof.Rows.boot_enumerate (wt (cH (aA pos ak s σ H _ I h) λus s1 hqq=>?_) az rfl));obtain⟨vs,H1,ba,a_,aP⟩:=hqq;obtain⟨a,xs,rfl,aX,q⟩:=aP;cases a_ with
|cons r m1=>
  cases m1
  cases r
  obtain⟨its,bW,pl,au⟩:=ba.tuple aX;have x8:a<s1.heap.objs.size:=by obtain⟨o,aK,_⟩:=pl;exact c2 aK
  refine afF (show s1.heap.IsTuple a its.toArray from pl) λh' he hit hsz aL=>wpAny_pyIter_enum he ?_
  refine⟨s1.heap.objs.size+1,[s1.heap.objs.size+1,s1.heap.objs.size],_,_,H1,rfl,ba.kept (t':=s1.toks) aL,ah7 a s1.heap.objs.size (s1.heap.objs.size+1) (Nat.succ_ne_self _) (eQ x8) (eQ (Nat.lt_succ_of_lt x8)),⟨⟨_,he⟩,hit⟩,λb af=>?_,q⟩
  have jS:s1.heap.objs.size<=b:=by
   rcases cN.mp af with rfl|af
   ·exact qd _
   ·have:b=s1.heap.objs.size:=by simpa using af
    rw[this];exact dy _
  exact ba.vQ jS (ba.bF.fresh jS)
def aiI{K:a'}{a:aj}{a6:aj->Prop}{H1:aB}{ts:List T}{vs:List V}(ay:c' K H1 a vs)(q:bB K a6 H1 ts vs):rK K (EI K a) a6 H1 (enum ts) where
 go:=λi F H t aG d e=>by
  have aQ:=(gU.mp e).1;simp only[enum,f5,List.length_zipIdx] at aQ;obtain⟨v,ah,_⟩:=q.get (iZ aQ);exact⟨vs,v,aG.tup _ _ ay,ah⟩
 ph:=λi F H t x ag aG d e y=>by
  obtain⟨p,v,aM,rfl,rfl,y⟩:=y;have aQ:=(gU.mp e).1;simp only[enum,f5,List.length_zipIdx] at aQ;obtain⟨hM,ah,ar⟩:=(q.aG aG).get (iZ aQ);have bk:=y vs (aG.tup _ _ ay);rw[ah] at bk;cases bk;have aS:=Ext.laid (o:=.tup [.int i,v]) d aM;refine⟨F,aS,?_⟩;have bU:t=.tuple [.int i,ts[i]]:=by
   simp only[enum,kp,List.getElem?_zipIdx,iZ aQ] at e;simpa using e.symm
  subst bU;simp only[Rep];exact⟨p,_,rfl,c'.of dU,bB.cons (by simp[Rep]) (bB.cons (ar.ext aS) bB.nil)⟩
 stop:=λi F H aG aI=>⟨vs,aG.tup _ _ ay,by
  simp only[enum,f5,List.length_zipIdx] at aI;rw[<- q.length];exact aI⟩
def M4(hm:X.mg "enumerate"=none)(aA:cO X a f)(bg:dZ X "enumerate":=by rfl)(az:a9 [a] X.env=[(false,eval a X.env)]:=by rfl)(g0:a9 [a] X.env=(false,eval a X.env)::a9 [] X.env:=by rfl):
  pG X (.Tuple es k eN) (.Call (.Name "enumerate" p) [a] [] pos) (j6 (hU f)):=Aa (akp bg hm (e3 aA hb g0) az) λσ H R ⟨aJ,aT,O,F,ai,ts,r,e,k⟩=>by
 simp only[j6,hU,dR,cf] at e;obtain⟨us,⟨t,bU,e⟩,rfl⟩:=e;split at e
 ·cases e
  refine⟨aJ,aT,O,F,ai,_,r,bU,λv aE ag x q=>?_⟩
  simp only[Rep] at q;obtain⟨a,vs,rfl,az,ay⟩:=q;exact⟨a,vs,rfl,az,k _ aE ag x (aiI az ay)⟩
 ·cases e
end
end
section
variable [cD]
structure Cl(P:cu)(w:b8)(K:a')(mg:Str->Option ao)(base:bL)(x:Str)(k n:Nat)(d:List T->Option T):Prop where
 ex:∃ck fd ps,eY P w K mg base dC k ck fd ps (spT K n d)/\mg x=some (.ref ck)/\m8 K (.ref ck)=true/\f7 K fd ps []
section
variable {P:cu}{w:b8}{K:a'}{mg:Str->Option ao}{base:bL}{x:Str}{k n:Nat}{d:List T->Option T}
theorem Cl.mono{j:Nat}(c:Cl P w K mg base x j n d)(h:j<=k):Cl P w K mg base x k n d:=by
 obtain⟨ck,fd,ps,F,r⟩:=c.ex;exact⟨ck,fd,ps,F.mono h,r⟩
def Cl.mk'{ck:aj}{fd:er}{ps:List Str}(F:eY P w K mg base dC k ck fd ps (spT K n d))(m:mg x=some (.ref ck))(aG:m8 K (.ref ck)=true)(b:f7 K fd ps []):Cl P w K mg base x k n d:=⟨ck,fd,ps,F,m,aG,b⟩
end
section
variable {X:aY}{k n:Nat}{d:List T->Option T}{x:Str}{p pos:Pos}{e:bt}{es:List bt}{aF:List bY}
def eX(C:Cl X.prog X.w X.K X.mg X.base x k n d)(ay:c9 k X.A)(aA:nB X (e::es) aF)(bg:dZ X x:=by rfl)(bc:aF.length=n:=by rfl)(fD:(x==("__debug__":Str))=false:=by decide)
  (he:a9 (e::es) X.env=(false,eval e X.env)::a9 es X.env:=by rfl) (hpl:(unop%Wu 0).any (·.1)=false:=by rfl):cO X (unop%Wz 0) (a3 d aF):=by
 obtain⟨ck,fd,ps,F,m,aG,b⟩:=C.ex;exact alq F ay bg m aG b aA bc fD he hpl
def yQ{i:Int}{t:Tok}(hm:X.mg x=some (.int i t))(bg:dZ X x:=by rfl)(hd:(x==("__debug__":Str))=false:=by decide):cO X (.Name x pos) (ae (.int i)):=xk (v:=.int i) (w1 (v:=.int i) bg hm ⟨t,rfl⟩ hd) λ_ _=>by simp[Rep]
noncomputable def Uy(scope sc:Scope)(N:List Str)(caps:List (Nat×Str)):Bool:=
 decide (scope.kind=.function) && scope.names.all (λy=>(decide (y.2≠.local) || decide (scope.names.lookup y.1=some .local)) && decide (y.2≠.cell) && (decide (y.2≠.free) || decide (sc.names.lookup y.1=some .cell) || decide (sc.names.lookup y.1=some .free)))
  && caps.all (λq=>decide (N[q.1]?=some q.2) && decide (scope.names.lookup q.2=some .free)) && decide ((caps.map (·.1)).Nodup)
def al2{scope sc:Scope}{own:List Str}{caps:List (Nat×Str)}(N:List Str)(uh:X.env.scope=sc)(dw:X.N=N)(ax:X.calm=true)(h:Uy scope sc N caps=true):tx X scope own caps:=by
 simp only[Uy,gV,List.all_eq_true,decide_eq_true_eq,Bool.or_eq_true] at h;obtain⟨⟨⟨ah,ar⟩,bk⟩,cB⟩:=h;refine⟨ah,λy a7 aI=>?_,λy a7=>(ar y a7).1.2,λy a7 hf=>?_,λq aX=>by rw[dw];exact bk q aX,cB,ax⟩
 ·rcases (ar y a7).1.1 with z|z
  ·exact absurd aI z
  ·exact z
 ·have aL:X.env.kindOf y.1=sc.names.lookup y.1:=by rw[<- uh];rfl
  rw[aL];rcases (ar y a7).2 with (z|z)|z
  ·exact absurd hf z
  ·exact .inl z
  ·exact .inr z
end
def iE{P:cu}{w:b8}{K:a'}{mg:Str->Option ao}{base:bL}{x:Str}{st:Stmt}{f:aj}{fd:er}{N ps:List Str}{k:Nat}{b:bK}(F:cK K x x st f fd)(S:cW N ps (bQ st))(bd:f7 K fd ps [])(m:mg x=some (.ref f))
  (af:∀(b3:ao) (A:cp) (outer:List Env) (s:aH) (H:aB) (E:e5),c9 k (A.deeper (envOfC x (bQ st) s.heap.objs.size f b3)) ->
   i7 (fm dC P w K mg base N x (bQ st) f b3 A outer s H E).d9 (fh st) b):Cl P w K mg base x (k+1) ps.length (c5 b N.length):=.mk' (alY F S af) m F.aG bd
end
end D
end
section
namespace bu
open PySem PySem.Spec PyProof.Rows
section
variable {eT:Type}[DecidableEq eT]
noncomputable def me(kvs:List (eT×V))(k:eT):Option V:=(kvs.find? λdg=>decide (dg.1=k)).map (·.2)
noncomputable def putK(kvs:List (eT×V))(k:eT)(v:V):List (eT×V):=
 if (kvs.any λdg=>decide (dg.1=k))=true then kvs.map (λdg=>if dg.1=k then (dg.1,v) else dg) else kvs++[(k,v)]
def L7{p:eT×V}{r:List (eT×V)}{k:eT}(e:p.1=k):me (p::r) k=some p.2:=by simp[me,rb,e]
def L8{p:eT×V}{r:List (eT×V)}{k:eT}(e:¬p.1=k):me (p::r) k=me r k:=by simp[me,rb,e]
theorem Sv(k:eT):∀kvs:List (eT×V),(kvs.any λdg=>decide (dg.1=k))=(me kvs k).isSome
| []=>rfl
|p::r=>by
  rw[List.any_cons];by_cases e:p.1=k
  ·simp only[L7 e,decide_eq_true e,Bool.true_or,Option.isSome_some]
  ·rw[L8 e,decide_eq_false e,Bool.false_or];exact Sv k r
def Rk(kvs:List (eT×V))(k:eT)(v:V):(putK kvs k v).length<=kvs.length+1:=by
 unfold putK;split
 ·rw[f5];omega
 ·rw[n7,fy,n_];omega
def kC._F{o:Option V}{u:Option ao}(r:kC o u):o.isSome=u.isSome:=by
 cases o with
|none=>cases u with
  |none=>rfl
  |some _=>exact (show False from r).elim
|some _=>cases u with
  |none=>exact (show False from r).elim
  |some _=>rfl
def hB.val{kvs:List (eT×V)}{vs:List (eT×ao)}(r:hB kvs vs)(k:eT):kC (me kvs k) (valueAt vs k):=by
 unfold hB at r
 induction r with
|nil=>exact True.intro
| @cons p q ps mZ h t bM=>
  obtain⟨ah,ar⟩:=h;by_cases e:p.1=k
  ·have bx:q.1=k:=ah.symm.trans e;have b:valueAt (q::mZ) k=some q.2:=by simp[valueAt,rb,bx]
   rw[L7 e,b];exact ar
  ·have bx:¬q.1=k:=λz=>e (ah.trans z);have b:valueAt (q::mZ) k=valueAt mZ k:=by simp[valueAt,rb,bx]
   rw[L8 e,b];exact bM
theorem hB.any{kvs:List (eT×V)}{vs:List (eT×ao)}(r:hB kvs vs)(k:eT):(kvs.any λdg=>decide (dg.1=k))=vs.any λdg=>decide (dg.1=k):=by
 unfold hB at r
 induction r with
|nil=>rfl
|cons h t bM=>rw[List.any_cons,List.any_cons,bM,h.1]
def hB.Kn{kvs:List (eT×V)}{vs:List (eT×ao)}(r:hB kvs vs)(k:eT){y:V}{u:ao}(bD:RelV y u):
  hB (kvs.map λdg=>if dg.1=k then (dg.1,y) else dg) (vs.map λdg=>if dg.1=k then (dg.1,u) else dg):=by
 unfold hB at r ⊢
 induction r with
|nil=>exact .nil
| @cons p q ps mZ h t bM=>
  rw[c8,c8];refine .cons ?_ bM;obtain⟨ah,ar⟩:=h;by_cases e:p.1=k
  ·rw[if_pos e,if_pos (ah.symm.trans e)];exact⟨ah,bD⟩
  ·rw[if_neg e,if_neg (λz=>e (ah.trans z))];exact⟨ah,ar⟩
def hB.put{kvs:List (eT×V)}{vs:List (eT×ao)}(r:hB kvs vs)(k:eT){y:V}{u:ao}(bD:RelV y u):hB (putK kvs k y) (stored vs k u):=by
 unfold putK stored;rw[r.any k];by_cases e:(vs.any λdg=>decide (dg.1=k))=true
 ·rw[if_pos e,if_pos e];exact r.Kn k bD
 ·rw[if_neg e,if_neg e];exact Paired.snoc r ⟨rfl,bD⟩
theorem hB.length{kvs:List (eT×V)}{vs:List (eT×ao)}(r:hB kvs vs):kvs.length=vs.length:=Paired.length r
end
def Er{P:cu}{w:b8}{k:Key}{u:ao}(r:RelV (dD k) u):(hQ P w).is k u=true:=by
 cases k with
|inl i=>obtain⟨t,e⟩:=(show ∃t,u=Value.int i t from r);subst e;exact Rh P w i t
|inr x=>obtain⟨t,e⟩:=(show ∃t,u=Value.str x t from r);subst e;exact Rg P w x t
theorem R5{P:cu}{w:b8}:∀{bj:List Key} {us:List ao},Vals (bj.map dD) us->ItemsAre (hQ P w) bj us
| [],_,r=>by rw[jk] at r;cases r;exact .nil
|k::bj,_,r=>by
  rw[c8] at r;cases r with
  |cons h t=>exact .cons (Er h) (R5 t)
abbrev KT(H:aB):List (List Key×V)->List (List Key×aj×ao)->Prop:=Paired λp q=>p.1=q.1/\H q.2.1=some (.tup (p.1.map dD))/\RelV p.2 q.2.2
def KT.val{H:aB}{kvs:List (List Key×V)}{xs:List (List Key×aj×ao)}(r:KT H kvs xs)(k:List Key):kC (me kvs k) ((atKey xs k).map (·.2)):=by
 induction r with
|nil=>exact True.intro
| @cons p q ps mZ h t bM=>
  obtain⟨ah,_,ar⟩:=h;by_cases e:p.1=k
  ·have bx:q.1=k:=ah.symm.trans e;have b:atKey (q::mZ) k=some q.2:=by simp[atKey,rb,bx]
   rw[L7 e,b];exact ar
  ·have bx:¬q.1=k:=λz=>e (ah.trans z);have b:atKey (q::mZ) k=atKey mZ k:=by simp[atKey,rb,bx]
   rw[L8 e,b];exact bM
def KT.Kn{H:aB}{kvs:List (List Key×V)}{xs:List (List Key×aj×ao)}(r:KT H kvs xs)(k:List Key){y:V}{u:ao}(bD:RelV y u):
  KT H (kvs.map λdg=>if dg.1=k then (dg.1,y) else dg) (xs.map (putAt k u)):=by
 induction r with
|nil=>exact .nil
| @cons p q ps mZ h t bM=>
  rw[c8,c8];refine .cons ?_ bM;obtain⟨ah,ar,bk⟩:=h;unfold putAt;by_cases e:p.1=k
  ·rw[if_pos e,if_pos (ah.symm.trans e)];exact⟨ah,ar,bD⟩
  ·rw[if_neg e,if_neg (λz=>e (ah.trans z))];exact⟨ah,ar,bk⟩
def KT.put{H:aB}{kvs:List (List Key×V)}{xs:List (List Key×aj×ao)}(r:KT H kvs xs)(k:List Key){b:aj}{y:V}{u:ao}(af:H b=some (.tup (k.map dD)))(bD:RelV y u):
  KT H (putK kvs k y) (storedH xs k b u):=by
 have e:(kvs.any λdg=>decide (dg.1=k))=(atKey xs k).isSome:=by
  rw[Sv,(r.val k)._F,Option.isSome_map]
 unfold putK storedH;rw[e];by_cases q:(atKey xs k).isSome=true
 ·rw[if_pos q,if_pos q];exact r.Kn k bD
 ·rw[if_neg q,if_neg q];exact Paired.snoc r ⟨rfl,af,bD⟩
def KT.keeps{H ag:aB}{kvs:List (List Key×V)}{xs:List (List Key×aj×ao)}(r:KT H kvs xs)(bp:∀b ys,H b=some (.tup ys)->ag b=some (.tup ys)):KT ag kvs xs:=
 Paired.JA r λ_ _ z=>⟨z.1,bp _ _ z.2.1,z.2.2⟩
section
variable {P:cu}{w:b8}{H:aB}{h:bL}{a:aj}
def Ur{u:ed}(ok:eL P w H h)(e:fT H a u):hV P w H h a u:=e.ok ok
def Nf{kvs:List (Key×V)}(ok:eL P w H h)(e:fT H a (.fo kvs)):kvs.length<=cn/\(a==sysModules)=false/\∃vs,hB kvs vs/\h.DictOf (hQ P w) a vs:=
 show hV P w H h a (.fo kvs) from Ur ok e
def amM{kvs:List (Key×V)}(ok:eL P w H h)(e:H a=some (.fo kvs)):kvs.length<=cn/\(a==sysModules)=false/\∃vs,hB kvs vs/\h.DictOf (hQ P w) a vs:=Nf ok (.inl e)
def M1{bj:List Key}(ok:eL P w H h)(e:H a=some (.tup (bj.map dD))):(tupleKind (hQ P w)).is h bj a:=by
 obtain⟨_,its,r,o,ah,ar,n,bk⟩:=(show hV P w H h a (.tup (bj.map dD)) from ok a _ e);exact⟨o,its.toArray,n,ah,ar,bk,by simpa using R5 r⟩
def Nd{kvs:List (List Key×V)}(ok:eL P w H h)(e:fT H a (.nF kvs)):kvs.length<=cn/\(a==sysModules)=false /\
  ∃xs,KT H kvs xs/\h.DictOfH (tupleKind (hQ P w)) a xs:=by
 obtain⟨z,y,xs,r,o,es,ep,ah,ar,bk,cB,gf⟩:=(show hV P w H h a (.nF kvs) from Ur ok e);refine⟨z,y,xs,r,o,es,ep,ah,ar,bk,cB,λx hx=>?_,gf⟩;have all:∀{l:List (List Key×V)} {m:List (List Key×aj×ao)},KT H l m->∀x∈m,(tupleKind (hQ P w)).is h x.1 x.2.1:=by
  intro l m q
  induction q with
  |nil=>intro x hx;exact nomatch hx
  | @cons p q ps mZ aX t bM=>
   intro x hx;rcases cN.mp hx with e|hx
   ·subst e;exact M1 ok (by rw[<- aX.1];exact aX.2.1)
   ·exact bM x hx
 exact all r x hx
def amL{kvs:List (List Key×V)}(ok:eL P w H h)(e:H a=some (.nF kvs)):kvs.length<=cn/\(a==sysModules)=false /\
  ∃xs,KT H kvs xs/\h.DictOfH (tupleKind (hQ P w)) a xs:=Nd ok (.inl e)
end
noncomputable def rH(H:aB)(a:aj)(y:V)(r:Option V):Prop:=
 (∃kvs k,fT H a (.fo kvs)/\y=dD k/\r=me kvs k)\/∃kvs k b,fT H a (.nF kvs)/\y=.ref b/\H b=some (.tup (k.map dD))/\r=me kvs k
noncomputable def tA(H:aB)(a:aj)(y v:V)(ag:aB):Prop:=
 (∃kvs k,H a=some (.fo kvs)/\y=dD k/\kvs.length<cn/\ag=upd H a (.fo (putK kvs k v))) \/
 ∃kvs k b,H a=some (.nF kvs)/\y=.ref b/\H b=some (.tup (k.map dD))/\kvs.length<cn/\ag=upd H a (.nF (putK kvs k v))
theorem rH.k{H:aB}{a:aj}{kvs:List (Key×V)}{k:Key}(e:H a=some (.fo kvs)):rH H a (dD k) (me kvs k):=.inl ⟨kvs,k,.inl e,rfl,rfl⟩
theorem tA.k{H:aB}{a:aj}{kvs:List (Key×V)}{k:Key}{v:V}(e:H a=some (.fo kvs))(aI:kvs.length<cn):tA H a (dD k) v (upd H a (.fo (putK kvs k v))):=.inl ⟨kvs,k,e,rfl,aI,rfl⟩
section
variable {X:aY}{ak:List (aj×Obj)}{σ:St}{H:aB}{s:aH}{a:aj}{y v:V}{u r:ao}{o:Option V}{A:cp}{E:ao->aH->Prop}
def Inv.big(I:Inv X ak σ H s):sysModules<s.heap.objs.size:=by
 have h:iY<s.heap.objs.size:=(I.mod.glob.keeps I.gI).lt;exact Nat.lt_trans (by decide) h
def Sb{Q:ao->aH->Prop}(b1:A.units+1<cLine)(I:Inv X ak σ H s)(g:rH H a y (some v))(bD:RelV y u)(h:∀df s',Inv X ak σ H s'->RelV v df->Q df s'):
  a0 (unop%Wk 0) A (getItem (.ref a) u) Q E s:=by
 rcases g with ⟨kvs,k,e,fI,l⟩|⟨kvs,k,b,e,fI,d4,l⟩
 ·subst fI;obtain⟨z,hd,vs,rel,dd⟩:=Nf I.bF e;obtain⟨df,hw,lH⟩:=kC.some_of (v:=v) (o:=valueAt vs k) (by rw[l];exact rel.val k);exact wpAny_getItem_of (Er bD) dd.mapOf hw (h df _ (I.tok _) lH)
 ·subst fI;cases (show u=Value.ref b from bD);obtain⟨z,hd,xs,rel,dd⟩:=Nd I.bF e;obtain⟨df,hw,lH⟩:=kC.some_of (v:=v) (o:=(atKey xs k).map (·.2)) (by rw[l];exact rel.val k);obtain⟨p,aM,uf⟩:=dR.mp hw;refine wpAny_getItem_heap (tupleKind_room_in1 b1) (M1 I.bF d4) dd aM ?_;rw[uf];exact h df _ (I.tok _) lH
def Tr{h':bL}{t':Nat}{dA:ed}(I:Inv X ak σ H s)(l9:xC (H a))(az:Heap.SameBut a s.heap h')(he:∃q,h'.get? a=some q)(new:hV X.prog X.w (upd H a dA) h' a dA):
  Inv X ak σ (upd H a dA) {s with heap:=h',toks:=t'}:=
 I.write (x:=a) (e:=a) l9 (.inl rfl) (λb q af z=>(az.2 b af).trans z) he new
def alZ{P:cu}{w:b8}{ag:aB}{h':bL}{kvs:List (Key×V)}{vs:List (Key×ao)}(z:kvs.length<=cn)(hd:(a==sysModules)=false)(rel:hB kvs vs)(dd:h'.DictOf (hQ P w) a vs):
  hV P w ag h' a (.fo kvs):=⟨z,hd,vs,rel,dd⟩
def Sa{ag:aB}{Q:Unit->aH->Prop}(b1:A.units+1<cLine)(I:Inv X ak σ H s)(g:tA H a y v ag)(bD:RelV y u)(bW:RelV v r)(h:∀s',Inv X ak σ ag s'->Q () s'):
  a0 (unop%Wk 0) A (setItem (.ref a) u r) Q E s:=by
 rcases g with ⟨kvs,k,e,fI,l,xU⟩|⟨kvs,k,b,e,fI,d4,l,xU⟩
 ·subst fI xU;obtain⟨z,hd,vs,rel,dd⟩:=amM I.bF e;have au:vs.length<=cn:=by rw[<- rel.length];exact z
  have aI:(putK kvs k v).length<=cn:=by have:=Rk kvs k v;omega
  refine wpAny_setItem_pairs (hsz:=au) (Er bD) dd λh' AJ az=>h _ ?_
  have he:∃q,h'.get? a=some q:=let ⟨q,_,_,aX,_⟩:=AJ;⟨q,aX⟩;exact Tr I (by rw[e];exact True.intro) az he (alZ aI hd (rel.put k bW) AJ)
 ·subst fI xU;cases (show u=Value.ref b from bD);obtain⟨z,hd,xs,rel,dd⟩:=amL I.bF e;have au:xs.length<=cn:=by rw[<- Paired.length rel];exact z
  have aI:(putK kvs k v).length<=cn:=by have:=Rk kvs k v;omega
  refine wpAny_setItem_heap (hsz:=au) (tupleKind_room_in1 b1) (M1 I.bF d4) dd λh' AJ az=>h _ ?_
  obtain⟨q,es,ep,aX,ar,bk,cB,_,gf⟩:=AJ;refine Tr I (by rw[e];exact True.intro) az ⟨q,aX⟩ ⟨aI,hd,_,(rel.put k d4 bW).keeps λc ys fa=>?_,q,es,ep,aX,ar,bk,cB,gf⟩;rw[cR (amD fa e (λz=>nomatch z))];exact fa
end
noncomputable def ER(i:bt):Prop:=∀e7 kN,subscripted i false e7 kN=operate [e7,kN] (getItem e7 kN)
def aj9{prog:cu}{w:b8}{A:cp}{E:ao->aH->Prop}{s:aH}{env:Env}{value slice:bt}{pos:Pos}{T id:String}{Q:ao->aH->Prop}
  (aI:typeLookup (.type T) "__getitem__"=pure (some (.builtin id))) (az:ER slice)
  (h:a0 (bA prog w) A (eval value env) (λo cZ=>a0 (bA prog w) A (eval slice env) (λi jZ=>jZ.TypeIs o T/\a0 (bA prog w) A (getItem o i) Q E jZ) E cZ) E s):
  a0 (bA prog w) A (eval (.Subscript value slice pos) env) Q E s:=by
 refine Subscript_ (et h (λo cZ e2=>et e2 (λi jZ ki=>?_) λ_ _ x=>x) λ_ _ x=>x)
 obtain⟨cU,ki⟩:=ki;unfold subscriptTail;refine aO ?_;rw[getitemInPython_of_ne cU.not_modules];refine aO (wpAny_specialOf cU aI ?_);have fin:a0 (bA prog w) A (subscripted slice false o i) (λr p_=>a0 (bA prog w) A (letTemporaryGo value o r >>= λ_=>pure r) Q E p_) E jZ:=by
  rw[az o i];exact wpAny_operating (et ki (λr p_ iS=>aO (wpAny_letTemporaryGo (bX iS))) λ_ _ x=>x)
 first
  |exact bX (aO fin)
  |exact aO (bX (aO fin))
  |exact aO fin
def ag'{X:aY}{ak:List (aj×Obj)}{σ:St}{H:aB}{s:aH}{a:aj}{y:V}{o:Option V}(I:Inv X ak σ H s)(g:rH H a y o):s.TypeIs (.ref a) "dict":=by
 rcases g with ⟨kvs,k,e,_,_⟩|⟨kvs,k,b,e,_,_,_⟩
 ·obtain⟨_,_,vs,_,dd⟩:=Nf I.bF e;exact dd.typeIs
 ·obtain⟨_,_,xs,_,dd⟩:=Nd I.bF e;exact dd.typeIs
noncomputable def amf(n3 ty:TE):TE:=λσ H Q=>n3 σ H λx H1=>ty σ H1 λy bw=>∃a v,x=.ref a/\rH bw a y (some v)/\Q v bw
noncomputable def amm(n3 ty je:TE):fU:=λD σ H=>je σ H λv H1=>n3 σ H1 λx bw=>ty σ bw λy eZ=>∃a lZ,x=.ref a/\tA eZ a y v lZ/\D.bG σ lZ
noncomputable def amn(n3 ty je:TE)(jD:V->V->aB->c0->Prop):fU:=λD σ H=>n3 σ H λx H1=>ty σ H1 λy bw=>∃a v,x=.ref a/\rH bw a y (some v) /\
 je σ bw λpd eZ=>jD v pd eZ λz lZ=>∃k',tA lZ a y z k'/\D.bG σ k'
section
variable {X:aY}{o i e value:bt}{pos pos' KP:Pos}{n3 ty je:TE}
def akt(b1:X.A.units+1<cLine)(aK:b0 X o n3)(aQ:b0 X i ty)(az:ER i):b0 X (.Subscript o i pos) (amf n3 ty):=by
 intro ak s σ H Q I h;refine aj9 PySem.F.slot_dict_getitem.lookup az (cH (aK ak s σ H _ I h) λu s1 ⟨x,H1,ba,aU,aP⟩=>cH (aQ ak s1 σ H1 _ ba aP) λkN s2 hqq=>?_);obtain⟨y,bw,cq,bD,a,v,ex,g,bf⟩:=hqq;subst ex;obtain rfl:u=Value.ref a:=aU;exact⟨ag' cq g,Sb b1 cq g bD λdf s3 ej lH=>⟨v,bw,ej,lH,bf⟩⟩
def akk(b1:X.A.units+1<cLine)(aK:b0 X o n3)(aQ:b0 X i ty)(bh:b0 X value je)(az:kr value (some (.Subscript o i pos')) pos.line X.env=pure false):
  hY X (.Assign [.Subscript o i pos'] value pos) (amm n3 ty je):=by
 intro ak s σ H D I h;refine wpAny_Assign_Subscript (cH (bh ak s σ H _ I h) λr s1 ⟨v,H1,ba,bW,aP⟩=>cH (aK ak s1 σ H1 _ ba aP) λu s2 ⟨x,bw,cq,aU,bf⟩=>cH (aQ ak s2 σ bw _ cq bf) λkN s3 hqq=>?_) az;obtain⟨y,eZ,ej,bD,a,lZ,ex,g,dc⟩:=hqq;subst ex;obtain rfl:u=Value.ref a:=aU;exact Sa b1 ej g bD bW λs4 mG=>⟨σ,lZ,mG,dc⟩
def akl{op:Operator}{jD:V->V->aB->c0->Prop}(b1:X.A.units+1<cLine)(aK:b0 X o n3)(aQ:b0 X i ty)(bh:b0 X value je)(HH:EH X op jD)
  (aA:∀e7 kN new,augStore i e7 kN new=(do holding [new,e7,kN] (setItem e7 kN new);release [new,e7,kN] [];pure .next)):hY X (.AugAssign (.Subscript o i KP) op value pos) (amn n3 ty je jD):=by
 intro ak s σ H D I h;refine wpAny_AugAssign_SubscriptAny (cH (aK ak s σ H _ I h) λu s1 ⟨x,H1,ba,aU,aP⟩=>cH (aQ ak s1 σ H1 _ ba aP) λkN s2 hqq=>?_) aA;obtain⟨y,bw,cq,bD,a,v,ex,g,bf⟩:=hqq;subst ex;obtain rfl:u=Value.ref a:=aU;refine Sb b1 cq g bD λdf s3 ej lH=>cH (bh ak s3 σ bw _ ej bf) λo8 s4 ⟨pd,eZ,mG,adV,dc⟩=>cH (HH ak s4 σ eZ v pd df o8 _ mG lH adV dc) λCN s5 hqq=>?_;obtain⟨z,lZ,tC,Kr,k',nJ,jB⟩:=hqq;exact Sa b1 tC nJ bD Kr λdM xy=>⟨σ,k',xy,jB⟩
end
end bu
end
section
namespace D
open PySem PySem.Spec PyProof.Rows bu
variable [cD]
section
variable {K:a'}{F:aj->Prop}{H:aB}
theorem el.get{k:D.Key}{t:T}:∀{kvs:List (D.Key×T)} {vs:List (D.Key×V)},el K F H kvs vs->D.getD kvs k=some t->∃v,me vs k=some v/\Rep K F H t v
| [],vs,h,e=>by cases e
|p::r,vs,h,e=>by
  obtain⟨v,w,rfl,q,z⟩:=h;simp only[D.getD,me,rb] at e ⊢;by_cases bx:p.1=k
  ·simp[bx] at e ⊢;subst e;exact q
  ·simp[bx] at e ⊢;have:=el.get (k:=k) (t:=t) z (by simpa [D.getD] using e);simpa [me] using this
theorem el.length:∀{kvs:List (D.Key×T)} {vs:List (D.Key×V)},el K F H kvs vs->kvs.length=vs.length
| [],vs,h=>by
  have:vs=[]:=h;subst this;rfl
|p::r,vs,h=>by
  obtain⟨v,w,rfl,q,z⟩:=h;simp[el.length z]
theorem el.append:∀{kvs us:List (D.Key×T)} {vs ws:List (D.Key×V)},el K F H kvs vs->el K F H us ws->el K F H (kvs++us) (vs++ws)
| [],us,vs,ws,h,r=>by
  have:vs=[]:=h;subst this;exact r
|p::q,us,vs,ws,h,r=>by
  obtain⟨v,w,rfl,eO,z⟩:=h;exact⟨v,w++ws,rfl,eO,el.append z r⟩
theorem el.JB{k:D.Key}{t:T}{v:V}:∀{kvs:List (D.Key×T)} {vs:List (D.Key×V)},el K F H kvs vs->Rep K F H t v->el K F H (kvs.map λp=>if p.1=k then (k,t) else p) (vs.map λdg=>if dg.1=k then (dg.1,v) else dg)
| [],vs,h,q=>by
  have:vs=[]:=h;subst this;rfl
|p::r,vs,h,q=>by
  obtain⟨hM,w,rfl,eO,z⟩:=h;simp only[c8];by_cases e:p.1=k
  ·rw[if_pos e,if_pos e];exact⟨v,_,by rw[e],q,el.JB z q⟩
  ·rw[if_neg e,if_neg e];exact⟨hM,_,rfl,eO,el.JB z q⟩
def el.put{k:D.Key}{t:T}{v:V}{kvs:List (D.Key×T)}{vs:List (D.Key×V)}(h:el K F H kvs vs)(q:Rep K F H t v):el K F H (putD kvs k t) (putK vs k v):=by
 have aA:(kvs.any λp=>decide (p.1=k))=(vs.any λdg=>decide (dg.1=k)):=by
  clear q
  induction kvs generalizing vs with
  |nil=>
   have:vs=[]:=h;subst this;rfl
  |cons p r bM=>
   obtain⟨v,w,rfl,eO,z⟩:=h;simp only[List.any_cons,bM z]
 unfold putD putK;rw[aA];split
 ·exact el.JB h q
 ·exact h.append ⟨v,[],rfl,q,rfl⟩
def vi{t:T}{k:D.Key}{v:V}{O:aj->Prop}(e:iD t=some k)(r:gq K O F H t v):v=dD k:=by
 unfold iD at e;split at e
 ·cases e
  exact r.int
 ·cases e
  exact r.str
 ·cases e
end
end D
end
section
namespace D
open PySem
variable [cD]
end D
end
section
namespace D
open PySem PySem.Spec PyProof.Rows bu
section
variable [cD]
theorem T2{α β:Type}{R:α->β->Prop}:∀{l:List α} {bj:List β},Paired R l bj->l.length=bj.length
|_,_,.nil=>rfl
|_,_,.cons a b=>by simp[T2 b]
section
variable {prog:cu}{w:b8}{K:Type}[DecidableEq K](knd:PySem.KeyKind prog w K)
variable {knd}{A:cp}{E:ao->aH->Prop}{s:aH}
noncomputable def vy(knd:PySem.KeyKind prog w K)(v:ao)(k:K):Prop:=knd.is k v=true/\v.scannable=true
end
end
section
variable [cD]
section
variable {prog:cu}{w:b8}{K:Type}[DecidableEq K]{knd:PySem.KeyKind prog w K}{A:cp}{E:ao->aH->Prop}{s:aH}{a:aj}{bj:List K}
def ahb{R:List ao->aH->Prop}{T:String}{r d:aj}{n:Nat}{P:Nat->ao->Prop}{tD:bL->Prop}(W:PySem.W.KdlSrc prog w T r d n P tD)(cM:A.handled=none)(bF:tD s.heap)(bc:n<=cn)
  (h:∀(h':bL) (tk:Nat) (acc:Array ao),(unop%Wh 0)->s.heap.objs.size<=h'.objs.size->ItemsOf P acc n->R acc.toList {s with heap:=h',toks:=tk}):
  a0 (bA prog w) A (collect (.ref r)) R E s:=by
 have d7:=W.there _ bF;unfold collect;refine aO (wpAny_runValue (ml entry_proto_collect' ?_));rw[anG PySem.F.plain_proto_collect _];show a0 _ A.in1 (newList [] >>= λl=>again (.builtin "list.__iadd__" ⟨[l,.ref r],[]⟩)) _ _ s;refine aO (qe ?_);refine bX ⟨nf PySem.F.plain_list_iadd _,ml entry_list_iadd' ?_⟩;rw[anG PySem.F.plain_list_iadd _];have Zg:(s.heap.push {cls:=.type "list",data:=.seq ([]:List ao).toArray}).get? s.heap.objs.size=some {cls:=.type "list",data:=.seq #[]}:=fx _ rfl;show a0 _ A.in1 (Builtin.List.listExtendWith (unop%WB 0) (.ref r) (unop%WB 0)) _ _ _;have key:=PySem.W.kdl_extend (A:=A) (s:={s with heap:=s.heap.push {cls:=.type "list",data:=.seq ([]:List ao).toArray} })
  (R:=λ(q:Result) (s':aH)=>∃(h':bL) (tk:Nat) (rU:Array ao) (bZ:Nat),q=.ok (.ret (unop%WB 0))/\s'={s with heap:=h',toks:=tk} /\
   (∀b o,s.heap.get? b=some o->h'.get? b=some o)/\h'.get? s.heap.objs.size=some {cls:=.type "list",dict:=none,data:=.seq rU bZ,slots:=#[]}/\ItemsOf P rU n)
  W cM (W.keep _ _ bF λb _ o e=>cQ _ e) s.heap.objs.size (hO d7.1) (hO d7.2) (unop%WB 0) 0 Zg
  (λh' tk rU bZ aL iu mR=>⟨h',tk,rU,bZ,rfl,rfl,λb o e=>aL b o (eQ (c2 e)) (cQ _ e),iu,mR⟩) bc
 refine et key (λfin s' x=>?_) λe s' x=>?_
 ·cases fin with
  |done f=>
   obtain⟨h',tk,rU,bZ,e,rfl,aL,iu,mR⟩:=x;cases e;show a0 _ A (load s.heap.objs.size >>= _) _ _ _;refine aO (wpAny_load iu ?_);exact bX (h h' tk rU aL (Nat.le_of_lt (c2 iu)) mR)
  |again c₁=>
   refine⟨x.1,nd x.2 λq jZ y=>?_⟩
   obtain⟨h',tk,rU,bZ,rfl,rfl,aL,iu,mR⟩:=y;show a0 _ A (load s.heap.objs.size >>= _) _ _ _;refine aO (wpAny_load iu ?_);exact bX (h h' tk rU aL (Nat.le_of_lt (c2 iu)) mR)
 ·obtain⟨_,_,_,_,bx,_⟩:=x;cases bx
end
end
section
variable [cD]
theorem Lk{α:Type}{r:α->α->Prop}(NN:∀a b,r a b->r b a->a=b):∀{l m:List α},l.Perm m->l.Pairwise r->m.Pairwise r->l=m
| [],m,p,_,_=>(List.Perm.nil_eq p)
|a::l,m,p,ah,ar=>by
  cases m with
  |nil=>exact absurd p.length_eq (by simp)
  |cons b m=>
   have Zk:a=b:=by
    have aA:a∈b::m:=p.mem_iff.mp (by simp);have af:b∈a::l:=p.mem_iff.mpr (by simp);rcases cN.mp aA with q|q
    ·exact q
    ·rcases cN.mp af with z|z
     ·exact z.symm
     ·exact NN a b ((lM.mp ah).1 b z) ((lM.mp ar).1 a q)
   subst Zk;rw[Lk NN (List.perm_cons a |>.mp p) (lM.mp ah).2 (lM.mp ar).2]
theorem L2(x:Int):∀l:List Int,(insI x l).Perm (x::l)
| []=>.rfl
|y::ys=>by
  unfold insI;split
  ·exact .rfl
  ·exact ((L2 x ys).cons y).trans (.swap _ _ _)
theorem Dx:∀l:List Int,(tg l).Perm l
| []=>.rfl
|x::xs=>(L2 x _).trans ((Dx xs).cons x)
theorem Tj(x:Int):∀{l:List Int},l.Pairwise (·<=·)->(insI x l).Pairwise (·<=·)
| [],_=>by simp[insI]
|y::ys,h=>by
  unfold insI;have h':=lM.mp h;split
  next q=>exact lM.mpr ⟨λz au=>by
   rcases cN.mp au with rfl|au
   ·exact q
   ·exact Int.le_trans q (h'.1 z au),h⟩
  next q=>exact lM.mpr ⟨λz au=>by
   rcases cN.mp ((L2 x ys).mem_iff.mp au) with rfl|au
   ·omega
   ·exact h'.1 z au,Tj x h'.2⟩
theorem L':∀l:List Int,(tg l).Pairwise (·<=·)
| []=>.nil
|x::xs=>Tj x (L' xs)
def Sz{l m:List Int}(p:l.Perm m)(h:l.Pairwise (·<=·)):l=tg m:=Lk (λa b ah ar=>Int.le_antisymm ah ar) (p.trans (Dx m).symm) h (L' m)
def agO{l m:List Int}(p:l.Perm m):tg l=tg m:=Sz ((Dx l).trans p) (L' l)
abbrev jE(x y:Str):Prop:=iC y x=false
def ajb(x y:Str):iC x y=ltCps x.cps.toList y.cps.toList:=(ltCps_eq _ _).symm
def aie{x y:Str}(h:iC x y=true):jE x y:=by
 unfold jE iC at *;simp only[decide_eq_true_eq,decide_eq_false_iff_not] at *;exact List.lt_asymm h
def RX{x y z:Str}(ah:jE x y)(ar:jE y z):jE x z:=by
 unfold jE iC at *;simp only[decide_eq_false_iff_not] at *;exact List.not_lt.mpr (List.le_trans (List.not_lt.mp ah) (List.not_lt.mp ar))
def aji{x y:Str}(ah:jE x y)(ar:jE y x):x=y:=by
 unfold jE iC at *;simp only[decide_eq_false_iff_not] at *;have e:x.cps.toList=y.cps.toList:=List.le_antisymm (List.not_lt.mp ah) (List.not_lt.mp ar);cases x;cases y;simp only[Array.toList_inj] at e;exact congrArg _ e
theorem L1(x:Str):∀l:List Str,(uq x l).Perm (x::l)
| []=>.rfl
|y::ys=>by
  unfold uq;split
  ·exact .rfl
  ·exact ((L1 x ys).cons y).trans (.swap _ _ _)
theorem wJ:∀l:List Str,(k7 l).Perm l
| []=>.rfl
|x::xs=>(L1 x _).trans ((wJ xs).cons x)
theorem Ti(x:Str):∀{l:List Str},l.Pairwise jE->(uq x l).Pairwise jE
| [],_=>by simp[uq]
|y::ys,h=>by
  unfold uq;have h':=lM.mp h;split
  next q=>
   have eO:jE x y:=by simpa [jE] using q
   exact lM.mpr ⟨λz au=>by
    rcases cN.mp au with rfl|au
    ·exact eO
    ·exact RX eO (h'.1 z au),h⟩
  next q=>
   have eO:iC y x=true:=by simpa using q
   exact lM.mpr ⟨λz au=>by
    rcases cN.mp ((L1 x ys).mem_iff.mp au) with rfl|au
    ·exact aie eO
    ·exact h'.1 z au,Ti x h'.2⟩
theorem L_:∀l:List Str,(k7 l).Pairwise jE
| []=>.nil
|x::xs=>Ti x (L_ xs)
def Sy{l m:List Str}(p:l.Perm m)(h:l.Pairwise jE):l=k7 m:=Lk (λa b ah ar=>aji ah ar) (p.trans (wJ m).symm) h (L_ m)
def agN{l m:List Str}(p:l.Perm m):k7 l=k7 m:=Sy ((wJ l).trans p) (L_ l)
theorem RA:∀(l:List Str) (p:Str),risingS p l=true->(p::l).Pairwise jE
| [],p,_=>by simp
|x::r,p,h=>by
  simp only[risingS,gV,Bool.not_eq_true'] at h;have bM:=RA r x h.2;have Po:jE p x:=by
   unfold jE;rw[ajb];exact h.1
  refine lM.mpr ⟨λz au=>?_,bM⟩
  rcases cN.mp au with rfl|au
  ·exact Po
  ·exact RX Po ((lM.mp bM).1 z au)
def aho{l:List Str}(h:sortedS l=true):l.Pairwise jE:=by
 cases l with
|nil=>exact .nil
|cons x r=>exact RA r x h
end
section
variable [cD]
section
variable {prog:cu}{w:b8}{A:cp}{E:ao->aH->Prop}{s:aH}
inductive xH:List ao->List ao->Prop where
|J6 {vs out:List ao} {ns:List Int}:IntsAre vs ns->IntsAre out (tg ns)->xH vs out
|J7 {vs out:List ao} {ss:List Str}:StrsAre vs ss->StrsAre out (k7 ss)->xH vs out
noncomputable def Mq(vs:List ao):Prop:=vs.length<64/\((∃ns,IntsAre vs ns)\/∃ss,StrsAre vs ss)
def aga{h:bL}{a:aj}{vs:List ao}{n:Nat}{out:Array ao}(aK:h.get? a=some (seqObj "list" vs.toArray n)):
  (∃e,(sortedHeap h a vs out).get? a=some (seqObj "list" out e))/\∀b o,b≠a->h.get? b=some o->(sortedHeap h a vs out).get? b=some o:=by
 have d7:=c2 aK;unfold sortedHeap;refine⟨?_,λb o af e=>?_⟩
 ·have ah:=get?_update_seq aK (λ_=>(#[]:Array ao));have ar:=cQ (seqObj "tuple" vs.toArray 0) ah;have bk:=cQ (seqObj "list" #[] 0) ar;exact⟨_,get?_update_seq bk (λ_=>out)⟩
 ·rw[kW _ _ (Ne.symm af)];exact cQ _ (cQ _ ((kW _ _ (Ne.symm af)).trans e))
def ah_{a:aj}{vs:List ao}{n:Nat}{P:Fin->aH->Prop}(aK:s.heap.get? a=some (seqObj "list" vs.toArray n))(az:Mq vs)
  (h:∀out:Array ao,xH vs out.toList->P (.done (.ret .none)) {s with heap:=sortedHeap s.heap a vs out}):a0 (bA prog w) A (Builtin.«list.sort» ⟨[.ref a],[]⟩) P E s:=by
 obtain⟨OZ,⟨ns,sb⟩|⟨ss,dP⟩⟩:=az
 ·refine list_sort_tree aK sb OZ λout J3 a1 a2 fj=>h out (.J6 sb ?_)
  rw[<- Sz a2 fj];exact a1
 ·refine list_sort_treeK strKind_oneLt aK dP.keysOf (λant anu rest e=>keyKind_strs (by rw[<- e];exact dP)) OZ λo6 aM az=>?_
  obtain⟨Ku,ah,ar,bk⟩:=sorted_out_str dP aM az;refine h _ (.J7 dP ?_);rw[<- Sy ar (aho bk)];exact ah
def agM{r:aj}{C:List ao->Prop}{Q:ao->aH->Prop}
  (ZA:∀(mF:ao->aH->Prop) (R:List ao->aH->Prop),(∀h' tk d vs,(unop%Wh 0)->s.heap.objs.size<=h'.objs.size->C vs->R vs {s with heap:=h',toks:=tk,drawn:=d})->a0 (bA prog w) A.in1 (collect (.ref r)) R mF s)
  (G7:∀vs,C vs->Mq vs)
  (h:∀h' tk d D e vs out,C vs->xH vs out->(unop%Wh 0)->s.heap.objs.size<=D->h'.get? D=some (seqObj "list" out.toArray e)->Q (.ref D) {s with heap:=h',toks:=tk,drawn:=d}):
  a0 (bA prog w) A (call (.builtin "sorted") [.ref r]) Q E s:=by
 refine Calls.call_function_entry kind_sorted plain_sorted entry_sorted (args_sorted1 _) ?_
 unfold Builtin.«sorted»;refine aO (m:=checkCount "sorted" 1 1 _) (bX ?_);refine aO (ZA _ _ λh' tk d vs aG hsz c=>?_);have az:=G7 vs c;have au:vs.length<=cn:=by
  have:=az.1;rw[jJ];omega
 refine aO (wpAny_newList ?_ au)
 have si:(h'.push (seqObj "list" vs.toArray 0)).get? h'.objs.size=some (seqObj "list" vs.toArray 0):=fx _ rfl;refine aO (ia (rh slot_list_sort ⟨_,si,rfl⟩ entry_list_sort (ah_ si az λout we=>⟨_,rfl,?_⟩) (args_list_sort _)));obtain⟨⟨e,he⟩,aL⟩:=aga (out:=out) si;refine bX ⟨_,rfl,?_⟩;exact h _ tk d h'.objs.size e vs out.toList c we (λb o q=>aL b o (eQ (c2 (aG b o q))) (cQ _ (aG b o q))) hsz he
end
section
variable {X:aY}{ak:List (aj×Obj)}{σ:bu.St}{H:aB}{s:aH}
def LZ{a:aj}{o:ed}{t':Nat}{d':Drawn}{h':bL}(I:Inv X ak σ H s)(k:∀b u,s.heap.get? b=some u->h'.get? b=some u)(aM:s.heap.objs.size<=a)(new:hV X.prog X.w (upd H a o) h' a o):
  Inv X ak σ (upd H a o) {s with heap:=h',toks:=t',drawn:=d'}:=
 I.call (ch:=[]) (g':=s.gens) (fV.laid k aM (I.bF.fresh aM)) (I.bF.laid k aM new) I.bare λ_ z=>nomatch z
theorem L0:∀{us:List ao} {ns:List Int},IntsAre us ns->Vals (ns.map V.int) us
|_,_,.nil=>.nil
|_,_,.cons n t r=>.cons ⟨t,rfl⟩ (L0 r)
theorem LP:∀{us:List ao} {ss:List Str},StrsAre us ss->Vals (ss.map V.str) us
|_,_,.nil=>.nil
|_,_,.cons n t r=>.cons ⟨t,rfl⟩ (LP r)
theorem LO:∀{us:List ao} {bj:List bu.Key},Vals (bj.map dD) us->Paired (vy (hQ X.prog X.w)) us bj
| [],[],_=>.nil
|_,.inl i::bj,.cons r rs=>by
  obtain⟨t,rfl⟩:=r;exact .cons ⟨Rh _ _ i t,rfl⟩ (LO rs)
|_,.inr x::bj,.cons r rs=>by
  obtain⟨t,rfl⟩:=r;exact .cons ⟨Rg _ _ x t,rfl⟩ (LO rs)
theorem LY:∀{us:List ao} {bj:List bu.Key} {ns:List Int},Paired (vy (hQ X.prog X.w)) us bj->bj=ns.map Sum.inl->IntsAre us ns
|_,_,[],.nil,_=>.nil
|_,_,n::ns,.cons a b,e=>by
  cases e
  have a1:=a.1;rw[RC] at a1;rcases pk a1 with ⟨i,t,aw,rfl⟩|⟨x,t,aw,rfl⟩
  ·cases aw
   exact .cons _ t (LY b rfl)
  ·cases aw
theorem LW:∀{us:List ao} {bj:List bu.Key} {ss:List Str},Paired (vy (hQ X.prog X.w)) us bj->bj=ss.map Sum.inr->StrsAre us ss
|_,_,[],.nil,_=>.nil
|_,_,n::ns,.cons a b,e=>by
  cases e
  have a1:=a.1;rw[RC] at a1;rcases pk a1 with ⟨i,t,aw,rfl⟩|⟨x,t,aw,rfl⟩
  ·cases aw
  ·cases aw
   exact .cons _ t (LW b rfl)
def Dq{α β:Type}(f:α->β):∀{l:List α} {m:List β},m.Perm (l.map f)->∃p3:List α,m=p3.map f/\p3.Perm l:=by
 intro l m p;generalize hx:l.map f=lf at p
 induction p generalizing l with
|nil=>
  rw[List.map_eq_nil_iff] at hx;subst hx;exact⟨[],rfl,.rfl⟩
|cons x _ bM=>
  cases l with
  |nil=>cases hx
  |cons a r=>
   simp only[c8,List.cons.injEq] at hx;obtain⟨p3,e,q⟩:=bM hx.2;exact⟨a::p3,by rw[c8,hx.1,e],q.cons a⟩
|swap x y r=>
  match l,hx with
  |a::b::cm,hx=>
   simp only[c8,List.cons.injEq] at hx;exact⟨b::a::cm,by rw[c8,c8,hx.1,hx.2.1,hx.2.2],.swap _ _ _⟩
|trans _ _ cC cI=>
  obtain⟨cw,aw,aP⟩:=cI hx;obtain⟨cE,aN,bf⟩:=cC aw.symm;exact⟨cE,aN,bf.trans aP⟩
noncomputable def Eh(bj:List bu.Key)(ys:List V):Prop:=(∃ns:List Int,bj=ns.map Sum.inl/\ys=(tg ns).map V.int)\/∃ss:List Str,bj=ss.map Sum.inr/\ys=(k7 ss).map V.str
def aje{vs out:List ao}{bj yA:List bu.Key}{ys:List V}(bh:Paired (vy (hQ X.prog X.w)) vs yA)(aM:yA.Perm bj)(we:xH vs out)(aL:Eh bj ys):Vals ys out:=by
 rcases aL with ⟨ns,rfl,rfl⟩|⟨ss,rfl,rfl⟩
 ·obtain⟨J3,rfl,qW⟩:=Dq Sum.inl aM;have sb:=LY bh rfl;cases we with
  |J6 a b=>
   rename_i ms
   rw[<- agO qW,show J3=ms from ?_]
   ·exact L0 b
   ·rw[<- IntsAre.numsOf sb,<- IntsAre.numsOf a]
  |J7 a b=>
   cases a with
   |nil=>
    cases sb
    have:ns=[]:=List.Perm.eq_nil qW.symm;subst this;exact LP b
   |cons x t _=>cases sb
 ·obtain⟨Ku,rfl,qW⟩:=Dq Sum.inr aM;have dP:=LW bh rfl;cases we with
  |J7 a b=>
   rename_i ms
   rw[<- agN qW,show Ku=ms from ?_]
   ·exact LP b
   ·rw[<- StrsAre.strs dP,<- StrsAre.strs a]
  |J6 a b=>
   cases a with
   |nil=>
    cases dP
    have:ss=[]:=List.Perm.eq_nil qW.symm;subst this;exact L0 b
   |cons x t _=>cases dP
def agf{vs:List ao}{bj yA:List bu.Key}{ys:List V}(au:bj.length<64)(bh:Paired (vy (hQ X.prog X.w)) vs yA)(aM:yA.Perm bj)(aL:Eh bj ys):Mq vs:=by
 refine⟨by rw[T2 bh,aM.length_eq];exact au,?_⟩
 rcases aL with ⟨ns,rfl,_⟩|⟨ss,rfl,_⟩
 ·obtain⟨J3,rfl,_⟩:=Dq Sum.inl aM;exact .inl ⟨_,LY bh rfl⟩
 ·obtain⟨Ku,rfl,_⟩:=Dq Sum.inr aM;exact .inr ⟨_,LW bh rfl⟩
def ah'{bj:List bu.Key}{ys:List V}(h:Eh bj ys):ys.length=bj.length:=by
 rcases h with ⟨ns,rfl,rfl⟩|⟨ss,rfl,rfl⟩
 ·simp[(Dx ns).length_eq]
 ·simp[(wJ ss).length_eq]
theorem Tf:∀{kvs:List (bu.Key×V)} {vs:List (bu.Key×ao)},hB kvs vs->kvs.map (·.1)=vs.map (·.1)
|_,_,.nil=>rfl
|_,_,.cons a b=>by simp[a.1,Tf b]
def agG(ax:X.calm=true):anw X (.builtin "sorted") (λxs H Q=>∃p bj ys,xs=[.ref p]/\fi X.K H p (bj.map dD)/\bj.length<64/\Eh bj ys/\∀l,H l=none->Q (.ref l) (upd H l (.lst ys))):=by
 intro ak s σ H xs us Q I r h;obtain⟨p,bj,ys,rfl,aX,au,aL,q⟩:=h;obtain⟨u,rfl,aU⟩:=rB r;cases aU;obtain⟨its,cm,pl,l4⟩:=I.list aX;have hlen:=cm.length;rw[f5] at hlen;have hit:Paired (vy (hQ X.prog X.w)) its bj:=LO (by simpa using cm);refine agM (C:=λus=>us=its) (λmF R iP=>collect_list pl.isList (iP _ s.toks s.drawn its (λb o e=>?_) ?_ rfl) (by rw[jJ];omega)) (λus b1=>by subst b1;exact agf au hit .rfl aL) λh' tk d D e us out b1 we aG anz he=>?_
 ·exact (kW _ _ (hO (c2 e))).trans (cQ _ e)
 ·rw[Heap.size_update,j2];exact qd _
 ·subst b1;exact⟨.ref D,_,LZ I (o:=.lst ys) aG anz ⟨by rw[ah' aL,jJ];omega,out,e,aje hit .rfl we aL,he⟩,rfl,q _ (I.bF.fresh anz)⟩
end
end
section
variable [cD]
theorem LQ:∀{ts:List T} {ss:List Str},vl ts=some ss->ts=ss.map .str
| [],ns,e=>by
  cases e
  rfl
|t::ts,ns,e=>by
  unfold vl at e;split at e
  ·rename_i h
   cases h
  ·rename_i h
   cases h
   simp only[dR] at e;obtain⟨r,aw,rfl⟩:=e;rw[LQ aw];rfl
  ·cases e
section
variable {K:a'}{F:aj->Prop}{H:aB}
theorem RY:∀(ns:List Int),bB K F H (ns.map .int) (ns.map V.int)
| []=>bB.nil
|n::ns=>bB.cons (by simp[Rep]) (RY ns)
theorem LR:∀(ns:List Str),bB K F H (ns.map .str) (ns.map V.str)
| []=>bB.nil
|n::ns=>bB.cons (by simp[Rep]) (LR ns)
theorem LG:∀{ns:List Str} {vs:List V},bB K F H (ns.map .str) vs->vs=ns.map V.str
| [],vs,h=>by simpa [bB] using h
|n::ns,vs,h=>by
  simp only[c8,bB,Rep] at h;obtain⟨v,r,rfl,rfl,z⟩:=h;rw[LG z];rfl
end
end
section
variable [cD]
section
variable {X:aY}{a b e:bt}{es rest:List bt}{f g:bY}{aF:List bY}{p eN pos nW:Pos}
def TU{op:BoolOp}(h:cO X a f):cO X (.BoolOp op [a] pos) f:=TZ h
def amt{op:BoolOp}(h:cO X a f):cO X (.BoolOp op [a] pos) f:=TZ h
def Uv(aA:cO X a f)(af:cO X (.BoolOp .And (b::rest) pos) g):cO X (.BoolOp .And (a::b::rest) pos) (rX f g):=eu (alD aA af)<|by
 rintro σ H Q ⟨aJ,aT,O,F,ai,t,r,e,k⟩
 simp only[rX,cf] at e;obtain⟨x,ex,e⟩:=e;refine⟨aJ,aT,O,F,ai,x,r,ex,λv a6 H1 aS aU=>?_⟩;split at e
 ·simp only[Rep] at aU;refine⟨true,aU,?_⟩;rw[if_pos rfl];exact⟨aJ,aT,O,a6,ai,t,r.ext aS,e,λv aE ag bN q=>k v aE ag (aS.trans bN) q⟩
 ·cases e
  simp only[Rep] at aU;refine⟨false,aU,?_⟩;rw[if_neg (by decide)];exact k _ a6 H1 aS (by simp[Rep])
 ·cases e
def adE(aA:cO X a f)(af:cO X (.BoolOp .Or (b::rest) pos) g):cO X (.BoolOp .Or (a::b::rest) pos) (yN f g):=eu (amy aA af)<|by
 rintro σ H Q ⟨aJ,aT,O,F,ai,t,r,e,k⟩
 simp only[yN,cf] at e;obtain⟨x,ex,e⟩:=e;refine⟨aJ,aT,O,F,ai,x,r,ex,λv a6 H1 aS aU=>?_⟩;split at e
 ·simp only[Rep] at aU;refine⟨false,aU,?_⟩;rw[if_neg (by decide)];exact⟨aJ,aT,O,a6,ai,t,r.ext aS,e,λv aE ag bN q=>k v aE ag (aS.trans bN) q⟩
 ·cases e
  simp only[Rep] at aU;refine⟨true,aU,?_⟩;rw[if_pos rfl];exact k _ a6 H1 aS (by simp[Rep])
 ·cases e
noncomputable def CE(K:a')(f:Ev->Option (Option Int)):cL:=λσ H Q=>∃aJ aT O F ai i,cJ K aJ aT O F H ai σ/\f ai=some i/\∀aE ag,Ext F H aE ag->Q i ag
def Uj{x:Option bt}{t t':cL}(h:pH X x t)(k:∀σ H Q,t' σ H Q->t σ H Q):pH X x t':=λak s σ H Q I q=>h ak s σ H Q I (k σ H Q q)
def alN:pH X none (CE X.K optN):=Uj akn<|by
 rintro σ H Q ⟨aJ,aT,O,F,ai,i,r,e,k⟩
 cases e
 exact k F H (Ext.refl r.cb)
def alM(h:ey X a f):pH X (some a) (CE X.K (opt f)):=Uj (akm h)<|by
 rintro σ H Q ⟨aJ,aT,O,F,ai,i,r,e,k⟩
 simp only[opt,cf] at e;obtain⟨x,ex,e⟩:=e;refine⟨aJ,aT,O,F,ai,x,r,ex,λv a6 H1 aS aU=>?_⟩;split at e
 ·cases e
  exact⟨_,aU.int,k a6 H1 aS⟩
 ·cases e
noncomputable def adL(K:a'):V->Option Int->Option Int->aB->c0->Prop:=λx lo aQ H Q=>∃a xs,x=.ref a/\c' K H a xs/\(fA.c7 xs.length 0 lo=0/\fA.c7 xs.length xs.length aQ=xs.length)/\Q (.ref a) H
def afG{prog:cu}{w:b8}{A:cp}{E:ao->aH->Prop}{s:aH}{t cG:aj}{items:Array ao}{h7 e9:ao}{lo aQ:Option Int}{Q:ao->aH->Prop}(bp:IsTup s.heap t items)(az:s.heap.IsSliceOf cG h7 e9 .none)(pl:IsPart h7 lo)(pu:IsPart e9 aQ)
  (hw:fA.c7 items.size 0 lo=0/\fA.c7 items.size items.size aQ=items.size) (h:Q (.ref t) s):a0 (bA prog w) A (getItem (.ref t) (.ref cG)) Q E s:=by
 obtain⟨os,qV,Bj,x'⟩:=id az;have Hd:s.TypeIs (.ref cG) "slice":=⟨os,qV,Bj⟩;unfold getItem
 try with_reducible refine ia ?_
 first|refine aO (bX ?_)|skip
 refine aO (wpAny_sequenceKey bp.typeIs (by decide) ?_)
 refine aO (sP (name:=Str.ofString "__getitem__") bp.typeIs CR
  (rh CR bp.typeIs entry_tuple_getitem ?_ (args_tuple_getitem _ _)))
 show a0 _ _ (Builtin.Tuple.tupleItemsOf (.ref t) >>= _) _ _ s
 refine aO (tupleItemsOf_ bp ?_)
 refine aO (wpAny_typeOf Hd ?_)
 rw[if_pos (by decide)];refine aO (fA.Qg az pl pu ?_);rw[hw.1,hw.2];show a0 _ _ (if (((0:Nat):Int)==0 && (1:Int)==1 && (items.size - 0)==items.size)=true then _ else _) _ _ s;rw[if_pos (by simp)];unfold Builtin.Tuple.tupleIsExact;refine aO (aO (wpAny_typeOf bp.typeIs (bX ?_)));rw[if_pos (by decide)];refine aO (wpAny_rule ?_);exact bX ⟨_,rfl,bX h⟩
def ajf:rR X (adL X.K):=by
 intro ak s σ H x v h7 e9 lo aQ cG Q I aU az pl pu h;obtain⟨a,xs,rfl,hx,hw,q⟩:=h;cases aU;obtain⟨its,r,bp,au⟩:=I.tuple hx;have hlen:its.toArray.size=xs.length:=by rw[eW];exact r.length.symm
 refine⟨"tuple",_,PyProof.Rows.slot_tuple_getitem.lookup,bp.typeIs,?_⟩
 exact afG bp az pl pu (by rw[hlen];exact hw) ⟨.ref a,H,I,rfl,q⟩
def alf(n d:Nat)(o:Option Int):D.c7 n d o=fA.c7 n d o:=by
 cases o with
|none=>rfl
|some v=>
  unfold D.c7 fA.c7;dsimp only;split <;> omega
def Md{K:a'}{F:aj->Prop}{H:aB}{ts:List T}{vs:List V}(h:bB K F H ts vs)(lo aQ:Option Int):bB K F H (xQ ts lo aQ) (oH vs lo aQ):=by
 unfold xQ oH;simp only[alf,h.length];exact (h.drop _).take _
def aki{lo aQ:Option bt}{dt OU:Ev->Option (Option Int)}(aA:ey X e f)(aI:pH X lo (CE X.K dt))(b1:pH X aQ (CE X.K OU)):cO X (.Subscript e (.Slice lo aQ none eN) pos) (slice f dt OU):=eu (ajs ((ak'.or ajf).or aj') aA aI b1)<|by
 rintro σ H Q ⟨aJ,aT,O,F,ai,t,r,e,k⟩
 simp only[slice,cf] at e;obtain⟨x,ex,l,jt,h,hk,e⟩:=e;refine⟨aJ,aT,O,F,ai,x,r,ex,λv a6 H1 aS aU=>⟨aJ,aT,O,a6,ai,l,r.ext aS,jt,λdr bw bN=>⟨aJ,aT,O,dr,ai,h,(r.ext aS).ext bN,hk,λot eZ g_=>?_⟩⟩⟩;have KW:=bN.trans g_;have q':=aS.trans KW;unfold J4 at e;split at e
 ·cases e
  obtain⟨a,vs,rfl,az,ay⟩:=(aU.ext KW).tup;by_cases hw:fA.c7 vs.length 0 l=0/\fA.c7 vs.length vs.length h=vs.length
  ·refine .inl (.inr ⟨a,vs,rfl,az,hw,k _ ot eZ q' ?_⟩)
   simp only[Rep];refine⟨a,vs,rfl,az,?_⟩;have:=Md ay l h;unfold oH at this;rw[hw.1,hw.2,List.drop_zero,Nat.sub_zero,List.take_length] at this;exact this
  ·refine .inl (.inl ⟨a,vs,rfl,az,hw,λq aX=>?_⟩)
   have uO:=Ext.laid (o:=.tup (oH vs l h)) q'.cb aX;refine k _ ot _ (q'.trans uO) ?_;simp only[Rep];exact⟨q,_,rfl,c'.of dU,(Md ay l h).ext uO⟩
 ·cases e
  obtain⟨a,vs,rfl,az,ay⟩:=(aU.ext KW).lst;refine .inr ⟨a,vs,rfl,.inl az,λq aX=>?_⟩;have uO:=Ext.Jw (o:=.lst (oH vs l h)) q'.cb aX;refine k _ _ _ (q'.trans uO) ?_;simp only[Rep];exact⟨q,_,rfl,.inr rfl,.inl dU,(Md ay l h).ext uO⟩
 ·cases e
end
end
end D
end
section
namespace D
open PySem PySem.W PyProof.Rows
structure V2(n:Nat)(lt:Nat->Nat->Bool):Prop where
 amV:∀i j,lt i j=true->lt j i=false
 trans:∀i j k,lt i j=true->lt j k=true->lt i k=true
 ans:∀i j,i<n->j<n->i≠j->lt i j=true\/lt j i=true
noncomputable def qC(lt:Nat->Nat->Bool)(p:Array Nat)(m:Nat):Prop:=∀i j,i<j->j<m->lt (p.getD i 0) (p.getD j 0)=true
noncomputable def jO(lt:Nat->Nat->Bool)(p:Array Nat)(m:Nat):Prop:=∀i j,i<j->j<m->lt (p.getD j 0) (p.getD i 0)=true
section
variable {n:Nat}{lt:Nat->Nat->Bool}(O:V2 n lt)
include O
end
end D
end
section
namespace D
open PySem
variable [cD]
noncomputable def mX:List Int->List Int->Bool
| [],[]=>false
| [],_::_=>true
|_::_,[]=>false
|a::x,b::y=>decide (a<b) || (decide (a=b) && mX x y)
theorem SM:∀{x y:List Int},mX x y=true->mX y x=false
| [],[],h=>by cases h
| [],_::_,_=>rfl
|_::_,[],h=>by cases h
|a::x,b::y,h=>by
  simp only[mX,Bool.or_eq_true,gV,decide_eq_true_eq] at h;simp only[mX,Bool.or_eq_false_iff,Bool.and_eq_false_iff,decide_eq_false_iff_not];rcases h with h|⟨ah,ar⟩
  ·exact⟨by omega,.inl (by omega)⟩
  ·exact⟨by omega,.inr (SM ar)⟩
noncomputable def yT(r:List Int):T:=.tuple (r.map .int)
end D
end
section
namespace D
open PySem PySem.Spec PyProof.Rows bu
section
variable [cD]
def R':entryFor table "dict.update.loop"=some Builtin.«dict.update.loop»:=entryFor_of_tree (by kernel_rfl)
def DN:plainId "dict.update.loop"=true:=by decide +kernel
section
variable {prog:cu}{w:b8}{K:Type}[DecidableEq K]{knd:PySem.KeyKind prog w K}{A:cp}
def ahs{E:ao->aH->Prop}{s:aH}{p:aj}{o:Obj}{n:Nat}{xs:Array ao}{Q:List ao->aH->Prop}(ah:s.heap.get? p=some o)(ar:o.cls=.type "tuple")(bk:o.data=.seq xs n)(h:Q xs.toList s):a0 (bA prog w) A (Builtin.Dict.pairItems (.ref p)) Q E s:=by
 obtain⟨c,pL,dat,cG⟩:=o;simp only at ar bk;subst ar bk;obtain⟨aM,g,d,tk,os⟩:=s;have cU:(⟨aM,g,d,tk,os⟩:aH).TypeIs (.ref p) "tuple":=⟨_,ah,rfl⟩;unfold Builtin.Dict.pairItems
 repeat (any_goals (first|assumption|wp_step))
def ahn{kvs:List (K×ao)}{k:K}{v:ao}(h:k∉kvs.map (·.1)):stored kvs k v=kvs++[(k,v)]:=by
 unfold stored;rw[if_neg];intro q;obtain⟨x,hx,e⟩:=List.any_eq_true.mp q;exact h (d_.mpr ⟨x,hx,by simpa using e⟩)
variable {R:Result->aH->Prop}{I:aj}{ct wr:List aj}{G:Array GenState->Array GenState->Prop}{St:Nat->aH->Prop}{items:Array ao}
variable {E:ao->aH->Prop}{s:aH}
end
end
section
variable [cD]
mutual
noncomputable def gA:T->T->Option Bool
|.int a,.int b=>some (decide (a<b))
|.tuple xs,.tuple ys=>l6 xs ys
|_,_=>none
noncomputable def l6:List T->List T->Option Bool
| [],[]=>some false
| [],_::_=>some true
|_::_,[]=>some false
|x::xs,y::ys=>if f6 x y then l6 xs ys else gA x y
end
noncomputable def ND(A:cp)(s:aH)(y x:ao)(b:Bool):Prop:=
 ∀(prog:cu) (w:b8) (E:ao->aH->Prop) (Q:ao->aH->Prop),Q (.bool b) s->a0 (bA prog w) A (richCompare .Lt y x) Q E s
inductive qw(A:cp)(s:aH)(fin:Bool):List (ao×ao)->Bool->Prop
|nil:qw A s fin [] fin
|eq {y x:ao} {r:List (ao×ao)} {b:Bool}:SeqAt.EqAt A s y x true->qw A s fin r b->qw A s fin ((y,x)::r) b
|lt {y x:ao} {r:List (ao×ao)} {b:Bool}:SeqAt.EqAt A s y x false->ND A s y x b->qw A s fin ((y,x)::r) b
section
open PySem.SeqAt
open PySem.AutoSeq1 (wpAny_loadPart')
open PySem.MeetsSeq PySem.MeetsSeq2 PySem.MeetsSeq3
def agj(l b:aj)(items anR:Array ao)(n fE:Nat)(dd nG:Option aj)(cG iy:Array (Option ao))(z:Bool):
  Meets (Builtin.«tuple.__lt__» ⟨[.ref l,.ref b],[]⟩)
   (λA R s=>s.heap.get? l=some {cls:=.type "tuple",dict:=dd,data:=.seq items n,slots:=cG}/\s.heap.get? b=some {cls:=.type "tuple",dict:=nG,data:=.seq anR fE,slots:=iy} /\
    qw A.in1 s (decide (items.size<anR.size)) (items.toList.zip anR.toList) z/\R (.ok (.ret (.bool z))) s):=
 .of_wp λprog w A R s h=>by
  obtain⟨aM,g,d,tk,os⟩:=s;obtain⟨aI,af,bg,h⟩:=h;have f2:=AutoSeq1.sub_tuple_tuple
  wp_walk using wpAny_loadPart' aI,wpAny_loadPart' af,wpAny_forIn_list _ (λrest b s'=>b.1=none/\s'=⟨aM,g,d,tk,os⟩/\qw A.in1 ⟨aM,g,d,tk,os⟩ (decide (items.size<anR.size)) rest z) _
  case turn=>
   rintro⟨y,x⟩ rest b s' ⟨jS,rfl,kc⟩;cases kc with
   |eq he kc=>
    refine aO (he prog w _ _ ?_)
    wp_walk
    exact⟨rfl,rfl,kc⟩
   |lt he d7=>
    refine aO (he prog w _ _ ?_)
    have HK:=d7 prog w
    wp_walk using HK
    exact⟨_,rfl,h⟩
  case fin=>
   rintro⟨b6,b7⟩ s' ⟨jS,rfl,kc⟩;simp only at jS;subst jS;cases kc
   wp_walk
   exact⟨_,rfl,by simpa [Builtin.Tuple.tupleCompareSizes] using h⟩
  case h=>
   exact⟨rfl,rfl,bg⟩
mutual
theorem SK:∀(qK db:T) (A:cp) (s:aH) (a b:ao) (as bs:List aj) (r:Bool),Reads s.heap a qK as->Reads s.heap b db bs->qK.canLay0=true->db.canLay0=true->A.units+min qK.depth db.depth<cLine->gA qK db=some r->ND A s a b r
|.int i,.int j,A,s,_,_,_,_,r,.int _ t,.int _ u,_,_,_,e=>by
  unfold gA at e;cases e;exact λprog w E Q q=>(PyProof.Rows.lt_int q:a0 (bA prog w) A (i2 .Lt (.int i t) (.int j u)) Q E s)
|.tuple xs,.tuple ys,A,s,_,_,_,_,r,.tuple (a:=l) (o:=o) (vs:=vs) (n:=n) ah ar bk cB,.tuple (a:=p3) (o:=o') (vs:=ff) (n:=yD) k1 k2 k3 mW,aA,af,b1,e=>by
  unfold gA at e;simp only[PyData.canLay0] at aA af;simp only[m'] at b1;have kc:=RI xs ys A.in1 s vs.toList ff.toList _ _ r cB mW aA af (room_in b1) e;obtain⟨cls,dd,data,cG⟩:=o;obtain⟨Gs,nG,data2,iy⟩:=o';simp only at ar bk k2 k3;subst ar bk k2 k3;rw[sN,sN] at kc;exact λprog w E Q q=>richCompare_meets_room (op:=.Lt) ⟨_,ah,rfl⟩ ⟨_,k1,rfl⟩ PySem.F.slot_tuple_lt PySem.F.entry_tuple_lt (PySem.F.args_tuple_lt_2 _ _) (agj l p3 vs ff n yD dd nG cG iy r)
   ⟨ah,k1,kc,show Value.bool r≠Value.notImplemented/\Q (.bool r) s from ⟨(λx=>nomatch x),q⟩⟩ (by omega)
|.none,_,_,_,_,_,_,_,_,_,_,_,_,_,e=>by simp[gA] at e
|.bool _,_,_,_,_,_,_,_,_,_,_,_,_,_,e=>by simp[gA] at e
|.str _,_,_,_,_,_,_,_,_,_,_,_,_,_,e=>by simp[gA] at e
|.list _,_,_,_,_,_,_,_,_,_,_,_,_,_,e=>by simp[gA] at e
|.dict _,_,_,_,_,_,_,_,_,_,_,_,_,_,e=>by simp[gA] at e
|.int _,.none,_,_,_,_,_,_,_,_,_,_,_,_,e=>by simp[gA] at e
|.int _,.bool _,_,_,_,_,_,_,_,_,_,_,_,_,e=>by simp[gA] at e
|.int _,.str _,_,_,_,_,_,_,_,_,_,_,_,_,e=>by simp[gA] at e
|.int _,.list _,_,_,_,_,_,_,_,_,_,_,_,_,e=>by simp[gA] at e
|.int _,.dict _,_,_,_,_,_,_,_,_,_,_,_,_,e=>by simp[gA] at e
|.int _,.tuple _,_,_,_,_,_,_,_,_,_,_,_,_,e=>by simp[gA] at e
|.tuple _,.none,_,_,_,_,_,_,_,_,_,_,_,_,e=>by simp[gA] at e
|.tuple _,.bool _,_,_,_,_,_,_,_,_,_,_,_,_,e=>by simp[gA] at e
|.tuple _,.str _,_,_,_,_,_,_,_,_,_,_,_,_,e=>by simp[gA] at e
|.tuple _,.list _,_,_,_,_,_,_,_,_,_,_,_,_,e=>by simp[gA] at e
|.tuple _,.dict _,_,_,_,_,_,_,_,_,_,_,_,_,e=>by simp[gA] at e
|.tuple _,.int _,_,_,_,_,_,_,_,_,_,_,_,_,e=>by simp[gA] at e
theorem RI:∀(xs ys:List T) (A:cp) (s:aH) (vs ws:List ao) (as bs:List aj) (r:Bool),ReadsAll s.heap vs xs as->ReadsAll s.heap ws ys bs->hP xs=true->hP ys=true->A.units+min (fM xs) (fM ys)<cLine->l6 xs ys=some r->qw A s (decide (vs.length<ws.length)) (vs.zip ws) r
| [],[],A,s,_,_,_,_,r,.nil,.nil,_,_,_,e=>by
  unfold l6 at e;cases e;exact .nil
| [],_::_,A,s,_,_,_,_,r,.nil,.cons _ _,_,_,_,e=>by
  unfold l6 at e;cases e;exact qw.nil
|_::_,[],A,s,_,_,_,_,r,.cons _ _,.nil,_,_,_,e=>by
  unfold l6 at e;cases e;exact qw.nil
|x::xs,y::ys,A,s,_,_,_,_,r,.cons a_ b_,.cons aP bf,aA,af,b1,e=>by
  simp only[hP,gV] at aA af;simp only[fM] at b1;unfold l6 at e;have he:=eqAt_reads x y A s _ _ _ _ a_ aP aA.1 af.1 (room_head b1);split at e
  next h=>
   rw[h] at he;have bM:=RI xs ys A s _ _ _ _ r b_ bf aA.2 af.2 (room_tail b1) e;rw[sO];simp only[fy,Nat.add_lt_add_iff_right];exact .eq he bM
  next h=>
   rw[Bool.not_eq_true] at h;rw[h] at he;rw[sO];exact .lt he (SK x y A s _ _ _ _ r a_ aP aA.1 af.1 (room_head b1) e)
end
end
noncomputable def an9(b:T):List T->Option T
| []=>some b
|d::ds=>(gA d b).bind λz=>an9 (if z then d else b) ds
noncomputable def minD:List T->Option T
| []=>none
|d::ds=>an9 d ds
noncomputable def qq:List T->Option T
| [.list xs]=>if lB xs then minD xs else none
|_=>none
theorem MA:∀{ts:List T} {t:T},hP ts=true->t∈ts->t.canLay0=true/\t.depth<=fM ts
|x::r,t,h,hm=>by
  simp only[hP,gV] at h;simp only[fM];rcases cN.mp hm with rfl|hm
  ·exact⟨h.1,Nat.le_max_left _ _⟩
  ·have:=MA h.2 hm;exact⟨this.1,h9 this.2 (Nat.le_max_right _ _)⟩
section
variable {prog:cu}{w:b8}{A:cp}{R:Result->aH->Prop}{I:aj}{ct wr:List aj}{G:Array GenState->Array GenState->Prop}{St:Nat->aH->Prop}{items:Array ao}
def aiy(W:WalksS prog w A.in1 I ct wr G items.size (λi v=>items[i]?=some v) St)(S:aj)(x6:S∉ct)(h0:bL)(hf:∀b∈S::wr,h0.get? b=none)(ds:List T)(hlen:items.size=ds.length)
  (yk:∀(i:Nat) v d,items[i]?=some v->ds[i]?=some d->∃as,Reads h0 v d as) (bF:hP ds=true) (O8:fM ds<=60) (b1:A.in1.units+60<cLine) (hj:T):
  ∀(k j:Nat) (s:aH) (um:Nat) (jg:ao) (db:T) (c:Nat),items.size - (j+1)=k->j+1<=items.size->St (j+1) s->(∀b o,h0.get? b=some o->s.heap.get? b=some o)->items[um]?=some jg->ds[um]?=some db ->
   s.heap.get? S=some {cls:=.type "list",dict:=none,data:=.seq #[jg,jg] c,slots:=#[]}->an9 db (ds.drop (j+1))=some hj ->
   (∀(i:Nat) v s',items[i]?=some v->ds[i]?=some hj->Moved (S::wr) G s s'->R (.ok (.ret v)) s')->hu (bA prog w) A (.builtin "min.loop" ⟨[.ref I,.none,.ref S],[]⟩) R s:=by
 have O1:S∉wr:=λh=>x6 (W.sub _ h);have sub:∀b∈wr,b∈S::wr:=λb af=>dF _ af;have nm:(toString "min"++toString ".loop":String)="min.loop":=by decide
 have off:∀{b:aj},b∉S::wr->S≠b:=λaf h=>af (by rw[h];exact fg);have kept:∀{s s':aH},(∀b o,h0.get? b=some o->s.heap.get? b=some o)->Moved wr G s s'->∀b o,h0.get? b=some o->s'.heap.get? b=some o:=λah ar b o e=>ar.heap b o (λz=>by rw[hf b (sub b z)] at e;cases e) (ah b o e);have aaI:∀{h:bL} (g:Obj->Obj),(∀b o,h0.get? b=some o->h.get? b=some o)->∀b o,h0.get? b=some o->(h.update S g).get? b=some o:=λg ah b o e=>(kW _ _ (λz=>by rw[<- z,hf S fg] at e;cases e)).trans (ah b o e);intro k
 induction k with
|zero=>
  intro j s um jg db c aL bS gg Pe Bx fD dP lA iP;have sf:j+1=items.size:=by omega
  refine ml F.entry_min_loop ?_
  rw[anG F.plain_min_loop _];show a0 _ A.in1 (seqItems? (.ref S) >>= _) _ _ s;refine aO (kV dP rfl ?_);show a0 _ A.in1 (tryCatch (pyNext (.ref I)) _ >>= _) _ _ s;refine aO (pf (W.done s _ _ (sf▸gg) λs' hm=>?_));have iu:=hm.heap S _ O1 dP;show a0 _ A.in1 (updateSeq S (λ_=>#[]) >>= _) _ _ _;refine aO (wpAny_updateSeq iu rfl (aO (anN (bX ?_))));rw[List.drop_of_length_le (by omega)] at lA;cases lA;exact iP um jg _ Bx fD ((hm.mono sub).then_heap (tk:=s'.toks) (dy _) λb o af e=>(kW _ _ (off af)).trans e)
|succ k bM=>
  intro j s um jg db c aL bS gg Pe Bx fD dP lA iP;have d7:j+1<items.size:=by omega
  refine ml F.entry_min_loop ?_
  rw[anG F.plain_min_loop _];show a0 _ A.in1 (seqItems? (.ref S) >>= _) _ _ s;refine aO (kV dP rfl ?_);show a0 _ A.in1 (tryCatch (pyNext (.ref I)) _ >>= _) _ _ s;refine aO (pf (W.item (j+1) s _ _ d7 gg λv s' fC Bu hm=>?_));have iu:=hm.heap S _ O1 dP;have Bo:=kept Pe hm;have hd:ds[j+1]?=some (ds[j+1]'(by omega)):=iZ (by omega);rw[List.drop_eq_getElem_cons (by omega),an9] at lA;obtain⟨z,au,lA⟩:=cf.mp lA;obtain⟨as,jC⟩:=yk (j+1) v _ fC hd;obtain⟨bs,e8⟩:=yk um jg db Bx fD;have dK:=MA bF (pb hd);have en:=MA bF (pb fD);have Hk:=SK _ _ A.in1 s' v jg as bs z (Reads.keeps Bo jC) (Reads.keeps Bo e8) dK.1 en.1 (by have:=Nat.min_le_left (ds[j+1]'(by omega)).depth db.depth;omega) au;show a0 _ A.in1 (tryCatch (holding [v,v] (richCompare .Lt v jg >>= _)) _ >>= _) _ _ _;refine aO (pf (ia (aO (Hk prog w _ _ ?_))));refine aO (ia (sQ (aO (anN (bX ?_)))));cases z with
  |true=>
   simp only[if_true] at lA ⊢;refine aO (wpAny_updateSeq iu rfl (aO (anN ?_)));rw[nm];refine bX ⟨nf F.plain_min_loop _,bM (j+1) _ (j+1) v _ _ (by omega) d7 (W.frame _ s' _ s'.toks Bu (dy _) λb Hj o e=>?_) (aaI _ Bo) fC hd (Heap.get?_update_self _ iu rfl) lA λi hM lI aw aN sh=>?_⟩
   ·exact (kW _ _ (λh:S=b=>x6 (by rw[h];exact Hj))).trans e
   ·exact iP i hM lI aw aN (Moved.trans W.gtrans ((hm.mono sub).then_heap (dy _) λb o af e=>(kW _ _ (off af)).trans e) sh)
  |false=>
   simp only[lN,if_false] at lA ⊢;refine aO (anN ?_);rw[nm];refine bX ⟨nf F.plain_min_loop _,bM (j+1) _ um jg db c (by omega) d7 Bu Bo Bx fD iu lA λi hM lI aw aN sh=>?_⟩;exact iP i hM lI aw aN (Moved.trans W.gtrans (hm.mono sub) sh)
variable {E:ao->aH->Prop}{s:aH}
def ahU{l:aj}{Q:ao->aH->Prop}(cM:A.handled=none)(aI:s.heap.IsList l items)(ds:List T)(hlen:items.size=ds.length)
  (yk:∀(i:Nat) v d,items[i]?=some v->ds[i]?=some d->∃as,Reads s.heap v d as) (bF:hP ds=true) (O8:fM ds<=60) (b1:A.in1.units+60<cLine) (hj:T) (lA:minD ds=some hj)
  (h:∀(i:Nat) v h' tk,items[i]?=some v->ds[i]?=some hj->(unop%Wh 0)->Q v {s with heap:=h',toks:=tk}):
  a0 (bA prog w) A (call (.builtin "min") [.ref l]) Q E s:=by
 have nm:(toString "min"++toString ".loop":String)="min.loop":=by decide
 have d7:l<s.heap.objs.size:=by obtain⟨o,aK,_⟩:=aI;exact c2 aK
 obtain⟨r3,qL,rfl⟩:∃r3 qL,ds=r3::qL:=by
  cases ds with
  |nil=>cases lA
  |cons a b=>exact⟨a,b,rfl⟩
 have sj:0<items.size:=by rw[hlen];simp
 refine call_function_tree F.kind_min F.plain_min F.entry_min (F.args_min1 _) ?_
 show a0 _ A.in1 (Builtin.Builtins.bindParams "min" ["key","default"] 0 ⟨[],[]⟩ >>= _) _ _ s
 refine aO (wpAny_of_eq (show Builtin.Builtins.bindParams "min" ["key","default"] 0 ⟨[],[]⟩=pure [none,none] from rfl) (aO (bX ?_)))
 refine aO (wpAny_pyIter_list aI (aO (qe ?_)))
 rw[nm];have W:=(Walks.list (prog:=prog) (w:=w) (A:=A.in1) cM s.heap.objs.size l (eQ d7) items).toS;have dP:(unop%WA 0).get? (unop%W8 0).objs.size=some {cls:=.type "list",dict:=none,data:=.seq #[] 0,slots:=#[]}:=fx _ rfl;have kK:(unop%W8 0).objs.size=s.heap.objs.size+1:=j2 ..;have x6:(unop%W8 0).objs.size∉[s.heap.objs.size,l]:=by
  rw[kK];simp only[cN,uR,or_false,not_or];exact⟨hO (Nat.lt_succ_self _),hO (Nat.lt_succ_of_lt d7)⟩
 have gN:∀b∈(s.heap.push {cls:=.type "list_iterator",data:=.fields #[.ref l,.int 0 0]}).objs.size::[s.heap.objs.size],s.heap.get? b=none:=λb af=>by
  rw[kK] at af;refine Heap.get?_none_of_le ?_;simp only[cN,uR,or_false] at af;rcases af with rfl|rfl
  ·exact qd _
  ·exact dy _
 have aaK:∀b o,s.heap.get? b=some o->(unop%WA 0).get? b=some o:=λb o e=>cQ _ (cQ _ e);have aeU:(unop%WA 0).IsListIter s.heap.objs.size l 0/\(unop%WA 0).IsList l items:=⟨⟨_,cQ _ (fx _ rfl),rfl,rfl⟩,(aI.push _).push _⟩;refine bX ⟨nf F.plain_min_loop _,ml F.entry_min_loop ?_⟩;rw[anG F.plain_min_loop _];show a0 _ A.in1 (seqItems? (.ref _) >>= _) _ _ _;refine aO (kV dP rfl ?_);show a0 _ A.in1 (tryCatch (pyNext (unop%WB 0)) _ >>= _) _ _ _;refine aO (pf (W.item 0 _ _ _ sj aeU λv s' fC Bu hm=>?_));have iu:=hm.heap _ _ (by rw[kK];simp) dP;show a0 _ A.in1 (updateSeq _ (λ_=>#[v,v]) >>= _) _ _ _;refine aO (wpAny_updateSeq iu rfl ?_);rw[nm];have PJ:∀b o,s.heap.get? b=some o->s'.heap.get? b=some o:=λb o e=>hm.heap b o (λz=>by rw[gN b (dF _ z)] at e;cases e) (aaK b o e);refine bX ⟨nf F.plain_min_loop _,aiy W _ x6 s.heap gN (r3::qL) hlen yk bF O8 b1 hj _ 0 _ 0 v r3 _ rfl sj (W.frame _ s' _ s'.toks Bu (dy _) λb Hj o e=>?_) (λb o e=>?_) fC rfl (Heap.get?_update_self _ iu rfl) (by simpa [minD] using lA) λi hM lI aw aN sh=>?_⟩
 ·exact (kW _ _ (λz=>x6 (by rw[z];exact Hj))).trans e
 ·exact (kW _ _ (λz=>by rw[<- z,gN _ fg] at e;cases e)).trans (PJ b o e)
 ·obtain⟨h',g',d',wh,q5⟩:=lI;have mP:g'=s.gens:=sh.gens.trans hm.gens;have gw:d'=s.drawn:=sh.drawn.trans hm.drawn;have eH:q5=s.os:=sh.os.trans hm.os;subst mP;subst gw;subst eH;refine h i hM h' wh aw aN λb o e=>sh.heap b o (λz=>by rw[gN b z] at e;cases e) ((kW _ _ (λz=>by rw[<- z,gN _ fg] at e;cases e)).trans (PJ b o e))
end
section
variable {X:aY}{e:bt}{es:List bt}{aF:List bY}{p pos:Pos}
def aiZ(ax:X.calm=true)(b1:X.A.units+64<cLine):anw X (.builtin "min") (λxs H Q=>∃p vs F ds hj,xs=[.ref p]/\fi X.K H p vs/\bB X.K F H ds vs/\lB ds=true/\minD ds=some hj/\∀v,Rep X.K F H hj v->Q v H):=by
 intro ak s σ H xs us Q I r h;obtain⟨p,vs,F,ds,hj,rfl,aX,mU,bF,lA,q⟩:=h;obtain⟨u,rfl,aU⟩:=rB r;cases aU;obtain⟨its,cm,pl,au⟩:=I.list aX;obtain⟨dK,en⟩:=MX bF;have hlen:its.length=ds.length:=by rw[mU.length,cm.length]
 have both:∀(i:Nat) v d,its[i]?=some v->ds[i]?=some d->∃x,RelV x v/\Rep X.K F H d x:=λi v d aw aN=>by
  obtain⟨x,dv,gL⟩:=mU.get aN;obtain⟨hM,tV,r5⟩:=cm.get dv;rw[aw] at tV;cases tV;exact⟨x,r5,gL⟩
 refine ahU (items:=its.toArray) (I.ok.hd ax) pl.isList ds (by simpa using hlen) (λi v d aw aN=>?_) dK en (by simp;omega) hj lA λi v h' tk aw aN aG=>?_
 ·obtain⟨x,dv,gL⟩:=both i v d (by simpa using aw) aN;exact nk (O:=λ_=>False) I (.inl gL) dv
 ·obtain⟨x,dv,gL⟩:=both i v hj (by simpa using aw) aN;exact⟨x,H,I.kept (t':=tk) aG,dv,q x gL⟩
def alk(ax:X.calm=true)(b1:X.A.units+64<cLine)(hm:X.mg "min"=none)(aA:qA X (e::es) aF)(bg:dZ X "min":=by rfl)(he:a9 (e::es) X.env=(false,eval e X.env)::a9 es X.env:=by rfl)(hpl:(unop%Wu 0).any (·.1)=false:=by rfl):
  cO X (.Call (.Name "min" p) (e::es) [] pos) (a3 qq aF):=eu (wU (aiZ ax b1) bg hm (by decide +kernel) aA (he:=he) (hpl:=hpl)) (w2 (by
 intro O F H ts t vs Q d q e k;unfold qq at e;split at e
 ·split at e
  next au=>
   cases q with
   |cons aP bf=>
    cases bf
    obtain⟨su,ws,rfl,aI,ay⟩:=aP.lst;exact⟨su,ws,F,_,t,rfl,.inl aI,ay,au,e,λv bW=>k v F H (Ext.refl d) bW⟩
  next=>cases e
 ·cases e))
end
end
end D
end
section
namespace D
open PySem
inductive pB where
|v (f:bY)|o (i:Nat)
abbrev jo:=Ev->Option (T×Ev)
abbrev rJ:=Ev->Option aR
noncomputable def J5(i:Nat)(ai:Ev):Option aR:=match ai[i]? with
|some (some (.obj m c aF))=>some (.obj m c aF)
|_=>none
noncomputable def rW:List pB->Ev->Option (List aR)
| [],_=>some []
|.v f::as,ai=>(f ai).bind λt=>(rW as ai).map λss=>.aa t::ss
|.o i::as,ai=>(J5 i ai).bind λs=>(rW as ai).map λss=>s::ss
noncomputable def Kp:aR->aR
|.obj _ c aF=>.obj .hr c aF
|s=>s
noncomputable def iV(c i:Nat)(ai:Ev):Option (jq×List aR):=match ai[i]? with
|some (some (.obj m bZ aF))=>if bZ=c then some (m,aF) else none
|_=>none
noncomputable def fld(c i j:Nat):bY:=λai=>(iV c i ai).bind λo=>match o.2[j]? with
|some (.aa t)=>some t
|some (.own ts)=>some (.list ts)
|_=>none
noncomputable def hF(c i j:Nat):bY:=λai=>(iV c i ai).bind λo=>match o.2[j]? with
|some (.aa t)=>some t
|_=>none
noncomputable def oO(c i j:Nat):Ev->Option (List (Key×T)):=λai=>(iV c i ai).bind λo=>match o.2[j]? with
|some (.h1 kvs)=>some kvs
|_=>none
noncomputable def qP(c i j:Nat):Ev->Option (List T):=λai=>(iV c i ai).bind λo=>match o.2[j]? with
|some (.own ts)=>some ts
|_=>none
noncomputable def oN(c i j:Nat)(k:bY):bY:=λai=>(k ai).bind λt=>(iD t).bind λk=>(oO c i j ai).bind λkvs=>getD kvs k
noncomputable def Ai(c i j:Nat):bY:=λai=>(oO c i j ai).map λkvs=>.tuple (kvs.map (·.2))
noncomputable def jd(c i j:Nat)(s:aR)(ai:Ev):Option Ev:=(iV c i ai).bind λo=>if o.1=.hr then none else
 if j<o.2.length then some (ai.set i (some (.obj o.1 c (o.2.set j s)))) else if j=o.2.length then some (ai.set i (some (.obj o.1 c (o.2++[s])))) else none
noncomputable def e0(c i j:Nat)(f:bY):bK:=λai=>(f ai).bind λt=>(jd c i j (.aa t) ai).map .bG
noncomputable def nv(c i j:Nat)(f:bY):bK:=λai=>(f ai).bind λt=>match t with
|.list ts=>(jd c i j (.own ts) ai).map .bG
|_=>none
noncomputable def anS:T->T->Option Int
|.int i,.int j=>some (i+j)
|_,_=>none
noncomputable def qG(c i j:Nat)(f:bY):bK:=λai=>(hF c i j ai).bind λx=>(f ai).bind λy=>(anS x y).bind λz=>(jd c i j (.aa (.int z)) ai).map .bG
noncomputable def qF(c i j:Nat)(f:bY):bK:=λai=>(f ai).bind λt=>(qP c i j ai).bind λts=>if ts.length<big then (jd c i j (.own (ts++[t])) ai).map .bG else none
noncomputable def Co(c i j:Nat)(f:bY):bK:=λai=>(f ai).bind λt=>(qP c i j ai).bind λts=>match t,vl ts with
|.str x,some ss=>if x∈ss then (jd c i j (.own ((ss.erase x).map .str)) ai).map .bG else none
|_,_=>none
noncomputable def xd:T->Option T
|.tuple xs=>some (.list xs)
|.list xs=>some (.list xs)
|_=>none
noncomputable def DW:T->Option T
|.list xs=>if xs.length<64 then (vl xs).map λss=>.list ((k7 ss).map .str) else none
|_=>none
noncomputable def tj(c i j:Nat)(k v:bY):bK:=λai=>(v ai).bind λv=>(k ai).bind λt=>(iD t).bind λk=>(oO c i j ai).bind λkvs=>if kvs.length<big then (jd c i j (.h1 (putD kvs k v)) ai).map .bG else none
noncomputable def tp(c i j:Nat)(k v:bY):bK:=λai=>(k ai).bind λt=>(iD t).bind λk=>(oO c i j ai).bind λkvs=>(getD kvs k).bind λx=>(v ai).bind λy=>(anS x y).bind λz=>if kvs.length<big then (jd c i j (.h1 (putD kvs k (.int z))) ai).map .bG else none
noncomputable def tu:List T->List T->Option (List (Key×T))
| [],_=>some []
|_::_,[]=>some []
|k::bj,v::vs=>(iD k).bind λk=>(tu bj vs).map λr=>(k,v)::r
noncomputable def xq(c i j:Nat)(bj vs:bY):bK:=λai=>(bj ai).bind λtk=>(vs ai).bind λje=>match tk,je with
|.list lk,.tuple lv=>(tu lk lv).bind λkvs=>if (kvs.map (·.1)).Nodup/\kvs.length<=1000/\(∀t∈lk,(iD t).isSome=true) then (jd c i j (.h1 kvs) ai).map .bG else none
|_,_=>none
noncomputable def oi(c:Nat)(d:List aR->Option T)(i:Nat)(aF:List bY):bY:=λai=>(iV c i ai).bind λo=>(args aF ai).bind λts=>d (.obj .hr c o.2::ts.map .aa)
noncomputable def dS(c:Nat)(d:List aR->Option (T×List aR))(i:Nat)(aF:List bY):jo:=λai=>(iV c i ai).bind λo=>if o.1=.hr then none else (args aF ai).bind λts=>
 (d (.obj .d8 c o.2::ts.map .aa)).map λr=>(r.1,ai.set i (some (.obj o.1 c r.2)))
noncomputable def B_(c:Nat)(d:List aR->Option (T×List aR))(aF:List bY):rJ:=λai=>(args aF ai).bind λts=>(d (.obj .d8 c []::ts.map .aa)).bind λr=>match r.1 with
|.none=>some (.obj .own c r.2)
|_=>none
noncomputable def an'(d:List T->Option aR)(aF:List bY):rJ:=λai=>(args aF ai).bind d
noncomputable def w6(c:Nat):aR->Option (List aR)
|.obj .own bZ aF=>if bZ=c then some aF else none
|_=>none
noncomputable def Cc(c:Nat)(d:List aR->Option T)(o:rJ)(aF:List bY):bY:=λai=>(o ai).bind λs=>(w6 c s).bind λos=>(args aF ai).bind λts=>d (.obj .hr c os::ts.map .aa)
noncomputable def D7(c j:Nat)(o:rJ):bY:=λai=>(o ai).bind λs=>(w6 c s).bind λos=>match os[j]? with
|some (.own ts)=>some (.list ts)
|_=>none
noncomputable def dW(f:jo):bK:=λai=>(f ai).map λr=>.bG r.2
noncomputable def yX(f:jo):bK:=λai=>(f ai).map λr=>.lF r.1 r.2
noncomputable def yV(f:bY):bK:=λai=>(f ai).map λt=>.lF t ai
noncomputable def xK(i:Nat)(f:jo):bK:=λai=>(f ai).map λr=>.bG (r.2.set i (some (.aa r.1)))
noncomputable def AB(i:Nat)(f:rJ):bK:=λai=>(f ai).map λs=>.bG (ai.set i (some s))
noncomputable def yW(i:Nat):bK:=λai=>match ai[i]? with
|some (some (.obj .own c aF))=>some (.ma (.obj .own c aF))
|_=>none
noncomputable def rC:bK:=λai=>some (.lF .none ai)
noncomputable def rF:bK:=λ_=>none
noncomputable def kZ(n:Nat)(ss:List aR):Ev:=ss.map some++d5 (n - ss.length) none
noncomputable def lG(b:bK)(n:Nat)(ss:List aR):Option T:=(b (kZ n ss)).bind λo=>match o with
|.dE t=>some t
|.bG _=>some .none
|_=>none
noncomputable def qn(c p:Nat)(ai:Ev):Option (List aR):=match ai[p]? with
|some (some (.obj .d8 bZ aF))=>if bZ=c then some aF else none
|_=>none
noncomputable def runM(c p:Nat)(b:bK)(n:Nat)(ss:List aR):Option (T×List aR):=(b (kZ n ss)).bind λo=>match o with
|.lF t ai=>(qn c p ai).map λaF=>(t,aF)
|.bG ai=>(qn c p ai).map λaF=>(.none,aF)
|_=>none
noncomputable def Cg:aR->Option aR
|.obj .own c aF=>some (.obj .own c aF)
|_=>none
noncomputable def uB(b:bK)(n:Nat)(ts:List T):Option aR:=(b ((ts.map λt=>some (.aa t))++d5 (n - ts.length) none)).bind λo=>match o with
|.ma s=>Cg s
|_=>none
end D
end
section
namespace D
open PySem PySem.Spec PyProof.Rows bu
section
variable [cD]
section
variable {K:a'}{F aE O:aj->Prop}{H ag:aB}{E:f9}
theorem gp.length:∀{aF:List aR} {vs:List V},gp K F H aF vs->aF.length=vs.length
| [],vs,r=>by
  have e:vs=[]:=r;rw[e];rfl
|s::ss,vs,r=>by
  obtain⟨v,z,rfl,_,b_⟩:=r;simp[gp.length b_]
theorem gp.get:∀{aF:List aR} {vs:List V} {j:Nat} {s:aR},gp K F H aF vs->aF[j]?=some s->∃v,vs[j]?=some v/\mz K F H s v
| [],vs,j,s,r,e=>by simp at e
|s::ss,vs,0,u,r,e=>by
  obtain⟨v,z,rfl,a_,_⟩:=r;simp at e;subst e;exact⟨v,rfl,a_⟩
|s::ss,vs,j+1,u,r,e=>by
  obtain⟨v,z,rfl,_,b_⟩:=r;obtain⟨w,ah,ar⟩:=gp.get (j:=j) (s:=u) b_ (by simpa using e);exact⟨w,by simpa using ah,ar⟩
theorem gp.set:∀{aF:List aR} {vs:List V} {j:Nat} {s:aR} {v:V},gp K F H aF vs->ek K F H aE ag->(∀(k:Nat) (u:aR) (w:V),k≠j->aF[k]?=some u->vs[k]?=some w->∀b∈d0 u w,ag b=H b)->mz K aE ag s v->gp K aE ag (aF.set j s) (vs.set j v)
| [],vs,j,s,v,r,_,_,_=>by
  have e:vs=[]:=r;subst e;exact rfl
|u::ss,vs,0,s,v,r,aG,aL,h=>by
  obtain⟨w,z,rfl,a_,b_⟩:=r;refine⟨v,z,rfl,h,b_.keep aG λb af=>?_⟩;have:∀{ss:List aR} {z:List V} (n:Nat),(∀(k:Nat) (u:aR) (w:V),ss[k]?=some u->z[k]?=some w->∀b∈d0 u w,ag b=H b)->b∈dq ss z->ag b=H b:=by
   intro ss
   induction ss with
   |nil=>intro z n _ af;simp[dq] at af
   |cons s1 ss bM=>
    intro z n aL af;cases z with
    |nil=>simp[dq] at af
    |cons v1 z=>
     rw[show dq (s1::ss) (v1::z)=d0 s1 v1++dq ss z from rfl] at af;rcases h8.mp af with q|q
     ·exact aL 0 s1 v1 rfl rfl b q
     ·exact bM n (λk u w aw aN=>aL (k+1) u w (by simpa using aw) (by simpa using aN)) q
  exact this 0 (λk u w aw aN=>aL (k+1) u w (by omega) (by simpa using aw) (by simpa using aN)) af
|u::ss,vs,j+1,s,v,r,aG,aL,h=>by
  obtain⟨w,z,rfl,a_,b_⟩:=r;exact⟨w,z.set j v,rfl,a_.keep aG λb af=>aL 0 u w (by omega) rfl rfl b af,gp.set b_ aG (λk u w am9 aw aN=>aL (k+1) u w (by omega) (by simpa using aw) (by simpa using aN)) h⟩
theorem gp.snoc:∀{aF:List aR} {vs:List V} {s:aR} {v:V},gp K F H aF vs->mz K F H s v->gp K F H (aF++[s]) (vs++[v])
| [],vs,s,v,r,h=>by
  have e:vs=[]:=r;subst e;exact⟨v,[],rfl,h,rfl⟩
|u::ss,vs,s,v,r,h=>by
  obtain⟨w,z,rfl,a_,b_⟩:=r;exact⟨w,z++[v],rfl,a_,gp.snoc b_ h⟩
theorem zev:∀{aF:List aR} {vs:List V} {s:aR} {v:V},aF.length=vs.length->dq (aF++[s]) (vs++[v])=dq aF vs++d0 s v
| [],[],s,v,_=>by simp[dq]
|u::ss,w::z,s,v,h=>by
  show d0 u w++dq (ss++[s]) (z++[v])=(d0 u w++dq ss z)++d0 s v
  rw[zev (by simpa using h),List.append_assoc]
| [],w::z,_,_,h=>by simp at h
|u::ss,[],_,_,h=>by simp at h
theorem qo:∀{aF:List aR} {vs:List V} {j:Nat} {s:aR} {v:V} {b:aj},aF[j]?=some s->vs[j]?=some v->b∈d0 s v->b∈dq aF vs
| [],vs,j,s,v,b,e,_,_=>by simp at e
|u::ss,[],j,s,v,b,_,e,_=>by simp at e
|u::ss,w::z,0,s,v,b,aw,aN,h=>by
  simp at aw aN;subst aw aN;exact h8.mpr (.inl h)
|u::ss,w::z,j+1,s,v,b,aw,aN,h=>h8.mpr (.inr (qo (j:=j) (by simpa using aw) (by simpa using aN) h))
theorem M6:∀{aF:List aR} {vs:List V} {b:aj},b∈dq aF vs->∃(j:Nat) (s:aR) (v:V),aF[j]?=some s/\vs[j]?=some v/\b∈d0 s v
| [],vs,b,h=>by simp[dq] at h
|u::ss,[],b,h=>by simp[dq] at h
|u::ss,w::z,b,h=>by
  rcases h8.mp (show b∈d0 u w++dq ss z from h) with q|q
  ·exact⟨0,u,w,rfl,rfl,q⟩
  ·obtain⟨j,s,v,aw,aN,h⟩:=M6 q;exact⟨j+1,s,v,by simpa using aw,by simpa using aN,h⟩
theorem Mh:∀{aF:List aR} {vs:List V} {j k:Nat} {s u:aR} {v w:V} {b:aj},(dq aF vs).Nodup->j≠k->aF[j]?=some s->vs[j]?=some v->aF[k]?=some u->vs[k]?=some w->b∈d0 s v->b∈d0 u w->False
| [],vs,j,k,s,u,v,w,b,_,_,e,_,_,_,_,_=>by simp at e
|x::ss,[],j,k,s,u,v,w,b,_,_,_,e,_,_,_,_=>by simp at e
|x::ss,y::z,j,k,s,u,v,w,b,aV,pZ,aw,aN,dv,gL,ah,ar=>by
  have hK:(d0 x y++dq ss z).Nodup:=aV;rw[mi] at hK;obtain⟨eA,fE,q3⟩:=hK;cases j with
  |zero=>
   cases k with
   |zero=>exact pZ rfl
   |succ k=>
    simp at aw aN;subst aw aN;exact q3 b ah b (qo (j:=k) (by simpa using dv) (by simpa using gL) ar) rfl
  |succ j=>
   cases k with
   |zero=>
    simp at dv gL;subst dv gL;exact q3 b ar b (qo (j:=j) (by simpa using aw) (by simpa using aN) ah) rfl
   |succ k=>exact Mh (j:=j) (k:=k) fE (by omega) (by simpa using aw) (by simpa using aN) (by simpa using dv) (by simpa using gL) ah ar
def Dw{aF:List aR}{vs:List V}{j:Nat}{s:aR}{v:V}{b:aj}(h:b∈dq (aF.set j s) (vs.set j v)):b∈dq aF vs\/b∈d0 s v:=by
 obtain⟨k,u,w,aw,aN,h⟩:=M6 h;by_cases aL:j=k
 ·subst aL;have cw:=(gU.mp aw).1;have cE:=(gU.mp aN).1;simp at cw cE;rw[wu,if_pos rfl,if_pos cw] at aw;rw[wu,if_pos rfl,if_pos cE] at aN;cases aw;cases aN;exact .inr h
 ·rw[wu,if_neg aL] at aw aN;exact .inl (qo aw aN h)
theorem Lj:∀{aF:List aR} {vs:List V} {j:Nat} {s:aR} {v:V},(dq aF vs).Nodup->(d0 s v).Nodup->(∀b∈d0 s v,∀(k:Nat) (u:aR) (w:V),k≠j->aF[k]?=some u->vs[k]?=some w->b∉d0 u w)->(dq (aF.set j s) (vs.set j v)).Nodup
| [],vs,j,s,v,_,_,_=>by simp[dq]
|x::ss,[],j,s,v,_,_,_=>by cases j <;> simp[dq]
|x::ss,y::z,0,s,v,aV,jz,aA=>by
  have hK:(d0 x y++dq ss z).Nodup:=aV;rw[mi] at hK;show (d0 s v++dq ss z).Nodup;rw[mi];refine⟨jz,hK.2.1,λb af c ax e=>?_⟩;subst e;obtain⟨k,u,w,aw,aN,h⟩:=M6 ax;exact aA b af (k+1) u w (by omega) (by simpa using aw) (by simpa using aN) h
|x::ss,y::z,j+1,s,v,aV,jz,aA=>by
  have hK:(d0 x y++dq ss z).Nodup:=aV;rw[mi] at hK;show (d0 x y++dq (ss.set j s) (z.set j v)).Nodup;rw[mi];refine⟨hK.1,Lj hK.2.1 jz λb af k u w aL aw aN=>aA b af (k+1) u w (by omega) (by simpa using aw) (by simpa using aN),λb af c ax e=>?_⟩;subst e;rcases Dw ax with q|q
  ·exact hK.2.2 b af b q rfl
  ·exact aA b q 0 x y (by omega) rfl rfl af
def ajl(v:V):(iW v).Nodup:=by
 unfold iW;split <;> simp
def R8(s:aR)(v:V):(d0 s v).Nodup:=by
 cases s <;> first|exact ajl v|simp[d0]
theorem LD:∀{ns:List Str} {vs:List V} {j:Nat} {f:Str} {v:V},ns.Nodup->ns[j]?=some f->vs[j]?=some v->(ns.zip vs).lookup f=some v
| [],_,_,_,_,_,e,_=>by simp at e
|_::_,[],_,_,_,_,_,e=>by simp at e
|n::ns,w::vs,0,f,v,_,aw,aN=>by
  simp at aw aN;subst aw aN;simp[kq]
|n::ns,w::vs,j+1,f,v,aV,aw,aN=>by
  have ne:f≠n:=by
   rintro rfl;exact (eP.mp aV).1 (pb (by simpa using aw))
  have af:(f==n)=false:=beq_eq_false_iff_ne.mpr ne;simp only[sO,kq,af];exact LD (j:=j) (eP.mp aV).2 (by simpa using aw) (by simpa using aN)
theorem zt:∀{ns:List Str} {vs:List V} {f:Str},f∉ns->(ns.zip vs).lookup f=none
| [],_,_,_=>by simp
|_::_,[],_,_=>by simp
|n::ns,w::vs,f,h=>by
  have ne:f≠n:=λe=>h (by simp[e]);have af:(f==n)=false:=beq_eq_false_iff_ne.mpr ne;simp only[sO,kq,af];exact zt λz=>h (dF _ z)
theorem S4:∀{ns:List Str} {vs:List V} {j:Nat} {f:Str} {v:V},ns.Nodup->ns[j]?=some f->j<vs.length->bu.hq f v (ns.zip vs)=ns.zip (vs.set j v)
| [],_,_,_,_,_,e,_=>by simp at e
|_::_,[],_,_,_,_,_,h=>by simp at h
|n::ns,w::vs,0,f,v,_,aw,h=>by
  simp at aw;subst aw;simp[bu.hq]
|n::ns,w::vs,j+1,f,v,aV,aw,h=>by
  have ne:n≠f:=by
   rintro rfl;exact (eP.mp aV).1 (pb (by simpa using aw))
  simp only[sO,jl,bu.hq,if_neg ne];rw[S4 (j:=j) (eP.mp aV).2 (by simpa using aw) (by simpa using h)]
theorem Rb:∀{ns:List Str} {vs:List V} {f:Str} {v:V},ns.Nodup->ns[vs.length]?=some f->bu.hq f v (ns.zip vs)=ns.zip (vs++[v])
| [],_,_,_,_,e=>by simp at e
|n::ns,[],f,v,_,aw=>by
  simp at aw;subst aw;simp[bu.hq]
|n::ns,w::vs,f,v,aV,aw=>by
  have ne:n≠f:=by
   rintro rfl;exact (eP.mp aV).1 (pb (by simpa using aw))
  simp only[sO,rf,bu.hq,if_neg ne];rw[Rb (eP.mp aV).2 (by simpa using aw)]
end
structure hi(K:a')(c:Nat)(C:aj)(ns:List Str):Prop where
 oF:cD.oF c=some C
 fl:cD.fl c=ns
 cls:oq K C
 aV:ns.Nodup
 na:∀f∈ns,rA K C f
 Bc:ns.length<1000
section
variable {K:a'}{aJ F a6 O:aj->Prop}{H H1:aB}{E:f9}{ai ε':Ev}{σ:bu.St}{c C i j:Nat}{ns:List Str}
def qk{m:jq}{aF:List aR}(h:iV c i ai=some (m,aF)):ai[i]?=some (some (.obj m c aF)):=by
 unfold iV at h;split at h
 next l7 bZ ir e=>
  split at h
  next ax=>
   cases h
   rw[e,ax]
  next=>cases h
 next=>cases h
def rz{m:jq}{aF:List aR}(k:hi K c C ns)(r:cJ K aJ E O F H ai σ)(h:iV c i ai=some (m,aF)):
  ∃a vs bE,σ[i]?=some (some (.ref a))/\H a=some (.ins C bE (ns.zip vs))/\vs.length<=ns.length/\iF H a c vs/\gp K F H aF vs/\(a::dq aF vs).Nodup/\(∀b∈a::dq aF vs,xF E O F m b)/\(m=.d8->a=E.jx):=by
 obtain⟨v,ah,a,vs,rfl,aA,hf,aV,gB,jx⟩:=r.val i _ (qk h);obtain⟨aI,hx⟩:=id aA;rw[k.oF] at hx;obtain⟨bE,hx⟩:=hx;rw[k.fl] at aI hx;exact⟨a,vs,bE,ah,hx,aI,aA,hf,aV,gB,jx⟩
def Ec{m:jq}(hm:m≠.hr){aF:List aR}:(aR.obj m c aF).jb=true:=by
 cases m with
|hr=>exact absurd rfl hm
|own=>rfl
|d8=>rfl
def cJ.Cw{s:aR}{v:V}{a bE:aj}{vs:List V}(k:hi K c C ns)(r:cJ K aJ E O F H ai σ){m:jq}{aF:List aR}(aK:iV c i ai=some (m,aF))(ah:σ[i]?=some (some (.ref a)))(aA:iF H a c vs)(he:jd c i j s ai=some ε')
  (rs:mz K F H s v) (own:∀b∈d0 s v,¬F b/\O b/\b∉dz H (.obj m c aF) (.ref a)/\∀(k:Nat) (u:aR) (w:V),i≠k->ai[k]?=some (some u)->u.jb=true->σ[k]?=some (some w)->b∉dz H u w) (hx:H a=some (.ins C bE (ns.zip vs)))
  {f:Str} (bS:ns[j]?=some f):ek K F H F (upd H a (.ins C bE (bu.hq f v (ns.zip vs))))/\cJ K aJ E O F (upd H a (.ins C bE (bu.hq f v (ns.zip vs)))) ε' σ:=by
 obtain⟨kF,ff,vI,dI,kh,aI,nK,hf,aV,gB,jx⟩:=rz k r aK;rw[ah] at dI;cases dI;have ev:ff=vs:=by rw[<- aA.vals,<- nK.vals]
 subst ev;have jT:dz H (.obj m c aF) (.ref a)=a::dq aF ff:=kY aA;rw[jT] at own;unfold jd at he;rw[aK] at he;simp only[cz] at he;split at he
 next=>cases he
 next hm=>
 have hlen:=hf.length;have yh:(aR.obj m c aF).jb=true:=Ec hm;have Pl:∀b,xF E O F m b <-> ¬F b/\O b:=λb=>by
  cases m with
  |hr=>exact absurd rfl hm
  |own=>exact Iff.rfl
  |d8=>exact Iff.rfl
 have na:∀b∈dq aF ff,b≠a:=λb af z=>(eP.mp aV).1 (z▸af);split at he
 next ye=>
  cases he
  have Hv:j<ff.length:=by omega
  rw[S4 k.aV bS Hv];have uc:∀b∈a::dq (aF.set j s) (ff.set j v),b∈a::dq aF ff\/b∈d0 s v:=λb af=>by
   rcases cN.mp af with rfl|af
   ·exact .inl fg
   ·rcases Dw af with q|q
    ·exact .inl (dF _ q)
    ·exact .inr q
  have nL:∀o':aB,o' a=some (.ins C bE (ns.zip (ff.set j v)))->iF o' a c (ff.set j v):=λo' e=>by
   refine⟨by rw[k.fl];simpa using aI,?_⟩
   rw[k.oF,k.fl];exact⟨bE,e⟩
  refine r.B8 (qk aK) yh ah (by rw[jT];exact fg) (λaG=>⟨a,ff.set j v,rfl,nL _ dU,?_,?_,λb af=>?_,jx⟩) λb af=>?_
  ·refine gp.set hf aG (λk u w _ aw aN b af=>cR (na b (qo aw aN af))) (rs.keep aG λb af=>cR λz=>(own b af).2.2.1 (z▸fg))
  ·refine eP.mpr ⟨λz=>?_,Lj (eP.mp aV).2 (R8 s v) λb af k u w _ aw aN q=>(own b af).2.2.1 (dF _ (qo aw aN q))⟩
   rcases Dw z with q|q
   ·exact (eP.mp aV).1 q
   ·exact (own a q).2.2.1 fg
  ·rcases uc b af with q|q
   ·exact gB b q
   ·exact (Pl b).mpr ⟨(own b q).1,(own b q).2.1⟩
  ·rw[kY (nL _ dU)] at af;rcases uc b af with q|q
   ·exact .inl (by rw[jT];exact q)
   ·exact .inr (own b q).2.2.2
 next ye=>
  split at he
  next am7=>
   cases he
   have Hv:j=ff.length:=by omega
   rw[Rb k.aV (by rw[<- Hv];exact bS)];have am8:j<ns.length:=(gU.mp bS).1;have uc:∀b∈a::dq (aF++[s]) (ff++[v]),b∈a::dq aF ff\/b∈d0 s v:=λb af=>by
    rw[zev hlen] at af;rcases cN.mp af with rfl|af
    ·exact .inl fg
    ·rcases h8.mp af with q|q
     ·exact .inl (dF _ q)
     ·exact .inr q
   have nL:∀o':aB,o' a=some (.ins C bE (ns.zip (ff++[v])))->iF o' a c (ff++[v]):=λo' e=>by
    refine⟨by rw[k.fl];simp;omega,?_⟩
    rw[k.oF,k.fl];exact⟨bE,e⟩
   refine r.B8 (qk aK) yh ah (by rw[jT];exact fg) (λaG=>⟨a,ff++[v],rfl,nL _ dU,?_,?_,λb af=>?_,jx⟩) λb af=>?_
   ·exact gp.snoc (hf.keep aG λb af=>cR (na b af)) (rs.keep aG λb af=>cR λz=>(own b af).2.2.1 (z▸fg))
   ·rw[zev hlen];refine eP.mpr ⟨λz=>?_,mi.mpr ⟨(eP.mp aV).2,R8 s v,λb af d hd e=>?_⟩⟩
    ·rcases h8.mp z with q|q
     ·exact (eP.mp aV).1 q
     ·exact (own a q).2.2.1 fg
    ·subst e;exact (own b hd).2.2.1 (dF _ af)
   ·rcases uc b af with q|q
    ·exact gB b q
    ·exact (Pl b).mpr ⟨(own b q).1,(own b q).2.1⟩
   ·rw[kY (nL _ dU)] at af;rcases uc b af with q|q
    ·exact .inl (by rw[jT];exact q)
    ·exact .inr (own b q).2.2.2
  next=>cases he
def cJ.B7{s s':aR}{a b:aj}{vs:List V}{o':ed}(r:cJ K aJ E O F H ai σ){m:jq}{aF:List aR}(aK:iV c i ai=some (m,aF))(ah:σ[i]?=some (some (.ref a)))(aA:iF H a c vs)(he:jd c i j s' ai=some ε')
  (az:aF[j]?=some s) (bh:vs[j]?=some (.ref b)) (aQ:b∈d0 s (.ref b)) (Bl:d0 s' (.ref b)=[b]) (rs:ek K F H F (upd H b o')->mz K F (upd H b o') s' (.ref b)):ek K F H F (upd H b o')/\cJ K aJ E O F (upd H b o') ε' σ:=by
 obtain⟨v,dI,kF,ff,ev,nK,hf,aV,gB,jx⟩:=r.val i _ (qk aK);rw[ah] at dI;cases dI;cases ev;have ev:ff=vs:=by rw[<- aA.vals,<- nK.vals]
 subst ev;have jT:dz H (.obj m c aF) (.ref a)=a::dq aF ff:=kY aA;unfold jd at he;rw[aK] at he;simp only[cz] at he;split at he
 next=>cases he
 next hm=>
 have ye:j<aF.length:=(gU.mp az).1;rw[if_pos ye] at he;cases he;have iR:b∈dq aF ff:=qo az bh aQ;have Zp:a≠b:=λz=>(eP.mp aV).1 (z▸iR);have nL:iF (upd H b o') a c ff:=aA.keep (cR Zp);have GB:ff.set j (.ref b)=ff:=by
  obtain⟨aI,e⟩:=gU.mp bh;rw[<- e];exact List.set_getElem_self aI
 have Hr:∀x∈dq (aF.set j s') ff,x∈dq aF ff:=λx hx=>by
  rw[<- GB] at hx;rcases Dw hx with q|q
  ·exact q
  ·rw[Bl] at q;rw[kT.mp q];exact iR
 refine r.B8 (qk aK) (Ec hm) ah (by rw[jT];exact dF _ iR) (λaG=>⟨a,ff,rfl,nL,?_,?_,λx hx=>?_,jx⟩) λx hx=>?_
 ·rw[<- GB];exact gp.set hf aG (λk u w aL aw aN x hx=>cR λz=>Mh (eP.mp aV).2 (Ne.symm aL) az bh aw aN aQ (z▸hx)) (rs aG)
 ·refine eP.mpr ⟨λz=>(eP.mp aV).1 (Hr a z),?_⟩
  rw[<- GB];refine Lj (eP.mp aV).2 (by rw[Bl];simp) λx hx k u w aL aw aN q=>?_;rw[Bl] at hx;rw[kT.mp hx] at q;exact Mh (eP.mp aV).2 (Ne.symm aL) az bh aw aN aQ q
 ·rcases cN.mp hx with rfl|hx
  ·exact gB _ fg
  ·exact gB x (dF _ (Hr x hx))
 ·rw[kY nL] at hx;rw[jT];rcases cN.mp hx with rfl|hx
  ·exact .inl fg
  ·exact .inl (dF _ (Hr x hx))
end
end
section
variable [cD]
section
variable {K:a'}{aJ F O:aj->Prop}{H:aB}{E:f9}{ai:Ev}{σ:bu.St}{c C i j:Nat}{ns:List Str}{f:Str}
def anO{m:jq}{aF:List aR}{s:aR}(k:hi K c C ns)(r:cJ K aJ E O F H ai σ)(h:iV c i ai=some (m,aF))(az:aF[j]?=some s)(bS:ns[j]?=some f):
  ∃a vs bE v,σ[i]?=some (some (.ref a))/\H a=some (.ins C bE (ns.zip vs))/\(ns.zip vs).lookup f=some v/\iF H a c vs/\vs[j]?=some v/\mz K F H s v/\(∀b∈d0 s v,xF E O F m b/\b≠a):=by
 obtain⟨a,vs,bE,ah,hx,aI,aA,hf,aV,gB,jx⟩:=rz k r h;obtain⟨v,bh,bW⟩:=hf.get az;refine⟨a,vs,bE,v,ah,hx,LD k.aV bS bh,aA,bh,bW,λb af=>⟨gB b (dF _ (qo az bh af)),λz=>(eP.mp aV).1 (z▸qo az bh af)⟩⟩
def my(k:hi K c C ns)(bS:ns[j]?=some f):rA K C f:=k.na f (pb bS)
end
section
variable {X:aY}{c C i j:Nat}{ns:List Str}{f:Str}{o e a:bt}{g h:bY}{pos apos:Pos}
def ig(k:hi X.K c C ns)(bc:b0 X o (gS i))(bS:ns[j]?=some f:=by rfl)(af:j4 o f X.env (eval o X.env)=eval o X.env:=by rfl):ey X (.Attribute o f pos) (fld c i j):=
 eu (ry bc af) λσ H Q ⟨aJ,aT,O,F,ai,t,r,e,b9⟩=>by
 simp only[fld,cf] at e;obtain⟨⟨m,aF⟩,aK,e⟩:=e;split at e
 next t' az=>
  cases e
  obtain⟨a,vs,bE,v,ah,hx,aI,aA,bh,bW,_⟩:=anO k r aK az bS;exact⟨_,ah,a,C,bE,_,v,rfl,hx,k.cls,my k bS,aI,b9 v F H (Ext.refl r.cb) (.inl bW)⟩
 next ts az=>
  cases e
  obtain⟨a,vs,bE,v,ah,hx,aI,aA,bh,⟨b,us,d4,af,e8⟩,_⟩:=anO k r aK az bS;subst d4;exact⟨_,ah,a,C,bE,_,_,rfl,hx,k.cls,my k bS,aI,b9 _ F H (Ext.refl r.cb) (.inr ⟨ts,b,us,rfl,rfl,af,e8⟩)⟩
 next=>cases e
def lR(k:hi X.K c C ns)(bc:b0 X o (gS i))(bS:ns[j]?=some f:=by rfl)(af:j4 o f X.env (eval o X.env)=eval o X.env:=by rfl):cO X (.Attribute o f pos) (hF c i j):=
 eu (ry bc af) λσ H Q ⟨aJ,aT,O,F,ai,t,r,e,b9⟩=>by
 simp only[hF,cf] at e;obtain⟨⟨m,aF⟩,aK,e⟩:=e;split at e
 next t' az=>
  cases e
  obtain⟨a,vs,bE,v,ah,hx,aI,aA,bh,bW,_⟩:=anO k r aK az bS;exact⟨_,ah,a,C,bE,_,v,rfl,hx,k.cls,my k bS,aI,b9 v F H (Ext.refl r.cb) bW⟩
 next=>cases e
def DS{ai:Ev}{kvs:List (D.Key×T)}(e:oO c i j ai=some kvs):∃m aF,iV c i ai=some (m,aF)/\aF[j]?=some (.h1 kvs):=by
 simp only[oO,cf] at e;obtain⟨⟨m,aF⟩,aK,e⟩:=e;split at e
 ·cases e
  exact⟨m,aF,aK,by assumption⟩
 ·cases e
def R9{ai:Ev}{ts:List T}(e:qP c i j ai=some ts):∃m aF,iV c i ai=some (m,aF)/\aF[j]?=some (.own ts):=by
 simp only[qP,cf] at e;obtain⟨⟨m,aF⟩,aK,e⟩:=e;split at e
 ·cases e
  exact⟨m,aF,aK,by assumption⟩
 ·cases e
def MS(k:hi X.K c C ns)(b1:X.A.units+1<cLine)(bc:b0 X o (gS i))(aA:ey X a g)(bS:ns[j]?=some f:=by rfl)(af:j4 o f X.env (eval o X.env)=eval o X.env:=by rfl)(az:ER a:=by intro _ _;rfl):
  cO X (.Subscript (unop%Wm 0) a pos) (oN c i j g):=eu (akt b1 (ry bc af) aA az) λσ H Q ⟨aJ,aT,O,F,ai,t,r,e,b9⟩=>by
 simp only[oN,cf] at e;obtain⟨t',bU,key,gb,kvs,gw,mP⟩:=e;obtain⟨m,aF,aK,az⟩:=DS gw;obtain⟨a,vs,bE,v,ah,hx,aI,aA,bh,⟨b,us,d4,af,e8⟩,_⟩:=anO k r aK az bS;subst d4;refine⟨_,ah,a,C,bE,_,_,rfl,hx,k.cls,my k bS,aI,aJ,aT,O,F,ai,t',r,bU,λv a6 H1 aS aP=>?_⟩;have t_:=aS.same.get af;have wc:=el.aG (aS.aG (K:=X.K)) e8;obtain⟨w,hw,lH⟩:=wc.get mP;refine⟨b,w,rfl,?_,b9 w a6 H1 aS lH⟩;rw[vi gb aP,<- hw];exact rH.k t_
def SO{K:a'}{aJ F O a6:aj->Prop}{H H1:aB}{E:f9}{ai:Ev}{σ:bu.St}{b:aj}(r:cJ K aJ E O F H ai σ)(x:Ext F H a6 H1)(bc:H b=none):
  ∀(k:Nat) (u:aR) (w:V),ai[k]?=some (some u)->σ[k]?=some (some w)->b∉dz H1 u w:=λk u w gb aL af=>by
 obtain⟨df,ah,ar⟩:=r.val k u gb;rw[aL] at ah;cases ah;rw[(ar.xW x).2] at af;obtain⟨o,e,_⟩:=ar.at af;rw[bc] at e;cases e
def gk(k:hi X.K c C ns)(bc:b0 X o (gS i))(he:cO X e g)(bS:ns[j]?=some f:=by rfl)(az:kr e (some (unop%Wm 0)) pos.line X.env=pure false:=by rfl):
  gF X (.Assign [.Attribute o f apos] e pos) (e0 c i j g):=hT (MT bc he az) λD σ H ⟨aJ,aT,O,F,ai,o,r,e,b9⟩=>by
 simp only[e0,cf,dR] at e;obtain⟨t,bU,ε',es,rfl⟩:=e;refine⟨aJ,aT,O,F,ai,t,r,bU,λv a6 H1 aS aP=>?_⟩;have a_:=r.ext aS;have ju:=es;unfold jd at ju;simp only[cf] at ju;obtain⟨⟨m,aF⟩,aK,_⟩:=ju;obtain⟨a,vs,bE,ah,hx,aI,aA,_⟩:=rz k a_ aK;obtain⟨aG,b_⟩:=a_.Cw (s:=.aa t) (v:=v) k aK ah aA es aP (λb af=>by simp[d0] at af) hx bS;refine⟨_,ah,a,C,bE,_,rfl,hx,k.cls,my k bS,?_,b9 σ a6 _ (aS.aG.trans aG) b_⟩;have:=k.Bc;simp only[List.length_zip];omega
def w0(k:hi X.K c C ns)(bc:b0 X o (gS i))(he:an0 X e g)(bS:ns[j]?=some f:=by rfl)(az:kr e (some (unop%Wm 0)) pos.line X.env=pure false:=by rfl):
  gF X (.Assign [.Attribute o f apos] e pos) (nv c i j g):=hT (MT bc he az) λD σ H ⟨aJ,aT,O,F,ai,o,r,e,b9⟩=>by
 simp only[nv,cf] at e;obtain⟨t,bU,e⟩:=e;split at e
 next ts=>
  simp only[dR] at e;obtain⟨ε',es,rfl⟩:=e;refine⟨aJ,aT,O,F,ai,ts,r,bU,λb us a6 H1 aS qU jc af aP=>?_⟩;have a_:=r.ext aS;have ju:=es;unfold jd at ju;simp only[cf] at ju;obtain⟨⟨m,aF⟩,aK,_⟩:=ju;obtain⟨a,vs,bE,ah,hx,aI,aA,_⟩:=rz k a_ aK;have hold:=SO r aS qU;obtain⟨aG,b_⟩:=a_.Cw (s:=.own ts) (v:=.ref b) k aK ah aA es ⟨b,us,rfl,af,aP⟩ (λd hd=>by
   have:d=b:=by simpa [d0,iW] using hd
   subst this;exact⟨jc,r.fr _ qU,hold i _ _ (qk aK) ah,λk u w _ gb _ aL=>hold k u w gb aL⟩) hx bS
  refine⟨_,ah,a,C,bE,_,rfl,hx,k.cls,my k bS,?_,b9 σ a6 _ (aS.aG.trans aG) b_⟩
  have:=k.Bc;simp only[List.length_zip];omega
 next=>cases e
def Sn{x y:T}{z:Int}(h:anS x y=some z):∃p q,x=.int p/\y=.int q/\z=p+q:=by
 unfold anS at h;split at h
 ·cases h
  exact⟨_,_,rfl,rfl,rfl⟩
 ·cases h
def TO(k:hi X.K c C ns)(bc:b0 X o (gS i))(he:cO X e g)(bS:ns[j]?=some f:=by rfl):gF X (.AugAssign (unop%Wm 0) .Add e pos) (qG c i j g):=
 hT (aik bc he T') λD σ H ⟨aJ,aT,O,F,ai,o,r,e,b9⟩=>by
 simp only[qG,cf,dR] at e;obtain⟨x,ex,y,fI,z,tZ,ε',es,rfl⟩:=e;simp only[hF,cf] at ex;obtain⟨⟨m,aF⟩,aK,ex⟩:=ex;split at ex
 next t' az=>
  cases ex
  obtain⟨p,q,rfl,rfl,rfl⟩:=Sn tZ;obtain⟨a,vs,bE,v,ah,hx,aI,aA,bh,bW,_⟩:=anO k r aK az bS;refine⟨_,ah,a,C,bE,_,v,rfl,hx,k.cls,my k bS,aI,aJ,aT,O,F,ai,_,r,fI,λw a6 H1 aS aP=>?_⟩;have a_:=r.ext aS;have ev:v=.int p:=by simpa [mz,Rep] using bW
  have oM:w=.int q:=by simpa [Rep] using aP
  obtain⟨kF,ff,vI,dI,kh,ZU,nK,_⟩:=rz k a_ aK;rw[ah] at dI;cases dI;obtain⟨aG,b_⟩:=a_.Cw (s:=.aa (.int (p+q))) (v:=.int (p+q)) k aK ah nK es (by simp[mz,Rep]) (λb af=>by simp[d0] at af) kh bS;refine⟨p,q,ev,oM,vI,_,kh,?_,b9 σ a6 _ (aS.aG.trans aG) b_⟩;have:=k.Bc;simp only[List.length_zip];omega
 next=>cases ex
def TR(k:hi X.K c C ns)(bc:b0 X o (gS i)){nE d3:Pos}(he:cO X e g)(bS:ns[j]?=some f:=by rfl)(af:j4 o f X.env (eval o X.env)=eval o X.env:=by rfl)
  (oR:a9 [e] X.env=(false,eval e X.env)::a9 [] X.env:=by rfl)
  (mS:j4 (unop%Wm 0) "append" X.env (eval (unop%Wm 0) X.env)=eval (unop%Wm 0) X.env:=by rfl)
  (qT:((c3 d3 (a9 [e] X.env)).all (λx=>!x.1) && (fP d3 (fO [] X.env)).all (λx=>x.1.isSome)
   && decide (([e]:List bt).length+([]:List Keyword).length+(if ([]:List Keyword).isEmpty then 0 else 1)<30))=true:=by rfl)
  (mT:(nE.endLine==d3.line)=true:=by rfl) (qX:(c3 d3 (a9 [] X.env)).any (·.1)=false:=by rfl)
  (oT:kr (.Call (.Attribute (unop%Wm 0) "append" nE) [e] [] d3) none pos.line X.env=pure false:=by rfl):
  gF X (.Expr (.Call (.Attribute (unop%Wm 0) "append" nE) [e] [] d3) pos) (qF c i j g):=
 hT (zW (xm wz PySem.F.slot_list_append PySem.F.type_list_append LV (ry bc af) (e3 he hb oR) mS qT mT oR qX) oT) λD σ H ⟨aJ,aT,O,F,ai,o,r,e,b9⟩=>by
 simp only[qF,cf] at e;obtain⟨t,bU,ts,jt,e⟩:=e;split at e
 next au=>
  simp only[dR] at e;obtain⟨ε',es,rfl⟩:=e;obtain⟨m,aF,aK,az⟩:=R9 jt;obtain⟨a,vs,bE,v,ah,hx,aI,aA,bh,⟨b,us,d4,af,e8⟩,_⟩:=anO k r aK az bS;subst d4;refine⟨_,ah,a,C,bE,_,_,rfl,hx,k.cls,my k bS,aI,.inl ⟨rfl,_,fi.of af⟩,aJ,aT,O,F,ai,t,r,bU,λv a6 H1 aS aP=>?_⟩;have a_:=r.ext aS;obtain⟨a1,uN,amX,v1,Be,HR,sg,Bi,Pu,⟨b6,Qz,YP,t_,wc⟩,_⟩:=anO k a_ aK az bS;rw[ah] at Be;cases Be;have ev:uN=vs:=by rw[<- Bi.vals,<- (aA.keep ((aS.same.get hx).trans hx.symm)).vals]
  subst ev;rw[bh] at Pu;cases Pu;cases YP;obtain⟨aG,b_⟩:=a_.B7 (s':=.own (ts++[t])) (o':=.lst (Qz++[v])) aK ah Bi es az bh (by simp[d0,iW]) rfl λaG=>⟨b,_,rfl,dU,(wc.aG aG).append (bB.cons (aP.aG aG) bB.nil)⟩;exact⟨b,Qz,v,rfl,rfl,t_,by rw[lT,<- wc.length];exact au,b9 σ a6 _ (aS.aG.trans aG) b_⟩
 next=>cases e
def alb(k:hi X.K c C ns)(b1:X.A.units+1<cLine)(bc:b0 X o (gS i)){uC:Pos}(aA:ey X a h)(he:cO X e g)(bS:ns[j]?=some f:=by rfl)(af:j4 o f X.env (eval o X.env)=eval o X.env:=by rfl)
  (az:kr e (some (.Subscript (unop%Wm 0) a uC)) pos.line X.env=pure false:=by rfl):
  gF X (.Assign [.Subscript (unop%Wm 0) a uC] e pos) (tj c i j h g):=hT (akk b1 (ry bc af) aA he az) λD σ H ⟨aJ,aT,O,F,ai,o,r,e,b9⟩=>by
 simp only[tj,cf] at e;obtain⟨v,ev,t,bU,key,gb,kvs,gw,e⟩:=e;split at e
 next au=>
  simp only[dR] at e;obtain⟨ε',es,rfl⟩:=e;obtain⟨m,aF,aK,az⟩:=DS gw;refine⟨aJ,aT,O,F,ai,v,r,ev,λKV a6 H1 aS aP=>?_⟩;have a_:=r.ext aS;obtain⟨a,vs,bE,w,ah,hx,aI,aA,bh,⟨b,us,d4,af,e8⟩,_⟩:=anO k a_ aK az bS;subst d4;refine⟨_,ah,a,C,bE,_,_,rfl,hx,k.cls,my k bS,aI,aJ,aT,O,a6,ai,t,a_,bU,λvt dr bw bN bf=>?_⟩;have b_:=a_.ext bN;have Hg:iF bw a c vs:=aA.keep ((bN.same.get hx).trans hx.symm);have Km:=el.aG (bN.aG (K:=X.K)) e8;obtain⟨aG,lE⟩:=b_.B7 (s':=.h1 (putD kvs key v)) (o':=.fo (putK us key KV)) aK ah Hg es az bh (by simp[d0,iW]) rfl λaG=>⟨b,_,rfl,dU,el.put (el.aG aG Km) ((aP.ext bN).aG aG)⟩;refine⟨b,_,rfl,?_,b9 σ dr _ ((aS.trans bN).aG.trans aG) lE⟩;rw[vi gb bf];exact tA.k (bN.same.get af) (by rw[lT,<- e8.length];exact au)
 next=>cases e
def akc(k:hi X.K c C ns)(b1:X.A.units+1<cLine)(bc:b0 X o (gS i)){uC:Pos}(aA:ey X a h)(he:cO X e g)(bS:ns[j]?=some f:=by rfl)(af:j4 o f X.env (eval o X.env)=eval o X.env:=by rfl)
  (Zl:∀e7 kN new,augStore a e7 kN new=(do holding [new,e7,kN] (setItem e7 kN new);release [new,e7,kN] [];pure .next):=by intros;rfl):
  gF X (.AugAssign (.Subscript (unop%Wm 0) a uC) .Add e pos) (tp c i j h g):=hT (akl b1 (ry bc af) aA he T' Zl) λD σ H ⟨aJ,aT,O,F,ai,o,r,e,b9⟩=>by
 simp only[tp,cf] at e;obtain⟨t,bU,key,gb,kvs,gw,x,mP,y,fI,z,tZ,e⟩:=e;split at e
 next au=>
  simp only[dR] at e;obtain⟨ε',es,rfl⟩:=e;obtain⟨p,q,rfl,rfl,rfl⟩:=Sn tZ;obtain⟨m,aF,aK,az⟩:=DS gw;obtain⟨a,vs,bE,w,ah,hx,aI,aA,bh,⟨b,us,d4,af,e8⟩,_⟩:=anO k r aK az bS;subst d4;refine⟨_,ah,a,C,bE,_,_,rfl,hx,k.cls,my k bS,aI,aJ,aT,O,F,ai,t,r,bU,λvt a6 H1 aS aP=>?_⟩;have a_:=r.ext aS;have wc:=el.aG (aS.aG (K:=X.K)) e8;have t_:=aS.same.get af;obtain⟨w,hw,lH⟩:=wc.get mP;have oM:w=.int p:=by simpa [Rep] using lH
  subst oM;refine⟨b,_,rfl,by rw[vi gb aP,<- hw];exact rH.k t_,aJ,aT,O,a6,ai,_,a_,fI,λKV dr bw bN bf=>?_⟩;have ev:KV=.int q:=by simpa [Rep] using bf
  subst ev;refine⟨p,q,rfl,rfl,?_⟩;have b_:=a_.ext bN;have q_:=aS.trans bN;have Hg:iF bw a c vs:=aA.keep ((q_.same.get hx).trans hx.symm);have Km:=el.aG (q_.aG (K:=X.K)) e8;obtain⟨aG,lE⟩:=b_.B7 (s':=.h1 (putD kvs key (.int (p+q)))) (o':=.fo (putK us key (.int (p+q)))) aK ah Hg es az bh (by simp[d0,iW]) rfl λaG=>⟨b,_,rfl,dU,el.put (el.aG aG Km) (by simp[Rep])⟩;refine⟨_,?_,b9 σ dr _ (q_.aG.trans aG) lE⟩;rw[vi gb aP];exact tA.k (q_.same.get af) (by rw[lT,<- e8.length];exact au)
 next=>cases e
end
end
section
variable [cD]
noncomputable def anY(K:a')(F:aj->Prop)(H:aB)(σ:bu.St):List pB->List aR->List V->Prop
| [],[],[]=>True
|.v _::as,s::ss,v::vs=>(∃t,s=.aa t/\Rep K F H t v)/\anY K F H σ as ss vs
|.o i::as,s::ss,v::vs=>σ[i]?=some (some v)/\anY K F H σ as ss vs
|_,_,_=>False
noncomputable def aeW(K:a')(as:List pB):fH:=λσ H Q=>∃aJ E O F ai ss,cJ K aJ E O F H ai σ/\rW as ai=some ss/\∀vs aE ag,Ext F H aE ag->anY K aE ag σ as ss vs->Q vs ag
abbrev As(X:aY)(es:List bt)(as:List pB):Prop:=fR X es (aeW X.K as)
def UA{X:aY}{e:List bt}{t t':fH}(h:fR X e t)(k:∀σ H Q,t' σ H Q->t σ H Q):fR X e t':=Ab h k
section
variable {X:aY}{e:bt}{es:List bt}{as:List pB}{f:bY}{i:Nat}
def Ug:As X [] []:=UA hb<|by
 rintro σ H Q ⟨aJ,E,O,F,ai,ss,r,e,k⟩
 cases e
 exact k [] F H (Ext.refl r.cb) trivial
def tL(ah:cO X e f)(ar:As X es as)(az:a9 (e::es) X.env=(false,eval e X.env)::a9 es X.env:=by rfl):As X (e::es) (.v f::as):=UA (e3 ah ar az)<|by
 rintro σ H Q ⟨aJ,E,O,F,ai,ss,r,e,k⟩
 simp only[rW,cf,dR] at e;obtain⟨t,bU,us,gc,rfl⟩:=e;exact⟨aJ,E,O,F,ai,t,r,bU,λv a6 H1 aS aP=>⟨aJ,E,O,a6,ai,us,r.ext aS,gc,λvs dr bw bN bf=>k _ dr bw (aS.trans bN) ⟨⟨t,rfl,aP.ext bN⟩,bf⟩⟩⟩
def air{ai:Ev}{s:aR}(h:J5 i ai=some s):∃m c aF,s=.obj m c aF/\ai[i]?=some (some s):=by
 unfold J5 at h;split at h
 next m c aF e=>
  cases h
  exact⟨m,c,aF,rfl,e⟩
 next=>cases h
end
noncomputable def Ak(K:a')(F:aj->Prop)(H:aB)(ss:List aR)(vs:List V):Prop:=Paired (λs v=>s.jb=false/\ec K ⟨H,0⟩ (λa=>H a=none) F H s v) ss vs
noncomputable def Qj(K:a')(n:Nat)(d:List aR->Option T):kD:=λvs H Q _=>vs.length=n/\∃F ss t,e' F H/\Ak K F H ss vs/\d ss=some t/\∀v aE ag,Ext F H aE ag->Rep K aE ag t v->Q v ag
section
variable {K:a'}{F aE aJ O:aj->Prop}{H ag:aB}{E mF:f9}
theorem Paired.get{α β:Type}{R:α->β->Prop}:∀{xs:List α} {ys:List β} {i:Nat} {x:α},Paired R xs ys->xs[i]?=some x->∃y,ys[i]?=some y/\R x y
|_,_,i,x,.nil,e=>by simp at e
|_,_,0,x,.cons r _,e=>by
  simp at e;subst e;exact⟨_,rfl,r⟩
|_,_,i+1,x,.cons _ t,e=>by
  obtain⟨y,ah,ar⟩:=Paired.get (i:=i) (x:=x) t (by simpa using e);exact⟨y,by simpa using ah,ar⟩
def zI{ss:List aR}{n i:Nat}{s:aR}(h:(kZ n ss)[i]?=some (some s)):ss[i]?=some s:=by
 unfold kZ at h;by_cases aQ:i<ss.length
 ·rw[wo (by simpa using aQ),kp,iZ aQ] at h;rw[iZ aQ];simpa using h
 ·rw[wm (by simpa using aQ),List.getElem?_replicate] at h;split at h <;> cases h
def RU{vs:List V}{n i:Nat}{v:V}(h:vs[i]?=some v):(vs.map some++d5 n none)[i]?=some (some v):=by
 have aQ:=(gU.mp h).1;rw[wo (by simpa using aQ),kp,h];rfl
def M_{m:jq}{c:Nat}{aF:List aR}{v:V}(r:ec K E O F H (.obj m c aF) v)(mF:f9)(ox:aj->Prop)(he:∀b∈dz H (.obj m c aF) v,mF.h b≠none):ec K mF ox F H (.obj .hr c aF) v:=by
 have cm:=r;obtain⟨a,vs,rfl,aA,hf,aV,gB,jx⟩:=r;rw[kY aA] at he;exact⟨a,vs,rfl,aA,hf,aV,λb af=>⟨(gB b af).1,he b af⟩,λz=>by cases z⟩
def Rc{ss:List aR}{vs:List V}(cb:e' F H)(q:Ak K F H ss vs)(n:Nat):cJ K F ⟨H,0⟩ (λa=>H a=none) F H (kZ n ss) (vs.map some++d5 (n - vs.length) none):=by
 have aI:ss.length=vs.length:=Paired.length q;refine⟨by simp[kZ,aI],λi s e=>?_,λi j s u v w kg aw aN dK=>?_,Ext.refl cb,λ_ h=>h,λ_ h=>h⟩
 ·obtain⟨v,bh,_,bW⟩:=Paired.get q (zI e);exact⟨v,RU bh,bW⟩
 ·obtain⟨_,_,z,_⟩:=Paired.get q (zI aw);rw[z] at dK;cases dK
theorem M8{ai:Ev}{σ:bu.St}(r:cJ K aJ E O F H ai σ):∀{as:List pB} {ss:List aR} {vs:List V},rW as ai=some ss->anY K F H σ as ss vs->Ak K F H (ss.map Kp) vs
| [],ss,vs,e,h=>by
  cases e
  cases vs with
  |nil=>exact .nil
  |cons v vs=>exact h.elim
|.v f::as,ss,vs,e,h=>by
  simp only[rW,cf,dR] at e;obtain⟨t,bU,us,gc,rfl⟩:=e;cases vs with
  |nil=>exact h.elim
  |cons v vs=>
   obtain⟨⟨t',bx,dE⟩,h⟩:=h;cases bx;exact .cons ⟨rfl,dE⟩ (M8 r gc h)
|.o i::as,ss,vs,e,h=>by
  simp only[rW,cf,dR] at e;obtain⟨s,es,us,gc,rfl⟩:=e;cases vs with
  |nil=>exact h.elim
  |cons v vs=>
   obtain⟨bh,h⟩:=h;obtain⟨m,c,aF,rfl,az⟩:=air es;obtain⟨hM,uj,rs⟩:=r.val i _ az;rw[bh] at uj;cases uj;refine .cons ⟨rfl,M_ rs _ _ λb af=>?_⟩ (M8 r gc h);obtain⟨o,e,_⟩:=rs.at af;show H b≠none;rw[e];exact λz=>by cases z
theorem S8:∀{ts:List T} {vs:List V},bB K F H ts vs->Ak K F H (ts.map .aa) vs
| [],vs,h=>by
  simp only[bB] at h;subst h;exact .nil
|t::ts,vs,h=>by
  simp only[bB] at h;obtain⟨v,z,rfl,q,h⟩:=h;exact .cons ⟨rfl,q⟩ (S8 h)
end
section
variable {P:cu}{w:b8}{K:a'}{mg:Str->Option ao}{base:bL}
def akV{x qual:Str}{st:Stmt}{f:aj}{fd:er}{N ps:List Str}{k:Nat}{b:bK}(F:cK K x qual st f fd)(S:cW N ps (bQ st))
  (af:∀(b3:ao) (A:cp) (outer:List Env) (s:aH) (H:aB) (E:e5),c9 k (unop%W5 0) ->
   i7 (unop%W3 0).d9 (fh st) b):
  eY P w K mg base dC (k+1) f fd ps (Qj K ps.length (lG b N.length)):=by
 refine F.ok S (λvs H Q E h=>h.1) λb3 A outer s H vs Q E ay h=>⟨_,af b3 A outer s H E ay,?_⟩
 obtain⟨aI,F,ss,t,cb,q,e,iU⟩:=h;simp only[lG,cf] at e;obtain⟨o,eH,e⟩:=e;refine⟨F,⟨H,0⟩,λa=>H a=none,F,_,o,?_,eH,?_⟩
 ·unfold bu.start;exact Rc cb q N.length
 ·cases o with
  |dE t'=>
   cases e
   exact λv aE ag x q=>iU v aE ag x q
  |bG ε'=>
   cases e
   exact λcj aE ag _ r=>iU _ aE ag r.ent (by simp[Rep])
  |gI _=>cases e
  |cP _=>cases e
  |lF _ _=>cases e
  |ma _=>cases e
structure j'(P:cu)(w:b8)(K:a')(mg:Str->Option ao)(base:bL)(C:aj)(m:Str)(k n:Nat)(d:List aR->Option T):Prop where
 ex:∃ck fd ps,eY P w K mg base dC k ck fd ps (Qj K n d)/\Meth K C m ck/\f7 K fd ps []
theorem j'.mono{C:aj}{m:Str}{k n j:Nat}{d:List aR->Option T}(c:j' P w K mg base C m j n d)(h:j<=k):j' P w K mg base C m k n d:=by
 obtain⟨ck,fd,ps,F,r⟩:=c.ex;exact⟨ck,fd,ps,F.mono h,r⟩
def z9{C:aj}{m qual:Str}{st:Stmt}{f:aj}{fd:er}{N ps:List Str}{k:Nat}{b:bK}(F:cK K m qual st f fd)(S:cW N ps (bQ st))(bd:f7 K fd ps [])(jV:Meth K C m f)
  (af:∀(b3:ao) (A:cp) (outer:List Env) (s:aH) (H:aB) (E:e5),c9 k (unop%W5 0) ->
   i7 (unop%W3 0).d9 (fh st) b):j' P w K mg base C m (k+1) ps.length (lG b N.length):=⟨f,fd,ps,akV F S af,jV,bd⟩
end
theorem zR:∀{gd:List bY} {ai:Ev} {us:List T},args gd ai=some us->us.length=gd.length
| [],ai,us,e=>by
  cases e
  rfl
|g::gd,ai,us,e=>by
  simp only[args,cf,dR] at e;obtain⟨t,_,vs,ev,rfl⟩:=e;simp[zR ev]
theorem anY.len{K:a'}{F:aj->Prop}{H:aB}{σ:bu.St}:∀{as:List pB} {ss:List aR} {vs:List V},anY K F H σ as ss vs->vs.length=as.length
| [],[],[],_=>rfl
|.v _::as,s::ss,v::vs,h=>by simp[anY.len h.2]
|.o i::as,s::ss,v::vs,h=>by simp[anY.len h.2]
| [],[],_::_,h=>h.elim
| [],_::_,_,h=>h.elim
|.v _::_,[],_,h=>h.elim
|.v _::_,_::_,[],h=>h.elim
|.o _::_,[],_,h=>h.elim
|.o _::_,_::_,[],h=>h.elim
section
variable {X:aY}{k n c C i:Nat}{ns:List Str}{d:List aR->Option T}{x m:Str}{p pos apos:Pos}{o e:bt}{es:List bt}{as:List pB}{aF:List bY}
def zV(ho:hi X.K c C ns)(mE:j' X.prog X.w X.K X.mg X.base C m k n d)(ay:c9 k X.A)(bc:b0 X o (gS i))(aA:nB X (e::es) aF){pl:Sem Bool}(hm:m∉ns:=by decide +kernel)(aI:aF.length+1=n:=by rfl)
  (gg:a9 (e::es) X.env=(false,eval e X.env)::a9 es X.env:=by rfl) (hpl:(unop%Wu 0).any (·.1)=false:=by rfl)
  (bp:eval (unop%WJ 0) X.env=(do
   let e7 <- eval o X.env
   standAt apos.atName
   let (f,first) <- holding [e7] (getMethod e7 m pl)
   callWith pos f first (c3 pos (a9 (e::es) X.env)) (fP pos (fO [] X.env))):=by rfl):cO X (unop%WJ 0) (oi c d i aF):=by
 obtain⟨ck,fd,ps,F,jV,b⟩:=mE.ex;refine eu (Tc bc ho.cls jV F ay b .nil vp aA gg hpl bp) λσ H Q hqq=>?_;obtain⟨aJ,E,O,F,ai,t,r,e,k⟩:=hqq;simp only[oi,cf] at e;obtain⟨⟨ur,os⟩,aK,ts,bU,gw⟩:=e;obtain⟨a,vs,bE,ah,hx,_⟩:=rz ho r aK;refine⟨_,ah,a,bE,_,rfl,hx,zt hm,aJ,E,O,F,ai,ts,r,bU,λws a6 H1 aS q=>⟨?_,a6,_,t,aS.cb,?_,gw,λv aE ag bN bf=>k v aE ag (aS.trans bN) bf⟩⟩
 ·rw[lO,fy,<- q.length,zR bU,aI]
 ·rw[lO];have a_:=r.ext aS;obtain⟨hM,dI,rs⟩:=a_.val i _ (qk aK);rw[ah] at dI;cases dI;refine .cons ⟨rfl,M_ rs _ _ λb af=>?_⟩ (S8 q);obtain⟨o,e,_⟩:=rs.at af;show H1 b≠none;rw[e];exact λz=>by cases z
end
end
section
variable [cD]
open Classical in
noncomputable def ih(H:aB)(P:List aj)(a:aj):f9:=⟨λb=>if b∈P then none else H b,a⟩
section
variable {K:a'}{F aE aJ O:aj->Prop}{H ag:aB}{E:f9}{P:List aj}{a b:aj}{o:ed}{ai:Ev}{σ:bu.St}{c i:Nat}{m:jq}{aF ir:List aR}
def DZ(h:b∈P):(ih H P a).h b=none:=if_pos h
def u7(h:b∉P):(ih H P a).h b=H b:=if_neg h
def DC(h:(ih H P a).h b=none):b∈P\/H b=none:=by
 by_cases z:b∈P
 ·exact .inl z
 ·rw[u7 z] at h;exact .inr h
def ahH(h:(ih H P a).h b=some o):b∉P/\H b=some o:=by
 by_cases z:b∈P
 ·rw[DZ z] at h;cases h
 ·exact⟨z,by rw[u7 z] at h;exact h⟩
def ajH(d:e' F H):Ext F (ih H P a).h F H:=⟨λ_ _ q=>.inl (ahH q).2,λ_ h=>h,λ_ h=>.inl h,d⟩
def akJ{v:V}(r:ec K E O F H (.obj m c aF) (.ref a)):ec K (ih H (dz H (.obj m c aF) (.ref a)) a) (λb=>(ih H (dz H (.obj m c aF) (.ref a)) a).h b=none) F H (.obj .d8 c aF) (.ref a):=by
 obtain⟨kF,vs,e,aA,hf,aV,gB,jx⟩:=r;cases e;rw[kY aA];exact⟨a,vs,rfl,aA,hf,aV,λb af=>⟨(gB b af).1,DZ af⟩,λ_=>rfl⟩
def cJ.back(r:cJ K aJ E O F H ai σ)(e:ai[i]?=some (some (.obj m c aF)))(hm:m≠.hr)(ah:σ[i]?=some (some (.ref a)))(fC:P=dz H (.obj m c aF) (.ref a))(x:Ext F (ih H P a).h aE ag)
  (rs:ec K (ih H P a) (λb=>(ih H P a).h b=none) aE ag (.obj .d8 c ir) (.ref a)):ek K F H aE ag/\cJ K aJ E O aE ag (ai.set i (some (.obj m c ir))) σ:=by
 obtain⟨v,dI,lD⟩:=r.val i _ e;rw[ah] at dI;cases dI;have yh:(aR.obj m c aF).jb=true:=Ec hm;have uo:∀b∈P,(∃o,H b=some o/\ou o)/\¬F b/\O b:=λb af=>by
  rw[fC] at af;exact⟨lD.at af,(lD.held af).1,(lD.held af).2.1 yh⟩
 have jY:∀b o,b∉P->H b=some o->(∀ps,o≠.iA ps)->ag b=some o:=λb o af e n=>x.same.get (by rw[u7 af];exact e) n;have aG:ek K F H aE ag:=by
  refine⟨λb xs q=>?_,λb xs f q=>⟨x.sub b f,?_⟩⟩
  ·rcases q with q|q
   ·refine .inl ?_
    have nb:b∉P:=λz=>by
     obtain⟨⟨o,eH,aK⟩,_⟩:=uo b z;rcases q with q|⟨_,q⟩ <;> (rw[eH] at q;cases q;exact aK.cases (λ_ z=>by cases z) (λ_ z=>by cases z) (λ_ _ _ z=>by cases z))
    rcases q with q|⟨u,q⟩
    ·exact .inl (jY b _ nb q λ_ z=>by cases z)
    ·exact .inr ⟨u,jY b _ nb q λ_ z=>by cases z⟩
   ·exact .inr q
  ·have nb:b∉P:=λz=>(uo b z).2.1 f;rcases q with q|⟨u,q⟩
   ·exact .inl (jY b _ nb q λ_ z=>by cases z)
   ·exact .inr ⟨u,jY b _ nb q λ_ z=>by cases z⟩
 have PV:∀b,aE b->F b\/b∈P\/H b=none:=λb f=>by
  rcases x.new b f with z|z
  ·exact .inl z
  ·exact .inr (DC z)
 have keep:∀(j:Nat) (u:aR) (w:V),i≠j->ai[j]?=some (some u)->σ[j]?=some (some w)->ec K E O F H u w->(∀b∈dz H u w,b∉P)/\ec K E O aE ag u w/\dz ag u w=dz H u w:=by
  intro j u w kg tW bS cY;have uv:∀b∈dz H u w,b∉P:=λb af z=>by
   cases sA:u.jb with
   |true=>exact r.ne i j _ u _ w kg e tW yh sA ah bS b (fC▸z) af
   |false=>exact (cY.held af).2.2 sA (r.o0 b (uo b z).2.2)
  refine⟨uv,cY.keep aG (λb af=>?_) (λb af f=>?_) λ_ _ o=>o⟩
  ·obtain⟨o,eH,aK⟩:=cY.at af;rw[eH];exact jY b o (uv b af) eH λps z=>by subst z;exact aK.cases (λ_ z=>by cases z) (λ_ z=>by cases z) (λ_ _ _ z=>by cases z)
  ·rcases PV b f with z|z|z
   ·exact z
   ·exact absurd z (uv b af)
   ·obtain⟨o,eH,_⟩:=cY.at af;rw[z] at eH;cases eH
 obtain⟨kF,vs,ea,aA,hf,aV,gB,_⟩:=rs;cases ea;have kM:∀b∈a::dq ir vs,¬aE b/\(b∈P\/H b=none):=λb af=>by
  obtain⟨n,q⟩:=gB b af;exact⟨n,DC q⟩
 have ank:(aR.obj m c ir).jb=true:=Ec hm;have aaN:m=.d8->a=E.jx:=by
  obtain⟨_,_,bP,_,_,_,_,jx⟩:=lD;cases bP;exact jx
 have acN:∀b,¬aE b/\O b->xF E O aE m b:=λb h=>by
  cases m with
  |hr=>exact absurd rfl hm
  |own=>exact h
  |d8=>exact h
 have yU:ec K E O aE ag (.obj m c ir) (.ref a):=⟨a,vs,rfl,aA,hf,aV,λb af=>acN b ⟨(kM b af).1,by
  rcases (kM b af).2 with z|z
  ·exact (uo b z).2.2
  ·exact r.fr b z⟩,aaN⟩
 have jT:dz ag (.obj m c ir) (.ref a)=a::dq ir vs:=kY aA;have apart:∀(j:Nat) (u:aR) (w:V),i≠j->ai[j]?=some (some u)->σ[j]?=some (some w)->ec K E O F H u w->∀b∈dz ag (.obj m c ir) (.ref a),b∉dz H u w:=λj u w kg tW bS cY b af jS=>by
  rw[jT] at af;rcases (kM b af).2 with z|z
  ·exact (keep j u w kg tW bS cY).1 b jS z
  ·obtain⟨o,eH,_⟩:=cY.at jS;rw[z] at eH;cases eH
 refine⟨aG,⟨by simp[r.len],λj u bx=>?_,λj k u w e9 m5 pZ aw aN dK en aP bf=>?_,⟨λb o q=>?_,λb f=>x.sub b (r.ent.sub b f),λb f=>?_,x.cb⟩,r.o0,λb bx=>?_⟩⟩
 ·rcases oe bx with ⟨rfl,qM,aI⟩|⟨ne,qM⟩
  ·cases qM
   exact⟨_,ah,yU⟩
  ·obtain⟨w,ar,cY⟩:=r.val j u qM;exact⟨w,ar,(keep j u w ne qM ar cY).2.1⟩
 ·rcases oe aw with ⟨rfl,bx,aI⟩|⟨ne1,kJ⟩
  ·rcases oe aN with ⟨rfl,_,_⟩|⟨ne2,h2⟩
   ·exact absurd rfl pZ
   ·cases bx
    rw[ah] at aP;cases aP;obtain⟨df,ar,cY⟩:=r.val k w h2;rw[bf] at ar;cases ar;rw[(keep k w m5 ne2 h2 bf cY).2.2];exact apart k w m5 ne2 h2 bf cY
  ·obtain⟨v1,ar,a_⟩:=r.val j u kJ;rw[aP] at ar;cases ar;rw[(keep j u e9 ne1 kJ aP a_).2.2];rcases oe aN with ⟨rfl,bx,aI⟩|⟨ne2,h2⟩
   ·cases bx
    rw[ah] at bf;cases bf;intro b af jS;exact apart j u e9 ne1 kJ aP a_ b jS af
   ·obtain⟨df,bk,b_⟩:=r.val k w h2;rw[bf] at bk;cases bk;rw[(keep k w m5 ne2 h2 bf b_).2.2];exact r.ne j k u w e9 m5 pZ kJ h2 dK en aP bf
 ·have nb:b∉P:=λz=>by
   rw[r.o0 b (uo b z).2.2] at q;cases q
  rcases r.ent.same b o q with z|⟨ps,yO,aw,z⟩
  ·exact x.same b o (by rw[u7 nb];exact z)
  ·rcases x.same b _ (by rw[u7 nb];exact z) with gD|⟨_,yP,_,gD⟩
   ·exact .inr ⟨ps,yO,aw,gD⟩
   ·exact .inr ⟨ps,yP,aw,gD⟩
 ·rcases PV b f with z|z|z
  ·exact r.ent.new b z
  ·exact .inr (r.o0 b (uo b z).2.2)
  ·exact .inr (r.o0 b (r.fr b z))
 ·rcases DC (x.same.none bx) with z|z
  ·exact (uo b z).2.2
  ·exact r.fr b z
end
noncomputable def y1(K:a')(n c p:Nat)(d:List aR->Option (T×List aR)):kD:=λvs H Q _=>vs.length=n/\∃(F:aj->Prop) (ss:List aR) (a:aj) (P:List aj) (aF:List aR) (r:T×List aR),e' F H/\vs[p]?=some (.ref a)/\ss[p]?=some (.obj .d8 c aF) /\
 Paired (λs v=>ec K (ih H P a) (λb=>(ih H P a).h b=none) F H s v) ss vs/\(∀q s,q≠p->ss[q]?=some s->s.jb=false)/\d ss=some r /\
 ∀v aE ag,Ext F (ih H P a).h aE ag->Rep K aE ag r.1 v->ec K (ih H P a) (λb=>(ih H P a).h b=none) aE ag (.obj .d8 c r.2) (.ref a)->Q v ag
section
variable {P:cu}{w:b8}{K:a'}{mg:Str->Option ao}{base:bL}
def ag4{c p:Nat}{ai:Ev}{aF:List aR}(h:qn c p ai=some aF):ai[p]?=some (some (.obj .d8 c aF)):=by
 unfold qn at h;split at h
 next bZ ir e=>
  split at h
  next ax=>
   cases h
   rw[e,ax]
  next=>cases h
 next=>cases h
def To{x qual:Str}{st:Stmt}{f:aj}{fd:er}{N ps:List Str}{k c p:Nat}{b:bK}(F:cK K x qual st f fd)(S:cW N ps (bQ st))
  (af:∀(b3:ao) (A:cp) (outer:List Env) (s:aH) (H:aB) (E:e5),c9 k (unop%W5 0) ->
   i7 (unop%W3 0).d9 (fh st) b):
  eY P w K mg base dC (k+1) f fd ps (y1 K ps.length c p (runM c p b N.length)):=by
 refine F.ok S (λvs H Q E h=>h.1) λb3 A outer s H vs Q E ay h=>⟨_,af b3 A outer s H E ay,?_⟩
 obtain⟨aI,F,ss,a,tF,aF,r,cb,bh,az,q,aK,e,iU⟩:=h;simp only[runM,cf] at e;obtain⟨o,eH,e⟩:=e;have hlen:ss.length=vs.length:=Paired.length q;refine⟨F,ih H tF a,λb=>(ih H tF a).h b=none,F,_,o,?_,eH,?_⟩
 ·unfold bu.start;refine⟨by simp[kZ,hlen],λi s e=>?_,λi j s u v w kg aw aN dK en=>?_,ajH cb,λ_ h=>h,λb af=>?_⟩
  ·obtain⟨v,bh,bW⟩:=Paired.get q (zI e);exact⟨v,RU bh,bW⟩
  ·by_cases aQ:i=p
   ·subst aQ;rw[aK j u (Ne.symm kg) (zI aN)] at en;cases en
   ·rw[aK i s aQ (zI aw)] at dK;cases dK
  ·by_cases z:b∈tF
   ·exact DZ z
   ·exact (u7 z).trans af
 ·have fin:∀{ε':Ev} {cj:bu.St} {aE:aj->Prop} {ag:aB} {ir:List aR},cJ K F (ih H tF a) (λb=>(ih H tF a).h b=none) aE ag ε' cj->qn c p ε'=some ir->ec K (ih H tF a) (λb=>(ih H tF a).h b=none) aE ag (.obj .d8 c ir) (.ref a):=λcm jt=>by
   obtain⟨hM,_,rs⟩:=cm.val p _ (ag4 jt);have yU:=rs;obtain⟨kF,_,rfl,_,_,_,_,jx⟩:=rs;have:kF=a:=jx rfl;subst this;exact yU
  cases o with
  |dE t'=>cases e
  |bG ε'=>
   simp only[dR] at e;obtain⟨ir,jt,rfl⟩:=e;exact λcj aE ag _ cm=>iU _ aE ag cm.ent (by simp[Rep]) (fin cm jt)
  |gI _=>cases e
  |cP _=>cases e
  |lF t ε'=>
   simp only[dR] at e;obtain⟨ir,jt,rfl⟩:=e;exact λv cj aE ag cm bW=>iU v aE ag cm.ent bW (fin cm jt)
  |ma _=>cases e
structure dn(P:cu)(w:b8)(K:a')(mg:Str->Option ao)(base:bL)(C:aj)(c:Nat)(m:Str)(k n:Nat)(d:List aR->Option (T×List aR)):Prop where
 ex:∃ck fd ps,eY P w K mg base dC k ck fd ps (y1 K n c 0 d)/\Meth K C m ck/\f7 K fd ps []
theorem dn.mono{C:aj}{c:Nat}{m:Str}{k n j:Nat}{d:List aR->Option (T×List aR)}(h:dn P w K mg base C c m j n d)(bS:j<=k):dn P w K mg base C c m k n d:=by
 obtain⟨ck,fd,ps,F,r⟩:=h.ex;exact⟨ck,fd,ps,F.mono bS,r⟩
def j5{C:aj}{m qual:Str}{st:Stmt}{f:aj}{fd:er}{N ps:List Str}{k c:Nat}{b:bK}(F:cK K m qual st f fd)(S:cW N ps (bQ st))(bd:f7 K fd ps [])(jV:Meth K C m f)
  (af:∀(b3:ao) (A:cp) (outer:List Env) (s:aH) (H:aB) (E:e5),c9 k (unop%W5 0) ->
   i7 (unop%W3 0).d9 (fh st) b):dn P w K mg base C c m (k+1) ps.length (runM c 0 b N.length):=⟨f,fd,ps,To F S af,jV,bd⟩
end
noncomputable def y9(K:a')(f:jo):TE:=λσ H Q=>∃aJ E O F ai t ε',cJ K aJ E O F H ai σ/\f ai=some (t,ε')/\∀v aE ag,ek K F H aE ag->cJ K aJ E O aE ag ε' σ->Rep K aE ag t v->Q v ag
abbrev oy(X:aY)(e:bt)(f:jo):Prop:=b0 X e (y9 X.K f)
section
variable {X:aY}{k n c C i:Nat}{ns:List Str}{d:List aR->Option (T×List aR)}{x m:Str}{p pos apos:Pos}{o e:bt}{es:List bt}{aF gd:List bY}{OX:jo}
theorem Mx{K:a'}{E:f9}{O F:aj->Prop}{H:aB}:∀{ts:List T} {vs:List V},bB K F H ts vs->Paired (λs v=>ec K E O F H s v) (ts.map .aa) vs
| [],vs,h=>by
  simp only[bB] at h;subst h;exact .nil
|t::ts,vs,h=>by
  simp only[bB] at h;obtain⟨v,z,rfl,q,h⟩:=h;exact .cons q (Mx h)
def Tn{ts:List T}{q:Nat}{s:aR}(h:(ts.map aR.aa)[q]?=some s):s.jb=false:=by
 rw[kp] at h;cases e:ts[q]? with
|none=>rw[e] at h;cases h
|some t=>rw[e] at h;cases h;rfl
def SJ{σ:bu.St}{H H1:aB}{aJ O F a6:aj->Prop}{E:f9}{ai:Ev}{ur:jq}{os:List aR}{a:aj}{Q:c0}{ws:List V}{ts:List T}{r:T×List aR}(rE:cJ X.K aJ E O F H ai σ)(aK:iV c i ai=some (ur,os))(hm:ur≠.hr)(ah:σ[i]?=some (some (.ref a)))
  (aS:Ext F H a6 H1) (q:bB X.K a6 H1 ts ws) (gw:d (.obj .d8 c os::ts.map .aa)=some r) (aI:ts.length+1=n)
  (b9:∀v aE ag,ek X.K F H aE ag->cJ X.K aJ E O aE ag (ai.set i (some (.obj ur c r.2))) σ->Rep X.K aE ag r.1 v->Q v ag):y1 X.K n c 0 d (.ref a::ws) H1 Q j_:=by
 have a_:=rE.ext aS;obtain⟨hM,dI,rs⟩:=a_.val i _ (qk aK);rw[ah] at dI;cases dI;refine⟨by simp[<- q.length,aI],a6,_,a,dz H1 (.obj ur c os) (.ref a),os,r,aS.cb,rfl,rfl,.cons (akJ (v:=.ref a) rs) (Mx q),λj s bS az=>?_,gw,λv aE ag bN bW adS=>?_⟩
 ·cases j with
  |zero=>exact absurd rfl bS
  |succ j=>exact Tn (q:=j) (by simpa using az)
 ·obtain⟨aG,b_⟩:=a_.back (qk aK) hm ah rfl bN adS;exact b9 v aE ag (aS.aG.trans aG) b_ bW
def fQ(ho:hi X.K c C ns)(mE:dn X.prog X.w X.K X.mg X.base C c m k n d)(ay:c9 k X.A)(bc:b0 X o (gS i))(aA:nB X (e::es) aF){pl:Sem Bool}(hm:m∉ns:=by decide +kernel)(aI:aF.length+1=n:=by rfl)
  (gg:a9 (e::es) X.env=(false,eval e X.env)::a9 es X.env:=by rfl) (hpl:(unop%Wu 0).any (·.1)=false:=by rfl)
  (bp:eval (unop%WJ 0) X.env=(do
   let e7 <- eval o X.env
   standAt apos.atName
   let (f,first) <- holding [e7] (getMethod e7 m pl)
   callWith pos f first (c3 pos (a9 (e::es) X.env)) (fP pos (fO [] X.env))):=by rfl):oy X (unop%WJ 0) (dS c d i aF):=by
 obtain⟨ck,fd,ps,F,jV,b⟩:=mE.ex;refine eu (Tc bc ho.cls jV F ay b .nil vp aA gg hpl bp) λσ H Q hqq=>?_;obtain⟨aJ,E,O,F,ai,t,ε',r,e,b9⟩:=hqq;simp only[dS,cf] at e;obtain⟨⟨ur,os⟩,aK,e⟩:=e;split at e
 next=>cases e
 next HB=>
  simp only[cf,dR] at e;obtain⟨ts,bU,cm,gw,e⟩:=e;cases e;obtain⟨a,vs,bE,ah,hx,_⟩:=rz ho r aK;refine⟨_,ah,a,bE,_,rfl,hx,zt hm,aJ,E,O,F,ai,ts,r,bU,λws a6 H1 aS q=>?_⟩;show y1 X.K n c 0 d (V.ref a::(ws++[])) H1 Q j_;rw[lO];exact SJ r aK HB ah aS q gw (by rw[zR bU,aI]) b9
def va(ho:hi X.K c C ns)(mE:dn X.prog X.w X.K X.mg X.base C c m k n d)(ay:c9 k X.A)(bc:b0 X o (gS i)){pl:Sem Bool}(hm:m∉ns:=by decide +kernel)(aI:1=n:=by rfl)
  (bp:eval (unop%WT 0) X.env=(do
   let e7 <- eval o X.env
   standAt apos.atName
   let (f,first) <- holding [e7] (getMethod e7 m pl)
   callWith pos f first (c3 pos (a9 [] X.env)) (fP pos (fO [] X.env))):=by rfl):oy X (unop%WT 0) (dS c d i []):=by
 obtain⟨ck,fd,ps,F,jV,b⟩:=mE.ex;refine eu (SG bc ho.cls jV F ay b .nil vp bp) λσ H Q hqq=>?_;obtain⟨aJ,E,O,F,ai,t,ε',r,e,b9⟩:=hqq;simp only[dS,cf] at e;obtain⟨⟨ur,os⟩,aK,e⟩:=e;split at e
 next=>cases e
 next HB=>
  simp only[cf,dR] at e;obtain⟨ts,bU,cm,gw,e⟩:=e;cases e;cases bU;obtain⟨a,vs,bE,ah,hx,_⟩:=rz ho r aK;refine⟨_,ah,a,bE,_,rfl,hx,zt hm,?_⟩;exact SJ r aK HB ah (Ext.refl r.cb) bB.nil gw (by simpa using aI) b9
def eS(h:oy X e OX)(oT:kr e none pos.line X.env=pure false:=by rfl):gF X (.Expr e pos) (dW OX):=hT (zW h oT)<|by
 rintro D σ H ⟨aJ,E,O,F,ai,o,r,e,k⟩
 simp only[dW,dR] at e;obtain⟨⟨t,ε'⟩,bU,rfl⟩:=e;exact⟨aJ,E,O,F,ai,t,ε',r,bU,λv aE ag aG cm _=>k σ aE ag aG cm⟩
def Mv:gF X (.Return none pos) rC:=hT akj<|by
 rintro D σ H ⟨aJ,E,O,F,ai,o,r,e,k⟩
 cases e
 exact k .d1 σ F H r (by simp[Rep])
def S6{st:Stmt}:gF X st rF:=by rintro ak s σ H D I ⟨aJ,E,O,F,ai,o,r,e,k⟩;cases e
end
end
section
variable [cD]
noncomputable def tO(K:a')(f:rJ):TE:=λσ H Q=>∃aJ E O F ai s,cJ K aJ E O F H ai σ/\f ai=some s/\∀a aE ag,Ext F H aE ag->ec K E O aE ag s (.ref a)->(∀b∈dz ag s (.ref a),H b=none)->Q (.ref a) ag
abbrev xG(X:aY)(e:bt)(f:rJ):Prop:=b0 X e (tO X.K f)
noncomputable def Qi(K:a')(n:Nat)(d:List T->Option aR):kD:=λvs H Q _=>vs.length=n/\∃F ts s,e' F H/\bB K F H ts vs/\d ts=some s/\∀a aE ag,Ext F H aE ag->ec K ⟨H,0⟩ (λb=>H b=none) aE ag s (.ref a)->Q (.ref a) ag
def RZ{s t:aR}(h:Cg s=some t):∃c os,s=.obj .own c os/\t=.obj .own c os:=by
 unfold Cg at h;split at h
 ·cases h
  exact⟨_,_,rfl,rfl⟩
 ·cases h
section
variable {P:cu}{w:b8}{K:a'}{mg:Str->Option ao}{base:bL}
def akW{x qual:Str}{st:Stmt}{f:aj}{fd:er}{N ps:List Str}{k:Nat}{b:bK}(F:cK K x qual st f fd)(S:cW N ps (bQ st))
  (af:∀(b3:ao) (A:cp) (outer:List Env) (s:aH) (H:aB) (E:e5),c9 k (unop%W5 0) ->
   i7 (unop%W3 0).d9 (fh st) b):
  eY P w K mg base dC (k+1) f fd ps (Qi K ps.length (uB b N.length)):=by
 refine F.ok S (λvs H Q E h=>h.1) λb3 A outer s H vs Q E ay h=>⟨_,af b3 A outer s H E ay,?_⟩
 obtain⟨aI,F,ts,t,cb,q,e,iU⟩:=h;simp only[uB,cf] at e;obtain⟨o,eH,e⟩:=e;refine⟨F,⟨H,0⟩,λa=>H a=none,F,_,o,?_,eH,?_⟩
 ·have:=LH (N:=N) cb q (N.length - ts.length);unfold bu.start;rw[q.length] at this ⊢;exact this
 ·cases o with
  |ma s=>
   obtain⟨c,os,rfl,rfl⟩:=RZ e;exact λa aE ag x rs=>iU a aE ag x rs
  |bG ε'=>cases e
  |gI _=>cases e
  |cP _=>cases e
  |lF _ _=>cases e
  |dE _=>cases e
structure rG(P:cu)(w:b8)(K:a')(mg:Str->Option ao)(base:bL)(x:Str)(k n:Nat)(d:List T->Option aR):Prop where
 ex:∃ck fd ps,eY P w K mg base dC k ck fd ps (Qi K n d)/\mg x=some (.ref ck)/\m8 K (.ref ck)=true/\f7 K fd ps []
theorem rG.mono{x:Str}{k n j:Nat}{d:List T->Option aR}(c:rG P w K mg base x j n d)(h:j<=k):rG P w K mg base x k n d:=by
 obtain⟨ck,fd,ps,F,r⟩:=c.ex;exact⟨ck,fd,ps,F.mono h,r⟩
def al3{x:Str}{st:Stmt}{f:aj}{fd:er}{N ps:List Str}{k:Nat}{b:bK}(F:cK K x x st f fd)(S:cW N ps (bQ st))(bd:f7 K fd ps [])(m:mg x=some (.ref f))
  (af:∀(b3:ao) (A:cp) (outer:List Env) (s:aH) (H:aB) (E:e5),c9 k (A.deeper (envOfC x (bQ st) s.heap.objs.size f b3)) ->
   i7 (fm dC P w K mg base N x (bQ st) f b3 A outer s H E).d9 (fh st) b):rG P w K mg base x (k+1) ps.length (uB b N.length):=⟨f,fd,ps,akW F S af,m,F.aG,bd⟩
structure anZ(P:cu)(w:b8)(K:a')(mg:Str->Option ao)(base:bL)(x:Str)(C:aj)(c k n:Nat)(d:List aR->Option (T×List aR)):Prop where
 ex:∃ck fd ps,eY P w K mg base dC k ck fd ps (y1 K n c 0 d)/\xB K C ck/\mg x=some (.ref C)/\f7 K fd ps []
theorem anZ.mono{x:Str}{C:aj}{c k n j:Nat}{d:List aR->Option (T×List aR)}(h:anZ P w K mg base x C c j n d)(bS:j<=k):anZ P w K mg base x C c k n d:=by
 obtain⟨ck,fd,ps,F,r⟩:=h.ex;exact⟨ck,fd,ps,F.mono bS,r⟩
def alO{x:Str}{C:aj}{qual:Str}{st:Stmt}{f:aj}{fd:er}{N ps:List Str}{k c:Nat}{b:bK}(F:cK K "__init__" qual st f fd)(S:cW N ps (bQ st))(bd:f7 K fd ps [])(jV:xB K C f)(m:mg x=some (.ref C))
  (af:∀(b3:ao) (A:cp) (outer:List Env) (s:aH) (H:aB) (E:e5),c9 k (unop%W5 0) ->
   i7 (unop%W3 0).d9 (fh st) b):anZ P w K mg base x C c (k+1) ps.length (runM c 0 b N.length):=⟨f,fd,ps,To F S af,jV,m,bd⟩
end
section
variable {X:aY}{k n c C i j:Nat}{ns:List Str}{x m f:Str}{p pos apos:Pos}{o e:bt}{es:List bt}{aF:List bY}{vP:rJ}
def S9{K:a'}{E mF:f9}{O ox aE:aj->Prop}{ag:aB}{m:jq}{c:Nat}{os:List aR}{a:aj}(rs:ec K mF ox aE ag (.obj m c os) (.ref a))(hm:m≠.hr)(h:∀b,ox b->O b):ec K E O aE ag (.obj .own c os) (.ref a):=by
 obtain⟨kF,vs,e,aA,hf,aV,gB,_⟩:=rs;refine⟨kF,vs,e,aA,hf,aV,λb af=>⟨(gB b af).1,h b ?_⟩,λz=>by cases z⟩;have q:=(gB b af).2;cases m with
|hr=>exact absurd rfl hm
|own=>exact q
|d8=>exact q
def amC{d:List aR->Option (T×List aR)}(ho:hi X.K c C ns)(mE:anZ X.prog X.w X.K X.mg X.base x C c k n d)(ay:c9 (k+1) X.A)(aA:nB X (e::es) aF)(bg:dZ X x:=by rfl)(aI:aF.length+1=n:=by rfl)(fD:(x==("__debug__":Str))=false:=by decide)
  (he:a9 (e::es) X.env=(false,eval e X.env)::a9 es X.env:=by rfl) (hpl:(unop%Wu 0).any (·.1)=false:=by rfl):xG X (unop%Wz 0) (B_ c d aF):=by
 obtain⟨ck,fd,ps,F,M,hm,b⟩:=mE.ex;refine eu (aks M F ay bg hm b .nil vp aA fD he hpl) λσ H Q hqq=>?_;obtain⟨aJ,E,O,F,ai,s,r,e,b9⟩:=hqq;simp only[B_,cf] at e;obtain⟨ts,bU,cm,gw,e⟩:=e;refine⟨aJ,E,O,F,ai,ts,r,bU,λws a6 H1 aS q=>λy bE a7 O9 dJ=>?_⟩;rw[lO];have _s:upd (upd H1 bE (.own y)) y (.ins C bE []) y=some (.ins C bE []):=dU;have nL:∀bw:aB,bw y=some (.ins C bE [])->iF bw y c []:=λbw e=>by
  refine⟨n8 _,?_⟩
  rw[ho.oF];exact⟨bE,by simpa using e⟩
 have oY:∀b,b≠y->b≠bE->upd (upd H1 bE (.own y)) y (.ins C bE []) b=H1 b:=λb ah ar=>by rw[cR ah,cR ar]
 have sJ:Ext a6 H1 a6 (upd H1 bE (.own y)):=Ext.laid aS.cb O9;have _r:upd H1 bE (.own y) y=none:=by rw[cR (Ne.symm dJ)];exact a7
 have qb:Ext a6 H1 a6 (upd (upd H1 bE (.own y)) y (.ins C bE [])):=sJ.trans (Ext.laid sJ.cb _r);have B9:¬a6 y:=λz=>by
  obtain⟨o,e⟩:=aS.cb y z;rw[a7] at e;cases e
 split at e
 next nQ=>
  cases e
  refine⟨by simp[<- q.length,zR bU,aI],a6,.obj .d8 c []::ts.map .aa,y,[y],[],cm,qb.cb,rfl,rfl,.cons ⟨y,[],rfl,nL _ _s,rfl,by simp[dq],λb af=>?_,λ_=>rfl⟩ (Mx (q.ext qb)),λj s bS az=>?_,gw,λv aE ag bN bW rs=>?_⟩
  ·have:b=y:=by simpa [dq] using af
   subst this;exact⟨B9,DZ (by simp)⟩
  ·cases j with
   |zero=>exact absurd rfl bS
   |succ j=>exact Tn (q:=j) (by simpa using az)
  ·rw[nQ] at bW;refine⟨by simpa [Rep] using bW,?_⟩;have J2:∀b,(ih (upd (upd H1 bE (.own y)) y (.ins C bE [])) [y] y).h b=none->H b=none:=λb af=>by
    rcases DC af with z|z
    ·have:b=y:=by simpa using z
     rw[this];exact aS.same.none a7
    ·exact aS.same.none (qb.same.none z)
   have di:Ext F H aE ag:=by
    refine⟨λb o q=>?_,λb z=>bN.sub b (aS.sub b z),λb z=>?_,bN.cb⟩
    ·have step:∀u,H1 b=some u->(ih (upd (upd H1 bE (.own y)) y (.ins C bE [])) [y] y).h b=some u:=λu aw=>by
      have eA:b≠y:=λz=>by rw[z,a7] at aw;cases aw
      have fE:b≠bE:=λz=>by rw[z,O9] at aw;cases aw
      rw[u7 (by simpa using eA),oY b eA fE];exact aw
     rcases aS.same b o q with z|⟨ps,yO,aw,z⟩
     ·exact bN.same b o (step _ z)
     ·rcases bN.same b _ (step _ z) with gD|⟨_,yP,_,gD⟩
      ·exact .inr ⟨ps,yO,aw,gD⟩
      ·exact .inr ⟨ps,yP,aw,gD⟩
    ·rcases bN.new b z with z|z
     ·exact aS.new b z
     ·exact .inr (J2 b z)
   refine b9 y aE ag di (S9 rs (by decide) λb af=>r.fr b (J2 b af)) λb af=>?_
   obtain⟨kF,vs,ea,nK,hf,aV,gB,_⟩:=rs;cases ea;rw[kY nK] at af;exact J2 b (gB b af).2
 next=>cases e
def T7{d:List T->Option aR}(mE:rG X.prog X.w X.K X.mg X.base x k n d)(hd:∀ts s,d ts=some s->∃c os,s=.obj .own c os)(ay:c9 k X.A)(aA:nB X (e::es) aF)(bg:dZ X x:=by rfl)(aI:aF.length=n:=by rfl)(fD:(x==("__debug__":Str))=false:=by decide)
  (he:a9 (e::es) X.env=(false,eval e X.env)::a9 es X.env:=by rfl) (hpl:(unop%Wu 0).any (·.1)=false:=by rfl):xG X (unop%Wz 0) (an' d aF):=by
 obtain⟨ck,fd,ps,F,hm,aG,b⟩:=mE.ex;refine eu (Mz F ay bg hm aG b .nil vp aA fD he hpl) λσ H Q hqq=>?_;obtain⟨aJ,E,O,F,ai,s,r,e,b9⟩:=hqq;simp only[an',cf] at e;obtain⟨ts,bU,gw⟩:=e;obtain⟨c,os,rfl⟩:=hd _ _ gw;refine⟨aJ,E,O,F,ai,ts,r,bU,λws a6 H1 aS q=>⟨?_,a6,ts,_,aS.cb,by simpa using q,gw,λa aE ag bN rs=>?_⟩⟩
 ·rw[lO,<- q.length,zR bU,aI]
 ·refine b9 a aE ag (aS.trans bN) (S9 rs (by decide) λb af=>r.fr b (aS.same.none af)) λb af=>?_
  obtain⟨kF,vs,ea,nK,hf,aV,gB,_⟩:=rs;cases ea;rw[kY nK] at af;exact aS.same.none (gB b af).2
def ajk{b:bK}{n:Nat}{ts:List T}{s:aR}(h:uB b n ts=some s):∃c os,s=.obj .own c os:=by
 simp only[uB,cf] at h;obtain⟨o,eH,e⟩:=h;cases o with
|ma s'=>
  obtain⟨c,os,_,rfl⟩:=RZ e;exact⟨c,os,rfl⟩
|_=>cases e
def ald(j:Nat){y:Str}{pos':Pos}(dw:X.N.Nodup)(h:xG X e vP)(aQ:X.N[j]?=some y:=by rfl)(hx:Loc X.env.scope y:=by first|exact Or.inl rfl|exact Or.inr rfl)
  (az:kr e (some (.Name y pos')) pos.line X.env=pure false:=by rfl) (hf:X.fn y=true\/X.env.scope.names.lookup y=some .local:=by first|exact .inl rfl|exact .inr rfl):
  gF X (.Assign [.Name y pos'] e pos) (AB j vP):=hT (td dw aQ hx h az hf) λD σ H ⟨aJ,E,O,F,ai,o,r,e,k⟩=>by
 simp only[AB,dR] at e;obtain⟨s,es,rfl⟩:=e;exact⟨aJ,E,O,F,ai,s,r,es,λa aE ag x rs bc=>k _ aE ag x.aG (r.Qe j x rs bc)⟩
def ala(bc:b0 X e (gS i)):gF X (.Return (some e) pos) (yW i):=hT (xa bc)<|by
 rintro D σ H ⟨aJ,E,O,F,ai,o,r,e,k⟩
 unfold yW at e;split at e
 next c aF he=>
  cases e
  obtain⟨v,ah,rs⟩:=r.val i _ he;have yU:=rs;obtain⟨a,vs,rfl,_⟩:=rs;exact⟨_,ah,k a F H r.ent yU⟩
 next=>cases e
def Q'{s:aR}{os:List aR}(h:w6 c s=some os):s=.obj .own c os:=by
 unfold w6 at h;split at h
 next bZ aF=>
  split at h
  next ax=>
   cases h
   rw[ax]
  next=>cases h
 next=>cases h
def T8{K:a'}{E:f9}{O F:aj->Prop}{H:aB}{os:List aR}{a:aj}(ho:hi K c C ns)(rs:ec K E O F H (.obj .own c os) (.ref a)):∃bE vs,H a=some (.ins C bE (ns.zip vs))/\iF H a c vs/\gp K F H os vs:=by
 obtain⟨kF,vs,ea,aA,hf,_⟩:=rs;cases ea;obtain⟨aI,hx⟩:=id aA;rw[ho.oF] at hx;obtain⟨bE,hx⟩:=hx;rw[ho.fl] at hx;exact⟨bE,vs,hx,aA,hf⟩
def amu{d:List aR->Option T}(ho:hi X.K c C ns)(mE:j' X.prog X.w X.K X.mg X.base C m k n d)(ay:c9 k X.A)(aK:xG X o vP){pl:Sem Bool}(hm:m∉ns:=by decide +kernel)(aI:1=n:=by rfl)
  (bp:eval (unop%WT 0) X.env=(do
   let e7 <- eval o X.env
   standAt apos.atName
   let (f,first) <- holding [e7] (getMethod e7 m pl)
   callWith pos f first (c3 pos (a9 [] X.env)) (fP pos (fO [] X.env))):=by rfl):cO X (unop%WT 0) (Cc c d vP []):=by
 obtain⟨ck,fd,ps,F,jV,b⟩:=mE.ex;refine eu (SG aK ho.cls jV F ay b .nil vp bp) λσ H Q hqq=>?_;obtain⟨aJ,E,O,F,ai,t,r,e,k⟩:=hqq;simp only[Cc,cf] at e;obtain⟨s,es,os,eH,ts,bU,gw⟩:=e;cases bU;have:=Q' eH;subst this;refine⟨aJ,E,O,F,ai,_,r,es,λa a6 H1 aS rs bc=>?_⟩;obtain⟨bE,vs,hx,aA,hf⟩:=T8 ho rs;refine⟨a,bE,_,rfl,hx,zt hm,⟨by simp[aI],a6,_,t,aS.cb,.cons ⟨rfl,M_ rs _ _ λb af=>?_⟩ .nil,gw,λv aE ag bN bf=>k v aE ag (aS.trans bN) bf⟩⟩;obtain⟨o,e,_⟩:=rs.at af;show H1 b≠none;rw[e];exact λz=>by cases z
def aij(ho:hi X.K c C ns)(aK:xG X o vP)(bS:ns[j]?=some f:=by rfl)(af:j4 o f X.env (eval o X.env)=eval o X.env:=by rfl):cO X (.Attribute o f pos) (D7 c j vP):=
 eu (ry aK af) λσ H Q ⟨aJ,E,O,F,ai,t,r,e,k⟩=>by
 simp only[D7,cf] at e;obtain⟨s,es,os,eH,e⟩:=e;have:=Q' eH;subst this;split at e
 next ts az=>
  cases e
  refine⟨aJ,E,O,F,ai,_,r,es,λa a6 H1 aS rs bc=>?_⟩
  obtain⟨bE,vs,hx,aA,hf⟩:=T8 ho rs;obtain⟨v,bh,b,us,rfl,af,e8⟩:=hf.get az;have Zu:H b=none:=bc b (by rw[kY aA];exact dF _ (qo az bh (by simp[d0,iW])));refine⟨a,C,bE,_,_,rfl,hx,ho.cls,my ho bS,LD ho.aV bS bh,?_⟩;have y:Ext F H (λd=>a6 d\/d=b) H1:=⟨aS.same,λd z=>.inl (aS.sub d z),λd z=>by
   rcases z with z|rfl
   ·exact aS.new d z
   ·exact .inr Zu,⟨λd z=>by
   rcases z with z|rfl
   ·exact aS.cb d z
   ·exact⟨_,af⟩,aS.cb.m4⟩⟩
  refine k _ _ H1 y ?_
  simp only[Rep];exact⟨b,us,rfl,.inr rfl,.inl af,e8.keep (λ_ _ z=>z) λ_ _ z w=>⟨.inl z,w⟩⟩
 next=>cases e
def Uu{cP a b:bt}{fb:f_}{g h:bY}(ax:kB X cP fb)(aA:cO X a g)(af:cO X b h):cO X (.IfExp cP a b pos) (p1 fb g h):=eu (ajt ax aA af)<|by
 rintro σ H Q ⟨aJ,E,O,F,ai,t,r,e,k⟩
 simp only[p1,cf] at e;obtain⟨v,ev,e⟩:=e;refine⟨aJ,E,O,F,ai,v,r,ev,λa6 H1 aS=>?_⟩;cases v with
|true=>exact so ⟨aJ,E,O,a6,ai,t,r.ext aS,by simpa using e,λv aE ag bN q=>k v aE ag (aS.trans bN) q⟩
|false=>exact v7 ⟨aJ,E,O,a6,ai,t,r.ext aS,by simpa using e,λv aE ag bN q=>k v aE ag (aS.trans bN) q⟩
noncomputable def mw(xs:List Str):List T:=xs.map .str
def P6{xs:List Str}{a:aj}(hm:X.mg x=some (.ref a))(aL:∃(o:Obj) (its:Array ao) (n:Nat),X.K.lookup a=some o/\o.cls=.type "tuple"/\o.data=.seq its n/\its.size<=cn/\Vals (xs.map V.str) its.toList)(bg:dZ X x:=by rfl)(hd:(x==("__debug__":Str))=false:=by decide):cO X (.Name x pos) (ae (.tuple (mw xs))):=
 xk (v:=.ref a) (w1 (v:=.ref a) bg hm rfl hd) λF H=>by
  simp only[Rep];refine⟨a,xs.map V.str,rfl,.inr aL,?_⟩;unfold mw;clear hm aL bg hd
  induction xs with
  |nil=>exact bB.nil
  |cons y ys bM=>exact bB.cons (by simp[Rep]) bM
end
end
section
variable [cD]
open AutoSeq1 (wpAny_loadPart')
section
variable {X:aY}{a e o:bt}{f g:bY}{p pos apos:Pos}
def S_(hm:X.mg "list"=none)(aA:ey X a f)(bg:dZ X "list":=by rfl)(he:a9 [a] X.env=(false,eval a X.env)::a9 [] X.env:=by rfl)(hpl:(c3 pos (a9 [] X.env)).any (·.1)=false:=by rfl):
  an0 X (.Call (.Name "list" p) [a] [] pos) (cX xd f):=eu (DO agH bg hm (by decide +kernel) (e3 aA hb he) (he:=he) (hpl:=hpl)) λσ H Q ⟨aJ,E,O,F,ai,ts,r,e,k⟩=>by
 simp only[cX,cf] at e;obtain⟨t,bU,e⟩:=e;refine⟨aJ,E,O,F,ai,t,r,bU,λv a6 H1 aS aP=>?_⟩;have fin:∀(ws:List V),bB X.K a6 H1 ts ws->∀l,H1 l=none->Q (.ref l) (upd H1 l (.lst ws)):=λws ay l aI=>by
  have bN:=Ext.laid (o:=.lst ws) aS.cb aI;refine k l ws a6 _ (aS.trans bN) (aS.same.none aI) (λz=>?_) dU (ay.ext bN);obtain⟨o,e⟩:=aS.cb l z;rw[aI] at e;cases e
 unfold xd at e;split at e
 ·cases e
  obtain⟨su,ws,rfl,aI,ay⟩:=aP.tup;exact⟨su,ws,rfl,.inr aI,fin ws ay⟩
 ·cases e
  obtain⟨su,ws,rfl,aI,ay⟩:=aP.lst;exact⟨su,ws,rfl,.inl (.inl aI),fin ws ay⟩
 ·cases e
def aii(ax:X.calm=true)(hm:X.mg "sorted"=none)(aA:ey X a f)(bg:dZ X "sorted":=by rfl)(he:a9 [a] X.env=(false,eval a X.env)::a9 [] X.env:=by rfl)(hpl:(c3 pos (a9 [] X.env)).any (·.1)=false:=by rfl):
  an0 X (.Call (.Name "sorted" p) [a] [] pos) (cX DW f):=eu (wU (agG ax) bg hm (by decide +kernel) (e3 aA hb he) (he:=he) (hpl:=hpl)) λσ H Q ⟨aJ,E,O,F,ai,ts,r,e,k⟩=>by
 simp only[cX,cf] at e;obtain⟨t,bU,e⟩:=e;refine⟨aJ,E,O,F,ai,t,r,bU,λv a6 H1 aS aP=>?_⟩;unfold DW at e;split at e
 next xs=>
  split at e
  next au=>
   simp only[dR] at e;obtain⟨ss,HL,e⟩:=e;cases e;have _q:=LQ HL;subst _q;obtain⟨su,ws,rfl,aI,ay⟩:=aP.lst;refine⟨su,ss.map .inr,(k7 ss).map V.str,rfl,?_,by simpa using au,.inr ⟨ss,rfl,rfl⟩,λl sg=>?_⟩
   ·have aw:ws=(ss.map (Sum.inr:Str->bu.Key)).map dD:=by rw[LG ay];simp[dD,pa]
    rw[<- aw];exact .inl aI
   ·have bN:=Ext.laid (o:=.lst ((k7 ss).map V.str)) aS.cb sg;refine k l _ a6 _ (aS.trans bN) (aS.same.none sg) (λz=>?_) dU (LR _);obtain⟨o,e⟩:=aS.cb l z;rw[sg] at e;cases e
  next=>cases e
 next=>cases e
end
def R_:entryFor table "list.remove.loop"=some Builtin.«list.remove.loop»:=entryFor_of_tree (by kernel_rfl)
def DM:plainId "list.remove.loop"=true:=by decide +kernel
def ake(l:aj)(its:Array ao)(n:Nat)(x:Str)(t:Tok)(j:Nat)(au:its.size<=cn)(bS:j<its.size)(hit:∃u,its[j]=.str x u)(k:Nat):
  ∀i:Nat,j - i=k->i<=j->(∀(m:Nat) (hm:m<its.size),i<=m->m<j->∃y u,its[m]=.str y u/\y≠x)->Meets (Builtin.«list.remove.loop» ⟨[.ref l,.str x t,gW i],[]⟩)
   (λ_ R s=>s.heap.get? l=some {cls:=.type "list",data:=.seq its n}/\R (.ok (.ret .none)) {s with heap:=s.heap.update l (Obj.mapSeq λa=>a.eraseIdxIfInBounds j)}):=by
 induction k with
|zero=>
  intro i aL kg _ prog w A R s h;obtain⟨aM,g,d,tk,os⟩:=s;obtain⟨aI,h⟩:=h;obtain rfl:i=j:=by omega
  obtain⟨u,b1⟩:=hit
  wp_walk using wpAny_loadPart' aI
  rw[show its[((i:Nat):Int).toNat]?=some (.str x u) by simp[bS,b1]];refine aO (wpAny_eqBool_str ?_);rw[decide_eq_true rfl]
  wp_walk using wpAny_loadPart' aI
  rw[show ((Obj.mapSeq (λz=>z.eraseIdxIfInBounds ((i:Nat):Int).toNat) {cls:=.type "list",data:=.seq its n}:Obj).data.pastItsLine)=none from
   pastItsLine_seq (by
    have:(its.eraseIdxIfInBounds ((i:Nat):Int).toNat).size<=its.size:=by
     unfold Array.eraseIdxIfInBounds;split
     ·rw[Array.size_eraseIdx];omega
     ·omega
    show (its.eraseIdxIfInBounds ((i:Nat):Int).toNat).size<=_
    omega)]
  wp_walk
  exact h
|succ k bM=>
  intro i aL kg vW prog w A R s h;obtain⟨aM,g,d,tk,os⟩:=s;obtain⟨aI,h⟩:=h;have d7:i<its.size:=by omega
  obtain⟨y,u,a7,ne⟩:=vW i d7 (dy _) (by omega)
  wp_walk using wpAny_loadPart' aI
  rw[show its[((i:Nat):Int).toNat]?=some (.str y u) by simp[d7,a7]];refine aO (wpAny_eqBool_str ?_);rw[decide_eq_false ne]
  wp_walk
  rw[show ((i:Int)+1)=((i+1:Nat):Int) by push_cast;rfl];exact⟨nf DM _,ml R_ (by
   rw[anG DM _];exact bM (i+1) (by omega) (by omega) (λm hm ah ar=>vW m hm (by omega) ar) prog w A R _ ⟨aI,h⟩)⟩
def agz(l:aj)(its:Array ao)(n:Nat)(x:Str)(t:Tok)(j:Nat)(au:its.size<=cn)(bS:j<its.size)(hit:∃u,its[j]=.str x u)(vW:∀(m:Nat) (hm:m<its.size),m<j->∃y u,its[m]=.str y u/\y≠x):
  Meets (Builtin.«list.remove» ⟨[.ref l,.str x t],[]⟩) (λ_ R s=>s.heap.get? l=some {cls:=.type "list",data:=.seq its n}/\R (.ok (.ret .none)) {s with heap:=s.heap.update l (Obj.mapSeq λa=>a.eraseIdxIfInBounds j)}):=by
 intro prog w A R s h;obtain⟨aM,g,d,tk,os⟩:=s;obtain⟨aI,h⟩:=h
 wp_walk using wpAny_loadPart' aI
 exact⟨nf DM _,ml R_ (by
  rw[anG DM _];exact ake l its n x t j au bS hit _ 0 rfl (n8 _) (λm hm _ ar=>vW m hm ar) prog w A R _ ⟨aI,h⟩)⟩
noncomputable def akg:V->List V->aB->c0->Prop:=λx vs H Q=>∃(l:aj) (ss:List Str) (y:Str),x=.ref l/\vs=[.str y]/\H l=some (.lst (ss.map V.str))/\y∈ss/\Q .d1 (upd H l (.lst ((ss.erase y).map V.str)))
def Sx{ss:List Str}{its:List ao}(r:Vals (ss.map V.str) its){m:Nat}{y:Str}(h:ss[m]?=some y):∃u,its[m]?=some (.str y u):=by
 obtain⟨v,bh,bW⟩:=r.get (i:=m) (x:=.str y) (by rw[kp,h];rfl);obtain⟨u,rfl⟩:=bW;exact⟨u,bh⟩
theorem SW{α:Type}[BEq α][LawfulBEq α]:∀{ss:List α} {y:α},y∈ss->∃j,ss[j]?=some y/\(∀m z,m<j->ss[m]?=some z->z≠y)/\ss.erase y=ss.eraseIdx j
| [],y,h=>by simp at h
|x::ss,y,h=>by
  by_cases e:x=y
  ·subst e;exact⟨0,rfl,λm z hm=>by omega,by simp⟩
  ·have h':y∈ss:=by
    rcases cN.mp h with z|z
    ·exact absurd z.symm e
    ·exact z
   obtain⟨j,ah,ar,bk⟩:=SW h';refine⟨j+1,by simpa using ah,λm z hm au=>?_,?_⟩
   ·cases m with
    |zero=>
     simp at au;exact au▸e
    |succ m=>exact ar m z (by omega) (by simpa using au)
   ·rw[List.erase_cons_tail (by simpa using e),bk];rfl
theorem Q6{α β:Type}(f:α->β):∀(l:List α) (j:Nat),(l.eraseIdx j).map f=(l.map f).eraseIdx j
| [],_=>rfl
|_::_,0=>rfl
|a::l,j+1=>by simp[Q6 f l j]
def aiw{X:aY}:Aq X "list.remove" akg:=by
 intro ak s σ H x vs v us Q I aU bW h;obtain⟨l,ss,y,rfl,rfl,e1,a7,q⟩:=h;cases aU;obtain⟨u,rfl,cY⟩:=bW.one;obtain⟨t,rfl⟩:=cY;obtain⟨z,its,n,r,aI,e⟩:=I.Jz e1;obtain⟨j,ah,ar,bk⟩:=SW a7;obtain⟨w,hw⟩:=Sx r ah;have bS:j<its.length:=(gU.mp hw).1;refine qg F.slot_list_remove ⟨_,e,rfl⟩ F.entry_list_remove (F.args_list_remove_2 _ _) (agz l its.toArray n y t j (by rw[eW];omega) (by rw[eW];exact bS) ⟨w,?_⟩ λm hm ZZ=>?_) ⟨e,?_⟩
 ·rw[iZ bS] at hw;simpa using hw
 ·rw[eW] at hm;have Ph:m<ss.length:=by rw[f5] at aI;omega
  obtain⟨u,b1⟩:=Sx r (iZ Ph);rw[iZ hm] at b1;exact⟨_,u,by simpa using b1,ar m _ ZZ (iZ Ph)⟩
 ·rw[bk] at q;have aN:(ss.eraseIdx j).map V.str=(ss.map V.str).eraseIdx j:=Q6 _ _ _;rw[aN] at q;refine⟨.d1,_,I.Jy (t':=s.toks) (its':=its.eraseIdx j) e1 e ?_ (r.eraseIdx j) (h9 (R3 _ _) z),rfl,q⟩;unfold Array.eraseIdxIfInBounds;rw[dif_pos (by rw[eW];exact bS)];simp
section
variable {X:aY}{c C i j:Nat}{ns:List Str}{f:Str}{o e:bt}{g:bY}{pos apos:Pos}
def ami(k:hi X.K c C ns)(bc:b0 X o (gS i)){nE d3:Pos}(he:cO X e g)(bS:ns[j]?=some f:=by rfl)(af:j4 o f X.env (eval o X.env)=eval o X.env:=by rfl)
  (oR:a9 [e] X.env=(false,eval e X.env)::a9 [] X.env:=by rfl)
  (mS:j4 (unop%Wm 0) "remove" X.env (eval (unop%Wm 0) X.env)=eval (unop%Wm 0) X.env:=by rfl)
  (qT:((c3 d3 (a9 [e] X.env)).all (λx=>!x.1) && (fP d3 (fO [] X.env)).all (λx=>x.1.isSome)
   && decide (([e]:List bt).length+([]:List Keyword).length+(if ([]:List Keyword).isEmpty then 0 else 1)<30))=true:=by rfl)
  (mT:(nE.endLine==d3.line)=true:=by rfl) (qX:(c3 d3 (a9 [] X.env)).any (·.1)=false:=by rfl)
  (oT:kr (.Call (.Attribute (unop%Wm 0) "remove" nE) [e] [] d3) none pos.line X.env=pure false:=by rfl):
  gF X (.Expr (.Call (.Attribute (unop%Wm 0) "remove" nE) [e] [] d3) pos) (Co c i j g):=
 hT (zW (xm wz PySem.F.slot_list_remove PySem.F.type_list_remove aiw (ry bc af) (e3 he hb oR) mS qT mT oR qX) oT) λD σ H ⟨aJ,aT,O,F,ai,o,r,e,b9⟩=>by
 simp only[Co,cf] at e;obtain⟨t,bU,ts,jt,e⟩:=e;split at e
 next x ss HL=>
  split at e
  next hx=>
   simp only[dR] at e;obtain⟨ε',es,rfl⟩:=e;have p0:=LQ HL;subst p0;obtain⟨m,aF,aK,az⟩:=R9 jt;obtain⟨a,vs,bE,v,ah,yl,aI,aA,bh,⟨b,us,d4,af,e8⟩,_⟩:=anO k r aK az bS;subst d4;refine⟨_,ah,a,C,bE,_,_,rfl,yl,k.cls,my k bS,aI,.inl ⟨rfl,_,fi.of af⟩,aJ,aT,O,F,ai,_,r,bU,λv a6 H1 aS aP=>?_⟩;have a_:=r.ext aS;have Bi:iF H1 a c vs:=aA.keep ((aS.same.get yl).trans yl.symm);have ev:v=.str x:=by simpa [Rep] using aP
   subst ev;have gc:=LG e8;subst gc;obtain⟨aG,b_⟩:=a_.B7 (s':=.own ((ss.erase x).map .str)) (o':=.lst ((ss.erase x).map V.str)) aK ah Bi es az bh (by simp[d0,iW]) rfl λaG=>⟨b,_,rfl,dU,LR _⟩;exact⟨b,ss,x,rfl,rfl,aS.same.get af,hx,b9 σ a6 _ (aS.aG.trans aG) b_⟩
  next=>cases e
 next=>cases e
end
end
section
variable [cD]
open AutoSeq1 (wpAny_loadPart')
section
variable {prog:cu}{w:b8}{A:cp}{E:ao->aH->Prop}{s:aH}{T:String}{r d:aj}{n:Nat}{P:Nat->ao->Prop}{tD:bL->Prop}
def afY(W:PySem.W.KdlSrc prog w T r d n P tD)(bc:n<=cn)(o:Obj)(ax:o.cls=.type T):
  MeetsIn prog w (Builtin.«tuple.__new__» ⟨[.type "tuple",.ref r],[]⟩)
   (λA R s=>A.handled=none/\tD s.heap/\s.heap.get? r=some o/\∀(h':bL) (tk:Nat) (acc:Array ao),(unop%Wh 0)->s.heap.objs.size<=h'.objs.size->ItemsOf P acc n->R (.ok (.ret (.ref h'.objs.size))) {s with heap:=h'.push {cls:=.type "tuple",data:=.seq acc},toks:=tk}):=
 .of_wp λA R s h=>by
  obtain⟨aM,g,hj,tk,os⟩:=s;obtain⟨cM,bF,aK,h⟩:=h;have Bv:=sub_tuple_self;have am6:=init_tuple_lookup;have anb:=madeHere_tuple;have cU:Shared.TypeIs ⟨aM,g,hj,tk,os⟩ (.ref r) T:=W.type _ bF;have eA:=W.notList;have fE:=W.notTuple
  wp_walk using wpAny_loadPart' aK,wpAny_typeOf cU,ahb W (by simpa using cM) bF bc
  intro h' wh acc aL hsz mR;show a0 _ _ (uP acc.toList.toArray >>= λv=>ret v) _ _ _;unfold uP;have au:acc.size<=cn:=by rw[mR.1];exact bc
  refine aO (qe ?_ (by show acc.toList.toArray.size<=cn;simpa using au))
  refine bX ⟨_,rfl,?_⟩
  rw[show acc.toList.toArray=acc by simp];exact h h' wh acc aL hsz mR
def af8{Q:ao->aH->Prop}(W:PySem.W.KdlSrc prog w T r d n P tD)(bc:n<=cn){o:Obj}(ax:o.cls=.type T)(cM:A.handled=none)(bF:tD s.heap)(aK:s.heap.get? r=some o)
  (h:∀(h':bL) (tk:Nat) (acc:Array ao),(unop%Wh 0)->s.heap.objs.size<=h'.objs.size->ItemsOf P acc n->Q (.ref h'.objs.size) {s with heap:=h'.push {cls:=.type "tuple",data:=.seq acc},toks:=tk}):
  a0 (bA prog w) A (call (.type "tuple") [.ref r]) Q E s:=
 callType_newIn F.called_tuple (by decide) (F.typeCall_tuple_1 _) (F.newCall_tuple_1 _) (λobj=>F.args_object_init_2 obj _) F.entry_tuple_new
  (afY W bc o ax) ⟨by simpa using cM,bF,aK,λh' tk acc aL hsz mR=>⟨⟨_,fx _ rfl,rfl⟩,h h' tk acc aL hsz mR⟩⟩
end
noncomputable def Ef(p d:aj):ed:=.ext λh=>h.IsValuesView p d
section
variable {X:aY}
def aiv:Aq X "dict.values" (λx vs H Q=>∃d kvs,x=.ref d/\vs=[]/\H d=some (.fo kvs)/\∀p,H p=none->Q (.ref p) (upd H p (Ef p d))):=by
 intro ak s σ H x vs v us Q I aU bW h;obtain⟨d,kvs,rfl,rfl,e1,q⟩:=h;cases aU;cases bW;obtain⟨au,Pq,ws,ub,hd⟩:=I.bF d _ e1;refine call_meetsIn PySem.F.slot_dict_values hd.typeIs PySem.F.entry_dict_values (PySem.F.args_dict_values_1 _) (meets_dict_values (hQ X.prog X.w) d Pq) ⟨⟨ws,hd⟩,?_⟩;have bh:(s.heap.push {cls:=.type "dict_values",data:=.fields #[.ref d]}).IsValuesView s.heap.objs.size d:=⟨_,fx _ rfl,rfl,rfl⟩;refine⟨.ref s.heap.objs.size,upd H s.heap.objs.size (Ef s.heap.objs.size d),I.laid (t':=s.toks) (λb u e=>cQ _ e) (dy _) ⟨bh,⟨_,fx _ rfl⟩,λah ar p k=>?_⟩,rfl,q _ I.fresh⟩;obtain⟨o,aK,r⟩:=p;exact⟨o,k o aK,r⟩
theorem T9:∀{kvs:List (bu.Key×V)} {vs:List (bu.Key×ao)},hB kvs vs->Vals (kvs.map (·.2)) (vs.map (·.2))
|_,_,.nil=>.nil
|_,_,.cons a b=>.cons a.2 (T9 b)
def af0(ax:X.calm=true):anw X (.type "tuple") (λxs H Q=>∃p d kvs,xs=[.ref p]/\H p=some (Ef p d)/\H d=some (.fo kvs)/\∀t,H t=none->Q (.ref t) (upd H t (.tup (kvs.map (·.2))))):=by
 intro ak s σ H xs us Q I r h;obtain⟨p,d,kvs,rfl,aM,aX,q⟩:=h;obtain⟨u,rfl,aU⟩:=rB r;cases aU;obtain⟨l4,Pq,vs,ub,hd⟩:=I.bF d _ aX;obtain⟨ep,nL⟩:=hd.dictAt;have aI:vs.length=kvs.length:=(Paired.length ub).symm;have bh:s.heap.IsValuesView p d:=(I.bF p _ aM).1;obtain⟨o,aK,pW,am4⟩:=id bh;refine af8 (PySem.W.kdl_values (knd:=hQ X.prog X.w) (kvs:=vs) (ep:=ep)) (by rw[aI];exact l4) pW (I.ok.hd ax) ⟨bh,nL⟩ aK λh' tk acc aL hsz mR=>?_;have an7:(kvs.map (·.2)).length<=cn:=by rw[f5];exact l4
 have ea:acc.toList=vs.map (·.2):=by
  refine List.ext_getElem? λi=>?_
  rw[kp];by_cases aQ:i<acc.size
  ·obtain⟨k,aL⟩:=mR.2 i acc[i] (by simp[aQ]);rw[aL];simp[aQ]
  ·rw[List.getElem?_eq_none (by simpa using aQ),List.getElem?_eq_none (by rw[mR.1] at aQ;omega)];rfl
 have cU:(h'.push {cls:=.type "tuple",data:=.seq acc}).get? h'.objs.size=some {cls:=.type "tuple",data:=.seq acc}:=fx _ rfl;refine⟨.ref h'.objs.size,_,LZ I (o:=.tup (kvs.map (·.2))) (d':=s.drawn) (λb u e=>cQ _ (aL b u e)) hsz ⟨an7,vs.map (·.2),T9 ub,⟨_,cU,rfl,0,by rw[<- ea]⟩⟩,rfl,q _ (I.bF.fresh hsz)⟩
variable {c C i j:Nat}{ns:List Str}{f:Str}{o:bt}{p pos apos nE d3:Pos}
theorem el.snd{K:a'}{F:aj->Prop}{H:aB}:∀{ts:List (D.Key×T)} {vs:List (D.Key×V)},el K F H ts vs->bB K F H (ts.map (·.2)) (vs.map (·.2))
| [],vs,h=>by
  have e:vs=[]:=h;subst e;exact bB.nil
|t::ts,vs,h=>by
  obtain⟨v,r,rfl,q,z⟩:=h;exact bB.cons q (el.snd z)
def S'(k:hi X.K c C ns)(ax:X.calm=true)(bp:X.mg "tuple"=none)(bc:b0 X o (gS i))(bS:ns[j]?=some f:=by rfl)(af:j4 o f X.env (eval o X.env)=eval o X.env:=by rfl)
  (mS:j4 (unop%Wm 0) "values" X.env (eval (unop%Wm 0) X.env)=eval (unop%Wm 0) X.env:=by rfl) (mT:(nE.endLine==d3.line)=true:=by rfl) (bg:dZ X "tuple":=by rfl)
  (he:a9 [.Call (.Attribute (unop%Wm 0) "values" nE) [] [] d3] X.env=(false,eval (.Call (.Attribute (unop%Wm 0) "values" nE) [] [] d3) X.env)::a9 [] X.env:=by rfl)
  (hpl:(c3 pos (a9 [] X.env)).any (·.1)=false:=by rfl):
  cO X (.Call (.Name "tuple" p) [.Call (.Attribute (unop%Wm 0) "values" nE) [] [] d3] [] pos) (Ai c i j):=
 eu (DO (af0 ax) bg bp (by decide +kernel) (e3 (alC PySem.F.plainAttrs_dict PySem.F.slot_dict_values PySem.F.type_dict_values aiv (ry bc af) mS mT) hb he) (he:=he) (hpl:=hpl)) λσ H Q ⟨aJ,E,O,F,ai,t,r,e,b9⟩=>by
 simp only[Ai,dR] at e;obtain⟨kvs,gw,rfl⟩:=e;obtain⟨m,aF,aK,az⟩:=DS gw;obtain⟨a,vs,bE,v,ah,hx,aI,aA,bh,⟨b,us,d4,af,e8⟩,_⟩:=anO k r aK az bS;subst d4;refine⟨_,ah,a,C,bE,_,_,rfl,hx,k.cls,my k bS,aI,.inr (.inr (.inl ⟨rfl,.inl ⟨_,af⟩⟩)),b,us,rfl,rfl,af,λp aM=>?_⟩;have aS:=Ext.laid (o:=Ef p b) r.cb aM;refine⟨p,b,us,rfl,dU,aS.same.get af,λt bp=>?_⟩;have bN:=aS.trans (Ext.laid (o:=.tup (us.map (·.2))) aS.cb bp);refine b9 _ F _ bN ?_;simp only[Rep];exact⟨t,_,rfl,c'.of dU,(e8.snd).ext bN⟩
end
end
section
variable [cD]
open AutoSeq1 (wpAny_loadPart')
noncomputable def fW(h:bL)(z TI cL:aj)(f0 f1:ao):Prop:=h.get? z=some {cls:=.type "zip",dict:=none,data:=.fields #[f0,f1,.bool false,.ref TI,.ref cL],slots:=#[]}
section
variable {prog:cu}{w:b8}{A:cp}{E:ao->aH->Prop}{s:aH}{z TI cL cC cI cw cE:aj}{k eA fE:Nat}{vB vC:Nat->ao->Prop}{i_ js:Nat->bL->Prop}{a b f1:ao}
def ai9{Q:ao->aH->Prop}(D:ZipApart z TI cL cC cI cw cE)(j9:Draws prog w A cC [cC,cw] eA vB i_)(lW:Draws prog w A cI [cI,cE] fE vC js)(au:fW s.heap z TI cL .none f1)(iQ:IsPair s.heap TI (.ref cC) (.ref cI))(lx:IsPair s.heap cL a b)
  (s1:i_ k s.heap) (s2:js k s.heap) (ah:k<eA) (ar:k<fE)
  (hn:∀h' x y tk,vB k x->vC k y->fW h' z TI cL (gW s.heap.objs.size) (.bool false)->IsPair h' cL x y->i_ (k+1) h'->js (k+1) h'->IsPair h' s.heap.objs.size x y->h'.objs.size=s.heap.objs.size+1 ->
   (∀c o,c≠z->c≠cL->c≠cC->c≠cI->s.heap.get? c=some o->h'.get? c=some o)->Q (unop%WB 0) {s with heap:=h',toks:=tk}):
  a0 (bA prog w) A (Builtin.«zip.__next__» ⟨[.ref z],[]⟩) (λfin s'=>∃v,fin=.done (.ret v)/\Q v s') E s:=by
 unfold fW at au;refine aO (m:=field (.ref z) 2) (ib au rfl (x:=.bool false) rfl (aO (m:=field (.ref z) 3) (ib au rfl (x:=.ref TI) rfl (aO (kV iQ rfl ?_)))));refine aO (m:=sL (.ref z)) ?_;unfold sL;refine aO (ib au rfl (x:=.none) rfl (bX ?_));simp only[if_true];refine aO (wpAny_rule (aO (ib au rfl (x:=.ref cL) rfl (aO (uS au (by simp) λe2 mV fJ=>?_)))));replace mV:fW e2 z TI cL .ellipsis f1:=mV;refine aO ?_;simp only[List.zipIdx_cons,List.zipIdx_nil,List.forIn_cons,List.forIn_nil];have q7:i_ k e2:=j9.frame k _ _ s1 λc ax o e=>by
  rcases cN.mp ax with rfl|ax
  ·exact fJ.extBut _ _ D.i1z e
  ·rw[kT.mp ax] at e ⊢;exact fJ.extBut _ _ D.l1z e
 refine aO (aO (wpAny_onRaise (aO (m:=mh (.ref cC)) (j9.item k _ _ _ ah q7 λx ki tk f3 t1 gM=>bX ?_))))
 have x7:IsPair ki cL a b:=gM.extBut _ _ D.TOi1 (fJ.extBut _ _ D.TOz lx);refine aO (kV x7 rfl (aO (wpAny_updateSeq_pair x7 λiS Bf h3=>?_)));replace Bf:IsPair iS cL x b:=Bf;refine aO (anN (bX ?_));have kn:js k iS:=lW.frame k _ _ s2 λc ax o e=>by
  rcases cN.mp ax with rfl|ax
  ·exact h3.extBut _ _ D.TOi2.symm (gM.extBut _ _ D.i12.symm (fJ.extBut _ _ D.i2z e))
  ·rw[kT.mp ax] at e ⊢;exact h3.extBut _ _ D.l2TO (gM.extBut _ _ D.l2i1 (fJ.extBut _ _ D.l2z e))
 refine aO (aO (wpAny_onRaise (aO (m:=mh (.ref cI)) (lW.item k _ _ _ ar kn λy v5 KN py q8 qO=>bX ?_))))
 have O2:IsPair v5 cL x b:=qO.extBut _ _ D.TOi2 Bf;refine aO (kV O2 rfl (aO (wpAny_updateSeq_pair O2 λh4 Bg pT=>?_)));replace Bg:IsPair h4 cL x y:=Bg;refine aO (anN (bX (bX (aO (kV Bg rfl (aO (wpAny_newTuple ?_)))))));have CB:h4.objs.size=s.heap.objs.size:=by rw[pT.1,qO.1,h3.1,gM.1,fJ.1]
 have PD:fW h4 z TI cL .ellipsis f1:=pT.extBut _ _ D.TOz.symm (qO.extBut _ _ D.i2z.symm (h3.extBut _ _ D.TOz.symm (gM.extBut _ _ D.i1z.symm mV)));have aaL:∀c o,c≠z->c≠cL->c≠cC->c≠cI->s.heap.get? c=some o->h4.get? c=some o:=λc o cT dp fX c4 e=>pT.extBut _ _ dp (qO.extBut _ _ c4 (h3.extBut _ _ dp (gM.extBut _ _ fX (fJ.extBut _ _ cT e))));have Qx:i_ (k+1) h4:=j9.frame _ _ _ t1 λc ax o e=>by
  rcases cN.mp ax with rfl|ax
  ·exact pT.extBut _ _ D.TOi1.symm (qO.extBut _ _ D.i12 (h3.extBut _ _ D.TOi1.symm e))
  ·rw[kT.mp ax] at e ⊢;exact pT.extBut _ _ D.l1TO (qO.extBut _ _ D.l1i2 (h3.extBut _ _ D.l1TO e))
 have CK:js (k+1) h4:=lW.frame _ _ _ q8 λc ax o e=>by
  rcases cN.mp ax with rfl|ax
  ·exact pT.extBut _ _ D.TOi2.symm e
  ·rw[kT.mp ax] at e ⊢;exact pT.extBut _ _ D.l2TO e
 have xo:z<h4.objs.size:=c2 PD;refine aO (m:=Builtin.SmallTypes.ownedTupleHandOut (.ref z) (.ref h4.objs.size)) ?_;unfold Builtin.SmallTypes.ownedTupleHandOut;have _w:fW (h4.push {cls:=.type "tuple",data:=.seq #[x,y]}) z TI cL .ellipsis f1:=cQ _ PD;refine aO (uS _w (by simp) λ_y HU GC=>?_);replace HU:fW _y z TI cL (gW h4.objs.size) f1:=HU;refine uS HU (by simp) λyp BA GD=>?_;replace BA:fW yp z TI cL (gW h4.objs.size) (.bool false):=BA;have up:∀c o,c≠z->h4.get? c=some o->yp.get? c=some o:=λc o cT e=>GD.extBut _ _ cT (GC.extBut _ _ cT (cQ _ e));have cU:IsPair yp h4.objs.size x y:=GD.extBut _ _ (hO xo) (GC.extBut _ _ (hO xo) (fx _ rfl));have Qm:yp.objs.size=h4.objs.size+1:=by rw[GD.1,GC.1,j2]
 rw[CB] at BA cU Qm;refine bX ⟨_,rfl,?_⟩;show Q (.ref h4.objs.size) _;rw[CB];refine hn yp x y _ f3 py BA (up _ _ D.TOz Bg) (j9.frame _ _ _ Qx λc ax o e=>?_) (lW.frame _ _ _ CK λc ax o e=>?_) cU Qm λc o cT dp fX c4 e=>up c o cT (aaL c o cT dp fX c4 e)
 ·refine up c o ?_ e
  rcases cN.mp ax with rfl|ax
  ·exact D.i1z
  ·rw[kT.mp ax];exact D.l1z
 ·refine up c o ?_ e
  rcases cN.mp ax with rfl|ax
  ·exact D.i2z
  ·rw[kT.mp ax];exact D.l2z
def ai7{Q:Fin->aH->Prop}(D:ZipApart z TI cL cC cI cw cE)(j9:Draws prog w A cC [cC,cw] eA vB i_)(lW:Draws prog w A cI [cI,cE] fE vC js)(au:fW s.heap z TI cL .none f1)(iQ:IsPair s.heap TI (.ref cC) (.ref cI))(lx:IsPair s.heap cL a b)
  (s1:i_ k s.heap) (s2:js k s.heap) (aL:k=eA\/(k<eA/\k=fE))
  (hG:∀h' e tk,(∀c o,c≠z->c≠cL->c≠cC->c≠cI->s.heap.get? c=some o->h'.get? c=some o)->(∃o,h'.get? e=some o/\o.cls=.type "StopIteration")->E (.ref e) {s with heap:=h',toks:=tk}):
  a0 (bA prog w) A (Builtin.«zip.__next__» ⟨[.ref z],[]⟩) Q E s:=by
 unfold fW at au;refine aO (m:=field (.ref z) 2) (ib au rfl (x:=.bool false) rfl (aO (m:=field (.ref z) 3) (ib au rfl (x:=.ref TI) rfl (aO (kV iQ rfl ?_)))));refine aO (m:=sL (.ref z)) ?_;unfold sL;refine aO (ib au rfl (x:=.none) rfl (bX ?_));simp only[if_true];refine aO (wpAny_rule (aO (ib au rfl (x:=.ref cL) rfl (aO (uS au (by simp) λe2 mV fJ=>?_)))));replace mV:fW e2 z TI cL .ellipsis f1:=mV;refine aO ?_;simp only[List.zipIdx_cons,List.zipIdx_nil,List.forIn_cons,List.forIn_nil];have q7:i_ k e2:=j9.frame k _ _ s1 λc ax o e=>by
  rcases cN.mp ax with rfl|ax
  ·exact fJ.extBut _ _ D.i1z e
  ·rw[kT.mp ax] at e ⊢;exact fJ.extBut _ _ D.l1z e
 rcases aL with rfl|⟨ah,rfl⟩
 ·refine aO (aO (wpAny_onRaise (aO (m:=mh (.ref cC)) (j9.done _ _ _ q7 λki e gM he=>?_))))
  obtain⟨o1,ue,aoa⟩:=he;have HS:fW ki z TI cL .ellipsis f1:=gM _ _ D.i1z.symm mV;have ne:e≠z:=λq=>by
   subst q;unfold fW at HS;rw[HS] at ue;cases ue;simp at aoa
  exact uS HS (by simp) λiS _ h3=>hG iS e _ (λc o cT _ fX _ q=>h3.extBut _ _ cT (gM _ _ fX (fJ.extBut _ _ cT q))) ⟨o1,h3.extBut _ _ ne ue,aoa⟩
 ·refine aO (aO (wpAny_onRaise (aO (m:=mh (.ref cC)) (j9.item k _ _ _ ah q7 λx ki tk f3 t1 gM=>bX ?_))))
  have x7:IsPair ki cL a b:=gM.extBut _ _ D.TOi1 (fJ.extBut _ _ D.TOz lx);refine aO (kV x7 rfl (aO (wpAny_updateSeq_pair x7 λiS Bf h3=>?_)));refine aO (anN (bX ?_));have kn:js k iS:=lW.frame k _ _ s2 λc ax o e=>by
   rcases cN.mp ax with rfl|ax
   ·exact h3.extBut _ _ D.TOi2.symm (gM.extBut _ _ D.i12.symm (fJ.extBut _ _ D.i2z e))
   ·rw[kT.mp ax] at e ⊢;exact h3.extBut _ _ D.l2TO (gM.extBut _ _ D.l2i1 (fJ.extBut _ _ D.l2z e))
  refine aO (aO (wpAny_onRaise (aO (m:=mh (.ref cI)) (lW.done _ _ _ kn λv5 e qO he=>?_))))
  obtain⟨o1,ue,aoa⟩:=he;have HT:fW v5 z TI cL .ellipsis f1:=qO _ _ D.i2z.symm (h3.extBut _ _ D.TOz.symm (gM.extBut _ _ D.i1z.symm mV));have ne:e≠z:=λq=>by
   subst q;unfold fW at HT;rw[HT] at ue;cases ue;simp at aoa
  exact uS HT (by simp) λh4 _ pT=>hG h4 e _ (λc o cT dp fX c4 q=>pT.extBut _ _ cT (qO _ _ c4 (h3.extBut _ _ dp (gM.extBut _ _ fX (fJ.extBut _ _ cT q))))) ⟨o1,pT.extBut _ _ ne ue,aoa⟩
def aj3{c:aj}{Q:Option Obj->aH->Prop}(h:Q (s.heap.get? c) s):a0 (bA prog w) A (loadIfAlive c) Q E s:=λΓ p _=>by
 unfold loadIfAlive;rw[Sem.wp_loadIfAlive];simpa using h
def RB{T:aj}{fu:Obj}{f:Bool}(au:fW s.heap z TI cL (gW T) (.bool f))(cU:s.heap.get? T=some fu):
  a0 (bA prog w) A (sL (.ref z)) (λc s'=>c=false/\∃e2,s'={s with heap:=e2}/\fW e2 z TI cL (gW T) (.bool true)/\Heap.SameBut z s.heap e2) E s:=by
 unfold fW at au;unfold sL;refine aO (ib au rfl (x:=gW T) rfl ?_);refine aO (m:=loadIfAlive ((T:Nat):Int).toNat) (aj3 ?_);rw[Int.toNat_natCast,cU];simp only[Option.isNone_some,lN,if_false];refine aO (ib au rfl (x:=.bool f) rfl ?_);cases f with
|true=>
  simp only[bne_self_eq_false,lN,if_false];exact bX ⟨rfl,s.heap,rfl,au,Heap.SameBut.refl ..⟩
|false=>
  rw[if_pos (by decide)];exact aO (uS au (by simp) λe2 mV fJ=>bX ⟨rfl,e2,rfl,mV,fJ⟩)
def ai8{Q:ao->aH->Prop}{T:aj}{fu:Obj}{f:Bool}(D:ZipApart z TI cL cC cI cw cE)(j9:Draws prog w A cC [cC,cw] eA vB i_)(lW:Draws prog w A cI [cI,cE] fE vC js)(au:fW s.heap z TI cL (gW T) (.bool f))(cU:s.heap.get? T=some fu)(iQ:IsPair s.heap TI (.ref cC) (.ref cI))
  (s1:i_ k s.heap) (s2:js k s.heap) (ah:k<eA) (ar:k<fE)
  (hn:∀h' x y tk,vB k x->vC k y->fW h' z TI cL (gW T) (.bool true)->i_ (k+1) h'->js (k+1) h'->IsPair h' s.heap.objs.size x y->h'.objs.size=s.heap.objs.size+1 ->
   (∀c o,c≠z->c≠cC->c≠cI->s.heap.get? c=some o->h'.get? c=some o)->Q (unop%WB 0) {s with heap:=h',toks:=tk}):
  a0 (bA prog w) A (Builtin.«zip.__next__» ⟨[.ref z],[]⟩) (λfin s'=>∃v,fin=.done (.ret v)/\Q v s') E s:=by
 have ym:=au;unfold fW at au;refine aO (m:=field (.ref z) 2) (ib au rfl (x:=.bool false) rfl (aO (m:=field (.ref z) 3) (ib au rfl (x:=.ref TI) rfl (aO (kV iQ rfl ?_)))));refine aO (m:=sL (.ref z)) (et (RB ym cU) (λc s' hqq=>?_) λ_ _ q=>q);obtain⟨fa,e2,es,mV,fJ⟩:=hqq;subst fa es;simp only[lN,if_false];refine aO ?_;rw[<- Array.forIn_toList];simp only[List.forIn_cons,List.forIn_nil];have q7:i_ k e2:=j9.frame k _ _ s1 λc ax o e=>by
  rcases cN.mp ax with rfl|ax
  ·exact fJ.extBut _ _ D.i1z e
  ·rw[kT.mp ax] at e ⊢;exact fJ.extBut _ _ D.l1z e
 refine aO (aO (ia (aO (m:=mh (.ref cC)) (j9.item k _ _ _ ah q7 λx ki tk f3 t1 gM=>bX (bX ?_)))))
 have kn:js k ki:=lW.frame k _ _ s2 λc ax o e=>by
  rcases cN.mp ax with rfl|ax
  ·exact gM.extBut _ _ D.i12.symm (fJ.extBut _ _ D.i2z e)
  ·rw[kT.mp ax] at e ⊢;exact gM.extBut _ _ D.l2i1 (fJ.extBut _ _ D.l2z e)
 refine aO (aO (ia (aO (m:=mh (.ref cI)) (lW.item k _ _ _ ar kn λy iS KN py q8 h3=>bX (bX (bX ?_))))))
 refine aO (wpAny_newTuple (bX ⟨_,rfl,?_⟩) (by show 2<=cn;decide))
 have Ql:iS.objs.size=s.heap.objs.size:=by rw[h3.1,gM.1,fJ.1]
 have aeV:i_ (k+1) iS:=j9.frame _ _ _ t1 λc ax o e=>by
  rcases cN.mp ax with rfl|ax
  ·exact h3.extBut _ _ D.i12 e
  ·rw[kT.mp ax] at e ⊢;exact h3.extBut _ _ D.l1i2 e
 have _v:fW iS z TI cL (gW T) (.bool true):=h3.extBut _ _ D.i2z.symm (gM.extBut _ _ D.i1z.symm mV);have aM:(iS.push {cls:=.type "tuple",data:=.seq #[x,y]}).get? iS.objs.size=some _:=fx _ rfl;show Q (.ref iS.objs.size) _;rw[Ql] at aM ⊢;refine hn (iS.push {cls:=.type "tuple",data:=.seq #[x,y]}) x y _ f3 py (cQ _ _v) (j9.frame _ _ _ aeV λc _ o e=>cQ _ e) (lW.frame _ _ _ q8 λc _ o e=>cQ _ e) aM (by rw[j2,Ql])
  λc o cT fX c4 e=>cQ _ (h3.extBut _ _ c4 (gM.extBut _ _ fX (fJ.extBut _ _ cT e)))
def af9{Q:Fin->aH->Prop}{T:aj}{fu:Obj}{f:Bool}(D:ZipApart z TI cL cC cI cw cE)(j9:Draws prog w A cC [cC,cw] eA vB i_)(lW:Draws prog w A cI [cI,cE] fE vC js)(au:fW s.heap z TI cL (gW T) (.bool f))(cU:s.heap.get? T=some fu)(iQ:IsPair s.heap TI (.ref cC) (.ref cI))
  (s1:i_ k s.heap) (s2:js k s.heap) (aL:k=eA\/(k<eA/\k=fE))
  (hG:∀h' e tk,(∀c o,c≠z->c≠cC->c≠cI->s.heap.get? c=some o->h'.get? c=some o)->(∃o,h'.get? e=some o/\o.cls=.type "StopIteration")->E (.ref e) {s with heap:=h',toks:=tk}):
  a0 (bA prog w) A (Builtin.«zip.__next__» ⟨[.ref z],[]⟩) Q E s:=by
 have ym:=au;unfold fW at au;refine aO (m:=field (.ref z) 2) (ib au rfl (x:=.bool false) rfl (aO (m:=field (.ref z) 3) (ib au rfl (x:=.ref TI) rfl (aO (kV iQ rfl ?_)))));refine aO (m:=sL (.ref z)) (et (RB ym cU) (λc s' hqq=>?_) λ_ _ q=>q);obtain⟨fa,e2,es,mV,fJ⟩:=hqq;subst fa es;simp only[lN,if_false];refine aO ?_;rw[<- Array.forIn_toList];simp only[List.forIn_cons,List.forIn_nil];have q7:i_ k e2:=j9.frame k _ _ s1 λc ax o e=>by
  rcases cN.mp ax with rfl|ax
  ·exact fJ.extBut _ _ D.i1z e
  ·rw[kT.mp ax] at e ⊢;exact fJ.extBut _ _ D.l1z e
 rcases aL with rfl|⟨ah,rfl⟩
 ·refine aO (aO (ia (aO (m:=mh (.ref cC)) (j9.done _ _ _ q7 λki e gM he=>?_))))
  exact hG ki e _ (λc o cT fX _ q=>gM _ _ fX (fJ.extBut _ _ cT q)) he
 ·refine aO (aO (ia (aO (m:=mh (.ref cC)) (j9.item k _ _ _ ah q7 λx ki tk f3 t1 gM=>bX (bX ?_)))))
  have kn:js k ki:=lW.frame k _ _ s2 λc ax o e=>by
   rcases cN.mp ax with rfl|ax
   ·exact gM.extBut _ _ D.i12.symm (fJ.extBut _ _ D.i2z e)
   ·rw[kT.mp ax] at e ⊢;exact gM.extBut _ _ D.l2i1 (fJ.extBut _ _ D.l2z e)
  refine aO (aO (ia (aO (m:=mh (.ref cI)) (lW.done _ _ _ kn λiS e h3 he=>?_))))
  exact hG iS e _ (λc o cT fX c4 q=>h3 _ _ c4 (gM.extBut _ _ fX (fJ.extBut _ _ cT q))) he
end
end
section
variable [cD]
open AutoSeq1 (wpAny_loadPart')
noncomputable def _I(b:Bool):String:=if b then "list_iterator" else "tuple_iterator"
noncomputable def jw(b:Bool)(h:bL)(it l:aj)(i:Nat):Prop:=match b with
|true=>h.IsListIter it l i
|false=>h.IsTupleIter it l i
noncomputable def ht(b:Bool)(h:bL)(l:aj)(xs:Array ao):Prop:=match b with
|true=>h.IsList l xs
|false=>h.IsTuple l xs
theorem jw.at{b:Bool}{h h':bL}{it l:aj}{i:Nat}(x:jw b h it l i)(k:∀o,h.get? it=some o->h'.get? it=some o):jw b h' it l i:=by
 cases b with
|true=>exact Heap.IsListIter.at x k
|false=>
  obtain⟨o,aK,r⟩:=x;exact⟨o,k o aK,r⟩
def jw.obj{b:Bool}{h:bL}{it l:aj}{i:Nat}(x:jw b h it l i):∃o,h.get? it=some o/\∀v,o.data≠.cell v:=by
 cases b with
|true=>
  obtain⟨o,aK,ax,hd⟩:=x;exact⟨o,aK,λv z=>by rw[hd] at z;cases z⟩
|false=>
  obtain⟨o,aK,ax,hd⟩:=x;exact⟨o,aK,λv z=>by rw[hd] at z;cases z⟩
def ht.at{b:Bool}{h h':bL}{l:aj}{xs:Array ao}(x:ht b h l xs)(k:∀o,h.get? l=some o->h'.get? l=some o):ht b h' l xs:=by
 cases b with
|true=>
  obtain⟨o,aK,r⟩:=x;exact⟨o,k o aK,r⟩
|false=>
  obtain⟨o,aK,r⟩:=x;exact⟨o,k o aK,r⟩
def ht.lt{b:Bool}{h:bL}{l:aj}{xs:Array ao}(x:ht b h l xs):l<h.objs.size:=by
 cases b with
|true=>
  obtain⟨o,aK,r⟩:=x;exact c2 aK
|false=>
  obtain⟨o,aK,r⟩:=x;exact c2 aK
def s7{prog:cu}{w:b8}{A:cp}(b:Bool)(cM:A.handled=none)(it l:aj)(dJ:l≠it)(xs:Array ao):
  Draws prog w A it [it,l] xs.size (λi v=>xs[i]?=some v) (λi h=>jw b h it l i/\ht b h l xs):=by
 cases b with
|true=>exact Draws.list cM it l dJ xs
|false=>exact Lx cM it l dJ xs
abbrev Ag(b:Bool)(l:aj):Obj:={cls:=.type (_I b),data:=.fields #[.ref l,.int 0 0]}
abbrev ag6(b6 b7:Bool)(h:bL)(cw cE:aj):bL:=((h.push (Ag b6 cw)).push (Ag b7 cE)).push {cls:=.type "tuple",data:=.seq #[.ref h.objs.size,.ref (h.objs.size+1)]}
abbrev So(b6 b7:Bool)(h:bL)(cw cE:aj):bL:=(ag6 b6 b7 h cw cE).push {cls:=.type "tuple",data:=.seq #[.none,.none]}
abbrev Sp(b6 b7:Bool)(h:bL)(cw cE:aj):bL:=(So b6 b7 h cw cE).push {cls:=.type "zip",data:=.fields #[.none,.bool false,.bool false,.ref (h.objs.size+2),.ref (h.objs.size+3)]}
section
variable {prog:cu}{w:b8}{A:cp}{E:ao->aH->Prop}{s:aH}
def T_{b:Bool}{l:aj}{xs:Array ao}{Q:ao->aH->Prop}(aI:ht b s.heap l xs)(h:Q (unop%WB 0) {s with heap:=s.heap.push (Ag b l)}):a0 (bA prog w) A (pyIter (.ref l)) Q E s:=by
 cases b with
|true=>exact wpAny_pyIter_list aI h
|false=>exact rg aI h
def ahE(b6 b7:Bool)(cw cE:aj)(xs ys:Array ao):
  Meets (Builtin.«zip.__new__» ⟨[.type "zip",.ref cw,.ref cE],[]⟩) (λ_ R s=>ht b6 s.heap cw xs/\ht b7 s.heap cE ys /\
   R (.ok (.ret (.ref (s.heap.objs.size+4)))) {s with heap:=Sp b6 b7 s.heap cw cE}):=
 .of_wp λprog w A R s h=>by
  obtain⟨aM,g,d,tk,os⟩:=s;obtain⟨ah,ar,h⟩:=h;have Bv:=sub_zip;have dI:ht b6 (Shared.heap ⟨aM,g,d,tk,os⟩) cw xs:=ah;have jQ:ht b7 (Shared.heap ⟨aM.push (Ag b6 cw),g,d,tk,os⟩) cE ys:=ar.at λo e=>cQ _ e
  wp_walk using T_ dI,T_ jQ
  refine⟨_,rfl,?_⟩
  simp only[j2] at h ⊢;exact h
def aiY{b6 b7:Bool}{cw cE:aj}{xs ys:Array ao}{Q:ao->aH->Prop}(ah:ht b6 s.heap cw xs)(ar:ht b7 s.heap cE ys)
  (h:∀h',fW h' (s.heap.objs.size+4) (s.heap.objs.size+2) (s.heap.objs.size+3) .none (.bool false)->IsPair h' (s.heap.objs.size+2) (unop%WB 0) (.ref (unop%Wq 0))->IsPair h' (s.heap.objs.size+3) .none .none ->
   jw b6 h' s.heap.objs.size cw 0->jw b7 h' (unop%Wq 0) cE 0->h'.objs.size=s.heap.objs.size+5->(∀c o,s.heap.get? c=some o->h'.get? c=some o)->Q (.ref (s.heap.objs.size+4)) {s with heap:=h'}):
  a0 (bA prog w) A (call (.type "zip") [.ref cw,.ref cE]) Q E s:=by
 have aQ:∀(b:Bool) (h':bL) (it l:aj),h'.get? it=some (Ag b l)->jw b h' it l 0:=λb h' it l e=>by
  cases b with
  |true=>exact⟨_,e,rfl,rfl⟩
  |false=>exact⟨_,e,rfl,rfl⟩
 refine callType_new F.called_zip (by decide) (F.typeCall_zip_2 _ _) (F.newCall_zip_2 _ _) (λobj=>F.args_object_init_3 obj _ _) F.entry_zip_new (ahE b6 b7 cw cE xs ys) ⟨ah,ar,?_⟩
 have at_:∀(cM:bL) (n:Nat) (o o':Obj),cM.objs.size=n->o.isFreed=false->(cM.push o).get? n=some o:=λcM n o o' e f=>by
  rw[<- e];exact fx _ f
 have nJ:(Sp b6 b7 s.heap cw cE).get? (s.heap.objs.size+4)=some _:=at_ (So b6 b7 s.heap cw cE) (s.heap.objs.size+4) _ default (by simp only[j2]) rfl;refine⟨⟨_,nJ,rfl⟩,h _ nJ ?_ ?_ ?_ ?_ (by simp only[j2]) λc o e=>cQ _ (cQ _ (cQ _ (cQ _ (cQ _ e))))⟩
 ·exact cQ _ (cQ _ (at_ _ _ _ default (by simp only[j2]) rfl))
 ·exact cQ _ (at_ _ _ _ default (by simp only[j2]) rfl)
 ·exact aQ b6 _ _ _ (cQ _ (cQ _ (cQ _ (cQ _ (fx _ rfl)))))
 ·exact aQ b7 _ _ _ (cQ _ (cQ _ (cQ _ (at_ _ _ _ default (by simp only[j2]) rfl))))
end
end
section
variable [cD]
def ag2:typeLookup (.type "zip") "keys"=pure none:=by rw[typeLookup_type,builtinLookup_eq_fast];kernel_rfl
def af5:typeLookup (.type "zip") "__getattr__"=pure none:=by rw[typeLookup_type,builtinLookup_eq_fast];kernel_rfl
def agB:entryFor table "zip.__getattribute__"=some Builtin.«object.__getattribute__»:=entryFor_alias (id':="object.__getattribute__") (by kernel_rfl) (by decide +kernel) (by decide +kernel) (by kernel_rfl)
def af4(a:aj)(vs:Array ao)(name:Str)(u:Tok)(anc:typeLookup (.type "zip") name=pure none)(Bq:(["__module__","__name__","__qualname__","__doc__","__annotations__"]:List Str).contains name=false)(hsz:name.length+100<=cn):
  Meets (Builtin.«object.__getattribute__» ⟨[.ref a,.str name u],[]⟩) (λA R s=>s.heap.get? a=some {cls:=.type "zip",dict:=none,data:=.fields vs,slots:=#[]}/\raisesAttr (.ref a) name A R s):=
 Meets.of_wp λprog w A R s az=>by
  obtain⟨aM,g,d,tk,os⟩:=s;obtain⟨hx,az⟩:=az;have ty:(⟨aM,g,d,tk,os⟩:aH).TypeIs (.ref a) "zip":=⟨_,hx,rfl⟩;unfold Builtin.«object.__getattribute__»
  repeat (any_goals (first|assumption|wp_step))
  simp only[Bq,lN,if_false]
  repeat (any_goals (first|assumption|wp_step))
  exact wpAny_raiseAttrError az.1 az.2 (attrMsg_fits (by decide +kernel) hsz)
def ajB{prog:cu}{w:b8}{A:cp}{E:ao->aH->Prop}{s:aH}{a:aj}{vs:Array ao}{Q:Option ao->aH->Prop}
  (hx:s.heap.get? a=some {cls:=.type "zip",dict:=none,data:=.fields vs,slots:=#[]}) (anV:A.handled=none)
  (h:∀h' tk,(unop%Wh 0)->Q none {s with heap:=h',toks:=tk}):
  a0 (bA prog w) A (getAttr? (.ref a) "keys") Q E s:=by
 obtain⟨aM,g,d,tk,os⟩:=s;have ty:∀wh,(⟨aM,g,d,wh,os⟩:aH).TypeIs (.ref a) "zip":=λ_=>⟨_,hx,rfl⟩;have f1:=sub_AttributeError;have i':=F.slot_zip_getattribute.lookup;have f4:=F.slot_zip_getattribute.bind (.ref a);have ja:=af5;have nm:(["__module__","__name__","__qualname__","__doc__","__annotations__"]:List Str).contains ("keys":Str)=false:=by decide +kernel
 have anA:("keys":Str).length+100<=cn:=by rw[jJ];decide
 unfold getAttr? getAttrBy? getAttrBy
 repeat (any_goals (first|assumption|exact ty _|((with_reducible show a0 _ _ (call (Value.builtin "zip.__getattribute__") _ _) _ _ _);refine qg F.slot_zip_getattribute (ty _) agB (F.args_zip_getattribute_2 _ _) (af4 a vs "keys" _ ag2 nm anA) ⟨hx,anV,λh' wh e kh=>?_⟩)|wp_step))
 obtain⟨t',uK,he⟩:=kh.there;show a0 _ _ (getattributeRaised _ _ _ _ _ _ _) _ _ _;unfold getattributeRaised
 repeat (any_goals (first|assumption|wp_step))
 exact h _ _ kh.keeps
section
variable {prog:cu}{w:b8}{K:Type}[DecidableEq K]{knd:PySem.KeyKind prog w K}{A:cp}{E:ao->aH->Prop}{s:aH}{R:Result->aH->Prop}{z TI cL cC cI cw cE:aj}{b6 b7:Bool}{xs ys:Array ao}
noncomputable def tq(S z TI cL cC cI cw cE:aj)(b6 b7:Bool)(xs ys:Array ao)(i:Nat)(h:bL):Prop:=IsPair h TI (.ref cC) (.ref cI)/\(∃a b,IsPair h cL a b)/\(jw b6 h cC cw i/\ht b6 h cw xs)/\(jw b7 h cI cE i/\ht b7 h cE ys) /\
 (fW h z TI cL .none (.bool false)\/∃(T:Nat) (fu:Obj) (f:Bool),fW h z TI cL (gW T) (.bool f)/\h.get? T=some fu/\T≠S/\T≠z/\T≠cL/\T≠cC/\T≠cI)
noncomputable def Kept(S z cL cC cI:aj)(h h':bL):Prop:=∀c o,c≠S->c≠z->c≠cL->c≠cC->c≠cI->h.get? c=some o->h'.get? c=some o
def ahd{S:aj}{i:Nat}{Q:Option ao->aH->Prop}(cM:A.handled=none)(D:ZipApart z TI cL cC cI cw cE)(st:tq S z TI cL cC cI cw cE b6 b7 xs ys i s.heap)(dP:∃o,s.heap.get? S=some o)(jR:S≠z/\S≠cL/\S≠cC/\S≠cI)
  (hx:i<xs.size) (a7:i<ys.size)
  (hn:∀h' tk,IsPair h' s.heap.objs.size xs[i] ys[i]->tq S z TI cL cC cI cw cE b6 b7 xs ys (i+1) h'->(∀o,s.heap.get? S=some o->h'.get? S=some o)->Kept S z cL cC cI s.heap h'->s.heap.objs.size<=h'.objs.size->Q (some (unop%WB 0)) {s with heap:=h',toks:=tk}):
  a0 (bA prog w) A (pyNext (.ref z)) Q E s:=by
 obtain⟨iQ,⟨a,b,lx⟩,aP,bf,au⟩:=st;have xo:∀{f0 f1:ao},fW s.heap z TI cL f0 f1->z<s.heap.objs.size:=λh=>c2 h;have cU:s.TypeIs (.ref z) "zip":=by
  rcases au with h|⟨T,fu,f,h,_⟩
  ·exact⟨_,h,rfl⟩
  ·exact⟨_,h,rfl⟩
 have PE:cC<s.heap.objs.size/\cI<s.heap.objs.size:=by
  obtain⟨dK,aw,_⟩:=aP.1.obj;obtain⟨en,aN,_⟩:=bf.1.obj;exact⟨c2 aw,c2 aN⟩
 have V6:S<s.heap.objs.size:=by
  obtain⟨o,e⟩:=dP;exact c2 e
 have V7:cL<s.heap.objs.size:=c2 lx;unfold pyNext;refine aO (wpAny_attempt (sP (name:=Str.ofString "__next__") cU F.slot_zip_next (rh F.slot_zip_next cU F.entry_zip_next ?_ (F.args_zip_next_1 _))));rcases au with au|⟨T,fu,f,au,Bh,t1,q8,t3,y5,Kw⟩
 ·refine ai9 (i_:=λi h=>jw b6 h cC cw i/\ht b6 h cw xs) (js:=λi h=>jw b7 h cI cE i/\ht b7 h cE ys) D (s7 (A:=A.in1) b6 cM cC cw D.l1i1 xs) (s7 (A:=A.in1) b7 cM cI cE D.l2i2 ys) au iQ lx aP bf hx a7 λh' x y tk f3 py l4 Zi s1 s2 aM hsz aG=>bX ?_
  have ex:xs[i]=x:=fN ((wq hx).symm.trans f3);have fI:ys[i]=y:=fN ((wq a7).symm.trans py);subst ex fI;refine hn h' tk aM ⟨aG _ _ D.TIz D.TITO D.TIi1 D.TIi2 iQ,⟨_,_,Zi⟩,s1,s2,.inr ⟨_,_,false,l4,aM,?_⟩⟩ (λo e=>aG _ _ jR.1 jR.2.1 jR.2.2.1 jR.2.2.2 e) (λc o _ dp fX c4 jP e=>aG c o dp fX c4 jP e) (by omega);exact⟨hO V6,hO (xo au),hO V7,hO PE.1,hO PE.2⟩
 ·refine ai8 (i_:=λi h=>jw b6 h cC cw i/\ht b6 h cw xs) (js:=λi h=>jw b7 h cI cE i/\ht b7 h cE ys) D (s7 (A:=A.in1) b6 cM cC cw D.l1i1 xs) (s7 (A:=A.in1) b7 cM cI cE D.l2i2 ys) au Bh iQ aP bf hx a7 λh' x y tk f3 py l4 s1 s2 aM hsz aG=>bX ?_
  have ex:xs[i]=x:=fN ((wq hx).symm.trans f3);have fI:ys[i]=y:=fN ((wq a7).symm.trans py);subst ex fI;exact hn h' tk aM ⟨aG _ _ D.TIz D.TIi1 D.TIi2 iQ,⟨a,b,aG _ _ D.TOz D.TOi1 D.TOi2 lx⟩,s1,s2,.inr ⟨T,fu,true,l4,aG _ _ q8 y5 Kw Bh,t1,q8,t3,y5,Kw⟩⟩ (λo e=>aG _ _ jR.1 jR.2.2.1 jR.2.2.2 e) (λc o _ dp fX c4 jP e=>aG c o dp c4 jP e) (by omega)
def ahe{S:aj}{i:Nat}{Q:Option ao->aH->Prop}(cM:A.handled=none)(D:ZipApart z TI cL cC cI cw cE)(st:tq S z TI cL cC cI cw cE b6 b7 xs ys i s.heap)(jR:S≠z/\S≠cL/\S≠cC/\S≠cI)(aQ:i=xs.size\/(i<xs.size/\i=ys.size))
  (hn:∀h' tk,(∀o,s.heap.get? S=some o->h'.get? S=some o)->Kept S z cL cC cI s.heap h'->Q none {s with heap:=h',toks:=tk}):
  a0 (bA prog w) A (pyNext (.ref z)) Q E s:=by
 obtain⟨iQ,⟨a,b,lx⟩,aP,bf,au⟩:=st;have cU:s.TypeIs (.ref z) "zip":=by
  rcases au with h|⟨T,fu,f,h,_⟩
  ·exact⟨_,h,rfl⟩
  ·exact⟨_,h,rfl⟩
 unfold pyNext;refine aO (wpAny_attempt (sP (name:=Str.ofString "__next__") cU F.slot_zip_next (rh F.slot_zip_next cU F.entry_zip_next ?_ (F.args_zip_next_1 _))));rcases au with au|⟨T,fu,f,au,Bh,t1,q8,t3,y5,Kw⟩
 ·refine ai7 (i_:=λi h=>jw b6 h cC cw i/\ht b6 h cw xs) (js:=λi h=>jw b7 h cI cE i/\ht b7 h cE ys) D (s7 (A:=A.in1) b6 cM cC cw D.l1i1 xs) (s7 (A:=A.in1) b7 cM cI cE D.l2i2 ys) au iQ lx aP bf aQ λh' e tk aG he=>?_
  obtain⟨o,aK,ax⟩:=he;refine aO (wpAny_isInstance (T:="StopIteration") (b:=true) ⟨o,aK,ax⟩ isSubtype_stop (bX ?_));exact hn h' tk (λo e=>aG _ _ jR.1 jR.2.1 jR.2.2.1 jR.2.2.2 e) λc o _ dp fX c4 jP e=>aG c o dp fX c4 jP e
 ·refine af9 (i_:=λi h=>jw b6 h cC cw i/\ht b6 h cw xs) (js:=λi h=>jw b7 h cI cE i/\ht b7 h cE ys) D (s7 (A:=A.in1) b6 cM cC cw D.l1i1 xs) (s7 (A:=A.in1) b7 cM cI cE D.l2i2 ys) au Bh iQ aP bf aQ λh' e tk aG he=>?_
  obtain⟨o,aK,ax⟩:=he;refine aO (wpAny_isInstance (T:="StopIteration") (b:=true) ⟨o,aK,ax⟩ isSubtype_stop (bX ?_));exact hn h' tk (λo e=>aG _ _ jR.1 jR.2.2.1 jR.2.2.2 e) λc o _ dp fX c4 jP e=>aG c o dp c4 jP e
def tq.frame{S:aj}{i:Nat}{h h':bL}(st:tq S z TI cL cC cI cw cE b6 b7 xs ys i h)(dP:∀c∈[z,TI,cL,cC,cI,cw,cE],S≠c)(k:∀c o,c≠S->h.get? c=some o->h'.get? c=some o):tq S z TI cL cC cI cw cE b6 b7 xs ys i h':=by
 obtain⟨iQ,⟨a,b,lx⟩,aP,bf,au⟩:=st;have ne:∀c∈[z,TI,cL,cC,cI,cw,cE],c≠S:=λc ax=>(dP c ax).symm;refine⟨k _ _ (ne _ (by simp)) iQ,⟨a,b,k _ _ (ne _ (by simp)) lx⟩,⟨aP.1.at λo e=>k _ _ (ne _ (by simp)) e,aP.2.at λo e=>k _ _ (ne _ (by simp)) e⟩,⟨bf.1.at λo e=>k _ _ (ne _ (by simp)) e,bf.2.at λo e=>k _ _ (ne _ (by simp)) e⟩,?_⟩;rcases au with au|⟨T,fu,f,au,cU,t⟩
 ·exact .inl (k _ _ (ne z (by simp)) au)
 ·exact .inr ⟨T,fu,f,k _ _ (ne z (by simp)) au,k _ _ t.1 cU,t⟩
def agE(cM:A.handled=none)(D:ZipApart z TI cL cC cI cw cE)(S:aj)(dP:∀c∈[z,TI,cL,cC,cI,cw,cE],S≠c)(kvs:List (K×ao))(vV:(kvs.map (·.1)).Nodup)(hlen:kvs.length=min xs.size ys.size)(au:kvs.length<=cn)
  (ub:∀(j:Nat) (dg:K×ao),kvs[j]?=some dg->∃key,xs[j]?=some key/\knd.is dg.1 key=true/\ys[j]?=some dg.2):
  ∀(k i:Nat) (s:aH) (c:Int) (cP:Tok),kvs.length - i=k->i<=kvs.length->tq S z TI cL cC cI cw cE b6 b7 xs ys i s.heap->s.heap.DictOf knd S (kvs.take i) ->
   (∀h' tk,Kept S z cL cC cI s.heap h'->h'.DictOf knd S kvs->R (.ok (.ret .none)) {s with heap:=h',toks:=tk}) ->
   hu (bA prog w) A (.builtin "dict.update.loop" ⟨[.ref S,.ref z,.int c cP,.none],[]⟩) R s:=by
 have jR:S≠z/\S≠cL/\S≠cC/\S≠cI:=⟨dP _ (by simp),dP _ (by simp),dP _ (by simp),dP _ (by simp)⟩;intro k
 induction k with
|zero=>
  intro i s c cP aL aQ gg hd iP;have sf:i=kvs.length:=by omega
  subst sf;refine ml R' ?_;rw[anG DN _];refine aO (m:=pyNext (.ref z)) (ahe (A:=A.in1) cM D gg jR (by omega) λh' tk Hb aG=>?_);refine aO (m:=Builtin.Dict.addKeywords S []) (bX ?_);rw[List.take_of_length_le (dy _)] at hd;exact bX (iP h' tk aG (hd.at λo e=>Hb o e))
|succ k bM=>
  intro i s c cP aL aQ gg hd iP;have d7:i<kvs.length:=by omega
  have hx:i<xs.size:=by omega
  have a7:i<ys.size:=by omega
  have Zf:∃o,s.heap.get? S=some o:=by
   obtain⟨o,_,_,e,_⟩:=hd;exact⟨o,e⟩
  refine ml R' ?_
  rw[anG DN _];refine aO (m:=pyNext (.ref z)) (ahd (A:=A.in1) cM D gg Zf jR hx a7 λh' tk aM o6 Hb aG hsz=>?_);have Pd:kvs[i]?=some kvs[i]:=iZ d7;obtain⟨key,aw,aN,dv⟩:=ub i _ Pd;have ex:xs[i]=key:=fN ((wq hx).symm.trans aw);have fI:ys[i]=kvs[i].2:=fN ((wq a7).symm.trans dv);rw[ex,fI] at aM;refine aO (ia (aO (pf (ahs (s:={s with heap:=h',toks:=tk}) aM rfl rfl ?_))));have ZD:h'.DictOf knd S (kvs.take i):=hd.at λo e=>Hb o e;refine ia (wpAny_dictSet_pairs (s:={s with heap:=h',toks:=tk}) aN ZD (λar hd2 oS=>?_) (by rw[List.length_take];omega));have qU:kvs[i].1∉(kvs.take i).map (·.1):=λq=>by
   rw[<- List.take_append_drop i kvs,List.map_append,mi] at vV;refine vV.2.2 _ q _ (d_.mpr ⟨kvs[i],?_,rfl⟩) rfl;rw[List.drop_eq_getElem_cons d7];exact fg
  rw[ahn qU,show kvs.take i++[(kvs[i].1,kvs[i].2)]=kvs.take (i+1) by rw[List.take_succ,Pd];rfl] at hd2;refine bX ⟨nf DN _,bM (i+1) _ _ _ (by omega) d7 (o6.frame dP λc o ax e=>?_) hd2 λbk aff IL Hm=>iP bk aff (λc o cT dp fX c4 jP e=>IL c o cT dp fX c4 jP ?_) Hm⟩
  ·exact (oS.2 c ax).trans e
  ·exact (oS.2 c cT).trans (aG c o cT dp fX c4 jP e)
def ahW{kvs:List (K×ao)}{Q:ao->aH->Prop}(cM:A.handled=none)(D:ZipApart z TI cL cC cI cw cE)(st:tq s.heap.objs.size z TI cL cC cI cw cE b6 b7 xs ys 0 s.heap)(au:fW s.heap z TI cL .none (.bool false))(vV:(kvs.map (·.1)).Nodup)(hlen:kvs.length=min xs.size ys.size)(hsz:kvs.length<=cn)
  (ub:∀(j:Nat) (dg:K×ao),kvs[j]?=some dg->∃key,xs[j]?=some key/\knd.is dg.1 key=true/\ys[j]?=some dg.2)
  (h:∀(h':bL) (tk:Nat),h'.DictOf knd s.heap.objs.size kvs->(∀c o,c≠z->c≠cL->c≠cC->c≠cI->s.heap.get? c=some o->h'.get? c=some o)->Q (unop%WB 0) {s with heap:=h',toks:=tk}):
  a0 (bA prog w) A (call (.type "dict") [.ref z]) Q E s:=by
 obtain⟨iQ,⟨a,b,lx⟩,aP,bf,_⟩:=id st;have xo:z<s.heap.objs.size:=c2 au;have dP:∀c∈[z,TI,cL,cC,cI,cw,cE],s.heap.objs.size≠c:=by
  obtain⟨dK,aw,_⟩:=aP.1.obj;obtain⟨en,aN,_⟩:=bf.1.obj;have a1:=c2 iQ;have a2:=c2 lx;have fj:=c2 aw;have hZ:=c2 aN;have kG:=aP.2.lt;have kH:=bf.2.lt;intro c ax;simp only[cN,uR,or_false] at ax;rcases ax with rfl|rfl|rfl|rfl|rfl|rfl|rfl
  ·exact hO xo
  ·exact hO a1
  ·exact hO a2
  ·exact hO fj
  ·exact hO hZ
  ·exact hO kG
  ·exact hO kH
 refine callType_codes (Q₁:=λobj cZ=>obj=.ref s.heap.objs.size/\cZ={s with heap:=s.heap.push {cls:=.type "dict",data:=.dict #[]} }) F.kt_called_dict (F.kt_typeCall_dict_1 _) F.entry_dict_init (kt_code_dict_new _ ⟨rfl,rfl⟩) ?_
 rintro obj cZ ⟨rfl,rfl⟩;have r3:(s.heap.push {cls:=.type "dict",data:=.dict #[]}).DictOf knd s.heap.objs.size []:=Heap.DictOf.new s.heap;have uk:fW (s.heap.push {cls:=.type "dict",data:=.dict #[]}) z TI cL .none (.bool false):=cQ _ au;refine⟨r3.typeIs,F.args_dict_init_2 _ _,?_⟩;unfold Builtin.«dict.__init__»;refine aO ?_;unfold Builtin.Dict.selfAndRest;refine aO (wpAny_notOrdered_dict r3.typeIs ?_);show a0 _ _ (pure (s.heap.objs.size,[Value.ref z])) _ _ _;refine bX ?_;show a0 _ _ (Builtin.Dict.updateFrom "dict.__init__" s.heap.objs.size (.ref z) [] .none) _ _ _;unfold Builtin.Dict.updateFrom;refine aO (wpAny_typeOf (show Shared.TypeIs _ (.ref z) "zip" from ⟨_,uk,rfl⟩) ?_);rw[if_pos (by decide)];refine aO (ajB uk (by simp[cM]) λar KN k2=>?_);have an7:IsZip ar z TI cL .none:=k2 _ _ uk;simp only[Option.isNone_none,if_true];refine aO (wpAny_rule (aO (wpAny_pyIter_zip (s:={s with heap:=ar,toks:=KN}) an7 (bX ⟨nf DN _,?_⟩))));have aG:∀c o,s.heap.get? c=some o->ar.get? c=some o:=λc o e=>k2 _ _ (cQ _ e);refine agE (knd:=knd) (by simp[cM]) D s.heap.objs.size dP kvs vV hlen hsz ub (kvs.length - 0) 0 _ 0 _ (by omega) (n8 _) (st.frame dP λc o _ e=>aG c o e) (by simpa using r3.at λo e=>k2 _ _ e) λh' tk IL Hm=>⟨rfl,h h' tk Hm λc o dp fX c4 jP e=>?_⟩;exact IL c o (eQ (c2 e)) dp fX c4 jP (aG c o e)
end
end
section
variable [cD]
def agK{n cw cE:Nat}(ah:cw<n)(ar:cE<n):ZipApart (n+4) (n+2) (n+3) n (n+1) cw cE:=by constructor <;> (show (_:Nat)≠_) <;> omega
section
variable {X:aY}{a b:bt}{f g:bY}{p eN pos nW:Pos}
noncomputable def kz:List bu.Key->List V->List (bu.Key×V)
|k::bj,v::vs=>(k,v)::kz bj vs
|_,_=>[]
theorem Sq:∀(bj:List bu.Key) (vs:List V),(kz bj vs).length=min bj.length vs.length
| [],vs=>by simp[kz]
|k::bj,[]=>by simp[kz]
|k::bj,v::vs=>by simp only[kz,fy,Sq bj vs];omega
theorem Ms:∀{bj:List bu.Key} {vs:List V} {us:List ao},Vals vs us->hB (kz bj vs) ((bj.zip us))
| [],vs,us,_=>by
  rw[show kz [] vs=[] from rfl,List.zip_nil_left];exact .nil
|k::bj,_,_,.nil=>.nil
|k::bj,_,_,.cons r t=>.cons ⟨rfl,r⟩ (Ms t)
def ah3(X:aY){bj:List bu.Key}{us:List ao}{xs:List ao}(hx:Vals (bj.map dD) xs)(j:Nat)(dg:bu.Key×ao)(h:(bj.zip us)[j]?=some dg):∃key,xs.toArray[j]?=some key/\tl dg.1 key=true/\us.toArray[j]?=some dg.2:=by
 rw[List.getElem?_zip_eq_some] at h;obtain⟨ah,ar⟩:=h;obtain⟨u,b1,cY⟩:=hx.get (i:=j) (x:=dD dg.1) (by rw[kp,ah];rfl);refine⟨u,by simpa using b1,Er (P:=X.prog) (w:=X.w) cY,by simpa using ar⟩
noncomputable def al_(K:a')(cy:fH):TE:=λσ H Q=>cy σ H λvs H1=>∃cw cE bj ys,vs=[.ref cw,.ref cE]/\fi K H1 cw (bj.map dD)/\c' K H1 cE ys/\((kz bj ys).map (·.1)).Nodup/\(kz bj ys).length<=1000/\∀q,H1 q=none->Q (.ref q) (upd H1 q (.fo (kz bj ys)))
def ahr{cy:fH}(ax:X.calm=true)(hd:X.mg "dict"=none)(au:X.mg "zip"=none)(aA:fR X [a,b] cy)(bg:dZ X "dict")(Ht:dZ X "zip")(oQ:a9 [a,b] X.env=(false,eval a X.env)::a9 [b] X.env)(HI:(c3 nW (a9 [b] X.env)).any (·.1)=false)
  (he:a9 [.Call (.Name "zip" eN) [a,b] [] nW] X.env=(false,eval (.Call (.Name "zip" eN) [a,b] [] nW) X.env)::a9 [] X.env) (hpl:(c3 pos (a9 [] X.env)).any (·.1)=false):
  b0 X (.Call (.Name "dict" p) [.Call (.Name "zip" eN) [a,b] [] nW] [] pos) (al_ X.K cy):=by
 intro ak s σ H Q I h;refine nc (pv I bg hd PyProof.Rows.boot_dict ?_);refine wt ?_ he hpl;rw[he];show a0 _ _ (spliced ((false,eval (.Call (.Name "zip" eN) [a,b] [] nW) X.env)::c3 pos (a9 [] X.env))) _ _ s;refine Calls.spliced_cons (nc (pv I Ht au PyProof.Rows.boot_zip (wt (cH (aA nW ak s σ H _ I h) λus s1 hqq=>?_) oQ HI)));obtain⟨vs,H1,ba,a_,aP⟩:=hqq;obtain⟨cw,cE,bj,ys,rfl,yj,Bt,vV,hle,q⟩:=aP;obtain⟨Qx,CK,rfl,aw,aN⟩:=a_.two;cases aw;cases aN;obtain⟨its,bW,pl,uk⟩:=ba.list yj;obtain⟨kj,wd,acO,an7⟩:=ba.tuple Bt;have k1:ht true s1.heap cw its.toArray:=pl.isList;have k2:ht false s1.heap cE kj.toArray:=acO;refine aiY k1 k2 λh' PB iQ lx ZO ZP hsz aL=>Calls.spliced_nil ?_;have sg:bj.length=its.length:=by have:=bW.length;simpa using this
 have yf:ys.length=kj.length:=wd.length;have hlen:(bj.zip kj).length=(kz bj ys).length:=by rw[Sq,List.length_zip,yf]
 have ZR:(bj.zip kj).map (·.1)=(kz bj ys).map (·.1):=(Tf (Ms wd)).symm;have big:=ba.big;have CB:h'.objs.size=s1.heap.objs.size+5:=hsz;refine ahW (knd:=hQ X.prog X.w) (kvs:=bj.zip kj) (s:={s1 with heap:=h'}) (ba.ok.hd ax) (agK k1.lt k2.lt) ⟨iQ,⟨_,_,lx⟩,⟨ZO,k1.at λo e=>aL _ o e⟩,⟨ZP,k2.at λo e=>aL _ o e⟩,.inl PB⟩ PB (by rw[ZR];exact vV) (by rw[List.length_zip,eW,eW,sg]) (by rw[hlen,jJ];omega) (λj dg e=>ah3 X bW j dg e) λar tk hd2 p2=>?_;have keep:∀c o,s1.heap.get? c=some o->ar.get? c=some o:=λc o e=>by
  have ax:c<s1.heap.objs.size:=c2 e;have ne:∀m:Nat,c≠s1.heap.objs.size+m:=λm=>eQ (i0 ax (lP _ m));exact p2 c o (ne 4) (ne 3) (ne 0) (ne 1) (aL c o e)
 have Jx:s1.heap.objs.size<=h'.objs.size:=by rw[CB];exact lP _ _
 refine⟨.ref h'.objs.size,_,LZ (s:=s1) ba (o:=.fo (kz bj ys)) (d':=s1.drawn) (t':=tk) keep Jx ⟨by rw[jJ];omega,?_,bj.zip kj,Ms wd,hd2⟩,rfl,q _ (ba.bF.fresh Jx)⟩
 rw[beq_eq_false_iff_ne];exact hO (i0 big Jx)
variable {c C i j:Nat}{ns:List Str}{fn:Str}{o:bt}{apos:Pos}
theorem Sr{K:a'}{F:aj->Prop}{H:aB}:∀{lk lv:List T} {kvs:List (D.Key×T)} {ws ys:List V},tu lk lv=some kvs->bB K F H lk ws->bB K F H lv ys->(∀t∈lk,∃k,iD t=some k)->∃bj:List bu.Key,ws=bj.map dD/\el K F H kvs (kz bj ys)/\(kz bj ys).map (·.1)=kvs.map (·.1)
| [],lv,kvs,ws,ys,e,ah,ar,_=>by
  cases e
  simp only[bB] at ah;subst ah;exact⟨[],rfl,rfl,rfl⟩
|t::lk,[],kvs,ws,ys,e,ah,ar,aA=>by
  cases e
  simp only[bB] at ah ar;subst ar;obtain⟨v,r,rfl,q,z⟩:=ah;obtain⟨k,aL⟩:=aA t (by simp);have bh:v=dD k:=vi (O:=λ_=>False) aL (.inl q);have key:∀{lk:List T} {r:List V},bB K F H lk r->(∀t∈lk,∃k,iD t=some k)->∃bj:List bu.Key,r=bj.map dD:=by
   intro lk
   induction lk with
   |nil=>
    intro r h _;simp only[bB] at h;exact⟨[],h⟩
   |cons t lk bM=>
    intro r h aA;simp only[bB] at h;obtain⟨v,cm,rfl,q,z⟩:=h;obtain⟨k,aL⟩:=aA t (by simp);obtain⟨bj,rfl⟩:=bM z λu b1=>aA u (dF _ b1);exact⟨k::bj,by rw[vi (O:=λ_=>False) aL (.inl q)];rfl⟩
  obtain⟨bj,rfl⟩:=key z λu b1=>aA u (dF _ b1);exact⟨k::bj,by rw[bh];rfl,rfl,rfl⟩
|t::lk,u::lv,kvs,ws,ys,e,ah,ar,aA=>by
  simp only[tu,cf,dR] at e;obtain⟨k,aL,r,iM,rfl⟩:=e;simp only[bB] at ah ar;obtain⟨v,a_,rfl,aP,pj⟩:=ah;obtain⟨w,b_,rfl,bf,gD⟩:=ar;obtain⟨bj,rfl,jD,sG⟩:=Sr iM pj gD λu b1=>aA u (dF _ b1);exact⟨k::bj,by rw[vi (O:=λ_=>False) aL (.inl aP)];rfl,⟨w,_,rfl,bf,jD⟩,by simp[kz,sG]⟩
def S7(k:hi X.K c C ns)(ax:X.calm=true)(hd:X.mg "dict"=none)(au:X.mg "zip"=none)(bc:b0 X o (gS i))(aA:ey X a f)(af:ey X b g){Gu:Pos}(bS:ns[j]?=some fn:=by rfl)(bg:dZ X "dict":=by rfl)(Ht:dZ X "zip":=by rfl)
  (oQ:a9 [a,b] X.env=(false,eval a X.env)::a9 [b] X.env:=by rfl) (ZF:a9 [b] X.env=(false,eval b X.env)::a9 [] X.env:=by rfl) (HI:(c3 nW (a9 [b] X.env)).any (·.1)=false:=by rfl)
  (he:a9 [.Call (.Name "zip" eN) [a,b] [] nW] X.env=(false,eval (.Call (.Name "zip" eN) [a,b] [] nW) X.env)::a9 [] X.env:=by rfl) (hpl:(c3 Gu (a9 [] X.env)).any (·.1)=false:=by rfl)
  (az:kr (.Call (.Name "dict" p) [.Call (.Name "zip" eN) [a,b] [] nW] [] Gu) (some (.Attribute o fn apos)) pos.line X.env=pure false:=by rfl):
  gF X (.Assign [.Attribute o fn apos] (.Call (.Name "dict" p) [.Call (.Name "zip" eN) [a,b] [] nW] [] Gu) pos) (xq c i j f g):=
 hT (MT bc (ahr ax hd au (e3 aA (e3 af hb ZF) oQ) bg Ht oQ HI he hpl) az) λD σ H ⟨aJ,E,O,F,ai,o,r,e,b9⟩=>by
 simp only[xq,cf] at e;obtain⟨tk,YS,je,YT,e⟩:=e;split at e
 next lk lv=>
  simp only[cf] at e;obtain⟨kvs,tZ,e⟩:=e;split at e
  next O6=>
   simp only[dR] at e;obtain⟨ε',es,rfl⟩:=e;refine⟨aJ,E,O,F,ai,_,r,YS,λv1 a6 H1 aS aP=>⟨aJ,E,O,a6,ai,_,r.ext aS,YT,λv2 dr bw bN bf=>?_⟩⟩;obtain⟨cw,ws,rfl,sg,nQ⟩:=(aP.ext bN).lst;obtain⟨cE,ys,rfl,yf,qY⟩:=bf.tup;obtain⟨bj,rfl,jD,sG⟩:=Sr tZ nQ qY λt bp=>Option.isSome_iff_exists.mp (O6.2.2 t bp);have q_:=aS.trans bN;refine⟨cw,cE,bj,ys,rfl,.inl sg,yf,by rw[sG];exact O6.1,by have:=congrArg List.length sG;simp only[f5] at this;omega,λq aX=>?_⟩;have g_:=Ext.laid (o:=.fo (kz bj ys)) q_.cb aX;have q':=q_.trans g_;have a_:=r.ext q';have qU:H q=none:=q_.same.none aX;have jc:¬dr q:=λz=>by
    obtain⟨o,e⟩:=q_.cb q z;rw[aX] at e;cases e
   have ju:=es;unfold jd at ju;simp only[cf] at ju;obtain⟨⟨m,aF⟩,aK,_⟩:=ju;obtain⟨W0,vs,bE,ah,hx,aI,aA,_⟩:=rz k a_ aK;have hold:=SO r q' qU;obtain⟨aG,b_⟩:=a_.Cw (s:=.h1 kvs) (v:=.ref q) k aK ah aA es ⟨q,_,rfl,dU,el.aG g_.aG jD⟩ (λd hd=>by
    have:d=q:=by simpa [d0,iW] using hd
    subst this;exact⟨jc,r.fr _ qU,hold i _ _ (qk aK) ah,λk u w _ gb _ aL=>hold k u w gb aL⟩) hx bS
   refine⟨_,ah,W0,C,bE,_,rfl,hx,k.cls,my k bS,?_,b9 σ dr _ (q'.aG.trans aG) b_⟩
   have:=k.Bc;simp only[List.length_zip];omega
  next=>cases e
 next=>cases e
end
end
section
variable [cD]
open AutoSeq1 (wpAny_loadPart')
noncomputable def yI:T->T->Option T
|.tuple xs,.int k=>if 2<=k/\k<1000/\xs≠[]/\xs.length*k.toNat<=big then some (.tuple (d5 k.toNat xs).flatten) else none
|.list xs,.int k=>if 0<=k/\k<1000/\xs.length*k.toNat<=big then some (.list (d5 k.toNat xs).flatten) else none
|_,_=>none
def afR:fillsNumberSlot (.type "tuple") "mul"=pure false:=
 PySem.fillsNumberSlot_seq (id:="tuple.__mul__") (r:=some (.builtin "tuple.__rmul__")) F.slot_tuple_mul.lookup (by decide +kernel) F.slot_tuple_rmul.lookup (by decide +kernel)
def agc:seqRepeat? (.type "tuple")=pure (some (.builtin "tuple.__mul__")):=by
 unfold seqRepeat?;rw[PySem.seqSlot_of (T:="tuple") (name:="__mul__") (id:="tuple.__mul__") F.slot_tuple_mul.lookup (by decide +kernel),PySem.seqSlot_of (T:="tuple") (name:="__rmul__") (id:="tuple.__rmul__") F.slot_tuple_rmul.lookup (by decide +kernel)];rfl
def agR(a:Int)(t:Tok)(l:aj)(its:Array ao)(n:Nat)(dd:Option aj)(cG:Array (Option ao)):Meets (Builtin.«int.__rmul__» ⟨[.int a t,.ref l],[]⟩) (λ_ R s=>s.heap.get? l=some {cls:=.type "tuple",dict:=dd,data:=.seq its n,slots:=cG}/\R (.ok (.ret Value.notImplemented)) s):=
 .of_wp λprog w A R s h=>by
  obtain⟨aM,g,d,tk,os⟩:=s;obtain⟨aI,h⟩:=h
  wp_walk
  exact⟨_,rfl,h⟩
def ahC(l:aj)(its:Array ao)(n:Nat)(dd:Option aj)(cG:Array (Option ao))(k:Int)(t:Tok)(ah:2<=k)(ar:k<1000)(dJ:its.isEmpty=false)(au:its.size*k.toNat<=cn):
  Meets (Builtin.«tuple.__mul__» ⟨[.ref l,.int k t],[]⟩) (λ_ R s=>s.heap.get? l=some {cls:=.type "tuple",dict:=dd,data:=.seq its n,slots:=cG} /\
   R (.ok (.ret (unop%WB 0))) {s with heap:=s.heap.push {cls:=.type "tuple",data:=.seq ((d5 k.toNat its).foldl (·++·) #[])} }):=
 .of_wp λprog w A R s h=>by
  obtain⟨aM,g,d,tk,os⟩:=s;obtain⟨aI,h⟩:=h;have cT:¬(decide (k < -(2 ^ 63)) || decide (k >= 2 ^ 63))=true:=by simp;omega
  have dp:¬(its.isEmpty || k==1)=true:=by simp[dJ];omega
  have fX:¬(decide (k<=0) || its.isEmpty)=true:=by simp[dJ];omega
  wp_walk using wpAny_loadPart' aI
  have Pz:(its.size:Int)*k=((its.size*k.toNat:Nat):Int):=by
   have:(k.toNat:Int)=k:=Int.toNat_of_nonneg (by omega);rw[<- this]
   push_cast
   simp
  have c4:¬((its.size:Int)*k > (2 ^ 63 - 1) / 8):=by
   rw[Pz];rw[jJ] at au;omega
  have jP:¬Builtin.Tuple.tupleTooMany ((its.size:Int)*k)=true:=by
   unfold Builtin.Tuple.tupleTooMany;rw[Pz,decide_eq_true_iff];omega
  rw[if_neg cT]
  wp_walk using wpAny_loadPart' aI
  rw[if_neg dp,if_neg fX,if_neg c4,if_neg jP];unfold uP;refine aO (qe (bX ⟨_,rfl,h⟩) ?_);have e:=DR its.toList k.toNat [];rw[rd] at e;show (List.foldl _ #[] (d5 k.toNat its)).size<=cn;have bx:List.foldl (λaS bN=>aS++bN) #[] (d5 k.toNat its)=(d5 k.toNat its.toList).flatten.toArray:=by simpa using e
  rw[bx,eW,MB,sN,Nat.mul_comm];exact au
section
variable {X:aY}{a b:bt}{f g:bY}{pos:Pos}
def akA:eU X (ng .Mult) (λx y H Q=>∃a k xs,x=.ref a/\y=.int k/\c' X.K H a xs/\xs≠[]/\2<=k/\k<1000/\xs.length*k.toNat<=cn/\∀p,H p=none->Q (.ref p) (upd H p (.tup (d5 k.toNat xs).flatten))):=by
 intro ak s σ H x y v u Q I aU bD h;obtain⟨l,k,xs,rfl,rfl,e1,dJ,ah,ar,au,q⟩:=h;cases aU;obtain⟨t,rfl⟩:=bD;obtain⟨its,r,pl,_⟩:=I.tuple e1;have aI:=r.length;obtain⟨⟨cls,dd,data,cG⟩,aK,ax,n,hd⟩:=id pl;simp only at ax hd;subst ax hd;have ZI:its.toArray.isEmpty=false:=by
  cases its with
  |nil=>
   cases xs with
   |nil=>exact absurd rfl dJ
   |cons x xs=>simp at aI
  |cons=>rfl
 refine wpAny_binaryOp_repeat_ref (T:="tuple") (U:="int") (by decide) ⟨_,aK,rfl⟩ (λs'=>typeIs_int s' k t) afR F.fills_int_mul F.slot_int_rmul agc F.slot_int_index.lookup
  (qg F.slot_int_rmul (typeIs_int s k t) F.entry_int_rmul (F.args_int_rmul_2 _ _) (agR k t l its.toArray n dd cG)
   ⟨aK,rfl,⟨_,aK,rfl⟩,qg F.slot_tuple_mul ⟨_,aK,rfl⟩ F.entry_tuple_mul (F.args_tuple_mul_2 _ _) (ahC l its.toArray n dd cG k t ah ar ZI (by rw[eW,<- aI];exact au)) ⟨aK,?_⟩⟩)
 have e:List.foldl (λaS bN=>aS++bN) #[] (d5 k.toNat its.toArray)=(d5 k.toNat its).flatten.toArray:=by simpa using DR its k.toNat []
 have an7:(d5 k.toNat xs).flatten.length<=cn:=by rw[MB,Nat.mul_comm];exact au
 refine⟨.ref s.heap.objs.size,upd H s.heap.objs.size (.tup (d5 k.toNat xs).flatten),I.laid (t':=s.toks) (λb u e=>cQ _ e) (dy _) ⟨an7,_,r.rep k.toNat,⟨_,fx _ rfl,rfl,0,?_⟩⟩,rfl,q _ I.fresh⟩
 exact congrArg (λz=>Data.seq z 0) e
def akB:eU X (ng .Mult) (λx y H Q=>∃l k xs,x=.ref l/\y=.int k/\fT H l (.lst xs)/\0<=k/\k<1000/\xs.length*k.toNat<=cn/\∀p,H p=none->Q (.ref p) (upd H p (.lst (d5 k.toNat xs).flatten))):=by
 intro ak s σ H x y v u Q I aU bD h;obtain⟨l,k,xs,rfl,rfl,e1,ah,ar,au,q⟩:=h;cases aU;obtain⟨t,rfl⟩:=bD;obtain⟨z,its,n,r,aI,e⟩:=Inv.v8 I e1;have hlen:its.toArray.size*k.toNat<=cn:=by rw[eW,<- aI];exact au
 have Zw:¬its.toArray.size*k.toNat > (2 ^ 63 - 1) / 8:=by
  have:(cn:Nat)<=(2 ^ 63 - 1) / 8:=by decide
  omega
 have ZL:¬(!Builtin.List.listFitsIndex k)=true:=by rw[fitsIndex_both (by omega) (by omega)];exact m_
 have HA:¬Builtin.List.listTooLong (its.toArray.size*k.toNat)=true:=by rw[SI hlen];exact m_
 have f0:∀m:Nat,List.foldl (λaS bN=>aS++bN) #[] (d5 m its.toArray)=(d5 m its).flatten.toArray:=λm=>by simpa using DR its m []
 have qU:List.foldl (λaS bN=>aS++bN) #[] (d5 (if its.toArray.isEmpty=true then 0 else k.toNat) its.toArray)=(d5 k.toNat its).flatten.toArray:=by
  rw[f0];cases its with
  |nil=>simp
  |cons a cm=>rw[if_neg (by simp)]
 refine wpAny_binaryOp_repeat_ref (T:="list") (U:="int") (by decide) ⟨_,e,rfl⟩ (λs'=>typeIs_int s' k t) noFill_list_mul F.fills_int_mul F.slot_int_rmul repeat_list F.slot_int_index.lookup
  (qg F.slot_int_rmul (typeIs_int s k t) F.entry_int_rmul (F.args_int_rmul_2 _ _) (int___rmul___int_list k t l its.toArray n) ⟨e,rfl,⟨_,e,rfl⟩,qg F.slot_list_mul ⟨_,e,rfl⟩ F.entry_list_mul (F.args_list_mul_2 _ _) (AutoListH.list___mul___list_int_3 l its.toArray n k t ZL Zw HA) ⟨e,?_⟩⟩)
 rw[qU];exact⟨.ref _,_,I.yC (t':=s.toks) (r.rep k.toNat) (by rw[MB,Nat.mul_comm];exact au),rfl,q _ I.fresh⟩
theorem bB.rep{K:a'}{F:aj->Prop}{H:aB}{ts:List T}{vs:List V}(h:bB K F H ts vs):∀k:Nat,bB K F H (d5 k ts).flatten (d5 k vs).flatten
|0=>bB.nil
|k+1=>by
  rw[uQ,uQ,wx,wx];exact h.append (bB.rep h k)
def ams(aA:ey X a f)(af:ey X b g):cO X (.BinOp a .Mult b pos) (aq yI f g):=eu (xl (akA.or akB) aA af) (rv (by
 intro O F H x y t jh ji Q d aU bD e k;unfold yI at e;split at e
 next xs n=>
  split at e
  next au=>
   cases e
   obtain⟨an2,vs,rfl,az,ay⟩:=aU.tup;rw[bD.int];refine .inl ⟨an2,_,vs,rfl,rfl,az,λz=>?_,au.1,au.2.1,by rw[lT,<- ay.length];exact au.2.2.2,λp aM=>?_⟩
   ·subst z;exact au.2.2.1 (List.eq_nil_of_length_eq_zero (by rw[ay.length];rfl))
   ·have aS:=Ext.laid (o:=.tup (d5 n.toNat vs).flatten) d aM;refine k _ F _ aS ?_;simp only[Rep];exact⟨p,_,rfl,c'.of dU,(ay.rep _).ext aS⟩
  next=>cases e
 next xs n=>
  split at e
  next au=>
   cases e
   obtain⟨an2,vs,rfl,az,ay⟩:=aU.lst;rw[bD.int];refine .inr ⟨an2,_,vs,rfl,rfl,az,au.1,au.2.1,by rw[lT,<- ay.length];exact au.2.2,λp aM=>?_⟩;have aS:=Ext.Jw (o:=.lst (d5 n.toNat vs).flatten) d aM;refine k _ _ _ aS ?_;simp only[Rep];exact⟨p,_,rfl,.inr rfl,.inl dU,(ay.rep _).ext aS⟩
  next=>cases e
 ·cases e))
end
end
section
abbrev t0:cD:=⟨[],λ_=>[],λ_=>none⟩
noncomputable def eR(ns:List Int):T:=.list (ns.map .int)
noncomputable def PX(K:a'):Bool:=K.all λp=>match p.2.cls with
|.type t=>t != "list"
|_=>true
theorem Rj{α β:Type}[BEq α][LawfulBEq α]{a:α}{b:β}:∀{l:List (α×β)},l.lookup a=some b->(a,b)∈l
  | [],h=>by cases h
  | (x,y)::l,h=>by
    rw[n5] at h;split at h
    next q=>
      cases h
      have:a=x:=by simpa using q
      subst this;simp
    next=>exact dF _ (Rj h)
end
section
variable [cD]
open PySem.W (kas_ask kas_sort kat_run kat_snds kat_lt kat_kind KatTups KatLex KatGo kas_item KasT)
noncomputable def cU(x:Str×List T):T:=.tuple (.str x.1::x.2)
end
section
open AutoSeq1 (wpAny_loadPart')
section
variable {prog:cu}{w:b8}{A:cp}{E:ao->aH->Prop}{s:aH}
def akO{T ux:String}{jV:ao}{as:List ao}{ft:List (Str×ao)}(aI:typeLookup (.type T) "__init__"=pure (some (.builtin "object.__init__")))(hm:Bind.madeBy (.type T)=pure (some ux))(dJ:(some ux != some "object.__new__")=true):
  Meets (Builtin.«object.__init__» ⟨jV::as,ft⟩) (λ_ R s=>s.TypeIs jV T/\R (.ok (.ret .none)) s):=.of_wp λprog w A R s az=>by
 obtain⟨cU,aX⟩:=az;cases as with
|nil=>
  cases ft with
  |nil=>exact bX ⟨_,rfl,aX⟩
  |cons k ft=>
   repeat any_goals first|assumption|wp_step
   exact⟨_,rfl,aX⟩
|cons a as=>
  repeat any_goals first|assumption|wp_step
  exact⟨_,rfl,aX⟩
def ahc{T ux:String}{Nl:Builtin}{as:List ao}{ft:List (Str×ao)}{S:PySem.Spec}{Q:ao->aH->Prop}(fb:TypeCalled T ux "object.__init__")(dJ:(some ux != some "object.__new__")=true)
  (am3:checkTypeCall T ⟨as,ft⟩=pure ()) (Zz:checkBuiltinCall ux ⟨.type T::as,ft⟩=pure ()) (bF:∀o,argsOk "object.__init__" ⟨o::as,ft⟩) (ent:entryFor table ux=some Nl) (g:Meets (Nl ⟨.type T::as,ft⟩) S)
  (h:S A.in1 (wants (λo s1=>s1.TypeIs o T/\Q o s1) E) s):a0 (bA prog w) A (call (.type T) as ft) Q E s:=by
 obtain⟨c,j0,ane⟩:=fb.mro;have ana:=fb.made;have Bv:=fb.sub;refine qh (codeAny_of_tree ?_);show a0 _ _ (callAny (.type T) _) _ _ _;refine bX ⟨Code.quiet_builtin _ (by decide +kernel),ml F.entry_type_call ?_⟩;rw[Around.under_plain (weight_type_call_type T as ft) (units_type_call_type T as ft)];have anl:=fb.notType;have anm:=fb.canCreate
 repeat any_goals first|assumption|wp_step
 refine nd (codeAny_call_builtin fb.plain ent (wpAny_of_eq Zz (g prog w A.in1 _ s h))) λr s1 ay=>?_
 cases r with
|error e=>exact ay
|ok dt=>
  cases dt with
  |ret obj=>
   obtain⟨cU,hn⟩:=ay;have li:=fb.init.lookup;have bi:=fb.init.bind obj
   repeat any_goals first|assumption|wp_step
   refine nd (codeAny_call_builtin fb.init.plain F.entry_object_init (fb.init.check _ _ _ _ _ _ _ _ cU (bF obj) (akO li fb.made dJ prog w A.in1 (wants (λr s2=>r=Value.none/\Q obj s2) E) s1 ⟨cU,rfl,hn⟩))) λb_ s2 qY=>?_
   cases b_ with
   |error e=>exact qY
   |ok f2=>
    cases f2 with
    |ret r=>
     obtain⟨rfl,aX⟩:=qY
     repeat any_goals first|assumption|wp_step
    |_=>exact qY.elim
  |_=>exact ay.elim
end
def aiT(l:aj)(items:Array ao)(n:Nat)(pL:Option aj)(cG:Array (Option ao))(t:Tok):
  Meets (Builtin.«enumerate.__new__» ⟨[.type "enumerate",.ref l],[("start",.int 1 t)]⟩) (λ_ R s=>s.heap.get? l=some {cls:=.type "tuple",dict:=pL,data:=.seq items n,slots:=cG} /\
   R (.ok (.ret (.ref (unop%W0 0).objs.size)))
    {s with heap:=(unop%W0 0).push {cls:=.type "enumerate",data:=.fields #[.none,.bool false,.ref s.heap.objs.size,gW 1,.none,.none]} }):=
 .of_wp λprog w A R s h=>by
  obtain⟨aM,g,d,tk,os⟩:=s;obtain⟨aI,h⟩:=h;have Bv:=sub_enumerate;have fZ:Heap.IsTuple (Shared.heap ⟨aM,g,d,tk,os⟩) l items:=⟨_,aI,rfl,n,rfl⟩
  wp_walk using wpAny_loadPart' aI
  refine wpAny_stack_any λst=>bX ?_
  split
  ·rename_i c _ _ _ _ _
   cases (c==Value.type "enumerate")
   ·wp_walk using wpAny_loadPart' aI,rg fZ
    exact⟨_,rfl,h⟩
   ·wp_walk using wpAny_loadPart' aI,rg fZ
    exact⟨_,rfl,h⟩
  ·wp_walk using wpAny_loadPart' aI,rg fZ
   exact⟨_,rfl,h⟩
def ahi(a:ao)(t:Tok):checkTypeCall "enumerate" ⟨[a],[("start",.int 1 t)]⟩=pure ():=by kernel_rfl
def ais(a:ao)(t:Tok):checkBuiltinCall "enumerate.__new__" ⟨[.type "enumerate",a],[("start",.int 1 t)]⟩=pure ():=by kernel_rfl
def ahL(o a:ao)(t:Tok):argsOk "object.__init__" ⟨[o,a],[("start",.int 1 t)]⟩:=by unfold argsOk;kernel_rfl
end
section
variable [cD]
section
variable {M:Model}{A:cp}{E:ao->aH->Prop}{s:aH}{env:Env}
def cw_kw{pos:Pos}{T:String}{e:bt}{rest:List bt}{ft:List Keyword}{Q:ao->aH->Prop}
  (h:a0 M A (spliced (c3 pos (a9 (e::rest) env))) (λvs s1=>a0 M A (evalAll ((fP pos (fO ft env)).map (·.2))) (λbj s2=>a0 M A (call (.type T) vs (((fP pos (fO ft env)).filterMap (·.1)).zip bj)) Q E s2) E s1) E s)
  (he:c3 pos (a9 (e::rest) env)=(false,eval e env)::c3 pos (a9 rest env):=by rfl) (aM:(c3 pos (a9 (e::rest) env)).any (·.1)=false:=by rfl)
  (aA:(fP pos (fO ft env)).all (·.1.isSome)=true:=by rfl) (aL:(fP pos (fO ft env)).any (·.1.isNone)=false:=by rfl):
  a0 M A (callWith pos (.type T) [] (c3 pos (a9 (e::rest) env)) (fP pos (fO ft env))) Q E s:=by
 have Hp:a0 M A (evalArgs (.type T) true (c3 pos (a9 (e::rest) env)) (fP pos (fO ft env))) (λa s1=>a0 M A (call (.type T) ([]++a.pos) a.kw) Q E s1) E s:=by
  rw[he] at h ⊢;exact evalArgs_kwB aA h
 unfold callWith;refine aO (ia (et Hp (λa s1 g1=>aO (wpAny_standAt ?_)) λ_ _ x=>x));simp only[aM,aL,Bool.or_false];refine aO (bX (aO (et g1 (λr s2 ay=>?_) λ_ _ x=>x)));exact aO (ia (wpAny_point (bX ay)))
end
section
variable {prog:cu}{w:b8}{A:cp}{E:ao->aH->Prop}{s:aH}
def ahV{l:aj}{items:Array ao}{t:Tok}{Q:ao->aH->Prop}(fZ:s.heap.IsTuple l items)
  (h:∀h',IsEnum h' (unop%Wq 0) s.heap.objs.size 1 .none->h'.IsTupleIter s.heap.objs.size l 0->h'.objs.size=s.heap.objs.size+2 ->
   (unop%Wh 0)->Q (.ref (unop%Wq 0)) {s with heap:=h'}):
  a0 (bA prog w) A (call (.type "enumerate") [.ref l] [("start",.int 1 t)]) Q E s:=by
 obtain⟨⟨c,pL,qL,cG⟩,aI,ax,n,hd⟩:=fZ;replace ax:c=.type "tuple":=ax;replace hd:qL=.seq items n:=hd;subst ax hd;refine ahc F.called_enumerate (by decide) (ahi _ t) (ais _ t) (λobj=>ahL obj _ t) F.entry_enumerate_new (aiT l items n pL cG t) ⟨aI,?_⟩;have au:(unop%W0 0).objs.size=s.heap.objs.size+1:=j2 ..;show _/\_;rw[au];have he:IsEnum ((unop%W0 0).push
   {cls:=.type "enumerate",data:=.fields #[.none,.bool false,.ref s.heap.objs.size,gW 1,.none,.none]}) (unop%Wq 0) s.heap.objs.size 1 .none:=by
  have:=fx (unop%W0 0)
   (o:={cls:=.type "enumerate",data:=.fields #[.none,.bool false,.ref s.heap.objs.size,gW 1,.none,.none]}) rfl
  rw[au] at this;exact this
 refine⟨⟨_,he,rfl⟩,h _ he ⟨_,cQ _ (fx _ rfl),rfl,rfl⟩ (by rw[j2,au]) λb o x=>cQ _ (cQ _ x)⟩
end
def ajV{prog:cu}{w:b8}{A:cp}{it:aj}{ct:List aj}{n:Nat}{P:Nat->ao->Prop}{St:Nat->bL->Prop}(D:Draws prog w A it ct n P St):
  Draws prog w A it ct (n+1) (λi v=>1<=i/\P (i - 1) v) (λi h=>1<=i/\St (i - 1) h) where
 live:=λi h st=>D.live (i - 1) h st.2
 frame:=λi h h' st aL=>⟨st.1,D.frame (i - 1) h h' st.2 aL⟩
 item:=λi s Q E aQ st hn=>D.item (i - 1) s Q E (by have:=st.1;omega) st.2 λx h' tk a b c=>hn x h' tk ⟨st.1,a⟩ ⟨by omega,by
  have e:i+1 - 1=i - 1+1:=by have:=st.1;omega
  rw[e];exact b⟩ c
 done:=λs Q E st hG=>D.done s Q E (by simpa using st.2) hG
noncomputable def EJ(K:a')(a:aj):mH:=
 ⟨λi H=>∃xs x,c' K H a xs/\xs[i]?=some x,λi H x ag=>∃p v,H p=none/\x=.ref p/\ag=upd H p (.tup [.int ((i+1:Nat):Int),v])/\∀xs,c' K H a xs->xs[i]?=some v,λi H=>∃xs,c' K H a xs/\xs.length<=i⟩
def ahl{P:cu}{w:b8}{K:a'}{es:List bt}{k:Nat}{pos:Pos}(a it e:aj)(dJ:e≠it)(Hi:a≠it)(Hh:a≠e):Turn P w K (.Tuple es k pos) (EJ K a) [e,it] e (λi h=>(∃old,IsEnum h e it ((i+1:Nat):Int) old)/\h.IsTupleIter it a i) where
 mem:=by simp
 obj:=λi h st b af=>by
  obtain⟨⟨old,he⟩,o,aK,ax,hd⟩:=st;rcases cN.mp af with rfl|af
  ·exact⟨_,he,λv z=>by
    have i3:Data.fields _=Data.cell v:=z;cases i3⟩
  ·have aw:b=it:=by simpa using af
   subst aw;exact⟨o,aK,λv z=>by rw[hd] at z;cases z⟩
 keep:=λi h h' st b9=>by
  obtain⟨⟨old,he⟩,kn⟩:=st;exact⟨⟨old,b9 e (by simp) _ he⟩,kn.at λo q=>b9 it (by simp) o q⟩
 item:=by
  intro X fC hw iO ax i ak s σ H E I hf st bg;subst fC hw iO;obtain⟨xs,x,aX,hx⟩:=bg;obtain⟨its,bW,p,au⟩:=I.tuple aX;obtain⟨u,b1,cY⟩:=bW.get hx;obtain⟨⟨old,he⟩,hit⟩:=st;obtain⟨f0,f1,f2,i',f4,ja⟩:=hf e (by simp);obtain⟨pU,g1,g2,g3,t2,nJ⟩:=hf it (by simp);have aQ:i<its.toArray.size:=by
   rw[eW];exact (gU.mp b1).1
  have HC:e∉[it,a]:=by
   intro z;rcases cN.mp z with z|z
   ·exact dJ z
   ·have i3:e=a:=by simpa using z
    exact Hh i3.symm
  refine wpAny_pyNext_enum_itemD (i:=i+1) (ajV (Lx (A:=X.A.in1) (I.ok.hd ax) it a Hi its.toArray)) he ⟨by omega,by simpa using hit,p⟩ (by omega) dJ HC λmf h' tk Ha aK nR cU hsz aL=>?_
  have ex:mf=u:=by
   have:=Ha.2;rw[Nat.add_sub_cancel,<- Array.getElem?_toList] at this;rw[show (its.toArray).toList=its from rfl,b1] at this;exact (fN this).symm
  subst ex;refine⟨_,rfl,wpAny_letOwnedTupleGo_enum aK λar oQ g0=>?_⟩;have ya:e<s.heap.objs.size:=c2 he;have Hu:it<s.heap.objs.size:=by obtain⟨o,jv,_⟩:=hit;exact c2 jv
  have k2:∀b o,b≠e->b≠it->s.heap.get? b=some o->ar.get? b=some o:=λb o ah bk q=>g0.extBut b o ah (aL b o ah bk q);have fr:H s.heap.objs.size=none:=I.bF.fresh (dy _);have Hc:ar.get? s.heap.objs.size=some {cls:=.type "tuple",data:=.seq #[.int ((i+1:Nat):Int) tk,mf]}:=g0.extBut _ _ (hO ya) cU;have oY:∀b o,H b=some o->b≠e/\b≠it:=λb o q=>⟨λz=>(by rw[z,f0] at q;cases q),λz=>(by rw[z,pU] at q;cases q)⟩;have HF:eL X.prog X.w (upd H s.heap.objs.size (.tup [.int ((i+1:Nat):Int),x])) ar:=by
   intro b o q;by_cases af:b=s.heap.objs.size
   ·subst af;rw[dU] at q;cases q;exact⟨by show 2<=cn;decide,[.int ((i+1:Nat):Int) tk,mf],.cons ⟨tk,rfl⟩ (.cons cY .nil),⟨_,Hc,rfl,_,rfl⟩⟩
   ·rw[cR af] at q;refine (I.bF b o q).jY (λc v dx eO=>k2 c v ?_ ?_ eO) (λc eO=>?_) λc ys eO=>?_
    ·rcases dx with rfl|dx
     ·exact (oY _ _ q).1
     ·exact (oY _ _ dx).1
    ·rcases dx with rfl|dx
     ·exact (oY _ _ q).2
     ·exact (oY _ _ dx).2
    ·rw[cR (jm eO fr)];exact eO
    ·rw[cR (jm eO fr)];exact eO
  have cq:bu.Inv X ak σ (upd H s.heap.objs.size (.tup [.int ((i+1:Nat):Int),x])) {s with heap:=ar,toks:=tk+1}:=by
   refine I.step (g':=s.gens) (d':=s.drawn) (ch:=[e,it]) (λb af=>?_) (λb o _ _ dx q _=>k2 b o (λz=>dx (by simp[z])) (λz=>dx (by simp[z])) q) (λb o _ _ dx q _=>⟨o.slots,k2 b o (λz=>dx (by simp[z])) (λz=>dx (by simp[z])) q⟩) (λb o _ q n=>?_)
    (λb o dx q=>⟨o,k2 b o (λz=>dx (by simp[z])) (λz=>dx (by simp[z])) q⟩) (λb ys q=>by rw[cR (jm q fr)];exact q) (λb o u q=>by rw[cR (jm q fr)];exact q) (λb ps q=>⟨#[],by rw[cR (jm q fr),q];simp⟩) (λm hm=>?_) HF I.bare
   ·rcases cN.mp af with rfl|af
    ·exact⟨i',f1,f4,ja⟩
    ·have:b=it:=by simpa using af
     subst this;exact⟨g3,g1,t2,nJ⟩
   ·rw[cR (eQ (c2 q))];exact n
   ·obtain⟨o,ju,ep,jv,r⟩:=hm;exact⟨o,ju,ep,k2 _ o (Ne.symm f1) (Ne.symm g1) jv,r⟩
  refine⟨.ref s.heap.objs.size,_,cq,rfl,⟨s.heap.objs.size,x,fr,rfl,rfl,λys a7=>by rw[I.KQ a7 aX];exact hx⟩,⟨⟨_,by have:=oQ;simpa using this⟩,(show h'.IsTupleIter it a (i+1) by simpa using nR.2.1).at λo q=>(g0.2 it dJ.symm).trans q⟩,λb af=>?_⟩
  rcases cN.mp af with rfl|af
  ·rw[cR (eQ ya)];exact f0
  ·have:b=it:=by simpa using af
   subst this;rw[cR (eQ Hu)];exact pU
 done:=by
  intro X fC hw iO ax i ak s σ H E I hf st bg;subst fC hw iO;obtain⟨xs,aX,hx⟩:=bg;obtain⟨its,bW,p,au⟩:=I.tuple aX;obtain⟨⟨old,he⟩,hit⟩:=st;obtain⟨pU,g1,g2,g3,t2,nJ⟩:=hf it (by simp);have cU:s.TypeIs (.ref e) "enumerate":=⟨_,he,rfl⟩;have aI:=bW.length;unfold pyNext;refine aO (wpAny_attempt (sP (name:=Str.ofString "__next__") cU F.slot_enumerate_next
   (rh F.slot_enumerate_next cU F.entry_enumerate_next ?_ (F.args_enumerate_next_1 _))))
  show a0 _ _ (field (.ref e) 2 >>= _) _ _ _
  refine aO (ib he rfl (x:=.ref it) rfl ?_)
  refine aO (K' (I.ok.hd ax) hit (show s.heap.IsTuple a its.toArray from p) (by simp;omega) λh' x lz kh=>?_)
  obtain⟨o,aK,dx⟩:=kh;refine aO (wpAny_isInstance (T:="StopIteration") (b:=true) ⟨o,aK,dx⟩ isSubtype_stop ?_);exact bX ⟨rfl,I.turned (t':=s.toks) (λb o af q=>lz b o af q) pU g1 g3 t2 nJ⟩
 self:=λ_ _ _ _ _ st h=>by
  obtain⟨⟨old,he⟩,_⟩:=st;exact wpAny_pyIter_enum he h
noncomputable def _D(K:a')(cy:fH):TI:=λσ H R=>cy σ H λvs H1=>∃a xs,vs=[.ref a]/\c' K H1 a xs/\R (EJ K a) H1
noncomputable def tn(ts:List T):List T:=ts.zipIdx.map λp=>.tuple [.int ((p.2+1:Nat):Int),p.1]
noncomputable def w5(f:lX):lX:=λai=>(f ai).map tn
section
variable {X:aY}{es:List bt}{k ho:Nat}{p pos eN pc wb:Pos}{a:bt}{f:bY}
def ajq{cy:fH}(bg:dZ X "enumerate")(hm:X.mg "enumerate"=none)(aA:fR X [a] cy)(az:a9 [a] X.env=[(false,eval a X.env)]:=by rfl)(g0:a9 [a] X.env=(false,eval a X.env)::a9 [] X.env:=by rfl):qB X (.Tuple es k eN) (.Call (.Name "enumerate" p) [a] [⟨some "start",.Constant (.int 1) ho pc,wb⟩] pos) (_D X.K cy):=by
 intro ak s σ H R I h;refine nc (pv I bg hm PyProof.Rows.boot_enumerate (cw_kw (cH (aA pos ak s σ H _ I h) λus s0 ⟨vs,H1,EE,a_,aP⟩=>kws_cons (cH ((show b0 X (.Constant (.int 1) ho pc) (jH (.int 1)) from Eb) ak s0 σ H1 (λy bw=>y=.int 1/\bw=H1) EE ⟨rfl,rfl⟩) λsv s1 ⟨y,bw,ba,adU,fI,hk⟩=>kws_nil ?_)) (by rw[g0];rfl) (by rw[az];rfl)));subst fI hk;obtain⟨afe,rfl⟩:=adU;obtain⟨a,xs,rfl,aX,q⟩:=aP;show a0 _ _ (call (.type "enumerate") us [("start",.int 1 afe)]) _ _ _;cases a_ with
|cons r m1=>
  cases m1
  cases r
  obtain⟨its,bW,pl,au⟩:=ba.tuple aX;have x8:a<s1.heap.objs.size:=by obtain⟨o,aK,_⟩:=pl;exact c2 aK
  refine ahV (show s1.heap.IsTuple a its.toArray from pl) λh' he hit hsz aL=>wpAny_pyIter_enum he ?_
  refine⟨s1.heap.objs.size+1,[s1.heap.objs.size+1,s1.heap.objs.size],_,_,bw,rfl,ba.kept (t':=s1.toks) aL,ahl a s1.heap.objs.size (s1.heap.objs.size+1) (Nat.succ_ne_self _) (eQ x8) (eQ (Nat.lt_succ_of_lt x8)),⟨⟨_,he⟩,hit⟩,λb af=>?_,q⟩
  have jS:s1.heap.objs.size<=b:=by
   rcases cN.mp af with rfl|af
   ·exact qd _
   ·have:b=s1.heap.objs.size:=by simpa using af
    rw[this];exact dy _
  exact ba.vQ jS (ba.bF.fresh jS)
def ahI{K:a'}{a:aj}{a6:aj->Prop}{H1:aB}{ts:List T}{vs:List V}(ay:c' K H1 a vs)(q:bB K a6 H1 ts vs):rK K (EJ K a) a6 H1 (tn ts) where
 go:=λi F H t aG d e=>by
  have aQ:=(gU.mp e).1;simp only[tn,f5,List.length_zipIdx] at aQ;obtain⟨v,ah,_⟩:=q.get (iZ aQ);exact⟨vs,v,aG.tup _ _ ay,ah⟩
 ph:=λi F H t x ag aG d e y=>by
  obtain⟨p,v,aM,rfl,rfl,y⟩:=y;have aQ:=(gU.mp e).1;simp only[tn,f5,List.length_zipIdx] at aQ;obtain⟨hM,ah,ar⟩:=(q.aG aG).get (iZ aQ);have bk:=y vs (aG.tup _ _ ay);rw[ah] at bk;cases bk;have aS:=Ext.laid (o:=.tup [.int ((i+1:Nat):Int),v]) d aM;refine⟨F,aS,?_⟩;have bU:t=.tuple [.int ((i+1:Nat):Int),ts[i]]:=by
   simp only[tn,kp,List.getElem?_zipIdx,iZ aQ] at e;simpa using e.symm
  subst bU;simp only[Rep];exact⟨p,_,rfl,c'.of dU,bB.cons (by simp[Rep]) (bB.cons (ar.ext aS) bB.nil)⟩
 stop:=λi F H aG aI=>⟨vs,aG.tup _ _ ay,by
  simp only[tn,f5,List.length_zipIdx] at aI;rw[<- q.length];exact aI⟩
def akQ(hm:X.mg "enumerate"=none)(aA:cO X a f)(bg:dZ X "enumerate":=by rfl)(az:a9 [a] X.env=[(false,eval a X.env)]:=by rfl)(g0:a9 [a] X.env=(false,eval a X.env)::a9 [] X.env:=by rfl):
  pG X (.Tuple es k eN) (.Call (.Name "enumerate" p) [a] [⟨some "start",.Constant (.int 1) ho pc,wb⟩] pos) (w5 (hU f)):=Aa (ajq bg hm (e3 aA hb g0) az g0) λσ H R ⟨aJ,aT,O,F,ai,ts,r,e,k⟩=>by
 simp only[w5,hU,dR,cf] at e;obtain⟨us,⟨t,bU,e⟩,rfl⟩:=e;split at e
 ·cases e
  refine⟨aJ,aT,O,F,ai,_,r,bU,λv aE ag x q=>?_⟩
  simp only[Rep] at q;obtain⟨a,vs,rfl,az,ay⟩:=q;exact⟨a,vs,rfl,az,k _ aE ag x (ahI az ay)⟩
 ·cases e
end
section
variable {X:aY}{e:bt}{f:bY}{pos:Pos}
noncomputable def YU(i:Nat)(f:bY):bK:=λai=>match ai[i]? with
|some (some (.own ts))=>(f ai).bind λt=>match t with
  |.tuple us=>if ts.length+us.length<=big then some (.bG (ai.set i (some (.own (ts++us))))) else none
  |_=>none
|_=>none
end
end
section
def ahZ{pos:Pos}{c cv:ao}{a b:Int}(l:List ao)(h:TriplesOk l)(e:codeAmong pos (l++[gW a,gW b,c])=some cv):codeAmong pos l=some cv\/cv=c:=by
 fun_induction TriplesOk l with
|case1=>
  simp only[rd,codeAmong,gW] at e;split at e
  ·exact .inr (fN e).symm
  ·cases e
|case2 kF t anJ u x rest bM=>
  simp only[rf,codeAmong] at e ⊢;split at e
  next ax=>rw[if_pos ax];exact .inl e
  next ax=>rw[if_neg ax];exact bM h e
|case3 _ _ _=>exact h.elim
noncomputable def ny(mg:Str->Option ao)(h:bL):Prop:=∃bm dA,mg "__builtins__"=some (.ref bm)/\bm≠builtinsNs/\h.get? bm=some dA/\dA.cls=.type "module"/\dA.dict=some builtinsNs/\dA.data=.plain
noncomputable def nT(o:Obj)(q:aj):ed:=.ext λh=>h.get? q=some o
noncomputable def tS(c:aj)(q:Str):ed:=.ext λh=>h.CodeRec (.ref c) q
variable [cD]
def Mf{X:aY}{ak:List (aj×Obj)}{σ:bu.St}{H:aB}{s:aH}{params:Arguments}{body:bt}{scope:Scope}{hI:Pos}{c P:aj}{f':List (Str×aj)}{Q:ao->aH->Prop}(I:Inv X ak σ H s)
  (qS:X.env.code=.ref c) (C:PySem.W.CodeHd X.base c P) (iR:ny X.mg X.base) (se:defaultsOf params X.env=([],[])) (pW:closureFor scope X.env=pure f')
  (d:nC H) (de:(P,X.env.qual++"<lambda>")∈cD.de) (un:∀p∈cD.de,p.1=P->p.2=X.env.qual++"<lambda>")
  (h:∀(q bZ:aj) (gJ:ao) (ag:aB) (s':aH),Inv X ak σ ag s'->j7 H ag->nC ag->H q=none->ag q=some (nT (unop%Wg 0) q) ->
   ag bZ=some (tS bZ (unop%WS 0))->Q (.ref q) s'):
  a0 (unop%Wk 0) X.A (eval (.Lambda params body scope hI) X.env) Q X.di s:=by
 obtain⟨ps,e1,bp,bg⟩:=d _ de;have fC:s.heap.get? P=some (PySem.W.tabObj ps):=I.bF P _ e1;have ns:s.heap.Ns iY X.mg:=I.ok.mod.glob.keeps I.gI;obtain⟨bm,dA,b6,b7,dO,kI,qH,oE⟩:=iR;have xN:=I.gI _ _ dO;have ZN:iY≠P:=λz=>by
  obtain⟨o,es,ep,e,hd,_⟩:=ns;rw[z,fC] at e;cases e;cases hd
 have Zo:bm≠P:=λz=>by
  rw[z,fC] at xN;cases xN;cases kI
 have Zn:bm≠iY:=λz=>by
  obtain⟨o,es,ep,e,hd,_⟩:=ns;rw[z,e] at xN;cases xN;rw[hd] at oE;cases oE
 have af:s.heap.BuiltinsAt X.mg P:=⟨bm,dA,b6,b7,Zn,Zo,xN,kI,qH,oE⟩;have pC:=C.keeps I.gI;refine PySem.W.kla_eval se ?_;cases hf:codeAmong hI ps.toList with
|some cv=>
  obtain⟨bZ,rfl,dx⟩:=bg hI cv hf;refine PySem.W.kla_makeFunctionHit pW I.ok.glob ns qS pC fC bp hf af λgJ h' tk k hsz=>?_;have fr:H h'.objs.size=none:=I.bF.fresh hsz;refine h h'.objs.size bZ gJ (upd H h'.objs.size (nT _ h'.objs.size)) _ (I.laid (t':=tk) (λb u e=>cQ _ (k b u e)) hsz ⟨fx _ rfl,⟨_,fx _ rfl⟩,λah ar aw aN=>aN _ aw⟩)
   (λb o e=>.inl (by rw[cR (jm e fr)];exact e)) (d.new fr) fr dU (by rw[cR (jm dx fr)];exact dx)
|none=>
  refine PySem.W.kla_makeFunction pW I.ok.glob ns qS pC fC bp hf ZN af λbZ gJ h' tk hx Bk d7 Pp oU=>?_
  have OW:H h'.objs.size=none:=I.bF.fresh (h9 Bk (Nat.le_of_lt d7));have YZ:H bZ=none:=I.bF.fresh Bk;have W':bZ≠h'.objs.size:=eQ d7;have uw:∀b o,H b=some o->b≠bZ:=λb o e=>jm e YZ;have PU:∀b o,H b=some o->b≠h'.objs.size:=λb o e=>jm e OW;have V3:=uw P _ e1;have V4:=PU P _ e1
  let ag:aB:=upd (upd (upd H P (.iA (ps++#[gW hI.line,gW hI.col,.ref bZ]))) bZ (tS bZ (unop%WS 0))) h'.objs.size (nT (unop%Wg 0) h'.objs.size)
  have OR:ag h'.objs.size=some (nT (unop%Wg 0) h'.objs.size):=dU;have Gy:ag bZ=some (tS bZ (unop%WS 0)):=by show upd _ _ _ _=_;rw[cR W',dU]
  have AN:ag P=some (.iA (ps++#[gW hI.line,gW hI.col,.ref bZ])):=by show upd _ _ _ _=_;rw[cR V4,cR V3,dU]
  have Gx:∀b,b≠P->b≠bZ->b≠h'.objs.size->ag b=H b:=λb eA fE q3=>by show upd _ _ _ _=_;rw[cR q3,cR fE,cR eA]
  have kK:∀b o,H b=some o->b≠P->ag b=some o:=λb o e n=>by rw[Gx b n (uw b o e) (PU b o e)];exact e
  have aG:∀b o,b≠P->s.heap.get? b=some o->(h'.push (unop%Wg 0)).get? b=some o:=λb o n e=>cQ _ (hx b o n e);have uv:∀b,H b=none->b≠P:=λb e z=>by rw[z,e1] at e;cases e
  have n1:j7 H ag:=λb o e=>by
   by_cases z:b=P
   ·subst z;rw[e1] at e;cases e;exact .inr ⟨_,_,rfl,AN⟩
   ·exact .inl (kK b o e z)
  refine h h'.objs.size bZ gJ ag _ (I.un (t':=tk) ⟨λb o e n _ _=>aG b o (uv b n) e,λb o e n _ _=>⟨o.slots,aG b o (uv b n) e⟩,λb o e n _=>?_,λb o e _=>?_,λb xs e=>kK b _ e λz=>by (rw[z,e1] at e;cases e),λb o u e=>kK b _ e λz=>by (rw[z,e1] at e;cases e),λb mZ e=>?_⟩ λa o e=>?_) n1 (λp aM=>?_) OW OR Gy
  ·have lt:=c2 e;rw[Gx b (uv b n) (eQ (i0 lt Bk)) (eQ (Nat.lt_trans (i0 lt Bk) d7))];exact n
  ·by_cases z:b=P
   ·subst z;exact⟨_,cQ _ oU⟩
   ·exact⟨o,aG b o z e⟩
  ·by_cases z:b=P
   ·subst z;rw[e1] at e;cases e;exact⟨_,AN⟩
   ·exact⟨#[],by rw[kK b _ e z];simp⟩
  ·by_cases pj:a=h'.objs.size
   ·subst pj;rw[OR] at e;cases e;exact⟨fx _ rfl,⟨_,fx _ rfl⟩,λah ar aw aN=>aN _ aw⟩
   by_cases gD:a=bZ
   ·subst gD;rw[Gy] at e;cases e;refine⟨Pp.at λo e=>cQ _ e,?_,λah ar aw aN=>aw.at aN⟩;obtain⟨dp,o,vs,t,aN,aK,_⟩:=Pp;cases aN;exact⟨o,cQ _ aK⟩
   by_cases zv:a=P
   ·subst zv;rw[AN] at e;cases e;exact cQ _ oU
   ·rw[Gx a zv gD pj] at e;refine (I.bF a o e).jY (λb u af q=>aG b u ?_ q) (λb q=>kK b _ q λz=>by (rw[z,e1] at q;cases q)) λb xs q=>kK b _ q λz=>by (rw[z,e1] at q;cases q)
    rcases af with rfl|af
    ·exact zv
    ·exact λz=>by rw[z,e1] at af;cases af
  ·by_cases z:p.1=P
   ·have aN:=un p aM z;obtain⟨lC,eN⟩:=p;simp only at z aN;subst z aN;refine⟨_,AN,by rw[Array.toList_append];exact TriplesOk_snoc _ _ _ _ bp,λpos cv e=>?_⟩;rw[Array.toList_append] at e;rcases ahZ _ bp e with e|e
    ·obtain⟨dp,aw,aN⟩:=bg pos cv e;exact⟨dp,aw,kK _ _ aN λz=>by (rw[z,e1] at aN;cases aN)⟩
    ·exact⟨bZ,e,Gy⟩
   ·obtain⟨mZ,aP,bf,dc⟩:=d p aM;refine⟨mZ,kK _ _ aP z,bf,λpos cv e=>?_⟩;obtain⟨dp,aw,aN⟩:=dc pos cv e;exact⟨dp,aw,kK _ _ aN λz=>by (rw[z,e1] at aN;cases aN)⟩
end
section
variable [cD]
noncomputable def lq(qual:Str)(scope:Scope)(L q:aj)(cd:ao)(cl:List (Str×aj)):Env:=
 {scope:=scope,locals:=L,globals:=iY,cells:=cl,qual:=qual++".<locals>.",func:=some q,code:=cd,frame:=some L,builtins:=builtinsNs}
noncomputable def mL(P:cu)(w:b8)(K:a')(mg:Str->Option ao)(base:bL)(N:List Str)(qual:Str)(scope:Scope)(q:aj)(cd:ao)(cl:List (Str×aj))(A:cp)(outer:List Env)(s:aH)(H:aB):aY where
 prog:=P
 w:=w
 K:=K
 mg:=mg
 base:=base
 A:=A.deeper (lq qual scope s.heap.objs.size q cd cl)
 N:=N
 dm:=s
 aT:=H
 env:=lq qual scope s.heap.objs.size q cd cl
 outer:=outer
 stack:=lq qual scope s.heap.objs.size q cd cl::outer
 ex:=[]
 calm:=true
 fn:=λ_=>false
 du:=[]
 di:=λ_ _=>False
structure qs(N:List Str)(scope:Scope)(cl:List (Str×aj))(σ:bu.St)(H:aB)(h:bL):Prop where
 inj:∀x y c,cl.lookup x=some c->cl.lookup y=some c->x=y
 has:∀x,(scope.names.lookup x=some .cell\/scope.names.lookup x=some .free)->∃c,cl.lookup x=some c
 r2:∀x c,cl.lookup x=some c->(∃v,h.IsCell c v)/\H c=none
 len:σ.length=N.length
 val:∀(i:Nat) (x:Str) (v:V),N[i]?=some x->σ[i]?=some (some v)->oB scope x->∃u c,RelV v u/\scope.names.lookup x=some .free/\cl.lookup x=some c/\h.IsCell c (some u)
def Dv{h h':bL}{c:aj}{v:Option ao}(x:h.IsCell c v)(k:∀b o,h.get? b=some o->h'.get? b=some o):h'.IsCell c v:=by
 obtain⟨o,aK,hd⟩:=x;exact⟨o,k _ _ aK,hd⟩
section
variable {P:cu}{w:b8}{K:a'}{mg:Str->Option ao}{base:bL}{k:Nat}{q bZ:aj}{N:List Str}{qual:Str}{scope:Scope}{cd:ao}{cl:List (Str×aj)}{A:cp}{outer:List Env}{s:aH}{H:aB}{σ:bu.St}
def RG{ah:bL}{tk:Nat}{m:Str->Option ao}(aL:scope.kind=.function)(hd:A.handled=none)(bP:kA P w K mg base A outer s H)(C:qs N scope cl σ H s.heap)(l3:ah.Ns s.heap.objs.size m)(aG:∀b o,s.heap.get? b=some o->ah.get? b=some o):
  Inv (mL P w K mg base N qual scope q cd cl A outer s H) [] σ H {s with heap:=ah,toks:=tk}:=by
 have mY:∀b:aj,b∉(mL P w K mg base N qual scope q cd cl A outer s H).ex:=λb z=>absurd (show b∈([]:List aj) from z) (by simp);refine⟨⟨bP.mod,aL,rfl,rfl,dy _,C.inj,C.has,λy c hf _=>(by cases hf),λ_=>hd,Around.frames_deeper bP.frames,.inr ⟨rfl,rfl⟩,λb z=>absurd z (mY b),bP.bs,bP.mI,λb _ _=>mY b,λb z=>absurd z (mY b),bP.kb,bP.nI⟩,
  rfl,bP.bare,fV.kept aG,⟨m,l3,λi y v ah ar bk=>?_⟩,λy c h=>?_,bP.bF.fresh (dy _),λy c h=>(C.r2 y c h).2,λp aM=>absurd (show p∈([]:List (aj×Obj)) from aM) (by simp),bP.bF.kept aG,C.len⟩
 ·obtain⟨u,c,cY,hf,ax,hx⟩:=C.val i y v ah ar bk;exact⟨u,cY,.inr ⟨.inr hf,c,ax,Dv hx aG⟩⟩
 ·obtain⟨⟨v,bh⟩,_⟩:=C.r2 y c h;exact⟨v,Dv bh aG⟩
def aiE{params:Arguments}{body:bt}{pm gJ:ao}{f:jo}{Q:c0}{E:e5}(aL:scope.kind=.function)(nN:scope.isCoroutine=false)(nO:scope.isGenerator=false)(iv:∀x∈scope.names,x.2≠.cell)
  (af:∀(A:cp) (outer:List Env) (s:aH) (H:aB),c9 k (A.deeper (unop%WC 0))->oy (mL P w K mg base N qual scope q (.ref bZ) cl A outer s H) body f)
  (bd:bindArgs (PySem.W.kla_fn "<lambda>" qual params body scope cl pm (.ref bZ) gJ) ⟨[],[]⟩=pure [])
  (ay:c9 (k+1) A) (bP:kA P w K mg base A outer s H) (aX:H q=some (nT (PySem.W.kla_obj "<lambda>" qual params body scope cl pm bZ gJ) q)) (ax:H bZ=some (tS bZ qual)) (C:qs N scope cl σ H s.heap)
  (h:y9 K f σ H Q):hu (bA P w) A (.call (.ref q) ⟨[],[]⟩) (om dC outer P w H s Q E) s:=by
 have yH:s.heap.NoLimit:=bP.mod.nolimit.keeps λb o e=>(bP.bs b o e).1;refine PySem.W.kla_callFunE ay.depth (bP.bF q _ aX).1 rfl nN nO rfl (bP.bF bZ _ ax).1 ?_;rw[bd];refine bX (CV iv (λx hx=>by cases hx) (λe2 l3 oS=>⟨yH.fresh _ oS,?_⟩) aL);have aG:∀b o,s.heap.get? b=some o->e2.get? b=some o:=λb o e=>oS.extBut b o (eQ (c2 e)) (cQ _ e);show hu _ _ (.expr body (unop%WC 0)) _ _;refine PySem.W.kla_codeExpr ?_;have I:Inv (mL P w K mg base N qual scope q (.ref bZ) cl A outer s H) [] σ H {s with heap:=e2,toks:=s.toks+([]:List (Str×ao)).length}:=RG aL ay.hd bP C l3 aG;refine et (af A outer s H (ay.deeper _) [] _ σ H (λv ag=>Q v ag) I h) (λu s' az=>?_) λe s' az=>(show False from az).elim;obtain⟨v,ag,J,bW,Kj⟩:=az;exact⟨v,ag,J.os,J.bare,J.base,J.bF,bW,Kj⟩
end
end
section
variable [cD]
def SS{P:cu}{w:b8}{K:a'}{mg:Str->Option ao}{base:bL}{k:Nat}{x qual:Str}{st:Stmt}{f:aj}{fd:er}{N ps:List Str}{A:cp}{outer:List Env}{s:aH}{H:aB}{us:List ao}{vs:List V}{Q:c0}{E:e5}
  (F:cK K x qual st f fd) (S:cW N ps (bQ st)) (bd:f7 K fd ps []) (ay:c9 (k+1) A) (bP:kA P w K mg base A outer s H) (r:Vals vs us) (aI:vs.length=ps.length)
  (qQ:∀b3:ao,c9 k (unop%W5 0)->∃t,fS (unop%W3 0).d9 (fh st) t/\t {bG:=λ_ ag=>Q .d1 ag,dE:=Q} (start N vs) H):
  hu (bA P w) A (.call (.ref f) ⟨us,[]⟩) (om dC outer P w H s Q E) s:=by
 obtain⟨gQ,eB,dD,doc,pm,an,b3,cP,jW,rfl,lk,eg⟩:=F.ex;have _o:us.length=ps.length:=by rw[<- r.length];exact aI
 have la:K.In s.heap:=bP.mod.oX.keeps λb o e=>(bP.bs b o e).1;have lim:s.heap.NoLimit:=bP.mod.nolimit.keeps λb o e=>(bP.bs b o e).1;have af:=bd s us la (by rw[lO];exact _o);rw[lO] at af;have Hx:∀y∈ps.zip us,(bQ st).names.lookup y.1=some .local\/((bQ st).names.lookup y.1=some .cell/\((cellsFrom (unop%Wq 0) (bQ st).names []).lookup y.1).isSome=true):=λ⟨n,v⟩ a7=>by
  rcases S.par n (List.of_mem_zip a7).1 with q|q
  ·exact .inl q
  ·exact .inr ⟨q,PySem.W.cellsFrom_some _ _ _ (.inl q)⟩
 refine codeAny_call_function ay.depth (la _ _ lk) rfl S.co S.gen rfl (PySem.W.codeRec_of la eg) (af _ _ _ _ ?_)
 refine wpAny_newFunctionEnv_cells S.kind Hx λenv he s1 x=>?_
 subst he;refine⟨lim.keeps x.toInCall.keep,codeAny_func ?_⟩;obtain⟨t,bp,aX⟩:=qQ b3 (ay.deeper _);have I:Inv (unop%W3 0) [] (start N vs) H s1:=R7 S ay.hd bP aI r x;refine et (bp.d9 [] s1 (start N vs) H _ I aX) (λdt s' az=>?_) λe s' az=>az;have fin:∀{cj:bu.St} {ag:aB} {v:V} {u:ao},Inv (unop%W3 0) [] cj ag s'->RelV v u->Q v ag->Al outer P w H s Q u s':=
  λ{cj ag v u} J bW q=>⟨v,ag,J.os,J.bare,J.base,J.bF,bW,q⟩
 cases dt with
|ret u=>
  obtain⟨v,cj,ag,J,bW,q⟩:=az;exact fin J bW q
|next=>
  obtain⟨cj,ag,J,q⟩:=az;exact fin (v:=V.d1) (u:=Value.none) J rfl q
|brk=>
  obtain⟨_,_,_,q⟩:=az;exact d6 q
|cont=>
  obtain⟨_,_,_,q⟩:=az;exact d6 q
noncomputable def Uq(X:aY)(i:Nat):TE:=λσ H Q=>∃q,σ[i]?=some (some (.ref q))/\(∃(o:Obj) (fd:er),H q=some (nT o q)/\o.data=.func fd) /\
 ∀(ak:List (aj×Obj)) (s:aH),Inv X ak σ H s->hu (unop%Wk 0) X.A (.call (.ref q) ⟨[],[]⟩) (om dC X.stack X.prog X.w H s Q j_) s
def aku{X:aY}{i:Nat}{x:Str}{p pos:Pos}(bc:b0 X (.Name x p) (gS i)):b0 X (.Call (.Name x p) [] [] pos) (Uq X i):=by
 intro ak s σ H Q I ⟨q,aX,⟨o,fd,aK,Hq⟩,ax⟩;refine nc (cH (bc ak s σ H (λv H1=>v=.ref q/\H1=H) I ⟨.ref q,aX,rfl,rfl⟩) λv s1 hqq=>?_);obtain⟨y,H1,ba,bD,fI,hk⟩:=hqq;subst fI;subst hk;cases bD;have ck:PySem.W.FnAt q s1.heap:=by
  have ah:s1.heap.get? q=some o:=(ba.bF q _ aK).1;obtain⟨c,pL,qL,cG⟩:=o;cases Hq;exact⟨_,_,_,_,ah⟩
 refine PySem.W.callWith_F0 ck ?_
 refine qh (nd (ax ak s1 ba) λr s' aX=>?_)
 cases r with
|error e=>exact d6 aX
|ok dt=>
  cases dt with
  |ret u=>exact ba.after aX
  |next=>exact d6 aX
  |brk=>exact d6 aX
  |cont=>exact d6 aX
end
section
variable [cD]
def alw{X:aY}{body:List Stmt}{h₀:ExceptHandler}{az:List ExceptHandler}{pos:Pos}{t:fU}(af:fS X body t)(hx:X.di=λ_ _=>False:=by rfl):hY X (.Try body (h₀::az) [] [] pos) t:=by
 intro ak s σ H D I h;refine wpAny_Try_except (et (af ak s σ H D I h) (λf s1 az=>?_) λe s1 he=>?_)
 ·cases f with
  |next=>exact wpAny_execs_nil az
  |ret u=>exact az
  |brk=>exact az
  |cont=>exact az
 ·rw[hx] at he;exact he.elim
def R6{aF ex:List aj}{H ag:aB}{h h':bL}{c:aj}{v:Option ao}(u:fV aF ex H ag h h')(x:h.IsCell c v)(ax:H c=none)(he:c∉ex):h'.IsCell c v:=by
 obtain⟨o,aK,hd⟩:=x;by_cases hf:c∈aF
 ·obtain⟨cG,e⟩:=u.slot c o aK ax hf he;exact⟨_,e,hd⟩
 ·exact⟨o,u.keep c o aK ax hf he,hd⟩
def Tv{X:aY}{ak:List (aj×Obj)}{σ:bu.St}{H:aB}{s:aH}{scope:Scope}(I:Inv X ak σ H s)(iv:∀x∈scope.names,x.2≠.cell/\x.2≠.local)(gN:∀x∈scope.names,x.2=.free->X.env.scope.names.lookup x.1=some .cell):
  qs X.N scope (unop%WH 0) σ H s.heap:=by
 have aI:∀x∈scope.names,x.2=.free->∃c,X.env.cells.lookup x.1=some c:=λx hx hf=>I.ok.has x.1 (.inl (gN x hx hf));have fr:∀x c,(unop%WH 0).lookup x=some c->X.env.cells.lookup x=some c:=wN aI λx c e=>by cases e
 refine⟨λx y c ah ar=>I.ok.inj x y c (fr x c ah) (fr y c ar),λx h=>?_,λx c h=>⟨I.cell x c (fr x c h),I.ka x c (fr x c h)⟩,I.len,λi x v ah ar bk=>?_⟩
 ·rcases h with h|h
  ·obtain⟨y,a7,aw,aN⟩:=oc h;exact absurd aw (iv y a7).1
  ·obtain⟨y,a7,aw,aN⟩:=oc h;exact sX (.inl ⟨y,a7,aw,aN⟩)
 ·have hf:scope.names.lookup x=some .free:=by
   rcases bk with h|h|h
   ·obtain⟨y,a7,aw,_⟩:=oc h;exact absurd aw (iv y a7).2
   ·obtain⟨y,a7,aw,_⟩:=oc h;exact absurd aw (iv y a7).1
   ·exact h
  obtain⟨y,a7,aw,aN⟩:=oc hf;have aL:X.env.scope.names.lookup x=some .cell:=by rw[<- aN];exact gN y a7 aw
  obtain⟨m,_,bh⟩:=I.loc;obtain⟨u,cY,lk⟩:=bh i x v ah ar (.inr (.inl aL));obtain⟨c,ax⟩:=sX (env:=X.env) (l:=scope.names) (cs:=[]) (x:=x) (.inl ⟨y,a7,aw,aN⟩);refine⟨u,c,cY,hf,ax,?_⟩;rcases lk with ⟨Hw,_⟩|⟨_,dp,ke,hx⟩
  ·have:X.env.scope.names.lookup x=some .local:=Hw;rw[aL] at this;cases this
  ·rw[fr x c ax] at ke;cases ke;exact hx
noncomputable def Eg(f:jo):jo:=λai=>(f ai).map λr=>(.tuple [.str "told",r.1],r.2)
noncomputable def M9(Y:aY):fU:=CF (sI (wg (iB (jH (.str "told")) (iB (Uq Y 0) md))) (tm 1)) (Qu (gS 1))
def ak6{X:aY}{k:Nat}{x:Str}{st:Stmt}{ck:aj}{fd:er}{m7 o_:Str}{EP:List Str}{params:Arguments}{body:bt}{scope:Scope}{hI p pos:Pos}{c jr:aj}{f:jo}
  (F:cK X.K x x st ck fd) (S:cW (m7::o_::EP) [m7] (bQ st)) (bd:f7 X.K fd [m7] []) (hm:X.mg x=some (.ref ck))
  (bp:∀(b3:ao) (A:cp) (outer:List Env) (s:aH) (H:aB),fS (fm dC X.prog X.w X.K X.mg X.base (m7::o_::EP) x (bQ st) ck b3 A outer s H j_).d9 (fh st) (M9 (fm dC X.prog X.w X.K X.mg X.base (m7::o_::EP) x (bQ st) ck b3 A outer s H j_).d9))
  (qS:X.env.code=.ref c) (C:PySem.W.CodeHd X.base c jr) (iR:ny X.mg X.base) (de:(jr,X.env.qual++"<lambda>")∈cD.de) (un:∀p∈cD.de,p.1=jr->p.2=X.env.qual++"<lambda>")
  (aL:scope.kind=.function) (nN:scope.isCoroutine=false) (nO:scope.isGenerator=false) (iv:∀x∈scope.names,x.2≠.cell/\x.2≠.local) (gN:∀x∈scope.names,x.2=.free->X.env.scope.names.lookup x.1=some .cell)
  (vG:∀(cl:List (Str×aj)) (pm:ao) (bZ:aj) (gJ:ao),bindArgs (PySem.W.kla_fn "<lambda>" (unop%WS 0) params body scope cl pm (.ref bZ) gJ) ⟨[],[]⟩=pure [])
  (ay:c9 (k+2) X.A)
  (af:∀(q bZ:aj) (cl:List (Str×aj)) (A:cp) (outer:List Env) (s:aH) (H:aB),c9 k (unop%Ws 0)->oy (mL X.prog X.w X.K X.mg X.base X.N (unop%WS 0) scope q (.ref bZ) cl A outer s H) body f)
  (bg:dZ X x:=by rfl) (fD:(x==("__debug__":Str))=false:=by decide) (se:defaultsOf params X.env=([],[]):=by rfl)
  (he:a9 [.Lambda params body scope hI] X.env=(false,eval (.Lambda params body scope hI) X.env)::a9 [] X.env:=by rfl):
  oy X (.Call (.Name x p) [.Lambda params body scope hI] [] pos) (Eg f):=by
 intro ak s σ H Q I ⟨aJ,E,O,aE,ai,t,ε',r,e,b9⟩;simp only[Eg,dR] at e;obtain⟨⟨t0,ij⟩,r6,e⟩:=e;cases e;refine nc (vh I bg hm ?_ fD);refine PySem.W.callWith_K (h₀:=X.base) I.ok.mod.oX F.aG ?_ he rfl;rw[he];show a0 _ _ (spliced ((false,eval (.Lambda params body scope hI) X.env)::[])) _ _ s;have aI:∀x∈scope.names,x.2=.free->∃c,X.env.cells.lookup x.1=some c:=λx hx hf=>I.ok.has x.1 (.inl (gN x hx hf));refine Calls.spliced_cons (Mf I qS C iR se (Dn aI) r.cb.m4 de un λq bZ gJ H1 s1 ba n1 y_ vX aX ax=>Calls.spliced_nil ⟨ba.jU,?_⟩);have aS:Ext aE H aE H1:=⟨n1,λ_ h=>h,λ_ h=>.inl h,⟨λa aA=>by
  obtain⟨o,aK⟩:=r.cb.vH a aA;exact n1.ne aK,y_⟩⟩
 have fin:hu (unop%Wk 0) X.A (.call (.ref ck) ⟨[.ref q],[]⟩) (om dC X.stack X.prog X.w H1 s1 Q j_) s1:=by
  refine SS (k:=k+1) (vs:=[.ref q]) F S bd ay ba.tX (.cons rfl .nil) rfl λb3 qY=>⟨_,bp b3 X.A X.stack s1 H1,?_⟩
  refine⟨q,rfl,⟨_,_,aX,rfl⟩,λCi s2 cq=>?_⟩
  have caps:qs X.N scope (unop%WH 0) σ H1 s2.heap:=by
   have cT:=Tv ba iv gN;have aG:∀{a:aj} {v:Option ao},s1.heap.IsCell a v->H1 a=none->s2.heap.IsCell a v:=λ{a v} z n=>R6 cq.base z n (by intro z;exact absurd (show a∈([]:List aj) from z) (by simp));refine⟨cT.inj,cT.has,λx c h=>?_,cT.len,λi x v ah ar bk=>?_⟩
   ·obtain⟨⟨v,bh⟩,bc⟩:=cT.r2 x c h;exact⟨⟨v,aG bh bc⟩,bc⟩
   ·obtain⟨u,c,cY,hf,ke,hx⟩:=cT.val i x v ah ar bk;exact⟨u,c,cY,hf,ke,aG hx (cT.r2 x c ke).2⟩
  refine aiE aL nN nO (λx hx=>(iv x hx).1) (af q bZ _) (vG _ _ _ _) qY cq.tX aX ax caps ?_
  refine⟨aJ,E,O,aE,ai,t0,ij,r.ext aS,r6,λv dr bw p2 b_ bW=>?_⟩
  refine⟨by show 2<=cn;decide,λpp aM=>⟨.ref pp,rfl,?_⟩⟩
  have g_:=Ext.laid (o:=.tup [.str "told",v]) b_.cb aM;refine b9 _ dr _ ((aS.aG.trans p2).trans g_.aG) (b_.ext g_) ?_;simp only[Rep];exact⟨pp,_,rfl,c'.of dU,bB.cons (by simp[Rep]) (bB.cons (bW.ext g_) bB.nil)⟩
 refine qh (nd fin λr s' aX=>?_)
 cases r with
|error e=>exact d6 aX
|ok dt=>
  cases dt with
  |ret u=>exact ba.after aX
  |next=>exact d6 aX
  |brk=>exact d6 aX
  |cont=>exact d6 aX
end
section
noncomputable def Ew(ts:List aj)(H:aB):Prop:=(∀b,H b=none\/(∃o xs,H b=some (.oP o (.lst xs)))\/(b∈ts/\H b=some (.iA #[])))/\∀b∈ts,H b=some (.iA #[])
def aiB{P:cu}{w:b8}{K:a'}{mg l8:Str->Option ao}{ei:mD}{k:Nat}{ck a:aj}{fd:er}{x:Str}{sp:kD}{cZ:aH}{vs:List ao}{ns:List Int}{ts:List aj}
  (la:K.In cZ.heap) (p0:∀b∈ts,cZ.heap.get? b=some (PySem.W.tabObj #[])) (x5:∀b∈ts,K.lookup b=none) (eg:∀b∈ts,∃c,ri K c b=true)
  (l3:cZ.heap.Ns iY mg) (af:cZ.heap.Ns builtinsNs l8) (Zr:∀x:Str,x≠"__name__"->l8 x=bootBuiltins x) (ZW:cZ.heap.NoLimit) (bg:cZ.gens=#[])
  (aA:cZ.heap.get? a=some {cls:=.type "list",data:=.seq vs.toArray}) (aQ:IntsAre vs ns) (aI:ns.length<=cn) (ay:c9 k callerA)
  (iR:ny mg cZ.heap) (F:∀base:bL,K.In base->base.Ns iY mg->ny mg base->eY P w K mg base ei k ck fd [x] sp) (Zs:∀(s:aH) (u:ao),BindsTo s fd ⟨[u],[]⟩ [(x,u)])
  (sk:∀H:aB,Ew ts H->fi K H a (ns.map V.int)->sp [.ref a] H (λv _=>v=.b5 true) λ_ _ _=>False)
  (G9:∀H e s',ei [] H cZ (λ_ _ _=>False) e s'->False):
  hu (bA P w) callerA (.call (.ref ck) ⟨[.ref a],[]⟩) (λr s'=>r=.ok (.ret (.bool true))/\OldK cZ.heap s'.heap/\s'.os=cZ.os/\AllBare s'.gens) cZ:=by
 have bW:=RS aQ;have aaO:=aQ.length;have nat:a∉ts:=λz=>by
  have:=p0 a z;rw[aA] at this;cases this
 have core:∀H:aB,Ew ts H->fi K H a (ns.map V.int)->eL P w H cZ.heap->(∀b,H b≠none->b=a\/b∈ts)->(H a≠none->K.lookup a=none) ->
   hu (bA P w) callerA (.call (.ref ck) ⟨[.ref a],[]⟩) (λr s'=>r=.ok (.ret (.bool true))/\OldK cZ.heap s'.heap/\s'.os=cZ.os/\AllBare s'.gens) cZ:=by
  intro H kM dP bF anV iO;have FE:∀{b:aj} {o:Obj},cZ.heap.get? b=some o->H b=none->(pY cZ.heap H).get? b=some o:=λe n=>ajO e n;have mY:∀{b:aj} {o:Obj} {es:Array DictEntry} {ep:Nat},cZ.heap.get? b=some o->o.data=.dict es ep->H b=none:=λ{b o es ep} e d=>by
   cases q:H b with
   |none=>rfl
   |some u=>
    rcases anV b (by rw[q];simp) with bx|bx
    ·subst bx;rw[aA] at e;cases e;have d':Data.seq vs.toArray _=Data.dict es ep:=d;cases d'
    ·rw[p0 b bx] at e;cases e;have d':Data.fields _=Data.dict es ep:=d;cases d'
  have Cb:∀{b:aj} {m:Str->Option ao},cZ.heap.Ns b m->(pY cZ.heap H).Ns b m:=λ{b m} ⟨o,es,ep,e,d,r⟩=>⟨o,es,ep,FE e (mY e d),d,r⟩;have O0:K.In (pY cZ.heap H):=λb o e=>FE (la b o e) (by
   cases q:H b with
   |none=>rfl
   |some u=>
    rcases anV b (by rw[q];simp) with bx|bx
    ·subst bx;rw[iO (by rw[q];simp)] at e;cases e
    ·rw[x5 b bx] at e;cases e)
  have Zt:ny mg (pY cZ.heap H):=by
   obtain⟨bm,dA,b6,b7,dO,kI,qH,oE⟩:=iR;refine⟨bm,dA,b6,b7,FE dO ?_,kI,qH,oE⟩;cases q:H bm with
   |none=>rfl
   |some u=>
    rcases anV bm (by rw[q];simp) with bx|bx
    ·subst bx;rw[aA] at dO;cases dO;cases oE
    ·rw[p0 bm bx] at dO;cases dO;cases oE
  have Zc:Mod K mg (pY cZ.heap H):=⟨O0,Cb l3,⟨l8,Cb af,Zr⟩,let ⟨mc,ah,ar⟩:=ZW;⟨mc,Cb ah,ar⟩⟩;have bP:kA P w K mg (pY cZ.heap H) callerA [] cZ H:=⟨rfl,Zc,λb o e=>akG e,Nat.le_of_eq (aiM _ _),trivial,λb af=>absurd (show b∈([]:List aj) from af) (by simp),bF,.of_eq bg⟩;refine nd ((F _ O0 (Cb l3) Zt).run callerA [] cZ H ⟨[.ref a],[]⟩ [.ref a] [.ref a] _ _ ay bP (Zs cZ (.ref a)) (.cons rfl .nil) (sk H kM dP)) λr s' h=>?_;cases r with
  |error e=>exact (G9 H e s' h).elim
  |ok dt=>
   cases dt with
   |next=>exact d6 h
   |brk=>exact d6 h
   |cont=>exact d6 h
   |ret u=>
    obtain⟨v,ag,os,bare,un,Pn,cm,q⟩:=h;have eO:v=.b5 true:=q;subst eO;obtain rfl:u=Value.bool true:=cm;refine⟨rfl,⟨λb o e=>?_,λb o e=>un.there b o e (by simp)⟩,os,bare⟩;cases q:H b with
    |none=>exact .inl (un.keep b o e q (by intro z;exact absurd (show b∈([]:List aj) from z) (by simp)) (by simp))
    |some u=>
     rcases kM.1 b with z|⟨dA,xs,z⟩|⟨O4,z⟩
     ·rw[q] at z;cases z
     ·have gD:=un.kL b dA _ z;obtain⟨aw,_⟩:=bF b _ z;obtain⟨aN,_⟩:=Pn b _ gD;rw[e] at aw;cases aw;exact .inl aN
     ·obtain⟨more,gD⟩:=un.kQ b _ z;have aN:s'.heap.get? b=some (PySem.W.tabObj (#[]++more)):=Pn b _ gD;have aw:=p0 b O4;rw[e] at aw;cases aw;obtain⟨c,ax⟩:=eg b O4;exact .inr (.inl ⟨((PySem.W.codeHd_of_K la ax).tab e).isCodeTable,rfl,#[],more,rfl,aN⟩)
 cases aL:K.lookup a with
|some o=>
  have e:=la a o aL;rw[aA] at e;cases e;refine core (λb=>if b∈ts then some (.iA #[]) else none) ⟨λb=>?_,λb af=>if_pos af⟩ (.inr ⟨_,vs.toArray,_,aL,rfl,rfl,rfl,by rw[eW,aaO];exact aI,by simpa using bW⟩) (λb u z=>?_) (λb z=>?_) λz=>?_
  ·by_cases af:b∈ts
   ·exact .inr (.inr ⟨af,if_pos af⟩)
   ·exact .inl (if_neg af)
  ·by_cases af:b∈ts
   ·have i3:=(if_pos af).symm.trans z;cases i3;exact p0 b af
   ·have i3:=(if_neg af).symm.trans z;cases i3
  ·by_cases af:b∈ts
   ·exact .inr af
   ·exact absurd (if_neg af) z
  ·exact absurd (if_neg nat) z
|none=>
  refine core (λb=>if b=a then some (.oP {cls:=.type "list",data:=.seq vs.toArray} (.lst (ns.map V.int))) else if b∈ts then some (.iA #[]) else none) ⟨λb=>?_,λb af=>?_⟩ (.inl (.inr ⟨{cls:=.type "list",data:=.seq vs.toArray},if_pos rfl⟩)) (λb u z=>?_) (λb z=>?_) λ_=>aL
  ·by_cases af:b=a
   ·exact .inr (.inl ⟨_,_,if_pos af⟩)
   ·by_cases nM:b∈ts
    ·exact .inr (.inr ⟨nM,(if_neg af).trans (if_pos nM)⟩)
    ·exact .inl ((if_neg af).trans (if_neg nM))
  ·have ne:b≠a:=λz=>nat (z▸af);exact (if_neg ne).trans (if_pos af)
  ·by_cases af:b=a
   ·have i3:=(if_pos af).symm.trans z;cases i3;subst af;exact⟨aA,by rw[f5];exact aI,vs,_,bW,aA⟩
   ·by_cases nM:b∈ts
    ·have i3:=((if_neg af).trans (if_pos nM)).symm.trans z;cases i3;exact p0 b nM
    ·have i3:=((if_neg af).trans (if_neg nM)).symm.trans z;cases i3
  ·by_cases af:b=a
   ·exact .inl af
   ·by_cases nM:b∈ts
    ·exact .inr nM
    ·exact absurd ((if_neg af).trans (if_neg nM)) z
def ai_{l:PySem.W.OpenLaw}{n k:Nat}{q:cu}{loose:List Str}{vD:(Str->Option ao)->bL->Prop}{pI:b8->bL->Prop}{d:DefRec}{K:Params->a'}{ei:b8->mD}{sp:b8->kD}{x:Str}{ts:List aj}
  (bc:l.most=some n) (Bp:n<=cn) (x_:d.params.defaults=[]) (ay:c9 k callerA)
  (Hf:∀(w:b8) (h:bL),pI w h->(K w.params).In h) (cU:∀(w:b8) (h:bL),pI w h->∀b∈ts,h.get? b=some (PySem.W.tabObj #[]))
  (x5:∀(w:b8),∀b∈ts,(K w.params).lookup b=none) (eg:∀(w:b8),∀b∈ts,∃c,ri (K w.params) c b=true)
  (F:∀(w:b8) (mg:Str->Option ao) (ck:aj) (h:bL),(K w.params).In h->h.Ns iY mg->mg d.name=some (.ref ck) ->
   ∃fd:er,(∀(s:aH) (u:ao),BindsTo s fd ⟨[u],[]⟩ [(x,u)]) /\
    ∀base:bL,(K w.params).In base->base.Ns iY mg->ny mg base->eY l.prog w (K w.params) mg base (ei w) k ck fd [x] (sp w))
  (sk:∀(w:b8) (H:aB) (a:aj) (ns:List Int),ns.length<=n->Ew ts H->fi (K w.params) H a (ns.map V.int)->sp w [.ref a] H (λv _=>v=.b5 true) λ_ _ _=>False)
  (G9:∀(w:b8) (H:aB) (s:aH) (e:ao) (s':aH),ei w [] H s (λ_ _ _=>False) e s'->False):
  PySem.W.WalkO q loose vD pI l.row.toRowW d [] (λf vs=>PySem.call f vs):=by
 refine Nk.W3 bc x_ λw dm cZ mg l8 ck o pm cd doc a vs ns G Y aK hd am2 yg HE hints hlen bg=>?_
 have la:=Hf w _ Y;obtain⟨fd,af,x4⟩:=F w mg ck _ la G.T.g yg;exact aiB la (cU w _ Y) (x5 w) (eg w) G.T.g G.T.b G.T.builtins G.T.nolimit bg HE hints (h9 hlen Bp) ay G.T.bmain x4 af (λH kM dP=>sk w H a ns hlen kM dP) λH e s'=>G9 w H cZ e s'
def ah9{t:cD}{K:a'}{H:aB}{a:aj}{ns:List Int}{d:List T->Option T}{ts:List aj}(p0:∀p∈t.de,p.1∈ts)(kM:Ew ts H)(fZ:PX K=true)(hd:d [eR ns]=some (.bool true))(dP:fi K H a (ns.map V.int)):spT K 1 d [.ref a] H (λv _=>v=.b5 true) λ_ _ _=>False:=by
 rcases dP with dP|⟨o,its,n,aL,ax,_⟩
 ·refine⟨rfl,λb=>b=a,[eR ns],.bool true,⟨?_,λp aM=>⟨#[],kM.2 p.1 (p0 p aM),trivial,λpos cv e=>by cases e⟩⟩,bB.cons ?_ bB.nil,hd,λv aE ag x r=>by simpa [Rep] using r⟩
  ·rintro b rfl;rcases dP with q|⟨u,q⟩
   ·exact⟨_,q⟩
   ·exact⟨_,q⟩
  ·simp only[eR,Rep];exact⟨a,_,rfl,rfl,dP,RY ns⟩
 ·have:=List.all_eq_true.mp fZ _ (Rj aL);simp[ax] at this
end
section
variable [cD]
noncomputable def rD(f:bY):jo:=λai=>(f ai).map λt=>(t,ai)
noncomputable def an8(o:T->T->Option T)(f g:jo):jo:=λai=>(f ai).bind λr=>(g r.2).bind λs=>(o r.1 s.1).map λz=>(z,s.2)
abbrev xx:=Ev->Option (Bool×Ev)
noncomputable def y'(f:jo):xx:=λai=>(f ai).bind λr=>match r.1 with
|.bool b=>some (b,r.2)
|_=>none
noncomputable def yq(c:xx)(a b:bK):bK:=λai=>(c ai).bind λr=>if r.1 then a r.2 else b r.2
noncomputable def ae8(K:a')(f:xx):TT:=λσ H Q=>∃aJ E O F ai b ε',cJ K aJ E O F H ai σ/\f ai=some (b,ε')/\∀aE ag,ek K F H aE ag->cJ K aJ E O aE ag ε' σ->Q b ag
abbrev NG(X:aY)(e:bt)(f:xx):Prop:=i8 X e (ae8 X.K f)
section
variable {X:aY}{a b e:bt}{es:List bt}{f g:jo}{OT:bY}{fb:f_}{c d:xx}{pos:Pos}
def TJ(h:cO X e OT):oy X e (rD OT):=eu h<|by
 rintro σ H Q ⟨aJ,E,O,F,ai,t,ε',r,e,k⟩
 simp only[rD,dR] at e;obtain⟨t',bU,e⟩:=e;cases e;exact⟨aJ,E,O,F,ai,t,r,bU,λv aE ag x bW=>k v aE ag x.aG (r.ext x) bW⟩
def ajx{o:T->T->Option T}{R:gG}(h:nA X.K o R):∀σ H Q,y9 X.K (an8 o f g) σ H Q->uI R (y9 X.K f) (y9 X.K g) σ H Q:=by
 rintro σ H Q ⟨aJ,E,O,F,ai,t,ε',r,e,k⟩;simp only[an8,cf,dR] at e;obtain⟨⟨x,ij⟩,ex,⟨y,j8⟩,fI,z,eH,e⟩:=e;cases e;refine⟨aJ,E,O,F,ai,x,ij,r,ex,λjh a6 H1 B3 a_ aU=>⟨aJ,E,O,a6,ij,y,j8,a_,fI,λji dr bw p2 b_ bD=>?_⟩⟩;exact h O dr bw x y t jh ji Q b_.cb (.inl (aU.aG p2)) (.inl bD) eH λv aE ag g_ dc=>k v aE ag ((B3.trans p2).trans g_.aG) (b_.ext g_) dc
def al8{op:CmpOp}{R:gG}{o:T->T->Option T}(aK:eU X (i2 op) R)(ar:nA X.K o R)(aA:oy X a f)(af:oy X b g)(hm:qf op b=false:=by first|exact Ee _|rfl):NG X (.Compare a [op] [b] pos) (y' (an8 o f g)):=
 vn (My aK aA af hm) λσ H Q ⟨aJ,E,O,F,ai,b,ε',r,e,k⟩=>by
 simp only[y',cf] at e;obtain⟨⟨t,ij⟩,bU,e⟩:=e;split at e
 next z au=>
  cases e
  subst au;refine ajx ar σ H _ ⟨aJ,E,O,F,ai,_,_,r,bU,λv aE ag aG cm q=>?_⟩;simp only[Rep] at q;exact⟨_,q,k aE ag aG cm⟩
 next=>cases e
def amj{g1 g2:bK}{rest r7:List Stmt}(ax:NG X e c)(aA:i7 X rest g1)(af:i7 X r7 g2):gF X (.If e rest r7 pos) (yq c g1 g2):=hT (El ax aA af)<|by
 rintro D σ H ⟨aJ,E,O,F,ai,o,r,e,k⟩
 simp only[yq,cf] at e;obtain⟨⟨z,ij⟩,fa,e⟩:=e;refine⟨aJ,E,O,F,ai,z,ij,r,fa,λa6 H1 B3 a_=>?_⟩;cases z with
|true=>exact so ⟨aJ,E,O,a6,ij,o,a_,by simpa using e,k.aG B3⟩
|false=>exact v7 ⟨aJ,E,O,a6,ij,o,a_,by simpa using e,k.aG B3⟩
end
end
section
variable [cD]
def Tp{P:cu}{w:b8}{K:a'}{mg:Str->Option ao}{base:bL}{x qual:Str}{st:Stmt}{f:aj}{gQ:ao}{eB an:Option aj}{jW:Array (Option ao)}{dD doc pm b3 cP:ao}{N ps:List Str}{k:Nat}{b:bK}
  (l:K.lookup f=some ⟨gQ,eB,.func (unop%Wv 0),jW⟩) (eg:qc K b3 qual=true) (S:cW N ps (bQ st))
  (af:∀(A:cp) (outer:List Env) (s:aH) (H:aB) (E:e5),c9 k (unop%W5 0) ->
   i7 (unop%W3 0).d9 (fh st) b):
  eY P w K mg base dC (k+1) f (unop%Wv 0) ps (spT K ps.length (c5 b N.length)):=by
 refine Nc l eg S (λvs H Q E h=>h.1) λA outer s H vs Q E ay h=>⟨_,(af A outer s H E ay).d9,?_⟩
 obtain⟨aI,F,ts,t,cb,q,e,iU⟩:=h;simp only[c5,cf] at e;obtain⟨o,eH,e⟩:=e;refine⟨F,⟨H,0⟩,λa=>H a=none,F,_,o,?_,eH,?_⟩
 ·have:=LH (N:=N) cb q (N.length - ts.length);unfold bu.start;rw[q.length] at this ⊢;exact this
 ·cases o with
  |dE t'=>
   cases e
   exact λv aE ag x q=>iU v aE ag x q
  |bG ε'=>
   cases e
   exact λcj aE ag _ r=>iU _ aE ag r.ent (by simp[Rep])
  |gI _=>cases e
  |cP _=>cases e
  |lF _ _=>cases e
  |ma _=>cases e
end
section
abbrev o7(de:List (aj×Str)):cD:=⟨de,λ_=>[],λ_=>none⟩
def akX{t:cD}{de:List (aj×Str)}(bp:t.de=de){P:cu}{w:b8}{K:a'}{mg:Str->Option ao}{base:bL}{k n:Nat}{f:aj}{fd:er}{ps:List Str}{d:List T->Option T}(F:eY P w K mg base dC k f fd ps (@spT t K n d)):eY P w K mg base dC k f fd ps (@spT (o7 de) K n d):=by
 subst bp;have xR:∀{F:aj->Prop} {H:aB},@e' (o7 t.de) F H->@e' t F H:=λ{F H} h=>@e'.mk t F H (@e'.vH (o7 t.de) F H h) (@e'.m4 (o7 t.de) F H h);have XZ:∀{F:aj->Prop} {H:aB},@e' t F H->@e' (o7 t.de) F H:=λ{F H} h=>@e'.mk (o7 t.de) F H (@e'.vH t F H h) (@e'.m4 t F H h);refine F.imp λvs H Q E h=>?_;obtain⟨aI,F,ts,r,cb,q,e,iU⟩:=h;exact⟨aI,F,ts,r,xR cb,q,e,λv aE ag x bW=>iU v aE ag (@Ext.mk (o7 t.de) F H aE ag (@Ext.same t F H aE ag x) (@Ext.sub t F H aE ag x) (@Ext.new t F H aE ag x) (XZ (@Ext.cb t F H aE ag x))) bW⟩
end
end D
end
section
namespace D
open PySem PySem.Spec PySem.Calls PySem.W PyProof.Rows PySem.Builtin PySem.Builtin.ObjectAttr PySem.Builtin.Getset_descriptor
noncomputable def jN(x C:aj)(h:bL):Prop:=∃o vs,h.get? x=some o/\o.cls=.ref C/\o.data=.fields vs
structure rI(K:Frag)(C:aj):Prop where
 cl:(clsIn K C).isSome=true
 ga:findIn K (.ref C) "__getattribute__"=some (some (.builtin "BaseException.__getattribute__"))
 Y4:findIn K (.ref C) "__getattr__"=some none
 at_:findIn K (.ref C) "__class__"=some (some (.builtin "object.__class__"))
 sp:specialIn K (.builtin "object.__class__") "__get__"=some (some (unop%WX 0))
 tk:takesIn K (.builtin "object.__class__")=some true
 mo:mroIn K C (.type "object")=some true
 l8:mroIn K C (.type "BaseException")=some true
section
variable {prog:cu}{w:b8}{A:cp}{E:ao->aH->Prop}{s:aH}{K:Frag}{x C:aj}{R:Result->aH->Prop}
def jN.type{M:Model}{h:bL}(I:jN x C h):Looks M h (typeOf (.ref x)) (.ref C):=by
 obtain⟨o,vs,ah,ar,bk⟩:=I;exact ar▸(Looks.ld ah).andThen .now
def akY{KO:ao}(X:K.In s.heap)(I:jN x C s.heap)(hm:mroIn K C (.type "object")=some true)
  (h:R (.ok (.ret (.ref C))) s):hu (bA prog w) A (.call (unop%WX 0) ⟨[.builtin "object.__class__",.ref x,KO],[]⟩) R s:=by
 obtain⟨cM,g,hj,t,os⟩:=s;have rM:=I.type (M:=bA prog w);have lb:=looks_mroIn (M:=bA prog w) X hm;refine codeAny_call_builtin KF.slot_gs.plain KF.entry_gs (KF.slot_gs.check _ _ _ _ _ _ _ _ KF.type_class (KF.args_gs _ _ _) ?_);unfold Builtin.«getset_descriptor.__get__» descrGet;rw[dga_obj];refine aO (bX ?_);unfold descrGetter descrCheckInstance descrNameAndClass isInstance;simp only[KF.owner_class];obtain⟨o,vs,ah,ar,bk⟩:=I
 repeat lk
 refine⟨Code.quiet_builtin _ (by decide +kernel),ml KF.entry_class ?_⟩
 unfold Builtin.«object.__class__» shownTypeOf
 repeat lk
 exact h
def ajR{M:Model}{h:bL}(X:K.In h)(O:rI K C):Looks M h (find (.ref x) (.ref C) "__class__") (.bind (unop%WX 0) (.builtin "object.__class__")):=by
 have lb:=looks_findIn (M:=M) X O.at_;have bu:Looks M h (getOf (some (.builtin "object.__class__"))) (some (unop%WX 0)):=looks_specialIn X O.sp;have EN:=looks_takesIn (M:=M) X O.tk;refine lb.andThen (bu.andThen ?_);exact (show Looks M h (dataDescriptor? (some (.builtin "object.__class__")) (some (unop%WX 0))) (some (.builtin "getset_descriptor.__get__",.builtin "object.__class__")) from EN.andThen .now).andThen (Looks.tag .now)
def aiQ{tk:Tok}{Q:Fin->aH->Prop}(X:K.In s.heap)(I:jN x C s.heap)(O:rI K C)(aX:Q (.done (.ret (.ref C))) s):
  a0 (bA prog w) A (Builtin.«object.__getattribute__» ⟨[.ref x,.str "__class__" tk],[]⟩) Q E s:=by
 obtain⟨cM,g,hj,t,os⟩:=s;have rM:=I.type (M:=bA prog w);have lb:=ajR (x:=x) (M:=bA prog w) X O;unfold Builtin.«object.__getattribute__»;refine aO (bX (a:=(Value.ref x,[Value.str "__class__" tk])) (aO (bX (a:=("__class__":Str)) ?_)));refine aO (rM.at (aO (lb.at ?_)));show a0 _ _ (holding [Value.builtin "object.__class__"] (call (Value.builtin "getset_descriptor.__get__") [Value.builtin "object.__class__",Value.ref x,Value.ref C]) >>= ret) _ _ _;exact aO (ia (qh (akY X I O.mo (bX aX))))
def aiS{M:Model}{tk:Tok}{Q:Unit->aH->Prop}(X:K.In s.heap)(I:jN x C s.heap)(O:rI K C)(aX:Q () s):
  a0 M A (checkBuiltinCall "BaseException.__getattribute__" ⟨[.ref x,.str "__class__" tk],[]⟩) Q E s:=by
 obtain⟨cM,g,hj,t,os⟩:=s;have rM:=I.type (M:=M);have lb:=looks_mroIn (M:=M) X O.l8;have EO:Looks M cM (isInstance (.ref x) (.type "BaseException")) true:=rM.andThen lb;have _j:splitId "BaseException.__getattribute__"=some ("BaseException","__getattribute__"):=by decide +kernel
 have aL:builtinKind "BaseException.__getattribute__"=some .slot:=by decide +kernel
 have aA:=PySem.F.args_bexc_ga (.ref x) (.str "__class__" tk);simp only[checkBuiltinCall,aL,_j];refine aO (EO.at ?_);simp only[Bool.not_true,lN,if_false];cases _h:Manifest.signature? "BaseException.__getattribute__" with
|none=>exact bX aX
|some sig=>
  simp only[argsOk,_h] at aA;have ar:Bind.checkArgs "BaseException.__getattribute__" sig ⟨[.ref x,.str "__class__" tk],[]⟩=pure ():=aA;show a0 M A (Bind.checkArgs "BaseException.__getattribute__" sig ⟨[.ref x,.str "__class__" tk],[]⟩) Q E _;rw[ar];exact bX aX
def aiR{Q:Option ao->aH->Prop}(X:K.In s.heap)(I:jN x C s.heap)(O:rI K C)(aX:Q (some (.ref C)) {s with toks:=s.toks+1}):
  a0 (bA prog w) A (getAttr? (.ref x) "__class__") Q E s:=by
 obtain⟨cM,g,hj,t,os⟩:=s;have rM:=I.type (M:=bA prog w);have lb:=looks_findIn (M:=bA prog w) X O.ga;have bu:=looks_findIn (M:=bA prog w) X O.Y4;unfold getAttr? getAttrBy? getAttrBy;refine aO (wpAny_mkText (aO (wpAny_attempt (ia (aO (rM.at (aO (lb.at ?_))))))));show a0 _ _ (getAttrByItsOwn _ _ _ _ _ _) _ _ _;unfold getAttrByItsOwn;refine aO (bu.at ?_);refine aO (wpAny_attempt (ia ?_));show a0 _ _ (boundAndCalled _ _ _) _ _ _;unfold boundAndCalled;rw[PySem.F.excAttr_ValueError.ga.bind];refine aO (bX ?_);refine qh (codeAny_call_builtin PySem.F.excAttr_ValueError.ga.plain PySem.F.entry_bexc_ga (aiS X I O (aiQ X I O ?_)));exact bX (bX aX)
def ajJ(O:rI K C):KitX K (.ref x) (.ref C) (jN x C) where
 ty:=λ_ _ _ I=>I.type
 it:=λ_ _ X _=>by
  have qR:=O.cl;unfold clsIn at qR;split at qR
  ·rename_i bZ d' NR Cx aK
   intro UB Aw mF s' k q;unfold isType loadHead;exact aO (wpAny_loadPart (k _ _ (X _ _ aK)) (bX q))
  ·cases qR
 ne:=λh KO dd its n cG X _l=>by
  have qR:=O.cl;refine Bool.eq_false_iff.mpr λq=>?_;have e:C=KO:=Value.ref.inj (beq_iff_eq.mp q);subst e;unfold clsIn at qR;split at qR
  ·rename_i bZ d' NR Cx aK
   have z:=(X _ _ aK).symm.trans _l;cases z
  ·cases qR
 ca:=λX I k=>aiR X I O k
end
end D
end
section
namespace D
open PySem PySem.Spec PyProof.Rows bu
section
structure ED(P:cu)(w:b8)(outer:List Env)(H:aB)(s:aH)(C:aj)(ag:aB)(ea:aj)(qE:ao)(B:bL)(s':aH):Prop where
 os:s'.os=s.os
 bare:AllBare s'.gens
 vO:Heap.FlyingW B outer ea (.ref C) qE s'.heap
 bF:eL P w ag B
 un:fV (e6 outer) [] H ag s.heap s'.heap
 qJ:∀b o,s.heap.get? b=some o->H b=none->b∉e6 outer->B.get? b=some o
 uJ:∀b o,s.heap.get? b=some o->b∉e6 outer->∃o',B.get? b=some o'
noncomputable def Ex(P:cu)(w:b8)(outer:List Env)(H:aB)(s:aH)(C:aj)(ag:aB)(e:ao)(s':aH):Prop:=∃ea qE B,e=.ref ea/\ED P w outer H s C ag ea qE B s'
noncomputable def mC(P:cu)(w:b8):mD:=λouter H s E e s'=>∃C ag,Ex P w outer H s C ag e s'/\E (.ref C) none ag
noncomputable def Uh(X:aY)(H:aB)(s:aH)(C:aj)(ag:aB)(e:ao)(s':aH):Prop:=
 (ag=H/\∃ea args ar,e=.ref ea/\s'={s with heap:=ar}/\Heap.MadeExcOf s.heap ar ea (.ref C) args)\/Ex X.prog X.w X.stack H s C ag e s'
noncomputable def xI(X:aY)(C:aj)(ag:aB):Prop:=∀(ak:List (aj×Obj)) (σ:bu.St) (H:aB) (s:aH) (e:ao) (s':aH),Inv X ak σ H s->Uh X H s C ag e s'->X.di e s'
def RL{h h' base:bL}{l:List Env}{b:aj}{o:Obj}(F:h.FunFrames base l)(af:b∈e6 l)(e:h.get? b=some o)(k:h.UpToSlots h'):∃cG,h'.get? b=some {o with slots:=cG}:=by
 obtain⟨_,o',bx,hd⟩:=F.mem af;rw[e] at bx;cases bx;exact k b o e hd
def ED.on{P:cu}{w:b8}{outer:List Env}{H ag:aB}{s s':aH}{C ea:aj}{qE:ao}{B r_:bL}(x:ED P w outer H s C ag ea qE B s')(st:B.StaysIn r_)(k:s'.heap.UpToSlots r_):
  fV (e6 outer) [] H ag s.heap r_/\eL P w ag r_:=by
 refine⟨⟨λb o e n f _=>st _ _ (x.qJ b o e n f),λb o e n f hx=>?_,λb o e n hx=>x.un.free b o e n hx,λb o e hx=>?_,x.un.lJ,x.un.kL,x.un.kQ⟩,x.bF.kept st⟩
 ·obtain⟨cG,aw⟩:=x.un.slot b o e n f hx;obtain⟨iy,aN⟩:=RL x.vO.2.2.1 f aw k;exact⟨iy,aN⟩
 ·by_cases f:b∈e6 outer
  ·obtain⟨o',aw⟩:=x.un.there b o e hx;obtain⟨iy,aN⟩:=RL x.vO.2.2.1 f aw k;exact⟨_,aN⟩
  ·obtain⟨o',aw⟩:=x.uJ b o e f;exact⟨o',st _ _ aw⟩
def akR{P:cu}{w:b8}{H:aB}{h:bL}{as:List aj}(x:eL P w H h)(n:∀b∈as,H b=none):eL P w H (PySem.W.hideAll h as):=λa o e=>
 hV.jY (x a o e) (λb u af q=>PySem.W.hideAll_get _ q λm=>by
  have z:=n b m;rcases af with rfl|af
  ·rw[e] at z;cases z
  ·rw[af] at z;cases z) (λb af=>af) λb xs af=>af
section
variable {X:aY}{ak:List (aj×Obj)}{σ:bu.St}{H1 ag:aB}{s1 s2:aH}{C:aj}{e:ao}{env:Env}{outer:List Env}{E:e5}
def Ss(I:Inv X ak σ H1 s1)(t:Uh X H1 s1 C ag e s2)(hG:E (.ref C) none ag){Z:ao->aH->Prop}(gg:X.stack=env::outer:=by rfl)(Z8:X.outer=outer:=by rfl)(hex:X.ex=[]:=by rfl)(hf:env.frame=some X.env.locals:=by rfl):
  a0 (unop%Wk 0) X.A (leaving env e) (λ_ lI=>mC X.prog X.w outer X.aT X.dm E e lI) Z s2:=by
 have ZM:X.aF=e6 outer:=by unfold aY.aF;rw[Z8]
 have gN:=I.ok.frames;rw[gg] at gN;have jf:=I.base;rw[ZM,hex] at jf;have bG:∀b:aj,b∉([]:List aj):=λb z=>absurd z (by simp);have Ca:∀b o,X.dm.heap.get? b=some o->b∉e6 outer->b∉e6 (env::outer):=λb o bP n m=>by
  obtain⟨pQ,he,pX⟩:=List.mem_filterMap.mp m;rcases cN.mp he with rfl|he
  ·rw[hf] at pX;cases pX;exact absurd (c2 bP) (Nat.not_lt.mpr I.ok.above)
  ·exact n (List.mem_filterMap.mpr ⟨pQ,he,pX⟩)
 have p8:=I.stack;rw[gg] at p8;rcases t with ⟨xU,ea,args,ar,hD,es,mk⟩|⟨ea,qE,B,hD,dt⟩
 ·subst xU hD es;have sf:∀pQ∈(env::outer),∀b,pQ.frame=some b->b∈e6 (env::outer):=λpQ he b af=>List.mem_filterMap.mpr ⟨pQ,he,af⟩;refine wpAny_leaves_madeW (base:=PySem.W.hideAll s1.heap (e6 (env::outer))) gN hf (λb o q=>PySem.W.of_hideAll _ q) (PySem.W.funFrames_hide p8 sf) mk λh' t aS bN g_ uO=>?_;have OV:=I.Kv;rw[gg] at OV;have qJ:∀b o,X.dm.heap.get? b=some o->X.aT b=none->b∉e6 outer->(PySem.W.hideAll s1.heap (e6 (env::outer))).get? b=some o:=λb o bP n f=>PySem.W.hideAll_get _ (jf.keep b o bP n f (bG b)) (Ca b o bP f);have uJ:∀b o,X.dm.heap.get? b=some o->b∉e6 outer->∃o',(PySem.W.hideAll s1.heap (e6 (env::outer))).get? b=some o':=λb o bP f=>by
   obtain⟨o',aw⟩:=jf.there b o bP (bG b);exact⟨o',PySem.W.hideAll_get _ aw (Ca b o bP f)⟩
  have cG:∀b o,s1.heap.get? b=some o->b∈e6 outer->∃cG,h'.get? b=some {o with slots:=cG}:=λb o aw f=>by
   have dr:s1.heap.FunFrames X.base (env::outer):=p8;obtain⟨_,o',bx,hd⟩:=dr.mem (b:=b) (by
    obtain⟨pQ,he,pX⟩:=List.mem_filterMap.mp f;exact List.mem_filterMap.mpr ⟨pQ,dF _ he,pX⟩)
   rw[aw] at bx;cases bx;exact uO b o (mk.keeps b o aw) hd
  refine⟨C,_,⟨ea,_,_,rfl,⟨I.os,I.bare,aS,akR I.bF OV,⟨λb o bP n f _=>aS.1 _ _ (qJ b o bP n f),λb o bP n f _=>?_,λb o bP n _=>jf.free b o bP n (bG b),λb o bP _=>?_,jf.lJ,jf.kL,jf.kQ⟩,qJ,uJ⟩⟩,hG⟩
  ·obtain⟨Cy,aw⟩:=jf.slot b o bP n f (bG b);obtain⟨iy,aN⟩:=cG b _ aw f;exact⟨iy,aN⟩
  ·by_cases f:b∈e6 outer
   ·obtain⟨o',aw⟩:=jf.there b o bP (bG b);obtain⟨iy,aN⟩:=cG b _ aw f;exact⟨_,aN⟩
   ·obtain⟨o',aw⟩:=uJ b o bP f;exact⟨o',aS.1 _ _ aw⟩
 ·subst hD;rw[gg] at dt;refine wpAny_leaves_onW gN hf dt.vO λh' aS bN=>?_;have on:=dt.on aS.1 bN;have qJ:∀b o,X.dm.heap.get? b=some o->X.aT b=none->b∉e6 outer->B.get? b=some o:=λb o bP n f=>dt.qJ b o (jf.keep b o bP n f (bG b)) (jf.free b o bP n (bG b)) (Ca b o bP f);have uJ:∀b o,X.dm.heap.get? b=some o->b∉e6 outer->∃o',B.get? b=some o':=λb o bP f=>by
   obtain⟨o',aw⟩:=jf.there b o bP (bG b);exact dt.uJ b o' aw (Ca b o bP f)
  have up:∀b,b∈e6 outer->b∈e6 (env::outer):=λb f=>by
   obtain⟨pQ,he,pX⟩:=List.mem_filterMap.mp f;exact List.mem_filterMap.mpr ⟨pQ,dF _ he,pX⟩
  refine⟨C,_,⟨ea,_,B,rfl,⟨dt.os.trans I.os,dt.bare,aS,dt.bF,⟨λb o bP n f _=>aS.1 _ _ (qJ b o bP n f),λb o bP n f _=>?_,λb o bP n _=>?_,λb o bP _=>?_,λb xs q=>on.1.lJ _ _ (jf.lJ _ _ q),λb o u q=>on.1.kL _ _ _ (jf.kL _ _ _ q),λb ps q=>?_⟩,qJ,uJ⟩⟩,hG⟩
  ·obtain⟨Cy,aw⟩:=jf.slot b o bP n f (bG b);obtain⟨iy,aN⟩:=on.1.slot b _ aw (jf.free b o bP n (bG b)) (up b f) (bG b);exact⟨iy,aN⟩
  ·obtain⟨Cy,aw⟩:=jf.any bP n (bG b);exact on.1.free b _ aw (jf.free b o bP n (bG b)) (bG b)
  ·obtain⟨o',aw⟩:=jf.there b o bP (bG b);exact on.1.there b o' aw (bG b)
  ·obtain⟨jy,aP⟩:=jf.kQ b ps q;obtain⟨hJ,bf⟩:=on.1.kQ b _ aP;exact⟨jy++hJ,by rw[bf,Array.append_assoc]⟩
def ajv(h:∀C ag,E (.ref C) none ag->xI X C ag):tf (mC X.prog X.w) X E:=λak σ H s e s' I ⟨C,ag,dt,hG⟩=>h C ag hG ak σ H s e s' I (.inr dt)
end
end
section
variable [cD]
abbrev hA:=Ev->Bool
noncomputable def Kz(X:aY)(C:aj)(r:hA):TE:=λσ H _=>∃aJ E O F ai,cJ X.K aJ E O F H ai σ/\r ai=true/\∀aE ag,Ext F H aE ag->xI X C ag
noncomputable def KC(X:aY)(C:aj)(r:hA):fU:=λ_ σ H=>∃aJ E O F ai,cJ X.K aJ E O F H ai σ/\r ai=true/\∀aE ag,Ext aJ E.h aE ag->xI X C ag
abbrev rO(X:aY)(C:aj)(e:bt)(r:hA):Prop:=b0 X e (Kz X C r)
abbrev Av(X:aY)(C:aj)(s:Stmt)(r:hA):Prop:=hY X s (KC X C r)
abbrev rN(X:aY)(C:aj)(s:List Stmt)(r:hA):Prop:=fS X s (KC X C r)
noncomputable def J1:hA:=λ_=>false
noncomputable def y0(b:bK)(r:hA):hA:=λai=>match b ai with
|some (.bG ε')=>r ε'
|_=>false
noncomputable def yr(c:f_)(a b:hA):hA:=λai=>match c ai with
|some true=>a ai
|some false=>b ai
|none=>false
noncomputable def l'(f:bY):hA:=λai=>(f ai).isSome
theorem hY.d9{X:aY}{st:Stmt}{t:fU}(h:hY X.d9 st t):hY X st t:=λak s σ H D I hw=>
 et (h ak s σ H D (I.kR _) hw) (λ_ _ q=>q.n4) λ_ _ z=>d6 z
theorem fR.d9{X:aY}{es:List bt}{t:fH}(h:fR X.d9 es t):fR X es t:=λpos ak s σ H Q I hw=>
 et (h pos ak s σ H Q (I.kR _) hw) (λ_ _ ⟨v,ag,ov,r,q⟩=>⟨v,ag,ov.n4,r,q⟩) λ_ _ z=>d6 z
section
variable {X:aY}{C:aj}{e c:bt}{st:Stmt}{rest r7:List Stmt}{r cm:hA}{b:bK}{fb:f_}{pos:Pos}
def afN{l:List Stmt}:rN X C l J1:=λak s σ H D I h=>by
 obtain⟨_,_,_,_,_,_,e,_⟩:=h;cases e
def LC(h:Av X C st r):rN X C (st::rest) r:=zY (vb (u:=λ_ _ _=>False) h λ_ _ _ _ _ _ z=>z.elim) λD σ H q=>q
def afM(ah:gF X.d9 st b)(ar:rN X C rest r):rN X C (st::rest) (y0 b r):=zY (vb (hY.d9 ah) ar)<|by
 rintro D σ H ⟨aJ,E,O,F,ai,g6,e,k⟩
 unfold y0 at e;split at e
 next ε' af=>exact⟨aJ,E,O,F,ai,_,g6,af,λcj aE ag aG b_=>⟨aJ,E,O,aE,ε',b_,e,k⟩⟩
 next=>cases e
def afL(ax:kB X.d9 c fb)(aA:rN X C rest r)(af:rN X C r7 cm):Av X C (.If c rest r7 pos) (yr fb r cm):=hT (El ax.d9 aA af)<|by
 rintro D σ H ⟨aJ,E,O,F,ai,g6,e,k⟩
 unfold yr at e;split at e
 next hx=>exact⟨aJ,E,O,F,ai,true,g6,hx,λaE ag x=>so ⟨aJ,E,O,aE,ai,g6.ext x,e,k⟩⟩
 next hx=>exact⟨aJ,E,O,F,ai,false,g6,hx,λaE ag x=>v7 ⟨aJ,E,O,aE,ai,g6.ext x,e,k⟩⟩
 next=>cases e
def al'{σ:bu.St}{H:aB}{D:Ends}{Q:c0}(h:KC X C r D σ H):Kz X C r σ H Q:=by
 obtain⟨aJ,E,O,F,ai,g6,e,k⟩:=h;exact⟨aJ,E,O,F,ai,g6,e,λaE ag x=>k aE ag (g6.ent.trans x)⟩
def al6(h:rO X C e r):Av X C (.Return (some e) pos) r:=hT (xa h) λD σ H q=>al' q
end
abbrev FG:List ao:=[.type "ValueError",.type "Exception",.type "BaseException",.type "object"]
def akz{K:a'}{h:bL}{C:aj}{NP:List ao}{newId:String}(X:K.In h)(q:PySem.W.excIn K C NP newId=true):
  ∃bm N nm q bs hdct sn sub ab col dd k0 k1 k2 k3 k5 mN,h.get? C=some (excClassObj nm q C N bs bm hdct sn sub ab col dd k0 k1 k2 k3 k5 newId)/\h.Ns N mN/\mN "__init__"=none/\OwnTail h NP bm:=by
 unfold PySem.W.excIn at q;split at q
 ·rename_i dd cd cG aK
  split at q
  ·rename_i pC bm k0 k1 k2 k3 n k5 hm az
   simp only[gV,beq_iff_eq,Bool.not_eq_true'] at q;obtain⟨⟨⟨⟨⟨rfl,rfl⟩,O7⟩,bp⟩,bF⟩,Br⟩:=q;obtain⟨nm,bs,mro,ns,anL,hd,sn,sub,ab,col,del⟩:=cd;dsimp only at hm O7 bF Br;subst hm O7;have _i:cG=#[k0,k1,k2,k3,some (.builtin n),k5]:=by
    obtain⟨l⟩:=cG;simp only at az;rw[az]
   subst _i;exact⟨bm,ns,nm,anL,bs,hd,sn,sub,ab,col,dd,k0,k1,k2,k3,k5,_,X _ _ aK,.of_isNs (PySem.W.isNs_of_in X bF),PySem.W.nsMap_none_of_in X bF Br,PySem.W.tail_of_in X bp⟩
  ·cases q
 ·cases q
def aj5{X:aY}{C:aj}{x:Str}{e:bt}{f:bY}{np d3 pos:Pos}(hm:X.mg x=some (.ref C))(hx:PySem.W.excIn X.K C FG "ValueError.__new__"=true)(he:cO X.d9 e f)(cM:X.A.handled=none)
  (bg:dZ X x:=by rfl) (az:a9 [e] X.env=(false,eval e X.env)::a9 [] X.env:=by rfl) (hd:(x==("__debug__":Str))=false:=by decide):
  Av X C (.Raise (some (.Call (.Name x np) [e] [] d3)) none pos) (l' f):=by
 intro ak s σ H D I ⟨aJ,E,O,F,ai,g6,r6,k⟩;obtain⟨t,bU⟩:=Option.isSome_iff_exists.mp r6;obtain⟨bm,N,nm,q,bs,hdct,sn,sub,ab,col,dd,k0,k1,k2,k3,k5,mN,G7,dw,Br,NH⟩:=akz I.ok.mod.oX hx;refine wpAny_Raise_call_subT (C:=C) (nm:=nm) (q:=q) (N:=N) (bs:=bs) (bm:=bm) (hdct:=hdct) (sn:=sn) (sub:=sub) (ab:=ab) (col:=col) (dd:=dd) (k0:=k0) (k1:=k1) (k2:=k2) (k3:=k3) (k5:=k5) (mN:=mN)
  PySem.F.excBase_ValueError (NH.hasType PySem.F.excBase_ValueError.hasBase) cM (by rw[az];rfl) Br (vh I bg hm ⟨rfl,?_⟩ hd)
 have aA:fR X [e] (iB (y8 X.K f) md):=e3 (b0.d9 he) hb az;have h0:=aA d3 ak s σ H (λvs H1=>∃v,vs=[v]/\xI X C H1) I ⟨aJ,E,O,F,ai,t,g6,bU,λv aE ag x _=>⟨v,rfl,k aE ag (g6.ent.trans x)⟩⟩;rw[az] at h0 ⊢;refine Calls.evalArgs_plain (et h0 (λus jZ ⟨vs,H1,ba,a_,v,ev,kx⟩=>⟨rfl,?_,?_,?_,?_,λh' ea mk=>?_⟩) λ_ _ y=>y)
 ·have:=a_.length;rw[ev] at this;show us.length<=cn;rw[<- this];show 1<=cn;decide
 ·exact ba.gI _ _ G7
 ·exact dw.keeps ba.gI
 ·exact NH.keeps ba.gI
 ·exact kx ak σ H1 jZ (.ref ea) _ ba (.inl ⟨rfl,ea,_,h',rfl,rfl,mk⟩)
noncomputable def Qk(K:a')(n:Nat)(C:aj)(r:List aR->Bool):kD:=λvs H _ E=>vs.length=n/\∃F ss,e' F H/\Ak K F H ss vs/\r ss=true/\∀aE ag,Ext F H aE ag->E (.ref C) none ag
noncomputable def yY(r:hA)(n:Nat):List aR->Bool:=λss=>r (kZ n ss)
structure pD(P:cu)(w:b8)(K:a')(mg:Str->Option ao)(base:bL)(x:Str)(C:aj)(k n:Nat)(r:List aR->Bool):Prop where
 ex:∃ck fd ps,eY P w K mg base (mC P w) k ck fd ps (Qk K n C r)/\mg x=some (.ref ck)/\m8 K (.ref ck)=true/\f7 K fd ps []
section
variable {P:cu}{w:b8}{K:a'}{mg:Str->Option ao}{base:bL}
theorem pD.mono{x:Str}{C:aj}{k n j:Nat}{r:List aR->Bool}(c:pD P w K mg base x C j n r)(h:j<=k):pD P w K mg base x C k n r:=by
 obtain⟨ck,fd,ps,F,q⟩:=c.ex;exact⟨ck,fd,ps,F.mono h,q⟩
def akU{x qual:Str}{st:Stmt}{f C:aj}{fd:er}{N ps:List Str}{k:Nat}{r:hA}(F:cK K x qual st f fd)(S:cW N ps (bQ st))
  (af:∀(b3:ao) (A:cp) (outer:List Env) (s:aH) (H:aB) (E:e5),c9 k (unop%W5 0) ->
   rN (fm (mC P w) P w K mg base N qual (bQ st) f b3 A outer s H E) C (fh st) r):
  eY P w K mg base (mC P w) (k+1) f fd ps (Qk K ps.length C (yY r N.length)):=by
 obtain⟨gQ,eB,dD,doc,pm,an,b3,cP,jW,rfl,lk,eg⟩:=F.ex;refine Nc lk eg S (λvs H Q E h=>h.1) λA outer s H vs Q E ay h=>⟨_,af b3 A outer s H E ay,?_⟩;obtain⟨aI,F,ss,cb,q,e,iU⟩:=h;refine⟨F,⟨H,0⟩,λa=>H a=none,F,_,?_,e,λaE ag x=>?_⟩
 ·unfold bu.start;exact Rc cb q N.length
 ·intro ak σ H1 s1 aw s2 I t;refine et (Ss (X:=fm (mC P w) P w K mg base N qual (bQ st) f b3 A outer s H E) (E:=E) (Z:=λ_ _=>False) I t (iU aE ag x)) (λ_ _ z=>z) λ_ _ z=>z.elim
def Ub{x:Str}{C:aj}{st:Stmt}{f:aj}{fd:er}{N ps:List Str}{k:Nat}{r:hA}(F:cK K x x st f fd)(S:cW N ps (bQ st))(bd:f7 K fd ps [])(m:mg x=some (.ref f))
  (af:∀(b3:ao) (A:cp) (outer:List Env) (s:aH) (H:aB) (E:e5),c9 k (A.deeper (envOfC x (bQ st) s.heap.objs.size f b3)) ->
   rN (fm (mC P w) P w K mg base N x (bQ st) f b3 A outer s H E) C (fh st) r):pD P w K mg base x C (k+1) ps.length (yY r N.length):=⟨f,fd,ps,akU F S af,m,F.aG,bd⟩
end
noncomputable def vw(r:List aR->Bool)(as:List pB):hA:=λai=>match rW as ai with
|some ss=>r (ss.map Kp)
|none=>false
section
variable {X:aY}{k n c C CO i:Nat}{ns:List Str}{r:List aR->Bool}{x m:Str}{p pos apos:Pos}{o e:bt}{es:List bt}{as:List pB}{aF:List bY}
def TH(mE:pD X.prog X.w X.K X.mg X.base x C k n r)(ay:c9 k X.A)(aA:As X.d9 (e::es) as)(bg:dZ X x:=by rfl)(bc:as.length=n:=by rfl)(fD:(x==("__debug__":Str))=false:=by decide)
  (he:a9 (e::es) X.env=(false,eval e X.env)::a9 es X.env:=by rfl) (hpl:(unop%Wu 0).any (·.1)=false:=by rfl):rO X C (unop%Wz 0) (vw r as):=by
 obtain⟨ck,fd,ps,F,hm,aG,b⟩:=mE.ex;refine eu (Mz F ay bg hm aG b .nil (ajv (E:=λcl _ ag=>∃pC,cl=.ref pC/\xI X pC ag) λpC ag ⟨UE,aN,q⟩=>by cases aN;exact q) (fR.d9 aA) fD he hpl) λσ H Q hqq=>?_;obtain⟨aJ,E,O,F,ai,g6,e,k⟩:=hqq;unfold vw at e;split at e
 next ss es=>
  refine⟨aJ,E,O,F,ai,ss,g6,es,λvs a6 H1 aS q=>⟨?_,a6,ss.map Kp,aS.cb,?_,e,λaE ag bN=>⟨C,rfl,k aE ag (aS.trans bN)⟩⟩⟩
  ·rw[lO,q.len,bc]
  ·rw[lO];exact M8 (g6.ext aS) es q
 next=>cases e
end
end
section
abbrev aY.sm(X:aY)(ea:aj):aY:={X with A:=X.A.mark (some (.ref ea)),calm:=false,di:=λ_ _=>False}
section
variable {X:aY}{ak:List (aj×Obj)}{σ:bu.St}{H:aB}{s:aH}{ea:aj}
def alJ(ok:X.Ok)(ea:aj):(aY.sm X ea).Ok:=
 ⟨ok.mod,ok.kind,ok.glob,ok.blt,ok.above,ok.inj,ok.has,ok.tQ,(λ(z:false=true)=>absurd z (by decide)),ok.frames,ok.p8,ok.vN,ok.bs,ok.mI,ok.uy,ok.tY,ok.kb,ok.nI⟩
def Th(I:Inv X ak σ H s)(ea:aj):Inv (aY.sm X ea) ak σ H s:=⟨alJ I.ok ea,I.os,I.bare,I.base,I.loc,I.cell,I.free,I.ka,I.pin,I.bF,I.len⟩
def ajL(ok:X.Ok)(I:Inv (aY.sm X ea) ak σ H s):Inv X ak σ H s:=⟨ok,I.os,I.bare,I.base,I.loc,I.cell,I.free,I.ka,I.pin,I.bF,I.len⟩
def ajM{i:Nat}{n:Str}{h':bL}{m:Str->Option ao}{v:Option ao}{tk:Nat}(I:Inv X ak σ H s)(aQ:X.N[i]?=some n)(aI:∀(i:Nat) (x:Str) (v:V),X.N[i]?=some x->σ[i]?=some (some v)->oB X.env.scope x->∃u,RelV v u/\Look X.env s.heap m x u)(dw:X.N.Nodup)
  (bc:h'.Ns X.env.locals (λx=>if x=n then v else m x)) (az:Heap.SameBut X.env.locals s.heap h') (si:∃o,s.heap.get? X.env.locals=some o):Inv X ak (σ.set i none) H {s with heap:=h',toks:=tk}:=by
 have Bm:i<σ.length:=by rw[I.len];exact (gU.mp aQ).1
 have oG:=I.oG;have lt:∀{b:aj} {o:Obj},X.dm.heap.get? b=some o->b≠X.env.locals:=λe=>eQ (i0 (c2 e) I.ok.above);refine⟨I.ok,I.os,I.bare,⟨λb o e n af hx=>(az.2 b (lt e)).trans (I.base.keep b o e n af hx),λb o e n af hx=>?_,I.base.free,λb o e hx=>?_,I.base.lJ,I.base.kL,I.base.kQ⟩,⟨_,bc,λj y hM aw aN dv=>?_⟩,λy c e=>?_,I.free,I.ka,λp aM=>?_,λb dA e=>?_,by simpa using I.len⟩
 ·obtain⟨cG,aw⟩:=I.base.slot b o e n af hx;exact⟨cG,(az.2 b (lt e)).trans aw⟩
 ·obtain⟨o',aw⟩:=I.base.there b o e hx;exact⟨o',(az.2 b (lt e)).trans aw⟩
 ·by_cases bS:j=i
  ·subst bS;rw[List.getElem?_set_self Bm] at aN;cases aN
  ·rw[List.getElem?_set_ne (Ne.symm bS)] at aN;obtain⟨uK,cm,q⟩:=aI j y hM aw aN dv;refine⟨uK,cm,?_⟩;rcases q with ⟨k,e⟩|⟨k,c,e,z⟩
   ·refine .inl ⟨k,?_⟩
    have:y≠n:=λe=>bS (Me dw aw (e▸aQ));simp[this,e]
   ·exact .inr ⟨k,c,e,z.sameBut az (oG y c e)⟩
 ·obtain⟨df,z⟩:=I.cell y c e;exact⟨df,z.sameBut az (oG y c e)⟩
 ·obtain⟨e,n,ne,jc,d⟩:=I.pin p aM;exact⟨(az.2 p.1 ne).trans e,n,ne,jc,d⟩
 ·refine (I.bF b dA e).jY (λc df ax q=>(az.2 c ?_).trans q) (λ_ q=>q) λ_ _ q=>q
  rintro rfl;have fr:=I.free;rcases ax with rfl|ax
  ·rw[fr] at e;cases e
  ·rw[fr] at ax;cases ax
end
def ag7{M:Model}{A:cp}{E:ao->aH->Prop}{K:a'}{s:aH}{x C eh:aj}{Q:Bool->aH->Prop}(X:K.In s.heap)(I:jN x C s.heap)
  (ah:PySem.W.typeIn K (.ref eh)=some (.type "type")) (ar:PySem.W.mroIn K eh (.type "BaseException")=some true) (bk:PySem.W.mroIn K C (.ref eh)=some true) (ax:(PySem.W.clsIn K eh).isSome=true) (aX:Q true s):
  a0 M A (excMatches (.ref x) (.ref eh)) Q E s:=by
 obtain⟨cM,g,hj,t,os⟩:=s;have rM:=I.type (M:=M);have lb:=PySem.W.looks_typeIn (M:=M) X ah;have bu:=PySem.W.looks_mroIn (M:=M) X ar;have EN:=PySem.W.looks_mroIn (M:=M) X bk;have EO:PySem.W.Looks M cM (isInstance (.ref eh) (.type "tuple")) false:=lb.andThen (PySem.W.Looks.of_pure tc_notTuple);have LT:PySem.W.Looks M cM (isType (.ref eh)) true:=by
  unfold PySem.W.clsIn at ax;split at ax
  ·rename_i bZ d' NR Cx aK
   intro UB Aw mF s' k q;unfold isType loadHead;exact aO (wpAny_loadPart (k _ _ (X _ _ aK)) (bX q))
  ·cases ax
 have LE:PySem.W.Looks M cM (isExcClass (.ref eh)) true:=LT.andThen bu;unfold excMatches;refine aO (EO.at ?_);rw[if_neg (by decide)];refine aO (bX ?_);dsimp only;refine aO ?_;simp only[List.forIn_cons,List.forIn_nil];refine aO (aO (LE.at ?_));rw[if_neg (by decide)];refine bX (bX ?_);refine aO (rM.at (aO ?_));refine aO (aO (EN.at ?_));rw[if_pos rfl];exact bX (bX (bX aX))
def ajY{X:aY}{ak:List (aj×Obj)}{σ:bu.St}{H ag:aB}{s s':aH}{C eh:aj}{e:ao}{oI n:Str}{i:Nat}{np pos:Pos}{pK:Stmt}{p9:List Stmt}{ts:fU}{D:Ends}
  (I:Inv X ak σ H s) (dt:Ex X.prog X.w X.stack H s C ag e s') (hm:X.mg oI=some (.ref eh))
  (ah:PySem.W.typeIn X.K (.ref eh)=some (.type "type")) (ar:PySem.W.mroIn X.K eh (.type "BaseException")=some true) (bk:PySem.W.mroIn X.K C (.ref eh)=some true) (ax:(PySem.W.clsIn X.K eh).isSome=true)
  (az:∀ea,fS (aY.sm X ea) (pK::p9) ts) (k:∀ea,ag ea=none->ts {bG:=λxt bw=>D.bG (xt.set i none) bw,dE:=λ_ _=>False} (σ.set i (some (.ref ea))) (upd ag ea (.ext (jN ea C))))
  (dw:X.N.Nodup) (aQ:X.N[i]?=some n) (nP:X.env.kindOf n=some .local) (gg:X.stack=X.env::X.outer) (hf:X.env.frame=some X.env.locals) (bg:dZ X oI) (fD:(oI==("__debug__":Str))=false):
  a0 (unop%Wk 0) X.A (noteFrame e X.env) (λ_ jZ=>a0 (unop%Wk 0) X.A (setFlight e none) (λ_ p_=>a0 (unop%Wk 0) X.A (handleBy e X.env [.ExceptHandler (some (.Name oI np)) (some n) (pK::p9) pos]) (bu.qC X ak D) X.di p_) X.di jZ) X.di s':=by
 obtain⟨ea,qE,B,rfl,dt⟩:=dt;have Pa:=dt.vO;have gN:=I.ok.frames;rw[gg] at Pa gN;refine wpAny_looks_onW gN hf Pa λv5 ZH aeP=>?_;refine wpAny_landsW ZH λh4 G3 aeQ=>?_;have NJ:s'.heap.UpToSlots h4:=aeP.trans aeQ;obtain⟨KS,Z5⟩:=dt.on G3.1 NJ;have bG:∀b:aj,b∉([]:List aj):=λb z=>absurd z (by simp);have NC:Inv X ak σ ag {s' with heap:=h4}:=I.NQ dt.os KS Z5 dt.bare λb af=>absurd af (bG b);have W2:jN ea C h4:=by
  obtain⟨o1,vs,aP,bf,dc,_⟩:=G3.first;exact⟨o1,vs,aP,bf,dc⟩
 have dJ:ag ea=none:=by
  cases q:ag ea with
  |none=>rfl
  |some u=>
   obtain⟨o,aK⟩:∃o,B.get? ea=some o:=by
    have z:=dt.bF ea u q;have lt:=z.lt;have:∀(u:ed),hV X.prog X.w ag B ea u->∃o,B.get? ea=some o:=by
     intro u
     induction u with
     |lst xs=>rintro⟨_,_,_,_,e⟩;exact⟨_,e⟩
     |tup xs=>rintro⟨_,_,_,o,e,_⟩;exact⟨_,e⟩
     |fo kvs=>rintro⟨_,_,_,_,o,_,_,e,_⟩;exact⟨_,e⟩
     |nF kvs=>rintro⟨_,_,_,_,o,_,_,e,_⟩;exact⟨_,e⟩
     |set S n=>rintro⟨o,_,_,_,e,_⟩;exact⟨_,e⟩
     |ins C bE aF=>rintro⟨_,_,_,e,_⟩;exact⟨_,e⟩
     |own x=>rintro⟨o,e⟩;exact⟨_,e⟩
     |jj aF=>rintro⟨_,e,_⟩;obtain⟨o,_,_,e,_⟩:=e;exact⟨_,e⟩
     |met f x=>intro e;exact⟨_,e⟩
     |km lo aQ=>rintro⟨_,_,_,e⟩;exact⟨_,e⟩
     |oP o u bM=>rintro⟨e,_⟩;exact⟨_,e⟩
     |iA ps=>intro e;exact⟨_,e⟩
     |ext pz=>rintro⟨_,⟨o,e⟩,_⟩;exact⟨_,e⟩
    exact this u z
   rw[dt.vO.2.1] at aK;cases aK
 refine wpAny_handleBy_cons (codeAny_handlers_test (vh (X:=aY.sm X ea) (Th NC ea) bg hm ?_ fD)) (by intro q;cases q)
 refine ag7 NC.jU W2 ah ar bk ax ?_
 refine codeAny_handlers_suite_as ?_
 refine lands_againW G3 λyo G4 aeR=>?_
 have V9:s'.heap.UpToSlots yo:=NJ.trans aeR;obtain⟨uM,Z6⟩:=dt.on G4.1 V9;have NO:jN ea C yo:=by
  obtain⟨o1,vs,aP,bf,dc,_⟩:=G4.first;exact⟨o1,vs,aP,bf,dc⟩
 have yy:∀{b:aj} {u:ed},ag b=some u->upd ag ea (.ext (jN ea C)) b=some u:=λ{b u} q=>by rw[cR (by rintro rfl;rw[dJ] at q;cases q)];exact q
 have aa2:∀{b:aj} {o:Obj},s.heap.get? b=some o->H b=none->b≠ea:=λ{b o} q n=>by
  rintro rfl;by_cases f:b∈e6 X.stack
  ·obtain⟨_,o',bx,hd⟩:=G4.2.2.1.mem (b:=b) (by rw[<- gg];exact f);obtain⟨o1,vs,aw,_,aN⟩:=NO;rw[aw] at bx;cases bx;exact hd vs aN
  ·have z:=dt.qJ b o q n f;rw[dt.vO.2.1] at z;cases z
 have afm:fV (e6 X.stack) [] H (upd ag ea (.ext (jN ea C))) s.heap yo:=⟨uM.keep,uM.slot,λb o q n hx=>by rw[cR (aa2 q n)];exact uM.free b o q n hx,uM.there,λb xs q=>yy (uM.lJ b xs q),λb o u q=>yy (uM.kL b o u q),λb ps q=>by
  obtain⟨m,z⟩:=uM.kQ b ps q;exact⟨m,yy z⟩⟩
 have Z7:eL X.prog X.w (upd ag ea (.ext (jN ea C))) yo:=λb u q=>by
  by_cases af:b=ea
  ·subst af;rw[dU] at q;cases q;obtain⟨o1,vs,aw,aN,dv⟩:=NO;exact⟨⟨o1,vs,aw,aN,dv⟩,⟨o1,aw⟩,λk1 k2 ⟨o,vs,pj,gD,zv⟩ b9=>⟨o,vs,b9 o pj,gD,zv⟩⟩
  ·rw[cR af] at q;exact (Z6 b u q).jY (λ_ _ _ z=>z) (λc z=>yy z) λc xs z=>yy z
 have VZ:Inv X ak σ (upd ag ea (.ext (jN ea C))) {s' with heap:=yo}:=I.NQ dt.os afm Z7 dt.bare λb af=>absurd af (bG b);refine L9 (X:=aY.sm X ea) (v:=.ref ea) (Th VZ ea) dw aQ (.inl nP) rfl (λdh i5=>?_) (.inr nP);refine et (az ea ak dh _ _ _ i5 (k ea dJ)) (λf c6 vR=>?_) λ_ _ z=>z.elim;cases f with
|next=>
  obtain⟨xt,bw,EG,o2⟩:=vR;have NB:=ajL I.ok EG;obtain⟨m,Pj,ZV⟩:=id NB.loc;refine wpAny_nameGoes_keeps nP Pj (by rw[I.ok.kind];rfl) λG6 v Z1 _d=>?_;have si:∃o,c6.heap.get? X.env.locals=some o:=by
   obtain⟨o,_,_,q,_⟩:=Pj;exact⟨o,q⟩
  exact⟨_,bw,ajM NB aQ ZV dw Z1 _d si,o2⟩
|brk=>obtain⟨_,_,_,o2⟩:=vR;exact d6 o2
|cont=>obtain⟨_,_,_,o2⟩:=vR;exact d6 o2
|ret u=>obtain⟨_,_,_,_,_,o2⟩:=vR;exact d6 o2
end
section
noncomputable def P8(K:a')(C:aj):List V->aB->c0->Prop:=λxs H Q=>∃ea c cv b,xs=[.ref ea,c]/\H ea=some (.ext (jN ea C))/\(∀u,RelV c u->u=cv)/\ob K (.ref C) cv=some b/\Q (.b5 b) H
def al1{X:aY}{C:aj}(O:rI X.K C):anw X (.builtin "isinstance") (P8 X.K C):=by
 intro ak s σ H xs us Q I r ⟨ea,c,cv,b,aw,aN,dv,gL,q⟩;subst aw;cases r with
|cons a_ r=>
  cases r with
  |cons b_ r=>
   cases r
   cases a_
   have fa:=dv _ b_;subst fa;exact PySem.W.kia_one (ajJ O) I.jU (I.bF ea _ aN).1 gL (by intro z;cases z) λtk=>⟨.b5 b,H,I.tok _,rfl,q⟩
theorem Mn:∀{bs:List Bool} {us:List ao},Vals (bs.map V.b5) us->us=bs.map Value.bool
| [],us,h=>by cases h;rfl
|b::bs,us,h=>by
  cases h with
  |cons r t=>
   cases r
   rw[Mn t];rfl
noncomputable def sZ:ao->Bool
|.bool true=>true
|_=>false
def ajE{X:aY}:Ar X "list.count" (λx vs H Q=>∃(l:aj) (bs:List Bool),x=.ref l/\vs=[.b5 true]/\fi X.K H l (bs.map V.b5)/\Q (.int (bs.countP id:Nat)) H):=by
 intro ak s σ H x vs v us Q I aU bW h;obtain⟨l,bs,rfl,rfl,aX,q⟩:=h;cases aU;obtain⟨u,rfl,cY⟩:=bW.one;cases cY;obtain⟨its,r,⟨⟨cls,dd,data,cG⟩,n,aK,ax,hd,az⟩,au⟩:=I.list aX;simp only at ax hd az;subst ax hd az;have hits:=Mn r;subst hits;refine qg PySem.F.slot_list_count ⟨_,aK,rfl⟩ PySem.F.entry_list_count (PySem.F.args_list_count_2 _ _)
  (SeqAt.list_countAt l _ n _ _ (.bool true) sZ) ⟨aK,λz l4=>?_,?_⟩
 ·obtain⟨b,_,rfl⟩:=d_.mp (show z∈bs.map Value.bool by simpa using l4);have e:=SeqAt.EqAt.bool_bool (A:=X.A.in1) (s:=s) b true;have aN:(b==true)=sZ (.bool b):=by cases b <;> rfl
  rw[aN] at e;exact e
 ·refine⟨V.int (bs.countP id:Nat),H,I.tok _,⟨s.toks,?_⟩,q⟩
  have:((bs.map Value.bool).toArray.toList.countP sZ)=bs.countP id:=by
   show (bs.map Value.bool).countP sZ=_
   rw[List.countP_map];congr 1;funext b;cases b <;> rfl
  rw[this]
def aix{X:aY}:Ar X "list.index" (λx vs H Q=>∃(l:aj) (bs:List Bool) (j:Nat),x=.ref l/\vs=[.b5 true]/\fi X.K H l (bs.map V.b5)/\bs[j]?=some true/\(∀m,m<j->bs[m]?=some false)/\Q (.int (j:Nat)) H):=by
 intro ak s σ H x vs v us Q I aU bW h;obtain⟨l,bs,j,rfl,rfl,aX,bS,af,q⟩:=h;cases aU;obtain⟨u,rfl,cY⟩:=bW.one;cases cY;obtain⟨its,r,⟨⟨cls,dd,data,cG⟩,n,aK,ax,hd,az⟩,au⟩:=I.list aX;simp only at ax hd az;subst ax hd az;have hits:=Mn r;subst hits;have ye:=(gU.mp bS).1;rw[f5] at au;rw[jJ] at au;refine qg PySem.F.slot_list_index ⟨_,aK,rfl⟩ PySem.F.entry_list_index (PySem.F.args_list_index_2 _ _)
  (SeqAt.list_indexAt l _ n _ _ (.bool true) sZ j (by simpa using ye) (by omega) ?_ ?_) ⟨aK,λz l4=>?_,⟨V.int (j:Nat),H,I.tok _,⟨_,rfl⟩,q⟩⟩
 ·have:=(gU.mp bS).2;simp[sZ,this]
 ·intro m hm d7;have:=(gU.mp (af m d7)).2;simp[sZ,this]
 ·obtain⟨b,_,rfl⟩:=d_.mp (show z∈bs.map Value.bool by simpa using l4);have e:=SeqAt.EqAt.bool_bool (A:=X.A.in1) (s:=s) b true;have aN:(b==true)=sZ (.bool b):=by cases b <;> rfl
  rw[aN] at e;exact e
noncomputable def lY [cD](H ag:aB):Prop:=∀F:aj->Prop,e' F H->Ext F H F ag
theorem lY.laid [cD]{H:aB}{p:aj}{o:ed}(aM:H p=none):lY H (upd H p o):=λF d=>Ext.laid d aM
theorem lY.trans [cD]{H H1 bw:aB}(a:lY H H1)(b:lY H1 bw):lY H bw:=λF d=>(a F d).trans (b F (a F d).cb)
abbrev uH(K:a')(C:aj)(c:V):TE:=CD (P8 K C) (iB (gS 2) (iB (jH c) md))
abbrev adG(K:a'):V->List V->aB->c0->Prop:=λx vs H Q=>∃(l:aj) (bs:List Bool),x=.ref l/\vs=[.b5 true]/\fi K H l (bs.map V.b5)/\Q (.int (bs.countP id:Nat)) H
abbrev adH(K:a'):V->List V->aB->c0->Prop:=λx vs H Q=>∃(l:aj) (bs:List Bool) (j:Nat),x=.ref l/\vs=[.b5 true]/\fi K H l (bs.map V.b5)/\bs[j]?=some true/\(∀m,m<j->bs[m]?=some false)/\Q (.int (j:Nat)) H
abbrev MN(K:a')(C gu gs cd cP:aj):fU:=
 CF (sI (Qt (iB (uH K C (.ref gu)) (iB (uH K C (.ref gs)) (iB (uH K C (.ref cd)) (iB (uH K C (.ref cP)) md))))) (tm 3))
 (CF (sI (wg (iB (jH (.str "refused")) (iB (Qw (Kl λi=>.int (-i)) (jH (.int 1))) md))) (tm 1)) (Qs (Qr (Kx (uH K C (.ty "ValueError"))) (Un (uI P7 (Ky K "list" (adG K) (gS 3) (iB (jH (.b5 true)) md)) (jH (.int 1))))) (sI (wg (iB (jH (.str "refused")) (iB (Ky K "list" (adH K) (gS 3) (iB (jH (.b5 true)) md)) md))) (tm 1)) Uo))
structure Kinds(K:a')(C gu gs cd cP:aj)(bs:List Bool)(j:Nat):Prop where
 gH:∃gH b6 b7 dO,bs=[gH,b6,b7,dO]/\ob K (.ref C) (.ref gu)=some gH/\ob K (.ref C) (.ref gs)=some b6/\ob K (.ref C) (.ref cd)=some b7/\ob K (.ref C) (.ref cP)=some dO
 QA:ob K (.ref C) (.type "ValueError")=some true
 one:bs.countP id=1
 hit:bs[j]?=some true
 no:∀m,m<j->bs[m]?=some false
def agL [cD]{K:a'}{C gu gs cd cP ea:aj}{bs:List Bool}{j:Nat}(b9:Kinds K C gu gs cd cP bs j){D:Ends}{σ:bu.St}{H:aB}(aI:σ.length=4)(he:σ[2]?=some (some (.ref ea)))(hx:H ea=some (.ext (jN ea C)))
  (k:∀ag p cj,lY H ag->ag p=some (.tup [.str "refused",.int j])->cj.length=4->cj[1]?=some (some (.ref p))->D.bG cj ag):MN K C gu gs cd cP D σ H:=by
 obtain⟨⟨gH,b6,b7,dO,rfl,k0,k1,k2,k3⟩,QA,one,hit,no⟩:=b9;have oW:∀{c:V} {cv:ao} {b:Bool} {σ:bu.St} {H:aB} {Q:c0},σ[2]?=some (some (.ref ea))->H ea=some (.ext (jN ea C))->(∀u,RelV c u->u=cv)->ob K (.ref C) cv=some b->Q (.b5 b) H->uH K C c σ H Q:=
  λ{c cv b σ H Q} aw aN dv gL q=>⟨_,aw,ea,c,cv,b,rfl,aN,dv,gL,q⟩
 refine oW he hx (cv:=.ref gu) (λu r=>r) k0 (oW he hx (cv:=.ref gs) (λu r=>r) k1 (oW he hx (cv:=.ref cd) (λu r=>r) k2 (oW he hx (cv:=.ref cP) (λu r=>r) k3 ?_)))
 refine⟨by show 4<=cn;decide,λp aM=>?_⟩
 refine⟨1,rfl,?_⟩
 refine⟨by show 2<=cn;decide,λeN uf=>?_⟩
 have g1:lY H (upd H p (.lst [.b5 gH,.b5 b6,.b5 b7,.b5 dO])):=lY.laid aM;have g2:=g1.trans (lY.laid (o:=.tup [.str "refused",.int (-1)]) uf);have ne1:ea≠p:=by rintro rfl;rw[hx] at aM;cases aM
 have HR:upd H p (.lst [.b5 gH,.b5 b6,.b5 b7,.b5 dO]) ea=some (.ext (jN ea C)):=by rw[cR ne1];exact hx
 have ne2:ea≠eN:=by rintro rfl;rw[HR] at uf;cases uf
 have ne3:p≠eN:=by rintro rfl;rw[dU] at uf;cases uf
 have aN:((σ.set 3 (some (V.ref p))).set 1 (some (V.ref eN)))[2]?=some (some (.ref ea)):=by rw[List.getElem?_set_ne (by decide),List.getElem?_set_ne (by decide)];exact he
 have dv:((σ.set 3 (some (V.ref p))).set 1 (some (V.ref eN)))[3]?=some (some (.ref p)):=by rw[List.getElem?_set_ne (by decide),List.getElem?_set_self (by omega)]
 have fZ:upd (upd H p (.lst [.b5 gH,.b5 b6,.b5 b7,.b5 dO])) eN (.tup [.str "refused",.int (-1)]) p=some (.lst [.b5 gH,.b5 b6,.b5 b7,.b5 dO]):=by rw[cR ne3,dU]
 have Cz:fi K (upd (upd H p (.lst [.b5 gH,.b5 b6,.b5 b7,.b5 dO])) eN (.tup [.str "refused",.int (-1)])) p ([gH,b6,b7,dO].map V.b5):=.inl (.inl fZ);refine oW aN (by rw[cR ne2];exact HR) (cv:=.type "ValueError") (λu r=>r) QA ⟨true,rfl,?_⟩;refine so ?_;refine⟨_,dv,.inl ⟨rfl,_,Cz⟩,p,[gH,b6,b7,dO],rfl,rfl,Cz,rfl,⟨true,?_,?_⟩⟩
 ·rw[one];rfl
 ·refine so ?_
  refine⟨_,dv,.inl ⟨rfl,_,Cz⟩,p,[gH,b6,b7,dO],j,rfl,rfl,Cz,hit,no,?_⟩
  refine⟨by show 2<=cn;decide,λv_ Z_=>?_⟩
  refine k _ v_ _ (g2.trans (lY.laid Z_)) dU ?_ ?_
  ·simp[aI]
  ·rw[List.getElem?_set_self (by simp[aI])]
end
section
variable [cD]
abbrev AH(P:cu)(w:b8)(K:a')(mg:Str->Option ao)(base:bL)(N:List Str)(qual:Str)(scope:Scope)(q:aj)(cd:ao)(cl:List (Str×aj))(A:cp)(outer:List Env)(s:aH)(H:aB)(E:e5):aY:=
 (mL P w K mg base N qual scope q cd cl A outer s H).kR λe s'=>a0 (bA P w) (A.deeper (lq qual scope s.heap.objs.size q cd cl)) (leaving (lq qual scope s.heap.objs.size q cd cl) e) (λ_ lI=>mC P w outer H s E e lI) (λbx lI=>mC P w outer H s E bx lI) s'
section
variable {P:cu}{w:b8}{K:a'}{mg:Str->Option ao}{base:bL}{k:Nat}{q bZ:aj}{N:List Str}{qual:Str}{scope:Scope}{cl:List (Str×aj)}{A:cp}{outer:List Env}{s:aH}{H:aB}{σ:bu.St}{C:aj}
def aiC{params:Arguments}{body:bt}{pm gJ:ao}{r:hA}{E:e5}(aL:scope.kind=.function)(nN:scope.isCoroutine=false)(nO:scope.isGenerator=false)(iv:∀x∈scope.names,x.2≠.cell)
  (af:∀(A:cp) (outer:List Env) (s:aH) (H:aB) (E:e5),c9 k (A.deeper (unop%WC 0))->rO (AH P w K mg base N qual scope q (.ref bZ) cl A outer s H E) C body r)
  (bd:bindArgs (PySem.W.kla_fn "<lambda>" qual params body scope cl pm (.ref bZ) gJ) ⟨[],[]⟩=pure [])
  (ay:c9 (k+1) A) (bP:kA P w K mg base A outer s H) (aX:H q=some (nT (PySem.W.kla_obj "<lambda>" qual params body scope cl pm bZ gJ) q)) (ax:H bZ=some (tS bZ qual)) (Vf:qs N scope cl σ H s.heap)
  (h:∃aJ f9 O F ai,cJ K aJ f9 O F H ai σ/\r ai=true/\∀aE ag,Ext F H aE ag->E (.ref C) none ag):hu (bA P w) A (.call (.ref q) ⟨[],[]⟩) (om (mC P w) outer P w H s (λ_ _=>False) E) s:=by
 have yH:s.heap.NoLimit:=bP.mod.nolimit.keeps λb o e=>(bP.bs b o e).1;refine PySem.W.kla_callFunE ay.depth (bP.bF q _ aX).1 rfl nN nO rfl (bP.bF bZ _ ax).1 ?_;rw[bd];refine bX (CV iv (λx hx=>by cases hx) (λe2 l3 oS=>⟨yH.fresh _ oS,?_⟩) aL);have aG:∀b o,s.heap.get? b=some o->e2.get? b=some o:=λb o e=>oS.extBut b o (eQ (c2 e)) (cQ _ e);show hu _ _ (.expr body (unop%WC 0)) _ _;refine PySem.W.kla_codeExpr ?_;have EE:Inv (mL P w K mg base N qual scope q (.ref bZ) cl A outer s H) [] σ H {s with heap:=e2,toks:=s.toks+([]:List (Str×ao)).length}:=RG aL ay.hd bP Vf l3 aG;have I:Inv (AH P w K mg base N qual scope q (.ref bZ) cl A outer s H E) [] σ H {s with heap:=e2,toks:=s.toks+([]:List (Str×ao)).length}:=EE.kR _;obtain⟨aJ,f9,O,F,ai,g6,iM,iU⟩:=h;refine et (af A outer s H E (ay.deeper _) [] _ σ H (λ_ _=>False) I ⟨aJ,f9,O,F,ai,g6,iM,λaE ag x ak Nh H1 s1 aw s2 ba t=>?_⟩) (λu s' az=>?_) λe s' az=>az
 ·exact et (Ss (X:=AH P w K mg base N qual scope q (.ref bZ) cl A outer s H E) (E:=E) (Z:=λ_ _=>False) ba t (iU aE ag x)) (λ_ _ z=>z) λ_ _ z=>z.elim
 ·obtain⟨_,_,_,_,z⟩:=az;exact z.elim
end
noncomputable def amQ(X:aY)(C:aj)(ag:aB):Prop:=∀(ak:List (aj×Obj)) (σ:bu.St) (H:aB) (s:aH) (e:ao) (s':aH),Inv X ak σ H s->Ex X.prog X.w X.stack H s C ag e s'->X.di e s'
noncomputable def MO(X:aY)(C:aj)(i:Nat):TE:=λσ H _=>∃q,σ[i]?=some (some (.ref q))/\(∃(o:Obj) (fd:er),H q=some (nT o q)/\o.data=.func fd) /\
 ∀(ak:List (aj×Obj)) (s:aH),Inv X ak σ H s->hu (unop%Wk 0) X.A (.call (.ref q) ⟨[],[]⟩) (om (mC X.prog X.w) X.stack X.prog X.w H s (λ_ _=>False) λcl _ ag=>∃pC,cl=.ref pC/\amQ X pC ag) s
def aju{X:aY}{C:aj}{i:Nat}{x:Str}{p pos:Pos}(bc:b0 X (.Name x p) (gS i)):b0 X (.Call (.Name x p) [] [] pos) (MO X C i):=by
 intro ak s σ H Q I ⟨q,aX,⟨o,fd,aK,Hq⟩,ax⟩;refine nc (cH (bc ak s σ H (λv H1=>v=.ref q/\H1=H) I ⟨.ref q,aX,rfl,rfl⟩) λv s1 hqq=>?_);obtain⟨y,H1,ba,bD,fI,hk⟩:=hqq;subst fI;subst hk;cases bD;have ck:PySem.W.FnAt q s1.heap:=by
  have ah:s1.heap.get? q=some o:=(ba.bF q _ aK).1;obtain⟨c,pL,qL,cG⟩:=o;cases Hq;exact⟨_,_,_,_,ah⟩
 refine PySem.W.callWith_F0 ck ?_
 refine qh (nd (ax ak s1 ba) λr s' aX=>?_)
 cases r with
|error e=>
  obtain⟨UD,ag,dt,UE,aN,ok⟩:=aX;cases aN;exact ok ak σ H1 s1 e s' ba dt
|ok dt=>
  cases dt with
  |ret u=>
   obtain⟨_,_,_,_,_,_,_,z⟩:=aX;exact z.elim
  |next=>exact d6 aX
  |brk=>exact d6 aX
  |cont=>exact d6 aX
noncomputable def D'(X:aY)(C:aj)(j:Nat):fU:=λD σ H=>∃q,σ.length=4/\σ[0]?=some (some (.ref q))/\(∃(o:Obj) (fd:er),H q=some (nT o q)/\o.data=.func fd)/\∃tv:aB->Prop,
 (∀(ak:List (aj×Obj)) (s:aH),Inv X ak σ H s->hu (unop%Wk 0) X.A (.call (.ref q) ⟨[],[]⟩) (om (mC X.prog X.w) X.stack X.prog X.w H s (λ_ _=>False) λcl _ ag=>cl=.ref C/\tv ag) s) /\
 ∀ag,tv ag->∀anE p,lY ag anE->anE p=some (.tup [.str "refused",.int j])->D.dE (.ref p) anE
abbrev aY.bears(X:aY)(du:List (aj×Obj))(E:ao->aH->Prop):aY:={X with du:=du,di:=E}
def aiJ{X:aY}{ak:List (aj×Obj)}{σ:bu.St}{H:aB}{s:aH}(I:Inv X ak σ H s)(E:ao->aH->Prop):Inv (aY.bears X (X.du++ak) E) [] σ H s:=
 ⟨⟨I.ok.mod,I.ok.kind,I.ok.glob,I.ok.blt,I.ok.above,I.ok.inj,I.ok.has,I.ok.tQ,I.ok.hd,I.ok.frames,I.ok.p8,I.ok.vN,I.ok.bs,I.ok.mI,I.ok.uy,I.ok.tY,I.ok.kb,I.ok.nI⟩,I.os,I.bare,I.base,I.loc,I.cell,I.free,I.ka,λp aM=>I.pin p (by simpa using aM),I.bF,I.len⟩
def Rm{X:aY}{ak Ci:List (aj×Obj)}{σ:bu.St}{H:aB}{s:aH}{E:ao->aH->Prop}(ok:X.Ok)(I:Inv (aY.bears X (X.du++ak) E) Ci σ H s):Inv X ak σ H s:=
 ⟨ok,I.os,I.bare,I.base,I.loc,I.cell,I.free,I.ka,λp aM=>I.pin p (List.mem_append_left _ aM),I.bF,I.len⟩
def ajo{X:aY}{C eh gu gs cd cP:aj}{bs:List Bool}{j:Nat}{body p9:List Stmt}{pK:Stmt}{np pos sj Kq uz:Pos}
  (qQ:∀(du:List (aj×Obj)) (E:ao->aH->Prop),fS (aY.bears X du E) body (sI (wg (iB (jH (.str "told")) (iB (MO (aY.bears X du E) C 0) md))) (tm 1)))
  (HM:∀ea,fS (aY.sm X ea) (pK::p9) (MN X.K C gu gs cd cP)) (b9:Kinds X.K C gu gs cd cP bs j)
  (hm:X.mg "DoorError"=some (.ref eh)) (ah:PySem.W.typeIn X.K (.ref eh)=some (.type "type")) (ar:PySem.W.mroIn X.K eh (.type "BaseException")=some true) (bk:PySem.W.mroIn X.K C (.ref eh)=some true) (ax:(PySem.W.clsIn X.K eh).isSome=true)
  (HJ:b0 X (.Name "_law_found" uz) (gS 1))
  (dw:X.N.Nodup) (aQ:X.N[2]?=some ("e":Str)) (hlen:X.N.length=4) (nP:X.env.kindOf "e"=some .local) (gg:X.stack=X.env::X.outer) (hf:X.env.frame=some X.env.locals) (bg:dZ X "DoorError"):
  fS X [.Try body [.ExceptHandler (some (.Name "DoorError" np)) (some "e") (pK::p9) sj] [] [] pos,.Return (some (.Name "_law_found" uz)) Kq] (D' X C j):=by
 have _m:hY X (.Try body [.ExceptHandler (some (.Name "DoorError" np)) (some "e") (pK::p9) sj] [] [] pos) (λD σ H=>∃q,σ.length=4/\σ[0]?=some (some (.ref q))/\(∃(o:Obj) (fd:er),H q=some (nT o q)/\o.data=.func fd)/\∃tv:aB->Prop,
   (∀(ak:List (aj×Obj)) (s:aH),Inv X ak σ H s->hu (unop%Wk 0) X.A (.call (.ref q) ⟨[],[]⟩) (om (mC X.prog X.w) X.stack X.prog X.w H s (λ_ _=>False) λcl _ ag=>cl=.ref C/\tv ag) s) /\
   ∀ag,tv ag->∀anE p Ng,lY ag anE->anE p=some (.tup [.str "refused",.int j])->Ng[1]?=some (some (.ref p))->D.bG Ng anE):=by
  intro ak s σ H D I ⟨q,aI,aX,Hz,tv,sd,aL⟩;refine wpAny_Try_except ?_
  let mF:ao->aH->Prop:=λe cZ=>a0 (unop%Wk 0) X.A (noteFrame e X.env) (λ_ jZ=>a0 (unop%Wk 0) X.A (setFlight e none) (λ_ p_=>a0 (unop%Wk 0) X.A (handleBy e X.env [.ExceptHandler (some (.Name "DoorError" np)) (some "e") (pK::p9) sj]) (bu.qC X ak D) X.di p_) X.di jZ) X.di cZ
  refine et (qQ (X.du++ak) mF [] s σ H {bG:=λ_ _=>False,dE:=λ_ _=>False} (aiJ I mF) ⟨q,aX,Hz,λCi s2 cq=>?_⟩) (λf s1 az=>?_) λe s1 he=>he
  ·refine nd (sd (ak) s2 (Rm I.ok cq)) λr s' ay=>?_
   cases r with
   |ok dt=>
    cases dt with
    |ret u=>exact ay
    |next=>exact ay
    |brk=>exact ay
    |cont=>exact ay
   |error e=>
    obtain⟨UD,ag,dt,aw,Kd⟩:=ay;cases aw;refine⟨C,ag,dt,C,rfl,λano nx eZ s3 dv s4 ej YY=>?_⟩;have J:=Rm I.ok ej;have yB:nx.length=4:=by rw[J.len,hlen]
    refine ajY (i:=2) J YY hm ah ar bk ax HM (λea ZG=>agL b9 (ea:=ea) (by simp[yB]) (List.getElem?_set_self (by omega)) dU λanE p cj g aM ZU dI=>?_) dw aQ nP gg hf bg (by decide)
    refine aL ag Kd anE p _ ((lY.laid ZG).trans g) aM ?_
    rw[List.getElem?_set_ne (by decide)];exact dI
  ·cases f with
   |next=>obtain⟨_,_,_,z⟩:=az;exact d6 z
   |brk=>obtain⟨_,_,_,z⟩:=az;exact d6 z
   |cont=>obtain⟨_,_,_,z⟩:=az;exact d6 z
   |ret u=>obtain⟨_,_,_,_,_,z⟩:=az;exact d6 z
 refine zY (vb _m (vf (xa HJ))) λD σ H hqq=>?_;obtain⟨q,aI,aX,Hz,tv,sd,aL⟩:=hqq
 exact⟨q,aI,aX,Hz,tv,sd,λag Kd anE p Ng g aM dI=>⟨_,dI,aL ag Kd anE p g aM⟩⟩
noncomputable def xi(f:jo)(r:hA)(j:Nat):jo:=λai=>if r ai=true then some (.tuple [.str "refused",.int j],ai) else Eg f ai
def aj6{X:aY}{k:Nat}{x:Str}{st:Stmt}{ck:aj}{fd:er}{m7 o_ pd zg:Str}{params:Arguments}{body:bt}{scope:Scope}{hI p pos:Pos}{c jr C:aj}{f:jo}{r:hA}{j:Nat}
  (F:cK X.K x x st ck fd) (S:cW [m7,o_,pd,zg] [m7] (bQ st)) (bd:f7 X.K fd [m7] []) (hm:X.mg x=some (.ref ck))
  (bp:∀(b3:ao) (A:cp) (outer:List Env) (s:aH) (H:aB),fS (unop%Wr 0).d9 (fh st) (M9 (unop%Wr 0).d9))
  (au:∀(b3:ao) (A:cp) (outer:List Env) (s:aH) (H:aB),fS (unop%Wr 0).d9 (fh st) (D' (unop%Wr 0).d9 C j))
  (qS:X.env.code=.ref c) (eg:ri X.K c jr=true) (iR:ny X.mg X.base) {anL:Str} (oU:(jr,anL)∈cD.de) (sl:∀p∈cD.de,p.1=jr->p.2=anL)
  (ay:c9 (k+2) X.A)
  (af:∀(q bZ:aj) (cl:List (Str×aj)) (A:cp) (outer:List Env) (s:aH) (H:aB),c9 k (unop%Ws 0)->oy (mL X.prog X.w X.K X.mg X.base X.N (unop%WS 0) scope q (.ref bZ) cl A outer s H) body f)
  (Zv:∀(q bZ:aj) (cl:List (Str×aj)) (A:cp) (outer:List Env) (s:aH) (H:aB) (E:e5),c9 k (unop%Ws 0)->rO (AH X.prog X.w X.K X.mg X.base X.N (unop%WS 0) scope q (.ref bZ) cl A outer s H E) C body r)
  (uh:(decide (scope.kind=.function) && !scope.isCoroutine && !scope.isGenerator && scope.names.all λy=>decide (y.2≠.cell) && decide (y.2≠.local))=true:=by rfl)
  (gN:(scope.names.all λy=>decide (y.2≠.free) || decide (X.env.scope.names.lookup y.1=some .cell))=true:=by rfl)
  (vG:∀(cl:List (Str×aj)) (pm:ao) (bZ:aj) (gJ:ao),bindArgs (PySem.W.kla_fn "<lambda>" (unop%WS 0) params body scope cl pm (.ref bZ) gJ) ⟨[],[]⟩=pure []:=by intros;rfl)
  (bg:dZ X x:=by rfl) (fD:(x==("__debug__":Str))=false:=by decide) (se:defaultsOf params X.env=([],[]):=by rfl)
  (he:a9 [.Lambda params body scope hI] X.env=(false,eval (.Lambda params body scope hI) X.env)::a9 [] X.env:=by rfl) (vX:X.env.qual++"<lambda>"=anL:=by rfl):
  oy X (.Call (.Name x p) [.Lambda params body scope hI] [] pos) (xi f r j):=by
 subst vX;simp only[gV,Bool.not_eq_true',decide_eq_true_eq,List.all_eq_true] at uh;obtain⟨⟨⟨aL,nN⟩,nO⟩,iv⟩:=uh;simp only[List.all_eq_true,Bool.or_eq_true,decide_eq_true_eq] at gN;have vU:∀y∈scope.names,y.2=.free->X.env.scope.names.lookup y.1=some .cell:=λy a7 hf=>by
  rcases gN y a7 with z|z
  ·exact absurd hf z
  ·exact z
 intro ak s σ H Q I ⟨aJ,E,O,aE,ai,t,ε',g6,e,b9⟩;have Ao:=PySem.W.codeHd_of_K I.ok.mod.oX eg;unfold xi at e;by_cases iM:r ai=true
 case neg=>
  rw[if_neg iM] at e;exact ak6 F S bd hm bp qS Ao iR oU sl aL nN nO (λy a7=>iv y a7) vU vG ay af bg fD se he ak s σ H Q I ⟨aJ,E,O,aE,ai,t,ε',g6,e,b9⟩
 rw[if_pos iM] at e;cases e;refine nc (vh I bg hm ?_ fD);refine PySem.W.callWith_K (h₀:=X.base) I.ok.mod.oX F.aG ?_ he rfl;rw[he];show a0 _ _ (spliced ((false,eval (.Lambda params body scope hI) X.env)::[])) _ _ s;have aI:∀x∈scope.names,x.2=.free->∃c,X.env.cells.lookup x.1=some c:=λx hx hf=>I.ok.has x.1 (.inl (vU x hx hf));refine Calls.spliced_cons (Mf I qS Ao iR se (Dn aI) g6.cb.m4 oU sl λq bZ gJ H1 s1 ba n1 y_ vX aX ax=>Calls.spliced_nil ⟨ba.jU,?_⟩);have aS:Ext aE H aE H1:=⟨n1,λ_ h=>h,λ_ h=>.inl h,⟨λa aA=>by
  obtain⟨o,aK⟩:=g6.cb.vH a aA;exact n1.ne aK,y_⟩⟩
 have fin:hu (unop%Wk 0) X.A (.call (.ref ck) ⟨[.ref q],[]⟩) (om dC X.stack X.prog X.w H1 s1 Q j_) s1:=by
  refine SS (k:=k+1) (vs:=[.ref q]) F S bd ay ba.tX (.cons rfl .nil) rfl λb3 qY=>⟨_,au b3 X.A X.stack s1 H1,?_⟩
  refine⟨q,rfl,rfl,⟨_,_,aX,rfl⟩,λag=>∃dr,Ext aE H1 dr ag,λCi s2 cq=>?_,?_⟩
  ·have caps:qs X.N scope (unop%WH 0) σ H1 s2.heap:=by
    have cT:=Tv ba iv vU;have aG:∀{a:aj} {v:Option ao},s1.heap.IsCell a v->H1 a=none->s2.heap.IsCell a v:=λ{a v} z n=>R6 cq.base z n (by intro z;exact absurd (show a∈([]:List aj) from z) (by simp));refine⟨cT.inj,cT.has,λx c h=>?_,cT.len,λi x v ah ar bk=>?_⟩
    ·obtain⟨⟨v,bh⟩,bc⟩:=cT.r2 x c h;exact⟨⟨v,aG bh bc⟩,bc⟩
    ·obtain⟨u,c,cY,hf,ke,hx⟩:=cT.val i x v ah ar bk;exact⟨u,c,cY,hf,ke,aG hx (cT.r2 x c ke).2⟩
   exact aiC aL nN nO (λx hx=>(iv x hx).1) (Zv q bZ _) (vG _ _ _ _) qY cq.tX aX ax caps ⟨aJ,E,O,aE,ai,g6.ext aS,iM,λdr bw bN=>⟨rfl,dr,bN⟩⟩
  ·rintro ag ⟨dr,bN⟩ anE p g aM;have g_:=g dr bN.cb;refine b9 _ dr _ ((aS.trans bN).trans g_).aG (g6.ext ((aS.trans bN).trans g_)) ?_;simp only[Rep];exact⟨p,_,rfl,c'.of aM,bB.cons (by simp[Rep]) (bB.cons (by simp[Rep]) bB.nil)⟩
 refine qh (nd fin λr s' aX=>?_)
 cases r with
|error e=>exact d6 aX
|ok dt=>
  cases dt with
  |ret u=>exact ba.after aX
  |next=>exact d6 aX
  |brk=>exact d6 aX
  |cont=>exact d6 aX
end
section
variable [cD]
noncomputable def vq(a:Str):T->Option T
|.str x=>if (reprText x).length<=10000/\a.length<=1000 then some (.str (Str.empty++a++reprText x)) else none
|.int i=>if i.natAbs<1000/\a.length<=1000 then some (.str (Str.empty++a++Str.ofString (toString i))) else none
|_=>none
def alo{X:aY}{e:bt}{f:bY}{a:Str}{j:Nat}{lC eN v_:Pos}(he:ey X e f):cO X (.JoinedStr [.Constant (.str a) j lC,.FormattedValue e 114 none eN] v_) (cX (vq a) f):=by
 intro ak s σ H Q I ⟨aJ,E,O,F,ai,t,r,aw,k⟩;simp only[cX,cf] at aw;obtain⟨x,ex,aw⟩:=aw;have emp:∀y:Str,(Str.empty++y).length=y.length:=λy=>by rw[strLen_append];simp[Str.empty,Str.length]
 have app:∀y z:Str,(Str.empty++y++z).length=y.length+z.length:=λy z=>by rw[strLen_append,emp]
 refine wpAny_JoinedStr ?_
 refine Calls.Constant_str ⟨a,_,rfl,?_,?_⟩
 ·rw[emp,jJ];unfold vq at aw;split at aw
  ·split at aw
   next h=>have:=h.2;omega
   next=>cases aw
  ·split at aw
   next h=>have:=h.2;omega
   next=>cases aw
  ·cases aw
 show a0 _ _ (eval (.FormattedValue e 114 none eN) X.env) _ _ _
 refine wpAny_FormattedValue_repr ?_
 refine cH (he ak _ σ H (λv H1=>∃a6,Ext F H a6 H1/\gq X.K O a6 H1 x v) (I.tok _) ⟨aJ,E,O,F,ai,x,r,ex,λv aE ag mf bW=>⟨aE,mf,bW⟩⟩) λu s1 hqq=>?_;obtain⟨v,H1,ba,bW,a6,aS,aU⟩:=hqq
 cases x with
|str y=>
  simp only[vq] at aw;split at aw
  next h=>
   cases aw
   have ev:=aU.str;subst ev;obtain⟨tk,rfl⟩:=bW;have ah:=h.1;have ar:=h.2;refine wpAny_pyReprObj_str ?_ (by rw[jJ];omega);have fin:∀(tt:Tok) (ss:aH),Inv X ak σ H1 ss->∃uU t,Value.str (reprText y) tt=Value.str uU t/\(Str.empty++a++uU).length<=cn/\Joins (unop%Wk 0) X.A X.di [] (Str.empty++a++uU) (λout cZ=>out.length<=cn/\gX X ak σ Q (.str out cZ.toks) {cZ with toks:=cZ.toks+1}) ss:=λtt ss Is=>by
    have au:(Str.empty++a++reprText y).length<=cn:=by rw[app,jJ];omega
    exact⟨_,_,rfl,au,au,⟨.str _,H1,Is.tok _,⟨_,rfl⟩,k _ a6 H1 aS (by simp[Rep])⟩⟩
   exact wpAny_formatField_str (fin _ _ (ba.tok _)) (fin _ _ ((ba.tok _).tok _)) (by rw[jJ];omega)
  next=>cases aw
|int i=>
  simp only[vq] at aw;split at aw
  next h=>
   cases aw
   have ev:=aU.int;subst ev;obtain⟨tk,rfl⟩:=bW;have ah:=h.1;have ar:=h.2;have hd:i.natAbs.log2<1920:=by
    by_cases h0:i.natAbs=0
    ·rw[h0];decide
    ·exact i0 ((Nat.log2_lt h0).mpr (show i.natAbs<2 ^ 10 by omega)) (by decide)
   have ZX:(Str.ofString (toString i)).length<=4300:=by
    have e:=int_text_length_le10 (k:=3) (by decide) (show i.natAbs<10 ^ 3 from ah);rw[PySem.ofString_length];omega
   refine wpAny_pyReprObj_gives (typeIs_int _ i tk) PySem.F.slot_int_repr PySem.F.entry_int_repr (PySem.F.args_int_repr_1 _) (gives_int_repr i tk hd) ?_ rfl (by rw[jJ];exact h9 ZX (by omega))
   have fin:∀(tt:Tok) (ss:aH),Inv X ak σ H1 ss->∃uU t,Value.str (Str.ofString (toString i)) tt=Value.str uU t/\(Str.empty++a++uU).length<=cn/\Joins (unop%Wk 0) X.A X.di [] (Str.empty++a++uU) (λout cZ=>out.length<=cn/\gX X ak σ Q (.str out cZ.toks) {cZ with toks:=cZ.toks+1}) ss:=λtt ss Is=>by
    have au:(Str.empty++a++Str.ofString (toString i)).length<=cn:=by rw[app,jJ];omega
    exact⟨_,_,rfl,au,au,⟨.str _,H1,Is.tok _,⟨_,rfl⟩,k _ a6 H1 aS (by simp[Rep])⟩⟩
   exact wpAny_formatField_str (fin _ _ (ba.tok _)) (fin _ _ ((ba.tok _).tok _)) (by rw[jJ];omega)
  next=>cases aw
|none=>cases aw
|bool b=>cases aw
|tuple b=>cases aw
|list b=>cases aw
|dict b=>cases aw
end
section
noncomputable def En(K:a')(eh gu gs cd cP C:aj)(gH b6 b7 dO:Bool):Bool:=
 (PySem.W.clsIn K C).isSome && (lL K (.ref C) "__getattribute__"==some (some (.builtin "BaseException.__getattribute__"))) && (lL K (.ref C) "__getattr__"==some none)
 && (lL K (.ref C) "__class__"==some (some (.builtin "object.__class__"))) && (PySem.W.specialIn K (.builtin "object.__class__") "__get__"==some (some (unop%WX 0)))
 && (PySem.W.takesIn K (.builtin "object.__class__")==some true) && (PySem.W.mroIn K C (.type "object")==some true) && (PySem.W.mroIn K C (.type "BaseException")==some true)
 && (PySem.W.mroIn K C (.ref eh)==some true) && PySem.W.excIn K C FG "ValueError.__new__"
 && (ob K (.ref C) (.ref gu)==some gH) && (ob K (.ref C) (.ref gs)==some b6) && (ob K (.ref C) (.ref cd)==some b7) && (ob K (.ref C) (.ref cP)==some dO)
 && (ob K (.ref C) (.type "ValueError")==some true)
noncomputable def M7(K:a')(eh:aj):Bool:=(PySem.W.typeIn K (.ref eh)==some (.type "type")) && (PySem.W.mroIn K eh (.type "BaseException")==some true) && (PySem.W.clsIn K eh).isSome
structure tK(K:a')(eh gu gs cd cP C:aj)(j:Nat):Prop where
 ok:rI K C
 mro:PySem.W.mroIn K C (.ref eh)=some true
 new:PySem.W.excIn K C FG "ValueError.__new__"=true
 kinds:∃bs,Kinds K C gu gs cd cP bs j
def akf{K:a'}{eh gu gs cd cP C:aj}{gH b6 b7 dO:Bool}{j:Nat}(h:En K eh gu gs cd cP C gH b6 b7 dO=true)(one:[gH,b6,b7,dO].countP id=1)(hit:[gH,b6,b7,dO][j]?=some true)(no:∀m,m<j->[gH,b6,b7,dO][m]?=some false):
  tK K eh gu gs cd cP C j:=by
 unfold En at h;simp only[gV,beq_iff_eq] at h;obtain⟨⟨⟨⟨⟨⟨⟨⟨⟨⟨⟨⟨⟨⟨ah,ar⟩,bk⟩,cB⟩,gf⟩,r_⟩,r'⟩,vR⟩,G6⟩,Y7⟩,Be⟩,Y8⟩,Y9⟩,Y_⟩,Y'⟩:=h;exact⟨⟨ah,ar,bk,cB,gf,r_,r',vR⟩,G6,Y7,_,⟨gH,b6,b7,dO,rfl,Be,Y8,Y9,Y_⟩,Y',one,hit,no⟩
def amo{K:a'}{eh gu gs cd cP:aj}(h:En K eh gu gs cd cP gs false true false false=true):tK K eh gu gs cd cP gs 1:=akf h rfl rfl λm hm=>by
 obtain rfl:m=0:=by omega
 rfl
structure vA(K:a')(mg:Str->Option ao)(eh gu gs cd cP:aj):Prop where
 door:mg "DoorError"=some (.ref eh)
 nz:mg "NoZone"=some (.ref gu)
 nw:mg "NoWay"=some (.ref gs)
 aV:mg "NoDeed"=some (.ref cd)
 nt:mg "NoText"=some (.ref cP)
 oW:mg "isinstance"=none
 val:mg "ValueError"=none
 ok:M7 K eh=true
section
variable [cD]{X:aY}{C eh gu gs cd cP:aj}{j:Nat}{pos p lC:Pos}
def z5{fa:bt}{c:V}(O:rI X.K C)(z:X.mg "isinstance"=none)(he:b0 X (.Name "e" lC) (gS 2))(ax:b0 X fa (jH c))(bg:dZ X "isinstance":=by rfl)
  (az:a9 [.Name "e" lC,fa] X.env=(false,eval (.Name "e" lC) X.env)::a9 [fa] X.env:=by rfl) (g0:a9 [fa] X.env=(false,eval fa X.env)::a9 [] X.env:=by rfl)
  (hpl:(c3 pos (a9 [fa] X.env)).any (·.1)=false:=by rfl):
  b0 X (.Call (.Name "isinstance" p) [.Name "e" lC,fa] [] pos) (uH X.K C c):=wU (al1 O) bg z PyProof.Rows.Boot.«isinstance» (e3 he (e3 ax hb g0) az) (he:=az) (hpl:=hpl)
def ak9{body p9:List Stmt}{pK:Stmt}{np pos sj Kq uz:Pos}(N:vA X.K X.mg eh gu gs cd cP)(R:tK X.K eh gu gs cd cP C j)
  (qQ:∀(du:List (aj×Obj)) (E:ao->aH->Prop),fS (aY.bears X du E) body (sI (wg (iB (jH (.str "told")) (iB (MO (aY.bears X du E) C 0) md))) (tm 1)))
  (HM:∀ea,fS (aY.sm X ea) (pK::p9) (MN X.K C gu gs cd cP)) (HJ:b0 X (.Name "_law_found" uz) (gS 1))
  (dw:X.N.Nodup) (aQ:X.N[2]?=some ("e":Str):=by rfl) (hlen:X.N.length=4:=by rfl) (nP:X.env.kindOf "e"=some .local:=by rfl) (gg:X.stack=X.env::X.outer:=by rfl) (hf:X.env.frame=some X.env.locals:=by rfl) (bg:dZ X "DoorError":=by rfl):
  fS X [.Try body [.ExceptHandler (some (.Name "DoorError" np)) (some "e") (pK::p9) sj] [] [] pos,.Return (some (.Name "_law_found" uz)) Kq] (D' X C j):=by
 have ok:=N.ok;unfold M7 at ok;simp only[gV,beq_iff_eq] at ok;obtain⟨⟨ah,ar⟩,bk⟩:=ok;obtain⟨bs,b9⟩:=R.kinds;exact ajo qQ HM b9 N.door ah ar R.mro bk HJ dw aQ hlen nP gg hf bg
end
end
section
variable [cD]
def il.at{X:aY}{ak:List (aj×Obj)}{H ag:aB}{b:aj}(h:il X ak H b)(e:ag b=none):il X ak ag b:=⟨e,h.2⟩
end
section
variable [cD]
def ajZ{X:aY}{ak:List (aj×Obj)}{σ:bu.St}{H:aB}{s:aH}{scope:Scope}{y:Str}(I:Inv X ak σ H s)(iv:∀x∈scope.names,x.2≠.cell)(nP:∀x∈scope.names,x.2=.local->x.1=y)(a7:y∉X.N)(gN:∀x∈scope.names,x.2=.free->X.env.scope.names.lookup x.1=some .cell):
  qs X.N scope (unop%WH 0) σ H s.heap:=by
 have aI:∀x∈scope.names,x.2=.free->∃c,X.env.cells.lookup x.1=some c:=λx hx hf=>I.ok.has x.1 (.inl (gN x hx hf));have fr:∀x c,(unop%WH 0).lookup x=some c->X.env.cells.lookup x=some c:=wN aI λx c e=>by cases e
 refine⟨λx y c ah ar=>I.ok.inj x y c (fr x c ah) (fr y c ar),λx h=>?_,λx c h=>⟨I.cell x c (fr x c h),I.ka x c (fr x c h)⟩,I.len,λi x v ah ar bk=>?_⟩
 ·rcases h with h|h
  ·obtain⟨y,a7,aw,aN⟩:=oc h;exact absurd aw (iv y a7)
  ·obtain⟨y,a7,aw,aN⟩:=oc h;exact sX (.inl ⟨y,a7,aw,aN⟩)
 ·have hf:scope.names.lookup x=some .free:=by
   rcases bk with h|h|h
   ·obtain⟨z,au,aw,aN⟩:=oc h;have:=nP z au aw;rw[aN] at this;exact absurd (this▸pb ah) a7
   ·obtain⟨y,a7,aw,_⟩:=oc h;exact absurd aw (iv y a7)
   ·exact h
  obtain⟨y,a7,aw,aN⟩:=oc hf;have aL:X.env.scope.names.lookup x=some .cell:=by rw[<- aN];exact gN y a7 aw
  obtain⟨m,_,bh⟩:=I.loc;obtain⟨u,cY,lk⟩:=bh i x v ah ar (.inr (.inl aL));obtain⟨c,ax⟩:=sX (env:=X.env) (l:=scope.names) (cs:=[]) (x:=x) (.inl ⟨y,a7,aw,aN⟩);refine⟨u,c,cY,hf,ax,?_⟩;rcases lk with ⟨Hw,_⟩|⟨_,dp,ke,hx⟩
  ·have:X.env.scope.names.lookup x=some .local:=Hw;rw[aL] at this;cases this
  ·rw[fr x c ax] at ke;cases ke;exact hx
def cJ.W9{K:a'}{aJ O F:aj->Prop}{E:f9}{H:aB}{ai:Ev}{σ:bu.St}{d:T}{v:V}(r:cJ K aJ E O F H ai σ)(jD:Rep K F H d v):cJ K aJ E O F H (some (.aa d)::ai) (some v::σ):=by
 refine⟨by simp[r.len],λi s e=>?_,λi j s u v1 m6 kg aw aN dK en ah ar=>?_,r.ent,r.o0,r.fr⟩
 ·cases i with
  |zero=>
   simp at e;subst e;exact⟨v,rfl,jD⟩
  |succ i=>exact r.val i s (by simpa using e)
 ·cases i with
  |zero=>
   simp at aw;subst aw;cases dK
  |succ i=>
   cases j with
   |zero=>
    simp at aN;subst aN;cases en
   |succ j=>exact r.ne i j s u v1 m6 (by omega) (by simpa using aw) (by simpa using aN) dK en (by simpa using ah) (by simpa using ar)
section
variable {P:cu}{w:b8}{K:a'}{mg:Str->Option ao}{base:bL}{k:Nat}{q bZ:aj}{N:List Str}{qual:Str}{scope:Scope}{cd:ao}{cl:List (Str×aj)}{A:cp}{outer:List Env}{s:aH}{H:aB}{σ:bu.St}{y:Str}
def ahK{ah:bL}{tk:Nat}{m:Str->Option ao}{v:V}{u:ao}(aL:scope.kind=.function)(hd:A.handled=none)(bP:kA P w K mg base A outer s H)(C:qs N scope cl σ H s.heap)(l3:ah.Ns s.heap.objs.size m)(a7:scope.names.lookup y=some .local)(hm:m y=some u)(bW:RelV v u)(aG:∀b o,s.heap.get? b=some o->ah.get? b=some o):
  Inv (mL P w K mg base (y::N) qual scope q cd cl A outer s H) [] (some v::σ) H {s with heap:=ah,toks:=tk}:=by
 have mY:∀b:aj,b∉(mL P w K mg base (y::N) qual scope q cd cl A outer s H).ex:=λb z=>absurd (show b∈([]:List aj) from z) (by simp);refine⟨⟨bP.mod,aL,rfl,rfl,dy _,C.inj,C.has,λy c hf _=>(by cases hf),λ_=>hd,Around.frames_deeper bP.frames,.inr ⟨rfl,rfl⟩,λb z=>absurd z (mY b),bP.bs,bP.mI,λb _ _=>mY b,λb z=>absurd z (mY b),bP.kb,bP.nI⟩,
  rfl,bP.bare,fV.kept aG,⟨m,l3,λi x v1 dI ar bk=>?_⟩,λy c h=>?_,bP.bF.fresh (dy _),λy c h=>(C.r2 y c h).2,λp aM=>absurd (show p∈([]:List (aj×Obj)) from aM) (by simp),bP.bF.kept aG,by
  show (some v::σ).length=(y::N).length
  simp[C.len]⟩
 ·replace dI:(y::N)[i]?=some x:=dI;cases i with
  |zero=>
   have aw:y=x:=by simpa using dI
   have aN:v=v1:=by simpa using ar
   subst aw aN;exact⟨u,bW,.inl ⟨a7,hm⟩⟩
  |succ i=>
   obtain⟨u,c,cY,hf,ax,hx⟩:=C.val i x v1 (by simpa using dI) (by simpa using ar) bk;exact⟨u,cY,.inr ⟨.inr hf,c,ax,Dv hx aG⟩⟩
 ·obtain⟨⟨v,bh⟩,_⟩:=C.r2 y c h;exact⟨v,Dv bh aG⟩
def aiD{params:Arguments}{body:bt}{pm gJ:ao}{g:bY}{Q:c0}{Nw:e5}(aL:scope.kind=.function)(nN:scope.isCoroutine=false)(nO:scope.isGenerator=false)(iv:∀x∈scope.names,x.2≠.cell)(a7:scope.names.lookup y=some .local)
  (af:∀(A:cp) (outer:List Env) (s:aH) (H:aB),c9 k (A.deeper (unop%WC 0))->cO (mL P w K mg base (y::N) qual scope q (.ref bZ) cl A outer s H) body g)
  {u:ao} {v:V} (bd:bindArgs (PySem.W.kla_fn "<lambda>" qual params body scope cl pm (.ref bZ) gJ) ⟨[u],[]⟩=pure [(y,u)])
  (ay:c9 (k+1) A) (bP:kA P w K mg base A outer s H) (aX:H q=some (nT (PySem.W.kla_obj "<lambda>" qual params body scope cl pm bZ gJ) q)) (ax:H bZ=some (tS bZ qual)) (C:qs N scope cl σ H s.heap) (bW:RelV v u)
  {aJ O F:aj->Prop} {E:f9} {ai:Ev} {d t:T} (r:cJ K aJ E O F H ai σ) (jD:Rep K F H d v) (e:g (some (.aa d)::ai)=some t) (iU:∀v aE ag,Ext F H aE ag->Rep K aE ag t v->Q v ag):
  hu (bA P w) A (.call (.ref q) ⟨[u],[]⟩) (om dC outer P w H s Q Nw) s:=by
 have yH:s.heap.NoLimit:=bP.mod.nolimit.keeps λb o e=>(bP.bs b o e).1;refine PySem.W.kla_callFunE ay.depth (bP.bF q _ aX).1 rfl nN nO rfl (bP.bF bZ _ ax).1 ?_;rw[bd];refine bX (CV iv (λx hx=>by rw[kT.mp hx];exact a7) (λe2 l3 oS=>⟨yH.fresh _ oS,?_⟩) aL);have aG:∀b o,s.heap.get? b=some o->e2.get? b=some o:=λb o e=>oS.extBut b o (eQ (c2 e)) (cQ _ e);show hu _ _ (.expr body (unop%WC 0)) _ _;refine PySem.W.kla_codeExpr ?_;have I:Inv (mL P w K mg base (y::N) qual scope q (.ref bZ) cl A outer s H) [] (some v::σ) H {s with heap:=e2,toks:=s.toks+([(y,u)]:List (Str×ao)).length}:=ahK aL ay.hd bP C l3 a7 (by simp) bW aG;refine et (af A outer s H (ay.deeper _) [] _ _ H (λv ag=>Q v ag) I ⟨aJ,E,O,F,_,t,r.W9 jD,e,λv aE ag x q=>iU v aE ag x q⟩) (λu s' az=>?_) λe s' az=>(show False from az).elim;obtain⟨v,ag,J,bW,Kj⟩:=az;exact⟨v,ag,J.os,J.bare,J.base,J.bF,bW,Kj⟩
end
section
variable {M:Model}{A:cp}{E:ao->aH->Prop}{s:aH}{env:Env}
def Uz{pos:Pos}{id:String}{e:bt}{rest:List bt}{ft:List Keyword}{Q:ao->aH->Prop}
  (h:a0 M A (spliced (c3 pos (a9 (e::rest) env))) (λvs s1=>a0 M A (evalAll ((fP pos (fO ft env)).map (·.2))) (λbj s2=>a0 M A (call (.builtin id) vs (((fP pos (fO ft env)).filterMap (·.1)).zip bj)) Q E s2) E s1) E s)
  (he:c3 pos (a9 (e::rest) env)=(false,eval e env)::c3 pos (a9 rest env)) (aM:(c3 pos (a9 (e::rest) env)).any (·.1)=false)
  (aA:(fP pos (fO ft env)).all (·.1.isSome)=true) (aL:(fP pos (fO ft env)).any (·.1.isNone)=false):
  a0 M A (callWith pos (.builtin id) [] (c3 pos (a9 (e::rest) env)) (fP pos (fO ft env))) Q E s:=by
 have Hp:a0 M A (evalArgs (.builtin id) true (c3 pos (a9 (e::rest) env)) (fP pos (fO ft env))) (λa s1=>a0 M A (call (.builtin id) ([]++a.pos) a.kw) Q E s1) E s:=by
  rw[he] at h ⊢;exact evalArgs_kwB aA h
 unfold callWith;refine aO (ia (et Hp (λa s1 g1=>aO (wpAny_standAt ?_)) λ_ _ x=>x));simp only[aM,aL,Bool.or_false];refine aO (bX (aO (et g1 (λr s2 ay=>?_) λ_ _ x=>x)));exact aO (ia (wpAny_point (bX ay)))
end
noncomputable def B2(g:bY)(ai:Ev):T->Option T:=λd=>(g (some (.aa d)::ai)).bind λgi=>if fe gi=true then some gi else none
def al7{X:aY}{C:aj}{e:bt}{r:hA}{ft:List Keyword}{p pos:Pos}{x:Str}{id:String}(hm:X.mg x=none)(bh:bootBuiltins x=some (.builtin id))(he:rO X C e r)(bg:dZ X x:=by rfl)(bc:x≠"__name__":=by decide)(fD:(x==("__debug__":Str))=false:=by decide)
  (ah:c3 pos (a9 [e] X.env)=(false,eval e X.env)::c3 pos (a9 [] X.env):=by rfl) (ar:(c3 pos (a9 [e] X.env)).any (·.1)=false:=by rfl)
  (bk:(fP pos (fO ft X.env)).all (·.1.isSome)=true:=by rfl) (cB:(fP pos (fO ft X.env)).any (·.1.isNone)=false:=by rfl)
  (gf:a9 [e] X.env=(false,eval e X.env)::a9 [] X.env:=by rfl):rO X C (.Call (.Name x p) [e] ft pos) r:=by
 intro ak s σ H Q I h;refine nc (pv I bg hm bh ?_ bc fD);refine Uz ?_ ah ar bk cB;have aA:fR X [e] (iB (Kz X C r) md):=e3 he hb gf;refine cH (aA pos ak s σ H (λ_ _=>False) I h) λus s1 ⟨vs,H1,ba,a_,z⟩=>z.elim
def ak5{X:aY}{C:aj}{e:bt}{r:hA}{ft:List Keyword}{p pos:Pos}(hm:X.mg "max"=none)(he:rO X C e r)(bg:dZ X "max":=by rfl)
  (ah:c3 pos (a9 [e] X.env)=(false,eval e X.env)::c3 pos (a9 [] X.env):=by rfl) (ar:(c3 pos (a9 [e] X.env)).any (·.1)=false:=by rfl)
  (bk:(fP pos (fO ft X.env)).all (·.1.isSome)=true:=by rfl) (cB:(fP pos (fO ft X.env)).any (·.1.isNone)=false:=by rfl)
  (gf:a9 [e] X.env=(false,eval e X.env)::a9 [] X.env:=by rfl):rO X C (.Call (.Name "max" p) [e] ft pos) r:=al7 hm (id:="max") (by decide +kernel) he bg (by decide) (by decide) ah ar bk cB gf
def al4{P:cu}{w:b8}{K:a'}{mg:Str->Option ao}{base:bL}{x:Str}{st:Stmt}{f:aj}{gQ:ao}{eB an:Option aj}{jW:Array (Option ao)}{dD doc pm b3 cP:ao}{N ps:List Str}{k:Nat}{b:bK}
  (l:K.lookup f=some ⟨gQ,eB,.func (kS x x (mr st) (fh st) (bQ st) .none dD doc pm an b3 cP),jW⟩) (eg:qc K b3 x=true) (S:cW N ps (bQ st))
  (bd:∀fd,cK K x x st f fd->f7 K fd ps []) (m:mg x=some (.ref f)) (aG:m8 K (.ref f)=true)
  (af:∀(A:cp) (outer:List Env) (s:aH) (H:aB) (E:e5),c9 k (A.deeper (envOfC x (bQ st) s.heap.objs.size f b3)) ->
   i7 (fm dC P w K mg base N x (bQ st) f b3 A outer s H E).d9 (fh st) b):Cl P w K mg base x (k+1) ps.length (c5 b N.length):=
 .mk' (Tp l eg S af) m aG (bd _ (dG (st:=st) l eg aG))
end
section
variable [cD]
mutual
noncomputable def gz:T->T->Option Bool
|.int a,.int b=>some (decide (b<a))
|.tuple xs,.tuple ys=>nU xs ys
|_,_=>none
noncomputable def nU:List T->List T->Option Bool
| [],[]=>some false
| [],_::_=>some false
|_::_,[]=>some true
|x::xs,y::ys=>if f6 x y then nU xs ys else gz x y
end
noncomputable def Nz(A:cp)(s:aH)(y x:ao)(b:Bool):Prop:=
 ∀(prog:cu) (w:b8) (E:ao->aH->Prop) (Q:ao->aH->Prop),Q (.bool b) s->a0 (bA prog w) A (richCompare .Gt y x) Q E s
inductive GoodG(A:cp)(s:aH)(fin:Bool):List (ao×ao)->Bool->Prop
|nil:GoodG A s fin [] fin
|eq {y x:ao} {r:List (ao×ao)} {b:Bool}:SeqAt.EqAt A s y x true->GoodG A s fin r b->GoodG A s fin ((y,x)::r) b
|lt {y x:ao} {r:List (ao×ao)} {b:Bool}:SeqAt.EqAt A s y x false->Nz A s y x b->GoodG A s fin ((y,x)::r) b
section
open PySem.SeqAt
open PySem.AutoSeq1 (wpAny_loadPart')
open PySem.MeetsSeq PySem.MeetsSeq2 PySem.MeetsSeq3
def agk(l b:aj)(items anR:Array ao)(n fE:Nat)(dd nG:Option aj)(cG iy:Array (Option ao))(z:Bool):
  Meets (Builtin.«tuple.__gt__» ⟨[.ref l,.ref b],[]⟩)
   (λA R s=>s.heap.get? l=some {cls:=.type "tuple",dict:=dd,data:=.seq items n,slots:=cG}/\s.heap.get? b=some {cls:=.type "tuple",dict:=nG,data:=.seq anR fE,slots:=iy} /\
    GoodG A.in1 s (decide (anR.size<items.size)) (items.toList.zip anR.toList) z/\R (.ok (.ret (.bool z))) s):=
 .of_wp λprog w A R s h=>by
  obtain⟨aM,g,d,tk,os⟩:=s;obtain⟨aI,af,bg,h⟩:=h;have f2:=AutoSeq1.sub_tuple_tuple
  wp_walk using wpAny_loadPart' aI,wpAny_loadPart' af,wpAny_forIn_list _ (λrest b s'=>b.1=none/\s'=⟨aM,g,d,tk,os⟩/\GoodG A.in1 ⟨aM,g,d,tk,os⟩ (decide (anR.size<items.size)) rest z) _
  case turn=>
   rintro⟨y,x⟩ rest b s' ⟨jS,rfl,kc⟩;cases kc with
   |eq he kc=>
    refine aO (he prog w _ _ ?_)
    wp_walk
    exact⟨rfl,rfl,kc⟩
   |lt he d7=>
    refine aO (he prog w _ _ ?_)
    have HK:=d7 prog w
    wp_walk using HK
    exact⟨_,rfl,h⟩
  case fin=>
   rintro⟨b6,b7⟩ s' ⟨jS,rfl,kc⟩;simp only at jS;subst jS;cases kc
   wp_walk
   exact⟨_,rfl,by simpa [Builtin.Tuple.tupleCompareSizes] using h⟩
  case h=>
   exact⟨rfl,rfl,bg⟩
mutual
theorem SQ:∀(qK db:T) (A:cp) (s:aH) (a b:ao) (as bs:List aj) (r:Bool),Reads s.heap a qK as->Reads s.heap b db bs->qK.canLay0=true->db.canLay0=true->A.units+min qK.depth db.depth<cLine->gz qK db=some r->Nz A s a b r
|.int i,.int j,A,s,_,_,_,_,r,.int _ t,.int _ u,_,_,_,e=>by
  unfold gz at e;cases e;exact λprog w E Q q=>(PyProof.Rows.gt_int q:a0 (bA prog w) A (i2 .Gt (.int i t) (.int j u)) Q E s)
|.tuple xs,.tuple ys,A,s,_,_,_,_,r,.tuple (a:=l) (o:=o) (vs:=vs) (n:=n) ah ar bk cB,.tuple (a:=p3) (o:=o') (vs:=ff) (n:=yD) k1 k2 k3 mW,aA,af,b1,e=>by
  unfold gz at e;simp only[PyData.canLay0] at aA af;simp only[m'] at b1;have kc:=Ro xs ys A.in1 s vs.toList ff.toList _ _ r cB mW aA af (room_in b1) e;obtain⟨cls,dd,data,cG⟩:=o;obtain⟨Gs,nG,data2,iy⟩:=o';simp only at ar bk k2 k3;subst ar bk k2 k3;rw[sN,sN] at kc;exact λprog w E Q q=>richCompare_meets_room (op:=.Gt) ⟨_,ah,rfl⟩ ⟨_,k1,rfl⟩ PySem.F.slot_tuple_gt PySem.F.entry_tuple_gt (PySem.F.args_tuple_gt_2 _ _) (agk l p3 vs ff n yD dd nG cG iy r)
   ⟨ah,k1,kc,show Value.bool r≠Value.notImplemented/\Q (.bool r) s from ⟨(λx=>nomatch x),q⟩⟩ (by omega)
|.none,_,_,_,_,_,_,_,_,_,_,_,_,_,e=>by simp[gz] at e
|.bool _,_,_,_,_,_,_,_,_,_,_,_,_,_,e=>by simp[gz] at e
|.str _,_,_,_,_,_,_,_,_,_,_,_,_,_,e=>by simp[gz] at e
|.list _,_,_,_,_,_,_,_,_,_,_,_,_,_,e=>by simp[gz] at e
|.dict _,_,_,_,_,_,_,_,_,_,_,_,_,_,e=>by simp[gz] at e
|.int _,.none,_,_,_,_,_,_,_,_,_,_,_,_,e=>by simp[gz] at e
|.int _,.bool _,_,_,_,_,_,_,_,_,_,_,_,_,e=>by simp[gz] at e
|.int _,.str _,_,_,_,_,_,_,_,_,_,_,_,_,e=>by simp[gz] at e
|.int _,.list _,_,_,_,_,_,_,_,_,_,_,_,_,e=>by simp[gz] at e
|.int _,.dict _,_,_,_,_,_,_,_,_,_,_,_,_,e=>by simp[gz] at e
|.int _,.tuple _,_,_,_,_,_,_,_,_,_,_,_,_,e=>by simp[gz] at e
|.tuple _,.none,_,_,_,_,_,_,_,_,_,_,_,_,e=>by simp[gz] at e
|.tuple _,.bool _,_,_,_,_,_,_,_,_,_,_,_,_,e=>by simp[gz] at e
|.tuple _,.str _,_,_,_,_,_,_,_,_,_,_,_,_,e=>by simp[gz] at e
|.tuple _,.list _,_,_,_,_,_,_,_,_,_,_,_,_,e=>by simp[gz] at e
|.tuple _,.dict _,_,_,_,_,_,_,_,_,_,_,_,_,e=>by simp[gz] at e
|.tuple _,.int _,_,_,_,_,_,_,_,_,_,_,_,_,e=>by simp[gz] at e
theorem Ro:∀(xs ys:List T) (A:cp) (s:aH) (vs ws:List ao) (as bs:List aj) (r:Bool),ReadsAll s.heap vs xs as->ReadsAll s.heap ws ys bs->hP xs=true->hP ys=true->A.units+min (fM xs) (fM ys)<cLine->nU xs ys=some r->GoodG A s (decide (ws.length<vs.length)) (vs.zip ws) r
| [],[],A,s,_,_,_,_,r,.nil,.nil,_,_,_,e=>by
  unfold nU at e;cases e;exact .nil
| [],_::_,A,s,_,_,_,_,r,.nil,.cons _ _,_,_,_,e=>by
  unfold nU at e;cases e;exact GoodG.nil
|_::_,[],A,s,_,_,_,_,r,.cons _ _,.nil,_,_,_,e=>by
  unfold nU at e;cases e;exact GoodG.nil
|x::xs,y::ys,A,s,_,_,_,_,r,.cons a_ b_,.cons aP bf,aA,af,b1,e=>by
  simp only[hP,gV] at aA af;simp only[fM] at b1;unfold nU at e;have he:=eqAt_reads x y A s _ _ _ _ a_ aP aA.1 af.1 (room_head b1);split at e
  next h=>
   rw[h] at he;have bM:=Ro xs ys A s _ _ _ _ r b_ bf aA.2 af.2 (room_tail b1) e;rw[sO];simp only[fy,Nat.add_lt_add_iff_right];exact .eq he bM
  next h=>
   rw[Bool.not_eq_true] at h;rw[h] at he;rw[sO];exact .lt he (SQ x y A s _ _ _ _ r a_ aP aA.1 af.1 (room_head b1) e)
end
end
noncomputable def vd(kf:T->Option T)(b PI:T):List T->Option T
| []=>some b
|d::ds=>(kf d).bind λgi=>(gz gi PI).bind λz=>if z then vd kf d gi ds else vd kf b PI ds
noncomputable def JC(kf:T->Option T):List T->Option T
| []=>none
|d::ds=>(kf d).bind λgi=>vd kf d gi ds
def ajF{X:aY}{kf:T->Option T}(ax:X.calm=true)(b1:X.A.units+70<cLine){l q I S:aj}{xs:List V}{ds:List T}{ak:List (aj×Obj)}{σ:bu.St}{tc:(aj->Prop)->aB->Prop}{R:Result->aH->Prop}{hj:T}(t9:I≠S)
  (tk:∀F H aE ag,Ext F H aE ag->tc F H->tc aE ag) (bF:∀d gi,kf d=some gi->fe gi=true)
  (sd:∀(q6:List (aj×Obj)) (H:aB) (s:aH) (F:aj->Prop) (d gi:T) (v:V) (u:ao),Inv X q6 σ H s->e' F H->tc F H->Rep X.K F H d v->RelV v u->kf d=some gi ->
   a0 (unop%Wk 0) X.A.in1 (call (.ref q) [u]) (gX X q6 σ λdg ag=>∃aE,Ext F H aE ag/\Rep X.K aE ag gi dg) (λ_ _=>False) s):
  ∀(r j:Nat) (s:aH) (H:aB) (F:aj->Prop) (db tT:T) (qb aoc:V) (jg p':ao) (c:Nat),ds.length - (j+1)=r->j+1<=ds.length->Inv X ak σ H s->e' F H->tc F H->c' X.K H l xs->bB X.K F H ds xs->s.heap.IsTupleIter I l (j+1) ->
   s.heap.get? S=some (seqObj "list" #[jg,p'] c)->il X ak H I->il X ak H S->RelV qb jg->Rep X.K F H db qb->RelV aoc p'->Rep X.K F H tT aoc->fe tT=true->vd kf db tT (ds.drop (j+1))=some hj ->
   (∀s' ag aE v x,Inv X ak σ ag s'->Ext F H aE ag->RelV x v->Rep X.K aE ag hj x->R (.ok (.ret v)) s') ->
   hu (unop%Wk 0) X.A (.builtin "max.loop" ⟨[.ref I,.ref q,.ref S],[]⟩) R s:=by
 have nm:(toString "max"++toString ".loop":String)="max.loop":=by decide
 intro r
 induction r with
|zero=>
  intro j s H F db tT qb aoc jg p' c ay bS J cb ui aX mU hit dP hl lr e8 Kb sG wb yK l2 iP;obtain⟨its,bW,p,au⟩:=J.tuple aX;have hlen:its.length=ds.length:=by rw[mU.length,bW.length]
  refine ml (id:="max.loop") PySem.F.entry_max_loop ?_
  rw[anG (uT) _];show a0 _ X.A.in1 (seqItems? (.ref S) >>= _) _ _ _;refine aO (kV (a:=S) dP rfl ?_);show a0 _ X.A.in1 (tryCatch (pyNext (.ref I)) _ >>= _) _ _ _;refine aO (pf (wpAny_pyNext_tuple_end (J.ok.hd ax) hit (show s.heap.IsTuple l its.toArray from p) (by simp;omega) λh' d4=>?_));have ow:Inv X ak σ H {s with heap:=h'}:=J.turned (t':=s.toks) (λb o af e=>d4 b o af e) hl.1 hl.2.1 hl.2.2.2.1 hl.2.2.2.2.1 hl.2.2.2.2.2;have iu:=d4 S _ (Ne.symm t9) dP;show a0 _ X.A.in1 (updateSeq S (λ_=>#[]) >>= _) _ _ _;refine aO (wpAny_updateSeq iu rfl (aO (anN (bX ?_))));rw[List.drop_of_length_le (by omega)] at l2;cases l2;exact iP _ H F jg qb (ow.turned (t':=s.toks) (λb o af e=>(kW _ _ (Ne.symm af)).trans e) lr.1 lr.2.1 lr.2.2.2.1 lr.2.2.2.2.1 lr.2.2.2.2.2) (Ext.refl cb) e8 Kb
|succ r bM=>
  intro j s H F db tT qb aoc jg p' c ay bS J cb ui aX mU hit dP hl lr e8 Kb sG wb yK l2 iP;have d7:j+1<ds.length:=by omega
  obtain⟨its,bW,p,au⟩:=J.tuple aX;have hd:ds[j+1]?=some ds[j+1]:=iZ d7;obtain⟨x,hx,f3⟩:=mU.get hd;obtain⟨u,HP,cY⟩:=bW.get hx;rw[List.drop_eq_getElem_cons d7,vd] at l2;obtain⟨gi,xV,l2⟩:=cf.mp l2;obtain⟨z,tZ,l2⟩:=cf.mp l2;refine ml (id:="max.loop") PySem.F.entry_max_loop ?_;rw[anG (uT) _];show a0 _ X.A.in1 (seqItems? (.ref S) >>= _) _ _ _;refine aO (kV (a:=S) dP rfl ?_);show a0 _ X.A.in1 (tryCatch (pyNext (.ref I)) _ >>= _) _ _ _;refine aO (pf (wpAny_pyNext_tuple_item hit (show s.heap.IsTuple l its.toArray from p) (x:=u) (by simpa using HP) λh' yd jF=>?_));have ow:Inv X ak σ H {s with heap:=h'}:=J.turned (t':=s.toks) (λb o af e=>(jF.2 b af).trans e) hl.1 hl.2.1 hl.2.2.2.1 hl.2.2.2.2.1 hl.2.2.2.2.2;have iu:h'.get? S=some (seqObj "list" #[jg,p'] c):=(jF.2 S (Ne.symm t9)).trans dP;obtain⟨sy,HD,AG,gv⟩:=id yd;have EM:Inv X ((S,seqObj "list" #[jg,p'] c)::(I,sy)::ak) σ H {s with heap:=h'}:=ow.wa λp aM=>by
   rcases cN.mp aM with rfl|aM
   ·exact⟨iu,lr.1,lr.2.1,lr.2.2.1,λv z=>by cases z⟩
   ·rcases cN.mp aM with rfl|aM
    ·exact⟨HD,hl.1,hl.2.1,hl.2.2.1,λv z=>by rw[gv] at z;cases z⟩
    ·exact ow.pin p (j3 _ aM)
  show a0 _ X.A.in1 (tryCatch (holding [u] (call (.ref q) [u])) _ >>= _) _ _ _
  refine aO (pf (ia (et (sd _ H _ F _ gi x u EM cb ui f3 cY xV) (λnS s2 he=>?_) λ_ _ x4=>x4.elim)))
  obtain⟨dg,bw,qy,Cn,dr,bN,Cj⟩:=he;have sD:=qy.pin (S,seqObj "list" #[jg,p'] c) (j3 _ (.head _));have v':=qy.pin (I,sy) (j3 _ (.tail _ (.head _)));have vz:Inv X ak σ bw s2:=qy.wa λp aM=>qy.pin p (j3 _ (.tail _ (.tail _ aM)));have Bb:=il.at hl v'.2.1;have l1:=il.at lr sD.2.1;have ZQ:s2.heap.IsTupleIter I l (j+1+1):=⟨sy,v'.1,AG,gv⟩;obtain⟨as,jC⟩:=nk (O:=λ_=>False) vz (.inl Cj) Cn;obtain⟨bs,adN⟩:=nk (O:=λ_=>False) vz (.inl (wb.ext bN)) sG;have Ce:=bF _ _ xV;obtain⟨cT,cw⟩:=te Ce;obtain⟨dp,cE⟩:=te yK;have Hk:=SQ _ _ X.A.in1 s2 nS p' as bs z jC adN cT dp (by have:=Nat.min_le_left gi.depth tT.depth;show X.A.units+1+_<_;omega) tZ;show a0 _ X.A.in1 (tryCatch (holding [u,nS] (richCompare .Gt nS p' >>= _)) _ >>= _) _ _ _;refine aO (pf (ia (aO (Hk X.prog X.w _ _ ?_))));refine aO (ia (sQ (aO (anN (bX ?_)))));cases z with
  |true=>
   simp only[if_true] at l2 ⊢;refine aO (wpAny_updateSeq sD.1 rfl (aO (anN ?_)));rw[nm];refine bX ⟨nf uT _,bM (j+1) _ bw dr ds[j+1] gi x dg u nS _ (by omega) d7 (vz.turned (t':=s2.toks) (λb o af e=>(kW _ _ (Ne.symm af)).trans e) l1.1 l1.2.1 l1.2.2.2.1 l1.2.2.2.2.1 l1.2.2.2.2.2) bN.cb (tk _ _ _ _ bN ui) (c'.same bN.same aX) (mU.ext bN)
    ⟨sy,(kW _ _ (Ne.symm t9)).trans v'.1,AG,gv⟩ (get?_update_seq sD.1 λ_=>#[u,nS]) Bb l1 cY (f3.ext bN) Cn Cj Ce l2 λs' ag aE v y a1 a2 fj hZ=>iP s' ag aE v y a1 (bN.trans a2) fj hZ⟩
  |false=>
   simp only[lN,if_false] at l2 ⊢;refine aO (anN ?_);rw[nm];exact bX ⟨nf uT _,bM (j+1) _ bw dr db tT qb aoc jg p' c (by omega) d7 vz bN.cb (tk _ _ _ _ bN ui) (c'.same bN.same aX) (mU.ext bN) ZQ sD.1 Bb l1 e8 (Kb.ext bN) sG (wb.ext bN) yK l2 λs' ag aE v y a1 a2 fj hZ=>iP s' ag aE v y a1 (bN.trans a2) fj hZ⟩
def ai1{X:aY}{kf:T->Option T}(ax:X.calm=true)(b1:X.A.units+70<cLine){l q:aj}{xs:List V}{ds:List T}{ak:List (aj×Obj)}{σ:bu.St}{tc:(aj->Prop)->aB->Prop}{hj:T}
  (tk:∀F H aE ag,Ext F H aE ag->tc F H->tc aE ag) (bF:∀d gi,kf d=some gi->fe gi=true)
  (sd:∀(q6:List (aj×Obj)) (H:aB) (s:aH) (F:aj->Prop) (d gi:T) (v:V) (u:ao),Inv X q6 σ H s->e' F H->tc F H->Rep X.K F H d v->RelV v u->kf d=some gi ->
   a0 (unop%Wk 0) X.A.in1 (call (.ref q) [u]) (gX X q6 σ λdg ag=>∃aE,Ext F H aE ag/\Rep X.K aE ag gi dg) (λ_ _=>False) s)
  {s:aH} {H:aB} {F:aj->Prop} {Q:c0} (J:Inv X ak σ H s) (cb:e' F H) (ui:tc F H) (aX:c' X.K H l xs) (mU:bB X.K F H ds xs) (hm:JC kf ds=some hj)
  (hn:∀v aE ag,Ext F H aE ag->Rep X.K aE ag hj v->Q v ag):
  a0 (unop%Wk 0) X.A (call (.builtin "max") [.ref l] [(Str.ofString "key",.ref q)]) (gX X ak σ Q) X.di s:=by
 have Bq:(toString "max"++toString ".loop":String)="max.loop":=by decide
 cases ds with
|nil=>cases hm
|cons d ds=>
  obtain⟨gi,xV,l2⟩:=cf.mp hm;obtain⟨its,bW,p,au⟩:=J.tuple aX;refine PyProof.Rows.kmk_tree PySem.F.kind_max PySem.F.plain_max PySem.F.entry_max (PyProof.Rows.kmk_max_key _ _) ?_;show a0 _ X.A.in1 (Builtin.Builtins.bindParams "max" ["key","default"] 0 ⟨[],[(Str.ofString "key",.ref q)]⟩ >>= _) _ _ s;refine aO (wpAny_of_eq (show Builtin.Builtins.bindParams "max" ["key","default"] 0 ⟨[],[(Str.ofString "key",.ref q)]⟩=pure [some (.ref q),none] from rfl) ?_);refine aO (bX ?_);refine aO (rg (show s.heap.IsTuple l its.toArray from p) ?_);refine aO (wpAny_newList ?_ (n8 _));rw[Bq];refine bX ⟨nf uT _,?_⟩;generalize OQ:s.heap.objs.size=I;generalize kK:(unop%W0 0).objs.size=S;have am1:S=I+1:=by rw[<- kK,<- OQ];exact size_push' ..
  have t9:I≠S:=by omega
  have Y0:((unop%W0 0).push (seqObj "list" #[] 0)).get? I=some {cls:=.type "tuple_iterator",data:=.fields #[.ref l,.int 0 0]}:=by
   rw[<- OQ];exact cQ _ (fx _ rfl)
  have OY:((unop%W0 0).push (seqObj "list" #[] 0)).get? S=some (seqObj "list" #[] 0):=by
   rw[<- kK];exact fx _ rfl
  have VY:Inv X ak σ H {s with heap:=(unop%W0 0).push (seqObj "list" #[] 0)}:=J.kept (t':=s.toks) λb u e=>cQ _ (cQ _ e);have hl:il X ak H I:=J.vQ (by omega) (J.bF.fresh (by omega));have lr:il X ak H S:=J.vQ (by omega) (J.bF.fresh (by omega));obtain⟨x0,yl,P5⟩:=mU.get (i:=0) (t:=d) rfl;obtain⟨uL,_n,Qa⟩:=bW.get yl;have _G:((unop%W0 0).push (seqObj "list" #[] 0)).IsTupleIter I l 0:=⟨_,Y0,rfl,rfl⟩;have Zh:((unop%W0 0).push (seqObj "list" #[] 0)).IsTuple l its.toArray:=by
   obtain⟨o,aK,ay⟩:=(show s.heap.IsTuple l its.toArray from p);exact⟨o,cQ _ (cQ _ aK),ay⟩
  refine ml (id:="max.loop") PySem.F.entry_max_loop ?_
  rw[anG uT _];show a0 _ X.A.in1 (seqItems? (.ref S) >>= _) _ _ _;refine aO (kV (a:=S) OY rfl ?_);show a0 _ X.A.in1 (tryCatch (pyNext (.ref I)) _ >>= _) _ _ _;refine aO (pf (wpAny_pyNext_tuple_item _G Zh (x:=uL) (by simpa using _n) λh' yd jF=>?_));have ow:=VY.turned (h':=h') (t':=s.toks) (λb o af e=>(jF.2 b af).trans e) hl.1 hl.2.1 hl.2.2.2.1 hl.2.2.2.2.1 hl.2.2.2.2.2;have iu:h'.get? S=some (seqObj "list" #[] 0):=(jF.2 S (Ne.symm t9)).trans OY;obtain⟨sy,HD,AG,gv⟩:=id yd;have EM:Inv X ((S,seqObj "list" #[] 0)::(I,sy)::ak) σ H {s with heap:=h'}:=ow.wa λp aM=>by
   rcases cN.mp aM with rfl|aM
   ·exact⟨iu,lr.1,lr.2.1,lr.2.2.1,λv z=>by cases z⟩
   ·rcases cN.mp aM with rfl|aM
    ·exact⟨HD,hl.1,hl.2.1,hl.2.2.1,λv z=>by rw[gv] at z;cases z⟩
    ·exact ow.pin p (j3 _ aM)
  show a0 _ X.A.in1 (tryCatch (holding [uL] (call (.ref q) [uL])) _ >>= _) _ _ _
  refine aO (pf (ia (et (sd _ H _ F _ gi x0 uL EM cb ui P5 Qa xV) (λnS s2 he=>?_) λ_ _ x4=>x4.elim)))
  obtain⟨dg,bw,qy,Cn,dr,bN,Cj⟩:=he;have sD:=qy.pin (S,seqObj "list" #[] 0) (j3 _ (.head _));have v':=qy.pin (I,sy) (j3 _ (.tail _ (.head _)));have vz:Inv X ak σ bw s2:=qy.wa λp aM=>qy.pin p (j3 _ (.tail _ (.tail _ aM)));have Bb:=il.at hl v'.2.1;have l1:=il.at lr sD.2.1;have Ce:=bF _ _ xV;show a0 _ X.A.in1 (updateSeq S (λ_=>#[uL,nS]) >>= _) _ _ _;refine aO ?_;refine wpAny_updateSeq sD.1 rfl ?_;rw[Bq];refine bX ⟨nf uT _,ajF (ds:=d::ds) ax b1 t9 tk bF sd _ 0 _ bw dr d gi x0 dg uL nS _ rfl (by simp) (vz.turned (t':=s2.toks) (λb o af e=>(kW _ _ (Ne.symm af)).trans e) l1.1 l1.2.1 l1.2.2.2.1 l1.2.2.2.2.1 l1.2.2.2.2.2) bN.cb (tk _ _ _ _ bN ui) (c'.same bN.same aX) (mU.ext bN)
   ⟨sy,(kW _ _ (Ne.symm t9)).trans v'.1,AG,gv⟩ (get?_update_seq sD.1 λ_=>#[uL,nS]) Bb l1 Qa (P5.ext bN) Cn Cj Ce (by simpa using l2) λs' ag aE v y a1 a2 fj hZ=>⟨y,ag,a1,fj,hn y aE ag (bN.trans a2) hZ⟩⟩
noncomputable def Ep(f g:bY):bY:=λai=>(f ai).bind λt=>match t with
|.tuple ds=>JC (B2 g ai) ds
|_=>none
def alm{X:aY}{k:Nat}{e:bt}{f g:bY}{params:Arguments}{body:bt}{scope:Scope}{hI yz p pos:Pos}{c jr:aj}{anL y:Str}
  (he:cO X e f) (hm:X.mg "max"=none) (qS:X.env.code=.ref c) (eg:ri X.K c jr=true) (iR:ny X.mg X.base) (oU:(jr,anL)∈cD.de) (sl:∀p∈cD.de,p.1=jr->p.2=anL) (ay:c9 (k+2) X.A)
  (af:∀(q bZ:aj) (cl:List (Str×aj)) (A:cp) (outer:List Env) (s:aH) (H:aB),c9 k (unop%Ws 0)->cO (mL X.prog X.w X.K X.mg X.base (y::X.N) (unop%WS 0) scope q (.ref bZ) cl A outer s H) body g)
  (ax:X.calm=true:=by rfl)
  (uh:(decide (scope.kind=.function) && !scope.isCoroutine && !scope.isGenerator && decide (scope.names.lookup y=some .local) && decide (y∉X.N) && scope.names.all λz=>decide (z.2≠.cell) && (decide (z.2≠.local) || decide (z.1=y)))=true:=by rfl)
  (gN:(scope.names.all λy=>decide (y.2≠.free) || decide (X.env.scope.names.lookup y.1=some .cell))=true:=by rfl)
  (vG:∀(cl:List (Str×aj)) (pm:ao) (bZ:aj) (gJ u:ao),bindArgs (PySem.W.kla_fn "<lambda>" (unop%WS 0) params body scope cl pm (.ref bZ) gJ) ⟨[u],[]⟩=pure [(y,u)]:=by intros;rfl)
  (bg:dZ X "max":=by rfl) (se:defaultsOf params X.env=([],[]):=by rfl)
  (ah:c3 pos (a9 [e] X.env)=(false,eval e X.env)::c3 pos (a9 [] X.env):=by rfl) (ar:(c3 pos (a9 [e] X.env)).any (·.1)=false:=by rfl)
  (bk:(unop%WD 0).all (·.1.isSome)=true:=by rfl) (cB:(unop%WD 0).any (·.1.isNone)=false:=by rfl)
  (gf:a9 [e] X.env=(false,eval e X.env)::a9 [] X.env:=by rfl)
  (r_:(unop%WD 0).map (·.2)=[(do let v <- eval (.Lambda params body scope hI) X.env;standAt pos;pure v)]:=by rfl)
  (r':(unop%WD 0).filterMap (·.1)=[Str.ofString "key"]:=by rfl)
  (vX:X.env.qual++"<lambda>"=anL:=by rfl):
  cO X (.Call (.Name "max" p) [e] [⟨some "key",.Lambda params body scope hI,yz⟩] pos) (Ep f g):=by
 subst vX;simp only[gV,Bool.or_eq_true,Bool.not_eq_true',decide_eq_true_eq,List.all_eq_true] at uh;obtain⟨⟨⟨⟨⟨aL,nN⟩,nO⟩,_u⟩,_t⟩,Pk⟩:=uh;have iv:∀x∈scope.names,x.2≠.cell:=λx hx=>(Pk x hx).1;have nP:∀x∈scope.names,x.2=.local->x.1=y:=λx hx aI=>by
  rcases (Pk x hx).2 with z|z
  ·exact absurd aI z
  ·exact z
 simp only[List.all_eq_true,Bool.or_eq_true,decide_eq_true_eq] at gN;have vU:∀y∈scope.names,y.2=.free->X.env.scope.names.lookup y.1=some .cell:=λy a7 hf=>by
  rcases gN y a7 with z|z
  ·exact absurd hf z
  ·exact z
 intro ak s σ H Q I ⟨aJ,E,O,F,ai,t,g6,aw,b9⟩;simp only[Ep,cf] at aw;obtain⟨t0,r6,aw⟩:=aw;have Ao:=PySem.W.codeHd_of_K I.ok.mod.oX eg;refine nc (pv I bg hm (u:=.builtin "max") (by decide +kernel) ?_);refine Uz ?_ ah ar bk cB;have aA:fR X [e] (iB (y8 X.K f) md):=e3 he hb gf;refine cH (aA pos ak s σ H (λvs H1=>∃v a6,vs=[v]/\Ext F H a6 H1/\Rep X.K a6 H1 t0 v) I ⟨aJ,E,O,F,ai,t0,g6,r6,λv aE ag x q=>⟨v,aE,rfl,x,q⟩⟩) λus s1 hqq=>?_;obtain⟨vs,H1,ba,a_,v,a6,ev,aS,bW⟩:=hqq;subst ev;cases a_ with
|cons cY m1=>
 cases m1
 rw[r_];refine wpAny_evalAll_cons (aO ?_);have aI:∀x∈scope.names,x.2=.free->∃c,X.env.cells.lookup x.1=some c:=λx hx hf=>ba.ok.has x.1 (.inl (vU x hx hf));have Ko:=g6.ext aS;refine Mf ba qS Ao iR se (Dn aI) Ko.cb.m4 oU sl λq bZ gJ bw s2 cq n1 y_ vX aX dx=>?_;refine aO (wpAny_standAt (bX (wpAny_evalAll_nil ?_)));rw[r'];have bN:Ext a6 H1 a6 bw:=⟨n1,λ_ h=>h,λ_ h=>.inl h,⟨λa aA=>by
  obtain⟨o,aK⟩:=Ko.cb.vH a aA;exact n1.ne aK,y_⟩⟩
 have adQ:=Ko.ext bN;have wd:=bW.ext bN;split at aw
 next ds=>
  simp only[Rep] at wd;obtain⟨l,xs,ev,_k,mU⟩:=wd;subst ev;cases cY;have b1:=ay.un;refine ai1 (tc:=λF H=>cJ X.K aJ E O F H ai σ/\H q=some (nT (PySem.W.kla_obj "<lambda>" (unop%WS 0) params body scope (unop%WH 0) ((X.mg "__name__").getD .none) bZ gJ) q)/\H bZ=some (tS bZ (unop%WS 0))) (kf:=B2 g ai) ax (by omega)
   (λF H aE ag x ⟨a1,a2,fj⟩=>⟨a1.ext x,x.same.get a2,x.same.get fj⟩) (λd gi gb=>?_) (λq6 eZ s3 ot d gi v3 u3 ej amW HN adO adT gb=>?_) cq bN.cb ⟨adQ,aX,dx⟩ _k mU aw λv aE ag x q=>b9 v aE ag ((aS.trans bN).trans x) q
  ·obtain⟨k0,_,aN⟩:=cf.mp gb;split at aN
   next cM=>cases aN;exact cM
   next=>cases aN
  ·obtain⟨k0,mP,aN⟩:=cf.mp gb;split at aN
   next cM=>
    cases aN
    refine qh (nd (aiD (Q:=λdg ag=>∃aE,Ext ot eZ aE ag/\Rep X.K aE ag gi dg) (Nw:=j_) aL nN nO iv _u (af q bZ _) (vG _ _ _ _ _) ay.in1 ej.tX.in1 HN.2.1 HN.2.2 (ajZ ej iv nP _t vU) adT HN.1 adO mP λv aE ag x q=>⟨aE,x,q⟩) λr s' aX=>?_)
    cases r with
    |error e=>exact d6 aX
    |ok dt=>
     cases dt with
     |ret u=>exact ej.after aX
     |next=>exact d6 aX
     |brk=>exact d6 aX
     |cont=>exact d6 aX
   next=>cases aN
 next=>cases aw
end
end D
end
section
namespace cg
open D
noncomputable def Sl:bK:=
  (seq (ef (dV (unop%Wd 0)) (bH 2) (iff (bO (aq oEq (unop%WN 0) (nm 1))) (b' (aq aZ (nm 2) (ae (.int 1)))) skip))
  rF)
noncomputable def an5:List T->Option T:=c5 Sl 3
noncomputable def Tz:bK:=
  (seq (asg 1 (a3 hy [(comp 1 [] (dV (unop%Wd 0)) (bH 0) (ez true) (ae (.str "shut")))])) (seq (asg 2 (a3 hy [(comp 1 [] (dV (unop%We 0)) (bH 0) (ez true) (ae (.int 0)))])) (b' (bo [(ae (.str "off")),(ae (.int 0)),(ae .none),(av 1),(bo []),(ae (.int 0)),(bo []),(ae (.int 0)),(ae (.int 0)),(av 2)]))))
noncomputable def w8:List T->Option T:=c5 Tz 3
noncomputable def Sm:bK:=
  (seq (ef (dV (unop%We 0)) (bH 2) (iff (bO (aq oEq (unop%WN 0) (nm 1))) (b' (nm 2)) skip)) (b' (ae .none)))
noncomputable def zL:List T->Option T:=c5 Sm 3
noncomputable def RP:bK:=
  (b' (a3 nV [(aq sz (nm 0) (nm 1)),(ae (.int 0))]))
noncomputable def an4:List T->Option T:=c5 RP 2
noncomputable def QU:bK:=
  (seq (e0 0 0 0 (av 1)) (seq (e0 0 0 1 (unop%WN 0)) (seq (e0 0 0 2 (aq aZ (nm 2) (ae (.int 1)))) (seq (e0 0 0 3 (aq aZ (nm 2) (ae (.int 2)))) (seq (xq 0 0 4 (comp 1 [] (dV (aq aZ (nm 1) (ae (.int 0)))) (bH 0) (ez true) (unop%Wd 0)) (aq aZ (nm 2) (ae (.int 3)))) (seq (nv 0 0 5 (cX xd (aq aZ (nm 2) (ae (.int 4))))) (seq (e0 0 0 6 (aq aZ (nm 2) (ae (.int 5)))) (seq (nv 0 0 7 (cX xd (aq aZ (nm 2) (ae (.int 6))))) (seq (e0 0 0 8 (aq aZ (nm 2) (ae (.int 7)))) (seq (e0 0 0 9 (aq aZ (nm 2) (ae (.int 8)))) (seq (xq 0 0 10 (comp 1 [] (dV (unop%WO 0)) (bH 0) (ez true) (unop%Wd 0)) (aq aZ (nm 2) (ae (.int 9)))) (seq (e0 0 0 11 (ae (.int 0))) (nv 0 0 12 (eF []))))))))))))))
noncomputable def zo:List aR->Option (T×List aR):=runM 0 0 QU 3
noncomputable def Q4:bK:=
  (seq (asg 1 (Ai 0 0 4)) (seq (asg 2 (a3 hy [(fld 0 0 5)])) (seq (asg 3 (a3 hy [(fld 0 0 7)])) (seq (asg 4 (Ai 0 0 10)) (b' (bo [(hF 0 0 1),(hF 0 0 2),(hF 0 0 3),(av 1),(av 2),(hF 0 0 6),(av 3),(hF 0 0 8),(hF 0 0 9),(av 4)]))))))
noncomputable def zx:List aR->Option T:=lG Q4 5
noncomputable def Q7:bK:=
  (qF 0 0 12 (bo [(hF 0 0 11),(av 1),(av 2)]))
noncomputable def gj:List aR->Option (T×List aR):=runM 0 0 Q7 3
noncomputable def QX:bK:=
  (e0 0 0 6 (aq aZ (aq aZ (fld 0 0 0) (ae (.int 2))) (ae (.int 2))))
noncomputable def u0:List aR->Option (T×List aR):=runM 0 0 QX 1
noncomputable def Li:bK:=
  (seq (dW (dS 0 u0 0 [])) (iff (bO (aq (fc true) (nm 1) (fld 0 0 7))) (seq (qF 0 0 7 (av 1)) (dW (dS 0 gj 0 [(ae (.str "alarm")),(av 1)]))) skip))
noncomputable def anB:List aR->Option (T×List aR):=runM 0 0 Li 2
noncomputable def C_:bK:=
  (seq (iff (gR (bO (aq h5 (nm 2) (ae (.str "way")))) (bO (aq oLe (aq aZ (aq aZ (fld 0 0 0) (ae (.int 2))) (ae (.int 1))) (ae (.int 0))))) (seq (dW (dS 0 anB 0 [(av 1)]))
  rC) skip) (seq (e0 0 0 1 (ae (.str "coming"))) (seq (e0 0 0 2 (aq aZ (aq aZ (fld 0 0 0) (ae (.int 2))) (ae (.int 1)))) (seq (e0 0 0 3 (av 1)) (dW (dS 0 gj 0 [(ae (.str "coming")),(av 1)]))))))
noncomputable def uZ:List aR->Option (T×List aR):=runM 0 0 C_ 3
noncomputable def QW:bK:=
  (seq (asg 3 (a3 an5 [(hF 0 0 0),(av 1)])) (iff (bO (aq oEq (nm 3) (ae (.str "day")))) (dW (dS 0 anB 0 [(av 1)])) (iff (bO (aq oEq (fld 0 0 1) (ae (.str "off")))) (iff (bO (aq oEq (nm 2) (ae (.str "cut")))) (dW (dS 0 gj 0 [(ae (.str "fault")),(av 1)])) skip) (iff (gR (bO (aq oEq (nm 2) (ae (.str "cut")))) (bO (aq oEq (nm 3) (ae (.str "once"))))) (dW (dS 0 anB 0 [(av 1)])) (iff (bO (aq oEq (fld 0 0 1) (ae (.str "on")))) (dW (dS 0 uZ 0 [(av 1),(av 3)])) skip)))))
noncomputable def zp:List aR->Option (T×List aR):=runM 0 0 QW 4
noncomputable def Q8:bK:=
  (seq (asg 3 (oN 0 0 4 (nm 1))) (seq (iff (bO (aq oEq (nm 2) (nm 3))) rC skip) (seq (tj 0 0 4 (nm 1) (av 2)) (iff (bO (aq oEq (nm 2) (ae (.str "shut")))) (iff (bO (aq oEq (nm 3) (ae (.str "cut")))) (dW (dS 0 gj 0 [(ae (.str "mended")),(av 1)])) skip) (iff (bO (aq (fc true) (nm 1) (fld 0 0 5))) (dW (dS 0 zp 0 [(av 1),(av 2)])) skip)))))
noncomputable def zA:List aR->Option (T×List aR):=runM 0 0 Q8 4
noncomputable def K7:bK:=
  (b' (rX (aq h5 (aq aZ (nm 1) (ae (.int 3))) (ae (.int 0))) (aq sx (oN 0 0 10 (aq aZ (nm 1) (ae (.int 0)))) (aq aZ (nm 1) (ae (.int 3))))))
noncomputable def wD:List aR->Option T:=lG K7 2
noncomputable def K5:bK:=
  (seq (dW (dS 0 gj 0 [(ae (.str "wrong")),(ae .none)])) (seq (qG 0 0 8 (ae (.int 1))) (iff (bO (aq sx (fld 0 0 8) (ae (.int 3)))) (seq (e0 0 0 8 (ae (.int 0))) (seq (e0 0 0 9 (ae (.int 90))) (seq (dW (dS 0 u0 0 [])) (dW (dS 0 gj 0 [(ae (.str "attack")),(ae .none)]))))) skip)))
noncomputable def wB:List aR->Option (T×List aR):=runM 0 0 K5 1
noncomputable def uW:bK:=
  (seq (iff (bO (aq oEq (nm 1) (ae (.str "unset")))) (b' (ae (.bool false))) skip) (seq (iff (bO (aq h5 (fld 0 0 1) (ae (.str "off")))) (b' (ae (.bool true))) skip) (seq (iff (bO (aq oEq (nm 1) (ae (.str "shunt")))) (b' (yN (aq oEq (a3 an5 [(hF 0 0 0),(av 2)]) (ae (.str "day"))) (aq (fc false) (nm 2) (fld 0 0 5)))) skip) (b' (rX (aq oEq (nm 1) (ae (.str "free"))) (aq (fc true) (nm 2) (fld 0 0 5)))))))
noncomputable def qi:List aR->Option T:=lG uW 3
noncomputable def QR:bK:=
  (seq (asg 2 (comp 1 [1] (dV (aq aZ (fld 0 0 0) (ae (.int 0)))) (bH 0) (bO (aq (fc false) (unop%We 0) (nm 1))) (unop%Wd 0))) (b' (comp 1 [0] (dV (av 2)) (bH 0) (fk (bO (aq h5 (oN 0 1 4 (nm 0)) (ae (.str "shut")))) (bO (aq (fc true) (nm 0) (fld 0 1 5)))) (av 0))))
noncomputable def uY:List aR->Option T:=lG QR 3
noncomputable def QJ:bK:=
  (seq (asg 4 (p1 (bO (aq oEq (nm 2) (ae (.str "free")))) (ae (.str "shunt")) (av 2))) (seq (iff (bO (aq (fc true) (nm 4) (aq aZ (nm 1) (ae (.int 2))))) (b' (bo [(ae (.str "denied")),(unop%WO 0)])) skip) (seq (iff (bO (oi 0 qi 0 [(av 2),(av 3)])) (b' (bo [(ae (.str "no")),(unop%WO 0)])) skip) (seq (asg 5 (oi 0 uY 0 [(ae (.tuple (mw ["day","once"])))])) (seq (iff (fk (bO (aq oEq (nm 2) (ae (.str "set")))) (gT (nm 5))) (b' (bo [(ae (.str "open")),(aq aZ (nm 5) (ae (.int 0)))])) skip) (b' (ae .none)))))))
noncomputable def zh:List aR->Option T:=lG QJ 6
noncomputable def QO:bK:=
  (seq (e0 0 0 1 (ae (.str "on"))) (seq (e0 0 0 2 (ae (.int 0))) (seq (dW (dS 0 gj 0 [(ae (.str "on")),(ae .none)])) (ef (dV (oi 0 uY 0 [(ae (.tuple (mw ["inner","way"])))])) (bH 1) (dW (dS 0 anB 0 [(av 1)]))))))
noncomputable def uV:List aR->Option (T×List aR):=runM 0 0 QO 2
noncomputable def Lf:bK:=
  (seq (nv 0 0 7 (eF [])) (seq (e0 0 0 6 (ae (.int 0))) (seq (e0 0 0 1 (ae (.str "leaving"))) (seq (e0 0 0 2 (aq aZ (aq aZ (fld 0 0 0) (ae (.int 2))) (ae (.int 0)))) (seq (dW (dS 0 gj 0 [(ae (.str "set")),(av 1)])) (iff (bO (aq oLe (fld 0 0 2) (ae (.int 0)))) (dW (dS 0 uV 0 [])) skip))))))
noncomputable def wH:List aR->Option (T×List aR):=runM 0 0 Lf 2
noncomputable def QT:bK:=
  (seq (e0 0 0 1 (ae (.str "off"))) (seq (e0 0 0 2 (ae (.int 0))) (seq (e0 0 0 6 (ae (.int 0))) (seq (e0 0 0 3 (ae .none)) (seq (nv 0 0 5 (eF [])) (dW (dS 0 gj 0 [(ae (.str "unset")),(av 1)])))))))
noncomputable def zm:List aR->Option (T×List aR):=runM 0 0 QT 2
noncomputable def zr:bK:=
  (iff (bO (aq oEq (nm 2) (ae (.str "set")))) (dW (dS 0 wH 0 [(av 1)])) (iff (bO (aq oEq (nm 2) (ae (.str "unset")))) (dW (dS 0 zm 0 [(av 1)])) (iff (bO (aq oEq (nm 2) (ae (.str "shunt")))) (seq (nv 0 0 5 (cX DW (aq b4 (fld 0 0 5) (eF [(av 3)])))) (dW (dS 0 gj 0 [(ae (.str "shunt")),(av 3)]))) (seq (Co 0 0 5 (av 3)) (dW (dS 0 gj 0 [(ae (.str "free")),(av 3)]))))))
noncomputable def sR:List aR->Option (T×List aR):=runM 0 0 zr 4
noncomputable def K6:bK:=
  (seq (asg 4 (oi 0 zh 0 [(av 1),(av 2),(av 3)])) (iff (bO (cX g5 (nm 4))) (seq (tp 0 0 10 (aq aZ (nm 1) (ae (.int 0))) (ae (.int 1))) (dW (dS 0 sR 0 [(unop%WO 0),(av 2),(av 3)]))) (dW (dS 0 gj 0 [(aq aZ (nm 4) (ae (.int 0))),(aq aZ (nm 4) (ae (.int 1)))]))))
noncomputable def wC:List aR->Option (T×List aR):=runM 0 0 K6 5
noncomputable def zB:bK:=
  (seq (asg 4 (a3 zL [(hF 0 0 0),(av 1)])) (iff (bO (aq jA (fld 0 0 9) (ae (.int 0)))) (dW (dS 0 gj 0 [(ae (.str "locked")),(ae .none)])) (iff (gR (bO (cX g5 (nm 4))) (bO (oi 0 wD 0 [(av 4)]))) (dW (dS 0 wB 0 [])) (seq (e0 0 0 8 (ae (.int 0))) (dW (dS 0 wC 0 [(av 4),(av 2),(av 3)]))))))
noncomputable def sU:List aR->Option (T×List aR):=runM 0 0 zB 5
noncomputable def QQ:bK:=
  (seq (qG 0 0 11 (av 1)) (seq (e0 0 0 9 (a3 an4 [(hF 0 0 9),(av 1)])) (seq (e0 0 0 6 (a3 an4 [(hF 0 0 6),(av 1)])) (e0 0 0 2 (a3 an4 [(hF 0 0 2),(av 1)])))))
noncomputable def uX:List aR->Option (T×List aR):=runM 0 0 QQ 2
noncomputable def QP:bK:=
  (seq (asg 1 (hF 0 0 3)) (seq (e0 0 0 1 (ae (.str "on"))) (seq (e0 0 0 3 (ae .none)) (dW (dS 0 anB 0 [(av 1)])))))
noncomputable def zj:List aR->Option (T×List aR):=runM 0 0 QP 2
noncomputable def K_:bK:=
  (iff (bO (aq oEq (fld 0 0 1) (ae (.str "leaving")))) (dW (dS 0 uV 0 [])) (dW (dS 0 zj 0 [])))
noncomputable def wG:List aR->Option (T×List aR):=runM 0 0 K_ 1
noncomputable def zy:bK:=
  (seq (iff (bO (aq oLt (nm 1) (ae (.int 1)))) rC skip) (iff (fk (bO (aq (fc false) (fld 0 0 1) (bo [(ae (.str "leaving")),(ae (.str "coming"))]))) (bO (aq oLe (fld 0 0 2) (nm 1)))) (seq (asg 2 (aq sz (nm 1) (fld 0 0 2))) (seq (dW (dS 0 uX 0 [(hF 0 0 2)])) (seq (dW (dS 0 wG 0 [])) (dW (dS 0 uX 0 [(av 2)]))))) (dW (dS 0 uX 0 [(av 1)]))))
noncomputable def sT:List aR->Option (T×List aR):=runM 0 0 zy 3
noncomputable def Dd:bK:=
  (iff (bO (aq oEq (aq aZ (nm 1) (ae (.int 0))) (ae (.str "line")))) (dW (dS 0 zA 0 [(unop%WO 0),(aq aZ (nm 1) (ae (.int 2)))])) (iff (bO (aq oEq (aq aZ (nm 1) (ae (.int 0))) (ae (.str "code")))) (dW (dS 0 sU 0 [(unop%WO 0),(aq aZ (nm 1) (ae (.int 2))),(aq aZ (nm 1) (ae (.int 3)))])) (dW (dS 0 sT 0 [(unop%WO 0)]))))
noncomputable def sS:List aR->Option (T×List aR):=runM 0 0 Dd 2
noncomputable def LB:bK:=
  (seq (AB 3 (B_ 0 zo [(av 0),(av 1)])) (seq (ef (dV (av 2)) (bH 4) (dW (dS 0 sS 3 [(av 4)]))) (yW 3)))
noncomputable def sV:List T->Option aR:=uB LB 5
noncomputable def TA:bK:=
  (b' (Cc 0 zx (an' sV [(av 0),(av 1),(av 2)]) []))
noncomputable def rx:List T->Option T:=c5 TA 3
noncomputable def Tx:bK:=
  (b' (a3 hy [(D7 0 12 (an' sV [(av 0),(av 1),(av 2)]))]))
noncomputable def s8:List T->Option T:=c5 Tx 3
end cg
end
section
namespace cg
open D cg
noncomputable def u2:bK:=
  (seq (iff (bO (aq oLt (nm 1) (a3 iw [(nm 0)]))) (b' (aq aZ (nm 0) (nm 1))) skip) (b' (ae (.int 0))))
noncomputable def ni:List T->Option T:=c5 u2 2
noncomputable def u_:bK:=
  (seq (asg 2 (unop%W7 0)) (b' (aq oMod (aq b4 (aq b4 (aq dT (nm 2) (nm 2)) (aq dT (ae (.int 7)) (nm 2))) (nm 1)) (ae (.int 2147483629)))))
noncomputable def kX:List T->Option T:=c5 u_ 3
noncomputable def u':bK:=
  (seq (asg 2 (unop%W9 0)) (b' (aq oMod (aq b4 (aq b4 (aq dT (nm 2) (nm 2)) (aq dT (ae (.int 3)) (nm 2))) (nm 1)) (ae (.int 2147483629)))))
noncomputable def ic:List T->Option T:=c5 u' 3
noncomputable def aj2:bK:=
  (seq (asg 1 (bo [])) (seq (ef (unop%W6 0) (dH [(bH 2),(bH 3)]) (seq (asg 4 (aq oDiv (a3 ic [(av 0),(av 2)]) (ae (.int 4)))) (iff (gR (bO (aq oLt (aq oMod (nm 4) (ae (.int 8))) (aq b4 (ae (.int 3)) (aq oMod (nm 0) (ae (.int 5)))))) (bO (aq oEq (nm 2) (aq oMod (aq oDiv (nm 0) (ae (.int 8))) (ae (.int 8)))))) (asg 1 (aq b4 (nm 1) (bo [(bo [(av 3),(aq aZ (bo [(ae (.str "day")),(ae (.str "inner")),(ae (.str "once")),(ae (.str "way")),(ae (.str "way"))]) (aq oMod (aq oDiv (nm 4) (ae (.int 8))) (ae (.int 5))))])]))) skip))) (seq (asg 5 (bo [])) (seq (ef (unop%Wa 0) (dH [(bH 2),(bH 6)]) (seq (asg 4 (aq oDiv (a3 ic [(av 0),(aq b4 (ae (.int 10)) (nm 2))]) (ae (.int 4)))) (iff (gR (bO (aq jA (aq oMod (nm 4) (ae (.int 3))) (ae (.int 0)))) (bO (aq oEq (nm 2) (ae (.int 1))))) (seq (asg 7 (a3 hy [(comp 1 [4] (jK (ae (.int 3))) (bH 0) (bO (aq jA (aq oMod (aq oDiv (nm 1) (aq aZ (bo [(ae (.int 4)),(ae (.int 16)),(ae (.int 64))]) (nm 0))) (ae (.int 4))) (ae (.int 0)))) (aq aZ (bo [(ae (.str "set")),(ae (.str "shunt")),(ae (.str "unset"))]) (nm 0)))])) (seq (asg 8 (aq aZ (bo [(ae (.str "ann")),(ae (.str "bo")),(ae (.str "cy"))]) (aq oMod (aq oDiv (nm 4) (ae (.int 256))) (ae (.int 3))))) (asg 5 (aq b4 (nm 5) (bo [(bo [(av 6),(av 8),(av 7),(aq aZ (bo [(ae (.int 0)),(ae (.int 0)),(ae (.int 1)),(ae (.int 2)),(ae (.int 9))]) (aq oMod (aq oDiv (nm 4) (ae (.int 1024))) (ae (.int 5))))])]))))) skip))) (seq (asg 4 (aq oDiv (a3 ic [(av 0),(ae (.int 20))]) (ae (.int 4)))) (seq (asg 9 (bo [(aq aZ (bo [(ae (.int 0)),(ae (.int 5)),(ae (.int 30)),(ae (.int 60))]) (aq oMod (nm 4) (ae (.int 4)))),(aq aZ (bo [(ae (.int 0)),(ae (.int 4)),(ae (.int 20)),(ae (.int 60))]) (aq oMod (aq oDiv (nm 4) (ae (.int 4))) (ae (.int 4)))),(aq aZ (bo [(ae (.int 1)),(ae (.int 9)),(ae (.int 120)),(ae (.int 300))]) (aq oMod (aq oDiv (nm 4) (ae (.int 16))) (ae (.int 4))))])) (b' (bo [(av 1),(av 5),(av 9)]))))))))
noncomputable def zQ:List T->Option T:=c5 aj2 10
noncomputable def Sk:bK:=
  (seq (asg 2 (aq aZ (aq aZ (unop%Wd 0) (aq oMod (aq oDiv (nm 1) (ae (.int 8))) (a3 iw [(unop%Wd 0)]))) (ae (.int 0)))) (seq (asg 3 (aq oMod (nm 1) (ae (.int 10)))) (seq (iff (bO (aq oLt (nm 3) (ae (.int 5)))) (b' (bo [(ae (.str "line")),(av 2),(aq aZ (bo [(ae (.str "shut")),(ae (.str "open")),(ae (.str "open")),(ae (.str "cut"))]) (aq oMod (aq oDiv (nm 1) (ae (.int 512))) (ae (.int 4))))])) skip) (seq (iff (bO (aq oLt (nm 3) (ae (.int 7)))) (b' (bo [(ae (.str "ticks")),(aq b4 (ae (.int 1)) (aq oMod (aq oDiv (nm 1) (ae (.int 64))) (aq aZ (bo [(ae (.int 3)),(ae (.int 40)),(ae (.int 200))]) (aq oMod (aq oDiv (nm 1) (ae (.int 4096))) (ae (.int 3))))))])) skip) (seq (asg 4 (aq aZ (aq aZ (unop%We 0) (aq oMod (aq oDiv (nm 1) (ae (.int 64))) (a3 iw [(unop%We 0)]))) (ae (.int 0)))) (seq (iff (bO (aq oEq (aq oMod (aq oDiv (nm 1) (ae (.int 65536))) (ae (.int 4))) (ae (.int 0)))) (asg 4 (aq aZ (bo [(ae (.str "0001")),(ae (.str "1111")),(ae (.str "9999")),(ae (.str "0000"))]) (aq oMod (aq oDiv (nm 1) (ae (.int 512))) (ae (.int 4))))) skip) (seq (asg 5 (aq aZ (bo [(ae (.str "set")),(ae (.str "set")),(ae (.str "unset")),(ae (.str "shunt")),(ae (.str "free")),(ae (.str "shunt"))]) (aq oMod (aq oDiv (nm 1) (ae (.int 4096))) (ae (.int 6))))) (seq (iff (bO (aq (fc false) (nm 5) (bo [(ae (.str "set")),(ae (.str "unset"))]))) (b' (bo [(ae (.str "code")),(av 4),(av 5),(ae .none)])) skip) (b' (bo [(ae (.str "code")),(av 4),(av 5),(av 2)]))))))))))
noncomputable def sW:List T->Option T:=c5 Sk 6
noncomputable def D9:bK:=
  (seq (asg 3 (a3 hy [(comp 1 [0,1] (jK (aq oMod (nm 1) (aq b4 (nm 2) (ae (.int 1))))) (bH 0) (ez true) (a3 sW [(av 1),(unop%WE 0)]))])) (seq (iff (fk (bO (aq oEq (aq oMod (aq oDiv (nm 1) (ae (.int 64))) (ae (.int 5))) (ae (.int 0)))) (bO (aq jA (a3 iw [(nm 3)]) (ae (.int 2))))) (asg 3 (aq b4 (slice (nm 3) optN (opt (cX hp (ae (.int 3))))) (aq yI (bo [(bo [(ae (.str "code")),(ae (.str "5555")),(ae (.str "unset")),(ae .none)])]) (ae (.int 3))))) skip) (b' (nm 3))))
noncomputable def an_:List T->Option T:=c5 D9 4
end cg
end
section
namespace rL
open D cg
noncomputable def wY:bK:=
  (seq (iff (bO (aq oEq (unop%Wd 0) (nm 1))) (b' (unop%We 0)) skip) (seq (iff (bO (aq oEq (unop%We 0) (nm 1))) (b' (unop%Wd 0)) skip) (b' (ae .none))))
noncomputable def anD:List T->Option T:=c5 wY 2
noncomputable def wQ(rec:List T->Option T):bK:=
  (seq (iff (bO (aq oEq (unop%Wt 0) (nm 1))) (b' (eF [(bo [])])) skip) (seq (gY 3 (eF [])) (seq (ef (j6 (hU (unop%We 0))) (dH [(bH 4),(bH 5)]) (seq (asg 6 (a3 anD [(av 5),(unop%Wt 0)])) (iff (fk (bO (cX gE (nm 6))) (bO (aq (fc true) (nm 6) (nm 2)))) (ext 3 (comp 1 [4] (dV (unop%WI 0)) (bH 0) (ez true) (aq b4 (bo [(av 1)]) (nm 0)))) skip))) (b' (nm 3)))))
noncomputable def nq:Nat->List T->Option T
|0=>λ_=>none
|n+1=>c5 (wQ (nq n)) 7
noncomputable def z':bK:=
  (b' (a3 hy [(a3 (nq 20) [(av 0),(av 1),(bo [(ae (.int 0))])])]))
noncomputable def gZ:List T->Option T:=c5 z' 2
noncomputable def Mo:bK:=
  (seq (asg 2 (aq aZ (nm 0) (ae (.int 2)))) (seq (iff (bO (cX g5 (nm 2))) (b' (bo [(bo [(ae (.str "ticks")),(ae (.int 1))]),(bo [(ae (.str "ticks")),(av 1)])])) skip) (b' (bo [(bo [(ae (.str "line")),(av 2),(ae (.str "open"))]),(bo [(ae (.str "ticks")),(ae (.int 1))]),(bo [(ae (.str "line")),(av 2),(ae (.str "shut"))]),(bo [(ae (.str "ticks")),(av 1)])]))))
noncomputable def rt:List T->Option T:=c5 Mo 3
noncomputable def aj1:bK:=
  (seq (gY 3 (eF [])) (seq (ef (dV (av 1)) (bH 4) (YU 3 (a3 rt [(aq aZ (unop%We 0) (nm 4)),(av 2)]))) (b' (a3 hy [(nm 3)]))))
noncomputable def ajW:List T->Option T:=c5 aj1 5
noncomputable def LA:bK:=
  (b' (aq (fc false) (ae (.str "alarm")) (comp 3 [] (dV (av 0)) (dH [(bH 0),(bH 1),(bH 2)]) (ez true) (av 1))))
noncomputable def u1:List T->Option T:=c5 LA 1
noncomputable def Mp:bK:=
  (seq (asg 5 (av 2)) (seq (ef (w5 (hU (av 3))) (dH [(bH 6),(bH 7)]) (seq (asg 8 (a3 rt [(aq aZ (unop%WO 0) (nm 7)),(av 4)])) (seq (iff (bO (a3 u1 [(a3 s8 [(av 0),(av 5),(av 8)])])) (b' (nm 6)) skip) (asg 5 (a3 rx [(av 0),(av 5),(av 8)]))))) (b' (ae .none))))
noncomputable def ks:List T->Option T:=c5 Mp 9
noncomputable def zO:bK:=
  (seq (asg 1 (aq b4 (ae (.int 1)) (aq oMod (nm 0) (ae (.int 7))))) (seq (asg 2 (bo [])) (seq (ef (jK (unop%WG 0)) (bH 3) (seq (asg 4 (unop%WF 0)) (seq (asg 5 (aq oMod (nm 4) (aq b4 (nm 1) (ae (.int 1))))) (seq (asg 6 (unop%Wb 0)) (seq (asg 7 (unop%W2 0)) (asg 2 (unop%Wo 0))))))) (b' (bo [(av 1),(av 2)])))))
noncomputable def r4:List T->Option T:=c5 zO 8
noncomputable def Ls:bK:=
  (seq (iH (dH [(bH 2),(bH 3)]) (a3 r4 [(av 1)])) (seq (asg 4 (comp 1 [] (dV (unop%Wd 0)) (bH 0) (ez true) (unop%Wd 0))) (seq (asg 5 (bo [])) (seq (ef (dV (av 3)) (dH [(bH 6),(bH 7),(bH 8)]) (asg 5 (aq b4 (nm 5) (bo [(bo [(av 6),(av 7),(aq aZ (bo [(av 8),(ae .none)]) (a3 q4 [(aq (fc true) (nm 8) (nm 4))]))])])))) (b' (bo [(av 2),(av 5)]))))))
noncomputable def wI:List T->Option T:=c5 Ls 9
noncomputable def Aj:bK:=
  (seq (asg 1 (a3 zQ [(a3 kX [(av 0),(ae (.int 0))])])) (seq (asg 2 (a3 wI [(av 1),(a3 kX [(av 0),(ae (.int 1))])])) (seq (asg 3 (a3 kX [(av 0),(ae (.int 2))])) (seq (asg 4 (a3 rx [(av 1),(a3 w8 [(av 1)]),(a3 an_ [(av 1),(av 3),(ae (.int 8))])])) (seq (asg 5 (aq b4 (ae (.int 1)) (aq oMod (aq oDiv (nm 3) (ae (.int 512))) (ae (.int 20))))) (seq (ef (dV (slice (a3 gZ [(av 2),(aq b4 (ae (.int 1)) (aq oMod (aq oDiv (nm 3) (ae (.int 64))) (unop%WN 0)))]) optN (opt (ae (.int 8))))) (bH 6) (seq (asg 7 (a3 ks [(av 1),(av 2),(av 4),(av 6),(av 5)])) (seq (asg 8 (comp 1 [] (dV (a3 s8 [(av 1),(av 4),(a3 ajW [(av 2),(av 6),(av 5)])])) (bH 0) (bO (aq oEq (unop%We 0) (ae (.str "alarm")))) (av 0))) (seq (iff (bO (aq h5 (cX g5 (nm 7)) (aq oEq (nm 8) (eF [])))) (b' (ae (.bool false))) skip) (seq (ef (jK (aq b4 (a3 iw [(nm 6)]) (ae (.int 1)))) (bH 9) (seq (asg 10 (av 7)) (seq (iff (fk (bO (cX gE (nm 7))) (bO (aq oLt (nm 9) (nm 7)))) (asg 10 (ae .none)) skip) (iff (bO (aq h5 (a3 ks [(av 1),(av 2),(av 4),(slice (nm 6) optN (opt (nm 9))),(av 5)]) (nm 10))) (b' (ae (.bool false))) skip)))) (iff (fk (bO (cX gE (nm 7))) (gP (bO (amN oLe oLe (ae (.int 1)) (nm 7) (a3 iw [(nm 6)]))))) (b' (ae (.bool false))) skip)))))) (b' (ae (.bool true)))))))))
noncomputable def vv:List T->Option T:=c5 Aj 11
end rL
end
section
namespace rS
open D cg rL
noncomputable def rl:bK:=
  (seq (asg 2 (a3 gZ [(av 0),(av 1)])) (seq (iff (gP (gT (nm 2))) rF skip) (b' (nm 2))))
noncomputable def rk:List T->Option T:=c5 rl 3
noncomputable def ahY:bK:=
  (b' (p1 (bO (cX g5 (nm 0))) (bo [(ae (.int 1)),(ae (.int 0))]) (bo [(ae (.int 0)),(av 0)])))
noncomputable def wL:List T->Option T:=c5 ahY 1
noncomputable def D2:bK:=
  (b' (Ep (a3 rk [(av 1),(av 3)]) (a3 wL [(a3 ks [(av 1),(av 2),(av 3),(av 0),(av 5)])])))
noncomputable def ve:List T->Option T:=c5 D2 5
noncomputable def zw:hA:=
  (y0 (asg 2 (a3 gZ [(av 0),(av 1)])) (yr (gP (gT (nm 2))) (l' (cX (vq "no way leads to room ") (nm 1))) J1))
noncomputable def p6:List aR->Bool:=yY zw 3
noncomputable def aih:hA:=
  (vw p6 [.v (av 1),.v (av 3)])
noncomputable def wR:List aR->Bool:=yY aih 5
end rS
end
section
namespace qz
open D cg rL rS
noncomputable def Aj:bK:=
  (seq (asg 1 (a3 zQ [(a3 kX [(av 0),(ae (.int 0))])])) (seq (asg 2 (a3 wI [(av 1),(a3 kX [(av 0),(ae (.int 1))])])) (seq (asg 3 (a3 kX [(av 0),(ae (.int 2))])) (seq (asg 4 (a3 rx [(av 1),(a3 w8 [(av 1)]),(a3 an_ [(av 1),(av 3),(ae (.int 8))])])) (seq (asg 5 (aq b4 (ae (.int 1)) (aq oMod (aq oDiv (nm 3) (ae (.int 512))) (ae (.int 20))))) (seq (ef (xf (ae (.int 1)) (aq b4 (unop%WN 0) (ae (.int 1)))) (bH 6) (seq (gY 7 (eF [])) (seq (ef (dV (a3 gZ [(av 2),(av 6)])) (bH 8) (seq (asg 9 (a3 ks [(av 1),(av 2),(av 4),(av 8),(av 5)])) (seq (asg 10 (av 9)) (seq (iff (bO (cX g5 (nm 9))) (asg 10 (ae (.int 99))) skip) (app 7 (bo [(cX hp (nm 10)),(av 8)])))))) (seq (asg 11 (bo [(ae (.str "refused")),(ae (.int 1))])) (seq (iff (bO (aq h5 (nm 7) (eF []))) (asg 11 (bo [(ae (.str "told")),(aq aZ (a3 qq [(nm 7)]) (ae (.int 1)))])) skip) (yq (y' (an8 h5 (xi (rD (a3 ve [(av 1),(av 2),(av 4),(av 6),(av 5)])) (vw wR [.v (av 1),.v (av 2),.v (av 4),.v (av 6),.v (av 5)]) 1) (rD (av 11)))) (b' (ae (.bool false))) skip)))))) (b' (ae (.bool true)))))))))
noncomputable def vv:List T->Option T:=c5 Aj 12
end qz
end
section
namespace qz
open PySem PySem.Spec PyProof.Rows bu D cg rL rS
variable [cD]
noncomputable def top(i:Nat):Stmt:=PySem.Challenge.pw_doorwatch_k34_whole_safest_of_all.main.body.getD i (.Pass ⟨0,0,0,0⟩)
section
variable {P:cu}{w:b8}{K:a'}{mg:Str->Option ao}{base:bL}{bI:aj}{k:Nat}{f:aj}{fd:er}
def afi{α:Type}{us:List α}(h:us.length=1):∃a,us=[a]:=match us,h with|[a],_=>⟨_,rfl⟩
def afj{α:Type}{us:List α}(h:us.length=2):∃a b,us=[a,b]:=match us,h with|[a,b],_=>⟨_,_,rfl⟩
def afk{α:Type}{us:List α}(h:us.length=3):∃a b c,us=[a,b,c]:=match us,h with|[a,b,c],_=>⟨_,_,_,rfl⟩
def afl{α:Type}{us:List α}(h:us.length=4):∃a b c d,us=[a,b,c,d]:=match us,h with|[a,b,c,d],_=>⟨_,_,_,_,rfl⟩
def KS{α:Type}{us:List α}(h:us.length=5):∃a b c d e,us=[a,b,c,d,e]:=match us,h with|[a,b,c,d,e],_=>⟨_,_,_,_,_,rfl⟩
set_option hygiene false in
local macro_rules | `(unop% b6 $F) => `(cK.binds $F λ_ _ _ _ _ _ us aI => by obtain ⟨_, rfl⟩ := afi aI; rfl)
set_option hygiene false in
local macro_rules | `(unop% b7 $F) => `(cK.binds $F λ_ _ _ _ _ _ us aI => by obtain ⟨_, _, rfl⟩ := afj aI; rfl)
set_option hygiene false in
local macro_rules | `(unop% dO $F) => `(cK.binds $F λ_ _ _ _ _ _ us aI => by obtain ⟨_, _, _, rfl⟩ := afk aI; rfl)
set_option hygiene false in
local macro_rules | `(unop% kI $F) => `(cK.binds $F λ_ _ _ _ _ _ us aI => by obtain ⟨_, _, _, _, rfl⟩ := afl aI; rfl)
set_option hygiene false in
local macro_rules | `(unop% qH $F) => `(cK.binds $F λ_ _ _ _ _ _ us aI => by obtain ⟨_, _, _, _, _, rfl⟩ := KS aI; rfl)
local macro_rules | `(unop% dN 0) => `(⟨rfl, rfl, rfl, by decide +kernel, rfl, by decide +kernel, by decide +kernel⟩)
set_option hygiene false in
local macro_rules | `(unop% gO 0) => `(hi K 0 bI ["plan", "mode", "left", "came", "lines", "shunts", "siren", "alarms", "tries", "locked", "used", "past", "told"])
set_option hygiene false in
local macro_rules | `(unop% lm $t) => `(λb3 A outer s H E ay => $t)
local macro_rules | `(unop% fw $t) => `(λ_ _ _ _ _ _ => $t)
local macro_rules | `(unop% aV $l) => `(show List.Nodup ($l : List Str) by decide +kernel)
local macro_rules | `(binop% co $s $l) => `(al2 (sc := bQ $s) $l rfl rfl rfl (by decide +kernel))
set_option hygiene false in
local macro_rules | `(binop% gx $a $b) => `(hc (MU (by exact ay.units)) MW $a $b)
abbrev DI:Stmt:=top 38
def Rx:cW ["_law_number","_law_k","_law_drawn_here"] ["_law_number","_law_k"] (bQ DI):=unop%dN 0
def rp(F:cK K "_law_drawn" "_law_drawn" DI f fd)(m:mg "_law_drawn"=some (.ref f)) :Cl P w K mg base "_law_drawn" (k+1) 2 ic:=
 iE F Rx (unop%b7 F) m unop%lm
  (bJ (dj 2 Rx.aV (fz (aC (th (aC (gm (aC (gm (a8 0) (aC (th (aC aW) (a8 1))))) (aC aW))) (aC aW))) (aC aW))) (bR (eC (fz (aC (gm (aC (gm (aC (th (a8 2) (a8 2))) (aC (th (aC aW) (a8 2))))) (a8 1))) (aC aW)))))
abbrev zP:Stmt:=top 39
def lQ:cW ["_law_number","_law_zones","_law_k","_law_name","_law_drawn_here","_law_codes","_law_figures","_law_rights","_law_who","_law_times"] ["_law_number"] (bQ zP):=unop%dN 0
def Mm(F:cK K "_law_plan" "_law_plan" zP f fd)(m:mg "_law_plan"=some (.ref f))(ky:mg "enumerate"=none)(rp:Cl P w K mg base "_law_drawn" k 2 ic)(hh:mg "tuple"=none)(k_:mg "range"=none):Cl P w K mg base "_law_plan" (k+1) 1 zQ:=
 iE F lQ (unop%b6 F) m unop%lm
  (bJ (dj 1 lQ.aV (c_ bz)) (bJ (oh n9 (M4 ky (c_ (aD b2 (aD b2 (aD b2 (aD b2 (unop%WU 0))))))) (vr (k6 (fq 2 lQ.aV) (k6 (fq 3 lQ.aV) an6))) (bJ (dj 4 lQ.aV (hz (aC (eX rp ay (aD (bl 0) (aD (bl 2) bz)))) (aC aW))) (bR (dQ (qa (w_or (hc (Af.or zJ) z7 (aC (fz (a8 4) (aC aW))) (aC (gm (aC aW) (aC (fz (a8 0) (aC aW)))))) (Ac (binop%gx (a8 2) (aC (fz (aC (hz (a8 0) (aC aW))) (aC aW))))))) (bR (dj 1 lQ.aV (gm (a8 1) (aC (c_ (aD (c_ (aD (bl 3) (aD (cx (aC (c_ (aD b2 (unop%WU 0)))) (unop%WL 0)) bz))) bz)))))) e4)))) (bJ (dj 5 lQ.aV (c_ bz)) (bJ (oh n9 (M4 ky (c_ (aD b2 (aD b2 (unop%WU 0))))) (vr (k6 (fq 2 lQ.aV) (k6 (fq 6 lQ.aV) an6))) (bJ (dj 4 lQ.aV (hz (aC (eX rp ay (aD (bl 0) (aD (gm (aC aW) (a8 2)) bz)))) (aC aW))) (bR (dQ (qa (w_or (hc (Em.or DP) Ed (aC (fz (a8 4) (aC aW))) (aC aW)) (Ac (binop%gx (a8 2) (aC aW))))) (bJ (dj 7 lQ.aV (sY hh (jn (aC (ru (own:=["_law_j"]) (caps:=[(4,"_law_drawn_here")]) (binop%co zP ["_law_number","_law_zones","_law_k","_law_name","_law_drawn_here","_law_codes","_law_figures","_law_rights","_law_who","_law_times"]) (M3 k_ (aC aW)) (unop%fw (fq 0 (unop%aV ["_law_j","_law_drawn_here"]))) (unop%fw (MK (hc (Em.or DP) Ed (aC (fz (aC (hz (a8 1) (aC (cx (aC (c_ (aD aW (aD aW (aD aW bz))))) (a8 0))))) (aC aW))) (aC aW)))) (unop%fw (cx (aC (c_ (aD b2 (aD b2 (aD b2 bz))))) (a8 0))))) kv))) (bJ (dj 8 lQ.aV (cx (aC (c_ (aD b2 (aD b2 (aD b2 bz))))) (unop%WL 0))) (bR (dj 5 lQ.aV (gm (a8 5) (aC (c_ (aD (c_ (aD (bl 6) (aD (bl 8) (aD (bl 7) (aD (cx (aC (c_ (aD aW (aD aW (aD aW (aD aW (aD aW bz))))))) (unop%WL 0)) bz))))) bz)))))))) e4)))) (bJ (dj 4 lQ.aV (hz (aC (eX rp ay (aD (bl 0) (aD aW bz)))) (aC aW))) (bJ (dj 9 lQ.aV (c_ (aD (cx (aC (c_ (aD aW (aD aW (aD aW (aD aW bz)))))) (aC (fz (a8 4) (aC aW)))) (aD (cx (aC (c_ (aD aW (aD aW (aD aW (aD aW bz)))))) (unop%WL 0)) (aD (cx (aC (c_ (aD aW (aD aW (aD aW (aD aW bz)))))) (unop%WL 0)) bz))))) (bR (eC (c_ (aD (bl 1) (aD (bl 5) (aD (bl 9) bz))))))))))))
abbrev DG:Stmt:=top 43
def rm:cW ["_law_number","_law_rooms","_law_openings","_law_k","_law_drawn_here","_law_one","_law_other","_law_zone"] ["_law_number"] (bQ DG):=unop%dN 0
def L3(F:cK K "_law_house" "_law_house" DG f fd)(m:mg "_law_house"=some (.ref f))(k_:mg "range"=none)(rp:Cl P w K mg base "_law_drawn" k 2 ic)(qp:mg "min"=none)(k9:mg "max"=none):Cl P w K mg base "_law_house" (k+1) 1 r4:=
 iE F rm (unop%b6 F) m unop%lm
  (bJ (dj 1 rm.aV (gm (aC aW) (aC (fz (a8 0) (aC aW))))) (bJ (dj 2 rm.aV (c_ bz)) (bJ (oh n9 (M3 k_ (aC (fz (aC (hz (a8 0) (aC aW))) (aC aW)))) (fq 3 rm.aV) (bJ (dj 4 rm.aV (hz (aC (eX rp ay (aD (bl 0) (aD (gm (aC aW) (a8 3)) bz)))) (aC aW))) (bJ (dj 5 rm.aV (fz (a8 4) (aC (gm (a8 1) (aC aW))))) (bJ (dj 6 rm.aV (fz (aC (gm (aC (gm (a8 5) (aC aW))) (aC (fz (aC (hz (a8 4) (aC aW))) (a8 1))))) (aC (gm (a8 1) (aC aW))))) (bJ (dj 7 rm.aV (cx (aC (c_ (aD k8 (aD k8 (aD b2 (unop%WU 0)))))) (unop%WL 0))) (bR (dj 2 rm.aV (gm (a8 2) (aC (c_ (aD (c_ (aD (amv qp (jn (a8 5) (jn (a8 6) kv))) (aD (Ut k9 (jn (a8 5) (jn (a8 6) kv))) (aD (bl 7) bz)))) bz))))))))))) (bR (eC (c_ (aD (bl 1) (aD (bl 2) bz))))))))
abbrev zC:Stmt:=top 44
def rj:cW ["_law_plan_here","_law_number","_law_rooms","_law_openings","_law_names","_law_found","_law_one","_law_other","_law_zone"] ["_law_plan_here","_law_number"] (bQ zC):=unop%dN 0
def Lr(F:cK K "_law_house_of" "_law_house_of" zC f fd)(m:mg "_law_house_of"=some (.ref f))(L3:Cl P w K mg base "_law_house" k 1 r4)(vj:mg "int"=none):Cl P w K mg base "_law_house_of" (k+1) 2 wI:=
 iE F rj (unop%b7 F) m unop%lm
  (bJ (alc (eX L3 ay (aD (bl 1) bz)) (vr (k6 (fq 2 rj.aV) (k6 (fq 3 rj.aV) an6)))) (bJ (TQ 4 rj.aV (own:=["_law_zone"]) (caps:=[]) (binop%co zC ["_law_plan_here","_law_number","_law_rooms","_law_openings","_law_names","_law_found","_law_one","_law_other","_law_zone"]) (lU (unop%WP 0)) (unop%fw (fq 0 (unop%aV ["_law_zone"]))) (unop%fw tb) (unop%fw (unop%WP 0))) (bJ (dj 5 rj.aV (c_ bz)) (bJ (oh n9 (lU (bl 3)) (vr (k6 (fq 6 rj.aV) (k6 (fq 7 rj.aV) (k6 (fq 8 rj.aV) an6)))) (bR (dj 5 rj.aV (gm (a8 5) (aC (c_ (aD (c_ (aD (bl 6) (aD (bl 7) (aD (cx (aC (c_ (aD (bl 8) (aD k8 bz)))) (aC (aln vj (jn (aC (ti (u6 (by exact ay.units)) og (a8 8) (a8 4))) kv)))) bz)))) bz))))))) (bR (eC (c_ (aD (bl 2) (aD (bl 5) bz)))))))))
abbrev Dt:Stmt:=top 36
def agm:cW ["_law_script","_law_k"] ["_law_script","_law_k"] (bQ Dt):=unop%dN 0
def Ly(F:cK K "_law_cell_at" "_law_cell_at" Dt f fd)(m:mg "_law_cell_at"=some (.ref f))(mB:mg "len"=none):Cl P w K mg base "_law_cell_at" (k+1) 2 ni:=
 iE F agm (unop%b7 F) m unop%lm
  (bJ (dQ (hc (Af.or zJ) z7 (a8 1) (aC (Ek mB (jn (a8 0) kv)))) (bR (eC (cx (a8 0) (a8 1)))) e4) (bR (eC aW)))
abbrev DF:Stmt:=top 37
def Rw:cW ["_law_script","_law_k","_law_drawn_here"] ["_law_script","_law_k"] (bQ DF):=unop%dN 0
def zM(F:cK K "_law_mixed" "_law_mixed" DF f fd)(m:mg "_law_mixed"=some (.ref f))(Ly:Cl P w K mg base "_law_cell_at" k 2 ni):Cl P w K mg base "_law_mixed" (k+1) 2 kX:=
 iE F Rw (unop%b7 F) m unop%lm
  (bJ (dj 2 Rw.aV (fz (aC (th (aC (gm (aC (gm (aC (eX Ly ay (aD (bl 0) (aD (bl 1) bz)))) (aC (th (aC aW) (a8 1))))) (aC aW))) (aC aW))) (aC aW))) (bR (eC (fz (aC (gm (aC (gm (aC (th (a8 2) (a8 2))) (aC (th (aC aW) (a8 2))))) (a8 1))) (aC aW)))))
abbrev Dh:Stmt:=hR (top 16) 1
def zu:cW ["self","lines","shunts","alarms","used"] ["self"] (bQ Dh):=unop%dN 0
def Lh(F:cK K "state" "Course.state" Dh f fd)(m:Meth K bI "state" f)(a4:unop%gO 0)(hh:mg "tuple"=none):j' P w K mg base bI "state" (k+1) 1 zx:=
 z9 F zu (unop%b6 F) m unop%lm
  (bJ (dj 1 zu.aV (S' (j:=4) a4 rfl hh (bC 0))) (bJ (dj 2 zu.aV (sY hh (jn (ig (j:=5) a4 (bC 0)) kv))) (bJ (dj 3 zu.aV (sY hh (jn (ig (j:=7) a4 (bC 0)) kv))) (bJ (dj 4 zu.aV (S' (j:=10) a4 rfl hh (bC 0))) (bR (eC (c_ (aD (lR (j:=1) a4 (bC 0)) (aD (lR (j:=2) a4 (bC 0)) (aD (lR (j:=3) a4 (bC 0)) (aD (bl 1) (aD (bl 2) (aD (lR (j:=6) a4 (bC 0)) (aD (bl 3) (aD (lR (j:=8) a4 (bC 0)) (aD (lR (j:=9) a4 (bC 0)) (aD (bl 4) bz)))))))))))))))))
abbrev wF:Stmt:=hR (top 16) 0
def afK:cW ["self","plan","state"] ["self","plan","state"] (bQ wF):=unop%dN 0
def afT(F:cK K "__init__" "Course.__init__" wF f fd)(jV:xB K bI f)(m:mg "Course"=some (.ref bI))(a4:unop%gO 0)(s9:mg "dict"=none)(s_:mg "list"=none)(ta:mg "zip"=none):anZ P w K mg base "Course" bI 0 (k+1) 3 zo:=
 alO F afK (unop%dO F) jV m unop%lm
  (bJ (gk (j:=0) a4 (bC 0) (bl 1)) (bJ (gk (j:=1) a4 (bC 0) (cx (a8 2) (aC aW))) (bJ (gk (j:=2) a4 (bC 0) (cx (a8 2) (aC aW))) (bJ (gk (j:=3) a4 (bC 0) (cx (a8 2) (aC aW))) (bJ (S7 (j:=4) a4 rfl s9 ta (bC 0) (aC (ru (own:=["zone"]) (caps:=[]) (binop%co wF ["self","plan","state"]) (lU (unop%WQ 0)) (unop%fw (fq 0 (unop%aV ["zone"]))) (unop%fw tb) (unop%fw (unop%WP 0)))) (aC (cx (a8 2) (aC aW)))) (bJ (w0 (j:=5) a4 (bC 0) (S_ s_ (aC (cx (a8 2) (aC aW))))) (bJ (gk (j:=6) a4 (bC 0) (cx (a8 2) (aC aW))) (bJ (w0 (j:=7) a4 (bC 0) (S_ s_ (aC (cx (a8 2) (aC aW))))) (bJ (gk (j:=8) a4 (bC 0) (cx (a8 2) (aC aW))) (bJ (gk (j:=9) a4 (bC 0) (cx (a8 2) (aC aW))) (bJ (S7 (j:=10) a4 rfl s9 ta (bC 0) (aC (ru (own:=["code"]) (caps:=[]) (binop%co wF ["self","plan","state"]) (lU (unop%WQ 0)) (unop%fw (fq 0 (unop%aV ["code"]))) (unop%fw tb) (unop%fw (unop%WP 0)))) (aC (cx (a8 2) (aC aW)))) (bJ (gk (j:=11) a4 (bC 0) aW) (bR (w0 (j:=12) a4 (bC 0) (xj bz)))))))))))))))
abbrev Dj:Stmt:=hR (top 16) 3
def af3:cW ["self","word","name"] ["self","word","name"] (bQ Dj):=unop%dN 0
def hv(F:cK K "tell" "Course.tell" Dj f fd)(m:Meth K bI "tell" f)(a4:unop%gO 0):dn P w K mg base bI 0 "tell" (k+1) 3 gj:=
 j5 F af3 (unop%dO F) m unop%lm
  (bR (TR (j:=12) a4 (bC 0) (c_ (aD (lR (j:=11) a4 (bC 0)) (aD (bl 1) (aD (bl 2) bz))))))
abbrev DJ:Stmt:=top 7
def Ry:cW ["plan","name","zone"] ["plan","name"] (bQ DJ):=unop%dN 0
def zN(F:cK K "kind_of" "kind_of" DJ f fd)(m:mg "kind_of"=some (.ref f)) :Cl P w K mg base "kind_of" (k+1) 2 an5:=
 iE F Ry (unop%b7 F) m unop%lm
  (bJ (oh n9 (lU (unop%WP 0)) (fq 2 Ry.aV) (bR (dQ (binop%gx (aC (cx (a8 2) (aC aW))) (a8 1)) (bR (eC (cx (a8 2) (aC aW)))) e4))) (bR S6))
abbrev C9:Stmt:=hR (top 16) 4
def afQ:cW ["self"] ["self"] (bQ C9):=unop%dN 0
def zq(F:cK K "be_loud" "Course.be_loud" C9 f fd)(m:Meth K bI "be_loud" f)(a4:unop%gO 0):dn P w K mg base bI 0 "be_loud" (k+1) 1 u0:=
 j5 F afQ (unop%b6 F) m unop%lm
  (bR (gk (j:=6) a4 (bC 0) (cx (aC (cx (ig (j:=0) a4 (bC 0)) (aC aW))) (aC aW))))
abbrev Di:Stmt:=hR (top 16) 5
def afX:cW ["self","zone"] ["self","zone"] (bQ Di):=unop%dN 0
def qj(F:cK K "alarm" "Course.alarm" Di f fd)(m:Meth K bI "alarm" f)(a4:unop%gO 0)(zq:dn P w K mg base bI 0 "be_loud" k 1 u0)(hv:dn P w K mg base bI 0 "tell" k 3 gj):dn P w K mg base bI 0 "alarm" (k+1) 2 anB:=
 j5 F afX (unop%b7 F) m unop%lm
  (bJ (eS (va a4 zq ay (bC 0))) (bR (dQ (hc (u6 (by exact ay.units)) og (a8 1) (ig (j:=7) a4 (bC 0))) (bJ (TR (j:=7) a4 (bC 0) (bl 1)) (bR (unop%Wy 0))) e4)))
abbrev C8:Stmt:=hR (top 16) 9
def afP:cW ["self","zone","kind"] ["self","zone","kind"] (bQ C8):=unop%dN 0
def Lc(F:cK K "come_in" "Course.come_in" C8 f fd)(m:Meth K bI "come_in" f)(a4:unop%gO 0)(hv:dn P w K mg base bI 0 "tell" k 3 gj)(qj:dn P w K mg base bI 0 "alarm" k 2 anB):dn P w K mg base bI 0 "come_in" (k+1) 3 uZ:=
 j5 F afP (unop%dO F) m unop%lm
  (bJ (dQ (qa (w_or (hc (xb (by exact ay.units)) xc (a8 2) (aC b2)) (Ac (hc (Na.or LS) MV (aC (cx (aC (cx (ig (j:=0) a4 (bC 0)) (aC aW))) (aC aW))) (aC aW))))) (bJ (eS (fQ a4 qj ay (bC 0) (aD (bl 1) bz))) (bR Mv)) e4) (bJ (gk (j:=1) a4 (bC 0) b2) (bJ (gk (j:=2) a4 (bC 0) (cx (aC (cx (ig (j:=0) a4 (bC 0)) (aC aW))) (aC aW))) (bJ (gk (j:=3) a4 (bC 0) (bl 1)) (bR (unop%Wy 0))))))
abbrev C7:Stmt:=hR (top 16) 8
def QS:cW ["self","zone","what","kind"] ["self","zone","what"] (bQ C7):=unop%dN 0
def Lb(F:cK K "disturb" "Course.disturb" C7 f fd)(m:Meth K bI "disturb" f)(a4:unop%gO 0)(zN:Cl P w K mg base "kind_of" k 2 an5)(qj:dn P w K mg base bI 0 "alarm" k 2 anB)(hv:dn P w K mg base bI 0 "tell" k 3 gj)(Lc:dn P w K mg base bI 0 "come_in" k 3 uZ):dn P w K mg base bI 0 "disturb" (k+1) 3 zp:=
 j5 F QS (unop%dO F) m unop%lm
  (bJ (dj 3 QS.aV (eX zN ay (aD (lR (j:=0) a4 (bC 0)) (aD (bl 1) bz)))) (bR (dQ (binop%gx (a8 3) (aC b2)) (bR (eS (fQ a4 qj ay (bC 0) (aD (bl 1) bz)))) (bR (dQ (binop%gx (ig (j:=1) a4 (bC 0)) (aC b2)) (bR (dQ (binop%gx (a8 2) (aC b2)) (bR (unop%Wy 0)) e4)) (bR (dQ (qa (w_or (binop%gx (a8 2) (aC b2)) (Ac (binop%gx (a8 3) (aC b2))))) (bR (eS (fQ a4 qj ay (bC 0) (aD (bl 1) bz)))) (bR (dQ (binop%gx (ig (j:=1) a4 (bC 0)) (aC b2)) (bR (eS (fQ a4 Lc ay (bC 0) (aD (bl 1) (aD (bl 3) bz))))) e4)))))))))
abbrev Dk:Stmt:=hR (top 16) 7
def Q0:cW ["self","zone","what","before"] ["self","zone","what"] (bQ Dk):=unop%dN 0
def Lm(F:cK K "line" "Course.line" Dk f fd)(m:Meth K bI "line" f)(a4:unop%gO 0)(hv:dn P w K mg base bI 0 "tell" k 3 gj)(Lb:dn P w K mg base bI 0 "disturb" k 3 zp):dn P w K mg base bI 0 "line" (k+1) 3 zA:=
 j5 F Q0 (unop%dO F) m unop%lm
  (bJ (dj 3 Q0.aV (MS (j:=4) a4 (Ah ay) (bC 0) (a8 1))) (bJ (dQ (binop%gx (a8 2) (a8 3)) (bR Mv) e4) (bJ (alb (j:=4) a4 (Ah ay) (bC 0) (a8 1) (bl 2)) (bR (dQ (binop%gx (a8 2) (aC b2)) (bR (dQ (binop%gx (a8 3) (aC b2)) (bR (unop%Wy 0)) e4)) (bR (dQ (hc (u6 (by exact ay.units)) og (a8 1) (ig (j:=5) a4 (bC 0))) (bR (eS (fQ a4 Lb ay (bC 0) (aD (bl 1) (aD (bl 2) bz))))) e4)))))))
abbrev DK:Stmt:=top 14
def Rz:cW ["plan","figures","code"] ["plan","figures"] (bQ DK):=unop%dN 0
def L5(F:cK K "code_of" "code_of" DK f fd)(m:mg "code_of"=some (.ref f)) :Cl P w K mg base "code_of" (k+1) 2 zL:=
 iE F Rz (unop%b7 F) m unop%lm
  (bJ (oh n9 (lU (unop%WP 0)) (fq 2 Rz.aV) (bR (dQ (binop%gx (aC (cx (a8 2) (aC aW))) (a8 1)) (bR (z1 2)) e4))) (bR (eC k8)))
abbrev C1:Stmt:=hR (top 16) 16
def afC:cW ["self","code"] ["self","code"] (bQ C1):=unop%dN 0
def K3(F:cK K "is_used_up" "Course.is_used_up" C1 f fd)(m:Meth K bI "is_used_up" f)(a4:unop%gO 0):j' P w K mg base bI "is_used_up" (k+1) 2 wD:=
 z9 F afC (unop%b7 F) m unop%lm
  (bR (eC (Uv (ti (xb (by exact ay.units)) xc (aC (unop%WQ 0)) (aC aW)) (TU (ti (Ux.or R0) T4 (aC (MS (j:=10) a4 (Ah ay) (bC 0) (aC (unop%WQ 0)))) (aC (unop%WQ 0)))))))
abbrev CZ:Stmt:=hR (top 16) 17
def afB:cW ["self"] ["self"] (bQ CZ):=unop%dN 0
def K1(F:cK K "take_wrong" "Course.take_wrong" CZ f fd)(m:Meth K bI "take_wrong" f)(a4:unop%gO 0)(hv:dn P w K mg base bI 0 "tell" k 3 gj)(zq:dn P w K mg base bI 0 "be_loud" k 1 u0){KJ:Tok}(t6:mg "WRONG_IN_A_ROW"=some (.int 3 KJ)){KH:Tok}(t5:mg "TICKS_LOCKED"=some (.int 90 KH)):dn P w K mg base bI 0 "take_wrong" (k+1) 1 wB:=
 j5 F afB (unop%b6 F) m unop%lm
  (bJ (eS (fQ a4 hv ay (bC 0) (aD b2 (aD k8 bz)))) (bJ (TO (j:=8) a4 (bC 0) aW) (bR (dQ (hc (Ux.or R0) T4 (ig (j:=8) a4 (bC 0)) (aC (yQ t6))) (bJ (gk (j:=8) a4 (bC 0) aW) (bJ (gk (j:=9) a4 (bC 0) (yQ t5)) (bJ (eS (va a4 zq ay (bC 0))) (bR (eS (fQ a4 hv ay (bC 0) (aD b2 (aD k8 bz)))))))) e4))))
abbrev CX:Stmt:=hR (top 16) 20
def afA:cW ["self","deed","zone"] ["self","deed","zone"] (bQ CX):=unop%dN 0
def K0(F:cK K "is_untimely" "Course.is_untimely" CX f fd)(m:Meth K bI "is_untimely" f)(a4:unop%gO 0)(zN:Cl P w K mg base "kind_of" k 2 an5):j' P w K mg base bI "is_untimely" (k+1) 3 qi:=
 z9 F afA (unop%dO F) m unop%lm
  (bJ (dQ (binop%gx (a8 1) (aC b2)) (bR (eC Ck)) e4) (bJ (dQ (hc (xb (by exact ay.units)) xc (ig (j:=1) a4 (bC 0)) (aC b2)) (bR (eC Ck)) e4) (bJ (dQ (binop%gx (a8 1) (aC b2)) (bR (eC (adE (ti (MU (by exact ay.units)) MW (aC (eX zN ay (aD (lR (j:=0) a4 (bC 0)) (aD (bl 2) bz)))) (aC b2)) (amt (ti (z6 (by exact ay.units)) og (a8 2) (ig (j:=5) a4 (bC 0))))))) e4) (bR (eC (Uv (ti (MU (by exact ay.units)) MW (a8 1) (aC b2)) (TU (ti (u6 (by exact ay.units)) og (a8 2) (ig (j:=5) a4 (bC 0))))))))))
abbrev wA:Stmt:=hR (top 16) 6
def QN:cW ["self","kinds","zones"] ["self","kinds"] (bQ wA):=unop%dN 0
def zl(F:cK K "bare_zones" "Course.bare_zones" wA f fd)(m:Meth K bI "bare_zones" f)(a4:unop%gO 0):j' P w K mg base bI "bare_zones" (k+1) 2 uY:=
 z9 F QN (unop%b7 F) m unop%lm
  (bJ (TQ 2 QN.aV (own:=["zone"]) (caps:=[(1,"kinds")]) (binop%co wA ["self","kinds","zones"]) (lU (cx (ig (j:=0) a4 (bC 0)) (aC aW))) (unop%fw (fq 0 (unop%aV ["zone","kinds"]))) (unop%fw (MK (hc (z6 (by exact ay.units)) og (aC (unop%WP 0)) (a8 1)))) (unop%fw (unop%WP 0))) (bR (eC (ru (own:=["zone"]) (caps:=[(0,"self")]) (binop%co wA ["self","kinds","zones"]) (lU (bl 2)) (unop%fw (fq 0 (unop%aV ["zone","self"]))) (unop%fw (MK (qa (Ad (hc (xb (by exact ay.units)) xc (aC (MS (j:=4) (by exact a4) (by exact Ah ay) (bC 1) (a8 0))) (aC b2)) (zZ (hc (u6 (by exact ay.units)) og (a8 0) (ig (j:=5) (by exact a4) (bC 1)))))))) (unop%fw (bl 0))))))
abbrev CW:Stmt:=hR (top 16) 19
def KY:cW ["self","code","deed","zone","right","bare"] ["self","code","deed","zone"] (bQ CW):=unop%dN 0
def KZ(F:cK K "what_is_against" "Course.what_is_against" CW f fd)(m:Meth K bI "what_is_against" f)(a4:unop%gO 0)(K0:j' P w K mg base bI "is_untimely" k 3 qi)(zl:j' P w K mg base bI "bare_zones" k 2 uY){vF:aj}(aaR:mg "KINDS_SHUT_TO_SET"=some (.ref vF))(afa:∃(o:Obj) (its:Array ao) (n:Nat),K.lookup vF=some o/\o.cls=.type "tuple"/\o.data=.seq its n/\its.size<=cn/\Vals ((["day","once"]:List Str).map V.str) its.toList):j' P w K mg base bI "what_is_against" (k+1) 4 zh:=
 z9 F KY (unop%kI F) m unop%lm
  (bJ (dj 4 KY.aV (Uu (binop%gx (a8 2) (aC b2)) b2 (bl 2))) (bJ (dQ (hc (u6 (by exact ay.units)) og (a8 4) (aC (unop%WQ 0))) (bR (eC (c_ (aD b2 (aD (unop%WQ 0) bz))))) e4) (bJ (dQ (MM (aC (zV a4 K0 ay (bC 0) (aD (bl 2) (aD (bl 3) bz))))) (bR (eC (c_ (aD b2 (aD (unop%WQ 0) bz))))) e4) (bJ (dj 5 KY.aV (zV a4 zl ay (bC 0) (aD (P6 aaR afa) bz))) (bJ (dQ (qa (Ad (binop%gx (a8 2) (aC b2)) (zZ (ML (a8 5))))) (bR (eC (c_ (aD b2 (aD (cx (a8 5) (aC aW)) bz))))) e4) (bR (eC k8)))))))
abbrev CY:Stmt:=hR (top 16) 13
def QK:cW ["self","zone"] ["self"] (bQ CY):=unop%dN 0
def zi(F:cK K "end_leaving" "Course.end_leaving" CY f fd)(m:Meth K bI "end_leaving" f)(a4:unop%gO 0)(hv:dn P w K mg base bI 0 "tell" k 3 gj)(zl:j' P w K mg base bI "bare_zones" k 2 uY)(qj:dn P w K mg base bI 0 "alarm" k 2 anB){vE:aj}(aaQ:mg "KINDS_LEFT_BY"=some (.ref vE))(ae9:∃(o:Obj) (its:Array ao) (n:Nat),K.lookup vE=some o/\o.cls=.type "tuple"/\o.data=.seq its n/\its.size<=cn/\Vals ((["inner","way"]:List Str).map V.str) its.toList):dn P w K mg base bI 0 "end_leaving" (k+1) 1 uV:=
 j5 F QK (unop%b6 F) m unop%lm
  (bJ (gk (j:=1) a4 (bC 0) b2) (bJ (gk (j:=2) a4 (bC 0) aW) (bJ (eS (fQ a4 hv ay (bC 0) (aD b2 (aD k8 bz)))) (bR (oh n9 (lU (zV a4 zl ay (bC 0) (aD (P6 aaQ ae9) bz))) (fq 1 QK.aV) (bR (eS (fQ a4 qj ay (bC 0) (aD (bl 1) bz)))))))))
abbrev Dc:Stmt:=hR (top 16) 22
def afV:cW ["self","who"] ["self","who"] (bQ Dc):=unop%dN 0
def Le(F:cK K "do_set" "Course.do_set" Dc f fd)(m:Meth K bI "do_set" f)(a4:unop%gO 0)(hv:dn P w K mg base bI 0 "tell" k 3 gj)(zi:dn P w K mg base bI 0 "end_leaving" k 1 uV):dn P w K mg base bI 0 "do_set" (k+1) 2 wH:=
 j5 F afV (unop%b7 F) m unop%lm
  (bJ (w0 (j:=7) a4 (bC 0) (xj bz)) (bJ (gk (j:=6) a4 (bC 0) aW) (bJ (gk (j:=1) a4 (bC 0) b2) (bJ (gk (j:=2) a4 (bC 0) (cx (aC (cx (ig (j:=0) a4 (bC 0)) (aC aW))) (aC aW))) (bJ (unop%Wy 0) (bR (dQ (hc (Na.or LS) MV (ig (j:=2) a4 (bC 0)) (aC aW)) (bR (eS (va a4 zi ay (bC 0)))) e4)))))))
abbrev C5:Stmt:=hR (top 16) 23
def afJ:cW ["self","who"] ["self","who"] (bQ C5):=unop%dN 0
def K9(F:cK K "do_unset" "Course.do_unset" C5 f fd)(m:Meth K bI "do_unset" f)(a4:unop%gO 0)(hv:dn P w K mg base bI 0 "tell" k 3 gj):dn P w K mg base bI 0 "do_unset" (k+1) 2 zm:=
 j5 F afJ (unop%b7 F) m unop%lm
  (bJ (gk (j:=1) a4 (bC 0) b2) (bJ (gk (j:=2) a4 (bC 0) aW) (bJ (gk (j:=6) a4 (bC 0) aW) (bJ (gk (j:=3) a4 (bC 0) k8) (bJ (w0 (j:=5) a4 (bC 0) (xj bz)) (bR (unop%Wy 0)))))))
abbrev C6:Stmt:=hR (top 16) 21
def afO:cW ["self","who","deed","zone"] ["self","who","deed","zone"] (bQ C6):=unop%dN 0
def La(F:cK K "do_deed" "Course.do_deed" C6 f fd)(m:Meth K bI "do_deed" f)(a4:unop%gO 0)(Le:dn P w K mg base bI 0 "do_set" k 2 wH)(K9:dn P w K mg base bI 0 "do_unset" k 2 zm)(vk:mg "sorted"=none)(hv:dn P w K mg base bI 0 "tell" k 3 gj):dn P w K mg base bI 0 "do_deed" (k+1) 4 sR:=
 j5 F afO (unop%kI F) m unop%lm
  (bR (dQ (binop%gx (a8 2) (aC b2)) (bR (eS (fQ a4 Le ay (bC 0) (aD (bl 1) bz)))) (bR (dQ (binop%gx (a8 2) (aC b2)) (bR (eS (fQ a4 K9 ay (bC 0) (aD (bl 1) bz)))) (bR (dQ (binop%gx (a8 2) (aC b2)) (bJ (w0 (j:=5) a4 (bC 0) (aii rfl vk (aC (gm (ig (j:=5) a4 (bC 0)) (aC (MR (aD (bl 3) bz))))))) (bR (eS (fQ a4 hv ay (bC 0) (aD b2 (aD (bl 3) bz)))))) (bJ (ami (j:=5) a4 (bC 0) (bl 3)) (bR (eS (fQ a4 hv ay (bC 0) (aD b2 (aD (bl 3) bz))))))))))))
abbrev C0:Stmt:=hR (top 16) 18
def QL:cW ["self","code","deed","zone","against"] ["self","code","deed","zone"] (bQ C0):=unop%dN 0
def K2(F:cK K "take_right" "Course.take_right" C0 f fd)(m:Meth K bI "take_right" f)(a4:unop%gO 0)(KZ:j' P w K mg base bI "what_is_against" k 4 zh)(La:dn P w K mg base bI 0 "do_deed" k 4 sR)(hv:dn P w K mg base bI 0 "tell" k 3 gj):dn P w K mg base bI 0 "take_right" (k+1) 4 wC:=
 j5 F QL (unop%kI F) m unop%lm
  (bJ (dj 4 QL.aV (zV a4 KZ ay (bC 0) (aD (bl 1) (aD (bl 2) (aD (bl 3) bz))))) (bR (dQ (Ae (a8 4)) (bJ (akc (j:=10) a4 (Ah ay) (bC 0) (aC (unop%WQ 0)) aW) (bR (eS (fQ a4 La ay (bC 0) (aD (unop%WQ 0) (aD (bl 2) (aD (bl 3) bz))))))) (bR (eS (fQ a4 hv ay (bC 0) (aD (cx (a8 4) (aC aW)) (aD (cx (a8 4) (aC aW)) bz))))))))
abbrev Dl:Stmt:=hR (top 16) 15
def Q1:cW ["self","figures","deed","zone","code"] ["self","figures","deed","zone"] (bQ Dl):=unop%dN 0
def Ln(F:cK K "code" "Course.code" Dl f fd)(m:Meth K bI "code" f)(a4:unop%gO 0)(L5:Cl P w K mg base "code_of" k 2 zL)(hv:dn P w K mg base bI 0 "tell" k 3 gj)(K3:j' P w K mg base bI "is_used_up" k 2 wD)(K1:dn P w K mg base bI 0 "take_wrong" k 1 wB)(K2:dn P w K mg base bI 0 "take_right" k 4 wC):dn P w K mg base bI 0 "code" (k+1) 4 sU:=
 j5 F Q1 (unop%kI F) m unop%lm
  (bJ (dj 4 Q1.aV (eX L5 ay (aD (lR (j:=0) a4 (bC 0)) (aD (bl 1) bz)))) (bR (dQ (hc (Em.or DP) Ed (ig (j:=9) a4 (bC 0)) (aC aW)) (bR (eS (fQ a4 hv ay (bC 0) (aD b2 (aD k8 bz))))) (bR (dQ (qa (w_or (Ae (a8 4)) (Ac (MM (aC (zV a4 K3 ay (bC 0) (aD (bl 4) bz))))))) (bR (eS (va a4 K1 ay (bC 0)))) (bJ (gk (j:=8) a4 (bC 0) aW) (bR (eS (fQ a4 K2 ay (bC 0) (aD (bl 4) (aD (bl 2) (aD (bl 3) bz))))))))))))
abbrev Dz:Stmt:=top 15
def agP:cW ["ticks","many"] ["ticks","many"] (bQ Dz):=unop%dN 0
def zG(F:cK K "lessened" "lessened" Dz f fd)(m:mg "lessened"=some (.ref f))(k9:mg "max"=none):Cl P w K mg base "lessened" (k+1) 2 an4:=
 iE F agP (unop%b7 F) m unop%lm
  (bR (eC (Ut k9 (jn (aC (Us (a8 0) (a8 1))) (jn (aC aW) kv)))))
abbrev C3:Stmt:=hR (top 16) 11
def afD:cW ["self","many"] ["self","many"] (bQ C3):=unop%dN 0
def aod(F:cK K "count_down" "Course.count_down" C3 f fd)(m:Meth K bI "count_down" f)(a4:unop%gO 0)(zG:Cl P w K mg base "lessened" k 2 an4):dn P w K mg base bI 0 "count_down" (k+1) 2 uX:=
 j5 F afD (unop%b7 F) m unop%lm
  (bJ (TO (j:=11) a4 (bC 0) (bl 1)) (bJ (gk (j:=9) a4 (bC 0) (eX zG ay (aD (lR (j:=9) a4 (bC 0)) (aD (bl 1) bz)))) (bJ (gk (j:=6) a4 (bC 0) (eX zG ay (aD (lR (j:=6) a4 (bC 0)) (aD (bl 1) bz)))) (bR (gk (j:=2) a4 (bC 0) (eX zG ay (aD (lR (j:=2) a4 (bC 0)) (aD (bl 1) bz))))))))
abbrev C2:Stmt:=hR (top 16) 14
def QM:cW ["self","zone"] ["self"] (bQ C2):=unop%dN 0
def K4(F:cK K "end_coming" "Course.end_coming" C2 f fd)(m:Meth K bI "end_coming" f)(a4:unop%gO 0)(qj:dn P w K mg base bI 0 "alarm" k 2 anB):dn P w K mg base bI 0 "end_coming" (k+1) 1 zj:=
 j5 F QM (unop%b6 F) m unop%lm
  (bJ (dj 1 QM.aV (lR (j:=3) a4 (bC 0))) (bJ (gk (j:=1) a4 (bC 0) b2) (bJ (gk (j:=3) a4 (bC 0) k8) (bR (eS (fQ a4 qj ay (bC 0) (aD (bl 1) bz)))))))
abbrev C4:Stmt:=hR (top 16) 12
def afI:cW ["self"] ["self"] (bQ C4):=unop%dN 0
def K8(F:cK K "end_time" "Course.end_time" C4 f fd)(m:Meth K bI "end_time" f)(a4:unop%gO 0)(zi:dn P w K mg base bI 0 "end_leaving" k 1 uV)(K4:dn P w K mg base bI 0 "end_coming" k 1 zj):dn P w K mg base bI 0 "end_time" (k+1) 1 wG:=
 j5 F afI (unop%b6 F) m unop%lm
  (bR (dQ (binop%gx (ig (j:=1) a4 (bC 0)) (aC b2)) (bR (eS (va a4 zi ay (bC 0)))) (bR (eS (va a4 K4 ay (bC 0))))))
abbrev Dg:Stmt:=hR (top 16) 10
def QY:cW ["self","many","rest"] ["self","many"] (bQ Dg):=unop%dN 0
def Lg(F:cK K "ticks" "Course.ticks" Dg f fd)(m:Meth K bI "ticks" f)(a4:unop%gO 0)(aod:dn P w K mg base bI 0 "count_down" k 2 uX)(K8:dn P w K mg base bI 0 "end_time" k 1 wG):dn P w K mg base bI 0 "ticks" (k+1) 2 sT:=
 j5 F QY (unop%b7 F) m unop%lm
  (bJ (dQ (hc (Af.or zJ) z7 (a8 1) (aC aW)) (bR Mv) e4) (bR (dQ (qa (Ad (hc (z6 (by exact ay.units)) og (ig (j:=1) a4 (bC 0)) (aC (c_ (aD b2 (aD b2 bz))))) (zZ (hc (Na.or LS) MV (ig (j:=2) a4 (bC 0)) (a8 1))))) (bJ (dj 2 QY.aV (Us (a8 1) (ig (j:=2) a4 (bC 0)))) (bJ (eS (fQ a4 aod ay (bC 0) (aD (lR (j:=2) a4 (bC 0)) bz))) (bJ (eS (va a4 K8 ay (bC 0))) (bR (eS (fQ a4 aod ay (bC 0) (aD (bl 2) bz))))))) (bR (eS (fQ a4 aod ay (bC 0) (aD (bl 1) bz)))))))
abbrev C':Stmt:=hR (top 16) 2
def afU:cW ["self","event"] ["self","event"] (bQ C'):=unop%dN 0
def Ld(F:cK K "happen" "Course.happen" C' f fd)(m:Meth K bI "happen" f)(a4:unop%gO 0)(Lm:dn P w K mg base bI 0 "line" k 3 zA)(Ln:dn P w K mg base bI 0 "code" k 4 sU)(Lg:dn P w K mg base bI 0 "ticks" k 2 sT):dn P w K mg base bI 0 "happen" (k+1) 2 sS:=
 j5 F afU (unop%b7 F) m unop%lm
  (bR (dQ (binop%gx (aC (unop%WQ 0)) (aC b2)) (bR (eS (fQ a4 Lm ay (bC 0) (aD (unop%WQ 0) (aD (unop%WQ 0) bz))))) (bR (dQ (binop%gx (aC (unop%WQ 0)) (aC b2)) (bR (eS (fQ a4 Ln ay (bC 0) (aD (unop%WQ 0) (aD (unop%WQ 0) (aD (unop%WQ 0) bz)))))) (bR (eS (fQ a4 Lg ay (bC 0) (aD (unop%WQ 0) bz))))))))
abbrev Du:Stmt:=top 17
def Lo:cW ["plan","state","row","course","event"] ["plan","state","row"] (bQ Du):=unop%dN 0
def Rd(ts:List T)(s:aR)(h:sV ts=some s):∃c os,s=.obj .own c os:=ajk (b:=LB) h
def zE(F:cK K "course_of" "course_of" Du f fd)(m:mg "course_of"=some (.ref f))(a4:unop%gO 0)(W6:anZ P w K mg base "Course" bI 0 k 3 zo)(Ld:dn P w K mg base bI 0 "happen" k 2 sS):rG P w K mg base "course_of" (k+2) 3 sV:=
 al3 F Lo (unop%dO F) m unop%lm
  (bJ (ald 3 Lo.aV (amC a4 W6 ay (aD (bl 0) (aD (bl 1) bz)))) (bJ (oh n9 (lU (bl 2)) (fq 4 Lo.aV) (bR (eS (fQ a4 Ld (ay.mono (qd _)) (bC 3) (aD (bl 4) bz))))) (bR (ala (bC 3)))))
abbrev D5:Stmt:=top 19
def ajh:cW ["plan","state","row"] ["plan","state","row"] (bQ D5):=unop%dN 0
def zX(F:cK K "after" "after" D5 f fd)(m:mg "after"=some (.ref f))(a4:unop%gO 0)(Lh:j' P w K mg base bI "state" k 1 zx)(zE:rG P w K mg base "course_of" k 3 sV):Cl P w K mg base "after" (k+1) 3 rx:=
 iE F ajh (unop%dO F) m unop%lm
  (bR (eC (amu a4 Lh ay (T7 zE Rd ay (aD (bl 0) (aD (bl 1) (aD (bl 2) bz)))))))
abbrev wZ:Stmt:=top 8
def Mb:cW ["plan","lines","used"] ["plan"] (bQ wZ):=unop%dN 0
def MI(F:cK K "begun" "begun" wZ f fd)(m:mg "begun"=some (.ref f))(hh:mg "tuple"=none):Cl P w K mg base "begun" (k+1) 1 w8:=
 iE F Mb (unop%b6 F) m unop%lm
  (bJ (dj 1 Mb.aV (sY hh (jn (aC (ru (own:=["zone"]) (caps:=[]) (binop%co wZ ["plan","lines","used"]) (lU (unop%WP 0)) (unop%fw (fq 0 (unop%aV ["zone"]))) (unop%fw tb) (unop%fw b2))) kv))) (bJ (dj 2 Mb.aV (sY hh (jn (aC (ru (own:=["code"]) (caps:=[]) (binop%co wZ ["plan","lines","used"]) (lU (unop%WP 0)) (unop%fw (fq 0 (unop%aV ["code"]))) (unop%fw tb) (unop%fw aW))) kv))) (bR (eC (c_ (aD b2 (aD aW (aD k8 (aD (bl 1) (aD (c_ bz) (aD aW (aD (c_ bz) (aD aW (aD aW (aD (bl 2) bz)))))))))))))))
abbrev DH:Stmt:=top 40
def wK:cW ["_law_plan_here","_law_number","_law_zone","_law_kind","_law_figures","_law_deed"] ["_law_plan_here","_law_number"] (bQ DH):=unop%dN 0
def L4(F:cK K "_law_event" "_law_event" DH f fd)(m:mg "_law_event"=some (.ref f))(mB:mg "len"=none):Cl P w K mg base "_law_event" (k+1) 2 sW:=
 iE F wK (unop%b7 F) m unop%lm
  (bJ (dj 2 wK.aV (cx (aC (cx (aC (unop%WP 0)) (aC (fz (aC (hz (a8 1) (aC aW))) (aC (Ek mB (jn (aC (unop%WP 0)) kv))))))) (aC aW))) (bJ (dj 3 wK.aV (fz (a8 1) (aC aW))) (bJ (dQ (hc (Af.or zJ) z7 (a8 3) (aC aW)) (bR (eC (c_ (aD b2 (aD (bl 2) (aD (cx (aC (c_ (unop%WU 0))) (unop%WM 0)) bz)))))) e4) (bJ (dQ (hc (Af.or zJ) z7 (a8 3) (aC aW)) (bR (eC (c_ (aD b2 (aD (gm (aC aW) (aC (fz (aC (hz (a8 1) (aC aW))) (aC (cx (aC (c_ (aD aW (aD aW (aD aW bz))))) (unop%WM 0)))))) bz))))) e4) (bJ (dj 4 wK.aV (cx (aC (cx (aC (unop%WP 0)) (aC (fz (aC (hz (a8 1) (aC aW))) (aC (Ek mB (jn (aC (unop%WP 0)) kv))))))) (aC aW))) (bJ (dQ (binop%gx (unop%WM 0) (aC aW)) (bR (dj 4 wK.aV (cx (aC (c_ (unop%WU 0))) (unop%WM 0)))) e4) (bJ (dj 5 wK.aV (cx (aC (c_ (aD b2 (aD b2 (unop%WU 0))))) (unop%WM 0))) (bJ (dQ (hc (z6 (by exact ay.units)) og (a8 5) (aC (c_ (aD b2 (aD b2 bz))))) (bR (eC (c_ (aD b2 (aD (bl 4) (aD (bl 5) (aD k8 bz))))))) e4) (bR (eC (c_ (aD b2 (aD (bl 4) (aD (bl 5) (aD (bl 2) bz)))))))))))))))
abbrev zU:Stmt:=top 41
def Ma:cW ["_law_plan_here","_law_number","_law_most","_law_row_here"] ["_law_plan_here","_law_number","_law_most"] (bQ zU):=unop%dN 0
def MH(F:cK K "_law_row" "_law_row" zU f fd)(m:mg "_law_row"=some (.ref f))(hh:mg "tuple"=none)(L4:Cl P w K mg base "_law_event" k 2 sW)(mB:mg "len"=none)(k_:mg "range"=none)(rp:Cl P w K mg base "_law_drawn" k 2 ic):Cl P w K mg base "_law_row" (k+1) 3 an_:=
 iE F Ma (unop%dO F) m unop%lm
  (bJ (dj 3 Ma.aV (sY hh (jn (aC (ru (own:=["_law_k"]) (caps:=[(0,"_law_plan_here"),(1,"_law_number")]) (binop%co zU ["_law_plan_here","_law_number","_law_most","_law_row_here"]) (M3 k_ (aC (fz (a8 1) (aC (gm (a8 2) (aC aW)))))) (unop%fw (fq 0 (unop%aV ["_law_k","_law_plan_here","_law_number"]))) (unop%fw tb) (unop%fw (eX (by exact L4) (by exact ay) (aD (bl 1) (aD (hz (aC (eX (by exact rp) (by exact ay) (aD (bl 2) (aD (gm (aC aW) (a8 0)) bz)))) (aC aW)) bz)))))) kv))) (bJ (dQ (qa (Ad (binop%gx (unop%WM 0) (aC aW)) (zZ (hc (Em.or DP) Ed (aC (Ek mB (jn (a8 3) kv))) (aC aW))))) (bR (dj 3 Ma.aV (gm (aC (aki (a8 3) alN (alM (aC (Ej (aC aW)))))) (aC (ams (aC (c_ (aD (c_ (aD b2 (aD b2 (aD b2 (aD k8 bz))))) bz))) (aC aW)))))) e4) (bR (z1 3))))
abbrev DV:Stmt:=top 23
def aic:cW ["opening","here"] ["opening","here"] (bQ DV):=unop%dN 0
def wX(F:cK K "beyond" "beyond" DV f fd)(m:mg "beyond"=some (.ref f)) :Cl P w K mg base "beyond" (k+1) 2 anD:=
 iE F aic (unop%b7 F) m unop%lm
  (bJ (dQ (binop%gx (aC (unop%WP 0)) (a8 1)) (bR (eC (unop%WP 0))) e4) (bJ (dQ (binop%gx (aC (unop%WP 0)) (a8 1)) (bR (eC (unop%WP 0))) e4) (bR (eC k8))))
abbrev u5:Stmt:=top 24
def zF:cW ["house","room","places","found","number","opening","there"] ["house","room","places"] (bQ u5):=unop%dN 0
def RO{K:a'}{f:aj}{fd:er}(F:cK K "ways_on" "ways_on" u5 f fd):f7 K fd ["house","room","places"] []:=F.binds (ps:=["house","room","places"]) λ_ _ _ _ _ _ us aI=>match us,aI with|[_,_,_],_=>rfl
def ahX{d:List T->Option T}(F:cK K "ways_on" "ways_on" u5 f fd)(m:mg "ways_on"=some (.ref f))(wO:Cl P w K mg base "ways_on" k 3 d)(ky:mg "enumerate"=none)(wX:Cl P w K mg base "beyond" k 2 anD):Cl P w K mg base "ways_on" (k+1) 3 (c5 (wQ d) 7):=
 iE F zF (RO F) m unop%lm
  (bJ (dQ (binop%gx (aC (cx (a8 2) (aC (Ej (aC aW))))) (a8 1)) (bR (eC (MR (aD (c_ bz) bz)))) e4) (bJ (TP 3 zF.aV (xj bz)) (bJ (oh n9 (M4 ky (unop%WP 0)) (vr (k6 (fq 4 zF.aV) (k6 (fq 5 zF.aV) an6))) (bJ (dj 6 zF.aV (eX wX ay (aD (bl 5) (aD (cx (a8 2) (aC (Ej (aC aW)))) bz)))) (bR (dQ (qa (Ad (ak_ (a8 6)) (zZ (hc (u6 (by exact ay.units)) og (a8 6) (a8 2))))) (bR (amk 3 (aC (ru (own:=["rest"]) (caps:=[(4,"number")]) (binop%co u5 ["house","room","places","found","number","opening","there"]) (lU (eX wO ay (aD (bl 0) (aD (bl 1) (aD (gm (a8 2) (aC (c_ (aD (bl 6) bz)))) bz))))) (unop%fw (fq 0 (unop%aV ["rest","number"]))) (unop%fw tb) (unop%fw (gm (aC (c_ (aD (bl 1) bz))) (a8 0))))))) e4)))) (bR (z1 3)))))
theorem wO(F:cK K "ways_on" "ways_on" u5 f fd)(m:mg "ways_on"=some (.ref f))(ky:mg "enumerate"=none)(wX:Cl P w K mg base "beyond" k 2 anD):∀n,Cl P w K mg base "ways_on" (k+n) 3 (nq n)
|0=>.mk' aiP m F.aG (RO F)
|n+1=>ahX F m (wO F m ky wX  n) ky (wX.mono (lP _ _))
abbrev Ea:Stmt:=top 25
def akb:cW ["house","room"] ["house","room"] (bQ Ea):=unop%dN 0
def vm(F:cK K "ways" "ways" Ea f fd)(m:mg "ways"=some (.ref f))(hh:mg "tuple"=none)(wO:Cl P w K mg base "ways_on" k 3 (nq 20)){KG:Tok}(t4:mg "OUTSIDE"=some (.int 0 KG)):Cl P w K mg base "ways" (k+1) 2 gZ:=
 iE F akb (unop%b7 F) m unop%lm
  (bR (eC (sY hh (jn (aC (eX wO ay (aD (bl 0) (aD (bl 1) (aD (c_ (aD (yQ t4) bz)) bz))))) kv))))
abbrev DT:Stmt:=top 30
def RW:cW ["opening","pace","zone"] ["opening","pace"] (bQ DT):=unop%dN 0
def Ml(F:cK K "passed" "passed" DT f fd)(m:mg "passed"=some (.ref f)){KI:Tok}(anU:mg "TICKS_TO_PASS"=some (.int 1 KI)):Cl P w K mg base "passed" (k+1) 2 rt:=
 iE F RW (unop%b7 F) m unop%lm
  (bJ (dj 2 RW.aV (unop%WP 0)) (bJ (dQ (Ae (a8 2)) (bR (eC (c_ (aD (c_ (aD b2 (aD (yQ anU) bz))) (aD (c_ (aD b2 (aD (bl 1) bz))) bz))))) e4) (bR (eC (c_ (aD (c_ (aD b2 (aD (bl 2) (aD b2 bz)))) (aD (c_ (aD b2 (aD (yQ anU) bz))) (aD (c_ (aD b2 (aD (bl 2) (aD b2 bz)))) (aD (c_ (aD b2 (aD (bl 1) bz))) bz)))))))))
abbrev zD:Stmt:=top 31
def agn:cW ["told"] ["told"] (bQ zD):=unop%dN 0
def Lz(F:cK K "has_alarm" "has_alarm" zD f fd)(m:mg "has_alarm"=some (.ref f)) :Cl P w K mg base "has_alarm" (k+1) 1 u1:=
 iE F agn (unop%b6 F) m unop%lm
  (bR (eC (ti (z6 (by exact ay.units)) og (aC b2) (aC (ru (own:=["past","word","name"]) (caps:=[]) (binop%co zD ["told"]) (lU (bl 0)) (unop%fw (vr (k6 (fq 0 (unop%aV ["past","word","name"])) (k6 (fq 1 (unop%aV ["past","word","name"])) (k6 (fq 2 (unop%aV ["past","word","name"])) an6))))) (unop%fw tb) (unop%fw (bl 1)))))))
abbrev D4:Stmt:=top 20
def ajg:cW ["plan","state","row"] ["plan","state","row"] (bQ D4):=unop%dN 0
def MG(F:cK K "story" "story" D4 f fd)(m:mg "story"=some (.ref f))(a4:unop%gO 0)(hh:mg "tuple"=none)(zE:rG P w K mg base "course_of" k 3 sV):Cl P w K mg base "story" (k+1) 3 s8:=
 iE F ajg (unop%dO F) m unop%lm
  (bR (eC (sY hh (jn (aC (aij (j:=12) a4 (T7 zE Rd ay (aD (bl 0) (aD (bl 1) (aD (bl 2) bz)))))) kv))))
abbrev DU:Stmt:=top 32
def wM:cW ["plan","house","state","way","pace","here","place","number","row"] ["plan","house","state","way","pace"] (bQ DU):=unop%dN 0
def wW(F:cK K "caught" "caught" DU f fd)(m:mg "caught"=some (.ref f))(ky:mg "enumerate"=none)(Ml:Cl P w K mg base "passed" k 2 rt)(Lz:Cl P w K mg base "has_alarm" k 1 u1)(zX:Cl P w K mg base "after" k 3 rx)(MG:Cl P w K mg base "story" k 3 s8):Cl P w K mg base "caught" (k+1) 5 ks:=
 iE F wM (unop%qH F) m unop%lm
  (bJ (dj 5 wM.aV (bl 2)) (bJ (oh n9 (akQ ky (bl 3)) (vr (k6 (fq 6 wM.aV) (k6 (fq 7 wM.aV) an6))) (bJ (dj 8 wM.aV (eX Ml ay (aD (cx (aC (unop%WQ 0)) (a8 7)) (aD (bl 4) bz)))) (bJ (dQ (MM (aC (eX Lz ay (aD (eX MG ay (aD (bl 0) (aD (bl 5) (aD (bl 8) bz)))) bz)))) (bR (z1 6)) e4) (bR (dj 5 wM.aV (eX zX ay (aD (bl 0) (aD (bl 5) (aD (bl 8) bz))))))))) (bR (eC k8))))
abbrev pn:Stmt:=top 42
def u4:cW ["_law_deed","_law_found","e","_law_kinds"] ["_law_deed"] (bQ pn):=unop%dN 0
def ai5{K:a'}{f:aj}{fd:er}(F:cK K "_law_told" "_law_told" pn f fd):f7 K fd ["_law_deed"] []:=F.binds (ps:=["_law_deed"]) λ_ _ _ _ _ _ us aI=>match us,aI with|[_],_=>rfl
def aiL{f:aj}(b3:ao)(A:cp)(outer:List Env)(s:aH)(H:aB):fS (unop%Wi 0).d9 (fh pn) (M9 (unop%Wi 0).d9):=
 vb (alw (vf (td u4.aV rfl (Or.inl rfl) (z3 (e3 z4 (e3 (aku (bC 0)) hb)))))) (vf (xa (bC 1)))
def aiK{f C kE xz hN jj lK:aj}{j:Nat}(i6:vA K mg kE xz hN jj lK)(R:tK K kE xz hN jj lK C j)(b3:ao)(A:cp)(outer:List Env)(s:aH)(H:aB):fS (unop%Wi 0).d9 (fh pn) (D' (unop%Wi 0).d9 C j):=
 ak9 i6 R (λdu E=>vf (td u4.aV rfl (Or.inl rfl) (z3 (e3 z4 (e3 (aju (bC 0)) hb)))))
  (λea=>vb (td u4.aV rfl (Or.inl rfl) (T1 (e3 (z5 R.ok i6.oW (bC 2) (w1 (by rfl) i6.nz (by rfl))) (e3 (z5 R.ok i6.oW (bC 2) (w1 (by rfl) i6.nw (by rfl))) (e3 (z5 R.ok i6.oW (bC 2) (w1 (by rfl) i6.aV (by rfl))) (e3 (z5 R.ok i6.oW (bC 2) (w1 (by rfl) i6.nt (by rfl))) hb)))))) (vb (td u4.aV rfl (Or.inl rfl) (z3 (e3 z4 (e3 (Uw TM Eb) hb)))) (vf (El (TV (TX (z5 R.ok i6.oW (bC 2) (akw (by rfl) i6.val PyProof.Rows.Boot.«ValueError» (by rfl)))) (Ta (My amA (xm wz PySem.F.slot_list_count PySem.F.type_list_count ajE (bC 3) (e3 M' hb)) Eb (Ee _)))).pt (vf (td u4.aV rfl (Or.inl rfl) (z3 (e3 z4 (e3 (xm wz PySem.F.slot_list_index PySem.F.type_list_index aix (bC 3) (e3 M' hb)) hb))))) Tb)))) (bC 1) u4.aV
abbrev zz:Stmt:=top 27
def Df:cW ["house","room","through"] ["house","room"] (bQ zz):=unop%dN 0
def Dp(F:cK K "ways_at_all" "ways_at_all" zz f fd)(m:mg "ways_at_all"=some (.ref f))(vm:Cl P w K mg base "ways" k 2 gZ):Cl P w K mg base "ways_at_all" (k+1) 2 rk:=
 iE F Df (unop%b7 F) m unop%lm
  (bJ (dj 2 Df.aV (eX vm ay (aD (bl 0) (aD (bl 1) bz)))) (bJ (dQ (Um (ML (a8 2))) (bR S6) e4) (bR (z1 2))))
def De{k:Nat}{f:aj}{fd:er}(F:cK K "ways_at_all" "ways_at_all" zz f fd)(m:mg "ways_at_all"=some (.ref f)){kE xz hN jj lK:aj}(i6:vA K mg kE xz hN jj lK)(rQ:tK K kE xz hN jj lK hN 1)(vm:Cl P w K mg base "ways" k 2 gZ) :pD P w K mg base "ways_at_all" hN (k+1) 2 p6:=
 Ub F Df (unop%b7 F) m unop%lm
  (afM (dj 2 Df.aV (eX vm ay (aD (bl 0) (aD (bl 1) bz)))) (LC (afL (Um (ML (a8 2))) (LC (aj5 i6.nw rQ.new (alo (a8 1)) ay.hd)) afN)))
abbrev DA:Stmt:=top 33
def agQ:cW ["place"] ["place"] (bQ DA):=unop%dN 0
def DD(F:cK K "lateness" "lateness" DA f fd)(m:mg "lateness"=some (.ref f)) :Cl P w K mg base "lateness" (k+1) 1 wL:=
 iE F agQ (unop%b6 F) m unop%lm
  (bR (eC (Uu (Ae (a8 0)) (c_ (aD aW (aD aW bz))) (c_ (aD aW (aD (bl 0) bz))))))
abbrev ql:Stmt:=top 34
def RV:cW ["plan","house","state","room","pace"] ["plan","house","state","room","pace"] (bQ ql):=unop%dN 0
def Sj{K:a'}{f:aj}{fd:er}(F:cK K "safest" "safest" ql f fd):f7 K fd ["plan","house","state","room","pace"] []:=F.binds (ps:=["plan","house","state","room","pace"]) λ_ _ _ _ _ _ us aI=>match us,aI with|[_,_,_,_,_],_=>rfl
def Mk{k:Nat}{f mK jr:aj}{gQ:ao}{eB an:Option aj}{jW:Array (Option ao)}{dD doc pm cP:ao}(l:K.lookup f=some ⟨gQ,eB,.func (kS "safest" "safest" (mr ql) (fh ql) (bQ ql) .none dD doc pm an (.ref mK) cP),jW⟩)(eg:qc K (.ref mK) "safest"=true)(aG:m8 K (.ref f)=true)(m:mg "safest"=some (.ref f))(t7:ri K mK jr=true)(iR:ny mg base)(oU:(jr,(("safest":Str)++".<locals>.")++"<lambda>")∈cD.de)(sl:∀p∈cD.de,p.1=jr->p.2=(("safest":Str)++".<locals>.")++"<lambda>")(k9:mg "max"=none)(Dp:Cl P w K mg base "ways_at_all" k 2 rk)(DD:Cl P w K mg base "lateness" k 1 wL)(wW:Cl P w K mg base "caught" k 5 ks):Cl P w K mg base "safest" (k+3) 5 ve:=
 al4 l eg RV (λ_ F=>Sj F) m aG λA outer s H E ay=>
  (bR (eC (alm (y:="way") (eX Dp (ay.mono (lP _ 2)) (aD (bl 1) (aD (bl 3) bz))) k9 rfl t7 iR oU sl ay (λq dp cl Nj en s2 bw vY=>by exact (eX DD vY (aD (eX wW vY (aD (bl 1) (aD (bl 2) (aD (bl 3) (aD (bl 0) (aD (bl 5) bz)))))) bz))))))
def LN{k:Nat}{f:aj}{fd:er}(F:cK K "safest" "safest" ql f fd)(m:mg "safest"=some (.ref f)){kE xz hN jj lK:aj}(i6:vA K mg kE xz hN jj lK)(rQ:tK K kE xz hN jj lK hN 1)(k9:mg "max"=none)(Dp:Cl P w K mg base "ways_at_all" k 2 rk)(DD:Cl P w K mg base "lateness" k 1 wL)(wW:Cl P w K mg base "caught" k 5 ks)(De:pD P w K mg base "ways_at_all" hN k 2 p6):pD P w K mg base "safest" hN (k+1) 5 wR:=
 Ub F RV (Sj F) m unop%lm
  (LC (al6 (ak5 k9 (TH De ay (tL (bl 1) (tL (bl 3) Ug))))))
abbrev mx:Stmt:=top 45
def mv:cW ["_law_script","_law_plan_here","_law_house_here","_law_number","_law_state","_law_pace","_law_room","_law_some","_law_way","_law_place","_law_late","_law_due"] ["_law_script"] (bQ mx):=unop%dN 0
def amK{k:Nat}{f mK jr:aj}{gQ:ao}{eB an:Option aj}{jW:Array (Option ao)}{dD doc pm cP:ao}(l:K.lookup f=some ⟨gQ,eB,.func (kS "law" "law" (mr mx) (fh mx) (bQ mx) .none dD doc pm an (.ref mK) cP),jW⟩)(eg:qc K (.ref mK) "law"=true)(t7:ri K mK jr=true)(iR:ny mg base)(oU:(jr,(("law":Str)++".<locals>.")++"<lambda>")∈cD.de)(sl:∀p∈cD.de,p.1=jr->p.2=(("law":Str)++".<locals>.")++"<lambda>"){kE xz hN jj lK:aj}(i6:vA K mg kE xz hN jj lK)(rQ:tK K kE xz hN jj lK hN 1)(LN:pD P w K mg base "safest" hN k 5 wR)(De:pD P w K mg base "ways_at_all" hN k 2 p6)(Mm:Cl P w K mg base "_law_plan" k 1 zQ)(Lr:Cl P w K mg base "_law_house_of" k 2 wI)(zM:Cl P w K mg base "_law_mixed" k 2 kX)(zX:Cl P w K mg base "after" k 3 rx)(k_:mg "range"=none)(MI:Cl P w K mg base "begun" k 1 w8)(MH:Cl P w K mg base "_law_row" k 3 an_)(vm:Cl P w K mg base "ways" k 2 gZ)(wW:Cl P w K mg base "caught" k 5 ks){OS:aj}{YX:er}(Ny:cK K "_law_told" "_law_told" pn OS YX)(aaS:mg "_law_told"=some (.ref OS))(qp:mg "min"=none)(Mk:Cl P w K mg base "safest" k 5 ve):eY P w K mg base dC (k+3) f (kS "law" "law" (mr mx) (fh mx) (bQ mx) .none dD doc pm an (.ref mK) cP) ["_law_script"] (spT K 1 vv):=
 Tp l eg mv λA outer s H E ay=>
  (bJ (dj 1 mv.aV (eX Mm (ay.mono (lP _ 2)) (aD (eX zM (ay.mono (lP _ 2)) (aD (bl 0) (aD aW bz))) bz))) (bJ (dj 2 mv.aV (eX Lr (ay.mono (lP _ 2)) (aD (bl 1) (aD (eX zM (ay.mono (lP _ 2)) (aD (bl 0) (aD aW bz))) bz)))) (bJ (dj 3 mv.aV (eX zM (ay.mono (lP _ 2)) (aD (bl 0) (aD aW bz)))) (bJ (dj 4 mv.aV (eX zX (ay.mono (lP _ 2)) (aD (bl 1) (aD (eX MI (ay.mono (lP _ 2)) (aD (bl 1) bz)) (aD (eX MH (ay.mono (lP _ 2)) (aD (bl 1) (aD (bl 3) (aD aW bz)))) bz))))) (bJ (dj 5 mv.aV (gm (aC aW) (aC (fz (aC (hz (a8 3) (aC aW))) (aC aW))))) (bJ (oh n9 (alW k_ (aC aW) (aC (gm (aC (cx (a8 2) (aC aW))) (aC aW)))) (fq 6 mv.aV) (bJ (TP 7 mv.aV (xj bz)) (bJ (oh n9 (lU (eX vm (ay.mono (lP _ 2)) (aD (bl 2) (aD (bl 6) bz)))) (fq 8 mv.aV) (bJ (dj 9 mv.aV (eX wW (ay.mono (lP _ 2)) (aD (bl 1) (aD (bl 2) (aD (bl 4) (aD (bl 8) (aD (bl 5) bz))))))) (bJ (dj 10 mv.aV (bl 9)) (bJ (dQ (Ae (a8 9)) (bR (dj 10 mv.aV aW)) e4) (bR (aml 7 (c_ (aD (Ej (a8 10)) (aD (bl 8) bz))))))))) (bJ (dj 11 mv.aV (c_ (aD b2 (aD aW bz)))) (bJ (dQ (hc (xb (by exact ay.units)) xc (a8 7) (aC (MR bz))) (bR (dj 11 mv.aV (c_ (aD b2 (aD (cx (aC (alk rfl (by exact ay.units) qp (jn (a8 7) kv))) (aC aW)) bz))))) e4) (bR (amj (al8 (xb (by exact ay.units)) xc (aj6 Ny u4 (ai5 Ny) aaS (λb3 A outer s H=>aiL b3 A outer s H) (λb3 A outer s H=>aiK i6 rQ b3 A outer s H) rfl t7 iR oU sl ay (λq dp cl Nj en s2 bw vY=>by exact (TJ (eX Mk vY (aD (bl 1) (aD (bl 2) (aD (bl 4) (aD (bl 6) (aD (bl 5) bz)))))))) (λq dp cl Nj en s2 bw E2 vY=>by exact (TH LN vY (tL (bl 1) (tL (bl 2) (tL (bl 4) (tL (bl 6) (tL (bl 5) Ug)))))))) (TJ (bl 11))) (bR (eC Ck)) e4))))))) (bR (eC Ck))))))))
end
end qz
end
section
namespace D
open PySem
def SH(ns:List Int):hP (ns.map .int)=true/\fM (ns.map .int)<=1:=by
 induction ns with
|nil=>simp[hP,fM]
|cons n ns bM=>simp[hP,PyData.canLay0,fM,m',bM]
def ajz(ss:List Str)(h:∀x∈ss,(mj x).canLay0=true):hP (ss.map .str)=true/\fM (ss.map .str)<=1:=by
 induction ss with
|nil=>simp[hP,fM]
|cons n ns bM=>
  have ah:=h n (by simp);have ar:=bM λx hx=>h x (by simp[hx]);simp[hP,fM,m',ah,ar]
theorem Rp:∀(ns ms:List Int),PyData.eqvAll (ns.map .int) (ms.map .int)=decide (ns=ms)
| [],[]=>by simp[PyData.eqvAll]
| [],_::_=>by simp[PyData.eqvAll]
|_::_,[]=>by simp[PyData.eqvAll]
|n::ns,m::ms=>by simp[PyData.eqvAll,f6,Rp ns ms,Bool.beq_eq_decide_eq]
def ajT(ns ms:List Int):f6 (.tuple (ns.map .int)) (.tuple (ms.map .int))=decide (ns=ms):=by rw[f6,Rp]
theorem SP(n:Int):∀ns:List Int,ly (.int n) (ns.map .int)=decide (n∈ns)
| []=>by simp[ly]
|m::ns=>by
  have bM:=SP n ns;unfold ly at bM ⊢;rw[c8,List.any_cons,bM];simp[f6,Bool.beq_eq_decide_eq,eq_comm]
theorem Mg(n:Str):∀ns:List Str,ly (.str n) (ns.map .str)=decide (n∈ns)
| []=>by simp[ly]
|m::ns=>by
  have bM:=Mg n ns;unfold ly at bM ⊢;rw[c8,List.any_cons,bM];simp[f6,Bool.beq_eq_decide_eq,eq_comm]
def vg(n:Int):fe (.int n)=true:=by simp[fe,PyData.canLay0,m']
def w3{x:Str}(h:(mj x).canLay0=true):fe (.str x)=true:=by simp[fe,m',h]
def aip(ns:List Int):lB (ns.map .int)=true:=by
 have:=SH ns;simp[lB,this.1];omega
def LU(ss:List Str)(h:∀x∈ss,(mj x).canLay0=true):lB (ss.map .str)=true:=by
 have:=ajz ss h;simp[lB,this.1];omega
def Td(neg:Bool)(n:Int)(ns:List Int):fc neg (.int n) (.tuple (ns.map .int))=some (.bool (if neg then !decide (n∈ns) else decide (n∈ns))):=by
 simp only[fc,vg,aip,SP,Bool.and_self,if_true]
def akH(neg:Bool)(n:Str)(ns:List Str)(h0:(mj n).canLay0=true)(h:∀x∈ns,(mj x).canLay0=true):fc neg (.str n) (.tuple (ns.map .str))=some (.bool (if neg then !decide (n∈ns) else decide (n∈ns))):=by
 simp only[fc,w3 h0,LU ns h,Mg,Bool.and_self,if_true]
end D
end
section
namespace bq
open D
noncomputable def wY:bK:=
  (seq (iff (bO (aq oEq (unop%Wd 0) (nm 1))) (b' (unop%We 0)) skip) (seq (iff (bO (aq oEq (unop%We 0) (nm 1))) (b' (unop%Wd 0)) skip) (b' (ae .none))))
noncomputable def anD:List T->Option T:=c5 wY 2
noncomputable def wQ(rec:List T->Option T):bK:=
  (seq (iff (bO (aq oEq (unop%Wt 0) (nm 1))) (b' (eF [(bo [])])) skip) (seq (gY 3 (eF [])) (seq (ef (j6 (hU (unop%We 0))) (dH [(bH 4),(bH 5)]) (seq (asg 6 (a3 anD [(av 5),(unop%Wt 0)])) (iff (fk (bO (cX gE (nm 6))) (bO (aq (fc true) (nm 6) (nm 2)))) (ext 3 (comp 1 [4] (dV (unop%WI 0)) (bH 0) (ez true) (aq b4 (bo [(av 1)]) (nm 0)))) skip))) (b' (nm 3)))))
noncomputable def nq:Nat->List T->Option T
|0=>λ_=>none
|n+1=>c5 (wQ (nq n)) 7
noncomputable def z':bK:=
  (b' (a3 hy [(a3 (nq 20) [(av 0),(av 1),(bo [(ae (.int 0))])])]))
noncomputable def gZ:List T->Option T:=c5 z' 2
noncomputable def u2:bK:=
  (seq (iff (bO (aq oLt (nm 1) (a3 iw [(nm 0)]))) (b' (aq aZ (nm 0) (nm 1))) skip) (b' (ae (.int 0))))
noncomputable def ni:List T->Option T:=c5 u2 2
noncomputable def u_:bK:=
  (seq (asg 2 (unop%W7 0)) (b' (aq oMod (aq b4 (aq b4 (aq dT (nm 2) (nm 2)) (aq dT (ae (.int 7)) (nm 2))) (nm 1)) (ae (.int 2147483629)))))
noncomputable def kX:List T->Option T:=c5 u_ 3
noncomputable def u':bK:=
  (seq (asg 2 (unop%W9 0)) (b' (aq oMod (aq b4 (aq b4 (aq dT (nm 2) (nm 2)) (aq dT (ae (.int 3)) (nm 2))) (nm 1)) (ae (.int 2147483629)))))
noncomputable def ic:List T->Option T:=c5 u' 3
noncomputable def zO:bK:=
  (seq (asg 1 (aq b4 (ae (.int 1)) (aq oMod (nm 0) (ae (.int 7))))) (seq (asg 2 (bo [])) (seq (ef (jK (unop%WG 0)) (bH 3) (seq (asg 4 (unop%WF 0)) (seq (asg 5 (aq oMod (nm 4) (aq b4 (nm 1) (ae (.int 1))))) (seq (asg 6 (unop%Wb 0)) (seq (asg 7 (unop%W2 0)) (asg 2 (unop%Wo 0))))))) (b' (bo [(av 1),(av 2)])))))
noncomputable def r4:List T->Option T:=c5 zO 8
end bq
end
section
namespace ew
noncomputable def ip(e:Int×Int)(x:Int):Option Int:=if e.1=x then some e.2 else if e.2=x then some e.1 else none
noncomputable def pA(E:List (Int×Int))(x y:Int):Prop:=∃e∈E,ip e x=some y
inductive Reach(E:List (Int×Int)):Int->Prop
|zero:Reach E 0
|step {x y:Int}:Reach E x->pA E x y->Reach E y
noncomputable def Within(R:Int)(E:List (Int×Int)):Prop:=∀e∈E,0<=e.1/\e.1<=R/\0<=e.2/\e.2<=R
def RR{R:Int}{E:List (Int×Int)}(h:Within R E){x y:Int}(a:pA E x y):0<=y/\y<=R:=by
 obtain⟨e,he,aA⟩:=a;obtain⟨ah,ar,bk,cB⟩:=h e he;unfold ip at aA;split at aA
 ·cases aA;exact⟨bk,cB⟩
 ·split at aA
  ·cases aA;exact⟨ah,ar⟩
  ·cases aA
theorem DQ:∀(n:Nat) (l:List Int),l.Nodup->(∀x∈l,0<=x/\x<n)->l.length<=n
|0,l,_,af=>by
  cases l with
  |nil=>simp
  |cons x r=>have:=af x (by simp);omega
|n+1,l,aV,af=>by
  have ah:=DQ n (l.filter λx=>decide (x≠(n:Int))) (aV.filter _) (λx hx=>by
   have:=List.mem_filter.mp hx;have kh:=af x this.1;have:x≠(n:Int):=by simpa using this.2
   omega)
  have ar:l.length<=(l.filter λx=>decide (x≠(n:Int))).length+1:=by
   clear ah af
   induction l with
   |nil=>simp
   |cons y r bM=>
    have hK:=eP.mp aV;by_cases e:y=(n:Int)
    ·subst e;have:r.filter (λx=>decide (x≠(n:Int)))=r:=List.filter_eq_self.mpr λx hx=>by
      have:x≠(n:Int):=λz=>hK.1 (z▸hx);simpa using this
     rw[List.filter_cons_of_neg (by simp),this];simp
    ·rw[List.filter_cons_of_pos (by simpa using e)];have:=bM hK.2;simp only[fy];omega
  omega
noncomputable def inner(h:Int):List (Int×Int)->List Int->List Int->List Int×List Int
| [],r,w=>(r,w)
|e::es,r,w=>match ip e h with
  |some t=>if t∈r then inner h es r w else inner h es (r++[t]) (w++[t])
  |none=>inner h es r w
noncomputable def exts(rec:List Int->Option (List (List Nat)))(pl:List Int)(h:Int):Nat->List (Int×Int)->Option (List (List Nat))
|_,[]=>some []
|k,e::es=>match ip e h with
  |some t=>if t∈pl then exts rec pl h (k+1) es else (rec (pl++[t])).bind λws=>(exts rec pl h (k+1) es).map λvs=>ws.map (λw=>k::w)++vs
  |none=>exts rec pl h (k+1) es
noncomputable def g9(E:List (Int×Int))(room:Int):Nat->List Int->Option (List (List Nat))
|0,_=>none
|n+1,pl=>match pl.getLast? with
  |none=>none
  |some h=>if h=room then some [[]] else exts (g9 E room n) pl h 0 E
theorem Mi{rec:List Int->Option (List (List Nat))}{pl:List Int}{h:Int}{B:Nat}(EC:List (Int×Int))(ay:∀t,pA EC h t->t∉pl->∃ws,rec (pl++[t])=some ws/\ws.length<=B):
  ∀(k:Nat) (E:List (Int×Int)),(∀e∈E,e∈EC)->∃ws,exts rec pl h k E=some ws/\ws.length<=E.length*B
|k,[],_=>⟨[],rfl,by simp⟩
|k,e::es,az=>by
  obtain⟨vs,ah,ar⟩:=Mi EC ay (k+1) es λe he=>az e (dF _ he);have bk:es.length*B<=(e::es).length*B:=Nat.mul_le_mul_right _ (by simp);unfold exts;split
  next t bp=>
   split
   next=>exact⟨vs,ah,by omega⟩
   next hm=>
    obtain⟨ws,cB,gf⟩:=ay t ⟨e,az e fg,bp⟩ hm;refine⟨_,by rw[cB,ah];rfl,?_⟩;simp only[n7,f5,fy,Nat.succ_mul];omega
  next=>exact⟨vs,ah,by omega⟩
theorem QE{R:Int}{E:List (Int×Int)}(hG:Within R E)(iP:R<=7)(aI:E.length<=10)(room:Int):
  ∀(n:Nat) (pl:List Int),pl≠[]->pl.Nodup->(∀x∈pl,0<=x/\x<=R)->9<=n+pl.length->∃ws,g9 E room n pl=some ws/\ws.length<=10 ^ (8 - pl.length)
|0,pl,dJ,aV,af,bc=>by
  have:=DQ 8 pl aV λy a7=>by have:=af y a7;omega
  omega
|n+1,pl,dJ,aV,af,bc=>by
  unfold g9;rw[List.getLast?_eq_getLast dJ];simp only;split
  next=>exact⟨_,rfl,by simpa using Nat.one_le_pow _ 10 (by decide)⟩
  next=>
   have B6:=DQ 8 pl aV λy a7=>by have:=af y a7;omega
   by_cases full:pl.length=8
   ·
    have aa1:∀t,pA E (pl.getLast dJ) t->t∉pl->False:=λt a hm=>by
     have hw:=RR hG a;have hK:(pl++[t]).Nodup:=by
      rw[mi];refine⟨aV,by simp,λx hx y a7=>?_⟩;have:y=t:=by simpa using a7
      subst this;exact λz=>hm (z▸hx)
     have:=DQ 8 (pl++[t]) hK λy a7=>by
      rcases h8.mp a7 with a7|a7
      ·have:=af y a7;omega
      ·have:y=t:=by simpa using a7
       subst this;omega
     simp at this;omega
    obtain⟨ws,ah,ar⟩:=Mi (B:=0) (pl:=pl) (h:=pl.getLast dJ) (rec:=g9 E room n) E (λt a hm=>(aa1 t a hm).elim) 0 E λ_ h=>h;exact⟨ws,ah,by have:ws.length=0:=(by omega);rw[this];exact n8 _⟩
   ·obtain⟨ws,ah,ar⟩:=Mi (B:=10 ^ (8 - (pl.length+1))) (pl:=pl) (h:=pl.getLast dJ) (rec:=g9 E room n) E (λt a hm=>by
     have hw:=RR hG a;have:=QE hG iP aI room n (pl++[t]) (by simp) (by
      rw[mi];refine⟨aV,by simp,λx hx y a7=>?_⟩;have:y=t:=by simpa using a7
      subst this;exact λz=>hm (z▸hx)) (λy a7=>by
      rcases h8.mp a7 with a7|a7
      ·exact af y a7
      ·have:y=t:=by simpa using a7
       subst this;exact hw) (by simp;omega)
     simpa using this) 0 E λ_ h=>h
    refine⟨ws,ah,?_⟩
    have e:8 - pl.length=(8 - (pl.length+1))+1:=by omega
    rw[e,Nat.pow_succ];have:=Nat.mul_le_mul_right (10 ^ (8 - (pl.length+1))) aI;omega
inductive Walk(E:List (Int×Int)):Int->List Int->Int->Prop
|nil (x:Int):Walk E x [] x
|cons {x y z:Int} {p:List Int}:pA E x y->Walk E y p z->Walk E x (y::p) z
theorem zK{rec:List Int->Option (List (List Nat))}{pl:List Int}{h:Int}:∀{k:Nat} {E:List (Int×Int)} {ws:List (List Nat)},exts rec pl h k E=some ws->∀t,pA E h t->t∉pl->∃vs,rec (pl++[t])=some vs/\(vs≠[]->ws≠[])
|k,[],ws,e,t,⟨bx,lz,_⟩,_=>by simp at lz
|k,e::es,ws,ah,t,⟨bx,lz,aA⟩,hm=>by
  unfold exts at ah;split at ah
  next t' vZ=>
   split at ah
   next Pg=>
    rcases cN.mp lz with rfl|lz
    ·rw[vZ] at aA;cases aA;exact absurd Pg hm
    ·exact zK ah t ⟨bx,lz,aA⟩ hm
   next Pg=>
    simp only[cf,dR] at ah;obtain⟨us,ar,vs,bk,rfl⟩:=ah;rcases cN.mp lz with rfl|lz
    ·rw[vZ] at aA;cases aA;exact⟨us,ar,λq z=>q (by have:=(List.append_eq_nil_iff.mp z).1;simpa using this)⟩
    ·obtain⟨xs,aP,bf⟩:=zK bk t ⟨bx,lz,aA⟩ hm;exact⟨xs,aP,λq z=>bf q (List.append_eq_nil_iff.mp z).2⟩
  next bc=>
   rcases cN.mp lz with rfl|lz
   ·rw[bc] at aA;cases aA
   ·exact zK ah t ⟨bx,lz,aA⟩ hm
theorem D8{rec:List Int->Option (List (List Nat))}{pl:List Int}{h:Int}:∀{k:Nat} {E:List (Int×Int)} {ws:List (List Nat)},exts rec pl h k E=some ws->ws≠[]->∃t vs,pA E h t/\t∉pl/\rec (pl++[t])=some vs/\vs≠[]
|k,[],ws,e,bc=>by
  cases e
  exact absurd rfl bc
|k,e::es,ws,ah,dJ=>by
  have up:∀{y:Int},pA es h y->pA (e::es) h y:=λ⟨bx,ah,ar⟩=>⟨bx,dF _ ah,ar⟩;unfold exts at ah;split at ah
  next t bp=>
   split at ah
   next=>
    obtain⟨t',vs,a,b,c,d⟩:=D8 ah dJ;exact⟨t',vs,up a,b,c,d⟩
   next hm=>
    simp only[cf,dR] at ah;obtain⟨us,ar,vs,bk,rfl⟩:=ah;by_cases b1:us=[]
    ·subst b1;obtain⟨t',ff,a,b,c,d⟩:=D8 bk (by simpa using dJ);exact⟨t',ff,up a,b,c,d⟩
    ·exact⟨t,us,⟨e,fg,bp⟩,hm,ar,b1⟩
  next=>
   obtain⟨t',vs,a,b,c,d⟩:=D8 ah dJ;exact⟨t',vs,up a,b,c,d⟩
theorem Q9{E:List (Int×Int)}{room:Int}:∀{p:List Int} {n:Nat} {pl:List Int} {cur:Int} {ws:List (List Nat)},Walk E cur p room->(cur::p).Nodup->(∀y∈p,y∉pl)->pl.getLast?=some cur->g9 E room n pl=some ws->ws≠[]
|p,0,pl,cur,ws,_,_,_,_,h=>by cases h
| [],n+1,pl,cur,ws,hw,_,_,aI,h=>by
  cases hw
  unfold g9 at h;rw[aI] at h;simp only[if_true] at h;cases h;simp
|y::p,n+1,pl,cur,ws,hw,aV,aM,aI,h=>by
  cases hw with
  |cons a w=>
   unfold g9 at h;rw[aI] at h;simp only at h;split at h
   next=>cases h;simp
   next=>
    obtain⟨vs,ah,ar⟩:=zK h y a (aM y (by simp));have hK:=(eP.mp aV).2;refine ar (Q9 w hK (λz au hm=>?_) (by simp) ah);rcases h8.mp hm with hm|hm
    ·exact aM z (dF _ au) hm
    ·have:z=y:=by simpa using hm
     subst this;exact (eP.mp hK).1 au
theorem Q_{E:List (Int×Int)}{room:Int}:∀{n:Nat} {pl:List Int} {cur:Int} {ws:List (List Nat)},pl.getLast?=some cur->g9 E room n pl=some ws->ws≠[]->∃p,Walk E cur p room
|0,pl,cur,ws,_,h,_=>by cases h
|n+1,pl,cur,ws,aI,h,dJ=>by
  unfold g9 at h;rw[aI] at h;simp only at h;split at h
  next e=>
   subst e;exact⟨[],.nil _⟩
  next=>
   obtain⟨t,vs,a,b,c,d⟩:=D8 h dJ;obtain⟨p,w⟩:=Q_ (pl:=pl++[t]) (cur:=t) (by simp) c d;exact⟨t::p,.cons a w⟩
def ah5{E:List (Int×Int)}{x y z:Int}{p:List Int}(w:Walk E x p y)(a:pA E y z):Walk E x (p++[z]) z:=by
 induction w with
|nil x=>exact .cons a (.nil z)
|cons b _ bM=>exact .cons b (bM a)
def ahg{E:List (Int×Int)}{x y:Int}{p:List Int}(w:Walk E x p y)(r:Reach E x):Reach E y:=by
 induction w with
|nil x=>exact r
|cons a _ bM=>exact bM (.step r a)
def ai'{E:List (Int×Int)}{x z y:Int}{p:List Int}(w:Walk E x p z)(aV:(x::p).Nodup)(a7:y∈x::p):∃q,Walk E x q y/\(x::q).Nodup:=by
 induction w with
|nil x=>
  have:y=x:=by simpa using a7
  subst this;exact⟨[],.nil _,by simp⟩
| @cons x u z p a w bM=>
  by_cases e:y=x
  ·subst e;exact⟨[],.nil _,by simp⟩
  ·have hK:=eP.mp aV;have sub:∀{q:List Int},Walk E u q y->True:=λ_=>trivial;obtain⟨q,df,JZ,az⟩:∃q,Walk E u q y/\(u::q).Nodup/\∀t∈u::q,t∈u::p:=by
    have By:y∈u::p:=by
     rcases cN.mp a7 with h|h
     ·exact absurd h e
     ·exact h
    clear bM sub a aV a7 e;have aaW:=hK.2;clear hK
    induction w with
    |nil u=>
     have:y=u:=by simpa using By
     subst this;exact⟨[],.nil _,by simp,by simp⟩
    | @cons u v z p b w bM=>
     by_cases e:y=u
     ·subst e;exact⟨[],.nil _,by simp,by simp⟩
     ·have q3:=eP.mp aaW;obtain⟨q,df,JZ,az⟩:=bM (by
       rcases cN.mp By with h|h
       ·exact absurd h e
       ·exact h) q3.2
      refine⟨v::q,.cons b df,eP.mpr ⟨λh=>q3.1 (az u h),JZ⟩,λt bp=>?_⟩
      rcases cN.mp bp with rfl|bp
      ·simp
      ·exact dF _ (az t bp)
   exact⟨u::q,.cons a df,eP.mpr ⟨λh=>hK.1 (az x h),JZ⟩⟩
def ahp{E:List (Int×Int)}{x:Int}(r:Reach E x):∃p,Walk E 0 p x/\((0:Int)::p).Nodup:=by
 induction r with
|zero=>exact⟨[],.nil _,by simp⟩
| @step x y _ a bM=>
  obtain⟨p,w,aV⟩:=bM;by_cases h:y∈(0:Int)::p
  ·exact ai' w aV h
  ·refine⟨p++[y],ah5 w a,?_⟩
   rw[<- rf,mi];refine⟨aV,by simp,λs az t bp=>?_⟩;have:t=y:=by simpa using bp
   subst this;exact λe=>h (e▸az)
def afs{E:List (Int×Int)}{room:Int}{n:Nat}{ws:List (List Nat)}(h:g9 E room n [0]=some ws):ws≠[] <-> Reach E room:=by
 constructor
 ·intro dJ;obtain⟨p,w⟩:=Q_ (cur:=0) (by simp) h dJ;exact ahg w .zero
 ·intro r;obtain⟨p,w,aV⟩:=ahp r;refine Q9 w aV (λy a7 hm=>?_) (by simp) h;have:y=0:=by simpa using hm
  subst this;exact (eP.mp aV).1 a7
end ew
end
section
namespace bq
open PySem D
abbrev Op:=Int×Int×Option Str
noncomputable def hW:Option Str->T
|none=>.none
|some x=>.str x
noncomputable def dB(o:Op):T:=.tuple [.int o.1,.int o.2.1,hW o.2.2]
noncomputable def c1(R:Int)(os:List Op):T:=.tuple [.int R,.tuple (os.map dB)]
noncomputable def free(ns:List Str)(o:Op):Bool:=match o.2.2 with
|none=>true
|some x=>decide (x∈ns)
noncomputable def iL(o:Op):Int×Int:=(o.1,o.2.1)
noncomputable def fu:Option Int->T
|some t=>.int t
|none=>.none
def mq(a b:Int):oEq (.int a) (.int b)=some (.bool (decide (a=b))):=by
 simp[oEq,vg,f6,Bool.beq_eq_decide_eq]
def e_{a b:bK}{ai ε':Ev}(h:a ai=some (.bG ε')):seq a b ai=b ε':=by
 simp only[seq,h,cz]
def ai4(o:Op)(h:Int):anD [dB o,.int h]=some (fu (ew.ip (iL o) h)):=by
 obtain⟨a,b,z⟩:=o;by_cases ah:a=h
 ·simp[anD,wY,dB,c5,seq,iff,bO,gT,fk,gR,gP,ez,ofT,cX,aq,a3,args,ae,nm,av,b',skip,asg,gY,iH,par,bo,eF,g5,gE,aZ,eM,fs,bH,dH,gy,dV,comp,hS,mq,ew.ip,iL,fu,ah]
 ·by_cases ar:b=h
  ·simp[anD,wY,dB,c5,seq,iff,bO,gT,fk,gR,gP,ez,ofT,cX,aq,a3,args,ae,nm,av,b',skip,asg,gY,iH,par,bo,eF,g5,gE,aZ,eM,fs,bH,dH,gy,dV,comp,hS,mq,ew.ip,iL,fu,ah,ar]
  ·simp[anD,wY,dB,c5,seq,iff,bO,gT,fk,gR,gP,ez,ofT,cX,aq,a3,args,ae,nm,av,b',skip,asg,gY,iH,par,bo,eF,g5,gE,aZ,eM,fs,bH,dH,gy,dV,comp,hS,mq,ew.ip,iL,fu,ah,ar]
noncomputable def dg(r:List Int):List (Key×T):=r.map λx=>(Sum.inl x,.bool true)
end bq
end
section
namespace bq
open PySem D
noncomputable def wT(w:List Nat):T:=.tuple (w.map λ(k:Nat)=>PyData.int (k:Int))
noncomputable def pJ(rec:List T->Option T):bK:=(seq (asg 6 (a3 anD [(av 5),(unop%Wt 0)])) (iff (fk (bO (cX gE (nm 6))) (bO (aq (fc true) (nm 6) (nm 2)))) (ext 3 (comp 1 [4] (dV (unop%WI 0)) (bH 0) (ez true) (aq b4 (bo [(av 1)]) (nm 0)))) skip))
noncomputable def fB(h:T)(room:Int)(pl:List Int)(acc:List (List Nat))(hH g4 eI:Option aR):Ev:=[some (.aa h),some (.aa (.int room)),some (.aa (.tuple (pl.map .int))),some (.own (acc.map wT)),hH,g4,eI]
theorem SY(k:Nat):∀(ws:List (List Nat)) (j:Option aR),(∀w∈ws,w.length<=100)->hg (bH 0) (ez true) (aq b4 (bo [(av 1)]) (nm 0)) (ws.map wT) [j,some (.aa (.int k))]=some ((ws.map λw=>k::w).map wT)
| [],j,_=>rfl
|w::ws,j,h=>by
  have bM:=SY k ws (some (.aa (wT w))) λw hw=>h w (by simp[hw]);have hw:=h w (by simp);have aw:aq b4 (bo [(av 1)]) (nm 0) [some (.aa (wT w)),some (.aa (.int k))]=some (wT (k::w)):=by
   have:1+w.length<=16777216:=by omega
   simp[aq,bo,args,av,nm,big,wT,b4,this]
  have bP:bH 0 (wT w) [j,some (.aa (.int k))]=some [some (.aa (wT w)),some (.aa (.int k))]:=rfl;simp only[c8,hg,bP,cz,ez,if_true,aw,bM,eb]
def Te{pl:List Int}{h:Int}(aM:pl.getLast?=some h):eM (pl.map PyData.int) (-1)=some (.int h):=by
 have dJ:pl≠[]:=λz=>by subst z;cases aM
 have aI:=List.length_pos_iff.mpr dJ;have hx:fs (pl.map PyData.int).length (-1)=some (pl.length - 1):=by
  unfold fs;rw[if_neg (by decide),f5,if_pos (by omega)];congr 1;omega
 unfold eM;rw[hx];simp only[cz,kp];rw[<- List.getLast?_eq_getElem?,aM];rfl
def ak7{rec:List T->Option T}{nY:List Int->Option (List (List Nat))}(cU:T)(room:Int)(pl:List Int)(h:Int)(aM:pl.getLast?=some h)(hpl:pl.length<=100)
  (o:Op) (k:Nat) (acc:List (List Nat)) (eI:Option aR) (vs:List (List Nat))
  (bh:(match ew.ip (iL o) h with|some t=>if t∈pl then some [] else (nY (pl++[t])).map λws=>ws.map λw=>k::w|none=>some [])=some vs)
  (ay:∀t ws,t∉pl->nY (pl++[t])=some ws->ws.length<=vs.length->rec [cU,.int room,.tuple ((pl++[t]).map .int)]=some (.list (ws.map wT))/\∀w∈ws,w.length<=100) (au:acc.length+vs.length<=16777216):
  ∃q2,pJ rec (fB cU room pl acc (unop%W4 0) (some (.aa (dB o))) eI)=some (.bG (fB cU room pl (acc++vs) (unop%W4 0) (some (.aa (dB o))) q2)):=by
 have af:=ai4 o h;have aQ:=Te aM;have aw:a3 anD [(av 5),(unop%Wt 0)] (fB cU room pl acc (unop%W4 0) (some (.aa (dB o))) eI)=some (fu (ew.ip (iL o) h)):=by
  have:aq aZ (nm 2) (cX hp (ae (.int 1))) (fB cU room pl acc (unop%W4 0) (some (.aa (dB o))) eI)=some (.int h):=by
   simp only[aq,nm,fB,h_,ha,cz,cX,ae,hp,aZ];exact aQ
  have yF:av 5 (fB cU room pl acc (unop%W4 0) (some (.aa (dB o))) eI)=some (dB o):=rfl;simp only[a3,args,this,yF,cz,eb];exact af
 have aN:asg 6 (a3 anD [(av 5),(unop%Wt 0)]) (fB cU room pl acc (unop%W4 0) (some (.aa (dB o))) eI)=some (.bG (fB cU room pl acc (unop%W4 0) (some (.aa (dB o))) (some (.aa (fu (ew.ip (iL o) h)))))):=by
  simp only[asg,aw,eb];rfl
 refine⟨some (.aa (fu (ew.ip (iL o) h))),?_⟩
 unfold pJ;rw[e_ aN];cases aA:ew.ip (iL o) h with
|none=>
  rw[aA] at bh;cases bh;simp[iff,fk,bO,cX,gE,nm,fB,fu,skip]
|some t=>
  rw[aA] at bh;by_cases hm:t∈pl
  ·simp only[hm,if_true] at bh;cases bh;simp[iff,fk,bO,cX,aq,gE,nm,fB,fu,skip,Td,hm]
  ·simp only[hm,if_false,dR] at bh;obtain⟨ws,_p,rfl⟩:=bh;simp only[f5] at au ay;obtain⟨ah,ar⟩:=ay t ws hm _p (dy _);have cT:fk (bO (cX gE (nm 6))) (bO (aq (fc true) (nm 6) (nm 2))) (fB cU room pl acc (unop%W4 0) (some (.aa (dB o))) (some (.aa (fu (some t)))))=some true:=by
    simp[fk,bO,cX,aq,gE,nm,fB,fu,Td,hm]
   have a1:aq b4 (nm 2) (bo [(av 6)]) (fB cU room pl acc (unop%W4 0) (some (.aa (dB o))) (some (.aa (fu (some t)))))=some (.tuple ((pl++[t]).map .int)):=by
    have:pl.length+1<=16777216:=by omega
    simp[aq,nm,av,fB,bo,args,big,fu,b4,this]
   have _H:dV (unop%WI 0) (fB cU room pl acc (unop%W4 0) (some (.aa (dB o))) (some (.aa (fu (some t)))))=some (ws.map wT):=by
    have jz:av 0 (fB cU room pl acc (unop%W4 0) (some (.aa (dB o))) (some (.aa (fu (some t)))))=some cU:=rfl;have eA:av 1 (fB cU room pl acc (unop%W4 0) (some (.aa (dB o))) (some (.aa (fu (some t)))))=some (.int room):=rfl;simp only[dV,a3,args,a1,jz,eA,cz,eb,ah]
   have W_:comp 1 [4] (dV (unop%WI 0)) (bH 0) (ez true) (aq b4 (bo [(av 1)]) (nm 0)) (fB cU room pl acc (unop%W4 0) (some (.aa (dB o))) (some (.aa (fu (some t)))))=some (.list ((ws.map λw=>k::w).map wT)):=by
    simp only[comp,_H,cz,f5];rw[if_pos (by unfold big;omega)];have:hS 1 [4] (fB cU room pl acc (unop%W4 0) (some (.aa (dB o))) (some (.aa (fu (some t)))))=[none,some (.aa (.int k))]:=rfl;rw[this,SY k ws none ar];rfl
   simp only[iff,cT,cz,if_true,ext,W_];simp only[fB,h_,ha,f5];rw[if_pos (by unfold big;omega)];simp
theorem Tq{rec:List T->Option T}{nY:List Int->Option (List (List Nat))}(cU:T)(room:Int)(pl:List Int)(h:Int)(aM:pl.getLast?=some h)(hpl:pl.length<=100)(N:Nat)(dw:N<=16777216)
  (ay:∀t ws,t∉pl->nY (pl++[t])=some ws->ws.length<=N->rec [cU,.int room,.tuple ((pl++[t]).map .int)]=some (.list (ws.map wT))/\∀w∈ws,w.length<=100):
  ∀(os:List Op) (k:Nat) (acc vs:List (List Nat)) (hH g4 eI:Option aR),ew.exts nY pl h k (os.map iL)=some vs->acc.length+vs.length<=N ->
   ∃yw yx q2,forL (dH [(bH 4),(bH 5)]) (pJ rec) (((os.map dB).zipIdx k).map λp=>.tuple [.int p.2,p.1]) (fB cU room pl acc hH g4 eI)=some (.bG (fB cU room pl (acc++vs) yw yx q2))
| [],k,acc,vs,hH,g4,eI,e,_=>by
  cases e
  exact⟨hH,g4,eI,by simp[forL]⟩
|o::os,k,acc,vs,hH,g4,eI,e,au=>by
  have key:∃v1 v2,(match ew.ip (iL o) h with|some t=>if t∈pl then some [] else (nY (pl++[t])).map λws=>ws.map λw=>k::w|none=>some [])=some v1/\ew.exts nY pl h (k+1) (os.map iL)=some v2/\vs=v1++v2:=by
   rw[c8] at e;unfold ew.exts at e;cases aA:ew.ip (iL o) h with
   |none=>
    rw[aA] at e;exact⟨[],vs,rfl,e,rfl⟩
   |some t=>
    rw[aA] at e;by_cases hm:t∈pl
    ·simp only[hm,if_true] at e ⊢;exact⟨[],vs,rfl,e,rfl⟩
    ·simp only[hm,if_false,cf,dR] at e ⊢;obtain⟨ws,ah,v2,ar,rfl⟩:=e;exact⟨_,v2,⟨ws,ah,rfl⟩,ar,rfl⟩
  obtain⟨v1,v2,ah,ar,rfl⟩:=key;rw[n7] at au;obtain⟨q2,az⟩:=ak7 (rec:=rec) (nY:=nY) cU room pl h aM hpl o k acc eI v1 ah (λt ws a b c=>ay t ws a b (by omega)) (by omega);obtain⟨a,b,c,bM⟩:=Tq (rec:=rec) (nY:=nY) cU room pl h aM hpl N dw ay os (k+1) (acc++v1) v2 (unop%W4 0) (some (.aa (dB o))) q2 ar (by rw[n7];omega);refine⟨a,b,c,?_⟩;have bP:dH [(bH 4),(bH 5)] (.tuple [.int k,dB o]) (fB cU room pl acc hH g4 eI)=some (fB cU room pl acc (unop%W4 0) (some (.aa (dB o))) eI):=rfl;rw[c8,List.zipIdx_cons,c8];simp only[forL,bP,cz,az];rw[bM,List.append_assoc]
def QC{E:List (Int×Int)}{room:Int}:∀(n:Nat) (pl:List Int) (ws:List (List Nat)),ew.g9 E room n pl=some ws->∀w∈ws,w.length<=n:=by
 have ex:∀(n:Nat) (rec:List Int->Option (List (List Nat))) (pl:List Int) (h:Int),(∀q ws,rec q=some ws->∀w∈ws,w.length<=n)->∀(E:List (Int×Int)) (k:Nat) (ws:List (List Nat)),ew.exts rec pl h k E=some ws->∀w∈ws,w.length<=n+1:=by
  intro n rec pl h ay E
  induction E with
  |nil=>
   intro k ws e w hw;cases e;cases hw
  |cons bP E bM=>
   intro k ws e w hw;unfold ew.exts at e;split at e
   ·split at e
    ·exact bM _ _ e w hw
    ·simp only[cf,dR] at e;obtain⟨us,ah,v2,ar,rfl⟩:=e;rcases h8.mp hw with q|q
     ·obtain⟨u,b1,rfl⟩:=d_.mp q;have:=ay _ _ ah u b1;simp;omega
     ·exact bM _ _ ar w q
   ·exact bM _ _ e w hw
 intro n
 induction n with
|zero=>
  intro pl ws e;cases e
|succ n bM=>
  intro pl ws e w hw;unfold ew.g9 at e;split at e
  ·cases e
  ·split at e
   ·cases e
    simp at hw;subst hw;simp
   ·exact ex n _ _ _ (λq ws e=>bM q ws e) _ _ _ e w hw
theorem Rt{R:Int}{os:List Op}{room:Int}:∀(n:Nat) (pl:List Int) (ws:List (List Nat)),n+pl.length<=90->ew.g9 (os.map iL) room n pl=some ws->ws.length<=16777216 ->
  nq n [c1 R os,.int room,.tuple (pl.map .int)]=some (.list (ws.map wT))
|0,pl,ws,bc,e,_=>by cases e
|n+1,pl,ws,bc,e,au=>by
  have bP:nq (n+1) [c1 R os,.int room,.tuple (pl.map .int)]=(wQ (nq n) [some (.aa (c1 R os)),some (.aa (.int room)),some (.aa (.tuple (pl.map .int))),none,none,none,none]).bind λo=>match o with|.dE t=>some t|.bG _=>some .none|_=>none:=rfl
  rw[bP];unfold ew.g9 at e;cases aM:pl.getLast? with
  |none=>
   rw[aM] at e;cases e
  |some h=>
   rw[aM] at e;dsimp only at e;have aQ:=Te aM;have r0:bO (aq oEq (unop%Wt 0) (nm 1)) [some (.aa (c1 R os)),some (.aa (.int room)),some (.aa (.tuple (pl.map .int))),none,none,none,none]=some (decide (h=room)):=by
    simp only[bO,aq,nm,h_,ha,cz,cX,ae,hp,aZ,aQ,mq]
   unfold wQ;by_cases ay:h=room
   ·rw[if_pos ay] at e;cases e;simp only[seq,iff,r0,ay,cz,decide_true,if_true,b',eF,bo,args,eb];simp[big,wT]
   ·rw[if_neg ay] at e;have s1:iff (bO (aq oEq (unop%Wt 0) (nm 1))) (b' (eF [(bo [])])) skip [some (.aa (c1 R os)),some (.aa (.int room)),some (.aa (.tuple (pl.map .int))),none,none,none,none]=some (.bG [some (.aa (c1 R os)),some (.aa (.int room)),some (.aa (.tuple (pl.map .int))),none,none,none,none]):=by
     simp only[iff,r0,ay,cz,decide_false,lN,if_false,skip]
    have s2:gY 3 (eF []) [some (.aa (c1 R os)),some (.aa (.int room)),some (.aa (.tuple (pl.map .int))),none,none,none,none]=some (.bG (fB (c1 R os) room pl [] none none none)):=by
     simp[gY,eF,args,big,fB]
    obtain⟨a,b,c,az⟩:=Tq (rec:=nq n) (nY:=ew.g9 (os.map iL) room n) (c1 R os) room pl h aM (by omega) ws.length au
     (λt afw _ ar bk=>⟨Rt n (pl++[t]) afw (by simp;omega) ar (by omega),λw hw=>h9 (QC n _ _ ar w hw) (by omega)⟩) os 0 [] ws none none none e (by simp)
    have it:j6 (hU (unop%We 0)) (fB (c1 R os) room pl [] none none none)=some (((os.map dB).zipIdx 0).map λp=>.tuple [.int p.2,p.1]):=by
     simp[j6,hU,aq,nm,fB,c1,ae,aZ,eM,fs,enum]
    have s3:ef (j6 (hU (unop%We 0))) (dH [(bH 4),(bH 5)]) (pJ (nq n)) (fB (c1 R os) room pl [] none none none)=some (.bG (fB (c1 R os) room pl ws a b c)):=by
     simp only[ef,it,cz];exact az
    rw[e_ s1,e_ s2];have s4:seq (ef (j6 (hU (unop%We 0))) (dH [(bH 4),(bH 5)]) (pJ (nq n))) (b' (nm 3)) (fB (c1 R os) room pl [] none none none)=some (.dE (.list (ws.map wT))):=by
     rw[e_ s3];simp[b',nm,fB]
    have s5:=congrArg (λx:Option Out=>x.bind λo=>match o with|.dE t=>some t|.bG _=>some .none|_=>none) s4;exact s5
def aj7{R:Int}{os:List Op}{room:Int}{ws:List (List Nat)}(h:ew.g9 (os.map iL) room 20 [0]=some ws)(au:ws.length<=16777216):gZ [c1 R os,.int room]=some (.tuple (ws.map wT)):=by
 have ah:=Rt (R:=R) 20 [0] ws (by decide) h au;have bP:gZ [c1 R os,.int room]=(z' [some (.aa (c1 R os)),some (.aa (.int room))]).bind λo=>match o with|.dE t=>some t|.bG _=>some .none|_=>none:=rfl
 rw[bP];have a1:args [(av 0),(av 1),(bo [(ae (.int 0))])] [some (.aa (c1 R os)),some (.aa (.int room))]=some [c1 R os,.int room,.tuple ([0].map .int)]:=by
  simp[args,av,bo,ae,big]
 simp only[z',b',a3,args] at a1 ⊢;rw[a1];simp only[cz,ah,eb,hy]
end bq
end
section
namespace bq
open PySem D
noncomputable def eR(ns:List Int):T:=.list (ns.map .int)
def MF(ns:List Int)(k:Nat):ni [eR ns,.int k]=some (.int (ns.getD k 0)):=by
 by_cases h:k<ns.length
 ·have h':(k:Int)<(ns.length:Int):=by omega
  simp[ni,u2,eR,c5,seq,iff,bO,gT,fk,gR,gP,ez,ofT,cX,aq,a3,args,ae,nm,av,b',skip,asg,gY,iH,par,bo,eF,g5,gE,aZ,eM,fs,bH,dH,gy,dV,comp,hS,b4,sz,dT,oDiv,oMod,hp,iw,oZ,nV,hy,Eo,q4,oLt,oLe,jA,sx,big,h,h',List.getD]
 ·have h':¬(k:Int)<(ns.length:Int):=by omega
  simp[ni,u2,eR,c5,seq,iff,bO,gT,fk,gR,gP,ez,ofT,cX,aq,a3,args,ae,nm,av,b',skip,asg,gY,iH,par,bo,eF,g5,gE,aZ,eM,fs,bH,dH,gy,dV,comp,hS,b4,sz,dT,oDiv,oMod,hp,iw,oZ,nV,hy,Eo,q4,oLt,oLe,jA,sx,big,h,h',List.getD]
def lS{i j:Int}(h:-(2 ^ 64)<j/\j<2 ^ 64):dT (.int i) (.int j)=some (.int (i*j)):=by
 unfold dT xn;simp only[decide_eq_true h.1,decide_eq_true h.2,Bool.and_self,Bool.or_true,if_true]
def k4{i j:Int}(h:0<j):oMod (.int i) (.int j)=some (.int (i % j)):=if_pos h
def xg{i j:Int}(h:0<j/\j<1073741824):oDiv (.int i) (.int j)=some (.int (i / j)):=if_pos h
def ie{i j:Int}:b4 (.int i) (.int j)=some (.int (i+j)):=rfl
def DY(ns:List Int)(k:Nat):∃m:Int,0<=m/\kX [eR ns,.int k]=some (.int m):=by
 have ax:=MF ns k;have hd:0<=(ns.getD k 0+7919*(k:Int)+1)*48271 % 2147483647/\(ns.getD k 0+7919*(k:Int)+1)*48271 % 2147483647<2147483647:=⟨kU _ (by decide),n' _ (by decide)⟩;generalize hx:(ns.getD k 0+7919*(k:Int)+1)*48271 % 2147483647=d at hd;refine⟨(d*d+7*d+k) % 2147483629,kU _ (by decide),?_⟩;have bP:kX [eR ns,.int k]=(u_ [some (.aa (eR ns)),some (.aa (.int k)),none]).bind λo=>match o with|.dE t=>some t|.bG _=>some .none|_=>none:=rfl
 have jy:dT (.int 7919) (.int k)=some (.int (7919*k)):=by
  unfold dT xn;simp
 have jz:av 0 [some (.aa (eR ns)),some (.aa (.int k)),none]=some (eR ns):=rfl;have eA:av 1 [some (.aa (eR ns)),some (.aa (.int k)),none]=some (.int k):=rfl;have JE:nm 1 [some (.aa (eR ns)),some (.aa (.int k)),none]=some (.int k):=rfl;have s1:asg 2 (unop%W7 0) [some (.aa (eR ns)),some (.aa (.int k)),none]=some (.bG [some (.aa (eR ns)),some (.aa (.int k)),some (.aa (.int d))]):=by
  simp only[asg,aq,a3,args,jz,eA,JE,cz,eb,ax,ae,jy,ie,lS (i:=ns.getD k 0+7919*(k:Int)+1) (j:=48271) (by decide),k4 (j:=2147483647) (by decide),hx];rfl
 have hJ:dT (.int d) (.int d)=some (.int (d*d)):=lS (by omega);have anW:dT (.int 7) (.int d)=some (.int (7*d)):=lS (by omega);rw[bP];unfold u_;rw[e_ s1];have bf:nm 2 [some (.aa (eR ns)),some (.aa (.int k)),some (.aa (.int d))]=some (.int d):=rfl;have aP:nm 1 [some (.aa (eR ns)),some (.aa (.int k)),some (.aa (.int d))]=some (.int k):=rfl;simp only[b',aq,bf,aP,cz,eb,ae,hJ,anW,ie,k4 (j:=2147483629) (by decide)]
def wV(n k:Int)(aL:-(2 ^ 64)<k/\k<2 ^ 64):∃m:Int,0<=m/\ic [.int n,.int k]=some (.int m):=by
 have hd:0<=(n+104729*k+17)*69621 % 2147483647/\(n+104729*k+17)*69621 % 2147483647<2147483647:=⟨kU _ (by decide),n' _ (by decide)⟩;generalize hx:(n+104729*k+17)*69621 % 2147483647=d at hd;refine⟨(d*d+3*d+k) % 2147483629,kU _ (by decide),?_⟩;have bP:ic [.int n,.int k]=(u' [some (unop%Wp 0),some (.aa (.int k)),none]).bind λo=>match o with|.dE t=>some t|.bG _=>some .none|_=>none:=rfl
 have jy:dT (.int 104729) (.int k)=some (.int (104729*k)):=lS aL;have jz:nm 0 [some (unop%Wp 0),some (.aa (.int k)),none]=some (.int n):=rfl;have eA:nm 1 [some (unop%Wp 0),some (.aa (.int k)),none]=some (.int k):=rfl;have s1:asg 2 (unop%W9 0) [some (unop%Wp 0),some (.aa (.int k)),none]=some (.bG [some (unop%Wp 0),some (.aa (.int k)),some (.aa (.int d))]):=by
  simp only[asg,aq,jz,eA,cz,eb,ae,jy,ie,lS (i:=n+104729*k+17) (j:=69621) (by decide),k4 (j:=2147483647) (by decide),hx];rfl
 have hJ:dT (.int d) (.int d)=some (.int (d*d)):=lS (by omega);have anW:dT (.int 3) (.int d)=some (.int (3*d)):=lS (by omega);rw[bP];unfold u';rw[e_ s1];have bf:nm 2 [some (unop%Wp 0),some (.aa (.int k)),some (.aa (.int d))]=some (.int d):=rfl;have aP:nm 1 [some (unop%Wp 0),some (.aa (.int k)),some (.aa (.int d))]=some (.int k):=rfl;simp only[b',aq,bf,aP,cz,eb,ae,hJ,anW,ie,k4 (j:=2147483629) (by decide)]
noncomputable def names5:List Str:=["a","b","back","hall","win"]
noncomputable def xE(R:Int)(o:Op):Prop:=0<=o.1/\o.1<o.2.1/\o.2.1<=R/\∀x,o.2.2=some x->x∈names5
structure Drawn(R:Int)(os:List Op):Prop where
 a_:1<=R
 p5:R<=7
 len:os.length<=10
 ok:∀o∈os,xE R o
noncomputable def xO:bK:=(seq (asg 4 (unop%WF 0)) (seq (asg 5 (aq oMod (nm 4) (aq b4 (nm 1) (ae (.int 1))))) (seq (asg 6 (unop%Wb 0)) (seq (asg 7 (unop%W2 0)) (asg 2 (unop%Wo 0))))))
noncomputable def eD(n R:Int)(os:List Op)(q1 hH g4 eI gh:Option aR):Ev:=[some (unop%Wp 0),some (.aa (.int R)),some (.aa (.tuple (os.map dB))),q1,hH,g4,eI,gh]
def aj4(i:Int)(h0:0<=i)(r':i<7)(ai:Ev):∃z:Option Str,(bo [(ae .none),(ae .none),(ae (.str "a")),(ae (.str "b")),(ae (.str "back")),(ae (.str "hall")),(ae (.str "win"))] ai).bind (λt=>aZ t (.int i))=some (hW z)/\∀x,z=some x->x∈names5:=by
 have ax:i=0\/i=1\/i=2\/i=3\/i=4\/i=5\/i=6:=by omega
 have e:bo [(ae .none),(ae .none),(ae (.str "a")),(ae (.str "b")),(ae (.str "back")),(ae (.str "hall")),(ae (.str "win"))] ai=some (.tuple [.none,.none,.str "a",.str "b",.str "back",.str "hall",.str "win"]):=by
  simp[bo,args,ae,big]
 rw[e];rcases ax with rfl|rfl|rfl|rfl|rfl|rfl|rfl
 ·exact⟨none,rfl,λx h=>by cases h⟩
 ·exact⟨none,rfl,λx h=>by cases h⟩
 ·exact⟨some "a",rfl,λx h=>by cases h;simp[names5]⟩
 ·exact⟨some "b",rfl,λx h=>by cases h;simp[names5]⟩
 ·exact⟨some "back",rfl,λx h=>by cases h;simp[names5]⟩
 ·exact⟨some "hall",rfl,λx h=>by cases h;simp[names5]⟩
 ·exact⟨some "win",rfl,λx h=>by cases h;simp[names5]⟩
def ahM(n R:Int)(ah:1<=R)(r':R<=7)(os:List Op)(aI:os.length<1000)(k:Int)(aL:0<=k/\k<1000)(hH g4 eI gh:Option aR):
  ∃o yw yx q2 Im,xE R o/\xO (eD n R os (unop%W4 0) hH g4 eI gh)=some (.bG (eD n R (os++[o]) (unop%W4 0) yw yx q2 Im)):=by
 obtain⟨m,hm,hd⟩:=wV n (50+k) (by omega);have q0:0<=m / 4:=Int.ediv_nonneg hm (by decide);generalize aX:m / 4=q at q0;have s1:asg 4 (unop%WF 0) (eD n R os (unop%W4 0) hH g4 eI gh)=some (.bG (eD n R os (unop%W4 0) (unop%Wl 0) g4 eI gh)):=by
  have jz:av 0 (eD n R os (unop%W4 0) hH g4 eI gh)=some (.int n):=rfl;have q3:nm 3 (eD n R os (unop%W4 0) hH g4 eI gh)=some (.int k):=rfl;simp only[asg,aq,a3,args,jz,q3,ae,ie,cz,eb,hd,xg (j:=4) (by decide),aX];rfl
 have anh:0<=q % (R+1)/\q % (R+1)<R+1:=⟨kU _ (by omega),n' _ (by omega)⟩;have anj:0<=q / 8 % R/\q / 8 % R<R:=⟨kU _ (by omega),n' _ (by omega)⟩;have ang:(q % (R+1)+1+q / 8 % R) % (R+1)≠q % (R+1):=by
  generalize q % (R+1)=a at *;generalize q / 8 % R=b at *;intro e;by_cases c:a+1+b<R+1
  ·rw[Int.emod_eq_of_lt (by omega) c] at e;omega
  ·have:(a+1+b) % (R+1)=a+1+b - (R+1):=by
    rw[<- Int.sub_emod_right,Int.emod_eq_of_lt (by omega) (by omega)]
   omega
 have ani:0<=(q % (R+1)+1+q / 8 % R) % (R+1)/\(q % (R+1)+1+q / 8 % R) % (R+1)<R+1:=⟨kU _ (by omega),n' _ (by omega)⟩;have s2:asg 5 (aq oMod (nm 4) (aq b4 (nm 1) (ae (.int 1)))) (eD n R os (unop%W4 0) (unop%Wl 0) g4 eI gh)=some (.bG (eD n R os (unop%W4 0) (unop%Wl 0) (some (.aa (.int (q % (R+1))))) eI gh)):=by
  have yE:nm 4 (eD n R os (unop%W4 0) (unop%Wl 0) g4 eI gh)=some (.int q):=rfl;have eA:nm 1 (eD n R os (unop%W4 0) (unop%Wl 0) g4 eI gh)=some (.int R):=rfl;simp only[asg,aq,yE,eA,ae,ie,cz,eb,k4 (j:=R+1) (by omega)];rfl
 generalize q % (R+1)=one at *;have s3:asg 6 (unop%Wb 0) (eD n R os (unop%W4 0) (unop%Wl 0) (unop%Ww 0) eI gh)=some (.bG (eD n R os (unop%W4 0) (unop%Wl 0) (unop%Ww 0) (some (.aa (.int ((one+1+q / 8 % R) % (R+1))))) gh)):=by
  have yF:nm 5 (eD n R os (unop%W4 0) (unop%Wl 0) (unop%Ww 0) eI gh)=some (.int one):=rfl;have yE:nm 4 (eD n R os (unop%W4 0) (unop%Wl 0) (unop%Ww 0) eI gh)=some (.int q):=rfl;have eA:nm 1 (eD n R os (unop%W4 0) (unop%Wl 0) (unop%Ww 0) eI gh)=some (.int R):=rfl;simp only[asg,aq,yF,yE,eA,ae,ie,cz,eb,xg (j:=8) (by decide),k4 (j:=R) (by omega),k4 (j:=R+1) (by omega)];rfl
 generalize (one+1+q / 8 % R) % (R+1)=ix at *;obtain⟨z,au,Bz⟩:=aj4 (q / 64 % 7) (kU _ (by decide)) (n' _ (by decide)) (eD n R os (unop%W4 0) (unop%Wl 0) (unop%Ww 0) (some (.aa (.int ix))) gh);have s4:asg 7 (unop%W2 0) (eD n R os (unop%W4 0) (unop%Wl 0) (unop%Ww 0) (some (.aa (.int ix))) gh)=some (.bG (eD n R os (unop%W4 0) (unop%Wl 0) (unop%Ww 0) (some (.aa (.int ix))) (some (.aa (hW z))))):=by
  have yE:nm 4 (eD n R os (unop%W4 0) (unop%Wl 0) (unop%Ww 0) (some (.aa (.int ix))) gh)=some (.int q):=rfl;have aQ:aq oMod (aq oDiv (nm 4) (ae (.int 64))) (ae (.int 7)) (eD n R os (unop%W4 0) (unop%Wl 0) (unop%Ww 0) (some (.aa (.int ix))) gh)=some (.int (q / 64 % 7)):=by
   simp only[aq,yE,ae,cz,xg (j:=64) (by decide),k4 (j:=7) (by decide)]
  have cM:aq aZ (bo [(ae .none),(ae .none),(ae (.str "a")),(ae (.str "b")),(ae (.str "back")),(ae (.str "hall")),(ae (.str "win"))]) (aq oMod (aq oDiv (nm 4) (ae (.int 64))) (ae (.int 7))) (eD n R os (unop%W4 0) (unop%Wl 0) (unop%Ww 0) (some (.aa (.int ix))) gh)=some (hW z):=by
   rw[<- au];unfold aq at aQ ⊢;simp only[aQ,cz]
  simp only[asg,cM,eb];rfl
 refine⟨((if ix<one then ix else one),(if ix > one then ix else one),z),some (.aa (.int q)),some (.aa (.int one)),some (.aa (.int ix)),some (.aa (hW z)),⟨?_,?_,?_,Bz⟩,?_⟩
 ·dsimp only;split <;> omega
 ·dsimp only;split <;> split <;> omega
 ·dsimp only;split <;> omega
 ·have s5:asg 2 (unop%Wo 0) (eD n R os (unop%W4 0) (unop%Wl 0) (unop%Ww 0) (some (.aa (.int ix))) (some (.aa (hW z))))=some (.bG (eD n R (os++[((if ix<one then ix else one),(if ix > one then ix else one),z)]) (unop%W4 0) (unop%Wl 0) (unop%Ww 0) (some (.aa (.int ix))) (some (.aa (hW z))))):=by
   have yF:nm 5 (eD n R os (unop%W4 0) (unop%Wl 0) (unop%Ww 0) (some (.aa (.int ix))) (some (.aa (hW z))))=some (.int one):=rfl;have n6:nm 6 (eD n R os (unop%W4 0) (unop%Wl 0) (unop%Ww 0) (some (.aa (.int ix))) (some (.aa (hW z))))=some (.int ix):=rfl;have uu:av 7 (eD n R os (unop%W4 0) (unop%Wl 0) (unop%Ww 0) (some (.aa (.int ix))) (some (.aa (hW z))))=some (hW z):=rfl;have fE:nm 2 (eD n R os (unop%W4 0) (unop%Wl 0) (unop%Ww 0) (some (.aa (.int ix))) (some (.aa (hW z))))=some (.tuple (os.map dB)):=rfl;have af:(os.map dB).length+1<=16777216:=by simp;omega
   simp only[asg,aq,a3,bo,args,yF,n6,uu,fE,cz,eb,oZ,nV,b4,fy,n_,big];simp[af,eD,dB];omega
  unfold xO;rw[e_ s1,e_ s2,e_ s3,e_ s4,s5]
theorem RH(n R:Int)(ah:1<=R)(r':R<=7):∀(bj:List Int) (os:List Op) (q1 hH g4 eI gh:Option aR),(∀k∈bj,0<=k/\k<1000)->os.length+bj.length<1000->(∀o∈os,xE R o) ->
  ∃q5 _K yw yx q2 Im,q5.length=os.length+bj.length/\(∀o∈q5,xE R o)/\forL (bH 3) xO (bj.map .int) (eD n R os q1 hH g4 eI gh)=some (.bG (eD n R q5 _K yw yx q2 Im))
| [],os,q1,hH,g4,eI,gh,_,_,aK=>⟨os,q1,hH,g4,eI,gh,rfl,aK,rfl⟩
|k::bj,os,q1,hH,g4,eI,gh,aL,aI,aK=>by
  simp only[fy] at aI;obtain⟨o,hZ,kG,kH,xJ,oo,az⟩:=ahM n R ah r' os (by omega) k (aL k (by simp)) hH g4 eI gh;obtain⟨q5,dO,kI,qH,oE,FC,aw,aN,dv⟩:=RH n R ah r' bj (os++[o]) (unop%W4 0) hZ kG kH xJ (λiT h=>aL iT (by simp[h])) (by simp;omega) λo' h=>by
   rcases h8.mp h with q|q
   ·exact aK o' q
   ·simp at q;subst q;exact oo
  refine⟨q5,dO,kI,qH,oE,FC,by rw[aw];simp;omega,aN,?_⟩
  have bP:bH 3 (.int k) (eD n R os q1 hH g4 eI gh)=some (eD n R os (unop%W4 0) hH g4 eI gh):=rfl;simp only[c8,forL,bP,cz,az,dv]
def Z9(n:Int)(bc:0<=n):∃R os,Drawn R os/\r4 [.int n]=some (c1 R os):=by
 have iP:0<=n % 7/\n % 7<7:=⟨kU _ (by decide),n' _ (by decide)⟩;have dw:0<=n / 8 % 11/\n / 8 % 11<11:=⟨kU _ (by decide),n' _ (by decide)⟩;have s1:asg 1 (aq b4 (ae (.int 1)) (aq oMod (nm 0) (ae (.int 7)))) [some (unop%Wp 0),none,none,none,none,none,none,none]=some (.bG [some (unop%Wp 0),some (.aa (.int (1+n % 7))),none,none,none,none,none,none]):=by
  have jz:nm 0 [some (unop%Wp 0),none,none,none,none,none,none,none]=some (.int n):=rfl;simp only[asg,aq,jz,ae,cz,eb,k4 (j:=7) (by decide),ie];rfl
 have s2:asg 2 (bo []) [some (unop%Wp 0),some (.aa (.int (1+n % 7))),none,none,none,none,none,none]=some (.bG (eD n (1+n % 7) [] none none none none none)):=by
  simp[asg,bo,args,big,eD]
 have hit:jK (unop%WG 0) (eD n (1+n % 7) [] none none none none none)=some (((List.range (n / 8 % 11).toNat).map λ(k:Nat)=>(k:Int)).map .int):=by
  have jz:nm 0 (eD n (1+n % 7) [] none none none none none)=some (.int n):=rfl;have az:anC (n / 8 % 11)=true:=by
   unfold anC;simp;omega
  simp only[jK,aq,jz,ae,cz,xg (j:=8) (by decide),k4 (j:=11) (by decide),az,if_true,km,Int.sub_zero,Int.zero_add,oa,pa]
 obtain⟨os,dO,kI,qH,oE,FC,aw,aN,dv⟩:=RH n (1+n % 7) (by omega) (by omega) ((List.range (n / 8 % 11).toNat).map λ(k:Nat)=>(k:Int)) [] none none none none none (λk aL=>by
  obtain⟨j,bS,rfl⟩:=d_.mp aL;have:=List.mem_range.mp bS;omega) (by simp;omega) (by simp)
 simp only[n_,f5,List.length_range] at aw;refine⟨1+n % 7,os,⟨by omega,by omega,by omega,aN⟩,?_⟩;have s3:ef (jK (unop%WG 0)) (bH 3) xO (eD n (1+n % 7) [] none none none none none)=some (.bG (eD n (1+n % 7) os dO kI qH oE FC)):=by
  simp only[ef,hit,cz];exact dv
 have s4:seq (ef (jK (unop%WG 0)) (bH 3) xO) (b' (bo [(av 1),(av 2)])) (eD n (1+n % 7) [] none none none none none)=some (.dE (c1 (1+n % 7) os)):=by
  rw[e_ s3];simp[b',bo,args,av,eD,big,c1]
 have bP:r4 [.int n]=(zO [some (unop%Wp 0),none,none,none,none,none,none,none]).bind λo=>match o with|.dE t=>some t|.bG _=>some .none|_=>none:=rfl
 rw[bP];unfold zO;rw[e_ s1,e_ s2];exact congrArg (λx:Option Out=>x.bind λo=>match o with|.dE t=>some t|.bG _=>some .none|_=>none) s4
end bq
end
section
namespace bq
open PySem D
local instance:cD:=⟨[],λ_=>[],λ_=>none⟩
def ahf{R:Int}{os:List Op}(d:Drawn R os):ew.Within R (os.map iL):=λe he=>by
 obtain⟨o,aK,rfl⟩:=d_.mp he;have:=d.ok o aK;unfold xE at this;unfold iL;dsimp only;omega
def aft{R:Int}{os:List Op}(d:Drawn R os)(room:Int):∃ws,ew.g9 (os.map iL) room 20 [0]=some ws/\gZ [c1 R os,.int room]=some (.tuple (ws.map wT))/\(ws≠[] <-> ew.Reach (os.map iL) room):=by
 obtain⟨ws,ah,ar⟩:=ew.QE (ahf d) d.p5 (by simpa using d.len) room 20 [0] (by simp) (by simp) (by have:=d.a_;simp;omega) (by simp);exact⟨ws,ah,aj7 ah (h9 ar (by simp)),ew.afs ah⟩
noncomputable def bare(ns:List Str)(o:Op):Op:=(o.1,o.2.1,match o.2.2 with
|none=>none
|some x=>if x∈ns then none else some x)
end bq
end
section
namespace ew
noncomputable def xw(E:List (Int×Int)):Int->List Nat->List Int->Prop
|_,[],p=>p=[]
|cur,k::w,p=>∃e t q,E[k]?=some e/\ip e cur=some t/\p=t::q/\xw E t w q
theorem SU{rec:List Int->Option (List (List Nat))}{pl:List Int}{h:Int}:∀{E:List (Int×Int)} {k:Nat} {ws:List (List Nat)},exts rec pl h k E=some ws->∀w,w∈ws <-> ∃j e t us df,E[j]?=some e/\ip e h=some t/\t∉pl/\rec (pl++[t])=some us/\df∈us/\w=(k+j)::df
| [],k,ws,e,w=>by
  cases e
  simp
|e::es,k,ws,ah,w=>by
  have g7:∀{vs:List (List Nat)},exts rec pl h (k+1) es=some vs->(w∈vs <-> ∃j bx t us df,(e::es)[j+1]?=some bx/\ip bx h=some t/\t∉pl/\rec (pl++[t])=some us/\df∈us/\w=(k+(j+1))::df):=λbh=>by
   rw[SU bh w];constructor
   ·rintro⟨j,bx,t,us,df,a1,a2,fj,hZ,kG,kH⟩;exact⟨j,bx,t,us,df,by simpa using a1,a2,fj,hZ,kG,by rw[kH];congr 1;omega⟩
   ·rintro⟨j,bx,t,us,df,a1,a2,fj,hZ,kG,kH⟩;exact⟨j,bx,t,us,df,by simpa using a1,a2,fj,hZ,kG,by rw[kH];congr 1;omega⟩
  unfold exts at ah;split at ah
  next t bp=>
   split at ah
   next hm=>
    rw[g7 ah];constructor
    ·rintro⟨j,r⟩;exact⟨j+1,r⟩
    ·rintro⟨j,bx,t',us,df,a1,a2,fj,r⟩;cases j with
     |zero=>
      cases a1
      rw[bp] at a2;cases a2;exact absurd hm fj
     |succ j=>exact⟨j,bx,t',us,df,a1,a2,fj,r⟩
   next hm=>
    simp only[cf,dR] at ah;obtain⟨us,ar,vs,bk,rfl⟩:=ah;rw[h8,g7 bk,d_];constructor
    ·rintro (⟨df,aP,bf⟩|⟨j,r⟩)
     ·exact⟨0,e,t,us,df,rfl,bp,hm,ar,aP,by rw[<- bf];rfl⟩
     ·exact⟨j+1,r⟩
    ·rintro⟨j,bx,t',afo,df,a1,a2,fj,hZ,kG,kH⟩;cases j with
     |zero=>
      cases a1
      rw[bp] at a2;cases a2;rw[ar] at hZ;cases hZ;exact .inl ⟨df,kG,kH.symm⟩
     |succ j=>exact .inr ⟨j,bx,t',afo,df,a1,a2,fj,hZ,kG,kH⟩
  next bc=>
   rw[g7 ah];constructor
   ·rintro⟨j,r⟩;exact⟨j+1,r⟩
   ·rintro⟨j,bx,t',us,df,a1,a2,fj,r⟩;cases j with
    |zero=>
     cases a1
     rw[bc] at a2;cases a2
    |succ j=>exact⟨j,bx,t',us,df,a1,a2,fj,r⟩
def ajQ{rec:List Int->Option (List (List Nat))}{pl:List Int}{h:Int}{E:List (Int×Int)}{k:Nat}{ws:List (List Nat)}(e:exts rec pl h k E=some ws){j:Nat}{bx:Int×Int}{t:Int}(ah:E[j]?=some bx)(ar:ip bx h=some t)(bk:t∉pl):∃vs,rec (pl++[t])=some vs:=by
 obtain⟨vs,bh,_⟩:=zK e t ⟨bx,pb ah,ar⟩ bk;exact⟨vs,bh⟩
theorem L6{E:List (Int×Int)}{room:Int}:∀{n:Nat} {pl:List Int} {cur:Int} {ws:List (List Nat)},pl.getLast?=some cur->g9 E room n pl=some ws->∀w,w∈ws <-> ∃p,xw E cur w p/\p.Nodup/\(∀y∈p,y∉pl)/\(cur::p).getLast?=some room
|0,pl,cur,ws,_,h,_=>by cases h
|n+1,pl,cur,ws,aI,h,w=>by
  have ZC:cur∈pl:=List.mem_of_getLast? aI;unfold g9 at h;rw[aI] at h;simp only at h;split at h
  next e=>
   subst e;cases h;constructor
   ·intro hw;have:w=[]:=by simpa using hw
    subst this;exact⟨[],rfl,by simp,by simp,rfl⟩
   ·rintro⟨p,ah,ar,bk,cB⟩;cases w with
    |nil=>simp
    |cons k w=>
     obtain⟨bx,t,q,_,_,rfl,_⟩:=ah;have hm:cur∈t::q:=by
      rw[List.getLast?_cons_cons] at cB;exact List.mem_of_getLast? cB
     exact absurd ZC (bk cur hm)
  next dJ=>
   rw[SU h w];constructor
   ·rintro⟨j,bx,t,us,df,a1,a2,fj,hZ,kG,kH⟩;obtain⟨p,lC,eN,v_,p4⟩:=(L6 (pl:=pl++[t]) (cur:=t) (by simp) hZ df).mp kG;refine⟨t::p,?_,?_,?_,by rw[List.getLast?_cons_cons];exact p4⟩
    ·rw[kH];exact⟨bx,t,p,by simpa using a1,a2,rfl,lC⟩
    ·exact eP.mpr ⟨λz=>v_ t z (by simp),eN⟩
    ·intro y a7;rcases cN.mp a7 with rfl|a7
     ·exact fj
     ·exact λz=>v_ y a7 (by simp[z])
   ·rintro⟨p,ah,ar,bk,cB⟩;cases w with
    |nil=>
     have:p=[]:=ah;subst this;simp at cB;exact absurd cB dJ
    |cons k w=>
     obtain⟨bx,t,q,b6,b7,rfl,dO⟩:=ah;have bp:t∉pl:=bk t (by simp);obtain⟨us,b1⟩:=ajQ h b6 b7 bp;have aV:=eP.mp ar;refine⟨k,bx,t,us,w,b6,b7,bp,b1,?_,by simp⟩;refine (L6 (pl:=pl++[t]) (cur:=t) (by simp) b1 w).mpr ⟨q,dO,aV.2,λy a7 z=>?_,by rw[List.getLast?_cons_cons] at cB;exact cB⟩;rcases h8.mp z with z|z
     ·exact bk y (by simp[a7]) z
     ·have:y=t:=by simpa using z
      subst this;exact aV.1 a7
def afq{E:List (Int×Int)}{room:Int}{n:Nat}{ws:List (List Nat)}(h:g9 E room n [0]=some ws)(w:List Nat):w∈ws <-> ∃p,xw E 0 w p/\((0:Int)::p).Nodup/\((0:Int)::p).getLast?=some room:=by
 rw[L6 (cur:=0) rfl h w];constructor
 ·rintro⟨p,ah,ar,bk,cB⟩;exact⟨p,ah,eP.mpr ⟨λz=>bk 0 z (by simp),ar⟩,cB⟩
 ·rintro⟨p,ah,ar,cB⟩;have aV:=eP.mp ar;exact⟨p,ah,aV.2,λy a7 z=>aV.1 (by have:y=0:=(by simpa using z);exact this▸a7),cB⟩
end ew
end
section
namespace cg
open D PySem
structure ik where
 fK:Str
 j1:Str
 nZ:List Str
 uses:Int
structure bb where
 cF:List (Str×Str)
 codes:List ik
 leave:Int
 qI:Int
 loud:Int
structure a5 where
 mode:Str
 left:Int
 hC:Option Str
 lines:List (Str×Str)
 d2:List Str
 hs:Int
 dk:List Str
 tries:Int
 locked:Int
 used:List (Str×Int)
 past:Int
 told:List (Int×Str×Option Str)
noncomputable def hL:Option Str->T
|none=>.none
|some x=>.str x
noncomputable def eV(z:Str×Str):T:=.tuple [.str z.1,.str z.2]
noncomputable def dY(c:ik):T:=.tuple [.str c.fK,.str c.j1,.tuple (c.nZ.map .str),.int c.uses]
noncomputable def cA(p:bb):T:=.tuple [.tuple (p.cF.map eV),.tuple (p.codes.map dY),.tuple [.int p.leave,.int p.qI,.int p.loud]]
noncomputable def pS(w:Int×Str×Option Str):T:=.tuple [.int w.1,.str w.2.1,hL w.2.2]
noncomputable def iJ(l:List (Str×Str)):List (D.Key×T):=l.map λp=>(.inr p.1,.str p.2)
noncomputable def gv(l:List (Str×Int)):List (D.Key×T):=l.map λp=>(.inr p.1,.int p.2)
noncomputable def encC(p:bb)(c:a5):List aR:=[.aa (cA p),.aa (.str c.mode),.aa (.int c.left),.aa (hL c.hC),.h1 (iJ c.lines),.own (c.d2.map .str),.aa (.int c.hs),.own (c.dk.map .str),.aa (.int c.tries),.aa (.int c.locked),.h1 (gv c.used),.aa (.int c.past),.own (c.told.map pS)]
def agd:¬(("off":Str)="leaving"):=by decide +kernel
def ajD:¬(("off":Str)="on"):=by decide +kernel
def Lq:¬(("off":Str)="coming"):=by decide +kernel
def age:¬(("leaving":Str)="off"):=by decide +kernel
def agv:¬(("leaving":Str)="on"):=by decide +kernel
def QV:¬(("leaving":Str)="coming"):=by decide +kernel
def ajC:¬(("on":Str)="off"):=by decide +kernel
def agt:¬(("on":Str)="leaving"):=by decide +kernel
def Lw:¬(("on":Str)="coming"):=by decide +kernel
def agx:¬(("coming":Str)="off"):=by decide +kernel
def afW:¬(("coming":Str)="leaving"):=by decide +kernel
def ag0:¬(("coming":Str)="on"):=by decide +kernel
def agT:¬(("shut":Str)="open"):=by decide +kernel
def ahv:¬(("shut":Str)="cut"):=by decide +kernel
def agV:¬(("open":Str)="shut"):=by decide +kernel
def ahw:¬(("open":Str)="cut"):=by decide +kernel
def ahA:¬(("cut":Str)="shut"):=by decide +kernel
def ahB:¬(("cut":Str)="open"):=by decide +kernel
def agZ:¬(("day":Str)="inner"):=by decide +kernel
def ahz:¬(("day":Str)="once"):=by decide +kernel
def aiu:¬(("day":Str)="way"):=by decide +kernel
def agY:¬(("inner":Str)="day"):=by decide +kernel
def agw:¬(("inner":Str)="once"):=by decide +kernel
def agX:¬(("inner":Str)="way"):=by decide +kernel
def ahy:¬(("once":Str)="day"):=by decide +kernel
def ags:¬(("once":Str)="inner"):=by decide +kernel
def ahx:¬(("once":Str)="way"):=by decide +kernel
def ait:¬(("way":Str)="day"):=by decide +kernel
def agS:¬(("way":Str)="inner"):=by decide +kernel
def ahu:¬(("way":Str)="once"):=by decide +kernel
def agU:¬(("set":Str)="unset"):=by decide +kernel
def Rf:¬(("set":Str)="shunt"):=by decide +kernel
def LI:¬(("set":Str)="free"):=by decide +kernel
def Lu:¬(("unset":Str)="set"):=by decide +kernel
def Q5:¬(("unset":Str)="shunt"):=by decide +kernel
def Lp:¬(("unset":Str)="free"):=by decide +kernel
def Lv:¬(("shunt":Str)="set"):=by decide +kernel
def Dm:¬(("shunt":Str)="unset"):=by decide +kernel
def agr:¬(("shunt":Str)="free"):=by decide +kernel
def LJ:¬(("free":Str)="set"):=by decide +kernel
def Dr:¬(("free":Str)="unset"):=by decide +kernel
def Ds:¬(("free":Str)="shunt"):=by decide +kernel
def agW:¬(("line":Str)="code"):=by decide +kernel
def agu:¬(("line":Str)="ticks"):=by decide +kernel
def ag1:¬(("code":Str)="line"):=by decide +kernel
def agy:¬(("code":Str)="ticks"):=by decide +kernel
def agp:¬(("ticks":Str)="line"):=by decide +kernel
def agq:¬(("ticks":Str)="code"):=by decide +kernel
noncomputable def tell(w:Str)(n:Option Str)(c:a5):a5:={c with told:=c.told++[(c.past,w,n)]}
noncomputable def l0(p:bb)(c:a5):a5:={c with hs:=p.loud}
noncomputable def gr(p:bb)(z:Str)(c:a5):a5:=if z∈c.dk then l0 p c else tell "alarm" (some z) {l0 p c with dk:=c.dk++[z]}
section
variable (p:bb)(c:a5)
def Et:(encC p c).length=13:=rfl
def bP:(encC p c)[0]?=some (.aa (cA p)):=rfl
def aw:(encC p c)[1]?=some (.aa (.str c.mode)):=rfl
def aN:(encC p c)[2]?=some (.aa (.int c.left)):=rfl
def dv:(encC p c)[3]?=some (.aa (hL c.hC)):=rfl
def gL:(encC p c)[4]?=some (.h1 (iJ c.lines)):=rfl
def tV:(encC p c)[5]?=some (.own (c.d2.map .str)):=rfl
def r5:(encC p c)[6]?=some (.aa (.int c.hs)):=rfl
def vK:(encC p c)[7]?=some (.own (c.dk.map .str)):=rfl
def AM:(encC p c)[8]?=some (.aa (.int c.tries)):=rfl
def vL:(encC p c)[9]?=some (.aa (.int c.locked)):=rfl
def AK:(encC p c)[10]?=some (.h1 (gv c.used)):=rfl
def AL:(encC p c)[11]?=some (.aa (.int c.past)):=rfl
def xT:(encC p c)[12]?=some (.own (c.told.map pS)):=rfl
def s1(x:Str):(encC p c).set 1 (.aa (.str x))=encC p {c with mode:=x}:=rfl
def s2(x:Int):(encC p c).set 2 (.aa (.int x))=encC p {c with left:=x}:=rfl
def s3(x:Str):(encC p c).set 3 (.aa (.str x))=encC p {c with hC:=some x}:=rfl
def Cq:(encC p c).set 3 (.aa .none)=encC p {c with hC:=none}:=rfl
def s4(l:List (Str×Str)):(encC p c).set 4 (.h1 (iJ l))=encC p {c with lines:=l}:=rfl
def s5(l:List Str):(encC p c).set 5 (.own (l.map .str))=encC p {c with d2:=l}:=rfl
def Cr:(encC p c).set 5 (.own [])=encC p {c with d2:=[]}:=rfl
def dM(x:Int):(encC p c).set 6 (.aa (.int x))=encC p {c with hs:=x}:=rfl
def dh(l:List Str):(encC p c).set 7 (.own (l.map .str))=encC p {c with dk:=l}:=rfl
def Ct:(encC p c).set 7 (.own [])=encC p {c with dk:=[]}:=rfl
def Cs(l:List Str)(z:Str):(encC p c).set 7 (.own (l.map .str++[.str z]))=encC p {c with dk:=l++[z]}:=by simp[encC]
def c6(x:Int):(encC p c).set 8 (.aa (.int x))=encC p {c with tries:=x}:=rfl
def fv(x:Int):(encC p c).set 9 (.aa (.int x))=encC p {c with locked:=x}:=rfl
def fF(l:List (Str×Int)):(encC p c).set 10 (.h1 (gv l))=encC p {c with used:=l}:=rfl
def eo(x:Int):(encC p c).set 11 (.aa (.int x))=encC p {c with past:=x}:=rfl
def Cp(l:List (Int×Str×Option Str))(i:Int)(w:Str)(n:Option Str):(encC p c).set 12 (.own (l.map pS++[.tuple [.int i,.str w,hL n]]))=encC p {c with told:=l++[(i,w,n)]}:=by simp[encC,pS]
end
end cg
open D cg
open PySem hiding run fresh code
local macro_rules
| `(tactic| simp! [iz,$xs,*] $[$l]?)=>`(tactic| simp[Et,bP,aw,aN,dv,gL,tV,r5,vK,AM,vL,AK,AL,xT,s1,s2,s3,Cq,s4,s5,Cr,dM,dh,Ct,Cs,c6,fv,fF,eo,Cp,runM,lG,kZ,qn,dW,dS,oi,yV,rC,yX,e0,nv,qG,qF,jd,iV,fld,hF,oO,qP,oN,tj,tp,anS,rF,xK,p1,mw,c5,seq,iff,bO,gT,fk,gR,gP,ez,ofT,cX,aq,a3,args,ae,nm,av,b',skip,asg,gY,iH,par,bo,eF,g5,gE,aZ,eM,fs,bH,dH,gy,dV,comp,hS,$xs,*] $[$l]?)
local macro_rules
| `(tactic| simp! [iX,$xs,*] $[$l]?)=>`(tactic| simp[c5,seq,iff,bO,gT,fk,gR,gP,ez,ofT,cX,aq,a3,args,ae,nm,av,b',skip,asg,gY,iH,par,bo,eF,g5,gE,aZ,eM,fs,bH,dH,gy,dV,comp,hS,$xs,*] $[$l]?)
| `(tactic| simp! [iX] $[$l]?)=>`(tactic| simp[c5,seq,iff,bO,gT,fk,gR,gP,ez,ofT,cX,aq,a3,args,ae,nm,av,b',skip,asg,gY,iH,par,bo,eF,g5,gE,aZ,eM,fs,bH,dH,gy,dV,comp,hS] $[$l]?)
local macro_rules
| `(tactic| simp! [jG,$xs,*] $[$l]?)=>`(tactic| simp[b4,sz,dT,oDiv,oMod,hp,iw,oZ,nV,hy,Eo,q4,oLt,oLe,jA,sx,big,Et,bP,aw,aN,dv,gL,tV,r5,vK,AM,vL,AK,AL,xT,s1,s2,s3,Cq,s4,s5,Cr,dM,dh,Ct,Cs,c6,fv,fF,eo,Cp,runM,lG,kZ,qn,dW,dS,oi,yV,rC,yX,e0,nv,qG,qF,jd,iV,fld,hF,oO,qP,oN,tj,tp,anS,rF,xK,p1,mw,c5,seq,iff,bO,gT,fk,gR,gP,ez,ofT,cX,aq,a3,args,ae,nm,av,b',skip,asg,gY,iH,par,bo,eF,g5,gE,aZ,eM,fs,bH,dH,gy,dV,comp,hS,$xs,*] $[$l]?)
local macro_rules
| `(tactic| simp! [p7,$xs,*] $[$l]?)=>`(tactic| simp[runM,lG,kZ,qn,dW,dS,oi,yV,rC,yX,e0,nv,qG,qF,jd,iV,fld,hF,oO,qP,oN,tj,tp,anS,rF,xK,p1,mw,c5,seq,iff,bO,gT,fk,gR,gP,ez,ofT,cX,aq,a3,args,ae,nm,av,b',skip,asg,gY,iH,par,bo,eF,g5,gE,aZ,eM,fs,bH,dH,gy,dV,comp,hS,$xs,*] $[$l]?)
local macro_rules
| `(tactic| simp! [h6,$xs,*] $[$l]?)=>`(tactic| simp[Et,bP,aw,aN,dv,gL,tV,r5,vK,AM,vL,AK,AL,xT,s1,s2,s3,Cq,s4,s5,Cr,dM,dh,Ct,Cs,c6,fv,fF,eo,Cp,runM,lG,kZ,qn,dW,dS,oi,yV,rC,yX,e0,nv,qG,qF,jd,iV,fld,hF,oO,qP,oN,tj,tp,anS,rF,xK,p1,mw,agd,ajD,Lq,age,agv,QV,ajC,agt,Lw,agx,afW,ag0,agT,ahv,agV,ahw,ahA,ahB,agZ,ahz,aiu,agY,agw,agX,ahy,ags,ahx,ait,agS,ahu,agU,Rf,LI,Lu,Q5,Lp,Lv,Dm,agr,LJ,Dr,Ds,agW,agu,ag1,agy,agp,agq,c5,seq,iff,bO,gT,fk,gR,gP,ez,ofT,cX,aq,a3,args,ae,nm,av,b',skip,asg,gY,iH,par,bo,eF,g5,gE,aZ,eM,fs,bH,dH,gy,dV,comp,hS,$xs,*] $[$l]?)
local macro_rules
| `(tactic| simp! [Kt,$xs,*] $[$l]?)=>`(tactic| simp[b4,sz,dT,oDiv,oMod,hp,iw,oZ,nV,hy,Eo,q4,oLt,oLe,jA,sx,big,c5,seq,iff,bO,gT,fk,gR,gP,ez,ofT,cX,aq,a3,args,ae,nm,av,b',skip,asg,gY,iH,par,bo,eF,g5,gE,aZ,eM,fs,bH,dH,gy,dV,comp,hS,$xs,*] $[$l]?)
local macro_rules
| `(tactic| simp! [aeS,$xs,*] $[$l]?)=>`(tactic| simp[runM,lG,kZ,qn,dW,dS,oi,yV,rC,yX,e0,nv,qG,qF,jd,iV,fld,hF,oO,qP,oN,tj,tp,anS,rF,xK,p1,mw,$xs,*] $[$l]?)
local macro_rules
| `(tactic| simp! [aeT,$xs,*] $[$l]?)=>`(tactic| simp[Et,bP,aw,aN,dv,gL,tV,r5,vK,AM,vL,AK,AL,xT,s1,s2,s3,Cq,s4,s5,Cr,dM,dh,Ct,Cs,c6,fv,fF,eo,Cp,$xs,*] $[$l]?)
local macro_rules
| `(tactic| simp! [gC,$xs,*] $[$l]?)=>`(tactic| simp[c5,seq,iff,bO,gT,fk,gR,gP,ez,ofT,cX,aq,a3,args,ae,nm,av,b',skip,asg,gY,iH,par,bo,eF,g5,gE,bH,dH,gy,dV,comp,hS,$xs,*] $[$l]?)
| `(tactic| simp! [gC] $[$l]?)=>`(tactic| simp[c5,seq,iff,bO,gT,fk,gR,gP,ez,ofT,cX,aq,a3,args,ae,nm,av,b',skip,asg,gY,iH,par,bo,eF,g5,gE,bH,dH,gy,dV,comp,hS] $[$l]?)
namespace cg
open D PySem
noncomputable def cS(x:Str):Prop:=(mj x).canLay0=true
def dX{x y:Str}(ah:cS x)(ar:cS y):oEq (.str x) (.str y)=some (.bool (decide (x=y))):=by
 unfold oEq;rw[w3 ah,w3 ar];by_cases e:x=y <;> simp[f6,e]
def qm{x y:Str}(ah:cS x)(ar:cS y):h5 (.str x) (.str y)=some (.bool (!decide (x=y))):=by
 unfold h5;rw[w3 ah,w3 ar];by_cases e:x=y <;> simp[f6,e]
def vc(neg:Bool){n:Str}{ns:List Str}(h0:cS n)(h:∀x∈ns,cS x):fc neg (.str n) (.list (ns.map .str))=some (.bool (if neg then !decide (n∈ns) else decide (n∈ns))):=by
 simp only[fc,w3 h0,LU ns h,Mg];rfl
def DX(neg:Bool){n:Str}{ns:List Str}(h0:cS n)(h:∀x∈ns,cS x):fc neg (.str n) (.tuple (ns.map .str))=some (.bool (if neg then !decide (n∈ns) else decide (n∈ns))):=akH neg n ns h0 h
def S5(p:bb)(c:a5)(w:Str)(n:Option Str)(h:c.told.length<big):gj [.obj .d8 0 (encC p c),.aa (.str w),.aa (hL n)]=some (.none,encC p (tell w n c)):=by
 have h':c.told.length<16777216:=h;simp! [iz,gj,Q7,tell,big,h']
def DE(p:bb)(c:a5)(w:Str)(h:c.told.length<big):gj [.obj .d8 0 (encC p c),.aa (.str w),.aa .none]=some (.none,encC p (tell w none c)):=S5 p c w none h
def rn(p:bb)(c:a5)(w z:Str)(h:c.told.length<big):gj [.obj .d8 0 (encC p c),.aa (.str w),.aa (.str z)]=some (.none,encC p (tell w (some z) c)):=S5 p c w (some z) h
def LL(p:bb)(c:a5):u0 [.obj .d8 0 (encC p c)]=some (.none,encC p (l0 p c)):=by
 simp! [iz,u0,QX,l0,cA]
structure br(p:bb)(c:a5):Prop where
 zn:∀z∈p.cF,cS z.1/\cS z.2
 fl:∀k∈p.codes,cS k.fK/\cS k.j1/\∀r∈k.nZ,cS r
 gn:p.cF.length<=40
 mo:cS c.mode
 ca:∀z,c.hC=some z->cS z/\z∈p.cF.map (·.1)
 lh:c.mode="coming"->c.hC≠none
 ln:c.lines.map (·.1)=p.cF.map (·.1)
 lo:∀l∈c.lines,cS l.2
 us:c.used.map (·.1)=p.codes.map (·.fK)
 g7:c.d2.Nodup/\∀z∈c.d2,z∈p.cF.map (·.1)
 al:c.dk.Nodup/\∀z∈c.dk,z∈p.cF.map (·.1)
def br.kl{p:bb}{c:a5}(h:br p c){z:Str}(au:z∈p.cF.map (·.1)):cS z:=by
 obtain⟨x,hx,rfl⟩:=d_.mp au;exact (h.zn x hx).1
def br.yM{p:bb}{c:a5}(h:br p c):∀z∈c.d2,cS z:=λz au=>h.kl (h.g7.2 z au)
def br.acL{p:bb}{c:a5}(h:br p c):∀z∈c.dk,cS z:=λz au=>h.kl (h.al.2 z au)
def R1{α:Type}[BEq α][LawfulBEq α]{l m:List α}(h:l.Nodup)(az:∀x∈l,x∈m):l.length<=m.length:=by
 induction l generalizing m with
|nil=>simp
|cons x l bM=>
  obtain⟨ah,ar⟩:=eP.mp h;have hx:=az x fg;have:=bM (m:=m.erase x) ar λy a7=>(List.mem_erase_of_ne (λe:y=x=>ah (e▸a7))).mpr (az y (dF _ a7));have aI:=List.length_erase_of_mem hx;have:=List.length_pos_of_mem hx;simp only[fy];omega
def br.NL{p:bb}{c:a5}(h:br p c):c.dk.length<=40:=by
 have:=R1 h.al.1 h.al.2;have:=h.gn;simp at *;omega
def br.Qf{p:bb}{c:a5}(h:br p c):c.d2.length<=40:=by
 have:=R1 h.g7.1 h.g7.2;have:=h.gn;simp at *;omega
def D3(p:bb)(c:a5)(z:Str)(h:br p c)(au:cS z)(bp:c.told.length<big):anB [.obj .d8 0 (encC p c),.aa (.str z)]=some (.none,encC p (gr p z c)):=by
 have aA:=h.NL;have sf:fc true (.str z) (.list (c.dk.map .str))=some (.bool (!decide (z∈c.dk))):=by rw[vc true au h.acL];rfl
 have af:(l0 p c).dk=c.dk:=rfl;have d7:c.dk.length<16777216:=by omega
 by_cases hm:z∈c.dk
 ·simp! [iz,anB,Li,LL,af,sf,hm,gr]
 ·have j0:({l0 p c with dk:=c.dk++[z]}:a5).told.length<big:=bp;simp! [iz,anB,Li,LL,af,sf,hm,gr,big,d7,rn p _ "alarm" z j0]
noncomputable def kindOf(p:bb)(z:Str):Str:=((p.cF.find? λx=>decide (x.1=z)).map (·.2)).getD ""
noncomputable def z_(p:bb)(f:Str):Option ik:=p.codes.find? λk=>decide (k.fK=f)
theorem R4{z:Str}(au:cS z)(s0:Option aR):∀(zs:List (Str×Str)) (t0:Option aR),(∀x∈zs,cS x.1)->z∈zs.map (·.1)->forL (bH 2) (iff (bO (aq oEq (unop%WN 0) (nm 1))) (b' (aq aZ (nm 2) (ae (.int 1)))) skip) (zs.map eV) [s0,some (.aa (.str z)),t0]=some (.dE (.str (((zs.find? λx=>decide (x.1=z)).map (·.2)).getD "")))
| [],t0,_,h=>by simp at h
|x::zs,t0,aK,h=>by
  have e:=dX (aK x (by simp)) au;by_cases hx:x.1=z
  ·simp! [iX,forL,eV,hx,dX au au]
  ·have h':z∈zs.map (·.1):=by
    rw[c8] at h;rcases cN.mp h with q|q
    ·exact absurd q.symm hx
    ·exact q
   have bM:=R4 au s0 zs (some (.aa (eV x))) (λy a7=>aK y (dF _ a7)) h';simp[eV] at bM;simp! [iX,forL,eV,hx,e];simpa [c5,seq,iff,bO,gT,fk,gR,gP,ez,ofT,cX,aq,a3,args,ae,nm,av,b',skip,asg,gY,iH,par,bo,eF,g5,gE,aZ,eM,fs,bH,dH,gy,dV,comp,hS] using bM
def RE{p:bb}{z:Str}(aK:∀x∈p.cF,cS x.1/\cS x.2)(au:z∈p.cF.map (·.1)):an5 [cA p,.str z]=some (.str (kindOf p z)):=by
 obtain⟨x,hx,rfl⟩:=d_.mp au;have:=R4 (aK x hx).1 (some (.aa (cA p))) p.cF none (λy a7=>(aK y a7).1) au;simp! [iX,an5,Sl,ef,cA] at this ⊢;simp[this,kindOf]
noncomputable def vM:Option ik->T
|none=>.none
|some k=>dY k
theorem Se{f:Str}(hf:cS f)(s0:Option aR):∀(bj:List ik) (t0:Option aR),(∀k∈bj,cS k.fK)->forL (bH 2) (iff (bO (aq oEq (unop%WN 0) (nm 1))) (b' (nm 2)) skip) (bj.map dY) [s0,some (.aa (.str f)),t0] =
   match bj.find? λk=>decide (k.fK=f) with
   |some k=>some (.dE (dY k))
   |none=>some (.bG [s0,some (.aa (.str f)),(bj.getLast?.map λk=>aR.aa (dY k)).elim t0 some])
| [],t0,_=>by simp[forL]
|k::bj,t0,aK=>by
  have e:=dX (aK k (by simp)) hf;by_cases hx:k.fK=f
  ·simp! [iX,forL,dY,hx,dX hf hf]
  ·have bM:=Se hf s0 bj (some (.aa (dY k))) (λy a7=>aK y (dF _ a7));simp only[c8,forL];simp! [iX,dY,hx,e] at bM ⊢;rw[bM];cases bj with
   |nil=>simp
   |cons iT bj=>simp[List.getLast?_cons]
def ahT{p:bb}{f:Str}(aK:∀k∈p.codes,cS k.fK)(hf:cS f):zL [cA p,.str f]=some (vM (z_ p f)):=by
 have:=Se hf (some (.aa (cA p))) p.codes none aK;simp! [iX,zL,Sm,ef,cA] at this ⊢;rw[this];unfold z_;cases e:p.codes.find? λk=>decide (k.fK=f) with
|none=>simp[vM]
|some k=>simp[vM]
noncomputable def pq(c:a5)(z:Str):Str:=(c.lines.lookup z).getD ""
noncomputable def n0(l:List (Str×Str))(z w:Str):List (Str×Str):=l.map λp=>if p.1=z then (z,w) else p
noncomputable def TL(c:a5)(f:Str):Int:=(c.used.lookup f).getD 0
noncomputable def rV(l:List (Str×Int))(f:Str):List (Str×Int):=l.map λp=>if p.1=f then (f,p.2+1) else p
theorem Ua{z:Str}:∀{l:List (Str×Str)},z∈l.map (·.1)->getD (iJ l) (.inr z)=some (.str ((l.lookup z).getD ""))
  | [],h=>by simp at h
  | (k,v)::l,h=>by
    by_cases e:k=z
    · subst e
      simp[getD,iJ,kq]
    · have h':z∈l.map (·.1):=by
        rw[c8] at h;rcases cN.mp h with q|q
        · exact absurd q.symm e
        · exact q
      have bM:=Ua h';have ne:(z==k)=false:=beq_eq_false_iff_ne.mpr (Ne.symm e);simp only[getD,iJ,c8,rb] at bM ⊢;rw[decide_eq_false (λq=>e (Sum.inr.inj q))];simp only[kq,ne];exact bM
theorem M5{z:Str}:∀{l:List (Str×Int)},z∈l.map (·.1)->getD (gv l) (.inr z)=some (.int ((l.lookup z).getD 0))
  | [],h=>by simp at h
  | (k,v)::l,h=>by
    by_cases e:k=z
    · subst e
      simp[getD,gv,kq]
    · have h':z∈l.map (·.1):=by
        rw[c8] at h;rcases cN.mp h with q|q
        · exact absurd q.symm e
        · exact q
      have bM:=M5 h';have ne:(z==k)=false:=beq_eq_false_iff_ne.mpr (Ne.symm e);simp only[getD,gv,c8,rb] at bM ⊢;rw[decide_eq_false (λq=>e (Sum.inr.inj q))];simp only[kq,ne];exact bM
def amO{z:Str}{l:List (Str×Str)}(h:z∈l.map (·.1)):(iJ l).any (λp=>decide (p.1=(Sum.inr z:D.Key)))=true:=by
 obtain⟨x,hx,rfl⟩:=d_.mp h;rw[List.any_eq_true];exact⟨(.inr x.1,.str x.2),d_.mpr ⟨x,hx,rfl⟩,by simp⟩
def amP{z:Str}{l:List (Str×Int)}(h:z∈l.map (·.1)):(gv l).any (λp=>decide (p.1=(Sum.inr z:D.Key)))=true:=by
 obtain⟨x,hx,rfl⟩:=d_.mp h;rw[List.any_eq_true];exact⟨(.inr x.1,.int x.2),d_.mpr ⟨x,hx,rfl⟩,by simp⟩
def als{z w:Str}{l:List (Str×Str)}(h:z∈l.map (·.1)):putD (iJ l) (.inr z) (.str w)=iJ (n0 l z w):=by
 unfold putD;rw[amO h,if_pos rfl];simp only[iJ,n0,oa];refine List.map_congr_left λx _=>?_;by_cases e:x.1=z
 ·simp[e]
 ·have:¬(Sum.inr x.1:D.Key)=Sum.inr z:=λq=>e (Sum.inr.inj q);simp[e,this]
def alu{z:Str}{l:List (Str×Int)}(h:z∈l.map (·.1))(aV:(l.map (·.1)).Nodup):putD (gv l) (.inr z) (.int ((l.lookup z).getD 0+1))=gv (rV l z):=by
 unfold putD;rw[amP h,if_pos rfl];simp only[gv,rV,oa];refine List.map_congr_left λx hx=>?_;by_cases e:x.1=z
 ·have:∀{l:List (Str×Int)},x∈l->(l.map (·.1)).Nodup->l.lookup x.1=some x.2:=by
   intro l
   induction l with
   |nil=>intro h;simp at h
   |cons y l bM=>
    intro h aV;rcases cN.mp h with rfl|h
    ·simp[kq]
    ·rw[c8,eP] at aV;have ne:(x.1==y.1)=false:=beq_eq_false_iff_ne.mpr λq=>aV.1 (q▸d_.mpr ⟨x,h,rfl⟩);simp only[kq,ne];exact bM h aV.2
  have aI:=this hx aV;subst e;simp[aI]
 ·have:¬(Sum.inr x.1:D.Key)=Sum.inr z:=λq=>e (Sum.inr.inj q);simp[e,this]
theorem xh{α:Type}{cc:f_}{hD:bY}{caps:Ev}(enc:α->T)(q:α->Bool)(f:α->T):∀(ts:List α) (s0:Option aR),(∀a∈ts,cc (some (.aa (enc a))::caps)=some (q a)/\(q a=true->hD (some (.aa (enc a))::caps)=some (f a)))->hg (bH 0) cc hD (ts.map enc) (s0::caps)=some ((ts.filter q).map f)
| [],_,_=>rfl
|a::ts,s0,h=>by
  obtain⟨ah,ar⟩:=h a (by simp);have bM:=xh enc q f ts (some (.aa (enc a))) λb af=>h b (dF _ af);simp only[c8,hg,bH,i1,cz,ah];cases aX:q a with
  |false=>simp[bM,aX]
  |true=>simp[bM,aX,ar aX]
noncomputable def bare(p:bb)(kinds:List Str)(c:a5):List Str:=((p.cF.filter λz=>decide (z.2∈kinds)).map (·.1)).filter λz=>decide (pq c z≠"shut") && !decide (z∈c.d2)
def bT(x:Str)(h:(mj x).canLay0=true:=by decide +kernel):cS x:=h
theorem RD{α:Type}{z:Str}:∀{l:List (Str×α)} {v:α},l.lookup z=some v->(z,v)∈l
  | [],v,h=>by cases h
  | (k,x)::l,v,h=>by
    rw[n5] at h;split at h
    next q=>
      cases h
      have:z=k:=by simpa using q
      subst this;simp
    next=>exact dF _ (RD h)
def br.yL{p:bb}{c:a5}(h:br p c)(z:Str):cS (pq c z):=by
 unfold pq;cases e:c.lines.lookup z with
|none=>exact bT ""
|some v=>exact h.lo _ (RD e)
def br.PL{p:bb}{c:a5}(h:br p c){z:Str}(au:z∈p.cF.map (·.1)):getD (iJ c.lines) (.inr z)=some (.str (pq c z)):=Ua (by rw[h.ln];exact au)
def Tw(p:bb)(c:a5)(bj:List Str)(m:jq)(h:br p c)(aL:∀k∈bj,cS k):uY [.obj m 0 (encC p c),.aa (.tuple (mw bj))]=some (.list ((bare p bj c).map .str)):=by
 have PA:=h.gn;have cT:=xh (cc:=bO (aq (fc false) (unop%We 0) (nm 1))) (hD:=aq aZ (nm 0) (ae (.int 0))) (caps:=[some (.aa (.tuple (mw bj)))]) eV (λz=>decide (z.2∈bj)) (λz=>.str z.1) p.cF none λz au=>by
  have:=DX false (h.zn z au).2 aL;simp at this;constructor
  ·simp! [iX,eV,mw,this]
  ·intro _;simp! [iX,eV]
 have dp:=xh (cc:=fk (bO (aq h5 (oN 0 1 4 (nm 0)) (ae (.str "shut")))) (bO (aq (fc true) (nm 0) (fld 0 1 5)))) (hD:=av 0) (caps:=[some (.obj m 0 (encC p c))]) mj (λz=>decide (pq c z≠"shut") && !decide (z∈c.d2)) mj ((p.cF.filter λz=>decide (z.2∈bj)).map (·.1)) none λz au=>by
  have Bz:z∈p.cF.map (·.1):=by
   obtain⟨x,hx,rfl⟩:=d_.mp au;exact d_.mpr ⟨x,(List.mem_filter.mp hx).1,rfl⟩
  have aw:=h.PL Bz;have aN:=qm (h.yL z) (bT "shut");have dv:=vc true (h.kl Bz) h.yM;simp at dv;constructor
  ·by_cases az:pq c z="shut"
   ·simp! [iz,iD,aw,aN,az,qm (bT "shut") (bT "shut")]
   ·simp! [iz,iD,aw,aN,dv,az]
  ·intro _;simp! [iX]
 have cw:(p.cF.map eV).length<=16777216:=by simp;omega
 have cE:(((p.cF.filter λz=>decide (z.2∈bj)).map λz=>mj z.1)).length<=16777216:=by
  rw[f5];have:=CT (λz:Str×Str=>decide (z.2∈bj)) p.cF;omega
 simp only[oa,pa] at dp;simp only[uY,QR,lG,kZ];simp! [iz,cA] at cT dp ⊢;have t_:p.cF.length<=big:=by unfold big;omega
 have nM:(p.cF.filter λz=>decide (z.2∈bj)).length<=big:=by
  have:=CT (λz:Str×Str=>decide (z.2∈bj)) p.cF;omega
 rw[if_pos t_,cT];simp only[eb,cz,h_,ha,Function.comp_apply,f5,nM,if_true,Option.join_some];rw[dp];simp[bare]
noncomputable def lj(p:bb)(z k:Str)(c:a5):a5:=if k≠"way"\/p.qI<=0 then gr p z c else tell "coming" (some z) {c with mode:="coming",left:=p.qI,hC:=some z}
noncomputable def mM(p:bb)(z w:Str)(c:a5):a5:=
 if kindOf p z="day" then gr p z c
 else if c.mode="off" then (if w="cut" then tell "fault" (some z) c else c)
 else if w="cut"\/kindOf p z="once" then gr p z c
 else if c.mode="on" then lj p z (kindOf p z) c else c
noncomputable def line(p:bb)(z w:Str)(c:a5):a5:=
 if w=pq c z then c
 else if w="shut" then (if pq c z="cut" then tell "mended" (some z) {c with lines:=n0 c.lines z w} else {c with lines:=n0 c.lines z w})
 else if z∈c.d2 then {c with lines:=n0 c.lines z w} else mM p z w {c with lines:=n0 c.lines z w}
def ahS(p:bb)(c:a5)(z k:Str)(h:br p c)(au:cS z)(aL:cS k)(bp:c.told.length<big):uZ [.obj .d8 0 (encC p c),.aa (.str z),.aa (.str k)]=some (.none,encC p (lj p z k c)):=by
 have e:=qm aL (bT "way");have ea:=D3 p c z h au bp;by_cases ah:k="way"
 ·by_cases ar:p.qI<=0
  ·simp! [jG,uZ,C_,cA,e,ah,ar,ea,lj];simp! [p7,qm (bT "way") (bT "way"),ea,ar]
  ·have bU:=rn p {c with mode:="coming",left:=p.qI,hC:=some z} "coming" z bp;simp! [jG,uZ,C_,cA,ah,ar,lj];simp! [jG,qm (bT "way") (bT "way"),bU,ar,cA]
 ·simp! [jG,uZ,C_,cA,e,ah,ea,lj]
def ahQ(p:bb)(c:a5)(z w:Str)(h:br p c)(au:z∈p.cF.map (·.1))(hw:cS w)(bp:c.told.length<big):zp [.obj .d8 0 (encC p c),.aa (.str z),.aa (.str w)]=some (.none,encC p (mM p z w c)):=by
 have gb:=RE h.zn au;have Hy:cS (kindOf p z):=by
  unfold kindOf;cases e:p.cF.find? λx=>decide (x.1=z) with
  |none=>exact bT ""
  |some x=>exact (h.zn x (List.mem_of_find?_eq_some e)).2
 have ea:=D3 p c z h (h.kl au) bp;have bU:=rn p c "fault" z bp;have fa:=ahS p c z (kindOf p z) h (h.kl au) Hy bp;have aP:=dX Hy (bT "day");have bf:=dX h.mo (bT "off");have dc:=dX hw (bT "cut");have jB:=dX Hy (bT "once");have uA:=dX h.mo (bT "on");simp only[zp,QW,mM];by_cases ah:kindOf p z="day"
 ·simp! [h6,gb,aP,ah,ea];simp! [p7,dX (bT "day") (bT "day"),ea]
 ·by_cases ar:c.mode="off"
  ·by_cases bk:w="cut"
   ·simp! [h6,gb,aP,ah,bf,ar,dc,bk,bU,dX (bT "off") (bT "off"),dX (bT "cut") (bT "cut")]
   ·simp! [h6,gb,aP,ah,bf,ar,dc,bk,bU,dX (bT "off") (bT "off")]
  ·by_cases bk:w="cut"
   ·simp! [h6,gb,aP,ah,bf,ar,dc,bk,ea,dX (bT "cut") (bT "cut")]
   ·by_cases cB:kindOf p z="once"
    ·simp! [h6,gb,aP,ah,bf,ar,dc,bk,jB,cB,ea,dX (bT "once") (bT "once"),dX (bT "once") (bT "day")]
    ·by_cases gf:c.mode="on"
     ·simp! [h6,gb,aP,ah,bf,ar,dc,bk,jB,cB,uA,gf,fa,dX (bT "on") (bT "on"),dX (bT "on") (bT "off")]
     ·simp! [h6,gb,aP,ah,bf,ar,dc,bk,jB,cB,uA,gf,fa]
def aia(l:List (Str×Str))(z w:Str):(n0 l z w).map (·.1)=l.map (·.1):=by
 unfold n0;rw[oa];refine List.map_congr_left λx _=>?_;by_cases e:x.1=z <;> simp[e]
def ai6(l:List (Str×Int))(z:Str):(rV l z).map (·.1)=l.map (·.1):=by
 unfold rV;rw[oa];refine List.map_congr_left λx _=>?_;by_cases e:x.1=z <;> simp[e]
def br.Qd{p:bb}{c:a5}(h:br p c)(z:Str){w:Str}(hw:cS w):br p {c with lines:=n0 c.lines z w}:=
 ⟨h.zn,h.fl,h.gn,h.mo,h.ca,h.lh,(aia _ _ _).trans h.ln,λl aI=>by
  obtain⟨x,hx,rfl⟩:=d_.mp aI;by_cases e:x.1=z
  ·rw[if_pos e];exact hw
  ·rw[if_neg e];exact h.lo x hx,h.us,h.g7,h.al⟩
theorem br.tell{p:bb}{c:a5}(h:br p c)(w:Str)(n:Option Str):br p (cg.tell w n c):=⟨h.zn,h.fl,h.gn,h.mo,h.ca,h.lh,h.ln,h.lo,h.us,h.g7,h.al⟩
def br.loud{p:bb}{c:a5}(h:br p c):br p (l0 p c):=⟨h.zn,h.fl,h.gn,h.mo,h.ca,h.lh,h.ln,h.lo,h.us,h.g7,h.al⟩
theorem br.gr{p:bb}{c:a5}(h:br p c){z:Str}(au:z∈p.cF.map (·.1)):br p (cg.gr p z c):=by
 unfold cg.gr;split
 ·exact h.loud
 next hm=>
  refine br.tell (c:={l0 p c with dk:=c.dk++[z]}) ⟨h.zn,h.fl,h.gn,h.mo,h.ca,h.lh,h.ln,h.lo,h.us,h.g7,?_,?_⟩ _ _
  ·show (c.dk++[z]).Nodup
   rw[mi];exact⟨h.al.1,by simp,λa aA b af e=>hm (by simp at af;subst af;exact e▸aA)⟩
  ·intro y a7;rcases h8.mp a7 with q|q
   ·exact h.al.2 y q
   ·simp at q;exact q▸au
def zH(p:bb)(z:Str)(c:a5):(gr p z c).told.length<=c.told.length+1:=by
 unfold gr tell l0;split <;> simp
def akI(p:bb)(c:a5)(z w:Str)(h:br p c)(au:z∈p.cF.map (·.1))(hw:cS w)(bp:c.told.length<big):zA [.obj .d8 0 (encC p c),.aa (.str z),.aa (.str w)]=some (.none,encC p (line p z w c)):=by
 have aw:=h.PL au;have PA:z∈c.lines.map (·.1):=by rw[h.ln];exact au
 have aN:=als (w:=w) PA;have aP:=dX hw (h.yL z);have bf:=dX hw (bT "shut");have dc:=dX (h.yL z) (bT "cut");have jB:=vc true (h.kl au) h.yM;simp at jB;have hlen:(iJ c.lines).length<16777216:=by
  have:=congrArg List.length h.ln;have:=h.gn;simp[iJ] at *;omega
 have hd:=ahQ p _ z w (h.Qd z hw) au hw bp;have bU:=rn p {c with lines:=n0 c.lines z w} "mended" z bp;simp only[zA,Q8,line];by_cases ah:w=pq c z
 ·simp! [h6,iD,aw,aP,ah,dX (h.yL z) (h.yL z)]
 ·by_cases ar:w="shut"
  ·subst ar;by_cases bk:pq c z="cut"
   ·simp! [h6,big,iD,aw,aN,aP,ah,bf,dc,bk,hlen,bU,dX (bT "cut") (bT "cut"),dX (bT "shut") (bT "shut"),dX (bT "shut") (bT "cut")]
   ·simp! [h6,big,iD,aw,aN,aP,ah,bf,dc,bk,hlen,dX (bT "shut") (bT "shut")]
  ·by_cases cB:z∈c.d2
   ·simp! [h6,big,iD,aw,aN,aP,ah,bf,ar,jB,cB,hlen]
   ·simp! [h6,big,iD,aw,aN,aP,ah,bf,ar,jB,cB,hlen,hd]
noncomputable def less(a n:Int):Int:=if 0 > a - n then 0 else a - n
noncomputable def ro(n:Int)(c:a5):a5:={c with past:=c.past+n,locked:=less c.locked n,hs:=less c.hs n,left:=less c.left n}
def ag3(a n:Int):an4 [.int a,.int n]=some (.int (less a n)):=by
 simp! [Kt,an4,RP,less]
def Ll(p:bb)(c:a5)(n:Int):uX [.obj .d8 0 (encC p c),.aa (.int n)]=some (.none,encC p (ro n c)):=by
 simp! [iz,uX,QQ,ag3,ro]
noncomputable def dk(p:bb)(zs:List Str)(c:a5):a5:=zs.foldl (λc z=>gr p z c) c
noncomputable def ll(p:bb)(c:a5):a5:=dk p (bare p ["inner","way"] (unop%Wj 0)) (unop%Wj 0)
noncomputable def qN(p:bb)(c:a5):a5:=gr p (c.hC.getD "") {c with mode:="on",hC:=none}
noncomputable def anx(p:bb)(c:a5):a5:=if c.mode="leaving" then ll p c else qN p c
noncomputable def fG(p:bb)(n:Int)(c:a5):a5:=
 if n<1 then c else if (c.mode="leaving"\/c.mode="coming")/\c.left<=n then ro (n - c.left) (anx p (ro c.left c)) else ro n c
theorem RQ(p:bb):∀(zs:List Str) (c:a5) (s1:Option aR),br p c->(∀z∈zs,z∈p.cF.map (·.1))->c.told.length+zs.length<big->∃sH,forL (bH 1) (dW (dS 0 anB 0 [(av 1)])) (zs.map .str) [some (.obj .d8 0 (encC p c)),s1]=some (.bG [some (.obj .d8 0 (encC p (dk p zs c))),sH])
| [],c,s1,_,_,_=>⟨s1,by simp[forL,dk]⟩
|z::zs,c,s1,h,au,bp=>by
  have PC:=au z (by simp);have ea:=D3 p c z h (h.kl PC) (by simp at bp;omega);have:=zH p z c;obtain⟨sH,bM⟩:=RQ p zs (gr p z c) (some (.aa (.str z))) (h.gr PC) (λy a7=>au y (dF _ a7)) (by simp at bp;omega);refine⟨sH,?_⟩;rw[c8,forL];simp! [p7,ea];simpa [c5,seq,iff,bO,gT,fk,gR,gP,ez,ofT,cX,aq,a3,args,ae,nm,av,b',skip,asg,gY,iH,par,bo,eF,g5,gE,aZ,eM,fs,bH,dH,gy,dV,comp,hS,dk] using bM
def D1{p:bb}{bj:List Str}{c:a5}{z:Str}(h:z∈bare p bj c):z∈p.cF.map (·.1):=by
 unfold bare at h;obtain⟨x,hx,rfl⟩:=d_.mp (List.mem_filter.mp h).1;exact d_.mpr ⟨x,(List.mem_filter.mp hx).1,rfl⟩
def S2(p:bb)(bj:List Str)(c:a5):(bare p bj c).length<=p.cF.length:=by
 unfold bare;have ah:=CT (λz=>decide (pq c z≠"shut") && !decide (z∈c.d2)) ((p.cF.filter λz=>decide (z.2∈bj)).map (·.1));have ar:=CT (λz:Str×Str=>decide (z.2∈bj)) p.cF;rw[f5] at ah;omega
theorem br.on{p:bb}{c:a5}(h:br p c)(x:Int):br p {c with mode:="on",left:=x}:=⟨h.zn,h.fl,h.gn,bT "on",h.ca,λe=>absurd e Lw,h.ln,h.lo,h.us,h.g7,h.al⟩
def Q3(p:bb)(c:a5)(h:br p c)(bp:c.told.length+50<big):uV [.obj .d8 0 (encC p c)]=some (.none,encC p (ll p c)):=by
 have m6:=(h.on 0).tell "on" none;have bU:=DE p {c with mode:="on",left:=0} "on" (by show c.told.length<big;omega);have d4:=Tw p (unop%Wj 0) ["inner","way"] .hr m6 (by
  intro k aL;simp at aL;rcases aL with rfl|rfl
  ·exact bT "inner"
  ·exact bT "way")
 have aI:=S2 p ["inner","way"] (unop%Wj 0);have au:=h.gn;obtain⟨sH,lp⟩:=RQ p (bare p ["inner","way"] (unop%Wj 0)) (unop%Wj 0) none m6 (λz au=>D1 au) (by
  have:(tell "on" none {c with mode:="on",left:=0}:a5).told.length=c.told.length+1:=by simp[tell]
  omega)
 simp only[mw,c8,jk] at d4;simp! [iz,uV,QO,bU,d4,ef];rw[lp];simp! [aeS,ll]
def br.P0{p:bb}{c:a5}(h:br p c):br p {c with mode:="on",hC:=none}:=⟨h.zn,h.fl,h.gn,bT "on",λz e=>(nomatch e),λe=>absurd e Lw,h.ln,h.lo,h.us,h.g7,h.al⟩
def agg(p:bb)(c:a5)(h:br p c)(ax:c.hC≠none)(bp:c.told.length<big):zj [.obj .d8 0 (encC p c)]=some (.none,encC p (qN p c)):=by
 obtain⟨z,au⟩:=Option.ne_none_iff_exists'.mp ax;have ea:=D3 p {c with mode:="on",hC:=none} z h.P0 (h.ca z au).1 bp;simp! [iz,zj,QP,au,hL,ea,qN]
def br.cd{p:bb}{c:a5}(h:br p c)(n:Int):br p (ro n c):=⟨h.zn,h.fl,h.gn,h.mo,h.ca,h.lh,h.ln,h.lo,h.us,h.g7,h.al⟩
def ag8(p:bb)(c:a5)(h:br p c)(hm:c.mode="leaving"\/c.mode="coming")(bp:c.told.length+50<big):wG [.obj .d8 0 (encC p c)]=some (.none,encC p (anx p c)):=by
 have eG:=Q3 p c h bp;have q:=dX h.mo (bT "leaving");rcases hm with hm|hm
 ·simp! [h6,wG,K_,hm,eG,anx,dX (bT "leaving") (bT "leaving")]
 ·have fp:=agg p c h (h.lh hm) (by omega);simp! [h6,wG,K_,hm,fp,anx,dX (bT "coming") (bT "leaving")]
def aja(p:bb)(c:a5)(n:Int)(h:br p c)(bp:c.told.length+50<big):sT [.obj .d8 0 (encC p c),.aa (.int n)]=some (.none,encC p (fG p n c)):=by
 have q:fc false (.str c.mode) (.tuple [.str "leaving",.str "coming"])=some (.bool (decide (c.mode="leaving"\/c.mode="coming"))):=by
  have:=DX false (n:=c.mode) (ns:=["leaving","coming"]) h.mo (by
   intro k aL;simp at aL;rcases aL with rfl|rfl
   ·exact bT "leaving"
   ·exact bT "coming")
  simpa using this
 have eG:=Ll p c c.left;have gK:=Ll p c n;by_cases ah:n<1
 ·simp! [jG,sT,zy,ah,fG]
 ·by_cases ar:c.mode="leaving"\/c.mode="coming"
  ·by_cases bk:c.left<=n
   ·have fp:=ag8 p (ro c.left c) (h.cd _) ar bp;have nH:=Ll p (anx p (ro c.left c)) (n - c.left);rw[decide_eq_true ar] at q;simp only[fG,if_neg ah,if_pos (And.intro ar bk)];simp! [jG,sT,zy,ah,q,bk,eG,fp,nH]
   ·rw[decide_eq_true ar] at q;simp only[fG,if_neg ah,if_neg (λz:(c.mode="leaving"\/c.mode="coming")/\c.left<=n=>bk z.2)];simp! [jG,sT,zy,ah,q,bk,gK]
  ·rw[decide_eq_false ar] at q;simp only[fG,if_neg ah,if_neg (λz:(c.mode="leaving"\/c.mode="coming")/\c.left<=n=>ar z.1)];simp! [jG,sT,zy,ah,q,gK]
noncomputable def z0(k:ik)(c:a5):Bool:=decide (k.uses≠0) && decide (k.uses<=TL c k.fK)
noncomputable def o9(c:a5):a5:={tell "wrong" none c with tries:=c.tries+1}
noncomputable def ko(p:bb)(c:a5):a5:=if 3<=c.tries+1 then tell "attack" none (l0 p {o9 c with tries:=0,locked:=90}) else o9 c
noncomputable def nr(p:bb)(d:Str)(z:Option Str)(c:a5):Bool:=
 if d="unset" then false else if c.mode≠"off" then true
 else if d="shunt" then decide (kindOf p (z.getD "")="day") || decide (z.getD ""∈c.d2)
 else decide (d="free") && !decide (z.getD ""∈c.d2)
noncomputable def anF(p:bb)(k:ik)(d:Str)(z:Option Str)(c:a5):Option (Str×Str):=
 if (if d="free" then ("shunt":Str) else d)∉k.nZ then some ("denied",k.j1)
 else if nr p d z c then some ("no",k.j1)
 else if d="set"/\bare p ["day","once"] c≠[] then some ("open",(bare p ["day","once"] c).headD "") else none
noncomputable def pM(p:bb)(j1:Str)(c:a5):a5:=
 let cT:=tell "set" (some j1) {c with dk:=[],hs:=0,mode:="leaving",left:=p.leave}
 if p.leave<=0 then ll p cT else cT
noncomputable def tU(j1:Str)(c:a5):a5:=tell "unset" (some j1) {c with mode:="off",left:=0,hs:=0,hC:=none,d2:=[]}
noncomputable def iq(p:bb)(j1 d:Str)(z:Option Str)(c:a5):a5:=
 if d="set" then pM p j1 c else if d="unset" then tU j1 c
 else if d="shunt" then tell "shunt" z {c with d2:=k7 (c.d2++[z.getD ""])}
 else tell "free" z {c with d2:=c.d2.erase (z.getD "")}
noncomputable def takeRight(p:bb)(k:ik)(d:Str)(z:Option Str)(c:a5):a5:=match anF p k d z c with
|none=>iq p k.j1 d z {c with used:=rV c.used k.fK}
|some (w,n)=>tell w (some n) c
noncomputable def code(p:bb)(f d:Str)(z:Option Str)(c:a5):a5:=
 if 0<c.locked then tell "locked" none c else match z_ p f with
  |none=>ko p c
  |some k=>if z0 k c then ko p c else takeRight p k d z {c with tries:=0}
def ahh(p:bb)(c:a5)(k:ik)(h:br p c)(aL:k∈p.codes)(m:jq):wD [.obj m 0 (encC p c),.aa (dY k)]=some (.bool (z0 k c)):=by
 have e:getD (gv c.used) (.inr k.fK)=some (.int (TL c k.fK)):=M5 (by rw[h.us];exact d_.mpr ⟨k,aL,rfl⟩);have q:h5 (.int k.uses) (.int 0)=some (.bool (!decide (k.uses=0))):=by
  unfold h5;rw[vg,vg];by_cases e:k.uses=0 <;> simp[f6,e]
 by_cases ah:k.uses=0
 ·simp! [jG,wD,K7,dY,q,ah,rX,z0];simp[h5,vg,f6]
 ·simp! [jG,wD,K7,dY,q,ah,rX,z0,iD,e]
def af_(p:bb)(c:a5)(bp:c.told.length+2<big):wB [.obj .d8 0 (encC p c)]=some (.none,encC p (ko p c)):=by
 have eG:=DE p c "wrong" (by omega);have fp:=LL p {o9 c with tries:=0,locked:=90};have gK:=DE p (l0 p {o9 c with tries:=0,locked:=90}) "attack" (by simp[l0,o9,tell];omega);have w:({mode:=(tell "wrong" none c).mode,left:=(tell "wrong" none c).left,hC:=(tell "wrong" none c).hC,lines:=(tell "wrong" none c).lines,d2:=(tell "wrong" none c).d2,hs:=(tell "wrong" none c).hs,dk:=(tell "wrong" none c).dk,tries:=c.tries+1,locked:=(tell "wrong" none c).locked,used:=(tell "wrong" none c).used,past:=(tell "wrong" none c).past,told:=(tell "wrong" none c).told}:a5)=o9 c:=rfl;have KL:(tell "wrong" none c).tries=c.tries:=rfl;by_cases bk:3<=c.tries+1
 ·simp! [jG,wB,K5,eG,KL,bk,ko];simp[o9] at fp gK ⊢;simp[fp,gK]
 ·simp! [jG,wB,K5,eG,KL,bk,ko,o9]
end cg
section
namespace cg
open D PySem
def br.yK{p:bb}{c:a5}(h:br p c)(z:Str):cS (kindOf p z):=by
 unfold kindOf;cases e:p.cF.find? λx=>decide (x.1=z) with
|none=>exact bT ""
|some x=>exact (h.zn x (List.mem_of_find?_eq_some e)).2
def mu:(2<=big)=True:=by simp[big]
def Sw:(10<=big)=True:=by simp[big]
noncomputable def l'(p:bb)(d:Str)(z:Option Str):Prop:=(d="shunt"\/d="free")->∃x,z=some x/\x∈p.cF.map (·.1)
def af6(p:bb)(c:a5)(d:Str)(z:Option Str)(m:jq)(h:br p c)(hd:cS d)(au:l' p d z):qi [.obj m 0 (encC p c),.aa (.str d),.aa (hL z)]=some (.bool (nr p d z c)):=by
 have aP:=dX hd (bT "unset");have bf:=qm h.mo (bT "off");have dc:=dX hd (bT "shunt");have jB:=dX hd (bT "free");by_cases ah:d="unset"
 ·simp! [iz,qi,uW,aP,ah,nr];simp[dX (bT "unset") (bT "unset")]
 ·by_cases ar:c.mode="off"
  ·by_cases bk:d="shunt"
   ·obtain⟨x,rfl,hx⟩:=au (.inl bk);subst bk;have gb:=RE h.zn hx;have uA:=dX (h.yK x) (bT "day");have sE:=vc false (h.kl hx) h.yM;simp at sE;by_cases cB:kindOf p x="day"
    ·simp! [h6,qi,uW,aP,ah,ar,qm (bT "off") (bT "off"),dc,yN,hL,gb,uA,sE,cB,nr];simp[dX (bT "day") (bT "day")]
    ·simp! [h6,qi,uW,aP,ah,ar,qm (bT "off") (bT "off"),dc,yN,hL,gb,uA,sE,cB,nr]
   ·by_cases cB:d="free"
    ·obtain⟨x,rfl,hx⟩:=au (.inr cB);subst cB;have sE:=vc true (h.kl hx) h.yM;simp at sE;simp! [h6,qi,uW,aP,ar,qm (bT "off") (bT "off"),dc,jB,rX,hL,sE,nr]
    ·simp! [h6,qi,uW,aP,ah,ar,qm (bT "off") (bT "off"),dc,bk,jB,cB,rX,nr]
  ·simp! [iz,qi,uW,aP,ah,bf,ar,nr]
noncomputable def anT:Option (Str×Str)->T
|none=>.none
|some (w,n)=>.tuple [.str w,.str n]
def afH(p:bb)(c:a5)(k:ik)(d:Str)(z:Option Str)(m:jq)(h:br p c)(aL:k∈p.codes)(hd:cS d)(au:l' p d z):zh [.obj m 0 (encC p c),.aa (dY k),.aa (.str d),.aa (hL z)]=some (anT (anF p k d z c)):=by
 have aP:=dX hd (bT "free");have bf:=dX hd (bT "set");have gc:=af6 p c d z .hr h hd au;have d4:=Tw p c ["day","once"] .hr h (by
  intro k aL;simp at aL;rcases aL with rfl|rfl
  ·exact bT "day"
  ·exact bT "once")
 simp only[mw,c8,jk] at d4;have dc:=DX true (n:=if d="free" then ("shunt":Str) else d) (ns:=k.nZ) (by
  split
  ·exact bT "shunt"
  ·exact hd) (h.fl k aL).2.2
 simp at dc;have qr:(p1 (bO (aq oEq (nm 2) (ae (.str "free")))) (ae (.str "shunt")) (av 2)) [some (.obj m 0 (encC p c)),some (.aa (dY k)),some (.aa (.str d)),some (.aa (hL z)),none,none]=some (.str (if d="free" then ("shunt":Str) else d)):=by
  by_cases h0:d="free"
  ·simp! [p7,aP,h0,dX (bT "free") (bT "free")]
  ·simp! [p7,aP,h0]
 simp only[zh,QJ,lG,kZ,seq,asg,c8,jk,fy,n_,d5,rf,rd,qr,eb,cz,jl,i1];generalize ay:(if d="free" then ("shunt":Str) else d)=r at dc ⊢;unfold anF;rw[ay];by_cases ah:r∈k.nZ
 ·by_cases ar:nr p d z c=true
  ·simp! [iz,dY,mu,dc,ah,gc,ar,anT]
  ·simp at ar;by_cases bk:d="set"
   ·subst bk;cases e:bare p ["day","once"] c with
    |nil=>
     rw[e] at d4;simp! [iz,dY,mu,dc,ah,gc,ar,d4,bf,anT]
    |cons b bs=>
     rw[e] at d4;simp! [iz,dY,mu,dc,ah,gc,ar,d4,bf,anT]
   ·simp! [iz,dY,mu,dc,ah,gc,ar,d4,bf,bk,anT]
 ·simp! [iz,dY,mu,dc,ah,anT]
def br.Cv{p:bb}{c:a5}(h:br p c)(x:Int):br p {c with dk:=[],hs:=0,mode:="leaving",left:=x}:=⟨h.zn,h.fl,h.gn,bT "leaving",h.ca,λe=>absurd e QV,h.ln,h.lo,h.us,h.g7,by simp⟩
def aiU(p:bb)(c:a5)(w:Str)(h:br p c)(bp:c.told.length+60<big):wH [.obj .d8 0 (encC p c),.aa (.str w)]=some (.none,encC p (pM p w c)):=by
 have eG:=rn p {c with dk:=[],hs:=0,mode:="leaving",left:=p.leave} "set" w (by show c.told.length<big;omega);have fp:=Q3 p (tell "set" (some w) {c with dk:=[],hs:=0,mode:="leaving",left:=p.leave}) ((h.Cv p.leave).tell _ _) (by
  have:(tell "set" (some w) {c with dk:=[],hs:=0,mode:="leaving",left:=p.leave}:a5).told.length=c.told.length+1:=by simp[tell]
  omega)
 have lf:(tell "set" (some w) {c with dk:=[],hs:=0,mode:="leaving",left:=p.leave}:a5).left=p.leave:=rfl;by_cases ah:p.leave<=0
 ·simp! [jG,wH,Lf,cA,eG,lf,ah,fp,pM]
 ·simp! [jG,wH,Lf,cA,eG,lf,ah,pM]
def ag9(p:bb)(c:a5)(w:Str)(bp:c.told.length<big):zm [.obj .d8 0 (encC p c),.aa (.str w)]=some (.none,encC p (tU w c)):=by
 have eG:=rn p {c with mode:="off",left:=0,hs:=0,hC:=none,d2:=[]} "unset" w bp;simp! [jG,zm,QT,eG,tU]
theorem LF:∀l:List Str,vl (l.map .str)=some l
| []=>rfl
|x::l=>by simp[vl,LF l]
noncomputable def Cd(p:bb)(d:Str)(z:Option Str)(c:a5):Prop:=d="set"\/d="unset"\/(d="shunt"/\∃x,z=some x/\x∈p.cF.map (·.1))\/(d="free"/\∃x,z=some x/\x∈c.d2)
def ahO(p:bb)(c:a5)(w d:Str)(z:Option Str)(h:br p c)(hd:cS d)(au:Cd p d z c)(bp:c.told.length+60<big):sR [.obj .d8 0 (encC p c),.aa (.str w),.aa (.str d),.aa (hL z)]=some (.none,encC p (iq p w d z c)):=by
 have aP:=dX hd (bT "set");have bf:=dX hd (bT "unset");have dc:=dX hd (bT "shunt");have es:=aiU p c w h bp;have gc:=ag9 p c w (by omega);rcases au with rfl|rfl|⟨rfl,x,rfl,hx⟩|⟨rfl,x,rfl,hx⟩
 ·simp! [iz,sR,zr,aP,es,iq]
 ·simp! [h6,sR,zr,aP,bf,gc,iq]
 ·have aI:=h.Qf;have eG:=rn p {c with d2:=k7 (c.d2++[x])} "shunt" x (by show c.told.length<big;omega);have b6:c.d2.length+1<=big:=by unfold big;omega
  have b7:c.d2.length+1<64:=by omega
  have gH:1<=big:=by decide
  have dO:=LF (c.d2++[x]);simp at dO;simp! [h6,sR,zr,aP,bf,dc,hL,b4,gH,b6,b7,DW,dO,eG,iq]
 ·have eG:=rn p {c with d2:=c.d2.erase x} "free" x (by show c.told.length<big;omega);simp! [h6,sR,zr,aP,bf,dc,hL,Co,LF,hx,eG,iq]
structure Wp(p:bb):Prop where
 cd:(p.codes.map (·.fK)).Nodup
 zd:(p.cF.map (·.1)).Nodup
 cl:p.codes.length<=40
 KL:0<=p.leave/\0<=p.qI/\0<=p.loud
def br.add{p:bb}{c:a5}(h:br p c)(f:Str):br p {c with used:=rV c.used f}:=⟨h.zn,h.fl,h.gn,h.mo,h.ca,h.lh,h.ln,h.lo,(ai6 _ _).trans h.us,h.g7,h.al⟩
def br.CH{p:bb}{c:a5}(h:br p c)(n:Int):br p {c with tries:=n}:=⟨h.zn,h.fl,h.gn,h.mo,h.ca,h.lh,h.ln,h.lo,h.us,h.g7,h.al⟩
def MY{p:bb}{c:a5}{k:ik}{d:Str}{z:Option Str}(hd:d="set"\/d="unset"\/d="shunt"\/d="free")(au:l' p d z)(aA:anF p k d z c=none):Cd p d z c:=by
 rcases hd with rfl|rfl|rfl|rfl
 ·exact .inl rfl
 ·exact .inr (.inl rfl)
 ·exact .inr (.inr (.inl ⟨rfl,au (.inl rfl)⟩))
 ·refine .inr (.inr (.inr ⟨rfl,?_⟩))
  obtain⟨x,rfl,hx⟩:=au (.inr rfl);refine⟨x,rfl,?_⟩;refine Classical.byContradiction λb1=>?_;have:nr p "free" (some x) c=true:=by
   by_cases hm:c.mode="off" <;> simp[nr,Dr,Ds,b1,hm]
  unfold anF at aA;rw[this] at aA;by_cases ay:(if ("free":Str)="free" then ("shunt":Str) else "free")∈k.nZ
  ·rw[if_neg (λq=>q ay),if_pos rfl] at aA;cases aA
  ·rw[if_pos ay] at aA;cases aA
def af'(p:bb)(c:a5)(k:ik)(d:Str)(z:Option Str)(h:br p c)(aM:Wp p)(aL:k∈p.codes)(hd:d="set"\/d="unset"\/d="shunt"\/d="free")(au:l' p d z)(bp:c.told.length+60<big):wC [.obj .d8 0 (encC p c),.aa (dY k),.aa (.str d),.aa (hL z)]=some (.none,encC p (takeRight p k d z c)):=by
 have eB:cS d:=by
  rcases hd with rfl|rfl|rfl|rfl
  ·exact bT "set"
  ·exact bT "unset"
  ·exact bT "shunt"
  ·exact bT "free"
 have ea:=afH p c k d z .hr h aL eB au;have nS:k.fK∈c.used.map (·.1):=by rw[h.us];exact d_.mpr ⟨k,aL,rfl⟩
 cases e:anF p k d z c with
|none=>
  have anz:=MY hd au e;have g1:=M5 nS;have g2:=alu nS (by rw[h.us];exact aM.cd);have aI:(gv c.used).length<big:=by
   have:=congrArg List.length h.us;have:=aM.cl;simp[gv] at *;unfold big;omega
  have gw:=ahO p {c with used:=rV c.used k.fK} k.j1 d z (h.add _) eB anz bp;rw[e] at ea;simp only[dY] at ea;simp! [iz,wC,K6,ea,anT,dY,iD,g1,g2,aI,gw,takeRight,e]
|some wn=>
  obtain⟨w,n⟩:=wn;have bU:=rn p c w n (by omega);rw[e] at ea;simp only[dY] at ea;simp! [iz,wC,K6,ea,anT,dY,bU,takeRight,e]
def RN{p:bb}{f:Str}{k:ik}(h:z_ p f=some k):k∈p.codes:=List.mem_of_find?_eq_some h
def ak2(p:bb)(c:a5)(f d:Str)(z:Option Str)(h:br p c)(aM:Wp p)(hf:cS f)(hd:d="set"\/d="unset"\/d="shunt"\/d="free")(au:l' p d z)(bp:c.told.length+60<big):sU [.obj .d8 0 (encC p c),.aa (.str f),.aa (.str d),.aa (hL z)]=some (.none,encC p (code p f d z c)):=by
 have fa:=ahT (λk aL=>(h.fl k aL).1) hf;have bU:=DE p c "locked" (by omega);have oM:=af_ p c (by omega);by_cases ah:0<c.locked
 ·simp! [jG,sU,zB,fa,ah,bU,code]
 ·cases e:z_ p f with
  |none=>
   rw[e] at fa;simp! [jG,sU,zB,fa,vM,ah,oM,code,e]
  |some k=>
   rw[e] at fa;have aL:=RN e;have gc:=ahh p c k h aL .hr;have iM:=af' p {c with tries:=0} k d z (h.CH 0) aM aL hd au bp;cases ar:z0 k c with
   |true=>
    rw[ar] at gc;simp! [jG,sU,zB,fa,vM,ah,gc,dY] at gc ⊢;simp[gc,oM,code,e,ah,ar]
   |false=>
    rw[ar] at gc;simp! [jG,sU,zB,fa,vM,ah,gc,dY] at gc iM ⊢;simp! [aeT,gc,iM,code,e,ah,ar]
inductive iG where
|line (z w:Str)
|code (f d:Str) (z:Option Str)
|fG (n:Int)
noncomputable def fY:iG->T
|.line z w=>.tuple [.str "line",.str z,.str w]
|.code f d z=>.tuple [.str "code",.str f,.str d,hL z]
|.fG n=>.tuple [.str "ticks",.int n]
noncomputable def l_(p:bb):iG->Prop
|.line z w=>z∈p.cF.map (·.1)/\(w="shut"\/w="open"\/w="cut")
|.code f d z=>cS f/\(d="set"\/d="unset"\/d="shunt"\/d="free")/\l' p d z
|.fG n=>1<=n
noncomputable def kd(p:bb)(c:a5):iG->a5
|.line z w=>line p z w c
|.code f d z=>code p f d z c
|.fG n=>fG p n c
def aiN(p:bb)(c:a5)(e:iG)(h:br p c)(aM:Wp p)(he:l_ p e)(bp:c.told.length+60<big):sS [.obj .d8 0 (encC p c),.aa (fY e)]=some (.none,encC p (kd p c e)):=by
 have q (x y:Str) (hx:cS x) (a7:cS y):=dX hx a7;cases e with
|line z w=>
  have gB:cS w:=by
   rcases he.2 with rfl|rfl|rfl
   ·exact bT "shut"
   ·exact bT "open"
   ·exact bT "cut"
  have jt:=akI p c z w h he.1 gB (by omega);simp! [iz,sS,Dd,fY,dX (bT "line") (bT "line"),jt,kd]
|code f d z=>
  have jt:=ak2 p c f d z h aM he.1 he.2.1 he.2.2 bp;simp! [h6,sS,Dd,fY,dX (bT "code") (bT "line"),dX (bT "code") (bT "code"),jt,kd]
|fG n=>
  have jt:=aja p c n h (by omega);simp! [h6,sS,Dd,fY,dX (bT "ticks") (bT "line"),dX (bT "ticks") (bT "code"),jt,kd]
end cg
end
section
namespace cg
open D PySem
local instance:cD:=⟨[],λ_=>[],λ_=>none⟩
def nj(w:Str)(n:Option Str)(c:a5):(tell w n c).told.length=c.told.length+1:=by simp[tell]
theorem br.W8{p:bb}{c:a5}(h:br p c)(x:Int){z:Str}(au:z∈p.cF.map (·.1)):br p {c with mode:="coming",left:=x,hC:=some z}:=
 ⟨h.zn,h.fl,h.gn,bT "coming",λy e=>fN e▸⟨h.kl au,au⟩,λ_ e=>(nomatch e),h.ln,h.lo,h.us,h.g7,h.al⟩
theorem br.lj{p:bb}{c:a5}(h:br p c){z:Str}(k:Str)(au:z∈p.cF.map (·.1)):br p (lj p z k c):=by
 unfold cg.lj;split
 ·exact h.gr au
 ·exact (h.W8 p.qI au).tell _ _
def aha(p:bb)(z k:Str)(c:a5):(lj p z k c).told.length<=c.told.length+1:=by
 unfold cg.lj;split
 ·exact zH p z c
 ·rw[nj];exact dy _
theorem br.mM{p:bb}{c:a5}(h:br p c){z:Str}(w:Str)(au:z∈p.cF.map (·.1)):br p (mM p z w c):=by
 unfold cg.mM
 repeat' split
 all_goals first|exact h.gr au|exact h.tell _ _|exact h.lj _ au|exact h
def agD(p:bb)(z w:Str)(c:a5):(mM p z w c).told.length<=c.told.length+1:=by
 unfold cg.mM
 repeat' split
 all_goals first|exact zH p z c|exact aha p z _ c|(rw[nj];exact dy _)|omega
theorem br.line{p:bb}{c:a5}(h:br p c){z w:Str}(au:z∈p.cF.map (·.1))(hw:cS w):br p (line p z w c):=by
 have h':=h.Qd z hw;unfold cg.line
 repeat' split
 all_goals first|exact h|exact h'|exact h'.tell _ _|exact h'.mM _ au
def aiA(p:bb)(z w:Str)(c:a5):(line p z w c).told.length<=c.told.length+1:=by
 unfold cg.line
 repeat' split
 all_goals first|omega|(rw[nj];exact dy _)|exact agD p z w {c with lines:=n0 c.lines z w}|exact qd _
theorem br.dk{p:bb}:∀{zs:List Str} {c:a5},br p c->(∀z∈zs,z∈p.cF.map (·.1))->br p (cg.dk p zs c)
| [],_,h,_=>h
|z::zs,c,h,au=>br.dk (zs:=zs) (h.gr (au z fg)) λy a7=>au y (dF _ a7)
theorem Rr(p:bb):∀(zs:List Str) (c:a5),(cg.dk p zs c).told.length<=c.told.length+zs.length
| [],c=>dy _
|z::zs,c=>by
  have ah:=Rr p zs (gr p z c);have ar:=zH p z c;simp only[fy];show (cg.dk p zs (gr p z c)).told.length<=_;omega
theorem br.ll{p:bb}{c:a5}(h:br p c):br p (ll p c):=br.dk ((h.on 0).tell _ _) λz au=>D1 au
def QZ{p:bb}{c:a5}(h:br p c):(ll p c).told.length<=c.told.length+41:=by
 have ah:=Rr p (bare p ["inner","way"] (unop%Wj 0)) (unop%Wj 0);have ar:=S2 p ["inner","way"] (unop%Wj 0);have bk:=h.gn;rw[nj] at ah;show (cg.dk p _ _).told.length<=_;have cB:({c with mode:="on",left:=0}:a5).told.length=c.told.length:=rfl;omega
theorem br.qN{p:bb}{c:a5}(h:br p c)(ax:c.hC≠none):br p (qN p c):=by
 obtain⟨z,au⟩:=Option.ne_none_iff_exists'.mp ax;unfold cg.qN;rw[au];exact h.P0.gr (h.ca z au).2
def af7(p:bb)(c:a5):(qN p c).told.length<=c.told.length+1:=zH _ _ _
theorem br.anx{p:bb}{c:a5}(h:br p c)(hm:c.mode="leaving"\/c.mode="coming"):br p (anx p c):=by
 unfold cg.anx;split
 ·exact h.ll
 next q=>exact h.qN (h.lh (hm.resolve_left q))
def agC{p:bb}{c:a5}(h:br p c):(anx p c).told.length<=c.told.length+41:=by
 unfold cg.anx;split
 ·exact QZ h
 ·have:=af7 p c;omega
theorem br.fG{p:bb}{c:a5}(h:br p c)(n:Int):br p (fG p n c):=by
 unfold cg.fG;split
 ·exact h
 ·split
  next q=>exact ((h.cd _).anx q.1).cd _
  ·exact h.cd _
def ahm{p:bb}{c:a5}(h:br p c)(n:Int):(fG p n c).told.length<=c.told.length+41:=by
 unfold cg.fG;split
 ·omega
 ·split
  ·exact agC (h.cd c.left)
  ·exact lP _ _
theorem br.ko{p:bb}{c:a5}(h:br p c):br p (ko p c):=by
 unfold cg.ko;split
 ·exact br.tell (br.loud (c:={o9 c with tries:=0,locked:=90}) ⟨h.zn,h.fl,h.gn,h.mo,h.ca,h.lh,h.ln,h.lo,h.us,h.g7,h.al⟩) _ _
 ·exact⟨h.zn,h.fl,h.gn,h.mo,h.ca,h.lh,h.ln,h.lo,h.us,h.g7,h.al⟩
def af1(p:bb)(c:a5):(ko p c).told.length<=c.told.length+2:=by
 unfold cg.ko;split
 ·rw[nj];show (tell _ _ c).told.length+1<=_;rw[nj];exact dy _
 ·show (tell _ _ c).told.length<=_
  rw[nj];omega
theorem br.pM{p:bb}{c:a5}(h:br p c)(w:Str):br p (pM p w c):=by
 unfold cg.pM;have h':=(h.Cv p.leave).tell "set" (some w);show br p (if p.leave<=0 then _ else _);split
 ·exact h'.ll
 ·exact h'
def ahP{p:bb}{c:a5}(h:br p c)(w:Str):(pM p w c).told.length<=c.told.length+42:=by
 unfold cg.pM;have h':=(h.Cv p.leave).tell "set" (some w);have e:=nj "set" (some w) {c with dk:=[],hs:=0,mode:="leaving",left:=p.leave};have bx:({c with dk:=[],hs:=0,mode:="leaving",left:=p.leave}:a5).told.length=c.told.length:=rfl;show (if p.leave<=0 then ll p _ else _:a5).told.length<=_;split
 ·have:=QZ h';omega
 ·omega
theorem br.tU{p:bb}{c:a5}(h:br p c)(w:Str):br p (tU w c):=
 ⟨h.zn,h.fl,h.gn,bT "off",λz e=>(nomatch e),λe=>absurd e Lq,h.ln,h.lo,h.us,by simp[cg.tU,cg.tell],h.al⟩
theorem br.iq{p:bb}{c:a5}(h:br p c)(w:Str){d:Str}{z:Option Str}(au:Cd p d z c)(bc:d="shunt"->z.getD ""∉c.d2):br p (iq p w d z c):=by
 rcases au with rfl|rfl|⟨rfl,x,rfl,hx⟩|⟨rfl,x,rfl,hx⟩
 ·simp only[cg.iq,if_true];exact h.pM w
 ·simp only[cg.iq,if_neg Lu,if_true];exact h.tU w
 ·simp only[cg.iq,if_neg Lv,if_neg Dm,if_true];refine br.tell (c:={c with d2:=k7 (c.d2++[x])}) ⟨h.zn,h.fl,h.gn,h.mo,h.ca,h.lh,h.ln,h.lo,h.us,⟨?_,?_⟩,h.al⟩ _ _
  ·show (k7 (c.d2++[x])).Nodup
   rw[(wJ _).nodup_iff,mi];refine⟨h.g7.1,by simp,λa aA b af e=>?_⟩;simp at af;exact bc rfl (by show x∈_;exact af▸e▸aA)
  ·intro y a7;have By:=(wJ _).mem_iff.mp a7;rcases h8.mp By with q|q
   ·exact h.g7.2 y q
   ·simp at q;exact q▸hx
 ·simp only[cg.iq,if_neg LJ,if_neg Dr,if_neg Ds];refine br.tell (c:={c with d2:=c.d2.erase x}) ⟨h.zn,h.fl,h.gn,h.mo,h.ca,h.lh,h.ln,h.lo,h.us,⟨?_,?_⟩,h.al⟩ _ _
  ·exact h.g7.1.erase x
  ·exact λy a7=>h.g7.2 y (List.mem_of_mem_erase a7)
def ag_{p:bb}{c:a5}(h:br p c)(w d:Str)(z:Option Str):(iq p w d z c).told.length<=c.told.length+42:=by
 unfold cg.iq;split
 ·exact ahP h w
 ·split
  ·show (tell _ _ _).told.length<=_
   rw[nj];show c.told.length+1<=_;omega
  ·split
   ·rw[nj];show c.told.length+1<=_;omega
   ·rw[nj];show c.told.length+1<=_;omega
def agi{p:bb}{c:a5}{k:ik}{z:Option Str}(aA:anF p k "shunt" z c=none):z.getD ""∉c.d2/\c.mode="off"/\kindOf p (z.getD "")≠"day":=by
 have b1:nr p "shunt" z c≠true:=by
  intro q;unfold anF at aA;rw[q] at aA;by_cases ay:(if ("shunt":Str)="free" then ("shunt":Str) else "shunt")∈k.nZ
  ·rw[if_neg (λq=>q ay),if_pos rfl] at aA;cases aA
  ·rw[if_pos ay] at aA;cases aA
 unfold nr at b1;rw[if_neg Dm] at b1;by_cases hm:c.mode="off"
 ·rw[if_neg (λq=>q hm),if_pos rfl] at b1;simp at b1;exact⟨b1.2,hm,b1.1⟩
 ·rw[if_pos hm] at b1;exact absurd rfl b1
theorem br.takeRight{p:bb}{c:a5}(h:br p c)(k:ik){d:Str}{z:Option Str}(hd:d="set"\/d="unset"\/d="shunt"\/d="free")(au:l' p d z):br p (takeRight p k d z c):=by
 unfold cg.takeRight;split
 next e=>
  refine (h.add _).iq _ (MY hd au e) λq=>?_
  subst q;exact (agi e).1
 ·exact h.tell _ _
def af2{p:bb}{c:a5}(h:br p c)(k:ik)(d:Str)(z:Option Str):(takeRight p k d z c).told.length<=c.told.length+42:=by
 unfold cg.takeRight;split
 ·exact ag_ (h.add k.fK) _ _ _
 ·rw[nj];omega
theorem br.code{p:bb}{c:a5}(h:br p c)(f:Str){d:Str}{z:Option Str}(hd:d="set"\/d="unset"\/d="shunt"\/d="free")(au:l' p d z):br p (code p f d z c):=by
 unfold cg.code;split
 ·exact h.tell _ _
 ·split
  ·exact h.ko
  ·split
   ·exact h.ko
   ·exact (h.CH 0).takeRight _ hd au
def aiW{p:bb}{c:a5}(h:br p c)(f d:Str)(z:Option Str):(code p f d z c).told.length<=c.told.length+42:=by
 have:=af1 p c;unfold cg.code;split
 ·rw[nj];omega
 ·split
  ·omega
  ·split
   ·omega
   ·exact af2 (h.CH 0) _ _ _
def amB{p:bb}{z w:Str}(he:l_ p (.line z w)):cS w:=by
 rcases he.2 with rfl|rfl|rfl
 ·exact bT "shut"
 ·exact bT "open"
 ·exact bT "cut"
theorem br.kd{p:bb}{c:a5}(h:br p c){e:iG}(he:l_ p e):br p (kd p c e):=by
 cases e with
|line z w=>exact h.line he.1 (amB he)
|code f d z=>exact h.code f he.2.1 he.2.2
|fG n=>exact h.fG n
def Rn{p:bb}{c:a5}(h:br p c)(e:iG):(kd p c e).told.length<=c.told.length+50:=by
 cases e with
|line z w=>have:=aiA p z w c;show (line p z w c).told.length<=_;omega
|code f d z=>have:=aiW h f d z;show (code p f d z c).told.length<=_;omega
|fG n=>have:=ahm h n;show (fG p n c).told.length<=_;omega
noncomputable def run(p:bb)(c:a5)(es:List iG):a5:=es.foldl (kd p) c
noncomputable def fresh(c:a5):a5:={c with past:=0,told:=[]}
theorem br.fresh{p:bb}{c:a5}(h:br p c):br p (fresh c):=⟨h.zn,h.fl,h.gn,h.mo,h.ca,h.lh,h.ln,h.lo,h.us,h.g7,h.al⟩
theorem br.run{p:bb}:∀{es:List iG} {c:a5},br p c->(∀e∈es,l_ p e)->br p (run p c es)
| [],_,h,_=>h
|e::es,c,h,he=>br.run (es:=es) (h.kd (he e fg)) λy a7=>he y (dF _ a7)
theorem Mc{p:bb}:∀{es:List iG} {c:a5},br p c->(∀e∈es,l_ p e)->(run p c es).told.length<=c.told.length+50*es.length
| [],_,_,_=>dy _
|e::es,c,h,he=>by
  have ah:=Mc (es:=es) (h.kd (he e fg)) λy a7=>he y (dF _ a7);have ar:=Rn h e;show (run p (kd p c e) es).told.length<=_;simp only[fy];omega
noncomputable def ee(c:a5):T:=.tuple [.str c.mode,.int c.left,hL c.hC,.tuple (c.lines.map λl=>.str l.2),.tuple (c.d2.map .str),.int c.hs,.tuple (c.dk.map .str),.int c.tries,.int c.locked,.tuple (c.used.map λu=>.int u.2)]
theorem TF:∀(bj:List Str) (l:List (Str×Str)),l.map (·.1)=bj->tu (bj.map .str) (l.map λl=>.str l.2)=some (iJ l)
| [],[],_=>rfl
| [],_::_,h=>by cases h
|_::_,[],h=>by cases h
|k::bj,x::l,h=>by
  simp at h;simp[tu,iD,TF bj l h.2,iJ,h.1]
theorem TG:∀(bj:List Str) (l:List (Str×Int)),l.map (·.1)=bj->tu (bj.map .str) (l.map λl=>.int l.2)=some (gv l)
| [],[],_=>rfl
| [],_::_,h=>by cases h
|_::_,[],h=>by cases h
|k::bj,x::l,h=>by
  simp at h;simp[tu,iD,TG bj l h.2,gv,h.1]
def R2{l:List Str}(h:l.Nodup):(l.map (Sum.inr:Str->D.Key)).Nodup:=by
 rw[List.nodup_iff_pairwise_ne,List.pairwise_map];exact (List.nodup_iff_pairwise_ne.mp h).imp λq e=>q (Sum.inr.inj e)
def akK(l:List (Str×Str)):(iJ l).map (·.1)=(l.map (·.1)).map Sum.inr:=by simp[iJ,pa]
def akL(l:List (Str×Int)):(gv l).map (·.1)=(l.map (·.1)).map Sum.inr:=by simp[gv,pa]
def Mj{α:Type}(enc:α->T)(g:α->T)(caps:Ev)(ts:List α)(s0:Option aR)(h:∀a∈ts,(unop%Wd 0) (some (.aa (enc a))::caps)=some (g a)):hg (bH 0) (ez true) (unop%Wd 0) (ts.map enc) (s0::caps)=some (ts.map g):=by
 have:=xh (cc:=ez true) (hD:=aq aZ (nm 0) (ae (.int 0))) (caps:=caps) enc (λ_=>true) g ts s0 λa aA=>⟨rfl,λ_=>h a aA⟩;rw[List.filter_eq_self.mpr (λ_ _=>rfl)] at this;exact this
def akP(p:bb)(c:a5)(h:br p c)(aM:Wp p):zo [.obj .d8 0 [],.aa (cA p),.aa (ee c)]=some (.none,encC p (fresh c)):=by
 have au:=h.gn;have ax:=aM.cl;have cT:=Mj eV (λz=>.str z.1) [] p.cF none λz au=>by simp! [iX,eV]
 have dp:=Mj dY (λz=>.str z.fK) [] p.codes none λz au=>by simp! [iX,dY]
 have pj:=TF (p.cF.map (·.1)) c.lines h.ln;have gD:=TG (p.codes.map (·.fK)) c.used h.us;rw[oa] at pj gD;have b6:p.cF.length<=big:=by unfold big;omega
 have b7:p.codes.length<=big:=by unfold big;omega
 have eA:((iJ c.lines).map (·.1)).Nodup/\(iJ c.lines).length<=1000/\∀t∈(p.cF.map λz=>mj z.1),(iD t).isSome=true:=by
  refine⟨?_,?_,?_⟩
  ·rw[akK,h.ln];exact R2 aM.zd
  ·have:=congrArg List.length h.ln;simp[iJ] at *;omega
  ·intro t bp;obtain⟨z,_,rfl⟩:=d_.mp bp;rfl
 have fE:((gv c.used).map (·.1)).Nodup/\(gv c.used).length<=1000/\∀t∈(p.codes.map λz=>mj z.fK),(iD t).isSome=true:=by
  refine⟨?_,?_,?_⟩
  ·rw[akL,h.us];exact R2 aM.cd
  ·have:=congrArg List.length h.us;simp[gv] at *;omega
  ·intro t bp;obtain⟨z,_,rfl⟩:=d_.mp bp;rfl
 have gH:(0<=big)=True:=by simp
 simp only[pa] at pj gD;simp only[zo,QU,runM,kZ];simp! [p7,cA,ee,xq,xd,cT,dp,b6,b7,pj,gD];rw[if_pos eA];simp! [p7,xd,xq,cT,dp,b6,b7,pj,gD];rw[if_pos ⟨fE.1,fE.2.1,λa aA=>rfl⟩];simp! [p7,encC,fresh,cA]
def ajd(p:bb)(c:a5)(m:jq)(h:br p c):zx [.obj m 0 (encC p c)]=some (ee c):=by
 have ah:=h.Qf;have ar:=h.NL;have b6:c.d2.length<=big:=by unfold big;omega
 have b7:c.dk.length<=big:=by unfold big;omega
 simp! [iz,zx,Q4,Ai,hy,b6,b7,Sw,ee,iJ,gv,pa]
theorem SA(p:bb)(aM:Wp p):∀(es:List iG) (c:a5) (s0 s1 s2 s4:Option aR),br p c->(∀e∈es,l_ p e)->c.told.length+50*es.length+60<big->∃mb,forL (bH 4) (dW (dS 0 sS 3 [(av 4)])) (es.map fY) [s0,s1,s2,some (.obj .own 0 (encC p c)),s4]=some (.bG [s0,s1,s2,some (.obj .own 0 (encC p (run p c es))),mb])
| [],c,s0,s1,s2,s4,_,_,_=>⟨s4,by simp[forL,run]⟩
|e::es,c,s0,s1,s2,s4,h,he,bp=>by
  have O_:=he e fg;simp only[fy] at bp;have ea:=aiN p c e h aM O_ (by omega);have:=Rn h e;obtain⟨sH,bM⟩:=SA p aM es (kd p c e) s0 s1 s2 (some (.aa (fY e))) (h.kd O_) (λy a7=>he y (dF _ a7)) (by omega);refine⟨sH,?_⟩;rw[c8,forL];simp! [p7,ea];simpa [c5,seq,iff,bO,gT,fk,gR,gP,ez,ofT,cX,aq,a3,args,ae,nm,av,b',skip,asg,gY,iH,par,bo,eF,g5,gE,aZ,eM,fs,bH,dH,gy,dV,comp,hS,run] using bM
def Ra(p:bb)(c:a5)(es:List iG)(h:br p c)(aM:Wp p)(he:∀e∈es,l_ p e)(aI:es.length<=1000):sV [cA p,ee c,.tuple (es.map fY)]=some (.obj .own 0 (encC p (run p (fresh c) es))):=by
 have Gz:=akP p c h aM;have af:(fresh c).told.length=0:=rfl;have b7:(60000<big):=by decide
 obtain⟨mb,jt⟩:=SA p aM es (fresh c) (some (.aa (cA p))) (some (.aa (ee c))) (some (.aa (.tuple (es.map fY)))) none h.fresh he (by omega);simp only[sV,LB,uB];simp! [p7,AB,B_,Gz,ef,yW];rw[jt];simp[yW,Cg]
def S3(p:bb)(c:a5)(es:List iG)(h:br p c)(aM:Wp p)(he:∀e∈es,l_ p e)(aI:es.length<=1000):rx [cA p,ee c,.tuple (es.map fY)]=some (ee (run p (fresh c) es)):=by
 have eG:=Ra p c es h aM he aI;have fp:=ajd p (run p (fresh c) es) .hr (h.fresh.run he);simp! [iX,rx,TA,an',Cc,eG,w6,fp]
def ajc(p:bb)(c:a5)(es:List iG)(h:br p c)(aM:Wp p)(he:∀e∈es,l_ p e)(aI:es.length<=1000):s8 [cA p,ee c,.tuple (es.map fY)]=some (.tuple ((run p (fresh c) es).told.map pS)):=by
 have eG:=Ra p c es h aM he aI;have af:=Mc h.fresh he;have b7:(60000<big):=by decide
 have h0:(fresh c).told.length=0:=rfl;have b6:(run p (fresh c) es).told.length<=big:=by omega
 simp! [iX,s8,Tx,an',D7,eG,w6,xT,hy,b6]
noncomputable def px(p:bb):a5:={mode:="off",left:=0,hC:=none,lines:=p.cF.map λz=>(z.1,"shut"),d2:=[],hs:=0,dk:=[],tries:=0,locked:=0,used:=p.codes.map λk=>(k.fK,0),past:=0,told:=[]}
def aj0(p:bb)(au:p.cF.length<=40)(aM:Wp p):w8 [cA p]=some (ee (px p)):=by
 have ax:=aM.cl;have b6:p.cF.length<=big:=by unfold big;omega
 have b7:p.codes.length<=big:=by unfold big;omega
 have cT:=xh (cc:=ez true) (hD:=ae (.str "shut")) (caps:=[]) eV (λ_=>true) (λ_=>.str "shut") p.cF none λa aA=>⟨rfl,λ_=>rfl⟩;have dp:=xh (cc:=ez true) (hD:=ae (.int 0)) (caps:=[]) dY (λ_=>true) (λ_=>.int 0) p.codes none λa aA=>⟨rfl,λ_=>rfl⟩;rw[List.filter_eq_self.mpr (λ_ _=>rfl)] at cT dp;simp! [iX,w8,Tz,cA,hy,b6,b7,cT,dp,Sw,ee,px,hL,pa]
end cg
end
section
namespace cg
open D PySem
local instance:cD:=⟨[],λ_=>[],λ_=>none⟩
def MF(ns:List Int)(k:Nat):ni [eR ns,.int k]=some (.int (ns.getD k 0)):=by
 by_cases h:k<ns.length
 ·have h':(k:Int)<(ns.length:Int):=by omega
  simp! [Kt,ni,u2,eR,h,h',List.getD]
 ·have h':¬(k:Int)<(ns.length:Int):=by omega
  simp! [Kt,ni,u2,eR,h,h',List.getD]
def lS{i j:Int}(h:-(2 ^ 64)<j/\j<2 ^ 64):dT (.int i) (.int j)=some (.int (i*j)):=by
 unfold dT xn;simp only[decide_eq_true h.1,decide_eq_true h.2,Bool.and_self,Bool.or_true,if_true]
def k4{i j:Int}(h:0<j):oMod (.int i) (.int j)=some (.int (i % j)):=if_pos h
def xg{i j:Int}(h:0<j/\j<1073741824):oDiv (.int i) (.int j)=some (.int (i / j)):=if_pos h
def ie{i j:Int}:b4 (.int i) (.int j)=some (.int (i+j)):=rfl
def e_{a b:bK}{ai ε':Ev}(h:a ai=some (.bG ε')):seq a b ai=b ε':=by
 unfold seq;rw[h];rfl
def DY(ns:List Int)(k:Nat):∃m:Int,0<=m/\kX [eR ns,.int k]=some (.int m):=by
 have ax:=MF ns k;have hd:0<=(ns.getD k 0+7919*(k:Int)+1)*48271 % 2147483647/\(ns.getD k 0+7919*(k:Int)+1)*48271 % 2147483647<2147483647:=⟨kU _ (by decide),n' _ (by decide)⟩;generalize hx:(ns.getD k 0+7919*(k:Int)+1)*48271 % 2147483647=d at hd;refine⟨(d*d+7*d+k) % 2147483629,kU _ (by decide),?_⟩;have bP:kX [eR ns,.int k]=(u_ [some (.aa (eR ns)),some (.aa (.int k)),none]).bind λo=>match o with|.dE t=>some t|.bG _=>some .none|_=>none:=rfl
 have jy:dT (.int 7919) (.int k)=some (.int (7919*k)):=by
  unfold dT xn;simp
 have jz:av 0 [some (.aa (eR ns)),some (.aa (.int k)),none]=some (eR ns):=rfl;have eA:av 1 [some (.aa (eR ns)),some (.aa (.int k)),none]=some (.int k):=rfl;have JE:nm 1 [some (.aa (eR ns)),some (.aa (.int k)),none]=some (.int k):=rfl;have s1:asg 2 (unop%W7 0) [some (.aa (eR ns)),some (.aa (.int k)),none]=some (.bG [some (.aa (eR ns)),some (.aa (.int k)),some (.aa (.int d))]):=by
  simp only[asg,aq,a3,args,jz,eA,JE,cz,eb,ax,ae,jy,ie,lS (i:=ns.getD k 0+7919*(k:Int)+1) (j:=48271) (by decide),k4 (j:=2147483647) (by decide),hx];rfl
 have hJ:dT (.int d) (.int d)=some (.int (d*d)):=lS (by omega);have anW:dT (.int 7) (.int d)=some (.int (7*d)):=lS (by omega);rw[bP];unfold u_;rw[e_ s1];have bf:nm 2 [some (.aa (eR ns)),some (.aa (.int k)),some (.aa (.int d))]=some (.int d):=rfl;have aP:nm 1 [some (.aa (eR ns)),some (.aa (.int k)),some (.aa (.int d))]=some (.int k):=rfl;simp only[b',aq,bf,aP,cz,eb,ae,hJ,anW,ie,k4 (j:=2147483629) (by decide)]
def wV(n k:Int)(aL:-(2 ^ 64)<k/\k<2 ^ 64):∃m:Int,0<=m/\ic [.int n,.int k]=some (.int m):=by
 have hd:0<=(n+104729*k+17)*69621 % 2147483647/\(n+104729*k+17)*69621 % 2147483647<2147483647:=⟨kU _ (by decide),n' _ (by decide)⟩;generalize hx:(n+104729*k+17)*69621 % 2147483647=d at hd;refine⟨(d*d+3*d+k) % 2147483629,kU _ (by decide),?_⟩;have bP:ic [.int n,.int k]=(u' [some (unop%Wp 0),some (.aa (.int k)),none]).bind λo=>match o with|.dE t=>some t|.bG _=>some .none|_=>none:=rfl
 have jy:dT (.int 104729) (.int k)=some (.int (104729*k)):=lS aL;have jz:nm 0 [some (unop%Wp 0),some (.aa (.int k)),none]=some (.int n):=rfl;have eA:nm 1 [some (unop%Wp 0),some (.aa (.int k)),none]=some (.int k):=rfl;have s1:asg 2 (unop%W9 0) [some (unop%Wp 0),some (.aa (.int k)),none]=some (.bG [some (unop%Wp 0),some (.aa (.int k)),some (.aa (.int d))]):=by
  simp only[asg,aq,jz,eA,cz,eb,ae,jy,ie,lS (i:=n+104729*k+17) (j:=69621) (by decide),k4 (j:=2147483647) (by decide),hx];rfl
 have hJ:dT (.int d) (.int d)=some (.int (d*d)):=lS (by omega);have anW:dT (.int 3) (.int d)=some (.int (3*d)):=lS (by omega);rw[bP];unfold u';rw[e_ s1];have bf:nm 2 [some (unop%Wp 0),some (.aa (.int k)),some (.aa (.int d))]=some (.int d):=rfl;have aP:nm 1 [some (unop%Wp 0),some (.aa (.int k)),some (.aa (.int d))]=some (.int k):=rfl;simp only[b',aq,bf,aP,cz,eb,ae,hJ,anW,ie,k4 (j:=2147483629) (by decide)]
def mq(a b:Int):oEq (.int a) (.int b)=some (.bool (decide (a=b))):=by
 unfold oEq;rw[vg,vg];by_cases e:a=b <;> simp[f6,e]
def divQ(m:Int)(j:Int)(h:0<j/\j<1073741824:=by decide):∃q,q=m / j/\oDiv (.int m) (.int j)=some (.int q):=⟨_,rfl,xg h⟩
def modQ(m:Int)(j:Int)(h:0<j:=by decide):∃q,q=m % j/\0<=q/\q<j/\oMod (.int m) (.int j)=some (.int q):=⟨_,rfl,kU _ (by omega),n' _ h,k4 h⟩
def BB{ts:List T}{j:Int}(h0:0<=j)(ah:j<ts.length):∃t∈ts,aZ (.tuple ts) (.int j)=some t:=by
 have bS:j.toNat<ts.length:=by omega
 refine⟨ts[j.toNat],List.getElem_mem bS,?_⟩
 simp only[aZ,eM,fs,if_pos h0,if_pos ah,cz];exact iZ bS
def yu(ss:List Str){j:Int}(h0:0<=j)(ah:j<ss.length):∃s∈ss,aZ (.tuple (ss.map .str)) (.int j)=some (.str s):=by
 obtain⟨t,bp,e⟩:=BB (ts:=ss.map .str) h0 (by simpa using ah);obtain⟨s,az,rfl⟩:=d_.mp bp;exact⟨s,az,e⟩
def yt(ss:List Int){j:Int}(h0:0<=j)(ah:j<ss.length):∃s∈ss,aZ (.tuple (ss.map .int)) (.int j)=some (.int s):=by
 obtain⟨t,bp,e⟩:=BB (ts:=ss.map .int) h0 (by simpa using ah);obtain⟨s,az,rfl⟩:=d_.mp bp;exact⟨s,az,e⟩
def MD:(5<=big)=True:=by simp[big]
def s6:(4<=big)=True:=by simp[big]
def od:(3<=big)=True:=by simp[big]
def MP:(6<=big)=True:=by simp[big]
def ajU:(8<=big)=True:=by simp[big]
def z8:(1<=big)=True:=by simp[big]
noncomputable def rZ:bK:=(seq (asg 4 (aq oDiv (a3 ic [(av 0),(av 2)]) (ae (.int 4)))) (iff (gR (bO (aq oLt (aq oMod (nm 4) (ae (.int 8))) (aq b4 (ae (.int 3)) (aq oMod (nm 0) (ae (.int 5)))))) (bO (aq oEq (nm 2) (aq oMod (aq oDiv (nm 0) (ae (.int 8))) (ae (.int 8)))))) (asg 1 (aq b4 (nm 1) (bo [(bo [(av 3),(aq aZ (bo [(ae (.str "day")),(ae (.str "inner")),(ae (.str "once")),(ae (.str "way")),(ae (.str "way"))]) (aq oMod (aq oDiv (nm 4) (ae (.int 8))) (ae (.int 5))))])]))) skip))
noncomputable def pR(x:Int×Str):T:=.tuple [.int x.1,.str x.2]
noncomputable def kinds:List Str:=["day","inner","once","way","way"]
theorem LM(n:Int):∀(l:List (Int×Str)) (acc:List (Str×Str)) (s2 s3 s4:Option aR),(∀x∈l,0<=x.1/\x.1<100)->acc.length+l.length<=20->∃zs m2 yZ mb,(zs.map (·.1)).Sublist (l.map (·.2))/\(∀z∈zs,z.2∈kinds)/\((∃x∈l,x.1=n / 8 % 8)->zs≠[]) /\
  forL (dH [(bH 2),(bH 3)]) rZ (l.map pR) [some (unop%Wp 0),some (.aa (.tuple (acc.map eV))),s2,s3,s4,none,none,none,none,none]=some (.bG [some (unop%Wp 0),some (.aa (.tuple ((acc++zs).map eV))),m2,yZ,mb,none,none,none,none,none])
| [],acc,s2,s3,s4,_,_=>⟨[],s2,s3,s4,.refl _,by simp,by simp,by simp[forL]⟩
|x::l,acc,s2,s3,s4,hx,aI=>by
  obtain⟨m,hm,eG⟩:=wV n x.1 (by have:=hx x fg;omega);obtain⟨q,aX,fp⟩:=divQ m 4;obtain⟨r,_,_,_,gK⟩:=modQ q 8;obtain⟨cm,_,_,_,nH⟩:=modQ n 5;obtain⟨aP,yj,pN⟩:=divQ n 8;obtain⟨a_,nQ,_,_,pO⟩:=modQ aP 8;obtain⟨bf,Bt,pP⟩:=divQ q 8;obtain⟨b_,_,h0,ah,oK⟩:=modQ bf 5;obtain⟨s,az,mO⟩:=yu kinds h0 ah;simp only[kinds,c8,jk] at mO;simp only[fy] at aI;have b6:acc.length+1<=big:=by unfold big;omega
  have kh:∀y∈l,0<=y.1/\y.1<100:=λy a7=>hx y (dF _ a7);by_cases ax:r<3+cm\/x.1=a_
  ·obtain⟨zs,m2,yZ,mb,cC,cI,oV,qZ⟩:=LM n l (acc++[(x.2,s)]) (some (.aa (.int x.1))) (some (.aa (.str x.2))) (unop%Wl 0) kh (by simp;omega);refine⟨(x.2,s)::zs,m2,yZ,mb,by simpa using cC,λz au=>?_,λ_=>by simp,?_⟩
   ·rcases cN.mp au with rfl|au
    ·exact az
    ·exact cI z au
   ·rw[c8,forL];have:rZ [some (unop%Wp 0),some (.aa (.tuple (acc.map eV))),some (.aa (.int x.1)),some (.aa (.str x.2)),s4,none,none,none,none,none]=some (.bG [some (unop%Wp 0),some (.aa (.tuple ((acc++[(x.2,s)]).map eV))),some (.aa (.int x.1)),some (.aa (.str x.2)),some (.aa (.int q)),none,none,none,none,none]):=by
     by_cases dx:r<3+cm
     ·simp! [gC,rZ,eG,fp,gK,nH,pN,pO,pP,oK,mO,ie,oLt,dx,b4,b6,MD,mu,z8,eV]
     ·have oJ:oEq (.int x.1) (.int a_)=some (.bool true):=by rw[mq,decide_eq_true (ax.resolve_left dx)]
      simp! [gC,rZ,eG,fp,gK,nH,pN,pO,pP,oK,mO,ie,oLt,dx,oJ,b4,b6,MD,mu,z8,eV]
    simp only[pR,dH,gy,bH,cz,jl,i1,this];simpa using qZ
  ·obtain⟨zs,m2,yZ,mb,cC,cI,oV,qZ⟩:=LM n l acc (some (.aa (.int x.1))) (some (.aa (.str x.2))) (unop%Wl 0) kh (by omega);refine⟨zs,m2,yZ,mb,cC.cons _,cI,λ⟨y,a7,e⟩=>oV ?_,?_⟩
   ·rcases cN.mp a7 with rfl|a7
    ·exact absurd (.inr (by rw[e,nQ,yj])) ax
    ·exact⟨y,a7,e⟩
   ·rw[c8,forL];have:rZ [some (unop%Wp 0),some (.aa (.tuple (acc.map eV))),some (.aa (.int x.1)),some (.aa (.str x.2)),s4,none,none,none,none,none]=some (.bG [some (unop%Wp 0),some (.aa (.tuple (acc.map eV))),some (.aa (.int x.1)),some (.aa (.str x.2)),some (.aa (.int q)),none,none,none,none,none]):=by
     have dI:¬r<3+cm:=λz=>ax (.inl z);have jQ:¬x.1=a_:=λz=>ax (.inr z);simp! [gC,rZ,eG,fp,gK,nH,pN,pO,pP,oK,mO,ie,oLt,dI,jQ,mq]
    simp only[pR,dH,gy,bH,cz,jl,i1,this];exact qZ
def adR:km 0 3=[.int 0,.int 1,.int 2]:=by simp[km,List.range_succ]
noncomputable def tP:f_:=bO (aq jA (aq oMod (aq oDiv (nm 1) (aq aZ (bo [(ae (.int 4)),(ae (.int 16)),(ae (.int 64))]) (nm 0))) (ae (.int 4))) (ae (.int 0)))
noncomputable def anK:bY:=aq aZ (bo [(ae (.str "set")),(ae (.str "shunt")),(ae (.str "unset"))]) (nm 0)
noncomputable def D6:List Str:=["set","shunt","unset"]
def aif(q:Int)(ai:Ev)(h:(ai[4]?).join=some (.aa (.int q))):∃rs:List Str,rs.Sublist D6/\comp 1 [4] (jK (ae (.int 3))) (bH 0) tP anK ai=some (.list (rs.map .str)):=by
 have key:∀j sr:Int,aZ (.tuple [.int 4,.int 16,.int 64]) (.int j)=some (.int sr)->0<sr->sr<1073741824->∃b,tP [some (.aa (.int j)),some (.aa (.int q))]=some b:=by
  intro j sr ah ar bk;obtain⟨aP,_,eG⟩:=divQ q sr ⟨ar,bk⟩;obtain⟨a_,_,_,_,fp⟩:=modQ aP 4;exact⟨decide (0<a_),by simp! [gC,tP,ah,eG,fp,jA,od]⟩
 obtain⟨gH,k0⟩:=key 0 4 (by simp[aZ,eM,fs]) (by decide) (by decide);obtain⟨b6,k1⟩:=key 1 16 (by simp[aZ,eM,fs]) (by decide) (by decide);obtain⟨b7,k2⟩:=key 2 64 (by simp[aZ,eM,fs]) (by decide) (by decide);have lD:anK [some (.aa (.int 0)),some (.aa (.int q))]=some (.str "set"):=by simp! [iX,anK,od]
 have a_:anK [some (.aa (.int 1)),some (.aa (.int q))]=some (.str "shunt"):=by simp! [iX,anK,od]
 have b_:anK [some (.aa (.int 2)),some (.aa (.int q))]=some (.str "unset"):=by simp! [iX,anK,od]
 have r0:comp 1 [4] (jK (ae (.int 3))) (bH 0) tP anK ai=(hg (bH 0) tP anK [.int 0,.int 1,.int 2] [none,some (.aa (.int q))]).map .list:=by
  have s3:anC 3=true:=by decide
  simp[comp,jK,ae,s3,adR,hS,h,od]
 rw[r0];cases gH <;> cases b6 <;> cases b7
 ·exact⟨[],by simp,by simp[hg,bH,k0,k1,k2]⟩
 ·exact⟨["unset"],by decide,by simp[hg,bH,k0,k1,k2,lD,a_,b_]⟩
 ·exact⟨["shunt"],by decide,by simp[hg,bH,k0,k1,k2,lD,a_,b_]⟩
 ·exact⟨["shunt","unset"],by decide,by simp[hg,bH,k0,k1,k2,lD,a_,b_]⟩
 ·exact⟨["set"],by decide,by simp[hg,bH,k0,k1,k2,lD,a_,b_]⟩
 ·exact⟨["set","unset"],by decide,by simp[hg,bH,k0,k1,k2,lD,a_,b_]⟩
 ·exact⟨["set","shunt"],by decide,by simp[hg,bH,k0,k1,k2,lD,a_,b_]⟩
 ·exact⟨["set","shunt","unset"],by decide,by simp[hg,bH,k0,k1,k2,lD,a_,b_]⟩
noncomputable def an3:bK:=(seq (asg 4 (aq oDiv (a3 ic [(av 0),(aq b4 (ae (.int 10)) (nm 2))]) (ae (.int 4)))) (iff (gR (bO (aq jA (aq oMod (nm 4) (ae (.int 3))) (ae (.int 0)))) (bO (aq oEq (nm 2) (ae (.int 1))))) (seq (asg 7 (a3 hy [(comp 1 [4] (jK (ae (.int 3))) (bH 0) tP anK)])) (seq (asg 8 (aq aZ (bo [(ae (.str "ann")),(ae (.str "bo")),(ae (.str "cy"))]) (aq oMod (aq oDiv (nm 4) (ae (.int 256))) (ae (.int 3))))) (asg 5 (aq b4 (nm 5) (bo [(bo [(av 6),(av 8),(av 7),(aq aZ (bo [(ae (.int 0)),(ae (.int 0)),(ae (.int 1)),(ae (.int 2)),(ae (.int 9))]) (aq oMod (aq oDiv (nm 4) (ae (.int 1024))) (ae (.int 5))))])]))))) skip))
noncomputable def aob:List Str:=["ann","bo","cy"]
theorem LK(n:Int)(s1 s3:Option aR):∀(l:List (Int×Str)) (acc:List ik) (s2 s4 dM dh c6:Option aR),(∀x∈l,0<=x.1/\x.1<100)->acc.length+l.length<=20->∃bj m2 mb anM o5 m3,(bj.map (·.fK)).Sublist (l.map (·.2))/\(∀k∈bj,k.j1∈aob/\k.nZ.Sublist D6/\k.uses∈([0,0,1,2,9]:List Int))/\((∃x∈l,x.1=1)->bj≠[]) /\
  forL (dH [(bH 2),(bH 6)]) an3 (l.map pR) [some (unop%Wp 0),s1,s2,s3,s4,some (unop%WR 0),dM,dh,c6,none]=some (.bG [some (unop%Wp 0),s1,m2,s3,mb,some (.aa (.tuple ((acc++bj).map dY))),anM,o5,m3,none])
| [],acc,s2,s4,dM,dh,c6,_,_=>⟨[],s2,s4,dM,dh,c6,.refl _,by simp,by simp,by simp[forL]⟩
|x::l,acc,s2,s4,dM,dh,c6,hx,aI=>by
  obtain⟨m,hm,eG⟩:=wV n (10+x.1) (by have:=hx x fg;omega);obtain⟨q,aX,fp⟩:=divQ m 4;obtain⟨r,_,_,_,gK⟩:=modQ q 3;obtain⟨aP,yj,pN⟩:=divQ q 256;obtain⟨a_,nQ,h0,ah,pO⟩:=modQ aP 3;obtain⟨bf,Bt,pP⟩:=divQ q 1024;obtain⟨b_,_,ar,bk,oK⟩:=modQ bf 5;obtain⟨s,az,mO⟩:=yu aob h0 ah;obtain⟨u,b1,oJ⟩:=yt [0,0,1,2,9] ar bk;simp only[aob,c8,jk] at mO oJ;simp only[fy] at aI;have b6:acc.length+1<=big:=by unfold big;omega
  have kh:∀y∈l,0<=y.1/\y.1<100:=λy a7=>hx y (dF _ a7);obtain⟨rs,_a,Gv⟩:=aif q [some (unop%Wp 0),s1,some (.aa (.int x.1)),s3,some (.aa (.int q)),some (unop%WR 0),some (.aa (.str x.2)),dh,c6,none] rfl;by_cases ax:0<r\/x.1=1
  ·obtain⟨bj,m2,mb,anM,o5,m3,cC,cI,oV,qZ⟩:=LK n s1 s3 l (acc++[(⟨x.2,s,rs,u⟩:ik)]) (some (.aa (.int x.1))) (unop%Wl 0) (some (.aa (.str x.2))) (some (.aa (.tuple (rs.map .str)))) (some (.aa (.str s))) kh (by simp;omega);refine⟨⟨x.2,s,rs,u⟩::bj,m2,mb,anM,o5,m3,by simpa using cC,λz au=>?_,λ_=>by simp,?_⟩
   ·rcases cN.mp au with rfl|au
    ·exact⟨az,_a,b1⟩
    ·exact cI z au
   ·rw[c8,forL];have:an3 [some (unop%Wp 0),s1,some (.aa (.int x.1)),s3,s4,some (unop%WR 0),some (.aa (.str x.2)),dh,c6,none]=some (.bG [some (unop%Wp 0),s1,some (.aa (.int x.1)),s3,some (.aa (.int q)),some (.aa (.tuple ((acc++[(⟨x.2,s,rs,u⟩:ik)]).map dY))),some (.aa (.str x.2)),some (.aa (.tuple (rs.map .str))),some (.aa (.str s)),none]):=by
     have sH:asg 4 (aq oDiv (a3 ic [(av 0),(aq b4 (ae (.int 10)) (nm 2))]) (ae (.int 4))) [some (unop%Wp 0),s1,some (.aa (.int x.1)),s3,s4,some (unop%WR 0),some (.aa (.str x.2)),dh,c6,none]=some (.bG [some (unop%Wp 0),s1,some (.aa (.int x.1)),s3,some (.aa (.int q)),some (unop%WR 0),some (.aa (.str x.2)),dh,c6,none]):=by
      simp! [gC,ie,eG,fp]
     have m2:asg 7 (a3 hy [(comp 1 [4] (jK (ae (.int 3))) (bH 0) tP anK)]) [some (unop%Wp 0),s1,some (.aa (.int x.1)),s3,some (.aa (.int q)),some (unop%WR 0),some (.aa (.str x.2)),dh,c6,none]=some (.bG [some (unop%Wp 0),s1,some (.aa (.int x.1)),s3,some (.aa (.int q)),some (unop%WR 0),some (.aa (.str x.2)),some (.aa (.tuple (rs.map .str))),c6,none]):=by
      simp only[asg,a3,args,Gv,cz,eb,hy];rfl
     unfold an3;rw[e_ sH];have cP:gR (bO (aq jA (aq oMod (nm 4) (ae (.int 3))) (ae (.int 0)))) (bO (aq oEq (nm 2) (ae (.int 1)))) [some (unop%Wp 0),s1,some (.aa (.int x.1)),s3,some (.aa (.int q)),some (unop%WR 0),some (.aa (.str x.2)),dh,c6,none]=some true:=by
      by_cases dx:0<r
      ·simp! [gC,gK,jA,dx]
      ·have vJ:oEq (.int x.1) (.int 1)=some (.bool true):=by rw[mq,decide_eq_true (ax.resolve_left dx)]
       simp! [gC,gK,jA,dx,vJ]
     simp only[iff,cP,cz,if_true];rw[e_ m2];simp! [gC,gK,pN,pO,pP,oK,mO,oJ,b4,b6,MD,s6,od,z8,dY]
    simp only[pR,dH,gy,bH,cz,jl,i1,this];simpa using qZ
  ·obtain⟨bj,m2,mb,anM,o5,m3,cC,cI,oV,qZ⟩:=LK n s1 s3 l acc (some (.aa (.int x.1))) (unop%Wl 0) (some (.aa (.str x.2))) dh c6 kh (by omega);refine⟨bj,m2,mb,anM,o5,m3,cC.cons _,cI,λ⟨y,a7,e⟩=>oV ?_,?_⟩
   ·rcases cN.mp a7 with rfl|a7
    ·exact absurd (.inr e) ax
    ·exact⟨y,a7,e⟩
   ·rw[c8,forL];have:an3 [some (unop%Wp 0),s1,some (.aa (.int x.1)),s3,s4,some (unop%WR 0),some (.aa (.str x.2)),dh,c6,none]=some (.bG [some (unop%Wp 0),s1,some (.aa (.int x.1)),s3,some (.aa (.int q)),some (unop%WR 0),some (.aa (.str x.2)),dh,c6,none]):=by
     have dI:¬0<r:=λz=>ax (.inl z);have vJ:oEq (.int x.1) (.int 1)=some (.bool false):=by rw[mq,decide_eq_false λz=>ax (.inr z)]
     simp! [gC,an3,eG,fp,gK,ie,jA,dI,vJ]
    simp only[pR,dH,gy,bH,cz,jl,i1,this];exact qZ
noncomputable def mA:List (Int×Str):=[(0,"a"),(1,"b"),(2,"back"),(3,"d"),(4,"hall"),(5,"r"),(6,"win"),(7,"z")]
noncomputable def r1:List (Int×Str):=[(0,"0000"),(1,"1234"),(2,"4321"),(3,"7777"),(4,"9990"),(5,"9999")]
structure jO(p:bb):Prop where
 zs:(p.cF.map (·.1)).Sublist (mA.map (·.2))
 zk:∀z∈p.cF,z.2∈kinds
 QI:p.cF≠[]
 cs:(p.codes.map (·.fK)).Sublist (r1.map (·.2))
 oF:∀k∈p.codes,k.j1∈aob/\k.nZ.Sublist D6/\k.uses∈([0,0,1,2,9]:List Int)
 r0:p.codes≠[]
 j0:p.leave∈([0,5,30,60]:List Int)
 tc:p.qI∈([0,4,20,60]:List Int)
 to:p.loud∈([1,9,120,300]:List Int)
def ako(n:Int):∃p,jO p/\zQ [.int n]=some (cA p):=by
 obtain⟨zs,s2,s3,s4,cC,cI,oV,qZ⟩:=LM n mA [] none none none (by decide) (by decide);have ym:zs≠[]:=oV (by
  have ah:0<=n / 8 % 8:=kU _ (by decide);have ar:n / 8 % 8<8:=n' _ (by decide);generalize n / 8 % 8=r at ah ar;have:r=0\/r=1\/r=2\/r=3\/r=4\/r=5\/r=6\/r=7:=by omega
  rcases this with rfl|rfl|rfl|rfl|rfl|rfl|rfl|rfl
  ·exact⟨(0,"a"),by simp[mA],rfl⟩
  ·exact⟨(1,"b"),by simp[mA],rfl⟩
  ·exact⟨(2,"back"),by simp[mA],rfl⟩
  ·exact⟨(3,"d"),by simp[mA],rfl⟩
  ·exact⟨(4,"hall"),by simp[mA],rfl⟩
  ·exact⟨(5,"r"),by simp[mA],rfl⟩
  ·exact⟨(6,"win"),by simp[mA],rfl⟩
  ·exact⟨(7,"z"),by simp[mA],rfl⟩)
 obtain⟨bj,q8,y5,y6,uF,uG,BC,PG,q1,hH⟩:=LK n (some (.aa (.tuple (zs.map eV)))) s3 r1 [] s2 s4 none none none (by decide) (by decide);have Bn:bj≠[]:=q1 ⟨(1,"1234"),by simp[r1],rfl⟩;obtain⟨m,hm,eG⟩:=wV n 20 (by decide);obtain⟨q,aX,fp⟩:=divQ m 4;obtain⟨r,_,qE,a1,gK⟩:=modQ q 4;obtain⟨aP,yj,nH⟩:=divQ q 4;obtain⟨a_,_,gH,b6,pN⟩:=modQ aP 4;obtain⟨bf,Bt,pO⟩:=divQ q 16;obtain⟨b_,_,r0,cT,pP⟩:=modQ bf 4;obtain⟨u,b1,oK⟩:=yt [0,5,30,60] qE a1;obtain⟨v,bh,mO⟩:=yt [0,4,20,60] gH b6;obtain⟨w,hw,oJ⟩:=yt [1,9,120,300] r0 cT;simp only[c8,jk] at oK mO oJ;refine⟨⟨zs,bj,u,v,w⟩,⟨cC,cI,ym,BC,PG,Bn,b1,bh,hw⟩,?_⟩;have f1:ef (unop%W6 0) (dH [(bH 2),(bH 3)]) rZ [some (unop%Wp 0),some (.aa (.tuple [])),none,none,none,none,none,none,none,none]=some (.bG [some (unop%Wp 0),some (.aa (.tuple (zs.map eV))),s2,s3,s4,none,none,none,none,none]):=by
  have:(unop%W6 0) [some (unop%Wp 0),some (.aa (.tuple [])),none,none,none,none,none,none,none,none]=some (mA.map pR):=by
   simp[j6,hU,bo,args,ae,ajU,enum,mA,pR,List.zipIdx]
  unfold ef;rw[this];exact qZ
 have f2:ef (unop%Wa 0) (dH [(bH 2),(bH 6)]) an3 [some (unop%Wp 0),some (.aa (.tuple (zs.map eV))),s2,s3,s4,some (.aa (.tuple [])),none,none,none,none]=some (.bG [some (unop%Wp 0),some (.aa (.tuple (zs.map eV))),q8,s3,y5,some (.aa (.tuple (bj.map dY))),y6,uF,uG,none]):=by
  have:(unop%Wa 0) [some (unop%Wp 0),some (.aa (.tuple (zs.map eV))),s2,s3,s4,some (.aa (.tuple [])),none,none,none,none]=some (r1.map pR):=by
   simp[j6,hU,bo,args,ae,MP,enum,r1,pR,List.zipIdx]
  unfold ef;rw[this];exact hH
 show c5 (seq (asg 1 (bo [])) (seq (ef (unop%W6 0) (dH [(bH 2),(bH 3)]) rZ)
  (seq (asg 5 (bo [])) (seq (ef (unop%Wa 0) (dH [(bH 2),(bH 6)]) an3) _)))) 10 [.int n]=_
 unfold c5;have pU:seq (asg 1 (bo []))=λb=>seq (asg 1 (bo [])) b:=rfl;have ah:asg 1 (bo []) [some (unop%Wp 0),none,none,none,none,none,none,none,none,none]=some (.bG [some (unop%Wp 0),some (.aa (.tuple [])),none,none,none,none,none,none,none,none]):=by simp[asg,bo,args]
 have gf:asg 5 (bo []) [some (unop%Wp 0),some (.aa (.tuple (zs.map eV))),s2,s3,s4,none,none,none,none,none]=some (.bG [some (unop%Wp 0),some (.aa (.tuple (zs.map eV))),s2,s3,s4,some (.aa (.tuple [])),none,none,none,none]):=by simp[asg,bo,args]
 show (seq _ _ [some (unop%Wp 0),none,none,none,none,none,none,none,none,none]).bind _=_
 rw[e_ ah,e_ f1,e_ gf,e_ f2];simp! [gC,eG,fp,gK,nH,pN,pO,pP,oK,mO,oJ,s6,od,cA]
def jO.gn{p:bb}(h:jO p):p.cF.length<=8:=by simpa [mA] using h.zs.length_le
def jO.cl{p:bb}(h:jO p):p.codes.length<=6:=by simpa [r1] using h.cs.length_le
def rr{l:List Str}(h:l.all (λx=>(mj x).canLay0)=true:=by decide +kernel){x:Str}(hx:x∈l):cS x:=List.all_eq_true.mp h x hx
def jO.wp{p:bb}(h:jO p):Wp p:=by
 refine⟨?_,?_,?_,?_⟩
 ·exact h.cs.nodup (by decide +kernel)
 ·exact h.zs.nodup (by decide +kernel)
 ·have:=h.cl;omega
 ·have ah:=h.j0;have ar:=h.tc;have bk:=h.to;simp at ah ar bk;omega
def jO.kl{p:bb}(h:jO p):∀z∈p.cF,cS z.1/\cS z.2:=λz au=>⟨rr (l:=mA.map (·.2)) (hx:=h.zs.subset (d_.mpr ⟨z,au,rfl⟩)),rr (l:=kinds) (hx:=h.zk z au)⟩
def jO.acM{p:bb}(h:jO p):∀k∈p.codes,cS k.fK/\cS k.j1/\∀r∈k.nZ,cS r:=λk aL=>⟨rr (l:=r1.map (·.2)) (hx:=h.cs.subset (d_.mpr ⟨k,aL,rfl⟩)),rr (l:=aob) (hx:=(h.oF k aL).1),λr ay=>rr (l:=D6) (hx:=(h.oF k aL).2.1.subset ay)⟩
def jO.begun{p:bb}(h:jO p):br p (px p):=by
 refine⟨h.kl,h.acM,?_,bT "off",λz e=>(nomatch e),λe=>absurd e Lq,?_,?_,?_,by simp[px],by simp[px]⟩
 ·have:=h.gn;omega
 ·simp[px,pa]
 ·intro l aI;obtain⟨z,_,rfl⟩:=d_.mp aI;exact bT "shut"
 ·simp[px,pa]
end cg
end
section
namespace cg
open D PySem
def yv(p:bb):aZ (cA p) (.int 0)=some (.tuple (p.cF.map eV)):=by simp[aZ,eM,fs,cA]
def _J(p:bb):aZ (cA p) (.int 1)=some (.tuple (p.codes.map dY)):=by simp[aZ,eM,fs,cA]
def Es(z:Str×Str):aZ (eV z) (.int 0)=some (.str z.1):=by simp[aZ,eM,fs,eV]
def amF(k:ik):aZ (dY k) (.int 0)=some (.str k.fK):=by simp[aZ,eM,fs,dY]
def PQ(m:Int){l:List T}(h:l≠[]):∃q:Int,0<=q/\q<l.length/\oMod (.int m) (.int l.length)=some (.int q):=by
 have aI:0<(l.length:Int):=by
  have:=List.length_pos_iff.mpr h;omega
 obtain⟨q,_,ah,ar,e⟩:=modQ m l.length aI;exact⟨q,ah,ar,e⟩
noncomputable def vu:List Str:=["0000","1234","4321","7777","9990","9999","0001","1111","5555"]
noncomputable def xv(p:bb):iG->Prop
|.line z w=>z∈p.cF.map (·.1)/\w∈(["shut","open","open","cut"]:List Str)
|.code f d z=>f∈vu/\(((d="set"\/d="unset")/\z=none)\/((d="shunt"\/d="free")/\∃x,z=some x/\x∈p.cF.map (·.1)))
|.fG n=>1<=n/\n<=1000000000
def xv.ok{p:bb}{e:iG}(h:xv p e):l_ p e:=by
 cases e with
|line z w=>
  obtain⟨ah,ar⟩:=h;simp at ar;exact⟨ah,ar⟩
|fG n=>exact h.1
|code f d z=>
  obtain⟨ah,ar⟩:=h;refine⟨rr (l:=vu) (hx:=ah),?_,?_⟩
  ·rcases ar with ⟨ar|ar,_⟩|⟨ar|ar,_⟩
   ·exact .inl ar
   ·exact .inr (.inl ar)
   ·exact .inr (.inr (.inl ar))
   ·exact .inr (.inr (.inr ar))
  ·intro hd;rcases ar with ⟨ar|ar,_⟩|⟨_,bk⟩
   ·rcases hd with hd|hd
    ·exact absurd (ar.symm.trans hd) Rf
    ·exact absurd (ar.symm.trans hd) LI
   ·rcases hd with hd|hd
    ·exact absurd (ar.symm.trans hd) Q5
    ·exact absurd (ar.symm.trans hd) Lp
   ·exact bk
def ajS{p:bb}(h:jO p)(n:Int):∃e,xv p e/\sW [cA p,.int n]=some (fY e):=by
 obtain⟨aP,_,eG⟩:=divQ n 8;obtain⟨i,_z,cC,fp⟩:=PQ (l:=p.cF.map eV) aP (by simpa using h.QI);obtain⟨t,bp,gK⟩:=BB _z cC;obtain⟨z,au,rfl⟩:=d_.mp bp;have uk:z.1∈p.cF.map (·.1):=d_.mpr ⟨z,au,rfl⟩;obtain⟨k,_,_,_,nH⟩:=modQ n 10;obtain⟨bf,_,pN⟩:=divQ n 512;obtain⟨b_,_,PF,BC,pO⟩:=modQ bf 4;obtain⟨w,hw,pP⟩:=yu ["shut","open","open","cut"] PF BC;obtain⟨GF,pX,oK⟩:=yu ["0001","1111","9999","0000"] PF BC;obtain⟨dc,_,mO⟩:=divQ n 64;obtain⟨jB,_,oJ⟩:=divQ n 4096;obtain⟨anP,_,k0,k1,Gv⟩:=modQ jB 3;obtain⟨u,b1,vJ⟩:=yt [3,40,200] k0 k1;have HP:0<u/\u<=200:=by
  simp at b1;omega
 obtain⟨lE,_,su,cw,YM⟩:=modQ dc u HP.1;obtain⟨HV,_A,_B,OM⟩:=PQ (l:=p.codes.map dY) dc (by simpa using h.r0);obtain⟨t',vZ,YN⟩:=BB _A _B;obtain⟨c,ax,rfl⟩:=d_.mp vZ;have Zx:c.fK∈vu:=by
  have:=h.cs.subset (d_.mpr ⟨c,ax,rfl⟩);simp[r1,vu] at this ⊢;rcases this with q|q|q|q|q|q <;> simp[q]
 obtain⟨uA,_,ON⟩:=divQ n 65536;obtain⟨yR,_,_,_,OO⟩:=modQ uA 4;obtain⟨yS,_,m0,jy,OP⟩:=modQ jB 6;obtain⟨d,hd,Gw⟩:=yu ["set","set","unset","shunt","free","shunt"] m0 jy;simp only[c8,jk] at pP oK vJ Gw;simp only[f5] at fp OM;have lb:iw [.tuple (p.cF.map eV)]=some (.int p.cF.length):=by simp[iw]
 have bu:iw [.tuple (p.codes.map dY)]=some (.int p.codes.length):=by simp[iw]
 simp only[sW,Sk,c5,c8,jk,fy,n_,d5,rf,rd];by_cases ah:k<5
 ·exact⟨.line z.1 w,⟨uk,hw⟩,by simp! [gC,yv,Es,eG,lb,fp,gK,nH,oLt,ah,pN,pO,pP,s6,od,fY]⟩
 ·by_cases ar:k<7
  ·exact⟨.fG (1+lE),⟨by omega,by omega⟩,by simp! [gC,yv,Es,eG,lb,fp,gK,nH,oLt,ah,ar,mO,oJ,Gv,vJ,YM,ie,od,mu,fY]⟩
  ·have eB:cS d:=rr (l:=["set","set","unset","shunt","free","shunt"]) (hx:=hd);have Kh:=DX false (n:=d) (ns:=["set","unset"]) eB (by
    intro k aL;exact rr (l:=["set","unset"]) (hx:=aL))
   simp only[c8,jk] at Kh;obtain⟨f,hf,r6⟩:∃f∈vu,(iff (bO (aq oEq (aq oMod (aq oDiv (nm 1) (ae (.int 65536))) (ae (.int 4))) (ae (.int 0)))) (asg 4 (aq aZ (bo [(ae (.str "0001")),(ae (.str "1111")),(ae (.str "9999")),(ae (.str "0000"))]) (aq oMod (aq oDiv (nm 1) (ae (.int 512))) (ae (.int 4))))) skip) [some (.aa (cA p)),some (unop%Wp 0),some (.aa (.str z.1)),some (.aa (.int k)),some (.aa (.str c.fK)),none]=some (.bG [some (.aa (cA p)),some (unop%Wp 0),some (.aa (.str z.1)),some (.aa (.int k)),some (.aa (.str f)),none]):=by
    by_cases bk:yR=0
    ·refine⟨GF,?_,by simp! [gC,ON,OO,mq,bk,pN,pO,oK,s6]⟩
     simp[vu] at pX ⊢;rcases pX with q|q|q|q <;> simp[q]
    ·exact⟨c.fK,Zx,by simp! [gC,ON,OO,mq,bk]⟩
   have Qb:∀X:bK,iff (bO (aq oLt (nm 3) (ae (.int 5)))) X skip [some (.aa (cA p)),some (unop%Wp 0),some (.aa (.str z.1)),some (.aa (.int k)),none,none]=some (.bG [some (.aa (cA p)),some (unop%Wp 0),some (.aa (.str z.1)),some (.aa (.int k)),none,none]):=λX=>by simp! [gC,oLt,ah]
   have sB:∀X:bK,iff (bO (aq oLt (nm 3) (ae (.int 7)))) X skip [some (.aa (cA p)),some (unop%Wp 0),some (.aa (.str z.1)),some (.aa (.int k)),none,none]=some (.bG [some (.aa (cA p)),some (unop%Wp 0),some (.aa (.str z.1)),some (.aa (.int k)),none,none]):=λX=>by simp! [gC,oLt,ar]
   have Qc:asg 4 (aq aZ (aq aZ (unop%We 0) (aq oMod (aq oDiv (nm 1) (ae (.int 64))) (a3 iw [(unop%We 0)]))) (ae (.int 0))) [some (.aa (cA p)),some (unop%Wp 0),some (.aa (.str z.1)),some (.aa (.int k)),none,none]=some (.bG [some (.aa (cA p)),some (unop%Wp 0),some (.aa (.str z.1)),some (.aa (.int k)),some (.aa (.str c.fK)),none]):=by simp! [gC,_J,bu,mO,OM,YN,amF]
   by_cases cB:d="set"\/d="unset"
   ·refine⟨.code f d none,⟨hf,.inl ⟨cB,rfl⟩⟩,?_⟩
    have Ki:fc false (.str d) (.tuple [.str "set",.str "unset"])=some (.bool true):=by
     rw[Kh];simp[cB]
    have pre:∀B:bK,(seq (asg 2 (aq aZ (aq aZ (unop%Wd 0) (aq oMod (aq oDiv (nm 1) (ae (.int 8))) (a3 iw [(unop%Wd 0)]))) (ae (.int 0)))) (seq (asg 3 (aq oMod (nm 1) (ae (.int 10)))) B)) [some (.aa (cA p)),some (unop%Wp 0),none,none,none,none]=B [some (.aa (cA p)),some (unop%Wp 0),some (.aa (.str z.1)),some (.aa (.int k)),none,none]:=by
     intro B;simp! [gC,yv,Es,eG,lb,fp,gK,nH]
    rw[pre];rw[e_ (Qb _),e_ (sB _),e_ Qc,e_ r6];simp! [gC,oJ,OP,Gw,MP,mu,Ki,s6,fY,hL]
   ·refine⟨.code f d (some z.1),⟨hf,.inr ⟨?_,z.1,rfl,uk⟩⟩,?_⟩
    ·simp at hd;rcases hd with q|q|q|q|q
     ·exact absurd (.inl q) cB
     ·exact absurd (.inr q) cB
     ·exact .inl q
     ·exact .inr q
     ·exact .inl q
    have Ki:fc false (.str d) (.tuple [.str "set",.str "unset"])=some (.bool false):=by
     rw[Kh];simp at cB;simp[cB]
    have pre:∀B:bK,(seq (asg 2 (aq aZ (aq aZ (unop%Wd 0) (aq oMod (aq oDiv (nm 1) (ae (.int 8))) (a3 iw [(unop%Wd 0)]))) (ae (.int 0)))) (seq (asg 3 (aq oMod (nm 1) (ae (.int 10)))) B)) [some (.aa (cA p)),some (unop%Wp 0),none,none,none,none]=B [some (.aa (cA p)),some (unop%Wp 0),some (.aa (.str z.1)),some (.aa (.int k)),none,none]:=by
     intro B;simp! [gC,yv,Es,eG,lb,fp,gK,nH]
    rw[pre];rw[e_ (Qb _),e_ (sB _),e_ Qc,e_ r6];simp! [gC,oJ,OP,Gw,MP,mu,Ki,s6,fY,hL]
noncomputable def w_:List iG:=[.code "5555" "unset" none,.code "5555" "unset" none,.code "5555" "unset" none]
theorem SD{p:bb}(h:jO p)(n:Int):∀(bj:List Int) (s0:Option aR),(∀k∈bj,0<=k/\k<1000)->∃es:List iG,(∀e∈es,xv p e)/\es.length=bj.length/\hg (bH 0) (ez true) (a3 sW [(av 1),(unop%WE 0)]) (bj.map .int) [s0,some (.aa (cA p)),some (unop%Wp 0)]=some (es.map fY)
| [],s0,_=>⟨[],by simp,rfl,rfl⟩
|k::bj,s0,aL=>by
  obtain⟨m,_,eG⟩:=wV n (30+k) (by have:=aL k fg;omega);obtain⟨q,_,fp⟩:=divQ m 4;obtain⟨e,he,gK⟩:=ajS h q;obtain⟨es,cC,cI,oV⟩:=SD h n bj (unop%W4 0) λy a7=>aL y (dF _ a7);refine⟨e::es,λx hx=>?_,by simp[cI],?_⟩
  ·rcases cN.mp hx with rfl|hx
   ·exact he
   ·exact cC x hx
  ·have ax:a3 sW [(av 1),(unop%WE 0)] [some (.aa (.int k)),some (.aa (cA p)),some (unop%Wp 0)]=some (fY e):=by
    simp! [gC,ie,eG,fp,gK]
   rw[c8];simp only[hg,bH,i1,cz,ez,if_true,ax];rw[oV];rfl
def alg{p:bb}(h:jO p)(n m:Int)(bc:0<=n)(hm:0<=m/\m<900):∃es:List iG,(∀e∈es,xv p e)/\(es.length:Int)<=m/\an_ [cA p,.int n,.int m]=some (.tuple (es.map fY)):=by
 obtain⟨r,_,lD,a_,eG⟩:=modQ n (m+1) (by omega);have ZT:km 0 r=((List.range r.toNat).map λ(k:Nat)=>(k:Int)).map .int:=by
  simp[km,pa]
 obtain⟨es,cC,cI,oV⟩:=SD h n ((List.range r.toNat).map λ(k:Nat)=>(k:Int)) none (by
  intro k aL;obtain⟨j,bS,rfl⟩:=d_.mp aL;have:=List.mem_range.mp bS;omega)
 have aI:(es.length:Int)=r:=by
  simp at cI;omega
 obtain⟨q,_,fp⟩:=divQ n 64;obtain⟨cm,_,_,_,gK⟩:=modQ q 5;have adX:anC r=true:=by
  unfold anC;simp;omega
 have s1:asg 3 (a3 hy [(comp 1 [0,1] (jK (aq oMod (nm 1) (aq b4 (nm 2) (ae (.int 1))))) (bH 0) (ez true) (a3 sW [(av 1),(unop%WE 0)]))]) [some (.aa (cA p)),some (unop%Wp 0),some (.aa (.int m)),none]=some (.bG [some (.aa (cA p)),some (unop%Wp 0),some (.aa (.int m)),some (.aa (.tuple (es.map fY)))]):=by
  have b6:((((List.range r.toNat).map λ(k:Nat)=>(k:Int)).map PyData.int).length<=big)=True:=by
   simp;unfold big;omega
  have it:(jK (aq oMod (nm 1) (aq b4 (nm 2) (ae (.int 1))))) [some (.aa (cA p)),some (unop%Wp 0),some (.aa (.int m)),none]=some (((List.range r.toNat).map λ(k:Nat)=>(k:Int)).map .int):=by
   rw[<- ZT];simp[jK,aq,nm,ae,ie,eG,adX]
  simp only[asg,a3,args,comp,it,cz,b6,if_true];show Option.map _ ((Option.bind (Option.map _ (hg _ _ _ _ [none,some (.aa (cA p)),some (unop%Wp 0)])) _).bind _)=_;rw[oV];simp[hy]
 have bP:an_ [cA p,.int n,.int m]=(D9 [some (.aa (cA p)),some (unop%Wp 0),some (.aa (.int m)),none]).bind λo=>match o with|.dE t=>some t|.bG _=>some .none|_=>none:=rfl
 by_cases ax:cm=0/\2<(es.length:Int)
 ·refine⟨es.take (es.length - 3)++w_,?_,?_,?_⟩
  ·intro e he;rcases h8.mp he with q|q
   ·exact cC e (List.mem_of_mem_take q)
   ·simp[w_] at q;subst q;exact⟨by simp[vu],.inl ⟨.inr rfl,rfl⟩⟩
  ·simp[w_];omega
  ·rw[bP];unfold D9;rw[e_ s1];have b6:(es.length - 3+3<=big)=True:=by
    simp only[eq_iff_iff,iff_true];unfold big;omega
   have b7:(max (-3+(es.length:Int)) 0).toNat=es.length - 3:=by omega
   have dO:min (es.length - 3) es.length=es.length - 3:=by omega
   have kI:yI (.tuple [fY (.code "5555" "unset" none)]) (.int 3)=some (.tuple (w_.map fY)):=by
    simp[yI,w_,d5,od]
   simp only[fY,hL] at kI;simp! [gC,fp,gK,mq,ax.1,ax.2,iw,jA,slice,optN,opt,hp,J4,xQ,c7,b7,dO,kI,s6,z8,b4,w_];rw[if_pos (b6▸trivial)];simp! [gC]
 ·refine⟨es,cC,by omega,?_⟩
  rw[bP];unfold D9;rw[e_ s1];by_cases ah:cm=0
  ·have ar:¬2<(es.length:Int):=λz=>ax ⟨ah,z⟩;simp! [gC,fp,gK,mq,ah,iw,jA];rw[if_neg ar];simp! [gC]
  ·simp! [gC,fp,gK,mq,ah]
end cg
end
section
namespace cg
open D PySem
noncomputable def ad2(k:Int)(w:Int×Str×Option Str):Int×Str×Option Str:=(k+w.1,w.2)
noncomputable def g7(k:Int)(pre:List (Int×Str×Option Str))(c:a5):a5:={c with past:=k+c.past,told:=pre++c.told.map (ad2 k)}
noncomputable def al9(c:a5):Prop:=c.mode="leaving"\/c.mode="coming"
end cg
end
section
namespace cg
open D PySem
noncomputable def okN(d:Nat)(t:T):Prop:=t.canLay0=true/\t.depth<=d
theorem okN.fe{d:Nat}{t:T}(h:okN d t)(hd:d<=60:=by decide):fe t=true:=by
 unfold D.fe;rw[h.1,decide_eq_true (h9 h.2 hd)];rfl
def ajy(d:Nat):okN d .none:=⟨rfl,by rw[m'];omega⟩
noncomputable def da(c:a5):Prop:=∀w∈c.told,cS w.2.1/\∀n,w.2.2=some n->cS n
theorem da.tell{c:a5}(h:da c){w:Str}{n:Option Str}(hw:cS w)(bc:∀x,n=some x->cS x):da (cg.tell w n c):=by
 intro x hx;rcases h8.mp hx with q|q
 ·exact h x q
 ·simp at q;subst q;exact⟨hw,bc⟩
theorem da.gr{p:bb}{c:a5}(h:da c){z:Str}(au:cS z):da (cg.gr p z c):=by
 unfold cg.gr;split
 ·exact h
 ·exact da.tell (c:={l0 p c with dk:=c.dk++[z]}) h (bT "alarm") λx e=>fN e▸au
theorem da.dk{p:bb}:∀{zs:List Str} {c:a5},da c->(∀z∈zs,cS z)->da (cg.dk p zs c)
| [],_,h,_=>h
|z::zs,c,h,au=>da.dk (zs:=zs) (h.gr (au z fg)) λy a7=>au y (dF _ a7)
theorem da.lj{p:bb}{c:a5}(h:da c){z k:Str}(au:cS z):da (cg.lj p z k c):=by
 unfold cg.lj;split
 ·exact h.gr au
 ·exact da.tell (c:={c with mode:="coming",left:=p.qI,hC:=some z}) h (bT "coming") λx e=>fN e▸au
theorem da.mM{p:bb}{c:a5}(h:da c){z w:Str}(au:cS z):da (cg.mM p z w c):=by
 unfold cg.mM
 repeat' split
 all_goals first|exact h.gr au|exact h.tell (bT "fault") λx e=>fN e▸au|exact h.lj au|exact h
theorem da.line{p:bb}{c:a5}(h:da c){z w:Str}(au:cS z):da (cg.line p z w c):=by
 have h':da {c with lines:=n0 c.lines z w}:=h;unfold cg.line
 repeat' split
 all_goals first|exact h|exact h'|exact h'.tell (bT "mended") λx e=>fN e▸au|exact h'.mM au
theorem da.ll{p:bb}{c:a5}(h:da c)(hw:br p c):da (cg.ll p c):=
 da.dk (da.tell (c:={c with mode:="on",left:=0}) h (bT "on") λx e=>(nomatch e)) λz au=>hw.kl (D1 au)
theorem da.anx{p:bb}{c:a5}(h:da c)(hw:br p c)(hm:al9 c):da (cg.anx p c):=by
 unfold cg.anx;split
 ·exact h.ll hw
 next q=>
  obtain⟨z,au⟩:=Option.ne_none_iff_exists'.mp (hw.lh (hm.resolve_left q));unfold cg.qN;rw[au];exact da.gr (c:={c with mode:="on",hC:=none}) h (hw.ca z au).1
theorem da.fG{p:bb}{c:a5}(h:da c)(hw:br p c)(n:Int):da (cg.fG p n c):=by
 unfold cg.fG;split
 ·exact h
 ·split
  next q=>exact da.anx (c:=ro c.left c) h (hw.cd _) q.1
  ·exact h
theorem da.ko{p:bb}{c:a5}(h:da c):da (cg.ko p c):=by
 have ah:da (o9 c):=da.tell h (bT "wrong") λx e=>(nomatch e);unfold cg.ko;split
 ·exact da.tell (c:=l0 p {o9 c with tries:=0,locked:=90}) ah (bT "attack") λx e=>(nomatch e)
 ·exact ah
def ah0{p:bb}{c:a5}(hw:br p c){k:ik}(aL:k∈p.codes){d:Str}{z:Option Str}{x:Str×Str}(h:anF p k d z c=some x):cS x.1/\cS x.2:=by
 have Pw:=(hw.fl k aL).2.1;unfold anF at h;by_cases ah:(if d="free" then ("shunt":Str) else d)∈k.nZ
 ·rw[if_neg (λq=>q ah)] at h;split at h
  ·cases h
   exact⟨bT "no",Pw⟩
  ·split at h
   next q=>
    cases h
    refine⟨bT "open",?_⟩
    have af:=q.2;cases e:bare p ["day","once"] c with
    |nil=>exact absurd e af
    |cons b bs=>
     have:b∈bare p ["day","once"] c:=by rw[e];simp
     simpa using hw.kl (D1 this)
   ·cases h
 ·rw[if_pos ah] at h;cases h;exact⟨bT "denied",Pw⟩
theorem da.iq{p:bb}{c:a5}(h:da c)(hw:br p c){w d:Str}{z:Option Str}(how:cS w)(au:Cd p d z c):da (cg.iq p w d z c):=by
 rcases au with rfl|rfl|⟨rfl,x,rfl,hx⟩|⟨rfl,x,rfl,hx⟩
 ·simp only[cg.iq,if_true];have h':da (cg.tell "set" (some w) {c with dk:=[],hs:=0,mode:="leaving",left:=p.leave}):=da.tell (c:={c with dk:=[],hs:=0,mode:="leaving",left:=p.leave}) h (bT "set") λx e=>fN e▸how;show da (if p.leave<=0 then cg.ll p (cg.tell "set" (some w) {c with dk:=[],hs:=0,mode:="leaving",left:=p.leave}) else cg.tell "set" (some w) {c with dk:=[],hs:=0,mode:="leaving",left:=p.leave});split
  ·exact h'.ll ((hw.Cv p.leave).tell _ _)
  ·exact h'
 ·simp only[cg.iq,if_neg Lu,if_true];exact da.tell (c:={c with mode:="off",left:=0,hs:=0,hC:=none,d2:=[]}) h (bT "unset") λx e=>fN e▸how
 ·simp only[cg.iq,if_neg Lv,if_neg Dm,if_true];exact da.tell (c:={c with d2:=k7 (c.d2++[x])}) h (bT "shunt") λy e=>fN e▸hw.kl hx
 ·simp only[cg.iq,if_neg LJ,if_neg Dr,if_neg Ds];exact da.tell (c:={c with d2:=c.d2.erase x}) h (bT "free") λy e=>fN e▸hw.yM x hx
theorem da.kd{p:bb}{c:a5}(h:da c)(hw:br p c){e:iG}(he:l_ p e):da (cg.kd p c e):=by
 cases e with
|line z w=>exact h.line (hw.kl he.1)
|fG n=>exact h.fG hw n
|code f d z=>
  show da (cg.code p f d z c)
  unfold cg.code;split
  ·exact h.tell (bT "locked") λx e=>(nomatch e)
  ·split
   ·exact h.ko
   next k gb=>
    have aL:=RN gb;split
    ·exact h.ko
    ·have CM:=hw.CH 0;have h0:da {c with tries:=0}:=h;unfold cg.takeRight;split
     next ea=>exact da.iq (c:={c with tries:=0,used:=rV c.used k.fK}) h (CM.add k.fK) (hw.fl k aL).2.1 (MY he.2.1 he.2.2 ea)
     next ea=>
      have:=ah0 CM aL ea;exact h0.tell this.1 λx e=>fN e▸this.2
theorem da.run{p:bb}:∀{es:List iG} {c:a5},da c->br p c->(∀e∈es,l_ p e)->da (cg.run p c es)
| [],_,h,_,_=>h
|e::es,c,h,hw,he=>da.run (es:=es) (h.kd hw (he e fg)) (hw.kd (he e fg)) λy a7=>he y (dF _ a7)
theorem da.fresh(c:a5):da (cg.fresh c):=λw hw=>by cases hw
end cg
end
section
namespace cg
open D PySem
def nu{i:Nat}{f:bY}{b:bK}{ai:Ev}{t:T}{r:Option Out}(h:f ai=some t)(ar:b (ai.set i (some (.aa t)))=r):seq (asg i f) b ai=r:=by
 rw[e_ (ε':=ai.set i (some (.aa t))),ar];unfold asg;rw[h];rfl
def ajN{c:f_}{a b:bK}{ai:Ev}{r:Option Out}(h:c ai=some false)(ar:b ai=r):seq (iff c a skip) b ai=r:=by
 rw[e_ (ε':=ai),ar];unfold iff;rw[h];rfl
def rq{a b:bK}{ai ε':Ev}{r:Option Out}(h:a ai=some (.bG ε'))(ar:b ε'=r):seq a b ai=r:=by rw[e_ h,ar]
theorem denied{p:bb}{c:a5}{k:ik}{d:Str}(hd:d="set"\/d="unset")(ay:d∉k.nZ):takeRight p k d none c=tell "denied" (some k.j1) c:=by
 have:anF p k d none c=some (("denied":Str),k.j1):=by
  rcases hd with rfl|rfl <;> simp[anF,LI,Lp,ay]
 unfold takeRight;rw[this]
end cg
end
section
namespace cg
open D PySem
end cg
end
section
namespace rL
open D cg
open PySem hiding run fresh code
local instance:cD:=⟨[],λ_=>[],λ_=>none⟩
def ah4:gZ=bq.gZ:=rfl
def ahN:r4=bq.r4:=rfl
abbrev Op:=bq.Op
noncomputable def jX(z:Option Str)(bV:Int):List iG:=match z with
|none=>[.fG 1,.fG bV]
|some z=>[.line z "open",.fG 1,.line z "shut",.fG bV]
def aky(z:Option Str)(bV:Int):(jX z bV).length<=4:=by cases z <;> simp[jX]
noncomputable def ku(os:List Op)(k:Nat):Option Str:=(os[k]?).bind (·.2.2)
def aio(o:Op)(bV:Int):rt [bq.dB o,.int bV]=some (.tuple ((jX o.2.2 bV).map fY)):=by
 obtain⟨a,b,z⟩:=o;cases z with
|none=>simp! [iX,rt,Mo,bq.dB,bq.hW,jX,fY,mu]
|some z=>simp! [iX,rt,Mo,bq.dB,bq.hW,jX,fY,mu,od,s6]
def Zj(R:Int)(os:List Op):aZ (bq.c1 R os) (.int 1)=some (.tuple (os.map bq.dB)):=by simp[aZ,eM,fs,bq.c1]
def amI(R:Int)(os:List Op):aZ (bq.c1 R os) (.int 0)=some (.int R):=by simp[aZ,eM,fs,bq.c1]
def aa5{os:List Op}{k:Nat}(aL:k<os.length):aZ (.tuple (os.map bq.dB)) (.int (k:Nat))=some (bq.dB os[k]):=by
 show eM _ _=_
 unfold eM fs;rw[if_pos (by omega),if_pos (by simp;omega)];show ((os.map bq.dB)[((k:Nat):Int).toNat]?)=_;rw[Int.toNat_natCast,kp,iZ aL];rfl
def ah2{os:List Op}{k:Nat}(aL:k<os.length):ku os k=os[k].2.2:=by
 unfold ku;rw[iZ aL];rfl
noncomputable def tM(w:Int×Str×Option Str):Bool:=decide (w.2.1="alarm")
theorem Ts(caps:Ev):∀(ws:List (Int×Str×Option Str)) (s0 s1 s2:Option aR),hg (dH [(bH 0),(bH 1),(bH 2)]) (ez true) (av 1) (ws.map pS) (s0::s1::s2::caps)=some ((ws.map (·.2.1)).map .str)
| [],_,_,_=>rfl
|w::ws,s0,s1,s2=>by
  have bM:=Ts caps ws (some (.aa (.int w.1))) (some (.aa (.str w.2.1))) (some (.aa (hL w.2.2)));rw[c8,hg];simp only[pS,dH,gy,bH,cz,i1,jl,ez,if_true,av,h_,ha] at bM ⊢;rw[bM];rfl
def agA{ws:List (Int×Str×Option Str)}(aK:∀w∈ws,cS w.2.1)(aI:ws.length<=100000):u1 [.tuple (ws.map pS)]=some (.bool (ws.any tM)):=by
 have af:(ws.map pS).length<=big:=by rw[f5];unfold big;omega
 have c:=Ts [] ws none none none;have J8:=vc false (n:="alarm") (ns:=ws.map (·.2.1)) (bT "alarm") (λx hx=>by
  obtain⟨w,hw,rfl⟩:=d_.mp hx;exact aK w hw)
 have e:decide (("alarm":Str)∈ws.map (·.2.1))=ws.any tM:=by
  rw[Bool.eq_iff_iff];simp only[decide_eq_true_eq,d_,List.any_eq_true,tM]
 suffices az:LA [some (.aa (.tuple (ws.map pS)))]=some (.dE (.bool (ws.any tM))) by
  unfold u1 c5;simp only[c8,jk,fy,n_,rf,rd];exact congrArg (λo=>Option.bind o _) az
 simp only[LA,b',aq,ae,comp,dV,av,ha,cz,if_pos af,hS,d5,jk,lO];rw[c];simp only[eb,cz,J8,e];rfl
section
variable (p:bb)(os:List Op)(bV:Int)
noncomputable def vo(c:a5)(k:Nat):a5:=run p (fresh c) (jX (ku os k) bV)
noncomputable def lg:a5->List Nat->Nat->Option Nat
|_,[],_=>none
|c,k::bj,i=>if (vo p os bV c k).told.any tM then some (i+1) else lg (vo p os bV c k) bj (i+1)
end
noncomputable def kk:Option Nat->T
|none=>.none
|some k=>.int (k:Int)
noncomputable def rT(p:bb)(os:List Op):Prop:=∀o∈os,∀z,o.2.2=some z->z∈p.cF.map (·.1)
def T3{p:bb}{os:List Op}(au:rT p os){bV:Int}(aM:1<=bV)(k:Nat):∀e∈jX (ku os k) bV,l_ p e:=by
 cases aL:os[k]? with
|none=>
  have:ku os k=none:=by unfold ku;rw[aL];rfl
  rw[this];intro e he;simp[jX] at he;rcases he with rfl|rfl
  ·show (1:Int)<=1
   decide
  ·exact aM
|some o=>
  have aw:ku os k=o.2.2:=by unfold ku;rw[aL];rfl
  have hm:=au o (pb aL);rw[aw];cases aX:o.2.2 with
  |none=>
   intro e he;simp[jX] at he;rcases he with rfl|rfl
   ·show (1:Int)<=1
    decide
   ·exact aM
  |some z=>
   have l4:=hm z aX;intro e he;simp[jX] at he;rcases he with rfl|rfl|rfl|rfl
   ·exact⟨l4,.inr (.inl rfl)⟩
   ·show (1:Int)<=1
    decide
   ·exact⟨l4,.inl rfl⟩
   ·exact aM
def aj_{p:bb}{os:List Op}(au:rT p os){bV:Int}(aM:1<=bV){c:a5}(hw:br p c)(k:Nat):br p (vo p os bV c k):=hw.fresh.run (T3 au aM k)
noncomputable def rY:bK:=(seq (asg 8 (a3 rt [(aq aZ (unop%WO 0) (nm 7)),(av 4)])) (seq (iff (bO (a3 u1 [(a3 s8 [(av 0),(av 5),(av 8)])])) (b' (nm 6)) skip) (asg 5 (a3 rx [(av 0),(av 5),(av 8)]))))
theorem Ud{p:bb}(wp:Wp p){R:Int}{os:List Op}(au:rT p os){bV:Int}(aM:1<=bV)(s2 s3:Option aR):∀(bj:List Nat) (i:Nat) (c:a5) (dM dh c6:Option aR),br p c->(∀k∈bj,k<os.length) ->
  ∃bZ anM o5 m3,forL (dH [(bH 6),(bH 7)]) rY ((bj.zipIdx i).map λq=>.tuple [.int ((q.2+1:Nat):Int),.int (q.1:Nat)]) [some (.aa (cA p)),some (unop%WK 0),s2,s3,some (.aa (.int bV)),some (.aa (ee c)),dM,dh,c6] =
   match lg p os bV c bj i with
   |some j=>some (.dE (.int (j:Nat)))
   |none=>some (.bG [some (.aa (cA p)),some (unop%WK 0),s2,s3,some (.aa (.int bV)),some (.aa (ee bZ)),anM,o5,m3])
| [],i,c,dM,dh,c6,_,_=>⟨c,dM,dh,c6,rfl⟩
|k::bj,i,c,dM,dh,c6,hw,aL=>by
  have Bn:=aL k (by simp);have ok:=T3 au aM k;have pl:=aky (ku os k) bV;have xs:=ajc p c (jX (ku os k) bV) hw wp ok (by omega);have sJ:=S3 p c (jX (ku os k) bV) hw wp ok (by omega);have tw:=da.run (da.fresh c) hw.fresh ok;have j0:=Mc hw.fresh ok;have QI:(fresh c).told.length=0:=rfl;have aA:=agA (ws:=(run p (fresh c) (jX (ku os k) bV)).told) (λw hw=>(tw w hw).1) (by omega);have P2:=aio os[k] bV;rw[<- ah2 Bn] at P2;have g:dH [(bH 6),(bH 7)] (.tuple [.int ((i+1:Nat):Int),.int (k:Nat)]) [some (.aa (cA p)),some (unop%WK 0),s2,s3,some (.aa (.int bV)),some (.aa (ee c)),dM,dh,c6]=some [some (.aa (cA p)),some (unop%WK 0),s2,s3,some (.aa (.int bV)),some (.aa (ee c)),some (.aa (.int ((i+1:Nat):Int))),some (.aa (.int (k:Nat))),c6]:=rfl;have first:∀B:bK,seq (asg 8 (a3 rt [(aq aZ (unop%WO 0) (nm 7)),(av 4)])) B [some (.aa (cA p)),some (unop%WK 0),s2,s3,some (.aa (.int bV)),some (.aa (ee c)),some (.aa (.int ((i+1:Nat):Int))),some (.aa (.int (k:Nat))),c6]=B [some (.aa (cA p)),some (unop%WK 0),s2,s3,some (.aa (.int bV)),some (.aa (ee c)),some (.aa (.int ((i+1:Nat):Int))),some (.aa (.int (k:Nat))),some (.aa (.tuple ((jX (ku os k) bV).map fY)))]:=λB=>by
   refine nu (t:=.tuple ((jX (ku os k) bV).map fY)) ?_ rfl
   simp only[a3,aq,args,nm,av,ae,h_,ha,cz,eb,Zj,aa5 Bn,P2]
  have CJ:(bO (a3 u1 [(a3 s8 [(av 0),(av 5),(av 8)])])) [some (.aa (cA p)),some (unop%WK 0),s2,s3,some (.aa (.int bV)),some (.aa (ee c)),some (.aa (.int ((i+1:Nat):Int))),some (.aa (.int (k:Nat))),some (.aa (.tuple ((jX (ku os k) bV).map fY)))]=some ((vo p os bV c k).told.any tM):=by
   simp only[bO,a3,args,av,h_,ha,cz,eb,xs,aA];rfl
  cases aX:(vo p os bV c k).told.any tM with
  |true=>
   refine⟨c,none,none,none,?_⟩
   simp only[lg,aX,if_true];rw[List.zipIdx_cons,c8,forL];simp only[g,cz];have:rY [some (.aa (cA p)),some (unop%WK 0),s2,s3,some (.aa (.int bV)),some (.aa (ee c)),some (.aa (.int ((i+1:Nat):Int))),some (.aa (.int (k:Nat))),c6]=some (.dE (.int ((i+1:Nat):Int))):=by
    unfold rY;rw[first];rw[aX] at CJ;simp only[seq,iff,CJ,cz,if_true];rfl
   rw[this];rfl
  |false=>
   obtain⟨bZ,anM,o5,m3,bM⟩:=Ud wp (R:=R) au aM s2 s3 bj (i+1) (vo p os bV c k) (some (.aa (.int ((i+1:Nat):Int)))) (some (.aa (.int (k:Nat)))) (some (.aa (.tuple ((jX (ku os k) bV).map fY)))) (aj_ au aM hw k) (λy a7=>aL y (dF _ a7));refine⟨bZ,anM,o5,m3,?_⟩;simp only[lg,aX,lN,if_false];rw[List.zipIdx_cons,c8,forL];simp only[g,cz];have:rY [some (.aa (cA p)),some (unop%WK 0),s2,s3,some (.aa (.int bV)),some (.aa (ee c)),some (.aa (.int ((i+1:Nat):Int))),some (.aa (.int (k:Nat))),c6]=some (.bG [some (.aa (cA p)),some (unop%WK 0),s2,s3,some (.aa (.int bV)),some (.aa (ee (vo p os bV c k))),some (.aa (.int ((i+1:Nat):Int))),some (.aa (.int (k:Nat))),some (.aa (.tuple ((jX (ku os k) bV).map fY)))]):=by
    unfold rY;rw[first];rw[aX] at CJ;refine ajN CJ ?_;simp only[asg,a3,args,av,h_,ha,cz,eb,sJ,jl,i1];rfl
   rw[this];exact bM
def aiX{p:bb}(wp:Wp p){R:Int}{os:List Op}(au:rT p os){bV:Int}(aM:1<=bV){c:a5}(hw:br p c){way:List Nat}(aL:∀k∈way,k<os.length):ks [cA p,bq.c1 R os,ee c,bq.wT way,.int bV]=some (kk (lg p os bV c way 0)):=by
 obtain⟨bZ,dM,dh,c6,ze⟩:=Ud wp (R:=R) au aM (some (.aa (ee c))) (some (.aa (bq.wT way))) way 0 c none none none hw aL;have it:w5 (hU (av 3)) [some (.aa (cA p)),some (unop%WK 0),some (.aa (ee c)),some (.aa (bq.wT way)),some (.aa (.int bV)),some (.aa (ee c)),none,none,none]=some ((way.zipIdx 0).map λq=>.tuple [.int ((q.2+1:Nat):Int),.int (q.1:Nat)]):=by
  show some (tn (way.map λ(k:Nat)=>PyData.int (k:Int)))=_
  unfold tn;rw[List.zipIdx_map,oa];rfl
 suffices az:Mp [some (.aa (cA p)),some (unop%WK 0),some (.aa (ee c)),some (.aa (bq.wT way)),some (.aa (.int bV)),none,none,none,none]=some (.dE (kk (lg p os bV c way 0))) by
  unfold ks c5;simp only[c8,jk,fy,n_,rf,rd];exact congrArg (λo=>Option.bind o _) az
 unfold Mp;refine nu (t:=ee c) rfl ?_;simp only[jl,i1];have hf:ef (w5 (hU (av 3))) (dH [(bH 6),(bH 7)]) rY [some (.aa (cA p)),some (unop%WK 0),some (.aa (ee c)),some (.aa (bq.wT way)),some (.aa (.int bV)),some (.aa (ee c)),none,none,none]=forL (dH [(bH 6),(bH 7)]) rY ((way.zipIdx 0).map λq=>.tuple [.int ((q.2+1:Nat):Int),.int (q.1:Nat)]) [some (.aa (cA p)),some (unop%WK 0),some (.aa (ee c)),some (.aa (bq.wT way)),some (.aa (.int bV)),some (.aa (ee c)),none,none,none]:=by
  unfold ef;rw[it];rfl
 rw[ze] at hf;show seq (ef (w5 (hU (av 3))) (dH [(bH 6),(bH 7)]) rY) (b' (ae .none)) _=_;cases aX:lg p os bV c way 0 with
|some j=>
  rw[aX] at hf;simp only[seq,hf,cz];rfl
|none=>
  rw[aX] at hf;exact rq hf rfl
theorem Uc(p:bb)(os:List Op)(bV:Int):∀(w:List Nat) (c:a5) (i q:Nat),lg p os bV c w i=some q->i<q/\q<=i+w.length
| [],c,i,q,e=>by cases e
|k::bj,c,i,q,e=>by
  simp only[lg] at e;split at e
  ·cases e
   simp only[fy];omega
  ·have:=Uc p os bV bj _ (i+1) q e;simp only[fy];omega
noncomputable def oj(p:bb)(o:Op):Op:=(o.1,o.2.1,match o.2.2 with|none=>none|some z=>if z∈p.cF.map (·.1) then some z else none)
noncomputable def FD:bK:=(asg 5 (aq b4 (nm 5) (bo [(bo [(av 6),(av 7),(aq aZ (bo [(av 8),(ae .none)]) (a3 q4 [(aq (fc true) (nm 8) (nm 4))]))])])))
theorem T6{p:bb}(yn:∀z∈p.cF.map (·.1),cS z)(s0 s1 s2 s3:Option aR):∀(os acc:List Op) (dM dh c6:Option aR),(∀o∈os,∀x,o.2.2=some x->cS x)->acc.length+os.length<=1000->∃anM o5 m3,forL (dH [(bH 6),(bH 7),(bH 8)]) FD (os.map bq.dB) [s0,s1,s2,s3,some (.aa (.list ((p.cF.map (·.1)).map .str))),some (.aa (.tuple (acc.map bq.dB))),dM,dh,c6] =
   some (.bG [s0,s1,s2,s3,some (.aa (.list ((p.cF.map (·.1)).map .str))),some (.aa (.tuple ((acc++os.map (oj p)).map bq.dB))),anM,o5,m3])
| [],acc,dM,dh,c6,_,_=>⟨dM,dh,c6,by simp[forL]⟩
|o::os,acc,dM,dh,c6,aK,aI=>by
  simp only[fy] at aI;obtain⟨a,b,c,bM⟩:=T6 yn s0 s1 s2 s3 os (acc++[oj p o]) (some (.aa (.int o.1))) (some (.aa (.int o.2.1))) (some (.aa (bq.hW o.2.2))) (λy a7=>aK y (dF _ a7)) (by simp only[n7,fy,n_];omega);refine⟨a,b,c,?_⟩;have g:dH [(bH 6),(bH 7),(bH 8)] (bq.dB o) [s0,s1,s2,s3,some (.aa (.list ((p.cF.map (·.1)).map .str))),some (.aa (.tuple (acc.map bq.dB))),dM,dh,c6]=some [s0,s1,s2,s3,some (.aa (.list ((p.cF.map (·.1)).map .str))),some (.aa (.tuple (acc.map bq.dB))),some (.aa (.int o.1)),some (.aa (.int o.2.1)),some (.aa (bq.hW o.2.2))]:=rfl;have af:(acc.map bq.dB).length+1<=big:=by rw[f5];unfold big;omega
  have ea:∀t:T,b4 (.tuple (acc.map bq.dB)) (.tuple [t])=some (.tuple (acc.map bq.dB++[t])):=λt=>by
   simp only[b4,fy,n_];rw[if_pos af]
  have J8:∃b:Bool,fc true (bq.hW o.2.2) (.list ((p.cF.map (·.1)).map .str))=some (.bool b)/\aZ (.tuple [bq.hW o.2.2,.none]) (.int (if b then 1 else 0))=some (bq.hW (oj p o).2.2):=by
   obtain⟨x,y,z⟩:=o;cases z with
   |none=>
    refine⟨true,?_,by simp[bq.hW,oj,aZ,eM,fs]⟩
    show (if fe .none && lB ((p.cF.map (·.1)).map .str) then some (PyData.bool (if true then !ly .none ((p.cF.map (·.1)).map .str) else _)) else none)=_
    have ah:ly .none ((p.cF.map (·.1)).map .str)=false:=by
     unfold ly;rw[List.any_eq_false];intro t bp;obtain⟨z,_,rfl⟩:=d_.mp bp;simp[f6]
    rw[(ajy 0).fe,LU _ yn,ah];rfl
   |some z=>
    have oz:=aK (x,y,some z) (by simp) z rfl;have q:=vc true (n:=z) (ns:=p.cF.map (·.1)) oz yn;by_cases hm:z∈p.cF.map (·.1)
    ·refine⟨false,by show fc true (.str z) _=_;rw[q];simp only[if_true,decide_eq_true hm];rfl,?_⟩
     simp[bq.hW,oj,hm,aZ,eM,fs]
    ·refine⟨true,by show fc true (.str z) _=_;rw[q];simp only[if_true,decide_eq_false hm];rfl,?_⟩
     simp[bq.hW,oj,hm,aZ,eM,fs]
  obtain⟨xP,dK,en⟩:=J8;have step:FD [s0,s1,s2,s3,some (.aa (.list ((p.cF.map (·.1)).map .str))),some (.aa (.tuple (acc.map bq.dB))),some (.aa (.int o.1)),some (.aa (.int o.2.1)),some (.aa (bq.hW o.2.2))]=some (.bG [s0,s1,s2,s3,some (.aa (.list ((p.cF.map (·.1)).map .str))),some (.aa (.tuple ((acc++[oj p o]).map bq.dB))),some (.aa (.int o.1)),some (.aa (.int o.2.1)),some (.aa (bq.hW o.2.2))]):=by
   simp only[FD,asg,aq,a3,args,nm,av,bo,ae,h_,ha,cz,eb,fy,n_,Nat.zero_add,Nat.reduceAdd,z8,mu,od,if_true,dK,q4,en,ea,jl,i1,List.map_append,c8,jk];rfl
  rw[c8,forL,g];simp only[cz,step];rw[bM];simp
def ag5{p:bb}(aM:jO p)(n:Int)(bc:0<=n):∃R os,bq.Drawn R os/\rT p os/\wI [cA p,.int n]=some (bq.c1 R os):=by
 obtain⟨R,os,d,CQ⟩:=bq.Z9 n bc;rw[<- ahN] at CQ;have yn:∀z∈p.cF.map (·.1),cS z:=λz au=>aM.begun.kl au;have bF:∀o∈os,∀x,o.2.2=some x->cS x:=λo aK x hx=>rr (l:=bq.names5) (hx:=(d.ok o aK).2.2.2 x hx);obtain⟨a,b,c,ze⟩:=T6 yn (some (.aa (cA p))) (some (unop%Wp 0)) (some (.aa (.int R))) (some (.aa (.tuple (os.map bq.dB)))) os [] none none none bF (by have:=d.len;simp;omega);refine⟨R,os.map (oj p),⟨d.a_,d.p5,by simpa using d.len,λo aK=>?_⟩,λo aK z au=>?_,?_⟩
 ·obtain⟨o',jv,rfl⟩:=d_.mp aK;obtain⟨ah,ar,bk,cB⟩:=d.ok o' jv;refine⟨ah,ar,bk,λx hx=>?_⟩;unfold oj at hx;simp only at hx;split at hx
  ·cases hx
  next z au=>
   split at hx
   ·cases hx
    exact cB _ au
   ·cases hx
 ·obtain⟨o',jv,rfl⟩:=d_.mp aK;unfold oj at au;simp only at au;split at au
  ·cases au
  ·split at au
   next hm=>cases au;exact hm
   ·cases au
 ·have zb:(p.cF.map eV).length<=big:=by have:=aM.gn;rw[f5];unfold big;omega
  have gu:hg (bH 0) (ez true) (unop%Wd 0) (p.cF.map eV) [none]=some ((p.cF.map (·.1)).map .str):=by
   have:=Mj eV (λz=>.str z.1) [] p.cF none λz au=>by simp! [iX,eV]
   rw[this,oa];rfl
  suffices az:Ls [some (.aa (cA p)),some (unop%Wp 0),none,none,none,none,none,none,none]=some (.dE (bq.c1 R (os.map (oj p)))) by
   unfold wI c5;simp only[c8,jk,fy,n_,rf,rd];exact congrArg (λo=>Option.bind o _) az
  unfold Ls;refine rq (ε':=[some (.aa (cA p)),some (unop%Wp 0),some (.aa (.int R)),some (.aa (.tuple (os.map bq.dB))),none,none,none,none,none]) ?_ ?_
  ·simp only[iH,a3,args,av,h_,ha,cz,eb,CQ];rfl
  refine nu (t:=.list ((p.cF.map (·.1)).map .str)) (by
   simp only[comp,dV,aq,nm,ae,h_,ha,cz,yv,if_pos zb,hS,d5,jk,lO];rw[gu];rfl) ?_
  simp only[jl,i1];refine nu (t:=.tuple []) (by simp[bo,args]) ?_;simp only[jl,i1];refine rq (ε':=[some (.aa (cA p)),some (unop%Wp 0),some (.aa (.int R)),some (.aa (.tuple (os.map bq.dB))),some (.aa (.list ((p.cF.map (·.1)).map .str))),some (.aa (.tuple ((os.map (oj p)).map bq.dB))),a,b,c]) ?_ ?_
  ·have it:dV (av 3) [some (.aa (cA p)),some (unop%Wp 0),some (.aa (.int R)),some (.aa (.tuple (os.map bq.dB))),some (.aa (.list ((p.cF.map (·.1)).map .str))),some (.aa (.tuple [])),none,none,none]=some (os.map bq.dB):=rfl;unfold ef;rw[it];exact ze
  ·simp[b',bo,args,av,mu,bq.c1]
theorem Bd{E:List (Int×Int)}:∀{w:List Nat} {x:Int} {q:List Int},ew.xw E x w q->∀k∈w,k<E.length
| [],_,_,_,k,aL=>by cases aL
|j::w,x,q,h,k,aL=>by
  obtain⟨e,t,r,ah,_,_,cB⟩:=h;rcases cN.mp aL with rfl|aL
  ·exact (gU.mp ah).1
  ·exact Bd cB k aL
section
variable {p:bb}(wp:Wp p){R:Int}{os:List Op}(au:rT p os){bV:Int}(aM:1<=bV){c:a5}(hw:br p c){way:List Nat}(aL:∀k∈way,k<os.length)
include wp au aM hw aL
end
end rL
end
section
namespace ew
theorem ME{rec:List Int->Option (List (List Nat))}(ay:∀q us,rec q=some us->us.Pairwise (·<·)){pl:List Int}{h:Int}:∀{E:List (Int×Int)} {k:Nat} {ws:List (List Nat)},exts rec pl h k E=some ws->ws.Pairwise (·<·)/\∀w∈ws,∃j df,k<=j/\w=j::df
| [],k,ws,e=>by
  cases e
  exact⟨.nil,by simp⟩
|e::es,k,ws,ah=>by
  have up:∀{vs:List (List Nat)},exts rec pl h (k+1) es=some vs->vs.Pairwise (·<·)/\∀w∈vs,∃j df,k<=j/\w=j::df:=λbh=>by
   obtain⟨a,b⟩:=ME ay bh;refine⟨a,λw hw=>?_⟩;obtain⟨j,df,ah,ar⟩:=b w hw;exact⟨j,df,by omega,ar⟩
  unfold exts at ah;split at ah
  next t bp=>
   split at ah
   next hm=>exact up ah
   next hm=>
    simp only[cf,dR] at ah;obtain⟨us,ar,vs,bk,rfl⟩:=ah;obtain⟨a,b⟩:=ME ay bk;constructor
    ·rw[List.pairwise_append];refine⟨?_,a,λx hx y a7=>?_⟩
     ·rw[List.pairwise_map];exact (ay _ _ ar).imp λq=>List.cons_lt_cons_iff.mpr (.inr ⟨rfl,q⟩)
     ·obtain⟨u,_,rfl⟩:=d_.mp hx;obtain⟨j,df,aP,rfl⟩:=b y a7;exact List.cons_lt_cons_iff.mpr (.inl (by omega))
    ·intro w hw;rcases h8.mp hw with q|q
     ·obtain⟨u,_,rfl⟩:=d_.mp q;exact⟨k,u,dy _,rfl⟩
     ·exact (up bk).2 w q
  next=>exact up ah
theorem QD{E:List (Int×Int)}{room:Int}:∀{n:Nat} {pl:List Int} {ws:List (List Nat)},g9 E room n pl=some ws->ws.Pairwise (·<·)
|0,pl,ws,h=>by cases h
|n+1,pl,ws,h=>by
  unfold g9 at h;split at h
  ·cases h
  ·split at h
   ·cases h
    simp
   ·exact (ME (λq us aX=>QD aX) h).1
theorem RM{α:Type}{p q r:α->Bool}:∀{l:List α},(∀x∈l,p x=true->r x=true)->(∀x∈l,q x=true->r x=true)->(∀x∈l,p x=true->q x=true->False)->l.countP p+l.countP q<=l.countP r
| [],_,_,_=>by simp
|x::l,ah,ar,bk=>by
  have bM:=RM (l:=l) (λx h=>ah x (by simp[h])) (λx h=>ar x (by simp[h])) (λx h=>bk x (by simp[h]));have a1:=ah x (by simp);have a2:=ar x (by simp);have fj:=bk x (by simp);simp only[List.countP_cons];cases aM:p x <;> cases aX:q x <;> cases ay:r x <;> simp_all <;> omega
noncomputable def sC(pl:List Int)(h:Int)(e:Int×Int):Bool:=match ip e h with
|some t=>decide (t∉pl)
|none=>false
noncomputable def yJ(pl:List Int)(e:Int×Int):Bool:=decide (e.1∉pl) && decide (e.2∉pl)
theorem D0{rec:List Int->Option (List (List Nat))}{pl:List Int}{h:Int}{B:Nat}(ay:∀t us,t∉pl->rec (pl++[t])=some us->us.length<=B):∀{E:List (Int×Int)} {k:Nat} {ws:List (List Nat)},exts rec pl h k E=some ws->ws.length<=E.countP (sC pl h)*B
| [],k,ws,e=>by
  cases e
  simp
|e::es,k,ws,ah=>by
  unfold exts at ah;rw[List.countP_cons];have up:es.countP (sC pl h)*B<=(es.countP (sC pl h)+if sC pl h e=true then 1 else 0)*B:=Nat.mul_le_mul_right _ (by omega);split at ah
  next t bp=>
   split at ah
   next hm=>exact h9 (D0 ay ah) up
   next hm=>
    simp only[cf,dR] at ah;obtain⟨us,ar,vs,bk,rfl⟩:=ah;have a:=D0 ay bk;have b:=ay t us hm ar;have c:sC pl h e=true:=by simp[sC,bp,hm]
    rw[if_pos c,Nat.succ_mul,n7,f5];omega
  next=>exact h9 (D0 ay ah) up
noncomputable def G(m:Nat):Nat:=[1,1,2,3,4,6,9,12,18,27,36].getD m 0
def al5:∀m,m<=10->∀d,d<=10->∀l7,l7<=10->d+l7<=m->d*G l7<=G m:=by decide
def amS:∀m,m<=10->1<=G m:=by decide
def amR:∀m,m<=10->G m<=36:=by decide
theorem Su{E:List (Int×Int)}{room:Int}(hG:∀e∈E,e.1≠e.2)(aI:E.length<=10):∀{n:Nat} {pl:List Int} {ws:List (List Nat)},pl.Nodup->g9 E room n pl=some ws->ws.length<=G (E.countP (yJ pl.dropLast))
|0,pl,ws,_,h=>by cases h
|n+1,pl,ws,aV,h=>by
  have ax:∀p:Int×Int->Bool,E.countP p<=10:=λp=>h9 List.countP_le_length aI;unfold g9 at h;split at h
  ·cases h
  next x hx=>
   split at h
   ·cases h
    exact amS _ (ax _)
   ·have aM:pl=pl.dropLast++[x]:=by
     have dJ:pl≠[]:=by rintro rfl;cases hx
     have aw:=List.dropLast_concat_getLast dJ;rw[List.getLast?_eq_getLast dJ] at hx;rw[fN hx] at aw;exact aw.symm
    have Px:x∉pl.dropLast:=λz=>by
     rw[aM,mi] at aV;exact aV.2.2 x z x (by simp) rfl
    have x2:=D0 (B:=G (E.countP (yJ pl))) (λt us bp b1=>by
     have hK:(pl++[t]).Nodup:=by
      rw[mi];exact⟨aV,by simp,λa aA b af=>by
       have:b=t:=by simpa using af
       subst this;exact λz=>bp (z▸aA)⟩
     have:=Su hG aI hK b1;simpa using this) h
    refine h9 x2 (al5 _ (ax _) _ (ax _) _ (ax _) (RM (λe he q=>?_) (λe he q=>?_) (λe he aP bf=>?_)))
    ·unfold sC at q;split at q
     next t bp=>
      have vZ:t∉pl:=by simpa using q
      have Pt:t∉pl.dropLast:=λz=>vZ (List.dropLast_subset _ z);unfold ip at bp;unfold yJ;split at bp
      next aw=>cases bp;simp[aw,Px,Pt]
      next=>
       split at bp
       next aN=>cases bp;simp[aN,Px,Pt]
       next=>cases bp
     next=>cases q
    ·unfold yJ at q ⊢;simp only[gV,decide_eq_true_eq] at q ⊢;exact⟨λz=>q.1 (List.dropLast_subset _ z),λz=>q.2 (List.dropLast_subset _ z)⟩
    ·have Py:x∈pl:=by rw[aM];simp
     unfold yJ at bf;simp only[gV,decide_eq_true_eq] at bf;unfold sC ip at aP;split at aP
     next t bp=>
      split at bp
      next aw=>exact bf.1 (aw▸Py)
      next=>
       split at bp
       next aN=>exact bf.2 (aN▸Py)
       next=>cases bp
     next=>cases aP
def afr{E:List (Int×Int)}{room:Int}(hG:∀e∈E,e.1≠e.2)(aI:E.length<=10){n:Nat}{ws:List (List Nat)}(h:g9 E room n [0]=some ws):ws.length<=36:=
 h9 (Su hG aI (by simp) h) (amR _ (h9 List.countP_le_length aI))
end ew
end
section
namespace ew
abbrev Ey:=Int×Int×Int
noncomputable def ind(b:Bool):Int:=if b then 1 else 0
noncomputable def J0(x:Int):List Ey->Int
| []=>0
|a::L=>a.2.2*(ind (decide (a.1=x)) - ind (decide (a.2.1=x)))+J0 x L
noncomputable def ends(L:List Ey):List (Int×Int):=L.map λa=>(a.1,a.2.1)
structure Flow(E:List (Int×Int))(s t:Int)(v:Int)(L:List Ey):Prop where
 pQ:ends L=E
 un:∀a∈L,-1<=a.2.2/\a.2.2<=1
 cons:∀x,x≠s->x≠t->J0 x L=0
 val:J0 s L=v
end ew
end
section
namespace ew
end ew
end
section
namespace oC
open D bq
end oC
end
section
namespace oC
open PySem D bq
noncomputable def iI(w:List Nat):List Int:=w.map λ(k:Nat)=>(k:Int)
def Mt(w:List Nat):wT w=.tuple ((iI w).map .int):=by simp[wT,iI]
end oC
end
section
namespace i9
open D bq oC
noncomputable def rl:bK:=
  (seq (asg 2 (a3 gZ [(av 0),(av 1)])) (seq (iff (gP (gT (nm 2))) rF skip) (b' (nm 2))))
noncomputable def rk:List T->Option T:=c5 rl 3
noncomputable def zw:hA:=
  (y0 (asg 2 (a3 gZ [(av 0),(av 1)])) (yr (gP (gT (nm 2))) (l' (cX (vq "no way leads to room ") (nm 1))) J1))
noncomputable def p6:List aR->Bool:=yY zw 3
end i9
end
section
namespace i9
open PySem D bq oC
local instance:cD:=⟨[],λ_=>[],λ_=>none⟩
def J_(w:List Nat):(wT w).canLay0=true/\(wT w).depth<=2:=by
 have aQ:=SH (iI w);rw[Mt];simp only[PyData.canLay0,m',aQ.1,true_and];have:=aQ.2;omega
theorem S1:∀{x y:List Nat},iI x=iI y->x=y
| [],[],_=>rfl
| [],_::_,h=>by simp[iI] at h
|_::_,[],h=>by simp[iI] at h
|a::x,b::y,h=>by
  simp only[iI,c8,List.cons.injEq] at h;have ah:a=b:=by omega
  rw[ah,S1 (show iI x=iI y from h.2)]
def YQ(x y:List Nat):f6 (wT x) (wT y)=decide (x=y):=by
 rw[Mt,Mt,ajT];exact decide_eq_decide.mpr ⟨S1,λh=>by rw[h]⟩
theorem PK:∀xs ys:List Int,l6 (xs.map .int) (ys.map .int)=some (mX xs ys)
| [],[]=>by simp[l6,mX]
| [],_::_=>by simp[l6,mX]
|_::_,[]=>by simp[l6,mX]
|a::x,b::y=>by
  have bM:=PK x y;simp only[c8,l6,mX,f6];by_cases h:a=b
  ·subst h;simp[bM]
  ·have:(a==b)=false:=by simpa using h
   simp[this,h,gA]
def Ue{h:T}{room:Int}{ws:List (List Nat)}(hw:gZ [h,.int room]=some (.tuple (ws.map wT)))(dJ:ws≠[]):rk [h,.int room]=some (.tuple (ws.map wT)):=by
 have aw:a3 gZ [(av 0),(av 1)] [some (.aa h),some (.aa (.int room)),none]=some (.tuple (ws.map wT)):=by
  simp only[a3,args,av,h_,ha,cz,eb,hw]
 have aN:gP (gT (nm 2)) [some (.aa h),some (.aa (.int room)),some (.aa (.tuple (ws.map wT)))]=some false:=by
  cases ws with
  |nil=>exact absurd rfl dJ
  |cons w ws=>rfl
 have az:rl [some (.aa h),some (.aa (.int room)),none]=some (.dE (.tuple (ws.map wT))):=by
  unfold rl seq asg;rw[aw];simp only[eb,cz,jl,i1];unfold iff;rw[aN];rfl
 unfold rk c5;show Option.bind (rl [some (.aa h),some (.aa (.int room)),none]) _=_;rw[az];rfl
def adM{h:T}{room:Int}{ws:List (List Nat)}(hw:gZ [h,.int room]=some (.tuple (ws.map wT)))(h0:0<=room)(G6:room<1000):p6 [.aa h,.aa (.int room)]=ws.isEmpty:=by
 have aw:a3 gZ [(av 0),(av 1)] [some (.aa h),some (.aa (.int room)),none]=some (.tuple (ws.map wT)):=by
  simp only[a3,args,av,h_,ha,cz,eb,hw]
 have aN:gP (gT (nm 2)) [some (.aa h),some (.aa (.int room)),some (.aa (.tuple (ws.map wT)))]=some ws.isEmpty:=by
  cases ws with
  |nil=>rfl
  |cons w ws=>rfl
 have cw:(("no way leads to room ":Str)).length<=1000:=by decide
 have eA:room.natAbs<1000:=by omega
 show zw [some (.aa h),some (.aa (.int room)),none]=ws.isEmpty
 unfold zw y0 asg;rw[aw];simp only[eb,jl,i1];unfold yr;rw[aN];cases ws with
|nil=>
  show D.l' _ _=true
  unfold D.l' cX;have dv:nm 1 [some (.aa h),some (.aa (.int room)),some (.aa (.tuple (([]:List (List Nat)).map wT)))]=some (.int room):=rfl;rw[dv];simp only[cz,vq,if_pos (And.intro eA cw),Option.isSome_some]
|cons w ws=>rfl
end i9
end
section
namespace i9
open PySem D bq oC
local instance:cD:=⟨[],λ_=>[],λ_=>none⟩
def aa4{t:T}(h:fe t=true):h5 t t=some (.bool false):=by
 have ax:t.canLay0=true:=by
  unfold fe at h;simp only[gV] at h;exact h.1
 unfold h5;rw[h,PySem.SeqAt.eqv_refl t ax];rfl
def aaX{R:Int}{os:List Op}(d:Drawn R os):∀e∈os.map iL,e.1≠e.2:=λe he=>by
 obtain⟨o,aK,rfl⟩:=d_.mp he;obtain⟨ah,ar,bk,cB⟩:=d.ok o aK;show o.1≠o.2.1;omega
theorem Bd{E:List (Int×Int)}:∀{w:List Nat} {x:Int} {q:List Int},ew.xw E x w q->∀k∈w,k<E.length
| [],_,_,_,k,aL=>by cases aL
|j::w,x,q,h,k,aL=>by
  obtain⟨e,t,r,ah,_,_,cB⟩:=h;rcases cN.mp aL with rfl|aL
  ·exact (gU.mp ah).1
  ·exact Bd cB k aL
end i9
end
section
namespace i9
open PySem D bq oC
local instance:cD:=⟨[],λ_=>[],λ_=>none⟩
theorem PM:∀{x y:List Nat},x<y->mX (iI x) (iI y)=true
| [],[],h=>by cases h
| [],_::_,_=>rfl
|_::_,[],h=>by cases h
|a::x,b::y,h=>by
  rcases List.cons_lt_cons_iff.mp h with q|⟨aP,bf⟩
  ·have:(a:Int)<b:=by omega
   simp[iI,mX,this]
  ·have:=PM bf;unfold iI at this;simp[iI,mX,aP,this]
def QB(w:List Nat):wT w=yT (iI w):=by
 unfold wT yT iI;rw[oa];rfl
end i9
end
section
namespace qz
open D cg rL rS
open PySem hiding run fresh code
local instance:cD:=⟨[],λ_=>[],λ_=>none⟩
noncomputable def fL:Option Nat->Nat
|none=>99
|some q=>q
noncomputable def l5:Option Nat->T
|none=>.tuple [.int 1,.int 0]
|some q=>.tuple [.int 0,.int (q:Int)]
noncomputable def eK(g:List Nat->Option Nat)(w:List Nat):T:=.tuple [.int (-(fL (g w):Int)),bq.wT w]
noncomputable def kO(g:List Nat->Option Nat)(b:List Nat):List (List Nat)->List Nat
| []=>b
|w::ws=>if fL (g b)<fL (g w) then kO g w ws else kO g b ws
def akF(o:Option Nat):fe (l5 o)=true:=by
 cases o with
|none=>decide +kernel
|some q=>simp[l5,fe,PyData.canLay0,hP,m',fM]
def alX{a b:Option Nat}(aA:∀q,a=some q->q<99)(af:∀q,b=some q->q<99):gz (l5 a) (l5 b)=some (decide (fL b<fL a)):=by
 cases a with
|none=>
  cases b with
  |none=>simp[l5,fL,gz,nU,f6]
  |some q=>
   have:=af q rfl;simp[l5,fL,gz,nU,f6,this]
|some p=>
  have ah:=aA p rfl;cases b with
  |none=>
   have:¬99<p:=by omega
   simp[l5,fL,gz,nU,f6,this]
  |some q=>
   by_cases e:p=q
   ·subst e;simp[l5,fL,gz,nU,f6]
   ·have bx:¬(p:Int)=(q:Int):=by omega
    simp only[l5,fL,gz,nU,f6];have aN:((p:Int)==(q:Int))=false:=by simpa using bx
    have dv:((q:Int)<(p:Int)) <-> q<p:=by omega
    simp only[show ((0:Int)==0)=true from rfl,if_true,aN,lN,if_false];exact congrArg some (decide_eq_decide.mpr dv)
theorem M0{kf:T->Option T}{g:List Nat->Option Nat}:∀(ws:List (List Nat)) (b:List Nat),(∀w∈b::ws,kf (bq.wT w)=some (l5 (g w))/\∀q,g w=some q->q<99)->vd kf (bq.wT b) (l5 (g b)) (ws.map bq.wT)=some (bq.wT (kO g b ws))
| [],b,h=>rfl
|w::ws,b,h=>by
  obtain⟨b6,b7⟩:=h b (by simp);obtain⟨m6,o8⟩:=h w (by simp);rw[c8,vd,m6];simp only[cz,alX o8 b7];unfold kO;by_cases q:fL (g b)<fL (g w)
  ·rw[decide_eq_true q,if_pos rfl,if_pos q];exact M0 ws w λv bh=>h v (by rcases cN.mp bh with rfl|bh <;> simp[*])
  ·rw[decide_eq_false q,if_neg (by decide),if_neg q];exact M0 ws b λv bh=>h v (by rcases cN.mp bh with rfl|bh <;> simp[*])
def amE{g:List Nat->Option Nat}{b w:List Nat}(h:b<w):gA (eK g w) (eK g b)=some (decide (fL (g b)<fL (g w))):=by
 unfold eK;unfold gA;unfold l6;by_cases e:fL (g w)=fL (g b)
 ·have aw:f6 (.int (-(fL (g w):Int))) (.int (-(fL (g b):Int)))=true:=by simp[f6,e]
  rw[if_pos aw];unfold l6;have dJ:w≠b:=by rintro rfl;exact List.lt_irrefl _ h
  have aN:f6 (bq.wT w) (bq.wT b)=false:=by
   have:=i9.YQ w b;rw[decide_eq_false dJ] at this;exact this
  have dv:gA (bq.wT w) (bq.wT b)=some false:=by
   have:=i9.PK (oC.iI w) (oC.iI b);rw[SM (i9.PM h)] at this;rw[show bq.wT w=yT (oC.iI w) from i9.QB w,show bq.wT b=yT (oC.iI b) from i9.QB b];unfold yT gA;exact this
  rw[aN,dv,decide_eq_false (by omega)];rfl
 ·have aw:f6 (.int (-(fL (g w):Int))) (.int (-(fL (g b):Int)))=false:=by
   simp[f6];omega
  rw[aw];simp only[lN,if_false];unfold gA;congr 1;refine decide_eq_decide.mpr ?_;omega
theorem MZ{g:List Nat->Option Nat}:∀(ws:List (List Nat)) (b:List Nat),(b::ws).Pairwise (·<·)->an9 (eK g b) (ws.map (eK g))=some (eK g (kO g b ws))
| [],b,h=>rfl
|w::ws,b,h=>by
  obtain⟨ah,ar⟩:=lM.mp h;obtain⟨bk,cB⟩:=lM.mp ar;rw[c8,an9,amE (ah w (by simp))];simp only[cz];unfold kO;by_cases q:fL (g b)<fL (g w)
  ·rw[decide_eq_true q,if_pos rfl,if_pos q];exact MZ ws w ar
  ·rw[decide_eq_false q,if_neg (by decide),if_neg q];exact MZ ws b (lM.mpr ⟨λy a7=>ah y (by simp[a7]),cB⟩)
def T5(g:List Nat->Option Nat)(ws:List (List Nat)):lB (ws.map (eK g))=true:=by
 have:hP (ws.map (eK g))=true/\fM (ws.map (eK g))<=3:=by
  induction ws with
  |nil=>simp[hP,fM]
  |cons w ws bM=>
   have h:=i9.J_ w;have ah:(eK g w).canLay0=true:=by
    simp only[eK,PyData.canLay0,hP];have:=h.1;simp only[bq.wT] at this ⊢;simpa using this
   have ar:(eK g w).depth<=3:=by
    simp only[eK,m',fM];have:=h.2;simp only[bq.wT] at this ⊢;omega
   have:=bM.2;simp only[c8,hP,fM,ah,bM.1,Bool.and_self,true_and];omega
 unfold lB;rw[this.1];simp;omega
def alL(g:List Nat->Option Nat)(ws:List (List Nat)):fM (ws.map (eK g))<=3:=by
 induction ws with
|nil=>simp[fM]
|cons w ws bM=>
  have h:=i9.J_ w;have ar:(eK g w).depth<=3:=by
   simp only[eK,m',fM];have:=h.2;simp only[bq.wT] at this ⊢;omega
  simp only[c8,fM];omega
noncomputable def kP(g:List Nat->Option Nat):List (List Nat)->T
| []=>.tuple [.str "refused",.int 1]
|b::ws=>.tuple [.str "told",bq.wT (kO g b ws)]
def alK(g:List Nat->Option Nat)(ws:List (List Nat)):fe (kP g ws)=true:=by
 cases ws with
|nil=>exact (show fe (.tuple [.str "refused",.int 1])=true by decide +kernel)
|cons b ws=>
  have h:=i9.J_ (kO g b ws);have c:(mj "told").canLay0=true:=by decide +kernel
  have ah:(bq.wT (kO g b ws)).canLay0=true:=h.1;have ar:(bq.wT (kO g b ws)).depth<=1\/True:=.inr trivial;simp only[kP,fe,PyData.canLay0,hP,m',fM,ah,Bool.and_true,gV,decide_eq_true_eq];refine⟨by first|exact c|simpa [PyData.canLay0] using c,?_⟩;have:=h.2;omega
def Ue{R:Int}{os:List Op}{x:Int}{ws:List (List Nat)}(hw:gZ [bq.c1 R os,.int x]=some (.tuple (ws.map bq.wT)))(bc:ws≠[]):rk [bq.c1 R os,.int x]=some (.tuple (ws.map bq.wT)):=by
 have aw:a3 gZ [(av 0),(av 1)] [some (unop%WK 0),some (.aa (.int x)),none]=some (.tuple (ws.map bq.wT)):=by
  simp only[a3,args,av,h_,ha,cz,eb,hw]
 have aN:gP (gT (nm 2)) [some (unop%WK 0),some (.aa (.int x)),some (.aa (.tuple (ws.map bq.wT)))]=some false:=by
  cases ws with
  |nil=>exact absurd rfl bc
  |cons w ws=>rfl
 show Option.bind (rl [some (unop%WK 0),some (.aa (.int x)),none]) _=_
 have:rl [some (unop%WK 0),some (.aa (.int x)),none]=some (.dE (.tuple (ws.map bq.wT))):=by
  unfold rl;refine nu aw ?_;simp only[jl,i1];unfold seq iff;rw[aN];rfl
 rw[this];rfl
def ali:rS.p6=i9.p6:=rfl
def aid{p:bb}{R:Int}{os:List Op}{x bV:Int}{c:a5}{b:List Nat}{ws:List (List Nat)}{g:List Nat->Option Nat}(hw:gZ [bq.c1 R os,.int x]=some (.tuple ((b::ws).map bq.wT)))
  (bg:∀w∈b::ws,ks [cA p,bq.c1 R os,ee c,bq.wT w,.int bV]=some (kk (g w))/\∀q,g w=some q->q<99):ve [cA p,bq.c1 R os,ee c,.int x,.int bV]=some (bq.wT (kO g b ws)):=by
 have k1:∀w∈b::ws,B2 (a3 wL [(a3 ks [(av 1),(av 2),(av 3),(av 0),(av 5)])]) [some (.aa (cA p)),some (unop%WK 0),some (.aa (ee c)),some (.aa (.int x)),some (.aa (.int bV))] (bq.wT w)=some (l5 (g w)):=λw h=>by
  have e:a3 wL [(a3 ks [(av 1),(av 2),(av 3),(av 0),(av 5)])] [some (.aa (bq.wT w)),some (.aa (cA p)),some (unop%WK 0),some (.aa (ee c)),some (.aa (.int x)),some (.aa (.int bV))]=some (l5 (g w)):=by
   simp only[a3,args,av,h_,ha,cz,eb,(bg w h).1];cases g w <;> rfl
  unfold B2;rw[e];simp only[cz,akF,if_true]
 have az:D2 [some (.aa (cA p)),some (unop%WK 0),some (.aa (ee c)),some (.aa (.int x)),some (.aa (.int bV))]=some (.dE (bq.wT (kO g b ws))):=by
  have a:a3 rk [(av 1),(av 3)] [some (.aa (cA p)),some (unop%WK 0),some (.aa (ee c)),some (.aa (.int x)),some (.aa (.int bV))]=some (.tuple ((b::ws).map bq.wT)):=by
   simp only[a3,args,av,h_,ha,cz,eb,Ue hw (by simp)]
  unfold D2 b' Ep;rw[a];simp only[cz,c8,JC,k1 b (by simp)];rw[M0 ws b λw h=>⟨k1 w h,(bg w h).2⟩];rfl
 show Option.bind (D2 [some (.aa (cA p)),some (unop%WK 0),some (.aa (ee c)),some (.aa (.int x)),some (.aa (.int bV))]) _=_
 rw[az];rfl
noncomputable def V(ns:List Int)(p:bb)(R:Int)(os:List Op)(m:Int)(c:a5)(bV:Int)(dM dh c6 fv fF eo:Option aR):Ev:=
 [some (.aa (eR ns)),some (.aa (cA p)),some (unop%WK 0),some (.aa (.int m)),some (.aa (ee c)),some (.aa (.int bV)),dM,dh,c6,fv,fF,eo]
def ah8{ns:List Int}{p:bb}{R:Int}{os:List Op}{m x bV:Int}{c:a5}{ws:List (List Nat)}{g:List Nat->Option Nat}(aS:0<=x)(bN:x<1000)(hw:gZ [bq.c1 R os,.int x]=some (.tuple (ws.map bq.wT)))
  (bg:∀w∈ws,ks [cA p,bq.c1 R os,ee c,bq.wT w,.int bV]=some (kk (g w))/\∀q,g w=some q->q<99) (dh c6 fv fF eo:Option aR):
  xi (rD (a3 ve [(av 1),(av 2),(av 4),(av 6),(av 5)])) (vw wR [.v (av 1),.v (av 2),.v (av 4),.v (av 6),.v (av 5)]) 1 (V ns p R os m c bV (unop%Wx 0) dh c6 fv fF eo)=some (kP g ws,V ns p R os m c bV (unop%Wx 0) dh c6 fv fF eo):=by
 have lD:rS.p6 [.aa (bq.c1 R os),.aa (.int x)]=ws.isEmpty:=by
  rw[ali];exact i9.adM hw aS bN
 have mm:vw wR [.v (av 1),.v (av 2),.v (av 4),.v (av 6),.v (av 5)] (V ns p R os m c bV (unop%Wx 0) dh c6 fv fF eo)=ws.isEmpty:=by
  show rS.p6 [.aa (bq.c1 R os),.aa (.int x)]=_
  exact lD
 unfold xi;rw[mm];cases ws with
|nil=>rfl
|cons b ws=>
  have q:=aid (p:=p) (c:=c) (bV:=bV) hw bg;have eO:a3 ve [(av 1),(av 2),(av 4),(av 6),(av 5)] (V ns p R os m c bV (unop%Wx 0) dh c6 fv fF eo)=some (bq.wT (kO g b ws)):=by
   simp only[V,a3,args,av,h_,ha,cz,eb,q]
  simp only[List.isEmpty_cons,lN,if_false,Eg,rD,eO,eb];rfl
noncomputable def pJ:bK:=(seq (asg 9 (a3 ks [(av 1),(av 2),(av 4),(av 8),(av 5)])) (seq (asg 10 (av 9)) (seq (iff (bO (cX g5 (nm 9))) (asg 10 (ae (.int 99))) skip) (app 7 (bo [(cX hp (nm 10)),(av 8)])))))
theorem TK{ns:List Int}{p:bb}{R:Int}{os:List Op}{m bV:Int}{c:a5}{g:List Nat->Option Nat}(dM eo:Option aR):∀(ws:List (List Nat)) (acc:List T) (c6 fv fF:Option aR),acc.length+ws.length<=1000->(∀w∈ws,ks [cA p,bq.c1 R os,ee c,bq.wT w,.int bV]=some (kk (g w)))->∃m3 adY adW,forL (bH 8) pJ (ws.map bq.wT) (V ns p R os m c bV dM (some (.own acc)) c6 fv fF eo)=some (.bG (V ns p R os m c bV dM (some (.own (acc++ws.map (eK g)))) m3 adY adW eo))
| [],acc,c6,fv,fF,_,_=>⟨c6,fv,fF,by rw[jk,jk,lO];rfl⟩
|w::ws,acc,c6,fv,fF,aI,bg=>by
  have e:=bg w (by simp);simp only[fy] at aI;obtain⟨a,b,d,bM⟩:=TK (ns:=ns) (m:=m) dM eo ws (acc++[eK g w]) (some (.aa (bq.wT w))) (some (.aa (kk (g w)))) (unop%WV 0) (by simp;omega) λy a7=>bg y (dF _ a7);refine⟨a,b,d,?_⟩;have step:pJ (V ns p R os m c bV dM (some (.own acc)) (some (.aa (bq.wT w))) fv fF eo)=some (.bG (V ns p R os m c bV dM (some (.own (acc++[eK g w]))) (some (.aa (bq.wT w))) (some (.aa (kk (g w)))) (unop%WV 0) eo)):=by
   unfold pJ;refine nu (t:=kk (g w)) (by
    simp only[V,a3,args,av,h_,ha,cz,eb,e]) ?_
   refine nu (t:=kk (g w)) rfl ?_
   have ap:app 7 (bo [(cX hp (nm 10)),(av 8)]) (V ns p R os m c bV dM (some (.own acc)) (some (.aa (bq.wT w))) (some (.aa (kk (g w)))) (unop%WV 0) eo)=some (.bG (V ns p R os m c bV dM (some (.own (acc++[eK g w]))) (some (.aa (bq.wT w))) (some (.aa (kk (g w)))) (unop%WV 0) eo)):=by
    have t:bo [(cX hp (nm 10)),(av 8)] (V ns p R os m c bV dM (some (.own acc)) (some (.aa (bq.wT w))) (some (.aa (kk (g w)))) (unop%WV 0) eo)=some (eK g w):=rfl;have W5:acc.length<big:=by unfold big;omega
    show (Option.bind (bo [(cX hp (nm 10)),(av 8)] (V ns p R os m c bV dM (some (.own acc)) (some (.aa (bq.wT w))) (some (.aa (kk (g w)))) (unop%WV 0) eo)) λt=>if acc.length<big then some (Out.bG ((V ns p R os m c bV dM (some (.own acc)) (some (.aa (bq.wT w))) (some (.aa (kk (g w)))) (unop%WV 0) eo).set 7 (some (.own (acc++[t]))))) else none)=_
    rw[t];simp only[cz,if_pos W5];rfl
   cases aX:g w with
   |none=>
    rw[aX] at ap;refine rq (ε':=V ns p R os m c bV dM (some (.own acc)) (some (.aa (bq.wT w))) (some (.aa (kk none))) (some (.aa (.int (fL none:Int)))) eo) rfl ?_;exact ap
   |some q=>
    rw[aX] at ap;refine rq (ε':=V ns p R os m c bV dM (some (.own acc)) (some (.aa (bq.wT w))) (some (.aa (kk (some q)))) (some (.aa (.int (fL (some q):Int)))) eo) rfl ?_;exact ap
  have iN:bH 8 (bq.wT w) (V ns p R os m c bV dM (some (.own acc)) c6 fv fF eo)=some (V ns p R os m c bV dM (some (.own acc)) (some (.aa (bq.wT w))) fv fF eo):=rfl;rw[c8,forL];simp only[iN,cz,step];rw[bM,c8,List.append_assoc];rfl
noncomputable def AD:bK:=(seq (gY 7 (eF [])) (seq (ef (dV (a3 gZ [(av 2),(av 6)])) (bH 8) pJ) (seq (asg 11 (bo [(ae (.str "refused")),(ae (.int 1))])) (seq (iff (bO (aq h5 (nm 7) (eF []))) (asg 11 (bo [(ae (.str "told")),(aq aZ (a3 qq [(nm 7)]) (ae (.int 1)))])) skip) (yq (y' (an8 h5 (xi (rD (a3 ve [(av 1),(av 2),(av 4),(av 6),(av 5)])) (vw wR [.v (av 1),.v (av 2),.v (av 4),.v (av 6),.v (av 5)]) 1) (rD (av 11)))) (b' (ae (.bool false))) skip)))))
def alh{ns:List Int}{p:bb}(wp:Wp p){R:Int}{os:List Op}(d:bq.Drawn R os)(au:rT p os){m bV:Int}(aM:1<=bV){c:a5}(ax:br p c){x:Int}(aS:1<=x)(bN:x<=R)(dh c6 fv fF eo:Option aR):∃uF uG y7 y3 y4,AD (V ns p R os m c bV (unop%Wx 0) dh c6 fv fF eo)=some (.bG (V ns p R os m c bV (unop%Wx 0) uF uG y7 y3 y4)):=by
 have Ze:=d.p5;obtain⟨ws,m6,o8,_⟩:=bq.aft d x;rw[<- ah4] at o8;have wf:ws.length<=36:=ew.afr (i9.aaX d) (by simpa using d.len) m6;have pw:ws.Pairwise (·<·):=ew.QD m6;have afv:=bq.QC _ _ _ m6;have afu:=ew.afq m6;have aL:∀w∈ws,∀k∈w,k<os.length:=λw hw k aL=>by
  obtain⟨q,hf,_⟩:=(afu w).mp hw;simpa using i9.Bd hf k aL
 have bg:∀w∈ws,ks [cA p,bq.c1 R os,ee c,bq.wT w,.int bV]=some (kk (lg p os bV c w 0))/\∀q,lg p os bV c w 0=some q->q<99:=λw hw=>⟨aiX wp (R:=R) au aM ax (aL w hw),λq e=>by
  have:=Uc p os bV w c 0 q e;have:=afv w hw;omega⟩
 obtain⟨a,b,e,wl⟩:=TK (ns:=ns) (m:=m) (g:=λw=>lg p os bV c w 0) (unop%Wx 0) eo ws [] c6 fv fF (by simp;omega) λw hw=>(bg w hw).1;rw[rd] at wl;have j0:=λeo=>ah8 (ns:=ns) (m:=m) (g:=λw=>lg p os bV c w 0) (by omega) (by omega) o8 bg (some (.own (ws.map (eK λw=>lg p os bV c w 0)))) a b e eo;generalize (λw=>lg p os bV c w 0)=g at bg wl j0;refine⟨some (.own (ws.map (eK g))),a,b,e,some (.aa (kP g ws)),?_⟩;unfold AD;refine rq (ε':=V ns p R os m c bV (unop%Wx 0) (some (.own [])) c6 fv fF eo) rfl ?_;have it:dV (a3 gZ [(av 2),(av 6)]) (V ns p R os m c bV (unop%Wx 0) (some (.own [])) c6 fv fF eo)=some (ws.map bq.wT):=by
  simp only[V,dV,a3,args,av,h_,ha,cz,eb,o8]
 refine rq (ε':=V ns p R os m c bV (unop%Wx 0) (some (.own (ws.map (eK g)))) a b e eo) (by
  unfold ef;rw[it];exact wl) ?_
 refine nu (t:=kP g []) rfl ?_
 refine rq (ε':=V ns p R os m c bV (unop%Wx 0) (some (.own (ws.map (eK g)))) a b e (some (.aa (kP g ws)))) ?_ ?_
 ·cases ws with
  |nil=>rfl
  |cons w ws=>
   have dK:aq h5 (nm 7) (eF []) (V ns p R os m c bV (unop%Wx 0) (some (.own ((w::ws).map (eK g)))) a b e (some (.aa (kP g []))))=some (.bool true):=by
    show h5 (.list ((w::ws).map (eK g))) (.list [])=_
    have k1:fe (.list ((w::ws).map (eK g)))=true:=by
     have:=T5 g (w::ws);unfold lB at this;simp only[gV,decide_eq_true_eq] at this;have bk:fM ((w::ws).map (eK g))<=3:=alL g (w::ws);simp only[fe,PyData.canLay0,m',this.1,Bool.true_and,decide_eq_true_eq];exact decide_eq_true (by omega)
    have k2:fe (.list ([]:List T))=true:=by decide
    unfold h5;rw[k1,k2];simp[f6,PyData.eqvAll]
   have mn:qq [.list ((w::ws).map (eK g))]=some (eK g (kO g w ws)):=by
    unfold qq;dsimp only;rw[if_pos (T5 g (w::ws)),c8];exact MZ ws w pw
   have en:bo [(ae (.str "told")),(aq aZ (a3 qq [(nm 7)]) (ae (.int 1)))] (V ns p R os m c bV (unop%Wx 0) (some (.own ((w::ws).map (eK g)))) a b e (some (.aa (kP g []))))=some (kP g (w::ws)):=by
    have o3:a3 qq [(nm 7)] (V ns p R os m c bV (unop%Wx 0) (some (.own ((w::ws).map (eK g)))) a b e (some (.aa (kP g []))))=some (eK g (kO g w ws)):=by
     show Option.bind (some [PyData.list ((w::ws).map (eK g))]) qq=_
     rw[cz,mn]
    have o4:aq aZ (a3 qq [(nm 7)]) (ae (.int 1)) (V ns p R os m c bV (unop%Wx 0) (some (.own ((w::ws).map (eK g)))) a b e (some (.aa (kP g []))))=some (bq.wT (kO g w ws)):=by
     unfold aq;rw[o3];rfl
    unfold bo args args args;rw[o4];rfl
   show iff _ _ skip (V ns p R os m c bV (unop%Wx 0) (some (.own ((w::ws).map (eK g)))) a b e (some (.aa (kP g []))))=_
   unfold iff bO;rw[dK];simp only[cz,if_true];unfold asg;rw[en];rfl
 ·have t:=j0 (some (.aa (kP g ws)));unfold yq y' an8;rw[t];simp only[cz];have lC:rD (av 11) (V ns p R os m c bV (unop%Wx 0) (some (.own (ws.map (eK g)))) a b e (some (.aa (kP g ws))))=some (kP g ws,V ns p R os m c bV (unop%Wx 0) (some (.own (ws.map (eK g)))) a b e (some (.aa (kP g ws)))):=rfl;rw[lC];simp only[cz,i9.aa4 (alK g ws)];rfl
theorem TS{ns:List Int}{p:bb}(wp:Wp p){R:Int}{os:List Op}(d:bq.Drawn R os)(au:rT p os){m bV:Int}(aM:1<=bV){c:a5}(ax:br p c):∀(xs:List Int) (dM dh c6 fv fF eo:Option aR),(∀x∈xs,1<=x/\x<=R)->∃y6 uF uG y7 y3 y4,forL (bH 6) AD (xs.map .int) (V ns p R os m c bV dM dh c6 fv fF eo)=some (.bG (V ns p R os m c bV y6 uF uG y7 y3 y4))
| [],dM,dh,c6,fv,fF,eo,_=>⟨dM,dh,c6,fv,fF,eo,rfl⟩
|x::xs,dM,dh,c6,fv,fF,eo,h=>by
  have hx:=h x (by simp);obtain⟨a,b,e,f,g,st⟩:=alh (ns:=ns) (m:=m) wp d au aM ax hx.1 hx.2 dh c6 fv fF eo;obtain⟨kF,anJ,bx,GF,g',iT,bM⟩:=TS (ns:=ns) (m:=m) wp d au aM ax xs (unop%Wx 0) a b e f g λy a7=>h y (dF _ a7);refine⟨kF,anJ,bx,GF,g',iT,?_⟩;have iN:bH 6 (.int x) (V ns p R os m c bV dM dh c6 fv fF eo)=some (V ns p R os m c bV (unop%Wx 0) dh c6 fv fF eo):=rfl;rw[c8,forL];simp only[iN,cz,st];exact bM
def ajI(ns:List Int)(h:ns.length<=63):vv [eR ns]=some (.bool true):=by
 obtain⟨m0,am',x0⟩:=DY ns 0;obtain⟨jy,ZY,aS⟩:=DY ns 1;obtain⟨hJ,uc,bN⟩:=DY ns 2;obtain⟨p,aM,xp⟩:=ako m0;obtain⟨R,os,d,au,CQ⟩:=ag5 aM jy ZY;obtain⟨es,ZJ,am5,QH⟩:=alg aM hJ 8 uc (by decide);have O':∀e∈es,l_ p e:=λe he=>(ZJ e he).ok;have wp:=aM.wp;have QF:=aM.begun;have gn:=aM.gn;have d4:=aj0 p (by omega) wp;have sJ:=S3 p (px p) es QF wp O' (by omega);have YW:fresh (px p)=px p:=rfl;have ws:=QF.run O';rw[YW] at sJ;generalize run p (px p) es=c at sJ ws;obtain⟨aP,_,o_⟩:=divQ hJ 512;obtain⟨a_,_,anp,anq,pd⟩:=modQ aP 20;have Z':1<=1+a_:=by omega
 have iP:=d.a_;have Ze:=d.p5;obtain⟨y6,uF,uG,y7,y3,y4,ze⟩:=TS (ns:=ns) (m:=hJ) wp d au Z' ws ((List.range R.toNat).map λ(k:Nat)=>1+(k:Int)) none none none none none none (λx hx=>by
  obtain⟨k,aL,rfl⟩:=d_.mp hx;have:=List.mem_range.mp aL;omega)
 have afx:kX [eR ns,.int 0]=some (.int m0):=x0;have afy:kX [eR ns,.int 1]=some (.int jy):=aS;have afz:kX [eR ns,.int 2]=some (.int hJ):=bN;suffices az:Aj [some (.aa (eR ns)),none,none,none,none,none,none,none,none,none,none,none]=some (.dE (.bool true)) by
  unfold vv c5;simp only[c8,jk,fy,n_,rf,rd];exact congrArg (λo=>Option.bind o _) az
 unfold Aj;refine nu (t:=cA p) (by simp only[a3,args,av,ae,ha,cz,eb,afx,xp]) ?_;simp only[jl,i1];refine nu (t:=bq.c1 R os) (by simp only[a3,args,av,ae,h_,ha,cz,eb,afy,CQ]) ?_;simp only[jl,i1];refine nu (t:=.int hJ) (by simp only[a3,args,av,ae,ha,cz,eb,afz]) ?_;simp only[jl,i1];refine nu (t:=ee c) (by simp only[a3,args,av,ae,h_,ha,cz,eb,QH,d4,sJ]) ?_;simp only[jl,i1];refine nu (t:=.int (1+a_)) (by simp only[aq,nm,ae,h_,ha,cz,o_,pd,ie]) ?_;simp only[jl,i1];show seq (ef (xf (ae (.int 1)) (aq b4 (unop%WN 0) (ae (.int 1)))) (bH 6) AD) (b' (ae (.bool true))) (V ns p R os hJ c (1+a_) none none none none none none)=_;have it:xf (ae (.int 1)) (aq b4 (unop%WN 0) (ae (.int 1))) (V ns p R os hJ c (1+a_) none none none none none none)=some (((List.range R.toNat).map λ(k:Nat)=>1+(k:Int)).map .int):=by
  have aw:aq b4 (unop%WN 0) (ae (.int 1)) (V ns p R os hJ c (1+a_) none none none none none none)=some (.int (R+1)):=by
   simp only[V,aq,nm,ae,h_,ha,cz,amI,ie]
  have n1:(anC 1 && anC (R+1))=true:=by
   simp only[anC,gV,decide_eq_true_eq];omega
  unfold xf;rw[aw];simp only[ae,cz,n1,if_true];unfold km;rw[oa];have:(R+1 - 1).toNat=R.toNat:=by omega
  rw[this];rfl
 refine rq (ε':=V ns p R os hJ c (1+a_) y6 uF uG y7 y3 y4) ?_ rfl
 unfold ef;rw[it];exact ze
end qz
end
end
section
namespace qz
open PySem PySem.Spec PyProof.Rows bu D cg rL rS
set_option hygiene false in
local macro_rules | `(unop% lk ($f, $gQ, $eB, $n, $q, $s, $a, $b, $c, $d, $e, $g, $h)) => `(K.lookup $f = some ⟨$gQ, $eB, .func (kS $n $q (mr $s) (fh $s) (bQ $s) .none $a $b $c $d $e $g), $h⟩)
set_option hygiene false in
local macro_rules | `(binop% cd $c $q) => `(qc K $c $q = true)
set_option hygiene false in
local macro_rules | `(unop% aG $c) => `(m8 K (.ref $c) = true)
set_option hygiene false in
local macro_rules | `(unop% hE $c) => `(PySem.W.isFn K (.ref $c) = true)
set_option hygiene false in
local macro_rules | `(binop% ns $q $c) => `(wk K iY $q = some (some (.ref $c)))
set_option hygiene false in
local macro_rules | `(unop% zn $q) => `(wk K iY $q = some none)
set_option hygiene false in
local macro_rules | `(unop% fn ($C, $q, $c)) => `(lL K (.ref $C) $q = some (some (.ref $c)))
set_option hygiene false in
local macro_rules | `(binop% mQ $C $q) => `(lL K (.ref $C) $q = some none)
local macro_rules | `(unop% mo $x) => `(($x).mono (by decide))
set_option hygiene false in
local macro_rules | `(unop% b9 ($f $n $as*)) => `($f (P := l.prog) (w := w) (mg := mg) (base := base) (k := $n) $as*)
def all_mk{l:PySem.W.OpenLaw}{w:b8}{K:a'}{h:bL}{mg:Str->Option ao}{ck bI f1 f2 i' f4 ja G2 A' f8 Ba GG AP AQ AR AS AU GH AV AW AX AY AZ A0 A1 A2 A3 A4 A5 GI A6 A7 A8 A9 A_ GJ GK GL GN GO GP GQ GR GS GU GV GW GX GY GZ G0 G1 vF vE Gq mK kE xz hN jj lK:aj}{abT Wa ab4 Wl ace Wx acq WJ acC WV acE WW acF WX acG WY acH WZ abU Wb abV Wc abW Wd abX We abY Wf abZ Wg ab0 Wh ab1 Wi ab2 Wj ab3 Wk ab5 Wm ab6 Wn ab7 Wo ab8 Wq ab9 Wr ab_ Ws ab' Wt aca Wu acb Wv acd Ww acf Wy acg Wz ach WA aci WB acj WC ack WD acm WE acn WG aco WH acp WI acr WK acs WL acu WM acv WN acw WO acx WQ acy WR acz WS acA WT acB WU acD NM acJ acI:Option aj}{Cy iy ael aew aeH aeJ aeK aeL aeM ad3 ad4 ad5 ad6 ad7 ad8 ad9 ad_ ad' aea aeb aec aed aee aef aeg aeh aei aej aek aem aen aeo aep aeq aer aes aet aeu aev aex aey aez aeA aeB aeC aeD aeE aeF aeG aeI aeO aeN:Array (Option ao)}{aa6 _L X0 acP NS Xa abf _W Ya ac0 N3 Xl abq aah Yl ac' Oc Xw abC aas Yw adm Oq XH abN aaD YH ady OC XT abP aaE YI adz OD XU abQ aaF YJ adA OE XW abR aaG YK adB OF XX abS aaH YL adC OG XY aa7 _M X1 acQ NT Xb aa8 _N X2 acR NU Xc aa9 _O X3 acS NV Xd aa_ _P X4 acT NW Xe aa' _Q X5 acU NX Xf aba _R X6 acV NY Xg abb _S X7 acW NZ Xh abc _T X8 acX N0 Xi abd _U X9 acY N1 Xj abe _V X_ acZ N2 Xk abg _X Yb ac1 N4 Xm abh _Y Yc ac2 N5 Xn abi _Z Yd ac3 N6 Xo abj aaa Ye ac4 N7 Xp abk aab Yf ac5 N8 Xq abl aac Yg ac6 N9 Xr abm aad Yh ac7 N_ Xs abn aae Yi ac8 N' Xt abo aaf Yj ac9 Oa Xu abp aag Yk ac_ Ob Xv abr aai Ym ada Od Xx abt aaj Yn adb Oe Xy abu aak Yo ade Of Xz abv aal Yp adf Og XA abw aam Yq adg Oh XB abx aan Yr adh Oi XC aby aao Ys adi Oj XD abz aap Yt adj Ol XE abA aaq Yu adk Om XF abB aar Yv adl Oo XG abD aat Yx adn Ot XI abE aau Yy ado Ou XJ abF aav Yz adp Ov XK abG aaw YA adq Ow XM abH aax YB ads Ox XN abI aay YC adt Oy XO abJ aaz YD adu Oz XP abK aaA YE adv OA XQ abL aaB YF adw OB XR abM aaC YG adx XS abO PH OL P4 OK:ao}{KJ KH afb afc ae_ ae' KG KI:Tok}{aaV aaU:Nat}(X:K.In h)(G:h.Ns iY mg)(ZK:mg "law"=some (.ref ck))(FA:binop%ns "Course" bI)(Kc:PySem.W.plainGet K bI Str.empty=true)(Hn:PySem.W.hasDictIn K bI=true)(Ke:PySem.W.plainOver K bI=true)(Ks:lL K (.ref bI) "__setattr__"=some (some (.builtin "object.__setattr__")))(JD:PySem.W.makesIn K bI=true)(IM:unop%aG bI)(JM:binop%mQ bI "plan")(JN:binop%mQ bI "mode")(JR:binop%mQ bI "left")(JS:binop%mQ bI "came")(JT:binop%mQ bI "lines")(JU:binop%mQ bI "shunts")(JV:binop%mQ bI "siren")(JW:binop%mQ bI "alarms")(JX:binop%mQ bI "tries")(JY:binop%mQ bI "locked")(JO:binop%mQ bI "used")(JP:binop%mQ bI "past")(JQ:binop%mQ bI "told")(a1:binop%ns "_law_drawn" f1)(cw:unop%lk (f1,aa6,abT,"_law_drawn","_law_drawn",DI,_L,X0,acP,Wa,NS,Xa,Cy))(cT:binop%cd NS "_law_drawn")(k1:unop%aG f1)(a2:binop%ns "_law_plan" f2)(cE:unop%lk (f2,abf,ab4,"_law_plan","_law_plan",zP,_W,Ya,ac0,Wl,N3,Xl,iy))(dp:binop%cd N3 "_law_plan")(k2:unop%aG f2)(fj:binop%ns "_law_house" i')(yB:unop%lk (i',abq,ace,"_law_house","_law_house",DG,aah,Yl,ac',Wx,Oc,Xw,ael))(fX:binop%cd Oc "_law_house")(k3:unop%aG i')(hZ:binop%ns "_law_house_of" f4)(Ji:unop%lk (f4,abC,acq,"_law_house_of","_law_house_of",zC,aas,Yw,adm,WJ,Oq,XH,aew))(c4:binop%cd Oq "_law_house_of")(mW:unop%aG f4)(kG:binop%ns "_law_cell_at" ja)(Js:unop%lk (ja,abN,acC,"_law_cell_at","_law_cell_at",Dt,aaD,YH,ady,WV,OC,XT,aeH))(jP:binop%cd OC "_law_cell_at")(k5:unop%aG ja)(kH:binop%ns "_law_mixed" G2)(Jt:unop%lk (G2,abP,acE,"_law_mixed","_law_mixed",DF,aaE,YI,adz,WW,OD,XU,aeJ))(Gl:binop%cd OD "_law_mixed")(IJ:unop%aG G2)(xJ:unop%fn (bI,"state",A'))(Ih:unop%hE A')(Ju:unop%lk (A',abQ,acF,"state","Course.state",Dh,aaF,YJ,adA,WX,OE,XW,aeK))(Gm:binop%cd OE "Course.state")(B0:unop%aG A')(Fy:unop%fn (bI,"__init__",f8))(Ii:unop%hE f8)(B6:unop%lk (f8,abR,acG,"__init__","Course.__init__",wF,aaG,YK,adB,WY,OF,XX,aeL))(Gn:binop%cd OF "Course.__init__")(IK:unop%aG f8)(Fz:unop%fn (bI,"tell",Ba))(Ij:unop%hE Ba)(Jv:unop%lk (Ba,abS,acH,"tell","Course.tell",Dj,aaH,YL,adC,WZ,OG,XY,aeM))(Gp:binop%cd OG "Course.tell")(B1:unop%aG Ba)(EU:binop%ns "kind_of" GG)(IP:unop%lk (GG,aa7,abU,"kind_of","kind_of",DJ,_M,X1,acQ,Wb,NT,Xb,ad3))(FH:binop%cd NT "kind_of")(Io:unop%aG GG)(EV:unop%fn (bI,"be_loud",AP))(HW:unop%hE AP)(IQ:unop%lk (AP,aa8,abV,"be_loud","Course.be_loud",C9,_N,X2,acR,Wc,NU,Xc,ad4))(FI:binop%cd NU "Course.be_loud")(BD:unop%aG AP)(EW:unop%fn (bI,"alarm",AQ))(i12:unop%hE AQ)(IS:unop%lk (AQ,aa9,abW,"alarm","Course.alarm",Di,_O,X3,acS,Wd,NV,Xd,ad5))(FJ:binop%cd NV "Course.alarm")(BE:unop%aG AQ)(EX:unop%fn (bI,"come_in",AR))(HX:unop%hE AR)(IT:unop%lk (AR,aa_,abX,"come_in","Course.come_in",C8,_P,X4,acT,We,NW,Xe,ad6))(FK:binop%cd NW "Course.come_in")(BF:unop%aG AR)(EY:unop%fn (bI,"disturb",AS))(HY:unop%hE AS)(IU:unop%lk (AS,aa',abY,"disturb","Course.disturb",C7,_Q,X5,acU,Wf,NX,Xf,ad7))(FL:binop%cd NX "Course.disturb")(BG:unop%aG AS)(EZ:unop%fn (bI,"line",AU))(HZ:unop%hE AU)(IV:unop%lk (AU,aba,abZ,"line","Course.line",Dk,_R,X6,acV,Wg,NY,Xg,ad8))(FN:binop%cd NY "Course.line")(BH:unop%aG AU)(E0:binop%ns "code_of" GH)(IW:unop%lk (GH,abb,ab0,"code_of","code_of",DK,_S,X7,acW,Wh,NZ,Xh,ad9))(FO:binop%cd NZ "code_of")(Ip:unop%aG GH)(E1:unop%fn (bI,"is_used_up",AV))(H0:unop%hE AV)(IX:unop%lk (AV,abc,ab1,"is_used_up","Course.is_used_up",C1,_T,X8,acX,Wi,N0,Xi,ad_))(FP:binop%cd N0 "Course.is_used_up")(BI:unop%aG AV)(aof:unop%fn (bI,"take_wrong",AW))(H2:unop%hE AW)(IY:unop%lk (AW,abd,ab2,"take_wrong","Course.take_wrong",CZ,_U,X9,acY,Wj,N1,Xj,ad'))(FQ:binop%cd N1 "Course.take_wrong")(BJ:unop%aG AW)(E3:unop%fn (bI,"is_untimely",AX))(H3:unop%hE AX)(IZ:unop%lk (AX,abe,ab3,"is_untimely","Course.is_untimely",CX,_V,X_,acZ,Wk,N2,Xk,aea))(FR:binop%cd N2 "Course.is_untimely")(BK:unop%aG AX)(E4:unop%fn (bI,"bare_zones",AY))(H4:unop%hE AY)(I0:unop%lk (AY,abg,ab5,"bare_zones","Course.bare_zones",wA,_X,Yb,ac1,Wm,N4,Xm,aeb))(FT:binop%cd N4 "Course.bare_zones")(BL:unop%aG AY)(E5:unop%fn (bI,"what_is_against",AZ))(H5:unop%hE AZ)(I1:unop%lk (AZ,abh,ab6,"what_is_against","Course.what_is_against",CW,_Y,Yc,ac2,Wn,N5,Xn,aec))(FU:binop%cd N5 "Course.what_is_against")(BM:unop%aG AZ)(E6:unop%fn (bI,"end_leaving",A0))(H6:unop%hE A0)(I2:unop%lk (A0,abi,ab7,"end_leaving","Course.end_leaving",CY,_Z,Yd,ac3,Wo,N6,Xo,aed))(FV:binop%cd N6 "Course.end_leaving")(BN:unop%aG A0)(E7:unop%fn (bI,"do_set",A1))(H7:unop%hE A1)(I3:unop%lk (A1,abj,ab8,"do_set","Course.do_set",Dc,aaa,Ye,ac4,Wq,N7,Xp,aee))(FW:binop%cd N7 "Course.do_set")(BO:unop%aG A1)(E8:unop%fn (bI,"do_unset",A2))(H8:unop%hE A2)(I4:unop%lk (A2,abk,ab9,"do_unset","Course.do_unset",C5,aab,Yf,ac5,Wr,N8,Xq,aef))(FX:binop%cd N8 "Course.do_unset")(BP:unop%aG A2)(E9:unop%fn (bI,"do_deed",A3))(H9:unop%hE A3)(I5:unop%lk (A3,abl,ab_,"do_deed","Course.do_deed",C6,aac,Yg,ac6,Ws,N9,Xr,aeg))(FY:binop%cd N9 "Course.do_deed")(BQ:unop%aG A3)(E_:unop%fn (bI,"take_right",A4))(H_:unop%hE A4)(I6:unop%lk (A4,abm,ab',"take_right","Course.take_right",C0,aad,Yh,ac7,Wt,N_,Xs,aeh))(FZ:binop%cd N_ "Course.take_right")(BR:unop%aG A4)(E':unop%fn (bI,"code",A5))(H':unop%hE A5)(I7:unop%lk (A5,abn,aca,"code","Course.code",Dl,aae,Yi,ac8,Wu,N',Xt,aei))(F0:binop%cd N' "Course.code")(BS:unop%aG A5)(Fb:binop%ns "lessened" GI)(I8:unop%lk (GI,abo,acb,"lessened","lessened",Dz,aaf,Yj,ac9,Wv,Oa,Xu,aej))(F1:binop%cd Oa "lessened")(Iq:unop%aG GI)(Fc:unop%fn (bI,"count_down",A6))(Ia:unop%hE A6)(I9:unop%lk (A6,abp,acd,"count_down","Course.count_down",C3,aag,Yk,ac_,Ww,Ob,Xv,aek))(F2:binop%cd Ob "Course.count_down")(BU:unop%aG A6)(Fd:unop%fn (bI,"end_coming",A7))(Ib:unop%hE A7)(I_:unop%lk (A7,abr,acf,"end_coming","Course.end_coming",C2,aai,Ym,ada,Wy,Od,Xx,aem))(F3:binop%cd Od "Course.end_coming")(BV:unop%aG A7)(Fe:unop%fn (bI,"end_time",A8))(Ic:unop%hE A8)(I':unop%lk (A8,abt,acg,"end_time","Course.end_time",C4,aaj,Yn,adb,Wz,Oe,Xy,aen))(F4:binop%cd Oe "Course.end_time")(BW:unop%aG A8)(Ff:unop%fn (bI,"ticks",A9))(Ie:unop%hE A9)(Ja:unop%lk (A9,abu,ach,"ticks","Course.ticks",Dg,aak,Yo,ade,WA,Of,Xz,aeo))(F5:binop%cd Of "Course.ticks")(BX:unop%aG A9)(Fg:unop%fn (bI,"happen",A_))(Ig:unop%hE A_)(Jb:unop%lk (A_,abv,aci,"happen","Course.happen",C',aal,Yp,adf,WB,Og,XA,aep))(F6:binop%cd Og "Course.happen")(BY:unop%aG A_)(Fh:binop%ns "course_of" GJ)(Jc:unop%lk (GJ,abw,acj,"course_of","course_of",Du,aam,Yq,adg,WC,Oh,XB,aeq))(F7:binop%cd Oh "course_of")(Ir:unop%aG GJ)(Fi:binop%ns "after" GK)(Jd:unop%lk (GK,abx,ack,"after","after",D5,aan,Yr,adh,WD,Oi,XC,aer))(F8:binop%cd Oi "after")(It:unop%aG GK)(Fj:binop%ns "begun" GL)(Je:unop%lk (GL,aby,acm,"begun","begun",wZ,aao,Ys,adi,WE,Oj,XD,aes))(F9:binop%cd Oj "begun")(Iu:unop%aG GL)(Fl:binop%ns "_law_event" GN)(Jf:unop%lk (GN,abz,acn,"_law_event","_law_event",DH,aap,Yt,adj,WG,Ol,XE,aet))(F_:binop%cd Ol "_law_event")(Iv:unop%aG GN)(Fm:binop%ns "_law_row" GO)(Jg:unop%lk (GO,abA,aco,"_law_row","_law_row",zU,aaq,Yu,adk,WH,Om,XF,aeu))(F':binop%cd Om "_law_row")(Iw:unop%aG GO)(Fn:binop%ns "beyond" GP)(Jh:unop%lk (GP,abB,acp,"beyond","beyond",DV,aar,Yv,adl,WI,Oo,XG,aev))(Ga:binop%cd Oo "beyond")(Iy:unop%aG GP)(Fo:binop%ns "ways_on" GQ)(Jj:unop%lk (GQ,abD,acr,"ways_on","ways_on",u5,aat,Yx,adn,WK,Ot,XI,aex))(Gb:binop%cd Ot "ways_on")(Iz:unop%aG GQ)(Fp:binop%ns "ways" GR)(Jk:unop%lk (GR,abE,acs,"ways","ways",Ea,aau,Yy,ado,WL,Ou,XJ,aey))(Gd:binop%cd Ou "ways")(IA:unop%aG GR)(Fq:binop%ns "passed" GS)(Jl:unop%lk (GS,abF,acu,"passed","passed",DT,aav,Yz,adp,WM,Ov,XK,aez))(Ge:binop%cd Ov "passed")(IB:unop%aG GS)(Fs:binop%ns "has_alarm" GU)(Jm:unop%lk (GU,abG,acv,"has_alarm","has_alarm",zD,aaw,YA,adq,WN,Ow,XM,aeA))(Gf:binop%cd Ow "has_alarm")(IC:unop%aG GU)(Ft:binop%ns "story" GV)(Jn:unop%lk (GV,abH,acw,"story","story",D4,aax,YB,ads,WO,Ox,XN,aeB))(Gg:binop%cd Ox "story")(ID:unop%aG GV)(Fu:binop%ns "caught" GW)(Jo:unop%lk (GW,abI,acx,"caught","caught",DU,aay,YC,adt,WQ,Oy,XO,aeC))(Gh:binop%cd Oy "caught")(IE:unop%aG GW)(Fv:binop%ns "_law_told" GX)(Jp:unop%lk (GX,abJ,acy,"_law_told","_law_told",pn,aaz,YD,adu,WR,Oz,XP,aeD))(Gi:binop%cd Oz "_law_told")(IF:unop%aG GX)(Az:binop%ns "ways_at_all" GY)(Jq:unop%lk (GY,abK,acz,"ways_at_all","ways_at_all",zz,aaA,YE,adv,WS,OA,XQ,aeE))(Gj:binop%cd OA "ways_at_all")(IG:unop%aG GY)(Fw:binop%ns "lateness" GZ)(Jr:unop%lk (GZ,abL,acA,"lateness","lateness",DA,aaB,YF,adw,WT,OB,XR,aeF))(Gk:binop%cd OB "lateness")(IH:unop%aG GZ)(AA:binop%ns "safest" G0)(B4:K.lookup G0=some ⟨abM,acB,.func (kS "safest" "safest" (mr ql) (fh ql) (bQ ql) .none aaC YG adx WU (.ref Gq) XS),aeG⟩)(AE:qc K (.ref Gq) "safest"=true)(BZ:unop%aG G0)(Fx:binop%ns "law" G1)(B5:K.lookup G1=some ⟨abO,acD,.func (kS "law" "law" (mr mx) (fh mx) (bQ mx) .none PH OL P4 NM (.ref mK) OK),aeI⟩)(AF:qc K (.ref mK) "law"=true)(II:unop%aG G1)(ky:unop%zn "enumerate")(hh:unop%zn "tuple")(k_:unop%zn "range")(qp:unop%zn "min")(k9:unop%zn "max")(vj:unop%zn "int")(mB:unop%zn "len")(s9:unop%zn "dict")(s_:unop%zn "list")(ta:unop%zn "zip")(vk:unop%zn "sorted")(t6:wk K iY "WRONG_IN_A_ROW"=some (some (.int 3 KJ)))(t5:wk K iY "TICKS_LOCKED"=some (some (.int 90 KH)))(x1:binop%ns "KINDS_SHUT_TO_SET" vF)(Kg:K.lookup vF=some ⟨.type "tuple",acJ,.seq #[.str "day" afb,.str "once" afc] aaV,aeO⟩)(xZ:binop%ns "KINDS_LEFT_BY" vE)(Kf:K.lookup vE=some ⟨.type "tuple",acI,.seq #[.str "inner" ae_,.str "way" ae'] aaU,aeN⟩)(t4:wk K iY "OUTSIDE"=some (some (.int 0 KG)))(anU:wk K iY "TICKS_TO_PASS"=some (some (.int 1 KI)))(G8:ri K Gq 356=true)(t7:ri K mK 420=true)(JH:binop%ns "DoorError" kE)(JL:binop%ns "NoZone" xz)(JK:binop%ns "NoWay" hN)(JI:binop%ns "NoDeed" jj)(JJ:binop%ns "NoText" lK)(zT:unop%zn "isinstance")(zS:unop%zn "ValueError")(G':M7 K kE=true)(He:En K kE xz hN jj lK hN false true false false=true):
  ∃fd:er,(∀(s:aH) (v:ao),BindsTo s fd ⟨[v],[]⟩ [("_law_script",v)])/\∀base:bL,K.In base->base.Ns iY mg->ny mg base->eY l.prog w K mg base dC 29 ck fd ["_law_script"] (@spT (o7 [(unop%Wf 0),(unop%Wc 0)]) K 1 vv):=by
 have e:=ZK.symm.trans (eE X G Fx);cases e;refine⟨kS "law" "law" (mr mx) (fh mx) (bQ mx) .none PH OL P4 NM (.ref mK) OK,λs v=>.of_eq rfl,λbase _ _ iR=>?_⟩;letI tt:cD:=⟨[(unop%Wf 0),(unop%Wc 0)],λc=>match c with|0=>["plan","mode","left","came","lines","shunts","siren","alarms","tries","locked","used","past","told"]|_=>[],λc=>match c with|0=>some bI|_=>none⟩;have a4:hi K 0 bI ["plan","mode","left","came","lines","shunts","siren","alarms","tries","locked","used","past","told"]:=⟨rfl,rfl,⟨Kc,Hn,Ke,Ks⟩,by decide +kernel,λf hf=>by
  simp only[cN,uR,or_false] at hf;rcases hf with rfl|rfl|rfl|rfl|rfl|rfl|rfl|rfl|rfl|rfl|rfl|rfl|rfl
  ·exact JM
  ·exact JN
  ·exact JR
  ·exact JS
  ·exact JT
  ·exact JU
  ·exact JV
  ·exact JW
  ·exact JX
  ·exact JY
  ·exact JO
  ·exact JP
  ·exact JQ,by decide⟩
 replace ky:=m9 X G ky;replace hh:=m9 X G hh;replace k_:=m9 X G k_;replace qp:=m9 X G qp;replace k9:=m9 X G k9;replace vj:=m9 X G vj;replace mB:=m9 X G mB;replace s9:=m9 X G s9;replace s_:=m9 X G s_;replace ta:=m9 X G ta;replace vk:=m9 X G vk;replace zT:=m9 X G zT;replace zS:=m9 X G zS;have i6:vA K mg kE xz hN jj lK:=⟨eE X G JH,eE X G JL,eE X G JK,eE X G JI,eE X G JJ,zT,zS,G'⟩;have rQ:=amo He;replace t6:=eE X G t6;replace t5:=eE X G t5;replace x1:=eE X G x1;have afh:∃(o:Obj) (its:Array ao) (n:Nat),K.lookup vF=some o/\o.cls=.type "tuple"/\o.data=.seq its n/\its.size<=cn/\Vals ((["day","once"]:List Str).map V.str) its.toList:=⟨_,_,_,Kg,rfl,rfl,by show 2<=cn;decide,(.cons ⟨_,rfl⟩ (.cons ⟨_,rfl⟩ .nil))⟩;replace xZ:=eE X G xZ;have afg:∃(o:Obj) (its:Array ao) (n:Nat),K.lookup vE=some o/\o.cls=.type "tuple"/\o.data=.seq its n/\its.size<=cn/\Vals ((["inner","way"]:List Str).map V.str) its.toList:=⟨_,_,_,Kf,rfl,rfl,by show 2<=cn;decide,(.cons ⟨_,rfl⟩ (.cons ⟨_,rfl⟩ .nil))⟩;replace t4:=eE X G t4;replace anU:=eE X G anU;have a6:=dG (st:=DI) cw cT k1;have EA:=unop%b9 (rp 0 a6 (eE X G a1));have dr:=dG (st:=zP) cE dp k2;have U_:=unop%b9 (Mm 1 dr (eE X G a2) ky (unop%mo EA) hh k_);have ot:=dG (st:=DG) yB fX k3;have U7:=unop%b9 (L3 1 ot (eE X G fj) k_ (unop%mo EA) qp k9);have pE:=dG (st:=zC) Ji c4 mW;have U8:=unop%b9 (Lr 2 pE (eE X G hZ) (unop%mo U7) vj);have qt:=dG (st:=Dt) Js jP k5;have U5:=unop%b9 (Ly 0 qt (eE X G kG) mB);have VT:=dG (st:=DF) Jt Gl IJ;have U9:=unop%b9 (zM 1 VT (eE X G kH) (unop%mo U5));have qu:=dG (st:=Dh) Ju Gm B0;have UW:=unop%b9 (Lh 0 qu (⟨xJ,Ih,B0⟩) a4 hh);have qv:=dG (st:=wF) B6 Gn IK;have UH:=unop%b9 (afT 0 qv ⟨JD,Fy,Ii,IM⟩ (eE X G FA) a4 s9 s_ ta);have VU:=dG (st:=Dj) Jv Gp B1;have anH:=unop%b9 (hv 0 VU (⟨Fz,Ij,B1⟩) a4);have Vg:=dG (st:=DJ) IP FH Io;have Nt:=unop%b9 (zN 0 Vg (eE X G EU));have Vh:=dG (st:=C9) IQ FI BD;have Nn:=unop%b9 (zq 0 Vh (⟨EV,HW,BD⟩) a4);have Vi:=dG (st:=Di) IS FJ BE;have An:=unop%b9 (qj 1 Vi (⟨EW,i12,BE⟩) a4 (unop%mo Nn) (unop%mo anH));have Vj:=dG (st:=C8) IT FK BF;have UJ:=unop%b9 (Lc 2 Vj (⟨EX,HX,BF⟩) a4 (unop%mo anH) (unop%mo An));have Vk:=dG (st:=C7) IU FL BG;have UL:=unop%b9 (Lb 3 Vk (⟨EY,HY,BG⟩) a4 (unop%mo Nt) (unop%mo An) (unop%mo anH) (unop%mo UJ));have Vl:=dG (st:=Dk) IV FN BH;have UU:=unop%b9 (Lm 4 Vl (⟨EZ,HZ,BH⟩) a4 (unop%mo anH) (unop%mo UL));have Vm:=dG (st:=DK) IW FO Ip;have U3:=unop%b9 (L5 0 Vm (eE X G E0));have Vn:=dG (st:=C1) IX FP BI;have UT:=unop%b9 (K3 0 Vn (⟨E1,H0,BI⟩) a4);have Vo:=dG (st:=CZ) IY FQ BJ;have UY:=unop%b9 (K1 1 Vo (⟨aof,H2,BJ⟩) a4 (unop%mo anH) (unop%mo Nn) t6 t5);have Vp:=dG (st:=CX) IZ FR BK;have US:=unop%b9 (K0 1 Vp (⟨E3,H3,BK⟩) a4 (unop%mo Nt));have Vq:=dG (st:=wA) I0 FT BL;have Nm:=unop%b9 (zl 0 Vq (⟨E4,H4,BL⟩) a4);have Vr:=dG (st:=CW) I1 FU BM;have U0:=unop%b9 (KZ 2 Vr (⟨E5,H5,BM⟩) a4 (unop%mo US) (unop%mo Nm) x1 afh)
 have Vs:=dG (st:=CY) I2 FV BN;have Np:=unop%b9 (zi 2 Vs (⟨E6,H6,BN⟩) a4 (unop%mo anH) (unop%mo Nm) (unop%mo An) xZ afg);have Vt:=dG (st:=Dc) I3 FW BO;have UN:=unop%b9 (Le 3 Vt (⟨E7,H7,BO⟩) a4 (unop%mo anH) (unop%mo Np));have Vu:=dG (st:=C5) I4 FX BP;have UO:=unop%b9 (K9 1 Vu (⟨E8,H8,BP⟩) a4 (unop%mo anH));have Vv:=dG (st:=C6) I5 FY BQ;have UM:=unop%b9 (La 4 Vv (⟨E9,H9,BQ⟩) a4 (unop%mo UN) (unop%mo UO) vk (unop%mo anH));have Vw:=dG (st:=C0) I6 FZ BR;have UX:=unop%b9 (K2 5 Vw (⟨E_,H_,BR⟩) a4 (unop%mo U0) (unop%mo UM) (unop%mo anH));have Vx:=dG (st:=Dl) I7 F0 BS;have UI:=unop%b9 (Ln 6 Vx (⟨E',H',BS⟩) a4 (unop%mo U3) (unop%mo anH) (unop%mo UT) (unop%mo UY) (unop%mo UX));have Vy:=dG (st:=Dz) I8 F1 Iq;have Va:=unop%b9 (zG 0 Vy (eE X G Fb) k9);have Vz:=dG (st:=C3) I9 F2 BU;have UK:=unop%b9 (aod 1 Vz (⟨Fc,Ia,BU⟩) a4 (unop%mo Va));have VA:=dG (st:=C2) I_ F3 BV;have UP:=unop%b9 (K4 2 VA (⟨Fd,Ib,BV⟩) a4 (unop%mo An));have VB:=dG (st:=C4) I' F4 BW;have UQ:=unop%b9 (K8 3 VB (⟨Fe,Ic,BW⟩) a4 (unop%mo Np) (unop%mo UP));have VC:=dG (st:=Dg) Ja F5 BX;have UZ:=unop%b9 (Lg 4 VC (⟨Ff,Ie,BX⟩) a4 (unop%mo UK) (unop%mo UQ));have VD:=dG (st:=C') Jb F6 BY;have UR:=unop%b9 (Ld 7 VD (⟨Fg,Ig,BY⟩) a4 (unop%mo UU) (unop%mo UI) (unop%mo UZ));have VE:=dG (st:=Du) Jc F7 Ir;have Nr:=unop%b9 (zE 8 VE (eE X G Fh) a4 (unop%mo UH) (unop%mo UR));have VF:=dG (st:=D5) Jd F8 It;have Nq:=unop%b9 (zX 10 VF (eE X G Fi) a4 (unop%mo UW) (unop%mo Nr));have VG:=dG (st:=wZ) Je F9 Iu;have U1:=unop%b9 (MI 0 VG (eE X G Fj) hh);have VH:=dG (st:=DH) Jf F_ Iv;have U6:=unop%b9 (L4 0 VH (eE X G Fl) mB);have VI:=dG (st:=zU) Jg F' Iw;have U':=unop%b9 (MH 1 VI (eE X G Fm) hh (unop%mo U6) mB k_ (unop%mo EA));have VJ:=dG (st:=DV) Jh Ga Iy;have U2:=unop%b9 (wX 0 VJ (eE X G Fn));have VK:=dG (st:=u5) Jj Gb Iz;have Ve:=unop%b9 (wO 1 VK (eE X G Fo) ky (unop%mo U2) 20);have VL:=dG (st:=Ea) Jk Gd IA;have EB:=unop%b9 (vm 21 VL (eE X G Fp) hh (unop%mo Ve) t4);have VM:=dG (st:=DT) Jl Ge IB;have Vb:=unop%b9 (Ml 0 VM (eE X G Fq) anU);have VN:=dG (st:=zD) Jm Gf IC;have U4:=unop%b9 (Lz 0 VN (eE X G Fs));have VO:=dG (st:=D4) Jn Gg ID;have Vd:=unop%b9 (MG 10 VO (eE X G Ft) a4 hh (unop%mo Nr));have VP:=dG (st:=DU) Jo Gh IE;have Ez:=unop%b9 (wW 11 VP (eE X G Fu) ky (unop%mo Vb) (unop%mo U4) (unop%mo Nq) (unop%mo Vd));have VQ:=dG (st:=pn) Jp Gi IF;have Nx:=dG (st:=zz) Jq Gj IG;have Nv:=unop%b9 (Dp 22 Nx (eE X G Az) (unop%mo EB));have NK:=De (P:=l.prog) (w:=w) (base:=base) (k:=22) Nx (eE X G Az) i6 rQ (unop%mo EB);have VR:=dG (st:=DA) Jr Gk IH;have Nu:=unop%b9 (DD 0 VR (eE X G Fw));have VS:=dG (st:=ql) B4 AE BZ;have Vc:=unop%b9 (Mk 23 B4 AE BZ (eE X G AA) G8 iR (by show _∈[(unop%Wf 0),(unop%Wc 0)];simp) (λp aM=>by have aM:p∈[(unop%Wf 0),(unop%Wc 0)]:=aM;simp only[cN,uR,or_false] at aM;rcases aM with rfl|rfl <;> first|(intro z;exact absurd z (by decide))|(intro _;rfl)) k9 (unop%mo Nv) (unop%mo Nu) (unop%mo Ez))
 have V_:=LN (P:=l.prog) (w:=w) (base:=base) (k:=25) VS (eE X G AA) i6 rQ k9 (unop%mo Nv) (unop%mo Nu) (unop%mo Ez) (NK.mono (by decide));have amU:=dG (st:=mx) B5 AF II;exact akX rfl (amK (k:=26) B5 AF t7 iR (by show _∈[(unop%Wf 0),(unop%Wc 0)];simp) (λp aM=>by have aM:p∈[(unop%Wf 0),(unop%Wc 0)]:=aM;simp only[cN,uR,or_false] at aM;rcases aM with rfl|rfl <;> first|(intro z;exact absurd z (by decide))|(intro _;rfl)) i6 rQ (V_.mono (by decide)) (NK.mono (by decide)) (unop%mo U_) (unop%mo U8) (unop%mo U9) (unop%mo Nq) k_ (unop%mo U1) (unop%mo U') (unop%mo EB) (unop%mo Ez) VQ (eE X G Fv) qp (unop%mo Vc))
def walk{l:PySem.W.OpenLaw}{q:cu}{loose:List Str}{vD:(Str->Option ao)->bL->Prop}{pI:b8->bL->Prop}{d:DefRec}{K:Params->a'}(bc:l.most=some 63)(x_:d.params.defaults=[])(fZ:∀w:b8,PX (K w.params)=true)(Hf:∀(w:b8) (h:bL),pI w h->(K w.params).In h)(cU:∀(w:b8) (h:bL),pI w h->∀b∈[356,420],h.get? b=some (PySem.W.tabObj #[]))(x5:∀w:b8,(([356,420]:List Nat).all λb=>((K w.params).lookup b).isNone)=true)(eg:∀w:b8,(([356,420]:List Nat).all λb=>(K w.params).any λp=>ri (K w.params) p.1 b)=true)(F:∀(w:b8) (mg:Str->Option ao) (ck:aj) (h:bL),(K w.params).In h->h.Ns iY mg->mg d.name=some (.ref ck) ->
   ∃fd:er,(∀(s:aH) (u:ao),BindsTo s fd ⟨[u],[]⟩ [("_law_script",u)])/\∀base:bL,(K w.params).In base->base.Ns iY mg->ny mg base->eY l.prog w (K w.params) mg base dC 29 ck fd ["_law_script"] (@spT (o7 [(unop%Wf 0),(unop%Wc 0)]) (K w.params) 1 vv)):
  PySem.W.WalkO q loose vD pI l.row.toRowW d [] (λf vs=>PySem.call f vs):=
 ai_ (n:=63) (k:=29) (x:="_law_script") (ts:=[356,420]) (ei:=λ_=>dC) (sp:=λw=>@spT (o7 [(unop%Wf 0),(unop%Wc 0)]) (K w.params) 1 vv) bc (by decide) x_ ⟨rfl,by decide,by decide⟩ Hf cU (λw b af=>Option.isNone_iff_eq_none.mp (List.all_eq_true.mp (x5 w) b af)) (λw b af=>by
  obtain⟨p,_,aM⟩:=List.any_eq_true.mp (List.all_eq_true.mp (eg w) b af);exact⟨p.1,aM⟩) F (λw H a ns aI kM dP=>ah9 (t:=o7 [(unop%Wf 0),(unop%Wc 0)]) (λp aM=>by have aM:p∈[(unop%Wf 0),(unop%Wc 0)]:=aM;simp only[cN,uR,or_false] at aM;rcases aM with rfl|rfl <;> simp) kM (fZ w) (ajI ns aI) dP) λ_ _ _ _ _ z=>z
end qz
open PySem PySem.W PyProof.Rows
set_option maxRecDepth 100000 in
set_option maxHeartbeats 0 in
theorem PySem.Challenge.cw_doorwatch_k34_whole_safest_of_all_holds : PySem.Challenge.rw_doorwatch_k34_whole_safest_of_all.Holds := by
 w_on;o_law;k_head;(case hw=>w_witness2)
 k_fill
 refine qz.walk (l:=PySem.Challenge.rw_doorwatch_k34_whole_safest_of_all) rfl rfl ?L (λw h Y=>PySem.W.km_in_of Y) (λw h Y=>PySem.W.km_tabs_of Y) ?V0 ?eh ?F
 case L=>
  intro w
  first|rfl|(with_unfolding_all rfl)|kernel_rfl
 case V0=>
  intro w
  first|rfl|(with_unfolding_all rfl)|kernel_rfl
 case eh=>
  intro w
  first|rfl|(with_unfolding_all rfl)|kernel_rfl
 case F=>
  intro w mg ck h la G yg;refine' qz.all_mk la G yg ?FA ?Kc ?Hn ?Ke ?Ks ?JD ?IM ?JM ?JN ?JR ?JS ?JT ?JU ?JV ?JW ?JX ?JY ?JO ?JP ?JQ ?a1 ?cw ?cT ?k1 ?a2 ?cE ?dp ?k2 ?fj ?yB ?fX ?k3 ?hZ ?Ji ?c4 ?mW ?kG ?Js ?jP ?k5 ?kH ?Jt ?Gl ?IJ ?xJ ?Ih ?Ju ?Gm ?B0 ?Fy ?Ii ?B6 ?Gn ?IK ?Fz ?Ij ?Jv ?Gp ?B1 ?EU ?IP ?FH ?Io ?EV ?HW ?IQ ?FI ?BD ?EW ?i12 ?IS ?FJ ?BE ?EX ?HX ?IT ?FK ?BF ?EY ?HY ?IU ?FL ?BG ?EZ ?HZ ?IV ?FN ?BH ?E0 ?IW ?FO ?Ip ?E1 ?H0 ?IX ?FP ?BI ?aof ?H2 ?IY ?FQ ?BJ ?E3 ?H3 ?IZ ?FR ?BK ?E4 ?H4 ?I0 ?FT ?BL ?E5 ?H5 ?I1 ?FU ?BM ?E6 ?H6 ?I2 ?FV ?BN ?E7 ?H7 ?I3 ?FW ?BO ?E8 ?H8 ?I4 ?FX ?BP ?E9 ?H9 ?I5 ?FY ?BQ ?E_ ?H_ ?I6 ?FZ ?BR ?E' ?H' ?I7 ?F0 ?BS ?Fb ?I8 ?F1 ?Iq ?Fc ?Ia ?I9 ?F2 ?BU ?Fd ?Ib ?I_ ?F3 ?BV ?Fe ?Ic ?I' ?F4 ?BW ?Ff ?Ie ?Ja ?F5 ?BX ?Fg ?Ig ?Jb ?F6 ?BY ?Fh ?Jc ?F7 ?Ir ?Fi ?Jd ?F8 ?It ?Fj ?Je ?F9 ?Iu ?Fl ?Jf ?F_ ?Iv ?Fm ?Jg ?F' ?Iw ?Fn ?Jh ?Ga ?Iy ?Fo ?Jj ?Gb ?Iz ?Fp ?Jk ?Gd ?IA ?Fq ?Jl ?Ge ?IB ?Fs ?Jm ?Gf ?IC ?Ft ?Jn ?Gg ?ID ?Fu ?Jo ?Gh ?IE ?Fv ?Jp ?Gi ?IF ?Az ?Jq ?Gj ?IG ?Fw ?Jr ?Gk ?IH ?AA ?B4 ?AE ?BZ ?Fx ?B5 ?AF ?II ?ky ?hh ?k_ ?qp ?k9 ?vj ?mB ?s9 ?s_ ?ta ?vk ?t6 ?t5 ?x1 ?Kg ?xZ ?Kf ?t4 ?anU ?G8 ?t7 ?JH ?JL ?JK ?JI ?JJ ?zT ?zS ?G' ?He
  (case G8=>first|kernel_rfl|rfl|(with_unfolding_all rfl))
  (case t7=>first|kernel_rfl|rfl|(with_unfolding_all rfl))
  (case G'=>first|kernel_rfl|rfl|(with_unfolding_all rfl))
  (case He=>first|kernel_rfl|rfl|(with_unfolding_all rfl))
  (case FA|Kc|Hn|Ke|Ks|JD|IM|JM|JN|JR|JS|JT|JU|JV|JW|JX|JY|JO|JP|JQ|a1|cw|cT|k1|a2|cE|dp|k2|fj|yB|fX|k3|hZ|Ji=>k_is)
  (case c4|mW|kG|Js|jP|k5|kH|Jt|Gl|IJ|xJ|Ih|Ju|Gm|B0|Fy|Ii|B6|Gn|IK|Fz|Ij|Jv|Gp|B1|EU|IP|FH|Io|EV|HW|IQ|FI|BD|EW|i12|IS|FJ|BE|EX|HX|IT|FK|BF|EY|HY|IU|FL|BG|EZ|HZ|IV|FN|BH|E0=>k_is)
  (case IW|FO|Ip|E1|H0|IX|FP|BI|aof|H2|IY|FQ|BJ|E3|H3|IZ|FR|BK|E4|H4|I0|FT|BL|E5|H5|I1|FU|BM|E6|H6|I2|FV|BN|E7|H7|I3|FW|BO|E8|H8|I4|FX|BP|E9|H9|I5|FY|BQ|E_|H_|I6=>k_is)
  (case FZ|BR|E'|H'|I7|F0|BS|Fb|I8|F1|Iq|Fc|Ia|I9|F2|BU|Fd|Ib|I_|F3|BV|Fe|Ic|I'|F4|BW|Ff|Ie|Ja|F5|BX|Fg|Ig|Jb|F6|BY|Fh|Jc|F7|Ir|Fi|Jd|F8|It|Fj|Je|F9|Iu|Fl|Jf|F_=>k_is)
  (case Iv|Fm|Jg|F'|Iw|Fn|Jh|Ga|Iy|Fo|Jj|Gb|Iz|Fp|Jk|Gd|IA|Fq|Jl|Ge|IB|Fs|Jm|Gf|IC|Ft|Jn|Gg|ID|Fu|Jo|Gh|IE|Fv|Jp|Gi|IF|Az|Jq|Gj|IG|Fw|Jr|Gk|IH|AA|B4|AE|BZ|Fx|B5=>k_is)
  (case AF|II|ky|hh|k_|qp|k9|vj|mB|s9|s_|ta|vk|t6|t5|x1|Kg|xZ|Kf|t4|anU|JH|JL|JK|JI|JJ=>k_is)
  (case zT|zS=>k_is)
end
end
