import PyProof.Rows.All
import Wide.All
import OpenK.AllK
import Wide.FinOn
import Lean
import PyProof.EqAt
import PyProof.EqKinds
import PyProof.TupleCall
import PyProof.P3Statements
import KE.KSortTup
import PyProof.AttrMissHeap
import PyProof.ZipIter
import PyProof.Draws
import PyProof.ListMulRoad
import Wide.Seal
import KE.KLam
import KE.KNest
import KE.KNestM
import KE.KIsAll
import PyProof.ExcArgs
import PyProof.ReprStr
import PyProof.FString
import PyProof.FitsInt
import KE.KMinKey
import PySem.Challenge.RW_doorwatch_k30_walkers
set_option Elab.async false
set_option linter.all false
set_option compiler.extract_closed false
set_option genSizeOfSpec false
set_option maxRecDepth 100000
set_option maxHeartbeats 0
open PySem renaming Value → aq, Addr → ak, Around → cw, World → b_, Heap → bM, Expr → bx
open PySem.W renaming Frag → bc, keepIn → nx, findIn → l7, codeIn → qA, fnOf → lx, nsIn → wO, mg_of → er, mg_none_of → nA, emptyDict → rL, instObj → ta, kitOne → oG, codeHdIn → rT
open Option renaming bind_eq_some_iff → cm, map_eq_some_iff → dO, bind_some → cn, map_some → dF
open PySem renaming wpAny_bind → aN, Shared → aH, wpAny_pure → b2, starEach → bl, FuncData → eo, sizeLine → cj, mainGlobals → i_, Program → cA, wpAny → a_, wpAny_mono → et, mem_of_lookup → zE, keywordEach → fS, wpAny_holding → jb, backTo → c', wpAny_Call_Name_kw → nF, wpAny_field → ie, attributeBase → ki, wpAny_callSpecial?_slot → te, backToKw → fT, sizeLine_eq → jW, wpAny_seqItems → nG, wpAny_pyIter_tuple → rP, compareOp → iH, codeAny_builtin → pM, wpAny_newObj_type → rQ, codeAny_mono → nH, wpAny_call_entry → rR, wpAny_setField_rec → vc, swapsWith → kP, behindInMarks → qC, wpAny_truthy_bool → vd, codeAny → hT, plainId_quiet → rS, assignEach → pN, call_meets → pO, wpAny_tryCatch → ve, wpAny_call → qD, wpAny_newFunctionEnv → Dl, binaryOp → nI, NameKind → nJ, model → bG, foldedSetIterable → wX, rawInt → g7
open PySem.Heap renaming get?_push_of_some → cW, lt_size → c_, get?_push_size → fR, size_push → kM, get?_update_other → rU
open List renaming mem_cons_of_mem → dK, mem_cons → cM, map_cons → de, mem_cons_self → fQ, replicate → dZ, size_toArray → eG, getElem?_eq_some_iff → g6, mem_map → dP, nodup_cons → eW, getElem?_eq_getElem → jv, length_cons → eX, mem_singleton → ly, mem_append → hS, length_map → fh, getElem?_map → kL, pairwise_cons → aoO, map_nil → ib, mem_append_right → kh, lookup_cons → aoS, set_cons_zero → gd, lookup → kN, set_cons_succ → gx, getElem?_append_right → wQ, nodup_append → nB, getElem?_append_left → wR, find?_cons → rM, replicate_succ → va, mem_of_getElem? → qB, append_nil → kO, zip_cons_cons → td, length_append → l8, length_filter_le → Dj, getElem?_set → wV, flatten_cons → wW, not_mem_nil → pJ, getElem?_cons_zero → e4, getElem?_cons_succ → ft, length_nil → lB, nil_append → pK, cons_append → pL, map_map → nE
open Nat renaming le_refl → dQ, lt_of_lt_of_le → i', ne_of_lt → e3, ne_of_gt → iG, le_trans → lz, zero_le → oE, le_succ → rO, le_add_right → iI
open PySem.Builtin.SmallTypes renaming nextOf → mE, ownedTupleIsFree → s_
open PySem.Builtin.Tuple renaming tupleExact → u'
open Function renaming comp_def → ny
open Bool renaming and_eq_true → ic, false_eq_true → lA, false_ne_true → mG
open PySem.PyData renaming depthAll → ja, canLayAll0 → jV, str → mF, eqv → gf, depth → nC
open PyProof.Rows renaming slot_tuple_getitem → Dh, callWith_type1 → zD
open PySem.Builtin.Slice renaming slicePlaces → Di
open Array renaming getElem?_eq_getElem → wU, length_toList → tb
open PySem.Around renaming under_plainId → rN
open False renaming elim → d8
open PySem.PassesOwn renaming never → aoP
open PySem.F renaming slot_tuple_iterator_next → Dk, plain_max_loop → vf, plainAttrs_list → wY
open Option.some renaming inj → gg
open Int renaming emod_nonneg → lC, emod_lt_of_pos → oF
set_option hygiene false in
local macro_rules
|`(unop%W0 0)=>`((s.heap.push {cls:=.type "tuple_iterator",data:=.fields #[.ref l,.int 0 0]}))
|`(unop%W1 0)=>`((s2.heap.push {cls:=.type "list",data:=.seq ([]:List aq).toArray}))
|`(unop%W2 0)=>`((aj aT (a0 [(ae .none),(ae .none),(ae (.str "a")),(ae (.str "b")),(ae (.str "back")),(ae (.str "hall")),(ae (.str "win"))]) (aj oMod (aj oDiv (nm 4) (ae (.int 64))) (ae (.int 7)))))
|`(unop%W3 0)=>`(fx dH P w K mg base N qual (bR st) f b1 A outer s H E)
|`(unop%W4 0)=>`(some (.aa (.int k)))
|`(unop%W5 0)=>`(A.deeper (envOfC qual (bR st) s.heap.objs.size f b1))
|`(unop%W6 0)=>`((iJ (gO (a0 [(ae (.str "a")),(ae (.str "b")),(ae (.str "back")),(ae (.str "d")),(ae (.str "hall")),(ae (.str "r")),(ae (.str "win")),(ae (.str "z"))]))))
|`(unop%W7 0)=>`(aj aT (nm 0) (ae (.int 1)))
|`(unop%W8 0)=>`((aj oMod (aj dU (aj bV (aj bV (aX nK [(au 0),(au 1)]) (aj dU (ae (.int 7919)) (nm 1))) (ae (.int 1))) (ae (.int 48271))) (ae (.int 2147483647))))
|`(unop%W9 0)=>`(aj aT (nm 0) (ae (.int 0)))
|`(unop%Wa 0)=>`(aj oMod (aj dU (aj bV (aj bV (nm 0) (aj dU (ae (.int 104729)) (nm 1))) (ae (.int 17))) (ae (.int 69621))) (ae (.int 2147483647)))
|`(unop%Wb 0)=>`((iJ (gO (a0 [(ae (.str "0000")),(ae (.str "1234")),(ae (.str "4321")),(ae (.str "7777")),(ae (.str "9990")),(ae (.str "9999"))]))))
|`(unop%Wc 0)=>`(aj oMod (aj bV (aj bV (nm 5) (ae (.int 1))) (aj oMod (aj oDiv (nm 4) (ae (.int 8))) (nm 1))) (aj bV (nm 1) (ae (.int 1))))
|`(unop%Wd 0)=>`((363,(("safest":Str)++".<locals>.")++"<lambda>"))
|`(unop%We 0)=>`((tH (mO (aX r2 [(au 1),(au 2),(au 3),(au 7),(au 8)])) (r' tn [.v (au 1),.v (au 2),.v (au 3),.v (au 7),.v (au 8)]) 1))
|`(unop%Wf 0)=>`((434,(("law":Str)++".<locals>.")++"<lambda>"))
|`(unop%Wg 0)=>`(PySem.W.kla_obj "<lambda>" (X.env.qual++"<lambda>") params body scope gm ((X.mg "__name__").getD .none) bX gS)
|`(unop%Wh 0)=>`((fx dH P w K mg base ["_law_deed","_law_found","e","_law_kinds"] "_law_told" (bR pT) f b1 A outer s H ku))
|`(unop%Wi 0)=>`((tell "on" none {c with mode:="on",left:=0}))
|`(unop%Wj 0)=>`((a0 [(ae (.str "9998")),(ae (.str "x")),(a0 [(ae (.str "set"))]),(ae (.int 0))]))
|`(unop%Wk 0)=>`(bG X.prog X.w)
|`(unop%Wl 0)=>`(.aa (a7.cH R os))
|`(unop%Wm 0)=>`((∀b o,s.heap.get? b=some o->h'.get? b=some o))
|`(unop%Wn 0)=>`(some (.aa (.int q)))
|`(unop%Wo 0)=>`(.Attribute o f apos)
|`(unop%Wp 0)=>`((.ListComp elt [⟨c9,iter,ifs,0⟩] scope pos))
|`(unop%Wq 0)=>`((aj bV (nm 2) (a0 [(a0 [(aX pw [(nm 5),(nm 6)]),(aX om [(nm 5),(nm 6)]),(au 7)])])))
|`(unop%Wr 0)=>`(.aa (.int n))
|`(unop%Ws 0)=>`(s.heap.objs.size+1)
|`(unop%Wt 0)=>`((fx dH X.prog X.w X.K X.mg X.base [l6,pH,pI,vb] x (bR st) cp b1 A outer s H ku))
|`(unop%Wu 0)=>`(A.deeper (lS (X.env.qual++"<lambda>") scope s.heap.objs.size q (.ref bX) cl))
|`(unop%Wv 0)=>`(aj aT (nm 2) (cU iB (ae (.int 1))))
|`(unop%Ww 0)=>`(lx x qual (mK st) (fv st) (bR st) .none dI doc pm an b1 cQ)
|`(unop%Wx 0)=>`(some (.aa (.int one)))
|`(unop%Wy 0)=>`(c' pos (bl es X.env))
|`(unop%Wz 0)=>`(aj aT (nm 1) (ae (.int 1)))
|`(unop%WA 0)=>`(ax (e' (ax (g8 (aZ 4) (ax aR))) (ax aR)))
|`(unop%WB 0)=>`(eY (fU a8 hH ay (bE 0) (av bS (av (a4 1) bb))))
|`(unop%WC 0)=>`(.Call (.Name x p) (e::es) [] pos)
|`(unop%WD 0)=>`(bt (aj iz (aj oMod (nm 4) (ae (.int 3))) (ae (.int 0))))
|`(unop%WE 0)=>`(cg (aZ 0) (ax aR))
|`(unop%WF 0)=>`(lS qual scope s.heap.objs.size q (.ref bX) cl)
|`(unop%WG 0)=>`((fT pos (fS [⟨some "key",.Lambda params body scope hQ,yY⟩] X.env)))
|`(unop%WH 0)=>`((aj oDiv (aX ig [(au 2),(aj bV (ae (.int 30)) (nm 0))]) (ae (.int 4))))
|`(unop%WI 0)=>`((aj oDiv (aX ig [(au 0),(aj bV (ae (.int 50)) (nm 3))]) (ae (.int 4))))
|`(unop%WJ 0)=>`(aj oMod (aj oDiv (nm 0) (ae (.int 8))) (ae (.int 11)))
|`(unop%WK 0)=>`(.ref s.heap.objs.size)
|`(unop%WL 0)=>`(gm X.env scope.names [])
|`(unop%WM 0)=>`((aX rec [(au 0),(au 1),(aj bV (nm 2) (a0 [(au 6)]))]))
|`(unop%WN 0)=>`(cg (aZ 1) (ax aR))
|`(unop%WO 0)=>`(.Call (.Attribute o m apos) (e::es) [] pos)
|`(unop%WP 0)=>`(ax (e' (ax (g8 (aZ 1) (ax aR))) (ax aR)))
|`(unop%WQ 0)=>`(.aa (.tuple ((e_ (fi os k) aV).map cY)))
|`(unop%WR 0)=>`(.aa (.tuple (acc.map di)))
|`(unop%WS 0)=>`(X.env.qual++"<lambda>")
|`(unop%WT 0)=>`(.aa (.int k))
|`(unop%WU 0)=>`(.Call (.Attribute o m apos) [] [] pos)
|`(unop%WV 0)=>`(.tuple (((p.codes.filter oj).take 5).map di))
|`(unop%WW 0)=>`(.Call (.Attribute (.Name x gb) "extend" apos) [e] [] d6)
|`(unop%WX 0)=>`(av bS (av bS (av bS (av bS bb))))
namespace PySem.W.Fast
def tw775756150676969012:=0
def tw14720480183793184707:=0
def tw14640559306938141070:=0
def tw13917322857079894804:=0
def tw5502962659354983376:=0
def tw14849982860786756929:=0
def tw16635822168004689262:=0
def tw10655487664184315954:=0
def tw14339201325763576457:=0
def tw16298374798113808460:=0
def tw96663826792247315:=0
def tw7725818655727062870:=0
def tw5447851732456330057:=0
def tw1750046768684807169:=0
def tw11306784118580599880:=0
def tw14806367378227295132:=0
def tw1460404082136186911:=0
def tw7051792104878112516:=0
def tw11741537030678935521:=0
def tw8707723161239644922:=0
def tw6027732941398594980:=0
def tw17310174831085251234:=0
def tw7422060447189522730:=0
def tw7921382266897883793:=0
def tw16149159305365763560:=0
def tw4236731380512942880:=0
def tw6735327245618528241:=0
def tw2194216929618268149:=0
def tw5007031790352071660:=0
def tw13286850840684286580:=0
def tw10994680658295349584:=0
def tw6539722147945817533:=0
def tw16582447134705315979:=0
def tw9909242390724221696:=0
def tw2621218000223699682:=0
def tw13951367027137734489:=0
def tw9110156558908491709:=0
def tw18081589424480102657:=0
def tw4017848726658761546:=0
def tw6312589626655640492:=0
def tw2696630284766637404:=0
def tw14975366504120750078:=0
def tw7540457359913779459:=0
def tw11136359192564216300:=0
def tw6062815552876919459:=0
def tw2382407972888756729:=0
def tw9259679143166506711:=0
def tw1760412941335015272:=0
def tw3517508224147556427:=0
def tw13574292396359419149:=0
def tw7720810570092708380:=0
def tw16737334863930723340:=0
def tw5120760138780155255:=0
def tw11181853916737640234:=0
def tw10509923365961474056:=0
def tw734913463533242670:=0
def tw4227342364393628090:=0
def tw17500905564517452021:=0
def tw2377733020060190702:=0
def tw13549364148425183656:=0
def tw6179515032893246396:=0
def tw9706832568626823313:=0
def tw13776692013328516476:=0
def tw2351453481068701218:=0
def tw2839703390423783562:=0
def tw9343038057173945985:=0
def tw5267251525439250569:=0
def tw4846286807575085823:=0
def tw4781089936299347797:=0
def tw4076782051676284677:=0
def tw7179676891386223336:=0
def tw7965897794031235599:=0
def tw17954448808894665322:=0
def tw4839934209021645922:=0
def tw16647763181596718653:=0
def tw16633533413391051001:=0
def tw15102428123998657041:=0
def tw13675421116301413039:=0
def tw2637632825900943691:=0
def tw8276916316166145893:=0
def tw17154788306455805224:=0
def tw17753353023220788061:=0
def tw5814906377763776865:=0
def tw16143544479791775695:=0
def tw10905759122827757102:=0
def tw8737825659330802670:=0
def tw6978815932910983636:=0
def tw723933957584286137:=0
def tw2526644996776836427:=0
def tw18070357225962050780:=0
def tw6426964900463969267:=0
def tw10660328881606525928:=0
def tw6400657304093287040:=0
def tw10224474203410061870:=0
def tw3878643420589523175:=0
def tw10031632258506211572:=0
def tw16250605247423276510:=0
def tw15560863132494737487:=0
def tw12702866433036484897:=0
def tw13371416291874828706:=0
def tw11414619541178138292:=0
def tw8476423302859791617:=0
def tw11354565064288077888:=0
def tw1730307592974280828:=0
def tw11575010774969107625:=0
def tw4054845220412227189:=0
def tw17642024369165353927:=0
def tw4832749090144379280:=0
def tw8748717348681033327:=0
def tw18286989817343051056:=0
def tw5705352023411948985:=0
def tw3315635114234674889:=0
def tw5250945614996257395:=0
def tw18007675337454079403:=0
def tw12512457965816538417:=0
def tw8281422352219249414:=0
def tw12353382859281114865:=0
def tw14234620156272705523:=0
def tw11899913565258047633:=0
def tw11805806107072352739:=0
def tw10812909974271759142:=0
def tw5746858134672874179:=0
def tw16158959237836279554:=0
def tw17505255151807796838:=0
def tw7214605250340388867:=0
def tw4457374271558071017:=0
def tw10572709224299330180:=0
def tw18431700585795596547:=0
def tw14629885362532496232:=0
def tw8436314552438178254:=0
def tw16743043107468639902:=0
def tw18255795501061493805:=0
def tw10638263495692679578:=0
def tw6632844166680363077:=0
def tw11686228379525225484:=0
def tw8372576582808756818:=0
def tw7592104303856898807:=0
def tw1271870966605810900:=0
def tw15508548833941652622:=0
def tw15427271316878893861:=0
def tw10134520865138278156:=0
def tw7548975931937439815:=0
def tw17151743551036595152:=0
def tw5408831601577240823:=0
def tw9647945066324296779:=0
def tw17227422115021445702:=0
def tw5051397476068145896:=0
def tw16653685763910166164:=0
def tw14951112661306068177:=0
def tw11450116393406368903:=0
def tw14026757515489779594:=0
def tw12974126786755621730:=0
def tw14533940652323828988:=0
def tw10504512903475704256:=0
def tw1701997181824774636:=0
def tw13492591216107385170:=0
def tw8307008101224681153:=0
def tw15449830331559015546:=0
def tw1260532749309472020:=0
def tw4189826386892147623:=0
def tw10115942391769237300:=0
def tw17657779244336441791:=0
def tw16698711066124188130:=0
def tw5307242054246874660:=0
def tw10346909144575421660:=0
def tw11715685907905068189:=0
def tw11584708057153542690:=0
def tw4980103482963269962:=0
def tw8015922063662552402:=0
def tw16212612664405178585:=0
def tw1929412758160490898:=0
def tw5079856507191484531:=0
def tw1505185520112524316:=0
def tw16370310190771013679:=0
def tw10130806049600760194:=0
def tw18150523521806214994:=0
def tw14613748016178824545:=0
def tw9141243762701257605:=0
def tw2423451708141579162:=0
def tw13611159955904006512:=0
def tw11003838721828281924:=0
def tw14340307384476128274:=0
def tw16101341196580170727:=0
def tw17537769174028609476:=0
def tw4702209602120912689:=0
def tw4200491250788790369:=0
def tw680852092362881147:=0
def tw13492730048709887855:=0
def tw7774037180076132887:=0
def tw6492237639567448550:=0
def tw954099109342271912:=0
def tw7420659005492134554:=0
def tw17064532278902606902:=0
def tw17538243525531830965:=0
def tw10461289233533120740:=0
def tw7988358472823936382:=0
def tw5485498914669445293:=0
def tw17794415853106002424:=0
def tw17699948511387773443:=0
def tw5235736614942100647:=0
def tw9530017511697834769:=0
def tw3764200391403857913:=0
def tw5111601033528574460:=0
def tw4470567763449534661:=0
def tw1991002056737235270:=0
def tw15129674282116380261:=0
def tw9359961501036053752:=0
def tw9877921750712925652:=0
def tw2161496704908382692:=0
def tw15476298048784155469:=0
def tw17955326272648397222:=0
def tw13734973076902323932:=0
def tw10501657469075775214:=0
def tw12535117761357633762:=0
def tw16614650053248029085:=0
def tw11027684221405095131:=0
def tw17575281307588111785:=0
def tw12600541363541339606:=0
def tw2578030271567766827:=0
def tw12294787574936574473:=0
def tw5940010808857771677:=0
def tw997267778420115211:=0
def tw6300359347880292433:=0
def tw6089661726898004927:=0
def tw7456981621138719527:=0
def tw12534742922760791053:=0
def tw13376750698070246165:=0
def tw12120423878587088011:=0
def tw11199125900709803303:=0
def tw3677308211137510436:=0
def tw1768917790170292619:=0
def tw733247040323522029:=0
def tw2376039065205075849:=0
def tw17032751553902104173:=0
def tw1719837400161374602:=0
def tw10309466827911190538:=0
def tw4308990782983323727:=0
def tw14331854284723864561:=0
def tw10402096895360896578:=0
def tw1474747442467791378:=0
def tw11571473528856603813:=0
def tw11407844222285420566:=0
def tw17251165590310859966:=0
def tw10823646926865829397:=0
def tw2587613348954509486:=0
def tw12515257167316603398:=0
def tw12984505334676703573:=0
def tw2604895734266569826:=0
def tw11943834763152912603:=0
def tw9061453830501886901:=0
def tw13343853774540862097:=0
def tw3339665652966641006:=0
def tw8912019141844771052:=0
def tw10865926765836191976:=0
def tw17720660063387500660:=0
def tw5501779928116178412:=0
def tw11955174154395053742:=0
def tw7470437200281464060:=0
def tw9217455468691774285:=0
def tw18293538690106175632:=0
def tw7494255401498732473:=0
def tw10231578917685341965:=0
def tw16053252374394095897:=0
def tw5282634222680181543:=0
def tw6650413558817341609:=0
def tw493949204982393813:=0
def tw8570024368398252615:=0
def tw10465535032935412097:=0
def tw13816063669795096915:=0
def tw2364431018134039253:=0
def tw9922831378776043856:=0
def tw968311682075951854:=0
end PySem.W.Fast
noncomputable section
section
namespace bA
open PySem PySem.Spec PyProof.Rows
abbrev Key:=Sum Int Str
noncomputable def tM:Key->aq->Bool
|.inl k,v=>Value.isInt k v
|.inr x,v=>Value.isStrOf x v
noncomputable def abT(w:b_):Key->Int
|.inl k=>hashInt k
|.inr x=>hashStr w x
def pR:∀{k:Key} {v:aq},tM k v=true->(∃i t,k=Sum.inl i/\v=Value.int i t)\/(∃x t,k=Sum.inr x/\v=Value.str x t)
|.inl i,v,h=>by
  obtain⟨t,e⟩:=Value.isInt_shape (k:=i) (v:=v) h;exact .inl ⟨i,t,rfl,e⟩
|.inr x,v,h=>by
  obtain⟨t,e⟩:=Value.isStrOf_shape (x:=x) (v:=v) h;exact .inr ⟨x,t,rfl,e⟩
def ajX(i:Int)(t:Tok):tM (.inl i) (.int i t)=true:=by simp[tM,Value.isInt]
def ajW(x:Str)(t:Tok):tM (.inr x) (.str x t)=true:=by simp[tM,Value.isStrOf]
def am1(a b:Int):decide ((Sum.inl a:Key)=Sum.inl b)=(a==b):=by
 by_cases e:a=b
 ·subst e;simp
 ·have h:¬(Sum.inl a:Key)=Sum.inl b:=λq=>e (Sum.inl.inj q);rw[decide_eq_false h];exact (beq_eq_false_iff_ne.mpr e).symm
def amY(a b:Str):decide ((Sum.inr a:Key)=Sum.inr b)=decide (a=b):=by
 by_cases e:a=b
 ·subst e;simp
 ·have h:¬(Sum.inr a:Key)=Sum.inr b:=λq=>e (Sum.inr.inj q);rw[decide_eq_false h,decide_eq_false e]
def am0(a:Int)(b:Str):decide ((Sum.inl a:Key)=Sum.inr b)=false:=decide_eq_false (λq=>nomatch q)
def amZ(a:Str)(b:Int):decide ((Sum.inr a:Key)=Sum.inl b)=false:=decide_eq_false (λq=>nomatch q)
noncomputable def hU(prog:cA)(w:b_):PySem.KeyKind prog w Key where
 is:=tM
 hash:=abT w
 inj:=λv a b aC af=>by
  rcases pR aC with ⟨i,t,rfl,rfl⟩|⟨x,t,rfl,rfl⟩
  ·rcases pR af with ⟨j,u,rfl,e⟩|⟨y,u,rfl,e⟩
   ·injection e with az _;rw[az]
   ·exact nomatch e
  ·rcases pR af with ⟨j,u,rfl,e⟩|⟨y,u,rfl,e⟩
   ·exact nomatch e
   ·injection e with az _;rw[az]
 byValue:=λk v h=>by
  rcases pR h with ⟨i,t,rfl,rfl⟩|⟨x,t,rfl,rfl⟩ <;> rfl
 pyHash:=λbh h=>by
  rcases pR bh with ⟨i,t,rfl,rfl⟩|⟨x,t,rfl,rfl⟩
  ·exact wpAny_pyHash_int h
  ·exact wpAny_pyHash_str h
 eqBool:=λb8 bh h=>by
  rcases pR b8 with ⟨i,t,rfl,rfl⟩|⟨x,t,rfl,rfl⟩
  ·rcases pR bh with ⟨j,u,rfl,rfl⟩|⟨y,u,rfl,rfl⟩
   ·rw[am1] at h;exact wpAny_eqBool_int h
   ·rw[am0] at h;exact SeqAt.EqAt.int_str i t y u _ _ _ _ h
  ·rcases pR bh with ⟨j,u,rfl,rfl⟩|⟨y,u,rfl,rfl⟩
   ·rw[amZ] at h;exact SeqAt.EqAt.str_int x t j u _ _ _ _ h
   ·rw[amY] at h;exact wpAny_eqBool_str h
 «strs»:=λk x t v h=>by
  rcases pR h with ⟨i,u,rfl,e⟩|⟨y,u,rfl,e⟩
  ·exact nomatch e
  ·injection e with az _
   subst az;cases v <;> rfl
def Sx(prog:cA)(w:b_)(k:Key)(v:aq):(hU prog w).is k v=tM k v:=rfl
def Sa(prog:cA)(w:b_)(i:Int)(t:Tok):(hU prog w).is (.inl i) (.int i t)=true:=ajX i t
def R'(prog:cA)(w:b_)(x:Str)(t:Tok):(hU prog w).is (.inr x) (.str x t)=true:=ajW x t
end bA
namespace bA
open PySem PySem.Spec PyProof.Rows
inductive V where
|dT|b3 (b:Bool)|int (i:Int)|str (x:Str)|m5 (b:Array UInt8)|yl (b:UInt64)|ref (a:ak)|ty (n:String)
 deriving DecidableEq
noncomputable def RelV:V->aq->Prop
|.dT,u=>u=Value.none
|.b3 b,u=>u=Value.bool b
|.int i,u=>∃t,u=Value.int i t
|.str x,u=>∃t,u=Value.str x t
|.m5 b,u=>∃t,u=Value.bytes b t
|.yl b,u=>∃t,u=Value.float b t
|.ref a,u=>u=Value.ref a
|.ty n,u=>u=Value.type n
abbrev Vals:List V->List aq->Prop:=Paired RelV
theorem Vals.length{xs:List V}{us:List aq}(r:Vals xs us):xs.length=us.length:=Paired.length r
theorem Vals.get:∀{xs:List V} {us:List aq} {i:Nat} {x:V},Vals xs us->xs[i]?=some x->∃u,us[i]?=some u/\RelV x u
|_,_,_,_,.nil,e=>by simp at e
|_,_,0,_,.cons r _,e=>by simp at e;subst e;exact⟨_,rfl,r⟩
|_,_,i+1,x,.cons _ t,e=>by
  obtain⟨u,ah,ar⟩:=Vals.get (i:=i) (x:=x) t (by simpa using e);exact⟨u,by simpa using ah,ar⟩
theorem Vals.append:∀{xs ys:List V} {us ws:List aq},Vals xs us->Vals ys ws->Vals (xs++ys) (us++ws)
|_,_,_,_,.nil,s=>s
|_,_,_,_,.cons r t,s=>.cons r (Vals.append t s)
theorem Vals.take:∀{xs:List V} {us:List aq} (n:Nat),Vals xs us->Vals (xs.take n) (us.take n)
|_,_,0,_=>.nil
|_,_,_+1,.nil=>.nil
|_,_,n+1,.cons r t=>.cons r (Vals.take n t)
theorem Vals.drop:∀{xs:List V} {us:List aq} (n:Nat),Vals xs us->Vals (xs.drop n) (us.drop n)
|_,_,0,r=>r
|_,_,_+1,.nil=>.nil
|_,_,n+1,.cons _ t=>Vals.drop n t
noncomputable def kT:Option V->Option aq->Prop
|some v,some u=>RelV v u
|none,none=>True
|_,_=>False
noncomputable def hL{eZ:Type}:List (eZ×V)->List (eZ×aq)->Prop:=Paired λ(p:eZ×V) (q:eZ×aq)=>p.1=q.1/\RelV p.2 q.2
noncomputable def dI:Key->V
|.inl i=>.int i
|.inr x=>.str x
inductive ef where
|lst (xs:List V)
|tup (xs:List V)
|fy (kvs:List (Key×V))|n2 (kvs:List (List Key×V))
|set (S:Int->Bool) (n:Nat)
|ins (C bF:ak) (aE:List (Str×V))
|own (x:ak)
|ju (aE:List (Str×V))
|met (f x:ak)
|lZ (lo aP:Int)
|pd (o:Obj) (u:ef)
|iF (ps:Array aq)
|ext (pX:bM->Prop)
abbrev aB:=ak->Option ef
noncomputable def upd(H:aB)(a:ak)(o:ef):aB:=λb=>if b=a then some o else H b
def dV{H:aB}{a:ak}{o:ef}:upd H a o a=some o:=by unfold upd;rw[if_pos rfl]
def cS{H:aB}{a b:ak}{o:ef}(h:b≠a):upd H a o b=H b:=by unfold upd;rw[if_neg h]
def anK{H:aB}{a b:ak}{o u:ef}(h:H a=some o)(h':H b=some u)(d:o≠u):a≠b:=by
 intro e;subst e;rw[h] at h';exact d (gg h')
def jw{H:aB}{a b:ak}{o:ef}(h:H a=some o)(h':H b=none):a≠b:=by
 intro e;subst e;rw[h] at h';cases h'
section
variable (P:cA)(w:b_)
noncomputable def hZ(H:aB)(h:bM)(a:ak):ef->Prop
|.lst xs=>xs.length<=cj/\∃(its:List aq) (n:Nat),Vals xs its/\h.get? a=some {cls:=.type "list",data:=.seq its.toArray n}
|.tup xs=>xs.length<=cj/\∃its:List aq,Vals xs its/\IsTup h a its.toArray
|.fy kvs=>kvs.length<=cj/\(a==sysModules)=false/\∃vs,hL kvs vs/\h.DictOf (hU P w) a vs
|.n2 kvs=>kvs.length<=cj/\(a==sysModules)=false/\∃xs:List (List Key×ak×aq),
   Paired (λ(p:List Key×V) (q:List Key×ak×aq)=>p.1=q.1/\H q.2.1=some (.tup (p.1.map dI))/\RelV p.2 q.2.2) kvs xs /\
   ∃o es ep,h.get? a=some o/\o.ExactDict/\o.data=.dict es ep/\es.toList=xs.map (entryOfKey (tupleKind (hU P w)))/\(xs.map (·.1)).Nodup
|.set S n=>h.SetOf (intKind P w) a S n
|.ins C bF aE=>H bF=some (.own a)/\aE.length<=1000/\bF≠a/\h.get? a=some (ta C bF) /\
   ∃eN,h.Ns1 bF eN/\(∀f,kT (aE.lookup f) (eN f))/\PySem.Within eN (aE.map (·.1))
|.own _=>∃o,h.get? a=some o
|.ju aE=>∃eN,h.Ns1 a eN/\∀f,kT (aE.lookup f) (eN f)
|.lZ lo aP=>∃t u v,h.get? a=some {cls:=.type "range",data:=.fields #[.int lo t,.int aP u,.int 1 v]}
|.pd o u=>h.get? a=some o/\hZ H h a u
|.iF ps=>h.get? a=some {cls:=.none,data:=.fields ps}
|.met f x=>h.get? a=some (PySem.W.methodObj (.ref f) (.ref x))
|.ext pX=>pX h/\(∃o,h.get? a=some o)/\∀ah ar:bM,pX ah->(∀o,ah.get? a=some o->ar.get? a=some o)->pX ar
noncomputable def eP(H:aB)(h:bM):Prop:=∀a o,H a=some o->hZ P w H h a o
end
section
variable {P:cA}{w:b_}{H ag:aB}{h h':bM}{a:ak}{o:ef}
theorem hZ.lt(x:hZ P w H h a o):a<h.objs.size:=by
 cases o with
|lst xs=>obtain⟨_,_,_,_,e⟩:=x;exact c_ e
|tup xs=>obtain⟨_,_,_,p⟩:=x;exact p.lt
|fy kvs=>obtain⟨_,_,_,_,o,_,_,e,_⟩:=x;exact c_ e
|n2 kvs=>obtain⟨_,_,_,_,o,_,_,e,_⟩:=x;exact c_ e
|set S n=>obtain⟨o,_,_,_,e,_⟩:=x;exact c_ e
|ins C bF aE=>obtain⟨_,_,_,e,_⟩:=x;exact c_ e
|own y=>obtain⟨_,e⟩:=x;exact c_ e
|ju aE=>obtain⟨_,⟨_,_,_,e,_⟩,_⟩:=x;exact c_ e
|lZ lo aP=>obtain⟨_,_,_,e⟩:=x;exact c_ e
|pd dE u=>obtain⟨e,_⟩:=x;exact c_ e
|iF ps=>exact c_ (show h.get? a=some _ from x)
|met f y=>exact c_ (show h.get? a=some _ from x)
|ext pX=>obtain⟨_,⟨_,e⟩,_⟩:=x;exact c_ e
theorem Paired.Kf{α β:Type}{F G:α->β->Prop}:∀{Qz:List α} {QA:List β},Paired F Qz QA->(∀a b,F a b->G a b)->Paired G Qz QA
|_,_,.nil,_=>.nil
|_,_,.cons r t,f=>.cons (f _ _ r) (Paired.Kf t f)
def hZ.kc(x:hZ P w H h a o)(k:∀b u,(b=a\/H b=some (.own a))->h.get? b=some u->h'.get? b=some u)
  (aJ:∀b,H b=some (.own a)->ag b=some (.own a)) (bp:∀b xs,H b=some (.tup xs)->ag b=some (.tup xs)):hZ P w ag h' a o:=by
 induction o with
|lst xs=>obtain⟨z,its,n,r,e⟩:=x;exact⟨z,its,n,r,k _ _ (.inl rfl) e⟩
|tup xs=>obtain⟨z,its,r,dE,e,c⟩:=x;exact⟨z,its,r,dE,k _ _ (.inl rfl) e,c⟩
|fy kvs=>obtain⟨z,y,vs,r,dE,es,ep,e,c⟩:=x;exact⟨z,y,vs,r,dE,es,ep,k _ _ (.inl rfl) e,c⟩
|n2 kvs=>
  obtain⟨z,y,xs,r,dE,es,ep,e,c⟩:=x;exact⟨z,y,xs,Paired.Kf r λp q z=>⟨z.1,bp _ _ z.2.1,z.2.2⟩,dE,es,ep,k _ _ (.inl rfl) e,c⟩
|set S n=>obtain⟨dE,es,ep,t,e,c⟩:=x;exact⟨dE,es,ep,t,k _ _ (.inl rfl) e,c⟩
|ins C bF aE=>
  obtain⟨d,z,ne,e,eN,⟨eh,es,ep,aM,c⟩,r⟩:=x;exact⟨aJ _ d,z,ne,k _ _ (.inl rfl) e,eN,⟨eh,es,ep,k _ _ (.inr d) aM,c⟩,r⟩
|own y=>obtain⟨dE,e⟩:=x;exact⟨dE,k _ _ (.inl rfl) e⟩
|ju aE=>obtain⟨eN,⟨eh,es,ep,e,c⟩,r⟩:=x;exact⟨eN,⟨eh,es,ep,k _ _ (.inl rfl) e,c⟩,r⟩
|lZ lo aP=>obtain⟨t,u,v,e⟩:=x;exact⟨t,u,v,k _ _ (.inl rfl) e⟩
|pd dE u bT=>obtain⟨e,q⟩:=x;exact⟨k _ _ (.inl rfl) e,bT q⟩
|iF ps=>
  have e:h.get? a=some {cls:=.none,data:=.fields ps}:=x;show h'.get? a=some {cls:=.none,data:=.fields ps};exact k a _ (.inl rfl) e
|met f y=>
  have e:h.get? a=some (PySem.W.methodObj (.ref f) (.ref y)):=x;show h'.get? a=some (PySem.W.methodObj (.ref f) (.ref y));exact k a _ (.inl rfl) e
|ext pX=>obtain⟨p,⟨o,e⟩,st⟩:=x;exact⟨st _ _ p λo q=>k _ _ (.inl rfl) q,⟨o,k _ _ (.inl rfl) e⟩,st⟩
theorem eP.lt(x:eP P w H h)(e:H a=some o):a<h.objs.size:=(x a o e).lt
def eP.fresh(x:eP P w H h)(e:h.objs.size<=a):H a=none:=by
 cases q:H a with
|none=>rfl
|some u=>exact absurd (i' (x.lt q) e) (Nat.lt_irrefl _)
def eP.kept(x:eP P w H h)(k:∀b u,h.get? b=some u->h'.get? b=some u):eP P w H h':=λa o e=>
 (x a o e).kc (λb u _ q=>k b u q) (λ_ q=>q) λ_ _ q=>q
def eP.laid(x:eP P w H h)(k:∀b u,h.get? b=some u->h'.get? b=some u)(aL:h.objs.size<=a)(new:hZ P w (upd H a o) h' a o):eP P w (upd H a o) h':=λb u e=>by
 have bg:=x.fresh aL;by_cases af:b=a
 ·subst af;rw[dV] at e;cases e;exact new
 ·rw[cS af] at e;exact (x b u e).kc (λc v _ q=>k c v q) (λc q=>by rw[cS (jw q bg)];exact q) λc xs q=>by rw[cS (jw q bg)];exact q
end
noncomputable def fZ(H:aB)(a:ak)(u:ef):Prop:=H a=some u\/∃o,H a=some (.pd o u)
def fZ.ok{P:cA}{w:b_}{H:aB}{h:bM}{a:ak}{u:ef}(r:fZ H a u)(x:eP P w H h):hZ P w H h a u:=by
 rcases r with r|⟨o,r⟩
 ·exact x a u r
 ·obtain⟨_,q⟩:=x a _ r;exact q
noncomputable def xY:Option ef->Prop
|some (.lst _)=>True
|some (.fy _)=>True
|some (.n2 _)=>True
|some (.set _ _)=>True
|some (.ins _ _ _)=>True
|some (.ext _)=>True
|_=>False
section
variable {P:cA}{w:b_}{H:aB}{h h':bM}{x e:ak}{o':ef}
def eP.write(ok:eP P w H h)(mw:xY (H x))(he:e=x\/H e=some (.own x))(k:∀b u,b≠e->h.get? b=some u->h'.get? b=some u)(wk:∃u,h'.get? e=some u)
  (new:hZ P w (upd H x o') h' x o'):eP P w (upd H x o') h':=λb u q=>by
 have QL:∀c y,H c=some (.own y)->c≠x:=λc y r z=>by subst z;rw[r] at mw;exact mw
 have ab':∀c xs,H c=some (.tup xs)->c≠x:=λc xs r z=>by subst z;rw[r] at mw;exact mw
 by_cases af:b=x
 ·subst af;rw[dV] at q;cases q;exact new
 ·rw[cS af] at q;by_cases uB:b=e
  ·have eU:H b=some (.own x):=by
    rcases he with z|z
    ·exact absurd (uB.trans z) af
    ·rw[uB];exact z
   rw[q] at eU;cases eU;obtain⟨v,bh⟩:=wk;exact⟨v,by rw[uB];exact bh⟩
  ·refine (ok b u q).kc (λc v aw r=>k c v ?_ r) (λc r=>by rw[cS (QL c b r)];exact r) λc xs r=>by rw[cS (ab' c xs r)];exact r
   rcases aw with rfl|aw
   ·exact uB
   ·rintro rfl;rcases he with z|z
    ·exact QL c b aw z
    ·rw[aw] at z;cases z;exact af rfl
end
structure f6(aE ex:List ak)(H ag:aB)(h h':bM):Prop where
 keep:∀b o,h.get? b=some o->H b=none->b∉aE->b∉ex->h'.get? b=some o
 slot:∀b o,h.get? b=some o->H b=none->b∈aE->b∉ex->∃cz,h'.get? b=some {o with slots:=cz}
 free:∀b o,h.get? b=some o->H b=none->b∉ex->ag b=none
 there:∀b o,h.get? b=some o->b∉ex->∃o',h'.get? b=some o'
 l4:∀b xs,H b=some (.tup xs)->ag b=some (.tup xs)
 k4:∀b o u,H b=some (.pd o u)->ag b=some (.pd o u)
 lr:∀b ps,H b=some (.iF ps)->∃more,ag b=some (.iF (ps++more))
section
variable {aE iu ex an5:List ak}{H H1 bB:aB}{h ah ar h':bM}{a x e:ak}{o:ef}
def f6.any(u:f6 aE ex H H1 h ah){b:ak}{dE:Obj}(q:h.get? b=some dE)(n:H b=none)(hx:b∉ex):∃cz,ah.get? b=some {dE with slots:=cz}:=by
 by_cases af:b∈aE
 ·exact u.slot b dE q n af hx
 ·exact⟨dE.slots,u.keep b dE q n af hx⟩
def f6.kept(k:∀b u,h.get? b=some u->h'.get? b=some u):f6 aE ex H H h h':=
 ⟨λb dE q _ _ _=>k b dE q,λb dE q _ _ _=>⟨dE.slots,k b dE q⟩,λ_ _ _ n _=>n,λb dE q _=>⟨dE,k b dE q⟩,λ_ _ q=>q,λ_ _ _ q=>q,λ_ ps q=>⟨#[],by rw[q];simp⟩⟩
def f6.refl:f6 aE ex H H h h:=f6.kept λ_ _ q=>q
def f6.laid(k:∀b u,h.get? b=some u->h'.get? b=some u)(aL:h.objs.size<=a)(bg:H a=none):f6 aE ex H (upd H a o) h h' where
 keep:=λb u q _ _ _=>k b u q
 slot:=λb u q _ _ _=>⟨u.slots,k b u q⟩
 free:=λb u q n _=>by rw[cS (e3 (i' (c_ q) aL))];exact n
 there:=λb u q _=>⟨u,k b u q⟩
 l4:=λb xs q=>by rw[cS (jw q bg)];exact q
 k4:=λb u xs q=>by rw[cS (jw q bg)];exact q
 lr:=λb ps q=>⟨#[],by rw[cS (jw q bg),q];simp⟩
def f6.write(mw:xY (H x))(he:e=x\/H e=some (.own x))(k:∀b u,b≠e->h.get? b=some u->h'.get? b=some u)(wk:∃u,h'.get? e=some u):f6 aE ex H (upd H x o) h h':=by
 have hx:∀b,H b=none->b≠x:=λb n z=>by subst z;rw[n] at mw;exact mw
 have af:∀b,H b=none->b≠e:=λb n z=>by
  subst z;rcases he with r|r
  ·exact hx b n r
  ·rw[n] at r;cases r
 have hm:∀b u,H b=some u->¬xY (some u)->b≠x:=λb u q nm z=>by subst z;rw[q] at mw;exact nm mw
 refine⟨λb u q n _ _=>k b u (af b n) q,λb u q n _ _=>⟨u.slots,k b u (af b n) q⟩,λb u q n _=>by rw[cS (hx b n)];exact n,λb u q _=>?_,
  λb xs q=>by rw[cS (hm b _ q λz=>z)];exact q,λb u xs q=>by rw[cS (hm b _ q λz=>z)];exact q,λb ps q=>⟨#[],by rw[cS (hm b _ q λz=>z),q];simp⟩⟩
 by_cases uB:b=e
 ·subst uB;exact wk
 ·exact⟨u,k b u uB q⟩
end
noncomputable def C9(h:bM)(H:aB):List ak:=(List.range h.objs.size).filter λa=>(H a).isSome
noncomputable def qg(h:bM)(H:aB):bM:=PySem.W.hideAll h (C9 h H)
def aj1(h:bM)(H:aB):(qg h H).objs.size=h.objs.size:=PySem.W.hideAll_size _ _
def ak4{h:bM}{H:aB}{b:ak}{o:Obj}(e:h.get? b=some o)(n:H b=none):(qg h H).get? b=some o:=
 PySem.W.hideAll_get _ e λhm=>by
  have q:(H b).isSome=true:=(List.mem_filter.mp hm).2;rw[n] at q;simp at q
def alT{h:bM}{H:aB}{b:ak}{o:Obj}(e:(qg h H).get? b=some o):h.get? b=some o/\H b=none:=by
 have bD:h.get? b=some o:=PySem.W.of_hideAll (C9 h H) e;refine⟨bD,?_⟩;cases q:H b with
|none=>rfl
|some x=>
  have hm:b∈C9 h H:=List.mem_filter.mpr ⟨List.mem_range.mpr (c_ bD),by simp[q]⟩;have z:(qg h H).get? b=none:=PySem.W.hideAll_none (C9 h H) hm;rw[z] at e;cases e
noncomputable def amf(g h:bM)(L:ak):List (ak×Obj):=(List.range h.objs.size).filterMap λa=>if a=L\/(g.get? a).isSome=true then none else (h.get? a).map λo=>(a,o)
noncomputable def rest(g h:bM)(L d:ak):List (ak×Obj):=(amf g h L).filter λp=>decide (p.1≠d)
end bA
namespace bA
open PySem PySem.Spec PyProof.Rows
structure Mod(K:bc)(mg:Str->Option aq)(base:bM):Prop where
 pq:K.In base
 glob:base.Ns i_ mg
 blt:∃mv,base.Ns builtinsNs mv/\∀x:Str,x≠"__name__"->mv x=bootBuiltins x
 nolimit:base.NoLimit
structure a3 where
 prog:cA
 w:b_
 K:bc
 mg:Str->Option aq
 base:bM
 A:cw
 N:List Str
 dq:aH
 aY:aB
 env:Env
 outer:List Env
 stack:List Env
 ex:List ak
 fn:Str->Bool
 calm:Bool
 dx:List (ak×Obj)
 dm:aq->aH->Prop
noncomputable def fc(l:List Env):List ak:=l.filterMap (·.frame)
abbrev a3.aE(X:a3):List ak:=fc X.outer
noncomputable def oX(sc:Scope)(x:Str):Prop:=sc.names.lookup x=some .local\/sc.names.lookup x=some .cell\/sc.names.lookup x=some .free
noncomputable def Loc(sc:Scope)(x:Str):Prop:=sc.names.lookup x=some .local\/sc.names.lookup x=some .cell
noncomputable def Look(env:Env)(h:bM)(m:Str->Option aq)(x:Str)(u:aq):Prop:=
 (env.kindOf x=some .local/\m x=some u)\/((env.kindOf x=some .cell\/env.kindOf x=some .free)/\∃c,env.cells.lookup x=some c/\h.IsCell c (some u))
structure a3.Ok(X:a3):Prop where
 mod:Mod X.K X.mg X.base
 kind:X.env.scope.kind=.function
 glob:X.env.globals=i_
 blt:X.env.builtins=builtinsNs
 above:X.dq.heap.objs.size<=X.env.locals
 inj:∀x y c,X.env.cells.lookup x=some c->X.env.cells.lookup y=some c->x=y
 has:∀x,(X.env.kindOf x=some .cell\/X.env.kindOf x=some .free)->∃c,X.env.cells.lookup x=some c
 ue:∀x c,X.fn x=true->X.env.cells.lookup x=some c->X.dq.heap.objs.size<=c
 hd:X.calm=true->X.A.handled=none
 frames:X.A.frames=some X.stack
 qv:X.stack=X.outer\/(X.stack=X.env::X.outer/\X.env.frame=some X.env.locals)
 wd:∀b∈X.ex,b≠X.env.locals/\∀x c,X.env.cells.lookup x=some c->c≠b
 bs:∀b o,X.base.get? b=some o->X.dq.heap.get? b=some o/\X.aY b=none
 m4:X.base.objs.size<=X.dq.heap.objs.size
 uU:∀b o,X.base.get? b=some o->b∉X.ex
 uo:∀b∈X.ex,b∉X.aE
 ky:X.dq.heap.FunFrames X.base X.outer
 n7:∀b∈X.aE,X.aY b=none
structure Inv(X:a3)(ao:List (ak×Obj))(σ:List (Option V))(H:aB)(s:aH):Prop where
 ok:X.Ok
 os:s.os=X.dq.os
 bare:AllBare s.gens
 base:f6 X.aE X.ex X.aY H X.dq.heap s.heap
 loc:∃m,s.heap.Ns X.env.locals m/\∀(i:Nat) (x:Str) (v:V),X.N[i]?=some x->σ[i]?=some (some v)->oX X.env.scope x->∃u,RelV v u/\Look X.env s.heap m x u
 cell:∀x c,X.env.cells.lookup x=some c->∃v,s.heap.IsCell c v
 free:H X.env.locals=none
 aoI:∀x c,X.env.cells.lookup x=some c->H c=none
 pin:∀p∈X.dx++ao,s.heap.get? p.1=some p.2/\H p.1=none/\p.1≠X.env.locals/\p.1∉X.aE/\∀v,p.2.data≠.cell v
 bL:eP X.prog X.w H s.heap
 len:σ.length=X.N.length
section
variable {X:a3}{ao:List (ak×Obj)}{σ:List (Option V)}{H ag:aB}{s:aH}{h':bM}
def a3.Ok.ab6(ok:X.Ok){b:ak}{o:Obj}(e:X.base.get? b=some o):b∉X.aE:=λaf=>by
 have:=(ok.ky.mem af).1;rw[e] at this;cases this
theorem Inv.bs(I:Inv X ao σ H s):∀b o,X.base.get? b=some o->s.heap.get? b=some o/\H b=none:=λb o e=>
 ⟨I.base.keep b o (I.ok.bs b o e).1 (I.ok.bs b o e).2 (I.ok.ab6 e) (I.ok.uU b o e),I.base.free b o (I.ok.bs b o e).1 (I.ok.bs b o e).2 (I.ok.uU b o e)⟩
def Inv.gR(I:Inv X ao σ H s):∀b o,X.base.get? b=some o->s.heap.get? b=some o:=λb o e=>(I.bs b o e).1
theorem Inv.mod(I:Inv X ao σ H s):Mod X.K X.mg X.base:=I.ok.mod
def Inv.j9(I:Inv X ao σ H s):X.K.In s.heap:=I.ok.mod.pq.keeps I.gR
theorem Inv.lt(I:Inv X ao σ H s):X.env.locals<s.heap.objs.size:=let ⟨_,bg,_⟩:=I.loc;bg.lt
def Inv.mA(I:Inv X ao σ H s):X.dq.heap.objs.size<=s.heap.objs.size:=lz I.ok.above (Nat.le_of_lt I.lt)
def Inv.ab8(I:Inv X ao σ H s){a:ak}(h:s.heap.objs.size<=a):a∉X.aE:=λaf=>by
 obtain⟨_,o,aJ,_⟩:=I.ok.ky.mem af;exact absurd (i' (c_ aJ) (lz I.mA h)) (Nat.lt_irrefl _)
def Inv.aoU(I:Inv X ao σ H s):∀x c,X.env.cells.lookup x=some c->c≠X.env.locals:=λx c e z=>by
 obtain⟨v,o,aJ,hd⟩:=I.cell x c e;obtain⟨m,⟨o',es,ep,jH,H0,_⟩,_⟩:=I.loc;rw[z,jH] at aJ;cases aJ;rw[H0] at hd;cases hd
theorem Inv.ky(I:Inv X ao σ H s):s.heap.FunFrames X.base X.outer:=by
 have all:∀(l:List Env),(∀b∈fc l,b∈X.aE)->X.dq.heap.FunFrames X.base l->s.heap.FunFrames X.base l:=by
  intro l
  induction l with
  |nil=>intro _ _;trivial
  |cons env r bT=>
   intro aA aG;obtain⟨aI,⟨L,o,hf,bg,aJ,hd⟩,ay⟩:=aG;have f':L∈X.aE:=aA L (by unfold fc;rw[List.filterMap_cons,hf];exact fQ);obtain⟨cz,e⟩:=I.base.slot L o aJ (I.ok.n7 L f') f' λz=>I.ok.uo L z f';exact⟨aI,⟨L,_,hf,bg,e,hd⟩,bT (λb af=>aA b (by unfold fc;rw[List.filterMap_cons,hf];exact dK _ af)) ay⟩
 exact all X.outer (λ_ af=>af) I.ok.ky
theorem Inv.stack(I:Inv X ao σ H s):s.heap.FunFrames X.base X.stack:=by
 rcases I.ok.qv with e|⟨e,hf⟩
 ·rw[e];exact I.ky
 ·rw[e];obtain⟨m,bg,_⟩:=I.loc;refine .cons (by rw[I.ok.kind];decide) hf bg ?_ I.ky;exact Heap.get?_none_of_le (lz I.ok.m4 I.ok.above)
def Inv.CZ(I:Inv X ao σ H s):∀b∈fc X.stack,b∈X.env.locals::X.aE:=λb af=>by
 rcases I.ok.qv with e|⟨e,hf⟩
 ·rw[e] at af;exact dK _ af
 ·rw[e] at af;unfold fc at af;rw[List.filterMap_cons,hf] at af;exact af
def Inv.Lk(I:Inv X ao σ H s):∀b∈fc X.stack,H b=none:=λb af=>by
 rcases cM.mp (I.CZ b af) with e|af
 ·rw[e];exact I.free
 ·obtain⟨_,o,aJ,_⟩:=I.ok.ky.mem af;exact I.base.free b o aJ (I.ok.n7 b af) λz=>I.ok.uo b z af
def Inv.step{g':Array GenState}{t':Nat}{d':Drawn}{ch:List ak}(I:Inv X ao σ H s)
  (qd:∀b∈ch,(b∈X.ex\/X.dq.heap.objs.size<=b)/\b≠X.env.locals/\(∀x c,X.env.cells.lookup x=some c->c≠b)/\∀p∈X.dx++ao,p.1≠b)
  (keep:∀b o,b≠X.env.locals->b∉X.aE->b∉ch->s.heap.get? b=some o->H b=none->h'.get? b=some o)
  (slot:∀b o,b≠X.env.locals->b∈X.aE->b∉ch->s.heap.get? b=some o->H b=none->∃cz,h'.get? b=some {o with slots:=cz}) (free:∀b o,b∉ch->s.heap.get? b=some o->H b=none->ag b=none)
  (there:∀b o,b∉ch->s.heap.get? b=some o->∃o',h'.get? b=some o')
  (l4:∀b xs,H b=some (.tup xs)->ag b=some (.tup xs)) (k4:∀b o u,H b=some (.pd o u)->ag b=some (.pd o u)) (lr:∀b ps,H b=some (.iF ps)->∃more,ag b=some (.iF (ps++more)))
  (ns:∀m,s.heap.Ns X.env.locals m->h'.Ns X.env.locals m) (bL:eP X.prog X.w ag h') (bq:AllBare g'):
  Inv X ao σ ag {s with heap:=h',gens:=g',drawn:=d',toks:=t'}:=by
 have QF:∀b o,X.dq.heap.get? b=some o->b≠X.env.locals:=λb o e=>e3 (i' (c_ e) I.ok.above);have uS:∀b o,X.dq.heap.get? b=some o->b∉X.ex->b∉ch:=λb o e hx af=>by
  rcases (qd b af).1 with z|z
  ·exact hx z
  ·exact absurd (i' (c_ e) z) (Nat.lt_irrefl _)
 have cellK:∀x c,X.env.cells.lookup x=some c->∀v,s.heap.IsCell c v->h'.IsCell c v:=λx c e v ⟨o,aJ,hd⟩=>by
  have y5:c∉ch:=λz=>(qd c z).2.2.1 x c e rfl;by_cases aw:c∈X.aE
  ·obtain⟨cz,q⟩:=slot c o (I.aoU x c e) aw y5 aJ (I.aoI x c e);exact⟨_,q,hd⟩
  ·exact⟨o,keep c o (I.aoU x c e) aw y5 aJ (I.aoI x c e),hd⟩
 refine⟨I.ok,I.os,bq,⟨λb o e n af hx=>?_,λb o e n af hx=>?_,λb o e n hx=>?_,λb o e hx=>?_,λb xs e=>l4 b xs (I.base.l4 b xs e),λb o xs e=>k4 b o xs (I.base.k4 b o xs e),λb ps e=>?_⟩,?_,λx c e=>?_,?_,λx c e=>?_,λp aL=>?_,bL,I.len⟩
 ·exact keep b o (QF b o e) af (uS b o e hx) (I.base.keep b o e n af hx) (I.base.free b o e n hx)
 ·obtain⟨cz,az⟩:=I.base.slot b o e n af hx;obtain⟨CW,aM⟩:=slot b _ (QF b o e) af (uS b o e hx) az (I.base.free b o e n hx);exact⟨CW,aM⟩
 ·obtain⟨o',az⟩:=I.base.there b o e hx;exact free b o' (uS b o e hx) az (I.base.free b o e n hx)
 ·obtain⟨o',az⟩:=I.base.there b o e hx;exact there b o' (uS b o e hx) az
 ·obtain⟨i3,az⟩:=I.base.lr b ps e;obtain⟨kF,aM⟩:=lr b _ az;exact⟨i3++kF,by rw[aM,Array.append_assoc]⟩
 ·obtain⟨m,bg,aG⟩:=I.loc;refine⟨m,ns m bg,λi x v az aM dS=>?_⟩;obtain⟨u,r,l⟩:=aG i x v az aM dS;refine⟨u,r,?_⟩;rcases l with l|⟨k,c,e,z⟩
  ·exact .inl l
  ·exact .inr ⟨k,c,e,cellK x c e _ z⟩
 ·obtain⟨v,z⟩:=I.cell x c e;exact⟨v,cellK x c e v z⟩
 ·obtain⟨m,⟨o,_,_,aJ,_⟩,_⟩:=I.loc;exact free _ o (λz=>(qd _ z).2.1 rfl) aJ I.free
 ·obtain⟨v,o,aJ,hd⟩:=I.cell x c e;exact free c o (λz=>(qd c z).2.2.1 x c e rfl) aJ (I.aoI x c e)
 ·obtain⟨e,n,ne,jn,d⟩:=I.pin p aL;have y5:p.1∉ch:=λz=>(qd p.1 z).2.2.2 p aL rfl;exact⟨keep p.1 p.2 ne jn y5 e n,free p.1 p.2 y5 e n,ne,jn,d⟩
def Inv.un{t':Nat}(I:Inv X ao σ H s)(u:f6 X.aE [] H ag s.heap h')(bL:eP X.prog X.w ag h'):Inv X ao σ ag {s with heap:=h',toks:=t'}:=by
 obtain⟨m,⟨o,es,ep,aJ,r⟩,_⟩:=id I.loc;obtain⟨cz,f'⟩:=u.any aJ I.free (by simp);exact I.step (g':=s.gens) (d':=s.drawn) (ch:=[]) (λ_ z=>nomatch z) (λb o _ af _ e n=>u.keep b o e n af (by simp)) (λb o _ af _ e n=>u.slot b o e n af (by simp)) (λb o _ e n=>u.free b o e n (by simp)) (λb o _ e=>u.there b o e (by simp)) u.l4 u.k4 u.lr (λqo hm=>by
  obtain⟨o',jG,Hf,jH,cy⟩:=hm;rw[aJ] at jH;cases jH;exact⟨_,jG,Hf,f',cy⟩) bL I.bare
def Inv.call{g':Array GenState}{t':Nat}{d':Drawn}{ch:List ak}(I:Inv X ao σ H s)(u:f6 (fc X.stack) ch H ag s.heap h')(bL:eP X.prog X.w ag h')(bq:AllBare g')
  (qd:∀b∈ch,(b∈X.ex\/X.dq.heap.objs.size<=b)/\b≠X.env.locals/\(∀x c,X.env.cells.lookup x=some c->c≠b)/\∀p∈X.dx++ao,p.1≠b):
  Inv X ao σ ag {s with heap:=h',gens:=g',drawn:=d',toks:=t'}:=by
 obtain⟨m,⟨o,es,ep,aJ,r⟩,_⟩:=id I.loc;obtain⟨cz,f'⟩:=u.any aJ I.free λz=>(qd _ z).2.1 rfl;exact I.step (ch:=ch) qd (λb o f' af aw e n=>u.keep b o e n (λz=>(cM.mp (I.CZ b z)).elim f' af) aw) (λb o _ _ aw e n=>u.any e n aw) (λb o aw e n=>u.free b o e n aw) (λb o aw e=>u.there b o e aw) u.l4 u.k4 u.lr (λqo hm=>by
  obtain⟨o',jG,Hf,jH,cy⟩:=hm;rw[aJ] at jH;cases jH;exact⟨_,jG,Hf,f',cy⟩) bL bq
def Inv.turned{t':Nat}{it:ak}(I:Inv X ao σ H s)(k:∀b o,b≠it->s.heap.get? b=some o->h'.get? b=some o)(bg:H it=none)(f':it≠X.env.locals)
  (ah:it∈X.ex\/X.dq.heap.objs.size<=it) (ar:∀x c,X.env.cells.lookup x=some c->c≠it) (br:∀p∈X.dx++ao,p.1≠it):Inv X ao σ H {s with heap:=h',toks:=t'}:=by
 have QI:∀b u,H b=some u->b≠it:=λb u e z=>by rw[z,bg] at e;cases e
 refine I.step (g':=s.gens) (d':=s.drawn) (ch:=[it]) (λb af=>?_) (λb o _ _ aw e _=>k b o (λz=>aw (by simp[z])) e) (λb o _ _ aw e _=>⟨o.slots,k b o (λz=>aw (by simp[z])) e⟩) (λ_ _ _ _ n=>n)
  (λb o aw e=>⟨o,k b o (λz=>aw (by simp[z])) e⟩) (λ_ _ e=>e) (λ_ _ _ e=>e) (λb ps e=>⟨#[],by rw[e];simp⟩) (λm hm=>?_) (λb u e=>?_) I.bare
 ·have e:b=it:=by simpa using af
  subst e;exact⟨ah,f',ar,br⟩
 ·obtain⟨o,es,ep,aJ,r⟩:=hm;exact⟨o,es,ep,k _ o (Ne.symm f') aJ,r⟩
 ·refine (I.bL b u e).kc (λc v aw q=>k c v ?_ q) (λ_ q=>q) λ_ _ q=>q
  rcases aw with z|z
  ·rw[z];exact QI b u e
  ·exact QI c _ z
def Inv.tok(I:Inv X ao σ H s)(t:Nat):Inv X ao σ H {s with toks:=t}:=I.un (h':=s.heap) (t':=t) f6.refl I.bL
theorem Inv.kept{t':Nat}(I:Inv X ao σ H s)(k:∀b u,s.heap.get? b=some u->h'.get? b=some u):Inv X ao σ H {s with heap:=h',toks:=t'}:=I.un (f6.kept k) (I.bL.kept k)
theorem Inv.laid{a:ak}{o:ef}{t':Nat}(I:Inv X ao σ H s)(k:∀b u,s.heap.get? b=some u->h'.get? b=some u)(aL:s.heap.objs.size<=a)(new:hZ X.prog X.w (upd H a o) h' a o):
  Inv X ao σ (upd H a o) {s with heap:=h',toks:=t'}:=I.un (f6.laid k aL (I.bL.fresh aL)) (I.bL.laid k aL new)
theorem Inv.write{x e:ak}{o:ef}{t':Nat}(I:Inv X ao σ H s)(mw:xY (H x))(he:e=x\/H e=some (.own x))(k:∀b u,b≠e->s.heap.get? b=some u->h'.get? b=some u)(wk:∃u,h'.get? e=some u)
  (new:hZ X.prog X.w (upd H x o) h' x o):Inv X ao σ (upd H x o) {s with heap:=h',toks:=t'}:=I.un (f6.write mw he k wk) (I.bL.write mw he k wk new)
def Inv.wG{rB:List (ak×Obj)}(I:Inv X ao σ H s)(h:∀p∈rB,s.heap.get? p.1=some p.2/\H p.1=none/\p.1≠X.env.locals/\p.1∉X.aE/\∀v,p.2.data≠.cell v):Inv X rB σ H s:=
 ⟨I.ok,I.os,I.bare,I.base,I.loc,I.cell,I.free,I.aoI,λp aL=>(hS.mp aL).elim (λz=>I.pin p (List.mem_append_left _ z)) (h p),I.bL,I.len⟩
def M0{N:List Str}(dz:N.Nodup){i j:Nat}{x:Str}(a:N[i]?=some x)(b:N[j]?=some x):i=j:=by
 obtain⟨ah,az⟩:=g6.mp a;obtain⟨ar,aM⟩:=g6.mp b;exact (List.getElem_inj dz).mp (az.trans aM.symm)
def SS{M:Model}{A:cw}{E:aq->aH->Prop}{i:Nat}{x:Str}{v:V}{u:aq}{Q:Unit->aH->Prop}(I:Inv X ao σ H s)(dz:X.N.Nodup)(aP:X.N[i]?=some x)(hx:Loc X.env.scope x)(r:RelV v u)
  (h:∀s',Inv X ao (σ.set i (some v)) H s'->(∃a,Heap.SameBut a s.heap s'.heap/\(a=X.env.locals\/X.env.cells.lookup x=some a))->Q () s') (hf:X.fn x=true\/X.env.scope.names.lookup x=some .local:=by first|exact .inl rfl|exact .inr rfl|assumption):a_ M A (storeName X.env x u) Q E s:=by
 obtain⟨m,bg,aG⟩:=id I.loc;have _L:(X.env.scope.kind==.class || (X.env.scope.kind==.module && X.env.locals != X.env.globals))=false:=by rw[I.ok.kind];rfl
 have BN:i<σ.length:=by rw[I.len];exact (g6.mp aP).1
 have aoU:=I.aoU;have tracked:∀{a:ak} {h':bM},(∃o,s.heap.get? a=some o/\H a=none)->Heap.SameBut a s.heap h'->eP X.prog X.w H h':=λ{a h'} aC aA b dE e=>by
  obtain⟨_,_,P6⟩:=aC;refine (I.bL b dE e).kc (λc dh aw q=>(aA.2 c ?_).trans q) (λ_ q=>q) λ_ _ q=>q;rintro rfl;rcases aw with rfl|aw
  ·rw[P6] at e;cases e
  ·rw[P6] at aw;cases aw
 rcases hx with aI|aI
 ·refine wpAny_storeName_local aI bg (λh' aan aA=>?_) _L
  obtain⟨oL,_,_,sP,_⟩:=id bg;refine h _ ⟨I.ok,I.os,I.bare,⟨λb o e n af hx=>?_,λb o e n af hx=>?_,I.base.free,λb o e hx=>?_,I.base.l4,I.base.k4,I.base.lr⟩,⟨_,aan,λj y kJ az aM dS=>?_⟩,λy c e=>?_,I.free,I.aoI,λp aL=>?_,tracked ⟨oL,sP,I.free⟩ aA,by simpa using I.len⟩ ⟨_,aA,.inl rfl⟩
  ·exact (aA.2 b (e3 (i' (c_ e) I.ok.above))).trans (I.base.keep b o e n af hx)
  ·obtain⟨cz,az⟩:=I.base.slot b o e n af hx;exact⟨cz,(aA.2 b (e3 (i' (c_ e) I.ok.above))).trans az⟩
  ·obtain⟨o',az⟩:=I.base.there b o e hx;exact⟨o',(aA.2 b (e3 (i' (c_ e) I.ok.above))).trans az⟩
  ·by_cases bU:j=i
   ·subst bU;rw[aP] at az;cases az;rw[List.getElem?_set_self BN] at aM;cases aM;exact⟨u,r,.inl ⟨aI,by simp⟩⟩
   ·rw[List.getElem?_set_ne (Ne.symm bU)] at aM;obtain⟨u5,cy,q⟩:=aG j y kJ az aM dS;refine⟨u5,cy,?_⟩;rcases q with ⟨k,e⟩|⟨k,c,e,z⟩
    ·refine .inl ⟨k,?_⟩
     have:y≠x:=λe=>bU (M0 dz az (e▸aP));simp[this,e]
    ·exact .inr ⟨k,c,e,z.sameBut aA (aoU y c e)⟩
  ·obtain⟨dh,z⟩:=I.cell y c e;exact⟨dh,z.sameBut aA (aoU y c e)⟩
  ·obtain⟨e,n,ne,jn,d⟩:=I.pin p aL;exact⟨(aA.2 p.1 ne).trans e,n,ne,jn,d⟩
 ·have H8:X.fn x=true:=by
   rcases hf with z|z
   ·exact z
   ·rw[z] at aI;cases aI
  obtain⟨c,aw⟩:=I.ok.has x (.inl aI);obtain⟨dh,z⟩:=I.cell x c aw;refine wpAny_storeName_cell I.ok.kind aI aw z (λh' dA aA=>?_);obtain⟨g0,Qc,aar⟩:=id z;refine h {s with heap:=h'} ⟨I.ok,I.os,I.bare,⟨λb o e n af hx=>?_,λb o e n af hx=>?_,I.base.free,λb o e hx=>?_,I.base.l4,I.base.k4,I.base.lr⟩,⟨m,bg.sameBut aA (Ne.symm (aoU x c aw)),λj y kJ az aM dS=>?_⟩,λy bX e=>?_,I.free,I.aoI,λp aL=>?_,tracked ⟨g0,Qc,I.aoI x c aw⟩ aA,by simpa using I.len⟩ ⟨c,aA,.inr aw⟩
  ·exact (aA.2 b (e3 (i' (c_ e) (I.ok.ue x c H8 aw)))).trans (I.base.keep b o e n af hx)
  ·obtain⟨cz,az⟩:=I.base.slot b o e n af hx;exact⟨cz,(aA.2 b (e3 (i' (c_ e) (I.ok.ue x c H8 aw)))).trans az⟩
  ·obtain⟨o',az⟩:=I.base.there b o e hx;exact⟨o',(aA.2 b (e3 (i' (c_ e) (I.ok.ue x c H8 aw)))).trans az⟩
  ·by_cases bU:j=i
   ·subst bU;rw[aP] at az;cases az;rw[List.getElem?_set_self BN] at aM;cases aM;exact⟨u,r,.inr ⟨.inl aI,c,aw,dA⟩⟩
   ·rw[List.getElem?_set_ne (Ne.symm bU)] at aM;obtain⟨u5,cy,q⟩:=aG j y kJ az aM dS;refine⟨u5,cy,?_⟩;rcases q with q|⟨k,bX,e,jc⟩
    ·exact .inl q
    ·refine .inr ⟨k,bX,e,jc.sameBut aA ?_⟩
     rintro rfl;exact bU (M0 dz az (I.ok.inj _ _ _ e aw▸aP))
  ·by_cases PY:bX=c
   ·subst PY;exact⟨_,dA⟩
   ·obtain⟨oC,gB⟩:=I.cell y bX e;exact⟨oC,gB.sameBut aA PY⟩
  ·obtain⟨e,n,ne,jn,d⟩:=I.pin p aL;refine⟨(aA.2 p.1 ?_).trans e,n,ne,jn,d⟩;intro q;rw[q,Qc] at e;have eU:g0=p.2:=gg e;exact d dh (by rw[<- eU];exact aar)
def MT{M:Model}{A:cw}{E:aq->aH->Prop}{i:Nat}{x:Str}{v:V}{u:aq}{Q:Unit->aH->Prop}(I:Inv X ao σ H s)(dz:X.N.Nodup)(aP:X.N[i]?=some x)(hx:Loc X.env.scope x)(r:RelV v u)
  (h:∀s',Inv X ao (σ.set i (some v)) H s'->Q () s') (hf:X.fn x=true\/X.env.scope.names.lookup x=some .local:=by first|exact .inl rfl|exact .inr rfl|assumption):a_ M A (storeName X.env x u) Q E s:=
 SS I dz aP hx r (λs' oS _=>h s' oS) hf
def Inv.OJ{s':aH}{ch:List ak}(I:Inv X ao σ H s)(aJ:s'.os=s.os)(u:f6 (fc X.stack) ch H ag s.heap s'.heap)(bL:eP X.prog X.w ag s'.heap)(bq:AllBare s'.gens)
  (qd:∀b∈ch,(b∈X.ex\/X.dq.heap.objs.size<=b)/\b≠X.env.locals/\(∀x c,X.env.cells.lookup x=some c->c≠b)/\∀p∈X.dx++ao,p.1≠b):Inv X ao σ ag s':=by
 obtain⟨h',g',d',t',o'⟩:=s';have e:o'=s.os:=aJ;subst e;exact I.call (g':=g') (t':=t') (d':=d') u bL bq qd
end
abbrev fb:=aq->Option ak->aB->Prop
abbrev St:=List (Option V)
abbrev c3:=V->aB->Prop
abbrev TE:=St->aB->c3->Prop
abbrev TT:=St->aB->(Bool->aB->Prop)->Prop
abbrev gk:=St->aB->(List V->aB->Prop)->Prop
structure Ends where
 bI:St->aB->Prop
 dn:c3
 gR:St->aB->Prop:=λ_ _=>False
 cQ:St->aB->Prop:=λ_ _=>False
abbrev f5:=Ends->St->aB->Prop
noncomputable def g_(X:a3)(ao:List (ak×Obj))(σ:St)(Q:c3)(u:aq)(s':aH):Prop:=∃v ag,Inv X ao σ ag s'/\RelV v u/\Q v ag
noncomputable def AY(X:a3)(ao:List (ak×Obj))(σ:St)(Q:Bool->aB->Prop)(b:Bool)(s':aH):Prop:=∃ag,Inv X ao σ ag s'/\Q b ag
noncomputable def VK(X:a3)(ao:List (ak×Obj))(σ:St)(Q:List V->aB->Prop)(us:List aq)(s':aH):Prop:=∃vs ag,Inv X ao σ ag s'/\Vals vs us/\Q vs ag
noncomputable def q3(X:a3)(ao:List (ak×Obj))(D:Ends)(f:Flow)(s':aH):Prop:=
 match f with
|.next=>∃ck ag,Inv X ao ck ag s'/\D.bI ck ag
|.brk=>∃ck ag,Inv X ao ck ag s'/\D.gR ck ag
|.cont=>∃ck ag,Inv X ao ck ag s'/\D.cQ ck ag
|.ret u=>∃v ck ag,Inv X ao ck ag s'/\RelV v u/\D.dn v ag
noncomputable def b0(X:a3)(e:bx)(t:TE):Prop:=
 ∀(ao:List (ak×Obj)) (s:aH) (σ:St) (H:aB) (Q:c3),Inv X ao σ H s->t σ H Q->a_ (unop%Wk 0) X.A (eval e X.env) (g_ X ao σ Q) X.dm s
noncomputable def jA(X:a3)(e:bx)(t:TT):Prop:=
 ∀(ao:List (ak×Obj)) (s:aH) (σ:St) (H:aB) (Q:Bool->aB->Prop),Inv X ao σ H s->t σ H Q->a_ (unop%Wk 0) X.A (isTrue e X.env (eval e X.env)) (AY X ao σ Q) X.dm s
noncomputable def oV(X:a3)(e:bx)(t:TT):Prop:=
 ∀(whole:Sem aq) (ao:List (ak×Obj)) (s:aH) (σ:St) (H:aB) (Q:Bool->aB->Prop),Inv X ao σ H s->t σ H Q->a_ (unop%Wk 0) X.A (isTrue e X.env whole) (AY X ao σ Q) X.dm s
def oV.pt{X:a3}{e:bx}{t:TT}(h:oV X e t):jA X e t:=h _
noncomputable def gj(X:a3)(es:List bx)(t:gk):Prop:=
 ∀(pos:Pos) (ao:List (ak×Obj)) (s:aH) (σ:St) (H:aB) (Q:List V->aB->Prop),Inv X ao σ H s->t σ H Q->a_ (unop%Wk 0) X.A (spliced (unop%Wy 0)) (VK X ao σ Q) X.dm s
noncomputable def h2(X:a3)(st:Stmt)(t:f5):Prop:=
 ∀(ao:List (ak×Obj)) (s:aH) (σ:St) (H:aB) (D:Ends),Inv X ao σ H s->t D σ H->a_ (unop%Wk 0) X.A (exec st X.env) (q3 X ao D) X.dm s
noncomputable def fY(X:a3)(st:List Stmt)(t:f5):Prop:=
 ∀(ao:List (ak×Obj)) (s:aH) (σ:St) (H:aB) (D:Ends),Inv X ao σ H s->t D σ H->a_ (unop%Wk 0) X.A (execs st X.env) (q3 X ao D) X.dm s
def cK{α:Type}{t:Sem α}{Q AX:α->aH->Prop}{M:Model}{A:cw}{E:aq->aH->Prop}{s:aH}(h:a_ M A t Q E s)(hv:∀a s,Q a s->AX a s):a_ M A t AX E s:=et h hv λ_ _ x=>x
end bA
namespace bA
open PySem PySem.Spec PyProof.Rows
section
variable {X:a3}
noncomputable def g4(i:Nat):TE:=λσ H Q=>∃v,σ[i]?=some (some v)/\Q v H
noncomputable def jT(v:V):TE:=λ_ H Q=>Q v H
def amK{i:Nat}{x:Str}{pos:Pos}(dz:X.N[i]?=some x)(bh:oX X.env.scope x)(hd:(x==("__debug__":Str))=false:=by decide)(eg:(x==("__classdict__":Str))=false:=by decide):b0 X (.Name x pos) (g4 i):=by
 intro ao s σ H Q I h;obtain⟨v,e,h⟩:=h;obtain⟨m,bg,aG⟩:=I.loc;obtain⟨u,r,l⟩:=aG i x v dz e bh;have fin:g_ X ao σ Q u s:=⟨v,H,I,r,h⟩;rcases l with ⟨aI,hm⟩|⟨aI,c,aw,wj⟩
 ·exact wpAny_Name (wpAny_loadName_local I.ok.kind aI bg hm fin) hd
 ·rcases aI with aI|aI
  ·exact wpAny_Name (wpAny_loadName_cell I.ok.kind aI aw wj fin) hd
  ·exact wpAny_Name (wpAny_loadName_free I.ok.kind aI aw wj fin eg) hd
def EN{i j pos}:b0 X (.Constant (.int i) j pos) (jT (.int i)):=λ_ _ _ H _ I h=>wpAny_Constant_int ⟨.int i,H,I.tok _,⟨_,rfl⟩,h⟩
def N0{b j pos}:b0 X (.Constant (.bool b) j pos) (jT (.b3 b)):=λ_ _ _ H _ I h=>Constant_bool ⟨.b3 b,H,I,rfl,h⟩
def amL{j pos}:b0 X (.Constant .none j pos) (jT .dT):=λ_ _ _ H _ I h=>Constant_none ⟨.dT,H,I,rfl,h⟩
def Ar{x j pos}:b0 X (.Constant (.str x) j pos) (jT (.str x)):=λ_ _ _ H _ I h=>Calls.Constant_str ⟨.str x,H,I.tok _,⟨_,rfl⟩,h⟩
noncomputable def ee(X:a3)(x:Str):Prop:=X.env.kindOf x=some .globalImplicit
def vD{E:aq->aH->Prop}{ao:List (ak×Obj)}{s:aH}{σ:St}{H:aB}{x:Str}{u:aq}{pos:Pos}{Q:aq->aH->Prop}(I:Inv X ao σ H s)(bq:ee X x)(hm:X.mg x=some u)(h:Q u s)
  (hd:(x==("__debug__":Str))=false:=by decide):a_ (unop%Wk 0) X.A (eval (.Name x pos) X.env) Q E s:=
 Calls.Name_function_global I.ok.kind bq (Calls.loadGlobal_global (by rw[I.ok.glob];exact I.mod.glob.keeps I.gR) hm h) hd
def qO{E:aq->aH->Prop}{ao:List (ak×Obj)}{s:aH}{σ:St}{H:aB}{x:Str}{u:aq}{pos:Pos}{Q:aq->aH->Prop}(I:Inv X ao σ H s)(bq:ee X x)(hm:X.mg x=none)(bh:bootBuiltins x=some u)(h:Q u s)
  (bg:x≠"__name__":=by decide) (hd:(x==("__debug__":Str))=false:=by decide):a_ (unop%Wk 0) X.A (eval (.Name x pos) X.env) Q E s:=by
 obtain⟨mv,ah,ar⟩:=I.mod.blt;exact Calls.Name_function_global I.ok.kind bq (Calls.loadGlobal_builtin (by rw[I.ok.glob];exact I.mod.glob.keeps I.gR) hm (by rw[I.ok.blt];exact ah.keeps I.gR) ((ar x bg).trans bh) h) hd
def xm{x:Str}{v:V}{u:aq}{pos:Pos}(bq:ee X x)(hm:X.mg x=some u)(r:RelV v u)(hd:(x==("__debug__":Str))=false:=by decide):b0 X (.Name x pos) (jT v):=
 λ_ _ _ H _ I h=>vD I bq hm ⟨v,H,I,r,h⟩ hd
def alH{x:Str}{v:V}{u:aq}{pos:Pos}(bq:ee X x)(hm:X.mg x=none)(bh:bootBuiltins x=some u)(r:RelV v u)(bg:x≠"__name__":=by decide)(hd:(x==("__debug__":Str))=false:=by decide):b0 X (.Name x pos) (jT v):=
 λ_ _ _ H _ I h=>qO I bq hm bh ⟨v,H,I,r,h⟩ bg hd
variable {a b:bx}{cJ dg:TE}{pos:Pos}
noncomputable def Fs(X:a3)(op:CmpOp)(a b:bx)(t:TE):Prop:=
 ∀(ao:List (ak×Obj)) (s:aH) (σ:St) (H:aB) (Q:c3),Inv X ao σ H s->t σ H Q ->
  a_ (unop%Wk 0) X.A (eval a X.env) (λv c6=>a_ (unop%Wk 0) X.A (eval b X.env) (λu kd=>a_ (unop%Wk 0) X.A (iH op v u) (g_ X ao σ Q) X.dm kd) X.dm c6) X.dm s
def akQ(b:bx){op:CmpOp}(h:op≠.In)(ar:op≠.NotIn):qC op b=false:=by
 have az:(op==CmpOp.In)=false:=by cases op <;> first|rfl|exact absurd rfl h
 have aM:(op==CmpOp.NotIn)=false:=by cases op <;> first|rfl|exact absurd rfl ar
 cases b <;> simp[qC,az,aM]
noncomputable def age(cJ:TE):TE:=λσ H Q=>cJ σ H λx H1=>Q (.b3 (decide (x=.dT))) H1
noncomputable def ank(cJ:TE):TE:=λσ H Q=>cJ σ H λx H1=>Q (.b3 (!decide (x=.dT))) H1
def RelV.QK{x:V}{v:aq}(r:RelV x v):(v==Value.none)=decide (x=.dT):=by
 cases x with
|dT=>cases r;rfl
|b3 _=>cases r;rfl
|int _=>obtain⟨t,rfl⟩:=r;rfl
|str _=>obtain⟨t,rfl⟩:=r;rfl
|m5 _=>obtain⟨t,rfl⟩:=r;rfl
|yl _=>obtain⟨t,rfl⟩:=r;rfl
|ref _=>cases r;rfl
|ty _=>cases r;rfl
def amO{j pos'}(aC:b0 X a cJ):Fs X .Is a (.Constant .none j pos') (age cJ):=by
 intro ao s σ H Q I h;refine cK (aC ao s σ H _ I h) λv s1 hqq=>?_;obtain⟨x,H1,bj,bk,aQ⟩:=hqq;exact Constant_none (is_none_gen ⟨.b3 _,H1,bj,by rw[bk.QK];rfl,aQ⟩)
def alI{j pos'}(aC:b0 X a cJ):Fs X .IsNot a (.Constant .none j pos') (ank cJ):=by
 intro ao s σ H Q I h;refine cK (aC ao s σ H _ I h) λv s1 hqq=>?_;obtain⟨x,H1,bj,bk,aQ⟩:=hqq;exact Constant_none (isnot_none_gen ⟨.b3 _,H1,bj,by rw[bk.QK];rfl,aQ⟩)
noncomputable def Lm(t:TE):TT:=λσ H Q=>t σ H λx H1=>∃c,x=.b3 c/\Q c H1
def U6{op:CmpOp}{t:TE}(h:Fs X op a b t)(ah:qC op b=false:=by first|exact akQ _ (by decide) (by decide)|rfl):jA X (.Compare a [op] [b] pos) (Lm t):=by
 intro ao s σ H Q I hw;refine wpAny_isTrue_Compare1 (cK (h ao s σ H _ I hw) λv s1 ah=>cK ah λu s2 ar=>cK ar λc s3 hqq=>?_) ah;obtain⟨x,H1,bj,bk,aQ⟩:=hqq;obtain⟨d,rfl,q⟩:=aQ;cases bk;exact vd ⟨H1,bj,q⟩
def U5{e:bx}{t:TE}(h:b0 X e t)(he:∀whole,isTrue e X.env whole=(do let v <- whole;standAt e.pos;holding [v] (truthy v)):=by intro _;rfl):jA X e (Lm t):=by
 intro ao s σ H Q I hw;refine isTrue_plain (cK (h ao s σ H _ I hw) λv s1 hqq=>?_) (he _);obtain⟨x,H1,bj,bk,aQ⟩:=hqq;obtain⟨d,rfl,q⟩:=aQ;cases bk;exact vd ⟨H1,bj,q⟩
variable {oy C1:TT}{rest:List bx}
noncomputable def Rh(t u:TT):TT:=λσ H Q=>t σ H λc H1=>if c=true then u σ H1 Q else Q false H1
noncomputable def agg(t u:TT):TT:=λσ H Q=>t σ H λc H1=>if c=true then Q true H1 else u σ H1 Q
noncomputable def agf(t:TT):TT:=λσ H Q=>t σ H λc H1=>Q (!c) H1
def Uo(aC:jA X a oy):oV X (.BoolOp .And [a] pos) oy:=by
 intro zy ao s σ H Q I h;refine isTrue_and (cK (aC ao s σ H Q I h) λc s1 e=>?_);cases c with
|true=>exact isTrue_and_nil e
|false=>exact e
def amC(aC:jA X a oy):oV X (.BoolOp .Or [a] pos) oy:=by
 intro zy ao s σ H Q I h;refine isTrue_or (cK (aC ao s σ H Q I h) λc s1 e=>?_);cases c with
|false=>exact isTrue_or_nil e
|true=>exact e
def U4(aC:jA X a oy)(af:oV X (.BoolOp .And (b::rest) pos) C1):oV X (.BoolOp .And (a::b::rest) pos) (Rh oy C1):=by
 intro zy ao s σ H Q I h;refine isTrue_and (cK (aC ao s σ H _ I h) λc s1 hqq=>?_);obtain⟨H1,bj,aQ⟩:=hqq;cases c with
|true=>exact af zy ao s1 σ H1 Q bj aQ
|false=>exact⟨H1,bj,aQ⟩
def anD(aC:jA X a oy)(af:oV X (.BoolOp .Or (b::rest) pos) C1):oV X (.BoolOp .Or (a::b::rest) pos) (agg oy C1):=by
 intro zy ao s σ H Q I h;refine isTrue_or (cK (aC ao s σ H _ I h) λc s1 hqq=>?_);obtain⟨H1,bj,aQ⟩:=hqq;cases c with
|true=>exact⟨H1,bj,aQ⟩
|false=>exact af zy ao s1 σ H1 Q bj aQ
def amF(aC:jA X a oy):jA X (.UnaryOp .Not a pos) (agf oy):=by
 intro ao s σ H Q I h;exact isTrue_not (aC ao s σ H (λc H1=>Q (!c) H1) I h)
noncomputable def anq(cJ dg:TE):TE:=λσ H Q=>cJ σ H λx H1=>∃c,x=.b3 c/\if c=true then dg σ H1 Q else Q (.b3 false) H1
noncomputable def agh(cJ dg:TE):TE:=λσ H Q=>cJ σ H λx H1=>∃c,x=.b3 c/\if c=true then Q (.b3 true) H1 else dg σ H1 Q
def U7{op}{t:TE}(h:b0 X a t):b0 X (.BoolOp op [a] pos) t:=λao s σ H Q I hw=>BoolOp_one (h ao s σ H Q I hw)
def amN(aC:b0 X a cJ)(af:b0 X (.BoolOp .And (b::rest) pos) dg):b0 X (.BoolOp .And (a::b::rest) pos) (anq cJ dg):=by
 intro ao s σ H Q I h;refine BoolOp_and (cK (aC ao s σ H _ I h) λv s1 hqq=>?_);obtain⟨x,H1,bj,bk,aQ⟩:=hqq;obtain⟨c,rfl,aQ⟩:=aQ;cases bk;refine vd ?_;cases c with
|true=>exact af ao s1 σ H1 Q bj aQ
|false=>exact⟨.b3 false,H1,bj,rfl,aQ⟩
def anF(aC:b0 X a cJ)(af:b0 X (.BoolOp .Or (b::rest) pos) dg):b0 X (.BoolOp .Or (a::b::rest) pos) (agh cJ dg):=by
 intro ao s σ H Q I h;refine BoolOp_or (cK (aC ao s σ H _ I h) λv s1 hqq=>?_);obtain⟨x,H1,bj,bk,aQ⟩:=hqq;obtain⟨c,rfl,aQ⟩:=aQ;cases bk;refine vd ?_;cases c with
|false=>exact af ao s1 σ H1 Q bj aQ
|true=>exact⟨.b3 true,H1,bj,rfl,aQ⟩
noncomputable def agd(t:TT)(cJ dg:TE):TE:=λσ H Q=>t σ H λc H1=>if c=true then cJ σ H1 Q else dg σ H1 Q
def akI{c:bx}(aw:jA X c oy)(aC:b0 X a cJ)(af:b0 X b dg):b0 X (.IfExp c a b pos) (agd oy cJ dg):=by
 intro ao s σ H Q I h;refine wpAny_IfExp (cK (aw ao s σ H _ I h) λd s1 hqq=>?_);obtain⟨H1,bj,aQ⟩:=hqq;cases d with
|true=>exact aC ao s1 σ H1 Q bj aQ
|false=>exact af ao s1 σ H1 Q bj aQ
end
end bA
namespace bA
open PySem PySem.Spec PyProof.Rows
noncomputable def fG(K:bc)(H:aB)(a:ak)(xs:List V):Prop:=
 fZ H a (.lst xs) \/
  ∃(o:Obj) (its:Array aq) (n:Nat),K.lookup a=some o/\o.cls=.type "list"/\o.dict=none/\o.data=.seq its n/\its.size<=cj/\Vals xs its.toList
noncomputable def dc(K:bc)(H:aB)(a:ak)(xs:List V):Prop:=
 fZ H a (.tup xs) \/
  ∃(o:Obj) (its:Array aq) (n:Nat),K.lookup a=some o/\o.cls=.type "tuple"/\o.data=.seq its n/\its.size<=cj/\Vals xs its.toList
noncomputable def Xn:aq->Option V
|.none=>some .dT
|.bool b=>some (.b3 b)
|.int i _=>some (.int i)
|.str x _=>some (.str x)
|.bytes b _=>some (.m5 b)
|.float b _=>some (.yl b)
|.ref a=>some (.ref a)
|.type n=>some (.ty n)
|_=>none
def RelV.abs{x:V}{u:aq}(r:RelV x u):Xn u=some x:=by
 cases x with
|dT=>cases r;rfl
|b3 _=>cases r;rfl
|int _=>obtain⟨t,rfl⟩:=r;rfl
|str _=>obtain⟨t,rfl⟩:=r;rfl
|m5 _=>obtain⟨t,rfl⟩:=r;rfl
|yl _=>obtain⟨t,rfl⟩:=r;rfl
|ref _=>cases r;rfl
|ty _=>cases r;rfl
def RelV.inj{x y:V}{u:aq}(r:RelV x u)(q:RelV y u):x=y:=gg (r.abs.symm.trans q.abs)
theorem Vals.inj:∀{xs ys:List V} {us:List aq},Vals xs us->Vals ys us->xs=ys
|_,_,_,.nil,.nil=>rfl
|_,_,_,.cons r t,.cons cy t'=>by rw[r.inj cy,Vals.inj t t']
section
variable {X:a3}{ao:List (ak×Obj)}{σ:St}{H:aB}{s:aH}{a:ak}{xs ys:List V}
def fG.of{K:bc}(h:H a=some (.lst xs)):fG K H a xs:=.inl (.inl h)
def dc.of{K:bc}(h:H a=some (.tup xs)):dc K H a xs:=.inl (.inl h)
def Inv.list(I:Inv X ao σ H s)(h:fG X.K H a xs):∃its:List aq,Vals xs its/\PlainL s.heap a its.toArray/\xs.length<=cj:=by
 rcases h with h|⟨o,its,n,aI,aw,hd,aA,hz,r⟩
 ·obtain⟨z,its,n,r,e⟩:=h.ok I.bL;exact⟨its,r,⟨_,n,e,rfl,rfl,rfl⟩,z⟩
 ·refine⟨its.toList,r,⟨o,n,I.j9 a o aI,aw,hd,by simpa using aA⟩,?_⟩
  have e:=r.length;simp only[tb] at e;omega
def Inv.tuple(I:Inv X ao σ H s)(h:dc X.K H a xs):∃its:List aq,Vals xs its/\IsTup s.heap a its.toArray/\xs.length<=cj:=by
 rcases h with h|⟨o,its,n,aI,aw,aA,hz,r⟩
 ·obtain⟨z,its,r,p⟩:=h.ok I.bL;exact⟨its,r,p,z⟩
 ·refine⟨its.toList,r,⟨o,I.j9 a o aI,aw,n,by simpa using aA⟩,?_⟩
  have e:=r.length;simp only[tb] at e;omega
def Inv.abZ(I:Inv X ao σ H s)(h:fG X.K H a xs)(h':fG X.K H a ys):xs=ys:=by
 obtain⟨its,r,⟨o,n,e,_,_,d⟩,_⟩:=I.list h;obtain⟨its',cy,⟨o',y2,bD,_,_,d'⟩,_⟩:=I.list h';rw[e] at bD;cases bD;rw[d] at d';injection d' with yc _;have:its=its':=by simpa using congrArg Array.toList yc
 subst this;exact r.inj cy
def Inv.LA(I:Inv X ao σ H s)(h:dc X.K H a xs)(h':dc X.K H a ys):xs=ys:=by
 obtain⟨its,r,⟨o,e,_,n,d⟩,_⟩:=I.tuple h;obtain⟨its',cy,⟨o',bD,_,y2,d'⟩,_⟩:=I.tuple h';rw[e] at bD;cases bD;rw[d] at d';injection d' with yc _;have:its=its':=by simpa using congrArg Array.toList yc
 subst this;exact r.inj cy
end
abbrev a3.aoK(X:a3)(E:aq->aH->Prop):a3:={X with dm:=E}
abbrev a3.d_(X:a3):a3:=X.aoK λ_ _=>False
theorem a3.Ok.aoK{X:a3}(ok:X.Ok)(E:aq->aH->Prop):(X.aoK E).Ok:=
 ⟨ok.mod,ok.kind,ok.glob,ok.blt,ok.above,ok.inj,ok.has,ok.ue,ok.hd,ok.frames,ok.qv,ok.wd,ok.bs,ok.m4,ok.uU,ok.uo,ok.ky,ok.n7⟩
def a3.Ok.oA{X:a3}{E:aq->aH->Prop}(ok:(X.aoK E).Ok):X.Ok:=
 ⟨ok.mod,ok.kind,ok.glob,ok.blt,ok.above,ok.inj,ok.has,ok.ue,ok.hd,ok.frames,ok.qv,ok.wd,ok.bs,ok.m4,ok.uU,ok.uo,ok.ky,ok.n7⟩
section
variable {X:a3}{ao:List (ak×Obj)}{σ:St}{H:aB}{s:aH}{E:aq->aH->Prop}
theorem Inv.aoK(I:Inv X ao σ H s)(E:aq->aH->Prop):Inv (X.aoK E) ao σ H s:=⟨I.ok.aoK E,I.os,I.bare,I.base,I.loc,I.cell,I.free,I.aoI,I.pin,I.bL,I.len⟩
theorem Inv.oA(I:Inv (X.aoK E) ao σ H s):Inv X ao σ H s:=⟨I.ok.oA,I.os,I.bare,I.base,I.loc,I.cell,I.free,I.aoI,I.pin,I.bL,I.len⟩
theorem q3.oA{D:Ends}{f:Flow}{s':aH}(h:q3 (X.aoK E) ao D f s'):q3 X ao D f s':=by
 cases f with
|next=>obtain⟨ck,ag,I,q⟩:=h;exact⟨ck,ag,I.oA,q⟩
|brk=>obtain⟨ck,ag,I,q⟩:=h;exact⟨ck,ag,I.oA,q⟩
|cont=>obtain⟨ck,ag,I,q⟩:=h;exact⟨ck,ag,I.oA,q⟩
|ret u=>obtain⟨v,ck,ag,I,r,q⟩:=h;exact⟨v,ck,ag,I.oA,r,q⟩
theorem b0.d_{e:bx}{t:TE}(h:b0 X.d_ e t):b0 X e t:=λao s σ H Q I hw=>
 et (h ao s σ H Q (I.aoK _) hw) (λ_ _ ⟨v,ag,oS,r,q⟩=>⟨v,ag,oS.oA,r,q⟩) λ_ _ z=>d8 z
theorem jA.d_{e:bx}{t:TT}(h:jA X.d_ e t):jA X e t:=λao s σ H Q I hw=>
 et (h ao s σ H Q (I.aoK _) hw) (λ_ _ ⟨ag,oS,q⟩=>⟨ag,oS.oA,q⟩) λ_ _ z=>d8 z
theorem fY.d_{st:List Stmt}{t:f5}(h:fY X.d_ st t):fY X st t:=λao s σ H D I hw=>
 et (h ao s σ H D (I.aoK _) hw) (λ_ _ q=>q.oA) λ_ _ z=>d8 z
end
section
variable {X:a3}{st:Stmt}{rest:List Stmt}{t u:f5}{e:bx}{hk:TE}{pos:Pos}
noncomputable def Vx:f5:=λD σ H=>D.bI σ H
noncomputable def C4(t u:f5):f5:=λD σ H=>t {D with bI:=u D} σ H
def Uq:fY X [] Vx:=λ_ _ σ H _ I h=>wpAny_execs_nil ⟨σ,H,I,h⟩
def vy(ah:h2 X st t)(ar:fY X rest u):fY X (st::rest) (C4 t u):=by
 intro ao s σ H D I h;refine wpAny_execs_cons (cK (ah ao s σ H {D with bI:=u D} I h) λf s1 q=>?_);cases f with
|next=>
  obtain⟨ck,ag,oS,q⟩:=q;exact ar ao s1 ck ag D oS q
|ret v=>exact q
|brk=>exact q
|cont=>exact q
def vB(ah:h2 X st t):fY X [st] t:=by
 intro ao s σ H D I h;refine wpAny_execs_cons (cK (ah ao s σ H D I h) λf s1 q=>?_);cases f with
|next=>exact wpAny_execs_nil q
|ret v=>exact q
|brk=>exact q
|cont=>exact q
def Inv.quiet{ao:List (ak×Obj)}{σ:St}{H:aB}{s:aH}(I:Inv X ao σ H s):interactive X.env=false:=by simp[interactive,I.ok.kind]
noncomputable def anm(hk:TE):f5:=λD σ H=>hk σ H λ_ H1=>D.bI σ H1
def Aj(he:b0 X e hk)(aA:kP e none pos.line X.env=pure false:=by rfl):h2 X (.Expr e pos) (anm hk):=by
 intro ao s σ H D I h;exact wpAny_Expr_any (cK (he ao s σ H _ I h) λv s1 ⟨x,H1,bj,bk,aQ⟩=>⟨σ,H1,bj,aQ⟩) I.quiet aA
noncomputable def Rk(hk:TE):f5:=λD σ H=>hk σ H D.dn
def vK(he:b0 X e hk):h2 X (.Return (some e) pos) (Rk hk):=by
 intro ao s σ H D I h;exact wpAny_Return_some (cK (he ao s σ H _ I h) λv s1 ⟨x,H1,bj,bk,aQ⟩=>⟨x,σ,H1,bj,bk,aQ⟩)
noncomputable def ani:f5:=λD _ H=>D.dn .dT H
def alv:h2 X (.Return none pos) ani:=λ_ _ σ H _ I h=>wpAny_Return_none ⟨.dT,σ,H,I,rfl,h⟩
noncomputable def Ri(c:TT)(t u:f5):f5:=λD σ H=>c σ H λb H1=>if b=true then t D σ H1 else u D σ H1
def NZ{c:bx}{a b:List Stmt}{tc:TT}(aw:jA X c tc)(aC:fY X a t)(af:fY X b u):h2 X (.If c a b pos) (Ri tc t u):=by
 intro ao s σ H D I h;refine wpAny_If (cK (aw ao s σ H _ I h) λd s1 hqq=>?_);obtain⟨H1,bj,aQ⟩:=hqq;cases d with
|true=>exact aC ao s1 σ H1 D bj aQ
|false=>exact af ao s1 σ H1 D bj aQ
end
abbrev oW:=V->St->aB->(St->aB->Prop)->Prop
abbrev q5:=List V->St->aB->(St->aB->Prop)->Prop
noncomputable def sk(X:a3)(target:bx)(t:oW):Prop:=
 ∀(ao:List (ak×Obj)) (s:aH) (σ:St) (H:aB) (v:V) (u:aq) (Q:St->aB->Prop),Inv X ao σ H s->RelV v u->t v σ H Q ->
  a_ (unop%Wk 0) X.A (assign target X.env u) (λ_ s'=>∃ck ag,Inv X ao ck ag s'/\Q ck ag) X.dm s
noncomputable def ao'(X:a3)(ts:List bx)(t:q5):Prop:=
 ∀(ao:List (ak×Obj)) (s:aH) (σ:St) (H:aB) (vs:List V) (us:List aq) (Q:St->aB->Prop),Inv X ao σ H s->Vals vs us->t vs σ H Q ->
  a_ (unop%Wk 0) X.A (assignInOrder ((pN ts X.env).map (·.2)) us) (λ_ s'=>∃ck ag,Inv X ao ck ag s'/\Q ck ag) X.dm s
section
variable {X:a3}{pos:Pos}
noncomputable def tP(i:Nat):oW:=λv σ H Q=>Q (σ.set i (some v)) H
def alD{i:Nat}{x:Str}(dz:X.N.Nodup)(aP:X.N[i]?=some x)(hx:Loc X.env.scope x)(hf:X.fn x=true\/X.env.scope.names.lookup x=some .local:=by first|exact .inl rfl|exact .inr rfl|assumption):sk X (.Name x pos) (tP i):=by
 intro ao s σ H v u Q I r h;exact wpAny_assign_Name (MT I dz aP hx r (λs' oS=>⟨_,H,oS,h⟩) hf)
noncomputable def _d:q5:=λvs σ H Q=>vs=[]/\Q σ H
noncomputable def anP(t:oW)(u:q5):q5:=λvs σ H Q=>∃v r,vs=v::r/\t v σ H λck ag=>u r ck ag Q
def alC:ao' X [] _d:=by
 intro ao s σ H vs us Q I r h;obtain⟨e,h⟩:=h;subst e;cases r;exact assignInOrder_nil ⟨σ,H,I,h⟩
def akG{e:bx}{es:List bx}{t:oW}{u:q5}(ah:sk X e t)(ar:ao' X es u)
  (aA:(pN (e::es) X.env).map (·.2)=assign e X.env::(pN es X.env).map (·.2):=by rfl):ao' X (e::es) (anP t u):=by
 intro ao s σ H vs us Q I r h;obtain⟨v,LD,az,h⟩:=h;subst az;cases r with
|cons r rD=>
  rw[aA];refine assignInOrder_cons (cK (ah ao s σ H _ _ _ I r h) λ_ s1 hqq=>?_);obtain⟨N7,H1,bj,aQ⟩:=hqq;exact ar ao s1 N7 H1 _ _ Q bj rD aQ
noncomputable def _e(K:bc)(n:Nat)(t:q5):oW:=λv σ H Q=>∃a xs,v=.ref a/\dc K H a xs/\xs.length=n/\t xs σ H Q
def amJ{es:List bx}{k:Nat}{t:q5}{n:Nat}(aw:X.calm=true)(h:ao' X es t)
  (bg:(pN es X.env).length=n:=by rfl) (hy:(pN es X.env).findIdx? (·.1)=none:=by rfl):sk X (.Tuple es k pos) (_e X.K n t):=by
 intro ao s σ H v u Q I r hw;obtain⟨a,xs,az,a5,aG,hw⟩:=hw;subst az;cases r;obtain⟨its,bW,bp,hz⟩:=I.tuple a5;refine assign_Tuple_tuple (I.ok.hd aw) bp (by simp[bg,<- aG,bW.length]) hy λh' hx=>?_;have bj:Inv X ao σ H {s with heap:=h'}:=I.kept (t':=s.toks) λb o e=>hx b o (e3 (c_ e)) e;exact h ao _ σ H xs _ Q bj (by simpa using bW) hw
noncomputable def s9(hk:TE)(g:oW):f5:=λD σ H=>hk σ H λx H1=>g x σ H1 D.bI
def amI{c9 e:bx}{hk:TE}{g:oW}(he:b0 X e hk)(bq:sk X c9 g)(aA:swapsWithSole [c9] e pos.line X.env=pure false:=by rfl)(hw:swappedStores [c9] e X.env=pure none:=by rfl)
  (ah:(pN [c9] X.env).map (·.2)=[assign c9 X.env]:=by rfl):h2 X (.Assign [c9] e pos) (s9 hk g):=by
 intro ao s σ H D I h;refine wpAny_Assign_stores (cK (he ao s σ H _ I h) λv s1 hqq=>?_) aA hw;obtain⟨x,H1,bj,bk,aQ⟩:=hqq;rw[ah];exact cK (bq ao s1 σ H1 x v _ bj bk aQ) λ_ s2 q=>q
def tD{i:Nat}{x:Str}{e:bx}{hk:TE}{pos':Pos}(dz:X.N.Nodup)(aP:X.N[i]?=some x)(hx:Loc X.env.scope x)(he:b0 X e hk)(aA:kP e (some (.Name x pos')) pos.line X.env=pure false:=by rfl)(hf:X.fn x=true\/X.env.scope.names.lookup x=some .local:=by first|exact .inl rfl|exact .inr rfl|assumption):
  h2 X (.Assign [.Name x pos'] e pos) (s9 hk (tP i)):=by
 intro ao s σ H D I h;refine wpAny_Assign_Name (cK (he ao s σ H _ I h) λv s1 hqq=>?_) aA;obtain⟨y,H1,bj,bk,aQ⟩:=hqq;exact MT bj dz aP hx bk (λs2 ct=>⟨_,H1,ct,aQ⟩) hf
end
structure mZ where
 go:Nat->aB->Prop
 pP:Nat->aB->V->aB->Prop
 stop:Nat->aB->Prop
noncomputable def il(X:a3)(ao:List (ak×Obj))(H:aB)(b:ak):Prop:=
 H b=none/\b≠X.env.locals/\b∉X.aE/\(b∈X.ex\/X.dq.heap.objs.size<=b)/\(∀x c,X.env.cells.lookup x=some c->c≠b)/\∀p∈X.dx++ao,p.1≠b
def Inv.wi{X:a3}{ao:List (ak×Obj)}{σ:St}{H ag:aB}{s:aH}{b:ak}(I:Inv X ao σ H s)(af:s.heap.objs.size<=b)(bg:ag b=none):il X ao ag b:=by
 refine⟨bg,iG (i' I.lt af),I.ab8 af,.inr (lz I.mA af),λx c e z=>?_,λp aL z=>?_⟩
 ·obtain⟨v,q⟩:=I.cell x c e;exact absurd (i' q.lt (by rw[z];exact af)) (Nat.lt_irrefl _)
 ·exact absurd (i' (c_ (I.pin p aL).1) (by rw[z];exact af)) (Nat.lt_irrefl _)
structure Turn(P:cA)(w:b_)(K:bc)(c9:bx)(J:mZ)(cC:List ak)(it:ak)(jU:Nat->bM->Prop):Prop where
 mem:it∈cC
 obj:∀i h,jU i h->∀b∈cC,∃o,h.get? b=some o/\∀v,o.data≠.cell v
 keep:∀i h h',jU i h->(∀b∈cC,∀o,h.get? b=some o->h'.get? b=some o)->jU i h'
 item:∀(X:a3),X.prog=P->X.w=w->X.K=K->X.calm=true->∀(i:Nat) (ao:List (ak×Obj)) (s:aH) (σ:St) (H:aB) (E:aq->aH->Prop),Inv X ao σ H s->(∀b∈cC,il X ao H b)->jU i s.heap->J.go i H ->
  a_ (bG P w) X.A (pyNext (.ref it)) (λr s1=>∃u,r=some u /\
   a_ (bG P w) X.A (letOwnedTupleGo c9 (.ref it) u) (λ_ s2=>∃x ag,Inv X ao σ ag s2/\RelV x u/\J.pP i H x ag/\jU (i+1) s2.heap/\∀b∈cC,ag b=none) E s1) E s
 done:∀(X:a3),X.prog=P->X.w=w->X.K=K->X.calm=true->∀(i:Nat) (ao:List (ak×Obj)) (s:aH) (σ:St) (H:aB) (E:aq->aH->Prop),Inv X ao σ H s->(∀b∈cC,il X ao H b)->jU i s.heap->J.stop i H ->
  a_ (bG P w) X.A (pyNext (.ref it)) (λr s1=>r=none/\Inv X ao σ H s1) E s
 self:∀(A:cw) (i:Nat) (s:aH) (Q:aq->aH->Prop) (E:aq->aH->Prop),jU i s.heap->Q (.ref it) s->a_ (bG P w) A (pyIter (.ref it)) Q E s
abbrev TI:=St->aB->(mZ->aB->Prop)->Prop
noncomputable def Ov(X:a3)(ao:List (ak×Obj))(σ:St)(c9:bx)(R:mZ->aB->Prop)(I5:aq)(s2:aH):Prop:=
 ∃(it:ak) (cC:List ak) (jU:Nat->bM->Prop) (J:mZ) (ag:aB),I5=.ref it/\Inv X ao σ ag s2/\Turn X.prog X.w X.K c9 J cC it jU/\jU 0 s2.heap/\(∀b∈cC,il X ao ag b)/\R J ag
noncomputable def sl(X:a3)(c9 iter:bx)(rI:TI):Prop:=
 ∀(ao:List (ak×Obj)) (s:aH) (σ:St) (H:aB) (R:mZ->aB->Prop),Inv X ao σ H s->rI σ H R ->
  a_ (unop%Wk 0) X.A (eval iter X.env) (λv s1=>a_ (unop%Wk 0) X.A (pyIter v) (Ov X ao σ c9 R) X.dm s1) X.dm s
def N2{M:Model}{A:cw}{E:aq->aH->Prop}{s:aH}{c9:bx}{it:ak}{u:aq}{o:Obj}{n:String}{vs:Array aq}{Q:Unit->aH->Prop}(aJ:s.heap.get? it=some o)(aw:o.cls=.type n)(hd:o.data=.fields vs)
    (bg:["enumerate","zip","dict_itemiterator","dict_reverseitemiterator","odict_iterator","itertools.zip_longest","itertools.pairwise"].contains n=false) (hv:Q () s):a_ M A (letOwnedTupleGo c9 (.ref it) u) Q E s:=by
  unfold letOwnedTupleGo;cases c9 <;> first
    |exact b2 hv
    | (cases u <;> first
        |exact b2 hv
        | (refine aN (wpAny_load aJ ?_)
           rw[aw,hd];show a_ M A (if (["enumerate","zip","dict_itemiterator","dict_reverseitemiterator","odict_iterator","itertools.zip_longest","itertools.pairwise"].contains n && vs[0]?==some (g7 _))=true then _ else _) Q E s;rw[if_neg (by intro h;rw[bg,Bool.false_and] at h;cases h)];exact b2 hv))
noncomputable def Fj(K:bc)(a:ak):mZ:=
 ⟨λi H=>∃xs x,fG K H a xs/\xs[i]?=some x,λi H x ag=>ag=H/\∀xs,fG K H a xs->xs[i]?=some x,λi H=>∃xs,fG K H a xs/\xs.length<=i⟩
noncomputable def Fl(K:bc)(a:ak):mZ:=
 ⟨λi H=>∃xs x,dc K H a xs/\xs[i]?=some x,λi H x ag=>ag=H/\∀xs,dc K H a xs->xs[i]?=some x,λi H=>∃xs,dc K H a xs/\xs.length<=i⟩
noncomputable def AR(lo:Int)(n:Nat):mZ:=⟨λi _=>i<n,λi H x ag=>ag=H/\x=.int (lo+i),λi _=>n<=i⟩
def ajq{P:cA}{w:b_}{K:bc}{c9:bx}(a it:ak):Turn P w K c9 (Fj K a) [it] it (λi h=>h.IsListIter it a i) where
 mem:=by simp
 obj:=λi h st b af=>by
  have e:b=it:=by simpa using af
  subst e;obtain⟨o,e,c,d⟩:=st;exact⟨o,e,λv z=>by rw[d] at z;cases z⟩
 keep:=λi h h' st k=>st.at λo e=>k it (by simp) o e
 item:=by
  intro X gW hw iX aw i ao s σ H E I hf st bq;subst gW hw iX;obtain⟨xs,x,a5,hx⟩:=bq;obtain⟨its,bW,p,hz⟩:=I.list a5;obtain⟨u,b8,c1⟩:=bW.get hx;obtain⟨f0,f1,f2,iV,f4,ir⟩:=hf it (by simp);refine wpAny_pyNext_list_item st p.isList (x:=u) (by simpa using b8) λh' pE jR=>?_;have bj:Inv X ao σ H {s with heap:=h'}:=I.turned (t':=s.toks) (λb o af e=>(jR.2 b af).trans e) f0 f1 iV f4 ir;obtain⟨o,e,c,d⟩:=id pE;exact⟨u,rfl,N2 (s:={s with heap:=h'}) e c d (by decide) ⟨x,H,bj,c1,⟨rfl,λys a6=>by rw[I.abZ a6 a5];exact hx⟩,pE,λb af=>(hf b af).1⟩⟩
 done:=by
  intro X gW hw iX aw i ao s σ H E I hf st bq;subst gW hw iX;obtain⟨xs,a5,hx⟩:=bq;obtain⟨its,bW,p,hz⟩:=I.list a5;obtain⟨f0,f1,f2,iV,f4,ir⟩:=hf it (by simp);have aG:=bW.length;exact wpAny_pyNext_list_end (I.ok.hd aw) st p.isList (by simp;omega) λh' dW=>⟨rfl,I.turned (t':=s.toks) (λb o af e=>dW b o af e) f0 f1 iV f4 ir⟩
 self:=λ_ _ _ _ _ st h=>wpAny_pyIter_listiter st h
def aiF{P:cA}{w:b_}{K:bc}{c9:bx}(a it:ak):Turn P w K c9 (Fl K a) [it] it (λi h=>h.IsTupleIter it a i) where
 mem:=by simp
 obj:=λi h st b af=>by
  have e:b=it:=by simpa using af
  subst e;obtain⟨o,e,c,d⟩:=st;exact⟨o,e,λv z=>by rw[d] at z;cases z⟩
 keep:=λi h h' st k=>st.at λo e=>k it (by simp) o e
 item:=by
  intro X gW hw iX aw i ao s σ H E I hf st bq;subst gW hw iX;obtain⟨xs,x,a5,hx⟩:=bq;obtain⟨its,bW,p,hz⟩:=I.tuple a5;obtain⟨u,b8,c1⟩:=bW.get hx;obtain⟨f0,f1,f2,iV,f4,ir⟩:=hf it (by simp);refine wpAny_pyNext_tuple_item st (show s.heap.IsTuple a its.toArray from p) (x:=u) (by simpa using b8) λh' pE jR=>?_;have bj:Inv X ao σ H {s with heap:=h'}:=I.turned (t':=s.toks) (λb o af e=>(jR.2 b af).trans e) f0 f1 iV f4 ir;obtain⟨o,e,c,d⟩:=id pE;exact⟨u,rfl,N2 (s:={s with heap:=h'}) e c d (by decide) ⟨x,H,bj,c1,⟨rfl,λys a6=>by rw[I.LA a6 a5];exact hx⟩,pE,λb af=>(hf b af).1⟩⟩
 done:=by
  intro X gW hw iX aw i ao s σ H E I hf st bq;subst gW hw iX;obtain⟨xs,a5,hx⟩:=bq;obtain⟨its,bW,p,hz⟩:=I.tuple a5;obtain⟨f0,f1,f2,iV,f4,ir⟩:=hf it (by simp);have aG:=bW.length;exact wpAny_pyNext_tuple_end (I.ok.hd aw) st (show s.heap.IsTuple a its.toArray from p) (by simp;omega) λh' dW=>⟨rfl,I.turned (t':=s.toks) (λb o af e=>dW b o af e) f0 f1 iV f4 ir⟩
 self:=λ_ _ _ _ _ st h=>wpAny_pyIter_tupleiter st h
def aiG{P:cA}{w:b_}{K:bc}{c9:bx}(it:ak)(lo:Int)(n:Nat):Turn P w K c9 (AR lo n) [it] it (λi h=>IsRangeIter h it (lo+(i:Nat)*1) ((n:Int) - (i:Nat)) 1) where
 mem:=by simp
 obj:=λi h st b af=>by
  have e:b=it:=by simpa using af
  subst e;exact⟨_,st,λv z=>by
   have jc:Data.fields _=Data.cell v:=z;cases jc⟩
 keep:=λi h h' st k=>k it (by simp) _ st
 item:=by
  intro X gW hw iX aw i ao s σ H E I hf st bq;subst gW hw iX;obtain⟨f0,f1,f2,iV,f4,ir⟩:=hf it (by simp);have W:=Walks.range (prog:=X.prog) (w:=X.w) (I.ok.hd aw) it lo 1 n;refine W.item i s _ _ bq st λv h' tk bh pE b5=>?_;obtain⟨t,rfl⟩:=bh;have bj:Inv X ao σ H {s with heap:=h',toks:=tk}:=I.turned (λb o af e=>b5 b o (by simpa using af) e) f0 f1 iV f4 ir;refine⟨_,rfl,N2 (s:={s with heap:=h',toks:=tk}) (n:="range_iterator") pE rfl rfl (by decide) ⟨.int (lo+i),H,bj,⟨t,?_⟩,⟨rfl,rfl⟩,pE,λb af=>(hf b af).1⟩⟩;rw[Int.mul_one]
 done:=by
  intro X gW hw iX aw i ao s σ H E I hf st bq;subst gW hw iX;obtain⟨f0,f1,f2,iV,f4,ir⟩:=hf it (by simp);exact wpAny_pyNext_range_end (I.ok.hd aw) st (by have:n<=i:=bq;omega) λh' dW=>⟨rfl,I.turned (t':=s.toks) (λb o af e=>dW b o af e) f0 f1 iV f4 ir⟩
 self:=λ_ _ _ _ _ st h=>wpAny_pyIter_rangeiter st h
end bA
namespace bA
open PySem PySem.Spec PyProof.Rows
section
variable {X:a3}{c9:bx}
def akz{ao:List (ak×Obj)}{σ:St}{H:aB}{s:aH}{R:mZ->aB->Prop}{E:aq->aH->Prop}{lo aP:Int}{t u v:Tok}{tk:Nat}(I:Inv X ao σ H s)(ah:-(2 ^ 62)<=lo)(ar:lo<2 ^ 62)(br:-(2 ^ 62)<=aP)(cF:aP<2 ^ 62)
  (q:R (AR lo (aP - lo).toNat) H):a_ (unop%Wk 0) X.A (pyIter (unop%WK 0)) (Ov X ao σ c9 R) E {s with heap:=s.heap.push {cls:=.type "range",data:=.fields #[.int lo t,.int aP u,.int 1 v]},toks:=tk}:=by
 refine wpAny_pyIter_range (IsRange.new ..) (small_one ah ar br cF) ?_
 have bj:Inv X ao σ H {s with heap:=s.heap.push {cls:=.type "range",data:=.fields #[.int lo t,.int aP u,.int 1 v]},toks:=tk}:=I.kept λb o e=>cW _ e;refine⟨(s.heap.push {cls:=.type "range",data:=.fields #[.int lo t,.int aP u,.int 1 v]}).objs.size,[(s.heap.push {cls:=.type "range",data:=.fields #[.int lo t,.int aP u,.int 1 v]}).objs.size],_,_,H,rfl,
  bj.kept (t':=tk) λb o e=>cW _ e,aiG _ lo (aP - lo).toNat,?_,λb af=>?_,q⟩
 ·have az:lo+((0:Nat):Int)*1=lo:=by simp
  have aM:(((aP - lo).toNat:Nat):Int) - ((0:Nat):Int)=Builtin.Range.rangeSize lo aP 1:=by rw[rangeSize_one];split <;> omega
  show IsRangeIter _ _ (lo+((0:Nat):Int)*1) ((((aP - lo).toNat:Nat):Int) - ((0:Nat):Int)) 1
  rw[az,aM];exact fR _ rfl
 ·have e:b=(s.heap.push {cls:=.type "range",data:=.fields #[.int lo t,.int aP u,.int 1 v]}).objs.size:=by simpa using af
  subst e;exact bj.wi (dQ _) (bj.bL.fresh (dQ _))
noncomputable def anN(cJ:gk):TI:=λσ H R=>cJ σ H λvs H1=>∃j:Int,vs=[.int j]/\-(2 ^ 62)<=j/\j<2 ^ 62/\R (AR 0 j.toNat) H1
def ajG{a:bx}{cJ:gk}{p pos:Pos}(bq:ee X "range")(hm:X.mg "range"=none)(aC:gj X [a] cJ)(aA:bl [a] X.env=[(false,eval a X.env)]:=by rfl):sl X c9 (.Call (.Name "range" p) [a] [] pos) (anN cJ):=by
 intro ao s σ H R I h;refine Call_ (qO I bq hm boot_range (zD (cK (aC pos ao s σ H _ I h) λus s1 hqq=>?_) aA rfl));obtain⟨vs,H1,bj,bk,aQ⟩:=hqq;obtain⟨j,e,aQ,bu,q⟩:=aQ;subst e;cases bk with
|cons r rD=>
  cases rD
  obtain⟨t,rfl⟩:=r;exact call_range_1 (akz bj (by omega) (by omega) aQ bu (by simpa using q))
noncomputable def agb(rI:TI)(g:oW)(dg:f5):f5:=λD σ H=>rI σ H λJ H1=>∃W:Nat->Nat->St->aB->Prop,(∃m,W 0 m σ H1)/\∀i m σ H,W i m σ H ->
 (J.stop i H/\D.bI σ H)\/(J.go i H/\∃N:St->aB->Prop,(∀ck ag,N ck ag->∃qo,qo<m/\W (i+1) qo ck ag)/\∀x ag,J.pP i H x ag->g x σ ag λxR bB=>dg {D with bI:=N,cQ:=N,gR:=D.bI} xR bB)
noncomputable def Ap(cC:List ak)(h:bM):List (ak×Obj):=cC.filterMap λb=>(h.get? b).map λo=>(b,o)
def D4{cC:List ak}{h:bM}{b:ak}{o:Obj}(af:b∈cC)(e:h.get? b=some o):(b,o)∈Ap cC h:=List.mem_filterMap.mpr ⟨b,af,by rw[e];rfl⟩
def ajI{cC:List ak}{h:bM}{p:ak×Obj}(aL:p∈Ap cC h):p.1∈cC/\h.get? p.1=some p.2:=by
 obtain⟨b,af,e⟩:=List.mem_filterMap.mp aL;cases q:h.get? b with
|none=>rw[q] at e;cases e
|some o=>
  rw[q] at e;have bD:(b,o)=p:=gg e;subst bD;exact⟨af,q⟩
def Inv.pinned{ao:List (ak×Obj)}{σ:St}{H:aB}{s:aH}{cC:List ak}(I:Inv X ao σ H s)(hf:∀b∈cC,il X ao H b)(aJ:∀b∈cC,∃o,s.heap.get? b=some o/\∀v,o.data≠.cell v):Inv X (ao++Ap cC s.heap) σ H s:=
 I.wG λp aL=>(hS.mp aL).elim (λz=>I.pin p (kh _ z)) λz=>by
  obtain⟨af,e⟩:=ajI z;obtain⟨f0,f1,f2,_⟩:=hf p.1 af;obtain⟨o,bD,d⟩:=aJ p.1 af;rw[e] at bD;cases bD;exact⟨e,f0,f1,f2,d⟩
def Inv.C'{ao pl:List (ak×Obj)}{σ:St}{H:aB}{s:aH}(I:Inv X (ao++pl) σ H s):Inv X ao σ H s:=I.wG λp aL=>I.pin p (kh _ (List.mem_append_left _ aL))
def amH{iter:bx}{body:List Stmt}{rI:TI}{g:oW}{dg:f5}{pos:Pos}(aL:PassesOwn (unop%Wk 0) X.A X.env X.dm)(aw:X.calm=true)(aP:sl X c9 iter rI)(bq:sk X c9 g)(af:fY X body dg)
  (aA:∀x,wX iter X.env x=pure x:=by intro _;rfl):h2 X (.For c9 iter body [] pos) (agb rI g dg):=by
 intro ao s σ H D I h;refine wpAny_For (cK (aP ao s σ H _ I h) λv s1 ah=>cK ah λI5 s2 ar=>?_) aA;obtain⟨it,cC,jU,J,bB,e,ct,T,kH,f2,W,⟨m0,Dc⟩,turn⟩:=ar;subst e;have u1:∀{ag:aB},(∀b∈cC,ag b=none)->∀b∈cC,il X ao ag b:=λbg b af=>⟨bg b af,(f2 b af).2⟩;refine codeAny_forLoop_any (λn s'=>∃i ck ag,Inv X ao ck ag s'/\jU i s'.heap/\(∀b∈cC,ag b=none)/\W i n ck ag) ?_ m0 ⟨0,σ,bB,ct,kH,λb af=>(f2 b af).1,Dc⟩;rintro n s3 ⟨i,nU,e6,el,zr,ym,Dd⟩;rcases turn i n nU e6 Dd with ⟨stop,pA⟩|⟨go,N,dz,step⟩
 ·refine wpAny_passesOwn aL (cK (T.done X rfl rfl rfl aw i ao s3 nU e6 X.dm el (u1 ym) zr stop) λr s4 hqq=>?_);obtain⟨ay,mY⟩:=hqq
  subst ay;exact wpAny_execs_nil ⟨nU,e6,mY,pA⟩
 ·refine wpAny_passesOwn aL (cK (T.item X rfl rfl rfl aw i ao s3 nU e6 X.dm el (u1 ym) zr go) λr s4 hqq=>?_);obtain⟨u,ay,cF⟩:=hqq
  subst ay;refine wpAny_passesOwn aL (cK cF λ_ s5 hqq=>?_);obtain⟨x,lK,t2,ze,zF,u0,HJ⟩:=hqq;have Fe:=t2.pinned (u1 HJ) (T.obj _ _ u0);refine wpAny_passesOwn aL (cK (bq _ s5 nU lK x u _ Fe ze (step x lK zF)) λ_ cE hqq=>?_);obtain⟨qR,vS,xV,sZ⟩:=hqq;refine wpAny_passesOwn aL (cK (af _ cE qR vS _ xV sZ) λf eb s6=>?_);have again:∀{mb:St} {h1:aB},Inv X (ao++Ap cC s5.heap) mb h1 eb->N mb h1->∃m,m<n/\∃i ck ag,Inv X ao ck ag eb/\jU i eb.heap/\(∀b∈cC,ag b=none)/\W i m ck ag:=λ{mb h1} jh uQ=>by
   obtain⟨qo,hm,w7⟩:=dz mb h1 uQ;refine⟨qo,hm,i+1,mb,h1,jh.C',T.keep _ _ _ u0 λb af o e=>(jh.pin (b,o) (kh _ (kh _ (D4 af e)))).1,λb af=>?_,w7⟩;obtain⟨o,e,d⟩:=T.obj _ _ u0 b af;exact (jh.pin (b,o) (kh _ (kh _ (D4 af e)))).2.1
  cases f with
  |next=>obtain⟨mb,h1,jh,uQ⟩:=s6;exact again jh uQ
  |cont=>obtain⟨mb,h1,jh,uQ⟩:=s6;exact again jh uQ
  |brk=>obtain⟨mb,h1,jh,s6⟩:=s6;exact⟨mb,h1,jh.C',s6⟩
  |ret v=>obtain⟨wN,mb,h1,jh,rC,s6⟩:=s6;exact⟨wN,mb,h1,jh.C',rC,s6⟩
end
end bA
namespace bA
open PySem PySem.Spec PyProof.Rows
abbrev gC:=V->V->aB->c3->Prop
noncomputable def eQ(X:a3)(f:aq->aq->Sem aq)(r:gC):Prop:=
 ∀(ao:List (ak×Obj)) (s:aH) (σ:St) (H:aB) (x y:V) (v u:aq) (Q:c3),Inv X ao σ H s->RelV x v->RelV y u->r x y H Q ->
  a_ (unop%Wk 0) X.A (f v u) (g_ X ao σ Q) X.dm s
noncomputable def Ft(X:a3)(f:aq->Sem aq)(r:V->aB->c3->Prop):Prop:=
 ∀(ao:List (ak×Obj)) (s:aH) (σ:St) (H:aB) (x:V) (v:aq) (Q:c3),Inv X ao σ H s->RelV x v->r x H Q ->
  a_ (unop%Wk 0) X.A (f v) (g_ X ao σ Q) X.dm s
noncomputable def lI(X:a3)(f:aq)(r:List V->aB->c3->Prop):Prop:=
 ∀(ao:List (ak×Obj)) (s:aH) (σ:St) (H:aB) (xs:List V) (us:List aq) (Q:c3),Inv X ao σ H s->Vals xs us->r xs H Q ->
  a_ (unop%Wk 0) X.A (call f us) (g_ X ao σ Q) X.dm s
noncomputable def Xk(X:a3)(r:V->aB->(Bool->aB->Prop)->Prop):Prop:=
 ∀(ao:List (ak×Obj)) (s:aH) (σ:St) (H:aB) (x:V) (v:aq) (Q:Bool->aB->Prop),Inv X ao σ H s->RelV x v->r x H Q ->
  a_ (unop%Wk 0) X.A (truthy v) (AY X ao σ Q) X.dm s
noncomputable def apa(r:gC)(cJ dg:TE):TE:=λσ H Q=>cJ σ H λx H1=>dg σ H1 λy bB=>r x y bB Q
noncomputable def Rm(r:V->aB->c3->Prop)(cJ:TE):TE:=λσ H Q=>cJ σ H λx H1=>r x H1 Q
noncomputable def CK(C:Int->Int->Prop)(g:Int->Int->V):gC:=λx y H Q=>∃i j,x=.int i/\y=.int j/\C i j/\Q (g i j) H
noncomputable def ot(g:Int->Int->V):gC:=λx y H Q=>∃i j,x=.int i/\y=.int j/\Q (g i j) H
noncomputable def K'(g:Int->V):V->aB->c3->Prop:=λx H Q=>∃i,x=.int i/\Q (g i) H
section
variable {X:a3}{a b c:bx}{cJ dg tc:TE}{pos:Pos}
def Gh(aC:b0 X a cJ)(af:b0 X b dg){ao:List (ak×Obj)}{s:aH}{σ:St}{H:aB}{R:V->V->aB->Prop}(I:Inv X ao σ H s)
  (h:cJ σ H λx H1=>dg σ H1 λy bB=>R x y bB) {Q:aq->aH->Prop} {f:aq->aq->Sem aq}
  (hf:∀v u s2 x y bB,Inv X ao σ bB s2->RelV x v->RelV y u->R x y bB->a_ (unop%Wk 0) X.A (f v u) Q X.dm s2):
  a_ (unop%Wk 0) X.A (eval a X.env) (λv c6=>a_ (unop%Wk 0) X.A (eval b X.env) (λu kd=>a_ (unop%Wk 0) X.A (f v u) Q X.dm kd) X.dm c6) X.dm s:=by
 refine cK (aC ao s σ H _ I h) λv s1 hqq=>?_;obtain⟨x,H1,bj,bk,aQ⟩:=hqq
 refine cK (af ao s1 σ H1 _ bj aQ) λu s2 hqq=>?_;obtain⟨y,bB,ct,b4,bu⟩:=hqq
 exact hf v u s2 x y bB ct bk b4 bu
def xI{op:Operator}{r:gC}(aJ:eQ X (nI op) r)(aC:b0 X a cJ)(af:b0 X b dg):b0 X (.BinOp a op b pos) (apa r cJ dg):=by
 intro ao s σ H Q I h;exact wpAny_BinOp (Gh aC af I h λv u s2 x y bB ct aW bC q=>aJ ao s2 σ bB x y v u Q ct aW bC q)
def VE{op:UnaryOp}{r:V->aB->c3->Prop}(aJ:Ft X (unaryOp op) r)(aC:b0 X a cJ):b0 X (.UnaryOp op a pos) (Rm r cJ):=by
 intro ao s σ H Q I h;exact UnaryOp_ (cK (aC ao s σ H _ I h) λv s1 ⟨x,H1,bj,bk,aQ⟩=>aJ ao s1 σ H1 x v Q bj bk aQ)
def KV{f:aq->aq->Sem aq}{C:Int->Int->Prop}{g:Int->Int->Int}
  (rule:∀(i j:Int) (t u:Tok) (s:aH) (Q:aq->aH->Prop) (E:aq->aH->Prop),C i j->Q (.int (g i j) s.toks) {s with toks:=s.toks+1}->a_ (unop%Wk 0) X.A (f (.int i t) (.int j u)) Q E s):
  eQ X f (CK C λi j=>.int (g i j)):=by
 intro ao s σ H x y v u Q I aW bC h;obtain⟨i,j,rfl,rfl,aw,q⟩:=h;obtain⟨t,rfl⟩:=aW;obtain⟨t',rfl⟩:=bC;exact rule i j t t' s _ _ aw ⟨.int (g i j),H,I.tok _,⟨_,rfl⟩,q⟩
def QQ{f:aq->aq->Sem aq}{g:Int->Int->Int}
  (rule:∀(i j:Int) (t u:Tok) (s:aH) (Q:aq->aH->Prop) (E:aq->aH->Prop),Q (.int (g i j) s.toks) {s with toks:=s.toks+1}->a_ (unop%Wk 0) X.A (f (.int i t) (.int j u)) Q E s):
  eQ X f (ot λi j=>.int (g i j)):=by
 intro ao s σ H x y v u Q I aW bC h;obtain⟨i,j,rfl,rfl,q⟩:=h;obtain⟨t,rfl⟩:=aW;obtain⟨t',rfl⟩:=bC;exact rule i j t t' s _ _ ⟨.int (g i j),H,I.tok _,⟨_,rfl⟩,q⟩
def CG{f:aq->aq->Sem aq}{g:Int->Int->Bool}
  (rule:∀(i j:Int) (t u:Tok) (s:aH) (Q:aq->aH->Prop) (E:aq->aH->Prop),Q (.bool (g i j)) s->a_ (unop%Wk 0) X.A (f (.int i t) (.int j u)) Q E s):
  eQ X f (ot λi j=>.b3 (g i j)):=by
 intro ao s σ H x y v u Q I aW bC h;obtain⟨i,j,rfl,rfl,q⟩:=h;obtain⟨t,rfl⟩:=aW;obtain⟨t',rfl⟩:=bC;exact rule i j t t' s _ _ ⟨.b3 (g i j),H,I,rfl,q⟩
noncomputable def VN(i j:Int):Prop:=0<j/\j<1073741824
noncomputable def AM(i j:Int):Prop:=(-(2 ^ 64)<i/\i<2 ^ 64)\/(-(2 ^ 64)<j/\j<2 ^ 64)
def AM.ok{i j:Int}(h:AM i j):IntMulOk i j:=by
 rcases h with ⟨ah,ar⟩|⟨ah,ar⟩
 ·exact .of_left (intBits_le_64 ah ar)
 ·exact .of_right (intBits_le_64 ah ar)
def amT:eQ X (nI .Add) (ot λi j=>.int (i+j)):=QQ λ_ _ _ _ _ _ _ q=>add_int q
def amP:eQ X (nI .Sub) (ot λi j=>.int (i - j)):=QQ λ_ _ _ _ _ _ _ q=>sub_int q
def amQ:eQ X (nI .Mult) (CK AM λi j=>.int (i*j)):=KV λ_ _ _ _ _ _ _ aw q=>mul_int q aw.ok
def alM:eQ X (nI .FloorDiv) (CK VN λi j=>.int (i / j)):=KV λi j _ _ _ _ _ aw q=>by
 have ah:(0:Int)<j:=aw.1;have ar:j<1073741824:=aw.2;exact floordiv_int (by omega) (by rw[Int.fdiv_eq_ediv_of_nonneg i (by omega)];exact q) (.inl (PyProof.noPylong_small (by omega)))
def amR:eQ X (nI .Mod) (CK (λ_ j=>0<j) λi j=>.int (i % j)):=KV λi j _ _ _ _ _ aw q=>by
 have ah:(0:Int)<j:=aw;exact mod_int' (by omega) (by rw[Int.fmod_eq_emod_of_nonneg i (by omega)];exact q)
def agJ{f:aq->Sem aq}{g:Int->Int}
  (rule:∀(i:Int) (t:Tok) (s:aH) (Q:aq->aH->Prop) (E:aq->aH->Prop),Q (.int (g i) s.toks) {s with toks:=s.toks+1}->a_ (unop%Wk 0) X.A (f (.int i t)) Q E s):
  Ft X f (K' λi=>.int (g i)):=by
 intro ao s σ H x v Q I aW h;obtain⟨i,rfl,q⟩:=h;obtain⟨t,rfl⟩:=aW;exact rule i t s _ _ ⟨.int (g i),H,I.tok _,⟨_,rfl⟩,q⟩
def UW:Ft X (unaryOp .USub) (K' λi=>.int (-i)):=agJ λ_ _ _ _ _ q=>neg_int q
end
noncomputable def afc:V->V->Bool
|.dT,.dT=>true|.dT,.int _=>true|.int _,.dT=>true|.dT,.b3 _=>true|.b3 _,.dT=>true|.dT,.str _=>true|.str _,.dT=>true
|.int _,.int _=>true|.b3 _,.b3 _=>true|.str _,.str _=>true|.m5 _,.m5 _=>true
|.int _,.str _=>true|.str _,.int _=>true|.b3 _,.str _=>true|.str _,.b3 _=>true
|_,_=>false
noncomputable def QV:gC:=λx y H Q=>afc x y=true/\Q (.b3 (decide (x=y))) H
def amb{i j:Int}:decide (V.int i=V.int j)=(i==j):=by
 rw[Bool.eq_iff_iff];simp
def am9{i j:Bool}:decide (V.b3 i=V.b3 j)=(i==j):=by
 rw[Bool.eq_iff_iff];simp
def ama{i j:Str}:decide (V.str i=V.str j)=(i==j):=by
 rw[Bool.eq_iff_iff];simp
def amc{i j:Array UInt8}:decide (V.m5 i=V.m5 j)=(i.toList==j.toList):=by
 rw[Bool.eq_iff_iff];cases i;cases j;simp
section
variable {X:a3}{a b c:bx}{cJ dg tc:TE}{pos:Pos}
def jY{ao:List (ak×Obj)}{σ:St}{H:aB}{s:aH}{Q:c3}{k jJ:Bool}(I:Inv X ao σ H s)(q:Q (.b3 k) H)(e:k=jJ):g_ X ao σ Q (.bool jJ) s:=by
 subst e;exact⟨.b3 k,H,I,rfl,q⟩
def anH:eQ X (iH .Eq) QV:=by
 intro ao s σ H x y v u Q I aW bC h;obtain⟨aA,q⟩:=h;cases x with
|dT=>
  cases aW
  cases y with
  |dT=>cases bC;exact PySem.EqNone.eq_none_none (jY I q (by simp))
  |b3 j=>cases bC;exact PySem.EqNone.eq_none_bool (jY I q (by simp))
  |int j=>obtain⟨t',rfl⟩:=bC;exact PySem.EqNone.eq_none_int (jY I q (by simp))
  |str j=>obtain⟨t',rfl⟩:=bC;exact PySem.EqNone.eq_none_str (jY I q (by simp))
  |_=>exact absurd (show false=true from aA) mG
|b3 i=>
  cases aW
  cases y with
  |dT=>cases bC;exact PySem.EqNone.eq_bool_none (jY I q (by simp))
  |b3 j=>cases bC;exact eq_bool (jY I q am9)
  |str j=>obtain⟨t',rfl⟩:=bC;exact PySem.EqMixed.eq_bool_str (jY I q (by simp))
  |_=>exact absurd (show false=true from aA) mG
|int i=>
  obtain⟨t,rfl⟩:=aW;cases y with
  |dT=>cases bC;exact PySem.EqNone.eq_int_none (jY I q (by simp))
  |int j=>obtain⟨t',rfl⟩:=bC;exact eq_int (jY I q amb)
  |str j=>obtain⟨t',rfl⟩:=bC;exact PySem.EqMixed.eq_int_str (jY I q (by simp))
  |_=>exact absurd (show false=true from aA) mG
|str i=>
  obtain⟨t,rfl⟩:=aW;cases y with
  |dT=>cases bC;exact PySem.EqNone.eq_str_none (jY I q (by simp))
  |b3 j=>cases bC;exact PySem.EqMixed.eq_str_bool (jY I q (by simp))
  |int j=>obtain⟨t',rfl⟩:=bC;exact PySem.EqMixed.eq_str_int (jY I q (by simp))
  |str j=>obtain⟨t',rfl⟩:=bC;exact eq_str (jY I q ama)
  |_=>exact absurd (show false=true from aA) mG
|m5 i=>
  obtain⟨t,rfl⟩:=aW;cases y with
  |m5 j=>obtain⟨t',rfl⟩:=bC;exact PySem.W.eq_bytes (jY I q amc)
  |_=>exact absurd (show false=true from aA) mG
|_=>cases y <;> exact absurd (show false=true from aA) mG
def xK:eQ X (iH .Lt) (ot λi j=>.b3 (decide (i<j))):=CG λ_ _ _ _ _ _ _ q=>lt_int q
def N1:eQ X (iH .LtE) (ot λi j=>.b3 (decide (i<=j))):=CG λ_ _ _ _ _ _ _ q=>le_int q
def AE:eQ X (iH .Gt) (ot λi j=>.b3 (decide (j<i))):=CG λ_ _ _ _ _ _ _ q=>gt_int q
def VF:eQ X (iH .GtE) (ot λi j=>.b3 (decide (j<=i))):=CG λ_ _ _ _ _ _ _ q=>ge_int q
def xa:eQ X (iH .Lt) (λx y H Q=>∃i j,x=.str i/\y=.str j/\Q (.b3 (decide (i.cps.toList<j.cps.toList))) H):=by
 intro ao s σ H x y v u Q I aW bC h;obtain⟨i,j,rfl,rfl,q⟩:=h;obtain⟨t,rfl⟩:=aW;obtain⟨t',rfl⟩:=bC;exact lt_str (jY I q rfl)
def eQ.or{f:aq->aq->Sem aq}{r cy:gC}(h:eQ X f r)(h':eQ X f cy):eQ X f (λx y H Q=>r x y H Q\/cy x y H Q):=by
 intro ao s σ H x y v u Q I aW bC q;rcases q with q|q
 ·exact h ao s σ H x y v u Q I aW bC q
 ·exact h' ao s σ H x y v u Q I aW bC q
def EP(b:bx){op:CmpOp}(h:op≠.In:=by decide)(ar:op≠.NotIn:=by decide):qC op b=false:=by
 have az:(op==CmpOp.In)=false:=by cases op <;> first|rfl|exact absurd rfl h
 have aM:(op==CmpOp.NotIn)=false:=by cases op <;> first|rfl|exact absurd rfl ar
 cases b <;> simp[qC,az,aM]
def Us{op:CmpOp}{r:gC}(aJ:eQ X (iH op) r)(aC:b0 X a cJ)(af:b0 X b dg)(hm:qC op b=false):b0 X (.Compare a [op] [b] pos) (apa r cJ dg):=by
 intro ao s σ H Q I h;exact wpAny_Compare1 (Gh aC af I h λv u s2 x y bB ct aW bC q=>aJ ao s2 σ bB x y v u Q ct aW bC q) hm
noncomputable def Vw(t:TE):TT:=λσ H Q=>t σ H λx ag=>∃k,x=.b3 k/\Q k ag
def Up{op:CmpOp}{r:gC}(aJ:eQ X (iH op) r)(aC:b0 X a cJ)(af:b0 X b dg)(hm:qC op b=false):jA X (.Compare a [op] [b] pos) (Vw (apa r cJ dg)):=by
 intro ao s σ H Q I h;refine wpAny_isTrue_Compare1 (cK (aC ao s σ H _ I h) λv s1 ⟨x,H1,bj,bk,aQ⟩=>cK (af ao s1 σ H1 _ bj aQ) λu s2 ⟨y,bB,ct,b4,bu⟩=>
  cK (aJ ao s2 σ bB x y v u _ ct bk b4 bu) λc s3 ⟨z,e6,el,jN,k,e,df⟩=>?_) hm
 subst e;cases jN;exact vd ⟨e6,el,df⟩
noncomputable def Oy(K:bc)(x:V)(H:aB)(k:Bool):Prop:=
 match x with
|.dT=>k=false
|.b3 b=>k=b
|.int i=>k=(i != 0)
|.str y=>y.length<=cj/\k=((y.length:Int) != 0)
|.m5 y=>y.size<=cj/\k=((y.size:Int) != 0)
|.ref p=>(∃xs,fG K H p xs/\k=!xs.isEmpty)\/(∃xs,dc K H p xs/\k=!xs.isEmpty)\/∃kvs,H p=some (.fy kvs)/\k=!kvs.isEmpty
|_=>False
def ai6{eZ:Type}{kvs:List (eZ×V)}{vs:List (eZ×aq)}(r:hL kvs vs):(!vs.isEmpty)=!kvs.isEmpty:=by
 cases r <;> rfl
def SA{xs:List V}{its:List aq}(r:Vals xs its):(!its.toArray.isEmpty)=!xs.isEmpty:=by
 cases r <;> simp
def xC:(cj:Nat)<2 ^ 63:=by rw[jW];decide
def ami:Xk X (λx H Q=>∃k,Oy X.K x H k/\Q k H):=by
 intro ao s σ H x v Q I aW h;obtain⟨k,e,q⟩:=h;have aG:=xC;have aA:cj=16777216:=jW;cases x with
|dT=>
  cases aW
  have bD:k=false:=e;subst bD;exact truthy_none ⟨H,I,q⟩
|b3 b=>
  cases aW
  have bD:k=b:=e;subst bD;exact vd ⟨H,I,q⟩
|int i=>
  obtain⟨t,rfl⟩:=aW;have bD:k=(i != 0):=e;subst bD;exact PySem.P.truthy_int ⟨H,I,q⟩
|str y=>
  obtain⟨t,rfl⟩:=aW;obtain⟨a6,bD⟩:y.length<=cj/\k=((y.length:Int) != 0):=e;subst bD;exact PySem.P.truthy_str (by omega) ⟨H,I.tok _,q⟩
|m5 y=>
  obtain⟨t,rfl⟩:=aW;obtain⟨a6,bD⟩:y.size<=cj/\k=((y.size:Int) != 0):=e;subst bD;exact PySem.W.truthy_bytes (by omega) ⟨H,I.tok _,q⟩
|ref p=>
  cases aW
  have bD:(∃xs,fG X.K H p xs/\k=!xs.isEmpty)\/(∃xs,dc X.K H p xs/\k=!xs.isEmpty)\/∃kvs,H p=some (.fy kvs)/\k=!kvs.isEmpty:=e;rcases bD with ⟨xs,hx,bD⟩|⟨xs,hx,bD⟩|⟨kvs,hx,bD⟩
  ·subst bD;obtain⟨its,r,pl,hz⟩:=I.list hx;have hlen:=r.length;exact wpAny_truthy_list pl.isList (by simp only[eG];omega) ⟨H,I.tok _,by rw[SA r];exact q⟩
  ·subst bD;obtain⟨its,r,pl,hz⟩:=I.tuple hx;have hlen:=r.length;exact truthy_tuple pl (by simp only[eG];omega) ⟨H,I.tok _,by rw[SA r];exact q⟩
  ·subst bD;obtain⟨hz,eD,vs,r,m⟩:kvs.length<=cj/\(p==sysModules)=false/\∃vs,hL kvs vs/\s.heap.DictOf (hU X.prog X.w) p vs:=I.bL p _ hx;have hlen:kvs.length=vs.length:=Paired.length r;exact wpAny_truthy_dict eD m (by omega) ⟨H,I.tok _,by rw[ai6 r];exact q⟩
|_=>exact (show False from e).elim
def akC(aC:b0 X a cJ)(he:∀whole,isTrue a X.env whole=(do let v <- whole;standAt a.pos;holding [v] (truthy v))):
  jA X a (λσ H Q=>cJ σ H λx ag=>∃k,Oy X.K x ag k/\Q k ag):=by
 intro ao s σ H Q I h;exact isTrue_plain (cK (aC ao s σ H _ I h) λv s1 ⟨x,H1,bj,bk,aQ⟩=>ami ao s1 σ H1 x v Q bj bk aQ) (he _)
def aiP:eQ X (nI .Add) (λx y H Q=>∃i j,x=.str i/\y=.str j/\i.length+j.length<=cj/\Q (.str (i++j)) H):=by
 intro ao s σ H x y v u Q I aW bC h;obtain⟨i,j,rfl,rfl,hz,q⟩:=h;obtain⟨t,rfl⟩:=aW;obtain⟨t',rfl⟩:=bC;exact add_str (λt' tk=>⟨.str (i++j),H,I.tok _,⟨_,rfl⟩,q⟩) hz
def ao5{x:V}{us:List aq}(r:Vals [x] us):∃u,us=[u]/\RelV x u:=by
 cases r with
|cons bk b4=>cases b4;exact⟨_,rfl,bk⟩
def Vu{x y:V}{us:List aq}(r:Vals [x,y] us):∃u dh,us=[u,dh]/\RelV x u/\RelV y dh:=by
 cases r with
|cons bk b4=>
  cases b4 with
  |cons jN qq=>cases qq;exact⟨_,_,rfl,bk,jN⟩
def akf(aw:X.calm=true):lI X (.builtin "max") (λxs H Q=>∃i j,xs=[.int i,.int j]/\Q (.int (if j > i then j else i)) H):=by
 intro ao s σ H xs us Q I r h;obtain⟨i,j,rfl,q⟩:=h;obtain⟨u,dh,rfl,⟨t,rfl⟩,⟨t',rfl⟩⟩:=Vu r;refine max_two_ints (I.ok.hd aw) λh' tk k=>⟨_,H,I.kept k,?_,q⟩;by_cases bU:j > i
 ·rw[if_pos bU,if_pos bU];exact⟨_,rfl⟩
 ·rw[if_neg bU,if_neg bU];exact⟨_,rfl⟩
def akd(aw:X.calm=true):lI X (.builtin "min") (λxs H Q=>∃i j,xs=[.int i,.int j]/\Q (.int (if j<i then j else i)) H):=by
 intro ao s σ H xs us Q I r h;obtain⟨i,j,rfl,q⟩:=h;obtain⟨u,dh,rfl,⟨t,rfl⟩,⟨t',rfl⟩⟩:=Vu r;refine min_two_ints (I.ok.hd aw) λh' tk k=>⟨_,H,I.kept k,?_,q⟩;by_cases bU:j<i
 ·rw[if_pos bU,if_pos bU];exact⟨_,rfl⟩
 ·rw[if_neg bU,if_neg bU];exact⟨_,rfl⟩
def akg:lI X (.type "int") (λxs H Q=>(∃i,xs=[.int i]/\Q (.int i) H)\/∃k,xs=[.b3 k]/\Q (.int (if k then 1 else 0)) H):=by
 intro ao s σ H xs us Q I r h;rcases h with ⟨i,rfl,q⟩|⟨k,rfl,q⟩
 ·obtain⟨u,rfl,t,rfl⟩:=ao5 r;exact call_int_int ⟨.int i,H,I,⟨_,rfl⟩,q⟩
 ·obtain⟨u,rfl,bk⟩:=ao5 r;cases bk;exact call_int_bool ⟨.int (if k then 1 else 0),H,I.tok _,⟨_,rfl⟩,q⟩
end
end bA
namespace bA
open PySem PySem.Spec PyProof.Rows
structure t5(h:bM)(x bF C:ak)(eN:Str->Option aq):Prop where
 obj:h.get? x=some (ta C bF)
 ns:h.Ns1 bF eN
 ne:bF≠x
def ajQ{h:bM}{bF:ak}{eN:Str->Option aq}(n:h.Ns1 bF eN):∃eh,h.get? bF=some eh/\∀name,PySem.W.lookIn name eh=some (eN name):=by
 obtain⟨o,es,ep,aJ,hd,aI,_,hm⟩:=n;refine⟨o,aJ,λname=>?_⟩;have e:=hm name;unfold nsFind findBy at e;rw[<- Array.find?_toList] at e;unfold PySem.W.lookIn;rw[hd];dsimp only;split
 ·rename_i y q
  rw[q] at e;exact congrArg some e
 ·rename_i q
  rw[q] at e;have a:es.toList.any (·.refKey)=false:=by
   rw[List.any_eq_false];intro y a6;obtain⟨z,t,aaf⟩:=aI y (Array.mem_toList_iff.mp a6);simp[DictEntry.refKey,aaf]
  have mf:¬es.toList.any (·.refKey)=true:=by rw[a];exact mG
  rw[if_neg mf];exact congrArg some e
def t5.look{h:bM}{x bF C:ak}{eN:Str->Option aq}(I:t5 h x bF C eN):∃eh,PySem.W.InstAt h x (ta C bF) C (some eh)/\∀name,PySem.W.lookIn name eh=some (eN name):=
 let ⟨eh,aJ,aG⟩:=ajQ I.ns
 ⟨eh,⟨I.obj,rfl,rfl,aJ⟩,aG⟩
section
variable {prog:cA}{w:b_}{A:cw}{E:aq->aH->Prop}{s:aH}{K:bc}{x bF C f:ak}{eN:Str->Option aq}{name:Str}{v:aq}
def al5{expr:Bool}{Q:aq->aH->Prop}(X:K.In s.heap)(I:t5 s.heap x bF C eN)(bq:PySem.W.plainGet K C name=true)(cR:PySem.W.hasDictIn K C=true)
  (aC:l7 K (.ref C) name=some none) (bh:eN name=some v) (uK:PySem.W.handedIn v=true) (h:Q v {s with toks:=s.toks+1}):
  a_ (bG prog w) A (getAttr (.ref x) name expr) Q E s:=by
 obtain⟨eh,J,aG⟩:=I.look;exact PySem.W.get_value X J (PySem.W.plainGet_of bq).1 (PySem.W.findObj_own cR aC rfl (by rw[aG,bh])) uK h
def ak5{pl:Sem Bool}{Q:aq×List aq->aH->Prop}(X:K.In s.heap)(I:t5 s.heap x bF C eN)(bq:PySem.W.plainGet K C name=true)
  (hf:l7 K (.ref C) name=some (some (.ref f))) (bp:PySem.W.isFn K (.ref f)=true) (bh:eN name=none) (h:Q (.ref f,[.ref x]) s):
  a_ (bG prog w) A (getMethod (.ref x) name pl) Q E s:=by
 obtain⟨eh,J,aG⟩:=I.look;exact PySem.W.method_fn X J (PySem.W.plainGet_of bq).1 (PySem.W.plainGet_of bq).2 hf (beq_iff_eq.mp bp) (by show (PySem.W.lookIn name eh).map (·.isSome)=some false;rw[aG,bh];rfl) h
def alm{ns:List Str}{Q:Unit->aH->Prop}(X:K.In s.heap)(I:t5 s.heap x bF C eN)
  (aA:l7 K (.ref C) "__setattr__"=some (some (.builtin "object.__setattr__"))) (aL:PySem.W.plainOver K C=true) (bp:PySem.W.takerIn K C name=some none) (cR:PySem.W.hasDictIn K C=true)
  (hw:PySem.Within eN ns) (hsz:ns.length<=cj)
  (h:∀h',t5 h' x bF C (λy=>if y=name then some v else eN y)->Heap.SameBut bF s.heap h'->Q () {s with heap:=h',toks:=s.toks+2}):
  a_ (bG prog w) A (setAttr (.ref x) name v) Q E s:=by
 obtain⟨eh,J,aG⟩:=I.look;refine PySem.W.set_plain X J aA (PySem.W.osa_open (s:={s with toks:=s.toks+1}) (r:=none) X J aL bp λb=>?_);obtain⟨cd,aw,H0⟩:=PySem.W.any_some cR;have hx:s.heap.get? x=some ⟨.ref C,some bF,.plain,#[]⟩:=I.obj;refine aN (b2 (aN (aN (wpAny_loadPart hx (aN (PySem.W.Looks.here (s:={s with toks:=s.toks+1}) (PySem.W.looks_clsIn X aw) ?_))))));rw[H0];refine b2 (a:=some bF) (aN (b2 (aN ?_)));refine wpAny_nsSet1 (s:={s with toks:=s.toks+1}) I.ns λh' BO i0=>?_;obtain⟨oD,an4,an3,aaq,_R,rh⟩:=BO.count (PySem.Within.cons name v hw);refine aN (wpAny_lookBehind aaq (by rw[_R];exact pastItsLine_dict (lz rh (by rw[eX];omega))) ?_);exact b2 (h _ ⟨(i0.2 _ (Ne.symm I.ne)).trans I.obj,BO,I.ne⟩ i0)
def akW{R:Result->aH->Prop}{vs:List aq}{kw:List (Str×aq)}(X:K.In s.heap)(hm:PySem.W.makesIn K C=true)
  (aP:l7 K (.ref C) "__init__"=some (some (.ref f))) (hf:PySem.W.typeIn K (.ref f)=some (.type "function"))
  (h:hT (bG prog w) (A.under (.builtin "type.__call__" ⟨.ref C::vs,kw⟩)) (.call (.ref f) ⟨.ref (unop%Ws 0)::vs,kw⟩) (PySem.W.InitBack (unop%Ws 0) R)
   {s with heap:=(s.heap.push rL).push (ta C s.heap.objs.size)}):
  hT (bG prog w) A (.call (.ref C) ⟨vs,kw⟩) R s:=by
 obtain⟨cR,g,d,t,os⟩:=s;exact PySem.W.make_core (PySem.W.makes_of X hm) (PySem.W.looks_findIn X aP) (λself=>PySem.W.bind_fn X self hf) (.inl rfl) h
end
noncomputable def hB(f:Str)(v:V):List (Str×V)->List (Str×V)
  | []=>[(f,v)]
  | (g,x)::r=>if g=f then (g,v)::r else (g,x)::hB f v r
theorem Sb(f g:Str)(v:V):∀aE:List (Str×V),(hB f v aE).lookup g=if g=f then some v else aE.lookup g
  | []=>by
    show kN g [(f,v)]=_
    by_cases h:g=f
    · have af:(g==f)=true:=beq_iff_eq.mpr h
      simp only[kN,af,if_pos h]
    · have af:(g==f)=false:=beq_eq_false_iff_ne.mpr h
      simp only[kN,af,if_neg h]
  | (k,x)::r=>by
    have bT:=Sb f g v r;rw[show hB f v ((k,x)::r)=(if k=f then (k,v)::r else (k,x)::hB f v r) from rfl];by_cases aI:k=f
    · rw[if_pos aI]
      by_cases h:g=k
      · have af:(g==k)=true:=beq_iff_eq.mpr h
        simp only[kN,af,if_pos (h.trans aI)]
      · have af:(g==k)=false:=beq_eq_false_iff_ne.mpr h
        simp only[kN,af,if_neg (λe:g=f=>h (e.trans aI.symm))]
    · rw[if_neg aI]
      by_cases h:g=k
      · have af:(g==k)=true:=beq_iff_eq.mpr h
        simp only[kN,af,if_neg (λe:g=f=>aI (h.symm.trans e))]
      · have af:(g==k)=false:=beq_eq_false_iff_ne.mpr h
        simp only[kN,af];exact bT
theorem MH(f:Str)(v:V):∀aE:List (Str×V),f∈(hB f v aE).map (·.1)/\∀g,g∈aE.map (·.1)->g∈(hB f v aE).map (·.1)
  | []=>⟨by simp[hB],λg h=>by simp at h⟩
  | (k,x)::r=>by
    obtain⟨cx,cI⟩:=MH f v r;rw[show hB f v ((k,x)::r)=(if k=f then (k,v)::r else (k,x)::hB f v r) from rfl];by_cases aI:k=f
    · rw[if_pos aI]
      subst aI;exact⟨by simp,λg h=>by simpa using h⟩
    · rw[if_neg aI]
      refine⟨?_,λg h=>?_⟩
      · rw[de]
        exact dK _ cx
      · rw[de] at h ⊢
        rcases cM.mp h with e|e
        · exact cM.mpr (.inl e)
        · exact dK _ (cI g e)
theorem Sf(f:Str)(v:V):∀aE:List (Str×V),(hB f v aE).length<=aE.length+1
  | []=>by simp[hB]
  | (k,x)::r=>by
    have bT:=Sf f v r;rw[show hB f v ((k,x)::r)=(if k=f then (k,v)::r else (k,x)::hB f v r) from rfl];by_cases aI:k=f
    · rw[if_pos aI,eX,eX];omega
    · rw[if_neg aI,eX,eX];omega
def kT.some_of{v:V}{o:Option aq}(r:kT (some v) o):∃u,o=some u/\RelV v u:=by
 cases o with
|none=>exact (show False from r).elim
|some u=>exact⟨u,rfl,r⟩
def kT.none_of{o:Option aq}(r:kT none o):o=none:=by
 cases o with
|none=>rfl
|some u=>exact (show False from r).elim
def aj3{v:V}{u:aq}(r:RelV v u):PySem.W.handedIn u=true:=by
 cases v with
|dT=>cases (show u=Value.none from r);rfl
|b3 b=>cases (show u=Value.bool b from r);rfl
|int i=>obtain⟨t,e⟩:=(show ∃t,u=Value.int i t from r);cases e;rfl
|str x=>obtain⟨t,e⟩:=(show ∃t,u=Value.str x t from r);cases e;rfl
|m5 b=>obtain⟨t,e⟩:=(show ∃t,u=Value.bytes b t from r);cases e;rfl
|yl b=>obtain⟨t,e⟩:=(show ∃t,u=Value.float b t from r);cases e;rfl
|ref a=>cases (show u=Value.ref a from r);rfl
|ty n=>cases (show u=Value.type n from r);rfl
section
variable {P:cA}{w:b_}{H ag:aB}{h h':bM}{a C bF:ak}{aE iu:List (Str×V)}
def Nq(bL:eP P w H h)(e:H a=some (.ins C bF aE)):∃eN,t5 h a bF C eN/\(∀f,kT (aE.lookup f) (eN f))/\PySem.Within eN (aE.map (·.1))/\aE.length<=1000/\H bF=some (.own a):=by
 obtain⟨d,z,ne,dE,eN,n,r,q⟩:=(show hZ P w H h a (.ins C bF aE) from bL a _ e);exact⟨eN,⟨dE,n,ne⟩,r,q,z,d⟩
end
structure oP(K:bc)(C:ak):Prop where
 pg:PySem.W.plainGet K C Str.empty=true
 hd:PySem.W.hasDictIn K C=true
 po:PySem.W.plainOver K C=true
 sa:l7 K (.ref C) "__setattr__"=some (some (.builtin "object.__setattr__"))
def oP.get{K:bc}{C:ak}(c:oP K C)(f:Str):PySem.W.plainGet K C f=true:=c.pg
noncomputable def r7(K:bc)(C:ak)(f:Str):Prop:=l7 K (.ref C) f=some none
def r7.agp{K:bc}{C:ak}{f:Str}(n:r7 K C f):PySem.W.takerIn K C f=some none:=by
 unfold PySem.W.takerIn;rw[show l7 K (.ref C) f=some none from n];rfl
structure Meth(K:bc)(C:ak)(m:Str)(f:ak):Prop where
 at_:l7 K (.ref C) m=some (some (.ref f))
 fn:PySem.W.isFn K (.ref f)=true
 aF:nx K (.ref f)=true
section
variable {X:a3}{ao:List (ak×Obj)}{σ:St}{H:aB}{s:aH}{a C bF:ak}{aE:List (Str×V)}{f:Str}{v:V}{A:cw}{E:aq->aH->Prop}
def SH{b:Bool}{Q:aq->aH->Prop}(I:Inv X ao σ H s)(e:H a=some (.ins C bF aE))(c:oP X.K C)(n:r7 X.K C f)(l:aE.lookup f=some v)
  (h:∀u s',Inv X ao σ H s'->RelV v u->Q u s'):a_ (unop%Wk 0) A (getAttr (.ref a) f b) Q E s:=by
 obtain⟨eN,O,r,_,_,_⟩:=Nq I.bL e;obtain⟨u,b8,c1⟩:=kT.some_of (v:=v) (o:=eN f) (by rw[<- l];exact r f);exact al5 I.j9 O (c.get f) c.hd n b8 (aj3 c1) (h u _ (I.tok _) c1)
def SG{m:Str}{g:ak}{pl:Sem Bool}{Q:aq×List aq->aH->Prop}(I:Inv X ao σ H s)(e:H a=some (.ins C bF aE))(c:oP X.K C)(k:Meth X.K C m g)(l:aE.lookup m=none)
  (h:Q (.ref g,[.ref a]) s):a_ (unop%Wk 0) A (getMethod (.ref a) m pl) Q E s:=by
 obtain⟨eN,O,r,_,_,_⟩:=Nq I.bL e;have bg:eN m=none:=kT.none_of (by rw[<- l];exact r m);exact ak5 I.j9 O (c.get m) k.at_ k.fn bg h
def Sp{y:V}{u:aq}{Q:Unit->aH->Prop}(I:Inv X ao σ H s)(e:H a=some (.ins C bF aE))(c:oP X.K C)(n:r7 X.K C f)(aG:aE.length<1000)(bC:RelV y u)
  (h:∀s',Inv X ao σ (upd H a (.ins C bF (hB f y aE))) s'->Q () s'):a_ (unop%Wk 0) A (setAttr (.ref a) f u) Q E s:=by
 obtain⟨eN,O,r,rI,_,aJ⟩:=Nq I.bL e;have hz:(aE.map (·.1)).length<=cj:=by rw[fh,jW];omega
 refine alm I.j9 O c.sa c.po n.agp c.hd rI hz λh' oU jR=>h _ ?_
 have hd:∃o,h'.get? bF=some o:=let ⟨o,_,_,bD,_⟩:=oU.ns;⟨o,bD⟩;refine I.write (x:=a) (e:=bF) (by rw[e];exact True.intro) (.inr aJ) (λb q af z=>(jR.2 b af).trans z) hd ?_;refine⟨by rw[cS O.ne];exact aJ,?_,O.ne,oU.obj,_,oU.ns,λg=>?_,λg bq=>?_⟩
 ·have:=Sf f y aE;omega
 ·show kT ((hB f y aE).lookup g) (if g=f then some u else eN g)
  rw[Sb];by_cases q:g=f
  ·rw[if_pos q,if_pos q];exact bC
  ·rw[if_neg q,if_neg q];exact r g
 ·by_cases q:g=f
  ·rw[q];exact (MH f y aE).1
  ·refine (MH f y aE).2 g (rI g λz=>bq ?_)
   show (if g=f then some u else eN g)=none
   rw[if_neg q];exact z
def Inv.made(I:Inv X ao σ H s):Inv X ao σ (upd (upd H s.heap.objs.size (.own (unop%Ws 0))) (unop%Ws 0) (.ins C s.heap.objs.size []))
  {s with heap:=(s.heap.push rL).push (ta C s.heap.objs.size)}:=by
 have az:(s.heap.push rL).get? s.heap.objs.size=some rL:=fR s.heap rfl;have aM:((s.heap.push rL).push (ta C s.heap.objs.size)).get? (s.heap.objs.size+1)=some (ta C s.heap.objs.size):=by
  have:=fR (s.heap.push rL) (o:=ta C s.heap.objs.size) rfl
  rwa [kM] at this
 have dS:(s.heap.push rL).Ns s.heap.objs.size (λ_=>none):=⟨rL,#[],_,az,rfl,(λe he=>absurd he (by simp)),λ_=>rfl⟩;have bj:=I.laid (a:=s.heap.objs.size) (o:=.own (unop%Ws 0)) (h':=s.heap.push rL) (t':=s.toks) (λb u q=>cW _ q) (dQ _) ⟨_,az⟩;refine bj.laid (a:=s.heap.objs.size+1) (o:=.ins C s.heap.objs.size []) (t':=s.toks) (λb u q=>cW _ q) (Nat.le_of_eq (kM _ _)) ?_;have ne:s.heap.objs.size≠s.heap.objs.size+1:=e3 (Nat.lt_succ_self _);refine⟨by rw[cS ne,dV],oE _,ne,aM,λ_=>none,(Heap.Ns1.of_empty dS).at λo q=>cW _ q,λ_=>True.intro,λy a6=>absurd rfl a6⟩
def ame{prog:cA}{w:b_}{env:Env}{e:bx}{f:Str}{pos:Pos}{s:aH}{Q:aq->aH->Prop}(af:ki e f env (eval e env)=eval e env)
  (h:a_ (bG prog w) A (eval e env) (λo c6=>a_ (bG prog w) A (getAttr o f true) Q E c6) E s):a_ (bG prog w) A (eval (.Attribute e f pos) env) Q E s:=
 Attribute_any_ h (by rw[arm_eval_Attribute,af])
end
noncomputable def aga(K:bc)(cJ:TE)(f:Str):TE:=λσ H Q=>cJ σ H λx H1=>∃a C bF aE v,x=.ref a/\H1 a=some (.ins C bF aE)/\oP K C/\r7 K C f/\aE.lookup f=some v/\Q v H1
noncomputable def afa(K:bc)(cJ js:TE)(f:Str):f5:=λD σ H=>js σ H λy H1=>cJ σ H1 λx bB=>∃a C bF aE,x=.ref a/\bB a=some (.ins C bF aE)/\oP K C/\r7 K C f/\aE.length<1000 /\
 D.bI σ (upd bB a (.ins C bF (hB f y aE)))
noncomputable def Fg(X:a3)(op:Operator)(jP:V->V->aB->c3->Prop):Prop:=
 ∀(ao:List (ak×Obj)) (s:aH) (σ:St) (H:aB) (x y:V) (u v:aq) (Q:c3),Inv X ao σ H s->RelV x u->RelV y v->jP x y H Q->a_ (unop%Wk 0) X.A (inplaceOp op u v) (g_ X ao σ Q) X.dm s
noncomputable def alp(K:bc)(cJ js:TE)(jP:V->V->aB->c3->Prop)(f:Str):f5:=λD σ H=>cJ σ H λx H1=>∃a C bF aE v,x=.ref a/\H1 a=some (.ins C bF aE)/\oP K C/\r7 K C f/\aE.lookup f=some v /\
 js σ H1 λy bB=>jP v y bB λz e6=>∃v8 iu,e6 a=some (.ins C v8 iu)/\iu.length<1000/\D.bI σ (upd e6 a (.ins C v8 (hB f z iu)))
section
variable {X:a3}{o e value:bx}{f:Str}{pos pos' Lz:Pos}{cJ js:TE}
def r5(he:b0 X e cJ)(af:ki e f X.env (eval e X.env)=eval e X.env):b0 X (.Attribute e f pos) (aga X.K cJ f):=by
 intro ao s σ H Q I h;refine ame af (cK (he ao s σ H _ I h) λu s1 hqq=>?_);obtain⟨x,H1,bj,aW,a,C,bF,aE,v,ex,ea,c,n,l,q⟩:=hqq;subst ex;obtain rfl:u=Value.ref a:=aW;exact SH bj ea c n l λu5 s2 ct c1=>⟨v,H1,ct,c1,q⟩
def NJ(aC:b0 X o cJ)(bh:b0 X value js)(aA:kP value (some (.Attribute o f pos')) pos.line X.env=pure false):h2 X (.Assign [.Attribute o f pos'] value pos) (afa X.K cJ js f):=by
 intro ao s σ H D I h;refine plainObj_wpAny_Assign_Attribute (cK (bh ao s σ H _ I h) λu s1 ⟨y,H1,bj,bC,q⟩=>cK (aC ao s1 σ H1 _ bj q) λfe s2 hqq=>?_) aA;obtain⟨x,bB,ct,aW,a,C,bF,aE,ex,ea,c,n,l,bu⟩:=hqq;subst ex;obtain rfl:fe=Value.ref a:=aW;exact Sp ct ea c n l bC λs3 el=>⟨σ,_,el,bu⟩
def ajE{op:Operator}{jP:V->V->aB->c3->Prop}(aC:b0 X o cJ)(bh:b0 X value js)(Im:Fg X op jP):h2 X (.AugAssign (.Attribute o f Lz) op value pos) (alp X.K cJ js jP f):=by
 intro ao s σ H D I h;refine wpAny_AugAssign_AttributeAny (cK (aC ao s σ H _ I h) λfe s1 hqq=>?_);obtain⟨x,H1,bj,aW,a,C,bF,aE,v,ex,ea,c,n,l,q⟩:=hqq;subst ex;obtain rfl:fe=Value.ref a:=aW;refine SH bj ea c n l λu s2 ct c1=>cK (bh ao s2 σ H1 _ ct q) λDd s3 ⟨y,bB,el,bC,df⟩=>cK (Im ao s3 σ bB v y u Dd _ el c1 bC df) λw4 s4 hqq=>?_;obtain⟨z,e6,mY,Lf,v8,iu,Z3,qn,kG⟩:=hqq;exact Sp mY Z3 c n qn Lf λs5 t2=>⟨σ,_,t2,kG⟩
noncomputable def aeQ:V->V->aB->c3->Prop:=λx y H Q=>∃i j,x=.int i/\y=.int j/\Q (.int (i+j)) H
def Vj:Fg X .Add aeQ:=by
 rintro ao s σ H x y u v Q I aW bC ⟨i,j,rfl,rfl,q⟩;obtain⟨t,rfl⟩:=(show ∃t,u=Value.int i t from aW);obtain⟨t',rfl⟩:=(show ∃t',v=Value.int j t' from bC);exact PyProof.Rows.iadd_int ⟨.int (i+j),H,I.tok _,⟨_,rfl⟩,q⟩
end
end bA
namespace bA
open PySem PySem.Spec PyProof.Rows
structure da(k:Nat)(A:cw):Prop where
 hd:A.handled=none
 yd:A.depth+3*k+5<recursionLimit
 un:A.units+16*k+200<cLine
def da.mono{j k:Nat}{A:cw}(r:da k A)(h:j<=k):da j A:=⟨r.hd,by have:=r.yd;omega,by have:=r.un;omega⟩
theorem da.deeper{k:Nat}{A:cw}(r:da (k+1) A)(env:Env):da k (A.deeper env):=
 ⟨r.hd,by have:=r.yd;show A.depth+1+3*k+5<_;omega,by have:=r.un;show A.units+3+16*k+200<_;omega⟩
theorem da.in1{k:Nat}{A:cw}(r:da (k+1) A):da k A.in1:=
 ⟨r.hd,by have:=r.yd;show A.depth+3*k+5<_;omega,by have:=r.un;show A.units+1+16*k+200<_;omega⟩
def ai3{A:cw}{C:ak}{us:List aq}{kw:List (Str×aq)}:(A.under (.builtin "type.__call__" ⟨.ref C::us,kw⟩)).depth=A.depth+1:=by
 first|rfl|simp[Around.under,Code.weight,Code.isCreation,Code.isGuard,Code.isCaller,Code.frames,Code.isFrame,guardIds]
def ai2{A:cw}{C:ak}{us:List aq}{kw:List (Str×aq)}:(A.under (.builtin "type.__call__" ⟨.ref C::us,kw⟩)).units=A.units+1:=by
 first|rfl|simp[Around.under,Code.cUnits,Code.frames,Code.isFrame]
def da.make{k:Nat}{A:cw}(r:da (k+1) A)(C:ak)(us:List aq)(kw:List (Str×aq)):da k (A.under (.builtin "type.__call__" ⟨.ref C::us,kw⟩)):=
 ⟨r.hd,by have:=r.yd;rw[ai3];omega,by have:=r.un;rw[ai2];omega⟩
theorem da.depth{k:Nat}{A:cw}(r:da k A):A.depth<recursionLimit:=by have:=r.yd;omega
theorem da.units{k:Nat}{A:cw}(r:da k A):A.units+64<cLine:=by have:=r.un;omega
noncomputable def mB:gk:=λ_ H Q=>Q [] H
noncomputable def iK(cJ:TE)(tr:gk):gk:=λσ H Q=>cJ σ H λx H1=>tr σ H1 λxs bB=>Q (x::xs) bB
section
variable {X:a3}{e:bx}{es:List bx}{hk:TE}{t:gk}{pos:Pos}
def hJ:gj X [] mB:=λ_ _ _ _ H Q I h=>Calls.spliced_nil ⟨[],H,I,.nil,h⟩
def fu(aC:b0 X e hk)(ay:gj X es t)(aA:bl (e::es) X.env=(false,eval e X.env)::bl es X.env:=by rfl):gj X (e::es) (iK hk t):=by
 intro pos ao s σ H Q I h;rw[aA];show a_ _ _ (spliced ((false,eval e X.env)::c' pos (bl es X.env))) _ _ s;refine Calls.spliced_cons (cK (aC ao s σ H _ I h) λu s1 hqq=>?_);obtain⟨x,H1,bj,bk,aQ⟩:=hqq;exact cK (ay pos ao s1 σ H1 _ bj aQ) λus s2 ⟨xs,bB,ct,b4,bu⟩=>⟨x::xs,bB,ct,.cons bk b4,bu⟩
noncomputable def wL(t:gk):TE:=λσ H Q=>t σ H λxs H1=>xs.length<=cj/\∀p,H1 p=none->Q (.ref p) (upd H1 p (.tup xs))
noncomputable def Rj(t:gk):TE:=λσ H Q=>t σ H λxs H1=>xs.length<=cj/\∀p,H1 p=none->Q (.ref p) (upd H1 p (.lst xs))
def Aq{aU}(h:gj X es t):b0 X (.Tuple es aU pos) (wL t):=by
 intro ao s σ H Q I a5;refine wpAny_Tuple_spliced (cK (h pos ao s σ H _ I a5) λus s1 ⟨xs,H1,bj,r,z,q⟩=>⟨by rw[<- r.length];exact z,?_⟩);have hf:H1 s1.heap.objs.size=none:=bj.bL.fresh (dQ _);refine⟨.ref s1.heap.objs.size,upd H1 s1.heap.objs.size (.tup xs),bj.laid (t':=s1.toks) (λb u e=>cW _ e) (dQ _) ?_,rfl,q _ hf⟩;exact⟨z,us,r,⟨_,fR _ rfl,rfl,_,rfl⟩⟩
def U8(h:gj X es t):b0 X (.List es pos) (Rj t):=by
 intro ao s σ H Q I a5;refine wpAny_List_spliced (cK (h pos ao s σ H _ I a5) λus s1 ⟨xs,H1,bj,r,z,q⟩=>⟨by rw[<- r.length];exact z,?_⟩);have hf:H1 s1.heap.objs.size=none:=bj.bL.fresh (dQ _);refine⟨.ref s1.heap.objs.size,upd H1 s1.heap.objs.size (.lst xs),bj.laid (t':=s1.toks) (λb u e=>cW _ e) (dQ _) ?_,rfl,q _ hf⟩;exact⟨z,us,0,r,fR _ rfl⟩
end
abbrev kU:=List V->aB->c3->fb->Prop
abbrev mU:=List Env->aB->aH->fb->aq->aH->Prop
structure kR(P:cA)(w:b_)(K:bc)(mg:Str->Option aq)(base:bM)(A:cw)(outer:List Env)(s:aH)(H:aB):Prop where
 frames:A.frames=some outer
 mod:Mod K mg base
 bs:∀b o,base.get? b=some o->s.heap.get? b=some o/\H b=none
 m4:base.objs.size<=s.heap.objs.size
 ky:s.heap.FunFrames base outer
 n7:∀b∈fc outer,H b=none
 bL:eP P w H s.heap
 bare:AllBare s.gens
noncomputable def AL(outer:List Env)(P:cA)(w:b_)(H:aB)(s:aH)(Q:c3)(u:aq)(s':aH):Prop:=
 ∃v ag,s'.os=s.os/\AllBare s'.gens/\f6 (fc outer) [] H ag s.heap s'.heap/\eP P w ag s'.heap/\RelV v u/\Q v ag
noncomputable def oN(ek:mU)(outer:List Env)(P:cA)(w:b_)(H:aB)(s:aH)(Q:c3)(E:fb)(r:Result)(s':aH):Prop:=
 match r with
|.ok (.ret u)=>AL outer P w H s Q u s'
|.ok _=>False
|.error e=>ek outer H s E e s'
structure e5(P:cA)(w:b_)(K:bc)(mg:Str->Option aq)(base:bM)(ek:mU)(k:Nat)(f:ak)(fd:eo)(ps:List Str)(sp:kU):Prop where
 len:∀vs H Q E,sp vs H Q E->vs.length=ps.length
 run:∀(A:cw) (outer:List Env) (s:aH) (H:aB) (args:Args) (us:List aq) (vs:List V) (Q:c3) (E:fb),da k A->kR P w K mg base A outer s H->BindsTo s fd args (ps.zip us)->Vals vs us->sp vs H Q E ->
  hT (bG P w) A (.call (.ref f) args) (oN ek outer P w H s Q E) s
theorem e5.mono{P:cA}{w:b_}{K:bc}{mg:Str->Option aq}{base:bM}{ek:mU}{j k:Nat}{f:ak}{fd:eo}{ps:List Str}{sp:kU}(F:e5 P w K mg base ek j f fd ps sp)(h:j<=k):
  e5 P w K mg base ek k f fd ps sp:=⟨F.len,λA outer s H args us vs Q E ay=>F.run A outer s H args us vs Q E (ay.mono h)⟩
def e5.imp{P:cA}{w:b_}{K:bc}{mg:Str->Option aq}{base:bM}{ek:mU}{k:Nat}{f:ak}{fd:eo}{ps:List Str}{sp Q8:kU}(F:e5 P w K mg base ek k f fd ps sp)
  (h:∀vs H Q E,Q8 vs H Q E->sp vs H Q E):e5 P w K mg base ek k f fd ps Q8:=
 ⟨λvs H Q E q=>F.len vs H Q E (h _ _ _ _ q),λA outer s H args us vs Q E ay he af bh aA=>F.run A outer s H args us vs Q E ay he af bh (h _ _ _ _ aA)⟩
def kR.make{P:cA}{w:b_}{K:bc}{mg:Str->Option aq}{base:bM}{A:cw}{outer:List Env}{s:aH}{H:aB}(e:kR P w K mg base A outer s H)(C:ak)(us:List aq)(kw:List (Str×aq)):
  kR P w K mg base (A.under (.builtin "type.__call__" ⟨.ref C::us,kw⟩)) outer s H:=⟨by first|exact e.frames|(simpa [Around.under,Code.envs,Code.isFrame,pushEnvs] using e.frames),e.mod,e.bs,e.m4,e.ky,e.n7,e.bL,e.bare⟩
theorem kR.in1{P:cA}{w:b_}{K:bc}{mg:Str->Option aq}{base:bM}{A:cw}{outer:List Env}{s:aH}{H:aB}(e:kR P w K mg base A outer s H):
  kR P w K mg base A.in1 outer s H:=⟨e.frames,e.mod,e.bs,e.m4,e.ky,e.n7,e.bL,e.bare⟩
section
variable {X:a3}{ao:List (ak×Obj)}{σ:St}{H:aB}{s s':aH}
def Inv.um(I:Inv X ao σ H s):kR X.prog X.w X.K X.mg X.base X.A X.stack s H:=
 ⟨I.ok.frames,I.ok.mod,I.bs,lz I.ok.m4 I.mA,I.stack,I.Lk,I.bL,I.bare⟩
def Inv.after{Q:c3}{u:aq}(I:Inv X ao σ H s)(h:AL X.stack X.prog X.w H s Q u s'):g_ X ao σ Q u s':=by
 obtain⟨v,ag,os,bare,un,bL,r,q⟩:=h;obtain⟨cR,g,d,t,uW⟩:=s';obtain rfl:uW=s.os:=os;exact⟨v,ag,I.call (h':=cR) (g':=g) (d':=d) (t':=t) (ch:=[]) un bL bare (λb z=>absurd z (by simp)),r,q⟩
end
noncomputable def anp(sp:kU)(iS:List V)(E:fb)(t:gk):TE:=λσ H Q=>t σ H λvs H1=>sp (vs++iS) H1 Q E
noncomputable def Vy(C:ak)(m:Str)(sp:kU)(iS:List V)(E:fb)(cJ:TE)(t:gk):TE:=λσ H Q=>cJ σ H λx H1=>∃a bF aE,x=.ref a/\H1 a=some (.ins C bF aE)/\aE.lookup m=none /\
 t σ H1 λvs bB=>sp (x::(vs++iS)) bB Q E
noncomputable def anl(C:ak)(sp:kU)(iS:List V)(E:fb)(t:gk):TE:=λσ H Q=>t σ H λvs H1=>∀x bF,H1 x=none->H1 bF=none->bF≠x ->
 sp (.ref x::(vs++iS)) (upd (upd H1 bF (.own x)) x (.ins C bF [])) (λv bB=>v=.dT/\Q (.ref x) bB) E
noncomputable def gh(K:bc)(fd:eo)(ps:List Str)(ds:List aq):Prop:=
 ∀(s:aH) (us:List aq),K.In s.heap->(us++ds).length=ps.length->BindsTo s fd ⟨us,[]⟩ (ps.zip (us++ds))
def gh.all{K:bc}{fd:eo}{ps:List Str}(h:∀us:List aq,us.length=ps.length->bindArgs fd ⟨us,[]⟩=pure (ps.zip us)):gh K fd ps []:=λs us _ aG=>by
 rw[kO] at aG ⊢;exact .of_eq (h us aG)
noncomputable def tF(ek:mU)(X:a3)(E:fb):Prop:=∀(ao:List (ak×Obj)) (σ:St) (H:aB) (s:aH) (e:aq) (s':aH),Inv X ao σ H s->ek X.stack H s E e s'->X.dm e s'
section
variable {X:a3}{ek:mU}{k:Nat}{f C:ak}{fd:eo}{ps:List Str}{sp:kU}{iS:List V}{ds:List aq}{E:fb}{x m:Str}{p pos apos:Pos}{e o:bx}{es:List bx}{cJ:TE}{t:gk}
def NH{ao:List (ak×Obj)}{σ:St}{H:aB}{s:aH}{Q:c3}{us:List aq}{vs:List V}(F:e5 X.prog X.w X.K X.mg X.base ek k f fd ps sp)(ay:da k X.A)(af:gh X.K fd ps ds)(hd:Vals iS ds)(hx:tF ek X E)
  (I:Inv X ao σ H s) (r:Vals vs us) (h:sp (vs++iS) H Q E):a_ (unop%Wk 0) X.A (call (.ref f) us) (g_ X ao σ Q) X.dm s:=by
 have b4:Vals (vs++iS) (us++ds):=r.append hd;have aG:(us++ds).length=ps.length:=by rw[<- b4.length];exact F.len _ _ _ _ h
 refine qD (nH (F.run X.A X.stack s H ⟨us,[]⟩ (us++ds) (vs++iS) Q E ay I.um (af s us I.j9 aG) b4 h) λr s' a5=>?_)
 cases r with
|error e=>exact hx ao σ H s e s' I a5
|ok du=>
  cases du with
  |ret u=>exact I.after a5
  |next=>exact d8 a5
  |brk=>exact d8 a5
  |cont=>exact d8 a5
def Nm(F:e5 X.prog X.w X.K X.mg X.base ek k f fd ps sp)(ay:da k X.A)(bq:ee X x)(hm:X.mg x=some (.ref f))(aI:nx X.K (.ref f)=true)(af:gh X.K fd ps ds)(hd:Vals iS ds)(hx:tF ek X E)
  (aC:gj X (e::es) t) (hg:(x==("__debug__":Str))=false:=by decide) (he:bl (e::es) X.env=(false,eval e X.env)::bl es X.env:=by rfl) (hpl:(unop%Wy 0).any (·.1)=false:=by rfl):
  b0 X (unop%WC 0) (anp sp iS E t):=by
 intro ao s σ H Q I h;refine nF (vD I bq hm ?_ hg);refine PySem.W.callWith_K (h₀:=X.base) I.ok.mod.pq aI (cK (aC pos ao s σ H _ I h) λus s1 ⟨vs,H1,bj,r,q⟩=>⟨bj.j9,?_⟩) he hpl;exact NH F ay af hd hx bj r q
def Ur{pl:Sem Bool}(he:b0 X o cJ)(c:oP X.K C)(hm:Meth X.K C m f)(F:e5 X.prog X.w X.K X.mg X.base ek k f fd ps sp)(ay:da k X.A)(af:gh X.K fd ps ds)(hd:Vals iS ds)(hx:tF ek X E)(aC:gj X (e::es) t)
  (hy:bl (e::es) X.env=(false,eval e X.env)::bl es X.env:=by rfl) (hpl:(unop%Wy 0).any (·.1)=false:=by rfl)
  (bp:eval (unop%WO 0) X.env=(do
   let fe <- eval o X.env
   standAt apos.atName
   let (f,first) <- holding [fe] (getMethod fe m pl)
   callWith pos f first (c' pos (bl (e::es) X.env)) (fT pos (fS [] X.env))):=by rfl):
  b0 X (unop%WO 0) (Vy C m sp iS E cJ t):=by
 intro ao s σ H Q I h;refine PySem.W.methodCall_KW (pl:=pl) (cK (he ao s σ H _ I h) λu s1 hqq=>?_) bp;obtain⟨x,H1,bj,aW,a,bF,aE,ex,ea,l,q⟩:=hqq;subst ex;obtain rfl:u=Value.ref a:=aW;refine SG bj ea c hm l ?_;refine PySem.W.callWith_K (first:=[.ref a]) (h₀:=X.base) I.ok.mod.pq hm.aF (cK (aC pos ao s1 σ H1 _ bj q) λus s2 ⟨vs,bB,ct,r,bu⟩=>⟨ct.j9,?_⟩) hy hpl;exact NH (us:=.ref a::us) (vs:=.ref a::vs) F ay af hd hx ct (.cons rfl r) bu
def TP{pl:Sem Bool}(he:b0 X o cJ)(c:oP X.K C)(hm:Meth X.K C m f)(F:e5 X.prog X.w X.K X.mg X.base ek k f fd ps sp)(ay:da k X.A)(af:gh X.K fd ps ds)(hd:Vals iS ds)(hx:tF ek X E)
  (bp:eval (unop%WU 0) X.env=(do
   let fe <- eval o X.env
   standAt apos.atName
   let (f,first) <- holding [fe] (getMethod fe m pl)
   callWith pos f first (c' pos (bl [] X.env)) (fT pos (fS [] X.env))):=by rfl):
  b0 X (unop%WU 0) (Vy C m sp iS E cJ mB):=by
 intro ao s σ H Q I h;refine PySem.W.methodCall_KW (pl:=pl) (cK (he ao s σ H _ I h) λu s1 hqq=>?_) bp;obtain⟨x,H1,bj,aW,a,bF,aE,ex,ea,l,q⟩:=hqq;subst ex;obtain rfl:u=Value.ref a:=aW;refine SG bj ea c hm l ?_;exact PySem.W.callWith_K0 (first:=[.ref a]) bj.j9 hm.aF (NH (us:=[.ref a]) (vs:=[.ref a]) F ay af hd hx bj (.cons rfl .nil) q)
structure xW(K:bc)(C f:ak):Prop where
 makes:PySem.W.makesIn K C=true
 init:l7 K (.ref C) "__init__"=some (some (.ref f))
 fn:PySem.W.isFn K (.ref f)=true
 aF:nx K (.ref C)=true
def akw{ao:List (ak×Obj)}{σ:St}{H:aB}{s:aH}{Q:c3}{us:List aq}{vs:List V}(M:xW X.K C f)(F:e5 X.prog X.w X.K X.mg X.base ek k f fd ps sp)(ay:da (k+1) X.A)(af:gh X.K fd ps ds)(hd:Vals iS ds)
  (hx:tF ek X E) (I:Inv X ao σ H s) (r:Vals vs us)
  (h:∀x bF,H x=none->H bF=none->bF≠x->sp (.ref x::(vs++iS)) (upd (upd H bF (.own x)) x (.ins C bF [])) (λv bB=>v=.dT/\Q (.ref x) bB) E):
  a_ (unop%Wk 0) X.A (call (.ref C) us) (g_ X ao σ Q) X.dm s:=by
 have a5:=h (unop%Ws 0) s.heap.objs.size (I.bL.fresh (rO _)) (I.bL.fresh (dQ _)) (e3 (Nat.lt_succ_self _));have ct:=Inv.made (C:=C) I;have b4:Vals (V.ref (unop%Ws 0)::(vs++iS)) (Value.ref (unop%Ws 0)::(us++ds)):=.cons rfl (r.append hd);have aG:(Value.ref (unop%Ws 0)::us++ds).length=ps.length:=by
  have e:=b4.length;rw[F.len _ _ _ _ a5] at e;exact e.symm
 refine qD (akW (f:=f) I.j9 M.makes M.init (beq_iff_eq.mp M.fn) (nH (F.run _ X.stack _ _ ⟨Value.ref (unop%Ws 0)::us,[]⟩ (Value.ref (unop%Ws 0)::(us++ds)) _ _ E (ay.make C us [])
  (ct.um.make C us []) (af _ (Value.ref (unop%Ws 0)::us) ct.j9 aG) b4 a5) λr s' yJ=>?_))
 cases r with
|error e=>exact hx ao σ _ _ e s' ct yJ
|ok du=>
  cases du with
  |ret u=>
   obtain⟨v,ag,el,bW,ev,df⟩:=ct.after yJ;subst ev;exact⟨bW,⟨V.ref (unop%Ws 0),ag,el,rfl,df⟩⟩
  |next=>exact d8 yJ
  |brk=>exact d8 yJ
  |cont=>exact d8 yJ
def alE(M:xW X.K C f)(F:e5 X.prog X.w X.K X.mg X.base ek k f fd ps sp)(ay:da (k+1) X.A)(bq:ee X x)(hm:X.mg x=some (.ref C))(af:gh X.K fd ps ds)(hd:Vals iS ds)(hx:tF ek X E)
  (aC:gj X (e::es) t) (hg:(x==("__debug__":Str))=false:=by decide) (he:bl (e::es) X.env=(false,eval e X.env)::bl es X.env:=by rfl) (hpl:(unop%Wy 0).any (·.1)=false:=by rfl):
  b0 X (unop%WC 0) (anl C sp iS E t):=by
 intro ao s σ H Q I h;refine nF (vD I bq hm ?_ hg);refine PySem.W.callWith_K (h₀:=X.base) I.ok.mod.pq M.aF (cK (aC pos ao s σ H _ I h) λus s1 ⟨vs,H1,bj,r,q⟩=>⟨bj.j9,?_⟩) he hpl;exact akw M F ay af hd hx bj r q
end
structure cZ(N P:List Str)(sc:Scope):Prop where
 kind:sc.kind=.function
 co:sc.isCoroutine=false
 gen:sc.isGenerator=false
 aS:N.Nodup
 pre:N.take P.length=P
 par:∀x∈P,sc.names.lookup x=some .local\/sc.names.lookup x=some .cell
 ab7:∀y∈sc.names,y.2≠.free
theorem Tn{kindOf:Str->Option nJ}{x:Str}:∀{binds:List (Str×aq)} {m:Str->Option aq},(∀v,(x,v)∉binds)->bindL kindOf binds m x=m x
  | [],_,_=>rfl
  | (n,v)::r,m,h=>by
    unfold bindL;rw[Tn λw hw=>h w (dK _ hw)];split
    · have:x≠n:=by rintro rfl;exact h v fQ
      simp[this]
    · rfl
theorem Tp{kindOf:Str->Option nJ}{x:Str}:∀{binds:List (Str×aq)} {m:Str->Option aq},(∀v,(x,v)∉binds)->bindC kindOf binds m x=m x
  | [],_,_=>rfl
  | (n,v)::r,m,h=>by
    unfold bindC;rw[Tp λw hw=>h w (dK _ hw)];split
    · rfl
    · have:x≠n:=by rintro rfl;exact h v fQ
      simp[this]
theorem To{kindOf:Str->Option nJ}{x:Str}{v:aq}:∀{P:List Str} {vs:List aq} {i:Nat} {m:Str->Option aq},P.Nodup->P[i]?=some x->vs[i]?=some v->kindOf x=some .local ->
  bindL kindOf (P.zip vs) m x=some v
| [],_,_,_,_,h,_,_=>by simp at h
|_::_,[],_,_,_,_,h,_=>by simp at h
|p::P,w::vs,0,m,aS,ah,ar,aI=>by
  simp at ah ar;subst ah;subst ar;show bindL kindOf ((p,w)::P.zip vs) m p=_;unfold bindL;rw[Tn λv bh=>(eW.mp aS).1 (List.of_mem_zip bh).1,if_pos aI];simp
|p::P,w::vs,i+1,m,aS,ah,ar,aI=>by
  show bindL kindOf ((p,w)::P.zip vs) m x=_
  unfold bindL;exact To (i:=i) (eW.mp aS).2 (by simpa using ah) (by simpa using ar) aI
theorem Tq{kindOf:Str->Option nJ}{x:Str}{v:aq}:∀{P:List Str} {vs:List aq} {i:Nat} {m:Str->Option aq},P.Nodup->P[i]?=some x->vs[i]?=some v->kindOf x≠some .local ->
  bindC kindOf (P.zip vs) m x=some v
| [],_,_,_,_,h,_,_=>by simp at h
|_::_,[],_,_,_,_,h,_=>by simp at h
|p::P,w::vs,0,m,aS,ah,ar,aI=>by
  simp at ah ar;subst ah;subst ar;show bindC kindOf ((p,w)::P.zip vs) m p=_;unfold bindC;rw[Tp λv bh=>(eW.mp aS).1 (List.of_mem_zip bh).1,if_neg aI];simp
|p::P,w::vs,i+1,m,aS,ah,ar,aI=>by
  show bindC kindOf ((p,w)::P.zip vs) m x=_
  unfold bindC;exact Tq (i:=i) (eW.mp aS).2 (by simpa using ah) (by simpa using ar) aI
noncomputable def start(N:List Str)(vs:List V):St:=vs.map some++dZ (N.length - vs.length) none
noncomputable def fx(ek:mU)(P:cA)(w:b_)(K:bc)(mg:Str->Option aq)(base:bM)(N:List Str)(qual:Str)(scope:Scope)(f:ak)(cd:aq)(A:cw)(outer:List Env)(s:aH)(H:aB)(E:fb):a3 where
 prog:=P
 w:=w
 K:=K
 mg:=mg
 base:=base
 A:=A.deeper (envOfC qual scope s.heap.objs.size f cd)
 N:=N
 dq:=s
 aY:=H
 env:=envOfC qual scope s.heap.objs.size f cd
 outer:=outer
 stack:=envOfC qual scope s.heap.objs.size f cd::outer
 ex:=[]
 calm:=true
 fn:=λ_=>true
 dx:=[]
 dm:=λe s'=>a_ (bG P w) (A.deeper (envOfC qual scope s.heap.objs.size f cd)) (leaving (envOfC qual scope s.heap.objs.size f cd) e) (λ_ aoZ=>ek outer H s E e aoZ) (λbD aoZ=>ek outer H s E bD aoZ) s'
def T9{sc:Scope}{n:Nat}{x:Str}(h:sc.names.lookup x=some .cell):∃c,(cellsFrom n sc.names []).lookup x=some c:=by
 have q:=PySem.W.cellsFrom_some sc.names n [] (.inl h);exact Option.isSome_iff_exists.mp q
def S_{ek:mU}{P:cA}{w:b_}{K:bc}{mg:Str->Option aq}{base:bM}{N ps:List Str}{qual:Str}{scope:Scope}{f:ak}{cd:aq}{A:cw}{outer:List Env}{s s1:aH}{H:aB}{E:fb}{us:List aq}{vs:List V}
  (S:cZ N ps scope) (hd:A.handled=none) (bO:kR P w K mg base A outer s H) (aG:vs.length=ps.length) (r:Vals vs us)
  (x:InCallC s s.heap.objs.size (bindL (envOfC qual scope s.heap.objs.size f cd).kindOf (ps.zip us) λ_=>none) (cellsFrom (unop%Ws 0) scope.names []) (bindC (envOfC qual scope s.heap.objs.size f cd).kindOf (ps.zip us) λ_=>none) s1):
  Inv (fx ek P w K mg base N qual scope f cd A outer s H E) [] (start N vs) H s1:=by
 have hpl:ps.length<=N.length:=by have:=congrArg List.length S.pre;rw[List.length_take] at this;omega
 obtain⟨ah,tk,rfl,aI⟩:=x.done;have nj:∀b:ak,b∉(fx ek P w K mg base N qual scope f cd A outer s H E).ex:=λb z=>absurd (show b∈([]:List ak) from z) (by simp);refine⟨⟨bO.mod,S.kind,rfl,rfl,dQ _,λy z c ah ar=>?_,λy a6=>?_,λy c _ h=>?_,λ_=>hd,Around.frames_deeper bO.frames,.inr ⟨rfl,rfl⟩,λb z=>absurd z (nj b),bO.bs,bO.m4,λb _ _=>nj b,λb z=>absurd z (nj b),bO.ky,bO.n7⟩,
  rfl,bO.bare,f6.kept aI,⟨_,x.toInCall.ns,λi y v ah ar br=>?_⟩,λy c h=>⟨_,x.cell y c h⟩,bO.bL.fresh (dQ _),λy c h=>?_,λp aL=>absurd (show p∈([]:List (ak×Obj)) from aL) (by simp),bO.bL.kept aI,?_⟩
 ·exact name_of_addr x.apart (zE ah) (zE ar)
 ·have a6:scope.names.lookup y=some .cell\/scope.names.lookup y=some .free:=a6;rcases a6 with a6|a6
  ·exact T9 a6
  ·exact absurd rfl (S.ab7 _ (zE a6))
 ·exact Nat.le_of_lt (x.above y c (zE h))
 ·have aP:i<vs.length:=by
   unfold start at ar;by_cases aP:i<vs.length
   ·exact aP
   ·rw[wQ (by simpa using aP)] at ar;rw[List.getElem?_replicate] at ar;split at ar <;> cases ar
  have aC:vs[i]?=some v:=by
   unfold start at ar;rw[wR (by simpa using aP),kL] at ar;cases e:vs[i]? with
   |none=>rw[e] at ar;cases ar
   |some a=>rw[e] at ar;cases ar;rfl
  obtain⟨u,b8,bW⟩:=r.get aC;have aL:ps[i]?=some y:=by
   rw[<- S.pre,List.getElem?_take_of_lt (by omega)];exact ah
  have QE:ps.Nodup:=by rw[<- S.pre];exact S.aS.sublist (List.take_sublist _ _)
  refine⟨u,bW,?_⟩
  rcases S.par y (qB aL) with k|k
  ·exact .inl ⟨k,To QE aL b8 k⟩
  ·obtain⟨c,e⟩:=T9 (n:=s.heap.objs.size+1) k;refine .inr ⟨.inl k,c,e,?_⟩;have q:=x.cell y c e;rw[Tq QE aL b8 (by show scope.names.lookup y≠_;rw[k];decide)] at q;exact q
 ·exact bO.bL.fresh (Nat.le_of_lt (x.above y c (zE h)))
 ·unfold start;show _=N.length;rw[l8,fh,List.length_replicate];omega
def N3{ek:mU}{P:cA}{w:b_}{K:bc}{mg:Str->Option aq}{base:bM}{k:Nat}{f:ak}{name qual:Str}{params:Arguments}{body:List Stmt}{scope:Scope}{A8 dI doc pm b1 cQ g0:aq}{an eh:Option ak}
  {ka:Array (Option aq)} {N ps:List Str} {sp:kU} (lk:K.lookup f=some ⟨g0,eh,.func (lx name qual params body scope A8 dI doc pm an b1 cQ),ka⟩) (eg:qA K b1 qual=true) (S:cZ N ps scope)
  (len:∀vs H Q E,sp vs H Q E->vs.length=ps.length)
  (rg:∀(A:cw) (outer:List Env) (s:aH) (H:aB) (vs:List V) (Q:c3) (E:fb),da k (A.deeper (envOfC qual scope s.heap.objs.size f b1))->sp vs H Q E ->
   ∃t,fY (fx ek P w K mg base N qual scope f b1 A outer s H E) body t/\t {bI:=λ_ ag=>Q .dT ag,dn:=Q} (start N vs) H):
  e5 P w K mg base ek (k+1) f (lx name qual params body scope A8 dI doc pm an b1 cQ) ps sp:=by
 refine⟨len,λA outer s H args us vs Q E ay bO af r sQ=>?_⟩
 have aG:=len _ _ _ _ sQ;have lL:K.In s.heap:=bO.mod.pq.keeps λb o e=>(bO.bs b o e).1;have lim:s.heap.NoLimit:=bO.mod.nolimit.keeps λb o e=>(bO.bs b o e).1;have Ib:∀y∈ps.zip us,scope.names.lookup y.1=some .local\/(scope.names.lookup y.1=some .cell/\((cellsFrom (unop%Ws 0) scope.names []).lookup y.1).isSome=true):=λ⟨n,v⟩ a6=>by
  rcases S.par n (List.of_mem_zip a6).1 with q|q
  ·exact .inl q
  ·exact .inr ⟨q,PySem.W.cellsFrom_some _ _ _ (.inl q)⟩
 refine codeAny_call_function ay.depth (lL _ _ lk) rfl S.co S.gen rfl (PySem.W.codeRec_of lL eg) (af _ _ _ _ ?_)
 refine wpAny_newFunctionEnv_cells S.kind Ib λenv he s1 x=>?_
 subst he;refine⟨lim.keeps x.toInCall.keep,codeAny_func ?_⟩;obtain⟨t,bp,a5⟩:=rg A outer s H vs Q E (ay.deeper _) sQ;have I:Inv (fx ek P w K mg base N qual scope f b1 A outer s H E) [] (start N vs) H s1:=S_ S ay.hd bO aG r x;refine et (bp [] s1 (start N vs) H _ I a5) (λdu s' aA=>?_) λe s' aA=>aA;have fin:∀{ck:St} {ag:aB} {v:V} {u:aq},Inv (fx ek P w K mg base N qual scope f b1 A outer s H E) [] ck ag s'->RelV v u->Q v ag->AL outer P w H s Q u s':=
  λ{ck ag v u} J bW q=>⟨v,ag,J.os,J.bare,J.base,J.bL,bW,q⟩
 cases du with
|ret u=>
  obtain⟨v,ck,ag,J,bW,q⟩:=aA;exact fin J bW q
|next=>
  obtain⟨ck,ag,J,q⟩:=aA;exact fin (v:=V.dT) (u:=Value.none) J rfl q
|brk=>
  obtain⟨_,_,_,q⟩:=aA;exact d8 q
|cont=>
  obtain⟨_,_,_,q⟩:=aA;exact d8 q
end bA
namespace bA
open PySem PySem.Spec PyProof.Rows
section
variable {X:a3}{x:Str}{p pos:Pos}{e:bx}{es:List bx}{t:gk}{id T:String}{r:List V->aB->c3->Prop}
noncomputable def C2(r:List V->aB->c3->Prop)(t:gk):TE:=λσ H Q=>t σ H λvs H1=>r vs H1 Q
def Ac(aw:lI X (.builtin id) r)(bq:ee X x)(hm:X.mg x=none)(bh:bootBuiltins x=some (.builtin id))(aC:gj X (e::es) t)(bg:x≠"__name__":=by decide)(hg:(x==("__debug__":Str))=false:=by decide)
  (he:bl (e::es) X.env=(false,eval e X.env)::bl es X.env:=by rfl) (hpl:(unop%Wy 0).any (·.1)=false:=by rfl):b0 X (unop%WC 0) (C2 r t):=by
 intro ao s σ H Q I h;refine nF (qO I bq hm bh ?_ bg hg);exact PyProof.Rows.callWith_builtin1 (cK (aC pos ao s σ H _ I h) λus s1 ⟨vs,H1,bj,bk,aQ⟩=>aw ao s1 σ H1 vs us Q bj bk aQ) he hpl
def Eg(aw:lI X (.type T) r)(bq:ee X x)(hm:X.mg x=none)(bh:bootBuiltins x=some (.type T))(aC:gj X (e::es) t)(bg:x≠"__name__":=by decide)(hg:(x==("__debug__":Str))=false:=by decide)
  (he:bl (e::es) X.env=(false,eval e X.env)::bl es X.env:=by rfl) (hpl:(unop%Wy 0).any (·.1)=false:=by rfl):b0 X (unop%WC 0) (C2 r t):=by
 intro ao s σ H Q I h;refine nF (qO I bq hm bh ?_ bg hg);exact zD (cK (aC pos ao s σ H _ I h) λus s1 ⟨vs,H1,bj,bk,aQ⟩=>aw ao s1 σ H1 vs us Q bj bk aQ) he hpl
end
end bA
namespace fF
open PySem PyProof.Rows
section
variable {prog:cA}{w:b_}{A:cw}{E:aq->aH->Prop}{s:aH}
def Yj{t b:ak}{vs ws:List aq}{Q:aq->aH->Prop}(bp:IsTup s.heap t vs.toArray)(af:IsTup s.heap b ws.toArray)(bh:vs≠[])
  (ah:ws=[]->Q (.ref t) s) (ar:ws≠[]->Q (unop%WK 0) {s with heap:=s.heap.push {cls:=.type "tuple",data:=.seq (vs++ws).toArray} })
  (hsz:vs.length+ws.length<=cj):a_ (bG prog w) A (nI .Add (.ref t) (.ref b)) Q E s:=by
 obtain⟨⟨cls,dd,data,cz⟩,aJ,aw,n,hd⟩:=id bp;obtain⟨⟨G9,n3,data2,iD⟩,uE,kB,fp,hd2⟩:=id af;simp only at aw hd kB hd2;subst aw hd kB hd2;have e:vs.toArray++ws.toArray=(vs++ws).toArray:=by simp
 by_cases hw:ws=[]
 ·exact concat_meets ⟨_,aJ,rfl⟩ ⟨_,uE,rfl⟩ noFill_tuple_add seq_tuple_add PySem.F.slot_tuple_add PySem.F.entry_tuple_add (PySem.F.args_tuple_add_2 _ _)
   (tuple_addW1 t b vs.toArray ws.toArray n fp dd n3 cz iD (by simpa using bh) (by simp[hw])) ⟨aJ,uE,ah hw⟩
 ·refine concat_meets ⟨_,aJ,rfl⟩ ⟨_,uE,rfl⟩ noFill_tuple_add seq_tuple_add PySem.F.slot_tuple_add PySem.F.entry_tuple_add (PySem.F.args_tuple_add_2 _ _)
   (tuple_addW2 t b vs.toArray ws.toArray n fp dd n3 cz iD (by simpa using bh) (by simpa using hw) (by rw[eG,eG];exact hsz)) ⟨aJ,uE,?_⟩
  rw[e];exact ar hw
noncomputable def c8(n d:Nat):Option Int->Nat
|none=>d
|some v=>if v<0 then (v+(n:Int)).toNat else min v.toNat n
def ams(n d:Nat)(hd:d<=n)(o:Option Int):c8 n d o<=n:=by
 cases o with
|none=>exact hd
|some v=>
  show (if v<0 then (v+(n:Int)).toNat else min v.toNat n)<=n
  by_cases bh:v<0
  ·rw[if_pos bh];omega
  ·rw[if_neg bh];exact Nat.min_le_right _ _
def UJ(v:Int)(n d:Nat):(if v<0 then max (v+(n:Int)) 0 else min v (n:Int))=((c8 n d (some v):Nat):Int):=by
 show (if v<0 then max (v+(n:Int)) 0 else min v (n:Int))=(((if v<0 then (v+(n:Int)).toNat else min v.toNat n):Nat):Int)
 by_cases bh:v<0
 ·simp only[if_pos bh];omega
 ·simp only[if_neg bh];omega
def ajl(lo aP:Option Int)(n:Nat):Builtin.Slice.sliceAdjust lo aP 1 (n:Int)=(((c8 n 0 lo:Nat):Int),((c8 n n aP:Nat):Int)):=by
 have ah:¬((1:Int)<0):=by omega
 unfold Builtin.Slice.sliceAdjust;simp only[ah,if_false];refine Prod.ext ?_ ?_
 ·cases lo with
  |none=>rfl
  |some v=>exact UJ v n 0
 ·cases aP with
  |none=>rfl
  |some v=>exact UJ v n n
def aiM(i j:Nat):Di (i:Int) (j:Int) 1=j - i:=by
 unfold Di;have ah:(1:Int) > 0:=by omega
 simp only[ah,if_true,Int.ediv_one];split <;> omega
def So{v:aq}{o:Option Int}{Q:Option Int->aH->Prop}(p:IsPart v o)(h:Q o s):a_ (bG prog w) A (Builtin.Slice.slicePartIndex v) Q E s:=by
 cases p with
|none=>exact slicePart_none h
|int i t=>exact slicePart_int h
def Q7{cz:ak}{h_ fg:aq}{lo aP:Option Int}{n:Nat}{Q:Int×Int×Nat->aH->Prop}(aA:s.heap.IsSliceOf cz h_ fg .none)(pl:IsPart h_ lo)(pu:IsPart fg aP)
  (h:Q (((c8 n 0 lo:Nat):Int),1,c8 n n aP - c8 n 0 lo) s):a_ (bG prog w) A (Builtin.Slice.sliceApplied (.ref cz) (pure (n:Int))) Q E s:=by
 obtain⟨os,rm,BJ,yz⟩:=id aA;unfold Builtin.Slice.sliceApplied Builtin.Slice.sliceFields;refine aN (aN (ie rm yz (x:=h_) rfl (aN (ie rm yz (x:=fg) rfl (aN (ie rm yz (x:=.none) rfl (b2 ?_)))))));refine aN (slicePart_none ?_);show a_ _ _ (if ((1:Int)==0)=true then _ else _) _ _ s;rw[if_neg (by decide)];refine aN (So pl (aN (So pu (aN (b2 ?_)))));show a_ _ _ (match Builtin.Slice.sliceAdjust lo aP 1 (n:Int) with|(lo,aP)=>pure (lo,(1:Int),Di lo aP 1)) _ _ s;rw[ajl lo aP n];show a_ _ _ (pure (((c8 n 0 lo:Nat):Int),(1:Int),Di ((c8 n 0 lo:Nat):Int) ((c8 n n aP:Nat):Int) 1)) _ _ s;rw[aiM];exact b2 h
def akE(xs:Array aq)(i k:Nat):((List.range k).filterMap λ(m:Nat)=>xs[((i:Int)+(m:Int)*1).toNat]?).toArray=((xs.toList.drop i).take k).toArray:=by
 have e:(λ(m:Nat)=>xs[((i:Int)+(m:Int)*1).toNat]?)=λm=>xs[i+m]?:=by
  funext m;have:((i:Int)+(m:Int)*1).toNat=i+m:=by omega
  rw[this]
 rw[e];have:=pick_run xs i k;rw[List.filterMap_map] at this;have aM:((λx=>xs[x]?) ∘ λx=>i+x)=λm=>xs[i+m]?:=rfl;rw[aM] at this;rw[this]
def _g{t cz:ak}{items:Array aq}{h_ fg:aq}{lo aP:Option Int}{Q:aq->aH->Prop}(bp:IsTup s.heap t items)(aA:s.heap.IsSliceOf cz h_ fg .none)(pl:IsPart h_ lo)(pu:IsPart fg aP)
  (hw:¬(c8 items.size 0 lo=0/\c8 items.size items.size aP=items.size))
  (h:Q (unop%WK 0) {s with heap:=s.heap.push {cls:=.type "tuple",data:=.seq ((items.toList.drop (c8 items.size 0 lo)).take (c8 items.size items.size aP - c8 items.size 0 lo)).toArray} })
  (hsz:items.size<=cj):a_ (bG prog w) A (getItem (.ref t) (.ref cz)) Q E s:=by
 have BW:sizeOk (.seq ((items.toList.drop (c8 items.size 0 lo)).take (c8 items.size items.size aP - c8 items.size 0 lo)).toArray):=by
  show ((items.toList.drop (c8 items.size 0 lo)).take (c8 items.size items.size aP - c8 items.size 0 lo)).toArray.size<=cj
  rw[eG,List.length_take,List.length_drop,tb];omega
 have bU:c8 items.size items.size aP<=items.size:=ams _ _ (dQ _) aP;obtain⟨os,rm,BJ,yz⟩:=id aA;have HT:s.TypeIs (.ref cz) "slice":=⟨os,rm,BJ⟩;unfold getItem
 try with_reducible refine jb ?_
 first|refine aN (b2 ?_)|skip
 refine aN (wpAny_sequenceKey bp.typeIs (by decide) ?_)
 refine aN (te (name:=Str.ofString "__getitem__") bp.typeIs Dh
  (rR Dh bp.typeIs entry_tuple_getitem ?_ (args_tuple_getitem _ _)))
 show a_ _ _ (Builtin.Tuple.tupleItemsOf (.ref t) >>= _) _ _ s
 refine aN (tupleItemsOf_ bp ?_)
 refine aN (wpAny_typeOf HT ?_)
 rw[if_pos (by decide)];refine aN (Q7 aA pl pu ?_);have wu:¬((((c8 items.size 0 lo:Nat):Int)==0 && (1:Int)==1 && (c8 items.size items.size aP - c8 items.size 0 lo)==items.size)=true):=by
  intro q;rw[ic,ic] at q;have aQ:((c8 items.size 0 lo:Nat):Int)=0:=eq_of_beq q.1.1;have bu:c8 items.size items.size aP - c8 items.size 0 lo=items.size:=eq_of_beq q.2;exact hw ⟨by omega,by omega⟩
 show a_ _ _ (if (((c8 items.size 0 lo:Nat):Int)==0 && (1:Int)==1 && (c8 items.size items.size aP - c8 items.size 0 lo)==items.size)=true then _ else _) _ _ s
 rw[if_neg wu,akE]
 first
  |exact aN (m:=u' _) (rQ (b2 ⟨_,rfl,b2 h⟩) BW)
  |exact aN (m:=u' _) (rQ (aN (b2 (b2 ⟨_,rfl,b2 h⟩))) BW)
  |exact aN (aN (m:=u' _) (rQ (b2 (b2 ⟨_,rfl,b2 h⟩)) BW))
  |exact aN (aN (m:=u' _) (rQ (b2 ⟨_,rfl,b2 h⟩) BW))
end
end fF
namespace bA
open PySem PySem.Spec PyProof.Rows
abbrev cO:=St->aB->(Option Int->aB->Prop)->Prop
noncomputable def aoW(X:a3)(e:Option bx)(t:cO):Prop:=
 ∀(ao:List (ak×Obj)) (s:aH) (σ:St) (H:aB) (Q:Option Int->aB->Prop),Inv X ao σ H s->t σ H Q ->
  a_ (unop%Wk 0) X.A (evalPart e X.env) (λu s'=>∃o ag,Inv X ao σ ag s'/\IsPart u o/\Q o ag) X.dm s
noncomputable def ali:cO:=λ_ H Q=>Q none H
noncomputable def anj(t:TE):cO:=λσ H Q=>t σ H λx H1=>∃i,x=.int i/\Q (some i) H1
section
variable {X:a3}{e:bx}{hk:TE}{lo aP:Option bx}{h9 C5:cO}{pos eT:Pos}
def alz:aoW X none ali:=by
 intro ao s σ H Q I h;rw[evalPart_none];exact b2 ⟨none,H,I,.none,h⟩
def aly(h:b0 X e hk):aoW X (some e) (anj hk):=by
 intro ao s σ H Q I hw;rw[evalPart_some];refine cK (h ao s σ H _ I hw) λu s1 hqq=>?_;obtain⟨x,H1,bj,bk,aQ⟩:=hqq;obtain⟨i,rfl,q⟩:=aQ;obtain⟨t,rfl⟩:=bk;exact⟨some i,H1,bj,.int i t,q⟩
noncomputable def sm(X:a3)(r:V->Option Int->Option Int->aB->c3->Prop):Prop:=
 ∀(ao:List (ak×Obj)) (s:aH) (σ:St) (H:aB) (x:V) (v h_ fg:aq) (lo aP:Option Int) (cz:ak) (Q:c3),Inv X ao σ H s->RelV x v->s.heap.IsSliceOf cz h_ fg .none->IsPart h_ lo->IsPart fg aP->r x lo aP H Q ->
  ∃T id,typeLookup (.type T) "__getitem__"=pure (some (.builtin id))/\s.TypeIs v T/\a_ (unop%Wk 0) X.A (getItem v (.ref cz)) (g_ X ao σ Q) X.dm s
def sm.or{r cy:V->Option Int->Option Int->aB->c3->Prop}(h:sm X r)(h':sm X cy):sm X (λx lo aP H Q=>r x lo aP H Q\/cy x lo aP H Q):=by
 intro ao s σ H x v h_ fg lo aP cz Q I aW aA pl pu q;rcases q with q|q
 ·exact h ao s σ H x v h_ fg lo aP cz Q I aW aA pl pu q
 ·exact h' ao s σ H x v h_ fg lo aP cz Q I aW aA pl pu q
noncomputable def agi(r:V->Option Int->Option Int->aB->c3->Prop)(hk:TE)(h9 C5:cO):TE:=λσ H Q=>hk σ H λx H1=>h9 σ H1 λl bB=>C5 σ bB λu e6=>r x l u e6 Q
def akH{r:V->Option Int->Option Int->aB->c3->Prop}(ay:sm X r)(he:b0 X e hk)(aG:aoW X lo h9)(b8:aoW X aP C5):b0 X (.Subscript e (.Slice lo aP none eT) pos) (agi r hk h9 C5):=by
 intro ao s σ H Q I h;refine Subscript_ (cK (he ao s σ H _ I h) λv s1 hqq=>?_);obtain⟨x,H1,bj,bk,aQ⟩:=hqq;refine wpAny_Slice (cK (aG ao s1 σ H1 _ bj aQ) λh_ s2 ⟨l,bB,ct,pl,bu⟩=>cK (b8 ao s2 σ bB _ ct bu) λfg s3 hqq=>?_);obtain⟨u,e6,el,pu,df⟩:=hqq;rw[evalPart_none];refine b2 ?_;have mY:Inv X ao σ e6 {s3 with heap:=s3.heap.push {cls:=.type "slice",data:=.fields #[h_,fg,.none]} }:=el.kept (t':=s3.toks) λb dE q=>cW _ q;obtain⟨T,id,c0,bp,bq⟩:=ay ao {s3 with heap:=s3.heap.push {cls:=.type "slice",data:=.fields #[h_,fg,.none]} } σ e6 x v h_ fg l u s3.heap.objs.size Q mY bk (Heap.IsSliceOf.new ..) pl pu df;show a_ (unop%Wk 0) X.A (subscriptTail e (.Slice lo aP none eT) v (.ref s3.heap.objs.size)) (g_ X ao σ Q) X.dm {s3 with heap:=s3.heap.push {cls:=.type "slice",data:=.fields #[h_,fg,.none]} };exact tail_any (ops:=[.ref s3.heap.objs.size,v]) bp c0 bq (by with_unfolding_all rfl)
noncomputable def o5(xs:List V)(lo aP:Option Int):List V:=(xs.drop (fF.c8 xs.length 0 lo)).take (fF.c8 xs.length xs.length aP - fF.c8 xs.length 0 lo)
def Sk(xs:List V)(lo aP:Option Int):(o5 xs lo aP).length<=xs.length:=by
 unfold o5;rw[List.length_take,List.length_drop];omega
noncomputable def aeV(K:bc):V->Option Int->Option Int->aB->c3->Prop:=λx lo aP H Q=>∃a xs,x=.ref a/\dc K H a xs /\
 ¬(fF.c8 xs.length 0 lo=0/\fF.c8 xs.length xs.length aP=xs.length)/\∀p,H p=none->Q (.ref p) (upd H p (.tup (o5 xs lo aP)))
def amk:sm X (aeV X.K):=by
 intro ao s σ H x v h_ fg lo aP cz Q I aW aA pl pu h;obtain⟨a,xs,rfl,hx,hw,q⟩:=h;cases aW;obtain⟨its,r,bp,hz⟩:=I.tuple hx;have hlen:its.toArray.size=xs.length:=by rw[eG];exact r.length.symm
 refine⟨"tuple",_,PyProof.Rows.slot_tuple_getitem.lookup,bp.typeIs,?_⟩
 refine fF._g bp aA pl pu (by rw[hlen];exact hw) ?_ (by rw[hlen];exact hz)
 rw[hlen];refine⟨.ref s.heap.objs.size,_,I.laid (t':=s.toks) (o:=.tup (o5 xs lo aP)) (λb dE q=>cW _ q) (dQ _) ?_,rfl,q _ (I.bL.fresh (dQ _))⟩;exact⟨lz (Sk xs lo aP) hz,_,(r.drop (fF.c8 xs.length 0 lo)).take (fF.c8 xs.length xs.length aP - fF.c8 xs.length 0 lo),IsTup.new _ _⟩
noncomputable def anw(K:bc):gC:=λx y H Q=>∃a b xs ys,x=.ref a/\y=.ref b/\dc K H a xs/\dc K H b ys/\xs≠[]/\xs.length+ys.length<=cj /\
 (ys=[]->Q (.ref a) H)/\(ys≠[]->∀p,H p=none->Q (.ref p) (upd H p (.tup (xs++ys))))
def Vals.Cz{xs:List V}{us:List aq}(r:Vals xs us):us=[] <-> xs=[]:=by
 cases r with
|nil=>simp
|cons _ _=>simp
def alN:eQ X (nI .Add) (anw X.K):=by
 intro ao s σ H x y v u Q I aW bC h;obtain⟨a,b,xs,ys,rfl,rfl,aC,af,hx,hz,aQ,bu⟩:=h;cases aW;cases bC;obtain⟨its,bk,nk,_⟩:=I.tuple aC;obtain⟨ix,b4,eT,_⟩:=I.tuple af;refine fF.Yj nk eT (λz=>hx (bk.Cz.mp z)) (λz=>⟨.ref a,H,I,rfl,aQ (b4.Cz.mp z)⟩) (λz=>?_) (by rw[<- bk.length,<- b4.length];exact hz);refine⟨.ref s.heap.objs.size,_,I.laid (t':=s.toks) (o:=.tup (xs++ys)) (λb dE q=>cW _ q) (dQ _) ?_,rfl,bu (λw=>z (b4.Cz.mpr w)) _ (I.bL.fresh (dQ _))⟩;exact⟨by rw[l8];exact hz,_,bk.append b4,IsTup.new _ _⟩
end
end bA
namespace bA
open PySem PySem.Spec PyProof.Rows
noncomputable def sS(n:Nat)(i:Int):Option Nat:=if 0<=i then (if i<n then some i.toNat else none) else if -(n:Int)<=i then some (i+n).toNat else none
noncomputable def x8{α:Type}(xs:List α)(i:Int):Option α:=(sS xs.length i).bind λj=>xs[j]?
def al0{n:Nat}{i:Int}{j:Nat}(h:sS n i=some j):seqIndex? i n=some j/\j<n/\-(n:Int)<=i/\i<n:=by
 unfold sS at h;by_cases h0:0<=i
 ·rw[if_pos h0] at h;by_cases ah:i<n
  ·rw[if_pos ah] at h;have e:i.toNat=j:=gg h;exact⟨by rw[seqIndex_of h0 ah,e],by omega,by omega,ah⟩
  ·rw[if_neg ah] at h;cases h
 ·rw[if_neg h0] at h;by_cases ah:-(n:Int)<=i
  ·rw[if_pos ah] at h;have e:(i+n).toNat=j:=gg h;exact⟨by rw[seqIndex_neg (by omega) ah,e],by omega,ah,by omega⟩
  ·rw[if_neg ah] at h;cases h
def Nx{α:Type}{xs:List α}{i:Int}{v:α}(h:x8 xs i=some v):∃j,seqIndex? i xs.length=some j/\xs[j]?=some v/\j<xs.length/\-(xs.length:Int)<=i/\i<xs.length:=by
 unfold x8 at h;cases e:sS xs.length i with
|none=>rw[e] at h;cases h
|some j=>
  rw[e] at h;obtain⟨ah,ar,br,cF⟩:=al0 e;exact⟨j,ah,h,ar,br,cF⟩
noncomputable def UP(b:bx):Prop:=∀o i,subscripted b false o i=operate [o,i] (getItem o i)
noncomputable def qX(X:a3)(r:gC):Prop:=
 ∀(value slice:bx) (ao:List (ak×Obj)) (s:aH) (σ:St) (H:aB) (x y:V) (v u:aq) (Q:c3),Inv X ao σ H s->RelV x v->RelV y u->r x y H Q ->
  subscripted slice false v u=operate [v,u] (getItem v u)->a_ (unop%Wk 0) X.A (subscriptTail value slice v u) (g_ X ao σ Q) X.dm s
noncomputable def AS(X:a3)(id:String)(r:V->List V->aB->c3->Prop):Prop:=
 ∀(ao:List (ak×Obj)) (s:aH) (σ:St) (H:aB) (x:V) (xs:List V) (v:aq) (us:List aq) (Q:c3),Inv X ao σ H s->RelV x v->Vals xs us->r x xs H Q ->
  a_ (unop%Wk 0) X.A (call (.builtin id) (v::us)) (g_ X ao σ Q) X.dm s
section
variable {X:a3}{a b:bx}{cJ dg:TE}{pos:Pos}
def qX.or{r cy:gC}(h:qX X r)(h':qX X cy):qX X (λx y H Q=>r x y H Q\/cy x y H Q):=by
 intro value slice ao s σ H x y v u Q I aW bC q aA;rcases q with q|q
 ·exact h value slice ao s σ H x y v u Q I aW bC q aA
 ·exact h' value slice ao s σ H x y v u Q I aW bC q aA
def anG{r:gC}(ay:qX X r)(aC:b0 X a cJ)(af:b0 X b dg)(aA:UP b):b0 X (.Subscript a b pos) (apa r cJ dg):=by
 intro ao s σ H Q I h;exact Subscript_ (Gh aC af I h λv u s2 x y bB ct aW bC q=>ay a b ao s2 σ bB x y v u Q ct aW bC q (aA _ _))
noncomputable def QX(K:bc):gC:=λx y H Q=>∃p xs i v,x=.ref p/\y=.int i/\fG K H p xs/\x8 xs i=some v/\Q v H
noncomputable def QZ(K:bc):gC:=λx y H Q=>∃p xs i v,x=.ref p/\y=.int i/\dc K H p xs/\x8 xs i=some v/\Q v H
noncomputable def QY:gC:=λx y H Q=>∃z i c,x=.str z/\y=.int i/\z.length<=cj/\x8 z.cps.toList i=some c/\Q (.str ⟨#[c]⟩) H
def alZ:qX X (QX X.K):=by
 intro value slice ao s σ H x y v u Q I aW bC h aA;obtain⟨p,xs,i,z,rfl,rfl,a5,he,q⟩:=h;cases aW;obtain⟨t,rfl⟩:=bC;obtain⟨its,r,pl,hz⟩:=I.list a5;obtain⟨j,ah,ar,br,cF,gq⟩:=Nx he;obtain⟨w,o_,l2⟩:=r.get ar;have aG:=r.length;have bg:=xC;have fin:g_ X ao σ Q w s:=⟨z,H,I,l2,q⟩;by_cases h0:0<=i
 ·have bU:i.toNat=j:=by
   rw[seqIndex_of h0 gq] at ah;exact gg ah
  exact item_listR pl.isList h0 (by omega) (by rw[bU];simpa using o_) fin aA
 ·have bU:(i+(its.toArray.size:Int)).toNat=j:=by
   rw[seqIndex_neg (by omega) cF] at ah;rw[eG,<- aG];exact gg ah
  exact subscriptTail_builtinR (x:=w) pl.isList.typeIs slot_list_getitem.lookup
   (wpAny_getItem_list_neg (Q:=λr s'=>r=w/\g_ X ao σ Q r s') pl.isList (by omega) (by rw[eG] <;> omega) (by omega) (by rw[bU];simpa using o_) ⟨rfl,fin⟩) aA
def am2:qX X (QZ X.K):=by
 intro value slice ao s σ H x y v u Q I aW bC h aA;obtain⟨p,xs,i,z,rfl,rfl,a5,he,q⟩:=h;cases aW;obtain⟨t,rfl⟩:=bC;obtain⟨its,r,pl,hz⟩:=I.tuple a5;obtain⟨j,ah,ar,br,cF,gq⟩:=Nx he;obtain⟨w,o_,l2⟩:=r.get ar;have aG:=r.length;have bg:=xC;have fin:g_ X ao σ Q w s:=⟨z,H,I,l2,q⟩;exact subscriptTail_builtinR (x:=w) pl.typeIs slot_tuple_getitem.lookup
  (getItem_tuple (j:=j) (Q:=λr s'=>r=w/\g_ X ao σ Q r s') pl (by omega) (by omega) (by rw[eG,<- aG];exact ah) (by simpa using o_) ⟨rfl,fin⟩) aA
def am3:qX X QY:=by
 intro value slice ao s σ H x y v u Q I aW bC h aA;obtain⟨z,i,c,rfl,rfl,hz,he,q⟩:=h;obtain⟨t,rfl⟩:=aW;obtain⟨t',rfl⟩:=bC;obtain⟨j,ah,ar,br,cF,gq⟩:=Nx he;have aG:z.cps.toList.length=z.length:=by simp[Str.length]
 rw[aG] at ah cF gq;have bg:=xC;exact tail_any (typeIs_str s z t) slot_str_getitem.lookup (getItem_str (c:=c) (by
  have az:decide (i < -(2 ^ 63:Int))=false:=decide_eq_false (by omega);have aM:decide (i >= 2 ^ 63)=false:=decide_eq_false (by omega);rw[az,aM,Bool.or_false]) (by rw[ah];simpa using ar) ⟨.str ⟨#[c]⟩,H,I.tok _,⟨_,rfl⟩,q⟩) aA
noncomputable def aeT(K:bc):gC:=λx y H Q=>QX K x y H Q\/QZ K x y H Q\/QY x y H Q
def am4:qX X (aeT X.K):=alZ.or (am2.or am3)
def ahG(lo aP:Option Int)(n:Nat):(sliceBounds lo aP none n).1=((fF.c8 n 0 lo:Nat):Int)/\(sliceBounds lo aP none n).2.1=((fF.c8 n n aP:Nat):Int)/\(sliceBounds lo aP none n).2.2=1:=by
 refine⟨?_,?_,rfl⟩
 ·cases lo with
  |none=>simp[sliceBounds,fF.c8]
  |some i=>
   simp only[sliceBounds,fF.c8,Option.getD_none,show (1:Int) > 0 by decide,if_true];by_cases h:i<0
   ·simp only[h,if_true] <;> omega
   ·simp only[h,if_false] <;> omega
 ·cases aP with
  |none=>simp[sliceBounds,fF.c8]
  |some i=>
   simp only[sliceBounds,fF.c8,Option.getD_none,show (1:Int) > 0 by decide,if_true];by_cases h:i<0
   ·simp only[h,if_true] <;> omega
   ·simp only[h,if_false] <;> omega
def ahx(its:List aq)(lo aP:Option Int):slicePick its.toArray lo aP none=((its.drop (fF.c8 its.length 0 lo)).take (fF.c8 its.length its.length aP - fF.c8 its.length 0 lo)).toArray:=by
 obtain⟨ah,ar,br⟩:=ahG lo aP its.toArray.size;unfold slicePick;rw[ah,ar,br];simp only[sliceRange_one,pick_run,eG] <;> rfl
noncomputable def aeU(K:bc):V->Option Int->Option Int->aB->c3->Prop:=λx lo aP H Q=>∃a xs,x=.ref a/\fG K H a xs/\∀p,H p=none->Q (.ref p) (upd H p (.lst (o5 xs lo aP)))
def alk:sm X (aeU X.K):=by
 intro ao s σ H x v h_ fg lo aP cz Q I aW aA pl pu h;obtain⟨a,xs,rfl,hx,q⟩:=h;cases aW;obtain⟨its,r,bp,hz⟩:=I.list hx;have hlen:=r.length;refine⟨"list",_,slot_list_getitem.lookup,bp.isList.typeIs,?_⟩;refine wpAny_getItem_list_slice bp.isList aA pl pu .none (by simp) ?_ (by rw[eG] <;> omega);rw[ahx,<- hlen];refine⟨.ref s.heap.objs.size,_,I.laid (t':=s.toks) (o:=.lst (o5 xs lo aP)) (λb dE q=>cW _ q) (dQ _) ?_,rfl,q _ (I.bL.fresh (dQ _))⟩;exact⟨lz (Sk xs lo aP) hz,_,0,(r.drop (fF.c8 xs.length 0 lo)).take (fF.c8 xs.length xs.length aP - fF.c8 xs.length 0 lo),fR _ rfl⟩
def ah4:lI X (.builtin "len") (λxs H Q=>∃p ys,xs=[.ref p]/\(fG X.K H p ys\/dc X.K H p ys)/\Q (.int ys.length) H):=by
 intro ao s σ H xs us Q I r h;obtain⟨p,ys,rfl,a5,q⟩:=h;obtain⟨u,rfl,aW⟩:=ao5 r;cases aW;have bg:=xC;rcases a5 with a5|a5
 ·obtain⟨its,cy,pl,hz⟩:=I.list a5;have hlen:=cy.length;exact Calls.call_len_list pl.isList (by simp only[eG] <;> omega) ⟨.int ys.length,H,I.tok _,⟨s.toks+1,by rw[eG,hlen]⟩,q⟩
 ·obtain⟨its,cy,pl,hz⟩:=I.tuple a5;have hlen:=cy.length;exact len_tuple pl (by simp only[eG] <;> omega) ⟨.int ys.length,H,I.tok _,⟨s.toks+1,by rw[eG,hlen]⟩,q⟩
def ah3:lI X (.builtin "len") (λxs H Q=>∃z,xs=[.str z]/\z.length<=cj/\Q (.int z.length) H):=by
 intro ao s σ H xs us Q I r h;obtain⟨z,rfl,hz,q⟩:=h;obtain⟨u,rfl,t,rfl⟩:=ao5 r;have bg:=xC;exact len_str (by omega) ⟨.int z.length,H,I.tok _,⟨_,rfl⟩,q⟩
def lI.or{f:aq}{r cy:List V->aB->c3->Prop}(h:lI X f r)(h':lI X f cy):lI X f (λxs H Q=>r xs H Q\/cy xs H Q):=by
 intro ao s σ H xs us Q I rs q;rcases q with q|q
 ·exact h ao s σ H xs us Q I rs q
 ·exact h' ao s σ H xs us Q I rs q
def ah2:lI X (.type "list") (λxs H Q=>∃p ys,xs=[.ref p]/\(fG X.K H p ys\/dc X.K H p ys)/\∀l,H l=none->Q (.ref l) (upd H l (.lst ys))):=by
 intro ao s σ H xs us Q I r h;obtain⟨p,ys,rfl,a5,q⟩:=h;obtain⟨u,rfl,aW⟩:=ao5 r;cases aW;have fin:∀(its:List aq),Vals ys its->ys.length<=cj->∀(h':bM) (bX:Nat),(∀b o',s.heap.get? b=some o'->h'.get? b=some o') ->
   h'.get? s.heap.objs.size=some {cls:=.type "list",dict:=none,data:=.seq its.toArray bX,slots:=#[]}->g_ X ao σ Q (unop%WK 0) {s with heap:=h'}:=λits cy hz h' bX aF e=>
  ⟨.ref s.heap.objs.size,_,I.laid (t':=s.toks) aF (dQ _) (show hZ X.prog X.w _ h' _ (.lst ys) from ⟨hz,its,bX,cy,e⟩),rfl,q _ (I.bL.fresh (dQ _))⟩
 rcases a5 with a5|a5
 ·obtain⟨its,cy,pl,hz⟩:=I.list a5;have hlen:=cy.length;obtain⟨o,aJ,aw,n,hd⟩:=pl.isList;exact call_list_seq p (.inl rfl) aJ aw hd (λh' bX aF e=>fin its cy hz h' bX aF e) (by simp only[eG] <;> omega)
 ·obtain⟨its,cy,pl,hz⟩:=I.tuple a5;have hlen:=cy.length;obtain⟨o,aJ,aw,n,hd⟩:=pl;exact call_list_seq p (.inr rfl) aJ aw hd (λh' bX aF e=>fin its cy hz h' bX aF e) (by simp only[eG] <;> omega)
def ahC:lI X (.type "tuple") (λxs H Q=>∃p ys,xs=[.ref p]/\((fG X.K H p ys/\∀l,H l=none->Q (.ref l) (upd H l (.tup ys)))\/(dc X.K H p ys/\Q (.ref p) H))):=by
 intro ao s σ H xs us Q I r h;obtain⟨p,ys,rfl,h⟩:=h;obtain⟨u,rfl,aW⟩:=ao5 r;cases aW;rcases h with ⟨a5,q⟩|⟨a5,q⟩
 ·obtain⟨its,cy,pl,hz⟩:=I.list a5;have hlen:=cy.length;refine call_tuple_list pl.isList (λh' aF=>?_) (by simp only[eG] <;> omega);have bj:Inv X ao σ H {s with heap:=h'}:=I.kept (t':=s.toks) aF;have ct:Inv X ao σ (upd H h'.objs.size (.tup ys)) {s with heap:=h'.push {cls:=.type "tuple",data:=.seq its.toArray} }:=
   bj.laid (t':=s.toks) (λb o e=>cW _ e) (dQ _) (show hZ X.prog X.w _ _ _ (.tup ys) from ⟨hz,its,cy,IsTup.new _ _⟩)
  exact⟨.ref h'.objs.size,_,ct,rfl,q _ (bj.bL.fresh (dQ _))⟩
 ·obtain⟨its,cy,pl,hz⟩:=I.tuple a5;exact call_tuple_same pl ⟨.ref p,H,I,rfl,q⟩
noncomputable def LB(K:bc)(T:String)(x:V)(H:aB):Prop:=match x with
|.str _=>T="str"
|.int _=>T="int"
|.ref p=>(T="list"/\∃xs,fG K H p xs)\/(T="tuple"/\∃o,K.lookup p=some o/\o.cls=.type "tuple"/\o.dict=none) \/
   (T="dict"/\((∃kvs,H p=some (.fy kvs))\/∃kvs,H p=some (.n2 kvs)))\/(T="set"/\∃S n,H p=some (.set S n))
|_=>False
def UX{ao:List (ak×Obj)}{σ:St}{H:aB}{s:aH}{T:String}{x:V}{v:aq}(I:Inv X ao σ H s)(r:RelV x v)(ty:LB X.K T x H):
  s.TypeIs v T/\∀a,v=.ref a->∃dE,s.heap.get? a=some dE/\dE.dict=none:=by
 cases x with
|str z=>
  obtain⟨t,rfl⟩:=r;cases (show T="str" from ty);exact⟨typeIs_str s z t,λ_ e=>nomatch e⟩
|int i=>
  obtain⟨t,rfl⟩:=r;cases (show T="int" from ty);exact⟨typeIs_int s i t,λ_ e=>nomatch e⟩
|ref p=>
  cases r
  rcases ty with ⟨rfl,xs,a5⟩|⟨rfl,o,aI,aw,hd⟩|⟨rfl,aI⟩|⟨rfl,S,n,aI⟩
  ·obtain⟨its,_,pl,_⟩:=I.list a5;refine⟨pl.isList.typeIs,λa e=>?_⟩;cases e;obtain⟨o,n,e,c,hd,_⟩:=pl;exact⟨o,e,hd⟩
  ·refine⟨⟨o,I.j9 p o aI,aw⟩,λa e=>?_⟩
   cases e
   exact⟨o,I.j9 _ o aI,hd⟩
  ·have z:∃o,s.heap.get? p=some o/\o.ExactDict:=by
    rcases aI with ⟨kvs,aI⟩|⟨kvs,aI⟩
    ·obtain⟨_,_,_,_,o,_,_,e,ex,_⟩:=I.bL p _ aI;exact⟨o,e,ex⟩
    ·obtain⟨_,_,_,_,o,_,_,e,ex,_⟩:=I.bL p _ aI;exact⟨o,e,ex⟩
   obtain⟨o,e,ex⟩:=z;refine⟨⟨o,e,ex.1⟩,λa aM=>?_⟩;cases aM;exact⟨o,e,ex.2.1⟩
  ·obtain⟨o,_,_,_,e,ex,_⟩:=I.bL p _ aI;refine⟨⟨o,e,ex.1⟩,λa aM=>?_⟩;cases aM;exact⟨o,e,ex.2.1⟩
|_=>exact d8 ty
noncomputable def af'(K:bc)(T:String)(r:V->List V->aB->c3->Prop)(to:TE):TE:=λσ H Q=>to σ H λx H1=>LB K T x H1/\r x [] H1 Q
noncomputable def Ln(K:bc)(T:String)(r:V->List V->aB->c3->Prop)(to:TE)(t:gk):TE:=λσ H Q=>to σ H λx H1=>LB K T x H1/\t σ H1 λxs bB=>r x xs bB Q
variable {o e:bx}{es:List bx}{to:TE}{t:gk}{name:Str}{apos d6:Pos}{T id:String}{r:V->List V->aB->c3->Prop}
def amM(KX:PlainAttrs T)(slot:Slot T name id)(Iv:typeOf (.builtin id)=pure (.type "method_descriptor"))(hm:AS X id r)(aJ:b0 X o to)
  (nd:ki o name X.env (eval o X.env)=eval o X.env:=by rfl) (nf:(apos.endLine==d6.line)=true:=by rfl):b0 X (.Call (.Attribute o name apos) [] [] d6) (af' X.K T r to):=by
 intro ao s σ H Q I h;refine wpAny_Call_method0_late nd nf (cK (aJ ao s σ H _ I h) λv s1 hqq=>?_);obtain⟨x,H1,bj,bk,ty,aQ⟩:=hqq;obtain⟨ah,ar⟩:=UX bj bk ty;exact⟨T,id,KX,slot,Iv,ah,ar,Calls.callWith_builtin rfl (PySem.evalArgs_none (hm ao s1 σ H1 x [] v [] Q bj bk .nil aQ))⟩
def xJ(KX:PlainAttrs T)(slot:Slot T name id)(Iv:typeOf (.builtin id)=pure (.type "method_descriptor"))(hm:AS X id r)(aJ:b0 X o to)(aC:gj X (e::es) t)
  (nd:ki o name X.env (eval o X.env)=eval o X.env:=by rfl)
  (rj:((c' d6 (bl (e::es) X.env)).all (λx=>!x.1) && (fT d6 (fS [] X.env)).all (λx=>x.1.isSome)
   && decide ((e::es).length+([]:List Keyword).length+(if ([]:List Keyword).isEmpty then 0 else 1)<30))=true:=by rfl)
  (nf:(apos.endLine==d6.line)=true:=by rfl) (aA:bl (e::es) X.env=(false,eval e X.env)::bl es X.env:=by rfl) (ro:(c' d6 (bl es X.env)).any (·.1)=false:=by rfl):
  b0 X (.Call (.Attribute o name apos) (e::es) [] d6) (Ln X.K T r to t):=by
 intro ao s σ H Q I h;refine wpAny_Call_method_late nd rj nf rfl (cK (aJ ao s σ H _ I h) λv s1 hqq=>?_);obtain⟨x,H1,bj,bk,ty,aQ⟩:=hqq;obtain⟨ah,ar⟩:=UX bj bk ty;refine⟨T,id,KX,slot,Iv,ah,ar,?_⟩;have sI:=aC d6 ao s1 σ H1 _ bj aQ;rw[aA] at sI ⊢;refine Calls.callWith_builtin (by show (false || (c' d6 (bl es X.env)).any (·.1))=false;rw[ro] <;> rfl) (Calls.evalArgs_plain ?_);exact cK sI λus s2 ⟨vs,bB,ct,b4,bu⟩=>hm ao s2 σ bB x vs v us Q ct bk b4 bu
end
end bA
namespace bA
open PySem PySem.Spec PyProof.Rows
noncomputable def xX(X:a3)(id:String)(r:V->List V->aB->c3->Prop):Prop:=
 ∀(ao:List (ak×Obj)) (s:aH) (σ:St) (H:aB) (x:V) (xs:List V) (v:aq) (us:List aq) (Q:c3),Inv X ao σ H s->RelV x v->Vals xs us->r x xs H Q ->
  a_ (unop%Wk 0) X.A (call (.builtin id) (v::us)) (g_ X ao σ Q) X.dm s
def Vals.one:∀{x:V} {us:List aq},Vals [x] us->∃u,us=[u]/\RelV x u
|_,_,.cons r .nil=>⟨_,rfl,r⟩
def Vals.two:∀{x y:V} {us:List aq},Vals [x,y] us->∃u v,us=[u,v]/\RelV x u/\RelV y v
|_,_,_,.cons r (.cons q .nil)=>⟨_,_,rfl,r,q⟩
theorem Vals.eraseIdx:∀{xs:List V} {us:List aq} (i:Nat),Vals xs us->Vals (xs.eraseIdx i) (us.eraseIdx i)
|_,_,_,.nil=>.nil
|_,_,0,.cons _ t=>t
|_,_,i+1,.cons r t=>.cons r (Vals.eraseIdx i t)
theorem Vals.rep{xs:List V}{us:List aq}(h:Vals xs us):∀k:Nat,Vals (dZ k xs).flatten (dZ k us).flatten
|0=>.nil
|k+1=>by
  rw[va,va,wW,wW];exact Vals.append h (Vals.rep h k)
theorem S6{α:Type}:∀(l:List α) (i:Nat),(l.eraseIdx i).length<=l.length
| [],_=>dQ _
|_::_,0=>rO _
|_::r,i+1=>Nat.succ_le_succ (S6 r i)
theorem Ei(its:List aq):∀(k:Nat) (acc:List aq),
  List.foldl (λaU bP=>aU++bP) acc.toArray (dZ k its.toArray)=(acc++(dZ k its).flatten).toArray
|0,acc=>by simp
|k+1,acc=>by
  have e:acc.toArray++its.toArray=(acc++its).toArray:=by simp
  have aM:(acc++its)++(dZ k its).flatten=acc++(dZ (k+1) its).flatten:=by
   rw[va,wW,List.append_assoc]
  rw[<- aM,<- Ei its k (acc++its),<- e,va,List.foldl_cons]
section
variable {X:a3}{ao:List (ak×Obj)}{σ:St}{H:aB}{s:aH}{l b:ak}{xs ys zs:List V}
def Inv.Ct{its its':List aq}{n:Nat}{f:Array aq->Array aq}{t':Nat}(I:Inv X ao σ H s)(eK:H l=some (.lst xs))
  (e:s.heap.get? l=some {cls:=.type "list",data:=.seq its.toArray n}) (hf:f its.toArray=its'.toArray) (bh:Vals ys its') (hz:ys.length<=cj):
  Inv X ao σ (upd H l (.lst ys)) {s with heap:=s.heap.update l (Obj.mapSeq f),toks:=t'}:=by
 have q:=PySem.IsL.update e f;rw[hf] at q;refine I.write (x:=l) (e:=l) (by rw[eK];exact trivial) (.inl rfl) (λjE u af b8=>(rU s.heap (Obj.mapSeq f) (Ne.symm af)).trans b8) ⟨_,q⟩ ?_;exact⟨hz,its',_,bh,q⟩
def Inv.y1{its:List aq}{t':Nat}(I:Inv X ao σ H s)(bh:Vals ys its)(hz:ys.length<=cj):
  Inv X ao σ (upd H s.heap.objs.size (.lst ys)) {s with heap:=s.heap.push {cls:=.type "list",data:=.seq its.toArray},toks:=t'}:=
 I.laid (λ_ _ q=>cW _ q) (dQ _) ⟨hz,its,0,bh,fR _ rfl⟩
theorem Inv.fresh(I:Inv X ao σ H s):H s.heap.objs.size=none:=I.bL.fresh (dQ _)
def Inv.Cu(I:Inv X ao σ H s)(eK:H l=some (.lst xs)):xs.length<=cj/\∃(its:List aq) (n:Nat),Vals xs its/\xs.length=its.length/\s.heap.get? l=some {cls:=.type "list",data:=.seq its.toArray n}:=by
 obtain⟨z,its,n,r,e⟩:=I.bL l _ eK;exact⟨z,its,n,r,r.length,e⟩
def MZ{n:Nat}(h:n<=cj):Builtin.List.listTooLong n=false:=by
 unfold Builtin.List.listTooLong;exact decide_eq_false (by omega)
end
section
variable {X:a3}
noncomputable def alu:V->List V->aB->c3->Prop:=λx vs H Q=>∃l xs y,x=.ref l/\vs=[y]/\H l=some (.lst xs)/\xs.length<cj/\Q .dT (upd H l (.lst (xs++[y])))
def S5:xX X "list.append" alu:=by
 intro ao s σ H x vs v us Q I aW bW h;obtain⟨l,xs,y,rfl,rfl,eK,hz,q⟩:=h;cases aW;obtain⟨u,rfl,c1⟩:=bW.one;obtain⟨z,its,n,r,aG,e⟩:=I.Cu eK;refine pO F.slot_list_append ⟨_,e,rfl⟩ F.entry_list_append (F.args_list_append_2 _ _) (PySem.list_append l its.toArray n u (by rw[eG];omega)) ⟨e,?_⟩;refine⟨.dT,_,I.Ct (its':=its++[u]) eK e (by simp) (r.append (.cons c1 .nil)) ?_,rfl,q⟩;rw[l8,List.length_singleton];omega
def Np{α:Type}(xs:List α)(k:Nat):(dZ k xs).flatten.length=k*xs.length:=by
 induction k with
|zero=>simp
|succ k bT=>rw[va,wW,l8,bT,Nat.succ_mul,Nat.add_comm]
end
end bA
namespace N9
open PySem PySem.W PySem.Calls PyProof.Rows
def ahj{P:Params}{h:bM}:∀(ns:List Int) (vs:List aq),WellAll P h vs (ns.map WData.int)->IntsAre vs ns:=by
 intro ns
 induction ns with
|nil=>
  intro vs w;rw[ib] at w;cases w;exact .nil
|cons n ns bT=>
  intro vs w;rw[de] at w;cases w with
  |cons a b=>
   cases a
   exact .cons _ _ (bT _ b)
def ajw{l:OpenLaw}{n:Nat}(bg:l.most=some n){P:Params}{h:bM}{args:List WData}{vals:List aq}
    (BR:l.row.toRowW.claim.pre args=true) (Iy:WellAll P h vals args):
    ∃a vs ns,vals=[Value.ref a]/\args=[WData.list (ns.map WData.int)]/\h.get? a=some {cls:=.type "list",data:=.seq vs.toArray}/\IntsAre vs ns/\ns.length<=n:=by
  have aaB:WShape.hasAll [] args [.list .int]=true:=(pre_splitW BR).1;have aw:l.pre.holds [] {args:=args}=true:=(pre_splitW BR).2;obtain⟨d,r,rfl,ah,ar⟩:=hasAllW_cons aaB;obtain rfl:=hasAllW_nil ar;obtain⟨xs,rfl,br⟩:=hasW_list ah;obtain⟨ns,rfl⟩:=items_int br;have hlen:ns.length<=n:=by
    unfold OpenLaw.pre at aw;have cF:(WTm.not (.lt (.lit (.int (n:Int))) (.len (.arg 0)))).holds [] {args:=[.list (ns.map .int)]}=true:=by
      have cF:=(holds_andW aw).1;rw[bg] at cF;exact cF
    have gq:=condW_of cF (w_not (w_lt w_lit (w_len_list (w_arg rfl))));rw[fh] at gq;refine Nat.le_of_not_lt λq=>?_;have eU:(n:Int)<((ns.length:Nat):Int):=by omega
    first
      | (rw[decide_eq_true eU] at gq;exact absurd gq (by decide))
      | (simp at gq;omega)
  cases Iy with
  |cons oB oC=>
    cases oC
    cases oB with
    |list aJ _z=>exact⟨_,_,ns,rfl,rfl,aJ,ahj ns _ _z,hlen⟩
def ajF(l:OpenLaw)(args:List WData):l.row.toRowW.claim.post args (.bool true) args=true:=
 postW_of (r:=l.row.toRowW) (X:=(true==true))
  (show WShape.has [] (.bool true) .bool=true by first|rfl|decide|simp[WShape.has,WShape.arms,WShape.armsAll])
  (show (WTm.eq .res (.lit (.bool true))).value [] {args:=args,res:=some (.bool true),after:=args}=some (.bool (true==true)) from w_eq_bool (w_res rfl) w_lit) rfl
def Yg{l:OpenLaw}{n:Nat}{q:cA}{loose:List Str}{vY:(Str->Option aq)->bM->Prop}{p5:b_->bM->Prop}{d:DefRec}
  (bg:l.most=some n) (yy:d.params.defaults=[])
  (call:∀(w:b_) (dq c6:aH) (mg mv:Str->Option aq) (cp:ak) (o:Obj) (pm cd doc:aq) (a:ak) (vs:List aq) (ns:List Int),
   Ground q loose [] vY w dq mg mv c6.heap->p5 w c6.heap ->
   c6.heap.get? cp=some o->o.data=.func (docDef d.name d.params d.body d.scope pm cd doc)->c6.heap.CodeRec cd d.name->mg d.name=some (.ref cp) ->
   c6.heap.get? a=some {cls:=.type "list",data:=.seq vs.toArray}->IntsAre vs ns->ns.length<=n->c6.gens=#[] ->
   hT (bG l.prog w) callerA (.call (.ref cp) ⟨[.ref a],[]⟩) (λr s'=>r=.ok (.ret (.bool true))/\OldK c6.heap s'.heap/\s'.os=c6.os/\AllBare s'.gens) c6):
  WalkO q loose vY p5 l.row.toRowW d [] (λf vs=>PySem.call f vs):=by
 intro w dq c6 mg mv G Y cp o pm cd doc A8 dI aJ hd eg lU yG bq args vals as BR aoe aor Iy ob;obtain rfl:A8=.none:=Dflts.none lU yy;obtain rfl:dI=.none:=Dflts.noKw lU;obtain⟨a,vs,ns,rfl,rfl,Ij,hints,hlen⟩:=ajw bg BR Iy;refine enter_call (nH (call w dq c6 mg mv cp o pm cd doc a vs ns G Y aJ (fd_plain hd) eg yG Ij hints hlen bq) λr s' a5=>?_);obtain⟨rfl,ar,br,cF⟩:=a5;exact⟨.inl ⟨.bool true,.bool true,[],rfl,λ_=>rfl,.bool true,ajF l _,λ_=>⟨List.Pairwise.nil,λ_ hm=>(nomatch hm)⟩⟩,ar,br,cF⟩
end N9
namespace bA
open PySem PySem.Spec PyProof.Rows
theorem SQ:∀{vs:List aq} {ns:List Int},IntsAre vs ns->Vals (ns.map V.int) vs
|_,_,.nil=>.nil
|_,_,.cons n t h=>.cons ⟨t,rfl⟩ (SQ h)
end bA
namespace bA
open PySem PySem.Spec PyProof.Rows
end bA
namespace bA
open PySem PySem.Spec PyProof.Rows
noncomputable def hV(s:Stmt)(j:Nat):Stmt:=match s with
|.ClassDef _ _ _ body _ _ _ _ _ _ _=>body.getD j (.Pass ⟨0,0,0,0⟩)
|_=>.Pass ⟨0,0,0,0⟩
noncomputable def mK(s:Stmt):Arguments:=match s with
|.FunctionDef _ a _ _ _ _ _ _ _ _=>a
|_=>{posonlyargs:=[],args:=[],vararg:=none,kwonlyargs:=[],kw_defaults:=[],kwarg:=none,defaults:=[]}
noncomputable def fv(s:Stmt):List Stmt:=match s with
|.FunctionDef _ _ b _ _ _ _ _ _ _=>b
|_=>[]
noncomputable def bR(s:Stmt):Scope:=match s with
|.FunctionDef _ _ _ _ _ _ sc _ _ _=>sc
|_=>{kind:=.function,names:=[],isGenerator:=false,isCoroutine:=false}
abbrev dH:mU:=λ_ _ _ _ _ _=>False
abbrev ku:fb:=λ_ _ _=>False
def vO{X:a3}:tF dH X ku:=λ_ _ _ _ _ _ _ h=>h.elim
structure cL(K:bc)(x qual:Str)(st:Stmt)(f:ak)(fd:eo):Prop where
 ex:∃(g0:aq) (eh:Option ak) (dI doc pm:aq) (an:Option ak) (b1 cQ:aq) (ka:Array (Option aq)),
  fd=lx x qual (mK st) (fv st) (bR st) .none dI doc pm an b1 cQ/\K.lookup f=some ⟨g0,eh,.func fd,ka⟩/\qA K b1 qual=true
 aF:nx K (.ref f)=true
section
variable {P:cA}{w:b_}{K:bc}{mg:Str->Option aq}{base:bM}
def cL.ok{x qual:Str}{st:Stmt}{f:ak}{fd:eo}{N ps:List Str}{k:Nat}{sp:kU}(F:cL K x qual st f fd)(S:cZ N ps (bR st))(len:∀vs H Q E,sp vs H Q E->vs.length=ps.length)
  (rg:∀(b1:aq) (A:cw) (outer:List Env) (s:aH) (H:aB) (vs:List V) (Q:c3) (E:fb),da k (unop%W5 0)->sp vs H Q E ->
   ∃t,fY (unop%W3 0).d_ (fv st) t/\t {bI:=λ_ ag=>Q .dT ag,dn:=Q} (start N vs) H):e5 P w K mg base dH (k+1) f fd ps sp:=by
 obtain⟨g0,eh,dI,doc,pm,an,b1,cQ,ka,rfl,lk,eg⟩:=F.ex;refine N3 lk eg S len λA outer s H vs Q E ay sQ=>?_;obtain⟨t,h,q⟩:=rg b1 A outer s H vs Q E ay sQ;exact⟨t,h.d_,q⟩
def cL.binds{x qual:Str}{st:Stmt}{f:ak}{fd:eo}{ps:List Str}(F:cL K x qual st f fd)
  (h:∀(dI doc pm:aq) (an:Option ak) (b1 cQ:aq) (us:List aq),us.length=ps.length->bindArgs (unop%Ww 0) ⟨us,[]⟩=pure (ps.zip us)):gh K fd ps []:=by
 obtain⟨g0,eh,dI,doc,pm,an,b1,cQ,ka,rfl,lk,eg⟩:=F.ex;exact .all (h dI doc pm an b1 cQ)
def dG{x qual:Str}{st:Stmt}{f:ak}{g0:aq}{eh an:Option ak}{ka:Array (Option aq)}{dI doc pm b1 cQ:aq}(l:K.lookup f=some ⟨g0,eh,.func (unop%Ww 0),ka⟩)
  (c:qA K b1 qual=true) (k:nx K (.ref f)=true):cL K x qual st f (unop%Ww 0):=⟨⟨g0,eh,dI,doc,pm,an,b1,cQ,ka,rfl,l,c⟩,k⟩
end
def AG{A:cw}{k:Nat}(ay:da k A):A.units+1<cLine:=Nat.lt_of_le_of_lt (Nat.add_le_add_left (by decide:1<=64) _) ay.units
section
variable {X:a3}
def bE(i:Nat){x:Str}{pos:Pos}(dz:X.N[i]?=some x:=by rfl)(bh:oX X.env.scope x:=by first|exact Or.inl rfl|exact Or.inr (Or.inl rfl)|exact Or.inr (Or.inr rfl))(hd:(x==("__debug__":Str))=false:=by decide)
  (eg:(x==("__classdict__":Str))=false:=by decide):b0 X (.Name x pos) (g4 i):=amK dz bh hd eg
end
def yR{A B:Prop}(h:B):if false=true then A else B:=by
 rw[if_neg mG];exact h
def uO{A B:Prop}(h:A):if true=true then A else B:=by
 rw[if_pos rfl];exact h
noncomputable def Xh(H ag:aB):Prop:=∀b o,H b=some o->ag b=some o
end bA
end
section
namespace D
open PySem
abbrev T:=PyData
noncomputable def ez(a:T):Bool:=a.canLay0 && decide (a.depth<=60)
noncomputable def qp(as:List T):Bool:=jV as && decide (ja as<=60)
abbrev Key:=Sum Int Str
inductive jz where
|hC|own|d9
 deriving DecidableEq
inductive aO where
|aa (t:T)|own (ts:List T)|h4 (kvs:List (Key×T))|obj (m:jz) (c:Nat) (aE:List aO)
abbrev Ev:=List (Option aO)
inductive Out where
|bI (ai:Ev)|dn (t:T)|gR (ai:Ev)|cQ (ai:Ev)|l0 (t:T) (ai:Ev)|mz (s:aO)
abbrev bZ:=Ev->Option T
abbrev fX:=Ev->Option Bool
abbrev bJ:=Ev->Option Out
abbrev mX:=Ev->Option (List T)
abbrev jf:=T->Ev->Option Ev
noncomputable def big:Nat:=16777216
noncomputable def bV:T->T->Option T
|.int i,.int j=>some (.int (i+j))
|.str x,.str y=>if x.length+y.length<=big then some (.str (x++y)) else none
|.tuple xs,.tuple ys=>if xs.length+ys.length<=big then some (.tuple (xs++ys)) else none
|.list xs,.list ys=>if xs.length+ys.length<=big then some (.list (xs++ys)) else none
|_,_=>none
noncomputable def aoR:T->T->Option T
|.int i,.int j=>some (.int (i - j))
|_,_=>none
noncomputable def xN(i j:Int):Bool:=(decide (-(2 ^ 64)<i) && decide (i<2 ^ 64)) || (decide (-(2 ^ 64)<j) && decide (j<2 ^ 64))
noncomputable def dU:T->T->Option T
|.int i,.int j=>if xN i j then some (.int (i*j)) else none
|_,_=>none
noncomputable def oDiv:T->T->Option T
|.int i,.int j=>if 0<j/\j<1073741824 then some (.int (i / j)) else none
|_,_=>none
noncomputable def oMod:T->T->Option T
|.int i,.int j=>if 0<j then some (.int (i % j)) else none
|_,_=>none
noncomputable def iB:T->Option T
|.int i=>some (.int (-i))
|_=>none
noncomputable def fm(n:Nat)(i:Int):Option Nat:=if 0<=i then (if i<n then some i.toNat else none) else if -(n:Int)<=i then some (i+n).toNat else none
noncomputable def eI{α:Type}(xs:List α)(i:Int):Option α:=(fm xs.length i).bind λj=>xs[j]?
noncomputable def aT:T->T->Option T
|.tuple xs,.int i=>eI xs i
|.list xs,.int i=>eI xs i
|.str x,.int i=>if x.length<=big then (eI x.cps.toList i).map λc=>.str ⟨#[c]⟩ else none
|_,_=>none
noncomputable def oEq(a b:T):Option T:=if ez a && ez b then some (.bool (gf a b)) else none
noncomputable def i4(a b:T):Option T:=if ez a && ez b then some (.bool (!PyData.eqv a b)) else none
noncomputable def fP(a:T):Option T:=some (.bool (match a with|.none=>true|_=>false))
noncomputable def fW(a:T):Option T:=some (.bool (match a with|.none=>false|_=>true))
noncomputable def ih(x y:Str):Bool:=decide (x.cps.toList<y.cps.toList)
noncomputable def oLt:T->T->Option T
|.int i,.int j=>some (.bool (decide (i<j)))
|.str x,.str y=>some (.bool (ih x y))
|_,_=>none
noncomputable def oLe:T->T->Option T
|.int i,.int j=>some (.bool (decide (i<=j)))
|.str x,.str y=>some (.bool (!ih y x))
|_,_=>none
noncomputable def iz:T->T->Option T
|.int i,.int j=>some (.bool (decide (j<i)))
|.str x,.str y=>some (.bool (ih y x))
|_,_=>none
noncomputable def sU:T->T->Option T
|.int i,.int j=>some (.bool (decide (j<=i)))
|.str x,.str y=>some (.bool (!ih x y))
|_,_=>none
noncomputable def lW(x:T)(ts:List T):Bool:=ts.any λy=>gf y x
noncomputable def eS(neg:Bool):T->T->Option T
|x,.tuple ys=>if ez x && qp ys then some (.bool (if neg then !lW x ys else lW x ys)) else none
|x,.list ys=>if ez x && qp ys then some (.bool (if neg then !lW x ys else lW x ys)) else none
|_,_=>none
noncomputable def iA:List T->Option T
| [.tuple xs]=>some (.int xs.length)
| [.list xs]=>some (.int xs.length)
| [.str x]=>if x.length<=big then some (.int x.length) else none
|_=>none
noncomputable def pw:List T->Option T
| [.int i,.int j]=>some (.int (if j<i then j else i))
|_=>none
noncomputable def om:List T->Option T
| [.int i,.int j]=>some (.int (if j > i then j else i))
|_=>none
noncomputable def gA:List T->Option T
| [.tuple xs]=>some (.tuple xs)
| [.list xs]=>some (.tuple xs)
|_=>none
noncomputable def E0:List T->Option T
| [.tuple xs]=>some (.list xs)
| [.list xs]=>some (.list xs)
|_=>none
noncomputable def ry:List T->Option T
| [.int i]=>some (.int i)
| [.bool b]=>some (.int (if b then 1 else 0))
|_=>none
noncomputable def c8(n d:Nat):Option Int->Nat
|none=>d
|some v=>(if v<0 then max (v+n) 0 else min v n).toNat
noncomputable def uh{α:Type}(xs:List α)(lo aP:Option Int):List α:=(xs.drop (c8 xs.length 0 lo)).take (c8 xs.length xs.length aP - c8 xs.length 0 lo)
noncomputable def CC(t:T)(lo aP:Option Int):Option T:=match t with
|.tuple xs=>some (.tuple (uh xs lo aP))
|.list xs=>some (.list (uh xs lo aP))
|_=>none
noncomputable def vJ:List T->Option (List Str)
| []=>some []
|.str x::ts=>(vJ ts).map λr=>x::r
|_::_=>none
noncomputable def insI(x:Int):List Int->List Int
| []=>[x]
|y::ys=>if x<=y then x::y::ys else y::insI x ys
noncomputable def ao6:List Int->List Int
| []=>[]
|x::xs=>insI x (ao6 xs)
noncomputable def uN(x:Str):List Str->List Str
| []=>[x]
|y::ys=>if !ih y x then x::y::ys else y::uN x ys
noncomputable def lG:List Str->List Str
| []=>[]
|x::xs=>uN x (lG xs)
noncomputable def iL:T->Option Key
|.int i=>some (.inl i)
|.str x=>some (.inr x)
|_=>none
noncomputable def putD(kvs:List (Key×T))(k:Key)(v:T):List (Key×T):=if kvs.any (λp=>decide (p.1=k)) then kvs.map λp=>if p.1=k then (k,v) else p else kvs++[(k,v)]
noncomputable def getD(kvs:List (Key×T))(k:Key):Option T:=(kvs.find? λp=>decide (p.1=k)).map (·.2)
noncomputable def mr:Key->T
|.inl i=>.int i
|.inr x=>.str x
noncomputable def ae(t:T):bZ:=λ_=>some t
noncomputable def nm(i:Nat):bZ:=λai=>match ai[i]? with
|some (some (.aa t))=>some t
|some (some (.own ts))=>some (.list ts)
|_=>none
noncomputable def au(i:Nat):bZ:=λai=>match ai[i]? with
|some (some (.aa t))=>some t
|_=>none
noncomputable def cU(o:T->Option T)(f:bZ):bZ:=λai=>(f ai).bind o
noncomputable def aj(o:T->T->Option T)(f g:bZ):bZ:=λai=>(f ai).bind λx=>(g ai).bind λy=>o x y
noncomputable def args:List bZ->Ev->Option (List T)
| [],_=>some []
|f::aE,ai=>(f ai).bind λt=>(args aE ai).map λts=>t::ts
noncomputable def aX(o:List T->Option T)(aE:List bZ):bZ:=λai=>(args aE ai).bind o
noncomputable def a0(aE:List bZ):bZ:=λai=>(args aE ai).bind λts=>if ts.length<=big then some (.tuple ts) else none
noncomputable def fa(aE:List bZ):bZ:=λai=>(args aE ai).bind λts=>if ts.length<=big then some (.list ts) else none
noncomputable def opt(f:bZ):Ev->Option (Option Int):=λai=>(f ai).bind λt=>match t with|.int i=>some (some i)|_=>none
noncomputable def optN:Ev->Option (Option Int):=λ_=>some none
noncomputable def slice(f:bZ)(lo aP:Ev->Option (Option Int)):bZ:=λai=>(f ai).bind λt=>(lo ai).bind λl=>(aP ai).bind λh=>CC t l h
noncomputable def su(f g:bZ):bZ:=λai=>(f ai).bind λt=>match t with|.bool true=>g ai|.bool false=>some (.bool false)|_=>none
noncomputable def y'(f g:bZ):bZ:=λai=>(f ai).bind λt=>match t with|.bool false=>g ai|.bool true=>some (.bool true)|_=>none
noncomputable def anT(o p:T->T->Option T)(f g h:bZ):bZ:=λai=>(f ai).bind λx=>(g ai).bind λy=>(o x y).bind λr=>match r with
|.bool true=>(h ai).bind λz=>p y z
|.bool false=>some (.bool false)
|_=>none
noncomputable def bt(f:bZ):fX:=λai=>(f ai).bind λt=>match t with|.bool b=>some b|_=>none
noncomputable def g5(f:bZ):fX:=λai=>(f ai).bind λt=>match t with|.list ts=>some (!ts.isEmpty)|.tuple ts=>some (!ts.isEmpty)|_=>none
noncomputable def e0(f g:fX):fX:=λai=>(f ai).bind λb=>if b then g ai else some false
noncomputable def fD(f g:fX):fX:=λai=>(f ai).bind λb=>if b then some true else g ai
noncomputable def gZ(f:fX):fX:=λai=>(f ai).map λb=>!b
noncomputable def ql(c:fX)(f g:bZ):bZ:=λai=>(c ai).bind λb=>if b then f ai else g ai
noncomputable def d7(b:Bool):fX:=λ_=>some b
noncomputable def ofT(c:fX):bZ:=λai=>(c ai).map .bool
noncomputable def dy(f:bZ):mX:=λai=>(f ai).bind λt=>match t with|.tuple ts=>some ts|.list ts=>some ts|_=>none
noncomputable def gO(f:bZ):mX:=λai=>(f ai).bind λt=>match t with|.tuple ts=>some ts|_=>none
noncomputable def lZ(lo aP:Int):List T:=(List.range (aP - lo).toNat).map λ(k:Nat)=>.int (lo+(k:Int))
noncomputable def ao4(i:Int):Bool:=decide (-(2 ^ 62)<=i) && decide (i<2 ^ 62)
noncomputable def jX(f:bZ):mX:=λai=>(f ai).bind λt=>match t with|.int j=>if ao4 j then some (lZ 0 j) else none|_=>none
noncomputable def enum(ts:List T):List T:=ts.zipIdx.map λp=>.tuple [.int p.2,p.1]
noncomputable def iJ(f:mX):mX:=λai=>(f ai).map enum
noncomputable def bw(i:Nat):jf:=λt ai=>some (ai.set i (some (.aa t)))
noncomputable def gI:List jf->List T->Ev->Option Ev
| [],[],ai=>some ai
|g::f_,t::ts,ai=>(g t ai).bind λε'=>gI f_ ts ε'
|_,_,_=>none
noncomputable def dv(f_:List jf):jf:=λt ai=>match t with|.tuple ts=>gI f_ ts ai|_=>none
noncomputable def g9(g:jf)(c:fX)(e:bZ):List T->Ev->Option (List T)
| [],_=>some []
|t::ts,ai=>(g t ai).bind λkq=>(c kq).bind λb=>if b then (e kq).bind λy=>(g9 g c e ts kq).map λys=>y::ys else g9 g c e ts kq
noncomputable def hn(own:Nat)(caps:List Nat)(ai:Ev):Ev:=dZ own none++caps.map λi=>(ai[i]?).join
noncomputable def comp(own:Nat)(caps:List Nat)(it:mX)(g:jf)(c:fX)(e:bZ):bZ:=λai=>(it ai).bind λts=>if ts.length<=big then (g9 g c e ts (hn own caps ai)).map .list else none
noncomputable def skip:bJ:=λai=>some (.bI ai)
noncomputable def seq(a b:bJ):bJ:=λai=>(a ai).bind λo=>match o with|.bI ε'=>b ε'|o=>some o
noncomputable def asg(i:Nat)(f:bZ):bJ:=λai=>(f ai).map λt=>.bI (ai.set i (some (.aa t)))
noncomputable def hr(i:Nat)(f:bZ):bJ:=λai=>(f ai).bind λt=>match t with|.list ts=>some (.bI (ai.set i (some (.own ts))))|_=>none
noncomputable def iP(g:jf)(f:bZ):bJ:=λai=>(f ai).bind λt=>(g t ai).map .bI
noncomputable def b9(f:bZ):bJ:=λai=>(f ai).map .dn
noncomputable def iff(c:fX)(a b:bJ):bJ:=λai=>(c ai).bind λx=>if x then a ai else b ai
noncomputable def brk:bJ:=λai=>some (.gR ai)
noncomputable def forL(g:jf)(b:bJ):List T->Ev->Option Out
| [],ai=>some (.bI ai)
|t::ts,ai=>(g t ai).bind λkq=>(b kq).bind λo=>match o with
  |.bI kr=>forL g b ts kr
  |.cQ kr=>forL g b ts kr
  |.gR kr=>some (.bI kr)
  |.dn t=>some (.dn t)
  |.l0 t kr=>some (.l0 t kr)
  |.mz s=>some (.mz s)
noncomputable def d1(it:mX)(g:jf)(b:bJ):bJ:=λai=>(it ai).bind λts=>forL g b ts ai
noncomputable def app(i:Nat)(f:bZ):bJ:=λai=>match ai[i]? with
|some (some (.own ts))=>(f ai).bind λt=>if ts.length<big then some (.bI (ai.set i (some (.own (ts++[t]))))) else none
|_=>none
noncomputable def ext(i:Nat)(f:bZ):bJ:=λai=>match ai[i]? with
|some (some (.own ts))=>(f ai).bind λt=>match t with
  |.list us=>if ts.length+us.length<=big then some (.bI (ai.set i (some (.own (ts++us))))) else none
  |_=>none
|_=>none
noncomputable def par(i j:Nat)(own:Bool)(f g:bZ):bJ:=λai=>(f ai).bind λt=>(g ai).bind λu=>if own then (match u with|.list us=>some (.bI ((ai.set i (some (.aa t))).set j (some (.own us))))|_=>none) else some (.bI ((ai.set i (some (.aa t))).set j (some (.aa u))))
noncomputable def c2(b:bJ)(n:Nat)(as:List T):Option T:=(b ((as.map λt=>some (.aa t))++dZ (n - as.length) none)).bind λo=>match o with
|.dn t=>some t
|.bI _=>some .none
|_=>none
end D
end
section
namespace D
open PySem PySem.Spec PyProof.Rows bA
section
mutual
noncomputable def Rep(K:bc)(F:ak->Prop)(H:aB):T->V->Prop
|.none,v=>v=.dT
|.bool b,v=>v=.b3 b
|.int i,v=>v=.int i
|.str x,v=>v=.str x
|.dict _,_=>False
|.tuple ts,v=>∃a vs,v=.ref a/\dc K H a vs/\bH K F H ts vs
|.list ts,v=>∃a vs,v=.ref a/\F a/\fZ H a (.lst vs)/\bH K F H ts vs
noncomputable def bH(K:bc)(F:ak->Prop)(H:aB):List T->List V->Prop
| [],vs=>vs=[]
|t::ts,vs=>∃v r,vs=v::r/\Rep K F H t v/\bH K F H ts r
end
section
variable {K:bc}{F aD:ak->Prop}{H ag:aB}
mutual
theorem Rep.keep(ah:∀b xs,dc K H b xs->dc K ag b xs)(ar:∀b xs,F b->fZ H b (.lst xs)->aD b/\fZ ag b (.lst xs)):∀{t:T} {v:V},Rep K F H t v->Rep K aD ag t v
|.none,v,h=>by simpa [Rep] using h
|.bool _,v,h=>by simpa [Rep] using h
|.dict _,v,h=>by simp[Rep] at h
|.int _,v,h=>by simpa [Rep] using h
|.str _,v,h=>by simpa [Rep] using h
|.tuple ts,v,h=>by
  simp only[Rep] at h ⊢;obtain⟨a,vs,e,q,r⟩:=h;exact⟨a,vs,e,ah _ _ q,bH.keep ah ar r⟩
|.list ts,v,h=>by
  simp only[Rep] at h ⊢;obtain⟨a,vs,e,f,q,r⟩:=h;exact⟨a,vs,e,(ar _ _ f q).1,(ar _ _ f q).2,bH.keep ah ar r⟩
theorem bH.keep(ah:∀b xs,dc K H b xs->dc K ag b xs)(ar:∀b xs,F b->fZ H b (.lst xs)->aD b/\fZ ag b (.lst xs)):∀{ts:List T} {vs:List V},bH K F H ts vs->bH K aD ag ts vs
| [],vs,h=>by simpa [bH] using h
|t::ts,vs,h=>by
  simp only[bH] at h ⊢;obtain⟨v,r,e,q,z⟩:=h;exact⟨v,r,e,Rep.keep ah ar q,bH.keep ah ar z⟩
end
def bH.nil:bH K F H [] []:=by simp[bH]
def bH.cons{t:T}{v:V}{ts:List T}{vs:List V}(h:Rep K F H t v)(r:bH K F H ts vs):bH K F H (t::ts) (v::vs):=by
 simp only[bH];exact⟨v,vs,rfl,h,r⟩
theorem bH.length:∀{ts:List T} {vs:List V},bH K F H ts vs->ts.length=vs.length
| [],vs,h=>by
  simp only[bH] at h;subst h;rfl
|t::ts,vs,h=>by
  simp only[bH] at h;obtain⟨v,r,e,q,z⟩:=h;subst e;simp[bH.length z]
theorem bH.get:∀{ts:List T} {vs:List V} {i:Nat} {t:T},bH K F H ts vs->ts[i]?=some t->∃v,vs[i]?=some v/\Rep K F H t v
| [],vs,i,t,h,e=>by simp at e
|x::ts,vs,0,t,h,e=>by
  simp only[bH] at h;obtain⟨v,r,rfl,q,z⟩:=h;simp at e;subst e;exact⟨v,rfl,q⟩
|x::ts,vs,i+1,t,h,e=>by
  simp only[bH] at h;obtain⟨v,r,rfl,q,z⟩:=h;obtain⟨u,ah,ar⟩:=bH.get (i:=i) (t:=t) z (by simpa using e);exact⟨u,by simpa using ah,ar⟩
theorem bH.append:∀{ts us:List T} {vs ws:List V},bH K F H ts vs->bH K F H us ws->bH K F H (ts++us) (vs++ws)
| [],us,vs,ws,h,r=>by
  simp only[bH] at h;subst h;exact r
|t::ts,us,vs,ws,h,r=>by
  simp only[bH] at h;obtain⟨v,z,rfl,q,y⟩:=h;exact bH.cons q (bH.append y r)
theorem bH.take:∀{ts:List T} {vs:List V} (n:Nat),bH K F H ts vs->bH K F H (ts.take n) (vs.take n)
| [],vs,n,h=>by
  simp only[bH] at h;subst h;simpa using bH.nil
|t::ts,vs,0,h=>by simpa using bH.nil
|t::ts,vs,n+1,h=>by
  simp only[bH] at h;obtain⟨v,z,rfl,q,y⟩:=h;simpa using bH.cons q (bH.take n y)
theorem bH.drop:∀{ts:List T} {vs:List V} (n:Nat),bH K F H ts vs->bH K F H (ts.drop n) (vs.drop n)
| [],vs,n,h=>by
  simp only[bH] at h;subst h;simpa using bH.nil
|t::ts,vs,0,h=>by simpa using h
|t::ts,vs,n+1,h=>by
  simp only[bH] at h;obtain⟨v,z,rfl,q,y⟩:=h;simpa using bH.drop n y
end
class cB where
 dg:List (ak×Str)
 fw:Nat->List Str
 o2:Nat->Option ak
noncomputable def AZ(H:aB)(b:ak)(q:Str):Prop:=∃ps:Array aq,H b=some (.iF ps)/\TriplesOk ps.toList/\∀pos cv,codeAmong pos ps.toList=some cv->∃c,cv=.ref c/\H c=some (.ext λh=>h.CodeRec (.ref c) q)
noncomputable def nY [t:cB](H:aB):Prop:=∀p∈t.dg,AZ H p.1 p.2
def AZ.keep{H ag:aB}{b:ak}{q:Str}(h:AZ H b q)(k1:∀a ps,H a=some (.iF ps)->ag a=some (.iF ps))(k2:∀a pX,H a=some (.ext pX)->ag a=some (.ext pX)):AZ ag b q:=by
 obtain⟨ps,ah,ar,br⟩:=h;refine⟨ps,k1 _ _ ah,ar,λpos cv e=>?_⟩;obtain⟨c,az,aM⟩:=br pos cv e;exact⟨c,az,k2 _ _ aM⟩
variable [cB]
noncomputable def oR(u:ef):Prop:=(∃xs,u=.lst xs)\/(∃xs,u=.fy xs)\/∃C bF aE,u=.ins C bF aE
def oR.cases{P:Prop}{u:ef}(h:oR u)(ah:∀xs,u=.lst xs->P)(ar:∀xs,u=.fy xs->P)(br:∀C bF aE,u=.ins C bF aE->P):P:=by
 rcases h with ⟨xs,e⟩|⟨xs,e⟩|⟨C,bF,aE,e⟩
 ·exact ah xs e
 ·exact ar xs e
 ·exact br C bF aE e
def nY.Ro{H:aB}(h:nY H){p:ak}{o:ef}(aL:∀u,H p=some u->oR u):nY (upd H p o):=λb af=>
 (h b af).keep (λa ps e=>by
  have nb:a≠p:=by
   rintro rfl;exact (aL _ e).cases (λ_ z=>by cases z) (λ_ z=>by cases z) (λ_ _ _ z=>by cases z)
  rw[cS nb];exact e) λa pX e=>by
  have nb:a≠p:=by
   rintro rfl;exact (aL _ e).cases (λ_ z=>by cases z) (λ_ z=>by cases z) (λ_ _ _ z=>by cases z)
  rw[cS nb];exact e
theorem nY.upd{H:aB}(h:nY H){p:ak}{o:ef}(aL:∀u,H p=some u->(∃xs,u=.lst xs)\/∃xs,u=.fy xs):nY (upd H p o):=h.Ro λu e=>by
 rcases aL u e with z|z
 ·exact .inl z
 ·exact .inr (.inl z)
def nY.new{H:aB}(h:nY H){p:ak}{o:ef}(aL:H p=none):nY (bA.upd H p o):=h.upd λu e=>by rw[aL] at e;cases e
structure fk(F:ak->Prop)(H:aB):Prop where
 v7:∀a,F a->∃o,H a=some o
 aoN:nY H
instance {F:ak->Prop}{H:aB}:CoeFun (fk F H) λ_=>∀a,F a->∃o,H a=some o:=⟨fk.v7⟩
noncomputable def kp(H ag:aB):Prop:=∀b o,H b=some o->ag b=some o\/∃ps apn,o=.iF ps/\ag b=some (.iF apn)
def kp.refl(H:aB):kp H H:=λ_ _ h=>.inl h
def kp.ne{H ag:aB}(s:kp H ag){b:ak}{o:ef}(e:H b=some o):∃u,ag b=some u:=by
 rcases s b o e with h|⟨_,_,_,h⟩
 ·exact⟨_,h⟩
 ·exact⟨_,h⟩
theorem kp.none{H ag:aB}(s:kp H ag){b:ak}(e:ag b=none):H b=none:=by
 cases z:H b with
|none=>rfl
|some o=>
  obtain⟨u,q⟩:=s.ne z;rw[e] at q;cases q
def kp.get{H ag:aB}(s:kp H ag){b:ak}{o:ef}(e:H b=some o)(n:∀ps,o≠.iF ps:=by intro _ z;cases z):ag b=some o:=by
 rcases s b o e with h|⟨_,_,z,_⟩
 ·exact h
 ·exact absurd z (n _)
def kp.trans{H H1 bB:aB}(a:kp H H1)(b:kp H1 bB):kp H bB:=λc o h=>by
 rcases a c o h with q|⟨ps,aeN,z,q⟩
 ·exact b c o q
 ·rcases b c _ q with bu|⟨_,zc,gB,bu⟩
  ·exact .inr ⟨ps,aeN,z,bu⟩
  ·exact .inr ⟨ps,zc,z,bu⟩
structure Ext(F:ak->Prop)(H:aB)(aD:ak->Prop)(ag:aB):Prop where
 same:kp H ag
 sub:∀a,F a->aD a
 new:∀a,aD a->F a\/H a=none
 b':fk aD ag
section
variable {K:bc}{F ba dC:ak->Prop}{H H1 bB:aB}
theorem Ext.refl(d:fk F H):Ext F H F H:=⟨kp.refl H,λ_ h=>h,λ_ h=>.inl h,d⟩
theorem Ext.trans(a:Ext F H ba H1)(b:Ext ba H1 dC bB):Ext F H dC bB:=
 ⟨a.same.trans b.same,λx h=>b.sub x (a.sub x h),λx h=>(b.new x h).elim (λz=>a.new x z) λz=>.inr (a.same.none z),b.b'⟩
def fZ.same{a:ak}{u:ef}(s:kp H H1)(r:fZ H a u)(n:∀ps,u≠.iF ps:=by intro _ z;cases z):fZ H1 a u:=by
 rcases r with r|⟨o,r⟩
 ·exact .inl (s.get r n)
 ·exact .inr ⟨o,s.get r⟩
theorem dc.same{a:ak}{xs:List V}(s:kp H H1)(r:dc K H a xs):dc K H1 a xs:=by
 rcases r with r|r
 ·exact .inl (fZ.same s r)
 ·exact .inr r
def Rep.ext{t:T}{v:V}(r:Rep K F H t v)(x:Ext F H ba H1):Rep K ba H1 t v:=r.keep (λ_ _ q=>dc.same x.same q) λb _ f q=>⟨x.sub b f,fZ.same x.same q⟩
def bH.ext{t:List T}{v:List V}(r:bH K F H t v)(x:Ext F H ba H1):bH K ba H1 t v:=r.keep (λ_ _ q=>dc.same x.same q) λb _ f q=>⟨x.sub b f,fZ.same x.same q⟩
def Ext.laid{p:ak}{o:ef}(d:fk F H)(aL:H p=none):Ext F H F (upd H p o):=
 ⟨λb u q=>.inl (CT aL o b u q),λ_ h=>h,λ_ h=>.inl h,⟨λa h=>by
  obtain⟨u,e⟩:=d a h;exact⟨u,CT aL o a u e⟩,d.aoN.new aL⟩⟩
where CT {H:aB} {p:ak} (h:H p=none) (o:ef):Xh H (upd H p o):=λb u q=>by rw[cS (jw q h)];exact q
def Ext.Kd{p:ak}{o:ef}(d:fk F H)(aL:H p=none):Ext F H (λa=>F a\/a=p) (upd H p o):=
 ⟨λb u q=>.inl (Ext.laid.CT aL o b u q),λ_ h=>.inl h,λa h=>by
  rcases h with h|rfl
  ·exact .inl h
  ·exact .inr aL,⟨λa h=>by
  rcases h with h|rfl
  ·obtain⟨u,e⟩:=d a h;exact⟨u,Ext.laid.CT aL o a u e⟩
  ·exact⟨o,dV⟩,d.aoN.new aL⟩⟩
end
structure ew(K:bc)(F:ak->Prop)(H:aB)(aD:ak->Prop)(ag:aB):Prop where
 tup:∀b xs,dc K H b xs->dc K ag b xs
 lst:∀b xs,F b->fZ H b (.lst xs)->aD b/\fZ ag b (.lst xs)
section
variable {K:bc}{F ba dC:ak->Prop}{H H1 bB:aB}
def ew.refl:ew K F H F H:=⟨λ_ _ h=>h,λ_ _ f h=>⟨f,h⟩⟩
def ew.trans(a:ew K F H ba H1)(b:ew K ba H1 dC bB):ew K F H dC bB:=⟨λx xs h=>b.tup x xs (a.tup x xs h),λx xs f h=>b.lst x xs (a.lst x xs f h).1 (a.lst x xs f h).2⟩
def Ext.aF(x:Ext F H ba H1):ew K F H ba H1:=⟨λ_ _ q=>dc.same x.same q,λb _ f q=>⟨x.sub b f,fZ.same x.same q⟩⟩
def Rep.aF{t:T}{v:V}(r:Rep K F H t v)(x:ew K F H ba H1):Rep K ba H1 t v:=r.keep x.tup x.lst
def bH.aF{t:List T}{v:List V}(r:bH K F H t v)(x:ew K F H ba H1):bH K ba H1 t v:=r.keep x.tup x.lst
end
noncomputable def f3(K:bc)(O F:ak->Prop)(H:aB)(t:T)(v:V):Prop:=
 Rep K F H t v\/∃ts a vs,t=.list ts/\v=.ref a/\H a=some (.lst vs)/\bH K F H ts vs
section
variable {K:bc}{O F ba:ak->Prop}{H H1:aB}{v:V}
theorem f3.ext{t:T}(r:f3 K O F H t v)(x:Ext F H ba H1):f3 K O ba H1 t v:=by
 rcases r with r|⟨ts,a,vs,az,aM,iT,r⟩
 ·exact .inl (r.ext x)
 ·exact .inr ⟨ts,a,vs,az,aM,x.same.get iT,r.ext x⟩
theorem f3.dT(r:f3 K O F H .none v):v=.dT:=by
 rcases r with r|⟨ts,a,vs,az,_⟩
 ·simpa [Rep] using r
 ·cases az
theorem f3.b3{b:Bool}(r:f3 K O F H (.bool b) v):v=.b3 b:=by
 rcases r with r|⟨ts,a,vs,az,_⟩
 ·simpa [Rep] using r
 ·cases az
theorem f3.int{i:Int}(r:f3 K O F H (.int i) v):v=.int i:=by
 rcases r with r|⟨ts,a,vs,az,_⟩
 ·simpa [Rep] using r
 ·cases az
theorem f3.str{x:Str}(r:f3 K O F H (.str x) v):v=.str x:=by
 rcases r with r|⟨ts,a,vs,az,_⟩
 ·simpa [Rep] using r
 ·cases az
def f3.tup{ts:List T}(r:f3 K O F H (.tuple ts) v):∃a vs,v=.ref a/\dc K H a vs/\bH K F H ts vs:=by
 rcases r with r|⟨ts,a,vs,az,_⟩
 ·simpa [Rep] using r
 ·cases az
theorem f3.lst{ts:List T}(r:f3 K O F H (.list ts) v):∃a vs,v=.ref a/\fZ H a (.lst vs)/\bH K F H ts vs:=by
 rcases r with r|⟨us,a,vs,az,aM,iT,r⟩
 ·simp only[Rep] at r;obtain⟨a,vs,e,_,q,z⟩:=r;exact⟨a,vs,e,q,z⟩
 ·cases az
  exact⟨a,vs,aM,.inl iT,r⟩
end
noncomputable def en(K:bc)(F:ak->Prop)(H:aB):List (D.Key×T)->List (D.Key×V)->Prop
| [],vs=>vs=[]
|p::ts,vs=>∃v r,vs=(p.1,v)::r/\Rep K F H p.2 v/\en K F H ts r
theorem en.aF{K:bc}{F aD:ak->Prop}{H ag:aB}(x:ew K F H aD ag):∀{ts:List (D.Key×T)} {vs:List (D.Key×V)},en K F H ts vs->en K aD ag ts vs
| [],vs,h=>h
|p::ts,vs,h=>by
  obtain⟨v,r,e,q,z⟩:=h;exact⟨v,r,e,q.aF x,en.aF x z⟩
structure gi where
 h:aB
 jK:ak
noncomputable def i6:V->List ak
|.ref a=>[a]
|_=>[]
noncomputable def d2:aO->V->List ak
|.aa _,_=>[]
|_,v=>i6 v
noncomputable def dt:List aO->List V->List ak
|s::ss,v::vs=>d2 s v++dt ss vs
|_,_=>[]
noncomputable def EJ(H:aB):V->List V
|.ref a=>(match H a with
  |some (.ins _ _ kvs)=>kvs.map (·.2)
  |some (.fy kvs)=>kvs.map (·.2)
  |_=>[])
|_=>[]
noncomputable def dD(H:aB):aO->V->List ak
|.aa _,_=>[]
|.own _,v=>i6 v
|.h4 _,v=>i6 v
|.obj _ _ aE,v=>i6 v++dt aE (EJ H v)
noncomputable def iM(H:aB)(a:ak)(c:Nat)(vs:List V):Prop:=vs.length<=(cB.fw c).length/\match cB.o2 c with
|some C=>∃bF,H a=some (.ins C bF ((cB.fw c).zip vs))
|none=>H a=some (.fy (((cB.fw c).zip vs).map λp=>(.inr p.1,p.2)))
noncomputable def mS(K:bc)(F:ak->Prop)(H:aB):aO->V->Prop
|.aa t,v=>Rep K F H t v
|.own ts,v=>∃b us,v=.ref b/\H b=some (.lst us)/\bH K F H ts us
|.h4 kvs,v=>∃b us,v=.ref b/\H b=some (.fy us)/\en K F H kvs us
|.obj _ _ _,_=>False
noncomputable def gD(K:bc)(F:ak->Prop)(H:aB):List aO->List V->Prop
| [],vs=>vs=[]
|s::ss,vs=>∃v r,vs=v::r/\mS K F H s v/\gD K F H ss r
noncomputable def x2(E:gi)(O F:ak->Prop)(m:jz)(b:ak):Prop:=¬F b/\match m with
|.hC=>E.h b≠none
|_=>O b
noncomputable def ed(K:bc)(E:gi)(O F:ak->Prop)(H:aB):aO->V->Prop
|.aa t,v=>Rep K F H t v
|.own ts,v=>∃a vs,v=.ref a/\¬F a/\O a/\H a=some (.lst vs)/\bH K F H ts vs
|.h4 kvs,v=>∃a vs,v=.ref a/\¬F a/\O a/\H a=some (.fy vs)/\en K F H kvs vs
|.obj m c aE,v=>∃a vs,v=.ref a/\iM H a c vs/\gD K F H aE vs/\(a::dt aE vs).Nodup/\(∀b∈a::dt aE vs,x2 E O F m b)/\(m=.d9->a=E.jK)
noncomputable def aO.jm:aO->Bool
|.aa _=>false
|.obj .hC _ _=>false
|_=>true
section
variable {K:bc}{F aD O oU:ak->Prop}{H ag:aB}{E:gi}
theorem Nf{α β:Type}:∀{xs:List α} {ys:List β},ys.length<=xs.length->(xs.zip ys).map (·.2)=ys
|xs,[],_=>by simp
| [],y::ys,h=>by simp at h
|x::xs,y::ys,h=>by simp[Nf (xs:=xs) (ys:=ys) (by simpa using h)]
def iM.vals{a:ak}{c:Nat}{vs:List V}(h:iM H a c vs):EJ H (.ref a)=vs:=by
 obtain⟨aG,h⟩:=h;unfold EJ;split at h
 ·obtain⟨bF,e⟩:=h;simp only[e];exact Nf aG
 ·simp only[h,nE];exact Nf aG
def iM.mem{a:ak}{c:Nat}{vs:List V}(h:iM H a c vs):∃o,H a=some o/\oR o:=by
 obtain⟨aG,h⟩:=h;split at h
 ·obtain⟨bF,e⟩:=h;exact⟨_,e,.inr (.inr ⟨_,_,_,rfl⟩)⟩
 ·exact⟨_,h,.inr (.inl ⟨_,rfl⟩)⟩
def iM.keep{a:ak}{c:Nat}{vs:List V}(h:iM H a c vs)(e:ag a=H a):iM ag a c vs:=by
 obtain⟨aG,h⟩:=h;refine⟨aG,?_⟩;rw[e];exact h
def xv{v:V}{b:ak}(h:b∈i6 v):v=.ref b:=by
 unfold i6 at h;split at h
 ·simp at h;rw[h]
 ·simp at h
theorem mS.at{s:aO}{v:V}{b:ak}(r:mS K F H s v)(h:b∈d2 s v):∃o,H b=some o/\oR o:=by
 cases s with
|aa t=>simp[d2] at h
|own ts=>
  obtain⟨jE,us,e,ht,_⟩:=r;have:=xv h;rw[e] at this;cases this;exact⟨_,ht,.inl ⟨_,rfl⟩⟩
|h4 ts=>
  obtain⟨jE,us,e,ht,_⟩:=r;have:=xv h;rw[e] at this;cases this;exact⟨_,ht,.inr (.inl ⟨_,rfl⟩)⟩
|obj m c aE=>exact r.elim
theorem gD.at:∀{aE:List aO} {vs:List V} {b:ak},gD K F H aE vs->b∈dt aE vs->∃o,H b=some o/\oR o
| [],vs,b,r,h=>by simp[dt] at h
|s::ss,vs,b,r,h=>by
  obtain⟨v,z,rfl,bk,b4⟩:=r;rw[show dt (s::ss) (v::z)=d2 s v++dt ss z from rfl] at h;rcases hS.mp h with h|h
  ·exact bk.at h
  ·exact gD.at b4 h
def lD{m:jz}{c:Nat}{aE:List aO}{a:ak}{vs:List V}(h:iM H a c vs):dD H (.obj m c aE) (.ref a)=a::dt aE vs:=by
 show i6 (.ref a)++dt aE (EJ H (.ref a))=_
 rw[h.vals];rfl
theorem ed.at{s:aO}{v:V}{b:ak}(r:ed K E O F H s v)(h:b∈dD H s v):∃o,H b=some o/\oR o:=by
 cases s with
|aa t=>simp[dD] at h
|own ts=>
  obtain⟨jE,us,e,_,_,ht,_⟩:=r;have:=xv h;rw[e] at this;cases this;exact⟨_,ht,.inl ⟨_,rfl⟩⟩
|h4 ts=>
  obtain⟨jE,us,e,_,_,ht,_⟩:=r;have:=xv h;rw[e] at this;cases this;exact⟨_,ht,.inr (.inl ⟨_,rfl⟩)⟩
|obj m c aE=>
  obtain⟨a,vs,rfl,aC,hf,_⟩:=r;rw[lD aC] at h;rcases cM.mp h with rfl|h
  ·exact aC.mem
  ·exact hf.at h
def ed.held{s:aO}{v:V}{b:ak}(r:ed K E O F H s v)(h:b∈dD H s v):¬F b/\(s.jm=true->O b)/\(s.jm=false->E.h b≠none):=by
 cases s with
|aa t=>simp[dD] at h
|own ts=>
  obtain⟨jE,us,e,n,o,ht,_⟩:=r;have:=xv h;rw[e] at this;cases this;exact⟨n,λ_=>o,λz=>by cases z⟩
|h4 ts=>
  obtain⟨jE,us,e,n,o,ht,_⟩:=r;have:=xv h;rw[e] at this;cases this;exact⟨n,λ_=>o,λz=>by cases z⟩
|obj m c aE=>
  obtain⟨a,vs,rfl,aC,hf,aS,gK,_⟩:=r;rw[lD aC] at h;obtain⟨n,q⟩:=gK b h;refine⟨n,λz=>?_,λz=>?_⟩
  ·cases m with
   |hC=>cases z
   |own=>exact q
   |d9=>exact q
  ·cases m with
   |hC=>exact q
   |own=>cases z
   |d9=>cases z
def mS.keep{s:aO}{v:V}(r:mS K F H s v)(aF:ew K F H aD ag)(cR:∀b∈d2 s v,ag b=H b):mS K aD ag s v:=by
 cases s with
|aa t=>exact Rep.aF r aF
|own ts=>
  obtain⟨b,us,rfl,ht,z⟩:=r;exact⟨b,us,rfl,by rw[cR b (by simp[d2,i6])];exact ht,z.aF aF⟩
|h4 ts=>
  obtain⟨b,us,rfl,ht,z⟩:=r;exact⟨b,us,rfl,by rw[cR b (by simp[d2,i6])];exact ht,en.aF aF z⟩
|obj m c aE=>exact r.elim
theorem gD.keep:∀{aE:List aO} {vs:List V},gD K F H aE vs->ew K F H aD ag->(∀b∈dt aE vs,ag b=H b)->gD K aD ag aE vs
| [],vs,r,_,_=>r
|s::ss,vs,r,aF,cR=>by
  obtain⟨v,z,rfl,bk,b4⟩:=r;rw[show dt (s::ss) (v::z)=d2 s v++dt ss z from rfl] at cR;exact⟨v,z,rfl,bk.keep aF λb h=>cR b (hS.mpr (.inl h)),gD.keep b4 aF λb h=>cR b (hS.mpr (.inr h))⟩
theorem ed.keep{s:aO}{v:V}(r:ed K E O F H s v)(aF:ew K F H aD ag)(cR:∀b∈dD H s v,ag b=H b)(hf:∀b∈dD H s v,aD b->F b)(aJ:∀b∈dD H s v,O b->oU b):
  ed K E oU aD ag s v/\dD ag s v=dD H s v:=by
 cases s with
|aa t=>exact⟨Rep.aF r aF,rfl⟩
|own ts=>
  obtain⟨a,vs,rfl,n,o,ht,z⟩:=r;have m:a∈dD H (.own ts) (.ref a):=by simp[dD,i6]
  exact⟨⟨a,vs,rfl,λf=>n (hf a m f),aJ a m o,by rw[cR a m];exact ht,z.aF aF⟩,rfl⟩
|h4 ts=>
  obtain⟨a,vs,rfl,n,o,ht,z⟩:=r;have m:a∈dD H (.h4 ts) (.ref a):=by simp[dD,i6]
  exact⟨⟨a,vs,rfl,λf=>n (hf a m f),aJ a m o,by rw[cR a m];exact ht,en.aF aF z⟩,rfl⟩
|obj m c aE=>
  obtain⟨a,vs,rfl,aC,ay,aS,gK,jK⟩:=r;rw[lD aC] at cR hf aJ;have n9:iM ag a c vs:=aC.keep (cR a (by simp));refine⟨⟨a,vs,rfl,n9,ay.keep aF λb h=>cR b (dK _ h),aS,λb h=>?_,jK⟩,by rw[lD aC,lD n9]⟩;obtain⟨n,q⟩:=gK b h;refine⟨λf=>n (hf b h f),?_⟩;cases m with
  |hC=>exact q
  |own=>exact aJ b h q
  |d9=>exact aJ b h q
def ed.yk{s:aO}{v:V}(r:ed K E O F H s v)(x:Ext F H aD ag):ed K E O aD ag s v/\dD ag s v=dD H s v:=
 r.keep x.aF (λb h=>by
  obtain⟨o,e,m⟩:=r.at h;rw[e];exact x.same.get e λps z=>by subst z;exact m.cases (λ_ z=>by cases z) (λ_ z=>by cases z) (λ_ _ _ z=>by cases z)) (λb h f=>by
  rcases x.new b f with z|z
  ·exact z
  ·obtain⟨o,e,_⟩:=r.at h;rw[z] at e;cases e) λ_ _ o=>o
def ed.ext{s:aO}{v:V}(r:ed K E O F H s v)(x:Ext F H aD ag):ed K E O aD ag s v:=(r.yk x).1
end
structure cN(K:bc)(aK:ak->Prop)(E:gi)(O F:ak->Prop)(H:aB)(ai:Ev)(σ:bA.St):Prop where
 len:ai.length=σ.length
 val:∀(i:Nat) (s:aO),ai[i]?=some (some s)->∃v,σ[i]?=some (some v)/\ed K E O F H s v
 ne:∀(i j:Nat) (s u:aO) (v w:V),i≠j->ai[i]?=some (some s)->ai[j]?=some (some u)->s.jm=true->u.jm=true->σ[i]?=some (some v)->σ[j]?=some (some w)->∀a∈dD H s v,a∉dD H u w
 ent:Ext aK E.h F H
 o0:∀a,O a->E.h a=none
 fr:∀a,H a=none->O a
section
variable {K:bc}{aK O F ba:ak->Prop}{E:gi}{H H1:aB}{ai:Ev}{σ:bA.St}
theorem cN.b'(r:cN K aK E O F H ai σ):fk F H:=r.ent.b'
theorem cN.ext(r:cN K aK E O F H ai σ)(x:Ext F H ba H1):cN K aK E O ba H1 ai σ:=
 ⟨r.len,λi s e=>by
  obtain⟨v,ah,ar⟩:=r.val i s e;exact⟨v,ah,ar.ext x⟩,λi j s u v w kC az aM d3 eE ah ar=>by
  obtain⟨kJ,dN,bk⟩:=r.val i s az;obtain⟨dh,j5,b4⟩:=r.val j u aM;rw[ah] at dN;rw[ar] at j5;cases dN;cases j5;rw[(bk.yk x).2,(b4.yk x).2];exact r.ne i j s u v w kC az aM d3 eE ah ar,r.ent.trans x,r.o0,λa e=>r.fr a (x.same.none e)⟩
def oK{α:Type}{l:List (Option α)}{i j:Nat}{x:Option α}{y:α}(h:(l.set i x)[j]?=some (some y)):(i=j/\x=some y/\j<l.length)\/(i≠j/\l[j]?=some (some y)):=by
 rw[wV] at h;by_cases e:i=j
 ·subst e;rw[if_pos rfl] at h;split at h
  next aG=>exact .inl ⟨rfl,gg h,aG⟩
  next=>cases h
 ·rw[if_neg e] at h;exact .inr ⟨e,h⟩
def Ni{α:Type}{l:List (Option α)}{i:Nat}{x:Option α}(h:i<l.length):(l.set i x)[i]?=some x:=by
 rw[wV,if_pos rfl,if_pos h]
def DZ{α:Type}{l:List (Option α)}{i j:Nat}{x:Option α}(h:i≠j):(l.set i x)[j]?=l[j]?:=by
 rw[wV,if_neg h]
def cN.setG{s:aO}{v:V}(r:cN K aK E O F H ai σ)(i:Nat)(h:ed K E O F H s v)(fr:s.jm=true->∀(j:Nat) (u:aO) (w:V),i≠j->ai[j]?=some (some u)->u.jm=true->σ[j]?=some (some w)->∀a∈dD H s v,a∉dD H u w):
  cN K aK E O F H (ai.set i (some s)) (σ.set i (some v)):=by
 refine⟨by simp[r.len],λj u e=>?_,λj k u w fg nu qh az aM d3 eE ah ar=>?_,r.ent,r.o0,r.fr⟩
 ·rcases oK e with ⟨rfl,bD,aG⟩|⟨ne,bD⟩
  ·cases bD
   exact⟨_,Ni (by rw[<- r.len];exact aG),h⟩
  ·obtain⟨w,ah,ar⟩:=r.val j u bD;exact⟨w,by rw[DZ ne];exact ah,ar⟩
 ·rcases oK az with ⟨rfl,bD,aG⟩|⟨ne1,kZ⟩
  ·rcases oK aM with ⟨rfl,_,_⟩|⟨ne2,h5⟩
   ·exact absurd rfl qh
   ·rw[Ni (by rw[<- r.len];exact aG)] at ah;rw[DZ ne2] at ar;cases ah;cases bD;exact fr d3 k w nu ne2 h5 eE ar
  ·rw[DZ ne1] at ah;rcases oK aM with ⟨rfl,bD,aG⟩|⟨ne2,h5⟩
   ·rw[Ni (by rw[<- r.len];exact aG)] at ar;cases ar;cases bD;intro a aC af;exact fr eE j u fg ne1 kZ d3 ah a af aC
   ·rw[DZ ne2] at ar;exact r.ne j k u w fg nu qh kZ h5 d3 eE ah ar
theorem cN.set{t:T}{v:V}(r:cN K aK E O F H ai σ)(i:Nat)(h:Rep K F H t v):cN K aK E O F H (ai.set i (some (.aa t))) (σ.set i (some v)):=r.setG (s:=.aa t) i h λz=>by cases z
def cN.Q5{s:aO}{v:V}(r:cN K aK E O F H ai σ)(i:Nat)(x:Ext F H ba H1)(h:ed K E O ba H1 s v)(bg:∀a∈dD H1 s v,H a=none):cN K aK E O ba H1 (ai.set i (some s)) (σ.set i (some v)):=
 (r.ext x).setG i h λ_ j u w _ uk _ bU a aC af=>by
  obtain⟨dh,ah,ar⟩:=r.val j u uk;rw[bU] at ah;cases ah;rw[(ar.yk x).2] at af;obtain⟨o,e,_⟩:=ar.at af;rw[bg a aC] at e;cases e
def Ux{x:ak}{o o':ef}(bg:¬F x)(hx:H x=some o)(hm:oR o):ew K F H F (upd H x o'):=by
 refine⟨λb xs q=>?_,λb xs f q=>⟨f,?_⟩⟩
 ·rcases q with q|q
  ·refine .inl ?_
   have nb:b≠x:=by
    rintro rfl;rcases q with q|⟨_,q⟩ <;> (rw[hx] at q;cases q;exact hm.cases (λ_ z=>by cases z) (λ_ z=>by cases z) (λ_ _ _ z=>by cases z))
   rcases q with q|⟨u,q⟩
   ·exact .inl (by rw[cS nb];exact q)
   ·exact .inr ⟨u,by rw[cS nb];exact q⟩
  ·exact .inr q
 ·have nb:b≠x:=by
   rintro rfl;exact bg f
  rcases q with q|⟨u,q⟩
  ·exact .inl (by rw[cS nb];exact q)
  ·exact .inr ⟨u,by rw[cS nb];exact q⟩
def T5{x:ak}{o o':ef}{h0:aB}(e:Ext aK h0 F H)(_j:h0 x=none)(bg:¬F x)(hx:H x=some o)(hm:oR o):Ext aK h0 F (upd H x o'):=by
 refine⟨λb u q=>?_,e.sub,e.new,⟨λb f=>?_,e.b'.aoN.Ro λu z=>by rw[hx] at z;cases z;exact hm⟩⟩
 ·have nb:b≠x:=by
   rintro rfl;rw[_j] at q;cases q
  rw[cS nb];exact e.same b u q
 ·have nb:b≠x:=by
   rintro rfl;exact bg f
  rw[cS nb];exact e.b' b f
def cN.Cw{s s':aO}{v:V}{x:ak}{o':ef}(r:cN K aK E O F H ai σ){i:Nat}(e:ai[i]?=some (some s))(aJ:s.jm=true)(bh:σ[i]?=some (some v))(hx:x∈dD H s v)
  (h:ew K F H F (upd H x o')->ed K E O F (upd H x o') s' v)
  (aL:∀b∈dD (upd H x o') s' v,b∈dD H s v\/∀(j:Nat) (u:aO) (w:V),i≠j->ai[j]?=some (some u)->u.jm=true->σ[j]?=some (some w)->b∉dD H u w):
  ew K F H F (upd H x o')/\cN K aK E O F (upd H x o') (ai.set i (some s')) σ:=by
 obtain⟨kJ,uK,rs⟩:=r.val i s e;rw[bh] at uK;cases uK;obtain⟨o,e1,hm⟩:=rs.at hx;obtain⟨Cx,k6,_⟩:=rs.held hx;have _s:=k6 aJ;have aF:ew K F H F (upd H x o'):=Ux Cx e1 hm;have h0:=r.o0 x _s;have keep:∀(j:Nat) (u:aO) (w:V),i≠j->ai[j]?=some (some u)->σ[j]?=some (some w)->ed K E O F H u w->ed K E O F (upd H x o') u w/\dD (upd H x o') u w=dD H u w:=by
  intro j u w kC uk bU c1;refine c1.keep aF (λb af=>cS ?_) (λ_ _ f=>f) λ_ _ o=>o;rintro rfl;cases sX:u.jm with
  |true=>exact r.ne i j s u v w kC e uk aJ sX bh bU b hx af
  |false=>exact (c1.held af).2.2 sX h0
 refine⟨aF,⟨by simp[r.len],λj u bD=>?_,λj k u w fg nu qh az aM d3 eE ah ar=>?_,T5 r.ent h0 Cx e1 hm,r.o0,λb bD=>r.fr b ?_⟩⟩
 ·rcases oK bD with ⟨rfl,ra,aG⟩|⟨ne,ra⟩
  ·cases ra
   exact⟨_,bh,h aF⟩
  ·obtain⟨w,ah,ar⟩:=r.val j u ra;exact⟨w,ah,(keep j u w ne ra ah ar).1⟩
 ·rcases oK az with ⟨rfl,bD,aG⟩|⟨ne1,kZ⟩
  ·rcases oK aM with ⟨rfl,_,_⟩|⟨ne2,h5⟩
   ·exact absurd rfl qh
   ·cases bD
    rw[bh] at ah;cases ah;obtain⟨dh,j5,b4⟩:=r.val k w h5;rw[ar] at j5;cases j5;rw[(keep k w nu ne2 h5 ar b4).2];intro a aC af;rcases aL a aC with z|z
    ·exact r.ne i k s w v nu ne2 e h5 aJ eE bh ar a z af
    ·exact z k w nu ne2 h5 eE ar af
  ·obtain⟨v1,dN,bk⟩:=r.val j u kZ;rw[ah] at dN;cases dN;rw[(keep j u fg ne1 kZ ah bk).2];rcases oK aM with ⟨rfl,bD,aG⟩|⟨ne2,h5⟩
   ·cases bD
    rw[bh] at ar;cases ar;intro a aC af;rcases aL a af with z|z
    ·exact r.ne i j s u v fg ne1 e kZ aJ d3 bh ah a z aC
    ·exact z j u fg ne1 kZ d3 ah aC
   ·obtain⟨dh,j5,b4⟩:=r.val k w h5;rw[ar] at j5;cases j5;rw[(keep k w nu ne2 h5 ar b4).2];exact r.ne j k u w fg nu qh kZ h5 d3 eE ah ar
 ·by_cases nb:b=x
  ·subst nb;rw[dV] at bD;cases bD
  ·rwa [cS nb] at bD
def cN.mut{s s':aO}{a:ak}{o o':ef}(r:cN K aK E O F H ai σ){i:Nat}(e:ai[i]?=some (some s))(aJ:s.jm=true)(bh:σ[i]?=some (some (.ref a)))(bg:¬F a)(jH:O a)(aC:H a=some o)
  (aI:(∃xs,o=.lst xs)\/∃xs,o=.fy xs) (h:ew K F H F (upd H a o')->ed K E O F (upd H a o') s' (.ref a)) (f1:∀H:aB,dD H s (.ref a)=[a]:=by intro _;rfl) (f2:∀H:aB,dD H s' (.ref a)=[a]:=by intro _;rfl):
  ew K F H F (upd H a o')/\cN K aK E O F (upd H a o') (ai.set i (some s')) σ:=
 r.Cw e aJ bh (by rw[f1];simp) h λb af=>by
  rw[f2] at af;rw[f1];exact .inl af
end
noncomputable def Lp(K:bc)(f:bZ):TE:=λσ H Q=>∃aK aY O F ai t,cN K aK aY O F H ai σ/\f ai=some t/\∀v aD ag,Ext F H aD ag->f3 K O aD ag t v->Q v ag
noncomputable def zu(K:bc)(f:bZ):TE:=λσ H Q=>∃aK aY O F ai t,cN K aK aY O F H ai σ/\f ai=some t/\∀v aD ag,Ext F H aD ag->Rep K aD ag t v->Q v ag
noncomputable def tN(K:bc)(f:bZ):TE:=λσ H Q=>∃aK aY O F ai ts,cN K aK aY O F H ai σ/\f ai=some (.list ts)/\∀a vs aD ag,Ext F H aD ag->H a=none->¬aD a->ag a=some (.lst vs)->bH K aD ag ts vs->Q (.ref a) ag
noncomputable def Lr(K:bc)(f:fX):TT:=λσ H Q=>∃aK aY O F ai b,cN K aK aY O F H ai σ/\f ai=some b/\∀aD ag,Ext F H aD ag->Q b ag
noncomputable def Rg(K:bc)(aE:List bZ):gk:=λσ H Q=>∃aK aY O F ai ts,cN K aK aY O F H ai σ/\args aE ai=some ts/\∀vs aD ag,Ext F H aD ag->Paired (f3 K O aD ag) ts vs->Q vs ag
noncomputable def af_(K:bc)(aE:List bZ):gk:=λσ H Q=>∃aK aY O F ai ts,cN K aK aY O F H ai σ/\args aE ai=some ts/\∀vs aD ag,Ext F H aD ag->bH K aD ag ts vs->Q vs ag
abbrev eB(X:a3)(e:bx)(f:bZ):Prop:=b0 X e (Lp X.K f)
abbrev cT(X:a3)(e:bx)(f:bZ):Prop:=b0 X e (zu X.K f)
abbrev ao_(X:a3)(e:bx)(f:bZ):Prop:=b0 X e (tN X.K f)
abbrev kS(X:a3)(e:bx)(f:fX):Prop:=jA X e (Lr X.K f)
abbrev t_(X:a3)(e:bx)(f:fX):Prop:=oV X e (Lr X.K f)
abbrev sh(X:a3)(es:List bx)(aE:List bZ):Prop:=gj X es (Rg X.K aE)
abbrev nX(X:a3)(es:List bx)(aE:List bZ):Prop:=gj X es (af_ X.K aE)
def eu{X:a3}{e:bx}{t t':TE}(h:b0 X e t)(k:∀σ H Q,t' σ H Q->t σ H Q):b0 X e t':=λao s σ H Q I q=>h ao s σ H Q I (k σ H Q q)
def xE{X:a3}{e:bx}{t t':TT}(h:jA X e t)(k:∀σ H Q,t' σ H Q->t σ H Q):jA X e t':=λao s σ H Q I q=>h ao s σ H Q I (k σ H Q q)
def Vq{X:a3}{e:bx}{t t':TT}(h:oV X e t)(k:∀σ H Q,t' σ H Q->t σ H Q):oV X e t':=λw ao s σ H Q I q=>h w ao s σ H Q I (k σ H Q q)
def AD{X:a3}{e:List bx}{t t':gk}(h:gj X e t)(k:∀σ H Q,t' σ H Q->t σ H Q):gj X e t':=λpos ao s σ H Q I q=>h pos ao s σ H Q I (k σ H Q q)
def hX{X:a3}{e:Stmt}{t t':f5}(h:h2 X e t)(k:∀D σ H,t' D σ H->t D σ H):h2 X e t':=λao s σ H D I q=>h ao s σ H D I (k D σ H q)
def Am{X:a3}{e:List Stmt}{t t':f5}(h:fY X e t)(k:∀D σ H,t' D σ H->t D σ H):fY X e t':=λao s σ H D I q=>h ao s σ H D I (k D σ H q)
section
variable {X:a3}{e:bx}{f:bZ}
def ax(h:cT X e f):eB X e f:=eu h λσ H Q ⟨aK,aY,O,F,ai,t,r,e,k⟩=>⟨aK,aY,O,F,ai,t,r,e,λv aD ag x q=>k v aD ag x (.inl q)⟩
def QD(h:ao_ X e f)(hf:∀ai t,f ai=some t->∃ts,t=.list ts):cT X e f:=eu h<|by
 rintro σ H Q ⟨aK,aY,O,F,ai,t,r,e,k⟩
 obtain⟨ts,rfl⟩:=hf _ _ e;refine⟨aK,aY,O,F,ai,ts,r,e,λa vs aD ag x bg jn aC q=>?_⟩;have y:Ext F H (λb=>aD b\/b=a) ag:=⟨x.same,λb z=>.inl (x.sub b z),λb z=>by
  rcases z with z|rfl
  ·exact x.new b z
  ·exact .inr bg,⟨λb z=>by
  rcases z with z|rfl
  ·exact x.b' b z
  ·exact⟨_,aC⟩,x.b'.aoN⟩⟩
 refine k (.ref a) _ ag y ?_
 simp only[Rep];exact⟨a,vs,rfl,.inr rfl,.inl aC,q.keep (λ_ _ z=>z) λb _ z w=>⟨.inl z,w⟩⟩
end
end
section
variable [cB]
section
variable {X:a3}{a b c e:bx}{f g h:bZ}{pos:Pos}
def xH{t:T}{v:V}(he:b0 X e (jT v))(ay:∀F H,Rep X.K F H t v):cT X e (ae t):=eu he<|by
 rintro σ H Q ⟨aK,aY,O,F,ai,t',r,e,k⟩
 cases e
 exact k v F H (Ext.refl r.b') (ay _ _)
def aR{i j}:cT X (.Constant (.int i) j pos) (ae (.int i)):=xH EN λ_ _=>by simp[Rep]
def K6{i j}:cT X (.Constant (.bool i) j pos) (ae (.bool i)):=xH N0 λ_ _=>by simp[Rep]
def bS{i j}:cT X (.Constant (.str i) j pos) (ae (.str i)):=xH Ar λ_ _=>by simp[Rep]
def j0{j}:cT X (.Constant .none j pos) (ae .none):=xH amL λ_ _=>by simp[Rep]
def aZ(i:Nat){x:Str}(dz:X.N[i]?=some x:=by rfl)(bh:oX X.env.scope x:=by first|exact Or.inl rfl|exact Or.inr (Or.inl rfl)|exact Or.inr (Or.inr rfl))(hd:(x==("__debug__":Str))=false:=by decide)
  (eg:(x==("__classdict__":Str))=false:=by decide):eB X (.Name x pos) (nm i):=eu (bE i dz bh hd eg) λσ H Q ⟨aK,aY,O,F,ai,t,r,e,k⟩=>by
 unfold nm at e;split at e
 next t' he=>
  cases e
  obtain⟨v,ah,ar⟩:=r.val _ _ he;exact⟨v,ah,k v F H (Ext.refl r.b') (.inl ar)⟩
 next ts he=>
  cases e
  obtain⟨v,ah,a,vs,rfl,n,h0,cR,ay⟩:=r.val _ _ he;exact⟨_,ah,k _ F H (Ext.refl r.b') (.inr ⟨ts,a,vs,rfl,rfl,cR,ay⟩)⟩
 next=>cases e
def a4(i:Nat){x:Str}(dz:X.N[i]?=some x:=by rfl)(bh:oX X.env.scope x:=by first|exact Or.inl rfl|exact Or.inr (Or.inl rfl)|exact Or.inr (Or.inr rfl))(hd:(x==("__debug__":Str))=false:=by decide)
  (eg:(x==("__classdict__":Str))=false:=by decide):cT X (.Name x pos) (au i):=eu (bE i dz bh hd eg) λσ H Q ⟨aK,aY,O,F,ai,t,r,e,k⟩=>by
 unfold au at e;split at e
 next t' he=>
  cases e
  obtain⟨v,ah,ar⟩:=r.val _ _ he;exact⟨v,ah,k v F H (Ext.refl r.b') ar⟩
 next=>cases e
noncomputable def m1(K:bc)(o:T->T->Option T)(R:gC):Prop:=
 ∀(O F:ak->Prop) (H:aB) (x y t:T) (i8 i9:V) (Q:c3),fk F H->f3 K O F H x i8->f3 K O F H y i9->o x y=some t ->
  (∀v aD ag,Ext F H aD ag->Rep K aD ag t v->Q v ag)->R i8 i9 H Q
def r3{o:T->T->Option T}{R:gC}(h:m1 X.K o R):∀σ H Q,zu X.K (aj o f g) σ H Q->apa R (Lp X.K f) (Lp X.K g) σ H Q:=by
 rintro σ H Q ⟨aK,aY,O,F,ai,t,r,e,k⟩;simp only[aj,cm] at e;obtain⟨x,ex,y,fN,e1⟩:=e;refine⟨aK,aY,O,F,ai,x,r,ex,λi8 ba H1 aU aW=>⟨aK,aY,O,ba,ai,y,r.ext aU,fN,λi9 dC bB bP bC=>?_⟩⟩;exact h O dC bB x y t i8 i9 Q bP.b' (aW.ext bP) bC e1 λv aD ag gM df=>k v aD ag ((aU.trans bP).trans gM) df
def Inv.wB{ao:List (ak×Obj)}{σ:bA.St}{H:aB}{s:aH}{l:ak}{xs:List V}(I:Inv X ao σ H s)(eK:fZ H l (.lst xs)):
  xs.length<=cj/\∃(its:List aq) (n:Nat),Vals xs its/\xs.length=its.length/\s.heap.get? l=some {cls:=.type "list",data:=.seq its.toArray n}:=by
 obtain⟨z,its,n,r,e⟩:=eK.ok I.bL;exact⟨z,its,n,r,r.length,e⟩
noncomputable def anx:gC:=λx y H Q=>∃l b xs zs,x=.ref l/\y=.ref b/\fZ H l (.lst xs)/\fZ H b (.lst zs)/\xs.length+zs.length<=cj/\∀p,H p=none->Q (.ref p) (upd H p (.lst (xs++zs)))
def alO:eQ X (nI .Add) anx:=by
 intro ao s σ H x y v u Q I aW bC h;obtain⟨l,b,xs,zs,rfl,rfl,eK,yq,hz,q⟩:=h;cases aW;cases bC;obtain⟨z,its,n,r,aG,e⟩:=Inv.wB I eK;obtain⟨gB,ix,fp,b4,wq,aM⟩:=Inv.wB I yq;refine PySem.P.add_list e aM ?_ (by rw[eG,eG];omega);have ea:its.toArray++ix.toArray=(its++ix).toArray:=by simp
 rw[ea];exact⟨.ref _,_,I.y1 (t':=s.toks) (r.append b4) (by rw[l8];omega),rfl,q _ I.fresh⟩
noncomputable def amw(K:bc):gC:=λx y H Q=>∃a b ys,x=.ref a/\y=.ref b/\dc K H a []/\dc K H b ys/\Q (.ref b) H
def akL:eQ X (nI .Add) (amw X.K):=by
 intro ao s σ H x y v u Q I aW bC h;obtain⟨a,b,ys,rfl,rfl,aC,af,q⟩:=h;cases aW;cases bC;obtain⟨its,bk,nk,_⟩:=I.tuple aC;obtain⟨ix,b4,eT,_⟩:=I.tuple af;have He:its=[]:=bk.Cz.mpr rfl;subst He;obtain⟨⟨cls,dd,data,cz⟩,aJ,aw,n,hd⟩:=id nk;obtain⟨⟨G9,n3,data2,iD⟩,uE,kB,fp,hd2⟩:=id eT;simp only at aw hd kB hd2;subst aw hd kB hd2;exact concat_meets ⟨_,aJ,rfl⟩ ⟨_,uE,rfl⟩ noFill_tuple_add seq_tuple_add PySem.F.slot_tuple_add PySem.F.entry_tuple_add (PySem.F.args_tuple_add_2 _ _)
   (tuple_addW0 a b ([]:List aq).toArray ix.toArray n fp dd n3 cz iD (by simp)) ⟨aJ,uE,⟨.ref b,H,I,rfl,q⟩⟩
def ma:cj=big:=by rw[jW];rfl
def fK(aC:eB X a f)(af:eB X b g):cT X (.BinOp a .Add b pos) (aj bV f g):=
 eu (xI (amT.or (aiP.or (akL.or (alN.or alO)))) aC af) (r3 (by
  intro O F H x y t i8 i9 Q d aW bC e k;unfold bV at e;split at e
  ·cases e
   rw[aW.int,bC.int];exact .inl ⟨_,_,rfl,rfl,k _ F H (Ext.refl d) (by simp[Rep])⟩
  ·split at e
   next hz=>
    cases e
    rw[aW.str,bC.str];exact .inr (.inl ⟨_,_,rfl,rfl,by rw[ma];exact hz,k _ F H (Ext.refl d) (by simp[Rep])⟩)
   next=>cases e
  ·split at e
   next xs ys hz=>
    cases e
    obtain⟨ub,vs,rfl,aA,ay⟩:=aW.tup;obtain⟨Yh,ws,rfl,od,uH⟩:=bC.tup;cases xs with
    |nil=>
     simp only[bH] at ay;subst ay;refine .inr (.inr (.inl ⟨_,_,_,rfl,rfl,aA,od,k _ F H (Ext.refl d) ?_⟩));simp only[Rep];exact⟨_,_,rfl,od,by simpa using uH⟩
    |cons x0 RC=>
     refine .inr (.inr (.inr (.inl ⟨_,_,_,_,rfl,rfl,aA,od,?_,?_,λbO=>?_,λbO p aL=>?_⟩)))
     ·intro z;subst z;have:=ay.length;simp at this
     ·rw[ma,<- ay.length,<- uH.length];exact hz
     ·refine k _ F H (Ext.refl d) ?_
      subst bO;have az:ys=[]:=List.eq_nil_of_length_eq_zero (by rw[uH.length];rfl);subst az;simp only[Rep];exact⟨_,_,rfl,aA,by simpa using ay⟩
     ·have aU:=Ext.laid (o:=.tup (vs++ws)) d aL;refine k _ F _ aU ?_;simp only[Rep];exact⟨p,_,rfl,dc.of dV,(ay.append uH).ext aU⟩
   next=>cases e
  ·split at e
   next xs ys hz=>
    cases e
    obtain⟨ub,vs,rfl,aA,ay⟩:=aW.lst;obtain⟨Yh,ws,rfl,od,uH⟩:=bC.lst;refine .inr (.inr (.inr (.inr ⟨_,_,_,_,rfl,rfl,aA,od,by rw[ma,<- ay.length,<- uH.length];exact hz,λp aL=>?_⟩)));have aU:=Ext.Kd (o:=.lst (vs++ws)) d aL;refine k _ _ _ aU ?_;simp only[Rep];exact⟨p,_,rfl,.inr rfl,.inl dV,(ay.append uH).ext aU⟩
   next=>cases e
  ·cases e))
noncomputable def akB:V->List V->aB->c3->Prop:=λx vs H Q=>∃l b xs zs,x=.ref l/\vs=[.ref b]/\H l=some (.lst xs)/\fZ H b (.lst zs)/\xs.length+zs.length<=cj/\Q .dT (upd H l (.lst (xs++zs)))
def ai0:xX X "list.extend" akB:=by
 intro ao s σ H x vs v us Q I aW bW h;obtain⟨l,b,xs,zs,rfl,rfl,eK,yq,hz,q⟩:=h;cases aW;obtain⟨u,rfl,c1⟩:=bW.one;cases c1;obtain⟨z,its,n,r,aG,e⟩:=I.Cu eK;obtain⟨gB,ix,fp,b4,wq,aM⟩:=Inv.wB I yq;have hsz:its.toArray.size+ix.toArray.size<=cj:=by rw[eG,eG];omega
 have yF:¬(!its.toArray.isEmpty && Builtin.List.listTooLong (its.toArray.size+ix.toArray.size))=true:=by
  rw[MZ hsz,Bool.and_false];exact mG
 refine pO F.slot_list_extend ⟨_,e,rfl⟩ F.entry_list_extend (F.args_list_extend_2 _ _)
  (AutoSeq1.list_extend_list_list_0 l its.toArray n b ix.toArray fp yF (by rw[eG];omega) (by omega)) ⟨e,aM,?_⟩
 refine⟨.dT,_,I.Ct (its':=its++ix) eK e (by simp) (r.append b4) ?_,rfl,q⟩
 rw[l8];omega
def NY(aC:eB X a f)(af:eB X b g):cT X (.BinOp a .Sub b pos) (aj aoR f g):=
 eu (xI amP aC af) (r3 (by
  intro O F H x y t i8 i9 Q d aW bC e k;unfold aoR at e;split at e
  ·cases e
   rw[aW.int,bC.int];exact⟨_,_,rfl,rfl,k _ F H (Ext.refl d) (by simp[Rep])⟩
  ·cases e))
def tJ(aC:eB X a f)(af:eB X b g):cT X (.BinOp a .Mult b pos) (aj dU f g):=
 eu (xI amQ aC af) (r3 (by
  intro O F H x y t i8 i9 Q d aW bC e k;unfold dU at e;split at e
  ·split at e
   next hm=>
    cases e
    rw[aW.int,bC.int];refine⟨_,_,rfl,rfl,?_,k _ F H (Ext.refl d) (by simp[Rep])⟩;simpa [xN,AM] using hm
   next=>cases e
  ·cases e))
def g8(aC:eB X a f)(af:eB X b g):cT X (.BinOp a .FloorDiv b pos) (aj oDiv f g):=
 eu (xI alM aC af) (r3 (by
  intro O F H x y t i8 i9 Q d aW bC e k;unfold oDiv at e;split at e
  ·split at e
   next hm=>
    cases e
    rw[aW.int,bC.int];exact⟨_,_,rfl,rfl,hm,k _ F H (Ext.refl d) (by simp[Rep])⟩
   next=>cases e
  ·cases e))
def e'(aC:eB X a f)(af:eB X b g):cT X (.BinOp a .Mod b pos) (aj oMod f g):=
 eu (xI amR aC af) (r3 (by
  intro O F H x y t i8 i9 Q d aW bC e k;unfold oMod at e;split at e
  ·split at e
   next hm=>
    cases e
    rw[aW.int,bC.int];exact⟨_,_,rfl,rfl,hm,k _ F H (Ext.refl d) (by simp[Rep])⟩
   next=>cases e
  ·cases e))
def cg(aC:eB X a f)(af:eB X b g)(aA:UP b:=by intro _ _;rfl):cT X (.Subscript a b pos) (aj aT f g):=
 eu (anG am4 aC af aA) (r3 (by
  intro O F H x y t i8 i9 Q d aW bC e k;unfold aT at e;split at e
  ·obtain⟨ub,vs,rfl,aA,ay⟩:=aW.tup;rw[bC.int];simp only[eI,cm] at e;obtain⟨j,bU,bY⟩:=e;obtain⟨v,bh,bW⟩:=ay.get bY;refine .inr (.inl ⟨_,_,_,v,rfl,rfl,aA,?_,k _ F H (Ext.refl d) bW⟩);rw[ay.length] at bU;show (sS _ _).bind _=_;rw[show sS vs.length _=some j from bU];exact bh
  ·obtain⟨ub,vs,rfl,aA,ay⟩:=aW.lst;rw[bC.int];simp only[eI,cm] at e;obtain⟨j,bU,bY⟩:=e;obtain⟨v,bh,bW⟩:=ay.get bY;refine .inl ⟨_,_,_,v,rfl,rfl,.inl aA,?_,k _ F H (Ext.refl d) bW⟩;rw[ay.length] at bU;show (sS _ _).bind _=_;rw[show sS vs.length _=some j from bU];exact bh
  ·split at e
   next hz=>
    rw[aW.str,bC.int];simp only[dO] at e;obtain⟨c,aw,rfl⟩:=e;exact .inr (.inr ⟨_,_,c,rfl,rfl,by rw[ma];exact hz,aw,k _ F H (Ext.refl d) (by simp[Rep])⟩)
   next=>cases e
  ·cases e))
end
end
section
variable [cB]
noncomputable def AP(K:bc)(aK:ak->Prop)(aY:gi)(O F:ak->Prop)(H:aB)(D:Ends):Out->Prop
|.bI ε'=>∀ck aD ag,ew K F H aD ag->cN K aK aY O aD ag ε' ck->D.bI ck ag
|.dn t=>∀v aD ag,Ext aK aY.h aD ag->Rep K aD ag t v->D.dn v ag
|.l0 t ε'=>∀v ck aD ag,cN K aK aY O aD ag ε' ck->Rep K aD ag t v->D.dn v ag
|.mz s=>∀a aD ag,Ext aK aY.h aD ag->ed K aY O aD ag s (.ref a)->D.dn (.ref a) ag
|.gR ε'=>∀ck aD ag,ew K F H aD ag->cN K aK aY O aD ag ε' ck->D.gR ck ag
|.cQ ε'=>∀ck aD ag,ew K F H aD ag->cN K aK aY O aD ag ε' ck->D.cQ ck ag
noncomputable def Rl(K:bc)(g:bJ):f5:=λD σ H=>∃aK aY O F ai o,cN K aK aY O F H ai σ/\g ai=some o/\AP K aK aY O F H D o
abbrev gP(X:a3)(s:Stmt)(g:bJ):Prop:=h2 X s (Rl X.K g)
abbrev j2(X:a3)(s:List Stmt)(g:bJ):Prop:=fY X s (Rl X.K g)
def AP.aF{K:bc}{aK O F ba:ak->Prop}{aY:gi}{H H1:aB}{D:Ends}{o:Out}(h:AP K aK aY O F H D o)(x:ew K F H ba H1):AP K aK aY O ba H1 D o:=by
 cases o with
|bI ai=>exact λck aD ag k r=>h ck aD ag (x.trans k) r
|dn t=>exact h
|gR ai=>exact λck aD ag k r=>h ck aD ag (x.trans k) r
|cQ ai=>exact λck aD ag k r=>h ck aD ag (x.trans k) r
|l0 t ai=>exact h
|mz s=>exact h
section
variable {X:a3}{e a b c:bx}{f:bZ}{g g':bJ}{fl:fX}{st:Stmt}{rest:List Stmt}{pos:Pos}
def eH:j2 X [] skip:=Am Uq<|by
 rintro D σ H ⟨aK,aY,O,F,ai,o,r,e,k⟩
 cases e
 exact k σ F H ew.refl r
def bQ(h:gP X st g):j2 X [st] g:=vB h
def bz(ah:gP X st g)(ar:j2 X rest g'):j2 X (st::rest) (seq g g'):=Am (vy ah ar)<|by
 rintro D σ H ⟨aK,aY,O,F,ai,o,r,e,k⟩
 simp only[seq,cm] at e;obtain⟨d3,az,aM⟩:=e;refine⟨aK,aY,O,F,ai,d3,r,az,?_⟩;cases d3 with
|bI ε'=>exact λck aD ag x cy=>⟨aK,aY,O,aD,ε',o,cy,aM,k.aF x⟩
|dn t=>
  cases aM
  exact k
|gR ε'=>
  cases aM
  exact k
|cQ ε'=>
  cases aM
  exact k
|l0 t ε'=>
  cases aM
  exact k
|mz s=>
  cases aM
  exact k
def ei(h:cT X e f):gP X (.Return (some e) pos) (b9 f):=hX (vK h)<|by
 rintro D σ H ⟨aK,aY,O,F,ai,o,r,e,k⟩
 simp only[b9,dO] at e;obtain⟨t,bY,rfl⟩:=e;exact⟨aK,aY,O,F,ai,t,r,bY,λv aD ag x q=>k v aD ag (r.ent.trans x) q⟩
def Ao(i:Nat){x:Str}{uV:Pos}(dz:X.N[i]?=some x:=by rfl)(bh:oX X.env.scope x:=by first|exact Or.inl rfl|exact Or.inr (Or.inl rfl)|exact Or.inr (Or.inr rfl))(hd:(x==("__debug__":Str))=false:=by decide)
  (eg:(x==("__classdict__":Str))=false:=by decide):gP X (.Return (some (.Name x uV)) pos) (b9 (nm i)):=hX (vK (bE i dz bh hd eg)) λD σ H ⟨aK,aY,O,F,ai,o,r,e,k⟩=>by
 simp only[b9,dO] at e;obtain⟨t,bY,rfl⟩:=e;unfold nm at bY;split at bY
 next t' he=>
  cases bY
  obtain⟨v,ah,ar⟩:=r.val _ _ he;exact⟨v,ah,k v F H r.ent ar⟩
 next ts he=>
  cases bY
  obtain⟨v,ah,a,vs,rfl,n,h0,aC,q⟩:=r.val _ _ he;have bP:=r.ent;have y:Ext aK aY.h (λb=>F b\/b=a) H:=⟨bP.same,λb z=>.inl (bP.sub b z),λb z=>by
   rcases z with z|rfl
   ·exact bP.new b z
   ·exact .inr (r.o0 _ h0),⟨λb z=>by
   rcases z with z|rfl
   ·exact bP.b' b z
   ·exact⟨_,aC⟩,bP.b'.aoN⟩⟩
  refine⟨_,ah,k _ _ H y ?_⟩
  simp only[Rep];exact⟨a,vs,rfl,.inr rfl,.inl aC,q.keep (λ_ _ z=>z) λb _ z w=>⟨.inl z,w⟩⟩
 next=>cases bY
def dB(aw:kS X c fl)(aC:j2 X rest g){yi:List Stmt}(af:j2 X yi g'):gP X (.If c rest yi pos) (iff fl g g'):=hX (NZ aw aC af)<|by
 rintro D σ H ⟨aK,aY,O,F,ai,o,r,e,k⟩
 simp only[iff,cm] at e;obtain⟨b,dW,e⟩:=e;refine⟨aK,aY,O,F,ai,b,r,dW,λaD ag x=>?_⟩;cases b with
|true=>exact uO ⟨aK,aY,O,aD,ai,o,r.ext x,by simpa using e,k.aF x.aF⟩
|false=>exact yR ⟨aK,aY,O,aD,ai,o,r.ext x,by simpa using e,k.aF x.aF⟩
def cX(i:Nat){x:Str}{pos':Pos}(dz:X.N.Nodup)(he:cT X e f)(aP:X.N[i]?=some x:=by rfl)(hx:Loc X.env.scope x:=by first|exact Or.inl rfl|exact Or.inr rfl)
  (aA:kP e (some (.Name x pos')) pos.line X.env=pure false:=by rfl) (hf:X.fn x=true\/X.env.scope.names.lookup x=some .local:=by first|exact .inl rfl|exact .inr rfl):
  gP X (.Assign [.Name x pos'] e pos) (asg i f):=hX (tD dz aP hx he aA hf) λD σ H ⟨aK,aY,O,F,ai,o,r,e,k⟩=>by
 simp only[asg,dO] at e;obtain⟨t,bY,rfl⟩:=e;refine⟨aK,aY,O,F,ai,t,r,bY,λv aD ag x q=>?_⟩;exact k _ aD ag x.aF ((r.ext x).set i q)
def U0(i:Nat){x:Str}{pos':Pos}(dz:X.N.Nodup)(he:ao_ X e f)(aP:X.N[i]?=some x:=by rfl)(hx:Loc X.env.scope x:=by first|exact Or.inl rfl|exact Or.inr rfl)
  (aA:kP e (some (.Name x pos')) pos.line X.env=pure false:=by rfl) (hf:X.fn x=true\/X.env.scope.names.lookup x=some .local:=by first|exact .inl rfl|exact .inr rfl):
  gP X (.Assign [.Name x pos'] e pos) (hr i f):=hX (tD dz aP hx he aA hf) λD σ H ⟨aK,aY,O,F,ai,o,r,e,k⟩=>by
 simp only[hr,cm] at e;obtain⟨t,bY,e⟩:=e;split at e
 next ts=>
  cases e
  refine⟨aK,aY,O,F,ai,ts,r,bY,λa vs aD ag x bg jn aC q=>?_⟩
  exact k _ aD ag x.aF (r.Q5 (s:=.own ts) i x ⟨a,vs,rfl,jn,r.fr a bg,aC,q⟩ λb af=>by
   have:b=a:=by simpa [dD,i6] using af
   rw[this];exact bg)
 next=>cases e
noncomputable def tG(K:bc)(g:jf):oW:=λv σ H Q=>∃aK aY O F ai t ε',cN K aK aY O F H ai σ/\Rep K F H t v/\g t ai=some ε'/\∀ck,cN K aK aY O F H ε' ck->Q ck H
noncomputable def agc(K:bc)(f_:List jf):q5:=λvs σ H Q=>∃aK aY O F ai ts ε',cN K aK aY O F H ai σ/\bH K F H ts vs/\gI f_ ts ai=some ε'/\∀ck,cN K aK aY O F H ε' ck->Q ck H
abbrev p3(X:a3)(e:bx)(g:jf):Prop:=sk X e (tG X.K g)
abbrev AV(X:a3)(es:List bx)(f_:List jf):Prop:=ao' X es (agc X.K f_)
def Vs{X:a3}{e:bx}{t t':oW}(h:sk X e t)(k:∀v σ H Q,t' v σ H Q->t v σ H Q):sk X e t':=λao s σ H v u Q I r q=>h ao s σ H v u Q I r (k v σ H Q q)
def UQ{X:a3}{e:List bx}{t t':q5}(h:ao' X e t)(k:∀v σ H Q,t' v σ H Q->t v σ H Q):ao' X e t':=λao s σ H v u Q I r q=>h ao s σ H v u Q I r (k v σ H Q q)
def e2(i:Nat){x:Str}(dz:X.N.Nodup)(aP:X.N[i]?=some x:=by rfl)(hx:Loc X.env.scope x:=by first|exact Or.inl rfl|exact Or.inr rfl)
  (hf:X.fn x=true\/X.env.scope.names.lookup x=some .local:=by first|exact .inl rfl|exact .inr rfl):p3 X (.Name x pos) (bw i):=Vs (alD dz aP hx hf) λv σ H Q ⟨aK,aY,O,F,ai,t,ε',r,q,e,k⟩=>by
 cases e
 exact k _ (r.set i q)
def ao8:AV X [] []:=UQ alC<|by
 rintro vs σ H Q ⟨aK,aY,O,F,ai,ts,ε',r,q,e,k⟩
 cases ts with
|nil=>
  cases e
  simp only[bH] at q;exact⟨q,k σ r⟩
|cons t ts=>cases e
def km{es:List bx}{g:jf}{f_:List jf}(ah:p3 X e g)(ar:AV X es f_)(aA:(pN (e::es) X.env).map (·.2)=assign e X.env::(pN es X.env).map (·.2):=by rfl):AV X (e::es) (g::f_):=
 UQ (akG ah ar aA) λvs σ H Q ⟨aK,aY,O,F,ai,ts,ε',r,q,e,k⟩=>by
 cases ts with
|nil=>cases e
|cons t ts=>
  simp only[gI,cm] at e;obtain⟨kq,az,aM⟩:=e;simp only[bH] at q;obtain⟨v,LD,rfl,aQ,bu⟩:=q;exact⟨v,LD,rfl,aK,aY,O,F,ai,t,kq,r,aQ,az,λN7 bk=>⟨aK,aY,O,F,kq,ts,ε',bk,bu,aM,k⟩⟩
theorem T2:∀{f_:List jf} {ts:List T} {ai ε':Ev},gI f_ ts ai=some ε'->ts.length=f_.length
| [],[],_,_,_=>rfl
| [],_::_,_,_,h=>by cases h
|_::_,[],_,_,h=>by cases h
|g::f_,t::ts,ai,ε',h=>by
  simp only[gI,cm] at h;obtain⟨kq,_,h⟩:=h;simp[T2 h]
def ao7{es:List bx}{k:Nat}{f_:List jf}(h:AV X es f_)(aw:X.calm=true:=by rfl)(bg:(pN es X.env).length=f_.length:=by rfl)(hy:(pN es X.env).findIdx? (·.1)=none:=by rfl):
  p3 X (.Tuple es k pos) (dv f_):=Vs (amJ aw h bg hy) λv σ H Q ⟨aK,aY,O,F,ai,t,ε',r,q,e,k⟩=>by
 unfold dv at e;split at e
 next ts=>
  simp only[Rep] at q;obtain⟨a,vs,rfl,aA,ay⟩:=q;exact⟨a,vs,rfl,aA,by rw[<- ay.length];exact T2 e,aK,aY,O,F,ai,ts,ε',r,ay,e,k⟩
 next=>cases e
def amq{c9:bx}{g:jf}(he:cT X e f)(bq:p3 X c9 g)(aA:swapsWithSole [c9] e pos.line X.env=pure false:=by rfl)(hw:swappedStores [c9] e X.env=pure none:=by rfl)
  (ah:(pN [c9] X.env).map (·.2)=[assign c9 X.env]:=by rfl):gP X (.Assign [c9] e pos) (iP g f):=hX (amI he bq aA hw ah) λD σ H ⟨aK,aY,O,F,ai,o,r,e,k⟩=>by
 simp only[iP,cm,dO] at e;obtain⟨t,bY,ε',lP,rfl⟩:=e;refine⟨aK,aY,O,F,ai,t,r,bY,λv aD ag x q=>?_⟩;exact⟨aK,aY,O,aD,ai,t,ε',r.ext x,q,lP,λck cy=>k ck aD ag x.aF cy⟩
structure sf(K:bc)(J:mZ)(ba:ak->Prop)(H1:aB)(ts:List T):Prop where
 go:∀i F H t,ew K ba H1 F H->fk F H->ts[i]?=some t->J.go i H
 pP:∀i F H t x ag,ew K ba H1 F H->fk F H->ts[i]?=some t->J.pP i H x ag->∃aD,Ext F H aD ag/\Rep K aD ag t x
 stop:∀i F H,ew K ba H1 F H->ts.length<=i->J.stop i H
noncomputable def tI(K:bc)(f:mX):TI:=λσ H R=>∃aK aY O F ai ts,cN K aK aY O F H ai σ/\f ai=some ts/\∀J aD ag,Ext F H aD ag->sf K J aD ag ts->R J ag
abbrev q1(X:a3)(c9 e:bx)(f:mX):Prop:=sl X c9 e (tI X.K f)
def ES{X:a3}{c9 e:bx}{t t':TI}(h:sl X c9 e t)(k:∀σ H R,t' σ H R->t σ H R):sl X c9 e t':=λao s σ H R I q=>h ao s σ H R I (k σ H R q)
def ajY{K:bc}{a:ak}{ba:ak->Prop}{H1:aB}{ts:List T}{vs:List V}(cp:ba a)(ay:fZ H1 a (.lst vs))(q:bH K ba H1 ts vs):sf K (Fj K a) ba H1 ts where
 go:=λi F H t aF d e=>by
  obtain⟨v,ah,_⟩:=q.get e;exact⟨vs,v,.inl (aF.lst _ _ cp ay).2,ah⟩
 pP:=λi F H t x ag aF d e y=>by
  obtain⟨rfl,y⟩:=y;obtain⟨v,ah,ar⟩:=(q.aF aF).get e;have:=y vs (.inl (aF.lst _ _ cp ay).2);rw[ah] at this;cases this;exact⟨F,Ext.refl d,ar⟩
 stop:=λi F H aF aG=>⟨vs,.inl (aF.lst _ _ cp ay).2,by rw[<- q.length];exact aG⟩
def ak0{K:bc}{a:ak}{ba:ak->Prop}{H1:aB}{ts:List T}{vs:List V}(ay:dc K H1 a vs)(q:bH K ba H1 ts vs):sf K (Fl K a) ba H1 ts where
 go:=λi F H t aF d e=>by
  obtain⟨v,ah,_⟩:=q.get e;exact⟨vs,v,aF.tup _ _ ay,ah⟩
 pP:=λi F H t x ag aF d e y=>by
  obtain⟨rfl,y⟩:=y;obtain⟨v,ah,ar⟩:=(q.aF aF).get e;have:=y vs (aF.tup _ _ ay);rw[ah] at this;cases this;exact⟨F,Ext.refl d,ar⟩
 stop:=λi F H aF aG=>⟨vs,aF.tup _ _ ay,by rw[<- q.length];exact aG⟩
def Nk(lo aP:Int):(lZ lo aP).length=(aP - lo).toNat:=by simp[lZ]
def ak1{K:bc}{ba:ak->Prop}{H1:aB}(lo aP:Int):sf K (AR lo (aP - lo).toNat) ba H1 (lZ lo aP) where
 go:=λi F H t aF d e=>by
  have h:=(g6.mp e).1;rw[Nk] at h;exact h
 pP:=λi F H t x ag aF d e y=>by
  obtain⟨rfl,rfl⟩:=y;refine⟨F,Ext.refl d,?_⟩;have h:=(g6.mp e).1;rw[Nk] at h;unfold lZ at e;rw[kL,List.getElem?_range h] at e;simp at e;subst e;simp[Rep]
 stop:=λi F H aF aG=>by
  rw[Nk] at aG;exact aG
noncomputable def aaY(K:bc)(h9:TE):TI:=λσ H R=>h9 σ H λx H1=>∃a,x=.ref a/\(((∃xs,fG K H1 a xs)/\R (Fj K a) H1)\/((∃xs,dc K H1 a xs)/\R (Fl K a) H1))
def anE{c9 l:bx}{h9:TE}(aG:b0 X l h9):sl X c9 l (aaY X.K h9):=by
 intro ao s σ H R I h;refine cK (aG ao s σ H _ I h) λv s1 hqq=>?_;obtain⟨x,H1,bj,bk,a,az,q⟩:=hqq;subst az;cases bk;have cC:∀b∈[s1.heap.objs.size],il X ao H1 b:=λb af=>by
  have e:b=s1.heap.objs.size:=by simpa using af
  subst e;exact bj.wi (dQ _) (bj.bL.fresh (dQ _))
 rcases q with ⟨⟨xs,a5⟩,q⟩|⟨⟨xs,a5⟩,q⟩
 ·obtain⟨its,bW,p,hz⟩:=bj.list a5;refine wpAny_pyIter_list p.isList ?_;exact⟨s1.heap.objs.size,[s1.heap.objs.size],_,_,H1,rfl,bj.kept (t':=s1.toks) λb o e=>cW _ e,ajq a _,⟨_,fR _ rfl,rfl,rfl⟩,cC,q⟩
 ·obtain⟨its,bW,p,hz⟩:=bj.tuple a5;refine rP (show s1.heap.IsTuple a its.toArray from p) ?_;exact⟨s1.heap.objs.size,[s1.heap.objs.size],_,_,H1,rfl,bj.kept (t':=s1.toks) λb o e=>cW _ e,aiF a _,⟨_,fR _ rfl,rfl,rfl⟩,cC,q⟩
def ko{c9 l:bx}{f:bZ}(aG:cT X l f):q1 X c9 l (dy f):=ES (anE aG)<|by
 rintro σ H R ⟨aK,aY,O,F,ai,ts,r,e,k⟩
 simp only[dy,cm] at e;obtain⟨t,bY,e⟩:=e;split at e
 ·cases e
  refine⟨aK,aY,O,F,ai,_,r,bY,λv aD ag x q=>?_⟩
  simp only[Rep] at q;obtain⟨a,vs,rfl,aA,ay⟩:=q;exact⟨a,rfl,.inr ⟨⟨vs,aA⟩,k _ aD ag x (ak0 aA ay)⟩⟩
 ·cases e
  refine⟨aK,aY,O,F,ai,_,r,bY,λv aD ag x q=>?_⟩
  simp only[Rep] at q;obtain⟨a,vs,rfl,cp,aA,ay⟩:=q;exact⟨a,rfl,.inl ⟨⟨vs,.inl aA⟩,k _ aD ag x (ajY cp aA ay)⟩⟩
 ·cases e
def NP{c9 a:bx}{f:bZ}{p pos:Pos}(hm:X.mg "range"=none)(aC:eB X a f)(bq:ee X "range":=by rfl)(aA:bl [a] X.env=[(false,eval a X.env)]:=by rfl)(i0:bl [a] X.env=(false,eval a X.env)::bl [] X.env:=by rfl):
  q1 X c9 (.Call (.Name "range" p) [a] [] pos) (jX f):=ES (ajG bq hm (fu aC hJ i0) aA) λσ H R ⟨aK,aY,O,F,ai,ts,r,e,k⟩=>by
 simp only[jX,cm] at e;obtain⟨t,bY,e⟩:=e;split at e
 next j=>
  split at e
  next hz=>
   cases e
   refine⟨aK,aY,O,F,ai,_,r,bY,λv aD ag x q=>⟨j,by rw[q.int],?_,?_,k _ aD ag x (by simpa using ak1 0 j)⟩⟩
   ·simp[ao4] at hz;omega
   ·simp[ao4] at hz;omega
  next=>cases e
 next=>cases e
def nS{c9 iter:bx}{body:List Stmt}{it:mX}{iW:jf}{ya:bJ}(aL:PassesOwn (unop%Wk 0) X.A X.env X.dm)(aP:q1 X c9 iter it)(bq:p3 X c9 iW)(af:j2 X body ya)(aw:X.calm=true:=by rfl)
  (aA:∀x,wX iter X.env x=pure x:=by intro _;rfl):gP X (.For c9 iter body [] pos) (d1 it iW ya):=hX (amH aL aw aP bq af aA) λD σ H ⟨aK,aY,O,F,ai,o,r,e,k⟩=>by
 simp only[d1,cm] at e;obtain⟨ts,bY,e⟩:=e;refine⟨aK,aY,O,F,ai,ts,r,bY,λJ ba H1 aU ok=>?_⟩;refine⟨λi m ck ag=>m=ts.length - i/\i<=ts.length/\∃aD ε' ,ew X.K ba H1 aD ag/\cN X.K aK aY O aD ag ε' ck/\forL iW ya (ts.drop i) ε'=some o,⟨_,rfl,oE _,ba,ai,ew.refl,r.ext aU,by simpa using e⟩,?_⟩;rintro i m ck ag ⟨rfl,BM,aD,ε',aF,cy,bD⟩;by_cases eL:i<ts.length
 ·have hd:ts.drop i=ts[i]::ts.drop (i+1):=List.drop_eq_getElem_cons eL;have yB:ts[i]?=some ts[i]:=jv eL;rw[hd] at bD;simp only[forL,cm] at bD;obtain⟨kq,lP,d3,dW,bD⟩:=bD;refine .inr ⟨ok.go i aD ag _ aF cy.b' yB,λxR bB=>∃qo,qo<ts.length - i/\(qo=ts.length - (i+1)/\i+1<=ts.length/\∃dC kr,ew X.K ba H1 dC bB/\cN X.K aK aY O dC bB kr xR/\forL iW ya (ts.drop (i+1)) kr=some o),λ_ _ z=>z,λx bB y=>?_⟩;obtain⟨dC,bP,aW⟩:=ok.pP i aD ag _ x bB aF cy.b' yB y;refine⟨aK,aY,O,dC,ε',_,kq,cy.ext bP,aW,lP,λnU jN=>⟨aK,aY,O,dC,kq,d3,jN,dW,?_⟩⟩;have qm:ew X.K ba H1 dC bB:=aF.trans bP.aF;cases d3 with
  |bI kr=>exact λN8 p2 me nh qq=>⟨_,by omega,rfl,eL,p2,kr,qm.trans nh,qq,bD⟩
  |cQ kr=>exact λN8 p2 me nh qq=>⟨_,by omega,rfl,eL,p2,kr,qm.trans nh,qq,bD⟩
  |gR kr=>
   cases bD
   exact λN8 p2 me nh qq=>k N8 p2 me ((aU.aF.trans qm).trans nh) qq
  |dn t=>
   cases bD
   exact k
  |l0 t kr=>
   cases bD
   exact k
  |mz s=>
   cases bD
   exact k
 ·have hd:ts.drop i=[]:=List.drop_eq_nil_of_le (by omega);rw[hd] at bD;cases bD;exact .inl ⟨ok.stop i aD ag aF (by omega),k ck aD ag (aU.aF.trans aF) cy⟩
def ans(i:Nat){x:Str}{gb apos d6:Pos}(he:eB X e f)(dz:X.N[i]?=some x:=by rfl)(bh:oX X.env.scope x:=by first|exact Or.inl rfl|exact Or.inr (Or.inl rfl)|exact Or.inr (Or.inr rfl))(hd:(x==("__debug__":Str))=false:=by decide)
  (eg:(x==("__classdict__":Str))=false:=by decide) (aoV:bl [e] X.env=(false,eval e X.env)::bl [] X.env:=by rfl)
  (nd:ki (.Name x gb) "extend" X.env (eval (.Name x gb) X.env)=eval (.Name x gb) X.env:=by rfl)
  (rj:((c' d6 (bl [e] X.env)).all (λx=>!x.1) && (fT d6 (fS [] X.env)).all (λx=>x.1.isSome)
   && decide (([e]:List bx).length+([]:List Keyword).length+(if ([]:List Keyword).isEmpty then 0 else 1)<30))=true:=by rfl)
  (nf:(apos.endLine==d6.line)=true:=by rfl) (ro:(c' d6 (bl [] X.env)).any (·.1)=false:=by rfl)
  (pj:kP (unop%WW 0) none pos.line X.env=pure false:=by rfl):
  gP X (.Expr (unop%WW 0) pos) (ext i f):=
 hX (Aj (xJ wY PySem.F.slot_list_extend PySem.F.type_list_extend ai0 (bE i dz bh hd eg) (fu he hJ aoV) nd rj nf aoV ro) pj) λD σ H ⟨aK,aY,O,F,ai,o,r,e,k⟩=>by
 unfold ext at e;split at e
 next ts he=>
  simp only[cm] at e;obtain⟨t,bY,e⟩:=e;split at e
  next us=>
   split at e
   next hz=>
    cases e
    obtain⟨v,ah,a,vs,rfl,n,h0,cR,ay⟩:=r.val _ _ he;refine⟨_,ah,.inl ⟨rfl,_,fG.of cR⟩,aK,aY,O,F,ai,_,r,bY,λv aD ag x q=>?_⟩;obtain⟨b,ws,rfl,af,hw⟩:=q.lst;have bk:=r.ext x;obtain⟨v1,dN,a1,apb,az,ey,_i,yC,oc⟩:=bk.val _ _ he;rw[ah] at dN;cases dN;cases az;refine⟨a,b,apb,ws,rfl,rfl,yC,af,by rw[ma,<- oc.length,<- hw.length];exact hz,?_⟩;obtain⟨aF,b4⟩:=bk.mut (s':=.own (ts++us)) (o':=.lst (apb++ws)) he rfl ah ey h0 yC (.inl ⟨_,rfl⟩) λaF=>⟨a,_,rfl,ey,h0,dV,(oc.aF aF).append (hw.aF aF)⟩;exact k σ aD _ (x.aF.trans aF) b4
   next=>cases e
  next=>cases e
 next=>cases e
end
end
section
variable [cB]
section
variable {X:a3}{a b c e:bx}{es:List bx}{f g h:bZ}{aE:List bZ}{fl gt:fX}{pos p:Pos}
def kn:sh X [] []:=AD hJ<|by
 rintro σ H Q ⟨aK,aY,O,F,ai,ts,r,e,k⟩
 cases e
 exact k [] F H (Ext.refl r.b') .nil
def jd(aC:eB X e f)(ay:sh X es aE)(aA:bl (e::es) X.env=(false,eval e X.env)::bl es X.env:=by rfl):sh X (e::es) (f::aE):=AD (fu aC ay aA)<|by
 rintro σ H Q ⟨aK,aY,O,F,ai,ts,r,e,k⟩
 simp only[args,cm,dO] at e;obtain⟨t,bY,us,gU,rfl⟩:=e;refine⟨aK,aY,O,F,ai,t,r,bY,λv ba H1 aU aQ=>⟨aK,aY,O,ba,ai,us,r.ext aU,gU,λvs dC bB bP bu=>?_⟩⟩;exact k _ dC bB (aU.trans bP) (.cons (aQ.ext bP) bu)
def bb:nX X [] []:=AD hJ<|by
 rintro σ H Q ⟨aK,aY,O,F,ai,ts,r,e,k⟩
 cases e
 exact k [] F H (Ext.refl r.b') bH.nil
def av(aC:cT X e f)(ay:nX X es aE)(aA:bl (e::es) X.env=(false,eval e X.env)::bl es X.env:=by rfl):nX X (e::es) (f::aE):=AD (fu aC ay aA)<|by
 rintro σ H Q ⟨aK,aY,O,F,ai,ts,r,e,k⟩
 simp only[args,cm,dO] at e;obtain⟨t,bY,us,gU,rfl⟩:=e;refine⟨aK,aY,O,F,ai,t,r,bY,λv ba H1 aU aQ=>⟨aK,aY,O,ba,ai,us,r.ext aU,gU,λvs dC bB bP bu=>?_⟩⟩;exact k _ dC bB (aU.trans bP) (bH.cons (aQ.ext bP) bu)
def cG{aU}(h:nX X es aE):cT X (.Tuple es aU pos) (a0 aE):=eu (Aq h)<|by
 rintro σ H Q ⟨aK,aY,O,F,ai,t,r,e,k⟩
 simp only[a0,cm] at e;obtain⟨ts,bY,e⟩:=e;split at e
 next hz=>
  cases e
  refine⟨aK,aY,O,F,ai,ts,r,bY,λvs ba H1 aU aQ=>⟨by rw[ma,<- aQ.length];exact hz,λp aL=>?_⟩⟩
  have bP:=Ext.laid (o:=.tup vs) aU.b' aL;refine k _ ba _ (aU.trans bP) ?_;simp only[Rep];exact⟨p,vs,rfl,dc.of dV,aQ.ext bP⟩
 next=>cases e
def xG(h:nX X es aE):ao_ X (.List es pos) (fa aE):=eu (U8 h)<|by
 rintro σ H Q ⟨aK,aY,O,F,ai,us,r,e,k⟩
 simp only[fa,cm] at e;obtain⟨ts,bY,e⟩:=e;split at e
 next hz=>
  cases e
  refine⟨aK,aY,O,F,ai,_,r,bY,λvs ba H1 aU aQ=>⟨by rw[ma,<- aQ.length];exact hz,λp aL=>?_⟩⟩
  have bP:=Ext.laid (o:=.lst vs) aU.b' aL;refine k p vs ba _ (aU.trans bP) ?_ ?_ dV (aQ.ext bP)
  ·exact aU.same.none aL
  ·intro cC;obtain⟨o,e1⟩:=aU.b' p cC;rw[aL] at e1;cases e1
 next=>cases e
def U2(h:nX X es aE):cT X (.List es pos) (fa aE):=QD (xG h) λai t e=>by
 simp only[fa,cm] at e;obtain⟨ts,bY,e⟩:=e;split at e
 ·cases e
  exact⟨_,rfl⟩
 ·cases e
mutual
theorem TO{F:ak->Prop}{ao:List (ak×Obj)}{σ:bA.St}{H:aB}{s:aH}(I:Inv X ao σ H s):∀{t:T} {v:V} {u:aq},Rep X.K F H t v->RelV v u->∃as,Reads s.heap u t as
|.none,v,u,h,r=>by
  simp only[Rep] at h;subst h;cases r;exact⟨_,.none⟩
|.bool b,v,u,h,r=>by
  simp only[Rep] at h;subst h;cases r;exact⟨_,.bool b⟩
|.int i,v,u,h,r=>by
  simp only[Rep] at h;subst h;obtain⟨t,rfl⟩:=r;exact⟨_,.int i t⟩
|.str x,v,u,h,r=>by
  simp only[Rep] at h;subst h;obtain⟨t,rfl⟩:=r;exact⟨_,.str x t⟩
|.dict _,v,u,h,r=>by simp[Rep] at h
|.tuple ts,v,u,h,r=>by
  simp only[Rep] at h;obtain⟨a,vs,rfl,aA,ay⟩:=h;cases r;obtain⟨its,bW,⟨o,ah,ar,n,br⟩,hz⟩:=I.tuple aA;obtain⟨as,jO⟩:=Ed I ay bW;exact⟨_,.tuple ah ar br (by simpa using jO)⟩
|.list ts,v,u,h,r=>by
  simp only[Rep] at h;obtain⟨a,vs,rfl,cp,aA,ay⟩:=h;cases r;obtain⟨z,its,n,bW,aG,e⟩:=Inv.wB I aA;obtain⟨as,jO⟩:=Ed I ay bW;exact⟨_,.list e rfl rfl (by simpa using jO)⟩
theorem Ed{F:ak->Prop}{ao:List (ak×Obj)}{σ:bA.St}{H:aB}{s:aH}(I:Inv X ao σ H s):∀{ts:List T} {vs:List V} {us:List aq},bH X.K F H ts vs->Vals vs us->∃as,ReadsAll s.heap us ts as
| [],vs,us,h,r=>by
  simp only[bH] at h;subst h;cases r;exact⟨_,.nil⟩
|t::ts,vs,us,h,r=>by
  simp only[bH] at h;obtain⟨v,LD,rfl,ah,ar⟩:=h;cases r with
  |cons bk b4=>
   obtain⟨as,aQ⟩:=TO I ah bk;obtain⟨bs,bu⟩:=Ed I ar b4;exact⟨_,.cons aQ bu⟩
end
def mI{O F:ak->Prop}{ao:List (ak×Obj)}{σ:bA.St}{H:aB}{s:aH}(I:Inv X ao σ H s){t:T}{v:V}{u:aq}(h:f3 X.K O F H t v)(r:RelV v u):∃as,Reads s.heap u t as:=by
 rcases h with h|⟨ts,a,vs,rfl,rfl,aC,h⟩
 ·exact TO I h r
 ·cases r
  obtain⟨z,its,n,bW,aG,e⟩:=Inv.wB I (.inl aC);obtain⟨as,jO⟩:=Ed I h bW;exact⟨_,.list e rfl rfl (by simpa using jO)⟩
def qM{t:T}(h:ez t=true):t.canLay0=true/\t.depth<=60:=by
 simp only[ez,ic,decide_eq_true_eq] at h;exact h
def Vb{t:List T}(h:qp t=true):jV t=true/\ja t<=60:=by
 simp only[qp,ic,decide_eq_true_eq] at h;exact h
noncomputable def EW(K:bc)(n:Bool):gC:=λx y H Q=>∃(O F:ak->Prop) (s t:T),f3 K O F H s x/\f3 K O F H t y/\ez s=true/\ez t=true/\Q (.b3 (if n then !PyData.eqv s t else gf s t)) H
def Au(b8:X.A.units+64<cLine):eQ X (iH .Eq) (EW X.K false):=by
 intro ao s σ H x y v u Q I aW bC ⟨O,F,d,t,ah,ar,d3,eE,q⟩;obtain⟨as,jO⟩:=mI I ah aW;obtain⟨bs,ff⟩:=mI I ar bC;obtain⟨cV,cu⟩:=qM d3;obtain⟨dj,cD⟩:=qM eE;refine SeqAt.compareEq_reads jO ff cV dj (by have:=Nat.min_le_left d.depth t.depth;omega) ?_;exact⟨.b3 _,H,I,rfl,q⟩
def xw(b8:X.A.units+64<cLine):eQ X (iH .NotEq) (EW X.K true):=by
 intro ao s σ H x y v u Q I aW bC ⟨O,F,d,t,ah,ar,d3,eE,q⟩;obtain⟨as,jO⟩:=mI I ah aW;obtain⟨bs,ff⟩:=mI I ar bC;obtain⟨cV,cu⟩:=qM d3;obtain⟨dj,cD⟩:=qM eE;refine SeqAt.compareNe_reads jO ff cV dj (by have:=Nat.min_le_left d.depth t.depth;omega) ?_;exact⟨.b3 _,H,I,rfl,q⟩
def tK{op:CmpOp}{R:gC}{o:T->T->Option T}(aJ:eQ X (iH op) R)(ar:m1 X.K o R)(aC:eB X a f)(af:eB X b g)(hm:qC op b=false:=by first|exact EP _|rfl):cT X (.Compare a [op] [b] pos) (aj o f g):=eu (Us aJ aC af hm) (r3 ar)
def fV{op:CmpOp}{R:gC}{o:T->T->Option T}(aJ:eQ X (iH op) R)(ar:m1 X.K o R)(aC:eB X a f)(af:eB X b g)(hm:qC op b=false:=by first|exact EP _|rfl):kS X (.Compare a [op] [b] pos) (bt (aj o f g)):=
 xE (Up aJ aC af hm) λσ H Q ⟨aK,aY,O,F,ai,b,r,e,k⟩=>by
 simp only[bt,cm] at e;obtain⟨t,bY,e⟩:=e;split at e
 ·cases e
  refine r3 ar σ H _ ⟨aK,aY,O,F,ai,_,r,bY,λv aD ag x q=>?_⟩
  simp only[Rep] at q;exact⟨_,q,k aD ag x⟩
 ·cases e
def Aw:m1 X.K oEq (EW X.K false):=by
  intro O F H x y t i8 i9 Q d aW bC e k;unfold oEq at e;split at e
  next hz=>
   cases e
   rw[ic] at hz;exact⟨O,F,x,y,aW,bC,hz.1,hz.2,k _ F H (Ext.refl d) (by simp[Rep])⟩
  next=>cases e
def xy:m1 X.K i4 (EW X.K true):=by
  intro O F H x y t i8 i9 Q d aW bC e k;unfold i4 at e;split at e
  next hz=>
   cases e
   rw[ic] at hz;exact⟨O,F,x,y,aW,bC,hz.1,hz.2,k _ F H (Ext.refl d) (by simp[Rep])⟩
  next=>cases e
noncomputable def K_(K:bc)(n:Bool):gC:=λx y H Q=>∃(O F:ak->Prop) (s:T) (ts:List T),f3 K O F H s x/\(f3 K O F H (.tuple ts) y\/f3 K O F H (.list ts) y)/\ez s=true/\qp ts=true/\Q (.b3 (if n then !lW s ts else lW s ts)) H
def xx(b8:X.A.units+64<cLine):eQ X (iH .In) (K_ X.K false):=by
 intro ao s σ H x y v u Q I aW bC ⟨O,F,d,ts,ah,ar,d3,eE,q⟩;obtain⟨as,jO⟩:=mI I ah aW;obtain⟨cV,cu⟩:=qM d3;obtain⟨dj,cD⟩:=Vb eE;have hm:=Nat.min_le_left (ja ts) d.depth;rcases ar with ar|ar
 ·obtain⟨bs,ff⟩:=mI I ar bC;exact SeqAt.in_tuple_reads ff jO dj cV (by omega) ⟨.b3 _,H,I,rfl,q⟩
 ·obtain⟨bs,ff⟩:=mI I ar bC;exact SeqAt.in_list_reads ff jO dj cV (by omega) ⟨.b3 _,H,I,rfl,q⟩
def vr(b8:X.A.units+64<cLine):eQ X (iH .NotIn) (K_ X.K true):=by
 intro ao s σ H x y v u Q I aW bC ⟨O,F,d,ts,ah,ar,d3,eE,q⟩;obtain⟨as,jO⟩:=mI I ah aW;obtain⟨cV,cu⟩:=qM d3;obtain⟨dj,cD⟩:=Vb eE;have hm:=Nat.min_le_left (ja ts) d.depth;rcases ar with ar|ar
 ·obtain⟨bs,ff⟩:=mI I ar bC;exact SeqAt.notIn_tuple_reads ff jO dj cV (by omega) ⟨.b3 _,H,I,rfl,q⟩
 ·obtain⟨bs,ff⟩:=mI I ar bC;exact SeqAt.notIn_list_reads ff jO dj cV (by omega) ⟨.b3 _,H,I,rfl,q⟩
def nQ{n:Bool}:m1 X.K (eS n) (K_ X.K n):=by
 intro O F H x y t i8 i9 Q d aW bC e k;unfold eS at e;split at e
 ·split at e
  next hz=>
   cases e
   rw[ic] at hz;exact⟨O,F,x,_,aW,.inl bC,hz.1,hz.2,k _ F H (Ext.refl d) (by simp[Rep])⟩
  next=>cases e
 ·split at e
  next hz=>
   cases e
   rw[ic] at hz;exact⟨O,F,x,_,aW,.inr bC,hz.1,hz.2,k _ F H (Ext.refl d) (by simp[Rep])⟩
  next=>cases e
 ·cases e
def xA:m1 X.K oLt (λx y H Q=>ot (λi j=>.b3 (decide (i<j))) x y H Q\/∃i j,x=.str i/\y=.str j/\Q (.b3 (decide (i.cps.toList<j.cps.toList))) H):=by
  intro O F H x y t i8 i9 Q d aW bC e k;unfold oLt at e;split at e
  ·cases e
   rw[aW.int,bC.int];exact .inl ⟨_,_,rfl,rfl,k _ F H (Ext.refl d) (by simp[Rep])⟩
  ·cases e
   rw[aW.str,bC.str];exact .inr ⟨_,_,rfl,rfl,k _ F H (Ext.refl d) (by simp[Rep,ih])⟩
  ·cases e
def ME:eQ X (iH .LtE) (λx y H Q=>∃i j,x=.str i/\y=.str j/\Q (.b3 (!ih j i)) H):=by
 intro ao s σ H x y v u Q I aW bC ⟨i,j,az,aM,q⟩;subst az aM;obtain⟨t,rfl⟩:=aW;obtain⟨t',rfl⟩:=bC;exact PySem.P.le_str (jY I q (by simp[ih]))
def S2:eQ X (iH .GtE) (λx y H Q=>∃i j,x=.str i/\y=.str j/\Q (.b3 (!ih i j)) H):=by
 intro ao s σ H x y v u Q I aW bC ⟨i,j,az,aM,q⟩;subst az aM;obtain⟨t,rfl⟩:=aW;obtain⟨t',rfl⟩:=bC;exact PySem.P.ge_str (jY I q (by simp[ih]))
def z6:eQ X (iH .Gt) (λx y H Q=>∃i j,x=.str i/\y=.str j/\Q (.b3 (ih j i)) H):=by
 intro ao s σ H x y v u Q I aW bC ⟨i,j,az,aM,q⟩;subst az aM;obtain⟨t,rfl⟩:=aW;obtain⟨t',rfl⟩:=bC;exact PySem.P.gt_str (jY I q (by simp[ih]))
def NL:m1 X.K oLe (λx y H Q=>ot (λi j=>.b3 (decide (i<=j))) x y H Q\/∃i j,x=.str i/\y=.str j/\Q (.b3 (!ih j i)) H):=by
 intro O F H x y t i8 i9 Q d aW bC e k;unfold oLe at e;split at e
 ·cases e
  rw[aW.int,bC.int];exact .inl ⟨_,_,rfl,rfl,k _ F H (Ext.refl d) (by simp[Rep])⟩
 ·cases e
  rw[aW.str,bC.str];exact .inr ⟨_,_,rfl,rfl,k _ F H (Ext.refl d) (by simp[Rep])⟩
 ·cases e
def Av:m1 X.K iz (λx y H Q=>ot (λi j=>.b3 (decide (j<i))) x y H Q\/∃i j,x=.str i/\y=.str j/\Q (.b3 (ih j i)) H):=by
 intro O F H x y t i8 i9 Q d aW bC e k;unfold iz at e;split at e
 ·cases e
  rw[aW.int,bC.int];exact .inl ⟨_,_,rfl,rfl,k _ F H (Ext.refl d) (by simp[Rep])⟩
 ·cases e
  rw[aW.str,bC.str];exact .inr ⟨_,_,rfl,rfl,k _ F H (Ext.refl d) (by simp[Rep])⟩
 ·cases e
def U_:m1 X.K sU (λx y H Q=>ot (λi j=>.b3 (decide (j<=i))) x y H Q\/∃i j,x=.str i/\y=.str j/\Q (.b3 (!ih i j)) H):=by
 intro O F H x y t i8 i9 Q d aW bC e k;unfold sU at e;split at e
 ·cases e
  rw[aW.int,bC.int];exact .inl ⟨_,_,rfl,rfl,k _ F H (Ext.refl d) (by simp[Rep])⟩
 ·cases e
  rw[aW.str,bC.str];exact .inr ⟨_,_,rfl,rfl,k _ F H (Ext.refl d) (by simp[Rep])⟩
 ·cases e
def EX(aC:eB X a f):cT X (.UnaryOp .USub a pos) (cU iB f):=eu (VE UW aC)<|by
 rintro σ H Q ⟨aK,aY,O,F,ai,t,r,e,k⟩
 simp only[cU,cm] at e;obtain⟨x,ex,e⟩:=e;unfold iB at e;split at e
 ·cases e
  exact⟨aK,aY,O,F,ai,_,r,ex,λv ba H1 aU aW=>⟨_,aW.int,k _ ba H1 aU (by simp[Rep])⟩⟩
 ·cases e
noncomputable def Xd(K:bc)(o:List T->Option T)(R:List V->aB->c3->Prop):Prop:=
 ∀(O F:ak->Prop) (H:aB) (ts:List T) (t:T) (vs:List V) (Q:c3),fk F H->Paired (f3 K O F H) ts vs->o ts=some t ->
  (∀v aD ag,Ext F H aD ag->Rep K aD ag t v->Q v ag)->R vs H Q
def Ak{o:List T->Option T}{R:List V->aB->c3->Prop}(k7:Xd X.K o R):∀σ H Q,zu X.K (aX o aE) σ H Q->C2 R (Rg X.K aE) σ H Q:=by
 rintro σ H Q ⟨aK,aY,O,F,ai,t,r,e,k⟩;simp only[aX,cm] at e;obtain⟨ts,bY,e1⟩:=e;exact⟨aK,aY,O,F,ai,ts,r,bY,λvs ba H1 aU q=>k7 O ba H1 ts t vs Q aU.b' q e1 λv aD ag gM df=>k v aD ag (aU.trans gM) df⟩
def EY(hm:X.mg "len"=none)(aC:sh X (e::es) aE)(bq:ee X "len":=by rfl)(he:bl (e::es) X.env=(false,eval e X.env)::bl es X.env:=by rfl)(hpl:(unop%Wy 0).any (·.1)=false:=by rfl):
  cT X (.Call (.Name "len" p) (e::es) [] pos) (aX iA aE):=eu (Ac (ah4.or ah3) bq hm PySem.boot_len aC (he:=he) (hpl:=hpl)) (Ak (by
 intro O F H ts t vs Q d q e k;unfold iA at e;split at e
 ·cases e
  cases q with
  |cons aQ bu=>
   cases bu
   obtain⟨a,ws,rfl,aA,ay⟩:=aQ.tup;exact .inl ⟨a,ws,rfl,.inr aA,k _ F H (Ext.refl d) (by simp[Rep,ay.length])⟩
 ·cases e
  cases q with
  |cons aQ bu=>
   cases bu
   obtain⟨a,ws,rfl,aA,ay⟩:=aQ.lst;exact .inl ⟨a,ws,rfl,.inl (.inl aA),k _ F H (Ext.refl d) (by simp[Rep,ay.length])⟩
 ·split at e
  next hz=>
   cases e
   cases q with
   |cons aQ bu=>
    cases bu
    exact .inr ⟨_,by rw[aQ.str],by rw[ma];exact hz,k _ F H (Ext.refl d) (by simp[Rep])⟩
  next=>cases e
 ·cases e))
def anC(hm:X.mg "min"=none)(aC:sh X (e::es) aE)(aw:X.calm=true:=by rfl)(bq:ee X "min":=by rfl)(he:bl (e::es) X.env=(false,eval e X.env)::bl es X.env:=by rfl)(hpl:(unop%Wy 0).any (·.1)=false:=by rfl):
  cT X (.Call (.Name "min" p) (e::es) [] pos) (aX pw aE):=eu (Ac (akd aw) bq hm (by decide +kernel) aC (he:=he) (hpl:=hpl)) (Ak (by
 intro O F H ts t vs Q d q e k;unfold pw at e;split at e
 ·cases e
  cases q with
  |cons aQ bu=>
   cases bu with
   |cons bu df=>
    cases df
    exact⟨_,_,by rw[aQ.int,bu.int],k _ F H (Ext.refl d) (by simp[Rep])⟩
 ·cases e))
def VB(hm:X.mg "max"=none)(aC:sh X (e::es) aE)(aw:X.calm=true:=by rfl)(bq:ee X "max":=by rfl)(he:bl (e::es) X.env=(false,eval e X.env)::bl es X.env:=by rfl)(hpl:(unop%Wy 0).any (·.1)=false:=by rfl):
  cT X (.Call (.Name "max" p) (e::es) [] pos) (aX om aE):=eu (Ac (akf aw) bq hm (by decide +kernel) aC (he:=he) (hpl:=hpl)) (Ak (by
 intro O F H ts t vs Q d q e k;unfold om at e;split at e
 ·cases e
  cases q with
  |cons aQ bu=>
   cases bu with
   |cons bu df=>
    cases df
    exact⟨_,_,by rw[aQ.int,bu.int],k _ F H (Ext.refl d) (by simp[Rep])⟩
 ·cases e))
def qJ(hm:X.mg "tuple"=none)(aC:sh X (e::es) aE)(bq:ee X "tuple":=by rfl)(he:bl (e::es) X.env=(false,eval e X.env)::bl es X.env:=by rfl)(hpl:(unop%Wy 0).any (·.1)=false:=by rfl):
  cT X (.Call (.Name "tuple" p) (e::es) [] pos) (aX gA aE):=eu (Eg ahC bq hm (by decide +kernel) aC (he:=he) (hpl:=hpl)) (Ak (by
 intro O F H ts t vs Q d q e k;unfold gA at e;split at e
 ·cases e
  cases q with
  |cons aQ bu=>
   cases bu
   obtain⟨a,ws,rfl,aA,ay⟩:=aQ.tup;refine⟨a,ws,rfl,.inr ⟨aA,k _ F H (Ext.refl d) ?_⟩⟩;simp only[Rep];exact⟨a,ws,rfl,aA,ay⟩
 ·cases e
  cases q with
  |cons aQ bu=>
   cases bu
   obtain⟨a,ws,rfl,aA,ay⟩:=aQ.lst;refine⟨a,ws,rfl,.inl ⟨.inl aA,λl aG=>?_⟩⟩;have aU:=Ext.laid (o:=.tup ws) d aG;refine k _ F _ aU ?_;simp only[Rep];exact⟨l,ws,rfl,dc.of dV,ay.ext aU⟩
 ·cases e))
def amy(hm:X.mg "int"=none)(aC:sh X (e::es) aE)(bq:ee X "int":=by rfl)(he:bl (e::es) X.env=(false,eval e X.env)::bl es X.env:=by rfl)(hpl:(unop%Wy 0).any (·.1)=false:=by rfl):
  cT X (.Call (.Name "int" p) (e::es) [] pos) (aX ry aE):=eu (Eg akg bq hm (by decide +kernel) aC (he:=he) (hpl:=hpl)) (Ak (by
 intro O F H ts t vs Q d q e k;unfold ry at e;split at e
 ·cases e
  cases q with
  |cons aQ bu=>
   cases bu
   exact .inl ⟨_,by rw[aQ.int],k _ F H (Ext.refl d) (by simp[Rep])⟩
 ·cases e
  cases q with
  |cons aQ bu=>
   cases bu
   exact .inr ⟨_,by rw[aQ.b3],k _ F H (Ext.refl d) (by simp[Rep])⟩
 ·cases e))
def NB(h:eB X e f)(he:∀whole,isTrue e X.env whole=(do let v <- whole;standAt e.pos;holding [v] (truthy v)):=by intro _;rfl):kS X e (bt f):=xE (U5 h he)<|by
 rintro σ H Q ⟨aK,aY,O,F,ai,b,r,e,k⟩
 simp only[bt,cm] at e;obtain⟨t,bY,e⟩:=e;split at e
 ·cases e
  exact⟨aK,aY,O,F,ai,_,r,bY,λv ba H1 aU aW=>⟨_,aW.b3,k ba H1 aU⟩⟩
 ·cases e
def vN{j pos'}(aC:eB X a f):kS X (.Compare a [.Is] [.Constant .none j pos'] pos) (bt (cU fP f)):=xE (U6 (amO aC))<|by
 rintro σ H Q ⟨aK,aY,O,F,ai,t,r,e,k⟩
 simp only[bt,cU,fP,cm] at e;obtain⟨_,⟨x,ex,az⟩,e⟩:=e;cases az;cases e;refine⟨aK,aY,O,F,ai,x,r,ex,λv ba H1 aU aW=>⟨_,?_,k ba H1 aU⟩⟩;cases x with
|none=>rw[aW.dT];simp
|bool b=>rw[aW.b3];simp
|int b=>rw[aW.int];simp
|str b=>rw[aW.str];simp
|tuple b=>obtain⟨_,_,e,_⟩:=aW.tup;rw[e];simp
|list b=>obtain⟨_,_,e,_⟩:=aW.lst;rw[e];simp
|dict b=>rcases aW with aW|⟨_,_,_,z,_⟩;simp[Rep] at aW;cases z
def UY{j pos'}(aC:eB X a f):kS X (.Compare a [.IsNot] [.Constant .none j pos'] pos) (bt (cU fW f)):=xE (U6 (alI aC))<|by
 rintro σ H Q ⟨aK,aY,O,F,ai,t,r,e,k⟩
 simp only[bt,cU,fW,cm] at e;obtain⟨_,⟨x,ex,az⟩,e⟩:=e;cases az;cases e;refine⟨aK,aY,O,F,ai,x,r,ex,λv ba H1 aU aW=>⟨_,?_,k ba H1 aU⟩⟩;cases x with
|none=>rw[aW.dT];simp
|bool b=>rw[aW.b3];simp
|int b=>rw[aW.int];simp
|str b=>rw[aW.str];simp
|tuple b=>obtain⟨_,_,e,_⟩:=aW.tup;rw[e];simp
|list b=>obtain⟨_,_,e,_⟩:=aW.lst;rw[e];simp
|dict b=>rcases aW with aW|⟨_,_,_,z,_⟩;simp[Rep] at aW;cases z
def NA(h:eB X e f)(he:∀whole,isTrue e X.env whole=(do let v <- whole;standAt e.pos;holding [v] (truthy v)):=by intro _;rfl):kS X e (g5 f):=xE (akC h he)<|by
 rintro σ H Q ⟨aK,aY,O,F,ai,b,r,e,k⟩
 simp only[g5,cm] at e;obtain⟨t,bY,e⟩:=e;have emp:∀{ts:List T} {vs:List V} {ba:ak->Prop} {H1:aB},bH X.K ba H1 ts vs->ts.isEmpty=vs.isEmpty:=λ{ts vs ba H1} q=>by
  have:=q.length;cases ts <;> cases vs <;> simp_all
 split at e
 ·cases e
  refine⟨aK,aY,O,F,ai,_,r,bY,λv ba H1 aU aW=>?_⟩
  obtain⟨a,vs,rfl,aA,ay⟩:=aW.lst;exact⟨_,.inl ⟨vs,.inl aA,by rw[emp ay]⟩,k ba H1 aU⟩
 ·cases e
  refine⟨aK,aY,O,F,ai,_,r,bY,λv ba H1 aU aW=>?_⟩
  obtain⟨a,vs,rfl,aA,ay⟩:=aW.tup;exact⟨_,.inr (.inl ⟨vs,aA,by rw[emp ay]⟩),k ba H1 aU⟩
 ·cases e
def Vv(h:kS X e fl):kS X (.UnaryOp .Not e pos) (gZ fl):=xE (amF h)<|by
 rintro σ H Q ⟨aK,aY,O,F,ai,b,r,e,k⟩
 simp only[gZ,dO] at e;obtain⟨c,fI,rfl⟩:=e;exact⟨aK,aY,O,F,ai,c,r,fI,λba H1 aU=>k ba H1 aU⟩
def xt(h:kS X e fl):t_ X (.BoolOp .And [e] pos) fl:=Uo h
def vM(h:kS X e fl):t_ X (.BoolOp .Or [e] pos) fl:=amC h
def xF(h:kS X a fl)(ar:t_ X (.BoolOp .And (b::es) pos) gt):t_ X (.BoolOp .And (a::b::es) pos) (e0 fl gt):=Vq (U4 h ar)<|by
 rintro σ H Q ⟨aK,aY,O,F,ai,b,r,e,k⟩
 simp only[e0,cm] at e;obtain⟨c,fI,e⟩:=e;refine⟨aK,aY,O,F,ai,c,r,fI,λba H1 aU=>?_⟩;cases c with
|true=>exact uO ⟨aK,aY,O,ba,ai,b,r.ext aU,by simpa using e,λdC bB bP=>k dC bB (aU.trans bP)⟩
|false=>
  have:b=false:=by simpa using e.symm
  subst this;exact yR (k ba H1 aU)
def w_or(h:kS X a fl)(ar:t_ X (.BoolOp .Or (b::es) pos) gt):t_ X (.BoolOp .Or (a::b::es) pos) (fD fl gt):=Vq (anD h ar)<|by
 rintro σ H Q ⟨aK,aY,O,F,ai,b,r,e,k⟩
 simp only[fD,cm] at e;obtain⟨c,fI,e⟩:=e;refine⟨aK,aY,O,F,ai,c,r,fI,λba H1 aU=>?_⟩;cases c with
|true=>
  have:b=true:=by simpa using e.symm
  subst this;exact uO (k ba H1 aU)
|false=>exact yR ⟨aK,aY,O,ba,ai,b,r.ext aU,by simpa using e,λdC bB bP=>k dC bB (aU.trans bP)⟩
def nv(h:t_ X e fl):kS X e fl:=h.pt
end
end
section
variable [cB]
noncomputable def spT(K:bc)(n:Nat)(d:List T->Option T):kU:=λvs H Q _=>vs.length=n/\∃F ts t,fk F H/\bH K F H ts vs/\d ts=some t/\∀v aD ag,Ext F H aD ag->Rep K aD ag t v->Q v ag
section
variable {X:a3}{k n:Nat}{cp:ak}{fd:eo}{ps:List Str}{d:List T->Option T}{x:Str}{p pos:Pos}{e:bx}{es:List bx}{aE:List bZ}
def amB(F:e5 X.prog X.w X.K X.mg X.base dH k cp fd ps (spT X.K n d))(ay:da k X.A)(bq:ee X x)(hm:X.mg x=some (.ref cp))(aI:nx X.K (.ref cp)=true)(af:gh X.K fd ps [])
  (aC:nX X (e::es) aE) (bg:aE.length=n:=by rfl) (hg:(x==("__debug__":Str))=false:=by decide) (he:bl (e::es) X.env=(false,eval e X.env)::bl es X.env:=by rfl) (hpl:(unop%Wy 0).any (·.1)=false:=by rfl):
  cT X (unop%WC 0) (aX d aE):=eu (Nm F ay bq hm aI af .nil vO aC hg he hpl) λσ H Q ⟨aK,aY,O,F,ai,t,r,e,k⟩=>by
 simp only[aX,cm] at e;obtain⟨ts,bY,hb⟩:=e;have aG:∀(f_:List bZ) (us:List T),args f_ ai=some us->us.length=f_.length:=by
  intro f_
  induction f_ with
  |nil=>intro us e;cases e;rfl
  |cons g f_ bT=>
   intro us e;simp only[args,cm,dO] at e;obtain⟨t,_,vs,ev,rfl⟩:=e;simp[bT vs ev]
 refine⟨aK,aY,O,F,ai,ts,r,bY,λvs ba H1 aU q=>⟨?_,ba,ts,t,aU.b',by simpa using q,hb,λv aD ag bP bu=>k v aD ag (aU.trans bP) bu⟩⟩
 rw[kO,<- q.length,aG aE ts bY,bg]
end
section
variable {P:cA}{w:b_}{K:bc}{mg:Str->Option aq}{base:bM}
def Mr{F:ak->Prop}{H:aB}{ts:List T}{vs:List V}{N:List Str}(b':fk F H)(q:bH K F H ts vs)(n:Nat):
  cN K F ⟨H,0⟩ (λa=>H a=none) F H ((ts.map λt=>some (.aa t))++dZ n none) (vs.map some++dZ n none):=by
 have aa:∀(i:Nat) (s:aO),((ts.map λt=>some (aO.aa t))++dZ n none)[i]?=some (some s)->∃t,s=.aa t/\ts[i]?=some t:=by
  intro i s e;by_cases aP:i<ts.length
  ·rw[wR (by simpa using aP),kL] at e;rw[jv aP] at e ⊢;simp at e;exact⟨_,e.symm,rfl⟩
  ·rw[wQ (by simpa using aP),List.getElem?_replicate] at e;split at e <;> cases e
 refine⟨by simp[q.length],λi s e=>?_,λi j s u v w kC az aM d3=>?_,Ext.refl b',λ_ h=>h,λ_ h=>h⟩
 ·obtain⟨t,rfl,bp⟩:=aa i s e;obtain⟨v,bh,bW⟩:=q.get bp;refine⟨v,?_,bW⟩;rw[wR (by have:=(g6.mp bh).1;simpa using this),kL,bh];rfl
 ·obtain⟨t,rfl,_⟩:=aa i s az;cases d3
def am7{x qual:Str}{st:Stmt}{f:ak}{fd:eo}{N ps:List Str}{k:Nat}{b:bJ}(F:cL K x qual st f fd)(S:cZ N ps (bR st))
  (af:∀(b1:aq) (A:cw) (outer:List Env) (s:aH) (H:aB) (E:fb),da k (unop%W5 0) ->
   j2 (unop%W3 0).d_ (fv st) b):
  e5 P w K mg base dH (k+1) f fd ps (spT K ps.length (c2 b N.length)):=by
 refine F.ok S (λvs H Q E h=>h.1) λb1 A outer s H vs Q E ay h=>⟨_,af b1 A outer s H E ay,?_⟩
 obtain⟨aG,F,ts,t,b',q,e,i2⟩:=h;simp only[c2,cm] at e;obtain⟨o,e1,e⟩:=e;refine⟨F,⟨H,0⟩,λa=>H a=none,F,_,o,?_,e1,?_⟩
 ·have:=Mr (N:=N) b' q (N.length - ts.length);unfold bA.start;rw[q.length] at this ⊢;exact this
 ·cases o with
  |dn t'=>
   cases e
   exact λv aD ag x q=>i2 v aD ag x q
  |bI ε'=>
   cases e
   exact λck aD ag _ r=>i2 _ aD ag r.ent (by simp[Rep])
  |gR _=>cases e
  |cQ _=>cases e
  |l0 _ _=>cases e
  |mz _=>cases e
def aj4{f:ak}{fd:eo}{ps:List Str}{k n:Nat}:e5 P w K mg base dH k f fd ps (spT K n λ_=>none):=by
 have no:∀vs H Q E,¬spT K n (λ_=>none) vs H Q E:=λvs H Q E h=>by
  obtain⟨_,_,_,_,_,_,e,_⟩:=h;cases e
 exact⟨λvs H Q E h=>absurd h (no vs H Q E),λA outer s H args us vs Q E _ _ _ _ h=>absurd h (no vs H Q E)⟩
end
end
section
variable [cB]
noncomputable def gm(env:Env):List (Str×nJ)->List (Str×ak)->List (Str×ak)
| [],cs=>cs
|x::r,cs=>if x.2==.free then gm env r ((x.1,(env.cells.lookup x.1).getD 0)::cs) else gm env r cs
def DO{scope:Scope}{env:Env}(h:∀x∈scope.names,x.2=.free->∃c,env.cells.lookup x.1=some c):closureFor scope env=pure (gm env scope.names []):=by
 have go:∀(l:List (Str×nJ)) (cs:List (Str×ak)),(∀x∈l,x.2=.free->∃c,env.cells.lookup x.1=some c) ->
   (forIn l cs (λx r=>(if (x.2==NameKind.free)=true then do let a <- cellOf env x.1;pure (ForInStep.yield ((x.1,a)::r)) else pure (ForInStep.yield r)):_->_->Sem (ForInStep (List (Str×ak)))):Sem (List (Str×ak)))=pure (gm env l cs):=by
  intro l
  induction l with
  |nil=>intro cs _;rfl
  |cons x r bT=>
   intro cs aG;rw[List.forIn_cons];have ay:=λy a6=>aG y (dK _ a6);by_cases k:x.2=.free
   ·obtain⟨c,aw⟩:=aG x fQ k;have az:(x.2==NameKind.free)=true:=by simp[k]
    simp only[az,if_true,cellOf,aw,gm,Option.getD_some];exact bT _ ay
   ·have az:(x.2==NameKind.free)=false:=by simpa using k
    simp only[az,lA,if_false,gm];exact bT _ ay
 have:=go scope.names [] h;simp only[closureFor];exact congrArg (λm=>m >>= λcs=>pure cs) this
theorem xc{env:Env}:∀{l:List (Str×nJ)} {cs:List (Str×ak)},(∀x∈l,x.2=.free->∃c,env.cells.lookup x.1=some c)->(∀x c,cs.lookup x=some c->env.cells.lookup x=some c)->∀x c,(gm env l cs).lookup x=some c->env.cells.lookup x=some c
| [],cs,_,h,x,c,e=>h x c e
|y::r,cs,aG,h,x,c,e=>by
  unfold gm at e;have ay:=λz hz=>aG z (dK _ hz);split at e
  next k=>
   refine xc ay (λx c e=>?_) x c e
   rw[aoS] at e;split at e
   next af=>
    obtain⟨bX,aw⟩:=aG y fQ (by simpa using k);have:x=y.1:=by simpa using af
    subst this;rw[aw] at e ⊢;simpa using e
   next=>exact h x c e
  next=>exact xc ay h x c e
theorem tq{env:Env}:∀{l:List (Str×nJ)} {cs:List (Str×ak)} {x:Str},((∃y∈l,y.2=.free/\y.1=x)\/∃c,cs.lookup x=some c)->∃c,(gm env l cs).lookup x=some c
| [],cs,x,h=>by
  rcases h with ⟨y,a6,_⟩|h
  ·cases a6
  ·exact h
|y::r,cs,x,h=>by
  unfold gm;split
  next k=>
   refine tq ?_
   rcases h with ⟨z,hz,jJ,e⟩|⟨c,h⟩
   ·rcases cM.mp hz with rfl|hz
    ·refine .inr ?_
     subst e;rw[aoS];simp
    ·exact .inl ⟨z,hz,jJ,e⟩
   ·refine .inr ?_
    rw[aoS];split
    ·exact⟨_,rfl⟩
    ·exact⟨c,h⟩
  next k=>
   refine tq ?_
   rcases h with ⟨z,hz,jJ,e⟩|h
   ·rcases cM.mp hz with rfl|hz
    ·exact absurd (by simpa using jJ) k
    ·exact .inl ⟨z,hz,jJ,e⟩
   ·exact .inr h
noncomputable def jZ(X:a3)(xZ:List Str)(scope:Scope)(cl:List (Str×ak))(C:ak)(dq:aH)(aY:aB)(cC:List ak)(dx:List (ak×Obj)):a3 where
 prog:=X.prog
 w:=X.w
 K:=X.K
 mg:=X.mg
 base:=X.base
 A:=X.A
 N:=xZ
 dq:=dq
 aY:=aY
 env:=compEnvC scope cl C X.env
 outer:=X.stack
 stack:=X.stack
 ex:=cC
 fn:=λ_=>false
 calm:=X.calm
 dx:=dx
 dm:=λ_ _=>False
noncomputable def t9(X:a3)(ifs:List bx)(cc:fX):Prop:=∀(ao:List (ak×Obj)) (s:aH) (σ:bA.St) (H:aB) (Q:Bool->aB->Prop),bA.Inv X ao σ H s->Lr X.K cc σ H Q ->
 a_ (unop%Wk 0) X.A (forIn ifs true λc r=>if r=true then do let ok <- isTrue c X.env (eval c X.env);pure (ForInStep.yield ok) else pure (ForInStep.yield r)) (AY X ao σ Q) X.dm s
def r4{X:a3}:t9 X [] (d7 true):=by
 rintro ao s σ H Q I ⟨aK,aY,O,F,ai,b,r,e,k⟩
 cases e
 exact wpAny_tests_nil ⟨H,I,k F H (Ext.refl r.b')⟩
def EK{X:a3}{c:bx}{cc:fX}(h:kS X c cc):t9 X [c] cc:=λao s σ H Q I q=>wpAny_tests_one (h ao s σ H Q I q)
section
variable {prog:cA}{w:b_}{A:cw}{R:Result->aH->Prop}{s:aH}
def ah0{elt target iter:bx}{ifs:List bx}{scope:Scope}{pos:Pos}{it acc:aq}{env:Env}(I:Nat->aH->Prop)
  (turn:∀n s,I n s->a_ (bG prog w) A (pyNext it) (λr c6=>match r with
   |none=>R (.ok .next) c6
   |some v=>a_ (bG prog w) A (letOwnedTupleGo target it v) (λ_ Rc=>a_ (bG prog w) A (assign target env v) (λ_ kd=>
     a_ (bG prog w) A (forIn ifs true λc r=>if r=true then do let ok <- isTrue c env (eval c env);pure (ForInStep.yield ok) else pure (ForInStep.yield r)) (λok qx=>
      if ok=true then a_ (bG prog w) A (eval elt env) (λx Rd=>
       a_ (bG prog w) A (call (.builtin "list.append") [acc,x]) (λ_ Rf=>∃m,m<n/\I m Rf) (λ_ _=>False) Rd) (λ_ _=>False) qx
      else ∃m,m<n/\I m qx) (λ_ _=>False) kd) (λ_ _=>False) Rc) (λ_ _=>False) c6) (λ_ _=>False) s)
  (n:Nat) (h:I n s):hT (bG prog w) A (.compLoop (.ListComp elt [⟨target,iter,ifs,0⟩] scope pos) 0 it acc env) R s:=by
 refine codeAny_loop rfl I (λn s sL=>?_) n h
 show a_ _ A ((compTurn (.ListComp elt [⟨target,iter,ifs,0⟩] scope pos) 0 it acc env).onRaise (λx=>do noteFrame x env;theTreesLotGoes x)) _ _ s
 refine wpAny_noted ?_
 rw[compTurn_list];refine aN (wpAny_standAt (aN (et (turn n s sL) (λr c6 e9=>?_) λ_ _ h'=>h'.elim)));cases r with
|none=>exact b2 e9
|some v=>
  refine aN (et e9 (λ_ Rc aaS=>?_) λ_ _ h'=>h'.elim)
  refine aN (et aaS (λ_ kd kE=>aN (et kE (λok qx i1=>?_) λ_ _ h'=>h'.elim)) λ_ _ h'=>h'.elim)
  cases ok with
  |false=>exact b2 ⟨rfl,i1⟩
  |true=>
   exact aN (aN (et i1 (λx Rd wz=>aN (et wz (λ_ Rf h7=>b2 (b2 ⟨rfl,h7⟩)) λ_ _ h'=>h'.elim)) λ_ _ h'=>h'.elim))
end
end
section
variable [cB]
theorem RW{env:Env}{k:nJ}:∀{names:List (Str×nJ)} {x:Str},names.lookup x=some k->∃jJ,(names.map λ(n,k)=>if (k==NameKind.free && env.scope.kind==.function && env.kindOf n==some .cell) then (n,NameKind.cell) else (n,k)).lookup x=some jJ/\(jJ=k\/(k=.free/\jJ=.cell))
  | [],x,h=>by simp at h
  | (n,j)::r,x,h=>by
    have bT:=@RW env k r x;show ∃jJ,kN x ((if (j==NameKind.free && env.scope.kind==.function && env.kindOf n==some .cell)=true then (n,NameKind.cell) else (n,j))::_)=some jJ/\_;cases hx:x==n with
    |true=>
      simp only[aoS,hx] at h;cases h;by_cases aw:(k==NameKind.free && env.scope.kind==.function && env.kindOf n==some .cell)=true
      · rw[if_pos aw]
        refine⟨.cell,by simp[aoS,hx],.inr ⟨?_,rfl⟩⟩
        simp only[ic] at aw;simpa using aw.1.1
      · rw[if_neg aw]
        exact⟨k,by simp[aoS,hx],.inl rfl⟩
    |false=>
      simp only[aoS,hx] at h;obtain⟨jJ,ah,ar⟩:=bT h;refine⟨jJ,?_,ar⟩;by_cases aw:(j==NameKind.free && env.scope.kind==.function && env.kindOf n==some .cell)=true
      · rw[if_pos aw];simp only[aoS,hx];exact ah
      · rw[if_neg aw];simp only[aoS,hx];exact ah
def oH{names:List (Str×nJ)}{x:Str}{k:nJ}(h:names.lookup x=some k):∃y∈names,y.2=k/\y.1=x:=by
 induction names with
|nil=>simp at h
|cons y r bT=>
  rw[aoS] at h;split at h
  next af=>
   cases h
   exact⟨y,fQ,rfl,by simpa using (beq_iff_eq.mp af).symm⟩
  next=>
   obtain⟨z,hz,ah,ar⟩:=bT h;exact⟨z,dK _ hz,ah,ar⟩
def ahJ{scope:Scope}{env:Env}(wj:∀y∈scope.names,y.2≠.cell){x:Str}(h:(relabel scope env).names.lookup x=some .cell\/(relabel scope env).names.lookup x=some .free):∃y∈scope.names,y.2=.free/\y.1=x:=by
 have go:∀{k:nJ},(relabel scope env).names.lookup x=some k->(k=.cell\/k=.free)->∃y∈scope.names,y.2=.free/\y.1=x:=λ{k} e aI=>by
  obtain⟨y,a6,ah,ar⟩:=oH e;obtain⟨⟨n,j⟩,hz,aM⟩:=dP.mp (show y∈scope.names.map _ from a6);by_cases aw:(j==NameKind.free && env.scope.kind==.function && env.kindOf n==some .cell)=true
  ·have dS:(n,NameKind.cell)=y:=by
    have iT:(if (j==NameKind.free && env.scope.kind==.function && env.kindOf n==some .cell)=true then (n,NameKind.cell) else (n,j))=y:=aM
    rwa [if_pos aw] at iT
   subst dS;simp only[ic] at aw;exact⟨(n,j),hz,by simpa using aw.1.1,ar⟩
  ·have dS:(n,j)=y:=by
    have iT:(if (j==NameKind.free && env.scope.kind==.function && env.kindOf n==some .cell)=true then (n,NameKind.cell) else (n,j))=y:=aM
    rwa [if_neg aw] at iT
   subst dS;rcases aI with rfl|rfl
   ·exact absurd ah (wj _ hz)
   ·exact⟨(n,j),hz,ah,ar⟩
 rcases h with h|h
 ·exact go h (.inl rfl)
 ·exact go h (.inr rfl)
def cN.other{K:bc}{aK O F:ak->Prop}{E:gi}{H:aB}{ai:Ev}{σ:bA.St}{a:ak}{xs ys:List V}(r:cN K aK E O F H ai σ)(bg:¬F a)(aJ:¬O a)(h0:E.h a=none)(aC:H a=some (.lst xs)):
  ew K F H F (upd H a (.lst ys))/\cN K aK E O F (upd H a (.lst ys)) ai σ:=by
 have hm:oR (.lst xs):=.inl ⟨_,rfl⟩;have aF:ew K F H F (upd H a (.lst ys)):=Ux bg aC hm;have keep:∀(u:aO) (w:V),ed K E O F H u w->ed K E O F (upd H a (.lst ys)) u w/\dD (upd H a (.lst ys)) u w=dD H u w:=by
  intro u w c1;refine c1.keep aF (λb af=>cS ?_) (λ_ _ f=>f) λ_ _ o=>o;rintro rfl;cases sX:u.jm with
  |true=>exact aJ ((c1.held af).2.1 sX)
  |false=>exact (c1.held af).2.2 sX h0
 refine⟨aF,⟨r.len,λj u e=>?_,λi j s u v w kC az aM d3 eE ah ar=>?_,T5 r.ent h0 bg aC hm,r.o0,λb e=>r.fr b ?_⟩⟩
 ·obtain⟨v,ah,ar⟩:=r.val j u e;exact⟨v,ah,(keep u v ar).1⟩
 ·obtain⟨kJ,dN,bk⟩:=r.val i s az;obtain⟨dh,j5,b4⟩:=r.val j u aM;rw[ah] at dN;rw[ar] at j5;cases dN;cases j5;rw[(keep s v bk).2,(keep u w b4).2];exact r.ne i j s u v w kC az aM d3 eE ah ar
 ·by_cases nb:b=a
  ·subst nb;rw[dV] at e;cases e
  ·rwa [cS nb] at e
noncomputable def E5(n:Nat)(caps:List Nat)(σ:bA.St):bA.St:=dZ n none++caps.map λi=>(σ[i]?).join
def join_some{α:Type}{o:Option (Option α)}{x:α}(h:o.join=some x):o=some (some x):=by
 cases o with
|none=>cases h
|some o=>exact congrArg some h
def xr{α:Type}{n:Nat}{caps:List Nat}{l:List (Option α)}{i:Nat}{x:α}(h:(dZ n none++caps.map λi=>(l[i]?).join)[i]?=some (some x)):∃j,n<=i/\caps[i - n]?=some j/\l[j]?=some (some x):=by
 by_cases aP:i<n
 ·rw[wR (by simpa using aP),List.getElem?_replicate] at h;rw[if_pos aP] at h;cases h
 ·rw[wQ (by simpa using aP),List.length_replicate,kL] at h;cases e:caps[i - n]? with
  |none=>
   rw[e] at h;cases h
  |some j=>
   rw[e] at h;exact⟨j,by omega,rfl,join_some (gg h)⟩
def al6{α:Type}{n:Nat}{caps:List Nat}{l:List (Option α)}{i j:Nat}{x:α}(aP:n<=i)(aw:caps[i - n]?=some j)(h:l[j]?=some (some x)):(dZ n none++caps.map λi=>(l[i]?).join)[i]?=some (some x):=by
 rw[wQ (by simpa using aP),List.length_replicate,kL,aw];simp[h]
def cN.G8{K:bc}{aK O F:ak->Prop}{E:gi}{H:aB}{ai:Ev}{σ:bA.St}{D:ak}(r:cN K aK E O F H ai σ)(n:Nat){caps:List Nat}(aS:caps.Nodup)(lU:H D=none):
  cN K aK E (λa=>O a/\a≠D) F (upd H D (.lst [])) (hn n caps ai) (E5 n caps σ):=by
 have x:=Ext.laid (o:=.lst []) r.b' lU;have keep:∀(u:aO) (w:V),ed K E O F H u w->ed K E (λa=>O a/\a≠D) F (upd H D (.lst [])) u w/\dD (upd H D (.lst [])) u w=dD H u w:=by
  intro u w c1;have nb:∀b∈dD H u w,b≠D:=λb af z=>by
   obtain⟨o,e,_⟩:=c1.at af;rw[z,lU] at e;cases e
  exact c1.keep x.aF (λb af=>cS (nb b af)) (λ_ _ f=>f) λb af o=>⟨o,nb b af⟩
 refine⟨by simp[hn,E5],λi s e=>?_,λi j s u v w kC az aM d3 eE ah ar=>?_,r.ent.trans x,λa h=>r.o0 a h.1,λa h=>?_⟩
 ·obtain⟨j,bg,aw,bD⟩:=xr e;obtain⟨v,ah,ar⟩:=r.val j s bD;exact⟨v,al6 bg aw ah,(keep s v ar).1⟩
 ·obtain⟨ID,aP,ci,kZ⟩:=xr az;obtain⟨sT,bU,PB,h5⟩:=xr aM;obtain⟨cI,_,PA,dN⟩:=xr (l:=σ) ah;obtain⟨Qt,_,PC,j5⟩:=xr (l:=σ) ar;rw[ci] at PA;rw[PB] at PC;cases PA;cases PC;obtain⟨kJ,aQ,bk⟩:=r.val ID s kZ;obtain⟨dh,bu,b4⟩:=r.val sT u h5;rw[dN] at aQ;rw[j5] at bu;cases aQ;cases bu;rw[(keep s v bk).2,(keep u w b4).2];refine r.ne ID sT s u v w (λz=>?_) kZ h5 d3 eE dN j5;subst z;obtain⟨cu,i3⟩:=g6.mp ci;obtain⟨cD,kF⟩:=g6.mp PB;have ne:i - n≠j - n:=by omega
  rcases Nat.lt_or_gt_of_ne ne with q|q
  ·exact (List.pairwise_iff_getElem.mp aS _ _ cu cD q) (i3.trans kF.symm)
  ·exact (List.pairwise_iff_getElem.mp aS _ _ cD cu q) (kF.trans i3.symm)
 ·have aS:a≠D:=by
   rintro rfl;rw[dV] at h;cases h
  rw[cS aS] at h;exact⟨r.fr a h,aS⟩
end
section
variable [cB]
structure tX(X:a3)(scope:Scope)(own:List Str)(caps:List (Nat×Str)):Prop where
 kind:scope.kind=.function
 names:∀y∈scope.names,y.2=.local->scope.names.lookup y.1=some .local
 cell:∀y∈scope.names,y.2≠.cell
 free:∀y∈scope.names,y.2=.free->X.env.kindOf y.1=some .cell\/X.env.kindOf y.1=some .free
 G8:∀p∈caps,X.N[p.1]?=some p.2/\scope.names.lookup p.2=some .free
 aS:(caps.map (·.1)).Nodup
 calm:X.calm=true
section
variable {X:a3}{c9 iter elt:bx}{ifs:List bx}{scope:Scope}{it:mX}{iW:jf}{cc:fX}{hc:bZ}{pos:Pos}{own:List Str}{caps:List (Nat×Str)}
def UI{ao:List (ak×Obj)}{σ:bA.St}{bB:aB}{s2:aH}{cC:List ak}(S:tX X scope own caps)(ct:bA.Inv X ao σ bB s2)(f2:∀b∈cC,il X ao bB b)(j8:∀b∈cC,b<s2.heap.objs.size)(xZ:List Str):
  (jZ X xZ scope (unop%WL 0) (unop%W1 0).objs.size {s2 with heap:=s2.heap.push {cls:=.type "list",data:=.seq ([]:List aq).toArray} } (upd bB s2.heap.objs.size (.lst [])) cC (X.dx++ao)).Ok:=by
 have qe:∀x∈scope.names,x.2=.free->∃c,X.env.cells.lookup x.1=some c:=λx hx aI=>ct.ok.has x.1 (S.free x hx aI);have uf:∀x c,(unop%WL 0).lookup x=some c->X.env.cells.lookup x=some c:=xc qe (λx c e=>by simp at e);have el:=ct.y1 (its:=[]) (ys:=[]) (t':=s2.toks) .nil (oE _);have mA:(unop%W1 0).objs.size=s2.heap.objs.size+1:=kM ..;refine⟨ct.ok.mod,S.kind,ct.ok.glob,ct.ok.blt,dQ _,λx y c az aM=>ct.ok.inj x y c (uf x c az) (uf y c aM),λx hx=>?_,λx c h=>(by cases h),ct.ok.hd,ct.ok.frames,.inl rfl,λb af=>⟨?_,λx c e=>(f2 b af).2.2.2.2.1 x c (uf x c e)⟩,λb o e=>?_,?_,λb o e af=>?_,λb af hf=>?_,el.stack,el.Lk⟩
 ·exact tq (.inl (ahJ S.cell hx))
 ·show b≠(s2.heap.push {cls:=.type "list",data:=.seq ([]:List aq).toArray}).objs.size
  have h:=j8 b af;rw[mA];exact e3 (Nat.lt_succ_of_lt h)
 ·obtain⟨ah,ar⟩:=el.bs b o e;exact⟨ah,ar⟩
 ·have ah:=lz ct.ok.m4 ct.mA;show X.base.objs.size<=(s2.heap.push {cls:=.type "list",data:=.seq ([]:List aq).toArray}).objs.size;omega
 ·rcases (f2 b af).2.2.2.1 with q|q
  ·exact ct.ok.uU b o e q
  ·exact absurd (i' (c_ (ct.ok.bs b o e).1) q) (Nat.lt_irrefl _)
 ·rcases cM.mp (ct.CZ b hf) with q|q
  ·exact (f2 b af).2.1 q
  ·exact (f2 b af).2.2.1 q
def ala{ao:List (ak×Obj)}{σ:bA.St}{bB:aB}{s2:aH}{cC:List ak}(S:tX X scope own caps)(ct:bA.Inv X ao σ bB s2)(f2:∀b∈cC,il X ao bB b)(j8:∀b∈cC,b<s2.heap.objs.size){e9:bM}{m:Str->Option aq}{tk:Nat}
  (mn:e9.Ns (unop%W1 0).objs.size m) (keep:∀b u,(unop%W1 0).get? b=some u->e9.get? b=some u):
  bA.Inv (jZ X (own++caps.map (·.2)) scope (unop%WL 0) (unop%W1 0).objs.size {s2 with heap:=s2.heap.push {cls:=.type "list",data:=.seq ([]:List aq).toArray} } (upd bB s2.heap.objs.size (.lst [])) cC (X.dx++ao)) []
   (E5 own.length (caps.map (·.1)) σ) (upd bB s2.heap.objs.size (.lst [])) {s2 with heap:=e9,toks:=tk}:=by
 have qe:∀x∈scope.names,x.2=.free->∃c,X.env.cells.lookup x.1=some c:=λx hx aI=>ct.ok.has x.1 (S.free x hx aI);have uf:∀x c,(unop%WL 0).lookup x=some c->X.env.cells.lookup x=some c:=xc qe (λx c e=>by simp at e);have el:=ct.y1 (its:=[]) (ys:=[]) (t':=s2.toks) .nil (oE _);refine⟨UI S ct f2 j8 _,rfl,ct.bare,f6.kept keep,⟨m,mn,λi x v ah ar bh=>?_⟩,λx c e=>?_,?_,λx c e=>el.aoI x c (uf x c e),λp aL=>?_,el.bL.kept keep,by simp[E5,jZ]⟩
 ·obtain⟨j,bg,aw,bU⟩:=xr (l:=σ) ar;have hx:(caps.map (·.2))[i - own.length]?=some x:=by
   have:(own++caps.map (·.2))[i]?=some x:=ah
   rwa [wQ bg] at this
  rw[kL] at aw hx;cases ep:caps[i - own.length]? with
  |none=>rw[ep] at aw;cases aw
  |some p=>
   rw[ep] at aw hx;cases aw;cases hx;obtain⟨dz,hf⟩:=S.G8 p (qB ep);obtain⟨y,a6,k1,k2⟩:=oH hf;have aI:=S.free y a6 k1;rw[k2] at aI;obtain⟨jL,aol,P8⟩:=el.loc;have agL:oX X.env.scope p.2:=by
    rcases aI with aI|aI
    ·exact .inr (.inl aI)
    ·exact .inr (.inr aI)
   obtain⟨u,c1,lu⟩:=P8 p.1 p.2 v dz bU agL;refine⟨u,c1,.inr ⟨?_,?_⟩⟩
   ·obtain⟨jJ,az,aM⟩:=RW (env:=X.env) hf;rcases aM with rfl|⟨_,rfl⟩
    ·exact .inr az
    ·exact .inl az
   ·rcases lu with ⟨q,_⟩|⟨_,c,aw,wj⟩
    ·rcases aI with aI|aI
     ·rw[aI] at q;cases q
     ·rw[aI] at q;cases q
    ·obtain⟨bX,dA⟩:=tq (env:=X.env) (l:=scope.names) (cs:=[]) (x:=p.2) (.inl ⟨y,a6,k1,k2⟩);have:=uf _ _ dA;rw[aw] at this;cases this;obtain⟨g0,aJ,hd⟩:=wj;exact⟨c,dA,g0,keep _ _ aJ,hd⟩
 ·obtain⟨v,g0,aJ,hd⟩:=el.cell x c (uf x c e);exact⟨v,g0,keep _ _ aJ,hd⟩
 ·exact el.bL.fresh (dQ _)
 ·have rn:p∈X.dx++ao:=by simpa [jZ] using aL
  obtain⟨ah,ar,br,cF,gq⟩:=el.pin p rn;refine⟨keep _ _ ah,ar,e3 (c_ ah),λz=>?_,gq⟩;rcases cM.mp (ct.CZ p.1 z) with q|q
  ·exact br q
  ·exact cF q
def ajc{ao:List (ak×Obj)}{σ ck:bA.St}{bB ag:aB}{s2 s':aH}{cC:List ak}{xZ:List Str}(ct:bA.Inv X ao σ bB s2)(f2:∀b∈cC,il X ao bB b)
  (J:bA.Inv (jZ X xZ scope (unop%WL 0) (unop%W1 0).objs.size {s2 with heap:=s2.heap.push {cls:=.type "list",data:=.seq ([]:List aq).toArray} } (upd bB s2.heap.objs.size (.lst [])) cC (X.dx++ao)) [] ck ag s')
  {h':bM} (jR:Heap.SameBut (unop%W1 0).objs.size s'.heap h'):bA.Inv X ao σ ag {s' with heap:=h'}:=by
 have el:=ct.y1 (its:=[]) (ys:=[]) (t':=s2.toks) .nil (oE _);have u:=J.base;have free:ag (unop%W1 0).objs.size=none:=J.free;have old:∀b o,(unop%W1 0).get? b=some o->b≠(s2.heap.push {cls:=.type "list",data:=.seq ([]:List aq).toArray}).objs.size:=λb o e=>e3 (c_ e);have Bd:∀b,b≠(s2.heap.push {cls:=.type "list",data:=.seq ([]:List aq).toArray}).objs.size->∀o,s'.heap.get? b=some o->h'.get? b=some o:=λb af o e=>jR.extBut b o af e;have C_:f6 (fc X.stack) cC (upd bB s2.heap.objs.size (.lst [])) ag (unop%W1 0) h':=by
  refine⟨λb o e n hf hx=>Bd b (old b o e) _ (u.keep b o e n hf hx),λb o e n hf hx=>?_,u.free,λb o e hx=>?_,u.l4,u.k4,u.lr⟩
  ·obtain⟨cz,q⟩:=u.slot b o e n hf hx;exact⟨cz,Bd b (old b o e) _ q⟩
  ·obtain⟨o',q⟩:=u.there b o e hx;exact⟨o',Bd b (old b o e) _ q⟩
 have bL:eP X.prog X.w ag h':=λb o e=>by
  refine (J.bL b o e).kc (λc v aw q=>Bd c (λz=>?_) v q) (λ_ q=>q) λ_ _ q=>q
  rcases aw with rfl|aw
  ·rw[z,free] at e;cases e
  ·rw[z,free] at aw;cases aw
 have rm:=J.os;have _D:=J.bare;obtain⟨cR,g,d,t,os⟩:=s';obtain rfl:os=s2.os:=rm;have fin:=el.call (h':=h') (g':=g) (d':=d) (t':=t) (ch:=cC) C_ bL _D λb af=>⟨(f2 b af).2.2.2.1,(f2 b af).2.1,(f2 b af).2.2.2.2.1,(f2 b af).2.2.2.2.2⟩;exact fin
def aka{X':a3}{R:Result->aH->Prop}{J:mZ}{cC:List ak}{I4 D:ak}{jU:Nat->bM->Prop}{aK O ba:ak->Prop}{aY:gi}{bB:aB}{ts ys:List T}(hx:X'.dm=λ_ _=>False)(aw:X'.calm=true)(bq:p3 X' c9 iW)(bp:t9 X' ifs cc)(he:cT X' elt hc)
  (T:Turn X'.prog X'.w X'.K c9 J cC I4 jU) (u1:∀ag:aB,(∀b∈cC,ag b=none)->∀b∈cC,il X' [] ag b) (ok:sf X'.K J ba bB ts) (PW:ts.length<=big) (uy:bB D=none) (k6:¬O D) (_q:aY.h D=none)
  (fin:∀ck ag aD s1 vs,bA.Inv X' [] ck ag s1->Ext ba bB aD ag->ag D=some (.lst vs)->¬aD D->bH X'.K aD ag ys vs->R (.ok .next) s1)
  {s:aH} {σ:bA.St} {H:aB} {F:ak->Prop} {ai:Ev} (I:bA.Inv X' [] σ H s) (st:jU 0 s.heap) (fr:∀b∈cC,H b=none) (x:Ext ba bB F H) (r:cN X'.K aK aY O F H ai σ) (lU:H D=some (.lst [])) (nD:¬F D) (fN:g9 iW cc hc ts ai=some ys):
  hT (bG X'.prog X'.w) X'.A (.compLoop (unop%Wp 0) 0 (.ref I4) (.ref D) X'.env) R s:=by
 refine ah0 (λn s'=>∃i ck ag aD ε' o6 vs,n=ts.length - i/\i<=ts.length/\bA.Inv X' [] ck ag s'/\jU i s'.heap/\(∀b∈cC,ag b=none)/\Ext ba bB aD ag/\cN X'.K aK aY O aD ag ε' ck/\ag D=some (.lst vs)/\¬aD D/\bH X'.K aD ag o6 vs/\o6.length<=i /\
  ∃rest,g9 iW cc hc (ts.drop i) ε'=some rest/\ys=o6++rest) ?_ ts.length ⟨0,σ,H,F,ai,[],[],rfl,oE _,I,st,fr,x,r,lU,nD,bH.nil,dQ _,ys,by simpa using fN,by simp⟩
 rintro n s3 ⟨i,nU,e6,oQ,anY,o6,vs,rfl,aP,el,zr,ym,gM,jN,yr,Kk,df,P8,rest,iU,es⟩;have jn:∀{p2:ak->Prop} {me:aB} {qT:ak->Prop} {lK:aB} {o:ef},Ext p2 me qT lK->me D=some o->¬p2 D->¬qT D:=λy e n z=>by
  rcases y.new D z with q|q
  ·exact n q
  ·rw[e] at q;cases q
 by_cases eL:i<ts.length
 ·have hd:ts.drop i=ts[i]::ts.drop (i+1):=List.drop_eq_getElem_cons eL;have yB:ts[i]?=some ts[i]:=jv eL;rw[hd] at iU;simp only[g9,cm] at iU;obtain⟨xQ,lP,b,dW,iU⟩:=iU;refine et (T.item X' rfl rfl rfl aw i [] s3 nU e6 (λ_ _=>False) el (u1 e6 ym) zr (ok.go i oQ e6 _ gM.aF jN.b' yB)) (λbW s4 hqq=>?_) λ_ _ z=>z;obtain⟨u,ay,cF⟩:=hqq;subst ay;refine et cF (λ_ s5 hqq=>?_) λ_ _ z=>z;obtain⟨mD,lK,t2,ze,zF,u0,HJ⟩:=hqq;obtain⟨qT,RA,aW⟩:=ok.pP i oQ e6 _ mD lK gM.aF jN.b' yB zF;have Fe:=t2.pinned (u1 lK HJ) (T.obj _ _ u0);have BK:=bq _ s5 nU lK mD u (λqR vS=>vS=lK/\cN X'.K aK aY O qT lK xQ qR) Fe ze ⟨aK,aY,O,qT,anY,_,xQ,jN.ext RA,aW,lP,λqR zf=>⟨rfl,zf⟩⟩;rw[hx] at BK;refine et BK (λ_ cE hqq=>?_) λ_ _ z=>z;obtain⟨qR,vS,xV,v_,zf⟩:=hqq;subst v_;have again:∀{mb:bA.St} {h1:aB} {eb:aH},bA.Inv X' ([]++Ap cC s5.heap) mb h1 eb->jU (i+1) eb.heap/\(∀b∈cC,h1 b=none)/\bA.Inv X' [] mb h1 eb:=λ{mb h1 eb} jh=>by
   refine⟨T.keep _ _ _ u0 λb af o e=>(jh.pin (b,o) (kh _ (kh _ (D4 af e)))).1,λb af=>?_,jh.C'⟩
   obtain⟨o,e,d⟩:=T.obj _ _ u0 b af;exact (jh.pin (b,o) (kh _ (kh _ (D4 af e)))).2.1
  have Qh:=bp _ cE qR vS (λjE h1=>jE=b/\∃qU,Ext qT vS qU h1) xV ⟨aK,aY,O,qT,xQ,b,zf,dW,λqU h1 wN=>⟨rfl,qU,wN⟩⟩;rw[hx] at Qh;refine et Qh (λadW eb hqq=>?_) λ_ _ z=>z;obtain⟨h1,jh,v',qU,wN⟩:=hqq;subst v';have zA:=RA.trans wN;have rC:=zf.ext wN;cases adW with
  |false=>
   simp only[lA,if_false] at iU ⊢;obtain⟨a1,a2,fH⟩:=again jh;exact⟨_,by omega,i+1,qR,h1,qU,xQ,o6,vs,rfl,eL,fH,a1,a2,gM.trans zA,rC,zA.same.get yr,jn zA yr Kk,df.ext zA,by omega,rest,iU,es⟩
  |true=>
   simp only[if_true,cm,dO] at iU ⊢;obtain⟨y,Z9,ae0,Z6,rfl⟩:=iU;have pf:=he _ eb qR h1 (λv tZ=>∃qV,Ext qU h1 qV tZ/\Rep X'.K qV tZ y v) jh ⟨aK,aY,O,qU,xQ,y,rC,Z9,λv qV tZ Df pz=>⟨qV,Df,pz⟩⟩;rw[hx] at pf;refine et pf (λu8 eF hqq=>?_) λ_ _ z=>z;obtain⟨wM,tZ,Ff,r8,qV,Df,pz⟩:=hqq;have De:=zA.trans Df;have HO:=De.same.get yr;have Kl:=jn De yr Kk;obtain⟨abW,r9⟩:=(rC.ext Df).other (ys:=vs++[wM]) Kl k6 _q HO;have aC:=S5 (X:=X') _ eF qR tZ (.ref D) [wM] (.ref D) [u8] (λ_ Oo=>Oo=upd tZ D (.lst (vs++[wM]))) Ff rfl (.cons r8 .nil) ⟨D,vs,wM,rfl,rfl,HO,by rw[ma,<- df.length];omega,rfl⟩;rw[hx] at aC;refine et aC (λu9 zo hqq=>?_) λ_ _ z=>z;obtain⟨v9,Oo,W9,aoD,wb⟩:=hqq;subst wb;obtain⟨a1,a2,fH⟩:=again W9;have x9:Ext ba bB qV (upd tZ D (.lst (vs++[wM]))):=by
    have y:=gM.trans De;refine⟨λb o e=>?_,y.sub,y.new,⟨λb f=>?_,y.b'.aoN.upd λu e=>.inl ⟨_,gg (e.symm.trans HO)⟩⟩⟩
    ·have nb:b≠D:=by
      rintro rfl;rw[uy] at e;cases e
     rw[cS nb];exact y.same b o e
    ·have nb:b≠D:=by
      rintro rfl;exact Kl f
     rw[cS nb];exact y.b' b f
   refine⟨_,by omega,i+1,qR,_,qV,xQ,o6++[y],vs++[wM],rfl,eL,fH,a1,a2,x9,r9,dV,Kl,((df.ext De).append (bH.cons pz bH.nil)).aF abW,by simp;omega,ae0,Z6,by rw[es];simp⟩
 ·have hd:ts.drop i=[]:=List.drop_eq_nil_of_le (by omega);rw[hd] at iU;cases iU;refine et (T.done X' rfl rfl rfl aw i [] s3 nU e6 (λ_ _=>False) el (u1 e6 ym) zr (ok.stop i oQ e6 gM.aF (by omega))) (λbW s4 hqq=>?_) λ_ _ z=>z;obtain⟨ay,mY⟩:=hqq;subst ay;exact fin nU e6 oQ s4 vs mY gM yr Kk (by rw[es,kO];exact df)
structure After(X:a3)(ao:List (ak×Obj))(σ:bA.St)(F:ak->Prop)(H:aB)(ys:List T)(D C:ak)(ag:aB)(aD:ak->Prop)(s1:aH)(vs:List V):Prop where
 inv:∀h',Heap.SameBut C s1.heap h'->bA.Inv X ao σ ag {s1 with heap:=h'}
 ns:∃m,s1.heap.Ns C m
 free:ag C=none
 above:X.dq.heap.objs.size<=C
 cells:∀x c,X.env.cells.lookup x=some c->c≠C
 pin:∀p∈X.dx++ao,p.1≠C
 loc:C≠X.env.locals
 new:H D=none
 ext:Ext F H aD ag
 jn:¬aD D
 lst:ag D=some (.lst vs)
 rep:bH X.K aD ag ys vs
def T7{use:Option (aq->Sem Unit)}{Q:aq->aH->Prop}{eT:Pos}(S:tX X scope own caps)(aP:q1 X c9 iter it)
  (bq:∀cl C dq aY cC dx,p3 (jZ X (own++caps.map (·.2)) scope cl C dq aY cC dx) c9 iW)
  (bp:∀cl C dq aY cC dx,t9 (jZ X (own++caps.map (·.2)) scope cl C dq aY cC dx) ifs cc)
  (he:∀cl C dq aY cC dx,cT (jZ X (own++caps.map (·.2)) scope cl C dq aY cC dx) elt hc)
  (aA:∀x,wX iter X.env x=pure x) {ao:List (ak×Obj)} {s:aH} {σ:bA.St} {H:aB} {aK O F:ak->Prop} {aY:gi} {ai:Ev} {ys:List T} (I:bA.Inv X ao σ H s) (r:cN X.K aK aY O F H ai σ)
  (e:comp own.length (caps.map (·.1)) it iW cc hc ai=some (.list ys)) (fin:∀D C ag aD s1 vs,After X ao σ F H ys D C ag aD s1 vs->compPost (unop%Wk 0) X.A X.dm use Q (.ref D) C (.ok .next) s1):
  a_ (unop%Wk 0) X.A (comprehension (unop%Wp 0) scope X.env eT (newList []) false (eval iter X.env) use) Q X.dm s:=by
 simp only[comp,cm] at e;obtain⟨ts,bY,e⟩:=e;split at e
 case isFalse=>cases e
 next PW=>
 simp only[dO] at e;obtain⟨aoH,fN,e⟩:=e;cases e;have qe:∀x∈scope.names,x.2=.free->∃c,X.env.cells.lookup x.1=some c:=λx hx aI=>I.ok.has x.1 (S.free x hx aI);refine wpAny_comprehension_free rfl aA (DO qe) S.kind S.names (cK (aP ao s σ H (λJ H1=>∃ba,Ext F H ba H1/\sf X.K J ba H1 ts) I ⟨aK,aY,O,F,ai,ts,r,bY,λJ ba H1 aU ok=>⟨ba,aU,ok⟩⟩) λv s1 ah=>cK ah λI5 s2 ar=>?_);obtain⟨I4,cC,jU,J,bB,rfl,ct,T,kH,f2,ba,aU,ok⟩:=ar;have j8:∀b∈cC,b<s2.heap.objs.size:=λb af=>by
  obtain⟨o,aJ,_⟩:=T.obj 0 _ kH b af;exact c_ aJ
 have uy:bB s2.heap.objs.size=none:=ct.fresh;have lU:H s2.heap.objs.size=none:=aU.same.none uy;have mA:(unop%W1 0).objs.size=s2.heap.objs.size+1:=kM ..;refine wpAny_newList ?_ (oE _);refine Dl S.cell (by intro y a6;simp at a6) (λe9 aap aaA=>?_) S.kind;have keep:∀b u,(unop%W1 0).get? b=some u->e9.get? b=some u:=λb u e=>aaA.extBut b u (e3 (c_ e)) (cW _ e);have mY:=ala (tk:=s2.toks+0) S ct f2 j8 aap keep;have qq:=(r.ext aU).G8 (D:=s2.heap.objs.size) own.length S.aS uy;refine codeAny_compStart_list ?loop (T.self _ 0 _ _ _ (T.keep 0 _ _ kH λb af o e=>keep b o (cW _ e)) ?loop);refine aka (X':=jZ X (own++caps.map (·.2)) scope (unop%WL 0) (unop%W1 0).objs.size {s2 with heap:=s2.heap.push {cls:=.type "list",data:=.seq ([]:List aq).toArray} } (upd bB s2.heap.objs.size (.lst [])) cC (X.dx++ao))
  rfl S.calm (bq _ _ _ _ _ _) (bp _ _ _ _ _ _) (he _ _ _ _ _ _) T (λag bg b af=>?_) ok PW uy (λz=>z.2 rfl) (r.o0 _ (r.fr _ lU)) (λck ag aD s1 vs oT mD _p ab2 eU=>?_) mY (T.keep 0 _ _ kH λb af o e=>keep b o (cW _ e)) (λb af=>?_) (Ext.laid aU.b' uy) qq dV ?_ fN
 ·have KS:=UI S ct f2 j8 (own++caps.map (·.2));refine⟨bg b af,(KS.wd b af).1,KS.uo b af,.inl af,λx c e=>(KS.wd b af).2 x c e,λp aL=>?_⟩;have rn:p∈X.dx++ao:=by simpa [jZ] using aL
  exact (f2 b af).2.2.2.2.2 p rn
 ·obtain⟨m,bg,_⟩:=id oT.loc;refine fin s2.heap.objs.size _ ag aD s1 vs ⟨λh' jR=>ajc ct f2 oT jR,⟨m,bg⟩,oT.free,?_,λx c e z=>?_,λp aL z=>?_,?_,lU,aU.trans mD,ab2,_p,eU⟩
  ·rw[mA];exact Nat.le_succ_of_le ct.mA
  ·obtain⟨v,q⟩:=ct.cell x c e;have:=q.lt;rw[z,mA] at this;exact absurd this (Nat.not_lt.mpr (rO _))
  ·have:=c_ (ct.pin p aL).1;rw[z,mA] at this;exact absurd this (Nat.not_lt.mpr (rO _))
  ·have:=ct.lt;rw[mA];exact iG (Nat.lt_succ_of_lt this)
 ·have:=(f2 b af).1;rw[cS (e3 (j8 b af))];exact this
 ·intro z;obtain⟨o,e⟩:=aU.b' _ z;rw[uy] at e;cases e
def amA(S:tX X scope own caps)(aP:q1 X c9 iter it)
  (bq:∀cl C dq aY cC dx,p3 (jZ X (own++caps.map (·.2)) scope cl C dq aY cC dx) c9 iW)
  (bp:∀cl C dq aY cC dx,t9 (jZ X (own++caps.map (·.2)) scope cl C dq aY cC dx) ifs cc)
  (he:∀cl C dq aY cC dx,cT (jZ X (own++caps.map (·.2)) scope cl C dq aY cC dx) elt hc)
  (aA:∀x,wX iter X.env x=pure x:=by intro _;rfl):ao_ X (unop%Wp 0) (comp own.length (caps.map (·.1)) it iW cc hc):=by
 intro ao s σ H Q I ⟨aK,aY,O,F,ai,ys,r,e,k⟩;rw[eval_ListComp];refine T7 S aP bq bp he aA I r e λD C ag aD s1 vs a=>?_;obtain⟨m,bg⟩:=a.ns;exact⟨m,bg,λh' jR=>⟨.ref D,ag,a.inv h' jR,rfl,k D vs aD ag a.ext a.new a.jn a.lst a.rep⟩⟩
def Th{ai:Ev}{n:Nat}{cs:List Nat}{t:T}(e:comp n cs it iW cc hc ai=some t):∃ts,t=.list ts:=by
 simp only[comp,cm] at e;obtain⟨ts,_,e⟩:=e;split at e
 ·simp only[dO] at e;obtain⟨ys,_,e⟩:=e;exact⟨ys,e.symm⟩
 ·cases e
def qK(S:tX X scope own caps)(aP:q1 X c9 iter it)
  (bq:∀cl C dq aY cC dx,p3 (jZ X (own++caps.map (·.2)) scope cl C dq aY cC dx) c9 iW)
  (bp:∀cl C dq aY cC dx,t9 (jZ X (own++caps.map (·.2)) scope cl C dq aY cC dx) ifs cc)
  (he:∀cl C dq aY cC dx,cT (jZ X (own++caps.map (·.2)) scope cl C dq aY cC dx) elt hc)
  (aA:∀x,wX iter X.env x=pure x:=by intro _;rfl):cT X (unop%Wp 0) (comp own.length (caps.map (·.1)) it iW cc hc):=
 QD (amA S aP bq bp he aA) λai t e=>Th e
def NG(i:Nat){x:Str}{gb uZ:Pos}(dz:X.N.Nodup)(S:tX X scope own caps)(hit:q1 X c9 iter it)
  (bq:∀cl C dq aY cC dx,p3 (jZ X (own++caps.map (·.2)) scope cl C dq aY cC dx) c9 iW)
  (bp:∀cl C dq aY cC dx,t9 (jZ X (own++caps.map (·.2)) scope cl C dq aY cC dx) ifs cc)
  (he:∀cl C dq aY cC dx,cT (jZ X (own++caps.map (·.2)) scope cl C dq aY cC dx) elt hc)
  (aP:X.N[i]?=some x:=by rfl) (hx:Loc X.env.scope x:=by first|exact Or.inl rfl|exact Or.inr rfl)
  (pj:kP (unop%Wp 0) (some (.Name x gb)) uZ.line X.env=pure true:=by rfl)
  (hf:X.fn x=true\/X.env.scope.names.lookup x=some .local:=by first|exact .inl rfl|exact .inr rfl)
  (aA:∀x,wX iter X.env x=pure x:=by intro _;rfl):
  gP X (.Assign [.Name x gb] (unop%Wp 0) uZ) (asg i (comp own.length (caps.map (·.1)) it iW cc hc)):=by
 intro ao s σ H D I ⟨aK,aY,O,F,ai,o,r,e,k⟩;simp only[asg,dO] at e;obtain⟨t,bY,rfl⟩:=e;obtain⟨ys,rfl⟩:=Th bY;rw[exec_Assign_Name_used _ _ _ _ pj];refine aN (wpAny_standAt (aN ?_));show a_ _ X.A (do let _ <- comprehension (unop%Wp 0) scope X.env _ (newList []) false (eval iter X.env) (some (assign (.Name x gb) X.env))) _ _ s;refine aN (cK (T7 (use:=some (assign (.Name x gb) X.env)) (Q:=λ_ s'=>q3 X ao D .next s') S hit bq bp he aA I r bY λxS C ag aD s1 vs a=>?_) λ_ s' a5=>b2 (b2 a5));have W_:=a.inv s1.heap (Heap.SameBut.refl ..);have W':bA.Inv X ao σ ag s1:=W_;show a_ _ X.A (assign (.Name x gb) X.env (.ref xS)) _ _ _;refine wpAny_assign_Name (SS (v:=.ref xS) W' dz aP hx rfl (λs2 ct hqq=>?_) hf);obtain⟨b,jR,af⟩:=hqq;obtain⟨m,bg⟩:=a.ns;have nb:C≠b:=by
  rcases af with rfl|af
  ·exact a.loc
  ·exact (a.cells x b af).symm
 refine⟨m,bg.sameBut jR nb,λh' afb=>?_⟩
 have el:bA.Inv X ao (σ.set i (some (.ref xS))) ag {s2 with heap:=h'}:=ct.turned (t':=s2.toks) (it:=C) (λb o af e=>afb.extBut b o af e) a.free a.loc (.inr a.above) a.cells a.pin;refine⟨_,ag,el,?_⟩;have y:Ext F H (λb=>aD b\/b=xS) ag:=⟨a.ext.same,λb z=>.inl (a.ext.sub b z),λb z=>by
  rcases z with z|rfl
  ·exact a.ext.new b z
  ·exact .inr a.new,⟨λb z=>by
  rcases z with z|rfl
  ·exact a.ext.b' b z
  ·exact⟨_,a.lst⟩,a.ext.b'.aoN⟩⟩
 refine k _ _ ag y.aF ((r.ext y).set i ?_)
 simp only[Rep];exact⟨xS,vs,rfl,.inr rfl,.inl a.lst,a.rep.keep (λ_ _ z=>z) λb _ z w=>⟨.inl z,w⟩⟩
end
end
section
variable [cB]
open AutoSeq1 (wpAny_loadPart')
def ag0(l:ak)(items:Array aq)(n:Nat)(p7:Option ak)(cz:Array (Option aq)):
  Meets (Builtin.«enumerate.__new__» ⟨[.type "enumerate",.ref l],[]⟩) (λ_ R s=>s.heap.get? l=some {cls:=.type "tuple",dict:=p7,data:=.seq items n,slots:=cz} /\
   R (.ok (.ret (.ref (unop%W0 0).objs.size)))
    {s with heap:=(unop%W0 0).push {cls:=.type "enumerate",data:=.fields #[.none,.bool false,.ref s.heap.objs.size,g7 0,.none,.none]} }):=
 .of_wp λprog w A R s h=>by
  obtain⟨aL,g,d,tk,os⟩:=s;obtain⟨aG,h⟩:=h;have BU:=sub_enumerate;have f':Heap.IsTuple (Shared.heap ⟨aL,g,d,tk,os⟩) l items:=⟨_,aG,rfl,n,rfl⟩
  wp_walk using wpAny_loadPart' aG
  refine wpAny_stack_any λst=>b2 ?_
  split
  ·rename_i c _ _ _ _ _
   cases (c==Value.type "enumerate")
   ·wp_walk using wpAny_loadPart' aG,rP f'
    exact⟨_,rfl,h⟩
   ·wp_walk using wpAny_loadPart' aG,rP f'
    exact⟨_,rfl,h⟩
  ·wp_walk using wpAny_loadPart' aG,rP f'
   exact⟨_,rfl,h⟩
section
variable {prog:cA}{w:b_}{A:cw}{E:aq->aH->Prop}{s:aH}
def ag1{l:ak}{items:Array aq}{Q:aq->aH->Prop}(f':s.heap.IsTuple l items)
  (h:∀h',IsEnum h' (unop%Ws 0) s.heap.objs.size 0 .none->h'.IsTupleIter s.heap.objs.size l 0->h'.objs.size=s.heap.objs.size+2 ->
   (unop%Wm 0)->Q (.ref (unop%Ws 0)) {s with heap:=h'}):
  a_ (bG prog w) A (call (.type "enumerate") [.ref l]) Q E s:=by
 obtain⟨⟨c,p7,ye,cz⟩,aG,aw,n,hd⟩:=f';replace aw:c=.type "tuple":=aw;replace hd:ye=.seq items n:=hd;subst aw hd;refine callType_new F.called_enumerate (by decide) (F.typeCall_enumerate_1 _) (F.newCall_enumerate_1 _) (λobj=>F.args_object_init_2 obj _) F.entry_enumerate_new
  (ag0 l items n p7 cz) ⟨aG,?_⟩
 have hz:(unop%W0 0).objs.size=s.heap.objs.size+1:=kM ..;show _/\_;rw[hz];have he:IsEnum ((unop%W0 0).push
   {cls:=.type "enumerate",data:=.fields #[.none,.bool false,.ref s.heap.objs.size,g7 0,.none,.none]}) (unop%Ws 0) s.heap.objs.size 0 .none:=by
  have:=fR (unop%W0 0)
   (o:={cls:=.type "enumerate",data:=.fields #[.none,.bool false,.ref s.heap.objs.size,g7 0,.none,.none]}) rfl
  rw[hz] at this;exact this
 refine⟨⟨_,he,rfl⟩,h _ he ⟨_,cW _ (fR _ rfl),rfl,rfl⟩ (by rw[kM,hz]) λb o x=>cW _ (cW _ x)⟩
def ahc{it l:ak}{i:Nat}{items}{x:aq}{Q:aq->aH->Prop}(hit:s.heap.IsTupleIter it l i)
  (aG:s.heap.IsTuple l items) (hx:items[i]?=some x)
  (hv:∀h',h'.IsTupleIter it l (i+1)->Heap.SameBut it s.heap h'->Q x {s with heap:=h'}):
  a_ (bG prog w) A (mE (.ref it)) Q E s:=by
 obtain⟨o,aJ,aw,hd⟩:=id hit;obtain⟨ol,Il,_,nl,H4⟩:=aG;unfold mE;refine aN (te (name:=Str.ofString "__next__") hit.typeIs Dk
  (rR Dk hit.typeIs F.entry_tuple_iterator_next ?_ (F.args_tuple_iterator_next_1 _)))
 show a_ _ _ (field (.ref it) 0 >>= _) _ _ s
 refine aN (ie aJ hd (x:=.ref l) rfl ?_)
 show a_ _ _ (if (Value.ref l==Value.none)=true then _ else _) _ _ s
 rw[if_neg (show ¬((Value.ref l==Value.none)=true) from mG)];show a_ _ _ (field (.ref it) 1 >>= _) _ _ s;refine aN (ie aJ hd (x:=.int i 0) rfl ?_);show a_ _ _ (seqItems? (.ref l) >>= _) _ _ s;refine aN (nG Il H4 ?_);simp only[Int.toNat_natCast,hx];refine aN (wpAny_setField aJ hd (by simp) (b2 ⟨x,rfl,b2 (hv _ ?_ (Heap.SameBut.update ..))⟩));exact⟨_,Heap.get?_update_self _ aJ (Obj.isFreed_of_fields (Obj.data_mapFields hd _)),(Obj.cls_mapFields ..).trans aw,by
  rw[Obj.data_mapFields hd];simp[g7]⟩
def LX{it l:ak}{i:Nat}{items}{Q:aq->aH->Prop}(cR:A.handled=none)
  (hit:s.heap.IsTupleIter it l i) (aG:s.heap.IsTuple l items) (hx:items[i]?=none)
  (jl:∀h' e,Heap.ExtBut it s.heap h'->(∃o,h'.get? e=some o/\o.cls=.type "StopIteration")->E (.ref e) {s with heap:=h'}):
  a_ (bG prog w) A (mE (.ref it)) Q E s:=by
 obtain⟨o,aJ,aw,hd⟩:=id hit;obtain⟨ol,Il,_,nl,H4⟩:=aG;unfold mE;refine aN (te (name:=Str.ofString "__next__") hit.typeIs Dk
  (rR Dk hit.typeIs F.entry_tuple_iterator_next ?_ (F.args_tuple_iterator_next_1 _)))
 show a_ _ _ (field (.ref it) 0 >>= _) _ _ s
 refine aN (ie aJ hd (x:=.ref l) rfl ?_)
 show a_ _ _ (if (Value.ref l==Value.none)=true then _ else _) _ _ s
 rw[if_neg (show ¬((Value.ref l==Value.none)=true) from mG)];show a_ _ _ (field (.ref it) 1 >>= _) _ _ s;refine aN (ie aJ hd (x:=.int i 0) rfl ?_);show a_ _ _ (seqItems? (.ref l) >>= _) _ _ s;refine aN (nG Il H4 ?_);simp only[Int.toNat_natCast,hx];refine aN (wpAny_rule (aN (wpAny_setField aJ hd (by simp) ?_)));show a_ _ _ (newExc (.type "StopIteration") [] >>= _) _ _ _;refine aN ?_;simp only[newExc,newTuple];refine aN (rQ ?_ (by size_fits));refine aN (m:=firstArgMember _ _) (wpAny_of_eq (a:=Value.none) (by first|rfl|(simp only[firstArgMember];rfl)) ?_);refine rQ ?_ (by size_fits);simp only[raiseNew];refine aN (wpAny_handled ?_)
 first|rw[show A.in1.handled=none from cR]|rw[cR]
 refine aN (b2 (wpAny_throw ?_))
 exact jl _ _ (((Heap.SameBut.update ..).extBut.push _).push _) ⟨_,fR _ rfl,rfl⟩
end
def Mi{prog:cA}{w:b_}{A:cw}(cR:A.handled=none)(it l:ak)(dY:l≠it)(items:Array aq):
  Draws prog w A it [it,l] items.size (λi v=>items[i]?=some v) (λi h=>h.IsTupleIter it l i/\h.IsTuple l items) where
 live:=λ_ _ st=>let ⟨o,aJ,_⟩:=st.1;⟨o,aJ⟩
 frame:=λ_ _ _ st aI=>⟨st.1.at λo e=>aI it (by simp) o e,let ⟨o,aJ,r⟩:=st.2;⟨o,aI l (by simp) o aJ,r⟩⟩
 item:=λi s Q E aP st hv=>by
  refine ahc st.1 st.2 (x:=items[i]) (by simp[aP]) λh' yD od=>?_
  exact hv _ h' s.toks (by simp[aP]) ⟨yD,st.2.extBut od.extBut dY⟩ od
 done:=λs Q E st jl=>LX cR st.1 st.2 (by simp) jl
noncomputable def Fh(K:bc)(a:ak):mZ:=
 ⟨λi H=>∃xs x,dc K H a xs/\xs[i]?=some x,λi H x ag=>∃p v,H p=none/\x=.ref p/\ag=upd H p (.tup [.int i,v])/\∀xs,dc K H a xs->xs[i]?=some v,λi H=>∃xs,dc K H a xs/\xs.length<=i⟩
def ajr{P:cA}{w:b_}{K:bc}{es:List bx}{k:Nat}{pos:Pos}(a it e:ak)(dY:e≠it)(HZ:a≠it)(HY:a≠e):Turn P w K (.Tuple es k pos) (Fh K a) [e,it] e (λi h=>(∃old,IsEnum h e it i old)/\h.IsTupleIter it a i) where
 mem:=by simp
 obj:=λi h st b af=>by
  obtain⟨⟨old,he⟩,o,aJ,aw,hd⟩:=st;rcases cM.mp af with rfl|af
  ·exact⟨_,he,λv z=>by
    have jc:Data.fields _=Data.cell v:=z;cases jc⟩
  ·have az:b=it:=by simpa using af
   subst az;exact⟨o,aJ,λv z=>by rw[hd] at z;cases z⟩
 keep:=λi h h' st b5=>by
  obtain⟨⟨old,he⟩,kH⟩:=st;exact⟨⟨old,b5 e (by simp) _ he⟩,kH.at λo q=>b5 it (by simp) o q⟩
 item:=by
  intro X gW hw iX aw i ao s σ H E I hf st bq;subst gW hw iX;obtain⟨xs,x,a5,hx⟩:=bq;obtain⟨its,bW,p,hz⟩:=I.tuple a5;obtain⟨u,b8,c1⟩:=bW.get hx;obtain⟨⟨old,he⟩,hit⟩:=st;obtain⟨f0,f1,f2,iV,f4,ir⟩:=hf e (by simp);obtain⟨pe,g1,g2,g3,ur,n8⟩:=hf it (by simp);have aP:i<its.toArray.size:=by
   rw[eG];exact (g6.mp b8).1
  have Ih:e∉[it,a]:=by
   intro z;rcases cM.mp z with z|z
   ·exact dY z
   ·have jc:e=a:=by simpa using z
    exact HY jc.symm
  refine wpAny_pyNext_enum_itemD (Mi (A:=X.A.in1) (I.ok.hd aw) it a HZ its.toArray) he ⟨hit,p⟩ aP dY Ih λmD h' tk HQ aJ od c0 hsz aI=>?_
  have ex:mD=u:=by
   have:=HQ;rw[<- Array.getElem?_toList] at this;rw[show (its.toArray).toList=its from rfl,b8] at this;exact (gg this).symm
  subst ex;refine⟨_,rfl,wpAny_letOwnedTupleGo_enum aJ λar pf i0=>?_⟩;have yA:e<s.heap.objs.size:=c_ he;have H_:it<s.heap.objs.size:=by obtain⟨o,jH,_⟩:=hit;exact c_ jH
  have k2:∀b o,b≠e->b≠it->s.heap.get? b=some o->ar.get? b=some o:=λb o ah br q=>i0.extBut b o ah (aI b o ah br q);have fr:H s.heap.objs.size=none:=I.bL.fresh (dQ _);have HS:ar.get? s.heap.objs.size=some {cls:=.type "tuple",data:=.seq #[.int i tk,mD]}:=i0.extBut _ _ (iG yA) c0;have pv:∀b o,H b=some o->b≠e/\b≠it:=λb o q=>⟨λz=>(by rw[z,f0] at q;cases q),λz=>(by rw[z,pe] at q;cases q)⟩;have Ik:eP X.prog X.w (upd H s.heap.objs.size (.tup [.int i,x])) ar:=by
   intro b o q;by_cases af:b=s.heap.objs.size
   ·subst af;rw[dV] at q;cases q;exact⟨by show 2<=cj;decide,[.int i tk,mD],.cons ⟨tk,rfl⟩ (.cons c1 .nil),⟨_,HS,rfl,_,rfl⟩⟩
   ·rw[cS af] at q;refine (I.bL b o q).kc (λc v dA eU=>k2 c v ?_ ?_ eU) (λc eU=>?_) λc ys eU=>?_
    ·rcases dA with rfl|dA
     ·exact (pv _ _ q).1
     ·exact (pv _ _ dA).1
    ·rcases dA with rfl|dA
     ·exact (pv _ _ q).2
     ·exact (pv _ _ dA).2
    ·rw[cS (jw eU fr)];exact eU
    ·rw[cS (jw eU fr)];exact eU
  have ct:bA.Inv X ao σ (upd H s.heap.objs.size (.tup [.int i,x])) {s with heap:=ar,toks:=tk+1}:=by
   refine I.step (g':=s.gens) (d':=s.drawn) (ch:=[e,it]) (λb af=>?_) (λb o _ _ dA q _=>k2 b o (λz=>dA (by simp[z])) (λz=>dA (by simp[z])) q) (λb o _ _ dA q _=>⟨o.slots,k2 b o (λz=>dA (by simp[z])) (λz=>dA (by simp[z])) q⟩) (λb o _ q n=>?_)
    (λb o dA q=>⟨o,k2 b o (λz=>dA (by simp[z])) (λz=>dA (by simp[z])) q⟩) (λb ys q=>by rw[cS (jw q fr)];exact q) (λb o u q=>by rw[cS (jw q fr)];exact q) (λb ps q=>⟨#[],by rw[cS (jw q fr),q];simp⟩) (λm hm=>?_) Ik I.bare
   ·rcases cM.mp af with rfl|af
    ·exact⟨iV,f1,f4,ir⟩
    ·have:b=it:=by simpa using af
     subst this;exact⟨g3,g1,ur,n8⟩
   ·rw[cS (e3 (c_ q))];exact n
   ·obtain⟨o,jG,ep,jH,r⟩:=hm;exact⟨o,jG,ep,k2 _ o (Ne.symm f1) (Ne.symm g1) jH,r⟩
  refine⟨.ref s.heap.objs.size,_,ct,rfl,⟨s.heap.objs.size,x,fr,rfl,rfl,λys a6=>by rw[I.LA a6 a5];exact hx⟩,⟨⟨_,by simpa using pf⟩,od.1.at λo q=>(i0.2 it dY.symm).trans q⟩,λb af=>?_⟩
  rcases cM.mp af with rfl|af
  ·rw[cS (e3 yA)];exact f0
  ·have:b=it:=by simpa using af
   subst this;rw[cS (e3 H_)];exact pe
 done:=by
  intro X gW hw iX aw i ao s σ H E I hf st bq;subst gW hw iX;obtain⟨xs,a5,hx⟩:=bq;obtain⟨its,bW,p,hz⟩:=I.tuple a5;obtain⟨⟨old,he⟩,hit⟩:=st;obtain⟨pe,g1,g2,g3,ur,n8⟩:=hf it (by simp);have c0:s.TypeIs (.ref e) "enumerate":=⟨_,he,rfl⟩;have aG:=bW.length;unfold pyNext;refine aN (wpAny_attempt (te (name:=Str.ofString "__next__") c0 F.slot_enumerate_next
   (rR F.slot_enumerate_next c0 F.entry_enumerate_next ?_ (F.args_enumerate_next_1 _))))
  show a_ _ _ (field (.ref e) 2 >>= _) _ _ _
  refine aN (ie he rfl (x:=.ref it) rfl ?_)
  refine aN (LX (I.ok.hd aw) hit (show s.heap.IsTuple a its.toArray from p) (by simp;omega) λh' x lX kD=>?_)
  obtain⟨o,aJ,dA⟩:=kD;refine aN (wpAny_isInstance (T:="StopIteration") (b:=true) ⟨o,aJ,dA⟩ isSubtype_stop ?_);exact b2 ⟨rfl,I.turned (t':=s.toks) (λb o af q=>lX b o af q) pe g1 g3 ur n8⟩
 self:=λ_ _ _ _ _ st h=>by
  obtain⟨⟨old,he⟩,_⟩:=st;exact wpAny_pyIter_enum he h
noncomputable def aaW(K:bc)(cJ:gk):TI:=λσ H R=>cJ σ H λvs H1=>∃a xs,vs=[.ref a]/\dc K H1 a xs/\R (Fh K a) H1
section
variable {X:a3}{es:List bx}{k:Nat}{p pos eT:Pos}{a:bx}{f:bZ}
def alB{cJ:gk}(bq:ee X "enumerate")(hm:X.mg "enumerate"=none)(aC:gj X [a] cJ)(aA:bl [a] X.env=[(false,eval a X.env)]:=by rfl):sl X (.Tuple es k eT) (.Call (.Name "enumerate" p) [a] [] pos) (aaW X.K cJ):=by
 intro ao s σ H R I h;refine Call_ (qO I bq hm PyProof.Rows.boot_enumerate (zD (cK (aC pos ao s σ H _ I h) λus s1 hqq=>?_) aA rfl));obtain⟨vs,H1,bj,bk,aQ⟩:=hqq;obtain⟨a,xs,rfl,a5,q⟩:=aQ;cases bk with
|cons r rD=>
  cases rD
  cases r
  obtain⟨its,bW,pl,hz⟩:=bj.tuple a5;have yw:a<s1.heap.objs.size:=by obtain⟨o,aJ,_⟩:=pl;exact c_ aJ
  refine ag1 (show s1.heap.IsTuple a its.toArray from pl) λh' he hit hsz aI=>wpAny_pyIter_enum he ?_
  refine⟨s1.heap.objs.size+1,[s1.heap.objs.size+1,s1.heap.objs.size],_,_,H1,rfl,bj.kept (t':=s1.toks) aI,ajr a s1.heap.objs.size (s1.heap.objs.size+1) (Nat.succ_ne_self _) (e3 yw) (e3 (Nat.lt_succ_of_lt yw)),⟨⟨_,he⟩,hit⟩,λb af=>?_,q⟩
  have j7:s1.heap.objs.size<=b:=by
   rcases cM.mp af with rfl|af
   ·exact rO _
   ·have:b=s1.heap.objs.size:=by simpa using af
    rw[this];exact dQ _
  exact bj.wi j7 (bj.bL.fresh j7)
def ajZ{K:bc}{a:ak}{ba:ak->Prop}{H1:aB}{ts:List T}{vs:List V}(ay:dc K H1 a vs)(q:bH K ba H1 ts vs):sf K (Fh K a) ba H1 (enum ts) where
 go:=λi F H t aF d e=>by
  have aP:=(g6.mp e).1;simp only[enum,fh,List.length_zipIdx] at aP;obtain⟨v,ah,_⟩:=q.get (jv aP);exact⟨vs,v,aF.tup _ _ ay,ah⟩
 pP:=λi F H t x ag aF d e y=>by
  obtain⟨p,v,aL,rfl,rfl,y⟩:=y;have aP:=(g6.mp e).1;simp only[enum,fh,List.length_zipIdx] at aP;obtain⟨kJ,ah,ar⟩:=(q.aF aF).get (jv aP);have br:=y vs (aF.tup _ _ ay);rw[ah] at br;cases br;have aU:=Ext.laid (o:=.tup [.int i,v]) d aL;refine⟨F,aU,?_⟩;have bY:t=.tuple [.int i,ts[i]]:=by
   simp only[enum,kL,List.getElem?_zipIdx,jv aP] at e;simpa using e.symm
  subst bY;simp only[Rep];exact⟨p,_,rfl,dc.of dV,bH.cons (by simp[Rep]) (bH.cons (ar.ext aU) bH.nil)⟩
 stop:=λi F H aF aG=>⟨vs,aF.tup _ _ ay,by
  simp only[enum,fh,List.length_zipIdx] at aG;rw[<- q.length];exact aG⟩
def ER(hm:X.mg "enumerate"=none)(aC:cT X a f)(bq:ee X "enumerate":=by rfl)(aA:bl [a] X.env=[(false,eval a X.env)]:=by rfl)(i0:bl [a] X.env=(false,eval a X.env)::bl [] X.env:=by rfl):
  q1 X (.Tuple es k eT) (.Call (.Name "enumerate" p) [a] [] pos) (iJ (gO f)):=ES (alB bq hm (fu aC hJ i0) aA) λσ H R ⟨aK,aY,O,F,ai,ts,r,e,k⟩=>by
 simp only[iJ,gO,dO,cm] at e;obtain⟨us,⟨t,bY,e⟩,rfl⟩:=e;split at e
 ·cases e
  refine⟨aK,aY,O,F,ai,_,r,bY,λv aD ag x q=>?_⟩
  simp only[Rep] at q;obtain⟨a,vs,rfl,aA,ay⟩:=q;exact⟨a,vs,rfl,aA,k _ aD ag x (ajZ aA ay)⟩
 ·cases e
end
end
section
variable [cB]
structure Cl(P:cA)(w:b_)(K:bc)(mg:Str->Option aq)(base:bM)(x:Str)(k n:Nat)(d:List T->Option T):Prop where
 ex:∃cp fd ps,e5 P w K mg base dH k cp fd ps (spT K n d)/\mg x=some (.ref cp)/\nx K (.ref cp)=true/\gh K fd ps []
section
variable {P:cA}{w:b_}{K:bc}{mg:Str->Option aq}{base:bM}{x:Str}{k n:Nat}{d:List T->Option T}
theorem Cl.mono{j:Nat}(c:Cl P w K mg base x j n d)(h:j<=k):Cl P w K mg base x k n d:=by
 obtain⟨cp,fd,ps,F,r⟩:=c.ex;exact⟨cp,fd,ps,F.mono h,r⟩
def Cl.mk'{cp:ak}{fd:eo}{ps:List Str}(F:e5 P w K mg base dH k cp fd ps (spT K n d))(m:mg x=some (.ref cp))(aF:nx K (.ref cp)=true)(b:gh K fd ps []):Cl P w K mg base x k n d:=⟨cp,fd,ps,F,m,aF,b⟩
end
section
variable {X:a3}{k n:Nat}{d:List T->Option T}{x:Str}{p pos:Pos}{e:bx}{es:List bx}{aE:List bZ}
def d5(C:Cl X.prog X.w X.K X.mg X.base x k n d)(ay:da k X.A)(aC:nX X (e::es) aE)(bq:ee X x:=by rfl)(bg:aE.length=n:=by rfl)(hg:(x==("__debug__":Str))=false:=by decide)
  (he:bl (e::es) X.env=(false,eval e X.env)::bl es X.env:=by rfl) (hpl:(unop%Wy 0).any (·.1)=false:=by rfl):cT X (unop%WC 0) (aX d aE):=by
 obtain⟨cp,fd,ps,F,m,aF,b⟩:=C.ex;exact amB F ay bq m aF b aC bg hg he hpl
def zd{i:Int}{t:Tok}(hm:X.mg x=some (.int i t))(bq:ee X x:=by rfl)(hd:(x==("__debug__":Str))=false:=by decide):cT X (.Name x pos) (ae (.int i)):=xH (v:=.int i) (xm (v:=.int i) bq hm ⟨t,rfl⟩ hd) λ_ _=>by simp[Rep]
noncomputable def VG(scope sc:Scope)(N:List Str)(caps:List (Nat×Str)):Bool:=
 decide (scope.kind=.function) && scope.names.all (λy=>(decide (y.2≠.local) || decide (scope.names.lookup y.1=some .local)) && decide (y.2≠.cell) && (decide (y.2≠.free) || decide (sc.names.lookup y.1=some .cell) || decide (sc.names.lookup y.1=some .free)))
  && caps.all (λq=>decide (N[q.1]?=some q.2) && decide (scope.names.lookup q.2=some .free)) && decide ((caps.map (·.1)).Nodup)
def am'{scope sc:Scope}{own:List Str}{caps:List (Nat×Str)}(N:List Str)(uI:X.env.scope=sc)(dz:X.N=N)(aw:X.calm=true)(h:VG scope sc N caps=true):tX X scope own caps:=by
 simp only[VG,ic,List.all_eq_true,decide_eq_true_eq,Bool.or_eq_true] at h;obtain⟨⟨⟨ah,ar⟩,br⟩,cF⟩:=h;refine⟨ah,λy a6 aG=>?_,λy a6=>(ar y a6).1.2,λy a6 hf=>?_,λq a5=>by rw[dz];exact br q a5,cF,aw⟩
 ·rcases (ar y a6).1.1 with z|z
  ·exact absurd aG z
  ·exact z
 ·have aI:X.env.kindOf y.1=sc.names.lookup y.1:=by rw[<- uI];rfl
  rw[aI];rcases (ar y a6).2 with (z|z)|z
  ·exact absurd hf z
  ·exact .inl z
  ·exact .inr z
end
def hY{P:cA}{w:b_}{K:bc}{mg:Str->Option aq}{base:bM}{x:Str}{st:Stmt}{f:ak}{fd:eo}{N ps:List Str}{k:Nat}{b:bJ}(F:cL K x x st f fd)(S:cZ N ps (bR st))(bd:gh K fd ps [])(m:mg x=some (.ref f))
  (af:∀(b1:aq) (A:cw) (outer:List Env) (s:aH) (H:aB) (E:fb),da k (A.deeper (envOfC x (bR st) s.heap.objs.size f b1)) ->
   j2 (fx dH P w K mg base N x (bR st) f b1 A outer s H E).d_ (fv st) b):Cl P w K mg base x (k+1) ps.length (c2 b N.length):=.mk' (am7 F S af) m F.aF bd
end
end D
end
section
namespace bA
open PySem PySem.Spec PyProof.Rows
section
variable {eZ:Type}[DecidableEq eZ]
noncomputable def mC(kvs:List (eZ×V))(k:eZ):Option V:=(kvs.find? λdk=>decide (dk.1=k)).map (·.2)
noncomputable def putK(kvs:List (eZ×V))(k:eZ)(v:V):List (eZ×V):=
 if (kvs.any λdk=>decide (dk.1=k))=true then kvs.map (λdk=>if dk.1=k then (dk.1,v) else dk) else kvs++[(k,v)]
def MR{p:eZ×V}{r:List (eZ×V)}{k:eZ}(e:p.1=k):mC (p::r) k=some p.2:=by simp[mC,rM,e]
def MS{p:eZ×V}{r:List (eZ×V)}{k:eZ}(e:¬p.1=k):mC (p::r) k=mC r k:=by simp[mC,rM,e]
theorem TF(k:eZ):∀kvs:List (eZ×V),(kvs.any λdk=>decide (dk.1=k))=(mC kvs k).isSome
| []=>rfl
|p::r=>by
  rw[List.any_cons];by_cases e:p.1=k
  ·simp only[MR e,decide_eq_true e,Bool.true_or,Option.isSome_some]
  ·rw[MS e,decide_eq_false e,Bool.false_or];exact TF k r
def Se(kvs:List (eZ×V))(k:eZ)(v:V):(putK kvs k v).length<=kvs.length+1:=by
 unfold putK;split
 ·rw[fh];omega
 ·rw[l8,eX,lB];omega
def kT.aaZ{o:Option V}{u:Option aq}(r:kT o u):o.isSome=u.isSome:=by
 cases o with
|none=>cases u with
  |none=>rfl
  |some _=>exact (show False from r).elim
|some _=>cases u with
  |none=>exact (show False from r).elim
  |some _=>rfl
def hL.val{kvs:List (eZ×V)}{vs:List (eZ×aq)}(r:hL kvs vs)(k:eZ):kT (mC kvs k) (valueAt vs k):=by
 unfold hL at r
 induction r with
|nil=>exact True.intro
| @cons p q ps nq h t bT=>
  obtain⟨ah,ar⟩:=h;by_cases e:p.1=k
  ·have bD:q.1=k:=ah.symm.trans e;have b:valueAt (q::nq) k=some q.2:=by simp[valueAt,rM,bD]
   rw[MR e,b];exact ar
  ·have bD:¬q.1=k:=λz=>e (ah.trans z);have b:valueAt (q::nq) k=valueAt nq k:=by simp[valueAt,rM,bD]
   rw[MS e,b];exact bT
theorem hL.any{kvs:List (eZ×V)}{vs:List (eZ×aq)}(r:hL kvs vs)(k:eZ):(kvs.any λdk=>decide (dk.1=k))=vs.any λdk=>decide (dk.1=k):=by
 unfold hL at r
 induction r with
|nil=>rfl
|cons h t bT=>rw[List.any_cons,List.any_cons,bT,h.1]
def hL.Lb{kvs:List (eZ×V)}{vs:List (eZ×aq)}(r:hL kvs vs)(k:eZ){y:V}{u:aq}(bC:RelV y u):
  hL (kvs.map λdk=>if dk.1=k then (dk.1,y) else dk) (vs.map λdk=>if dk.1=k then (dk.1,u) else dk):=by
 unfold hL at r ⊢
 induction r with
|nil=>exact .nil
| @cons p q ps nq h t bT=>
  rw[de,de];refine .cons ?_ bT;obtain⟨ah,ar⟩:=h;by_cases e:p.1=k
  ·rw[if_pos e,if_pos (ah.symm.trans e)];exact⟨ah,bC⟩
  ·rw[if_neg e,if_neg (λz=>e (ah.trans z))];exact⟨ah,ar⟩
def hL.put{kvs:List (eZ×V)}{vs:List (eZ×aq)}(r:hL kvs vs)(k:eZ){y:V}{u:aq}(bC:RelV y u):hL (putK kvs k y) (stored vs k u):=by
 unfold putK stored;rw[r.any k];by_cases e:(vs.any λdk=>decide (dk.1=k))=true
 ·rw[if_pos e,if_pos e];exact r.Lb k bC
 ·rw[if_neg e,if_neg e];exact Paired.snoc r ⟨rfl,bC⟩
theorem hL.length{kvs:List (eZ×V)}{vs:List (eZ×aq)}(r:hL kvs vs):kvs.length=vs.length:=Paired.length r
end
def E2{P:cA}{w:b_}{k:Key}{u:aq}(r:RelV (dI k) u):(hU P w).is k u=true:=by
 cases k with
|inl i=>obtain⟨t,e⟩:=(show ∃t,u=Value.int i t from r);subst e;exact Sa P w i t
|inr x=>obtain⟨t,e⟩:=(show ∃t,u=Value.str x t from r);subst e;exact R' P w x t
theorem S8{P:cA}{w:b_}:∀{a':List Key} {us:List aq},Vals (a'.map dI) us->ItemsAre (hU P w) a' us
| [],_,r=>by rw[ib] at r;cases r;exact .nil
|k::a',_,r=>by
  rw[de] at r;cases r with
  |cons h t=>exact .cons (E2 h) (S8 t)
abbrev KT(H:aB):List (List Key×V)->List (List Key×ak×aq)->Prop:=Paired λp q=>p.1=q.1/\H q.2.1=some (.tup (p.1.map dI))/\RelV p.2 q.2.2
def KT.val{H:aB}{kvs:List (List Key×V)}{xs:List (List Key×ak×aq)}(r:KT H kvs xs)(k:List Key):kT (mC kvs k) ((atKey xs k).map (·.2)):=by
 induction r with
|nil=>exact True.intro
| @cons p q ps nq h t bT=>
  obtain⟨ah,_,ar⟩:=h;by_cases e:p.1=k
  ·have bD:q.1=k:=ah.symm.trans e;have b:atKey (q::nq) k=some q.2:=by simp[atKey,rM,bD]
   rw[MR e,b];exact ar
  ·have bD:¬q.1=k:=λz=>e (ah.trans z);have b:atKey (q::nq) k=atKey nq k:=by simp[atKey,rM,bD]
   rw[MS e,b];exact bT
def KT.Lb{H:aB}{kvs:List (List Key×V)}{xs:List (List Key×ak×aq)}(r:KT H kvs xs)(k:List Key){y:V}{u:aq}(bC:RelV y u):
  KT H (kvs.map λdk=>if dk.1=k then (dk.1,y) else dk) (xs.map (putAt k u)):=by
 induction r with
|nil=>exact .nil
| @cons p q ps nq h t bT=>
  rw[de,de];refine .cons ?_ bT;obtain⟨ah,ar,br⟩:=h;unfold putAt;by_cases e:p.1=k
  ·rw[if_pos e,if_pos (ah.symm.trans e)];exact⟨ah,ar,bC⟩
  ·rw[if_neg e,if_neg (λz=>e (ah.trans z))];exact⟨ah,ar,br⟩
def KT.put{H:aB}{kvs:List (List Key×V)}{xs:List (List Key×ak×aq)}(r:KT H kvs xs)(k:List Key){b:ak}{y:V}{u:aq}(af:H b=some (.tup (k.map dI)))(bC:RelV y u):
  KT H (putK kvs k y) (storedH xs k b u):=by
 have e:(kvs.any λdk=>decide (dk.1=k))=(atKey xs k).isSome:=by
  rw[TF,(r.val k).aaZ,Option.isSome_map]
 unfold putK storedH;rw[e];by_cases q:(atKey xs k).isSome=true
 ·rw[if_pos q,if_pos q];exact r.Lb k bC
 ·rw[if_neg q,if_neg q];exact Paired.snoc r ⟨rfl,af,bC⟩
def KT.keeps{H ag:aB}{kvs:List (List Key×V)}{xs:List (List Key×ak×aq)}(r:KT H kvs xs)(bp:∀b ys,H b=some (.tup ys)->ag b=some (.tup ys)):KT ag kvs xs:=
 Paired.Kf r λ_ _ z=>⟨z.1,bp _ _ z.2.1,z.2.2⟩
section
variable {P:cA}{w:b_}{H:aB}{h:bM}{a:ak}
def VA{u:ef}(ok:eP P w H h)(e:fZ H a u):hZ P w H h a u:=e.ok ok
def N5{kvs:List (Key×V)}(ok:eP P w H h)(e:fZ H a (.fy kvs)):kvs.length<=cj/\(a==sysModules)=false/\∃vs,hL kvs vs/\h.DictOf (hU P w) a vs:=
 show hZ P w H h a (.fy kvs) from VA ok e
def anS{kvs:List (Key×V)}(ok:eP P w H h)(e:H a=some (.fy kvs)):kvs.length<=cj/\(a==sysModules)=false/\∃vs,hL kvs vs/\h.DictOf (hU P w) a vs:=N5 ok (.inl e)
def NO{a':List Key}(ok:eP P w H h)(e:H a=some (.tup (a'.map dI))):(tupleKind (hU P w)).is h a' a:=by
 obtain⟨_,its,r,o,ah,ar,n,br⟩:=(show hZ P w H h a (.tup (a'.map dI)) from ok a _ e);exact⟨o,its.toArray,n,ah,ar,br,by simpa using S8 r⟩
def N4{kvs:List (List Key×V)}(ok:eP P w H h)(e:fZ H a (.n2 kvs)):kvs.length<=cj/\(a==sysModules)=false /\
  ∃xs,KT H kvs xs/\h.DictOfH (tupleKind (hU P w)) a xs:=by
 obtain⟨z,y,xs,r,o,es,ep,ah,ar,br,cF,gq⟩:=(show hZ P w H h a (.n2 kvs) from VA ok e);refine⟨z,y,xs,r,o,es,ep,ah,ar,br,cF,λx hx=>?_,gq⟩;have all:∀{l:List (List Key×V)} {m:List (List Key×ak×aq)},KT H l m->∀x∈m,(tupleKind (hU P w)).is h x.1 x.2.1:=by
  intro l m q
  induction q with
  |nil=>intro x hx;exact nomatch hx
  | @cons p q ps nq a5 t bT=>
   intro x hx;rcases cM.mp hx with e|hx
   ·subst e;exact NO ok (by rw[<- a5.1];exact a5.2.1)
   ·exact bT x hx
 exact all r x hx
def anR{kvs:List (List Key×V)}(ok:eP P w H h)(e:H a=some (.n2 kvs)):kvs.length<=cj/\(a==sysModules)=false /\
  ∃xs,KT H kvs xs/\h.DictOfH (tupleKind (hU P w)) a xs:=N4 ok (.inl e)
end
noncomputable def sb(H:aB)(a:ak)(y:V)(r:Option V):Prop:=
 (∃kvs k,fZ H a (.fy kvs)/\y=dI k/\r=mC kvs k)\/∃kvs k b,fZ H a (.n2 kvs)/\y=.ref b/\H b=some (.tup (k.map dI))/\r=mC kvs k
noncomputable def tY(H:aB)(a:ak)(y v:V)(ag:aB):Prop:=
 (∃kvs k,H a=some (.fy kvs)/\y=dI k/\kvs.length<cj/\ag=upd H a (.fy (putK kvs k v))) \/
 ∃kvs k b,H a=some (.n2 kvs)/\y=.ref b/\H b=some (.tup (k.map dI))/\kvs.length<cj/\ag=upd H a (.n2 (putK kvs k v))
theorem sb.k{H:aB}{a:ak}{kvs:List (Key×V)}{k:Key}(e:H a=some (.fy kvs)):sb H a (dI k) (mC kvs k):=.inl ⟨kvs,k,.inl e,rfl,rfl⟩
theorem tY.k{H:aB}{a:ak}{kvs:List (Key×V)}{k:Key}{v:V}(e:H a=some (.fy kvs))(aG:kvs.length<cj):tY H a (dI k) v (upd H a (.fy (putK kvs k v))):=.inl ⟨kvs,k,e,rfl,aG,rfl⟩
section
variable {X:a3}{ao:List (ak×Obj)}{σ:St}{H:aB}{s:aH}{a:ak}{y v:V}{u r:aq}{o:Option V}{A:cw}{E:aq->aH->Prop}
def Inv.big(I:Inv X ao σ H s):sysModules<s.heap.objs.size:=by
 have h:i_<s.heap.objs.size:=(I.mod.glob.keeps I.gR).lt;exact Nat.lt_trans (by decide) h
def Tg{Q:aq->aH->Prop}(b8:A.units+1<cLine)(I:Inv X ao σ H s)(g:sb H a y (some v))(bC:RelV y u)(h:∀dh s',Inv X ao σ H s'->RelV v dh->Q dh s'):
  a_ (unop%Wk 0) A (getItem (.ref a) u) Q E s:=by
 rcases g with ⟨kvs,k,e,fN,l⟩|⟨kvs,k,b,e,fN,dW,l⟩
 ·subst fN;obtain⟨z,hd,vs,rel,dd⟩:=N5 I.bL e;obtain⟨dh,hw,l2⟩:=kT.some_of (v:=v) (o:=valueAt vs k) (by rw[l];exact rel.val k);exact wpAny_getItem_of (E2 bC) dd.mapOf hw (h dh _ (I.tok _) l2)
 ·subst fN;cases (show u=Value.ref b from bC);obtain⟨z,hd,xs,rel,dd⟩:=N4 I.bL e;obtain⟨dh,hw,l2⟩:=kT.some_of (v:=v) (o:=(atKey xs k).map (·.2)) (by rw[l];exact rel.val k);obtain⟨p,aL,uG⟩:=dO.mp hw;refine wpAny_getItem_heap (tupleKind_room_in1 b8) (NO I.bL dW) dd aL ?_;rw[uG];exact h dh _ (I.tok _) l2
def UG{h':bM}{t':Nat}{dE:ef}(I:Inv X ao σ H s)(mw:xY (H a))(aA:Heap.SameBut a s.heap h')(he:∃q,h'.get? a=some q)(new:hZ X.prog X.w (upd H a dE) h' a dE):
  Inv X ao σ (upd H a dE) {s with heap:=h',toks:=t'}:=
 I.write (x:=a) (e:=a) mw (.inl rfl) (λb q af z=>(aA.2 b af).trans z) he new
def am8{P:cA}{w:b_}{ag:aB}{h':bM}{kvs:List (Key×V)}{vs:List (Key×aq)}(z:kvs.length<=cj)(hd:(a==sysModules)=false)(rel:hL kvs vs)(dd:h'.DictOf (hU P w) a vs):
  hZ P w ag h' a (.fy kvs):=⟨z,hd,vs,rel,dd⟩
def Tf{ag:aB}{Q:Unit->aH->Prop}(b8:A.units+1<cLine)(I:Inv X ao σ H s)(g:tY H a y v ag)(bC:RelV y u)(bW:RelV v r)(h:∀s',Inv X ao σ ag s'->Q () s'):
  a_ (unop%Wk 0) A (setItem (.ref a) u r) Q E s:=by
 rcases g with ⟨kvs,k,e,fN,l,yg⟩|⟨kvs,k,b,e,fN,dW,l,yg⟩
 ·subst fN yg;obtain⟨z,hd,vs,rel,dd⟩:=anS I.bL e;have hz:vs.length<=cj:=by rw[<- rel.length];exact z
  have aG:(putK kvs k v).length<=cj:=by have:=Se kvs k v;omega
  refine wpAny_setItem_pairs (hsz:=hz) (E2 bC) dd λh' A9 aA=>h _ ?_
  have he:∃q,h'.get? a=some q:=let ⟨q,_,_,a5,_⟩:=A9;⟨q,a5⟩;exact UG I (by rw[e];exact True.intro) aA he (am8 aG hd (rel.put k bW) A9)
 ·subst fN yg;cases (show u=Value.ref b from bC);obtain⟨z,hd,xs,rel,dd⟩:=anR I.bL e;have hz:xs.length<=cj:=by rw[<- Paired.length rel];exact z
  have aG:(putK kvs k v).length<=cj:=by have:=Se kvs k v;omega
  refine wpAny_setItem_heap (hsz:=hz) (tupleKind_room_in1 b8) (NO I.bL dW) dd λh' A9 aA=>h _ ?_
  obtain⟨q,es,ep,a5,ar,br,cF,_,gq⟩:=A9;refine UG I (by rw[e];exact True.intro) aA ⟨q,a5⟩ ⟨aG,hd,_,(rel.put k dW bW).keeps λc ys fI=>?_,q,es,ep,a5,ar,br,cF,gq⟩;rw[cS (anK fI e (λz=>nomatch z))];exact fI
end
noncomputable def Fq(i:bx):Prop:=∀fe k8,subscripted i false fe k8=operate [fe,k8] (getItem fe k8)
def alj{prog:cA}{w:b_}{A:cw}{E:aq->aH->Prop}{s:aH}{env:Env}{value slice:bx}{pos:Pos}{T id:String}{Q:aq->aH->Prop}
  (aG:typeLookup (.type T) "__getitem__"=pure (some (.builtin id))) (aA:Fq slice)
  (h:a_ (bG prog w) A (eval value env) (λo c6=>a_ (bG prog w) A (eval slice env) (λi kd=>kd.TypeIs o T/\a_ (bG prog w) A (getItem o i) Q E kd) E c6) E s):
  a_ (bG prog w) A (eval (.Subscript value slice pos) env) Q E s:=by
 refine Subscript_ (et h (λo c6 e9=>et e9 (λi kd kE=>?_) λ_ _ x=>x) λ_ _ x=>x)
 obtain⟨c0,kE⟩:=kE;unfold subscriptTail;refine aN ?_;rw[getitemInPython_of_ne c0.not_modules];refine aN (wpAny_specialOf c0 aG ?_);have fin:a_ (bG prog w) A (subscripted slice false o i) (λr qx=>a_ (bG prog w) A (letTemporaryGo value o r >>= λ_=>pure r) Q E qx) E kd:=by
  rw[aA o i];exact wpAny_operating (et kE (λr qx i1=>aN (wpAny_letTemporaryGo (b2 i1))) λ_ _ x=>x)
 first
  |exact b2 (aN fin)
  |exact aN (b2 (aN fin))
  |exact aN fin
def aiv{X:a3}{ao:List (ak×Obj)}{σ:St}{H:aB}{s:aH}{a:ak}{y:V}{o:Option V}(I:Inv X ao σ H s)(g:sb H a y o):s.TypeIs (.ref a) "dict":=by
 rcases g with ⟨kvs,k,e,_,_⟩|⟨kvs,k,b,e,_,_,_⟩
 ·obtain⟨_,_,vs,_,dd⟩:=N5 I.bL e;exact dd.typeIs
 ·obtain⟨_,_,xs,_,dd⟩:=N4 I.bL e;exact dd.typeIs
noncomputable def ano(oz ty:TE):TE:=λσ H Q=>oz σ H λx H1=>ty σ H1 λy bB=>∃a v,x=.ref a/\sb bB a y (some v)/\Q v bB
noncomputable def ant(oz ty js:TE):f5:=λD σ H=>js σ H λv H1=>oz σ H1 λx bB=>ty σ bB λy e6=>∃a me,x=.ref a/\tY e6 a y v me/\D.bI σ me
noncomputable def anu(oz ty js:TE)(jP:V->V->aB->c3->Prop):f5:=λD σ H=>oz σ H λx H1=>ty σ H1 λy bB=>∃a v,x=.ref a/\sb bB a y (some v) /\
 js σ bB λpI e6=>jP v pI e6 λz me=>∃lK,tY me a y z lK/\D.bI σ lK
section
variable {X:a3}{o i e value:bx}{pos pos' Lz:Pos}{oz ty js:TE}
def alF(b8:X.A.units+1<cLine)(aJ:b0 X o oz)(aP:b0 X i ty)(aA:Fq i):b0 X (.Subscript o i pos) (ano oz ty):=by
 intro ao s σ H Q I h;refine alj PySem.F.slot_dict_getitem.lookup aA (cK (aJ ao s σ H _ I h) λu s1 ⟨x,H1,bj,aW,aQ⟩=>cK (aP ao s1 σ H1 _ bj aQ) λk8 s2 hqq=>?_);obtain⟨y,bB,ct,bC,a,v,ex,g,bu⟩:=hqq;subst ex;obtain rfl:u=Value.ref a:=aW;exact⟨aiv ct g,Tg b8 ct g bC λdh s3 el l2=>⟨v,bB,el,l2,bu⟩⟩
def alw(b8:X.A.units+1<cLine)(aJ:b0 X o oz)(aP:b0 X i ty)(bh:b0 X value js)(aA:kP value (some (.Subscript o i pos')) pos.line X.env=pure false):
  h2 X (.Assign [.Subscript o i pos'] value pos) (ant oz ty js):=by
 intro ao s σ H D I h;refine wpAny_Assign_Subscript (cK (bh ao s σ H _ I h) λr s1 ⟨v,H1,bj,bW,aQ⟩=>cK (aJ ao s1 σ H1 _ bj aQ) λu s2 ⟨x,bB,ct,aW,bu⟩=>cK (aP ao s2 σ bB _ ct bu) λk8 s3 hqq=>?_) aA;obtain⟨y,e6,el,bC,a,me,ex,g,df⟩:=hqq;subst ex;obtain rfl:u=Value.ref a:=aW;exact Tf b8 el g bC bW λs4 mY=>⟨σ,me,mY,df⟩
def alx{op:Operator}{jP:V->V->aB->c3->Prop}(b8:X.A.units+1<cLine)(aJ:b0 X o oz)(aP:b0 X i ty)(bh:b0 X value js)(Im:Fg X op jP)
  (aC:∀fe k8 new,augStore i fe k8 new=(do holding [new,fe,k8] (setItem fe k8 new);release [new,fe,k8] [];pure .next)):h2 X (.AugAssign (.Subscript o i Lz) op value pos) (anu oz ty js jP):=by
 intro ao s σ H D I h;refine wpAny_AugAssign_SubscriptAny (cK (aJ ao s σ H _ I h) λu s1 ⟨x,H1,bj,aW,aQ⟩=>cK (aP ao s1 σ H1 _ bj aQ) λk8 s2 hqq=>?_) aC;obtain⟨y,bB,ct,bC,a,v,ex,g,bu⟩:=hqq;subst ex;obtain rfl:u=Value.ref a:=aW;refine Tg b8 ct g bC λdh s3 el l2=>cK (bh ao s3 σ bB _ el bu) λoC s4 ⟨pI,e6,mY,ae6,df⟩=>cK (Im ao s4 σ e6 v pI dh oC _ mY l2 ae6 df) λDd s5 hqq=>?_;obtain⟨z,me,t2,Lf,lK,n8,kG⟩:=hqq;exact Tf b8 t2 n8 bC Lf λcE xV=>⟨σ,lK,xV,kG⟩
end
end bA
end
section
namespace D
open PySem PySem.Spec PyProof.Rows bA
variable [cB]
section
variable {K:bc}{F:ak->Prop}{H:aB}
theorem en.get{k:D.Key}{t:T}:∀{kvs:List (D.Key×T)} {vs:List (D.Key×V)},en K F H kvs vs->D.getD kvs k=some t->∃v,mC vs k=some v/\Rep K F H t v
| [],vs,h,e=>by cases e
|p::r,vs,h,e=>by
  obtain⟨v,w,rfl,q,z⟩:=h;simp only[D.getD,mC,rM] at e ⊢;by_cases bD:p.1=k
  ·simp[bD] at e ⊢;subst e;exact q
  ·simp[bD] at e ⊢;have:=en.get (k:=k) (t:=t) z (by simpa [D.getD] using e);simpa [mC] using this
theorem en.length:∀{kvs:List (D.Key×T)} {vs:List (D.Key×V)},en K F H kvs vs->kvs.length=vs.length
| [],vs,h=>by
  have:vs=[]:=h;subst this;rfl
|p::r,vs,h=>by
  obtain⟨v,w,rfl,q,z⟩:=h;simp[en.length z]
theorem en.append:∀{kvs us:List (D.Key×T)} {vs ws:List (D.Key×V)},en K F H kvs vs->en K F H us ws->en K F H (kvs++us) (vs++ws)
| [],us,vs,ws,h,r=>by
  have:vs=[]:=h;subst this;exact r
|p::q,us,vs,ws,h,r=>by
  obtain⟨v,w,rfl,eU,z⟩:=h;exact⟨v,w++ws,rfl,eU,en.append z r⟩
theorem en.Kg{k:D.Key}{t:T}{v:V}:∀{kvs:List (D.Key×T)} {vs:List (D.Key×V)},en K F H kvs vs->Rep K F H t v->en K F H (kvs.map λp=>if p.1=k then (k,t) else p) (vs.map λdk=>if dk.1=k then (dk.1,v) else dk)
| [],vs,h,q=>by
  have:vs=[]:=h;subst this;rfl
|p::r,vs,h,q=>by
  obtain⟨kJ,w,rfl,eU,z⟩:=h;simp only[de];by_cases e:p.1=k
  ·rw[if_pos e,if_pos e];exact⟨v,_,by rw[e],q,en.Kg z q⟩
  ·rw[if_neg e,if_neg e];exact⟨kJ,_,rfl,eU,en.Kg z q⟩
def en.put{k:D.Key}{t:T}{v:V}{kvs:List (D.Key×T)}{vs:List (D.Key×V)}(h:en K F H kvs vs)(q:Rep K F H t v):en K F H (putD kvs k t) (putK vs k v):=by
 have aC:(kvs.any λp=>decide (p.1=k))=(vs.any λdk=>decide (dk.1=k)):=by
  clear q
  induction kvs generalizing vs with
  |nil=>
   have:vs=[]:=h;subst this;rfl
  |cons p r bT=>
   obtain⟨v,w,rfl,eU,z⟩:=h;simp only[List.any_cons,bT z]
 unfold putD putK;rw[aC];split
 ·exact en.Kg h q
 ·exact h.append ⟨v,[],rfl,q,rfl⟩
def vE{t:T}{k:D.Key}{v:V}{O:ak->Prop}(e:iL t=some k)(r:f3 K O F H t v):v=dI k:=by
 unfold iL at e;split at e
 ·cases e
  exact r.int
 ·cases e
  exact r.str
 ·cases e
end
end D
end
section
namespace D
open PySem
variable [cB]
end D
end
section
namespace D
open PySem PySem.Spec PyProof.Rows bA
section
variable [cB]
theorem U9{α β:Type}{R:α->β->Prop}:∀{l:List α} {a':List β},Paired R l a'->l.length=a'.length
|_,_,.nil=>rfl
|_,_,.cons a b=>by simp[U9 b]
section
variable {prog:cA}{w:b_}{K:Type}[DecidableEq K](knd:PySem.KeyKind prog w K)
variable {knd}{A:cw}{E:aq->aH->Prop}{s:aH}
noncomputable def vT(knd:PySem.KeyKind prog w K)(v:aq)(k:K):Prop:=knd.is k v=true/\v.scannable=true
end
end
section
variable [cB]
section
variable {prog:cA}{w:b_}{K:Type}[DecidableEq K]{knd:PySem.KeyKind prog w K}{A:cw}{E:aq->aH->Prop}{s:aH}{a:ak}{a':List K}
def aix{R:List aq->aH->Prop}{T:String}{r d:ak}{n:Nat}{P:Nat->aq->Prop}{t4:bM->Prop}(W:PySem.W.KdlSrc prog w T r d n P t4)(cR:A.handled=none)(bL:t4 s.heap)(bg:n<=cj)
  (h:∀(h':bM) (tk:Nat) (acc:Array aq),(unop%Wm 0)->s.heap.objs.size<=h'.objs.size->ItemsOf P acc n->R acc.toList {s with heap:=h',toks:=tk}):
  a_ (bG prog w) A (collect (.ref r)) R E s:=by
 have eL:=W.there _ bL;unfold collect;refine aN (wpAny_runValue (pM entry_proto_collect' ?_));rw[rN PySem.F.plain_proto_collect _];show a_ _ A.in1 (newList [] >>= λl=>again (.builtin "list.__iadd__" ⟨[l,.ref r],[]⟩)) _ _ s;refine aN (rQ ?_);refine b2 ⟨rS PySem.F.plain_list_iadd _,pM entry_list_iadd' ?_⟩;rw[rN PySem.F.plain_list_iadd _];have _u:(s.heap.push {cls:=.type "list",data:=.seq ([]:List aq).toArray}).get? s.heap.objs.size=some {cls:=.type "list",data:=.seq #[]}:=fR _ rfl;show a_ _ A.in1 (Builtin.List.listExtendWith (unop%WK 0) (.ref r) (unop%WK 0)) _ _ _;have key:=PySem.W.kdl_extend (A:=A) (s:={s with heap:=s.heap.push {cls:=.type "list",data:=.seq ([]:List aq).toArray} })
  (R:=λ(q:Result) (s':aH)=>∃(h':bM) (tk:Nat) (so:Array aq) (bX:Nat),q=.ok (.ret (unop%WK 0))/\s'={s with heap:=h',toks:=tk} /\
   (∀b o,s.heap.get? b=some o->h'.get? b=some o)/\h'.get? s.heap.objs.size=some {cls:=.type "list",dict:=none,data:=.seq so bX,slots:=#[]}/\ItemsOf P so n)
  W cR (W.keep _ _ bL λb _ o e=>cW _ e) s.heap.objs.size (iG eL.1) (iG eL.2) (unop%WK 0) 0 _u
  (λh' tk so bX aI m' nc=>⟨h',tk,so,bX,rfl,rfl,λb o e=>aI b o (e3 (c_ e)) (cW _ e),m',nc⟩) bg
 refine et key (λfin s' x=>?_) λe s' x=>?_
 ·cases fin with
  |done f=>
   obtain⟨h',tk,so,bX,e,rfl,aI,m',nc⟩:=x;cases e;show a_ _ A (load s.heap.objs.size >>= _) _ _ _;refine aN (wpAny_load m' ?_);exact b2 (h h' tk so aI (Nat.le_of_lt (c_ m')) nc)
  |again c₁=>
   refine⟨x.1,nH x.2 λq kd y=>?_⟩
   obtain⟨h',tk,so,bX,rfl,rfl,aI,m',nc⟩:=y;show a_ _ A (load s.heap.objs.size >>= _) _ _ _;refine aN (wpAny_load m' ?_);exact b2 (h h' tk so aI (Nat.le_of_lt (c_ m')) nc)
 ·obtain⟨_,_,_,_,bD,_⟩:=x;cases bD
end
end
section
variable [cB]
theorem L8{α:Type}{r:α->α->Prop}(OD:∀a b,r a b->r b a->a=b):∀{l m:List α},l.Perm m->l.Pairwise r->m.Pairwise r->l=m
| [],m,p,_,_=>(List.Perm.nil_eq p)
|a::l,m,p,ah,ar=>by
  cases m with
  |nil=>exact absurd p.length_eq (by simp)
  |cons b m=>
   have _x:a=b:=by
    have aC:a∈b::m:=p.mem_iff.mp (by simp);have af:b∈a::l:=p.mem_iff.mpr (by simp);rcases cM.mp aC with q|q
    ·exact q
    ·rcases cM.mp af with z|z
     ·exact z.symm
     ·exact OD a b ((aoO.mp ah).1 b z) ((aoO.mp ar).1 a q)
   subst _x;rw[L8 OD (List.perm_cons a |>.mp p) (aoO.mp ah).2 (aoO.mp ar).2]
theorem MM(x:Int):∀l:List Int,(insI x l).Perm (x::l)
| []=>.rfl
|y::ys=>by
  unfold insI;split
  ·exact .rfl
  ·exact ((MM x ys).cons y).trans (.swap _ _ _)
theorem DY:∀l:List Int,(ao6 l).Perm l
| []=>.rfl
|x::xs=>(MM x _).trans ((DY xs).cons x)
theorem UA(x:Int):∀{l:List Int},l.Pairwise (·<=·)->(insI x l).Pairwise (·<=·)
| [],_=>by simp[insI]
|y::ys,h=>by
  unfold insI;have h':=aoO.mp h;split
  next q=>exact aoO.mpr ⟨λz hz=>by
   rcases cM.mp hz with rfl|hz
   ·exact q
   ·exact Int.le_trans q (h'.1 z hz),h⟩
  next q=>exact aoO.mpr ⟨λz hz=>by
   rcases cM.mp ((MM x ys).mem_iff.mp hz) with rfl|hz
   ·omega
   ·exact h'.1 z hz,UA x h'.2⟩
theorem MV:∀l:List Int,(ao6 l).Pairwise (·<=·)
| []=>.nil
|x::xs=>UA x (MV xs)
def TL{l m:List Int}(p:l.Perm m)(h:l.Pairwise (·<=·)):l=ao6 m:=L8 (λa b ah ar=>Int.le_antisymm ah ar) (p.trans (DY m).symm) h (MV m)
def ah_{l m:List Int}(p:l.Perm m):ao6 l=ao6 m:=TL ((DY l).trans p) (MV l)
abbrev jQ(x y:Str):Prop:=ih y x=false
def akp(x y:Str):ih x y=ltCps x.cps.toList y.cps.toList:=(ltCps_eq _ _).symm
def ajz{x y:Str}(h:ih x y=true):jQ x y:=by
 unfold jQ ih at *;simp only[decide_eq_true_eq,decide_eq_false_iff_not] at *;exact List.lt_asymm h
def SX{x y z:Str}(ah:jQ x y)(ar:jQ y z):jQ x z:=by
 unfold jQ ih at *;simp only[decide_eq_false_iff_not] at *;exact List.not_lt.mpr (List.le_trans (List.not_lt.mp ah) (List.not_lt.mp ar))
def akv{x y:Str}(ah:jQ x y)(ar:jQ y x):x=y:=by
 unfold jQ ih at *;simp only[decide_eq_false_iff_not] at *;have e:x.cps.toList=y.cps.toList:=List.le_antisymm (List.not_lt.mp ah) (List.not_lt.mp ar);cases x;cases y;simp only[Array.toList_inj] at e;exact congrArg _ e
theorem ML(x:Str):∀l:List Str,(uN x l).Perm (x::l)
| []=>.rfl
|y::ys=>by
  unfold uN;split
  ·exact .rfl
  ·exact ((ML x ys).cons y).trans (.swap _ _ _)
theorem api:∀l:List Str,(lG l).Perm l
| []=>.rfl
|x::xs=>(ML x _).trans ((api xs).cons x)
theorem Uz(x:Str):∀{l:List Str},l.Pairwise jQ->(uN x l).Pairwise jQ
| [],_=>by simp[uN]
|y::ys,h=>by
  unfold uN;have h':=aoO.mp h;split
  next q=>
   have eU:jQ x y:=by simpa [jQ] using q
   exact aoO.mpr ⟨λz hz=>by
    rcases cM.mp hz with rfl|hz
    ·exact eU
    ·exact SX eU (h'.1 z hz),h⟩
  next q=>
   have eU:ih y x=true:=by simpa using q
   exact aoO.mpr ⟨λz hz=>by
    rcases cM.mp ((ML x ys).mem_iff.mp hz) with rfl|hz
    ·exact ajz eU
    ·exact h'.1 z hz,Uz x h'.2⟩
theorem MU:∀l:List Str,(lG l).Pairwise jQ
| []=>.nil
|x::xs=>Uz x (MU xs)
def TK{l m:List Str}(p:l.Perm m)(h:l.Pairwise jQ):l=lG m:=L8 (λa b ah ar=>akv ah ar) (p.trans (api m).symm) h (MU m)
def ah9{l m:List Str}(p:l.Perm m):lG l=lG m:=TK ((api l).trans p) (MU l)
theorem Sv:∀(l:List Str) (p:Str),risingS p l=true->(p::l).Pairwise jQ
| [],p,_=>by simp
|x::r,p,h=>by
  simp only[risingS,ic,Bool.not_eq_true'] at h;have bT:=Sv r x h.2;have Qe:jQ p x:=by
   unfold jQ;rw[akp];exact h.1
  refine aoO.mpr ⟨λz hz=>?_,bT⟩
  rcases cM.mp hz with rfl|hz
  ·exact Qe
  ·exact SX Qe ((aoO.mp bT).1 z hz)
def aiK{l:List Str}(h:sortedS l=true):l.Pairwise jQ:=by
 cases l with
|nil=>exact .nil
|cons x r=>exact Sv r x h
end
section
variable [cB]
section
variable {prog:cA}{w:b_}{A:cw}{E:aq->aH->Prop}{s:aH}
inductive x4:List aq->List aq->Prop where
|KQ {vs out:List aq} {ns:List Int}:IntsAre vs ns->IntsAre out (ao6 ns)->x4 vs out
|KR {vs out:List aq} {ss:List Str}:StrsAre vs ss->StrsAre out (lG ss)->x4 vs out
noncomputable def Nd(vs:List aq):Prop:=vs.length<64/\((∃ns,IntsAre vs ns)\/∃ss,StrsAre vs ss)
def ahw{h:bM}{a:ak}{vs:List aq}{n:Nat}{out:Array aq}(aJ:h.get? a=some (seqObj "list" vs.toArray n)):
  (∃e,(sortedHeap h a vs out).get? a=some (seqObj "list" out e))/\∀b o,b≠a->h.get? b=some o->(sortedHeap h a vs out).get? b=some o:=by
 have eL:=c_ aJ;unfold sortedHeap;refine⟨?_,λb o af e=>?_⟩
 ·have ah:=get?_update_seq aJ (λ_=>(#[]:Array aq));have ar:=cW (seqObj "tuple" vs.toArray 0) ah;have br:=cW (seqObj "list" #[] 0) ar;exact⟨_,get?_update_seq br (λ_=>out)⟩
 ·rw[rU _ _ (Ne.symm af)];exact cW _ (cW _ ((rU _ _ (Ne.symm af)).trans e))
def ajt{a:ak}{vs:List aq}{n:Nat}{P:Fin->aH->Prop}(aJ:s.heap.get? a=some (seqObj "list" vs.toArray n))(aA:Nd vs)
  (h:∀out:Array aq,x4 vs out.toList->P (.done (.ret .none)) {s with heap:=sortedHeap s.heap a vs out}):a_ (bG prog w) A (Builtin.«list.sort» ⟨[.ref a],[]⟩) P E s:=by
 obtain⟨PT,⟨ns,sL⟩|⟨ss,eD⟩⟩:=aA
 ·refine list_sort_tree aJ sL PT λout KN a1 a2 fH=>h out (.KQ sL ?_)
  rw[<- TL a2 fH];exact a1
 ·refine list_sort_treeK strKind_oneLt aJ eD.keysOf (λaoF aoG rest e=>keyKind_strs (by rw[<- e];exact eD)) PT λpE aL aA=>?_
  obtain⟨Lj,ah,ar,br⟩:=sorted_out_str eD aL aA;refine h _ (.KR eD ?_);rw[<- TK ar (aiK br)];exact ah
def ah7{r:ak}{C:List aq->Prop}{Q:aq->aH->Prop}
  (_O:∀(mW:aq->aH->Prop) (R:List aq->aH->Prop),(∀h' tk d vs,(unop%Wm 0)->s.heap.objs.size<=h'.objs.size->C vs->R vs {s with heap:=h',toks:=tk,drawn:=d})->a_ (bG prog w) A.in1 (collect (.ref r)) R mW s)
  (HL:∀vs,C vs->Nd vs)
  (h:∀h' tk d D e vs out,C vs->x4 vs out->(unop%Wm 0)->s.heap.objs.size<=D->h'.get? D=some (seqObj "list" out.toArray e)->Q (.ref D) {s with heap:=h',toks:=tk,drawn:=d}):
  a_ (bG prog w) A (call (.builtin "sorted") [.ref r]) Q E s:=by
 refine Calls.call_function_entry kind_sorted plain_sorted entry_sorted (args_sorted1 _) ?_
 unfold Builtin.«sorted»;refine aN (m:=checkCount "sorted" 1 1 _) (b2 ?_);refine aN (_O _ _ λh' tk d vs aF hsz c=>?_);have aA:=HL vs c;have hz:vs.length<=cj:=by
  have:=aA.1;rw[jW];omega
 refine aN (wpAny_newList ?_ hz)
 have sP:(h'.push (seqObj "list" vs.toArray 0)).get? h'.objs.size=some (seqObj "list" vs.toArray 0):=fR _ rfl;refine aN (jb (rR slot_list_sort ⟨_,sP,rfl⟩ entry_list_sort (ajt sP aA λout wK=>⟨_,rfl,?_⟩) (args_list_sort _)));obtain⟨⟨e,he⟩,aI⟩:=ahw (out:=out) sP;refine b2 ⟨_,rfl,?_⟩;exact h _ tk d h'.objs.size e vs out.toList c wK (λb o q=>aI b o (e3 (c_ (aF b o q))) (cW _ (aF b o q))) hsz he
end
section
variable {X:a3}{ao:List (ak×Obj)}{σ:bA.St}{H:aB}{s:aH}
def MJ{a:ak}{o:ef}{t':Nat}{d':Drawn}{h':bM}(I:Inv X ao σ H s)(k:∀b u,s.heap.get? b=some u->h'.get? b=some u)(aL:s.heap.objs.size<=a)(new:hZ X.prog X.w (upd H a o) h' a o):
  Inv X ao σ (upd H a o) {s with heap:=h',toks:=t',drawn:=d'}:=
 I.call (ch:=[]) (g':=s.gens) (f6.laid k aL (I.bL.fresh aL)) (I.bL.laid k aL new) I.bare λ_ z=>nomatch z
theorem MK:∀{us:List aq} {ns:List Int},IntsAre us ns->Vals (ns.map V.int) us
|_,_,.nil=>.nil
|_,_,.cons n t r=>.cons ⟨t,rfl⟩ (MK r)
theorem MA:∀{us:List aq} {ss:List Str},StrsAre us ss->Vals (ss.map V.str) us
|_,_,.nil=>.nil
|_,_,.cons n t r=>.cons ⟨t,rfl⟩ (MA r)
theorem Mz:∀{us:List aq} {a':List bA.Key},Vals (a'.map dI) us->Paired (vT (hU X.prog X.w)) us a'
| [],[],_=>.nil
|_,.inl i::a',.cons r rs=>by
  obtain⟨t,rfl⟩:=r;exact .cons ⟨Sa _ _ i t,rfl⟩ (Mz rs)
|_,.inr x::a',.cons r rs=>by
  obtain⟨t,rfl⟩:=r;exact .cons ⟨R' _ _ x t,rfl⟩ (Mz rs)
theorem MI:∀{us:List aq} {a':List bA.Key} {ns:List Int},Paired (vT (hU X.prog X.w)) us a'->a'=ns.map Sum.inl->IntsAre us ns
|_,_,[],.nil,_=>.nil
|_,_,n::ns,.cons a b,e=>by
  cases e
  have a1:=a.1;rw[Sx] at a1;rcases pR a1 with ⟨i,t,az,rfl⟩|⟨x,t,az,rfl⟩
  ·cases az
   exact .cons _ t (MI b rfl)
  ·cases az
theorem MG:∀{us:List aq} {a':List bA.Key} {ss:List Str},Paired (vT (hU X.prog X.w)) us a'->a'=ss.map Sum.inr->StrsAre us ss
|_,_,[],.nil,_=>.nil
|_,_,n::ns,.cons a b,e=>by
  cases e
  have a1:=a.1;rw[Sx] at a1;rcases pR a1 with ⟨i,t,az,rfl⟩|⟨x,t,az,rfl⟩
  ·cases az
  ·cases az
   exact .cons _ t (MG b rfl)
def DQ{α β:Type}(f:α->β):∀{l:List α} {m:List β},m.Perm (l.map f)->∃qn:List α,m=qn.map f/\qn.Perm l:=by
 intro l m p;generalize hx:l.map f=lf at p
 induction p generalizing l with
|nil=>
  rw[List.map_eq_nil_iff] at hx;subst hx;exact⟨[],rfl,.rfl⟩
|cons x _ bT=>
  cases l with
  |nil=>cases hx
  |cons a r=>
   simp only[de,List.cons.injEq] at hx;obtain⟨qn,e,q⟩:=bT hx.2;exact⟨a::qn,by rw[de,hx.1,e],q.cons a⟩
|swap x y r=>
  match l,hx with
  |a::b::cy,hx=>
   simp only[de,List.cons.injEq] at hx;exact⟨b::a::cy,by rw[de,de,hx.1,hx.2.1,hx.2.2],.swap _ _ _⟩
|trans _ _ cx cI=>
  obtain⟨cu,az,aQ⟩:=cI hx;obtain⟨cD,aM,bu⟩:=cx az.symm;exact⟨cD,aM,bu.trans aQ⟩
noncomputable def EV(a':List bA.Key)(ys:List V):Prop:=(∃ns:List Int,a'=ns.map Sum.inl/\ys=(ao6 ns).map V.int)\/∃ss:List Str,a'=ss.map Sum.inr/\ys=(lG ss).map V.str
def akr{vs out:List aq}{a' yZ:List bA.Key}{ys:List V}(bh:Paired (vT (hU X.prog X.w)) vs yZ)(aL:yZ.Perm a')(wK:x4 vs out)(aI:EV a' ys):Vals ys out:=by
 rcases aI with ⟨ns,rfl,rfl⟩|⟨ss,rfl,rfl⟩
 ·obtain⟨KN,rfl,rn⟩:=DQ Sum.inl aL;have sL:=MI bh rfl;cases wK with
  |KQ a b=>
   rename_i ms
   rw[<- ah_ rn,show KN=ms from ?_]
   ·exact MK b
   ·rw[<- IntsAre.numsOf sL,<- IntsAre.numsOf a]
  |KR a b=>
   cases a with
   |nil=>
    cases sL
    have:ns=[]:=List.Perm.eq_nil rn.symm;subst this;exact MA b
   |cons x t _=>cases sL
 ·obtain⟨Lj,rfl,rn⟩:=DQ Sum.inr aL;have eD:=MG bh rfl;cases wK with
  |KR a b=>
   rename_i ms
   rw[<- ah9 rn,show Lj=ms from ?_]
   ·exact MA b
   ·rw[<- StrsAre.strs eD,<- StrsAre.strs a]
  |KQ a b=>
   cases a with
   |nil=>
    cases eD
    have:ss=[]:=List.Perm.eq_nil rn.symm;subst this;exact MK b
   |cons x t _=>cases eD
def ahA{vs:List aq}{a' yZ:List bA.Key}{ys:List V}(hz:a'.length<64)(bh:Paired (vT (hU X.prog X.w)) vs yZ)(aL:yZ.Perm a')(aI:EV a' ys):Nd vs:=by
 refine⟨by rw[U9 bh,aL.length_eq];exact hz,?_⟩
 rcases aI with ⟨ns,rfl,_⟩|⟨ss,rfl,_⟩
 ·obtain⟨KN,rfl,_⟩:=DQ Sum.inl aL;exact .inl ⟨_,MI bh rfl⟩
 ·obtain⟨Lj,rfl,_⟩:=DQ Sum.inr aL;exact .inr ⟨_,MG bh rfl⟩
def aju{a':List bA.Key}{ys:List V}(h:EV a' ys):ys.length=a'.length:=by
 rcases h with ⟨ns,rfl,rfl⟩|⟨ss,rfl,rfl⟩
 ·simp[(DY ns).length_eq]
 ·simp[(api ss).length_eq]
theorem Uw:∀{kvs:List (bA.Key×V)} {vs:List (bA.Key×aq)},hL kvs vs->kvs.map (·.1)=vs.map (·.1)
|_,_,.nil=>rfl
|_,_,.cons a b=>by simp[a.1,Uw b]
def ah1(aw:X.calm=true):lI X (.builtin "sorted") (λxs H Q=>∃p a' ys,xs=[.ref p]/\fG X.K H p (a'.map dI)/\a'.length<64/\EV a' ys/\∀l,H l=none->Q (.ref l) (upd H l (.lst ys))):=by
 intro ao s σ H xs us Q I r h;obtain⟨p,a',ys,rfl,a5,hz,aI,q⟩:=h;obtain⟨u,rfl,aW⟩:=ao5 r;cases aW;obtain⟨its,cy,pl,mq⟩:=I.list a5;have hlen:=cy.length;rw[fh] at hlen;have hit:Paired (vT (hU X.prog X.w)) its a':=Mz (by simpa using cy);refine ah7 (C:=λus=>us=its) (λmW R k7=>collect_list pl.isList (k7 _ s.toks s.drawn its (λb o e=>?_) ?_ rfl) (by rw[jW];omega)) (λus b8=>by subst b8;exact ahA hz hit .rfl aI) λh' tk d D e us out b8 wK aF lU he=>?_
 ·exact (rU _ _ (iG (c_ e))).trans (cW _ e)
 ·rw[Heap.size_update,kM];exact rO _
 ·subst b8;exact⟨.ref D,_,MJ I (o:=.lst ys) aF lU ⟨by rw[aju aI,jW];omega,out,e,akr hit .rfl wK aI,he⟩,rfl,q _ (I.bL.fresh lU)⟩
end
end
section
variable [cB]
theorem MB:∀{ts:List T} {ss:List Str},vJ ts=some ss->ts=ss.map .str
| [],ns,e=>by
  cases e
  rfl
|t::ts,ns,e=>by
  unfold vJ at e;split at e
  ·rename_i h
   cases h
  ·rename_i h
   cases h
   simp only[dO] at e;obtain⟨r,az,rfl⟩:=e;rw[MB az];rfl
  ·cases e
section
variable {K:bc}{F:ak->Prop}{H:aB}
theorem SY:∀(ns:List Int),bH K F H (ns.map .int) (ns.map V.int)
| []=>bH.nil
|n::ns=>bH.cons (by simp[Rep]) (SY ns)
theorem MD:∀(ns:List Str),bH K F H (ns.map .str) (ns.map V.str)
| []=>bH.nil
|n::ns=>bH.cons (by simp[Rep]) (MD ns)
theorem Mq:∀{ns:List Str} {vs:List V},bH K F H (ns.map .str) vs->vs=ns.map V.str
| [],vs,h=>by simpa [bH] using h
|n::ns,vs,h=>by
  simp only[de,bH,Rep] at h;obtain⟨v,r,rfl,rfl,z⟩:=h;rw[Mq z];rfl
end
end
section
variable [cB]
section
variable {X:a3}{a b e:bx}{es rest:List bx}{f g:bZ}{aE:List bZ}{p eT pos oq:Pos}
def U3{op:BoolOp}(h:cT X a f):cT X (.BoolOp op [a] pos) f:=U7 h
def anA{op:BoolOp}(h:cT X a f):cT X (.BoolOp op [a] pos) f:=U7 h
def VD(aC:cT X a f)(af:cT X (.BoolOp .And (b::rest) pos) g):cT X (.BoolOp .And (a::b::rest) pos) (su f g):=eu (amN aC af)<|by
 rintro σ H Q ⟨aK,aY,O,F,ai,t,r,e,k⟩
 simp only[su,cm] at e;obtain⟨x,ex,e⟩:=e;refine⟨aK,aY,O,F,ai,x,r,ex,λv ba H1 aU aW=>?_⟩;split at e
 ·simp only[Rep] at aW;refine⟨true,aW,?_⟩;rw[if_pos rfl];exact⟨aK,aY,O,ba,ai,t,r.ext aU,e,λv aD ag bP q=>k v aD ag (aU.trans bP) q⟩
 ·cases e
  simp only[Rep] at aW;refine⟨false,aW,?_⟩;rw[if_neg (by decide)];exact k _ ba H1 aU (by simp[Rep])
 ·cases e
def aeP(aC:cT X a f)(af:cT X (.BoolOp .Or (b::rest) pos) g):cT X (.BoolOp .Or (a::b::rest) pos) (y' f g):=eu (anF aC af)<|by
 rintro σ H Q ⟨aK,aY,O,F,ai,t,r,e,k⟩
 simp only[y',cm] at e;obtain⟨x,ex,e⟩:=e;refine⟨aK,aY,O,F,ai,x,r,ex,λv ba H1 aU aW=>?_⟩;split at e
 ·simp only[Rep] at aW;refine⟨false,aW,?_⟩;rw[if_neg (by decide)];exact⟨aK,aY,O,ba,ai,t,r.ext aU,e,λv aD ag bP q=>k v aD ag (aU.trans bP) q⟩
 ·cases e
  simp only[Rep] at aW;refine⟨true,aW,?_⟩;rw[if_pos rfl];exact k _ ba H1 aU (by simp[Rep])
 ·cases e
noncomputable def C3(K:bc)(f:Ev->Option (Option Int)):cO:=λσ H Q=>∃aK aY O F ai i,cN K aK aY O F H ai σ/\f ai=some i/\∀aD ag,Ext F H aD ag->Q i ag
def Vr{x:Option bx}{t t':cO}(h:aoW X x t)(k:∀σ H Q,t' σ H Q->t σ H Q):aoW X x t':=λao s σ H Q I q=>h ao s σ H Q I (k σ H Q q)
def Vd:aoW X none (C3 X.K optN):=Vr alz<|by
 rintro σ H Q ⟨aK,aY,O,F,ai,i,r,e,k⟩
 cases e
 exact k F H (Ext.refl r.b')
def Vc(h:eB X a f):aoW X (some a) (C3 X.K (opt f)):=Vr (aly h)<|by
 rintro σ H Q ⟨aK,aY,O,F,ai,i,r,e,k⟩
 simp only[opt,cm] at e;obtain⟨x,ex,e⟩:=e;refine⟨aK,aY,O,F,ai,x,r,ex,λv ba H1 aU aW=>?_⟩;split at e
 ·cases e
  exact⟨_,aW.int,k ba H1 aU⟩
 ·cases e
noncomputable def aeW(K:bc):V->Option Int->Option Int->aB->c3->Prop:=λx lo aP H Q=>∃a xs,x=.ref a/\dc K H a xs/\(fF.c8 xs.length 0 lo=0/\fF.c8 xs.length xs.length aP=xs.length)/\Q (.ref a) H
def ag2{prog:cA}{w:b_}{A:cw}{E:aq->aH->Prop}{s:aH}{t cz:ak}{items:Array aq}{h_ fg:aq}{lo aP:Option Int}{Q:aq->aH->Prop}(bp:IsTup s.heap t items)(aA:s.heap.IsSliceOf cz h_ fg .none)(pl:IsPart h_ lo)(pu:IsPart fg aP)
  (hw:fF.c8 items.size 0 lo=0/\fF.c8 items.size items.size aP=items.size) (h:Q (.ref t) s):a_ (bG prog w) A (getItem (.ref t) (.ref cz)) Q E s:=by
 obtain⟨os,rm,BJ,yz⟩:=id aA;have HT:s.TypeIs (.ref cz) "slice":=⟨os,rm,BJ⟩;unfold getItem
 try with_reducible refine jb ?_
 first|refine aN (b2 ?_)|skip
 refine aN (wpAny_sequenceKey bp.typeIs (by decide) ?_)
 refine aN (te (name:=Str.ofString "__getitem__") bp.typeIs Dh
  (rR Dh bp.typeIs entry_tuple_getitem ?_ (args_tuple_getitem _ _)))
 show a_ _ _ (Builtin.Tuple.tupleItemsOf (.ref t) >>= _) _ _ s
 refine aN (tupleItemsOf_ bp ?_)
 refine aN (wpAny_typeOf HT ?_)
 rw[if_pos (by decide)];refine aN (fF.Q7 aA pl pu ?_);rw[hw.1,hw.2];show a_ _ _ (if (((0:Nat):Int)==0 && (1:Int)==1 && (items.size - 0)==items.size)=true then _ else _) _ _ s;rw[if_pos (by simp)];unfold Builtin.Tuple.tupleIsExact;refine aN (aN (wpAny_typeOf bp.typeIs (b2 ?_)));rw[if_pos (by decide)];refine aN (wpAny_rule ?_);exact b2 ⟨_,rfl,b2 h⟩
def aks:sm X (aeW X.K):=by
 intro ao s σ H x v h_ fg lo aP cz Q I aW aA pl pu h;obtain⟨a,xs,rfl,hx,hw,q⟩:=h;cases aW;obtain⟨its,r,bp,hz⟩:=I.tuple hx;have hlen:its.toArray.size=xs.length:=by rw[eG];exact r.length.symm
 refine⟨"tuple",_,PyProof.Rows.slot_tuple_getitem.lookup,bp.typeIs,?_⟩
 exact ag2 bp aA pl pu (by rw[hlen];exact hw) ⟨.ref a,H,I,rfl,q⟩
def amt(n d:Nat)(o:Option Int):D.c8 n d o=fF.c8 n d o:=by
 cases o with
|none=>rfl
|some v=>
  unfold D.c8 fF.c8;dsimp only;split <;> omega
def MY{K:bc}{F:ak->Prop}{H:aB}{ts:List T}{vs:List V}(h:bH K F H ts vs)(lo aP:Option Int):bH K F H (uh ts lo aP) (o5 vs lo aP):=by
 unfold uh o5;simp only[amt,h.length];exact (h.drop _).take _
def Ul{lo aP:Option bx}{du PN:Ev->Option (Option Int)}(aC:eB X e f)(aG:aoW X lo (C3 X.K du))(b8:aoW X aP (C3 X.K PN)):cT X (.Subscript e (.Slice lo aP none eT) pos) (slice f du PN):=eu (akH ((amk.or aks).or alk) aC aG b8)<|by
 rintro σ H Q ⟨aK,aY,O,F,ai,t,r,e,k⟩
 simp only[slice,cm] at e;obtain⟨x,ex,l,jF,h,ht,e⟩:=e;refine⟨aK,aY,O,F,ai,x,r,ex,λv ba H1 aU aW=>⟨aK,aY,O,ba,ai,l,r.ext aU,jF,λdC bB bP=>⟨aK,aY,O,dC,ai,h,(r.ext aU).ext bP,ht,λoQ e6 gM=>?_⟩⟩⟩;have LG:=bP.trans gM;have rK:=aU.trans LG;unfold CC at e;split at e
 ·cases e
  obtain⟨a,vs,rfl,aA,ay⟩:=(aW.ext LG).tup;by_cases hw:fF.c8 vs.length 0 l=0/\fF.c8 vs.length vs.length h=vs.length
  ·refine .inl (.inr ⟨a,vs,rfl,aA,hw,k _ oQ e6 rK ?_⟩)
   simp only[Rep];refine⟨a,vs,rfl,aA,?_⟩;have:=MY ay l h;unfold o5 at this;rw[hw.1,hw.2,List.drop_zero,Nat.sub_zero,List.take_length] at this;exact this
  ·refine .inl (.inl ⟨a,vs,rfl,aA,hw,λq a5=>?_⟩)
   have u_:=Ext.laid (o:=.tup (o5 vs l h)) rK.b' a5;refine k _ oQ _ (rK.trans u_) ?_;simp only[Rep];exact⟨q,_,rfl,dc.of dV,(MY ay l h).ext u_⟩
 ·cases e
  obtain⟨a,vs,rfl,aA,ay⟩:=(aW.ext LG).lst;refine .inr ⟨a,vs,rfl,.inl aA,λq a5=>?_⟩;have u_:=Ext.Kd (o:=.lst (o5 vs l h)) rK.b' a5;refine k _ _ _ (rK.trans u_) ?_;simp only[Rep];exact⟨q,_,rfl,.inr rfl,.inl dV,(MY ay l h).ext u_⟩
 ·cases e
end
end
end D
end
section
namespace D
open PySem PySem.W PyProof.Rows
structure Xe(n:Nat)(lt:Nat->Nat->Bool):Prop where
 an0:∀i j,lt i j=true->lt j i=false
 trans:∀i j k,lt i j=true->lt j k=true->lt i k=true
 aoE:∀i j,i<n->j<n->i≠j->lt i j=true\/lt j i=true
noncomputable def q3(lt:Nat->Nat->Bool)(p:Array Nat)(m:Nat):Prop:=∀i j,i<j->j<m->lt (p.getD i 0) (p.getD j 0)=true
noncomputable def iN(lt:Nat->Nat->Bool)(p:Array Nat)(m:Nat):Prop:=∀i j,i<j->j<m->lt (p.getD j 0) (p.getD i 0)=true
section
variable {n:Nat}{lt:Nat->Nat->Bool}(O:Xe n lt)
include O
end
end D
end
section
namespace D
open PySem
variable [cB]
noncomputable def ni:List Int->List Int->Bool
| [],[]=>false
| [],_::_=>true
|_::_,[]=>false
|a::x,b::y=>decide (a<b) || (decide (a=b) && ni x y)
theorem TX:∀{x y:List Int},ni x y=true->ni y x=false
| [],[],h=>by cases h
| [],_::_,_=>rfl
|_::_,[],h=>by cases h
|a::x,b::y,h=>by
  simp only[ni,Bool.or_eq_true,ic,decide_eq_true_eq] at h;simp only[ni,Bool.or_eq_false_iff,Bool.and_eq_false_iff,decide_eq_false_iff_not];rcases h with h|⟨ah,ar⟩
  ·exact⟨by omega,.inl (by omega)⟩
  ·exact⟨by omega,.inr (TX ar)⟩
noncomputable def zg(r:List Int):T:=.tuple (r.map .int)
end D
end
section
namespace D
open PySem PySem.Spec PyProof.Rows bA
section
variable [cB]
def Te:entryFor table "dict.update.loop"=some Builtin.«dict.update.loop»:=entryFor_of_tree (by kernel_rfl)
def Ef:plainId "dict.update.loop"=true:=by decide +kernel
section
variable {prog:cA}{w:b_}{K:Type}[DecidableEq K]{knd:PySem.KeyKind prog w K}{A:cw}
def aiO{E:aq->aH->Prop}{s:aH}{p:ak}{o:Obj}{n:Nat}{xs:Array aq}{Q:List aq->aH->Prop}(ah:s.heap.get? p=some o)(ar:o.cls=.type "tuple")(br:o.data=.seq xs n)(h:Q xs.toList s):a_ (bG prog w) A (Builtin.Dict.pairItems (.ref p)) Q E s:=by
 obtain⟨c,p7,dat,cz⟩:=o;simp only at ar br;subst ar br;obtain⟨aL,g,d,tk,os⟩:=s;have c0:(⟨aL,g,d,tk,os⟩:aH).TypeIs (.ref p) "tuple":=⟨_,ah,rfl⟩;unfold Builtin.Dict.pairItems
 repeat (any_goals (first|assumption|wp_step))
def aiJ{kvs:List (K×aq)}{k:K}{v:aq}(h:k∉kvs.map (·.1)):stored kvs k v=kvs++[(k,v)]:=by
 unfold stored;rw[if_neg];intro q;obtain⟨x,hx,e⟩:=List.any_eq_true.mp q;exact h (dP.mpr ⟨x,hx,by simpa using e⟩)
variable {R:Result->aH->Prop}{I:ak}{cC wr:List ak}{G:Array GenState->Array GenState->Prop}{St:Nat->aH->Prop}{items:Array aq}
variable {E:aq->aH->Prop}{s:aH}
end
end
section
variable [cB]
mutual
noncomputable def gu:T->T->Option Bool
|.int a,.int b=>some (decide (a<b))
|.tuple xs,.tuple ys=>mu xs ys
|_,_=>none
noncomputable def mu:List T->List T->Option Bool
| [],[]=>some false
| [],_::_=>some true
|_::_,[]=>some false
|x::xs,y::ys=>if gf x y then mu xs ys else gu x y
end
noncomputable def Ou(A:cw)(s:aH)(y x:aq)(b:Bool):Prop:=
 ∀(prog:cA) (w:b_) (E:aq->aH->Prop) (Q:aq->aH->Prop),Q (.bool b) s->a_ (bG prog w) A (richCompare .Lt y x) Q E s
inductive qW(A:cw)(s:aH)(fin:Bool):List (aq×aq)->Bool->Prop
|nil:qW A s fin [] fin
|eq {y x:aq} {r:List (aq×aq)} {b:Bool}:SeqAt.EqAt A s y x true->qW A s fin r b->qW A s fin ((y,x)::r) b
|lt {y x:aq} {r:List (aq×aq)} {b:Bool}:SeqAt.EqAt A s y x false->Ou A s y x b->qW A s fin ((y,x)::r) b
section
open PySem.SeqAt
open PySem.AutoSeq1 (wpAny_loadPart')
open PySem.MeetsSeq PySem.MeetsSeq2 PySem.MeetsSeq3
def ahE(l b:ak)(items rt:Array aq)(n fp:Nat)(dd n3:Option ak)(cz iD:Array (Option aq))(z:Bool):
  Meets (Builtin.«tuple.__lt__» ⟨[.ref l,.ref b],[]⟩)
   (λA R s=>s.heap.get? l=some {cls:=.type "tuple",dict:=dd,data:=.seq items n,slots:=cz}/\s.heap.get? b=some {cls:=.type "tuple",dict:=n3,data:=.seq rt fp,slots:=iD} /\
    qW A.in1 s (decide (items.size<rt.size)) (items.toList.zip rt.toList) z/\R (.ok (.ret (.bool z))) s):=
 .of_wp λprog w A R s h=>by
  obtain⟨aL,g,d,tk,os⟩:=s;obtain⟨aG,af,bq,h⟩:=h;have f2:=AutoSeq1.sub_tuple_tuple
  wp_walk using wpAny_loadPart' aG,wpAny_loadPart' af,wpAny_forIn_list _ (λrest b s'=>b.1=none/\s'=⟨aL,g,d,tk,os⟩/\qW A.in1 ⟨aL,g,d,tk,os⟩ (decide (items.size<rt.size)) rest z) _
  case turn=>
   rintro⟨y,x⟩ rest b s' ⟨j7,rfl,kz⟩;cases kz with
   |eq he kz=>
    refine aN (he prog w _ _ ?_)
    wp_walk
    exact⟨rfl,rfl,kz⟩
   |lt he eL=>
    refine aN (he prog w _ _ ?_)
    have Iq:=eL prog w
    wp_walk using Iq
    exact⟨_,rfl,h⟩
  case fin=>
   rintro⟨b6,b7⟩ s' ⟨j7,rfl,kz⟩;simp only at j7;subst j7;cases kz
   wp_walk
   exact⟨_,rfl,by simpa [Builtin.Tuple.tupleCompareSizes] using h⟩
  case h=>
   exact⟨rfl,rfl,bq⟩
mutual
theorem TV:∀(q' db:T) (A:cw) (s:aH) (a b:aq) (as bs:List ak) (r:Bool),Reads s.heap a q' as->Reads s.heap b db bs->q'.canLay0=true->db.canLay0=true->A.units+min q'.depth db.depth<cLine->gu q' db=some r->Ou A s a b r
|.int i,.int j,A,s,_,_,_,_,r,.int _ t,.int _ u,_,_,_,e=>by
  unfold gu at e;cases e;exact λprog w E Q q=>(PyProof.Rows.lt_int q:a_ (bG prog w) A (iH .Lt (.int i t) (.int j u)) Q E s)
|.tuple xs,.tuple ys,A,s,_,_,_,_,r,.tuple (a:=l) (o:=o) (vs:=vs) (n:=n) ah ar br cF,.tuple (a:=qn) (o:=o') (vs:=fs) (n:=y2) k1 k2 k3 nh,aC,af,b8,e=>by
  unfold gu at e;simp only[PyData.canLay0] at aC af;simp only[nC] at b8;have kz:=SF xs ys A.in1 s vs.toList fs.toList _ _ r cF nh aC af (room_in b8) e;obtain⟨cls,dd,data,cz⟩:=o;obtain⟨G9,n3,data2,iD⟩:=o';simp only at ar br k2 k3;subst ar br k2 k3;rw[tb,tb] at kz;exact λprog w E Q q=>richCompare_meets_room (op:=.Lt) ⟨_,ah,rfl⟩ ⟨_,k1,rfl⟩ PySem.F.slot_tuple_lt PySem.F.entry_tuple_lt (PySem.F.args_tuple_lt_2 _ _) (ahE l qn vs fs n y2 dd n3 cz iD r)
   ⟨ah,k1,kz,show Value.bool r≠Value.notImplemented/\Q (.bool r) s from ⟨(λx=>nomatch x),q⟩⟩ (by omega)
|.none,_,_,_,_,_,_,_,_,_,_,_,_,_,e=>by simp[gu] at e
|.bool _,_,_,_,_,_,_,_,_,_,_,_,_,_,e=>by simp[gu] at e
|.str _,_,_,_,_,_,_,_,_,_,_,_,_,_,e=>by simp[gu] at e
|.list _,_,_,_,_,_,_,_,_,_,_,_,_,_,e=>by simp[gu] at e
|.dict _,_,_,_,_,_,_,_,_,_,_,_,_,_,e=>by simp[gu] at e
|.int _,.none,_,_,_,_,_,_,_,_,_,_,_,_,e=>by simp[gu] at e
|.int _,.bool _,_,_,_,_,_,_,_,_,_,_,_,_,e=>by simp[gu] at e
|.int _,.str _,_,_,_,_,_,_,_,_,_,_,_,_,e=>by simp[gu] at e
|.int _,.list _,_,_,_,_,_,_,_,_,_,_,_,_,e=>by simp[gu] at e
|.int _,.dict _,_,_,_,_,_,_,_,_,_,_,_,_,e=>by simp[gu] at e
|.int _,.tuple _,_,_,_,_,_,_,_,_,_,_,_,_,e=>by simp[gu] at e
|.tuple _,.none,_,_,_,_,_,_,_,_,_,_,_,_,e=>by simp[gu] at e
|.tuple _,.bool _,_,_,_,_,_,_,_,_,_,_,_,_,e=>by simp[gu] at e
|.tuple _,.str _,_,_,_,_,_,_,_,_,_,_,_,_,e=>by simp[gu] at e
|.tuple _,.list _,_,_,_,_,_,_,_,_,_,_,_,_,e=>by simp[gu] at e
|.tuple _,.dict _,_,_,_,_,_,_,_,_,_,_,_,_,e=>by simp[gu] at e
|.tuple _,.int _,_,_,_,_,_,_,_,_,_,_,_,_,e=>by simp[gu] at e
theorem SF:∀(xs ys:List T) (A:cw) (s:aH) (vs ws:List aq) (as bs:List ak) (r:Bool),ReadsAll s.heap vs xs as->ReadsAll s.heap ws ys bs->jV xs=true->jV ys=true->A.units+min (ja xs) (ja ys)<cLine->mu xs ys=some r->qW A s (decide (vs.length<ws.length)) (vs.zip ws) r
| [],[],A,s,_,_,_,_,r,.nil,.nil,_,_,_,e=>by
  unfold mu at e;cases e;exact .nil
| [],_::_,A,s,_,_,_,_,r,.nil,.cons _ _,_,_,_,e=>by
  unfold mu at e;cases e;exact qW.nil
|_::_,[],A,s,_,_,_,_,r,.cons _ _,.nil,_,_,_,e=>by
  unfold mu at e;cases e;exact qW.nil
|x::xs,y::ys,A,s,_,_,_,_,r,.cons bk b4,.cons aQ bu,aC,af,b8,e=>by
  simp only[jV,ic] at aC af;simp only[ja] at b8;unfold mu at e;have he:=eqAt_reads x y A s _ _ _ _ bk aQ aC.1 af.1 (room_head b8);split at e
  next h=>
   rw[h] at he;have bT:=SF xs ys A s _ _ _ _ r b4 bu aC.2 af.2 (room_tail b8) e;rw[td];simp only[eX,Nat.add_lt_add_iff_right];exact .eq he bT
  next h=>
   rw[Bool.not_eq_true] at h;rw[h] at he;rw[td];exact .lt he (TV x y A s _ _ _ _ r bk aQ aC.1 af.1 (room_head b8) e)
end
end
noncomputable def sW(a b:T):Option T:=if ez a && ez b then (gu a b).map .bool else none
section
variable {X:a3}{e:bx}{es:List bx}{aE:List bZ}{p pos:Pos}
noncomputable def Q0(K:bc):gC:=λx y H Q=>∃(O F:ak->Prop) (s t:T) (r:Bool),f3 K O F H s x/\f3 K O F H t y/\ez s=true/\ez t=true/\gu s t=some r/\Q (.b3 r) H
def amS(b8:X.A.units+64<cLine):eQ X (iH .Lt) (Q0 X.K):=by
 intro ao s σ H x y v u Q I aW bC ⟨O,F,d,t,b,ah,ar,d3,eE,o3,q⟩;obtain⟨as,jO⟩:=mI I ah aW;obtain⟨bs,ff⟩:=mI I ar bC;obtain⟨cV,cu⟩:=qM d3;obtain⟨dj,cD⟩:=qM eE;exact TV d t X.A s v u as bs b jO ff cV dj (by have:=Nat.min_le_left d.depth t.depth;omega) o3 _ _ _ _ ⟨.b3 b,H,I,rfl,q⟩
def alP:m1 X.K sW (Q0 X.K):=by
  intro O F H x y t i8 i9 Q d aW bC e k;unfold sW at e;split at e
  next hz=>
   simp only[dO] at e;obtain⟨b,az,rfl⟩:=e;rw[ic] at hz;exact⟨O,F,x,y,b,aW,bC,hz.1,hz.2,az,k _ F H (Ext.refl d) (by simp[Rep])⟩
  next=>cases e
end
end
end D
end
section
namespace D
open PySem
inductive pZ where
|v (f:bZ)|o (i:Nat)
abbrev jg:=Ev->Option (T×Ev)
abbrev se:=Ev->Option aO
noncomputable def KP(i:Nat)(ai:Ev):Option aO:=match ai[i]? with
|some (some (.obj m c aE))=>some (.obj m c aE)
|_=>none
noncomputable def sr:List pZ->Ev->Option (List aO)
| [],_=>some []
|.v f::as,ai=>(f ai).bind λt=>(sr as ai).map λss=>.aa t::ss
|.o i::as,ai=>(KP i ai).bind λs=>(sr as ai).map λss=>s::ss
noncomputable def Ld:aO->aO
|.obj _ c aE=>.obj .hC c aE
|s=>s
noncomputable def i5(c i:Nat)(ai:Ev):Option (jz×List aO):=match ai[i]? with
|some (some (.obj m bX aE))=>if bX=c then some (m,aE) else none
|_=>none
noncomputable def fld(c i j:Nat):bZ:=λai=>(i5 c i ai).bind λo=>match o.2[j]? with
|some (.aa t)=>some t
|some (.own ts)=>some (.list ts)
|_=>none
noncomputable def hO(c i j:Nat):bZ:=λai=>(i5 c i ai).bind λo=>match o.2[j]? with
|some (.aa t)=>some t
|_=>none
noncomputable def pb(c i j:Nat):Ev->Option (List (Key×T)):=λai=>(i5 c i ai).bind λo=>match o.2[j]? with
|some (.h4 kvs)=>some kvs
|_=>none
noncomputable def rf(c i j:Nat):Ev->Option (List T):=λai=>(i5 c i ai).bind λo=>match o.2[j]? with
|some (.own ts)=>some ts
|_=>none
noncomputable def pa(c i j:Nat)(k:bZ):bZ:=λai=>(k ai).bind λt=>(iL t).bind λk=>(pb c i j ai).bind λkvs=>getD kvs k
noncomputable def AH(c i j:Nat):bZ:=λai=>(pb c i j ai).map λkvs=>.tuple (kvs.map (·.2))
noncomputable def jr(c i j:Nat)(s:aO)(ai:Ev):Option Ev:=(i5 c i ai).bind λo=>if o.1=.hC then none else
 if j<o.2.length then some (ai.set i (some (.obj o.1 c (o.2.set j s)))) else if j=o.2.length then some (ai.set i (some (.obj o.1 c (o.2++[s])))) else none
noncomputable def e7(c i j:Nat)(f:bZ):bJ:=λai=>(f ai).bind λt=>(jr c i j (.aa t) ai).map .bI
noncomputable def nT(c i j:Nat)(f:bZ):bJ:=λai=>(f ai).bind λt=>match t with
|.list ts=>(jr c i j (.own ts) ai).map .bI
|_=>none
noncomputable def ao1:T->T->Option Int
|.int i,.int j=>some (i+j)
|_,_=>none
noncomputable def q8(c i j:Nat)(f:bZ):bJ:=λai=>(hO c i j ai).bind λx=>(f ai).bind λy=>(ao1 x y).bind λz=>(jr c i j (.aa (.int z)) ai).map .bI
noncomputable def q7(c i j:Nat)(f:bZ):bJ:=λai=>(f ai).bind λt=>(rf c i j ai).bind λts=>if ts.length<big then (jr c i j (.own (ts++[t])) ai).map .bI else none
noncomputable def CM(c i j:Nat)(f:bZ):bJ:=λai=>(f ai).bind λt=>(rf c i j ai).bind λts=>match t,vJ ts with
|.str x,some ss=>if x∈ss then (jr c i j (.own ((ss.erase x).map .str)) ai).map .bI else none
|_,_=>none
noncomputable def xB:T->Option T
|.tuple xs=>some (.list xs)
|.list xs=>some (.list xs)
|_=>none
noncomputable def Ep:T->Option T
|.list xs=>if xs.length<64 then (vJ xs).map λss=>.list ((lG ss).map .str) else none
|_=>none
noncomputable def tL(c i j:Nat)(k v:bZ):bJ:=λai=>(v ai).bind λv=>(k ai).bind λt=>(iL t).bind λk=>(pb c i j ai).bind λkvs=>if kvs.length<big then (jr c i j (.h4 (putD kvs k v)) ai).map .bI else none
noncomputable def tR(c i j:Nat)(k v:bZ):bJ:=λai=>(k ai).bind λt=>(iL t).bind λk=>(pb c i j ai).bind λkvs=>(getD kvs k).bind λx=>(v ai).bind λy=>(ao1 x y).bind λz=>if kvs.length<big then (jr c i j (.h4 (putD kvs k (.int z))) ai).map .bI else none
noncomputable def tU:List T->List T->Option (List (Key×T))
| [],_=>some []
|_::_,[]=>some []
|k::a',v::vs=>(iL k).bind λk=>(tU a' vs).map λr=>(k,v)::r
noncomputable def xP(c i j:Nat)(a' vs:bZ):bJ:=λai=>(a' ai).bind λtk=>(vs ai).bind λjs=>match tk,js with
|.list lk,.tuple lv=>(tU lk lv).bind λkvs=>if (kvs.map (·.1)).Nodup/\kvs.length<=1000/\(∀t∈lk,(iL t).isSome=true) then (jr c i j (.h4 kvs) ai).map .bI else none
|_,_=>none
noncomputable def aoT(c:Nat)(d:List aO->Option T)(i:Nat)(aE:List bZ):bZ:=λai=>(i5 c i ai).bind λo=>(args aE ai).bind λts=>d (.obj .hC c o.2::ts.map .aa)
noncomputable def dR(c:Nat)(d:List aO->Option (T×List aO))(i:Nat)(aE:List bZ):jg:=λai=>(i5 c i ai).bind λo=>if o.1=.hC then none else (args aE ai).bind λts=>
 (d (.obj .d9 c o.2::ts.map .aa)).map λr=>(r.1,ai.set i (some (.obj o.1 c r.2)))
noncomputable def Cy(c:Nat)(d:List aO->Option (T×List aO))(aE:List bZ):se:=λai=>(args aE ai).bind λts=>(d (.obj .d9 c []::ts.map .aa)).bind λr=>match r.1 with
|.none=>some (.obj .own c r.2)
|_=>none
noncomputable def xO(d:List T->Option aO)(aE:List bZ):se:=λai=>(args aE ai).bind d
noncomputable def apj(c:Nat):aO->Option (List aO)
|.obj .own bX aE=>if bX=c then some aE else none
|_=>none
noncomputable def CD(c:Nat)(d:List aO->Option T)(o:se)(aE:List bZ):bZ:=λai=>(o ai).bind λs=>(apj c s).bind λos=>(args aE ai).bind λts=>d (.obj .hC c os::ts.map .aa)
noncomputable def EE(c j:Nat)(o:se):bZ:=λai=>(o ai).bind λs=>(apj c s).bind λos=>match os[j]? with
|some (.own ts)=>some (.list ts)
|_=>none
noncomputable def dX(f:jg):bJ:=λai=>(f ai).map λr=>.bI r.2
noncomputable def apo(f:jg):bJ:=λai=>(f ai).map λr=>.l0 r.1 r.2
noncomputable def zi(f:bZ):bJ:=λai=>(f ai).map λt=>.l0 t ai
noncomputable def x7(i:Nat)(f:jg):bJ:=λai=>(f ai).map λr=>.bI (r.2.set i (some (.aa r.1)))
noncomputable def A2(i:Nat)(f:se):bJ:=λai=>(f ai).map λs=>.bI (ai.set i (some s))
noncomputable def zj(i:Nat):bJ:=λai=>match ai[i]? with
|some (some (.obj .own c aE))=>some (.mz (.obj .own c aE))
|_=>none
noncomputable def ao0:bJ:=λai=>some (.l0 .none ai)
noncomputable def r_:bJ:=λ_=>none
noncomputable def lE(n:Nat)(ss:List aO):Ev:=ss.map some++dZ (n - ss.length) none
noncomputable def l1(b:bJ)(n:Nat)(ss:List aO):Option T:=(b (lE n ss)).bind λo=>match o with
|.dn t=>some t
|.bI _=>some .none
|_=>none
noncomputable def qN(c p:Nat)(ai:Ev):Option (List aO):=match ai[p]? with
|some (some (.obj .d9 bX aE))=>if bX=c then some aE else none
|_=>none
noncomputable def runM(c p:Nat)(b:bJ)(n:Nat)(ss:List aO):Option (T×List aO):=(b (lE n ss)).bind λo=>match o with
|.l0 t ai=>(qN c p ai).map λaE=>(t,aE)
|.bI ai=>(qN c p ai).map λaE=>(.none,aE)
|_=>none
noncomputable def CH:aO->Option aO
|.obj .own c aE=>some (.obj .own c aE)
|_=>none
noncomputable def uY(b:bJ)(n:Nat)(ts:List T):Option aO:=(b ((ts.map λt=>some (.aa t))++dZ (n - ts.length) none)).bind λo=>match o with
|.mz s=>CH s
|_=>none
end D
end
section
namespace D
open PySem PySem.Spec PyProof.Rows bA
section
variable [cB]
section
variable {K:bc}{F aD O:ak->Prop}{H ag:aB}{E:gi}
theorem gD.length:∀{aE:List aO} {vs:List V},gD K F H aE vs->aE.length=vs.length
| [],vs,r=>by
  have e:vs=[]:=r;rw[e];rfl
|s::ss,vs,r=>by
  obtain⟨v,z,rfl,_,b4⟩:=r;simp[gD.length b4]
theorem gD.get:∀{aE:List aO} {vs:List V} {j:Nat} {s:aO},gD K F H aE vs->aE[j]?=some s->∃v,vs[j]?=some v/\mS K F H s v
| [],vs,j,s,r,e=>by simp at e
|s::ss,vs,0,u,r,e=>by
  obtain⟨v,z,rfl,bk,_⟩:=r;simp at e;subst e;exact⟨v,rfl,bk⟩
|s::ss,vs,j+1,u,r,e=>by
  obtain⟨v,z,rfl,_,b4⟩:=r;obtain⟨w,ah,ar⟩:=gD.get (j:=j) (s:=u) b4 (by simpa using e);exact⟨w,by simpa using ah,ar⟩
theorem gD.set:∀{aE:List aO} {vs:List V} {j:Nat} {s:aO} {v:V},gD K F H aE vs->ew K F H aD ag->(∀(k:Nat) (u:aO) (w:V),k≠j->aE[k]?=some u->vs[k]?=some w->∀b∈d2 u w,ag b=H b)->mS K aD ag s v->gD K aD ag (aE.set j s) (vs.set j v)
| [],vs,j,s,v,r,_,_,_=>by
  have e:vs=[]:=r;subst e;exact rfl
|u::ss,vs,0,s,v,r,aF,aI,h=>by
  obtain⟨w,z,rfl,bk,b4⟩:=r;refine⟨v,z,rfl,h,b4.keep aF λb af=>?_⟩;have:∀{ss:List aO} {z:List V} (n:Nat),(∀(k:Nat) (u:aO) (w:V),ss[k]?=some u->z[k]?=some w->∀b∈d2 u w,ag b=H b)->b∈dt ss z->ag b=H b:=by
   intro ss
   induction ss with
   |nil=>intro z n _ af;simp[dt] at af
   |cons s1 ss bT=>
    intro z n aI af;cases z with
    |nil=>simp[dt] at af
    |cons v1 z=>
     rw[show dt (s1::ss) (v1::z)=d2 s1 v1++dt ss z from rfl] at af;rcases hS.mp af with q|q
     ·exact aI 0 s1 v1 rfl rfl b q
     ·exact bT n (λk u w az aM=>aI (k+1) u w (by simpa using az) (by simpa using aM)) q
  exact this 0 (λk u w az aM=>aI (k+1) u w (by omega) (by simpa using az) (by simpa using aM)) af
|u::ss,vs,j+1,s,v,r,aF,aI,h=>by
  obtain⟨w,z,rfl,bk,b4⟩:=r;exact⟨w,z.set j v,rfl,bk.keep aF λb af=>aI 0 u w (by omega) rfl rfl b af,gD.set b4 aF (λk u w aod az aM=>aI (k+1) u w (by omega) (by simpa using az) (by simpa using aM)) h⟩
theorem gD.snoc:∀{aE:List aO} {vs:List V} {s:aO} {v:V},gD K F H aE vs->mS K F H s v->gD K F H (aE++[s]) (vs++[v])
| [],vs,s,v,r,h=>by
  have e:vs=[]:=r;subst e;exact⟨v,[],rfl,h,rfl⟩
|u::ss,vs,s,v,r,h=>by
  obtain⟨w,z,rfl,bk,b4⟩:=r;exact⟨w,z++[v],rfl,bk,gD.snoc b4 h⟩
theorem M6:∀{aE:List aO} {vs:List V} {s:aO} {v:V},aE.length=vs.length->dt (aE++[s]) (vs++[v])=dt aE vs++d2 s v
| [],[],s,v,_=>by simp[dt]
|u::ss,w::z,s,v,h=>by
  show d2 u w++dt (ss++[s]) (z++[v])=(d2 u w++dt ss z)++d2 s v
  rw[M6 (by simpa using h),List.append_assoc]
| [],w::z,_,_,h=>by simp at h
|u::ss,[],_,_,h=>by simp at h
theorem qP:∀{aE:List aO} {vs:List V} {j:Nat} {s:aO} {v:V} {b:ak},aE[j]?=some s->vs[j]?=some v->b∈d2 s v->b∈dt aE vs
| [],vs,j,s,v,b,e,_,_=>by simp at e
|u::ss,[],j,s,v,b,_,e,_=>by simp at e
|u::ss,w::z,0,s,v,b,az,aM,h=>by
  simp at az aM;subst az aM;exact hS.mpr (.inl h)
|u::ss,w::z,j+1,s,v,b,az,aM,h=>hS.mpr (.inr (qP (j:=j) (by simpa using az) (by simpa using aM) h))
theorem NR:∀{aE:List aO} {vs:List V} {b:ak},b∈dt aE vs->∃(j:Nat) (s:aO) (v:V),aE[j]?=some s/\vs[j]?=some v/\b∈d2 s v
| [],vs,b,h=>by simp[dt] at h
|u::ss,[],b,h=>by simp[dt] at h
|u::ss,w::z,b,h=>by
  rcases hS.mp (show b∈d2 u w++dt ss z from h) with q|q
  ·exact⟨0,u,w,rfl,rfl,q⟩
  ·obtain⟨j,s,v,az,aM,h⟩:=NR q;exact⟨j+1,s,v,by simpa using az,by simpa using aM,h⟩
theorem M5:∀{aE:List aO} {vs:List V} {j k:Nat} {s u:aO} {v w:V} {b:ak},(dt aE vs).Nodup->j≠k->aE[j]?=some s->vs[j]?=some v->aE[k]?=some u->vs[k]?=some w->b∈d2 s v->b∈d2 u w->False
| [],vs,j,k,s,u,v,w,b,_,_,e,_,_,_,_,_=>by simp at e
|x::ss,[],j,k,s,u,v,w,b,_,_,_,e,_,_,_,_=>by simp at e
|x::ss,y::z,j,k,s,u,v,w,b,aS,qh,az,aM,dS,iT,ah,ar=>by
  have iy:(d2 x y++dt ss z).Nodup:=aS;rw[nB] at iy;obtain⟨ey,fp,rx⟩:=iy;cases j with
  |zero=>
   cases k with
   |zero=>exact qh rfl
   |succ k=>
    simp at az aM;subst az aM;exact rx b ah b (qP (j:=k) (by simpa using dS) (by simpa using iT) ar) rfl
  |succ j=>
   cases k with
   |zero=>
    simp at dS iT;subst dS iT;exact rx b ar b (qP (j:=j) (by simpa using az) (by simpa using aM) ah) rfl
   |succ k=>exact M5 (j:=j) (k:=k) fp (by omega) (by simpa using az) (by simpa using aM) (by simpa using dS) (by simpa using iT) ah ar
def DX{aE:List aO}{vs:List V}{j:Nat}{s:aO}{v:V}{b:ak}(h:b∈dt (aE.set j s) (vs.set j v)):b∈dt aE vs\/b∈d2 s v:=by
 obtain⟨k,u,w,az,aM,h⟩:=NR h;by_cases aI:j=k
 ·subst aI;have cu:=(g6.mp az).1;have cD:=(g6.mp aM).1;simp at cu cD;rw[wV,if_pos rfl,if_pos cu] at az;rw[wV,if_pos rfl,if_pos cD] at aM;cases az;cases aM;exact .inr h
 ·rw[wV,if_neg aI] at az aM;exact .inl (qP az aM h)
theorem L7:∀{aE:List aO} {vs:List V} {j:Nat} {s:aO} {v:V},(dt aE vs).Nodup->(d2 s v).Nodup->(∀b∈d2 s v,∀(k:Nat) (u:aO) (w:V),k≠j->aE[k]?=some u->vs[k]?=some w->b∉d2 u w)->(dt (aE.set j s) (vs.set j v)).Nodup
| [],vs,j,s,v,_,_,_=>by simp[dt]
|x::ss,[],j,s,v,_,_,_=>by cases j <;> simp[dt]
|x::ss,y::z,0,s,v,aS,jM,aC=>by
  have iy:(d2 x y++dt ss z).Nodup:=aS;rw[nB] at iy;show (d2 s v++dt ss z).Nodup;rw[nB];refine⟨jM,iy.2.1,λb af c aw e=>?_⟩;subst e;obtain⟨k,u,w,az,aM,h⟩:=NR aw;exact aC b af (k+1) u w (by omega) (by simpa using az) (by simpa using aM) h
|x::ss,y::z,j+1,s,v,aS,jM,aC=>by
  have iy:(d2 x y++dt ss z).Nodup:=aS;rw[nB] at iy;show (d2 x y++dt (ss.set j s) (z.set j v)).Nodup;rw[nB];refine⟨iy.1,L7 iy.2.1 jM λb af k u w aI az aM=>aC b af (k+1) u w (by omega) (by simpa using az) (by simpa using aM),λb af c aw e=>?_⟩;subst e;rcases DX aw with q|q
  ·exact iy.2.2 b af b q rfl
  ·exact aC b q 0 x y (by omega) rfl rfl af
def aky(v:V):(i6 v).Nodup:=by
 unfold i6;split <;> simp
def Tb(s:aO)(v:V):(d2 s v).Nodup:=by
 cases s <;> first|exact aky v|simp[d2]
theorem Mo:∀{ns:List Str} {vs:List V} {j:Nat} {f:Str} {v:V},ns.Nodup->ns[j]?=some f->vs[j]?=some v->(ns.zip vs).lookup f=some v
| [],_,_,_,_,_,e,_=>by simp at e
|_::_,[],_,_,_,_,_,e=>by simp at e
|n::ns,w::vs,0,f,v,_,az,aM=>by
  simp at az aM;subst az aM;simp[kN]
|n::ns,w::vs,j+1,f,v,aS,az,aM=>by
  have ne:f≠n:=by
   rintro rfl;exact (eW.mp aS).1 (qB (by simpa using az))
  have af:(f==n)=false:=beq_eq_false_iff_ne.mpr ne;simp only[td,kN,af];exact Mo (j:=j) (eW.mp aS).2 (by simpa using az) (by simpa using aM)
theorem zQ:∀{ns:List Str} {vs:List V} {f:Str},f∉ns->(ns.zip vs).lookup f=none
| [],_,_,_=>by simp
|_::_,[],_,_=>by simp
|n::ns,w::vs,f,h=>by
  have ne:f≠n:=λe=>h (by simp[e]);have af:(f==n)=false:=beq_eq_false_iff_ne.mpr ne;simp only[td,kN,af];exact zQ λz=>h (dK _ z)
theorem Ub:∀{ns:List Str} {vs:List V} {j:Nat} {f:Str} {v:V},ns.Nodup->ns[j]?=some f->j<vs.length->bA.hB f v (ns.zip vs)=ns.zip (vs.set j v)
| [],_,_,_,_,_,e,_=>by simp at e
|_::_,[],_,_,_,_,_,h=>by simp at h
|n::ns,w::vs,0,f,v,_,az,h=>by
  simp at az;subst az;simp[bA.hB]
|n::ns,w::vs,j+1,f,v,aS,az,h=>by
  have ne:n≠f:=by
   rintro rfl;exact (eW.mp aS).1 (qB (by simpa using az))
  simp only[td,gx,bA.hB,if_neg ne];rw[Ub (j:=j) (eW.mp aS).2 (by simpa using az) (by simpa using h)]
theorem R7:∀{ns:List Str} {vs:List V} {f:Str} {v:V},ns.Nodup->ns[vs.length]?=some f->bA.hB f v (ns.zip vs)=ns.zip (vs++[v])
| [],_,_,_,_,e=>by simp at e
|n::ns,[],f,v,_,az=>by
  simp at az;subst az;simp[bA.hB]
|n::ns,w::vs,f,v,aS,az=>by
  have ne:n≠f:=by
   rintro rfl;exact (eW.mp aS).1 (qB (by simpa using az))
  simp only[td,pL,bA.hB,if_neg ne];rw[R7 (eW.mp aS).2 (by simpa using az)]
end
structure hq(K:bc)(c:Nat)(C:ak)(ns:List Str):Prop where
 o2:cB.o2 c=some C
 fw:cB.fw c=ns
 cls:oP K C
 aS:ns.Nodup
 na:∀f∈ns,r7 K C f
 BC:ns.length<1000
section
variable {K:bc}{aK F ba O:ak->Prop}{H H1:aB}{E:gi}{ai ε':Ev}{σ:bA.St}{c C i j:Nat}{ns:List Str}
def qG{m:jz}{aE:List aO}(h:i5 c i ai=some (m,aE)):ai[i]?=some (some (.obj m c aE)):=by
 unfold i5 at h;split at h
 next qo bX iu e=>
  split at h
  next aw=>
   cases h
   rw[e,aw]
  next=>cases h
 next=>cases h
def r6{m:jz}{aE:List aO}(k:hq K c C ns)(r:cN K aK E O F H ai σ)(h:i5 c i ai=some (m,aE)):
  ∃a vs bF,σ[i]?=some (some (.ref a))/\H a=some (.ins C bF (ns.zip vs))/\vs.length<=ns.length/\iM H a c vs/\gD K F H aE vs/\(a::dt aE vs).Nodup/\(∀b∈a::dt aE vs,x2 E O F m b)/\(m=.d9->a=E.jK):=by
 obtain⟨v,ah,a,vs,rfl,aC,hf,aS,gK,jK⟩:=r.val i _ (qG h);obtain⟨aG,hx⟩:=id aC;rw[k.o2] at hx;obtain⟨bF,hx⟩:=hx;rw[k.fw] at aG hx;exact⟨a,vs,bF,ah,hx,aG,aC,hf,aS,gK,jK⟩
def EO{m:jz}(hm:m≠.hC){aE:List aO}:(aO.obj m c aE).jm=true:=by
 cases m with
|hC=>exact absurd rfl hm
|own=>rfl
|d9=>rfl
def cN.CV{s:aO}{v:V}{a bF:ak}{vs:List V}(k:hq K c C ns)(r:cN K aK E O F H ai σ){m:jz}{aE:List aO}(aJ:i5 c i ai=some (m,aE))(ah:σ[i]?=some (some (.ref a)))(aC:iM H a c vs)(he:jr c i j s ai=some ε')
  (rs:mS K F H s v) (own:∀b∈d2 s v,¬F b/\O b/\b∉dD H (.obj m c aE) (.ref a)/\∀(k:Nat) (u:aO) (w:V),i≠k->ai[k]?=some (some u)->u.jm=true->σ[k]?=some (some w)->b∉dD H u w) (hx:H a=some (.ins C bF (ns.zip vs)))
  {f:Str} (bU:ns[j]?=some f):ew K F H F (upd H a (.ins C bF (bA.hB f v (ns.zip vs))))/\cN K aK E O F (upd H a (.ins C bF (bA.hB f v (ns.zip vs)))) ε' σ:=by
 obtain⟨mf,fs,v8,dN,kD,aG,n9,hf,aS,gK,jK⟩:=r6 k r aJ;rw[ah] at dN;cases dN;have ev:fs=vs:=by rw[<- aC.vals,<- n9.vals]
 subst ev;have j8:dD H (.obj m c aE) (.ref a)=a::dt aE fs:=lD aC;rw[j8] at own;unfold jr at he;rw[aJ] at he;simp only[cn] at he;split at he
 next=>cases he
 next hm=>
 have hlen:=hf.length;have yH:(aO.obj m c aE).jm=true:=EO hm;have Qb:∀b,x2 E O F m b <-> ¬F b/\O b:=λb=>by
  cases m with
  |hC=>exact absurd rfl hm
  |own=>exact Iff.rfl
  |d9=>exact Iff.rfl
 have na:∀b∈dt aE fs,b≠a:=λb af z=>(eW.mp aS).1 (z▸af);split at he
 next yE=>
  cases he
  have H':j<fs.length:=by omega
  rw[Ub k.aS bU H'];have uD:∀b∈a::dt (aE.set j s) (fs.set j v),b∈a::dt aE fs\/b∈d2 s v:=λb af=>by
   rcases cM.mp af with rfl|af
   ·exact .inl fQ
   ·rcases DX af with q|q
    ·exact .inl (dK _ q)
    ·exact .inr q
  have n_:∀o':aB,o' a=some (.ins C bF (ns.zip (fs.set j v)))->iM o' a c (fs.set j v):=λo' e=>by
   refine⟨by rw[k.fw];simpa using aG,?_⟩
   rw[k.o2,k.fw];exact⟨bF,e⟩
  refine r.Cw (qG aJ) yH ah (by rw[j8];exact fQ) (λaF=>⟨a,fs.set j v,rfl,n_ _ dV,?_,?_,λb af=>?_,jK⟩) λb af=>?_
  ·refine gD.set hf aF (λk u w _ az aM b af=>cS (na b (qP az aM af))) (rs.keep aF λb af=>cS λz=>(own b af).2.2.1 (z▸fQ))
  ·refine eW.mpr ⟨λz=>?_,L7 (eW.mp aS).2 (Tb s v) λb af k u w _ az aM q=>(own b af).2.2.1 (dK _ (qP az aM q))⟩
   rcases DX z with q|q
   ·exact (eW.mp aS).1 q
   ·exact (own a q).2.2.1 fQ
  ·rcases uD b af with q|q
   ·exact gK b q
   ·exact (Qb b).mpr ⟨(own b q).1,(own b q).2.1⟩
  ·rw[lD (n_ _ dV)] at af;rcases uD b af with q|q
   ·exact .inl (by rw[j8];exact q)
   ·exact .inr (own b q).2.2.2
 next yE=>
  split at he
  next aob=>
   cases he
   have H':j=fs.length:=by omega
   rw[R7 k.aS (by rw[<- H'];exact bU)];have aoc:j<ns.length:=(g6.mp bU).1;have uD:∀b∈a::dt (aE++[s]) (fs++[v]),b∈a::dt aE fs\/b∈d2 s v:=λb af=>by
    rw[M6 hlen] at af;rcases cM.mp af with rfl|af
    ·exact .inl fQ
    ·rcases hS.mp af with q|q
     ·exact .inl (dK _ q)
     ·exact .inr q
   have n_:∀o':aB,o' a=some (.ins C bF (ns.zip (fs++[v])))->iM o' a c (fs++[v]):=λo' e=>by
    refine⟨by rw[k.fw];simp;omega,?_⟩
    rw[k.o2,k.fw];exact⟨bF,e⟩
   refine r.Cw (qG aJ) yH ah (by rw[j8];exact fQ) (λaF=>⟨a,fs++[v],rfl,n_ _ dV,?_,?_,λb af=>?_,jK⟩) λb af=>?_
   ·exact gD.snoc (hf.keep aF λb af=>cS (na b af)) (rs.keep aF λb af=>cS λz=>(own b af).2.2.1 (z▸fQ))
   ·rw[M6 hlen];refine eW.mpr ⟨λz=>?_,nB.mpr ⟨(eW.mp aS).2,Tb s v,λb af d hd e=>?_⟩⟩
    ·rcases hS.mp z with q|q
     ·exact (eW.mp aS).1 q
     ·exact (own a q).2.2.1 fQ
    ·subst e;exact (own b hd).2.2.1 (dK _ af)
   ·rcases uD b af with q|q
    ·exact gK b q
    ·exact (Qb b).mpr ⟨(own b q).1,(own b q).2.1⟩
   ·rw[lD (n_ _ dV)] at af;rcases uD b af with q|q
    ·exact .inl (by rw[j8];exact q)
    ·exact .inr (own b q).2.2.2
  next=>cases he
def cN.Cv{s s':aO}{a b:ak}{vs:List V}{o':ef}(r:cN K aK E O F H ai σ){m:jz}{aE:List aO}(aJ:i5 c i ai=some (m,aE))(ah:σ[i]?=some (some (.ref a)))(aC:iM H a c vs)(he:jr c i j s' ai=some ε')
  (aA:aE[j]?=some s) (bh:vs[j]?=some (.ref b)) (aP:b∈d2 s (.ref b)) (BM:d2 s' (.ref b)=[b]) (rs:ew K F H F (upd H b o')->mS K F (upd H b o') s' (.ref b)):ew K F H F (upd H b o')/\cN K aK E O F (upd H b o') ε' σ:=by
 obtain⟨v,dN,mf,fs,ev,n9,hf,aS,gK,jK⟩:=r.val i _ (qG aJ);rw[ah] at dN;cases dN;cases ev;have ev:fs=vs:=by rw[<- aC.vals,<- n9.vals]
 subst ev;have j8:dD H (.obj m c aE) (.ref a)=a::dt aE fs:=lD aC;unfold jr at he;rw[aJ] at he;simp only[cn] at he;split at he
 next=>cases he
 next hm=>
 have yE:j<aE.length:=(g6.mp aA).1;rw[if_pos yE] at he;cases he;have iv:b∈dt aE fs:=qP aA bh aP;have _C:a≠b:=λz=>(eW.mp aS).1 (z▸iv);have n_:iM (upd H b o') a c fs:=aC.keep (cS _C);have Hg:fs.set j (.ref b)=fs:=by
  obtain⟨aG,e⟩:=g6.mp bh;rw[<- e];exact List.set_getElem_self aG
 have H7:∀x∈dt (aE.set j s') fs,x∈dt aE fs:=λx hx=>by
  rw[<- Hg] at hx;rcases DX hx with q|q
  ·exact q
  ·rw[BM] at q;rw[ly.mp q];exact iv
 refine r.Cw (qG aJ) (EO hm) ah (by rw[j8];exact dK _ iv) (λaF=>⟨a,fs,rfl,n_,?_,?_,λx hx=>?_,jK⟩) λx hx=>?_
 ·rw[<- Hg];exact gD.set hf aF (λk u w aI az aM x hx=>cS λz=>M5 (eW.mp aS).2 (Ne.symm aI) aA bh az aM aP (z▸hx)) (rs aF)
 ·refine eW.mpr ⟨λz=>(eW.mp aS).1 (H7 a z),?_⟩
  rw[<- Hg];refine L7 (eW.mp aS).2 (by rw[BM];simp) λx hx k u w aI az aM q=>?_;rw[BM] at hx;rw[ly.mp hx] at q;exact M5 (eW.mp aS).2 (Ne.symm aI) aA bh az aM aP q
 ·rcases cM.mp hx with rfl|hx
  ·exact gK _ fQ
  ·exact gK x (dK _ (H7 x hx))
 ·rw[lD n_] at hx;rw[j8];rcases cM.mp hx with rfl|hx
  ·exact .inl fQ
  ·exact .inl (dK _ (H7 x hx))
end
end
section
variable [cB]
section
variable {K:bc}{aK F O:ak->Prop}{H:aB}{E:gi}{ai:Ev}{σ:bA.St}{c C i j:Nat}{ns:List Str}{f:Str}
def pW{m:jz}{aE:List aO}{s:aO}(k:hq K c C ns)(r:cN K aK E O F H ai σ)(h:i5 c i ai=some (m,aE))(aA:aE[j]?=some s)(bU:ns[j]?=some f):
  ∃a vs bF v,σ[i]?=some (some (.ref a))/\H a=some (.ins C bF (ns.zip vs))/\(ns.zip vs).lookup f=some v/\iM H a c vs/\vs[j]?=some v/\mS K F H s v/\(∀b∈d2 s v,x2 E O F m b/\b≠a):=by
 obtain⟨a,vs,bF,ah,hx,aG,aC,hf,aS,gK,jK⟩:=r6 k r h;obtain⟨v,bh,bW⟩:=hf.get aA;refine⟨a,vs,bF,v,ah,hx,Mo k.aS bU bh,aC,bh,bW,λb af=>⟨gK b (dK _ (qP aA bh af)),λz=>(eW.mp aS).1 (z▸qP aA bh af)⟩⟩
def mR(k:hq K c C ns)(bU:ns[j]?=some f):r7 K C f:=k.na f (qB bU)
end
section
variable {X:a3}{c C i j:Nat}{ns:List Str}{f:Str}{o e a:bx}{g h:bZ}{pos apos:Pos}
def ij(k:hq X.K c C ns)(bg:b0 X o (g4 i))(bU:ns[j]?=some f:=by rfl)(af:ki o f X.env (eval o X.env)=eval o X.env:=by rfl):eB X (.Attribute o f pos) (fld c i j):=
 eu (r5 bg af) λσ H Q ⟨aK,aY,O,F,ai,t,r,e,b5⟩=>by
 simp only[fld,cm] at e;obtain⟨⟨m,aE⟩,aJ,e⟩:=e;split at e
 next t' aA=>
  cases e
  obtain⟨a,vs,bF,v,ah,hx,aG,aC,bh,bW,_⟩:=pW k r aJ aA bU;exact⟨_,ah,a,C,bF,_,v,rfl,hx,k.cls,mR k bU,aG,b5 v F H (Ext.refl r.b') (.inl bW)⟩
 next ts aA=>
  cases e
  obtain⟨a,vs,bF,v,ah,hx,aG,aC,bh,⟨b,us,dW,af,ff⟩,_⟩:=pW k r aJ aA bU;subst dW;exact⟨_,ah,a,C,bF,_,_,rfl,hx,k.cls,mR k bU,aG,b5 _ F H (Ext.refl r.b') (.inr ⟨ts,b,us,rfl,rfl,af,ff⟩)⟩
 next=>cases e
def l_(k:hq X.K c C ns)(bg:b0 X o (g4 i))(bU:ns[j]?=some f:=by rfl)(af:ki o f X.env (eval o X.env)=eval o X.env:=by rfl):cT X (.Attribute o f pos) (hO c i j):=
 eu (r5 bg af) λσ H Q ⟨aK,aY,O,F,ai,t,r,e,b5⟩=>by
 simp only[hO,cm] at e;obtain⟨⟨m,aE⟩,aJ,e⟩:=e;split at e
 next t' aA=>
  cases e
  obtain⟨a,vs,bF,v,ah,hx,aG,aC,bh,bW,_⟩:=pW k r aJ aA bU;exact⟨_,ah,a,C,bF,_,v,rfl,hx,k.cls,mR k bU,aG,b5 v F H (Ext.refl r.b') bW⟩
 next=>cases e
def Ej{ai:Ev}{kvs:List (D.Key×T)}(e:pb c i j ai=some kvs):∃m aE,i5 c i ai=some (m,aE)/\aE[j]?=some (.h4 kvs):=by
 simp only[pb,cm] at e;obtain⟨⟨m,aE⟩,aJ,e⟩:=e;split at e
 ·cases e
  exact⟨m,aE,aJ,by assumption⟩
 ·cases e
def Tc{ai:Ev}{ts:List T}(e:rf c i j ai=some ts):∃m aE,i5 c i ai=some (m,aE)/\aE[j]?=some (.own ts):=by
 simp only[rf,cm] at e;obtain⟨⟨m,aE⟩,aJ,e⟩:=e;split at e
 ·cases e
  exact⟨m,aE,aJ,by assumption⟩
 ·cases e
def NI(k:hq X.K c C ns)(b8:X.A.units+1<cLine)(bg:b0 X o (g4 i))(aC:eB X a g)(bU:ns[j]?=some f:=by rfl)(af:ki o f X.env (eval o X.env)=eval o X.env:=by rfl)(aA:Fq a:=by intro _ _;rfl):
  cT X (.Subscript (unop%Wo 0) a pos) (pa c i j g):=eu (alF b8 (r5 bg af) aC aA) λσ H Q ⟨aK,aY,O,F,ai,t,r,e,b5⟩=>by
 simp only[pa,cm] at e;obtain⟨t',bY,key,gn,kvs,hb,lP⟩:=e;obtain⟨m,aE,aJ,aA⟩:=Ej hb;obtain⟨a,vs,bF,v,ah,hx,aG,aC,bh,⟨b,us,dW,af,ff⟩,_⟩:=pW k r aJ aA bU;subst dW;refine⟨_,ah,a,C,bF,_,_,rfl,hx,k.cls,mR k bU,aG,aK,aY,O,F,ai,t',r,bY,λv ba H1 aU aQ=>?_⟩;have uA:=aU.same.get af;have wI:=en.aF (aU.aF (K:=X.K)) ff;obtain⟨w,hw,l2⟩:=wI.get lP;refine⟨b,w,rfl,?_,b5 w ba H1 aU l2⟩;rw[vE gn aQ,<- hw];exact sb.k uA
def TY{K:bc}{aK F O ba:ak->Prop}{H H1:aB}{E:gi}{ai:Ev}{σ:bA.St}{b:ak}(r:cN K aK E O F H ai σ)(x:Ext F H ba H1)(bg:H b=none):
  ∀(k:Nat) (u:aO) (w:V),ai[k]?=some (some u)->σ[k]?=some (some w)->b∉dD H1 u w:=λk u w gn aI af=>by
 obtain⟨dh,ah,ar⟩:=r.val k u gn;rw[aI] at ah;cases ah;rw[(ar.yk x).2] at af;obtain⟨o,e,_⟩:=ar.at af;rw[bg] at e;cases e
def gz(k:hq X.K c C ns)(bg:b0 X o (g4 i))(he:cT X e g)(bU:ns[j]?=some f:=by rfl)(aA:kP e (some (unop%Wo 0)) pos.line X.env=pure false:=by rfl):
  gP X (.Assign [.Attribute o f apos] e pos) (e7 c i j g):=hX (NJ bg he aA) λD σ H ⟨aK,aY,O,F,ai,o,r,e,b5⟩=>by
 simp only[e7,cm,dO] at e;obtain⟨t,bY,ε',es,rfl⟩:=e;refine⟨aK,aY,O,F,ai,t,r,bY,λv ba H1 aU aQ=>?_⟩;have bk:=r.ext aU;have jG:=es;unfold jr at jG;simp only[cm] at jG;obtain⟨⟨m,aE⟩,aJ,_⟩:=jG;obtain⟨a,vs,bF,ah,hx,aG,aC,_⟩:=r6 k bk aJ;obtain⟨aF,b4⟩:=bk.CV (s:=.aa t) (v:=v) k aJ ah aC es aQ (λb af=>by simp[d2] at af) hx bU;refine⟨_,ah,a,C,bF,_,rfl,hx,k.cls,mR k bU,?_,b5 σ ba _ (aU.aF.trans aF) b4⟩;have:=k.BC;simp only[List.length_zip];omega
def xl(k:hq X.K c C ns)(bg:b0 X o (g4 i))(he:ao_ X e g)(bU:ns[j]?=some f:=by rfl)(aA:kP e (some (unop%Wo 0)) pos.line X.env=pure false:=by rfl):
  gP X (.Assign [.Attribute o f apos] e pos) (nT c i j g):=hX (NJ bg he aA) λD σ H ⟨aK,aY,O,F,ai,o,r,e,b5⟩=>by
 simp only[nT,cm] at e;obtain⟨t,bY,e⟩:=e;split at e
 next ts=>
  simp only[dO] at e;obtain⟨ε',es,rfl⟩:=e;refine⟨aK,aY,O,F,ai,ts,r,bY,λb us ba H1 aU rl jn af aQ=>?_⟩;have bk:=r.ext aU;have jG:=es;unfold jr at jG;simp only[cm] at jG;obtain⟨⟨m,aE⟩,aJ,_⟩:=jG;obtain⟨a,vs,bF,ah,hx,aG,aC,_⟩:=r6 k bk aJ;have hold:=TY r aU rl;obtain⟨aF,b4⟩:=bk.CV (s:=.own ts) (v:=.ref b) k aJ ah aC es ⟨b,us,rfl,af,aQ⟩ (λd hd=>by
   have:d=b:=by simpa [d2,i6] using hd
   subst this;exact⟨jn,r.fr _ rl,hold i _ _ (qG aJ) ah,λk u w _ gn _ aI=>hold k u w gn aI⟩) hx bU
  refine⟨_,ah,a,C,bF,_,rfl,hx,k.cls,mR k bU,?_,b5 σ ba _ (aU.aF.trans aF) b4⟩
  have:=k.BC;simp only[List.length_zip];omega
 next=>cases e
def Tw{x y:T}{z:Int}(h:ao1 x y=some z):∃p q,x=.int p/\y=.int q/\z=p+q:=by
 unfold ao1 at h;split at h
 ·cases h
  exact⟨_,_,rfl,rfl,rfl⟩
 ·cases h
def UZ(k:hq X.K c C ns)(bg:b0 X o (g4 i))(he:cT X e g)(bU:ns[j]?=some f:=by rfl):gP X (.AugAssign (unop%Wo 0) .Add e pos) (q8 c i j g):=
 hX (ajE bg he Vj) λD σ H ⟨aK,aY,O,F,ai,o,r,e,b5⟩=>by
 simp only[q8,cm,dO] at e;obtain⟨x,ex,y,fN,z,uq,ε',es,rfl⟩:=e;simp only[hO,cm] at ex;obtain⟨⟨m,aE⟩,aJ,ex⟩:=ex;split at ex
 next t' aA=>
  cases ex
  obtain⟨p,q,rfl,rfl,rfl⟩:=Tw uq;obtain⟨a,vs,bF,v,ah,hx,aG,aC,bh,bW,_⟩:=pW k r aJ aA bU;refine⟨_,ah,a,C,bF,_,v,rfl,hx,k.cls,mR k bU,aG,aK,aY,O,F,ai,_,r,fN,λw ba H1 aU aQ=>?_⟩;have bk:=r.ext aU;have ev:v=.int p:=by simpa [mS,Rep] using bW
  have o_:w=.int q:=by simpa [Rep] using aQ
  obtain⟨mf,fs,v8,dN,kD,aah,n9,_⟩:=r6 k bk aJ;rw[ah] at dN;cases dN;obtain⟨aF,b4⟩:=bk.CV (s:=.aa (.int (p+q))) (v:=.int (p+q)) k aJ ah n9 es (by simp[mS,Rep]) (λb af=>by simp[d2] at af) kD bU;refine⟨p,q,ev,o_,v8,_,kD,?_,b5 σ ba _ (aU.aF.trans aF) b4⟩;have:=k.BC;simp only[List.length_zip];omega
 next=>cases ex
def U1(k:hq X.K c C ns)(bg:b0 X o (g4 i)){n1 d6:Pos}(he:cT X e g)(bU:ns[j]?=some f:=by rfl)(af:ki o f X.env (eval o X.env)=eval o X.env:=by rfl)
  (aoV:bl [e] X.env=(false,eval e X.env)::bl [] X.env:=by rfl)
  (nd:ki (unop%Wo 0) "append" X.env (eval (unop%Wo 0) X.env)=eval (unop%Wo 0) X.env:=by rfl)
  (rj:((c' d6 (bl [e] X.env)).all (λx=>!x.1) && (fT d6 (fS [] X.env)).all (λx=>x.1.isSome)
   && decide (([e]:List bx).length+([]:List Keyword).length+(if ([]:List Keyword).isEmpty then 0 else 1)<30))=true:=by rfl)
  (nf:(n1.endLine==d6.line)=true:=by rfl) (ro:(c' d6 (bl [] X.env)).any (·.1)=false:=by rfl)
  (pj:kP (.Call (.Attribute (unop%Wo 0) "append" n1) [e] [] d6) none pos.line X.env=pure false:=by rfl):
  gP X (.Expr (.Call (.Attribute (unop%Wo 0) "append" n1) [e] [] d6) pos) (q7 c i j g):=
 hX (Aj (xJ wY PySem.F.slot_list_append PySem.F.type_list_append S5 (r5 bg af) (fu he hJ aoV) nd rj nf aoV ro) pj) λD σ H ⟨aK,aY,O,F,ai,o,r,e,b5⟩=>by
 simp only[q7,cm] at e;obtain⟨t,bY,ts,jF,e⟩:=e;split at e
 next hz=>
  simp only[dO] at e;obtain⟨ε',es,rfl⟩:=e;obtain⟨m,aE,aJ,aA⟩:=Tc jF;obtain⟨a,vs,bF,v,ah,hx,aG,aC,bh,⟨b,us,dW,af,ff⟩,_⟩:=pW k r aJ aA bU;subst dW;refine⟨_,ah,a,C,bF,_,_,rfl,hx,k.cls,mR k bU,aG,.inl ⟨rfl,_,fG.of af⟩,aK,aY,O,F,ai,t,r,bY,λv ba H1 aU aQ=>?_⟩;have bk:=r.ext aU;obtain⟨a1,apb,an2,v1,BE,Iz,sO,BI,Qi,⟨b6,Rp,Z4,uA,wI⟩,_⟩:=pW k bk aJ aA bU;rw[ah] at BE;cases BE;have ev:apb=vs:=by rw[<- BI.vals,<- (aC.keep ((aU.same.get hx).trans hx.symm)).vals]
  subst ev;rw[bh] at Qi;cases Qi;cases Z4;obtain⟨aF,b4⟩:=bk.Cv (s':=.own (ts++[t])) (o':=.lst (Rp++[v])) aJ ah BI es aA bh (by simp[d2,i6]) rfl λaF=>⟨b,_,rfl,dV,(wI.aF aF).append (bH.cons (aQ.aF aF) bH.nil)⟩;exact⟨b,Rp,v,rfl,rfl,uA,by rw[ma,<- wI.length];exact hz,b5 σ ba _ (aU.aF.trans aF) b4⟩
 next=>cases e
def amn(k:hq X.K c C ns)(b8:X.A.units+1<cLine)(bg:b0 X o (g4 i)){uZ:Pos}(aC:eB X a h)(he:cT X e g)(bU:ns[j]?=some f:=by rfl)(af:ki o f X.env (eval o X.env)=eval o X.env:=by rfl)
  (aA:kP e (some (.Subscript (unop%Wo 0) a uZ)) pos.line X.env=pure false:=by rfl):
  gP X (.Assign [.Subscript (unop%Wo 0) a uZ] e pos) (tL c i j h g):=hX (alw b8 (r5 bg af) aC he aA) λD σ H ⟨aK,aY,O,F,ai,o,r,e,b5⟩=>by
 simp only[tL,cm] at e;obtain⟨v,ev,t,bY,key,gn,kvs,hb,e⟩:=e;split at e
 next hz=>
  simp only[dO] at e;obtain⟨ε',es,rfl⟩:=e;obtain⟨m,aE,aJ,aA⟩:=Ej hb;refine⟨aK,aY,O,F,ai,v,r,ev,λLF ba H1 aU aQ=>?_⟩;have bk:=r.ext aU;obtain⟨a,vs,bF,w,ah,hx,aG,aC,bh,⟨b,us,dW,af,ff⟩,_⟩:=pW k bk aJ aA bU;subst dW;refine⟨_,ah,a,C,bF,_,_,rfl,hx,k.cls,mR k bU,aG,aK,aY,O,ba,ai,t,bk,bY,λvt dC bB bP bu=>?_⟩;have b4:=bk.ext bP;have HX:iM bB a c vs:=aC.keep ((bP.same.get hx).trans hx.symm);have La:=en.aF (bP.aF (K:=X.K)) ff;obtain⟨aF,jN⟩:=b4.Cv (s':=.h4 (putD kvs key v)) (o':=.fy (putK us key LF)) aJ ah HX es aA bh (by simp[d2,i6]) rfl λaF=>⟨b,_,rfl,dV,en.put (en.aF aF La) ((aQ.ext bP).aF aF)⟩;refine⟨b,_,rfl,?_,b5 σ dC _ ((aU.trans bP).aF.trans aF) jN⟩;rw[vE gn bu];exact tY.k (bP.same.get af) (by rw[ma,<- ff.length];exact hz)
 next=>cases e
def alo(k:hq X.K c C ns)(b8:X.A.units+1<cLine)(bg:b0 X o (g4 i)){uZ:Pos}(aC:eB X a h)(he:cT X e g)(bU:ns[j]?=some f:=by rfl)(af:ki o f X.env (eval o X.env)=eval o X.env:=by rfl)
  (_y:∀fe k8 new,augStore a fe k8 new=(do holding [new,fe,k8] (setItem fe k8 new);release [new,fe,k8] [];pure .next):=by intros;rfl):
  gP X (.AugAssign (.Subscript (unop%Wo 0) a uZ) .Add e pos) (tR c i j h g):=hX (alx b8 (r5 bg af) aC he Vj _y) λD σ H ⟨aK,aY,O,F,ai,o,r,e,b5⟩=>by
 simp only[tR,cm] at e;obtain⟨t,bY,key,gn,kvs,hb,x,lP,y,fN,z,uq,e⟩:=e;split at e
 next hz=>
  simp only[dO] at e;obtain⟨ε',es,rfl⟩:=e;obtain⟨p,q,rfl,rfl,rfl⟩:=Tw uq;obtain⟨m,aE,aJ,aA⟩:=Ej hb;obtain⟨a,vs,bF,w,ah,hx,aG,aC,bh,⟨b,us,dW,af,ff⟩,_⟩:=pW k r aJ aA bU;subst dW;refine⟨_,ah,a,C,bF,_,_,rfl,hx,k.cls,mR k bU,aG,aK,aY,O,F,ai,t,r,bY,λvt ba H1 aU aQ=>?_⟩;have bk:=r.ext aU;have wI:=en.aF (aU.aF (K:=X.K)) ff;have uA:=aU.same.get af;obtain⟨w,hw,l2⟩:=wI.get lP;have o_:w=.int p:=by simpa [Rep] using l2
  subst o_;refine⟨b,_,rfl,by rw[vE gn aQ,<- hw];exact sb.k uA,aK,aY,O,ba,ai,_,bk,fN,λLF dC bB bP bu=>?_⟩;have ev:LF=.int q:=by simpa [Rep] using bu
  subst ev;refine⟨p,q,rfl,rfl,?_⟩;have b4:=bk.ext bP;have rJ:=aU.trans bP;have HX:iM bB a c vs:=aC.keep ((rJ.same.get hx).trans hx.symm);have La:=en.aF (rJ.aF (K:=X.K)) ff;obtain⟨aF,jN⟩:=b4.Cv (s':=.h4 (putD kvs key (.int (p+q)))) (o':=.fy (putK us key (.int (p+q)))) aJ ah HX es aA bh (by simp[d2,i6]) rfl λaF=>⟨b,_,rfl,dV,en.put (en.aF aF La) (by simp[Rep])⟩;refine⟨_,?_,b5 σ dC _ (rJ.aF.trans aF) jN⟩;rw[vE gn aQ];exact tY.k (rJ.same.get af) (by rw[ma,<- ff.length];exact hz)
 next=>cases e
end
end
section
variable [cB]
noncomputable def tT(K:bc)(F:ak->Prop)(H:aB)(σ:bA.St):List pZ->List aO->List V->Prop
| [],[],[]=>True
|.v _::as,s::ss,v::vs=>(∃t,s=.aa t/\Rep K F H t v)/\tT K F H σ as ss vs
|.o i::as,s::ss,v::vs=>σ[i]?=some (some v)/\tT K F H σ as ss vs
|_,_,_=>False
noncomputable def af9(K:bc)(as:List pZ):gk:=λσ H Q=>∃aK E O F ai ss,cN K aK E O F H ai σ/\sr as ai=some ss/\∀vs aD ag,Ext F H aD ag->tT K aD ag σ as ss vs->Q vs ag
abbrev AU(X:a3)(es:List bx)(as:List pZ):Prop:=gj X es (af9 X.K as)
def VI{X:a3}{e:List bx}{t t':gk}(h:gj X e t)(k:∀σ H Q,t' σ H Q->t σ H Q):gj X e t':=AD h k
section
variable {X:a3}{e:bx}{es:List bx}{as:List pZ}{f:bZ}{i:Nat}
def NV:AU X [] []:=VI hJ<|by
 rintro σ H Q ⟨aK,E,O,F,ai,ss,r,e,k⟩
 cases e
 exact k [] F H (Ext.refl r.b') trivial
def nZ(ah:cT X e f)(ar:AU X es as)(aA:bl (e::es) X.env=(false,eval e X.env)::bl es X.env:=by rfl):AU X (e::es) (.v f::as):=VI (fu ah ar aA)<|by
 rintro σ H Q ⟨aK,E,O,F,ai,ss,r,e,k⟩
 simp only[sr,cm,dO] at e;obtain⟨t,bY,us,gU,rfl⟩:=e;exact⟨aK,E,O,F,ai,t,r,bY,λv ba H1 aU aQ=>⟨aK,E,O,ba,ai,us,r.ext aU,gU,λvs dC bB bP bu=>k _ dC bB (aU.trans bP) ⟨⟨t,rfl,aQ.ext bP⟩,bu⟩⟩⟩
def ajJ{ai:Ev}{s:aO}(h:KP i ai=some s):∃m c aE,s=.obj m c aE/\ai[i]?=some (some s):=by
 unfold KP at h;split at h
 next m c aE e=>
  cases h
  exact⟨m,c,aE,rfl,e⟩
 next=>cases h
end
noncomputable def AJ(K:bc)(F:ak->Prop)(H:aB)(ss:List aO)(vs:List V):Prop:=Paired (λs v=>s.jm=false/\ed K ⟨H,0⟩ (λa=>H a=none) F H s v) ss vs
noncomputable def Q_(K:bc)(n:Nat)(d:List aO->Option T):kU:=λvs H Q _=>vs.length=n/\∃F ss t,fk F H/\AJ K F H ss vs/\d ss=some t/\∀v aD ag,Ext F H aD ag->Rep K aD ag t v->Q v ag
section
variable {K:bc}{F aD aK O:ak->Prop}{H ag:aB}{E mW:gi}
theorem Paired.get{α β:Type}{R:α->β->Prop}:∀{xs:List α} {ys:List β} {i:Nat} {x:α},Paired R xs ys->xs[i]?=some x->∃y,ys[i]?=some y/\R x y
|_,_,i,x,.nil,e=>by simp at e
|_,_,0,x,.cons r _,e=>by
  simp at e;subst e;exact⟨_,rfl,r⟩
|_,_,i+1,x,.cons _ t,e=>by
  obtain⟨y,ah,ar⟩:=Paired.get (i:=i) (x:=x) t (by simpa using e);exact⟨y,by simpa using ah,ar⟩
def z5{ss:List aO}{n i:Nat}{s:aO}(h:(lE n ss)[i]?=some (some s)):ss[i]?=some s:=by
 unfold lE at h;by_cases aP:i<ss.length
 ·rw[wR (by simpa using aP),kL,jv aP] at h;rw[jv aP];simpa using h
 ·rw[wQ (by simpa using aP),List.getElem?_replicate] at h;split at h <;> cases h
def SU{vs:List V}{n i:Nat}{v:V}(h:vs[i]?=some v):(vs.map some++dZ n none)[i]?=some (some v):=by
 have aP:=(g6.mp h).1;rw[wR (by simpa using aP),kL,h];rfl
def NX{m:jz}{c:Nat}{aE:List aO}{v:V}(r:ed K E O F H (.obj m c aE) v)(mW:gi)(oU:ak->Prop)(he:∀b∈dD H (.obj m c aE) v,mW.h b≠none):ed K mW oU F H (.obj .hC c aE) v:=by
 have cy:=r;obtain⟨a,vs,rfl,aC,hf,aS,gK,jK⟩:=r;rw[lD aC] at he;exact⟨a,vs,rfl,aC,hf,aS,λb af=>⟨(gK b af).1,he b af⟩,λz=>by cases z⟩
def R9{ss:List aO}{vs:List V}(b':fk F H)(q:AJ K F H ss vs)(n:Nat):cN K F ⟨H,0⟩ (λa=>H a=none) F H (lE n ss) (vs.map some++dZ (n - vs.length) none):=by
 have aG:ss.length=vs.length:=Paired.length q;refine⟨by simp[lE,aG],λi s e=>?_,λi j s u v w kC az aM d3=>?_,Ext.refl b',λ_ h=>h,λ_ h=>h⟩
 ·obtain⟨v,bh,_,bW⟩:=Paired.get q (z5 e);exact⟨v,SU bh,bW⟩
 ·obtain⟨_,_,z,_⟩:=Paired.get q (z5 az);rw[z] at d3;cases d3
theorem NU{ai:Ev}{σ:bA.St}(r:cN K aK E O F H ai σ):∀{as:List pZ} {ss:List aO} {vs:List V},sr as ai=some ss->tT K F H σ as ss vs->AJ K F H (ss.map Ld) vs
| [],ss,vs,e,h=>by
  cases e
  cases vs with
  |nil=>exact .nil
  |cons v vs=>exact h.elim
|.v f::as,ss,vs,e,h=>by
  simp only[sr,cm,dO] at e;obtain⟨t,bY,us,gU,rfl⟩:=e;cases vs with
  |nil=>exact h.elim
  |cons v vs=>
   obtain⟨⟨t',bD,dn⟩,h⟩:=h;cases bD;exact .cons ⟨rfl,dn⟩ (NU r gU h)
|.o i::as,ss,vs,e,h=>by
  simp only[sr,cm,dO] at e;obtain⟨s,es,us,gU,rfl⟩:=e;cases vs with
  |nil=>exact h.elim
  |cons v vs=>
   obtain⟨bh,h⟩:=h;obtain⟨m,c,aE,rfl,aA⟩:=ajJ es;obtain⟨kJ,uK,rs⟩:=r.val i _ aA;rw[bh] at uK;cases uK;refine .cons ⟨rfl,NX rs _ _ λb af=>?_⟩ (NU r gU h);obtain⟨o,e,_⟩:=rs.at af;show H b≠none;rw[e];exact λz=>by cases z
theorem Uj:∀{ts:List T} {vs:List V},bH K F H ts vs->AJ K F H (ts.map .aa) vs
| [],vs,h=>by
  simp only[bH] at h;subst h;exact .nil
|t::ts,vs,h=>by
  simp only[bH] at h;obtain⟨v,z,rfl,q,h⟩:=h;exact .cons ⟨rfl,q⟩ (Uj h)
end
section
variable {P:cA}{w:b_}{K:bc}{mg:Str->Option aq}{base:bM}
def al8{x qual:Str}{st:Stmt}{f:ak}{fd:eo}{N ps:List Str}{k:Nat}{b:bJ}(F:cL K x qual st f fd)(S:cZ N ps (bR st))
  (af:∀(b1:aq) (A:cw) (outer:List Env) (s:aH) (H:aB) (E:fb),da k (unop%W5 0) ->
   j2 (unop%W3 0).d_ (fv st) b):
  e5 P w K mg base dH (k+1) f fd ps (Q_ K ps.length (l1 b N.length)):=by
 refine F.ok S (λvs H Q E h=>h.1) λb1 A outer s H vs Q E ay h=>⟨_,af b1 A outer s H E ay,?_⟩
 obtain⟨aG,F,ss,t,b',q,e,i2⟩:=h;simp only[l1,cm] at e;obtain⟨o,e1,e⟩:=e;refine⟨F,⟨H,0⟩,λa=>H a=none,F,_,o,?_,e1,?_⟩
 ·unfold bA.start;exact R9 b' q N.length
 ·cases o with
  |dn t'=>
   cases e
   exact λv aD ag x q=>i2 v aD ag x q
  |bI ε'=>
   cases e
   exact λck aD ag _ r=>i2 _ aD ag r.ent (by simp[Rep])
  |gR _=>cases e
  |cQ _=>cases e
  |l0 _ _=>cases e
  |mz _=>cases e
structure kv(P:cA)(w:b_)(K:bc)(mg:Str->Option aq)(base:bM)(C:ak)(m:Str)(k n:Nat)(d:List aO->Option T):Prop where
 ex:∃cp fd ps,e5 P w K mg base dH k cp fd ps (Q_ K n d)/\Meth K C m cp/\gh K fd ps []
theorem kv.mono{C:ak}{m:Str}{k n j:Nat}{d:List aO->Option T}(c:kv P w K mg base C m j n d)(h:j<=k):kv P w K mg base C m k n d:=by
 obtain⟨cp,fd,ps,F,r⟩:=c.ex;exact⟨cp,fd,ps,F.mono h,r⟩
def Ay{C:ak}{m qual:Str}{st:Stmt}{f:ak}{fd:eo}{N ps:List Str}{k:Nat}{b:bJ}(F:cL K m qual st f fd)(S:cZ N ps (bR st))(bd:gh K fd ps [])(gY:Meth K C m f)
  (af:∀(b1:aq) (A:cw) (outer:List Env) (s:aH) (H:aB) (E:fb),da k (unop%W5 0) ->
   j2 (unop%W3 0).d_ (fv st) b):kv P w K mg base C m (k+1) ps.length (l1 b N.length):=⟨f,fd,ps,al8 F S af,gY,bd⟩
end
theorem Ag:∀{f_:List bZ} {ai:Ev} {us:List T},args f_ ai=some us->us.length=f_.length
| [],ai,us,e=>by
  cases e
  rfl
|g::f_,ai,us,e=>by
  simp only[args,cm,dO] at e;obtain⟨t,_,vs,ev,rfl⟩:=e;simp[Ag ev]
theorem tT.len{K:bc}{F:ak->Prop}{H:aB}{σ:bA.St}:∀{as:List pZ} {ss:List aO} {vs:List V},tT K F H σ as ss vs->vs.length=as.length
| [],[],[],_=>rfl
|.v _::as,s::ss,v::vs,h=>by simp[tT.len h.2]
|.o i::as,s::ss,v::vs,h=>by simp[tT.len h.2]
| [],[],_::_,h=>h.elim
| [],_::_,_,h=>h.elim
|.v _::_,[],_,h=>h.elim
|.v _::_,_::_,[],h=>h.elim
|.o _::_,[],_,h=>h.elim
|.o _::_,_::_,[],h=>h.elim
section
variable {X:a3}{k n c C i:Nat}{ns:List Str}{d:List aO->Option T}{x m:Str}{p pos apos:Pos}{o e:bx}{es:List bx}{as:List pZ}{aE:List bZ}
def Ai(hA:hq X.K c C ns)(mV:kv X.prog X.w X.K X.mg X.base C m k n d)(ay:da k X.A)(bg:b0 X o (g4 i))(aC:nX X (e::es) aE){pl:Sem Bool}(hm:m∉ns:=by decide +kernel)(aG:aE.length+1=n:=by rfl)
  (hy:bl (e::es) X.env=(false,eval e X.env)::bl es X.env:=by rfl) (hpl:(unop%Wy 0).any (·.1)=false:=by rfl)
  (bp:eval (unop%WO 0) X.env=(do
   let fe <- eval o X.env
   standAt apos.atName
   let (f,first) <- holding [fe] (getMethod fe m pl)
   callWith pos f first (c' pos (bl (e::es) X.env)) (fT pos (fS [] X.env))):=by rfl):cT X (unop%WO 0) (aoT c d i aE):=by
 obtain⟨cp,fd,ps,F,gY,b⟩:=mV.ex;refine eu (Ur bg hA.cls gY F ay b .nil vO aC hy hpl bp) λσ H Q hqq=>?_;obtain⟨aK,E,O,F,ai,t,r,e,k⟩:=hqq;simp only[aoT,cm] at e;obtain⟨⟨uP,os⟩,aJ,ts,bY,hb⟩:=e;obtain⟨a,vs,bF,ah,hx,_⟩:=r6 hA r aJ;refine⟨_,ah,a,bF,_,rfl,hx,zQ hm,aK,E,O,F,ai,ts,r,bY,λws ba H1 aU q=>⟨?_,ba,_,t,aU.b',?_,hb,λv aD ag bP bu=>k v aD ag (aU.trans bP) bu⟩⟩
 ·rw[kO,eX,<- q.length,Ag bY,aG]
 ·rw[kO];have bk:=r.ext aU;obtain⟨kJ,dN,rs⟩:=bk.val i _ (qG aJ);rw[ah] at dN;cases dN;refine .cons ⟨rfl,NX rs _ _ λb af=>?_⟩ (Uj q);obtain⟨o,e,_⟩:=rs.at af;show H1 b≠none;rw[e];exact λz=>by cases z
end
end
section
variable [cB]
open Classical in
noncomputable def ik(H:aB)(P:List ak)(a:ak):gi:=⟨λb=>if b∈P then none else H b,a⟩
section
variable {K:bc}{F aD aK O:ak->Prop}{H ag:aB}{E:gi}{P:List ak}{a b:ak}{o:ef}{ai:Ev}{σ:bA.St}{c i:Nat}{m:jz}{aE iu:List aO}
def Es(h:b∈P):(ik H P a).h b=none:=if_pos h
def apc(h:b∉P):(ik H P a).h b=H b:=if_neg h
def D5(h:(ik H P a).h b=none):b∈P\/H b=none:=by
 by_cases z:b∈P
 ·exact .inl z
 ·rw[apc z] at h;exact .inr h
def ai4(h:(ik H P a).h b=some o):b∉P/\H b=some o:=by
 by_cases z:b∈P
 ·rw[Es z] at h;cases h
 ·exact⟨z,by rw[apc z] at h;exact h⟩
def akX(d:fk F H):Ext F (ik H P a).h F H:=⟨λ_ _ q=>.inl (ai4 q).2,λ_ h=>h,λ_ h=>.inl h,d⟩
def alW{v:V}(r:ed K E O F H (.obj m c aE) (.ref a)):ed K (ik H (dD H (.obj m c aE) (.ref a)) a) (λb=>(ik H (dD H (.obj m c aE) (.ref a)) a).h b=none) F H (.obj .d9 c aE) (.ref a):=by
 obtain⟨mf,vs,e,aC,hf,aS,gK,jK⟩:=r;cases e;rw[lD aC];exact⟨a,vs,rfl,aC,hf,aS,λb af=>⟨(gK b af).1,Es af⟩,λ_=>rfl⟩
def cN.back(r:cN K aK E O F H ai σ)(e:ai[i]?=some (some (.obj m c aE)))(hm:m≠.hC)(ah:σ[i]?=some (some (.ref a)))(gW:P=dD H (.obj m c aE) (.ref a))(x:Ext F (ik H P a).h aD ag)
  (rs:ed K (ik H P a) (λb=>(ik H P a).h b=none) aD ag (.obj .d9 c iu) (.ref a)):ew K F H aD ag/\cN K aK E O aD ag (ai.set i (some (.obj m c iu))) σ:=by
 obtain⟨v,dN,kb⟩:=r.val i _ e;rw[ah] at dN;cases dN;have yH:(aO.obj m c aE).jm=true:=EO hm;have uM:∀b∈P,(∃o,H b=some o/\oR o)/\¬F b/\O b:=λb af=>by
  rw[gW] at af;exact⟨kb.at af,(kb.held af).1,(kb.held af).2.1 yH⟩
 have kc:∀b o,b∉P->H b=some o->(∀ps,o≠.iF ps)->ag b=some o:=λb o af e n=>x.same.get (by rw[apc af];exact e) n;have aF:ew K F H aD ag:=by
  refine⟨λb xs q=>?_,λb xs f q=>⟨x.sub b f,?_⟩⟩
  ·rcases q with q|q
   ·refine .inl ?_
    have nb:b∉P:=λz=>by
     obtain⟨⟨o,e1,aJ⟩,_⟩:=uM b z;rcases q with q|⟨_,q⟩ <;> (rw[e1] at q;cases q;exact aJ.cases (λ_ z=>by cases z) (λ_ z=>by cases z) (λ_ _ _ z=>by cases z))
    rcases q with q|⟨u,q⟩
    ·exact .inl (kc b _ nb q λ_ z=>by cases z)
    ·exact .inr ⟨u,kc b _ nb q λ_ z=>by cases z⟩
   ·exact .inr q
  ·have nb:b∉P:=λz=>(uM b z).2.1 f;rcases q with q|⟨u,q⟩
   ·exact .inl (kc b _ nb q λ_ z=>by cases z)
   ·exact .inr ⟨u,kc b _ nb q λ_ z=>by cases z⟩
 have QH:∀b,aD b->F b\/b∈P\/H b=none:=λb f=>by
  rcases x.new b f with z|z
  ·exact .inl z
  ·exact .inr (D5 z)
 have keep:∀(j:Nat) (u:aO) (w:V),i≠j->ai[j]?=some (some u)->σ[j]?=some (some w)->ed K E O F H u w->(∀b∈dD H u w,b∉P)/\ed K E O aD ag u w/\dD ag u w=dD H u w:=by
  intro j u w kC uk bU c1;have uR:∀b∈dD H u w,b∉P:=λb af z=>by
   cases sX:u.jm with
   |true=>exact r.ne i j _ u _ w kC e uk yH sX ah bU b (gW▸z) af
   |false=>exact (c1.held af).2.2 sX (r.o0 b (uM b z).2.2)
  refine⟨uR,c1.keep aF (λb af=>?_) (λb af f=>?_) λ_ _ o=>o⟩
  ·obtain⟨o,e1,aJ⟩:=c1.at af;rw[e1];exact kc b o (uR b af) e1 λps z=>by subst z;exact aJ.cases (λ_ z=>by cases z) (λ_ z=>by cases z) (λ_ _ _ z=>by cases z)
  ·rcases QH b f with z|z|z
   ·exact z
   ·exact absurd z (uR b af)
   ·obtain⟨o,e1,_⟩:=c1.at af;rw[z] at e1;cases e1
 obtain⟨mf,vs,ea,aC,hf,aS,gK,_⟩:=rs;cases ea;have k6:∀b∈a::dt iu vs,¬aD b/\(b∈P\/H b=none):=λb af=>by
  obtain⟨n,q⟩:=gK b af;exact⟨n,D5 q⟩
 have aoq:(aO.obj m c iu).jm=true:=EO hm;have abX:m=.d9->a=E.jK:=by
  obtain⟨_,_,bO,_,_,_,_,jK⟩:=kb;cases bO;exact jK
 have adZ:∀b,¬aD b/\O b->x2 E O aD m b:=λb h=>by
  cases m with
  |hC=>exact absurd rfl hm
  |own=>exact h
  |d9=>exact h
 have zh:ed K E O aD ag (.obj m c iu) (.ref a):=⟨a,vs,rfl,aC,hf,aS,λb af=>adZ b ⟨(k6 b af).1,by
  rcases (k6 b af).2 with z|z
  ·exact (uM b z).2.2
  ·exact r.fr b z⟩,abX⟩
 have j8:dD ag (.obj m c iu) (.ref a)=a::dt iu vs:=lD aC;have apart:∀(j:Nat) (u:aO) (w:V),i≠j->ai[j]?=some (some u)->σ[j]?=some (some w)->ed K E O F H u w->∀b∈dD ag (.obj m c iu) (.ref a),b∉dD H u w:=λj u w kC uk bU c1 b af j7=>by
  rw[j8] at af;rcases (k6 b af).2 with z|z
  ·exact (keep j u w kC uk bU c1).1 b j7 z
  ·obtain⟨o,e1,_⟩:=c1.at j7;rw[z] at e1;cases e1
 refine⟨aF,⟨by simp[r.len],λj u bD=>?_,λj k u w fg nu qh az aM d3 eE aQ bu=>?_,⟨λb o q=>?_,λb f=>x.sub b (r.ent.sub b f),λb f=>?_,x.b'⟩,r.o0,λb bD=>?_⟩⟩
 ·rcases oK bD with ⟨rfl,ra,aG⟩|⟨ne,ra⟩
  ·cases ra
   exact⟨_,ah,zh⟩
  ·obtain⟨w,ar,c1⟩:=r.val j u ra;exact⟨w,ar,(keep j u w ne ra ar c1).2.1⟩
 ·rcases oK az with ⟨rfl,bD,aG⟩|⟨ne1,kZ⟩
  ·rcases oK aM with ⟨rfl,_,_⟩|⟨ne2,h5⟩
   ·exact absurd rfl qh
   ·cases bD
    rw[ah] at aQ;cases aQ;obtain⟨dh,ar,c1⟩:=r.val k w h5;rw[bu] at ar;cases ar;rw[(keep k w nu ne2 h5 bu c1).2.2];exact apart k w nu ne2 h5 bu c1
  ·obtain⟨v1,ar,bk⟩:=r.val j u kZ;rw[aQ] at ar;cases ar;rw[(keep j u fg ne1 kZ aQ bk).2.2];rcases oK aM with ⟨rfl,bD,aG⟩|⟨ne2,h5⟩
   ·cases bD
    rw[ah] at bu;cases bu;intro b af j7;exact apart j u fg ne1 kZ aQ bk b j7 af
   ·obtain⟨dh,br,b4⟩:=r.val k w h5;rw[bu] at br;cases br;rw[(keep k w nu ne2 h5 bu b4).2.2];exact r.ne j k u w fg nu qh kZ h5 d3 eE aQ bu
 ·have nb:b∉P:=λz=>by
   rw[r.o0 b (uM b z).2.2] at q;cases q
  rcases r.ent.same b o q with z|⟨ps,apn,az,z⟩
  ·exact x.same b o (by rw[apc nb];exact z)
  ·rcases x.same b _ (by rw[apc nb];exact z) with gB|⟨_,zc,_,gB⟩
   ·exact .inr ⟨ps,apn,az,gB⟩
   ·exact .inr ⟨ps,zc,az,gB⟩
 ·rcases QH b f with z|z|z
  ·exact r.ent.new b z
  ·exact .inr (r.o0 b (uM b z).2.2)
  ·exact .inr (r.o0 b (r.fr b z))
 ·rcases D5 (x.same.none bD) with z|z
  ·exact (uM b z).2.2
  ·exact r.fr b z
end
noncomputable def zq(K:bc)(n c p:Nat)(d:List aO->Option (T×List aO)):kU:=λvs H Q _=>vs.length=n/\∃(F:ak->Prop) (ss:List aO) (a:ak) (P:List ak) (aE:List aO) (r:T×List aO),fk F H/\vs[p]?=some (.ref a)/\ss[p]?=some (.obj .d9 c aE) /\
 Paired (λs v=>ed K (ik H P a) (λb=>(ik H P a).h b=none) F H s v) ss vs/\(∀q s,q≠p->ss[q]?=some s->s.jm=false)/\d ss=some r /\
 ∀v aD ag,Ext F (ik H P a).h aD ag->Rep K aD ag r.1 v->ed K (ik H P a) (λb=>(ik H P a).h b=none) aD ag (.obj .d9 c r.2) (.ref a)->Q v ag
section
variable {P:cA}{w:b_}{K:bc}{mg:Str->Option aq}{base:bM}
def aip{c p:Nat}{ai:Ev}{aE:List aO}(h:qN c p ai=some aE):ai[p]?=some (some (.obj .d9 c aE)):=by
 unfold qN at h;split at h
 next bX iu e=>
  split at h
  next aw=>
   cases h
   rw[e,aw]
  next=>cases h
 next=>cases h
def UC{x qual:Str}{st:Stmt}{f:ak}{fd:eo}{N ps:List Str}{k c p:Nat}{b:bJ}(F:cL K x qual st f fd)(S:cZ N ps (bR st))
  (af:∀(b1:aq) (A:cw) (outer:List Env) (s:aH) (H:aB) (E:fb),da k (unop%W5 0) ->
   j2 (unop%W3 0).d_ (fv st) b):
  e5 P w K mg base dH (k+1) f fd ps (zq K ps.length c p (runM c p b N.length)):=by
 refine F.ok S (λvs H Q E h=>h.1) λb1 A outer s H vs Q E ay h=>⟨_,af b1 A outer s H E ay,?_⟩
 obtain⟨aG,F,ss,a,ao9,aE,r,b',bh,aA,q,aJ,e,i2⟩:=h;simp only[runM,cm] at e;obtain⟨o,e1,e⟩:=e;have hlen:ss.length=vs.length:=Paired.length q;refine⟨F,ik H ao9 a,λb=>(ik H ao9 a).h b=none,F,_,o,?_,e1,?_⟩
 ·unfold bA.start;refine⟨by simp[lE,hlen],λi s e=>?_,λi j s u v w kC az aM d3 eE=>?_,akX b',λ_ h=>h,λb af=>?_⟩
  ·obtain⟨v,bh,bW⟩:=Paired.get q (z5 e);exact⟨v,SU bh,bW⟩
  ·by_cases aP:i=p
   ·subst aP;rw[aJ j u (Ne.symm kC) (z5 aM)] at eE;cases eE
   ·rw[aJ i s aP (z5 az)] at d3;cases d3
  ·by_cases z:b∈ao9
   ·exact Es z
   ·exact (apc z).trans af
 ·have fin:∀{ε':Ev} {ck:bA.St} {aD:ak->Prop} {ag:aB} {iu:List aO},cN K F (ik H ao9 a) (λb=>(ik H ao9 a).h b=none) aD ag ε' ck->qN c p ε'=some iu->ed K (ik H ao9 a) (λb=>(ik H ao9 a).h b=none) aD ag (.obj .d9 c iu) (.ref a):=λcy jF=>by
   obtain⟨kJ,_,rs⟩:=cy.val p _ (aip jF);have zh:=rs;obtain⟨mf,_,rfl,_,_,_,_,jK⟩:=rs;have:mf=a:=jK rfl;subst this;exact zh
  cases o with
  |dn t'=>cases e
  |bI ε'=>
   simp only[dO] at e;obtain⟨iu,jF,rfl⟩:=e;exact λck aD ag _ cy=>i2 _ aD ag cy.ent (by simp[Rep]) (fin cy jF)
  |gR _=>cases e
  |cQ _=>cases e
  |l0 t ε'=>
   simp only[dO] at e;obtain⟨iu,jF,rfl⟩:=e;exact λv ck aD ag cy bW=>i2 v aD ag cy.ent bW (fin cy jF)
  |mz _=>cases e
structure dr(P:cA)(w:b_)(K:bc)(mg:Str->Option aq)(base:bM)(C:ak)(c:Nat)(m:Str)(k n:Nat)(d:List aO->Option (T×List aO)):Prop where
 ex:∃cp fd ps,e5 P w K mg base dH k cp fd ps (zq K n c 0 d)/\Meth K C m cp/\gh K fd ps []
theorem dr.mono{C:ak}{c:Nat}{m:Str}{k n j:Nat}{d:List aO->Option (T×List aO)}(h:dr P w K mg base C c m j n d)(bU:j<=k):dr P w K mg base C c m k n d:=by
 obtain⟨cp,fd,ps,F,r⟩:=h.ex;exact⟨cp,fd,ps,F.mono bU,r⟩
def kl{C:ak}{m qual:Str}{st:Stmt}{f:ak}{fd:eo}{N ps:List Str}{k c:Nat}{b:bJ}(F:cL K m qual st f fd)(S:cZ N ps (bR st))(bd:gh K fd ps [])(gY:Meth K C m f)
  (af:∀(b1:aq) (A:cw) (outer:List Env) (s:aH) (H:aB) (E:fb),da k (unop%W5 0) ->
   j2 (unop%W3 0).d_ (fv st) b):dr P w K mg base C c m (k+1) ps.length (runM c 0 b N.length):=⟨f,fd,ps,UC F S af,gY,bd⟩
end
noncomputable def zv(K:bc)(f:jg):TE:=λσ H Q=>∃aK E O F ai t ε',cN K aK E O F H ai σ/\f ai=some (t,ε')/\∀v aD ag,ew K F H aD ag->cN K aK E O aD ag ε' σ->Rep K aD ag t v->Q v ag
abbrev m2(X:a3)(e:bx)(f:jg):Prop:=b0 X e (zv X.K f)
section
variable {X:a3}{k n c C i:Nat}{ns:List Str}{d:List aO->Option (T×List aO)}{x m:Str}{p pos apos:Pos}{o e:bx}{es:List bx}{aE f_:List bZ}{yn:jg}
theorem Nl{K:bc}{E:gi}{O F:ak->Prop}{H:aB}:∀{ts:List T} {vs:List V},bH K F H ts vs->Paired (λs v=>ed K E O F H s v) (ts.map .aa) vs
| [],vs,h=>by
  simp only[bH] at h;subst h;exact .nil
|t::ts,vs,h=>by
  simp only[bH] at h;obtain⟨v,z,rfl,q,h⟩:=h;exact .cons q (Nl h)
def UB{ts:List T}{q:Nat}{s:aO}(h:(ts.map aO.aa)[q]?=some s):s.jm=false:=by
 rw[kL] at h;cases e:ts[q]? with
|none=>rw[e] at h;cases h
|some t=>rw[e] at h;cases h;rfl
def TU{σ:bA.St}{H H1:aB}{aK O F ba:ak->Prop}{E:gi}{ai:Ev}{uP:jz}{os:List aO}{a:ak}{Q:c3}{ws:List V}{ts:List T}{r:T×List aO}(rE:cN X.K aK E O F H ai σ)(aJ:i5 c i ai=some (uP,os))(hm:uP≠.hC)(ah:σ[i]?=some (some (.ref a)))
  (aU:Ext F H ba H1) (q:bH X.K ba H1 ts ws) (hb:d (.obj .d9 c os::ts.map .aa)=some r) (aG:ts.length+1=n)
  (b5:∀v aD ag,ew X.K F H aD ag->cN X.K aK E O aD ag (ai.set i (some (.obj uP c r.2))) σ->Rep X.K aD ag r.1 v->Q v ag):zq X.K n c 0 d (.ref a::ws) H1 Q ku:=by
 have bk:=rE.ext aU;obtain⟨kJ,dN,rs⟩:=bk.val i _ (qG aJ);rw[ah] at dN;cases dN;refine⟨by simp[<- q.length,aG],ba,_,a,dD H1 (.obj uP c os) (.ref a),os,r,aU.b',rfl,rfl,.cons (alW (v:=.ref a) rs) (Nl q),λj s bU aA=>?_,hb,λv aD ag bP bW ae3=>?_⟩
 ·cases j with
  |zero=>exact absurd rfl bU
  |succ j=>exact UB (q:=j) (by simpa using aA)
 ·obtain⟨aF,b4⟩:=bk.back (qG aJ) hm ah rfl bP ae3;exact b5 v aD ag (aU.aF.trans aF) b4 bW
def fU(hA:hq X.K c C ns)(mV:dr X.prog X.w X.K X.mg X.base C c m k n d)(ay:da k X.A)(bg:b0 X o (g4 i))(aC:nX X (e::es) aE){pl:Sem Bool}(hm:m∉ns:=by decide +kernel)(aG:aE.length+1=n:=by rfl)
  (hy:bl (e::es) X.env=(false,eval e X.env)::bl es X.env:=by rfl) (hpl:(unop%Wy 0).any (·.1)=false:=by rfl)
  (bp:eval (unop%WO 0) X.env=(do
   let fe <- eval o X.env
   standAt apos.atName
   let (f,first) <- holding [fe] (getMethod fe m pl)
   callWith pos f first (c' pos (bl (e::es) X.env)) (fT pos (fS [] X.env))):=by rfl):m2 X (unop%WO 0) (dR c d i aE):=by
 obtain⟨cp,fd,ps,F,gY,b⟩:=mV.ex;refine eu (Ur bg hA.cls gY F ay b .nil vO aC hy hpl bp) λσ H Q hqq=>?_;obtain⟨aK,E,O,F,ai,t,ε',r,e,b5⟩:=hqq;simp only[dR,cm] at e;obtain⟨⟨uP,os⟩,aJ,e⟩:=e;split at e
 next=>cases e
 next Ig=>
  simp only[cm,dO] at e;obtain⟨ts,bY,cy,hb,e⟩:=e;cases e;obtain⟨a,vs,bF,ah,hx,_⟩:=r6 hA r aJ;refine⟨_,ah,a,bF,_,rfl,hx,zQ hm,aK,E,O,F,ai,ts,r,bY,λws ba H1 aU q=>?_⟩;show zq X.K n c 0 d (V.ref a::(ws++[])) H1 Q ku;rw[kO];exact TU r aJ Ig ah aU q hb (by rw[Ag bY,aG]) b5
def vx(hA:hq X.K c C ns)(mV:dr X.prog X.w X.K X.mg X.base C c m k n d)(ay:da k X.A)(bg:b0 X o (g4 i)){pl:Sem Bool}(hm:m∉ns:=by decide +kernel)(aG:1=n:=by rfl)
  (bp:eval (unop%WU 0) X.env=(do
   let fe <- eval o X.env
   standAt apos.atName
   let (f,first) <- holding [fe] (getMethod fe m pl)
   callWith pos f first (c' pos (bl [] X.env)) (fT pos (fS [] X.env))):=by rfl):m2 X (unop%WU 0) (dR c d i []):=by
 obtain⟨cp,fd,ps,F,gY,b⟩:=mV.ex;refine eu (TP bg hA.cls gY F ay b .nil vO bp) λσ H Q hqq=>?_;obtain⟨aK,E,O,F,ai,t,ε',r,e,b5⟩:=hqq;simp only[dR,cm] at e;obtain⟨⟨uP,os⟩,aJ,e⟩:=e;split at e
 next=>cases e
 next Ig=>
  simp only[cm,dO] at e;obtain⟨ts,bY,cy,hb,e⟩:=e;cases e;cases bY;obtain⟨a,vs,bF,ah,hx,_⟩:=r6 hA r aJ;refine⟨_,ah,a,bF,_,rfl,hx,zQ hm,?_⟩;exact TU r aJ Ig ah (Ext.refl r.b') bH.nil hb (by simpa using aG) b5
def eY(h:m2 X e yn)(pj:kP e none pos.line X.env=pure false:=by rfl):gP X (.Expr e pos) (dX yn):=hX (Aj h pj)<|by
 rintro D σ H ⟨aK,E,O,F,ai,o,r,e,k⟩
 simp only[dX,dO] at e;obtain⟨⟨t,ε'⟩,bY,rfl⟩:=e;exact⟨aK,E,O,F,ai,t,ε',r,bY,λv aD ag aF cy _=>k σ aD ag aF cy⟩
def Nj:gP X (.Return none pos) ao0:=hX alv<|by
 rintro D σ H ⟨aK,E,O,F,ai,o,r,e,k⟩
 cases e
 exact k .dT σ F H r (by simp[Rep])
def Uh{st:Stmt}:gP X st r_:=by rintro ao s σ H D I ⟨aK,E,O,F,ai,o,r,e,k⟩;cases e
end
end
section
variable [cB]
noncomputable def tO(K:bc)(f:se):TE:=λσ H Q=>∃aK E O F ai s,cN K aK E O F H ai σ/\f ai=some s/\∀a aD ag,Ext F H aD ag->ed K E O aD ag s (.ref a)->(∀b∈dD ag s (.ref a),H b=none)->Q (.ref a) ag
abbrev x3(X:a3)(e:bx)(f:se):Prop:=b0 X e (tO X.K f)
noncomputable def Q9(K:bc)(n:Nat)(d:List T->Option aO):kU:=λvs H Q _=>vs.length=n/\∃F ts s,fk F H/\bH K F H ts vs/\d ts=some s/\∀a aD ag,Ext F H aD ag->ed K ⟨H,0⟩ (λb=>H b=none) aD ag s (.ref a)->Q (.ref a) ag
def S1{s t:aO}(h:CH s=some t):∃c os,s=.obj .own c os/\t=.obj .own c os:=by
 unfold CH at h;split at h
 ·cases h
  exact⟨_,_,rfl,rfl⟩
 ·cases h
section
variable {P:cA}{w:b_}{K:bc}{mg:Str->Option aq}{base:bM}
def al9{x qual:Str}{st:Stmt}{f:ak}{fd:eo}{N ps:List Str}{k:Nat}{b:bJ}(F:cL K x qual st f fd)(S:cZ N ps (bR st))
  (af:∀(b1:aq) (A:cw) (outer:List Env) (s:aH) (H:aB) (E:fb),da k (unop%W5 0) ->
   j2 (unop%W3 0).d_ (fv st) b):
  e5 P w K mg base dH (k+1) f fd ps (Q9 K ps.length (uY b N.length)):=by
 refine F.ok S (λvs H Q E h=>h.1) λb1 A outer s H vs Q E ay h=>⟨_,af b1 A outer s H E ay,?_⟩
 obtain⟨aG,F,ts,t,b',q,e,i2⟩:=h;simp only[uY,cm] at e;obtain⟨o,e1,e⟩:=e;refine⟨F,⟨H,0⟩,λa=>H a=none,F,_,o,?_,e1,?_⟩
 ·have:=Mr (N:=N) b' q (N.length - ts.length);unfold bA.start;rw[q.length] at this ⊢;exact this
 ·cases o with
  |mz s=>
   obtain⟨c,os,rfl,rfl⟩:=S1 e;exact λa aD ag x rs=>i2 a aD ag x rs
  |bI ε'=>cases e
  |gR _=>cases e
  |cQ _=>cases e
  |l0 _ _=>cases e
  |dn _=>cases e
structure ao2(P:cA)(w:b_)(K:bc)(mg:Str->Option aq)(base:bM)(x:Str)(k n:Nat)(d:List T->Option aO):Prop where
 ex:∃cp fd ps,e5 P w K mg base dH k cp fd ps (Q9 K n d)/\mg x=some (.ref cp)/\nx K (.ref cp)=true/\gh K fd ps []
theorem ao2.mono{x:Str}{k n j:Nat}{d:List T->Option aO}(c:ao2 P w K mg base x j n d)(h:j<=k):ao2 P w K mg base x k n d:=by
 obtain⟨cp,fd,ps,F,r⟩:=c.ex;exact⟨cp,fd,ps,F.mono h,r⟩
def ana{x:Str}{st:Stmt}{f:ak}{fd:eo}{N ps:List Str}{k:Nat}{b:bJ}(F:cL K x x st f fd)(S:cZ N ps (bR st))(bd:gh K fd ps [])(m:mg x=some (.ref f))
  (af:∀(b1:aq) (A:cw) (outer:List Env) (s:aH) (H:aB) (E:fb),da k (A.deeper (envOfC x (bR st) s.heap.objs.size f b1)) ->
   j2 (fx dH P w K mg base N x (bR st) f b1 A outer s H E).d_ (fv st) b):ao2 P w K mg base x (k+1) ps.length (uY b N.length):=⟨f,fd,ps,al9 F S af,m,F.aF,bd⟩
structure tW(P:cA)(w:b_)(K:bc)(mg:Str->Option aq)(base:bM)(x:Str)(C:ak)(c k n:Nat)(d:List aO->Option (T×List aO)):Prop where
 ex:∃cp fd ps,e5 P w K mg base dH k cp fd ps (zq K n c 0 d)/\xW K C cp/\mg x=some (.ref C)/\gh K fd ps []
theorem tW.mono{x:Str}{C:ak}{c k n j:Nat}{d:List aO->Option (T×List aO)}(h:tW P w K mg base x C c j n d)(bU:j<=k):tW P w K mg base x C c k n d:=by
 obtain⟨cp,fd,ps,F,r⟩:=h.ex;exact⟨cp,fd,ps,F.mono bU,r⟩
def amW{x:Str}{C:ak}{qual:Str}{st:Stmt}{f:ak}{fd:eo}{N ps:List Str}{k c:Nat}{b:bJ}(F:cL K "__init__" qual st f fd)(S:cZ N ps (bR st))(bd:gh K fd ps [])(gY:xW K C f)(m:mg x=some (.ref C))
  (af:∀(b1:aq) (A:cw) (outer:List Env) (s:aH) (H:aB) (E:fb),da k (unop%W5 0) ->
   j2 (unop%W3 0).d_ (fv st) b):tW P w K mg base x C c (k+1) ps.length (runM c 0 b N.length):=⟨f,fd,ps,UC F S af,gY,m,bd⟩
end
section
variable {X:a3}{k n c C i j:Nat}{ns:List Str}{x m f:Str}{p pos apos:Pos}{o e:bx}{es:List bx}{aE:List bZ}{wh:se}
def Uk{K:bc}{E mW:gi}{O oU aD:ak->Prop}{ag:aB}{m:jz}{c:Nat}{os:List aO}{a:ak}(rs:ed K mW oU aD ag (.obj m c os) (.ref a))(hm:m≠.hC)(h:∀b,oU b->O b):ed K E O aD ag (.obj .own c os) (.ref a):=by
 obtain⟨mf,vs,e,aC,hf,aS,gK,_⟩:=rs;refine⟨mf,vs,e,aC,hf,aS,λb af=>⟨(gK b af).1,h b ?_⟩,λz=>by cases z⟩;have q:=(gK b af).2;cases m with
|hC=>exact absurd rfl hm
|own=>exact q
|d9=>exact q
def anJ{d:List aO->Option (T×List aO)}(hA:hq X.K c C ns)(mV:tW X.prog X.w X.K X.mg X.base x C c k n d)(ay:da (k+1) X.A)(aC:nX X (e::es) aE)(bq:ee X x:=by rfl)(aG:aE.length+1=n:=by rfl)(hg:(x==("__debug__":Str))=false:=by decide)
  (he:bl (e::es) X.env=(false,eval e X.env)::bl es X.env:=by rfl) (hpl:(unop%Wy 0).any (·.1)=false:=by rfl):x3 X (unop%WC 0) (Cy c d aE):=by
 obtain⟨cp,fd,ps,F,M,hm,b⟩:=mV.ex;refine eu (alE M F ay bq hm b .nil vO aC hg he hpl) λσ H Q hqq=>?_;obtain⟨aK,E,O,F,ai,s,r,e,b5⟩:=hqq;simp only[Cy,cm] at e;obtain⟨ts,bY,cy,hb,e⟩:=e;refine⟨aK,E,O,F,ai,ts,r,bY,λws ba H1 aU q=>λy bF a6 P1 dY=>?_⟩;rw[kO];have aaN:upd (upd H1 bF (.own y)) y (.ins C bF []) y=some (.ins C bF []):=dV;have n_:∀bB:aB,bB y=some (.ins C bF [])->iM bB y c []:=λbB e=>by
  refine⟨oE _,?_⟩
  rw[hA.o2];exact⟨bF,by simpa using e⟩
 have pv:∀b,b≠y->b≠bF->upd (upd H1 bF (.own y)) y (.ins C bF []) b=H1 b:=λb ah ar=>by rw[cS ah,cS ar]
 have kK:Ext ba H1 ba (upd H1 bF (.own y)):=Ext.laid aU.b' P1;have aaM:upd H1 bF (.own y) y=none:=by rw[cS (Ne.symm dY)];exact a6
 have qz:Ext ba H1 ba (upd (upd H1 bF (.own y)) y (.ins C bF [])):=kK.trans (Ext.laid kK.b' aaM);have Cx:¬ba y:=λz=>by
  obtain⟨o,e⟩:=aU.b' y z;rw[a6] at e;cases e
 split at e
 next oc=>
  cases e
  refine⟨by simp[<- q.length,Ag bY,aG],ba,.obj .d9 c []::ts.map .aa,y,[y],[],cy,qz.b',rfl,rfl,.cons ⟨y,[],rfl,n_ _ aaN,rfl,by simp[dt],λb af=>?_,λ_=>rfl⟩ (Nl (q.ext qz)),λj s bU aA=>?_,hb,λv aD ag bP bW rs=>?_⟩
  ·have:b=y:=by simpa [dt] using af
   subst this;exact⟨Cx,Es (by simp)⟩
  ·cases j with
   |zero=>exact absurd rfl bU
   |succ j=>exact UB (q:=j) (by simpa using aA)
  ·rw[oc] at bW;refine⟨by simpa [Rep] using bW,?_⟩;have KL:∀b,(ik (upd (upd H1 bF (.own y)) y (.ins C bF [])) [y] y).h b=none->H b=none:=λb af=>by
    rcases D5 af with z|z
    ·have:b=y:=by simpa using z
     rw[this];exact aU.same.none a6
    ·exact aU.same.none (qz.same.none z)
   have dm:Ext F H aD ag:=by
    refine⟨λb o q=>?_,λb z=>bP.sub b (aU.sub b z),λb z=>?_,bP.b'⟩
    ·have step:∀u,H1 b=some u->(ik (upd (upd H1 bF (.own y)) y (.ins C bF [])) [y] y).h b=some u:=λu az=>by
      have ey:b≠y:=λz=>by rw[z,a6] at az;cases az
      have fp:b≠bF:=λz=>by rw[z,P1] at az;cases az
      rw[apc (by simpa using ey),pv b ey fp];exact az
     rcases aU.same b o q with z|⟨ps,apn,az,z⟩
     ·exact bP.same b o (step _ z)
     ·rcases bP.same b _ (step _ z) with gB|⟨_,zc,_,gB⟩
      ·exact .inr ⟨ps,apn,az,gB⟩
      ·exact .inr ⟨ps,zc,az,gB⟩
    ·rcases bP.new b z with z|z
     ·exact aU.new b z
     ·exact .inr (KL b z)
   refine b5 y aD ag dm (Uk rs (by decide) λb af=>r.fr b (KL b af)) λb af=>?_
   obtain⟨mf,vs,ea,n9,hf,aS,gK,_⟩:=rs;cases ea;rw[lD n9] at af;exact KL b (gK b af).2
 next=>cases e
def Vf{d:List T->Option aO}(mV:ao2 X.prog X.w X.K X.mg X.base x k n d)(hd:∀ts s,d ts=some s->∃c os,s=.obj .own c os)(ay:da k X.A)(aC:nX X (e::es) aE)(bq:ee X x:=by rfl)(aG:aE.length=n:=by rfl)(hg:(x==("__debug__":Str))=false:=by decide)
  (he:bl (e::es) X.env=(false,eval e X.env)::bl es X.env:=by rfl) (hpl:(unop%Wy 0).any (·.1)=false:=by rfl):x3 X (unop%WC 0) (xO d aE):=by
 obtain⟨cp,fd,ps,F,hm,aF,b⟩:=mV.ex;refine eu (Nm F ay bq hm aF b .nil vO aC hg he hpl) λσ H Q hqq=>?_;obtain⟨aK,E,O,F,ai,s,r,e,b5⟩:=hqq;simp only[xO,cm] at e;obtain⟨ts,bY,hb⟩:=e;obtain⟨c,os,rfl⟩:=hd _ _ hb;refine⟨aK,E,O,F,ai,ts,r,bY,λws ba H1 aU q=>⟨?_,ba,ts,_,aU.b',by simpa using q,hb,λa aD ag bP rs=>?_⟩⟩
 ·rw[kO,<- q.length,Ag bY,aG]
 ·refine b5 a aD ag (aU.trans bP) (Uk rs (by decide) λb af=>r.fr b (aU.same.none af)) λb af=>?_
  obtain⟨mf,vs,ea,n9,hf,aS,gK,_⟩:=rs;cases ea;rw[lD n9] at af;exact aU.same.none (gK b af).2
def akx{b:bJ}{n:Nat}{ts:List T}{s:aO}(h:uY b n ts=some s):∃c os,s=.obj .own c os:=by
 simp only[uY,cm] at h;obtain⟨o,e1,e⟩:=h;cases o with
|mz s'=>
  obtain⟨c,os,_,rfl⟩:=S1 e;exact⟨c,os,rfl⟩
|_=>cases e
def amr(j:Nat){y:Str}{pos':Pos}(dz:X.N.Nodup)(h:x3 X e wh)(aP:X.N[j]?=some y:=by rfl)(hx:Loc X.env.scope y:=by first|exact Or.inl rfl|exact Or.inr rfl)
  (aA:kP e (some (.Name y pos')) pos.line X.env=pure false:=by rfl) (hf:X.fn y=true\/X.env.scope.names.lookup y=some .local:=by first|exact .inl rfl|exact .inr rfl):
  gP X (.Assign [.Name y pos'] e pos) (A2 j wh):=hX (tD dz aP hx h aA hf) λD σ H ⟨aK,E,O,F,ai,o,r,e,k⟩=>by
 simp only[A2,dO] at e;obtain⟨s,es,rfl⟩:=e;exact⟨aK,E,O,F,ai,s,r,es,λa aD ag x rs bg=>k _ aD ag x.aF (r.Q5 j x rs bg)⟩
def amm(bg:b0 X e (g4 i)):gP X (.Return (some e) pos) (zj i):=hX (vK bg)<|by
 rintro D σ H ⟨aK,E,O,F,ai,o,r,e,k⟩
 unfold zj at e;split at e
 next c aE he=>
  cases e
  obtain⟨v,ah,rs⟩:=r.val i _ he;have zh:=rs;obtain⟨a,vs,rfl,_⟩:=rs;exact⟨_,ah,k a F H r.ent zh⟩
 next=>cases e
def R5{s:aO}{os:List aO}(h:apj c s=some os):s=.obj .own c os:=by
 unfold apj at h;split at h
 next bX aE=>
  split at h
  next aw=>
   cases h
   rw[aw]
  next=>cases h
 next=>cases h
def Vg{K:bc}{E:gi}{O F:ak->Prop}{H:aB}{os:List aO}{a:ak}(hA:hq K c C ns)(rs:ed K E O F H (.obj .own c os) (.ref a)):∃bF vs,H a=some (.ins C bF (ns.zip vs))/\iM H a c vs/\gD K F H os vs:=by
 obtain⟨mf,vs,ea,aC,hf,_⟩:=rs;cases ea;obtain⟨aG,hx⟩:=id aC;rw[hA.o2] at hx;obtain⟨bF,hx⟩:=hx;rw[hA.fw] at hx;exact⟨bF,vs,hx,aC,hf⟩
def anB{d:List aO->Option T}(hA:hq X.K c C ns)(mV:kv X.prog X.w X.K X.mg X.base C m k n d)(ay:da k X.A)(aJ:x3 X o wh){pl:Sem Bool}(hm:m∉ns:=by decide +kernel)(aG:1=n:=by rfl)
  (bp:eval (unop%WU 0) X.env=(do
   let fe <- eval o X.env
   standAt apos.atName
   let (f,first) <- holding [fe] (getMethod fe m pl)
   callWith pos f first (c' pos (bl [] X.env)) (fT pos (fS [] X.env))):=by rfl):cT X (unop%WU 0) (CD c d wh []):=by
 obtain⟨cp,fd,ps,F,gY,b⟩:=mV.ex;refine eu (TP aJ hA.cls gY F ay b .nil vO bp) λσ H Q hqq=>?_;obtain⟨aK,E,O,F,ai,t,r,e,k⟩:=hqq;simp only[CD,cm] at e;obtain⟨s,es,os,e1,ts,bY,hb⟩:=e;cases bY;have:=R5 e1;subst this;refine⟨aK,E,O,F,ai,_,r,es,λa ba H1 aU rs bg=>?_⟩;obtain⟨bF,vs,hx,aC,hf⟩:=Vg hA rs;refine⟨a,bF,_,rfl,hx,zQ hm,⟨by simp[aG],ba,_,t,aU.b',.cons ⟨rfl,NX rs _ _ λb af=>?_⟩ .nil,hb,λv aD ag bP bu=>k v aD ag (aU.trans bP) bu⟩⟩;obtain⟨o,e,_⟩:=rs.at af;show H1 b≠none;rw[e];exact λz=>by cases z
def ajD(hA:hq X.K c C ns)(aJ:x3 X o wh)(bU:ns[j]?=some f:=by rfl)(af:ki o f X.env (eval o X.env)=eval o X.env:=by rfl):cT X (.Attribute o f pos) (EE c j wh):=
 eu (r5 aJ af) λσ H Q ⟨aK,E,O,F,ai,t,r,e,k⟩=>by
 simp only[EE,cm] at e;obtain⟨s,es,os,e1,e⟩:=e;have:=R5 e1;subst this;split at e
 next ts aA=>
  cases e
  refine⟨aK,E,O,F,ai,_,r,es,λa ba H1 aU rs bg=>?_⟩
  obtain⟨bF,vs,hx,aC,hf⟩:=Vg hA rs;obtain⟨v,bh,b,us,rfl,af,ff⟩:=hf.get aA;have _H:H b=none:=bg b (by rw[lD aC];exact dK _ (qP aA bh (by simp[d2,i6])));refine⟨a,C,bF,_,_,rfl,hx,hA.cls,mR hA bU,Mo hA.aS bU bh,?_⟩;have y:Ext F H (λd=>ba d\/d=b) H1:=⟨aU.same,λd z=>.inl (aU.sub d z),λd z=>by
   rcases z with z|rfl
   ·exact aU.new d z
   ·exact .inr _H,⟨λd z=>by
   rcases z with z|rfl
   ·exact aU.b' d z
   ·exact⟨_,af⟩,aU.b'.aoN⟩⟩
  refine k _ _ H1 y ?_
  simp only[Rep];exact⟨b,us,rfl,.inr rfl,.inl af,ff.keep (λ_ _ z=>z) λ_ _ z w=>⟨.inl z,w⟩⟩
 next=>cases e
def VC{cQ a b:bx}{fl:fX}{g h:bZ}(aw:kS X cQ fl)(aC:cT X a g)(af:cT X b h):cT X (.IfExp cQ a b pos) (ql fl g h):=eu (akI aw aC af)<|by
 rintro σ H Q ⟨aK,E,O,F,ai,t,r,e,k⟩
 simp only[ql,cm] at e;obtain⟨v,ev,e⟩:=e;refine⟨aK,E,O,F,ai,v,r,ev,λba H1 aU=>?_⟩;cases v with
|true=>exact uO ⟨aK,E,O,ba,ai,t,r.ext aU,by simpa using e,λv aD ag bP q=>k v aD ag (aU.trans bP) q⟩
|false=>exact yR ⟨aK,E,O,ba,ai,t,r.ext aU,by simpa using e,λv aD ag bP q=>k v aD ag (aU.trans bP) q⟩
noncomputable def mM(xs:List Str):List T:=xs.map .str
def QU{xs:List Str}{a:ak}(hm:X.mg x=some (.ref a))(aI:∃(o:Obj) (its:Array aq) (n:Nat),X.K.lookup a=some o/\o.cls=.type "tuple"/\o.data=.seq its n/\its.size<=cj/\Vals (xs.map V.str) its.toList)(bq:ee X x:=by rfl)(hd:(x==("__debug__":Str))=false:=by decide):cT X (.Name x pos) (ae (.tuple (mM xs))):=
 xH (v:=.ref a) (xm (v:=.ref a) bq hm rfl hd) λF H=>by
  simp only[Rep];refine⟨a,xs.map V.str,rfl,.inr aI,?_⟩;unfold mM;clear hm aI bq hd
  induction xs with
  |nil=>exact bH.nil
  |cons y ys bT=>exact bH.cons (by simp[Rep]) bT
end
end
section
variable [cB]
open AutoSeq1 (wpAny_loadPart')
section
variable {X:a3}{a e o:bx}{f g:bZ}{p pos apos:Pos}
def Um(hm:X.mg "list"=none)(aC:eB X a f)(bq:ee X "list":=by rfl)(he:bl [a] X.env=(false,eval a X.env)::bl [] X.env:=by rfl)(hpl:(c' pos (bl [] X.env)).any (·.1)=false:=by rfl):
  ao_ X (.Call (.Name "list" p) [a] [] pos) (cU xB f):=eu (Eg ah2 bq hm (by decide +kernel) (fu aC hJ he) (he:=he) (hpl:=hpl)) λσ H Q ⟨aK,E,O,F,ai,ts,r,e,k⟩=>by
 simp only[cU,cm] at e;obtain⟨t,bY,e⟩:=e;refine⟨aK,E,O,F,ai,t,r,bY,λv ba H1 aU aQ=>?_⟩;have fin:∀(ws:List V),bH X.K ba H1 ts ws->∀l,H1 l=none->Q (.ref l) (upd H1 l (.lst ws)):=λws ay l aG=>by
  have bP:=Ext.laid (o:=.lst ws) aU.b' aG;refine k l ws ba _ (aU.trans bP) (aU.same.none aG) (λz=>?_) dV (ay.ext bP);obtain⟨o,e⟩:=aU.b' l z;rw[aG] at e;cases e
 unfold xB at e;split at e
 ·cases e
  obtain⟨wA,ws,rfl,aG,ay⟩:=aQ.tup;exact⟨wA,ws,rfl,.inr aG,fin ws ay⟩
 ·cases e
  obtain⟨wA,ws,rfl,aG,ay⟩:=aQ.lst;exact⟨wA,ws,rfl,.inl (.inl aG),fin ws ay⟩
 ·cases e
def ajC(aw:X.calm=true)(hm:X.mg "sorted"=none)(aC:eB X a f)(bq:ee X "sorted":=by rfl)(he:bl [a] X.env=(false,eval a X.env)::bl [] X.env:=by rfl)(hpl:(c' pos (bl [] X.env)).any (·.1)=false:=by rfl):
  ao_ X (.Call (.Name "sorted" p) [a] [] pos) (cU Ep f):=eu (Ac (ah1 aw) bq hm (by decide +kernel) (fu aC hJ he) (he:=he) (hpl:=hpl)) λσ H Q ⟨aK,E,O,F,ai,ts,r,e,k⟩=>by
 simp only[cU,cm] at e;obtain⟨t,bY,e⟩:=e;refine⟨aK,E,O,F,ai,t,r,bY,λv ba H1 aU aQ=>?_⟩;unfold Ep at e;split at e
 next xs=>
  split at e
  next hz=>
   simp only[dO] at e;obtain⟨ss,Ir,e⟩:=e;cases e;have aaL:=MB Ir;subst aaL;obtain⟨wA,ws,rfl,aG,ay⟩:=aQ.lst;refine⟨wA,ss.map .inr,(lG ss).map V.str,rfl,?_,by simpa using hz,.inr ⟨ss,rfl,rfl⟩,λl sO=>?_⟩
   ·have az:ws=(ss.map (Sum.inr:Str->bA.Key)).map dI:=by rw[Mq ay];simp[dI,ny]
    rw[<- az];exact .inl aG
   ·have bP:=Ext.laid (o:=.lst ((lG ss).map V.str)) aU.b' sO;refine k l _ ba _ (aU.trans bP) (aU.same.none sO) (λz=>?_) dV (MD _);obtain⟨o,e⟩:=aU.b' l z;rw[sO] at e;cases e
  next=>cases e
 next=>cases e
end
def Td:entryFor table "list.remove.loop"=some Builtin.«list.remove.loop»:=entryFor_of_tree (by kernel_rfl)
def Ee:plainId "list.remove.loop"=true:=by decide +kernel
def alq(l:ak)(its:Array aq)(n:Nat)(x:Str)(t:Tok)(j:Nat)(hz:its.size<=cj)(bU:j<its.size)(hit:∃u,its[j]=.str x u)(k:Nat):
  ∀i:Nat,j - i=k->i<=j->(∀(m:Nat) (hm:m<its.size),i<=m->m<j->∃y u,its[m]=.str y u/\y≠x)->Meets (Builtin.«list.remove.loop» ⟨[.ref l,.str x t,g7 i],[]⟩)
   (λ_ R s=>s.heap.get? l=some {cls:=.type "list",data:=.seq its n}/\R (.ok (.ret .none)) {s with heap:=s.heap.update l (Obj.mapSeq λa=>a.eraseIdxIfInBounds j)}):=by
 induction k with
|zero=>
  intro i aI kC _ prog w A R s h;obtain⟨aL,g,d,tk,os⟩:=s;obtain⟨aG,h⟩:=h;obtain rfl:i=j:=by omega
  obtain⟨u,b8⟩:=hit
  wp_walk using wpAny_loadPart' aG
  rw[show its[((i:Nat):Int).toNat]?=some (.str x u) by simp[bU,b8]];refine aN (wpAny_eqBool_str ?_);rw[decide_eq_true rfl]
  wp_walk using wpAny_loadPart' aG
  rw[show ((Obj.mapSeq (λz=>z.eraseIdxIfInBounds ((i:Nat):Int).toNat) {cls:=.type "list",data:=.seq its n}:Obj).data.pastItsLine)=none from
   pastItsLine_seq (by
    have:(its.eraseIdxIfInBounds ((i:Nat):Int).toNat).size<=its.size:=by
     unfold Array.eraseIdxIfInBounds;split
     ·rw[Array.size_eraseIdx];omega
     ·omega
    show (its.eraseIdxIfInBounds ((i:Nat):Int).toNat).size<=_
    omega)]
  wp_walk
  exact h
|succ k bT=>
  intro i aI kC wu prog w A R s h;obtain⟨aL,g,d,tk,os⟩:=s;obtain⟨aG,h⟩:=h;have eL:i<its.size:=by omega
  obtain⟨y,u,a6,ne⟩:=wu i eL (dQ _) (by omega)
  wp_walk using wpAny_loadPart' aG
  rw[show its[((i:Nat):Int).toNat]?=some (.str y u) by simp[eL,a6]];refine aN (wpAny_eqBool_str ?_);rw[decide_eq_false ne]
  wp_walk
  rw[show ((i:Int)+1)=((i+1:Nat):Int) by push_cast;rfl];exact⟨rS Ee _,pM Td (by
   rw[rN Ee _];exact bT (i+1) (by omega) (by omega) (λm hm ah ar=>wu m hm (by omega) ar) prog w A R _ ⟨aG,h⟩)⟩
def ahU(l:ak)(its:Array aq)(n:Nat)(x:Str)(t:Tok)(j:Nat)(hz:its.size<=cj)(bU:j<its.size)(hit:∃u,its[j]=.str x u)(wu:∀(m:Nat) (hm:m<its.size),m<j->∃y u,its[m]=.str y u/\y≠x):
  Meets (Builtin.«list.remove» ⟨[.ref l,.str x t],[]⟩) (λ_ R s=>s.heap.get? l=some {cls:=.type "list",data:=.seq its n}/\R (.ok (.ret .none)) {s with heap:=s.heap.update l (Obj.mapSeq λa=>a.eraseIdxIfInBounds j)}):=by
 intro prog w A R s h;obtain⟨aL,g,d,tk,os⟩:=s;obtain⟨aG,h⟩:=h
 wp_walk using wpAny_loadPart' aG
 exact⟨rS Ee _,pM Td (by
  rw[rN Ee _];exact alq l its n x t j hz bU hit _ 0 rfl (oE _) (λm hm _ ar=>wu m hm ar) prog w A R _ ⟨aG,h⟩)⟩
noncomputable def als:V->List V->aB->c3->Prop:=λx vs H Q=>∃(l:ak) (ss:List Str) (y:Str),x=.ref l/\vs=[.str y]/\H l=some (.lst (ss.map V.str))/\y∈ss/\Q .dT (upd H l (.lst ((ss.erase y).map V.str)))
def TH{ss:List Str}{its:List aq}(r:Vals (ss.map V.str) its){m:Nat}{y:Str}(h:ss[m]?=some y):∃u,its[m]?=some (.str y u):=by
 obtain⟨v,bh,bW⟩:=r.get (i:=m) (x:=.str y) (by rw[kL,h];rfl);obtain⟨u,rfl⟩:=bW;exact⟨u,bh⟩
theorem T6{α:Type}[BEq α][LawfulBEq α]:∀{ss:List α} {y:α},y∈ss->∃j,ss[j]?=some y/\(∀m z,m<j->ss[m]?=some z->z≠y)/\ss.erase y=ss.eraseIdx j
| [],y,h=>by simp at h
|x::ss,y,h=>by
  by_cases e:x=y
  ·subst e;exact⟨0,rfl,λm z hm=>by omega,by simp⟩
  ·have h':y∈ss:=by
    rcases cM.mp h with z|z
    ·exact absurd z.symm e
    ·exact z
   obtain⟨j,ah,ar,br⟩:=T6 h';refine⟨j+1,by simpa using ah,λm z hm hz=>?_,?_⟩
   ·cases m with
    |zero=>
     simp at hz;exact hz▸e
    |succ m=>exact ar m z (by omega) (by simpa using hz)
   ·rw[List.erase_cons_tail (by simpa using e),br];rfl
theorem R0{α β:Type}(f:α->β):∀(l:List α) (j:Nat),(l.eraseIdx j).map f=(l.map f).eraseIdx j
| [],_=>rfl
|_::_,0=>rfl
|a::l,j+1=>by simp[R0 f l j]
def ajO{X:a3}:xX X "list.remove" als:=by
 intro ao s σ H x vs v us Q I aW bW h;obtain⟨l,ss,y,rfl,rfl,eK,a6,q⟩:=h;cases aW;obtain⟨u,rfl,c1⟩:=bW.one;obtain⟨t,rfl⟩:=c1;obtain⟨z,its,n,r,aG,e⟩:=I.Cu eK;obtain⟨j,ah,ar,br⟩:=T6 a6;obtain⟨w,hw⟩:=TH r ah;have bU:j<its.length:=(g6.mp hw).1;refine pO F.slot_list_remove ⟨_,e,rfl⟩ F.entry_list_remove (F.args_list_remove_2 _ _) (ahU l its.toArray n y t j (by rw[eG];omega) (by rw[eG];exact bU) ⟨w,?_⟩ λm hm aam=>?_) ⟨e,?_⟩
 ·rw[jv bU] at hw;simpa using hw
 ·rw[eG] at hm;have P_:m<ss.length:=by rw[fh] at aG;omega
  obtain⟨u,b8⟩:=TH r (jv P_);rw[jv hm] at b8;exact⟨_,u,by simpa using b8,ar m _ aam (jv P_)⟩
 ·rw[br] at q;have aM:(ss.eraseIdx j).map V.str=(ss.map V.str).eraseIdx j:=R0 _ _ _;rw[aM] at q;refine⟨.dT,_,I.Ct (t':=s.toks) (its':=its.eraseIdx j) eK e ?_ (r.eraseIdx j) (lz (S6 _ _) z),rfl,q⟩;unfold Array.eraseIdxIfInBounds;rw[dif_pos (by rw[eG];exact bU)];simp
section
variable {X:a3}{c C i j:Nat}{ns:List Str}{f:Str}{o e:bx}{g:bZ}{pos apos:Pos}
def anr(k:hq X.K c C ns)(bg:b0 X o (g4 i)){n1 d6:Pos}(he:cT X e g)(bU:ns[j]?=some f:=by rfl)(af:ki o f X.env (eval o X.env)=eval o X.env:=by rfl)
  (aoV:bl [e] X.env=(false,eval e X.env)::bl [] X.env:=by rfl)
  (nd:ki (unop%Wo 0) "remove" X.env (eval (unop%Wo 0) X.env)=eval (unop%Wo 0) X.env:=by rfl)
  (rj:((c' d6 (bl [e] X.env)).all (λx=>!x.1) && (fT d6 (fS [] X.env)).all (λx=>x.1.isSome)
   && decide (([e]:List bx).length+([]:List Keyword).length+(if ([]:List Keyword).isEmpty then 0 else 1)<30))=true:=by rfl)
  (nf:(n1.endLine==d6.line)=true:=by rfl) (ro:(c' d6 (bl [] X.env)).any (·.1)=false:=by rfl)
  (pj:kP (.Call (.Attribute (unop%Wo 0) "remove" n1) [e] [] d6) none pos.line X.env=pure false:=by rfl):
  gP X (.Expr (.Call (.Attribute (unop%Wo 0) "remove" n1) [e] [] d6) pos) (CM c i j g):=
 hX (Aj (xJ wY PySem.F.slot_list_remove PySem.F.type_list_remove ajO (r5 bg af) (fu he hJ aoV) nd rj nf aoV ro) pj) λD σ H ⟨aK,aY,O,F,ai,o,r,e,b5⟩=>by
 simp only[CM,cm] at e;obtain⟨t,bY,ts,jF,e⟩:=e;split at e
 next x ss Ir=>
  split at e
  next hx=>
   simp only[dO] at e;obtain⟨ε',es,rfl⟩:=e;have qk:=MB Ir;subst qk;obtain⟨m,aE,aJ,aA⟩:=Tc jF;obtain⟨a,vs,bF,v,ah,yL,aG,aC,bh,⟨b,us,dW,af,ff⟩,_⟩:=pW k r aJ aA bU;subst dW;refine⟨_,ah,a,C,bF,_,_,rfl,yL,k.cls,mR k bU,aG,.inl ⟨rfl,_,fG.of af⟩,aK,aY,O,F,ai,_,r,bY,λv ba H1 aU aQ=>?_⟩;have bk:=r.ext aU;have BI:iM H1 a c vs:=aC.keep ((aU.same.get yL).trans yL.symm);have ev:v=.str x:=by simpa [Rep] using aQ
   subst ev;have gU:=Mq ff;subst gU;obtain⟨aF,b4⟩:=bk.Cv (s':=.own ((ss.erase x).map .str)) (o':=.lst ((ss.erase x).map V.str)) aJ ah BI es aA bh (by simp[d2,i6]) rfl λaF=>⟨b,_,rfl,dV,MD _⟩;exact⟨b,ss,x,rfl,rfl,aU.same.get af,hx,b5 σ ba _ (aU.aF.trans aF) b4⟩
  next=>cases e
 next=>cases e
end
end
section
variable [cB]
open AutoSeq1 (wpAny_loadPart')
section
variable {prog:cA}{w:b_}{A:cw}{E:aq->aH->Prop}{s:aH}{T:String}{r d:ak}{n:Nat}{P:Nat->aq->Prop}{t4:bM->Prop}
def ahi(W:PySem.W.KdlSrc prog w T r d n P t4)(bg:n<=cj)(o:Obj)(aw:o.cls=.type T):
  MeetsIn prog w (Builtin.«tuple.__new__» ⟨[.type "tuple",.ref r],[]⟩)
   (λA R s=>A.handled=none/\t4 s.heap/\s.heap.get? r=some o/\∀(h':bM) (tk:Nat) (acc:Array aq),(unop%Wm 0)->s.heap.objs.size<=h'.objs.size->ItemsOf P acc n->R (.ok (.ret (.ref h'.objs.size))) {s with heap:=h'.push {cls:=.type "tuple",data:=.seq acc},toks:=tk}):=
 .of_wp λA R s h=>by
  obtain⟨aL,g,n4,tk,os⟩:=s;obtain⟨cR,bL,aJ,h⟩:=h;have BU:=sub_tuple_self;have aoa:=init_tuple_lookup;have aoi:=madeHere_tuple;have c0:Shared.TypeIs ⟨aL,g,n4,tk,os⟩ (.ref r) T:=W.type _ bL;have ey:=W.notList;have fp:=W.notTuple
  wp_walk using wpAny_loadPart' aJ,wpAny_typeOf c0,aix W (by simpa using cR) bL bg
  intro h' C7 acc aI hsz nc;show a_ _ _ (u' acc.toList.toArray >>= λv=>ret v) _ _ _;unfold u';have hz:acc.size<=cj:=by rw[nc.1];exact bg
  refine aN (rQ ?_ (by show acc.toList.toArray.size<=cj;simpa using hz))
  refine b2 ⟨_,rfl,?_⟩
  rw[show acc.toList.toArray=acc by simp];exact h h' C7 acc aI hsz nc
def ahs{Q:aq->aH->Prop}(W:PySem.W.KdlSrc prog w T r d n P t4)(bg:n<=cj){o:Obj}(aw:o.cls=.type T)(cR:A.handled=none)(bL:t4 s.heap)(aJ:s.heap.get? r=some o)
  (h:∀(h':bM) (tk:Nat) (acc:Array aq),(unop%Wm 0)->s.heap.objs.size<=h'.objs.size->ItemsOf P acc n->Q (.ref h'.objs.size) {s with heap:=h'.push {cls:=.type "tuple",data:=.seq acc},toks:=tk}):
  a_ (bG prog w) A (call (.type "tuple") [.ref r]) Q E s:=
 callType_newIn F.called_tuple (by decide) (F.typeCall_tuple_1 _) (F.newCall_tuple_1 _) (λobj=>F.args_object_init_2 obj _) F.entry_tuple_new
  (ahi W bg o aw) ⟨by simpa using cR,bL,aJ,λh' tk acc aI hsz nc=>⟨⟨_,fR _ rfl,rfl⟩,h h' tk acc aI hsz nc⟩⟩
end
noncomputable def ET(p d:ak):ef:=.ext λh=>h.IsValuesView p d
section
variable {X:a3}
def ajN:xX X "dict.values" (λx vs H Q=>∃d kvs,x=.ref d/\vs=[]/\H d=some (.fy kvs)/\∀p,H p=none->Q (.ref p) (upd H p (ET p d))):=by
 intro ao s σ H x vs v us Q I aW bW h;obtain⟨d,kvs,rfl,rfl,eK,q⟩:=h;cases aW;cases bW;obtain⟨hz,Qg,ws,uC,hd⟩:=I.bL d _ eK;refine call_meetsIn PySem.F.slot_dict_values hd.typeIs PySem.F.entry_dict_values (PySem.F.args_dict_values_1 _) (meets_dict_values (hU X.prog X.w) d Qg) ⟨⟨ws,hd⟩,?_⟩;have bh:(s.heap.push {cls:=.type "dict_values",data:=.fields #[.ref d]}).IsValuesView s.heap.objs.size d:=⟨_,fR _ rfl,rfl,rfl⟩;refine⟨.ref s.heap.objs.size,upd H s.heap.objs.size (ET s.heap.objs.size d),I.laid (t':=s.toks) (λb u e=>cW _ e) (dQ _) ⟨bh,⟨_,fR _ rfl⟩,λah ar p k=>?_⟩,rfl,q _ I.fresh⟩;obtain⟨o,aJ,r⟩:=p;exact⟨o,k o aJ,r⟩
theorem Vh:∀{kvs:List (bA.Key×V)} {vs:List (bA.Key×aq)},hL kvs vs->Vals (kvs.map (·.2)) (vs.map (·.2))
|_,_,.nil=>.nil
|_,_,.cons a b=>.cons a.2 (Vh b)
def ahk(aw:X.calm=true):lI X (.type "tuple") (λxs H Q=>∃p d kvs,xs=[.ref p]/\H p=some (ET p d)/\H d=some (.fy kvs)/\∀t,H t=none->Q (.ref t) (upd H t (.tup (kvs.map (·.2))))):=by
 intro ao s σ H xs us Q I r h;obtain⟨p,d,kvs,rfl,aL,a5,q⟩:=h;obtain⟨u,rfl,aW⟩:=ao5 r;cases aW;obtain⟨mq,Qg,vs,uC,hd⟩:=I.bL d _ a5;obtain⟨ep,n_⟩:=hd.dictAt;have aG:vs.length=kvs.length:=(Paired.length uC).symm;have bh:s.heap.IsValuesView p d:=(I.bL p _ aL).1;obtain⟨o,aJ,qe,an_⟩:=id bh;refine ahs (PySem.W.kdl_values (knd:=hU X.prog X.w) (kvs:=vs) (ep:=ep)) (by rw[aG];exact mq) qe (I.ok.hd aw) ⟨bh,n_⟩ aJ λh' tk acc aI hsz nc=>?_;have wy:(kvs.map (·.2)).length<=cj:=by rw[fh];exact mq
 have ea:acc.toList=vs.map (·.2):=by
  refine List.ext_getElem? λi=>?_
  rw[kL];by_cases aP:i<acc.size
  ·obtain⟨k,aI⟩:=nc.2 i acc[i] (by simp[aP]);rw[aI];simp[aP]
  ·rw[List.getElem?_eq_none (by simpa using aP),List.getElem?_eq_none (by rw[nc.1] at aP;omega)];rfl
 have c0:(h'.push {cls:=.type "tuple",data:=.seq acc}).get? h'.objs.size=some {cls:=.type "tuple",data:=.seq acc}:=fR _ rfl;refine⟨.ref h'.objs.size,_,MJ I (o:=.tup (kvs.map (·.2))) (d':=s.drawn) (λb u e=>cW _ (aI b u e)) hsz ⟨wy,vs.map (·.2),Vh uC,⟨_,c0,rfl,0,by rw[<- ea]⟩⟩,rfl,q _ (I.bL.fresh hsz)⟩
variable {c C i j:Nat}{ns:List Str}{f:Str}{o:bx}{p pos apos n1 d6:Pos}
theorem en.snd{K:bc}{F:ak->Prop}{H:aB}:∀{ts:List (D.Key×T)} {vs:List (D.Key×V)},en K F H ts vs->bH K F H (ts.map (·.2)) (vs.map (·.2))
| [],vs,h=>by
  have e:vs=[]:=h;subst e;exact bH.nil
|t::ts,vs,h=>by
  obtain⟨v,r,rfl,q,z⟩:=h;exact bH.cons q (en.snd z)
def Un(k:hq X.K c C ns)(aw:X.calm=true)(bp:X.mg "tuple"=none)(bg:b0 X o (g4 i))(bU:ns[j]?=some f:=by rfl)(af:ki o f X.env (eval o X.env)=eval o X.env:=by rfl)
  (nd:ki (unop%Wo 0) "values" X.env (eval (unop%Wo 0) X.env)=eval (unop%Wo 0) X.env:=by rfl) (nf:(n1.endLine==d6.line)=true:=by rfl) (bq:ee X "tuple":=by rfl)
  (he:bl [.Call (.Attribute (unop%Wo 0) "values" n1) [] [] d6] X.env=(false,eval (.Call (.Attribute (unop%Wo 0) "values" n1) [] [] d6) X.env)::bl [] X.env:=by rfl)
  (hpl:(c' pos (bl [] X.env)).any (·.1)=false:=by rfl):
  cT X (.Call (.Name "tuple" p) [.Call (.Attribute (unop%Wo 0) "values" n1) [] [] d6] [] pos) (AH c i j):=
 eu (Eg (ahk aw) bq bp (by decide +kernel) (fu (amM PySem.F.plainAttrs_dict PySem.F.slot_dict_values PySem.F.type_dict_values ajN (r5 bg af) nd nf) hJ he) (he:=he) (hpl:=hpl)) λσ H Q ⟨aK,E,O,F,ai,t,r,e,b5⟩=>by
 simp only[AH,dO] at e;obtain⟨kvs,hb,rfl⟩:=e;obtain⟨m,aE,aJ,aA⟩:=Ej hb;obtain⟨a,vs,bF,v,ah,hx,aG,aC,bh,⟨b,us,dW,af,ff⟩,_⟩:=pW k r aJ aA bU;subst dW;refine⟨_,ah,a,C,bF,_,_,rfl,hx,k.cls,mR k bU,aG,.inr (.inr (.inl ⟨rfl,.inl ⟨_,af⟩⟩)),b,us,rfl,rfl,af,λp aL=>?_⟩;have aU:=Ext.laid (o:=ET p b) r.b' aL;refine⟨p,b,us,rfl,dV,aU.same.get af,λt bp=>?_⟩;have bP:=aU.trans (Ext.laid (o:=.tup (us.map (·.2))) aU.b' bp);refine b5 _ F _ bP ?_;simp only[Rep];exact⟨t,_,rfl,dc.of dV,(ff.snd).ext bP⟩
end
end
section
variable [cB]
open AutoSeq1 (wpAny_loadPart')
noncomputable def f7(h:bM)(z TI cO:ak)(f0 f1:aq):Prop:=h.get? z=some {cls:=.type "zip",dict:=none,data:=.fields #[f0,f1,.bool false,.ref TI,.ref cO],slots:=#[]}
section
variable {prog:cA}{w:b_}{A:cw}{E:aq->aH->Prop}{s:aH}{z TI cO cx cI cu cD:ak}{k ey fp:Nat}{vW vX:Nat->aq->Prop}{jj jC:Nat->bM->Prop}{a b f1:aq}
def akl{Q:aq->aH->Prop}(D:ZipApart z TI cO cx cI cu cD)(ks:Draws prog w A cx [cx,cu] ey vW jj)(aoL:Draws prog w A cI [cI,cD] fp vX jC)(hz:f7 s.heap z TI cO .none f1)(iY:IsPair s.heap TI (.ref cx) (.ref cI))(lV:IsPair s.heap cO a b)
  (s1:jj k s.heap) (s2:jC k s.heap) (ah:k<ey) (ar:k<fp)
  (hv:∀h' x y tk,vW k x->vX k y->f7 h' z TI cO (g7 s.heap.objs.size) (.bool false)->IsPair h' cO x y->jj (k+1) h'->jC (k+1) h'->IsPair h' s.heap.objs.size x y->h'.objs.size=s.heap.objs.size+1 ->
   (∀c o,c≠z->c≠cO->c≠cx->c≠cI->s.heap.get? c=some o->h'.get? c=some o)->Q (unop%WK 0) {s with heap:=h',toks:=tk}):
  a_ (bG prog w) A (Builtin.«zip.__next__» ⟨[.ref z],[]⟩) (λfin s'=>∃v,fin=.done (.ret v)/\Q v s') E s:=by
 unfold f7 at hz;refine aN (m:=field (.ref z) 2) (ie hz rfl (x:=.bool false) rfl (aN (m:=field (.ref z) 3) (ie hz rfl (x:=.ref TI) rfl (aN (nG iY rfl ?_)))));refine aN (m:=s_ (.ref z)) ?_;unfold s_;refine aN (ie hz rfl (x:=.none) rfl (b2 ?_));simp only[if_true];refine aN (wpAny_rule (aN (ie hz rfl (x:=.ref cO) rfl (aN (vc hz (by simp) λe9 ng fO=>?_)))));replace ng:f7 e9 z TI cO .ellipsis f1:=ng;refine aN ?_;simp only[List.zipIdx_cons,List.zipIdx_nil,List.forIn_cons,List.forIn_nil];have rF:jj k e9:=ks.frame k _ _ s1 λc aw o e=>by
  rcases cM.mp aw with rfl|aw
  ·exact fO.extBut _ _ D.i1z e
  ·rw[ly.mp aw] at e ⊢;exact fO.extBut _ _ D.l1z e
 refine aN (aN (wpAny_onRaise (aN (m:=mE (.ref cx)) (ks.item k _ _ _ ah rF λx kE tk gb t1 gV=>b2 ?_))))
 have yv:IsPair kE cO a b:=gV.extBut _ _ D.TOi1 (fO.extBut _ _ D.TOz lV);refine aN (nG yv rfl (aN (wpAny_updateSeq_pair yv λi1 BF h6=>?_)));replace BF:IsPair i1 cO x b:=BF;refine aN (wpAny_letGo (b2 ?_));have kH:jC k i1:=aoL.frame k _ _ s2 λc aw o e=>by
  rcases cM.mp aw with rfl|aw
  ·exact h6.extBut _ _ D.TOi2.symm (gV.extBut _ _ D.i12.symm (fO.extBut _ _ D.i2z e))
  ·rw[ly.mp aw] at e ⊢;exact h6.extBut _ _ D.l2TO (gV.extBut _ _ D.l2i1 (fO.extBut _ _ D.l2z e))
 refine aN (aN (wpAny_onRaise (aN (m:=mE (.ref cI)) (aoL.item k _ _ _ ar kH λy wz Lx py rG rd=>b2 ?_))))
 have PV:IsPair wz cO x b:=rd.extBut _ _ D.TOi2 BF;refine aN (nG PV rfl (aN (wpAny_updateSeq_pair PV λh7 BG qc=>?_)));replace BG:IsPair h7 cO x y:=BG;refine aN (wpAny_letGo (b2 (b2 (aN (nG BG rfl (aN (wpAny_newTuple ?_)))))));have C0:h7.objs.size=s.heap.objs.size:=by rw[qc.1,rd.1,h6.1,gV.1,fO.1]
 have Qo:f7 h7 z TI cO .ellipsis f1:=qc.extBut _ _ D.TOz.symm (rd.extBut _ _ D.i2z.symm (h6.extBut _ _ D.TOz.symm (gV.extBut _ _ D.i1z.symm ng)));have abV:∀c o,c≠z->c≠cO->c≠cx->c≠cI->s.heap.get? c=some o->h7.get? c=some o:=λc o cV dj f9 c4 e=>qc.extBut _ _ dj (rd.extBut _ _ c4 (h6.extBut _ _ dj (gV.extBut _ _ f9 (fO.extBut _ _ cV e))));have Rn:jj (k+1) h7:=ks.frame _ _ _ t1 λc aw o e=>by
  rcases cM.mp aw with rfl|aw
  ·exact qc.extBut _ _ D.TOi1.symm (rd.extBut _ _ D.i12 (h6.extBut _ _ D.TOi1.symm e))
  ·rw[ly.mp aw] at e ⊢;exact qc.extBut _ _ D.l1TO (rd.extBut _ _ D.l1i2 (h6.extBut _ _ D.l1TO e))
 have C_:jC (k+1) h7:=aoL.frame _ _ _ rG λc aw o e=>by
  rcases cM.mp aw with rfl|aw
  ·exact qc.extBut _ _ D.TOi2.symm e
  ·rw[ly.mp aw] at e ⊢;exact qc.extBut _ _ D.l2TO e
 have xM:z<h7.objs.size:=c_ Qo;refine aN (m:=Builtin.SmallTypes.ownedTupleHandOut (.ref z) (.ref h7.objs.size)) ?_;unfold Builtin.SmallTypes.ownedTupleHandOut;have aaR:f7 (h7.push {cls:=.type "tuple",data:=.seq #[x,y]}) z TI cO .ellipsis f1:=cW _ Qo;refine aN (vc aaR (by simp) λaaT IC Hh=>?_);replace IC:f7 aaT z TI cO (g7 h7.objs.size) f1:=IC;refine vc IC (by simp) λyP BZ Hi=>?_;replace BZ:f7 yP z TI cO (g7 h7.objs.size) (.bool false):=BZ;have up:∀c o,c≠z->h7.get? c=some o->yP.get? c=some o:=λc o cV e=>Hi.extBut _ _ cV (Hh.extBut _ _ cV (cW _ e));have c0:IsPair yP h7.objs.size x y:=Hi.extBut _ _ (iG xM) (Hh.extBut _ _ (iG xM) (fR _ rfl));have Rb:yP.objs.size=h7.objs.size+1:=by rw[Hi.1,Hh.1,kM]
 rw[C0] at BZ c0 Rb;refine b2 ⟨_,rfl,?_⟩;show Q (.ref h7.objs.size) _;rw[C0];refine hv yP x y _ gb py BZ (up _ _ D.TOz BG) (ks.frame _ _ _ Rn λc aw o e=>?_) (aoL.frame _ _ _ C_ λc aw o e=>?_) c0 Rb λc o cV dj f9 c4 e=>up c o cV (abV c o cV dj f9 c4 e)
 ·refine up c o ?_ e
  rcases cM.mp aw with rfl|aw
  ·exact D.i1z
  ·rw[ly.mp aw];exact D.l1z
 ·refine up c o ?_ e
  rcases cM.mp aw with rfl|aw
  ·exact D.i2z
  ·rw[ly.mp aw];exact D.l2z
def akj{Q:Fin->aH->Prop}(D:ZipApart z TI cO cx cI cu cD)(ks:Draws prog w A cx [cx,cu] ey vW jj)(aoL:Draws prog w A cI [cI,cD] fp vX jC)(hz:f7 s.heap z TI cO .none f1)(iY:IsPair s.heap TI (.ref cx) (.ref cI))(lV:IsPair s.heap cO a b)
  (s1:jj k s.heap) (s2:jC k s.heap) (aI:k=ey\/(k<ey/\k=fp))
  (jl:∀h' e tk,(∀c o,c≠z->c≠cO->c≠cx->c≠cI->s.heap.get? c=some o->h'.get? c=some o)->(∃o,h'.get? e=some o/\o.cls=.type "StopIteration")->E (.ref e) {s with heap:=h',toks:=tk}):
  a_ (bG prog w) A (Builtin.«zip.__next__» ⟨[.ref z],[]⟩) Q E s:=by
 unfold f7 at hz;refine aN (m:=field (.ref z) 2) (ie hz rfl (x:=.bool false) rfl (aN (m:=field (.ref z) 3) (ie hz rfl (x:=.ref TI) rfl (aN (nG iY rfl ?_)))));refine aN (m:=s_ (.ref z)) ?_;unfold s_;refine aN (ie hz rfl (x:=.none) rfl (b2 ?_));simp only[if_true];refine aN (wpAny_rule (aN (ie hz rfl (x:=.ref cO) rfl (aN (vc hz (by simp) λe9 ng fO=>?_)))));replace ng:f7 e9 z TI cO .ellipsis f1:=ng;refine aN ?_;simp only[List.zipIdx_cons,List.zipIdx_nil,List.forIn_cons,List.forIn_nil];have rF:jj k e9:=ks.frame k _ _ s1 λc aw o e=>by
  rcases cM.mp aw with rfl|aw
  ·exact fO.extBut _ _ D.i1z e
  ·rw[ly.mp aw] at e ⊢;exact fO.extBut _ _ D.l1z e
 rcases aI with rfl|⟨ah,rfl⟩
 ·refine aN (aN (wpAny_onRaise (aN (m:=mE (.ref cx)) (ks.done _ _ _ rF λkE e gV he=>?_))))
  obtain⟨px,uF,yx⟩:=he;have IA:f7 kE z TI cO .ellipsis f1:=gV _ _ D.i1z.symm ng;have ne:e≠z:=λq=>by
   subst q;unfold f7 at IA;rw[IA] at uF;cases uF;simp at yx
  exact vc IA (by simp) λi1 _ h6=>jl i1 e _ (λc o cV _ f9 _ q=>h6.extBut _ _ cV (gV _ _ f9 (fO.extBut _ _ cV q))) ⟨px,h6.extBut _ _ ne uF,yx⟩
 ·refine aN (aN (wpAny_onRaise (aN (m:=mE (.ref cx)) (ks.item k _ _ _ ah rF λx kE tk gb t1 gV=>b2 ?_))))
  have yv:IsPair kE cO a b:=gV.extBut _ _ D.TOi1 (fO.extBut _ _ D.TOz lV);refine aN (nG yv rfl (aN (wpAny_updateSeq_pair yv λi1 BF h6=>?_)));refine aN (wpAny_letGo (b2 ?_));have kH:jC k i1:=aoL.frame k _ _ s2 λc aw o e=>by
   rcases cM.mp aw with rfl|aw
   ·exact h6.extBut _ _ D.TOi2.symm (gV.extBut _ _ D.i12.symm (fO.extBut _ _ D.i2z e))
   ·rw[ly.mp aw] at e ⊢;exact h6.extBut _ _ D.l2TO (gV.extBut _ _ D.l2i1 (fO.extBut _ _ D.l2z e))
  refine aN (aN (wpAny_onRaise (aN (m:=mE (.ref cI)) (aoL.done _ _ _ kH λwz e rd he=>?_))))
  obtain⟨px,uF,yx⟩:=he;have IB:f7 wz z TI cO .ellipsis f1:=rd _ _ D.i2z.symm (h6.extBut _ _ D.TOz.symm (gV.extBut _ _ D.i1z.symm ng));have ne:e≠z:=λq=>by
   subst q;unfold f7 at IB;rw[IB] at uF;cases uF;simp at yx
  exact vc IB (by simp) λh7 _ qc=>jl h7 e _ (λc o cV dj f9 c4 q=>qc.extBut _ _ cV (rd _ _ c4 (h6.extBut _ _ dj (gV.extBut _ _ f9 (fO.extBut _ _ cV q))))) ⟨px,qc.extBut _ _ ne uF,yx⟩
def ale{c:ak}{Q:Option Obj->aH->Prop}(h:Q (s.heap.get? c) s):a_ (bG prog w) A (loadIfAlive c) Q E s:=λΓ p _=>by
 unfold loadIfAlive;rw[Sem.wp_loadIfAlive];simpa using h
def Sw{T:ak}{fC:Obj}{f:Bool}(hz:f7 s.heap z TI cO (g7 T) (.bool f))(c0:s.heap.get? T=some fC):
  a_ (bG prog w) A (s_ (.ref z)) (λc s'=>c=false/\∃e9,s'={s with heap:=e9}/\f7 e9 z TI cO (g7 T) (.bool true)/\Heap.SameBut z s.heap e9) E s:=by
 unfold f7 at hz;unfold s_;refine aN (ie hz rfl (x:=g7 T) rfl ?_);refine aN (m:=loadIfAlive ((T:Nat):Int).toNat) (ale ?_);rw[Int.toNat_natCast,c0];simp only[Option.isNone_some,lA,if_false];refine aN (ie hz rfl (x:=.bool f) rfl ?_);cases f with
|true=>
  simp only[bne_self_eq_false,lA,if_false];exact b2 ⟨rfl,s.heap,rfl,hz,Heap.SameBut.refl ..⟩
|false=>
  rw[if_pos (by decide)];exact aN (vc hz (by simp) λe9 ng fO=>b2 ⟨rfl,e9,rfl,ng,fO⟩)
def akk{Q:aq->aH->Prop}{T:ak}{fC:Obj}{f:Bool}(D:ZipApart z TI cO cx cI cu cD)(ks:Draws prog w A cx [cx,cu] ey vW jj)(aoL:Draws prog w A cI [cI,cD] fp vX jC)(hz:f7 s.heap z TI cO (g7 T) (.bool f))(c0:s.heap.get? T=some fC)(iY:IsPair s.heap TI (.ref cx) (.ref cI))
  (s1:jj k s.heap) (s2:jC k s.heap) (ah:k<ey) (ar:k<fp)
  (hv:∀h' x y tk,vW k x->vX k y->f7 h' z TI cO (g7 T) (.bool true)->jj (k+1) h'->jC (k+1) h'->IsPair h' s.heap.objs.size x y->h'.objs.size=s.heap.objs.size+1 ->
   (∀c o,c≠z->c≠cx->c≠cI->s.heap.get? c=some o->h'.get? c=some o)->Q (unop%WK 0) {s with heap:=h',toks:=tk}):
  a_ (bG prog w) A (Builtin.«zip.__next__» ⟨[.ref z],[]⟩) (λfin s'=>∃v,fin=.done (.ret v)/\Q v s') E s:=by
 have yM:=hz;unfold f7 at hz;refine aN (m:=field (.ref z) 2) (ie hz rfl (x:=.bool false) rfl (aN (m:=field (.ref z) 3) (ie hz rfl (x:=.ref TI) rfl (aN (nG iY rfl ?_)))));refine aN (m:=s_ (.ref z)) (et (Sw yM c0) (λc s' hqq=>?_) λ_ _ q=>q);obtain⟨fI,e9,es,ng,fO⟩:=hqq;subst fI es;simp only[lA,if_false];refine aN ?_;rw[<- Array.forIn_toList];simp only[List.forIn_cons,List.forIn_nil];have rF:jj k e9:=ks.frame k _ _ s1 λc aw o e=>by
  rcases cM.mp aw with rfl|aw
  ·exact fO.extBut _ _ D.i1z e
  ·rw[ly.mp aw] at e ⊢;exact fO.extBut _ _ D.l1z e
 refine aN (aN (jb (aN (m:=mE (.ref cx)) (ks.item k _ _ _ ah rF λx kE tk gb t1 gV=>b2 (b2 ?_)))))
 have kH:jC k kE:=aoL.frame k _ _ s2 λc aw o e=>by
  rcases cM.mp aw with rfl|aw
  ·exact gV.extBut _ _ D.i12.symm (fO.extBut _ _ D.i2z e)
  ·rw[ly.mp aw] at e ⊢;exact gV.extBut _ _ D.l2i1 (fO.extBut _ _ D.l2z e)
 refine aN (aN (jb (aN (m:=mE (.ref cI)) (aoL.item k _ _ _ ar kH λy i1 Lx py rG h6=>b2 (b2 (b2 ?_))))))
 refine aN (wpAny_newTuple (b2 ⟨_,rfl,?_⟩) (by show 2<=cj;decide))
 have Ra:i1.objs.size=s.heap.objs.size:=by rw[h6.1,gV.1,fO.1]
 have af8:jj (k+1) i1:=ks.frame _ _ _ t1 λc aw o e=>by
  rcases cM.mp aw with rfl|aw
  ·exact h6.extBut _ _ D.i12 e
  ·rw[ly.mp aw] at e ⊢;exact h6.extBut _ _ D.l1i2 e
 have aaQ:f7 i1 z TI cO (g7 T) (.bool true):=h6.extBut _ _ D.i2z.symm (gV.extBut _ _ D.i1z.symm ng);have aL:(i1.push {cls:=.type "tuple",data:=.seq #[x,y]}).get? i1.objs.size=some _:=fR _ rfl;show Q (.ref i1.objs.size) _;rw[Ra] at aL ⊢;refine hv (i1.push {cls:=.type "tuple",data:=.seq #[x,y]}) x y _ gb py (cW _ aaQ) (ks.frame _ _ _ af8 λc _ o e=>cW _ e) (aoL.frame _ _ _ rG λc _ o e=>cW _ e) aL (by rw[kM,Ra])
  λc o cV f9 c4 e=>cW _ (h6.extBut _ _ c4 (gV.extBut _ _ f9 (fO.extBut _ _ cV e)))
def aht{Q:Fin->aH->Prop}{T:ak}{fC:Obj}{f:Bool}(D:ZipApart z TI cO cx cI cu cD)(ks:Draws prog w A cx [cx,cu] ey vW jj)(aoL:Draws prog w A cI [cI,cD] fp vX jC)(hz:f7 s.heap z TI cO (g7 T) (.bool f))(c0:s.heap.get? T=some fC)(iY:IsPair s.heap TI (.ref cx) (.ref cI))
  (s1:jj k s.heap) (s2:jC k s.heap) (aI:k=ey\/(k<ey/\k=fp))
  (jl:∀h' e tk,(∀c o,c≠z->c≠cx->c≠cI->s.heap.get? c=some o->h'.get? c=some o)->(∃o,h'.get? e=some o/\o.cls=.type "StopIteration")->E (.ref e) {s with heap:=h',toks:=tk}):
  a_ (bG prog w) A (Builtin.«zip.__next__» ⟨[.ref z],[]⟩) Q E s:=by
 have yM:=hz;unfold f7 at hz;refine aN (m:=field (.ref z) 2) (ie hz rfl (x:=.bool false) rfl (aN (m:=field (.ref z) 3) (ie hz rfl (x:=.ref TI) rfl (aN (nG iY rfl ?_)))));refine aN (m:=s_ (.ref z)) (et (Sw yM c0) (λc s' hqq=>?_) λ_ _ q=>q);obtain⟨fI,e9,es,ng,fO⟩:=hqq;subst fI es;simp only[lA,if_false];refine aN ?_;rw[<- Array.forIn_toList];simp only[List.forIn_cons,List.forIn_nil];have rF:jj k e9:=ks.frame k _ _ s1 λc aw o e=>by
  rcases cM.mp aw with rfl|aw
  ·exact fO.extBut _ _ D.i1z e
  ·rw[ly.mp aw] at e ⊢;exact fO.extBut _ _ D.l1z e
 rcases aI with rfl|⟨ah,rfl⟩
 ·refine aN (aN (jb (aN (m:=mE (.ref cx)) (ks.done _ _ _ rF λkE e gV he=>?_))))
  exact jl kE e _ (λc o cV f9 _ q=>gV _ _ f9 (fO.extBut _ _ cV q)) he
 ·refine aN (aN (jb (aN (m:=mE (.ref cx)) (ks.item k _ _ _ ah rF λx kE tk gb t1 gV=>b2 (b2 ?_)))))
  have kH:jC k kE:=aoL.frame k _ _ s2 λc aw o e=>by
   rcases cM.mp aw with rfl|aw
   ·exact gV.extBut _ _ D.i12.symm (fO.extBut _ _ D.i2z e)
   ·rw[ly.mp aw] at e ⊢;exact gV.extBut _ _ D.l2i1 (fO.extBut _ _ D.l2z e)
  refine aN (aN (jb (aN (m:=mE (.ref cI)) (aoL.done _ _ _ kH λi1 e h6 he=>?_))))
  exact jl i1 e _ (λc o cV f9 c4 q=>h6 _ _ c4 (gV.extBut _ _ f9 (fO.extBut _ _ cV q))) he
end
end
section
variable [cB]
open AutoSeq1 (wpAny_loadPart')
noncomputable def aa2(b:Bool):String:=if b then "list_iterator" else "tuple_iterator"
noncomputable def jI(b:Bool)(h:bM)(it l:ak)(i:Nat):Prop:=match b with
|true=>h.IsListIter it l i
|false=>h.IsTupleIter it l i
noncomputable def hG(b:Bool)(h:bM)(l:ak)(xs:Array aq):Prop:=match b with
|true=>h.IsList l xs
|false=>h.IsTuple l xs
theorem jI.at{b:Bool}{h h':bM}{it l:ak}{i:Nat}(x:jI b h it l i)(k:∀o,h.get? it=some o->h'.get? it=some o):jI b h' it l i:=by
 cases b with
|true=>exact Heap.IsListIter.at x k
|false=>
  obtain⟨o,aJ,r⟩:=x;exact⟨o,k o aJ,r⟩
def jI.obj{b:Bool}{h:bM}{it l:ak}{i:Nat}(x:jI b h it l i):∃o,h.get? it=some o/\∀v,o.data≠.cell v:=by
 cases b with
|true=>
  obtain⟨o,aJ,aw,hd⟩:=x;exact⟨o,aJ,λv z=>by rw[hd] at z;cases z⟩
|false=>
  obtain⟨o,aJ,aw,hd⟩:=x;exact⟨o,aJ,λv z=>by rw[hd] at z;cases z⟩
def hG.at{b:Bool}{h h':bM}{l:ak}{xs:Array aq}(x:hG b h l xs)(k:∀o,h.get? l=some o->h'.get? l=some o):hG b h' l xs:=by
 cases b with
|true=>
  obtain⟨o,aJ,r⟩:=x;exact⟨o,k o aJ,r⟩
|false=>
  obtain⟨o,aJ,r⟩:=x;exact⟨o,k o aJ,r⟩
def hG.lt{b:Bool}{h:bM}{l:ak}{xs:Array aq}(x:hG b h l xs):l<h.objs.size:=by
 cases b with
|true=>
  obtain⟨o,aJ,r⟩:=x;exact c_ aJ
|false=>
  obtain⟨o,aJ,r⟩:=x;exact c_ aJ
def tw{prog:cA}{w:b_}{A:cw}(b:Bool)(cR:A.handled=none)(it l:ak)(dY:l≠it)(xs:Array aq):
  Draws prog w A it [it,l] xs.size (λi v=>xs[i]?=some v) (λi h=>jI b h it l i/\hG b h l xs):=by
 cases b with
|true=>exact Draws.list cR it l dY xs
|false=>exact Mi cR it l dY xs
abbrev AF(b:Bool)(l:ak):Obj:={cls:=.type (aa2 b),data:=.fields #[.ref l,.int 0 0]}
abbrev ah8(b6 b7:Bool)(h:bM)(cu cD:ak):bM:=((h.push (AF b6 cu)).push (AF b7 cD)).push {cls:=.type "tuple",data:=.seq #[.ref h.objs.size,.ref (h.objs.size+1)]}
abbrev Tx(b6 b7:Bool)(h:bM)(cu cD:ak):bM:=(ah8 b6 b7 h cu cD).push {cls:=.type "tuple",data:=.seq #[.none,.none]}
abbrev Tz(b6 b7:Bool)(h:bM)(cu cD:ak):bM:=(Tx b6 b7 h cu cD).push {cls:=.type "zip",data:=.fields #[.none,.bool false,.bool false,.ref (h.objs.size+2),.ref (h.objs.size+3)]}
section
variable {prog:cA}{w:b_}{A:cw}{E:aq->aH->Prop}{s:aH}
def Vi{b:Bool}{l:ak}{xs:Array aq}{Q:aq->aH->Prop}(aG:hG b s.heap l xs)(h:Q (unop%WK 0) {s with heap:=s.heap.push (AF b l)}):a_ (bG prog w) A (pyIter (.ref l)) Q E s:=by
 cases b with
|true=>exact wpAny_pyIter_list aG h
|false=>exact rP aG h
def ai1(b6 b7:Bool)(cu cD:ak)(xs ys:Array aq):
  Meets (Builtin.«zip.__new__» ⟨[.type "zip",.ref cu,.ref cD],[]⟩) (λ_ R s=>hG b6 s.heap cu xs/\hG b7 s.heap cD ys /\
   R (.ok (.ret (.ref (s.heap.objs.size+4)))) {s with heap:=Tz b6 b7 s.heap cu cD}):=
 .of_wp λprog w A R s h=>by
  obtain⟨aL,g,d,tk,os⟩:=s;obtain⟨ah,ar,h⟩:=h;have BU:=sub_zip;have dN:hG b6 (Shared.heap ⟨aL,g,d,tk,os⟩) cu xs:=ah;have j5:hG b7 (Shared.heap ⟨aL.push (AF b6 cu),g,d,tk,os⟩) cD ys:=ar.at λo e=>cW _ e
  wp_walk using Vi dN,Vi j5
  refine⟨_,rfl,?_⟩
  simp only[kM] at h ⊢;exact h
def akc{b6 b7:Bool}{cu cD:ak}{xs ys:Array aq}{Q:aq->aH->Prop}(ah:hG b6 s.heap cu xs)(ar:hG b7 s.heap cD ys)
  (h:∀h',f7 h' (s.heap.objs.size+4) (s.heap.objs.size+2) (s.heap.objs.size+3) .none (.bool false)->IsPair h' (s.heap.objs.size+2) (unop%WK 0) (.ref (unop%Ws 0))->IsPair h' (s.heap.objs.size+3) .none .none ->
   jI b6 h' s.heap.objs.size cu 0->jI b7 h' (unop%Ws 0) cD 0->h'.objs.size=s.heap.objs.size+5->(∀c o,s.heap.get? c=some o->h'.get? c=some o)->Q (.ref (s.heap.objs.size+4)) {s with heap:=h'}):
  a_ (bG prog w) A (call (.type "zip") [.ref cu,.ref cD]) Q E s:=by
 have aP:∀(b:Bool) (h':bM) (it l:ak),h'.get? it=some (AF b l)->jI b h' it l 0:=λb h' it l e=>by
  cases b with
  |true=>exact⟨_,e,rfl,rfl⟩
  |false=>exact⟨_,e,rfl,rfl⟩
 refine callType_new F.called_zip (by decide) (F.typeCall_zip_2 _ _) (F.newCall_zip_2 _ _) (λobj=>F.args_object_init_3 obj _ _) F.entry_zip_new (ai1 b6 b7 cu cD xs ys) ⟨ah,ar,?_⟩
 have at_:∀(cR:bM) (n:Nat) (o o':Obj),cR.objs.size=n->o.isFreed=false->(cR.push o).get? n=some o:=λcR n o o' e f=>by
  rw[<- e];exact fR _ f
 have n8:(Tz b6 b7 s.heap cu cD).get? (s.heap.objs.size+4)=some _:=at_ (Tx b6 b7 s.heap cu cD) (s.heap.objs.size+4) _ default (by simp only[kM]) rfl;refine⟨⟨_,n8,rfl⟩,h _ n8 ?_ ?_ ?_ ?_ (by simp only[kM]) λc o e=>cW _ (cW _ (cW _ (cW _ (cW _ e))))⟩
 ·exact cW _ (cW _ (at_ _ _ _ default (by simp only[kM]) rfl))
 ·exact cW _ (at_ _ _ _ default (by simp only[kM]) rfl)
 ·exact aP b6 _ _ _ (cW _ (cW _ (cW _ (cW _ (fR _ rfl)))))
 ·exact aP b7 _ _ _ (cW _ (cW _ (cW _ (at_ _ _ _ default (by simp only[kM]) rfl))))
end
end
section
variable [cB]
def ain:typeLookup (.type "zip") "keys"=pure none:=by rw[typeLookup_type,builtinLookup_eq_fast];kernel_rfl
def ahp:typeLookup (.type "zip") "__getattr__"=pure none:=by rw[typeLookup_type,builtinLookup_eq_fast];kernel_rfl
def ahW:entryFor table "zip.__getattribute__"=some Builtin.«object.__getattribute__»:=entryFor_alias (id':="object.__getattribute__") (by kernel_rfl) (by decide +kernel) (by decide +kernel) (by kernel_rfl)
def aho(a:ak)(vs:Array aq)(name:Str)(u:Tok)(aoj:typeLookup (.type "zip") name=pure none)(BP:(["__module__","__name__","__qualname__","__doc__","__annotations__"]:List Str).contains name=false)(hsz:name.length+100<=cj):
  Meets (Builtin.«object.__getattribute__» ⟨[.ref a,.str name u],[]⟩) (λA R s=>s.heap.get? a=some {cls:=.type "zip",dict:=none,data:=.fields vs,slots:=#[]}/\raisesAttr (.ref a) name A R s):=
 Meets.of_wp λprog w A R s aA=>by
  obtain⟨aL,g,d,tk,os⟩:=s;obtain⟨hx,aA⟩:=aA;have ty:(⟨aL,g,d,tk,os⟩:aH).TypeIs (.ref a) "zip":=⟨_,hx,rfl⟩;unfold Builtin.«object.__getattribute__»
  repeat (any_goals (first|assumption|wp_step))
  simp only[BP,lA,if_false]
  repeat (any_goals (first|assumption|wp_step))
  exact wpAny_raiseAttrError aA.1 aA.2 (attrMsg_fits (by decide +kernel) hsz)
def akR{prog:cA}{w:b_}{A:cw}{E:aq->aH->Prop}{s:aH}{a:ak}{vs:Array aq}{Q:Option aq->aH->Prop}
  (hx:s.heap.get? a=some {cls:=.type "zip",dict:=none,data:=.fields vs,slots:=#[]}) (sI:A.handled=none)
  (h:∀h' tk,(unop%Wm 0)->Q none {s with heap:=h',toks:=tk}):
  a_ (bG prog w) A (getAttr? (.ref a) "keys") Q E s:=by
 obtain⟨aL,g,d,tk,os⟩:=s;have ty:∀C7,(⟨aL,g,d,C7,os⟩:aH).TypeIs (.ref a) "zip":=λ_=>⟨_,hx,rfl⟩;have f1:=sub_AttributeError;have iV:=F.slot_zip_getattribute.lookup;have f4:=F.slot_zip_getattribute.bind (.ref a);have ir:=ahp;have nm:(["__module__","__name__","__qualname__","__doc__","__annotations__"]:List Str).contains ("keys":Str)=false:=by decide +kernel
 have mA:("keys":Str).length+100<=cj:=by rw[jW];decide
 unfold getAttr? getAttrBy? getAttrBy
 repeat (any_goals (first|assumption|exact ty _|((with_reducible show a_ _ _ (call (Value.builtin "zip.__getattribute__") _ _) _ _ _);refine pO F.slot_zip_getattribute (ty _) ahW (F.args_zip_getattribute_2 _ _) (aho a vs "keys" _ ain nm mA) ⟨hx,sI,λh' C7 e kD=>?_⟩)|wp_step))
 obtain⟨t',u5,he⟩:=kD.there;show a_ _ _ (getattributeRaised _ _ _ _ _ _ _) _ _ _;unfold getattributeRaised
 repeat (any_goals (first|assumption|wp_step))
 exact h _ _ kD.keeps
section
variable {prog:cA}{w:b_}{K:Type}[DecidableEq K]{knd:PySem.KeyKind prog w K}{A:cw}{E:aq->aH->Prop}{s:aH}{R:Result->aH->Prop}{z TI cO cx cI cu cD:ak}{b6 b7:Bool}{xs ys:Array aq}
noncomputable def tS(S z TI cO cx cI cu cD:ak)(b6 b7:Bool)(xs ys:Array aq)(i:Nat)(h:bM):Prop:=IsPair h TI (.ref cx) (.ref cI)/\(∃a b,IsPair h cO a b)/\(jI b6 h cx cu i/\hG b6 h cu xs)/\(jI b7 h cI cD i/\hG b7 h cD ys) /\
 (f7 h z TI cO .none (.bool false)\/∃(T:Nat) (fC:Obj) (f:Bool),f7 h z TI cO (g7 T) (.bool f)/\h.get? T=some fC/\T≠S/\T≠z/\T≠cO/\T≠cx/\T≠cI)
noncomputable def Kept(S z cO cx cI:ak)(h h':bM):Prop:=∀c o,c≠S->c≠z->c≠cO->c≠cx->c≠cI->h.get? c=some o->h'.get? c=some o
def aiz{S:ak}{i:Nat}{Q:Option aq->aH->Prop}(cR:A.handled=none)(D:ZipApart z TI cO cx cI cu cD)(st:tS S z TI cO cx cI cu cD b6 b7 xs ys i s.heap)(eD:∃o,s.heap.get? S=some o)(j6:S≠z/\S≠cO/\S≠cx/\S≠cI)
  (hx:i<xs.size) (a6:i<ys.size)
  (hv:∀h' tk,IsPair h' s.heap.objs.size xs[i] ys[i]->tS S z TI cO cx cI cu cD b6 b7 xs ys (i+1) h'->(∀o,s.heap.get? S=some o->h'.get? S=some o)->Kept S z cO cx cI s.heap h'->s.heap.objs.size<=h'.objs.size->Q (some (unop%WK 0)) {s with heap:=h',toks:=tk}):
  a_ (bG prog w) A (pyNext (.ref z)) Q E s:=by
 obtain⟨iY,⟨a,b,lV⟩,aQ,bu,hz⟩:=st;have xM:∀{f0 f1:aq},f7 s.heap z TI cO f0 f1->z<s.heap.objs.size:=λh=>c_ h;have c0:s.TypeIs (.ref z) "zip":=by
  rcases hz with h|⟨T,fC,f,h,_⟩
  ·exact⟨_,h,rfl⟩
  ·exact⟨_,h,rfl⟩
 have Qr:cx<s.heap.objs.size/\cI<s.heap.objs.size:=by
  obtain⟨d3,az,_⟩:=aQ.1.obj;obtain⟨eE,aM,_⟩:=bu.1.obj;exact⟨c_ az,c_ aM⟩
 have Xi:S<s.heap.objs.size:=by
  obtain⟨o,e⟩:=eD;exact c_ e
 have Xj:cO<s.heap.objs.size:=c_ lV;unfold pyNext;refine aN (wpAny_attempt (te (name:=Str.ofString "__next__") c0 F.slot_zip_next (rR F.slot_zip_next c0 F.entry_zip_next ?_ (F.args_zip_next_1 _))));rcases hz with hz|⟨T,fC,f,hz,BH,t1,rG,t3,zt,Ll⟩
 ·refine akl (jj:=λi h=>jI b6 h cx cu i/\hG b6 h cu xs) (jC:=λi h=>jI b7 h cI cD i/\hG b7 h cD ys) D (tw (A:=A.in1) b6 cR cx cu D.l1i1 xs) (tw (A:=A.in1) b7 cR cI cD D.l2i2 ys) hz iY lV aQ bu hx a6 λh' x y tk gb py mq _w s1 s2 aL hsz aF=>b2 ?_
  have ex:xs[i]=x:=gg ((wU hx).symm.trans gb);have fN:ys[i]=y:=gg ((wU a6).symm.trans py);subst ex fN;refine hv h' tk aL ⟨aF _ _ D.TIz D.TITO D.TIi1 D.TIi2 iY,⟨_,_,_w⟩,s1,s2,.inr ⟨_,_,false,mq,aL,?_⟩⟩ (λo e=>aF _ _ j6.1 j6.2.1 j6.2.2.1 j6.2.2.2 e) (λc o _ dj f9 c4 j4 e=>aF c o dj f9 c4 j4 e) (by omega);exact⟨iG Xi,iG (xM hz),iG Xj,iG Qr.1,iG Qr.2⟩
 ·refine akk (jj:=λi h=>jI b6 h cx cu i/\hG b6 h cu xs) (jC:=λi h=>jI b7 h cI cD i/\hG b7 h cD ys) D (tw (A:=A.in1) b6 cR cx cu D.l1i1 xs) (tw (A:=A.in1) b7 cR cI cD D.l2i2 ys) hz BH iY aQ bu hx a6 λh' x y tk gb py mq s1 s2 aL hsz aF=>b2 ?_
  have ex:xs[i]=x:=gg ((wU hx).symm.trans gb);have fN:ys[i]=y:=gg ((wU a6).symm.trans py);subst ex fN;exact hv h' tk aL ⟨aF _ _ D.TIz D.TIi1 D.TIi2 iY,⟨a,b,aF _ _ D.TOz D.TOi1 D.TOi2 lV⟩,s1,s2,.inr ⟨T,fC,true,mq,aF _ _ rG zt Ll BH,t1,rG,t3,zt,Ll⟩⟩ (λo e=>aF _ _ j6.1 j6.2.2.1 j6.2.2.2 e) (λc o _ dj f9 c4 j4 e=>aF c o dj c4 j4 e) (by omega)
def aiA{S:ak}{i:Nat}{Q:Option aq->aH->Prop}(cR:A.handled=none)(D:ZipApart z TI cO cx cI cu cD)(st:tS S z TI cO cx cI cu cD b6 b7 xs ys i s.heap)(j6:S≠z/\S≠cO/\S≠cx/\S≠cI)(aP:i=xs.size\/(i<xs.size/\i=ys.size))
  (hv:∀h' tk,(∀o,s.heap.get? S=some o->h'.get? S=some o)->Kept S z cO cx cI s.heap h'->Q none {s with heap:=h',toks:=tk}):
  a_ (bG prog w) A (pyNext (.ref z)) Q E s:=by
 obtain⟨iY,⟨a,b,lV⟩,aQ,bu,hz⟩:=st;have c0:s.TypeIs (.ref z) "zip":=by
  rcases hz with h|⟨T,fC,f,h,_⟩
  ·exact⟨_,h,rfl⟩
  ·exact⟨_,h,rfl⟩
 unfold pyNext;refine aN (wpAny_attempt (te (name:=Str.ofString "__next__") c0 F.slot_zip_next (rR F.slot_zip_next c0 F.entry_zip_next ?_ (F.args_zip_next_1 _))));rcases hz with hz|⟨T,fC,f,hz,BH,t1,rG,t3,zt,Ll⟩
 ·refine akj (jj:=λi h=>jI b6 h cx cu i/\hG b6 h cu xs) (jC:=λi h=>jI b7 h cI cD i/\hG b7 h cD ys) D (tw (A:=A.in1) b6 cR cx cu D.l1i1 xs) (tw (A:=A.in1) b7 cR cI cD D.l2i2 ys) hz iY lV aQ bu aP λh' e tk aF he=>?_
  obtain⟨o,aJ,aw⟩:=he;refine aN (wpAny_isInstance (T:="StopIteration") (b:=true) ⟨o,aJ,aw⟩ isSubtype_stop (b2 ?_));exact hv h' tk (λo e=>aF _ _ j6.1 j6.2.1 j6.2.2.1 j6.2.2.2 e) λc o _ dj f9 c4 j4 e=>aF c o dj f9 c4 j4 e
 ·refine aht (jj:=λi h=>jI b6 h cx cu i/\hG b6 h cu xs) (jC:=λi h=>jI b7 h cI cD i/\hG b7 h cD ys) D (tw (A:=A.in1) b6 cR cx cu D.l1i1 xs) (tw (A:=A.in1) b7 cR cI cD D.l2i2 ys) hz BH iY aQ bu aP λh' e tk aF he=>?_
  obtain⟨o,aJ,aw⟩:=he;refine aN (wpAny_isInstance (T:="StopIteration") (b:=true) ⟨o,aJ,aw⟩ isSubtype_stop (b2 ?_));exact hv h' tk (λo e=>aF _ _ j6.1 j6.2.2.1 j6.2.2.2 e) λc o _ dj f9 c4 j4 e=>aF c o dj c4 j4 e
def tS.frame{S:ak}{i:Nat}{h h':bM}(st:tS S z TI cO cx cI cu cD b6 b7 xs ys i h)(eD:∀c∈[z,TI,cO,cx,cI,cu,cD],S≠c)(k:∀c o,c≠S->h.get? c=some o->h'.get? c=some o):tS S z TI cO cx cI cu cD b6 b7 xs ys i h':=by
 obtain⟨iY,⟨a,b,lV⟩,aQ,bu,hz⟩:=st;have ne:∀c∈[z,TI,cO,cx,cI,cu,cD],c≠S:=λc aw=>(eD c aw).symm;refine⟨k _ _ (ne _ (by simp)) iY,⟨a,b,k _ _ (ne _ (by simp)) lV⟩,⟨aQ.1.at λo e=>k _ _ (ne _ (by simp)) e,aQ.2.at λo e=>k _ _ (ne _ (by simp)) e⟩,⟨bu.1.at λo e=>k _ _ (ne _ (by simp)) e,bu.2.at λo e=>k _ _ (ne _ (by simp)) e⟩,?_⟩;rcases hz with hz|⟨T,fC,f,hz,c0,t⟩
 ·exact .inl (k _ _ (ne z (by simp)) hz)
 ·exact .inr ⟨T,fC,f,k _ _ (ne z (by simp)) hz,k _ _ t.1 c0,t⟩
def ahZ(cR:A.handled=none)(D:ZipApart z TI cO cx cI cu cD)(S:ak)(eD:∀c∈[z,TI,cO,cx,cI,cu,cD],S≠c)(kvs:List (K×aq))(wt:(kvs.map (·.1)).Nodup)(hlen:kvs.length=min xs.size ys.size)(hz:kvs.length<=cj)
  (uC:∀(j:Nat) (dk:K×aq),kvs[j]?=some dk->∃key,xs[j]?=some key/\knd.is dk.1 key=true/\ys[j]?=some dk.2):
  ∀(k i:Nat) (s:aH) (c:Int) (cQ:Tok),kvs.length - i=k->i<=kvs.length->tS S z TI cO cx cI cu cD b6 b7 xs ys i s.heap->s.heap.DictOf knd S (kvs.take i) ->
   (∀h' tk,Kept S z cO cx cI s.heap h'->h'.DictOf knd S kvs->R (.ok (.ret .none)) {s with heap:=h',toks:=tk}) ->
   hT (bG prog w) A (.builtin "dict.update.loop" ⟨[.ref S,.ref z,.int c cQ,.none],[]⟩) R s:=by
 have j6:S≠z/\S≠cO/\S≠cx/\S≠cI:=⟨eD _ (by simp),eD _ (by simp),eD _ (by simp),eD _ (by simp)⟩;intro k
 induction k with
|zero=>
  intro i s c cQ aI aP hy hd k7;have wo:i=kvs.length:=by omega
  subst wo;refine pM Te ?_;rw[rN Ef _];refine aN (m:=pyNext (.ref z)) (aiA (A:=A.in1) cR D hy j6 (by omega) λh' tk HR aF=>?_);refine aN (m:=Builtin.Dict.addKeywords S []) (b2 ?_);rw[List.take_of_length_le (dQ _)] at hd;exact b2 (k7 h' tk aF (hd.at λo e=>HR o e))
|succ k bT=>
  intro i s c cQ aI aP hy hd k7;have eL:i<kvs.length:=by omega
  have hx:i<xs.size:=by omega
  have a6:i<ys.size:=by omega
  have _t:∃o,s.heap.get? S=some o:=by
   obtain⟨o,_,_,e,_⟩:=hd;exact⟨o,e⟩
  refine pM Te ?_
  rw[rN Ef _];refine aN (m:=pyNext (.ref z)) (aiz (A:=A.in1) cR D hy _t j6 hx a6 λh' tk aL pE HR aF hsz=>?_);have P7:kvs[i]?=some kvs[i]:=jv eL;obtain⟨key,az,aM,dS⟩:=uC i _ P7;have ex:xs[i]=key:=gg ((wU hx).symm.trans az);have fN:ys[i]=kvs[i].2:=gg ((wU a6).symm.trans dS);rw[ex,fN] at aL;refine aN (jb (aN (ve (aiO (s:={s with heap:=h',toks:=tk}) aL rfl rfl ?_))));have _Q:h'.DictOf knd S (kvs.take i):=hd.at λo e=>HR o e;refine jb (wpAny_dictSet_pairs (s:={s with heap:=h',toks:=tk}) aM _Q (λar hd2 ph=>?_) (by rw[List.length_take];omega));have rl:kvs[i].1∉(kvs.take i).map (·.1):=λq=>by
   rw[<- List.take_append_drop i kvs,List.map_append,nB] at wt;refine wt.2.2 _ q _ (dP.mpr ⟨kvs[i],?_,rfl⟩) rfl;rw[List.drop_eq_getElem_cons eL];exact fQ
  rw[aiJ rl,show kvs.take i++[(kvs[i].1,kvs[i].2)]=kvs.take (i+1) by rw[List.take_succ,P7];rfl] at hd2;refine b2 ⟨rS Ef _,bT (i+1) _ _ _ (by omega) eL (pE.frame eD λc o aw e=>?_) hd2 λbr agr Jt H2=>k7 br agr (λc o cV dj f9 c4 j4 e=>Jt c o cV dj f9 c4 j4 ?_) H2⟩
  ·exact (ph.2 c aw).trans e
  ·exact (ph.2 c cV).trans (aF c o cV dj f9 c4 j4 e)
def ajg{kvs:List (K×aq)}{Q:aq->aH->Prop}(cR:A.handled=none)(D:ZipApart z TI cO cx cI cu cD)(st:tS s.heap.objs.size z TI cO cx cI cu cD b6 b7 xs ys 0 s.heap)(hz:f7 s.heap z TI cO .none (.bool false))(wt:(kvs.map (·.1)).Nodup)(hlen:kvs.length=min xs.size ys.size)(hsz:kvs.length<=cj)
  (uC:∀(j:Nat) (dk:K×aq),kvs[j]?=some dk->∃key,xs[j]?=some key/\knd.is dk.1 key=true/\ys[j]?=some dk.2)
  (h:∀(h':bM) (tk:Nat),h'.DictOf knd s.heap.objs.size kvs->(∀c o,c≠z->c≠cO->c≠cx->c≠cI->s.heap.get? c=some o->h'.get? c=some o)->Q (unop%WK 0) {s with heap:=h',toks:=tk}):
  a_ (bG prog w) A (call (.type "dict") [.ref z]) Q E s:=by
 obtain⟨iY,⟨a,b,lV⟩,aQ,bu,_⟩:=id st;have xM:z<s.heap.objs.size:=c_ hz;have eD:∀c∈[z,TI,cO,cx,cI,cu,cD],s.heap.objs.size≠c:=by
  obtain⟨d3,az,_⟩:=aQ.1.obj;obtain⟨eE,aM,_⟩:=bu.1.obj;have a1:=c_ iY;have a2:=c_ lV;have fH:=c_ az;have h3:=c_ aM;have kW:=aQ.2.lt;have j3:=bu.2.lt;intro c aw;simp only[cM,pJ,or_false] at aw;rcases aw with rfl|rfl|rfl|rfl|rfl|rfl|rfl
  ·exact iG xM
  ·exact iG a1
  ·exact iG a2
  ·exact iG fH
  ·exact iG h3
  ·exact iG kW
  ·exact iG j3
 refine callType_codes (Q₁:=λobj c6=>obj=.ref s.heap.objs.size/\c6={s with heap:=s.heap.push {cls:=.type "dict",data:=.dict #[]} }) F.kt_called_dict (F.kt_typeCall_dict_1 _) F.entry_dict_init (kt_code_dict_new _ ⟨rfl,rfl⟩) ?_
 rintro obj c6 ⟨rfl,rfl⟩;have G_:(s.heap.push {cls:=.type "dict",data:=.dict #[]}).DictOf knd s.heap.objs.size []:=Heap.DictOf.new s.heap;have uL:f7 (s.heap.push {cls:=.type "dict",data:=.dict #[]}) z TI cO .none (.bool false):=cW _ hz;refine⟨G_.typeIs,F.args_dict_init_2 _ _,?_⟩;unfold Builtin.«dict.__init__»;refine aN ?_;unfold Builtin.Dict.selfAndRest;refine aN (wpAny_notOrdered_dict G_.typeIs ?_);show a_ _ _ (pure (s.heap.objs.size,[Value.ref z])) _ _ _;refine b2 ?_;show a_ _ _ (Builtin.Dict.updateFrom "dict.__init__" s.heap.objs.size (.ref z) [] .none) _ _ _;unfold Builtin.Dict.updateFrom;refine aN (wpAny_typeOf (show Shared.TypeIs _ (.ref z) "zip" from ⟨_,uL,rfl⟩) ?_);rw[if_pos (by decide)];refine aN (akR uL (by simp[cR]) λar Lx k2=>?_);have wy:IsZip ar z TI cO .none:=k2 _ _ uL;simp only[Option.isNone_none,if_true];refine aN (wpAny_rule (aN (wpAny_pyIter_zip (s:={s with heap:=ar,toks:=Lx}) wy (b2 ⟨rS Ef _,?_⟩))));have aF:∀c o,s.heap.get? c=some o->ar.get? c=some o:=λc o e=>k2 _ _ (cW _ e);refine ahZ (knd:=knd) (by simp[cR]) D s.heap.objs.size eD kvs wt hlen hsz uC (kvs.length - 0) 0 _ 0 _ (by omega) (oE _) (st.frame eD λc o _ e=>aF c o e) (by simpa using G_.at λo e=>k2 _ _ e) λh' tk Jt H2=>⟨rfl,h h' tk H2 λc o dj f9 c4 j4 e=>?_⟩;exact Jt c o (e3 (c_ e)) dj f9 c4 j4 (aF c o e)
end
end
section
variable [cB]
def ah5{n cu cD:Nat}(ah:cu<n)(ar:cD<n):ZipApart (n+4) (n+2) (n+3) n (n+1) cu cD:=by constructor <;> (show (_:Nat)≠_) <;> omega
section
variable {X:a3}{a b:bx}{f g:bZ}{p eT pos oq:Pos}
noncomputable def kQ:List bA.Key->List V->List (bA.Key×V)
|k::a',v::vs=>(k,v)::kQ a' vs
|_,_=>[]
theorem TA:∀(a':List bA.Key) (vs:List V),(kQ a' vs).length=min a'.length vs.length
| [],vs=>by simp[kQ]
|k::a',[]=>by simp[kQ]
|k::a',v::vs=>by simp only[kQ,eX,TA a' vs];omega
theorem Ng:∀{a':List bA.Key} {vs:List V} {us:List aq},Vals vs us->hL (kQ a' vs) ((a'.zip us))
| [],vs,us,_=>by
  rw[show kQ [] vs=[] from rfl,List.zip_nil_left];exact .nil
|k::a',_,_,.nil=>.nil
|k::a',_,_,.cons r t=>.cons ⟨rfl,r⟩ (Ng t)
def ajm(X:a3){a':List bA.Key}{us:List aq}{xs:List aq}(hx:Vals (a'.map dI) xs)(j:Nat)(dk:bA.Key×aq)(h:(a'.zip us)[j]?=some dk):∃key,xs.toArray[j]?=some key/\tM dk.1 key=true/\us.toArray[j]?=some dk.2:=by
 rw[List.getElem?_zip_eq_some] at h;obtain⟨ah,ar⟩:=h;obtain⟨u,b8,c1⟩:=hx.get (i:=j) (x:=dI dk.1) (by rw[kL,ah];rfl);refine⟨u,by simpa using b8,E2 (P:=X.prog) (w:=X.w) c1,by simpa using ar⟩
noncomputable def ang(K:bc)(cJ:gk):TE:=λσ H Q=>cJ σ H λvs H1=>∃cu cD a' ys,vs=[.ref cu,.ref cD]/\fG K H1 cu (a'.map dI)/\dc K H1 cD ys/\((kQ a' ys).map (·.1)).Nodup/\(kQ a' ys).length<=1000/\∀q,H1 q=none->Q (.ref q) (upd H1 q (.fy (kQ a' ys)))
def aiN{cJ:gk}(aw:X.calm=true)(hd:X.mg "dict"=none)(hz:X.mg "zip"=none)(aC:gj X [a,b] cJ)(bq:ee X "dict")(H9:ee X "zip")(pf:bl [a,b] X.env=(false,eval a X.env)::bl [b] X.env)(Io:(c' oq (bl [b] X.env)).any (·.1)=false)
  (he:bl [.Call (.Name "zip" eT) [a,b] [] oq] X.env=(false,eval (.Call (.Name "zip" eT) [a,b] [] oq) X.env)::bl [] X.env) (hpl:(c' pos (bl [] X.env)).any (·.1)=false):
  b0 X (.Call (.Name "dict" p) [.Call (.Name "zip" eT) [a,b] [] oq] [] pos) (ang X.K cJ):=by
 intro ao s σ H Q I h;refine nF (qO I bq hd PyProof.Rows.boot_dict ?_);refine zD ?_ he hpl;rw[he];show a_ _ _ (spliced ((false,eval (.Call (.Name "zip" eT) [a,b] [] oq) X.env)::c' pos (bl [] X.env))) _ _ s;refine Calls.spliced_cons (nF (qO I H9 hz PyProof.Rows.boot_zip (zD (cK (aC oq ao s σ H _ I h) λus s1 hqq=>?_) pf Io)));obtain⟨vs,H1,bj,bk,aQ⟩:=hqq;obtain⟨cu,cD,a',ys,rfl,yK,BS,wt,hle,q⟩:=aQ;obtain⟨Rn,C_,rfl,az,aM⟩:=bk.two;cases az;cases aM;obtain⟨its,bW,pl,uL⟩:=bj.list yK;obtain⟨ix,wJ,K1,wy⟩:=bj.tuple BS;have k1:hG true s1.heap cu its.toArray:=pl.isList;have k2:hG false s1.heap cD ix.toArray:=K1;refine akc k1 k2 λh' Qm iY lV aab aac hsz aI=>Calls.spliced_nil ?_;have sO:a'.length=its.length:=by have:=bW.length;simpa using this
 have wq:ys.length=ix.length:=wJ.length;have hlen:(a'.zip ix).length=(kQ a' ys).length:=by rw[TA,List.length_zip,wq]
 have aae:(a'.zip ix).map (·.1)=(kQ a' ys).map (·.1):=(Uw (Ng wJ)).symm;have big:=bj.big;have C0:h'.objs.size=s1.heap.objs.size+5:=hsz;refine ajg (knd:=hU X.prog X.w) (kvs:=a'.zip ix) (s:={s1 with heap:=h'}) (bj.ok.hd aw) (ah5 k1.lt k2.lt) ⟨iY,⟨_,_,lV⟩,⟨aab,k1.at λo e=>aI _ o e⟩,⟨aac,k2.at λo e=>aI _ o e⟩,.inl Qm⟩ Qm (by rw[aae];exact wt) (by rw[List.length_zip,eG,eG,sO]) (by rw[hlen,jW];omega) (λj dk e=>ajm X bW j dk e) λar tk hd2 qm=>?_;have keep:∀c o,s1.heap.get? c=some o->ar.get? c=some o:=λc o e=>by
  have aw:c<s1.heap.objs.size:=c_ e;have ne:∀m:Nat,c≠s1.heap.objs.size+m:=λm=>e3 (i' aw (iI _ m));exact qm c o (ne 4) (ne 3) (ne 0) (ne 1) (aI c o e)
 have Ke:s1.heap.objs.size<=h'.objs.size:=by rw[C0];exact iI _ _
 refine⟨.ref h'.objs.size,_,MJ (s:=s1) bj (o:=.fy (kQ a' ys)) (d':=s1.drawn) (t':=tk) keep Ke ⟨by rw[jW];omega,?_,a'.zip ix,Ng wJ,hd2⟩,rfl,q _ (bj.bL.fresh Ke)⟩
 rw[beq_eq_false_iff_ne];exact iG (i' big Ke)
variable {c C i j:Nat}{ns:List Str}{fn:Str}{o:bx}{apos:Pos}
theorem TB{K:bc}{F:ak->Prop}{H:aB}:∀{lk lv:List T} {kvs:List (D.Key×T)} {ws ys:List V},tU lk lv=some kvs->bH K F H lk ws->bH K F H lv ys->(∀t∈lk,∃k,iL t=some k)->∃a':List bA.Key,ws=a'.map dI/\en K F H kvs (kQ a' ys)/\(kQ a' ys).map (·.1)=kvs.map (·.1)
| [],lv,kvs,ws,ys,e,ah,ar,_=>by
  cases e
  simp only[bH] at ah;subst ah;exact⟨[],rfl,rfl,rfl⟩
|t::lk,[],kvs,ws,ys,e,ah,ar,aC=>by
  cases e
  simp only[bH] at ah ar;subst ar;obtain⟨v,r,rfl,q,z⟩:=ah;obtain⟨k,aI⟩:=aC t (by simp);have bh:v=dI k:=vE (O:=λ_=>False) aI (.inl q);have key:∀{lk:List T} {r:List V},bH K F H lk r->(∀t∈lk,∃k,iL t=some k)->∃a':List bA.Key,r=a'.map dI:=by
   intro lk
   induction lk with
   |nil=>
    intro r h _;simp only[bH] at h;exact⟨[],h⟩
   |cons t lk bT=>
    intro r h aC;simp only[bH] at h;obtain⟨v,cy,rfl,q,z⟩:=h;obtain⟨k,aI⟩:=aC t (by simp);obtain⟨a',rfl⟩:=bT z λu b8=>aC u (dK _ b8);exact⟨k::a',by rw[vE (O:=λ_=>False) aI (.inl q)];rfl⟩
  obtain⟨a',rfl⟩:=key z λu b8=>aC u (dK _ b8);exact⟨k::a',by rw[bh];rfl,rfl,rfl⟩
|t::lk,u::lv,kvs,ws,ys,e,ah,ar,aC=>by
  simp only[tU,cm,dO] at e;obtain⟨k,aI,r,iU,rfl⟩:=e;simp only[bH] at ah ar;obtain⟨v,bk,rfl,aQ,pQ⟩:=ah;obtain⟨w,b4,rfl,bu,gB⟩:=ar;obtain⟨a',rfl,jP,s7⟩:=TB iU pQ gB λu b8=>aC u (dK _ b8);exact⟨k::a',by rw[vE (O:=λ_=>False) aI (.inl aQ)];rfl,⟨w,_,rfl,bu,jP⟩,by simp[kQ,s7]⟩
def Ui(k:hq X.K c C ns)(aw:X.calm=true)(hd:X.mg "dict"=none)(hz:X.mg "zip"=none)(bg:b0 X o (g4 i))(aC:eB X a f)(af:eB X b g){G':Pos}(bU:ns[j]?=some fn:=by rfl)(bq:ee X "dict":=by rfl)(H9:ee X "zip":=by rfl)
  (pf:bl [a,b] X.env=(false,eval a X.env)::bl [b] X.env:=by rfl) (_S:bl [b] X.env=(false,eval b X.env)::bl [] X.env:=by rfl) (Io:(c' oq (bl [b] X.env)).any (·.1)=false:=by rfl)
  (he:bl [.Call (.Name "zip" eT) [a,b] [] oq] X.env=(false,eval (.Call (.Name "zip" eT) [a,b] [] oq) X.env)::bl [] X.env:=by rfl) (hpl:(c' G' (bl [] X.env)).any (·.1)=false:=by rfl)
  (aA:kP (.Call (.Name "dict" p) [.Call (.Name "zip" eT) [a,b] [] oq] [] G') (some (.Attribute o fn apos)) pos.line X.env=pure false:=by rfl):
  gP X (.Assign [.Attribute o fn apos] (.Call (.Name "dict" p) [.Call (.Name "zip" eT) [a,b] [] oq] [] G') pos) (xP c i j f g):=
 hX (NJ bg (aiN aw hd hz (fu aC (fu af hJ _S) pf) bq H9 pf Io he hpl) aA) λD σ H ⟨aK,E,O,F,ai,o,r,e,b5⟩=>by
 simp only[xP,cm] at e;obtain⟨tk,Z7,js,Z8,e⟩:=e;split at e
 next lk lv=>
  simp only[cm] at e;obtain⟨kvs,uq,e⟩:=e;split at e
  next PZ=>
   simp only[dO] at e;obtain⟨ε',es,rfl⟩:=e;refine⟨aK,E,O,F,ai,_,r,Z7,λv1 ba H1 aU aQ=>⟨aK,E,O,ba,ai,_,r.ext aU,Z8,λv2 dC bB bP bu=>?_⟩⟩;obtain⟨cu,ws,rfl,sO,oc⟩:=(aQ.ext bP).lst;obtain⟨cD,ys,rfl,wq,rp⟩:=bu.tup;obtain⟨a',rfl,jP,s7⟩:=TB uq oc rp λt bp=>Option.isSome_iff_exists.mp (PZ.2.2 t bp);have rJ:=aU.trans bP;refine⟨cu,cD,a',ys,rfl,.inl sO,wq,by rw[s7];exact PZ.1,by have:=congrArg List.length s7;simp only[fh] at this;omega,λq a5=>?_⟩;have gM:=Ext.laid (o:=.fy (kQ a' ys)) rJ.b' a5;have rK:=rJ.trans gM;have bk:=r.ext rK;have rl:H q=none:=rJ.same.none a5;have jn:¬dC q:=λz=>by
    obtain⟨o,e⟩:=rJ.b' q z;rw[a5] at e;cases e
   have jG:=es;unfold jr at jG;simp only[cm] at jG;obtain⟨⟨m,aE⟩,aJ,_⟩:=jG;obtain⟨Ye,vs,bF,ah,hx,aG,aC,_⟩:=r6 k bk aJ;have hold:=TY r rK rl;obtain⟨aF,b4⟩:=bk.CV (s:=.h4 kvs) (v:=.ref q) k aJ ah aC es ⟨q,_,rfl,dV,en.aF gM.aF jP⟩ (λd hd=>by
    have:d=q:=by simpa [d2,i6] using hd
    subst this;exact⟨jn,r.fr _ rl,hold i _ _ (qG aJ) ah,λk u w _ gn _ aI=>hold k u w gn aI⟩) hx bU
   refine⟨_,ah,Ye,C,bF,_,rfl,hx,k.cls,mR k bU,?_,b5 σ dC _ (rK.aF.trans aF) b4⟩
   have:=k.BC;simp only[List.length_zip];omega
  next=>cases e
 next=>cases e
end
end
section
variable [cB]
open AutoSeq1 (wpAny_loadPart')
noncomputable def apm:T->T->Option T
|.tuple xs,.int k=>if 2<=k/\k<1000/\xs≠[]/\xs.length*k.toNat<=big then some (.tuple (dZ k.toNat xs).flatten) else none
|.list xs,.int k=>if 0<=k/\k<1000/\xs.length*k.toNat<=big then some (.list (dZ k.toNat xs).flatten) else none
|_,_=>none
def ahb:fillsNumberSlot (.type "tuple") "mul"=pure false:=
 PySem.fillsNumberSlot_seq (id:="tuple.__mul__") (r:=some (.builtin "tuple.__rmul__")) F.slot_tuple_mul.lookup (by decide +kernel) F.slot_tuple_rmul.lookup (by decide +kernel)
def zev:seqRepeat? (.type "tuple")=pure (some (.builtin "tuple.__mul__")):=by
 unfold seqRepeat?;rw[PySem.seqSlot_of (T:="tuple") (name:="__mul__") (id:="tuple.__mul__") F.slot_tuple_mul.lookup (by decide +kernel),PySem.seqSlot_of (T:="tuple") (name:="__rmul__") (id:="tuple.__rmul__") F.slot_tuple_rmul.lookup (by decide +kernel)];rfl
def aib(a:Int)(t:Tok)(l:ak)(its:Array aq)(n:Nat)(dd:Option ak)(cz:Array (Option aq)):Meets (Builtin.«int.__rmul__» ⟨[.int a t,.ref l],[]⟩) (λ_ R s=>s.heap.get? l=some {cls:=.type "tuple",dict:=dd,data:=.seq its n,slots:=cz}/\R (.ok (.ret Value.notImplemented)) s):=
 .of_wp λprog w A R s h=>by
  obtain⟨aL,g,d,tk,os⟩:=s;obtain⟨aG,h⟩:=h
  wp_walk
  exact⟨_,rfl,h⟩
def aiY(l:ak)(its:Array aq)(n:Nat)(dd:Option ak)(cz:Array (Option aq))(k:Int)(t:Tok)(ah:2<=k)(ar:k<1000)(dY:its.isEmpty=false)(hz:its.size*k.toNat<=cj):
  Meets (Builtin.«tuple.__mul__» ⟨[.ref l,.int k t],[]⟩) (λ_ R s=>s.heap.get? l=some {cls:=.type "tuple",dict:=dd,data:=.seq its n,slots:=cz} /\
   R (.ok (.ret (unop%WK 0))) {s with heap:=s.heap.push {cls:=.type "tuple",data:=.seq ((dZ k.toNat its).foldl (·++·) #[])} }):=
 .of_wp λprog w A R s h=>by
  obtain⟨aL,g,d,tk,os⟩:=s;obtain⟨aG,h⟩:=h;have cV:¬(decide (k < -(2 ^ 63)) || decide (k >= 2 ^ 63))=true:=by simp;omega
  have dj:¬(its.isEmpty || k==1)=true:=by simp[dY];omega
  have f9:¬(decide (k<=0) || its.isEmpty)=true:=by simp[dY];omega
  wp_walk using wpAny_loadPart' aG
  have Qk:(its.size:Int)*k=((its.size*k.toNat:Nat):Int):=by
   have:(k.toNat:Int)=k:=Int.toNat_of_nonneg (by omega);rw[<- this]
   push_cast
   simp
  have c4:¬((its.size:Int)*k > (2 ^ 63 - 1) / 8):=by
   rw[Qk];rw[jW] at hz;omega
  have j4:¬Builtin.Tuple.tupleTooMany ((its.size:Int)*k)=true:=by
   unfold Builtin.Tuple.tupleTooMany;rw[Qk,decide_eq_true_iff];omega
  rw[if_neg cV]
  wp_walk using wpAny_loadPart' aG
  rw[if_neg dj,if_neg f9,if_neg c4,if_neg j4];unfold u';refine aN (rQ (b2 ⟨_,rfl,h⟩) ?_);have e:=Ei its.toList k.toNat [];rw[pK] at e;show (List.foldl _ #[] (dZ k.toNat its)).size<=cj;have bD:List.foldl (λaU bP=>aU++bP) #[] (dZ k.toNat its)=(dZ k.toNat its.toList).flatten.toArray:=by simpa using e
  rw[bD,eG,Np,tb,Nat.mul_comm];exact hz
section
variable {X:a3}{a b:bx}{f g:bZ}{pos:Pos}
def alK:eQ X (nI .Mult) (λx y H Q=>∃a k xs,x=.ref a/\y=.int k/\dc X.K H a xs/\xs≠[]/\2<=k/\k<1000/\xs.length*k.toNat<=cj/\∀p,H p=none->Q (.ref p) (upd H p (.tup (dZ k.toNat xs).flatten))):=by
 intro ao s σ H x y v u Q I aW bC h;obtain⟨l,k,xs,rfl,rfl,eK,dY,ah,ar,hz,q⟩:=h;cases aW;obtain⟨t,rfl⟩:=bC;obtain⟨its,r,pl,_⟩:=I.tuple eK;have aG:=r.length;obtain⟨⟨cls,dd,data,cz⟩,aJ,aw,n,hd⟩:=id pl;simp only at aw hd;subst aw hd;have _V:its.toArray.isEmpty=false:=by
  cases its with
  |nil=>
   cases xs with
   |nil=>exact absurd rfl dY
   |cons x xs=>simp at aG
  |cons=>rfl
 refine wpAny_binaryOp_repeat_ref (T:="tuple") (U:="int") (by decide) ⟨_,aJ,rfl⟩ (λs'=>typeIs_int s' k t) ahb F.fills_int_mul F.slot_int_rmul zev F.slot_int_index.lookup
  (pO F.slot_int_rmul (typeIs_int s k t) F.entry_int_rmul (F.args_int_rmul_2 _ _) (aib k t l its.toArray n dd cz)
   ⟨aJ,rfl,⟨_,aJ,rfl⟩,pO F.slot_tuple_mul ⟨_,aJ,rfl⟩ F.entry_tuple_mul (F.args_tuple_mul_2 _ _) (aiY l its.toArray n dd cz k t ah ar _V (by rw[eG,<- aG];exact hz)) ⟨aJ,?_⟩⟩)
 have e:List.foldl (λaU bP=>aU++bP) #[] (dZ k.toNat its.toArray)=(dZ k.toNat its).flatten.toArray:=by simpa using Ei its k.toNat []
 have wy:(dZ k.toNat xs).flatten.length<=cj:=by rw[Np,Nat.mul_comm];exact hz
 refine⟨.ref s.heap.objs.size,upd H s.heap.objs.size (.tup (dZ k.toNat xs).flatten),I.laid (t':=s.toks) (λb u e=>cW _ e) (dQ _) ⟨wy,_,r.rep k.toNat,⟨_,fR _ rfl,rfl,0,?_⟩⟩,rfl,q _ I.fresh⟩
 exact congrArg (λz=>Data.seq z 0) e
def alL:eQ X (nI .Mult) (λx y H Q=>∃l k xs,x=.ref l/\y=.int k/\fZ H l (.lst xs)/\0<=k/\k<1000/\xs.length*k.toNat<=cj/\∀p,H p=none->Q (.ref p) (upd H p (.lst (dZ k.toNat xs).flatten))):=by
 intro ao s σ H x y v u Q I aW bC h;obtain⟨l,k,xs,rfl,rfl,eK,ah,ar,hz,q⟩:=h;cases aW;obtain⟨t,rfl⟩:=bC;obtain⟨z,its,n,r,aG,e⟩:=Inv.wB I eK;have hlen:its.toArray.size*k.toNat<=cj:=by rw[eG,<- aG];exact hz
 have _J:¬its.toArray.size*k.toNat > (2 ^ 63 - 1) / 8:=by
  have:(cj:Nat)<=(2 ^ 63 - 1) / 8:=by decide
  omega
 have _Y:¬(!Builtin.List.listFitsIndex k)=true:=by rw[fitsIndex_both (by omega) (by omega)];exact mG
 have yF:¬Builtin.List.listTooLong (its.toArray.size*k.toNat)=true:=by rw[MZ hlen];exact mG
 have f0:∀m:Nat,List.foldl (λaU bP=>aU++bP) #[] (dZ m its.toArray)=(dZ m its).flatten.toArray:=λm=>by simpa using Ei its m []
 have rl:List.foldl (λaU bP=>aU++bP) #[] (dZ (if its.toArray.isEmpty=true then 0 else k.toNat) its.toArray)=(dZ k.toNat its).flatten.toArray:=by
  rw[f0];cases its with
  |nil=>simp
  |cons a cy=>rw[if_neg (by simp)]
 refine wpAny_binaryOp_repeat_ref (T:="list") (U:="int") (by decide) ⟨_,e,rfl⟩ (λs'=>typeIs_int s' k t) noFill_list_mul F.fills_int_mul F.slot_int_rmul repeat_list F.slot_int_index.lookup
  (pO F.slot_int_rmul (typeIs_int s k t) F.entry_int_rmul (F.args_int_rmul_2 _ _) (int___rmul___int_list k t l its.toArray n) ⟨e,rfl,⟨_,e,rfl⟩,pO F.slot_list_mul ⟨_,e,rfl⟩ F.entry_list_mul (F.args_list_mul_2 _ _) (AutoListH.list___mul___list_int_3 l its.toArray n k t _Y _J yF) ⟨e,?_⟩⟩)
 rw[rl];exact⟨.ref _,_,I.y1 (t':=s.toks) (r.rep k.toNat) (by rw[Np,Nat.mul_comm];exact hz),rfl,q _ I.fresh⟩
theorem bH.rep{K:bc}{F:ak->Prop}{H:aB}{ts:List T}{vs:List V}(h:bH K F H ts vs):∀k:Nat,bH K F H (dZ k ts).flatten (dZ k vs).flatten
|0=>bH.nil
|k+1=>by
  rw[va,va,wW,wW];exact h.append (bH.rep h k)
def anz(aC:eB X a f)(af:eB X b g):cT X (.BinOp a .Mult b pos) (aj apm f g):=eu (xI (alK.or alL) aC af) (r3 (by
 intro O F H x y t i8 i9 Q d aW bC e k;unfold apm at e;split at e
 next xs n=>
  split at e
  next hz=>
   cases e
   obtain⟨ub,vs,rfl,aA,ay⟩:=aW.tup;rw[bC.int];refine .inl ⟨ub,_,vs,rfl,rfl,aA,λz=>?_,hz.1,hz.2.1,by rw[ma,<- ay.length];exact hz.2.2.2,λp aL=>?_⟩
   ·subst z;exact hz.2.2.1 (List.eq_nil_of_length_eq_zero (by rw[ay.length];rfl))
   ·have aU:=Ext.laid (o:=.tup (dZ n.toNat vs).flatten) d aL;refine k _ F _ aU ?_;simp only[Rep];exact⟨p,_,rfl,dc.of dV,(ay.rep _).ext aU⟩
  next=>cases e
 next xs n=>
  split at e
  next hz=>
   cases e
   obtain⟨ub,vs,rfl,aA,ay⟩:=aW.lst;rw[bC.int];refine .inr ⟨ub,_,vs,rfl,rfl,aA,hz.1,hz.2.1,by rw[ma,<- ay.length];exact hz.2.2,λp aL=>?_⟩;have aU:=Ext.Kd (o:=.lst (dZ n.toNat vs).flatten) d aL;refine k _ _ _ aU ?_;simp only[Rep];exact⟨p,_,rfl,.inr rfl,.inl dV,(ay.rep _).ext aU⟩
  next=>cases e
 ·cases e))
end
end
section
abbrev t0:cB:=⟨[],λ_=>[],λ_=>none⟩
noncomputable def ec(ns:List Int):T:=.list (ns.map .int)
noncomputable def QJ(K:bc):Bool:=K.all λp=>match p.2.cls with
|.type t=>t != "list"
|_=>true
theorem Sd{α β:Type}[BEq α][LawfulBEq α]{a:α}{b:β}:∀{l:List (α×β)},l.lookup a=some b->(a,b)∈l
  | [],h=>by cases h
  | (x,y)::l,h=>by
    rw[aoS] at h;split at h
    next q=>
      cases h
      have:a=x:=by simpa using q
      subst this;simp
    next=>exact dK _ (Sd h)
end
section
variable [cB]
open PySem.W (kas_ask kas_sort kat_run kat_snds kat_lt kat_kind KatTups KatLex KatGo kas_item KasT)
noncomputable def c0(x:Str×List T):T:=.tuple (.str x.1::x.2)
end
section
open AutoSeq1 (wpAny_loadPart')
section
variable {prog:cA}{w:b_}{A:cw}{E:aq->aH->Prop}{s:aH}
def al1{T uT:String}{gY:aq}{as:List aq}{fB:List (Str×aq)}(aG:typeLookup (.type T) "__init__"=pure (some (.builtin "object.__init__")))(hm:Bind.madeBy (.type T)=pure (some uT))(dY:(some uT != some "object.__new__")=true):
  Meets (Builtin.«object.__init__» ⟨gY::as,fB⟩) (λ_ R s=>s.TypeIs gY T/\R (.ok (.ret .none)) s):=.of_wp λprog w A R s aA=>by
 obtain⟨c0,a5⟩:=aA;cases as with
|nil=>
  cases fB with
  |nil=>exact b2 ⟨_,rfl,a5⟩
  |cons k fB=>
   repeat any_goals first|assumption|wp_step
   exact⟨_,rfl,a5⟩
|cons a as=>
  repeat any_goals first|assumption|wp_step
  exact⟨_,rfl,a5⟩
def aiy{T uT:String}{N_:Builtin}{as:List aq}{fB:List (Str×aq)}{S:PySem.Spec}{Q:aq->aH->Prop}(fl:TypeCalled T uT "object.__init__")(dY:(some uT != some "object.__new__")=true)
  (an9:checkTypeCall T ⟨as,fB⟩=pure ()) (_N:checkBuiltinCall uT ⟨.type T::as,fB⟩=pure ()) (bL:∀o,argsOk "object.__init__" ⟨o::as,fB⟩) (ent:entryFor table uT=some N_) (g:Meets (N_ ⟨.type T::as,fB⟩) S)
  (h:S A.in1 (wants (λo s1=>s1.TypeIs o T/\Q o s1) E) s):a_ (bG prog w) A (call (.type T) as fB) Q E s:=by
 obtain⟨c,h9,aok⟩:=fl.mro;have aoh:=fl.made;have BU:=fl.sub;refine qD (codeAny_of_tree ?_);show a_ _ _ (callAny (.type T) _) _ _ _;refine b2 ⟨Code.quiet_builtin _ (by decide +kernel),pM F.entry_type_call ?_⟩;rw[Around.under_plain (weight_type_call_type T as fB) (units_type_call_type T as fB)];have aos:=fl.notType;have aot:=fl.canCreate
 repeat any_goals first|assumption|wp_step
 refine nH (codeAny_call_builtin fl.plain ent (wpAny_of_eq _N (g prog w A.in1 _ s h))) λr s1 ay=>?_
 cases r with
|error e=>exact ay
|ok du=>
  cases du with
  |ret obj=>
   obtain⟨c0,hv⟩:=ay;have li:=fl.init.lookup;have bi:=fl.init.bind obj
   repeat any_goals first|assumption|wp_step
   refine nH (codeAny_call_builtin fl.init.plain F.entry_object_init (fl.init.check _ _ _ _ _ _ _ _ c0 (bL obj) (al1 li fl.made dY prog w A.in1 (wants (λr s2=>r=Value.none/\Q obj s2) E) s1 ⟨c0,rfl,hv⟩))) λb4 s2 rp=>?_
   cases b4 with
   |error e=>exact rp
   |ok f2=>
    cases f2 with
    |ret r=>
     obtain⟨rfl,a5⟩:=rp
     repeat any_goals first|assumption|wp_step
    |_=>exact rp.elim
  |_=>exact ay.elim
end
def aj_(l:ak)(items:Array aq)(n:Nat)(p7:Option ak)(cz:Array (Option aq))(t:Tok):
  Meets (Builtin.«enumerate.__new__» ⟨[.type "enumerate",.ref l],[("start",.int 1 t)]⟩) (λ_ R s=>s.heap.get? l=some {cls:=.type "tuple",dict:=p7,data:=.seq items n,slots:=cz} /\
   R (.ok (.ret (.ref (unop%W0 0).objs.size)))
    {s with heap:=(unop%W0 0).push {cls:=.type "enumerate",data:=.fields #[.none,.bool false,.ref s.heap.objs.size,g7 1,.none,.none]} }):=
 .of_wp λprog w A R s h=>by
  obtain⟨aL,g,d,tk,os⟩:=s;obtain⟨aG,h⟩:=h;have BU:=sub_enumerate;have f':Heap.IsTuple (Shared.heap ⟨aL,g,d,tk,os⟩) l items:=⟨_,aG,rfl,n,rfl⟩
  wp_walk using wpAny_loadPart' aG
  refine wpAny_stack_any λst=>b2 ?_
  split
  ·rename_i c _ _ _ _ _
   cases (c==Value.type "enumerate")
   ·wp_walk using wpAny_loadPart' aG,rP f'
    exact⟨_,rfl,h⟩
   ·wp_walk using wpAny_loadPart' aG,rP f'
    exact⟨_,rfl,h⟩
  ·wp_walk using wpAny_loadPart' aG,rP f'
   exact⟨_,rfl,h⟩
def aiE(a:aq)(t:Tok):checkTypeCall "enumerate" ⟨[a],[("start",.int 1 t)]⟩=pure ():=by kernel_rfl
def ajK(a:aq)(t:Tok):checkBuiltinCall "enumerate.__new__" ⟨[.type "enumerate",a],[("start",.int 1 t)]⟩=pure ():=by kernel_rfl
def ai8(o a:aq)(t:Tok):argsOk "object.__init__" ⟨[o,a],[("start",.int 1 t)]⟩:=by unfold argsOk;kernel_rfl
end
section
variable [cB]
section
variable {M:Model}{A:cw}{E:aq->aH->Prop}{s:aH}{env:Env}
def cw_kw{pos:Pos}{T:String}{e:bx}{rest:List bx}{fB:List Keyword}{Q:aq->aH->Prop}
  (h:a_ M A (spliced (c' pos (bl (e::rest) env))) (λvs s1=>a_ M A (evalAll ((fT pos (fS fB env)).map (·.2))) (λa' s2=>a_ M A (call (.type T) vs (((fT pos (fS fB env)).filterMap (·.1)).zip a')) Q E s2) E s1) E s)
  (he:c' pos (bl (e::rest) env)=(false,eval e env)::c' pos (bl rest env):=by rfl) (aL:(c' pos (bl (e::rest) env)).any (·.1)=false:=by rfl)
  (aC:(fT pos (fS fB env)).all (·.1.isSome)=true:=by rfl) (aI:(fT pos (fS fB env)).any (·.1.isNone)=false:=by rfl):
  a_ M A (callWith pos (.type T) [] (c' pos (bl (e::rest) env)) (fT pos (fS fB env))) Q E s:=by
 have H5:a_ M A (evalArgs (.type T) true (c' pos (bl (e::rest) env)) (fT pos (fS fB env))) (λa s1=>a_ M A (call (.type T) ([]++a.pos) a.kw) Q E s1) E s:=by
  rw[he] at h ⊢;exact evalArgs_kwB aC h
 unfold callWith;refine aN (jb (et H5 (λa s1 g1=>aN (wpAny_standAt ?_)) λ_ _ x=>x));simp only[aL,aI,Bool.or_false];refine aN (b2 (aN (et g1 (λr s2 ay=>?_) λ_ _ x=>x)));exact aN (jb (wpAny_point (b2 ay)))
end
section
variable {prog:cA}{w:b_}{A:cw}{E:aq->aH->Prop}{s:aH}
def ajf{l:ak}{items:Array aq}{t:Tok}{Q:aq->aH->Prop}(f':s.heap.IsTuple l items)
  (h:∀h',IsEnum h' (unop%Ws 0) s.heap.objs.size 1 .none->h'.IsTupleIter s.heap.objs.size l 0->h'.objs.size=s.heap.objs.size+2 ->
   (unop%Wm 0)->Q (.ref (unop%Ws 0)) {s with heap:=h'}):
  a_ (bG prog w) A (call (.type "enumerate") [.ref l] [("start",.int 1 t)]) Q E s:=by
 obtain⟨⟨c,p7,ye,cz⟩,aG,aw,n,hd⟩:=f';replace aw:c=.type "tuple":=aw;replace hd:ye=.seq items n:=hd;subst aw hd;refine aiy F.called_enumerate (by decide) (aiE _ t) (ajK _ t) (λobj=>ai8 obj _ t) F.entry_enumerate_new (aj_ l items n p7 cz t) ⟨aG,?_⟩;have hz:(unop%W0 0).objs.size=s.heap.objs.size+1:=kM ..;show _/\_;rw[hz];have he:IsEnum ((unop%W0 0).push
   {cls:=.type "enumerate",data:=.fields #[.none,.bool false,.ref s.heap.objs.size,g7 1,.none,.none]}) (unop%Ws 0) s.heap.objs.size 1 .none:=by
  have:=fR (unop%W0 0)
   (o:={cls:=.type "enumerate",data:=.fields #[.none,.bool false,.ref s.heap.objs.size,g7 1,.none,.none]}) rfl
  rw[hz] at this;exact this
 refine⟨⟨_,he,rfl⟩,h _ he ⟨_,cW _ (fR _ rfl),rfl,rfl⟩ (by rw[kM,hz]) λb o x=>cW _ (cW _ x)⟩
end
def ak'{prog:cA}{w:b_}{A:cw}{it:ak}{cC:List ak}{n:Nat}{P:Nat->aq->Prop}{St:Nat->bM->Prop}(D:Draws prog w A it cC n P St):
  Draws prog w A it cC (n+1) (λi v=>1<=i/\P (i - 1) v) (λi h=>1<=i/\St (i - 1) h) where
 live:=λi h st=>D.live (i - 1) h st.2
 frame:=λi h h' st aI=>⟨st.1,D.frame (i - 1) h h' st.2 aI⟩
 item:=λi s Q E aP st hv=>D.item (i - 1) s Q E (by have:=st.1;omega) st.2 λx h' tk a b c=>hv x h' tk ⟨st.1,a⟩ ⟨by omega,by
  have e:i+1 - 1=i - 1+1:=by have:=st.1;omega
  rw[e];exact b⟩ c
 done:=λs Q E st jl=>D.done s Q E (by simpa using st.2) jl
noncomputable def Fi(K:bc)(a:ak):mZ:=
 ⟨λi H=>∃xs x,dc K H a xs/\xs[i]?=some x,λi H x ag=>∃p v,H p=none/\x=.ref p/\ag=upd H p (.tup [.int ((i+1:Nat):Int),v])/\∀xs,dc K H a xs->xs[i]?=some v,λi H=>∃xs,dc K H a xs/\xs.length<=i⟩
def aiH{P:cA}{w:b_}{K:bc}{es:List bx}{k:Nat}{pos:Pos}(a it e:ak)(dY:e≠it)(HZ:a≠it)(HY:a≠e):Turn P w K (.Tuple es k pos) (Fi K a) [e,it] e (λi h=>(∃old,IsEnum h e it ((i+1:Nat):Int) old)/\h.IsTupleIter it a i) where
 mem:=by simp
 obj:=λi h st b af=>by
  obtain⟨⟨old,he⟩,o,aJ,aw,hd⟩:=st;rcases cM.mp af with rfl|af
  ·exact⟨_,he,λv z=>by
    have jc:Data.fields _=Data.cell v:=z;cases jc⟩
  ·have az:b=it:=by simpa using af
   subst az;exact⟨o,aJ,λv z=>by rw[hd] at z;cases z⟩
 keep:=λi h h' st b5=>by
  obtain⟨⟨old,he⟩,kH⟩:=st;exact⟨⟨old,b5 e (by simp) _ he⟩,kH.at λo q=>b5 it (by simp) o q⟩
 item:=by
  intro X gW hw iX aw i ao s σ H E I hf st bq;subst gW hw iX;obtain⟨xs,x,a5,hx⟩:=bq;obtain⟨its,bW,p,hz⟩:=I.tuple a5;obtain⟨u,b8,c1⟩:=bW.get hx;obtain⟨⟨old,he⟩,hit⟩:=st;obtain⟨f0,f1,f2,iV,f4,ir⟩:=hf e (by simp);obtain⟨pe,g1,g2,g3,ur,n8⟩:=hf it (by simp);have aP:i<its.toArray.size:=by
   rw[eG];exact (g6.mp b8).1
  have Ih:e∉[it,a]:=by
   intro z;rcases cM.mp z with z|z
   ·exact dY z
   ·have jc:e=a:=by simpa using z
    exact HY jc.symm
  refine wpAny_pyNext_enum_itemD (i:=i+1) (ak' (Mi (A:=X.A.in1) (I.ok.hd aw) it a HZ its.toArray)) he ⟨by omega,by simpa using hit,p⟩ (by omega) dY Ih λmD h' tk HQ aJ od c0 hsz aI=>?_
  have ex:mD=u:=by
   have:=HQ.2;rw[Nat.add_sub_cancel,<- Array.getElem?_toList] at this;rw[show (its.toArray).toList=its from rfl,b8] at this;exact (gg this).symm
  subst ex;refine⟨_,rfl,wpAny_letOwnedTupleGo_enum aJ λar pf i0=>?_⟩;have yA:e<s.heap.objs.size:=c_ he;have H_:it<s.heap.objs.size:=by obtain⟨o,jH,_⟩:=hit;exact c_ jH
  have k2:∀b o,b≠e->b≠it->s.heap.get? b=some o->ar.get? b=some o:=λb o ah br q=>i0.extBut b o ah (aI b o ah br q);have fr:H s.heap.objs.size=none:=I.bL.fresh (dQ _);have HS:ar.get? s.heap.objs.size=some {cls:=.type "tuple",data:=.seq #[.int ((i+1:Nat):Int) tk,mD]}:=i0.extBut _ _ (iG yA) c0;have pv:∀b o,H b=some o->b≠e/\b≠it:=λb o q=>⟨λz=>(by rw[z,f0] at q;cases q),λz=>(by rw[z,pe] at q;cases q)⟩;have Ik:eP X.prog X.w (upd H s.heap.objs.size (.tup [.int ((i+1:Nat):Int),x])) ar:=by
   intro b o q;by_cases af:b=s.heap.objs.size
   ·subst af;rw[dV] at q;cases q;exact⟨by show 2<=cj;decide,[.int ((i+1:Nat):Int) tk,mD],.cons ⟨tk,rfl⟩ (.cons c1 .nil),⟨_,HS,rfl,_,rfl⟩⟩
   ·rw[cS af] at q;refine (I.bL b o q).kc (λc v dA eU=>k2 c v ?_ ?_ eU) (λc eU=>?_) λc ys eU=>?_
    ·rcases dA with rfl|dA
     ·exact (pv _ _ q).1
     ·exact (pv _ _ dA).1
    ·rcases dA with rfl|dA
     ·exact (pv _ _ q).2
     ·exact (pv _ _ dA).2
    ·rw[cS (jw eU fr)];exact eU
    ·rw[cS (jw eU fr)];exact eU
  have ct:bA.Inv X ao σ (upd H s.heap.objs.size (.tup [.int ((i+1:Nat):Int),x])) {s with heap:=ar,toks:=tk+1}:=by
   refine I.step (g':=s.gens) (d':=s.drawn) (ch:=[e,it]) (λb af=>?_) (λb o _ _ dA q _=>k2 b o (λz=>dA (by simp[z])) (λz=>dA (by simp[z])) q) (λb o _ _ dA q _=>⟨o.slots,k2 b o (λz=>dA (by simp[z])) (λz=>dA (by simp[z])) q⟩) (λb o _ q n=>?_)
    (λb o dA q=>⟨o,k2 b o (λz=>dA (by simp[z])) (λz=>dA (by simp[z])) q⟩) (λb ys q=>by rw[cS (jw q fr)];exact q) (λb o u q=>by rw[cS (jw q fr)];exact q) (λb ps q=>⟨#[],by rw[cS (jw q fr),q];simp⟩) (λm hm=>?_) Ik I.bare
   ·rcases cM.mp af with rfl|af
    ·exact⟨iV,f1,f4,ir⟩
    ·have:b=it:=by simpa using af
     subst this;exact⟨g3,g1,ur,n8⟩
   ·rw[cS (e3 (c_ q))];exact n
   ·obtain⟨o,jG,ep,jH,r⟩:=hm;exact⟨o,jG,ep,k2 _ o (Ne.symm f1) (Ne.symm g1) jH,r⟩
  refine⟨.ref s.heap.objs.size,_,ct,rfl,⟨s.heap.objs.size,x,fr,rfl,rfl,λys a6=>by rw[I.LA a6 a5];exact hx⟩,⟨⟨_,by have:=pf;simpa using this⟩,(show h'.IsTupleIter it a (i+1) by simpa using od.2.1).at λo q=>(i0.2 it dY.symm).trans q⟩,λb af=>?_⟩
  rcases cM.mp af with rfl|af
  ·rw[cS (e3 yA)];exact f0
  ·have:b=it:=by simpa using af
   subst this;rw[cS (e3 H_)];exact pe
 done:=by
  intro X gW hw iX aw i ao s σ H E I hf st bq;subst gW hw iX;obtain⟨xs,a5,hx⟩:=bq;obtain⟨its,bW,p,hz⟩:=I.tuple a5;obtain⟨⟨old,he⟩,hit⟩:=st;obtain⟨pe,g1,g2,g3,ur,n8⟩:=hf it (by simp);have c0:s.TypeIs (.ref e) "enumerate":=⟨_,he,rfl⟩;have aG:=bW.length;unfold pyNext;refine aN (wpAny_attempt (te (name:=Str.ofString "__next__") c0 F.slot_enumerate_next
   (rR F.slot_enumerate_next c0 F.entry_enumerate_next ?_ (F.args_enumerate_next_1 _))))
  show a_ _ _ (field (.ref e) 2 >>= _) _ _ _
  refine aN (ie he rfl (x:=.ref it) rfl ?_)
  refine aN (LX (I.ok.hd aw) hit (show s.heap.IsTuple a its.toArray from p) (by simp;omega) λh' x lX kD=>?_)
  obtain⟨o,aJ,dA⟩:=kD;refine aN (wpAny_isInstance (T:="StopIteration") (b:=true) ⟨o,aJ,dA⟩ isSubtype_stop ?_);exact b2 ⟨rfl,I.turned (t':=s.toks) (λb o af q=>lX b o af q) pe g1 g3 ur n8⟩
 self:=λ_ _ _ _ _ st h=>by
  obtain⟨⟨old,he⟩,_⟩:=st;exact wpAny_pyIter_enum he h
noncomputable def aaX(K:bc)(cJ:gk):TI:=λσ H R=>cJ σ H λvs H1=>∃a xs,vs=[.ref a]/\dc K H1 a xs/\R (Fi K a) H1
noncomputable def tQ(ts:List T):List T:=ts.zipIdx.map λp=>.tuple [.int ((p.2+1:Nat):Int),p.1]
noncomputable def xo(f:mX):mX:=λai=>(f ai).map tQ
section
variable {X:a3}{es:List bx}{k hA:Nat}{p pos eT pc wH:Pos}{a:bx}{f:bZ}
def akF{cJ:gk}(bq:ee X "enumerate")(hm:X.mg "enumerate"=none)(aC:gj X [a] cJ)(aA:bl [a] X.env=[(false,eval a X.env)]:=by rfl)(i0:bl [a] X.env=(false,eval a X.env)::bl [] X.env:=by rfl):sl X (.Tuple es k eT) (.Call (.Name "enumerate" p) [a] [⟨some "start",.Constant (.int 1) hA pc,wH⟩] pos) (aaX X.K cJ):=by
 intro ao s σ H R I h;refine nF (qO I bq hm PyProof.Rows.boot_enumerate (cw_kw (cK (aC pos ao s σ H _ I h) λus s0 ⟨vs,H1,Fd,bk,aQ⟩=>kws_cons (cK ((show b0 X (.Constant (.int 1) hA pc) (jT (.int 1)) from EN) ao s0 σ H1 (λy bB=>y=.int 1/\bB=H1) Fd ⟨rfl,rfl⟩) λsv s1 ⟨y,bB,bj,ae5,fN,ht⟩=>kws_nil ?_)) (by rw[i0];rfl) (by rw[aA];rfl)));subst fN ht;obtain⟨agq,rfl⟩:=ae5;obtain⟨a,xs,rfl,a5,q⟩:=aQ;show a_ _ _ (call (.type "enumerate") us [("start",.int 1 agq)]) _ _ _;cases bk with
|cons r rD=>
  cases rD
  cases r
  obtain⟨its,bW,pl,hz⟩:=bj.tuple a5;have yw:a<s1.heap.objs.size:=by obtain⟨o,aJ,_⟩:=pl;exact c_ aJ
  refine ajf (show s1.heap.IsTuple a its.toArray from pl) λh' he hit hsz aI=>wpAny_pyIter_enum he ?_
  refine⟨s1.heap.objs.size+1,[s1.heap.objs.size+1,s1.heap.objs.size],_,_,bB,rfl,bj.kept (t':=s1.toks) aI,aiH a s1.heap.objs.size (s1.heap.objs.size+1) (Nat.succ_ne_self _) (e3 yw) (e3 (Nat.lt_succ_of_lt yw)),⟨⟨_,he⟩,hit⟩,λb af=>?_,q⟩
  have j7:s1.heap.objs.size<=b:=by
   rcases cM.mp af with rfl|af
   ·exact rO _
   ·have:b=s1.heap.objs.size:=by simpa using af
    rw[this];exact dQ _
  exact bj.wi j7 (bj.bL.fresh j7)
def ai5{K:bc}{a:ak}{ba:ak->Prop}{H1:aB}{ts:List T}{vs:List V}(ay:dc K H1 a vs)(q:bH K ba H1 ts vs):sf K (Fi K a) ba H1 (tQ ts) where
 go:=λi F H t aF d e=>by
  have aP:=(g6.mp e).1;simp only[tQ,fh,List.length_zipIdx] at aP;obtain⟨v,ah,_⟩:=q.get (jv aP);exact⟨vs,v,aF.tup _ _ ay,ah⟩
 pP:=λi F H t x ag aF d e y=>by
  obtain⟨p,v,aL,rfl,rfl,y⟩:=y;have aP:=(g6.mp e).1;simp only[tQ,fh,List.length_zipIdx] at aP;obtain⟨kJ,ah,ar⟩:=(q.aF aF).get (jv aP);have br:=y vs (aF.tup _ _ ay);rw[ah] at br;cases br;have aU:=Ext.laid (o:=.tup [.int ((i+1:Nat):Int),v]) d aL;refine⟨F,aU,?_⟩;have bY:t=.tuple [.int ((i+1:Nat):Int),ts[i]]:=by
   simp only[tQ,kL,List.getElem?_zipIdx,jv aP] at e;simpa using e.symm
  subst bY;simp only[Rep];exact⟨p,_,rfl,dc.of dV,bH.cons (by simp[Rep]) (bH.cons (ar.ext aU) bH.nil)⟩
 stop:=λi F H aF aG=>⟨vs,aF.tup _ _ ay,by
  simp only[tQ,fh,List.length_zipIdx] at aG;rw[<- q.length];exact aG⟩
def al3(hm:X.mg "enumerate"=none)(aC:cT X a f)(bq:ee X "enumerate":=by rfl)(aA:bl [a] X.env=[(false,eval a X.env)]:=by rfl)(i0:bl [a] X.env=(false,eval a X.env)::bl [] X.env:=by rfl):
  q1 X (.Tuple es k eT) (.Call (.Name "enumerate" p) [a] [⟨some "start",.Constant (.int 1) hA pc,wH⟩] pos) (xo (gO f)):=ES (akF bq hm (fu aC hJ i0) aA i0) λσ H R ⟨aK,aY,O,F,ai,ts,r,e,k⟩=>by
 simp only[xo,gO,dO,cm] at e;obtain⟨us,⟨t,bY,e⟩,rfl⟩:=e;split at e
 ·cases e
  refine⟨aK,aY,O,F,ai,_,r,bY,λv aD ag x q=>?_⟩
  simp only[Rep] at q;obtain⟨a,vs,rfl,aA,ay⟩:=q;exact⟨a,vs,rfl,aA,k _ aD ag x (ai5 aA ay)⟩
 ·cases e
end
section
variable {X:a3}{e:bx}{f:bZ}{pos:Pos}
noncomputable def akA(K:bc):V->List V->aB->c3->Prop:=λx vs H Q=>∃l b xs zs,x=.ref l/\vs=[.ref b]/\H l=some (.lst xs)/\dc K H b zs/\xs.length+zs.length<=cj/\Q .dT (upd H l (.lst (xs++zs)))
open AutoSeq1 in
def aj5(l:ak)(as:Array aq)(n:Nat)(b:ak)(bs:Array aq)(m:Nat)(dd:Option ak)(cz:Array (Option aq))(pe:¬(!as.isEmpty && Builtin.List.listTooLong (as.size+bs.size))=true)(g1:as.size<=cj)(g2:as.size+bs.size<=cj+1):
  Meets (Builtin.«list.extend» ⟨[.ref l,.ref b],[]⟩) (λ_ R s=>s.heap.get? l=some {cls:=.type "list",dict:=none,data:=.seq as n,slots:=#[]}/\s.heap.get? b=some {cls:=.type "tuple",dict:=dd,data:=.seq bs m,slots:=cz} /\
   R (.ok (.ret Value.none)) {s with heap:=s.heap.update l (Obj.mapSeq λx=>x++bs),toks:=s.toks}):=
 .of_wp λprog w A R s h=>by
  obtain⟨aL,f_,d,tk,os⟩:=s;obtain⟨aG,af,h⟩:=h;have f2:=AutoSeq1.sub_tuple_tuple;have iV:=AutoSeq1.sub_list_list;have f4:=AutoSeq1.sub_tuple_list;have ir:=AutoSeq1.sub_list_tuple;have g3:(as++bs).size<=cj+1:=by
   rw[Array.size_append];exact g2
  wp_walk using (wpAny_updateSeq aG rfl (hz:=g1) (_hz':=g3)),wpAny_loadPart' aG,wpAny_loadPart' af
  exact⟨_,rfl,h⟩
def aiZ:xX X "list.extend" (akA X.K):=by
 intro ao s σ H x vs v us Q I aW bW h;obtain⟨l,b,xs,zs,rfl,rfl,eK,yq,hz,q⟩:=h;cases aW;obtain⟨u,rfl,c1⟩:=bW.one;cases c1;obtain⟨z,its,n,r,aG,e⟩:=I.Cu eK;obtain⟨ix,b4,K1,gB⟩:=I.tuple yq;have wq:=b4.length;obtain⟨⟨cls,dd,data,cz⟩,aJ,aw,fp,hd⟩:=id K1;simp only at aw hd;subst aw hd;have hsz:its.toArray.size+ix.toArray.size<=cj:=by rw[eG,eG];omega
 have yF:¬(!its.toArray.isEmpty && Builtin.List.listTooLong (its.toArray.size+ix.toArray.size))=true:=by
  rw[MZ hsz,Bool.and_false];exact mG
 refine pO F.slot_list_extend ⟨_,e,rfl⟩ F.entry_list_extend (F.args_list_extend_2 _ _) (aj5 l its.toArray n b ix.toArray fp dd cz yF (by rw[eG];omega) (by omega)) ⟨e,aJ,?_⟩
 refine⟨.dT,_,I.Ct (its':=its++ix) eK e (by simp) (r.append b4) ?_,rfl,q⟩
 rw[l8];omega
noncomputable def we(i:Nat)(f:bZ):bJ:=λai=>match ai[i]? with
|some (some (.own ts))=>(f ai).bind λt=>match t with
  |.tuple us=>if ts.length+us.length<=big then some (.bI (ai.set i (some (.own (ts++us))))) else none
  |_=>none
|_=>none
def amo(i:Nat){x:Str}{gb apos d6:Pos}(he:eB X e f)(dz:X.N[i]?=some x:=by rfl)(bh:oX X.env.scope x:=by first|exact Or.inl rfl|exact Or.inr (Or.inl rfl)|exact Or.inr (Or.inr rfl))(hd:(x==("__debug__":Str))=false:=by decide)
  (eg:(x==("__classdict__":Str))=false:=by decide) (aoV:bl [e] X.env=(false,eval e X.env)::bl [] X.env:=by rfl)
  (nd:ki (.Name x gb) "extend" X.env (eval (.Name x gb) X.env)=eval (.Name x gb) X.env:=by rfl)
  (rj:((c' d6 (bl [e] X.env)).all (λx=>!x.1) && (fT d6 (fS [] X.env)).all (λx=>x.1.isSome)
   && decide (([e]:List bx).length+([]:List Keyword).length+(if ([]:List Keyword).isEmpty then 0 else 1)<30))=true:=by rfl)
  (nf:(apos.endLine==d6.line)=true:=by rfl) (ro:(c' d6 (bl [] X.env)).any (·.1)=false:=by rfl)
  (pj:kP (unop%WW 0) none pos.line X.env=pure false:=by rfl):
  gP X (.Expr (unop%WW 0) pos) (we i f):=
 hX (Aj (xJ wY PySem.F.slot_list_extend PySem.F.type_list_extend aiZ (bE i dz bh hd eg) (fu he hJ aoV) nd rj nf aoV ro) pj) λD σ H ⟨aK,aY,O,F,ai,o,r,e,k⟩=>by
 unfold we at e;split at e
 next ts he=>
  simp only[cm] at e;obtain⟨t,bY,e⟩:=e;split at e
  next us=>
   split at e
   next hz=>
    cases e
    obtain⟨v,ah,a,vs,rfl,n,h0,cR,ay⟩:=r.val _ _ he;refine⟨_,ah,.inl ⟨rfl,_,fG.of cR⟩,aK,aY,O,F,ai,_,r,bY,λv aD ag x q=>?_⟩;obtain⟨b,ws,rfl,af,hw⟩:=q.tup;have bk:=r.ext x;obtain⟨v1,dN,a1,apb,az,ey,_i,yC,oc⟩:=bk.val _ _ he;rw[ah] at dN;cases dN;cases az;refine⟨a,b,apb,ws,rfl,rfl,yC,af,by rw[ma,<- oc.length,<- hw.length];exact hz,?_⟩;obtain⟨aF,b4⟩:=bk.mut (s':=.own (ts++us)) (o':=.lst (apb++ws)) he rfl ah ey h0 yC (.inl ⟨_,rfl⟩) λaF=>⟨a,_,rfl,ey,h0,dV,(oc.aF aF).append (hw.aF aF)⟩;exact k σ aD _ (x.aF.trans aF) b4
   next=>cases e
  next=>cases e
 next=>cases e
end
end
section
def ajj{pos:Pos}{c cv:aq}{a b:Int}(l:List aq)(h:TriplesOk l)(e:codeAmong pos (l++[g7 a,g7 b,c])=some cv):codeAmong pos l=some cv\/cv=c:=by
 fun_induction TriplesOk l with
|case1=>
  simp only[pK,codeAmong,g7] at e;split at e
  ·exact .inr (gg e).symm
  ·cases e
|case2 mf t jE u x rest bT=>
  simp only[pL,codeAmong] at e ⊢;split at e
  next aw=>rw[if_pos aw];exact .inl e
  next aw=>rw[if_neg aw];exact bT h e
|case3 _ _ _=>exact h.elim
noncomputable def nV(mg:Str->Option aq)(h:bM):Prop:=∃bm dE,mg "__builtins__"=some (.ref bm)/\bm≠builtinsNs/\h.get? bm=some dE/\dE.cls=.type "module"/\dE.dict=some builtinsNs/\dE.data=.plain
noncomputable def oh(o:Obj)(q:ak):ef:=.ext λh=>h.get? q=some o
noncomputable def ug(c:ak)(q:Str):ef:=.ext λh=>h.CodeRec (.ref c) q
variable [cB]
def M1{X:a3}{ao:List (ak×Obj)}{σ:bA.St}{H:aB}{s:aH}{params:Arguments}{body:bx}{scope:Scope}{hQ:Pos}{c P:ak}{gm:List (Str×ak)}{Q:aq->aH->Prop}(I:Inv X ao σ H s)
  (ri:X.env.code=.ref c) (C:PySem.W.CodeHd X.base c P) (iv:nV X.mg X.base) (sN:defaultsOf params X.env=([],[])) (qe:closureFor scope X.env=pure gm)
  (d:nY H) (dg:(P,X.env.qual++"<lambda>")∈cB.dg) (un:∀p∈cB.dg,p.1=P->p.2=X.env.qual++"<lambda>")
  (h:∀(q bX:ak) (gS:aq) (ag:aB) (s':aH),Inv X ao σ ag s'->kp H ag->nY ag->H q=none->ag q=some (oh (unop%Wg 0) q) ->
   ag bX=some (ug bX (unop%WS 0))->Q (.ref q) s'):
  a_ (unop%Wk 0) X.A (eval (.Lambda params body scope hQ) X.env) Q X.dm s:=by
 obtain⟨ps,eK,bp,bq⟩:=d _ dg;have gW:s.heap.get? P=some (PySem.W.tabObj ps):=I.bL P _ eK;have ns:s.heap.Ns i_ X.mg:=I.ok.mod.glob.keeps I.gR;obtain⟨bm,dE,b6,b7,dM,kY,q9,oZ⟩:=iv;have apk:=I.gR _ _ dM;have aaa:i_≠P:=λz=>by
  obtain⟨o,es,ep,e,hd,_⟩:=ns;rw[z,gW] at e;cases e;cases hd
 have _B:bm≠P:=λz=>by
  rw[z,gW] at apk;cases apk;cases kY
 have _A:bm≠i_:=λz=>by
  obtain⟨o,es,ep,e,hd,_⟩:=ns;rw[z,e] at apk;cases apk;rw[hd] at oZ;cases oZ
 have af:s.heap.BuiltinsAt X.mg P:=⟨bm,dE,b6,b7,_A,_B,apk,kY,q9,oZ⟩;have p0:=C.keeps I.gR;refine PySem.W.kla_eval sN ?_;cases hf:codeAmong hQ ps.toList with
|some cv=>
  obtain⟨bX,rfl,dA⟩:=bq hQ cv hf;refine PySem.W.kla_makeFunctionHit qe I.ok.glob ns ri p0 gW bp hf af λgS h' tk k hsz=>?_;have fr:H h'.objs.size=none:=I.bL.fresh hsz;refine h h'.objs.size bX gS (upd H h'.objs.size (oh _ h'.objs.size)) _ (I.laid (t':=tk) (λb u e=>cW _ (k b u e)) hsz ⟨fR _ rfl,⟨_,fR _ rfl⟩,λah ar az aM=>aM _ az⟩)
   (λb o e=>.inl (by rw[cS (jw e fr)];exact e)) (d.new fr) fr dV (by rw[cS (jw dA fr)];exact dA)
|none=>
  refine PySem.W.kla_makeFunction qe I.ok.glob ns ri p0 gW bp hf aaa af λbX gS h' tk hx BL eL Qf oe=>?_
  have PQ:H h'.objs.size=none:=I.bL.fresh (lz BL (Nat.le_of_lt eL));have _b:H bX=none:=I.bL.fresh BL;have Ym:bX≠h'.objs.size:=e3 eL;have uS:∀b o,H b=some o->b≠bX:=λb o e=>jw e _b;have QG:∀b o,H b=some o->b≠h'.objs.size:=λb o e=>jw e PQ;have Xf:=uS P _ eK;have Xg:=QG P _ eK
  let ag:aB:=upd (upd (upd H P (.iF (ps++#[g7 hQ.line,g7 hQ.col,.ref bX]))) bX (ug bX (unop%WS 0))) h'.objs.size (oh (unop%Wg 0) h'.objs.size)
  have PK:ag h'.objs.size=some (oh (unop%Wg 0) h'.objs.size):=dV;have Hd:ag bX=some (ug bX (unop%WS 0)):=by show upd _ _ _ _=_;rw[cS Ym,dV]
  have Bc:ag P=some (.iF (ps++#[g7 hQ.line,g7 hQ.col,.ref bX])):=by show upd _ _ _ _=_;rw[cS Xg,cS Xf,dV]
  have Hc:∀b,b≠P->b≠bX->b≠h'.objs.size->ag b=H b:=λb ey fp rx=>by show upd _ _ _ _=_;rw[cS rx,cS fp,cS ey]
  have aoQ:∀b o,H b=some o->b≠P->ag b=some o:=λb o e n=>by rw[Hc b n (uS b o e) (QG b o e)];exact e
  have aF:∀b o,b≠P->s.heap.get? b=some o->(h'.push (unop%Wg 0)).get? b=some o:=λb o n e=>cW _ (hx b o n e);have uR:∀b,H b=none->b≠P:=λb e z=>by rw[z,eK] at e;cases e
  have qt:kp H ag:=λb o e=>by
   by_cases z:b=P
   ·subst z;rw[eK] at e;cases e;exact .inr ⟨_,_,rfl,Bc⟩
   ·exact .inl (aoQ b o e z)
  refine h h'.objs.size bX gS ag _ (I.un (t':=tk) ⟨λb o e n _ _=>aF b o (uR b n) e,λb o e n _ _=>⟨o.slots,aF b o (uR b n) e⟩,λb o e n _=>?_,λb o e _=>?_,λb xs e=>aoQ b _ e λz=>by (rw[z,eK] at e;cases e),λb o u e=>aoQ b _ e λz=>by (rw[z,eK] at e;cases e),λb nq e=>?_⟩ λa o e=>?_) qt (λp aL=>?_) PQ PK Hd
  ·have lt:=c_ e;rw[Hc b (uR b n) (e3 (i' lt BL)) (e3 (Nat.lt_trans (i' lt BL) eL))];exact n
  ·by_cases z:b=P
   ·subst z;exact⟨_,cW _ oe⟩
   ·exact⟨o,aF b o z e⟩
  ·by_cases z:b=P
   ·subst z;rw[eK] at e;cases e;exact⟨_,Bc⟩
   ·exact⟨#[],by rw[aoQ b _ e z];simp⟩
  ·by_cases pQ:a=h'.objs.size
   ·subst pQ;rw[PK] at e;cases e;exact⟨fR _ rfl,⟨_,fR _ rfl⟩,λah ar az aM=>aM _ az⟩
   by_cases gB:a=bX
   ·subst gB;rw[Hd] at e;cases e;refine⟨Qf.at λo e=>cW _ e,?_,λah ar az aM=>az.at aM⟩;obtain⟨dj,o,vs,t,aM,aJ,_⟩:=Qf;cases aM;exact⟨o,cW _ aJ⟩
   by_cases zS:a=P
   ·subst zS;rw[Bc] at e;cases e;exact cW _ oe
   ·rw[Hc a zS gB pQ] at e;refine (I.bL a o e).kc (λb u af q=>aF b u ?_ q) (λb q=>aoQ b _ q λz=>by (rw[z,eK] at q;cases q)) λb xs q=>aoQ b _ q λz=>by (rw[z,eK] at q;cases q)
    rcases af with rfl|af
    ·exact zS
    ·exact λz=>by rw[z,eK] at af;cases af
  ·by_cases z:p.1=P
   ·have aM:=un p aL z;obtain⟨nk,eT⟩:=p;simp only at z aM;subst z aM;refine⟨_,Bc,by rw[Array.toList_append];exact TriplesOk_snoc _ _ _ _ bp,λpos cv e=>?_⟩;rw[Array.toList_append] at e;rcases ajj _ bp e with e|e
    ·obtain⟨dj,az,aM⟩:=bq pos cv e;exact⟨dj,az,aoQ _ _ aM λz=>by (rw[z,eK] at aM;cases aM)⟩
    ·exact⟨bX,e,Hd⟩
   ·obtain⟨nq,aQ,bu,df⟩:=d p aL;refine⟨nq,aoQ _ _ aQ z,bu,λpos cv e=>?_⟩;obtain⟨dj,az,aM⟩:=df pos cv e;exact⟨dj,az,aoQ _ _ aM λz=>by (rw[z,eK] at aM;cases aM)⟩
end
section
variable [cB]
noncomputable def lS(qual:Str)(scope:Scope)(L q:ak)(cd:aq)(cl:List (Str×ak)):Env:=
 {scope:=scope,locals:=L,globals:=i_,cells:=cl,qual:=qual++".<locals>.",func:=some q,code:=cd,frame:=some L,builtins:=builtinsNs}
noncomputable def m7(P:cA)(w:b_)(K:bc)(mg:Str->Option aq)(base:bM)(N:List Str)(qual:Str)(scope:Scope)(q:ak)(cd:aq)(cl:List (Str×ak))(A:cw)(outer:List Env)(s:aH)(H:aB):a3 where
 prog:=P
 w:=w
 K:=K
 mg:=mg
 base:=base
 A:=A.deeper (lS qual scope s.heap.objs.size q cd cl)
 N:=N
 dq:=s
 aY:=H
 env:=lS qual scope s.heap.objs.size q cd cl
 outer:=outer
 stack:=lS qual scope s.heap.objs.size q cd cl::outer
 ex:=[]
 calm:=true
 fn:=λ_=>false
 dx:=[]
 dm:=λ_ _=>False
structure qS(N:List Str)(scope:Scope)(cl:List (Str×ak))(σ:bA.St)(H:aB)(h:bM):Prop where
 inj:∀x y c,cl.lookup x=some c->cl.lookup y=some c->x=y
 has:∀x,(scope.names.lookup x=some .cell\/scope.names.lookup x=some .free)->∃c,cl.lookup x=some c
 sA:∀x c,cl.lookup x=some c->(∃v,h.IsCell c v)/\H c=none
 len:σ.length=N.length
 val:∀(i:Nat) (x:Str) (v:V),N[i]?=some x->σ[i]?=some (some v)->oX scope x->∃u c,RelV v u/\scope.names.lookup x=some .free/\cl.lookup x=some c/\h.IsCell c (some u)
def DW{h h':bM}{c:ak}{v:Option aq}(x:h.IsCell c v)(k:∀b o,h.get? b=some o->h'.get? b=some o):h'.IsCell c v:=by
 obtain⟨o,aJ,hd⟩:=x;exact⟨o,k _ _ aJ,hd⟩
section
variable {P:cA}{w:b_}{K:bc}{mg:Str->Option aq}{base:bM}{k:Nat}{q bX:ak}{N:List Str}{qual:Str}{scope:Scope}{cd:aq}{cl:List (Str×ak)}{A:cw}{outer:List Env}{s:aH}{H:aB}{σ:bA.St}
def SD{ah:bM}{tk:Nat}{m:Str->Option aq}(aI:scope.kind=.function)(hd:A.handled=none)(bO:kR P w K mg base A outer s H)(C:qS N scope cl σ H s.heap)(mn:ah.Ns s.heap.objs.size m)(aF:∀b o,s.heap.get? b=some o->ah.get? b=some o):
  Inv (m7 P w K mg base N qual scope q cd cl A outer s H) [] σ H {s with heap:=ah,toks:=tk}:=by
 have nj:∀b:ak,b∉(m7 P w K mg base N qual scope q cd cl A outer s H).ex:=λb z=>absurd (show b∈([]:List ak) from z) (by simp);refine⟨⟨bO.mod,aI,rfl,rfl,dQ _,C.inj,C.has,λy c hf _=>(by cases hf),λ_=>hd,Around.frames_deeper bO.frames,.inr ⟨rfl,rfl⟩,λb z=>absurd z (nj b),bO.bs,bO.m4,λb _ _=>nj b,λb z=>absurd z (nj b),bO.ky,bO.n7⟩,
  rfl,bO.bare,f6.kept aF,⟨m,mn,λi y v ah ar br=>?_⟩,λy c h=>?_,bO.bL.fresh (dQ _),λy c h=>(C.sA y c h).2,λp aL=>absurd (show p∈([]:List (ak×Obj)) from aL) (by simp),bO.bL.kept aF,C.len⟩
 ·obtain⟨u,c,c1,hf,aw,hx⟩:=C.val i y v ah ar br;exact⟨u,c1,.inr ⟨.inr hf,c,aw,DW hx aF⟩⟩
 ·obtain⟨⟨v,bh⟩,_⟩:=C.sA y c h;exact⟨v,DW bh aF⟩
def ajV{params:Arguments}{body:bx}{pm gS:aq}{f:jg}{Q:c3}{E:fb}(aI:scope.kind=.function)(n':scope.isCoroutine=false)(oa:scope.isGenerator=false)(iw:∀x∈scope.names,x.2≠.cell)
  (af:∀(A:cw) (outer:List Env) (s:aH) (H:aB),da k (A.deeper (unop%WF 0))->m2 (m7 P w K mg base N qual scope q (.ref bX) cl A outer s H) body f)
  (bd:bindArgs (PySem.W.kla_fn "<lambda>" qual params body scope cl pm (.ref bX) gS) ⟨[],[]⟩=pure [])
  (ay:da (k+1) A) (bO:kR P w K mg base A outer s H) (a5:H q=some (oh (PySem.W.kla_obj "<lambda>" qual params body scope cl pm bX gS) q)) (aw:H bX=some (ug bX qual)) (C:qS N scope cl σ H s.heap)
  (h:zv K f σ H Q):hT (bG P w) A (.call (.ref q) ⟨[],[]⟩) (oN dH outer P w H s Q E) s:=by
 have y6:s.heap.NoLimit:=bO.mod.nolimit.keeps λb o e=>(bO.bs b o e).1;refine PySem.W.kla_callFunE ay.depth (bO.bL q _ a5).1 rfl n' oa rfl (bO.bL bX _ aw).1 ?_;rw[bd];refine b2 (Dl iw (λx hx=>by cases hx) (λe9 mn ph=>⟨y6.fresh _ ph,?_⟩) aI);have aF:∀b o,s.heap.get? b=some o->e9.get? b=some o:=λb o e=>ph.extBut b o (e3 (c_ e)) (cW _ e);show hT _ _ (.expr body (unop%WF 0)) _ _;refine PySem.W.kla_codeExpr ?_;have I:Inv (m7 P w K mg base N qual scope q (.ref bX) cl A outer s H) [] σ H {s with heap:=e9,toks:=s.toks+([]:List (Str×aq)).length}:=SD aI ay.hd bO C mn aF;refine et (af A outer s H (ay.deeper _) [] _ σ H (λv ag=>Q v ag) I h) (λu s' aA=>?_) λe s' aA=>(show False from aA).elim;obtain⟨v,ag,J,bW,K9⟩:=aA;exact⟨v,ag,J.os,J.bare,J.base,J.bL,bW,K9⟩
end
end
section
variable [cB]
def T3{P:cA}{w:b_}{K:bc}{mg:Str->Option aq}{base:bM}{k:Nat}{x qual:Str}{st:Stmt}{f:ak}{fd:eo}{N ps:List Str}{A:cw}{outer:List Env}{s:aH}{H:aB}{us:List aq}{vs:List V}{Q:c3}{E:fb}
  (F:cL K x qual st f fd) (S:cZ N ps (bR st)) (bd:gh K fd ps []) (ay:da (k+1) A) (bO:kR P w K mg base A outer s H) (r:Vals vs us) (aG:vs.length=ps.length)
  (rg:∀b1:aq,da k (unop%W5 0)->∃t,fY (unop%W3 0).d_ (fv st) t/\t {bI:=λ_ ag=>Q .dT ag,dn:=Q} (start N vs) H):
  hT (bG P w) A (.call (.ref f) ⟨us,[]⟩) (oN dH outer P w H s Q E) s:=by
 obtain⟨g0,eh,dI,doc,pm,an,b1,cQ,ka,rfl,lk,eg⟩:=F.ex;have aaJ:us.length=ps.length:=by rw[<- r.length];exact aG
 have lL:K.In s.heap:=bO.mod.pq.keeps λb o e=>(bO.bs b o e).1;have lim:s.heap.NoLimit:=bO.mod.nolimit.keeps λb o e=>(bO.bs b o e).1;have af:=bd s us lL (by rw[kO];exact aaJ);rw[kO] at af;have Ib:∀y∈ps.zip us,(bR st).names.lookup y.1=some .local\/((bR st).names.lookup y.1=some .cell/\((cellsFrom (unop%Ws 0) (bR st).names []).lookup y.1).isSome=true):=λ⟨n,v⟩ a6=>by
  rcases S.par n (List.of_mem_zip a6).1 with q|q
  ·exact .inl q
  ·exact .inr ⟨q,PySem.W.cellsFrom_some _ _ _ (.inl q)⟩
 refine codeAny_call_function ay.depth (lL _ _ lk) rfl S.co S.gen rfl (PySem.W.codeRec_of lL eg) (af _ _ _ _ ?_)
 refine wpAny_newFunctionEnv_cells S.kind Ib λenv he s1 x=>?_
 subst he;refine⟨lim.keeps x.toInCall.keep,codeAny_func ?_⟩;obtain⟨t,bp,a5⟩:=rg b1 (ay.deeper _);have I:Inv (unop%W3 0) [] (start N vs) H s1:=S_ S ay.hd bO aG r x;refine et (bp.d_ [] s1 (start N vs) H _ I a5) (λdu s' aA=>?_) λe s' aA=>aA;have fin:∀{ck:bA.St} {ag:aB} {v:V} {u:aq},Inv (unop%W3 0) [] ck ag s'->RelV v u->Q v ag->AL outer P w H s Q u s':=
  λ{ck ag v u} J bW q=>⟨v,ag,J.os,J.bare,J.base,J.bL,bW,q⟩
 cases du with
|ret u=>
  obtain⟨v,ck,ag,J,bW,q⟩:=aA;exact fin J bW q
|next=>
  obtain⟨ck,ag,J,q⟩:=aA;exact fin (v:=V.dT) (u:=Value.none) J rfl q
|brk=>
  obtain⟨_,_,_,q⟩:=aA;exact d8 q
|cont=>
  obtain⟨_,_,_,q⟩:=aA;exact d8 q
noncomputable def Vz(X:a3)(i:Nat):TE:=λσ H Q=>∃q,σ[i]?=some (some (.ref q))/\(∃(o:Obj) (fd:eo),H q=some (oh o q)/\o.data=.func fd) /\
 ∀(ao:List (ak×Obj)) (s:aH),Inv X ao σ H s->hT (unop%Wk 0) X.A (.call (.ref q) ⟨[],[]⟩) (oN dH X.stack X.prog X.w H s Q ku) s
def alG{X:a3}{i:Nat}{x:Str}{p pos:Pos}(bg:b0 X (.Name x p) (g4 i)):b0 X (.Call (.Name x p) [] [] pos) (Vz X i):=by
 intro ao s σ H Q I ⟨q,a5,⟨o,fd,aJ,H6⟩,aw⟩;refine nF (cK (bg ao s σ H (λv H1=>v=.ref q/\H1=H) I ⟨.ref q,a5,rfl,rfl⟩) λv s1 hqq=>?_);obtain⟨y,H1,bj,bC,fN,ht⟩:=hqq;subst fN;subst ht;cases bC;have cp:PySem.W.FnAt q s1.heap:=by
  have ah:s1.heap.get? q=some o:=(bj.bL q _ aJ).1;obtain⟨c,p7,ye,cz⟩:=o;cases H6;exact⟨_,_,_,_,ah⟩
 refine PySem.W.callWith_F0 cp ?_
 refine qD (nH (aw ao s1 bj) λr s' a5=>?_)
 cases r with
|error e=>exact d8 a5
|ok du=>
  cases du with
  |ret u=>exact bj.after a5
  |next=>exact d8 a5
  |brk=>exact d8 a5
  |cont=>exact d8 a5
end
section
variable [cB]
def amG{X:a3}{body:List Stmt}{h₀:ExceptHandler}{aA:List ExceptHandler}{pos:Pos}{t:f5}(af:fY X body t)(hx:X.dm=λ_ _=>False:=by rfl):h2 X (.Try body (h₀::aA) [] [] pos) t:=by
 intro ao s σ H D I h;refine wpAny_Try_except (et (af ao s σ H D I h) (λf s1 aA=>?_) λe s1 he=>?_)
 ·cases f with
  |next=>exact wpAny_execs_nil aA
  |ret u=>exact aA
  |brk=>exact aA
  |cont=>exact aA
 ·rw[hx] at he;exact he.elim
def S9{aE ex:List ak}{H ag:aB}{h h':bM}{c:ak}{v:Option aq}(u:f6 aE ex H ag h h')(x:h.IsCell c v)(aw:H c=none)(he:c∉ex):h'.IsCell c v:=by
 obtain⟨o,aJ,hd⟩:=x;by_cases hf:c∈aE
 ·obtain⟨cz,e⟩:=u.slot c o aJ aw hf he;exact⟨_,e,hd⟩
 ·exact⟨o,u.keep c o aJ aw hf he,hd⟩
def UK{X:a3}{ao:List (ak×Obj)}{σ:bA.St}{H:aB}{s:aH}{scope:Scope}(I:Inv X ao σ H s)(iw:∀x∈scope.names,x.2≠.cell/\x.2≠.local)(iZ:∀x∈scope.names,x.2=.free->X.env.scope.names.lookup x.1=some .cell):
  qS X.N scope (unop%WL 0) σ H s.heap:=by
 have aG:∀x∈scope.names,x.2=.free->∃c,X.env.cells.lookup x.1=some c:=λx hx hf=>I.ok.has x.1 (.inl (iZ x hx hf));have fr:∀x c,(unop%WL 0).lookup x=some c->X.env.cells.lookup x=some c:=xc aG λx c e=>by cases e
 refine⟨λx y c ah ar=>I.ok.inj x y c (fr x c ah) (fr y c ar),λx h=>?_,λx c h=>⟨I.cell x c (fr x c h),I.aoI x c (fr x c h)⟩,I.len,λi x v ah ar br=>?_⟩
 ·rcases h with h|h
  ·obtain⟨y,a6,az,aM⟩:=oH h;exact absurd az (iw y a6).1
  ·obtain⟨y,a6,az,aM⟩:=oH h;exact tq (.inl ⟨y,a6,az,aM⟩)
 ·have hf:scope.names.lookup x=some .free:=by
   rcases br with h|h|h
   ·obtain⟨y,a6,az,_⟩:=oH h;exact absurd az (iw y a6).2
   ·obtain⟨y,a6,az,_⟩:=oH h;exact absurd az (iw y a6).1
   ·exact h
  obtain⟨y,a6,az,aM⟩:=oH hf;have aI:X.env.scope.names.lookup x=some .cell:=by rw[<- aM];exact iZ y a6 az
  obtain⟨m,_,bh⟩:=I.loc;obtain⟨u,c1,lk⟩:=bh i x v ah ar (.inr (.inl aI));obtain⟨c,aw⟩:=tq (env:=X.env) (l:=scope.names) (cs:=[]) (x:=x) (.inl ⟨y,a6,az,aM⟩);refine⟨u,c,c1,hf,aw,?_⟩;rcases lk with ⟨Ia,_⟩|⟨_,dj,kB,hx⟩
  ·have:X.env.scope.names.lookup x=some .local:=Ia;rw[aI] at this;cases this
  ·rw[fr x c aw] at kB;cases kB;exact hx
noncomputable def EU(f:jg):jg:=λai=>(f ai).map λr=>(.tuple [.str "told",r.1],r.2)
noncomputable def NW(Y:a3):f5:=C4 (s9 (wL (iK (jT (.str "told")) (iK (Vz Y 0) mB))) (tP 1)) (Rk (g4 1))
def amh{X:a3}{k:Nat}{x:Str}{st:Stmt}{cp:ak}{fd:eo}{l6 pH:Str}{Fp:List Str}{params:Arguments}{body:bx}{scope:Scope}{hQ p pos:Pos}{c jB:ak}{f:jg}
  (F:cL X.K x x st cp fd) (S:cZ (l6::pH::Fp) [l6] (bR st)) (bd:gh X.K fd [l6] []) (hm:X.mg x=some (.ref cp))
  (bp:∀(b1:aq) (A:cw) (outer:List Env) (s:aH) (H:aB),fY (fx dH X.prog X.w X.K X.mg X.base (l6::pH::Fp) x (bR st) cp b1 A outer s H ku).d_ (fv st) (NW (fx dH X.prog X.w X.K X.mg X.base (l6::pH::Fp) x (bR st) cp b1 A outer s H ku).d_))
  (ri:X.env.code=.ref c) (C:PySem.W.CodeHd X.base c jB) (iv:nV X.mg X.base) (dg:(jB,X.env.qual++"<lambda>")∈cB.dg) (un:∀p∈cB.dg,p.1=jB->p.2=X.env.qual++"<lambda>")
  (aI:scope.kind=.function) (n':scope.isCoroutine=false) (oa:scope.isGenerator=false) (iw:∀x∈scope.names,x.2≠.cell/\x.2≠.local) (iZ:∀x∈scope.names,x.2=.free->X.env.scope.names.lookup x.1=some .cell)
  (v5:∀(cl:List (Str×ak)) (pm:aq) (bX:ak) (gS:aq),bindArgs (PySem.W.kla_fn "<lambda>" (unop%WS 0) params body scope cl pm (.ref bX) gS) ⟨[],[]⟩=pure [])
  (ay:da (k+2) X.A)
  (af:∀(q bX:ak) (cl:List (Str×ak)) (A:cw) (outer:List Env) (s:aH) (H:aB),da k (unop%Wu 0)->m2 (m7 X.prog X.w X.K X.mg X.base X.N (unop%WS 0) scope q (.ref bX) cl A outer s H) body f)
  (bq:ee X x:=by rfl) (hg:(x==("__debug__":Str))=false:=by decide) (sN:defaultsOf params X.env=([],[]):=by rfl)
  (he:bl [.Lambda params body scope hQ] X.env=(false,eval (.Lambda params body scope hQ) X.env)::bl [] X.env:=by rfl):
  m2 X (.Call (.Name x p) [.Lambda params body scope hQ] [] pos) (EU f):=by
 intro ao s σ H Q I ⟨aK,E,O,aD,ai,t,ε',r,e,b5⟩;simp only[EU,dO] at e;obtain⟨⟨t0,kq⟩,sD,e⟩:=e;cases e;refine nF (vD I bq hm ?_ hg);refine PySem.W.callWith_K (h₀:=X.base) I.ok.mod.pq F.aF ?_ he rfl;rw[he];show a_ _ _ (spliced ((false,eval (.Lambda params body scope hQ) X.env)::[])) _ _ s;have aG:∀x∈scope.names,x.2=.free->∃c,X.env.cells.lookup x.1=some c:=λx hx hf=>I.ok.has x.1 (.inl (iZ x hx hf));refine Calls.spliced_cons (M1 I ri C iv sN (DO aG) r.b'.aoN dg un λq bX gS H1 s1 bj qt zw wx a5 aw=>Calls.spliced_nil ⟨bj.j9,?_⟩);have aU:Ext aD H aD H1:=⟨qt,λ_ h=>h,λ_ h=>.inl h,⟨λa aC=>by
  obtain⟨o,aJ⟩:=r.b'.v7 a aC;exact qt.ne aJ,zw⟩⟩
 have fin:hT (unop%Wk 0) X.A (.call (.ref cp) ⟨[.ref q],[]⟩) (oN dH X.stack X.prog X.w H1 s1 Q ku) s1:=by
  refine T3 (k:=k+1) (vs:=[.ref q]) F S bd ay bj.um (.cons rfl .nil) rfl λb1 rp=>⟨_,bp b1 X.A X.stack s1 H1,?_⟩
  refine⟨q,rfl,⟨_,_,a5,rfl⟩,λCI s2 ct=>?_⟩
  have caps:qS X.N scope (unop%WL 0) σ H1 s2.heap:=by
   have cV:=UK bj iw iZ;have aF:∀{a:ak} {v:Option aq},s1.heap.IsCell a v->H1 a=none->s2.heap.IsCell a v:=λ{a v} z n=>S9 ct.base z n (by intro z;exact absurd (show a∈([]:List ak) from z) (by simp));refine⟨cV.inj,cV.has,λx c h=>?_,cV.len,λi x v ah ar br=>?_⟩
   ·obtain⟨⟨v,bh⟩,bg⟩:=cV.sA x c h;exact⟨⟨v,aF bh bg⟩,bg⟩
   ·obtain⟨u,c,c1,hf,kB,hx⟩:=cV.val i x v ah ar br;exact⟨u,c,c1,hf,kB,aF hx (cV.sA x c kB).2⟩
  refine ajV aI n' oa (λx hx=>(iw x hx).1) (af q bX _) (v5 _ _ _ _) rp ct.um a5 aw caps ?_
  refine⟨aK,E,O,aD,ai,t0,kq,r.ext aU,sD,λv dC bB qm b4 bW=>?_⟩
  refine⟨by show 2<=cj;decide,λpp aL=>⟨.ref pp,rfl,?_⟩⟩
  have gM:=Ext.laid (o:=.tup [.str "told",v]) b4.b' aL;refine b5 _ dC _ ((aU.aF.trans qm).trans gM.aF) (b4.ext gM) ?_;simp only[Rep];exact⟨pp,_,rfl,dc.of dV,bH.cons (by simp[Rep]) (bH.cons (bW.ext gM) bH.nil)⟩
 refine qD (nH fin λr s' a5=>?_)
 cases r with
|error e=>exact d8 a5
|ok du=>
  cases du with
  |ret u=>exact bj.after a5
  |next=>exact d8 a5
  |brk=>exact d8 a5
  |cont=>exact d8 a5
end
section
noncomputable def E6(ts:List ak)(H:aB):Prop:=(∀b,H b=none\/(∃o xs,H b=some (.pd o (.lst xs)))\/(b∈ts/\H b=some (.iF #[])))/\∀b∈ts,H b=some (.iF #[])
def ajS{P:cA}{w:b_}{K:bc}{mg mv:Str->Option aq}{ek:mU}{k:Nat}{cp a:ak}{fd:eo}{x:Str}{sp:kU}{c6:aH}{vs:List aq}{ns:List Int}{ts:List ak}
  (lL:K.In c6.heap) (qk:∀b∈ts,c6.heap.get? b=some (PySem.W.tabObj #[])) (yu:∀b∈ts,K.lookup b=none) (eg:∀b∈ts,∃c,rT K c b=true)
  (mn:c6.heap.Ns i_ mg) (af:c6.heap.Ns builtinsNs mv) (_E:∀x:Str,x≠"__name__"->mv x=bootBuiltins x) (aaj:c6.heap.NoLimit) (bq:c6.gens=#[])
  (aC:c6.heap.get? a=some {cls:=.type "list",data:=.seq vs.toArray}) (aP:IntsAre vs ns) (aG:ns.length<=cj) (ay:da k callerA)
  (iv:nV mg c6.heap) (F:∀base:bM,K.In base->base.Ns i_ mg->nV mg base->e5 P w K mg base ek k cp fd [x] sp) (_F:∀(s:aH) (u:aq),BindsTo s fd ⟨[u],[]⟩ [(x,u)])
  (sQ:∀H:aB,E6 ts H->fG K H a (ns.map V.int)->sp [.ref a] H (λv _=>v=.b3 true) λ_ _ _=>False)
  (HN:∀H e s',ek [] H c6 (λ_ _ _=>False) e s'->False):
  hT (bG P w) callerA (.call (.ref cp) ⟨[.ref a],[]⟩) (λr s'=>r=.ok (.ret (.bool true))/\OldK c6.heap s'.heap/\s'.os=c6.os/\AllBare s'.gens) c6:=by
 have bW:=SQ aP;have abY:=aP.length;have nat:a∉ts:=λz=>by
  have:=qk a z;rw[aC] at this;cases this
 have core:∀H:aB,E6 ts H->fG K H a (ns.map V.int)->eP P w H c6.heap->(∀b,H b≠none->b=a\/b∈ts)->(H a≠none->K.lookup a=none) ->
   hT (bG P w) callerA (.call (.ref cp) ⟨[.ref a],[]⟩) (λr s'=>r=.ok (.ret (.bool true))/\OldK c6.heap s'.heap/\s'.os=c6.os/\AllBare s'.gens) c6:=by
  intro H k6 eD bL sI iX;have Gg:∀{b:ak} {o:Obj},c6.heap.get? b=some o->H b=none->(qg c6.heap H).get? b=some o:=λe n=>ak4 e n;have nj:∀{b:ak} {o:Obj} {es:Array DictEntry} {ep:Nat},c6.heap.get? b=some o->o.data=.dict es ep->H b=none:=λ{b o es ep} e d=>by
   cases q:H b with
   |none=>rfl
   |some u=>
    rcases sI b (by rw[q];simp) with bD|bD
    ·subst bD;rw[aC] at e;cases e;have d':Data.seq vs.toArray _=Data.dict es ep:=d;cases d'
    ·rw[qk b bD] at e;cases e;have d':Data.fields _=Data.dict es ep:=d;cases d'
  have CB:∀{b:ak} {m:Str->Option aq},c6.heap.Ns b m->(qg c6.heap H).Ns b m:=λ{b m} ⟨o,es,ep,e,d,r⟩=>⟨o,es,ep,Gg e (nj e d),d,r⟩;have PU:K.In (qg c6.heap H):=λb o e=>Gg (lL b o e) (by
   cases q:H b with
   |none=>rfl
   |some u=>
    rcases sI b (by rw[q];simp) with bD|bD
    ·subst bD;rw[iX (by rw[q];simp)] at e;cases e
    ·rw[yu b bD] at e;cases e)
  have _G:nV mg (qg c6.heap H):=by
   obtain⟨bm,dE,b6,b7,dM,kY,q9,oZ⟩:=iv;refine⟨bm,dE,b6,b7,Gg dM ?_,kY,q9,oZ⟩;cases q:H bm with
   |none=>rfl
   |some u=>
    rcases sI bm (by rw[q];simp) with bD|bD
    ·subst bD;rw[aC] at dM;cases dM;cases oZ
    ·rw[qk bm bD] at dM;cases dM;cases oZ
  have _r:Mod K mg (qg c6.heap H):=⟨PU,CB mn,⟨mv,CB af,_E⟩,let ⟨mc,ah,ar⟩:=aaj;⟨mc,CB ah,ar⟩⟩;have bO:kR P w K mg (qg c6.heap H) callerA [] c6 H:=⟨rfl,_r,λb o e=>alT e,Nat.le_of_eq (aj1 _ _),trivial,λb af=>absurd (show b∈([]:List ak) from af) (by simp),bL,.of_eq bq⟩;refine nH ((F _ PU (CB mn) _G).run callerA [] c6 H ⟨[.ref a],[]⟩ [.ref a] [.ref a] _ _ ay bO (_F c6 (.ref a)) (.cons rfl .nil) (sQ H k6 eD)) λr s' h=>?_;cases r with
  |error e=>exact (HN H e s' h).elim
  |ok du=>
   cases du with
   |next=>exact d8 h
   |brk=>exact d8 h
   |cont=>exact d8 h
   |ret u=>
    obtain⟨v,ag,os,bare,un,Qd,cy,q⟩:=h;have eU:v=.b3 true:=q;subst eU;obtain rfl:u=Value.bool true:=cy;refine⟨rfl,⟨λb o e=>?_,λb o e=>un.there b o e (by simp)⟩,os,bare⟩;cases q:H b with
    |none=>exact .inl (un.keep b o e q (by intro z;exact absurd (show b∈([]:List ak) from z) (by simp)) (by simp))
    |some u=>
     rcases k6.1 b with z|⟨dE,xs,z⟩|⟨PX,z⟩
     ·rw[q] at z;cases z
     ·have gB:=un.k4 b dE _ z;obtain⟨az,_⟩:=bL b _ z;obtain⟨aM,_⟩:=Qd b _ gB;rw[e] at az;cases az;exact .inl aM
     ·obtain⟨more,gB⟩:=un.lr b _ z;have aM:s'.heap.get? b=some (PySem.W.tabObj (#[]++more)):=Qd b _ gB;have az:=qk b PX;rw[e] at az;cases az;obtain⟨c,aw⟩:=eg b PX;exact .inr (.inl ⟨((PySem.W.codeHd_of_K lL aw).tab e).isCodeTable,rfl,#[],more,rfl,aM⟩)
 cases aI:K.lookup a with
|some o=>
  have e:=lL a o aI;rw[aC] at e;cases e;refine core (λb=>if b∈ts then some (.iF #[]) else none) ⟨λb=>?_,λb af=>if_pos af⟩ (.inr ⟨_,vs.toArray,_,aI,rfl,rfl,rfl,by rw[eG,abY];exact aG,by simpa using bW⟩) (λb u z=>?_) (λb z=>?_) λz=>?_
  ·by_cases af:b∈ts
   ·exact .inr (.inr ⟨af,if_pos af⟩)
   ·exact .inl (if_neg af)
  ·by_cases af:b∈ts
   ·have jc:=(if_pos af).symm.trans z;cases jc;exact qk b af
   ·have jc:=(if_neg af).symm.trans z;cases jc
  ·by_cases af:b∈ts
   ·exact .inr af
   ·exact absurd (if_neg af) z
  ·exact absurd (if_neg nat) z
|none=>
  refine core (λb=>if b=a then some (.pd {cls:=.type "list",data:=.seq vs.toArray} (.lst (ns.map V.int))) else if b∈ts then some (.iF #[]) else none) ⟨λb=>?_,λb af=>?_⟩ (.inl (.inr ⟨{cls:=.type "list",data:=.seq vs.toArray},if_pos rfl⟩)) (λb u z=>?_) (λb z=>?_) λ_=>aI
  ·by_cases af:b=a
   ·exact .inr (.inl ⟨_,_,if_pos af⟩)
   ·by_cases ml:b∈ts
    ·exact .inr (.inr ⟨ml,(if_neg af).trans (if_pos ml)⟩)
    ·exact .inl ((if_neg af).trans (if_neg ml))
  ·have ne:b≠a:=λz=>nat (z▸af);exact (if_neg ne).trans (if_pos af)
  ·by_cases af:b=a
   ·have jc:=(if_pos af).symm.trans z;cases jc;subst af;exact⟨aC,by rw[fh];exact aG,vs,_,bW,aC⟩
   ·by_cases ml:b∈ts
    ·have jc:=((if_neg af).trans (if_pos ml)).symm.trans z;cases jc;exact qk b ml
    ·have jc:=((if_neg af).trans (if_neg ml)).symm.trans z;cases jc
  ·by_cases af:b=a
   ·exact .inl af
   ·by_cases ml:b∈ts
    ·exact .inr ml
    ·exact absurd ((if_neg af).trans (if_neg ml)) z
def akm{l:PySem.W.OpenLaw}{n k:Nat}{q:cA}{loose:List Str}{vY:(Str->Option aq)->bM->Prop}{p5:b_->bM->Prop}{d:DefRec}{K:Params->bc}{ek:b_->mU}{sp:b_->kU}{x:Str}{ts:List ak}
  (bg:l.most=some n) (BO:n<=cj) (yy:d.params.defaults=[]) (ay:da k callerA)
  (HV:∀(w:b_) (h:bM),p5 w h->(K w.params).In h) (c0:∀(w:b_) (h:bM),p5 w h->∀b∈ts,h.get? b=some (PySem.W.tabObj #[]))
  (yu:∀(w:b_),∀b∈ts,(K w.params).lookup b=none) (eg:∀(w:b_),∀b∈ts,∃c,rT (K w.params) c b=true)
  (F:∀(w:b_) (mg:Str->Option aq) (cp:ak) (h:bM),(K w.params).In h->h.Ns i_ mg->mg d.name=some (.ref cp) ->
   ∃fd:eo,(∀(s:aH) (u:aq),BindsTo s fd ⟨[u],[]⟩ [(x,u)]) /\
    ∀base:bM,(K w.params).In base->base.Ns i_ mg->nV mg base->e5 l.prog w (K w.params) mg base (ek w) k cp fd [x] (sp w))
  (sQ:∀(w:b_) (H:aB) (a:ak) (ns:List Int),ns.length<=n->E6 ts H->fG (K w.params) H a (ns.map V.int)->sp w [.ref a] H (λv _=>v=.b3 true) λ_ _ _=>False)
  (HN:∀(w:b_) (H:aB) (s:aH) (e:aq) (s':aH),ek w [] H s (λ_ _ _=>False) e s'->False):
  PySem.W.WalkO q loose vY p5 l.row.toRowW d [] (λf vs=>PySem.call f vs):=by
 refine N9.Yg bg yy λw dq c6 mg mv cp o pm cd doc a vs ns G Y aJ hd an8 yG Ij hints hlen bq=>?_
 have lL:=HV w _ Y;obtain⟨fd,af,yt⟩:=F w mg cp _ lL G.T.g yG;exact ajS lL (c0 w _ Y) (yu w) (eg w) G.T.g G.T.b G.T.builtins G.T.nolimit bq Ij hints (lz hlen BO) ay G.T.bmain yt af (λH k6 eD=>sQ w H a ns hlen k6 eD) λH e s'=>HN w H c6 e s'
def ajs{t:cB}{K:bc}{H:aB}{a:ak}{ns:List Int}{d:List T->Option T}{ts:List ak}(qk:∀p∈t.dg,p.1∈ts)(k6:E6 ts H)(f':QJ K=true)(hd:d [ec ns]=some (.bool true))(eD:fG K H a (ns.map V.int)):spT K 1 d [.ref a] H (λv _=>v=.b3 true) λ_ _ _=>False:=by
 rcases eD with eD|⟨o,its,n,aI,aw,_⟩
 ·refine⟨rfl,λb=>b=a,[ec ns],.bool true,⟨?_,λp aL=>⟨#[],k6.2 p.1 (qk p aL),trivial,λpos cv e=>by cases e⟩⟩,bH.cons ?_ bH.nil,hd,λv aD ag x r=>by simpa [Rep] using r⟩
  ·rintro b rfl;rcases eD with q|⟨u,q⟩
   ·exact⟨_,q⟩
   ·exact⟨_,q⟩
  ·simp only[ec,Rep];exact⟨a,_,rfl,rfl,eD,SY ns⟩
 ·have:=List.all_eq_true.mp f' _ (Sd aI);simp[aw] at this
end
section
variable [cB]
noncomputable def mO(f:bZ):jg:=λai=>(f ai).map λt=>(t,ai)
noncomputable def rz(o:T->T->Option T)(f g:jg):jg:=λai=>(f ai).bind λr=>(g r.2).bind λs=>(o r.1 s.1).map λz=>(z,s.2)
abbrev W8:=Ev->Option (Bool×Ev)
section
variable {X:a3}{a b e:bx}{es:List bx}{f g:jg}{PM:bZ}{fl:fX}{c d:W8}{pos:Pos}
def EI(h:cT X e PM):m2 X e (mO PM):=eu h<|by
 rintro σ H Q ⟨aK,E,O,F,ai,t,ε',r,e,k⟩
 simp only[mO,dO] at e;obtain⟨t',bY,e⟩:=e;cases e;exact⟨aK,E,O,F,ai,t,r,bY,λv aD ag x bW=>k v aD ag x.aF (r.ext x) bW⟩
def akM{o:T->T->Option T}{R:gC}(h:m1 X.K o R):∀σ H Q,zv X.K (rz o f g) σ H Q->apa R (zv X.K f) (zv X.K g) σ H Q:=by
 rintro σ H Q ⟨aK,E,O,F,ai,t,ε',r,e,k⟩;simp only[rz,cm,dO] at e;obtain⟨⟨x,kq⟩,ex,⟨y,kr⟩,fN,z,e1,e⟩:=e;cases e;refine⟨aK,E,O,F,ai,x,kq,r,ex,λi8 ba H1 abU bk aW=>⟨aK,E,O,ba,kq,y,kr,bk,fN,λi9 dC bB qm b4 bC=>?_⟩⟩;exact h O dC bB x y t i8 i9 Q b4.b' (.inl (aW.aF qm)) (.inl bC) e1 λv aD ag gM df=>k v aD ag ((abU.trans qm).trans gM.aF) (b4.ext gM) df
def Vt{op:CmpOp}{R:gC}{o:T->T->Option T}(aJ:eQ X (iH op) R)(ar:m1 X.K o R)(aC:m2 X a f)(af:m2 X b g)(hm:qC op b=false:=by first|exact EP _|rfl):m2 X (.Compare a [op] [b] pos) (rz o f g):=eu (Us aJ aC af hm) (akM ar)
end
end
section
variable [cB]
def UD{P:cA}{w:b_}{K:bc}{mg:Str->Option aq}{base:bM}{x qual:Str}{st:Stmt}{f:ak}{g0:aq}{eh an:Option ak}{ka:Array (Option aq)}{dI doc pm b1 cQ:aq}{N ps:List Str}{k:Nat}{b:bJ}
  (l:K.lookup f=some ⟨g0,eh,.func (unop%Ww 0),ka⟩) (eg:qA K b1 qual=true) (S:cZ N ps (bR st))
  (af:∀(A:cw) (outer:List Env) (s:aH) (H:aB) (E:fb),da k (unop%W5 0) ->
   j2 (unop%W3 0).d_ (fv st) b):
  e5 P w K mg base dH (k+1) f (unop%Ww 0) ps (spT K ps.length (c2 b N.length)):=by
 refine N3 l eg S (λvs H Q E h=>h.1) λA outer s H vs Q E ay h=>⟨_,(af A outer s H E ay).d_,?_⟩
 obtain⟨aG,F,ts,t,b',q,e,i2⟩:=h;simp only[c2,cm] at e;obtain⟨o,e1,e⟩:=e;refine⟨F,⟨H,0⟩,λa=>H a=none,F,_,o,?_,e1,?_⟩
 ·have:=Mr (N:=N) b' q (N.length - ts.length);unfold bA.start;rw[q.length] at this ⊢;exact this
 ·cases o with
  |dn t'=>
   cases e
   exact λv aD ag x q=>i2 v aD ag x q
  |bI ε'=>
   cases e
   exact λck aD ag _ r=>i2 _ aD ag r.ent (by simp[Rep])
  |gR _=>cases e
  |cQ _=>cases e
  |l0 _ _=>cases e
  |mz _=>cases e
end
section
abbrev pF(dg:List (ak×Str)):cB:=⟨dg,λ_=>[],λ_=>none⟩
def al_{t:cB}{dg:List (ak×Str)}(bp:t.dg=dg){P:cA}{w:b_}{K:bc}{mg:Str->Option aq}{base:bM}{k n:Nat}{f:ak}{fd:eo}{ps:List Str}{d:List T->Option T}(F:e5 P w K mg base dH k f fd ps (@spT t K n d)):e5 P w K mg base dH k f fd ps (@spT (pF dg) K n d):=by
 subst bp;have yc:∀{F:ak->Prop} {H:aB},@fk (pF t.dg) F H->@fk t F H:=λ{F H} h=>@fk.mk t F H (@fk.v7 (pF t.dg) F H h) (@fk.aoN (pF t.dg) F H h);have Za:∀{F:ak->Prop} {H:aB},@fk t F H->@fk (pF t.dg) F H:=λ{F H} h=>@fk.mk (pF t.dg) F H (@fk.v7 t F H h) (@fk.aoN t F H h);refine F.imp λvs H Q E h=>?_;obtain⟨aG,F,ts,r,b',q,e,i2⟩:=h;exact⟨aG,F,ts,r,yc b',q,e,λv aD ag x bW=>i2 v aD ag (@Ext.mk (pF t.dg) F H aD ag (@Ext.same t F H aD ag x) (@Ext.sub t F H aD ag x) (@Ext.new t F H aD ag x) (Za (@Ext.b' t F H aD ag x))) bW⟩
end
end D
end
section
namespace D
open PySem PySem.Spec PySem.Calls PySem.W PyProof.Rows PySem.Builtin PySem.Builtin.ObjectAttr PySem.Builtin.Getset_descriptor
noncomputable def j1(x C:ak)(h:bM):Prop:=∃o vs,h.get? x=some o/\o.cls=.ref C/\o.data=.fields vs
structure sd(K:Frag)(C:ak):Prop where
 cl:(clsIn K C).isSome=true
 ga:findIn K (.ref C) "__getattribute__"=some (some (.builtin "BaseException.__getattribute__"))
 _h:findIn K (.ref C) "__getattr__"=some none
 at_:findIn K (.ref C) "__class__"=some (some (.builtin "object.__class__"))
 sp:specialIn K (.builtin "object.__class__") "__get__"=some (some (.builtin "getset_descriptor.__get__"))
 tk:takesIn K (.builtin "object.__class__")=some true
 mo:mroIn K C (.type "object")=some true
 mv:mroIn K C (.type "BaseException")=some true
section
variable {prog:cA}{w:b_}{A:cw}{E:aq->aH->Prop}{s:aH}{K:Frag}{x C:ak}{R:Result->aH->Prop}
def j1.type{M:Model}{h:bM}(I:j1 x C h):Looks M h (typeOf (.ref x)) (.ref C):=by
 obtain⟨o,vs,ah,ar,br⟩:=I;exact ar▸(Looks.ld ah).andThen .now
def al'{Ly:aq}(X:K.In s.heap)(I:j1 x C s.heap)(hm:mroIn K C (.type "object")=some true)
  (h:R (.ok (.ret (.ref C))) s):hT (bG prog w) A (.call (.builtin "getset_descriptor.__get__") ⟨[.builtin "object.__class__",.ref x,Ly],[]⟩) R s:=by
 obtain⟨cR,g,n4,t,os⟩:=s;have sg:=I.type (M:=bG prog w);have lM:=looks_mroIn (M:=bG prog w) X hm;refine codeAny_call_builtin KF.slot_gs.plain KF.entry_gs (KF.slot_gs.check _ _ _ _ _ _ _ _ KF.type_class (KF.args_gs _ _ _) ?_);unfold Builtin.«getset_descriptor.__get__» descrGet;rw[dga_obj];refine aN (b2 ?_);unfold descrGetter descrCheckInstance descrNameAndClass isInstance;simp only[KF.owner_class];obtain⟨o,vs,ah,ar,br⟩:=I
 repeat lk
 refine⟨Code.quiet_builtin _ (by decide +kernel),pM KF.entry_class ?_⟩
 unfold Builtin.«object.__class__» shownTypeOf
 repeat lk
 exact h
def ak7{M:Model}{h:bM}(X:K.In h)(O:sd K C):Looks M h (find (.ref x) (.ref C) "__class__") (.bind (.builtin "getset_descriptor.__get__") (.builtin "object.__class__")):=by
 have lM:=looks_findIn (M:=M) X O.at_;have bA:Looks M h (getOf (some (.builtin "object.__class__"))) (some (.builtin "getset_descriptor.__get__")):=looks_specialIn X O.sp;have Fn:=looks_takesIn (M:=M) X O.tk;refine lM.andThen (bA.andThen ?_);exact (show Looks M h (dataDescriptor? (some (.builtin "object.__class__")) (some (.builtin "getset_descriptor.__get__"))) (some (.builtin "getset_descriptor.__get__",.builtin "object.__class__")) from Fn.andThen .now).andThen (Looks.tag .now)
def aj6{tk:Tok}{Q:Fin->aH->Prop}(X:K.In s.heap)(I:j1 x C s.heap)(O:sd K C)(a5:Q (.done (.ret (.ref C))) s):
  a_ (bG prog w) A (Builtin.«object.__getattribute__» ⟨[.ref x,.str "__class__" tk],[]⟩) Q E s:=by
 obtain⟨cR,g,n4,t,os⟩:=s;have sg:=I.type (M:=bG prog w);have lM:=ak7 (x:=x) (M:=bG prog w) X O;unfold Builtin.«object.__getattribute__»;refine aN (b2 (a:=(Value.ref x,[Value.str "__class__" tk])) (aN (b2 (a:=("__class__":Str)) ?_)));refine aN (sg.at (aN (lM.at ?_)));show a_ _ _ (holding [Value.builtin "object.__class__"] (call (Value.builtin "getset_descriptor.__get__") [Value.builtin "object.__class__",Value.ref x,Value.ref C]) >>= ret) _ _ _;exact aN (jb (qD (al' X I O.mo (b2 a5))))
def aj8{M:Model}{tk:Tok}{Q:Unit->aH->Prop}(X:K.In s.heap)(I:j1 x C s.heap)(O:sd K C)(a5:Q () s):
  a_ M A (checkBuiltinCall "BaseException.__getattribute__" ⟨[.ref x,.str "__class__" tk],[]⟩) Q E s:=by
 obtain⟨cR,g,n4,t,os⟩:=s;have sg:=I.type (M:=M);have lM:=looks_mroIn (M:=M) X O.mv;have Fo:Looks M cR (isInstance (.ref x) (.type "BaseException")) true:=sg.andThen lM;have aaE:splitId "BaseException.__getattribute__"=some ("BaseException","__getattribute__"):=by decide +kernel
 have aI:builtinKind "BaseException.__getattribute__"=some .slot:=by decide +kernel
 have aC:=PySem.F.args_bexc_ga (.ref x) (.str "__class__" tk);simp only[checkBuiltinCall,aI,aaE];refine aN (Fo.at ?_);simp only[Bool.not_true,lA,if_false];cases aaC:Manifest.signature? "BaseException.__getattribute__" with
|none=>exact b2 a5
|some sig=>
  simp only[argsOk,aaC] at aC;have ar:Bind.checkArgs "BaseException.__getattribute__" sig ⟨[.ref x,.str "__class__" tk],[]⟩=pure ():=aC;show a_ M A (Bind.checkArgs "BaseException.__getattribute__" sig ⟨[.ref x,.str "__class__" tk],[]⟩) Q E _;rw[ar];exact b2 a5
def aj7{Q:Option aq->aH->Prop}(X:K.In s.heap)(I:j1 x C s.heap)(O:sd K C)(a5:Q (some (.ref C)) {s with toks:=s.toks+1}):
  a_ (bG prog w) A (getAttr? (.ref x) "__class__") Q E s:=by
 obtain⟨cR,g,n4,t,os⟩:=s;have sg:=I.type (M:=bG prog w);have lM:=looks_findIn (M:=bG prog w) X O.ga;have bA:=looks_findIn (M:=bG prog w) X O._h;unfold getAttr? getAttrBy? getAttrBy;refine aN (wpAny_mkText (aN (wpAny_attempt (jb (aN (sg.at (aN (lM.at ?_))))))));show a_ _ _ (getAttrByItsOwn _ _ _ _ _ _) _ _ _;unfold getAttrByItsOwn;refine aN (bA.at ?_);refine aN (wpAny_attempt (jb ?_));show a_ _ _ (boundAndCalled _ _ _) _ _ _;unfold boundAndCalled;rw[PySem.F.excAttr_ValueError.ga.bind];refine aN (b2 ?_);refine qD (codeAny_call_builtin PySem.F.excAttr_ValueError.ga.plain PySem.F.entry_bexc_ga (aj8 X I O (aj6 X I O ?_)));exact b2 (b2 a5)
def akZ(O:sd K C):KitX K (.ref x) (.ref C) (j1 x C) where
 ty:=λ_ _ _ I=>I.type
 it:=λ_ _ X _=>by
  have rh:=O.cl;unfold clsIn at rh;split at rh
  ·rename_i bX d' OK CW aJ
   intro VJ AX mW s' k q;unfold isType loadHead;exact aN (wpAny_loadPart (k _ _ (X _ _ aJ)) (b2 q))
  ·cases rh
 ne:=λh Ly dd its n cz X aaG=>by
  have rh:=O.cl;refine Bool.eq_false_iff.mpr λq=>?_;have e:C=Ly:=Value.ref.inj (beq_iff_eq.mp q);subst e;unfold clsIn at rh;split at rh
  ·rename_i bX d' OK CW aJ
   have z:=(X _ _ aJ).symm.trans aaG;cases z
  ·cases rh
 ca:=λX I k=>aj7 X I O k
end
end D
end
section
namespace D
open PySem PySem.Spec PyProof.Rows bA
section
structure Fc(P:cA)(w:b_)(outer:List Env)(H:aB)(s:aH)(C:ak)(ag:aB)(ea:ak)(q6:aq)(B:bM)(s':aH):Prop where
 os:s'.os=s.os
 bare:AllBare s'.gens
 wg:Heap.FlyingW B outer ea (.ref C) q6 s'.heap
 bL:eP P w ag B
 un:f6 (fc outer) [] H ag s.heap s'.heap
 q_:∀b o,s.heap.get? b=some o->H b=none->b∉fc outer->B.get? b=some o
 u4:∀b o,s.heap.get? b=some o->b∉fc outer->∃o',B.get? b=some o'
noncomputable def E7(P:cA)(w:b_)(outer:List Env)(H:aB)(s:aH)(C:ak)(ag:aB)(e:aq)(s':aH):Prop:=∃ea q6 B,e=.ref ea/\Fc P w outer H s C ag ea q6 B s'
noncomputable def mT(P:cA)(w:b_):mU:=λouter H s E e s'=>∃C ag,E7 P w outer H s C ag e s'/\E (.ref C) none ag
noncomputable def Vp(X:a3)(H:aB)(s:aH)(C:ak)(ag:aB)(e:aq)(s':aH):Prop:=
 (ag=H/\∃ea args ar,e=.ref ea/\s'={s with heap:=ar}/\Heap.MadeExcOf s.heap ar ea (.ref C) args)\/E7 X.prog X.w X.stack H s C ag e s'
noncomputable def x5(X:a3)(C:ak)(ag:aB):Prop:=∀(ao:List (ak×Obj)) (σ:bA.St) (H:aB) (s:aH) (e:aq) (s':aH),Inv X ao σ H s->Vp X H s C ag e s'->X.dm e s'
def SI{h h' base:bM}{l:List Env}{b:ak}{o:Obj}(F:h.FunFrames base l)(af:b∈fc l)(e:h.get? b=some o)(k:h.UpToSlots h'):∃cz,h'.get? b=some {o with slots:=cz}:=by
 obtain⟨_,o',bD,hd⟩:=F.mem af;rw[e] at bD;cases bD;exact k b o e hd
def Fc.on{P:cA}{w:b_}{outer:List Env}{H ag:aB}{s s':aH}{C ea:ak}{q6:aq}{B sG:bM}(x:Fc P w outer H s C ag ea q6 B s')(st:B.StaysIn sG)(k:s'.heap.UpToSlots sG):
  f6 (fc outer) [] H ag s.heap sG/\eP P w ag sG:=by
 refine⟨⟨λb o e n f _=>st _ _ (x.q_ b o e n f),λb o e n f hx=>?_,λb o e n hx=>x.un.free b o e n hx,λb o e hx=>?_,x.un.l4,x.un.k4,x.un.lr⟩,x.bL.kept st⟩
 ·obtain⟨cz,az⟩:=x.un.slot b o e n f hx;obtain⟨iD,aM⟩:=SI x.wg.2.2.1 f az k;exact⟨iD,aM⟩
 ·by_cases f:b∈fc outer
  ·obtain⟨o',az⟩:=x.un.there b o e hx;obtain⟨iD,aM⟩:=SI x.wg.2.2.1 f az k;exact⟨_,aM⟩
  ·obtain⟨o',az⟩:=x.u4 b o e f;exact⟨o',st _ _ az⟩
def al4{P:cA}{w:b_}{H:aB}{h:bM}{as:List ak}(x:eP P w H h)(n:∀b∈as,H b=none):eP P w H (PySem.W.hideAll h as):=λa o e=>
 hZ.kc (x a o e) (λb u af q=>PySem.W.hideAll_get _ q λm=>by
  have z:=n b m;rcases af with rfl|af
  ·rw[e] at z;cases z
  ·rw[af] at z;cases z) (λb af=>af) λb xs af=>af
section
variable {X:a3}{ao:List (ak×Obj)}{σ:bA.St}{H1 ag:aB}{s1 s2:aH}{C:ak}{e:aq}{env:Env}{outer:List Env}{E:fb}
def TC(I:Inv X ao σ H1 s1)(t:Vp X H1 s1 C ag e s2)(jl:E (.ref C) none ag){Z:aq->aH->Prop}(hy:X.stack=env::outer:=by rfl)(aav:X.outer=outer:=by rfl)(hex:X.ex=[]:=by rfl)(hf:env.frame=some X.env.locals:=by rfl):
  a_ (unop%Wk 0) X.A (leaving env e) (λ_ aoZ=>mT X.prog X.w outer X.aY X.dq E e aoZ) Z s2:=by
 have _Z:X.aE=fc outer:=by unfold a3.aE;rw[aav]
 have iZ:=I.ok.frames;rw[hy] at iZ;have jt:=I.base;rw[_Z,hex] at jt;have bI:∀b:ak,b∉([]:List ak):=λb z=>absurd z (by simp);have CA:∀b o,X.dq.heap.get? b=some o->b∉fc outer->b∉fc (env::outer):=λb o bO n m=>by
  obtain⟨qa,he,qf⟩:=List.mem_filterMap.mp m;rcases cM.mp he with rfl|he
  ·rw[hf] at qf;cases qf;exact absurd (c_ bO) (Nat.not_lt.mpr I.ok.above)
  ·exact n (List.mem_filterMap.mpr ⟨qa,he,qf⟩)
 have qv:=I.stack;rw[hy] at qv;rcases t with ⟨yg,ea,args,ar,hc,es,mk⟩|⟨ea,q6,B,hc,du⟩
 ·subst yg hc es;have wo:∀qa∈(env::outer),∀b,qa.frame=some b->b∈fc (env::outer):=λqa he b af=>List.mem_filterMap.mpr ⟨qa,he,af⟩;refine wpAny_leaves_madeW (base:=PySem.W.hideAll s1.heap (fc (env::outer))) iZ hf (λb o q=>PySem.W.of_hideAll _ q) (PySem.W.funFrames_hide qv wo) mk λh' t aU bP gM u_=>?_;have PO:=I.Lk;rw[hy] at PO;have q_:∀b o,X.dq.heap.get? b=some o->X.aY b=none->b∉fc outer->(PySem.W.hideAll s1.heap (fc (env::outer))).get? b=some o:=λb o bO n f=>PySem.W.hideAll_get _ (jt.keep b o bO n f (bI b)) (CA b o bO f);have u4:∀b o,X.dq.heap.get? b=some o->b∉fc outer->∃o',(PySem.W.hideAll s1.heap (fc (env::outer))).get? b=some o':=λb o bO f=>by
   obtain⟨o',az⟩:=jt.there b o bO (bI b);exact⟨o',PySem.W.hideAll_get _ az (CA b o bO f)⟩
  have cz:∀b o,s1.heap.get? b=some o->b∈fc outer->∃cz,h'.get? b=some {o with slots:=cz}:=λb o az f=>by
   have dC:s1.heap.FunFrames X.base (env::outer):=qv;obtain⟨_,o',bD,hd⟩:=dC.mem (b:=b) (by
    obtain⟨qa,he,qf⟩:=List.mem_filterMap.mp f;exact List.mem_filterMap.mpr ⟨qa,dK _ he,qf⟩)
   rw[az] at bD;cases bD;exact u_ b o (mk.keeps b o az) hd
  refine⟨C,_,⟨ea,_,_,rfl,⟨I.os,I.bare,aU,al4 I.bL PO,⟨λb o bO n f _=>aU.1 _ _ (q_ b o bO n f),λb o bO n f _=>?_,λb o bO n _=>jt.free b o bO n (bI b),λb o bO _=>?_,jt.l4,jt.k4,jt.lr⟩,q_,u4⟩⟩,jl⟩
  ·obtain⟨CX,az⟩:=jt.slot b o bO n f (bI b);obtain⟨iD,aM⟩:=cz b _ az f;exact⟨iD,aM⟩
  ·by_cases f:b∈fc outer
   ·obtain⟨o',az⟩:=jt.there b o bO (bI b);obtain⟨iD,aM⟩:=cz b _ az f;exact⟨_,aM⟩
   ·obtain⟨o',az⟩:=u4 b o bO f;exact⟨o',aU.1 _ _ az⟩
 ·subst hc;rw[hy] at du;refine wpAny_leaves_onW iZ hf du.wg λh' aU bP=>?_;have on:=du.on aU.1 bP;have q_:∀b o,X.dq.heap.get? b=some o->X.aY b=none->b∉fc outer->B.get? b=some o:=λb o bO n f=>du.q_ b o (jt.keep b o bO n f (bI b)) (jt.free b o bO n (bI b)) (CA b o bO f);have u4:∀b o,X.dq.heap.get? b=some o->b∉fc outer->∃o',B.get? b=some o':=λb o bO f=>by
   obtain⟨o',az⟩:=jt.there b o bO (bI b);exact du.u4 b o' az (CA b o bO f)
  have up:∀b,b∈fc outer->b∈fc (env::outer):=λb f=>by
   obtain⟨qa,he,qf⟩:=List.mem_filterMap.mp f;exact List.mem_filterMap.mpr ⟨qa,dK _ he,qf⟩
  refine⟨C,_,⟨ea,_,B,rfl,⟨du.os.trans I.os,du.bare,aU,du.bL,⟨λb o bO n f _=>aU.1 _ _ (q_ b o bO n f),λb o bO n f _=>?_,λb o bO n _=>?_,λb o bO _=>?_,λb xs q=>on.1.l4 _ _ (jt.l4 _ _ q),λb o u q=>on.1.k4 _ _ _ (jt.k4 _ _ _ q),λb ps q=>?_⟩,q_,u4⟩⟩,jl⟩
  ·obtain⟨CX,az⟩:=jt.slot b o bO n f (bI b);obtain⟨iD,aM⟩:=on.1.slot b _ az (jt.free b o bO n (bI b)) (up b f) (bI b);exact⟨iD,aM⟩
  ·obtain⟨CX,az⟩:=jt.any bO n (bI b);exact on.1.free b _ az (jt.free b o bO n (bI b)) (bI b)
  ·obtain⟨o',az⟩:=jt.there b o bO (bI b);exact on.1.there b o' az (bI b)
  ·obtain⟨i3,aQ⟩:=jt.lr b ps q;obtain⟨kF,bu⟩:=on.1.lr b _ aQ;exact⟨i3++kF,by rw[bu,Array.append_assoc]⟩
def akK(h:∀C ag,E (.ref C) none ag->x5 X C ag):tF (mT X.prog X.w) X E:=λao σ H s e s' I ⟨C,ag,du,jl⟩=>h C ag jl ao σ H s e s' I (.inr du)
end
end
section
variable [cB]
abbrev hK:=Ev->Bool
noncomputable def Lo(X:a3)(C:ak)(r:hK):TE:=λσ H _=>∃aK E O F ai,cN X.K aK E O F H ai σ/\r ai=true/\∀aD ag,Ext F H aD ag->x5 X C ag
noncomputable def Lq(X:a3)(C:ak)(r:hK):f5:=λ_ σ H=>∃aK E O F ai,cN X.K aK E O F H ai σ/\r ai=true/\∀aD ag,Ext aK E.h aD ag->x5 X C ag
abbrev sj(X:a3)(C:ak)(e:bx)(r:hK):Prop:=b0 X e (Lo X C r)
abbrev AW(X:a3)(C:ak)(s:Stmt)(r:hK):Prop:=h2 X s (Lq X C r)
abbrev si(X:a3)(C:ak)(s:List Stmt)(r:hK):Prop:=fY X s (Lq X C r)
noncomputable def KJ:hK:=λ_=>false
noncomputable def zp(b:bJ)(r:hK):hK:=λai=>match b ai with
|some (.bI ε')=>r ε'
|_=>false
noncomputable def yQ(c:fX)(a b:hK):hK:=λai=>match c ai with
|some true=>a ai
|some false=>b ai
|none=>false
noncomputable def mx(f:bZ):hK:=λai=>(f ai).isSome
theorem h2.d_{X:a3}{st:Stmt}{t:f5}(h:h2 X.d_ st t):h2 X st t:=λao s σ H D I hw=>
 et (h ao s σ H D (I.aoK _) hw) (λ_ _ q=>q.oA) λ_ _ z=>d8 z
theorem gj.d_{X:a3}{es:List bx}{t:gk}(h:gj X.d_ es t):gj X es t:=λpos ao s σ H Q I hw=>
 et (h pos ao s σ H Q (I.aoK _) hw) (λ_ _ ⟨v,ag,oS,r,q⟩=>⟨v,ag,oS.oA,r,q⟩) λ_ _ z=>d8 z
section
variable {X:a3}{C:ak}{e c:bx}{st:Stmt}{rest yi:List Stmt}{r cy:hK}{b:bJ}{fl:fX}{pos:Pos}
def ag9{l:List Stmt}:si X C l KJ:=λao s σ H D I h=>by
 obtain⟨_,_,_,_,_,_,e,_⟩:=h;cases e
def Mn(h:AW X C st r):si X C (st::rest) r:=Am (vy (u:=λ_ _ _=>False) h λ_ _ _ _ _ _ z=>z.elim) λD σ H q=>q
def ag8(ah:gP X.d_ st b)(ar:si X C rest r):si X C (st::rest) (zp b r):=Am (vy (h2.d_ ah) ar)<|by
 rintro D σ H ⟨aK,E,O,F,ai,hi,e,k⟩
 unfold zp at e;split at e
 next ε' af=>exact⟨aK,E,O,F,ai,_,hi,af,λck aD ag aF b4=>⟨aK,E,O,aD,ε',b4,e,k⟩⟩
 next=>cases e
def ag7(aw:kS X.d_ c fl)(aC:si X C rest r)(af:si X C yi cy):AW X C (.If c rest yi pos) (yQ fl r cy):=hX (NZ aw.d_ aC af)<|by
 rintro D σ H ⟨aK,E,O,F,ai,hi,e,k⟩
 unfold yQ at e;split at e
 next hx=>exact⟨aK,E,O,F,ai,true,hi,hx,λaD ag x=>uO ⟨aK,E,O,aD,ai,hi.ext x,e,k⟩⟩
 next hx=>exact⟨aK,E,O,F,ai,false,hi,hx,λaD ag x=>yR ⟨aK,E,O,aD,ai,hi.ext x,e,k⟩⟩
 next=>cases e
def anh{σ:bA.St}{H:aB}{D:Ends}{Q:c3}(h:Lq X C r D σ H):Lo X C r σ H Q:=by
 obtain⟨aK,E,O,F,ai,hi,e,k⟩:=h;exact⟨aK,E,O,F,ai,hi,e,λaD ag x=>k aD ag (hi.ent.trans x)⟩
def anc(h:sj X C e r):AW X C (.Return (some e) pos) r:=hX (vK h) λD σ H q=>anh q
end
abbrev Gi:List aq:=[.type "ValueError",.type "Exception",.type "BaseException",.type "object"]
def alJ{K:bc}{h:bM}{C:ak}{OH:List aq}{newId:String}(X:K.In h)(q:PySem.W.excIn K C OH newId=true):
  ∃bm N nm q bs hdct sn sub ab col dd k0 k1 k2 k3 k5 mN,h.get? C=some (excClassObj nm q C N bs bm hdct sn sub ab col dd k0 k1 k2 k3 k5 newId)/\h.Ns N mN/\mN "__init__"=none/\OwnTail h OH bm:=by
 unfold PySem.W.excIn at q;split at q
 ·rename_i dd cd cz aJ
  split at q
  ·rename_i p0 bm k0 k1 k2 k3 n k5 hm aA
   simp only[ic,beq_iff_eq,Bool.not_eq_true'] at q;obtain⟨⟨⟨⟨⟨rfl,rfl⟩,P0⟩,bp⟩,bL⟩,BQ⟩:=q;obtain⟨nm,bs,mro,ns,pA,hd,sn,sub,ab,col,del⟩:=cd;dsimp only at hm P0 bL BQ;subst hm P0;have aaD:cz=#[k0,k1,k2,k3,some (.builtin n),k5]:=by
    obtain⟨l⟩:=cz;simp only at aA;rw[aA]
   subst aaD;exact⟨bm,ns,nm,pA,bs,hd,sn,sub,ab,col,dd,k0,k1,k2,k3,k5,_,X _ _ aJ,.of_isNs (PySem.W.isNs_of_in X bL),PySem.W.nsMap_none_of_in X bL BQ,PySem.W.tail_of_in X bp⟩
  ·cases q
 ·cases q
def alg{X:a3}{C:ak}{x:Str}{e:bx}{f:bZ}{np d6 pos:Pos}(hm:X.mg x=some (.ref C))(hx:PySem.W.excIn X.K C Gi "ValueError.__new__"=true)(he:cT X.d_ e f)(cR:X.A.handled=none)
  (bq:ee X x:=by rfl) (aA:bl [e] X.env=(false,eval e X.env)::bl [] X.env:=by rfl) (hd:(x==("__debug__":Str))=false:=by decide):
  AW X C (.Raise (some (.Call (.Name x np) [e] [] d6)) none pos) (mx f):=by
 intro ao s σ H D I ⟨aK,E,O,F,ai,hi,sD,k⟩;obtain⟨t,bY⟩:=Option.isSome_iff_exists.mp sD;obtain⟨bm,N,nm,q,bs,hdct,sn,sub,ab,col,dd,k0,k1,k2,k3,k5,mN,HL,dz,BQ,Ox⟩:=alJ I.ok.mod.pq hx;refine wpAny_Raise_call_subT (C:=C) (nm:=nm) (q:=q) (N:=N) (bs:=bs) (bm:=bm) (hdct:=hdct) (sn:=sn) (sub:=sub) (ab:=ab) (col:=col) (dd:=dd) (k0:=k0) (k1:=k1) (k2:=k2) (k3:=k3) (k5:=k5) (mN:=mN)
  PySem.F.excBase_ValueError (Ox.hasType PySem.F.excBase_ValueError.hasBase) cR (by rw[aA];rfl) BQ (vD I bq hm ⟨rfl,?_⟩ hd)
 have aC:gj X [e] (iK (zu X.K f) mB):=fu (b0.d_ he) hJ aA;have h0:=aC d6 ao s σ H (λvs H1=>∃v,vs=[v]/\x5 X C H1) I ⟨aK,E,O,F,ai,t,hi,bY,λv aD ag x _=>⟨v,rfl,k aD ag (hi.ent.trans x)⟩⟩;rw[aA] at h0 ⊢;refine Calls.evalArgs_plain (et h0 (λus kd ⟨vs,H1,bj,bk,v,ev,kx⟩=>⟨rfl,?_,?_,?_,?_,λh' ea mk=>?_⟩) λ_ _ y=>y)
 ·have:=bk.length;rw[ev] at this;show us.length<=cj;rw[<- this];show 1<=cj;decide
 ·exact bj.gR _ _ HL
 ·exact dz.keeps bj.gR
 ·exact Ox.keeps bj.gR
 ·exact kx ao σ H1 kd (.ref ea) _ bj (.inl ⟨rfl,ea,_,h',rfl,rfl,mk⟩)
noncomputable def Q'(K:bc)(n:Nat)(C:ak)(r:List aO->Bool):kU:=λvs H _ E=>vs.length=n/\∃F ss,fk F H/\AJ K F H ss vs/\r ss=true/\∀aD ag,Ext F H aD ag->E (.ref C) none ag
noncomputable def zl(r:hK)(n:Nat):List aO->Bool:=λss=>r (lE n ss)
structure p1(P:cA)(w:b_)(K:bc)(mg:Str->Option aq)(base:bM)(x:Str)(C:ak)(k n:Nat)(r:List aO->Bool):Prop where
 ex:∃cp fd ps,e5 P w K mg base (mT P w) k cp fd ps (Q' K n C r)/\mg x=some (.ref cp)/\nx K (.ref cp)=true/\gh K fd ps []
section
variable {P:cA}{w:b_}{K:bc}{mg:Str->Option aq}{base:bM}
theorem p1.mono{x:Str}{C:ak}{k n j:Nat}{r:List aO->Bool}(c:p1 P w K mg base x C j n r)(h:j<=k):p1 P w K mg base x C k n r:=by
 obtain⟨cp,fd,ps,F,q⟩:=c.ex;exact⟨cp,fd,ps,F.mono h,q⟩
def al7{x qual:Str}{st:Stmt}{f C:ak}{fd:eo}{N ps:List Str}{k:Nat}{r:hK}(F:cL K x qual st f fd)(S:cZ N ps (bR st))
  (af:∀(b1:aq) (A:cw) (outer:List Env) (s:aH) (H:aB) (E:fb),da k (unop%W5 0) ->
   si (fx (mT P w) P w K mg base N qual (bR st) f b1 A outer s H E) C (fv st) r):
  e5 P w K mg base (mT P w) (k+1) f fd ps (Q' K ps.length C (zl r N.length)):=by
 obtain⟨g0,eh,dI,doc,pm,an,b1,cQ,ka,rfl,lk,eg⟩:=F.ex;refine N3 lk eg S (λvs H Q E h=>h.1) λA outer s H vs Q E ay h=>⟨_,af b1 A outer s H E ay,?_⟩;obtain⟨aG,F,ss,b',q,e,i2⟩:=h;refine⟨F,⟨H,0⟩,λa=>H a=none,F,_,?_,e,λaD ag x=>?_⟩
 ·unfold bA.start;exact R9 b' q N.length
 ·intro ao σ H1 s1 az s2 I t;refine et (TC (X:=fx (mT P w) P w K mg base N qual (bR st) f b1 A outer s H E) (E:=E) (Z:=λ_ _=>False) I t (i2 aD ag x)) (λ_ _ z=>z) λ_ _ z=>z.elim
def Vm{x:Str}{C:ak}{st:Stmt}{f:ak}{fd:eo}{N ps:List Str}{k:Nat}{r:hK}(F:cL K x x st f fd)(S:cZ N ps (bR st))(bd:gh K fd ps [])(m:mg x=some (.ref f))
  (af:∀(b1:aq) (A:cw) (outer:List Env) (s:aH) (H:aB) (E:fb),da k (A.deeper (envOfC x (bR st) s.heap.objs.size f b1)) ->
   si (fx (mT P w) P w K mg base N x (bR st) f b1 A outer s H E) C (fv st) r):p1 P w K mg base x C (k+1) ps.length (zl r N.length):=⟨f,fd,ps,al7 F S af,m,F.aF,bd⟩
end
noncomputable def r'(r:List aO->Bool)(as:List pZ):hK:=λai=>match sr as ai with
|some ss=>r (ss.map Ld)
|none=>false
section
variable {X:a3}{k n c C CO i:Nat}{ns:List Str}{r:List aO->Bool}{x m:Str}{p pos apos:Pos}{o e:bx}{es:List bx}{as:List pZ}{aE:List bZ}
def Ny(mV:p1 X.prog X.w X.K X.mg X.base x C k n r)(ay:da k X.A)(aC:AU X.d_ (e::es) as)(bq:ee X x:=by rfl)(bg:as.length=n:=by rfl)(hg:(x==("__debug__":Str))=false:=by decide)
  (he:bl (e::es) X.env=(false,eval e X.env)::bl es X.env:=by rfl) (hpl:(unop%Wy 0).any (·.1)=false:=by rfl):sj X C (unop%WC 0) (r' r as):=by
 obtain⟨cp,fd,ps,F,hm,aF,b⟩:=mV.ex;refine eu (Nm F ay bq hm aF b .nil (akK (E:=λcl _ ag=>∃p0,cl=.ref p0/\x5 X p0 ag) λp0 ag ⟨VM,aM,q⟩=>by cases aM;exact q) (gj.d_ aC) hg he hpl) λσ H Q hqq=>?_;obtain⟨aK,E,O,F,ai,hi,e,k⟩:=hqq;unfold r' at e;split at e
 next ss es=>
  refine⟨aK,E,O,F,ai,ss,hi,es,λvs ba H1 aU q=>⟨?_,ba,ss.map Ld,aU.b',?_,e,λaD ag bP=>⟨C,rfl,k aD ag (aU.trans bP)⟩⟩⟩
  ·rw[kO,q.len,bg]
  ·rw[kO];exact NU (hi.ext aU) es q
 next=>cases e
end
end
section
abbrev a3.sR(X:a3)(ea:ak):a3:={X with A:=X.A.mark (some (.ref ea)),calm:=false,dm:=λ_ _=>False}
section
variable {X:a3}{ao:List (ak×Obj)}{σ:bA.St}{H:aB}{s:aH}{ea:ak}
def amU(ok:X.Ok)(ea:ak):(a3.sR X ea).Ok:=
 ⟨ok.mod,ok.kind,ok.glob,ok.blt,ok.above,ok.inj,ok.has,ok.ue,(λ(z:false=true)=>absurd z (by decide)),ok.frames,ok.qv,ok.wd,ok.bs,ok.m4,ok.uU,ok.uo,ok.ky,ok.n7⟩
def Uy(I:Inv X ao σ H s)(ea:ak):Inv (a3.sR X ea) ao σ H s:=⟨amU I.ok ea,I.os,I.bare,I.base,I.loc,I.cell,I.free,I.aoI,I.pin,I.bL,I.len⟩
def ak2(ok:X.Ok)(I:Inv (a3.sR X ea) ao σ H s):Inv X ao σ H s:=⟨ok,I.os,I.bare,I.base,I.loc,I.cell,I.free,I.aoI,I.pin,I.bL,I.len⟩
def ak3{i:Nat}{n:Str}{h':bM}{m:Str->Option aq}{v:Option aq}{tk:Nat}(I:Inv X ao σ H s)(aP:X.N[i]?=some n)(aG:∀(i:Nat) (x:Str) (v:V),X.N[i]?=some x->σ[i]?=some (some v)->oX X.env.scope x->∃u,RelV v u/\Look X.env s.heap m x u)(dz:X.N.Nodup)
  (bg:h'.Ns X.env.locals (λx=>if x=n then v else m x)) (aA:Heap.SameBut X.env.locals s.heap h') (sP:∃o,s.heap.get? X.env.locals=some o):Inv X ao (σ.set i none) H {s with heap:=h',toks:=tk}:=by
 have BN:i<σ.length:=by rw[I.len];exact (g6.mp aP).1
 have aoU:=I.aoU;have lt:∀{b:ak} {o:Obj},X.dq.heap.get? b=some o->b≠X.env.locals:=λe=>e3 (i' (c_ e) I.ok.above);refine⟨I.ok,I.os,I.bare,⟨λb o e n af hx=>(aA.2 b (lt e)).trans (I.base.keep b o e n af hx),λb o e n af hx=>?_,I.base.free,λb o e hx=>?_,I.base.l4,I.base.k4,I.base.lr⟩,⟨_,bg,λj y kJ az aM dS=>?_⟩,λy c e=>?_,I.free,I.aoI,λp aL=>?_,λb dE e=>?_,by simpa using I.len⟩
 ·obtain⟨cz,az⟩:=I.base.slot b o e n af hx;exact⟨cz,(aA.2 b (lt e)).trans az⟩
 ·obtain⟨o',az⟩:=I.base.there b o e hx;exact⟨o',(aA.2 b (lt e)).trans az⟩
 ·by_cases bU:j=i
  ·subst bU;rw[List.getElem?_set_self BN] at aM;cases aM
  ·rw[List.getElem?_set_ne (Ne.symm bU)] at aM;obtain⟨u5,cy,q⟩:=aG j y kJ az aM dS;refine⟨u5,cy,?_⟩;rcases q with ⟨k,e⟩|⟨k,c,e,z⟩
   ·refine .inl ⟨k,?_⟩
    have:y≠n:=λe=>bU (M0 dz az (e▸aP));simp[this,e]
   ·exact .inr ⟨k,c,e,z.sameBut aA (aoU y c e)⟩
 ·obtain⟨dh,z⟩:=I.cell y c e;exact⟨dh,z.sameBut aA (aoU y c e)⟩
 ·obtain⟨e,n,ne,jn,d⟩:=I.pin p aL;exact⟨(aA.2 p.1 ne).trans e,n,ne,jn,d⟩
 ·refine (I.bL b dE e).kc (λc dh aw q=>(aA.2 c ?_).trans q) (λ_ q=>q) λ_ _ q=>q
  rintro rfl;have fr:=I.free;rcases aw with rfl|aw
  ·rw[fr] at e;cases e
  ·rw[fr] at aw;cases aw
end
def air{M:Model}{A:cw}{E:aq->aH->Prop}{K:bc}{s:aH}{x C ej:ak}{Q:Bool->aH->Prop}(X:K.In s.heap)(I:j1 x C s.heap)
  (ah:PySem.W.typeIn K (.ref ej)=some (.type "type")) (ar:PySem.W.mroIn K ej (.type "BaseException")=some true) (br:PySem.W.mroIn K C (.ref ej)=some true) (aw:(PySem.W.clsIn K ej).isSome=true) (a5:Q true s):
  a_ M A (excMatches (.ref x) (.ref ej)) Q E s:=by
 obtain⟨cR,g,n4,t,os⟩:=s;have sg:=I.type (M:=M);have lM:=PySem.W.looks_typeIn (M:=M) X ah;have bA:=PySem.W.looks_mroIn (M:=M) X ar;have Fn:=PySem.W.looks_mroIn (M:=M) X br;have Fo:PySem.W.Looks M cR (isInstance (.ref ej) (.type "tuple")) false:=lM.andThen (PySem.W.Looks.of_pure tc_notTuple);have LT:PySem.W.Looks M cR (isType (.ref ej)) true:=by
  unfold PySem.W.clsIn at aw;split at aw
  ·rename_i bX d' OK CW aJ
   intro VJ AX mW s' k q;unfold isType loadHead;exact aN (wpAny_loadPart (k _ _ (X _ _ aJ)) (b2 q))
  ·cases aw
 have LE:PySem.W.Looks M cR (isExcClass (.ref ej)) true:=LT.andThen bA;unfold excMatches;refine aN (Fo.at ?_);rw[if_neg (by decide)];refine aN (b2 ?_);dsimp only;refine aN ?_;simp only[List.forIn_cons,List.forIn_nil];refine aN (aN (LE.at ?_));rw[if_neg (by decide)];refine b2 (b2 ?_);refine aN (sg.at (aN ?_));refine aN (aN (Fn.at ?_));rw[if_pos rfl];exact b2 (b2 (b2 a5))
def alb{X:a3}{ao:List (ak×Obj)}{σ:bA.St}{H ag:aB}{s s':aH}{C ej:ak}{e:aq}{o6 n:Str}{i:Nat}{np pos:Pos}{p6:Stmt}{qw:List Stmt}{ts:f5}{D:Ends}
  (I:Inv X ao σ H s) (du:E7 X.prog X.w X.stack H s C ag e s') (hm:X.mg o6=some (.ref ej))
  (ah:PySem.W.typeIn X.K (.ref ej)=some (.type "type")) (ar:PySem.W.mroIn X.K ej (.type "BaseException")=some true) (br:PySem.W.mroIn X.K C (.ref ej)=some true) (aw:(PySem.W.clsIn X.K ej).isSome=true)
  (aA:∀ea,fY (a3.sR X ea) (p6::qw) ts) (k:∀ea,ag ea=none->ts {bI:=λxR bB=>D.bI (xR.set i none) bB,dn:=λ_ _=>False} (σ.set i (some (.ref ea))) (upd ag ea (.ext (j1 ea C))))
  (dz:X.N.Nodup) (aP:X.N[i]?=some n) (ob:X.env.kindOf n=some .local) (hy:X.stack=X.env::X.outer) (hf:X.env.frame=some X.env.locals) (bq:ee X o6) (hg:(o6==("__debug__":Str))=false):
  a_ (unop%Wk 0) X.A (noteFrame e X.env) (λ_ kd=>a_ (unop%Wk 0) X.A (setFlight e none) (λ_ qx=>a_ (unop%Wk 0) X.A (handleBy e X.env [.ExceptHandler (some (.Name o6 np)) (some n) (p6::qw) pos]) (bA.q3 X ao D) X.dm qx) X.dm kd) X.dm s':=by
 obtain⟨ea,q6,B,rfl,du⟩:=du;have P5:=du.wg;have iZ:=I.ok.frames;rw[hy] at P5 iZ;refine wpAny_looks_onW iZ hf P5 λwz _U af3=>?_;refine wpAny_landsW _U λh7 HH af4=>?_;have Oz:s'.heap.UpToSlots h7:=af3.trans af4;obtain⟨LC,aas⟩:=du.on HH.1 Oz;have bI:∀b:ak,b∉([]:List ak):=λb z=>absurd z (by simp);have Ot:Inv X ao σ ag {s' with heap:=h7}:=I.OJ du.os LC aas du.bare λb af=>absurd af (bI b);have Yf:j1 ea C h7:=by
  obtain⟨px,vs,aQ,bu,df,_⟩:=HH.first;exact⟨px,vs,aQ,bu,df⟩
 have dY:ag ea=none:=by
  cases q:ag ea with
  |none=>rfl
  |some u=>
   obtain⟨o,aJ⟩:∃o,B.get? ea=some o:=by
    have z:=du.bL ea u q;have lt:=z.lt;have:∀(u:ef),hZ X.prog X.w ag B ea u->∃o,B.get? ea=some o:=by
     intro u
     induction u with
     |lst xs=>rintro⟨_,_,_,_,e⟩;exact⟨_,e⟩
     |tup xs=>rintro⟨_,_,_,o,e,_⟩;exact⟨_,e⟩
     |fy kvs=>rintro⟨_,_,_,_,o,_,_,e,_⟩;exact⟨_,e⟩
     |n2 kvs=>rintro⟨_,_,_,_,o,_,_,e,_⟩;exact⟨_,e⟩
     |set S n=>rintro⟨o,_,_,_,e,_⟩;exact⟨_,e⟩
     |ins C bF aE=>rintro⟨_,_,_,e,_⟩;exact⟨_,e⟩
     |own x=>rintro⟨o,e⟩;exact⟨_,e⟩
     |ju aE=>rintro⟨_,e,_⟩;obtain⟨o,_,_,e,_⟩:=e;exact⟨_,e⟩
     |met f x=>intro e;exact⟨_,e⟩
     |lZ lo aP=>rintro⟨_,_,_,e⟩;exact⟨_,e⟩
     |pd o u bT=>rintro⟨e,_⟩;exact⟨_,e⟩
     |iF ps=>intro e;exact⟨_,e⟩
     |ext pX=>rintro⟨_,⟨o,e⟩,_⟩;exact⟨_,e⟩
    exact this u z
   rw[du.wg.2.1] at aJ;cases aJ
 refine wpAny_handleBy_cons (codeAny_handlers_test (vD (X:=a3.sR X ea) (Uy Ot ea) bq hm ?_ hg)) (by intro q;cases q)
 refine air Ot.j9 Yf ah ar br aw ?_
 refine codeAny_handlers_suite_as ?_
 refine lands_againW HH λyO HI af5=>?_
 have Xl:s'.heap.UpToSlots yO:=Oz.trans af5;obtain⟨u7,aat⟩:=du.on HI.1 Xl;have OE:j1 ea C yO:=by
  obtain⟨px,vs,aQ,bu,df,_⟩:=HI.first;exact⟨px,vs,aQ,bu,df⟩
 have yX:∀{b:ak} {u:ef},ag b=some u->upd ag ea (.ext (j1 ea C)) b=some u:=λ{b u} q=>by rw[cS (by rintro rfl;rw[dY] at q;cases q)];exact q
 have ab_:∀{b:ak} {o:Obj},s.heap.get? b=some o->H b=none->b≠ea:=λ{b o} q n=>by
  rintro rfl;by_cases f:b∈fc X.stack
  ·obtain⟨_,o',bD,hd⟩:=HI.2.2.1.mem (b:=b) (by rw[<- hy];exact f);obtain⟨px,vs,az,_,aM⟩:=OE;rw[az] at bD;cases bD;exact hd vs aM
  ·have z:=du.q_ b o q n f;rw[du.wg.2.1] at z;cases z
 have agI:f6 (fc X.stack) [] H (upd ag ea (.ext (j1 ea C))) s.heap yO:=⟨u7.keep,u7.slot,λb o q n hx=>by rw[cS (ab_ q n)];exact u7.free b o q n hx,u7.there,λb xs q=>yX (u7.l4 b xs q),λb o u q=>yX (u7.k4 b o u q),λb ps q=>by
  obtain⟨m,z⟩:=u7.lr b ps q;exact⟨m,yX z⟩⟩
 have aau:eP X.prog X.w (upd ag ea (.ext (j1 ea C))) yO:=λb u q=>by
  by_cases af:b=ea
  ·subst af;rw[dV] at q;cases q;obtain⟨px,vs,az,aM,dS⟩:=OE;exact⟨⟨px,vs,az,aM,dS⟩,⟨px,az⟩,λk1 k2 ⟨o,vs,pQ,gB,zS⟩ b5=>⟨o,vs,b5 o pQ,gB,zS⟩⟩
  ·rw[cS af] at q;exact (aat b u q).kc (λ_ _ _ z=>z) (λc z=>yX z) λc xs z=>yX z
 have Xb:Inv X ao σ (upd ag ea (.ext (j1 ea C))) {s' with heap:=yO}:=I.OJ du.os agI aau du.bare λb af=>absurd af (bI b);refine MT (X:=a3.sR X ea) (v:=.ref ea) (Uy Xb ea) dz aP (.inl ob) rfl (λeb jh=>?_) (.inr ob);refine et (aA ea ao eb _ _ _ jh (k ea dY)) (λf eF ux=>?_) λ_ _ z=>z.elim;cases f with
|next=>
  obtain⟨xR,bB,Ff,pz⟩:=ux;have Oq:=ak2 I.ok Ff;obtain⟨m,P',aai⟩:=id Oq.loc;refine wpAny_nameGoes_keeps ob P' (by rw[I.ok.kind];rfl) λHK v aao aaz=>?_;have sP:∃o,eF.heap.get? X.env.locals=some o:=by
   obtain⟨o,_,_,q,_⟩:=P';exact⟨o,q⟩
  exact⟨_,bB,ak3 Oq aP aai dz aao aaz sP,pz⟩
|brk=>obtain⟨_,_,_,pz⟩:=ux;exact d8 pz
|cont=>obtain⟨_,_,_,pz⟩:=ux;exact d8 pz
|ret u=>obtain⟨_,_,_,_,_,pz⟩:=ux;exact d8 pz
end
section
noncomputable def QW(K:bc)(C:ak):List V->aB->c3->Prop:=λxs H Q=>∃ea c cv b,xs=[.ref ea,c]/\H ea=some (.ext (j1 ea C))/\(∀u,RelV c u->u=cv)/\oG K (.ref C) cv=some b/\Q (.b3 b) H
def am_{X:a3}{C:ak}(O:sd X.K C):lI X (.builtin "isinstance") (QW X.K C):=by
 intro ao s σ H xs us Q I r ⟨ea,c,cv,b,az,aM,dS,iT,q⟩;subst az;cases r with
|cons bk r=>
  cases r with
  |cons b4 r=>
   cases r
   cases bk
   have fI:=dS _ b4;subst fI;exact PySem.W.kia_one (akZ O) I.j9 (I.bL ea _ aM).1 iT (by intro z;cases z) λtk=>⟨.b3 b,H,I.tok _,rfl,q⟩
theorem M':∀{bs:List Bool} {us:List aq},Vals (bs.map V.b3) us->us=bs.map Value.bool
| [],us,h=>by cases h;rfl
|b::bs,us,h=>by
  cases h with
  |cons r t=>
   cases r
   rw[M' t];rfl
noncomputable def tu:aq->Bool
|.bool true=>true
|_=>false
def akU{X:a3}:AS X "list.count" (λx vs H Q=>∃(l:ak) (bs:List Bool),x=.ref l/\vs=[.b3 true]/\fG X.K H l (bs.map V.b3)/\Q (.int (bs.countP id:Nat)) H):=by
 intro ao s σ H x vs v us Q I aW bW h;obtain⟨l,bs,rfl,rfl,a5,q⟩:=h;cases aW;obtain⟨u,rfl,c1⟩:=bW.one;cases c1;obtain⟨its,r,⟨⟨cls,dd,data,cz⟩,n,aJ,aw,hd,aA⟩,hz⟩:=I.list a5;simp only at aw hd aA;subst aw hd aA;have hits:=M' r;subst hits;refine pO PySem.F.slot_list_count ⟨_,aJ,rfl⟩ PySem.F.entry_list_count (PySem.F.args_list_count_2 _ _)
  (SeqAt.list_countAt l _ n _ _ (.bool true) tu) ⟨aJ,λz mq=>?_,?_⟩
 ·obtain⟨b,_,rfl⟩:=dP.mp (show z∈bs.map Value.bool by simpa using mq);have e:=SeqAt.EqAt.bool_bool (A:=X.A.in1) (s:=s) b true;have aM:(b==true)=tu (.bool b):=by cases b <;> rfl
  rw[aM] at e;exact e
 ·refine⟨V.int (bs.countP id:Nat),H,I.tok _,⟨s.toks,?_⟩,q⟩
  have:((bs.map Value.bool).toArray.toList.countP tu)=bs.countP id:=by
   show (bs.map Value.bool).countP tu=_
   rw[List.countP_map];congr 1;funext b;cases b <;> rfl
  rw[this]
def ajP{X:a3}:AS X "list.index" (λx vs H Q=>∃(l:ak) (bs:List Bool) (j:Nat),x=.ref l/\vs=[.b3 true]/\fG X.K H l (bs.map V.b3)/\bs[j]?=some true/\(∀m,m<j->bs[m]?=some false)/\Q (.int (j:Nat)) H):=by
 intro ao s σ H x vs v us Q I aW bW h;obtain⟨l,bs,j,rfl,rfl,a5,bU,af,q⟩:=h;cases aW;obtain⟨u,rfl,c1⟩:=bW.one;cases c1;obtain⟨its,r,⟨⟨cls,dd,data,cz⟩,n,aJ,aw,hd,aA⟩,hz⟩:=I.list a5;simp only at aw hd aA;subst aw hd aA;have hits:=M' r;subst hits;have yE:=(g6.mp bU).1;rw[fh] at hz;rw[jW] at hz;refine pO PySem.F.slot_list_index ⟨_,aJ,rfl⟩ PySem.F.entry_list_index (PySem.F.args_list_index_2 _ _)
  (SeqAt.list_indexAt l _ n _ _ (.bool true) tu j (by simpa using yE) (by omega) ?_ ?_) ⟨aJ,λz mq=>?_,⟨V.int (j:Nat),H,I.tok _,⟨_,rfl⟩,q⟩⟩
 ·have:=(g6.mp bU).2;simp[tu,this]
 ·intro m hm eL;have:=(g6.mp (af m eL)).2;simp[tu,this]
 ·obtain⟨b,_,rfl⟩:=dP.mp (show z∈bs.map Value.bool by simpa using mq);have e:=SeqAt.EqAt.bool_bool (A:=X.A.in1) (s:=s) b true;have aM:(b==true)=tu (.bool b):=by cases b <;> rfl
  rw[aM] at e;exact e
noncomputable def md [cB](H ag:aB):Prop:=∀F:ak->Prop,fk F H->Ext F H F ag
theorem md.laid [cB]{H:aB}{p:ak}{o:ef}(aL:H p=none):md H (upd H p o):=λF d=>Ext.laid d aL
theorem md.trans [cB]{H H1 bB:aB}(a:md H H1)(b:md H1 bB):md H bB:=λF d=>(a F d).trans (b F (a F d).b')
abbrev u2(K:bc)(C:ak)(c:V):TE:=C2 (QW K C) (iK (g4 2) (iK (jT c) mB))
abbrev aeR(K:bc):V->List V->aB->c3->Prop:=λx vs H Q=>∃(l:ak) (bs:List Bool),x=.ref l/\vs=[.b3 true]/\fG K H l (bs.map V.b3)/\Q (.int (bs.countP id:Nat)) H
abbrev aeS(K:bc):V->List V->aB->c3->Prop:=λx vs H Q=>∃(l:ak) (bs:List Bool) (j:Nat),x=.ref l/\vs=[.b3 true]/\fG K H l (bs.map V.b3)/\bs[j]?=some true/\(∀m,m<j->bs[m]?=some false)/\Q (.int (j:Nat)) H
abbrev NC(K:bc)(C gG gF cd cQ:ak):f5:=
 C4 (s9 (Rj (iK (u2 K C (.ref gG)) (iK (u2 K C (.ref gF)) (iK (u2 K C (.ref cd)) (iK (u2 K C (.ref cQ)) mB))))) (tP 3))
 (C4 (s9 (wL (iK (jT (.str "refused")) (iK (Rm (K' λi=>.int (-i)) (jT (.int 1))) mB))) (tP 1)) (Ri (Rh (Lm (u2 K C (.ty "ValueError"))) (Vw (apa QV (Ln K "list" (aeR K) (g4 3) (iK (jT (.b3 true)) mB)) (jT (.int 1))))) (s9 (wL (iK (jT (.str "refused")) (iK (Ln K "list" (aeS K) (g4 3) (iK (jT (.b3 true)) mB)) mB))) (tP 1)) Vx))
structure Kinds(K:bc)(C gG gF cd cQ:ak)(bs:List Bool)(j:Nat):Prop where
 gQ:∃gQ b6 b7 dM,bs=[gQ,b6,b7,dM]/\oG K (.ref C) (.ref gG)=some gQ/\oG K (.ref C) (.ref gF)=some b6/\oG K (.ref C) (.ref cd)=some b7/\oG K (.ref C) (.ref cQ)=some dM
 Rq:oG K (.ref C) (.type "ValueError")=some true
 one:bs.countP id=1
 hit:bs[j]?=some true
 no:∀m,m<j->bs[m]?=some false
def ah6 [cB]{K:bc}{C gG gF cd cQ ea:ak}{bs:List Bool}{j:Nat}(b5:Kinds K C gG gF cd cQ bs j){D:Ends}{σ:bA.St}{H:aB}(aG:σ.length=4)(he:σ[2]?=some (some (.ref ea)))(hx:H ea=some (.ext (j1 ea C)))
  (k:∀ag p ck,md H ag->ag p=some (.tup [.str "refused",.int j])->ck.length=4->ck[1]?=some (some (.ref p))->D.bI ck ag):NC K C gG gF cd cQ D σ H:=by
 obtain⟨⟨gQ,b6,b7,dM,rfl,k0,k1,k2,k3⟩,Rq,one,hit,no⟩:=b5;have pn:∀{c:V} {cv:aq} {b:Bool} {σ:bA.St} {H:aB} {Q:c3},σ[2]?=some (some (.ref ea))->H ea=some (.ext (j1 ea C))->(∀u,RelV c u->u=cv)->oG K (.ref C) cv=some b->Q (.b3 b) H->u2 K C c σ H Q:=
  λ{c cv b σ H Q} az aM dS iT q=>⟨_,az,ea,c,cv,b,rfl,aM,dS,iT,q⟩
 refine pn he hx (cv:=.ref gG) (λu r=>r) k0 (pn he hx (cv:=.ref gF) (λu r=>r) k1 (pn he hx (cv:=.ref cd) (λu r=>r) k2 (pn he hx (cv:=.ref cQ) (λu r=>r) k3 ?_)))
 refine⟨by show 4<=cj;decide,λp aL=>?_⟩
 refine⟨1,rfl,?_⟩
 refine⟨by show 2<=cj;decide,λeT uG=>?_⟩
 have g1:md H (upd H p (.lst [.b3 gQ,.b3 b6,.b3 b7,.b3 dM])):=md.laid aL;have g2:=g1.trans (md.laid (o:=.tup [.str "refused",.int (-1)]) uG);have ne1:ea≠p:=by rintro rfl;rw[hx] at aL;cases aL
 have Iz:upd H p (.lst [.b3 gQ,.b3 b6,.b3 b7,.b3 dM]) ea=some (.ext (j1 ea C)):=by rw[cS ne1];exact hx
 have ne2:ea≠eT:=by rintro rfl;rw[Iz] at uG;cases uG
 have ne3:p≠eT:=by rintro rfl;rw[dV] at uG;cases uG
 have aM:((σ.set 3 (some (V.ref p))).set 1 (some (V.ref eT)))[2]?=some (some (.ref ea)):=by rw[List.getElem?_set_ne (by decide),List.getElem?_set_ne (by decide)];exact he
 have dS:((σ.set 3 (some (V.ref p))).set 1 (some (V.ref eT)))[3]?=some (some (.ref p)):=by rw[List.getElem?_set_ne (by decide),List.getElem?_set_self (by omega)]
 have f':upd (upd H p (.lst [.b3 gQ,.b3 b6,.b3 b7,.b3 dM])) eT (.tup [.str "refused",.int (-1)]) p=some (.lst [.b3 gQ,.b3 b6,.b3 b7,.b3 dM]):=by rw[cS ne3,dV]
 have CY:fG K (upd (upd H p (.lst [.b3 gQ,.b3 b6,.b3 b7,.b3 dM])) eT (.tup [.str "refused",.int (-1)])) p ([gQ,b6,b7,dM].map V.b3):=.inl (.inl f');refine pn aM (by rw[cS ne2];exact Iz) (cv:=.type "ValueError") (λu r=>r) Rq ⟨true,rfl,?_⟩;refine uO ?_;refine⟨_,dS,.inl ⟨rfl,_,CY⟩,p,[gQ,b6,b7,dM],rfl,rfl,CY,rfl,⟨true,?_,?_⟩⟩
 ·rw[one];rfl
 ·refine uO ?_
  refine⟨_,dS,.inl ⟨rfl,_,CY⟩,p,[gQ,b6,b7,dM],j,rfl,rfl,CY,hit,no,?_⟩
  refine⟨by show 2<=cj;decide,λwD aax=>?_⟩
  refine k _ wD _ (g2.trans (md.laid aax)) dV ?_ ?_
  ·simp[aG]
  ·rw[List.getElem?_set_self (by simp[aG])]
end
section
variable [cB]
abbrev A7(P:cA)(w:b_)(K:bc)(mg:Str->Option aq)(base:bM)(N:List Str)(qual:Str)(scope:Scope)(q:ak)(cd:aq)(cl:List (Str×ak))(A:cw)(outer:List Env)(s:aH)(H:aB)(E:fb):a3:=
 (m7 P w K mg base N qual scope q cd cl A outer s H).aoK λe s'=>a_ (bG P w) (A.deeper (lS qual scope s.heap.objs.size q cd cl)) (leaving (lS qual scope s.heap.objs.size q cd cl) e) (λ_ aoZ=>mT P w outer H s E e aoZ) (λbD aoZ=>mT P w outer H s E bD aoZ) s'
section
variable {P:cA}{w:b_}{K:bc}{mg:Str->Option aq}{base:bM}{k:Nat}{q bX:ak}{N:List Str}{qual:Str}{scope:Scope}{cl:List (Str×ak)}{A:cw}{outer:List Env}{s:aH}{H:aB}{σ:bA.St}{C:ak}
def ajT{params:Arguments}{body:bx}{pm gS:aq}{r:hK}{E:fb}(aI:scope.kind=.function)(n':scope.isCoroutine=false)(oa:scope.isGenerator=false)(iw:∀x∈scope.names,x.2≠.cell)
  (af:∀(A:cw) (outer:List Env) (s:aH) (H:aB) (E:fb),da k (A.deeper (unop%WF 0))->sj (A7 P w K mg base N qual scope q (.ref bX) cl A outer s H E) C body r)
  (bd:bindArgs (PySem.W.kla_fn "<lambda>" qual params body scope cl pm (.ref bX) gS) ⟨[],[]⟩=pure [])
  (ay:da (k+1) A) (bO:kR P w K mg base A outer s H) (a5:H q=some (oh (PySem.W.kla_obj "<lambda>" qual params body scope cl pm bX gS) q)) (aw:H bX=some (ug bX qual)) (Wl:qS N scope cl σ H s.heap)
  (h:∃aK gi O F ai,cN K aK gi O F H ai σ/\r ai=true/\∀aD ag,Ext F H aD ag->E (.ref C) none ag):hT (bG P w) A (.call (.ref q) ⟨[],[]⟩) (oN (mT P w) outer P w H s (λ_ _=>False) E) s:=by
 have y6:s.heap.NoLimit:=bO.mod.nolimit.keeps λb o e=>(bO.bs b o e).1;refine PySem.W.kla_callFunE ay.depth (bO.bL q _ a5).1 rfl n' oa rfl (bO.bL bX _ aw).1 ?_;rw[bd];refine b2 (Dl iw (λx hx=>by cases hx) (λe9 mn ph=>⟨y6.fresh _ ph,?_⟩) aI);have aF:∀b o,s.heap.get? b=some o->e9.get? b=some o:=λb o e=>ph.extBut b o (e3 (c_ e)) (cW _ e);show hT _ _ (.expr body (unop%WF 0)) _ _;refine PySem.W.kla_codeExpr ?_;have Fd:Inv (m7 P w K mg base N qual scope q (.ref bX) cl A outer s H) [] σ H {s with heap:=e9,toks:=s.toks+([]:List (Str×aq)).length}:=SD aI ay.hd bO Wl mn aF;have I:Inv (A7 P w K mg base N qual scope q (.ref bX) cl A outer s H E) [] σ H {s with heap:=e9,toks:=s.toks+([]:List (Str×aq)).length}:=Fd.aoK _;obtain⟨aK,gi,O,F,ai,hi,iU,i2⟩:=h;refine et (af A outer s H E (ay.deeper _) [] _ σ H (λ_ _=>False) I ⟨aK,gi,O,F,ai,hi,iU,λaD ag x ao N7 H1 s1 az s2 bj t=>?_⟩) (λu s' aA=>?_) λe s' aA=>aA
 ·exact et (TC (X:=A7 P w K mg base N qual scope q (.ref bX) cl A outer s H E) (E:=E) (Z:=λ_ _=>False) bj t (i2 aD ag x)) (λ_ _ z=>z) λ_ _ z=>z.elim
 ·obtain⟨_,_,_,_,z⟩:=aA;exact z.elim
end
noncomputable def anW(X:a3)(C:ak)(ag:aB):Prop:=∀(ao:List (ak×Obj)) (σ:bA.St) (H:aB) (s:aH) (e:aq) (s':aH),Inv X ao σ H s->E7 X.prog X.w X.stack H s C ag e s'->X.dm e s'
noncomputable def ND(X:a3)(C:ak)(i:Nat):TE:=λσ H _=>∃q,σ[i]?=some (some (.ref q))/\(∃(o:Obj) (fd:eo),H q=some (oh o q)/\o.data=.func fd) /\
 ∀(ao:List (ak×Obj)) (s:aH),Inv X ao σ H s->hT (unop%Wk 0) X.A (.call (.ref q) ⟨[],[]⟩) (oN (mT X.prog X.w) X.stack X.prog X.w H s (λ_ _=>False) λcl _ ag=>∃p0,cl=.ref p0/\anW X p0 ag) s
def akJ{X:a3}{C:ak}{i:Nat}{x:Str}{p pos:Pos}(bg:b0 X (.Name x p) (g4 i)):b0 X (.Call (.Name x p) [] [] pos) (ND X C i):=by
 intro ao s σ H Q I ⟨q,a5,⟨o,fd,aJ,H6⟩,aw⟩;refine nF (cK (bg ao s σ H (λv H1=>v=.ref q/\H1=H) I ⟨.ref q,a5,rfl,rfl⟩) λv s1 hqq=>?_);obtain⟨y,H1,bj,bC,fN,ht⟩:=hqq;subst fN;subst ht;cases bC;have cp:PySem.W.FnAt q s1.heap:=by
  have ah:s1.heap.get? q=some o:=(bj.bL q _ aJ).1;obtain⟨c,p7,ye,cz⟩:=o;cases H6;exact⟨_,_,_,_,ah⟩
 refine PySem.W.callWith_F0 cp ?_
 refine qD (nH (aw ao s1 bj) λr s' a5=>?_)
 cases r with
|error e=>
  obtain⟨VL,ag,du,VM,aM,ok⟩:=a5;cases aM;exact ok ao σ H1 s1 e s' bj du
|ok du=>
  cases du with
  |ret u=>
   obtain⟨_,_,_,_,_,_,_,z⟩:=a5;exact z.elim
  |next=>exact d8 a5
  |brk=>exact d8 a5
  |cont=>exact d8 a5
noncomputable def EL(X:a3)(C:ak)(j:Nat):f5:=λD σ H=>∃q,σ.length=4/\σ[0]?=some (some (.ref q))/\(∃(o:Obj) (fd:eo),H q=some (oh o q)/\o.data=.func fd)/\∃tV:aB->Prop,
 (∀(ao:List (ak×Obj)) (s:aH),Inv X ao σ H s->hT (unop%Wk 0) X.A (.call (.ref q) ⟨[],[]⟩) (oN (mT X.prog X.w) X.stack X.prog X.w H s (λ_ _=>False) λcl _ ag=>cl=.ref C/\tV ag) s) /\
 ∀ag,tV ag->∀nW p,md ag nW->nW p=some (.tup [.str "refused",.int j])->D.dn (.ref p) nW
abbrev a3.bears(X:a3)(dx:List (ak×Obj))(E:aq->aH->Prop):a3:={X with dx:=dx,dm:=E}
def aj0{X:a3}{ao:List (ak×Obj)}{σ:bA.St}{H:aB}{s:aH}(I:Inv X ao σ H s)(E:aq->aH->Prop):Inv (a3.bears X (X.dx++ao) E) [] σ H s:=
 ⟨⟨I.ok.mod,I.ok.kind,I.ok.glob,I.ok.blt,I.ok.above,I.ok.inj,I.ok.has,I.ok.ue,I.ok.hd,I.ok.frames,I.ok.qv,I.ok.wd,I.ok.bs,I.ok.m4,I.ok.uU,I.ok.uo,I.ok.ky,I.ok.n7⟩,I.os,I.bare,I.base,I.loc,I.cell,I.free,I.aoI,λp aL=>I.pin p (by simpa using aL),I.bL,I.len⟩
def Sg{X:a3}{ao CI:List (ak×Obj)}{σ:bA.St}{H:aB}{s:aH}{E:aq->aH->Prop}(ok:X.Ok)(I:Inv (a3.bears X (X.dx++ao) E) CI σ H s):Inv X ao σ H s:=
 ⟨ok,I.os,I.bare,I.base,I.loc,I.cell,I.free,I.aoI,λp aL=>I.pin p (List.mem_append_left _ aL),I.bL,I.len⟩
def akD{X:a3}{C ej gG gF cd cQ:ak}{bs:List Bool}{j:Nat}{body qw:List Stmt}{p6:Stmt}{np pos yI Le uV:Pos}
  (rg:∀(dx:List (ak×Obj)) (E:aq->aH->Prop),fY (a3.bears X dx E) body (s9 (wL (iK (jT (.str "told")) (iK (ND (a3.bears X dx E) C 0) mB))) (tP 1)))
  (It:∀ea,fY (a3.sR X ea) (p6::qw) (NC X.K C gG gF cd cQ)) (b5:Kinds X.K C gG gF cd cQ bs j)
  (hm:X.mg "DoorError"=some (.ref ej)) (ah:PySem.W.typeIn X.K (.ref ej)=some (.type "type")) (ar:PySem.W.mroIn X.K ej (.type "BaseException")=some true) (br:PySem.W.mroIn X.K C (.ref ej)=some true) (aw:(PySem.W.clsIn X.K ej).isSome=true)
  (Ip:b0 X (.Name "_law_found" uV) (g4 1))
  (dz:X.N.Nodup) (aP:X.N[2]?=some ("e":Str)) (hlen:X.N.length=4) (ob:X.env.kindOf "e"=some .local) (hy:X.stack=X.env::X.outer) (hf:X.env.frame=some X.env.locals) (bq:ee X "DoorError"):
  fY X [.Try body [.ExceptHandler (some (.Name "DoorError" np)) (some "e") (p6::qw) yI] [] [] pos,.Return (some (.Name "_law_found" uV)) Le] (EL X C j):=by
 have aaH:h2 X (.Try body [.ExceptHandler (some (.Name "DoorError" np)) (some "e") (p6::qw) yI] [] [] pos) (λD σ H=>∃q,σ.length=4/\σ[0]?=some (some (.ref q))/\(∃(o:Obj) (fd:eo),H q=some (oh o q)/\o.data=.func fd)/\∃tV:aB->Prop,
   (∀(ao:List (ak×Obj)) (s:aH),Inv X ao σ H s->hT (unop%Wk 0) X.A (.call (.ref q) ⟨[],[]⟩) (oN (mT X.prog X.w) X.stack X.prog X.w H s (λ_ _=>False) λcl _ ag=>cl=.ref C/\tV ag) s) /\
   ∀ag,tV ag->∀nW p N6,md ag nW->nW p=some (.tup [.str "refused",.int j])->N6[1]?=some (some (.ref p))->D.bI N6 nW):=by
  intro ao s σ H D I ⟨q,aG,a5,Ie,tV,sM,aI⟩;refine wpAny_Try_except ?_
  let mW:aq->aH->Prop:=λe c6=>a_ (unop%Wk 0) X.A (noteFrame e X.env) (λ_ kd=>a_ (unop%Wk 0) X.A (setFlight e none) (λ_ qx=>a_ (unop%Wk 0) X.A (handleBy e X.env [.ExceptHandler (some (.Name "DoorError" np)) (some "e") (p6::qw) yI]) (bA.q3 X ao D) X.dm qx) X.dm kd) X.dm c6
  refine et (rg (X.dx++ao) mW [] s σ H {bI:=λ_ _=>False,dn:=λ_ _=>False} (aj0 I mW) ⟨q,a5,Ie,λCI s2 ct=>?_⟩) (λf s1 aA=>?_) λe s1 he=>he
  ·refine nH (sM (ao) s2 (Sg I.ok ct)) λr s' ay=>?_
   cases r with
   |ok du=>
    cases du with
    |ret u=>exact ay
    |next=>exact ay
    |brk=>exact ay
    |cont=>exact ay
   |error e=>
    obtain⟨VL,ag,du,az,K0⟩:=ay;cases az;refine⟨C,ag,du,C,rfl,λaou nU e6 s3 dS s4 el _a=>?_⟩;have J:=Sg I.ok el;have y0:nU.length=4:=by rw[J.len,hlen]
    refine alb (i:=2) J _a hm ah ar br aw It (λea _T=>ah6 b5 (ea:=ea) (by simp[y0]) (List.getElem?_set_self (by omega)) dV λnW p ck g aL aah dN=>?_) dz aP ob hy hf bq (by decide)
    refine aI ag K0 nW p _ ((md.laid _T).trans g) aL ?_
    rw[List.getElem?_set_ne (by decide)];exact dN
  ·cases f with
   |next=>obtain⟨_,_,_,z⟩:=aA;exact d8 z
   |brk=>obtain⟨_,_,_,z⟩:=aA;exact d8 z
   |cont=>obtain⟨_,_,_,z⟩:=aA;exact d8 z
   |ret u=>obtain⟨_,_,_,_,_,z⟩:=aA;exact d8 z
 refine Am (vy aaH (vB (vK Ip))) λD σ H hqq=>?_;obtain⟨q,aG,a5,Ie,tV,sM,aI⟩:=hqq
 exact⟨q,aG,a5,Ie,tV,sM,λag K0 nW p N6 g aL dN=>⟨_,dN,aI ag K0 nW p g aL⟩⟩
noncomputable def tH(f:jg)(r:hK)(j:Nat):jg:=λai=>if r ai=true then some (.tuple [.str "refused",.int j],ai) else EU f ai
def Uc{X:a3}{k:Nat}{x:Str}{st:Stmt}{cp:ak}{fd:eo}{l6 pH pI vb:Str}{params:Arguments}{body:bx}{scope:Scope}{hQ p pos:Pos}{c jB C:ak}{f:jg}{r:hK}{j:Nat}
  (F:cL X.K x x st cp fd) (S:cZ [l6,pH,pI,vb] [l6] (bR st)) (bd:gh X.K fd [l6] []) (hm:X.mg x=some (.ref cp))
  (bp:∀(b1:aq) (A:cw) (outer:List Env) (s:aH) (H:aB),fY (unop%Wt 0).d_ (fv st) (NW (unop%Wt 0).d_))
  (hz:∀(b1:aq) (A:cw) (outer:List Env) (s:aH) (H:aB),fY (unop%Wt 0).d_ (fv st) (EL (unop%Wt 0).d_ C j))
  (ri:X.env.code=.ref c) (eg:rT X.K c jB=true) (iv:nV X.mg X.base) {pA:Str} (oe:(jB,pA)∈cB.dg) (rq:∀p∈cB.dg,p.1=jB->p.2=pA)
  (ay:da (k+2) X.A)
  (af:∀(q bX:ak) (cl:List (Str×ak)) (A:cw) (outer:List Env) (s:aH) (H:aB),da k (unop%Wu 0)->m2 (m7 X.prog X.w X.K X.mg X.base X.N (unop%WS 0) scope q (.ref bX) cl A outer s H) body f)
  (_I:∀(q bX:ak) (cl:List (Str×ak)) (A:cw) (outer:List Env) (s:aH) (H:aB) (E:fb),da k (unop%Wu 0)->sj (A7 X.prog X.w X.K X.mg X.base X.N (unop%WS 0) scope q (.ref bX) cl A outer s H E) C body r)
  (uI:(decide (scope.kind=.function) && !scope.isCoroutine && !scope.isGenerator && scope.names.all λy=>decide (y.2≠.cell) && decide (y.2≠.local))=true:=by rfl)
  (iZ:(scope.names.all λy=>decide (y.2≠.free) || decide (X.env.scope.names.lookup y.1=some .cell))=true:=by rfl)
  (v5:∀(cl:List (Str×ak)) (pm:aq) (bX:ak) (gS:aq),bindArgs (PySem.W.kla_fn "<lambda>" (unop%WS 0) params body scope cl pm (.ref bX) gS) ⟨[],[]⟩=pure []:=by intros;rfl)
  (bq:ee X x:=by rfl) (hg:(x==("__debug__":Str))=false:=by decide) (sN:defaultsOf params X.env=([],[]):=by rfl)
  (he:bl [.Lambda params body scope hQ] X.env=(false,eval (.Lambda params body scope hQ) X.env)::bl [] X.env:=by rfl) (wx:X.env.qual++"<lambda>"=pA:=by rfl):
  m2 X (.Call (.Name x p) [.Lambda params body scope hQ] [] pos) (tH f r j):=by
 subst wx;simp only[ic,Bool.not_eq_true',decide_eq_true_eq,List.all_eq_true] at uI;obtain⟨⟨⟨aI,n'⟩,oa⟩,iw⟩:=uI;simp only[List.all_eq_true,Bool.or_eq_true,decide_eq_true_eq] at iZ;have wm:∀y∈scope.names,y.2=.free->X.env.scope.names.lookup y.1=some .cell:=λy a6 hf=>by
  rcases iZ y a6 with z|z
  ·exact absurd hf z
  ·exact z
 intro ao s σ H Q I ⟨aK,E,O,aD,ai,t,ε',hi,e,b5⟩;have AO:=PySem.W.codeHd_of_K I.ok.mod.pq eg;unfold tH at e;by_cases iU:r ai=true
 case neg=>
  rw[if_neg iU] at e;exact amh F S bd hm bp ri AO iv oe rq aI n' oa (λy a6=>iw y a6) wm v5 ay af bq hg sN he ao s σ H Q I ⟨aK,E,O,aD,ai,t,ε',hi,e,b5⟩
 rw[if_pos iU] at e;cases e;refine nF (vD I bq hm ?_ hg);refine PySem.W.callWith_K (h₀:=X.base) I.ok.mod.pq F.aF ?_ he rfl;rw[he];show a_ _ _ (spliced ((false,eval (.Lambda params body scope hQ) X.env)::[])) _ _ s;have aG:∀x∈scope.names,x.2=.free->∃c,X.env.cells.lookup x.1=some c:=λx hx hf=>I.ok.has x.1 (.inl (wm x hx hf));refine Calls.spliced_cons (M1 I ri AO iv sN (DO aG) hi.b'.aoN oe rq λq bX gS H1 s1 bj qt zw wx a5 aw=>Calls.spliced_nil ⟨bj.j9,?_⟩);have aU:Ext aD H aD H1:=⟨qt,λ_ h=>h,λ_ h=>.inl h,⟨λa aC=>by
  obtain⟨o,aJ⟩:=hi.b'.v7 a aC;exact qt.ne aJ,zw⟩⟩
 have fin:hT (unop%Wk 0) X.A (.call (.ref cp) ⟨[.ref q],[]⟩) (oN dH X.stack X.prog X.w H1 s1 Q ku) s1:=by
  refine T3 (k:=k+1) (vs:=[.ref q]) F S bd ay bj.um (.cons rfl .nil) rfl λb1 rp=>⟨_,hz b1 X.A X.stack s1 H1,?_⟩
  refine⟨q,rfl,rfl,⟨_,_,a5,rfl⟩,λag=>∃dC,Ext aD H1 dC ag,λCI s2 ct=>?_,?_⟩
  ·have caps:qS X.N scope (unop%WL 0) σ H1 s2.heap:=by
    have cV:=UK bj iw wm;have aF:∀{a:ak} {v:Option aq},s1.heap.IsCell a v->H1 a=none->s2.heap.IsCell a v:=λ{a v} z n=>S9 ct.base z n (by intro z;exact absurd (show a∈([]:List ak) from z) (by simp));refine⟨cV.inj,cV.has,λx c h=>?_,cV.len,λi x v ah ar br=>?_⟩
    ·obtain⟨⟨v,bh⟩,bg⟩:=cV.sA x c h;exact⟨⟨v,aF bh bg⟩,bg⟩
    ·obtain⟨u,c,c1,hf,kB,hx⟩:=cV.val i x v ah ar br;exact⟨u,c,c1,hf,kB,aF hx (cV.sA x c kB).2⟩
   exact ajT aI n' oa (λx hx=>(iw x hx).1) (_I q bX _) (v5 _ _ _ _) rp ct.um a5 aw caps ⟨aK,E,O,aD,ai,hi.ext aU,iU,λdC bB bP=>⟨rfl,dC,bP⟩⟩
  ·rintro ag ⟨dC,bP⟩ nW p g aL;have gM:=g dC bP.b';refine b5 _ dC _ ((aU.trans bP).trans gM).aF (hi.ext ((aU.trans bP).trans gM)) ?_;simp only[Rep];exact⟨p,_,rfl,dc.of aL,bH.cons (by simp[Rep]) (bH.cons (by simp[Rep]) bH.nil)⟩
 refine qD (nH fin λr s' a5=>?_)
 cases r with
|error e=>exact d8 a5
|ok du=>
  cases du with
  |ret u=>exact bj.after a5
  |next=>exact d8 a5
  |brk=>exact d8 a5
  |cont=>exact d8 a5
end
section
variable [cB]
noncomputable def vP(a:Str):T->Option T
|.str x=>if (reprText x).length<=10000/\a.length<=1000 then some (.str (Str.empty++a++reprText x)) else none
|.int i=>if i.natAbs<1000/\a.length<=1000 then some (.str (Str.empty++a++Str.ofString (toString i))) else none
|_=>none
def amz{X:a3}{e:bx}{f:bZ}{a:Str}{j:Nat}{nk eT wD:Pos}(he:eB X e f):cT X (.JoinedStr [.Constant (.str a) j nk,.FormattedValue e 114 none eT] wD) (cU (vP a) f):=by
 intro ao s σ H Q I ⟨aK,E,O,F,ai,t,r,az,k⟩;simp only[cU,cm] at az;obtain⟨x,ex,az⟩:=az;have emp:∀y:Str,(Str.empty++y).length=y.length:=λy=>by rw[strLen_append];simp[Str.empty,Str.length]
 have app:∀y z:Str,(Str.empty++y++z).length=y.length+z.length:=λy z=>by rw[strLen_append,emp]
 refine wpAny_JoinedStr ?_
 refine Calls.Constant_str ⟨a,_,rfl,?_,?_⟩
 ·rw[emp,jW];unfold vP at az;split at az
  ·split at az
   next h=>have:=h.2;omega
   next=>cases az
  ·split at az
   next h=>have:=h.2;omega
   next=>cases az
  ·cases az
 show a_ _ _ (eval (.FormattedValue e 114 none eT) X.env) _ _ _
 refine wpAny_FormattedValue_repr ?_
 refine cK (he ao _ σ H (λv H1=>∃ba,Ext F H ba H1/\f3 X.K O ba H1 x v) (I.tok _) ⟨aK,E,O,F,ai,x,r,ex,λv aD ag mD bW=>⟨aD,mD,bW⟩⟩) λu s1 hqq=>?_;obtain⟨v,H1,bj,bW,ba,aU,aW⟩:=hqq
 cases x with
|str y=>
  simp only[vP] at az;split at az
  next h=>
   cases az
   have ev:=aW.str;subst ev;obtain⟨tk,rfl⟩:=bW;have ah:=h.1;have ar:=h.2;refine wpAny_pyReprObj_str ?_ (by rw[jW];omega);have fin:∀(tt:Tok) (ss:aH),Inv X ao σ H1 ss->∃vg t,Value.str (reprText y) tt=Value.str vg t/\(Str.empty++a++vg).length<=cj/\Joins (unop%Wk 0) X.A X.dm [] (Str.empty++a++vg) (λout c6=>out.length<=cj/\g_ X ao σ Q (.str out c6.toks) {c6 with toks:=c6.toks+1}) ss:=λtt ss Is=>by
    have hz:(Str.empty++a++reprText y).length<=cj:=by rw[app,jW];omega
    exact⟨_,_,rfl,hz,hz,⟨.str _,H1,Is.tok _,⟨_,rfl⟩,k _ ba H1 aU (by simp[Rep])⟩⟩
   exact wpAny_formatField_str (fin _ _ (bj.tok _)) (fin _ _ ((bj.tok _).tok _)) (by rw[jW];omega)
  next=>cases az
|int i=>
  simp only[vP] at az;split at az
  next h=>
   cases az
   have ev:=aW.int;subst ev;obtain⟨tk,rfl⟩:=bW;have ah:=h.1;have ar:=h.2;have hd:i.natAbs.log2<1920:=by
    by_cases h0:i.natAbs=0
    ·rw[h0];decide
    ·exact i' ((Nat.log2_lt h0).mpr (show i.natAbs<2 ^ 10 by omega)) (by decide)
   have aak:(Str.ofString (toString i)).length<=4300:=by
    have e:=int_text_length_le10 (k:=3) (by decide) (show i.natAbs<10 ^ 3 from ah);rw[PySem.ofString_length];omega
   refine wpAny_pyReprObj_gives (typeIs_int _ i tk) PySem.F.slot_int_repr PySem.F.entry_int_repr (PySem.F.args_int_repr_1 _) (gives_int_repr i tk hd) ?_ rfl (by rw[jW];exact lz aak (by omega))
   have fin:∀(tt:Tok) (ss:aH),Inv X ao σ H1 ss->∃vg t,Value.str (Str.ofString (toString i)) tt=Value.str vg t/\(Str.empty++a++vg).length<=cj/\Joins (unop%Wk 0) X.A X.dm [] (Str.empty++a++vg) (λout c6=>out.length<=cj/\g_ X ao σ Q (.str out c6.toks) {c6 with toks:=c6.toks+1}) ss:=λtt ss Is=>by
    have hz:(Str.empty++a++Str.ofString (toString i)).length<=cj:=by rw[app,jW];omega
    exact⟨_,_,rfl,hz,hz,⟨.str _,H1,Is.tok _,⟨_,rfl⟩,k _ ba H1 aU (by simp[Rep])⟩⟩
   exact wpAny_formatField_str (fin _ _ (bj.tok _)) (fin _ _ ((bj.tok _).tok _)) (by rw[jW];omega)
  next=>cases az
|none=>cases az
|bool b=>cases az
|tuple b=>cases az
|list b=>cases az
|dict b=>cases az
end
section
noncomputable def EZ(K:bc)(ej gG gF cd cQ C:ak)(gQ b6 b7 dM:Bool):Bool:=
 (PySem.W.clsIn K C).isSome && (l7 K (.ref C) "__getattribute__"==some (some (.builtin "BaseException.__getattribute__"))) && (l7 K (.ref C) "__getattr__"==some none)
 && (l7 K (.ref C) "__class__"==some (some (.builtin "object.__class__"))) && (PySem.W.specialIn K (.builtin "object.__class__") "__get__"==some (some (.builtin "getset_descriptor.__get__")))
 && (PySem.W.takesIn K (.builtin "object.__class__")==some true) && (PySem.W.mroIn K C (.type "object")==some true) && (PySem.W.mroIn K C (.type "BaseException")==some true)
 && (PySem.W.mroIn K C (.ref ej)==some true) && PySem.W.excIn K C Gi "ValueError.__new__"
 && (oG K (.ref C) (.ref gG)==some gQ) && (oG K (.ref C) (.ref gF)==some b6) && (oG K (.ref C) (.ref cd)==some b7) && (oG K (.ref C) (.ref cQ)==some dM)
 && (oG K (.ref C) (.type "ValueError")==some true)
noncomputable def NS(K:bc)(ej:ak):Bool:=(PySem.W.typeIn K (.ref ej)==some (.type "type")) && (PySem.W.mroIn K ej (.type "BaseException")==some true) && (PySem.W.clsIn K ej).isSome
structure ua(K:bc)(ej gG gF cd cQ C:ak)(j:Nat):Prop where
 ok:sd K C
 mro:PySem.W.mroIn K C (.ref ej)=some true
 new:PySem.W.excIn K C Gi "ValueError.__new__"=true
 kinds:∃bs,Kinds K C gG gF cd cQ bs j
def alr{K:bc}{ej gG gF cd cQ C:ak}{gQ b6 b7 dM:Bool}{j:Nat}(h:EZ K ej gG gF cd cQ C gQ b6 b7 dM=true)(one:[gQ,b6,b7,dM].countP id=1)(hit:[gQ,b6,b7,dM][j]?=some true)(no:∀m,m<j->[gQ,b6,b7,dM][m]?=some false):
  ua K ej gG gF cd cQ C j:=by
 unfold EZ at h;simp only[ic,beq_iff_eq] at h;obtain⟨⟨⟨⟨⟨⟨⟨⟨⟨⟨⟨⟨⟨⟨ah,ar⟩,br⟩,cF⟩,gq⟩,sG⟩,sH⟩,ux⟩,HK⟩,_k⟩,BE⟩,_l⟩,_m⟩,_n⟩,_o⟩:=h;exact⟨⟨ah,ar,br,cF,gq,sG,sH,ux⟩,HK,_k,_,⟨gQ,b6,b7,dM,rfl,BE,_l,_m,_n⟩,_o,one,hit,no⟩
def anv{K:bc}{ej gG gF cd cQ:ak}(h:EZ K ej gG gF cd cQ gF false true false false=true):ua K ej gG gF cd cQ gF 1:=alr h rfl rfl λm hm=>by
 obtain rfl:m=0:=by omega
 rfl
structure vV(K:bc)(mg:Str->Option aq)(ej gG gF cd cQ:ak):Prop where
 door:mg "DoorError"=some (.ref ej)
 nz:mg "NoZone"=some (.ref gG)
 nw:mg "NoWay"=some (.ref gF)
 aS:mg "NoDeed"=some (.ref cd)
 nt:mg "NoText"=some (.ref cQ)
 pn:mg "isinstance"=none
 val:mg "ValueError"=none
 ok:NS K ej=true
section
variable [cB]{X:a3}{C ej gG gF cd cQ:ak}{j:Nat}{pos p nk:Pos}
def As{fI:bx}{c:V}(O:sd X.K C)(z:X.mg "isinstance"=none)(he:b0 X (.Name "e" nk) (g4 2))(aw:b0 X fI (jT c))(bq:ee X "isinstance":=by rfl)
  (aA:bl [.Name "e" nk,fI] X.env=(false,eval (.Name "e" nk) X.env)::bl [fI] X.env:=by rfl) (i0:bl [fI] X.env=(false,eval fI X.env)::bl [] X.env:=by rfl)
  (hpl:(c' pos (bl [fI] X.env)).any (·.1)=false:=by rfl):
  b0 X (.Call (.Name "isinstance" p) [.Name "e" nk,fI] [] pos) (u2 X.K C c):=Ac (am_ O) bq z PyProof.Rows.Boot.«isinstance» (fu he (fu aw hJ i0) aA) (he:=aA) (hpl:=hpl)
def amj{body qw:List Stmt}{p6:Stmt}{np pos yI Le uV:Pos}(N:vV X.K X.mg ej gG gF cd cQ)(R:ua X.K ej gG gF cd cQ C j)
  (rg:∀(dx:List (ak×Obj)) (E:aq->aH->Prop),fY (a3.bears X dx E) body (s9 (wL (iK (jT (.str "told")) (iK (ND (a3.bears X dx E) C 0) mB))) (tP 1)))
  (It:∀ea,fY (a3.sR X ea) (p6::qw) (NC X.K C gG gF cd cQ)) (Ip:b0 X (.Name "_law_found" uV) (g4 1))
  (dz:X.N.Nodup) (aP:X.N[2]?=some ("e":Str):=by rfl) (hlen:X.N.length=4:=by rfl) (ob:X.env.kindOf "e"=some .local:=by rfl) (hy:X.stack=X.env::X.outer:=by rfl) (hf:X.env.frame=some X.env.locals:=by rfl) (bq:ee X "DoorError":=by rfl):
  fY X [.Try body [.ExceptHandler (some (.Name "DoorError" np)) (some "e") (p6::qw) yI] [] [] pos,.Return (some (.Name "_law_found" uV)) Le] (EL X C j):=by
 have ok:=N.ok;unfold NS at ok;simp only[ic,beq_iff_eq] at ok;obtain⟨⟨ah,ar⟩,br⟩:=ok;obtain⟨bs,b5⟩:=R.kinds;exact akD rg It b5 N.door ah ar R.mro br Ip dz aP hlen ob hy hf bq
end
end
section
variable [cB]
def il.at{X:a3}{ao:List (ak×Obj)}{H ag:aB}{b:ak}(h:il X ao H b)(e:ag b=none):il X ao ag b:=⟨e,h.2⟩
end
section
variable [cB]
def alc{X:a3}{ao:List (ak×Obj)}{σ:bA.St}{H:aB}{s:aH}{scope:Scope}{y:Str}(I:Inv X ao σ H s)(iw:∀x∈scope.names,x.2≠.cell)(ob:∀x∈scope.names,x.2=.local->x.1=y)(a6:y∉X.N)(iZ:∀x∈scope.names,x.2=.free->X.env.scope.names.lookup x.1=some .cell):
  qS X.N scope (unop%WL 0) σ H s.heap:=by
 have aG:∀x∈scope.names,x.2=.free->∃c,X.env.cells.lookup x.1=some c:=λx hx hf=>I.ok.has x.1 (.inl (iZ x hx hf));have fr:∀x c,(unop%WL 0).lookup x=some c->X.env.cells.lookup x=some c:=xc aG λx c e=>by cases e
 refine⟨λx y c ah ar=>I.ok.inj x y c (fr x c ah) (fr y c ar),λx h=>?_,λx c h=>⟨I.cell x c (fr x c h),I.aoI x c (fr x c h)⟩,I.len,λi x v ah ar br=>?_⟩
 ·rcases h with h|h
  ·obtain⟨y,a6,az,aM⟩:=oH h;exact absurd az (iw y a6)
  ·obtain⟨y,a6,az,aM⟩:=oH h;exact tq (.inl ⟨y,a6,az,aM⟩)
 ·have hf:scope.names.lookup x=some .free:=by
   rcases br with h|h|h
   ·obtain⟨z,hz,az,aM⟩:=oH h;have:=ob z hz az;rw[aM] at this;exact absurd (this▸qB ah) a6
   ·obtain⟨y,a6,az,_⟩:=oH h;exact absurd az (iw y a6)
   ·exact h
  obtain⟨y,a6,az,aM⟩:=oH hf;have aI:X.env.scope.names.lookup x=some .cell:=by rw[<- aM];exact iZ y a6 az
  obtain⟨m,_,bh⟩:=I.loc;obtain⟨u,c1,lk⟩:=bh i x v ah ar (.inr (.inl aI));obtain⟨c,aw⟩:=tq (env:=X.env) (l:=scope.names) (cs:=[]) (x:=x) (.inl ⟨y,a6,az,aM⟩);refine⟨u,c,c1,hf,aw,?_⟩;rcases lk with ⟨Ia,_⟩|⟨_,dj,kB,hx⟩
  ·have:X.env.scope.names.lookup x=some .local:=Ia;rw[aI] at this;cases this
  ·rw[fr x c aw] at kB;cases kB;exact hx
def cN.Yl{K:bc}{aK O F:ak->Prop}{E:gi}{H:aB}{ai:Ev}{σ:bA.St}{d:T}{v:V}(r:cN K aK E O F H ai σ)(jP:Rep K F H d v):cN K aK E O F H (some (.aa d)::ai) (some v::σ):=by
 refine⟨by simp[r.len],λi s e=>?_,λi j s u v1 oB kC az aM d3 eE ah ar=>?_,r.ent,r.o0,r.fr⟩
 ·cases i with
  |zero=>
   simp at e;subst e;exact⟨v,rfl,jP⟩
  |succ i=>exact r.val i s (by simpa using e)
 ·cases i with
  |zero=>
   simp at az;subst az;cases d3
  |succ i=>
   cases j with
   |zero=>
    simp at aM;subst aM;cases eE
   |succ j=>exact r.ne i j s u v1 oB (by omega) (by simpa using az) (by simpa using aM) d3 eE (by simpa using ah) (by simpa using ar)
section
variable {P:cA}{w:b_}{K:bc}{mg:Str->Option aq}{base:bM}{k:Nat}{q bX:ak}{N:List Str}{qual:Str}{scope:Scope}{cd:aq}{cl:List (Str×ak)}{A:cw}{outer:List Env}{s:aH}{H:aB}{σ:bA.St}{y:Str}
def ai7{ah:bM}{tk:Nat}{m:Str->Option aq}{v:V}{u:aq}(aI:scope.kind=.function)(hd:A.handled=none)(bO:kR P w K mg base A outer s H)(C:qS N scope cl σ H s.heap)(mn:ah.Ns s.heap.objs.size m)(a6:scope.names.lookup y=some .local)(hm:m y=some u)(bW:RelV v u)(aF:∀b o,s.heap.get? b=some o->ah.get? b=some o):
  Inv (m7 P w K mg base (y::N) qual scope q cd cl A outer s H) [] (some v::σ) H {s with heap:=ah,toks:=tk}:=by
 have nj:∀b:ak,b∉(m7 P w K mg base (y::N) qual scope q cd cl A outer s H).ex:=λb z=>absurd (show b∈([]:List ak) from z) (by simp);refine⟨⟨bO.mod,aI,rfl,rfl,dQ _,C.inj,C.has,λy c hf _=>(by cases hf),λ_=>hd,Around.frames_deeper bO.frames,.inr ⟨rfl,rfl⟩,λb z=>absurd z (nj b),bO.bs,bO.m4,λb _ _=>nj b,λb z=>absurd z (nj b),bO.ky,bO.n7⟩,
  rfl,bO.bare,f6.kept aF,⟨m,mn,λi x v1 dN ar br=>?_⟩,λy c h=>?_,bO.bL.fresh (dQ _),λy c h=>(C.sA y c h).2,λp aL=>absurd (show p∈([]:List (ak×Obj)) from aL) (by simp),bO.bL.kept aF,by
  show (some v::σ).length=(y::N).length
  simp[C.len]⟩
 ·replace dN:(y::N)[i]?=some x:=dN;cases i with
  |zero=>
   have az:y=x:=by simpa using dN
   have aM:v=v1:=by simpa using ar
   subst az aM;exact⟨u,bW,.inl ⟨a6,hm⟩⟩
  |succ i=>
   obtain⟨u,c,c1,hf,aw,hx⟩:=C.val i x v1 (by simpa using dN) (by simpa using ar) br;exact⟨u,c1,.inr ⟨.inr hf,c,aw,DW hx aF⟩⟩
 ·obtain⟨⟨v,bh⟩,_⟩:=C.sA y c h;exact⟨v,DW bh aF⟩
def ajU{params:Arguments}{body:bx}{pm gS:aq}{g:bZ}{Q:c3}{Oj:fb}(aI:scope.kind=.function)(n':scope.isCoroutine=false)(oa:scope.isGenerator=false)(iw:∀x∈scope.names,x.2≠.cell)(a6:scope.names.lookup y=some .local)
  (af:∀(A:cw) (outer:List Env) (s:aH) (H:aB),da k (A.deeper (unop%WF 0))->cT (m7 P w K mg base (y::N) qual scope q (.ref bX) cl A outer s H) body g)
  {u:aq} {v:V} (bd:bindArgs (PySem.W.kla_fn "<lambda>" qual params body scope cl pm (.ref bX) gS) ⟨[u],[]⟩=pure [(y,u)])
  (ay:da (k+1) A) (bO:kR P w K mg base A outer s H) (a5:H q=some (oh (PySem.W.kla_obj "<lambda>" qual params body scope cl pm bX gS) q)) (aw:H bX=some (ug bX qual)) (C:qS N scope cl σ H s.heap) (bW:RelV v u)
  {aK O F:ak->Prop} {E:gi} {ai:Ev} {d t:T} (r:cN K aK E O F H ai σ) (jP:Rep K F H d v) (e:g (some (.aa d)::ai)=some t) (i2:∀v aD ag,Ext F H aD ag->Rep K aD ag t v->Q v ag):
  hT (bG P w) A (.call (.ref q) ⟨[u],[]⟩) (oN dH outer P w H s Q Oj) s:=by
 have y6:s.heap.NoLimit:=bO.mod.nolimit.keeps λb o e=>(bO.bs b o e).1;refine PySem.W.kla_callFunE ay.depth (bO.bL q _ a5).1 rfl n' oa rfl (bO.bL bX _ aw).1 ?_;rw[bd];refine b2 (Dl iw (λx hx=>by rw[ly.mp hx];exact a6) (λe9 mn ph=>⟨y6.fresh _ ph,?_⟩) aI);have aF:∀b o,s.heap.get? b=some o->e9.get? b=some o:=λb o e=>ph.extBut b o (e3 (c_ e)) (cW _ e);show hT _ _ (.expr body (unop%WF 0)) _ _;refine PySem.W.kla_codeExpr ?_;have I:Inv (m7 P w K mg base (y::N) qual scope q (.ref bX) cl A outer s H) [] (some v::σ) H {s with heap:=e9,toks:=s.toks+([(y,u)]:List (Str×aq)).length}:=ai7 aI ay.hd bO C mn a6 (by simp) bW aF;refine et (af A outer s H (ay.deeper _) [] _ _ H (λv ag=>Q v ag) I ⟨aK,E,O,F,_,t,r.Yl jP,e,λv aD ag x q=>i2 v aD ag x q⟩) (λu s' aA=>?_) λe s' aA=>(show False from aA).elim;obtain⟨v,ag,J,bW,K9⟩:=aA;exact⟨v,ag,J.os,J.bare,J.base,J.bL,bW,K9⟩
end
section
variable {M:Model}{A:cw}{E:aq->aH->Prop}{s:aH}{env:Env}
def VH{pos:Pos}{id:String}{e:bx}{rest:List bx}{fB:List Keyword}{Q:aq->aH->Prop}
  (h:a_ M A (spliced (c' pos (bl (e::rest) env))) (λvs s1=>a_ M A (evalAll ((fT pos (fS fB env)).map (·.2))) (λa' s2=>a_ M A (call (.builtin id) vs (((fT pos (fS fB env)).filterMap (·.1)).zip a')) Q E s2) E s1) E s)
  (he:c' pos (bl (e::rest) env)=(false,eval e env)::c' pos (bl rest env)) (aL:(c' pos (bl (e::rest) env)).any (·.1)=false)
  (aC:(fT pos (fS fB env)).all (·.1.isSome)=true) (aI:(fT pos (fS fB env)).any (·.1.isNone)=false):
  a_ M A (callWith pos (.builtin id) [] (c' pos (bl (e::rest) env)) (fT pos (fS fB env))) Q E s:=by
 have H5:a_ M A (evalArgs (.builtin id) true (c' pos (bl (e::rest) env)) (fT pos (fS fB env))) (λa s1=>a_ M A (call (.builtin id) ([]++a.pos) a.kw) Q E s1) E s:=by
  rw[he] at h ⊢;exact evalArgs_kwB aC h
 unfold callWith;refine aN (jb (et H5 (λa s1 g1=>aN (wpAny_standAt ?_)) λ_ _ x=>x));simp only[aL,aI,Bool.or_false];refine aN (b2 (aN (et g1 (λr s2 ay=>?_) λ_ _ x=>x)));exact aN (jb (wpAny_point (b2 ay)))
end
noncomputable def Cp(g:bZ)(ai:Ev):T->Option T:=λd=>(g (some (.aa d)::ai)).bind λgs=>if ez gs=true then some gs else none
def ane{X:a3}{C:ak}{e:bx}{r:hK}{fB:List Keyword}{p pos:Pos}{x:Str}{id:String}(hm:X.mg x=none)(bh:bootBuiltins x=some (.builtin id))(he:sj X C e r)(bq:ee X x:=by rfl)(bg:x≠"__name__":=by decide)(hg:(x==("__debug__":Str))=false:=by decide)
  (ah:c' pos (bl [e] X.env)=(false,eval e X.env)::c' pos (bl [] X.env):=by rfl) (ar:(c' pos (bl [e] X.env)).any (·.1)=false:=by rfl)
  (br:(fT pos (fS fB X.env)).all (·.1.isSome)=true:=by rfl) (cF:(fT pos (fS fB X.env)).any (·.1.isNone)=false:=by rfl)
  (gq:bl [e] X.env=(false,eval e X.env)::bl [] X.env:=by rfl):sj X C (.Call (.Name x p) [e] fB pos) r:=by
 intro ao s σ H Q I h;refine nF (qO I bq hm bh ?_ bg hg);refine VH ?_ ah ar br cF;have aC:gj X [e] (iK (Lo X C r) mB):=fu he hJ gq;refine cK (aC pos ao s σ H (λ_ _=>False) I h) λus s1 ⟨vs,H1,bj,bk,z⟩=>z.elim
def amg{X:a3}{C:ak}{e:bx}{r:hK}{fB:List Keyword}{p pos:Pos}(hm:X.mg "max"=none)(he:sj X C e r)(bq:ee X "max":=by rfl)
  (ah:c' pos (bl [e] X.env)=(false,eval e X.env)::c' pos (bl [] X.env):=by rfl) (ar:(c' pos (bl [e] X.env)).any (·.1)=false:=by rfl)
  (br:(fT pos (fS fB X.env)).all (·.1.isSome)=true:=by rfl) (cF:(fT pos (fS fB X.env)).any (·.1.isNone)=false:=by rfl)
  (gq:bl [e] X.env=(false,eval e X.env)::bl [] X.env:=by rfl):sj X C (.Call (.Name "max" p) [e] fB pos) r:=ane hm (id:="max") (by decide +kernel) he bq (by decide) (by decide) ah ar br cF gq
def anb{P:cA}{w:b_}{K:bc}{mg:Str->Option aq}{base:bM}{x:Str}{st:Stmt}{f:ak}{g0:aq}{eh an:Option ak}{ka:Array (Option aq)}{dI doc pm b1 cQ:aq}{N ps:List Str}{k:Nat}{b:bJ}
  (l:K.lookup f=some ⟨g0,eh,.func (lx x x (mK st) (fv st) (bR st) .none dI doc pm an b1 cQ),ka⟩) (eg:qA K b1 x=true) (S:cZ N ps (bR st))
  (bd:∀fd,cL K x x st f fd->gh K fd ps []) (m:mg x=some (.ref f)) (aF:nx K (.ref f)=true)
  (af:∀(A:cw) (outer:List Env) (s:aH) (H:aB) (E:fb),da k (A.deeper (envOfC x (bR st) s.heap.objs.size f b1)) ->
   j2 (fx dH P w K mg base N x (bR st) f b1 A outer s H E).d_ (fv st) b):Cl P w K mg base x (k+1) ps.length (c2 b N.length):=
 .mk' (UD l eg S af) m aF (bd _ (dG (st:=st) l eg aF))
end
section
variable [cB]
mutual
noncomputable def gJ:T->T->Option Bool
|.int a,.int b=>some (decide (b<a))
|.tuple xs,.tuple ys=>oi xs ys
|_,_=>none
noncomputable def oi:List T->List T->Option Bool
| [],[]=>some false
| [],_::_=>some false
|_::_,[]=>some true
|x::xs,y::ys=>if gf x y then oi xs ys else gJ x y
end
noncomputable def Om(A:cw)(s:aH)(y x:aq)(b:Bool):Prop:=
 ∀(prog:cA) (w:b_) (E:aq->aH->Prop) (Q:aq->aH->Prop),Q (.bool b) s->a_ (bG prog w) A (richCompare .Gt y x) Q E s
inductive GoodG(A:cw)(s:aH)(fin:Bool):List (aq×aq)->Bool->Prop
|nil:GoodG A s fin [] fin
|eq {y x:aq} {r:List (aq×aq)} {b:Bool}:SeqAt.EqAt A s y x true->GoodG A s fin r b->GoodG A s fin ((y,x)::r) b
|lt {y x:aq} {r:List (aq×aq)} {b:Bool}:SeqAt.EqAt A s y x false->Om A s y x b->GoodG A s fin ((y,x)::r) b
section
open PySem.SeqAt
open PySem.AutoSeq1 (wpAny_loadPart')
open PySem.MeetsSeq PySem.MeetsSeq2 PySem.MeetsSeq3
def ahF(l b:ak)(items rt:Array aq)(n fp:Nat)(dd n3:Option ak)(cz iD:Array (Option aq))(z:Bool):
  Meets (Builtin.«tuple.__gt__» ⟨[.ref l,.ref b],[]⟩)
   (λA R s=>s.heap.get? l=some {cls:=.type "tuple",dict:=dd,data:=.seq items n,slots:=cz}/\s.heap.get? b=some {cls:=.type "tuple",dict:=n3,data:=.seq rt fp,slots:=iD} /\
    GoodG A.in1 s (decide (rt.size<items.size)) (items.toList.zip rt.toList) z/\R (.ok (.ret (.bool z))) s):=
 .of_wp λprog w A R s h=>by
  obtain⟨aL,g,d,tk,os⟩:=s;obtain⟨aG,af,bq,h⟩:=h;have f2:=AutoSeq1.sub_tuple_tuple
  wp_walk using wpAny_loadPart' aG,wpAny_loadPart' af,wpAny_forIn_list _ (λrest b s'=>b.1=none/\s'=⟨aL,g,d,tk,os⟩/\GoodG A.in1 ⟨aL,g,d,tk,os⟩ (decide (rt.size<items.size)) rest z) _
  case turn=>
   rintro⟨y,x⟩ rest b s' ⟨j7,rfl,kz⟩;cases kz with
   |eq he kz=>
    refine aN (he prog w _ _ ?_)
    wp_walk
    exact⟨rfl,rfl,kz⟩
   |lt he eL=>
    refine aN (he prog w _ _ ?_)
    have Iq:=eL prog w
    wp_walk using Iq
    exact⟨_,rfl,h⟩
  case fin=>
   rintro⟨b6,b7⟩ s' ⟨j7,rfl,kz⟩;simp only at j7;subst j7;cases kz
   wp_walk
   exact⟨_,rfl,by simpa [Builtin.Tuple.tupleCompareSizes] using h⟩
  case h=>
   exact⟨rfl,rfl,bq⟩
mutual
theorem T1:∀(q' db:T) (A:cw) (s:aH) (a b:aq) (as bs:List ak) (r:Bool),Reads s.heap a q' as->Reads s.heap b db bs->q'.canLay0=true->db.canLay0=true->A.units+min q'.depth db.depth<cLine->gJ q' db=some r->Om A s a b r
|.int i,.int j,A,s,_,_,_,_,r,.int _ t,.int _ u,_,_,_,e=>by
  unfold gJ at e;cases e;exact λprog w E Q q=>(PyProof.Rows.gt_int q:a_ (bG prog w) A (iH .Gt (.int i t) (.int j u)) Q E s)
|.tuple xs,.tuple ys,A,s,_,_,_,_,r,.tuple (a:=l) (o:=o) (vs:=vs) (n:=n) ah ar br cF,.tuple (a:=qn) (o:=o') (vs:=fs) (n:=y2) k1 k2 k3 nh,aC,af,b8,e=>by
  unfold gJ at e;simp only[PyData.canLay0] at aC af;simp only[nC] at b8;have kz:=Si xs ys A.in1 s vs.toList fs.toList _ _ r cF nh aC af (room_in b8) e;obtain⟨cls,dd,data,cz⟩:=o;obtain⟨G9,n3,data2,iD⟩:=o';simp only at ar br k2 k3;subst ar br k2 k3;rw[tb,tb] at kz;exact λprog w E Q q=>richCompare_meets_room (op:=.Gt) ⟨_,ah,rfl⟩ ⟨_,k1,rfl⟩ PySem.F.slot_tuple_gt PySem.F.entry_tuple_gt (PySem.F.args_tuple_gt_2 _ _) (ahF l qn vs fs n y2 dd n3 cz iD r)
   ⟨ah,k1,kz,show Value.bool r≠Value.notImplemented/\Q (.bool r) s from ⟨(λx=>nomatch x),q⟩⟩ (by omega)
|.none,_,_,_,_,_,_,_,_,_,_,_,_,_,e=>by simp[gJ] at e
|.bool _,_,_,_,_,_,_,_,_,_,_,_,_,_,e=>by simp[gJ] at e
|.str _,_,_,_,_,_,_,_,_,_,_,_,_,_,e=>by simp[gJ] at e
|.list _,_,_,_,_,_,_,_,_,_,_,_,_,_,e=>by simp[gJ] at e
|.dict _,_,_,_,_,_,_,_,_,_,_,_,_,_,e=>by simp[gJ] at e
|.int _,.none,_,_,_,_,_,_,_,_,_,_,_,_,e=>by simp[gJ] at e
|.int _,.bool _,_,_,_,_,_,_,_,_,_,_,_,_,e=>by simp[gJ] at e
|.int _,.str _,_,_,_,_,_,_,_,_,_,_,_,_,e=>by simp[gJ] at e
|.int _,.list _,_,_,_,_,_,_,_,_,_,_,_,_,e=>by simp[gJ] at e
|.int _,.dict _,_,_,_,_,_,_,_,_,_,_,_,_,e=>by simp[gJ] at e
|.int _,.tuple _,_,_,_,_,_,_,_,_,_,_,_,_,e=>by simp[gJ] at e
|.tuple _,.none,_,_,_,_,_,_,_,_,_,_,_,_,e=>by simp[gJ] at e
|.tuple _,.bool _,_,_,_,_,_,_,_,_,_,_,_,_,e=>by simp[gJ] at e
|.tuple _,.str _,_,_,_,_,_,_,_,_,_,_,_,_,e=>by simp[gJ] at e
|.tuple _,.list _,_,_,_,_,_,_,_,_,_,_,_,_,e=>by simp[gJ] at e
|.tuple _,.dict _,_,_,_,_,_,_,_,_,_,_,_,_,e=>by simp[gJ] at e
|.tuple _,.int _,_,_,_,_,_,_,_,_,_,_,_,_,e=>by simp[gJ] at e
theorem Si:∀(xs ys:List T) (A:cw) (s:aH) (vs ws:List aq) (as bs:List ak) (r:Bool),ReadsAll s.heap vs xs as->ReadsAll s.heap ws ys bs->jV xs=true->jV ys=true->A.units+min (ja xs) (ja ys)<cLine->oi xs ys=some r->GoodG A s (decide (ws.length<vs.length)) (vs.zip ws) r
| [],[],A,s,_,_,_,_,r,.nil,.nil,_,_,_,e=>by
  unfold oi at e;cases e;exact .nil
| [],_::_,A,s,_,_,_,_,r,.nil,.cons _ _,_,_,_,e=>by
  unfold oi at e;cases e;exact GoodG.nil
|_::_,[],A,s,_,_,_,_,r,.cons _ _,.nil,_,_,_,e=>by
  unfold oi at e;cases e;exact GoodG.nil
|x::xs,y::ys,A,s,_,_,_,_,r,.cons bk b4,.cons aQ bu,aC,af,b8,e=>by
  simp only[jV,ic] at aC af;simp only[ja] at b8;unfold oi at e;have he:=eqAt_reads x y A s _ _ _ _ bk aQ aC.1 af.1 (room_head b8);split at e
  next h=>
   rw[h] at he;have bT:=Si xs ys A s _ _ _ _ r b4 bu aC.2 af.2 (room_tail b8) e;rw[td];simp only[eX,Nat.add_lt_add_iff_right];exact .eq he bT
  next h=>
   rw[Bool.not_eq_true] at h;rw[h] at he;rw[td];exact .lt he (T1 x y A s _ _ _ _ r bk aQ aC.1 af.1 (room_head b8) e)
end
end
noncomputable def vz(kf:T->Option T)(b Qv:T):List T->Option T
| []=>some b
|d::ds=>(kf d).bind λgs=>(gJ gs Qv).bind λz=>if z then vz kf d gs ds else vz kf b Qv ds
noncomputable def Kh(kf:T->Option T):List T->Option T
| []=>none
|d::ds=>(kf d).bind λgs=>vz kf d gs ds
def akV{X:a3}{kf:T->Option T}(aw:X.calm=true)(b8:X.A.units+70<cLine){l q I S:ak}{xs:List V}{ds:List T}{ao:List (ak×Obj)}{σ:bA.St}{tc:(ak->Prop)->aB->Prop}{R:Result->aH->Prop}{n4:T}(uz:I≠S)
  (tk:∀F H aD ag,Ext F H aD ag->tc F H->tc aD ag) (bL:∀d gs,kf d=some gs->ez gs=true)
  (sM:∀(rB:List (ak×Obj)) (H:aB) (s:aH) (F:ak->Prop) (d gs:T) (v:V) (u:aq),Inv X rB σ H s->fk F H->tc F H->Rep X.K F H d v->RelV v u->kf d=some gs ->
   a_ (unop%Wk 0) X.A.in1 (call (.ref q) [u]) (g_ X rB σ λdk ag=>∃aD,Ext F H aD ag/\Rep X.K aD ag gs dk) (λ_ _=>False) s):
  ∀(r j:Nat) (s:aH) (H:aB) (F:ak->Prop) (db ui:T) (qz zB:V) (rH qy:aq) (c:Nat),ds.length - (j+1)=r->j+1<=ds.length->Inv X ao σ H s->fk F H->tc F H->dc X.K H l xs->bH X.K F H ds xs->s.heap.IsTupleIter I l (j+1) ->
   s.heap.get? S=some (seqObj "list" #[rH,qy] c)->il X ao H I->il X ao H S->RelV qz rH->Rep X.K F H db qz->RelV zB qy->Rep X.K F H ui zB->ez ui=true->vz kf db ui (ds.drop (j+1))=some n4 ->
   (∀s' ag aD v x,Inv X ao σ ag s'->Ext F H aD ag->RelV x v->Rep X.K aD ag n4 x->R (.ok (.ret v)) s') ->
   hT (unop%Wk 0) X.A (.builtin "max.loop" ⟨[.ref I,.ref q,.ref S],[]⟩) R s:=by
 have nm:(toString "max"++toString ".loop":String)="max.loop":=by decide
 intro r
 induction r with
|zero=>
  intro j s H F db ui qz zB rH qy c ay bU J b' uJ a5 qj hit eD hu lT ff KY s7 wH y8 aoM k7;obtain⟨its,bW,p,hz⟩:=J.tuple a5;have hlen:its.length=ds.length:=by rw[qj.length,bW.length]
  refine pM (id:="max.loop") PySem.F.entry_max_loop ?_
  rw[rN (vf) _];show a_ _ X.A.in1 (seqItems? (.ref S) >>= _) _ _ _;refine aN (nG (a:=S) eD rfl ?_);show a_ _ X.A.in1 (tryCatch (pyNext (.ref I)) _ >>= _) _ _ _;refine aN (ve (wpAny_pyNext_tuple_end (J.ok.hd aw) hit (show s.heap.IsTuple l its.toArray from p) (by simp;omega) λh' dW=>?_));have oT:Inv X ao σ H {s with heap:=h'}:=J.turned (t':=s.toks) (λb o af e=>dW b o af e) hu.1 hu.2.1 hu.2.2.2.1 hu.2.2.2.2.1 hu.2.2.2.2.2;have m':=dW S _ (Ne.symm uz) eD;show a_ _ X.A.in1 (updateSeq S (λ_=>#[]) >>= _) _ _ _;refine aN (wpAny_updateSeq m' rfl (aN (wpAny_letGo (b2 ?_))));rw[List.drop_of_length_le (by omega)] at aoM;cases aoM;exact k7 _ H F rH qz (oT.turned (t':=s.toks) (λb o af e=>(rU _ _ (Ne.symm af)).trans e) lT.1 lT.2.1 lT.2.2.2.1 lT.2.2.2.2.1 lT.2.2.2.2.2) (Ext.refl b') ff KY
|succ r bT=>
  intro j s H F db ui qz zB rH qy c ay bU J b' uJ a5 qj hit eD hu lT ff KY s7 wH y8 aoM k7;have eL:j+1<ds.length:=by omega
  obtain⟨its,bW,p,hz⟩:=J.tuple a5;have hd:ds[j+1]?=some ds[j+1]:=jv eL;obtain⟨x,hx,gb⟩:=qj.get hd;obtain⟨u,Iw,c1⟩:=bW.get hx;rw[List.drop_eq_getElem_cons eL,vz] at aoM;obtain⟨gs,yh,aoM⟩:=cm.mp aoM;obtain⟨z,uq,aoM⟩:=cm.mp aoM;refine pM (id:="max.loop") PySem.F.entry_max_loop ?_;rw[rN (vf) _];show a_ _ X.A.in1 (seqItems? (.ref S) >>= _) _ _ _;refine aN (nG (a:=S) eD rfl ?_);show a_ _ X.A.in1 (tryCatch (pyNext (.ref I)) _ >>= _) _ _ _;refine aN (ve (wpAny_pyNext_tuple_item hit (show s.heap.IsTuple l its.toArray from p) (x:=u) (by simpa using Iw) λh' yD jR=>?_));have oT:Inv X ao σ H {s with heap:=h'}:=J.turned (t':=s.toks) (λb o af e=>(jR.2 b af).trans e) hu.1 hu.2.1 hu.2.2.2.1 hu.2.2.2.2.1 hu.2.2.2.2.2;have m':h'.get? S=some (seqObj "list" #[rH,qy] c):=(jR.2 S (Ne.symm uz)).trans eD;obtain⟨sV,Ii,A6,gH⟩:=id yD;have Fm:Inv X ((S,seqObj "list" #[rH,qy] c)::(I,sV)::ao) σ H {s with heap:=h'}:=oT.wG λp aL=>by
   rcases cM.mp aL with rfl|aL
   ·exact⟨m',lT.1,lT.2.1,lT.2.2.1,λv z=>by cases z⟩
   ·rcases cM.mp aL with rfl|aL
    ·exact⟨Ii,hu.1,hu.2.1,hu.2.2.1,λv z=>by rw[gH] at z;cases z⟩
    ·exact oT.pin p (kh _ aL)
  show a_ _ X.A.in1 (tryCatch (holding [u] (call (.ref q) [u])) _ >>= _) _ _ _
  refine aN (ve (jb (et (sM _ H _ F _ gs x u Fm b' uJ gb c1 yh) (λog s2 he=>?_) λ_ _ yt=>yt.elim)))
  obtain⟨dk,bB,qY,CL,dC,bP,CJ⟩:=he;have sY:=qY.pin (S,seqObj "list" #[rH,qy] c) (kh _ (.head _));have wF:=qY.pin (I,sV) (kh _ (.tail _ (.head _)));have vU:Inv X ao σ bB s2:=qY.wG λp aL=>qY.pin p (kh _ (.tail _ (.tail _ aL)));have BB:=il.at hu wF.2.1;have mj:=il.at lT sY.2.1;have aad:s2.heap.IsTupleIter I l (j+1+1):=⟨sV,wF.1,A6,gH⟩;obtain⟨as,jO⟩:=mI (O:=λ_=>False) vU (.inl CJ) CL;obtain⟨bs,aeY⟩:=mI (O:=λ_=>False) vU (.inl (wH.ext bP)) s7;have CF:=bL _ _ yh;obtain⟨cV,cu⟩:=qM CF;obtain⟨dj,cD⟩:=qM y8;have _M:=T1 _ _ X.A.in1 s2 og qy as bs z jO aeY cV dj (by have:=Nat.min_le_left gs.depth ui.depth;show X.A.units+1+_<_;omega) uq;show a_ _ X.A.in1 (tryCatch (holding [u,og] (richCompare .Gt og qy >>= _)) _ >>= _) _ _ _;refine aN (ve (jb (aN (_M X.prog X.w _ _ ?_))));refine aN (jb (vd (aN (wpAny_letGo (b2 ?_)))));cases z with
  |true=>
   simp only[if_true] at aoM ⊢;refine aN (wpAny_updateSeq sY.1 rfl (aN (wpAny_letGo ?_)));rw[nm];refine b2 ⟨rS vf _,bT (j+1) _ bB dC ds[j+1] gs x dk u og _ (by omega) eL (vU.turned (t':=s2.toks) (λb o af e=>(rU _ _ (Ne.symm af)).trans e) mj.1 mj.2.1 mj.2.2.2.1 mj.2.2.2.2.1 mj.2.2.2.2.2) bP.b' (tk _ _ _ _ bP uJ) (dc.same bP.same a5) (qj.ext bP)
    ⟨sV,(rU _ _ (Ne.symm uz)).trans wF.1,A6,gH⟩ (get?_update_seq sY.1 λ_=>#[u,og]) BB mj c1 (gb.ext bP) CL CJ CF aoM λs' ag aD v y a1 a2 fH h3=>k7 s' ag aD v y a1 (bP.trans a2) fH h3⟩
  |false=>
   simp only[lA,if_false] at aoM ⊢;refine aN (wpAny_letGo ?_);rw[nm];exact b2 ⟨rS vf _,bT (j+1) _ bB dC db ui qz zB rH qy c (by omega) eL vU bP.b' (tk _ _ _ _ bP uJ) (dc.same bP.same a5) (qj.ext bP) aad sY.1 BB mj ff (KY.ext bP) s7 (wH.ext bP) y8 aoM λs' ag aD v y a1 a2 fH h3=>k7 s' ag aD v y a1 (bP.trans a2) fH h3⟩
def ake{X:a3}{kf:T->Option T}(aw:X.calm=true)(b8:X.A.units+70<cLine){l q:ak}{xs:List V}{ds:List T}{ao:List (ak×Obj)}{σ:bA.St}{tc:(ak->Prop)->aB->Prop}{n4:T}
  (tk:∀F H aD ag,Ext F H aD ag->tc F H->tc aD ag) (bL:∀d gs,kf d=some gs->ez gs=true)
  (sM:∀(rB:List (ak×Obj)) (H:aB) (s:aH) (F:ak->Prop) (d gs:T) (v:V) (u:aq),Inv X rB σ H s->fk F H->tc F H->Rep X.K F H d v->RelV v u->kf d=some gs ->
   a_ (unop%Wk 0) X.A.in1 (call (.ref q) [u]) (g_ X rB σ λdk ag=>∃aD,Ext F H aD ag/\Rep X.K aD ag gs dk) (λ_ _=>False) s)
  {s:aH} {H:aB} {F:ak->Prop} {Q:c3} (J:Inv X ao σ H s) (b':fk F H) (uJ:tc F H) (a5:dc X.K H l xs) (qj:bH X.K F H ds xs) (hm:Kh kf ds=some n4)
  (hv:∀v aD ag,Ext F H aD ag->Rep X.K aD ag n4 v->Q v ag):
  a_ (unop%Wk 0) X.A (call (.builtin "max") [.ref l] [(Str.ofString "key",.ref q)]) (g_ X ao σ Q) X.dm s:=by
 have BP:(toString "max"++toString ".loop":String)="max.loop":=by decide
 cases ds with
|nil=>cases hm
|cons d ds=>
  obtain⟨gs,yh,aoM⟩:=cm.mp hm;obtain⟨its,bW,p,hz⟩:=J.tuple a5;refine PyProof.Rows.kmk_tree PySem.F.kind_max PySem.F.plain_max PySem.F.entry_max (PyProof.Rows.kmk_max_key _ _) ?_;show a_ _ X.A.in1 (Builtin.Builtins.bindParams "max" ["key","default"] 0 ⟨[],[(Str.ofString "key",.ref q)]⟩ >>= _) _ _ s;refine aN (wpAny_of_eq (show Builtin.Builtins.bindParams "max" ["key","default"] 0 ⟨[],[(Str.ofString "key",.ref q)]⟩=pure [some (.ref q),none] from rfl) ?_);refine aN (b2 ?_);refine aN (rP (show s.heap.IsTuple l its.toArray from p) ?_);refine aN (wpAny_newList ?_ (oE _));rw[BP];refine b2 ⟨rS vf _,?_⟩;generalize PJ:s.heap.objs.size=I;generalize aoQ:(unop%W0 0).objs.size=S;have an7:S=I+1:=by rw[<- aoQ,<- PJ];exact size_push' ..
  have uz:I≠S:=by omega
  have _c:((unop%W0 0).push (seqObj "list" #[] 0)).get? I=some {cls:=.type "tuple_iterator",data:=.fields #[.ref l,.int 0 0]}:=by
   rw[<- PJ];exact cW _ (fR _ rfl)
  have PR:((unop%W0 0).push (seqObj "list" #[] 0)).get? S=some (seqObj "list" #[] 0):=by
   rw[<- aoQ];exact fR _ rfl
  have Xa:Inv X ao σ H {s with heap:=(unop%W0 0).push (seqObj "list" #[] 0)}:=J.kept (t':=s.toks) λb u e=>cW _ (cW _ e);have hu:il X ao H I:=J.wi (by omega) (J.bL.fresh (by omega));have lT:il X ao H S:=J.wi (by omega) (J.bL.fresh (by omega));obtain⟨x0,yL,QT⟩:=qj.get (i:=0) (t:=d) rfl;obtain⟨u6,aaI,Q1⟩:=bW.get yL;have aa0:((unop%W0 0).push (seqObj "list" #[] 0)).IsTupleIter I l 0:=⟨_,_c,rfl,rfl⟩;have _v:((unop%W0 0).push (seqObj "list" #[] 0)).IsTuple l its.toArray:=by
   obtain⟨o,aJ,ay⟩:=(show s.heap.IsTuple l its.toArray from p);exact⟨o,cW _ (cW _ aJ),ay⟩
  refine pM (id:="max.loop") PySem.F.entry_max_loop ?_
  rw[rN vf _];show a_ _ X.A.in1 (seqItems? (.ref S) >>= _) _ _ _;refine aN (nG (a:=S) PR rfl ?_);show a_ _ X.A.in1 (tryCatch (pyNext (.ref I)) _ >>= _) _ _ _;refine aN (ve (wpAny_pyNext_tuple_item aa0 _v (x:=u6) (by simpa using aaI) λh' yD jR=>?_));have oT:=Xa.turned (h':=h') (t':=s.toks) (λb o af e=>(jR.2 b af).trans e) hu.1 hu.2.1 hu.2.2.2.1 hu.2.2.2.2.1 hu.2.2.2.2.2;have m':h'.get? S=some (seqObj "list" #[] 0):=(jR.2 S (Ne.symm uz)).trans PR;obtain⟨sV,Ii,A6,gH⟩:=id yD;have Fm:Inv X ((S,seqObj "list" #[] 0)::(I,sV)::ao) σ H {s with heap:=h'}:=oT.wG λp aL=>by
   rcases cM.mp aL with rfl|aL
   ·exact⟨m',lT.1,lT.2.1,lT.2.2.1,λv z=>by cases z⟩
   ·rcases cM.mp aL with rfl|aL
    ·exact⟨Ii,hu.1,hu.2.1,hu.2.2.1,λv z=>by rw[gH] at z;cases z⟩
    ·exact oT.pin p (kh _ aL)
  show a_ _ X.A.in1 (tryCatch (holding [u6] (call (.ref q) [u6])) _ >>= _) _ _ _
  refine aN (ve (jb (et (sM _ H _ F _ gs x0 u6 Fm b' uJ QT Q1 yh) (λog s2 he=>?_) λ_ _ yt=>yt.elim)))
  obtain⟨dk,bB,qY,CL,dC,bP,CJ⟩:=he;have sY:=qY.pin (S,seqObj "list" #[] 0) (kh _ (.head _));have wF:=qY.pin (I,sV) (kh _ (.tail _ (.head _)));have vU:Inv X ao σ bB s2:=qY.wG λp aL=>qY.pin p (kh _ (.tail _ (.tail _ aL)));have BB:=il.at hu wF.2.1;have mj:=il.at lT sY.2.1;have CF:=bL _ _ yh;show a_ _ X.A.in1 (updateSeq S (λ_=>#[u6,og]) >>= _) _ _ _;refine aN ?_;refine wpAny_updateSeq sY.1 rfl ?_;rw[BP];refine b2 ⟨rS vf _,akV (ds:=d::ds) aw b8 uz tk bL sM _ 0 _ bB dC d gs x0 dk u6 og _ rfl (by simp) (vU.turned (t':=s2.toks) (λb o af e=>(rU _ _ (Ne.symm af)).trans e) mj.1 mj.2.1 mj.2.2.2.1 mj.2.2.2.2.1 mj.2.2.2.2.2) bP.b' (tk _ _ _ _ bP uJ) (dc.same bP.same a5) (qj.ext bP)
   ⟨sV,(rU _ _ (Ne.symm uz)).trans wF.1,A6,gH⟩ (get?_update_seq sY.1 λ_=>#[u6,og]) BB mj Q1 (QT.ext bP) CL CJ CF (by simpa using aoM) λs' ag aD v y a1 a2 fH h3=>⟨y,ag,a1,fH,hv y aD ag (bP.trans a2) h3⟩⟩
noncomputable def E1(f g:bZ):bZ:=λai=>(f ai).bind λt=>match t with
|.tuple ds=>Kh (Cp g ai) ds
|_=>none
def amx{X:a3}{k:Nat}{e:bx}{f g:bZ}{params:Arguments}{body:bx}{scope:Scope}{hQ yY p pos:Pos}{c jB:ak}{pA y:Str}
  (he:cT X e f) (hm:X.mg "max"=none) (ri:X.env.code=.ref c) (eg:rT X.K c jB=true) (iv:nV X.mg X.base) (oe:(jB,pA)∈cB.dg) (rq:∀p∈cB.dg,p.1=jB->p.2=pA) (ay:da (k+2) X.A)
  (af:∀(q bX:ak) (cl:List (Str×ak)) (A:cw) (outer:List Env) (s:aH) (H:aB),da k (unop%Wu 0)->cT (m7 X.prog X.w X.K X.mg X.base (y::X.N) (unop%WS 0) scope q (.ref bX) cl A outer s H) body g)
  (aw:X.calm=true:=by rfl)
  (uI:(decide (scope.kind=.function) && !scope.isCoroutine && !scope.isGenerator && decide (scope.names.lookup y=some .local) && decide (y∉X.N) && scope.names.all λz=>decide (z.2≠.cell) && (decide (z.2≠.local) || decide (z.1=y)))=true:=by rfl)
  (iZ:(scope.names.all λy=>decide (y.2≠.free) || decide (X.env.scope.names.lookup y.1=some .cell))=true:=by rfl)
  (v5:∀(cl:List (Str×ak)) (pm:aq) (bX:ak) (gS u:aq),bindArgs (PySem.W.kla_fn "<lambda>" (unop%WS 0) params body scope cl pm (.ref bX) gS) ⟨[u],[]⟩=pure [(y,u)]:=by intros;rfl)
  (bq:ee X "max":=by rfl) (sN:defaultsOf params X.env=([],[]):=by rfl)
  (ah:c' pos (bl [e] X.env)=(false,eval e X.env)::c' pos (bl [] X.env):=by rfl) (ar:(c' pos (bl [e] X.env)).any (·.1)=false:=by rfl)
  (br:(unop%WG 0).all (·.1.isSome)=true:=by rfl) (cF:(unop%WG 0).any (·.1.isNone)=false:=by rfl)
  (gq:bl [e] X.env=(false,eval e X.env)::bl [] X.env:=by rfl)
  (sG:(unop%WG 0).map (·.2)=[(do let v <- eval (.Lambda params body scope hQ) X.env;standAt pos;pure v)]:=by rfl)
  (sH:(unop%WG 0).filterMap (·.1)=[Str.ofString "key"]:=by rfl)
  (wx:X.env.qual++"<lambda>"=pA:=by rfl):
  cT X (.Call (.Name "max" p) [e] [⟨some "key",.Lambda params body scope hQ,yY⟩] pos) (E1 f g):=by
 subst wx;simp only[ic,Bool.or_eq_true,Bool.not_eq_true',decide_eq_true_eq,List.all_eq_true] at uI;obtain⟨⟨⟨⟨⟨aI,n'⟩,oa⟩,aaP⟩,aaO⟩,Qa⟩:=uI;have iw:∀x∈scope.names,x.2≠.cell:=λx hx=>(Qa x hx).1;have ob:∀x∈scope.names,x.2=.local->x.1=y:=λx hx aG=>by
  rcases (Qa x hx).2 with z|z
  ·exact absurd aG z
  ·exact z
 simp only[List.all_eq_true,Bool.or_eq_true,decide_eq_true_eq] at iZ;have wm:∀y∈scope.names,y.2=.free->X.env.scope.names.lookup y.1=some .cell:=λy a6 hf=>by
  rcases iZ y a6 with z|z
  ·exact absurd hf z
  ·exact z
 intro ao s σ H Q I ⟨aK,E,O,F,ai,t,hi,az,b5⟩;simp only[E1,cm] at az;obtain⟨t0,sD,az⟩:=az;have AO:=PySem.W.codeHd_of_K I.ok.mod.pq eg;refine nF (qO I bq hm (u:=.builtin "max") (by decide +kernel) ?_);refine VH ?_ ah ar br cF;have aC:gj X [e] (iK (zu X.K f) mB):=fu he hJ gq;refine cK (aC pos ao s σ H (λvs H1=>∃v ba,vs=[v]/\Ext F H ba H1/\Rep X.K ba H1 t0 v) I ⟨aK,E,O,F,ai,t0,hi,sD,λv aD ag x q=>⟨v,aD,rfl,x,q⟩⟩) λus s1 hqq=>?_;obtain⟨vs,H1,bj,bk,v,ba,ev,aU,bW⟩:=hqq;subst ev;cases bk with
|cons c1 rD=>
 cases rD
 rw[sG];refine wpAny_evalAll_cons (aN ?_);have aG:∀x∈scope.names,x.2=.free->∃c,X.env.cells.lookup x.1=some c:=λx hx hf=>bj.ok.has x.1 (.inl (wm x hx hf));have Lc:=hi.ext aU;refine M1 bj ri AO iv sN (DO aG) Lc.b'.aoN oe rq λq bX gS bB s2 ct qt zw wx a5 dA=>?_;refine aN (wpAny_standAt (b2 (wpAny_evalAll_nil ?_)));rw[sH];have bP:Ext ba H1 ba bB:=⟨qt,λ_ h=>h,λ_ h=>.inl h,⟨λa aC=>by
  obtain⟨o,aJ⟩:=Lc.b'.v7 a aC;exact qt.ne aJ,zw⟩⟩
 have ae1:=Lc.ext bP;have wJ:=bW.ext bP;split at az
 next ds=>
  simp only[Rep] at wJ;obtain⟨l,xs,ev,aaF,qj⟩:=wJ;subst ev;cases c1;have b8:=ay.un;refine ake (tc:=λF H=>cN X.K aK E O F H ai σ/\H q=some (oh (PySem.W.kla_obj "<lambda>" (unop%WS 0) params body scope (unop%WL 0) ((X.mg "__name__").getD .none) bX gS) q)/\H bX=some (ug bX (unop%WS 0))) (kf:=Cp g ai) aw (by omega)
   (λF H aD ag x ⟨a1,a2,fH⟩=>⟨a1.ext x,x.same.get a2,x.same.get fH⟩) (λd gs gn=>?_) (λrB e6 s3 oQ d gs v3 u3 el an1 Iu aeZ ae4 gn=>?_) ct bP.b' ⟨ae1,a5,dA⟩ aaF qj az λv aD ag x q=>b5 v aD ag ((aU.trans bP).trans x) q
  ·obtain⟨k0,_,aM⟩:=cm.mp gn;split at aM
   next cR=>cases aM;exact cR
   next=>cases aM
  ·obtain⟨k0,lP,aM⟩:=cm.mp gn;split at aM
   next cR=>
    cases aM
    refine qD (nH (ajU (Q:=λdk ag=>∃aD,Ext oQ e6 aD ag/\Rep X.K aD ag gs dk) (Oj:=ku) aI n' oa iw aaP (af q bX _) (v5 _ _ _ _ _) ay.in1 el.um.in1 Iu.2.1 Iu.2.2 (alc el iw ob aaO wm) ae4 Iu.1 aeZ lP λv aD ag x q=>⟨aD,x,q⟩) λr s' a5=>?_)
    cases r with
    |error e=>exact d8 a5
    |ok du=>
     cases du with
     |ret u=>exact el.after a5
     |next=>exact d8 a5
     |brk=>exact d8 a5
     |cont=>exact d8 a5
   next=>cases aM
 next=>cases az
end
section
variable [cB]
noncomputable def qQ(f:jg):bJ:=λai=>(f ai).map λr=>.dn r.1
section
variable {X:a3}{e:bx}{pos:Pos}
def Ug{yn:jg}(h:m2 X e yn):gP X (.Return (some e) pos) (qQ yn):=hX (vK h)<|by
 rintro D σ H ⟨aK,E,O,F,ai,o,r,e,k⟩
 simp only[qQ,dO] at e;obtain⟨⟨t,ε'⟩,bY,rfl⟩:=e;exact⟨aK,E,O,F,ai,t,ε',r,bY,λv aD ag aF cy bW=>k v aD ag cy.ent bW⟩
end
end
end D
end
section
namespace cf
open D
noncomputable def Tu:bJ:=
  (seq (d1 (dy (unop%W9 0)) (bw 2) (iff (bt (aj oEq (aj aT (nm 2) (ae (.int 0))) (nm 1))) (b9 (aj aT (nm 2) (ae (.int 1)))) skip))
  r_)
noncomputable def vu:List T->Option T:=c2 Tu 3
noncomputable def UN:bJ:=
  (seq (asg 1 (aX gA [(comp 1 [] (dy (unop%W9 0)) (bw 0) (d7 true) (ae (.str "shut")))])) (seq (asg 2 (aX gA [(comp 1 [] (dy (unop%W7 0)) (bw 0) (d7 true) (ae (.int 0)))])) (b9 (a0 [(ae (.str "off")),(ae (.int 0)),(ae .none),(au 1),(a0 []),(ae (.int 0)),(a0 []),(ae (.int 0)),(ae (.int 0)),(au 2)]))))
noncomputable def tx:List T->Option T:=c2 UN 3
noncomputable def Tv:bJ:=
  (seq (d1 (dy (unop%W7 0)) (bw 2) (iff (bt (aj oEq (aj aT (nm 2) (ae (.int 0))) (nm 1))) (b9 (nm 2)) skip)) (b9 (ae .none)))
noncomputable def z8:List T->Option T:=c2 Tv 3
noncomputable def SM:bJ:=
  (b9 (aX om [(aj aoR (nm 0) (nm 1)),(ae (.int 0))]))
noncomputable def vp:List T->Option T:=c2 SM 2
noncomputable def RO:bJ:=
  (seq (e7 0 0 0 (au 1)) (seq (e7 0 0 1 (aj aT (nm 2) (ae (.int 0)))) (seq (e7 0 0 2 (aj aT (nm 2) (ae (.int 1)))) (seq (e7 0 0 3 (aj aT (nm 2) (ae (.int 2)))) (seq (xP 0 0 4 (comp 1 [] (dy (aj aT (nm 1) (ae (.int 0)))) (bw 0) (d7 true) (unop%W9 0)) (aj aT (nm 2) (ae (.int 3)))) (seq (nT 0 0 5 (cU xB (aj aT (nm 2) (ae (.int 4))))) (seq (e7 0 0 6 (aj aT (nm 2) (ae (.int 5)))) (seq (nT 0 0 7 (cU xB (aj aT (nm 2) (ae (.int 6))))) (seq (e7 0 0 8 (aj aT (nm 2) (ae (.int 7)))) (seq (e7 0 0 9 (aj aT (nm 2) (ae (.int 8)))) (seq (xP 0 0 10 (comp 1 [] (dy (unop%Wz 0)) (bw 0) (d7 true) (unop%W9 0)) (aj aT (nm 2) (ae (.int 9)))) (seq (e7 0 0 11 (ae (.int 0))) (nT 0 0 12 (fa []))))))))))))))
noncomputable def zM:List aO->Option (T×List aO):=runM 0 0 RO 3
noncomputable def RY:bJ:=
  (seq (asg 1 (AH 0 0 4)) (seq (asg 2 (aX gA [(fld 0 0 5)])) (seq (asg 3 (aX gA [(fld 0 0 7)])) (seq (asg 4 (AH 0 0 10)) (b9 (a0 [(hO 0 0 1),(hO 0 0 2),(hO 0 0 3),(au 1),(au 2),(hO 0 0 6),(au 3),(hO 0 0 8),(hO 0 0 9),(au 4)]))))))
noncomputable def zU:List aO->Option T:=l1 RY 5
noncomputable def R1:bJ:=
  (q7 0 0 12 (a0 [(hO 0 0 11),(au 1),(au 2)]))
noncomputable def gy:List aO->Option (T×List aO):=runM 0 0 R1 3
noncomputable def RR:bJ:=
  (e7 0 0 6 (aj aT (aj aT (fld 0 0 0) (ae (.int 2))) (ae (.int 2))))
noncomputable def vm:List aO->Option (T×List aO):=runM 0 0 RR 1
noncomputable def L6:bJ:=
  (seq (dX (dR 0 vm 0 [])) (iff (bt (aj (eS true) (nm 1) (fld 0 0 7))) (seq (q7 0 0 7 (au 1)) (dX (dR 0 gy 0 [(ae (.str "alarm")),(au 1)]))) skip))
noncomputable def mH:List aO->Option (T×List aO):=runM 0 0 L6 2
noncomputable def DB:bJ:=
  (seq (iff (fD (bt (aj i4 (nm 2) (ae (.str "way")))) (bt (aj oLe (aj aT (aj aT (fld 0 0 0) (ae (.int 2))) (ae (.int 1))) (ae (.int 0))))) (seq (dX (dR 0 mH 0 [(au 1)]))
  ao0) skip) (seq (e7 0 0 1 (ae (.str "coming"))) (seq (e7 0 0 2 (aj aT (aj aT (fld 0 0 0) (ae (.int 2))) (ae (.int 1)))) (seq (e7 0 0 3 (au 1)) (dX (dR 0 gy 0 [(ae (.str "coming")),(au 1)]))))))
noncomputable def vl:List aO->Option (T×List aO):=runM 0 0 DB 3
noncomputable def RQ:bJ:=
  (seq (asg 3 (aX vu [(hO 0 0 0),(au 1)])) (iff (bt (aj oEq (nm 3) (ae (.str "day")))) (dX (dR 0 mH 0 [(au 1)])) (iff (bt (aj oEq (fld 0 0 1) (ae (.str "off")))) (iff (bt (aj oEq (nm 2) (ae (.str "cut")))) (dX (dR 0 gy 0 [(ae (.str "fault")),(au 1)])) skip) (iff (fD (bt (aj oEq (nm 2) (ae (.str "cut")))) (bt (aj oEq (nm 3) (ae (.str "once"))))) (dX (dR 0 mH 0 [(au 1)])) (iff (bt (aj oEq (fld 0 0 1) (ae (.str "on")))) (dX (dR 0 vl 0 [(au 1),(au 3)])) skip)))))
noncomputable def zN:List aO->Option (T×List aO):=runM 0 0 RQ 4
noncomputable def R2:bJ:=
  (seq (asg 3 (pa 0 0 4 (nm 1))) (seq (iff (bt (aj oEq (nm 2) (nm 3))) ao0 skip) (seq (tL 0 0 4 (nm 1) (au 2)) (iff (bt (aj oEq (nm 2) (ae (.str "shut")))) (iff (bt (aj oEq (nm 3) (ae (.str "cut")))) (dX (dR 0 gy 0 [(ae (.str "mended")),(au 1)])) skip) (iff (bt (aj (eS true) (nm 1) (fld 0 0 5))) (dX (dR 0 zN 0 [(au 1),(au 2)])) skip)))))
noncomputable def zX:List aO->Option (T×List aO):=runM 0 0 R2 4
noncomputable def LS:bJ:=
  (b9 (su (aj i4 (aj aT (nm 1) (ae (.int 3))) (ae (.int 0))) (aj sU (pa 0 0 10 (aj aT (nm 1) (ae (.int 0)))) (aj aT (nm 1) (ae (.int 3))))))
noncomputable def w2:List aO->Option T:=l1 LS 2
noncomputable def LQ:bJ:=
  (seq (dX (dR 0 gy 0 [(ae (.str "wrong")),(ae .none)])) (seq (q8 0 0 8 (ae (.int 1))) (iff (bt (aj sU (fld 0 0 8) (ae (.int 3)))) (seq (e7 0 0 8 (ae (.int 0))) (seq (e7 0 0 9 (ae (.int 90))) (seq (dX (dR 0 vm 0 [])) (dX (dR 0 gy 0 [(ae (.str "attack")),(ae .none)]))))) skip)))
noncomputable def w0:List aO->Option (T×List aO):=runM 0 0 LQ 1
noncomputable def vi:bJ:=
  (seq (iff (bt (aj oEq (nm 1) (ae (.str "unset")))) (b9 (ae (.bool false))) skip) (seq (iff (bt (aj i4 (fld 0 0 1) (ae (.str "off")))) (b9 (ae (.bool true))) skip) (seq (iff (bt (aj oEq (nm 1) (ae (.str "shunt")))) (b9 (y' (aj oEq (aX vu [(hO 0 0 0),(au 2)]) (ae (.str "day"))) (aj (eS false) (nm 2) (fld 0 0 5)))) skip) (b9 (su (aj oEq (nm 1) (ae (.str "free"))) (aj (eS true) (nm 2) (fld 0 0 5)))))))
noncomputable def qE:List aO->Option T:=l1 vi 3
noncomputable def RL:bJ:=
  (seq (asg 2 (comp 1 [1] (dy (aj aT (fld 0 0 0) (ae (.int 0)))) (bw 0) (bt (aj (eS false) (unop%W7 0) (nm 1))) (unop%W9 0))) (b9 (comp 1 [0] (dy (au 2)) (bw 0) (e0 (bt (aj i4 (pa 0 1 4 (nm 0)) (ae (.str "shut")))) (bt (aj (eS true) (nm 0) (fld 0 1 5)))) (au 0))))
noncomputable def vk:List aO->Option T:=l1 RL 3
noncomputable def RD:bJ:=
  (seq (asg 4 (ql (bt (aj oEq (nm 2) (ae (.str "free")))) (ae (.str "shunt")) (au 2))) (seq (iff (bt (aj (eS true) (nm 4) (aj aT (nm 1) (ae (.int 2))))) (b9 (a0 [(ae (.str "denied")),(unop%Wz 0)])) skip) (seq (iff (bt (aoT 0 qE 0 [(au 2),(au 3)])) (b9 (a0 [(ae (.str "no")),(unop%Wz 0)])) skip) (seq (asg 5 (aoT 0 vk 0 [(ae (.tuple (mM ["day","once"])))])) (seq (iff (e0 (bt (aj oEq (nm 2) (ae (.str "set")))) (g5 (nm 5))) (b9 (a0 [(ae (.str "open")),(aj aT (nm 5) (ae (.int 0)))])) skip) (b9 (ae .none)))))))
noncomputable def zG:List aO->Option T:=l1 RD 6
noncomputable def RI:bJ:=
  (seq (e7 0 0 1 (ae (.str "on"))) (seq (e7 0 0 2 (ae (.int 0))) (seq (dX (dR 0 gy 0 [(ae (.str "on")),(ae .none)])) (d1 (dy (aoT 0 vk 0 [(ae (.tuple (mM ["inner","way"])))])) (bw 1) (dX (dR 0 mH 0 [(au 1)]))))))
noncomputable def vh:List aO->Option (T×List aO):=runM 0 0 RI 2
noncomputable def L3:bJ:=
  (seq (nT 0 0 7 (fa [])) (seq (e7 0 0 6 (ae (.int 0))) (seq (e7 0 0 1 (ae (.str "leaving"))) (seq (e7 0 0 2 (aj aT (aj aT (fld 0 0 0) (ae (.int 2))) (ae (.int 0)))) (seq (dX (dR 0 gy 0 [(ae (.str "set")),(au 1)])) (iff (bt (aj oLe (fld 0 0 2) (ae (.int 0)))) (dX (dR 0 vh 0 [])) skip))))))
noncomputable def w5:List aO->Option (T×List aO):=runM 0 0 L3 2
noncomputable def RN:bJ:=
  (seq (e7 0 0 1 (ae (.str "off"))) (seq (e7 0 0 2 (ae (.int 0))) (seq (e7 0 0 6 (ae (.int 0))) (seq (e7 0 0 3 (ae .none)) (seq (nT 0 0 5 (fa [])) (dX (dR 0 gy 0 [(ae (.str "unset")),(au 1)])))))))
noncomputable def zL:List aO->Option (T×List aO):=runM 0 0 RN 2
noncomputable def apq:bJ:=
  (iff (bt (aj oEq (nm 2) (ae (.str "set")))) (dX (dR 0 w5 0 [(au 1)])) (iff (bt (aj oEq (nm 2) (ae (.str "unset")))) (dX (dR 0 zL 0 [(au 1)])) (iff (bt (aj oEq (nm 2) (ae (.str "shunt")))) (seq (nT 0 0 5 (cU Ep (aj bV (fld 0 0 5) (fa [(au 3)])))) (dX (dR 0 gy 0 [(ae (.str "shunt")),(au 3)]))) (seq (CM 0 0 5 (au 3)) (dX (dR 0 gy 0 [(ae (.str "free")),(au 3)]))))))
noncomputable def tf:List aO->Option (T×List aO):=runM 0 0 apq 4
noncomputable def LR:bJ:=
  (seq (asg 4 (aoT 0 zG 0 [(au 1),(au 2),(au 3)])) (iff (bt (cU fP (nm 4))) (seq (tR 0 0 10 (aj aT (nm 1) (ae (.int 0))) (ae (.int 1))) (dX (dR 0 tf 0 [(unop%Wz 0),(au 2),(au 3)]))) (dX (dR 0 gy 0 [(aj aT (nm 4) (ae (.int 0))),(aj aT (nm 4) (ae (.int 1)))]))))
noncomputable def w1:List aO->Option (T×List aO):=runM 0 0 LR 5
noncomputable def zY:bJ:=
  (seq (asg 4 (aX z8 [(hO 0 0 0),(au 1)])) (iff (bt (aj iz (fld 0 0 9) (ae (.int 0)))) (dX (dR 0 gy 0 [(ae (.str "locked")),(ae .none)])) (iff (fD (bt (cU fP (nm 4))) (bt (aoT 0 w2 0 [(au 4)]))) (dX (dR 0 w0 0 [])) (seq (e7 0 0 8 (ae (.int 0))) (dX (dR 0 w1 0 [(au 4),(au 2),(au 3)]))))))
noncomputable def ti:List aO->Option (T×List aO):=runM 0 0 zY 5
noncomputable def RK:bJ:=
  (seq (q8 0 0 11 (au 1)) (seq (e7 0 0 9 (aX vp [(hO 0 0 9),(au 1)])) (seq (e7 0 0 6 (aX vp [(hO 0 0 6),(au 1)])) (e7 0 0 2 (aX vp [(hO 0 0 2),(au 1)])))))
noncomputable def vj:List aO->Option (T×List aO):=runM 0 0 RK 2
noncomputable def RJ:bJ:=
  (seq (asg 1 (hO 0 0 3)) (seq (e7 0 0 1 (ae (.str "on"))) (seq (e7 0 0 3 (ae .none)) (dX (dR 0 mH 0 [(au 1)])))))
noncomputable def zI:List aO->Option (T×List aO):=runM 0 0 RJ 2
noncomputable def LW:bJ:=
  (iff (bt (aj oEq (fld 0 0 1) (ae (.str "leaving")))) (dX (dR 0 vh 0 [])) (dX (dR 0 zI 0 [])))
noncomputable def aph:List aO->Option (T×List aO):=runM 0 0 LW 1
noncomputable def zV:bJ:=
  (seq (iff (bt (aj oLt (nm 1) (ae (.int 1)))) ao0 skip) (iff (e0 (bt (aj (eS false) (fld 0 0 1) (a0 [(ae (.str "leaving")),(ae (.str "coming"))]))) (bt (aj oLe (fld 0 0 2) (nm 1)))) (seq (asg 2 (aj aoR (nm 1) (fld 0 0 2))) (seq (dX (dR 0 vj 0 [(hO 0 0 2)])) (seq (dX (dR 0 aph 0 [])) (dX (dR 0 vj 0 [(au 2)]))))) (dX (dR 0 vj 0 [(au 1)]))))
noncomputable def th:List aO->Option (T×List aO):=runM 0 0 zV 3
noncomputable def DE:bJ:=
  (iff (bt (aj oEq (aj aT (nm 1) (ae (.int 0))) (ae (.str "line")))) (dX (dR 0 zX 0 [(unop%Wz 0),(aj aT (nm 1) (ae (.int 2)))])) (iff (bt (aj oEq (aj aT (nm 1) (ae (.int 0))) (ae (.str "code")))) (dX (dR 0 ti 0 [(unop%Wz 0),(aj aT (nm 1) (ae (.int 2))),(aj aT (nm 1) (ae (.int 3)))])) (dX (dR 0 th 0 [(unop%Wz 0)]))))
noncomputable def tg:List aO->Option (T×List aO):=runM 0 0 DE 2
noncomputable def Mm:bJ:=
  (seq (A2 3 (Cy 0 zM [(au 0),(au 1)])) (seq (d1 (dy (au 2)) (bw 4) (dX (dR 0 tg 3 [(au 4)]))) (zj 3)))
noncomputable def tj:List T->Option aO:=uY Mm 5
noncomputable def UO:bJ:=
  (b9 (CD 0 zU (xO tj [(au 0),(au 1),(au 2)]) []))
noncomputable def nP:List T->Option T:=c2 UO 3
noncomputable def UM:bJ:=
  (b9 (aX gA [(EE 0 12 (xO tj [(au 0),(au 1),(au 2)]))]))
noncomputable def pU:List T->Option T:=c2 UM 3
end cf
end
section
namespace cf
open D cf
noncomputable def vo:bJ:=
  (seq (iff (bt (aj oLt (nm 1) (aX iA [(nm 0)]))) (b9 (aj aT (nm 0) (nm 1))) skip) (b9 (ae (.int 0))))
noncomputable def nK:List T->Option T:=c2 vo 2
noncomputable def vv:bJ:=
  (seq (asg 2 (unop%W8 0)) (b9 (aj oMod (aj bV (aj bV (aj dU (nm 2) (nm 2)) (aj dU (ae (.int 7)) (nm 2))) (nm 1)) (ae (.int 2147483629)))))
noncomputable def kj:List T->Option T:=c2 vv 3
noncomputable def vw:bJ:=
  (seq (asg 2 (unop%Wa 0)) (b9 (aj oMod (aj bV (aj bV (aj dU (nm 2) (nm 2)) (aj dU (ae (.int 3)) (nm 2))) (nm 1)) (ae (.int 2147483629)))))
noncomputable def ig:List T->Option T:=c2 vw 3
noncomputable def ald:bJ:=
  (seq (asg 1 (a0 [])) (seq (d1 (unop%W6 0) (dv [(bw 2),(bw 3)]) (seq (asg 4 (aj oDiv (aX ig [(au 0),(au 2)]) (ae (.int 4)))) (iff (fD (bt (aj oLt (aj oMod (nm 4) (ae (.int 8))) (aj bV (ae (.int 3)) (aj oMod (nm 0) (ae (.int 5)))))) (bt (aj oEq (nm 2) (aj oMod (aj oDiv (nm 0) (ae (.int 8))) (ae (.int 8)))))) (asg 1 (aj bV (nm 1) (a0 [(a0 [(au 3),(aj aT (a0 [(ae (.str "day")),(ae (.str "inner")),(ae (.str "once")),(ae (.str "way")),(ae (.str "way"))]) (aj oMod (aj oDiv (nm 4) (ae (.int 8))) (ae (.int 5))))])]))) skip))) (seq (asg 5 (a0 [])) (seq (d1 (unop%Wb 0) (dv [(bw 2),(bw 6)]) (seq (asg 4 (aj oDiv (aX ig [(au 0),(aj bV (ae (.int 10)) (nm 2))]) (ae (.int 4)))) (iff (fD (unop%WD 0) (bt (aj oEq (nm 2) (ae (.int 1))))) (seq (asg 7 (aX gA [(comp 1 [4] (jX (ae (.int 3))) (bw 0) (bt (aj iz (aj oMod (aj oDiv (nm 1) (aj aT (a0 [(ae (.int 4)),(ae (.int 16)),(ae (.int 64))]) (nm 0))) (ae (.int 4))) (ae (.int 0)))) (aj aT (a0 [(ae (.str "set")),(ae (.str "shunt")),(ae (.str "unset"))]) (nm 0)))])) (seq (asg 8 (aj aT (a0 [(ae (.str "ann")),(ae (.str "bo")),(ae (.str "cy"))]) (aj oMod (aj oDiv (nm 4) (ae (.int 256))) (ae (.int 3))))) (asg 5 (aj bV (nm 5) (a0 [(a0 [(au 6),(au 8),(au 7),(aj aT (a0 [(ae (.int 0)),(ae (.int 0)),(ae (.int 1)),(ae (.int 2)),(ae (.int 9))]) (aj oMod (aj oDiv (nm 4) (ae (.int 1024))) (ae (.int 5))))])]))))) skip))) (seq (asg 4 (aj oDiv (aX ig [(au 0),(ae (.int 20))]) (ae (.int 4)))) (seq (asg 9 (a0 [(aj aT (a0 [(ae (.int 0)),(ae (.int 5)),(ae (.int 30)),(ae (.int 60))]) (aj oMod (nm 4) (ae (.int 4)))),(aj aT (a0 [(ae (.int 0)),(ae (.int 4)),(ae (.int 20)),(ae (.int 60))]) (aj oMod (aj oDiv (nm 4) (ae (.int 4))) (ae (.int 4)))),(aj aT (a0 [(ae (.int 1)),(ae (.int 9)),(ae (.int 120)),(ae (.int 300))]) (aj oMod (aj oDiv (nm 4) (ae (.int 16))) (ae (.int 4))))])) (b9 (a0 [(au 1),(au 5),(au 9)]))))))))
noncomputable def Ae:List T->Option T:=c2 ald 10
noncomputable def Tt:bJ:=
  (seq (asg 2 (aj aT (aj aT (unop%W9 0) (aj oMod (aj oDiv (nm 1) (ae (.int 8))) (aX iA [(unop%W9 0)]))) (ae (.int 0)))) (seq (asg 3 (aj oMod (nm 1) (ae (.int 10)))) (seq (iff (bt (aj oLt (nm 3) (ae (.int 5)))) (b9 (a0 [(ae (.str "line")),(au 2),(aj aT (a0 [(ae (.str "shut")),(ae (.str "open")),(ae (.str "open")),(ae (.str "cut"))]) (aj oMod (aj oDiv (nm 1) (ae (.int 512))) (ae (.int 4))))])) skip) (seq (iff (bt (aj oLt (nm 3) (ae (.int 7)))) (b9 (a0 [(ae (.str "ticks")),(aj bV (ae (.int 1)) (aj oMod (aj oDiv (nm 1) (ae (.int 64))) (aj aT (a0 [(ae (.int 3)),(ae (.int 40)),(ae (.int 200))]) (aj oMod (aj oDiv (nm 1) (ae (.int 4096))) (ae (.int 3))))))])) skip) (seq (asg 4 (aj aT (aj aT (unop%W7 0) (aj oMod (aj oDiv (nm 1) (ae (.int 64))) (aX iA [(unop%W7 0)]))) (ae (.int 0)))) (seq (iff (bt (aj oEq (aj oMod (aj oDiv (nm 1) (ae (.int 65536))) (ae (.int 4))) (ae (.int 0)))) (asg 4 (aj aT (a0 [(ae (.str "0001")),(ae (.str "1111")),(ae (.str "9999")),(ae (.str "0000"))]) (aj oMod (aj oDiv (nm 1) (ae (.int 512))) (ae (.int 4))))) skip) (seq (asg 5 (aj aT (a0 [(ae (.str "set")),(ae (.str "set")),(ae (.str "unset")),(ae (.str "shunt")),(ae (.str "free")),(ae (.str "shunt"))]) (aj oMod (aj oDiv (nm 1) (ae (.int 4096))) (ae (.int 6))))) (seq (iff (bt (aj (eS false) (nm 5) (a0 [(ae (.str "set")),(ae (.str "unset"))]))) (b9 (a0 [(ae (.str "code")),(au 4),(au 5),(ae .none)])) skip) (b9 (a0 [(ae (.str "code")),(au 4),(au 5),(au 2)]))))))))))
noncomputable def tm:List T->Option T:=c2 Tt 6
noncomputable def EH:bJ:=
  (seq (asg 3 (aX gA [(comp 1 [0,1] (jX (aj oMod (nm 1) (aj bV (nm 2) (ae (.int 1))))) (bw 0) (d7 true) (aX tm [(au 1),(unop%WH 0)]))])) (seq (iff (e0 (bt (aj oEq (aj oMod (aj oDiv (nm 1) (ae (.int 64))) (ae (.int 5))) (ae (.int 0)))) (bt (aj iz (aX iA [(nm 3)]) (ae (.int 2))))) (asg 3 (aj bV (slice (nm 3) optN (opt (cU iB (ae (.int 3))))) (aj apm (a0 [(a0 [(ae (.str "code")),(ae (.str "5555")),(ae (.str "unset")),(ae .none)])]) (ae (.int 3))))) skip) (b9 (nm 3))))
noncomputable def xq:List T->Option T:=c2 EH 4
end cf
end
section
namespace aoY
open D cf
noncomputable def xj:bJ:=
  (seq (iff (bt (aj oEq (unop%W9 0) (nm 1))) (b9 (unop%W7 0)) skip) (seq (iff (bt (aj oEq (unop%W7 0) (nm 1))) (b9 (unop%W9 0)) skip) (b9 (ae .none))))
noncomputable def nO:List T->Option T:=c2 xj 2
noncomputable def xf(rec:List T->Option T):bJ:=
  (seq (iff (bt (aj oEq (unop%Wv 0) (nm 1))) (b9 (fa [(a0 [])])) skip) (seq (hr 3 (fa [])) (seq (d1 (iJ (gO (unop%W7 0))) (dv [(bw 4),(bw 5)]) (seq (asg 6 (aX nO [(au 5),(unop%Wv 0)])) (iff (e0 (bt (cU fW (nm 6))) (bt (aj (eS true) (nm 6) (nm 2)))) (ext 3 (comp 1 [4] (dy (unop%WM 0)) (bw 0) (d7 true) (aj bV (a0 [(au 1)]) (nm 0)))) skip))) (b9 (nm 3)))))
noncomputable def nM:Nat->List T->Option T
|0=>λ_=>none
|n+1=>c2 (xf (nM n)) 7
noncomputable def AB:bJ:=
  (b9 (aX gA [(aX (nM 20) [(au 0),(au 1),(a0 [(ae (.int 0))])])]))
noncomputable def hs:List T->Option T:=c2 AB 2
noncomputable def Nb:bJ:=
  (seq (asg 2 (aj aT (nm 0) (ae (.int 2)))) (seq (iff (bt (cU fP (nm 2))) (b9 (a0 [(a0 [(ae (.str "ticks")),(ae (.int 1))]),(a0 [(ae (.str "ticks")),(au 1)])])) skip) (b9 (a0 [(a0 [(ae (.str "line")),(au 2),(ae (.str "open"))]),(a0 [(ae (.str "ticks")),(ae (.int 1))]),(a0 [(ae (.str "line")),(au 2),(ae (.str "shut"))]),(a0 [(ae (.str "ticks")),(au 1)])]))))
noncomputable def oJ:List T->Option T:=c2 Nb 3
noncomputable def Na:bJ:=
  (seq (hr 3 (fa [])) (seq (d1 (dy (au 1)) (bw 4) (we 3 (aX oJ [(aj aT (unop%W7 0) (nm 4)),(au 2)]))) (b9 (aX gA [(nm 3)]))))
noncomputable def vA:List T->Option T:=c2 Na 5
noncomputable def Ml:bJ:=
  (b9 (aj (eS false) (ae (.str "alarm")) (comp 3 [] (dy (au 0)) (dv [(bw 0),(bw 1),(bw 2)]) (d7 true) (au 1))))
noncomputable def vn:List T->Option T:=c2 Ml 1
noncomputable def Nc:bJ:=
  (seq (asg 5 (au 2)) (seq (d1 (xo (gO (au 3))) (dv [(bw 6),(bw 7)]) (seq (asg 8 (aX oJ [(aj aT (unop%Wz 0) (nm 7)),(au 4)])) (seq (iff (bt (aX vn [(aX pU [(au 0),(au 5),(au 8)])])) (b9 (nm 6)) skip) (asg 5 (aX nP [(au 0),(au 5),(au 8)]))))) (b9 (ae .none))))
noncomputable def kk:List T->Option T:=c2 Nc 9
noncomputable def z_:bJ:=
  (seq (asg 1 (aj bV (ae (.int 1)) (aj oMod (nm 0) (ae (.int 7))))) (seq (asg 2 (a0 [])) (seq (d1 (jX (unop%WJ 0)) (bw 3) (seq (asg 4 (unop%WI 0)) (seq (asg 5 (aj oMod (nm 4) (aj bV (nm 1) (ae (.int 1))))) (seq (asg 6 (unop%Wc 0)) (seq (asg 7 (unop%W2 0)) (asg 2 (unop%Wq 0))))))) (b9 (a0 [(au 1),(au 2)])))))
noncomputable def sC:List T->Option T:=c2 z_ 8
noncomputable def Md:bJ:=
  (seq (iP (dv [(bw 2),(bw 3)]) (aX sC [(au 1)])) (seq (asg 4 (comp 1 [] (dy (unop%W9 0)) (bw 0) (d7 true) (unop%W9 0))) (seq (asg 5 (a0 [])) (seq (d1 (dy (au 3)) (dv [(bw 6),(bw 7),(bw 8)]) (asg 5 (aj bV (nm 5) (a0 [(a0 [(au 6),(au 7),(aj aT (a0 [(au 8),(ae .none)]) (aX ry [(aj (eS true) (nm 8) (nm 4))]))])])))) (b9 (a0 [(au 2),(au 5)]))))))
noncomputable def w6:List T->Option T:=c2 Md 9
noncomputable def AI:bJ:=
  (seq (asg 1 (aX Ae [(aX kj [(au 0),(ae (.int 0))])])) (seq (asg 2 (aX w6 [(au 1),(aX kj [(au 0),(ae (.int 1))])])) (seq (asg 3 (aX kj [(au 0),(ae (.int 2))])) (seq (asg 4 (aX nP [(au 1),(aX tx [(au 1)]),(aX xq [(au 1),(au 3),(ae (.int 8))])])) (seq (asg 5 (aj bV (ae (.int 1)) (aj oMod (aj oDiv (nm 3) (ae (.int 512))) (ae (.int 20))))) (seq (d1 (dy (slice (aX hs [(au 2),(aj bV (ae (.int 1)) (aj oMod (aj oDiv (nm 3) (ae (.int 64))) (aj aT (nm 2) (ae (.int 0)))))]) optN (opt (ae (.int 8))))) (bw 6) (seq (asg 7 (aX kk [(au 1),(au 2),(au 4),(au 6),(au 5)])) (seq (asg 8 (comp 1 [] (dy (aX pU [(au 1),(au 4),(aX vA [(au 2),(au 6),(au 5)])])) (bw 0) (bt (aj oEq (unop%W7 0) (ae (.str "alarm")))) (au 0))) (seq (iff (bt (aj i4 (cU fP (nm 7)) (aj oEq (nm 8) (fa [])))) (b9 (ae (.bool false))) skip) (seq (d1 (jX (aj bV (aX iA [(nm 6)]) (ae (.int 1)))) (bw 9) (seq (asg 10 (au 7)) (seq (iff (e0 (bt (cU fW (nm 7))) (bt (aj oLt (nm 9) (nm 7)))) (asg 10 (ae .none)) skip) (iff (bt (aj i4 (aX kk [(au 1),(au 2),(au 4),(slice (nm 6) optN (opt (nm 9))),(au 5)]) (nm 10))) (b9 (ae (.bool false))) skip)))) (iff (e0 (bt (cU fW (nm 7))) (gZ (bt (anT oLe oLe (ae (.int 1)) (nm 7) (aX iA [(nm 6)]))))) (b9 (ae (.bool false))) skip)))))) (b9 (ae (.bool true)))))))))
noncomputable def vR:List T->Option T:=c2 AI 11
end aoY
end
section
namespace q4
open D cf aoY
noncomputable def rX:bJ:=
  (seq (asg 2 (aX hs [(au 0),(au 1)])) (seq (iff (gZ (g5 (nm 2))) r_ skip) (b9 (nm 2))))
noncomputable def rW:List T->Option T:=c2 rX 3
noncomputable def aji:bJ:=
  (b9 (ql (bt (cU fP (nm 0))) (a0 [(ae (.int 1)),(ae (.int 0))]) (a0 [(ae (.int 0)),(au 0)])))
noncomputable def w9:List T->Option T:=c2 aji 1
noncomputable def Ew:bJ:=
  (b9 (E1 (aX rW [(au 1),(au 3)]) (aX w9 [(aX kk [(au 1),(au 2),(au 3),(au 0),(au 5)])])))
noncomputable def r2:List T->Option T:=c2 Ew 5
noncomputable def zT:hK:=
  (zp (asg 2 (aX hs [(au 0),(au 1)])) (yQ (gZ (g5 (nm 2))) (mx (cU (vP "no way leads to room ") (nm 1))) KJ))
noncomputable def aoX:List aO->Bool:=zl zT 3
noncomputable def ajB:hK:=
  (r' aoX [.v (au 1),.v (au 3)])
noncomputable def tn:List aO->Bool:=zl ajB 5
end q4
end
section
namespace qZ
open D cf aoY q4
noncomputable def Mw:bJ:=
  (seq (asg 3 (aj aT (aj aT (unop%W7 0) (nm 1)) (ae (.int 2)))) (seq (iff (bt (cU fP (nm 3))) (b9 (a0 [(a0 [(ae (.str "ticks")),(ae (.int 1))]),(a0 [(ae (.str "ticks")),(au 2)])])) skip) (b9 (a0 [(a0 [(ae (.str "line")),(au 3),(ae (.str "open"))]),(a0 [(ae (.str "ticks")),(ae (.int 1))]),(a0 [(ae (.str "line")),(au 3),(ae (.str "shut"))]),(a0 [(ae (.str "ticks")),(au 2)])]))))
noncomputable def w_:List T->Option T:=c2 Mw 4
noncomputable def AI:bJ:=
  (seq (asg 1 (aX Ae [(aX kj [(au 0),(ae (.int 0))])])) (seq (asg 2 (aX w6 [(au 1),(aX kj [(au 0),(ae (.int 1))])])) (seq (asg 3 (aX nP [(au 1),(aX tx [(au 1)]),(aX xq [(au 1),(aX kj [(au 0),(ae (.int 2))]),(ae (.int 6))])])) (seq (asg 4 (aX kj [(au 0),(ae (.int 3))])) (seq (iff (unop%WD 0) (seq (asg 5 (aX gA [(slice (comp 1 [] (dy (unop%Wz 0)) (bw 0) (bt (aj oLt (unop%W9 0) (ae (.str "9998")))) (au 0)) optN (opt (ae (.int 5))))])) (seq (asg 6 (a0 [(aj aT (nm 1) (ae (.int 0))),(aj bV (nm 5) (a0 [(unop%Wj 0)])),(aj aT (nm 1) (ae (.int 2)))])) (seq (asg 3 (aX nP [(au 6),(aX tx [(au 6)]),(a0 [(a0 [(ae (.str "code")),(ae (.str "9998")),(ae (.str "set")),(ae .none)]),(a0 [(ae (.str "ticks")),(ae (.int 61))])])])) (asg 1 (au 6))))) skip) (seq (asg 7 (aj bV (ae (.int 1)) (aj oMod (aj oDiv (nm 4) (ae (.int 4))) (aj aT (nm 2) (ae (.int 0)))))) (seq (asg 8 (aj bV (ae (.int 1)) (aj oMod (aj oDiv (nm 4) (ae (.int 64))) (aj aT (a0 [(ae (.int 3)),(ae (.int 70))]) (aj oMod (aj oDiv (nm 4) (ae (.int 1024))) (ae (.int 2))))))) (seq (asg 9 (ae .none)) (seq (asg 10 (aX hs [(au 2),(au 7)])) (seq (d1 (dy (au 10)) (bw 11) (seq (asg 12 (a0 [])) (seq (asg 13 (ae .none)) (seq (asg 14 (au 3)) (seq (d1 (iJ (gO (au 11))) (dv [(bw 15),(bw 16)]) (seq (asg 17 (aX w_ [(au 2),(au 16),(au 8)])) (seq (asg 12 (aj bV (nm 12) (nm 17))) (seq (asg 18 (comp 1 [] (dy (aX pU [(au 1),(au 14),(au 17)])) (bw 0) (d7 true) (unop%W7 0))) (seq (iff (e0 (bt (cU fP (nm 13))) (bt (aj (eS false) (ae (.str "alarm")) (nm 18)))) (asg 13 (aj bV (nm 15) (ae (.int 1)))) skip) (asg 14 (aX nP [(au 1),(au 14),(au 17)]))))))) (seq (iff (fD (bt (aj i4 (aX vA [(au 2),(au 11),(au 8)]) (nm 12))) (bt (aj i4 (aX kk [(au 1),(au 2),(au 3),(au 11),(au 8)]) (nm 13)))) (b9 (ae (.bool false))) skip) (seq (asg 19 (a0 [(cU iB (ae (.int 99))),(au 11)])) (seq (iff (bt (cU fW (nm 13))) (asg 19 (a0 [(aj aoR (ae (.int 0)) (nm 13)),(au 11)])) skip) (iff (fD (bt (cU fP (nm 9))) (bt (aj sW (nm 19) (nm 9)))) (asg 9 (au 19)) skip))))))))) (seq (iff (bt (aj oEq (nm 10) (a0 []))) (qQ (rz oEq (unop%We 0) (mO (a0 [(ae (.str "refused")),(ae (.int 1))])))) skip) (seq (asg 20 (a0 [(ae (.str "told")),(aj aT (nm 9) (ae (.int 1)))])) (qQ (rz oEq (unop%We 0) (mO (au 20))))))))))))))))
noncomputable def vR:List T->Option T:=c2 AI 21
end qZ
end
section
namespace qZ
open PySem PySem.Spec PyProof.Rows bA D cf aoY q4
variable [cB]
noncomputable def top(i:Nat):Stmt:=PySem.Challenge.pw_doorwatch_k30_walkers.main.body.getD i (.Pass ⟨0,0,0,0⟩)
section
variable {P:cA}{w:b_}{K:bc}{mg:Str->Option aq}{base:bM}{bK:ak}{k:Nat}{f:ak}{fd:eo}
def agE{α:Type}{us:List α}(h:us.length=1):∃a,us=[a]:=match us,h with|[a],_=>⟨_,rfl⟩
def agF{α:Type}{us:List α}(h:us.length=2):∃a b,us=[a,b]:=match us,h with|[a,b],_=>⟨_,_,rfl⟩
def agG{α:Type}{us:List α}(h:us.length=3):∃a b c,us=[a,b,c]:=match us,h with|[a,b,c],_=>⟨_,_,_,rfl⟩
def agH{α:Type}{us:List α}(h:us.length=4):∃a b c d,us=[a,b,c,d]:=match us,h with|[a,b,c,d],_=>⟨_,_,_,_,rfl⟩
def LC{α:Type}{us:List α}(h:us.length=5):∃a b c d e,us=[a,b,c,d,e]:=match us,h with|[a,b,c,d,e],_=>⟨_,_,_,_,_,rfl⟩
set_option hygiene false in
local macro_rules | `(unop% b6 $F) => `(cL.binds $F λ_ _ _ _ _ _ us aG => by obtain ⟨_, rfl⟩ := agE aG; rfl)
set_option hygiene false in
local macro_rules | `(unop% b7 $F) => `(cL.binds $F λ_ _ _ _ _ _ us aG => by obtain ⟨_, _, rfl⟩ := agF aG; rfl)
set_option hygiene false in
local macro_rules | `(unop% dM $F) => `(cL.binds $F λ_ _ _ _ _ _ us aG => by obtain ⟨_, _, _, rfl⟩ := agG aG; rfl)
set_option hygiene false in
local macro_rules | `(unop% kY $F) => `(cL.binds $F λ_ _ _ _ _ _ us aG => by obtain ⟨_, _, _, _, rfl⟩ := agH aG; rfl)
set_option hygiene false in
local macro_rules | `(unop% q9 $F) => `(cL.binds $F λ_ _ _ _ _ _ us aG => by obtain ⟨_, _, _, _, _, rfl⟩ := LC aG; rfl)
local macro_rules | `(unop% dJ 0) => `(⟨rfl, rfl, rfl, by decide +kernel, rfl, by decide +kernel, by decide +kernel⟩)
set_option hygiene false in
local macro_rules | `(unop% gX 0) => `(hq K 0 bK ["plan", "mode", "left", "came", "lines", "shunts", "siren", "alarms", "tries", "locked", "used", "past", "told"])
set_option hygiene false in
local macro_rules | `(unop% lm $t) => `(λb1 A outer s H E ay => $t)
local macro_rules | `(unop% eO $t) => `(λ_ _ _ _ _ _ => $t)
local macro_rules | `(unop% aS $l) => `(show List.Nodup ($l : List Str) by decide +kernel)
local macro_rules | `(binop% co $s $l) => `(am' (sc := bR $s) $l rfl rfl rfl (by decide +kernel))
set_option hygiene false in
local macro_rules | `(binop% gp $a $b) => `(fV (Au (by exact ay.units)) Aw $a $b)
abbrev Ea:Stmt:=top 39
def Sr:cZ ["_law_number","_law_k","_law_drawn_here"] ["_law_number","_law_k"] (bR Ea):=unop%dJ 0
def r1(F:cL K "_law_drawn" "_law_drawn" Ea f fd)(m:mg "_law_drawn"=some (.ref f)) :Cl P w K mg base "_law_drawn" (k+1) 2 ig:=
 hY F Sr (unop%b7 F) m unop%lm
  (bz (cX 2 Sr.aS (e' (ax (tJ (ax (fK (ax (fK (aZ 0) (ax (tJ (ax aR) (aZ 1))))) (ax aR))) (ax aR))) (ax aR))) (bQ (ei (e' (ax (fK (ax (fK (ax (tJ (aZ 2) (aZ 2))) (ax (tJ (ax aR) (aZ 2))))) (aZ 1))) (ax aR)))))
abbrev z':Stmt:=top 41
def l9:cZ ["_law_number","_law_zones","_law_k","_law_name","_law_drawn_here","_law_codes","_law_figures","_law_rights","_law_who","_law_times"] ["_law_number"] (bR z'):=unop%dJ 0
def M_(F:cL K "_law_plan" "_law_plan" z' f fd)(m:mg "_law_plan"=some (.ref f))(jy:mg "enumerate"=none)(r1:Cl P w K mg base "_law_drawn" k 2 ig)(fL:mg "tuple"=none)(nR:mg "range"=none):Cl P w K mg base "_law_plan" (k+1) 1 Ae:=
 hY F l9 (unop%b6 F) m unop%lm
  (bz (cX 1 l9.aS (cG bb)) (bz (nS aoP (ER jy (cG (av bS (av bS (av bS (av bS (unop%WX 0))))))) (ao7 (km (e2 2 l9.aS) (km (e2 3 l9.aS) ao8))) (bz (cX 4 l9.aS (g8 (ax (d5 r1 ay (av (a4 0) (av (a4 2) bb)))) (ax aR))) (bQ (dB (nv (w_or (fV (xK.or xa) xA (ax (e' (aZ 4) (ax aR))) (ax (fK (ax aR) (ax (e' (aZ 0) (ax aR)))))) (vM (binop%gp (aZ 2) (ax (e' (ax (g8 (aZ 0) (ax aR))) (ax aR))))))) (bQ (cX 1 l9.aS (fK (aZ 1) (ax (cG (av (cG (av (a4 3) (av (cg (ax (cG (av bS (unop%WX 0)))) (unop%WA 0)) bb))) bb)))))) eH)))) (bz (cX 5 l9.aS (cG bb)) (bz (nS aoP (ER jy (cG (av bS (av bS (unop%WX 0))))) (ao7 (km (e2 2 l9.aS) (km (e2 6 l9.aS) ao8))) (bz (cX 4 l9.aS (g8 (ax (d5 r1 ay (av (a4 0) (av (fK (ax aR) (aZ 2)) bb)))) (ax aR))) (bQ (dB (nv (w_or (fV (AE.or z6) Av (ax (e' (aZ 4) (ax aR))) (ax aR)) (vM (binop%gp (aZ 2) (ax aR))))) (bz (cX 7 l9.aS (qJ fL (jd (ax (qK (own:=["_law_j"]) (caps:=[(4,"_law_drawn_here")]) (binop%co z' ["_law_number","_law_zones","_law_k","_law_name","_law_drawn_here","_law_codes","_law_figures","_law_rights","_law_who","_law_times"]) (NP nR (ax aR)) (unop%eO (e2 0 (unop%aS ["_law_j","_law_drawn_here"]))) (unop%eO (EK (fV (AE.or z6) Av (ax (e' (ax (g8 (aZ 1) (ax (cg (ax (cG (av aR (av aR (av aR bb))))) (aZ 0))))) (ax aR))) (ax aR)))) (unop%eO (cg (ax (cG (av bS (av bS (av bS bb))))) (aZ 0))))) kn))) (bz (cX 8 l9.aS (cg (ax (cG (av bS (av bS (av bS bb))))) (unop%WA 0))) (bQ (cX 5 l9.aS (fK (aZ 5) (ax (cG (av (cG (av (a4 6) (av (a4 8) (av (a4 7) (av (cg (ax (cG (av aR (av aR (av aR (av aR (av aR bb))))))) (unop%WA 0)) bb))))) bb)))))))) eH)))) (bz (cX 4 l9.aS (g8 (ax (d5 r1 ay (av (a4 0) (av aR bb)))) (ax aR))) (bz (cX 9 l9.aS (cG (av (cg (ax (cG (av aR (av aR (av aR (av aR bb)))))) (ax (e' (aZ 4) (ax aR)))) (av (cg (ax (cG (av aR (av aR (av aR (av aR bb)))))) (unop%WA 0)) (av (cg (ax (cG (av aR (av aR (av aR (av aR bb)))))) (unop%WA 0)) bb))))) (bQ (ei (cG (av (a4 1) (av (a4 5) (av (a4 9) bb))))))))))))
abbrev D_:Stmt:=top 44
def rY:cZ ["_law_number","_law_rooms","_law_openings","_law_k","_law_drawn_here","_law_one","_law_other","_law_zone"] ["_law_number"] (bR D_):=unop%dJ 0
def MN(F:cL K "_law_house" "_law_house" D_ f fd)(m:mg "_law_house"=some (.ref f))(nR:mg "range"=none)(r1:Cl P w K mg base "_law_drawn" k 2 ig)(vH:mg "min"=none)(lJ:mg "max"=none):Cl P w K mg base "_law_house" (k+1) 1 sC:=
 hY F rY (unop%b6 F) m unop%lm
  (bz (cX 1 rY.aS (fK (ax aR) (ax (e' (aZ 0) (ax aR))))) (bz (cX 2 rY.aS (cG bb)) (bz (nS aoP (NP nR (ax (e' (ax (g8 (aZ 0) (ax aR))) (ax aR)))) (e2 3 rY.aS) (bz (cX 4 rY.aS (g8 (ax (d5 r1 ay (av (a4 0) (av (fK (ax aR) (aZ 3)) bb)))) (ax aR))) (bz (cX 5 rY.aS (e' (aZ 4) (ax (fK (aZ 1) (ax aR))))) (bz (cX 6 rY.aS (e' (ax (fK (ax (fK (aZ 5) (ax aR))) (ax (e' (ax (g8 (aZ 4) (ax aR))) (aZ 1))))) (ax (fK (aZ 1) (ax aR))))) (bz (cX 7 rY.aS (cg (ax (cG (av j0 (av j0 (av bS (unop%WX 0)))))) (unop%WA 0))) (bQ (cX 2 rY.aS (fK (aZ 2) (ax (cG (av (cG (av (anC vH (jd (aZ 5) (jd (aZ 6) kn))) (av (VB lJ (jd (aZ 5) (jd (aZ 6) kn))) (av (a4 7) bb)))) bb))))))))))) (bQ (ei (cG (av (a4 1) (av (a4 2) bb))))))))
abbrev zZ:Stmt:=top 45
def rV:cZ ["_law_plan_here","_law_number","_law_rooms","_law_openings","_law_names","_law_found","_law_one","_law_other","_law_zone"] ["_law_plan_here","_law_number"] (bR zZ):=unop%dJ 0
def Mc(F:cL K "_law_house_of" "_law_house_of" zZ f fd)(m:mg "_law_house_of"=some (.ref f))(MN:Cl P w K mg base "_law_house" k 1 sC)(vG:mg "int"=none):Cl P w K mg base "_law_house_of" (k+1) 2 w6:=
 hY F rV (unop%b7 F) m unop%lm
  (bz (amq (d5 MN ay (av (a4 1) bb)) (ao7 (km (e2 2 rV.aS) (km (e2 3 rV.aS) ao8)))) (bz (NG 4 rV.aS (own:=["_law_zone"]) (caps:=[]) (binop%co zZ ["_law_plan_here","_law_number","_law_rooms","_law_openings","_law_names","_law_found","_law_one","_law_other","_law_zone"]) (ko (unop%WE 0)) (unop%eO (e2 0 (unop%aS ["_law_zone"]))) (unop%eO r4) (unop%eO (unop%WE 0))) (bz (cX 5 rV.aS (cG bb)) (bz (nS aoP (ko (a4 3)) (ao7 (km (e2 6 rV.aS) (km (e2 7 rV.aS) (km (e2 8 rV.aS) ao8)))) (bQ (cX 5 rV.aS (fK (aZ 5) (ax (cG (av (cG (av (a4 6) (av (a4 7) (av (cg (ax (cG (av (a4 8) (av j0 bb)))) (ax (amy vG (jd (ax (tK (vr (by exact ay.units)) nQ (aZ 8) (aZ 4))) kn)))) bb)))) bb))))))) (bQ (ei (cG (av (a4 2) (av (a4 5) bb)))))))))
abbrev DI:Stmt:=hV (top 16) 1
def zR:cZ ["self","lines","shunts","alarms","used"] ["self"] (bR DI):=unop%dJ 0
def L5(F:cL K "state" "Course.state" DI f fd)(m:Meth K bK "state" f)(a8:unop%gX 0)(fL:mg "tuple"=none):kv P w K mg base bK "state" (k+1) 1 zU:=
 Ay F zR (unop%b6 F) m unop%lm
  (bz (cX 1 zR.aS (Un (j:=4) a8 rfl fL (bE 0))) (bz (cX 2 zR.aS (qJ fL (jd (ij (j:=5) a8 (bE 0)) kn))) (bz (cX 3 zR.aS (qJ fL (jd (ij (j:=7) a8 (bE 0)) kn))) (bz (cX 4 zR.aS (Un (j:=10) a8 rfl fL (bE 0))) (bQ (ei (cG (av (l_ (j:=1) a8 (bE 0)) (av (l_ (j:=2) a8 (bE 0)) (av (l_ (j:=3) a8 (bE 0)) (av (a4 1) (av (a4 2) (av (l_ (j:=6) a8 (bE 0)) (av (a4 3) (av (l_ (j:=8) a8 (bE 0)) (av (l_ (j:=9) a8 (bE 0)) (av (a4 4) bb)))))))))))))))))
abbrev w3:Stmt:=hV (top 16) 0
def ag6:cZ ["self","plan","state"] ["self","plan","state"] (bR w3):=unop%dJ 0
def ahd(F:cL K "__init__" "Course.__init__" w3 f fd)(gY:xW K bK f)(m:mg "Course"=some (.ref bK))(a8:unop%gX 0)(tA:mg "dict"=none)(tB:mg "list"=none)(tC:mg "zip"=none):tW P w K mg base "Course" bK 0 (k+1) 3 zM:=
 amW F ag6 (unop%dM F) gY m unop%lm
  (bz (gz (j:=0) a8 (bE 0) (a4 1)) (bz (gz (j:=1) a8 (bE 0) (cg (aZ 2) (ax aR))) (bz (gz (j:=2) a8 (bE 0) (cg (aZ 2) (ax aR))) (bz (gz (j:=3) a8 (bE 0) (cg (aZ 2) (ax aR))) (bz (Ui (j:=4) a8 rfl tA tC (bE 0) (ax (qK (own:=["zone"]) (caps:=[]) (binop%co w3 ["self","plan","state"]) (ko (unop%WN 0)) (unop%eO (e2 0 (unop%aS ["zone"]))) (unop%eO r4) (unop%eO (unop%WE 0)))) (ax (cg (aZ 2) (ax aR)))) (bz (xl (j:=5) a8 (bE 0) (Um tB (ax (cg (aZ 2) (ax aR))))) (bz (gz (j:=6) a8 (bE 0) (cg (aZ 2) (ax aR))) (bz (xl (j:=7) a8 (bE 0) (Um tB (ax (cg (aZ 2) (ax aR))))) (bz (gz (j:=8) a8 (bE 0) (cg (aZ 2) (ax aR))) (bz (gz (j:=9) a8 (bE 0) (cg (aZ 2) (ax aR))) (bz (Ui (j:=10) a8 rfl tA tC (bE 0) (ax (qK (own:=["code"]) (caps:=[]) (binop%co w3 ["self","plan","state"]) (ko (unop%WN 0)) (unop%eO (e2 0 (unop%aS ["code"]))) (unop%eO r4) (unop%eO (unop%WE 0)))) (ax (cg (aZ 2) (ax aR)))) (bz (gz (j:=11) a8 (bE 0) aR) (bQ (xl (j:=12) a8 (bE 0) (xG bb)))))))))))))))
abbrev DK:Stmt:=hV (top 16) 3
def ahn:cZ ["self","word","name"] ["self","word","name"] (bR DK):=unop%dJ 0
def hH(F:cL K "tell" "Course.tell" DK f fd)(m:Meth K bK "tell" f)(a8:unop%gX 0):dr P w K mg base bK 0 "tell" (k+1) 3 gy:=
 kl F ahn (unop%dM F) m unop%lm
  (bQ (U1 (j:=12) a8 (bE 0) (cG (av (l_ (j:=11) a8 (bE 0)) (av (a4 1) (av (a4 2) bb))))))
abbrev Eb:Stmt:=top 7
def Ss:cZ ["plan","name","zone"] ["plan","name"] (bR Eb):=unop%dJ 0
def z9(F:cL K "kind_of" "kind_of" Eb f fd)(m:mg "kind_of"=some (.ref f)) :Cl P w K mg base "kind_of" (k+1) 2 vu:=
 hY F Ss (unop%b7 F) m unop%lm
  (bz (nS aoP (ko (unop%WE 0)) (e2 2 Ss.aS) (bQ (dB (binop%gp (ax (cg (aZ 2) (ax aR))) (aZ 1)) (bQ (ei (cg (aZ 2) (ax aR)))) eH))) (bQ Uh))
abbrev DA:Stmt:=hV (top 16) 4
def aha:cZ ["self"] ["self"] (bR DA):=unop%dJ 0
def zO(F:cL K "be_loud" "Course.be_loud" DA f fd)(m:Meth K bK "be_loud" f)(a8:unop%gX 0):dr P w K mg base bK 0 "be_loud" (k+1) 1 vm:=
 kl F aha (unop%b6 F) m unop%lm
  (bQ (gz (j:=6) a8 (bE 0) (cg (ax (cg (ij (j:=0) a8 (bE 0)) (ax aR))) (ax aR))))
abbrev DJ:Stmt:=hV (top 16) 5
def ahh:cZ ["self","zone"] ["self","zone"] (bR DJ):=unop%dJ 0
def qF(F:cL K "alarm" "Course.alarm" DJ f fd)(m:Meth K bK "alarm" f)(a8:unop%gX 0)(zO:dr P w K mg base bK 0 "be_loud" k 1 vm)(hH:dr P w K mg base bK 0 "tell" k 3 gy):dr P w K mg base bK 0 "alarm" (k+1) 2 mH:=
 kl F ahh (unop%b7 F) m unop%lm
  (bz (eY (vx a8 zO ay (bE 0))) (bQ (dB (fV (vr (by exact ay.units)) nQ (aZ 1) (ij (j:=7) a8 (bE 0))) (bz (U1 (j:=7) a8 (bE 0) (a4 1)) (bQ (unop%WB 0))) eH)))
abbrev Dz:Stmt:=hV (top 16) 9
def ag':cZ ["self","zone","kind"] ["self","zone","kind"] (bR Dz):=unop%dJ 0
def L0(F:cL K "come_in" "Course.come_in" Dz f fd)(m:Meth K bK "come_in" f)(a8:unop%gX 0)(hH:dr P w K mg base bK 0 "tell" k 3 gy)(qF:dr P w K mg base bK 0 "alarm" k 2 mH):dr P w K mg base bK 0 "come_in" (k+1) 3 vl:=
 kl F ag' (unop%dM F) m unop%lm
  (bz (dB (nv (w_or (fV (xw (by exact ay.units)) xy (aZ 2) (ax bS)) (vM (fV (N1.or ME) NL (ax (cg (ax (cg (ij (j:=0) a8 (bE 0)) (ax aR))) (ax aR))) (ax aR))))) (bz (eY (fU a8 qF ay (bE 0) (av (a4 1) bb))) (bQ Nj)) eH) (bz (gz (j:=1) a8 (bE 0) bS) (bz (gz (j:=2) a8 (bE 0) (cg (ax (cg (ij (j:=0) a8 (bE 0)) (ax aR))) (ax aR))) (bz (gz (j:=3) a8 (bE 0) (a4 1)) (bQ (unop%WB 0))))))
abbrev Dy:Stmt:=hV (top 16) 8
def RM:cZ ["self","zone","what","kind"] ["self","zone","what"] (bR Dy):=unop%dJ 0
def LZ(F:cL K "disturb" "Course.disturb" Dy f fd)(m:Meth K bK "disturb" f)(a8:unop%gX 0)(z9:Cl P w K mg base "kind_of" k 2 vu)(qF:dr P w K mg base bK 0 "alarm" k 2 mH)(hH:dr P w K mg base bK 0 "tell" k 3 gy)(L0:dr P w K mg base bK 0 "come_in" k 3 vl):dr P w K mg base bK 0 "disturb" (k+1) 3 zN:=
 kl F RM (unop%dM F) m unop%lm
  (bz (cX 3 RM.aS (d5 z9 ay (av (l_ (j:=0) a8 (bE 0)) (av (a4 1) bb)))) (bQ (dB (binop%gp (aZ 3) (ax bS)) (bQ (eY (fU a8 qF ay (bE 0) (av (a4 1) bb)))) (bQ (dB (binop%gp (ij (j:=1) a8 (bE 0)) (ax bS)) (bQ (dB (binop%gp (aZ 2) (ax bS)) (bQ (unop%WB 0)) eH)) (bQ (dB (nv (w_or (binop%gp (aZ 2) (ax bS)) (vM (binop%gp (aZ 3) (ax bS))))) (bQ (eY (fU a8 qF ay (bE 0) (av (a4 1) bb)))) (bQ (dB (binop%gp (ij (j:=1) a8 (bE 0)) (ax bS)) (bQ (eY (fU a8 L0 ay (bE 0) (av (a4 1) (av (a4 3) bb))))) eH)))))))))
abbrev DL:Stmt:=hV (top 16) 7
def RU:cZ ["self","zone","what","before"] ["self","zone","what"] (bR DL):=unop%dJ 0
def L_(F:cL K "line" "Course.line" DL f fd)(m:Meth K bK "line" f)(a8:unop%gX 0)(hH:dr P w K mg base bK 0 "tell" k 3 gy)(LZ:dr P w K mg base bK 0 "disturb" k 3 zN):dr P w K mg base bK 0 "line" (k+1) 3 zX:=
 kl F RU (unop%dM F) m unop%lm
  (bz (cX 3 RU.aS (NI (j:=4) a8 (AG ay) (bE 0) (aZ 1))) (bz (dB (binop%gp (aZ 2) (aZ 3)) (bQ Nj) eH) (bz (amn (j:=4) a8 (AG ay) (bE 0) (aZ 1) (a4 2)) (bQ (dB (binop%gp (aZ 2) (ax bS)) (bQ (dB (binop%gp (aZ 3) (ax bS)) (bQ (unop%WB 0)) eH)) (bQ (dB (fV (vr (by exact ay.units)) nQ (aZ 1) (ij (j:=5) a8 (bE 0))) (bQ (eY (fU a8 LZ ay (bE 0) (av (a4 1) (av (a4 2) bb))))) eH)))))))
abbrev Ec:Stmt:=top 14
def Su:cZ ["plan","figures","code"] ["plan","figures"] (bR Ec):=unop%dJ 0
def MP(F:cL K "code_of" "code_of" Ec f fd)(m:mg "code_of"=some (.ref f)) :Cl P w K mg base "code_of" (k+1) 2 z8:=
 hY F Su (unop%b7 F) m unop%lm
  (bz (nS aoP (ko (unop%WE 0)) (e2 2 Su.aS) (bQ (dB (binop%gp (ax (cg (aZ 2) (ax aR))) (aZ 1)) (bQ (Ao 2)) eH))) (bQ (ei j0)))
abbrev Ds:Stmt:=hV (top 16) 16
def agY:cZ ["self","code"] ["self","code"] (bR Ds):=unop%dJ 0
def LO(F:cL K "is_used_up" "Course.is_used_up" Ds f fd)(m:Meth K bK "is_used_up" f)(a8:unop%gX 0):kv P w K mg base bK "is_used_up" (k+1) 2 w2:=
 Ay F agY (unop%b7 F) m unop%lm
  (bQ (ei (VD (tK (xw (by exact ay.units)) xy (ax (unop%WN 0)) (ax aR)) (U3 (tK (VF.or S2) U_ (ax (NI (j:=10) a8 (AG ay) (bE 0) (ax (unop%WN 0)))) (ax (unop%WN 0)))))))
abbrev Dq:Stmt:=hV (top 16) 17
def agX:cZ ["self"] ["self"] (bR Dq):=unop%dJ 0
def LM(F:cL K "take_wrong" "Course.take_wrong" Dq f fd)(m:Meth K bK "take_wrong" f)(a8:unop%gX 0)(hH:dr P w K mg base bK 0 "tell" k 3 gy)(zO:dr P w K mg base bK 0 "be_loud" k 1 vm){Lw:Tok}(uw:mg "WRONG_IN_A_ROW"=some (.int 3 Lw)){Lu:Tok}(uv:mg "TICKS_LOCKED"=some (.int 90 Lu)):dr P w K mg base bK 0 "take_wrong" (k+1) 1 w0:=
 kl F agX (unop%b6 F) m unop%lm
  (bz (eY (fU a8 hH ay (bE 0) (av bS (av j0 bb)))) (bz (UZ (j:=8) a8 (bE 0) aR) (bQ (dB (fV (VF.or S2) U_ (ij (j:=8) a8 (bE 0)) (ax (zd uw))) (bz (gz (j:=8) a8 (bE 0) aR) (bz (gz (j:=9) a8 (bE 0) (zd uv)) (bz (eY (vx a8 zO ay (bE 0))) (bQ (eY (fU a8 hH ay (bE 0) (av bS (av j0 bb)))))))) eH))))
abbrev Dn:Stmt:=hV (top 16) 20
def agW:cZ ["self","deed","zone"] ["self","deed","zone"] (bR Dn):=unop%dJ 0
def LL(F:cL K "is_untimely" "Course.is_untimely" Dn f fd)(m:Meth K bK "is_untimely" f)(a8:unop%gX 0)(z9:Cl P w K mg base "kind_of" k 2 vu):kv P w K mg base bK "is_untimely" (k+1) 3 qE:=
 Ay F agW (unop%dM F) m unop%lm
  (bz (dB (binop%gp (aZ 1) (ax bS)) (bQ (ei K6)) eH) (bz (dB (fV (xw (by exact ay.units)) xy (ij (j:=1) a8 (bE 0)) (ax bS)) (bQ (ei K6)) eH) (bz (dB (binop%gp (aZ 1) (ax bS)) (bQ (ei (aeP (tK (Au (by exact ay.units)) Aw (ax (d5 z9 ay (av (l_ (j:=0) a8 (bE 0)) (av (a4 2) bb)))) (ax bS)) (anA (tK (xx (by exact ay.units)) nQ (aZ 2) (ij (j:=5) a8 (bE 0))))))) eH) (bQ (ei (VD (tK (Au (by exact ay.units)) Aw (aZ 1) (ax bS)) (U3 (tK (vr (by exact ay.units)) nQ (aZ 2) (ij (j:=5) a8 (bE 0))))))))))
abbrev wZ:Stmt:=hV (top 16) 6
def RH:cZ ["self","kinds","zones"] ["self","kinds"] (bR wZ):=unop%dJ 0
def zK(F:cL K "bare_zones" "Course.bare_zones" wZ f fd)(m:Meth K bK "bare_zones" f)(a8:unop%gX 0):kv P w K mg base bK "bare_zones" (k+1) 2 vk:=
 Ay F RH (unop%b7 F) m unop%lm
  (bz (NG 2 RH.aS (own:=["zone"]) (caps:=[(1,"kinds")]) (binop%co wZ ["self","kinds","zones"]) (ko (cg (ij (j:=0) a8 (bE 0)) (ax aR))) (unop%eO (e2 0 (unop%aS ["zone","kinds"]))) (unop%eO (EK (fV (xx (by exact ay.units)) nQ (ax (unop%WE 0)) (aZ 1)))) (unop%eO (unop%WE 0))) (bQ (ei (qK (own:=["zone"]) (caps:=[(0,"self")]) (binop%co wZ ["self","kinds","zones"]) (ko (a4 2)) (unop%eO (e2 0 (unop%aS ["zone","self"]))) (unop%eO (EK (nv (xF (fV (xw (by exact ay.units)) xy (ax (NI (j:=4) (by exact a8) (by exact AG ay) (bE 1) (aZ 0))) (ax bS)) (xt (fV (vr (by exact ay.units)) nQ (aZ 0) (ij (j:=5) (by exact a8) (bE 1)))))))) (unop%eO (a4 0))))))
abbrev Dm:Stmt:=hV (top 16) 19
def LJ:cZ ["self","code","deed","zone","right","bare"] ["self","code","deed","zone"] (bR Dm):=unop%dJ 0
def LK(F:cL K "what_is_against" "Course.what_is_against" Dm f fd)(m:Meth K bK "what_is_against" f)(a8:unop%gX 0)(LL:kv P w K mg base bK "is_untimely" k 3 qE)(zK:kv P w K mg base bK "bare_zones" k 2 vk){apd:ak}(ab1:mg "KINDS_SHUT_TO_SET"=some (.ref apd))(agm:∃(o:Obj) (its:Array aq) (n:Nat),K.lookup apd=some o/\o.cls=.type "tuple"/\o.data=.seq its n/\its.size<=cj/\Vals ((["day","once"]:List Str).map V.str) its.toList):kv P w K mg base bK "what_is_against" (k+1) 4 zG:=
 Ay F LJ (unop%kY F) m unop%lm
  (bz (cX 4 LJ.aS (VC (binop%gp (aZ 2) (ax bS)) bS (a4 2))) (bz (dB (fV (vr (by exact ay.units)) nQ (aZ 4) (ax (unop%WN 0))) (bQ (ei (cG (av bS (av (unop%WN 0) bb))))) eH) (bz (dB (NB (ax (Ai a8 LL ay (bE 0) (av (a4 2) (av (a4 3) bb))))) (bQ (ei (cG (av bS (av (unop%WN 0) bb))))) eH) (bz (cX 5 LJ.aS (Ai a8 zK ay (bE 0) (av (QU ab1 agm) bb))) (bz (dB (nv (xF (binop%gp (aZ 2) (ax bS)) (xt (NA (aZ 5))))) (bQ (ei (cG (av bS (av (cg (aZ 5) (ax aR)) bb))))) eH) (bQ (ei j0)))))))
abbrev Dp:Stmt:=hV (top 16) 13
def RE:cZ ["self","zone"] ["self"] (bR Dp):=unop%dJ 0
def zH(F:cL K "end_leaving" "Course.end_leaving" Dp f fd)(m:Meth K bK "end_leaving" f)(a8:unop%gX 0)(hH:dr P w K mg base bK 0 "tell" k 3 gy)(zK:kv P w K mg base bK "bare_zones" k 2 vk)(qF:dr P w K mg base bK 0 "alarm" k 2 mH){vZ:ak}(ab0:mg "KINDS_LEFT_BY"=some (.ref vZ))(agj:∃(o:Obj) (its:Array aq) (n:Nat),K.lookup vZ=some o/\o.cls=.type "tuple"/\o.data=.seq its n/\its.size<=cj/\Vals ((["inner","way"]:List Str).map V.str) its.toList):dr P w K mg base bK 0 "end_leaving" (k+1) 1 vh:=
 kl F RE (unop%b6 F) m unop%lm
  (bz (gz (j:=1) a8 (bE 0) bS) (bz (gz (j:=2) a8 (bE 0) aR) (bz (eY (fU a8 hH ay (bE 0) (av bS (av j0 bb)))) (bQ (nS aoP (ko (Ai a8 zK ay (bE 0) (av (QU ab0 agj) bb))) (e2 1 RE.aS) (bQ (eY (fU a8 qF ay (bE 0) (av (a4 1) bb)))))))))
abbrev DD:Stmt:=hV (top 16) 22
def ahf:cZ ["self","who"] ["self","who"] (bR DD):=unop%dJ 0
def L2(F:cL K "do_set" "Course.do_set" DD f fd)(m:Meth K bK "do_set" f)(a8:unop%gX 0)(hH:dr P w K mg base bK 0 "tell" k 3 gy)(zH:dr P w K mg base bK 0 "end_leaving" k 1 vh):dr P w K mg base bK 0 "do_set" (k+1) 2 w5:=
 kl F ahf (unop%b7 F) m unop%lm
  (bz (xl (j:=7) a8 (bE 0) (xG bb)) (bz (gz (j:=6) a8 (bE 0) aR) (bz (gz (j:=1) a8 (bE 0) bS) (bz (gz (j:=2) a8 (bE 0) (cg (ax (cg (ij (j:=0) a8 (bE 0)) (ax aR))) (ax aR))) (bz (unop%WB 0) (bQ (dB (fV (N1.or ME) NL (ij (j:=2) a8 (bE 0)) (ax aR)) (bQ (eY (vx a8 zH ay (bE 0)))) eH)))))))
abbrev Dw:Stmt:=hV (top 16) 23
def ag5:cZ ["self","who"] ["self","who"] (bR Dw):=unop%dJ 0
def LV(F:cL K "do_unset" "Course.do_unset" Dw f fd)(m:Meth K bK "do_unset" f)(a8:unop%gX 0)(hH:dr P w K mg base bK 0 "tell" k 3 gy):dr P w K mg base bK 0 "do_unset" (k+1) 2 zL:=
 kl F ag5 (unop%b7 F) m unop%lm
  (bz (gz (j:=1) a8 (bE 0) bS) (bz (gz (j:=2) a8 (bE 0) aR) (bz (gz (j:=6) a8 (bE 0) aR) (bz (gz (j:=3) a8 (bE 0) j0) (bz (xl (j:=5) a8 (bE 0) (xG bb)) (bQ (unop%WB 0)))))))
abbrev Dx:Stmt:=hV (top 16) 21
def ag_:cZ ["self","who","deed","zone"] ["self","who","deed","zone"] (bR Dx):=unop%dJ 0
def LY(F:cL K "do_deed" "Course.do_deed" Dx f fd)(m:Meth K bK "do_deed" f)(a8:unop%gX 0)(L2:dr P w K mg base bK 0 "do_set" k 2 w5)(LV:dr P w K mg base bK 0 "do_unset" k 2 zL)(vI:mg "sorted"=none)(hH:dr P w K mg base bK 0 "tell" k 3 gy):dr P w K mg base bK 0 "do_deed" (k+1) 4 tf:=
 kl F ag_ (unop%kY F) m unop%lm
  (bQ (dB (binop%gp (aZ 2) (ax bS)) (bQ (eY (fU a8 L2 ay (bE 0) (av (a4 1) bb)))) (bQ (dB (binop%gp (aZ 2) (ax bS)) (bQ (eY (fU a8 LV ay (bE 0) (av (a4 1) bb)))) (bQ (dB (binop%gp (aZ 2) (ax bS)) (bz (xl (j:=5) a8 (bE 0) (ajC rfl vI (ax (fK (ij (j:=5) a8 (bE 0)) (ax (U2 (av (a4 3) bb))))))) (bQ (eY (fU a8 hH ay (bE 0) (av bS (av (a4 3) bb)))))) (bz (anr (j:=5) a8 (bE 0) (a4 3)) (bQ (eY (fU a8 hH ay (bE 0) (av bS (av (a4 3) bb))))))))))))
abbrev Dr:Stmt:=hV (top 16) 18
def RF:cZ ["self","code","deed","zone","against"] ["self","code","deed","zone"] (bR Dr):=unop%dJ 0
def LN(F:cL K "take_right" "Course.take_right" Dr f fd)(m:Meth K bK "take_right" f)(a8:unop%gX 0)(LK:kv P w K mg base bK "what_is_against" k 4 zG)(LY:dr P w K mg base bK 0 "do_deed" k 4 tf)(hH:dr P w K mg base bK 0 "tell" k 3 gy):dr P w K mg base bK 0 "take_right" (k+1) 4 w1:=
 kl F RF (unop%kY F) m unop%lm
  (bz (cX 4 RF.aS (Ai a8 LK ay (bE 0) (av (a4 1) (av (a4 2) (av (a4 3) bb))))) (bQ (dB (vN (aZ 4)) (bz (alo (j:=10) a8 (AG ay) (bE 0) (ax (unop%WN 0)) aR) (bQ (eY (fU a8 LY ay (bE 0) (av (unop%WN 0) (av (a4 2) (av (a4 3) bb))))))) (bQ (eY (fU a8 hH ay (bE 0) (av (cg (aZ 4) (ax aR)) (av (cg (aZ 4) (ax aR)) bb))))))))
abbrev DM:Stmt:=hV (top 16) 15
def RV:cZ ["self","figures","deed","zone","code"] ["self","figures","deed","zone"] (bR DM):=unop%dJ 0
def L'(F:cL K "code" "Course.code" DM f fd)(m:Meth K bK "code" f)(a8:unop%gX 0)(MP:Cl P w K mg base "code_of" k 2 z8)(hH:dr P w K mg base bK 0 "tell" k 3 gy)(LO:kv P w K mg base bK "is_used_up" k 2 w2)(LM:dr P w K mg base bK 0 "take_wrong" k 1 w0)(LN:dr P w K mg base bK 0 "take_right" k 4 w1):dr P w K mg base bK 0 "code" (k+1) 4 ti:=
 kl F RV (unop%kY F) m unop%lm
  (bz (cX 4 RV.aS (d5 MP ay (av (l_ (j:=0) a8 (bE 0)) (av (a4 1) bb)))) (bQ (dB (fV (AE.or z6) Av (ij (j:=9) a8 (bE 0)) (ax aR)) (bQ (eY (fU a8 hH ay (bE 0) (av bS (av j0 bb))))) (bQ (dB (nv (w_or (vN (aZ 4)) (vM (NB (ax (Ai a8 LO ay (bE 0) (av (a4 4) bb))))))) (bQ (eY (vx a8 LM ay (bE 0)))) (bz (gz (j:=8) a8 (bE 0) aR) (bQ (eY (fU a8 LN ay (bE 0) (av (a4 4) (av (a4 2) (av (a4 3) bb))))))))))))
abbrev D0:Stmt:=top 15
def ah':cZ ["ticks","many"] ["ticks","many"] (bR D0):=unop%dJ 0
def z3(F:cL K "lessened" "lessened" D0 f fd)(m:mg "lessened"=some (.ref f))(lJ:mg "max"=none):Cl P w K mg base "lessened" (k+1) 2 vp:=
 hY F ah' (unop%b7 F) m unop%lm
  (bQ (ei (VB lJ (jd (ax (NY (aZ 0) (aZ 1))) (jd (ax aR) kn)))))
abbrev Du:Stmt:=hV (top 16) 11
def agZ:cZ ["self","many"] ["self","many"] (bR Du):=unop%dJ 0
def zJ(F:cL K "count_down" "Course.count_down" Du f fd)(m:Meth K bK "count_down" f)(a8:unop%gX 0)(z3:Cl P w K mg base "lessened" k 2 vp):dr P w K mg base bK 0 "count_down" (k+1) 2 vj:=
 kl F agZ (unop%b7 F) m unop%lm
  (bz (UZ (j:=11) a8 (bE 0) (a4 1)) (bz (gz (j:=9) a8 (bE 0) (d5 z3 ay (av (l_ (j:=9) a8 (bE 0)) (av (a4 1) bb)))) (bz (gz (j:=6) a8 (bE 0) (d5 z3 ay (av (l_ (j:=6) a8 (bE 0)) (av (a4 1) bb)))) (bQ (gz (j:=2) a8 (bE 0) (d5 z3 ay (av (l_ (j:=2) a8 (bE 0)) (av (a4 1) bb))))))))
abbrev Dt:Stmt:=hV (top 16) 14
def RG:cZ ["self","zone"] ["self"] (bR Dt):=unop%dJ 0
def LP(F:cL K "end_coming" "Course.end_coming" Dt f fd)(m:Meth K bK "end_coming" f)(a8:unop%gX 0)(qF:dr P w K mg base bK 0 "alarm" k 2 mH):dr P w K mg base bK 0 "end_coming" (k+1) 1 zI:=
 kl F RG (unop%b6 F) m unop%lm
  (bz (cX 1 RG.aS (l_ (j:=3) a8 (bE 0))) (bz (gz (j:=1) a8 (bE 0) bS) (bz (gz (j:=3) a8 (bE 0) j0) (bQ (eY (fU a8 qF ay (bE 0) (av (a4 1) bb)))))))
abbrev Dv:Stmt:=hV (top 16) 12
def ag4:cZ ["self"] ["self"] (bR Dv):=unop%dJ 0
def LU(F:cL K "end_time" "Course.end_time" Dv f fd)(m:Meth K bK "end_time" f)(a8:unop%gX 0)(zH:dr P w K mg base bK 0 "end_leaving" k 1 vh)(LP:dr P w K mg base bK 0 "end_coming" k 1 zI):dr P w K mg base bK 0 "end_time" (k+1) 1 aph:=
 kl F ag4 (unop%b6 F) m unop%lm
  (bQ (dB (binop%gp (ij (j:=1) a8 (bE 0)) (ax bS)) (bQ (eY (vx a8 zH ay (bE 0)))) (bQ (eY (vx a8 LP ay (bE 0))))))
abbrev DH:Stmt:=hV (top 16) 10
def RS:cZ ["self","many","rest"] ["self","many"] (bR DH):=unop%dJ 0
def L4(F:cL K "ticks" "Course.ticks" DH f fd)(m:Meth K bK "ticks" f)(a8:unop%gX 0)(zJ:dr P w K mg base bK 0 "count_down" k 2 vj)(LU:dr P w K mg base bK 0 "end_time" k 1 aph):dr P w K mg base bK 0 "ticks" (k+1) 2 th:=
 kl F RS (unop%b7 F) m unop%lm
  (bz (dB (fV (xK.or xa) xA (aZ 1) (ax aR)) (bQ Nj) eH) (bQ (dB (nv (xF (fV (xx (by exact ay.units)) nQ (ij (j:=1) a8 (bE 0)) (ax (cG (av bS (av bS bb))))) (xt (fV (N1.or ME) NL (ij (j:=2) a8 (bE 0)) (aZ 1))))) (bz (cX 2 RS.aS (NY (aZ 1) (ij (j:=2) a8 (bE 0)))) (bz (eY (fU a8 zJ ay (bE 0) (av (l_ (j:=2) a8 (bE 0)) bb))) (bz (eY (vx a8 LU ay (bE 0))) (bQ (eY (fU a8 zJ ay (bE 0) (av (a4 2) bb))))))) (bQ (eY (fU a8 zJ ay (bE 0) (av (a4 1) bb)))))))
abbrev DC:Stmt:=hV (top 16) 2
def ahe:cZ ["self","event"] ["self","event"] (bR DC):=unop%dJ 0
def L1(F:cL K "happen" "Course.happen" DC f fd)(m:Meth K bK "happen" f)(a8:unop%gX 0)(L_:dr P w K mg base bK 0 "line" k 3 zX)(L':dr P w K mg base bK 0 "code" k 4 ti)(L4:dr P w K mg base bK 0 "ticks" k 2 th):dr P w K mg base bK 0 "happen" (k+1) 2 tg:=
 kl F ahe (unop%b7 F) m unop%lm
  (bQ (dB (binop%gp (ax (unop%WN 0)) (ax bS)) (bQ (eY (fU a8 L_ ay (bE 0) (av (unop%WN 0) (av (unop%WN 0) bb))))) (bQ (dB (binop%gp (ax (unop%WN 0)) (ax bS)) (bQ (eY (fU a8 L' ay (bE 0) (av (unop%WN 0) (av (unop%WN 0) (av (unop%WN 0) bb)))))) (bQ (eY (fU a8 L4 ay (bE 0) (av (unop%WN 0) bb))))))))
abbrev DV:Stmt:=top 17
def Ma:cZ ["plan","state","row","course","event"] ["plan","state","row"] (bR DV):=unop%dJ 0
def R_(ts:List T)(s:aO)(h:tj ts=some s):∃c os,s=.obj .own c os:=akx (b:=Mm) h
def z1(F:cL K "course_of" "course_of" DV f fd)(m:mg "course_of"=some (.ref f))(a8:unop%gX 0)(Yi:tW P w K mg base "Course" bK 0 k 3 zM)(L1:dr P w K mg base bK 0 "happen" k 2 tg):ao2 P w K mg base "course_of" (k+2) 3 tj:=
 ana F Ma (unop%dM F) m unop%lm
  (bz (amr 3 Ma.aS (anJ a8 Yi ay (av (a4 0) (av (a4 1) bb)))) (bz (nS aoP (ko (a4 2)) (e2 4 Ma.aS) (bQ (eY (fU a8 L1 (ay.mono (rO _)) (bE 3) (av (a4 4) bb))))) (bQ (amm (bE 3)))))
abbrev EA:Stmt:=top 19
def aku:cZ ["plan","state","row"] ["plan","state","row"] (bR EA):=unop%dJ 0
def vF(F:cL K "after" "after" EA f fd)(m:mg "after"=some (.ref f))(a8:unop%gX 0)(L5:kv P w K mg base bK "state" k 1 zU)(z1:ao2 P w K mg base "course_of" k 3 tj):Cl P w K mg base "after" (k+1) 3 nP:=
 hY F aku (unop%dM F) m unop%lm
  (bQ (ei (anB a8 L5 ay (Vf z1 R_ ay (av (a4 0) (av (a4 1) (av (a4 2) bb)))))))
abbrev DU:Stmt:=top 37
def ahH:cZ ["_law_script","_law_k"] ["_law_script","_law_k"] (bR DU):=unop%dJ 0
def Mj(F:cL K "_law_cell_at" "_law_cell_at" DU f fd)(m:mg "_law_cell_at"=some (.ref f))(mQ:mg "len"=none):Cl P w K mg base "_law_cell_at" (k+1) 2 nK:=
 hY F ahH (unop%b7 F) m unop%lm
  (bz (dB (fV (xK.or xa) xA (aZ 1) (ax (EY (by exact mQ) (jd (aZ 0) kn)))) (bQ (ei (cg (aZ 0) (aZ 1)))) eH) (bQ (ei aR)))
abbrev D9:Stmt:=top 38
def Sq:cZ ["_law_script","_law_k","_law_drawn_here"] ["_law_script","_law_k"] (bR D9):=unop%dJ 0
def xe(F:cL K "_law_mixed" "_law_mixed" D9 f fd)(m:mg "_law_mixed"=some (.ref f))(Mj:Cl P w K mg base "_law_cell_at" k 2 nK):Cl P w K mg base "_law_mixed" (k+1) 2 kj:=
 hY F Sq (unop%b7 F) m unop%lm
  (bz (cX 2 Sq.aS (e' (ax (tJ (ax (fK (ax (fK (ax (d5 Mj ay (av (a4 0) (av (a4 1) bb)))) (ax (tJ (ax aR) (aZ 1))))) (ax aR))) (ax aR))) (ax aR))) (bQ (ei (e' (ax (fK (ax (fK (ax (tJ (aZ 2) (aZ 2))) (ax (tJ (ax aR) (aZ 2))))) (aZ 1))) (ax aR)))))
abbrev En:Stmt:=top 23
def ajx:cZ ["opening","here"] ["opening","here"] (bR En):=unop%dJ 0
def xi(F:cL K "beyond" "beyond" En f fd)(m:mg "beyond"=some (.ref f)) :Cl P w K mg base "beyond" (k+1) 2 nO:=
 hY F ajx (unop%b7 F) m unop%lm
  (bz (dB (binop%gp (ax (unop%WE 0)) (aZ 1)) (bQ (ei (unop%WE 0))) eH) (bz (dB (binop%gp (ax (unop%WE 0)) (aZ 1)) (bQ (ei (unop%WE 0))) eH) (bQ (ei j0))))
abbrev vq:Stmt:=top 24
def z2:cZ ["house","room","places","found","number","opening","there"] ["house","room","places"] (bR vq):=unop%dJ 0
def SK{K:bc}{f:ak}{fd:eo}(F:cL K "ways_on" "ways_on" vq f fd):gh K fd ["house","room","places"] []:=F.binds (ps:=["house","room","places"]) λ_ _ _ _ _ _ us aG=>match us,aG with|[_,_,_],_=>rfl
def ajh{d:List T->Option T}(F:cL K "ways_on" "ways_on" vq f fd)(m:mg "ways_on"=some (.ref f))(xd:Cl P w K mg base "ways_on" k 3 d)(jy:mg "enumerate"=none)(xi:Cl P w K mg base "beyond" k 2 nO):Cl P w K mg base "ways_on" (k+1) 3 (c2 (xf d) 7):=
 hY F z2 (SK F) m unop%lm
  (bz (dB (binop%gp (ax (cg (aZ 2) (ax (EX (ax aR))))) (aZ 1)) (bQ (ei (U2 (av (cG bb) bb)))) eH) (bz (U0 3 z2.aS (xG bb)) (bz (nS aoP (ER jy (unop%WE 0)) (ao7 (km (e2 4 z2.aS) (km (e2 5 z2.aS) ao8))) (bz (cX 6 z2.aS (d5 xi ay (av (a4 5) (av (cg (aZ 2) (ax (EX (ax aR)))) bb)))) (bQ (dB (nv (xF (UY (aZ 6)) (xt (fV (vr (by exact ay.units)) nQ (aZ 6) (aZ 2))))) (bQ (ans 3 (ax (qK (own:=["rest"]) (caps:=[(4,"number")]) (binop%co vq ["house","room","places","found","number","opening","there"]) (ko (d5 xd ay (av (a4 0) (av (a4 1) (av (fK (aZ 2) (ax (cG (av (a4 6) bb)))) bb))))) (unop%eO (e2 0 (unop%aS ["rest","number"]))) (unop%eO r4) (unop%eO (fK (ax (cG (av (a4 1) bb))) (aZ 0))))))) eH)))) (bQ (Ao 3)))))
theorem xd(F:cL K "ways_on" "ways_on" vq f fd)(m:mg "ways_on"=some (.ref f))(jy:mg "enumerate"=none)(xi:Cl P w K mg base "beyond" k 2 nO):∀n,Cl P w K mg base "ways_on" (k+n) 3 (nM n)
|0=>.mk' aj4 m F.aF (SK F)
|n+1=>ajh F m (xd F m jy xi  n) jy (xi.mono (iI _ _))
abbrev EM:Stmt:=top 25
def aln:cZ ["house","room"] ["house","room"] (bR EM):=unop%dJ 0
def vL(F:cL K "ways" "ways" EM f fd)(m:mg "ways"=some (.ref f))(fL:mg "tuple"=none)(xd:Cl P w K mg base "ways_on" k 3 (nM 20)){Ls:Tok}(uu:mg "OUTSIDE"=some (.int 0 Ls)):Cl P w K mg base "ways" (k+1) 2 hs:=
 hY F aln (unop%b7 F) m unop%lm
  (bQ (ei (qJ fL (jd (ax (d5 xd ay (av (a4 0) (av (a4 1) (av (cG (av (zd uu) bb)) bb))))) kn))))
abbrev xk:Stmt:=top 8
def MX:cZ ["plan","lines","used"] ["plan"] (bR xk):=unop%dJ 0
def EG(F:cL K "begun" "begun" xk f fd)(m:mg "begun"=some (.ref f))(fL:mg "tuple"=none):Cl P w K mg base "begun" (k+1) 1 tx:=
 hY F MX (unop%b6 F) m unop%lm
  (bz (cX 1 MX.aS (qJ fL (jd (ax (qK (own:=["zone"]) (caps:=[]) (binop%co xk ["plan","lines","used"]) (ko (unop%WE 0)) (unop%eO (e2 0 (unop%aS ["zone"]))) (unop%eO r4) (unop%eO bS))) kn))) (bz (cX 2 MX.aS (qJ fL (jd (ax (qK (own:=["code"]) (caps:=[]) (binop%co xk ["plan","lines","used"]) (ko (unop%WE 0)) (unop%eO (e2 0 (unop%aS ["code"]))) (unop%eO r4) (unop%eO aR))) kn))) (bQ (ei (cG (av bS (av aR (av j0 (av (a4 1) (av (cG bb) (av aR (av (cG bb) (av aR (av aR (av (a4 2) bb)))))))))))))))
abbrev D':Stmt:=top 42
def w8:cZ ["_law_plan_here","_law_number","_law_zone","_law_kind","_law_figures","_law_deed"] ["_law_plan_here","_law_number"] (bR D'):=unop%dJ 0
def MO(F:cL K "_law_event" "_law_event" D' f fd)(m:mg "_law_event"=some (.ref f))(mQ:mg "len"=none):Cl P w K mg base "_law_event" (k+1) 2 tm:=
 hY F w8 (unop%b7 F) m unop%lm
  (bz (cX 2 w8.aS (cg (ax (cg (ax (unop%WE 0)) (ax (e' (ax (g8 (aZ 1) (ax aR))) (ax (EY (by exact mQ) (jd (ax (unop%WE 0)) kn))))))) (ax aR))) (bz (cX 3 w8.aS (e' (aZ 1) (ax aR))) (bz (dB (fV (xK.or xa) xA (aZ 3) (ax aR)) (bQ (ei (cG (av bS (av (a4 2) (av (cg (ax (cG (unop%WX 0))) (unop%WP 0)) bb)))))) eH) (bz (dB (fV (xK.or xa) xA (aZ 3) (ax aR)) (bQ (ei (cG (av bS (av (fK (ax aR) (ax (e' (ax (g8 (aZ 1) (ax aR))) (ax (cg (ax (cG (av aR (av aR (av aR bb))))) (unop%WP 0)))))) bb))))) eH) (bz (cX 4 w8.aS (cg (ax (cg (ax (unop%WE 0)) (ax (e' (ax (g8 (aZ 1) (ax aR))) (ax (EY (by exact mQ) (jd (ax (unop%WE 0)) kn))))))) (ax aR))) (bz (dB (binop%gp (unop%WP 0) (ax aR)) (bQ (cX 4 w8.aS (cg (ax (cG (unop%WX 0))) (unop%WP 0)))) eH) (bz (cX 5 w8.aS (cg (ax (cG (av bS (av bS (unop%WX 0))))) (unop%WP 0))) (bz (dB (fV (xx (by exact ay.units)) nQ (aZ 5) (ax (cG (av bS (av bS bb))))) (bQ (ei (cG (av bS (av (a4 4) (av (a4 5) (av j0 bb))))))) eH) (bQ (ei (cG (av bS (av (a4 4) (av (a4 5) (av (a4 2) bb)))))))))))))))
abbrev Ah:Stmt:=top 43
def MW:cZ ["_law_plan_here","_law_number","_law_most","_law_row_here"] ["_law_plan_here","_law_number","_law_most"] (bR Ah):=unop%dJ 0
def Nw(F:cL K "_law_row" "_law_row" Ah f fd)(m:mg "_law_row"=some (.ref f))(fL:mg "tuple"=none)(MO:Cl P w K mg base "_law_event" k 2 tm)(mQ:mg "len"=none)(nR:mg "range"=none)(r1:Cl P w K mg base "_law_drawn" k 2 ig):Cl P w K mg base "_law_row" (k+1) 3 xq:=
 hY F MW (unop%dM F) m unop%lm
  (bz (cX 3 MW.aS (qJ fL (jd (ax (qK (own:=["_law_k"]) (caps:=[(0,"_law_plan_here"),(1,"_law_number")]) (binop%co Ah ["_law_plan_here","_law_number","_law_most","_law_row_here"]) (NP nR (ax (e' (aZ 1) (ax (fK (aZ 2) (ax aR)))))) (unop%eO (e2 0 (unop%aS ["_law_k","_law_plan_here","_law_number"]))) (unop%eO r4) (unop%eO (d5 (by exact MO) (by exact ay) (av (a4 1) (av (g8 (ax (d5 (by exact r1) (by exact ay) (av (a4 2) (av (fK (ax aR) (aZ 0)) bb)))) (ax aR)) bb)))))) kn))) (bz (dB (nv (xF (binop%gp (unop%WP 0) (ax aR)) (xt (fV (AE.or z6) Av (ax (EY (by exact mQ) (jd (aZ 3) kn))) (ax aR))))) (bQ (cX 3 MW.aS (fK (ax (Ul (aZ 3) Vd (Vc (ax (EX (ax aR)))))) (ax (anz (ax (cG (av (cG (av bS (av bS (av bS (av j0 bb))))) bb))) (ax aR)))))) eH) (bQ (Ao 3))))
abbrev pT:Stmt:=top 40
def tl:cZ ["_law_deed","_law_found","e","_law_kinds"] ["_law_deed"] (bR pT):=unop%dJ 0
def Ts{K:bc}{f:ak}{fd:eo}(F:cL K "_law_told" "_law_told" pT f fd):gh K fd ["_law_deed"] []:=F.binds (ps:=["_law_deed"]) λ_ _ _ _ _ _ us aG=>match us,aG with|[_],_=>rfl
def Ta{f:ak}(b1:aq)(A:cw)(outer:List Env)(s:aH)(H:aB):fY (unop%Wh 0).d_ (fv pT) (NW (unop%Wh 0).d_):=
 vy (amG (vB (tD tl.aS rfl (Or.inl rfl) (Aq (fu Ar (fu (alG (bE 0)) hJ)))))) (vB (vK (bE 1)))
def S'{f C kV xz hl ju l5:ak}{j:Nat}(iO:vV K mg kV xz hl ju l5)(R:ua K kV xz hl ju l5 C j)(b1:aq)(A:cw)(outer:List Env)(s:aH)(H:aB):fY (unop%Wh 0).d_ (fv pT) (EL (unop%Wh 0).d_ C j):=
 amj iO R (λdx E=>vB (tD tl.aS rfl (Or.inl rfl) (Aq (fu Ar (fu (akJ (bE 0)) hJ)))))
  (λea=>vy (tD tl.aS rfl (Or.inl rfl) (U8 (fu (As R.ok iO.pn (bE 2) (xm (by rfl) iO.nz (by rfl))) (fu (As R.ok iO.pn (bE 2) (xm (by rfl) iO.nw (by rfl))) (fu (As R.ok iO.pn (bE 2) (xm (by rfl) iO.aS (by rfl))) (fu (As R.ok iO.pn (bE 2) (xm (by rfl) iO.nt (by rfl))) hJ)))))) (vy (tD tl.aS rfl (Or.inl rfl) (Aq (fu Ar (fu (VE UW EN) hJ)))) (vB (NZ (U4 (U5 (As R.ok iO.pn (bE 2) (alH (by rfl) iO.val PyProof.Rows.Boot.«ValueError» (by rfl)))) (Uo (Up anH (xJ wY PySem.F.slot_list_count PySem.F.type_list_count akU (bE 3) (fu N0 hJ)) EN (EP _)))).pt (vB (tD tl.aS rfl (Or.inl rfl) (Aq (fu Ar (fu (xJ wY PySem.F.slot_list_index PySem.F.type_list_index ajP (bE 3) (fu N0 hJ)) hJ))))) Uq)))) (bE 1) tl.aS
abbrev D2:Stmt:=top 46
def R8:cZ ["_law_house_here","_law_number","_law_pace","_law_zone"] ["_law_house_here","_law_number","_law_pace"] (bR D2):=unop%dJ 0
def Mu(F:cL K "_law_events" "_law_events" D2 f fd)(m:mg "_law_events"=some (.ref f)) :Cl P w K mg base "_law_events" (k+1) 3 w_:=
 hY F R8 (unop%dM F) m unop%lm
  (bz (cX 3 R8.aS (cg (ax (cg (ax (unop%WE 0)) (aZ 1))) (ax aR))) (bz (dB (vN (aZ 3)) (bQ (ei (cG (av (cG (av bS (av aR bb))) (av (cG (av bS (av (a4 2) bb))) bb))))) eH) (bQ (ei (cG (av (cG (av bS (av (a4 3) (av bS bb)))) (av (cG (av bS (av aR bb))) (av (cG (av bS (av (a4 3) (av bS bb)))) (av (cG (av bS (av (a4 2) bb))) bb)))))))))
abbrev El:Stmt:=top 30
def SW:cZ ["opening","pace","zone"] ["opening","pace"] (bR El):=unop%dJ 0
def Af(F:cL K "passed" "passed" El f fd)(m:mg "passed"=some (.ref f)){Lv:Tok}(sF:mg "TICKS_TO_PASS"=some (.int 1 Lv)):Cl P w K mg base "passed" (k+1) 2 oJ:=
 hY F SW (unop%b7 F) m unop%lm
  (bz (cX 2 SW.aS (unop%WE 0)) (bz (dB (vN (aZ 2)) (bQ (ei (cG (av (cG (av bS (av (zd sF) bb))) (av (cG (av bS (av (a4 1) bb))) bb))))) eH) (bQ (ei (cG (av (cG (av bS (av (a4 2) (av bS bb)))) (av (cG (av bS (av (zd sF) bb))) (av (cG (av bS (av (a4 2) (av bS bb)))) (av (cG (av bS (av (a4 1) bb))) bb)))))))))
abbrev Ek:Stmt:=top 31
def MC:cZ ["house","way","pace","row","number"] ["house","way","pace"] (bR Ek):=unop%dJ 0
def M9(F:cL K "walked" "walked" Ek f fd)(m:mg "walked"=some (.ref f))(fL:mg "tuple"=none)(Af:Cl P w K mg base "passed" k 2 oJ):Cl P w K mg base "walked" (k+1) 3 vA:=
 hY F MC (unop%dM F) m unop%lm
  (bz (U0 3 MC.aS (xG bb)) (bz (nS aoP (ko (a4 1)) (e2 4 MC.aS) (bQ (amo 3 (ax (d5 Af ay (av (cg (ax (unop%WE 0)) (aZ 4)) (av (a4 2) bb))))))) (bQ (ei (qJ fL (jd (aZ 3) kn))))))
abbrev z0:Stmt:=top 32
def ahI:cZ ["told"] ["told"] (bR z0):=unop%dJ 0
def Mk(F:cL K "has_alarm" "has_alarm" z0 f fd)(m:mg "has_alarm"=some (.ref f)) :Cl P w K mg base "has_alarm" (k+1) 1 vn:=
 hY F ahI (unop%b6 F) m unop%lm
  (bQ (ei (tK (xx (by exact ay.units)) nQ (ax bS) (ax (qK (own:=["past","word","name"]) (caps:=[]) (binop%co z0 ["told"]) (ko (a4 0)) (unop%eO (ao7 (km (e2 0 (unop%aS ["past","word","name"])) (km (e2 1 (unop%aS ["past","word","name"])) (km (e2 2 (unop%aS ["past","word","name"])) ao8))))) (unop%eO r4) (unop%eO (a4 1)))))))
abbrev Ez:Stmt:=top 20
def akt:cZ ["plan","state","row"] ["plan","state","row"] (bR Ez):=unop%dJ 0
def Al(F:cL K "story" "story" Ez f fd)(m:mg "story"=some (.ref f))(a8:unop%gX 0)(fL:mg "tuple"=none)(z1:ao2 P w K mg base "course_of" k 3 tj):Cl P w K mg base "story" (k+1) 3 pU:=
 hY F akt (unop%dM F) m unop%lm
  (bQ (ei (qJ fL (jd (ax (ajD (j:=12) a8 (Vf z1 R_ ay (av (a4 0) (av (a4 1) (av (a4 2) bb)))))) kn))))
abbrev Em:Stmt:=top 33
def w':cZ ["plan","house","state","way","pace","here","place","number","row"] ["plan","house","state","way","pace"] (bR Em):=unop%dJ 0
def xh(F:cL K "caught" "caught" Em f fd)(m:mg "caught"=some (.ref f))(jy:mg "enumerate"=none)(Af:Cl P w K mg base "passed" k 2 oJ)(Mk:Cl P w K mg base "has_alarm" k 1 vn)(vF:Cl P w K mg base "after" k 3 nP)(Al:Cl P w K mg base "story" k 3 pU):Cl P w K mg base "caught" (k+1) 5 kk:=
 hY F w' (unop%q9 F) m unop%lm
  (bz (cX 5 w'.aS (a4 2)) (bz (nS aoP (al3 jy (a4 3)) (ao7 (km (e2 6 w'.aS) (km (e2 7 w'.aS) ao8))) (bz (cX 8 w'.aS (d5 Af ay (av (cg (ax (unop%WN 0)) (aZ 7)) (av (a4 4) bb)))) (bz (dB (NB (ax (d5 Mk ay (av (d5 Al ay (av (a4 0) (av (a4 5) (av (a4 8) bb)))) bb)))) (bQ (Ao 6)) eH) (bQ (cX 5 w'.aS (d5 vF ay (av (a4 0) (av (a4 5) (av (a4 8) bb))))))))) (bQ (ei j0))))
abbrev zW:Stmt:=top 27
def DG:cZ ["house","room","through"] ["house","room"] (bR zW):=unop%dJ 0
def DP(F:cL K "ways_at_all" "ways_at_all" zW f fd)(m:mg "ways_at_all"=some (.ref f))(vL:Cl P w K mg base "ways" k 2 hs):Cl P w K mg base "ways_at_all" (k+1) 2 rW:=
 hY F DG (unop%b7 F) m unop%lm
  (bz (cX 2 DG.aS (d5 vL ay (av (a4 0) (av (a4 1) bb)))) (bz (dB (Vv (NA (aZ 2))) (bQ Uh) eH) (bQ (Ao 2))))
def DF{k:Nat}{f:ak}{fd:eo}(F:cL K "ways_at_all" "ways_at_all" zW f fd)(m:mg "ways_at_all"=some (.ref f)){kV xz hl ju l5:ak}(iO:vV K mg kV xz hl ju l5)(q2:ua K kV xz hl ju l5 hl 1)(vL:Cl P w K mg base "ways" k 2 hs) :p1 P w K mg base "ways_at_all" hl (k+1) 2 aoX:=
 Vm F DG (unop%b7 F) m unop%lm
  (ag8 (cX 2 DG.aS (d5 vL ay (av (a4 0) (av (a4 1) bb)))) (Mn (ag7 (Vv (NA (aZ 2))) (Mn (alg iO.nw q2.new (amz (aZ 1)) ay.hd)) ag9)))
abbrev D1:Stmt:=top 34
def aia:cZ ["place"] ["place"] (bR D1):=unop%dJ 0
def D6(F:cL K "lateness" "lateness" D1 f fd)(m:mg "lateness"=some (.ref f)) :Cl P w K mg base "lateness" (k+1) 1 w9:=
 hY F aia (unop%b6 F) m unop%lm
  (bQ (ei (VC (vN (aZ 0)) (cG (av aR (av aR bb))) (cG (av aR (av (a4 0) bb))))))
abbrev qH:Stmt:=top 35
def SV:cZ ["plan","house","state","room","pace"] ["plan","house","state","room","pace"] (bR qH):=unop%dJ 0
def Tr{K:bc}{f:ak}{fd:eo}(F:cL K "safest" "safest" qH f fd):gh K fd ["plan","house","state","room","pace"] []:=F.binds (ps:=["plan","house","state","room","pace"]) λ_ _ _ _ _ _ us aG=>match us,aG with|[_,_,_,_,_],_=>rfl
def Et{k:Nat}{f m6 jB:ak}{g0:aq}{eh an:Option ak}{ka:Array (Option aq)}{dI doc pm cQ:aq}(l:K.lookup f=some ⟨g0,eh,.func (lx "safest" "safest" (mK qH) (fv qH) (bR qH) .none dI doc pm an (.ref m6) cQ),ka⟩)(eg:qA K (.ref m6) "safest"=true)(aF:nx K (.ref f)=true)(m:mg "safest"=some (.ref f))(sJ:rT K m6 jB=true)(iv:nV mg base)(oe:(jB,(("safest":Str)++".<locals>.")++"<lambda>")∈cB.dg)(rq:∀p∈cB.dg,p.1=jB->p.2=(("safest":Str)++".<locals>.")++"<lambda>")(lJ:mg "max"=none)(DP:Cl P w K mg base "ways_at_all" k 2 rW)(D6:Cl P w K mg base "lateness" k 1 w9)(xh:Cl P w K mg base "caught" k 5 kk):Cl P w K mg base "safest" (k+3) 5 r2:=
 anb l eg SV (λ_ F=>Tr F) m aF λA outer s H E ay=>
  (bQ (ei (amx (y:="way") (d5 DP (ay.mono (iI _ 2)) (av (a4 1) (av (a4 3) bb))) lJ rfl sJ iv oe rq ay (λq dj cl AK eE s2 bB qi=>by exact (d5 D6 qi (av (d5 xh qi (av (a4 1) (av (a4 2) (av (a4 3) (av (a4 0) (av (a4 5) bb)))))) bb))))))
def D7{k:Nat}{f:ak}{fd:eo}(F:cL K "safest" "safest" qH f fd)(m:mg "safest"=some (.ref f)){kV xz hl ju l5:ak}(iO:vV K mg kV xz hl ju l5)(q2:ua K kV xz hl ju l5 hl 1)(lJ:mg "max"=none)(DP:Cl P w K mg base "ways_at_all" k 2 rW)(D6:Cl P w K mg base "lateness" k 1 w9)(xh:Cl P w K mg base "caught" k 5 kk)(DF:p1 P w K mg base "ways_at_all" hl k 2 aoX):p1 P w K mg base "safest" hl (k+1) 5 tn:=
 Vm F SV (Tr F) m unop%lm
  (Mn (anc (amg lJ (Ny DF ay (nZ (a4 1) (nZ (a4 3) NV))))))
abbrev lH:Stmt:=top 47
def gN:cZ ["_law_script","_law_plan_here","_law_house_here","_law_state","_law_number","_law_codes","_law_quiet","_law_room","_law_pace","_law_best","_law_every","_law_way","_law_row_here","_law_place","_law_here","_law_at","_law_one","_law_some","_law_happened","_law_rank","_law_due"] ["_law_script"] (bR lH):=unop%dJ 0
def anQ{k:Nat}{f m6 jB:ak}{g0:aq}{eh an:Option ak}{ka:Array (Option aq)}{dI doc pm cQ:aq}(l:K.lookup f=some ⟨g0,eh,.func (lx "law" "law" (mK lH) (fv lH) (bR lH) .none dI doc pm an (.ref m6) cQ),ka⟩)(eg:qA K (.ref m6) "law"=true)(sJ:rT K m6 jB=true)(iv:nV mg base)(oe:(jB,(("law":Str)++".<locals>.")++"<lambda>")∈cB.dg)(rq:∀p∈cB.dg,p.1=jB->p.2=(("law":Str)++".<locals>.")++"<lambda>"){kV xz hl ju l5:ak}(iO:vV K mg kV xz hl ju l5)(q2:ua K kV xz hl ju l5 hl 1)(D7:p1 P w K mg base "safest" hl k 5 tn)(DF:p1 P w K mg base "ways_at_all" hl k 2 aoX)(M_:Cl P w K mg base "_law_plan" k 1 Ae)(Mc:Cl P w K mg base "_law_house_of" k 2 w6)(vF:Cl P w K mg base "after" k 3 nP)(xe:Cl P w K mg base "_law_mixed" k 2 kj)(vL:Cl P w K mg base "ways" k 2 hs)(EG:Cl P w K mg base "begun" k 1 tx)(Nw:Cl P w K mg base "_law_row" k 3 xq)(fL:mg "tuple"=none)(jy:mg "enumerate"=none){PL:ak}{Z':eo}(AQ:cL K "_law_told" "_law_told" pT PL Z')(QB:mg "_law_told"=some (.ref PL))(Mu:Cl P w K mg base "_law_events" k 3 w_)(M9:Cl P w K mg base "walked" k 3 vA)(xh:Cl P w K mg base "caught" k 5 kk)(Et:Cl P w K mg base "safest" k 5 r2)(Al:Cl P w K mg base "story" k 3 pU):e5 P w K mg base dH (k+3) f (lx "law" "law" (mK lH) (fv lH) (bR lH) .none dI doc pm an (.ref m6) cQ) ["_law_script"] (spT K 1 vR):=
 UD l eg gN λA outer s H E ay=>
  (bz (cX 1 gN.aS (d5 M_ (ay.mono (iI _ 2)) (av (d5 xe (ay.mono (iI _ 2)) (av (a4 0) (av aR bb))) bb))) (bz (cX 2 gN.aS (d5 Mc (ay.mono (iI _ 2)) (av (a4 1) (av (d5 xe (ay.mono (iI _ 2)) (av (a4 0) (av aR bb))) bb)))) (bz (cX 3 gN.aS (d5 vF (ay.mono (iI _ 2)) (av (a4 1) (av (d5 EG (ay.mono (iI _ 2)) (av (a4 1) bb)) (av (d5 Nw (ay.mono (iI _ 2)) (av (a4 1) (av (d5 xe (ay.mono (iI _ 2)) (av (a4 0) (av aR bb))) (av aR bb)))) bb))))) (bz (cX 4 gN.aS (d5 xe (ay.mono (iI _ 2)) (av (a4 0) (av aR bb)))) (bz (dB (fV (AE.or z6) Av (ax (e' (aZ 4) (ax aR))) (ax aR)) (bz (cX 5 gN.aS (qJ fL (jd (ax (Ul (ax (qK (own:=["_law_code"]) (caps:=[]) (binop%co lH ["_law_script","_law_plan_here","_law_house_here","_law_state","_law_number","_law_codes","_law_quiet","_law_room","_law_pace","_law_best","_law_every","_law_way","_law_row_here","_law_place","_law_here","_law_at","_law_one","_law_some","_law_happened","_law_rank","_law_due"]) (ko (unop%WN 0)) (unop%eO (e2 0 (unop%aS ["_law_code"]))) (unop%eO (EK (fV (xK.or xa) xA (ax (unop%WE 0)) (ax bS)))) (unop%eO (a4 0)))) Vd (Vc (ax aR)))) kn))) (bz (cX 6 gN.aS (cG (av (unop%WN 0) (av (fK (aZ 5) (ax (cG (av (cG (av bS (av bS (av (cG (av bS bb)) (av aR bb))))) bb)))) (av (unop%WN 0) bb))))) (bz (cX 3 gN.aS (d5 vF (ay.mono (iI _ 2)) (av (a4 6) (av (d5 EG (ay.mono (iI _ 2)) (av (a4 6) bb)) (av (cG (av (cG (av bS (av bS (av bS (av j0 bb))))) (av (cG (av bS (av aR bb))) bb))) bb))))) (bQ (cX 1 gN.aS (a4 6)))))) eH) (bz (cX 7 gN.aS (fK (ax aR) (ax (e' (ax (g8 (aZ 4) (ax aR))) (ax (cg (aZ 2) (ax aR))))))) (bz (cX 8 gN.aS (fK (ax aR) (ax (e' (ax (g8 (aZ 4) (ax aR))) (ax (cg (ax (cG (av aR (av aR bb)))) (unop%WA 0))))))) (bz (cX 9 gN.aS j0) (bz (cX 10 gN.aS (d5 vL (ay.mono (iI _ 2)) (av (a4 2) (av (a4 7) bb)))) (bz (nS aoP (ko (a4 10)) (e2 11 gN.aS) (bz (cX 12 gN.aS (cG bb)) (bz (cX 13 gN.aS j0) (bz (cX 14 gN.aS (a4 3)) (bz (nS aoP (ER jy (a4 11)) (ao7 (km (e2 15 gN.aS) (km (e2 16 gN.aS) ao8))) (bz (cX 17 gN.aS (d5 Mu (ay.mono (iI _ 2)) (av (a4 2) (av (a4 16) (av (a4 8) bb))))) (bz (cX 12 gN.aS (fK (aZ 12) (aZ 17))) (bz (NG 18 gN.aS (own:=["_law_told_here"]) (caps:=[]) (binop%co lH ["_law_script","_law_plan_here","_law_house_here","_law_state","_law_number","_law_codes","_law_quiet","_law_room","_law_pace","_law_best","_law_every","_law_way","_law_row_here","_law_place","_law_here","_law_at","_law_one","_law_some","_law_happened","_law_rank","_law_due"]) (ko (d5 Al (ay.mono (iI _ 2)) (av (a4 1) (av (a4 14) (av (a4 17) bb))))) (unop%eO (e2 0 (unop%aS ["_law_told_here"]))) (unop%eO r4) (unop%eO (unop%WE 0))) (bz (dB (nv (xF (vN (aZ 13)) (xt (fV (xx (by exact ay.units)) nQ (ax bS) (aZ 18))))) (bQ (cX 13 gN.aS (fK (aZ 15) (ax aR)))) eH) (bQ (cX 14 gN.aS (d5 vF (ay.mono (iI _ 2)) (av (a4 1) (av (a4 14) (av (a4 17) bb))))))))))) (bz (dB (nv (w_or (fV (xw (by exact ay.units)) xy (ax (d5 M9 (ay.mono (iI _ 2)) (av (a4 2) (av (a4 11) (av (a4 8) bb))))) (aZ 12)) (vM (fV (xw (by exact ay.units)) xy (ax (d5 xh (ay.mono (iI _ 2)) (av (a4 1) (av (a4 2) (av (a4 3) (av (a4 11) (av (a4 8) bb))))))) (aZ 13))))) (bQ (ei K6)) eH) (bz (cX 19 gN.aS (cG (av (EX (ax aR)) (av (a4 11) bb)))) (bz (dB (UY (aZ 13)) (bQ (cX 19 gN.aS (cG (av (NY (ax aR) (aZ 13)) (av (a4 11) bb))))) eH) (bQ (dB (nv (w_or (vN (aZ 9)) (vM (fV (amS (by exact ay.units)) alP (aZ 19) (aZ 9))))) (bQ (cX 9 gN.aS (a4 19))) eH)))))))))) (bz (dB (binop%gp (aZ 10) (ax (cG bb))) (bQ (Ug (Vt (Au (by exact ay.units)) Aw (Uc AQ tl (Ts AQ) QB (λb1 A outer s H=>Ta b1 A outer s H) (λb1 A outer s H=>S' iO q2 b1 A outer s H) rfl sJ iv oe rq ay (λq dj cl AK eE s2 bB qi=>by exact (EI (d5 Et qi (av (a4 1) (av (a4 2) (av (a4 3) (av (a4 7) (av (a4 8) bb)))))))) (λq dj cl AK eE s2 bB Wm qi=>by exact (Ny D7 qi (nZ (a4 1) (nZ (a4 2) (nZ (a4 3) (nZ (a4 7) (nZ (a4 8) NV)))))))) (EI (cG (av bS (av aR bb))))))) eH) (bz (cX 20 gN.aS (cG (av bS (av (cg (aZ 9) (ax aR)) bb)))) (bQ (Ug (Vt (Au (by exact ay.units)) Aw (Uc AQ tl (Ts AQ) QB (λb1 A outer s H=>Ta b1 A outer s H) (λb1 A outer s H=>S' iO q2 b1 A outer s H) rfl sJ iv oe rq ay (λq dj cl AK eE s2 bB qi=>by exact (EI (d5 Et qi (av (a4 1) (av (a4 2) (av (a4 3) (av (a4 7) (av (a4 8) bb)))))))) (λq dj cl AK eE s2 bB Wm qi=>by exact (Ny D7 qi (nZ (a4 1) (nZ (a4 2) (nZ (a4 3) (nZ (a4 7) (nZ (a4 8) NV)))))))) (EI (a4 20)))))))))))))))))
end
end qZ
end
section
namespace D
open PySem
def TR(ns:List Int):jV (ns.map .int)=true/\ja (ns.map .int)<=1:=by
 induction ns with
|nil=>simp[jV,ja]
|cons n ns bT=>simp[jV,PyData.canLay0,ja,nC,bT]
def akO(ss:List Str)(h:∀x∈ss,(mF x).canLay0=true):jV (ss.map .str)=true/\ja (ss.map .str)<=1:=by
 induction ss with
|nil=>simp[jV,ja]
|cons n ns bT=>
  have ah:=h n (by simp);have ar:=bT λx hx=>h x (by simp[hx]);simp[jV,ja,nC,ah,ar]
theorem Sj:∀(ns ms:List Int),PyData.eqvAll (ns.map .int) (ms.map .int)=decide (ns=ms)
| [],[]=>by simp[PyData.eqvAll]
| [],_::_=>by simp[PyData.eqvAll]
|_::_,[]=>by simp[PyData.eqvAll]
|n::ns,m::ms=>by simp[PyData.eqvAll,gf,Sj ns ms,Bool.beq_eq_decide_eq]
def ak9(ns ms:List Int):gf (.tuple (ns.map .int)) (.tuple (ms.map .int))=decide (ns=ms):=by rw[gf,Sj]
theorem TZ(n:Int):∀ns:List Int,lW (.int n) (ns.map .int)=decide (n∈ns)
| []=>by simp[lW]
|m::ns=>by
  have bT:=TZ n ns;unfold lW at bT ⊢;rw[de,List.any_cons,bT];simp[gf,Bool.beq_eq_decide_eq,eq_comm]
theorem M4(n:Str):∀ns:List Str,lW (.str n) (ns.map .str)=decide (n∈ns)
| []=>by simp[lW]
|m::ns=>by
  have bT:=M4 n ns;unfold lW at bT ⊢;rw[de,List.any_cons,bT];simp[gf,Bool.beq_eq_decide_eq,eq_comm]
def vC(n:Int):ez (.int n)=true:=by simp[ez,PyData.canLay0,nC]
def xn{x:Str}(h:(mF x).canLay0=true):ez (.str x)=true:=by simp[ez,nC,h]
def ajH(ns:List Int):qp (ns.map .int)=true:=by
 have:=TR ns;simp[qp,this.1];omega
def MF(ss:List Str)(h:∀x∈ss,(mF x).canLay0=true):qp (ss.map .str)=true:=by
 have:=akO ss h;simp[qp,this.1];omega
def Uu(neg:Bool)(n:Int)(ns:List Int):eS neg (.int n) (.tuple (ns.map .int))=some (.bool (if neg then !decide (n∈ns) else decide (n∈ns))):=by
 simp only[eS,vC,ajH,TZ,Bool.and_self,if_true]
def alU(neg:Bool)(n:Str)(ns:List Str)(h0:(mF n).canLay0=true)(h:∀x∈ns,(mF x).canLay0=true):eS neg (.str n) (.tuple (ns.map .str))=some (.bool (if neg then !decide (n∈ns) else decide (n∈ns))):=by
 simp only[eS,xn h0,MF ns h,M4,Bool.and_self,if_true]
end D
end
section
namespace a7
open D
noncomputable def xj:bJ:=
  (seq (iff (bt (aj oEq (unop%W9 0) (nm 1))) (b9 (unop%W7 0)) skip) (seq (iff (bt (aj oEq (unop%W7 0) (nm 1))) (b9 (unop%W9 0)) skip) (b9 (ae .none))))
noncomputable def nO:List T->Option T:=c2 xj 2
noncomputable def xf(rec:List T->Option T):bJ:=
  (seq (iff (bt (aj oEq (unop%Wv 0) (nm 1))) (b9 (fa [(a0 [])])) skip) (seq (hr 3 (fa [])) (seq (d1 (iJ (gO (unop%W7 0))) (dv [(bw 4),(bw 5)]) (seq (asg 6 (aX nO [(au 5),(unop%Wv 0)])) (iff (e0 (bt (cU fW (nm 6))) (bt (aj (eS true) (nm 6) (nm 2)))) (ext 3 (comp 1 [4] (dy (unop%WM 0)) (bw 0) (d7 true) (aj bV (a0 [(au 1)]) (nm 0)))) skip))) (b9 (nm 3)))))
noncomputable def nM:Nat->List T->Option T
|0=>λ_=>none
|n+1=>c2 (xf (nM n)) 7
noncomputable def AB:bJ:=
  (b9 (aX gA [(aX (nM 20) [(au 0),(au 1),(a0 [(ae (.int 0))])])]))
noncomputable def hs:List T->Option T:=c2 AB 2
noncomputable def vo:bJ:=
  (seq (iff (bt (aj oLt (nm 1) (aX iA [(nm 0)]))) (b9 (aj aT (nm 0) (nm 1))) skip) (b9 (ae (.int 0))))
noncomputable def nK:List T->Option T:=c2 vo 2
noncomputable def vv:bJ:=
  (seq (asg 2 (unop%W8 0)) (b9 (aj oMod (aj bV (aj bV (aj dU (nm 2) (nm 2)) (aj dU (ae (.int 7)) (nm 2))) (nm 1)) (ae (.int 2147483629)))))
noncomputable def kj:List T->Option T:=c2 vv 3
noncomputable def vw:bJ:=
  (seq (asg 2 (unop%Wa 0)) (b9 (aj oMod (aj bV (aj bV (aj dU (nm 2) (nm 2)) (aj dU (ae (.int 3)) (nm 2))) (nm 1)) (ae (.int 2147483629)))))
noncomputable def ig:List T->Option T:=c2 vw 3
noncomputable def z_:bJ:=
  (seq (asg 1 (aj bV (ae (.int 1)) (aj oMod (nm 0) (ae (.int 7))))) (seq (asg 2 (a0 [])) (seq (d1 (jX (unop%WJ 0)) (bw 3) (seq (asg 4 (unop%WI 0)) (seq (asg 5 (aj oMod (nm 4) (aj bV (nm 1) (ae (.int 1))))) (seq (asg 6 (unop%Wc 0)) (seq (asg 7 (unop%W2 0)) (asg 2 (unop%Wq 0))))))) (b9 (a0 [(au 1),(au 2)])))))
noncomputable def sC:List T->Option T:=c2 z_ 8
end a7
end
section
namespace eA
noncomputable def jD(e:Int×Int)(x:Int):Option Int:=if e.1=x then some e.2 else if e.2=x then some e.1 else none
noncomputable def pY(E:List (Int×Int))(x y:Int):Prop:=∃e∈E,jD e x=some y
inductive Reach(E:List (Int×Int)):Int->Prop
|zero:Reach E 0
|step {x y:Int}:Reach E x->pY E x y->Reach E y
noncomputable def Within(R:Int)(E:List (Int×Int)):Prop:=∀e∈E,0<=e.1/\e.1<=R/\0<=e.2/\e.2<=R
def SO{R:Int}{E:List (Int×Int)}(h:Within R E){x y:Int}(a:pY E x y):0<=y/\y<=R:=by
 obtain⟨e,he,aC⟩:=a;obtain⟨ah,ar,br,cF⟩:=h e he;unfold jD at aC;split at aC
 ·cases aC;exact⟨br,cF⟩
 ·split at aC
  ·cases aC;exact⟨ah,ar⟩
  ·cases aC
theorem Eh:∀(n:Nat) (l:List Int),l.Nodup->(∀x∈l,0<=x/\x<n)->l.length<=n
|0,l,_,af=>by
  cases l with
  |nil=>simp
  |cons x r=>have:=af x (by simp);omega
|n+1,l,aS,af=>by
  have ah:=Eh n (l.filter λx=>decide (x≠(n:Int))) (aS.filter _) (λx hx=>by
   have:=List.mem_filter.mp hx;have kD:=af x this.1;have:x≠(n:Int):=by simpa using this.2
   omega)
  have ar:l.length<=(l.filter λx=>decide (x≠(n:Int))).length+1:=by
   clear ah af
   induction l with
   |nil=>simp
   |cons y r bT=>
    have iy:=eW.mp aS;by_cases e:y=(n:Int)
    ·subst e;have:r.filter (λx=>decide (x≠(n:Int)))=r:=List.filter_eq_self.mpr λx hx=>by
      have:x≠(n:Int):=λz=>iy.1 (z▸hx);simpa using this
     rw[List.filter_cons_of_neg (by simp),this];simp
    ·rw[List.filter_cons_of_pos (by simpa using e)];have:=bT iy.2;simp only[eX];omega
  omega
noncomputable def inner(h:Int):List (Int×Int)->List Int->List Int->List Int×List Int
| [],r,w=>(r,w)
|e::es,r,w=>match jD e h with
  |some t=>if t∈r then inner h es r w else inner h es (r++[t]) (w++[t])
  |none=>inner h es r w
noncomputable def exts(rec:List Int->Option (List (List Nat)))(pl:List Int)(h:Int):Nat->List (Int×Int)->Option (List (List Nat))
|_,[]=>some []
|k,e::es=>match jD e h with
  |some t=>if t∈pl then exts rec pl h (k+1) es else (rec (pl++[t])).bind λws=>(exts rec pl h (k+1) es).map λvs=>ws.map (λw=>k::w)++vs
  |none=>exts rec pl h (k+1) es
noncomputable def ia(E:List (Int×Int))(room:Int):Nat->List Int->Option (List (List Nat))
|0,_=>none
|n+1,pl=>match pl.getLast? with
  |none=>none
  |some h=>if h=room then some [[]] else exts (ia E room n) pl h 0 E
theorem M7{rec:List Int->Option (List (List Nat))}{pl:List Int}{h:Int}{B:Nat}(Fb:List (Int×Int))(ay:∀t,pY Fb h t->t∉pl->∃ws,rec (pl++[t])=some ws/\ws.length<=B):
  ∀(k:Nat) (E:List (Int×Int)),(∀e∈E,e∈Fb)->∃ws,exts rec pl h k E=some ws/\ws.length<=E.length*B
|k,[],_=>⟨[],rfl,by simp⟩
|k,e::es,aA=>by
  obtain⟨vs,ah,ar⟩:=M7 Fb ay (k+1) es λe he=>aA e (dK _ he);have br:es.length*B<=(e::es).length*B:=Nat.mul_le_mul_right _ (by simp);unfold exts;split
  next t bp=>
   split
   next=>exact⟨vs,ah,by omega⟩
   next hm=>
    obtain⟨ws,cF,gq⟩:=ay t ⟨e,aA e fQ,bp⟩ hm;refine⟨_,by rw[cF,ah];rfl,?_⟩;simp only[l8,fh,eX,Nat.succ_mul];omega
  next=>exact⟨vs,ah,by omega⟩
theorem Rv{R:Int}{E:List (Int×Int)}(jl:Within R E)(k7:R<=7)(aG:E.length<=10)(room:Int):
  ∀(n:Nat) (pl:List Int),pl≠[]->pl.Nodup->(∀x∈pl,0<=x/\x<=R)->9<=n+pl.length->∃ws,ia E room n pl=some ws/\ws.length<=10 ^ (8 - pl.length)
|0,pl,dY,aS,af,bg=>by
  have:=Eh 8 pl aS λy a6=>by have:=af y a6;omega
  omega
|n+1,pl,dY,aS,af,bg=>by
  unfold ia;rw[List.getLast?_eq_getLast dY];simp only;split
  next=>exact⟨_,rfl,by simpa using Nat.one_le_pow _ 10 (by decide)⟩
  next=>
   have Cs:=Eh 8 pl aS λy a6=>by have:=af y a6;omega
   by_cases full:pl.length=8
   ·
    have ab9:∀t,pY E (pl.getLast dY) t->t∉pl->False:=λt a hm=>by
     have hw:=SO jl a;have iy:(pl++[t]).Nodup:=by
      rw[nB];refine⟨aS,by simp,λx hx y a6=>?_⟩;have:y=t:=by simpa using a6
      subst this;exact λz=>hm (z▸hx)
     have:=Eh 8 (pl++[t]) iy λy a6=>by
      rcases hS.mp a6 with a6|a6
      ·have:=af y a6;omega
      ·have:y=t:=by simpa using a6
       subst this;omega
     simp at this;omega
    obtain⟨ws,ah,ar⟩:=M7 (B:=0) (pl:=pl) (h:=pl.getLast dY) (rec:=ia E room n) E (λt a hm=>(ab9 t a hm).elim) 0 E λ_ h=>h;exact⟨ws,ah,by have:ws.length=0:=(by omega);rw[this];exact oE _⟩
   ·obtain⟨ws,ah,ar⟩:=M7 (B:=10 ^ (8 - (pl.length+1))) (pl:=pl) (h:=pl.getLast dY) (rec:=ia E room n) E (λt a hm=>by
     have hw:=SO jl a;have:=Rv jl k7 aG room n (pl++[t]) (by simp) (by
      rw[nB];refine⟨aS,by simp,λx hx y a6=>?_⟩;have:y=t:=by simpa using a6
      subst this;exact λz=>hm (z▸hx)) (λy a6=>by
      rcases hS.mp a6 with a6|a6
      ·exact af y a6
      ·have:y=t:=by simpa using a6
       subst this;exact hw) (by simp;omega)
     simpa using this) 0 E λ_ h=>h
    refine⟨ws,ah,?_⟩
    have e:8 - pl.length=(8 - (pl.length+1))+1:=by omega
    rw[e,Nat.pow_succ];have:=Nat.mul_le_mul_right (10 ^ (8 - (pl.length+1))) aG;omega
inductive Walk(E:List (Int×Int)):Int->List Int->Int->Prop
|nil (x:Int):Walk E x [] x
|cons {x y z:Int} {p:List Int}:pY E x y->Walk E y p z->Walk E x (y::p) z
theorem z7{rec:List Int->Option (List (List Nat))}{pl:List Int}{h:Int}:∀{k:Nat} {E:List (Int×Int)} {ws:List (List Nat)},exts rec pl h k E=some ws->∀t,pY E h t->t∉pl->∃vs,rec (pl++[t])=some vs/\(vs≠[]->ws≠[])
|k,[],ws,e,t,⟨bD,lX,_⟩,_=>by simp at lX
|k,e::es,ws,ah,t,⟨bD,lX,aC⟩,hm=>by
  unfold exts at ah;split at ah
  next t' BV=>
   split at ah
   next P9=>
    rcases cM.mp lX with rfl|lX
    ·rw[BV] at aC;cases aC;exact absurd P9 hm
    ·exact z7 ah t ⟨bD,lX,aC⟩ hm
   next P9=>
    simp only[cm,dO] at ah;obtain⟨us,ar,vs,br,rfl⟩:=ah;rcases cM.mp lX with rfl|lX
    ·rw[BV] at aC;cases aC;exact⟨us,ar,λq z=>q (by have:=(List.append_eq_nil_iff.mp z).1;simpa using this)⟩
    ·obtain⟨xs,aQ,bu⟩:=z7 br t ⟨bD,lX,aC⟩ hm;exact⟨xs,aQ,λq z=>bu q (List.append_eq_nil_iff.mp z).2⟩
  next bg=>
   rcases cM.mp lX with rfl|lX
   ·rw[bg] at aC;cases aC
   ·exact z7 ah t ⟨bD,lX,aC⟩ hm
theorem EF{rec:List Int->Option (List (List Nat))}{pl:List Int}{h:Int}:∀{k:Nat} {E:List (Int×Int)} {ws:List (List Nat)},exts rec pl h k E=some ws->ws≠[]->∃t vs,pY E h t/\t∉pl/\rec (pl++[t])=some vs/\vs≠[]
|k,[],ws,e,bg=>by
  cases e
  exact absurd rfl bg
|k,e::es,ws,ah,dY=>by
  have up:∀{y:Int},pY es h y->pY (e::es) h y:=λ⟨bD,ah,ar⟩=>⟨bD,dK _ ah,ar⟩;unfold exts at ah;split at ah
  next t bp=>
   split at ah
   next=>
    obtain⟨t',vs,a,b,c,d⟩:=EF ah dY;exact⟨t',vs,up a,b,c,d⟩
   next hm=>
    simp only[cm,dO] at ah;obtain⟨us,ar,vs,br,rfl⟩:=ah;by_cases b8:us=[]
    ·subst b8;obtain⟨t',fs,a,b,c,d⟩:=EF br (by simpa using dY);exact⟨t',fs,up a,b,c,d⟩
    ·exact⟨t,us,⟨e,fQ,bp⟩,hm,ar,b8⟩
  next=>
   obtain⟨t',vs,a,b,c,d⟩:=EF ah dY;exact⟨t',vs,up a,b,c,d⟩
theorem R3{E:List (Int×Int)}{room:Int}:∀{p:List Int} {n:Nat} {pl:List Int} {cur:Int} {ws:List (List Nat)},Walk E cur p room->(cur::p).Nodup->(∀y∈p,y∉pl)->pl.getLast?=some cur->ia E room n pl=some ws->ws≠[]
|p,0,pl,cur,ws,_,_,_,_,h=>by cases h
| [],n+1,pl,cur,ws,hw,_,_,aG,h=>by
  cases hw
  unfold ia at h;rw[aG] at h;simp only[if_true] at h;cases h;simp
|y::p,n+1,pl,cur,ws,hw,aS,aL,aG,h=>by
  cases hw with
  |cons a w=>
   unfold ia at h;rw[aG] at h;simp only at h;split at h
   next=>cases h;simp
   next=>
    obtain⟨vs,ah,ar⟩:=z7 h y a (aL y (by simp));have iy:=(eW.mp aS).2;refine ar (R3 w iy (λz hz hm=>?_) (by simp) ah);rcases hS.mp hm with hm|hm
    ·exact aL z (dK _ hz) hm
    ·have:z=y:=by simpa using hm
     subst this;exact (eW.mp iy).1 hz
theorem R4{E:List (Int×Int)}{room:Int}:∀{n:Nat} {pl:List Int} {cur:Int} {ws:List (List Nat)},pl.getLast?=some cur->ia E room n pl=some ws->ws≠[]->∃p,Walk E cur p room
|0,pl,cur,ws,_,h,_=>by cases h
|n+1,pl,cur,ws,aG,h,dY=>by
  unfold ia at h;rw[aG] at h;simp only at h;split at h
  next e=>
   subst e;exact⟨[],.nil _⟩
  next=>
   obtain⟨t,vs,a,b,c,d⟩:=EF h dY;obtain⟨p,w⟩:=R4 (pl:=pl++[t]) (cur:=t) (by simp) c d;exact⟨t::p,.cons a w⟩
def ajp{E:List (Int×Int)}{x y z:Int}{p:List Int}(w:Walk E x p y)(a:pY E y z):Walk E x (p++[z]) z:=by
 induction w with
|nil x=>exact .cons a (.nil z)
|cons b _ bT=>exact .cons b (bT a)
def aiC{E:List (Int×Int)}{x y:Int}{p:List Int}(w:Walk E x p y)(r:Reach E x):Reach E y:=by
 induction w with
|nil x=>exact r
|cons a _ bT=>exact bT (.step r a)
def akn{E:List (Int×Int)}{x z y:Int}{p:List Int}(w:Walk E x p z)(aS:(x::p).Nodup)(a6:y∈x::p):∃q,Walk E x q y/\(x::q).Nodup:=by
 induction w with
|nil x=>
  have:y=x:=by simpa using a6
  subst this;exact⟨[],.nil _,by simp⟩
| @cons x u z p a w bT=>
  by_cases e:y=x
  ·subst e;exact⟨[],.nil _,by simp⟩
  ·have iy:=eW.mp aS;have sub:∀{q:List Int},Walk E u q y->True:=λ_=>trivial;obtain⟨q,dh,KH,aA⟩:∃q,Walk E u q y/\(u::q).Nodup/\∀t∈u::q,t∈u::p:=by
    have BX:y∈u::p:=by
     rcases cM.mp a6 with h|h
     ·exact absurd h e
     ·exact h
    clear bT sub a aS a6 e;have ab5:=iy.2;clear iy
    induction w with
    |nil u=>
     have:y=u:=by simpa using BX
     subst this;exact⟨[],.nil _,by simp,by simp⟩
    | @cons u v z p b w bT=>
     by_cases e:y=u
     ·subst e;exact⟨[],.nil _,by simp,by simp⟩
     ·have rx:=eW.mp ab5;obtain⟨q,dh,KH,aA⟩:=bT (by
       rcases cM.mp BX with h|h
       ·exact absurd h e
       ·exact h) rx.2
      refine⟨v::q,.cons b dh,eW.mpr ⟨λh=>rx.1 (aA u h),KH⟩,λt bp=>?_⟩
      rcases cM.mp bp with rfl|bp
      ·simp
      ·exact dK _ (aA t bp)
   exact⟨u::q,.cons a dh,eW.mpr ⟨λh=>iy.1 (aA x h),KH⟩⟩
def aiL{E:List (Int×Int)}{x:Int}(r:Reach E x):∃p,Walk E 0 p x/\((0:Int)::p).Nodup:=by
 induction r with
|zero=>exact⟨[],.nil _,by simp⟩
| @step x y _ a bT=>
  obtain⟨p,w,aS⟩:=bT;by_cases h:y∈(0:Int)::p
  ·exact akn w aS h
  ·refine⟨p++[y],ajp w a,?_⟩
   rw[<- pL,nB];refine⟨aS,by simp,λs aA t bp=>?_⟩;have:t=y:=by simpa using bp
   subst this;exact λe=>h (e▸aA)
def agN{E:List (Int×Int)}{room:Int}{n:Nat}{ws:List (List Nat)}(h:ia E room n [0]=some ws):ws≠[] <-> Reach E room:=by
 constructor
 ·intro dY;obtain⟨p,w⟩:=R4 (cur:=0) (by simp) h dY;exact aiC w .zero
 ·intro r;obtain⟨p,w,aS⟩:=aiL r;refine R3 w aS (λy a6 hm=>?_) (by simp) h;have:y=0:=by simpa using hm
  subst this;exact (eW.mp aS).1 a6
end eA
end
section
namespace a7
open PySem D
abbrev Op:=Int×Int×Option Str
noncomputable def ho:Option Str->T
|none=>.none
|some x=>.str x
noncomputable def dw(o:Op):T:=.tuple [.int o.1,.int o.2.1,ho o.2.2]
noncomputable def cH(R:Int)(os:List Op):T:=.tuple [.int R,.tuple (os.map dw)]
noncomputable def free(ns:List Str)(o:Op):Bool:=match o.2.2 with
|none=>true
|some x=>decide (x∈ns)
noncomputable def jk(o:Op):Int×Int:=(o.1,o.2.1)
noncomputable def fC:Option Int->T
|some t=>.int t
|none=>.none
def mJ(a b:Int):oEq (.int a) (.int b)=some (.bool (decide (a=b))):=by
 simp[oEq,vC,gf,Bool.beq_eq_decide_eq]
def fj{a b:bJ}{ai ε':Ev}(h:a ai=some (.bI ε')):seq a b ai=b ε':=by
 simp only[seq,h,cn]
def akh(o:Op)(h:Int):nO [dw o,.int h]=some (fC (eA.jD (jk o) h)):=by
 obtain⟨a,b,z⟩:=o;by_cases ah:a=h
 ·simp[nO,xj,dw,c2,seq,iff,bt,g5,e0,fD,gZ,d7,ofT,cU,aj,aX,args,ae,nm,au,b9,skip,asg,hr,iP,par,a0,fa,fP,fW,aT,eI,fm,bw,dv,gI,dy,comp,hn,mJ,eA.jD,jk,fC,ah]
 ·by_cases ar:b=h
  ·simp[nO,xj,dw,c2,seq,iff,bt,g5,e0,fD,gZ,d7,ofT,cU,aj,aX,args,ae,nm,au,b9,skip,asg,hr,iP,par,a0,fa,fP,fW,aT,eI,fm,bw,dv,gI,dy,comp,hn,mJ,eA.jD,jk,fC,ah,ar]
  ·simp[nO,xj,dw,c2,seq,iff,bt,g5,e0,fD,gZ,d7,ofT,cU,aj,aX,args,ae,nm,au,b9,skip,asg,hr,iP,par,a0,fa,fP,fW,aT,eI,fm,bw,dv,gI,dy,comp,hn,mJ,eA.jD,jk,fC,ah,ar]
noncomputable def dk(r:List Int):List (Key×T):=r.map λx=>(Sum.inl x,.bool true)
end a7
end
section
namespace a7
open PySem D
noncomputable def wT(w:List Nat):T:=.tuple (w.map λ(k:Nat)=>PyData.int (k:Int))
noncomputable def o1(rec:List T->Option T):bJ:=(seq (asg 6 (aX nO [(au 5),(unop%Wv 0)])) (iff (e0 (bt (cU fW (nm 6))) (bt (aj (eS true) (nm 6) (nm 2)))) (ext 3 (comp 1 [4] (dy (unop%WM 0)) (bw 0) (d7 true) (aj bV (a0 [(au 1)]) (nm 0)))) skip))
noncomputable def fJ(h:T)(room:Int)(pl:List Int)(acc:List (List Nat))(hP hh eM:Option aO):Ev:=[some (.aa h),some (.aa (.int room)),some (.aa (.tuple (pl.map .int))),some (.own (acc.map wT)),hP,hh,eM]
theorem T8(k:Nat):∀(ws:List (List Nat)) (j:Option aO),(∀w∈ws,w.length<=100)->g9 (bw 0) (d7 true) (aj bV (a0 [(au 1)]) (nm 0)) (ws.map wT) [j,some (unop%WT 0)]=some ((ws.map λw=>k::w).map wT)
| [],j,_=>rfl
|w::ws,j,h=>by
  have bT:=T8 k ws (some (.aa (wT w))) λw hw=>h w (by simp[hw]);have hw:=h w (by simp);have az:aj bV (a0 [(au 1)]) (nm 0) [some (.aa (wT w)),some (unop%WT 0)]=some (wT (k::w)):=by
   have:1+w.length<=16777216:=by omega
   simp[aj,a0,args,au,nm,big,wT,bV,this]
  have bO:bw 0 (wT w) [j,some (unop%WT 0)]=some [some (.aa (wT w)),some (unop%WT 0)]:=rfl;simp only[de,g9,bO,cn,d7,if_true,az,bT,dF]
def Uv{pl:List Int}{h:Int}(aL:pl.getLast?=some h):eI (pl.map PyData.int) (-1)=some (.int h):=by
 have dY:pl≠[]:=λz=>by subst z;cases aL
 have aG:=List.length_pos_iff.mpr dY;have hx:fm (pl.map PyData.int).length (-1)=some (pl.length - 1):=by
  unfold fm;rw[if_neg (by decide),fh,if_pos (by omega)];congr 1;omega
 unfold eI;rw[hx];simp only[cn,kL];rw[<- List.getLast?_eq_getElem?,aL];rfl
def Nz{rec:List T->Option T}{ou:List Int->Option (List (List Nat))}(c0:T)(room:Int)(pl:List Int)(h:Int)(aL:pl.getLast?=some h)(hpl:pl.length<=100)
  (o:Op) (k:Nat) (acc:List (List Nat)) (eM:Option aO) (vs:List (List Nat))
  (bh:(match eA.jD (jk o) h with|some t=>if t∈pl then some [] else (ou (pl++[t])).map λws=>ws.map λw=>k::w|none=>some [])=some vs)
  (ay:∀t ws,t∉pl->ou (pl++[t])=some ws->ws.length<=vs.length->rec [c0,.int room,.tuple ((pl++[t]).map .int)]=some (.list (ws.map wT))/\∀w∈ws,w.length<=100) (hz:acc.length+vs.length<=16777216):
  ∃rv,o1 rec (fJ c0 room pl acc (unop%W4 0) (some (.aa (dw o))) eM)=some (.bI (fJ c0 room pl (acc++vs) (unop%W4 0) (some (.aa (dw o))) rv)):=by
 have af:=akh o h;have aP:=Uv aL;have az:aX nO [(au 5),(unop%Wv 0)] (fJ c0 room pl acc (unop%W4 0) (some (.aa (dw o))) eM)=some (fC (eA.jD (jk o) h)):=by
  have:aj aT (nm 2) (cU iB (ae (.int 1))) (fJ c0 room pl acc (unop%W4 0) (some (.aa (dw o))) eM)=some (.int h):=by
   simp only[aj,nm,fJ,ft,e4,cn,cU,ae,iB,aT];exact aP
  have apl:au 5 (fJ c0 room pl acc (unop%W4 0) (some (.aa (dw o))) eM)=some (dw o):=rfl;simp only[aX,args,this,apl,cn,dF];exact af
 have aM:asg 6 (aX nO [(au 5),(unop%Wv 0)]) (fJ c0 room pl acc (unop%W4 0) (some (.aa (dw o))) eM)=some (.bI (fJ c0 room pl acc (unop%W4 0) (some (.aa (dw o))) (some (.aa (fC (eA.jD (jk o) h)))))):=by
  simp only[asg,az,dF];rfl
 refine⟨some (.aa (fC (eA.jD (jk o) h))),?_⟩
 unfold o1;rw[fj aM];cases aC:eA.jD (jk o) h with
|none=>
  rw[aC] at bh;cases bh;simp[iff,e0,bt,cU,fW,nm,fJ,fC,skip]
|some t=>
  rw[aC] at bh;by_cases hm:t∈pl
  ·simp only[hm,if_true] at bh;cases bh;simp[iff,e0,bt,cU,aj,fW,nm,fJ,fC,skip,Uu,hm]
  ·simp only[hm,if_false,dO] at bh;obtain⟨ws,aaK,rfl⟩:=bh;simp only[fh] at hz ay;obtain⟨ah,ar⟩:=ay t ws hm aaK (dQ _);have cV:e0 (bt (cU fW (nm 6))) (bt (aj (eS true) (nm 6) (nm 2))) (fJ c0 room pl acc (unop%W4 0) (some (.aa (dw o))) (some (.aa (fC (some t)))))=some true:=by
    simp[e0,bt,cU,aj,fW,nm,fJ,fC,Uu,hm]
   have a1:aj bV (nm 2) (a0 [(au 6)]) (fJ c0 room pl acc (unop%W4 0) (some (.aa (dw o))) (some (.aa (fC (some t)))))=some (.tuple ((pl++[t]).map .int)):=by
    have:pl.length+1<=16777216:=by omega
    simp[aj,nm,au,fJ,a0,args,big,fC,bV,this]
   have aa1:dy (unop%WM 0) (fJ c0 room pl acc (unop%W4 0) (some (.aa (dw o))) (some (.aa (fC (some t)))))=some (ws.map wT):=by
    have jM:au 0 (fJ c0 room pl acc (unop%W4 0) (some (.aa (dw o))) (some (.aa (fC (some t)))))=some c0:=rfl;have ey:au 1 (fJ c0 room pl acc (unop%W4 0) (some (.aa (dw o))) (some (.aa (fC (some t)))))=some (.int room):=rfl;simp only[dy,aX,args,a1,jM,ey,cn,dF,ah]
   have yb:comp 1 [4] (dy (unop%WM 0)) (bw 0) (d7 true) (aj bV (a0 [(au 1)]) (nm 0)) (fJ c0 room pl acc (unop%W4 0) (some (.aa (dw o))) (some (.aa (fC (some t)))))=some (.list ((ws.map λw=>k::w).map wT)):=by
    simp only[comp,aa1,cn,fh];rw[if_pos (by unfold big;omega)];have:hn 1 [4] (fJ c0 room pl acc (unop%W4 0) (some (.aa (dw o))) (some (.aa (fC (some t)))))=[none,some (unop%WT 0)]:=rfl;rw[this,T8 k ws none ar];rfl
   simp only[iff,cV,cn,if_true,ext,yb];simp only[fJ,ft,e4,fh];rw[if_pos (by unfold big;omega)];simp
theorem UE{rec:List T->Option T}{ou:List Int->Option (List (List Nat))}(c0:T)(room:Int)(pl:List Int)(h:Int)(aL:pl.getLast?=some h)(hpl:pl.length<=100)(N:Nat)(dz:N<=16777216)
  (ay:∀t ws,t∉pl->ou (pl++[t])=some ws->ws.length<=N->rec [c0,.int room,.tuple ((pl++[t]).map .int)]=some (.list (ws.map wT))/\∀w∈ws,w.length<=100):
  ∀(os:List Op) (k:Nat) (acc vs:List (List Nat)) (hP hh eM:Option aO),eA.exts ou pl h k (os.map jk)=some vs->acc.length+vs.length<=N ->
   ∃yV yW rv,forL (dv [(bw 4),(bw 5)]) (o1 rec) (((os.map dw).zipIdx k).map λp=>.tuple [.int p.2,p.1]) (fJ c0 room pl acc hP hh eM)=some (.bI (fJ c0 room pl (acc++vs) yV yW rv))
| [],k,acc,vs,hP,hh,eM,e,_=>by
  cases e
  exact⟨hP,hh,eM,by simp[forL]⟩
|o::os,k,acc,vs,hP,hh,eM,e,hz=>by
  have key:∃v1 v2,(match eA.jD (jk o) h with|some t=>if t∈pl then some [] else (ou (pl++[t])).map λws=>ws.map λw=>k::w|none=>some [])=some v1/\eA.exts ou pl h (k+1) (os.map jk)=some v2/\vs=v1++v2:=by
   rw[de] at e;unfold eA.exts at e;cases aC:eA.jD (jk o) h with
   |none=>
    rw[aC] at e;exact⟨[],vs,rfl,e,rfl⟩
   |some t=>
    rw[aC] at e;by_cases hm:t∈pl
    ·simp only[hm,if_true] at e ⊢;exact⟨[],vs,rfl,e,rfl⟩
    ·simp only[hm,if_false,cm,dO] at e ⊢;obtain⟨ws,ah,v2,ar,rfl⟩:=e;exact⟨_,v2,⟨ws,ah,rfl⟩,ar,rfl⟩
  obtain⟨v1,v2,ah,ar,rfl⟩:=key;rw[l8] at hz;obtain⟨rv,aA⟩:=Nz (rec:=rec) (ou:=ou) c0 room pl h aL hpl o k acc eM v1 ah (λt ws a b c=>ay t ws a b (by omega)) (by omega);obtain⟨a,b,c,bT⟩:=UE (rec:=rec) (ou:=ou) c0 room pl h aL hpl N dz ay os (k+1) (acc++v1) v2 (unop%W4 0) (some (.aa (dw o))) rv ar (by rw[l8];omega);refine⟨a,b,c,?_⟩;have bO:dv [(bw 4),(bw 5)] (.tuple [.int k,dw o]) (fJ c0 room pl acc hP hh eM)=some (fJ c0 room pl acc (unop%W4 0) (some (.aa (dw o))) eM):=rfl;rw[de,List.zipIdx_cons,de];simp only[forL,bO,cn,aA];rw[bT,List.append_assoc]
def Rt{E:List (Int×Int)}{room:Int}:∀(n:Nat) (pl:List Int) (ws:List (List Nat)),eA.ia E room n pl=some ws->∀w∈ws,w.length<=n:=by
 have ex:∀(n:Nat) (rec:List Int->Option (List (List Nat))) (pl:List Int) (h:Int),(∀q ws,rec q=some ws->∀w∈ws,w.length<=n)->∀(E:List (Int×Int)) (k:Nat) (ws:List (List Nat)),eA.exts rec pl h k E=some ws->∀w∈ws,w.length<=n+1:=by
  intro n rec pl h ay E
  induction E with
  |nil=>
   intro k ws e w hw;cases e;cases hw
  |cons bO E bT=>
   intro k ws e w hw;unfold eA.exts at e;split at e
   ·split at e
    ·exact bT _ _ e w hw
    ·simp only[cm,dO] at e;obtain⟨us,ah,v2,ar,rfl⟩:=e;rcases hS.mp hw with q|q
     ·obtain⟨u,b8,rfl⟩:=dP.mp q;have:=ay _ _ ah u b8;simp;omega
     ·exact bT _ _ ar w q
   ·exact bT _ _ e w hw
 intro n
 induction n with
|zero=>
  intro pl ws e;cases e
|succ n bT=>
  intro pl ws e w hw;unfold eA.ia at e;split at e
  ·cases e
  ·split at e
   ·cases e
    simp at hw;subst hw;simp
   ·exact ex n _ _ _ (λq ws e=>bT q ws e) _ _ _ e w hw
theorem Sn{R:Int}{os:List Op}{room:Int}:∀(n:Nat) (pl:List Int) (ws:List (List Nat)),n+pl.length<=90->eA.ia (os.map jk) room n pl=some ws->ws.length<=16777216 ->
  nM n [cH R os,.int room,.tuple (pl.map .int)]=some (.list (ws.map wT))
|0,pl,ws,bg,e,_=>by cases e
|n+1,pl,ws,bg,e,hz=>by
  have bO:nM (n+1) [cH R os,.int room,.tuple (pl.map .int)]=(xf (nM n) [some (.aa (cH R os)),some (.aa (.int room)),some (.aa (.tuple (pl.map .int))),none,none,none,none]).bind λo=>match o with|.dn t=>some t|.bI _=>some .none|_=>none:=rfl
  rw[bO];unfold eA.ia at e;cases aL:pl.getLast? with
  |none=>
   rw[aL] at e;cases e
  |some h=>
   rw[aL] at e;dsimp only at e;have aP:=Uv aL;have sy:bt (aj oEq (unop%Wv 0) (nm 1)) [some (.aa (cH R os)),some (.aa (.int room)),some (.aa (.tuple (pl.map .int))),none,none,none,none]=some (decide (h=room)):=by
    simp only[bt,aj,nm,ft,e4,cn,cU,ae,iB,aT,aP,mJ]
   unfold xf;by_cases ay:h=room
   ·rw[if_pos ay] at e;cases e;simp only[seq,iff,sy,ay,cn,decide_true,if_true,b9,fa,a0,args,dF];simp[big,wT]
   ·rw[if_neg ay] at e;have s1:iff (bt (aj oEq (unop%Wv 0) (nm 1))) (b9 (fa [(a0 [])])) skip [some (.aa (cH R os)),some (.aa (.int room)),some (.aa (.tuple (pl.map .int))),none,none,none,none]=some (.bI [some (.aa (cH R os)),some (.aa (.int room)),some (.aa (.tuple (pl.map .int))),none,none,none,none]):=by
     simp only[iff,sy,ay,cn,decide_false,lA,if_false,skip]
    have s2:hr 3 (fa []) [some (.aa (cH R os)),some (.aa (.int room)),some (.aa (.tuple (pl.map .int))),none,none,none,none]=some (.bI (fJ (cH R os) room pl [] none none none)):=by
     simp[hr,fa,args,big,fJ]
    obtain⟨a,b,c,aA⟩:=UE (rec:=nM n) (ou:=eA.ia (os.map jk) room n) (cH R os) room pl h aL (by omega) ws.length hz
     (λt agR _ ar br=>⟨Sn n (pl++[t]) agR (by simp;omega) ar (by omega),λw hw=>lz (Rt n _ _ ar w hw) (by omega)⟩) os 0 [] ws none none none e (by simp)
    have it:iJ (gO (unop%W7 0)) (fJ (cH R os) room pl [] none none none)=some (((os.map dw).zipIdx 0).map λp=>.tuple [.int p.2,p.1]):=by
     simp[iJ,gO,aj,nm,fJ,cH,ae,aT,eI,fm,enum]
    have s3:d1 (iJ (gO (unop%W7 0))) (dv [(bw 4),(bw 5)]) (o1 (nM n)) (fJ (cH R os) room pl [] none none none)=some (.bI (fJ (cH R os) room pl ws a b c)):=by
     simp only[d1,it,cn];exact aA
    rw[fj s1,fj s2];have s4:seq (d1 (iJ (gO (unop%W7 0))) (dv [(bw 4),(bw 5)]) (o1 (nM n))) (b9 (nm 3)) (fJ (cH R os) room pl [] none none none)=some (.dn (.list (ws.map wT))):=by
     rw[fj s3];simp[b9,nm,fJ]
    have s5:=congrArg (λx:Option Out=>x.bind λo=>match o with|.dn t=>some t|.bI _=>some .none|_=>none) s4;exact s5
def alh{R:Int}{os:List Op}{room:Int}{ws:List (List Nat)}(h:eA.ia (os.map jk) room 20 [0]=some ws)(hz:ws.length<=16777216):hs [cH R os,.int room]=some (.tuple (ws.map wT)):=by
 have ah:=Sn (R:=R) 20 [0] ws (by decide) h hz;have bO:hs [cH R os,.int room]=(AB [some (.aa (cH R os)),some (.aa (.int room))]).bind λo=>match o with|.dn t=>some t|.bI _=>some .none|_=>none:=rfl
 rw[bO];have a1:args [(au 0),(au 1),(a0 [(ae (.int 0))])] [some (.aa (cH R os)),some (.aa (.int room))]=some [cH R os,.int room,.tuple ([0].map .int)]:=by
  simp[args,au,a0,ae,big]
 simp only[AB,b9,aX,args] at a1 ⊢;rw[a1];simp only[cn,ah,dF,gA]
end a7
end
section
namespace a7
open PySem D
noncomputable def ec(ns:List Int):T:=.list (ns.map .int)
def Nv(ns:List Int)(k:Nat):nK [ec ns,.int k]=some (.int (ns.getD k 0)):=by
 by_cases h:k<ns.length
 ·have h':(k:Int)<(ns.length:Int):=by omega
  simp[nK,vo,ec,c2,seq,iff,bt,g5,e0,fD,gZ,d7,ofT,cU,aj,aX,args,ae,nm,au,b9,skip,asg,hr,iP,par,a0,fa,fP,fW,aT,eI,fm,bw,dv,gI,dy,comp,hn,bV,aoR,dU,oDiv,oMod,iB,iA,pw,om,gA,E0,ry,oLt,oLe,iz,sU,big,h,h',List.getD]
 ·have h':¬(k:Int)<(ns.length:Int):=by omega
  simp[nK,vo,ec,c2,seq,iff,bt,g5,e0,fD,gZ,d7,ofT,cU,aj,aX,args,ae,nm,au,b9,skip,asg,hr,iP,par,a0,fa,fP,fW,aT,eI,fm,bw,dv,gI,dy,comp,hn,bV,aoR,dU,oDiv,oMod,iB,iA,pw,om,gA,E0,ry,oLt,oLe,iz,sU,big,h,h',List.getD]
def l'{i j:Int}(h:-(2 ^ 64)<j/\j<2 ^ 64):dU (.int i) (.int j)=some (.int (i*j)):=by
 unfold dU xN;simp only[decide_eq_true h.1,decide_eq_true h.2,Bool.and_self,Bool.or_true,if_true]
def lF{i j:Int}(h:0<j):oMod (.int i) (.int j)=some (.int (i % j)):=if_pos h
def xD{i j:Int}(h:0<j/\j<1073741824):oDiv (.int i) (.int j)=some (.int (i / j)):=if_pos h
def hW{i j:Int}:bV (.int i) (.int j)=some (.int (i+j)):=rfl
def Ad(ns:List Int)(k:Nat):∃m:Int,0<=m/\kj [ec ns,.int k]=some (.int m):=by
 have aw:=Nv ns k;have hd:0<=(ns.getD k 0+7919*(k:Int)+1)*48271 % 2147483647/\(ns.getD k 0+7919*(k:Int)+1)*48271 % 2147483647<2147483647:=⟨lC _ (by decide),oF _ (by decide)⟩;generalize hx:(ns.getD k 0+7919*(k:Int)+1)*48271 % 2147483647=d at hd;refine⟨(d*d+7*d+k) % 2147483629,lC _ (by decide),?_⟩;have bO:kj [ec ns,.int k]=(vv [some (.aa (ec ns)),some (unop%WT 0),none]).bind λo=>match o with|.dn t=>some t|.bI _=>some .none|_=>none:=rfl
 have i3:dU (.int 7919) (.int k)=some (.int (7919*k)):=by
  unfold dU xN;simp
 have jM:au 0 [some (.aa (ec ns)),some (unop%WT 0),none]=some (ec ns):=rfl;have ey:au 1 [some (.aa (ec ns)),some (unop%WT 0),none]=some (.int k):=rfl;have Kj:nm 1 [some (.aa (ec ns)),some (unop%WT 0),none]=some (.int k):=rfl;have s1:asg 2 (unop%W8 0) [some (.aa (ec ns)),some (unop%WT 0),none]=some (.bI [some (.aa (ec ns)),some (unop%WT 0),some (.aa (.int d))]):=by
  simp only[asg,aj,aX,args,jM,ey,Kj,cn,dF,aw,ae,i3,hW,l' (i:=ns.getD k 0+7919*(k:Int)+1) (j:=48271) (by decide),lF (j:=2147483647) (by decide),hx];rfl
 have kF:dU (.int d) (.int d)=some (.int (d*d)):=l' (by omega);have jL:dU (.int 7) (.int d)=some (.int (7*d)):=l' (by omega);rw[bO];unfold vv;rw[fj s1];have bu:nm 2 [some (.aa (ec ns)),some (unop%WT 0),some (.aa (.int d))]=some (.int d):=rfl;have aQ:nm 1 [some (.aa (ec ns)),some (unop%WT 0),some (.aa (.int d))]=some (.int k):=rfl;simp only[b9,aj,bu,aQ,cn,dF,ae,kF,jL,hW,lF (j:=2147483629) (by decide)]
def xg(n k:Int)(aI:-(2 ^ 64)<k/\k<2 ^ 64):∃m:Int,0<=m/\ig [.int n,.int k]=some (.int m):=by
 have hd:0<=(n+104729*k+17)*69621 % 2147483647/\(n+104729*k+17)*69621 % 2147483647<2147483647:=⟨lC _ (by decide),oF _ (by decide)⟩;generalize hx:(n+104729*k+17)*69621 % 2147483647=d at hd;refine⟨(d*d+3*d+k) % 2147483629,lC _ (by decide),?_⟩;have bO:ig [.int n,.int k]=(vw [some (unop%Wr 0),some (unop%WT 0),none]).bind λo=>match o with|.dn t=>some t|.bI _=>some .none|_=>none:=rfl
 have i3:dU (.int 104729) (.int k)=some (.int (104729*k)):=l' aI;have jM:nm 0 [some (unop%Wr 0),some (unop%WT 0),none]=some (.int n):=rfl;have ey:nm 1 [some (unop%Wr 0),some (unop%WT 0),none]=some (.int k):=rfl;have s1:asg 2 (unop%Wa 0) [some (unop%Wr 0),some (unop%WT 0),none]=some (.bI [some (unop%Wr 0),some (unop%WT 0),some (.aa (.int d))]):=by
  simp only[asg,aj,jM,ey,cn,dF,ae,i3,hW,l' (i:=n+104729*k+17) (j:=69621) (by decide),lF (j:=2147483647) (by decide),hx];rfl
 have kF:dU (.int d) (.int d)=some (.int (d*d)):=l' (by omega);have jL:dU (.int 3) (.int d)=some (.int (3*d)):=l' (by omega);rw[bO];unfold vw;rw[fj s1];have bu:nm 2 [some (unop%Wr 0),some (unop%WT 0),some (.aa (.int d))]=some (.int d):=rfl;have aQ:nm 1 [some (unop%Wr 0),some (unop%WT 0),some (.aa (.int d))]=some (.int k):=rfl;simp only[b9,aj,bu,aQ,cn,dF,ae,kF,jL,hW,lF (j:=2147483629) (by decide)]
noncomputable def names5:List Str:=["a","b","back","hall","win"]
noncomputable def x1(R:Int)(o:Op):Prop:=0<=o.1/\o.1<o.2.1/\o.2.1<=R/\∀x,o.2.2=some x->x∈names5
structure Drawn(R:Int)(os:List Op):Prop where
 bk:1<=R
 rC:R<=7
 len:os.length<=10
 ok:∀o∈os,x1 R o
noncomputable def x_:bJ:=(seq (asg 4 (unop%WI 0)) (seq (asg 5 (aj oMod (nm 4) (aj bV (nm 1) (ae (.int 1))))) (seq (asg 6 (unop%Wc 0)) (seq (asg 7 (unop%W2 0)) (asg 2 (unop%Wq 0))))))
noncomputable def eC(n R:Int)(os:List Op)(ru hP hh eM gr:Option aO):Ev:=[some (unop%Wr 0),some (.aa (.int R)),some (.aa (.tuple (os.map dw))),ru,hP,hh,eM,gr]
def alf(i:Int)(h0:0<=i)(sH:i<7)(ai:Ev):∃z:Option Str,(a0 [(ae .none),(ae .none),(ae (.str "a")),(ae (.str "b")),(ae (.str "back")),(ae (.str "hall")),(ae (.str "win"))] ai).bind (λt=>aT t (.int i))=some (ho z)/\∀x,z=some x->x∈names5:=by
 have aw:i=0\/i=1\/i=2\/i=3\/i=4\/i=5\/i=6:=by omega
 have e:a0 [(ae .none),(ae .none),(ae (.str "a")),(ae (.str "b")),(ae (.str "back")),(ae (.str "hall")),(ae (.str "win"))] ai=some (.tuple [.none,.none,.str "a",.str "b",.str "back",.str "hall",.str "win"]):=by
  simp[a0,args,ae,big]
 rw[e];rcases aw with rfl|rfl|rfl|rfl|rfl|rfl|rfl
 ·exact⟨none,rfl,λx h=>by cases h⟩
 ·exact⟨none,rfl,λx h=>by cases h⟩
 ·exact⟨some "a",rfl,λx h=>by cases h;simp[names5]⟩
 ·exact⟨some "b",rfl,λx h=>by cases h;simp[names5]⟩
 ·exact⟨some "back",rfl,λx h=>by cases h;simp[names5]⟩
 ·exact⟨some "hall",rfl,λx h=>by cases h;simp[names5]⟩
 ·exact⟨some "win",rfl,λx h=>by cases h;simp[names5]⟩
def ai9(n R:Int)(ah:1<=R)(sH:R<=7)(os:List Op)(aG:os.length<1000)(k:Int)(aI:0<=k/\k<1000)(hP hh eM gr:Option aO):
  ∃o yV yW rv I6,x1 R o/\x_ (eC n R os (unop%W4 0) hP hh eM gr)=some (.bI (eC n R (os++[o]) (unop%W4 0) yV yW rv I6)):=by
 obtain⟨m,hm,hd⟩:=xg n (50+k) (by omega);have q0:0<=m / 4:=Int.ediv_nonneg hm (by decide);generalize a5:m / 4=q at q0;have s1:asg 4 (unop%WI 0) (eC n R os (unop%W4 0) hP hh eM gr)=some (.bI (eC n R os (unop%W4 0) (unop%Wn 0) hh eM gr)):=by
  have jM:au 0 (eC n R os (unop%W4 0) hP hh eM gr)=some (.int n):=rfl;have rx:nm 3 (eC n R os (unop%W4 0) hP hh eM gr)=some (.int k):=rfl;simp only[asg,aj,aX,args,jM,rx,ae,hW,cn,dF,hd,xD (j:=4) (by decide),a5];rfl
 have aon:0<=q % (R+1)/\q % (R+1)<R+1:=⟨lC _ (by omega),oF _ (by omega)⟩;have aop:0<=q / 8 % R/\q / 8 % R<R:=⟨lC _ (by omega),oF _ (by omega)⟩;have aom:(q % (R+1)+1+q / 8 % R) % (R+1)≠q % (R+1):=by
  generalize q % (R+1)=a at *;generalize q / 8 % R=b at *;intro e;by_cases c:a+1+b<R+1
  ·rw[Int.emod_eq_of_lt (by omega) c] at e;omega
  ·have:(a+1+b) % (R+1)=a+1+b - (R+1):=by
    rw[<- Int.sub_emod_right,Int.emod_eq_of_lt (by omega) (by omega)]
   omega
 have aoo:0<=(q % (R+1)+1+q / 8 % R) % (R+1)/\(q % (R+1)+1+q / 8 % R) % (R+1)<R+1:=⟨lC _ (by omega),oF _ (by omega)⟩;have s2:asg 5 (aj oMod (nm 4) (aj bV (nm 1) (ae (.int 1)))) (eC n R os (unop%W4 0) (unop%Wn 0) hh eM gr)=some (.bI (eC n R os (unop%W4 0) (unop%Wn 0) (some (.aa (.int (q % (R+1))))) eM gr)):=by
  have y3:nm 4 (eC n R os (unop%W4 0) (unop%Wn 0) hh eM gr)=some (.int q):=rfl;have ey:nm 1 (eC n R os (unop%W4 0) (unop%Wn 0) hh eM gr)=some (.int R):=rfl;simp only[asg,aj,y3,ey,ae,hW,cn,dF,lF (j:=R+1) (by omega)];rfl
 generalize q % (R+1)=one at *;have s3:asg 6 (unop%Wc 0) (eC n R os (unop%W4 0) (unop%Wn 0) (unop%Wx 0) eM gr)=some (.bI (eC n R os (unop%W4 0) (unop%Wn 0) (unop%Wx 0) (some (.aa (.int ((one+1+q / 8 % R) % (R+1))))) gr)):=by
  have apl:nm 5 (eC n R os (unop%W4 0) (unop%Wn 0) (unop%Wx 0) eM gr)=some (.int one):=rfl;have y3:nm 4 (eC n R os (unop%W4 0) (unop%Wn 0) (unop%Wx 0) eM gr)=some (.int q):=rfl;have ey:nm 1 (eC n R os (unop%W4 0) (unop%Wn 0) (unop%Wx 0) eM gr)=some (.int R):=rfl;simp only[asg,aj,apl,y3,ey,ae,hW,cn,dF,xD (j:=8) (by decide),lF (j:=R) (by omega),lF (j:=R+1) (by omega)];rfl
 generalize (one+1+q / 8 % R) % (R+1)=iC at *;obtain⟨z,hz,BY⟩:=alf (q / 64 % 7) (lC _ (by decide)) (oF _ (by decide)) (eC n R os (unop%W4 0) (unop%Wn 0) (unop%Wx 0) (some (.aa (.int iC))) gr);have s4:asg 7 (unop%W2 0) (eC n R os (unop%W4 0) (unop%Wn 0) (unop%Wx 0) (some (.aa (.int iC))) gr)=some (.bI (eC n R os (unop%W4 0) (unop%Wn 0) (unop%Wx 0) (some (.aa (.int iC))) (some (.aa (ho z))))):=by
  have y3:nm 4 (eC n R os (unop%W4 0) (unop%Wn 0) (unop%Wx 0) (some (.aa (.int iC))) gr)=some (.int q):=rfl;have aP:aj oMod (aj oDiv (nm 4) (ae (.int 64))) (ae (.int 7)) (eC n R os (unop%W4 0) (unop%Wn 0) (unop%Wx 0) (some (.aa (.int iC))) gr)=some (.int (q / 64 % 7)):=by
   simp only[aj,y3,ae,cn,xD (j:=64) (by decide),lF (j:=7) (by decide)]
  have cR:aj aT (a0 [(ae .none),(ae .none),(ae (.str "a")),(ae (.str "b")),(ae (.str "back")),(ae (.str "hall")),(ae (.str "win"))]) (aj oMod (aj oDiv (nm 4) (ae (.int 64))) (ae (.int 7))) (eC n R os (unop%W4 0) (unop%Wn 0) (unop%Wx 0) (some (.aa (.int iC))) gr)=some (ho z):=by
   rw[<- hz];unfold aj at aP ⊢;simp only[aP,cn]
  simp only[asg,cR,dF];rfl
 refine⟨((if iC<one then iC else one),(if iC > one then iC else one),z),some (.aa (.int q)),some (.aa (.int one)),some (.aa (.int iC)),some (.aa (ho z)),⟨?_,?_,?_,BY⟩,?_⟩
 ·dsimp only;split <;> omega
 ·dsimp only;split <;> split <;> omega
 ·dsimp only;split <;> omega
 ·have s5:asg 2 (unop%Wq 0) (eC n R os (unop%W4 0) (unop%Wn 0) (unop%Wx 0) (some (.aa (.int iC))) (some (.aa (ho z))))=some (.bI (eC n R (os++[((if iC<one then iC else one),(if iC > one then iC else one),z)]) (unop%W4 0) (unop%Wn 0) (unop%Wx 0) (some (.aa (.int iC))) (some (.aa (ho z))))):=by
   have apl:nm 5 (eC n R os (unop%W4 0) (unop%Wn 0) (unop%Wx 0) (some (.aa (.int iC))) (some (.aa (ho z))))=some (.int one):=rfl;have n6:nm 6 (eC n R os (unop%W4 0) (unop%Wn 0) (unop%Wx 0) (some (.aa (.int iC))) (some (.aa (ho z))))=some (.int iC):=rfl;have uQ:au 7 (eC n R os (unop%W4 0) (unop%Wn 0) (unop%Wx 0) (some (.aa (.int iC))) (some (.aa (ho z))))=some (ho z):=rfl;have fp:nm 2 (eC n R os (unop%W4 0) (unop%Wn 0) (unop%Wx 0) (some (.aa (.int iC))) (some (.aa (ho z))))=some (.tuple (os.map dw)):=rfl;have af:(os.map dw).length+1<=16777216:=by simp;omega
   simp only[asg,aj,aX,a0,args,apl,n6,uQ,fp,cn,dF,pw,om,bV,eX,lB,big];simp[af,eC,dw];omega
  unfold x_;rw[fj s1,fj s2,fj s3,fj s4,s5]
theorem SE(n R:Int)(ah:1<=R)(sH:R<=7):∀(a':List Int) (os:List Op) (ru hP hh eM gr:Option aO),(∀k∈a',0<=k/\k<1000)->os.length+a'.length<1000->(∀o∈os,x1 R o) ->
  ∃uW aa4 yV yW rv I6,uW.length=os.length+a'.length/\(∀o∈uW,x1 R o)/\forL (bw 3) x_ (a'.map .int) (eC n R os ru hP hh eM gr)=some (.bI (eC n R uW aa4 yV yW rv I6))
| [],os,ru,hP,hh,eM,gr,_,_,aJ=>⟨os,ru,hP,hh,eM,gr,rfl,aJ,rfl⟩
|k::a',os,ru,hP,hh,eM,gr,aI,aG,aJ=>by
  simp only[eX] at aG;obtain⟨o,h3,kW,j3,x6,oo,aA⟩:=ai9 n R ah sH os (by omega) k (aI k (by simp)) hP hh eM gr;obtain⟨uW,dM,kY,q9,oZ,Ge,az,aM,dS⟩:=SE n R ah sH a' (os++[o]) (unop%W4 0) h3 kW j3 x6 (λjJ h=>aI jJ (by simp[h])) (by simp;omega) λo' h=>by
   rcases hS.mp h with q|q
   ·exact aJ o' q
   ·simp at q;subst q;exact oo
  refine⟨uW,dM,kY,q9,oZ,Ge,by rw[az];simp;omega,aM,?_⟩
  have bO:bw 3 (.int k) (eC n R os ru hP hh eM gr)=some (eC n R os (unop%W4 0) hP hh eM gr):=rfl;simp only[de,forL,bO,cn,aA,dS]
def aaw(n:Int)(bg:0<=n):∃R os,Drawn R os/\sC [.int n]=some (cH R os):=by
 have k7:0<=n % 7/\n % 7<7:=⟨lC _ (by decide),oF _ (by decide)⟩;have dz:0<=n / 8 % 11/\n / 8 % 11<11:=⟨lC _ (by decide),oF _ (by decide)⟩;have s1:asg 1 (aj bV (ae (.int 1)) (aj oMod (nm 0) (ae (.int 7)))) [some (unop%Wr 0),none,none,none,none,none,none,none]=some (.bI [some (unop%Wr 0),some (.aa (.int (1+n % 7))),none,none,none,none,none,none]):=by
  have jM:nm 0 [some (unop%Wr 0),none,none,none,none,none,none,none]=some (.int n):=rfl;simp only[asg,aj,jM,ae,cn,dF,lF (j:=7) (by decide),hW];rfl
 have s2:asg 2 (a0 []) [some (unop%Wr 0),some (.aa (.int (1+n % 7))),none,none,none,none,none,none]=some (.bI (eC n (1+n % 7) [] none none none none none)):=by
  simp[asg,a0,args,big,eC]
 have hit:jX (unop%WJ 0) (eC n (1+n % 7) [] none none none none none)=some (((List.range (n / 8 % 11).toNat).map λ(k:Nat)=>(k:Int)).map .int):=by
  have jM:nm 0 (eC n (1+n % 7) [] none none none none none)=some (.int n):=rfl;have aA:ao4 (n / 8 % 11)=true:=by
   unfold ao4;simp;omega
  simp only[jX,aj,jM,ae,cn,xD (j:=8) (by decide),lF (j:=11) (by decide),aA,if_true,lZ,Int.sub_zero,Int.zero_add,nE,ny]
 obtain⟨os,dM,kY,q9,oZ,Ge,az,aM,dS⟩:=SE n (1+n % 7) (by omega) (by omega) ((List.range (n / 8 % 11).toNat).map λ(k:Nat)=>(k:Int)) [] none none none none none (λk aI=>by
  obtain⟨j,bU,rfl⟩:=dP.mp aI;have:=List.mem_range.mp bU;omega) (by simp;omega) (by simp)
 simp only[lB,fh,List.length_range] at az;refine⟨1+n % 7,os,⟨by omega,by omega,by omega,aM⟩,?_⟩;have s3:d1 (jX (unop%WJ 0)) (bw 3) x_ (eC n (1+n % 7) [] none none none none none)=some (.bI (eC n (1+n % 7) os dM kY q9 oZ Ge)):=by
  simp only[d1,hit,cn];exact dS
 have s4:seq (d1 (jX (unop%WJ 0)) (bw 3) x_) (b9 (a0 [(au 1),(au 2)])) (eC n (1+n % 7) [] none none none none none)=some (.dn (cH (1+n % 7) os)):=by
  rw[fj s3];simp[b9,a0,args,au,eC,big,cH]
 have bO:sC [.int n]=(z_ [some (unop%Wr 0),none,none,none,none,none,none,none]).bind λo=>match o with|.dn t=>some t|.bI _=>some .none|_=>none:=rfl
 rw[bO];unfold z_;rw[fj s1,fj s2];exact congrArg (λx:Option Out=>x.bind λo=>match o with|.dn t=>some t|.bI _=>some .none|_=>none) s4
end a7
end
section
namespace a7
open PySem D
local instance:cB:=⟨[],λ_=>[],λ_=>none⟩
def aiB{R:Int}{os:List Op}(d:Drawn R os):eA.Within R (os.map jk):=λe he=>by
 obtain⟨o,aJ,rfl⟩:=dP.mp he;have:=d.ok o aJ;unfold x1 at this;unfold jk;dsimp only;omega
def agO{R:Int}{os:List Op}(d:Drawn R os)(room:Int):∃ws,eA.ia (os.map jk) room 20 [0]=some ws/\hs [cH R os,.int room]=some (.tuple (ws.map wT))/\(ws≠[] <-> eA.Reach (os.map jk) room):=by
 obtain⟨ws,ah,ar⟩:=eA.Rv (aiB d) d.rC (by simpa using d.len) room 20 [0] (by simp) (by simp) (by have:=d.bk;simp;omega) (by simp);exact⟨ws,ah,alh ah (lz ar (by simp)),eA.agN ah⟩
noncomputable def bare(ns:List Str)(o:Op):Op:=(o.1,o.2.1,match o.2.2 with
|none=>none
|some x=>if x∈ns then none else some x)
end a7
end
section
namespace eA
noncomputable def xU(E:List (Int×Int)):Int->List Nat->List Int->Prop
|_,[],p=>p=[]
|cur,k::w,p=>∃e t q,E[k]?=some e/\jD e cur=some t/\p=t::q/\xU E t w q
theorem T4{rec:List Int->Option (List (List Nat))}{pl:List Int}{h:Int}:∀{E:List (Int×Int)} {k:Nat} {ws:List (List Nat)},exts rec pl h k E=some ws->∀w,w∈ws <-> ∃j e t us dh,E[j]?=some e/\jD e h=some t/\t∉pl/\rec (pl++[t])=some us/\dh∈us/\w=(k+j)::dh
| [],k,ws,e,w=>by
  cases e
  simp
|e::es,k,ws,ah,w=>by
  have hj:∀{vs:List (List Nat)},exts rec pl h (k+1) es=some vs->(w∈vs <-> ∃j bD t us dh,(e::es)[j+1]?=some bD/\jD bD h=some t/\t∉pl/\rec (pl++[t])=some us/\dh∈us/\w=(k+(j+1))::dh):=λbh=>by
   rw[T4 bh w];constructor
   ·rintro⟨j,bD,t,us,dh,a1,a2,fH,h3,kW,j3⟩;exact⟨j,bD,t,us,dh,by simpa using a1,a2,fH,h3,kW,by rw[j3];congr 1;omega⟩
   ·rintro⟨j,bD,t,us,dh,a1,a2,fH,h3,kW,j3⟩;exact⟨j,bD,t,us,dh,by simpa using a1,a2,fH,h3,kW,by rw[j3];congr 1;omega⟩
  unfold exts at ah;split at ah
  next t bp=>
   split at ah
   next hm=>
    rw[hj ah];constructor
    ·rintro⟨j,r⟩;exact⟨j+1,r⟩
    ·rintro⟨j,bD,t',us,dh,a1,a2,fH,r⟩;cases j with
     |zero=>
      cases a1
      rw[bp] at a2;cases a2;exact absurd hm fH
     |succ j=>exact⟨j,bD,t',us,dh,a1,a2,fH,r⟩
   next hm=>
    simp only[cm,dO] at ah;obtain⟨us,ar,vs,br,rfl⟩:=ah;rw[hS,hj br,dP];constructor
    ·rintro (⟨dh,aQ,bu⟩|⟨j,r⟩)
     ·exact⟨0,e,t,us,dh,rfl,bp,hm,ar,aQ,by rw[<- bu];rfl⟩
     ·exact⟨j+1,r⟩
    ·rintro⟨j,bD,t',agK,dh,a1,a2,fH,h3,kW,j3⟩;cases j with
     |zero=>
      cases a1
      rw[bp] at a2;cases a2;rw[ar] at h3;cases h3;exact .inl ⟨dh,kW,j3.symm⟩
     |succ j=>exact .inr ⟨j,bD,t',agK,dh,a1,a2,fH,h3,kW,j3⟩
  next bg=>
   rw[hj ah];constructor
   ·rintro⟨j,r⟩;exact⟨j+1,r⟩
   ·rintro⟨j,bD,t',us,dh,a1,a2,fH,r⟩;cases j with
    |zero=>
     cases a1
     rw[bg] at a2;cases a2
    |succ j=>exact⟨j,bD,t',us,dh,a1,a2,fH,r⟩
def ak6{rec:List Int->Option (List (List Nat))}{pl:List Int}{h:Int}{E:List (Int×Int)}{k:Nat}{ws:List (List Nat)}(e:exts rec pl h k E=some ws){j:Nat}{bD:Int×Int}{t:Int}(ah:E[j]?=some bD)(ar:jD bD h=some t)(br:t∉pl):∃vs,rec (pl++[t])=some vs:=by
 obtain⟨vs,bh,_⟩:=z7 e t ⟨bD,qB ah,ar⟩ br;exact⟨vs,bh⟩
theorem MQ{E:List (Int×Int)}{room:Int}:∀{n:Nat} {pl:List Int} {cur:Int} {ws:List (List Nat)},pl.getLast?=some cur->ia E room n pl=some ws->∀w,w∈ws <-> ∃p,xU E cur w p/\p.Nodup/\(∀y∈p,y∉pl)/\(cur::p).getLast?=some room
|0,pl,cur,ws,_,h,_=>by cases h
|n+1,pl,cur,ws,aG,h,w=>by
  have _P:cur∈pl:=List.mem_of_getLast? aG;unfold ia at h;rw[aG] at h;simp only at h;split at h
  next e=>
   subst e;cases h;constructor
   ·intro hw;have:w=[]:=by simpa using hw
    subst this;exact⟨[],rfl,by simp,by simp,rfl⟩
   ·rintro⟨p,ah,ar,br,cF⟩;cases w with
    |nil=>simp
    |cons k w=>
     obtain⟨bD,t,q,_,_,rfl,_⟩:=ah;have hm:cur∈t::q:=by
      rw[List.getLast?_cons_cons] at cF;exact List.mem_of_getLast? cF
     exact absurd _P (br cur hm)
  next dY=>
   rw[T4 h w];constructor
   ·rintro⟨j,bD,t,us,dh,a1,a2,fH,h3,kW,j3⟩;obtain⟨p,nk,eT,wD,p4⟩:=(MQ (pl:=pl++[t]) (cur:=t) (by simp) h3 dh).mp kW;refine⟨t::p,?_,?_,?_,by rw[List.getLast?_cons_cons];exact p4⟩
    ·rw[j3];exact⟨bD,t,p,by simpa using a1,a2,rfl,nk⟩
    ·exact eW.mpr ⟨λz=>wD t z (by simp),eT⟩
    ·intro y a6;rcases cM.mp a6 with rfl|a6
     ·exact fH
     ·exact λz=>wD y a6 (by simp[z])
   ·rintro⟨p,ah,ar,br,cF⟩;cases w with
    |nil=>
     have:p=[]:=ah;subst this;simp at cF;exact absurd cF dY
    |cons k w=>
     obtain⟨bD,t,q,b6,b7,rfl,dM⟩:=ah;have bp:t∉pl:=br t (by simp);obtain⟨us,b8⟩:=ak6 h b6 b7 bp;have aS:=eW.mp ar;refine⟨k,bD,t,us,w,b6,b7,bp,b8,?_,by simp⟩;refine (MQ (pl:=pl++[t]) (cur:=t) (by simp) b8 w).mpr ⟨q,dM,aS.2,λy a6 z=>?_,by rw[List.getLast?_cons_cons] at cF;exact cF⟩;rcases hS.mp z with z|z
     ·exact br y (by simp[a6]) z
     ·have:y=t:=by simpa using z
      subst this;exact aS.1 a6
def agM{E:List (Int×Int)}{room:Int}{n:Nat}{ws:List (List Nat)}(h:ia E room n [0]=some ws)(w:List Nat):w∈ws <-> ∃p,xU E 0 w p/\((0:Int)::p).Nodup/\((0:Int)::p).getLast?=some room:=by
 rw[MQ (cur:=0) rfl h w];constructor
 ·rintro⟨p,ah,ar,br,cF⟩;exact⟨p,ah,eW.mpr ⟨λz=>br 0 z (by simp),ar⟩,cF⟩
 ·rintro⟨p,ah,ar,cF⟩;have aS:=eW.mp ar;exact⟨p,ah,aS.2,λy a6 z=>aS.1 (by have:y=0:=(by simpa using z);exact this▸a6),cF⟩
end eA
end
section
namespace cf
open D PySem
structure hp where
 fA:Str
 ke:Str
 ov:List Str
 uses:Int
structure bf where
 cq:List (Str×Str)
 codes:List hp
 leave:Int
 o4:Int
 loud:Int
structure a9 where
 mode:Str
 left:Int
 hM:Option Str
 lines:List (Str×Str)
 d4:List Str
 hF:Int
 dp:List Str
 tries:Int
 locked:Int
 used:List (Str×Int)
 past:Int
 told:List (Int×Str×Option Str)
noncomputable def hR:Option Str->T
|none=>.none
|some x=>.str x
noncomputable def eR(z:Str×Str):T:=.tuple [.str z.1,.str z.2]
noncomputable def di(c:hp):T:=.tuple [.str c.fA,.str c.ke,.tuple (c.ov.map .str),.int c.uses]
noncomputable def cb(p:bf):T:=.tuple [.tuple (p.cq.map eR),.tuple (p.codes.map di),.tuple [.int p.leave,.int p.o4,.int p.loud]]
noncomputable def mi(w:Int×Str×Option Str):T:=.tuple [.int w.1,.str w.2.1,hR w.2.2]
noncomputable def iR(l:List (Str×Str)):List (D.Key×T):=l.map λp=>(.inr p.1,.str p.2)
noncomputable def gH(l:List (Str×Int)):List (D.Key×T):=l.map λp=>(.inr p.1,.int p.2)
noncomputable def encC(p:bf)(c:a9):List aO:=[.aa (cb p),.aa (.str c.mode),.aa (.int c.left),.aa (hR c.hM),.h4 (iR c.lines),.own (c.d4.map .str),.aa (.int c.hF),.own (c.dp.map .str),.aa (.int c.tries),.aa (.int c.locked),.h4 (gH c.used),.aa (.int c.past),.own (c.told.map mi)]
def ahy:¬(("off":Str)="leaving"):=by decide +kernel
def akT:¬(("off":Str)="on"):=by decide +kernel
def DR:¬(("off":Str)="coming"):=by decide +kernel
def ahz:¬(("leaving":Str)="off"):=by decide +kernel
def ahQ:¬(("leaving":Str)="on"):=by decide +kernel
def RP:¬(("leaving":Str)="coming"):=by decide +kernel
def akS:¬(("on":Str)="off"):=by decide +kernel
def ahO:¬(("on":Str)="leaving"):=by decide +kernel
def Mh:¬(("on":Str)="coming"):=by decide +kernel
def ahS:¬(("coming":Str)="off"):=by decide +kernel
def ahg:¬(("coming":Str)="leaving"):=by decide +kernel
def ail:¬(("coming":Str)="on"):=by decide +kernel
def aid:¬(("shut":Str)="open"):=by decide +kernel
def aiR:¬(("shut":Str)="cut"):=by decide +kernel
def aif:¬(("open":Str)="shut"):=by decide +kernel
def aiS:¬(("open":Str)="cut"):=by decide +kernel
def aiW:¬(("cut":Str)="shut"):=by decide +kernel
def aiX:¬(("cut":Str)="open"):=by decide +kernel
def aik:¬(("day":Str)="inner"):=by decide +kernel
def aiV:¬(("day":Str)="once"):=by decide +kernel
def ajM:¬(("day":Str)="way"):=by decide +kernel
def aij:¬(("inner":Str)="day"):=by decide +kernel
def ahR:¬(("inner":Str)="once"):=by decide +kernel
def aii:¬(("inner":Str)="way"):=by decide +kernel
def aiU:¬(("once":Str)="day"):=by decide +kernel
def ahN:¬(("once":Str)="inner"):=by decide +kernel
def aiT:¬(("once":Str)="way"):=by decide +kernel
def ajL:¬(("way":Str)="day"):=by decide +kernel
def aic:¬(("way":Str)="inner"):=by decide +kernel
def aiQ:¬(("way":Str)="once"):=by decide +kernel
def aie:¬(("set":Str)="unset"):=by decide +kernel
def Mg:¬(("set":Str)="shunt"):=by decide +kernel
def D3:¬(("set":Str)="free"):=by decide +kernel
def Me:¬(("unset":Str)="set"):=by decide +kernel
def RZ:¬(("unset":Str)="shunt"):=by decide +kernel
def Mb:¬(("unset":Str)="free"):=by decide +kernel
def Mf:¬(("shunt":Str)="set"):=by decide +kernel
def DN:¬(("shunt":Str)="unset"):=by decide +kernel
def ahM:¬(("shunt":Str)="free"):=by decide +kernel
def Ms:¬(("free":Str)="set"):=by decide +kernel
def DS:¬(("free":Str)="unset"):=by decide +kernel
def DT:¬(("free":Str)="shunt"):=by decide +kernel
def aih:¬(("line":Str)="code"):=by decide +kernel
def ahP:¬(("line":Str)="ticks"):=by decide +kernel
def aim:¬(("code":Str)="line"):=by decide +kernel
def ahT:¬(("code":Str)="ticks"):=by decide +kernel
def ahK:¬(("ticks":Str)="line"):=by decide +kernel
def ahL:¬(("ticks":Str)="code"):=by decide +kernel
noncomputable def tell(w:Str)(n:Option Str)(c:a9):a9:={c with told:=c.told++[(c.past,w,n)]}
noncomputable def mh(p:bf)(c:a9):a9:={c with hF:=p.loud}
noncomputable def gE(p:bf)(z:Str)(c:a9):a9:=if z∈c.dp then mh p c else tell "alarm" (some z) {mh p c with dp:=c.dp++[z]}
section
variable (p:bf)(c:a9)
def E4:(encC p c).length=13:=rfl
def bO:(encC p c)[0]?=some (.aa (cb p)):=rfl
def az:(encC p c)[1]?=some (.aa (.str c.mode)):=rfl
def aM:(encC p c)[2]?=some (.aa (.int c.left)):=rfl
def dS:(encC p c)[3]?=some (.aa (hR c.hM)):=rfl
def iT:(encC p c)[4]?=some (.h4 (iR c.lines)):=rfl
def Ba:(encC p c)[5]?=some (.own (c.d4.map .str)):=rfl
def v_:(encC p c)[6]?=some (.aa (.int c.hF)):=rfl
def v':(encC p c)[7]?=some (.own (c.dp.map .str)):=rfl
def Bb:(encC p c)[8]?=some (.aa (.int c.tries)):=rfl
def wb:(encC p c)[9]?=some (.aa (.int c.locked)):=rfl
def A_:(encC p c)[10]?=some (.h4 (gH c.used)):=rfl
def A':(encC p c)[11]?=some (.aa (.int c.past)):=rfl
def yf:(encC p c)[12]?=some (.own (c.told.map mi)):=rfl
def s1(x:Str):(encC p c).set 1 (.aa (.str x))=encC p {c with mode:=x}:=rfl
def s2(x:Int):(encC p c).set 2 (.aa (.int x))=encC p {c with left:=x}:=rfl
def s3(x:Str):(encC p c).set 3 (.aa (.str x))=encC p {c with hM:=some x}:=rfl
def CP:(encC p c).set 3 (.aa .none)=encC p {c with hM:=none}:=rfl
def s4(l:List (Str×Str)):(encC p c).set 4 (.h4 (iR l))=encC p {c with lines:=l}:=rfl
def s5(l:List Str):(encC p c).set 5 (.own (l.map .str))=encC p {c with d4:=l}:=rfl
def CQ:(encC p c).set 5 (.own [])=encC p {c with d4:=[]}:=rfl
def cE(x:Int):(encC p c).set 6 (.aa (.int x))=encC p {c with hF:=x}:=rfl
def eb(l:List Str):(encC p c).set 7 (.own (l.map .str))=encC p {c with dp:=l}:=rfl
def CS:(encC p c).set 7 (.own [])=encC p {c with dp:=[]}:=rfl
def CR(l:List Str)(z:Str):(encC p c).set 7 (.own (l.map .str++[.str z]))=encC p {c with dp:=l++[z]}:=by simp[encC]
def eF(x:Int):(encC p c).set 8 (.aa (.int x))=encC p {c with tries:=x}:=rfl
def zo(x:Int):(encC p c).set 9 (.aa (.int x))=encC p {c with locked:=x}:=rfl
def CN(l:List (Str×Int)):(encC p c).set 10 (.h4 (gH l))=encC p {c with used:=l}:=rfl
def gc(x:Int):(encC p c).set 11 (.aa (.int x))=encC p {c with past:=x}:=rfl
def apr(l:List (Int×Str×Option Str))(i:Int)(w:Str)(n:Option Str):(encC p c).set 12 (.own (l.map mi++[.tuple [.int i,.str w,hR n]]))=encC p {c with told:=l++[(i,w,n)]}:=by simp[encC,mi]
end
end cf
open D cf
open PySem hiding run fresh code
local macro_rules
| `(tactic| simp! [iE,$xs,*] $[$l]?)=>`(tactic| simp[E4,bO,az,aM,dS,iT,Ba,v_,v',Bb,wb,A_,A',yf,s1,s2,s3,CP,s4,s5,CQ,cE,eb,CS,CR,eF,zo,CN,gc,apr,runM,l1,lE,qN,dX,dR,aoT,zi,ao0,apo,e7,nT,q8,q7,jr,i5,fld,hO,pb,rf,pa,tL,tR,ao1,r_,x7,ql,mM,c2,seq,iff,bt,g5,e0,fD,gZ,d7,ofT,cU,aj,aX,args,ae,nm,au,b9,skip,asg,hr,iP,par,a0,fa,fP,fW,aT,eI,fm,bw,dv,gI,dy,comp,hn,$xs,*] $[$l]?)
local macro_rules
| `(tactic| simp! [i7,$xs,*] $[$l]?)=>`(tactic| simp[c2,seq,iff,bt,g5,e0,fD,gZ,d7,ofT,cU,aj,aX,args,ae,nm,au,b9,skip,asg,hr,iP,par,a0,fa,fP,fW,aT,eI,fm,bw,dv,gI,dy,comp,hn,$xs,*] $[$l]?)
| `(tactic| simp! [i7] $[$l]?)=>`(tactic| simp[c2,seq,iff,bt,g5,e0,fD,gZ,d7,ofT,cU,aj,aX,args,ae,nm,au,b9,skip,asg,hr,iP,par,a0,fa,fP,fW,aT,eI,fm,bw,dv,gI,dy,comp,hn] $[$l]?)
local macro_rules
| `(tactic| simp! [jS,$xs,*] $[$l]?)=>`(tactic| simp[bV,aoR,dU,oDiv,oMod,iB,iA,pw,om,gA,E0,ry,oLt,oLe,iz,sU,big,E4,bO,az,aM,dS,iT,Ba,v_,v',Bb,wb,A_,A',yf,s1,s2,s3,CP,s4,s5,CQ,cE,eb,CS,CR,eF,zo,CN,gc,apr,runM,l1,lE,qN,dX,dR,aoT,zi,ao0,apo,e7,nT,q8,q7,jr,i5,fld,hO,pb,rf,pa,tL,tR,ao1,r_,x7,ql,mM,c2,seq,iff,bt,g5,e0,fD,gZ,d7,ofT,cU,aj,aX,args,ae,nm,au,b9,skip,asg,hr,iP,par,a0,fa,fP,fW,aT,eI,fm,bw,dv,gI,dy,comp,hn,$xs,*] $[$l]?)
local macro_rules
| `(tactic| simp! [qu,$xs,*] $[$l]?)=>`(tactic| simp[runM,l1,lE,qN,dX,dR,aoT,zi,ao0,apo,e7,nT,q8,q7,jr,i5,fld,hO,pb,rf,pa,tL,tR,ao1,r_,x7,ql,mM,c2,seq,iff,bt,g5,e0,fD,gZ,d7,ofT,cU,aj,aX,args,ae,nm,au,b9,skip,asg,hr,iP,par,a0,fa,fP,fW,aT,eI,fm,bw,dv,gI,dy,comp,hn,$xs,*] $[$l]?)
local macro_rules
| `(tactic| simp! [h8,$xs,*] $[$l]?)=>`(tactic| simp[E4,bO,az,aM,dS,iT,Ba,v_,v',Bb,wb,A_,A',yf,s1,s2,s3,CP,s4,s5,CQ,cE,eb,CS,CR,eF,zo,CN,gc,apr,runM,l1,lE,qN,dX,dR,aoT,zi,ao0,apo,e7,nT,q8,q7,jr,i5,fld,hO,pb,rf,pa,tL,tR,ao1,r_,x7,ql,mM,ahy,akT,DR,ahz,ahQ,RP,akS,ahO,Mh,ahS,ahg,ail,aid,aiR,aif,aiS,aiW,aiX,aik,aiV,ajM,aij,ahR,aii,aiU,ahN,aiT,ajL,aic,aiQ,aie,Mg,D3,Me,RZ,Mb,Mf,DN,ahM,Ms,DS,DT,aih,ahP,aim,ahT,ahK,ahL,c2,seq,iff,bt,g5,e0,fD,gZ,d7,ofT,cU,aj,aX,args,ae,nm,au,b9,skip,asg,hr,iP,par,a0,fa,fP,fW,aT,eI,fm,bw,dv,gI,dy,comp,hn,$xs,*] $[$l]?)
local macro_rules
| `(tactic| simp! [Li,$xs,*] $[$l]?)=>`(tactic| simp[bV,aoR,dU,oDiv,oMod,iB,iA,pw,om,gA,E0,ry,oLt,oLe,iz,sU,big,c2,seq,iff,bt,g5,e0,fD,gZ,d7,ofT,cU,aj,aX,args,ae,nm,au,b9,skip,asg,hr,iP,par,a0,fa,fP,fW,aT,eI,fm,bw,dv,gI,dy,comp,hn,$xs,*] $[$l]?)
local macro_rules
| `(tactic| simp! [af6,$xs,*] $[$l]?)=>`(tactic| simp[runM,l1,lE,qN,dX,dR,aoT,zi,ao0,apo,e7,nT,q8,q7,jr,i5,fld,hO,pb,rf,pa,tL,tR,ao1,r_,x7,ql,mM,$xs,*] $[$l]?)
local macro_rules
| `(tactic| simp! [af7,$xs,*] $[$l]?)=>`(tactic| simp[E4,bO,az,aM,dS,iT,Ba,v_,v',Bb,wb,A_,A',yf,s1,s2,s3,CP,s4,s5,CQ,cE,eb,CS,CR,eF,zo,CN,gc,apr,$xs,*] $[$l]?)
local macro_rules
| `(tactic| simp! [gL,$xs,*] $[$l]?)=>`(tactic| simp[c2,seq,iff,bt,g5,e0,fD,gZ,d7,ofT,cU,aj,aX,args,ae,nm,au,b9,skip,asg,hr,iP,par,a0,fa,fP,fW,bw,dv,gI,dy,comp,hn,$xs,*] $[$l]?)
| `(tactic| simp! [gL] $[$l]?)=>`(tactic| simp[c2,seq,iff,bt,g5,e0,fD,gZ,d7,ofT,cU,aj,aX,args,ae,nm,au,b9,skip,asg,hr,iP,par,a0,fa,fP,fW,bw,dv,gI,dy,comp,hn] $[$l]?)
namespace cf
open D PySem
noncomputable def cP(x:Str):Prop:=(mF x).canLay0=true
def d0{x y:Str}(ah:cP x)(ar:cP y):oEq (.str x) (.str y)=some (.bool (decide (x=y))):=by
 unfold oEq;rw[xn ah,xn ar];by_cases e:x=y <;> simp[gf,e]
def qL{x y:Str}(ah:cP x)(ar:cP y):i4 (.str x) (.str y)=some (.bool (!decide (x=y))):=by
 unfold i4;rw[xn ah,xn ar];by_cases e:x=y <;> simp[gf,e]
def tp(neg:Bool){n:Str}{ns:List Str}(h0:cP n)(h:∀x∈ns,cP x):eS neg (.str n) (.list (ns.map .str))=some (.bool (if neg then !decide (n∈ns) else decide (n∈ns))):=by
 simp only[eS,xn h0,MF ns h,M4];rfl
def Er(neg:Bool){n:Str}{ns:List Str}(h0:cP n)(h:∀x∈ns,cP x):eS neg (.str n) (.tuple (ns.map .str))=some (.bool (if neg then !decide (n∈ns) else decide (n∈ns))):=alU neg n ns h0 h
def Ud(p:bf)(c:a9)(w:Str)(n:Option Str)(h:c.told.length<big):gy [.obj .d9 0 (encC p c),.aa (.str w),.aa (hR n)]=some (.none,encC p (tell w n c)):=by
 have h':c.told.length<16777216:=h;simp! [iE,gy,R1,tell,big,h']
def D8(p:bf)(c:a9)(w:Str)(h:c.told.length<big):gy [.obj .d9 0 (encC p c),.aa (.str w),.aa .none]=some (.none,encC p (tell w none c)):=Ud p c w none h
def rZ(p:bf)(c:a9)(w z:Str)(h:c.told.length<big):gy [.obj .d9 0 (encC p c),.aa (.str w),.aa (.str z)]=some (.none,encC p (tell w (some z) c)):=Ud p c w (some z) h
def Mv(p:bf)(c:a9):vm [.obj .d9 0 (encC p c)]=some (.none,encC p (mh p c)):=by
 simp! [iE,vm,RR,mh,cb]
structure bo(p:bf)(c:a9):Prop where
 zn:∀z∈p.cq,cP z.1/\cP z.2
 fw:∀k∈p.codes,cP k.fA/\cP k.ke/\∀r∈k.ov,cP r
 fM:p.cq.length<=40
 mo:cP c.mode
 ca:∀z,c.hM=some z->cP z/\z∈p.cq.map (·.1)
 lN:c.mode="coming"->c.hM≠none
 ln:c.lines.map (·.1)=p.cq.map (·.1)
 lo:∀l∈c.lines,cP l.2
 us:c.used.map (·.1)=p.codes.map (·.fA)
 hj:c.d4.Nodup/\∀z∈c.d4,z∈p.cq.map (·.1)
 al:c.dp.Nodup/\∀z∈c.dp,z∈p.cq.map (·.1)
def bo.j'{p:bf}{c:a9}(h:bo p c){z:Str}(hz:z∈p.cq.map (·.1)):cP z:=by
 obtain⟨x,hx,rfl⟩:=dP.mp hz;exact (h.zn x hx).1
def bo.y_{p:bf}{c:a9}(h:bo p c):∀z∈c.d4,cP z:=λz hz=>h.j' (h.hj.2 z hz)
def bo.adX{p:bf}{c:a9}(h:bo p c):∀z∈c.dp,cP z:=λz hz=>h.j' (h.al.2 z hz)
def S3{α:Type}[BEq α][LawfulBEq α]{l m:List α}(h:l.Nodup)(aA:∀x∈l,x∈m):l.length<=m.length:=by
 induction l generalizing m with
|nil=>simp
|cons x l bT=>
  obtain⟨ah,ar⟩:=eW.mp h;have hx:=aA x fQ;have:=bT (m:=m.erase x) ar λy a6=>(List.mem_erase_of_ne (λe:y=x=>ah (e▸a6))).mpr (aA y (dK _ a6));have aG:=List.length_erase_of_mem hx;have:=List.length_pos_of_mem hx;simp only[eX];omega
def bo.OB{p:bf}{c:a9}(h:bo p c):c.dp.length<=40:=by
 have:=S3 h.al.1 h.al.2;have:=h.fM;simp at *;omega
def bo.Q6{p:bf}{c:a9}(h:bo p c):c.d4.length<=40:=by
 have:=S3 h.hj.1 h.hj.2;have:=h.fM;simp at *;omega
def Ex(p:bf)(c:a9)(z:Str)(h:bo p c)(hz:cP z)(bp:c.told.length<big):mH [.obj .d9 0 (encC p c),.aa (.str z)]=some (.none,encC p (gE p z c)):=by
 have aC:=h.OB;have wo:eS true (.str z) (.list (c.dp.map .str))=some (.bool (!decide (z∈c.dp))):=by rw[tp true hz h.adX];rfl
 have af:(mh p c).dp=c.dp:=rfl;have eL:c.dp.length<16777216:=by omega
 by_cases hm:z∈c.dp
 ·simp! [iE,mH,L6,Mv,af,wo,hm,gE]
 ·have h9:({mh p c with dp:=c.dp++[z]}:a9).told.length<big:=bp;simp! [iE,mH,L6,Mv,af,wo,hm,gE,big,eL,rZ p _ "alarm" z h9]
noncomputable def kindOf(p:bf)(z:Str):Str:=((p.cq.find? λx=>decide (x.1=z)).map (·.2)).getD ""
noncomputable def AA(p:bf)(f:Str):Option hp:=p.codes.find? λk=>decide (k.fA=f)
theorem S7{z:Str}(hz:cP z)(s0:Option aO):∀(zs:List (Str×Str)) (t0:Option aO),(∀x∈zs,cP x.1)->z∈zs.map (·.1)->forL (bw 2) (iff (bt (aj oEq (aj aT (nm 2) (ae (.int 0))) (nm 1))) (b9 (aj aT (nm 2) (ae (.int 1)))) skip) (zs.map eR) [s0,some (.aa (.str z)),t0]=some (.dn (.str (((zs.find? λx=>decide (x.1=z)).map (·.2)).getD "")))
| [],t0,_,h=>by simp at h
|x::zs,t0,aJ,h=>by
  have e:=d0 (aJ x (by simp)) hz;by_cases hx:x.1=z
  ·simp! [i7,forL,eR,hx,d0 hz hz]
  ·have h':z∈zs.map (·.1):=by
    rw[de] at h;rcases cM.mp h with q|q
    ·exact absurd q.symm hx
    ·exact q
   have bT:=S7 hz s0 zs (some (.aa (eR x))) (λy a6=>aJ y (dK _ a6)) h';simp[eR] at bT;simp! [i7,forL,eR,hx,e];simpa [c2,seq,iff,bt,g5,e0,fD,gZ,d7,ofT,cU,aj,aX,args,ae,nm,au,b9,skip,asg,hr,iP,par,a0,fa,fP,fW,aT,eI,fm,bw,dv,gI,dy,comp,hn] using bT
def Sz{p:bf}{z:Str}(aJ:∀x∈p.cq,cP x.1/\cP x.2)(hz:z∈p.cq.map (·.1)):vu [cb p,.str z]=some (.str (kindOf p z)):=by
 obtain⟨x,hx,rfl⟩:=dP.mp hz;have:=S7 (aJ x hx).1 (some (.aa (cb p))) p.cq none (λy a6=>(aJ y a6).1) hz;simp! [i7,vu,Tu,d1,cb] at this ⊢;simp[this,kindOf]
noncomputable def apf:Option hp->T
|none=>.none
|some k=>di k
theorem Ti{f:Str}(hf:cP f)(s0:Option aO):∀(a':List hp) (t0:Option aO),(∀k∈a',cP k.fA)->forL (bw 2) (iff (bt (aj oEq (aj aT (nm 2) (ae (.int 0))) (nm 1))) (b9 (nm 2)) skip) (a'.map di) [s0,some (.aa (.str f)),t0] =
   match a'.find? λk=>decide (k.fA=f) with
   |some k=>some (.dn (di k))
   |none=>some (.bI [s0,some (.aa (.str f)),(a'.getLast?.map λk=>aO.aa (di k)).elim t0 some])
| [],t0,_=>by simp[forL]
|k::a',t0,aJ=>by
  have e:=d0 (aJ k (by simp)) hf;by_cases hx:k.fA=f
  ·simp! [i7,forL,di,hx,d0 hf hf]
  ·have bT:=Ti hf s0 a' (some (.aa (di k))) (λy a6=>aJ y (dK _ a6));simp only[de,forL];simp! [i7,di,hx,e] at bT ⊢;rw[bT];cases a' with
   |nil=>simp
   |cons jJ a'=>simp[List.getLast?_cons]
def aje{p:bf}{f:Str}(aJ:∀k∈p.codes,cP k.fA)(hf:cP f):z8 [cb p,.str f]=some (apf (AA p f)):=by
 have:=Ti hf (some (.aa (cb p))) p.codes none aJ;simp! [i7,z8,Tv,d1,cb] at this ⊢;rw[this];unfold AA;cases e:p.codes.find? λk=>decide (k.fA=f) with
|none=>simp[apf]
|some k=>simp[apf]
noncomputable def pV(c:a9)(z:Str):Str:=(c.lines.lookup z).getD ""
noncomputable def ow(l:List (Str×Str))(z w:Str):List (Str×Str):=l.map λp=>if p.1=z then (z,w) else p
noncomputable def UU(c:a9)(f:Str):Int:=(c.used.lookup f).getD 0
noncomputable def sq(l:List (Str×Int))(f:Str):List (Str×Int):=l.map λp=>if p.1=f then (f,p.2+1) else p
theorem Vl{z:Str}:∀{l:List (Str×Str)},z∈l.map (·.1)->getD (iR l) (.inr z)=some (.str ((l.lookup z).getD ""))
  | [],h=>by simp at h
  | (k,v)::l,h=>by
    by_cases e:k=z
    · subst e
      simp[getD,iR,kN]
    · have h':z∈l.map (·.1):=by
        rw[de] at h;rcases cM.mp h with q|q
        · exact absurd q.symm e
        · exact q
      have bT:=Vl h';have ne:(z==k)=false:=beq_eq_false_iff_ne.mpr (Ne.symm e);simp only[getD,iR,de,rM] at bT ⊢;rw[decide_eq_false (λq=>e (Sum.inr.inj q))];simp only[kN,ne];exact bT
theorem NQ{z:Str}:∀{l:List (Str×Int)},z∈l.map (·.1)->getD (gH l) (.inr z)=some (.int ((l.lookup z).getD 0))
  | [],h=>by simp at h
  | (k,v)::l,h=>by
    by_cases e:k=z
    · subst e
      simp[getD,gH,kN]
    · have h':z∈l.map (·.1):=by
        rw[de] at h;rcases cM.mp h with q|q
        · exact absurd q.symm e
        · exact q
      have bT:=NQ h';have ne:(z==k)=false:=beq_eq_false_iff_ne.mpr (Ne.symm e);simp only[getD,gH,de,rM] at bT ⊢;rw[decide_eq_false (λq=>e (Sum.inr.inj q))];simp only[kN,ne];exact bT
def anU{z:Str}{l:List (Str×Str)}(h:z∈l.map (·.1)):(iR l).any (λp=>decide (p.1=(Sum.inr z:D.Key)))=true:=by
 obtain⟨x,hx,rfl⟩:=dP.mp h;rw[List.any_eq_true];exact⟨(.inr x.1,.str x.2),dP.mpr ⟨x,hx,rfl⟩,by simp⟩
def anV{z:Str}{l:List (Str×Int)}(h:z∈l.map (·.1)):(gH l).any (λp=>decide (p.1=(Sum.inr z:D.Key)))=true:=by
 obtain⟨x,hx,rfl⟩:=dP.mp h;rw[List.any_eq_true];exact⟨(.inr x.1,.int x.2),dP.mpr ⟨x,hx,rfl⟩,by simp⟩
def amD{z w:Str}{l:List (Str×Str)}(h:z∈l.map (·.1)):putD (iR l) (.inr z) (.str w)=iR (ow l z w):=by
 unfold putD;rw[anU h,if_pos rfl];simp only[iR,ow,nE];refine List.map_congr_left λx _=>?_;by_cases e:x.1=z
 ·simp[e]
 ·have:¬(Sum.inr x.1:D.Key)=Sum.inr z:=λq=>e (Sum.inr.inj q);simp[e,this]
def amE{z:Str}{l:List (Str×Int)}(h:z∈l.map (·.1))(aS:(l.map (·.1)).Nodup):putD (gH l) (.inr z) (.int ((l.lookup z).getD 0+1))=gH (sq l z):=by
 unfold putD;rw[anV h,if_pos rfl];simp only[gH,sq,nE];refine List.map_congr_left λx hx=>?_;by_cases e:x.1=z
 ·have:∀{l:List (Str×Int)},x∈l->(l.map (·.1)).Nodup->l.lookup x.1=some x.2:=by
   intro l
   induction l with
   |nil=>intro h;simp at h
   |cons y l bT=>
    intro h aS;rcases cM.mp h with rfl|h
    ·simp[kN]
    ·rw[de,eW] at aS;have ne:(x.1==y.1)=false:=beq_eq_false_iff_ne.mpr λq=>aS.1 (q▸dP.mpr ⟨x,h,rfl⟩);simp only[kN,ne];exact bT h aS.2
  have aG:=this hx aS;subst e;simp[aG]
 ·have:¬(Sum.inr x.1:D.Key)=Sum.inr z:=λq=>e (Sum.inr.inj q);simp[e,this]
theorem tE{α:Type}{cc:fX}{hc:bZ}{caps:Ev}(enc:α->T)(q:α->Bool)(f:α->T):∀(ts:List α) (s0:Option aO),(∀a∈ts,cc (some (.aa (enc a))::caps)=some (q a)/\(q a=true->hc (some (.aa (enc a))::caps)=some (f a)))->g9 (bw 0) cc hc (ts.map enc) (s0::caps)=some ((ts.filter q).map f)
| [],_,_=>rfl
|a::ts,s0,h=>by
  obtain⟨ah,ar⟩:=h a (by simp);have bT:=tE enc q f ts (some (.aa (enc a))) λb af=>h b (dK _ af);simp only[de,g9,bw,gd,cn,ah];cases a5:q a with
  |false=>simp[bT,a5]
  |true=>simp[bT,a5,ar a5]
noncomputable def bare(p:bf)(kinds:List Str)(c:a9):List Str:=((p.cq.filter λz=>decide (z.2∈kinds)).map (·.1)).filter λz=>decide (pV c z≠"shut") && !decide (z∈c.d4)
def bN(x:Str)(h:(mF x).canLay0=true:=by decide +kernel):cP x:=h
theorem Sy{α:Type}{z:Str}:∀{l:List (Str×α)} {v:α},l.lookup z=some v->(z,v)∈l
  | [],v,h=>by cases h
  | (k,x)::l,v,h=>by
    rw[aoS] at h;split at h
    next q=>
      cases h
      have:z=k:=by simpa using q
      subst this;simp
    next=>exact dK _ (Sy h)
def bo.y9{p:bf}{c:a9}(h:bo p c)(z:Str):cP (pV c z):=by
 unfold pV;cases e:c.lines.lookup z with
|none=>exact bN ""
|some v=>exact h.lo _ (Sy e)
def bo.Qx{p:bf}{c:a9}(h:bo p c){z:Str}(hz:z∈p.cq.map (·.1)):getD (iR c.lines) (.inr z)=some (.str (pV c z)):=Vl (by rw[h.ln];exact hz)
def UL(p:bf)(c:a9)(a':List Str)(m:jz)(h:bo p c)(aI:∀k∈a',cP k):vk [.obj m 0 (encC p c),.aa (.tuple (mM a'))]=some (.list ((bare p a' c).map .str)):=by
 have Ql:=h.fM;have cV:=tE (cc:=bt (aj (eS false) (unop%W7 0) (nm 1))) (hc:=aj aT (nm 0) (ae (.int 0))) (caps:=[some (.aa (.tuple (mM a')))]) eR (λz=>decide (z.2∈a')) (λz=>.str z.1) p.cq none λz hz=>by
  have:=Er false (h.zn z hz).2 aI;simp at this;constructor
  ·simp! [i7,eR,mM,this]
  ·intro _;simp! [i7,eR]
 have dj:=tE (cc:=e0 (bt (aj i4 (pa 0 1 4 (nm 0)) (ae (.str "shut")))) (bt (aj (eS true) (nm 0) (fld 0 1 5)))) (hc:=au 0) (caps:=[some (.obj m 0 (encC p c))]) mF (λz=>decide (pV c z≠"shut") && !decide (z∈c.d4)) mF ((p.cq.filter λz=>decide (z.2∈a')).map (·.1)) none λz hz=>by
  have BY:z∈p.cq.map (·.1):=by
   obtain⟨x,hx,rfl⟩:=dP.mp hz;exact dP.mpr ⟨x,(List.mem_filter.mp hx).1,rfl⟩
  have az:=h.Qx BY;have aM:=qL (h.y9 z) (bN "shut");have dS:=tp true (h.j' BY) h.y_;simp at dS;constructor
  ·by_cases aA:pV c z="shut"
   ·simp! [iE,iL,az,aM,aA,qL (bN "shut") (bN "shut")]
   ·simp! [iE,iL,az,aM,dS,aA]
  ·intro _;simp! [i7]
 have cu:(p.cq.map eR).length<=16777216:=by simp;omega
 have cD:(((p.cq.filter λz=>decide (z.2∈a')).map λz=>mF z.1)).length<=16777216:=by
  rw[fh];have:=Dj (λz:Str×Str=>decide (z.2∈a')) p.cq;omega
 simp only[nE,ny] at dj;simp only[vk,RL,l1,lE];simp! [iE,cb] at cV dj ⊢;have uA:p.cq.length<=big:=by unfold big;omega
 have ml:(p.cq.filter λz=>decide (z.2∈a')).length<=big:=by
  have:=Dj (λz:Str×Str=>decide (z.2∈a')) p.cq;omega
 rw[if_pos uA,cV];simp only[dF,cn,ft,e4,Function.comp_apply,fh,ml,if_true,Option.join_some];rw[dj];simp[bare]
noncomputable def lO(p:bf)(z k:Str)(c:a9):a9:=if k≠"way"\/p.o4<=0 then gE p z c else tell "coming" (some z) {c with mode:="coming",left:=p.o4,hM:=some z}
noncomputable def m8(p:bf)(z w:Str)(c:a9):a9:=
 if kindOf p z="day" then gE p z c
 else if c.mode="off" then (if w="cut" then tell "fault" (some z) c else c)
 else if w="cut"\/kindOf p z="once" then gE p z c
 else if c.mode="on" then lO p z (kindOf p z) c else c
noncomputable def line(p:bf)(z w:Str)(c:a9):a9:=
 if w=pV c z then c
 else if w="shut" then (if pV c z="cut" then tell "mended" (some z) {c with lines:=ow c.lines z w} else {c with lines:=ow c.lines z w})
 else if z∈c.d4 then {c with lines:=ow c.lines z w} else m8 p z w {c with lines:=ow c.lines z w}
def ajd(p:bf)(c:a9)(z k:Str)(h:bo p c)(hz:cP z)(aI:cP k)(bp:c.told.length<big):vl [.obj .d9 0 (encC p c),.aa (.str z),.aa (.str k)]=some (.none,encC p (lO p z k c)):=by
 have e:=qL aI (bN "way");have ea:=Ex p c z h hz bp;by_cases ah:k="way"
 ·by_cases ar:p.o4<=0
  ·simp! [jS,vl,DB,cb,e,ah,ar,ea,lO];simp! [qu,qL (bN "way") (bN "way"),ea,ar]
  ·have bY:=rZ p {c with mode:="coming",left:=p.o4,hM:=some z} "coming" z bp;simp! [jS,vl,DB,cb,ah,ar,lO];simp! [jS,qL (bN "way") (bN "way"),bY,ar,cb]
 ·simp! [jS,vl,DB,cb,e,ah,ea,lO]
def ajb(p:bf)(c:a9)(z w:Str)(h:bo p c)(hz:z∈p.cq.map (·.1))(hw:cP w)(bp:c.told.length<big):zN [.obj .d9 0 (encC p c),.aa (.str z),.aa (.str w)]=some (.none,encC p (m8 p z w c)):=by
 have gn:=Sz h.zn hz;have Ic:cP (kindOf p z):=by
  unfold kindOf;cases e:p.cq.find? λx=>decide (x.1=z) with
  |none=>exact bN ""
  |some x=>exact (h.zn x (List.mem_of_find?_eq_some e)).2
 have ea:=Ex p c z h (h.j' hz) bp;have bY:=rZ p c "fault" z bp;have fI:=ajd p c z (kindOf p z) h (h.j' hz) Ic bp;have aQ:=d0 Ic (bN "day");have bu:=d0 h.mo (bN "off");have df:=d0 hw (bN "cut");have kG:=d0 Ic (bN "once");have uX:=d0 h.mo (bN "on");simp only[zN,RQ,m8];by_cases ah:kindOf p z="day"
 ·simp! [h8,gn,aQ,ah,ea];simp! [qu,d0 (bN "day") (bN "day"),ea]
 ·by_cases ar:c.mode="off"
  ·by_cases br:w="cut"
   ·simp! [h8,gn,aQ,ah,bu,ar,df,br,bY,d0 (bN "off") (bN "off"),d0 (bN "cut") (bN "cut")]
   ·simp! [h8,gn,aQ,ah,bu,ar,df,br,bY,d0 (bN "off") (bN "off")]
  ·by_cases br:w="cut"
   ·simp! [h8,gn,aQ,ah,bu,ar,df,br,ea,d0 (bN "cut") (bN "cut")]
   ·by_cases cF:kindOf p z="once"
    ·simp! [h8,gn,aQ,ah,bu,ar,df,br,kG,cF,ea,d0 (bN "once") (bN "once"),d0 (bN "once") (bN "day")]
    ·by_cases gq:c.mode="on"
     ·simp! [h8,gn,aQ,ah,bu,ar,df,br,kG,cF,uX,gq,fI,d0 (bN "on") (bN "on"),d0 (bN "on") (bN "off")]
     ·simp! [h8,gn,aQ,ah,bu,ar,df,br,kG,cF,uX,gq,fI]
def ajv(l:List (Str×Str))(z w:Str):(ow l z w).map (·.1)=l.map (·.1):=by
 unfold ow;rw[nE];refine List.map_congr_left λx _=>?_;by_cases e:x.1=z <;> simp[e]
def aki(l:List (Str×Int))(z:Str):(sq l z).map (·.1)=l.map (·.1):=by
 unfold sq;rw[nE];refine List.map_congr_left λx _=>?_;by_cases e:x.1=z <;> simp[e]
def bo.Q4{p:bf}{c:a9}(h:bo p c)(z:Str){w:Str}(hw:cP w):bo p {c with lines:=ow c.lines z w}:=
 ⟨h.zn,h.fw,h.fM,h.mo,h.ca,h.lN,(ajv _ _ _).trans h.ln,λl aG=>by
  obtain⟨x,hx,rfl⟩:=dP.mp aG;by_cases e:x.1=z
  ·rw[if_pos e];exact hw
  ·rw[if_neg e];exact h.lo x hx,h.us,h.hj,h.al⟩
theorem bo.tell{p:bf}{c:a9}(h:bo p c)(w:Str)(n:Option Str):bo p (cf.tell w n c):=⟨h.zn,h.fw,h.fM,h.mo,h.ca,h.lN,h.ln,h.lo,h.us,h.hj,h.al⟩
def bo.loud{p:bf}{c:a9}(h:bo p c):bo p (mh p c):=⟨h.zn,h.fw,h.fM,h.mo,h.ca,h.lN,h.ln,h.lo,h.us,h.hj,h.al⟩
theorem bo.gE{p:bf}{c:a9}(h:bo p c){z:Str}(hz:z∈p.cq.map (·.1)):bo p (cf.gE p z c):=by
 unfold cf.gE;split
 ·exact h.loud
 next hm=>
  refine bo.tell (c:={mh p c with dp:=c.dp++[z]}) ⟨h.zn,h.fw,h.fM,h.mo,h.ca,h.lN,h.ln,h.lo,h.us,h.hj,?_,?_⟩ _ _
  ·show (c.dp++[z]).Nodup
   rw[nB];exact⟨h.al.1,by simp,λa aC b af e=>hm (by simp at af;subst af;exact e▸aC)⟩
  ·intro y a6;rcases hS.mp a6 with q|q
   ·exact h.al.2 y q
   ·simp at q;exact q▸hz
def z4(p:bf)(z:Str)(c:a9):(gE p z c).told.length<=c.told.length+1:=by
 unfold gE tell mh;split <;> simp
def alV(p:bf)(c:a9)(z w:Str)(h:bo p c)(hz:z∈p.cq.map (·.1))(hw:cP w)(bp:c.told.length<big):zX [.obj .d9 0 (encC p c),.aa (.str z),.aa (.str w)]=some (.none,encC p (line p z w c)):=by
 have az:=h.Qx hz;have Ql:z∈c.lines.map (·.1):=by rw[h.ln];exact hz
 have aM:=amD (w:=w) Ql;have aQ:=d0 hw (h.y9 z);have bu:=d0 hw (bN "shut");have df:=d0 (h.y9 z) (bN "cut");have kG:=tp true (h.j' hz) h.y_;simp at kG;have hlen:(iR c.lines).length<16777216:=by
  have:=congrArg List.length h.ln;have:=h.fM;simp[iR] at *;omega
 have hd:=ajb p _ z w (h.Q4 z hw) hz hw bp;have bY:=rZ p {c with lines:=ow c.lines z w} "mended" z bp;simp only[zX,R2,line];by_cases ah:w=pV c z
 ·simp! [h8,iL,az,aQ,ah,d0 (h.y9 z) (h.y9 z)]
 ·by_cases ar:w="shut"
  ·subst ar;by_cases br:pV c z="cut"
   ·simp! [h8,big,iL,az,aM,aQ,ah,bu,df,br,hlen,bY,d0 (bN "cut") (bN "cut"),d0 (bN "shut") (bN "shut"),d0 (bN "shut") (bN "cut")]
   ·simp! [h8,big,iL,az,aM,aQ,ah,bu,df,br,hlen,d0 (bN "shut") (bN "shut")]
  ·by_cases cF:z∈c.d4
   ·simp! [h8,big,iL,az,aM,aQ,ah,bu,ar,kG,cF,hlen]
   ·simp! [h8,big,iL,az,aM,aQ,ah,bu,ar,kG,cF,hlen,hd]
noncomputable def less(a n:Int):Int:=if 0 > a - n then 0 else a - n
noncomputable def r0(n:Int)(c:a9):a9:={c with past:=c.past+n,locked:=less c.locked n,hF:=less c.hF n,left:=less c.left n}
def aio(a n:Int):vp [.int a,.int n]=some (.int (less a n)):=by
 simp! [Li,vp,SM,less]
def L9(p:bf)(c:a9)(n:Int):vj [.obj .d9 0 (encC p c),.aa (.int n)]=some (.none,encC p (r0 n c)):=by
 simp! [iE,vj,RK,aio,r0]
noncomputable def dp(p:bf)(zs:List Str)(c:a9):a9:=zs.foldl (λc z=>gE p z c) c
noncomputable def lQ(p:bf)(c:a9):a9:=dp p (bare p ["inner","way"] (unop%Wi 0)) (unop%Wi 0)
noncomputable def rb(p:bf)(c:a9):a9:=gE p (c.hM.getD "") {c with mode:="on",hM:=none}
noncomputable def lR(p:bf)(c:a9):a9:=if c.mode="leaving" then lQ p c else rb p c
noncomputable def fq(p:bf)(n:Int)(c:a9):a9:=
 if n<1 then c else if (c.mode="leaving"\/c.mode="coming")/\c.left<=n then r0 (n - c.left) (lR p (r0 c.left c)) else r0 n c
theorem SN(p:bf):∀(zs:List Str) (c:a9) (s1:Option aO),bo p c->(∀z∈zs,z∈p.cq.map (·.1))->c.told.length+zs.length<big->∃s8,forL (bw 1) (dX (dR 0 mH 0 [(au 1)])) (zs.map .str) [some (.obj .d9 0 (encC p c)),s1]=some (.bI [some (.obj .d9 0 (encC p (dp p zs c))),s8])
| [],c,s1,_,_,_=>⟨s1,by simp[forL,dp]⟩
|z::zs,c,s1,h,hz,bp=>by
  have Qn:=hz z (by simp);have ea:=Ex p c z h (h.j' Qn) (by simp at bp;omega);have:=z4 p z c;obtain⟨s8,bT⟩:=SN p zs (gE p z c) (some (.aa (.str z))) (h.gE Qn) (λy a6=>hz y (dK _ a6)) (by simp at bp;omega);refine⟨s8,?_⟩;rw[de,forL];simp! [qu,ea];simpa [c2,seq,iff,bt,g5,e0,fD,gZ,d7,ofT,cU,aj,aX,args,ae,nm,au,b9,skip,asg,hr,iP,par,a0,fa,fP,fW,aT,eI,fm,bw,dv,gI,dy,comp,hn,dp] using bT
def Eu{p:bf}{a':List Str}{c:a9}{z:Str}(h:z∈bare p a' c):z∈p.cq.map (·.1):=by
 unfold bare at h;obtain⟨x,hx,rfl⟩:=dP.mp (List.mem_filter.mp h).1;exact dP.mpr ⟨x,(List.mem_filter.mp hx).1,rfl⟩
def Ua(p:bf)(a':List Str)(c:a9):(bare p a' c).length<=p.cq.length:=by
 unfold bare;have ah:=Dj (λz=>decide (pV c z≠"shut") && !decide (z∈c.d4)) ((p.cq.filter λz=>decide (z.2∈a')).map (·.1));have ar:=Dj (λz:Str×Str=>decide (z.2∈a')) p.cq;rw[fh] at ah;omega
theorem bo.on{p:bf}{c:a9}(h:bo p c)(x:Int):bo p {c with mode:="on",left:=x}:=⟨h.zn,h.fw,h.fM,bN "on",h.ca,λe=>absurd e Mh,h.ln,h.lo,h.us,h.hj,h.al⟩
def RX(p:bf)(c:a9)(h:bo p c)(bp:c.told.length+50<big):vh [.obj .d9 0 (encC p c)]=some (.none,encC p (lQ p c)):=by
 have oB:=(h.on 0).tell "on" none;have bY:=D8 p {c with mode:="on",left:=0} "on" (by show c.told.length<big;omega);have dW:=UL p (unop%Wi 0) ["inner","way"] .hC oB (by
  intro k aI;simp at aI;rcases aI with rfl|rfl
  ·exact bN "inner"
  ·exact bN "way")
 have aG:=Ua p ["inner","way"] (unop%Wi 0);have hz:=h.fM;obtain⟨s8,lp⟩:=SN p (bare p ["inner","way"] (unop%Wi 0)) (unop%Wi 0) none oB (λz hz=>Eu hz) (by
  have:(tell "on" none {c with mode:="on",left:=0}:a9).told.length=c.told.length+1:=by simp[tell]
  omega)
 simp only[mM,de,ib] at dW;simp! [iE,vh,RI,bY,dW,d1];rw[lp];simp! [af6,lQ]
def bo.QP{p:bf}{c:a9}(h:bo p c):bo p {c with mode:="on",hM:=none}:=⟨h.zn,h.fw,h.fM,bN "on",λz e=>(nomatch e),λe=>absurd e Mh,h.ln,h.lo,h.us,h.hj,h.al⟩
def ahB(p:bf)(c:a9)(h:bo p c)(aw:c.hM≠none)(bp:c.told.length<big):zI [.obj .d9 0 (encC p c)]=some (.none,encC p (rb p c)):=by
 obtain⟨z,hz⟩:=Option.ne_none_iff_exists'.mp aw;have ea:=Ex p {c with mode:="on",hM:=none} z h.QP (h.ca z hz).1 bp;simp! [iE,zI,RJ,hz,hR,ea,rb]
def bo.cd{p:bf}{c:a9}(h:bo p c)(n:Int):bo p (r0 n c):=⟨h.zn,h.fw,h.fM,h.mo,h.ca,h.lN,h.ln,h.lo,h.us,h.hj,h.al⟩
def ais(p:bf)(c:a9)(h:bo p c)(hm:c.mode="leaving"\/c.mode="coming")(bp:c.told.length+50<big):aph [.obj .d9 0 (encC p c)]=some (.none,encC p (lR p c)):=by
 have eJ:=RX p c h bp;have q:=d0 h.mo (bN "leaving");rcases hm with hm|hm
 ·simp! [h8,aph,LW,hm,eJ,lR,d0 (bN "leaving") (bN "leaving")]
 ·have fz:=ahB p c h (h.lN hm) (by omega);simp! [h8,aph,LW,hm,fz,lR,d0 (bN "coming") (bN "leaving")]
def ako(p:bf)(c:a9)(n:Int)(h:bo p c)(bp:c.told.length+50<big):th [.obj .d9 0 (encC p c),.aa (.int n)]=some (.none,encC p (fq p n c)):=by
 have q:eS false (.str c.mode) (.tuple [.str "leaving",.str "coming"])=some (.bool (decide (c.mode="leaving"\/c.mode="coming"))):=by
  have:=Er false (n:=c.mode) (ns:=["leaving","coming"]) h.mo (by
   intro k aI;simp at aI;rcases aI with rfl|rfl
   ·exact bN "leaving"
   ·exact bN "coming")
  simpa using this
 have eJ:=L9 p c c.left;have gT:=L9 p c n;by_cases ah:n<1
 ·simp! [jS,th,zV,ah,fq]
 ·by_cases ar:c.mode="leaving"\/c.mode="coming"
  ·by_cases br:c.left<=n
   ·have fz:=ais p (r0 c.left c) (h.cd _) ar bp;have n5:=L9 p (lR p (r0 c.left c)) (n - c.left);rw[decide_eq_true ar] at q;simp only[fq,if_neg ah,if_pos (And.intro ar br)];simp! [jS,th,zV,ah,q,br,eJ,fz,n5]
   ·rw[decide_eq_true ar] at q;simp only[fq,if_neg ah,if_neg (λz:(c.mode="leaving"\/c.mode="coming")/\c.left<=n=>br z.2)];simp! [jS,th,zV,ah,q,br,gT]
  ·rw[decide_eq_false ar] at q;simp only[fq,if_neg ah,if_neg (λz:(c.mode="leaving"\/c.mode="coming")/\c.left<=n=>ar z.1)];simp! [jS,th,zV,ah,q,gT]
noncomputable def An(k:hp)(c:a9):Bool:=decide (k.uses≠0) && decide (k.uses<=UU c k.fA)
noncomputable def pG(c:a9):a9:={tell "wrong" none c with tries:=c.tries+1}
noncomputable def kI(p:bf)(c:a9):a9:=if 3<=c.tries+1 then tell "attack" none (mh p {pG c with tries:=0,locked:=90}) else pG c
noncomputable def nN(p:bf)(d:Str)(z:Option Str)(c:a9):Bool:=
 if d="unset" then false else if c.mode≠"off" then true
 else if d="shunt" then decide (kindOf p (z.getD "")="day") || decide (z.getD ""∈c.d4)
 else decide (d="free") && !decide (z.getD ""∈c.d4)
noncomputable def n0(p:bf)(k:hp)(d:Str)(z:Option Str)(c:a9):Option (Str×Str):=
 if (if d="free" then ("shunt":Str) else d)∉k.ov then some ("denied",k.ke)
 else if nN p d z c then some ("no",k.ke)
 else if d="set"/\bare p ["day","once"] c≠[] then some ("open",(bare p ["day","once"] c).headD "") else none
noncomputable def p8(p:bf)(ke:Str)(c:a9):a9:=
 let cV:=tell "set" (some ke) {c with dp:=[],hF:=0,mode:="leaving",left:=p.leave}
 if p.leave<=0 then lQ p cV else cV
noncomputable def uj(ke:Str)(c:a9):a9:=tell "unset" (some ke) {c with mode:="off",left:=0,hF:=0,hM:=none,d4:=[]}
noncomputable def iq(p:bf)(ke d:Str)(z:Option Str)(c:a9):a9:=
 if d="set" then p8 p ke c else if d="unset" then uj ke c
 else if d="shunt" then tell "shunt" z {c with d4:=lG (c.d4++[z.getD ""])}
 else tell "free" z {c with d4:=c.d4.erase (z.getD "")}
noncomputable def takeRight(p:bf)(k:hp)(d:Str)(z:Option Str)(c:a9):a9:=match n0 p k d z c with
|none=>iq p k.ke d z {c with used:=sq c.used k.fA}
|some (w,n)=>tell w (some n) c
noncomputable def code(p:bf)(f d:Str)(z:Option Str)(c:a9):a9:=
 if 0<c.locked then tell "locked" none c else match AA p f with
  |none=>kI p c
  |some k=>if An k c then kI p c else takeRight p k d z {c with tries:=0}
def aiD(p:bf)(c:a9)(k:hp)(h:bo p c)(aI:k∈p.codes)(m:jz):w2 [.obj m 0 (encC p c),.aa (di k)]=some (.bool (An k c)):=by
 have e:getD (gH c.used) (.inr k.fA)=some (.int (UU c k.fA)):=NQ (by rw[h.us];exact dP.mpr ⟨k,aI,rfl⟩);have q:i4 (.int k.uses) (.int 0)=some (.bool (!decide (k.uses=0))):=by
  unfold i4;rw[vC,vC];by_cases e:k.uses=0 <;> simp[gf,e]
 by_cases ah:k.uses=0
 ·simp! [jS,w2,LS,di,q,ah,su,An];simp[i4,vC,gf]
 ·simp! [jS,w2,LS,di,q,ah,su,An,iL,e]
def ahu(p:bf)(c:a9)(bp:c.told.length+2<big):w0 [.obj .d9 0 (encC p c)]=some (.none,encC p (kI p c)):=by
 have eJ:=D8 p c "wrong" (by omega);have fz:=Mv p {pG c with tries:=0,locked:=90};have gT:=D8 p (mh p {pG c with tries:=0,locked:=90}) "attack" (by simp[mh,pG,tell];omega);have w:({mode:=(tell "wrong" none c).mode,left:=(tell "wrong" none c).left,hM:=(tell "wrong" none c).hM,lines:=(tell "wrong" none c).lines,d4:=(tell "wrong" none c).d4,hF:=(tell "wrong" none c).hF,dp:=(tell "wrong" none c).dp,tries:=c.tries+1,locked:=(tell "wrong" none c).locked,used:=(tell "wrong" none c).used,past:=(tell "wrong" none c).past,told:=(tell "wrong" none c).told}:a9)=pG c:=rfl;have C6:(tell "wrong" none c).tries=c.tries:=rfl;by_cases br:3<=c.tries+1
 ·simp! [jS,w0,LQ,eJ,C6,br,kI];simp[pG] at fz gT ⊢;simp[fz,gT]
 ·simp! [jS,w0,LQ,eJ,C6,br,kI,pG]
end cf
section
namespace cf
open D PySem
def bo.y8{p:bf}{c:a9}(h:bo p c)(z:Str):cP (kindOf p z):=by
 unfold kindOf;cases e:p.cq.find? λx=>decide (x.1=z) with
|none=>exact bN ""
|some x=>exact (h.zn x (List.mem_of_find?_eq_some e)).2
def mL:(2<=big)=True:=by simp[big]
def TG:(10<=big)=True:=by simp[big]
noncomputable def mx(p:bf)(d:Str)(z:Option Str):Prop:=(d="shunt"\/d="free")->∃x,z=some x/\x∈p.cq.map (·.1)
def ahq(p:bf)(c:a9)(d:Str)(z:Option Str)(m:jz)(h:bo p c)(hd:cP d)(hz:mx p d z):qE [.obj m 0 (encC p c),.aa (.str d),.aa (hR z)]=some (.bool (nN p d z c)):=by
 have aQ:=d0 hd (bN "unset");have bu:=qL h.mo (bN "off");have df:=d0 hd (bN "shunt");have kG:=d0 hd (bN "free");by_cases ah:d="unset"
 ·simp! [iE,qE,vi,aQ,ah,nN];simp[d0 (bN "unset") (bN "unset")]
 ·by_cases ar:c.mode="off"
  ·by_cases br:d="shunt"
   ·obtain⟨x,rfl,hx⟩:=hz (.inl br);subst br;have gn:=Sz h.zn hx;have uX:=d0 (h.y8 x) (bN "day");have sZ:=tp false (h.j' hx) h.y_;simp at sZ;by_cases cF:kindOf p x="day"
    ·simp! [h8,qE,vi,aQ,ah,ar,qL (bN "off") (bN "off"),df,y',hR,gn,uX,sZ,cF,nN];simp[d0 (bN "day") (bN "day")]
    ·simp! [h8,qE,vi,aQ,ah,ar,qL (bN "off") (bN "off"),df,y',hR,gn,uX,sZ,cF,nN]
   ·by_cases cF:d="free"
    ·obtain⟨x,rfl,hx⟩:=hz (.inr cF);subst cF;have sZ:=tp true (h.j' hx) h.y_;simp at sZ;simp! [h8,qE,vi,aQ,ar,qL (bN "off") (bN "off"),df,kG,su,hR,sZ,nN]
    ·simp! [h8,qE,vi,aQ,ah,ar,qL (bN "off") (bN "off"),df,br,kG,cF,su,nN]
  ·simp! [iE,qE,vi,aQ,ah,bu,ar,nN]
noncomputable def sE:Option (Str×Str)->T
|none=>.none
|some (w,n)=>.tuple [.str w,.str n]
def ag3(p:bf)(c:a9)(k:hp)(d:Str)(z:Option Str)(m:jz)(h:bo p c)(aI:k∈p.codes)(hd:cP d)(hz:mx p d z):zG [.obj m 0 (encC p c),.aa (di k),.aa (.str d),.aa (hR z)]=some (sE (n0 p k d z c)):=by
 have aQ:=d0 hd (bN "free");have bu:=d0 hd (bN "set");have gU:=ahq p c d z .hC h hd hz;have dW:=UL p c ["day","once"] .hC h (by
  intro k aI;simp at aI;rcases aI with rfl|rfl
  ·exact bN "day"
  ·exact bN "once")
 simp only[mM,de,ib] at dW;have df:=Er true (n:=if d="free" then ("shunt":Str) else d) (ns:=k.ov) (by
  split
  ·exact bN "shunt"
  ·exact hd) (h.fw k aI).2.2
 simp at df;have qr:(ql (bt (aj oEq (nm 2) (ae (.str "free")))) (ae (.str "shunt")) (au 2)) [some (.obj m 0 (encC p c)),some (.aa (di k)),some (.aa (.str d)),some (.aa (hR z)),none,none]=some (.str (if d="free" then ("shunt":Str) else d)):=by
  by_cases h0:d="free"
  ·simp! [qu,aQ,h0,d0 (bN "free") (bN "free")]
  ·simp! [qu,aQ,h0]
 simp only[zG,RD,l1,lE,seq,asg,de,ib,eX,lB,dZ,pL,pK,qr,dF,cn,gx,gd];generalize ay:(if d="free" then ("shunt":Str) else d)=r at df ⊢;unfold n0;rw[ay];by_cases ah:r∈k.ov
 ·by_cases ar:nN p d z c=true
  ·simp! [iE,di,mL,df,ah,gU,ar,sE]
  ·simp at ar;by_cases br:d="set"
   ·subst br;cases e:bare p ["day","once"] c with
    |nil=>
     rw[e] at dW;simp! [iE,di,mL,df,ah,gU,ar,dW,bu,sE]
    |cons b bs=>
     rw[e] at dW;simp! [iE,di,mL,df,ah,gU,ar,dW,bu,sE]
   ·simp! [iE,di,mL,df,ah,gU,ar,dW,bu,br,sE]
 ·simp! [iE,di,mL,df,ah,sE]
def bo.CU{p:bf}{c:a9}(h:bo p c)(x:Int):bo p {c with dp:=[],hF:=0,mode:="leaving",left:=x}:=⟨h.zn,h.fw,h.fM,bN "leaving",h.ca,λe=>absurd e RP,h.ln,h.lo,h.us,h.hj,by simp⟩
def aj'(p:bf)(c:a9)(w:Str)(h:bo p c)(bp:c.told.length+60<big):w5 [.obj .d9 0 (encC p c),.aa (.str w)]=some (.none,encC p (p8 p w c)):=by
 have eJ:=rZ p {c with dp:=[],hF:=0,mode:="leaving",left:=p.leave} "set" w (by show c.told.length<big;omega);have fz:=RX p (tell "set" (some w) {c with dp:=[],hF:=0,mode:="leaving",left:=p.leave}) ((h.CU p.leave).tell _ _) (by
  have:(tell "set" (some w) {c with dp:=[],hF:=0,mode:="leaving",left:=p.leave}:a9).told.length=c.told.length+1:=by simp[tell]
  omega)
 have lf:(tell "set" (some w) {c with dp:=[],hF:=0,mode:="leaving",left:=p.leave}:a9).left=p.leave:=rfl;by_cases ah:p.leave<=0
 ·simp! [jS,w5,L3,cb,eJ,lf,ah,fz,p8]
 ·simp! [jS,w5,L3,cb,eJ,lf,ah,p8]
def ait(p:bf)(c:a9)(w:Str)(bp:c.told.length<big):zL [.obj .d9 0 (encC p c),.aa (.str w)]=some (.none,encC p (uj w c)):=by
 have eJ:=rZ p {c with mode:="off",left:=0,hF:=0,hM:=none,d4:=[]} "unset" w bp;simp! [jS,zL,RN,eJ,uj]
theorem Mp:∀l:List Str,vJ (l.map .str)=some l
| []=>rfl
|x::l=>by simp[vJ,Mp l]
noncomputable def CE(p:bf)(d:Str)(z:Option Str)(c:a9):Prop:=d="set"\/d="unset"\/(d="shunt"/\∃x,z=some x/\x∈p.cq.map (·.1))\/(d="free"/\∃x,z=some x/\x∈c.d4)
def ai'(p:bf)(c:a9)(w d:Str)(z:Option Str)(h:bo p c)(hd:cP d)(hz:CE p d z c)(bp:c.told.length+60<big):tf [.obj .d9 0 (encC p c),.aa (.str w),.aa (.str d),.aa (hR z)]=some (.none,encC p (iq p w d z c)):=by
 have aQ:=d0 hd (bN "set");have bu:=d0 hd (bN "unset");have df:=d0 hd (bN "shunt");have es:=aj' p c w h bp;have gU:=ait p c w (by omega);rcases hz with rfl|rfl|⟨rfl,x,rfl,hx⟩|⟨rfl,x,rfl,hx⟩
 ·simp! [iE,tf,apq,aQ,es,iq]
 ·simp! [h8,tf,apq,aQ,bu,gU,iq]
 ·have aG:=h.Q6;have eJ:=rZ p {c with d4:=lG (c.d4++[x])} "shunt" x (by show c.told.length<big;omega);have b6:c.d4.length+1<=big:=by unfold big;omega
  have b7:c.d4.length+1<64:=by omega
  have gQ:1<=big:=by decide
  have dM:=Mp (c.d4++[x]);simp at dM;simp! [h8,tf,apq,aQ,bu,df,hR,bV,gQ,b6,b7,Ep,dM,eJ,iq]
 ·have eJ:=rZ p {c with d4:=c.d4.erase x} "free" x (by show c.told.length<big;omega);simp! [h8,tf,apq,aQ,bu,df,hR,CM,Mp,hx,eJ,iq]
structure Wp(p:bf):Prop where
 cd:(p.codes.map (·.fA)).Nodup
 Sl:(p.cq.map (·.1)).Nodup
 cl:p.codes.length<=40
 C6:0<=p.leave/\0<=p.o4/\0<=p.loud
def bo.add{p:bf}{c:a9}(h:bo p c)(f:Str):bo p {c with used:=sq c.used f}:=⟨h.zn,h.fw,h.fM,h.mo,h.ca,h.lN,h.ln,h.lo,(aki _ _).trans h.us,h.hj,h.al⟩
def bo.C8{p:bf}{c:a9}(h:bo p c)(n:Int):bo p {c with tries:=n}:=⟨h.zn,h.fw,h.fM,h.mo,h.ca,h.lN,h.ln,h.lo,h.us,h.hj,h.al⟩
def NM{p:bf}{c:a9}{k:hp}{d:Str}{z:Option Str}(hd:d="set"\/d="unset"\/d="shunt"\/d="free")(hz:mx p d z)(aC:n0 p k d z c=none):CE p d z c:=by
 rcases hd with rfl|rfl|rfl|rfl
 ·exact .inl rfl
 ·exact .inr (.inl rfl)
 ·exact .inr (.inr (.inl ⟨rfl,hz (.inl rfl)⟩))
 ·refine .inr (.inr (.inr ⟨rfl,?_⟩))
  obtain⟨x,rfl,hx⟩:=hz (.inr rfl);refine⟨x,rfl,?_⟩;refine Classical.byContradiction λb8=>?_;have:nN p "free" (some x) c=true:=by
   by_cases hm:c.mode="off" <;> simp[nN,DS,DT,b8,hm]
  unfold n0 at aC;rw[this] at aC;by_cases ay:(if ("free":Str)="free" then ("shunt":Str) else "free")∈k.ov
  ·rw[if_neg (λq=>q ay),if_pos rfl] at aC;cases aC
  ·rw[if_pos ay] at aC;cases aC
def ahv(p:bf)(c:a9)(k:hp)(d:Str)(z:Option Str)(h:bo p c)(aL:Wp p)(aI:k∈p.codes)(hd:d="set"\/d="unset"\/d="shunt"\/d="free")(hz:mx p d z)(bp:c.told.length+60<big):w1 [.obj .d9 0 (encC p c),.aa (di k),.aa (.str d),.aa (hR z)]=some (.none,encC p (takeRight p k d z c)):=by
 have eh:cP d:=by
  rcases hd with rfl|rfl|rfl|rfl
  ·exact bN "set"
  ·exact bN "unset"
  ·exact bN "shunt"
  ·exact bN "free"
 have ea:=ag3 p c k d z .hC h aI eh hz;have og:k.fA∈c.used.map (·.1):=by rw[h.us];exact dP.mpr ⟨k,aI,rfl⟩
 cases e:n0 p k d z c with
|none=>
  have lU:=NM hd hz e;have g1:=NQ og;have g2:=amE og (by rw[h.us];exact aL.cd);have aG:(gH c.used).length<big:=by
   have:=congrArg List.length h.us;have:=aL.cl;simp[gH] at *;unfold big;omega
  have hb:=ai' p {c with used:=sq c.used k.fA} k.ke d z (h.add _) eh lU bp;rw[e] at ea;simp only[di] at ea;simp! [iE,w1,LR,ea,sE,di,iL,g1,g2,aG,hb,takeRight,e]
|some wn=>
  obtain⟨w,n⟩:=wn;have bY:=rZ p c w n (by omega);rw[e] at ea;simp only[di] at ea;simp! [iE,w1,LR,ea,sE,di,bY,takeRight,e]
def SJ{p:bf}{f:Str}{k:hp}(h:AA p f=some k):k∈p.codes:=List.mem_of_find?_eq_some h
def amd(p:bf)(c:a9)(f d:Str)(z:Option Str)(h:bo p c)(aL:Wp p)(hf:cP f)(hd:d="set"\/d="unset"\/d="shunt"\/d="free")(hz:mx p d z)(bp:c.told.length+60<big):ti [.obj .d9 0 (encC p c),.aa (.str f),.aa (.str d),.aa (hR z)]=some (.none,encC p (code p f d z c)):=by
 have fI:=aje (λk aI=>(h.fw k aI).1) hf;have bY:=D8 p c "locked" (by omega);have o_:=ahu p c (by omega);by_cases ah:0<c.locked
 ·simp! [jS,ti,zY,fI,ah,bY,code]
 ·cases e:AA p f with
  |none=>
   rw[e] at fI;simp! [jS,ti,zY,fI,apf,ah,o_,code,e]
  |some k=>
   rw[e] at fI;have aI:=SJ e;have gU:=aiD p c k h aI .hC;have iU:=ahv p {c with tries:=0} k d z (h.C8 0) aL aI hd hz bp;cases ar:An k c with
   |true=>
    rw[ar] at gU;simp! [jS,ti,zY,fI,apf,ah,gU,di] at gU ⊢;simp[gU,o_,code,e,ah,ar]
   |false=>
    rw[ar] at gU;simp! [jS,ti,zY,fI,apf,ah,gU,di] at gU iU ⊢;simp! [af7,gU,iU,code,e,ah,ar]
inductive ha where
|line (z w:Str)
|code (f d:Str) (z:Option Str)
|fq (n:Int)
noncomputable def cY:ha->T
|.line z w=>.tuple [.str "line",.str z,.str w]
|.code f d z=>.tuple [.str "code",.str f,.str d,hR z]
|.fq n=>.tuple [.str "ticks",.int n]
noncomputable def lY(p:bf):ha->Prop
|.line z w=>z∈p.cq.map (·.1)/\(w="shut"\/w="open"\/w="cut")
|.code f d z=>cP f/\(d="set"\/d="unset"\/d="shunt"\/d="free")/\mx p d z
|.fq n=>1<=n
noncomputable def kA(p:bf)(c:a9):ha->a9
|.line z w=>line p z w c
|.code f d z=>code p f d z c
|.fq n=>fq p n c
def aj2(p:bf)(c:a9)(e:ha)(h:bo p c)(aL:Wp p)(he:lY p e)(bp:c.told.length+60<big):tg [.obj .d9 0 (encC p c),.aa (cY e)]=some (.none,encC p (kA p c e)):=by
 have q (x y:Str) (hx:cP x) (a6:cP y):=d0 hx a6;cases e with
|line z w=>
  have gK:cP w:=by
   rcases he.2 with rfl|rfl|rfl
   ·exact bN "shut"
   ·exact bN "open"
   ·exact bN "cut"
  have jF:=alV p c z w h he.1 gK (by omega);simp! [iE,tg,DE,cY,d0 (bN "line") (bN "line"),jF,kA]
|code f d z=>
  have jF:=amd p c f d z h aL he.1 he.2.1 he.2.2 bp;simp! [h8,tg,DE,cY,d0 (bN "code") (bN "line"),d0 (bN "code") (bN "code"),jF,kA]
|fq n=>
  have jF:=ako p c n h (by omega);simp! [h8,tg,DE,cY,d0 (bN "ticks") (bN "line"),d0 (bN "ticks") (bN "code"),jF,kA]
end cf
end
section
namespace cf
open D PySem
local instance:cB:=⟨[],λ_=>[],λ_=>none⟩
def nL(w:Str)(n:Option Str)(c:a9):(tell w n c).told.length=c.told.length+1:=by simp[tell]
theorem bo.Yk{p:bf}{c:a9}(h:bo p c)(x:Int){z:Str}(hz:z∈p.cq.map (·.1)):bo p {c with mode:="coming",left:=x,hM:=some z}:=
 ⟨h.zn,h.fw,h.fM,bN "coming",λy e=>gg e▸⟨h.j' hz,hz⟩,λ_ e=>(nomatch e),h.ln,h.lo,h.us,h.hj,h.al⟩
theorem bo.lO{p:bf}{c:a9}(h:bo p c){z:Str}(k:Str)(hz:z∈p.cq.map (·.1)):bo p (lO p z k c):=by
 unfold cf.lO;split
 ·exact h.gE hz
 ·exact (h.Yk p.o4 hz).tell _ _
def aiw(p:bf)(z k:Str)(c:a9):(lO p z k c).told.length<=c.told.length+1:=by
 unfold cf.lO;split
 ·exact z4 p z c
 ·rw[nL];exact dQ _
theorem bo.m8{p:bf}{c:a9}(h:bo p c){z:Str}(w:Str)(hz:z∈p.cq.map (·.1)):bo p (m8 p z w c):=by
 unfold cf.m8
 repeat' split
 all_goals first|exact h.gE hz|exact h.tell _ _|exact h.lO _ hz|exact h
def ahY(p:bf)(z w:Str)(c:a9):(m8 p z w c).told.length<=c.told.length+1:=by
 unfold cf.m8
 repeat' split
 all_goals first|exact z4 p z c|exact aiw p z _ c|(rw[nL];exact dQ _)|omega
theorem bo.line{p:bf}{c:a9}(h:bo p c){z w:Str}(hz:z∈p.cq.map (·.1))(hw:cP w):bo p (line p z w c):=by
 have h':=h.Q4 z hw;unfold cf.line
 repeat' split
 all_goals first|exact h|exact h'|exact h'.tell _ _|exact h'.m8 _ hz
def ajR(p:bf)(z w:Str)(c:a9):(line p z w c).told.length<=c.told.length+1:=by
 unfold cf.line
 repeat' split
 all_goals first|omega|(rw[nL];exact dQ _)|exact ahY p z w {c with lines:=ow c.lines z w}|exact rO _
theorem bo.dp{p:bf}:∀{zs:List Str} {c:a9},bo p c->(∀z∈zs,z∈p.cq.map (·.1))->bo p (cf.dp p zs c)
| [],_,h,_=>h
|z::zs,c,h,hz=>bo.dp (zs:=zs) (h.gE (hz z fQ)) λy a6=>hz y (dK _ a6)
theorem Sm(p:bf):∀(zs:List Str) (c:a9),(cf.dp p zs c).told.length<=c.told.length+zs.length
| [],c=>dQ _
|z::zs,c=>by
  have ah:=Sm p zs (gE p z c);have ar:=z4 p z c;simp only[eX];show (cf.dp p zs (gE p z c)).told.length<=_;omega
theorem bo.lQ{p:bf}{c:a9}(h:bo p c):bo p (lQ p c):=bo.dp ((h.on 0).tell _ _) λz hz=>Eu hz
def RT{p:bf}{c:a9}(h:bo p c):(lQ p c).told.length<=c.told.length+41:=by
 have ah:=Sm p (bare p ["inner","way"] (unop%Wi 0)) (unop%Wi 0);have ar:=Ua p ["inner","way"] (unop%Wi 0);have br:=h.fM;rw[nL] at ah;show (cf.dp p _ _).told.length<=_;have cF:({c with mode:="on",left:=0}:a9).told.length=c.told.length:=rfl;omega
theorem bo.rb{p:bf}{c:a9}(h:bo p c)(aw:c.hM≠none):bo p (rb p c):=by
 obtain⟨z,hz⟩:=Option.ne_none_iff_exists'.mp aw;unfold cf.rb;rw[hz];exact h.QP.gE (h.ca z hz).2
def ahr(p:bf)(c:a9):(rb p c).told.length<=c.told.length+1:=z4 _ _ _
theorem bo.lR{p:bf}{c:a9}(h:bo p c)(hm:c.mode="leaving"\/c.mode="coming"):bo p (lR p c):=by
 unfold cf.lR;split
 ·exact h.lQ
 next q=>exact h.rb (h.lN (hm.resolve_left q))
def ahX{p:bf}{c:a9}(h:bo p c):(lR p c).told.length<=c.told.length+41:=by
 unfold cf.lR;split
 ·exact RT h
 ·have:=ahr p c;omega
theorem bo.fq{p:bf}{c:a9}(h:bo p c)(n:Int):bo p (fq p n c):=by
 unfold cf.fq;split
 ·exact h
 ·split
  next q=>exact ((h.cd _).lR q.1).cd _
  ·exact h.cd _
def aiI{p:bf}{c:a9}(h:bo p c)(n:Int):(fq p n c).told.length<=c.told.length+41:=by
 unfold cf.fq;split
 ·omega
 ·split
  ·exact ahX (h.cd c.left)
  ·exact iI _ _
theorem bo.kI{p:bf}{c:a9}(h:bo p c):bo p (kI p c):=by
 unfold cf.kI;split
 ·exact bo.tell (bo.loud (c:={pG c with tries:=0,locked:=90}) ⟨h.zn,h.fw,h.fM,h.mo,h.ca,h.lN,h.ln,h.lo,h.us,h.hj,h.al⟩) _ _
 ·exact⟨h.zn,h.fw,h.fM,h.mo,h.ca,h.lN,h.ln,h.lo,h.us,h.hj,h.al⟩
def ahl(p:bf)(c:a9):(kI p c).told.length<=c.told.length+2:=by
 unfold cf.kI;split
 ·rw[nL];show (tell _ _ c).told.length+1<=_;rw[nL];exact dQ _
 ·show (tell _ _ c).told.length<=_
  rw[nL];omega
theorem bo.p8{p:bf}{c:a9}(h:bo p c)(w:Str):bo p (p8 p w c):=by
 unfold cf.p8;have h':=(h.CU p.leave).tell "set" (some w);show bo p (if p.leave<=0 then _ else _);split
 ·exact h'.lQ
 ·exact h'
def aja{p:bf}{c:a9}(h:bo p c)(w:Str):(p8 p w c).told.length<=c.told.length+42:=by
 unfold cf.p8;have h':=(h.CU p.leave).tell "set" (some w);have e:=nL "set" (some w) {c with dp:=[],hF:=0,mode:="leaving",left:=p.leave};have bD:({c with dp:=[],hF:=0,mode:="leaving",left:=p.leave}:a9).told.length=c.told.length:=rfl;show (if p.leave<=0 then lQ p _ else _:a9).told.length<=_;split
 ·have:=RT h';omega
 ·omega
theorem bo.uj{p:bf}{c:a9}(h:bo p c)(w:Str):bo p (uj w c):=
 ⟨h.zn,h.fw,h.fM,bN "off",λz e=>(nomatch e),λe=>absurd e DR,h.ln,h.lo,h.us,by simp[cf.uj,cf.tell],h.al⟩
theorem bo.iq{p:bf}{c:a9}(h:bo p c)(w:Str){d:Str}{z:Option Str}(hz:CE p d z c)(bg:d="shunt"->z.getD ""∉c.d4):bo p (iq p w d z c):=by
 rcases hz with rfl|rfl|⟨rfl,x,rfl,hx⟩|⟨rfl,x,rfl,hx⟩
 ·simp only[cf.iq,if_true];exact h.p8 w
 ·simp only[cf.iq,if_neg Me,if_true];exact h.uj w
 ·simp only[cf.iq,if_neg Mf,if_neg DN,if_true];refine bo.tell (c:={c with d4:=lG (c.d4++[x])}) ⟨h.zn,h.fw,h.fM,h.mo,h.ca,h.lN,h.ln,h.lo,h.us,⟨?_,?_⟩,h.al⟩ _ _
  ·show (lG (c.d4++[x])).Nodup
   rw[(api _).nodup_iff,nB];refine⟨h.hj.1,by simp,λa aC b af e=>?_⟩;simp at af;exact bg rfl (by show x∈_;exact af▸e▸aC)
  ·intro y a6;have BX:=(api _).mem_iff.mp a6;rcases hS.mp BX with q|q
   ·exact h.hj.2 y q
   ·simp at q;exact q▸hx
 ·simp only[cf.iq,if_neg Ms,if_neg DS,if_neg DT];refine bo.tell (c:={c with d4:=c.d4.erase x}) ⟨h.zn,h.fw,h.fM,h.mo,h.ca,h.lN,h.ln,h.lo,h.us,⟨?_,?_⟩,h.al⟩ _ _
  ·exact h.hj.1.erase x
  ·exact λy a6=>h.hj.2 y (List.mem_of_mem_erase a6)
def aiu{p:bf}{c:a9}(h:bo p c)(w d:Str)(z:Option Str):(iq p w d z c).told.length<=c.told.length+42:=by
 unfold cf.iq;split
 ·exact aja h w
 ·split
  ·show (tell _ _ _).told.length<=_
   rw[nL];show c.told.length+1<=_;omega
  ·split
   ·rw[nL];show c.told.length+1<=_;omega
   ·rw[nL];show c.told.length+1<=_;omega
def ahD{p:bf}{c:a9}{k:hp}{z:Option Str}(aC:n0 p k "shunt" z c=none):z.getD ""∉c.d4/\c.mode="off"/\kindOf p (z.getD "")≠"day":=by
 have b8:nN p "shunt" z c≠true:=by
  intro q;unfold n0 at aC;rw[q] at aC;by_cases ay:(if ("shunt":Str)="free" then ("shunt":Str) else "shunt")∈k.ov
  ·rw[if_neg (λq=>q ay),if_pos rfl] at aC;cases aC
  ·rw[if_pos ay] at aC;cases aC
 unfold nN at b8;rw[if_neg DN] at b8;by_cases hm:c.mode="off"
 ·rw[if_neg (λq=>q hm),if_pos rfl] at b8;simp at b8;exact⟨b8.2,hm,b8.1⟩
 ·rw[if_pos hm] at b8;exact absurd rfl b8
theorem bo.takeRight{p:bf}{c:a9}(h:bo p c)(k:hp){d:Str}{z:Option Str}(hd:d="set"\/d="unset"\/d="shunt"\/d="free")(hz:mx p d z):bo p (takeRight p k d z c):=by
 unfold cf.takeRight;split
 next e=>
  refine (h.add _).iq _ (NM hd hz e) λq=>?_
  subst q;exact (ahD e).1
 ·exact h.tell _ _
def ahm{p:bf}{c:a9}(h:bo p c)(k:hp)(d:Str)(z:Option Str):(takeRight p k d z c).told.length<=c.told.length+42:=by
 unfold cf.takeRight;split
 ·exact aiu (h.add k.fA) _ _ _
 ·rw[nL];omega
theorem bo.code{p:bf}{c:a9}(h:bo p c)(f:Str){d:Str}{z:Option Str}(hd:d="set"\/d="unset"\/d="shunt"\/d="free")(hz:mx p d z):bo p (code p f d z c):=by
 unfold cf.code;split
 ·exact h.tell _ _
 ·split
  ·exact h.kI
  ·split
   ·exact h.kI
   ·exact (h.C8 0).takeRight _ hd hz
def akb{p:bf}{c:a9}(h:bo p c)(f d:Str)(z:Option Str):(code p f d z c).told.length<=c.told.length+42:=by
 have:=ahl p c;unfold cf.code;split
 ·rw[nL];omega
 ·split
  ·omega
  ·split
   ·omega
   ·exact ahm (h.C8 0) _ _ _
def anI{p:bf}{z w:Str}(he:lY p (.line z w)):cP w:=by
 rcases he.2 with rfl|rfl|rfl
 ·exact bN "shut"
 ·exact bN "open"
 ·exact bN "cut"
theorem bo.kA{p:bf}{c:a9}(h:bo p c){e:ha}(he:lY p e):bo p (kA p c e):=by
 cases e with
|line z w=>exact h.line he.1 (anI he)
|code f d z=>exact h.code f he.2.1 he.2.2
|fq n=>exact h.fq n
def Sh{p:bf}{c:a9}(h:bo p c)(e:ha):(kA p c e).told.length<=c.told.length+50:=by
 cases e with
|line z w=>have:=ajR p z w c;show (line p z w c).told.length<=_;omega
|code f d z=>have:=akb h f d z;show (code p f d z c).told.length<=_;omega
|fq n=>have:=aiI h n;show (fq p n c).told.length<=_;omega
noncomputable def run(p:bf)(c:a9)(es:List ha):a9:=es.foldl (kA p) c
noncomputable def fresh(c:a9):a9:={c with past:=0,told:=[]}
theorem bo.fresh{p:bf}{c:a9}(h:bo p c):bo p (fresh c):=⟨h.zn,h.fw,h.fM,h.mo,h.ca,h.lN,h.ln,h.lo,h.us,h.hj,h.al⟩
theorem bo.run{p:bf}:∀{es:List ha} {c:a9},bo p c->(∀e∈es,lY p e)->bo p (run p c es)
| [],_,h,_=>h
|e::es,c,h,he=>bo.run (es:=es) (h.kA (he e fQ)) λy a6=>he y (dK _ a6)
theorem Eo{p:bf}:∀{es:List ha} {c:a9},bo p c->(∀e∈es,lY p e)->(run p c es).told.length<=c.told.length+50*es.length
| [],_,_,_=>dQ _
|e::es,c,h,he=>by
  have ah:=Eo (es:=es) (h.kA (he e fQ)) λy a6=>he y (dK _ a6);have ar:=Sh h e;show (run p (kA p c e) es).told.length<=_;simp only[eX];omega
noncomputable def c5(c:a9):T:=.tuple [.str c.mode,.int c.left,hR c.hM,.tuple (c.lines.map λl=>.str l.2),.tuple (c.d4.map .str),.int c.hF,.tuple (c.dp.map .str),.int c.tries,.int c.locked,.tuple (c.used.map λu=>.int u.2)]
theorem UR:∀(a':List Str) (l:List (Str×Str)),l.map (·.1)=a'->tU (a'.map .str) (l.map λl=>.str l.2)=some (iR l)
| [],[],_=>rfl
| [],_::_,h=>by cases h
|_::_,[],h=>by cases h
|k::a',x::l,h=>by
  simp at h;simp[tU,iL,UR a' l h.2,iR,h.1]
theorem US:∀(a':List Str) (l:List (Str×Int)),l.map (·.1)=a'->tU (a'.map .str) (l.map λl=>.int l.2)=some (gH l)
| [],[],_=>rfl
| [],_::_,h=>by cases h
|_::_,[],h=>by cases h
|k::a',x::l,h=>by
  simp at h;simp[tU,iL,US a' l h.2,gH,h.1]
def S4{l:List Str}(h:l.Nodup):(l.map (Sum.inr:Str->D.Key)).Nodup:=by
 rw[List.nodup_iff_pairwise_ne,List.pairwise_map];exact (List.nodup_iff_pairwise_ne.mp h).imp λq e=>q (Sum.inr.inj e)
def alX(l:List (Str×Str)):(iR l).map (·.1)=(l.map (·.1)).map Sum.inr:=by simp[iR,ny]
def alY(l:List (Str×Int)):(gH l).map (·.1)=(l.map (·.1)).map Sum.inr:=by simp[gH,ny]
def M8{α:Type}(enc:α->T)(g:α->T)(caps:Ev)(ts:List α)(s0:Option aO)(h:∀a∈ts,(unop%W9 0) (some (.aa (enc a))::caps)=some (g a)):g9 (bw 0) (d7 true) (unop%W9 0) (ts.map enc) (s0::caps)=some (ts.map g):=by
 have:=tE (cc:=d7 true) (hc:=aj aT (nm 0) (ae (.int 0))) (caps:=caps) enc (λ_=>true) g ts s0 λa aC=>⟨rfl,λ_=>h a aC⟩;rw[List.filter_eq_self.mpr (λ_ _=>rfl)] at this;exact this
def al2(p:bf)(c:a9)(h:bo p c)(aL:Wp p):zM [.obj .d9 0 [],.aa (cb p),.aa (c5 c)]=some (.none,encC p (fresh c)):=by
 have hz:=h.fM;have aw:=aL.cl;have cV:=M8 eR (λz=>.str z.1) [] p.cq none λz hz=>by simp! [i7,eR]
 have dj:=M8 di (λz=>.str z.fA) [] p.codes none λz hz=>by simp! [i7,di]
 have pQ:=UR (p.cq.map (·.1)) c.lines h.ln;have gB:=US (p.codes.map (·.fA)) c.used h.us;rw[nE] at pQ gB;have b6:p.cq.length<=big:=by unfold big;omega
 have b7:p.codes.length<=big:=by unfold big;omega
 have ey:((iR c.lines).map (·.1)).Nodup/\(iR c.lines).length<=1000/\∀t∈(p.cq.map λz=>mF z.1),(iL t).isSome=true:=by
  refine⟨?_,?_,?_⟩
  ·rw[alX,h.ln];exact S4 aL.Sl
  ·have:=congrArg List.length h.ln;simp[iR] at *;omega
  ·intro t bp;obtain⟨z,_,rfl⟩:=dP.mp bp;rfl
 have fp:((gH c.used).map (·.1)).Nodup/\(gH c.used).length<=1000/\∀t∈(p.codes.map λz=>mF z.fA),(iL t).isSome=true:=by
  refine⟨?_,?_,?_⟩
  ·rw[alY,h.us];exact S4 aL.cd
  ·have:=congrArg List.length h.us;simp[gH] at *;omega
  ·intro t bp;obtain⟨z,_,rfl⟩:=dP.mp bp;rfl
 have gQ:(0<=big)=True:=by simp
 simp only[ny] at pQ gB;simp only[zM,RO,runM,lE];simp! [qu,cb,c5,xP,xB,cV,dj,b6,b7,pQ,gB];rw[if_pos ey];simp! [qu,xB,xP,cV,dj,b6,b7,pQ,gB];rw[if_pos ⟨fp.1,fp.2.1,λa aC=>rfl⟩];simp! [qu,encC,fresh,cb]
def akq(p:bf)(c:a9)(m:jz)(h:bo p c):zU [.obj m 0 (encC p c)]=some (c5 c):=by
 have ah:=h.Q6;have ar:=h.OB;have b6:c.d4.length<=big:=by unfold big;omega
 have b7:c.dp.length<=big:=by unfold big;omega
 simp! [iE,zU,RY,AH,gA,b6,b7,TG,c5,iR,gH,ny]
theorem TM(p:bf)(aL:Wp p):∀(es:List ha) (c:a9) (s0 s1 s2 s4:Option aO),bo p c->(∀e∈es,lY p e)->c.told.length+50*es.length+60<big->∃jq,forL (bw 4) (dX (dR 0 tg 3 [(au 4)])) (es.map cY) [s0,s1,s2,some (.obj .own 0 (encC p c)),s4]=some (.bI [s0,s1,s2,some (.obj .own 0 (encC p (run p c es))),jq])
| [],c,s0,s1,s2,s4,_,_,_=>⟨s4,by simp[forL,run]⟩
|e::es,c,s0,s1,s2,s4,h,he,bp=>by
  have P2:=he e fQ;simp only[eX] at bp;have ea:=aj2 p c e h aL P2 (by omega);have:=Sh h e;obtain⟨s8,bT⟩:=TM p aL es (kA p c e) s0 s1 s2 (some (.aa (cY e))) (h.kA P2) (λy a6=>he y (dK _ a6)) (by omega);refine⟨s8,?_⟩;rw[de,forL];simp! [qu,ea];simpa [c2,seq,iff,bt,g5,e0,fD,gZ,d7,ofT,cU,aj,aX,args,ae,nm,au,b9,skip,asg,hr,iP,par,a0,fa,fP,fW,aT,eI,fm,bw,dv,gI,dy,comp,hn,run] using bT
def R6(p:bf)(c:a9)(es:List ha)(h:bo p c)(aL:Wp p)(he:∀e∈es,lY p e)(aG:es.length<=1000):tj [cb p,c5 c,.tuple (es.map cY)]=some (.obj .own 0 (encC p (run p (fresh c) es))):=by
 have He:=al2 p c h aL;have af:(fresh c).told.length=0:=rfl;have b7:(60000<big):=by decide
 obtain⟨jq,jF⟩:=TM p aL es (fresh c) (some (.aa (cb p))) (some (.aa (c5 c))) (some (.aa (.tuple (es.map cY)))) none h.fresh he (by omega);simp only[tj,Mm,uY];simp! [qu,A2,Cy,He,d1,zj];rw[jF];simp[zj,CH]
def Ey(p:bf)(c:a9)(es:List ha)(h:bo p c)(aL:Wp p)(he:∀e∈es,lY p e)(aG:es.length<=1000):nP [cb p,c5 c,.tuple (es.map cY)]=some (c5 (run p (fresh c) es)):=by
 have eJ:=R6 p c es h aL he aG;have fz:=akq p (run p (fresh c) es) .hC (h.fresh.run he);simp! [i7,nP,UO,xO,CD,eJ,apj,fz]
def TJ(p:bf)(c:a9)(es:List ha)(h:bo p c)(aL:Wp p)(he:∀e∈es,lY p e)(aG:es.length<=1000):pU [cb p,c5 c,.tuple (es.map cY)]=some (.tuple ((run p (fresh c) es).told.map mi)):=by
 have eJ:=R6 p c es h aL he aG;have af:=Eo h.fresh he;have b7:(60000<big):=by decide
 have h0:(fresh c).told.length=0:=rfl;have b6:(run p (fresh c) es).told.length<=big:=by omega
 simp! [i7,pU,UM,xO,EE,eJ,apj,yf,gA,b6]
noncomputable def jx(p:bf):a9:={mode:="off",left:=0,hM:=none,lines:=p.cq.map λz=>(z.1,"shut"),d4:=[],hF:=0,dp:=[],tries:=0,locked:=0,used:=p.codes.map λk=>(k.fA,0),past:=0,told:=[]}
def T'(p:bf)(hz:p.cq.length<=40)(aL:Wp p):tx [cb p]=some (c5 (jx p)):=by
 have aw:=aL.cl;have b6:p.cq.length<=big:=by unfold big;omega
 have b7:p.codes.length<=big:=by unfold big;omega
 have cV:=tE (cc:=d7 true) (hc:=ae (.str "shut")) (caps:=[]) eR (λ_=>true) (λ_=>.str "shut") p.cq none λa aC=>⟨rfl,λ_=>rfl⟩;have dj:=tE (cc:=d7 true) (hc:=ae (.int 0)) (caps:=[]) di (λ_=>true) (λ_=>.int 0) p.codes none λa aC=>⟨rfl,λ_=>rfl⟩;rw[List.filter_eq_self.mpr (λ_ _=>rfl)] at cV dj;simp! [i7,tx,UN,cb,gA,b6,b7,cV,dj,TG,c5,jx,hR,ny]
end cf
end
section
namespace cf
open D PySem
local instance:cB:=⟨[],λ_=>[],λ_=>none⟩
def Nv(ns:List Int)(k:Nat):nK [ec ns,.int k]=some (.int (ns.getD k 0)):=by
 by_cases h:k<ns.length
 ·have h':(k:Int)<(ns.length:Int):=by omega
  simp! [Li,nK,vo,ec,h,h',List.getD]
 ·have h':¬(k:Int)<(ns.length:Int):=by omega
  simp! [Li,nK,vo,ec,h,h',List.getD]
def l'{i j:Int}(h:-(2 ^ 64)<j/\j<2 ^ 64):dU (.int i) (.int j)=some (.int (i*j)):=by
 unfold dU xN;simp only[decide_eq_true h.1,decide_eq_true h.2,Bool.and_self,Bool.or_true,if_true]
def lF{i j:Int}(h:0<j):oMod (.int i) (.int j)=some (.int (i % j)):=if_pos h
def xD{i j:Int}(h:0<j/\j<1073741824):oDiv (.int i) (.int j)=some (.int (i / j)):=if_pos h
def hW{i j:Int}:bV (.int i) (.int j)=some (.int (i+j)):=rfl
def fj{a b:bJ}{ai ε':Ev}(h:a ai=some (.bI ε')):seq a b ai=b ε':=by
 unfold seq;rw[h];rfl
def Ad(ns:List Int)(k:Nat):∃m:Int,0<=m/\kj [ec ns,.int k]=some (.int m):=by
 have aw:=Nv ns k;have hd:0<=(ns.getD k 0+7919*(k:Int)+1)*48271 % 2147483647/\(ns.getD k 0+7919*(k:Int)+1)*48271 % 2147483647<2147483647:=⟨lC _ (by decide),oF _ (by decide)⟩;generalize hx:(ns.getD k 0+7919*(k:Int)+1)*48271 % 2147483647=d at hd;refine⟨(d*d+7*d+k) % 2147483629,lC _ (by decide),?_⟩;have bO:kj [ec ns,.int k]=(vv [some (.aa (ec ns)),some (unop%WT 0),none]).bind λo=>match o with|.dn t=>some t|.bI _=>some .none|_=>none:=rfl
 have i3:dU (.int 7919) (.int k)=some (.int (7919*k)):=by
  unfold dU xN;simp
 have jM:au 0 [some (.aa (ec ns)),some (unop%WT 0),none]=some (ec ns):=rfl;have ey:au 1 [some (.aa (ec ns)),some (unop%WT 0),none]=some (.int k):=rfl;have Kj:nm 1 [some (.aa (ec ns)),some (unop%WT 0),none]=some (.int k):=rfl;have s1:asg 2 (unop%W8 0) [some (.aa (ec ns)),some (unop%WT 0),none]=some (.bI [some (.aa (ec ns)),some (unop%WT 0),some (.aa (.int d))]):=by
  simp only[asg,aj,aX,args,jM,ey,Kj,cn,dF,aw,ae,i3,hW,l' (i:=ns.getD k 0+7919*(k:Int)+1) (j:=48271) (by decide),lF (j:=2147483647) (by decide),hx];rfl
 have kF:dU (.int d) (.int d)=some (.int (d*d)):=l' (by omega);have jL:dU (.int 7) (.int d)=some (.int (7*d)):=l' (by omega);rw[bO];unfold vv;rw[fj s1];have bu:nm 2 [some (.aa (ec ns)),some (unop%WT 0),some (.aa (.int d))]=some (.int d):=rfl;have aQ:nm 1 [some (.aa (ec ns)),some (unop%WT 0),some (.aa (.int d))]=some (.int k):=rfl;simp only[b9,aj,bu,aQ,cn,dF,ae,kF,jL,hW,lF (j:=2147483629) (by decide)]
def xg(n k:Int)(aI:-(2 ^ 64)<k/\k<2 ^ 64):∃m:Int,0<=m/\ig [.int n,.int k]=some (.int m):=by
 have hd:0<=(n+104729*k+17)*69621 % 2147483647/\(n+104729*k+17)*69621 % 2147483647<2147483647:=⟨lC _ (by decide),oF _ (by decide)⟩;generalize hx:(n+104729*k+17)*69621 % 2147483647=d at hd;refine⟨(d*d+3*d+k) % 2147483629,lC _ (by decide),?_⟩;have bO:ig [.int n,.int k]=(vw [some (unop%Wr 0),some (unop%WT 0),none]).bind λo=>match o with|.dn t=>some t|.bI _=>some .none|_=>none:=rfl
 have i3:dU (.int 104729) (.int k)=some (.int (104729*k)):=l' aI;have jM:nm 0 [some (unop%Wr 0),some (unop%WT 0),none]=some (.int n):=rfl;have ey:nm 1 [some (unop%Wr 0),some (unop%WT 0),none]=some (.int k):=rfl;have s1:asg 2 (unop%Wa 0) [some (unop%Wr 0),some (unop%WT 0),none]=some (.bI [some (unop%Wr 0),some (unop%WT 0),some (.aa (.int d))]):=by
  simp only[asg,aj,jM,ey,cn,dF,ae,i3,hW,l' (i:=n+104729*k+17) (j:=69621) (by decide),lF (j:=2147483647) (by decide),hx];rfl
 have kF:dU (.int d) (.int d)=some (.int (d*d)):=l' (by omega);have jL:dU (.int 3) (.int d)=some (.int (3*d)):=l' (by omega);rw[bO];unfold vw;rw[fj s1];have bu:nm 2 [some (unop%Wr 0),some (unop%WT 0),some (.aa (.int d))]=some (.int d):=rfl;have aQ:nm 1 [some (unop%Wr 0),some (unop%WT 0),some (.aa (.int d))]=some (.int k):=rfl;simp only[b9,aj,bu,aQ,cn,dF,ae,kF,jL,hW,lF (j:=2147483629) (by decide)]
def mJ(a b:Int):oEq (.int a) (.int b)=some (.bool (decide (a=b))):=by
 unfold oEq;rw[vC,vC];by_cases e:a=b <;> simp[gf,e]
def divQ(m:Int)(j:Int)(h:0<j/\j<1073741824:=by decide):∃q,q=m / j/\oDiv (.int m) (.int j)=some (.int q):=⟨_,rfl,xD h⟩
def modQ(m:Int)(j:Int)(h:0<j:=by decide):∃q,q=m % j/\0<=q/\q<j/\oMod (.int m) (.int j)=some (.int q):=⟨_,rfl,lC _ (by omega),oF _ h,lF h⟩
def B0{ts:List T}{j:Int}(h0:0<=j)(ah:j<ts.length):∃t∈ts,aT (.tuple ts) (.int j)=some t:=by
 have bU:j.toNat<ts.length:=by omega
 refine⟨ts[j.toNat],List.getElem_mem bU,?_⟩
 simp only[aT,eI,fm,if_pos h0,if_pos ah,cn];exact jv bU
def yT(ss:List Str){j:Int}(h0:0<=j)(ah:j<ss.length):∃s∈ss,aT (.tuple (ss.map .str)) (.int j)=some (.str s):=by
 obtain⟨t,bp,e⟩:=B0 (ts:=ss.map .str) h0 (by simpa using ah);obtain⟨s,aA,rfl⟩:=dP.mp bp;exact⟨s,aA,e⟩
def yS(ss:List Int){j:Int}(h0:0<=j)(ah:j<ss.length):∃s∈ss,aT (.tuple (ss.map .int)) (.int j)=some (.int s):=by
 obtain⟨t,bp,e⟩:=B0 (ts:=ss.map .int) h0 (by simpa using ah);obtain⟨s,aA,rfl⟩:=dP.mp bp;exact⟨s,aA,e⟩
def Nt:(5<=big)=True:=by simp[big]
def tv:(4<=big)=True:=by simp[big]
def oI:(3<=big)=True:=by simp[big]
def NF:(6<=big)=True:=by simp[big]
def ak_:(8<=big)=True:=by simp[big]
def Ax:(1<=big)=True:=by simp[big]
noncomputable def sx:bJ:=(seq (asg 4 (aj oDiv (aX ig [(au 0),(au 2)]) (ae (.int 4)))) (iff (fD (bt (aj oLt (aj oMod (nm 4) (ae (.int 8))) (aj bV (ae (.int 3)) (aj oMod (nm 0) (ae (.int 5)))))) (bt (aj oEq (nm 2) (aj oMod (aj oDiv (nm 0) (ae (.int 8))) (ae (.int 8)))))) (asg 1 (aj bV (nm 1) (a0 [(a0 [(au 3),(aj aT (a0 [(ae (.str "day")),(ae (.str "inner")),(ae (.str "once")),(ae (.str "way")),(ae (.str "way"))]) (aj oMod (aj oDiv (nm 4) (ae (.int 8))) (ae (.int 5))))])]))) skip))
noncomputable def qb(x:Int×Str):T:=.tuple [.int x.1,.str x.2]
noncomputable def kinds:List Str:=["day","inner","once","way","way"]
theorem Mx(n:Int):∀(l:List (Int×Str)) (acc:List (Str×Str)) (s2 s3 s4:Option aO),(∀x∈l,0<=x.1/\x.1<100)->acc.length+l.length<=20->∃zs nr zm jq,(zs.map (·.1)).Sublist (l.map (·.2))/\(∀z∈zs,z.2∈kinds)/\((∃x∈l,x.1=n / 8 % 8)->zs≠[]) /\
  forL (dv [(bw 2),(bw 3)]) sx (l.map qb) [some (unop%Wr 0),some (.aa (.tuple (acc.map eR))),s2,s3,s4,none,none,none,none,none]=some (.bI [some (unop%Wr 0),some (.aa (.tuple ((acc++zs).map eR))),nr,zm,jq,none,none,none,none,none])
| [],acc,s2,s3,s4,_,_=>⟨[],s2,s3,s4,.refl _,by simp,by simp,by simp[forL]⟩
|x::l,acc,s2,s3,s4,hx,aG=>by
  obtain⟨m,hm,eJ⟩:=xg n x.1 (by have:=hx x fQ;omega);obtain⟨q,a5,fz⟩:=divQ m 4;obtain⟨r,_,_,_,gT⟩:=modQ q 8;obtain⟨cy,_,_,_,n5⟩:=modQ n 5;obtain⟨aQ,yK,p9⟩:=divQ n 8;obtain⟨bk,oc,_,_,p_⟩:=modQ aQ 8;obtain⟨bu,BS,p'⟩:=divQ q 8;obtain⟨b4,_,h0,ah,o8⟩:=modQ bu 5;obtain⟨s,aA,m9⟩:=yT kinds h0 ah;simp only[kinds,de,ib] at m9;simp only[eX] at aG;have b6:acc.length+1<=big:=by unfold big;omega
  have kD:∀y∈l,0<=y.1/\y.1<100:=λy a6=>hx y (dK _ a6);by_cases aw:r<3+cy\/x.1=bk
  ·obtain⟨zs,nr,zm,jq,cx,cI,pk,rr⟩:=Mx n l (acc++[(x.2,s)]) (some (.aa (.int x.1))) (some (.aa (.str x.2))) (unop%Wn 0) kD (by simp;omega);refine⟨(x.2,s)::zs,nr,zm,jq,by simpa using cx,λz hz=>?_,λ_=>by simp,?_⟩
   ·rcases cM.mp hz with rfl|hz
    ·exact aA
    ·exact cI z hz
   ·rw[de,forL];have:sx [some (unop%Wr 0),some (.aa (.tuple (acc.map eR))),some (.aa (.int x.1)),some (.aa (.str x.2)),s4,none,none,none,none,none]=some (.bI [some (unop%Wr 0),some (.aa (.tuple ((acc++[(x.2,s)]).map eR))),some (.aa (.int x.1)),some (.aa (.str x.2)),some (.aa (.int q)),none,none,none,none,none]):=by
     by_cases dA:r<3+cy
     ·simp! [gL,sx,eJ,fz,gT,n5,p9,p_,p',o8,m9,hW,oLt,dA,bV,b6,Nt,mL,Ax,eR]
     ·have o7:oEq (.int x.1) (.int bk)=some (.bool true):=by rw[mJ,decide_eq_true (aw.resolve_left dA)]
      simp! [gL,sx,eJ,fz,gT,n5,p9,p_,p',o8,m9,hW,oLt,dA,o7,bV,b6,Nt,mL,Ax,eR]
    simp only[qb,dv,gI,bw,cn,gx,gd,this];simpa using rr
  ·obtain⟨zs,nr,zm,jq,cx,cI,pk,rr⟩:=Mx n l acc (some (.aa (.int x.1))) (some (.aa (.str x.2))) (unop%Wn 0) kD (by omega);refine⟨zs,nr,zm,jq,cx.cons _,cI,λ⟨y,a6,e⟩=>pk ?_,?_⟩
   ·rcases cM.mp a6 with rfl|a6
    ·exact absurd (.inr (by rw[e,oc,yK])) aw
    ·exact⟨y,a6,e⟩
   ·rw[de,forL];have:sx [some (unop%Wr 0),some (.aa (.tuple (acc.map eR))),some (.aa (.int x.1)),some (.aa (.str x.2)),s4,none,none,none,none,none]=some (.bI [some (unop%Wr 0),some (.aa (.tuple (acc.map eR))),some (.aa (.int x.1)),some (.aa (.str x.2)),some (.aa (.int q)),none,none,none,none,none]):=by
     have dN:¬r<3+cy:=λz=>aw (.inl z);have j5:¬x.1=bk:=λz=>aw (.inr z);simp! [gL,sx,eJ,fz,gT,n5,p9,p_,p',o8,m9,hW,oLt,dN,j5,mJ]
    simp only[qb,dv,gI,bw,cn,gx,gd,this];exact rr
def ae2:lZ 0 3=[.int 0,.int 1,.int 2]:=by simp[lZ,List.range_succ]
noncomputable def ud:fX:=bt (aj iz (aj oMod (aj oDiv (nm 1) (aj aT (a0 [(ae (.int 4)),(ae (.int 16)),(ae (.int 64))]) (nm 0))) (ae (.int 4))) (ae (.int 0)))
noncomputable def o9:bZ:=aj aT (a0 [(ae (.str "set")),(ae (.str "shunt")),(ae (.str "unset"))]) (nm 0)
noncomputable def EB:List Str:=["set","shunt","unset"]
def ajA(q:Int)(ai:Ev)(h:(ai[4]?).join=some (.aa (.int q))):∃rs:List Str,rs.Sublist EB/\comp 1 [4] (jX (ae (.int 3))) (bw 0) ud o9 ai=some (.list (rs.map .str)):=by
 have key:∀j sT:Int,aT (.tuple [.int 4,.int 16,.int 64]) (.int j)=some (.int sT)->0<sT->sT<1073741824->∃b,ud [some (.aa (.int j)),some (.aa (.int q))]=some b:=by
  intro j sT ah ar br;obtain⟨aQ,_,eJ⟩:=divQ q sT ⟨ar,br⟩;obtain⟨bk,_,_,_,fz⟩:=modQ aQ 4;exact⟨decide (0<bk),by simp! [gL,ud,ah,eJ,fz,iz,oI]⟩
 obtain⟨gQ,k0⟩:=key 0 4 (by simp[aT,eI,fm]) (by decide) (by decide);obtain⟨b6,k1⟩:=key 1 16 (by simp[aT,eI,fm]) (by decide) (by decide);obtain⟨b7,k2⟩:=key 2 64 (by simp[aT,eI,fm]) (by decide) (by decide);have kb:o9 [some (.aa (.int 0)),some (.aa (.int q))]=some (.str "set"):=by simp! [i7,o9,oI]
 have bk:o9 [some (.aa (.int 1)),some (.aa (.int q))]=some (.str "shunt"):=by simp! [i7,o9,oI]
 have b4:o9 [some (.aa (.int 2)),some (.aa (.int q))]=some (.str "unset"):=by simp! [i7,o9,oI]
 have sy:comp 1 [4] (jX (ae (.int 3))) (bw 0) ud o9 ai=(g9 (bw 0) ud o9 [.int 0,.int 1,.int 2] [none,some (.aa (.int q))]).map .list:=by
  have s3:ao4 3=true:=by decide
  simp[comp,jX,ae,s3,ae2,hn,h,oI]
 rw[sy];cases gQ <;> cases b6 <;> cases b7
 ·exact⟨[],by simp,by simp[g9,bw,k0,k1,k2]⟩
 ·exact⟨["unset"],by decide,by simp[g9,bw,k0,k1,k2,kb,bk,b4]⟩
 ·exact⟨["shunt"],by decide,by simp[g9,bw,k0,k1,k2,kb,bk,b4]⟩
 ·exact⟨["shunt","unset"],by decide,by simp[g9,bw,k0,k1,k2,kb,bk,b4]⟩
 ·exact⟨["set"],by decide,by simp[g9,bw,k0,k1,k2,kb,bk,b4]⟩
 ·exact⟨["set","unset"],by decide,by simp[g9,bw,k0,k1,k2,kb,bk,b4]⟩
 ·exact⟨["set","shunt"],by decide,by simp[g9,bw,k0,k1,k2,kb,bk,b4]⟩
 ·exact⟨["set","shunt","unset"],by decide,by simp[g9,bw,k0,k1,k2,kb,bk,b4]⟩
noncomputable def uc:bJ:=(seq (asg 4 (aj oDiv (aX ig [(au 0),(aj bV (ae (.int 10)) (nm 2))]) (ae (.int 4)))) (iff (fD (unop%WD 0) (bt (aj oEq (nm 2) (ae (.int 1))))) (seq (asg 7 (aX gA [(comp 1 [4] (jX (ae (.int 3))) (bw 0) ud o9)])) (seq (asg 8 (aj aT (a0 [(ae (.str "ann")),(ae (.str "bo")),(ae (.str "cy"))]) (aj oMod (aj oDiv (nm 4) (ae (.int 256))) (ae (.int 3))))) (asg 5 (aj bV (nm 5) (a0 [(a0 [(au 6),(au 8),(au 7),(aj aT (a0 [(ae (.int 0)),(ae (.int 0)),(ae (.int 1)),(ae (.int 2)),(ae (.int 9))]) (aj oMod (aj oDiv (nm 4) (ae (.int 1024))) (ae (.int 5))))])]))))) skip))
noncomputable def zz:List Str:=["ann","bo","cy"]
theorem Mt(n:Int)(s1 s3:Option aO):∀(l:List (Int×Str)) (acc:List hp) (s2 s4 cE eb eF:Option aO),(∀x∈l,0<=x.1/\x.1<100)->acc.length+l.length<=20->∃a' nr jq pB pC pD,(a'.map (·.fA)).Sublist (l.map (·.2))/\(∀k∈a',k.ke∈zz/\k.ov.Sublist EB/\k.uses∈([0,0,1,2,9]:List Int))/\((∃x∈l,x.1=1)->a'≠[]) /\
  forL (dv [(bw 2),(bw 6)]) uc (l.map qb) [some (unop%Wr 0),s1,s2,s3,s4,some (unop%WR 0),cE,eb,eF,none]=some (.bI [some (unop%Wr 0),s1,nr,s3,jq,some (.aa (.tuple ((acc++a').map di))),pB,pC,pD,none])
| [],acc,s2,s4,cE,eb,eF,_,_=>⟨[],s2,s4,cE,eb,eF,.refl _,by simp,by simp,by simp[forL]⟩
|x::l,acc,s2,s4,cE,eb,eF,hx,aG=>by
  obtain⟨m,hm,eJ⟩:=xg n (10+x.1) (by have:=hx x fQ;omega);obtain⟨q,a5,fz⟩:=divQ m 4;obtain⟨r,_,_,_,gT⟩:=modQ q 3;obtain⟨aQ,yK,p9⟩:=divQ q 256;obtain⟨bk,oc,h0,ah,p_⟩:=modQ aQ 3;obtain⟨bu,BS,p'⟩:=divQ q 1024;obtain⟨b4,_,ar,br,o8⟩:=modQ bu 5;obtain⟨s,aA,m9⟩:=yT zz h0 ah;obtain⟨u,b8,o7⟩:=yS [0,0,1,2,9] ar br;simp only[zz,de,ib] at m9 o7;simp only[eX] at aG;have b6:acc.length+1<=big:=by unfold big;omega
  have kD:∀y∈l,0<=y.1/\y.1<100:=λy a6=>hx y (dK _ a6);obtain⟨rs,aay,Ha⟩:=ajA q [some (unop%Wr 0),s1,some (.aa (.int x.1)),s3,some (.aa (.int q)),some (unop%WR 0),some (.aa (.str x.2)),eb,eF,none] rfl;by_cases aw:0<r\/x.1=1
  ·obtain⟨a',nr,jq,pB,pC,pD,cx,cI,pk,rr⟩:=Mt n s1 s3 l (acc++[(⟨x.2,s,rs,u⟩:hp)]) (some (.aa (.int x.1))) (unop%Wn 0) (some (.aa (.str x.2))) (some (.aa (.tuple (rs.map .str)))) (some (.aa (.str s))) kD (by simp;omega);refine⟨⟨x.2,s,rs,u⟩::a',nr,jq,pB,pC,pD,by simpa using cx,λz hz=>?_,λ_=>by simp,?_⟩
   ·rcases cM.mp hz with rfl|hz
    ·exact⟨aA,aay,b8⟩
    ·exact cI z hz
   ·rw[de,forL];have:uc [some (unop%Wr 0),s1,some (.aa (.int x.1)),s3,s4,some (unop%WR 0),some (.aa (.str x.2)),eb,eF,none]=some (.bI [some (unop%Wr 0),s1,some (.aa (.int x.1)),s3,some (.aa (.int q)),some (.aa (.tuple ((acc++[(⟨x.2,s,rs,u⟩:hp)]).map di))),some (.aa (.str x.2)),some (.aa (.tuple (rs.map .str))),some (.aa (.str s)),none]):=by
     have s8:asg 4 (aj oDiv (aX ig [(au 0),(aj bV (ae (.int 10)) (nm 2))]) (ae (.int 4))) [some (unop%Wr 0),s1,some (.aa (.int x.1)),s3,s4,some (unop%WR 0),some (.aa (.str x.2)),eb,eF,none]=some (.bI [some (unop%Wr 0),s1,some (.aa (.int x.1)),s3,some (.aa (.int q)),some (unop%WR 0),some (.aa (.str x.2)),eb,eF,none]):=by
      simp! [gL,hW,eJ,fz]
     have nr:asg 7 (aX gA [(comp 1 [4] (jX (ae (.int 3))) (bw 0) ud o9)]) [some (unop%Wr 0),s1,some (.aa (.int x.1)),s3,some (.aa (.int q)),some (unop%WR 0),some (.aa (.str x.2)),eb,eF,none]=some (.bI [some (unop%Wr 0),s1,some (.aa (.int x.1)),s3,some (.aa (.int q)),some (unop%WR 0),some (.aa (.str x.2)),some (.aa (.tuple (rs.map .str))),eF,none]):=by
      simp only[asg,aX,args,Ha,cn,dF,gA];rfl
     unfold uc;rw[fj s8];have cQ:fD (unop%WD 0) (bt (aj oEq (nm 2) (ae (.int 1)))) [some (unop%Wr 0),s1,some (.aa (.int x.1)),s3,some (.aa (.int q)),some (unop%WR 0),some (.aa (.str x.2)),eb,eF,none]=some true:=by
      by_cases dA:0<r
      ·simp! [gL,gT,iz,dA]
      ·have ape:oEq (.int x.1) (.int 1)=some (.bool true):=by rw[mJ,decide_eq_true (aw.resolve_left dA)]
       simp! [gL,gT,iz,dA,ape]
     simp only[iff,cQ,cn,if_true];rw[fj nr];simp! [gL,gT,p9,p_,p',o8,m9,o7,bV,b6,Nt,tv,oI,Ax,di]
    simp only[qb,dv,gI,bw,cn,gx,gd,this];simpa using rr
  ·obtain⟨a',nr,jq,pB,pC,pD,cx,cI,pk,rr⟩:=Mt n s1 s3 l acc (some (.aa (.int x.1))) (unop%Wn 0) (some (.aa (.str x.2))) eb eF kD (by omega);refine⟨a',nr,jq,pB,pC,pD,cx.cons _,cI,λ⟨y,a6,e⟩=>pk ?_,?_⟩
   ·rcases cM.mp a6 with rfl|a6
    ·exact absurd (.inr e) aw
    ·exact⟨y,a6,e⟩
   ·rw[de,forL];have:uc [some (unop%Wr 0),s1,some (.aa (.int x.1)),s3,s4,some (unop%WR 0),some (.aa (.str x.2)),eb,eF,none]=some (.bI [some (unop%Wr 0),s1,some (.aa (.int x.1)),s3,some (.aa (.int q)),some (unop%WR 0),some (.aa (.str x.2)),eb,eF,none]):=by
     have dN:¬0<r:=λz=>aw (.inl z);have ape:oEq (.int x.1) (.int 1)=some (.bool false):=by rw[mJ,decide_eq_false λz=>aw (.inr z)]
     simp! [gL,uc,eJ,fz,gT,hW,iz,dN,ape]
    simp only[qb,dv,gI,bw,cn,gx,gd,this];exact rr
noncomputable def mP:List (Int×Str):=[(0,"a"),(1,"b"),(2,"back"),(3,"d"),(4,"hall"),(5,"r"),(6,"win"),(7,"z")]
noncomputable def sz:List (Int×Str):=[(0,"0000"),(1,"1234"),(2,"4321"),(3,"7777"),(4,"9990"),(5,"9999")]
structure iN(p:bf):Prop where
 zs:(p.cq.map (·.1)).Sublist (mP.map (·.2))
 zk:∀z∈p.cq,z.2∈kinds
 LI:p.cq≠[]
 cs:(p.codes.map (·.fA)).Sublist (sz.map (·.2))
 o2:∀k∈p.codes,k.ke∈zz/\k.ov.Sublist EB/\k.uses∈([0,0,1,2,9]:List Int)
 sy:p.codes≠[]
 h9:p.leave∈([0,5,30,60]:List Int)
 tc:p.o4∈([0,4,20,60]:List Int)
 to:p.loud∈([1,9,120,300]:List Int)
def alA(n:Int):∃p,iN p/\Ae [.int n]=some (cb p):=by
 obtain⟨zs,s2,s3,s4,cx,cI,pk,rr⟩:=Mx n mP [] none none none (by decide) (by decide);have yM:zs≠[]:=pk (by
  have ah:0<=n / 8 % 8:=lC _ (by decide);have ar:n / 8 % 8<8:=oF _ (by decide);generalize n / 8 % 8=r at ah ar;have:r=0\/r=1\/r=2\/r=3\/r=4\/r=5\/r=6\/r=7:=by omega
  rcases this with rfl|rfl|rfl|rfl|rfl|rfl|rfl|rfl
  ·exact⟨(0,"a"),by simp[mP],rfl⟩
  ·exact⟨(1,"b"),by simp[mP],rfl⟩
  ·exact⟨(2,"back"),by simp[mP],rfl⟩
  ·exact⟨(3,"d"),by simp[mP],rfl⟩
  ·exact⟨(4,"hall"),by simp[mP],rfl⟩
  ·exact⟨(5,"r"),by simp[mP],rfl⟩
  ·exact⟨(6,"win"),by simp[mP],rfl⟩
  ·exact⟨(7,"z"),by simp[mP],rfl⟩)
 obtain⟨a',rG,zt,t6,t7,t8,B1,Qt,ru,hP⟩:=Mt n (some (.aa (.tuple (zs.map eR)))) s3 sz [] s2 s4 none none none (by decide) (by decide);have rk:a'≠[]:=ru ⟨(1,"1234"),by simp[sz],rfl⟩;obtain⟨m,hm,eJ⟩:=xg n 20 (by decide);obtain⟨q,a5,fz⟩:=divQ m 4;obtain⟨r,_,q6,a1,gT⟩:=modQ q 4;obtain⟨aQ,yK,n5⟩:=divQ q 4;obtain⟨bk,_,gQ,b6,p9⟩:=modQ aQ 4;obtain⟨bu,BS,p_⟩:=divQ q 16;obtain⟨b4,_,sy,cV,p'⟩:=modQ bu 4;obtain⟨u,b8,o8⟩:=yS [0,5,30,60] q6 a1;obtain⟨v,bh,m9⟩:=yS [0,4,20,60] gQ b6;obtain⟨w,hw,o7⟩:=yS [1,9,120,300] sy cV;simp only[de,ib] at o8 m9 o7;refine⟨⟨zs,a',u,v,w⟩,⟨cx,cI,yM,B1,Qt,rk,b8,bh,hw⟩,?_⟩;have f1:d1 (unop%W6 0) (dv [(bw 2),(bw 3)]) sx [some (unop%Wr 0),some (.aa (.tuple [])),none,none,none,none,none,none,none,none]=some (.bI [some (unop%Wr 0),some (.aa (.tuple (zs.map eR))),s2,s3,s4,none,none,none,none,none]):=by
  have:(unop%W6 0) [some (unop%Wr 0),some (.aa (.tuple [])),none,none,none,none,none,none,none,none]=some (mP.map qb):=by
   simp[iJ,gO,a0,args,ae,ak_,enum,mP,qb,List.zipIdx]
  unfold d1;rw[this];exact rr
 have f2:d1 (unop%Wb 0) (dv [(bw 2),(bw 6)]) uc [some (unop%Wr 0),some (.aa (.tuple (zs.map eR))),s2,s3,s4,some (.aa (.tuple [])),none,none,none,none]=some (.bI [some (unop%Wr 0),some (.aa (.tuple (zs.map eR))),rG,s3,zt,some (.aa (.tuple (a'.map di))),t6,t7,t8,none]):=by
  have:(unop%Wb 0) [some (unop%Wr 0),some (.aa (.tuple (zs.map eR))),s2,s3,s4,some (.aa (.tuple [])),none,none,none,none]=some (sz.map qb):=by
   simp[iJ,gO,a0,args,ae,NF,enum,sz,qb,List.zipIdx]
  unfold d1;rw[this];exact hP
 show c2 (seq (asg 1 (a0 [])) (seq (d1 (unop%W6 0) (dv [(bw 2),(bw 3)]) sx)
  (seq (asg 5 (a0 [])) (seq (d1 (unop%Wb 0) (dv [(bw 2),(bw 6)]) uc) _)))) 10 [.int n]=_
 unfold c2;have pe:seq (asg 1 (a0 []))=λb=>seq (asg 1 (a0 [])) b:=rfl;have ah:asg 1 (a0 []) [some (unop%Wr 0),none,none,none,none,none,none,none,none,none]=some (.bI [some (unop%Wr 0),some (.aa (.tuple [])),none,none,none,none,none,none,none,none]):=by simp[asg,a0,args]
 have gq:asg 5 (a0 []) [some (unop%Wr 0),some (.aa (.tuple (zs.map eR))),s2,s3,s4,none,none,none,none,none]=some (.bI [some (unop%Wr 0),some (.aa (.tuple (zs.map eR))),s2,s3,s4,some (.aa (.tuple [])),none,none,none,none]):=by simp[asg,a0,args]
 show (seq _ _ [some (unop%Wr 0),none,none,none,none,none,none,none,none,none]).bind _=_
 rw[fj ah,fj f1,fj gq,fj f2];simp! [gL,eJ,fz,gT,n5,p9,p_,p',o8,m9,o7,tv,oI,cb]
def iN.fM{p:bf}(h:iN p):p.cq.length<=8:=by simpa [mP] using h.zs.length_le
def iN.cl{p:bf}(h:iN p):p.codes.length<=6:=by simpa [sz] using h.cs.length_le
def qI{l:List Str}(h:l.all (λx=>(mF x).canLay0)=true:=by decide +kernel){x:Str}(hx:x∈l):cP x:=List.all_eq_true.mp h x hx
def iN.wp{p:bf}(h:iN p):Wp p:=by
 refine⟨?_,?_,?_,?_⟩
 ·exact h.cs.nodup (by decide +kernel)
 ·exact h.zs.nodup (by decide +kernel)
 ·have:=h.cl;omega
 ·have ah:=h.h9;have ar:=h.tc;have br:=h.to;simp at ah ar br;omega
def iN.j'{p:bf}(h:iN p):∀z∈p.cq,cP z.1/\cP z.2:=λz hz=>⟨qI (l:=mP.map (·.2)) (hx:=h.zs.subset (dP.mpr ⟨z,hz,rfl⟩)),qI (l:=kinds) (hx:=h.zk z hz)⟩
def iN.QO{p:bf}(h:iN p):∀k∈p.codes,cP k.fA/\cP k.ke/\∀r∈k.ov,cP r:=λk aI=>⟨qI (l:=sz.map (·.2)) (hx:=h.cs.subset (dP.mpr ⟨k,aI,rfl⟩)),qI (l:=zz) (hx:=(h.o2 k aI).1),λr ay=>qI (l:=EB) (hx:=(h.o2 k aI).2.1.subset ay)⟩
def iN.begun{p:bf}(h:iN p):bo p (jx p):=by
 refine⟨h.j',h.QO,?_,bN "off",λz e=>(nomatch e),λe=>absurd e DR,?_,?_,?_,by simp[jx],by simp[jx]⟩
 ·have:=h.fM;omega
 ·simp[jx,ny]
 ·intro l aG;obtain⟨z,_,rfl⟩:=dP.mp aG;exact bN "shut"
 ·simp[jx,ny]
end cf
end
section
namespace cf
open D PySem
def yU(p:bf):aT (cb p) (.int 0)=some (.tuple (p.cq.map eR)):=by simp[aT,eI,fm,cb]
def aa3(p:bf):aT (cb p) (.int 1)=some (.tuple (p.codes.map di)):=by simp[aT,eI,fm,cb]
def E3(z:Str×Str):aT (eR z) (.int 0)=some (.str z.1):=by simp[aT,eI,fm,eR]
def anM(k:hp):aT (di k) (.int 0)=some (.str k.fA):=by simp[aT,eI,fm,di]
def QC(m:Int){l:List T}(h:l≠[]):∃q:Int,0<=q/\q<l.length/\oMod (.int m) (.int l.length)=some (.int q):=by
 have aG:0<(l.length:Int):=by
  have:=List.length_pos_iff.mpr h;omega
 obtain⟨q,_,ah,ar,e⟩:=modQ m l.length aG;exact⟨q,ah,ar,e⟩
noncomputable def vQ:List Str:=["0000","1234","4321","7777","9990","9999","0001","1111","5555"]
noncomputable def xT(p:bf):ha->Prop
|.line z w=>z∈p.cq.map (·.1)/\w∈(["shut","open","open","cut"]:List Str)
|.code f d z=>f∈vQ/\(((d="set"\/d="unset")/\z=none)\/((d="shunt"\/d="free")/\∃x,z=some x/\x∈p.cq.map (·.1)))
|.fq n=>1<=n/\n<=1000000000
def xT.ok{p:bf}{e:ha}(h:xT p e):lY p e:=by
 cases e with
|line z w=>
  obtain⟨ah,ar⟩:=h;simp at ar;exact⟨ah,ar⟩
|fq n=>exact h.1
|code f d z=>
  obtain⟨ah,ar⟩:=h;refine⟨qI (l:=vQ) (hx:=ah),?_,?_⟩
  ·rcases ar with ⟨ar|ar,_⟩|⟨ar|ar,_⟩
   ·exact .inl ar
   ·exact .inr (.inl ar)
   ·exact .inr (.inr (.inl ar))
   ·exact .inr (.inr (.inr ar))
  ·intro hd;rcases ar with ⟨ar|ar,_⟩|⟨_,br⟩
   ·rcases hd with hd|hd
    ·exact absurd (ar.symm.trans hd) Mg
    ·exact absurd (ar.symm.trans hd) D3
   ·rcases hd with hd|hd
    ·exact absurd (ar.symm.trans hd) RZ
    ·exact absurd (ar.symm.trans hd) Mb
   ·exact br
def ak8{p:bf}(h:iN p)(n:Int):∃e,xT p e/\tm [cb p,.int n]=some (cY e):=by
 obtain⟨aQ,_,eJ⟩:=divQ n 8;obtain⟨i,Qp,cx,fz⟩:=QC (l:=p.cq.map eR) aQ (by simpa using h.LI);obtain⟨t,bp,gT⟩:=B0 Qp cx;obtain⟨z,hz,rfl⟩:=dP.mp bp;have uL:z.1∈p.cq.map (·.1):=dP.mpr ⟨z,hz,rfl⟩;obtain⟨k,_,_,_,n5⟩:=modQ n 10;obtain⟨bu,_,p9⟩:=divQ n 512;obtain⟨b4,_,Qs,B1,p_⟩:=modQ bu 4;obtain⟨w,hw,p'⟩:=yT ["shut","open","open","cut"] Qs B1;obtain⟨Z_,qf,o8⟩:=yT ["0001","1111","9999","0000"] Qs B1;obtain⟨df,_,m9⟩:=divQ n 64;obtain⟨kG,_,o7⟩:=divQ n 4096;obtain⟨qq,_,k0,k1,Ha⟩:=modQ kG 3;obtain⟨u,b8,ape⟩:=yS [3,40,200] k0 k1;have Iw:0<u/\u<=200:=by
  simp at b8;omega
 obtain⟨jN,_,wA,cu,Z1⟩:=modQ df u Iw.1;obtain⟨ID,aaU,aaV,PF⟩:=QC (l:=p.codes.map di) df (by simpa using h.sy);obtain⟨t',BV,Z2⟩:=B0 aaU aaV;obtain⟨c,aw,rfl⟩:=dP.mp BV;have _K:c.fA∈vQ:=by
  have:=h.cs.subset (dP.mpr ⟨c,aw,rfl⟩);simp[sz,vQ] at this ⊢;rcases this with q|q|q|q|q|q <;> simp[q]
 obtain⟨uX,_,PG⟩:=divQ n 65536;obtain⟨ze,_,_,_,PH⟩:=modQ uX 4;obtain⟨zf,_,m0,i3,PI⟩:=modQ kG 6;obtain⟨d,hd,Hb⟩:=yT ["set","set","unset","shunt","free","shunt"] m0 i3;simp only[de,ib] at p' o8 ape Hb;simp only[fh] at fz PF;have lM:iA [.tuple (p.cq.map eR)]=some (.int p.cq.length):=by simp[iA]
 have bA:iA [.tuple (p.codes.map di)]=some (.int p.codes.length):=by simp[iA]
 simp only[tm,Tt,c2,de,ib,eX,lB,dZ,pL,pK];by_cases ah:k<5
 ·exact⟨.line z.1 w,⟨uL,hw⟩,by simp! [gL,yU,E3,eJ,lM,fz,gT,n5,oLt,ah,p9,p_,p',tv,oI,cY]⟩
 ·by_cases ar:k<7
  ·exact⟨.fq (1+jN),⟨by omega,by omega⟩,by simp! [gL,yU,E3,eJ,lM,fz,gT,n5,oLt,ah,ar,m9,o7,Ha,ape,Z1,hW,oI,mL,cY]⟩
  ·have eh:cP d:=qI (l:=["set","set","unset","shunt","free","shunt"]) (hx:=hd);have K7:=Er false (n:=d) (ns:=["set","unset"]) eh (by
    intro k aI;exact qI (l:=["set","unset"]) (hx:=aI))
   simp only[de,ib] at K7;obtain⟨f,hf,sD⟩:∃f∈vQ,(iff (bt (aj oEq (aj oMod (aj oDiv (nm 1) (ae (.int 65536))) (ae (.int 4))) (ae (.int 0)))) (asg 4 (aj aT (a0 [(ae (.str "0001")),(ae (.str "1111")),(ae (.str "9999")),(ae (.str "0000"))]) (aj oMod (aj oDiv (nm 1) (ae (.int 512))) (ae (.int 4))))) skip) [some (.aa (cb p)),some (unop%Wr 0),some (.aa (.str z.1)),some (unop%WT 0),some (.aa (.str c.fA)),none]=some (.bI [some (.aa (cb p)),some (unop%Wr 0),some (.aa (.str z.1)),some (unop%WT 0),some (.aa (.str f)),none]):=by
    by_cases br:ze=0
    ·refine⟨Z_,?_,by simp! [gL,PG,PH,mJ,br,p9,p_,o8,tv]⟩
     simp[vQ] at qf ⊢;rcases qf with q|q|q|q <;> simp[q]
    ·exact⟨c.fA,_K,by simp! [gL,PG,PH,mJ,br]⟩
   have Q2:∀X:bJ,iff (bt (aj oLt (nm 3) (ae (.int 5)))) X skip [some (.aa (cb p)),some (unop%Wr 0),some (.aa (.str z.1)),some (unop%WT 0),none,none]=some (.bI [some (.aa (cb p)),some (unop%Wr 0),some (.aa (.str z.1)),some (unop%WT 0),none,none]):=λX=>by simp! [gL,oLt,ah]
   have sB:∀X:bJ,iff (bt (aj oLt (nm 3) (ae (.int 7)))) X skip [some (.aa (cb p)),some (unop%Wr 0),some (.aa (.str z.1)),some (unop%WT 0),none,none]=some (.bI [some (.aa (cb p)),some (unop%Wr 0),some (.aa (.str z.1)),some (unop%WT 0),none,none]):=λX=>by simp! [gL,oLt,ar]
   have Q3:asg 4 (aj aT (aj aT (unop%W7 0) (aj oMod (aj oDiv (nm 1) (ae (.int 64))) (aX iA [(unop%W7 0)]))) (ae (.int 0))) [some (.aa (cb p)),some (unop%Wr 0),some (.aa (.str z.1)),some (unop%WT 0),none,none]=some (.bI [some (.aa (cb p)),some (unop%Wr 0),some (.aa (.str z.1)),some (unop%WT 0),some (.aa (.str c.fA)),none]):=by simp! [gL,aa3,bA,m9,PF,Z2,anM]
   by_cases cF:d="set"\/d="unset"
   ·refine⟨.code f d none,⟨hf,.inl ⟨cF,rfl⟩⟩,?_⟩
    have K8:eS false (.str d) (.tuple [.str "set",.str "unset"])=some (.bool true):=by
     rw[K7];simp[cF]
    have pre:∀B:bJ,(seq (asg 2 (aj aT (aj aT (unop%W9 0) (aj oMod (aj oDiv (nm 1) (ae (.int 8))) (aX iA [(unop%W9 0)]))) (ae (.int 0)))) (seq (asg 3 (aj oMod (nm 1) (ae (.int 10)))) B)) [some (.aa (cb p)),some (unop%Wr 0),none,none,none,none]=B [some (.aa (cb p)),some (unop%Wr 0),some (.aa (.str z.1)),some (unop%WT 0),none,none]:=by
     intro B;simp! [gL,yU,E3,eJ,lM,fz,gT,n5]
    rw[pre];rw[fj (Q2 _),fj (sB _),fj Q3,fj sD];simp! [gL,o7,PI,Hb,NF,mL,K8,tv,cY,hR]
   ·refine⟨.code f d (some z.1),⟨hf,.inr ⟨?_,z.1,rfl,uL⟩⟩,?_⟩
    ·simp at hd;rcases hd with q|q|q|q|q
     ·exact absurd (.inl q) cF
     ·exact absurd (.inr q) cF
     ·exact .inl q
     ·exact .inr q
     ·exact .inl q
    have K8:eS false (.str d) (.tuple [.str "set",.str "unset"])=some (.bool false):=by
     rw[K7];simp at cF;simp[cF]
    have pre:∀B:bJ,(seq (asg 2 (aj aT (aj aT (unop%W9 0) (aj oMod (aj oDiv (nm 1) (ae (.int 8))) (aX iA [(unop%W9 0)]))) (ae (.int 0)))) (seq (asg 3 (aj oMod (nm 1) (ae (.int 10)))) B)) [some (.aa (cb p)),some (unop%Wr 0),none,none,none,none]=B [some (.aa (cb p)),some (unop%Wr 0),some (.aa (.str z.1)),some (unop%WT 0),none,none]:=by
     intro B;simp! [gL,yU,E3,eJ,lM,fz,gT,n5]
    rw[pre];rw[fj (Q2 _),fj (sB _),fj Q3,fj sD];simp! [gL,o7,PI,Hb,NF,mL,K8,tv,cY,hR]
noncomputable def xu:List ha:=[.code "5555" "unset" none,.code "5555" "unset" none,.code "5555" "unset" none]
theorem TN{p:bf}(h:iN p)(n:Int):∀(a':List Int) (s0:Option aO),(∀k∈a',0<=k/\k<1000)->∃es:List ha,(∀e∈es,xT p e)/\es.length=a'.length/\g9 (bw 0) (d7 true) (aX tm [(au 1),(unop%WH 0)]) (a'.map .int) [s0,some (.aa (cb p)),some (unop%Wr 0)]=some (es.map cY)
| [],s0,_=>⟨[],by simp,rfl,rfl⟩
|k::a',s0,aI=>by
  obtain⟨m,_,eJ⟩:=xg n (30+k) (by have:=aI k fQ;omega);obtain⟨q,_,fz⟩:=divQ m 4;obtain⟨e,he,gT⟩:=ak8 h q;obtain⟨es,cx,cI,pk⟩:=TN h n a' (unop%W4 0) λy a6=>aI y (dK _ a6);refine⟨e::es,λx hx=>?_,by simp[cI],?_⟩
  ·rcases cM.mp hx with rfl|hx
   ·exact he
   ·exact cx x hx
  ·have aw:aX tm [(au 1),(unop%WH 0)] [some (unop%WT 0),some (.aa (cb p)),some (unop%Wr 0)]=some (cY e):=by
    simp! [gL,hW,eJ,fz,gT]
   rw[de];simp only[g9,bw,gd,cn,d7,if_true,aw];rw[pk];rfl
def amu{p:bf}(h:iN p)(n m:Int)(bg:0<=n)(hm:0<=m/\m<900):∃es:List ha,(∀e∈es,xT p e)/\(es.length:Int)<=m/\xq [cb p,.int n,.int m]=some (.tuple (es.map cY)):=by
 obtain⟨r,_,kb,bk,eJ⟩:=modQ n (m+1) (by omega);have aag:lZ 0 r=((List.range r.toNat).map λ(k:Nat)=>(k:Int)).map .int:=by
  simp[lZ,ny]
 obtain⟨es,cx,cI,pk⟩:=TN h n ((List.range r.toNat).map λ(k:Nat)=>(k:Int)) none (by
  intro k aI;obtain⟨j,bU,rfl⟩:=dP.mp aI;have:=List.mem_range.mp bU;omega)
 have aG:(es.length:Int)=r:=by
  simp at cI;omega
 obtain⟨q,_,fz⟩:=divQ n 64;obtain⟨cy,_,_,_,gT⟩:=modQ q 5;have ae':ao4 r=true:=by
  unfold ao4;simp;omega
 have s1:asg 3 (aX gA [(comp 1 [0,1] (jX (aj oMod (nm 1) (aj bV (nm 2) (ae (.int 1))))) (bw 0) (d7 true) (aX tm [(au 1),(unop%WH 0)]))]) [some (.aa (cb p)),some (unop%Wr 0),some (.aa (.int m)),none]=some (.bI [some (.aa (cb p)),some (unop%Wr 0),some (.aa (.int m)),some (.aa (.tuple (es.map cY)))]):=by
  have b6:((((List.range r.toNat).map λ(k:Nat)=>(k:Int)).map PyData.int).length<=big)=True:=by
   simp;unfold big;omega
  have it:(jX (aj oMod (nm 1) (aj bV (nm 2) (ae (.int 1))))) [some (.aa (cb p)),some (unop%Wr 0),some (.aa (.int m)),none]=some (((List.range r.toNat).map λ(k:Nat)=>(k:Int)).map .int):=by
   rw[<- aag];simp[jX,aj,nm,ae,hW,eJ,ae']
  simp only[asg,aX,args,comp,it,cn,b6,if_true];show Option.map _ ((Option.bind (Option.map _ (g9 _ _ _ _ [none,some (.aa (cb p)),some (unop%Wr 0)])) _).bind _)=_;rw[pk];simp[gA]
 have bO:xq [cb p,.int n,.int m]=(EH [some (.aa (cb p)),some (unop%Wr 0),some (.aa (.int m)),none]).bind λo=>match o with|.dn t=>some t|.bI _=>some .none|_=>none:=rfl
 by_cases aw:cy=0/\2<(es.length:Int)
 ·refine⟨es.take (es.length - 3)++xu,?_,?_,?_⟩
  ·intro e he;rcases hS.mp he with q|q
   ·exact cx e (List.mem_of_mem_take q)
   ·simp[xu] at q;subst q;exact⟨by simp[vQ],.inl ⟨.inr rfl,rfl⟩⟩
  ·simp[xu];omega
  ·rw[bO];unfold EH;rw[fj s1];have b6:(es.length - 3+3<=big)=True:=by
    simp only[eq_iff_iff,iff_true];unfold big;omega
   have b7:(max (-3+(es.length:Int)) 0).toNat=es.length - 3:=by omega
   have dM:min (es.length - 3) es.length=es.length - 3:=by omega
   have kY:apm (.tuple [cY (.code "5555" "unset" none)]) (.int 3)=some (.tuple (xu.map cY)):=by
    simp[apm,xu,dZ,oI]
   simp only[cY,hR] at kY;simp! [gL,fz,gT,mJ,aw.1,aw.2,iA,iz,slice,optN,opt,iB,CC,uh,c8,b7,dM,kY,tv,Ax,bV,xu];rw[if_pos (b6▸trivial)];simp! [gL]
 ·refine⟨es,cx,by omega,?_⟩
  rw[bO];unfold EH;rw[fj s1];by_cases ah:cy=0
  ·have ar:¬2<(es.length:Int):=λz=>aw ⟨ah,z⟩;simp! [gL,fz,gT,mJ,ah,iA,iz];rw[if_neg ar];simp! [gL]
  ·simp! [gL,fz,gT,mJ,ah]
end cf
end
section
namespace cf
open D PySem
noncomputable def afd(k:Int)(w:Int×Str×Option Str):Int×Str×Option Str:=(k+w.1,w.2)
noncomputable def hj(k:Int)(pre:List (Int×Str×Option Str))(c:a9):a9:={c with past:=k+c.past,told:=pre++c.told.map (afd k)}
noncomputable def anf(c:a9):Prop:=c.mode="leaving"\/c.mode="coming"
end cf
end
section
namespace cf
open D PySem
noncomputable def okN(d:Nat)(t:T):Prop:=t.canLay0=true/\t.depth<=d
theorem okN.ez{d:Nat}{t:T}(h:okN d t)(hd:d<=60:=by decide):ez t=true:=by
 unfold D.ez;rw[h.1,decide_eq_true (lz h.2 hd)];rfl
theorem Ut{d:Nat}:∀{ts:List T},(∀t∈ts,okN d t)->jV ts=true/\ja ts<=d
| [],_=>by simp[jV,ja]
|t::ts,h=>by
  obtain⟨ah,ar⟩:=Ut λx hx=>h x (dK _ hx);obtain⟨br,cF⟩:=h t fQ;constructor
  ·rw[jV,br,ah];rfl
  ·rw[ja];omega
def xb{d:Nat}{ts:List T}(h:∀t∈ts,okN d t):okN (d+1) (.tuple ts):=by
 obtain⟨ah,ar⟩:=Ut h;constructor
 ·rw[PyData.canLay0];exact ah
 ·rw[nC];omega
def Nn(d:Nat)(n:Int):okN d (.int n):=⟨rfl,by rw[nC];omega⟩
def TQ(d:Nat):okN d .none:=⟨rfl,by rw[nC];omega⟩
def ED(d:Nat){x:Str}(h:cP x):okN d (.str x):=⟨h,by rw[nC];omega⟩
def TS{d:Nat}{t:T}(h:okN d t)(hd:d<=60:=by decide):i4 t t=some (.bool false):=by
 unfold i4;rw[h.ez hd,PySem.SeqAt.eqv_refl t h.1];rfl
def akP{d:Nat}{t:T}(h:okN d t)(hd:d<=60:=by decide):oEq t t=some (.bool true):=by
 unfold oEq;rw[h.ez hd,PySem.SeqAt.eqv_refl t h.1];rfl
noncomputable def c7(c:a9):Prop:=∀w∈c.told,cP w.2.1/\∀n,w.2.2=some n->cP n
theorem c7.tell{c:a9}(h:c7 c){w:Str}{n:Option Str}(hw:cP w)(bg:∀x,n=some x->cP x):c7 (cf.tell w n c):=by
 intro x hx;rcases hS.mp hx with q|q
 ·exact h x q
 ·simp at q;subst q;exact⟨hw,bg⟩
theorem c7.gE{p:bf}{c:a9}(h:c7 c){z:Str}(hz:cP z):c7 (cf.gE p z c):=by
 unfold cf.gE;split
 ·exact h
 ·exact c7.tell (c:={mh p c with dp:=c.dp++[z]}) h (bN "alarm") λx e=>gg e▸hz
theorem c7.dp{p:bf}:∀{zs:List Str} {c:a9},c7 c->(∀z∈zs,cP z)->c7 (cf.dp p zs c)
| [],_,h,_=>h
|z::zs,c,h,hz=>c7.dp (zs:=zs) (h.gE (hz z fQ)) λy a6=>hz y (dK _ a6)
theorem c7.lO{p:bf}{c:a9}(h:c7 c){z k:Str}(hz:cP z):c7 (cf.lO p z k c):=by
 unfold cf.lO;split
 ·exact h.gE hz
 ·exact c7.tell (c:={c with mode:="coming",left:=p.o4,hM:=some z}) h (bN "coming") λx e=>gg e▸hz
theorem c7.m8{p:bf}{c:a9}(h:c7 c){z w:Str}(hz:cP z):c7 (cf.m8 p z w c):=by
 unfold cf.m8
 repeat' split
 all_goals first|exact h.gE hz|exact h.tell (bN "fault") λx e=>gg e▸hz|exact h.lO hz|exact h
theorem c7.line{p:bf}{c:a9}(h:c7 c){z w:Str}(hz:cP z):c7 (cf.line p z w c):=by
 have h':c7 {c with lines:=ow c.lines z w}:=h;unfold cf.line
 repeat' split
 all_goals first|exact h|exact h'|exact h'.tell (bN "mended") λx e=>gg e▸hz|exact h'.m8 hz
theorem c7.lQ{p:bf}{c:a9}(h:c7 c)(hw:bo p c):c7 (cf.lQ p c):=
 c7.dp (c7.tell (c:={c with mode:="on",left:=0}) h (bN "on") λx e=>(nomatch e)) λz hz=>hw.j' (Eu hz)
theorem c7.lR{p:bf}{c:a9}(h:c7 c)(hw:bo p c)(hm:anf c):c7 (cf.lR p c):=by
 unfold cf.lR;split
 ·exact h.lQ hw
 next q=>
  obtain⟨z,hz⟩:=Option.ne_none_iff_exists'.mp (hw.lN (hm.resolve_left q));unfold cf.rb;rw[hz];exact c7.gE (c:={c with mode:="on",hM:=none}) h (hw.ca z hz).1
theorem c7.fq{p:bf}{c:a9}(h:c7 c)(hw:bo p c)(n:Int):c7 (cf.fq p n c):=by
 unfold cf.fq;split
 ·exact h
 ·split
  next q=>exact c7.lR (c:=r0 c.left c) h (hw.cd _) q.1
  ·exact h
theorem c7.kI{p:bf}{c:a9}(h:c7 c):c7 (cf.kI p c):=by
 have ah:c7 (pG c):=c7.tell h (bN "wrong") λx e=>(nomatch e);unfold cf.kI;split
 ·exact c7.tell (c:=mh p {pG c with tries:=0,locked:=90}) ah (bN "attack") λx e=>(nomatch e)
 ·exact ah
def ajk{p:bf}{c:a9}(hw:bo p c){k:hp}(aI:k∈p.codes){d:Str}{z:Option Str}{x:Str×Str}(h:n0 p k d z c=some x):cP x.1/\cP x.2:=by
 have Qj:=(hw.fw k aI).2.1;unfold n0 at h;by_cases ah:(if d="free" then ("shunt":Str) else d)∈k.ov
 ·rw[if_neg (λq=>q ah)] at h;split at h
  ·cases h
   exact⟨bN "no",Qj⟩
  ·split at h
   next q=>
    cases h
    refine⟨bN "open",?_⟩
    have af:=q.2;cases e:bare p ["day","once"] c with
    |nil=>exact absurd e af
    |cons b bs=>
     have:b∈bare p ["day","once"] c:=by rw[e];simp
     simpa using hw.j' (Eu this)
   ·cases h
 ·rw[if_pos ah] at h;cases h;exact⟨bN "denied",Qj⟩
theorem c7.iq{p:bf}{c:a9}(h:c7 c)(hw:bo p c){w d:Str}{z:Option Str}(how:cP w)(hz:CE p d z c):c7 (cf.iq p w d z c):=by
 rcases hz with rfl|rfl|⟨rfl,x,rfl,hx⟩|⟨rfl,x,rfl,hx⟩
 ·simp only[cf.iq,if_true];have h':c7 (cf.tell "set" (some w) {c with dp:=[],hF:=0,mode:="leaving",left:=p.leave}):=c7.tell (c:={c with dp:=[],hF:=0,mode:="leaving",left:=p.leave}) h (bN "set") λx e=>gg e▸how;show c7 (if p.leave<=0 then cf.lQ p (cf.tell "set" (some w) {c with dp:=[],hF:=0,mode:="leaving",left:=p.leave}) else cf.tell "set" (some w) {c with dp:=[],hF:=0,mode:="leaving",left:=p.leave});split
  ·exact h'.lQ ((hw.CU p.leave).tell _ _)
  ·exact h'
 ·simp only[cf.iq,if_neg Me,if_true];exact c7.tell (c:={c with mode:="off",left:=0,hF:=0,hM:=none,d4:=[]}) h (bN "unset") λx e=>gg e▸how
 ·simp only[cf.iq,if_neg Mf,if_neg DN,if_true];exact c7.tell (c:={c with d4:=lG (c.d4++[x])}) h (bN "shunt") λy e=>gg e▸hw.j' hx
 ·simp only[cf.iq,if_neg Ms,if_neg DS,if_neg DT];exact c7.tell (c:={c with d4:=c.d4.erase x}) h (bN "free") λy e=>gg e▸hw.y_ x hx
theorem c7.kA{p:bf}{c:a9}(h:c7 c)(hw:bo p c){e:ha}(he:lY p e):c7 (cf.kA p c e):=by
 cases e with
|line z w=>exact h.line (hw.j' he.1)
|fq n=>exact h.fq hw n
|code f d z=>
  show c7 (cf.code p f d z c)
  unfold cf.code;split
  ·exact h.tell (bN "locked") λx e=>(nomatch e)
  ·split
   ·exact h.kI
   next k gn=>
    have aI:=SJ gn;split
    ·exact h.kI
    ·have Dc:=hw.C8 0;have h0:c7 {c with tries:=0}:=h;unfold cf.takeRight;split
     next ea=>exact c7.iq (c:={c with tries:=0,used:=sq c.used k.fA}) h (Dc.add k.fA) (hw.fw k aI).2.1 (NM he.2.1 he.2.2 ea)
     next ea=>
      have:=ajk Dc aI ea;exact h0.tell this.1 λx e=>gg e▸this.2
theorem c7.run{p:bf}:∀{es:List ha} {c:a9},c7 c->bo p c->(∀e∈es,lY p e)->c7 (cf.run p c es)
| [],_,h,_,_=>h
|e::es,c,h,hw,he=>c7.run (es:=es) (h.kA hw (he e fQ)) (hw.kA (he e fQ)) λy a6=>he y (dK _ a6)
theorem c7.fresh(c:a9):c7 (cf.fresh c):=λw hw=>by cases hw
end cf
end
section
namespace cf
open D PySem
def hI{i:Nat}{f:bZ}{b:bJ}{ai:Ev}{t:T}{r:Option Out}(h:f ai=some t)(ar:b (ai.set i (some (.aa t)))=r):seq (asg i f) b ai=r:=by
 rw[fj (ε':=ai.set i (some (.aa t))),ar];unfold asg;rw[h];rfl
def M3{c:fX}{a b:bJ}{ai:Ev}{r:Option Out}(h:c ai=some false)(ar:b ai=r):seq (iff c a skip) b ai=r:=by
 rw[fj (ε':=ai),ar];unfold iff;rw[h];rfl
def pS{a b:bJ}{ai ε':Ev}{r:Option Out}(h:a ai=some (.bI ε'))(ar:b ε'=r):seq a b ai=r:=by rw[fj h,ar]
theorem denied{p:bf}{c:a9}{k:hp}{d:Str}(hd:d="set"\/d="unset")(ay:d∉k.ov):takeRight p k d none c=tell "denied" (some k.ke) c:=by
 have:n0 p k d none c=some (("denied":Str),k.ke):=by
  rcases hd with rfl|rfl <;> simp[n0,D3,Mb,ay]
 unfold takeRight;rw[this]
def Az{c:fX}{x y:bJ}{ai:Ev}{b:Bool}(h:c ai=some b):iff c x y ai=if b then x ai else y ai:=by
 unfold iff;rw[h];rfl
end cf
end
section
namespace cf
open D PySem
end cf
end
section
namespace aoY
open D cf
open PySem hiding run fresh code
local instance:cB:=⟨[],λ_=>[],λ_=>none⟩
def ajn:hs=a7.hs:=rfl
def ai_:sC=a7.sC:=rfl
abbrev Op:=a7.Op
noncomputable def e_(z:Option Str)(aV:Int):List ha:=match z with
|none=>[.fq 1,.fq aV]
|some z=>[.line z "open",.fq 1,.line z "shut",.fq aV]
def EC(z:Option Str)(aV:Int):(e_ z aV).length<=4:=by cases z <;> simp[e_]
noncomputable def fi(os:List Op)(k:Nat):Option Str:=(os[k]?).bind (·.2.2)
noncomputable def kg(os:List Op)(way:List Nat)(aV:Int):List ha:=(way.map λk=>e_ (fi os k) aV).flatten
def S0(o:Op)(aV:Int):oJ [a7.dw o,.int aV]=some (.tuple ((e_ o.2.2 aV).map cY)):=by
 obtain⟨a,b,z⟩:=o;cases z with
|none=>simp! [i7,oJ,Nb,a7.dw,a7.ho,e_,cY,mL]
|some z=>simp! [i7,oJ,Nb,a7.dw,a7.ho,e_,cY,mL,oI,tv]
def HW(R:Int)(os:List Op):aT (a7.cH R os) (.int 1)=some (.tuple (os.map a7.dw)):=by simp[aT,eI,fm,a7.cH]
def anO(R:Int)(os:List Op):aT (a7.cH R os) (.int 0)=some (.int R):=by simp[aT,eI,fm,a7.cH]
def KO{os:List Op}{k:Nat}(aI:k<os.length):aT (.tuple (os.map a7.dw)) (.int (k:Nat))=some (a7.dw os[k]):=by
 show eI _ _=_
 unfold eI fm;rw[if_pos (by omega),if_pos (by simp;omega)];show ((os.map a7.dw)[((k:Nat):Int).toNat]?)=_;rw[Int.toNat_natCast,kL,jv aI];rfl
def My{os:List Op}{k:Nat}(aI:k<os.length):fi os k=os[k].2.2:=by
 unfold fi;rw[jv aI];rfl
theorem SP(R:Int)(os:List Op)(aV:Int)(s1:Option aO):∀(way:List Nat) (acc:List ha) (s4:Option aO),(∀k∈way,k<os.length)->acc.length+4*way.length<=1000->∃jq,forL (bw 4) (we 3 (aX oJ [(aj aT (unop%W7 0) (nm 4)),(au 2)])) (way.map λ(k:Nat)=>PyData.int (k:Int)) [some (unop%Wl 0),s1,some (.aa (.int aV)),some (.own (acc.map cY)),s4] =
   some (.bI [some (unop%Wl 0),s1,some (.aa (.int aV)),some (.own ((acc++kg os way aV).map cY)),jq])
| [],acc,s4,_,_=>⟨s4,by simp[forL,kg]⟩
|k::a',acc,s4,aI,aG=>by
  have rk:=aI k (by simp);have pl:=EC (fi os k) aV;simp only[eX] at aG;obtain⟨jq,bT⟩:=SP R os aV s1 a' (acc++e_ (fi os k) aV) (unop%W4 0) (λy a6=>aI y (dK _ a6)) (by simp only[l8];omega);refine⟨jq,?_⟩;have af:(acc.map cY).length+((e_ (fi os k) aV).map cY).length<=big:=by
   simp only[fh];unfold big;omega
  have za:=S0 os[k] aV;rw[<- My rk] at za;have step:we 3 (aX oJ [(aj aT (unop%W7 0) (nm 4)),(au 2)]) [some (unop%Wl 0),s1,some (.aa (.int aV)),some (.own (acc.map cY)),some (unop%WT 0)]=some (.bI [some (unop%Wl 0),s1,some (.aa (.int aV)),some (.own ((acc++e_ (fi os k) aV).map cY)),some (unop%WT 0)]):=by
   simp only[we,aX,aj,args,nm,au,ae,ft,e4,cn,dF,HW,KO rk,za,if_pos af,gx,gd,List.map_append]
  rw[de,forL];simp only[bw,gx,gd,cn,step];rw[bT];simp[kg]
def ajo{R:Int}{os:List Op}{way:List Nat}{aV:Int}(aI:∀k∈way,k<os.length)(aG:way.length<=100):vA [a7.cH R os,a7.wT way,.int aV]=some (.tuple ((kg os way aV).map cY)):=by
 obtain⟨jq,zC⟩:=SP R os aV (some (.aa (a7.wT way))) way [] none aI (by simp;omega);have it:dy (au 1) [some (unop%Wl 0),some (.aa (a7.wT way)),some (.aa (.int aV)),some (.own []),none]=some (way.map λ(k:Nat)=>PyData.int (k:Int)):=rfl;suffices aA:Na [some (unop%Wl 0),some (.aa (a7.wT way)),some (.aa (.int aV)),none,none]=some (.dn (.tuple ((kg os way aV).map cY))) by
  unfold vA c2;simp only[de,ib,eX,lB,pL,pK];exact congrArg (λo=>Option.bind o _) aA
 unfold Na;refine pS (ε':=[some (unop%Wl 0),some (.aa (a7.wT way)),some (.aa (.int aV)),some (.own []),none]) ?_ ?_
 ·simp[hr,fa,args]
 refine pS (ε':=[some (unop%Wl 0),some (.aa (a7.wT way)),some (.aa (.int aV)),some (.own ((kg os way aV).map cY)),jq]) ?_ ?_
 ·unfold d1;rw[it];exact zC
 ·simp[b9,aX,args,nm,gA]
noncomputable def kX(w:Int×Str×Option Str):Bool:=decide (w.2.1="alarm")
theorem UH(caps:Ev):∀(ws:List (Int×Str×Option Str)) (s0 s1 s2:Option aO),g9 (dv [(bw 0),(bw 1),(bw 2)]) (d7 true) (au 1) (ws.map mi) (s0::s1::s2::caps)=some ((ws.map (·.2.1)).map .str)
| [],_,_,_=>rfl
|w::ws,s0,s1,s2=>by
  have bT:=UH caps ws (some (.aa (.int w.1))) (some (.aa (.str w.2.1))) (some (.aa (hR w.2.2)));rw[de,g9];simp only[mi,dv,gI,bw,cn,gd,gx,d7,if_true,au,ft,e4] at bT ⊢;rw[bT];rfl
def ahV{ws:List (Int×Str×Option Str)}(aJ:∀w∈ws,cP w.2.1)(aG:ws.length<=100000):vn [.tuple (ws.map mi)]=some (.bool (ws.any kX)):=by
 have af:(ws.map mi).length<=big:=by rw[fh];unfold big;omega
 have c:=UH [] ws none none none;have apg:=tp false (n:="alarm") (ns:=ws.map (·.2.1)) (bN "alarm") (λx hx=>by
  obtain⟨w,hw,rfl⟩:=dP.mp hx;exact aJ w hw)
 have e:decide (("alarm":Str)∈ws.map (·.2.1))=ws.any kX:=by
  rw[Bool.eq_iff_iff];simp only[decide_eq_true_eq,dP,List.any_eq_true,kX]
 suffices aA:Ml [some (.aa (.tuple (ws.map mi)))]=some (.dn (.bool (ws.any kX))) by
  unfold vn c2;simp only[de,ib,eX,lB,pL,pK];exact congrArg (λo=>Option.bind o _) aA
 simp only[Ml,b9,aj,ae,comp,dy,au,e4,cn,if_pos af,hn,dZ,ib,kO];rw[c];simp only[dF,cn,apg,e];rfl
section
variable (p:bf)(os:List Op)(aV:Int)
noncomputable def je(c:a9)(k:Nat):a9:=run p (fresh c) (e_ (fi os k) aV)
noncomputable def e8:a9->List Nat->Nat->Option Nat
|_,[],_=>none
|c,k::a',i=>if (je p os aV c k).told.any kX then some (i+1) else e8 (je p os aV c k) a' (i+1)
end
noncomputable def jo:Option Nat->T
|none=>.none
|some k=>.int (k:Int)
noncomputable def m3(p:bf)(os:List Op):Prop:=∀o∈os,∀z,o.2.2=some z->z∈p.cq.map (·.1)
def NK{p:bf}{os:List Op}(hz:m3 p os){aV:Int}(aL:1<=aV)(k:Nat):∀e∈e_ (fi os k) aV,lY p e:=by
 cases aI:os[k]? with
|none=>
  have:fi os k=none:=by unfold fi;rw[aI];rfl
  rw[this];intro e he;simp[e_] at he;rcases he with rfl|rfl
  ·show (1:Int)<=1
   decide
  ·exact aL
|some o=>
  have az:fi os k=o.2.2:=by unfold fi;rw[aI];rfl
  have hm:=hz o (qB aI);rw[az];cases a5:o.2.2 with
  |none=>
   intro e he;simp[e_] at he;rcases he with rfl|rfl
   ·show (1:Int)<=1
    decide
   ·exact aL
  |some z=>
   have mq:=hm z a5;intro e he;simp[e_] at he;rcases he with rfl|rfl|rfl|rfl
   ·exact⟨mq,.inr (.inl rfl)⟩
   ·show (1:Int)<=1
    decide
   ·exact⟨mq,.inl rfl⟩
   ·exact aL
def Ue{p:bf}{os:List Op}(hz:m3 p os){aV:Int}(aL:1<=aV){c:a9}(hw:bo p c)(k:Nat):bo p (je p os aV c k):=hw.fresh.run (NK hz aL k)
noncomputable def ao3:bJ:=(seq (asg 8 (aX oJ [(aj aT (unop%Wz 0) (nm 7)),(au 4)])) (seq (iff (bt (aX vn [(aX pU [(au 0),(au 5),(au 8)])])) (b9 (nm 6)) skip) (asg 5 (aX nP [(au 0),(au 5),(au 8)]))))
theorem Vn{p:bf}(wp:Wp p){R:Int}{os:List Op}(hz:m3 p os){aV:Int}(aL:1<=aV)(s2 s3:Option aO):∀(a':List Nat) (i:Nat) (c:a9) (cE eb eF:Option aO),bo p c->(∀k∈a',k<os.length) ->
  ∃bX pB pC pD,forL (dv [(bw 6),(bw 7)]) ao3 ((a'.zipIdx i).map λq=>.tuple [.int ((q.2+1:Nat):Int),.int (q.1:Nat)]) [some (.aa (cb p)),some (unop%Wl 0),s2,s3,some (.aa (.int aV)),some (.aa (c5 c)),cE,eb,eF] =
   match e8 p os aV c a' i with
   |some j=>some (.dn (.int (j:Nat)))
   |none=>some (.bI [some (.aa (cb p)),some (unop%Wl 0),s2,s3,some (.aa (.int aV)),some (.aa (c5 bX)),pB,pC,pD])
| [],i,c,cE,eb,eF,_,_=>⟨c,cE,eb,eF,rfl⟩
|k::a',i,c,cE,eb,eF,hw,aI=>by
  have rk:=aI k (by simp);have ok:=NK hz aL k;have pl:=EC (fi os k) aV;have xs:=TJ p c (e_ (fi os k) aV) hw wp ok (by omega);have kK:=Ey p c (e_ (fi os k) aV) hw wp ok (by omega);have zx:=c7.run (c7.fresh c) hw.fresh ok;have h9:=Eo hw.fresh ok;have LI:(fresh c).told.length=0:=rfl;have aC:=ahV (ws:=(run p (fresh c) (e_ (fi os k) aV)).told) (λw hw=>(zx w hw).1) (by omega);have za:=S0 os[k] aV;rw[<- My rk] at za;have g:dv [(bw 6),(bw 7)] (.tuple [.int ((i+1:Nat):Int),.int (k:Nat)]) [some (.aa (cb p)),some (unop%Wl 0),s2,s3,some (.aa (.int aV)),some (.aa (c5 c)),cE,eb,eF]=some [some (.aa (cb p)),some (unop%Wl 0),s2,s3,some (.aa (.int aV)),some (.aa (c5 c)),some (.aa (.int ((i+1:Nat):Int))),some (.aa (.int (k:Nat))),eF]:=rfl;have first:∀B:bJ,seq (asg 8 (aX oJ [(aj aT (unop%Wz 0) (nm 7)),(au 4)])) B [some (.aa (cb p)),some (unop%Wl 0),s2,s3,some (.aa (.int aV)),some (.aa (c5 c)),some (.aa (.int ((i+1:Nat):Int))),some (.aa (.int (k:Nat))),eF]=B [some (.aa (cb p)),some (unop%Wl 0),s2,s3,some (.aa (.int aV)),some (.aa (c5 c)),some (.aa (.int ((i+1:Nat):Int))),some (.aa (.int (k:Nat))),some (unop%WQ 0)]:=λB=>by
   refine hI (t:=.tuple ((e_ (fi os k) aV).map cY)) ?_ rfl
   simp only[aX,aj,args,nm,au,ae,ft,e4,cn,dF,HW,KO rk,za]
  have l3:(bt (aX vn [(aX pU [(au 0),(au 5),(au 8)])])) [some (.aa (cb p)),some (unop%Wl 0),s2,s3,some (.aa (.int aV)),some (.aa (c5 c)),some (.aa (.int ((i+1:Nat):Int))),some (.aa (.int (k:Nat))),some (unop%WQ 0)]=some ((je p os aV c k).told.any kX):=by
   simp only[bt,aX,args,au,ft,e4,cn,dF,xs,aC];rfl
  cases a5:(je p os aV c k).told.any kX with
  |true=>
   refine⟨c,none,none,none,?_⟩
   simp only[e8,a5,if_true];rw[List.zipIdx_cons,de,forL];simp only[g,cn];have:ao3 [some (.aa (cb p)),some (unop%Wl 0),s2,s3,some (.aa (.int aV)),some (.aa (c5 c)),some (.aa (.int ((i+1:Nat):Int))),some (.aa (.int (k:Nat))),eF]=some (.dn (.int ((i+1:Nat):Int))):=by
    unfold ao3;rw[first];rw[a5] at l3;simp only[seq,iff,l3,cn,if_true];rfl
   rw[this];rfl
  |false=>
   obtain⟨bX,pB,pC,pD,bT⟩:=Vn wp (R:=R) hz aL s2 s3 a' (i+1) (je p os aV c k) (some (.aa (.int ((i+1:Nat):Int)))) (some (.aa (.int (k:Nat)))) (some (unop%WQ 0)) (Ue hz aL hw k) (λy a6=>aI y (dK _ a6));refine⟨bX,pB,pC,pD,?_⟩;simp only[e8,a5,lA,if_false];rw[List.zipIdx_cons,de,forL];simp only[g,cn];have:ao3 [some (.aa (cb p)),some (unop%Wl 0),s2,s3,some (.aa (.int aV)),some (.aa (c5 c)),some (.aa (.int ((i+1:Nat):Int))),some (.aa (.int (k:Nat))),eF]=some (.bI [some (.aa (cb p)),some (unop%Wl 0),s2,s3,some (.aa (.int aV)),some (.aa (c5 (je p os aV c k))),some (.aa (.int ((i+1:Nat):Int))),some (.aa (.int (k:Nat))),some (unop%WQ 0)]):=by
    unfold ao3;rw[first];rw[a5] at l3;refine M3 l3 ?_;simp only[asg,aX,args,au,ft,e4,cn,dF,kK,gx,gd];rfl
   rw[this];exact bT
def Tj{p:bf}(wp:Wp p){R:Int}{os:List Op}(hz:m3 p os){aV:Int}(aL:1<=aV){c:a9}(hw:bo p c){way:List Nat}(aI:∀k∈way,k<os.length):kk [cb p,a7.cH R os,c5 c,a7.wT way,.int aV]=some (jo (e8 p os aV c way 0)):=by
 obtain⟨bX,cE,eb,eF,zC⟩:=Vn wp (R:=R) hz aL (some (.aa (c5 c))) (some (.aa (a7.wT way))) way 0 c none none none hw aI;have it:xo (gO (au 3)) [some (.aa (cb p)),some (unop%Wl 0),some (.aa (c5 c)),some (.aa (a7.wT way)),some (.aa (.int aV)),some (.aa (c5 c)),none,none,none]=some ((way.zipIdx 0).map λq=>.tuple [.int ((q.2+1:Nat):Int),.int (q.1:Nat)]):=by
  show some (tQ (way.map λ(k:Nat)=>PyData.int (k:Int)))=_
  unfold tQ;rw[List.zipIdx_map,nE];rfl
 suffices aA:Nc [some (.aa (cb p)),some (unop%Wl 0),some (.aa (c5 c)),some (.aa (a7.wT way)),some (.aa (.int aV)),none,none,none,none]=some (.dn (jo (e8 p os aV c way 0))) by
  unfold kk c2;simp only[de,ib,eX,lB,pL,pK];exact congrArg (λo=>Option.bind o _) aA
 unfold Nc;refine hI (t:=c5 c) rfl ?_;simp only[gx,gd];have hf:d1 (xo (gO (au 3))) (dv [(bw 6),(bw 7)]) ao3 [some (.aa (cb p)),some (unop%Wl 0),some (.aa (c5 c)),some (.aa (a7.wT way)),some (.aa (.int aV)),some (.aa (c5 c)),none,none,none]=forL (dv [(bw 6),(bw 7)]) ao3 ((way.zipIdx 0).map λq=>.tuple [.int ((q.2+1:Nat):Int),.int (q.1:Nat)]) [some (.aa (cb p)),some (unop%Wl 0),some (.aa (c5 c)),some (.aa (a7.wT way)),some (.aa (.int aV)),some (.aa (c5 c)),none,none,none]:=by
  unfold d1;rw[it];rfl
 rw[zC] at hf;show seq (d1 (xo (gO (au 3))) (dv [(bw 6),(bw 7)]) ao3) (b9 (ae .none)) _=_;cases a5:e8 p os aV c way 0 with
|some j=>
  rw[a5] at hf;simp only[seq,hf,cn];rfl
|none=>
  rw[a5] at hf;exact pS hf rfl
theorem NT(p:bf)(os:List Op)(aV:Int):∀(w:List Nat) (c:a9) (i q:Nat),e8 p os aV c w i=some q->i<q/\q<=i+w.length
| [],c,i,q,e=>by cases e
|k::a',c,i,q,e=>by
  simp only[e8] at e;split at e
  ·cases e
   simp only[eX];omega
  ·have:=NT p os aV a' _ (i+1) q e;simp only[eX];omega
noncomputable def oM(p:bf)(o:Op):Op:=(o.1,o.2.1,match o.2.2 with|none=>none|some z=>if z∈p.cq.map (·.1) then some z else none)
noncomputable def Gf:bJ:=(asg 5 (aj bV (nm 5) (a0 [(a0 [(au 6),(au 7),(aj aT (a0 [(au 8),(ae .none)]) (aX ry [(aj (eS true) (nm 8) (nm 4))]))])])))
theorem Ve{p:bf}(yN:∀z∈p.cq.map (·.1),cP z)(s0 s1 s2 s3:Option aO):∀(os acc:List Op) (cE eb eF:Option aO),(∀o∈os,∀x,o.2.2=some x->cP x)->acc.length+os.length<=1000->∃pB pC pD,forL (dv [(bw 6),(bw 7),(bw 8)]) Gf (os.map a7.dw) [s0,s1,s2,s3,some (.aa (.list ((p.cq.map (·.1)).map .str))),some (.aa (.tuple (acc.map a7.dw))),cE,eb,eF] =
   some (.bI [s0,s1,s2,s3,some (.aa (.list ((p.cq.map (·.1)).map .str))),some (.aa (.tuple ((acc++os.map (oM p)).map a7.dw))),pB,pC,pD])
| [],acc,cE,eb,eF,_,_=>⟨cE,eb,eF,by simp[forL]⟩
|o::os,acc,cE,eb,eF,aJ,aG=>by
  simp only[eX] at aG;obtain⟨a,b,c,bT⟩:=Ve yN s0 s1 s2 s3 os (acc++[oM p o]) (some (.aa (.int o.1))) (some (.aa (.int o.2.1))) (some (.aa (a7.ho o.2.2))) (λy a6=>aJ y (dK _ a6)) (by simp only[l8,eX,lB];omega);refine⟨a,b,c,?_⟩;have g:dv [(bw 6),(bw 7),(bw 8)] (a7.dw o) [s0,s1,s2,s3,some (.aa (.list ((p.cq.map (·.1)).map .str))),some (.aa (.tuple (acc.map a7.dw))),cE,eb,eF]=some [s0,s1,s2,s3,some (.aa (.list ((p.cq.map (·.1)).map .str))),some (.aa (.tuple (acc.map a7.dw))),some (.aa (.int o.1)),some (.aa (.int o.2.1)),some (.aa (a7.ho o.2.2))]:=rfl;have af:(acc.map a7.dw).length+1<=big:=by rw[fh];unfold big;omega
  have ea:∀t:T,bV (.tuple (acc.map a7.dw)) (.tuple [t])=some (.tuple (acc.map a7.dw++[t])):=λt=>by
   simp only[bV,eX,lB];rw[if_pos af]
  have apg:∃b:Bool,eS true (a7.ho o.2.2) (.list ((p.cq.map (·.1)).map .str))=some (.bool b)/\aT (.tuple [a7.ho o.2.2,.none]) (.int (if b then 1 else 0))=some (a7.ho (oM p o).2.2):=by
   obtain⟨x,y,z⟩:=o;cases z with
   |none=>
    refine⟨true,?_,by simp[a7.ho,oM,aT,eI,fm]⟩
    show (if ez .none && qp ((p.cq.map (·.1)).map .str) then some (PyData.bool (if true then !lW .none ((p.cq.map (·.1)).map .str) else _)) else none)=_
    have ah:lW .none ((p.cq.map (·.1)).map .str)=false:=by
     unfold lW;rw[List.any_eq_false];intro t bp;obtain⟨z,_,rfl⟩:=dP.mp bp;simp[gf]
    rw[(TQ 0).ez,MF _ yN,ah];rfl
   |some z=>
    have KW:=aJ (x,y,some z) (by simp) z rfl;have q:=tp true (n:=z) (ns:=p.cq.map (·.1)) KW yN;by_cases hm:z∈p.cq.map (·.1)
    ·refine⟨false,by show eS true (.str z) _=_;rw[q];simp only[if_true,decide_eq_true hm];rfl,?_⟩
     simp[a7.ho,oM,hm,aT,eI,fm]
    ·refine⟨true,by show eS true (.str z) _=_;rw[q];simp only[if_true,decide_eq_false hm];rfl,?_⟩
     simp[a7.ho,oM,hm,aT,eI,fm]
  obtain⟨ya,d3,eE⟩:=apg;have step:Gf [s0,s1,s2,s3,some (.aa (.list ((p.cq.map (·.1)).map .str))),some (.aa (.tuple (acc.map a7.dw))),some (.aa (.int o.1)),some (.aa (.int o.2.1)),some (.aa (a7.ho o.2.2))]=some (.bI [s0,s1,s2,s3,some (.aa (.list ((p.cq.map (·.1)).map .str))),some (.aa (.tuple ((acc++[oM p o]).map a7.dw))),some (.aa (.int o.1)),some (.aa (.int o.2.1)),some (.aa (a7.ho o.2.2))]):=by
   simp only[Gf,asg,aj,aX,args,nm,au,a0,ae,ft,e4,cn,dF,eX,lB,Nat.zero_add,Nat.reduceAdd,Ax,mL,oI,if_true,d3,ry,eE,ea,gx,gd,List.map_append,de,ib];rfl
  rw[de,forL,g];simp only[cn,step];rw[bT];simp
def aiq{p:bf}(aL:iN p)(n:Int)(bg:0<=n):∃R os,a7.Drawn R os/\m3 p os/\w6 [cb p,.int n]=some (a7.cH R os):=by
 obtain⟨R,os,d,Dg⟩:=a7.aaw n bg;rw[<- ai_] at Dg;have yN:∀z∈p.cq.map (·.1),cP z:=λz hz=>aL.begun.j' hz;have bL:∀o∈os,∀x,o.2.2=some x->cP x:=λo aJ x hx=>qI (l:=a7.names5) (hx:=(d.ok o aJ).2.2.2 x hx);obtain⟨a,b,c,zC⟩:=Ve yN (some (.aa (cb p))) (some (unop%Wr 0)) (some (.aa (.int R))) (some (.aa (.tuple (os.map a7.dw)))) os [] none none none bL (by have:=d.len;simp;omega);refine⟨R,os.map (oM p),⟨d.bk,d.rC,by simpa using d.len,λo aJ=>?_⟩,λo aJ z hz=>?_,?_⟩
 ·obtain⟨o',jH,rfl⟩:=dP.mp aJ;obtain⟨ah,ar,br,cF⟩:=d.ok o' jH;refine⟨ah,ar,br,λx hx=>?_⟩;unfold oM at hx;simp only at hx;split at hx
  ·cases hx
  next z hz=>
   split at hx
   ·cases hx
    exact cF _ hz
   ·cases hx
 ·obtain⟨o',jH,rfl⟩:=dP.mp aJ;unfold oM at hz;simp only at hz;split at hz
  ·cases hz
  ·split at hz
   next hm=>cases hz;exact hm
   ·cases hz
 ·have zb:(p.cq.map eR).length<=big:=by have:=aL.fM;rw[fh];unfold big;omega
  have gG:g9 (bw 0) (d7 true) (unop%W9 0) (p.cq.map eR) [none]=some ((p.cq.map (·.1)).map .str):=by
   have:=M8 eR (λz=>.str z.1) [] p.cq none λz hz=>by simp! [i7,eR]
   rw[this,nE];rfl
  suffices aA:Md [some (.aa (cb p)),some (unop%Wr 0),none,none,none,none,none,none,none]=some (.dn (a7.cH R (os.map (oM p)))) by
   unfold w6 c2;simp only[de,ib,eX,lB,pL,pK];exact congrArg (λo=>Option.bind o _) aA
  unfold Md;refine pS (ε':=[some (.aa (cb p)),some (unop%Wr 0),some (.aa (.int R)),some (.aa (.tuple (os.map a7.dw))),none,none,none,none,none]) ?_ ?_
  ·simp only[iP,aX,args,au,ft,e4,cn,dF,Dg];rfl
  refine hI (t:=.list ((p.cq.map (·.1)).map .str)) (by
   simp only[comp,dy,aj,nm,ae,ft,e4,cn,yU,if_pos zb,hn,dZ,ib,kO];rw[gG];rfl) ?_
  simp only[gx,gd];refine hI (t:=.tuple []) (by simp[a0,args]) ?_;simp only[gx,gd];refine pS (ε':=[some (.aa (cb p)),some (unop%Wr 0),some (.aa (.int R)),some (.aa (.tuple (os.map a7.dw))),some (.aa (.list ((p.cq.map (·.1)).map .str))),some (.aa (.tuple ((os.map (oM p)).map a7.dw))),a,b,c]) ?_ ?_
  ·have it:dy (au 3) [some (.aa (cb p)),some (unop%Wr 0),some (.aa (.int R)),some (.aa (.tuple (os.map a7.dw))),some (.aa (.list ((p.cq.map (·.1)).map .str))),some (.aa (.tuple [])),none,none,none]=some (os.map a7.dw):=rfl;unfold d1;rw[it];exact zC
  ·simp[b9,a0,args,au,mL,a7.cH]
theorem BD{E:List (Int×Int)}:∀{w:List Nat} {x:Int} {q:List Int},eA.xU E x w q->∀k∈w,k<E.length
| [],_,_,_,k,aI=>by cases aI
|j::w,x,q,h,k,aI=>by
  obtain⟨e,t,r,ah,_,_,cF⟩:=h;rcases cM.mp aI with rfl|aI
  ·exact (g6.mp ah).1
  ·exact BD cF k aI
noncomputable def A3:bJ:=(seq (asg 10 (au 7)) (seq (iff (e0 (bt (cU fW (nm 7))) (bt (aj oLt (nm 9) (nm 7)))) (asg 10 (ae .none)) skip) (iff (bt (aj i4 (aX kk [(au 1),(au 2),(au 4),(slice (nm 6) optN (opt (nm 9))),(au 5)]) (nm 10))) (b9 (ae (.bool false))) skip)))
section
variable {p:bf}(wp:Wp p){R:Int}{os:List Op}(hz:m3 p os){aV:Int}(aL:1<=aV){c:a9}(hw:bo p c){way:List Nat}(aI:∀k∈way,k<os.length)
include wp hz aL hw aI
end
end aoY
end
section
namespace eA
theorem Nu{rec:List Int->Option (List (List Nat))}(ay:∀q us,rec q=some us->us.Pairwise (·<·)){pl:List Int}{h:Int}:∀{E:List (Int×Int)} {k:Nat} {ws:List (List Nat)},exts rec pl h k E=some ws->ws.Pairwise (·<·)/\∀w∈ws,∃j dh,k<=j/\w=j::dh
| [],k,ws,e=>by
  cases e
  exact⟨.nil,by simp⟩
|e::es,k,ws,ah=>by
  have up:∀{vs:List (List Nat)},exts rec pl h (k+1) es=some vs->vs.Pairwise (·<·)/\∀w∈vs,∃j dh,k<=j/\w=j::dh:=λbh=>by
   obtain⟨a,b⟩:=Nu ay bh;refine⟨a,λw hw=>?_⟩;obtain⟨j,dh,ah,ar⟩:=b w hw;exact⟨j,dh,by omega,ar⟩
  unfold exts at ah;split at ah
  next t bp=>
   split at ah
   next hm=>exact up ah
   next hm=>
    simp only[cm,dO] at ah;obtain⟨us,ar,vs,br,rfl⟩:=ah;obtain⟨a,b⟩:=Nu ay br;constructor
    ·rw[List.pairwise_append];refine⟨?_,a,λx hx y a6=>?_⟩
     ·rw[List.pairwise_map];exact (ay _ _ ar).imp λq=>List.cons_lt_cons_iff.mpr (.inr ⟨rfl,q⟩)
     ·obtain⟨u,_,rfl⟩:=dP.mp hx;obtain⟨j,dh,aQ,rfl⟩:=b y a6;exact List.cons_lt_cons_iff.mpr (.inl (by omega))
    ·intro w hw;rcases hS.mp hw with q|q
     ·obtain⟨u,_,rfl⟩:=dP.mp q;exact⟨k,u,dQ _,rfl⟩
     ·exact (up br).2 w q
  next=>exact up ah
theorem Ru{E:List (Int×Int)}{room:Int}:∀{n:Nat} {pl:List Int} {ws:List (List Nat)},ia E room n pl=some ws->ws.Pairwise (·<·)
|0,pl,ws,h=>by cases h
|n+1,pl,ws,h=>by
  unfold ia at h;split at h
  ·cases h
  ·split at h
   ·cases h
    simp
   ·exact (Nu (λq us a5=>Ru a5) h).1
noncomputable def G(m:Nat):Nat:=[1,1,2,3,4,6,9,12,18,27,36].getD m 0
end eA
end
section
namespace eA
abbrev E8:=Int×Int×Int
noncomputable def ind(b:Bool):Int:=if b then 1 else 0
noncomputable def KI(x:Int):List E8->Int
| []=>0
|a::L=>a.2.2*(ind (decide (a.1=x)) - ind (decide (a.2.1=x)))+KI x L
noncomputable def ends(L:List E8):List (Int×Int):=L.map λa=>(a.1,a.2.1)
structure Flow(E:List (Int×Int))(s t:Int)(v:Int)(L:List E8):Prop where
 qa:ends L=E
 un:∀a∈L,-1<=a.2.2/\a.2.2<=1
 cons:∀x,x≠s->x≠t->KI x L=0
 val:KI s L=v
end eA
end
section
namespace eA
end eA
end
section
namespace oY
open D a7
end oY
end
section
namespace oY
open PySem D a7
noncomputable def iQ(w:List Nat):List Int:=w.map λ(k:Nat)=>(k:Int)
def Nh(w:List Nat):wT w=.tuple ((iQ w).map .int):=by simp[wT,iQ]
end oY
end
section
namespace ji
open D a7 oY
noncomputable def rX:bJ:=
  (seq (asg 2 (aX hs [(au 0),(au 1)])) (seq (iff (gZ (g5 (nm 2))) r_ skip) (b9 (nm 2))))
noncomputable def rW:List T->Option T:=c2 rX 3
noncomputable def zT:hK:=
  (zp (asg 2 (aX hs [(au 0),(au 1)])) (yQ (gZ (g5 (nm 2))) (mx (cU (vP "no way leads to room ") (nm 1))) KJ))
noncomputable def aoX:List aO->Bool:=zl zT 3
end ji
end
section
namespace ji
open PySem D a7 oY
local instance:cB:=⟨[],λ_=>[],λ_=>none⟩
def KU(w:List Nat):(wT w).canLay0=true/\(wT w).depth<=2:=by
 have aP:=TR (iQ w);rw[Nh];simp only[PyData.canLay0,nC,aP.1,true_and];have:=aP.2;omega
theorem T_:∀{x y:List Nat},iQ x=iQ y->x=y
| [],[],_=>rfl
| [],_::_,h=>by simp[iQ] at h
|_::_,[],h=>by simp[iQ] at h
|a::x,b::y,h=>by
  simp only[iQ,de,List.cons.injEq] at h;have ah:a=b:=by omega
  rw[ah,T_ (show iQ x=iQ y from h.2)]
def Z5(x y:List Nat):gf (wT x) (wT y)=decide (x=y):=by
 rw[Nh,Nh,ak9];exact decide_eq_decide.mpr ⟨T_,λh=>by rw[h]⟩
theorem Qw:∀xs ys:List Int,mu (xs.map .int) (ys.map .int)=some (ni xs ys)
| [],[]=>by simp[mu,ni]
| [],_::_=>by simp[mu,ni]
|_::_,[]=>by simp[mu,ni]
|a::x,b::y=>by
  have bT:=Qw x y;simp only[de,mu,ni,gf];by_cases h:a=b
  ·subst h;simp[bT]
  ·have:(a==b)=false:=by simpa using h
   simp[this,h,gu]
def Vo{h:T}{room:Int}{ws:List (List Nat)}(hw:hs [h,.int room]=some (.tuple (ws.map wT)))(dY:ws≠[]):rW [h,.int room]=some (.tuple (ws.map wT)):=by
 have az:aX hs [(au 0),(au 1)] [some (.aa h),some (.aa (.int room)),none]=some (.tuple (ws.map wT)):=by
  simp only[aX,args,au,ft,e4,cn,dF,hw]
 have aM:gZ (g5 (nm 2)) [some (.aa h),some (.aa (.int room)),some (.aa (.tuple (ws.map wT)))]=some false:=by
  cases ws with
  |nil=>exact absurd rfl dY
  |cons w ws=>rfl
 have aA:rX [some (.aa h),some (.aa (.int room)),none]=some (.dn (.tuple (ws.map wT))):=by
  unfold rX seq asg;rw[az];simp only[dF,cn,gx,gd];unfold iff;rw[aM];rfl
 unfold rW c2;show Option.bind (rX [some (.aa h),some (.aa (.int room)),none]) _=_;rw[aA];rfl
def aeX{h:T}{room:Int}{ws:List (List Nat)}(hw:hs [h,.int room]=some (.tuple (ws.map wT)))(h0:0<=room)(HK:room<1000):aoX [.aa h,.aa (.int room)]=ws.isEmpty:=by
 have az:aX hs [(au 0),(au 1)] [some (.aa h),some (.aa (.int room)),none]=some (.tuple (ws.map wT)):=by
  simp only[aX,args,au,ft,e4,cn,dF,hw]
 have aM:gZ (g5 (nm 2)) [some (.aa h),some (.aa (.int room)),some (.aa (.tuple (ws.map wT)))]=some ws.isEmpty:=by
  cases ws with
  |nil=>rfl
  |cons w ws=>rfl
 have cu:(("no way leads to room ":Str)).length<=1000:=by decide
 have ey:room.natAbs<1000:=by omega
 show zT [some (.aa h),some (.aa (.int room)),none]=ws.isEmpty
 unfold zT zp asg;rw[az];simp only[dF,gx,gd];unfold yQ;rw[aM];cases ws with
|nil=>
  show D.mx _ _=true
  unfold D.mx cU;have dS:nm 1 [some (.aa h),some (.aa (.int room)),some (.aa (.tuple (([]:List (List Nat)).map wT)))]=some (.int room):=rfl;rw[dS];simp only[cn,vP,if_pos (And.intro ey cu),Option.isSome_some]
|cons w ws=>rfl
end ji
end
section
namespace ji
open PySem D a7 oY
local instance:cB:=⟨[],λ_=>[],λ_=>none⟩
def QM{t:T}(h:ez t=true):oEq t t=some (.bool true):=by
 have aw:t.canLay0=true:=by
  unfold ez at h;simp only[ic] at h;exact h.1
 unfold oEq;rw[h,PySem.SeqAt.eqv_refl t aw];rfl
theorem BD{E:List (Int×Int)}:∀{w:List Nat} {x:Int} {q:List Int},eA.xU E x w q->∀k∈w,k<E.length
| [],_,_,_,k,aI=>by cases aI
|j::w,x,q,h,k,aI=>by
  obtain⟨e,t,r,ah,_,_,cF⟩:=h;rcases cM.mp aI with rfl|aI
  ·exact (g6.mp ah).1
  ·exact BD cF k aI
end ji
end
section
namespace ji
open PySem D a7 oY
local instance:cB:=⟨[],λ_=>[],λ_=>none⟩
theorem Qy:∀{x y:List Nat},x<y->ni (iQ x) (iQ y)=true
| [],[],h=>by cases h
| [],_::_,_=>rfl
|_::_,[],h=>by cases h
|a::x,b::y,h=>by
  rcases List.cons_lt_cons_iff.mp h with q|⟨aQ,bu⟩
  ·have:(a:Int)<b:=by omega
   simp[iQ,ni,this]
  ·have:=Qy bu;unfold iQ at this;simp[iQ,ni,aQ,this]
def Rr(w:List Nat):wT w=zg (iQ w):=by
 unfold wT zg iQ;rw[nE];rfl
end ji
end
section
namespace Ow
open D cf aoY q4
open PySem hiding run fresh code
local instance:cB:=⟨[],λ_=>[],λ_=>none⟩
noncomputable def fo:Option Nat->Nat
|none=>99
|some q=>q
noncomputable def mr:Option Nat->T
|none=>.tuple [.int 1,.int 0]
|some q=>.tuple [.int 0,.int (q:Int)]
noncomputable def my(g:List Nat->Option Nat)(w:List Nat):T:=.tuple [.int (-(fo (g w):Int)),a7.wT w]
noncomputable def j_(g:List Nat->Option Nat)(b:List Nat):List (List Nat)->List Nat
| []=>b
|w::ws=>if fo (g b)<fo (g w) then j_ g w ws else j_ g b ws
def alQ(o:Option Nat):ez (mr o)=true:=by
 cases o with
|none=>decide +kernel
|some q=>simp[mr,ez,PyData.canLay0,jV,nC,ja]
def am6{a b:Option Nat}(aC:∀q,a=some q->q<99)(af:∀q,b=some q->q<99):gJ (mr a) (mr b)=some (decide (fo b<fo a)):=by
 cases a with
|none=>
  cases b with
  |none=>simp[mr,fo,gJ,oi,gf]
  |some q=>
   have:=af q rfl;simp[mr,fo,gJ,oi,gf,this]
|some p=>
  have ah:=aC p rfl;cases b with
  |none=>
   have:¬99<p:=by omega
   simp[mr,fo,gJ,oi,gf,this]
  |some q=>
   by_cases e:p=q
   ·subst e;simp[mr,fo,gJ,oi,gf]
   ·have bD:¬(p:Int)=(q:Int):=by omega
    simp only[mr,fo,gJ,oi,gf];have aM:((p:Int)==(q:Int))=false:=by simpa using bD
    have dS:((q:Int)<(p:Int)) <-> q<p:=by omega
    simp only[show ((0:Int)==0)=true from rfl,if_true,aM,lA,if_false];exact congrArg some (decide_eq_decide.mpr dS)
theorem NN{kf:T->Option T}{g:List Nat->Option Nat}:∀(ws:List (List Nat)) (b:List Nat),(∀w∈b::ws,kf (a7.wT w)=some (mr (g w))/\∀q,g w=some q->q<99)->vz kf (a7.wT b) (mr (g b)) (ws.map a7.wT)=some (a7.wT (j_ g b ws))
| [],b,h=>rfl
|w::ws,b,h=>by
  obtain⟨b6,b7⟩:=h b (by simp);obtain⟨oB,oC⟩:=h w (by simp);rw[de,vz,oB];simp only[cn,am6 oC b7];unfold j_;by_cases q:fo (g b)<fo (g w)
  ·rw[decide_eq_true q,if_pos rfl,if_pos q];exact NN ws w λv bh=>h v (by rcases cM.mp bh with rfl|bh <;> simp[*])
  ·rw[decide_eq_false q,if_neg (by decide),if_neg q];exact NN ws b λv bh=>h v (by rcases cM.mp bh with rfl|bh <;> simp[*])
def anL{g:List Nat->Option Nat}{b w:List Nat}(h:b<w):gu (my g w) (my g b)=some (decide (fo (g b)<fo (g w))):=by
 unfold my;unfold gu;unfold mu;by_cases e:fo (g w)=fo (g b)
 ·have az:gf (.int (-(fo (g w):Int))) (.int (-(fo (g b):Int)))=true:=by simp[gf,e]
  rw[if_pos az];unfold mu;have dY:w≠b:=by rintro rfl;exact List.lt_irrefl _ h
  have aM:gf (a7.wT w) (a7.wT b)=false:=by
   have:=ji.Z5 w b;rw[decide_eq_false dY] at this;exact this
  have dS:gu (a7.wT w) (a7.wT b)=some false:=by
   have:=ji.Qw (oY.iQ w) (oY.iQ b);rw[TX (ji.Qy h)] at this;rw[show a7.wT w=zg (oY.iQ w) from ji.Rr w,show a7.wT b=zg (oY.iQ b) from ji.Rr b];unfold zg gu;exact this
  rw[aM,dS,decide_eq_false (by omega)];rfl
 ·have az:gf (.int (-(fo (g w):Int))) (.int (-(fo (g b):Int)))=false:=by
   simp[gf];omega
  rw[az];simp only[lA,if_false];unfold gu;congr 1;refine decide_eq_decide.mpr ?_;omega
noncomputable def qs(g:List Nat->Option Nat):List (List Nat)->T
| []=>.tuple [.str "refused",.int 1]
|b::ws=>.tuple [.str "told",a7.wT (j_ g b ws)]
def U'(g:List Nat->Option Nat)(ws:List (List Nat)):ez (qs g ws)=true:=by
 cases ws with
|nil=>exact (show ez (.tuple [.str "refused",.int 1])=true by decide +kernel)
|cons b ws=>
  have h:=ji.KU (j_ g b ws);have c:(mF "told").canLay0=true:=by decide +kernel
  have ah:(a7.wT (j_ g b ws)).canLay0=true:=h.1;have ar:(a7.wT (j_ g b ws)).depth<=1\/True:=.inr trivial;simp only[qs,ez,PyData.canLay0,jV,nC,ja,ah,Bool.and_true,ic,decide_eq_true_eq];refine⟨by first|exact c|simpa [PyData.canLay0] using c,?_⟩;have:=h.2;omega
def Vo{R:Int}{os:List Op}{x:Int}{ws:List (List Nat)}(hw:hs [a7.cH R os,.int x]=some (.tuple (ws.map a7.wT)))(bg:ws≠[]):rW [a7.cH R os,.int x]=some (.tuple (ws.map a7.wT)):=by
 have az:aX hs [(au 0),(au 1)] [some (unop%Wl 0),some (.aa (.int x)),none]=some (.tuple (ws.map a7.wT)):=by
  simp only[aX,args,au,ft,e4,cn,dF,hw]
 have aM:gZ (g5 (nm 2)) [some (unop%Wl 0),some (.aa (.int x)),some (.aa (.tuple (ws.map a7.wT)))]=some false:=by
  cases ws with
  |nil=>exact absurd rfl bg
  |cons w ws=>rfl
 show Option.bind (rX [some (unop%Wl 0),some (.aa (.int x)),none]) _=_
 have:rX [some (unop%Wl 0),some (.aa (.int x)),none]=some (.dn (.tuple (ws.map a7.wT))):=by
  unfold rX;refine hI az ?_;simp only[gx,gd];unfold seq iff;rw[aM];rfl
 rw[this];rfl
def amv:q4.aoX=ji.aoX:=rfl
def ajy{p:bf}{R:Int}{os:List Op}{x aV:Int}{c:a9}{b:List Nat}{ws:List (List Nat)}{g:List Nat->Option Nat}(hw:hs [a7.cH R os,.int x]=some (.tuple ((b::ws).map a7.wT)))
  (bq:∀w∈b::ws,kk [cb p,a7.cH R os,c5 c,a7.wT w,.int aV]=some (jo (g w))/\∀q,g w=some q->q<99):r2 [cb p,a7.cH R os,c5 c,.int x,.int aV]=some (a7.wT (j_ g b ws)):=by
 have k1:∀w∈b::ws,Cp (aX w9 [(aX kk [(au 1),(au 2),(au 3),(au 0),(au 5)])]) [some (.aa (cb p)),some (unop%Wl 0),some (.aa (c5 c)),some (.aa (.int x)),some (.aa (.int aV))] (a7.wT w)=some (mr (g w)):=λw h=>by
  have e:aX w9 [(aX kk [(au 1),(au 2),(au 3),(au 0),(au 5)])] [some (.aa (a7.wT w)),some (.aa (cb p)),some (unop%Wl 0),some (.aa (c5 c)),some (.aa (.int x)),some (.aa (.int aV))]=some (mr (g w)):=by
   simp only[aX,args,au,ft,e4,cn,dF,(bq w h).1];cases g w <;> rfl
  unfold Cp;rw[e];simp only[cn,alQ,if_true]
 have aA:Ew [some (.aa (cb p)),some (unop%Wl 0),some (.aa (c5 c)),some (.aa (.int x)),some (.aa (.int aV))]=some (.dn (a7.wT (j_ g b ws))):=by
  have a:aX rW [(au 1),(au 3)] [some (.aa (cb p)),some (unop%Wl 0),some (.aa (c5 c)),some (.aa (.int x)),some (.aa (.int aV))]=some (.tuple ((b::ws).map a7.wT)):=by
   simp only[aX,args,au,ft,e4,cn,dF,Vo hw (by simp)]
  unfold Ew b9 E1;rw[a];simp only[cn,de,Kh,k1 b (by simp)];rw[NN ws b λw h=>⟨k1 w h,(bq w h).2⟩];rfl
 show Option.bind (Ew [some (.aa (cb p)),some (unop%Wl 0),some (.aa (c5 c)),some (.aa (.int x)),some (.aa (.int aV))]) _=_
 rw[aA];rfl
end Ow
end
section
namespace qZ
open D cf aoY q4 Ow
open PySem hiding run fresh code
local instance:cB:=⟨[],λ_=>[],λ_=>none⟩
noncomputable def oj(k:hp):Bool:=ih k.fA "9998"
noncomputable def gY:hp:=⟨"9998","x",["set"],0⟩
noncomputable def quiet(p:bf):bf:=⟨p.cq,(p.codes.filter oj).take 5++[gY],p.leave,p.o4,p.loud⟩
def Ry{p:bf}(aL:iN p):Wp (quiet p):=by
 have hw:=aL.wp;refine⟨?_,hw.Sl,?_,hw.C6⟩
 ·show (((p.codes.filter oj).take 5++[gY]).map (·.fA)).Nodup
  rw[List.map_append,nB];refine⟨?_,by simp,?_⟩
  ·exact (((List.take_sublist 5 _).trans List.filter_sublist).map _).nodup hw.cd
  ·intro a aC b af e;obtain⟨k,aI,rfl⟩:=dP.mp aC;have ah:=(List.mem_filter.mp (List.mem_of_mem_take aI)).2;have ar:b="9998":=by simpa [gY] using af
   rw[ar] at e;unfold oj at ah;rw[e] at ah;exact absurd ah (by decide +kernel)
 ·show ((p.codes.filter oj).take 5++[gY]).length<=40
  simp only[l8,List.length_take,eX,lB];omega
def agP{p:bf}(aL:iN p):bo (quiet p) (jx (quiet p)):=by
 refine⟨aL.j',?_,?_,bN "off",λz e=>(nomatch e),λe=>absurd e DR,?_,?_,?_,by simp[jx],by simp[jx]⟩
 ·intro k aI;rcases hS.mp (show k∈(p.codes.filter oj).take 5++[gY] from aI) with h|h
  ·exact aL.QO k (List.mem_filter.mp (List.mem_of_mem_take h)).1
  ·have:k=gY:=by simpa using h
   subst this;exact⟨bN "9998",bN "x",λr ay=>qI (l:=["set"]) (hx:=ay)⟩
 ·have:=aL.fM;show p.cq.length<=40;omega
 ·simp[jx,ny]
 ·intro l aG;obtain⟨z,_,rfl⟩:=dP.mp aG;exact bN "shut"
 ·simp[jx,ny]
noncomputable def yj:List ha:=[.code "9998" "set" none,.fq 61]
def QN(p:bf):∀e∈yj,lY p e:=by
 intro e he;simp only[yj,cM,pJ,or_false] at he;rcases he with rfl|rfl
 ·exact⟨bN "9998",.inl rfl,λh=>by rcases h with h|h;exact absurd h Mg;exact absurd h D3⟩
 ·show (1:Int)<=61
  decide
def alS{z:Option Str}(hz:∀x,z=some x->cP x)(aV:Int):∀e∈e_ z aV,okN 1 (cY e):=by
 have bp:∀n:Int,okN 1 (cY (.fq n)):=λn=>xb (d:=0) λt bp=>by
  simp only[cM,pJ,or_false] at bp;rcases bp with rfl|rfl
  ·exact ED 0 (bN "ticks")
  ·exact Nn 0 n
 intro e he;cases z with
|none=>
  simp only[e_,cM,pJ,or_false] at he;rcases he with rfl|rfl <;> exact bp _
|some z=>
  have KW:=hz z rfl;have aG:∀w,cP w->okN 1 (cY (.line z w)):=λw hw=>xb (d:=0) λt bp=>by
   simp only[cM,pJ,or_false] at bp;rcases bp with rfl|rfl|rfl
   ·exact ED 0 (bN "line")
   ·exact ED 0 KW
   ·exact ED 0 hw
  simp only[e_,cM,pJ,or_false] at he;rcases he with rfl|rfl|rfl|rfl
  ·exact aG _ (bN "open")
  ·exact bp _
  ·exact aG _ (bN "shut")
  ·exact bp _
def alR{p:bf}{os:List Op}(hz:m3 p os)(bg:∀z∈p.cq,cP z.1/\cP z.2)(aV:Int)(w:List Nat):okN 2 (.tuple ((kg os w aV).map cY)):=xb λx hx=>by
 obtain⟨e,he,rfl⟩:=dP.mp hx;unfold kg at he;obtain⟨l,aG,he⟩:=List.mem_flatten.mp he;obtain⟨k,aI,rfl⟩:=dP.mp aG;refine alS (λx e=>?_) aV e he;unfold fi at e;obtain⟨o,aJ,e⟩:=cm.mp e;obtain⟨y,a6,rfl⟩:=dP.mp (hz o (qB aJ) x e);exact (bg y a6).1
def aj9{R:Int}{os:List Op}{k:Nat}(aI:k<os.length)(aV:Int):w_ [a7.cH R os,.int (k:Nat),.int aV]=some (.tuple ((e_ (fi os k) aV).map cY)):=by
 have ar:∀o:Op,aT (a7.dw o) (.int 2)=some (a7.ho o.2.2):=λo=>by simp[a7.dw,aT,eI,fm]
 have az:=KO aI;rw[My aI];suffices aA:Mw [some (unop%Wl 0),some (.aa (.int (k:Nat))),some (.aa (.int aV)),none]=some (.dn (.tuple ((e_ os[k].2.2 aV).map cY))) by
  unfold w_ c2;simp only[de,ib,eX,lB,pL,pK];exact congrArg (λo=>Option.bind o _) aA
 unfold Mw;refine hI (t:=a7.ho os[k].2.2) (by simp only[aj,nm,ae,ft,e4,cn,HW,az,ar]) ?_;simp only[gx,gd];cases os[k].2.2 with
|none=>rfl
|some z=>rfl
noncomputable def rA:Option Nat->Option Nat->Option Nat
|none,x=>x
|some q,_=>some q
noncomputable def V(ns:List Int)(p:bf)(R:Int)(os:List Op)(c:a9)(m:Int)(s5 cE:Option aO)(x aV:Int)(b:T)(wa:List (List Nat))(gc k9 k_ k' hD hE gv gw fE eV:Option aO):Ev:=
 [some (.aa (ec ns)),some (.aa (cb p)),some (unop%Wl 0),some (.aa (c5 c)),some (.aa (.int m)),s5,cE,some (.aa (.int x)),some (.aa (.int aV)),some (.aa b),some (.aa (.tuple (wa.map a7.wT))),gc,k9,k_,k',hD,hE,gv,gw,fE,eV]
noncomputable def x':bJ:=(seq (asg 17 (aX w_ [(au 2),(au 16),(au 8)])) (seq (asg 12 (aj bV (nm 12) (nm 17))) (seq (asg 18 (comp 1 [] (dy (aX pU [(au 1),(au 14),(au 17)])) (bw 0) (d7 true) (unop%W7 0))) (seq (iff (e0 (bt (cU fP (nm 13))) (bt (aj (eS false) (ae (.str "alarm")) (nm 18)))) (asg 13 (aj bV (nm 15) (ae (.int 1)))) skip) (asg 14 (aX nP [(au 1),(au 14),(au 17)]))))))
section
variable {ns:List Int}{p:bf}{R:Int}{os:List Op}{c:a9}{m:Int}{s5 cE:Option aO}{x aV:Int}{b:T}{wa:List (List Nat)}
def am5(wp:Wp p)(hz:m3 p os)(aL:1<=aV)(gc gv gw fE eV:Option aO){k i:Nat}{h:a9}{acc:List ha}{pl:Option Nat}(hw:bo p h)(aI:k<os.length)(aG:acc.length+4<=1000):
  x' (V ns p R os c m s5 cE x aV b wa gc (some (.aa (.tuple (acc.map cY)))) (some (.aa (jo pl))) (some (.aa (c5 h))) (some (.aa (.int (i:Nat)))) (some (.aa (.int (k:Nat)))) gv gw fE eV) =
   some (.bI (V ns p R os c m s5 cE x aV b wa gc (some (.aa (.tuple ((acc++e_ (fi os k) aV).map cY)))) (some (.aa (jo (rA pl (if (je p os aV h k).told.any kX then some (i+1) else none))))) (some (.aa (c5 (je p os aV h k)))) (some (.aa (.int (i:Nat)))) (some (.aa (.int (k:Nat)))) (some (unop%WQ 0)) (some (.aa (.list (((je p os aV h k).told.map (·.2.1)).map .str)))) fE eV)):=by
 have ok:=NK hz aL k;have QR:=EC (fi os k) aV;have xs:=TJ p h (e_ (fi os k) aV) hw wp ok (by omega);have kK:=Ey p h (e_ (fi os k) aV) hw wp ok (by omega);have zx:=c7.run (c7.fresh h) hw.fresh ok;have h9:=Eo hw.fresh ok;have LI:(fresh h).told.length=0:=rfl;have ev:=aj9 (R:=R) aI aV;change c7 (je p os aV h k) at zx;change (je p os aV h k).told.length<=_ at h9;change _=some (c5 (je p os aV h k)) at kK;change _=some (PyData.tuple ((je p os aV h k).told.map mi)) at xs;generalize je p os aV h k=h' at xs kK zx h9;have af:(acc.map cY).length+((e_ (fi os k) aV).map cY).length<=big:=by
  simp only[fh];unfold big;omega
 generalize e_ (fi os k) aV=es at xs kK ev af QR h9;have ea:bV (.tuple (acc.map cY)) (.tuple (es.map cY))=some (.tuple ((acc++es).map cY)):=by
  simp only[bV,List.map_append];rw[if_pos af]
 have yb:∀caps:Ev,g9 (bw 0) (d7 true) (unop%W7 0) (h'.told.map mi) (none::caps)=some ((h'.told.map (·.2.1)).map .str):=λcaps=>by
  rw[tE (cc:=d7 true) (hc:=aj aT (nm 0) (ae (.int 1))) (caps:=caps) mi (λ_=>true) (λw=>.str w.2.1) h'.told none λw _=>⟨rfl,λ_=>rfl⟩];rw[List.filter_eq_self.mpr (λ_ _=>rfl),nE];rfl
 have ml:(h'.told.map mi).length<=big:=by rw[fh];unfold big;omega
 have apg:=tp false (n:="alarm") (ns:=h'.told.map (·.2.1)) (bN "alarm") (λx hx=>by
  obtain⟨w,hw,rfl⟩:=dP.mp hx;exact (zx w hw).1)
 have e:decide (("alarm":Str)∈h'.told.map (·.2.1))=h'.told.any kX:=by
  rw[Bool.eq_iff_iff];simp only[decide_eq_true_eq,dP,List.any_eq_true,kX]
 rw[if_neg (by decide),e] at apg;unfold x';refine hI (t:=.tuple (es.map cY)) (by simp only[V,aX,args,au,ft,e4,cn,dF,ev]) ?_;refine hI (t:=.tuple ((acc++es).map cY)) (by simp only[V,aj,nm,gx,gd,ft,e4,cn,dF,ea]) ?_;refine hI (t:=.list ((h'.told.map (·.2.1)).map .str)) (by
  simp only[V,comp,dy,aX,args,au,gx,gd,ft,e4,cn,dF,xs,if_pos ml,hn,dZ,ib,kO,yb]) ?_
 have l3:(e0 (bt (cU fP (nm 13))) (bt (aj (eS false) (ae (.str "alarm")) (nm 18)))) (V ns p R os c m s5 cE x aV b wa gc (some (.aa (.tuple ((acc++es).map cY)))) (some (.aa (jo pl))) (some (.aa (c5 h))) (some (.aa (.int (i:Nat)))) (some (.aa (.int (k:Nat)))) (some (.aa (.tuple (es.map cY)))) (some (.aa (.list ((h'.told.map (·.2.1)).map .str)))) fE eV)=some (pl.isNone && h'.told.any kX):=by
  cases pl with
  |some q=>rfl
  |none=>
   show Option.bind (eS false (.str "alarm") (.list ((h'.told.map (·.2.1)).map .str))) _=_
   rw[apg];rfl
 refine pS (ε':=V ns p R os c m s5 cE x aV b wa gc (some (.aa (.tuple ((acc++es).map cY)))) (some (.aa (jo (rA pl (if h'.told.any kX then some (i+1) else none))))) (some (.aa (c5 h))) (some (.aa (.int (i:Nat)))) (some (.aa (.int (k:Nat)))) (some (.aa (.tuple (es.map cY)))) (some (.aa (.list ((h'.told.map (·.2.1)).map .str)))) fE eV) ?_ ?_
 ·refine (Az l3).trans ?_
  cases pl with
  |some q=>rfl
  |none=>
   cases h'.told.any kX with
   |false=>rfl
   |true=>
    have:bV (.int (i:Nat)) (.int 1)=some (.int ((i+1:Nat):Int)):=by rw[hW];rfl
    show asg 13 (aj bV (nm 15) (ae (.int 1))) (V ns p R os c m s5 cE x aV b wa gc (some (.aa (.tuple ((acc++es).map cY)))) (some (.aa (jo none))) (some (.aa (c5 h))) (some (.aa (.int (i:Nat)))) (some (.aa (.int (k:Nat)))) (some (.aa (.tuple (es.map cY)))) (some (.aa (.list ((h'.told.map (·.2.1)).map .str)))) fE eV)=_
    simp only[V,asg,aj,nm,ae,ft,e4,cn,dF,this];rfl
 ·simp only[V,asg,aX,args,au,ft,e4,cn,dF,kK];rfl
theorem Vk(wp:Wp p)(hz:m3 p os)(aL:1<=aV)(gc fE eV:Option aO):∀(a':List Nat) (i:Nat) (h:a9) (acc:List ha) (pl:Option Nat) (hD hE gv gw:Option aO),bo p h->(∀k∈a',k<os.length)->acc.length+4*a'.length<=1000 ->
  ∃h' ae7 ae8 ae9 ae_,forL (dv [(bw 15),(bw 16)]) x' ((a'.zipIdx i).map λq=>.tuple [.int (q.2:Nat),.int (q.1:Nat)]) (V ns p R os c m s5 cE x aV b wa gc (some (.aa (.tuple (acc.map cY)))) (some (.aa (jo pl))) (some (.aa (c5 h))) hD hE gv gw fE eV) =
   some (.bI (V ns p R os c m s5 cE x aV b wa gc (some (.aa (.tuple ((acc++kg os a' aV).map cY)))) (some (.aa (jo (rA pl (e8 p os aV h a' i))))) (some (.aa (c5 h'))) ae7 ae8 ae9 ae_ fE eV))
| [],i,h,acc,pl,hD,hE,gv,gw,_,_,_=>⟨h,hD,hE,gv,gw,by
   have e:kg os [] aV=[]:=rfl;have aM:rA pl (e8 p os aV h [] i)=pl:=by cases pl <;> rfl
   rw[e,aM,kO];rfl⟩
|k::a',i,h,acc,pl,hD,hE,gv,gw,hw,aI,aG=>by
  have rk:=aI k (by simp);have QR:=EC (fi os k) aV;simp only[eX] at aG;have st:=am5 (ns:=ns) (R:=R) (c:=c) (m:=m) (s5:=s5) (cE:=cE) (x:=x) (b:=b) (wa:=wa) wp hz aL gc gv gw fE eV (i:=i) (acc:=acc) (pl:=pl) hw rk (by omega);obtain⟨h',a,jE,d,e,bT⟩:=Vk wp hz aL gc fE eV a' (i+1) (je p os aV h k) (acc++e_ (fi os k) aV) (rA pl (if (je p os aV h k).told.any kX then some (i+1) else none)) (some (.aa (.int (i:Nat)))) (some (.aa (.int (k:Nat)))) (some (unop%WQ 0)) (some (.aa (.list (((je p os aV h k).told.map (·.2.1)).map .str)))) (Ue hz aL hw k) (λy a6=>aI y (dK _ a6)) (by simp only[l8];omega);refine⟨h',a,jE,d,e,?_⟩;have iW:dv [(bw 15),(bw 16)] (.tuple [.int (i:Nat),.int (k:Nat)]) (V ns p R os c m s5 cE x aV b wa gc (some (.aa (.tuple (acc.map cY)))) (some (.aa (jo pl))) (some (.aa (c5 h))) hD hE gv gw fE eV)=some (V ns p R os c m s5 cE x aV b wa gc (some (.aa (.tuple (acc.map cY)))) (some (.aa (jo pl))) (some (.aa (c5 h))) (some (.aa (.int (i:Nat)))) (some (.aa (.int (k:Nat)))) gv gw fE eV):=rfl;rw[List.zipIdx_cons,de,forL];simp only[iW,cn,st];rw[bT];have az:acc++e_ (fi os k) aV++kg os a' aV=acc++kg os (k::a') aV:=by simp[kg]
  have aM:rA (rA pl (if (je p os aV h k).told.any kX then some (i+1) else none)) (e8 p os aV (je p os aV h k) a' (i+1))=rA pl (e8 p os aV h (k::a') i):=by
   cases pl with
   |some q=>rfl
   |none=>
    simp only[e8];cases (je p os aV h k).told.any kX <;> rfl
  rw[az,aM]
noncomputable def o1:bJ:=(seq (asg 12 (a0 [])) (seq (asg 13 (ae .none)) (seq (asg 14 (au 3)) (seq (d1 (iJ (gO (au 11))) (dv [(bw 15),(bw 16)]) x') (seq (iff (fD (bt (aj i4 (aX vA [(au 2),(au 11),(au 8)]) (nm 12))) (bt (aj i4 (aX kk [(au 1),(au 2),(au 3),(au 11),(au 8)]) (nm 13)))) (b9 (ae (.bool false))) skip) (seq (asg 19 (a0 [(cU iB (ae (.int 99))),(au 11)])) (seq (iff (bt (cU fW (nm 13))) (asg 19 (a0 [(aj aoR (ae (.int 0)) (nm 13)),(au 11)])) skip) (iff (fD (bt (cU fP (nm 9))) (bt (aj sW (nm 19) (nm 9)))) (asg 9 (au 19)) skip))))))))
noncomputable def ip(g:List Nat->Option Nat):Option (List Nat)->T
|none=>.none
|some w=>my g w
noncomputable def nb(g:List Nat->Option Nat)(b:Option (List Nat))(w:List Nat):Option (List Nat):=match b with
|none=>some w
|some v=>if fo (g v)<fo (g w) then some w else some v
def amV(o:Option Nat):okN 0 (jo o):=by
 cases o with
|none=>exact TQ 0
|some q=>exact Nn 0 _
def Va(g:List Nat->Option Nat)(w:List Nat):ez (my g w)=true:=by
 have h:=ji.KU w;refine okN.ez (d:=3) ?_;refine xb λt bp=>?_;simp only[cM,pJ,or_false] at bp;rcases bp with rfl|rfl
 ·exact Nn 2 _
 ·exact⟨h.1,by have:=h.2;omega⟩
def Nz(wp:Wp p)(hz:m3 p os)(aL:1<=aV)(aw:bo p c){w:List Nat}{o:Option (List Nat)}(aI:∀k∈w,k<os.length)(aG:w.length<=20)(eL:∀v,o=some v->v<w)(k9 k_ k' hD hE gv gw fE eV:Option aO):
  ∃la lb lg lh lj ll aoJ lq,o1 (V ns p R os c m s5 cE x aV (ip (λw=>e8 p os aV c w 0) o) wa (some (.aa (a7.wT w))) k9 k_ k' hD hE gv gw fE eV)=some (.bI (V ns p R os c m s5 cE x aV (ip (λw=>e8 p os aV c w 0) (nb (λw=>e8 p os aV c w 0) o w)) wa (some (.aa (a7.wT w))) la lb lg lh lj ll aoJ lq eV)):=by
 have hl:=ajo (R:=R) (aV:=aV) aI (by omega);have RB:=Tj wp (R:=R) hz aL aw aI;have bd:=NT p os aV w c 0;obtain⟨h',a,jE,d,e,Qq⟩:=Vk (ns:=ns) (R:=R) (c:=c) (m:=m) (s5:=s5) (cE:=cE) (x:=x) (b:=ip (λw=>e8 p os aV c w 0) o) (wa:=wa) wp hz aL (some (.aa (a7.wT w))) fE eV w 0 c [] none hD hE gv gw aw aI (by simp;omega);have adY:=alR hz aw.zn aV w;generalize bq:(λw=>e8 p os aV c w 0)=g;have PS:e8 p os aV c w 0=g w:=by rw[<- bq]
 have bO:rA none (e8 p os aV c w 0)=g w:=PS;rw[PS] at bd RB;rw[bq,bO,pK] at Qq;refine⟨some (.aa (.tuple ((kg os w aV).map cY))),some (.aa (jo (g w))),some (.aa (c5 h')),a,jE,d,e,some (.aa (my g w)),?_⟩;unfold o1;refine hI (t:=.tuple []) rfl ?_;refine hI (t:=.none) rfl ?_;refine hI (t:=c5 c) rfl ?_;refine pS (ε':=V ns p R os c m s5 cE x aV (ip g o) wa (some (.aa (a7.wT w))) (some (.aa (.tuple ((kg os w aV).map cY)))) (some (.aa (jo (g w)))) (some (.aa (c5 h'))) a jE d e fE eV) ?_ ?_
 ·have it:iJ (gO (au 11)) (V ns p R os c m s5 cE x aV (ip g o) wa (some (.aa (a7.wT w))) (some (.aa (.tuple []))) (some (.aa .none)) (some (.aa (c5 c))) hD hE gv gw fE eV)=some ((w.zipIdx 0).map λq=>.tuple [.int (q.2:Nat),.int (q.1:Nat)]):=by
   show some (enum (w.map λ(k:Nat)=>PyData.int (k:Int)))=_
   unfold enum;rw[List.zipIdx_map,nE];rfl
  show d1 (iJ (gO (au 11))) (dv [(bw 15),(bw 16)]) x' (V ns p R os c m s5 cE x aV (ip g o) wa (some (.aa (a7.wT w))) (some (.aa (.tuple []))) (some (.aa .none)) (some (.aa (c5 c))) hD hE gv gw fE eV)=_
  unfold d1;rw[it];exact Qq
 refine M3 ?_ ?_
 ·simp only[V,fD,bt,aj,aX,args,nm,au,ft,e4,cn,dF,hl,RB,TS adY,TS (amV (g w)),lA,if_false]
 refine hI (t:=.tuple [.int (-99),a7.wT w]) rfl ?_
 refine pS (ε':=V ns p R os c m s5 cE x aV (ip g o) wa (some (.aa (a7.wT w))) (some (.aa (.tuple ((kg os w aV).map cY)))) (some (.aa (jo (g w)))) (some (.aa (c5 h'))) a jE d e (some (.aa (my g w))) eV) ?_ ?_
 ·unfold my;cases g w with
  |none=>rfl
  |some q=>
   have:aoR (.int 0) (.int (q:Int))=some (.int (-(q:Int))):=by
    show some (PyData.int (0 - (q:Int)))=_
    rw[Int.zero_sub]
   show asg 19 (a0 [(aj aoR (ae (.int 0)) (nm 13)),(au 11)]) (V ns p R os c m s5 cE x aV (ip g o) wa (some (.aa (a7.wT w))) (some (.aa (.tuple ((kg os w aV).map cY)))) (some (.aa (.int (q:Int)))) (some (.aa (c5 h'))) a jE d e (some (.aa (.tuple [.int (-99),a7.wT w]))) eV)=_
   simp only[V,asg,a0,args,aj,nm,au,ae,ft,e4,cn,dF,this];rfl
 cases o with
|none=>rfl
|some v=>
  have lt:=anL (g:=g) (eL v rfl);have eh:sW (my g w) (my g v)=some (.bool (decide (fo (g v)<fo (g w)))):=by
   unfold sW;rw[Va,Va,lt];rfl
  have l3:(fD (bt (cU fP (nm 9))) (bt (aj sW (nm 19) (nm 9)))) (V ns p R os c m s5 cE x aV (my g v) wa (some (.aa (a7.wT w))) (some (.aa (.tuple ((kg os w aV).map cY)))) (some (.aa (jo (g w)))) (some (.aa (c5 h'))) a jE d e (some (.aa (my g w))) eV)=some (decide (fo (g v)<fo (g w))):=by
   show Option.bind (sW (my g w) (my g v)) _=_
   rw[eh];rfl
  refine (Az l3).trans ?_
  unfold nb;by_cases q:fo (g v)<fo (g w)
  ·simp only[q,decide_true,if_true];rfl
  ·simp only[q,decide_false,if_false,lA];rfl
theorem UT(wp:Wp p)(hz:m3 p os)(aL:1<=aV)(aw:bo p c)(eV:Option aO):∀(ws:List (List Nat)) (o:Option (List Nat)) (gc k9 k_ k' hD hE gv gw fE:Option aO),(∀w∈ws,(∀k∈w,k<os.length)/\w.length<=20)->(∀v,o=some v->∀w∈ws,v<w)->ws.Pairwise (·<·) ->
  ∃ox la lb lg lh lj ll aoJ lq,forL (bw 11) o1 (ws.map a7.wT) (V ns p R os c m s5 cE x aV (ip (λw=>e8 p os aV c w 0) o) wa gc k9 k_ k' hD hE gv gw fE eV)=some (.bI (V ns p R os c m s5 cE x aV (ip (λw=>e8 p os aV c w 0) (ws.foldl (nb (λw=>e8 p os aV c w 0)) o)) wa ox la lb lg lh lj ll aoJ lq eV))
| [],o,gc,k9,k_,k',hD,hE,gv,gw,fE,_,_,_=>⟨gc,k9,k_,k',hD,hE,gv,gw,fE,rfl⟩
|w::ws,o,gc,k9,k_,k',hD,hE,gv,gw,fE,hw,bh,K3=>by
  obtain⟨ah,ar⟩:=aoO.mp K3;obtain⟨la,lb,lg,lh,lj,ll,aoJ,lq,st⟩:=Nz (ns:=ns) (R:=R) (m:=m) (s5:=s5) (cE:=cE) (x:=x) (wa:=wa) wp hz aL aw (o:=o) (hw w (by simp)).1 (hw w (by simp)).2 (λv e=>bh v e w (by simp)) k9 k_ k' hD hE gv gw fE eV;obtain⟨agv,agw,agx,agy,agz,agA,agB,agC,agD,bT⟩:=UT wp hz aL aw eV ws (nb (λw=>e8 p os aV c w 0) o w) (some (.aa (a7.wT w))) la lb lg lh lj ll aoJ lq (λy a6=>hw y (dK _ a6)) (λv e y a6=>by
   cases o with
   |none=>
    cases e
    exact ah y a6
   |some u=>
    change (if fo (e8 p os aV c u 0)<fo (e8 p os aV c w 0) then some w else some u)=some v at e;by_cases q:fo (e8 p os aV c u 0)<fo (e8 p os aV c w 0)
    ·rw[if_pos q] at e;cases e;exact ah y a6
    ·rw[if_neg q] at e;cases e;exact bh _ rfl y (dK _ a6)) ar
  refine⟨agv,agw,agx,agy,agz,agA,agB,agC,agD,?_⟩
  have iW:bw 11 (a7.wT w) (V ns p R os c m s5 cE x aV (ip (λw=>e8 p os aV c w 0) o) wa gc k9 k_ k' hD hE gv gw fE eV)=some (V ns p R os c m s5 cE x aV (ip (λw=>e8 p os aV c w 0) o) wa (some (.aa (a7.wT w))) k9 k_ k' hD hE gv gw fE eV):=rfl;rw[de,forL];simp only[iW,cn,st];exact bT
theorem Nr(g:List Nat->Option Nat):∀(ws:List (List Nat)) (b:List Nat),ws.foldl (nb g) (some b)=some (j_ g b ws)
| [],b=>rfl
|w::ws,b=>by
  rw[List.foldl_cons];unfold j_;by_cases q:fo (g b)<fo (g w)
  ·rw[if_pos q,show nb g (some b) w=some w from if_pos q];exact Nr g ws w
  ·rw[if_neg q,show nb g (some b) w=some b from if_neg q];exact Nr g ws b
def SR{g:List Nat->Option Nat}{ws:List (List Nat)}(aU:0<=x)(bP:x<1000)(hw:hs [a7.cH R os,.int x]=some (.tuple (ws.map a7.wT)))
  (bq:∀w∈ws,kk [cb p,a7.cH R os,c5 c,a7.wT w,.int aV]=some (jo (g w))/\∀q,g w=some q->q<99) (gc k9 k_ k' hD hE gv gw fE eV:Option aO):
  tH (mO (aX r2 [(au 1),(au 2),(au 3),(au 7),(au 8)])) (r' tn [.v (au 1),.v (au 2),.v (au 3),.v (au 7),.v (au 8)]) 1 (V ns p R os c m s5 cE x aV b wa gc k9 k_ k' hD hE gv gw fE eV)=some (qs g ws,V ns p R os c m s5 cE x aV b wa gc k9 k_ k' hD hE gv gw fE eV):=by
 have kb:q4.aoX [.aa (a7.cH R os),.aa (.int x)]=ws.isEmpty:=by
  rw[amv];exact ji.aeX hw aU bP
 have mm:r' tn [.v (au 1),.v (au 2),.v (au 3),.v (au 7),.v (au 8)] (V ns p R os c m s5 cE x aV b wa gc k9 k_ k' hD hE gv gw fE eV)=ws.isEmpty:=by
  show q4.aoX [.aa (a7.cH R os),.aa (.int x)]=_
  exact kb
 unfold tH;rw[mm];cases ws with
|nil=>rfl
|cons jE ws=>
  have q:=ajy (p:=p) (c:=c) (aV:=aV) hw bq;have eU:aX r2 [(au 1),(au 2),(au 3),(au 7),(au 8)] (V ns p R os c m s5 cE x aV b wa gc k9 k_ k' hD hE gv gw fE eV)=some (a7.wT (j_ g jE ws)):=by
   simp only[V,aX,args,au,ft,e4,cn,dF,q]
  simp only[List.isEmpty_cons,lA,if_false,EU,mO,eU,dF];rfl
def aml{a b:bJ}{ai:Ev}{t:T}(h:a ai=some (.dn t)):seq a b ai=some (.dn t):=by
 unfold seq;rw[h];rfl
noncomputable def OF:bJ:=(seq (iff (bt (aj oEq (nm 10) (a0 []))) (qQ (rz oEq (unop%We 0) (mO (a0 [(ae (.str "refused")),(ae (.int 1))])))) skip) (seq (asg 20 (a0 [(ae (.str "told")),(aj aT (nm 9) (ae (.int 1)))])) (qQ (rz oEq (unop%We 0) (mO (au 20))))))
def akN(ws:List (List Nat)):okN 3 (.tuple (ws.map a7.wT)):=xb λt bp=>by
 obtain⟨w,_,rfl⟩:=dP.mp bp;have h:=ji.KU w;exact⟨h.1,by have:=h.2;omega⟩
noncomputable def A3:bJ:=(seq (asg 9 (ae .none)) (seq (asg 10 (aX hs [(au 2),(au 7)])) (seq (d1 (dy (au 10)) (bw 11) o1) OF)))
def amX(wp:Wp p)(d:a7.Drawn R os)(hz:m3 p os)(aL:1<=aV)(aw:bo p c)(aU:1<=x)(bP:x<=R):
  A3 [some (.aa (ec ns)),some (.aa (cb p)),some (unop%Wl 0),some (.aa (c5 c)),some (.aa (.int m)),s5,cE,some (.aa (.int x)),some (.aa (.int aV)),none,none,none,none,none,none,none,none,none,none,none,none]=some (.dn (.bool true)):=by
 have an6:=d.rC;obtain⟨ws,oB,oC,_⟩:=a7.agO d x;rw[<- ajn] at oC;have K3:ws.Pairwise (·<·):=eA.Ru oB;have Rx:=a7.Rt _ _ _ oB;have agQ:=eA.agM oB;have aI:∀w∈ws,∀k∈w,k<os.length:=λw hw k aI=>by
  obtain⟨q,hf,_⟩:=(agQ w).mp hw;simpa using ji.BD hf k aI
 have bq:∀w∈ws,kk [cb p,a7.cH R os,c5 c,a7.wT w,.int aV]=some (jo (e8 p os aV c w 0))/\∀q,e8 p os aV c w 0=some q->q<99:=λw hw=>⟨Tj wp (R:=R) hz aL aw (aI w hw),λq e=>by
  have:=NT p os aV w c 0 q e;have:=Rx w hw;omega⟩
 obtain⟨ox,la,lb,lg,lh,lj,ll,aoJ,lq,wl⟩:=UT (ns:=ns) (R:=R) (m:=m) (s5:=s5) (cE:=cE) (x:=x) (wa:=ws) wp hz aL aw none ws none none none none none none none none none none (λw hw=>⟨aI w hw,by have:=Rx w hw;omega⟩) (λv e=>by cases e) K3;unfold A3;refine hI (t:=.none) rfl ?_;refine hI (t:=.tuple (ws.map a7.wT)) (by simp only[aX,args,au,gx,gd,ft,e4,cn,dF,oC]) ?_;refine pS (ε':=V ns p R os c m s5 cE x aV (ip (λw=>e8 p os aV c w 0) (ws.foldl (nb (λw=>e8 p os aV c w 0)) none)) ws ox la lb lg lh lj ll aoJ lq none) (by
  show d1 (dy (au 10)) (bw 11) o1 (V ns p R os c m s5 cE x aV .none ws none none none none none none none none none none)=_
  have it:dy (au 10) (V ns p R os c m s5 cE x aV .none ws none none none none none none none none none none)=some (ws.map a7.wT):=rfl;unfold d1;rw[it];exact wl) ?_
 have BK:∃g:List Nat->Option Nat,g=λw=>e8 p os aV c w 0:=⟨_,rfl⟩;obtain⟨g,lP⟩:=BK;rw[<- lP];replace bq:∀w∈ws,kk [cb p,a7.cH R os,c5 c,a7.wT w,.int aV]=some (jo (g w))/\∀q,g w=some q->q<99:=by rw[lP];exact bq
 clear wl lP;unfold OF;cases ws with
|nil=>
  have h9:=SR (ns:=ns) (m:=m) (s5:=s5) (cE:=cE) (b:=ip g none) (wa:=[]) (by omega) (by omega) oC bq ox la lb lg lh lj ll aoJ lq none;have l3:(bt (aj oEq (nm 10) (a0 []))) (V ns p R os c m s5 cE x aV (ip g none) [] ox la lb lg lh lj ll aoJ lq none)=some true:=by
   show Option.bind (oEq (.tuple []) (.tuple [])) _=_
   rw[akP (xb (d:=0) (ts:=[]) λt bp=>by simp at bp)];rfl
  refine aml ?_
  refine (Az l3).trans ?_
  show qQ _ _=_
  unfold qQ rz;rw[h9];simp only[cn];have:mO (a0 [(ae (.str "refused")),(ae (.int 1))]) (V ns p R os c m s5 cE x aV (ip g none) [] ox la lb lg lh lj ll aoJ lq none)=some (qs g [],V ns p R os c m s5 cE x aV (ip g none) [] ox la lb lg lh lj ll aoJ lq none):=rfl;rw[this];simp only[cn,ji.QM (U' g [])];rfl
|cons w ws=>
  rw[List.foldl_cons,show nb g none w=some w from rfl,Nr];have h9:=λeV=>SR (ns:=ns) (m:=m) (s5:=s5) (cE:=cE) (b:=ip g (some (j_ g w ws))) (wa:=w::ws) (by omega) (by omega) oC bq ox la lb lg lh lj ll aoJ lq eV;have l3:(bt (aj oEq (nm 10) (a0 []))) (V ns p R os c m s5 cE x aV (ip g (some (j_ g w ws))) (w::ws) ox la lb lg lh lj ll aoJ lq none)=some false:=by
   show Option.bind (oEq (.tuple ((w::ws).map a7.wT)) (.tuple [])) _=_
   have k1:=(akN (w::ws)).ez;have k2:ez (.tuple ([]:List T))=true:=by decide
   have:oEq (.tuple ((w::ws).map a7.wT)) (.tuple [])=some (.bool false):=by
    unfold oEq;rw[k1,k2];simp[gf,PyData.eqvAll]
   rw[this];rfl
  refine M3 l3 ?_
  refine hI (t:=qs g (w::ws)) rfl ?_
  have t:=h9 (some (.aa (qs g (w::ws))));show qQ _ (V ns p R os c m s5 cE x aV (ip g (some (j_ g w ws))) (w::ws) ox la lb lg lh lj ll aoJ lq (some (.aa (qs g (w::ws)))))=_;unfold qQ rz;rw[t];simp only[cn];have:mO (au 20) (V ns p R os c m s5 cE x aV (ip g (some (j_ g w ws))) (w::ws) ox la lb lg lh lj ll aoJ lq (some (.aa (qs g (w::ws)))))=some (qs g (w::ws),V ns p R os c m s5 cE x aV (ip g (some (j_ g w ws))) (w::ws) ox la lb lg lh lj ll aoJ lq (some (.aa (qs g (w::ws))))):=rfl;rw[this];simp only[cn,ji.QM (U' g (w::ws))];rfl
end
def Lh{l:List hp}:CC (.list (l.map di)) none (some 5)=some (.list ((l.take 5).map di)):=by
 show some (PyData.list (uh _ none (some 5)))=_
 unfold uh c8;simp only[List.drop_zero,Nat.sub_zero,fh];rw[List.map_take];congr 2;rw[if_neg (by decide)];by_cases ux:5<=l.length
 ·have:(min (5:Int) (l.length:Int)).toNat=5:=by omega
  rw[this]
 ·have:(min (5:Int) (l.length:Int)).toNat=l.length:=by omega
  rw[this,List.take_of_length_le (by simp),List.take_of_length_le (by simp;omega)]
def agu{a b c:bZ}{ai:Ev}{x y z:T}(ah:a ai=some x)(ar:b ai=some y)(br:c ai=some z):a0 [a,b,c] ai=some (.tuple [x,y,z]):=by
 unfold a0 args args args args;rw[ah,ar,br];rfl
noncomputable def OG:bJ:=(seq (asg 5 (aX gA [(slice (comp 1 [] (dy (unop%Wz 0)) (bw 0) (bt (aj oLt (unop%W9 0) (ae (.str "9998")))) (au 0)) optN (opt (ae (.int 5))))])) (seq (asg 6 (a0 [(aj aT (nm 1) (ae (.int 0))),(aj bV (nm 5) (a0 [(unop%Wj 0)])),(aj aT (nm 1) (ae (.int 2)))])) (seq (asg 3 (aX nP [(au 6),(aX tx [(au 6)]),(a0 [(a0 [(ae (.str "code")),(ae (.str "9998")),(ae (.str "set")),(ae .none)]),(a0 [(ae (.str "ticks")),(ae (.int 61))])])])) (asg 1 (au 6)))))
def aeO{p:bf}(aL:iN p)(s0 s2 s3 s4:Option aO):∃c s5 cE,bo (quiet p) c/\OG [s0,some (.aa (cb p)),s2,s3,s4,none,none,none,none,none,none,none,none,none,none,none,none,none,none,none,none]=some (.bI [s0,some (.aa (cb (quiet p))),s2,some (.aa (c5 c)),s4,s5,cE,none,none,none,none,none,none,none,none,none,none,none,none,none,none]):=by
 have Rz:=Ry aL;have OI:=agP aL;have fM:=aL.fM;have cl:=aL.cl;have dW:=T' (quiet p) (show p.cq.length<=40 by omega) Rz;have HG:fresh (jx (quiet p))=jx (quiet p):=rfl;have kK:=Ey (quiet p) (jx (quiet p)) yj OI Rz (QN _) (by decide);have wf:=OI.run (QN (quiet p));rw[HG] at kK;generalize run (quiet p) (jx (quiet p)) yj=c at kK wf;refine⟨c,some (.aa (unop%WV 0)),some (.aa (cb (quiet p))),wf,?_⟩;have cx:aT (cb p) (.int 1)=some (.tuple (p.codes.map di)):=rfl;have Qp:aT (cb p) (.int 0)=some (.tuple (p.cq.map eR)):=rfl;have cI:aT (cb p) (.int 2)=some (.tuple [.int p.leave,.int p.o4,.int p.loud]):=rfl;have af:(p.codes.map di).length<=big:=by rw[fh];unfold big;omega
 have yb:=tE (cc:=bt (aj oLt (unop%W9 0) (ae (.str "9998")))) (hc:=au 0) (caps:=[]) di oj di p.codes none λk _=>⟨rfl,λ_=>rfl⟩;unfold OG;refine hI (t:=.tuple (((p.codes.filter oj).take 5).map di)) (by
  simp only[aX,args,slice,opt,optN,comp,dy,aj,nm,ae,ft,e4,cn,dF,cx,if_pos af,hn,dZ,ib,kO,yb,Lh,gA]) ?_
 simp only[gx,gd];have ad:bV (unop%WV 0) (.tuple [di gY])=some (.tuple ((quiet p).codes.map di)):=by
  simp only[bV,eX,lB];rw[if_pos (by simp only[fh,List.length_take];unfold big;omega)];simp only[quiet,List.map_append,de,ib]
 have i3:a0 [(unop%Wj 0)] [s0,some (.aa (cb p)),s2,s3,s4,some (.aa (unop%WV 0)),none,none,none,none,none,none,none,none,none,none,none,none,none,none,none]=some (.tuple [di gY]):=rfl;have j3:a0 [(aj aT (nm 1) (ae (.int 0))),(aj bV (nm 5) (a0 [(unop%Wj 0)])),(aj aT (nm 1) (ae (.int 2)))] [s0,some (.aa (cb p)),s2,s3,s4,some (.aa (unop%WV 0)),none,none,none,none,none,none,none,none,none,none,none,none,none,none,none]=some (cb (quiet p)):=by
  have:aj bV (nm 5) (a0 [(unop%Wj 0)]) [s0,some (.aa (cb p)),s2,s3,s4,some (.aa (unop%WV 0)),none,none,none,none,none,none,none,none,none,none,none,none,none,none,none]=some (.tuple ((quiet p).codes.map di)):=by
   unfold aj;rw[i3];exact ad
  exact agu rfl this rfl
 refine hI j3 ?_
 simp only[gx,gd];have ev:∀ai:Ev,a0 [(a0 [(ae (.str "code")),(ae (.str "9998")),(ae (.str "set")),(ae .none)]),(a0 [(ae (.str "ticks")),(ae (.int 61))])] ai=some (.tuple (yj.map cY)):=λai=>rfl;refine hI (t:=c5 c) (by
  simp only[aX,args,au,ft,e4,cn,dF,dW,ev,kK]) ?_
 rfl
def akY(ns:List Int)(h:ns.length<=63):vR [ec ns]=some (.bool true):=by
 obtain⟨m0,aof,x0⟩:=Ad ns 0;obtain⟨i3,aal,aU⟩:=Ad ns 1;obtain⟨kF,uD,bP⟩:=Ad ns 2;obtain⟨jL,aog,gM⟩:=Ad ns 3;obtain⟨p,aL,xp⟩:=alA m0;obtain⟨R,os,d,hz,Dg⟩:=aiq aL i3 aal;obtain⟨es,_W,an',RC⟩:=amu aL kF 6 uD (by decide);have P4:∀e∈es,lY p e:=λe he=>(_W e he).ok;have wp:=aL.wp;have Rw:=aL.begun;have fM:=aL.fM;have dW:=T' p (by omega) wp;have kK:=Ey p (jx p) es Rw wp P4 (by omega);have HG:fresh (jx p)=jx p:=rfl;have ws:=Rw.run P4;rw[HG] at kK;generalize run p (jx p) es=c at kK ws;obtain⟨kb,_,aov,aow,l6⟩:=modQ jL 3;obtain⟨aQ,_,pH⟩:=divQ jL 4;obtain⟨bk,_,aox,aoy,pI⟩:=modQ aQ R (by have:=d.bk;omega);obtain⟨bu,_,vb⟩:=divQ jL 64;obtain⟨df,_,y4⟩:=divQ jL 1024;obtain⟨jN,_,aoB,aoC,zF⟩:=modQ df 2;have LH:∃j:Int,0<j/\aT (.tuple [.int 3,.int 70]) (.int jN)=some (.int j):=by
  have:jN=0\/jN=1:=by omega
  rcases this with rfl|rfl
  ·exact⟨3,by decide,rfl⟩
  ·exact⟨70,by decide,rfl⟩
 obtain⟨j,bU,LH⟩:=LH;obtain⟨b4,_,aoz,aoA,y7⟩:=modQ bu j bU;have agS:kj [ec ns,.int 0]=some (.int m0):=x0;have agT:kj [ec ns,.int 1]=some (.int i3):=aU;have agU:kj [ec ns,.int 2]=some (.int kF):=bP;have agV:kj [ec ns,.int 3]=some (.int jL):=gM;have k7:=d.bk;have tail:∀(P:bf) (C:a9) (s5 cE:Option aO),Wp P->m3 P os->bo P C->(seq (asg 7 (aj bV (ae (.int 1)) (aj oMod (aj oDiv (nm 4) (ae (.int 4))) (aj aT (nm 2) (ae (.int 0))))))
  (seq (asg 8 (aj bV (ae (.int 1)) (aj oMod (aj oDiv (nm 4) (ae (.int 64))) (aj aT (a0 [(ae (.int 3)),(ae (.int 70))]) (aj oMod (aj oDiv (nm 4) (ae (.int 1024))) (ae (.int 2)))))))
  A3)) [some (.aa (ec ns)),some (.aa (cb P)),some (unop%Wl 0),some (.aa (c5 C)),some (.aa (.int jL)),s5,cE,none,none,none,none,none,none,none,none,none,none,none,none,none,none]=some (.dn (.bool true)):=λP C s5 cE wP zP wC=>by
  have mk:∀ai:Ev,a0 [(ae (.int 3)),(ae (.int 70))] ai=some (.tuple [.int 3,.int 70]):=λai=>rfl;refine hI (t:=.int (1+bk)) (by simp only[aj,nm,ae,ft,e4,cn,anO,pH,pI,hW]) ?_;simp only[gx,gd];refine hI (t:=.int (1+b4)) (by simp only[aj,mk,nm,ae,ft,e4,cn,vb,y4,zF,LH,y7,hW]) ?_;simp only[gx,gd];exact amX wP d zP (by omega) wC (by omega) (by omega)
 suffices aA:AI [some (.aa (ec ns)),none,none,none,none,none,none,none,none,none,none,none,none,none,none,none,none,none,none,none,none]=some (.dn (.bool true)) by
  unfold vR c2;simp only[de,ib,eX,lB,pL,pK];exact congrArg (λo=>Option.bind o _) aA
 unfold AI;refine hI (t:=cb p) (by simp only[aX,args,au,ae,e4,cn,dF,agS,xp]) ?_;simp only[gx,gd];refine hI (t:=a7.cH R os) (by simp only[aX,args,au,ae,ft,e4,cn,dF,agT,Dg]) ?_;simp only[gx,gd];refine hI (t:=c5 c) (by simp only[aX,args,au,ae,ft,e4,cn,dF,agU,RC,dW,kK]) ?_;simp only[gx,gd];refine hI (t:=.int jL) (by simp only[aX,args,au,ae,e4,cn,dF,agV]) ?_;simp only[gx,gd];have l3:(unop%WD 0) [some (.aa (ec ns)),some (.aa (cb p)),some (unop%Wl 0),some (.aa (c5 c)),some (.aa (.int jL)),none,none,none,none,none,none,none,none,none,none,none,none,none,none,none,none]=some (decide (0<kb)):=by
  simp only[bt,aj,nm,ae,ft,e4,cn,l6,iz]
 by_cases h0:0<kb
 ·obtain⟨bX,s5,cE,wc,q⟩:=aeO aL (some (.aa (ec ns))) (some (unop%Wl 0)) (some (.aa (c5 c))) (some (.aa (.int jL)));refine pS ((Az l3).trans (by rw[decide_eq_true h0];exact q)) ?_;exact tail (quiet p) bX s5 cE (Ry aL) hz wc
 ·refine pS (ε':=[some (.aa (ec ns)),some (.aa (cb p)),some (unop%Wl 0),some (.aa (c5 c)),some (.aa (.int jL)),none,none,none,none,none,none,none,none,none,none,none,none,none,none,none,none]) ((Az l3).trans (by rw[decide_eq_false h0];rfl)) ?_
  exact tail p c none none wp hz ws
end qZ
end
end
section
namespace qZ
open PySem PySem.Spec PyProof.Rows bA D cf aoY q4
set_option hygiene false in
local macro_rules | `(unop% lk ($f, $g0, $eh, $n, $q, $s, $a, $b, $c, $d, $e, $g, $h)) => `(K.lookup $f = some ⟨$g0, $eh, .func (lx $n $q (mK $s) (fv $s) (bR $s) .none $a $b $c $d $e $g), $h⟩)
set_option hygiene false in
local macro_rules | `(binop% cd $c $q) => `(qA K $c $q = true)
set_option hygiene false in
local macro_rules | `(unop% aF $c) => `(nx K (.ref $c) = true)
set_option hygiene false in
local macro_rules | `(unop% hN $c) => `(PySem.W.isFn K (.ref $c) = true)
set_option hygiene false in
local macro_rules | `(binop% ns $q $c) => `(wO K i_ $q = some (some (.ref $c)))
set_option hygiene false in
local macro_rules | `(unop% zn $q) => `(wO K i_ $q = some none)
set_option hygiene false in
local macro_rules | `(unop% fn ($C, $q, $c)) => `(l7 K (.ref $C) $q = some (some (.ref $c)))
set_option hygiene false in
local macro_rules | `(binop% m_ $C $q) => `(l7 K (.ref $C) $q = some none)
local macro_rules | `(unop% mo $x) => `(($x).mono (by decide))
set_option hygiene false in
local macro_rules | `(unop% b5 ($f $n $as*)) => `($f (P := l.prog) (w := w) (mg := mg) (base := base) (k := $n) $as*)
def all_mk{l:PySem.W.OpenLaw}{w:b_}{K:bc}{h:bM}{mg:Str->Option aq}{cp bK f1 f2 iV f4 ir By Bz f8 BA Be Bf Bg Bh Hj Bi Bj Bk Bl Bm Bn Bo Bp Bq Br Bs Hk Bt Bu Bv Bw Bx Hl Hm Hn Ho Hp Hq Hr Hs Ht Hu Hv Hw Hx Hy Hz HA HB HC HD HE HF apd vZ G7 m6 kV xz hl ju l5:ak}{ac3 Xo ade Xz adp XK adB XX adM X8 adQ Ya adR Yb adS Yc adT Yd ac4 Xp ac5 Xq ac6 Xr ac7 Xs ac8 Xt ac9 Xu ac_ Xv ac' Xw ada Xx adb Xy adf XA adg XB adh XC adi XD adj XE adk XF adl XG adm XH adn XI ado XJ adq XM ads XN adt XO adu XP adv XQ adw XR adx XS ady XT adz XU adA XW adC XY adD XZ adE X0 adF X1 adG X2 adH X3 adI X4 adJ X5 adK X6 adL X7 adN X9 adO X_ adP OC adV adU:Option ak}{CX iD afy afJ Lh afX afY afZ af0 afe aff afg afh afi afj afk afl afm afn afo afp afq afr afs aft afu afv afw afx afz afA afB afC afD afE afF afG afH afI afK afL afM afN afO afP afQ afR afS afT afU afV afW af2 af1:Array (Option aq)}{aca aa5 Zb ad0 OL Yn acn abe Zm ad' OW Yy acz abp Zx aek O7 YJ acK abB ZJ aev Pg YU acV abM ZU aeG Pt Y5 acZ abP ZX aeJ Pw Y8 ac0 abQ ZY aeK Px Y9 ac1 abR ZZ aeL Py Y_ ac2 abS Z0 aeM Pz Y' acb aa6 Zc ad1 OM Yo acd aa7 Zd ad2 ON Yp ace aa8 Ze ad3 OO Yq acf aa9 Zf ad4 OP Yr acg aa_ Zg ad5 OQ Ys ach aa' Zh ad6 OR Yt aci aba Zi ad7 OS Yu acj abb Zj ad8 OT Yv ack abc Zk ad9 OU Yw acm abd Zl ad_ OV Yx aco abf Zn aea OX Yz acp abg Zo aeb OY YA acq abh Zp aec OZ YB acr abi Zq aed O0 YC acs abj Zr aee O1 YD acu abk Zs aef O2 YE acv abl Zt aeg O3 YF acw abm Zu aeh O4 YG acx abn Zv aei O5 YH acy abo Zw aej O6 YI acA abq Zy ael O8 YK acB abr Zz aem O9 YL acC abt ZA aen O_ YM acD abu ZC aeo O' YN acE abv ZD aep Pa YO acF abw ZE aeq Pb YP acG abx ZF aer Pc YQ acH aby ZG aes Pd YR acI abz ZH aet Pe YS acJ abA ZI aeu Pf YT acL abC ZK aew Ph YV acM abD ZL aex Pj YW acN abE ZM aey Pk YX acO abF ZN aez Pl YY acP abG ZO aeA Pm YZ acQ abH ZP aeB Pn Y0 acR abI ZQ aeC Po Y1 acS abJ ZR aeD Pp Y2 acT abK ZS aeE Pq Y3 acU abL ZT aeF Pr Y4 acW abN ZV aeH Pu Y6 acX abO ZW aeI Y7 acY Qu PE QS PD:aq}{Lw Lu agn ago agk agl Ls Lv:Tok}{ab4 ab3:Nat}(X:K.In h)(G:h.Ns i_ mg)(_X:mg "law"=some (.ref cp))(Gd:binop%ns "Course" bK)(KZ:PySem.W.plainGet K bK Str.empty=true)(H3:PySem.W.hasDictIn K bK=true)(K2:PySem.W.plainOver K bK=true)(Lg:l7 K (.ref bK) "__setattr__"=some (some (.builtin "object.__setattr__")))(Ki:PySem.W.makesIn K bK=true)(Ju:unop%aF bK)(Kr:binop%m_ bK "plan")(Ks:binop%m_ bK "mode")(Kw:binop%m_ bK "left")(Kx:binop%m_ bK "came")(Ky:binop%m_ bK "lines")(Kz:binop%m_ bK "shunts")(KA:binop%m_ bK "siren")(KC:binop%m_ bK "alarms")(KD:binop%m_ bK "tries")(KG:binop%m_ bK "locked")(Kt:binop%m_ bK "used")(Ku:binop%m_ bK "past")(Kv:binop%m_ bK "told")(a1:binop%ns "_law_drawn" f1)(cu:unop%lk (f1,aca,ac3,"_law_drawn","_law_drawn",Ea,aa5,Zb,ad0,Xo,OL,Yn,CX))(cV:binop%cd OL "_law_drawn")(k1:unop%aF f1)(a2:binop%ns "_law_plan" f2)(cD:unop%lk (f2,acn,ade,"_law_plan","_law_plan",z',abe,Zm,ad',Xz,OW,Yy,iD))(dj:binop%cd OW "_law_plan")(k2:unop%aF f2)(fH:binop%ns "_law_house" iV)(y0:unop%lk (iV,acz,adp,"_law_house","_law_house",D_,abp,Zx,aek,XK,O7,YJ,afy))(f9:binop%cd O7 "_law_house")(k3:unop%aF iV)(h3:binop%ns "_law_house_of" f4)(JZ:unop%lk (f4,acK,adB,"_law_house_of","_law_house_of",zZ,abB,ZJ,aev,XX,Pg,YU,afJ))(c4:binop%cd Pg "_law_house_of")(nh:unop%aF f4)(kW:unop%fn (bK,"state",ir))(I0:unop%hN ir)(J_:unop%lk (ir,acV,adM,"state","Course.state",DI,abM,ZU,aeG,X8,Pt,Y5,Lh))(j4:binop%cd Pt "Course.state")(k5:unop%aF ir)(j3:unop%fn (bK,"__init__",By))(I1:unop%hN By)(Ka:unop%lk (By,acZ,adQ,"__init__","Course.__init__",w3,abP,ZX,aeJ,Ya,Pw,Y8,afX))(G3:binop%cd Pw "Course.__init__")(Jr:unop%aF By)(x6:unop%fn (bK,"tell",Bz))(I2:unop%hN Bz)(Kb:unop%lk (Bz,ac0,adR,"tell","Course.tell",DK,abQ,ZY,aeK,Yb,Px,Y9,afY))(G4:binop%cd Px "Course.tell")(Cn:unop%aF Bz)(Ga:binop%ns "kind_of" f8)(Cs:unop%lk (f8,ac1,adS,"kind_of","kind_of",Eb,abR,ZZ,aeL,Yc,Py,Y_,afZ))(G5:binop%cd Py "kind_of")(Js:unop%aF f8)(Gb:unop%fn (bK,"be_loud",BA))(I3:unop%hN BA)(Kc:unop%lk (BA,ac2,adT,"be_loud","Course.be_loud",DA,abS,Z0,aeM,Yd,Pz,Y',af0))(G6:binop%cd Pz "Course.be_loud")(Co:unop%aF BA)(Fu:unop%fn (bK,"alarm",Be))(IE:unop%hN Be)(Jv:unop%lk (Be,acb,ac4,"alarm","Course.alarm",DJ,aa6,Zc,ad1,Xp,OM,Yo,afe))(Gj:binop%cd OM "Course.alarm")(B2:unop%aF Be)(Fv:unop%fn (bK,"come_in",Bf))(IF:unop%hN Bf)(Jw:unop%lk (Bf,acd,ac5,"come_in","Course.come_in",Dz,aa7,Zd,ad2,Xq,ON,Yp,aff))(Gk:binop%cd ON "Course.come_in")(B3:unop%aF Bf)(Fw:unop%fn (bK,"disturb",Bg))(i12:unop%hN Bg)(Jx:unop%lk (Bg,ace,ac6,"disturb","Course.disturb",Dy,aa8,Ze,ad3,Xr,OO,Yq,afg))(Gl:binop%cd OO "Course.disturb")(B4:unop%aF Bg)(Fx:unop%fn (bK,"line",Bh))(IG:unop%hN Bh)(Jy:unop%lk (Bh,acf,ac7,"line","Course.line",DL,aa9,Zf,ad4,Xs,OP,Yr,afh))(Gm:binop%cd OP "Course.line")(B5:unop%aF Bh)(Fy:binop%ns "code_of" Hj)(Jz:unop%lk (Hj,acg,ac8,"code_of","code_of",Ec,aa_,Zg,ad5,Xt,OQ,Ys,afi))(Gn:binop%cd OQ "code_of")(I7:unop%aF Hj)(Fz:unop%fn (bK,"is_used_up",Bi))(IH:unop%hN Bi)(JA:unop%lk (Bi,ach,ac9,"is_used_up","Course.is_used_up",Ds,aa',Zh,ad6,Xu,OR,Yt,afj))(Gp:binop%cd OR "Course.is_used_up")(B6:unop%aF Bi)(FA:unop%fn (bK,"take_wrong",Bj))(II:unop%hN Bj)(JB:unop%lk (Bj,aci,ac_,"take_wrong","Course.take_wrong",Dq,aba,Zi,ad7,Xv,OS,Yu,afk))(Gq:binop%cd OS "Course.take_wrong")(B7:unop%aF Bj)(FC:unop%fn (bK,"is_untimely",Bk))(IJ:unop%hN Bk)(JC:unop%lk (Bk,acj,ac',"is_untimely","Course.is_untimely",Dn,abb,Zj,ad8,Xw,OT,Yv,afl))(Gr:binop%cd OT "Course.is_untimely")(B8:unop%aF Bk)(FD:unop%fn (bK,"bare_zones",Bl))(IK:unop%hN Bl)(JD:unop%lk (Bl,ack,ada,"bare_zones","Course.bare_zones",wZ,abc,Zk,ad9,Xx,OU,Yw,afm))(Gs:binop%cd OU "Course.bare_zones")(B9:unop%aF Bl)(FE:unop%fn (bK,"what_is_against",Bm))(IL:unop%hN Bm)(JE:unop%lk (Bm,acm,adb,"what_is_against","Course.what_is_against",Dm,abd,Zl,ad_,Xy,OV,Yx,afn))(Gu:binop%cd OV "Course.what_is_against")(B_:unop%aF Bm)(FF:unop%fn (bK,"end_leaving",Bn))(IM:unop%hN Bn)(JF:unop%lk (Bn,aco,adf,"end_leaving","Course.end_leaving",Dp,abf,Zn,aea,XA,OX,Yz,afo))(Gv:binop%cd OX "Course.end_leaving")(B':unop%aF Bn)(FG:unop%fn (bK,"do_set",Bo))(IP:unop%hN Bo)(JG:unop%lk (Bo,acp,adg,"do_set","Course.do_set",DD,abg,Zo,aeb,XB,OY,YA,afp))(Gw:binop%cd OY "Course.do_set")(Ca:unop%aF Bo)(FH:unop%fn (bK,"do_unset",Bp))(IQ:unop%hN Bp)(JH:unop%lk (Bp,acq,adh,"do_unset","Course.do_unset",Dw,abh,Zp,aec,XC,OZ,YB,afq))(Gx:binop%cd OZ "Course.do_unset")(Cb:unop%aF Bp)(FI:unop%fn (bK,"do_deed",Bq))(IS:unop%hN Bq)(JI:unop%lk (Bq,acr,adi,"do_deed","Course.do_deed",Dx,abi,Zq,aed,XD,O0,YC,afr))(Gy:binop%cd O0 "Course.do_deed")(Cc:unop%aF Bq)(FJ:unop%fn (bK,"take_right",Br))(IT:unop%hN Br)(JJ:unop%lk (Br,acs,adj,"take_right","Course.take_right",Dr,abj,Zr,aee,XE,O1,YD,afs))(Gz:binop%cd O1 "Course.take_right")(Cd:unop%aF Br)(FK:unop%fn (bK,"code",Bs))(IU:unop%hN Bs)(JK:unop%lk (Bs,acu,adk,"code","Course.code",DM,abk,Zs,aef,XF,O2,YE,aft))(GA:binop%cd O2 "Course.code")(Ce:unop%aF Bs)(FL:binop%ns "lessened" Hk)(JL:unop%lk (Hk,acv,adl,"lessened","lessened",D0,abl,Zt,aeg,XG,O3,YF,afu))(GB:binop%cd O3 "lessened")(I8:unop%aF Hk)(FN:unop%fn (bK,"count_down",Bt))(IV:unop%hN Bt)(JM:unop%lk (Bt,acw,adm,"count_down","Course.count_down",Du,abm,Zu,aeh,XH,O4,YG,afv))(GC:binop%cd O4 "Course.count_down")(Cf:unop%aF Bt)(FO:unop%fn (bK,"end_coming",Bu))(IW:unop%hN Bu)(JN:unop%lk (Bu,acx,adn,"end_coming","Course.end_coming",Dt,abn,Zv,aei,XI,O5,YH,afw))(GD:binop%cd O5 "Course.end_coming")(Cg:unop%aF Bu)(FP:unop%fn (bK,"end_time",Bv))(IX:unop%hN Bv)(JO:unop%lk (Bv,acy,ado,"end_time","Course.end_time",Dv,abo,Zw,aej,XJ,O6,YI,afx))(GF:binop%cd O6 "Course.end_time")(Ci:unop%aF Bv)(FQ:unop%fn (bK,"ticks",Bw))(IY:unop%hN Bw)(JP:unop%lk (Bw,acA,adq,"ticks","Course.ticks",DH,abq,Zy,ael,XM,O8,YK,afz))(GG:binop%cd O8 "Course.ticks")(Cj:unop%aF Bw)(FR:unop%fn (bK,"happen",Bx))(IZ:unop%hN Bx)(JQ:unop%lk (Bx,acB,ads,"happen","Course.happen",DC,abr,Zz,aem,XN,O9,YL,afA))(GH:binop%cd O9 "Course.happen")(Ck:unop%aF Bx)(FT:binop%ns "course_of" Hl)(JR:unop%lk (Hl,acC,adt,"course_of","course_of",DV,abt,ZA,aen,XO,O_,YM,afB))(GI:binop%cd O_ "course_of")(I9:unop%aF Hl)(FU:binop%ns "after" Hm)(JS:unop%lk (Hm,acD,adu,"after","after",EA,abu,ZC,aeo,XP,O',YN,afC))(GJ:binop%cd O' "after")(I_:unop%aF Hm)(FV:binop%ns "_law_cell_at" Hn)(JT:unop%lk (Hn,acE,adv,"_law_cell_at","_law_cell_at",DU,abv,ZD,aep,XQ,Pa,YO,afD))(GK:binop%cd Pa "_law_cell_at")(I':unop%aF Hn)(FW:binop%ns "_law_mixed" Ho)(JU:unop%lk (Ho,acF,adw,"_law_mixed","_law_mixed",D9,abw,ZE,aeq,XR,Pb,YP,afE))(GL:binop%cd Pb "_law_mixed")(Ja:unop%aF Ho)(FX:binop%ns "beyond" Hp)(JV:unop%lk (Hp,acG,adx,"beyond","beyond",En,abx,ZF,aer,XS,Pc,YQ,afF))(GN:binop%cd Pc "beyond")(Jb:unop%aF Hp)(FY:binop%ns "ways_on" Hq)(JW:unop%lk (Hq,acH,ady,"ways_on","ways_on",vq,aby,ZG,aes,XT,Pd,YR,afG))(GO:binop%cd Pd "ways_on")(Jc:unop%aF Hq)(FZ:binop%ns "ways" Hr)(JX:unop%lk (Hr,acI,adz,"ways","ways",EM,abz,ZH,aet,XU,Pe,YS,afH))(GP:binop%cd Pe "ways")(Jd:unop%aF Hr)(F0:binop%ns "begun" Hs)(JY:unop%lk (Hs,acJ,adA,"begun","begun",xk,abA,ZI,aeu,XW,Pf,YT,afI))(GQ:binop%cd Pf "begun")(Je:unop%aF Hs)(F1:binop%ns "_law_event" Ht)(J0:unop%lk (Ht,acL,adC,"_law_event","_law_event",D',abC,ZK,aew,XY,Ph,YV,afK))(GR:binop%cd Ph "_law_event")(Jf:unop%aF Ht)(F2:binop%ns "_law_row" Hu)(J1:unop%lk (Hu,acM,adD,"_law_row","_law_row",Ah,abD,ZL,aex,XZ,Pj,YW,afL))(GS:binop%cd Pj "_law_row")(Jg:unop%aF Hu)(F3:binop%ns "_law_told" Hv)(J2:unop%lk (Hv,acN,adE,"_law_told","_law_told",pT,abE,ZM,aey,X0,Pk,YX,afM))(GU:binop%cd Pk "_law_told")(Jh:unop%aF Hv)(F4:binop%ns "_law_events" Hw)(J3:unop%lk (Hw,acO,adF,"_law_events","_law_events",D2,abF,ZN,aez,X1,Pl,YY,afN))(GV:binop%cd Pl "_law_events")(Ji:unop%aF Hw)(F5:binop%ns "passed" Hx)(J4:unop%lk (Hx,acP,adG,"passed","passed",El,abG,ZO,aeA,X2,Pm,YZ,afO))(GW:binop%cd Pm "passed")(Jj:unop%aF Hx)(F6:binop%ns "walked" Hy)(J5:unop%lk (Hy,acQ,adH,"walked","walked",Ek,abH,ZP,aeB,X3,Pn,Y0,afP))(GX:binop%cd Pn "walked")(Jk:unop%aF Hy)(F7:binop%ns "has_alarm" Hz)(J6:unop%lk (Hz,acR,adI,"has_alarm","has_alarm",z0,abI,ZQ,aeC,X4,Po,Y1,afQ))(GY:binop%cd Po "has_alarm")(Jl:unop%aF Hz)(F8:binop%ns "story" HA)(J7:unop%lk (HA,acS,adJ,"story","story",Ez,abJ,ZR,aeD,X5,Pp,Y2,afR))(GZ:binop%cd Pp "story")(Jm:unop%aF HA)(F9:binop%ns "caught" HB)(J8:unop%lk (HB,acT,adK,"caught","caught",Em,abK,ZS,aeE,X6,Pq,Y3,afS))(G0:binop%cd Pq "caught")(Jn:unop%aF HB)(A0:binop%ns "ways_at_all" HC)(J9:unop%lk (HC,acU,adL,"ways_at_all","ways_at_all",zW,abL,ZT,aeF,X7,Pr,Y4,afT))(G1:binop%cd Pr "ways_at_all")(Jo:unop%aF HC)(F_:binop%ns "lateness" HD)(J':unop%lk (HD,acW,adN,"lateness","lateness",D1,abN,ZV,aeH,X9,Pu,Y6,afU))(G2:binop%cd Pu "lateness")(Jp:unop%aF HD)(A1:binop%ns "safest" HE)(Cq:K.lookup HE=some ⟨acX,adO,.func (lx "safest" "safest" (mK qH) (fv qH) (bR qH) .none abO ZW aeI X_ (.ref G7) Y7),afV⟩)(A4:qA K (.ref G7) "safest"=true)(Cm:unop%aF HE)(F':binop%ns "law" HF)(Cr:K.lookup HF=some ⟨acY,adP,.func (lx "law" "law" (mK lH) (fv lH) (bR lH) .none Qu PE QS OC (.ref m6) PD),afW⟩)(A5:qA K (.ref m6) "law"=true)(Jq:unop%aF HF)(jy:unop%zn "enumerate")(fL:unop%zn "tuple")(nR:unop%zn "range")(vH:unop%zn "min")(lJ:unop%zn "max")(vG:unop%zn "int")(tA:unop%zn "dict")(tB:unop%zn "list")(tC:unop%zn "zip")(vI:unop%zn "sorted")(mQ:unop%zn "len")(uw:wO K i_ "WRONG_IN_A_ROW"=some (some (.int 3 Lw)))(uv:wO K i_ "TICKS_LOCKED"=some (some (.int 90 Lu)))(yp:binop%ns "KINDS_SHUT_TO_SET" apd)(K5:K.lookup apd=some ⟨.type "tuple",adV,.seq #[.str "day" agn,.str "once" ago] ab4,af2⟩)(yo:binop%ns "KINDS_LEFT_BY" vZ)(K4:K.lookup vZ=some ⟨.type "tuple",adU,.seq #[.str "inner" agk,.str "way" agl] ab3,af1⟩)(uu:wO K i_ "OUTSIDE"=some (some (.int 0 Ls)))(sF:wO K i_ "TICKS_TO_PASS"=some (some (.int 1 Lv)))(HM:rT K G7 363=true)(sJ:rT K m6 434=true)(Km:binop%ns "DoorError" kV)(Kq:binop%ns "NoZone" xz)(Kp:binop%ns "NoWay" hl)(Kn:binop%ns "NoDeed" ju)(Ko:binop%ns "NoText" l5)(Ab:unop%zn "isinstance")(Aa:unop%zn "ValueError")(HP:NS K kV=true)(HU:EZ K kV xz hl ju l5 hl false true false false=true):
  ∃fd:eo,(∀(s:aH) (v:aq),BindsTo s fd ⟨[v],[]⟩ [("_law_script",v)])/\∀base:bM,K.In base->base.Ns i_ mg->nV mg base->e5 l.prog w K mg base dH 29 cp fd ["_law_script"] (@spT (pF [(unop%Wf 0),(unop%Wd 0)]) K 1 vR):=by
 have e:=_X.symm.trans (er X G F');cases e;refine⟨lx "law" "law" (mK lH) (fv lH) (bR lH) .none Qu PE QS OC (.ref m6) PD,λs v=>.of_eq rfl,λbase _ _ iv=>?_⟩;letI tt:cB:=⟨[(unop%Wf 0),(unop%Wd 0)],λc=>match c with|0=>["plan","mode","left","came","lines","shunts","siren","alarms","tries","locked","used","past","told"]|_=>[],λc=>match c with|0=>some bK|_=>none⟩;have a8:hq K 0 bK ["plan","mode","left","came","lines","shunts","siren","alarms","tries","locked","used","past","told"]:=⟨rfl,rfl,⟨KZ,H3,K2,Lg⟩,by decide +kernel,λf hf=>by
  simp only[cM,pJ,or_false] at hf;rcases hf with rfl|rfl|rfl|rfl|rfl|rfl|rfl|rfl|rfl|rfl|rfl|rfl|rfl
  ·exact Kr
  ·exact Ks
  ·exact Kw
  ·exact Kx
  ·exact Ky
  ·exact Kz
  ·exact KA
  ·exact KC
  ·exact KD
  ·exact KG
  ·exact Kt
  ·exact Ku
  ·exact Kv,by decide⟩
 replace jy:=nA X G jy;replace fL:=nA X G fL;replace nR:=nA X G nR;replace vH:=nA X G vH;replace lJ:=nA X G lJ;replace vG:=nA X G vG;replace tA:=nA X G tA;replace tB:=nA X G tB;replace tC:=nA X G tC;replace vI:=nA X G vI;replace mQ:=nA X G mQ;replace Ab:=nA X G Ab;replace Aa:=nA X G Aa;have iO:vV K mg kV xz hl ju l5:=⟨er X G Km,er X G Kq,er X G Kp,er X G Kn,er X G Ko,Ab,Aa,HP⟩;have q2:=anv HU;replace uw:=er X G uw;replace uv:=er X G uv;replace yp:=er X G yp;have agt:∃(o:Obj) (its:Array aq) (n:Nat),K.lookup apd=some o/\o.cls=.type "tuple"/\o.data=.seq its n/\its.size<=cj/\Vals ((["day","once"]:List Str).map V.str) its.toList:=⟨_,_,_,K5,rfl,rfl,by show 2<=cj;decide,(.cons ⟨_,rfl⟩ (.cons ⟨_,rfl⟩ .nil))⟩;replace yo:=er X G yo;have ags:∃(o:Obj) (its:Array aq) (n:Nat),K.lookup vZ=some o/\o.cls=.type "tuple"/\o.data=.seq its n/\its.size<=cj/\Vals ((["inner","way"]:List Str).map V.str) its.toList:=⟨_,_,_,K4,rfl,rfl,by show 2<=cj;decide,(.cons ⟨_,rfl⟩ (.cons ⟨_,rfl⟩ .nil))⟩;replace uu:=er X G uu;replace sF:=er X G sF;have ba:=dG (st:=Ea) cu cV k1;have E_:=unop%b5 (r1 0 ba (er X G a1));have dC:=dG (st:=z') cD dj k2;have Wf:=unop%b5 (M_ 1 dC (er X G a2) jy (unop%mo E_) fL nR);have oQ:=dG (st:=D_) y0 f9 k3;have Wc:=unop%b5 (MN 1 oQ (er X G fH) nR (unop%mo E_) vH lJ);have p2:=dG (st:=zZ) JZ c4 nh;have Wd:=unop%b5 (Mc 2 p2 (er X G h3) (unop%mo Wc) vG);have qT:=dG (st:=DI) J_ j4 k5;have V2:=unop%b5 (L5 0 qT (⟨kW,I0,k5⟩) a8 fL);have W6:=dG (st:=w3) Ka G3 Jr;have VO:=unop%b5 (ahd 0 W6 ⟨Ki,j3,I1,Ju⟩ (er X G Gd) a8 tA tB tC);have qU:=dG (st:=DK) Kb G4 Cn;have oO:=unop%b5 (hH 0 qU (⟨x6,I2,Cn⟩) a8);have qV:=dG (st:=Eb) Cs G5 Js;have Oe:=unop%b5 (z9 0 qV (er X G Ga));have W7:=dG (st:=DA) Kc G6 Co;have Oa:=unop%b5 (zO 0 W7 (⟨Gb,I3,Co⟩) a8);have Wn:=dG (st:=DJ) Jv Gj B2;have AN:=unop%b5 (qF 1 Wn (⟨Fu,IE,B2⟩) a8 (unop%mo Oa) (unop%mo oO));have Wo:=dG (st:=Dz) Jw Gk B3;have VQ:=unop%b5 (L0 2 Wo (⟨Fv,IF,B3⟩) a8 (unop%mo oO) (unop%mo AN));have Wq:=dG (st:=Dy) Jx Gl B4;have VS:=unop%b5 (LZ 3 Wq (⟨Fw,i12,B4⟩) a8 (unop%mo Oe) (unop%mo AN) (unop%mo oO) (unop%mo VQ));have Wr:=dG (st:=DL) Jy Gm B5;have V1:=unop%b5 (L_ 4 Wr (⟨Fx,IG,B5⟩) a8 (unop%mo oO) (unop%mo VS));have Ws:=dG (st:=Ec) Jz Gn I7;have V9:=unop%b5 (MP 0 Ws (er X G Fy));have Wt:=dG (st:=Ds) JA Gp B6;have V0:=unop%b5 (LO 0 Wt (⟨Fz,IH,B6⟩) a8);have Wu:=dG (st:=Dq) JB Gq B7;have V4:=unop%b5 (LM 1 Wu (⟨FA,II,B7⟩) a8 (unop%mo oO) (unop%mo Oa) uw uv);have Wv:=dG (st:=Dn) JC Gr B8;have VZ:=unop%b5 (LL 1 Wv (⟨FC,IJ,B8⟩) a8 (unop%mo Oe));have Ww:=dG (st:=wZ) JD Gs B9;have N':=unop%b5 (zK 0 Ww (⟨FD,IK,B9⟩) a8);have Wx:=dG (st:=Dm) JE Gu B_;have V6:=unop%b5 (LK 2 Wx (⟨FE,IL,B_⟩) a8 (unop%mo VZ) (unop%mo N') yp agt);have Wy:=dG (st:=Dp) JF Gv B';have Ob:=unop%b5 (zH 2 Wy (⟨FF,IM,B'⟩) a8 (unop%mo oO) (unop%mo N') (unop%mo AN) yo ags)
 have Wz:=dG (st:=DD) JG Gw Ca;have VU:=unop%b5 (L2 3 Wz (⟨FG,IP,Ca⟩) a8 (unop%mo oO) (unop%mo Ob));have WA:=dG (st:=Dw) JH Gx Cb;have VV:=unop%b5 (LV 1 WA (⟨FH,IQ,Cb⟩) a8 (unop%mo oO));have WB:=dG (st:=Dx) JI Gy Cc;have VT:=unop%b5 (LY 4 WB (⟨FI,IS,Cc⟩) a8 (unop%mo VU) (unop%mo VV) vI (unop%mo oO));have WC:=dG (st:=Dr) JJ Gz Cd;have V3:=unop%b5 (LN 5 WC (⟨FJ,IT,Cd⟩) a8 (unop%mo V6) (unop%mo VT) (unop%mo oO));have WD:=dG (st:=DM) JK GA Ce;have VP:=unop%b5 (L' 6 WD (⟨FK,IU,Ce⟩) a8 (unop%mo V9) (unop%mo oO) (unop%mo V0) (unop%mo V4) (unop%mo V3));have WE:=dG (st:=D0) JL GB I8;have Wh:=unop%b5 (z3 0 WE (er X G FL) lJ);have WG:=dG (st:=Du) JM GC Cf;have VR:=unop%b5 (zJ 1 WG (⟨FN,IV,Cf⟩) a8 (unop%mo Wh));have WH:=dG (st:=Dt) JN GD Cg;have VW:=unop%b5 (LP 2 WH (⟨FO,IW,Cg⟩) a8 (unop%mo AN));have WI:=dG (st:=Dv) JO GF Ci;have VX:=unop%b5 (LU 3 WI (⟨FP,IX,Ci⟩) a8 (unop%mo Ob) (unop%mo VW));have WJ:=dG (st:=DH) JP GG Cj;have V5:=unop%b5 (L4 4 WJ (⟨FQ,IY,Cj⟩) a8 (unop%mo VR) (unop%mo VX));have WK:=dG (st:=DC) JQ GH Ck;have VY:=unop%b5 (L1 7 WK (⟨FR,IZ,Ck⟩) a8 (unop%mo V1) (unop%mo VP) (unop%mo V5));have WL:=dG (st:=DV) JR GI I9;have Od:=unop%b5 (z1 8 WL (er X G FT) a8 (unop%mo VO) (unop%mo VY));have WM:=dG (st:=EA) JS GJ I_;have Oc:=unop%b5 (vF 10 WM (er X G FU) a8 (unop%mo V2) (unop%mo Od));have WN:=dG (st:=DU) JT GK I';have V':=unop%b5 (Mj 0 WN (er X G FV) mQ);have WO:=dG (st:=D9) JU GL Ja;have We:=unop%b5 (xe 1 WO (er X G FW) (unop%mo V'));have WQ:=dG (st:=En) JV GN Jb;have V8:=unop%b5 (xi 0 WQ (er X G FX));have WR:=dG (st:=vq) JW GO Jc;have Wk:=unop%b5 (xd 1 WR (er X G FY) jy (unop%mo V8) 20);have WS:=dG (st:=EM) JX GP Jd;have E':=unop%b5 (vL 21 WS (er X G FZ) fL (unop%mo Wk) uu);have WT:=dG (st:=xk) JY GQ Je;have V7:=unop%b5 (EG 0 WT (er X G F0) fL);have WU:=dG (st:=D') J0 GR Jf;have Wa:=unop%b5 (MO 0 WU (er X G F1) mQ);have WV:=dG (st:=Ah) J1 GS Jg;have Wg:=unop%b5 (Nw 1 WV (er X G F2) fL (unop%mo Wa) mQ nR (unop%mo E_));have WW:=dG (st:=pT) J2 GU Jh;have WX:=dG (st:=D2) J3 GV Ji;have Wb:=unop%b5 (Mu 0 WX (er X G F4));have WY:=dG (st:=El) J4 GW Jj;have Og:=unop%b5 (Af 0 WY (er X G F5) sF);have WZ:=dG (st:=Ek) J5 GX Jk;have Wj:=unop%b5 (M9 1 WZ (er X G F6) fL (unop%mo Og));have W0:=dG (st:=z0) J6 GY Jl;have V_:=unop%b5 (Mk 0 W0 (er X G F7));have W2:=dG (st:=Ez) J7 GZ Jm;have Oh:=unop%b5 (Al 10 W2 (er X G F8) a8 fL (unop%mo Od));have W3:=dG (st:=Em) J8 G0 Jn;have E9:=unop%b5 (xh 11 W3 (er X G F9) jy (unop%mo Og) (unop%mo V_) (unop%mo Oc) (unop%mo Oh));have Ol:=dG (st:=zW) J9 G1 Jo;have Oi:=unop%b5 (DP 22 Ol (er X G A0) (unop%mo E'));have OA:=DF (P:=l.prog) (w:=w) (base:=base) (k:=22) Ol (er X G A0) iO q2 (unop%mo E');have W4:=dG (st:=D1) J' G2 Jp;have Of:=unop%b5 (D6 0 W4 (er X G F_));have W5:=dG (st:=qH) Cq A4 Cm
 have Wi:=unop%b5 (Et 23 Cq A4 Cm (er X G A1) HM iv (by show _∈[(unop%Wf 0),(unop%Wd 0)];simp) (λp aL=>by have aL:p∈[(unop%Wf 0),(unop%Wd 0)]:=aL;simp only[cM,pJ,or_false] at aL;rcases aL with rfl|rfl <;> first|(intro z;exact absurd z (by decide))|(intro _;rfl)) lJ (unop%mo Oi) (unop%mo Of) (unop%mo E9));have Xm:=D7 (P:=l.prog) (w:=w) (base:=base) (k:=25) W5 (er X G A1) iO q2 lJ (unop%mo Oi) (unop%mo Of) (unop%mo E9) (OA.mono (by decide));have anZ:=dG (st:=lH) Cr A5 Jq;exact al_ rfl (anQ (k:=26) Cr A5 sJ iv (by show _∈[(unop%Wf 0),(unop%Wd 0)];simp) (λp aL=>by have aL:p∈[(unop%Wf 0),(unop%Wd 0)]:=aL;simp only[cM,pJ,or_false] at aL;rcases aL with rfl|rfl <;> first|(intro z;exact absurd z (by decide))|(intro _;rfl)) iO q2 (Xm.mono (by decide)) (OA.mono (by decide)) (unop%mo Wf) (unop%mo Wd) (unop%mo Oc) (unop%mo We) (unop%mo E') (unop%mo V7) (unop%mo Wg) fL jy WW (er X G F3) (unop%mo Wb) (unop%mo Wj) (unop%mo E9) (unop%mo Wi) (unop%mo Oh))
def walk{l:PySem.W.OpenLaw}{q:cA}{loose:List Str}{vY:(Str->Option aq)->bM->Prop}{p5:b_->bM->Prop}{d:DefRec}{K:Params->bc}(bg:l.most=some 63)(yy:d.params.defaults=[])(f':∀w:b_,QJ (K w.params)=true)(HV:∀(w:b_) (h:bM),p5 w h->(K w.params).In h)(c0:∀(w:b_) (h:bM),p5 w h->∀b∈[363,434],h.get? b=some (PySem.W.tabObj #[]))(yu:∀w:b_,(([363,434]:List Nat).all λb=>((K w.params).lookup b).isNone)=true)(eg:∀w:b_,(([363,434]:List Nat).all λb=>(K w.params).any λp=>rT (K w.params) p.1 b)=true)(F:∀(w:b_) (mg:Str->Option aq) (cp:ak) (h:bM),(K w.params).In h->h.Ns i_ mg->mg d.name=some (.ref cp) ->
   ∃fd:eo,(∀(s:aH) (u:aq),BindsTo s fd ⟨[u],[]⟩ [("_law_script",u)])/\∀base:bM,(K w.params).In base->base.Ns i_ mg->nV mg base->e5 l.prog w (K w.params) mg base dH 29 cp fd ["_law_script"] (@spT (pF [(unop%Wf 0),(unop%Wd 0)]) (K w.params) 1 vR)):
  PySem.W.WalkO q loose vY p5 l.row.toRowW d [] (λf vs=>PySem.call f vs):=
 akm (n:=63) (k:=29) (x:="_law_script") (ts:=[363,434]) (ek:=λ_=>dH) (sp:=λw=>@spT (pF [(unop%Wf 0),(unop%Wd 0)]) (K w.params) 1 vR) bg (by decide) yy ⟨rfl,by decide,by decide⟩ HV c0 (λw b af=>Option.isNone_iff_eq_none.mp (List.all_eq_true.mp (yu w) b af)) (λw b af=>by
  obtain⟨p,_,aL⟩:=List.any_eq_true.mp (List.all_eq_true.mp (eg w) b af);exact⟨p.1,aL⟩) F (λw H a ns aG k6 eD=>ajs (t:=pF [(unop%Wf 0),(unop%Wd 0)]) (λp aL=>by have aL:p∈[(unop%Wf 0),(unop%Wd 0)]:=aL;simp only[cM,pJ,or_false] at aL;rcases aL with rfl|rfl <;> simp) k6 (f' w) (akY ns aG) eD) λ_ _ _ _ _ z=>z
end qZ
open PySem PySem.W PyProof.Rows
set_option maxRecDepth 100000 in
set_option maxHeartbeats 0 in
theorem PySem.Challenge.cw_doorwatch_k30_walkers_holds : PySem.Challenge.rw_doorwatch_k30_walkers.Holds := by
 w_on;o_law;k_head;(case hw=>w_witness2)
 k_fill
 refine qZ.walk (l:=PySem.Challenge.rw_doorwatch_k30_walkers) rfl rfl ?L (λw h Y=>PySem.W.km_in_of Y) (λw h Y=>PySem.W.km_tabs_of Y) ?Xc ?ej ?F
 case L=>
  intro w
  first|rfl|(with_unfolding_all rfl)|kernel_rfl
 case Xc=>
  intro w
  first|rfl|(with_unfolding_all rfl)|kernel_rfl
 case ej=>
  intro w
  first|rfl|(with_unfolding_all rfl)|kernel_rfl
 case F=>
  intro w mg cp h lL G yG;refine' qZ.all_mk lL G yG ?Gd ?KZ ?H3 ?K2 ?Lg ?Ki ?Ju ?Kr ?Ks ?Kw ?Kx ?Ky ?Kz ?KA ?KC ?KD ?KG ?Kt ?Ku ?Kv ?a1 ?cu ?cV ?k1 ?a2 ?cD ?dj ?k2 ?fH ?y0 ?f9 ?k3 ?h3 ?JZ ?c4 ?nh ?kW ?I0 ?J_ ?j4 ?k5 ?j3 ?I1 ?Ka ?G3 ?Jr ?x6 ?I2 ?Kb ?G4 ?Cn ?Ga ?Cs ?G5 ?Js ?Gb ?I3 ?Kc ?G6 ?Co ?Fu ?IE ?Jv ?Gj ?B2 ?Fv ?IF ?Jw ?Gk ?B3 ?Fw ?i12 ?Jx ?Gl ?B4 ?Fx ?IG ?Jy ?Gm ?B5 ?Fy ?Jz ?Gn ?I7 ?Fz ?IH ?JA ?Gp ?B6 ?FA ?II ?JB ?Gq ?B7 ?FC ?IJ ?JC ?Gr ?B8 ?FD ?IK ?JD ?Gs ?B9 ?FE ?IL ?JE ?Gu ?B_ ?FF ?IM ?JF ?Gv ?B' ?FG ?IP ?JG ?Gw ?Ca ?FH ?IQ ?JH ?Gx ?Cb ?FI ?IS ?JI ?Gy ?Cc ?FJ ?IT ?JJ ?Gz ?Cd ?FK ?IU ?JK ?GA ?Ce ?FL ?JL ?GB ?I8 ?FN ?IV ?JM ?GC ?Cf ?FO ?IW ?JN ?GD ?Cg ?FP ?IX ?JO ?GF ?Ci ?FQ ?IY ?JP ?GG ?Cj ?FR ?IZ ?JQ ?GH ?Ck ?FT ?JR ?GI ?I9 ?FU ?JS ?GJ ?I_ ?FV ?JT ?GK ?I' ?FW ?JU ?GL ?Ja ?FX ?JV ?GN ?Jb ?FY ?JW ?GO ?Jc ?FZ ?JX ?GP ?Jd ?F0 ?JY ?GQ ?Je ?F1 ?J0 ?GR ?Jf ?F2 ?J1 ?GS ?Jg ?F3 ?J2 ?GU ?Jh ?F4 ?J3 ?GV ?Ji ?F5 ?J4 ?GW ?Jj ?F6 ?J5 ?GX ?Jk ?F7 ?J6 ?GY ?Jl ?F8 ?J7 ?GZ ?Jm ?F9 ?J8 ?G0 ?Jn ?A0 ?J9 ?G1 ?Jo ?F_ ?J' ?G2 ?Jp ?A1 ?Cq ?A4 ?Cm ?F' ?Cr ?A5 ?Jq ?jy ?fL ?nR ?vH ?lJ ?vG ?tA ?tB ?tC ?vI ?mQ ?uw ?uv ?yp ?K5 ?yo ?K4 ?uu ?sF ?HM ?sJ ?Km ?Kq ?Kp ?Kn ?Ko ?Ab ?Aa ?HP ?HU
  (case HM=>first|kernel_rfl|rfl|(with_unfolding_all rfl))
  (case sJ=>first|kernel_rfl|rfl|(with_unfolding_all rfl))
  (case HP=>first|kernel_rfl|rfl|(with_unfolding_all rfl))
  (case HU=>first|kernel_rfl|rfl|(with_unfolding_all rfl))
  (case Gd|KZ|H3|K2|Lg|Ki|Ju|Kr|Ks|Kw|Kx|Ky|Kz|KA|KC|KD|KG|Kt|Ku|Kv|a1|cu|cV|k1|a2|cD|dj|k2|fH|y0|f9|k3|h3|JZ=>k_is)
  (case c4|nh|kW|I0|J_|j4|k5|j3|I1|Ka|G3|Jr|x6|I2|Kb|G4|Cn|Ga|Cs|G5|Js|Gb|I3|Kc|G6|Co|Fu|IE|Jv|Gj|B2|Fv|IF|Jw|Gk|B3|Fw|i12|Jx|Gl|B4|Fx|IG|Jy|Gm|B5|Fy|Jz|Gn|I7|Fz|IH|JA|Gp|B6=>k_is)
  (case FA|II|JB|Gq|B7|FC|IJ|JC|Gr|B8|FD|IK|JD|Gs|B9|FE|IL|JE|Gu|B_|FF|IM|JF|Gv|B'|FG|IP|JG|Gw|Ca|FH|IQ|JH|Gx|Cb|FI|IS|JI|Gy|Cc|FJ|IT|JJ|Gz|Cd|FK|IU|JK|GA|Ce|FL=>k_is)
  (case JL|GB|I8|FN|IV|JM|GC|Cf|FO|IW|JN|GD|Cg|FP|IX|JO|GF|Ci|FQ|IY|JP|GG|Cj|FR|IZ|JQ|GH|Ck|FT|JR|GI|I9|FU|JS|GJ|I_|FV|JT|GK|I'|FW|JU|GL|Ja|FX|JV|GN|Jb|FY|JW|GO=>k_is)
  (case Jc|FZ|JX|GP|Jd|F0|JY|GQ|Je|F1|J0|GR|Jf|F2|J1|GS|Jg|F3|J2|GU|Jh|F4|J3|GV|Ji|F5|J4|GW|Jj|F6|J5|GX|Jk|F7|J6|GY|Jl|F8|J7|GZ|Jm|F9|J8|G0|Jn|A0|J9|G1|Jo|F_|J'=>k_is)
  (case G2|Jp|A1|Cq|A4|Cm|F'|Cr|A5|Jq|jy|fL|nR|vH|lJ|vG|tA|tB|tC|vI|mQ|uw|uv|yp|K5|yo|K4|uu|sF=>k_is)
  (case Km|Kq|Kp|Kn|Ko|Ab|Aa=>k_is)
end
end
