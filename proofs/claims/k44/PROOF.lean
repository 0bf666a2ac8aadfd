import PyProof.Rows.All
import Wide.All
import OpenK.AllK
import Wide.FinOn
import Lean
import PyProof.EqAt
import PyProof.EqKinds
import PyProof.TupleCall
import PyProof.P3Statements
import KE.KSortTup
import PyProof.AttrMissHeap
import PyProof.ZipIter
import PyProof.Draws
import PyProof.ListMulRoad
import Wide.Seal
import KE.KLam
import KE.KNest
import KE.KNestM
import KE.KIsAll
import PyProof.ExcArgs
import PyProof.ReprStr
import PyProof.FString
import PyProof.FitsInt
import KE.KMinKey
import PySem.Challenge.RW_doorwatch_k44_whole_undone_as_far
set_option Elab.async false
set_option linter.all false
set_option maxRecDepth 100000
set_option maxHeartbeats 0
open PySem renaming Value → aj, Addr → af, Around → cH, World → b6, Heap → bz, Expr → bq
open PySem.W renaming Frag → a6, keepIn → m9, findIn → ko, codeIn → amZ, fnOf → ml, mg_of → fE, mg_none_of → n_, emptyDict → qo, instObj → rJ, kitOne → nd, codeHdIn → vu
open Option renaming bind_eq_some_iff → cz, map_eq_some_iff → dY, bind_some → c5, map_some → gd
open PySem renaming wpAny_bind → aR, Shared → aH, wpAny_pure → cf, starEach → bB, FuncData → et, sizeLine → cA, mainGlobals → jf, Program → cC, wpAny → bc, wpAny_mono → eK, mem_of_lookup → xS, keywordEach → oc, wpAny_holding → mv, backTo → dZ, wpAny_Call_Name_kw → pq, wpAny_field → h6, attributeBase → jF, wpAny_callSpecial?_slot → qs, backToKw → od, sizeLine_eq → nc, wpAny_seqItems → pv, wpAny_pyIter_tuple → xU, compareOp → iz, codeAny_builtin → tL, wpAny_newObj_type → qt, codeAny_mono → pw, wpAny_call_entry → px, wpAny_setField_rec → tM, swapsWith → amF, behindInMarks → pz, wpAny_truthy_bool → am6, codeAny → h7, assignEach → qu, call_meets → oe, wpAny_call → rM, wpAny_newFunctionEnv → BQ, binaryOp → mw, NameKind → mx, model → bu, foldedSetIterable → am1, rawInt → hj
open PySem.Heap renaming get?_push_of_some → cZ, lt_size → cT, get?_push_size → gI, size_push → kp, get?_update_other → BR
open List renaming mem_cons_of_mem → dR, mem_cons → cM, map_cons → dr, mem_cons_self → gb, replicate → ed, size_toArray → d4, getElem?_eq_some_iff → gH, mem_map → en, nodup_cons → gR, getElem?_eq_getElem → hH, length_cons → e_, mem_singleton → kR, mem_append → j2, length_map → hi, getElem?_map → lE, pairwise_cons → m_, map_nil → gc, mem_append_right → lF, lookup_cons → kS, set_cons_zero → jg, lookup → jC, set_cons_succ → jD, getElem?_append_right → vi, nodup_append → qp, getElem?_append_left → vj, find?_cons → qq, replicate_succ → am0, mem_of_getElem? → tJ, append_nil → amE, zip_cons_cons → rL, length_append → kr, length_filter_le → BN, getElem?_set → vn, flatten_cons → vo, not_mem_nil → gS, getElem?_cons_zero → jE, getElem?_cons_succ → ks, length_nil → jh, append_assoc → vq, nil_append → ob, cons_append → vr, map_map → tK
open Nat renaming le_refl → dS, lt_of_lt_of_le → iU, ne_of_lt → ez, ne_of_gt → hI, le_trans → mn, zero_le → kT, le_succ → mu, le_add_right → h8
open PySem.Builtin.SmallTypes renaming nextOf → lD, ownedTupleIsFree → rI
open PySem.Builtin.Tuple renaming tupleExact → tH
open Function renaming comp_def → n9
open Bool renaming and_eq_true → iV, false_eq_true → pn, false_ne_true → m'
open PySem.PyData renaming depthAll → kq, canLayAll0 → lG, str → amJ, eqv → n', depth → oa
open PyProof.Rows renaming slot_tuple_getitem → BL, callWith_type1 → vl
open PySem.Builtin.Slice renaming slicePlaces → BM
open Array renaming getElem?_eq_getElem → vk, length_toList → rK
open PySem.Around renaming under_plainId → vm
open False renaming elim → eL
open PySem.PassesOwn renaming never → amS
open PySem.F renaming slot_tuple_iterator_next → BO, plainAttrs_list → xV
open Option.some renaming inj → fF
open Int renaming emod_nonneg → vp, emod_lt_of_pos → BP
namespace PySem.W.Fast
def tw265743270518200409:=0
def tw4723576055651081363:=0
def tw15884059366033085878:=0
def tw5060808032266261477:=0
def tw7689091192806310452:=0
def tw4019760387416682672:=0
def tw6062885724242712821:=0
def tw11265842625956945472:=0
def tw15138866991165260962:=0
def tw4364626159565791697:=0
def tw17927827348245356529:=0
def tw869341223399636284:=0
def tw10192860336614638639:=0
def tw13778271769839330389:=0
def tw14136616065427074830:=0
def tw4209679746339911712:=0
def tw15945931918759705490:=0
def tw8561304217556969927:=0
def tw14572098493836076152:=0
def tw1002262270107265143:=0
def tw15875663429041288222:=0
def tw9855203086504064812:=0
def tw16948422425393303684:=0
def tw212296812788435666:=0
def tw7770002644521582659:=0
def tw11735782294334824959:=0
def tw8173529295406999366:=0
def tw3123874200262673776:=0
def tw12294726356655926457:=0
def tw13716494312912011474:=0
def tw3950033273115994855:=0
def tw7240539972936099820:=0
def tw9614003777035768587:=0
def tw12991665652107616347:=0
def tw4038712051923277150:=0
def tw512176324602538274:=0
def tw4065756625022407943:=0
def tw1093097066562990287:=0
def tw16343055684644402340:=0
def tw11669942614409524374:=0
def tw11811181042943174693:=0
def tw13063198567533158928:=0
def tw4705409617258425779:=0
def tw1836944973947207722:=0
def tw8248555679571051198:=0
def tw13813453413641788744:=0
def tw18120845441722179895:=0
def tw12597748695211571918:=0
def tw1919966684083205236:=0
def tw945811595431509249:=0
def tw16735021984080172127:=0
def tw818297071455494452:=0
def tw6930053153948711053:=0
def tw1184959822961982672:=0
def tw1640062267899707059:=0
def tw15069804621969553159:=0
def tw8459551036688498195:=0
def tw8416220692606255066:=0
def tw2892793169071465256:=0
def tw7949691946902086959:=0
def tw1097069512196446250:=0
def tw17346420891759107424:=0
def tw1731613130223892297:=0
def tw1302806873453623874:=0
def tw239337978372562596:=0
def tw11117234334347518476:=0
def tw15809115985332646074:=0
def tw10245884298516860047:=0
def tw8418586553463347245:=0
def tw9089528177639287696:=0
def tw14373966211420094537:=0
def tw16004012372693497810:=0
def tw15543264021179154584:=0
def tw6006724973409221340:=0
def tw2318999335086251143:=0
def tw3289648693426828061:=0
def tw17435941442998341875:=0
def tw10822933460589488025:=0
def tw6194005925678718138:=0
def tw8574462255464508797:=0
def tw2384806022727789191:=0
def tw12911235830992752626:=0
def tw10715407713575672353:=0
def tw16328711087610576303:=0
def tw18035186740399746016:=0
def tw3098271765287917017:=0
def tw16494423792540103077:=0
def tw17517963025553517149:=0
def tw6345786087273205154:=0
def tw9016205745446702137:=0
def tw13099358530835523212:=0
def tw1721804361232088471:=0
def tw939566188891361034:=0
def tw12792398124052506424:=0
def tw385555907926159750:=0
def tw15197320399910272894:=0
def tw13268258522110545284:=0
def tw7532865015329900899:=0
def tw6235860187011212453:=0
def tw10778733588359642065:=0
def tw435304353251862469:=0
def tw5820722845495696921:=0
def tw13125040469141067370:=0
def tw6357394837136259587:=0
def tw12078364262540719461:=0
def tw17028244366606027615:=0
def tw11397487974286587405:=0
def tw14338543400277380107:=0
def tw12067126314506631815:=0
def tw15364684168540617616:=0
def tw7389199833675007166:=0
def tw18002048179092845184:=0
def tw5996619747401286509:=0
def tw8472995121275660278:=0
def tw12165745765536130746:=0
def tw14573730351389451755:=0
def tw16452853852098356719:=0
def tw14597435451518551692:=0
def tw13107587667617551524:=0
def tw16772735122639911684:=0
def tw7034117342515502043:=0
def tw10539896575671050575:=0
def tw11288871378817065234:=0
def tw10001064849125692732:=0
def tw6300538412747646003:=0
def tw13539838603166548920:=0
def tw14136477597886450485:=0
def tw14100461861361441635:=0
def tw5426951196404922117:=0
def tw2178601443967378742:=0
def tw7632018174588459581:=0
def tw18149793893260273633:=0
def tw12164181394671742619:=0
def tw2026953547759634824:=0
def tw14396753603722756203:=0
def tw2537288995750147226:=0
def tw1227870852458971412:=0
def tw6605867536183726047:=0
def tw14624286367165568877:=0
def tw1975374538809636490:=0
def tw6389938222304070733:=0
def tw13930909159687862016:=0
def tw6856613879672796940:=0
def tw9122262426927193134:=0
def tw17961756888386745666:=0
def tw17563473470232068812:=0
def tw6596265741929582452:=0
def tw467931942118839780:=0
def tw588103044068659826:=0
def tw12776267892803496189:=0
def tw13927482548214136096:=0
def tw10133097631499646900:=0
def tw2798745413796332956:=0
def tw12099423084705317235:=0
def tw253235205166953070:=0
def tw15688820781362302775:=0
def tw17198881281158901776:=0
def tw15030056463384828984:=0
def tw1490356955594221801:=0
def tw4432971905776523436:=0
def tw1061824001315386453:=0
def tw1282658505048163820:=0
def tw5041954389542504148:=0
def tw8653001457353306698:=0
def tw16079644662866940149:=0
def tw3405126498631349862:=0
def tw7307103022651297814:=0
def tw11775684367338207171:=0
def tw10024597771587579220:=0
def tw15650385510432159381:=0
def tw12258112991886223794:=0
def tw5060743791411905859:=0
def tw4108323612342241940:=0
def tw3011114778132640069:=0
def tw11893002159594791652:=0
def tw13607046582142679487:=0
def tw10869722345469689715:=0
def tw12783618922265892761:=0
def tw12270130533404104203:=0
def tw8908955962396211863:=0
def tw1564266500878652574:=0
def tw5128675773390071453:=0
def tw549031727907257931:=0
def tw7332279048809644827:=0
def tw9641187916207794038:=0
def tw808166320628238537:=0
def tw14855519043681066562:=0
def tw13174673680305055789:=0
def tw14010484808991041208:=0
def tw9684863599936726835:=0
def tw2304483107823661603:=0
def tw12336149826362331481:=0
def tw10493721904696997667:=0
def tw1739351503077357726:=0
def tw12388555209419972070:=0
def tw9734935039727149950:=0
def tw9470078412942408464:=0
def tw11404446633956516682:=0
def tw13736465928352207609:=0
def tw9601586578379853669:=0
def tw1981495054969371790:=0
def tw2614572326103090242:=0
def tw3758802193073580081:=0
def tw948407993416585567:=0
def tw10317864050295736018:=0
def tw16459241100250301879:=0
def tw16669675417499682376:=0
def tw16147562861053676831:=0
def tw3260483269269344102:=0
def tw6258207837244333761:=0
def tw7313219408594864707:=0
def tw8706627098204060097:=0
def tw6762095810175513875:=0
def tw11595758122505031773:=0
def tw1415045174170747453:=0
def tw15685346096575811986:=0
def tw9410866772095932755:=0
def tw15844425508474313117:=0
def tw15297715632491687399:=0
def tw9276693528383293878:=0
def tw6246516008038719631:=0
def tw14246255609628352926:=0
def tw10245826491482997573:=0
def tw1579655070005364277:=0
def tw6860982542343232838:=0
def tw1049356797489266876:=0
def tw12831055777204698080:=0
def tw12891911006438629290:=0
def tw15739698517107444683:=0
def tw6626511677527783092:=0
def tw3393655007593905620:=0
def tw10319451315729828323:=0
def tw18047105863132597220:=0
def tw6779693912961917873:=0
def tw4336025485736503527:=0
def tw14409037387443918723:=0
def tw13082767709130421653:=0
def tw14777352463843350224:=0
def tw2538901084083765325:=0
def tw15588581026362658492:=0
def tw17726244336627290719:=0
def tw2156421607826943131:=0
def tw8256759433392823538:=0
def tw8093643423411347367:=0
def tw6561142599406093026:=0
def tw14039997366068881153:=0
def tw16244066947660801195:=0
def tw1378472253823554891:=0
def tw15620233620591731374:=0
def tw17902631537674181050:=0
def tw8798311552008025563:=0
def tw18042615334177012687:=0
def tw15121227836938960832:=0
def tw18001891473914905251:=0
def tw3364943313446343077:=0
def tw13468078443602401109:=0
def tw15378427762806780812:=0
def tw18160159761254008197:=0
def tw13742514882931410438:=0
def tw12620020799970402047:=0
def tw9250002028212517394:=0
def tw6709977105584918571:=0
def tw16435955971197540366:=0
def tw3001060261464995199:=0
def tw169974929020198204:=0
def tw13187038756164331170:=0
def tw12785405007544129692:=0
def tw8676386534685705515:=0
def tw4582694736344733217:=0
def tw17880158255416977104:=0
def tw4637085379447137958:=0
def tw6586145452961080231:=0
def tw8412116374985081111:=0
def tw3951171223001949887:=0
def tw9643640144577205128:=0
def tw14416460178014938452:=0
def tw18399307919712389232:=0
def tw1005203542913654665:=0
def tw573155501593120038:=0
def tw10552480435720021307:=0
def tw8111687238622992781:=0
end PySem.W.Fast
noncomputable section
section
namespace a7
open PySem PySem.Spec PyProof.Rows
abbrev Key:=Sum Int Str
noncomputable def sf:Key->aj->Bool
|.inl k,v=>Value.isInt k v
|.inr x,v=>Value.isStrOf x v
noncomputable def abd(w:b6):Key->Int
|.inl k=>hashInt k
|.inr x=>hashStr w x
def oh:∀{k:Key} {v:aj},sf k v=true->(∃i t,k=Sum.inl i/\v=Value.int i t)\/(∃x t,k=Sum.inr x/\v=Value.str x t)
|.inl i,v,h=>by
  obtain⟨t,e⟩:=Value.isInt_shape (k:=i) (v:=v) h;exact .inl ⟨i,t,rfl,e⟩
|.inr x,v,h=>by
  obtain⟨t,e⟩:=Value.isStrOf_shape (x:=x) (v:=v) h;exact .inr ⟨x,t,rfl,e⟩
def air(i:Int)(t:Tok):sf (.inl i) (.int i t)=true:=by simp[sf,Value.isInt]
def aiq(x:Str)(t:Tok):sf (.inr x) (.str x t)=true:=by simp[sf,Value.isStrOf]
def alk(a b:Int):decide ((Sum.inl a:Key)=Sum.inl b)=(a==b):=by
 by_cases e:a=b
 ·subst e;simp
 ·have h:¬(Sum.inl a:Key)=Sum.inl b:=λq=>e (Sum.inl.inj q);rw[decide_eq_false h];exact (beq_eq_false_iff_ne.mpr e).symm
def alh(a b:Str):decide ((Sum.inr a:Key)=Sum.inr b)=decide (a=b):=by
 by_cases e:a=b
 ·subst e;simp
 ·have h:¬(Sum.inr a:Key)=Sum.inr b:=λq=>e (Sum.inr.inj q);rw[decide_eq_false h,decide_eq_false e]
def alj(a:Int)(b:Str):decide ((Sum.inl a:Key)=Sum.inr b)=false:=decide_eq_false (λq=>nomatch q)
def ali(a:Str)(b:Int):decide ((Sum.inr a:Key)=Sum.inl b)=false:=decide_eq_false (λq=>nomatch q)
noncomputable def hk(prog:cC)(w:b6):PySem.KeyKind prog w Key where
 is:=sf
 hash:=abd w
 inj:=λv a b aB aa=>by
  rcases oh aB with ⟨i,t,rfl,rfl⟩|⟨x,t,rfl,rfl⟩
  ·rcases oh aa with ⟨j,u,rfl,e⟩|⟨y,u,rfl,e⟩
   ·injection e with aD _;rw[aD]
   ·exact nomatch e
  ·rcases oh aa with ⟨j,u,rfl,e⟩|⟨y,u,rfl,e⟩
   ·exact nomatch e
   ·injection e with aD _;rw[aD]
 byValue:=λk v h=>by
  rcases oh h with ⟨i,t,rfl,rfl⟩|⟨x,t,rfl,rfl⟩ <;> rfl
 pyHash:=λbo h=>by
  rcases oh bo with ⟨i,t,rfl,rfl⟩|⟨x,t,rfl,rfl⟩
  ·exact wpAny_pyHash_int h
  ·exact wpAny_pyHash_str h
 eqBool:=λcn bo h=>by
  rcases oh cn with ⟨i,t,rfl,rfl⟩|⟨x,t,rfl,rfl⟩
  ·rcases oh bo with ⟨j,u,rfl,rfl⟩|⟨y,u,rfl,rfl⟩
   ·rw[alk] at h;exact wpAny_eqBool_int h
   ·rw[alj] at h;exact SeqAt.EqAt.int_str i t y u _ _ _ _ h
  ·rcases oh bo with ⟨j,u,rfl,rfl⟩|⟨y,u,rfl,rfl⟩
   ·rw[ali] at h;exact SeqAt.EqAt.str_int x t j u _ _ _ _ h
   ·rw[alh] at h;exact wpAny_eqBool_str h
 «strs»:=λk x t v h=>by
  rcases oh h with ⟨i,u,rfl,e⟩|⟨y,u,rfl,e⟩
  ·exact nomatch e
  ·injection e with aD _
   subst aD;cases v <;> rfl
def RJ(prog:cC)(w:b6)(k:Key)(v:aj):(hk prog w).is k v=sf k v:=rfl
def Rh(prog:cC)(w:b6)(i:Int)(t:Tok):(hk prog w).is (.inl i) (.int i t)=true:=air i t
def Rg(prog:cC)(w:b6)(x:Str)(t:Tok):(hk prog w).is (.inr x) (.str x t)=true:=aiq x t
end a7
namespace a7
open PySem PySem.Spec PyProof.Rows
inductive V where
|d3|b0 (b:Bool)|int (i:Int)|str (x:Str)|l5 (b:Array UInt8)|wK (b:UInt64)|ref (a:af)|ty (n:String)
 deriving DecidableEq
noncomputable def RelV:V->aj->Prop
|.d3,u=>u=Value.none
|.b0 b,u=>u=Value.bool b
|.int i,u=>∃t,u=Value.int i t
|.str x,u=>∃t,u=Value.str x t
|.l5 b,u=>∃t,u=Value.bytes b t
|.wK b,u=>∃t,u=Value.float b t
|.ref a,u=>u=Value.ref a
|.ty n,u=>u=Value.type n
abbrev Vals:List V->List aj->Prop:=Paired RelV
theorem Vals.length{xs:List V}{us:List aj}(r:Vals xs us):xs.length=us.length:=Paired.length r
theorem Vals.get:∀{xs:List V} {us:List aj} {i:Nat} {x:V},Vals xs us->xs[i]?=some x->∃u,us[i]?=some u/\RelV x u
|_,_,_,_,.nil,e=>by simp at e
|_,_,0,_,.cons r _,e=>by simp at e;subst e;exact⟨_,rfl,r⟩
|_,_,i+1,x,.cons _ t,e=>by
  obtain⟨u,ai,ao⟩:=Vals.get (i:=i) (x:=x) t (by simpa using e);exact⟨u,by simpa using ai,ao⟩
theorem Vals.append:∀{xs ys:List V} {us ws:List aj},Vals xs us->Vals ys ws->Vals (xs++ys) (us++ws)
|_,_,_,_,.nil,s=>s
|_,_,_,_,.cons r t,s=>.cons r (Vals.append t s)
theorem Vals.take:∀{xs:List V} {us:List aj} (n:Nat),Vals xs us->Vals (xs.take n) (us.take n)
|_,_,0,_=>.nil
|_,_,_+1,.nil=>.nil
|_,_,n+1,.cons r t=>.cons r (Vals.take n t)
theorem Vals.drop:∀{xs:List V} {us:List aj} (n:Nat),Vals xs us->Vals (xs.drop n) (us.drop n)
|_,_,0,r=>r
|_,_,_+1,.nil=>.nil
|_,_,n+1,.cons _ t=>Vals.drop n t
noncomputable def kb:Option V->Option aj->Prop
|some v,some u=>RelV v u
|none,none=>True
|_,_=>False
noncomputable def g9{eQ:Type}:List (eQ×V)->List (eQ×aj)->Prop:=Paired λ(p:eQ×V) (q:eQ×aj)=>p.1=q.1/\RelV p.2 q.2
def dN:Key->V
|.inl i=>.int i
|.inr x=>.str x
inductive d7 where
|lst (xs:List V)
|tup (xs:List V)
|fo (kvs:List (Key×V))|mJ (kvs:List (List Key×V))
|set (S:Int->Bool) (n:Nat)
|ins (C bf:af) (aA:List (Str×V))
|own (x:af)
|h5 (aA:List (Str×V))
|met (f x:af)
|i_ (lo aM:Int)
|nS (o:Obj) (u:d7)
|h4 (ps:Array aj)
|ext (oA:bz->Prop)
abbrev aw:=af->Option d7
noncomputable def upd(H:aw)(a:af)(o:d7):aw:=λb=>if b=a then some o else H b
def dM{H:aw}{a:af}{o:d7}:upd H a o a=some o:=by unfold upd;rw[if_pos rfl]
def cK{H:aw}{a b:af}{o:d7}(h:b≠a):upd H a o b=H b:=by unfold upd;rw[if_neg h]
def al2{H:aw}{a b:af}{o u:d7}(h:H a=some o)(h':H b=some u)(d:o≠u):a≠b:=by
 intro e;subst e;rw[h] at h';exact d (fF h')
def iW{H:aw}{a b:af}{o:d7}(h:H a=some o)(h':H b=none):a≠b:=by
 intro e;subst e;rw[h] at h';cases h'
section
variable (P:cC)(w:b6)
noncomputable def hn(H:aw)(h:bz)(a:af):d7->Prop
|.lst xs=>xs.length<=cA/\∃(its:List aj) (n:Nat),Vals xs its/\h.get? a=some {cls:=.type "list",data:=.seq its.toArray n}
|.tup xs=>xs.length<=cA/\∃its:List aj,Vals xs its/\IsTup h a its.toArray
|.fo kvs=>kvs.length<=cA/\(a==sysModules)=false/\∃vs,g9 kvs vs/\h.DictOf (hk P w) a vs
|.mJ kvs=>kvs.length<=cA/\(a==sysModules)=false/\∃xs:List (List Key×af×aj),
   Paired (λ(p:List Key×V) (q:List Key×af×aj)=>p.1=q.1/\H q.2.1=some (.tup (p.1.map dN))/\RelV p.2 q.2.2) kvs xs /\
   ∃o es ep,h.get? a=some o/\o.ExactDict/\o.data=.dict es ep/\es.toList=xs.map (entryOfKey (tupleKind (hk P w)))/\(xs.map (·.1)).Nodup
|.set S n=>h.SetOf (intKind P w) a S n
|.ins C bf aA=>H bf=some (.own a)/\aA.length<=1000/\bf≠a/\h.get? a=some (rJ C bf) /\
   ∃eH,h.Ns1 bf eH/\(∀f,kb (aA.lookup f) (eH f))/\PySem.Within eH (aA.map (·.1))
|.own _=>∃o,h.get? a=some o
|.h5 aA=>∃eH,h.Ns1 a eH/\∀f,kb (aA.lookup f) (eH f)
|.i_ lo aM=>∃t u v,h.get? a=some {cls:=.type "range",data:=.fields #[.int lo t,.int aM u,.int 1 v]}
|.nS o u=>h.get? a=some o/\hn H h a u
|.h4 ps=>h.get? a=some {cls:=.none,data:=.fields ps}
|.met f x=>h.get? a=some (PySem.W.methodObj (.ref f) (.ref x))
|.ext oA=>oA h/\(∃o,h.get? a=some o)/\∀ai ao:bz,oA ai->(∀o,ai.get? a=some o->ao.get? a=some o)->oA ao
noncomputable def eC(H:aw)(h:bz):Prop:=∀a o,H a=some o->hn P w H h a o
end
section
variable {P:cC}{w:b6}{H ae:aw}{h h':bz}{a:af}{o:d7}
theorem hn.lt(x:hn P w H h a o):a<h.objs.size:=by
 cases o with
|lst xs=>obtain⟨_,_,_,_,e⟩:=x;exact cT e
|tup xs=>obtain⟨_,_,_,p⟩:=x;exact p.lt
|fo kvs=>obtain⟨_,_,_,_,o,_,_,e,_⟩:=x;exact cT e
|mJ kvs=>obtain⟨_,_,_,_,o,_,_,e,_⟩:=x;exact cT e
|set S n=>obtain⟨o,_,_,_,e,_⟩:=x;exact cT e
|ins C bf aA=>obtain⟨_,_,_,e,_⟩:=x;exact cT e
|own y=>obtain⟨_,e⟩:=x;exact cT e
|h5 aA=>obtain⟨_,⟨_,_,_,e,_⟩,_⟩:=x;exact cT e
|i_ lo aM=>obtain⟨_,_,_,e⟩:=x;exact cT e
|nS dc u=>obtain⟨e,_⟩:=x;exact cT e
|h4 ps=>exact cT (show h.get? a=some _ from x)
|met f y=>exact cT (show h.get? a=some _ from x)
|ext oA=>obtain⟨_,⟨_,e⟩,_⟩:=x;exact cT e
theorem Paired.I3{α β:Type}{F G:α->β->Prop}:∀{Po:List α} {Pp:List β},Paired F Po Pp->(∀a b,F a b->G a b)->Paired G Po Pp
|_,_,.nil,_=>.nil
|_,_,.cons r t,f=>.cons (f _ _ r) (Paired.I3 t f)
def hn.jd(x:hn P w H h a o)(k:∀b u,(b=a\/H b=some (.own a))->h.get? b=some u->h'.get? b=some u)
  (aF:∀b,H b=some (.own a)->ae b=some (.own a)) (bh:∀b xs,H b=some (.tup xs)->ae b=some (.tup xs)):hn P w ae h' a o:=by
 induction o with
|lst xs=>obtain⟨z,its,n,r,e⟩:=x;exact⟨z,its,n,r,k _ _ (.inl rfl) e⟩
|tup xs=>obtain⟨z,its,r,dc,e,c⟩:=x;exact⟨z,its,r,dc,k _ _ (.inl rfl) e,c⟩
|fo kvs=>obtain⟨z,y,vs,r,dc,es,ep,e,c⟩:=x;exact⟨z,y,vs,r,dc,es,ep,k _ _ (.inl rfl) e,c⟩
|mJ kvs=>
  obtain⟨z,y,xs,r,dc,es,ep,e,c⟩:=x;exact⟨z,y,xs,Paired.I3 r λp q z=>⟨z.1,bh _ _ z.2.1,z.2.2⟩,dc,es,ep,k _ _ (.inl rfl) e,c⟩
|set S n=>obtain⟨dc,es,ep,t,e,c⟩:=x;exact⟨dc,es,ep,t,k _ _ (.inl rfl) e,c⟩
|ins C bf aA=>
  obtain⟨d,z,ne,e,eH,⟨eI,es,ep,aL,c⟩,r⟩:=x;exact⟨aF _ d,z,ne,k _ _ (.inl rfl) e,eH,⟨eI,es,ep,k _ _ (.inr d) aL,c⟩,r⟩
|own y=>obtain⟨dc,e⟩:=x;exact⟨dc,k _ _ (.inl rfl) e⟩
|h5 aA=>obtain⟨eH,⟨eI,es,ep,e,c⟩,r⟩:=x;exact⟨eH,⟨eI,es,ep,k _ _ (.inl rfl) e,c⟩,r⟩
|i_ lo aM=>obtain⟨t,u,v,e⟩:=x;exact⟨t,u,v,k _ _ (.inl rfl) e⟩
|nS dc u b1=>obtain⟨e,q⟩:=x;exact⟨k _ _ (.inl rfl) e,b1 q⟩
|h4 ps=>
  have e:h.get? a=some {cls:=.none,data:=.fields ps}:=x;show h'.get? a=some {cls:=.none,data:=.fields ps};exact k a _ (.inl rfl) e
|met f y=>
  have e:h.get? a=some (PySem.W.methodObj (.ref f) (.ref y)):=x;show h'.get? a=some (PySem.W.methodObj (.ref f) (.ref y));exact k a _ (.inl rfl) e
|ext oA=>obtain⟨p,⟨o,e⟩,st⟩:=x;exact⟨st _ _ p λo q=>k _ _ (.inl rfl) q,⟨o,k _ _ (.inl rfl) e⟩,st⟩
theorem eC.lt(x:eC P w H h)(e:H a=some o):a<h.objs.size:=(x a o e).lt
def eC.fresh(x:eC P w H h)(e:h.objs.size<=a):H a=none:=by
 cases q:H a with
|none=>rfl
|some u=>exact absurd (iU (x.lt q) e) (Nat.lt_irrefl _)
def eC.kept(x:eC P w H h)(k:∀b u,h.get? b=some u->h'.get? b=some u):eC P w H h':=λa o e=>
 (x a o e).jd (λb u _ q=>k b u q) (λ_ q=>q) λ_ _ q=>q
def eC.laid(x:eC P w H h)(k:∀b u,h.get? b=some u->h'.get? b=some u)(aN:h.objs.size<=a)(new:hn P w (upd H a o) h' a o):eC P w (upd H a o) h':=λb u e=>by
 have a5:=x.fresh aN;by_cases aa:b=a
 ·subst aa;rw[dM] at e;cases e;exact new
 ·rw[cK aa] at e;exact (x b u e).jd (λc v _ q=>k c v q) (λc q=>by rw[cK (iW q a5)];exact q) λc xs q=>by rw[cK (iW q a5)];exact q
end
noncomputable def eU(H:aw)(a:af)(u:d7):Prop:=H a=some u\/∃o,H a=some (.nS o u)
def eU.ok{P:cC}{w:b6}{H:aw}{h:bz}{a:af}{u:d7}(r:eU H a u)(x:eC P w H h):hn P w H h a u:=by
 rcases r with r|⟨o,r⟩
 ·exact x a u r
 ·obtain⟨_,q⟩:=x a _ r;exact q
noncomputable def wo:Option d7->Prop
|some (.lst _)=>True
|some (.fo _)=>True
|some (.mJ _)=>True
|some (.set _ _)=>True
|some (.ins _ _ _)=>True
|some (.ext _)=>True
|_=>False
section
variable {P:cC}{w:b6}{H:aw}{h h':bz}{x e:af}{o':d7}
def eC.write(ok:eC P w H h)(amH:wo (H x))(he:e=x\/H e=some (.own x))(k:∀b u,b≠e->h.get? b=some u->h'.get? b=some u)(u1:∃u,h'.get? e=some u)
  (new:hn P w (upd H x o') h' x o'):eC P w (upd H x o') h':=λb u q=>by
 have PE:∀c y,H c=some (.own y)->c≠x:=λc y r z=>by subst z;rw[r] at amH;exact amH
 have aby:∀c xs,H c=some (.tup xs)->c≠x:=λc xs r z=>by subst z;rw[r] at amH;exact amH
 by_cases aa:b=x
 ·subst aa;rw[dM] at q;cases q;exact new
 ·rw[cK aa] at q;by_cases sU:b=e
  ·have el:H b=some (.own x):=by
    rcases he with z|z
    ·exact absurd (sU.trans z) aa
    ·rw[sU];exact z
   rw[q] at el;cases el;obtain⟨v,bo⟩:=u1;exact⟨v,by rw[sU];exact bo⟩
  ·refine (ok b u q).jd (λc v au r=>k c v ?_ r) (λc r=>by rw[cK (PE c b r)];exact r) λc xs r=>by rw[cK (aby c xs r)];exact r
   rcases au with rfl|au
   ·exact sU
   ·rintro rfl;rcases he with z|z
    ·exact PE c b au z
    ·rw[au] at z;cases z;exact aa rfl
end
structure fU(aA ex:List af)(H ae:aw)(h h':bz):Prop where
 keep:∀b o,h.get? b=some o->H b=none->b∉aA->b∉ex->h'.get? b=some o
 slot:∀b o,h.get? b=some o->H b=none->b∈aA->b∉ex->∃cB,h'.get? b=some {o with slots:=cB}
 free:∀b o,h.get? b=some o->H b=none->b∉ex->ae b=none
 there:∀b o,h.get? b=some o->b∉ex->∃o',h'.get? b=some o'
 kQ:∀b xs,H b=some (.tup xs)->ae b=some (.tup xs)
 kg:∀b o u,H b=some (.nS o u)->ae b=some (.nS o u)
 km:∀b ps,H b=some (.h4 ps)->∃more,ae b=some (.h4 (ps++more))
section
variable {aA hW ex amh:List af}{H H1 ba:aw}{h ai ao h':bz}{a x e:af}{o:d7}
def fU.any(u:fU aA ex H H1 h ai){b:af}{dc:Obj}(q:h.get? b=some dc)(n:H b=none)(hx:b∉ex):∃cB,ai.get? b=some {dc with slots:=cB}:=by
 by_cases aa:b∈aA
 ·exact u.slot b dc q n aa hx
 ·exact⟨dc.slots,u.keep b dc q n aa hx⟩
def fU.kept(k:∀b u,h.get? b=some u->h'.get? b=some u):fU aA ex H H h h':=
 ⟨λb dc q _ _ _=>k b dc q,λb dc q _ _ _=>⟨dc.slots,k b dc q⟩,λ_ _ _ n _=>n,λb dc q _=>⟨dc,k b dc q⟩,λ_ _ q=>q,λ_ _ _ q=>q,λ_ ps q=>⟨#[],by rw[q];simp⟩⟩
def fU.refl:fU aA ex H H h h:=fU.kept λ_ _ q=>q
def fU.laid(k:∀b u,h.get? b=some u->h'.get? b=some u)(aN:h.objs.size<=a)(a5:H a=none):fU aA ex H (upd H a o) h h' where
 keep:=λb u q _ _ _=>k b u q
 slot:=λb u q _ _ _=>⟨u.slots,k b u q⟩
 free:=λb u q n _=>by rw[cK (ez (iU (cT q) aN))];exact n
 there:=λb u q _=>⟨u,k b u q⟩
 kQ:=λb xs q=>by rw[cK (iW q a5)];exact q
 kg:=λb u xs q=>by rw[cK (iW q a5)];exact q
 km:=λb ps q=>⟨#[],by rw[cK (iW q a5),q];simp⟩
def fU.write(amH:wo (H x))(he:e=x\/H e=some (.own x))(k:∀b u,b≠e->h.get? b=some u->h'.get? b=some u)(u1:∃u,h'.get? e=some u):fU aA ex H (upd H x o) h h':=by
 have hx:∀b,H b=none->b≠x:=λb n z=>by subst z;rw[n] at amH;exact amH
 have aa:∀b,H b=none->b≠e:=λb n z=>by
  subst z;rcases he with r|r
  ·exact hx b n r
  ·rw[n] at r;cases r
 have hm:∀b u,H b=some u->¬wo (some u)->b≠x:=λb u q nm z=>by subst z;rw[q] at amH;exact nm amH
 refine⟨λb u q n _ _=>k b u (aa b n) q,λb u q n _ _=>⟨u.slots,k b u (aa b n) q⟩,λb u q n _=>by rw[cK (hx b n)];exact n,λb u q _=>?_,
  λb xs q=>by rw[cK (hm b _ q λz=>z)];exact q,λb u xs q=>by rw[cK (hm b _ q λz=>z)];exact q,λb ps q=>⟨#[],by rw[cK (hm b _ q λz=>z),q];simp⟩⟩
 by_cases sU:b=e
 ·subst sU;exact u1
 ·exact⟨u,k b u sU q⟩
end
noncomputable def BG(h:bz)(H:aw):List af:=(List.range h.objs.size).filter λa=>(H a).isSome
noncomputable def oZ(h:bz)(H:aw):bz:=PySem.W.hideAll h (BG h H)
def aiv(h:bz)(H:aw):(oZ h H).objs.size=h.objs.size:=PySem.W.hideAll_size _ _
def ajv{h:bz}{H:aw}{b:af}{o:Obj}(e:h.get? b=some o)(n:H b=none):(oZ h H).get? b=some o:=
 PySem.W.hideAll_get _ e λhm=>by
  have q:(H b).isSome=true:=(List.mem_filter.mp hm).2;rw[n] at q;simp at q
def akg{h:bz}{H:aw}{b:af}{o:Obj}(e:(oZ h H).get? b=some o):h.get? b=some o/\H b=none:=by
 have bP:h.get? b=some o:=PySem.W.of_hideAll (BG h H) e;refine⟨bP,?_⟩;cases q:H b with
|none=>rfl
|some x=>
  have hm:b∈BG h H:=List.mem_filter.mpr ⟨List.mem_range.mpr (cT bP),by simp[q]⟩;have z:(oZ h H).get? b=none:=PySem.W.hideAll_none (BG h H) hm;rw[z] at e;cases e
noncomputable def akH(g h:bz)(L:af):List (af×Obj):=(List.range h.objs.size).filterMap λa=>if a=L\/(g.get? a).isSome=true then none else (h.get? a).map λo=>(a,o)
noncomputable def rest(g h:bz)(L d:af):List (af×Obj):=(akH g h L).filter λp=>decide (p.1≠d)
end a7
namespace a7
open PySem PySem.Spec PyProof.Rows
structure Mod(K:a6)(mg:Str->Option aj)(base:bz):Prop where
 o5:K.In base
 glob:base.Ns jf mg
 blt:∃ll,base.Ns builtinsNs ll/\∀x:Str,x≠"__name__"->ll x=bootBuiltins x
 nolimit:base.NoLimit
structure aV where
 prog:cC
 w:b6
 K:a6
 mg:Str->Option aj
 base:bz
 A:cH
 N:List Str
 c_:aH
 aT:aw
 env:Env
 outer:List Env
 stack:List Env
 ex:List af
 fn:Str->Bool
 calm:Bool
 c8:List (af×Obj)
 di:aj->aH->Prop
def e6(l:List Env):List af:=l.filterMap (·.frame)
abbrev aV.aA(X:aV):List af:=e6 X.outer
noncomputable def l0(sc:Scope)(x:Str):Prop:=sc.names.lookup x=some .local\/sc.names.lookup x=some .cell\/sc.names.lookup x=some .free
noncomputable def Loc(sc:Scope)(x:Str):Prop:=sc.names.lookup x=some .local\/sc.names.lookup x=some .cell
noncomputable def Look(env:Env)(h:bz)(m:Str->Option aj)(x:Str)(u:aj):Prop:=
 (env.kindOf x=some .local/\m x=some u)\/((env.kindOf x=some .cell\/env.kindOf x=some .free)/\∃c,env.cells.lookup x=some c/\h.IsCell c (some u))
structure aV.Ok(X:aV):Prop where
 mod:Mod X.K X.mg X.base
 kind:X.env.scope.kind=.function
 glob:X.env.globals=jf
 blt:X.env.builtins=builtinsNs
 above:X.c_.heap.objs.size<=X.env.locals
 inj:∀x y c,X.env.cells.lookup x=some c->X.env.cells.lookup y=some c->x=y
 has:∀x,(X.env.kindOf x=some .cell\/X.env.kindOf x=some .free)->∃c,X.env.cells.lookup x=some c
 sI:∀x c,X.fn x=true->X.env.cells.lookup x=some c->X.c_.heap.objs.size<=c
 hd:X.calm=true->X.A.handled=none
 frames:X.A.frames=some X.stack
 amQ:X.stack=X.outer\/(X.stack=X.env::X.outer/\X.env.frame=some X.env.locals)
 q5:∀b∈X.ex,b≠X.env.locals/\∀x c,X.env.cells.lookup x=some c->c≠b
 bs:∀b o,X.base.get? b=some o->X.c_.heap.get? b=some o/\X.aT b=none
 nG:X.base.objs.size<=X.c_.heap.objs.size
 tg:∀b o,X.base.get? b=some o->b∉X.ex
 q6:∀b∈X.ex,b∉X.aA
 kJ:X.c_.heap.FunFrames X.base X.outer
 oU:∀b∈X.aA,X.aT b=none
structure Inv(X:aV)(ah:List (af×Obj))(σ:List (Option V))(H:aw)(s:aH):Prop where
 ok:X.Ok
 os:s.os=X.c_.os
 bare:AllBare s.gens
 base:fU X.aA X.ex X.aT H X.c_.heap s.heap
 loc:∃m,s.heap.Ns X.env.locals m/\∀(i:Nat) (x:Str) (v:V),X.N[i]?=some x->σ[i]?=some (some v)->l0 X.env.scope x->∃u,RelV v u/\Look X.env s.heap m x u
 cell:∀x c,X.env.cells.lookup x=some c->∃v,s.heap.IsCell c v
 free:H X.env.locals=none
 jS:∀x c,X.env.cells.lookup x=some c->H c=none
 pin:∀p∈X.c8++ah,s.heap.get? p.1=some p.2/\H p.1=none/\p.1≠X.env.locals/\p.1∉X.aA/\∀v,p.2.data≠.cell v
 bJ:eC X.prog X.w H s.heap
 len:σ.length=X.N.length
section
variable {X:aV}{ah:List (af×Obj)}{σ:List (Option V)}{H ae:aw}{s:aH}{h':bz}
def aV.Ok.abu(ok:X.Ok){b:af}{o:Obj}(e:X.base.get? b=some o):b∉X.aA:=λaa=>by
 have:=(ok.kJ.mem aa).1;rw[e] at this;cases this
theorem Inv.bs(I:Inv X ah σ H s):∀b o,X.base.get? b=some o->s.heap.get? b=some o/\H b=none:=λb o e=>
 ⟨I.base.keep b o (I.ok.bs b o e).1 (I.ok.bs b o e).2 (I.ok.abu e) (I.ok.tg b o e),I.base.free b o (I.ok.bs b o e).1 (I.ok.bs b o e).2 (I.ok.tg b o e)⟩
def Inv.gx(I:Inv X ah σ H s):∀b o,X.base.get? b=some o->s.heap.get? b=some o:=λb o e=>(I.bs b o e).1
theorem Inv.mod(I:Inv X ah σ H s):Mod X.K X.mg X.base:=I.ok.mod
def Inv.jx(I:Inv X ah σ H s):X.K.In s.heap:=I.ok.mod.o5.keeps I.gx
theorem Inv.lt(I:Inv X ah σ H s):X.env.locals<s.heap.objs.size:=let ⟨_,a5,_⟩:=I.loc;a5.lt
def Inv.iO(I:Inv X ah σ H s):X.c_.heap.objs.size<=s.heap.objs.size:=mn I.ok.above (Nat.le_of_lt I.lt)
def Inv.abw(I:Inv X ah σ H s){a:af}(h:s.heap.objs.size<=a):a∉X.aA:=λaa=>by
 obtain⟨_,o,aF,_⟩:=I.ok.kJ.mem aa;exact absurd (iU (cT aF) (mn I.iO h)) (Nat.lt_irrefl _)
def Inv.nJ(I:Inv X ah σ H s):∀x c,X.env.cells.lookup x=some c->c≠X.env.locals:=λx c e z=>by
 obtain⟨v,o,aF,hd⟩:=I.cell x c e;obtain⟨m,⟨o',es,ep,ki,GG,_⟩,_⟩:=I.loc;rw[z,ki] at aF;cases aF;rw[GG] at hd;cases hd
theorem Inv.kJ(I:Inv X ah σ H s):s.heap.FunFrames X.base X.outer:=by
 have all:∀(l:List Env),(∀b∈e6 l,b∈X.aA)->X.c_.heap.FunFrames X.base l->s.heap.FunFrames X.base l:=by
  intro l
  induction l with
  |nil=>intro _ _;trivial
  |cons env r b1=>
   intro av aE;obtain⟨aK,⟨L,o,hf,a5,aF,hd⟩,ax⟩:=aE;have hb:L∈X.aA:=av L (by unfold e6;rw[List.filterMap_cons,hf];exact gb);obtain⟨cB,e⟩:=I.base.slot L o aF (I.ok.oU L hb) hb λz=>I.ok.q6 L z hb;exact⟨aK,⟨L,_,hf,a5,e,hd⟩,b1 (λb aa=>av b (by unfold e6;rw[List.filterMap_cons,hf];exact dR _ aa)) ax⟩
 exact all X.outer (λ_ aa=>aa) I.ok.kJ
theorem Inv.stack(I:Inv X ah σ H s):s.heap.FunFrames X.base X.stack:=by
 rcases I.ok.amQ with e|⟨e,hf⟩
 ·rw[e];exact I.kJ
 ·rw[e];obtain⟨m,a5,_⟩:=I.loc;refine .cons (by rw[I.ok.kind];decide) hf a5 ?_ I.kJ;exact Heap.get?_none_of_le (mn I.ok.nG I.ok.above)
def Inv.xF(I:Inv X ah σ H s):∀b∈e6 X.stack,b∈X.env.locals::X.aA:=λb aa=>by
 rcases I.ok.amQ with e|⟨e,hf⟩
 ·rw[e] at aa;exact dR _ aa
 ·rw[e] at aa;unfold e6 at aa;rw[List.filterMap_cons,hf] at aa;exact aa
def Inv.J6(I:Inv X ah σ H s):∀b∈e6 X.stack,H b=none:=λb aa=>by
 rcases cM.mp (I.xF b aa) with e|aa
 ·rw[e];exact I.free
 ·obtain⟨_,o,aF,_⟩:=I.ok.kJ.mem aa;exact I.base.free b o aF (I.ok.oU b aa) λz=>I.ok.q6 b z aa
def Inv.step{g':Array GenState}{t':Nat}{d':Drawn}{ch:List af}(I:Inv X ah σ H s)
  (oW:∀b∈ch,(b∈X.ex\/X.c_.heap.objs.size<=b)/\b≠X.env.locals/\(∀x c,X.env.cells.lookup x=some c->c≠b)/\∀p∈X.c8++ah,p.1≠b)
  (keep:∀b o,b≠X.env.locals->b∉X.aA->b∉ch->s.heap.get? b=some o->H b=none->h'.get? b=some o)
  (slot:∀b o,b≠X.env.locals->b∈X.aA->b∉ch->s.heap.get? b=some o->H b=none->∃cB,h'.get? b=some {o with slots:=cB}) (free:∀b o,b∉ch->s.heap.get? b=some o->H b=none->ae b=none)
  (there:∀b o,b∉ch->s.heap.get? b=some o->∃o',h'.get? b=some o')
  (kQ:∀b xs,H b=some (.tup xs)->ae b=some (.tup xs)) (kg:∀b o u,H b=some (.nS o u)->ae b=some (.nS o u)) (km:∀b ps,H b=some (.h4 ps)->∃more,ae b=some (.h4 (ps++more)))
  (ns:∀m,s.heap.Ns X.env.locals m->h'.Ns X.env.locals m) (bJ:eC X.prog X.w ae h') (bt:AllBare g'):
  Inv X ah σ ae {s with heap:=h',gens:=g',drawn:=d',toks:=t'}:=by
 have Pw:∀b o,X.c_.heap.get? b=some o->b≠X.env.locals:=λb o e=>ez (iU (cT e) I.ok.above);have tf:∀b o,X.c_.heap.get? b=some o->b∉X.ex->b∉ch:=λb o e hx aa=>by
  rcases (oW b aa).1 with z|z
  ·exact hx z
  ·exact absurd (iU (cT e) z) (Nat.lt_irrefl _)
 have cellK:∀x c,X.env.cells.lookup x=some c->∀v,s.heap.IsCell c v->h'.IsCell c v:=λx c e v ⟨o,aF,hd⟩=>by
  have am':c∉ch:=λz=>(oW c z).2.2.1 x c e rfl;by_cases au:c∈X.aA
  ·obtain⟨cB,q⟩:=slot c o (I.nJ x c e) au am' aF (I.jS x c e);exact⟨_,q,hd⟩
  ·exact⟨o,keep c o (I.nJ x c e) au am' aF (I.jS x c e),hd⟩
 refine⟨I.ok,I.os,bt,⟨λb o e n aa hx=>?_,λb o e n aa hx=>?_,λb o e n hx=>?_,λb o e hx=>?_,λb xs e=>kQ b xs (I.base.kQ b xs e),λb o xs e=>kg b o xs (I.base.kg b o xs e),λb ps e=>?_⟩,?_,λx c e=>?_,?_,λx c e=>?_,λp aN=>?_,bJ,I.len⟩
 ·exact keep b o (Pw b o e) aa (tf b o e hx) (I.base.keep b o e n aa hx) (I.base.free b o e n hx)
 ·obtain⟨cB,aD⟩:=I.base.slot b o e n aa hx;obtain⟨Bu,aL⟩:=slot b _ (Pw b o e) aa (tf b o e hx) aD (I.base.free b o e n hx);exact⟨Bu,aL⟩
 ·obtain⟨o',aD⟩:=I.base.there b o e hx;exact free b o' (tf b o e hx) aD (I.base.free b o e n hx)
 ·obtain⟨o',aD⟩:=I.base.there b o e hx;exact there b o' (tf b o e hx) aD
 ·obtain⟨eX,aD⟩:=I.base.km b ps e;obtain⟨o_,aL⟩:=km b _ aD;exact⟨eX++o_,by rw[aL,Array.append_assoc]⟩
 ·obtain⟨m,a5,aE⟩:=I.loc;refine⟨m,ns m a5,λi x v aD aL eM=>?_⟩;obtain⟨u,r,l⟩:=aE i x v aD aL eM;refine⟨u,r,?_⟩;rcases l with l|⟨k,c,e,z⟩
  ·exact .inl l
  ·exact .inr ⟨k,c,e,cellK x c e _ z⟩
 ·obtain⟨v,z⟩:=I.cell x c e;exact⟨v,cellK x c e v z⟩
 ·obtain⟨m,⟨o,_,_,aF,_⟩,_⟩:=I.loc;exact free _ o (λz=>(oW _ z).2.1 rfl) aF I.free
 ·obtain⟨v,o,aF,hd⟩:=I.cell x c e;exact free c o (λz=>(oW c z).2.2.1 x c e rfl) aF (I.jS x c e)
 ·obtain⟨e,n,ne,jy,d⟩:=I.pin p aN;have am':p.1∉ch:=λz=>(oW p.1 z).2.2.2 p aN rfl;exact⟨keep p.1 p.2 ne jy am' e n,free p.1 p.2 am' e n,ne,jy,d⟩
def Inv.un{t':Nat}(I:Inv X ah σ H s)(u:fU X.aA [] H ae s.heap h')(bJ:eC X.prog X.w ae h'):Inv X ah σ ae {s with heap:=h',toks:=t'}:=by
 obtain⟨m,⟨o,es,ep,aF,r⟩,_⟩:=id I.loc;obtain⟨cB,hb⟩:=u.any aF I.free (by simp);exact I.step (g':=s.gens) (d':=s.drawn) (ch:=[]) (λ_ z=>nomatch z) (λb o _ aa _ e n=>u.keep b o e n aa (by simp)) (λb o _ aa _ e n=>u.slot b o e n aa (by simp)) (λb o _ e n=>u.free b o e n (by simp)) (λb o _ e=>u.there b o e (by simp)) u.kQ u.kg u.km (λo9 hm=>by
  obtain⟨o',hu,F9,ki,cq⟩:=hm;rw[aF] at ki;cases ki;exact⟨_,hu,F9,hb,cq⟩) bJ I.bare
def Inv.call{g':Array GenState}{t':Nat}{d':Drawn}{ch:List af}(I:Inv X ah σ H s)(u:fU (e6 X.stack) ch H ae s.heap h')(bJ:eC X.prog X.w ae h')(bt:AllBare g')
  (oW:∀b∈ch,(b∈X.ex\/X.c_.heap.objs.size<=b)/\b≠X.env.locals/\(∀x c,X.env.cells.lookup x=some c->c≠b)/\∀p∈X.c8++ah,p.1≠b):
  Inv X ah σ ae {s with heap:=h',gens:=g',drawn:=d',toks:=t'}:=by
 obtain⟨m,⟨o,es,ep,aF,r⟩,_⟩:=id I.loc;obtain⟨cB,hb⟩:=u.any aF I.free λz=>(oW _ z).2.1 rfl;exact I.step (ch:=ch) oW (λb o hb aa au e n=>u.keep b o e n (λz=>(cM.mp (I.xF b z)).elim hb aa) au) (λb o _ _ au e n=>u.any e n au) (λb o au e n=>u.free b o e n au) (λb o au e=>u.there b o e au) u.kQ u.kg u.km (λo9 hm=>by
  obtain⟨o',hu,F9,ki,cq⟩:=hm;rw[aF] at ki;cases ki;exact⟨_,hu,F9,hb,cq⟩) bJ bt
def Inv.turned{t':Nat}{it:af}(I:Inv X ah σ H s)(k:∀b o,b≠it->s.heap.get? b=some o->h'.get? b=some o)(a5:H it=none)(hb:it≠X.env.locals)
  (ai:it∈X.ex\/X.c_.heap.objs.size<=it) (ao:∀x c,X.env.cells.lookup x=some c->c≠it) (bE:∀p∈X.c8++ah,p.1≠it):Inv X ah σ H {s with heap:=h',toks:=t'}:=by
 have Pz:∀b u,H b=some u->b≠it:=λb u e z=>by rw[z,a5] at e;cases e
 refine I.step (g':=s.gens) (d':=s.drawn) (ch:=[it]) (λb aa=>?_) (λb o _ _ au e _=>k b o (λz=>au (by simp[z])) e) (λb o _ _ au e _=>⟨o.slots,k b o (λz=>au (by simp[z])) e⟩) (λ_ _ _ _ n=>n)
  (λb o au e=>⟨o,k b o (λz=>au (by simp[z])) e⟩) (λ_ _ e=>e) (λ_ _ _ e=>e) (λb ps e=>⟨#[],by rw[e];simp⟩) (λm hm=>?_) (λb u e=>?_) I.bare
 ·have e:b=it:=by simpa using aa
  subst e;exact⟨ai,hb,ao,bE⟩
 ·obtain⟨o,es,ep,aF,r⟩:=hm;exact⟨o,es,ep,k _ o (Ne.symm hb) aF,r⟩
 ·refine (I.bJ b u e).jd (λc v au q=>k c v ?_ q) (λ_ q=>q) λ_ _ q=>q
  rcases au with z|z
  ·rw[z];exact Pz b u e
  ·exact Pz c _ z
def Inv.tok(I:Inv X ah σ H s)(t:Nat):Inv X ah σ H {s with toks:=t}:=I.un (h':=s.heap) (t':=t) fU.refl I.bJ
theorem Inv.kept{t':Nat}(I:Inv X ah σ H s)(k:∀b u,s.heap.get? b=some u->h'.get? b=some u):Inv X ah σ H {s with heap:=h',toks:=t'}:=I.un (fU.kept k) (I.bJ.kept k)
theorem Inv.laid{a:af}{o:d7}{t':Nat}(I:Inv X ah σ H s)(k:∀b u,s.heap.get? b=some u->h'.get? b=some u)(aN:s.heap.objs.size<=a)(new:hn X.prog X.w (upd H a o) h' a o):
  Inv X ah σ (upd H a o) {s with heap:=h',toks:=t'}:=I.un (fU.laid k aN (I.bJ.fresh aN)) (I.bJ.laid k aN new)
theorem Inv.write{x e:af}{o:d7}{t':Nat}(I:Inv X ah σ H s)(amH:wo (H x))(he:e=x\/H e=some (.own x))(k:∀b u,b≠e->s.heap.get? b=some u->h'.get? b=some u)(u1:∃u,h'.get? e=some u)
  (new:hn X.prog X.w (upd H x o) h' x o):Inv X ah σ (upd H x o) {s with heap:=h',toks:=t'}:=I.un (fU.write amH he k u1) (I.bJ.write amH he k u1 new)
def Inv.PO{PN:List (af×Obj)}(I:Inv X ah σ H s)(h:∀p∈PN,s.heap.get? p.1=some p.2/\H p.1=none/\p.1≠X.env.locals/\p.1∉X.aA/\∀v,p.2.data≠.cell v):Inv X PN σ H s:=
 ⟨I.ok,I.os,I.bare,I.base,I.loc,I.cell,I.free,I.jS,λp aN=>(j2.mp aN).elim (λz=>I.pin p (List.mem_append_left _ z)) (h p),I.bJ,I.len⟩
def LQ{N:List Str}(dp:N.Nodup){i j:Nat}{x:Str}(a:N[i]?=some x)(b:N[j]?=some x):i=j:=by
 obtain⟨ai,aD⟩:=gH.mp a;obtain⟨ao,aL⟩:=gH.mp b;exact (List.getElem_inj dp).mp (aD.trans aL.symm)
def CS{M:Model}{A:cH}{E:aj->aH->Prop}{i:Nat}{x:Str}{v:V}{u:aj}{Q:Unit->aH->Prop}(I:Inv X ah σ H s)(dp:X.N.Nodup)(aM:X.N[i]?=some x)(hx:Loc X.env.scope x)(r:RelV v u)
  (h:∀s',Inv X ah (σ.set i (some v)) H s'->(∃a,Heap.SameBut a s.heap s'.heap/\(a=X.env.locals\/X.env.cells.lookup x=some a))->Q () s') (hf:X.fn x=true\/X.env.scope.names.lookup x=some .local:=by first|exact .inl rfl|exact .inr rfl|assumption):bc M A (storeName X.env x u) Q E s:=by
 obtain⟨m,a5,aE⟩:=id I.loc;have Z4:(X.env.scope.kind==.class || (X.env.scope.kind==.module && X.env.locals != X.env.globals))=false:=by rw[I.ok.kind];rfl
 have Ag:i<σ.length:=by rw[I.len];exact (gH.mp aM).1
 have nJ:=I.nJ;have tracked:∀{a:af} {h':bz},(∃o,s.heap.get? a=some o/\H a=none)->Heap.SameBut a s.heap h'->eC X.prog X.w H h':=λ{a h'} aB av b dc e=>by
  obtain⟨_,_,OV⟩:=aB;refine (I.bJ b dc e).jd (λc fs au q=>(av.2 c ?_).trans q) (λ_ q=>q) λ_ _ q=>q;rintro rfl;rcases au with rfl|au
  ·rw[OV] at e;cases e
  ·rw[OV] at au;cases au
 rcases hx with aK|aK
 ·refine wpAny_storeName_local aK a5 (λh' O0 av=>?_) Z4
  obtain⟨oL,_,_,rh,_⟩:=id a5;refine h _ ⟨I.ok,I.os,I.bare,⟨λb o e n aa hx=>?_,λb o e n aa hx=>?_,I.base.free,λb o e hx=>?_,I.base.kQ,I.base.kg,I.base.km⟩,⟨_,O0,λj y je aD aL eM=>?_⟩,λy c e=>?_,I.free,I.jS,λp aN=>?_,tracked ⟨oL,rh,I.free⟩ av,by simpa using I.len⟩ ⟨_,av,.inl rfl⟩
  ·exact (av.2 b (ez (iU (cT e) I.ok.above))).trans (I.base.keep b o e n aa hx)
  ·obtain⟨cB,aD⟩:=I.base.slot b o e n aa hx;exact⟨cB,(av.2 b (ez (iU (cT e) I.ok.above))).trans aD⟩
  ·obtain⟨o',aD⟩:=I.base.there b o e hx;exact⟨o',(av.2 b (ez (iU (cT e) I.ok.above))).trans aD⟩
  ·by_cases bI:j=i
   ·subst bI;rw[aM] at aD;cases aD;rw[List.getElem?_set_self Ag] at aL;cases aL;exact⟨u,r,.inl ⟨aK,by simp⟩⟩
   ·rw[List.getElem?_set_ne (Ne.symm bI)] at aL;obtain⟨tD,cq,q⟩:=aE j y je aD aL eM;refine⟨tD,cq,?_⟩;rcases q with ⟨k,e⟩|⟨k,c,e,z⟩
    ·refine .inl ⟨k,?_⟩
     have:y≠x:=λe=>bI (LQ dp aD (e▸aM));simp[this,e]
    ·exact .inr ⟨k,c,e,z.sameBut av (nJ y c e)⟩
  ·obtain⟨fs,z⟩:=I.cell y c e;exact⟨fs,z.sameBut av (nJ y c e)⟩
  ·obtain⟨e,n,ne,jy,d⟩:=I.pin p aN;exact⟨(av.2 p.1 ne).trans e,n,ne,jy,d⟩
 ·have GO:X.fn x=true:=by
   rcases hf with z|z
   ·exact z
   ·rw[z] at aK;cases aK
  obtain⟨c,au⟩:=I.ok.has x (.inl aK);obtain⟨fs,z⟩:=I.cell x c au;refine wpAny_storeName_cell I.ok.kind aK au z (λh' da av=>?_);obtain⟨gD,O3,_D⟩:=id z;refine h {s with heap:=h'} ⟨I.ok,I.os,I.bare,⟨λb o e n aa hx=>?_,λb o e n aa hx=>?_,I.base.free,λb o e hx=>?_,I.base.kQ,I.base.kg,I.base.km⟩,⟨m,a5.sameBut av (Ne.symm (nJ x c au)),λj y je aD aL eM=>?_⟩,λy bW e=>?_,I.free,I.jS,λp aN=>?_,tracked ⟨gD,O3,I.jS x c au⟩ av,by simpa using I.len⟩ ⟨c,av,.inr au⟩
  ·exact (av.2 b (ez (iU (cT e) (I.ok.sI x c GO au)))).trans (I.base.keep b o e n aa hx)
  ·obtain⟨cB,aD⟩:=I.base.slot b o e n aa hx;exact⟨cB,(av.2 b (ez (iU (cT e) (I.ok.sI x c GO au)))).trans aD⟩
  ·obtain⟨o',aD⟩:=I.base.there b o e hx;exact⟨o',(av.2 b (ez (iU (cT e) (I.ok.sI x c GO au)))).trans aD⟩
  ·by_cases bI:j=i
   ·subst bI;rw[aM] at aD;cases aD;rw[List.getElem?_set_self Ag] at aL;cases aL;exact⟨u,r,.inr ⟨.inl aK,c,au,da⟩⟩
   ·rw[List.getElem?_set_ne (Ne.symm bI)] at aL;obtain⟨tD,cq,q⟩:=aE j y je aD aL eM;refine⟨tD,cq,?_⟩;rcases q with q|⟨k,bW,e,j5⟩
    ·exact .inl q
    ·refine .inr ⟨k,bW,e,j5.sameBut av ?_⟩
     rintro rfl;exact bI (LQ dp aD (I.ok.inj _ _ _ e au▸aM))
  ·by_cases OO:bW=c
   ·subst OO;exact⟨_,da⟩
   ·obtain⟨xM,gg⟩:=I.cell y bW e;exact⟨xM,gg.sameBut av OO⟩
  ·obtain⟨e,n,ne,jy,d⟩:=I.pin p aN;refine⟨(av.2 p.1 ?_).trans e,n,ne,jy,d⟩;intro q;rw[q,O3] at e;have el:gD=p.2:=fF e;exact d fs (by rw[<- el];exact _D)
def LJ{M:Model}{A:cH}{E:aj->aH->Prop}{i:Nat}{x:Str}{v:V}{u:aj}{Q:Unit->aH->Prop}(I:Inv X ah σ H s)(dp:X.N.Nodup)(aM:X.N[i]?=some x)(hx:Loc X.env.scope x)(r:RelV v u)
  (h:∀s',Inv X ah (σ.set i (some v)) H s'->Q () s') (hf:X.fn x=true\/X.env.scope.names.lookup x=some .local:=by first|exact .inl rfl|exact .inr rfl|assumption):bc M A (storeName X.env x u) Q E s:=
 CS I dp aM hx r (λs' pR _=>h s' pR) hf
def Inv.Nn{s':aH}{ch:List af}(I:Inv X ah σ H s)(aF:s'.os=s.os)(u:fU (e6 X.stack) ch H ae s.heap s'.heap)(bJ:eC X.prog X.w ae s'.heap)(bt:AllBare s'.gens)
  (oW:∀b∈ch,(b∈X.ex\/X.c_.heap.objs.size<=b)/\b≠X.env.locals/\(∀x c,X.env.cells.lookup x=some c->c≠b)/\∀p∈X.c8++ah,p.1≠b):Inv X ah σ ae s':=by
 obtain⟨h',g',d',t',o'⟩:=s';have e:o'=s.os:=aF;subst e;exact I.call (g':=g') (t':=t') (d':=d') u bJ bt oW
end
abbrev e0:=aj->Option af->aw->Prop
abbrev St:=List (Option V)
abbrev c0:=V->aw->Prop
abbrev TE:=St->aw->c0->Prop
abbrev TT:=St->aw->(Bool->aw->Prop)->Prop
abbrev gi:=St->aw->(List V->aw->Prop)->Prop
structure Ends where
 bO:St->aw->Prop
 er:c0
 gx:St->aw->Prop:=λ_ _=>False
 cR:St->aw->Prop:=λ_ _=>False
abbrev f3:=Ends->St->aw->Prop
noncomputable def ig(X:aV)(ah:List (af×Obj))(σ:St)(Q:c0)(u:aj)(s':aH):Prop:=∃v ae,Inv X ah σ ae s'/\RelV v u/\Q v ae
noncomputable def zg(X:aV)(ah:List (af×Obj))(σ:St)(Q:Bool->aw->Prop)(b:Bool)(s':aH):Prop:=∃ae,Inv X ah σ ae s'/\Q b ae
noncomputable def US(X:aV)(ah:List (af×Obj))(σ:St)(Q:List V->aw->Prop)(us:List aj)(s':aH):Prop:=∃vs ae,Inv X ah σ ae s'/\Vals vs us/\Q vs ae
noncomputable def oK(X:aV)(ah:List (af×Obj))(D:Ends)(f:Flow)(s':aH):Prop:=
 match f with
|.next=>∃ct ae,Inv X ah ct ae s'/\D.bO ct ae
|.brk=>∃ct ae,Inv X ah ct ae s'/\D.gx ct ae
|.cont=>∃ct ae,Inv X ah ct ae s'/\D.cR ct ae
|.ret u=>∃v ct ae,Inv X ah ct ae s'/\RelV v u/\D.er v ae
noncomputable def bK(X:aV)(e:bq)(t:TE):Prop:=
 ∀(ah:List (af×Obj)) (s:aH) (σ:St) (H:aw) (Q:c0),Inv X ah σ H s->t σ H Q->bc (bu X.prog X.w) X.A (eval e X.env) (ig X ah σ Q) X.di s
noncomputable def iE(X:aV)(e:bq)(t:TT):Prop:=
 ∀(ah:List (af×Obj)) (s:aH) (σ:St) (H:aw) (Q:Bool->aw->Prop),Inv X ah σ H s->t σ H Q->bc (bu X.prog X.w) X.A (isTrue e X.env (eval e X.env)) (zg X ah σ Q) X.di s
noncomputable def nC(X:aV)(e:bq)(t:TT):Prop:=
 ∀(whole:Sem aj) (ah:List (af×Obj)) (s:aH) (σ:St) (H:aw) (Q:Bool->aw->Prop),Inv X ah σ H s->t σ H Q->bc (bu X.prog X.w) X.A (isTrue e X.env whole) (zg X ah σ Q) X.di s
def nC.pt{X:aV}{e:bq}{t:TT}(h:nC X e t):iE X e t:=h _
noncomputable def hp(X:aV)(es:List bq)(t:gi):Prop:=
 ∀(pos:Pos) (ah:List (af×Obj)) (s:aH) (σ:St) (H:aw) (Q:List V->aw->Prop),Inv X ah σ H s->t σ H Q->bc (bu X.prog X.w) X.A (spliced (dZ pos (bB es X.env))) (US X ah σ Q) X.di s
noncomputable def jr(X:aV)(st:Stmt)(t:f3):Prop:=
 ∀(ah:List (af×Obj)) (s:aH) (σ:St) (H:aw) (D:Ends),Inv X ah σ H s->t D σ H->bc (bu X.prog X.w) X.A (exec st X.env) (oK X ah D) X.di s
noncomputable def fT(X:aV)(st:List Stmt)(t:f3):Prop:=
 ∀(ah:List (af×Obj)) (s:aH) (σ:St) (H:aw) (D:Ends),Inv X ah σ H s->t D σ H->bc (bu X.prog X.w) X.A (execs st X.env) (oK X ah D) X.di s
def cJ{α:Type}{t:Sem α}{Q zf:α->aH->Prop}{M:Model}{A:cH}{E:aj->aH->Prop}{s:aH}(h:bc M A t Q E s)(i3:∀a s,Q a s->zf a s):bc M A t zf E s:=eK h i3 λ_ _ x=>x
end a7
namespace a7
open PySem PySem.Spec PyProof.Rows
section
variable {X:aV}
noncomputable def fB(i:Nat):TE:=λσ H Q=>∃v,σ[i]?=some (some v)/\Q v H
def jA(v:V):TE:=λ_ H Q=>Q v H
def ak7{i:Nat}{x:Str}{pos:Pos}(dp:X.N[i]?=some x)(bo:l0 X.env.scope x)(hd:(x==("__debug__":Str))=false:=by decide)(fz:(x==("__classdict__":Str))=false:=by decide):bK X (.Name x pos) (fB i):=by
 intro ah s σ H Q I h;obtain⟨v,e,h⟩:=h;obtain⟨m,a5,aE⟩:=I.loc;obtain⟨u,r,l⟩:=aE i x v dp e bo;have fin:ig X ah σ Q u s:=⟨v,H,I,r,h⟩;rcases l with ⟨aK,hm⟩|⟨aK,c,au,q_⟩
 ·exact wpAny_Name (wpAny_loadName_local I.ok.kind aK a5 hm fin) hd
 ·rcases aK with aK|aK
  ·exact wpAny_Name (wpAny_loadName_cell I.ok.kind aK au q_ fin) hd
  ·exact wpAny_Name (wpAny_loadName_free I.ok.kind aK au q_ fin fz) hd
def Mw{i j pos}:bK X (.Constant (.int i) j pos) (jA (.int i)):=λ_ _ _ H _ I h=>wpAny_Constant_int ⟨.int i,H,I.tok _,⟨_,rfl⟩,h⟩
def MK{b j pos}:bK X (.Constant (.bool b) j pos) (jA (.b0 b)):=λ_ _ _ H _ I h=>Constant_bool ⟨.b0 b,H,I,rfl,h⟩
def ak8{j pos}:bK X (.Constant .none j pos) (jA .d3):=λ_ _ _ H _ I h=>Constant_none ⟨.d3,H,I,rfl,h⟩
def yL{x j pos}:bK X (.Constant (.str x) j pos) (jA (.str x)):=λ_ _ _ H _ I h=>Calls.Constant_str ⟨.str x,H,I.tok _,⟨_,rfl⟩,h⟩
noncomputable def ew(X:aV)(x:Str):Prop:=X.env.kindOf x=some .globalImplicit
def ue{E:aj->aH->Prop}{ah:List (af×Obj)}{s:aH}{σ:St}{H:aw}{x:Str}{u:aj}{pos:Pos}{Q:aj->aH->Prop}(I:Inv X ah σ H s)(bt:ew X x)(hm:X.mg x=some u)(h:Q u s)
  (hd:(x==("__debug__":Str))=false:=by decide):bc (bu X.prog X.w) X.A (eval (.Name x pos) X.env) Q E s:=
 Calls.Name_function_global I.ok.kind bt (Calls.loadGlobal_global (by rw[I.ok.glob];exact I.mod.glob.keeps I.gx) hm h) hd
def r8{E:aj->aH->Prop}{ah:List (af×Obj)}{s:aH}{σ:St}{H:aw}{x:Str}{u:aj}{pos:Pos}{Q:aj->aH->Prop}(I:Inv X ah σ H s)(bt:ew X x)(hm:X.mg x=none)(bo:bootBuiltins x=some u)(h:Q u s)
  (a5:x≠"__name__":=by decide) (hd:(x==("__debug__":Str))=false:=by decide):bc (bu X.prog X.w) X.A (eval (.Name x pos) X.env) Q E s:=by
 obtain⟨ll,ai,ao⟩:=I.mod.blt;exact Calls.Name_function_global I.ok.kind bt (Calls.loadGlobal_builtin (by rw[I.ok.glob];exact I.mod.glob.keeps I.gx) hm (by rw[I.ok.blt];exact ai.keeps I.gx) ((ao x a5).trans bo) h) hd
def vM{x:Str}{v:V}{u:aj}{pos:Pos}(bt:ew X x)(hm:X.mg x=some u)(r:RelV v u)(hd:(x==("__debug__":Str))=false:=by decide):bK X (.Name x pos) (jA v):=
 λ_ _ _ H _ I h=>ue I bt hm ⟨v,H,I,r,h⟩ hd
def aj_{x:Str}{v:V}{u:aj}{pos:Pos}(bt:ew X x)(hm:X.mg x=none)(bo:bootBuiltins x=some u)(r:RelV v u)(a5:x≠"__name__":=by decide)(hd:(x==("__debug__":Str))=false:=by decide):bK X (.Name x pos) (jA v):=
 λ_ _ _ H _ I h=>r8 I bt hm bo ⟨v,H,I,r,h⟩ a5 hd
variable {a b:bq}{cF df:TE}{pos:Pos}
noncomputable def Ec(X:aV)(op:CmpOp)(a b:bq)(t:TE):Prop:=
 ∀(ah:List (af×Obj)) (s:aH) (σ:St) (H:aw) (Q:c0),Inv X ah σ H s->t σ H Q ->
  bc (bu X.prog X.w) X.A (eval a X.env) (λv c'=>bc (bu X.prog X.w) X.A (eval b X.env) (λu jz=>bc (bu X.prog X.w) X.A (iz op v u) (ig X ah σ Q) X.di jz) X.di c') X.di s
def aji(b:bq){op:CmpOp}(h:op≠.In)(ao:op≠.NotIn):pz op b=false:=by
 have aD:(op==CmpOp.In)=false:=by cases op <;> first|rfl|exact absurd rfl h
 have aL:(op==CmpOp.NotIn)=false:=by cases op <;> first|rfl|exact absurd rfl ao
 cases b <;> simp[pz,aD,aL]
noncomputable def afN(cF:TE):TE:=λσ H Q=>cF σ H λx H1=>Q (.b0 (decide (x=.d3))) H1
noncomputable def alF(cF:TE):TE:=λσ H Q=>cF σ H λx H1=>Q (.b0 (!decide (x=.d3))) H1
def RelV.PC{x:V}{v:aj}(r:RelV x v):(v==Value.none)=decide (x=.d3):=by
 cases x with
|d3=>cases r;rfl
|b0 _=>cases r;rfl
|int _=>obtain⟨t,rfl⟩:=r;rfl
|str _=>obtain⟨t,rfl⟩:=r;rfl
|l5 _=>obtain⟨t,rfl⟩:=r;rfl
|wK _=>obtain⟨t,rfl⟩:=r;rfl
|ref _=>cases r;rfl
|ty _=>cases r;rfl
def ak_{j pos'}(aB:bK X a cF):Ec X .Is a (.Constant .none j pos') (afN cF):=by
 intro ah s σ H Q I h;refine cJ (aB ah s σ H _ I h) λv s1 ⟨x,H1,a',bj,aP⟩=>?_;exact Constant_none (is_none_gen ⟨.b0 _,H1,a',by rw[bj.PC];rfl,aP⟩)
def aj'{j pos'}(aB:bK X a cF):Ec X .IsNot a (.Constant .none j pos') (alF cF):=by
 intro ah s σ H Q I h;refine cJ (aB ah s σ H _ I h) λv s1 ⟨x,H1,a',bj,aP⟩=>?_;exact Constant_none (isnot_none_gen ⟨.b0 _,H1,a',by rw[bj.PC];rfl,aP⟩)
noncomputable def J8(t:TE):TT:=λσ H Q=>t σ H λx H1=>∃c,x=.b0 c/\Q c H1
def T8{op:CmpOp}{t:TE}(h:Ec X op a b t)(ai:pz op b=false:=by first|exact aji _ (by decide) (by decide)|rfl):iE X (.Compare a [op] [b] pos) (J8 t):=by
 intro ah s σ H Q I hw;refine wpAny_isTrue_Compare1 (cJ (h ah s σ H _ I hw) λv s1 ai=>cJ ai λu s2 ao=>cJ ao λc s3 ⟨x,H1,a',bj,aP⟩=>?_) ai;obtain⟨d,rfl,q⟩:=aP;cases bj;exact am6 ⟨H1,a',q⟩
def T7{e:bq}{t:TE}(h:bK X e t)(he:∀whole,isTrue e X.env whole=(do let v <- whole;standAt e.pos;holding [v] (truthy v)):=by intro _;rfl):iE X e (J8 t):=by
 intro ah s σ H Q I hw;refine isTrue_plain (cJ (h ah s σ H _ I hw) λv s1 ⟨x,H1,a',bj,aP⟩=>?_) (he _);obtain⟨d,rfl,q⟩:=aP;cases bj;exact am6 ⟨H1,a',q⟩
variable {m3 By:TT}{rest:List bq}
noncomputable def Qe(t u:TT):TT:=λσ H Q=>t σ H λc H1=>if c=true then u σ H1 Q else Q false H1
noncomputable def afP(t u:TT):TT:=λσ H Q=>t σ H λc H1=>if c=true then Q true H1 else u σ H1 Q
noncomputable def afO(t:TT):TT:=λσ H Q=>t σ H λc H1=>Q (!c) H1
def To(aB:iE X a m3):nC X (.BoolOp .And [a] pos) m3:=by
 intro xN ah s σ H Q I h;refine isTrue_and (cJ (aB ah s σ H Q I h) λc s1 e=>?_);cases c with
|true=>exact isTrue_and_nil e
|false=>exact e
def akZ(aB:iE X a m3):nC X (.BoolOp .Or [a] pos) m3:=by
 intro xN ah s σ H Q I h;refine isTrue_or (cJ (aB ah s σ H Q I h) λc s1 e=>?_);cases c with
|false=>exact isTrue_or_nil e
|true=>exact e
def T6(aB:iE X a m3)(aa:nC X (.BoolOp .And (b::rest) pos) By):nC X (.BoolOp .And (a::b::rest) pos) (Qe m3 By):=by
 intro xN ah s σ H Q I h;refine isTrue_and (cJ (aB ah s σ H _ I h) λc s1 ⟨H1,a',aP⟩=>?_);cases c with
|true=>exact aa xN ah s1 σ H1 Q a' aP
|false=>exact⟨H1,a',aP⟩
def alW(aB:iE X a m3)(aa:nC X (.BoolOp .Or (b::rest) pos) By):nC X (.BoolOp .Or (a::b::rest) pos) (afP m3 By):=by
 intro xN ah s σ H Q I h;refine isTrue_or (cJ (aB ah s σ H _ I h) λc s1 ⟨H1,a',aP⟩=>?_);cases c with
|true=>exact⟨H1,a',aP⟩
|false=>exact aa xN ah s1 σ H1 Q a' aP
def ak2(aB:iE X a m3):iE X (.UnaryOp .Not a pos) (afO m3):=by
 intro ah s σ H Q I h;exact isTrue_not (aB ah s σ H (λc H1=>Q (!c) H1) I h)
noncomputable def alK(cF df:TE):TE:=λσ H Q=>cF σ H λx H1=>∃c,x=.b0 c/\if c=true then df σ H1 Q else Q (.b0 false) H1
noncomputable def afQ(cF df:TE):TE:=λσ H Q=>cF σ H λx H1=>∃c,x=.b0 c/\if c=true then Q (.b0 true) H1 else df σ H1 Q
def T9{op}{t:TE}(h:bK X a t):bK X (.BoolOp op [a] pos) t:=λah s σ H Q I hw=>BoolOp_one (h ah s σ H Q I hw)
def ak9(aB:bK X a cF)(aa:bK X (.BoolOp .And (b::rest) pos) df):bK X (.BoolOp .And (a::b::rest) pos) (alK cF df):=by
 intro ah s σ H Q I h;refine BoolOp_and (cJ (aB ah s σ H _ I h) λv s1 ⟨x,H1,a',bj,aP⟩=>?_);obtain⟨c,rfl,aP⟩:=aP;cases bj;refine am6 ?_;cases c with
|true=>exact aa ah s1 σ H1 Q a' aP
|false=>exact⟨.b0 false,H1,a',rfl,aP⟩
def alY(aB:bK X a cF)(aa:bK X (.BoolOp .Or (b::rest) pos) df):bK X (.BoolOp .Or (a::b::rest) pos) (afQ cF df):=by
 intro ah s σ H Q I h;refine BoolOp_or (cJ (aB ah s σ H _ I h) λv s1 ⟨x,H1,a',bj,aP⟩=>?_);obtain⟨c,rfl,aP⟩:=aP;cases bj;refine am6 ?_;cases c with
|false=>exact aa ah s1 σ H1 Q a' aP
|true=>exact⟨.b0 true,H1,a',rfl,aP⟩
noncomputable def afM(t:TT)(cF df:TE):TE:=λσ H Q=>t σ H λc H1=>if c=true then cF σ H1 Q else df σ H1 Q
def ai9{c:bq}(au:iE X c m3)(aB:bK X a cF)(aa:bK X b df):bK X (.IfExp c a b pos) (afM m3 cF df):=by
 intro ah s σ H Q I h;refine wpAny_IfExp (cJ (au ah s σ H _ I h) λd s1 ⟨H1,a',aP⟩=>?_);cases d with
|true=>exact aB ah s1 σ H1 Q a' aP
|false=>exact aa ah s1 σ H1 Q a' aP
end
end a7
namespace a7
open PySem PySem.Spec PyProof.Rows
noncomputable def fH(K:a6)(H:aw)(a:af)(xs:List V):Prop:=
 eU H a (.lst xs) \/
  ∃(o:Obj) (its:Array aj) (n:Nat),K.lookup a=some o/\o.cls=.type "list"/\o.dict=none/\o.data=.seq its n/\its.size<=cA/\Vals xs its.toList
noncomputable def c3(K:a6)(H:aw)(a:af)(xs:List V):Prop:=
 eU H a (.tup xs) \/
  ∃(o:Obj) (its:Array aj) (n:Nat),K.lookup a=some o/\o.cls=.type "tuple"/\o.data=.seq its n/\its.size<=cA/\Vals xs its.toList
noncomputable def Ww:aj->Option V
|.none=>some .d3
|.bool b=>some (.b0 b)
|.int i _=>some (.int i)
|.str x _=>some (.str x)
|.bytes b _=>some (.l5 b)
|.float b _=>some (.wK b)
|.ref a=>some (.ref a)
|.type n=>some (.ty n)
|_=>none
def RelV.abs{x:V}{u:aj}(r:RelV x u):Ww u=some x:=by
 cases x with
|d3=>cases r;rfl
|b0 _=>cases r;rfl
|int _=>obtain⟨t,rfl⟩:=r;rfl
|str _=>obtain⟨t,rfl⟩:=r;rfl
|l5 _=>obtain⟨t,rfl⟩:=r;rfl
|wK _=>obtain⟨t,rfl⟩:=r;rfl
|ref _=>cases r;rfl
|ty _=>cases r;rfl
def RelV.inj{x y:V}{u:aj}(r:RelV x u)(q:RelV y u):x=y:=fF (r.abs.symm.trans q.abs)
theorem Vals.inj:∀{xs ys:List V} {us:List aj},Vals xs us->Vals ys us->xs=ys
|_,_,_,.nil,.nil=>rfl
|_,_,_,.cons r t,.cons cq t'=>by rw[r.inj cq,Vals.inj t t']
section
variable {X:aV}{ah:List (af×Obj)}{σ:St}{H:aw}{s:aH}{a:af}{xs ys:List V}
def fH.of{K:a6}(h:H a=some (.lst xs)):fH K H a xs:=.inl (.inl h)
def c3.of{K:a6}(h:H a=some (.tup xs)):c3 K H a xs:=.inl (.inl h)
def Inv.list(I:Inv X ah σ H s)(h:fH X.K H a xs):∃its:List aj,Vals xs its/\PlainL s.heap a its.toArray/\xs.length<=cA:=by
 rcases h with h|⟨o,its,n,aK,au,hd,av,aq,r⟩
 ·obtain⟨z,its,n,r,e⟩:=h.ok I.bJ;exact⟨its,r,⟨_,n,e,rfl,rfl,rfl⟩,z⟩
 ·refine⟨its.toList,r,⟨o,n,I.jx a o aK,au,hd,by simpa using av⟩,?_⟩
  have e:=r.length;simp only[rK] at e;omega
def Inv.tuple(I:Inv X ah σ H s)(h:c3 X.K H a xs):∃its:List aj,Vals xs its/\IsTup s.heap a its.toArray/\xs.length<=cA:=by
 rcases h with h|⟨o,its,n,aK,au,av,aq,r⟩
 ·obtain⟨z,its,r,p⟩:=h.ok I.bJ;exact⟨its,r,p,z⟩
 ·refine⟨its.toList,r,⟨o,I.jx a o aK,au,n,by simpa using av⟩,?_⟩
  have e:=r.length;simp only[rK] at e;omega
def Inv.abh(I:Inv X ah σ H s)(h:fH X.K H a xs)(h':fH X.K H a ys):xs=ys:=by
 obtain⟨its,r,⟨o,n,e,_,_,d⟩,_⟩:=I.list h;obtain⟨its',cq,⟨o',xm,bP,_,_,d'⟩,_⟩:=I.list h';rw[e] at bP;cases bP;rw[d] at d';injection d' with wG _;have:its=its':=by simpa using congrArg Array.toList wG
 subst this;exact r.inj cq
def Inv.BH(I:Inv X ah σ H s)(h:c3 X.K H a xs)(h':c3 X.K H a ys):xs=ys:=by
 obtain⟨its,r,⟨o,e,_,n,d⟩,_⟩:=I.tuple h;obtain⟨its',cq,⟨o',bP,_,xm,d'⟩,_⟩:=I.tuple h';rw[e] at bP;cases bP;rw[d] at d';injection d' with wG _;have:its=its':=by simpa using congrArg Array.toList wG
 subst this;exact r.inj cq
end
abbrev aV.lB(X:aV)(E:aj->aH->Prop):aV:={X with di:=E}
abbrev aV.ey(X:aV):aV:=X.lB λ_ _=>False
theorem aV.Ok.lB{X:aV}(ok:X.Ok)(E:aj->aH->Prop):(X.lB E).Ok:=
 ⟨ok.mod,ok.kind,ok.glob,ok.blt,ok.above,ok.inj,ok.has,ok.sI,ok.hd,ok.frames,ok.amQ,ok.q5,ok.bs,ok.nG,ok.tg,ok.q6,ok.kJ,ok.oU⟩
def aV.Ok.pk{X:aV}{E:aj->aH->Prop}(ok:(X.lB E).Ok):X.Ok:=
 ⟨ok.mod,ok.kind,ok.glob,ok.blt,ok.above,ok.inj,ok.has,ok.sI,ok.hd,ok.frames,ok.amQ,ok.q5,ok.bs,ok.nG,ok.tg,ok.q6,ok.kJ,ok.oU⟩
section
variable {X:aV}{ah:List (af×Obj)}{σ:St}{H:aw}{s:aH}{E:aj->aH->Prop}
theorem Inv.lB(I:Inv X ah σ H s)(E:aj->aH->Prop):Inv (X.lB E) ah σ H s:=⟨I.ok.lB E,I.os,I.bare,I.base,I.loc,I.cell,I.free,I.jS,I.pin,I.bJ,I.len⟩
theorem Inv.pk(I:Inv (X.lB E) ah σ H s):Inv X ah σ H s:=⟨I.ok.pk,I.os,I.bare,I.base,I.loc,I.cell,I.free,I.jS,I.pin,I.bJ,I.len⟩
theorem oK.pk{D:Ends}{f:Flow}{s':aH}(h:oK (X.lB E) ah D f s'):oK X ah D f s':=by
 cases f with
|next=>obtain⟨ct,ae,I,q⟩:=h;exact⟨ct,ae,I.pk,q⟩
|brk=>obtain⟨ct,ae,I,q⟩:=h;exact⟨ct,ae,I.pk,q⟩
|cont=>obtain⟨ct,ae,I,q⟩:=h;exact⟨ct,ae,I.pk,q⟩
|ret u=>obtain⟨v,ct,ae,I,r,q⟩:=h;exact⟨v,ct,ae,I.pk,r,q⟩
theorem bK.ey{e:bq}{t:TE}(h:bK X.ey e t):bK X e t:=λah s σ H Q I hw=>
 eK (h ah s σ H Q (I.lB _) hw) (λ_ _ ⟨v,ae,pR,r,q⟩=>⟨v,ae,pR.pk,r,q⟩) λ_ _ z=>eL z
theorem iE.ey{e:bq}{t:TT}(h:iE X.ey e t):iE X e t:=λah s σ H Q I hw=>
 eK (h ah s σ H Q (I.lB _) hw) (λ_ _ ⟨ae,pR,q⟩=>⟨ae,pR.pk,q⟩) λ_ _ z=>eL z
theorem fT.ey{st:List Stmt}{t:f3}(h:fT X.ey st t):fT X st t:=λah s σ H D I hw=>
 eK (h ah s σ H D (I.lB _) hw) (λ_ _ q=>q.pk) λ_ _ z=>eL z
end
section
variable {X:aV}{st:Stmt}{rest:List Stmt}{t u:f3}{e:bq}{hF:TE}{pos:Pos}
def UD:f3:=λD σ H=>D.bO σ H
noncomputable def BB(t u:f3):f3:=λD σ H=>t {D with bO:=u D} σ H
def Tp:fT X [] UD:=λ_ _ σ H _ I h=>wpAny_execs_nil ⟨σ,H,I,h⟩
def vI(ai:jr X st t)(ao:fT X rest u):fT X (st::rest) (BB t u):=by
 intro ah s σ H D I h;refine wpAny_execs_cons (cJ (ai ah s σ H {D with bO:=u D} I h) λf s1 q=>?_);cases f with
|next=>
  obtain⟨ct,ae,pR,q⟩:=q;exact ao ah s1 ct ae D pR q
|ret v=>exact q
|brk=>exact q
|cont=>exact q
def ud(ai:jr X st t):fT X [st] t:=by
 intro ah s σ H D I h;refine wpAny_execs_cons (cJ (ai ah s σ H D I h) λf s1 q=>?_);cases f with
|next=>exact wpAny_execs_nil q
|ret v=>exact q
|brk=>exact q
|cont=>exact q
def Inv.quiet{ah:List (af×Obj)}{σ:St}{H:aw}{s:aH}(I:Inv X ah σ H s):interactive X.env=false:=by simp[interactive,I.ok.kind]
noncomputable def alH(hF:TE):f3:=λD σ H=>hF σ H λ_ H1=>D.bO σ H1
def yA(he:bK X e hF)(av:amF e none pos.line X.env=pure false:=by rfl):jr X (.Expr e pos) (alH hF):=by
 intro ah s σ H D I h;exact wpAny_Expr_any (cJ (he ah s σ H _ I h) λv s1 ⟨x,H1,a',bj,aP⟩=>⟨σ,H1,a',aP⟩) I.quiet av
def Qh(hF:TE):f3:=λD σ H=>hF σ H D.er
def uq(he:bK X e hF):jr X (.Return (some e) pos) (Qh hF):=by
 intro ah s σ H D I h;exact wpAny_Return_some (cJ (he ah s σ H _ I h) λv s1 ⟨x,H1,a',bj,aP⟩=>⟨x,σ,H1,a',bj,aP⟩)
def alD:f3:=λD _ H=>D.er .d3 H
def ajX:jr X (.Return none pos) alD:=λ_ _ σ H _ I h=>wpAny_Return_none ⟨.d3,σ,H,I,rfl,h⟩
noncomputable def Qf(c:TT)(t u:f3):f3:=λD σ H=>c σ H λb H1=>if b=true then t D σ H1 else u D σ H1
def DJ{c:bq}{a b:List Stmt}{vh:TT}(au:iE X c vh)(aB:fT X a t)(aa:fT X b u):jr X (.If c a b pos) (Qf vh t u):=by
 intro ah s σ H D I h;refine wpAny_If (cJ (au ah s σ H _ I h) λd s1 ⟨H1,a',aP⟩=>?_);cases d with
|true=>exact aB ah s1 σ H1 D a' aP
|false=>exact aa ah s1 σ H1 D a' aP
end
abbrev amP:=V->St->aw->(St->aw->Prop)->Prop
abbrev pV:=List V->St->aw->(St->aw->Prop)->Prop
noncomputable def sz(X:aV)(target:bq)(t:amP):Prop:=
 ∀(ah:List (af×Obj)) (s:aH) (σ:St) (H:aw) (v:V) (u:aj) (Q:St->aw->Prop),Inv X ah σ H s->RelV v u->t v σ H Q ->
  bc (bu X.prog X.w) X.A (assign target X.env u) (λ_ s'=>∃ct ae,Inv X ah ct ae s'/\Q ct ae) X.di s
noncomputable def sA(X:aV)(ts:List bq)(t:pV):Prop:=
 ∀(ah:List (af×Obj)) (s:aH) (σ:St) (H:aw) (vs:List V) (us:List aj) (Q:St->aw->Prop),Inv X ah σ H s->Vals vs us->t vs σ H Q ->
  bc (bu X.prog X.w) X.A (assignInOrder ((qu ts X.env).map (·.2)) us) (λ_ s'=>∃ct ae,Inv X ah ct ae s'/\Q ct ae) X.di s
section
variable {X:aV}{pos:Pos}
noncomputable def sg(i:Nat):amP:=λv σ H Q=>Q (σ.set i (some v)) H
def aj5{i:Nat}{x:Str}(dp:X.N.Nodup)(aM:X.N[i]?=some x)(hx:Loc X.env.scope x)(hf:X.fn x=true\/X.env.scope.names.lookup x=some .local:=by first|exact .inl rfl|exact .inr rfl|assumption):sz X (.Name x pos) (sg i):=by
 intro ah s σ H v u Q I r h;exact wpAny_assign_Name (LJ I dp aM hx r (λs' pR=>⟨_,H,pR,h⟩) hf)
def Zt:pV:=λvs σ H Q=>vs=[]/\Q σ H
noncomputable def al5(t:amP)(u:pV):pV:=λvs σ H Q=>∃v r,vs=v::r/\t v σ H λct ae=>u r ct ae Q
def aj4:sA X [] Zt:=by
 intro ah s σ H vs us Q I r h;obtain⟨e,h⟩:=h;subst e;cases r;exact assignInOrder_nil ⟨σ,H,I,h⟩
def ai7{e:bq}{es:List bq}{t:amP}{u:pV}(ai:sz X e t)(ao:sA X es u)
  (av:(qu (e::es) X.env).map (·.2)=assign e X.env::(qu es X.env).map (·.2):=by rfl):sA X (e::es) (al5 t u):=by
 intro ah s σ H vs us Q I r h;obtain⟨v,Kj,aD,h⟩:=h;subst aD;cases r with
|cons r xx=>
  rw[av];refine assignInOrder_cons (cJ (ai ah s σ H _ _ _ I r h) λ_ s1 ⟨MU,H1,a',aP⟩=>?_);exact ao ah s1 MU H1 _ _ Q a' xx aP
noncomputable def Zu(K:a6)(n:Nat)(t:pV):amP:=λv σ H Q=>∃a xs,v=.ref a/\c3 K H a xs/\xs.length=n/\t xs σ H Q
def ak6{es:List bq}{k:Nat}{t:pV}{n:Nat}(au:X.calm=true)(h:sA X es t)
  (a5:(qu es X.env).length=n:=by rfl) (gW:(qu es X.env).findIdx? (·.1)=none:=by rfl):sz X (.Tuple es k pos) (Zu X.K n t):=by
 intro ah s σ H v u Q I r hw;obtain⟨a,xs,aD,bb,aE,hw⟩:=hw;subst aD;cases r;obtain⟨its,bR,bh,aq⟩:=I.tuple bb;refine assign_Tuple_tuple (I.ok.hd au) bh (by simp[a5,<- aE,bR.length]) gW λh' hx=>?_;have a':Inv X ah σ H {s with heap:=h'}:=I.kept (t':=s.toks) λb o e=>hx b o (ez (cT e)) e;exact h ah _ σ H xs _ Q a' (by simpa using bR) hw
noncomputable def amY(hF:TE)(g:amP):f3:=λD σ H=>hF σ H λx H1=>g x σ H1 D.bO
def uo{i:Nat}{x:Str}{e:bq}{hF:TE}{pos':Pos}(dp:X.N.Nodup)(aM:X.N[i]?=some x)(hx:Loc X.env.scope x)(he:bK X e hF)(av:amF e (some (.Name x pos')) pos.line X.env=pure false:=by rfl)(hf:X.fn x=true\/X.env.scope.names.lookup x=some .local:=by first|exact .inl rfl|exact .inr rfl|assumption):
  jr X (.Assign [.Name x pos'] e pos) (amY hF (sg i)):=by
 intro ah s σ H D I h;refine wpAny_Assign_Name (cJ (he ah s σ H _ I h) λv s1 ⟨y,H1,a',bj,aP⟩=>?_) av;exact LJ a' dp aM hx bj (λs2 b5=>⟨_,H1,b5,aP⟩) hf
end
structure k8 where
 go:Nat->aw->Prop
 nf:Nat->aw->V->aw->Prop
 stop:Nat->aw->Prop
noncomputable def lY(X:aV)(ah:List (af×Obj))(H:aw)(b:af):Prop:=
 H b=none/\b≠X.env.locals/\b∉X.aA/\(b∈X.ex\/X.c_.heap.objs.size<=b)/\(∀x c,X.env.cells.lookup x=some c->c≠b)/\∀p∈X.c8++ah,p.1≠b
def Inv.z9{X:aV}{ah:List (af×Obj)}{σ:St}{H ae:aw}{s:aH}{b:af}(I:Inv X ah σ H s)(aa:s.heap.objs.size<=b)(a5:ae b=none):lY X ah ae b:=by
 refine⟨a5,hI (iU I.lt aa),I.abw aa,.inr (mn I.iO aa),λx c e z=>?_,λp aN z=>?_⟩
 ·obtain⟨v,q⟩:=I.cell x c e;exact absurd (iU q.lt (by rw[z];exact aa)) (Nat.lt_irrefl _)
 ·exact absurd (iU (cT (I.pin p aN).1) (by rw[z];exact aa)) (Nat.lt_irrefl _)
structure Turn(P:cC)(w:b6)(K:a6)(dA:bq)(J:k8)(b8:List af)(it:af)(g0:Nat->bz->Prop):Prop where
 mem:it∈b8
 obj:∀i h,g0 i h->∀b∈b8,∃o,h.get? b=some o/\∀v,o.data≠.cell v
 keep:∀i h h',g0 i h->(∀b∈b8,∀o,h.get? b=some o->h'.get? b=some o)->g0 i h'
 item:∀(X:aV),X.prog=P->X.w=w->X.K=K->X.calm=true->∀(i:Nat) (ah:List (af×Obj)) (s:aH) (σ:St) (H:aw) (E:aj->aH->Prop),Inv X ah σ H s->(∀b∈b8,lY X ah H b)->g0 i s.heap->J.go i H ->
  bc (bu P w) X.A (pyNext (.ref it)) (λr s1=>∃u,r=some u /\
   bc (bu P w) X.A (letOwnedTupleGo dA (.ref it) u) (λ_ s2=>∃x ae,Inv X ah σ ae s2/\RelV x u/\J.nf i H x ae/\g0 (i+1) s2.heap/\∀b∈b8,ae b=none) E s1) E s
 done:∀(X:aV),X.prog=P->X.w=w->X.K=K->X.calm=true->∀(i:Nat) (ah:List (af×Obj)) (s:aH) (σ:St) (H:aw) (E:aj->aH->Prop),Inv X ah σ H s->(∀b∈b8,lY X ah H b)->g0 i s.heap->J.stop i H ->
  bc (bu P w) X.A (pyNext (.ref it)) (λr s1=>r=none/\Inv X ah σ H s1) E s
 self:∀(A:cH) (i:Nat) (s:aH) (Q:aj->aH->Prop) (E:aj->aH->Prop),g0 i s.heap->Q (.ref it) s->bc (bu P w) A (pyIter (.ref it)) Q E s
abbrev TI:=St->aw->(k8->aw->Prop)->Prop
noncomputable def M'(X:aV)(ah:List (af×Obj))(σ:St)(dA:bq)(R:k8->aw->Prop)(Ar:aj)(s2:aH):Prop:=
 ∃(it:af) (b8:List af) (g0:Nat->bz->Prop) (J:k8) (ae:aw),Ar=.ref it/\Inv X ah σ ae s2/\Turn X.prog X.w X.K dA J b8 it g0/\g0 0 s2.heap/\(∀b∈b8,lY X ah ae b)/\R J ae
noncomputable def qQ(X:aV)(dA iter:bq)(ql:TI):Prop:=
 ∀(ah:List (af×Obj)) (s:aH) (σ:St) (H:aw) (R:k8->aw->Prop),Inv X ah σ H s->ql σ H R ->
  bc (bu X.prog X.w) X.A (eval iter X.env) (λv s1=>bc (bu X.prog X.w) X.A (pyIter v) (M' X ah σ dA R) X.di s1) X.di s
def MM{M:Model}{A:cH}{E:aj->aH->Prop}{s:aH}{dA:bq}{it:af}{u:aj}{o:Obj}{n:String}{vs:Array aj}{Q:Unit->aH->Prop}(aF:s.heap.get? it=some o)(au:o.cls=.type n)(hd:o.data=.fields vs)
    (a5:["enumerate","zip","dict_itemiterator","dict_reverseitemiterator","odict_iterator","itertools.zip_longest","itertools.pairwise"].contains n=false) (i3:Q () s):bc M A (letOwnedTupleGo dA (.ref it) u) Q E s:=by
  unfold letOwnedTupleGo;cases dA <;> first
    |exact cf i3
    | (cases u <;> first
        |exact cf i3
        | (refine aR (wpAny_load aF ?_)
           rw[au,hd];show bc M A (if (["enumerate","zip","dict_itemiterator","dict_reverseitemiterator","odict_iterator","itertools.zip_longest","itertools.pairwise"].contains n && vs[0]?==some (hj _))=true then _ else _) Q E s;rw[if_neg (by intro h;rw[a5,Bool.false_and] at h;cases h)];exact cf i3))
noncomputable def D7(K:a6)(a:af):k8:=
 ⟨λi H=>∃xs x,fH K H a xs/\xs[i]?=some x,λi H x ae=>ae=H/\∀xs,fH K H a xs->xs[i]?=some x,λi H=>∃xs,fH K H a xs/\xs.length<=i⟩
noncomputable def D8(K:a6)(a:af):k8:=
 ⟨λi H=>∃xs x,c3 K H a xs/\xs[i]?=some x,λi H x ae=>ae=H/\∀xs,c3 K H a xs->xs[i]?=some x,λi H=>∃xs,c3 K H a xs/\xs.length<=i⟩
noncomputable def zb(lo:Int)(n:Nat):k8:=⟨λi _=>i<n,λi H x ae=>ae=H/\x=.int (lo+i),λi _=>n<=i⟩
def ah3{P:cC}{w:b6}{K:a6}{dA:bq}(a it:af):Turn P w K dA (D7 K a) [it] it (λi h=>h.IsListIter it a i) where
 mem:=by simp
 obj:=λi h st b aa=>by
  have e:b=it:=by simpa using aa
  subst e;obtain⟨o,e,c,d⟩:=st;exact⟨o,e,λv z=>by rw[d] at z;cases z⟩
 keep:=λi h h' st k=>st.at λo e=>k it (by simp) o e
 item:=by
  intro X gB hw iu au i ah s σ H E I hf st bt;subst gB hw iu;obtain⟨xs,x,bb,hx⟩:=bt;obtain⟨its,bR,p,aq⟩:=I.list bb;obtain⟨u,cn,c7⟩:=bR.get hx;obtain⟨f0,f1,f2,hU,f4,hV⟩:=hf it (by simp);refine wpAny_pyNext_list_item st p.isList (x:=u) (by simpa using cn) λh' n2 iM=>?_;have a':Inv X ah σ H {s with heap:=h'}:=I.turned (t':=s.toks) (λb o aa e=>(iM.2 b aa).trans e) f0 f1 hU f4 hV;obtain⟨o,e,c,d⟩:=id n2;exact⟨u,rfl,MM (s:={s with heap:=h'}) e c d (by decide) ⟨x,H,a',c7,⟨rfl,λys a_=>by rw[I.abh a_ bb];exact hx⟩,n2,λb aa=>(hf b aa).1⟩⟩
 done:=by
  intro X gB hw iu au i ah s σ H E I hf st bt;subst gB hw iu;obtain⟨xs,bb,hx⟩:=bt;obtain⟨its,bR,p,aq⟩:=I.list bb;obtain⟨f0,f1,f2,hU,f4,hV⟩:=hf it (by simp);have aE:=bR.length;exact wpAny_pyNext_list_end (I.ok.hd au) st p.isList (by simp;omega) λh' dV=>⟨rfl,I.turned (t':=s.toks) (λb o aa e=>dV b o aa e) f0 f1 hU f4 hV⟩
 self:=λ_ _ _ _ _ st h=>wpAny_pyIter_listiter st h
def ahy{P:cC}{w:b6}{K:a6}{dA:bq}(a it:af):Turn P w K dA (D8 K a) [it] it (λi h=>h.IsTupleIter it a i) where
 mem:=by simp
 obj:=λi h st b aa=>by
  have e:b=it:=by simpa using aa
  subst e;obtain⟨o,e,c,d⟩:=st;exact⟨o,e,λv z=>by rw[d] at z;cases z⟩
 keep:=λi h h' st k=>st.at λo e=>k it (by simp) o e
 item:=by
  intro X gB hw iu au i ah s σ H E I hf st bt;subst gB hw iu;obtain⟨xs,x,bb,hx⟩:=bt;obtain⟨its,bR,p,aq⟩:=I.tuple bb;obtain⟨u,cn,c7⟩:=bR.get hx;obtain⟨f0,f1,f2,hU,f4,hV⟩:=hf it (by simp);refine wpAny_pyNext_tuple_item st (show s.heap.IsTuple a its.toArray from p) (x:=u) (by simpa using cn) λh' n2 iM=>?_;have a':Inv X ah σ H {s with heap:=h'}:=I.turned (t':=s.toks) (λb o aa e=>(iM.2 b aa).trans e) f0 f1 hU f4 hV;obtain⟨o,e,c,d⟩:=id n2;exact⟨u,rfl,MM (s:={s with heap:=h'}) e c d (by decide) ⟨x,H,a',c7,⟨rfl,λys a_=>by rw[I.BH a_ bb];exact hx⟩,n2,λb aa=>(hf b aa).1⟩⟩
 done:=by
  intro X gB hw iu au i ah s σ H E I hf st bt;subst gB hw iu;obtain⟨xs,bb,hx⟩:=bt;obtain⟨its,bR,p,aq⟩:=I.tuple bb;obtain⟨f0,f1,f2,hU,f4,hV⟩:=hf it (by simp);have aE:=bR.length;exact wpAny_pyNext_tuple_end (I.ok.hd au) st (show s.heap.IsTuple a its.toArray from p) (by simp;omega) λh' dV=>⟨rfl,I.turned (t':=s.toks) (λb o aa e=>dV b o aa e) f0 f1 hU f4 hV⟩
 self:=λ_ _ _ _ _ st h=>wpAny_pyIter_tupleiter st h
def ahz{P:cC}{w:b6}{K:a6}{dA:bq}(it:af)(lo:Int)(n:Nat):Turn P w K dA (zb lo n) [it] it (λi h=>IsRangeIter h it (lo+(i:Nat)*1) ((n:Int) - (i:Nat)) 1) where
 mem:=by simp
 obj:=λi h st b aa=>by
  have e:b=it:=by simpa using aa
  subst e;exact⟨_,st,λv z=>by
   have j5:Data.fields _=Data.cell v:=z;cases j5⟩
 keep:=λi h h' st k=>k it (by simp) _ st
 item:=by
  intro X gB hw iu au i ah s σ H E I hf st bt;subst gB hw iu;obtain⟨f0,f1,f2,hU,f4,hV⟩:=hf it (by simp);have W:=Walks.range (prog:=X.prog) (w:=X.w) (I.ok.hd au) it lo 1 n;refine W.item i s _ _ bt st λv h' tk bo n2 bQ=>?_;obtain⟨t,rfl⟩:=bo;have a':Inv X ah σ H {s with heap:=h',toks:=tk}:=I.turned (λb o aa e=>bQ b o (by simpa using aa) e) f0 f1 hU f4 hV;refine⟨_,rfl,MM (s:={s with heap:=h',toks:=tk}) (n:="range_iterator") n2 rfl rfl (by decide) ⟨.int (lo+i),H,a',⟨t,?_⟩,⟨rfl,rfl⟩,n2,λb aa=>(hf b aa).1⟩⟩;rw[Int.mul_one]
 done:=by
  intro X gB hw iu au i ah s σ H E I hf st bt;subst gB hw iu;obtain⟨f0,f1,f2,hU,f4,hV⟩:=hf it (by simp);exact wpAny_pyNext_range_end (I.ok.hd au) st (by have:n<=i:=bt;omega) λh' dV=>⟨rfl,I.turned (t':=s.toks) (λb o aa e=>dV b o aa e) f0 f1 hU f4 hV⟩
 self:=λ_ _ _ _ _ st h=>wpAny_pyIter_rangeiter st h
end a7
namespace a7
open PySem PySem.Spec PyProof.Rows
section
variable {X:aV}{dA:bq}
def ai2{ah:List (af×Obj)}{σ:St}{H:aw}{s:aH}{R:k8->aw->Prop}{E:aj->aH->Prop}{lo aM:Int}{t u v:Tok}{tk:Nat}(I:Inv X ah σ H s)(ai:-(2 ^ 62)<=lo)(ao:lo<2 ^ 62)(bE:-(2 ^ 62)<=aM)(c4:aM<2 ^ 62)
  (q:R (zb lo (aM - lo).toNat) H):bc (bu X.prog X.w) X.A (pyIter (.ref s.heap.objs.size)) (M' X ah σ dA R) E {s with heap:=s.heap.push {cls:=.type "range",data:=.fields #[.int lo t,.int aM u,.int 1 v]},toks:=tk}:=by
 refine wpAny_pyIter_range (IsRange.new ..) (small_one ai ao bE c4) ?_
 have a':Inv X ah σ H {s with heap:=s.heap.push {cls:=.type "range",data:=.fields #[.int lo t,.int aM u,.int 1 v]},toks:=tk}:=I.kept λb o e=>cZ _ e;refine⟨(s.heap.push {cls:=.type "range",data:=.fields #[.int lo t,.int aM u,.int 1 v]}).objs.size,[(s.heap.push {cls:=.type "range",data:=.fields #[.int lo t,.int aM u,.int 1 v]}).objs.size],_,_,H,rfl,
  a'.kept (t':=tk) λb o e=>cZ _ e,ahz _ lo (aM - lo).toNat,?_,λb aa=>?_,q⟩
 ·have aD:lo+((0:Nat):Int)*1=lo:=by simp
  have aL:(((aM - lo).toNat:Nat):Int) - ((0:Nat):Int)=Builtin.Range.rangeSize lo aM 1:=by rw[rangeSize_one];split <;> omega
  show IsRangeIter _ _ (lo+((0:Nat):Int)*1) ((((aM - lo).toNat:Nat):Int) - ((0:Nat):Int)) 1
  rw[aD,aL];exact gI _ rfl
 ·have e:b=(s.heap.push {cls:=.type "range",data:=.fields #[.int lo t,.int aM u,.int 1 v]}).objs.size:=by simpa using aa
  subst e;exact a'.z9 (dS _) (a'.bJ.fresh (dS _))
noncomputable def al4(cF:gi):TI:=λσ H R=>cF σ H λvs H1=>∃j:Int,vs=[.int j]/\-(2 ^ 62)<=j/\j<2 ^ 62/\R (zb 0 j.toNat) H1
def aid{a:bq}{cF:gi}{p pos:Pos}(bt:ew X "range")(hm:X.mg "range"=none)(aB:hp X [a] cF)(av:bB [a] X.env=[(false,eval a X.env)]:=by rfl):qQ X dA (.Call (.Name "range" p) [a] [] pos) (al4 cF):=by
 intro ah s σ H R I h;refine Call_ (r8 I bt hm boot_range (vl (cJ (aB pos ah s σ H _ I h) λus s1 ⟨vs,H1,a',bj,aP⟩=>?_) av rfl));obtain⟨j,e,aP,a9,q⟩:=aP;subst e;cases bj with
|cons r xx=>
  cases xx
  obtain⟨t,rfl⟩:=r;exact call_range_1 (ai2 a' (by omega) (by omega) aP a9 (by simpa using q))
noncomputable def afK(ql:TI)(g:amP)(df:f3):f3:=λD σ H=>ql σ H λJ H1=>∃W:Nat->Nat->St->aw->Prop,(∃m,W 0 m σ H1)/\∀i m σ H,W i m σ H ->
 (J.stop i H/\D.bO σ H)\/(J.go i H/\∃N:St->aw->Prop,(∀ct ae,N ct ae->∃o9,o9<m/\W (i+1) o9 ct ae)/\∀x ae,J.nf i H x ae->g x σ ae λwe ba=>df {D with bO:=N,cR:=N,gx:=D.bO} we ba)
noncomputable def ur(b8:List af)(h:bz):List (af×Obj):=b8.filterMap λb=>(h.get? b).map λo=>(b,o)
def vF{b8:List af}{h:bz}{b:af}{o:Obj}(aa:b∈b8)(e:h.get? b=some o):(b,o)∈ur b8 h:=List.mem_filterMap.mpr ⟨b,aa,by rw[e];rfl⟩
def aih{b8:List af}{h:bz}{p:af×Obj}(aN:p∈ur b8 h):p.1∈b8/\h.get? p.1=some p.2:=by
 obtain⟨b,aa,e⟩:=List.mem_filterMap.mp aN;cases q:h.get? b with
|none=>rw[q] at e;cases e
|some o=>
  rw[q] at e;have bP:(b,o)=p:=fF e;subst bP;exact⟨aa,q⟩
def Inv.pinned{ah:List (af×Obj)}{σ:St}{H:aw}{s:aH}{b8:List af}(I:Inv X ah σ H s)(hf:∀b∈b8,lY X ah H b)(aF:∀b∈b8,∃o,s.heap.get? b=some o/\∀v,o.data≠.cell v):Inv X (ah++ur b8 s.heap) σ H s:=
 I.PO λp aN=>(j2.mp aN).elim (λz=>I.pin p (lF _ z)) λz=>by
  obtain⟨aa,e⟩:=aih z;obtain⟨f0,f1,f2,_⟩:=hf p.1 aa;obtain⟨o,bP,d⟩:=aF p.1 aa;rw[e] at bP;cases bP;exact⟨e,f0,f1,f2,d⟩
def Inv.xK{ah pl:List (af×Obj)}{σ:St}{H:aw}{s:aH}(I:Inv X (ah++pl) σ H s):Inv X ah σ H s:=I.PO λp aN=>I.pin p (lF _ (List.mem_append_left _ aN))
def ak4{iter:bq}{body:List Stmt}{ql:TI}{g:amP}{df:f3}{pos:Pos}(aN:PassesOwn (bu X.prog X.w) X.A X.env X.di)(au:X.calm=true)(aM:qQ X dA iter ql)(bt:sz X dA g)(aa:fT X body df)
  (av:∀x,am1 iter X.env x=pure x:=by intro _;rfl):jr X (.For dA iter body [] pos) (afK ql g df):=by
 intro ah s σ H D I h;refine wpAny_For (cJ (aM ah s σ H _ I h) λv s1 ai=>cJ ai λAr s2 ao=>?_) av;obtain⟨it,b8,g0,J,ba,e,b5,T,jc,f2,W,⟨m0,amU⟩,turn⟩:=ao;subst e;have n4:∀{ae:aw},(∀b∈b8,ae b=none)->∀b∈b8,lY X ah ae b:=λa5 b aa=>⟨a5 b aa,(f2 b aa).2⟩;refine codeAny_forLoop_any (λn s'=>∃i ct ae,Inv X ah ct ae s'/\g0 i s'.heap/\(∀b∈b8,ae b=none)/\W i n ct ae) ?_ m0 ⟨0,σ,ba,b5,jc,λb aa=>(f2 b aa).1,amU⟩;rintro n s3 ⟨i,mD,d6,dI,rC,q7,rG⟩;rcases turn i n mD d6 rG with ⟨stop,tn⟩|⟨go,N,dp,step⟩
 ·refine wpAny_passesOwn aN (cJ (T.done X rfl rfl rfl au i ah s3 mD d6 X.di dI (n4 q7) rC stop) λr s4 ⟨ax,jQ⟩=>?_)
  subst ax;exact wpAny_execs_nil ⟨mD,d6,jQ,tn⟩
 ·refine wpAny_passesOwn aN (cJ (T.item X rfl rfl rfl au i ah s3 mD d6 X.di dI (n4 q7) rC go) λr s4 ⟨u,ax,c4⟩=>?_)
  subst ax;refine wpAny_passesOwn aN (cJ c4 λ_ s5 ⟨x,hQ,nA,tp,xW,n3,wL⟩=>?_);have wj:=nA.pinned (n4 wL) (T.obj _ _ n3);refine wpAny_passesOwn aN (cJ (bt _ s5 mD hQ x u _ wj tp (step x hQ xW)) λ_ j0 ⟨pM,uA,qO,ry⟩=>?_);refine wpAny_passesOwn aN (cJ (aa _ j0 pM uA _ qO ry) λf eO rz=>?_);have again:∀{jo:St} {fc:aw},Inv X (ah++ur b8 s5.heap) jo fc eO->N jo fc->∃m,m<n/\∃i ct ae,Inv X ah ct ae eO/\g0 i eO.heap/\(∀b∈b8,ae b=none)/\W i m ct ae:=λ{jo fc} gK xn=>by
   obtain⟨o9,hm,w7⟩:=dp jo fc xn;refine⟨o9,hm,i+1,jo,fc,gK.xK,T.keep _ _ _ n3 λb aa o e=>(gK.pin (b,o) (lF _ (lF _ (vF aa e)))).1,λb aa=>?_,w7⟩;obtain⟨o,e,d⟩:=T.obj _ _ n3 b aa;exact (gK.pin (b,o) (lF _ (lF _ (vF aa e)))).2.1
  cases f with
  |next=>obtain⟨jo,fc,gK,xn⟩:=rz;exact again gK xn
  |cont=>obtain⟨jo,fc,gK,xn⟩:=rz;exact again gK xn
  |brk=>obtain⟨jo,fc,gK,rz⟩:=rz;exact⟨jo,fc,gK.xK,rz⟩
  |ret v=>obtain⟨n8,jo,fc,gK,tq,rz⟩:=rz;exact⟨n8,jo,fc,gK.xK,tq,rz⟩
end
end a7
namespace a7
open PySem PySem.Spec PyProof.Rows
abbrev gu:=V->V->aw->c0->Prop
noncomputable def eS(X:aV)(f:aj->aj->Sem aj)(r:gu):Prop:=
 ∀(ah:List (af×Obj)) (s:aH) (σ:St) (H:aw) (x y:V) (v u:aj) (Q:c0),Inv X ah σ H s->RelV x v->RelV y u->r x y H Q ->
  bc (bu X.prog X.w) X.A (f v u) (ig X ah σ Q) X.di s
noncomputable def Eg(X:aV)(f:aj->Sem aj)(r:V->aw->c0->Prop):Prop:=
 ∀(ah:List (af×Obj)) (s:aH) (σ:St) (H:aw) (x:V) (v:aj) (Q:c0),Inv X ah σ H s->RelV x v->r x H Q ->
  bc (bu X.prog X.w) X.A (f v) (ig X ah σ Q) X.di s
noncomputable def lR(X:aV)(f:aj)(r:List V->aw->c0->Prop):Prop:=
 ∀(ah:List (af×Obj)) (s:aH) (σ:St) (H:aw) (xs:List V) (us:List aj) (Q:c0),Inv X ah σ H s->Vals xs us->r xs H Q ->
  bc (bu X.prog X.w) X.A (call f us) (ig X ah σ Q) X.di s
noncomputable def Wt(X:aV)(r:V->aw->(Bool->aw->Prop)->Prop):Prop:=
 ∀(ah:List (af×Obj)) (s:aH) (σ:St) (H:aw) (x:V) (v:aj) (Q:Bool->aw->Prop),Inv X ah σ H s->RelV x v->r x H Q ->
  bc (bu X.prog X.w) X.A (truthy v) (zg X ah σ Q) X.di s
noncomputable def tA(r:gu)(cF df:TE):TE:=λσ H Q=>cF σ H λx H1=>df σ H1 λy ba=>r x y ba Q
noncomputable def Qk(r:V->aw->c0->Prop)(cF:TE):TE:=λσ H Q=>cF σ H λx H1=>r x H1 Q
noncomputable def Bh(C:Int->Int->Prop)(g:Int->Int->V):gu:=λx y H Q=>∃i j,x=.int i/\y=.int j/\C i j/\Q (g i j) H
noncomputable def mZ(g:Int->Int->V):gu:=λx y H Q=>∃i j,x=.int i/\y=.int j/\Q (g i j) H
noncomputable def JS(g:Int->V):V->aw->c0->Prop:=λx H Q=>∃i,x=.int i/\Q (g i) H
section
variable {X:aV}{a b c:bq}{cF df vh:TE}{pos:Pos}
def E6(aB:bK X a cF)(aa:bK X b df){ah:List (af×Obj)}{s:aH}{σ:St}{H:aw}{R:V->V->aw->Prop}(I:Inv X ah σ H s)
  (h:cF σ H λx H1=>df σ H1 λy ba=>R x y ba) {Q:aj->aH->Prop} {f:aj->aj->Sem aj}
  (hf:∀v u s2 x y ba,Inv X ah σ ba s2->RelV x v->RelV y u->R x y ba->bc (bu X.prog X.w) X.A (f v u) Q X.di s2):
  bc (bu X.prog X.w) X.A (eval a X.env) (λv c'=>bc (bu X.prog X.w) X.A (eval b X.env) (λu jz=>bc (bu X.prog X.w) X.A (f v u) Q X.di jz) X.di c') X.di s:=by
 refine cJ (aB ah s σ H _ I h) λv s1 ⟨x,H1,a',bj,aP⟩=>?_
 refine cJ (aa ah s1 σ H1 _ a' aP) λu s2 ⟨y,ba,b5,b_,a9⟩=>?_
 exact hf v u s2 x y ba b5 bj b_ a9
def v'{op:Operator}{r:gu}(aF:eS X (mw op) r)(aB:bK X a cF)(aa:bK X b df):bK X (.BinOp a op b pos) (tA r cF df):=by
 intro ah s σ H Q I h;exact wpAny_BinOp (E6 aB aa I h λv u s2 x y ba b5 aS bk q=>aF ah s2 σ ba x y v u Q b5 aS bk q)
def UK{op:UnaryOp}{r:V->aw->c0->Prop}(aF:Eg X (unaryOp op) r)(aB:bK X a cF):bK X (.UnaryOp op a pos) (Qk r cF):=by
 intro ah s σ H Q I h;exact UnaryOp_ (cJ (aB ah s σ H _ I h) λv s1 ⟨x,H1,a',bj,aP⟩=>aF ah s1 σ H1 x v Q a' bj aP)
def JB{f:aj->aj->Sem aj}{C:Int->Int->Prop}{g:Int->Int->Int}
  (rule:∀(i j:Int) (t u:Tok) (s:aH) (Q:aj->aH->Prop) (E:aj->aH->Prop),C i j->Q (.int (g i j) s.toks) {s with toks:=s.toks+1}->bc (bu X.prog X.w) X.A (f (.int i t) (.int j u)) Q E s):
  eS X f (Bh C λi j=>.int (g i j)):=by
 intro ah s σ H x y v u Q I aS bk h;obtain⟨i,j,rfl,rfl,au,q⟩:=h;obtain⟨t,rfl⟩:=aS;obtain⟨t',rfl⟩:=bk;exact rule i j t t' s _ _ au ⟨.int (g i j),H,I.tok _,⟨_,rfl⟩,q⟩
def PM{f:aj->aj->Sem aj}{g:Int->Int->Int}
  (rule:∀(i j:Int) (t u:Tok) (s:aH) (Q:aj->aH->Prop) (E:aj->aH->Prop),Q (.int (g i j) s.toks) {s with toks:=s.toks+1}->bc (bu X.prog X.w) X.A (f (.int i t) (.int j u)) Q E s):
  eS X f (mZ λi j=>.int (g i j)):=by
 intro ah s σ H x y v u Q I aS bk h;obtain⟨i,j,rfl,rfl,q⟩:=h;obtain⟨t,rfl⟩:=aS;obtain⟨t',rfl⟩:=bk;exact rule i j t t' s _ _ ⟨.int (g i j),H,I.tok _,⟨_,rfl⟩,q⟩
def Be{f:aj->aj->Sem aj}{g:Int->Int->Bool}
  (rule:∀(i j:Int) (t u:Tok) (s:aH) (Q:aj->aH->Prop) (E:aj->aH->Prop),Q (.bool (g i j)) s->bc (bu X.prog X.w) X.A (f (.int i t) (.int j u)) Q E s):
  eS X f (mZ λi j=>.b0 (g i j)):=by
 intro ah s σ H x y v u Q I aS bk h;obtain⟨i,j,rfl,rfl,q⟩:=h;obtain⟨t,rfl⟩:=aS;obtain⟨t',rfl⟩:=bk;exact rule i j t t' s _ _ ⟨.b0 (g i j),H,I,rfl,q⟩
def UW(i j:Int):Prop:=0<j/\j<1073741824
noncomputable def y9(i j:Int):Prop:=(-(2 ^ 64)<i/\i<2 ^ 64)\/(-(2 ^ 64)<j/\j<2 ^ 64)
def y9.ok{i j:Int}(h:y9 i j):IntMulOk i j:=by
 rcases h with ⟨ai,ao⟩|⟨ai,ao⟩
 ·exact .of_left (intBits_le_64 ai ao)
 ·exact .of_right (intBits_le_64 ai ao)
def alc:eS X (mw .Add) (mZ λi j=>.int (i+j)):=PM λ_ _ _ _ _ _ _ q=>add_int q
def ak':eS X (mw .Sub) (mZ λi j=>.int (i - j)):=PM λ_ _ _ _ _ _ _ q=>sub_int q
def ala:eS X (mw .Mult) (Bh y9 λi j=>.int (i*j)):=JB λ_ _ _ _ _ _ _ au q=>mul_int q au.ok
def akd:eS X (mw .FloorDiv) (Bh UW λi j=>.int (i / j)):=JB λi j _ _ _ _ _ au q=>by
 have ai:(0:Int)<j:=au.1;have ao:j<1073741824:=au.2;exact floordiv_int (by omega) (by rw[Int.fdiv_eq_ediv_of_nonneg i (by omega)];exact q) (.inl (PyProof.noPylong_small (by omega)))
def alb:eS X (mw .Mod) (Bh (λ_ j=>0<j) λi j=>.int (i % j)):=JB λi j _ _ _ _ _ au q=>by
 have ai:(0:Int)<j:=au;exact mod_int' (by omega) (by rw[Int.fmod_eq_emod_of_nonneg i (by omega)];exact q)
def af9{f:aj->Sem aj}{g:Int->Int}
  (rule:∀(i:Int) (t:Tok) (s:aH) (Q:aj->aH->Prop) (E:aj->aH->Prop),Q (.int (g i) s.toks) {s with toks:=s.toks+1}->bc (bu X.prog X.w) X.A (f (.int i t)) Q E s):
  Eg X f (JS λi=>.int (g i)):=by
 intro ah s σ H x v Q I aS h;obtain⟨i,rfl,q⟩:=h;obtain⟨t,rfl⟩:=aS;exact rule i t s _ _ ⟨.int (g i),H,I.tok _,⟨_,rfl⟩,q⟩
def TX:Eg X (unaryOp .USub) (JS λi=>.int (-i)):=af9 λ_ _ _ _ _ q=>neg_int q
end
noncomputable def aeG:V->V->Bool
|.d3,.d3=>true|.d3,.int _=>true|.int _,.d3=>true|.d3,.b0 _=>true|.b0 _,.d3=>true|.d3,.str _=>true|.str _,.d3=>true
|.int _,.int _=>true|.b0 _,.b0 _=>true|.str _,.str _=>true|.l5 _,.l5 _=>true
|.int _,.str _=>true|.str _,.int _=>true|.b0 _,.str _=>true|.str _,.b0 _=>true
|_,_=>false
noncomputable def PT:gu:=λx y H Q=>aeG x y=true/\Q (.b0 (decide (x=y))) H
def akA{i j:Int}:decide (V.int i=V.int j)=(i==j):=by
 rw[Bool.eq_iff_iff];simp
def alr{i j:Bool}:decide (V.b0 i=V.b0 j)=(i==j):=by
 rw[Bool.eq_iff_iff];simp
def akz{i j:Str}:decide (V.str i=V.str j)=(i==j):=by
 rw[Bool.eq_iff_iff];simp
def akB{i j:Array UInt8}:decide (V.l5 i=V.l5 j)=(i.toList==j.toList):=by
 rw[Bool.eq_iff_iff];cases i;cases j;simp
section
variable {X:aV}{a b c:bq}{cF df vh:TE}{pos:Pos}
def jj{ah:List (af×Obj)}{σ:St}{H:aw}{s:aH}{Q:c0}{k iI:Bool}(I:Inv X ah σ H s)(q:Q (.b0 k) H)(e:k=iI):ig X ah σ Q (.bool iI) s:=by
 subst e;exact⟨.b0 k,H,I,rfl,q⟩
def al0:eS X (iz .Eq) PT:=by
 intro ah s σ H x y v u Q I aS bk h;obtain⟨av,q⟩:=h;cases x with
|d3=>
  cases aS
  cases y with
  |d3=>cases bk;exact PySem.EqNone.eq_none_none (jj I q (by simp))
  |b0 j=>cases bk;exact PySem.EqNone.eq_none_bool (jj I q (by simp))
  |int j=>obtain⟨t',rfl⟩:=bk;exact PySem.EqNone.eq_none_int (jj I q (by simp))
  |str j=>obtain⟨t',rfl⟩:=bk;exact PySem.EqNone.eq_none_str (jj I q (by simp))
  |_=>exact absurd (show false=true from av) m'
|b0 i=>
  cases aS
  cases y with
  |d3=>cases bk;exact PySem.EqNone.eq_bool_none (jj I q (by simp))
  |b0 j=>cases bk;exact eq_bool (jj I q alr)
  |str j=>obtain⟨t',rfl⟩:=bk;exact PySem.EqMixed.eq_bool_str (jj I q (by simp))
  |_=>exact absurd (show false=true from av) m'
|int i=>
  obtain⟨t,rfl⟩:=aS;cases y with
  |d3=>cases bk;exact PySem.EqNone.eq_int_none (jj I q (by simp))
  |int j=>obtain⟨t',rfl⟩:=bk;exact eq_int (jj I q akA)
  |str j=>obtain⟨t',rfl⟩:=bk;exact PySem.EqMixed.eq_int_str (jj I q (by simp))
  |_=>exact absurd (show false=true from av) m'
|str i=>
  obtain⟨t,rfl⟩:=aS;cases y with
  |d3=>cases bk;exact PySem.EqNone.eq_str_none (jj I q (by simp))
  |b0 j=>cases bk;exact PySem.EqMixed.eq_str_bool (jj I q (by simp))
  |int j=>obtain⟨t',rfl⟩:=bk;exact PySem.EqMixed.eq_str_int (jj I q (by simp))
  |str j=>obtain⟨t',rfl⟩:=bk;exact eq_str (jj I q akz)
  |_=>exact absurd (show false=true from av) m'
|l5 i=>
  obtain⟨t,rfl⟩:=aS;cases y with
  |l5 j=>obtain⟨t',rfl⟩:=bk;exact PySem.W.eq_bytes (jj I q akB)
  |_=>exact absurd (show false=true from av) m'
|_=>cases y <;> exact absurd (show false=true from av) m'
def yZ:eS X (iz .Lt) (mZ λi j=>.b0 (decide (i<j))):=Be λ_ _ _ _ _ _ _ q=>lt_int q
def ML:eS X (iz .LtE) (mZ λi j=>.b0 (decide (i<=j))):=Be λ_ _ _ _ _ _ _ q=>le_int q
def wa:eS X (iz .Gt) (mZ λi j=>.b0 (decide (j<i))):=Be λ_ _ _ _ _ _ _ q=>gt_int q
def UL:eS X (iz .GtE) (mZ λi j=>.b0 (decide (j<=i))):=Be λ_ _ _ _ _ _ _ q=>ge_int q
def yq:eS X (iz .Lt) (λx y H Q=>∃i j,x=.str i/\y=.str j/\Q (.b0 (decide (i.cps.toList<j.cps.toList))) H):=by
 intro ah s σ H x y v u Q I aS bk h;obtain⟨i,j,rfl,rfl,q⟩:=h;obtain⟨t,rfl⟩:=aS;obtain⟨t',rfl⟩:=bk;exact lt_str (jj I q rfl)
def eS.or{f:aj->aj->Sem aj}{r cq:gu}(h:eS X f r)(h':eS X f cq):eS X f (λx y H Q=>r x y H Q\/cq x y H Q):=by
 intro ah s σ H x y v u Q I aS bk q;rcases q with q|q
 ·exact h ah s σ H x y v u Q I aS bk q
 ·exact h' ah s σ H x y v u Q I aS bk q
def DA(b:bq){op:CmpOp}(h:op≠.In:=by decide)(ao:op≠.NotIn:=by decide):pz op b=false:=by
 have aD:(op==CmpOp.In)=false:=by cases op <;> first|rfl|exact absurd rfl h
 have aL:(op==CmpOp.NotIn)=false:=by cases op <;> first|rfl|exact absurd rfl ao
 cases b <;> simp[pz,aD,aL]
def aj9{op:CmpOp}{r:gu}(aF:eS X (iz op) r)(aB:bK X a cF)(aa:bK X b df)(hm:pz op b=false):bK X (.Compare a [op] [b] pos) (tA r cF df):=by
 intro ah s σ H Q I h;exact wpAny_Compare1 (E6 aB aa I h λv u s2 x y ba b5 aS bk q=>aF ah s2 σ ba x y v u Q b5 aS bk q) hm
noncomputable def UC(t:TE):TT:=λσ H Q=>t σ H λx ae=>∃k,x=.b0 k/\Q k ae
def L8{op:CmpOp}{r:gu}(aF:eS X (iz op) r)(aB:bK X a cF)(aa:bK X b df)(hm:pz op b=false):iE X (.Compare a [op] [b] pos) (UC (tA r cF df)):=by
 intro ah s σ H Q I h;refine wpAny_isTrue_Compare1 (cJ (aB ah s σ H _ I h) λv s1 ⟨x,H1,a',bj,aP⟩=>cJ (aa ah s1 σ H1 _ a' aP) λu s2 ⟨y,ba,b5,b_,a9⟩=>
  cJ (aF ah s2 σ ba x y v u _ b5 bj b_ a9) λc s3 ⟨z,d6,dI,iK,k,e,de⟩=>?_) hm
 subst e;cases iK;exact am6 ⟨d6,dI,de⟩
noncomputable def Nc(K:a6)(x:V)(H:aw)(k:Bool):Prop:=
 match x with
|.d3=>k=false
|.b0 b=>k=b
|.int i=>k=(i != 0)
|.str y=>y.length<=cA/\k=((y.length:Int) != 0)
|.l5 y=>y.size<=cA/\k=((y.size:Int) != 0)
|.ref p=>(∃xs,fH K H p xs/\k=!xs.isEmpty)\/(∃xs,c3 K H p xs/\k=!xs.isEmpty)\/∃kvs,H p=some (.fo kvs)/\k=!kvs.isEmpty
|_=>False
def ahP{eQ:Type}{kvs:List (eQ×V)}{vs:List (eQ×aj)}(r:g9 kvs vs):(!vs.isEmpty)=!kvs.isEmpty:=by
 cases r <;> rfl
def RL{xs:List V}{its:List aj}(r:Vals xs its):(!its.toArray.isEmpty)=!xs.isEmpty:=by
 cases r <;> simp
def vZ:(cA:Nat)<2 ^ 63:=by rw[nc];decide
def akL:Wt X (λx H Q=>∃k,Nc X.K x H k/\Q k H):=by
 intro ah s σ H x v Q I aS h;obtain⟨k,e,q⟩:=h;have aE:=vZ;have av:cA=16777216:=nc;cases x with
|d3=>
  cases aS
  have bP:k=false:=e;subst bP;exact truthy_none ⟨H,I,q⟩
|b0 b=>
  cases aS
  have bP:k=b:=e;subst bP;exact am6 ⟨H,I,q⟩
|int i=>
  obtain⟨t,rfl⟩:=aS;have bP:k=(i != 0):=e;subst bP;exact PySem.P.truthy_int ⟨H,I,q⟩
|str y=>
  obtain⟨t,rfl⟩:=aS;obtain⟨a_,bP⟩:y.length<=cA/\k=((y.length:Int) != 0):=e;subst bP;exact PySem.P.truthy_str (by omega) ⟨H,I.tok _,q⟩
|l5 y=>
  obtain⟨t,rfl⟩:=aS;obtain⟨a_,bP⟩:y.size<=cA/\k=((y.size:Int) != 0):=e;subst bP;exact PySem.W.truthy_bytes (by omega) ⟨H,I.tok _,q⟩
|ref p=>
  cases aS
  have bP:(∃xs,fH X.K H p xs/\k=!xs.isEmpty)\/(∃xs,c3 X.K H p xs/\k=!xs.isEmpty)\/∃kvs,H p=some (.fo kvs)/\k=!kvs.isEmpty:=e;rcases bP with ⟨xs,hx,bP⟩|⟨xs,hx,bP⟩|⟨kvs,hx,bP⟩
  ·subst bP;obtain⟨its,r,pl,aq⟩:=I.list hx;have hlen:=r.length;exact wpAny_truthy_list pl.isList (by simp only[d4];omega) ⟨H,I.tok _,by rw[RL r];exact q⟩
  ·subst bP;obtain⟨its,r,pl,aq⟩:=I.tuple hx;have hlen:=r.length;exact truthy_tuple pl (by simp only[d4];omega) ⟨H,I.tok _,by rw[RL r];exact q⟩
  ·subst bP;obtain⟨aq,fh,vs,r,m⟩:kvs.length<=cA/\(p==sysModules)=false/\∃vs,g9 kvs vs/\s.heap.DictOf (hk X.prog X.w) p vs:=I.bJ p _ hx;have hlen:kvs.length=vs.length:=Paired.length r;exact wpAny_truthy_dict fh m (by omega) ⟨H,I.tok _,by rw[ahP r];exact q⟩
|_=>exact (show False from e).elim
def ai4(aB:bK X a cF)(he:∀whole,isTrue a X.env whole=(do let v <- whole;standAt a.pos;holding [v] (truthy v))):
  iE X a (λσ H Q=>cF σ H λx ae=>∃k,Nc X.K x ae k/\Q k ae):=by
 intro ah s σ H Q I h;exact isTrue_plain (cJ (aB ah s σ H _ I h) λv s1 ⟨x,H1,a',bj,aP⟩=>akL ah s1 σ H1 x v Q a' bj aP) (he _)
def ahJ:eS X (mw .Add) (λx y H Q=>∃i j,x=.str i/\y=.str j/\i.length+j.length<=cA/\Q (.str (i++j)) H):=by
 intro ah s σ H x y v u Q I aS bk h;obtain⟨i,j,rfl,rfl,aq,q⟩:=h;obtain⟨t,rfl⟩:=aS;obtain⟨t',rfl⟩:=bk;exact add_str (λt' tk=>⟨.str (i++j),H,I.tok _,⟨_,rfl⟩,q⟩) aq
def v7{x:V}{us:List aj}(r:Vals [x] us):∃u,us=[u]/\RelV x u:=by
 cases r with
|cons bj b_=>cases b_;exact⟨_,rfl,bj⟩
def alA{x y:V}{us:List aj}(r:Vals [x,y] us):∃u fs,us=[u,fs]/\RelV x u/\RelV y fs:=by
 cases r with
|cons bj b_=>
  cases b_ with
  |cons iK mY=>cases mY;exact⟨_,_,rfl,bj,iK⟩
def aiF(au:X.calm=true):lR X (.builtin "max") (λxs H Q=>∃i j,xs=[.int i,.int j]/\Q (.int (if j > i then j else i)) H):=by
 intro ah s σ H xs us Q I r h;obtain⟨i,j,rfl,q⟩:=h;obtain⟨u,fs,rfl,⟨t,rfl⟩,⟨t',rfl⟩⟩:=alA r;refine max_two_ints (I.ok.hd au) λh' tk k=>⟨_,H,I.kept k,?_,q⟩;by_cases bI:j > i
 ·rw[if_pos bI,if_pos bI];exact⟨_,rfl⟩
 ·rw[if_neg bI,if_neg bI];exact⟨_,rfl⟩
end
end a7
namespace a7
open PySem PySem.Spec PyProof.Rows
structure amW(h:bz)(x bf C:af)(eH:Str->Option aj):Prop where
 obj:h.get? x=some (rJ C bf)
 ns:h.Ns1 bf eH
 ne:bf≠x
def ail{h:bz}{bf:af}{eH:Str->Option aj}(n:h.Ns1 bf eH):∃eI,h.get? bf=some eI/\∀name,PySem.W.lookIn name eI=some (eH name):=by
 obtain⟨o,es,ep,aF,hd,aK,_,hm⟩:=n;refine⟨o,aF,λname=>?_⟩;have e:=hm name;unfold nsFind findBy at e;rw[<- Array.find?_toList] at e;unfold PySem.W.lookIn;rw[hd];dsimp only;split
 ·rename_i y q
  rw[q] at e;exact congrArg some e
 ·rename_i q
  rw[q] at e;have a:es.toList.any (·.refKey)=false:=by
   rw[List.any_eq_false];intro y a_;obtain⟨z,t,_o⟩:=aK y (Array.mem_toList_iff.mp a_);simp[DictEntry.refKey,_o]
  have k9:¬es.toList.any (·.refKey)=true:=by rw[a];exact m'
  rw[if_neg k9];exact congrArg some e
def amW.look{h:bz}{x bf C:af}{eH:Str->Option aj}(I:amW h x bf C eH):∃eI,PySem.W.InstAt h x (rJ C bf) C (some eI)/\∀name,PySem.W.lookIn name eI=some (eH name):=
 let ⟨eI,aF,aE⟩:=ail I.ns
 ⟨eI,⟨I.obj,rfl,rfl,aF⟩,aE⟩
section
variable {prog:cC}{w:b6}{A:cH}{E:aj->aH->Prop}{s:aH}{K:a6}{x bf C f:af}{eH:Str->Option aj}{name:Str}{v:aj}
def aks{expr:Bool}{Q:aj->aH->Prop}(X:K.In s.heap)(I:amW s.heap x bf C eH)(bt:PySem.W.plainGet K C name=true)(cD:PySem.W.hasDictIn K C=true)
  (aB:ko K (.ref C) name=some none) (bo:eH name=some v) (o4:PySem.W.handedIn v=true) (h:Q v {s with toks:=s.toks+1}):
  bc (bu prog w) A (getAttr (.ref x) name expr) Q E s:=by
 obtain⟨eI,J,aE⟩:=I.look;exact PySem.W.get_value X J (PySem.W.plainGet_of bt).1 (PySem.W.findObj_own cD aB rfl (by rw[aE,bo])) o4 h
def ajy{pl:Sem Bool}{Q:aj×List aj->aH->Prop}(X:K.In s.heap)(I:amW s.heap x bf C eH)(bt:PySem.W.plainGet K C name=true)
  (hf:ko K (.ref C) name=some (some (.ref f))) (bh:PySem.W.isFn K (.ref f)=true) (bo:eH name=none) (h:Q (.ref f,[.ref x]) s):
  bc (bu prog w) A (getMethod (.ref x) name pl) Q E s:=by
 obtain⟨eI,J,aE⟩:=I.look;exact PySem.W.method_fn X J (PySem.W.plainGet_of bt).1 (PySem.W.plainGet_of bt).2 hf (beq_iff_eq.mp bh) (by show (PySem.W.lookIn name eI).map (·.isSome)=some false;rw[aE,bo];rfl) h
def ajP{ns:List Str}{Q:Unit->aH->Prop}(X:K.In s.heap)(I:amW s.heap x bf C eH)
  (av:ko K (.ref C) "__setattr__"=some (some (.builtin "object.__setattr__"))) (aN:PySem.W.plainOver K C=true) (bh:PySem.W.takerIn K C name=some none) (cD:PySem.W.hasDictIn K C=true)
  (hw:PySem.Within eH ns) (hsz:ns.length<=cA)
  (h:∀h',amW h' x bf C (λy=>if y=name then some v else eH y)->Heap.SameBut bf s.heap h'->Q () {s with heap:=h',toks:=s.toks+2}):
  bc (bu prog w) A (setAttr (.ref x) name v) Q E s:=by
 obtain⟨eI,J,aE⟩:=I.look;refine PySem.W.set_plain X J av (PySem.W.osa_open (s:={s with toks:=s.toks+1}) (r:=none) X J aN bh λb=>?_);obtain⟨cd,au,GG⟩:=PySem.W.any_some cD;have hx:s.heap.get? x=some ⟨.ref C,some bf,.plain,#[]⟩:=I.obj;refine aR (cf (aR (aR (wpAny_loadPart hx (aR (PySem.W.Looks.here (s:={s with toks:=s.toks+1}) (PySem.W.looks_clsIn X au) ?_))))));rw[GG];refine cf (a:=some bf) (aR (cf (aR ?_)));refine wpAny_nsSet1 (s:={s with toks:=s.toks+1}) I.ns λh' Aj hg=>?_;obtain⟨oD,amg,amf,_C,Z7,p_⟩:=Aj.count (PySem.Within.cons name v hw);refine aR (wpAny_lookBehind _C (by rw[Z7];exact pastItsLine_dict (mn p_ (by rw[e_];omega))) ?_);exact cf (h _ ⟨(hg.2 _ (Ne.symm I.ne)).trans I.obj,Aj,I.ne⟩ hg)
def ajl{R:Result->aH->Prop}{vs:List aj}{kw:List (Str×aj)}(X:K.In s.heap)(hm:PySem.W.makesIn K C=true)
  (aM:ko K (.ref C) "__init__"=some (some (.ref f))) (hf:PySem.W.typeIn K (.ref f)=some (.type "function"))
  (h:h7 (bu prog w) (A.under (.builtin "type.__call__" ⟨.ref C::vs,kw⟩)) (.call (.ref f) ⟨.ref (s.heap.objs.size+1)::vs,kw⟩) (PySem.W.InitBack (s.heap.objs.size+1) R)
   {s with heap:=(s.heap.push qo).push (rJ C s.heap.objs.size)}):
  h7 (bu prog w) A (.call (.ref C) ⟨vs,kw⟩) R s:=by
 obtain⟨cD,g,d,t,os⟩:=s;exact PySem.W.make_core (PySem.W.makes_of X hm) (PySem.W.looks_findIn X aM) (λself=>PySem.W.bind_fn X self hf) (.inl rfl) h
end
noncomputable def gY(f:Str)(v:V):List (Str×V)->List (Str×V)
  | []=>[(f,v)]
  | (g,x)::r=>if g=f then (g,v)::r else (g,x)::gY f v r
theorem Ri(f g:Str)(v:V):∀aA:List (Str×V),(gY f v aA).lookup g=if g=f then some v else aA.lookup g
  | []=>by
    show jC g [(f,v)]=_
    by_cases h:g=f
    · have aa:(g==f)=true:=beq_iff_eq.mpr h
      simp only[jC,aa,if_pos h]
    · have aa:(g==f)=false:=beq_eq_false_iff_ne.mpr h
      simp only[jC,aa,if_neg h]
  | (k,x)::r=>by
    have b1:=Ri f g v r;rw[show gY f v ((k,x)::r)=(if k=f then (k,v)::r else (k,x)::gY f v r) from rfl];by_cases aK:k=f
    · rw[if_pos aK]
      by_cases h:g=k
      · have aa:(g==k)=true:=beq_iff_eq.mpr h
        simp only[jC,aa,if_pos (h.trans aK)]
      · have aa:(g==k)=false:=beq_eq_false_iff_ne.mpr h
        simp only[jC,aa,if_neg (λe:g=f=>h (e.trans aK.symm))]
    · rw[if_neg aK]
      by_cases h:g=k
      · have aa:(g==k)=true:=beq_iff_eq.mpr h
        simp only[jC,aa,if_neg (λe:g=f=>aK (h.symm.trans e))]
      · have aa:(g==k)=false:=beq_eq_false_iff_ne.mpr h
        simp only[jC,aa];exact b1
theorem Lu(f:Str)(v:V):∀aA:List (Str×V),f∈(gY f v aA).map (·.1)/\∀g,g∈aA.map (·.1)->g∈(gY f v aA).map (·.1)
  | []=>⟨by simp[gY],λg h=>by simp at h⟩
  | (k,x)::r=>by
    obtain⟨bX,b4⟩:=Lu f v r;rw[show gY f v ((k,x)::r)=(if k=f then (k,v)::r else (k,x)::gY f v r) from rfl];by_cases aK:k=f
    · rw[if_pos aK]
      subst aK;exact⟨by simp,λg h=>by simpa using h⟩
    · rw[if_neg aK]
      refine⟨?_,λg h=>?_⟩
      · rw[dr]
        exact dR _ bX
      · rw[dr] at h ⊢
        rcases cM.mp h with e|e
        · exact cM.mpr (.inl e)
        · exact dR _ (b4 g e)
theorem Rl(f:Str)(v:V):∀aA:List (Str×V),(gY f v aA).length<=aA.length+1
  | []=>by simp[gY]
  | (k,x)::r=>by
    have b1:=Rl f v r;rw[show gY f v ((k,x)::r)=(if k=f then (k,v)::r else (k,x)::gY f v r) from rfl];by_cases aK:k=f
    · rw[if_pos aK,e_,e_];omega
    · rw[if_neg aK,e_,e_];omega
def kb.some_of{v:V}{o:Option aj}(r:kb (some v) o):∃u,o=some u/\RelV v u:=by
 cases o with
|none=>exact (show False from r).elim
|some u=>exact⟨u,rfl,r⟩
def kb.none_of{o:Option aj}(r:kb none o):o=none:=by
 cases o with
|none=>rfl
|some u=>exact (show False from r).elim
def aix{v:V}{u:aj}(r:RelV v u):PySem.W.handedIn u=true:=by
 cases v with
|d3=>cases (show u=Value.none from r);rfl
|b0 b=>cases (show u=Value.bool b from r);rfl
|int i=>obtain⟨t,e⟩:=(show ∃t,u=Value.int i t from r);cases e;rfl
|str x=>obtain⟨t,e⟩:=(show ∃t,u=Value.str x t from r);cases e;rfl
|l5 b=>obtain⟨t,e⟩:=(show ∃t,u=Value.bytes b t from r);cases e;rfl
|wK b=>obtain⟨t,e⟩:=(show ∃t,u=Value.float b t from r);cases e;rfl
|ref a=>cases (show u=Value.ref a from r);rfl
|ty n=>cases (show u=Value.type n from r);rfl
section
variable {P:cC}{w:b6}{H ae:aw}{h h':bz}{a C bf:af}{aA hW:List (Str×V)}
def Mb(bJ:eC P w H h)(e:H a=some (.ins C bf aA)):∃eH,amW h a bf C eH/\(∀f,kb (aA.lookup f) (eH f))/\PySem.Within eH (aA.map (·.1))/\aA.length<=1000/\H bf=some (.own a):=by
 obtain⟨d,z,ne,dc,eH,n,r,q⟩:=(show hn P w H h a (.ins C bf aA) from bJ a _ e);exact⟨eH,⟨dc,n,ne⟩,r,q,z,d⟩
end
structure nx(K:a6)(C:af):Prop where
 pg:PySem.W.plainGet K C Str.empty=true
 hd:PySem.W.hasDictIn K C=true
 po:PySem.W.plainOver K C=true
 sa:ko K (.ref C) "__setattr__"=some (some (.builtin "object.__setattr__"))
def nx.get{K:a6}{C:af}(c:nx K C)(f:Str):PySem.W.plainGet K C f=true:=c.pg
noncomputable def qE(K:a6)(C:af)(f:Str):Prop:=ko K (.ref C) f=some none
def qE.af2{K:a6}{C:af}{f:Str}(n:qE K C f):PySem.W.takerIn K C f=some none:=by
 unfold PySem.W.takerIn;rw[show ko K (.ref C) f=some none from n];rfl
structure Meth(K:a6)(C:af)(m:Str)(f:af):Prop where
 at_:ko K (.ref C) m=some (some (.ref f))
 fn:PySem.W.isFn K (.ref f)=true
 az:m9 K (.ref f)=true
section
variable {X:aV}{ah:List (af×Obj)}{σ:St}{H:aw}{s:aH}{a C bf:af}{aA:List (Str×V)}{f:Str}{v:V}{A:cH}{E:aj->aH->Prop}
def RP{b:Bool}{Q:aj->aH->Prop}(I:Inv X ah σ H s)(e:H a=some (.ins C bf aA))(c:nx X.K C)(n:qE X.K C f)(l:aA.lookup f=some v)
  (h:∀u s',Inv X ah σ H s'->RelV v u->Q u s'):bc (bu X.prog X.w) A (getAttr (.ref a) f b) Q E s:=by
 obtain⟨eH,O,r,_,_,_⟩:=Mb I.bJ e;obtain⟨u,cn,c7⟩:=kb.some_of (v:=v) (o:=eH f) (by rw[<- l];exact r f);exact aks I.jx O (c.get f) c.hd n cn (aix c7) (h u _ (I.tok _) c7)
def RO{m:Str}{g:af}{pl:Sem Bool}{Q:aj×List aj->aH->Prop}(I:Inv X ah σ H s)(e:H a=some (.ins C bf aA))(c:nx X.K C)(k:Meth X.K C m g)(l:aA.lookup m=none)
  (h:Q (.ref g,[.ref a]) s):bc (bu X.prog X.w) A (getMethod (.ref a) m pl) Q E s:=by
 obtain⟨eH,O,r,_,_,_⟩:=Mb I.bJ e;have a5:eH m=none:=kb.none_of (by rw[<- l];exact r m);exact ajy I.jx O (c.get m) k.at_ k.fn a5 h
def Ru{y:V}{u:aj}{Q:Unit->aH->Prop}(I:Inv X ah σ H s)(e:H a=some (.ins C bf aA))(c:nx X.K C)(n:qE X.K C f)(aE:aA.length<1000)(bk:RelV y u)
  (h:∀s',Inv X ah σ (upd H a (.ins C bf (gY f y aA))) s'->Q () s'):bc (bu X.prog X.w) A (setAttr (.ref a) f u) Q E s:=by
 obtain⟨eH,O,r,ql,_,aF⟩:=Mb I.bJ e;have aq:(aA.map (·.1)).length<=cA:=by rw[hi,nc];omega
 refine ajP I.jx O c.sa c.po n.af2 c.hd ql aq λh' nB iM=>h _ ?_
 have hd:∃o,h'.get? bf=some o:=let ⟨o,_,_,bP,_⟩:=nB.ns;⟨o,bP⟩;refine I.write (x:=a) (e:=bf) (by rw[e];exact True.intro) (.inr aF) (λb q aa z=>(iM.2 b aa).trans z) hd ?_;refine⟨by rw[cK O.ne];exact aF,?_,O.ne,nB.obj,_,nB.ns,λg=>?_,λg bt=>?_⟩
 ·have:=Rl f y aA;omega
 ·show kb ((gY f y aA).lookup g) (if g=f then some u else eH g)
  rw[Ri];by_cases q:g=f
  ·rw[if_pos q,if_pos q];exact bk
  ·rw[if_neg q,if_neg q];exact r g
 ·by_cases q:g=f
  ·rw[q];exact (Lu f y aA).1
  ·refine (Lu f y aA).2 g (ql g λz=>bt ?_)
   show (if g=f then some u else eH g)=none
   rw[if_neg q];exact z
def Inv.made(I:Inv X ah σ H s):Inv X ah σ (upd (upd H s.heap.objs.size (.own (s.heap.objs.size+1))) (s.heap.objs.size+1) (.ins C s.heap.objs.size []))
  {s with heap:=(s.heap.push qo).push (rJ C s.heap.objs.size)}:=by
 have aD:(s.heap.push qo).get? s.heap.objs.size=some qo:=gI s.heap rfl;have aL:((s.heap.push qo).push (rJ C s.heap.objs.size)).get? (s.heap.objs.size+1)=some (rJ C s.heap.objs.size):=by
  have:=gI (s.heap.push qo) (o:=rJ C s.heap.objs.size) rfl
  rwa [kp] at this
 have eM:(s.heap.push qo).Ns s.heap.objs.size (λ_=>none):=⟨qo,#[],_,aD,rfl,(λe he=>absurd he (by simp)),λ_=>rfl⟩;have a':=I.laid (a:=s.heap.objs.size) (o:=.own (s.heap.objs.size+1)) (h':=s.heap.push qo) (t':=s.toks) (λb u q=>cZ _ q) (dS _) ⟨_,aD⟩;refine a'.laid (a:=s.heap.objs.size+1) (o:=.ins C s.heap.objs.size []) (t':=s.toks) (λb u q=>cZ _ q) (Nat.le_of_eq (kp _ _)) ?_;have ne:s.heap.objs.size≠s.heap.objs.size+1:=ez (Nat.lt_succ_self _);refine⟨by rw[cK ne,dM],kT _,ne,aL,λ_=>none,(Heap.Ns1.of_empty eM).at λo q=>cZ _ q,λ_=>True.intro,λy a_=>absurd rfl a_⟩
def akG{prog:cC}{w:b6}{env:Env}{e:bq}{f:Str}{pos:Pos}{s:aH}{Q:aj->aH->Prop}(aa:jF e f env (eval e env)=eval e env)
  (h:bc (bu prog w) A (eval e env) (λo c'=>bc (bu prog w) A (getAttr o f true) Q E c') E s):bc (bu prog w) A (eval (.Attribute e f pos) env) Q E s:=
 Attribute_any_ h (by rw[arm_eval_Attribute,aa])
end
noncomputable def afJ(K:a6)(cF:TE)(f:Str):TE:=λσ H Q=>cF σ H λx H1=>∃a C bf aA v,x=.ref a/\H1 a=some (.ins C bf aA)/\nx K C/\qE K C f/\aA.lookup f=some v/\Q v H1
noncomputable def aeF(K:a6)(cF iP:TE)(f:Str):f3:=λD σ H=>iP σ H λy H1=>cF σ H1 λx ba=>∃a C bf aA,x=.ref a/\ba a=some (.ins C bf aA)/\nx K C/\qE K C f/\aA.length<1000 /\
 D.bO σ (upd ba a (.ins C bf (gY f y aA)))
noncomputable def D5(X:aV)(op:Operator)(kP:V->V->aw->c0->Prop):Prop:=
 ∀(ah:List (af×Obj)) (s:aH) (σ:St) (H:aw) (x y:V) (u v:aj) (Q:c0),Inv X ah σ H s->RelV x u->RelV y v->kP x y H Q->bc (bu X.prog X.w) X.A (inplaceOp op u v) (ig X ah σ Q) X.di s
noncomputable def ajS(K:a6)(cF iP:TE)(kP:V->V->aw->c0->Prop)(f:Str):f3:=λD σ H=>cF σ H λx H1=>∃a C bf aA v,x=.ref a/\H1 a=some (.ins C bf aA)/\nx K C/\qE K C f/\aA.lookup f=some v /\
 iP σ H1 λy ba=>kP v y ba λz d6=>∃uQ hW,d6 a=some (.ins C uQ hW)/\hW.length<1000/\D.bO σ (upd d6 a (.ins C uQ (gY f z hW)))
section
variable {X:aV}{o e value:bq}{f:Str}{pos pos' Kf:Pos}{cF iP:TE}
def pG(he:bK X e cF)(aa:jF e f X.env (eval e X.env)=eval e X.env):bK X (.Attribute e f pos) (afJ X.K cF f):=by
 intro ah s σ H Q I h;refine akG aa (cJ (he ah s σ H _ I h) λu s1 ⟨x,H1,a',aS,a,C,bf,aA,v,ex,ea,c,n,l,q⟩=>?_);subst ex;obtain rfl:u=Value.ref a:=aS;exact RP a' ea c n l λtD s2 b5 c7=>⟨v,H1,b5,c7,q⟩
def Mv(aB:bK X o cF)(bo:bK X value iP)(av:amF value (some (.Attribute o f pos')) pos.line X.env=pure false):jr X (.Assign [.Attribute o f pos'] value pos) (aeF X.K cF iP f):=by
 intro ah s σ H D I h;refine plainObj_wpAny_Assign_Attribute (cJ (bo ah s σ H _ I h) λu s1 ⟨y,H1,a',bk,q⟩=>cJ (aB ah s1 σ H1 _ a' q) λeo s2 ⟨x,ba,b5,aS,a,C,bf,aA,ex,ea,c,n,l,a9⟩=>?_) av;subst ex;obtain rfl:eo=Value.ref a:=aS;exact Ru b5 ea c n l bk λs3 dI=>⟨σ,_,dI,a9⟩
def aib{op:Operator}{kP:V->V->aw->c0->Prop}(aB:bK X o cF)(bo:bK X value iP)(GZ:D5 X op kP):jr X (.AugAssign (.Attribute o f Kf) op value pos) (ajS X.K cF iP kP f):=by
 intro ah s σ H D I h;refine wpAny_AugAssign_AttributeAny (cJ (aB ah s σ H _ I h) λeo s1 ⟨x,H1,a',aS,a,C,bf,aA,v,ex,ea,c,n,l,q⟩=>?_);subst ex;obtain rfl:eo=Value.ref a:=aS;refine RP a' ea c n l λu s2 b5 c7=>cJ (bo ah s2 σ H1 _ b5 q) λrG s3 ⟨y,ba,dI,bk,de⟩=>cJ (GZ ah s3 σ ba v y u rG _ dI c7 bk de) λw4 s4 ⟨z,d6,jQ,JY,uQ,hW,Zj,o7,jZ⟩=>?_;exact Ru jQ Zj c n o7 JY λs5 nA=>⟨σ,_,nA,jZ⟩
noncomputable def aeq:V->V->aw->c0->Prop:=λx y H Q=>∃i j,x=.int i/\y=.int j/\Q (.int (i+j)) H
def Un:D5 X .Add aeq:=by
 rintro ah s σ H x y u v Q I aS bk ⟨i,j,rfl,rfl,q⟩;obtain⟨t,rfl⟩:=(show ∃t,u=Value.int i t from aS);obtain⟨t',rfl⟩:=(show ∃t',v=Value.int j t' from bk);exact PyProof.Rows.iadd_int ⟨.int (i+j),H,I.tok _,⟨_,rfl⟩,q⟩
end
end a7
namespace a7
open PySem PySem.Spec PyProof.Rows
structure c2(k:Nat)(A:cH):Prop where
 hd:A.handled=none
 zr:A.depth+3*k+5<recursionLimit
 un:A.units+16*k+200<cLine
def c2.mono{j k:Nat}{A:cH}(r:c2 k A)(h:j<=k):c2 j A:=⟨r.hd,by have:=r.zr;omega,by have:=r.un;omega⟩
theorem c2.deeper{k:Nat}{A:cH}(r:c2 (k+1) A)(env:Env):c2 k (A.deeper env):=
 ⟨r.hd,by have:=r.zr;show A.depth+1+3*k+5<_;omega,by have:=r.un;show A.units+3+16*k+200<_;omega⟩
def ahN{A:cH}{C:af}{us:List aj}{kw:List (Str×aj)}:(A.under (.builtin "type.__call__" ⟨.ref C::us,kw⟩)).depth=A.depth+1:=by
 first|rfl|simp[Around.under,Code.weight,Code.isCreation,Code.isGuard,Code.isCaller,Code.frames,Code.isFrame,guardIds]
def ahM{A:cH}{C:af}{us:List aj}{kw:List (Str×aj)}:(A.under (.builtin "type.__call__" ⟨.ref C::us,kw⟩)).units=A.units+1:=by
 first|rfl|simp[Around.under,Code.cUnits,Code.frames,Code.isFrame]
def c2.make{k:Nat}{A:cH}(r:c2 (k+1) A)(C:af)(us:List aj)(kw:List (Str×aj)):c2 k (A.under (.builtin "type.__call__" ⟨.ref C::us,kw⟩)):=
 ⟨r.hd,by have:=r.zr;rw[ahN];omega,by have:=r.un;rw[ahM];omega⟩
theorem c2.depth{k:Nat}{A:cH}(r:c2 k A):A.depth<recursionLimit:=by have:=r.zr;omega
theorem c2.units{k:Nat}{A:cH}(r:c2 k A):A.units+64<cLine:=by have:=r.un;omega
def m4:gi:=λ_ H Q=>Q [] H
noncomputable def iY(cF:TE)(tr:gi):gi:=λσ H Q=>cF σ H λx H1=>tr σ H1 λxs ba=>Q (x::xs) ba
section
variable {X:aV}{e:bq}{es:List bq}{hF:TE}{t:gi}{pos:Pos}
def h_:hp X [] m4:=λ_ _ _ _ H Q I h=>Calls.spliced_nil ⟨[],H,I,.nil,h⟩
def fu(aB:bK X e hF)(ax:hp X es t)(av:bB (e::es) X.env=(false,eval e X.env)::bB es X.env:=by rfl):hp X (e::es) (iY hF t):=by
 intro pos ah s σ H Q I h;rw[av];show bc _ _ (spliced ((false,eval e X.env)::dZ pos (bB es X.env))) _ _ s;refine Calls.spliced_cons (cJ (aB ah s σ H _ I h) λu s1 ⟨x,H1,a',bj,aP⟩=>?_);exact cJ (ax pos ah s1 σ H1 _ a' aP) λus s2 ⟨xs,ba,b5,b_,a9⟩=>⟨x::xs,ba,b5,.cons bj b_,a9⟩
noncomputable def vg(t:gi):TE:=λσ H Q=>t σ H λxs H1=>xs.length<=cA/\∀p,H1 p=none->Q (.ref p) (upd H1 p (.tup xs))
noncomputable def Qg(t:gi):TE:=λσ H Q=>t σ H λxs H1=>xs.length<=cA/\∀p,H1 p=none->Q (.ref p) (upd H1 p (.lst xs))
def yK{aO}(h:hp X es t):bK X (.Tuple es aO pos) (vg t):=by
 intro ah s σ H Q I bb;refine wpAny_Tuple_spliced (cJ (h pos ah s σ H _ I bb) λus s1 ⟨xs,H1,a',r,z,q⟩=>⟨by rw[<- r.length];exact z,?_⟩);have hf:H1 s1.heap.objs.size=none:=a'.bJ.fresh (dS _);refine⟨.ref s1.heap.objs.size,upd H1 s1.heap.objs.size (.tup xs),a'.laid (t':=s1.toks) (λb u e=>cZ _ e) (dS _) ?_,rfl,q _ hf⟩;exact⟨z,us,r,⟨_,gI _ rfl,rfl,_,rfl⟩⟩
def T_(h:hp X es t):bK X (.List es pos) (Qg t):=by
 intro ah s σ H Q I bb;refine wpAny_List_spliced (cJ (h pos ah s σ H _ I bb) λus s1 ⟨xs,H1,a',r,z,q⟩=>⟨by rw[<- r.length];exact z,?_⟩);have hf:H1 s1.heap.objs.size=none:=a'.bJ.fresh (dS _);refine⟨.ref s1.heap.objs.size,upd H1 s1.heap.objs.size (.lst xs),a'.laid (t':=s1.toks) (λb u e=>cZ _ e) (dS _) ?_,rfl,q _ hf⟩;exact⟨z,us,0,r,gI _ rfl⟩
end
abbrev kc:=List V->aw->c0->e0->Prop
abbrev lU:=List Env->aw->aH->e0->aj->aH->Prop
structure ny(P:cC)(w:b6)(K:a6)(mg:Str->Option aj)(base:bz)(A:cH)(outer:List Env)(s:aH)(H:aw):Prop where
 frames:A.frames=some outer
 mod:Mod K mg base
 bs:∀b o,base.get? b=some o->s.heap.get? b=some o/\H b=none
 nG:base.objs.size<=s.heap.objs.size
 kJ:s.heap.FunFrames base outer
 oU:∀b∈e6 outer,H b=none
 bJ:eC P w H s.heap
 bare:AllBare s.gens
noncomputable def y8(outer:List Env)(P:cC)(w:b6)(H:aw)(s:aH)(Q:c0)(u:aj)(s':aH):Prop:=
 ∃v ae,s'.os=s.os/\AllBare s'.gens/\fU (e6 outer) [] H ae s.heap s'.heap/\eC P w ae s'.heap/\RelV v u/\Q v ae
noncomputable def oF(eh:lU)(outer:List Env)(P:cC)(w:b6)(H:aw)(s:aH)(Q:c0)(E:e0)(r:Result)(s':aH):Prop:=
 match r with
|.ok (.ret u)=>y8 outer P w H s Q u s'
|.ok _=>False
|.error e=>eh outer H s E e s'
structure eR(P:cC)(w:b6)(K:a6)(mg:Str->Option aj)(base:bz)(eh:lU)(k:Nat)(f:af)(fd:et)(ps:List Str)(sp:kc):Prop where
 len:∀vs H Q E,sp vs H Q E->vs.length=ps.length
 run:∀(A:cH) (outer:List Env) (s:aH) (H:aw) (args:Args) (us:List aj) (vs:List V) (Q:c0) (E:e0),c2 k A->ny P w K mg base A outer s H->BindsTo s fd args (ps.zip us)->Vals vs us->sp vs H Q E ->
  h7 (bu P w) A (.call (.ref f) args) (oF eh outer P w H s Q E) s
theorem eR.mono{P:cC}{w:b6}{K:a6}{mg:Str->Option aj}{base:bz}{eh:lU}{j k:Nat}{f:af}{fd:et}{ps:List Str}{sp:kc}(F:eR P w K mg base eh j f fd ps sp)(h:j<=k):
  eR P w K mg base eh k f fd ps sp:=⟨F.len,λA outer s H args us vs Q E ax=>F.run A outer s H args us vs Q E (ax.mono h)⟩
def eR.imp{P:cC}{w:b6}{K:a6}{mg:Str->Option aj}{base:bz}{eh:lU}{k:Nat}{f:af}{fd:et}{ps:List Str}{sp P6:kc}(F:eR P w K mg base eh k f fd ps sp)
  (h:∀vs H Q E,P6 vs H Q E->sp vs H Q E):eR P w K mg base eh k f fd ps P6:=
 ⟨λvs H Q E q=>F.len vs H Q E (h _ _ _ _ q),λA outer s H args us vs Q E ax he aa bo av=>F.run A outer s H args us vs Q E ax he aa bo (h _ _ _ _ av)⟩
def ny.make{P:cC}{w:b6}{K:a6}{mg:Str->Option aj}{base:bz}{A:cH}{outer:List Env}{s:aH}{H:aw}(e:ny P w K mg base A outer s H)(C:af)(us:List aj)(kw:List (Str×aj)):
  ny P w K mg base (A.under (.builtin "type.__call__" ⟨.ref C::us,kw⟩)) outer s H:=⟨by first|exact e.frames|(simpa [Around.under,Code.envs,Code.isFrame,pushEnvs] using e.frames),e.mod,e.bs,e.nG,e.kJ,e.oU,e.bJ,e.bare⟩
section
variable {X:aV}{ah:List (af×Obj)}{σ:St}{H:aw}{s s':aH}
def Inv.uW(I:Inv X ah σ H s):ny X.prog X.w X.K X.mg X.base X.A X.stack s H:=
 ⟨I.ok.frames,I.ok.mod,I.bs,mn I.ok.nG I.iO,I.stack,I.J6,I.bJ,I.bare⟩
def Inv.after{Q:c0}{u:aj}(I:Inv X ah σ H s)(h:y8 X.stack X.prog X.w H s Q u s'):ig X ah σ Q u s':=by
 obtain⟨v,ae,os,bare,un,bJ,r,q⟩:=h;obtain⟨cD,g,d,t,adw⟩:=s';obtain rfl:adw=s.os:=os;exact⟨v,ae,I.call (h':=cD) (g':=g) (d':=d) (t':=t) (ch:=[]) un bJ bare (λb z=>absurd z (by simp)),r,q⟩
end
noncomputable def alJ(sp:kc)(il:List V)(E:e0)(t:gi):TE:=λσ H Q=>t σ H λvs H1=>sp (vs++il) H1 Q E
noncomputable def UE(C:af)(m:Str)(sp:kc)(il:List V)(E:e0)(cF:TE)(t:gi):TE:=λσ H Q=>cF σ H λx H1=>∃a bf aA,x=.ref a/\H1 a=some (.ins C bf aA)/\aA.lookup m=none /\
 t σ H1 λvs ba=>sp (x::(vs++il)) ba Q E
noncomputable def alG(C:af)(sp:kc)(il:List V)(E:e0)(t:gi):TE:=λσ H Q=>t σ H λvs H1=>∀x bf,H1 x=none->H1 bf=none->bf≠x ->
 sp (.ref x::(vs++il)) (upd (upd H1 bf (.own x)) x (.ins C bf [])) (λv ba=>v=.d3/\Q (.ref x) ba) E
noncomputable def fG(K:a6)(fd:et)(ps:List Str)(ds:List aj):Prop:=
 ∀(s:aH) (us:List aj),K.In s.heap->(us++ds).length=ps.length->BindsTo s fd ⟨us,[]⟩ (ps.zip (us++ds))
def fG.all{K:a6}{fd:et}{ps:List Str}(h:∀us:List aj,us.length=ps.length->bindArgs fd ⟨us,[]⟩=pure (ps.zip us)):fG K fd ps []:=λs us _ aE=>by
 rw[amE] at aE ⊢;exact .of_eq (h us aE)
noncomputable def r9(eh:lU)(X:aV)(E:e0):Prop:=∀(ah:List (af×Obj)) (σ:St) (H:aw) (s:aH) (e:aj) (s':aH),Inv X ah σ H s->eh X.stack H s E e s'->X.di e s'
section
variable {X:aV}{eh:lU}{k:Nat}{f C:af}{fd:et}{ps:List Str}{sp:kc}{il:List V}{ds:List aj}{E:e0}{x m:Str}{p pos apos:Pos}{e o:bq}{es:List bq}{cF:TE}{t:gi}
def Ms{ah:List (af×Obj)}{σ:St}{H:aw}{s:aH}{Q:c0}{us:List aj}{vs:List V}(F:eR X.prog X.w X.K X.mg X.base eh k f fd ps sp)(ax:c2 k X.A)(aa:fG X.K fd ps ds)(hd:Vals il ds)(hx:r9 eh X E)
  (I:Inv X ah σ H s) (r:Vals vs us) (h:sp (vs++il) H Q E):bc (bu X.prog X.w) X.A (call (.ref f) us) (ig X ah σ Q) X.di s:=by
 have b_:Vals (vs++il) (us++ds):=r.append hd;have aE:(us++ds).length=ps.length:=by rw[<- b_.length];exact F.len _ _ _ _ h
 refine rM (pw (F.run X.A X.stack s H ⟨us,[]⟩ (us++ds) (vs++il) Q E ax I.uW (aa s us I.jx aE) b_ h) λr s' bb=>?_)
 cases r with
|error e=>exact hx ah σ H s e s' I bb
|ok dE=>
  cases dE with
  |ret u=>exact I.after bb
  |next=>exact eL bb
  |brk=>exact eL bb
  |cont=>exact eL bb
def yB(F:eR X.prog X.w X.K X.mg X.base eh k f fd ps sp)(ax:c2 k X.A)(bt:ew X x)(hm:X.mg x=some (.ref f))(aK:m9 X.K (.ref f)=true)(aa:fG X.K fd ps ds)(hd:Vals il ds)(hx:r9 eh X E)
  (aB:hp X (e::es) t) (gn:(x==("__debug__":Str))=false:=by decide) (he:bB (e::es) X.env=(false,eval e X.env)::bB es X.env:=by rfl) (hpl:(dZ pos (bB es X.env)).any (·.1)=false:=by rfl):
  bK X (.Call (.Name x p) (e::es) [] pos) (alJ sp il E t):=by
 intro ah s σ H Q I h;refine pq (ue I bt hm ?_ gn);refine PySem.W.callWith_K (h₀:=X.base) I.ok.mod.o5 aK (cJ (aB pos ah s σ H _ I h) λus s1 ⟨vs,H1,a',r,q⟩=>⟨a'.jx,?_⟩) he hpl;exact Ms F ax aa hd hx a' r q
def Tq{pl:Sem Bool}(he:bK X o cF)(c:nx X.K C)(hm:Meth X.K C m f)(F:eR X.prog X.w X.K X.mg X.base eh k f fd ps sp)(ax:c2 k X.A)(aa:fG X.K fd ps ds)(hd:Vals il ds)(hx:r9 eh X E)(aB:hp X (e::es) t)
  (gW:bB (e::es) X.env=(false,eval e X.env)::bB es X.env:=by rfl) (hpl:(dZ pos (bB es X.env)).any (·.1)=false:=by rfl)
  (bh:eval (.Call (.Attribute o m apos) (e::es) [] pos) X.env=(do
   let eo <- eval o X.env
   standAt apos.atName
   let (f,first) <- holding [eo] (getMethod eo m pl)
   callWith pos f first (dZ pos (bB (e::es) X.env)) (od pos (oc [] X.env))):=by rfl):
  bK X (.Call (.Attribute o m apos) (e::es) [] pos) (UE C m sp il E cF t):=by
 intro ah s σ H Q I h;refine PySem.W.methodCall_KW (pl:=pl) (cJ (he ah s σ H _ I h) λu s1 ⟨x,H1,a',aS,a,bf,aA,ex,ea,l,q⟩=>?_) bh;subst ex;obtain rfl:u=Value.ref a:=aS;refine RO a' ea c hm l ?_;refine PySem.W.callWith_K (first:=[.ref a]) (h₀:=X.base) I.ok.mod.o5 hm.az (cJ (aB pos ah s1 σ H1 _ a' q) λus s2 ⟨vs,ba,b5,r,a9⟩=>⟨b5.jx,?_⟩) gW hpl;exact Ms (us:=.ref a::us) (vs:=.ref a::vs) F ax aa hd hx b5 (.cons rfl r) a9
def C_{pl:Sem Bool}(he:bK X o cF)(c:nx X.K C)(hm:Meth X.K C m f)(F:eR X.prog X.w X.K X.mg X.base eh k f fd ps sp)(ax:c2 k X.A)(aa:fG X.K fd ps ds)(hd:Vals il ds)(hx:r9 eh X E)
  (bh:eval (.Call (.Attribute o m apos) [] [] pos) X.env=(do
   let eo <- eval o X.env
   standAt apos.atName
   let (f,first) <- holding [eo] (getMethod eo m pl)
   callWith pos f first (dZ pos (bB [] X.env)) (od pos (oc [] X.env))):=by rfl):
  bK X (.Call (.Attribute o m apos) [] [] pos) (UE C m sp il E cF m4):=by
 intro ah s σ H Q I h;refine PySem.W.methodCall_KW (pl:=pl) (cJ (he ah s σ H _ I h) λu s1 ⟨x,H1,a',aS,a,bf,aA,ex,ea,l,q⟩=>?_) bh;subst ex;obtain rfl:u=Value.ref a:=aS;refine RO a' ea c hm l ?_;exact PySem.W.callWith_K0 (first:=[.ref a]) a'.jx hm.az (Ms (us:=[.ref a]) (vs:=[.ref a]) F ax aa hd hx a' (.cons rfl .nil) q)
structure uC(K:a6)(C f:af):Prop where
 makes:PySem.W.makesIn K C=true
 init:ko K (.ref C) "__init__"=some (some (.ref f))
 fn:PySem.W.isFn K (.ref f)=true
 az:m9 K (.ref C)=true
def aiZ{ah:List (af×Obj)}{σ:St}{H:aw}{s:aH}{Q:c0}{us:List aj}{vs:List V}(M:uC X.K C f)(F:eR X.prog X.w X.K X.mg X.base eh k f fd ps sp)(ax:c2 (k+1) X.A)(aa:fG X.K fd ps ds)(hd:Vals il ds)
  (hx:r9 eh X E) (I:Inv X ah σ H s) (r:Vals vs us)
  (h:∀x bf,H x=none->H bf=none->bf≠x->sp (.ref x::(vs++il)) (upd (upd H bf (.own x)) x (.ins C bf [])) (λv ba=>v=.d3/\Q (.ref x) ba) E):
  bc (bu X.prog X.w) X.A (call (.ref C) us) (ig X ah σ Q) X.di s:=by
 have bb:=h (s.heap.objs.size+1) s.heap.objs.size (I.bJ.fresh (mu _)) (I.bJ.fresh (dS _)) (ez (Nat.lt_succ_self _));have b5:=Inv.made (C:=C) I;have b_:Vals (V.ref (s.heap.objs.size+1)::(vs++il)) (Value.ref (s.heap.objs.size+1)::(us++ds)):=.cons rfl (r.append hd);have aE:(Value.ref (s.heap.objs.size+1)::us++ds).length=ps.length:=by
  have e:=b_.length;rw[F.len _ _ _ _ bb] at e;exact e.symm
 refine rM (ajl (f:=f) I.jx M.makes M.init (beq_iff_eq.mp M.fn) (pw (F.run _ X.stack _ _ ⟨Value.ref (s.heap.objs.size+1)::us,[]⟩ (Value.ref (s.heap.objs.size+1)::(us++ds)) _ _ E (ax.make C us [])
  (b5.uW.make C us []) (aa _ (Value.ref (s.heap.objs.size+1)::us) b5.jx aE) b_ bb) λr s' w8=>?_))
 cases r with
|error e=>exact hx ah σ _ _ e s' b5 w8
|ok dE=>
  cases dE with
  |ret u=>
   obtain⟨v,ae,dI,bR,ev,de⟩:=b5.after w8;subst ev;exact⟨bR,⟨V.ref (s.heap.objs.size+1),ae,dI,rfl,de⟩⟩
  |next=>exact eL w8
  |brk=>exact eL w8
  |cont=>exact eL w8
def aj6(M:uC X.K C f)(F:eR X.prog X.w X.K X.mg X.base eh k f fd ps sp)(ax:c2 (k+1) X.A)(bt:ew X x)(hm:X.mg x=some (.ref C))(aa:fG X.K fd ps ds)(hd:Vals il ds)(hx:r9 eh X E)
  (aB:hp X (e::es) t) (gn:(x==("__debug__":Str))=false:=by decide) (he:bB (e::es) X.env=(false,eval e X.env)::bB es X.env:=by rfl) (hpl:(dZ pos (bB es X.env)).any (·.1)=false:=by rfl):
  bK X (.Call (.Name x p) (e::es) [] pos) (alG C sp il E t):=by
 intro ah s σ H Q I h;refine pq (ue I bt hm ?_ gn);refine PySem.W.callWith_K (h₀:=X.base) I.ok.mod.o5 M.az (cJ (aB pos ah s σ H _ I h) λus s1 ⟨vs,H1,a',r,q⟩=>⟨a'.jx,?_⟩) he hpl;exact aiZ M F ax aa hd hx a' r q
end
structure cO(N P:List Str)(sc:Scope):Prop where
 kind:sc.kind=.function
 co:sc.isCoroutine=false
 gen:sc.isGenerator=false
 a8:N.Nodup
 pre:N.take P.length=P
 par:∀x∈P,sc.names.lookup x=some .local\/sc.names.lookup x=some .cell
 abv:∀y∈sc.names,y.2≠.free
theorem So{kindOf:Str->Option mx}{x:Str}:∀{binds:List (Str×aj)} {m:Str->Option aj},(∀v,(x,v)∉binds)->bindL kindOf binds m x=m x
  | [],_,_=>rfl
  | (n,v)::r,m,h=>by
    unfold bindL;rw[So λw hw=>h w (dR _ hw)];split
    · have:x≠n:=by rintro rfl;exact h v gb
      simp[this]
    · rfl
theorem Ss{kindOf:Str->Option mx}{x:Str}:∀{binds:List (Str×aj)} {m:Str->Option aj},(∀v,(x,v)∉binds)->bindC kindOf binds m x=m x
  | [],_,_=>rfl
  | (n,v)::r,m,h=>by
    unfold bindC;rw[Ss λw hw=>h w (dR _ hw)];split
    · rfl
    · have:x≠n:=by rintro rfl;exact h v gb
      simp[this]
theorem Sp{kindOf:Str->Option mx}{x:Str}{v:aj}:∀{P:List Str} {vs:List aj} {i:Nat} {m:Str->Option aj},P.Nodup->P[i]?=some x->vs[i]?=some v->kindOf x=some .local ->
  bindL kindOf (P.zip vs) m x=some v
| [],_,_,_,_,h,_,_=>by simp at h
|_::_,[],_,_,_,_,h,_=>by simp at h
|p::P,w::vs,0,m,a8,ai,ao,aK=>by
  simp at ai ao;subst ai;subst ao;show bindL kindOf ((p,w)::P.zip vs) m p=_;unfold bindL;rw[So λv bo=>(gR.mp a8).1 (List.of_mem_zip bo).1,if_pos aK];simp
|p::P,w::vs,i+1,m,a8,ai,ao,aK=>by
  show bindL kindOf ((p,w)::P.zip vs) m x=_
  unfold bindL;exact Sp (i:=i) (gR.mp a8).2 (by simpa using ai) (by simpa using ao) aK
theorem Su{kindOf:Str->Option mx}{x:Str}{v:aj}:∀{P:List Str} {vs:List aj} {i:Nat} {m:Str->Option aj},P.Nodup->P[i]?=some x->vs[i]?=some v->kindOf x≠some .local ->
  bindC kindOf (P.zip vs) m x=some v
| [],_,_,_,_,h,_,_=>by simp at h
|_::_,[],_,_,_,_,h,_=>by simp at h
|p::P,w::vs,0,m,a8,ai,ao,aK=>by
  simp at ai ao;subst ai;subst ao;show bindC kindOf ((p,w)::P.zip vs) m p=_;unfold bindC;rw[Ss λv bo=>(gR.mp a8).1 (List.of_mem_zip bo).1,if_neg aK];simp
|p::P,w::vs,i+1,m,a8,ai,ao,aK=>by
  show bindC kindOf ((p,w)::P.zip vs) m x=_
  unfold bindC;exact Su (i:=i) (gR.mp a8).2 (by simpa using ai) (by simpa using ao) aK
noncomputable def start(N:List Str)(vs:List V):St:=vs.map some++ed (N.length - vs.length) none
noncomputable def e3(eh:lU)(P:cC)(w:b6)(K:a6)(mg:Str->Option aj)(base:bz)(N:List Str)(qual:Str)(scope:Scope)(f:af)(cd:aj)(A:cH)(outer:List Env)(s:aH)(H:aw)(E:e0):aV where
 prog:=P
 w:=w
 K:=K
 mg:=mg
 base:=base
 A:=A.deeper (envOfC qual scope s.heap.objs.size f cd)
 N:=N
 c_:=s
 aT:=H
 env:=envOfC qual scope s.heap.objs.size f cd
 outer:=outer
 stack:=envOfC qual scope s.heap.objs.size f cd::outer
 ex:=[]
 calm:=true
 fn:=λ_=>true
 c8:=[]
 di:=λe s'=>bc (bu P w) (A.deeper (envOfC qual scope s.heap.objs.size f cd)) (leaving (envOfC qual scope s.heap.objs.size f cd) e) (λ_ qj=>eh outer H s E e qj) (λbP qj=>eh outer H s E bP qj) s'
def S7{sc:Scope}{n:Nat}{x:Str}(h:sc.names.lookup x=some .cell):∃c,(cellsFrom n sc.names []).lookup x=some c:=by
 have q:=PySem.W.cellsFrom_some sc.names n [] (.inl h);exact Option.isSome_iff_exists.mp q
def Sb{eh:lU}{P:cC}{w:b6}{K:a6}{mg:Str->Option aj}{base:bz}{N ps:List Str}{qual:Str}{scope:Scope}{f:af}{cd:aj}{A:cH}{outer:List Env}{s s1:aH}{H:aw}{E:e0}{us:List aj}{vs:List V}
  (S:cO N ps scope) (hd:A.handled=none) (cm:ny P w K mg base A outer s H) (aE:vs.length=ps.length) (r:Vals vs us)
  (x:InCallC s s.heap.objs.size (bindL (envOfC qual scope s.heap.objs.size f cd).kindOf (ps.zip us) λ_=>none) (cellsFrom (s.heap.objs.size+1) scope.names []) (bindC (envOfC qual scope s.heap.objs.size f cd).kindOf (ps.zip us) λ_=>none) s1):
  Inv (e3 eh P w K mg base N qual scope f cd A outer s H E) [] (start N vs) H s1:=by
 have hpl:ps.length<=N.length:=by have:=congrArg List.length S.pre;rw[List.length_take] at this;omega
 obtain⟨ai,tk,rfl,aK⟩:=x.done;have qf:∀b:af,b∉(e3 eh P w K mg base N qual scope f cd A outer s H E).ex:=λb z=>absurd (show b∈([]:List af) from z) (by simp);refine⟨⟨cm.mod,S.kind,rfl,rfl,dS _,λy z c ai ao=>?_,λy a_=>?_,λy c _ h=>?_,λ_=>hd,Around.frames_deeper cm.frames,.inr ⟨rfl,rfl⟩,λb z=>absurd z (qf b),cm.bs,cm.nG,λb _ _=>qf b,λb z=>absurd z (qf b),cm.kJ,cm.oU⟩,
  rfl,cm.bare,fU.kept aK,⟨_,x.toInCall.ns,λi y v ai ao bE=>?_⟩,λy c h=>⟨_,x.cell y c h⟩,cm.bJ.fresh (dS _),λy c h=>?_,λp aN=>absurd (show p∈([]:List (af×Obj)) from aN) (by simp),cm.bJ.kept aK,?_⟩
 ·exact name_of_addr x.apart (xS ai) (xS ao)
 ·have a_:scope.names.lookup y=some .cell\/scope.names.lookup y=some .free:=a_;rcases a_ with a_|a_
  ·exact S7 a_
  ·exact absurd rfl (S.abv _ (xS a_))
 ·exact Nat.le_of_lt (x.above y c (xS h))
 ·have aM:i<vs.length:=by
   unfold start at ao;by_cases aM:i<vs.length
   ·exact aM
   ·rw[vi (by simpa using aM)] at ao;rw[List.getElem?_replicate] at ao;split at ao <;> cases ao
  have aB:vs[i]?=some v:=by
   unfold start at ao;rw[vj (by simpa using aM),lE] at ao;cases e:vs[i]? with
   |none=>rw[e] at ao;cases ao
   |some a=>rw[e] at ao;cases ao;rfl
  obtain⟨u,cn,bR⟩:=r.get aB;have aN:ps[i]?=some y:=by
   rw[<- S.pre,List.getElem?_take_of_lt (by omega)];exact ai
  have Pu:ps.Nodup:=by rw[<- S.pre];exact S.a8.sublist (List.take_sublist _ _)
  refine⟨u,bR,?_⟩
  rcases S.par y (tJ aN) with k|k
  ·exact .inl ⟨k,Sp Pu aN cn k⟩
  ·obtain⟨c,e⟩:=S7 (n:=s.heap.objs.size+1) k;refine .inr ⟨.inl k,c,e,?_⟩;have q:=x.cell y c e;rw[Su Pu aN cn (by show scope.names.lookup y≠_;rw[k];decide)] at q;exact q
 ·exact cm.bJ.fresh (Nat.le_of_lt (x.above y c (xS h)))
 ·unfold start;show _=N.length;rw[kr,hi,List.length_replicate];omega
def MN{eh:lU}{P:cC}{w:b6}{K:a6}{mg:Str->Option aj}{base:bz}{k:Nat}{f:af}{name qual:Str}{params:Arguments}{body:List Stmt}{scope:Scope}{zp dN doc pm bN cR gD:aj}{an eI:Option af}
  {lu:Array (Option aj)} {N ps:List Str} {sp:kc} (lk:K.lookup f=some ⟨gD,eI,.func (ml name qual params body scope zp dN doc pm an bN cR),lu⟩) (fz:amZ K bN qual=true) (S:cO N ps scope)
  (len:∀vs H Q E,sp vs H Q E->vs.length=ps.length)
  (p9:∀(A:cH) (outer:List Env) (s:aH) (H:aw) (vs:List V) (Q:c0) (E:e0),c2 k (A.deeper (envOfC qual scope s.heap.objs.size f bN))->sp vs H Q E ->
   ∃t,fT (e3 eh P w K mg base N qual scope f bN A outer s H E) body t/\t {bO:=λ_ ae=>Q .d3 ae,er:=Q} (start N vs) H):
  eR P w K mg base eh (k+1) f (ml name qual params body scope zp dN doc pm an bN cR) ps sp:=by
 refine⟨len,λA outer s H args us vs Q E ax cm aa r rl=>?_⟩
 have aE:=len _ _ _ _ rl;have kB:K.In s.heap:=cm.mod.o5.keeps λb o e=>(cm.bs b o e).1;have lim:s.heap.NoLimit:=cm.mod.nolimit.keeps λb o e=>(cm.bs b o e).1;have GS:∀y∈ps.zip us,scope.names.lookup y.1=some .local\/(scope.names.lookup y.1=some .cell/\((cellsFrom (s.heap.objs.size+1) scope.names []).lookup y.1).isSome=true):=λ⟨n,v⟩ a_=>by
  rcases S.par n (List.of_mem_zip a_).1 with q|q
  ·exact .inl q
  ·exact .inr ⟨q,PySem.W.cellsFrom_some _ _ _ (.inl q)⟩
 refine codeAny_call_function ax.depth (kB _ _ lk) rfl S.co S.gen rfl (PySem.W.codeRec_of kB fz) (aa _ _ _ _ ?_)
 refine wpAny_newFunctionEnv_cells S.kind GS λenv he s1 x=>?_
 subst he;refine⟨lim.keeps x.toInCall.keep,codeAny_func ?_⟩;obtain⟨t,bh,bb⟩:=p9 A outer s H vs Q E (ax.deeper _) rl;have I:Inv (e3 eh P w K mg base N qual scope f bN A outer s H E) [] (start N vs) H s1:=Sb S ax.hd cm aE r x;refine eK (bh [] s1 (start N vs) H _ I bb) (λdE s' av=>?_) λe s' av=>av;have fin:∀{ct:St} {ae:aw} {v:V} {u:aj},Inv (e3 eh P w K mg base N qual scope f bN A outer s H E) [] ct ae s'->RelV v u->Q v ae->y8 outer P w H s Q u s':=
  λ{ct ae v u} J bR q=>⟨v,ae,J.os,J.bare,J.base,J.bJ,bR,q⟩
 cases dE with
|ret u=>
  obtain⟨v,ct,ae,J,bR,q⟩:=av;exact fin J bR q
|next=>
  obtain⟨ct,ae,J,q⟩:=av;exact fin (v:=V.d3) (u:=Value.none) J rfl q
|brk=>
  obtain⟨_,_,_,q⟩:=av;exact eL q
|cont=>
  obtain⟨_,_,_,q⟩:=av;exact eL q
end a7
namespace a7
open PySem PySem.Spec PyProof.Rows
section
variable {X:aV}{x:Str}{p pos:Pos}{e:bq}{es:List bq}{t:gi}{id T:String}{r:List V->aw->c0->Prop}
noncomputable def Bz(r:List V->aw->c0->Prop)(t:gi):TE:=λσ H Q=>t σ H λvs H1=>r vs H1 Q
def C'(au:lR X (.builtin id) r)(bt:ew X x)(hm:X.mg x=none)(bo:bootBuiltins x=some (.builtin id))(aB:hp X (e::es) t)(a5:x≠"__name__":=by decide)(gn:(x==("__debug__":Str))=false:=by decide)
  (he:bB (e::es) X.env=(false,eval e X.env)::bB es X.env:=by rfl) (hpl:(dZ pos (bB es X.env)).any (·.1)=false:=by rfl):bK X (.Call (.Name x p) (e::es) [] pos) (Bz r t):=by
 intro ah s σ H Q I h;refine pq (r8 I bt hm bo ?_ a5 gn);exact PyProof.Rows.callWith_builtin1 (cJ (aB pos ah s σ H _ I h) λus s1 ⟨vs,H1,a',bj,aP⟩=>au ah s1 σ H1 vs us Q a' bj aP) he hpl
def Lp(au:lR X (.type T) r)(bt:ew X x)(hm:X.mg x=none)(bo:bootBuiltins x=some (.type T))(aB:hp X (e::es) t)(a5:x≠"__name__":=by decide)(gn:(x==("__debug__":Str))=false:=by decide)
  (he:bB (e::es) X.env=(false,eval e X.env)::bB es X.env:=by rfl) (hpl:(dZ pos (bB es X.env)).any (·.1)=false:=by rfl):bK X (.Call (.Name x p) (e::es) [] pos) (Bz r t):=by
 intro ah s σ H Q I h;refine pq (r8 I bt hm bo ?_ a5 gn);exact vl (cJ (aB pos ah s σ H _ I h) λus s1 ⟨vs,H1,a',bj,aP⟩=>au ah s1 σ H1 vs us Q a' bj aP) he hpl
end
end a7
namespace fx
open PySem PyProof.Rows
section
variable {prog:cC}{w:b6}{A:cH}{E:aj->aH->Prop}{s:aH}
def Xw{t b:af}{vs ws:List aj}{Q:aj->aH->Prop}(bh:IsTup s.heap t vs.toArray)(aa:IsTup s.heap b ws.toArray)(bo:vs≠[])
  (ai:ws=[]->Q (.ref t) s) (ao:ws≠[]->Q (.ref s.heap.objs.size) {s with heap:=s.heap.push {cls:=.type "tuple",data:=.seq (vs++ws).toArray} })
  (hsz:vs.length+ws.length<=cA):bc (bu prog w) A (mw .Add (.ref t) (.ref b)) Q E s:=by
 obtain⟨⟨cls,dd,data,cB⟩,aF,au,n,hd⟩:=id bh;obtain⟨⟨F0,mK,data2,h2⟩,sX,lb,gp,hd2⟩:=id aa;simp only at au hd lb hd2;subst au hd lb hd2;have e:vs.toArray++ws.toArray=(vs++ws).toArray:=by simp
 by_cases hw:ws=[]
 ·exact concat_meets ⟨_,aF,rfl⟩ ⟨_,sX,rfl⟩ noFill_tuple_add seq_tuple_add PySem.F.slot_tuple_add PySem.F.entry_tuple_add (PySem.F.args_tuple_add_2 _ _)
   (tuple_addW1 t b vs.toArray ws.toArray n gp dd mK cB h2 (by simpa using bo) (by simp[hw])) ⟨aF,sX,ai hw⟩
 ·refine concat_meets ⟨_,aF,rfl⟩ ⟨_,sX,rfl⟩ noFill_tuple_add seq_tuple_add PySem.F.slot_tuple_add PySem.F.entry_tuple_add (PySem.F.args_tuple_add_2 _ _)
   (tuple_addW2 t b vs.toArray ws.toArray n gp dd mK cB h2 (by simpa using bo) (by simpa using hw) (by rw[d4,d4];exact hsz)) ⟨aF,sX,?_⟩
  rw[e];exact ao hw
noncomputable def cX(n d:Nat):Option Int->Nat
|none=>d
|some v=>if v<0 then (v+(n:Int)).toNat else min v.toNat n
def akS(n d:Nat)(hd:d<=n)(o:Option Int):cX n d o<=n:=by
 cases o with
|none=>exact hd
|some v=>
  show (if v<0 then (v+(n:Int)).toNat else min v.toNat n)<=n
  by_cases bo:v<0
  ·rw[if_pos bo];omega
  ·rw[if_neg bo];exact Nat.min_le_right _ _
def TG(v:Int)(n d:Nat):(if v<0 then max (v+(n:Int)) 0 else min v (n:Int))=((cX n d (some v):Nat):Int):=by
 show (if v<0 then max (v+(n:Int)) 0 else min v (n:Int))=(((if v<0 then (v+(n:Int)).toNat else min v.toNat n):Nat):Int)
 by_cases bo:v<0
 ·simp only[if_pos bo];omega
 ·simp only[if_neg bo];omega
def ah1(lo aM:Option Int)(n:Nat):Builtin.Slice.sliceAdjust lo aM 1 (n:Int)=(((cX n 0 lo:Nat):Int),((cX n n aM:Nat):Int)):=by
 have ai:¬((1:Int)<0):=by omega
 unfold Builtin.Slice.sliceAdjust;simp only[ai,if_false];refine Prod.ext ?_ ?_
 ·cases lo with
  |none=>rfl
  |some v=>exact TG v n 0
 ·cases aM with
  |none=>rfl
  |some v=>exact TG v n n
def ahG(i j:Nat):BM (i:Int) (j:Int) 1=j - i:=by
 unfold BM;have ai:(1:Int) > 0:=by omega
 simp only[ai,if_true,Int.ediv_one];split <;> omega
def Rt{v:aj}{o:Option Int}{Q:Option Int->aH->Prop}(p:IsPart v o)(h:Q o s):bc (bu prog w) A (Builtin.Slice.slicePartIndex v) Q E s:=by
 cases p with
|none=>exact slicePart_none h
|int i t=>exact slicePart_int h
def P5{cB:af}{g4 e9:aj}{lo aM:Option Int}{n:Nat}{Q:Int×Int×Nat->aH->Prop}(av:s.heap.IsSliceOf cB g4 e9 .none)(pl:IsPart g4 lo)(pu:IsPart e9 aM)
  (h:Q (((cX n 0 lo:Nat):Int),1,cX n n aM - cX n 0 lo) s):bc (bu prog w) A (Builtin.Slice.sliceApplied (.ref cB) (pure (n:Int))) Q E s:=by
 obtain⟨os,qb,Ad,wX⟩:=id av;unfold Builtin.Slice.sliceApplied Builtin.Slice.sliceFields;refine aR (aR (h6 qb wX (x:=g4) rfl (aR (h6 qb wX (x:=e9) rfl (aR (h6 qb wX (x:=.none) rfl (cf ?_)))))));refine aR (slicePart_none ?_);show bc _ _ (if ((1:Int)==0)=true then _ else _) _ _ s;rw[if_neg (by decide)];refine aR (Rt pl (aR (Rt pu (aR (cf ?_)))));show bc _ _ (match Builtin.Slice.sliceAdjust lo aM 1 (n:Int) with|(lo,aM)=>pure (lo,(1:Int),BM lo aM 1)) _ _ s;rw[ah1 lo aM n];show bc _ _ (pure (((cX n 0 lo:Nat):Int),(1:Int),BM ((cX n 0 lo:Nat):Int) ((cX n n aM:Nat):Int) 1)) _ _ s;rw[ahG];exact cf h
def ai6(xs:Array aj)(i k:Nat):((List.range k).filterMap λ(m:Nat)=>xs[((i:Int)+(m:Int)*1).toNat]?).toArray=((xs.toList.drop i).take k).toArray:=by
 have e:(λ(m:Nat)=>xs[((i:Int)+(m:Int)*1).toNat]?)=λm=>xs[i+m]?:=by
  funext m;have:((i:Int)+(m:Int)*1).toNat=i+m:=by omega
  rw[this]
 rw[e];have:=pick_run xs i k;rw[List.filterMap_map] at this;have aL:((λx=>xs[x]?) ∘ λx=>i+x)=λm=>xs[i+m]?:=rfl;rw[aL] at this;rw[this]
def Zv{t cB:af}{items:Array aj}{g4 e9:aj}{lo aM:Option Int}{Q:aj->aH->Prop}(bh:IsTup s.heap t items)(av:s.heap.IsSliceOf cB g4 e9 .none)(pl:IsPart g4 lo)(pu:IsPart e9 aM)
  (hw:¬(cX items.size 0 lo=0/\cX items.size items.size aM=items.size))
  (h:Q (.ref s.heap.objs.size) {s with heap:=s.heap.push {cls:=.type "tuple",data:=.seq ((items.toList.drop (cX items.size 0 lo)).take (cX items.size items.size aM - cX items.size 0 lo)).toArray} })
  (hsz:items.size<=cA):bc (bu prog w) A (getItem (.ref t) (.ref cB)) Q E s:=by
 have Am:sizeOk (.seq ((items.toList.drop (cX items.size 0 lo)).take (cX items.size items.size aM - cX items.size 0 lo)).toArray):=by
  show ((items.toList.drop (cX items.size 0 lo)).take (cX items.size items.size aM - cX items.size 0 lo)).toArray.size<=cA
  rw[d4,List.length_take,List.length_drop,rK];omega
 have bI:cX items.size items.size aM<=items.size:=akS _ _ (dS _) aM;obtain⟨os,qb,Ad,wX⟩:=id av;have GA:s.TypeIs (.ref cB) "slice":=⟨os,qb,Ad⟩;unfold getItem
 try with_reducible refine mv ?_
 first|refine aR (cf ?_)|skip
 refine aR (wpAny_sequenceKey bh.typeIs (by decide) ?_)
 refine aR (qs (name:=Str.ofString "__getitem__") bh.typeIs BL
  (px BL bh.typeIs entry_tuple_getitem ?_ (args_tuple_getitem _ _)))
 show bc _ _ (Builtin.Tuple.tupleItemsOf (.ref t) >>= _) _ _ s
 refine aR (tupleItemsOf_ bh ?_)
 refine aR (wpAny_typeOf GA ?_)
 rw[if_pos (by decide)];refine aR (P5 av pl pu ?_);have u4:¬((((cX items.size 0 lo:Nat):Int)==0 && (1:Int)==1 && (cX items.size items.size aM - cX items.size 0 lo)==items.size)=true):=by
  intro q;rw[iV,iV] at q;have aP:((cX items.size 0 lo:Nat):Int)=0:=eq_of_beq q.1.1;have a9:cX items.size items.size aM - cX items.size 0 lo=items.size:=eq_of_beq q.2;exact hw ⟨by omega,by omega⟩
 show bc _ _ (if (((cX items.size 0 lo:Nat):Int)==0 && (1:Int)==1 && (cX items.size items.size aM - cX items.size 0 lo)==items.size)=true then _ else _) _ _ s
 rw[if_neg u4,ai6]
 first
  |exact aR (m:=tH _) (qt (cf ⟨_,rfl,cf h⟩) Am)
  |exact aR (m:=tH _) (qt (aR (cf (cf ⟨_,rfl,cf h⟩))) Am)
  |exact aR (aR (m:=tH _) (qt (cf (cf ⟨_,rfl,cf h⟩)) Am))
  |exact aR (aR (m:=tH _) (qt (cf ⟨_,rfl,cf h⟩) Am))
end
end fx
namespace a7
open PySem PySem.Spec PyProof.Rows
abbrev cj:=St->aw->(Option Int->aw->Prop)->Prop
noncomputable def oJ(X:aV)(e:Option bq)(t:cj):Prop:=
 ∀(ah:List (af×Obj)) (s:aH) (σ:St) (H:aw) (Q:Option Int->aw->Prop),Inv X ah σ H s->t σ H Q ->
  bc (bu X.prog X.w) X.A (evalPart e X.env) (λu s'=>∃o ae,Inv X ah σ ae s'/\IsPart u o/\Q o ae) X.di s
def ajM:cj:=λ_ H Q=>Q none H
noncomputable def alE(t:TE):cj:=λσ H Q=>t σ H λx H1=>∃i,x=.int i/\Q (some i) H1
section
variable {X:aV}{e:bq}{hF:TE}{lo aM:Option bq}{kn BD:cj}{pos eY:Pos}
def aj1:oJ X none ajM:=by
 intro ah s σ H Q I h;rw[evalPart_none];exact cf ⟨none,H,I,.none,h⟩
def aj0(h:bK X e hF):oJ X (some e) (alE hF):=by
 intro ah s σ H Q I hw;rw[evalPart_some];refine cJ (h ah s σ H _ I hw) λu s1 ⟨x,H1,a',bj,aP⟩=>?_;obtain⟨i,rfl,q⟩:=aP;obtain⟨t,rfl⟩:=bj;exact⟨some i,H1,a',.int i t,q⟩
noncomputable def qR(X:aV)(r:V->Option Int->Option Int->aw->c0->Prop):Prop:=
 ∀(ah:List (af×Obj)) (s:aH) (σ:St) (H:aw) (x:V) (v g4 e9:aj) (lo aM:Option Int) (cB:af) (Q:c0),Inv X ah σ H s->RelV x v->s.heap.IsSliceOf cB g4 e9 .none->IsPart g4 lo->IsPart e9 aM->r x lo aM H Q ->
  ∃T id,typeLookup (.type T) "__getitem__"=pure (some (.builtin id))/\s.TypeIs v T/\bc (bu X.prog X.w) X.A (getItem v (.ref cB)) (ig X ah σ Q) X.di s
def qR.or{r cq:V->Option Int->Option Int->aw->c0->Prop}(h:qR X r)(h':qR X cq):qR X (λx lo aM H Q=>r x lo aM H Q\/cq x lo aM H Q):=by
 intro ah s σ H x v g4 e9 lo aM cB Q I aS av pl pu q;rcases q with q|q
 ·exact h ah s σ H x v g4 e9 lo aM cB Q I aS av pl pu q
 ·exact h' ah s σ H x v g4 e9 lo aM cB Q I aS av pl pu q
noncomputable def afR(r:V->Option Int->Option Int->aw->c0->Prop)(hF:TE)(kn BD:cj):TE:=λσ H Q=>hF σ H λx H1=>kn σ H1 λl ba=>BD σ ba λu d6=>r x l u d6 Q
def ai8{r:V->Option Int->Option Int->aw->c0->Prop}(ax:qR X r)(he:bK X e hF)(aE:oJ X lo kn)(cn:oJ X aM BD):bK X (.Subscript e (.Slice lo aM none eY) pos) (afR r hF kn BD):=by
 intro ah s σ H Q I h;refine Subscript_ (cJ (he ah s σ H _ I h) λv s1 ⟨x,H1,a',bj,aP⟩=>?_);refine wpAny_Slice (cJ (aE ah s1 σ H1 _ a' aP) λg4 s2 ⟨l,ba,b5,pl,a9⟩=>cJ (cn ah s2 σ ba _ b5 a9) λe9 s3 ⟨u,d6,dI,pu,de⟩=>?_);rw[evalPart_none];refine cf ?_;have jQ:Inv X ah σ d6 {s3 with heap:=s3.heap.push {cls:=.type "slice",data:=.fields #[g4,e9,.none]} }:=dI.kept (t':=s3.toks) λb dc q=>cZ _ q;obtain⟨T,id,ej,bh,bt⟩:=ax ah {s3 with heap:=s3.heap.push {cls:=.type "slice",data:=.fields #[g4,e9,.none]} } σ d6 x v g4 e9 l u s3.heap.objs.size Q jQ bj (Heap.IsSliceOf.new ..) pl pu de;show bc (bu X.prog X.w) X.A (subscriptTail e (.Slice lo aM none eY) v (.ref s3.heap.objs.size)) (ig X ah σ Q) X.di {s3 with heap:=s3.heap.push {cls:=.type "slice",data:=.fields #[g4,e9,.none]} };exact tail_any (ops:=[.ref s3.heap.objs.size,v]) bh ej bt (by with_unfolding_all rfl)
noncomputable def nK(xs:List V)(lo aM:Option Int):List V:=(xs.drop (fx.cX xs.length 0 lo)).take (fx.cX xs.length xs.length aM - fx.cX xs.length 0 lo)
def Rq(xs:List V)(lo aM:Option Int):(nK xs lo aM).length<=xs.length:=by
 unfold nK;rw[List.length_take,List.length_drop];omega
noncomputable def aev(K:a6):V->Option Int->Option Int->aw->c0->Prop:=λx lo aM H Q=>∃a xs,x=.ref a/\c3 K H a xs /\
 ¬(fx.cX xs.length 0 lo=0/\fx.cX xs.length xs.length aM=xs.length)/\∀p,H p=none->Q (.ref p) (upd H p (.tup (nK xs lo aM)))
def akO:qR X (aev X.K):=by
 intro ah s σ H x v g4 e9 lo aM cB Q I aS av pl pu h;obtain⟨a,xs,rfl,hx,hw,q⟩:=h;cases aS;obtain⟨its,r,bh,aq⟩:=I.tuple hx;have hlen:its.toArray.size=xs.length:=by rw[d4];exact r.length.symm
 refine⟨"tuple",_,PyProof.Rows.slot_tuple_getitem.lookup,bh.typeIs,?_⟩
 refine fx.Zv bh av pl pu (by rw[hlen];exact hw) ?_ (by rw[hlen];exact aq)
 rw[hlen];refine⟨.ref s.heap.objs.size,_,I.laid (t':=s.toks) (o:=.tup (nK xs lo aM)) (λb dc q=>cZ _ q) (dS _) ?_,rfl,q _ (I.bJ.fresh (dS _))⟩;exact⟨mn (Rq xs lo aM) aq,_,(r.drop (fx.cX xs.length 0 lo)).take (fx.cX xs.length xs.length aM - fx.cX xs.length 0 lo),IsTup.new _ _⟩
noncomputable def alP(K:a6):gu:=λx y H Q=>∃a b xs ys,x=.ref a/\y=.ref b/\c3 K H a xs/\c3 K H b ys/\xs≠[]/\xs.length+ys.length<=cA /\
 (ys=[]->Q (.ref a) H)/\(ys≠[]->∀p,H p=none->Q (.ref p) (upd H p (.tup (xs++ys))))
def Vals.A'{xs:List V}{us:List aj}(r:Vals xs us):us=[] <-> xs=[]:=by
 cases r with
|nil=>simp
|cons _ _=>simp
def ake:eS X (mw .Add) (alP X.K):=by
 intro ah s σ H x y v u Q I aS bk h;obtain⟨a,b,xs,ys,rfl,rfl,aB,aa,hx,aq,aP,a9⟩:=h;cases aS;cases bk;obtain⟨its,bj,jY,_⟩:=I.tuple aB;obtain⟨hh,b_,eY,_⟩:=I.tuple aa;refine fx.Xw jY eY (λz=>hx (bj.A'.mp z)) (λz=>⟨.ref a,H,I,rfl,aP (b_.A'.mp z)⟩) (λz=>?_) (by rw[<- bj.length,<- b_.length];exact aq);refine⟨.ref s.heap.objs.size,_,I.laid (t':=s.toks) (o:=.tup (xs++ys)) (λb dc q=>cZ _ q) (dS _) ?_,rfl,a9 (λw=>z (b_.A'.mpr w)) _ (I.bJ.fresh (dS _))⟩;exact⟨by rw[kr];exact aq,_,bj.append b_,IsTup.new _ _⟩
end
end a7
namespace a7
open PySem PySem.Spec PyProof.Rows
noncomputable def rr(n:Nat)(i:Int):Option Nat:=if 0<=i then (if i<n then some i.toNat else none) else if -(n:Int)<=i then some (i+n).toNat else none
noncomputable def wA{α:Type}(xs:List α)(i:Int):Option α:=(rr xs.length i).bind λj=>xs[j]?
def ako{n:Nat}{i:Int}{j:Nat}(h:rr n i=some j):seqIndex? i n=some j/\j<n/\-(n:Int)<=i/\i<n:=by
 unfold rr at h;by_cases h0:0<=i
 ·rw[if_pos h0] at h;by_cases ai:i<n
  ·rw[if_pos ai] at h;have e:i.toNat=j:=fF h;exact⟨by rw[seqIndex_of h0 ai,e],by omega,by omega,ai⟩
  ·rw[if_neg ai] at h;cases h
 ·rw[if_neg h0] at h;by_cases ai:-(n:Int)<=i
  ·rw[if_pos ai] at h;have e:(i+n).toNat=j:=fF h;exact⟨by rw[seqIndex_neg (by omega) ai,e],by omega,ai,by omega⟩
  ·rw[if_neg ai] at h;cases h
def Ml{α:Type}{xs:List α}{i:Int}{v:α}(h:wA xs i=some v):∃j,seqIndex? i xs.length=some j/\xs[j]?=some v/\j<xs.length/\-(xs.length:Int)<=i/\i<xs.length:=by
 unfold wA at h;cases e:rr xs.length i with
|none=>rw[e] at h;cases h
|some j=>
  rw[e] at h;obtain⟨ai,ao,bE,c4⟩:=ako e;exact⟨j,ai,h,ao,bE,c4⟩
noncomputable def TO(b:bq):Prop:=∀o i,subscripted b false o i=operate [o,i] (getItem o i)
noncomputable def pS(X:aV)(r:gu):Prop:=
 ∀(value slice:bq) (ah:List (af×Obj)) (s:aH) (σ:St) (H:aw) (x y:V) (v u:aj) (Q:c0),Inv X ah σ H s->RelV x v->RelV y u->r x y H Q ->
  subscripted slice false v u=operate [v,u] (getItem v u)->bc (bu X.prog X.w) X.A (subscriptTail value slice v u) (ig X ah σ Q) X.di s
noncomputable def zc(X:aV)(id:String)(r:V->List V->aw->c0->Prop):Prop:=
 ∀(ah:List (af×Obj)) (s:aH) (σ:St) (H:aw) (x:V) (xs:List V) (v:aj) (us:List aj) (Q:c0),Inv X ah σ H s->RelV x v->Vals xs us->r x xs H Q ->
  bc (bu X.prog X.w) X.A (call (.builtin id) (v::us)) (ig X ah σ Q) X.di s
section
variable {X:aV}{a b:bq}{cF df:TE}{pos:Pos}
def pS.or{r cq:gu}(h:pS X r)(h':pS X cq):pS X (λx y H Q=>r x y H Q\/cq x y H Q):=by
 intro value slice ah s σ H x y v u Q I aS bk q av;rcases q with q|q
 ·exact h value slice ah s σ H x y v u Q I aS bk q av
 ·exact h' value slice ah s σ H x y v u Q I aS bk q av
def alZ{r:gu}(ax:pS X r)(aB:bK X a cF)(aa:bK X b df)(av:TO b):bK X (.Subscript a b pos) (tA r cF df):=by
 intro ah s σ H Q I h;exact Subscript_ (E6 aB aa I h λv u s2 x y ba b5 aS bk q=>ax a b ah s2 σ ba x y v u Q b5 aS bk q (av _ _))
noncomputable def PV(K:a6):gu:=λx y H Q=>∃p xs i v,x=.ref p/\y=.int i/\fH K H p xs/\wA xs i=some v/\Q v H
noncomputable def PX(K:a6):gu:=λx y H Q=>∃p xs i v,x=.ref p/\y=.int i/\c3 K H p xs/\wA xs i=some v/\Q v H
noncomputable def PW:gu:=λx y H Q=>∃z i c,x=.str z/\y=.int i/\z.length<=cA/\wA z.cps.toList i=some c/\Q (.str ⟨#[c]⟩) H
def akm:pS X (PV X.K):=by
 intro value slice ah s σ H x y v u Q I aS bk h av;obtain⟨p,xs,i,z,rfl,rfl,bb,he,q⟩:=h;cases aS;obtain⟨t,rfl⟩:=bk;obtain⟨its,r,pl,aq⟩:=I.list bb;obtain⟨j,ai,ao,bE,c4,f'⟩:=Ml he;obtain⟨w,nP,kl⟩:=r.get ao;have aE:=r.length;have a5:=vZ;have fin:ig X ah σ Q w s:=⟨z,H,I,kl,q⟩;by_cases h0:0<=i
 ·have bI:i.toNat=j:=by
   rw[seqIndex_of h0 f'] at ai;exact fF ai
  exact item_listR pl.isList h0 (by omega) (by rw[bI];simpa using nP) fin av
 ·have bI:(i+(its.toArray.size:Int)).toNat=j:=by
   rw[seqIndex_neg (by omega) c4] at ai;rw[d4,<- aE];exact fF ai
  exact subscriptTail_builtinR (x:=w) pl.isList.typeIs slot_list_getitem.lookup
   (wpAny_getItem_list_neg (Q:=λr s'=>r=w/\ig X ah σ Q r s') pl.isList (by omega) (by rw[d4] <;> omega) (by omega) (by rw[bI];simpa using nP) ⟨rfl,fin⟩) av
def alm:pS X (PX X.K):=by
 intro value slice ah s σ H x y v u Q I aS bk h av;obtain⟨p,xs,i,z,rfl,rfl,bb,he,q⟩:=h;cases aS;obtain⟨t,rfl⟩:=bk;obtain⟨its,r,pl,aq⟩:=I.tuple bb;obtain⟨j,ai,ao,bE,c4,f'⟩:=Ml he;obtain⟨w,nP,kl⟩:=r.get ao;have aE:=r.length;have a5:=vZ;have fin:ig X ah σ Q w s:=⟨z,H,I,kl,q⟩;exact subscriptTail_builtinR (x:=w) pl.typeIs slot_tuple_getitem.lookup
  (getItem_tuple (j:=j) (Q:=λr s'=>r=w/\ig X ah σ Q r s') pl (by omega) (by omega) (by rw[d4,<- aE];exact ai) (by simpa using nP) ⟨rfl,fin⟩) av
def aln:pS X PW:=by
 intro value slice ah s σ H x y v u Q I aS bk h av;obtain⟨z,i,c,rfl,rfl,aq,he,q⟩:=h;obtain⟨t,rfl⟩:=aS;obtain⟨t',rfl⟩:=bk;obtain⟨j,ai,ao,bE,c4,f'⟩:=Ml he;have aE:z.cps.toList.length=z.length:=by simp[Str.length]
 rw[aE] at ai c4 f';have a5:=vZ;exact tail_any (typeIs_str s z t) slot_str_getitem.lookup (getItem_str (c:=c) (by
  have aD:decide (i < -(2 ^ 63:Int))=false:=decide_eq_false (by omega);have aL:decide (i >= 2 ^ 63)=false:=decide_eq_false (by omega);rw[aD,aL,Bool.or_false]) (by rw[ai];simpa using ao) ⟨.str ⟨#[c]⟩,H,I.tok _,⟨_,rfl⟩,q⟩) av
noncomputable def aet(K:a6):gu:=λx y H Q=>PV K x y H Q\/PX K x y H Q\/PW x y H Q
def alo:pS X (aet X.K):=akm.or (alm.or aln)
def agX(lo aM:Option Int)(n:Nat):(sliceBounds lo aM none n).1=((fx.cX n 0 lo:Nat):Int)/\(sliceBounds lo aM none n).2.1=((fx.cX n n aM:Nat):Int)/\(sliceBounds lo aM none n).2.2=1:=by
 refine⟨?_,?_,rfl⟩
 ·cases lo with
  |none=>simp[sliceBounds,fx.cX]
  |some i=>
   simp only[sliceBounds,fx.cX,Option.getD_none,show (1:Int) > 0 by decide,if_true];by_cases h:i<0
   ·simp only[h,if_true] <;> omega
   ·simp only[h,if_false] <;> omega
 ·cases aM with
  |none=>simp[sliceBounds,fx.cX]
  |some i=>
   simp only[sliceBounds,fx.cX,Option.getD_none,show (1:Int) > 0 by decide,if_true];by_cases h:i<0
   ·simp only[h,if_true] <;> omega
   ·simp only[h,if_false] <;> omega
def agP(its:List aj)(lo aM:Option Int):slicePick its.toArray lo aM none=((its.drop (fx.cX its.length 0 lo)).take (fx.cX its.length its.length aM - fx.cX its.length 0 lo)).toArray:=by
 obtain⟨ai,ao,bE⟩:=agX lo aM its.toArray.size;unfold slicePick;rw[ai,ao,bE];simp only[sliceRange_one,pick_run,d4] <;> rfl
noncomputable def aeu(K:a6):V->Option Int->Option Int->aw->c0->Prop:=λx lo aM H Q=>∃a xs,x=.ref a/\fH K H a xs/\∀p,H p=none->Q (.ref p) (upd H p (.lst (nK xs lo aM)))
def ajO:qR X (aeu X.K):=by
 intro ah s σ H x v g4 e9 lo aM cB Q I aS av pl pu h;obtain⟨a,xs,rfl,hx,q⟩:=h;cases aS;obtain⟨its,r,bh,aq⟩:=I.list hx;have hlen:=r.length;refine⟨"list",_,slot_list_getitem.lookup,bh.isList.typeIs,?_⟩;refine wpAny_getItem_list_slice bh.isList av pl pu .none (by simp) ?_ (by rw[d4] <;> omega);rw[agP,<- hlen];refine⟨.ref s.heap.objs.size,_,I.laid (t':=s.toks) (o:=.lst (nK xs lo aM)) (λb dc q=>cZ _ q) (dS _) ?_,rfl,q _ (I.bJ.fresh (dS _))⟩;exact⟨mn (Rq xs lo aM) aq,_,0,(r.drop (fx.cX xs.length 0 lo)).take (fx.cX xs.length xs.length aM - fx.cX xs.length 0 lo),gI _ rfl⟩
def aha:lR X (.builtin "len") (λxs H Q=>∃p ys,xs=[.ref p]/\(fH X.K H p ys\/c3 X.K H p ys)/\Q (.int ys.length) H):=by
 intro ah s σ H xs us Q I r h;obtain⟨p,ys,rfl,bb,q⟩:=h;obtain⟨u,rfl,aS⟩:=v7 r;cases aS;have a5:=vZ;rcases bb with bb|bb
 ·obtain⟨its,cq,pl,aq⟩:=I.list bb;have hlen:=cq.length;exact Calls.call_len_list pl.isList (by simp only[d4] <;> omega) ⟨.int ys.length,H,I.tok _,⟨s.toks+1,by rw[d4,hlen]⟩,q⟩
 ·obtain⟨its,cq,pl,aq⟩:=I.tuple bb;have hlen:=cq.length;exact len_tuple pl (by simp only[d4] <;> omega) ⟨.int ys.length,H,I.tok _,⟨s.toks+1,by rw[d4,hlen]⟩,q⟩
def ag':lR X (.builtin "len") (λxs H Q=>∃z,xs=[.str z]/\z.length<=cA/\Q (.int z.length) H):=by
 intro ah s σ H xs us Q I r h;obtain⟨z,rfl,aq,q⟩:=h;obtain⟨u,rfl,t,rfl⟩:=v7 r;have a5:=vZ;exact len_str (by omega) ⟨.int z.length,H,I.tok _,⟨_,rfl⟩,q⟩
def lR.or{f:aj}{r cq:List V->aw->c0->Prop}(h:lR X f r)(h':lR X f cq):lR X f (λxs H Q=>r xs H Q\/cq xs H Q):=by
 intro ah s σ H xs us Q I rs q;rcases q with q|q
 ·exact h ah s σ H xs us Q I rs q
 ·exact h' ah s σ H xs us Q I rs q
def ag_:lR X (.type "list") (λxs H Q=>∃p ys,xs=[.ref p]/\(fH X.K H p ys\/c3 X.K H p ys)/\∀l,H l=none->Q (.ref l) (upd H l (.lst ys))):=by
 intro ah s σ H xs us Q I r h;obtain⟨p,ys,rfl,bb,q⟩:=h;obtain⟨u,rfl,aS⟩:=v7 r;cases aS;have fin:∀(its:List aj),Vals ys its->ys.length<=cA->∀(h':bz) (bW:Nat),(∀b o',s.heap.get? b=some o'->h'.get? b=some o') ->
   h'.get? s.heap.objs.size=some {cls:=.type "list",dict:=none,data:=.seq its.toArray bW,slots:=#[]}->ig X ah σ Q (.ref s.heap.objs.size) {s with heap:=h'}:=λits cq aq h' bW az e=>
  ⟨.ref s.heap.objs.size,_,I.laid (t':=s.toks) az (dS _) (show hn X.prog X.w _ h' _ (.lst ys) from ⟨aq,its,bW,cq,e⟩),rfl,q _ (I.bJ.fresh (dS _))⟩
 rcases bb with bb|bb
 ·obtain⟨its,cq,pl,aq⟩:=I.list bb;have hlen:=cq.length;obtain⟨o,aF,au,n,hd⟩:=pl.isList;exact call_list_seq p (.inl rfl) aF au hd (λh' bW az e=>fin its cq aq h' bW az e) (by simp only[d4] <;> omega)
 ·obtain⟨its,cq,pl,aq⟩:=I.tuple bb;have hlen:=cq.length;obtain⟨o,aF,au,n,hd⟩:=pl;exact call_list_seq p (.inr rfl) aF au hd (λh' bW az e=>fin its cq aq h' bW az e) (by simp only[d4] <;> omega)
def agT:lR X (.type "tuple") (λxs H Q=>∃p ys,xs=[.ref p]/\((fH X.K H p ys/\∀l,H l=none->Q (.ref l) (upd H l (.tup ys)))\/(c3 X.K H p ys/\Q (.ref p) H))):=by
 intro ah s σ H xs us Q I r h;obtain⟨p,ys,rfl,h⟩:=h;obtain⟨u,rfl,aS⟩:=v7 r;cases aS;rcases h with ⟨bb,q⟩|⟨bb,q⟩
 ·obtain⟨its,cq,pl,aq⟩:=I.list bb;have hlen:=cq.length;refine call_tuple_list pl.isList (λh' az=>?_) (by simp only[d4] <;> omega);have a':Inv X ah σ H {s with heap:=h'}:=I.kept (t':=s.toks) az;have b5:Inv X ah σ (upd H h'.objs.size (.tup ys)) {s with heap:=h'.push {cls:=.type "tuple",data:=.seq its.toArray} }:=
   a'.laid (t':=s.toks) (λb o e=>cZ _ e) (dS _) (show hn X.prog X.w _ _ _ (.tup ys) from ⟨aq,its,cq,IsTup.new _ _⟩)
  exact⟨.ref h'.objs.size,_,b5,rfl,q _ (a'.bJ.fresh (dS _))⟩
 ·obtain⟨its,cq,pl,aq⟩:=I.tuple bb;exact call_tuple_same pl ⟨.ref p,H,I,rfl,q⟩
noncomputable def Kg(K:a6)(T:String)(x:V)(H:aw):Prop:=match x with
|.str _=>T="str"
|.int _=>T="int"
|.ref p=>(T="list"/\∃xs,fH K H p xs)\/(T="tuple"/\∃o,K.lookup p=some o/\o.cls=.type "tuple"/\o.dict=none) \/
   (T="dict"/\((∃kvs,H p=some (.fo kvs))\/∃kvs,H p=some (.mJ kvs)))\/(T="set"/\∃S n,H p=some (.set S n))
|_=>False
def TZ{ah:List (af×Obj)}{σ:St}{H:aw}{s:aH}{T:String}{x:V}{v:aj}(I:Inv X ah σ H s)(r:RelV x v)(ty:Kg X.K T x H):
  s.TypeIs v T/\∀a,v=.ref a->∃dc,s.heap.get? a=some dc/\dc.dict=none:=by
 cases x with
|str z=>
  obtain⟨t,rfl⟩:=r;cases (show T="str" from ty);exact⟨typeIs_str s z t,λ_ e=>nomatch e⟩
|int i=>
  obtain⟨t,rfl⟩:=r;cases (show T="int" from ty);exact⟨typeIs_int s i t,λ_ e=>nomatch e⟩
|ref p=>
  cases r
  rcases ty with ⟨rfl,xs,bb⟩|⟨rfl,o,aK,au,hd⟩|⟨rfl,aK⟩|⟨rfl,S,n,aK⟩
  ·obtain⟨its,_,pl,_⟩:=I.list bb;refine⟨pl.isList.typeIs,λa e=>?_⟩;cases e;obtain⟨o,n,e,c,hd,_⟩:=pl;exact⟨o,e,hd⟩
  ·refine⟨⟨o,I.jx p o aK,au⟩,λa e=>?_⟩
   cases e
   exact⟨o,I.jx _ o aK,hd⟩
  ·have z:∃o,s.heap.get? p=some o/\o.ExactDict:=by
    rcases aK with ⟨kvs,aK⟩|⟨kvs,aK⟩
    ·obtain⟨_,_,_,_,o,_,_,e,ex,_⟩:=I.bJ p _ aK;exact⟨o,e,ex⟩
    ·obtain⟨_,_,_,_,o,_,_,e,ex,_⟩:=I.bJ p _ aK;exact⟨o,e,ex⟩
   obtain⟨o,e,ex⟩:=z;refine⟨⟨o,e,ex.1⟩,λa aL=>?_⟩;cases aL;exact⟨o,e,ex.2.1⟩
  ·obtain⟨o,_,_,_,e,ex,_⟩:=I.bJ p _ aK;refine⟨⟨o,e,ex.1⟩,λa aL=>?_⟩;cases aL;exact⟨o,e,ex.2.1⟩
|_=>exact eL ty
noncomputable def afH(K:a6)(T:String)(r:V->List V->aw->c0->Prop)(to:TE):TE:=λσ H Q=>to σ H λx H1=>Kg K T x H1/\r x [] H1 Q
noncomputable def J9(K:a6)(T:String)(r:V->List V->aw->c0->Prop)(to:TE)(t:gi):TE:=λσ H Q=>to σ H λx H1=>Kg K T x H1/\t σ H1 λxs ba=>r x xs ba Q
variable {o e:bq}{es:List bq}{to:TE}{t:gi}{name:Str}{apos e2:Pos}{T id:String}{r:V->List V->aw->c0->Prop}
def T'(JC:PlainAttrs T)(slot:Slot T name id)(G7:typeOf (.builtin id)=pure (.type "method_descriptor"))(hm:zc X id r)(aF:bK X o to)
  (nT:jF o name X.env (eval o X.env)=eval o X.env:=by rfl) (nU:(apos.endLine==e2.line)=true:=by rfl):bK X (.Call (.Attribute o name apos) [] [] e2) (afH X.K T r to):=by
 intro ah s σ H Q I h;refine wpAny_Call_method0_late nT nU (cJ (aF ah s σ H _ I h) λv s1 ⟨x,H1,a',bj,ty,aP⟩=>?_);obtain⟨ai,ao⟩:=TZ a' bj ty;exact⟨T,id,JC,slot,G7,ai,ao,Calls.callWith_builtin rfl (PySem.evalArgs_none (hm ah s1 σ H1 x [] v [] Q a' bj .nil aP))⟩
def DK(JC:PlainAttrs T)(slot:Slot T name id)(G7:typeOf (.builtin id)=pure (.type "method_descriptor"))(hm:zc X id r)(aF:bK X o to)(aB:hp X (e::es) t)
  (nT:jF o name X.env (eval o X.env)=eval o X.env:=by rfl)
  (wZ:((dZ e2 (bB (e::es) X.env)).all (λx=>!x.1) && (od e2 (oc [] X.env)).all (λx=>x.1.isSome)
   && decide ((e::es).length+([]:List Keyword).length+(if ([]:List Keyword).isEmpty then 0 else 1)<30))=true:=by rfl)
  (nU:(apos.endLine==e2.line)=true:=by rfl) (av:bB (e::es) X.env=(false,eval e X.env)::bB es X.env:=by rfl) (w6:(dZ e2 (bB es X.env)).any (·.1)=false:=by rfl):
  bK X (.Call (.Attribute o name apos) (e::es) [] e2) (J9 X.K T r to t):=by
 intro ah s σ H Q I h;refine wpAny_Call_method_late nT wZ nU rfl (cJ (aF ah s σ H _ I h) λv s1 ⟨x,H1,a',bj,ty,aP⟩=>?_);obtain⟨ai,ao⟩:=TZ a' bj ty;refine⟨T,id,JC,slot,G7,ai,ao,?_⟩;have q8:=aB e2 ah s1 σ H1 _ a' aP;rw[av] at q8 ⊢;refine Calls.callWith_builtin (by show (false || (dZ e2 (bB es X.env)).any (·.1))=false;rw[w6] <;> rfl) (Calls.evalArgs_plain ?_);exact cJ q8 λus s2 ⟨vs,ba,b5,b_,a9⟩=>hm ah s2 σ ba x vs v us Q b5 bj b_ a9
end
end a7
namespace a7
open PySem PySem.Spec PyProof.Rows
noncomputable def wm(X:aV)(id:String)(r:V->List V->aw->c0->Prop):Prop:=
 ∀(ah:List (af×Obj)) (s:aH) (σ:St) (H:aw) (x:V) (xs:List V) (v:aj) (us:List aj) (Q:c0),Inv X ah σ H s->RelV x v->Vals xs us->r x xs H Q ->
  bc (bu X.prog X.w) X.A (call (.builtin id) (v::us)) (ig X ah σ Q) X.di s
def Vals.one:∀{x:V} {us:List aj},Vals [x] us->∃u,us=[u]/\RelV x u
|_,_,.cons r .nil=>⟨_,rfl,r⟩
def Vals.two:∀{x y:V} {us:List aj},Vals [x,y] us->∃u v,us=[u,v]/\RelV x u/\RelV y v
|_,_,_,.cons r (.cons q .nil)=>⟨_,_,rfl,r,q⟩
def Vals.zero:∀{us:List aj},Vals [] us->us=[]
|_,.nil=>rfl
theorem Vals.dropLast{xs:List V}{us:List aj}(h:Vals xs us):Vals xs.dropLast us.dropLast:=by
 induction h with
|nil=>exact .nil
|cons r t b1=>
  cases t with
  |nil=>exact .nil
  |cons q t'=>exact .cons r b1
theorem Vals.eraseIdx:∀{xs:List V} {us:List aj} (i:Nat),Vals xs us->Vals (xs.eraseIdx i) (us.eraseIdx i)
|_,_,_,.nil=>.nil
|_,_,0,.cons _ t=>t
|_,_,i+1,.cons r t=>.cons r (Vals.eraseIdx i t)
theorem Vals.rep{xs:List V}{us:List aj}(h:Vals xs us):∀k:Nat,Vals (ed k xs).flatten (ed k us).flatten
|0=>.nil
|k+1=>by
  rw[am0,am0,vo,vo];exact Vals.append h (Vals.rep h k)
def ahQ{α:Type}(l:List α):l.eraseIdx (l.length - 1)=l.dropLast:=by
 induction l with
|nil=>rfl
|cons a r b1=>
  cases r with
  |nil=>rfl
  |cons b r=>
   have e:(a::b::r).length - 1=((b::r).length - 1)+1:=by
    have ai:(a::b::r).length=r.length+2:=rfl;have ao:(b::r).length=r.length+1:=rfl;omega
   rw[e,List.eraseIdx_cons_succ,b1]
   all_goals rfl
theorem R9{α:Type}:∀(l:List α) (i:Nat),(l.eraseIdx i).length<=l.length
| [],_=>dS _
|_::_,0=>mu _
|_::r,i+1=>Nat.succ_le_succ (R9 r i)
theorem C4(its:List aj):∀(k:Nat) (acc:List aj),
  List.foldl (λaO bZ=>aO++bZ) acc.toArray (ed k its.toArray)=(acc++(ed k its).flatten).toArray
|0,acc=>by simp
|k+1,acc=>by
  have e:acc.toArray++its.toArray=(acc++its).toArray:=by simp
  have aL:(acc++its)++(ed k its).flatten=acc++(ed (k+1) its).flatten:=by
   rw[am0,vo,vq]
  rw[<- aL,<- C4 its k (acc++its),<- e,am0,List.foldl_cons]
section
variable {X:aV}{ah:List (af×Obj)}{σ:St}{H:aw}{s:aH}{l b:af}{xs ys zs:List V}
def Inv.A6{its its':List aj}{n:Nat}{f:Array aj->Array aj}{t':Nat}(I:Inv X ah σ H s)(eF:H l=some (.lst xs))
  (e:s.heap.get? l=some {cls:=.type "list",data:=.seq its.toArray n}) (hf:f its.toArray=its'.toArray) (bo:Vals ys its') (aq:ys.length<=cA):
  Inv X ah σ (upd H l (.lst ys)) {s with heap:=s.heap.update l (Obj.mapSeq f),toks:=t'}:=by
 have q:=PySem.IsL.update e f;rw[hf] at q;refine I.write (x:=l) (e:=l) (by rw[eF];exact trivial) (.inl rfl) (λnF u aa cn=>(BR s.heap (Obj.mapSeq f) (Ne.symm aa)).trans cn) ⟨_,q⟩ ?_;exact⟨aq,its',_,bo,q⟩
def Inv.u_{its:List aj}{t':Nat}(I:Inv X ah σ H s)(bo:Vals ys its)(aq:ys.length<=cA):
  Inv X ah σ (upd H s.heap.objs.size (.lst ys)) {s with heap:=s.heap.push {cls:=.type "list",data:=.seq its.toArray},toks:=t'}:=
 I.laid (λ_ _ q=>cZ _ q) (dS _) ⟨aq,its,0,bo,gI _ rfl⟩
theorem Inv.fresh(I:Inv X ah σ H s):H s.heap.objs.size=none:=I.bJ.fresh (dS _)
def Inv.A7(I:Inv X ah σ H s)(eF:H l=some (.lst xs)):xs.length<=cA/\∃(its:List aj) (n:Nat),Vals xs its/\xs.length=its.length/\s.heap.get? l=some {cls:=.type "list",data:=.seq its.toArray n}:=by
 obtain⟨z,its,n,r,e⟩:=I.bJ l _ eF;exact⟨z,its,n,r,r.length,e⟩
def ajh{n:Nat}(h:n<=cA):Builtin.List.listTooLong n=false:=by
 unfold Builtin.List.listTooLong;exact decide_eq_false (by omega)
end
section
variable {X:aV}
noncomputable def ajW:V->List V->aw->c0->Prop:=λx vs H Q=>∃l xs y,x=.ref l/\vs=[y]/\H l=some (.lst xs)/\xs.length<cA/\Q .d3 (upd H l (.lst (xs++[y])))
def Lr:wm X "list.append" ajW:=by
 intro ah s σ H x vs v us Q I aS bR h;obtain⟨l,xs,y,rfl,rfl,eF,aq,q⟩:=h;cases aS;obtain⟨u,rfl,c7⟩:=bR.one;obtain⟨z,its,n,r,aE,e⟩:=I.A7 eF;refine oe F.slot_list_append ⟨_,e,rfl⟩ F.entry_list_append (F.args_list_append_2 _ _) (PySem.list_append l its.toArray n u (by rw[d4];omega)) ⟨e,?_⟩;refine⟨.d3,_,I.A6 (its':=its++[u]) eF e (by simp) (r.append (.cons c7 .nil)) ?_,rfl,q⟩;rw[kr,List.length_singleton];omega
noncomputable def JR:V->List V->aw->c0->Prop:=λx vs H Q=>∃l xs y,x=.ref l/\vs=[]/\H l=some (.lst xs)/\xs[xs.length - 1]?=some y/\Q y (upd H l (.lst xs.dropLast))
def Uk:wm X "list.pop" JR:=by
 intro ah s σ H x vs v us Q I aS bR h;obtain⟨l,xs,y,rfl,rfl,eF,a_,q⟩:=h;cases aS;have _U:=bR.zero;subst _U;obtain⟨z,its,n,r,aE,e⟩:=I.A7 eF;obtain⟨u,cn,c7⟩:=r.get a_;have G':its.toArray[its.toArray.size - 1]?=some u:=by
  show its.toArray[its.length - 1]?=some u
  rw[<- Array.getElem?_toList,<- aE];exact cn
 refine oe F.slot_list_pop ⟨_,e,rfl⟩ F.entry_list_pop (F.args_list_pop_1 _) (MeetsSeq.list_pop_last l its.toArray n u G' (by rw[d4];omega)) ⟨e,?_⟩
 refine⟨y,_,I.A6 (its':=its.dropLast) eF e ?_ r.dropLast ?_,c7,q⟩
 ·show its.toArray.eraseIdxIfInBounds (its.toArray.size - 1)=its.dropLast.toArray
  rw[d4,List.eraseIdxIfInBounds_toArray,ahQ]
 ·rw[List.length_dropLast];omega
def Ma{α:Type}(xs:List α)(k:Nat):(ed k xs).flatten.length=k*xs.length:=by
 induction k with
|zero=>simp
|succ k b1=>rw[am0,vo,kr,b1,Nat.succ_mul,Nat.add_comm]
end
end a7
namespace MW
open PySem PySem.W PySem.Calls PyProof.Rows
def agA{P:Params}{h:bz}:∀(ns:List Int) (vs:List aj),WellAll P h vs (ns.map WData.int)->IntsAre vs ns:=by
 intro ns
 induction ns with
|nil=>
  intro vs w;rw[gc] at w;cases w;exact .nil
|cons n ns b1=>
  intro vs w;rw[dr] at w;cases w with
  |cons a b=>
   cases a
   exact .cons _ _ (b1 _ b)
def ah9{l:OpenLaw}{n:Nat}(a5:l.most=some n){P:Params}{h:bz}{args:List WData}{vals:List aj}
    (Al:l.row.toRowW.claim.pre args=true) (G8:WellAll P h vals args):
    ∃a vs ns,vals=[Value.ref a]/\args=[WData.list (ns.map WData.int)]/\h.get? a=some {cls:=.type "list",data:=.seq vs.toArray}/\IntsAre vs ns/\ns.length<=n:=by
  have _L:WShape.hasAll [] args [.list .int]=true:=(pre_splitW Al).1;have au:l.pre.holds [] {args:=args}=true:=(pre_splitW Al).2;obtain⟨d,r,rfl,ai,ao⟩:=hasAllW_cons _L;obtain rfl:=hasAllW_nil ao;obtain⟨xs,rfl,bE⟩:=hasW_list ai;obtain⟨ns,rfl⟩:=items_int bE;have hlen:ns.length<=n:=by
    unfold OpenLaw.pre at au;have c4:(WTm.not (.lt (.lit (.int (n:Int))) (.len (.arg 0)))).holds [] {args:=[.list (ns.map .int)]}=true:=by
      have c4:=(holds_andW au).1;rw[a5] at c4;exact c4
    have f':=condW_of c4 (w_not (w_lt w_lit (w_len_list (w_arg rfl))));rw[hi] at f';refine Nat.le_of_not_lt λq=>?_;have el:(n:Int)<((ns.length:Nat):Int):=by omega
    first
      | (rw[decide_eq_true el] at f';exact absurd f' (by decide))
      | (simp at f';omega)
  cases G8 with
  |cons rF xM=>
    cases xM
    cases rF with
    |list aF ZS=>exact⟨_,_,ns,rfl,rfl,aF,agA ns _ ZS,hlen⟩
def aic(l:OpenLaw)(args:List WData):l.row.toRowW.claim.post args (.bool true) args=true:=
 postW_of (r:=l.row.toRowW) (X:=(true==true))
  (show WShape.has [] (.bool true) .bool=true by first|rfl|decide|simp[WShape.has,WShape.arms,WShape.armsAll])
  (show (WTm.eq .res (.lit (.bool true))).value [] {args:=args,res:=some (.bool true),after:=args}=some (.bool (true==true)) from w_eq_bool (w_res rfl) w_lit) rfl
def Xr{l:OpenLaw}{n:Nat}{q:cC}{loose:List Str}{uK:(Str->Option aj)->bz->Prop}{oM:b6->bz->Prop}{d:DefRec}
  (a5:l.most=some n) (wW:d.params.defaults=[])
  (call:∀(w:b6) (c_ c':aH) (mg ll:Str->Option aj) (bT:af) (o:Obj) (pm cd doc:aj) (a:af) (vs:List aj) (ns:List Int),
   Ground q loose [] uK w c_ mg ll c'.heap->oM w c'.heap ->
   c'.heap.get? bT=some o->o.data=.func (docDef d.name d.params d.body d.scope pm cd doc)->c'.heap.CodeRec cd d.name->mg d.name=some (.ref bT) ->
   c'.heap.get? a=some {cls:=.type "list",data:=.seq vs.toArray}->IntsAre vs ns->ns.length<=n->c'.gens=#[] ->
   h7 (bu l.prog w) callerA (.call (.ref bT) ⟨[.ref a],[]⟩) (λr s'=>r=.ok (.ret (.bool true))/\OldK c'.heap s'.heap/\s'.os=c'.os/\AllBare s'.gens) c'):
  WalkO q loose uK oM l.row.toRowW d [] (λf vs=>PySem.call f vs):=by
 intro w c_ c' mg ll G Y bT o pm cd doc zp dN aF hd fz kL w3 bt args vals as Al amr amw G8 rg;obtain rfl:zp=.none:=Dflts.none kL wW;obtain rfl:dN=.none:=Dflts.noKw kL;obtain⟨a,vs,ns,rfl,rfl,GX,hints,hlen⟩:=ah9 a5 Al G8;refine enter_call (pw (call w c_ c' mg ll bT o pm cd doc a vs ns G Y aF (fd_plain hd) fz w3 GX hints hlen bt) λr s' bb=>?_);obtain⟨rfl,ao,bE,c4⟩:=bb;exact⟨.inl ⟨.bool true,.bool true,[],rfl,λ_=>rfl,.bool true,aic l _,λ_=>⟨List.Pairwise.nil,λ_ hm=>(nomatch hm)⟩⟩,ao,bE,c4⟩
end MW
namespace a7
open PySem PySem.Spec PyProof.Rows
theorem RV:∀{vs:List aj} {ns:List Int},IntsAre vs ns->Vals (ns.map V.int) vs
|_,_,.nil=>.nil
|_,_,.cons n t h=>.cons ⟨t,rfl⟩ (RV h)
end a7
namespace a7
open PySem PySem.Spec PyProof.Rows
end a7
namespace a7
open PySem PySem.Spec PyProof.Rows
noncomputable def e'(s:Stmt)(j:Nat):Stmt:=match s with
|.ClassDef _ _ _ body _ _ _ _ _ _ _=>body.getD j (.Pass ⟨0,0,0,0⟩)
|_=>.Pass ⟨0,0,0,0⟩
noncomputable def ot(s:Stmt):Arguments:=match s with
|.FunctionDef _ a _ _ _ _ _ _ _ _=>a
|_=>{posonlyargs:=[],args:=[],vararg:=none,kwonlyargs:=[],kw_defaults:=[],kwarg:=none,defaults:=[]}
noncomputable def fv(s:Stmt):List Stmt:=match s with
|.FunctionDef _ _ b _ _ _ _ _ _ _=>b
|_=>[]
noncomputable def bx(s:Stmt):Scope:=match s with
|.FunctionDef _ _ _ _ _ _ sc _ _ _=>sc
|_=>{kind:=.function,names:=[],isGenerator:=false,isCoroutine:=false}
abbrev dt:lU:=λ_ _ _ _ _ _=>False
abbrev jO:e0:=λ_ _ _=>False
def ow{X:aV}:r9 dt X jO:=λ_ _ _ _ _ _ _ h=>h.elim
structure cG(K:a6)(x qual:Str)(st:Stmt)(f:af)(fd:et):Prop where
 ex:∃(gD:aj) (eI:Option af) (dN doc pm:aj) (an:Option af) (bN cR:aj) (lu:Array (Option aj)),
  fd=ml x qual (ot st) (fv st) (bx st) .none dN doc pm an bN cR/\K.lookup f=some ⟨gD,eI,.func fd,lu⟩/\amZ K bN qual=true
 az:m9 K (.ref f)=true
section
variable {P:cC}{w:b6}{K:a6}{mg:Str->Option aj}{base:bz}
def cG.ok{x qual:Str}{st:Stmt}{f:af}{fd:et}{N ps:List Str}{k:Nat}{sp:kc}(F:cG K x qual st f fd)(S:cO N ps (bx st))(len:∀vs H Q E,sp vs H Q E->vs.length=ps.length)
  (p9:∀(bN:aj) (A:cH) (outer:List Env) (s:aH) (H:aw) (vs:List V) (Q:c0) (E:e0),c2 k (A.deeper (envOfC qual (bx st) s.heap.objs.size f bN))->sp vs H Q E ->
   ∃t,fT (e3 dt P w K mg base N qual (bx st) f bN A outer s H E).ey (fv st) t/\t {bO:=λ_ ae=>Q .d3 ae,er:=Q} (start N vs) H):eR P w K mg base dt (k+1) f fd ps sp:=by
 obtain⟨gD,eI,dN,doc,pm,an,bN,cR,lu,rfl,lk,fz⟩:=F.ex;refine MN lk fz S len λA outer s H vs Q E ax rl=>?_;obtain⟨t,h,q⟩:=p9 bN A outer s H vs Q E ax rl;exact⟨t,h.ey,q⟩
def cG.binds{x qual:Str}{st:Stmt}{f:af}{fd:et}{ps:List Str}(F:cG K x qual st f fd)
  (h:∀(dN doc pm:aj) (an:Option af) (bN cR:aj) (us:List aj),us.length=ps.length->bindArgs (ml x qual (ot st) (fv st) (bx st) .none dN doc pm an bN cR) ⟨us,[]⟩=pure (ps.zip us)):fG K fd ps []:=by
 obtain⟨gD,eI,dN,doc,pm,an,bN,cR,lu,rfl,lk,fz⟩:=F.ex;exact .all (h dN doc pm an bN cR)
def dv{x qual:Str}{st:Stmt}{f:af}{gD:aj}{eI an:Option af}{lu:Array (Option aj)}{dN doc pm bN cR:aj}(l:K.lookup f=some ⟨gD,eI,.func (ml x qual (ot st) (fv st) (bx st) .none dN doc pm an bN cR),lu⟩)
  (c:amZ K bN qual=true) (k:m9 K (.ref f)=true):cG K x qual st f (ml x qual (ot st) (fv st) (bx st) .none dN doc pm an bN cR):=⟨⟨gD,eI,dN,doc,pm,an,bN,cR,lu,rfl,l,c⟩,k⟩
end
def y1{A:cH}{k:Nat}(ax:c2 k A):A.units+1<cLine:=Nat.lt_of_le_of_lt (Nat.add_le_add_left (by decide:1<=64) _) ax.units
section
variable {X:aV}
def aW(i:Nat){x:Str}{pos:Pos}(dp:X.N[i]?=some x:=by rfl)(bo:l0 X.env.scope x:=by first|exact Or.inl rfl|exact Or.inr (Or.inl rfl)|exact Or.inr (Or.inr rfl))(hd:(x==("__debug__":Str))=false:=by decide)
  (fz:(x==("__classdict__":Str))=false:=by decide):bK X (.Name x pos) (fB i):=ak7 dp bo hd fz
end
def u7{A B:Prop}(h:B):if false=true then A else B:=by
 rw[if_neg m'];exact h
def rq{A B:Prop}(h:A):if true=true then A else B:=by
 rw[if_pos rfl];exact h
noncomputable def Wo(H ae:aw):Prop:=∀b o,H b=some o->ae b=some o
end a7
end
section
namespace D
open PySem
abbrev T:=PyData
noncomputable def iJ(a:T):Bool:=a.canLay0 && decide (a.depth<=60)
noncomputable def ti(as:List T):Bool:=lG as && decide (kq as<=60)
abbrev Key:=Sum Int Str
inductive gr where
|c1|own|cy
 deriving DecidableEq
inductive aJ where
|ag (t:T)|own (ts:List T)|hr (kvs:List (Key×T))|obj (m:gr) (c:Nat) (aA:List aJ)
abbrev Ev:=List (Option aJ)
inductive Out where
|bO (ε:Ev)|er (t:T)|gx (ε:Ev)|cR (ε:Ev)|iL (t:T) (ε:Ev)|ly (s:aJ)
abbrev bH:=Ev->Option T
abbrev fS:=Ev->Option Bool
abbrev bF:=Ev->Option Out
abbrev kz:=Ev->Option (List T)
abbrev iZ:=T->Ev->Option Ev
def big:Nat:=16777216
noncomputable def ek:T->T->Option T
|.int i,.int j=>some (.int (i+j))
|.str x,.str y=>if x.length+y.length<=big then some (.str (x++y)) else none
|.tuple xs,.tuple ys=>if xs.length+ys.length<=big then some (.tuple (xs++ys)) else none
|.list xs,.list ys=>if xs.length+ys.length<=big then some (.list (xs++ys)) else none
|_,_=>none
noncomputable def nZ:T->T->Option T
|.int i,.int j=>some (.int (i - j))
|_,_=>none
noncomputable def DN(i j:Int):Bool:=(decide (-(2 ^ 64)<i) && decide (i<2 ^ 64)) || (decide (-(2 ^ 64)<j) && decide (j<2 ^ 64))
noncomputable def gX:T->T->Option T
|.int i,.int j=>if DN i j then some (.int (i*j)) else none
|_,_=>none
noncomputable def oDiv:T->T->Option T
|.int i,.int j=>if 0<j/\j<1073741824 then some (.int (i / j)) else none
|_,_=>none
noncomputable def oMod:T->T->Option T
|.int i,.int j=>if 0<j then some (.int (i % j)) else none
|_,_=>none
noncomputable def rv:T->Option T
|.int i=>some (.int (-i))
|_=>none
noncomputable def hY(n:Nat)(i:Int):Option Nat:=if 0<=i then (if i<n then some i.toNat else none) else if -(n:Int)<=i then some (i+n).toNat else none
noncomputable def gL{α:Type}(xs:List α)(i:Int):Option α:=(hY xs.length i).bind λj=>xs[j]?
noncomputable def bg:T->T->Option T
|.tuple xs,.int i=>gL xs i
|.list xs,.int i=>gL xs i
|.str x,.int i=>if x.length<=big then (gL x.cps.toList i).map λc=>.str ⟨#[c]⟩ else none
|_,_=>none
noncomputable def oEq(a b:T):Option T:=if iJ a && iJ b then some (.bool (n' a b)) else none
noncomputable def fW(a b:T):Option T:=if iJ a && iJ b then some (.bool (!PyData.eqv a b)) else none
noncomputable def jX(a:T):Option T:=some (.bool (match a with|.none=>true|_=>false))
noncomputable def jK(a:T):Option T:=some (.bool (match a with|.none=>false|_=>true))
noncomputable def ia(x y:Str):Bool:=decide (x.cps.toList<y.cps.toList)
noncomputable def oLt:T->T->Option T
|.int i,.int j=>some (.bool (decide (i<j)))
|.str x,.str y=>some (.bool (ia x y))
|_,_=>none
noncomputable def oLe:T->T->Option T
|.int i,.int j=>some (.bool (decide (i<=j)))
|.str x,.str y=>some (.bool (!ia y x))
|_,_=>none
noncomputable def i8:T->T->Option T
|.int i,.int j=>some (.bool (decide (j<i)))
|.str x,.str y=>some (.bool (ia y x))
|_,_=>none
noncomputable def u':T->T->Option T
|.int i,.int j=>some (.bool (decide (j<=i)))
|.str x,.str y=>some (.bool (!ia x y))
|_,_=>none
noncomputable def p8(x:T)(ts:List T):Bool:=ts.any λy=>n' y x
noncomputable def gQ(neg:Bool):T->T->Option T
|x,.tuple ys=>if iJ x && ti ys then some (.bool (if neg then !p8 x ys else p8 x ys)) else none
|x,.list ys=>if iJ x && ti ys then some (.bool (if neg then !p8 x ys else p8 x ys)) else none
|_,_=>none
noncomputable def gC:List T->Option T
| [.tuple xs]=>some (.int xs.length)
| [.list xs]=>some (.int xs.length)
| [.str x]=>if x.length<=big then some (.int x.length) else none
|_=>none
noncomputable def PG:List T->Option T
| [.int i,.int j]=>some (.int (if j<i then j else i))
|_=>none
noncomputable def xq:List T->Option T
| [.int i,.int j]=>some (.int (if j > i then j else i))
|_=>none
noncomputable def g6:List T->Option T
| [.tuple xs]=>some (.tuple xs)
| [.list xs]=>some (.tuple xs)
|_=>none
noncomputable def UM:List T->Option T
| [.tuple xs]=>some (.list xs)
| [.list xs]=>some (.list xs)
|_=>none
noncomputable def PF:List T->Option T
| [.int i]=>some (.int i)
| [.bool b]=>some (.int (if b then 1 else 0))
|_=>none
noncomputable def cX(n d:Nat):Option Int->Nat
|none=>d
|some v=>(if v<0 then max (v+n) 0 else min v n).toNat
noncomputable def mI{α:Type}(xs:List α)(lo aM:Option Int):List α:=(xs.drop (cX xs.length 0 lo)).take (cX xs.length xs.length aM - cX xs.length 0 lo)
noncomputable def Bc(t:T)(lo aM:Option Int):Option T:=match t with
|.tuple xs=>some (.tuple (mI xs lo aM))
|.list xs=>some (.list (mI xs lo aM))
|_=>none
noncomputable def um:List T->Option (List Str)
| []=>some []
|.str x::ts=>(um ts).map λr=>x::r
|_::_=>none
noncomputable def insI(x:Int):List Int->List Int
| []=>[x]
|y::ys=>if x<=y then x::y::ys else y::insI x ys
noncomputable def r':List Int->List Int
| []=>[]
|x::xs=>insI x (r' xs)
noncomputable def s_(x:Str):List Str->List Str
| []=>[x]
|y::ys=>if !ia y x then x::y::ys else y::s_ x ys
noncomputable def amG:List Str->List Str
| []=>[]
|x::xs=>s_ x (amG xs)
noncomputable def ib:T->Option Key
|.int i=>some (.inl i)
|.str x=>some (.inr x)
|_=>none
noncomputable def putD(kvs:List (Key×T))(k:Key)(v:T):List (Key×T):=if kvs.any (λp=>decide (p.1=k)) then kvs.map λp=>if p.1=k then (k,v) else p else kvs++[(k,v)]
noncomputable def getD(kvs:List (Key×T))(k:Key):Option T:=(kvs.find? λp=>decide (p.1=k)).map (·.2)
def ak(t:T):bH:=λ_=>some t
noncomputable def nm(i:Nat):bH:=λε=>match ε[i]? with
|some (some (.ag t))=>some t
|some (some (.own ts))=>some (.list ts)
|_=>none
noncomputable def aZ(i:Nat):bH:=λε=>match ε[i]? with
|some (some (.ag t))=>some t
|_=>none
noncomputable def e7(o:T->Option T)(f:bH):bH:=λε=>(f ε).bind o
noncomputable def ar(o:T->T->Option T)(f g:bH):bH:=λε=>(f ε).bind λx=>(g ε).bind λy=>o x y
noncomputable def args:List bH->Ev->Option (List T)
| [],_=>some []
|f::aA,ε=>(f ε).bind λt=>(args aA ε).map λts=>t::ts
noncomputable def b9(o:List T->Option T)(aA:List bH):bH:=λε=>(args aA ε).bind o
noncomputable def bV(aA:List bH):bH:=λε=>(args aA ε).bind λts=>if ts.length<=big then some (.tuple ts) else none
noncomputable def g7(aA:List bH):bH:=λε=>(args aA ε).bind λts=>if ts.length<=big then some (.list ts) else none
noncomputable def opt(f:bH):Ev->Option (Option Int):=λε=>(f ε).bind λt=>match t with|.int i=>some (some i)|_=>none
def optN:Ev->Option (Option Int):=λ_=>some none
noncomputable def slice(f:bH)(lo aM:Ev->Option (Option Int)):bH:=λε=>(f ε).bind λt=>(lo ε).bind λl=>(aM ε).bind λh=>Bc t l h
noncomputable def nE(f g:bH):bH:=λε=>(f ε).bind λt=>match t with|.bool true=>g ε|.bool false=>some (.bool false)|_=>none
noncomputable def xu(f g:bH):bH:=λε=>(f ε).bind λt=>match t with|.bool false=>g ε|.bool true=>some (.bool true)|_=>none
noncomputable def chain(o p:T->T->Option T)(f g h:bH):bH:=λε=>(f ε).bind λx=>(g ε).bind λy=>(o x y).bind λr=>match r with
|.bool true=>(h ε).bind λz=>p y z
|.bool false=>some (.bool false)
|_=>none
noncomputable def bS(f:bH):fS:=λε=>(f ε).bind λt=>match t with|.bool b=>some b|_=>none
noncomputable def iy(f:bH):fS:=λε=>(f ε).bind λt=>match t with|.list ts=>some (!ts.isEmpty)|.tuple ts=>some (!ts.isEmpty)|_=>none
noncomputable def iF(f g:fS):fS:=λε=>(f ε).bind λb=>if b then g ε else some false
noncomputable def fA(f g:fS):fS:=λε=>(f ε).bind λb=>if b then some true else g ε
def i7(f:fS):fS:=λε=>(f ε).map λb=>!b
noncomputable def qd(c:fS)(f g:bH):bH:=λε=>(c ε).bind λb=>if b then f ε else g ε
def f6(b:Bool):fS:=λ_=>some b
def ofT(c:fS):bH:=λε=>(c ε).map .bool
noncomputable def fO(f:bH):kz:=λε=>(f ε).bind λt=>match t with|.tuple ts=>some ts|.list ts=>some ts|_=>none
noncomputable def jk(f:bH):kz:=λε=>(f ε).bind λt=>match t with|.tuple ts=>some ts|_=>none
noncomputable def i_(lo aM:Int):List T:=(List.range (aM - lo).toNat).map λ(k:Nat)=>.int (lo+(k:Int))
noncomputable def rY(i:Int):Bool:=decide (-(2 ^ 62)<=i) && decide (i<2 ^ 62)
noncomputable def j7(f:bH):kz:=λε=>(f ε).bind λt=>match t with|.int j=>if rY j then some (i_ 0 j) else none|_=>none
noncomputable def enum(ts:List T):List T:=ts.zipIdx.map λp=>.tuple [.int p.2,p.1]
def nq(f:kz):kz:=λε=>(f ε).map enum
noncomputable def cw(i:Nat):iZ:=λt ε=>some (ε.set i (some (.ag t)))
noncomputable def gV:List iZ->List T->Ev->Option Ev
| [],[],ε=>some ε
|g::fM,t::ts,ε=>(g t ε).bind λε'=>gV fM ts ε'
|_,_,_=>none
noncomputable def fp(fM:List iZ):iZ:=λt ε=>match t with|.tuple ts=>gV fM ts ε|_=>none
noncomputable def gT(g:iZ)(c:fS)(e:bH):List T->Ev->Option (List T)
| [],_=>some []
|t::ts,ε=>(g t ε).bind λhO=>(c hO).bind λb=>if b then (e hO).bind λy=>(gT g c e ts hO).map λys=>y::ys else gT g c e ts hO
noncomputable def j8(own:Nat)(caps:List Nat)(ε:Ev):Ev:=ed own none++caps.map λi=>(ε[i]?).join
noncomputable def comp(own:Nat)(caps:List Nat)(it:kz)(g:iZ)(c:fS)(e:bH):bH:=λε=>(it ε).bind λts=>if ts.length<=big then (gT g c e ts (j8 own caps ε)).map .list else none
def skip:bF:=λε=>some (.bO ε)
noncomputable def seq(a b:bF):bF:=λε=>(a ε).bind λo=>match o with|.bO ε'=>b ε'|o=>some o
noncomputable def asg(i:Nat)(f:bH):bF:=λε=>(f ε).map λt=>.bO (ε.set i (some (.ag t)))
noncomputable def l3(i:Nat)(f:bH):bF:=λε=>(f ε).bind λt=>match t with|.list ts=>some (.bO (ε.set i (some (.own ts))))|_=>none
noncomputable def l4(g:iZ)(f:bH):bF:=λε=>(f ε).bind λt=>(g t ε).map .bO
def cP(f:bH):bF:=λε=>(f ε).map .er
noncomputable def iff(c:fS)(a b:bF):bF:=λε=>(c ε).bind λx=>if x then a ε else b ε
def brk:bF:=λε=>some (.gx ε)
noncomputable def forL(g:iZ)(b:bF):List T->Ev->Option Out
| [],ε=>some (.bO ε)
|t::ts,ε=>(g t ε).bind λhO=>(b hO).bind λo=>match o with
  |.bO jn=>forL g b ts jn
  |.cR jn=>forL g b ts jn
  |.gx jn=>some (.bO jn)
  |.er t=>some (.er t)
  |.iL t jn=>some (.iL t jn)
  |.ly s=>some (.ly s)
noncomputable def gU(it:kz)(g:iZ)(b:bF):bF:=λε=>(it ε).bind λts=>forL g b ts ε
noncomputable def ext(i:Nat)(f:bH):bF:=λε=>match ε[i]? with
|some (some (.own ts))=>(f ε).bind λt=>match t with
  |.list us=>if ts.length+us.length<=big then some (.bO (ε.set i (some (.own (ts++us))))) else none
  |_=>none
|_=>none
noncomputable def pop(i j:Nat):bF:=λε=>match ε[j]? with
|some (some (.own ts))=>(ts.getLast?).bind λt=>if i=j then none else some (.bO ((ε.set j (some (.own ts.dropLast))).set i (some (.ag t))))
|_=>none
noncomputable def par(i j:Nat)(own:Bool)(f g:bH):bF:=λε=>(f ε).bind λt=>(g ε).bind λu=>if own then (match u with|.list us=>some (.bO ((ε.set i (some (.ag t))).set j (some (.own us))))|_=>none) else some (.bO ((ε.set i (some (.ag t))).set j (some (.ag u))))
noncomputable def eJ(b:bF)(n:Nat)(as:List T):Option T:=(b ((as.map λt=>some (.ag t))++ed (n - as.length) none)).bind λo=>match o with
|.er t=>some t
|.bO _=>some .none
|_=>none
end D
end
section
namespace D
open PySem PySem.Spec PyProof.Rows a7
section
mutual
noncomputable def Rep(K:a6)(F:af->Prop)(H:aw):T->V->Prop
|.none,v=>v=.d3
|.bool b,v=>v=.b0 b
|.int i,v=>v=.int i
|.str x,v=>v=.str x
|.dict _,_=>False
|.tuple ts,v=>∃a vs,v=.ref a/\c3 K H a vs/\bl K F H ts vs
|.list ts,v=>∃a vs,v=.ref a/\F a/\eU H a (.lst vs)/\bl K F H ts vs
noncomputable def bl(K:a6)(F:af->Prop)(H:aw):List T->List V->Prop
| [],vs=>vs=[]
|t::ts,vs=>∃v r,vs=v::r/\Rep K F H t v/\bl K F H ts r
end
section
variable {K:a6}{F aG:af->Prop}{H ae:aw}
mutual
theorem Rep.keep(ai:∀b xs,c3 K H b xs->c3 K ae b xs)(ao:∀b xs,F b->eU H b (.lst xs)->aG b/\eU ae b (.lst xs)):∀{t:T} {v:V},Rep K F H t v->Rep K aG ae t v
|.none,v,h=>by simpa [Rep] using h
|.bool _,v,h=>by simpa [Rep] using h
|.dict _,v,h=>by simp[Rep] at h
|.int _,v,h=>by simpa [Rep] using h
|.str _,v,h=>by simpa [Rep] using h
|.tuple ts,v,h=>by
  simp only[Rep] at h ⊢;obtain⟨a,vs,e,q,r⟩:=h;exact⟨a,vs,e,ai _ _ q,bl.keep ai ao r⟩
|.list ts,v,h=>by
  simp only[Rep] at h ⊢;obtain⟨a,vs,e,f,q,r⟩:=h;exact⟨a,vs,e,(ao _ _ f q).1,(ao _ _ f q).2,bl.keep ai ao r⟩
theorem bl.keep(ai:∀b xs,c3 K H b xs->c3 K ae b xs)(ao:∀b xs,F b->eU H b (.lst xs)->aG b/\eU ae b (.lst xs)):∀{ts:List T} {vs:List V},bl K F H ts vs->bl K aG ae ts vs
| [],vs,h=>by simpa [bl] using h
|t::ts,vs,h=>by
  simp only[bl] at h ⊢;obtain⟨v,r,e,q,z⟩:=h;exact⟨v,r,e,Rep.keep ai ao q,bl.keep ai ao z⟩
end
def bl.nil:bl K F H [] []:=by simp[bl]
def bl.cons{t:T}{v:V}{ts:List T}{vs:List V}(h:Rep K F H t v)(r:bl K F H ts vs):bl K F H (t::ts) (v::vs):=by
 simp only[bl];exact⟨v,vs,rfl,h,r⟩
theorem bl.length:∀{ts:List T} {vs:List V},bl K F H ts vs->ts.length=vs.length
| [],vs,h=>by
  simp only[bl] at h;subst h;rfl
|t::ts,vs,h=>by
  simp only[bl] at h;obtain⟨v,r,e,q,z⟩:=h;subst e;simp[bl.length z]
theorem bl.get:∀{ts:List T} {vs:List V} {i:Nat} {t:T},bl K F H ts vs->ts[i]?=some t->∃v,vs[i]?=some v/\Rep K F H t v
| [],vs,i,t,h,e=>by simp at e
|x::ts,vs,0,t,h,e=>by
  simp only[bl] at h;obtain⟨v,r,rfl,q,z⟩:=h;simp at e;subst e;exact⟨v,rfl,q⟩
|x::ts,vs,i+1,t,h,e=>by
  simp only[bl] at h;obtain⟨v,r,rfl,q,z⟩:=h;obtain⟨u,ai,ao⟩:=bl.get (i:=i) (t:=t) z (by simpa using e);exact⟨u,by simpa using ai,ao⟩
theorem bl.append:∀{ts us:List T} {vs ws:List V},bl K F H ts vs->bl K F H us ws->bl K F H (ts++us) (vs++ws)
| [],us,vs,ws,h,r=>by
  simp only[bl] at h;subst h;exact r
|t::ts,us,vs,ws,h,r=>by
  simp only[bl] at h;obtain⟨v,z,rfl,q,y⟩:=h;exact bl.cons q (bl.append y r)
theorem bl.take:∀{ts:List T} {vs:List V} (n:Nat),bl K F H ts vs->bl K F H (ts.take n) (vs.take n)
| [],vs,n,h=>by
  simp only[bl] at h;subst h;simpa using bl.nil
|t::ts,vs,0,h=>by simpa using bl.nil
|t::ts,vs,n+1,h=>by
  simp only[bl] at h;obtain⟨v,z,rfl,q,y⟩:=h;simpa using bl.cons q (bl.take n y)
theorem bl.drop:∀{ts:List T} {vs:List V} (n:Nat),bl K F H ts vs->bl K F H (ts.drop n) (vs.drop n)
| [],vs,n,h=>by
  simp only[bl] at h;subst h;simpa using bl.nil
|t::ts,vs,0,h=>by simpa using h
|t::ts,vs,n+1,h=>by
  simp only[bl] at h;obtain⟨v,z,rfl,q,y⟩:=h;simpa using bl.drop n y
end
class cI where
 df:List (af×Str)
 fm:Nat->List Str
 nI:Nat->Option af
noncomputable def zh(H:aw)(b:af)(q:Str):Prop:=∃ps:Array aj,H b=some (.h4 ps)/\TriplesOk ps.toList/\∀pos cv,codeAmong pos ps.toList=some cv->∃c,cv=.ref c/\H c=some (.ext λh=>h.CodeRec (.ref c) q)
noncomputable def mG [t:cI](H:aw):Prop:=∀p∈t.df,zh H p.1 p.2
def zh.keep{H ae:aw}{b:af}{q:Str}(h:zh H b q)(k1:∀a ps,H a=some (.h4 ps)->ae a=some (.h4 ps))(k2:∀a oA,H a=some (.ext oA)->ae a=some (.ext oA)):zh ae b q:=by
 obtain⟨ps,ai,ao,bE⟩:=h;refine⟨ps,k1 _ _ ai,ao,λpos cv e=>?_⟩;obtain⟨c,aD,aL⟩:=bE pos cv e;exact⟨c,aD,k2 _ _ aL⟩
variable [cI]
noncomputable def amL(u:d7):Prop:=(∃xs,u=.lst xs)\/(∃xs,u=.fo xs)\/∃C bf aA,u=.ins C bf aA
def amL.cases{P:Prop}{u:d7}(h:amL u)(ai:∀xs,u=.lst xs->P)(ao:∀xs,u=.fo xs->P)(bE:∀C bf aA,u=.ins C bf aA->P):P:=by
 rcases h with ⟨xs,e⟩|⟨xs,e⟩|⟨C,bf,aA,e⟩
 ·exact ai xs e
 ·exact ao xs e
 ·exact bE C bf aA e
def mG.Ql{H:aw}(h:mG H){p:af}{o:d7}(aN:∀u,H p=some u->amL u):mG (upd H p o):=λb aa=>
 (h b aa).keep (λa ps e=>by
  have nb:a≠p:=by
   rintro rfl;exact (aN _ e).cases (λ_ z=>by cases z) (λ_ z=>by cases z) (λ_ _ _ z=>by cases z)
  rw[cK nb];exact e) λa oA e=>by
  have nb:a≠p:=by
   rintro rfl;exact (aN _ e).cases (λ_ z=>by cases z) (λ_ z=>by cases z) (λ_ _ _ z=>by cases z)
  rw[cK nb];exact e
theorem mG.upd{H:aw}(h:mG H){p:af}{o:d7}(aN:∀u,H p=some u->(∃xs,u=.lst xs)\/∃xs,u=.fo xs):mG (upd H p o):=h.Ql λu e=>by
 rcases aN u e with z|z
 ·exact .inl z
 ·exact .inr (.inl z)
def mG.new{H:aw}(h:mG H){p:af}{o:d7}(aN:H p=none):mG (a7.upd H p o):=h.upd λu e=>by rw[aN] at e;cases e
structure fQ(F:af->Prop)(H:aw):Prop where
 wH:∀a,F a->∃o,H a=some o
 m6:mG H
instance {F:af->Prop}{H:aw}:CoeFun (fQ F H) λ_=>∀a,F a->∃o,H a=some o:=⟨fQ.wH⟩
noncomputable def jL(H ae:aw):Prop:=∀b o,H b=some o->ae b=some o\/∃ps xv,o=.h4 ps/\ae b=some (.h4 xv)
def jL.refl(H:aw):jL H H:=λ_ _ h=>.inl h
def jL.ne{H ae:aw}(s:jL H ae){b:af}{o:d7}(e:H b=some o):∃u,ae b=some u:=by
 rcases s b o e with h|⟨_,_,_,h⟩
 ·exact⟨_,h⟩
 ·exact⟨_,h⟩
theorem jL.none{H ae:aw}(s:jL H ae){b:af}(e:ae b=none):H b=none:=by
 cases z:H b with
|none=>rfl
|some o=>
  obtain⟨u,q⟩:=s.ne z;rw[e] at q;cases q
def jL.get{H ae:aw}(s:jL H ae){b:af}{o:d7}(e:H b=some o)(n:∀ps,o≠.h4 ps:=by intro _ z;cases z):ae b=some o:=by
 rcases s b o e with h|⟨_,_,z,_⟩
 ·exact h
 ·exact absurd z (n _)
def jL.trans{H H1 ba:aw}(a:jL H H1)(b:jL H1 ba):jL H ba:=λc o h=>by
 rcases a c o h with q|⟨ps,aen,z,q⟩
 ·exact b c o q
 ·rcases b c _ q with a9|⟨_,xw,gg,a9⟩
  ·exact .inr ⟨ps,aen,z,a9⟩
  ·exact .inr ⟨ps,xw,z,a9⟩
structure Ext(F:af->Prop)(H:aw)(aG:af->Prop)(ae:aw):Prop where
 same:jL H ae
 sub:∀a,F a->aG a
 new:∀a,aG a->F a\/H a=none
 cp:fQ aG ae
section
variable {K:a6}{F aY dH:af->Prop}{H H1 ba:aw}
theorem Ext.refl(d:fQ F H):Ext F H F H:=⟨jL.refl H,λ_ h=>h,λ_ h=>.inl h,d⟩
theorem Ext.trans(a:Ext F H aY H1)(b:Ext aY H1 dH ba):Ext F H dH ba:=
 ⟨a.same.trans b.same,λx h=>b.sub x (a.sub x h),λx h=>(b.new x h).elim (λz=>a.new x z) λz=>.inr (a.same.none z),b.cp⟩
def eU.same{a:af}{u:d7}(s:jL H H1)(r:eU H a u)(n:∀ps,u≠.h4 ps:=by intro _ z;cases z):eU H1 a u:=by
 rcases r with r|⟨o,r⟩
 ·exact .inl (s.get r n)
 ·exact .inr ⟨o,s.get r⟩
theorem c3.same{a:af}{xs:List V}(s:jL H H1)(r:c3 K H a xs):c3 K H1 a xs:=by
 rcases r with r|r
 ·exact .inl (eU.same s r)
 ·exact .inr r
def Rep.ext{t:T}{v:V}(r:Rep K F H t v)(x:Ext F H aY H1):Rep K aY H1 t v:=r.keep (λ_ _ q=>c3.same x.same q) λb _ f q=>⟨x.sub b f,eU.same x.same q⟩
def bl.ext{t:List T}{v:List V}(r:bl K F H t v)(x:Ext F H aY H1):bl K aY H1 t v:=r.keep (λ_ _ q=>c3.same x.same q) λb _ f q=>⟨x.sub b f,eU.same x.same q⟩
def Ext.laid{p:af}{o:d7}(d:fQ F H)(aN:H p=none):Ext F H F (upd H p o):=
 ⟨λb u q=>.inl (Br aN o b u q),λ_ h=>h,λ_ h=>.inl h,⟨λa h=>by
  obtain⟨u,e⟩:=d a h;exact⟨u,Br aN o a u e⟩,d.m6.new aN⟩⟩
where Br {H:aw} {p:af} (h:H p=none) (o:d7):Wo H (upd H p o):=λb u q=>by rw[cK (iW q h)];exact q
def Ext.I0{p:af}{o:d7}(d:fQ F H)(aN:H p=none):Ext F H (λa=>F a\/a=p) (upd H p o):=
 ⟨λb u q=>.inl (Ext.laid.Br aN o b u q),λ_ h=>.inl h,λa h=>by
  rcases h with h|rfl
  ·exact .inl h
  ·exact .inr aN,⟨λa h=>by
  rcases h with h|rfl
  ·obtain⟨u,e⟩:=d a h;exact⟨u,Ext.laid.Br aN o a u e⟩
  ·exact⟨o,dM⟩,d.m6.new aN⟩⟩
end
structure dU(K:a6)(F:af->Prop)(H:aw)(aG:af->Prop)(ae:aw):Prop where
 tup:∀b xs,c3 K H b xs->c3 K ae b xs
 lst:∀b xs,F b->eU H b (.lst xs)->aG b/\eU ae b (.lst xs)
section
variable {K:a6}{F aY dH:af->Prop}{H H1 ba:aw}
def dU.refl:dU K F H F H:=⟨λ_ _ h=>h,λ_ _ f h=>⟨f,h⟩⟩
def dU.trans(a:dU K F H aY H1)(b:dU K aY H1 dH ba):dU K F H dH ba:=⟨λx xs h=>b.tup x xs (a.tup x xs h),λx xs f h=>b.lst x xs (a.lst x xs f h).1 (a.lst x xs f h).2⟩
def Ext.az(x:Ext F H aY H1):dU K F H aY H1:=⟨λ_ _ q=>c3.same x.same q,λb _ f q=>⟨x.sub b f,eU.same x.same q⟩⟩
def Rep.az{t:T}{v:V}(r:Rep K F H t v)(x:dU K F H aY H1):Rep K aY H1 t v:=r.keep x.tup x.lst
def bl.az{t:List T}{v:List V}(r:bl K F H t v)(x:dU K F H aY H1):bl K aY H1 t v:=r.keep x.tup x.lst
end
noncomputable def gv(K:a6)(O F:af->Prop)(H:aw)(t:T)(v:V):Prop:=
 Rep K F H t v\/∃ts a vs,t=.list ts/\v=.ref a/\H a=some (.lst vs)/\bl K F H ts vs
section
variable {K:a6}{O F aY:af->Prop}{H H1:aw}{v:V}
theorem gv.ext{t:T}(r:gv K O F H t v)(x:Ext F H aY H1):gv K O aY H1 t v:=by
 rcases r with r|⟨ts,a,vs,aD,aL,ip,r⟩
 ·exact .inl (r.ext x)
 ·exact .inr ⟨ts,a,vs,aD,aL,x.same.get ip,r.ext x⟩
theorem gv.d3(r:gv K O F H .none v):v=.d3:=by
 rcases r with r|⟨ts,a,vs,aD,_⟩
 ·simpa [Rep] using r
 ·cases aD
theorem gv.b0{b:Bool}(r:gv K O F H (.bool b) v):v=.b0 b:=by
 rcases r with r|⟨ts,a,vs,aD,_⟩
 ·simpa [Rep] using r
 ·cases aD
theorem gv.int{i:Int}(r:gv K O F H (.int i) v):v=.int i:=by
 rcases r with r|⟨ts,a,vs,aD,_⟩
 ·simpa [Rep] using r
 ·cases aD
theorem gv.str{x:Str}(r:gv K O F H (.str x) v):v=.str x:=by
 rcases r with r|⟨ts,a,vs,aD,_⟩
 ·simpa [Rep] using r
 ·cases aD
def gv.tup{ts:List T}(r:gv K O F H (.tuple ts) v):∃a vs,v=.ref a/\c3 K H a vs/\bl K F H ts vs:=by
 rcases r with r|⟨ts,a,vs,aD,_⟩
 ·simpa [Rep] using r
 ·cases aD
theorem gv.lst{ts:List T}(r:gv K O F H (.list ts) v):∃a vs,v=.ref a/\eU H a (.lst vs)/\bl K F H ts vs:=by
 rcases r with r|⟨us,a,vs,aD,aL,ip,r⟩
 ·simp only[Rep] at r;obtain⟨a,vs,e,_,q,z⟩:=r;exact⟨a,vs,e,q,z⟩
 ·cases aD
  exact⟨a,vs,aL,.inl ip,r⟩
end
noncomputable def ei(K:a6)(F:af->Prop)(H:aw):List (D.Key×T)->List (D.Key×V)->Prop
| [],vs=>vs=[]
|p::ts,vs=>∃v r,vs=(p.1,v)::r/\Rep K F H p.2 v/\ei K F H ts r
theorem ei.az{K:a6}{F aG:af->Prop}{H ae:aw}(x:dU K F H aG ae):∀{ts:List (D.Key×T)} {vs:List (D.Key×V)},ei K F H ts vs->ei K aG ae ts vs
| [],vs,h=>h
|p::ts,vs,h=>by
  obtain⟨v,r,e,q,z⟩:=h;exact⟨v,r,e,q.az x,ei.az x z⟩
structure fR where
 h:aw
 i6:af
def hZ:V->List af
|.ref a=>[a]
|_=>[]
noncomputable def dP:aJ->V->List af
|.ag _,_=>[]
|_,v=>hZ v
noncomputable def dk:List aJ->List V->List af
|s::ss,v::vs=>dP s v++dk ss vs
|_,_=>[]
noncomputable def Ds(H:aw):V->List V
|.ref a=>(match H a with
  |some (.ins _ _ kvs)=>kvs.map (·.2)
  |some (.fo kvs)=>kvs.map (·.2)
  |_=>[])
|_=>[]
noncomputable def dz(H:aw):aJ->V->List af
|.ag _,_=>[]
|.own _,v=>hZ v
|.hr _,v=>hZ v
|.obj _ _ aA,v=>hZ v++dk aA (Ds H v)
noncomputable def ic(H:aw)(a:af)(c:Nat)(vs:List V):Prop:=vs.length<=(cI.fm c).length/\match cI.nI c with
|some C=>∃bf,H a=some (.ins C bf ((cI.fm c).zip vs))
|none=>H a=some (.fo (((cI.fm c).zip vs).map λp=>(.inr p.1,p.2)))
noncomputable def lQ(K:a6)(F:af->Prop)(H:aw):aJ->V->Prop
|.ag t,v=>Rep K F H t v
|.own ts,v=>∃b us,v=.ref b/\H b=some (.lst us)/\bl K F H ts us
|.hr kvs,v=>∃b us,v=.ref b/\H b=some (.fo us)/\ei K F H kvs us
|.obj _ _ _,_=>False
noncomputable def gh(K:a6)(F:af->Prop)(H:aw):List aJ->List V->Prop
| [],vs=>vs=[]
|s::ss,vs=>∃v r,vs=v::r/\lQ K F H s v/\gh K F H ss r
noncomputable def wu(E:fR)(O F:af->Prop)(m:gr)(b:af):Prop:=¬F b/\match m with
|.c1=>E.h b≠none
|_=>O b
noncomputable def d5(K:a6)(E:fR)(O F:af->Prop)(H:aw):aJ->V->Prop
|.ag t,v=>Rep K F H t v
|.own ts,v=>∃a vs,v=.ref a/\¬F a/\O a/\H a=some (.lst vs)/\bl K F H ts vs
|.hr kvs,v=>∃a vs,v=.ref a/\¬F a/\O a/\H a=some (.fo vs)/\ei K F H kvs vs
|.obj m c aA,v=>∃a vs,v=.ref a/\ic H a c vs/\gh K F H aA vs/\(a::dk aA vs).Nodup/\(∀b∈a::dk aA vs,wu E O F m b)/\(m=.cy->a=E.i6)
noncomputable def aJ.iH:aJ->Bool
|.ag _=>false
|.obj .c1 _ _=>false
|_=>true
section
variable {K:a6}{F aG O nB:af->Prop}{H ae:aw}{E:fR}
theorem L1{α β:Type}:∀{xs:List α} {ys:List β},ys.length<=xs.length->(xs.zip ys).map (·.2)=ys
|xs,[],_=>by simp
| [],y::ys,h=>by simp at h
|x::xs,y::ys,h=>by simp[L1 (xs:=xs) (ys:=ys) (by simpa using h)]
def ic.vals{a:af}{c:Nat}{vs:List V}(h:ic H a c vs):Ds H (.ref a)=vs:=by
 obtain⟨aE,h⟩:=h;unfold Ds;split at h
 ·obtain⟨bf,e⟩:=h;simp only[e];exact L1 aE
 ·simp only[h,tK];exact L1 aE
def ic.mem{a:af}{c:Nat}{vs:List V}(h:ic H a c vs):∃o,H a=some o/\amL o:=by
 obtain⟨aE,h⟩:=h;split at h
 ·obtain⟨bf,e⟩:=h;exact⟨_,e,.inr (.inr ⟨_,_,_,rfl⟩)⟩
 ·exact⟨_,h,.inr (.inl ⟨_,rfl⟩)⟩
def ic.keep{a:af}{c:Nat}{vs:List V}(h:ic H a c vs)(e:ae a=H a):ic ae a c vs:=by
 obtain⟨aE,h⟩:=h;refine⟨aE,?_⟩;rw[e];exact h
def vT{v:V}{b:af}(h:b∈hZ v):v=.ref b:=by
 unfold hZ at h;split at h
 ·simp at h;rw[h]
 ·simp at h
theorem lQ.at{s:aJ}{v:V}{b:af}(r:lQ K F H s v)(h:b∈dP s v):∃o,H b=some o/\amL o:=by
 cases s with
|ag t=>simp[dP] at h
|own ts=>
  obtain⟨nF,us,e,ht,_⟩:=r;have:=vT h;rw[e] at this;cases this;exact⟨_,ht,.inl ⟨_,rfl⟩⟩
|hr ts=>
  obtain⟨nF,us,e,ht,_⟩:=r;have:=vT h;rw[e] at this;cases this;exact⟨_,ht,.inr (.inl ⟨_,rfl⟩)⟩
|obj m c aA=>exact r.elim
theorem gh.at:∀{aA:List aJ} {vs:List V} {b:af},gh K F H aA vs->b∈dk aA vs->∃o,H b=some o/\amL o
| [],vs,b,r,h=>by simp[dk] at h
|s::ss,vs,b,r,h=>by
  obtain⟨v,z,rfl,bj,b_⟩:=r;rw[show dk (s::ss) (v::z)=dP s v++dk ss z from rfl] at h;rcases j2.mp h with h|h
  ·exact bj.at h
  ·exact gh.at b_ h
def ku{m:gr}{c:Nat}{aA:List aJ}{a:af}{vs:List V}(h:ic H a c vs):dz H (.obj m c aA) (.ref a)=a::dk aA vs:=by
 show hZ (.ref a)++dk aA (Ds H (.ref a))=_
 rw[h.vals];rfl
theorem d5.at{s:aJ}{v:V}{b:af}(r:d5 K E O F H s v)(h:b∈dz H s v):∃o,H b=some o/\amL o:=by
 cases s with
|ag t=>simp[dz] at h
|own ts=>
  obtain⟨nF,us,e,_,_,ht,_⟩:=r;have:=vT h;rw[e] at this;cases this;exact⟨_,ht,.inl ⟨_,rfl⟩⟩
|hr ts=>
  obtain⟨nF,us,e,_,_,ht,_⟩:=r;have:=vT h;rw[e] at this;cases this;exact⟨_,ht,.inr (.inl ⟨_,rfl⟩)⟩
|obj m c aA=>
  obtain⟨a,vs,rfl,aB,hf,_⟩:=r;rw[ku aB] at h;rcases cM.mp h with rfl|h
  ·exact aB.mem
  ·exact hf.at h
def d5.held{s:aJ}{v:V}{b:af}(r:d5 K E O F H s v)(h:b∈dz H s v):¬F b/\(s.iH=true->O b)/\(s.iH=false->E.h b≠none):=by
 cases s with
|ag t=>simp[dz] at h
|own ts=>
  obtain⟨nF,us,e,n,o,ht,_⟩:=r;have:=vT h;rw[e] at this;cases this;exact⟨n,λ_=>o,λz=>by cases z⟩
|hr ts=>
  obtain⟨nF,us,e,n,o,ht,_⟩:=r;have:=vT h;rw[e] at this;cases this;exact⟨n,λ_=>o,λz=>by cases z⟩
|obj m c aA=>
  obtain⟨a,vs,rfl,aB,hf,a8,fX,_⟩:=r;rw[ku aB] at h;obtain⟨n,q⟩:=fX b h;refine⟨n,λz=>?_,λz=>?_⟩
  ·cases m with
   |c1=>cases z
   |own=>exact q
   |cy=>exact q
  ·cases m with
   |c1=>exact q
   |own=>cases z
   |cy=>cases z
def lQ.keep{s:aJ}{v:V}(r:lQ K F H s v)(az:dU K F H aG ae)(cD:∀b∈dP s v,ae b=H b):lQ K aG ae s v:=by
 cases s with
|ag t=>exact Rep.az r az
|own ts=>
  obtain⟨b,us,rfl,ht,z⟩:=r;exact⟨b,us,rfl,by rw[cD b (by simp[dP,hZ])];exact ht,z.az az⟩
|hr ts=>
  obtain⟨b,us,rfl,ht,z⟩:=r;exact⟨b,us,rfl,by rw[cD b (by simp[dP,hZ])];exact ht,ei.az az z⟩
|obj m c aA=>exact r.elim
theorem gh.keep:∀{aA:List aJ} {vs:List V},gh K F H aA vs->dU K F H aG ae->(∀b∈dk aA vs,ae b=H b)->gh K aG ae aA vs
| [],vs,r,_,_=>r
|s::ss,vs,r,az,cD=>by
  obtain⟨v,z,rfl,bj,b_⟩:=r;rw[show dk (s::ss) (v::z)=dP s v++dk ss z from rfl] at cD;exact⟨v,z,rfl,bj.keep az λb h=>cD b (j2.mpr (.inl h)),gh.keep b_ az λb h=>cD b (j2.mpr (.inr h))⟩
theorem d5.keep{s:aJ}{v:V}(r:d5 K E O F H s v)(az:dU K F H aG ae)(cD:∀b∈dz H s v,ae b=H b)(hf:∀b∈dz H s v,aG b->F b)(aF:∀b∈dz H s v,O b->nB b):
  d5 K E nB aG ae s v/\dz ae s v=dz H s v:=by
 cases s with
|ag t=>exact⟨Rep.az r az,rfl⟩
|own ts=>
  obtain⟨a,vs,rfl,n,o,ht,z⟩:=r;have m:a∈dz H (.own ts) (.ref a):=by simp[dz,hZ]
  exact⟨⟨a,vs,rfl,λf=>n (hf a m f),aF a m o,by rw[cD a m];exact ht,z.az az⟩,rfl⟩
|hr ts=>
  obtain⟨a,vs,rfl,n,o,ht,z⟩:=r;have m:a∈dz H (.hr ts) (.ref a):=by simp[dz,hZ]
  exact⟨⟨a,vs,rfl,λf=>n (hf a m f),aF a m o,by rw[cD a m];exact ht,ei.az az z⟩,rfl⟩
|obj m c aA=>
  obtain⟨a,vs,rfl,aB,ax,a8,fX,i6⟩:=r;rw[ku aB] at cD hf aF;have mR:ic ae a c vs:=aB.keep (cD a (by simp));refine⟨⟨a,vs,rfl,mR,ax.keep az λb h=>cD b (dR _ h),a8,λb h=>?_,i6⟩,by rw[ku aB,ku mR]⟩;obtain⟨n,q⟩:=fX b h;refine⟨λf=>n (hf b h f),?_⟩;cases m with
  |c1=>exact q
  |own=>exact aF b h q
  |cy=>exact aF b h q
def d5.wJ{s:aJ}{v:V}(r:d5 K E O F H s v)(x:Ext F H aG ae):d5 K E O aG ae s v/\dz ae s v=dz H s v:=
 r.keep x.az (λb h=>by
  obtain⟨o,e,m⟩:=r.at h;rw[e];exact x.same.get e λps z=>by subst z;exact m.cases (λ_ z=>by cases z) (λ_ z=>by cases z) (λ_ _ _ z=>by cases z)) (λb h f=>by
  rcases x.new b f with z|z
  ·exact z
  ·obtain⟨o,e,_⟩:=r.at h;rw[z] at e;cases e) λ_ _ o=>o
def d5.ext{s:aJ}{v:V}(r:d5 K E O F H s v)(x:Ext F H aG ae):d5 K E O aG ae s v:=(r.wJ x).1
end
structure cx(K:a6)(aC:af->Prop)(E:fR)(O F:af->Prop)(H:aw)(ε:Ev)(σ:a7.St):Prop where
 len:ε.length=σ.length
 val:∀(i:Nat) (s:aJ),ε[i]?=some (some s)->∃v,σ[i]?=some (some v)/\d5 K E O F H s v
 ne:∀(i j:Nat) (s u:aJ) (v w:V),i≠j->ε[i]?=some (some s)->ε[j]?=some (some u)->s.iH=true->u.iH=true->σ[i]?=some (some v)->σ[j]?=some (some w)->∀a∈dz H s v,a∉dz H u w
 ent:Ext aC E.h F H
 o0:∀a,O a->E.h a=none
 fr:∀a,H a=none->O a
section
variable {K:a6}{aC O F aY:af->Prop}{E:fR}{H H1:aw}{ε:Ev}{σ:a7.St}
theorem cx.cp(r:cx K aC E O F H ε σ):fQ F H:=r.ent.cp
theorem cx.ext(r:cx K aC E O F H ε σ)(x:Ext F H aY H1):cx K aC E O aY H1 ε σ:=
 ⟨r.len,λi s e=>by
  obtain⟨v,ai,ao⟩:=r.val i s e;exact⟨v,ai,ao.ext x⟩,λi j s u v w jv aD aL dG eN ai ao=>by
  obtain⟨je,dF,bj⟩:=r.val i s aD;obtain⟨fs,ha,b_⟩:=r.val j u aL;rw[ai] at dF;rw[ao] at ha;cases dF;cases ha;rw[(bj.wJ x).2,(b_.wJ x).2];exact r.ne i j s u v w jv aD aL dG eN ai ao,r.ent.trans x,r.o0,λa e=>r.fr a (x.same.none e)⟩
def ni{α:Type}{l:List (Option α)}{i j:Nat}{x:Option α}{y:α}(h:(l.set i x)[j]?=some (some y)):(i=j/\x=some y/\j<l.length)\/(i≠j/\l[j]?=some (some y)):=by
 rw[vn] at h;by_cases e:i=j
 ·subst e;rw[if_pos rfl] at h;split at h
  next aE=>exact .inl ⟨rfl,fF h,aE⟩
  next=>cases h
 ·rw[if_neg e] at h;exact .inr ⟨e,h⟩
def L4{α:Type}{l:List (Option α)}{i:Nat}{x:Option α}(h:i<l.length):(l.set i x)[i]?=some x:=by
 rw[vn,if_pos rfl,if_pos h]
def CF{α:Type}{l:List (Option α)}{i j:Nat}{x:Option α}(h:i≠j):(l.set i x)[j]?=l[j]?:=by
 rw[vn,if_neg h]
def cx.setG{s:aJ}{v:V}(r:cx K aC E O F H ε σ)(i:Nat)(h:d5 K E O F H s v)(fr:s.iH=true->∀(j:Nat) (u:aJ) (w:V),i≠j->ε[j]?=some (some u)->u.iH=true->σ[j]?=some (some w)->∀a∈dz H s v,a∉dz H u w):
  cx K aC E O F H (ε.set i (some s)) (σ.set i (some v)):=by
 refine⟨by simp[r.len],λj u e=>?_,λj k u w e9 mi o1 aD aL dG eN ai ao=>?_,r.ent,r.o0,r.fr⟩
 ·rcases ni e with ⟨rfl,bP,aE⟩|⟨ne,bP⟩
  ·cases bP
   exact⟨_,L4 (by rw[<- r.len];exact aE),h⟩
  ·obtain⟨w,ai,ao⟩:=r.val j u bP;exact⟨w,by rw[CF ne];exact ai,ao⟩
 ·rcases ni aD with ⟨rfl,bP,aE⟩|⟨ne1,kf⟩
  ·rcases ni aL with ⟨rfl,_,_⟩|⟨ne2,hs⟩
   ·exact absurd rfl o1
   ·rw[L4 (by rw[<- r.len];exact aE)] at ai;rw[CF ne2] at ao;cases ai;cases bP;exact fr dG k w mi ne2 hs eN ao
  ·rw[CF ne1] at ai;rcases ni aL with ⟨rfl,bP,aE⟩|⟨ne2,hs⟩
   ·rw[L4 (by rw[<- r.len];exact aE)] at ao;cases ao;cases bP;intro a aB aa;exact fr eN j u e9 ne1 kf dG ai a aa aB
   ·rw[CF ne2] at ao;exact r.ne j k u w e9 mi o1 kf hs dG eN ai ao
theorem cx.set{t:T}{v:V}(r:cx K aC E O F H ε σ)(i:Nat)(h:Rep K F H t v):cx K aC E O F H (ε.set i (some (.ag t))) (σ.set i (some v)):=r.setG (s:=.ag t) i h λz=>by cases z
def cx.P2{s:aJ}{v:V}(r:cx K aC E O F H ε σ)(i:Nat)(x:Ext F H aY H1)(h:d5 K E O aY H1 s v)(a5:∀a∈dz H1 s v,H a=none):cx K aC E O aY H1 (ε.set i (some s)) (σ.set i (some v)):=
 (r.ext x).setG i h λ_ j u w _ sM _ bI a aB aa=>by
  obtain⟨fs,ai,ao⟩:=r.val j u sM;rw[bI] at ai;cases ai;rw[(ao.wJ x).2] at aa;obtain⟨o,e,_⟩:=ao.at aa;rw[a5 a aB] at e;cases e
def Tt{x:af}{o o':d7}(a5:¬F x)(hx:H x=some o)(hm:amL o):dU K F H F (upd H x o'):=by
 refine⟨λb xs q=>?_,λb xs f q=>⟨f,?_⟩⟩
 ·rcases q with q|q
  ·refine .inl ?_
   have nb:b≠x:=by
    rintro rfl;rcases q with q|⟨_,q⟩ <;> (rw[hx] at q;cases q;exact hm.cases (λ_ z=>by cases z) (λ_ z=>by cases z) (λ_ _ _ z=>by cases z))
   rcases q with q|⟨u,q⟩
   ·exact .inl (by rw[cK nb];exact q)
   ·exact .inr ⟨u,by rw[cK nb];exact q⟩
  ·exact .inr q
 ·have nb:b≠x:=by
   rintro rfl;exact a5 f
  rcases q with q|⟨u,q⟩
  ·exact .inl (by rw[cK nb];exact q)
  ·exact .inr ⟨u,by rw[cK nb];exact q⟩
def S2{x:af}{o o':d7}{h0:aw}(e:Ext aC h0 F H)(Zx:h0 x=none)(a5:¬F x)(hx:H x=some o)(hm:amL o):Ext aC h0 F (upd H x o'):=by
 refine⟨λb u q=>?_,e.sub,e.new,⟨λb f=>?_,e.cp.m6.Ql λu z=>by rw[hx] at z;cases z;exact hm⟩⟩
 ·have nb:b≠x:=by
   rintro rfl;rw[Zx] at q;cases q
  rw[cK nb];exact e.same b u q
 ·have nb:b≠x:=by
   rintro rfl;exact a5 f
  rw[cK nb];exact e.cp b f
def cx.A8{s s':aJ}{v:V}{x:af}{o':d7}(r:cx K aC E O F H ε σ){i:Nat}(e:ε[i]?=some (some s))(aF:s.iH=true)(bo:σ[i]?=some (some v))(hx:x∈dz H s v)
  (h:dU K F H F (upd H x o')->d5 K E O F (upd H x o') s' v)
  (aN:∀b∈dz (upd H x o') s' v,b∈dz H s v\/∀(j:Nat) (u:aJ) (w:V),i≠j->ε[j]?=some (some u)->u.iH=true->σ[j]?=some (some w)->b∉dz H u w):
  dU K F H F (upd H x o')/\cx K aC E O F (upd H x o') (ε.set i (some s')) σ:=by
 obtain⟨je,o4,rs⟩:=r.val i s e;rw[bo] at o4;cases o4;obtain⟨o,eE,hm⟩:=rs.at hx;obtain⟨A_,i2,_⟩:=rs.held hx;have ZK:=i2 aF;have az:dU K F H F (upd H x o'):=Tt A_ eE hm;have h0:=r.o0 x ZK;have keep:∀(j:Nat) (u:aJ) (w:V),i≠j->ε[j]?=some (some u)->σ[j]?=some (some w)->d5 K E O F H u w->d5 K E O F (upd H x o') u w/\dz (upd H x o') u w=dz H u w:=by
  intro j u w jv sM bI c7;refine c7.keep az (λb aa=>cK ?_) (λ_ _ f=>f) λ_ _ o=>o;rintro rfl;cases rx:u.iH with
  |true=>exact r.ne i j s u v w jv e sM aF rx bo bI b hx aa
  |false=>exact (c7.held aa).2.2 rx h0
 refine⟨az,⟨by simp[r.len],λj u bP=>?_,λj k u w e9 mi o1 aD aL dG eN ai ao=>?_,S2 r.ent h0 A_ eE hm,r.o0,λb bP=>r.fr b ?_⟩⟩
 ·rcases ni bP with ⟨rfl,p1,aE⟩|⟨ne,p1⟩
  ·cases p1
   exact⟨_,bo,h az⟩
  ·obtain⟨w,ai,ao⟩:=r.val j u p1;exact⟨w,ai,(keep j u w ne p1 ai ao).1⟩
 ·rcases ni aD with ⟨rfl,bP,aE⟩|⟨ne1,kf⟩
  ·rcases ni aL with ⟨rfl,_,_⟩|⟨ne2,hs⟩
   ·exact absurd rfl o1
   ·cases bP
    rw[bo] at ai;cases ai;obtain⟨fs,ha,b_⟩:=r.val k w hs;rw[ao] at ha;cases ha;rw[(keep k w mi ne2 hs ao b_).2];intro a aB aa;rcases aN a aB with z|z
    ·exact r.ne i k s w v mi ne2 e hs aF eN bo ao a z aa
    ·exact z k w mi ne2 hs eN ao aa
  ·obtain⟨v1,dF,bj⟩:=r.val j u kf;rw[ai] at dF;cases dF;rw[(keep j u e9 ne1 kf ai bj).2];rcases ni aL with ⟨rfl,bP,aE⟩|⟨ne2,hs⟩
   ·cases bP
    rw[bo] at ao;cases ao;intro a aB aa;rcases aN a aa with z|z
    ·exact r.ne i j s u v e9 ne1 e kf aF dG bo ai a z aB
    ·exact z j u e9 ne1 kf dG ai aB
   ·obtain⟨fs,ha,b_⟩:=r.val k w hs;rw[ao] at ha;cases ha;rw[(keep k w mi ne2 hs ao b_).2];exact r.ne j k u w e9 mi o1 kf hs dG eN ai ao
 ·by_cases nb:b=x
  ·subst nb;rw[dM] at bP;cases bP
  ·rwa [cK nb] at bP
def cx.mut{s s':aJ}{a:af}{o o':d7}(r:cx K aC E O F H ε σ){i:Nat}(e:ε[i]?=some (some s))(aF:s.iH=true)(bo:σ[i]?=some (some (.ref a)))(a5:¬F a)(ki:O a)(aB:H a=some o)
  (aK:(∃xs,o=.lst xs)\/∃xs,o=.fo xs) (h:dU K F H F (upd H a o')->d5 K E O F (upd H a o') s' (.ref a)) (f1:∀H:aw,dz H s (.ref a)=[a]:=by intro _;rfl) (f2:∀H:aw,dz H s' (.ref a)=[a]:=by intro _;rfl):
  dU K F H F (upd H a o')/\cx K aC E O F (upd H a o') (ε.set i (some s')) σ:=
 r.A8 e aF bo (by rw[f1];simp) h λb aa=>by
  rw[f2] at aa;rw[f1];exact .inl aa
end
noncomputable def J_(K:a6)(f:bH):TE:=λσ H Q=>∃aC aT O F ε t,cx K aC aT O F H ε σ/\f ε=some t/\∀v aG ae,Ext F H aG ae->gv K O aG ae t v->Q v ae
noncomputable def BC(K:a6)(f:bH):TE:=λσ H Q=>∃aC aT O F ε t,cx K aC aT O F H ε σ/\f ε=some t/\∀v aG ae,Ext F H aG ae->Rep K aG ae t v->Q v ae
noncomputable def tN(K:a6)(f:bH):TE:=λσ H Q=>∃aC aT O F ε ts,cx K aC aT O F H ε σ/\f ε=some (.list ts)/\∀a vs aG ae,Ext F H aG ae->H a=none->¬aG a->ae a=some (.lst vs)->bl K aG ae ts vs->Q (.ref a) ae
noncomputable def J'(K:a6)(f:fS):TT:=λσ H Q=>∃aC aT O F ε b,cx K aC aT O F H ε σ/\f ε=some b/\∀aG ae,Ext F H aG ae->Q b ae
noncomputable def Qd(K:a6)(aA:List bH):gi:=λσ H Q=>∃aC aT O F ε ts,cx K aC aT O F H ε σ/\args aA ε=some ts/\∀vs aG ae,Ext F H aG ae->Paired (gv K O aG ae) ts vs->Q vs ae
noncomputable def afG(K:a6)(aA:List bH):gi:=λσ H Q=>∃aC aT O F ε ts,cx K aC aT O F H ε σ/\args aA ε=some ts/\∀vs aG ae,Ext F H aG ae->bl K aG ae ts vs->Q vs ae
abbrev eT(X:aV)(e:bq)(f:bH):Prop:=bK X e (J_ X.K f)
abbrev cQ(X:aV)(e:bq)(f:bH):Prop:=bK X e (BC X.K f)
abbrev uH(X:aV)(e:bq)(f:bH):Prop:=bK X e (tN X.K f)
abbrev ka(X:aV)(e:bq)(f:fS):Prop:=iE X e (J' X.K f)
abbrev sD(X:aV)(e:bq)(f:fS):Prop:=nC X e (J' X.K f)
abbrev uF(X:aV)(es:List bq)(aA:List bH):Prop:=hp X es (Qd X.K aA)
abbrev lZ(X:aV)(es:List bq)(aA:List bH):Prop:=hp X es (afG X.K aA)
def ee{X:aV}{e:bq}{t t':TE}(h:bK X e t)(k:∀σ H Q,t' σ H Q->t σ H Q):bK X e t':=λah s σ H Q I q=>h ah s σ H Q I (k σ H Q q)
def uv{X:aV}{e:bq}{t t':TT}(h:iE X e t)(k:∀σ H Q,t' σ H Q->t σ H Q):iE X e t':=λah s σ H Q I q=>h ah s σ H Q I (k σ H Q q)
def Uw{X:aV}{e:bq}{t t':TT}(h:nC X e t)(k:∀σ H Q,t' σ H Q->t σ H Q):nC X e t':=λw ah s σ H Q I q=>h w ah s σ H Q I (k σ H Q q)
def yX{X:aV}{e:List bq}{t t':gi}(h:hp X e t)(k:∀σ H Q,t' σ H Q->t σ H Q):hp X e t':=λpos ah s σ H Q I q=>h pos ah s σ H Q I (k σ H Q q)
def hL{X:aV}{e:Stmt}{t t':f3}(h:jr X e t)(k:∀D σ H,t' D σ H->t D σ H):jr X e t':=λah s σ H D I q=>h ah s σ H D I (k D σ H q)
def Dp{X:aV}{e:List Stmt}{t t':f3}(h:fT X e t)(k:∀D σ H,t' D σ H->t D σ H):fT X e t':=λah s σ H D I q=>h ah s σ H D I (k D σ H q)
section
variable {X:aV}{e:bq}{f:bH}
def ay(h:cQ X e f):eT X e f:=ee h λσ H Q ⟨aC,aT,O,F,ε,t,r,e,k⟩=>⟨aC,aT,O,F,ε,t,r,e,λv aG ae x q=>k v aG ae x (.inl q)⟩
def Pt(h:uH X e f)(hf:∀ε t,f ε=some t->∃ts,t=.list ts):cQ X e f:=ee h λσ H Q ⟨aC,aT,O,F,ε,t,r,e,k⟩=>by
 obtain⟨ts,rfl⟩:=hf _ _ e;refine⟨aC,aT,O,F,ε,ts,r,e,λa vs aG ae x a5 jy aB q=>?_⟩;have y:Ext F H (λb=>aG b\/b=a) ae:=⟨x.same,λb z=>.inl (x.sub b z),λb z=>by
  rcases z with z|rfl
  ·exact x.new b z
  ·exact .inr a5,⟨λb z=>by
  rcases z with z|rfl
  ·exact x.cp b z
  ·exact⟨_,aB⟩,x.cp.m6⟩⟩
 refine k (.ref a) _ ae y ?_
 simp only[Rep];exact⟨a,vs,rfl,.inr rfl,.inl aB,q.keep (λ_ _ z=>z) λb _ z w=>⟨.inl z,w⟩⟩
end
end
section
variable [cI]
section
variable {X:aV}{a b c e:bq}{f g h:bH}{pos:Pos}
def v_{t:T}{v:V}(he:bK X e (jA v))(ax:∀F H,Rep X.K F H t v):cQ X e (ak t):=ee he λσ H Q ⟨aC,aT,O,F,ε,t',r,e,k⟩=>by
 cases e
 exact k v F H (Ext.refl r.cp) (ax _ _)
def aU{i j}:cQ X (.Constant (.int i) j pos) (ak (.int i)):=v_ Mw λ_ _=>by simp[Rep]
def tm{i j}:cQ X (.Constant (.bool i) j pos) (ak (.bool i)):=v_ MK λ_ _=>by simp[Rep]
def b3{i j}:cQ X (.Constant (.str i) j pos) (ak (.str i)):=v_ yL λ_ _=>by simp[Rep]
def amK{j}:cQ X (.Constant .none j pos) (ak .none):=v_ ak8 λ_ _=>by simp[Rep]
def a4(i:Nat){x:Str}(dp:X.N[i]?=some x:=by rfl)(bo:l0 X.env.scope x:=by first|exact Or.inl rfl|exact Or.inr (Or.inl rfl)|exact Or.inr (Or.inr rfl))(hd:(x==("__debug__":Str))=false:=by decide)
  (fz:(x==("__classdict__":Str))=false:=by decide):eT X (.Name x pos) (nm i):=ee (aW i dp bo hd fz) λσ H Q ⟨aC,aT,O,F,ε,t,r,e,k⟩=>by
 unfold nm at e;split at e
 next t' he=>
  cases e
  obtain⟨v,ai,ao⟩:=r.val _ _ he;exact⟨v,ai,k v F H (Ext.refl r.cp) (.inl ao)⟩
 next ts he=>
  cases e
  obtain⟨v,ai,a,vs,rfl,n,h0,cD,ax⟩:=r.val _ _ he;exact⟨_,ai,k _ F H (Ext.refl r.cp) (.inr ⟨ts,a,vs,rfl,rfl,cD,ax⟩)⟩
 next=>cases e
def bL(i:Nat){x:Str}(dp:X.N[i]?=some x:=by rfl)(bo:l0 X.env.scope x:=by first|exact Or.inl rfl|exact Or.inr (Or.inl rfl)|exact Or.inr (Or.inr rfl))(hd:(x==("__debug__":Str))=false:=by decide)
  (fz:(x==("__classdict__":Str))=false:=by decide):cQ X (.Name x pos) (aZ i):=ee (aW i dp bo hd fz) λσ H Q ⟨aC,aT,O,F,ε,t,r,e,k⟩=>by
 unfold aZ at e;split at e
 next t' he=>
  cases e
  obtain⟨v,ai,ao⟩:=r.val _ _ he;exact⟨v,ai,k v F H (Ext.refl r.cp) ao⟩
 next=>cases e
noncomputable def mF(K:a6)(o:T->T->Option T)(R:gu):Prop:=
 ∀(O F:af->Prop) (H:aw) (x y t:T) (iR iS:V) (Q:c0),fQ F H->gv K O F H x iR->gv K O F H y iS->o x y=some t ->
  (∀v aG ae,Ext F H aG ae->Rep K aG ae t v->Q v ae)->R iR iS H Q
def qB{o:T->T->Option T}{R:gu}(h:mF X.K o R):∀σ H Q,BC X.K (ar o f g) σ H Q->tA R (J_ X.K f) (J_ X.K g) σ H Q:=by
 rintro σ H Q ⟨aC,aT,O,F,ε,t,r,e,k⟩;simp only[ar,cz] at e;obtain⟨x,ex,y,e4,eE⟩:=e;refine⟨aC,aT,O,F,ε,x,r,ex,λiR aY H1 aO aS=>⟨aC,aT,O,aY,ε,y,r.ext aO,e4,λiS dH ba bZ bk=>?_⟩⟩;exact h O dH ba x y t iR iS Q bZ.cp (aS.ext bZ) bk eE λv aG ae fD de=>k v aG ae ((aO.trans bZ).trans fD) de
def Inv.xj{ah:List (af×Obj)}{σ:a7.St}{H:aw}{s:aH}{l:af}{xs:List V}(I:Inv X ah σ H s)(eF:eU H l (.lst xs)):
  xs.length<=cA/\∃(its:List aj) (n:Nat),Vals xs its/\xs.length=its.length/\s.heap.get? l=some {cls:=.type "list",data:=.seq its.toArray n}:=by
 obtain⟨z,its,n,r,e⟩:=eF.ok I.bJ;exact⟨z,its,n,r,r.length,e⟩
noncomputable def alQ:gu:=λx y H Q=>∃l b xs zs,x=.ref l/\y=.ref b/\eU H l (.lst xs)/\eU H b (.lst zs)/\xs.length+zs.length<=cA/\∀p,H p=none->Q (.ref p) (upd H p (.lst (xs++zs)))
def akf:eS X (mw .Add) alQ:=by
 intro ah s σ H x y v u Q I aS bk h;obtain⟨l,b,xs,zs,rfl,rfl,eF,ZF,aq,q⟩:=h;cases aS;cases bk;obtain⟨z,its,n,r,aE,e⟩:=Inv.xj I eF;obtain⟨gg,hh,gp,b_,Ah,aL⟩:=Inv.xj I ZF;refine PySem.P.add_list e aL ?_ (by rw[d4,d4];omega);have ea:its.toArray++hh.toArray=(its++hh).toArray:=by simp
 rw[ea];exact⟨.ref _,_,I.u_ (t':=s.toks) (r.append b_) (by rw[kr];omega),rfl,q _ I.fresh⟩
noncomputable def akV(K:a6):gu:=λx y H Q=>∃a b ys,x=.ref a/\y=.ref b/\c3 K H a []/\c3 K H b ys/\Q (.ref b) H
def aja:eS X (mw .Add) (akV X.K):=by
 intro ah s σ H x y v u Q I aS bk h;obtain⟨a,b,ys,rfl,rfl,aB,aa,q⟩:=h;cases aS;cases bk;obtain⟨its,bj,jY,_⟩:=I.tuple aB;obtain⟨hh,b_,eY,_⟩:=I.tuple aa;have F8:its=[]:=bj.A'.mpr rfl;subst F8;obtain⟨⟨cls,dd,data,cB⟩,aF,au,n,hd⟩:=id jY;obtain⟨⟨F0,mK,data2,h2⟩,sX,lb,gp,hd2⟩:=id eY;simp only at au hd lb hd2;subst au hd lb hd2;exact concat_meets ⟨_,aF,rfl⟩ ⟨_,sX,rfl⟩ noFill_tuple_add seq_tuple_add PySem.F.slot_tuple_add PySem.F.entry_tuple_add (PySem.F.args_tuple_add_2 _ _)
   (tuple_addW0 a b ([]:List aj).toArray hh.toArray n gp dd mK cB h2 (by simp)) ⟨aF,sX,⟨.ref b,H,I,rfl,q⟩⟩
def lK:cA=big:=by rw[nc];rfl
def jJ(aB:eT X a f)(aa:eT X b g):cQ X (.BinOp a .Add b pos) (ar ek f g):=
 ee (v' (alc.or (ahJ.or (aja.or (ake.or akf)))) aB aa) (qB (by
  intro O F H x y t iR iS Q d aS bk e k;unfold ek at e;split at e
  ·cases e
   rw[aS.int,bk.int];exact .inl ⟨_,_,rfl,rfl,k _ F H (Ext.refl d) (by simp[Rep])⟩
  ·split at e
   next aq=>
    cases e
    rw[aS.str,bk.str];exact .inr (.inl ⟨_,_,rfl,rfl,by rw[lK];exact aq,k _ F H (Ext.refl d) (by simp[Rep])⟩)
   next=>cases e
  ·split at e
   next xs ys aq=>
    cases e
    obtain⟨sE,vs,rfl,av,ax⟩:=aS.tup;obtain⟨Xs,ws,rfl,o2,s6⟩:=bk.tup;cases xs with
    |nil=>
     simp only[bl] at ax;subst ax;refine .inr (.inr (.inl ⟨_,_,_,rfl,rfl,av,o2,k _ F H (Ext.refl d) ?_⟩));simp only[Rep];exact⟨_,_,rfl,o2,by simpa using s6⟩
    |cons x0 BK=>
     refine .inr (.inr (.inr (.inl ⟨_,_,_,_,rfl,rfl,av,o2,?_,?_,λcm=>?_,λcm p aN=>?_⟩)))
     ·intro z;subst z;have:=ax.length;simp at this
     ·rw[lK,<- ax.length,<- s6.length];exact aq
     ·refine k _ F H (Ext.refl d) ?_
      subst cm;have aD:ys=[]:=List.eq_nil_of_length_eq_zero (by rw[s6.length];rfl);subst aD;simp only[Rep];exact⟨_,_,rfl,av,by simpa using ax⟩
     ·have aO:=Ext.laid (o:=.tup (vs++ws)) d aN;refine k _ F _ aO ?_;simp only[Rep];exact⟨p,_,rfl,c3.of dM,(ax.append s6).ext aO⟩
   next=>cases e
  ·split at e
   next xs ys aq=>
    cases e
    obtain⟨sE,vs,rfl,av,ax⟩:=aS.lst;obtain⟨Xs,ws,rfl,o2,s6⟩:=bk.lst;refine .inr (.inr (.inr (.inr ⟨_,_,_,_,rfl,rfl,av,o2,by rw[lK,<- ax.length,<- s6.length];exact aq,λp aN=>?_⟩)));have aO:=Ext.I0 (o:=.lst (vs++ws)) d aN;refine k _ _ _ aO ?_;simp only[Rep];exact⟨p,_,rfl,.inr rfl,.inl dM,(ax.append s6).ext aO⟩
   next=>cases e
  ·cases e))
def yY(aB:eT X a f)(aa:eT X b g):cQ X (.BinOp a .Sub b pos) (ar nZ f g):=
 ee (v' ak' aB aa) (qB (by
  intro O F H x y t iR iS Q d aS bk e k;unfold nZ at e;split at e
  ·cases e
   rw[aS.int,bk.int];exact⟨_,_,rfl,rfl,k _ F H (Ext.refl d) (by simp[Rep])⟩
  ·cases e))
def amV(aB:eT X a f)(aa:eT X b g):cQ X (.BinOp a .Mult b pos) (ar gX f g):=
 ee (v' ala aB aa) (qB (by
  intro O F H x y t iR iS Q d aS bk e k;unfold gX at e;split at e
  ·split at e
   next hm=>
    cases e
    rw[aS.int,bk.int];refine⟨_,_,rfl,rfl,?_,k _ F H (Ext.refl d) (by simp[Rep])⟩;simpa [DN,y9] using hm
   next=>cases e
  ·cases e))
def iC(aB:eT X a f)(aa:eT X b g):cQ X (.BinOp a .FloorDiv b pos) (ar oDiv f g):=
 ee (v' akd aB aa) (qB (by
  intro O F H x y t iR iS Q d aS bk e k;unfold oDiv at e;split at e
  ·split at e
   next hm=>
    cases e
    rw[aS.int,bk.int];exact⟨_,_,rfl,rfl,hm,k _ F H (Ext.refl d) (by simp[Rep])⟩
   next=>cases e
  ·cases e))
def gJ(aB:eT X a f)(aa:eT X b g):cQ X (.BinOp a .Mod b pos) (ar oMod f g):=
 ee (v' alb aB aa) (qB (by
  intro O F H x y t iR iS Q d aS bk e k;unfold oMod at e;split at e
  ·split at e
   next hm=>
    cases e
    rw[aS.int,bk.int];exact⟨_,_,rfl,rfl,hm,k _ F H (Ext.refl d) (by simp[Rep])⟩
   next=>cases e
  ·cases e))
def cu(aB:eT X a f)(aa:eT X b g)(av:TO b:=by intro _ _;rfl):cQ X (.Subscript a b pos) (ar bg f g):=
 ee (alZ alo aB aa av) (qB (by
  intro O F H x y t iR iS Q d aS bk e k;unfold bg at e;split at e
  ·obtain⟨sE,vs,rfl,av,ax⟩:=aS.tup;rw[bk.int];simp only[gL,cz] at e;obtain⟨j,bI,bC⟩:=e;obtain⟨v,bo,bR⟩:=ax.get bC;refine .inr (.inl ⟨_,_,_,v,rfl,rfl,av,?_,k _ F H (Ext.refl d) bR⟩);rw[ax.length] at bI;show (rr _ _).bind _=_;rw[show rr vs.length _=some j from bI];exact bo
  ·obtain⟨sE,vs,rfl,av,ax⟩:=aS.lst;rw[bk.int];simp only[gL,cz] at e;obtain⟨j,bI,bC⟩:=e;obtain⟨v,bo,bR⟩:=ax.get bC;refine .inl ⟨_,_,_,v,rfl,rfl,.inl av,?_,k _ F H (Ext.refl d) bR⟩;rw[ax.length] at bI;show (rr _ _).bind _=_;rw[show rr vs.length _=some j from bI];exact bo
  ·split at e
   next aq=>
    rw[aS.str,bk.int];simp only[dY] at e;obtain⟨c,au,rfl⟩:=e;exact .inr (.inr ⟨_,_,c,rfl,rfl,by rw[lK];exact aq,au,k _ F H (Ext.refl d) (by simp[Rep])⟩)
   next=>cases e
  ·cases e))
end
end
section
variable [cI]
noncomputable def y'(K:a6)(aC:af->Prop)(aT:fR)(O F:af->Prop)(H:aw)(D:Ends):Out->Prop
|.bO ε'=>∀ct aG ae,dU K F H aG ae->cx K aC aT O aG ae ε' ct->D.bO ct ae
|.er t=>∀v aG ae,Ext aC aT.h aG ae->Rep K aG ae t v->D.er v ae
|.iL t ε'=>∀v ct aG ae,cx K aC aT O aG ae ε' ct->Rep K aG ae t v->D.er v ae
|.ly s=>∀a aG ae,Ext aC aT.h aG ae->d5 K aT O aG ae s (.ref a)->D.er (.ref a) ae
|.gx ε'=>∀ct aG ae,dU K F H aG ae->cx K aC aT O aG ae ε' ct->D.gx ct ae
|.cR ε'=>∀ct aG ae,dU K F H aG ae->cx K aC aT O aG ae ε' ct->D.cR ct ae
noncomputable def Qi(K:a6)(g:bF):f3:=λD σ H=>∃aC aT O F ε o,cx K aC aT O F H ε σ/\g ε=some o/\y' K aC aT O F H D o
abbrev gs(X:aV)(s:Stmt)(g:bF):Prop:=jr X s (Qi X.K g)
abbrev hR(X:aV)(s:List Stmt)(g:bF):Prop:=fT X s (Qi X.K g)
def y'.az{K:a6}{aC O F aY:af->Prop}{aT:fR}{H H1:aw}{D:Ends}{o:Out}(h:y' K aC aT O F H D o)(x:dU K F H aY H1):y' K aC aT O aY H1 D o:=by
 cases o with
|bO ε=>exact λct aG ae k r=>h ct aG ae (x.trans k) r
|er t=>exact h
|gx ε=>exact λct aG ae k r=>h ct aG ae (x.trans k) r
|cR ε=>exact λct aG ae k r=>h ct aG ae (x.trans k) r
|iL t ε=>exact h
|ly s=>exact h
section
variable {X:aV}{e a b c:bq}{f:bH}{g g':bF}{hX:fS}{st:Stmt}{rest:List Stmt}{pos:Pos}
def fa:hR X [] skip:=Dp Tp λD σ H ⟨aC,aT,O,F,ε,o,r,e,k⟩=>by
 cases e
 exact k σ F H dU.refl r
def bG(h:gs X st g):hR X [st] g:=ud h
def bD(ai:gs X st g)(ao:hR X rest g'):hR X (st::rest) (seq g g'):=Dp (vI ai ao) λD σ H ⟨aC,aT,O,F,ε,o,r,e,k⟩=>by
 simp only[seq,cz] at e;obtain⟨dG,aD,aL⟩:=e;refine⟨aC,aT,O,F,ε,dG,r,aD,?_⟩;cases dG with
|bO ε'=>exact λct aG ae x cq=>⟨aC,aT,O,aG,ε',o,cq,aL,k.az x⟩
|er t=>
  cases aL
  exact k
|gx ε'=>
  cases aL
  exact k
|cR ε'=>
  cases aL
  exact k
|iL t ε'=>
  cases aL
  exact k
|ly s=>
  cases aL
  exact k
def eA(h:cQ X e f):gs X (.Return (some e) pos) (cP f):=hL (uq h) λD σ H ⟨aC,aT,O,F,ε,o,r,e,k⟩=>by
 simp only[cP,dY] at e;obtain⟨t,bC,rfl⟩:=e;exact⟨aC,aT,O,F,ε,t,r,bC,λv aG ae x q=>k v aG ae (r.ent.trans x) q⟩
def T2(i:Nat){x:Str}{th:Pos}(dp:X.N[i]?=some x:=by rfl)(bo:l0 X.env.scope x:=by first|exact Or.inl rfl|exact Or.inr (Or.inl rfl)|exact Or.inr (Or.inr rfl))(hd:(x==("__debug__":Str))=false:=by decide)
  (fz:(x==("__classdict__":Str))=false:=by decide):gs X (.Return (some (.Name x th)) pos) (cP (nm i)):=hL (uq (aW i dp bo hd fz)) λD σ H ⟨aC,aT,O,F,ε,o,r,e,k⟩=>by
 simp only[cP,dY] at e;obtain⟨t,bC,rfl⟩:=e;unfold nm at bC;split at bC
 next t' he=>
  cases bC
  obtain⟨v,ai,ao⟩:=r.val _ _ he;exact⟨v,ai,k v F H r.ent ao⟩
 next ts he=>
  cases bC
  obtain⟨v,ai,a,vs,rfl,n,h0,aB,q⟩:=r.val _ _ he;have bZ:=r.ent;have y:Ext aC aT.h (λb=>F b\/b=a) H:=⟨bZ.same,λb z=>.inl (bZ.sub b z),λb z=>by
   rcases z with z|rfl
   ·exact bZ.new b z
   ·exact .inr (r.o0 _ h0),⟨λb z=>by
   rcases z with z|rfl
   ·exact bZ.cp b z
   ·exact⟨_,aB⟩,bZ.cp.m6⟩⟩
  refine⟨_,ai,k _ _ H y ?_⟩
  simp only[Rep];exact⟨a,vs,rfl,.inr rfl,.inl aB,q.keep (λ_ _ z=>z) λb _ z w=>⟨.inl z,w⟩⟩
 next=>cases bC
def dQ(au:ka X c hX)(aB:hR X rest g){q2:List Stmt}(aa:hR X q2 g'):gs X (.If c rest q2 pos) (iff hX g g'):=hL (DJ au aB aa) λD σ H ⟨aC,aT,O,F,ε,o,r,e,k⟩=>by
 simp only[iff,cz] at e;obtain⟨b,dV,e⟩:=e;refine⟨aC,aT,O,F,ε,b,r,dV,λaG ae x=>?_⟩;cases b with
|true=>exact rq ⟨aC,aT,O,aG,ε,o,r.ext x,by simpa using e,k.az x.az⟩
|false=>exact u7 ⟨aC,aT,O,aG,ε,o,r.ext x,by simpa using e,k.az x.az⟩
def eu(i:Nat){x:Str}{pos':Pos}(dp:X.N.Nodup)(he:cQ X e f)(aM:X.N[i]?=some x:=by rfl)(hx:Loc X.env.scope x:=by first|exact Or.inl rfl|exact Or.inr rfl)
  (av:amF e (some (.Name x pos')) pos.line X.env=pure false:=by rfl) (hf:X.fn x=true\/X.env.scope.names.lookup x=some .local:=by first|exact .inl rfl|exact .inr rfl):
  gs X (.Assign [.Name x pos'] e pos) (asg i f):=hL (uo dp aM hx he av hf) λD σ H ⟨aC,aT,O,F,ε,o,r,e,k⟩=>by
 simp only[asg,dY] at e;obtain⟨t,bC,rfl⟩:=e;refine⟨aC,aT,O,F,ε,t,r,bC,λv aG ae x q=>?_⟩;exact k _ aG ae x.az ((r.ext x).set i q)
noncomputable def tG(K:a6)(g:iZ):amP:=λv σ H Q=>∃aC aT O F ε t ε',cx K aC aT O F H ε σ/\Rep K F H t v/\g t ε=some ε'/\∀ct,cx K aC aT O F H ε' ct->Q ct H
noncomputable def afL(K:a6)(fM:List iZ):pV:=λvs σ H Q=>∃aC aT O F ε ts ε',cx K aC aT O F H ε σ/\bl K F H ts vs/\gV fM ts ε=some ε'/\∀ct,cx K aC aT O F H ε' ct->Q ct H
abbrev pU(X:aV)(e:bq)(g:iZ):Prop:=sz X e (tG X.K g)
abbrev ze(X:aV)(es:List bq)(fM:List iZ):Prop:=sA X es (afL X.K fM)
def Uy{X:aV}{e:bq}{t t':amP}(h:sz X e t)(k:∀v σ H Q,t' v σ H Q->t v σ H Q):sz X e t':=λah s σ H v u Q I r q=>h ah s σ H v u Q I r (k v σ H Q q)
def TP{X:aV}{e:List bq}{t t':pV}(h:sA X e t)(k:∀v σ H Q,t' v σ H Q->t v σ H Q):sA X e t':=λah s σ H v u Q I r q=>h ah s σ H v u Q I r (k v σ H Q q)
def gO(i:Nat){x:Str}(dp:X.N.Nodup)(aM:X.N[i]?=some x:=by rfl)(hx:Loc X.env.scope x:=by first|exact Or.inl rfl|exact Or.inr rfl)
  (hf:X.fn x=true\/X.env.scope.names.lookup x=some .local:=by first|exact .inl rfl|exact .inr rfl):pU X (.Name x pos) (cw i):=Uy (aj5 dp aM hx hf) λv σ H Q ⟨aC,aT,O,F,ε,t,ε',r,q,e,k⟩=>by
 cases e
 exact k _ (r.set i q)
def y3:ze X [] []:=TP aj4 λvs σ H Q ⟨aC,aT,O,F,ε,ts,ε',r,q,e,k⟩=>by
 cases ts with
|nil=>
  cases e
  simp only[bl] at q;exact⟨q,k σ r⟩
|cons t ts=>cases e
def ov{es:List bq}{g:iZ}{fM:List iZ}(ai:pU X e g)(ao:ze X es fM)(av:(qu (e::es) X.env).map (·.2)=assign e X.env::(qu es X.env).map (·.2):=by rfl):ze X (e::es) (g::fM):=
 TP (ai7 ai ao av) λvs σ H Q ⟨aC,aT,O,F,ε,ts,ε',r,q,e,k⟩=>by
 cases ts with
|nil=>cases e
|cons t ts=>
  simp only[gV,cz] at e;obtain⟨hO,aD,aL⟩:=e;simp only[bl] at q;obtain⟨v,Kj,rfl,aP,a9⟩:=q;exact⟨v,Kj,rfl,aC,aT,O,F,ε,t,hO,r,aP,aD,λMU bj=>⟨aC,aT,O,F,hO,ts,ε',bj,a9,aL,k⟩⟩
theorem S0:∀{fM:List iZ} {ts:List T} {ε ε':Ev},gV fM ts ε=some ε'->ts.length=fM.length
| [],[],_,_,_=>rfl
| [],_::_,_,_,h=>by cases h
|_::_,[],_,_,h=>by cases h
|g::fM,t::ts,ε,ε',h=>by
  simp only[gV,cz] at h;obtain⟨hO,_,h⟩:=h;simp[S0 h]
def y2{es:List bq}{k:Nat}{fM:List iZ}(h:ze X es fM)(au:X.calm=true:=by rfl)(a5:(qu es X.env).length=fM.length:=by rfl)(gW:(qu es X.env).findIdx? (·.1)=none:=by rfl):
  pU X (.Tuple es k pos) (fp fM):=Uy (ak6 au h a5 gW) λv σ H Q ⟨aC,aT,O,F,ε,t,ε',r,q,e,k⟩=>by
 unfold fp at e;split at e
 next ts=>
  simp only[Rep] at q;obtain⟨a,vs,rfl,av,ax⟩:=q;exact⟨a,vs,rfl,av,by rw[<- ax.length];exact S0 e,aC,aT,O,F,ε,ts,ε',r,ax,e,k⟩
 next=>cases e
structure oH(K:a6)(J:k8)(aY:af->Prop)(H1:aw)(ts:List T):Prop where
 go:∀i F H t,dU K aY H1 F H->fQ F H->ts[i]?=some t->J.go i H
 nf:∀i F H t x ae,dU K aY H1 F H->fQ F H->ts[i]?=some t->J.nf i H x ae->∃aG,Ext F H aG ae/\Rep K aG ae t x
 stop:∀i F H,dU K aY H1 F H->ts.length<=i->J.stop i H
noncomputable def tI(K:a6)(f:kz):TI:=λσ H R=>∃aC aT O F ε ts,cx K aC aT O F H ε σ/\f ε=some ts/\∀J aG ae,Ext F H aG ae->oH K J aG ae ts->R J ae
abbrev oI(X:aV)(dA e:bq)(f:kz):Prop:=qQ X dA e (tI X.K f)
def DD{X:aV}{dA e:bq}{t t':TI}(h:qQ X dA e t)(k:∀σ H R,t' σ H R->t σ H R):qQ X dA e t':=λah s σ H R I q=>h ah s σ H R I (k σ H R q)
def ais{K:a6}{a:af}{aY:af->Prop}{H1:aw}{ts:List T}{vs:List V}(bT:aY a)(ax:eU H1 a (.lst vs))(q:bl K aY H1 ts vs):oH K (D7 K a) aY H1 ts where
 go:=λi F H t az d e=>by
  obtain⟨v,ai,_⟩:=q.get e;exact⟨vs,v,.inl (az.lst _ _ bT ax).2,ai⟩
 nf:=λi F H t x ae az d e y=>by
  obtain⟨rfl,y⟩:=y;obtain⟨v,ai,ao⟩:=(q.az az).get e;have:=y vs (.inl (az.lst _ _ bT ax).2);rw[ai] at this;cases this;exact⟨F,Ext.refl d,ao⟩
 stop:=λi F H az aE=>⟨vs,.inl (az.lst _ _ bT ax).2,by rw[<- q.length];exact aE⟩
def ajr{K:a6}{a:af}{aY:af->Prop}{H1:aw}{ts:List T}{vs:List V}(ax:c3 K H1 a vs)(q:bl K aY H1 ts vs):oH K (D8 K a) aY H1 ts where
 go:=λi F H t az d e=>by
  obtain⟨v,ai,_⟩:=q.get e;exact⟨vs,v,az.tup _ _ ax,ai⟩
 nf:=λi F H t x ae az d e y=>by
  obtain⟨rfl,y⟩:=y;obtain⟨v,ai,ao⟩:=(q.az az).get e;have:=y vs (az.tup _ _ ax);rw[ai] at this;cases this;exact⟨F,Ext.refl d,ao⟩
 stop:=λi F H az aE=>⟨vs,az.tup _ _ ax,by rw[<- q.length];exact aE⟩
def L6(lo aM:Int):(i_ lo aM).length=(aM - lo).toNat:=by simp[i_]
def ajs{K:a6}{aY:af->Prop}{H1:aw}(lo aM:Int):oH K (zb lo (aM - lo).toNat) aY H1 (i_ lo aM) where
 go:=λi F H t az d e=>by
  have h:=(gH.mp e).1;rw[L6] at h;exact h
 nf:=λi F H t x ae az d e y=>by
  obtain⟨rfl,rfl⟩:=y;refine⟨F,Ext.refl d,?_⟩;have h:=(gH.mp e).1;rw[L6] at h;unfold i_ at e;rw[lE,List.getElem?_range h] at e;simp at e;subst e;simp[Rep]
 stop:=λi F H az aE=>by
  rw[L6] at aE;exact aE
noncomputable def aaj(K:a6)(kn:TE):TI:=λσ H R=>kn σ H λx H1=>∃a,x=.ref a/\(((∃xs,fH K H1 a xs)/\R (D7 K a) H1)\/((∃xs,c3 K H1 a xs)/\R (D8 K a) H1))
def alX{dA l:bq}{kn:TE}(aE:bK X l kn):qQ X dA l (aaj X.K kn):=by
 intro ah s σ H R I h;refine cJ (aE ah s σ H _ I h) λv s1 ⟨x,H1,a',bj,a,aD,q⟩=>?_;subst aD;cases bj;have b8:∀b∈[s1.heap.objs.size],lY X ah H1 b:=λb aa=>by
  have e:b=s1.heap.objs.size:=by simpa using aa
  subst e;exact a'.z9 (dS _) (a'.bJ.fresh (dS _))
 rcases q with ⟨⟨xs,bb⟩,q⟩|⟨⟨xs,bb⟩,q⟩
 ·obtain⟨its,bR,p,aq⟩:=a'.list bb;refine wpAny_pyIter_list p.isList ?_;exact⟨s1.heap.objs.size,[s1.heap.objs.size],_,_,H1,rfl,a'.kept (t':=s1.toks) λb o e=>cZ _ e,ah3 a _,⟨_,gI _ rfl,rfl,rfl⟩,b8,q⟩
 ·obtain⟨its,bR,p,aq⟩:=a'.tuple bb;refine xU (show s1.heap.IsTuple a its.toArray from p) ?_;exact⟨s1.heap.objs.size,[s1.heap.objs.size],_,_,H1,rfl,a'.kept (t':=s1.toks) λb o e=>cZ _ e,ahy a _,⟨_,gI _ rfl,rfl,rfl⟩,b8,q⟩
def lO{dA l:bq}{f:bH}(aE:cQ X l f):oI X dA l (fO f):=DD (alX aE) λσ H R ⟨aC,aT,O,F,ε,ts,r,e,k⟩=>by
 simp only[fO,cz] at e;obtain⟨t,bC,e⟩:=e;split at e
 ·cases e
  refine⟨aC,aT,O,F,ε,_,r,bC,λv aG ae x q=>?_⟩
  simp only[Rep] at q;obtain⟨a,vs,rfl,av,ax⟩:=q;exact⟨a,rfl,.inr ⟨⟨vs,av⟩,k _ aG ae x (ajr av ax)⟩⟩
 ·cases e
  refine⟨aC,aT,O,F,ε,_,r,bC,λv aG ae x q=>?_⟩
  simp only[Rep] at q;obtain⟨a,vs,rfl,bT,av,ax⟩:=q;exact⟨a,rfl,.inl ⟨⟨vs,.inl av⟩,k _ aG ae x (ais bT av ax)⟩⟩
 ·cases e
def DB{dA a:bq}{f:bH}{p pos:Pos}(hm:X.mg "range"=none)(aB:eT X a f)(bt:ew X "range":=by rfl)(av:bB [a] X.env=[(false,eval a X.env)]:=by rfl)(hg:bB [a] X.env=(false,eval a X.env)::bB [] X.env:=by rfl):
  oI X dA (.Call (.Name "range" p) [a] [] pos) (j7 f):=DD (aid bt hm (fu aB h_ hg) av) λσ H R ⟨aC,aT,O,F,ε,ts,r,e,k⟩=>by
 simp only[j7,cz] at e;obtain⟨t,bC,e⟩:=e;split at e
 next j=>
  split at e
  next aq=>
   cases e
   refine⟨aC,aT,O,F,ε,_,r,bC,λv aG ae x q=>⟨j,by rw[q.int],?_,?_,k _ aG ae x (by simpa using ajs 0 j)⟩⟩
   ·simp[rY] at aq;omega
   ·simp[rY] at aq;omega
  next=>cases e
 next=>cases e
def qF{dA iter:bq}{body:List Stmt}{it:kz}{hy:iZ}{zk:bF}(aN:PassesOwn (bu X.prog X.w) X.A X.env X.di)(aM:oI X dA iter it)(bt:pU X dA hy)(aa:hR X body zk)(au:X.calm=true:=by rfl)
  (av:∀x,am1 iter X.env x=pure x:=by intro _;rfl):gs X (.For dA iter body [] pos) (gU it hy zk):=hL (ak4 aN au aM bt aa av) λD σ H ⟨aC,aT,O,F,ε,o,r,e,k⟩=>by
 simp only[gU,cz] at e;obtain⟨ts,bC,e⟩:=e;refine⟨aC,aT,O,F,ε,ts,r,bC,λJ aY H1 aO ok=>?_⟩;refine⟨λi m ct ae=>m=ts.length - i/\i<=ts.length/\∃aG ε' ,dU X.K aY H1 aG ae/\cx X.K aC aT O aG ae ε' ct/\forL hy zk (ts.drop i) ε'=some o,⟨_,rfl,kT _,aY,ε,dU.refl,r.ext aO,by simpa using e⟩,?_⟩;rintro i m ct ae ⟨rfl,Af,aG,ε',az,cq,bP⟩;by_cases e1:i<ts.length
 ·have hd:ts.drop i=ts[i]::ts.drop (i+1):=List.drop_eq_getElem_cons e1;have ra:ts[i]?=some ts[i]:=hH e1;rw[hd] at bP;simp only[forL,cz] at bP;obtain⟨hO,sL,dG,dV,bP⟩:=bP;refine .inr ⟨ok.go i aG ae _ az cq.cp ra,λwe ba=>∃o9,o9<ts.length - i/\(o9=ts.length - (i+1)/\i+1<=ts.length/\∃dH jn,dU X.K aY H1 dH ba/\cx X.K aC aT O dH ba jn we/\forL hy zk (ts.drop (i+1)) jn=some o),λ_ _ z=>z,λx ba y=>?_⟩;obtain⟨dH,bZ,aS⟩:=ok.nf i aG ae _ x ba az cq.cp ra y;refine⟨aC,aT,O,dH,ε',_,hO,cq.ext bZ,aS,sL,λmD iK=>⟨aC,aT,O,dH,hO,dG,iK,dV,?_⟩⟩;have o6:dU X.K aY H1 dH ba:=az.trans bZ.az;cases dG with
  |bO jn=>exact λMV oG k7 mb mY=>⟨_,by omega,rfl,e1,oG,jn,o6.trans mb,mY,bP⟩
  |cR jn=>exact λMV oG k7 mb mY=>⟨_,by omega,rfl,e1,oG,jn,o6.trans mb,mY,bP⟩
  |gx jn=>
   cases bP
   exact λMV oG k7 mb mY=>k MV oG k7 ((aO.az.trans o6).trans mb) mY
  |er t=>
   cases bP
   exact k
  |iL t jn=>
   cases bP
   exact k
  |ly s=>
   cases bP
   exact k
 ·have hd:ts.drop i=[]:=List.drop_eq_nil_of_le (by omega);rw[hd] at bP;cases bP;exact .inl ⟨ok.stop i aG ae az (by omega),k ct aG ae (aO.az.trans az) cq⟩
end
end
section
variable [cI]
section
variable {X:aV}{a b c e:bq}{es:List bq}{f g h:bH}{aA:List bH}{hX gt:fS}{pos p:Pos}
def iB:uF X [] []:=yX h_ λσ H Q ⟨aC,aT,O,F,ε,ts,r,e,k⟩=>by
 cases e
 exact k [] F H (Ext.refl r.cp) .nil
def h9(aB:eT X e f)(ax:uF X es aA)(av:bB (e::es) X.env=(false,eval e X.env)::bB es X.env:=by rfl):uF X (e::es) (f::aA):=yX (fu aB ax av) λσ H Q ⟨aC,aT,O,F,ε,ts,r,e,k⟩=>by
 simp only[args,cz,dY] at e;obtain⟨t,bC,us,f9,rfl⟩:=e;refine⟨aC,aT,O,F,ε,t,r,bC,λv aY H1 aO aP=>⟨aC,aT,O,aY,ε,us,r.ext aO,f9,λvs dH ba bZ a9=>?_⟩⟩;exact k _ dH ba (aO.trans bZ) (.cons (aP.ext bZ) a9)
def bA:lZ X [] []:=yX h_ λσ H Q ⟨aC,aT,O,F,ε,ts,r,e,k⟩=>by
 cases e
 exact k [] F H (Ext.refl r.cp) bl.nil
def aI(aB:cQ X e f)(ax:lZ X es aA)(av:bB (e::es) X.env=(false,eval e X.env)::bB es X.env:=by rfl):lZ X (e::es) (f::aA):=yX (fu aB ax av) λσ H Q ⟨aC,aT,O,F,ε,ts,r,e,k⟩=>by
 simp only[args,cz,dY] at e;obtain⟨t,bC,us,f9,rfl⟩:=e;refine⟨aC,aT,O,F,ε,t,r,bC,λv aY H1 aO aP=>⟨aC,aT,O,aY,ε,us,r.ext aO,f9,λvs dH ba bZ a9=>?_⟩⟩;exact k _ dH ba (aO.trans bZ) (bl.cons (aP.ext bZ) a9)
def dD{aO}(h:lZ X es aA):cQ X (.Tuple es aO pos) (bV aA):=ee (yK h) λσ H Q ⟨aC,aT,O,F,ε,t,r,e,k⟩=>by
 simp only[bV,cz] at e;obtain⟨ts,bC,e⟩:=e;split at e
 next aq=>
  cases e
  refine⟨aC,aT,O,F,ε,ts,r,bC,λvs aY H1 aO aP=>⟨by rw[lK,<- aP.length];exact aq,λp aN=>?_⟩⟩
  have bZ:=Ext.laid (o:=.tup vs) aO.cp aN;refine k _ aY _ (aO.trans bZ) ?_;simp only[Rep];exact⟨p,vs,rfl,c3.of dM,aP.ext bZ⟩
 next=>cases e
def am7(h:lZ X es aA):uH X (.List es pos) (g7 aA):=ee (T_ h) λσ H Q ⟨aC,aT,O,F,ε,us,r,e,k⟩=>by
 simp only[g7,cz] at e;obtain⟨ts,bC,e⟩:=e;split at e
 next aq=>
  cases e
  refine⟨aC,aT,O,F,ε,_,r,bC,λvs aY H1 aO aP=>⟨by rw[lK,<- aP.length];exact aq,λp aN=>?_⟩⟩
  have bZ:=Ext.laid (o:=.lst vs) aO.cp aN;refine k p vs aY _ (aO.trans bZ) ?_ ?_ dM (aP.ext bZ)
  ·exact aO.same.none aN
  ·intro b8;obtain⟨o,eE⟩:=aO.cp p b8;rw[aN] at eE;cases eE
 next=>cases e
def akW(h:lZ X es aA):cQ X (.List es pos) (g7 aA):=Pt (am7 h) λε t e=>by
 simp only[g7,cz] at e;obtain⟨ts,bC,e⟩:=e;split at e
 ·cases e
  exact⟨_,rfl⟩
 ·cases e
mutual
theorem SP{F:af->Prop}{ah:List (af×Obj)}{σ:a7.St}{H:aw}{s:aH}(I:Inv X ah σ H s):∀{t:T} {v:V} {u:aj},Rep X.K F H t v->RelV v u->∃as,Reads s.heap u t as
|.none,v,u,h,r=>by
  simp only[Rep] at h;subst h;cases r;exact⟨_,.none⟩
|.bool b,v,u,h,r=>by
  simp only[Rep] at h;subst h;cases r;exact⟨_,.bool b⟩
|.int i,v,u,h,r=>by
  simp only[Rep] at h;subst h;obtain⟨t,rfl⟩:=r;exact⟨_,.int i t⟩
|.str x,v,u,h,r=>by
  simp only[Rep] at h;subst h;obtain⟨t,rfl⟩:=r;exact⟨_,.str x t⟩
|.dict _,v,u,h,r=>by simp[Rep] at h
|.tuple ts,v,u,h,r=>by
  simp only[Rep] at h;obtain⟨a,vs,rfl,av,ax⟩:=h;cases r;obtain⟨its,bR,⟨o,ai,ao,n,bE⟩,aq⟩:=I.tuple av;obtain⟨as,kO⟩:=C1 I ax bR;exact⟨_,.tuple ai ao bE (by simpa using kO)⟩
|.list ts,v,u,h,r=>by
  simp only[Rep] at h;obtain⟨a,vs,rfl,bT,av,ax⟩:=h;cases r;obtain⟨z,its,n,bR,aE,e⟩:=Inv.xj I av;obtain⟨as,kO⟩:=C1 I ax bR;exact⟨_,.list e rfl rfl (by simpa using kO)⟩
theorem C1{F:af->Prop}{ah:List (af×Obj)}{σ:a7.St}{H:aw}{s:aH}(I:Inv X ah σ H s):∀{ts:List T} {vs:List V} {us:List aj},bl X.K F H ts vs->Vals vs us->∃as,ReadsAll s.heap us ts as
| [],vs,us,h,r=>by
  simp only[bl] at h;subst h;cases r;exact⟨_,.nil⟩
|t::ts,vs,us,h,r=>by
  simp only[bl] at h;obtain⟨v,Kj,rfl,ai,ao⟩:=h;cases r with
  |cons bj b_=>
   obtain⟨as,aP⟩:=SP I ai bj;obtain⟨bs,a9⟩:=C1 I ao b_;exact⟨_,.cons aP a9⟩
end
def pE{O F:af->Prop}{ah:List (af×Obj)}{σ:a7.St}{H:aw}{s:aH}(I:Inv X ah σ H s){t:T}{v:V}{u:aj}(h:gv X.K O F H t v)(r:RelV v u):∃as,Reads s.heap u t as:=by
 rcases h with h|⟨ts,a,vs,rfl,rfl,aB,h⟩
 ·exact SP I h r
 ·cases r
  obtain⟨z,its,n,bR,aE,e⟩:=Inv.xj I (.inl aB);obtain⟨as,kO⟩:=C1 I h bR;exact⟨_,.list e rfl rfl (by simpa using kO)⟩
def vW{t:T}(h:iJ t=true):t.canLay0=true/\t.depth<=60:=by
 simp only[iJ,iV,decide_eq_true_eq] at h;exact h
def Ud{t:List T}(h:ti t=true):lG t=true/\kq t<=60:=by
 simp only[ti,iV,decide_eq_true_eq] at h;exact h
noncomputable def DI(K:a6)(n:Bool):gu:=λx y H Q=>∃(O F:af->Prop) (s t:T),gv K O F H s x/\gv K O F H t y/\iJ s=true/\iJ t=true/\Q (.b0 (if n then !PyData.eqv s t else n' s t)) H
def yO(cn:X.A.units+64<cLine):eS X (iz .Eq) (DI X.K false):=by
 intro ah s σ H x y v u Q I aS bk ⟨O,F,d,t,ai,ao,dG,eN,q⟩;obtain⟨as,kO⟩:=pE I ai aS;obtain⟨bs,fj⟩:=pE I ao bk;obtain⟨cY,cg⟩:=vW dG;obtain⟨dn,ck⟩:=vW eN;refine SeqAt.compareEq_reads kO fj cY dn (by have:=Nat.min_le_left d.depth t.depth;omega) ?_;exact⟨.b0 _,H,I,rfl,q⟩
def Dx(cn:X.A.units+64<cLine):eS X (iz .NotEq) (DI X.K true):=by
 intro ah s σ H x y v u Q I aS bk ⟨O,F,d,t,ai,ao,dG,eN,q⟩;obtain⟨as,kO⟩:=pE I ai aS;obtain⟨bs,fj⟩:=pE I ao bk;obtain⟨cY,cg⟩:=vW dG;obtain⟨dn,ck⟩:=vW eN;refine SeqAt.compareNe_reads kO fj cY dn (by have:=Nat.min_le_left d.depth t.depth;omega) ?_;exact⟨.b0 _,H,I,rfl,q⟩
def pL{op:CmpOp}{R:gu}{o:T->T->Option T}(aF:eS X (iz op) R)(ao:mF X.K o R)(aB:eT X a f)(aa:eT X b g)(hm:pz op b=false:=by first|exact DA _|rfl):cQ X (.Compare a [op] [b] pos) (ar o f g):=ee (aj9 aF aB aa hm) (qB ao)
def hM{op:CmpOp}{R:gu}{o:T->T->Option T}(aF:eS X (iz op) R)(ao:mF X.K o R)(aB:eT X a f)(aa:eT X b g)(hm:pz op b=false:=by first|exact DA _|rfl):ka X (.Compare a [op] [b] pos) (bS (ar o f g)):=
 uv (L8 aF aB aa hm) λσ H Q ⟨aC,aT,O,F,ε,b,r,e,k⟩=>by
 simp only[bS,cz] at e;obtain⟨t,bC,e⟩:=e;split at e
 ·cases e
  refine qB ao σ H _ ⟨aC,aT,O,F,ε,_,r,bC,λv aG ae x q=>?_⟩
  simp only[Rep] at q;exact⟨_,q,k aG ae x⟩
 ·cases e
def yQ:mF X.K oEq (DI X.K false):=by
  intro O F H x y t iR iS Q d aS bk e k;unfold oEq at e;split at e
  next aq=>
   cases e
   rw[iV] at aq;exact⟨O,F,x,y,aS,bk,aq.1,aq.2,k _ F H (Ext.refl d) (by simp[Rep])⟩
  next=>cases e
def Dy:mF X.K fW (DI X.K true):=by
  intro O F H x y t iR iS Q d aS bk e k;unfold fW at e;split at e
  next aq=>
   cases e
   rw[iV] at aq;exact⟨O,F,x,y,aS,bk,aq.1,aq.2,k _ F H (Ext.refl d) (by simp[Rep])⟩
  next=>cases e
noncomputable def JQ(K:a6)(n:Bool):gu:=λx y H Q=>∃(O F:af->Prop) (s:T) (ts:List T),gv K O F H s x/\(gv K O F H (.tuple ts) y\/gv K O F H (.list ts) y)/\iJ s=true/\ti ts=true/\Q (.b0 (if n then !p8 s ts else p8 s ts)) H
def yN(cn:X.A.units+64<cLine):eS X (iz .In) (JQ X.K false):=by
 intro ah s σ H x y v u Q I aS bk ⟨O,F,d,ts,ai,ao,dG,eN,q⟩;obtain⟨as,kO⟩:=pE I ai aS;obtain⟨cY,cg⟩:=vW dG;obtain⟨dn,ck⟩:=Ud eN;have hm:=Nat.min_le_left (kq ts) d.depth;rcases ao with ao|ao
 ·obtain⟨bs,fj⟩:=pE I ao bk;exact SeqAt.in_tuple_reads fj kO dn cY (by omega) ⟨.b0 _,H,I,rfl,q⟩
 ·obtain⟨bs,fj⟩:=pE I ao bk;exact SeqAt.in_list_reads fj kO dn cY (by omega) ⟨.b0 _,H,I,rfl,q⟩
def yp(cn:X.A.units+64<cLine):eS X (iz .NotIn) (JQ X.K true):=by
 intro ah s σ H x y v u Q I aS bk ⟨O,F,d,ts,ai,ao,dG,eN,q⟩;obtain⟨as,kO⟩:=pE I ai aS;obtain⟨cY,cg⟩:=vW dG;obtain⟨dn,ck⟩:=Ud eN;have hm:=Nat.min_le_left (kq ts) d.depth;rcases ao with ao|ao
 ·obtain⟨bs,fj⟩:=pE I ao bk;exact SeqAt.notIn_tuple_reads fj kO dn cY (by omega) ⟨.b0 _,H,I,rfl,q⟩
 ·obtain⟨bs,fj⟩:=pE I ao bk;exact SeqAt.notIn_list_reads fj kO dn cY (by omega) ⟨.b0 _,H,I,rfl,q⟩
def pH{n:Bool}:mF X.K (gQ n) (JQ X.K n):=by
 intro O F H x y t iR iS Q d aS bk e k;unfold gQ at e;split at e
 ·split at e
  next aq=>
   cases e
   rw[iV] at aq;exact⟨O,F,x,_,aS,.inl bk,aq.1,aq.2,k _ F H (Ext.refl d) (by simp[Rep])⟩
  next=>cases e
 ·split at e
  next aq=>
   cases e
   rw[iV] at aq;exact⟨O,F,x,_,aS,.inr bk,aq.1,aq.2,k _ F H (Ext.refl d) (by simp[Rep])⟩
  next=>cases e
 ·cases e
def yP:mF X.K oLt (λx y H Q=>mZ (λi j=>.b0 (decide (i<j))) x y H Q\/∃i j,x=.str i/\y=.str j/\Q (.b0 (decide (i.cps.toList<j.cps.toList))) H):=by
  intro O F H x y t iR iS Q d aS bk e k;unfold oLt at e;split at e
  ·cases e
   rw[aS.int,bk.int];exact .inl ⟨_,_,rfl,rfl,k _ F H (Ext.refl d) (by simp[Rep])⟩
  ·cases e
   rw[aS.str,bk.str];exact .inr ⟨_,_,rfl,rfl,k _ F H (Ext.refl d) (by simp[Rep,ia])⟩
  ·cases e
def Lq:eS X (iz .LtE) (λx y H Q=>∃i j,x=.str i/\y=.str j/\Q (.b0 (!ia j i)) H):=by
 intro ah s σ H x y v u Q I aS bk ⟨i,j,aD,aL,q⟩;subst aD aL;obtain⟨t,rfl⟩:=aS;obtain⟨t',rfl⟩:=bk;exact PySem.P.le_str (jj I q (by simp[ia]))
def R1:eS X (iz .GtE) (λx y H Q=>∃i j,x=.str i/\y=.str j/\Q (.b0 (!ia i j)) H):=by
 intro ah s σ H x y v u Q I aS bk ⟨i,j,aD,aL,q⟩;subst aD aL;obtain⟨t,rfl⟩:=aS;obtain⟨t',rfl⟩:=bk;exact PySem.P.ge_str (jj I q (by simp[ia]))
def vG:eS X (iz .Gt) (λx y H Q=>∃i j,x=.str i/\y=.str j/\Q (.b0 (ia j i)) H):=by
 intro ah s σ H x y v u Q I aS bk ⟨i,j,aD,aL,q⟩;subst aD aL;obtain⟨t,rfl⟩:=aS;obtain⟨t',rfl⟩:=bk;exact PySem.P.gt_str (jj I q (by simp[ia]))
def Mx:mF X.K oLe (λx y H Q=>mZ (λi j=>.b0 (decide (i<=j))) x y H Q\/∃i j,x=.str i/\y=.str j/\Q (.b0 (!ia j i)) H):=by
 intro O F H x y t iR iS Q d aS bk e k;unfold oLe at e;split at e
 ·cases e
  rw[aS.int,bk.int];exact .inl ⟨_,_,rfl,rfl,k _ F H (Ext.refl d) (by simp[Rep])⟩
 ·cases e
  rw[aS.str,bk.str];exact .inr ⟨_,_,rfl,rfl,k _ F H (Ext.refl d) (by simp[Rep])⟩
 ·cases e
def vU:mF X.K i8 (λx y H Q=>mZ (λi j=>.b0 (decide (j<i))) x y H Q\/∃i j,x=.str i/\y=.str j/\Q (.b0 (ia j i)) H):=by
 intro O F H x y t iR iS Q d aS bk e k;unfold i8 at e;split at e
 ·cases e
  rw[aS.int,bk.int];exact .inl ⟨_,_,rfl,rfl,k _ F H (Ext.refl d) (by simp[Rep])⟩
 ·cases e
  rw[aS.str,bk.str];exact .inr ⟨_,_,rfl,rfl,k _ F H (Ext.refl d) (by simp[Rep])⟩
 ·cases e
def Ub:mF X.K u' (λx y H Q=>mZ (λi j=>.b0 (decide (j<=i))) x y H Q\/∃i j,x=.str i/\y=.str j/\Q (.b0 (!ia i j)) H):=by
 intro O F H x y t iR iS Q d aS bk e k;unfold u' at e;split at e
 ·cases e
  rw[aS.int,bk.int];exact .inl ⟨_,_,rfl,rfl,k _ F H (Ext.refl d) (by simp[Rep])⟩
 ·cases e
  rw[aS.str,bk.str];exact .inr ⟨_,_,rfl,rfl,k _ F H (Ext.refl d) (by simp[Rep])⟩
 ·cases e
def UJ(aB:eT X a f):cQ X (.UnaryOp .USub a pos) (e7 rv f):=ee (UK TX aB) λσ H Q ⟨aC,aT,O,F,ε,t,r,e,k⟩=>by
 simp only[e7,cz] at e;obtain⟨x,ex,e⟩:=e;unfold rv at e;split at e
 ·cases e
  exact⟨aC,aT,O,F,ε,_,r,ex,λv aY H1 aO aS=>⟨_,aS.int,k _ aY H1 aO (by simp[Rep])⟩⟩
 ·cases e
noncomputable def Wk(K:a6)(o:List T->Option T)(R:List V->aw->c0->Prop):Prop:=
 ∀(O F:af->Prop) (H:aw) (ts:List T) (t:T) (vs:List V) (Q:c0),fQ F H->Paired (gv K O F H) ts vs->o ts=some t ->
  (∀v aG ae,Ext F H aG ae->Rep K aG ae t v->Q v ae)->R vs H Q
def L9{o:List T->Option T}{R:List V->aw->c0->Prop}(sR:Wk X.K o R):∀σ H Q,BC X.K (b9 o aA) σ H Q->Bz R (Qd X.K aA) σ H Q:=by
 rintro σ H Q ⟨aC,aT,O,F,ε,t,r,e,k⟩;simp only[b9,cz] at e;obtain⟨ts,bC,eE⟩:=e;exact⟨aC,aT,O,F,ε,ts,r,bC,λvs aY H1 aO q=>sR O aY H1 ts t vs Q aO.cp q eE λv aG ae fD de=>k v aG ae (aO.trans fD) de⟩
def qH(hm:X.mg "len"=none)(aB:uF X (e::es) aA)(bt:ew X "len":=by rfl)(he:bB (e::es) X.env=(false,eval e X.env)::bB es X.env:=by rfl)(hpl:(dZ pos (bB es X.env)).any (·.1)=false:=by rfl):
  cQ X (.Call (.Name "len" p) (e::es) [] pos) (b9 gC aA):=ee (C' (aha.or ag') bt hm PySem.boot_len aB (he:=he) (hpl:=hpl)) (L9 (by
 intro O F H ts t vs Q d q e k;unfold gC at e;split at e
 ·cases e
  cases q with
  |cons aP a9=>
   cases a9
   obtain⟨a,ws,rfl,av,ax⟩:=aP.tup;exact .inl ⟨a,ws,rfl,.inr av,k _ F H (Ext.refl d) (by simp[Rep,ax.length])⟩
 ·cases e
  cases q with
  |cons aP a9=>
   cases a9
   obtain⟨a,ws,rfl,av,ax⟩:=aP.lst;exact .inl ⟨a,ws,rfl,.inl (.inl av),k _ F H (Ext.refl d) (by simp[Rep,ax.length])⟩
 ·split at e
  next aq=>
   cases e
   cases q with
   |cons aP a9=>
    cases a9
    exact .inr ⟨_,by rw[aP.str],by rw[lK];exact aq,k _ F H (Ext.refl d) (by simp[Rep])⟩
  next=>cases e
 ·cases e))
def alU(hm:X.mg "max"=none)(aB:uF X (e::es) aA)(au:X.calm=true:=by rfl)(bt:ew X "max":=by rfl)(he:bB (e::es) X.env=(false,eval e X.env)::bB es X.env:=by rfl)(hpl:(dZ pos (bB es X.env)).any (·.1)=false:=by rfl):
  cQ X (.Call (.Name "max" p) (e::es) [] pos) (b9 xq aA):=ee (C' (aiF au) bt hm (by decide +kernel) aB (he:=he) (hpl:=hpl)) (L9 (by
 intro O F H ts t vs Q d q e k;unfold xq at e;split at e
 ·cases e
  cases q with
  |cons aP a9=>
   cases a9 with
   |cons a9 de=>
    cases de
    exact⟨_,_,by rw[aP.int,a9.int],k _ F H (Ext.refl d) (by simp[Rep])⟩
 ·cases e))
def amN(hm:X.mg "tuple"=none)(aB:uF X (e::es) aA)(bt:ew X "tuple":=by rfl)(he:bB (e::es) X.env=(false,eval e X.env)::bB es X.env:=by rfl)(hpl:(dZ pos (bB es X.env)).any (·.1)=false:=by rfl):
  cQ X (.Call (.Name "tuple" p) (e::es) [] pos) (b9 g6 aA):=ee (Lp agT bt hm (by decide +kernel) aB (he:=he) (hpl:=hpl)) (L9 (by
 intro O F H ts t vs Q d q e k;unfold g6 at e;split at e
 ·cases e
  cases q with
  |cons aP a9=>
   cases a9
   obtain⟨a,ws,rfl,av,ax⟩:=aP.tup;refine⟨a,ws,rfl,.inr ⟨av,k _ F H (Ext.refl d) ?_⟩⟩;simp only[Rep];exact⟨a,ws,rfl,av,ax⟩
 ·cases e
  cases q with
  |cons aP a9=>
   cases a9
   obtain⟨a,ws,rfl,av,ax⟩:=aP.lst;refine⟨a,ws,rfl,.inl ⟨.inl av,λl aE=>?_⟩⟩;have aO:=Ext.laid (o:=.tup ws) d aE;refine k _ F _ aO ?_;simp only[Rep];exact⟨l,ws,rfl,c3.of dM,ax.ext aO⟩
 ·cases e))
def T1(h:eT X e f)(he:∀whole,isTrue e X.env whole=(do let v <- whole;standAt e.pos;holding [v] (truthy v)):=by intro _;rfl):ka X e (bS f):=uv (T7 h he) λσ H Q ⟨aC,aT,O,F,ε,b,r,e,k⟩=>by
 simp only[bS,cz] at e;obtain⟨t,bC,e⟩:=e;split at e
 ·cases e
  exact⟨aC,aT,O,F,ε,_,r,bC,λv aY H1 aO aS=>⟨_,aS.b0,k aY H1 aO⟩⟩
 ·cases e
def UB{j pos'}(aB:eT X a f):ka X (.Compare a [.Is] [.Constant .none j pos'] pos) (bS (e7 jX f)):=uv (T8 (ak_ aB)) λσ H Q ⟨aC,aT,O,F,ε,t,r,e,k⟩=>by
 simp only[bS,e7,jX,cz] at e;obtain⟨_,⟨x,ex,aD⟩,e⟩:=e;cases aD;cases e;refine⟨aC,aT,O,F,ε,x,r,ex,λv aY H1 aO aS=>⟨_,?_,k aY H1 aO⟩⟩;cases x with
|none=>rw[aS.d3];simp
|bool b=>rw[aS.b0];simp
|int b=>rw[aS.int];simp
|str b=>rw[aS.str];simp
|tuple b=>obtain⟨_,_,e,_⟩:=aS.tup;rw[e];simp
|list b=>obtain⟨_,_,e,_⟩:=aS.lst;rw[e];simp
|dict b=>rcases aS with aS|⟨_,_,_,z,_⟩;simp[Rep] at aS;cases z
def akN{j pos'}(aB:eT X a f):ka X (.Compare a [.IsNot] [.Constant .none j pos'] pos) (bS (e7 jK f)):=uv (T8 (aj' aB)) λσ H Q ⟨aC,aT,O,F,ε,t,r,e,k⟩=>by
 simp only[bS,e7,jK,cz] at e;obtain⟨_,⟨x,ex,aD⟩,e⟩:=e;cases aD;cases e;refine⟨aC,aT,O,F,ε,x,r,ex,λv aY H1 aO aS=>⟨_,?_,k aY H1 aO⟩⟩;cases x with
|none=>rw[aS.d3];simp
|bool b=>rw[aS.b0];simp
|int b=>rw[aS.int];simp
|str b=>rw[aS.str];simp
|tuple b=>obtain⟨_,_,e,_⟩:=aS.tup;rw[e];simp
|list b=>obtain⟨_,_,e,_⟩:=aS.lst;rw[e];simp
|dict b=>rcases aS with aS|⟨_,_,_,z,_⟩;simp[Rep] at aS;cases z
def Mm(h:eT X e f)(he:∀whole,isTrue e X.env whole=(do let v <- whole;standAt e.pos;holding [v] (truthy v)):=by intro _;rfl):ka X e (iy f):=uv (ai4 h he) λσ H Q ⟨aC,aT,O,F,ε,b,r,e,k⟩=>by
 simp only[iy,cz] at e;obtain⟨t,bC,e⟩:=e;have emp:∀{ts:List T} {vs:List V} {aY:af->Prop} {H1:aw},bl X.K aY H1 ts vs->ts.isEmpty=vs.isEmpty:=λ{ts vs aY H1} q=>by
  have:=q.length;cases ts <;> cases vs <;> simp_all
 split at e
 ·cases e
  refine⟨aC,aT,O,F,ε,_,r,bC,λv aY H1 aO aS=>?_⟩
  obtain⟨a,vs,rfl,av,ax⟩:=aS.lst;exact⟨_,.inl ⟨vs,.inl av,by rw[emp ax]⟩,k aY H1 aO⟩
 ·cases e
  refine⟨aC,aT,O,F,ε,_,r,bC,λv aY H1 aO aS=>?_⟩
  obtain⟨a,vs,rfl,av,ax⟩:=aS.tup;exact⟨_,.inr (.inl ⟨vs,av,by rw[emp ax]⟩),k aY H1 aO⟩
 ·cases e
def UA(h:ka X e hX):ka X (.UnaryOp .Not e pos) (i7 hX):=uv (ak2 h) λσ H Q ⟨aC,aT,O,F,ε,b,r,e,k⟩=>by
 simp only[i7,dY] at e;obtain⟨c,fe,rfl⟩:=e;exact⟨aC,aT,O,F,ε,c,r,fe,λaY H1 aO=>k aY H1 aO⟩
def Dr(h:ka X e hX):sD X (.BoolOp .And [e] pos) hX:=To h
def r_(h:ka X e hX):sD X (.BoolOp .Or [e] pos) hX:=akZ h
def DE(h:ka X a hX)(ao:sD X (.BoolOp .And (b::es) pos) gt):sD X (.BoolOp .And (a::b::es) pos) (iF hX gt):=Uw (T6 h ao) λσ H Q ⟨aC,aT,O,F,ε,b,r,e,k⟩=>by
 simp only[iF,cz] at e;obtain⟨c,fe,e⟩:=e;refine⟨aC,aT,O,F,ε,c,r,fe,λaY H1 aO=>?_⟩;cases c with
|true=>exact rq ⟨aC,aT,O,aY,ε,b,r.ext aO,by simpa using e,λdH ba bZ=>k dH ba (aO.trans bZ)⟩
|false=>
  have:b=false:=by simpa using e.symm
  subst this;exact u7 (k aY H1 aO)
def w_or(h:ka X a hX)(ao:sD X (.BoolOp .Or (b::es) pos) gt):sD X (.BoolOp .Or (a::b::es) pos) (fA hX gt):=Uw (alW h ao) λσ H Q ⟨aC,aT,O,F,ε,b,r,e,k⟩=>by
 simp only[fA,cz] at e;obtain⟨c,fe,e⟩:=e;refine⟨aC,aT,O,F,ε,c,r,fe,λaY H1 aO=>?_⟩;cases c with
|true=>
  have:b=true:=by simpa using e.symm
  subst this;exact rq (k aY H1 aO)
|false=>exact u7 ⟨aC,aT,O,aY,ε,b,r.ext aO,by simpa using e,λdH ba bZ=>k dH ba (aO.trans bZ)⟩
def m7(h:sD X e hX):ka X e hX:=h.pt
end
end
section
variable [cI]
noncomputable def spT(K:a6)(n:Nat)(d:List T->Option T):kc:=λvs H Q _=>vs.length=n/\∃F ts t,fQ F H/\bl K F H ts vs/\d ts=some t/\∀v aG ae,Ext F H aG ae->Rep K aG ae t v->Q v ae
section
variable {X:aV}{k n:Nat}{bT:af}{fd:et}{ps:List Str}{d:List T->Option T}{x:Str}{p pos:Pos}{e:bq}{es:List bq}{aA:List bH}
def akY(F:eR X.prog X.w X.K X.mg X.base dt k bT fd ps (spT X.K n d))(ax:c2 k X.A)(bt:ew X x)(hm:X.mg x=some (.ref bT))(aK:m9 X.K (.ref bT)=true)(aa:fG X.K fd ps [])
  (aB:lZ X (e::es) aA) (a5:aA.length=n:=by rfl) (gn:(x==("__debug__":Str))=false:=by decide) (he:bB (e::es) X.env=(false,eval e X.env)::bB es X.env:=by rfl) (hpl:(dZ pos (bB es X.env)).any (·.1)=false:=by rfl):
  cQ X (.Call (.Name x p) (e::es) [] pos) (b9 d aA):=ee (yB F ax bt hm aK aa .nil ow aB gn he hpl) λσ H Q ⟨aC,aT,O,F,ε,t,r,e,k⟩=>by
 simp only[b9,cz] at e;obtain⟨ts,bC,ff⟩:=e;have aE:∀(fM:List bH) (us:List T),args fM ε=some us->us.length=fM.length:=by
  intro fM
  induction fM with
  |nil=>intro us e;cases e;rfl
  |cons g fM b1=>
   intro us e;simp only[args,cz,dY] at e;obtain⟨t,_,vs,ev,rfl⟩:=e;simp[b1 vs ev]
 refine⟨aC,aT,O,F,ε,ts,r,bC,λvs aY H1 aO q=>⟨?_,aY,ts,t,aO.cp,by simpa using q,ff,λv aG ae bZ a9=>k v aG ae (aO.trans bZ) a9⟩⟩
 rw[amE,<- q.length,aE aA ts bC,a5]
end
section
variable {P:cC}{w:b6}{K:a6}{mg:Str->Option aj}{base:bz}
def Ld{F:af->Prop}{H:aw}{ts:List T}{vs:List V}{N:List Str}(cp:fQ F H)(q:bl K F H ts vs)(n:Nat):
  cx K F ⟨H,0⟩ (λa=>H a=none) F H ((ts.map λt=>some (.ag t))++ed n none) (vs.map some++ed n none):=by
 have ag:∀(i:Nat) (s:aJ),((ts.map λt=>some (aJ.ag t))++ed n none)[i]?=some (some s)->∃t,s=.ag t/\ts[i]?=some t:=by
  intro i s e;by_cases aM:i<ts.length
  ·rw[vj (by simpa using aM),lE] at e;rw[hH aM] at e ⊢;simp at e;exact⟨_,e.symm,rfl⟩
  ·rw[vi (by simpa using aM),List.getElem?_replicate] at e;split at e <;> cases e
 refine⟨by simp[q.length],λi s e=>?_,λi j s u v w jv aD aL dG=>?_,Ext.refl cp,λ_ h=>h,λ_ h=>h⟩
 ·obtain⟨t,rfl,bh⟩:=ag i s e;obtain⟨v,bo,bR⟩:=q.get bh;refine⟨v,?_,bR⟩;rw[vj (by have:=(gH.mp bo).1;simpa using this),lE,bo];rfl
 ·obtain⟨t,rfl,_⟩:=ag i s aD;cases dG
def Uq{x qual:Str}{st:Stmt}{f:af}{fd:et}{N ps:List Str}{k:Nat}{b:bF}(F:cG K x qual st f fd)(S:cO N ps (bx st))
  (aa:∀(bN:aj) (A:cH) (outer:List Env) (s:aH) (H:aw) (E:e0),c2 k (A.deeper (envOfC qual (bx st) s.heap.objs.size f bN)) ->
   hR (e3 dt P w K mg base N qual (bx st) f bN A outer s H E).ey (fv st) b):
  eR P w K mg base dt (k+1) f fd ps (spT K ps.length (eJ b N.length)):=by
 refine F.ok S (λvs H Q E h=>h.1) λbN A outer s H vs Q E ax h=>⟨_,aa bN A outer s H E ax,?_⟩
 obtain⟨aE,F,ts,t,cp,q,e,i5⟩:=h;simp only[eJ,cz] at e;obtain⟨o,eE,e⟩:=e;refine⟨F,⟨H,0⟩,λa=>H a=none,F,_,o,?_,eE,?_⟩
 ·have:=Ld (N:=N) cp q (N.length - ts.length);unfold a7.start;rw[q.length] at this ⊢;exact this
 ·cases o with
  |er t'=>
   cases e
   exact λv aG ae x q=>i5 v aG ae x q
  |bO ε'=>
   cases e
   exact λct aG ae _ r=>i5 _ aG ae r.ent (by simp[Rep])
  |gx _=>cases e
  |cR _=>cases e
  |iL _ _=>cases e
  |ly _=>cases e
end
end
section
variable [cI]
noncomputable def f5(env:Env):List (Str×mx)->List (Str×af)->List (Str×af)
| [],cs=>cs
|x::r,cs=>if x.2==.free then f5 env r ((x.1,(env.cells.lookup x.1).getD 0)::cs) else f5 env r cs
def Ck{scope:Scope}{env:Env}(h:∀x∈scope.names,x.2=.free->∃c,env.cells.lookup x.1=some c):closureFor scope env=pure (f5 env scope.names []):=by
 have go:∀(l:List (Str×mx)) (cs:List (Str×af)),(∀x∈l,x.2=.free->∃c,env.cells.lookup x.1=some c) ->
   (forIn l cs (λx r=>(if (x.2==NameKind.free)=true then do let a <- cellOf env x.1;pure (ForInStep.yield ((x.1,a)::r)) else pure (ForInStep.yield r)):_->_->Sem (ForInStep (List (Str×af)))):Sem (List (Str×af)))=pure (f5 env l cs):=by
  intro l
  induction l with
  |nil=>intro cs _;rfl
  |cons x r b1=>
   intro cs aE;rw[List.forIn_cons];have ax:=λy a_=>aE y (dR _ a_);by_cases k:x.2=.free
   ·obtain⟨c,au⟩:=aE x gb k;have aD:(x.2==NameKind.free)=true:=by simp[k]
    simp only[aD,if_true,cellOf,au,f5,Option.getD_some];exact b1 _ ax
   ·have aD:(x.2==NameKind.free)=false:=by simpa using k
    simp only[aD,pn,if_false,f5];exact b1 _ ax
 have:=go scope.names [] h;simp only[closureFor];exact congrArg (λm=>m >>= λcs=>pure cs) this
theorem vH{env:Env}:∀{l:List (Str×mx)} {cs:List (Str×af)},(∀x∈l,x.2=.free->∃c,env.cells.lookup x.1=some c)->(∀x c,cs.lookup x=some c->env.cells.lookup x=some c)->∀x c,(f5 env l cs).lookup x=some c->env.cells.lookup x=some c
| [],cs,_,h,x,c,e=>h x c e
|y::r,cs,aE,h,x,c,e=>by
  unfold f5 at e;have ax:=λz aq=>aE z (dR _ aq);split at e
  next k=>
   refine vH ax (λx c e=>?_) x c e
   rw[kS] at e;split at e
   next aa=>
    obtain⟨bW,au⟩:=aE y gb (by simpa using k);have:x=y.1:=by simpa using aa
    subst this;rw[au] at e ⊢;simpa using e
   next=>exact h x c e
  next=>exact vH ax h x c e
theorem ua{env:Env}:∀{l:List (Str×mx)} {cs:List (Str×af)} {x:Str},((∃y∈l,y.2=.free/\y.1=x)\/∃c,cs.lookup x=some c)->∃c,(f5 env l cs).lookup x=some c
| [],cs,x,h=>by
  rcases h with ⟨y,a_,_⟩|h
  ·cases a_
  ·exact h
|y::r,cs,x,h=>by
  unfold f5;split
  next k=>
   refine ua ?_
   rcases h with ⟨z,aq,iI,e⟩|⟨c,h⟩
   ·rcases cM.mp aq with rfl|aq
    ·refine .inr ?_
     subst e;rw[kS];simp
    ·exact .inl ⟨z,aq,iI,e⟩
   ·refine .inr ?_
    rw[kS];split
    ·exact⟨_,rfl⟩
    ·exact⟨c,h⟩
  next k=>
   refine ua ?_
   rcases h with ⟨z,aq,iI,e⟩|h
   ·rcases cM.mp aq with rfl|aq
    ·exact absurd (by simpa using iI) k
    ·exact .inl ⟨z,aq,iI,e⟩
   ·exact .inr h
noncomputable def hl(X:aV)(wq:List Str)(scope:Scope)(cl:List (Str×af))(C:af)(c_:aH)(aT:aw)(b8:List af)(c8:List (af×Obj)):aV where
 prog:=X.prog
 w:=X.w
 K:=X.K
 mg:=X.mg
 base:=X.base
 A:=X.A
 N:=wq
 c_:=c_
 aT:=aT
 env:=compEnvC scope cl C X.env
 outer:=X.stack
 stack:=X.stack
 ex:=b8
 fn:=λ_=>false
 calm:=X.calm
 c8:=c8
 di:=λ_ _=>False
noncomputable def sC(X:aV)(ifs:List bq)(cc:fS):Prop:=∀(ah:List (af×Obj)) (s:aH) (σ:a7.St) (H:aw) (Q:Bool->aw->Prop),a7.Inv X ah σ H s->J' X.K cc σ H Q ->
 bc (bu X.prog X.w) X.A (forIn ifs true λc r=>if r=true then do let ok <- isTrue c X.env (eval c X.env);pure (ForInStep.yield ok) else pure (ForInStep.yield r)) (zg X ah σ Q) X.di s
def uk{X:aV}:sC X [] (f6 true):=λah s σ H Q I ⟨aC,aT,O,F,ε,b,r,e,k⟩=>by
 cases e
 exact wpAny_tests_nil ⟨H,I,k F H (Ext.refl r.cp)⟩
def yJ{X:aV}{c:bq}{cc:fS}(h:ka X c cc):sC X [c] cc:=λah s σ H Q I q=>wpAny_tests_one (h ah s σ H Q I q)
section
variable {prog:cC}{w:b6}{A:cH}{R:Result->aH->Prop}{s:aH}
def Q2{elt target iter:bq}{ifs:List bq}{scope:Scope}{pos:Pos}{it acc:aj}{env:Env}(I:Nat->aH->Prop)
  (turn:∀n s,I n s->bc (bu prog w) A (pyNext it) (λr c'=>match r with
   |none=>R (.ok .next) c'
   |some v=>bc (bu prog w) A (letOwnedTupleGo target it v) (λ_ Qa=>bc (bu prog w) A (assign target env v) (λ_ jz=>
     bc (bu prog w) A (forIn ifs true λc r=>if r=true then do let ok <- isTrue c env (eval c env);pure (ForInStep.yield ok) else pure (ForInStep.yield r)) (λok pj=>
      if ok=true then bc (bu prog w) A (eval elt env) (λx Qb=>
       bc (bu prog w) A (call (.builtin "list.append") [acc,x]) (λ_ Qc=>∃m,m<n/\I m Qc) (λ_ _=>False) Qb) (λ_ _=>False) pj
      else ∃m,m<n/\I m pj) (λ_ _=>False) jz) (λ_ _=>False) Qa) (λ_ _=>False) c') (λ_ _=>False) s)
  (n:Nat) (h:I n s):h7 (bu prog w) A (.compLoop (.ListComp elt [⟨target,iter,ifs,0⟩] scope pos) 0 it acc env) R s:=by
 refine codeAny_loop rfl I (λn s q9=>?_) n h
 show bc _ A ((compTurn (.ListComp elt [⟨target,iter,ifs,0⟩] scope pos) 0 it acc env).onRaise (λx=>do noteFrame x env;theTreesLotGoes x)) _ _ s
 refine wpAny_noted ?_
 rw[compTurn_list];refine aR (wpAny_standAt (aR (eK (turn n s q9) (λr c' eG=>?_) λ_ _ h'=>h'.elim)));cases r with
|none=>exact cf eG
|some v=>
  refine aR (eK eG (λ_ Qa aac=>?_) λ_ _ h'=>h'.elim)
  refine aR (eK aac (λ_ jz jV=>aR (eK jV (λok pj iw=>?_) λ_ _ h'=>h'.elim)) λ_ _ h'=>h'.elim)
  cases ok with
  |false=>exact cf ⟨rfl,iw⟩
  |true=>
   exact aR (aR (eK iw (λx Qb u6=>aR (eK u6 (λ_ Qc hz=>cf (cf ⟨rfl,hz⟩)) λ_ _ h'=>h'.elim)) λ_ _ h'=>h'.elim))
end
end
section
variable [cI]
theorem x_{env:Env}{k:mx}:∀{names:List (Str×mx)} {x:Str},names.lookup x=some k->∃iI,(names.map λ(n,k)=>if (k==NameKind.free && env.scope.kind==.function && env.kindOf n==some .cell) then (n,NameKind.cell) else (n,k)).lookup x=some iI/\(iI=k\/(k=.free/\iI=.cell))
  | [],x,h=>by simp at h
  | (n,j)::r,x,h=>by
    have b1:=@x_ env k r x;show ∃iI,jC x ((if (j==NameKind.free && env.scope.kind==.function && env.kindOf n==some .cell)=true then (n,NameKind.cell) else (n,j))::_)=some iI/\_;cases hx:x==n with
    |true=>
      simp only[kS,hx] at h;cases h;by_cases au:(k==NameKind.free && env.scope.kind==.function && env.kindOf n==some .cell)=true
      · rw[if_pos au]
        refine⟨.cell,by simp[kS,hx],.inr ⟨?_,rfl⟩⟩
        simp only[iV] at au;simpa using au.1.1
      · rw[if_neg au]
        exact⟨k,by simp[kS,hx],.inl rfl⟩
    |false=>
      simp only[kS,hx] at h;obtain⟨iI,ai,ao⟩:=b1 h;refine⟨iI,?_,ao⟩;by_cases au:(j==NameKind.free && env.scope.kind==.function && env.kindOf n==some .cell)=true
      · rw[if_pos au];simp only[kS,hx];exact ai
      · rw[if_neg au];simp only[kS,hx];exact ai
def rT{names:List (Str×mx)}{x:Str}{k:mx}(h:names.lookup x=some k):∃y∈names,y.2=k/\y.1=x:=by
 induction names with
|nil=>simp at h
|cons y r b1=>
  rw[kS] at h;split at h
  next aa=>
   cases h
   exact⟨y,gb,rfl,by simpa using (beq_iff_eq.mp aa).symm⟩
  next=>
   obtain⟨z,aq,ai,ao⟩:=b1 h;exact⟨z,dR _ aq,ai,ao⟩
def ag3{scope:Scope}{env:Env}(q_:∀y∈scope.names,y.2≠.cell){x:Str}(h:(relabel scope env).names.lookup x=some .cell\/(relabel scope env).names.lookup x=some .free):∃y∈scope.names,y.2=.free/\y.1=x:=by
 have go:∀{k:mx},(relabel scope env).names.lookup x=some k->(k=.cell\/k=.free)->∃y∈scope.names,y.2=.free/\y.1=x:=λ{k} e aK=>by
  obtain⟨y,a_,ai,ao⟩:=rT e;obtain⟨⟨n,j⟩,aq,aL⟩:=en.mp (show y∈scope.names.map _ from a_);by_cases au:(j==NameKind.free && env.scope.kind==.function && env.kindOf n==some .cell)=true
  ·have eM:(n,NameKind.cell)=y:=by
    have ip:(if (j==NameKind.free && env.scope.kind==.function && env.kindOf n==some .cell)=true then (n,NameKind.cell) else (n,j))=y:=aL
    rwa [if_pos au] at ip
   subst eM;simp only[iV] at au;exact⟨(n,j),aq,by simpa using au.1.1,ao⟩
  ·have eM:(n,j)=y:=by
    have ip:(if (j==NameKind.free && env.scope.kind==.function && env.kindOf n==some .cell)=true then (n,NameKind.cell) else (n,j))=y:=aL
    rwa [if_neg au] at ip
   subst eM;rcases aK with rfl|rfl
   ·exact absurd ai (q_ _ aq)
   ·exact⟨(n,j),aq,ai,ao⟩
 rcases h with h|h
 ·exact go h (.inl rfl)
 ·exact go h (.inr rfl)
def cx.other{K:a6}{aC O F:af->Prop}{E:fR}{H:aw}{ε:Ev}{σ:a7.St}{a:af}{xs ys:List V}(r:cx K aC E O F H ε σ)(a5:¬F a)(aF:¬O a)(h0:E.h a=none)(aB:H a=some (.lst xs)):
  dU K F H F (upd H a (.lst ys))/\cx K aC E O F (upd H a (.lst ys)) ε σ:=by
 have hm:amL (.lst xs):=.inl ⟨_,rfl⟩;have az:dU K F H F (upd H a (.lst ys)):=Tt a5 aB hm;have keep:∀(u:aJ) (w:V),d5 K E O F H u w->d5 K E O F (upd H a (.lst ys)) u w/\dz (upd H a (.lst ys)) u w=dz H u w:=by
  intro u w c7;refine c7.keep az (λb aa=>cK ?_) (λ_ _ f=>f) λ_ _ o=>o;rintro rfl;cases rx:u.iH with
  |true=>exact aF ((c7.held aa).2.1 rx)
  |false=>exact (c7.held aa).2.2 rx h0
 refine⟨az,⟨r.len,λj u e=>?_,λi j s u v w jv aD aL dG eN ai ao=>?_,S2 r.ent h0 a5 aB hm,r.o0,λb e=>r.fr b ?_⟩⟩
 ·obtain⟨v,ai,ao⟩:=r.val j u e;exact⟨v,ai,(keep u v ao).1⟩
 ·obtain⟨je,dF,bj⟩:=r.val i s aD;obtain⟨fs,ha,b_⟩:=r.val j u aL;rw[ai] at dF;rw[ao] at ha;cases dF;cases ha;rw[(keep s v bj).2,(keep u w b_).2];exact r.ne i j s u v w jv aD aL dG eN ai ao
 ·by_cases nb:b=a
  ·subst nb;rw[dM] at e;cases e
  ·rwa [cK nb] at e
noncomputable def DS(n:Nat)(caps:List Nat)(σ:a7.St):a7.St:=ed n none++caps.map λi=>(σ[i]?).join
def join_some{α:Type}{o:Option (Option α)}{x:α}(h:o.join=some x):o=some (some x):=by
 cases o with
|none=>cases h
|some o=>exact congrArg some h
def vQ{α:Type}{n:Nat}{caps:List Nat}{l:List (Option α)}{i:Nat}{x:α}(h:(ed n none++caps.map λi=>(l[i]?).join)[i]?=some (some x)):∃j,n<=i/\caps[i - n]?=some j/\l[j]?=some (some x):=by
 by_cases aM:i<n
 ·rw[vj (by simpa using aM),List.getElem?_replicate] at h;rw[if_pos aM] at h;cases h
 ·rw[vi (by simpa using aM),List.length_replicate,lE] at h;cases e:caps[i - n]? with
  |none=>
   rw[e] at h;cases h
  |some j=>
   rw[e] at h;exact⟨j,by omega,rfl,join_some (fF h)⟩
def akt{α:Type}{n:Nat}{caps:List Nat}{l:List (Option α)}{i j:Nat}{x:α}(aM:n<=i)(au:caps[i - n]?=some j)(h:l[j]?=some (some x)):(ed n none++caps.map λi=>(l[i]?).join)[i]?=some (some x):=by
 rw[vi (by simpa using aM),List.length_replicate,lE,au];simp[h]
def cx.wD{K:a6}{aC O F:af->Prop}{E:fR}{H:aw}{ε:Ev}{σ:a7.St}{D:af}(r:cx K aC E O F H ε σ)(n:Nat){caps:List Nat}(a8:caps.Nodup)(kL:H D=none):
  cx K aC E (λa=>O a/\a≠D) F (upd H D (.lst [])) (j8 n caps ε) (DS n caps σ):=by
 have x:=Ext.laid (o:=.lst []) r.cp kL;have keep:∀(u:aJ) (w:V),d5 K E O F H u w->d5 K E (λa=>O a/\a≠D) F (upd H D (.lst [])) u w/\dz (upd H D (.lst [])) u w=dz H u w:=by
  intro u w c7;have nb:∀b∈dz H u w,b≠D:=λb aa z=>by
   obtain⟨o,e,_⟩:=c7.at aa;rw[z,kL] at e;cases e
  exact c7.keep x.az (λb aa=>cK (nb b aa)) (λ_ _ f=>f) λb aa o=>⟨o,nb b aa⟩
 refine⟨by simp[j8,DS],λi s e=>?_,λi j s u v w jv aD aL dG eN ai ao=>?_,r.ent.trans x,λa h=>r.o0 a h.1,λa h=>?_⟩
 ·obtain⟨j,a5,au,bP⟩:=vQ e;obtain⟨v,ai,ao⟩:=r.val j s bP;exact⟨v,akt a5 au ai,(keep s v ao).1⟩
 ·obtain⟨Hd,aM,ci,kf⟩:=vQ aD;obtain⟨rt,bI,Oj,hs⟩:=vQ aL;obtain⟨b4,_,Oi,dF⟩:=vQ (l:=σ) ai;obtain⟨Pj,_,Ol,ha⟩:=vQ (l:=σ) ao;rw[ci] at Oi;rw[Oj] at Ol;cases Oi;cases Ol;obtain⟨je,aP,bj⟩:=r.val Hd s kf;obtain⟨fs,a9,b_⟩:=r.val rt u hs;rw[dF] at aP;rw[ha] at a9;cases aP;cases a9;rw[(keep s v bj).2,(keep u w b_).2];refine r.ne Hd rt s u v w (λz=>?_) kf hs dG eN dF ha;subst z;obtain⟨cg,eX⟩:=gH.mp ci;obtain⟨ck,o_⟩:=gH.mp Oj;have ne:i - n≠j - n:=by omega
  rcases Nat.lt_or_gt_of_ne ne with q|q
  ·exact (List.pairwise_iff_getElem.mp a8 _ _ cg ck q) (eX.trans o_.symm)
  ·exact (List.pairwise_iff_getElem.mp a8 _ _ ck cg q) (o_.trans eX.symm)
 ·have a8:a≠D:=by
   rintro rfl;rw[dM] at h;cases h
  rw[cK a8] at h;exact⟨r.fr a h,a8⟩
end
section
variable [cI]
structure qL(X:aV)(scope:Scope)(own:List Str)(caps:List (Nat×Str)):Prop where
 kind:scope.kind=.function
 names:∀y∈scope.names,y.2=.local->scope.names.lookup y.1=some .local
 cell:∀y∈scope.names,y.2≠.cell
 free:∀y∈scope.names,y.2=.free->X.env.kindOf y.1=some .cell\/X.env.kindOf y.1=some .free
 wD:∀p∈caps,X.N[p.1]?=some p.2/\scope.names.lookup p.2=some .free
 a8:(caps.map (·.1)).Nodup
 calm:X.calm=true
section
variable {X:aV}{dA iter elt:bq}{ifs:List bq}{scope:Scope}{it:kz}{hy:iZ}{cc:fS}{gm:bH}{pos:Pos}{own:List Str}{caps:List (Nat×Str)}
def Dm{ah:List (af×Obj)}{σ:a7.St}{ba:aw}{s2:aH}{b8:List af}(S:qL X scope own caps)(b5:a7.Inv X ah σ ba s2)(f2:∀b∈b8,lY X ah ba b)(hc:∀b∈b8,b<s2.heap.objs.size)(wq:List Str):
  (hl X wq scope (f5 X.env scope.names []) (s2.heap.push {cls:=.type "list",data:=.seq ([]:List aj).toArray}).objs.size {s2 with heap:=s2.heap.push {cls:=.type "list",data:=.seq ([]:List aj).toArray} } (upd ba s2.heap.objs.size (.lst [])) b8 (X.c8++ah)).Ok:=by
 have lg:∀x∈scope.names,x.2=.free->∃c,X.env.cells.lookup x.1=some c:=λx hx aK=>b5.ok.has x.1 (S.free x hx aK);have nH:∀x c,(f5 X.env scope.names []).lookup x=some c->X.env.cells.lookup x=some c:=vH lg (λx c e=>by simp at e);have dI:=b5.u_ (its:=[]) (ys:=[]) (t':=s2.toks) .nil (kT _);have iO:(s2.heap.push {cls:=.type "list",data:=.seq ([]:List aj).toArray}).objs.size=s2.heap.objs.size+1:=kp ..;refine⟨b5.ok.mod,S.kind,b5.ok.glob,b5.ok.blt,dS _,λx y c aD aL=>b5.ok.inj x y c (nH x c aD) (nH y c aL),λx hx=>?_,λx c h=>(by cases h),b5.ok.hd,b5.ok.frames,.inl rfl,λb aa=>⟨?_,λx c e=>(f2 b aa).2.2.2.2.1 x c (nH x c e)⟩,λb o e=>?_,?_,λb o e aa=>?_,λb aa hf=>?_,dI.stack,dI.J6⟩
 ·exact ua (.inl (ag3 S.cell hx))
 ·show b≠(s2.heap.push {cls:=.type "list",data:=.seq ([]:List aj).toArray}).objs.size
  have h:=hc b aa;rw[iO];exact ez (Nat.lt_succ_of_lt h)
 ·obtain⟨ai,ao⟩:=dI.bs b o e;exact⟨ai,ao⟩
 ·have ai:=mn b5.ok.nG b5.iO;show X.base.objs.size<=(s2.heap.push {cls:=.type "list",data:=.seq ([]:List aj).toArray}).objs.size;omega
 ·rcases (f2 b aa).2.2.2.1 with q|q
  ·exact b5.ok.tg b o e q
  ·exact absurd (iU (cT (b5.ok.bs b o e).1) q) (Nat.lt_irrefl _)
 ·rcases cM.mp (b5.xF b hf) with q|q
  ·exact (f2 b aa).2.1 q
  ·exact (f2 b aa).2.2.1 q
def ajE{ah:List (af×Obj)}{σ:a7.St}{ba:aw}{s2:aH}{b8:List af}(S:qL X scope own caps)(b5:a7.Inv X ah σ ba s2)(f2:∀b∈b8,lY X ah ba b)(hc:∀b∈b8,b<s2.heap.objs.size){eG:bz}{m:Str->Option aj}{tk:Nat}
  (mV:eG.Ns (s2.heap.push {cls:=.type "list",data:=.seq ([]:List aj).toArray}).objs.size m) (keep:∀b u,(s2.heap.push {cls:=.type "list",data:=.seq ([]:List aj).toArray}).get? b=some u->eG.get? b=some u):
  a7.Inv (hl X (own++caps.map (·.2)) scope (f5 X.env scope.names []) (s2.heap.push {cls:=.type "list",data:=.seq ([]:List aj).toArray}).objs.size {s2 with heap:=s2.heap.push {cls:=.type "list",data:=.seq ([]:List aj).toArray} } (upd ba s2.heap.objs.size (.lst [])) b8 (X.c8++ah)) []
   (DS own.length (caps.map (·.1)) σ) (upd ba s2.heap.objs.size (.lst [])) {s2 with heap:=eG,toks:=tk}:=by
 have lg:∀x∈scope.names,x.2=.free->∃c,X.env.cells.lookup x.1=some c:=λx hx aK=>b5.ok.has x.1 (S.free x hx aK);have nH:∀x c,(f5 X.env scope.names []).lookup x=some c->X.env.cells.lookup x=some c:=vH lg (λx c e=>by simp at e);have dI:=b5.u_ (its:=[]) (ys:=[]) (t':=s2.toks) .nil (kT _);refine⟨Dm S b5 f2 hc _,rfl,b5.bare,fU.kept keep,⟨m,mV,λi x v ai ao bo=>?_⟩,λx c e=>?_,?_,λx c e=>dI.jS x c (nH x c e),λp aN=>?_,dI.bJ.kept keep,by simp[DS,hl]⟩
 ·obtain⟨j,a5,au,bI⟩:=vQ (l:=σ) ao;have hx:(caps.map (·.2))[i - own.length]?=some x:=by
   have:(own++caps.map (·.2))[i]?=some x:=ai
   rwa [vi a5] at this
  rw[lE] at au hx;cases ep:caps[i - own.length]? with
  |none=>rw[ep] at au;cases au
  |some p=>
   rw[ep] at au hx;cases au;cases hx;obtain⟨dp,hf⟩:=S.wD p (tJ ep);obtain⟨y,a_,k1,k2⟩:=rT hf;have aK:=S.free y a_ k1;rw[k2] at aK;obtain⟨xk,_y,Ai⟩:=dI.loc;have Ki:l0 X.env.scope p.2:=by
    rcases aK with aK|aK
    ·exact .inr (.inl aK)
    ·exact .inr (.inr aK)
   obtain⟨u,c7,I2⟩:=Ai p.1 p.2 v dp bI Ki;refine⟨u,c7,.inr ⟨?_,?_⟩⟩
   ·obtain⟨iI,aD,aL⟩:=x_ (env:=X.env) hf;rcases aL with rfl|⟨_,rfl⟩
    ·exact .inr aD
    ·exact .inl aD
   ·rcases I2 with ⟨q,_⟩|⟨_,c,au,q_⟩
    ·rcases aK with aK|aK
     ·rw[aK] at q;cases q
     ·rw[aK] at q;cases q
    ·obtain⟨bW,da⟩:=ua (env:=X.env) (l:=scope.names) (cs:=[]) (x:=p.2) (.inl ⟨y,a_,k1,k2⟩);have:=nH _ _ da;rw[au] at this;cases this;obtain⟨gD,aF,hd⟩:=q_;exact⟨c,da,gD,keep _ _ aF,hd⟩
 ·obtain⟨v,gD,aF,hd⟩:=dI.cell x c (nH x c e);exact⟨v,gD,keep _ _ aF,hd⟩
 ·exact dI.bJ.fresh (dS _)
 ·have l9:p∈X.c8++ah:=by simpa [hl] using aN
  obtain⟨ai,ao,bE,c4,f'⟩:=dI.pin p l9;refine⟨keep _ _ ai,ao,ez (cT ai),λz=>?_,f'⟩;rcases cM.mp (b5.xF p.1 z) with q|q
  ·exact bE q
  ·exact c4 q
def RR{ah:List (af×Obj)}{σ ct:a7.St}{ba ae:aw}{s2 s':aH}{b8:List af}{wq:List Str}(b5:a7.Inv X ah σ ba s2)(f2:∀b∈b8,lY X ah ba b)
  (J:a7.Inv (hl X wq scope (f5 X.env scope.names []) (s2.heap.push {cls:=.type "list",data:=.seq ([]:List aj).toArray}).objs.size {s2 with heap:=s2.heap.push {cls:=.type "list",data:=.seq ([]:List aj).toArray} } (upd ba s2.heap.objs.size (.lst [])) b8 (X.c8++ah)) [] ct ae s')
  {h':bz} (iM:Heap.SameBut (s2.heap.push {cls:=.type "list",data:=.seq ([]:List aj).toArray}).objs.size s'.heap h'):a7.Inv X ah σ ae {s' with heap:=h'}:=by
 have dI:=b5.u_ (its:=[]) (ys:=[]) (t':=s2.toks) .nil (kT _);have u:=J.base;have free:ae (s2.heap.push {cls:=.type "list",data:=.seq ([]:List aj).toArray}).objs.size=none:=J.free;have old:∀b o,(s2.heap.push {cls:=.type "list",data:=.seq ([]:List aj).toArray}).get? b=some o->b≠(s2.heap.push {cls:=.type "list",data:=.seq ([]:List aj).toArray}).objs.size:=λb o e=>ez (cT e);have zy:∀b,b≠(s2.heap.push {cls:=.type "list",data:=.seq ([]:List aj).toArray}).objs.size->∀o,s'.heap.get? b=some o->h'.get? b=some o:=λb aa o e=>iM.extBut b o aa e;have xJ:fU (e6 X.stack) b8 (upd ba s2.heap.objs.size (.lst [])) ae (s2.heap.push {cls:=.type "list",data:=.seq ([]:List aj).toArray}) h':=by
  refine⟨λb o e n hf hx=>zy b (old b o e) _ (u.keep b o e n hf hx),λb o e n hf hx=>?_,u.free,λb o e hx=>?_,u.kQ,u.kg,u.km⟩
  ·obtain⟨cB,q⟩:=u.slot b o e n hf hx;exact⟨cB,zy b (old b o e) _ q⟩
  ·obtain⟨o',q⟩:=u.there b o e hx;exact⟨o',zy b (old b o e) _ q⟩
 have bJ:eC X.prog X.w ae h':=λb o e=>by
  refine (J.bJ b o e).jd (λc v au q=>zy c (λz=>?_) v q) (λ_ q=>q) λ_ _ q=>q
  rcases au with rfl|au
  ·rw[z,free] at e;cases e
  ·rw[z,free] at au;cases au
 have qb:=J.os;have ZW:=J.bare;obtain⟨cD,g,d,t,os⟩:=s';obtain rfl:os=s2.os:=qb;have fin:=dI.call (h':=h') (g':=g) (d':=d) (t':=t) (ch:=b8) xJ bJ ZW λb aa=>⟨(f2 b aa).2.2.2.1,(f2 b aa).2.1,(f2 b aa).2.2.2.2.1,(f2 b aa).2.2.2.2.2⟩;exact fin
def aiC{X':aV}{R:Result->aH->Prop}{J:k8}{b8:List af}{ta D:af}{g0:Nat->bz->Prop}{aC O aY:af->Prop}{aT:fR}{ba:aw}{ts ys:List T}(hx:X'.di=λ_ _=>False)(au:X'.calm=true)(bt:pU X' dA hy)(bh:sC X' ifs cc)(he:cQ X' elt gm)
  (T:Turn X'.prog X'.w X'.K dA J b8 ta g0) (n4:∀ae:aw,(∀b∈b8,ae b=none)->∀b∈b8,lY X' [] ae b) (ok:oH X'.K J aY ba ts) (OM:ts.length<=big) (mQ:ba D=none) (i2:¬O D) (ZI:aT.h D=none)
  (fin:∀ct ae aG s1 vs,a7.Inv X' [] ct ae s1->Ext aY ba aG ae->ae D=some (.lst vs)->¬aG D->bl X'.K aG ae ys vs->R (.ok .next) s1)
  {s:aH} {σ:a7.St} {H:aw} {F:af->Prop} {ε:Ev} (I:a7.Inv X' [] σ H s) (st:g0 0 s.heap) (fr:∀b∈b8,H b=none) (x:Ext aY ba F H) (r:cx X'.K aC aT O F H ε σ) (kL:H D=some (.lst [])) (nD:¬F D) (e4:gT hy cc gm ts ε=some ys):
  h7 (bu X'.prog X'.w) X'.A (.compLoop (.ListComp elt [⟨dA,iter,ifs,0⟩] scope pos) 0 (.ref ta) (.ref D) X'.env) R s:=by
 refine Q2 (λn s'=>∃i ct ae aG ε' nL vs,n=ts.length - i/\i<=ts.length/\a7.Inv X' [] ct ae s'/\g0 i s'.heap/\(∀b∈b8,ae b=none)/\Ext aY ba aG ae/\cx X'.K aC aT O aG ae ε' ct/\ae D=some (.lst vs)/\¬aG D/\bl X'.K aG ae nL vs/\nL.length<=i /\
  ∃rest,gT hy cc gm (ts.drop i) ε'=some rest/\ys=nL++rest) ?_ ts.length ⟨0,σ,H,F,ε,[],[],rfl,kT _,I,st,fr,x,r,kL,nD,bl.nil,dS _,ys,by simpa using e4,by simp⟩
 rintro n s3 ⟨i,mD,d6,k4,MS,nL,vs,rfl,aM,dI,rC,q7,fD,iK,wQ,I7,de,Ai,rest,fg,es⟩;have jy:∀{oG:af->Prop} {k7:aw} {lX:af->Prop} {hQ:aw} {o:d7},Ext oG k7 lX hQ->k7 D=some o->¬oG D->¬lX D:=λy e n z=>by
  rcases y.new D z with q|q
  ·exact n q
  ·rw[e] at q;cases q
 by_cases e1:i<ts.length
 ·have hd:ts.drop i=ts[i]::ts.drop (i+1):=List.drop_eq_getElem_cons e1;have ra:ts[i]?=some ts[i]:=hH e1;rw[hd] at fg;simp only[gT,cz] at fg;obtain⟨wd,sL,b,dV,fg⟩:=fg;refine eK (T.item X' rfl rfl rfl au i [] s3 mD d6 (λ_ _=>False) dI (n4 d6 q7) rC (ok.go i k4 d6 _ fD.az iK.cp ra)) (λbR s4 ⟨u,ax,c4⟩=>?_) λ_ _ z=>z;subst ax;refine eK c4 (λ_ s5 ⟨hG,hQ,nA,tp,xW,n3,wL⟩=>?_) λ_ _ z=>z;obtain⟨lX,xQ,aS⟩:=ok.nf i k4 d6 _ hG hQ fD.az iK.cp ra xW;have wj:=nA.pinned (n4 hQ wL) (T.obj _ _ n3);have OW:=bt _ s5 mD hQ hG u (λpM uA=>uA=hQ/\cx X'.K aC aT O lX hQ wd pM) wj tp ⟨aC,aT,O,lX,MS,_,wd,iK.ext xQ,aS,sL,λpM qh=>⟨rfl,qh⟩⟩;rw[hx] at OW;refine eK OW (λ_ j0 ⟨pM,uA,qO,uT,qh⟩=>?_) λ_ _ z=>z;subst uT;have again:∀{jo:a7.St} {fc:aw} {eO:aH},a7.Inv X' ([]++ur b8 s5.heap) jo fc eO->g0 (i+1) eO.heap/\(∀b∈b8,fc b=none)/\a7.Inv X' [] jo fc eO:=λ{jo fc eO} gK=>by
   refine⟨T.keep _ _ _ n3 λb aa o e=>(gK.pin (b,o) (lF _ (lF _ (vF aa e)))).1,λb aa=>?_,gK.xK⟩
   obtain⟨o,e,d⟩:=T.obj _ _ n3 b aa;exact (gK.pin (b,o) (lF _ (lF _ (vF aa e)))).2.1
  have w9:=bh _ j0 pM uA (λnF fc=>nF=b/\∃j',Ext lX uA j' fc) qO ⟨aC,aT,O,lX,wd,b,qh,dV,λj' fc n8=>⟨rfl,j',n8⟩⟩;rw[hx] at w9;refine eK w9 (λPI eO ⟨fc,gK,q0,j',n8⟩=>?_) λ_ _ z=>z;subst q0;have xP:=xQ.trans n8;have tq:=qh.ext n8;cases PI with
  |false=>
   simp only[pn,if_false] at fg ⊢;obtain⟨a1,a2,d0⟩:=again gK;exact⟨_,by omega,i+1,pM,fc,j',wd,nL,vs,rfl,e1,d0,a1,a2,fD.trans xP,tq,xP.same.get wQ,jy xP wQ I7,de.ext xP,by omega,rest,fg,es⟩
  |true=>
   simp only[if_true,cz,dY] at fg ⊢;obtain⟨y,Zo,aey,Zl,rfl⟩:=fg;have mU:=he _ eO pM fc (λv kA=>∃jP,Ext j' fc jP kA/\Rep X'.K jP kA y v) gK ⟨aC,aT,O,j',wd,y,tq,Zo,λv jP kA rH kN=>⟨jP,rH,kN⟩⟩;rw[hx] at mU;refine eK mU (λu8 gZ ⟨n6,kA,wk,vc,jP,rH,kN⟩=>?_) λ_ _ z=>z;have BI:=xP.trans rH;have Gv:=BI.same.get wQ;have I8:=jy BI wQ I7;obtain⟨H3,JP⟩:=(tq.ext rH).other (ys:=vs++[n6]) I8 i2 ZI Gv;have aB:=Lr (X:=X') _ gZ pM kA (.ref D) [n6] (.ref D) [u8] (λ_ wi=>wi=upd kA D (.lst (vs++[n6]))) wk rfl (.cons vc .nil) ⟨D,vs,n6,rfl,rfl,Gv,by rw[lK,<- de.length];omega,rfl⟩;rw[hx] at aB;refine eK aB (λu9 ve ⟨v9,wi,D3,aep,q1⟩=>?_) λ_ _ z=>z;subst q1;obtain⟨a1,a2,d0⟩:=again D3;have x9:Ext aY ba jP (upd kA D (.lst (vs++[n6]))):=by
    have y:=fD.trans BI;refine⟨λb o e=>?_,y.sub,y.new,⟨λb f=>?_,y.cp.m6.upd λu e=>.inl ⟨_,fF (e.symm.trans Gv)⟩⟩⟩
    ·have nb:b≠D:=by
      rintro rfl;rw[mQ] at e;cases e
     rw[cK nb];exact y.same b o e
    ·have nb:b≠D:=by
      rintro rfl;exact I8 f
     rw[cK nb];exact y.cp b f
   refine⟨_,by omega,i+1,pM,_,jP,wd,nL++[y],vs++[n6],rfl,e1,d0,a1,a2,x9,JP,dM,I8,((de.ext BI).append (bl.cons kN bl.nil)).az H3,by simp;omega,aey,Zl,by rw[es];simp⟩
 ·have hd:ts.drop i=[]:=List.drop_eq_nil_of_le (by omega);rw[hd] at fg;cases fg;refine eK (T.done X' rfl rfl rfl au i [] s3 mD d6 (λ_ _=>False) dI (n4 d6 q7) rC (ok.stop i k4 d6 fD.az (by omega))) (λbR s4 ⟨ax,jQ⟩=>?_) λ_ _ z=>z;subst ax;exact fin mD d6 k4 s4 vs jQ fD wQ I7 (by rw[es,amE];exact de)
structure After(X:aV)(ah:List (af×Obj))(σ:a7.St)(F:af->Prop)(H:aw)(ys:List T)(D C:af)(ae:aw)(aG:af->Prop)(s1:aH)(vs:List V):Prop where
 inv:∀h',Heap.SameBut C s1.heap h'->a7.Inv X ah σ ae {s1 with heap:=h'}
 ns:∃m,s1.heap.Ns C m
 free:ae C=none
 above:X.c_.heap.objs.size<=C
 cells:∀x c,X.env.cells.lookup x=some c->c≠C
 pin:∀p∈X.c8++ah,p.1≠C
 loc:C≠X.env.locals
 new:H D=none
 ext:Ext F H aG ae
 jy:¬aG D
 lst:ae D=some (.lst vs)
 rep:bl X.K aG ae ys vs
def S5{use:Option (aj->Sem Unit)}{Q:aj->aH->Prop}{eY:Pos}(S:qL X scope own caps)(aM:oI X dA iter it)
  (bt:∀cl C c_ aT b8 c8,pU (hl X (own++caps.map (·.2)) scope cl C c_ aT b8 c8) dA hy)
  (bh:∀cl C c_ aT b8 c8,sC (hl X (own++caps.map (·.2)) scope cl C c_ aT b8 c8) ifs cc)
  (he:∀cl C c_ aT b8 c8,cQ (hl X (own++caps.map (·.2)) scope cl C c_ aT b8 c8) elt gm)
  (av:∀x,am1 iter X.env x=pure x) {ah:List (af×Obj)} {s:aH} {σ:a7.St} {H:aw} {aC O F:af->Prop} {aT:fR} {ε:Ev} {ys:List T} (I:a7.Inv X ah σ H s) (r:cx X.K aC aT O F H ε σ)
  (e:comp own.length (caps.map (·.1)) it hy cc gm ε=some (.list ys)) (fin:∀D C ae aG s1 vs,After X ah σ F H ys D C ae aG s1 vs->compPost (bu X.prog X.w) X.A X.di use Q (.ref D) C (.ok .next) s1):
  bc (bu X.prog X.w) X.A (comprehension (.ListComp elt [⟨dA,iter,ifs,0⟩] scope pos) scope X.env eY (newList []) false (eval iter X.env) use) Q X.di s:=by
 simp only[comp,cz] at e;obtain⟨ts,bC,e⟩:=e;split at e
 case isFalse=>cases e
 next OM=>
 simp only[dY] at e;obtain⟨amC,e4,e⟩:=e;cases e;have lg:∀x∈scope.names,x.2=.free->∃c,X.env.cells.lookup x.1=some c:=λx hx aK=>I.ok.has x.1 (S.free x hx aK);refine wpAny_comprehension_free rfl av (Ck lg) S.kind S.names (cJ (aM ah s σ H (λJ H1=>∃aY,Ext F H aY H1/\oH X.K J aY H1 ts) I ⟨aC,aT,O,F,ε,ts,r,bC,λJ aY H1 aO ok=>⟨aY,aO,ok⟩⟩) λv s1 ai=>cJ ai λAr s2 ao=>?_);obtain⟨ta,b8,g0,J,ba,rfl,b5,T,jc,f2,aY,aO,ok⟩:=ao;have hc:∀b∈b8,b<s2.heap.objs.size:=λb aa=>by
  obtain⟨o,aF,_⟩:=T.obj 0 _ jc b aa;exact cT aF
 have mQ:ba s2.heap.objs.size=none:=b5.fresh;have kL:H s2.heap.objs.size=none:=aO.same.none mQ;have iO:(s2.heap.push {cls:=.type "list",data:=.seq ([]:List aj).toArray}).objs.size=s2.heap.objs.size+1:=kp ..;refine wpAny_newList ?_ (kT _);refine BQ S.cell (by intro y a_;simp at a_) (λeG GW G4=>?_) S.kind;have keep:∀b u,(s2.heap.push {cls:=.type "list",data:=.seq ([]:List aj).toArray}).get? b=some u->eG.get? b=some u:=λb u e=>G4.extBut b u (ez (cT e)) (cZ _ e);have jQ:=ajE (tk:=s2.toks+0) S b5 f2 hc GW keep;have mY:=(r.ext aO).wD (D:=s2.heap.objs.size) own.length S.a8 mQ;refine codeAny_compStart_list ?loop (T.self _ 0 _ _ _ (T.keep 0 _ _ jc λb aa o e=>keep b o (cZ _ e)) ?loop);refine aiC (X':=hl X (own++caps.map (·.2)) scope (f5 X.env scope.names []) (s2.heap.push {cls:=.type "list",data:=.seq ([]:List aj).toArray}).objs.size {s2 with heap:=s2.heap.push {cls:=.type "list",data:=.seq ([]:List aj).toArray} } (upd ba s2.heap.objs.size (.lst [])) b8 (X.c8++ah))
  rfl S.calm (bt _ _ _ _ _ _) (bh _ _ _ _ _ _) (he _ _ _ _ _ _) T (λae a5 b aa=>?_) ok OM mQ (λz=>z.2 rfl) (r.o0 _ (r.fr _ kL)) (λct ae aG s1 vs sr hG ZG abn el=>?_) jQ (T.keep 0 _ _ jc λb aa o e=>keep b o (cZ _ e)) (λb aa=>?_) (Ext.laid aO.cp mQ) mY dM ?_ e4
 ·have tj:=Dm S b5 f2 hc (own++caps.map (·.2));refine⟨a5 b aa,(tj.q5 b aa).1,tj.q6 b aa,.inl aa,λx c e=>(tj.q5 b aa).2 x c e,λp aN=>?_⟩;have l9:p∈X.c8++ah:=by simpa [hl] using aN
  exact (f2 b aa).2.2.2.2.2 p l9
 ·obtain⟨m,a5,_⟩:=id sr.loc;refine fin s2.heap.objs.size _ ae aG s1 vs ⟨λh' iM=>RR b5 f2 sr iM,⟨m,a5⟩,sr.free,?_,λx c e z=>?_,λp aN z=>?_,?_,kL,aO.trans hG,abn,ZG,el⟩
  ·rw[iO];exact Nat.le_succ_of_le b5.iO
  ·obtain⟨v,q⟩:=b5.cell x c e;have:=q.lt;rw[z,iO] at this;exact absurd this (Nat.not_lt.mpr (mu _))
  ·have:=cT (b5.pin p aN).1;rw[z,iO] at this;exact absurd this (Nat.not_lt.mpr (mu _))
  ·have:=b5.lt;rw[iO];exact hI (Nat.lt_succ_of_lt this)
 ·have:=(f2 b aa).1;rw[cK (ez (hc b aa))];exact this
 ·intro z;obtain⟨o,e⟩:=aO.cp _ z;rw[mQ] at e;cases e
def akX(S:qL X scope own caps)(aM:oI X dA iter it)
  (bt:∀cl C c_ aT b8 c8,pU (hl X (own++caps.map (·.2)) scope cl C c_ aT b8 c8) dA hy)
  (bh:∀cl C c_ aT b8 c8,sC (hl X (own++caps.map (·.2)) scope cl C c_ aT b8 c8) ifs cc)
  (he:∀cl C c_ aT b8 c8,cQ (hl X (own++caps.map (·.2)) scope cl C c_ aT b8 c8) elt gm)
  (av:∀x,am1 iter X.env x=pure x:=by intro _;rfl):uH X (.ListComp elt [⟨dA,iter,ifs,0⟩] scope pos) (comp own.length (caps.map (·.1)) it hy cc gm):=by
 intro ah s σ H Q I ⟨aC,aT,O,F,ε,ys,r,e,k⟩;rw[eval_ListComp];refine S5 S aM bt bh he av I r e λD C ae aG s1 vs a=>?_;obtain⟨m,a5⟩:=a.ns;exact⟨m,a5,λh' iM=>⟨.ref D,ae,a.inv h' iM,rfl,k D vs aG ae a.ext a.new a.jy a.lst a.rep⟩⟩
def Sk{ε:Ev}{n:Nat}{cs:List Nat}{t:T}(e:comp n cs it hy cc gm ε=some t):∃ts,t=.list ts:=by
 simp only[comp,cz] at e;obtain⟨ts,_,e⟩:=e;split at e
 ·simp only[dY] at e;obtain⟨ys,_,e⟩:=e;exact⟨ys,e.symm⟩
 ·cases e
def r0(S:qL X scope own caps)(aM:oI X dA iter it)
  (bt:∀cl C c_ aT b8 c8,pU (hl X (own++caps.map (·.2)) scope cl C c_ aT b8 c8) dA hy)
  (bh:∀cl C c_ aT b8 c8,sC (hl X (own++caps.map (·.2)) scope cl C c_ aT b8 c8) ifs cc)
  (he:∀cl C c_ aT b8 c8,cQ (hl X (own++caps.map (·.2)) scope cl C c_ aT b8 c8) elt gm)
  (av:∀x,am1 iter X.env x=pure x:=by intro _;rfl):cQ X (.ListComp elt [⟨dA,iter,ifs,0⟩] scope pos) (comp own.length (caps.map (·.1)) it hy cc gm):=
 Pt (akX S aM bt bh he av) λε t e=>Sk e
def Mr(i:Nat){x:Str}{hD pf:Pos}(dp:X.N.Nodup)(S:qL X scope own caps)(hit:oI X dA iter it)
  (bt:∀cl C c_ aT b8 c8,pU (hl X (own++caps.map (·.2)) scope cl C c_ aT b8 c8) dA hy)
  (bh:∀cl C c_ aT b8 c8,sC (hl X (own++caps.map (·.2)) scope cl C c_ aT b8 c8) ifs cc)
  (he:∀cl C c_ aT b8 c8,cQ (hl X (own++caps.map (·.2)) scope cl C c_ aT b8 c8) elt gm)
  (aM:X.N[i]?=some x:=by rfl) (hx:Loc X.env.scope x:=by first|exact Or.inl rfl|exact Or.inr rfl)
  (l_:amF (.ListComp elt [⟨dA,iter,ifs,0⟩] scope pos) (some (.Name x hD)) pf.line X.env=pure true:=by rfl)
  (hf:X.fn x=true\/X.env.scope.names.lookup x=some .local:=by first|exact .inl rfl|exact .inr rfl)
  (av:∀x,am1 iter X.env x=pure x:=by intro _;rfl):
  gs X (.Assign [.Name x hD] (.ListComp elt [⟨dA,iter,ifs,0⟩] scope pos) pf) (asg i (comp own.length (caps.map (·.1)) it hy cc gm)):=by
 intro ah s σ H D I ⟨aC,aT,O,F,ε,o,r,e,k⟩;simp only[asg,dY] at e;obtain⟨t,bC,rfl⟩:=e;obtain⟨ys,rfl⟩:=Sk bC;rw[exec_Assign_Name_used _ _ _ _ l_];refine aR (wpAny_standAt (aR ?_));show bc _ X.A (do let _ <- comprehension (.ListComp elt [⟨dA,iter,ifs,0⟩] scope pos) scope X.env _ (newList []) false (eval iter X.env) (some (assign (.Name x hD) X.env))) _ _ s;refine aR (cJ (S5 (use:=some (assign (.Name x hD) X.env)) (Q:=λ_ s'=>oK X ah D .next s') S hit bt bh he av I r bC λwg C ae aG s1 vs a=>?_) λ_ s' bb=>cf (cf bb));have Wh:=a.inv s1.heap (Heap.SameBut.refl ..);have D4:a7.Inv X ah σ ae s1:=Wh;show bc _ X.A (assign (.Name x hD) X.env (.ref wg)) _ _ _;refine wpAny_assign_Name (CS (v:=.ref wg) D4 dp aM hx rfl (λs2 b5 ⟨b,iM,aa⟩=>?_) hf);obtain⟨m,a5⟩:=a.ns;have nb:C≠b:=by
  rcases aa with rfl|aa
  ·exact a.loc
  ·exact (a.cells x b aa).symm
 refine⟨m,a5.sameBut iM nb,λh' J2=>?_⟩
 have dI:a7.Inv X ah (σ.set i (some (.ref wg))) ae {s2 with heap:=h'}:=b5.turned (t':=s2.toks) (it:=C) (λb o aa e=>J2.extBut b o aa e) a.free a.loc (.inr a.above) a.cells a.pin;refine⟨_,ae,dI,?_⟩;have y:Ext F H (λb=>aG b\/b=wg) ae:=⟨a.ext.same,λb z=>.inl (a.ext.sub b z),λb z=>by
  rcases z with z|rfl
  ·exact a.ext.new b z
  ·exact .inr a.new,⟨λb z=>by
  rcases z with z|rfl
  ·exact a.ext.cp b z
  ·exact⟨_,a.lst⟩,a.ext.cp.m6⟩⟩
 refine k _ _ ae y.az ((r.ext y).set i ?_)
 simp only[Rep];exact⟨wg,vs,rfl,.inr rfl,.inl a.lst,a.rep.keep (λ_ _ z=>z) λb _ z w=>⟨.inl z,w⟩⟩
end
end
section
variable [cI]
open AutoSeq1 (wpAny_loadPart')
def agf(l:af)(items:Array aj)(n:Nat)(uP:Option af)(cB:Array (Option aj)):
  Meets (Builtin.«enumerate.__new__» ⟨[.type "enumerate",.ref l],[]⟩) (λ_ R s=>s.heap.get? l=some {cls:=.type "tuple",dict:=uP,data:=.seq items n,slots:=cB} /\
   R (.ok (.ret (.ref (s.heap.push {cls:=.type "tuple_iterator",data:=.fields #[.ref l,.int 0 0]}).objs.size)))
    {s with heap:=(s.heap.push {cls:=.type "tuple_iterator",data:=.fields #[.ref l,.int 0 0]}).push {cls:=.type "enumerate",data:=.fields #[.none,.bool false,.ref s.heap.objs.size,hj 0,.none,.none]} }):=
 .of_wp λprog w A R s h=>by
  obtain⟨aN,g,d,tk,os⟩:=s;obtain⟨aE,h⟩:=h;have O8:=sub_enumerate;have hb:Heap.IsTuple (Shared.heap ⟨aN,g,d,tk,os⟩) l items:=⟨_,aE,rfl,n,rfl⟩
  wp_walk using wpAny_loadPart' aE
  refine wpAny_stack_any λst=>cf ?_
  split
  ·rename_i c _ _ _ _ _
   cases (c==Value.type "enumerate")
   ·wp_walk using wpAny_loadPart' aE,xU hb
    exact⟨_,rfl,h⟩
   ·wp_walk using wpAny_loadPart' aE,xU hb
    exact⟨_,rfl,h⟩
  ·wp_walk using wpAny_loadPart' aE,xU hb
   exact⟨_,rfl,h⟩
section
variable {prog:cC}{w:b6}{A:cH}{E:aj->aH->Prop}{s:aH}
def agg{l:af}{items:Array aj}{Q:aj->aH->Prop}(hb:s.heap.IsTuple l items)
  (h:∀h',IsEnum h' (s.heap.objs.size+1) s.heap.objs.size 0 .none->h'.IsTupleIter s.heap.objs.size l 0->h'.objs.size=s.heap.objs.size+2 ->
   (∀b o,s.heap.get? b=some o->h'.get? b=some o)->Q (.ref (s.heap.objs.size+1)) {s with heap:=h'}):
  bc (bu prog w) A (call (.type "enumerate") [.ref l]) Q E s:=by
 obtain⟨⟨c,uP,F3,cB⟩,aE,au,n,hd⟩:=hb;replace au:c=.type "tuple":=au;replace hd:F3=.seq items n:=hd;subst au hd;refine callType_new F.called_enumerate (by decide) (F.typeCall_enumerate_1 _) (F.newCall_enumerate_1 _) (λobj=>F.args_object_init_2 obj _) F.entry_enumerate_new
  (agf l items n uP cB) ⟨aE,?_⟩
 have aq:(s.heap.push {cls:=.type "tuple_iterator",data:=.fields #[.ref l,.int 0 0]}).objs.size=s.heap.objs.size+1:=kp ..;show _/\_;rw[aq];have he:IsEnum ((s.heap.push {cls:=.type "tuple_iterator",data:=.fields #[.ref l,.int 0 0]}).push
   {cls:=.type "enumerate",data:=.fields #[.none,.bool false,.ref s.heap.objs.size,hj 0,.none,.none]}) (s.heap.objs.size+1) s.heap.objs.size 0 .none:=by
  have:=gI (s.heap.push {cls:=.type "tuple_iterator",data:=.fields #[.ref l,.int 0 0]})
   (o:={cls:=.type "enumerate",data:=.fields #[.none,.bool false,.ref s.heap.objs.size,hj 0,.none,.none]}) rfl
  rw[aq] at this;exact this
 refine⟨⟨_,he,rfl⟩,h _ he ⟨_,cZ _ (gI _ rfl),rfl,rfl⟩ (by rw[kp,aq]) λb o x=>cZ _ (cZ _ x)⟩
def ags{it l:af}{i:Nat}{items}{x:aj}{Q:aj->aH->Prop}(hit:s.heap.IsTupleIter it l i)
  (aE:s.heap.IsTuple l items) (hx:items[i]?=some x)
  (i3:∀h',h'.IsTupleIter it l (i+1)->Heap.SameBut it s.heap h'->Q x {s with heap:=h'}):
  bc (bu prog w) A (lD (.ref it)) Q E s:=by
 obtain⟨o,aF,au,hd⟩:=id hit;obtain⟨ol,GY,_,nl,GK⟩:=aE;unfold lD;refine aR (qs (name:=Str.ofString "__next__") hit.typeIs BO
  (px BO hit.typeIs F.entry_tuple_iterator_next ?_ (F.args_tuple_iterator_next_1 _)))
 show bc _ _ (field (.ref it) 0 >>= _) _ _ s
 refine aR (h6 aF hd (x:=.ref l) rfl ?_)
 show bc _ _ (if (Value.ref l==Value.none)=true then _ else _) _ _ s
 rw[if_neg (show ¬((Value.ref l==Value.none)=true) from m')];show bc _ _ (field (.ref it) 1 >>= _) _ _ s;refine aR (h6 aF hd (x:=.int i 0) rfl ?_);show bc _ _ (seqItems? (.ref l) >>= _) _ _ s;refine aR (pv GY GK ?_);simp only[Int.toNat_natCast,hx];refine aR (wpAny_setField aF hd (by simp) (cf ⟨x,rfl,cf (i3 _ ?_ (Heap.SameBut.update ..))⟩));exact⟨_,Heap.get?_update_self _ aF (Obj.isFreed_of_fields (Obj.data_mapFields hd _)),(Obj.cls_mapFields ..).trans au,by
  rw[Obj.data_mapFields hd];simp[hj]⟩
def QB{it l:af}{i:Nat}{items}{Q:aj->aH->Prop}(cD:A.handled=none)
  (hit:s.heap.IsTupleIter it l i) (aE:s.heap.IsTuple l items) (hx:items[i]?=none)
  (la:∀h' e,Heap.ExtBut it s.heap h'->(∃o,h'.get? e=some o/\o.cls=.type "StopIteration")->E (.ref e) {s with heap:=h'}):
  bc (bu prog w) A (lD (.ref it)) Q E s:=by
 obtain⟨o,aF,au,hd⟩:=id hit;obtain⟨ol,GY,_,nl,GK⟩:=aE;unfold lD;refine aR (qs (name:=Str.ofString "__next__") hit.typeIs BO
  (px BO hit.typeIs F.entry_tuple_iterator_next ?_ (F.args_tuple_iterator_next_1 _)))
 show bc _ _ (field (.ref it) 0 >>= _) _ _ s
 refine aR (h6 aF hd (x:=.ref l) rfl ?_)
 show bc _ _ (if (Value.ref l==Value.none)=true then _ else _) _ _ s
 rw[if_neg (show ¬((Value.ref l==Value.none)=true) from m')];show bc _ _ (field (.ref it) 1 >>= _) _ _ s;refine aR (h6 aF hd (x:=.int i 0) rfl ?_);show bc _ _ (seqItems? (.ref l) >>= _) _ _ s;refine aR (pv GY GK ?_);simp only[Int.toNat_natCast,hx];refine aR (wpAny_rule (aR (wpAny_setField aF hd (by simp) ?_)));show bc _ _ (newExc (.type "StopIteration") [] >>= _) _ _ _;refine aR ?_;simp only[newExc,newTuple];refine aR (qt ?_ (by size_fits));refine aR (m:=firstArgMember _ _) (wpAny_of_eq (a:=Value.none) (by first|rfl|(simp only[firstArgMember];rfl)) ?_);refine qt ?_ (by size_fits);simp only[raiseNew];refine aR (wpAny_handled ?_)
 first|rw[show A.in1.handled=none from cD]|rw[cD]
 refine aR (cf (wpAny_throw ?_))
 exact la _ _ (((Heap.SameBut.update ..).extBut.push _).push _) ⟨_,gI _ rfl,rfl⟩
end
def vC{prog:cC}{w:b6}{A:cH}(cD:A.handled=none)(it l:af)(jw:l≠it)(items:Array aj):
  Draws prog w A it [it,l] items.size (λi v=>items[i]?=some v) (λi h=>h.IsTupleIter it l i/\h.IsTuple l items) where
 live:=λ_ _ st=>let ⟨o,aF,_⟩:=st.1;⟨o,aF⟩
 frame:=λ_ _ _ st aK=>⟨st.1.at λo e=>aK it (by simp) o e,let ⟨o,aF,r⟩:=st.2;⟨o,aK l (by simp) o aF,r⟩⟩
 item:=λi s Q E aM st i3=>by
  refine ags st.1 st.2 (x:=items[i]) (by simp[aM]) λh' _k o2=>?_
  exact i3 _ h' s.toks (by simp[aM]) ⟨_k,st.2.extBut o2.extBut jw⟩ o2
 done:=λs Q E st la=>QB cD st.1 st.2 (by simp) la
noncomputable def D6(K:a6)(a:af):k8:=
 ⟨λi H=>∃xs x,c3 K H a xs/\xs[i]?=some x,λi H x ae=>∃p v,H p=none/\x=.ref p/\ae=upd H p (.tup [.int i,v])/\∀xs,c3 K H a xs->xs[i]?=some v,λi H=>∃xs,c3 K H a xs/\xs.length<=i⟩
def ah4{P:cC}{w:b6}{K:a6}{es:List bq}{k:Nat}{pos:Pos}(a it e:af)(jw:e≠it)(ZR:a≠it)(ZP:a≠e):Turn P w K (.Tuple es k pos) (D6 K a) [e,it] e (λi h=>(∃old,IsEnum h e it i old)/\h.IsTupleIter it a i) where
 mem:=by simp
 obj:=λi h st b aa=>by
  obtain⟨⟨old,he⟩,o,aF,au,hd⟩:=st;rcases cM.mp aa with rfl|aa
  ·exact⟨_,he,λv z=>by
    have j5:Data.fields _=Data.cell v:=z;cases j5⟩
  ·have aD:b=it:=by simpa using aa
   subst aD;exact⟨o,aF,λv z=>by rw[hd] at z;cases z⟩
 keep:=λi h h' st bQ=>by
  obtain⟨⟨old,he⟩,jc⟩:=st;exact⟨⟨old,bQ e (by simp) _ he⟩,jc.at λo q=>bQ it (by simp) o q⟩
 item:=by
  intro X gB hw iu au i ah s σ H E I hf st bt;subst gB hw iu;obtain⟨xs,x,bb,hx⟩:=bt;obtain⟨its,bR,p,aq⟩:=I.tuple bb;obtain⟨u,cn,c7⟩:=bR.get hx;obtain⟨⟨old,he⟩,hit⟩:=st;obtain⟨f0,f1,f2,hU,f4,hV⟩:=hf e (by simp);obtain⟨oV,g1,g2,g3,sO,mP⟩:=hf it (by simp);have aM:i<its.toArray.size:=by
   rw[d4];exact (gH.mp cn).1
  have _B:e∉[it,a]:=by
   intro z;rcases cM.mp z with z|z
   ·exact jw z
   ·have j5:e=a:=by simpa using z
    exact ZP j5.symm
  refine wpAny_pyNext_enum_itemD (vC (A:=X.A.in1) (I.ok.hd au) it a ZR its.toArray) he ⟨hit,p⟩ aM jw _B λhG h' tk ZL aF o2 ej hsz aK=>?_
  have ex:hG=u:=by
   have:=ZL;rw[<- Array.getElem?_toList] at this;rw[show (its.toArray).toList=its from rfl,cn] at this;exact (fF this).symm
  subst ex;refine⟨_,rfl,wpAny_letOwnedTupleGo_enum aF λao mU hg=>?_⟩;have OT:e<s.heap.objs.size:=cT he;have _i:it<s.heap.objs.size:=by obtain⟨o,ki,_⟩:=hit;exact cT ki
  have k2:∀b o,b≠e->b≠it->s.heap.get? b=some o->ao.get? b=some o:=λb o ai bE q=>hg.extBut b o ai (aK b o ai bE q);have fr:H s.heap.objs.size=none:=I.bJ.fresh (dS _);have Gy:ao.get? s.heap.objs.size=some {cls:=.type "tuple",data:=.seq #[.int i tk,hG]}:=hg.extBut _ _ (hI OT) ej;have ru:∀b o,H b=some o->b≠e/\b≠it:=λb o q=>⟨λz=>(by rw[z,f0] at q;cases q),λz=>(by rw[z,oV] at q;cases q)⟩;have am8:eC X.prog X.w (upd H s.heap.objs.size (.tup [.int i,x])) ao:=by
   intro b o q;by_cases aa:b=s.heap.objs.size
   ·subst aa;rw[dM] at q;cases q;exact⟨by show 2<=cA;decide,[.int i tk,hG],.cons ⟨tk,rfl⟩ (.cons c7 .nil),⟨_,Gy,rfl,_,rfl⟩⟩
   ·rw[cK aa] at q;refine (I.bJ b o q).jd (λc v da el=>k2 c v ?_ ?_ el) (λc el=>?_) λc ys el=>?_
    ·rcases da with rfl|da
     ·exact (ru _ _ q).1
     ·exact (ru _ _ da).1
    ·rcases da with rfl|da
     ·exact (ru _ _ q).2
     ·exact (ru _ _ da).2
    ·rw[cK (iW el fr)];exact el
    ·rw[cK (iW el fr)];exact el
  have b5:a7.Inv X ah σ (upd H s.heap.objs.size (.tup [.int i,x])) {s with heap:=ao,toks:=tk+1}:=by
   refine I.step (g':=s.gens) (d':=s.drawn) (ch:=[e,it]) (λb aa=>?_) (λb o _ _ da q _=>k2 b o (λz=>da (by simp[z])) (λz=>da (by simp[z])) q) (λb o _ _ da q _=>⟨o.slots,k2 b o (λz=>da (by simp[z])) (λz=>da (by simp[z])) q⟩) (λb o _ q n=>?_)
    (λb o da q=>⟨o,k2 b o (λz=>da (by simp[z])) (λz=>da (by simp[z])) q⟩) (λb ys q=>by rw[cK (iW q fr)];exact q) (λb o u q=>by rw[cK (iW q fr)];exact q) (λb ps q=>⟨#[],by rw[cK (iW q fr),q];simp⟩) (λm hm=>?_) am8 I.bare
   ·rcases cM.mp aa with rfl|aa
    ·exact⟨hU,f1,f4,hV⟩
    ·have:b=it:=by simpa using aa
     subst this;exact⟨g3,g1,sO,mP⟩
   ·rw[cK (ez (cT q))];exact n
   ·obtain⟨o,hu,ep,ki,r⟩:=hm;exact⟨o,hu,ep,k2 _ o (Ne.symm f1) (Ne.symm g1) ki,r⟩
  refine⟨.ref s.heap.objs.size,_,b5,rfl,⟨s.heap.objs.size,x,fr,rfl,rfl,λys a_=>by rw[I.BH a_ bb];exact hx⟩,⟨⟨_,by simpa using mU⟩,o2.1.at λo q=>(hg.2 it jw.symm).trans q⟩,λb aa=>?_⟩
  rcases cM.mp aa with rfl|aa
  ·rw[cK (ez OT)];exact f0
  ·have:b=it:=by simpa using aa
   subst this;rw[cK (ez _i)];exact oV
 done:=by
  intro X gB hw iu au i ah s σ H E I hf st bt;subst gB hw iu;obtain⟨xs,bb,hx⟩:=bt;obtain⟨its,bR,p,aq⟩:=I.tuple bb;obtain⟨⟨old,he⟩,hit⟩:=st;obtain⟨oV,g1,g2,g3,sO,mP⟩:=hf it (by simp);have ej:s.TypeIs (.ref e) "enumerate":=⟨_,he,rfl⟩;have aE:=bR.length;unfold pyNext;refine aR (wpAny_attempt (qs (name:=Str.ofString "__next__") ej F.slot_enumerate_next
   (px F.slot_enumerate_next ej F.entry_enumerate_next ?_ (F.args_enumerate_next_1 _))))
  show bc _ _ (field (.ref e) 2 >>= _) _ _ _
  refine aR (h6 he rfl (x:=.ref it) rfl ?_)
  refine aR (QB (I.ok.hd au) hit (show s.heap.IsTuple a its.toArray from p) (by simp;omega) λh' x Z8 lj=>?_)
  obtain⟨o,aF,da⟩:=lj;refine aR (wpAny_isInstance (T:="StopIteration") (b:=true) ⟨o,aF,da⟩ isSubtype_stop ?_);exact cf ⟨rfl,I.turned (t':=s.toks) (λb o aa q=>Z8 b o aa q) oV g1 g3 sO mP⟩
 self:=λ_ _ _ _ _ st h=>by
  obtain⟨⟨old,he⟩,_⟩:=st;exact wpAny_pyIter_enum he h
noncomputable def aai(K:a6)(cF:gi):TI:=λσ H R=>cF σ H λvs H1=>∃a xs,vs=[.ref a]/\c3 K H1 a xs/\R (D6 K a) H1
section
variable {X:aV}{es:List bq}{k:Nat}{p pos eY:Pos}{a:bq}{f:bH}
def aj3{cF:gi}(bt:ew X "enumerate")(hm:X.mg "enumerate"=none)(aB:hp X [a] cF)(av:bB [a] X.env=[(false,eval a X.env)]:=by rfl):qQ X (.Tuple es k eY) (.Call (.Name "enumerate" p) [a] [] pos) (aai X.K cF):=by
 intro ah s σ H R I h;refine Call_ (r8 I bt hm PyProof.Rows.boot_enumerate (vl (cJ (aB pos ah s σ H _ I h) λus s1 ⟨vs,H1,a',bj,aP⟩=>?_) av rfl));obtain⟨a,xs,rfl,bb,q⟩:=aP;cases bj with
|cons r xx=>
  cases xx
  cases r
  obtain⟨its,bR,pl,aq⟩:=a'.tuple bb;have OL:a<s1.heap.objs.size:=by obtain⟨o,aF,_⟩:=pl;exact cT aF
  refine agg (show s1.heap.IsTuple a its.toArray from pl) λh' he hit hsz aK=>wpAny_pyIter_enum he ?_
  refine⟨s1.heap.objs.size+1,[s1.heap.objs.size+1,s1.heap.objs.size],_,_,H1,rfl,a'.kept (t':=s1.toks) aK,ah4 a s1.heap.objs.size (s1.heap.objs.size+1) (Nat.succ_ne_self _) (ez OL) (ez (Nat.lt_succ_of_lt OL)),⟨⟨_,he⟩,hit⟩,λb aa=>?_,q⟩
  have ju:s1.heap.objs.size<=b:=by
   rcases cM.mp aa with rfl|aa
   ·exact mu _
   ·have:b=s1.heap.objs.size:=by simpa using aa
    rw[this];exact dS _
  exact a'.z9 ju (a'.bJ.fresh ju)
def ait{K:a6}{a:af}{aY:af->Prop}{H1:aw}{ts:List T}{vs:List V}(ax:c3 K H1 a vs)(q:bl K aY H1 ts vs):oH K (D6 K a) aY H1 (enum ts) where
 go:=λi F H t az d e=>by
  have aM:=(gH.mp e).1;simp only[enum,hi,List.length_zipIdx] at aM;obtain⟨v,ai,_⟩:=q.get (hH aM);exact⟨vs,v,az.tup _ _ ax,ai⟩
 nf:=λi F H t x ae az d e y=>by
  obtain⟨p,v,aN,rfl,rfl,y⟩:=y;have aM:=(gH.mp e).1;simp only[enum,hi,List.length_zipIdx] at aM;obtain⟨je,ai,ao⟩:=(q.az az).get (hH aM);have bE:=y vs (az.tup _ _ ax);rw[ai] at bE;cases bE;have aO:=Ext.laid (o:=.tup [.int i,v]) d aN;refine⟨F,aO,?_⟩;have bC:t=.tuple [.int i,ts[i]]:=by
   simp only[enum,lE,List.getElem?_zipIdx,hH aM] at e;simpa using e.symm
  subst bC;simp only[Rep];exact⟨p,_,rfl,c3.of dM,bl.cons (by simp[Rep]) (bl.cons (ao.ext aO) bl.nil)⟩
 stop:=λi F H az aE=>⟨vs,az.tup _ _ ax,by
  simp only[enum,hi,List.length_zipIdx] at aE;rw[<- q.length];exact aE⟩
def Uo(hm:X.mg "enumerate"=none)(aB:cQ X a f)(bt:ew X "enumerate":=by rfl)(av:bB [a] X.env=[(false,eval a X.env)]:=by rfl)(hg:bB [a] X.env=(false,eval a X.env)::bB [] X.env:=by rfl):
  oI X (.Tuple es k eY) (.Call (.Name "enumerate" p) [a] [] pos) (nq (jk f)):=DD (aj3 bt hm (fu aB h_ hg) av) λσ H R ⟨aC,aT,O,F,ε,ts,r,e,k⟩=>by
 simp only[nq,jk,dY,cz] at e;obtain⟨us,⟨t,bC,e⟩,rfl⟩:=e;split at e
 ·cases e
  refine⟨aC,aT,O,F,ε,_,r,bC,λv aG ae x q=>?_⟩
  simp only[Rep] at q;obtain⟨a,vs,rfl,av,ax⟩:=q;exact⟨a,vs,rfl,av,k _ aG ae x (ait av ax)⟩
 ·cases e
end
end
section
variable [cI]
structure Cl(P:cC)(w:b6)(K:a6)(mg:Str->Option aj)(base:bz)(x:Str)(k n:Nat)(d:List T->Option T):Prop where
 ex:∃bT fd ps,eR P w K mg base dt k bT fd ps (spT K n d)/\mg x=some (.ref bT)/\m9 K (.ref bT)=true/\fG K fd ps []
section
variable {P:cC}{w:b6}{K:a6}{mg:Str->Option aj}{base:bz}{x:Str}{k n:Nat}{d:List T->Option T}
theorem Cl.mono{j:Nat}(c:Cl P w K mg base x j n d)(h:j<=k):Cl P w K mg base x k n d:=by
 obtain⟨bT,fd,ps,F,r⟩:=c.ex;exact⟨bT,fd,ps,F.mono h,r⟩
def Cl.mk'{bT:af}{fd:et}{ps:List Str}(F:eR P w K mg base dt k bT fd ps (spT K n d))(m:mg x=some (.ref bT))(az:m9 K (.ref bT)=true)(b:fG K fd ps []):Cl P w K mg base x k n d:=⟨bT,fd,ps,F,m,az,b⟩
end
section
variable {X:aV}{k n:Nat}{d:List T->Option T}{x:Str}{p pos:Pos}{e:bq}{es:List bq}{aA:List bH}
def hJ(C:Cl X.prog X.w X.K X.mg X.base x k n d)(ax:c2 k X.A)(aB:lZ X (e::es) aA)(bt:ew X x:=by rfl)(a5:aA.length=n:=by rfl)(gn:(x==("__debug__":Str))=false:=by decide)
  (he:bB (e::es) X.env=(false,eval e X.env)::bB es X.env:=by rfl) (hpl:(dZ pos (bB es X.env)).any (·.1)=false:=by rfl):cQ X (.Call (.Name x p) (e::es) [] pos) (b9 d aA):=by
 obtain⟨bT,fd,ps,F,m,az,b⟩:=C.ex;exact akY F ax bt m az b aB a5 gn he hpl
def PS{i:Int}{t:Tok}(hm:X.mg x=some (.int i t))(bt:ew X x:=by rfl)(hd:(x==("__debug__":Str))=false:=by decide):cQ X (.Name x pos) (ak (.int i)):=v_ (v:=.int i) (vM (v:=.int i) bt hm ⟨t,rfl⟩ hd) λ_ _=>by simp[Rep]
noncomputable def MQ(scope sc:Scope)(N:List Str)(caps:List (Nat×Str)):Bool:=
 decide (scope.kind=.function) && scope.names.all (λy=>(decide (y.2≠.local) || decide (scope.names.lookup y.1=some .local)) && decide (y.2≠.cell) && (decide (y.2≠.free) || decide (sc.names.lookup y.1=some .cell) || decide (sc.names.lookup y.1=some .free)))
  && caps.all (λq=>decide (N[q.1]?=some q.2) && decide (scope.names.lookup q.2=some .free)) && decide ((caps.map (·.1)).Nodup)
def Us{scope sc:Scope}{own:List Str}{caps:List (Nat×Str)}(N:List Str)(u5:X.env.scope=sc)(dp:X.N=N)(au:X.calm=true)(h:MQ scope sc N caps=true):qL X scope own caps:=by
 simp only[MQ,iV,List.all_eq_true,decide_eq_true_eq,Bool.or_eq_true] at h;obtain⟨⟨⟨ai,ao⟩,bE⟩,c4⟩:=h;refine⟨ai,λy a_ aE=>?_,λy a_=>(ao y a_).1.2,λy a_ hf=>?_,λq bb=>by rw[dp];exact bE q bb,c4,au⟩
 ·rcases (ao y a_).1.1 with z|z
  ·exact absurd aE z
  ·exact z
 ·have aK:X.env.kindOf y.1=sc.names.lookup y.1:=by rw[<- u5];rfl
  rw[aK];rcases (ao y a_).2 with (z|z)|z
  ·exact absurd hf z
  ·exact .inl z
  ·exact .inr z
end
def lP{P:cC}{w:b6}{K:a6}{mg:Str->Option aj}{base:bz}{x:Str}{st:Stmt}{f:af}{fd:et}{N ps:List Str}{k:Nat}{b:bF}(F:cG K x x st f fd)(S:cO N ps (bx st))(bd:fG K fd ps [])(m:mg x=some (.ref f))
  (aa:∀(bN:aj) (A:cH) (outer:List Env) (s:aH) (H:aw) (E:e0),c2 k (A.deeper (envOfC x (bx st) s.heap.objs.size f bN)) ->
   hR (e3 dt P w K mg base N x (bx st) f bN A outer s H E).ey (fv st) b):Cl P w K mg base x (k+1) ps.length (eJ b N.length):=.mk' (Uq F S aa) m F.az bd
end
end D
end
section
namespace a7
open PySem PySem.Spec PyProof.Rows
section
variable {eQ:Type}[DecidableEq eQ]
noncomputable def lA(kvs:List (eQ×V))(k:eQ):Option V:=(kvs.find? λdJ=>decide (dJ.1=k)).map (·.2)
noncomputable def putK(kvs:List (eQ×V))(k:eQ)(v:V):List (eQ×V):=
 if (kvs.any λdJ=>decide (dJ.1=k))=true then kvs.map (λdJ=>if dJ.1=k then (dJ.1,v) else dJ) else kvs++[(k,v)]
def LH{p:eQ×V}{r:List (eQ×V)}{k:eQ}(e:p.1=k):lA (p::r) k=some p.2:=by simp[lA,qq,e]
def LI{p:eQ×V}{r:List (eQ×V)}{k:eQ}(e:¬p.1=k):lA (p::r) k=lA r k:=by simp[lA,qq,e]
theorem SH(k:eQ):∀kvs:List (eQ×V),(kvs.any λdJ=>decide (dJ.1=k))=(lA kvs k).isSome
| []=>rfl
|p::r=>by
  rw[List.any_cons];by_cases e:p.1=k
  ·simp only[LH e,decide_eq_true e,Bool.true_or,Option.isSome_some]
  ·rw[LI e,decide_eq_false e,Bool.false_or];exact SH k r
def Rk(kvs:List (eQ×V))(k:eQ)(v:V):(putK kvs k v).length<=kvs.length+1:=by
 unfold putK;split
 ·rw[hi];omega
 ·rw[kr,e_,jh];omega
def kb.aal{o:Option V}{u:Option aj}(r:kb o u):o.isSome=u.isSome:=by
 cases o with
|none=>cases u with
  |none=>rfl
  |some _=>exact (show False from r).elim
|some _=>cases u with
  |none=>exact (show False from r).elim
  |some _=>rfl
def g9.val{kvs:List (eQ×V)}{vs:List (eQ×aj)}(r:g9 kvs vs)(k:eQ):kb (lA kvs k) (valueAt vs k):=by
 unfold g9 at r
 induction r with
|nil=>exact True.intro
| @cons p q ps me h t b1=>
  obtain⟨ai,ao⟩:=h;by_cases e:p.1=k
  ·have bP:q.1=k:=ai.symm.trans e;have b:valueAt (q::me) k=some q.2:=by simp[valueAt,qq,bP]
   rw[LH e,b];exact ao
  ·have bP:¬q.1=k:=λz=>e (ai.trans z);have b:valueAt (q::me) k=valueAt me k:=by simp[valueAt,qq,bP]
   rw[LI e,b];exact b1
theorem g9.any{kvs:List (eQ×V)}{vs:List (eQ×aj)}(r:g9 kvs vs)(k:eQ):(kvs.any λdJ=>decide (dJ.1=k))=vs.any λdJ=>decide (dJ.1=k):=by
 unfold g9 at r
 induction r with
|nil=>rfl
|cons h t b1=>rw[List.any_cons,List.any_cons,b1,h.1]
def g9.JU{kvs:List (eQ×V)}{vs:List (eQ×aj)}(r:g9 kvs vs)(k:eQ){y:V}{u:aj}(bk:RelV y u):
  g9 (kvs.map λdJ=>if dJ.1=k then (dJ.1,y) else dJ) (vs.map λdJ=>if dJ.1=k then (dJ.1,u) else dJ):=by
 unfold g9 at r ⊢
 induction r with
|nil=>exact .nil
| @cons p q ps me h t b1=>
  rw[dr,dr];refine .cons ?_ b1;obtain⟨ai,ao⟩:=h;by_cases e:p.1=k
  ·rw[if_pos e,if_pos (ai.symm.trans e)];exact⟨ai,bk⟩
  ·rw[if_neg e,if_neg (λz=>e (ai.trans z))];exact⟨ai,ao⟩
def g9.put{kvs:List (eQ×V)}{vs:List (eQ×aj)}(r:g9 kvs vs)(k:eQ){y:V}{u:aj}(bk:RelV y u):g9 (putK kvs k y) (stored vs k u):=by
 unfold putK stored;rw[r.any k];by_cases e:(vs.any λdJ=>decide (dJ.1=k))=true
 ·rw[if_pos e,if_pos e];exact r.JU k bk
 ·rw[if_neg e,if_neg e];exact Paired.snoc r ⟨rfl,bk⟩
theorem g9.length{kvs:List (eQ×V)}{vs:List (eQ×aj)}(r:g9 kvs vs):kvs.length=vs.length:=Paired.length r
end
def DO{P:cC}{w:b6}{k:Key}{u:aj}(r:RelV (dN k) u):(hk P w).is k u=true:=by
 cases k with
|inl i=>obtain⟨t,e⟩:=(show ∃t,u=Value.int i t from r);subst e;exact Rh P w i t
|inr x=>obtain⟨t,e⟩:=(show ∃t,u=Value.str x t from r);subst e;exact Rg P w x t
theorem R'{P:cC}{w:b6}:∀{bp:List Key} {us:List aj},Vals (bp.map dN) us->ItemsAre (hk P w) bp us
| [],_,r=>by rw[gc] at r;cases r;exact .nil
|k::bp,_,r=>by
  rw[dr] at r;cases r with
  |cons h t=>exact .cons (DO h) (R' t)
abbrev KT(H:aw):List (List Key×V)->List (List Key×af×aj)->Prop:=Paired λp q=>p.1=q.1/\H q.2.1=some (.tup (p.1.map dN))/\RelV p.2 q.2.2
def KT.val{H:aw}{kvs:List (List Key×V)}{xs:List (List Key×af×aj)}(r:KT H kvs xs)(k:List Key):kb (lA kvs k) ((atKey xs k).map (·.2)):=by
 induction r with
|nil=>exact True.intro
| @cons p q ps me h t b1=>
  obtain⟨ai,_,ao⟩:=h;by_cases e:p.1=k
  ·have bP:q.1=k:=ai.symm.trans e;have b:atKey (q::me) k=some q.2:=by simp[atKey,qq,bP]
   rw[LH e,b];exact ao
  ·have bP:¬q.1=k:=λz=>e (ai.trans z);have b:atKey (q::me) k=atKey me k:=by simp[atKey,qq,bP]
   rw[LI e,b];exact b1
def KT.JU{H:aw}{kvs:List (List Key×V)}{xs:List (List Key×af×aj)}(r:KT H kvs xs)(k:List Key){y:V}{u:aj}(bk:RelV y u):
  KT H (kvs.map λdJ=>if dJ.1=k then (dJ.1,y) else dJ) (xs.map (putAt k u)):=by
 induction r with
|nil=>exact .nil
| @cons p q ps me h t b1=>
  rw[dr,dr];refine .cons ?_ b1;obtain⟨ai,ao,bE⟩:=h;unfold putAt;by_cases e:p.1=k
  ·rw[if_pos e,if_pos (ai.symm.trans e)];exact⟨ai,ao,bk⟩
  ·rw[if_neg e,if_neg (λz=>e (ai.trans z))];exact⟨ai,ao,bE⟩
def KT.put{H:aw}{kvs:List (List Key×V)}{xs:List (List Key×af×aj)}(r:KT H kvs xs)(k:List Key){b:af}{y:V}{u:aj}(aa:H b=some (.tup (k.map dN)))(bk:RelV y u):
  KT H (putK kvs k y) (storedH xs k b u):=by
 have e:(kvs.any λdJ=>decide (dJ.1=k))=(atKey xs k).isSome:=by
  rw[SH,(r.val k).aal,Option.isSome_map]
 unfold putK storedH;rw[e];by_cases q:(atKey xs k).isSome=true
 ·rw[if_pos q,if_pos q];exact r.JU k bk
 ·rw[if_neg q,if_neg q];exact Paired.snoc r ⟨rfl,aa,bk⟩
def KT.keeps{H ae:aw}{kvs:List (List Key×V)}{xs:List (List Key×af×aj)}(r:KT H kvs xs)(bh:∀b ys,H b=some (.tup ys)->ae b=some (.tup ys)):KT ae kvs xs:=
 Paired.I3 r λ_ _ z=>⟨z.1,bh _ _ z.2.1,z.2.2⟩
section
variable {P:cC}{w:b6}{H:aw}{h:bz}{a:af}
def UI{u:d7}(ok:eC P w H h)(e:eU H a u):hn P w H h a u:=e.ok ok
def MP{kvs:List (Key×V)}(ok:eC P w H h)(e:eU H a (.fo kvs)):kvs.length<=cA/\(a==sysModules)=false/\∃vs,g9 kvs vs/\h.DictOf (hk P w) a vs:=
 show hn P w H h a (.fo kvs) from UI ok e
def al8{kvs:List (Key×V)}(ok:eC P w H h)(e:H a=some (.fo kvs)):kvs.length<=cA/\(a==sysModules)=false/\∃vs,g9 kvs vs/\h.DictOf (hk P w) a vs:=MP ok (.inl e)
def MA{bp:List Key}(ok:eC P w H h)(e:H a=some (.tup (bp.map dN))):(tupleKind (hk P w)).is h bp a:=by
 obtain⟨_,its,r,o,ai,ao,n,bE⟩:=(show hn P w H h a (.tup (bp.map dN)) from ok a _ e);exact⟨o,its.toArray,n,ai,ao,bE,by simpa using R' r⟩
def MO{kvs:List (List Key×V)}(ok:eC P w H h)(e:eU H a (.mJ kvs)):kvs.length<=cA/\(a==sysModules)=false /\
  ∃xs,KT H kvs xs/\h.DictOfH (tupleKind (hk P w)) a xs:=by
 obtain⟨z,y,xs,r,o,es,ep,ai,ao,bE,c4,f'⟩:=(show hn P w H h a (.mJ kvs) from UI ok e);refine⟨z,y,xs,r,o,es,ep,ai,ao,bE,c4,λx hx=>?_,f'⟩;have all:∀{l:List (List Key×V)} {m:List (List Key×af×aj)},KT H l m->∀x∈m,(tupleKind (hk P w)).is h x.1 x.2.1:=by
  intro l m q
  induction q with
  |nil=>intro x hx;exact nomatch hx
  | @cons p q ps me bb t b1=>
   intro x hx;rcases cM.mp hx with e|hx
   ·subst e;exact MA ok (by rw[<- bb.1];exact bb.2.1)
   ·exact b1 x hx
 exact all r x hx
def al7{kvs:List (List Key×V)}(ok:eC P w H h)(e:H a=some (.mJ kvs)):kvs.length<=cA/\(a==sysModules)=false /\
  ∃xs,KT H kvs xs/\h.DictOfH (tupleKind (hk P w)) a xs:=MO ok (.inl e)
end
noncomputable def qM(H:aw)(a:af)(y:V)(r:Option V):Prop:=
 (∃kvs k,eU H a (.fo kvs)/\y=dN k/\r=lA kvs k)\/∃kvs k b,eU H a (.mJ kvs)/\y=.ref b/\H b=some (.tup (k.map dN))/\r=lA kvs k
noncomputable def sq(H:aw)(a:af)(y v:V)(ae:aw):Prop:=
 (∃kvs k,H a=some (.fo kvs)/\y=dN k/\kvs.length<cA/\ae=upd H a (.fo (putK kvs k v))) \/
 ∃kvs k b,H a=some (.mJ kvs)/\y=.ref b/\H b=some (.tup (k.map dN))/\kvs.length<cA/\ae=upd H a (.mJ (putK kvs k v))
theorem qM.k{H:aw}{a:af}{kvs:List (Key×V)}{k:Key}(e:H a=some (.fo kvs)):qM H a (dN k) (lA kvs k):=.inl ⟨kvs,k,.inl e,rfl,rfl⟩
theorem sq.k{H:aw}{a:af}{kvs:List (Key×V)}{k:Key}{v:V}(e:H a=some (.fo kvs))(aE:kvs.length<cA):sq H a (dN k) v (upd H a (.fo (putK kvs k v))):=.inl ⟨kvs,k,e,rfl,aE,rfl⟩
section
variable {X:aV}{ah:List (af×Obj)}{σ:St}{H:aw}{s:aH}{a:af}{y v:V}{u r:aj}{o:Option V}{A:cH}{E:aj->aH->Prop}
def Inv.big(I:Inv X ah σ H s):sysModules<s.heap.objs.size:=by
 have h:jf<s.heap.objs.size:=(I.mod.glob.keeps I.gx).lt;exact Nat.lt_trans (by decide) h
def Sj{Q:aj->aH->Prop}(cn:A.units+1<cLine)(I:Inv X ah σ H s)(g:qM H a y (some v))(bk:RelV y u)(h:∀fs s',Inv X ah σ H s'->RelV v fs->Q fs s'):
  bc (bu X.prog X.w) A (getItem (.ref a) u) Q E s:=by
 rcases g with ⟨kvs,k,e,e4,l⟩|⟨kvs,k,b,e,e4,dV,l⟩
 ·subst e4;obtain⟨z,hd,vs,rel,dd⟩:=MP I.bJ e;obtain⟨fs,hw,kl⟩:=kb.some_of (v:=v) (o:=valueAt vs k) (by rw[l];exact rel.val k);exact wpAny_getItem_of (DO bk) dd.mapOf hw (h fs _ (I.tok _) kl)
 ·subst e4;cases (show u=Value.ref b from bk);obtain⟨z,hd,xs,rel,dd⟩:=MO I.bJ e;obtain⟨fs,hw,kl⟩:=kb.some_of (v:=v) (o:=(atKey xs k).map (·.2)) (by rw[l];exact rel.val k);obtain⟨p,aN,sZ⟩:=dY.mp hw;refine wpAny_getItem_heap (tupleKind_room_in1 cn) (MA I.bJ dV) dd aN ?_;rw[sZ];exact h fs _ (I.tok _) kl
def TB{h':bz}{t':Nat}{dc:d7}(I:Inv X ah σ H s)(amH:wo (H a))(av:Heap.SameBut a s.heap h')(he:∃q,h'.get? a=some q)(new:hn X.prog X.w (upd H a dc) h' a dc):
  Inv X ah σ (upd H a dc) {s with heap:=h',toks:=t'}:=
 I.write (x:=a) (e:=a) amH (.inl rfl) (λb q aa z=>(av.2 b aa).trans z) he new
def alp{P:cC}{w:b6}{ae:aw}{h':bz}{kvs:List (Key×V)}{vs:List (Key×aj)}(z:kvs.length<=cA)(hd:(a==sysModules)=false)(rel:g9 kvs vs)(dd:h'.DictOf (hk P w) a vs):
  hn P w ae h' a (.fo kvs):=⟨z,hd,vs,rel,dd⟩
def Si{ae:aw}{Q:Unit->aH->Prop}(cn:A.units+1<cLine)(I:Inv X ah σ H s)(g:sq H a y v ae)(bk:RelV y u)(bR:RelV v r)(h:∀s',Inv X ah σ ae s'->Q () s'):
  bc (bu X.prog X.w) A (setItem (.ref a) u r) Q E s:=by
 rcases g with ⟨kvs,k,e,e4,l,wI⟩|⟨kvs,k,b,e,e4,dV,l,wI⟩
 ·subst e4 wI;obtain⟨z,hd,vs,rel,dd⟩:=al8 I.bJ e;have aq:vs.length<=cA:=by rw[<- rel.length];exact z
  have aE:(putK kvs k v).length<=cA:=by have:=Rk kvs k v;omega
  refine wpAny_setItem_pairs (hsz:=aq) (DO bk) dd λh' zq av=>h _ ?_
  have he:∃q,h'.get? a=some q:=let ⟨q,_,_,bb,_⟩:=zq;⟨q,bb⟩;exact TB I (by rw[e];exact True.intro) av he (alp aE hd (rel.put k bR) zq)
 ·subst e4 wI;cases (show u=Value.ref b from bk);obtain⟨z,hd,xs,rel,dd⟩:=al7 I.bJ e;have aq:xs.length<=cA:=by rw[<- Paired.length rel];exact z
  have aE:(putK kvs k v).length<=cA:=by have:=Rk kvs k v;omega
  refine wpAny_setItem_heap (hsz:=aq) (tupleKind_room_in1 cn) (MA I.bJ dV) dd λh' zq av=>h _ ?_
  obtain⟨q,es,ep,bb,ao,bE,c4,_,f'⟩:=zq;refine TB I (by rw[e];exact True.intro) av ⟨q,bb⟩ ⟨aE,hd,_,(rel.put k dV bR).keeps λc ys fe=>?_,q,es,ep,bb,ao,bE,c4,f'⟩;rw[cK (al2 fe e (λz=>nomatch z))];exact fe
end
noncomputable def Eb(i:bq):Prop:=∀eo kj,subscripted i false eo kj=operate [eo,kj] (getItem eo kj)
def ajN{prog:cC}{w:b6}{A:cH}{E:aj->aH->Prop}{s:aH}{env:Env}{value slice:bq}{pos:Pos}{T id:String}{Q:aj->aH->Prop}
  (aE:typeLookup (.type T) "__getitem__"=pure (some (.builtin id))) (av:Eb slice)
  (h:bc (bu prog w) A (eval value env) (λo c'=>bc (bu prog w) A (eval slice env) (λi jz=>jz.TypeIs o T/\bc (bu prog w) A (getItem o i) Q E jz) E c') E s):
  bc (bu prog w) A (eval (.Subscript value slice pos) env) Q E s:=by
 refine Subscript_ (eK h (λo c' eG=>eK eG (λi jz jV=>?_) λ_ _ x=>x) λ_ _ x=>x)
 obtain⟨ej,jV⟩:=jV;unfold subscriptTail;refine aR ?_;rw[getitemInPython_of_ne ej.not_modules];refine aR (wpAny_specialOf ej aE ?_);have fin:bc (bu prog w) A (subscripted slice false o i) (λr pj=>bc (bu prog w) A (letTemporaryGo value o r >>= λ_=>pure r) Q E pj) E jz:=by
  rw[av o i];exact wpAny_operating (eK jV (λr pj iw=>aR (wpAny_letTemporaryGo (cf iw))) λ_ _ x=>x)
 first
  |exact cf (aR fin)
  |exact aR (cf (aR fin))
  |exact aR fin
def ahs{X:aV}{ah:List (af×Obj)}{σ:St}{H:aw}{s:aH}{a:af}{y:V}{o:Option V}(I:Inv X ah σ H s)(g:qM H a y o):s.TypeIs (.ref a) "dict":=by
 rcases g with ⟨kvs,k,e,_,_⟩|⟨kvs,k,b,e,_,_,_⟩
 ·obtain⟨_,_,vs,_,dd⟩:=MP I.bJ e;exact dd.typeIs
 ·obtain⟨_,_,xs,_,dd⟩:=MO I.bJ e;exact dd.typeIs
noncomputable def alI(m5 ty:TE):TE:=λσ H Q=>m5 σ H λx H1=>ty σ H1 λy ba=>∃a v,x=.ref a/\qM ba a y (some v)/\Q v ba
noncomputable def alM(m5 ty iP:TE):f3:=λD σ H=>iP σ H λv H1=>m5 σ H1 λx ba=>ty σ ba λy d6=>∃a k7,x=.ref a/\sq d6 a y v k7/\D.bO σ k7
noncomputable def alN(m5 ty iP:TE)(kP:V->V->aw->c0->Prop):f3:=λD σ H=>m5 σ H λx H1=>ty σ H1 λy ba=>∃a v,x=.ref a/\qM ba a y (some v) /\
 iP σ ba λmq d6=>kP v mq d6 λz k7=>∃hQ,sq k7 a y z hQ/\D.bO σ hQ
section
variable {X:aV}{o i e value:bq}{pos pos' Kf:Pos}{m5 ty iP:TE}
def aj7(cn:X.A.units+1<cLine)(aF:bK X o m5)(aM:bK X i ty)(av:Eb i):bK X (.Subscript o i pos) (alI m5 ty):=by
 intro ah s σ H Q I h;refine ajN PySem.F.slot_dict_getitem.lookup av (cJ (aF ah s σ H _ I h) λu s1 ⟨x,H1,a',aS,aP⟩=>cJ (aM ah s1 σ H1 _ a' aP) λkj s2 ⟨y,ba,b5,bk,a,v,ex,g,a9⟩=>?_);subst ex;obtain rfl:u=Value.ref a:=aS;exact⟨ahs b5 g,Sj cn b5 g bk λfs s3 dI kl=>⟨v,ba,dI,kl,a9⟩⟩
def ajY(cn:X.A.units+1<cLine)(aF:bK X o m5)(aM:bK X i ty)(bo:bK X value iP)(av:amF value (some (.Subscript o i pos')) pos.line X.env=pure false):
  jr X (.Assign [.Subscript o i pos'] value pos) (alM m5 ty iP):=by
 intro ah s σ H D I h;refine wpAny_Assign_Subscript (cJ (bo ah s σ H _ I h) λr s1 ⟨v,H1,a',bR,aP⟩=>cJ (aF ah s1 σ H1 _ a' aP) λu s2 ⟨x,ba,b5,aS,a9⟩=>cJ (aM ah s2 σ ba _ b5 a9) λkj s3 ⟨y,d6,dI,bk,a,k7,ex,g,de⟩=>?_) av;subst ex;obtain rfl:u=Value.ref a:=aS;exact Si cn dI g bk bR λs4 jQ=>⟨σ,k7,jQ,de⟩
def ajZ{op:Operator}{kP:V->V->aw->c0->Prop}(cn:X.A.units+1<cLine)(aF:bK X o m5)(aM:bK X i ty)(bo:bK X value iP)(GZ:D5 X op kP)
  (aB:∀eo kj new,augStore i eo kj new=(do holding [new,eo,kj] (setItem eo kj new);release [new,eo,kj] [];pure .next)):jr X (.AugAssign (.Subscript o i Kf) op value pos) (alN m5 ty iP kP):=by
 intro ah s σ H D I h;refine wpAny_AugAssign_SubscriptAny (cJ (aF ah s σ H _ I h) λu s1 ⟨x,H1,a',aS,aP⟩=>cJ (aM ah s1 σ H1 _ a' aP) λkj s2 ⟨y,ba,b5,bk,a,v,ex,g,a9⟩=>?_) aB;subst ex;obtain rfl:u=Value.ref a:=aS;refine Sj cn b5 g bk λfs s3 dI kl=>cJ (bo ah s3 σ ba _ dI a9) λxM s4 ⟨mq,d6,jQ,aeD,de⟩=>cJ (GZ ah s4 σ d6 v mq fs xM _ jQ kl aeD de) λrG s5 ⟨z,k7,nA,JY,hQ,mP,jZ⟩=>?_;exact Si cn nA mP bk JY λj0 qO=>⟨σ,hQ,qO,jZ⟩
end
end a7
end
section
namespace D
open PySem PySem.Spec PyProof.Rows a7
variable [cI]
section
variable {K:a6}{F:af->Prop}{H:aw}
theorem ei.get{k:D.Key}{t:T}:∀{kvs:List (D.Key×T)} {vs:List (D.Key×V)},ei K F H kvs vs->D.getD kvs k=some t->∃v,lA vs k=some v/\Rep K F H t v
| [],vs,h,e=>by cases e
|p::r,vs,h,e=>by
  obtain⟨v,w,rfl,q,z⟩:=h;simp only[D.getD,lA,qq] at e ⊢;by_cases bP:p.1=k
  ·simp[bP] at e ⊢;subst e;exact q
  ·simp[bP] at e ⊢;have:=ei.get (k:=k) (t:=t) z (by simpa [D.getD] using e);simpa [lA] using this
theorem ei.length:∀{kvs:List (D.Key×T)} {vs:List (D.Key×V)},ei K F H kvs vs->kvs.length=vs.length
| [],vs,h=>by
  have:vs=[]:=h;subst this;rfl
|p::r,vs,h=>by
  obtain⟨v,w,rfl,q,z⟩:=h;simp[ei.length z]
theorem ei.append:∀{kvs us:List (D.Key×T)} {vs ws:List (D.Key×V)},ei K F H kvs vs->ei K F H us ws->ei K F H (kvs++us) (vs++ws)
| [],us,vs,ws,h,r=>by
  have:vs=[]:=h;subst this;exact r
|p::q,us,vs,ws,h,r=>by
  obtain⟨v,w,rfl,el,z⟩:=h;exact⟨v,w++ws,rfl,el,ei.append z r⟩
theorem ei.I4{k:D.Key}{t:T}{v:V}:∀{kvs:List (D.Key×T)} {vs:List (D.Key×V)},ei K F H kvs vs->Rep K F H t v->ei K F H (kvs.map λp=>if p.1=k then (k,t) else p) (vs.map λdJ=>if dJ.1=k then (dJ.1,v) else dJ)
| [],vs,h,q=>by
  have:vs=[]:=h;subst this;rfl
|p::r,vs,h,q=>by
  obtain⟨je,w,rfl,el,z⟩:=h;simp only[dr];by_cases e:p.1=k
  ·rw[if_pos e,if_pos e];exact⟨v,_,by rw[e],q,ei.I4 z q⟩
  ·rw[if_neg e,if_neg e];exact⟨je,_,rfl,el,ei.I4 z q⟩
def ei.put{k:D.Key}{t:T}{v:V}{kvs:List (D.Key×T)}{vs:List (D.Key×V)}(h:ei K F H kvs vs)(q:Rep K F H t v):ei K F H (putD kvs k t) (putK vs k v):=by
 have aB:(kvs.any λp=>decide (p.1=k))=(vs.any λdJ=>decide (dJ.1=k)):=by
  clear q
  induction kvs generalizing vs with
  |nil=>
   have:vs=[]:=h;subst this;rfl
  |cons p r b1=>
   obtain⟨v,w,rfl,el,z⟩:=h;simp only[List.any_cons,b1 z]
 unfold putD putK;rw[aB];split
 ·exact ei.I4 h q
 ·exact h.append ⟨v,[],rfl,q,rfl⟩
def uf{t:T}{k:D.Key}{v:V}{O:af->Prop}(e:ib t=some k)(r:gv K O F H t v):v=dN k:=by
 unfold ib at e;split at e
 ·cases e
  exact r.int
 ·cases e
  exact r.str
 ·cases e
end
end D
end
section
namespace D
open PySem
variable [cI]
end D
end
section
namespace D
open PySem PySem.Spec PyProof.Rows a7
section
variable [cI]
theorem Ua{α β:Type}{R:α->β->Prop}:∀{l:List α} {bp:List β},Paired R l bp->l.length=bp.length
|_,_,.nil=>rfl
|_,_,.cons a b=>by simp[Ua b]
section
variable {prog:cC}{w:b6}{K:Type}[DecidableEq K](knd:PySem.KeyKind prog w K)
variable {knd}{A:cH}{E:aj->aH->Prop}{s:aH}
noncomputable def uB(knd:PySem.KeyKind prog w K)(v:aj)(k:K):Prop:=knd.is k v=true/\v.scannable=true
end
end
section
variable [cI]
section
variable {prog:cC}{w:b6}{K:Type}[DecidableEq K]{knd:PySem.KeyKind prog w K}{A:cH}{E:aj->aH->Prop}{s:aH}{a:af}{bp:List K}
def ahu{R:List aj->aH->Prop}{T:String}{r d:af}{n:Nat}{P:Nat->aj->Prop}{sv:bz->Prop}(W:PySem.W.KdlSrc prog w T r d n P sv)(cD:A.handled=none)(bJ:sv s.heap)(a5:n<=cA)
  (h:∀(h':bz) (tk:Nat) (acc:Array aj),(∀b o,s.heap.get? b=some o->h'.get? b=some o)->s.heap.objs.size<=h'.objs.size->ItemsOf P acc n->R acc.toList {s with heap:=h',toks:=tk}):
  bc (bu prog w) A (collect (.ref r)) R E s:=by
 have e1:=W.there _ bJ;unfold collect;refine aR (wpAny_runValue (tL entry_proto_collect' ?_));rw[vm PySem.F.plain_proto_collect _];show bc _ A.in1 (newList [] >>= λl=>again (.builtin "list.__iadd__" ⟨[l,.ref r],[]⟩)) _ _ s;refine aR (qt ?_);refine cf ⟨plainId_quiet PySem.F.plain_list_iadd _,tL entry_list_iadd' ?_⟩;rw[vm PySem.F.plain_list_iadd _];have ZN:(s.heap.push {cls:=.type "list",data:=.seq ([]:List aj).toArray}).get? s.heap.objs.size=some {cls:=.type "list",data:=.seq #[]}:=gI _ rfl;show bc _ A.in1 (Builtin.List.listExtendWith (.ref s.heap.objs.size) (.ref r) (.ref s.heap.objs.size)) _ _ _;have key:=PySem.W.kdl_extend (A:=A) (s:={s with heap:=s.heap.push {cls:=.type "list",data:=.seq ([]:List aj).toArray} })
  (R:=λ(q:Result) (s':aH)=>∃(h':bz) (tk:Nat) (qS:Array aj) (bW:Nat),q=.ok (.ret (.ref s.heap.objs.size))/\s'={s with heap:=h',toks:=tk} /\
   (∀b o,s.heap.get? b=some o->h'.get? b=some o)/\h'.get? s.heap.objs.size=some {cls:=.type "list",dict:=none,data:=.seq qS bW,slots:=#[]}/\ItemsOf P qS n)
  W cD (W.keep _ _ bJ λb _ o e=>cZ _ e) s.heap.objs.size (hI e1.1) (hI e1.2) (.ref s.heap.objs.size) 0 ZN
  (λh' tk qS bW aK sS l8=>⟨h',tk,qS,bW,rfl,rfl,λb o e=>aK b o (ez (cT e)) (cZ _ e),sS,l8⟩) a5
 refine eK key (λfin s' x=>?_) λe s' x=>?_
 ·cases fin with
  |done f=>
   obtain⟨h',tk,qS,bW,e,rfl,aK,sS,l8⟩:=x;cases e;show bc _ A (load s.heap.objs.size >>= _) _ _ _;refine aR (wpAny_load sS ?_);exact cf (h h' tk qS aK (Nat.le_of_lt (cT sS)) l8)
  |again c₁=>
   refine⟨x.1,pw x.2 λq jz y=>?_⟩
   obtain⟨h',tk,qS,bW,rfl,rfl,aK,sS,l8⟩:=y;show bc _ A (load s.heap.objs.size >>= _) _ _ _;refine aR (wpAny_load sS ?_);exact cf (h h' tk qS aK (Nat.le_of_lt (cT sS)) l8)
 ·obtain⟨_,_,_,_,bP,_⟩:=x;cases bP
end
end
section
variable [cI]
theorem KW{α:Type}{r:α->α->Prop}(Nh:∀a b,r a b->r b a->a=b):∀{l m:List α},l.Perm m->l.Pairwise r->m.Pairwise r->l=m
| [],m,p,_,_=>(List.Perm.nil_eq p)
|a::l,m,p,ai,ao=>by
  cases m with
  |nil=>exact absurd p.length_eq (by simp)
  |cons b m=>
   have ZO:a=b:=by
    have aB:a∈b::m:=p.mem_iff.mp (by simp);have aa:b∈a::l:=p.mem_iff.mpr (by simp);rcases cM.mp aB with q|q
    ·exact q
    ·rcases cM.mp aa with z|z
     ·exact z.symm
     ·exact Nh a b ((m_.mp ai).1 b z) ((m_.mp ao).1 a q)
   subst ZO;rw[KW Nh (List.perm_cons a |>.mp p) (m_.mp ai).2 (m_.mp ao).2]
theorem Lz(x:Int):∀l:List Int,(insI x l).Perm (x::l)
| []=>.rfl
|y::ys=>by
  unfold insI;split
  ·exact .rfl
  ·exact ((Lz x ys).cons y).trans (.swap _ _ _)
theorem CE:∀l:List Int,(r' l).Perm l
| []=>.rfl
|x::xs=>(Lz x _).trans ((CE xs).cons x)
theorem Tx(x:Int):∀{l:List Int},l.Pairwise (·<=·)->(insI x l).Pairwise (·<=·)
| [],_=>by simp[insI]
|y::ys,h=>by
  unfold insI;have h':=m_.mp h;split
  next q=>exact m_.mpr ⟨λz aq=>by
   rcases cM.mp aq with rfl|aq
   ·exact q
   ·exact Int.le_trans q (h'.1 z aq),h⟩
  next q=>exact m_.mpr ⟨λz aq=>by
   rcases cM.mp ((Lz x ys).mem_iff.mp aq) with rfl|aq
   ·omega
   ·exact h'.1 z aq,Tx x h'.2⟩
theorem LL:∀l:List Int,(r' l).Pairwise (·<=·)
| []=>.nil
|x::xs=>Tx x (LL xs)
def SM{l m:List Int}(p:l.Perm m)(h:l.Pairwise (·<=·)):l=r' m:=KW (λa b ai ao=>Int.le_antisymm ai ao) (p.trans (CE m).symm) h (LL m)
def ahf{l m:List Int}(p:l.Perm m):r' l=r' m:=SM ((CE l).trans p) (LL l)
abbrev ja(x y:Str):Prop:=ia y x=false
def aiP(x y:Str):ia x y=ltCps x.cps.toList y.cps.toList:=(ltCps_eq _ _).symm
def ah_{x y:Str}(h:ia x y=true):ja x y:=by
 unfold ja ia at *;simp only[decide_eq_true_eq,decide_eq_false_iff_not] at *;exact List.lt_asymm h
def RX{x y z:Str}(ai:ja x y)(ao:ja y z):ja x z:=by
 unfold ja ia at *;simp only[decide_eq_false_iff_not] at *;exact List.not_lt.mpr (List.le_trans (List.not_lt.mp ai) (List.not_lt.mp ao))
def aiY{x y:Str}(ai:ja x y)(ao:ja y x):x=y:=by
 unfold ja ia at *;simp only[decide_eq_false_iff_not] at *;have e:x.cps.toList=y.cps.toList:=List.le_antisymm (List.not_lt.mp ai) (List.not_lt.mp ao);cases x;cases y;simp only[Array.toList_inj] at e;exact congrArg _ e
theorem Ly(x:Str):∀l:List Str,(s_ x l).Perm (x::l)
| []=>.rfl
|y::ys=>by
  unfold s_;split
  ·exact .rfl
  ·exact ((Ly x ys).cons y).trans (.swap _ _ _)
theorem vD:∀l:List Str,(amG l).Perm l
| []=>.rfl
|x::xs=>(Ly x _).trans ((vD xs).cons x)
theorem Tw(x:Str):∀{l:List Str},l.Pairwise ja->(s_ x l).Pairwise ja
| [],_=>by simp[s_]
|y::ys,h=>by
  unfold s_;have h':=m_.mp h;split
  next q=>
   have el:ja x y:=by simpa [ja] using q
   exact m_.mpr ⟨λz aq=>by
    rcases cM.mp aq with rfl|aq
    ·exact el
    ·exact RX el (h'.1 z aq),h⟩
  next q=>
   have el:ia y x=true:=by simpa using q
   exact m_.mpr ⟨λz aq=>by
    rcases cM.mp ((Ly x ys).mem_iff.mp aq) with rfl|aq
    ·exact ah_ el
    ·exact h'.1 z aq,Tw x h'.2⟩
theorem LK:∀l:List Str,(amG l).Pairwise ja
| []=>.nil
|x::xs=>Tw x (LK xs)
def SK{l m:List Str}(p:l.Perm m)(h:l.Pairwise ja):l=amG m:=KW (λa b ai ao=>aiY ai ao) (p.trans (vD m).symm) h (LK m)
def ahe{l m:List Str}(p:l.Perm m):amG l=amG m:=SK ((vD l).trans p) (LK l)
theorem Rz:∀(l:List Str) (p:Str),risingS p l=true->(p::l).Pairwise ja
| [],p,_=>by simp
|x::r,p,h=>by
  simp only[risingS,iV,Bool.not_eq_true'] at h;have b1:=Rz r x h.2;have O5:ja p x:=by
   unfold ja;rw[aiP];exact h.1
  refine m_.mpr ⟨λz aq=>?_,b1⟩
  rcases cM.mp aq with rfl|aq
  ·exact O5
  ·exact RX O5 ((m_.mp b1).1 z aq)
def ahC{l:List Str}(h:sortedS l=true):l.Pairwise ja:=by
 cases l with
|nil=>exact .nil
|cons x r=>exact Rz r x h
end
section
variable [cI]
section
variable {prog:cC}{w:b6}{A:cH}{E:aj->aH->Prop}{s:aH}
inductive wx:List aj->List aj->Prop where
|Jz {vs out:List aj} {ns:List Int}:IntsAre vs ns->IntsAre out (r' ns)->wx vs out
|JA {vs out:List aj} {ss:List Str}:StrsAre vs ss->StrsAre out (amG ss)->wx vs out
noncomputable def L0(vs:List aj):Prop:=vs.length<64/\((∃ns,IntsAre vs ns)\/∃ss,StrsAre vs ss)
def agO{h:bz}{a:af}{vs:List aj}{n:Nat}{out:Array aj}(aF:h.get? a=some (seqObj "list" vs.toArray n)):
  (∃e,(sortedHeap h a vs out).get? a=some (seqObj "list" out e))/\∀b o,b≠a->h.get? b=some o->(sortedHeap h a vs out).get? b=some o:=by
 have e1:=cT aF;unfold sortedHeap;refine⟨?_,λb o aa e=>?_⟩
 ·have ai:=get?_update_seq aF (λ_=>(#[]:Array aj));have ao:=cZ (seqObj "tuple" vs.toArray 0) ai;have bE:=cZ (seqObj "list" #[] 0) ao;exact⟨_,get?_update_seq bE (λ_=>out)⟩
 ·rw[BR _ _ (Ne.symm aa)];exact cZ _ (cZ _ ((BR _ _ (Ne.symm aa)).trans e))
def ah6{a:af}{vs:List aj}{n:Nat}{P:Fin->aH->Prop}(aF:s.heap.get? a=some (seqObj "list" vs.toArray n))(av:L0 vs)
  (h:∀out:Array aj,wx vs out.toList->P (.done (.ret .none)) {s with heap:=sortedHeap s.heap a vs out}):bc (bu prog w) A (Builtin.«list.sort» ⟨[.ref a],[]⟩) P E s:=by
 obtain⟨OH,⟨ns,q9⟩|⟨ss,fh⟩⟩:=av
 ·refine list_sort_tree aF q9 OH λout Ju a1 a2 d0=>h out (.Jz q9 ?_)
  rw[<- SM a2 d0];exact a1
 ·refine list_sort_treeK strKind_oneLt aF fh.keysOf (λamA amB rest e=>keyKind_strs (by rw[<- e];exact fh)) OH λn2 aN av=>?_
  obtain⟨J5,ai,ao,bE⟩:=sorted_out_str fh aN av;refine h _ (.JA fh ?_);rw[<- SK ao (ahC bE)];exact ai
def ahd{r:af}{C:List aj->Prop}{Q:aj->aH->Prop}
  (Z5:∀(lW:aj->aH->Prop) (R:List aj->aH->Prop),(∀h' tk d vs,(∀b o,s.heap.get? b=some o->h'.get? b=some o)->s.heap.objs.size<=h'.objs.size->C vs->R vs {s with heap:=h',toks:=tk,drawn:=d})->bc (bu prog w) A.in1 (collect (.ref r)) R lW s)
  (Gs:∀vs,C vs->L0 vs)
  (h:∀h' tk d D e vs out,C vs->wx vs out->(∀b o,s.heap.get? b=some o->h'.get? b=some o)->s.heap.objs.size<=D->h'.get? D=some (seqObj "list" out.toArray e)->Q (.ref D) {s with heap:=h',toks:=tk,drawn:=d}):
  bc (bu prog w) A (call (.builtin "sorted") [.ref r]) Q E s:=by
 refine Calls.call_function_entry kind_sorted plain_sorted entry_sorted (args_sorted1 _) ?_
 unfold Builtin.«sorted»;refine aR (m:=checkCount "sorted" 1 1 _) (cf ?_);refine aR (Z5 _ _ λh' tk d vs az hsz c=>?_);have av:=Gs vs c;have aq:vs.length<=cA:=by
  have:=av.1;rw[nc];omega
 refine aR (wpAny_newList ?_ aq)
 have rh:(h'.push (seqObj "list" vs.toArray 0)).get? h'.objs.size=some (seqObj "list" vs.toArray 0):=gI _ rfl;refine aR (mv (px slot_list_sort ⟨_,rh,rfl⟩ entry_list_sort (ah6 rh av λout vf=>⟨_,rfl,?_⟩) (args_list_sort _)));obtain⟨⟨e,he⟩,aK⟩:=agO (out:=out) rh;refine cf ⟨_,rfl,?_⟩;exact h _ tk d h'.objs.size e vs out.toList c vf (λb o q=>aK b o (ez (cT (az b o q))) (cZ _ (az b o q))) hsz he
end
section
variable {X:aV}{ah:List (af×Obj)}{σ:a7.St}{H:aw}{s:aH}
def Lw{a:af}{o:d7}{t':Nat}{d':Drawn}{h':bz}(I:Inv X ah σ H s)(k:∀b u,s.heap.get? b=some u->h'.get? b=some u)(aN:s.heap.objs.size<=a)(new:hn X.prog X.w (upd H a o) h' a o):
  Inv X ah σ (upd H a o) {s with heap:=h',toks:=t',drawn:=d'}:=
 I.call (ch:=[]) (g':=s.gens) (fU.laid k aN (I.bJ.fresh aN)) (I.bJ.laid k aN new) I.bare λ_ z=>nomatch z
theorem Lx:∀{us:List aj} {ns:List Int},IntsAre us ns->Vals (ns.map V.int) us
|_,_,.nil=>.nil
|_,_,.cons n t r=>.cons ⟨t,rfl⟩ (Lx r)
theorem Lm:∀{us:List aj} {ss:List Str},StrsAre us ss->Vals (ss.map V.str) us
|_,_,.nil=>.nil
|_,_,.cons n t r=>.cons ⟨t,rfl⟩ (Lm r)
theorem Lk:∀{us:List aj} {bp:List a7.Key},Vals (bp.map dN) us->Paired (uB (hk X.prog X.w)) us bp
| [],[],_=>.nil
|_,.inl i::bp,.cons r rs=>by
  obtain⟨t,rfl⟩:=r;exact .cons ⟨Rh _ _ i t,rfl⟩ (Lk rs)
|_,.inr x::bp,.cons r rs=>by
  obtain⟨t,rfl⟩:=r;exact .cons ⟨Rg _ _ x t,rfl⟩ (Lk rs)
theorem Lv:∀{us:List aj} {bp:List a7.Key} {ns:List Int},Paired (uB (hk X.prog X.w)) us bp->bp=ns.map Sum.inl->IntsAre us ns
|_,_,[],.nil,_=>.nil
|_,_,n::ns,.cons a b,e=>by
  cases e
  have a1:=a.1;rw[RJ] at a1;rcases oh a1 with ⟨i,t,aD,rfl⟩|⟨x,t,aD,rfl⟩
  ·cases aD
   exact .cons _ t (Lv b rfl)
  ·cases aD
theorem Ls:∀{us:List aj} {bp:List a7.Key} {ss:List Str},Paired (uB (hk X.prog X.w)) us bp->bp=ss.map Sum.inr->StrsAre us ss
|_,_,[],.nil,_=>.nil
|_,_,n::ns,.cons a b,e=>by
  cases e
  have a1:=a.1;rw[RJ] at a1;rcases oh a1 with ⟨i,t,aD,rfl⟩|⟨x,t,aD,rfl⟩
  ·cases aD
  ·cases aD
   exact .cons _ t (Ls b rfl)
def Cn{α β:Type}(f:α->β):∀{l:List α} {m:List β},m.Perm (l.map f)->∃o7:List α,m=o7.map f/\o7.Perm l:=by
 intro l m p;generalize hx:l.map f=lf at p
 induction p generalizing l with
|nil=>
  rw[List.map_eq_nil_iff] at hx;subst hx;exact⟨[],rfl,.rfl⟩
|cons x _ b1=>
  cases l with
  |nil=>cases hx
  |cons a r=>
   simp only[dr,List.cons.injEq] at hx;obtain⟨o7,e,q⟩:=b1 hx.2;exact⟨a::o7,by rw[dr,hx.1,e],q.cons a⟩
|swap x y r=>
  match l,hx with
  |a::b::cq,hx=>
   simp only[dr,List.cons.injEq] at hx;exact⟨b::a::cq,by rw[dr,dr,hx.1,hx.2.1,hx.2.2],.swap _ _ _⟩
|trans _ _ bX b4=>
  obtain⟨cg,aD,aP⟩:=b4 hx;obtain⟨ck,aL,a9⟩:=bX aD.symm;exact⟨ck,aL,a9.trans aP⟩
noncomputable def DH(bp:List a7.Key)(ys:List V):Prop:=(∃ns:List Int,bp=ns.map Sum.inl/\ys=(r' ns).map V.int)\/∃ss:List Str,bp=ss.map Sum.inr/\ys=(amG ss).map V.str
def aiS{vs out:List aj}{bp xh:List a7.Key}{ys:List V}(bo:Paired (uB (hk X.prog X.w)) vs xh)(aN:xh.Perm bp)(vf:wx vs out)(aK:DH bp ys):Vals ys out:=by
 rcases aK with ⟨ns,rfl,rfl⟩|⟨ss,rfl,rfl⟩
 ·obtain⟨Ju,rfl,l9⟩:=Cn Sum.inl aN;have q9:=Lv bo rfl;cases vf with
  |Jz a b=>
   rename_i ms
   rw[<- ahf l9,show Ju=ms from ?_]
   ·exact Lx b
   ·rw[<- IntsAre.numsOf q9,<- IntsAre.numsOf a]
  |JA a b=>
   cases a with
   |nil=>
    cases q9
    have:ns=[]:=List.Perm.eq_nil l9.symm;subst this;exact Lm b
   |cons x t _=>cases q9
 ·obtain⟨J5,rfl,l9⟩:=Cn Sum.inr aN;have fh:=Ls bo rfl;cases vf with
  |JA a b=>
   rename_i ms
   rw[<- ahe l9,show J5=ms from ?_]
   ·exact Lm b
   ·rw[<- StrsAre.strs fh,<- StrsAre.strs a]
  |Jz a b=>
   cases a with
   |nil=>
    cases fh
    have:ss=[]:=List.Perm.eq_nil l9.symm;subst this;exact Lx b
   |cons x t _=>cases fh
def agR{vs:List aj}{bp xh:List a7.Key}{ys:List V}(aq:bp.length<64)(bo:Paired (uB (hk X.prog X.w)) vs xh)(aN:xh.Perm bp)(aK:DH bp ys):L0 vs:=by
 refine⟨by rw[Ua bo,aN.length_eq];exact aq,?_⟩
 rcases aK with ⟨ns,rfl,_⟩|⟨ss,rfl,_⟩
 ·obtain⟨Ju,rfl,_⟩:=Cn Sum.inl aN;exact .inl ⟨_,Lv bo rfl⟩
 ·obtain⟨J5,rfl,_⟩:=Cn Sum.inr aN;exact .inr ⟨_,Ls bo rfl⟩
def ah7{bp:List a7.Key}{ys:List V}(h:DH bp ys):ys.length=bp.length:=by
 rcases h with ⟨ns,rfl,rfl⟩|⟨ss,rfl,rfl⟩
 ·simp[(CE ns).length_eq]
 ·simp[(vD ss).length_eq]
theorem Ts:∀{kvs:List (a7.Key×V)} {vs:List (a7.Key×aj)},g9 kvs vs->kvs.map (·.1)=vs.map (·.1)
|_,_,.nil=>rfl
|_,_,.cons a b=>by simp[a.1,Ts b]
def ag9(au:X.calm=true):lR X (.builtin "sorted") (λxs H Q=>∃p bp ys,xs=[.ref p]/\fH X.K H p (bp.map dN)/\bp.length<64/\DH bp ys/\∀l,H l=none->Q (.ref l) (upd H l (.lst ys))):=by
 intro ah s σ H xs us Q I r h;obtain⟨p,bp,ys,rfl,bb,aq,aK,q⟩:=h;obtain⟨u,rfl,aS⟩:=v7 r;cases aS;obtain⟨its,cq,pl,l'⟩:=I.list bb;have hlen:=cq.length;rw[hi] at hlen;have hit:Paired (uB (hk X.prog X.w)) its bp:=Lk (by simpa using cq);refine ahd (C:=λus=>us=its) (λlW R sR=>collect_list pl.isList (sR _ s.toks s.drawn its (λb o e=>?_) ?_ rfl) (by rw[nc];omega)) (λus cn=>by subst cn;exact agR aq hit .rfl aK) λh' tk d D e us out cn vf az kL he=>?_
 ·exact (BR _ _ (hI (cT e))).trans (cZ _ e)
 ·rw[Heap.size_update,kp];exact mu _
 ·subst cn;exact⟨.ref D,_,Lw I (o:=.lst ys) az kL ⟨by rw[ah7 aK,nc];omega,out,e,aiS hit .rfl vf aK,he⟩,rfl,q _ (I.bJ.fresh kL)⟩
end
end
section
variable [cI]
theorem Ln:∀{ts:List T} {ss:List Str},um ts=some ss->ts=ss.map .str
| [],ns,e=>by
  cases e
  rfl
|t::ts,ns,e=>by
  unfold um at e;split at e
  ·rename_i h
   cases h
  ·rename_i h
   cases h
   simp only[dY] at e;obtain⟨r,aD,rfl⟩:=e;rw[Ln aD];rfl
  ·cases e
section
variable {K:a6}{F:af->Prop}{H:aw}
theorem RY:∀(ns:List Int),bl K F H (ns.map .int) (ns.map V.int)
| []=>bl.nil
|n::ns=>bl.cons (by simp[Rep]) (RY ns)
theorem Lo:∀(ns:List Str),bl K F H (ns.map .str) (ns.map V.str)
| []=>bl.nil
|n::ns=>bl.cons (by simp[Rep]) (Lo ns)
theorem Lc:∀{ns:List Str} {vs:List V},bl K F H (ns.map .str) vs->vs=ns.map V.str
| [],vs,h=>by simpa [bl] using h
|n::ns,vs,h=>by
  simp only[dr,bl,Rep] at h;obtain⟨v,r,rfl,rfl,z⟩:=h;rw[Lc z];rfl
end
end
section
variable [cI]
section
variable {X:aV}{a b e:bq}{es rest:List bq}{f g:bH}{aA:List bH}{p eY pos mX:Pos}
def Mu{op:BoolOp}(h:cQ X a f):cQ X (.BoolOp op [a] pos) f:=T9 h
def alS{op:BoolOp}(h:cQ X a f):cQ X (.BoolOp op [a] pos) f:=T9 h
def MJ(aB:cQ X a f)(aa:cQ X (.BoolOp .And (b::rest) pos) g):cQ X (.BoolOp .And (a::b::rest) pos) (nE f g):=ee (ak9 aB aa) λσ H Q ⟨aC,aT,O,F,ε,t,r,e,k⟩=>by
 simp only[nE,cz] at e;obtain⟨x,ex,e⟩:=e;refine⟨aC,aT,O,F,ε,x,r,ex,λv aY H1 aO aS=>?_⟩;split at e
 ·simp only[Rep] at aS;refine⟨true,aS,?_⟩;rw[if_pos rfl];exact⟨aC,aT,O,aY,ε,t,r.ext aO,e,λv aG ae bZ q=>k v aG ae (aO.trans bZ) q⟩
 ·cases e
  simp only[Rep] at aS;refine⟨false,aS,?_⟩;rw[if_neg (by decide)];exact k _ aY H1 aO (by simp[Rep])
 ·cases e
def aeo(aB:cQ X a f)(aa:cQ X (.BoolOp .Or (b::rest) pos) g):cQ X (.BoolOp .Or (a::b::rest) pos) (xu f g):=ee (alY aB aa) λσ H Q ⟨aC,aT,O,F,ε,t,r,e,k⟩=>by
 simp only[xu,cz] at e;obtain⟨x,ex,e⟩:=e;refine⟨aC,aT,O,F,ε,x,r,ex,λv aY H1 aO aS=>?_⟩;split at e
 ·simp only[Rep] at aS;refine⟨false,aS,?_⟩;rw[if_neg (by decide)];exact⟨aC,aT,O,aY,ε,t,r.ext aO,e,λv aG ae bZ q=>k v aG ae (aO.trans bZ) q⟩
 ·cases e
  simp only[Rep] at aS;refine⟨true,aS,?_⟩;rw[if_pos rfl];exact k _ aY H1 aO (by simp[Rep])
 ·cases e
noncomputable def BA(K:a6)(f:Ev->Option (Option Int)):cj:=λσ H Q=>∃aC aT O F ε i,cx K aC aT O F H ε σ/\f ε=some i/\∀aG ae,Ext F H aG ae->Q i ae
def Ux{x:Option bq}{t t':cj}(h:oJ X x t)(k:∀σ H Q,t' σ H Q->t σ H Q):oJ X x t':=λah s σ H Q I q=>h ah s σ H Q I (k σ H Q q)
def zev:oJ X none (BA X.K optN):=Ux aj1 λσ H Q ⟨aC,aT,O,F,ε,i,r,e,k⟩=>by
 cases e
 exact k F H (Ext.refl r.cp)
def vX(h:eT X a f):oJ X (some a) (BA X.K (opt f)):=Ux (aj0 h) λσ H Q ⟨aC,aT,O,F,ε,i,r,e,k⟩=>by
 simp only[opt,cz] at e;obtain⟨x,ex,e⟩:=e;refine⟨aC,aT,O,F,ε,x,r,ex,λv aY H1 aO aS=>?_⟩;split at e
 ·cases e
  exact⟨_,aS.int,k aY H1 aO⟩
 ·cases e
noncomputable def aew(K:a6):V->Option Int->Option Int->aw->c0->Prop:=λx lo aM H Q=>∃a xs,x=.ref a/\c3 K H a xs/\(fx.cX xs.length 0 lo=0/\fx.cX xs.length xs.length aM=xs.length)/\Q (.ref a) H
def agh{prog:cC}{w:b6}{A:cH}{E:aj->aH->Prop}{s:aH}{t cB:af}{items:Array aj}{g4 e9:aj}{lo aM:Option Int}{Q:aj->aH->Prop}(bh:IsTup s.heap t items)(av:s.heap.IsSliceOf cB g4 e9 .none)(pl:IsPart g4 lo)(pu:IsPart e9 aM)
  (hw:fx.cX items.size 0 lo=0/\fx.cX items.size items.size aM=items.size) (h:Q (.ref t) s):bc (bu prog w) A (getItem (.ref t) (.ref cB)) Q E s:=by
 obtain⟨os,qb,Ad,wX⟩:=id av;have GA:s.TypeIs (.ref cB) "slice":=⟨os,qb,Ad⟩;unfold getItem
 try with_reducible refine mv ?_
 first|refine aR (cf ?_)|skip
 refine aR (wpAny_sequenceKey bh.typeIs (by decide) ?_)
 refine aR (qs (name:=Str.ofString "__getitem__") bh.typeIs BL
  (px BL bh.typeIs entry_tuple_getitem ?_ (args_tuple_getitem _ _)))
 show bc _ _ (Builtin.Tuple.tupleItemsOf (.ref t) >>= _) _ _ s
 refine aR (tupleItemsOf_ bh ?_)
 refine aR (wpAny_typeOf GA ?_)
 rw[if_pos (by decide)];refine aR (fx.P5 av pl pu ?_);rw[hw.1,hw.2];show bc _ _ (if (((0:Nat):Int)==0 && (1:Int)==1 && (items.size - 0)==items.size)=true then _ else _) _ _ s;rw[if_pos (by simp)];unfold Builtin.Tuple.tupleIsExact;refine aR (aR (wpAny_typeOf bh.typeIs (cf ?_)));rw[if_pos (by decide)];refine aR (wpAny_rule ?_);exact cf ⟨_,rfl,cf h⟩
def aiU:qR X (aew X.K):=by
 intro ah s σ H x v g4 e9 lo aM cB Q I aS av pl pu h;obtain⟨a,xs,rfl,hx,hw,q⟩:=h;cases aS;obtain⟨its,r,bh,aq⟩:=I.tuple hx;have hlen:its.toArray.size=xs.length:=by rw[d4];exact r.length.symm
 refine⟨"tuple",_,PyProof.Rows.slot_tuple_getitem.lookup,bh.typeIs,?_⟩
 exact agh bh av pl pu (by rw[hlen];exact hw) ⟨.ref a,H,I,rfl,q⟩
def akT(n d:Nat)(o:Option Int):D.cX n d o=fx.cX n d o:=by
 cases o with
|none=>rfl
|some v=>
  unfold D.cX fx.cX;dsimp only;split <;> omega
def LP{K:a6}{F:af->Prop}{H:aw}{ts:List T}{vs:List V}(h:bl K F H ts vs)(lo aM:Option Int):bl K F H (mI ts lo aM) (nK vs lo aM):=by
 unfold mI nK;simp only[akT,h.length];exact (h.drop _).take _
def vL{lo aM:Option bq}{dE OE:Ev->Option (Option Int)}(aB:eT X e f)(aE:oJ X lo (BA X.K dE))(cn:oJ X aM (BA X.K OE)):cQ X (.Subscript e (.Slice lo aM none eY) pos) (slice f dE OE):=ee (ai8 ((akO.or aiU).or ajO) aB aE cn) λσ H Q ⟨aC,aT,O,F,ε,t,r,e,k⟩=>by
 simp only[slice,cz] at e;obtain⟨x,ex,l,iq,h,ht,e⟩:=e;refine⟨aC,aT,O,F,ε,x,r,ex,λv aY H1 aO aS=>⟨aC,aT,O,aY,ε,l,r.ext aO,iq,λdH ba bZ=>⟨aC,aT,O,dH,ε,h,(r.ext aO).ext bZ,ht,λk4 d6 fD=>?_⟩⟩⟩;have Kl:=bZ.trans fD;have qn:=aO.trans Kl;unfold Bc at e;split at e
 ·cases e
  obtain⟨a,vs,rfl,av,ax⟩:=(aS.ext Kl).tup;by_cases hw:fx.cX vs.length 0 l=0/\fx.cX vs.length vs.length h=vs.length
  ·refine .inl (.inr ⟨a,vs,rfl,av,hw,k _ k4 d6 qn ?_⟩)
   simp only[Rep];refine⟨a,vs,rfl,av,?_⟩;have:=LP ax l h;unfold nK at this;rw[hw.1,hw.2,List.drop_zero,Nat.sub_zero,List.take_length] at this;exact this
  ·refine .inl (.inl ⟨a,vs,rfl,av,hw,λq bb=>?_⟩)
   have tF:=Ext.laid (o:=.tup (nK vs l h)) qn.cp bb;refine k _ k4 _ (qn.trans tF) ?_;simp only[Rep];exact⟨q,_,rfl,c3.of dM,(LP ax l h).ext tF⟩
 ·cases e
  obtain⟨a,vs,rfl,av,ax⟩:=(aS.ext Kl).lst;refine .inr ⟨a,vs,rfl,.inl av,λq bb=>?_⟩;have tF:=Ext.I0 (o:=.lst (nK vs l h)) qn.cp bb;refine k _ _ _ (qn.trans tF) ?_;simp only[Rep];exact⟨q,_,rfl,.inr rfl,.inl dM,(LP ax l h).ext tF⟩
 ·cases e
end
end
end D
end
section
namespace D
open PySem PySem.W PyProof.Rows
structure Wl(n:Nat)(lt:Nat->Nat->Bool):Prop where
 amd:∀i j,lt i j=true->lt j i=false
 trans:∀i j k,lt i j=true->lt j k=true->lt i k=true
 amy:∀i j,i<n->j<n->i≠j->lt i j=true\/lt j i=true
noncomputable def oK(lt:Nat->Nat->Bool)(p:Array Nat)(m:Nat):Prop:=∀i j,i<j->j<m->lt (p.getD i 0) (p.getD j 0)=true
noncomputable def jN(lt:Nat->Nat->Bool)(p:Array Nat)(m:Nat):Prop:=∀i j,i<j->j<m->lt (p.getD j 0) (p.getD i 0)=true
section
variable {n:Nat}{lt:Nat->Nat->Bool}(O:Wl n lt)
include O
end
end D
end
section
namespace D
open PySem
variable [cI]
end D
end
section
namespace D
open PySem PySem.Spec PyProof.Rows a7
section
variable [cI]
def Sh:entryFor table "dict.update.loop"=some Builtin.«dict.update.loop»:=entryFor_of_tree (by kernel_rfl)
def C3:plainId "dict.update.loop"=true:=by decide +kernel
section
variable {prog:cC}{w:b6}{K:Type}[DecidableEq K]{knd:PySem.KeyKind prog w K}{A:cH}
def ahI{E:aj->aH->Prop}{s:aH}{p:af}{o:Obj}{n:Nat}{xs:Array aj}{Q:List aj->aH->Prop}(ai:s.heap.get? p=some o)(ao:o.cls=.type "tuple")(bE:o.data=.seq xs n)(h:Q xs.toList s):bc (bu prog w) A (Builtin.Dict.pairItems (.ref p)) Q E s:=by
 obtain⟨c,uP,dat,cB⟩:=o;simp only at ao bE;subst ao bE;obtain⟨aN,g,d,tk,os⟩:=s;have ej:(⟨aN,g,d,tk,os⟩:aH).TypeIs (.ref p) "tuple":=⟨_,ai,rfl⟩;unfold Builtin.Dict.pairItems
 repeat (any_goals (first|assumption|wp_step))
def ahB{kvs:List (K×aj)}{k:K}{v:aj}(h:k∉kvs.map (·.1)):stored kvs k v=kvs++[(k,v)]:=by
 unfold stored;rw[if_neg];intro q;obtain⟨x,hx,e⟩:=List.any_eq_true.mp q;exact h (en.mpr ⟨x,hx,by simpa using e⟩)
variable {R:Result->aH->Prop}{I:af}{b8 wr:List af}{G:Array GenState->Array GenState->Prop}{St:Nat->aH->Prop}{items:Array aj}
variable {E:aj->aH->Prop}{s:aH}
end
end
section
variable [cI]
mutual
noncomputable def ix:T->T->Option Bool
|.int a,.int b=>some (decide (a<b))
|.tuple xs,.tuple ys=>tb xs ys
|_,_=>none
noncomputable def tb:List T->List T->Option Bool
| [],[]=>some false
| [],_::_=>some true
|_::_,[]=>some false
|x::xs,y::ys=>if n' x y then tb xs ys else ix x y
end
noncomputable def M_(A:cH)(s:aH)(y x:aj)(b:Bool):Prop:=
 ∀(prog:cC) (w:b6) (E:aj->aH->Prop) (Q:aj->aH->Prop),Q (.bool b) s->bc (bu prog w) A (richCompare .Lt y x) Q E s
inductive pQ(A:cH)(s:aH)(fin:Bool):List (aj×aj)->Bool->Prop
|nil:pQ A s fin [] fin
|eq {y x:aj} {r:List (aj×aj)} {b:Bool}:SeqAt.EqAt A s y x true->pQ A s fin r b->pQ A s fin ((y,x)::r) b
|lt {y x:aj} {r:List (aj×aj)} {b:Bool}:SeqAt.EqAt A s y x false->M_ A s y x b->pQ A s fin ((y,x)::r) b
section
open PySem.SeqAt
open PySem.AutoSeq1 (wpAny_loadPart')
open PySem.MeetsSeq PySem.MeetsSeq2 PySem.MeetsSeq3
def agV(l b:af)(items qe:Array aj)(n gp:Nat)(dd mK:Option af)(cB h2:Array (Option aj))(z:Bool):
  Meets (Builtin.«tuple.__lt__» ⟨[.ref l,.ref b],[]⟩)
   (λA R s=>s.heap.get? l=some {cls:=.type "tuple",dict:=dd,data:=.seq items n,slots:=cB}/\s.heap.get? b=some {cls:=.type "tuple",dict:=mK,data:=.seq qe gp,slots:=h2} /\
    pQ A.in1 s (decide (items.size<qe.size)) (items.toList.zip qe.toList) z/\R (.ok (.ret (.bool z))) s):=
 .of_wp λprog w A R s h=>by
  obtain⟨aN,g,d,tk,os⟩:=s;obtain⟨aE,aa,bt,h⟩:=h;have f2:=AutoSeq1.sub_tuple_tuple
  wp_walk using wpAny_loadPart' aE,wpAny_loadPart' aa,wpAny_forIn_list _ (λrest b s'=>b.1=none/\s'=⟨aN,g,d,tk,os⟩/\pQ A.in1 ⟨aN,g,d,tk,os⟩ (decide (items.size<qe.size)) rest z) _
  case turn=>
   rintro⟨y,x⟩ rest b s' ⟨ju,rfl,jT⟩;cases jT with
   |eq he jT=>
    refine aR (he prog w _ _ ?_)
    wp_walk
    exact⟨rfl,rfl,jT⟩
   |lt he e1=>
    refine aR (he prog w _ _ ?_)
    have G3:=e1 prog w
    wp_walk using G3
    exact⟨_,rfl,h⟩
  case fin=>
   rintro⟨bM,bY⟩ s' ⟨ju,rfl,jT⟩;simp only at ju;subst ju;cases jT
   wp_walk
   exact⟨_,rfl,by simpa [Builtin.Tuple.tupleCompareSizes] using h⟩
  case h=>
   exact⟨rfl,rfl,bt⟩
mutual
theorem ajm:∀(p0 db:T) (A:cH) (s:aH) (a b:aj) (as bs:List af) (r:Bool),Reads s.heap a p0 as->Reads s.heap b db bs->p0.canLay0=true->db.canLay0=true->A.units+min p0.depth db.depth<cLine->ix p0 db=some r->M_ A s a b r
|.int i,.int j,A,s,_,_,_,_,r,.int _ t,.int _ u,_,_,_,e=>by
  unfold ix at e;cases e;exact λprog w E Q q=>(PyProof.Rows.lt_int q:bc (bu prog w) A (iz .Lt (.int i t) (.int j u)) Q E s)
|.tuple xs,.tuple ys,A,s,_,_,_,_,r,.tuple (a:=l) (o:=o) (vs:=vs) (n:=n) ai ao bE c4,.tuple (a:=o7) (o:=o') (vs:=fC) (n:=xm) k1 k2 k3 mb,aB,aa,cn,e=>by
  unfold ix at e;simp only[PyData.canLay0] at aB aa;simp only[oa] at cn;have jT:=RN xs ys A.in1 s vs.toList fC.toList _ _ r c4 mb aB aa (room_in cn) e;obtain⟨cls,dd,data,cB⟩:=o;obtain⟨F0,mK,data2,h2⟩:=o';simp only at ao bE k2 k3;subst ao bE k2 k3;rw[rK,rK] at jT;exact λprog w E Q q=>richCompare_meets_room (op:=.Lt) ⟨_,ai,rfl⟩ ⟨_,k1,rfl⟩ PySem.F.slot_tuple_lt PySem.F.entry_tuple_lt (PySem.F.args_tuple_lt_2 _ _) (agV l o7 vs fC n xm dd mK cB h2 r)
   ⟨ai,k1,jT,show Value.bool r≠Value.notImplemented/\Q (.bool r) s from ⟨(λx=>nomatch x),q⟩⟩ (by omega)
|.none,_,_,_,_,_,_,_,_,_,_,_,_,_,e=>by simp[ix] at e
|.bool _,_,_,_,_,_,_,_,_,_,_,_,_,_,e=>by simp[ix] at e
|.str _,_,_,_,_,_,_,_,_,_,_,_,_,_,e=>by simp[ix] at e
|.list _,_,_,_,_,_,_,_,_,_,_,_,_,_,e=>by simp[ix] at e
|.dict _,_,_,_,_,_,_,_,_,_,_,_,_,_,e=>by simp[ix] at e
|.int _,.none,_,_,_,_,_,_,_,_,_,_,_,_,e=>by simp[ix] at e
|.int _,.bool _,_,_,_,_,_,_,_,_,_,_,_,_,e=>by simp[ix] at e
|.int _,.str _,_,_,_,_,_,_,_,_,_,_,_,_,e=>by simp[ix] at e
|.int _,.list _,_,_,_,_,_,_,_,_,_,_,_,_,e=>by simp[ix] at e
|.int _,.dict _,_,_,_,_,_,_,_,_,_,_,_,_,e=>by simp[ix] at e
|.int _,.tuple _,_,_,_,_,_,_,_,_,_,_,_,_,e=>by simp[ix] at e
|.tuple _,.none,_,_,_,_,_,_,_,_,_,_,_,_,e=>by simp[ix] at e
|.tuple _,.bool _,_,_,_,_,_,_,_,_,_,_,_,_,e=>by simp[ix] at e
|.tuple _,.str _,_,_,_,_,_,_,_,_,_,_,_,_,e=>by simp[ix] at e
|.tuple _,.list _,_,_,_,_,_,_,_,_,_,_,_,_,e=>by simp[ix] at e
|.tuple _,.dict _,_,_,_,_,_,_,_,_,_,_,_,_,e=>by simp[ix] at e
|.tuple _,.int _,_,_,_,_,_,_,_,_,_,_,_,_,e=>by simp[ix] at e
theorem RN:∀(xs ys:List T) (A:cH) (s:aH) (vs ws:List aj) (as bs:List af) (r:Bool),ReadsAll s.heap vs xs as->ReadsAll s.heap ws ys bs->lG xs=true->lG ys=true->A.units+min (kq xs) (kq ys)<cLine->tb xs ys=some r->pQ A s (decide (vs.length<ws.length)) (vs.zip ws) r
| [],[],A,s,_,_,_,_,r,.nil,.nil,_,_,_,e=>by
  unfold tb at e;cases e;exact .nil
| [],_::_,A,s,_,_,_,_,r,.nil,.cons _ _,_,_,_,e=>by
  unfold tb at e;cases e;exact pQ.nil
|_::_,[],A,s,_,_,_,_,r,.cons _ _,.nil,_,_,_,e=>by
  unfold tb at e;cases e;exact pQ.nil
|x::xs,y::ys,A,s,_,_,_,_,r,.cons bj b_,.cons aP a9,aB,aa,cn,e=>by
  simp only[lG,iV] at aB aa;simp only[kq] at cn;unfold tb at e;have he:=eqAt_reads x y A s _ _ _ _ bj aP aB.1 aa.1 (room_head cn);split at e
  next h=>
   rw[h] at he;have b1:=RN xs ys A s _ _ _ _ r b_ a9 aB.2 aa.2 (room_tail cn) e;rw[rL];simp only[e_,Nat.add_lt_add_iff_right];exact .eq he b1
  next h=>
   rw[Bool.not_eq_true] at h;rw[h] at he;rw[rL];exact .lt he (ajm x y A s _ _ _ _ r bj aP aB.1 aa.1 (room_head cn) e)
end
end
end
end D
end
section
namespace D
open PySem
inductive oB where
|v (f:bH)|o (i:Nat)
abbrev g8:=Ev->Option (T×Ev)
abbrev pP:=Ev->Option aJ
noncomputable def Jy(i:Nat)(ε:Ev):Option aJ:=match ε[i]? with
|some (some (.obj m c aA))=>some (.obj m c aA)
|_=>none
noncomputable def qU:List oB->Ev->Option (List aJ)
| [],_=>some []
|.v f::as,ε=>(f ε).bind λt=>(qU as ε).map λss=>.ag t::ss
|.o i::as,ε=>(Jy i ε).bind λs=>(qU as ε).map λss=>s::ss
def JV:aJ->aJ
|.obj _ c aA=>.obj .c1 c aA
|s=>s
noncomputable def dq(c i:Nat)(ε:Ev):Option (gr×List aJ):=match ε[i]? with
|some (some (.obj m bW aA))=>if bW=c then some (m,aA) else none
|_=>none
noncomputable def fld(c i j:Nat):bH:=λε=>(dq c i ε).bind λo=>match o.2[j]? with
|some (.ag t)=>some t
|some (.own ts)=>some (.list ts)
|_=>none
noncomputable def fL(c i j:Nat):bH:=λε=>(dq c i ε).bind λo=>match o.2[j]? with
|some (.ag t)=>some t
|_=>none
noncomputable def nR(c i j:Nat):Ev->Option (List (Key×T)):=λε=>(dq c i ε).bind λo=>match o.2[j]? with
|some (.hr kvs)=>some kvs
|_=>none
noncomputable def k'(c i j:Nat):Ev->Option (List T):=λε=>(dq c i ε).bind λo=>match o.2[j]? with
|some (.own ts)=>some ts
|_=>none
noncomputable def nQ(c i j:Nat)(k:bH):bH:=λε=>(k ε).bind λt=>(ib t).bind λk=>(nR c i j ε).bind λkvs=>getD kvs k
noncomputable def y4(c i j:Nat):bH:=λε=>(nR c i j ε).map λkvs=>.tuple (kvs.map (·.2))
noncomputable def gF(c i j:Nat)(s:aJ)(ε:Ev):Option Ev:=(dq c i ε).bind λo=>if o.1=.c1 then none else
 if j<o.2.length then some (ε.set i (some (.obj o.1 c (o.2.set j s)))) else if j=o.2.length then some (ε.set i (some (.obj o.1 c (o.2++[s])))) else none
noncomputable def eV(c i j:Nat)(f:bH):bF:=λε=>(f ε).bind λt=>(gF c i j (.ag t) ε).map .bO
noncomputable def j9(c i j:Nat)(f:bH):bF:=λε=>(f ε).bind λt=>match t with
|.list ts=>(gF c i j (.own ts) ε).map .bO
|_=>none
noncomputable def qI:T->T->Option Int
|.int i,.int j=>some (i+j)
|_,_=>none
noncomputable def pW(c i j:Nat)(f:bH):bF:=λε=>(fL c i j ε).bind λx=>(f ε).bind λy=>(qI x y).bind λz=>(gF c i j (.ag (.int z)) ε).map .bO
noncomputable def l2(c i j:Nat)(f:bH):bF:=λε=>(f ε).bind λt=>(k' c i j ε).bind λts=>if ts.length<big then (gF c i j (.own (ts++[t])) ε).map .bO else none
noncomputable def Bj(c i j:Nat)(f:bH):bF:=λε=>(f ε).bind λt=>(k' c i j ε).bind λts=>match t,um ts with
|.str x,some ss=>if x∈ss then (gF c i j (.own ((ss.erase x).map .str)) ε).map .bO else none
|_,_=>none
noncomputable def vY:T->Option T
|.tuple xs=>some (.list xs)
|.list xs=>some (.list xs)
|_=>none
noncomputable def Dc:T->Option T
|.list xs=>if xs.length<64 then (um xs).map λss=>.list ((amG ss).map .str) else none
|_=>none
noncomputable def vb(c i j:Nat):bF:=λε=>(k' c i j ε).bind λts=>(ts.getLast?).bind λ_=>(gF c i j (.own ts.dropLast) ε).map .bO
noncomputable def sb(c i j:Nat)(k v:bH):bF:=λε=>(v ε).bind λv=>(k ε).bind λt=>(ib t).bind λk=>(nR c i j ε).bind λkvs=>if kvs.length<big then (gF c i j (.hr (putD kvs k v)) ε).map .bO else none
noncomputable def sj(c i j:Nat)(k v:bH):bF:=λε=>(k ε).bind λt=>(ib t).bind λk=>(nR c i j ε).bind λkvs=>(getD kvs k).bind λx=>(v ε).bind λy=>(qI x y).bind λz=>if kvs.length<big then (gF c i j (.hr (putD kvs k (.int z))) ε).map .bO else none
noncomputable def si:List T->List T->Option (List (Key×T))
| [],_=>some []
|_::_,[]=>some []
|k::bp,v::vs=>(ib k).bind λk=>(si bp vs).map λr=>(k,v)::r
noncomputable def wc(c i j:Nat)(bp vs:bH):bF:=λε=>(bp ε).bind λtk=>(vs ε).bind λiP=>match tk,iP with
|.list lk,.tuple lv=>(si lk lv).bind λkvs=>if (kvs.map (·.1)).Nodup/\kvs.length<=1000/\(∀t∈lk,(ib t).isSome=true) then (gF c i j (.hr kvs) ε).map .bO else none
|_,_=>none
noncomputable def DQ(f g:kz):kz:=λε=>(f ε).bind λa=>(g ε).map λb=>List.zipWith (λx y=>.tuple [x,y]) a b
noncomputable def oy(d:List aJ->Option T)(as:List oB):bH:=λε=>(qU as ε).bind λss=>d (ss.map JV)
noncomputable def ef(c:Nat)(d:List aJ->Option T)(i:Nat)(aA:List bH):bH:=λε=>(dq c i ε).bind λo=>(args aA ε).bind λts=>d (.obj .c1 c o.2::ts.map .ag)
noncomputable def cS(c:Nat)(d:List aJ->Option (T×List aJ))(i:Nat)(aA:List bH):g8:=λε=>(dq c i ε).bind λo=>if o.1=.c1 then none else (args aA ε).bind λts=>
 (d (.obj .cy c o.2::ts.map .ag)).map λr=>(r.1,ε.set i (some (.obj o.1 c r.2)))
noncomputable def oz(c:Nat)(d:List aJ->Option (T×List aJ))(aA:List bH)(i:Nat)(fM:List bH):g8:=λε=>(dq c i ε).bind λo=>if o.1=.c1 then none else (args aA ε).bind λts=>(args fM ε).bind λus=>
 (d (ts.map .ag++.obj .cy c o.2::us.map .ag)).map λr=>(r.1,ε.set i (some (.obj o.1 c r.2)))
noncomputable def lq(c:Nat)(d:List aJ->Option (T×List aJ))(aA:List bH):pP:=λε=>(args aA ε).bind λts=>(d (.obj .cy c []::ts.map .ag)).bind λr=>match r.1 with
|.none=>some (.obj .own c r.2)
|_=>none
noncomputable def sh(d:List T->Option aJ)(aA:List bH):pP:=λε=>(args aA ε).bind d
noncomputable def uh(c:Nat):aJ->Option (List aJ)
|.obj .own bW aA=>if bW=c then some aA else none
|_=>none
noncomputable def pd(c:Nat)(d:List aJ->Option T)(o:pP)(aA:List bH):bH:=λε=>(o ε).bind λs=>(uh c s).bind λos=>(args aA ε).bind λts=>d (.obj .c1 c os::ts.map .ag)
noncomputable def vO(c j:Nat)(o:pP):bH:=λε=>(o ε).bind λs=>(uh c s).bind λos=>match os[j]? with
|some (.own ts)=>some (.list ts)
|_=>none
def dj(f:g8):bF:=λε=>(f ε).map λr=>.bO r.2
noncomputable def i'(f:g8):bF:=λε=>(f ε).map λr=>.iL r.1 r.2
noncomputable def rA(f:bH):bF:=λε=>(f ε).map λt=>.iL t ε
noncomputable def wz(i:Nat)(f:g8):bF:=λε=>(f ε).map λr=>.bO (r.2.set i (some (.ag r.1)))
noncomputable def qV(i:Nat)(f:pP):bF:=λε=>(f ε).map λs=>.bO (ε.set i (some s))
noncomputable def xA(i:Nat):bF:=λε=>match ε[i]? with
|some (some (.obj .own c aA))=>some (.ly (.obj .own c aA))
|_=>none
def qG:bF:=λε=>some (.iL .none ε)
def se:bF:=λ_=>none
noncomputable def kv(n:Nat)(ss:List aJ):Ev:=ss.map some++ed (n - ss.length) none
noncomputable def gE(b:bF)(n:Nat)(ss:List aJ):Option T:=(b (kv n ss)).bind λo=>match o with
|.er t=>some t
|.bO _=>some .none
|_=>none
noncomputable def j6(c p:Nat)(ε:Ev):Option (List aJ):=match ε[p]? with
|some (some (.obj .cy bW aA))=>if bW=c then some aA else none
|_=>none
noncomputable def runM(c p:Nat)(b:bF)(n:Nat)(ss:List aJ):Option (T×List aJ):=(b (kv n ss)).bind λo=>match o with
|.iL t ε=>(j6 c p ε).map λaA=>(t,aA)
|.bO ε=>(j6 c p ε).map λaA=>(.none,aA)
|_=>none
noncomputable def Bf:aJ->Option aJ
|.obj .own c aA=>some (.obj .own c aA)
|_=>none
noncomputable def amX(b:bF)(n:Nat)(ts:List T):Option aJ:=(b ((ts.map λt=>some (.ag t))++ed (n - ts.length) none)).bind λo=>match o with
|.ly s=>Bf s
|_=>none
end D
end
section
namespace D
open PySem PySem.Spec PyProof.Rows a7
section
variable [cI]
section
variable {K:a6}{F aG O:af->Prop}{H ae:aw}{E:fR}
theorem gh.length:∀{aA:List aJ} {vs:List V},gh K F H aA vs->aA.length=vs.length
| [],vs,r=>by
  have e:vs=[]:=r;rw[e];rfl
|s::ss,vs,r=>by
  obtain⟨v,z,rfl,_,b_⟩:=r;simp[gh.length b_]
theorem gh.get:∀{aA:List aJ} {vs:List V} {j:Nat} {s:aJ},gh K F H aA vs->aA[j]?=some s->∃v,vs[j]?=some v/\lQ K F H s v
| [],vs,j,s,r,e=>by simp at e
|s::ss,vs,0,u,r,e=>by
  obtain⟨v,z,rfl,bj,_⟩:=r;simp at e;subst e;exact⟨v,rfl,bj⟩
|s::ss,vs,j+1,u,r,e=>by
  obtain⟨v,z,rfl,_,b_⟩:=r;obtain⟨w,ai,ao⟩:=gh.get (j:=j) (s:=u) b_ (by simpa using e);exact⟨w,by simpa using ai,ao⟩
theorem gh.set:∀{aA:List aJ} {vs:List V} {j:Nat} {s:aJ} {v:V},gh K F H aA vs->dU K F H aG ae->(∀(k:Nat) (u:aJ) (w:V),k≠j->aA[k]?=some u->vs[k]?=some w->∀b∈dP u w,ae b=H b)->lQ K aG ae s v->gh K aG ae (aA.set j s) (vs.set j v)
| [],vs,j,s,v,r,_,_,_=>by
  have e:vs=[]:=r;subst e;exact rfl
|u::ss,vs,0,s,v,r,az,aK,h=>by
  obtain⟨w,z,rfl,bj,b_⟩:=r;refine⟨v,z,rfl,h,b_.keep az λb aa=>?_⟩;have:∀{ss:List aJ} {z:List V} (n:Nat),(∀(k:Nat) (u:aJ) (w:V),ss[k]?=some u->z[k]?=some w->∀b∈dP u w,ae b=H b)->b∈dk ss z->ae b=H b:=by
   intro ss
   induction ss with
   |nil=>intro z n _ aa;simp[dk] at aa
   |cons s1 ss b1=>
    intro z n aK aa;cases z with
    |nil=>simp[dk] at aa
    |cons v1 z=>
     rw[show dk (s1::ss) (v1::z)=dP s1 v1++dk ss z from rfl] at aa;rcases j2.mp aa with q|q
     ·exact aK 0 s1 v1 rfl rfl b q
     ·exact b1 n (λk u w aD aL=>aK (k+1) u w (by simpa using aD) (by simpa using aL)) q
  exact this 0 (λk u w aD aL=>aK (k+1) u w (by omega) (by simpa using aD) (by simpa using aL)) aa
|u::ss,vs,j+1,s,v,r,az,aK,h=>by
  obtain⟨w,z,rfl,bj,b_⟩:=r;exact⟨w,z.set j v,rfl,bj.keep az λb aa=>aK 0 u w (by omega) rfl rfl b aa,gh.set b_ az (λk u w amq aD aL=>aK (k+1) u w (by omega) (by simpa using aD) (by simpa using aL)) h⟩
theorem gh.snoc:∀{aA:List aJ} {vs:List V} {s:aJ} {v:V},gh K F H aA vs->lQ K F H s v->gh K F H (aA++[s]) (vs++[v])
| [],vs,s,v,r,h=>by
  have e:vs=[]:=r;subst e;exact⟨v,[],rfl,h,rfl⟩
|u::ss,vs,s,v,r,h=>by
  obtain⟨w,z,rfl,bj,b_⟩:=r;exact⟨w,z++[v],rfl,bj,gh.snoc b_ h⟩
theorem LW:∀{aA:List aJ} {vs:List V} {s:aJ} {v:V},aA.length=vs.length->dk (aA++[s]) (vs++[v])=dk aA vs++dP s v
| [],[],s,v,_=>by simp[dk]
|u::ss,w::z,s,v,h=>by
  show dP u w++dk (ss++[s]) (z++[v])=(dP u w++dk ss z)++dP s v
  rw[LW (by simpa using h),vq]
| [],w::z,_,_,h=>by simp at h
|u::ss,[],_,_,h=>by simp at h
theorem pJ:∀{aA:List aJ} {vs:List V} {j:Nat} {s:aJ} {v:V} {b:af},aA[j]?=some s->vs[j]?=some v->b∈dP s v->b∈dk aA vs
| [],vs,j,s,v,b,e,_,_=>by simp at e
|u::ss,[],j,s,v,b,_,e,_=>by simp at e
|u::ss,w::z,0,s,v,b,aD,aL,h=>by
  simp at aD aL;subst aD aL;exact j2.mpr (.inl h)
|u::ss,w::z,j+1,s,v,b,aD,aL,h=>j2.mpr (.inr (pJ (j:=j) (by simpa using aD) (by simpa using aL) h))
theorem MC:∀{aA:List aJ} {vs:List V} {b:af},b∈dk aA vs->∃(j:Nat) (s:aJ) (v:V),aA[j]?=some s/\vs[j]?=some v/\b∈dP s v
| [],vs,b,h=>by simp[dk] at h
|u::ss,[],b,h=>by simp[dk] at h
|u::ss,w::z,b,h=>by
  rcases j2.mp (show b∈dP u w++dk ss z from h) with q|q
  ·exact⟨0,u,w,rfl,rfl,q⟩
  ·obtain⟨j,s,v,aD,aL,h⟩:=MC q;exact⟨j+1,s,v,by simpa using aD,by simpa using aL,h⟩
theorem LV:∀{aA:List aJ} {vs:List V} {j k:Nat} {s u:aJ} {v w:V} {b:af},(dk aA vs).Nodup->j≠k->aA[j]?=some s->vs[j]?=some v->aA[k]?=some u->vs[k]?=some w->b∈dP s v->b∈dP u w->False
| [],vs,j,k,s,u,v,w,b,_,_,e,_,_,_,_,_=>by simp at e
|x::ss,[],j,k,s,u,v,w,b,_,_,_,e,_,_,_,_=>by simp at e
|x::ss,y::z,j,k,s,u,v,w,b,a8,o1,aD,aL,eM,ip,ai,ao=>by
  have pa:(dP x y++dk ss z).Nodup:=a8;rw[qp] at pa;obtain⟨hB,gp,A9⟩:=pa;cases j with
  |zero=>
   cases k with
   |zero=>exact o1 rfl
   |succ k=>
    simp at aD aL;subst aD aL;exact A9 b ai b (pJ (j:=k) (by simpa using eM) (by simpa using ip) ao) rfl
  |succ j=>
   cases k with
   |zero=>
    simp at eM ip;subst eM ip;exact A9 b ao b (pJ (j:=j) (by simpa using aD) (by simpa using aL) ai) rfl
   |succ k=>exact LV (j:=j) (k:=k) gp (by omega) (by simpa using aD) (by simpa using aL) (by simpa using eM) (by simpa using ip) ai ao
def CA{aA:List aJ}{vs:List V}{j:Nat}{s:aJ}{v:V}{b:af}(h:b∈dk (aA.set j s) (vs.set j v)):b∈dk aA vs\/b∈dP s v:=by
 obtain⟨k,u,w,aD,aL,h⟩:=MC h;by_cases aK:j=k
 ·subst aK;have cg:=(gH.mp aD).1;have ck:=(gH.mp aL).1;simp at cg ck;rw[vn,if_pos rfl,if_pos cg] at aD;rw[vn,if_pos rfl,if_pos ck] at aL;cases aD;cases aL;exact .inr h
 ·rw[vn,if_neg aK] at aD aL;exact .inl (pJ aD aL h)
theorem KV:∀{aA:List aJ} {vs:List V} {j:Nat} {s:aJ} {v:V},(dk aA vs).Nodup->(dP s v).Nodup->(∀b∈dP s v,∀(k:Nat) (u:aJ) (w:V),k≠j->aA[k]?=some u->vs[k]?=some w->b∉dP u w)->(dk (aA.set j s) (vs.set j v)).Nodup
| [],vs,j,s,v,_,_,_=>by simp[dk]
|x::ss,[],j,s,v,_,_,_=>by cases j <;> simp[dk]
|x::ss,y::z,0,s,v,a8,td,aB=>by
  have pa:(dP x y++dk ss z).Nodup:=a8;rw[qp] at pa;show (dP s v++dk ss z).Nodup;rw[qp];refine⟨td,pa.2.1,λb aa c au e=>?_⟩;subst e;obtain⟨k,u,w,aD,aL,h⟩:=MC au;exact aB b aa (k+1) u w (by omega) (by simpa using aD) (by simpa using aL) h
|x::ss,y::z,j+1,s,v,a8,td,aB=>by
  have pa:(dP x y++dk ss z).Nodup:=a8;rw[qp] at pa;show (dP x y++dk (ss.set j s) (z.set j v)).Nodup;rw[qp];refine⟨pa.1,KV pa.2.1 td λb aa k u w aK aD aL=>aB b aa (k+1) u w (by omega) (by simpa using aD) (by simpa using aL),λb aa c au e=>?_⟩;subst e;rcases CA au with q|q
  ·exact pa.2.2 b aa b q rfl
  ·exact aB b q 0 x y (by omega) rfl rfl aa
def ai1(v:V):(hZ v).Nodup:=by
 unfold hZ;split <;> simp
def Sf(s:aJ)(v:V):(dP s v).Nodup:=by
 cases s <;> first|exact ai1 v|simp[dP]
theorem La:∀{ns:List Str} {vs:List V} {j:Nat} {f:Str} {v:V},ns.Nodup->ns[j]?=some f->vs[j]?=some v->(ns.zip vs).lookup f=some v
| [],_,_,_,_,_,e,_=>by simp at e
|_::_,[],_,_,_,_,_,e=>by simp at e
|n::ns,w::vs,0,f,v,_,aD,aL=>by
  simp at aD aL;subst aD aL;simp[jC]
|n::ns,w::vs,j+1,f,v,a8,aD,aL=>by
  have ne:f≠n:=by
   rintro rfl;exact (gR.mp a8).1 (tJ (by simpa using aD))
  have aa:(f==n)=false:=beq_eq_false_iff_ne.mpr ne;simp only[rL,jC,aa];exact La (j:=j) (gR.mp a8).2 (by simpa using aD) (by simpa using aL)
theorem tV:∀{ns:List Str} {vs:List V} {f:Str},f∉ns->(ns.zip vs).lookup f=none
| [],_,_,_=>by simp
|_::_,[],_,_=>by simp
|n::ns,w::vs,f,h=>by
  have ne:f≠n:=λe=>h (by simp[e]);have aa:(f==n)=false:=beq_eq_false_iff_ne.mpr ne;simp only[rL,jC,aa];exact tV λz=>h (dR _ z)
theorem Ta:∀{ns:List Str} {vs:List V} {j:Nat} {f:Str} {v:V},ns.Nodup->ns[j]?=some f->j<vs.length->a7.gY f v (ns.zip vs)=ns.zip (vs.set j v)
| [],_,_,_,_,_,e,_=>by simp at e
|_::_,[],_,_,_,_,_,h=>by simp at h
|n::ns,w::vs,0,f,v,_,aD,h=>by
  simp at aD;subst aD;simp[a7.gY]
|n::ns,w::vs,j+1,f,v,a8,aD,h=>by
  have ne:n≠f:=by
   rintro rfl;exact (gR.mp a8).1 (tJ (by simpa using aD))
  simp only[rL,jD,a7.gY,if_neg ne];rw[Ta (j:=j) (gR.mp a8).2 (by simpa using aD) (by simpa using h)]
theorem Q3:∀{ns:List Str} {vs:List V} {f:Str} {v:V},ns.Nodup->ns[vs.length]?=some f->a7.gY f v (ns.zip vs)=ns.zip (vs++[v])
| [],_,_,_,_,e=>by simp at e
|n::ns,[],f,v,_,aD=>by
  simp at aD;subst aD;simp[a7.gY]
|n::ns,w::vs,f,v,a8,aD=>by
  have ne:n≠f:=by
   rintro rfl;exact (gR.mp a8).1 (tJ (by simpa using aD))
  simp only[rL,vr,a7.gY,if_neg ne];rw[Q3 (gR.mp a8).2 (by simpa using aD)]
end
structure fw(K:a6)(c:Nat)(C:af)(ns:List Str):Prop where
 nI:cI.nI c=some C
 fm:cI.fm c=ns
 cls:nx K C
 a8:ns.Nodup
 na:∀f∈ns,qE K C f
 z8:ns.length<1000
section
variable {K:a6}{aC F aY O:af->Prop}{H H1:aw}{E:fR}{ε ε':Ev}{σ:a7.St}{c C i j:Nat}{ns:List Str}
def nh{m:gr}{aA:List aJ}(h:dq c i ε=some (m,aA)):ε[i]?=some (some (.obj m c aA)):=by
 unfold dq at h;split at h
 next o9 bW hW e=>
  split at h
  next au=>
   cases h
   rw[e,au]
  next=>cases h
 next=>cases h
def nk{m:gr}{aA:List aJ}(k:fw K c C ns)(r:cx K aC E O F H ε σ)(h:dq c i ε=some (m,aA)):
  ∃a vs bf,σ[i]?=some (some (.ref a))/\H a=some (.ins C bf (ns.zip vs))/\vs.length<=ns.length/\ic H a c vs/\gh K F H aA vs/\(a::dk aA vs).Nodup/\(∀b∈a::dk aA vs,wu E O F m b)/\(m=.cy->a=E.i6):=by
 obtain⟨v,ai,a,vs,rfl,aB,hf,a8,fX,i6⟩:=r.val i _ (nh h);obtain⟨aE,hx⟩:=id aB;rw[k.nI] at hx;obtain⟨bf,hx⟩:=hx;rw[k.fm] at aE hx;exact⟨a,vs,bf,ai,hx,aE,aB,hf,a8,fX,i6⟩
def Dw{m:gr}(hm:m≠.c1){aA:List aJ}:(aJ.obj m c aA).iH=true:=by
 cases m with
|c1=>exact absurd rfl hm
|own=>rfl
|cy=>rfl
def cx.Bt{s:aJ}{v:V}{a bf:af}{vs:List V}(k:fw K c C ns)(r:cx K aC E O F H ε σ){m:gr}{aA:List aJ}(aF:dq c i ε=some (m,aA))(ai:σ[i]?=some (some (.ref a)))(aB:ic H a c vs)(he:gF c i j s ε=some ε')
  (rs:lQ K F H s v) (own:∀b∈dP s v,¬F b/\O b/\b∉dz H (.obj m c aA) (.ref a)/\∀(k:Nat) (u:aJ) (w:V),i≠k->ε[k]?=some (some u)->u.iH=true->σ[k]?=some (some w)->b∉dz H u w) (hx:H a=some (.ins C bf (ns.zip vs)))
  {f:Str} (bI:ns[j]?=some f):dU K F H F (upd H a (.ins C bf (a7.gY f v (ns.zip vs))))/\cx K aC E O F (upd H a (.ins C bf (a7.gY f v (ns.zip vs)))) ε' σ:=by
 obtain⟨k9,fC,uQ,dF,lj,aE,mR,hf,a8,fX,i6⟩:=nk k r aF;rw[ai] at dF;cases dF;have ev:fC=vs:=by rw[<- aB.vals,<- mR.vals]
 subst ev;have hc:dz H (.obj m c aA) (.ref a)=a::dk aA fC:=ku aB;rw[hc] at own;unfold gF at he;rw[aF] at he;simp only[c5] at he;split at he
 next=>cases he
 next hm=>
 have hlen:=hf.length;have w5:(aJ.obj m c aA).iH=true:=Dw hm;have O2:∀b,wu E O F m b <-> ¬F b/\O b:=λb=>by
  cases m with
  |c1=>exact absurd rfl hm
  |own=>exact Iff.rfl
  |cy=>exact Iff.rfl
 have na:∀b∈dk aA fC,b≠a:=λb aa z=>(gR.mp a8).1 (z▸aa);split at he
 next w0=>
  cases he
  have GR:j<fC.length:=by omega
  rw[Ta k.a8 bI GR];have w1:∀b∈a::dk (aA.set j s) (fC.set j v),b∈a::dk aA fC\/b∈dP s v:=λb aa=>by
   rcases cM.mp aa with rfl|aa
   ·exact .inl gb
   ·rcases CA aa with q|q
    ·exact .inl (dR _ q)
    ·exact .inr q
  have mS:∀o':aw,o' a=some (.ins C bf (ns.zip (fC.set j v)))->ic o' a c (fC.set j v):=λo' e=>by
   refine⟨by rw[k.fm];simpa using aE,?_⟩
   rw[k.nI,k.fm];exact⟨bf,e⟩
  refine r.A8 (nh aF) w5 ai (by rw[hc];exact gb) (λaz=>⟨a,fC.set j v,rfl,mS _ dM,?_,?_,λb aa=>?_,i6⟩) λb aa=>?_
  ·refine gh.set hf az (λk u w _ aD aL b aa=>cK (na b (pJ aD aL aa))) (rs.keep az λb aa=>cK λz=>(own b aa).2.2.1 (z▸gb))
  ·refine gR.mpr ⟨λz=>?_,KV (gR.mp a8).2 (Sf s v) λb aa k u w _ aD aL q=>(own b aa).2.2.1 (dR _ (pJ aD aL q))⟩
   rcases CA z with q|q
   ·exact (gR.mp a8).1 q
   ·exact (own a q).2.2.1 gb
  ·rcases w1 b aa with q|q
   ·exact fX b q
   ·exact (O2 b).mpr ⟨(own b q).1,(own b q).2.1⟩
  ·rw[ku (mS _ dM)] at aa;rcases w1 b aa with q|q
   ·exact .inl (by rw[hc];exact q)
   ·exact .inr (own b q).2.2.2
 next w0=>
  split at he
  next amm=>
   cases he
   have GR:j=fC.length:=by omega
   rw[Q3 k.a8 (by rw[<- GR];exact bI)];have amo:j<ns.length:=(gH.mp bI).1;have w1:∀b∈a::dk (aA++[s]) (fC++[v]),b∈a::dk aA fC\/b∈dP s v:=λb aa=>by
    rw[LW hlen] at aa;rcases cM.mp aa with rfl|aa
    ·exact .inl gb
    ·rcases j2.mp aa with q|q
     ·exact .inl (dR _ q)
     ·exact .inr q
   have mS:∀o':aw,o' a=some (.ins C bf (ns.zip (fC++[v])))->ic o' a c (fC++[v]):=λo' e=>by
    refine⟨by rw[k.fm];simp;omega,?_⟩
    rw[k.nI,k.fm];exact⟨bf,e⟩
   refine r.A8 (nh aF) w5 ai (by rw[hc];exact gb) (λaz=>⟨a,fC++[v],rfl,mS _ dM,?_,?_,λb aa=>?_,i6⟩) λb aa=>?_
   ·exact gh.snoc (hf.keep az λb aa=>cK (na b aa)) (rs.keep az λb aa=>cK λz=>(own b aa).2.2.1 (z▸gb))
   ·rw[LW hlen];refine gR.mpr ⟨λz=>?_,qp.mpr ⟨(gR.mp a8).2,Sf s v,λb aa d hd e=>?_⟩⟩
    ·rcases j2.mp z with q|q
     ·exact (gR.mp a8).1 q
     ·exact (own a q).2.2.1 gb
    ·subst e;exact (own b hd).2.2.1 (dR _ aa)
   ·rcases w1 b aa with q|q
    ·exact fX b q
    ·exact (O2 b).mpr ⟨(own b q).1,(own b q).2.1⟩
   ·rw[ku (mS _ dM)] at aa;rcases w1 b aa with q|q
    ·exact .inl (by rw[hc];exact q)
    ·exact .inr (own b q).2.2.2
  next=>cases he
def cx.xl{s s':aJ}{a b:af}{vs:List V}{o':d7}(r:cx K aC E O F H ε σ){m:gr}{aA:List aJ}(aF:dq c i ε=some (m,aA))(ai:σ[i]?=some (some (.ref a)))(aB:ic H a c vs)(he:gF c i j s' ε=some ε')
  (av:aA[j]?=some s) (bo:vs[j]?=some (.ref b)) (aM:b∈dP s (.ref b)) (Af:dP s' (.ref b)=[b]) (rs:dU K F H F (upd H b o')->lQ K F (upd H b o') s' (.ref b)):dU K F H F (upd H b o')/\cx K aC E O F (upd H b o') ε' σ:=by
 obtain⟨v,dF,k9,fC,ev,mR,hf,a8,fX,i6⟩:=r.val i _ (nh aF);rw[ai] at dF;cases dF;cases ev;have ev:fC=vs:=by rw[<- aB.vals,<- mR.vals]
 subst ev;have hc:dz H (.obj m c aA) (.ref a)=a::dk aA fC:=ku aB;unfold gF at he;rw[aF] at he;simp only[c5] at he;split at he
 next=>cases he
 next hm=>
 have w0:j<aA.length:=(gH.mp av).1;rw[if_pos w0] at he;cases he;have jU:b∈dk aA fC:=pJ av bo aM;have ZV:a≠b:=λz=>(gR.mp a8).1 (z▸jU);have mS:ic (upd H b o') a c fC:=aB.keep (cK ZV);have F_:fC.set j (.ref b)=fC:=by
  obtain⟨aE,e⟩:=gH.mp bo;rw[<- e];exact List.set_getElem_self aE
 have GN:∀x∈dk (aA.set j s') fC,x∈dk aA fC:=λx hx=>by
  rw[<- F_] at hx;rcases CA hx with q|q
  ·exact q
  ·rw[Af] at q;rw[kR.mp q];exact jU
 refine r.A8 (nh aF) (Dw hm) ai (by rw[hc];exact dR _ jU) (λaz=>⟨a,fC,rfl,mS,?_,?_,λx hx=>?_,i6⟩) λx hx=>?_
 ·rw[<- F_];exact gh.set hf az (λk u w aK aD aL x hx=>cK λz=>LV (gR.mp a8).2 (Ne.symm aK) av bo aD aL aM (z▸hx)) (rs az)
 ·refine gR.mpr ⟨λz=>(gR.mp a8).1 (GN a z),?_⟩
  rw[<- F_];refine KV (gR.mp a8).2 (by rw[Af];simp) λx hx k u w aK aD aL q=>?_;rw[Af] at hx;rw[kR.mp hx] at q;exact LV (gR.mp a8).2 (Ne.symm aK) av bo aD aL aM q
 ·rcases cM.mp hx with rfl|hx
  ·exact fX _ gb
  ·exact fX x (dR _ (GN x hx))
 ·rw[ku mS] at hx;rw[hc];rcases cM.mp hx with rfl|hx
  ·exact .inl gb
  ·exact .inl (dR _ (GN x hx))
end
end
section
variable [cI]
section
variable {K:a6}{aC F O:af->Prop}{H:aw}{E:fR}{ε:Ev}{σ:a7.St}{c C i j:Nat}{ns:List Str}{f:Str}
def nr{m:gr}{aA:List aJ}{s:aJ}(k:fw K c C ns)(r:cx K aC E O F H ε σ)(h:dq c i ε=some (m,aA))(av:aA[j]?=some s)(bI:ns[j]?=some f):
  ∃a vs bf v,σ[i]?=some (some (.ref a))/\H a=some (.ins C bf (ns.zip vs))/\(ns.zip vs).lookup f=some v/\ic H a c vs/\vs[j]?=some v/\lQ K F H s v/\(∀b∈dP s v,wu E O F m b/\b≠a):=by
 obtain⟨a,vs,bf,ai,hx,aE,aB,hf,a8,fX,i6⟩:=nk k r h;obtain⟨v,bo,bR⟩:=hf.get av;refine⟨a,vs,bf,v,ai,hx,La k.a8 bI bo,aB,bo,bR,λb aa=>⟨fX b (dR _ (pJ av bo aa)),λz=>(gR.mp a8).1 (z▸pJ av bo aa)⟩⟩
def kY(k:fw K c C ns)(bI:ns[j]?=some f):qE K C f:=k.na f (tJ bI)
end
section
variable {X:aV}{c C i j:Nat}{ns:List Str}{f:Str}{o e a:bq}{g h:bH}{pos apos:Pos}
def gq(k:fw X.K c C ns)(a5:bK X o (fB i))(bI:ns[j]?=some f:=by rfl)(aa:jF o f X.env (eval o X.env)=eval o X.env:=by rfl):eT X (.Attribute o f pos) (fld c i j):=
 ee (pG a5 aa) λσ H Q ⟨aC,aT,O,F,ε,t,r,e,bQ⟩=>by
 simp only[fld,cz] at e;obtain⟨⟨m,aA⟩,aF,e⟩:=e;split at e
 next t' av=>
  cases e
  obtain⟨a,vs,bf,v,ai,hx,aE,aB,bo,bR,_⟩:=nr k r aF av bI;exact⟨_,ai,a,C,bf,_,v,rfl,hx,k.cls,kY k bI,aE,bQ v F H (Ext.refl r.cp) (.inl bR)⟩
 next ts av=>
  cases e
  obtain⟨a,vs,bf,v,ai,hx,aE,aB,bo,⟨b,us,dV,aa,fj⟩,_⟩:=nr k r aF av bI;subst dV;exact⟨_,ai,a,C,bf,_,_,rfl,hx,k.cls,kY k bI,aE,bQ _ F H (Ext.refl r.cp) (.inr ⟨ts,b,us,rfl,rfl,aa,fj⟩)⟩
 next=>cases e
def iX(k:fw X.K c C ns)(a5:bK X o (fB i))(bI:ns[j]?=some f:=by rfl)(aa:jF o f X.env (eval o X.env)=eval o X.env:=by rfl):cQ X (.Attribute o f pos) (fL c i j):=
 ee (pG a5 aa) λσ H Q ⟨aC,aT,O,F,ε,t,r,e,bQ⟩=>by
 simp only[fL,cz] at e;obtain⟨⟨m,aA⟩,aF,e⟩:=e;split at e
 next t' av=>
  cases e
  obtain⟨a,vs,bf,v,ai,hx,aE,aB,bo,bR,_⟩:=nr k r aF av bI;exact⟨_,ai,a,C,bf,_,v,rfl,hx,k.cls,kY k bI,aE,bQ v F H (Ext.refl r.cp) bR⟩
 next=>cases e
def C5{ε:Ev}{kvs:List (D.Key×T)}(e:nR c i j ε=some kvs):∃m aA,dq c i ε=some (m,aA)/\aA[j]?=some (.hr kvs):=by
 simp only[nR,cz] at e;obtain⟨⟨m,aA⟩,aF,e⟩:=e;split at e
 ·cases e
  exact⟨m,aA,aF,by assumption⟩
 ·cases e
def LA{ε:Ev}{ts:List T}(e:k' c i j ε=some ts):∃m aA,dq c i ε=some (m,aA)/\aA[j]?=some (.own ts):=by
 simp only[k',cz] at e;obtain⟨⟨m,aA⟩,aF,e⟩:=e;split at e
 ·cases e
  exact⟨m,aA,aF,by assumption⟩
 ·cases e
def Mt(k:fw X.K c C ns)(cn:X.A.units+1<cLine)(a5:bK X o (fB i))(aB:eT X a g)(bI:ns[j]?=some f:=by rfl)(aa:jF o f X.env (eval o X.env)=eval o X.env:=by rfl)(av:Eb a:=by intro _ _;rfl):
  cQ X (.Subscript (.Attribute o f apos) a pos) (nQ c i j g):=ee (aj7 cn (pG a5 aa) aB av) λσ H Q ⟨aC,aT,O,F,ε,t,r,e,bQ⟩=>by
 simp only[nQ,cz] at e;obtain⟨t',bC,key,gy,kvs,ff,sL⟩:=e;obtain⟨m,aA,aF,av⟩:=C5 ff;obtain⟨a,vs,bf,v,ai,hx,aE,aB,bo,⟨b,us,dV,aa,fj⟩,_⟩:=nr k r aF av bI;subst dV;refine⟨_,ai,a,C,bf,_,_,rfl,hx,k.cls,kY k bI,aE,aC,aT,O,F,ε,t',r,bC,λv aY H1 aO aP=>?_⟩;have sT:=aO.same.get aa;have vd:=ei.az (aO.az (K:=X.K)) fj;obtain⟨w,hw,kl⟩:=vd.get sL;refine⟨b,w,rfl,?_,bQ w aY H1 aO kl⟩;rw[uf gy aP,<- hw];exact qM.k sT
def SY{K:a6}{aC F O aY:af->Prop}{H H1:aw}{E:fR}{ε:Ev}{σ:a7.St}{b:af}(r:cx K aC E O F H ε σ)(x:Ext F H aY H1)(a5:H b=none):
  ∀(k:Nat) (u:aJ) (w:V),ε[k]?=some (some u)->σ[k]?=some (some w)->b∉dz H1 u w:=λk u w gy aK aa=>by
 obtain⟨fs,ai,ao⟩:=r.val k u gy;rw[aK] at ai;cases ai;rw[(ao.wJ x).2] at aa;obtain⟨o,e,_⟩:=ao.at aa;rw[a5] at e;cases e
def fZ(k:fw X.K c C ns)(a5:bK X o (fB i))(he:cQ X e g)(bI:ns[j]?=some f:=by rfl)(av:amF e (some (.Attribute o f apos)) pos.line X.env=pure false:=by rfl):
  gs X (.Assign [.Attribute o f apos] e pos) (eV c i j g):=hL (Mv a5 he av) λD σ H ⟨aC,aT,O,F,ε,o,r,e,bQ⟩=>by
 simp only[eV,cz,dY] at e;obtain⟨t,bC,ε',es,rfl⟩:=e;refine⟨aC,aT,O,F,ε,t,r,bC,λv aY H1 aO aP=>?_⟩;have bj:=r.ext aO;have hu:=es;unfold gF at hu;simp only[cz] at hu;obtain⟨⟨m,aA⟩,aF,_⟩:=hu;obtain⟨a,vs,bf,ai,hx,aE,aB,_⟩:=nk k bj aF;obtain⟨az,b_⟩:=bj.Bt (s:=.ag t) (v:=v) k aF ai aB es aP (λb aa=>by simp[dP] at aa) hx bI;refine⟨_,ai,a,C,bf,_,rfl,hx,k.cls,kY k bI,?_,bQ σ aY _ (aO.az.trans az) b_⟩;have:=k.z8;simp only[List.length_zip];omega
def rZ(k:fw X.K c C ns)(a5:bK X o (fB i))(he:uH X e g)(bI:ns[j]?=some f:=by rfl)(av:amF e (some (.Attribute o f apos)) pos.line X.env=pure false:=by rfl):
  gs X (.Assign [.Attribute o f apos] e pos) (j9 c i j g):=hL (Mv a5 he av) λD σ H ⟨aC,aT,O,F,ε,o,r,e,bQ⟩=>by
 simp only[j9,cz] at e;obtain⟨t,bC,e⟩:=e;split at e
 next ts=>
  simp only[dY] at e;obtain⟨ε',es,rfl⟩:=e;refine⟨aC,aT,O,F,ε,ts,r,bC,λb us aY H1 aO qa jy aa aP=>?_⟩;have bj:=r.ext aO;have hu:=es;unfold gF at hu;simp only[cz] at hu;obtain⟨⟨m,aA⟩,aF,_⟩:=hu;obtain⟨a,vs,bf,ai,hx,aE,aB,_⟩:=nk k bj aF;have hold:=SY r aO qa;obtain⟨az,b_⟩:=bj.Bt (s:=.own ts) (v:=.ref b) k aF ai aB es ⟨b,us,rfl,aa,aP⟩ (λd hd=>by
   have:d=b:=by simpa [dP,hZ] using hd
   subst this;exact⟨jy,r.fr _ qa,hold i _ _ (nh aF) ai,λk u w _ gy _ aK=>hold k u w gy aK⟩) hx bI
  refine⟨_,ai,a,C,bf,_,rfl,hx,k.cls,kY k bI,?_,bQ σ aY _ (aO.az.trans az) b_⟩
  have:=k.z8;simp only[List.length_zip];omega
 next=>cases e
def Sz{x y:T}{z:Int}(h:qI x y=some z):∃p q,x=.int p/\y=.int q/\z=p+q:=by
 unfold qI at h;split at h
 ·cases h
  exact⟨_,_,rfl,rfl,rfl⟩
 ·cases h
def T4(k:fw X.K c C ns)(a5:bK X o (fB i))(he:cQ X e g)(bI:ns[j]?=some f:=by rfl):gs X (.AugAssign (.Attribute o f apos) .Add e pos) (pW c i j g):=
 hL (aib a5 he Un) λD σ H ⟨aC,aT,O,F,ε,o,r,e,bQ⟩=>by
 simp only[pW,cz,dY] at e;obtain⟨x,ex,y,e4,z,sN,ε',es,rfl⟩:=e;simp only[fL,cz] at ex;obtain⟨⟨m,aA⟩,aF,ex⟩:=ex;split at ex
 next t' av=>
  cases ex
  obtain⟨p,q,rfl,rfl,rfl⟩:=Sz sN;obtain⟨a,vs,bf,v,ai,hx,aE,aB,bo,bR,_⟩:=nr k r aF av bI;refine⟨_,ai,a,C,bf,_,v,rfl,hx,k.cls,kY k bI,aE,aC,aT,O,F,ε,_,r,e4,λw aY H1 aO aP=>?_⟩;have bj:=r.ext aO;have ev:v=.int p:=by simpa [lQ,Rep] using bR
  have nP:w=.int q:=by simpa [Rep] using aP
  obtain⟨k9,fC,uQ,dF,lj,_q,mR,_⟩:=nk k bj aF;rw[ai] at dF;cases dF;obtain⟨az,b_⟩:=bj.Bt (s:=.ag (.int (p+q))) (v:=.int (p+q)) k aF ai mR es (by simp[lQ,Rep]) (λb aa=>by simp[dP] at aa) lj bI;refine⟨p,q,ev,nP,uQ,_,lj,?_,bQ σ aY _ (aO.az.trans az) b_⟩;have:=k.z8;simp only[List.length_zip];omega
 next=>cases ex
def Dv(k:fw X.K c C ns)(a5:bK X o (fB i)){ke e2:Pos}(he:cQ X e g)(bI:ns[j]?=some f:=by rfl)(aa:jF o f X.env (eval o X.env)=eval o X.env:=by rfl)
  (rj:bB [e] X.env=(false,eval e X.env)::bB [] X.env:=by rfl)
  (nT:jF (.Attribute o f apos) "append" X.env (eval (.Attribute o f apos) X.env)=eval (.Attribute o f apos) X.env:=by rfl)
  (wZ:((dZ e2 (bB [e] X.env)).all (λx=>!x.1) && (od e2 (oc [] X.env)).all (λx=>x.1.isSome)
   && decide (([e]:List bq).length+([]:List Keyword).length+(if ([]:List Keyword).isEmpty then 0 else 1)<30))=true:=by rfl)
  (nU:(ke.endLine==e2.line)=true:=by rfl) (w6:(dZ e2 (bB [] X.env)).any (·.1)=false:=by rfl)
  (l_:amF (.Call (.Attribute (.Attribute o f apos) "append" ke) [e] [] e2) none pos.line X.env=pure false:=by rfl):
  gs X (.Expr (.Call (.Attribute (.Attribute o f apos) "append" ke) [e] [] e2) pos) (l2 c i j g):=
 hL (yA (DK xV PySem.F.slot_list_append PySem.F.type_list_append Lr (pG a5 aa) (fu he h_ rj) nT wZ nU rj w6) l_) λD σ H ⟨aC,aT,O,F,ε,o,r,e,bQ⟩=>by
 simp only[l2,cz] at e;obtain⟨t,bC,ts,iq,e⟩:=e;split at e
 next aq=>
  simp only[dY] at e;obtain⟨ε',es,rfl⟩:=e;obtain⟨m,aA,aF,av⟩:=LA iq;obtain⟨a,vs,bf,v,ai,hx,aE,aB,bo,⟨b,us,dV,aa,fj⟩,_⟩:=nr k r aF av bI;subst dV;refine⟨_,ai,a,C,bf,_,_,rfl,hx,k.cls,kY k bI,aE,.inl ⟨rfl,_,fH.of aa⟩,aC,aT,O,F,ε,t,r,bC,λv aY H1 aO aP=>?_⟩;have bj:=r.ext aO;obtain⟨a1,af_,ame,v1,z_,G_,rf,Ac,O9,⟨bM,Qm,Zk,sT,vd⟩,_⟩:=nr k bj aF av bI;rw[ai] at z_;cases z_;have ev:af_=vs:=by rw[<- Ac.vals,<- (aB.keep ((aO.same.get hx).trans hx.symm)).vals]
  subst ev;rw[bo] at O9;cases O9;cases Zk;obtain⟨az,b_⟩:=bj.xl (s':=.own (ts++[t])) (o':=.lst (Qm++[v])) aF ai Ac es av bo (by simp[dP,hZ]) rfl λaz=>⟨b,_,rfl,dM,(vd.az az).append (bl.cons (aP.az az) bl.nil)⟩;exact⟨b,Qm,v,rfl,rfl,sT,by rw[lK,<- vd.length];exact aq,bQ σ aY _ (aO.az.trans az) b_⟩
 next=>cases e
def akR(k:fw X.K c C ns)(cn:X.A.units+1<cLine)(a5:bK X o (fB i)){pf:Pos}(aB:eT X a h)(he:cQ X e g)(bI:ns[j]?=some f:=by rfl)(aa:jF o f X.env (eval o X.env)=eval o X.env:=by rfl)
  (av:amF e (some (.Subscript (.Attribute o f apos) a pf)) pos.line X.env=pure false:=by rfl):
  gs X (.Assign [.Subscript (.Attribute o f apos) a pf] e pos) (sb c i j h g):=hL (ajY cn (pG a5 aa) aB he av) λD σ H ⟨aC,aT,O,F,ε,o,r,e,bQ⟩=>by
 simp only[sb,cz] at e;obtain⟨v,ev,t,bC,key,gy,kvs,ff,e⟩:=e;split at e
 next aq=>
  simp only[dY] at e;obtain⟨ε',es,rfl⟩:=e;obtain⟨m,aA,aF,av⟩:=C5 ff;refine⟨aC,aT,O,F,ε,v,r,ev,λKk aY H1 aO aP=>?_⟩;have bj:=r.ext aO;obtain⟨a,vs,bf,w,ai,hx,aE,aB,bo,⟨b,us,dV,aa,fj⟩,_⟩:=nr k bj aF av bI;subst dV;refine⟨_,ai,a,C,bf,_,_,rfl,hx,k.cls,kY k bI,aE,aC,aT,O,aY,ε,t,bj,bC,λvt dH ba bZ a9=>?_⟩;have b_:=bj.ext bZ;have GD:ic ba a c vs:=aB.keep ((bZ.same.get hx).trans hx.symm);have JT:=ei.az (bZ.az (K:=X.K)) fj;obtain⟨az,iK⟩:=b_.xl (s':=.hr (putD kvs key v)) (o':=.fo (putK us key Kk)) aF ai GD es av bo (by simp[dP,hZ]) rfl λaz=>⟨b,_,rfl,dM,ei.put (ei.az az JT) ((aP.ext bZ).az az)⟩;refine⟨b,_,rfl,?_,bQ σ dH _ ((aO.trans bZ).az.trans az) iK⟩;rw[uf gy a9];exact sq.k (bZ.same.get aa) (by rw[lK,<- fj.length];exact aq)
 next=>cases e
def ajR(k:fw X.K c C ns)(cn:X.A.units+1<cLine)(a5:bK X o (fB i)){pf:Pos}(aB:eT X a h)(he:cQ X e g)(bI:ns[j]?=some f:=by rfl)(aa:jF o f X.env (eval o X.env)=eval o X.env:=by rfl)
  (ZQ:∀eo kj new,augStore a eo kj new=(do holding [new,eo,kj] (setItem eo kj new);release [new,eo,kj] [];pure .next):=by intros;rfl):
  gs X (.AugAssign (.Subscript (.Attribute o f apos) a pf) .Add e pos) (sj c i j h g):=hL (ajZ cn (pG a5 aa) aB he Un ZQ) λD σ H ⟨aC,aT,O,F,ε,o,r,e,bQ⟩=>by
 simp only[sj,cz] at e;obtain⟨t,bC,key,gy,kvs,ff,x,sL,y,e4,z,sN,e⟩:=e;split at e
 next aq=>
  simp only[dY] at e;obtain⟨ε',es,rfl⟩:=e;obtain⟨p,q,rfl,rfl,rfl⟩:=Sz sN;obtain⟨m,aA,aF,av⟩:=C5 ff;obtain⟨a,vs,bf,w,ai,hx,aE,aB,bo,⟨b,us,dV,aa,fj⟩,_⟩:=nr k r aF av bI;subst dV;refine⟨_,ai,a,C,bf,_,_,rfl,hx,k.cls,kY k bI,aE,aC,aT,O,F,ε,t,r,bC,λvt aY H1 aO aP=>?_⟩;have bj:=r.ext aO;have vd:=ei.az (aO.az (K:=X.K)) fj;have sT:=aO.same.get aa;obtain⟨w,hw,kl⟩:=vd.get sL;have nP:w=.int p:=by simpa [Rep] using kl
  subst nP;refine⟨b,_,rfl,by rw[uf gy aP,<- hw];exact qM.k sT,aC,aT,O,aY,ε,_,bj,e4,λKk dH ba bZ a9=>?_⟩;have ev:Kk=.int q:=by simpa [Rep] using a9
  subst ev;refine⟨p,q,rfl,rfl,?_⟩;have b_:=bj.ext bZ;have qm:=aO.trans bZ;have GD:ic ba a c vs:=aB.keep ((qm.same.get hx).trans hx.symm);have JT:=ei.az (qm.az (K:=X.K)) fj;obtain⟨az,iK⟩:=b_.xl (s':=.hr (putD kvs key (.int (p+q)))) (o':=.fo (putK us key (.int (p+q)))) aF ai GD es av bo (by simp[dP,hZ]) rfl λaz=>⟨b,_,rfl,dM,ei.put (ei.az az JT) (by simp[Rep])⟩;refine⟨_,?_,bQ σ dH _ (qm.az.trans az) iK⟩;rw[uf gy aP];exact sq.k (qm.same.get aa) (by rw[lK,<- fj.length];exact aq)
 next=>cases e
end
end
section
variable [cI]
noncomputable def sl(K:a6)(F:af->Prop)(H:aw)(σ:a7.St):List oB->List aJ->List V->Prop
| [],[],[]=>True
|.v _::as,s::ss,v::vs=>(∃t,s=.ag t/\Rep K F H t v)/\sl K F H σ as ss vs
|.o i::as,s::ss,v::vs=>σ[i]?=some (some v)/\sl K F H σ as ss vs
|_,_,_=>False
noncomputable def afF(K:a6)(as:List oB):gi:=λσ H Q=>∃aC E O F ε ss,cx K aC E O F H ε σ/\qU as ε=some ss/\∀vs aG ae,Ext F H aG ae->sl K aG ae σ as ss vs->Q vs ae
abbrev anb(X:aV)(es:List bq)(as:List oB):Prop:=hp X es (afF X.K as)
def UP{X:aV}{e:List bq}{t t':gi}(h:hp X e t)(k:∀σ H Q,t' σ H Q->t σ H Q):hp X e t':=yX h k
section
variable {X:aV}{e:bq}{es:List bq}{as:List oB}{f:bH}{i:Nat}
def DC:anb X [] []:=UP h_ λσ H Q ⟨aC,E,O,F,ε,ss,r,e,k⟩=>by
 cases e
 exact k [] F H (Ext.refl r.cp) trivial
def R4{ε:Ev}{s:aJ}(h:Jy i ε=some s):∃m c aA,s=.obj m c aA/\ε[i]?=some (some s):=by
 unfold Jy at h;split at h
 next m c aA e=>
  cases h
  exact⟨m,c,aA,rfl,e⟩
 next=>cases h
def zj(ai:bK X e (fB i))(ao:anb X es as)(av:bB (e::es) X.env=(false,eval e X.env)::bB es X.env:=by rfl):anb X (e::es) (.o i::as):=UP (fu ai ao av) λσ H Q ⟨aC,E,O,F,ε,ss,r,e,k⟩=>by
 simp only[qU,cz,dY] at e;obtain⟨s,hu,us,f9,rfl⟩:=e;obtain⟨m,c,aA,_,av⟩:=R4 hu;obtain⟨v,ai,_⟩:=r.val i s av;exact⟨v,ai,aC,E,O,F,ε,us,r,f9,λvs dH ba bZ a9=>k _ dH ba bZ ⟨ai,a9⟩⟩
end
noncomputable def y6(K:a6)(F:af->Prop)(H:aw)(ss:List aJ)(vs:List V):Prop:=Paired (λs v=>s.iH=false/\d5 K ⟨H,0⟩ (λa=>H a=none) F H s v) ss vs
noncomputable def J4(K:a6)(n:Nat)(d:List aJ->Option T):kc:=λvs H Q _=>vs.length=n/\∃F ss t,fQ F H/\y6 K F H ss vs/\d ss=some t/\∀v aG ae,Ext F H aG ae->Rep K aG ae t v->Q v ae
section
variable {K:a6}{F aG aC O:af->Prop}{H ae:aw}{E lW:fR}
theorem Paired.get{α β:Type}{R:α->β->Prop}:∀{xs:List α} {ys:List β} {i:Nat} {x:α},Paired R xs ys->xs[i]?=some x->∃y,ys[i]?=some y/\R x y
|_,_,i,x,.nil,e=>by simp at e
|_,_,0,x,.cons r _,e=>by
  simp at e;subst e;exact⟨_,rfl,r⟩
|_,_,i+1,x,.cons _ t,e=>by
  obtain⟨y,ai,ao⟩:=Paired.get (i:=i) (x:=x) t (by simpa using e);exact⟨y,by simpa using ai,ao⟩
def yo{ss:List aJ}{n i:Nat}{s:aJ}(h:(kv n ss)[i]?=some (some s)):ss[i]?=some s:=by
 unfold kv at h;by_cases aM:i<ss.length
 ·rw[vj (by simpa using aM),lE,hH aM] at h;rw[hH aM];simpa using h
 ·rw[vi (by simpa using aM),List.getElem?_replicate] at h;split at h <;> cases h
def RW{vs:List V}{n i:Nat}{v:V}(h:vs[i]?=some v):(vs.map some++ed n none)[i]?=some (some v):=by
 have aM:=(gH.mp h).1;rw[vj (by simpa using aM),lE,h];rfl
def v8{m:gr}{c:Nat}{aA:List aJ}{v:V}(r:d5 K E O F H (.obj m c aA) v)(lW:fR)(nB:af->Prop)(he:∀b∈dz H (.obj m c aA) v,lW.h b≠none):d5 K lW nB F H (.obj .c1 c aA) v:=by
 have cq:=r;obtain⟨a,vs,rfl,aB,hf,a8,fX,i6⟩:=r;rw[ku aB] at he;exact⟨a,vs,rfl,aB,hf,a8,λb aa=>⟨(fX b aa).1,he b aa⟩,λz=>by cases z⟩
def Q6{ss:List aJ}{vs:List V}(cp:fQ F H)(q:y6 K F H ss vs)(n:Nat):cx K F ⟨H,0⟩ (λa=>H a=none) F H (kv n ss) (vs.map some++ed (n - vs.length) none):=by
 have aE:ss.length=vs.length:=Paired.length q;refine⟨by simp[kv,aE],λi s e=>?_,λi j s u v w jv aD aL dG=>?_,Ext.refl cp,λ_ h=>h,λ_ h=>h⟩
 ·obtain⟨v,bo,_,bR⟩:=Paired.get q (yo e);exact⟨v,RW bo,bR⟩
 ·obtain⟨_,_,z,_⟩:=Paired.get q (yo aD);rw[z] at dG;cases dG
theorem MF{ε:Ev}{σ:a7.St}(r:cx K aC E O F H ε σ):∀{as:List oB} {ss:List aJ} {vs:List V},qU as ε=some ss->sl K F H σ as ss vs->y6 K F H (ss.map JV) vs
| [],ss,vs,e,h=>by
  cases e
  cases vs with
  |nil=>exact .nil
  |cons v vs=>exact h.elim
|.v f::as,ss,vs,e,h=>by
  simp only[qU,cz,dY] at e;obtain⟨t,bC,us,f9,rfl⟩:=e;cases vs with
  |nil=>exact h.elim
  |cons v vs=>
   obtain⟨⟨t',bP,er⟩,h⟩:=h;cases bP;exact .cons ⟨rfl,er⟩ (MF r f9 h)
|.o i::as,ss,vs,e,h=>by
  simp only[qU,cz,dY] at e;obtain⟨s,es,us,f9,rfl⟩:=e;cases vs with
  |nil=>exact h.elim
  |cons v vs=>
   obtain⟨bo,h⟩:=h;obtain⟨m,c,aA,rfl,av⟩:=R4 es;obtain⟨je,o4,rs⟩:=r.val i _ av;rw[bo] at o4;cases o4;refine .cons ⟨rfl,v8 rs _ _ λb aa=>?_⟩ (MF r f9 h);obtain⟨o,e,_⟩:=rs.at aa;show H b≠none;rw[e];exact λz=>by cases z
theorem Th:∀{ts:List T} {vs:List V},bl K F H ts vs->y6 K F H (ts.map .ag) vs
| [],vs,h=>by
  simp only[bl] at h;subst h;exact .nil
|t::ts,vs,h=>by
  simp only[bl] at h;obtain⟨v,z,rfl,q,h⟩:=h;exact .cons ⟨rfl,q⟩ (Th h)
end
section
variable {P:cC}{w:b6}{K:a6}{mg:Str->Option aj}{base:bz}
def TA{x qual:Str}{st:Stmt}{f:af}{fd:et}{N ps:List Str}{k:Nat}{b:bF}(F:cG K x qual st f fd)(S:cO N ps (bx st))
  (aa:∀(bN:aj) (A:cH) (outer:List Env) (s:aH) (H:aw) (E:e0),c2 k (A.deeper (envOfC qual (bx st) s.heap.objs.size f bN)) ->
   hR (e3 dt P w K mg base N qual (bx st) f bN A outer s H E).ey (fv st) b):
  eR P w K mg base dt (k+1) f fd ps (J4 K ps.length (gE b N.length)):=by
 refine F.ok S (λvs H Q E h=>h.1) λbN A outer s H vs Q E ax h=>⟨_,aa bN A outer s H E ax,?_⟩
 obtain⟨aE,F,ss,t,cp,q,e,i5⟩:=h;simp only[gE,cz] at e;obtain⟨o,eE,e⟩:=e;refine⟨F,⟨H,0⟩,λa=>H a=none,F,_,o,?_,eE,?_⟩
 ·unfold a7.start;exact Q6 cp q N.length
 ·cases o with
  |er t'=>
   cases e
   exact λv aG ae x q=>i5 v aG ae x q
  |bO ε'=>
   cases e
   exact λct aG ae _ r=>i5 _ aG ae r.ent (by simp[Rep])
  |gx _=>cases e
  |cR _=>cases e
  |iL _ _=>cases e
  |ly _=>cases e
structure qK(P:cC)(w:b6)(K:a6)(mg:Str->Option aj)(base:bz)(x:Str)(k n:Nat)(d:List aJ->Option T):Prop where
 ex:∃bT fd ps,eR P w K mg base dt k bT fd ps (J4 K n d)/\mg x=some (.ref bT)/\m9 K (.ref bT)=true/\fG K fd ps []
theorem qK.mono{x:Str}{k n j:Nat}{d:List aJ->Option T}(c:qK P w K mg base x j n d)(h:j<=k):qK P w K mg base x k n d:=by
 obtain⟨bT,fd,ps,F,r⟩:=c.ex;exact⟨bT,fd,ps,F.mono h,r⟩
def alw{x:Str}{st:Stmt}{f:af}{fd:et}{N ps:List Str}{k:Nat}{b:bF}(F:cG K x x st f fd)(S:cO N ps (bx st))(bd:fG K fd ps [])(m:mg x=some (.ref f))
  (aa:∀(bN:aj) (A:cH) (outer:List Env) (s:aH) (H:aw) (E:e0),c2 k (A.deeper (envOfC x (bx st) s.heap.objs.size f bN)) ->
   hR (e3 dt P w K mg base N x (bx st) f bN A outer s H E).ey (fv st) b):qK P w K mg base x (k+1) ps.length (gE b N.length):=⟨f,fd,ps,TA F S aa,m,F.az,bd⟩
structure fl(P:cC)(w:b6)(K:a6)(mg:Str->Option aj)(base:bz)(C:af)(m:Str)(k n:Nat)(d:List aJ->Option T):Prop where
 ex:∃bT fd ps,eR P w K mg base dt k bT fd ps (J4 K n d)/\Meth K C m bT/\fG K fd ps []
theorem fl.mono{C:af}{m:Str}{k n j:Nat}{d:List aJ->Option T}(c:fl P w K mg base C m j n d)(h:j<=k):fl P w K mg base C m k n d:=by
 obtain⟨bT,fd,ps,F,r⟩:=c.ex;exact⟨bT,fd,ps,F.mono h,r⟩
def pI{C:af}{m qual:Str}{st:Stmt}{f:af}{fd:et}{N ps:List Str}{k:Nat}{b:bF}(F:cG K m qual st f fd)(S:cO N ps (bx st))(bd:fG K fd ps [])(hA:Meth K C m f)
  (aa:∀(bN:aj) (A:cH) (outer:List Env) (s:aH) (H:aw) (E:e0),c2 k (A.deeper (envOfC qual (bx st) s.heap.objs.size f bN)) ->
   hR (e3 dt P w K mg base N qual (bx st) f bN A outer s H E).ey (fv st) b):fl P w K mg base C m (k+1) ps.length (gE b N.length):=⟨f,fd,ps,TA F S aa,hA,bd⟩
end
theorem vJ:∀{fM:List bH} {ε:Ev} {us:List T},args fM ε=some us->us.length=fM.length
| [],ε,us,e=>by
  cases e
  rfl
|g::fM,ε,us,e=>by
  simp only[args,cz,dY] at e;obtain⟨t,_,vs,ev,rfl⟩:=e;simp[vJ ev]
theorem sl.len{K:a6}{F:af->Prop}{H:aw}{σ:a7.St}:∀{as:List oB} {ss:List aJ} {vs:List V},sl K F H σ as ss vs->vs.length=as.length
| [],[],[],_=>rfl
|.v _::as,s::ss,v::vs,h=>by simp[sl.len h.2]
|.o i::as,s::ss,v::vs,h=>by simp[sl.len h.2]
| [],[],_::_,h=>h.elim
| [],_::_,_,h=>h.elim
|.v _::_,[],_,h=>h.elim
|.v _::_,_::_,[],h=>h.elim
|.o _::_,[],_,h=>h.elim
|.o _::_,_::_,[],h=>h.elim
section
variable {X:aV}{k n c C i:Nat}{ns:List Str}{d:List aJ->Option T}{x m:Str}{p pos apos:Pos}{o e:bq}{es:List bq}{as:List oB}{aA:List bH}
def Dl(ie:qK X.prog X.w X.K X.mg X.base x k n d)(ax:c2 k X.A)(aB:anb X (e::es) as)(bt:ew X x:=by rfl)(a5:as.length=n:=by rfl)(gn:(x==("__debug__":Str))=false:=by decide)
  (he:bB (e::es) X.env=(false,eval e X.env)::bB es X.env:=by rfl) (hpl:(dZ pos (bB es X.env)).any (·.1)=false:=by rfl):cQ X (.Call (.Name x p) (e::es) [] pos) (oy d as):=by
 obtain⟨bT,fd,ps,F,hm,az,b⟩:=ie.ex;refine ee (yB F ax bt hm az b .nil ow aB gn he hpl) λσ H Q ⟨aC,E,O,F,ε,t,r,e,k⟩=>?_;simp only[oy,cz] at e;obtain⟨ss,es,ff⟩:=e;refine⟨aC,E,O,F,ε,ss,r,es,λvs aY H1 aO q=>⟨?_,aY,ss.map JV,t,aO.cp,?_,ff,λv aG ae bZ a9=>k v aG ae (aO.trans bZ) a9⟩⟩
 ·rw[amE,q.len,a5]
 ·rw[amE];exact MF (r.ext aO) es q
def uc(fV:fw X.K c C ns)(ie:fl X.prog X.w X.K X.mg X.base C m k n d)(ax:c2 k X.A)(a5:bK X o (fB i))(aB:lZ X (e::es) aA){pl:Sem Bool}(hm:m∉ns:=by decide +kernel)(aE:aA.length+1=n:=by rfl)
  (gW:bB (e::es) X.env=(false,eval e X.env)::bB es X.env:=by rfl) (hpl:(dZ pos (bB es X.env)).any (·.1)=false:=by rfl)
  (bh:eval (.Call (.Attribute o m apos) (e::es) [] pos) X.env=(do
   let eo <- eval o X.env
   standAt apos.atName
   let (f,first) <- holding [eo] (getMethod eo m pl)
   callWith pos f first (dZ pos (bB (e::es) X.env)) (od pos (oc [] X.env))):=by rfl):cQ X (.Call (.Attribute o m apos) (e::es) [] pos) (ef c d i aA):=by
 obtain⟨bT,fd,ps,F,hA,b⟩:=ie.ex;refine ee (Tq a5 fV.cls hA F ax b .nil ow aB gW hpl bh) λσ H Q ⟨aC,E,O,F,ε,t,r,e,k⟩=>?_;simp only[ef,cz] at e;obtain⟨⟨md,os⟩,aF,ts,bC,ff⟩:=e;obtain⟨a,vs,bf,ai,hx,_⟩:=nk fV r aF;refine⟨_,ai,a,bf,_,rfl,hx,tV hm,aC,E,O,F,ε,ts,r,bC,λws aY H1 aO q=>⟨?_,aY,_,t,aO.cp,?_,ff,λv aG ae bZ a9=>k v aG ae (aO.trans bZ) a9⟩⟩
 ·rw[amE,e_,<- q.length,vJ bC,aE]
 ·rw[amE];have bj:=r.ext aO;obtain⟨je,dF,rs⟩:=bj.val i _ (nh aF);rw[ai] at dF;cases dF;refine .cons ⟨rfl,v8 rs _ _ λb aa=>?_⟩ (Th q);obtain⟨o,e,_⟩:=rs.at aa;show H1 b≠none;rw[e];exact λz=>by cases z
def qz(fV:fw X.K c C ns)(ie:fl X.prog X.w X.K X.mg X.base C m k n d)(ax:c2 k X.A)(a5:bK X o (fB i)){pl:Sem Bool}(hm:m∉ns:=by decide +kernel)(aE:1=n:=by rfl)
  (bh:eval (.Call (.Attribute o m apos) [] [] pos) X.env=(do
   let eo <- eval o X.env
   standAt apos.atName
   let (f,first) <- holding [eo] (getMethod eo m pl)
   callWith pos f first (dZ pos (bB [] X.env)) (od pos (oc [] X.env))):=by rfl):cQ X (.Call (.Attribute o m apos) [] [] pos) (ef c d i []):=by
 obtain⟨bT,fd,ps,F,hA,b⟩:=ie.ex;refine ee (C_ a5 fV.cls hA F ax b .nil ow bh) λσ H Q ⟨aC,E,O,F,ε,t,r,e,k⟩=>?_;simp only[ef,cz] at e;obtain⟨⟨md,os⟩,aF,ts,bC,ff⟩:=e;cases bC;obtain⟨a,vs,bf,ai,hx,_⟩:=nk fV r aF;refine⟨_,ai,a,bf,_,rfl,hx,tV hm,⟨?_,F,_,t,r.cp,?_,ff,λv aG ae bZ a9=>k v aG ae bZ a9⟩⟩
 ·simp[aE]
 ·obtain⟨je,dF,rs⟩:=r.val i _ (nh aF);rw[ai] at dF;cases dF;refine .cons ⟨rfl,v8 rs _ _ λb aa=>?_⟩ .nil;obtain⟨o,e,_⟩:=rs.at aa;show H b≠none;rw[e];exact λz=>by cases z
end
end
section
variable [cI]
open Classical in
noncomputable def hN(H:aw)(P:List af)(a:af):fR:=⟨λb=>if b∈P then none else H b,a⟩
section
variable {K:a6}{F aG aC O:af->Prop}{H ae:aw}{E:fR}{P:List af}{a b:af}{o:d7}{ε:Ev}{σ:a7.St}{c i:Nat}{m:gr}{aA hW:List aJ}
def Dd(h:b∈P):(hN H P a).h b=none:=if_pos h
def t4(h:b∉P):(hN H P a).h b=H b:=if_neg h
def CM(h:(hN H P a).h b=none):b∈P\/H b=none:=by
 by_cases z:b∈P
 ·exact .inl z
 ·rw[t4 z] at h;exact .inr h
def ahO(h:(hN H P a).h b=some o):b∉P/\H b=some o:=by
 by_cases z:b∈P
 ·rw[Dd z] at h;cases h
 ·exact⟨z,by rw[t4 z] at h;exact h⟩
def ajn(d:fQ F H):Ext F (hN H P a).h F H:=⟨λ_ _ q=>.inl (ahO q).2,λ_ h=>h,λ_ h=>.inl h,d⟩
def akj{v:V}(r:d5 K E O F H (.obj m c aA) (.ref a)):d5 K (hN H (dz H (.obj m c aA) (.ref a)) a) (λb=>(hN H (dz H (.obj m c aA) (.ref a)) a).h b=none) F H (.obj .cy c aA) (.ref a):=by
 obtain⟨k9,vs,e,aB,hf,a8,fX,i6⟩:=r;cases e;rw[ku aB];exact⟨a,vs,rfl,aB,hf,a8,λb aa=>⟨(fX b aa).1,Dd aa⟩,λ_=>rfl⟩
def cx.back(r:cx K aC E O F H ε σ)(e:ε[i]?=some (some (.obj m c aA)))(hm:m≠.c1)(ai:σ[i]?=some (some (.ref a)))(gB:P=dz H (.obj m c aA) (.ref a))(x:Ext F (hN H P a).h aG ae)
  (rs:d5 K (hN H P a) (λb=>(hN H P a).h b=none) aG ae (.obj .cy c hW) (.ref a)):dU K F H aG ae/\cx K aC E O aG ae (ε.set i (some (.obj m c hW))) σ:=by
 obtain⟨v,dF,lx⟩:=r.val i _ e;rw[ai] at dF;cases dF;have w5:(aJ.obj m c aA).iH=true:=Dw hm;have s9:∀b∈P,(∃o,H b=some o/\amL o)/\¬F b/\O b:=λb aa=>by
  rw[gB] at aa;exact⟨lx.at aa,(lx.held aa).1,(lx.held aa).2.1 w5⟩
 have jd:∀b o,b∉P->H b=some o->(∀ps,o≠.h4 ps)->ae b=some o:=λb o aa e n=>x.same.get (by rw[t4 aa];exact e) n;have az:dU K F H aG ae:=by
  refine⟨λb xs q=>?_,λb xs f q=>⟨x.sub b f,?_⟩⟩
  ·rcases q with q|q
   ·refine .inl ?_
    have nb:b∉P:=λz=>by
     obtain⟨⟨o,eE,aF⟩,_⟩:=s9 b z;rcases q with q|⟨_,q⟩ <;> (rw[eE] at q;cases q;exact aF.cases (λ_ z=>by cases z) (λ_ z=>by cases z) (λ_ _ _ z=>by cases z))
    rcases q with q|⟨u,q⟩
    ·exact .inl (jd b _ nb q λ_ z=>by cases z)
    ·exact .inr ⟨u,jd b _ nb q λ_ z=>by cases z⟩
   ·exact .inr q
  ·have nb:b∉P:=λz=>(s9 b z).2.1 f;rcases q with q|⟨u,q⟩
   ·exact .inl (jd b _ nb q λ_ z=>by cases z)
   ·exact .inr ⟨u,jd b _ nb q λ_ z=>by cases z⟩
 have Py:∀b,aG b->F b\/b∈P\/H b=none:=λb f=>by
  rcases x.new b f with z|z
  ·exact .inl z
  ·exact .inr (CM z)
 have keep:∀(j:Nat) (u:aJ) (w:V),i≠j->ε[j]?=some (some u)->σ[j]?=some (some w)->d5 K E O F H u w->(∀b∈dz H u w,b∉P)/\d5 K E O aG ae u w/\dz ae u w=dz H u w:=by
  intro j u w jv sM bI c7;have te:∀b∈dz H u w,b∉P:=λb aa z=>by
   cases rx:u.iH with
   |true=>exact r.ne i j _ u _ w jv e sM w5 rx ai bI b (gB▸z) aa
   |false=>exact (c7.held aa).2.2 rx (r.o0 b (s9 b z).2.2)
  refine⟨te,c7.keep az (λb aa=>?_) (λb aa f=>?_) λ_ _ o=>o⟩
  ·obtain⟨o,eE,aF⟩:=c7.at aa;rw[eE];exact jd b o (te b aa) eE λps z=>by subst z;exact aF.cases (λ_ z=>by cases z) (λ_ z=>by cases z) (λ_ _ _ z=>by cases z)
  ·rcases Py b f with z|z|z
   ·exact z
   ·exact absurd z (te b aa)
   ·obtain⟨o,eE,_⟩:=c7.at aa;rw[z] at eE;cases eE
 obtain⟨k9,vs,ea,aB,hf,a8,fX,_⟩:=rs;cases ea;have i2:∀b∈a::dk hW vs,¬aG b/\(b∈P\/H b=none):=λb aa=>by
  obtain⟨n,q⟩:=fX b aa;exact⟨n,CM q⟩
 have amv:(aJ.obj m c hW).iH=true:=Dw hm;have abf:m=.cy->a=E.i6:=by
  obtain⟨_,_,cm,_,_,_,_,i6⟩:=lx;cases cm;exact i6
 have adx:∀b,¬aG b/\O b->wu E O aG m b:=λb h=>by
  cases m with
  |c1=>exact absurd rfl hm
  |own=>exact h
  |cy=>exact h
 have xy:d5 K E O aG ae (.obj m c hW) (.ref a):=⟨a,vs,rfl,aB,hf,a8,λb aa=>adx b ⟨(i2 b aa).1,by
  rcases (i2 b aa).2 with z|z
  ·exact (s9 b z).2.2
  ·exact r.fr b z⟩,abf⟩
 have hc:dz ae (.obj m c hW) (.ref a)=a::dk hW vs:=ku aB;have apart:∀(j:Nat) (u:aJ) (w:V),i≠j->ε[j]?=some (some u)->σ[j]?=some (some w)->d5 K E O F H u w->∀b∈dz ae (.obj m c hW) (.ref a),b∉dz H u w:=λj u w jv sM bI c7 b aa ju=>by
  rw[hc] at aa;rcases (i2 b aa).2 with z|z
  ·exact (keep j u w jv sM bI c7).1 b ju z
  ·obtain⟨o,eE,_⟩:=c7.at ju;rw[z] at eE;cases eE
 refine⟨az,⟨by simp[r.len],λj u bP=>?_,λj k u w e9 mi o1 aD aL dG eN aP a9=>?_,⟨λb o q=>?_,λb f=>x.sub b (r.ent.sub b f),λb f=>?_,x.cp⟩,r.o0,λb bP=>?_⟩⟩
 ·rcases ni bP with ⟨rfl,p1,aE⟩|⟨ne,p1⟩
  ·cases p1
   exact⟨_,ai,xy⟩
  ·obtain⟨w,ao,c7⟩:=r.val j u p1;exact⟨w,ao,(keep j u w ne p1 ao c7).2.1⟩
 ·rcases ni aD with ⟨rfl,bP,aE⟩|⟨ne1,kf⟩
  ·rcases ni aL with ⟨rfl,_,_⟩|⟨ne2,hs⟩
   ·exact absurd rfl o1
   ·cases bP
    rw[ai] at aP;cases aP;obtain⟨fs,ao,c7⟩:=r.val k w hs;rw[a9] at ao;cases ao;rw[(keep k w mi ne2 hs a9 c7).2.2];exact apart k w mi ne2 hs a9 c7
  ·obtain⟨v1,ao,bj⟩:=r.val j u kf;rw[aP] at ao;cases ao;rw[(keep j u e9 ne1 kf aP bj).2.2];rcases ni aL with ⟨rfl,bP,aE⟩|⟨ne2,hs⟩
   ·cases bP
    rw[ai] at a9;cases a9;intro b aa ju;exact apart j u e9 ne1 kf aP bj b ju aa
   ·obtain⟨fs,bE,b_⟩:=r.val k w hs;rw[a9] at bE;cases bE;rw[(keep k w mi ne2 hs a9 b_).2.2];exact r.ne j k u w e9 mi o1 kf hs dG eN aP a9
 ·have nb:b∉P:=λz=>by
   rw[r.o0 b (s9 b z).2.2] at q;cases q
  rcases r.ent.same b o q with z|⟨ps,xv,aD,z⟩
  ·exact x.same b o (by rw[t4 nb];exact z)
  ·rcases x.same b _ (by rw[t4 nb];exact z) with gg|⟨_,xw,_,gg⟩
   ·exact .inr ⟨ps,xv,aD,gg⟩
   ·exact .inr ⟨ps,xw,aD,gg⟩
 ·rcases Py b f with z|z|z
  ·exact r.ent.new b z
  ·exact .inr (r.o0 b (s9 b z).2.2)
  ·exact .inr (r.o0 b (r.fr b z))
 ·rcases CM (x.same.none bP) with z|z
  ·exact (s9 b z).2.2
  ·exact r.fr b z
end
noncomputable def tv(K:a6)(n c p:Nat)(d:List aJ->Option (T×List aJ)):kc:=λvs H Q _=>vs.length=n/\∃(F:af->Prop) (ss:List aJ) (a:af) (P:List af) (aA:List aJ) (r:T×List aJ),fQ F H/\vs[p]?=some (.ref a)/\ss[p]?=some (.obj .cy c aA) /\
 Paired (λs v=>d5 K (hN H P a) (λb=>(hN H P a).h b=none) F H s v) ss vs/\(∀q s,q≠p->ss[q]?=some s->s.iH=false)/\d ss=some r /\
 ∀v aG ae,Ext F (hN H P a).h aG ae->Rep K aG ae r.1 v->d5 K (hN H P a) (λb=>(hN H P a).h b=none) aG ae (.obj .cy c r.2) (.ref a)->Q v ae
section
variable {P:cC}{w:b6}{K:a6}{mg:Str->Option aj}{base:bz}
def ahn{c p:Nat}{ε:Ev}{aA:List aJ}(h:j6 c p ε=some aA):ε[p]?=some (some (.obj .cy c aA)):=by
 unfold j6 at h;split at h
 next bW hW e=>
  split at h
  next au=>
   cases h
   rw[e,au]
  next=>cases h
 next=>cases h
def Mc{x qual:Str}{st:Stmt}{f:af}{fd:et}{N ps:List Str}{k c p:Nat}{b:bF}(F:cG K x qual st f fd)(S:cO N ps (bx st))
  (aa:∀(bN:aj) (A:cH) (outer:List Env) (s:aH) (H:aw) (E:e0),c2 k (A.deeper (envOfC qual (bx st) s.heap.objs.size f bN)) ->
   hR (e3 dt P w K mg base N qual (bx st) f bN A outer s H E).ey (fv st) b):
  eR P w K mg base dt (k+1) f fd ps (tv K ps.length c p (runM c p b N.length)):=by
 refine F.ok S (λvs H Q E h=>h.1) λbN A outer s H vs Q E ax h=>⟨_,aa bN A outer s H E ax,?_⟩
 obtain⟨aE,F,ss,a,sy,aA,r,cp,bo,av,q,aF,e,i5⟩:=h;simp only[runM,cz] at e;obtain⟨o,eE,e⟩:=e;have hlen:ss.length=vs.length:=Paired.length q;refine⟨F,hN H sy a,λb=>(hN H sy a).h b=none,F,_,o,?_,eE,?_⟩
 ·unfold a7.start;refine⟨by simp[kv,hlen],λi s e=>?_,λi j s u v w jv aD aL dG eN=>?_,ajn cp,λ_ h=>h,λb aa=>?_⟩
  ·obtain⟨v,bo,bR⟩:=Paired.get q (yo e);exact⟨v,RW bo,bR⟩
  ·by_cases aM:i=p
   ·subst aM;rw[aF j u (Ne.symm jv) (yo aL)] at eN;cases eN
   ·rw[aF i s aM (yo aD)] at dG;cases dG
  ·by_cases z:b∈sy
   ·exact Dd z
   ·exact (t4 z).trans aa
 ·have fin:∀{ε':Ev} {ct:a7.St} {aG:af->Prop} {ae:aw} {hW:List aJ},cx K F (hN H sy a) (λb=>(hN H sy a).h b=none) aG ae ε' ct->j6 c p ε'=some hW->d5 K (hN H sy a) (λb=>(hN H sy a).h b=none) aG ae (.obj .cy c hW) (.ref a):=λcq iq=>by
   obtain⟨je,_,rs⟩:=cq.val p _ (ahn iq);have xy:=rs;obtain⟨k9,_,rfl,_,_,_,_,i6⟩:=rs;have:k9=a:=i6 rfl;subst this;exact xy
  cases o with
  |er t'=>cases e
  |bO ε'=>
   simp only[dY] at e;obtain⟨hW,iq,rfl⟩:=e;exact λct aG ae _ cq=>i5 _ aG ae cq.ent (by simp[Rep]) (fin cq iq)
  |gx _=>cases e
  |cR _=>cases e
  |iL t ε'=>
   simp only[dY] at e;obtain⟨hW,iq,rfl⟩:=e;exact λv ct aG ae cq bR=>i5 v aG ae cq.ent bR (fin cq iq)
  |ly _=>cases e
structure cV(P:cC)(w:b6)(K:a6)(mg:Str->Option aj)(base:bz)(C:af)(c:Nat)(m:Str)(k n:Nat)(d:List aJ->Option (T×List aJ)):Prop where
 ex:∃bT fd ps,eR P w K mg base dt k bT fd ps (tv K n c 0 d)/\Meth K C m bT/\fG K fd ps []
theorem cV.mono{C:af}{c:Nat}{m:Str}{k n j:Nat}{d:List aJ->Option (T×List aJ)}(h:cV P w K mg base C c m j n d)(bI:j<=k):cV P w K mg base C c m k n d:=by
 obtain⟨bT,fd,ps,F,r⟩:=h.ex;exact⟨bT,fd,ps,F.mono bI,r⟩
def hK{C:af}{m qual:Str}{st:Stmt}{f:af}{fd:et}{N ps:List Str}{k c:Nat}{b:bF}(F:cG K m qual st f fd)(S:cO N ps (bx st))(bd:fG K fd ps [])(hA:Meth K C m f)
  (aa:∀(bN:aj) (A:cH) (outer:List Env) (s:aH) (H:aw) (E:e0),c2 k (A.deeper (envOfC qual (bx st) s.heap.objs.size f bN)) ->
   hR (e3 dt P w K mg base N qual (bx st) f bN A outer s H E).ey (fv st) b):cV P w K mg base C c m (k+1) ps.length (runM c 0 b N.length):=⟨f,fd,ps,Mc F S aa,hA,bd⟩
structure so(P:cC)(w:b6)(K:a6)(mg:Str->Option aj)(base:bz)(x:Str)(c p k n:Nat)(d:List aJ->Option (T×List aJ)):Prop where
 ex:∃bT fd ps,eR P w K mg base dt k bT fd ps (tv K n c p d)/\mg x=some (.ref bT)/\m9 K (.ref bT)=true/\fG K fd ps []
theorem so.mono{x:Str}{c p k n j:Nat}{d:List aJ->Option (T×List aJ)}(h:so P w K mg base x c p j n d)(bI:j<=k):so P w K mg base x c p k n d:=by
 obtain⟨bT,fd,ps,F,r⟩:=h.ex;exact⟨bT,fd,ps,F.mono bI,r⟩
def aly{x:Str}{st:Stmt}{f:af}{fd:et}{N ps:List Str}{k c p:Nat}{b:bF}(F:cG K x x st f fd)(S:cO N ps (bx st))(bd:fG K fd ps [])(m:mg x=some (.ref f))
  (aa:∀(bN:aj) (A:cH) (outer:List Env) (s:aH) (H:aw) (E:e0),c2 k (A.deeper (envOfC x (bx st) s.heap.objs.size f bN)) ->
   hR (e3 dt P w K mg base N x (bx st) f bN A outer s H E).ey (fv st) b):so P w K mg base x c p (k+1) ps.length (runM c p b N.length):=⟨f,fd,ps,Mc F S aa,m,F.az,bd⟩
end
noncomputable def xI(K:a6)(f:g8):TE:=λσ H Q=>∃aC E O F ε t ε',cx K aC E O F H ε σ/\f ε=some (t,ε')/\∀v aG ae,dU K F H aG ae->cx K aC E O aG ae ε' σ->Rep K aG ae t v->Q v ae
abbrev kD(X:aV)(e:bq)(f:g8):Prop:=bK X e (xI X.K f)
section
variable {X:aV}{k n c C i:Nat}{ns:List Str}{d:List aJ->Option (T×List aJ)}{x m:Str}{p pos apos:Pos}{o e:bq}{es:List bq}{aA fM:List bH}{kK:g8}
theorem L7{K:a6}{E:fR}{O F:af->Prop}{H:aw}:∀{ts:List T} {vs:List V},bl K F H ts vs->Paired (λs v=>d5 K E O F H s v) (ts.map .ag) vs
| [],vs,h=>by
  simp only[bl] at h;subst h;exact .nil
|t::ts,vs,h=>by
  simp only[bl] at h;obtain⟨v,z,rfl,q,h⟩:=h;exact .cons q (L7 h)
def Tz{ts:List T}{q:Nat}{s:aJ}(h:(ts.map aJ.ag)[q]?=some s):s.iH=false:=by
 rw[lE] at h;cases e:ts[q]? with
|none=>rw[e] at h;cases h
|some t=>rw[e] at h;cases h;rfl
def LR{σ:a7.St}{H H1:aw}{aC O F aY:af->Prop}{E:fR}{ε:Ev}{md:gr}{os:List aJ}{a:af}{Q:c0}{ws:List V}{ts:List T}{r:T×List aJ}(rE:cx X.K aC E O F H ε σ)(aF:dq c i ε=some (md,os))(hm:md≠.c1)(ai:σ[i]?=some (some (.ref a)))
  (aO:Ext F H aY H1) (q:bl X.K aY H1 ts ws) (ff:d (.obj .cy c os::ts.map .ag)=some r) (aE:ts.length+1=n)
  (bQ:∀v aG ae,dU X.K F H aG ae->cx X.K aC E O aG ae (ε.set i (some (.obj md c r.2))) σ->Rep X.K aG ae r.1 v->Q v ae):tv X.K n c 0 d (.ref a::ws) H1 Q jO:=by
 have bj:=rE.ext aO;obtain⟨je,dF,rs⟩:=bj.val i _ (nh aF);rw[ai] at dF;cases dF;refine⟨by simp[<- q.length,aE],aY,_,a,dz H1 (.obj md c os) (.ref a),os,r,aO.cp,rfl,rfl,.cons (akj (v:=.ref a) rs) (L7 q),λj s bI av=>?_,ff,λv aG ae bZ bR aeA=>?_⟩
 ·cases j with
  |zero=>exact absurd rfl bI
  |succ j=>exact Tz (q:=j) (by simpa using av)
 ·obtain⟨az,b_⟩:=bj.back (nh aF) hm ai rfl bZ aeA;exact bQ v aG ae (aO.az.trans az) b_ bR
def eZ(fV:fw X.K c C ns)(ie:cV X.prog X.w X.K X.mg X.base C c m k n d)(ax:c2 k X.A)(a5:bK X o (fB i))(aB:lZ X (e::es) aA){pl:Sem Bool}(hm:m∉ns:=by decide +kernel)(aE:aA.length+1=n:=by rfl)
  (gW:bB (e::es) X.env=(false,eval e X.env)::bB es X.env:=by rfl) (hpl:(dZ pos (bB es X.env)).any (·.1)=false:=by rfl)
  (bh:eval (.Call (.Attribute o m apos) (e::es) [] pos) X.env=(do
   let eo <- eval o X.env
   standAt apos.atName
   let (f,first) <- holding [eo] (getMethod eo m pl)
   callWith pos f first (dZ pos (bB (e::es) X.env)) (od pos (oc [] X.env))):=by rfl):kD X (.Call (.Attribute o m apos) (e::es) [] pos) (cS c d i aA):=by
 obtain⟨bT,fd,ps,F,hA,b⟩:=ie.ex;refine ee (Tq a5 fV.cls hA F ax b .nil ow aB gW hpl bh) λσ H Q ⟨aC,E,O,F,ε,t,ε',r,e,bQ⟩=>?_;simp only[cS,cz] at e;obtain⟨⟨md,os⟩,aF,e⟩:=e;split at e
 next=>cases e
 next w2=>
  simp only[cz,dY] at e;obtain⟨ts,bC,cq,ff,e⟩:=e;cases e;obtain⟨a,vs,bf,ai,hx,_⟩:=nk fV r aF;refine⟨_,ai,a,bf,_,rfl,hx,tV hm,aC,E,O,F,ε,ts,r,bC,λws aY H1 aO q=>?_⟩;show tv X.K n c 0 d (V.ref a::(ws++[])) H1 Q jO;rw[amE];exact LR r aF w2 ai aO q ff (by rw[vJ bC,aE]) bQ
def pF(fV:fw X.K c C ns)(ie:cV X.prog X.w X.K X.mg X.base C c m k n d)(ax:c2 k X.A)(a5:bK X o (fB i)){pl:Sem Bool}(hm:m∉ns:=by decide +kernel)(aE:1=n:=by rfl)
  (bh:eval (.Call (.Attribute o m apos) [] [] pos) X.env=(do
   let eo <- eval o X.env
   standAt apos.atName
   let (f,first) <- holding [eo] (getMethod eo m pl)
   callWith pos f first (dZ pos (bB [] X.env)) (od pos (oc [] X.env))):=by rfl):kD X (.Call (.Attribute o m apos) [] [] pos) (cS c d i []):=by
 obtain⟨bT,fd,ps,F,hA,b⟩:=ie.ex;refine ee (C_ a5 fV.cls hA F ax b .nil ow bh) λσ H Q ⟨aC,E,O,F,ε,t,ε',r,e,bQ⟩=>?_;simp only[cS,cz] at e;obtain⟨⟨md,os⟩,aF,e⟩:=e;split at e
 next=>cases e
 next w2=>
  simp only[cz,dY] at e;obtain⟨ts,bC,cq,ff,e⟩:=e;cases e;cases bC;obtain⟨a,vs,bf,ai,hx,_⟩:=nk fV r aF;refine⟨_,ai,a,bf,_,rfl,hx,tV hm,?_⟩;exact LR r aF w2 ai (Ext.refl r.cp) bl.nil ff (by simpa using aE) bQ
def eB(h:kD X e kK)(l_:amF e none pos.line X.env=pure false:=by rfl):gs X (.Expr e pos) (dj kK):=hL (yA h l_) λD σ H ⟨aC,E,O,F,ε,o,r,e,k⟩=>by
 simp only[dj,dY] at e;obtain⟨⟨t,ε'⟩,bC,rfl⟩:=e;exact⟨aC,E,O,F,ε,t,ε',r,bC,λv aG ae az cq _=>k σ aG ae az cq⟩
def vS(h:kD X e kK):gs X (.Return (some e) pos) (i' kK):=hL (uq h) λD σ H ⟨aC,E,O,F,ε,o,r,e,k⟩=>by
 simp only[i',dY] at e;obtain⟨⟨t,ε'⟩,bC,rfl⟩:=e;exact⟨aC,E,O,F,ε,t,ε',r,bC,λv aG ae az cq bR=>k v σ aG ae cq bR⟩
def akQ{f:bH}(h:cQ X e f):gs X (.Return (some e) pos) (rA f):=hL (uq h) λD σ H ⟨aC,E,O,F,ε,o,r,e,k⟩=>by
 simp only[rA,dY] at e;obtain⟨t,bC,rfl⟩:=e;exact⟨aC,E,O,F,ε,t,r,bC,λv aG ae x bR=>k v σ aG ae (r.ext x) bR⟩
def L5:gs X (.Return none pos) qG:=hL ajX λD σ H ⟨aC,E,O,F,ε,o,r,e,k⟩=>by
 cases e
 exact k .d3 σ F H r (by simp[Rep])
def Te{st:Stmt}:gs X st se:=λah s σ H D I ⟨aC,E,O,F,ε,o,r,e,k⟩=>by cases e
end
end
section
variable [cI]
noncomputable def tO(K:a6)(f:pP):TE:=λσ H Q=>∃aC E O F ε s,cx K aC E O F H ε σ/\f ε=some s/\∀a aG ae,Ext F H aG ae->d5 K E O aG ae s (.ref a)->(∀b∈dz ae s (.ref a),H b=none)->Q (.ref a) ae
abbrev uI(X:aV)(e:bq)(f:pP):Prop:=bK X e (tO X.K f)
noncomputable def P8(K:a6)(n:Nat)(d:List T->Option aJ):kc:=λvs H Q _=>vs.length=n/\∃F ts s,fQ F H/\bl K F H ts vs/\d ts=some s/\∀a aG ae,Ext F H aG ae->d5 K ⟨H,0⟩ (λb=>H b=none) aG ae s (.ref a)->Q (.ref a) ae
def R0{s t:aJ}(h:Bf s=some t):∃c os,s=.obj .own c os/\t=.obj .own c os:=by
 unfold Bf at h;split at h
 ·cases h
  exact⟨_,_,rfl,rfl⟩
 ·cases h
section
variable {P:cC}{w:b6}{K:a6}{mg:Str->Option aj}{base:bz}
def akv{x qual:Str}{st:Stmt}{f:af}{fd:et}{N ps:List Str}{k:Nat}{b:bF}(F:cG K x qual st f fd)(S:cO N ps (bx st))
  (aa:∀(bN:aj) (A:cH) (outer:List Env) (s:aH) (H:aw) (E:e0),c2 k (A.deeper (envOfC qual (bx st) s.heap.objs.size f bN)) ->
   hR (e3 dt P w K mg base N qual (bx st) f bN A outer s H E).ey (fv st) b):
  eR P w K mg base dt (k+1) f fd ps (P8 K ps.length (amX b N.length)):=by
 refine F.ok S (λvs H Q E h=>h.1) λbN A outer s H vs Q E ax h=>⟨_,aa bN A outer s H E ax,?_⟩
 obtain⟨aE,F,ts,t,cp,q,e,i5⟩:=h;simp only[amX,cz] at e;obtain⟨o,eE,e⟩:=e;refine⟨F,⟨H,0⟩,λa=>H a=none,F,_,o,?_,eE,?_⟩
 ·have:=Ld (N:=N) cp q (N.length - ts.length);unfold a7.start;rw[q.length] at this ⊢;exact this
 ·cases o with
  |ly s=>
   obtain⟨c,os,rfl,rfl⟩:=R0 e;exact λa aG ae x rs=>i5 a aG ae x rs
  |bO ε'=>cases e
  |gx _=>cases e
  |cR _=>cases e
  |iL _ _=>cases e
  |er _=>cases e
structure pO(P:cC)(w:b6)(K:a6)(mg:Str->Option aj)(base:bz)(x:Str)(k n:Nat)(d:List T->Option aJ):Prop where
 ex:∃bT fd ps,eR P w K mg base dt k bT fd ps (P8 K n d)/\mg x=some (.ref bT)/\m9 K (.ref bT)=true/\fG K fd ps []
theorem pO.mono{x:Str}{k n j:Nat}{d:List T->Option aJ}(c:pO P w K mg base x j n d)(h:j<=k):pO P w K mg base x k n d:=by
 obtain⟨bT,fd,ps,F,r⟩:=c.ex;exact⟨bT,fd,ps,F.mono h,r⟩
def alx{x:Str}{st:Stmt}{f:af}{fd:et}{N ps:List Str}{k:Nat}{b:bF}(F:cG K x x st f fd)(S:cO N ps (bx st))(bd:fG K fd ps [])(m:mg x=some (.ref f))
  (aa:∀(bN:aj) (A:cH) (outer:List Env) (s:aH) (H:aw) (E:e0),c2 k (A.deeper (envOfC x (bx st) s.heap.objs.size f bN)) ->
   hR (e3 dt P w K mg base N x (bx st) f bN A outer s H E).ey (fv st) b):pO P w K mg base x (k+1) ps.length (amX b N.length):=⟨f,fd,ps,akv F S aa,m,F.az,bd⟩
structure pN(P:cC)(w:b6)(K:a6)(mg:Str->Option aj)(base:bz)(x:Str)(C:af)(c k n:Nat)(d:List aJ->Option (T×List aJ)):Prop where
 ex:∃bT fd ps,eR P w K mg base dt k bT fd ps (tv K n c 0 d)/\uC K C bT/\mg x=some (.ref C)/\fG K fd ps []
theorem pN.mono{x:Str}{C:af}{c k n j:Nat}{d:List aJ->Option (T×List aJ)}(h:pN P w K mg base x C c j n d)(bI:j<=k):pN P w K mg base x C c k n d:=by
 obtain⟨bT,fd,ps,F,r⟩:=h.ex;exact⟨bT,fd,ps,F.mono bI,r⟩
def Uh{x:Str}{C:af}{qual:Str}{st:Stmt}{f:af}{fd:et}{N ps:List Str}{k c:Nat}{b:bF}(F:cG K "__init__" qual st f fd)(S:cO N ps (bx st))(bd:fG K fd ps [])(hA:uC K C f)(m:mg x=some (.ref C))
  (aa:∀(bN:aj) (A:cH) (outer:List Env) (s:aH) (H:aw) (E:e0),c2 k (A.deeper (envOfC qual (bx st) s.heap.objs.size f bN)) ->
   hR (e3 dt P w K mg base N qual (bx st) f bN A outer s H E).ey (fv st) b):pN P w K mg base x C c (k+1) ps.length (runM c 0 b N.length):=⟨f,fd,ps,Mc F S aa,hA,m,bd⟩
end
section
variable {X:aV}{k n c C i j:Nat}{ns:List Str}{x m f:Str}{p pos apos:Pos}{o e:bq}{es:List bq}{aA:List bH}{p6:pP}
def Ti{K:a6}{E lW:fR}{O nB aG:af->Prop}{ae:aw}{m:gr}{c:Nat}{os:List aJ}{a:af}(rs:d5 K lW nB aG ae (.obj m c os) (.ref a))(hm:m≠.c1)(h:∀b,nB b->O b):d5 K E O aG ae (.obj .own c os) (.ref a):=by
 obtain⟨k9,vs,e,aB,hf,a8,fX,_⟩:=rs;refine⟨k9,vs,e,aB,hf,a8,λb aa=>⟨(fX b aa).1,h b ?_⟩,λz=>by cases z⟩;have q:=(fX b aa).2;cases m with
|c1=>exact absurd rfl hm
|own=>exact q
|cy=>exact q
def DM{d:List aJ->Option (T×List aJ)}(fV:fw X.K c C ns)(ie:pN X.prog X.w X.K X.mg X.base x C c k n d)(ax:c2 (k+1) X.A)(aB:lZ X (e::es) aA)(bt:ew X x:=by rfl)(aE:aA.length+1=n:=by rfl)(gn:(x==("__debug__":Str))=false:=by decide)
  (he:bB (e::es) X.env=(false,eval e X.env)::bB es X.env:=by rfl) (hpl:(dZ pos (bB es X.env)).any (·.1)=false:=by rfl):uI X (.Call (.Name x p) (e::es) [] pos) (lq c d aA):=by
 obtain⟨bT,fd,ps,F,M,hm,b⟩:=ie.ex;refine ee (aj6 M F ax bt hm b .nil ow aB gn he hpl) λσ H Q ⟨aC,E,O,F,ε,s,r,e,bQ⟩=>?_;simp only[lq,cz] at e;obtain⟨ts,bC,cq,ff,e⟩:=e;refine⟨aC,E,O,F,ε,ts,r,bC,λws aY H1 aO q=>λy bf a_ OR jw=>?_⟩;rw[amE];have _Y:upd (upd H1 bf (.own y)) y (.ins C bf []) y=some (.ins C bf []):=dM;have mS:∀ba:aw,ba y=some (.ins C bf [])->ic ba y c []:=λba e=>by
  refine⟨kT _,?_⟩
  rw[fV.nI];exact⟨bf,by simpa using e⟩
 have ru:∀b,b≠y->b≠bf->upd (upd H1 bf (.own y)) y (.ins C bf []) b=H1 b:=λb ai ao=>by rw[cK ai,cK ao]
 have Qo:Ext aY H1 aY (upd H1 bf (.own y)):=Ext.laid aO.cp OR;have _X:upd H1 bf (.own y) y=none:=by rw[cK (Ne.symm jw)];exact a_
 have Km:Ext aY H1 aY (upd (upd H1 bf (.own y)) y (.ins C bf [])):=Qo.trans (Ext.laid Qo.cp _X);have A_:¬aY y:=λz=>by
  obtain⟨o,e⟩:=aO.cp y z;rw[a_] at e;cases e
 split at e
 next ri=>
  cases e
  refine⟨by simp[<- q.length,vJ bC,aE],aY,.obj .cy c []::ts.map .ag,y,[y],[],cq,Km.cp,rfl,rfl,.cons ⟨y,[],rfl,mS _ _Y,rfl,by simp[dk],λb aa=>?_,λ_=>rfl⟩ (L7 (q.ext Km)),λj s bI av=>?_,ff,λv aG ae bZ bR rs=>?_⟩
  ·have:b=y:=by simpa [dk] using aa
   subst this;exact⟨A_,Dd (by simp)⟩
  ·cases j with
   |zero=>exact absurd rfl bI
   |succ j=>exact Tz (q:=j) (by simpa using av)
  ·rw[ri] at bR;refine⟨by simpa [Rep] using bR,?_⟩;have Jt:∀b,(hN (upd (upd H1 bf (.own y)) y (.ins C bf [])) [y] y).h b=none->H b=none:=λb aa=>by
    rcases CM aa with z|z
    ·have:b=y:=by simpa using z
     rw[this];exact aO.same.none a_
    ·exact aO.same.none (Km.same.none z)
   have di:Ext F H aG ae:=by
    refine⟨λb o q=>?_,λb z=>bZ.sub b (aO.sub b z),λb z=>?_,bZ.cp⟩
    ·have step:∀u,H1 b=some u->(hN (upd (upd H1 bf (.own y)) y (.ins C bf [])) [y] y).h b=some u:=λu aD=>by
      have hB:b≠y:=λz=>by rw[z,a_] at aD;cases aD
      have gp:b≠bf:=λz=>by rw[z,OR] at aD;cases aD
      rw[t4 (by simpa using hB),ru b hB gp];exact aD
     rcases aO.same b o q with z|⟨ps,xv,aD,z⟩
     ·exact bZ.same b o (step _ z)
     ·rcases bZ.same b _ (step _ z) with gg|⟨_,xw,_,gg⟩
      ·exact .inr ⟨ps,xv,aD,gg⟩
      ·exact .inr ⟨ps,xw,aD,gg⟩
    ·rcases bZ.new b z with z|z
     ·exact aO.new b z
     ·exact .inr (Jt b z)
   refine bQ y aG ae di (Ti rs (by decide) λb aa=>r.fr b (Jt b aa)) λb aa=>?_
   obtain⟨k9,vs,ea,mR,hf,a8,fX,_⟩:=rs;cases ea;rw[ku mR] at aa;exact Jt b (fX b aa).2
 next=>cases e
def Mz{d:List T->Option aJ}(ie:pO X.prog X.w X.K X.mg X.base x k n d)(hd:∀ts s,d ts=some s->∃c os,s=.obj .own c os)(ax:c2 k X.A)(aB:lZ X (e::es) aA)(bt:ew X x:=by rfl)(aE:aA.length=n:=by rfl)(gn:(x==("__debug__":Str))=false:=by decide)
  (he:bB (e::es) X.env=(false,eval e X.env)::bB es X.env:=by rfl) (hpl:(dZ pos (bB es X.env)).any (·.1)=false:=by rfl):uI X (.Call (.Name x p) (e::es) [] pos) (sh d aA):=by
 obtain⟨bT,fd,ps,F,hm,az,b⟩:=ie.ex;refine ee (yB F ax bt hm az b .nil ow aB gn he hpl) λσ H Q ⟨aC,E,O,F,ε,s,r,e,bQ⟩=>?_;simp only[sh,cz] at e;obtain⟨ts,bC,ff⟩:=e;obtain⟨c,os,rfl⟩:=hd _ _ ff;refine⟨aC,E,O,F,ε,ts,r,bC,λws aY H1 aO q=>⟨?_,aY,ts,_,aO.cp,by simpa using q,ff,λa aG ae bZ rs=>?_⟩⟩
 ·rw[amE,<- q.length,vJ bC,aE]
 ·refine bQ a aG ae (aO.trans bZ) (Ti rs (by decide) λb aa=>r.fr b (aO.same.none aa)) λb aa=>?_
  obtain⟨k9,vs,ea,mR,hf,a8,fX,_⟩:=rs;cases ea;rw[ku mR] at aa;exact aO.same.none (fX b aa).2
def ai0{b:bF}{n:Nat}{ts:List T}{s:aJ}(h:amX b n ts=some s):∃c os,s=.obj .own c os:=by
 simp only[amX,cz] at h;obtain⟨o,eE,e⟩:=h;cases o with
|ly s'=>
  obtain⟨c,os,_,rfl⟩:=R0 e;exact⟨c,os,rfl⟩
|_=>cases e
def Mq(j:Nat){y:Str}{pos':Pos}(dp:X.N.Nodup)(h:uI X e p6)(aM:X.N[j]?=some y:=by rfl)(hx:Loc X.env.scope y:=by first|exact Or.inl rfl|exact Or.inr rfl)
  (av:amF e (some (.Name y pos')) pos.line X.env=pure false:=by rfl) (hf:X.fn y=true\/X.env.scope.names.lookup y=some .local:=by first|exact .inl rfl|exact .inr rfl):
  gs X (.Assign [.Name y pos'] e pos) (qV j p6):=hL (uo dp aM hx h av hf) λD σ H ⟨aC,E,O,F,ε,o,r,e,k⟩=>by
 simp only[qV,dY] at e;obtain⟨s,es,rfl⟩:=e;exact⟨aC,E,O,F,ε,s,r,es,λa aG ae x rs a5=>k _ aG ae x.az (r.P2 j x rs a5)⟩
def akP(a5:bK X e (fB i)):gs X (.Return (some e) pos) (xA i):=hL (uq a5) λD σ H ⟨aC,E,O,F,ε,o,r,e,k⟩=>by
 unfold xA at e;split at e
 next c aA he=>
  cases e
  obtain⟨v,ai,rs⟩:=r.val i _ he;have xy:=rs;obtain⟨a,vs,rfl,_⟩:=rs;exact⟨_,ai,k a F H r.ent xy⟩
 next=>cases e
def K1{s:aJ}{os:List aJ}(h:uh c s=some os):s=.obj .own c os:=by
 unfold uh at h;split at h
 next bW aA=>
  split at h
  next au=>
   cases h
   rw[au]
  next=>cases h
 next=>cases h
def Ui{K:a6}{E:fR}{O F:af->Prop}{H:aw}{os:List aJ}{a:af}(fV:fw K c C ns)(rs:d5 K E O F H (.obj .own c os) (.ref a)):∃bf vs,H a=some (.ins C bf (ns.zip vs))/\ic H a c vs/\gh K F H os vs:=by
 obtain⟨k9,vs,ea,aB,hf,_⟩:=rs;cases ea;obtain⟨aE,hx⟩:=id aB;rw[fV.nI] at hx;obtain⟨bf,hx⟩:=hx;rw[fV.fm] at hx;exact⟨bf,vs,hx,aB,hf⟩
def alT{d:List aJ->Option T}(fV:fw X.K c C ns)(ie:fl X.prog X.w X.K X.mg X.base C m k n d)(ax:c2 k X.A)(aF:uI X o p6){pl:Sem Bool}(hm:m∉ns:=by decide +kernel)(aE:1=n:=by rfl)
  (bh:eval (.Call (.Attribute o m apos) [] [] pos) X.env=(do
   let eo <- eval o X.env
   standAt apos.atName
   let (f,first) <- holding [eo] (getMethod eo m pl)
   callWith pos f first (dZ pos (bB [] X.env)) (od pos (oc [] X.env))):=by rfl):cQ X (.Call (.Attribute o m apos) [] [] pos) (pd c d p6 []):=by
 obtain⟨bT,fd,ps,F,hA,b⟩:=ie.ex;refine ee (C_ aF fV.cls hA F ax b .nil ow bh) λσ H Q ⟨aC,E,O,F,ε,t,r,e,k⟩=>?_;simp only[pd,cz] at e;obtain⟨s,es,os,eE,ts,bC,ff⟩:=e;cases bC;have:=K1 eE;subst this;refine⟨aC,E,O,F,ε,_,r,es,λa aY H1 aO rs a5=>?_⟩;obtain⟨bf,vs,hx,aB,hf⟩:=Ui fV rs;refine⟨a,bf,_,rfl,hx,tV hm,⟨by simp[aE],aY,_,t,aO.cp,.cons ⟨rfl,v8 rs _ _ λb aa=>?_⟩ .nil,ff,λv aG ae bZ a9=>k v aG ae (aO.trans bZ) a9⟩⟩;obtain⟨o,e,_⟩:=rs.at aa;show H1 b≠none;rw[e];exact λz=>by cases z
def RZ(fV:fw X.K c C ns)(aF:uI X o p6)(bI:ns[j]?=some f:=by rfl)(aa:jF o f X.env (eval o X.env)=eval o X.env:=by rfl):cQ X (.Attribute o f pos) (vO c j p6):=
 ee (pG aF aa) λσ H Q ⟨aC,E,O,F,ε,t,r,e,k⟩=>by
 simp only[vO,cz] at e;obtain⟨s,es,os,eE,e⟩:=e;have:=K1 eE;subst this;split at e
 next ts av=>
  cases e
  refine⟨aC,E,O,F,ε,_,r,es,λa aY H1 aO rs a5=>?_⟩
  obtain⟨bf,vs,hx,aB,hf⟩:=Ui fV rs;obtain⟨v,bo,b,us,rfl,aa,fj⟩:=hf.get av;have Z0:H b=none:=a5 b (by rw[ku aB];exact dR _ (pJ av bo (by simp[dP,hZ])));refine⟨a,C,bf,_,_,rfl,hx,fV.cls,kY fV bI,La fV.a8 bI bo,?_⟩;have y:Ext F H (λd=>aY d\/d=b) H1:=⟨aO.same,λd z=>.inl (aO.sub d z),λd z=>by
   rcases z with z|rfl
   ·exact aO.new d z
   ·exact .inr Z0,⟨λd z=>by
   rcases z with z|rfl
   ·exact aO.cp d z
   ·exact⟨_,aa⟩,aO.cp.m6⟩⟩
  refine k _ _ H1 y ?_
  simp only[Rep];exact⟨b,us,rfl,.inr rfl,.inl aa,fj.keep (λ_ _ z=>z) λ_ _ z w=>⟨.inl z,w⟩⟩
 next=>cases e
def alV{cR a b:bq}{hX:fS}{g h:bH}(au:ka X cR hX)(aB:cQ X a g)(aa:cQ X b h):cQ X (.IfExp cR a b pos) (qd hX g h):=ee (ai9 au aB aa) λσ H Q ⟨aC,E,O,F,ε,t,r,e,k⟩=>by
 simp only[qd,cz] at e;obtain⟨v,ev,e⟩:=e;refine⟨aC,E,O,F,ε,v,r,ev,λaY H1 aO=>?_⟩;cases v with
|true=>exact rq ⟨aC,E,O,aY,ε,t,r.ext aO,by simpa using e,λv aG ae bZ q=>k v aG ae (aO.trans bZ) q⟩
|false=>exact u7 ⟨aC,E,O,aY,ε,t,r.ext aO,by simpa using e,λv aG ae bZ q=>k v aG ae (aO.trans bZ) q⟩
def jI(xs:List Str):List T:=xs.map .str
def JM{xs:List Str}{a:af}(hm:X.mg x=some (.ref a))(aK:∃(o:Obj) (its:Array aj) (n:Nat),X.K.lookup a=some o/\o.cls=.type "tuple"/\o.data=.seq its n/\its.size<=cA/\Vals (xs.map V.str) its.toList)(bt:ew X x:=by rfl)(hd:(x==("__debug__":Str))=false:=by decide):cQ X (.Name x pos) (ak (.tuple (jI xs))):=
 v_ (v:=.ref a) (vM (v:=.ref a) bt hm rfl hd) λF H=>by
  simp only[Rep];refine⟨a,xs.map V.str,rfl,.inr aK,?_⟩;unfold jI;clear hm aK bt hd
  induction xs with
  |nil=>exact bl.nil
  |cons y ys b1=>exact bl.cons (by simp[Rep]) b1
end
end
section
variable [cI]
open AutoSeq1 (wpAny_loadPart')
section
variable {X:aV}{a e o:bq}{f g:bH}{p pos apos:Pos}
def Tj(hm:X.mg "list"=none)(aB:eT X a f)(bt:ew X "list":=by rfl)(he:bB [a] X.env=(false,eval a X.env)::bB [] X.env:=by rfl)(hpl:(dZ pos (bB [] X.env)).any (·.1)=false:=by rfl):
  uH X (.Call (.Name "list" p) [a] [] pos) (e7 vY f):=ee (Lp ag_ bt hm (by decide +kernel) (fu aB h_ he) (he:=he) (hpl:=hpl)) λσ H Q ⟨aC,E,O,F,ε,ts,r,e,k⟩=>by
 simp only[e7,cz] at e;obtain⟨t,bC,e⟩:=e;refine⟨aC,E,O,F,ε,t,r,bC,λv aY H1 aO aP=>?_⟩;have fin:∀(ws:List V),bl X.K aY H1 ts ws->∀l,H1 l=none->Q (.ref l) (upd H1 l (.lst ws)):=λws ax l aE=>by
  have bZ:=Ext.laid (o:=.lst ws) aO.cp aE;refine k l ws aY _ (aO.trans bZ) (aO.same.none aE) (λz=>?_) dM (ax.ext bZ);obtain⟨o,e⟩:=aO.cp l z;rw[aE] at e;cases e
 unfold vY at e;split at e
 ·cases e
  obtain⟨am5,ws,rfl,aE,ax⟩:=aP.tup;exact⟨am5,ws,rfl,.inr aE,fin ws ax⟩
 ·cases e
  obtain⟨am5,ws,rfl,aE,ax⟩:=aP.lst;exact⟨am5,ws,rfl,.inl (.inl aE),fin ws ax⟩
 ·cases e
def aia(au:X.calm=true)(hm:X.mg "sorted"=none)(aB:eT X a f)(bt:ew X "sorted":=by rfl)(he:bB [a] X.env=(false,eval a X.env)::bB [] X.env:=by rfl)(hpl:(dZ pos (bB [] X.env)).any (·.1)=false:=by rfl):
  uH X (.Call (.Name "sorted" p) [a] [] pos) (e7 Dc f):=ee (C' (ag9 au) bt hm (by decide +kernel) (fu aB h_ he) (he:=he) (hpl:=hpl)) λσ H Q ⟨aC,E,O,F,ε,ts,r,e,k⟩=>by
 simp only[e7,cz] at e;obtain⟨t,bC,e⟩:=e;refine⟨aC,E,O,F,ε,t,r,bC,λv aY H1 aO aP=>?_⟩;unfold Dc at e;split at e
 next xs=>
  split at e
  next aq=>
   simp only[dY] at e;obtain⟨ss,G5,e⟩:=e;cases e;have _W:=Ln G5;subst _W;obtain⟨am5,ws,rfl,aE,ax⟩:=aP.lst;refine⟨am5,ss.map .inr,(amG ss).map V.str,rfl,?_,by simpa using aq,.inr ⟨ss,rfl,rfl⟩,λl rf=>?_⟩
   ·have aD:ws=(ss.map (Sum.inr:Str->a7.Key)).map dN:=by rw[Lc ax];simp[dN,n9]
    rw[<- aD];exact .inl aE
   ·have bZ:=Ext.laid (o:=.lst ((amG ss).map V.str)) aO.cp rf;refine k l _ aY _ (aO.trans bZ) (aO.same.none rf) (λz=>?_) dM (Lo _);obtain⟨o,e⟩:=aO.cp l z;rw[rf] at e;cases e
  next=>cases e
 next=>cases e
end
def Sg:entryFor table "list.remove.loop"=some Builtin.«list.remove.loop»:=entryFor_of_tree (by kernel_rfl)
def C2:plainId "list.remove.loop"=true:=by decide +kernel
def ajT(l:af)(its:Array aj)(n:Nat)(x:Str)(t:Tok)(j:Nat)(aq:its.size<=cA)(bI:j<its.size)(hit:∃u,its[j]=.str x u)(k:Nat):
  ∀i:Nat,j - i=k->i<=j->(∀(m:Nat) (hm:m<its.size),i<=m->m<j->∃y u,its[m]=.str y u/\y≠x)->Meets (Builtin.«list.remove.loop» ⟨[.ref l,.str x t,hj i],[]⟩)
   (λ_ R s=>s.heap.get? l=some {cls:=.type "list",data:=.seq its n}/\R (.ok (.ret .none)) {s with heap:=s.heap.update l (Obj.mapSeq λa=>a.eraseIdxIfInBounds j)}):=by
 induction k with
|zero=>
  intro i aK jv _ prog w A R s h;obtain⟨aN,g,d,tk,os⟩:=s;obtain⟨aE,h⟩:=h;obtain rfl:i=j:=by omega
  obtain⟨u,cn⟩:=hit
  wp_walk using wpAny_loadPart' aE
  rw[show its[((i:Nat):Int).toNat]?=some (.str x u) by simp[bI,cn]];refine aR (wpAny_eqBool_str ?_);rw[decide_eq_true rfl]
  wp_walk using wpAny_loadPart' aE
  rw[show ((Obj.mapSeq (λz=>z.eraseIdxIfInBounds ((i:Nat):Int).toNat) {cls:=.type "list",data:=.seq its n}:Obj).data.pastItsLine)=none from
   pastItsLine_seq (by
    have:(its.eraseIdxIfInBounds ((i:Nat):Int).toNat).size<=its.size:=by
     unfold Array.eraseIdxIfInBounds;split
     ·rw[Array.size_eraseIdx];omega
     ·omega
    show (its.eraseIdxIfInBounds ((i:Nat):Int).toNat).size<=_
    omega)]
  wp_walk
  exact h
|succ k b1=>
  intro i aK jv u4 prog w A R s h;obtain⟨aN,g,d,tk,os⟩:=s;obtain⟨aE,h⟩:=h;have e1:i<its.size:=by omega
  obtain⟨y,u,a_,ne⟩:=u4 i e1 (dS _) (by omega)
  wp_walk using wpAny_loadPart' aE
  rw[show its[((i:Nat):Int).toNat]?=some (.str y u) by simp[e1,a_]];refine aR (wpAny_eqBool_str ?_);rw[decide_eq_false ne]
  wp_walk
  rw[show ((i:Int)+1)=((i+1:Nat):Int) by push_cast;rfl];exact⟨plainId_quiet C2 _,tL Sg (by
   rw[vm C2 _];exact b1 (i+1) (by omega) (by omega) (λm hm ai ao=>u4 m hm (by omega) ao) prog w A R _ ⟨aE,h⟩)⟩
def ag4(l:af)(its:Array aj)(n:Nat)(x:Str)(t:Tok)(j:Nat)(aq:its.size<=cA)(bI:j<its.size)(hit:∃u,its[j]=.str x u)(u4:∀(m:Nat) (hm:m<its.size),m<j->∃y u,its[m]=.str y u/\y≠x):
  Meets (Builtin.«list.remove» ⟨[.ref l,.str x t],[]⟩) (λ_ R s=>s.heap.get? l=some {cls:=.type "list",data:=.seq its n}/\R (.ok (.ret .none)) {s with heap:=s.heap.update l (Obj.mapSeq λa=>a.eraseIdxIfInBounds j)}):=by
 intro prog w A R s h;obtain⟨aN,g,d,tk,os⟩:=s;obtain⟨aE,h⟩:=h
 wp_walk using wpAny_loadPart' aE
 exact⟨plainId_quiet C2 _,tL Sg (by
  rw[vm C2 _];exact ajT l its n x t j aq bI hit _ 0 rfl (kT _) (λm hm _ ao=>u4 m hm ao) prog w A R _ ⟨aE,h⟩)⟩
noncomputable def ajV:V->List V->aw->c0->Prop:=λx vs H Q=>∃(l:af) (ss:List Str) (y:Str),x=.ref l/\vs=[.str y]/\H l=some (.lst (ss.map V.str))/\y∈ss/\Q .d3 (upd H l (.lst ((ss.erase y).map V.str)))
def SJ{ss:List Str}{its:List aj}(r:Vals (ss.map V.str) its){m:Nat}{y:Str}(h:ss[m]?=some y):∃u,its[m]?=some (.str y u):=by
 obtain⟨v,bo,bR⟩:=r.get (i:=m) (x:=.str y) (by rw[lE,h];rfl);obtain⟨u,rfl⟩:=bR;exact⟨u,bo⟩
theorem S3{α:Type}[BEq α][LawfulBEq α]:∀{ss:List α} {y:α},y∈ss->∃j,ss[j]?=some y/\(∀m z,m<j->ss[m]?=some z->z≠y)/\ss.erase y=ss.eraseIdx j
| [],y,h=>by simp at h
|x::ss,y,h=>by
  by_cases e:x=y
  ·subst e;exact⟨0,rfl,λm z hm=>by omega,by simp⟩
  ·have h':y∈ss:=by
    rcases cM.mp h with z|z
    ·exact absurd z.symm e
    ·exact z
   obtain⟨j,ai,ao,bE⟩:=S3 h';refine⟨j+1,by simpa using ai,λm z hm aq=>?_,?_⟩
   ·cases m with
    |zero=>
     simp at aq;exact aq▸e
    |succ m=>exact ao m z (by omega) (by simpa using aq)
   ·rw[List.erase_cons_tail (by simpa using e),bE];rfl
theorem QO{α β:Type}(f:α->β):∀(l:List α) (j:Nat),(l.eraseIdx j).map f=(l.map f).eraseIdx j
| [],_=>rfl
|_::_,0=>rfl
|a::l,j+1=>by simp[QO f l j]
def aij{X:aV}:wm X "list.remove" ajV:=by
 intro ah s σ H x vs v us Q I aS bR h;obtain⟨l,ss,y,rfl,rfl,eF,a_,q⟩:=h;cases aS;obtain⟨u,rfl,c7⟩:=bR.one;obtain⟨t,rfl⟩:=c7;obtain⟨z,its,n,r,aE,e⟩:=I.A7 eF;obtain⟨j,ai,ao,bE⟩:=S3 a_;obtain⟨w,hw⟩:=SJ r ai;have bI:j<its.length:=(gH.mp hw).1;refine oe F.slot_list_remove ⟨_,e,rfl⟩ F.entry_list_remove (F.args_list_remove_2 _ _) (ag4 l its.toArray n y t j (by rw[d4];omega) (by rw[d4];exact bI) ⟨w,?_⟩ λm hm _x=>?_) ⟨e,?_⟩
 ·rw[hH bI] at hw;simpa using hw
 ·rw[d4] at hm;have OZ:m<ss.length:=by rw[hi] at aE;omega
  obtain⟨u,cn⟩:=SJ r (hH OZ);rw[hH hm] at cn;exact⟨_,u,by simpa using cn,ao m _ _x (hH OZ)⟩
 ·rw[bE] at q;have aL:(ss.eraseIdx j).map V.str=(ss.map V.str).eraseIdx j:=QO _ _ _;rw[aL] at q;refine⟨.d3,_,I.A6 (t':=s.toks) (its':=its.eraseIdx j) eF e ?_ (r.eraseIdx j) (mn (R9 _ _) z),rfl,q⟩;unfold Array.eraseIdxIfInBounds;rw[dif_pos (by rw[d4];exact bI)];simp
section
variable {X:aV}{c C i j:Nat}{ns:List Str}{f:Str}{o e:bq}{g:bH}{pos apos:Pos}
def alL(k:fw X.K c C ns)(a5:bK X o (fB i)){ke e2:Pos}(he:cQ X e g)(bI:ns[j]?=some f:=by rfl)(aa:jF o f X.env (eval o X.env)=eval o X.env:=by rfl)
  (rj:bB [e] X.env=(false,eval e X.env)::bB [] X.env:=by rfl)
  (nT:jF (.Attribute o f apos) "remove" X.env (eval (.Attribute o f apos) X.env)=eval (.Attribute o f apos) X.env:=by rfl)
  (wZ:((dZ e2 (bB [e] X.env)).all (λx=>!x.1) && (od e2 (oc [] X.env)).all (λx=>x.1.isSome)
   && decide (([e]:List bq).length+([]:List Keyword).length+(if ([]:List Keyword).isEmpty then 0 else 1)<30))=true:=by rfl)
  (nU:(ke.endLine==e2.line)=true:=by rfl) (w6:(dZ e2 (bB [] X.env)).any (·.1)=false:=by rfl)
  (l_:amF (.Call (.Attribute (.Attribute o f apos) "remove" ke) [e] [] e2) none pos.line X.env=pure false:=by rfl):
  gs X (.Expr (.Call (.Attribute (.Attribute o f apos) "remove" ke) [e] [] e2) pos) (Bj c i j g):=
 hL (yA (DK xV PySem.F.slot_list_remove PySem.F.type_list_remove aij (pG a5 aa) (fu he h_ rj) nT wZ nU rj w6) l_) λD σ H ⟨aC,aT,O,F,ε,o,r,e,bQ⟩=>by
 simp only[Bj,cz] at e;obtain⟨t,bC,ts,iq,e⟩:=e;split at e
 next x ss G5=>
  split at e
  next hx=>
   simp only[dY] at e;obtain⟨ε',es,rfl⟩:=e;have o3:=Ln G5;subst o3;obtain⟨m,aA,aF,av⟩:=LA iq;obtain⟨a,vs,bf,v,ai,G9,aE,aB,bo,⟨b,us,dV,aa,fj⟩,_⟩:=nr k r aF av bI;subst dV;refine⟨_,ai,a,C,bf,_,_,rfl,G9,k.cls,kY k bI,aE,.inl ⟨rfl,_,fH.of aa⟩,aC,aT,O,F,ε,_,r,bC,λv aY H1 aO aP=>?_⟩;have bj:=r.ext aO;have Ac:ic H1 a c vs:=aB.keep ((aO.same.get G9).trans G9.symm);have ev:v=.str x:=by simpa [Rep] using aP
   subst ev;have f9:=Lc fj;subst f9;obtain⟨az,b_⟩:=bj.xl (s':=.own ((ss.erase x).map .str)) (o':=.lst ((ss.erase x).map V.str)) aF ai Ac es av bo (by simp[dP,hZ]) rfl λaz=>⟨b,_,rfl,dM,Lo _⟩;exact⟨b,ss,x,rfl,rfl,aO.same.get aa,hx,bQ σ aY _ (aO.az.trans az) b_⟩
  next=>cases e
 next=>cases e
end
end
section
variable [cI]
open AutoSeq1 (wpAny_loadPart')
section
variable {prog:cC}{w:b6}{A:cH}{E:aj->aH->Prop}{s:aH}{T:String}{r d:af}{n:Nat}{P:Nat->aj->Prop}{sv:bz->Prop}
def agz(W:PySem.W.KdlSrc prog w T r d n P sv)(a5:n<=cA)(o:Obj)(au:o.cls=.type T):
  MeetsIn prog w (Builtin.«tuple.__new__» ⟨[.type "tuple",.ref r],[]⟩)
   (λA R s=>A.handled=none/\sv s.heap/\s.heap.get? r=some o/\∀(h':bz) (tk:Nat) (acc:Array aj),(∀b o,s.heap.get? b=some o->h'.get? b=some o)->s.heap.objs.size<=h'.objs.size->ItemsOf P acc n->R (.ok (.ret (.ref h'.objs.size))) {s with heap:=h'.push {cls:=.type "tuple",data:=.seq acc},toks:=tk}):=
 .of_wp λA R s h=>by
  obtain⟨aN,g,qZ,tk,os⟩:=s;obtain⟨cD,bJ,aF,h⟩:=h;have O8:=sub_tuple_self;have aml:=init_tuple_lookup;have amt:=madeHere_tuple;have ej:Shared.TypeIs ⟨aN,g,qZ,tk,os⟩ (.ref r) T:=W.type _ bJ;have hB:=W.notList;have gp:=W.notTuple
  wp_walk using wpAny_loadPart' aF,wpAny_typeOf ej,ahu W (by simpa using cD) bJ a5
  intro h' BE acc aK hsz l8;show bc _ _ (tH acc.toList.toArray >>= λv=>ret v) _ _ _;unfold tH;have aq:acc.size<=cA:=by rw[l8.1];exact a5
  refine aR (qt ?_ (by show acc.toList.toArray.size<=cA;simpa using aq))
  refine cf ⟨_,rfl,?_⟩
  rw[show acc.toList.toArray=acc by simp];exact h h' BE acc aK hsz l8
def agJ{Q:aj->aH->Prop}(W:PySem.W.KdlSrc prog w T r d n P sv)(a5:n<=cA){o:Obj}(au:o.cls=.type T)(cD:A.handled=none)(bJ:sv s.heap)(aF:s.heap.get? r=some o)
  (h:∀(h':bz) (tk:Nat) (acc:Array aj),(∀b o,s.heap.get? b=some o->h'.get? b=some o)->s.heap.objs.size<=h'.objs.size->ItemsOf P acc n->Q (.ref h'.objs.size) {s with heap:=h'.push {cls:=.type "tuple",data:=.seq acc},toks:=tk}):
  bc (bu prog w) A (call (.type "tuple") [.ref r]) Q E s:=
 callType_newIn F.called_tuple (by decide) (F.typeCall_tuple_1 _) (F.newCall_tuple_1 _) (λobj=>F.args_object_init_2 obj _) F.entry_tuple_new
  (agz W a5 o au) ⟨by simpa using cD,bJ,aF,λh' tk acc aK hsz l8=>⟨⟨_,gI _ rfl,rfl⟩,h h' tk acc aK hsz l8⟩⟩
end
noncomputable def DF(p d:af):d7:=.ext λh=>h.IsValuesView p d
section
variable {X:aV}
def aii:wm X "dict.values" (λx vs H Q=>∃d kvs,x=.ref d/\vs=[]/\H d=some (.fo kvs)/\∀p,H p=none->Q (.ref p) (upd H p (DF p d))):=by
 intro ah s σ H x vs v us Q I aS bR h;obtain⟨d,kvs,rfl,rfl,eF,q⟩:=h;cases aS;cases bR;obtain⟨aq,O7,ws,sW,hd⟩:=I.bJ d _ eF;refine call_meetsIn PySem.F.slot_dict_values hd.typeIs PySem.F.entry_dict_values (PySem.F.args_dict_values_1 _) (meets_dict_values (hk X.prog X.w) d O7) ⟨⟨ws,hd⟩,?_⟩;have bo:(s.heap.push {cls:=.type "dict_values",data:=.fields #[.ref d]}).IsValuesView s.heap.objs.size d:=⟨_,gI _ rfl,rfl,rfl⟩;refine⟨.ref s.heap.objs.size,upd H s.heap.objs.size (DF s.heap.objs.size d),I.laid (t':=s.toks) (λb u e=>cZ _ e) (dS _) ⟨bo,⟨_,gI _ rfl⟩,λai ao p k=>?_⟩,rfl,q _ I.fresh⟩;obtain⟨o,aF,r⟩:=p;exact⟨o,k o aF,r⟩
theorem Ul:∀{kvs:List (a7.Key×V)} {vs:List (a7.Key×aj)},g9 kvs vs->Vals (kvs.map (·.2)) (vs.map (·.2))
|_,_,.nil=>.nil
|_,_,.cons a b=>.cons a.2 (Ul b)
def agB(au:X.calm=true):lR X (.type "tuple") (λxs H Q=>∃p d kvs,xs=[.ref p]/\H p=some (DF p d)/\H d=some (.fo kvs)/\∀t,H t=none->Q (.ref t) (upd H t (.tup (kvs.map (·.2))))):=by
 intro ah s σ H xs us Q I r h;obtain⟨p,d,kvs,rfl,aN,bb,q⟩:=h;obtain⟨u,rfl,aS⟩:=v7 r;cases aS;obtain⟨l',O7,vs,sW,hd⟩:=I.bJ d _ bb;obtain⟨ep,mS⟩:=hd.dictAt;have aE:vs.length=kvs.length:=(Paired.length sW).symm;have bo:s.heap.IsValuesView p d:=(I.bJ p _ aN).1;obtain⟨o,aF,lg,amj⟩:=id bo;refine agJ (PySem.W.kdl_values (knd:=hk X.prog X.w) (kvs:=vs) (ep:=ep)) (by rw[aE];exact l') lg (I.ok.hd au) ⟨bo,mS⟩ aF λh' tk acc aK hsz l8=>?_;have rn:(kvs.map (·.2)).length<=cA:=by rw[hi];exact l'
 have ea:acc.toList=vs.map (·.2):=by
  refine List.ext_getElem? λi=>?_
  rw[lE];by_cases aM:i<acc.size
  ·obtain⟨k,aK⟩:=l8.2 i acc[i] (by simp[aM]);rw[aK];simp[aM]
  ·rw[List.getElem?_eq_none (by simpa using aM),List.getElem?_eq_none (by rw[l8.1] at aM;omega)];rfl
 have ej:(h'.push {cls:=.type "tuple",data:=.seq acc}).get? h'.objs.size=some {cls:=.type "tuple",data:=.seq acc}:=gI _ rfl;refine⟨.ref h'.objs.size,_,Lw I (o:=.tup (kvs.map (·.2))) (d':=s.drawn) (λb u e=>cZ _ (aK b u e)) hsz ⟨rn,vs.map (·.2),Ul sW,⟨_,ej,rfl,0,by rw[<- ea]⟩⟩,rfl,q _ (I.bJ.fresh hsz)⟩
variable {c C i j:Nat}{ns:List Str}{f:Str}{o:bq}{p pos apos ke e2:Pos}
theorem ei.snd{K:a6}{F:af->Prop}{H:aw}:∀{ts:List (D.Key×T)} {vs:List (D.Key×V)},ei K F H ts vs->bl K F H (ts.map (·.2)) (vs.map (·.2))
| [],vs,h=>by
  have e:vs=[]:=h;subst e;exact bl.nil
|t::ts,vs,h=>by
  obtain⟨v,r,rfl,q,z⟩:=h;exact bl.cons q (ei.snd z)
def Tn(k:fw X.K c C ns)(au:X.calm=true)(bh:X.mg "tuple"=none)(a5:bK X o (fB i))(bI:ns[j]?=some f:=by rfl)(aa:jF o f X.env (eval o X.env)=eval o X.env:=by rfl)
  (nT:jF (.Attribute o f apos) "values" X.env (eval (.Attribute o f apos) X.env)=eval (.Attribute o f apos) X.env:=by rfl) (nU:(ke.endLine==e2.line)=true:=by rfl) (bt:ew X "tuple":=by rfl)
  (he:bB [.Call (.Attribute (.Attribute o f apos) "values" ke) [] [] e2] X.env=(false,eval (.Call (.Attribute (.Attribute o f apos) "values" ke) [] [] e2) X.env)::bB [] X.env:=by rfl)
  (hpl:(dZ pos (bB [] X.env)).any (·.1)=false:=by rfl):
  cQ X (.Call (.Name "tuple" p) [.Call (.Attribute (.Attribute o f apos) "values" ke) [] [] e2] [] pos) (y4 c i j):=
 ee (Lp (agB au) bt bh (by decide +kernel) (fu (T' PySem.F.plainAttrs_dict PySem.F.slot_dict_values PySem.F.type_dict_values aii (pG a5 aa) nT nU) h_ he) (he:=he) (hpl:=hpl)) λσ H Q ⟨aC,E,O,F,ε,t,r,e,bQ⟩=>by
 simp only[y4,dY] at e;obtain⟨kvs,ff,rfl⟩:=e;obtain⟨m,aA,aF,av⟩:=C5 ff;obtain⟨a,vs,bf,v,ai,hx,aE,aB,bo,⟨b,us,dV,aa,fj⟩,_⟩:=nr k r aF av bI;subst dV;refine⟨_,ai,a,C,bf,_,_,rfl,hx,k.cls,kY k bI,aE,.inr (.inr (.inl ⟨rfl,.inl ⟨_,aa⟩⟩)),b,us,rfl,rfl,aa,λp aN=>?_⟩;have aO:=Ext.laid (o:=DF p b) r.cp aN;refine⟨p,b,us,rfl,dM,aO.same.get aa,λt bh=>?_⟩;have bZ:=aO.trans (Ext.laid (o:=.tup (us.map (·.2))) aO.cp bh);refine bQ _ F _ bZ ?_;simp only[Rep];exact⟨t,_,rfl,c3.of dM,(fj.snd).ext bZ⟩
end
end
section
variable [cI]
open AutoSeq1 (wpAny_loadPart')
noncomputable def fI(h:bz)(z TI cj:af)(f0 f1:aj):Prop:=h.get? z=some {cls:=.type "zip",dict:=none,data:=.fields #[f0,f1,.bool false,.ref TI,.ref cj],slots:=#[]}
section
variable {prog:cC}{w:b6}{A:cH}{E:aj->aH->Prop}{s:aH}{z TI cj bX b4 cg ck:af}{k hB gp:Nat}{uD uE:Nat->aj->Prop}{hS ih:Nat->bz->Prop}{a b f1:aj}
def SD{Q:aj->aH->Prop}(D:ZipApart z TI cj bX b4 cg ck)(jM:Draws prog w A bX [bX,cg] hB uD hS)(kZ:Draws prog w A b4 [b4,ck] gp uE ih)(aq:fI s.heap z TI cj .none f1)(fq:IsPair s.heap TI (.ref bX) (.ref b4))(gP:IsPair s.heap cj a b)
  (s1:hS k s.heap) (s2:ih k s.heap) (ai:k<hB) (ao:k<gp)
  (i3:∀h' x y tk,uD k x->uE k y->fI h' z TI cj (hj s.heap.objs.size) (.bool false)->IsPair h' cj x y->hS (k+1) h'->ih (k+1) h'->IsPair h' s.heap.objs.size x y->h'.objs.size=s.heap.objs.size+1 ->
   (∀c o,c≠z->c≠cj->c≠bX->c≠b4->s.heap.get? c=some o->h'.get? c=some o)->Q (.ref s.heap.objs.size) {s with heap:=h',toks:=tk}):
  bc (bu prog w) A (Builtin.«zip.__next__» ⟨[.ref z],[]⟩) (λfin s'=>∃v,fin=.done (.ret v)/\Q v s') E s:=by
 unfold fI at aq;refine aR (m:=field (.ref z) 2) (h6 aq rfl (x:=.bool false) rfl (aR (m:=field (.ref z) 3) (h6 aq rfl (x:=.ref TI) rfl (aR (pv fq rfl ?_)))));refine aR (m:=rI (.ref z)) ?_;unfold rI;refine aR (h6 aq rfl (x:=.none) rfl (cf ?_));simp only[if_true];refine aR (wpAny_rule (aR (h6 aq rfl (x:=.ref cj) rfl (aR (tM aq (by simp) λeG ma fJ=>?_)))));replace ma:fI eG z TI cj .ellipsis f1:=ma;refine aR ?_;simp only[List.zipIdx_cons,List.zipIdx_nil,List.forIn_cons,List.forIn_nil];have qk:hS k eG:=jM.frame k _ _ s1 λc au o e=>by
  rcases cM.mp au with rfl|au
  ·exact fJ.extBut _ _ D.i1z e
  ·rw[kR.mp au] at e ⊢;exact fJ.extBut _ _ D.l1z e
 refine aR (aR (wpAny_onRaise (aR (m:=lD (.ref bX)) (jM.item k _ _ _ ai qk λx jV tk hD t1 gA=>cf ?_))))
 have wU:IsPair jV cj a b:=gA.extBut _ _ D.TOi1 (fJ.extBut _ _ D.TOz gP);refine aR (pv wU rfl (aR (wpAny_updateSeq_pair wU λiw z' hv=>?_)));replace z':IsPair iw cj x b:=z';refine aR (wpAny_letGo (cf ?_));have jc:ih k iw:=kZ.frame k _ _ s2 λc au o e=>by
  rcases cM.mp au with rfl|au
  ·exact hv.extBut _ _ D.TOi2.symm (gA.extBut _ _ D.i12.symm (fJ.extBut _ _ D.i2z e))
  ·rw[kR.mp au] at e ⊢;exact hv.extBut _ _ D.l2TO (gA.extBut _ _ D.l2i1 (fJ.extBut _ _ D.l2z e))
 refine aR (aR (wpAny_onRaise (aR (m:=lD (.ref b4)) (kZ.item k _ _ _ ao jc λy u6 Kd py mh p5=>cf ?_))))
 have OK:IsPair u6 cj x b:=p5.extBut _ _ D.TOi2 z';refine aR (pv OK rfl (aR (wpAny_updateSeq_pair OK λhz Aa oT=>?_)));replace Aa:IsPair hz cj x y:=Aa;refine aR (wpAny_letGo (cf (cf (aR (pv Aa rfl (aR (wpAny_newTuple ?_)))))));have Bx:hz.objs.size=s.heap.objs.size:=by rw[oT.1,p5.1,hv.1,gA.1,fJ.1]
 have Pe:fI hz z TI cj .ellipsis f1:=oT.extBut _ _ D.TOz.symm (p5.extBut _ _ D.i2z.symm (hv.extBut _ _ D.TOz.symm (gA.extBut _ _ D.i1z.symm ma)));have abe:∀c o,c≠z->c≠cj->c≠bX->c≠b4->s.heap.get? c=some o->hz.get? c=some o:=λc o cY dn fy gk e=>oT.extBut _ _ dn (p5.extBut _ _ gk (hv.extBut _ _ dn (gA.extBut _ _ fy (fJ.extBut _ _ cY e))));have Kh:hS (k+1) hz:=jM.frame _ _ _ t1 λc au o e=>by
  rcases cM.mp au with rfl|au
  ·exact oT.extBut _ _ D.TOi1.symm (p5.extBut _ _ D.i12 (hv.extBut _ _ D.TOi1.symm e))
  ·rw[kR.mp au] at e ⊢;exact oT.extBut _ _ D.l1TO (p5.extBut _ _ D.l1i2 (hv.extBut _ _ D.l1TO e))
 have xJ:ih (k+1) hz:=kZ.frame _ _ _ mh λc au o e=>by
  rcases cM.mp au with rfl|au
  ·exact oT.extBut _ _ D.TOi2.symm e
  ·rw[kR.mp au] at e ⊢;exact oT.extBut _ _ D.l2TO e
 have qJ:z<hz.objs.size:=cT Pe;refine aR (m:=Builtin.SmallTypes.ownedTupleHandOut (.ref z) (.ref hz.objs.size)) ?_;unfold Builtin.SmallTypes.ownedTupleHandOut;have aab:fI (hz.push {cls:=.type "tuple",data:=.seq #[x,y]}) z TI cj .ellipsis f1:=cZ _ Pe;refine aR (tM aab (by simp) λaad Hc F'=>?_);replace Hc:fI aad z TI cj (hj hz.objs.size) f1:=Hc;refine tM Hc (by simp) λxc Ao Ga=>?_;replace Ao:fI xc z TI cj (hj hz.objs.size) (.bool false):=Ao;have up:∀c o,c≠z->hz.get? c=some o->xc.get? c=some o:=λc o cY e=>Ga.extBut _ _ cY (F'.extBut _ _ cY (cZ _ e));have ej:IsPair xc hz.objs.size x y:=Ga.extBut _ _ (hI qJ) (F'.extBut _ _ (hI qJ) (gI _ rfl));have P':xc.objs.size=hz.objs.size+1:=by rw[Ga.1,F'.1,kp]
 rw[Bx] at Ao ej P';refine cf ⟨_,rfl,?_⟩;show Q (.ref hz.objs.size) _;rw[Bx];refine i3 xc x y _ hD py Ao (up _ _ D.TOz Aa) (jM.frame _ _ _ Kh λc au o e=>?_) (kZ.frame _ _ _ xJ λc au o e=>?_) ej P' λc o cY dn fy gk e=>up c o cY (abe c o cY dn fy gk e)
 ·refine up c o ?_ e
  rcases cM.mp au with rfl|au
  ·exact D.i1z
  ·rw[kR.mp au];exact D.l1z
 ·refine up c o ?_ e
  rcases cM.mp au with rfl|au
  ·exact D.i2z
  ·rw[kR.mp au];exact D.l2z
def SA{Q:Fin->aH->Prop}(D:ZipApart z TI cj bX b4 cg ck)(jM:Draws prog w A bX [bX,cg] hB uD hS)(kZ:Draws prog w A b4 [b4,ck] gp uE ih)(aq:fI s.heap z TI cj .none f1)(fq:IsPair s.heap TI (.ref bX) (.ref b4))(gP:IsPair s.heap cj a b)
  (s1:hS k s.heap) (s2:ih k s.heap) (aK:k=hB\/(k<hB/\k=gp))
  (la:∀h' e tk,(∀c o,c≠z->c≠cj->c≠bX->c≠b4->s.heap.get? c=some o->h'.get? c=some o)->(∃o,h'.get? e=some o/\o.cls=.type "StopIteration")->E (.ref e) {s with heap:=h',toks:=tk}):
  bc (bu prog w) A (Builtin.«zip.__next__» ⟨[.ref z],[]⟩) Q E s:=by
 unfold fI at aq;refine aR (m:=field (.ref z) 2) (h6 aq rfl (x:=.bool false) rfl (aR (m:=field (.ref z) 3) (h6 aq rfl (x:=.ref TI) rfl (aR (pv fq rfl ?_)))));refine aR (m:=rI (.ref z)) ?_;unfold rI;refine aR (h6 aq rfl (x:=.none) rfl (cf ?_));simp only[if_true];refine aR (wpAny_rule (aR (h6 aq rfl (x:=.ref cj) rfl (aR (tM aq (by simp) λeG ma fJ=>?_)))));replace ma:fI eG z TI cj .ellipsis f1:=ma;refine aR ?_;simp only[List.zipIdx_cons,List.zipIdx_nil,List.forIn_cons,List.forIn_nil];have qk:hS k eG:=jM.frame k _ _ s1 λc au o e=>by
  rcases cM.mp au with rfl|au
  ·exact fJ.extBut _ _ D.i1z e
  ·rw[kR.mp au] at e ⊢;exact fJ.extBut _ _ D.l1z e
 rcases aK with rfl|⟨ai,rfl⟩
 ·refine aR (aR (wpAny_onRaise (aR (m:=lD (.ref bX)) (jM.done _ _ _ qk λjV e gA he=>?_))))
  obtain⟨n0,sY,wV⟩:=he;have Ha:fI jV z TI cj .ellipsis f1:=gA _ _ D.i1z.symm ma;have ne:e≠z:=λq=>by
   subst q;unfold fI at Ha;rw[Ha] at sY;cases sY;simp at wV
  exact tM Ha (by simp) λiw _ hv=>la iw e _ (λc o cY _ fy _ q=>hv.extBut _ _ cY (gA _ _ fy (fJ.extBut _ _ cY q))) ⟨n0,hv.extBut _ _ ne sY,wV⟩
 ·refine aR (aR (wpAny_onRaise (aR (m:=lD (.ref bX)) (jM.item k _ _ _ ai qk λx jV tk hD t1 gA=>cf ?_))))
  have wU:IsPair jV cj a b:=gA.extBut _ _ D.TOi1 (fJ.extBut _ _ D.TOz gP);refine aR (pv wU rfl (aR (wpAny_updateSeq_pair wU λiw z' hv=>?_)));refine aR (wpAny_letGo (cf ?_));have jc:ih k iw:=kZ.frame k _ _ s2 λc au o e=>by
   rcases cM.mp au with rfl|au
   ·exact hv.extBut _ _ D.TOi2.symm (gA.extBut _ _ D.i12.symm (fJ.extBut _ _ D.i2z e))
   ·rw[kR.mp au] at e ⊢;exact hv.extBut _ _ D.l2TO (gA.extBut _ _ D.l2i1 (fJ.extBut _ _ D.l2z e))
  refine aR (aR (wpAny_onRaise (aR (m:=lD (.ref b4)) (kZ.done _ _ _ jc λu6 e p5 he=>?_))))
  obtain⟨n0,sY,wV⟩:=he;have Hb:fI u6 z TI cj .ellipsis f1:=p5 _ _ D.i2z.symm (hv.extBut _ _ D.TOz.symm (gA.extBut _ _ D.i1z.symm ma));have ne:e≠z:=λq=>by
   subst q;unfold fI at Hb;rw[Hb] at sY;cases sY;simp at wV
  exact tM Hb (by simp) λhz _ oT=>la hz e _ (λc o cY dn fy gk q=>oT.extBut _ _ cY (p5 _ _ gk (hv.extBut _ _ dn (gA.extBut _ _ fy (fJ.extBut _ _ cY q))))) ⟨n0,oT.extBut _ _ ne sY,wV⟩
def ajJ{c:af}{Q:Option Obj->aH->Prop}(h:Q (s.heap.get? c) s):bc (bu prog w) A (loadIfAlive c) Q E s:=λΓ p _=>by
 unfold loadIfAlive;rw[Sem.wp_loadIfAlive];simpa using h
def RA{T:af}{lr:Obj}{f:Bool}(aq:fI s.heap z TI cj (hj T) (.bool f))(ej:s.heap.get? T=some lr):
  bc (bu prog w) A (rI (.ref z)) (λc s'=>c=false/\∃eG,s'={s with heap:=eG}/\fI eG z TI cj (hj T) (.bool true)/\Heap.SameBut z s.heap eG) E s:=by
 unfold fI at aq;unfold rI;refine aR (h6 aq rfl (x:=hj T) rfl ?_);refine aR (m:=loadIfAlive ((T:Nat):Int).toNat) (ajJ ?_);rw[Int.toNat_natCast,ej];simp only[Option.isNone_some,pn,if_false];refine aR (h6 aq rfl (x:=.bool f) rfl ?_);cases f with
|true=>
  simp only[bne_self_eq_false,pn,if_false];exact cf ⟨rfl,s.heap,rfl,aq,Heap.SameBut.refl ..⟩
|false=>
  rw[if_pos (by decide)];exact aR (tM aq (by simp) λeG ma fJ=>cf ⟨rfl,eG,rfl,ma,fJ⟩)
def aiK{Q:aj->aH->Prop}{T:af}{lr:Obj}{f:Bool}(D:ZipApart z TI cj bX b4 cg ck)(jM:Draws prog w A bX [bX,cg] hB uD hS)(kZ:Draws prog w A b4 [b4,ck] gp uE ih)(aq:fI s.heap z TI cj (hj T) (.bool f))(ej:s.heap.get? T=some lr)(fq:IsPair s.heap TI (.ref bX) (.ref b4))
  (s1:hS k s.heap) (s2:ih k s.heap) (ai:k<hB) (ao:k<gp)
  (i3:∀h' x y tk,uD k x->uE k y->fI h' z TI cj (hj T) (.bool true)->hS (k+1) h'->ih (k+1) h'->IsPair h' s.heap.objs.size x y->h'.objs.size=s.heap.objs.size+1 ->
   (∀c o,c≠z->c≠bX->c≠b4->s.heap.get? c=some o->h'.get? c=some o)->Q (.ref s.heap.objs.size) {s with heap:=h',toks:=tk}):
  bc (bu prog w) A (Builtin.«zip.__next__» ⟨[.ref z],[]⟩) (λfin s'=>∃v,fin=.done (.ret v)/\Q v s') E s:=by
 have w':=aq;unfold fI at aq;refine aR (m:=field (.ref z) 2) (h6 aq rfl (x:=.bool false) rfl (aR (m:=field (.ref z) 3) (h6 aq rfl (x:=.ref TI) rfl (aR (pv fq rfl ?_)))));refine aR (m:=rI (.ref z)) (eK (RA w' ej) (λc s' ⟨fe,eG,es,ma,fJ⟩=>?_) λ_ _ q=>q);subst fe es;simp only[pn,if_false];refine aR ?_;rw[<- Array.forIn_toList];simp only[List.forIn_cons,List.forIn_nil];have qk:hS k eG:=jM.frame k _ _ s1 λc au o e=>by
  rcases cM.mp au with rfl|au
  ·exact fJ.extBut _ _ D.i1z e
  ·rw[kR.mp au] at e ⊢;exact fJ.extBut _ _ D.l1z e
 refine aR (aR (mv (aR (m:=lD (.ref bX)) (jM.item k _ _ _ ai qk λx jV tk hD t1 gA=>cf (cf ?_)))))
 have jc:ih k jV:=kZ.frame k _ _ s2 λc au o e=>by
  rcases cM.mp au with rfl|au
  ·exact gA.extBut _ _ D.i12.symm (fJ.extBut _ _ D.i2z e)
  ·rw[kR.mp au] at e ⊢;exact gA.extBut _ _ D.l2i1 (fJ.extBut _ _ D.l2z e)
 refine aR (aR (mv (aR (m:=lD (.ref b4)) (kZ.item k _ _ _ ao jc λy iw Kd py mh hv=>cf (cf (cf ?_))))))
 refine aR (wpAny_newTuple (cf ⟨_,rfl,?_⟩) (by show 2<=cA;decide))
 have P_:iw.objs.size=s.heap.objs.size:=by rw[hv.1,gA.1,fJ.1]
 have afE:hS (k+1) iw:=jM.frame _ _ _ t1 λc au o e=>by
  rcases cM.mp au with rfl|au
  ·exact hv.extBut _ _ D.i12 e
  ·rw[kR.mp au] at e ⊢;exact hv.extBut _ _ D.l1i2 e
 have aaa:fI iw z TI cj (hj T) (.bool true):=hv.extBut _ _ D.i2z.symm (gA.extBut _ _ D.i1z.symm ma);have aN:(iw.push {cls:=.type "tuple",data:=.seq #[x,y]}).get? iw.objs.size=some _:=gI _ rfl;show Q (.ref iw.objs.size) _;rw[P_] at aN ⊢;refine i3 (iw.push {cls:=.type "tuple",data:=.seq #[x,y]}) x y _ hD py (cZ _ aaa) (jM.frame _ _ _ afE λc _ o e=>cZ _ e) (kZ.frame _ _ _ mh λc _ o e=>cZ _ e) aN (by rw[kp,P_])
  λc o cY fy gk e=>cZ _ (hv.extBut _ _ gk (gA.extBut _ _ fy (fJ.extBut _ _ cY e)))
def agL{Q:Fin->aH->Prop}{T:af}{lr:Obj}{f:Bool}(D:ZipApart z TI cj bX b4 cg ck)(jM:Draws prog w A bX [bX,cg] hB uD hS)(kZ:Draws prog w A b4 [b4,ck] gp uE ih)(aq:fI s.heap z TI cj (hj T) (.bool f))(ej:s.heap.get? T=some lr)(fq:IsPair s.heap TI (.ref bX) (.ref b4))
  (s1:hS k s.heap) (s2:ih k s.heap) (aK:k=hB\/(k<hB/\k=gp))
  (la:∀h' e tk,(∀c o,c≠z->c≠bX->c≠b4->s.heap.get? c=some o->h'.get? c=some o)->(∃o,h'.get? e=some o/\o.cls=.type "StopIteration")->E (.ref e) {s with heap:=h',toks:=tk}):
  bc (bu prog w) A (Builtin.«zip.__next__» ⟨[.ref z],[]⟩) Q E s:=by
 have w':=aq;unfold fI at aq;refine aR (m:=field (.ref z) 2) (h6 aq rfl (x:=.bool false) rfl (aR (m:=field (.ref z) 3) (h6 aq rfl (x:=.ref TI) rfl (aR (pv fq rfl ?_)))));refine aR (m:=rI (.ref z)) (eK (RA w' ej) (λc s' ⟨fe,eG,es,ma,fJ⟩=>?_) λ_ _ q=>q);subst fe es;simp only[pn,if_false];refine aR ?_;rw[<- Array.forIn_toList];simp only[List.forIn_cons,List.forIn_nil];have qk:hS k eG:=jM.frame k _ _ s1 λc au o e=>by
  rcases cM.mp au with rfl|au
  ·exact fJ.extBut _ _ D.i1z e
  ·rw[kR.mp au] at e ⊢;exact fJ.extBut _ _ D.l1z e
 rcases aK with rfl|⟨ai,rfl⟩
 ·refine aR (aR (mv (aR (m:=lD (.ref bX)) (jM.done _ _ _ qk λjV e gA he=>?_))))
  exact la jV e _ (λc o cY fy _ q=>gA _ _ fy (fJ.extBut _ _ cY q)) he
 ·refine aR (aR (mv (aR (m:=lD (.ref bX)) (jM.item k _ _ _ ai qk λx jV tk hD t1 gA=>cf (cf ?_)))))
  have jc:ih k jV:=kZ.frame k _ _ s2 λc au o e=>by
   rcases cM.mp au with rfl|au
   ·exact gA.extBut _ _ D.i12.symm (fJ.extBut _ _ D.i2z e)
   ·rw[kR.mp au] at e ⊢;exact gA.extBut _ _ D.l2i1 (fJ.extBut _ _ D.l2z e)
  refine aR (aR (mv (aR (m:=lD (.ref b4)) (kZ.done _ _ _ jc λiw e hv he=>?_))))
  exact la iw e _ (λc o cY fy gk q=>hv _ _ gk (gA.extBut _ _ fy (fJ.extBut _ _ cY q))) he
end
end
section
variable [cI]
open AutoSeq1 (wpAny_loadPart')
noncomputable def aam(b:Bool):String:=if b then "list_iterator" else "tuple_iterator"
noncomputable def i4(b:Bool)(h:bz)(it l:af)(i:Nat):Prop:=match b with
|true=>h.IsListIter it l i
|false=>h.IsTupleIter it l i
noncomputable def gG(b:Bool)(h:bz)(l:af)(xs:Array aj):Prop:=match b with
|true=>h.IsList l xs
|false=>h.IsTuple l xs
theorem i4.at{b:Bool}{h h':bz}{it l:af}{i:Nat}(x:i4 b h it l i)(k:∀o,h.get? it=some o->h'.get? it=some o):i4 b h' it l i:=by
 cases b with
|true=>exact Heap.IsListIter.at x k
|false=>
  obtain⟨o,aF,r⟩:=x;exact⟨o,k o aF,r⟩
def i4.obj{b:Bool}{h:bz}{it l:af}{i:Nat}(x:i4 b h it l i):∃o,h.get? it=some o/\∀v,o.data≠.cell v:=by
 cases b with
|true=>
  obtain⟨o,aF,au,hd⟩:=x;exact⟨o,aF,λv z=>by rw[hd] at z;cases z⟩
|false=>
  obtain⟨o,aF,au,hd⟩:=x;exact⟨o,aF,λv z=>by rw[hd] at z;cases z⟩
def gG.at{b:Bool}{h h':bz}{l:af}{xs:Array aj}(x:gG b h l xs)(k:∀o,h.get? l=some o->h'.get? l=some o):gG b h' l xs:=by
 cases b with
|true=>
  obtain⟨o,aF,r⟩:=x;exact⟨o,k o aF,r⟩
|false=>
  obtain⟨o,aF,r⟩:=x;exact⟨o,k o aF,r⟩
def gG.lt{b:Bool}{h:bz}{l:af}{xs:Array aj}(x:gG b h l xs):l<h.objs.size:=by
 cases b with
|true=>
  obtain⟨o,aF,r⟩:=x;exact cT aF
|false=>
  obtain⟨o,aF,r⟩:=x;exact cT aF
def r4{prog:cC}{w:b6}{A:cH}(b:Bool)(cD:A.handled=none)(it l:af)(jw:l≠it)(xs:Array aj):
  Draws prog w A it [it,l] xs.size (λi v=>xs[i]?=some v) (λi h=>i4 b h it l i/\gG b h l xs):=by
 cases b with
|true=>exact Draws.list cD it l jw xs
|false=>exact vC cD it l jw xs
abbrev y0(b:Bool)(l:af):Obj:={cls:=.type (aam b),data:=.fields #[.ref l,.int 0 0]}
abbrev ahb(bM bY:Bool)(h:bz)(cg ck:af):bz:=((h.push (y0 bM cg)).push (y0 bY ck)).push {cls:=.type "tuple",data:=.seq #[.ref h.objs.size,.ref (h.objs.size+1)]}
abbrev Sq(bM bY:Bool)(h:bz)(cg ck:af):bz:=(ahb bM bY h cg ck).push {cls:=.type "tuple",data:=.seq #[.none,.none]}
abbrev Sr(bM bY:Bool)(h:bz)(cg ck:af):bz:=(Sq bM bY h cg ck).push {cls:=.type "zip",data:=.fields #[.none,.bool false,.bool false,.ref (h.objs.size+2),.ref (h.objs.size+3)]}
section
variable {prog:cC}{w:b6}{A:cH}{E:aj->aH->Prop}{s:aH}
def Um{b:Bool}{l:af}{xs:Array aj}{Q:aj->aH->Prop}(aE:gG b s.heap l xs)(h:Q (.ref s.heap.objs.size) {s with heap:=s.heap.push (y0 b l)}):bc (bu prog w) A (pyIter (.ref l)) Q E s:=by
 cases b with
|true=>exact wpAny_pyIter_list aE h
|false=>exact xU aE h
def ahL(bM bY:Bool)(cg ck:af)(xs ys:Array aj):
  Meets (Builtin.«zip.__new__» ⟨[.type "zip",.ref cg,.ref ck],[]⟩) (λ_ R s=>gG bM s.heap cg xs/\gG bY s.heap ck ys /\
   R (.ok (.ret (.ref (s.heap.objs.size+4)))) {s with heap:=Sr bM bY s.heap cg ck}):=
 .of_wp λprog w A R s h=>by
  obtain⟨aN,g,d,tk,os⟩:=s;obtain⟨ai,ao,h⟩:=h;have O8:=sub_zip;have dF:gG bM (Shared.heap ⟨aN,g,d,tk,os⟩) cg xs:=ai;have ha:gG bY (Shared.heap ⟨aN.push (y0 bM cg),g,d,tk,os⟩) ck ys:=ao.at λo e=>cZ _ e
  wp_walk using Um dF,Um ha
  refine⟨_,rfl,?_⟩
  simp only[kp] at h ⊢;exact h
def Sm{bM bY:Bool}{cg ck:af}{xs ys:Array aj}{Q:aj->aH->Prop}(ai:gG bM s.heap cg xs)(ao:gG bY s.heap ck ys)
  (h:∀h',fI h' (s.heap.objs.size+4) (s.heap.objs.size+2) (s.heap.objs.size+3) .none (.bool false)->IsPair h' (s.heap.objs.size+2) (.ref s.heap.objs.size) (.ref (s.heap.objs.size+1))->IsPair h' (s.heap.objs.size+3) .none .none ->
   i4 bM h' s.heap.objs.size cg 0->i4 bY h' (s.heap.objs.size+1) ck 0->h'.objs.size=s.heap.objs.size+5->(∀c o,s.heap.get? c=some o->h'.get? c=some o)->Q (.ref (s.heap.objs.size+4)) {s with heap:=h'}):
  bc (bu prog w) A (call (.type "zip") [.ref cg,.ref ck]) Q E s:=by
 have aM:∀(b:Bool) (h':bz) (it l:af),h'.get? it=some (y0 b l)->i4 b h' it l 0:=λb h' it l e=>by
  cases b with
  |true=>exact⟨_,e,rfl,rfl⟩
  |false=>exact⟨_,e,rfl,rfl⟩
 refine callType_new F.called_zip (by decide) (F.typeCall_zip_2 _ _) (F.newCall_zip_2 _ _) (λobj=>F.args_object_init_3 obj _ _) F.entry_zip_new (ahL bM bY cg ck xs ys) ⟨ai,ao,?_⟩
 have at_:∀(cD:bz) (n:Nat) (o o':Obj),cD.objs.size=n->o.isFreed=false->(cD.push o).get? n=some o:=λcD n o o' e f=>by
  rw[<- e];exact gI _ f
 have mP:(Sr bM bY s.heap cg ck).get? (s.heap.objs.size+4)=some _:=at_ (Sq bM bY s.heap cg ck) (s.heap.objs.size+4) _ default (by simp only[kp]) rfl;refine⟨⟨_,mP,rfl⟩,h _ mP ?_ ?_ ?_ ?_ (by simp only[kp]) λc o e=>cZ _ (cZ _ (cZ _ (cZ _ (cZ _ e))))⟩
 ·exact cZ _ (cZ _ (at_ _ _ _ default (by simp only[kp]) rfl))
 ·exact cZ _ (at_ _ _ _ default (by simp only[kp]) rfl)
 ·exact aM bM _ _ _ (cZ _ (cZ _ (cZ _ (cZ _ (gI _ rfl)))))
 ·exact aM bY _ _ _ (cZ _ (cZ _ (cZ _ (at_ _ _ _ default (by simp only[kp]) rfl))))
end
end
section
variable [cI]
def ahl:typeLookup (.type "zip") "keys"=pure none:=by rw[typeLookup_type,builtinLookup_eq_fast];kernel_rfl
def agG:typeLookup (.type "zip") "__getattr__"=pure none:=by rw[typeLookup_type,builtinLookup_eq_fast];kernel_rfl
def ag5:entryFor table "zip.__getattribute__"=some Builtin.«object.__getattribute__»:=entryFor_alias (id':="object.__getattribute__") (by kernel_rfl) (by decide +kernel) (by decide +kernel) (by kernel_rfl)
def agF(a:af)(vs:Array aj)(name:Str)(u:Tok)(amu:typeLookup (.type "zip") name=pure none)(_A:(["__module__","__name__","__qualname__","__doc__","__annotations__"]:List Str).contains name=false)(hsz:name.length+100<=cA):
  Meets (Builtin.«object.__getattribute__» ⟨[.ref a,.str name u],[]⟩) (λA R s=>s.heap.get? a=some {cls:=.type "zip",dict:=none,data:=.fields vs,slots:=#[]}/\raisesAttr (.ref a) name A R s):=
 Meets.of_wp λprog w A R s av=>by
  obtain⟨aN,g,d,tk,os⟩:=s;obtain⟨hx,av⟩:=av;have ty:(⟨aN,g,d,tk,os⟩:aH).TypeIs (.ref a) "zip":=⟨_,hx,rfl⟩;unfold Builtin.«object.__getattribute__»
  repeat (any_goals (first|assumption|wp_step))
  simp only[_A,pn,if_false]
  repeat (any_goals (first|assumption|wp_step))
  exact wpAny_raiseAttrError av.1 av.2 (attrMsg_fits (by decide +kernel) hsz)
def ajj{prog:cC}{w:b6}{A:cH}{E:aj->aH->Prop}{s:aH}{a:af}{vs:Array aj}{Q:Option aj->aH->Prop}
  (hx:s.heap.get? a=some {cls:=.type "zip",dict:=none,data:=.fields vs,slots:=#[]}) (q8:A.handled=none)
  (h:∀h' tk,(∀b o,s.heap.get? b=some o->h'.get? b=some o)->Q none {s with heap:=h',toks:=tk}):
  bc (bu prog w) A (getAttr? (.ref a) "keys") Q E s:=by
 obtain⟨aN,g,d,tk,os⟩:=s;have ty:∀BE,(⟨aN,g,d,BE,os⟩:aH).TypeIs (.ref a) "zip":=λ_=>⟨_,hx,rfl⟩;have f1:=sub_AttributeError;have hU:=F.slot_zip_getattribute.lookup;have f4:=F.slot_zip_getattribute.bind (.ref a);have hV:=agG;have nm:(["__module__","__name__","__qualname__","__doc__","__annotations__"]:List Str).contains ("keys":Str)=false:=by decide +kernel
 have iO:("keys":Str).length+100<=cA:=by rw[nc];decide
 unfold getAttr? getAttrBy? getAttrBy
 repeat (any_goals (first|assumption|exact ty _|((with_reducible show bc _ _ (call (Value.builtin "zip.__getattribute__") _ _) _ _ _);refine oe F.slot_zip_getattribute (ty _) ag5 (F.args_zip_getattribute_2 _ _) (agF a vs "keys" _ ahl nm iO) ⟨hx,q8,λh' BE e lj=>?_⟩)|wp_step))
 obtain⟨t',tD,he⟩:=lj.there;show bc _ _ (getattributeRaised _ _ _ _ _ _ _) _ _ _;unfold getattributeRaised
 repeat (any_goals (first|assumption|wp_step))
 exact h _ _ lj.keeps
section
variable {prog:cC}{w:b6}{K:Type}[DecidableEq K]{knd:PySem.KeyKind prog w K}{A:cH}{E:aj->aH->Prop}{s:aH}{R:Result->aH->Prop}{z TI cj bX b4 cg ck:af}{bM bY:Bool}{xs ys:Array aj}
noncomputable def sk(S z TI cj bX b4 cg ck:af)(bM bY:Bool)(xs ys:Array aj)(i:Nat)(h:bz):Prop:=IsPair h TI (.ref bX) (.ref b4)/\(∃a b,IsPair h cj a b)/\(i4 bM h bX cg i/\gG bM h cg xs)/\(i4 bY h b4 ck i/\gG bY h ck ys) /\
 (fI h z TI cj .none (.bool false)\/∃(T:Nat) (lr:Obj) (f:Bool),fI h z TI cj (hj T) (.bool f)/\h.get? T=some lr/\T≠S/\T≠z/\T≠cj/\T≠bX/\T≠b4)
noncomputable def Kept(S z cj bX b4:af)(h h':bz):Prop:=∀c o,c≠S->c≠z->c≠cj->c≠bX->c≠b4->h.get? c=some o->h'.get? c=some o
def ahv{S:af}{i:Nat}{Q:Option aj->aH->Prop}(cD:A.handled=none)(D:ZipApart z TI cj bX b4 cg ck)(st:sk S z TI cj bX b4 cg ck bM bY xs ys i s.heap)(fh:∃o,s.heap.get? S=some o)(jt:S≠z/\S≠cj/\S≠bX/\S≠b4)
  (hx:i<xs.size) (a_:i<ys.size)
  (i3:∀h' tk,IsPair h' s.heap.objs.size xs[i] ys[i]->sk S z TI cj bX b4 cg ck bM bY xs ys (i+1) h'->(∀o,s.heap.get? S=some o->h'.get? S=some o)->Kept S z cj bX b4 s.heap h'->s.heap.objs.size<=h'.objs.size->Q (some (.ref s.heap.objs.size)) {s with heap:=h',toks:=tk}):
  bc (bu prog w) A (pyNext (.ref z)) Q E s:=by
 obtain⟨fq,⟨a,b,gP⟩,aP,a9,aq⟩:=st;have qJ:∀{f0 f1:aj},fI s.heap z TI cj f0 f1->z<s.heap.objs.size:=λh=>cT h;have ej:s.TypeIs (.ref z) "zip":=by
  rcases aq with h|⟨T,lr,f,h,_⟩
  ·exact⟨_,h,rfl⟩
  ·exact⟨_,h,rfl⟩
 have Pf:bX<s.heap.objs.size/\b4<s.heap.objs.size:=by
  obtain⟨dG,aD,_⟩:=aP.1.obj;obtain⟨eN,aL,_⟩:=a9.1.obj;exact⟨cT aD,cT aL⟩
 have Wq:S<s.heap.objs.size:=by
  obtain⟨o,e⟩:=fh;exact cT e
 have Ef:cj<s.heap.objs.size:=cT gP;unfold pyNext;refine aR (wpAny_attempt (qs (name:=Str.ofString "__next__") ej F.slot_zip_next (px F.slot_zip_next ej F.entry_zip_next ?_ (F.args_zip_next_1 _))));rcases aq with aq|⟨T,lr,f,aq,Ab,t1,mh,t3,xG,J7⟩
 ·refine SD (hS:=λi h=>i4 bM h bX cg i/\gG bM h cg xs) (ih:=λi h=>i4 bY h b4 ck i/\gG bY h ck ys) D (r4 (A:=A.in1) bM cD bX cg D.l1i1 xs) (r4 (A:=A.in1) bY cD b4 ck D.l2i2 ys) aq fq gP aP a9 hx a_ λh' x y tk hD py l' Gz s1 s2 aN hsz az=>cf ?_
  have ex:xs[i]=x:=fF ((vk hx).symm.trans hD);have e4:ys[i]=y:=fF ((vk a_).symm.trans py);subst ex e4;refine i3 h' tk aN ⟨az _ _ D.TIz D.TITO D.TIi1 D.TIi2 fq,⟨_,_,Gz⟩,s1,s2,.inr ⟨_,_,false,l',aN,?_⟩⟩ (λo e=>az _ _ jt.1 jt.2.1 jt.2.2.1 jt.2.2.2 e) (λc o _ dn fy gk js e=>az c o dn fy gk js e) (by omega);exact⟨hI Wq,hI (qJ aq),hI Ef,hI Pf.1,hI Pf.2⟩
 ·refine aiK (hS:=λi h=>i4 bM h bX cg i/\gG bM h cg xs) (ih:=λi h=>i4 bY h b4 ck i/\gG bY h ck ys) D (r4 (A:=A.in1) bM cD bX cg D.l1i1 xs) (r4 (A:=A.in1) bY cD b4 ck D.l2i2 ys) aq Ab fq aP a9 hx a_ λh' x y tk hD py l' s1 s2 aN hsz az=>cf ?_
  have ex:xs[i]=x:=fF ((vk hx).symm.trans hD);have e4:ys[i]=y:=fF ((vk a_).symm.trans py);subst ex e4;exact i3 h' tk aN ⟨az _ _ D.TIz D.TIi1 D.TIi2 fq,⟨a,b,az _ _ D.TOz D.TOi1 D.TOi2 gP⟩,s1,s2,.inr ⟨T,lr,true,l',az _ _ mh xG J7 Ab,t1,mh,t3,xG,J7⟩⟩ (λo e=>az _ _ jt.1 jt.2.2.1 jt.2.2.2 e) (λc o _ dn fy gk js e=>az c o dn gk js e) (by omega)
def ahw{S:af}{i:Nat}{Q:Option aj->aH->Prop}(cD:A.handled=none)(D:ZipApart z TI cj bX b4 cg ck)(st:sk S z TI cj bX b4 cg ck bM bY xs ys i s.heap)(jt:S≠z/\S≠cj/\S≠bX/\S≠b4)(aM:i=xs.size\/(i<xs.size/\i=ys.size))
  (i3:∀h' tk,(∀o,s.heap.get? S=some o->h'.get? S=some o)->Kept S z cj bX b4 s.heap h'->Q none {s with heap:=h',toks:=tk}):
  bc (bu prog w) A (pyNext (.ref z)) Q E s:=by
 obtain⟨fq,⟨a,b,gP⟩,aP,a9,aq⟩:=st;have ej:s.TypeIs (.ref z) "zip":=by
  rcases aq with h|⟨T,lr,f,h,_⟩
  ·exact⟨_,h,rfl⟩
  ·exact⟨_,h,rfl⟩
 unfold pyNext;refine aR (wpAny_attempt (qs (name:=Str.ofString "__next__") ej F.slot_zip_next (px F.slot_zip_next ej F.entry_zip_next ?_ (F.args_zip_next_1 _))));rcases aq with aq|⟨T,lr,f,aq,Ab,t1,mh,t3,xG,J7⟩
 ·refine SA (hS:=λi h=>i4 bM h bX cg i/\gG bM h cg xs) (ih:=λi h=>i4 bY h b4 ck i/\gG bY h ck ys) D (r4 (A:=A.in1) bM cD bX cg D.l1i1 xs) (r4 (A:=A.in1) bY cD b4 ck D.l2i2 ys) aq fq gP aP a9 aM λh' e tk az he=>?_
  obtain⟨o,aF,au⟩:=he;refine aR (wpAny_isInstance (T:="StopIteration") (b:=true) ⟨o,aF,au⟩ isSubtype_stop (cf ?_));exact i3 h' tk (λo e=>az _ _ jt.1 jt.2.1 jt.2.2.1 jt.2.2.2 e) λc o _ dn fy gk js e=>az c o dn fy gk js e
 ·refine agL (hS:=λi h=>i4 bM h bX cg i/\gG bM h cg xs) (ih:=λi h=>i4 bY h b4 ck i/\gG bY h ck ys) D (r4 (A:=A.in1) bM cD bX cg D.l1i1 xs) (r4 (A:=A.in1) bY cD b4 ck D.l2i2 ys) aq Ab fq aP a9 aM λh' e tk az he=>?_
  obtain⟨o,aF,au⟩:=he;refine aR (wpAny_isInstance (T:="StopIteration") (b:=true) ⟨o,aF,au⟩ isSubtype_stop (cf ?_));exact i3 h' tk (λo e=>az _ _ jt.1 jt.2.2.1 jt.2.2.2 e) λc o _ dn fy gk js e=>az c o dn gk js e
def sk.frame{S:af}{i:Nat}{h h':bz}(st:sk S z TI cj bX b4 cg ck bM bY xs ys i h)(fh:∀c∈[z,TI,cj,bX,b4,cg,ck],S≠c)(k:∀c o,c≠S->h.get? c=some o->h'.get? c=some o):sk S z TI cj bX b4 cg ck bM bY xs ys i h':=by
 obtain⟨fq,⟨a,b,gP⟩,aP,a9,aq⟩:=st;have ne:∀c∈[z,TI,cj,bX,b4,cg,ck],c≠S:=λc au=>(fh c au).symm;refine⟨k _ _ (ne _ (by simp)) fq,⟨a,b,k _ _ (ne _ (by simp)) gP⟩,⟨aP.1.at λo e=>k _ _ (ne _ (by simp)) e,aP.2.at λo e=>k _ _ (ne _ (by simp)) e⟩,⟨a9.1.at λo e=>k _ _ (ne _ (by simp)) e,a9.2.at λo e=>k _ _ (ne _ (by simp)) e⟩,?_⟩;rcases aq with aq|⟨T,lr,f,aq,ej,t⟩
 ·exact .inl (k _ _ (ne z (by simp)) aq)
 ·exact .inr ⟨T,lr,f,k _ _ (ne z (by simp)) aq,k _ _ t.1 ej,t⟩
def ag8(cD:A.handled=none)(D:ZipApart z TI cj bX b4 cg ck)(S:af)(fh:∀c∈[z,TI,cj,bX,b4,cg,ck],S≠c)(kvs:List (K×aj))(u3:(kvs.map (·.1)).Nodup)(hlen:kvs.length=min xs.size ys.size)(aq:kvs.length<=cA)
  (sW:∀(j:Nat) (dJ:K×aj),kvs[j]?=some dJ->∃key,xs[j]?=some key/\knd.is dJ.1 key=true/\ys[j]?=some dJ.2):
  ∀(k i:Nat) (s:aH) (c:Int) (cR:Tok),kvs.length - i=k->i<=kvs.length->sk S z TI cj bX b4 cg ck bM bY xs ys i s.heap->s.heap.DictOf knd S (kvs.take i) ->
   (∀h' tk,Kept S z cj bX b4 s.heap h'->h'.DictOf knd S kvs->R (.ok (.ret .none)) {s with heap:=h',toks:=tk}) ->
   h7 (bu prog w) A (.builtin "dict.update.loop" ⟨[.ref S,.ref z,.int c cR,.none],[]⟩) R s:=by
 have jt:S≠z/\S≠cj/\S≠bX/\S≠b4:=⟨fh _ (by simp),fh _ (by simp),fh _ (by simp),fh _ (by simp)⟩;intro k
 induction k with
|zero=>
  intro i s c cR aK aM gW hd sR;have rd:i=kvs.length:=by omega
  subst rd;refine tL Sh ?_;rw[vm C3 _];refine aR (m:=pyNext (.ref z)) (ahw (A:=A.in1) cD D gW jt (by omega) λh' tk Gx az=>?_);refine aR (m:=Builtin.Dict.addKeywords S []) (cf ?_);rw[List.take_of_length_le (dS _)] at hd;exact cf (sR h' tk az (hd.at λo e=>Gx o e))
|succ k b1=>
  intro i s c cR aK aM gW hd sR;have e1:i<kvs.length:=by omega
  have hx:i<xs.size:=by omega
  have a_:i<ys.size:=by omega
  have ZM:∃o,s.heap.get? S=some o:=by
   obtain⟨o,_,_,e,_⟩:=hd;exact⟨o,e⟩
  refine tL Sh ?_
  rw[vm C3 _];refine aR (m:=pyNext (.ref z)) (ahv (A:=A.in1) cD D gW ZM jt hx a_ λh' tk aN n2 Gx az hsz=>?_);have OX:kvs[i]?=some kvs[i]:=hH e1;obtain⟨key,aD,aL,eM⟩:=sW i _ OX;have ex:xs[i]=key:=fF ((vk hx).symm.trans aD);have e4:ys[i]=kvs[i].2:=fF ((vk a_).symm.trans eM);rw[ex,e4] at aN;refine aR (mv (aR (wpAny_tryCatch (ahI (s:={s with heap:=h',toks:=tk}) aN rfl rfl ?_))));have Z6:h'.DictOf knd S (kvs.take i):=hd.at λo e=>Gx o e;refine mv (wpAny_dictSet_pairs (s:={s with heap:=h',toks:=tk}) aL Z6 (λao hd2 rk=>?_) (by rw[List.length_take];omega));have qa:kvs[i].1∉(kvs.take i).map (·.1):=λq=>by
   rw[<- List.take_append_drop i kvs,List.map_append,qp] at u3;refine u3.2.2 _ q _ (en.mpr ⟨kvs[i],?_,rfl⟩) rfl;rw[List.drop_eq_getElem_cons e1];exact gb
  rw[ahB qa,show kvs.take i++[(kvs[i].1,kvs[i].2)]=kvs.take (i+1) by rw[List.take_succ,OX];rfl] at hd2;refine cf ⟨plainId_quiet C3 _,b1 (i+1) _ _ _ (by omega) e1 (n2.frame fh λc o au e=>?_) hd2 λbE af3 H2 GH=>sR bE af3 (λc o cY dn fy gk js e=>H2 c o cY dn fy gk js ?_) GH⟩
  ·exact (rk.2 c au).trans e
  ·exact (rk.2 c cY).trans (az c o cY dn fy gk js e)
def ahX{kvs:List (K×aj)}{Q:aj->aH->Prop}(cD:A.handled=none)(D:ZipApart z TI cj bX b4 cg ck)(st:sk s.heap.objs.size z TI cj bX b4 cg ck bM bY xs ys 0 s.heap)(aq:fI s.heap z TI cj .none (.bool false))(u3:(kvs.map (·.1)).Nodup)(hlen:kvs.length=min xs.size ys.size)(hsz:kvs.length<=cA)
  (sW:∀(j:Nat) (dJ:K×aj),kvs[j]?=some dJ->∃key,xs[j]?=some key/\knd.is dJ.1 key=true/\ys[j]?=some dJ.2)
  (h:∀(h':bz) (tk:Nat),h'.DictOf knd s.heap.objs.size kvs->(∀c o,c≠z->c≠cj->c≠bX->c≠b4->s.heap.get? c=some o->h'.get? c=some o)->Q (.ref s.heap.objs.size) {s with heap:=h',toks:=tk}):
  bc (bu prog w) A (call (.type "dict") [.ref z]) Q E s:=by
 obtain⟨fq,⟨a,b,gP⟩,aP,a9,_⟩:=id st;have qJ:z<s.heap.objs.size:=cT aq;have fh:∀c∈[z,TI,cj,bX,b4,cg,ck],s.heap.objs.size≠c:=by
  obtain⟨dG,aD,_⟩:=aP.1.obj;obtain⟨eN,aL,_⟩:=a9.1.obj;have a1:=cT fq;have a2:=cT gP;have d0:=cT aD;have hq:=cT aL;have dX:=aP.2.lt;have dB:=a9.2.lt;intro c au;simp only[cM,gS,or_false] at au;rcases au with rfl|rfl|rfl|rfl|rfl|rfl|rfl
  ·exact hI qJ
  ·exact hI a1
  ·exact hI a2
  ·exact hI d0
  ·exact hI hq
  ·exact hI dX
  ·exact hI dB
 refine callType_codes (Q₁:=λobj c'=>obj=.ref s.heap.objs.size/\c'={s with heap:=s.heap.push {cls:=.type "dict",data:=.dict #[]} }) F.kt_called_dict (F.kt_typeCall_dict_1 _) F.entry_dict_init (kt_code_dict_new _ ⟨rfl,rfl⟩) ?_
 rintro obj c' ⟨rfl,rfl⟩;have F1:(s.heap.push {cls:=.type "dict",data:=.dict #[]}).DictOf knd s.heap.objs.size []:=Heap.DictOf.new s.heap;have s8:fI (s.heap.push {cls:=.type "dict",data:=.dict #[]}) z TI cj .none (.bool false):=cZ _ aq;refine⟨F1.typeIs,F.args_dict_init_2 _ _,?_⟩;unfold Builtin.«dict.__init__»;refine aR ?_;unfold Builtin.Dict.selfAndRest;refine aR (wpAny_notOrdered_dict F1.typeIs ?_);show bc _ _ (pure (s.heap.objs.size,[Value.ref z])) _ _ _;refine cf ?_;show bc _ _ (Builtin.Dict.updateFrom "dict.__init__" s.heap.objs.size (.ref z) [] .none) _ _ _;unfold Builtin.Dict.updateFrom;refine aR (wpAny_typeOf (show Shared.TypeIs _ (.ref z) "zip" from ⟨_,s8,rfl⟩) ?_);rw[if_pos (by decide)];refine aR (ajj s8 (by simp[cD]) λao Kd k2=>?_);have rn:IsZip ao z TI cj .none:=k2 _ _ s8;simp only[Option.isNone_none,if_true];refine aR (wpAny_rule (aR (wpAny_pyIter_zip (s:={s with heap:=ao,toks:=Kd}) rn (cf ⟨plainId_quiet C3 _,?_⟩))));have az:∀c o,s.heap.get? c=some o->ao.get? c=some o:=λc o e=>k2 _ _ (cZ _ e);refine ag8 (knd:=knd) (by simp[cD]) D s.heap.objs.size fh kvs u3 hlen hsz sW (kvs.length - 0) 0 _ 0 _ (by omega) (kT _) (st.frame fh λc o _ e=>az c o e) (by simpa using F1.at λo e=>k2 _ _ e) λh' tk H2 GH=>⟨rfl,h h' tk GH λc o dn fy gk js e=>?_⟩;exact H2 c o (ez (cT e)) dn fy gk js (az c o e)
end
end
section
variable [cI]
def Q4{n cg ck:Nat}(ai:cg<n)(ao:ck<n):ZipApart (n+4) (n+2) (n+3) n (n+1) cg ck:=by constructor <;> (show (_:Nat)≠_) <;> omega
section
variable {X:aV}{a b:bq}{f g:bH}{p eY pos mX:Pos}
noncomputable def j_:List a7.Key->List V->List (a7.Key×V)
|k::bp,v::vs=>(k,v)::j_ bp vs
|_,_=>[]
theorem SE:∀(bp:List a7.Key) (vs:List V),(j_ bp vs).length=min bp.length vs.length
| [],vs=>by simp[j_]
|k::bp,[]=>by simp[j_]
|k::bp,v::vs=>by simp only[j_,e_,SE bp vs];omega
theorem L2:∀{bp:List a7.Key} {vs:List V} {us:List aj},Vals vs us->g9 (j_ bp vs) ((bp.zip us))
| [],vs,us,_=>by
  rw[show j_ [] vs=[] from rfl,List.zip_nil_left];exact .nil
|k::bp,_,_,.nil=>.nil
|k::bp,_,_,.cons r t=>.cons ⟨rfl,r⟩ (L2 t)
def ah2(X:aV){bp:List a7.Key}{us:List aj}{xs:List aj}(hx:Vals (bp.map dN) xs)(j:Nat)(dJ:a7.Key×aj)(h:(bp.zip us)[j]?=some dJ):∃key,xs.toArray[j]?=some key/\sf dJ.1 key=true/\us.toArray[j]?=some dJ.2:=by
 rw[List.getElem?_zip_eq_some] at h;obtain⟨ai,ao⟩:=h;obtain⟨u,cn,c7⟩:=hx.get (i:=j) (x:=dN dJ.1) (by rw[lE,ai];rfl);refine⟨u,by simpa using cn,DO (P:=X.prog) (w:=X.w) c7,by simpa using ao⟩
noncomputable def alC(K:a6)(cF:gi):TE:=λσ H Q=>cF σ H λvs H1=>∃cg ck bp ys,vs=[.ref cg,.ref ck]/\fH K H1 cg (bp.map dN)/\c3 K H1 ck ys/\((j_ bp ys).map (·.1)).Nodup/\(j_ bp ys).length<=1000/\∀q,H1 q=none->Q (.ref q) (upd H1 q (.fo (j_ bp ys)))
def ahH{cF:gi}(au:X.calm=true)(hd:X.mg "dict"=none)(aq:X.mg "zip"=none)(aB:hp X [a,b] cF)(bt:ew X "dict")(GQ:ew X "zip")(mU:bB [a,b] X.env=(false,eval a X.env)::bB [b] X.env)(G0:(dZ mX (bB [b] X.env)).any (·.1)=false)
  (he:bB [.Call (.Name "zip" eY) [a,b] [] mX] X.env=(false,eval (.Call (.Name "zip" eY) [a,b] [] mX) X.env)::bB [] X.env) (hpl:(dZ pos (bB [] X.env)).any (·.1)=false):
  bK X (.Call (.Name "dict" p) [.Call (.Name "zip" eY) [a,b] [] mX] [] pos) (alC X.K cF):=by
 intro ah s σ H Q I h;refine pq (r8 I bt hd PyProof.Rows.boot_dict ?_);refine vl ?_ he hpl;rw[he];show bc _ _ (spliced ((false,eval (.Call (.Name "zip" eY) [a,b] [] mX) X.env)::dZ pos (bB [] X.env))) _ _ s;refine Calls.spliced_cons (pq (r8 I GQ aq PyProof.Rows.boot_zip (vl (cJ (aB mX ah s σ H _ I h) λus s1 ⟨vs,H1,a',bj,aP⟩=>?_) mU G0)));obtain⟨cg,ck,bp,ys,rfl,mW,nV,u3,hle,q⟩:=aP;obtain⟨Kh,xJ,rfl,aD,aL⟩:=bj.two;cases aD;cases aL;obtain⟨its,bR,pl,s8⟩:=a'.list mW;obtain⟨hh,qi,JG,rn⟩:=a'.tuple nV;have k1:gG true s1.heap cg its.toArray:=pl.isList;have k2:gG false s1.heap ck hh.toArray:=JG;refine Sm k1 k2 λh' xa fq gP u2 p' hsz aK=>Calls.spliced_nil ?_;have rf:bp.length=its.length:=by have:=bR.length;simpa using this
 have Ah:ys.length=hh.length:=qi.length;have hlen:(bp.zip hh).length=(j_ bp ys).length:=by rw[SE,List.length_zip,Ah]
 have _m:(bp.zip hh).map (·.1)=(j_ bp ys).map (·.1):=(Ts (L2 qi)).symm;have big:=a'.big;have Bx:h'.objs.size=s1.heap.objs.size+5:=hsz;refine ahX (knd:=hk X.prog X.w) (kvs:=bp.zip hh) (s:={s1 with heap:=h'}) (a'.ok.hd au) (Q4 k1.lt k2.lt) ⟨fq,⟨_,_,gP⟩,⟨u2,k1.at λo e=>aK _ o e⟩,⟨p',k2.at λo e=>aK _ o e⟩,.inl xa⟩ xa (by rw[_m];exact u3) (by rw[List.length_zip,d4,d4,rf]) (by rw[hlen,nc];omega) (λj dJ e=>ah2 X bR j dJ e) λao tk hd2 o6=>?_;have keep:∀c o,s1.heap.get? c=some o->ao.get? c=some o:=λc o e=>by
  have au:c<s1.heap.objs.size:=cT e;have ne:∀m:Nat,c≠s1.heap.objs.size+m:=λm=>ez (iU au (h8 _ m));exact o6 c o (ne 4) (ne 3) (ne 0) (ne 1) (aK c o e)
 have I1:s1.heap.objs.size<=h'.objs.size:=by rw[Bx];exact h8 _ _
 refine⟨.ref h'.objs.size,_,Lw (s:=s1) a' (o:=.fo (j_ bp ys)) (d':=s1.drawn) (t':=tk) keep I1 ⟨by rw[nc];omega,?_,bp.zip hh,L2 qi,hd2⟩,rfl,q _ (a'.bJ.fresh I1)⟩
 rw[beq_eq_false_iff_ne];exact hI (iU big I1)
variable {c C i j:Nat}{ns:List Str}{fn:Str}{o:bq}{apos:Pos}
theorem SF{K:a6}{F:af->Prop}{H:aw}:∀{lk lv:List T} {kvs:List (D.Key×T)} {ws ys:List V},si lk lv=some kvs->bl K F H lk ws->bl K F H lv ys->(∀t∈lk,∃k,ib t=some k)->∃bp:List a7.Key,ws=bp.map dN/\ei K F H kvs (j_ bp ys)/\(j_ bp ys).map (·.1)=kvs.map (·.1)
| [],lv,kvs,ws,ys,e,ai,ao,_=>by
  cases e
  simp only[bl] at ai;subst ai;exact⟨[],rfl,rfl,rfl⟩
|t::lk,[],kvs,ws,ys,e,ai,ao,aB=>by
  cases e
  simp only[bl] at ai ao;subst ao;obtain⟨v,r,rfl,q,z⟩:=ai;obtain⟨k,aK⟩:=aB t (by simp);have bo:v=dN k:=uf (O:=λ_=>False) aK (.inl q);have key:∀{lk:List T} {r:List V},bl K F H lk r->(∀t∈lk,∃k,ib t=some k)->∃bp:List a7.Key,r=bp.map dN:=by
   intro lk
   induction lk with
   |nil=>
    intro r h _;simp only[bl] at h;exact⟨[],h⟩
   |cons t lk b1=>
    intro r h aB;simp only[bl] at h;obtain⟨v,cq,rfl,q,z⟩:=h;obtain⟨k,aK⟩:=aB t (by simp);obtain⟨bp,rfl⟩:=b1 z λu cn=>aB u (dR _ cn);exact⟨k::bp,by rw[uf (O:=λ_=>False) aK (.inl q)];rfl⟩
  obtain⟨bp,rfl⟩:=key z λu cn=>aB u (dR _ cn);exact⟨k::bp,by rw[bo];rfl,rfl,rfl⟩
|t::lk,u::lv,kvs,ws,ys,e,ai,ao,aB=>by
  simp only[si,cz,dY] at e;obtain⟨k,aK,r,fg,rfl⟩:=e;simp only[bl] at ai ao;obtain⟨v,bj,rfl,aP,jG⟩:=ai;obtain⟨w,b_,rfl,a9,gg⟩:=ao;obtain⟨bp,rfl,kP,Bi⟩:=SF fg jG gg λu cn=>aB u (dR _ cn);exact⟨k::bp,by rw[uf (O:=λ_=>False) aK (.inl aP)];rfl,⟨w,_,rfl,a9,kP⟩,by simp[j_,Bi]⟩
def Tf(k:fw X.K c C ns)(au:X.calm=true)(hd:X.mg "dict"=none)(aq:X.mg "zip"=none)(a5:bK X o (fB i))(aB:eT X a f)(aa:eT X b g){F2:Pos}(bI:ns[j]?=some fn:=by rfl)(bt:ew X "dict":=by rfl)(GQ:ew X "zip":=by rfl)
  (mU:bB [a,b] X.env=(false,eval a X.env)::bB [b] X.env:=by rfl) (Z9:bB [b] X.env=(false,eval b X.env)::bB [] X.env:=by rfl) (G0:(dZ mX (bB [b] X.env)).any (·.1)=false:=by rfl)
  (he:bB [.Call (.Name "zip" eY) [a,b] [] mX] X.env=(false,eval (.Call (.Name "zip" eY) [a,b] [] mX) X.env)::bB [] X.env:=by rfl) (hpl:(dZ F2 (bB [] X.env)).any (·.1)=false:=by rfl)
  (av:amF (.Call (.Name "dict" p) [.Call (.Name "zip" eY) [a,b] [] mX] [] F2) (some (.Attribute o fn apos)) pos.line X.env=pure false:=by rfl):
  gs X (.Assign [.Attribute o fn apos] (.Call (.Name "dict" p) [.Call (.Name "zip" eY) [a,b] [] mX] [] F2) pos) (wc c i j f g):=
 hL (Mv a5 (ahH au hd aq (fu aB (fu aa h_ Z9) mU) bt GQ mU G0 he hpl) av) λD σ H ⟨aC,E,O,F,ε,o,r,e,bQ⟩=>by
 simp only[wc,cz] at e;obtain⟨tk,Zm,iP,Zn,e⟩:=e;split at e
 next lk lv=>
  simp only[cz] at e;obtain⟨kvs,sN,e⟩:=e;split at e
  next OP=>
   simp only[dY] at e;obtain⟨ε',es,rfl⟩:=e;refine⟨aC,E,O,F,ε,_,r,Zm,λv1 aY H1 aO aP=>⟨aC,E,O,aY,ε,_,r.ext aO,Zn,λv2 dH ba bZ a9=>?_⟩⟩;obtain⟨cg,ws,rfl,rf,ri⟩:=(aP.ext bZ).lst;obtain⟨ck,ys,rfl,Ah,nW⟩:=a9.tup;obtain⟨bp,rfl,kP,Bi⟩:=SF sN ri nW λt bh=>Option.isSome_iff_exists.mp (OP.2.2 t bh);have qm:=aO.trans bZ;refine⟨cg,ck,bp,ys,rfl,.inl rf,Ah,by rw[Bi];exact OP.1,by have:=congrArg List.length Bi;simp only[hi] at this;omega,λq bb=>?_⟩;have fD:=Ext.laid (o:=.fo (j_ bp ys)) qm.cp bb;have qn:=qm.trans fD;have bj:=r.ext qn;have qa:H q=none:=qm.same.none bb;have jy:¬dH q:=λz=>by
    obtain⟨o,e⟩:=qm.cp q z;rw[bb] at e;cases e
   have hu:=es;unfold gF at hu;simp only[cz] at hu;obtain⟨⟨m,aA⟩,aF,_⟩:=hu;obtain⟨Xp,vs,bf,ai,hx,aE,aB,_⟩:=nk k bj aF;have hold:=SY r qn qa;obtain⟨az,b_⟩:=bj.Bt (s:=.hr kvs) (v:=.ref q) k aF ai aB es ⟨q,_,rfl,dM,ei.az fD.az kP⟩ (λd hd=>by
    have:d=q:=by simpa [dP,hZ] using hd
    subst this;exact⟨jy,r.fr _ qa,hold i _ _ (nh aF) ai,λk u w _ gy _ aK=>hold k u w gy aK⟩) hx bI
   refine⟨_,ai,Xp,C,bf,_,rfl,hx,k.cls,kY k bI,?_,bQ σ dH _ (qn.az.trans az) b_⟩
   have:=k.z8;simp only[List.length_zip];omega
  next=>cases e
 next=>cases e
end
end
section
variable [cI]
open AutoSeq1 (wpAny_loadPart')
noncomputable def xr:T->T->Option T
|.tuple xs,.int k=>if 2<=k/\k<1000/\xs≠[]/\xs.length*k.toNat<=big then some (.tuple (ed k.toNat xs).flatten) else none
|.list xs,.int k=>if 0<=k/\k<1000/\xs.length*k.toNat<=big then some (.list (ed k.toNat xs).flatten) else none
|_,_=>none
def agr:fillsNumberSlot (.type "tuple") "mul"=pure false:=
 PySem.fillsNumberSlot_seq (id:="tuple.__mul__") (r:=some (.builtin "tuple.__rmul__")) F.slot_tuple_mul.lookup (by decide +kernel) F.slot_tuple_rmul.lookup (by decide +kernel)
def agQ:seqRepeat? (.type "tuple")=pure (some (.builtin "tuple.__mul__")):=by
 unfold seqRepeat?;rw[PySem.seqSlot_of (T:="tuple") (name:="__mul__") (id:="tuple.__mul__") F.slot_tuple_mul.lookup (by decide +kernel),PySem.seqSlot_of (T:="tuple") (name:="__rmul__") (id:="tuple.__rmul__") F.slot_tuple_rmul.lookup (by decide +kernel)];rfl
def ahk(a:Int)(t:Tok)(l:af)(its:Array aj)(n:Nat)(dd:Option af)(cB:Array (Option aj)):Meets (Builtin.«int.__rmul__» ⟨[.int a t,.ref l],[]⟩) (λ_ R s=>s.heap.get? l=some {cls:=.type "tuple",dict:=dd,data:=.seq its n,slots:=cB}/\R (.ok (.ret Value.notImplemented)) s):=
 .of_wp λprog w A R s h=>by
  obtain⟨aN,g,d,tk,os⟩:=s;obtain⟨aE,h⟩:=h
  wp_walk
  exact⟨_,rfl,h⟩
def ahK(l:af)(its:Array aj)(n:Nat)(dd:Option af)(cB:Array (Option aj))(k:Int)(t:Tok)(ai:2<=k)(ao:k<1000)(jw:its.isEmpty=false)(aq:its.size*k.toNat<=cA):
  Meets (Builtin.«tuple.__mul__» ⟨[.ref l,.int k t],[]⟩) (λ_ R s=>s.heap.get? l=some {cls:=.type "tuple",dict:=dd,data:=.seq its n,slots:=cB} /\
   R (.ok (.ret (.ref s.heap.objs.size))) {s with heap:=s.heap.push {cls:=.type "tuple",data:=.seq ((ed k.toNat its).foldl (·++·) #[])} }):=
 .of_wp λprog w A R s h=>by
  obtain⟨aN,g,d,tk,os⟩:=s;obtain⟨aE,h⟩:=h;have cY:¬(decide (k < -(2 ^ 63)) || decide (k >= 2 ^ 63))=true:=by simp;omega
  have dn:¬(its.isEmpty || k==1)=true:=by simp[jw];omega
  have fy:¬(decide (k<=0) || its.isEmpty)=true:=by simp[jw];omega
  wp_walk using wpAny_loadPart' aE
  have Pb:(its.size:Int)*k=((its.size*k.toNat:Nat):Int):=by
   have:(k.toNat:Int)=k:=Int.toNat_of_nonneg (by omega);rw[<- this]
   push_cast
   simp
  have gk:¬((its.size:Int)*k > (2 ^ 63 - 1) / 8):=by
   rw[Pb];rw[nc] at aq;omega
  have js:¬Builtin.Tuple.tupleTooMany ((its.size:Int)*k)=true:=by
   unfold Builtin.Tuple.tupleTooMany;rw[Pb,decide_eq_true_iff];omega
  rw[if_neg cY]
  wp_walk using wpAny_loadPart' aE
  rw[if_neg dn,if_neg fy,if_neg gk,if_neg js];unfold tH;refine aR (qt (cf ⟨_,rfl,h⟩) ?_);have e:=C4 its.toList k.toNat [];rw[ob] at e;show (List.foldl _ #[] (ed k.toNat its)).size<=cA;have bP:List.foldl (λaO bZ=>aO++bZ) #[] (ed k.toNat its)=(ed k.toNat its.toList).flatten.toArray:=by simpa using e
  rw[bP,d4,Ma,rK,Nat.mul_comm];exact aq
section
variable {X:aV}{a b:bq}{f g:bH}{pos:Pos}
def akb:eS X (mw .Mult) (λx y H Q=>∃a k xs,x=.ref a/\y=.int k/\c3 X.K H a xs/\xs≠[]/\2<=k/\k<1000/\xs.length*k.toNat<=cA/\∀p,H p=none->Q (.ref p) (upd H p (.tup (ed k.toNat xs).flatten))):=by
 intro ah s σ H x y v u Q I aS bk h;obtain⟨l,k,xs,rfl,rfl,eF,jw,ai,ao,aq,q⟩:=h;cases aS;obtain⟨t,rfl⟩:=bk;obtain⟨its,r,pl,_⟩:=I.tuple eF;have aE:=r.length;obtain⟨⟨cls,dd,data,cB⟩,aF,au,n,hd⟩:=id pl;simp only at au hd;subst au hd;have _a:its.toArray.isEmpty=false:=by
  cases its with
  |nil=>
   cases xs with
   |nil=>exact absurd rfl jw
   |cons x xs=>simp at aE
  |cons=>rfl
 refine wpAny_binaryOp_repeat_ref (T:="tuple") (U:="int") (by decide) ⟨_,aF,rfl⟩ (λs'=>typeIs_int s' k t) agr F.fills_int_mul F.slot_int_rmul agQ F.slot_int_index.lookup
  (oe F.slot_int_rmul (typeIs_int s k t) F.entry_int_rmul (F.args_int_rmul_2 _ _) (ahk k t l its.toArray n dd cB)
   ⟨aF,rfl,⟨_,aF,rfl⟩,oe F.slot_tuple_mul ⟨_,aF,rfl⟩ F.entry_tuple_mul (F.args_tuple_mul_2 _ _) (ahK l its.toArray n dd cB k t ai ao _a (by rw[d4,<- aE];exact aq)) ⟨aF,?_⟩⟩)
 have e:List.foldl (λaO bZ=>aO++bZ) #[] (ed k.toNat its.toArray)=(ed k.toNat its).flatten.toArray:=by simpa using C4 its k.toNat []
 have rn:(ed k.toNat xs).flatten.length<=cA:=by rw[Ma,Nat.mul_comm];exact aq
 refine⟨.ref s.heap.objs.size,upd H s.heap.objs.size (.tup (ed k.toNat xs).flatten),I.laid (t':=s.toks) (λb u e=>cZ _ e) (dS _) ⟨rn,_,r.rep k.toNat,⟨_,gI _ rfl,rfl,0,?_⟩⟩,rfl,q _ I.fresh⟩
 exact congrArg (λz=>Data.seq z 0) e
def akc:eS X (mw .Mult) (λx y H Q=>∃l k xs,x=.ref l/\y=.int k/\eU H l (.lst xs)/\0<=k/\k<1000/\xs.length*k.toNat<=cA/\∀p,H p=none->Q (.ref p) (upd H p (.lst (ed k.toNat xs).flatten))):=by
 intro ah s σ H x y v u Q I aS bk h;obtain⟨l,k,xs,rfl,rfl,eF,ai,ao,aq,q⟩:=h;cases aS;obtain⟨t,rfl⟩:=bk;obtain⟨z,its,n,r,aE,e⟩:=Inv.xj I eF;have hlen:its.toArray.size*k.toNat<=cA:=by rw[d4,<- aE];exact aq
 have Z2:¬its.toArray.size*k.toNat > (2 ^ 63 - 1) / 8:=by
  have:(cA:Nat)<=(2 ^ 63 - 1) / 8:=by decide
  omega
 have _d:¬(!Builtin.List.listFitsIndex k)=true:=by rw[fitsIndex_both (by omega) (by omega)];exact m'
 have _t:¬Builtin.List.listTooLong (its.toArray.size*k.toNat)=true:=by rw[ajh hlen];exact m'
 have f0:∀m:Nat,List.foldl (λaO bZ=>aO++bZ) #[] (ed m its.toArray)=(ed m its).flatten.toArray:=λm=>by simpa using C4 its m []
 have qa:List.foldl (λaO bZ=>aO++bZ) #[] (ed (if its.toArray.isEmpty=true then 0 else k.toNat) its.toArray)=(ed k.toNat its).flatten.toArray:=by
  rw[f0];cases its with
  |nil=>simp
  |cons a cq=>rw[if_neg (by simp)]
 refine wpAny_binaryOp_repeat_ref (T:="list") (U:="int") (by decide) ⟨_,e,rfl⟩ (λs'=>typeIs_int s' k t) noFill_list_mul F.fills_int_mul F.slot_int_rmul repeat_list F.slot_int_index.lookup
  (oe F.slot_int_rmul (typeIs_int s k t) F.entry_int_rmul (F.args_int_rmul_2 _ _) (int___rmul___int_list k t l its.toArray n) ⟨e,rfl,⟨_,e,rfl⟩,oe F.slot_list_mul ⟨_,e,rfl⟩ F.entry_list_mul (F.args_list_mul_2 _ _) (AutoListH.list___mul___list_int_3 l its.toArray n k t _d Z2 _t) ⟨e,?_⟩⟩)
 rw[qa];exact⟨.ref _,_,I.u_ (t':=s.toks) (r.rep k.toNat) (by rw[Ma,Nat.mul_comm];exact aq),rfl,q _ I.fresh⟩
theorem bl.rep{K:a6}{F:af->Prop}{H:aw}{ts:List T}{vs:List V}(h:bl K F H ts vs):∀k:Nat,bl K F H (ed k ts).flatten (ed k vs).flatten
|0=>bl.nil
|k+1=>by
  rw[am0,am0,vo,vo];exact h.append (bl.rep h k)
def alR(aB:eT X a f)(aa:eT X b g):cQ X (.BinOp a .Mult b pos) (ar xr f g):=ee (v' (akb.or akc) aB aa) (qB (by
 intro O F H x y t iR iS Q d aS bk e k;unfold xr at e;split at e
 next xs n=>
  split at e
  next aq=>
   cases e
   obtain⟨sE,vs,rfl,av,ax⟩:=aS.tup;rw[bk.int];refine .inl ⟨sE,_,vs,rfl,rfl,av,λz=>?_,aq.1,aq.2.1,by rw[lK,<- ax.length];exact aq.2.2.2,λp aN=>?_⟩
   ·subst z;exact aq.2.2.1 (List.eq_nil_of_length_eq_zero (by rw[ax.length];rfl))
   ·have aO:=Ext.laid (o:=.tup (ed n.toNat vs).flatten) d aN;refine k _ F _ aO ?_;simp only[Rep];exact⟨p,_,rfl,c3.of dM,(ax.rep _).ext aO⟩
  next=>cases e
 next xs n=>
  split at e
  next aq=>
   cases e
   obtain⟨sE,vs,rfl,av,ax⟩:=aS.lst;rw[bk.int];refine .inr ⟨sE,_,vs,rfl,rfl,av,aq.1,aq.2.1,by rw[lK,<- ax.length];exact aq.2.2,λp aN=>?_⟩;have aO:=Ext.I0 (o:=.lst (ed n.toNat vs).flatten) d aN;refine k _ _ _ aO ?_;simp only[Rep];exact⟨p,_,rfl,.inr rfl,.inl dM,(ax.rep _).ext aO⟩
  next=>cases e
 ·cases e))
end
end
section
variable [cI]
section
variable {X:aV}{c C i j:Nat}{ns:List Str}{f:Str}{o:bq}{pos apos:Pos}
def T3(k:fw X.K c C ns)(a5:bK X o (fB i)){ke e2:Pos}(bI:ns[j]?=some f:=by rfl)(aa:jF o f X.env (eval o X.env)=eval o X.env:=by rfl)
  (nT:jF (.Attribute o f apos) "pop" X.env (eval (.Attribute o f apos) X.env)=eval (.Attribute o f apos) X.env:=by rfl) (nU:(ke.endLine==e2.line)=true:=by rfl)
  (l_:amF (.Call (.Attribute (.Attribute o f apos) "pop" ke) [] [] e2) none pos.line X.env=pure false:=by rfl):
  gs X (.Expr (.Call (.Attribute (.Attribute o f apos) "pop" ke) [] [] e2) pos) (vb c i j):=
 hL (yA (T' xV PySem.F.slot_list_pop PySem.F.type_list_pop Uk (pG a5 aa) nT nU) l_) λD σ H ⟨aC,aT,O,F,ε,o,r,e,bQ⟩=>by
 simp only[vb,cz,dY] at e;obtain⟨ts,iq,t,bC,ε',es,rfl⟩:=e;obtain⟨m,aA,aF,av⟩:=LA iq;obtain⟨a,vs,bf,v,ai,hx,aE,aB,bo,⟨b,us,dV,aa,fj⟩,_⟩:=nr k r aF av bI;subst dV;rw[List.getLast?_eq_getElem?] at bC;obtain⟨w,hw,kl⟩:=fj.get bC;refine⟨_,ai,a,C,bf,_,_,rfl,hx,k.cls,kY k bI,aE,.inl ⟨rfl,_,fH.of aa⟩,b,us,w,rfl,rfl,aa,by rw[<- fj.length];exact hw,?_⟩;obtain⟨az,b_⟩:=r.xl (s':=.own ts.dropLast) (o':=.lst us.dropLast) aF ai aB es av bo (by simp[dP,hZ]) rfl λaz=>⟨b,_,rfl,dM,by
  have:=(fj.az az).take (ts.length - 1);rw[<- List.dropLast_eq_take,fj.length,<- List.dropLast_eq_take] at this;exact this⟩
 exact bQ σ F _ az b_
end
end
section
abbrev t0:cI:=⟨[],λ_=>[],λ_=>none⟩
def eP(ns:List Int):T:=.list (ns.map .int)
noncomputable def PA(K:a6):Bool:=K.all λp=>match p.2.cls with
|.type t=>t != "list"
|_=>true
theorem Rj{α β:Type}[BEq α][LawfulBEq α]{a:α}{b:β}:∀{l:List (α×β)},l.lookup a=some b->(a,b)∈l
  | [],h=>by cases h
  | (x,y)::l,h=>by
    rw[kS] at h;split at h
    next q=>
      cases h
      have:a=x:=by simpa using q
      subst this;simp
    next=>exact dR _ (Rj h)
end
section
variable [cI]
noncomputable def D9(K:a6)(a b:af)(n m:Nat):k8:=
 ⟨λi H=>∃xs x ys y,c3 K H a xs/\xs[i]?=some x/\c3 K H b ys/\ys[i]?=some y/\xs.length=n/\ys.length=m,
  λi H x ae=>∃p u v,H p=none/\x=.ref p/\ae=upd H p (.tup [u,v])/\(∀xs,c3 K H a xs->xs[i]?=some u)/\∀ys,c3 K H b ys->ys[i]?=some v,
  λi H=>∃xs ys,c3 K H a xs/\c3 K H b ys/\xs.length=n/\ys.length=m/\(n<=i\/m<=i)⟩
noncomputable def Ws(z TI cj bX b4 cg ck:af)(n m i:Nat)(h:bz):Prop:=fI h z TI cj .none (.bool false)/\IsPair h TI (.ref bX) (.ref b4)/\(∃a b,IsPair h cj a b)/\h.IsTupleIter bX cg i/\h.IsTupleIter b4 ck i/\i<=n/\i<=m
def aiN{P:cC}{w:b6}{K:a6}{es:List bq}{k:Nat}{pos:Pos}{z TI cj bX b4 cg ck:af}{n m:Nat}(D:ZipApart z TI cj bX b4 cg ck):Turn P w K (.Tuple es k pos) (D9 K cg ck n m) [z,TI,cj,bX,b4] z (Ws z TI cj bX b4 cg ck n m) where
 mem:=by simp
 obj:=λi h st b aa=>by
  obtain⟨aq,fq,⟨a,c,gP⟩,ai,ao,_⟩:=st;simp only[cM,gS,or_false] at aa;rcases aa with rfl|rfl|rfl|rfl|rfl
  ·exact⟨_,aq,λv q=>by cases (show Data.fields _=Data.cell v from q)⟩
  ·exact⟨_,fq,λv q=>by cases (show Data.seq _ _=Data.cell v from q)⟩
  ·exact⟨_,gP,λv q=>by cases (show Data.seq _ _=Data.cell v from q)⟩
  ·obtain⟨o,aF,_,hd⟩:=ai;exact⟨o,aF,λv q=>by rw[hd] at q;cases q⟩
  ·obtain⟨o,aF,_,hd⟩:=ao;exact⟨o,aF,λv q=>by rw[hd] at q;cases q⟩
 keep:=λi h h' st bQ=>by
  obtain⟨aq,fq,⟨a,c,gP⟩,ai,ao,a5⟩:=st;exact⟨bQ z (by simp) _ aq,bQ TI (by simp) _ fq,⟨a,c,bQ cj (by simp) _ gP⟩,ai.at λo q=>bQ bX (by simp) o q,ao.at λo q=>bQ b4 (by simp) o q,a5⟩
 item:=by
  intro X gB hw iu au i ah s σ H E I hf st bt;subst gB hw iu;obtain⟨xs,x,ys,y,mW,hx,nV,a_,a5,hm⟩:=bt;obtain⟨its,bR,jY,_⟩:=I.tuple mW;obtain⟨hh,qi,eY,_⟩:=I.tuple nV;obtain⟨u,cn,c7⟩:=bR.get hx;obtain⟨v,bo,aeB⟩:=qi.get a_;obtain⟨aq,fq,⟨a,c,gP⟩,ai,ao,rd,_j⟩:=st;have aM:i<its.toArray.size:=by
   rw[d4];exact (gH.mp cn).1
  have bI:i<hh.toArray.size:=by
   rw[d4];exact (gH.mp bo).1
  have _u:=bR.length;have _v:=qi.length;have ej:s.TypeIs (.ref z) "zip":=⟨_,aq,rfl⟩;have qJ:z<s.heap.objs.size:=cT aq;have Ef:cj<s.heap.objs.size:=cT gP;have Wr:TI<s.heap.objs.size:=cT fq;have aag:bX<s.heap.objs.size:=by obtain⟨o,e,_⟩:=ai;exact cT e
  have aah:b4<s.heap.objs.size:=by obtain⟨o,e,_⟩:=ao;exact cT e
  have cD:=I.ok.hd au;unfold pyNext;refine aR (wpAny_attempt (qs (name:=Str.ofString "__next__") ej F.slot_zip_next (px F.slot_zip_next ej F.entry_zip_next ?_ (F.args_zip_next_1 _))));refine SD (hS:=λi h=>h.IsTupleIter bX cg i/\h.IsTuple cg its.toArray) (ih:=λi h=>h.IsTupleIter b4 ck i/\h.IsTuple ck hh.toArray) D (vC (A:=X.A.in1) cD bX cg D.l1i1 its.toArray) (vC (A:=X.A.in1) cD b4 ck D.l2i2 hh.toArray) aq fq gP ⟨ai,jY⟩ ⟨ao,eY⟩ aM bI λh' hG Kn tk hD py l' Gz s1 s2 aN hsz az=>cf ?_;have ex:hG=u:=by
   rw[<- Array.getElem?_toList,show (its.toArray).toList=its from rfl,cn] at hD;exact (fF hD).symm
  have e4:Kn=v:=by
   rw[<- Array.getElem?_toList,show (hh.toArray).toList=hh from rfl,bo] at py;exact (fF py).symm
  subst ex e4;refine⟨_,rfl,wpAny_letOwnedTupleGo_zip l' λha rn hg=>?_⟩;have k2:∀b o,b≠z->b≠cj->b≠bX->b≠b4->s.heap.get? b=some o->ha.get? b=some o:=λb o bM bY dy kE q=>hg.extBut b o bM (az b o bM bY dy kE q);have fr:H s.heap.objs.size=none:=I.bJ.fresh (dS _);have Gy:ha.get? s.heap.objs.size=some {cls:=.type "tuple",data:=.seq #[hG,Kn]}:=hg.extBut _ _ (hI qJ) aN;obtain⟨am2,jG,gg,amT,Ky,KJ⟩:=hf z (by simp);obtain⟨o0,dG,eN,Jv,Jw,Jx⟩:=hf cj (by simp);obtain⟨f0,f1,f2,hU,f4,hV⟩:=hf bX (by simp);obtain⟨oV,g1,g2,g3,sO,mP⟩:=hf b4 (by simp);obtain⟨t0,_⟩:=hf TI (by simp);have ru:∀b o,H b=some o->b≠z/\b≠cj/\b≠bX/\b≠b4:=λb o q=>⟨λe=>(by rw[e,am2] at q;cases q),λe=>(by rw[e,o0] at q;cases q),λe=>(by rw[e,f0] at q;cases q),λe=>(by rw[e,oV] at q;cases q)⟩;have k3:∀b o,b∉[z,cj,bX,b4]->s.heap.get? b=some o->ha.get? b=some o:=λb o aa q=>by
   simp only[cM,gS,or_false,not_or] at aa;exact k2 b o aa.1 aa.2.1 aa.2.2.1 aa.2.2.2 q
  have xo:∀b o,H b=some o->b∉[z,cj,bX,b4]:=λb o q=>by
   simp only[cM,gS,or_false,not_or];exact ru b o q
  have am8:eC X.prog X.w (upd H s.heap.objs.size (.tup [x,y])) ha:=by
   intro b o q;by_cases aa:b=s.heap.objs.size
   ·subst aa;rw[dM] at q;cases q;exact⟨by show 2<=cA;decide,[hG,Kn],.cons c7 (.cons aeB .nil),⟨_,Gy,rfl,_,rfl⟩⟩
   ·rw[cK aa] at q;refine (I.bJ b o q).jd (λc v da el=>k3 c v ?_ el) (λc el=>?_) λc ys el=>?_
    ·rcases da with rfl|da
     ·exact xo _ _ q
     ·exact xo _ _ da
    ·rw[cK (iW el fr)];exact el
    ·rw[cK (iW el fr)];exact el
  have b5:a7.Inv X ah σ (upd H s.heap.objs.size (.tup [x,y])) {s with heap:=ha,toks:=tk}:=by
   refine I.step (g':=s.gens) (d':=s.drawn) (ch:=[z,cj,bX,b4]) (λb aa=>?_) (λb o _ _ da q _=>k3 b o da q) (λb o _ _ da q _=>⟨o.slots,k3 b o da q⟩) (λb o _ q n=>?_)
    (λb o da q=>⟨o,k3 b o da q⟩) (λb ys q=>by rw[cK (iW q fr)];exact q) (λb o u q=>by rw[cK (iW q fr)];exact q) (λb ps q=>⟨#[],by rw[cK (iW q fr),q];simp⟩) (λm hm=>?_) am8 I.bare
   ·simp only[cM,gS,or_false] at aa;rcases aa with rfl|rfl|rfl|rfl
    ·exact⟨amT,jG,Ky,KJ⟩
    ·exact⟨Jv,dG,Jw,Jx⟩
    ·exact⟨hU,f1,f4,hV⟩
    ·exact⟨g3,g1,sO,mP⟩
   ·rw[cK (ez (cT q))];exact n
   ·obtain⟨o,hu,ep,ki,r⟩:=hm;exact⟨o,hu,ep,k2 _ o (Ne.symm jG) (Ne.symm dG) (Ne.symm f1) (Ne.symm g1) ki,r⟩
  refine⟨.ref s.heap.objs.size,_,b5,rfl,⟨s.heap.objs.size,x,y,fr,rfl,rfl,λws hw=>by rw[I.BH hw mW];exact hx,λws hw=>by rw[I.BH hw nV];exact a_⟩,⟨rn,hg.extBut _ _ D.TIz (az _ _ D.TIz D.TITO D.TIi1 D.TIi2 fq),⟨_,_,hg.extBut _ _ D.TOz Gz⟩,s1.1.at λo q=>hg.extBut _ _ D.i1z q,s2.1.at λo q=>hg.extBut _ _ D.i2z q,?_,?_⟩,λb aa=>?_⟩
  ·rw[d4] at aM;omega
  ·rw[d4] at bI;omega
  ·simp only[cM,gS,or_false] at aa;rcases aa with rfl|rfl|rfl|rfl|rfl
   ·rw[cK (ez qJ)];exact am2
   ·rw[cK (ez Wr)];exact t0
   ·rw[cK (ez Ef)];exact o0
   ·rw[cK (ez aag)];exact f0
   ·rw[cK (ez aah)];exact oV
 done:=by
  intro X gB hw iu au i ah s σ H E I hf st bt;subst gB hw iu;obtain⟨xs,ys,mW,nV,a5,hm,av⟩:=bt;obtain⟨its,bR,jY,_⟩:=I.tuple mW;obtain⟨hh,qi,eY,_⟩:=I.tuple nV;obtain⟨aq,fq,⟨a,c,gP⟩,ai,ao,rd,_j⟩:=st;have _u:=bR.length;have _v:=qi.length;have ej:s.TypeIs (.ref z) "zip":=⟨_,aq,rfl⟩;have cD:=I.ok.hd au;have aK:i=its.toArray.size\/(i<its.toArray.size/\i=hh.toArray.size):=by
   rw[d4,d4];omega
  unfold pyNext;refine aR (wpAny_attempt (qs (name:=Str.ofString "__next__") ej F.slot_zip_next (px F.slot_zip_next ej F.entry_zip_next ?_ (F.args_zip_next_1 _))));refine SA (hS:=λi h=>h.IsTupleIter bX cg i/\h.IsTuple cg its.toArray) (ih:=λi h=>h.IsTupleIter b4 ck i/\h.IsTuple ck hh.toArray) D (vC (A:=X.A.in1) cD bX cg D.l1i1 its.toArray) (vC (A:=X.A.in1) cD b4 ck D.l2i2 hh.toArray) aq fq gP ⟨ai,jY⟩ ⟨ao,eY⟩ aK λh' e tk az he=>?_;obtain⟨o,aF,da⟩:=he;refine aR (wpAny_isInstance (T:="StopIteration") (b:=true) ⟨o,aF,da⟩ isSubtype_stop (cf ⟨rfl,?_⟩));obtain⟨am2,jG,gg,amT,Ky,KJ⟩:=hf z (by simp);obtain⟨o0,dG,eN,Jv,Jw,Jx⟩:=hf cj (by simp);obtain⟨f0,f1,f2,hU,f4,hV⟩:=hf bX (by simp);obtain⟨oV,g1,g2,g3,sO,mP⟩:=hf b4 (by simp);have k3:∀b o,b∉[z,cj,bX,b4]->s.heap.get? b=some o->h'.get? b=some o:=λb o aa q=>by
   simp only[cM,gS,or_false,not_or] at aa;exact az b o aa.1 aa.2.1 aa.2.2.1 aa.2.2.2 q
  have xo:∀b o,H b=some o->b∉[z,cj,bX,b4]:=λb o q=>by
   simp only[cM,gS,or_false,not_or];exact⟨λe=>(by rw[e,am2] at q;cases q),λe=>(by rw[e,o0] at q;cases q),λe=>(by rw[e,f0] at q;cases q),λe=>(by rw[e,oV] at q;cases q)⟩
  have am8:eC X.prog X.w H h':=by
   intro b o q;refine (I.bJ b o q).jd (λc v da el=>k3 c v ?_ el) (λc el=>el) λc ys el=>el;rcases da with rfl|da
   ·exact xo _ _ q
   ·exact xo _ _ da
  refine I.step (g':=s.gens) (d':=s.drawn) (ch:=[z,cj,bX,b4]) (λb aa=>?_) (λb o _ _ da q _=>k3 b o da q) (λb o _ _ da q _=>⟨o.slots,k3 b o da q⟩) (λb o _ q n=>n)
    (λb o da q=>⟨o,k3 b o da q⟩) (λb ys q=>q) (λb o u q=>q) (λb ps q=>⟨#[],by rw[q];simp⟩) (λm hm=>?_) am8 I.bare
  ·simp only[cM,gS,or_false] at aa;rcases aa with rfl|rfl|rfl|rfl
   ·exact⟨amT,jG,Ky,KJ⟩
   ·exact⟨Jv,dG,Jw,Jx⟩
   ·exact⟨hU,f1,f4,hV⟩
   ·exact⟨g3,g1,sO,mP⟩
  ·obtain⟨o,hu,ep,ki,r⟩:=hm;exact⟨o,hu,ep,az _ o (Ne.symm jG) (Ne.symm dG) (Ne.symm f1) (Ne.symm g1) ki,r⟩
 self:=λ_ _ _ _ _ st h=>wpAny_pyIter_zip (f0:=.none) st.1 h
noncomputable def aak(K:a6)(cF:gi):TI:=λσ H R=>cF σ H λvs H1=>∃a b xs ys,vs=[.ref a,.ref b]/\c3 K H1 a xs/\c3 K H1 b ys/\R (D9 K a b xs.length ys.length) H1
section
variable {X:aV}{es:List bq}{k:Nat}{p pos eY:Pos}{a b:bq}{f g:bH}
def ak5{cF:gi}(bt:ew X "zip")(hm:X.mg "zip"=none)(aB:hp X [a,b] cF)(av:bB [a,b] X.env=(false,eval a X.env)::bB [b] X.env)(hpl:(dZ pos (bB [b] X.env)).any (·.1)=false):qQ X (.Tuple es k eY) (.Call (.Name "zip" p) [a,b] [] pos) (aak X.K cF):=by
 intro ah s σ H R I h;refine Call_ (r8 I bt hm PyProof.Rows.boot_zip (vl (cJ (aB pos ah s σ H _ I h) λus s1 ⟨vs,H1,a',bj,aP⟩=>?_) av hpl));obtain⟨cg,ck,xs,ys,rfl,mW,nV,q⟩:=aP;obtain⟨Kh,xJ,rfl,aD,aL⟩:=bj.two;cases aD;cases aL;obtain⟨its,bR,pl,_⟩:=a'.tuple mW;obtain⟨hh,qi,JG,_⟩:=a'.tuple nV;have k1:gG false s1.heap cg its.toArray:=pl;have k2:gG false s1.heap ck hh.toArray:=JG;refine Sm k1 k2 λh' xa fq gP u2 p' hsz aK=>wpAny_pyIter_zip (f0:=.none) xa ?_;refine⟨s1.heap.objs.size+4,[s1.heap.objs.size+4,s1.heap.objs.size+2,s1.heap.objs.size+3,s1.heap.objs.size,s1.heap.objs.size+1],_,_,H1,rfl,a'.kept (t':=s1.toks) aK,aiN (Q4 k1.lt k2.lt),⟨xa,fq,⟨_,_,gP⟩,u2,p',kT _,kT _⟩,λb aa=>?_,q⟩;have ju:s1.heap.objs.size<=b:=by
  simp only[cM,gS,or_false] at aa;rcases aa with rfl|rfl|rfl|rfl|rfl
  ·exact h8 _ _
  ·exact h8 _ _
  ·exact h8 _ _
  ·exact dS _
  ·exact h8 _ _
 exact a'.z9 ju (a'.bJ.fresh ju)
noncomputable def yW(ts us:List T):List T:=List.zipWith (λx y=>.tuple [x,y]) ts us
def ajq{K:a6}{a b:af}{aY:af->Prop}{H1:aw}{ts us:List T}{vs ws:List V}(ax:c3 K H1 a vs)(q:bl K aY H1 ts vs)(nW:c3 K H1 b ws)(a9:bl K aY H1 us ws):oH K (D9 K a b vs.length ws.length) aY H1 (yW ts us) where
 go:=λi F H t az d e=>by
  have aM:=(gH.mp e).1;simp only[yW,List.length_zipWith] at aM;obtain⟨v,ai,_⟩:=q.get (hH (show i<ts.length by omega));obtain⟨v2,ao,_⟩:=a9.get (hH (show i<us.length by omega));exact⟨vs,v,ws,v2,az.tup _ _ ax,ai,az.tup _ _ nW,ao,rfl,rfl⟩
 nf:=λi F H t x ae az d e y=>by
  obtain⟨p,v,v2,aN,rfl,rfl,mm,mq⟩:=y;have aM:=(gH.mp e).1;simp only[yW,List.length_zipWith] at aM;have u2:i<ts.length:=by omega
  have p':i<us.length:=by omega
  obtain⟨je,ai,ao⟩:=(q.az az).get (hH u2);obtain⟨amz,bE,c4⟩:=(a9.az az).get (hH p');have f':=mm vs (az.tup _ _ ax);rw[ai] at f';cases f';have p7:=mq ws (az.tup _ _ nW);rw[bE] at p7;cases p7;have aO:=Ext.laid (o:=.tup [v,v2]) d aN;refine⟨F,aO,?_⟩;have bC:t=.tuple [ts[i],us[i]]:=by
   rw[yW,List.getElem?_zipWith,hH u2,hH p'] at e;exact (fF e).symm
  subst bC;simp only[Rep];exact⟨p,_,rfl,c3.of dM,bl.cons (ao.ext aO) (bl.cons (c4.ext aO) bl.nil)⟩
 stop:=λi F H az aE=>⟨vs,ws,az.tup _ _ ax,az.tup _ _ nW,rfl,rfl,by
  simp only[yW,List.length_zipWith] at aE;rw[<- q.length,<- a9.length];omega⟩
def UN(hm:X.mg "zip"=none)(aB:cQ X a f)(aa:cQ X b g)(bt:ew X "zip":=by rfl)(av:bB [a,b] X.env=(false,eval a X.env)::bB [b] X.env:=by rfl)(hg:bB [b] X.env=(false,eval b X.env)::bB [] X.env:=by rfl)(hpl:(dZ pos (bB [b] X.env)).any (·.1)=false:=by rfl):
  oI X (.Tuple es k eY) (.Call (.Name "zip" p) [a,b] [] pos) (DQ (jk f) (jk g)):=DD (ak5 bt hm (fu aB (fu aa h_ hg) av) av hpl) λσ H R ⟨aC,aT,O,F,ε,ts,r,e,k⟩=>by
 simp only[DQ,jk,dY,cz] at e;obtain⟨xs,⟨t,bC,aD⟩,ys,⟨u,f9,aL⟩,rfl⟩:=e;split at aD
 ·cases aD
  split at aL
  ·cases aL
   refine⟨aC,aT,O,F,ε,_,r,bC,λv aY H1 aO aP=>⟨aC,aT,O,aY,ε,_,r.ext aO,f9,λw dH ba bZ a9=>?_⟩⟩
   have PR:=aP.ext bZ;simp only[Rep] at PR a9;obtain⟨a1,vs,rfl,rj,ri⟩:=PR;obtain⟨a2,ws,rfl,hg,nW⟩:=a9;exact⟨a1,a2,vs,ws,rfl,rj,hg,k _ dH ba (aO.trans bZ) (ajq rj ri hg nW)⟩
  ·cases aL
 ·cases aD
end
end
section
variable [cI]
open PySem.W (kas_ask kas_sort kat_run kat_snds kat_lt kat_kind KatTups KatLex KatGo kas_item KasT)
def ej(x:Str×List T):T:=.tuple (.str x.1::x.2)
end
section
variable [cI]
def q4(f:bH):bF:=λε=>(f ε).map λ_=>.bO ε
def alv{P:cC}{w:b6}{K:a6}{mg:Str->Option aj}{base:bz}{x y:Str}{st:Stmt}{f:af}{fd:et}{N ps:List Str}{k:Nat}{b:bF}(F:cG K x x st f fd)(S:cO N ps (bx st))(bd:fG K fd ps [])(m:mg y=some (.ref f))
  (aa:∀(bN:aj) (A:cH) (outer:List Env) (s:aH) (H:aw) (E:e0),c2 k (A.deeper (envOfC x (bx st) s.heap.objs.size f bN)) ->
   hR (e3 dt P w K mg base N x (bx st) f bN A outer s H E).ey (fv st) b):Cl P w K mg base y (k+1) ps.length (eJ b N.length):=.mk' (Uq F S aa) m F.az bd
section
variable {X:aV}{k n c C i:Nat}{ns:List Str}{d:List aJ->Option (T×List aJ)}{x:Str}{p pos:Pos}{o e:bq}{es:List bq}{aA:List bH}{f:bH}
def L3(fV:fw X.K c C ns)(ie:so X.prog X.w X.K X.mg X.base x c 0 k n d)(ax:c2 k X.A)(a5:bK X o (fB i))(aB:lZ X es aA)(bt:ew X x:=by rfl)(aE:aA.length+1=n:=by rfl)(gn:(x==("__debug__":Str))=false:=by decide)
  (he:bB (o::es) X.env=(false,eval o X.env)::bB es X.env:=by rfl) (hpl:(dZ pos (bB es X.env)).any (·.1)=false:=by rfl):kD X (.Call (.Name x p) (o::es) [] pos) (oz c d [] i aA):=by
 obtain⟨bT,fd,ps,F,m,az,b⟩:=ie.ex;refine ee (yB F ax bt m az b .nil ow (fu a5 aB he) gn he hpl) λσ H Q ⟨aC,E,O,F,ε,t,ε',r,e,bQ⟩=>?_;simp only[oz,cz] at e;obtain⟨⟨md,os⟩,aF,e⟩:=e;split at e
 next=>cases e
 next w2=>
  simp only[args,cz,dY,Option.some.injEq,exists_eq_left'] at e;obtain⟨ts,bC,cq,ff,e⟩:=e;cases e;obtain⟨a,vs,bf,ai,hx,_⟩:=nk fV r aF;refine⟨_,ai,aC,E,O,F,ε,ts,r,bC,λws aY H1 aO q=>?_⟩;show tv X.K n c 0 d (V.ref a::ws++[]) H1 Q jO;rw[amE];exact LR r aF w2 ai aO q ff (by rw[vJ bC,aE]) bQ
def MI(h:cQ X e f)(l_:amF e none pos.line X.env=pure false:=by rfl):gs X (.Expr e pos) (q4 f):=hL (yA h l_) λD σ H ⟨aC,E,O,F,ε,o,r,e,k⟩=>by
 simp only[q4,dY] at e;obtain⟨t,bC,rfl⟩:=e;exact⟨aC,E,O,F,ε,t,r,bC,λv aG ae x _=>k σ aG ae x.az (r.ext x)⟩
end
end
section
def ahZ{pos:Pos}{c cv:aj}{a b:Int}(l:List aj)(h:TriplesOk l)(e:codeAmong pos (l++[hj a,hj b,c])=some cv):codeAmong pos l=some cv\/cv=c:=by
 fun_induction TriplesOk l with
|case1=>
  simp only[ob,codeAmong,hj] at e;split at e
  ·exact .inr (fF e).symm
  ·cases e
|case2 k9 t nF u x rest b1=>
  simp only[vr,codeAmong] at e ⊢;split at e
  next au=>rw[if_pos au];exact .inl e
  next au=>rw[if_neg au];exact b1 h e
|case3 _ _ _=>exact h.elim
noncomputable def oC(mg:Str->Option aj)(h:bz):Prop:=∃bm dc,mg "__builtins__"=some (.ref bm)/\bm≠builtinsNs/\h.get? bm=some dc/\dc.cls=.type "module"/\dc.dict=some builtinsNs/\dc.data=.plain
noncomputable def o8(o:Obj)(q:af):d7:=.ext λh=>h.get? q=some o
noncomputable def wF(c:af)(q:Str):d7:=.ext λh=>h.CodeRec (.ref c) q
variable [cI]
def SX{X:aV}{ah:List (af×Obj)}{σ:a7.St}{H:aw}{s:aH}{params:Arguments}{body:bq}{scope:Scope}{jW:Pos}{c P:af}{f5:List (Str×af)}{Q:aj->aH->Prop}(I:Inv X ah σ H s)
  (sV:X.env.code=.ref c) (C:PySem.W.CodeHd X.base c P) (jU:oC X.mg X.base) (u0:defaultsOf params X.env=([],[])) (lg:closureFor scope X.env=pure f5)
  (d:mG H) (df:(P,X.env.qual++"<lambda>")∈cI.df) (un:∀p∈cI.df,p.1=P->p.2=X.env.qual++"<lambda>")
  (h:∀(q bW:af) (iG:aj) (ae:aw) (s':aH),Inv X ah σ ae s'->jL H ae->mG ae->H q=none->ae q=some (o8 (PySem.W.kla_obj "<lambda>" (X.env.qual++"<lambda>") params body scope f5 ((X.mg "__name__").getD .none) bW iG) q) ->
   ae bW=some (wF bW (X.env.qual++"<lambda>"))->Q (.ref q) s'):
  bc (bu X.prog X.w) X.A (eval (.Lambda params body scope jW) X.env) Q X.di s:=by
 obtain⟨ps,eF,bh,bt⟩:=d _ df;have gB:s.heap.get? P=some (PySem.W.tabObj ps):=I.bJ P _ eF;have ns:s.heap.Ns jf X.mg:=I.ok.mod.glob.keeps I.gx;obtain⟨bm,dc,bM,bY,dy,kE,E3,sF⟩:=jU;have wB:=I.gx _ _ dy;have _g:jf≠P:=λz=>by
  obtain⟨o,es,ep,e,hd,_⟩:=ns;rw[z,gB] at e;cases e;cases hd
 have ZU:bm≠P:=λz=>by
  rw[z,gB] at wB;cases wB;cases kE
 have ZT:bm≠jf:=λz=>by
  obtain⟨o,es,ep,e,hd,_⟩:=ns;rw[z,e] at wB;cases wB;rw[hd] at sF;cases sF
 have aa:s.heap.BuiltinsAt X.mg P:=⟨bm,dc,bM,bY,ZT,ZU,wB,kE,E3,sF⟩;have amO:=C.keeps I.gx;refine PySem.W.kla_eval u0 ?_;cases hf:codeAmong jW ps.toList with
|some cv=>
  obtain⟨bW,rfl,da⟩:=bt jW cv hf;refine PySem.W.kla_makeFunctionHit lg I.ok.glob ns sV amO gB bh hf aa λiG h' tk k hsz=>?_;have fr:H h'.objs.size=none:=I.bJ.fresh hsz;refine h h'.objs.size bW iG (upd H h'.objs.size (o8 _ h'.objs.size)) _ (I.laid (t':=tk) (λb u e=>cZ _ (k b u e)) hsz ⟨gI _ rfl,⟨_,gI _ rfl⟩,λai ao aD aL=>aL _ aD⟩)
   (λb o e=>.inl (by rw[cK (iW e fr)];exact e)) (d.new fr) fr dM (by rw[cK (iW da fr)];exact da)
|none=>
  refine PySem.W.kla_makeFunction lg I.ok.glob ns sV amO gB bh hf _g aa λbW iG h' tk hx Ae e1 O6 rm=>?_
  have OG:H h'.objs.size=none:=I.bJ.fresh (mn Ae (Nat.le_of_lt e1));have Zs:H bW=none:=I.bJ.fresh Ae;have Xy:bW≠h'.objs.size:=ez e1;have tf:∀b o,H b=some o->b≠bW:=λb o e=>iW e Zs;have Px:∀b o,H b=some o->b≠h'.objs.size:=λb o e=>iW e OG;have Wm:=tf P _ eF;have Wn:=Px P _ eF
  let ae:aw:=upd (upd (upd H P (.h4 (ps++#[hj jW.line,hj jW.col,.ref bW]))) bW (wF bW (X.env.qual++"<lambda>"))) h'.objs.size (o8 (PySem.W.kla_obj "<lambda>" (X.env.qual++"<lambda>") params body scope f5 ((X.mg "__name__").getD .none) bW iG) h'.objs.size)
  have OB:ae h'.objs.size=some (o8 (PySem.W.kla_obj "<lambda>" (X.env.qual++"<lambda>") params body scope f5 ((X.mg "__name__").getD .none) bW iG) h'.objs.size):=dM;have F7:ae bW=some (wF bW (X.env.qual++"<lambda>")):=by show upd _ _ _ _=_;rw[cK Xy,dM]
  have zx:ae P=some (.h4 (ps++#[hj jW.line,hj jW.col,.ref bW])):=by show upd _ _ _ _=_;rw[cK Wn,cK Wm,dM]
  have F6:∀b,b≠P->b≠bW->b≠h'.objs.size->ae b=H b:=λb hB gp A9=>by show upd _ _ _ _=_;rw[cK A9,cK gp,cK hB]
  have p2:∀b o,H b=some o->b≠P->ae b=some o:=λb o e n=>by rw[F6 b n (tf b o e) (Px b o e)];exact e
  have az:∀b o,b≠P->s.heap.get? b=some o->(h'.push (PySem.W.kla_obj "<lambda>" (X.env.qual++"<lambda>") params body scope f5 ((X.mg "__name__").getD .none) bW iG)).get? b=some o:=λb o n e=>cZ _ (hx b o n e);have te:∀b,H b=none->b≠P:=λb e z=>by rw[z,eF] at e;cases e
  have tu:jL H ae:=λb o e=>by
   by_cases z:b=P
   ·subst z;rw[eF] at e;cases e;exact .inr ⟨_,_,rfl,zx⟩
   ·exact .inl (p2 b o e z)
  refine h h'.objs.size bW iG ae _ (I.un (t':=tk) ⟨λb o e n _ _=>az b o (te b n) e,λb o e n _ _=>⟨o.slots,az b o (te b n) e⟩,λb o e n _=>?_,λb o e _=>?_,λb xs e=>p2 b _ e λz=>by (rw[z,eF] at e;cases e),λb o u e=>p2 b _ e λz=>by (rw[z,eF] at e;cases e),λb me e=>?_⟩ λa o e=>?_) tu (λp aN=>?_) OG OB F7
  ·have lt:=cT e;rw[F6 b (te b n) (ez (iU lt Ae)) (ez (Nat.lt_trans (iU lt Ae) e1))];exact n
  ·by_cases z:b=P
   ·subst z;exact⟨_,cZ _ rm⟩
   ·exact⟨o,az b o z e⟩
  ·by_cases z:b=P
   ·subst z;rw[eF] at e;cases e;exact⟨_,zx⟩
   ·exact⟨#[],by rw[p2 b _ e z];simp⟩
  ·by_cases jG:a=h'.objs.size
   ·subst jG;rw[OB] at e;cases e;exact⟨gI _ rfl,⟨_,gI _ rfl⟩,λai ao aD aL=>aL _ aD⟩
   by_cases gg:a=bW
   ·subst gg;rw[F7] at e;cases e;refine⟨O6.at λo e=>cZ _ e,?_,λai ao aD aL=>aD.at aL⟩;obtain⟨dn,o,vs,t,aL,aF,_⟩:=O6;cases aL;exact⟨o,cZ _ aF⟩
   by_cases amT:a=P
   ·subst amT;rw[zx] at e;cases e;exact cZ _ rm
   ·rw[F6 a amT gg jG] at e;refine (I.bJ a o e).jd (λb u aa q=>az b u ?_ q) (λb q=>p2 b _ q λz=>by (rw[z,eF] at q;cases q)) λb xs q=>p2 b _ q λz=>by (rw[z,eF] at q;cases q)
    rcases aa with rfl|aa
    ·exact amT
    ·exact λz=>by rw[z,eF] at aa;cases aa
  ·by_cases z:p.1=P
   ·have aL:=un p aN z;obtain⟨jY,eY⟩:=p;simp only at z aL;subst z aL;refine⟨_,zx,by rw[Array.toList_append];exact TriplesOk_snoc _ _ _ _ bh,λpos cv e=>?_⟩;rw[Array.toList_append] at e;rcases ahZ _ bh e with e|e
    ·obtain⟨dn,aD,aL⟩:=bt pos cv e;exact⟨dn,aD,p2 _ _ aL λz=>by (rw[z,eF] at aL;cases aL)⟩
    ·exact⟨bW,e,F7⟩
   ·obtain⟨me,aP,a9,de⟩:=d p aN;refine⟨me,p2 _ _ aP z,a9,λpos cv e=>?_⟩;obtain⟨dn,aD,aL⟩:=de pos cv e;exact⟨dn,aD,p2 _ _ aL λz=>by (rw[z,eF] at aL;cases aL)⟩
end
section
variable [cI]
noncomputable def mO(qual:Str)(scope:Scope)(L q:af)(cd:aj)(cl:List (Str×af)):Env:=
 {scope:=scope,locals:=L,globals:=jf,cells:=cl,qual:=qual++".<locals>.",func:=some q,code:=cd,frame:=some L,builtins:=builtinsNs}
noncomputable def qY(P:cC)(w:b6)(K:a6)(mg:Str->Option aj)(base:bz)(N:List Str)(qual:Str)(scope:Scope)(q:af)(cd:aj)(cl:List (Str×af))(A:cH)(outer:List Env)(s:aH)(H:aw):aV where
 prog:=P
 w:=w
 K:=K
 mg:=mg
 base:=base
 A:=A.deeper (mO qual scope s.heap.objs.size q cd cl)
 N:=N
 c_:=s
 aT:=H
 env:=mO qual scope s.heap.objs.size q cd cl
 outer:=outer
 stack:=mO qual scope s.heap.objs.size q cd cl::outer
 ex:=[]
 calm:=true
 fn:=λ_=>false
 c8:=[]
 di:=λ_ _=>False
structure uy(N:List Str)(scope:Scope)(cl:List (Str×af))(σ:a7.St)(H:aw)(h:bz):Prop where
 inj:∀x y c,cl.lookup x=some c->cl.lookup y=some c->x=y
 has:∀x,(scope.names.lookup x=some .cell\/scope.names.lookup x=some .free)->∃c,cl.lookup x=some c
 uO:∀x c,cl.lookup x=some c->(∃v,h.IsCell c v)/\H c=none
 len:σ.length=N.length
 val:∀(i:Nat) (x:Str) (v:V),N[i]?=some x->σ[i]?=some (some v)->l0 scope x->∃u c,RelV v u/\scope.names.lookup x=some .free/\cl.lookup x=some c/\h.IsCell c (some u)
def Rm{h h':bz}{c:af}{v:Option aj}(x:h.IsCell c v)(k:∀b o,h.get? b=some o->h'.get? b=some o):h'.IsCell c v:=by
 obtain⟨o,aF,hd⟩:=x;exact⟨o,k _ _ aF,hd⟩
section
variable {P:cC}{w:b6}{K:a6}{mg:Str->Option aj}{base:bz}{k:Nat}{q bW:af}{N:List Str}{qual:Str}{scope:Scope}{cd:aj}{cl:List (Str×af)}{A:cH}{outer:List Env}{s:aH}{H:aw}{σ:a7.St}
def RM{ai:bz}{tk:Nat}{m:Str->Option aj}(aK:scope.kind=.function)(hd:A.handled=none)(cm:ny P w K mg base A outer s H)(C:uy N scope cl σ H s.heap)(mV:ai.Ns s.heap.objs.size m)(az:∀b o,s.heap.get? b=some o->ai.get? b=some o):
  Inv (qY P w K mg base N qual scope q cd cl A outer s H) [] σ H {s with heap:=ai,toks:=tk}:=by
 have qf:∀b:af,b∉(qY P w K mg base N qual scope q cd cl A outer s H).ex:=λb z=>absurd (show b∈([]:List af) from z) (by simp);refine⟨⟨cm.mod,aK,rfl,rfl,dS _,C.inj,C.has,λy c hf _=>(by cases hf),λ_=>hd,Around.frames_deeper cm.frames,.inr ⟨rfl,rfl⟩,λb z=>absurd z (qf b),cm.bs,cm.nG,λb _ _=>qf b,λb z=>absurd z (qf b),cm.kJ,cm.oU⟩,
  rfl,cm.bare,fU.kept az,⟨m,mV,λi y v ai ao bE=>?_⟩,λy c h=>?_,cm.bJ.fresh (dS _),λy c h=>(C.uO y c h).2,λp aN=>absurd (show p∈([]:List (af×Obj)) from aN) (by simp),cm.bJ.kept az,C.len⟩
 ·obtain⟨u,c,c7,hf,au,hx⟩:=C.val i y v ai ao bE;exact⟨u,c7,.inr ⟨.inr hf,c,au,Rm hx az⟩⟩
 ·obtain⟨⟨v,bo⟩,_⟩:=C.uO y c h;exact⟨v,Rm bo az⟩
def aip{params:Arguments}{body:bq}{pm iG:aj}{f:g8}{Q:c0}{E:e0}(aK:scope.kind=.function)(q':scope.isCoroutine=false)(rb:scope.isGenerator=false)(lh:∀x∈scope.names,x.2≠.cell)
  (aa:∀(A:cH) (outer:List Env) (s:aH) (H:aw),c2 k (A.deeper (mO qual scope s.heap.objs.size q (.ref bW) cl))->kD (qY P w K mg base N qual scope q (.ref bW) cl A outer s H) body f)
  (bd:bindArgs (PySem.W.kla_fn "<lambda>" qual params body scope cl pm (.ref bW) iG) ⟨[],[]⟩=pure [])
  (ax:c2 (k+1) A) (cm:ny P w K mg base A outer s H) (bb:H q=some (o8 (PySem.W.kla_obj "<lambda>" qual params body scope cl pm bW iG) q)) (au:H bW=some (wF bW qual)) (C:uy N scope cl σ H s.heap)
  (h:xI K f σ H Q):h7 (bu P w) A (.call (.ref q) ⟨[],[]⟩) (oF dt outer P w H s Q E) s:=by
 have Js:s.heap.NoLimit:=cm.mod.nolimit.keeps λb o e=>(cm.bs b o e).1;refine PySem.W.kla_callFunE ax.depth (cm.bJ q _ bb).1 rfl q' rb rfl (cm.bJ bW _ au).1 ?_;rw[bd];refine cf (BQ lh (λx hx=>by cases hx) (λeG mV rk=>⟨Js.fresh _ rk,?_⟩) aK);have az:∀b o,s.heap.get? b=some o->eG.get? b=some o:=λb o e=>rk.extBut b o (ez (cT e)) (cZ _ e);show h7 _ _ (.expr body (mO qual scope s.heap.objs.size q (.ref bW) cl)) _ _;refine PySem.W.kla_codeExpr ?_;have I:Inv (qY P w K mg base N qual scope q (.ref bW) cl A outer s H) [] σ H {s with heap:=eG,toks:=s.toks+([]:List (Str×aj)).length}:=RM aK ax.hd cm C mV az;refine eK (aa A outer s H (ax.deeper _) [] _ σ H (λv ae=>Q v ae) I h) (λu s' av=>?_) λe s' av=>(show False from av).elim;obtain⟨v,ae,J,bR,qv⟩:=av;exact⟨v,ae,J.os,J.bare,J.base,J.bJ,bR,qv⟩
end
end
section
variable [cI]
def S1{P:cC}{w:b6}{K:a6}{mg:Str->Option aj}{base:bz}{k:Nat}{x qual:Str}{st:Stmt}{f:af}{fd:et}{N ps:List Str}{A:cH}{outer:List Env}{s:aH}{H:aw}{us:List aj}{vs:List V}{Q:c0}{E:e0}
  (F:cG K x qual st f fd) (S:cO N ps (bx st)) (bd:fG K fd ps []) (ax:c2 (k+1) A) (cm:ny P w K mg base A outer s H) (r:Vals vs us) (aE:vs.length=ps.length)
  (p9:∀bN:aj,c2 k (A.deeper (envOfC qual (bx st) s.heap.objs.size f bN))->∃t,fT (e3 dt P w K mg base N qual (bx st) f bN A outer s H E).ey (fv st) t/\t {bO:=λ_ ae=>Q .d3 ae,er:=Q} (start N vs) H):
  h7 (bu P w) A (.call (.ref f) ⟨us,[]⟩) (oF dt outer P w H s Q E) s:=by
 obtain⟨gD,eI,dN,doc,pm,an,bN,cR,lu,rfl,lk,fz⟩:=F.ex;have _T:us.length=ps.length:=by rw[<- r.length];exact aE
 have kB:K.In s.heap:=cm.mod.o5.keeps λb o e=>(cm.bs b o e).1;have lim:s.heap.NoLimit:=cm.mod.nolimit.keeps λb o e=>(cm.bs b o e).1;have aa:=bd s us kB (by rw[amE];exact _T);rw[amE] at aa;have GS:∀y∈ps.zip us,(bx st).names.lookup y.1=some .local\/((bx st).names.lookup y.1=some .cell/\((cellsFrom (s.heap.objs.size+1) (bx st).names []).lookup y.1).isSome=true):=λ⟨n,v⟩ a_=>by
  rcases S.par n (List.of_mem_zip a_).1 with q|q
  ·exact .inl q
  ·exact .inr ⟨q,PySem.W.cellsFrom_some _ _ _ (.inl q)⟩
 refine codeAny_call_function ax.depth (kB _ _ lk) rfl S.co S.gen rfl (PySem.W.codeRec_of kB fz) (aa _ _ _ _ ?_)
 refine wpAny_newFunctionEnv_cells S.kind GS λenv he s1 x=>?_
 subst he;refine⟨lim.keeps x.toInCall.keep,codeAny_func ?_⟩;obtain⟨t,bh,bb⟩:=p9 bN (ax.deeper _);have I:Inv (e3 dt P w K mg base N qual (bx st) f bN A outer s H E) [] (start N vs) H s1:=Sb S ax.hd cm aE r x;refine eK (bh.ey [] s1 (start N vs) H _ I bb) (λdE s' av=>?_) λe s' av=>av;have fin:∀{ct:a7.St} {ae:aw} {v:V} {u:aj},Inv (e3 dt P w K mg base N qual (bx st) f bN A outer s H E) [] ct ae s'->RelV v u->Q v ae->y8 outer P w H s Q u s':=
  λ{ct ae v u} J bR q=>⟨v,ae,J.os,J.bare,J.base,J.bJ,bR,q⟩
 cases dE with
|ret u=>
  obtain⟨v,ct,ae,J,bR,q⟩:=av;exact fin J bR q
|next=>
  obtain⟨ct,ae,J,q⟩:=av;exact fin (v:=V.d3) (u:=Value.none) J rfl q
|brk=>
  obtain⟨_,_,_,q⟩:=av;exact eL q
|cont=>
  obtain⟨_,_,_,q⟩:=av;exact eL q
noncomputable def UG(X:aV)(i:Nat):TE:=λσ H Q=>∃q,σ[i]?=some (some (.ref q))/\(∃(o:Obj) (fd:et),H q=some (o8 o q)/\o.data=.func fd) /\
 ∀(ah:List (af×Obj)) (s:aH),Inv X ah σ H s->h7 (bu X.prog X.w) X.A (.call (.ref q) ⟨[],[]⟩) (oF dt X.stack X.prog X.w H s Q jO) s
def aj8{X:aV}{i:Nat}{x:Str}{p pos:Pos}(a5:bK X (.Name x p) (fB i)):bK X (.Call (.Name x p) [] [] pos) (UG X i):=by
 intro ah s σ H Q I ⟨q,bb,⟨o,fd,aF,GL⟩,au⟩;refine pq (cJ (a5 ah s σ H (λv H1=>v=.ref q/\H1=H) I ⟨.ref q,bb,rfl,rfl⟩) λv s1 ⟨y,H1,a',bk,e4,ht⟩=>?_);subst e4;subst ht;cases bk;have bT:PySem.W.FnAt q s1.heap:=by
  have ai:s1.heap.get? q=some o:=(a'.bJ q _ aF).1;obtain⟨c,uP,F3,cB⟩:=o;cases GL;exact⟨_,_,_,_,ai⟩
 refine PySem.W.callWith_F0 bT ?_
 refine rM (pw (au ah s1 a') λr s' bb=>?_)
 cases r with
|error e=>exact eL bb
|ok dE=>
  cases dE with
  |ret u=>exact a'.after bb
  |next=>exact eL bb
  |brk=>exact eL bb
  |cont=>exact eL bb
end
section
variable [cI]
def ak3{X:aV}{body:List Stmt}{h₀:ExceptHandler}{av:List ExceptHandler}{pos:Pos}{t:f3}(aa:fT X body t)(hx:X.di=λ_ _=>False:=by rfl):jr X (.Try body (h₀::av) [] [] pos) t:=by
 intro ah s σ H D I h;refine wpAny_Try_except (eK (aa ah s σ H D I h) (λf s1 av=>?_) λe s1 he=>?_)
 ·cases f with
  |next=>exact wpAny_execs_nil av
  |ret u=>exact av
  |brk=>exact av
  |cont=>exact av
 ·rw[hx] at he;exact he.elim
def Sa{aA ex:List af}{H ae:aw}{h h':bz}{c:af}{v:Option aj}(u:fU aA ex H ae h h')(x:h.IsCell c v)(au:H c=none)(he:c∉ex):h'.IsCell c v:=by
 obtain⟨o,aF,hd⟩:=x;by_cases hf:c∈aA
 ·obtain⟨cB,e⟩:=u.slot c o aF au hf he;exact⟨_,e,hd⟩
 ·exact⟨o,u.keep c o aF au hf he,hd⟩
def TH{X:aV}{ah:List (af×Obj)}{σ:a7.St}{H:aw}{s:aH}{scope:Scope}(I:Inv X ah σ H s)(lh:∀x∈scope.names,x.2≠.cell/\x.2≠.local)(kM:∀x∈scope.names,x.2=.free->X.env.scope.names.lookup x.1=some .cell):
  uy X.N scope (f5 X.env scope.names []) σ H s.heap:=by
 have aE:∀x∈scope.names,x.2=.free->∃c,X.env.cells.lookup x.1=some c:=λx hx hf=>I.ok.has x.1 (.inl (kM x hx hf));have fr:∀x c,(f5 X.env scope.names []).lookup x=some c->X.env.cells.lookup x=some c:=vH aE λx c e=>by cases e
 refine⟨λx y c ai ao=>I.ok.inj x y c (fr x c ai) (fr y c ao),λx h=>?_,λx c h=>⟨I.cell x c (fr x c h),I.jS x c (fr x c h)⟩,I.len,λi x v ai ao bE=>?_⟩
 ·rcases h with h|h
  ·obtain⟨y,a_,aD,aL⟩:=rT h;exact absurd aD (lh y a_).1
  ·obtain⟨y,a_,aD,aL⟩:=rT h;exact ua (.inl ⟨y,a_,aD,aL⟩)
 ·have hf:scope.names.lookup x=some .free:=by
   rcases bE with h|h|h
   ·obtain⟨y,a_,aD,_⟩:=rT h;exact absurd aD (lh y a_).2
   ·obtain⟨y,a_,aD,_⟩:=rT h;exact absurd aD (lh y a_).1
   ·exact h
  obtain⟨y,a_,aD,aL⟩:=rT hf;have aK:X.env.scope.names.lookup x=some .cell:=by rw[<- aL];exact kM y a_ aD
  obtain⟨m,_,bo⟩:=I.loc;obtain⟨u,c7,lk⟩:=bo i x v ai ao (.inr (.inl aK));obtain⟨c,au⟩:=ua (env:=X.env) (l:=scope.names) (cs:=[]) (x:=x) (.inl ⟨y,a_,aD,aL⟩);refine⟨u,c,c7,hf,au,?_⟩;rcases lk with ⟨_n,_⟩|⟨_,dn,lb,hx⟩
  ·have:X.env.scope.names.lookup x=some .local:=_n;rw[aK] at this;cases this
  ·rw[fr x c au] at lb;cases lb;exact hx
noncomputable def DG(f:g8):g8:=λε=>(f ε).map λr=>(.tuple [.str "told",r.1],r.2)
noncomputable def MG(Y:aV):f3:=BB (amY (vg (iY (jA (.str "told")) (iY (UG Y 0) m4))) (sg 1)) (Qh (fB 1))
def akI{X:aV}{k:Nat}{x:Str}{st:Stmt}{bT:af}{fd:et}{mj mm:Str}{Ea:List Str}{params:Arguments}{body:bq}{scope:Scope}{jW p pos:Pos}{c amM:af}{f:g8}
  (F:cG X.K x x st bT fd) (S:cO (mj::mm::Ea) [mj] (bx st)) (bd:fG X.K fd [mj] []) (hm:X.mg x=some (.ref bT))
  (bh:∀(bN:aj) (A:cH) (outer:List Env) (s:aH) (H:aw),fT (e3 dt X.prog X.w X.K X.mg X.base (mj::mm::Ea) x (bx st) bT bN A outer s H jO).ey (fv st) (MG (e3 dt X.prog X.w X.K X.mg X.base (mj::mm::Ea) x (bx st) bT bN A outer s H jO).ey))
  (sV:X.env.code=.ref c) (C:PySem.W.CodeHd X.base c amM) (jU:oC X.mg X.base) (df:(amM,X.env.qual++"<lambda>")∈cI.df) (un:∀p∈cI.df,p.1=amM->p.2=X.env.qual++"<lambda>")
  (aK:scope.kind=.function) (q':scope.isCoroutine=false) (rb:scope.isGenerator=false) (lh:∀x∈scope.names,x.2≠.cell/\x.2≠.local) (kM:∀x∈scope.names,x.2=.free->X.env.scope.names.lookup x.1=some .cell)
  (zl:∀(cl:List (Str×af)) (pm:aj) (bW:af) (iG:aj),bindArgs (PySem.W.kla_fn "<lambda>" (X.env.qual++"<lambda>") params body scope cl pm (.ref bW) iG) ⟨[],[]⟩=pure [])
  (ax:c2 (k+2) X.A)
  (aa:∀(q bW:af) (cl:List (Str×af)) (A:cH) (outer:List Env) (s:aH) (H:aw),c2 k (A.deeper (mO (X.env.qual++"<lambda>") scope s.heap.objs.size q (.ref bW) cl))->kD (qY X.prog X.w X.K X.mg X.base X.N (X.env.qual++"<lambda>") scope q (.ref bW) cl A outer s H) body f)
  (bt:ew X x:=by rfl) (gn:(x==("__debug__":Str))=false:=by decide) (u0:defaultsOf params X.env=([],[]):=by rfl)
  (he:bB [.Lambda params body scope jW] X.env=(false,eval (.Lambda params body scope jW) X.env)::bB [] X.env:=by rfl):
  kD X (.Call (.Name x p) [.Lambda params body scope jW] [] pos) (DG f):=by
 intro ah s σ H Q I ⟨aC,E,O,aG,ε,t,ε',r,e,bQ⟩;simp only[DG,dY] at e;obtain⟨⟨t0,hO⟩,uU,e⟩:=e;cases e;refine pq (ue I bt hm ?_ gn);refine PySem.W.callWith_K (h₀:=X.base) I.ok.mod.o5 F.az ?_ he rfl;rw[he];show bc _ _ (spliced ((false,eval (.Lambda params body scope jW) X.env)::[])) _ _ s;have aE:∀x∈scope.names,x.2=.free->∃c,X.env.cells.lookup x.1=some c:=λx hx hf=>I.ok.has x.1 (.inl (kM x hx hf));refine Calls.spliced_cons (SX I sV C jU u0 (Ck aE) r.cp.m6 df un λq bW iG H1 s1 a' tu tB G1 bb au=>Calls.spliced_nil ⟨a'.jx,?_⟩);have aO:Ext aG H aG H1:=⟨tu,λ_ h=>h,λ_ h=>.inl h,⟨λa aB=>by
  obtain⟨o,aF⟩:=r.cp.wH a aB;exact tu.ne aF,tB⟩⟩
 have fin:h7 (bu X.prog X.w) X.A (.call (.ref bT) ⟨[.ref q],[]⟩) (oF dt X.stack X.prog X.w H1 s1 Q jO) s1:=by
  refine S1 (k:=k+1) (vs:=[.ref q]) F S bd ax a'.uW (.cons rfl .nil) rfl λbN nW=>⟨_,bh bN X.A X.stack s1 H1,?_⟩
  refine⟨q,rfl,⟨_,_,bb,rfl⟩,λBg s2 b5=>?_⟩
  have caps:uy X.N scope (f5 X.env scope.names []) σ H1 s2.heap:=by
   have cY:=TH a' lh kM;have az:∀{a:af} {v:Option aj},s1.heap.IsCell a v->H1 a=none->s2.heap.IsCell a v:=λ{a v} z n=>Sa b5.base z n (by intro z;exact absurd (show a∈([]:List af) from z) (by simp));refine⟨cY.inj,cY.has,λx c h=>?_,cY.len,λi x v ai ao bE=>?_⟩
   ·obtain⟨⟨v,bo⟩,a5⟩:=cY.uO x c h;exact⟨⟨v,az bo a5⟩,a5⟩
   ·obtain⟨u,c,c7,hf,lb,hx⟩:=cY.val i x v ai ao bE;exact⟨u,c,c7,hf,lb,az hx (cY.uO x c lb).2⟩
  refine aip aK q' rb (λx hx=>(lh x hx).1) (aa q bW _) (zl _ _ _ _) nW b5.uW bb au caps ?_
  refine⟨aC,E,O,aG,ε,t0,hO,r.ext aO,uU,λv dH ba o6 b_ bR=>?_⟩
  refine⟨by show 2<=cA;decide,λpp aN=>⟨.ref pp,rfl,?_⟩⟩
  have fD:=Ext.laid (o:=.tup [.str "told",v]) b_.cp aN;refine bQ _ dH _ ((aO.az.trans o6).trans fD.az) (b_.ext fD) ?_;simp only[Rep];exact⟨pp,_,rfl,c3.of dM,bl.cons (by simp[Rep]) (bl.cons (bR.ext fD) bl.nil)⟩
 refine rM (pw fin λr s' bb=>?_)
 cases r with
|error e=>exact eL bb
|ok dE=>
  cases dE with
  |ret u=>exact a'.after bb
  |next=>exact eL bb
  |brk=>exact eL bb
  |cont=>exact eL bb
end
section
noncomputable def DT(ts:List af)(H:aw):Prop:=(∀b,H b=none\/(∃o xs,H b=some (.nS o (.lst xs)))\/(b∈ts/\H b=some (.h4 #[])))/\∀b∈ts,H b=some (.h4 #[])
def ain{P:cC}{w:b6}{K:a6}{mg ll:Str->Option aj}{eh:lU}{k:Nat}{bT a:af}{fd:et}{x:Str}{sp:kc}{c':aH}{vs:List aj}{ns:List Int}{ts:List af}
  (kB:K.In c'.heap) (o3:∀b∈ts,c'.heap.get? b=some (PySem.W.tabObj #[])) (wR:∀b∈ts,K.lookup b=none) (fz:∀b∈ts,∃c,vu K c b=true)
  (mV:c'.heap.Ns jf mg) (aa:c'.heap.Ns builtinsNs ll) (ZX:∀x:Str,x≠"__name__"->ll x=bootBuiltins x) (_s:c'.heap.NoLimit) (bt:c'.gens=#[])
  (aB:c'.heap.get? a=some {cls:=.type "list",data:=.seq vs.toArray}) (aM:IntsAre vs ns) (aE:ns.length<=cA) (ax:c2 k callerA)
  (jU:oC mg c'.heap) (F:∀base:bz,K.In base->base.Ns jf mg->oC mg base->eR P w K mg base eh k bT fd [x] sp) (ZY:∀(s:aH) (u:aj),BindsTo s fd ⟨[u],[]⟩ [(x,u)])
  (rl:∀H:aw,DT ts H->fH K H a (ns.map V.int)->sp [.ref a] H (λv _=>v=.b0 true) λ_ _ _=>False)
  (Gu:∀H e s',eh [] H c' (λ_ _ _=>False) e s'->False):
  h7 (bu P w) callerA (.call (.ref bT) ⟨[.ref a],[]⟩) (λr s'=>r=.ok (.ret (.bool true))/\OldK c'.heap s'.heap/\s'.os=c'.os/\AllBare s'.gens) c':=by
 have bR:=RV aM;have abg:=aM.length;have nat:a∉ts:=λz=>by
  have:=o3 a z;rw[aB] at this;cases this
 have core:∀H:aw,DT ts H->fH K H a (ns.map V.int)->eC P w H c'.heap->(∀b,H b≠none->b=a\/b∈ts)->(H a≠none->K.lookup a=none) ->
   h7 (bu P w) callerA (.call (.ref bT) ⟨[.ref a],[]⟩) (λr s'=>r=.ok (.ret (.bool true))/\OldK c'.heap s'.heap/\s'.os=c'.os/\AllBare s'.gens) c':=by
  intro H i2 fh bJ q8 iu;have E5:∀{b:af} {o:Obj},c'.heap.get? b=some o->H b=none->(oZ c'.heap H).get? b=some o:=λe n=>ajv e n;have qf:∀{b:af} {o:Obj} {es:Array DictEntry} {ep:Nat},c'.heap.get? b=some o->o.data=.dict es ep->H b=none:=λ{b o es ep} e d=>by
   cases q:H b with
   |none=>rfl
   |some u=>
    rcases q8 b (by rw[q];simp) with bP|bP
    ·subst bP;rw[aB] at e;cases e;have d':Data.seq vs.toArray _=Data.dict es ep:=d;cases d'
    ·rw[o3 b bP] at e;cases e;have d':Data.fields _=Data.dict es ep:=d;cases d'
  have Bb:∀{b:af} {m:Str->Option aj},c'.heap.Ns b m->(oZ c'.heap H).Ns b m:=λ{b m} ⟨o,es,ep,e,d,r⟩=>⟨o,es,ep,E5 e (qf e d),d,r⟩;have OJ:K.In (oZ c'.heap H):=λb o e=>E5 (kB b o e) (by
   cases q:H b with
   |none=>rfl
   |some u=>
    rcases q8 b (by rw[q];simp) with bP|bP
    ·subst bP;rw[iu (by rw[q];simp)] at e;cases e
    ·rw[wR b bP] at e;cases e)
  have ZZ:oC mg (oZ c'.heap H):=by
   obtain⟨bm,dc,bM,bY,dy,kE,E3,sF⟩:=jU;refine⟨bm,dc,bM,bY,E5 dy ?_,kE,E3,sF⟩;cases q:H bm with
   |none=>rfl
   |some u=>
    rcases q8 bm (by rw[q];simp) with bP|bP
    ·subst bP;rw[aB] at dy;cases dy;cases sF
    ·rw[o3 bm bP] at dy;cases dy;cases sF
  have ZJ:Mod K mg (oZ c'.heap H):=⟨OJ,Bb mV,⟨ll,Bb aa,ZX⟩,let ⟨mc,ai,ao⟩:=_s;⟨mc,Bb ai,ao⟩⟩;have cm:ny P w K mg (oZ c'.heap H) callerA [] c' H:=⟨rfl,ZJ,λb o e=>akg e,Nat.le_of_eq (aiv _ _),trivial,λb aa=>absurd (show b∈([]:List af) from aa) (by simp),bJ,.of_eq bt⟩;refine pw ((F _ OJ (Bb mV) ZZ).run callerA [] c' H ⟨[.ref a],[]⟩ [.ref a] [.ref a] _ _ ax cm (ZY c' (.ref a)) (.cons rfl .nil) (rl H i2 fh)) λr s' h=>?_;cases r with
  |error e=>exact (Gu H e s' h).elim
  |ok dE=>
   cases dE with
   |next=>exact eL h
   |brk=>exact eL h
   |cont=>exact eL h
   |ret u=>
    obtain⟨v,ae,os,bare,un,O4,cq,q⟩:=h;have el:v=.b0 true:=q;subst el;obtain rfl:u=Value.bool true:=cq;refine⟨rfl,⟨λb o e=>?_,λb o e=>un.there b o e (by simp)⟩,os,bare⟩;cases q:H b with
    |none=>exact .inl (un.keep b o e q (by intro z;exact absurd (show b∈([]:List af) from z) (by simp)) (by simp))
    |some u=>
     rcases i2.1 b with z|⟨dc,xs,z⟩|⟨ON,z⟩
     ·rw[q] at z;cases z
     ·have gg:=un.kg b dc _ z;obtain⟨aD,_⟩:=bJ b _ z;obtain⟨aL,_⟩:=O4 b _ gg;rw[e] at aD;cases aD;exact .inl aL
     ·obtain⟨more,gg⟩:=un.km b _ z;have aL:s'.heap.get? b=some (PySem.W.tabObj (#[]++more)):=O4 b _ gg;have aD:=o3 b ON;rw[e] at aD;cases aD;obtain⟨c,au⟩:=fz b ON;exact .inr (.inl ⟨((PySem.W.codeHd_of_K kB au).tab e).isCodeTable,rfl,#[],more,rfl,aL⟩)
 cases aK:K.lookup a with
|some o=>
  have e:=kB a o aK;rw[aB] at e;cases e;refine core (λb=>if b∈ts then some (.h4 #[]) else none) ⟨λb=>?_,λb aa=>if_pos aa⟩ (.inr ⟨_,vs.toArray,_,aK,rfl,rfl,rfl,by rw[d4,abg];exact aE,by simpa using bR⟩) (λb u z=>?_) (λb z=>?_) λz=>?_
  ·by_cases aa:b∈ts
   ·exact .inr (.inr ⟨aa,if_pos aa⟩)
   ·exact .inl (if_neg aa)
  ·by_cases aa:b∈ts
   ·have j5:=(if_pos aa).symm.trans z;cases j5;exact o3 b aa
   ·have j5:=(if_neg aa).symm.trans z;cases j5
  ·by_cases aa:b∈ts
   ·exact .inr aa
   ·exact absurd (if_neg aa) z
  ·exact absurd (if_neg nat) z
|none=>
  refine core (λb=>if b=a then some (.nS {cls:=.type "list",data:=.seq vs.toArray} (.lst (ns.map V.int))) else if b∈ts then some (.h4 #[]) else none) ⟨λb=>?_,λb aa=>?_⟩ (.inl (.inr ⟨{cls:=.type "list",data:=.seq vs.toArray},if_pos rfl⟩)) (λb u z=>?_) (λb z=>?_) λ_=>aK
  ·by_cases aa:b=a
   ·exact .inr (.inl ⟨_,_,if_pos aa⟩)
   ·by_cases mT:b∈ts
    ·exact .inr (.inr ⟨mT,(if_neg aa).trans (if_pos mT)⟩)
    ·exact .inl ((if_neg aa).trans (if_neg mT))
  ·have ne:b≠a:=λz=>nat (z▸aa);exact (if_neg ne).trans (if_pos aa)
  ·by_cases aa:b=a
   ·have j5:=(if_pos aa).symm.trans z;cases j5;subst aa;exact⟨aB,by rw[hi];exact aE,vs,_,bR,aB⟩
   ·by_cases mT:b∈ts
    ·have j5:=((if_neg aa).trans (if_pos mT)).symm.trans z;cases j5;exact o3 b mT
    ·have j5:=((if_neg aa).trans (if_neg mT)).symm.trans z;cases j5
  ·by_cases aa:b=a
   ·exact .inl aa
   ·by_cases mT:b∈ts
    ·exact .inr mT
    ·exact absurd ((if_neg aa).trans (if_neg mT)) z
def aiM{l:PySem.W.OpenLaw}{n k:Nat}{q:cC}{loose:List Str}{uK:(Str->Option aj)->bz->Prop}{oM:b6->bz->Prop}{d:DefRec}{K:Params->a6}{eh:b6->lU}{sp:b6->kc}{x:Str}{ts:List af}
  (a5:l.most=some n) (Aj:n<=cA) (wW:d.params.defaults=[]) (ax:c2 k callerA)
  (GC:∀(w:b6) (h:bz),oM w h->(K w.params).In h) (ej:∀(w:b6) (h:bz),oM w h->∀b∈ts,h.get? b=some (PySem.W.tabObj #[]))
  (wR:∀(w:b6),∀b∈ts,(K w.params).lookup b=none) (fz:∀(w:b6),∀b∈ts,∃c,vu (K w.params) c b=true)
  (F:∀(w:b6) (mg:Str->Option aj) (bT:af) (h:bz),(K w.params).In h->h.Ns jf mg->mg d.name=some (.ref bT) ->
   ∃fd:et,(∀(s:aH) (u:aj),BindsTo s fd ⟨[u],[]⟩ [(x,u)]) /\
    ∀base:bz,(K w.params).In base->base.Ns jf mg->oC mg base->eR l.prog w (K w.params) mg base (eh w) k bT fd [x] (sp w))
  (rl:∀(w:b6) (H:aw) (a:af) (ns:List Int),ns.length<=n->DT ts H->fH (K w.params) H a (ns.map V.int)->sp w [.ref a] H (λv _=>v=.b0 true) λ_ _ _=>False)
  (Gu:∀(w:b6) (H:aw) (s:aH) (e:aj) (s':aH),eh w [] H s (λ_ _ _=>False) e s'->False):
  PySem.W.WalkO q loose uK oM l.row.toRowW d [] (λf vs=>PySem.call f vs):=by
 refine MW.Xr a5 wW λw c_ c' mg ll bT o pm cd doc a vs ns G Y aF hd ami w3 GX hints hlen bt=>?_
 have kB:=GC w _ Y;obtain⟨fd,aa,ZH⟩:=F w mg bT _ kB G.T.g w3;exact ain kB (ej w _ Y) (wR w) (fz w) G.T.g G.T.b G.T.builtins G.T.nolimit bt GX hints (mn hlen Aj) ax G.T.bmain ZH aa (λH i2 fh=>rl w H a ns hlen i2 fh) λH e s'=>Gu w H c' e s'
def ah5{t:cI}{K:a6}{H:aw}{a:af}{ns:List Int}{d:List T->Option T}{ts:List af}(o3:∀p∈t.df,p.1∈ts)(i2:DT ts H)(hb:PA K=true)(hd:d [eP ns]=some (.bool true))(fh:fH K H a (ns.map V.int)):spT K 1 d [.ref a] H (λv _=>v=.b0 true) λ_ _ _=>False:=by
 rcases fh with fh|⟨o,its,n,aK,au,_⟩
 ·refine⟨rfl,λb=>b=a,[eP ns],.bool true,⟨?_,λp aN=>⟨#[],i2.2 p.1 (o3 p aN),trivial,λpos cv e=>by cases e⟩⟩,bl.cons ?_ bl.nil,hd,λv aG ae x r=>by simpa [Rep] using r⟩
  ·rintro b rfl;rcases fh with q|⟨u,q⟩
   ·exact⟨_,q⟩
   ·exact⟨_,q⟩
  ·simp only[eP,Rep];exact⟨a,_,rfl,rfl,fh,RY ns⟩
 ·have:=List.all_eq_true.mp hb _ (Rj aK);simp[au] at this
end
section
variable [cI]
noncomputable def sd(f:bH):g8:=λε=>(f ε).map λt=>(t,ε)
noncomputable def qg(o:T->T->Option T)(f g:g8):g8:=λε=>(f ε).bind λr=>(g r.2).bind λs=>(o r.1 s.1).map λz=>(z,s.2)
abbrev wh:=Ev->Option (Bool×Ev)
noncomputable def rD(f:g8):wh:=λε=>(f ε).bind λr=>match r.1 with
|.bool b=>some (b,r.2)
|_=>none
noncomputable def ro(c:wh)(a b:bF):bF:=λε=>(c ε).bind λr=>if r.1 then a r.2 else b r.2
noncomputable def afS(K:a6)(f:wh):TT:=λσ H Q=>∃aC E O F ε b ε',cx K aC E O F H ε σ/\f ε=some (b,ε')/\∀aG ae,dU K F H aG ae->cx K aC E O aG ae ε' σ->Q b ae
abbrev Na(X:aV)(e:bq)(f:wh):Prop:=iE X e (afS X.K f)
section
variable {X:aV}{a b e:bq}{es:List bq}{f g:g8}{OD:bH}{hX:fS}{c d:wh}{pos:Pos}
def TS(h:cQ X e OD):kD X e (sd OD):=ee h λσ H Q ⟨aC,E,O,F,ε,t,ε',r,e,k⟩=>by
 simp only[sd,dY] at e;obtain⟨t',bC,e⟩:=e;cases e;exact⟨aC,E,O,F,ε,t,r,bC,λv aG ae x bR=>k v aG ae x.az (r.ext x) bR⟩
def ajb{o:T->T->Option T}{R:gu}(h:mF X.K o R):∀σ H Q,xI X.K (qg o f g) σ H Q->tA R (xI X.K f) (xI X.K g) σ H Q:=by
 rintro σ H Q ⟨aC,E,O,F,ε,t,ε',r,e,k⟩;simp only[qg,cz,dY] at e;obtain⟨⟨x,hO⟩,ex,⟨y,jn⟩,e4,z,eE,e⟩:=e;cases e;refine⟨aC,E,O,F,ε,x,hO,r,ex,λiR aY H1 A4 bj aS=>⟨aC,E,O,aY,hO,y,jn,bj,e4,λiS dH ba o6 b_ bk=>?_⟩⟩;exact h O dH ba x y t iR iS Q b_.cp (.inl (aS.az o6)) (.inl bk) eE λv aG ae fD de=>k v aG ae ((A4.trans o6).trans fD.az) (b_.ext fD) de
def Uz{op:CmpOp}{R:gu}{o:T->T->Option T}(aF:eS X (iz op) R)(ao:mF X.K o R)(aB:kD X a f)(aa:kD X b g)(hm:pz op b=false:=by first|exact DA _|rfl):Na X (.Compare a [op] [b] pos) (rD (qg o f g)):=
 uv (L8 aF aB aa hm) λσ H Q ⟨aC,E,O,F,ε,b,ε',r,e,k⟩=>by
 simp only[rD,cz] at e;obtain⟨⟨t,hO⟩,bC,e⟩:=e;split at e
 next z aq=>
  cases e
  subst aq;refine ajb ao σ H _ ⟨aC,E,O,F,ε,_,_,r,bC,λv aG ae az cq q=>?_⟩;simp only[Rep] at q;exact⟨_,q,k aG ae az cq⟩
 next=>cases e
def UH{g1 g2:bF}{rest q2:List Stmt}(au:Na X e c)(aB:hR X rest g1)(aa:hR X q2 g2):gs X (.If e rest q2 pos) (ro c g1 g2):=hL (DJ au aB aa) λD σ H ⟨aC,E,O,F,ε,o,r,e,k⟩=>by
 simp only[ro,cz] at e;obtain⟨⟨z,hO⟩,fe,e⟩:=e;refine⟨aC,E,O,F,ε,z,hO,r,fe,λaY H1 A4 bj=>?_⟩;cases z with
|true=>exact rq ⟨aC,E,O,aY,hO,o,bj,by simpa using e,k.az A4⟩
|false=>exact u7 ⟨aC,E,O,aY,hO,o,bj,by simpa using e,k.az A4⟩
end
end
section
variable [cI]
def akw{P:cC}{w:b6}{K:a6}{mg:Str->Option aj}{base:bz}{x qual:Str}{st:Stmt}{f:af}{gD:aj}{eI an:Option af}{lu:Array (Option aj)}{dN doc pm bN cR:aj}{N ps:List Str}{k:Nat}{b:bF}
  (l:K.lookup f=some ⟨gD,eI,.func (ml x qual (ot st) (fv st) (bx st) .none dN doc pm an bN cR),lu⟩) (fz:amZ K bN qual=true) (S:cO N ps (bx st))
  (aa:∀(A:cH) (outer:List Env) (s:aH) (H:aw) (E:e0),c2 k (A.deeper (envOfC qual (bx st) s.heap.objs.size f bN)) ->
   hR (e3 dt P w K mg base N qual (bx st) f bN A outer s H E).ey (fv st) b):
  eR P w K mg base dt (k+1) f (ml x qual (ot st) (fv st) (bx st) .none dN doc pm an bN cR) ps (spT K ps.length (eJ b N.length)):=by
 refine MN l fz S (λvs H Q E h=>h.1) λA outer s H vs Q E ax h=>⟨_,(aa A outer s H E ax).ey,?_⟩
 obtain⟨aE,F,ts,t,cp,q,e,i5⟩:=h;simp only[eJ,cz] at e;obtain⟨o,eE,e⟩:=e;refine⟨F,⟨H,0⟩,λa=>H a=none,F,_,o,?_,eE,?_⟩
 ·have:=Ld (N:=N) cp q (N.length - ts.length);unfold a7.start;rw[q.length] at this ⊢;exact this
 ·cases o with
  |er t'=>
   cases e
   exact λv aG ae x q=>i5 v aG ae x q
  |bO ε'=>
   cases e
   exact λct aG ae _ r=>i5 _ aG ae r.ent (by simp[Rep])
  |gx _=>cases e
  |cR _=>cases e
  |iL _ _=>cases e
  |ly _=>cases e
end
section
abbrev n5(df:List (af×Str)):cI:=⟨df,λ_=>[],λ_=>none⟩
def akx{t:cI}{df:List (af×Str)}(bh:t.df=df){P:cC}{w:b6}{K:a6}{mg:Str->Option aj}{base:bz}{k n:Nat}{f:af}{fd:et}{ps:List Str}{d:List T->Option T}(F:eR P w K mg base dt k f fd ps (@spT t K n d)):eR P w K mg base dt k f fd ps (@spT (n5 df) K n d):=by
 subst bh;have wG:∀{F:af->Prop} {H:aw},@fQ (n5 t.df) F H->@fQ t F H:=λ{F H} h=>@fQ.mk t F H (@fQ.wH (n5 t.df) F H h) (@fQ.m6 (n5 t.df) F H h);have Yr:∀{F:af->Prop} {H:aw},@fQ t F H->@fQ (n5 t.df) F H:=λ{F H} h=>@fQ.mk (n5 t.df) F H (@fQ.wH t F H h) (@fQ.m6 t F H h);refine F.imp λvs H Q E h=>?_;obtain⟨aE,F,ts,r,cp,q,e,i5⟩:=h;exact⟨aE,F,ts,r,wG cp,q,e,λv aG ae x bR=>i5 v aG ae (@Ext.mk (n5 t.df) F H aG ae (@Ext.same t F H aG ae x) (@Ext.sub t F H aG ae x) (@Ext.new t F H aG ae x) (Yr (@Ext.cp t F H aG ae x))) bR⟩
end
end D
end
section
namespace D
open PySem PySem.Spec PySem.Calls PySem.W PyProof.Rows PySem.Builtin PySem.Builtin.ObjectAttr PySem.Builtin.Getset_descriptor
noncomputable def jm(x C:af)(h:bz):Prop:=∃o vs,h.get? x=some o/\o.cls=.ref C/\o.data=.fields vs
structure qN(K:Frag)(C:af):Prop where
 cl:(clsIn K C).isSome=true
 ga:findIn K (.ref C) "__getattribute__"=some (some (.builtin "BaseException.__getattribute__"))
 Zw:findIn K (.ref C) "__getattr__"=some none
 at_:findIn K (.ref C) "__class__"=some (some (.builtin "object.__class__"))
 sp:specialIn K (.builtin "object.__class__") "__get__"=some (some (.builtin "getset_descriptor.__get__"))
 tk:takesIn K (.builtin "object.__class__")=some true
 mo:mroIn K C (.type "object")=some true
 ll:mroIn K C (.type "BaseException")=some true
section
variable {prog:cC}{w:b6}{A:cH}{E:aj->aH->Prop}{s:aH}{K:Frag}{x C:af}{R:Result->aH->Prop}
def jm.type{M:Model}{h:bz}(I:jm x C h):Looks M h (typeOf (.ref x)) (.ref C):=by
 obtain⟨o,vs,ai,ao,bE⟩:=I;exact ao▸(Looks.ld ai).andThen .now
def aky{Ke:aj}(X:K.In s.heap)(I:jm x C s.heap)(hm:mroIn K C (.type "object")=some true)
  (h:R (.ok (.ret (.ref C))) s):h7 (bu prog w) A (.call (.builtin "getset_descriptor.__get__") ⟨[.builtin "object.__class__",.ref x,Ke],[]⟩) R s:=by
 obtain⟨cD,g,qZ,t,os⟩:=s;have qP:=I.type (M:=bu prog w);have kC:=looks_mroIn (M:=bu prog w) X hm;refine codeAny_call_builtin KF.slot_gs.plain KF.entry_gs (KF.slot_gs.check _ _ _ _ _ _ _ _ KF.type_class (KF.args_gs _ _ _) ?_);unfold Builtin.«getset_descriptor.__get__» descrGet;rw[dga_obj];refine aR (cf ?_);unfold descrGetter descrCheckInstance descrNameAndClass isInstance;simp only[KF.owner_class];obtain⟨o,vs,ai,ao,bE⟩:=I
 repeat lk
 refine⟨Code.quiet_builtin _ (by decide +kernel),tL KF.entry_class ?_⟩
 unfold Builtin.«object.__class__» shownTypeOf
 repeat lk
 exact h
def ajz{M:Model}{h:bz}(X:K.In h)(O:qN K C):Looks M h (find (.ref x) (.ref C) "__class__") (.bind (.builtin "getset_descriptor.__get__") (.builtin "object.__class__")):=by
 have kC:=looks_findIn (M:=M) X O.at_;have a7:Looks M h (getOf (some (.builtin "object.__class__"))) (some (.builtin "getset_descriptor.__get__")):=looks_specialIn X O.sp;have D_:=looks_takesIn (M:=M) X O.tk;refine kC.andThen (a7.andThen ?_);exact (show Looks M h (dataDescriptor? (some (.builtin "object.__class__")) (some (.builtin "getset_descriptor.__get__"))) (some (.builtin "getset_descriptor.__get__",.builtin "object.__class__")) from D_.andThen .now).andThen (Looks.tag .now)
def aiy{tk:Tok}{Q:Fin->aH->Prop}(X:K.In s.heap)(I:jm x C s.heap)(O:qN K C)(bb:Q (.done (.ret (.ref C))) s):
  bc (bu prog w) A (Builtin.«object.__getattribute__» ⟨[.ref x,.str "__class__" tk],[]⟩) Q E s:=by
 obtain⟨cD,g,qZ,t,os⟩:=s;have qP:=I.type (M:=bu prog w);have kC:=ajz (x:=x) (M:=bu prog w) X O;unfold Builtin.«object.__getattribute__»;refine aR (cf (a:=(Value.ref x,[Value.str "__class__" tk])) (aR (cf (a:=("__class__":Str)) ?_)));refine aR (qP.at (aR (kC.at ?_)));show bc _ _ (holding [Value.builtin "object.__class__"] (call (Value.builtin "getset_descriptor.__get__") [Value.builtin "object.__class__",Value.ref x,Value.ref C]) >>= ret) _ _ _;exact aR (mv (rM (aky X I O.mo (cf bb))))
def aiA{M:Model}{tk:Tok}{Q:Unit->aH->Prop}(X:K.In s.heap)(I:jm x C s.heap)(O:qN K C)(bb:Q () s):
  bc M A (checkBuiltinCall "BaseException.__getattribute__" ⟨[.ref x,.str "__class__" tk],[]⟩) Q E s:=by
 obtain⟨cD,g,qZ,t,os⟩:=s;have qP:=I.type (M:=M);have kC:=looks_mroIn (M:=M) X O.ll;have D':Looks M cD (isInstance (.ref x) (.type "BaseException")) true:=qP.andThen kC;have _O:splitId "BaseException.__getattribute__"=some ("BaseException","__getattribute__"):=by decide +kernel
 have aK:builtinKind "BaseException.__getattribute__"=some .slot:=by decide +kernel
 have aB:=PySem.F.args_bexc_ga (.ref x) (.str "__class__" tk);simp only[checkBuiltinCall,aK,_O];refine aR (D'.at ?_);simp only[Bool.not_true,pn,if_false];cases _M:Manifest.signature? "BaseException.__getattribute__" with
|none=>exact cf bb
|some sig=>
  simp only[argsOk,_M] at aB;have ao:Bind.checkArgs "BaseException.__getattribute__" sig ⟨[.ref x,.str "__class__" tk],[]⟩=pure ():=aB;show bc M A (Bind.checkArgs "BaseException.__getattribute__" sig ⟨[.ref x,.str "__class__" tk],[]⟩) Q E _;rw[ao];exact cf bb
def aiz{Q:Option aj->aH->Prop}(X:K.In s.heap)(I:jm x C s.heap)(O:qN K C)(bb:Q (some (.ref C)) {s with toks:=s.toks+1}):
  bc (bu prog w) A (getAttr? (.ref x) "__class__") Q E s:=by
 obtain⟨cD,g,qZ,t,os⟩:=s;have qP:=I.type (M:=bu prog w);have kC:=looks_findIn (M:=bu prog w) X O.ga;have a7:=looks_findIn (M:=bu prog w) X O.Zw;unfold getAttr? getAttrBy? getAttrBy;refine aR (wpAny_mkText (aR (wpAny_attempt (mv (aR (qP.at (aR (kC.at ?_))))))));show bc _ _ (getAttrByItsOwn _ _ _ _ _ _) _ _ _;unfold getAttrByItsOwn;refine aR (a7.at ?_);refine aR (wpAny_attempt (mv ?_));show bc _ _ (boundAndCalled _ _ _) _ _ _;unfold boundAndCalled;rw[PySem.F.excAttr_ValueError.ga.bind];refine aR (cf ?_);refine rM (codeAny_call_builtin PySem.F.excAttr_ValueError.ga.plain PySem.F.entry_bexc_ga (aiA X I O (aiy X I O ?_)));exact cf (cf bb)
def ajp(O:qN K C):KitX K (.ref x) (.ref C) (jm x C) where
 ty:=λ_ _ _ I=>I.type
 it:=λ_ _ X _=>by
  have p_:=O.cl;unfold clsIn at p_;split at p_
  ·rename_i bW d' Np Bu aF
   intro UR zf lW s' k q;unfold isType loadHead;exact aR (wpAny_loadPart (k _ _ (X _ _ aF)) (cf q))
  ·cases p_
 ne:=λh Ke dd its n cB X _Q=>by
  have p_:=O.cl;refine Bool.eq_false_iff.mpr λq=>?_;have e:C=Ke:=Value.ref.inj (beq_iff_eq.mp q);subst e;unfold clsIn at p_;split at p_
  ·rename_i bW d' Np Bu aF
   have z:=(X _ _ aF).symm.trans _Q;cases z
  ·cases p_
 ca:=λX I k=>aiz X I O k
end
end D
end
section
namespace D
open PySem PySem.Spec PyProof.Rows a7
section
structure D2(P:cC)(w:b6)(outer:List Env)(H:aw)(s:aH)(C:af)(ae:aw)(ea:af)(dx:aj)(B:bz)(s':aH):Prop where
 os:s'.os=s.os
 bare:AllBare s'.gens
 uX:Heap.FlyingW B outer ea (.ref C) dx s'.heap
 bJ:eC P w ae B
 un:fU (e6 outer) [] H ae s.heap s'.heap
 pZ:∀b o,s.heap.get? b=some o->H b=none->b∉e6 outer->B.get? b=some o
 tC:∀b o,s.heap.get? b=some o->b∉e6 outer->∃o',B.get? b=some o'
noncomputable def DU(P:cC)(w:b6)(outer:List Env)(H:aw)(s:aH)(C:af)(ae:aw)(e:aj)(s':aH):Prop:=∃ea dx B,e=.ref ea/\D2 P w outer H s C ae ea dx B s'
noncomputable def lT(P:cC)(w:b6):lU:=λouter H s E e s'=>∃C ae,DU P w outer H s C ae e s'/\E (.ref C) none ae
noncomputable def Uv(X:aV)(H:aw)(s:aH)(C:af)(ae:aw)(e:aj)(s':aH):Prop:=
 (ae=H/\∃ea args ao,e=.ref ea/\s'={s with heap:=ao}/\Heap.MadeExcOf s.heap ao ea (.ref C) args)\/DU X.prog X.w X.stack H s C ae e s'
noncomputable def wy(X:aV)(C:af)(ae:aw):Prop:=∀(ah:List (af×Obj)) (σ:a7.St) (H:aw) (s:aH) (e:aj) (s':aH),Inv X ah σ H s->Uv X H s C ae e s'->X.di e s'
def RQ{h h' base:bz}{l:List Env}{b:af}{o:Obj}(F:h.FunFrames base l)(aa:b∈e6 l)(e:h.get? b=some o)(k:h.UpToSlots h'):∃cB,h'.get? b=some {o with slots:=cB}:=by
 obtain⟨_,o',bP,hd⟩:=F.mem aa;rw[e] at bP;cases bP;exact k b o e hd
def D2.on{P:cC}{w:b6}{outer:List Env}{H ae:aw}{s s':aH}{C ea:af}{dx:aj}{B p7:bz}(x:D2 P w outer H s C ae ea dx B s')(st:B.StaysIn p7)(k:s'.heap.UpToSlots p7):
  fU (e6 outer) [] H ae s.heap p7/\eC P w ae p7:=by
 refine⟨⟨λb o e n f _=>st _ _ (x.pZ b o e n f),λb o e n f hx=>?_,λb o e n hx=>x.un.free b o e n hx,λb o e hx=>?_,x.un.kQ,x.un.kg,x.un.km⟩,x.bJ.kept st⟩
 ·obtain⟨cB,aD⟩:=x.un.slot b o e n f hx;obtain⟨h2,aL⟩:=RQ x.uX.2.2.1 f aD k;exact⟨h2,aL⟩
 ·by_cases f:b∈e6 outer
  ·obtain⟨o',aD⟩:=x.un.there b o e hx;obtain⟨h2,aL⟩:=RQ x.uX.2.2.1 f aD k;exact⟨_,aL⟩
  ·obtain⟨o',aD⟩:=x.tC b o e f;exact⟨o',st _ _ aD⟩
def akq{P:cC}{w:b6}{H:aw}{h:bz}{as:List af}(x:eC P w H h)(n:∀b∈as,H b=none):eC P w H (PySem.W.hideAll h as):=λa o e=>
 hn.jd (x a o e) (λb u aa q=>PySem.W.hideAll_get _ q λm=>by
  have z:=n b m;rcases aa with rfl|aa
  ·rw[e] at z;cases z
  ·rw[aa] at z;cases z) (λb aa=>aa) λb xs aa=>aa
section
variable {X:aV}{ah:List (af×Obj)}{σ:a7.St}{H1 ae:aw}{s1 s2:aH}{C:af}{e:aj}{env:Env}{outer:List Env}{E:e0}
def SG(I:Inv X ah σ H1 s1)(t:Uv X H1 s1 C ae e s2)(la:E (.ref C) none ae){Z:aj->aH->Prop}(gW:X.stack=env::outer:=by rfl)(_H:X.outer=outer:=by rfl)(hex:X.ex=[]:=by rfl)(hf:env.frame=some X.env.locals:=by rfl):
  bc (bu X.prog X.w) X.A (leaving env e) (λ_ qj=>lT X.prog X.w outer X.aT X.c_ E e qj) Z s2:=by
 have _e:X.aA=e6 outer:=by unfold aV.aA;rw[_H]
 have kM:=I.ok.frames;rw[gW] at kM;have iQ:=I.base;rw[_e,hex] at iQ;have bO:∀b:af,b∉([]:List af):=λb z=>absurd z (by simp);have Ba:∀b o,X.c_.heap.get? b=some o->b∉e6 outer->b∉e6 (env::outer):=λb o cm n m=>by
  obtain⟨amR,he,oY⟩:=List.mem_filterMap.mp m;rcases cM.mp he with rfl|he
  ·rw[hf] at oY;cases oY;exact absurd (cT cm) (Nat.not_lt.mpr I.ok.above)
  ·exact n (List.mem_filterMap.mpr ⟨amR,he,oY⟩)
 have amQ:=I.stack;rw[gW] at amQ;rcases t with ⟨wI,ea,args,ao,gm,es,mk⟩|⟨ea,dx,B,gm,dE⟩
 ·subst wI gm es;have rd:∀amR∈(env::outer),∀b,amR.frame=some b->b∈e6 (env::outer):=λamR he b aa=>List.mem_filterMap.mpr ⟨amR,he,aa⟩;refine wpAny_leaves_madeW (base:=PySem.W.hideAll s1.heap (e6 (env::outer))) kM hf (λb o q=>PySem.W.of_hideAll _ q) (PySem.W.funFrames_hide amQ rd) mk λh' t aO bZ fD tF=>?_;have OF:=I.J6;rw[gW] at OF;have pZ:∀b o,X.c_.heap.get? b=some o->X.aT b=none->b∉e6 outer->(PySem.W.hideAll s1.heap (e6 (env::outer))).get? b=some o:=λb o cm n f=>PySem.W.hideAll_get _ (iQ.keep b o cm n f (bO b)) (Ba b o cm f);have tC:∀b o,X.c_.heap.get? b=some o->b∉e6 outer->∃o',(PySem.W.hideAll s1.heap (e6 (env::outer))).get? b=some o':=λb o cm f=>by
   obtain⟨o',aD⟩:=iQ.there b o cm (bO b);exact⟨o',PySem.W.hideAll_get _ aD (Ba b o cm f)⟩
  have cB:∀b o,s1.heap.get? b=some o->b∈e6 outer->∃cB,h'.get? b=some {o with slots:=cB}:=λb o aD f=>by
   have dH:s1.heap.FunFrames X.base (env::outer):=amQ;obtain⟨_,o',bP,hd⟩:=dH.mem (b:=b) (by
    obtain⟨amR,he,oY⟩:=List.mem_filterMap.mp f;exact List.mem_filterMap.mpr ⟨amR,dR _ he,oY⟩)
   rw[aD] at bP;cases bP;exact tF b o (mk.keeps b o aD) hd
  refine⟨C,_,⟨ea,_,_,rfl,⟨I.os,I.bare,aO,akq I.bJ OF,⟨λb o cm n f _=>aO.1 _ _ (pZ b o cm n f),λb o cm n f _=>?_,λb o cm n _=>iQ.free b o cm n (bO b),λb o cm _=>?_,iQ.kQ,iQ.kg,iQ.km⟩,pZ,tC⟩⟩,la⟩
  ·obtain⟨Bv,aD⟩:=iQ.slot b o cm n f (bO b);obtain⟨h2,aL⟩:=cB b _ aD f;exact⟨h2,aL⟩
  ·by_cases f:b∈e6 outer
   ·obtain⟨o',aD⟩:=iQ.there b o cm (bO b);obtain⟨h2,aL⟩:=cB b _ aD f;exact⟨_,aL⟩
   ·obtain⟨o',aD⟩:=tC b o cm f;exact⟨o',aO.1 _ _ aD⟩
 ·subst gm;rw[gW] at dE;refine wpAny_leaves_onW kM hf dE.uX λh' aO bZ=>?_;have on:=dE.on aO.1 bZ;have pZ:∀b o,X.c_.heap.get? b=some o->X.aT b=none->b∉e6 outer->B.get? b=some o:=λb o cm n f=>dE.pZ b o (iQ.keep b o cm n f (bO b)) (iQ.free b o cm n (bO b)) (Ba b o cm f);have tC:∀b o,X.c_.heap.get? b=some o->b∉e6 outer->∃o',B.get? b=some o':=λb o cm f=>by
   obtain⟨o',aD⟩:=iQ.there b o cm (bO b);exact dE.tC b o' aD (Ba b o cm f)
  have up:∀b,b∈e6 outer->b∈e6 (env::outer):=λb f=>by
   obtain⟨amR,he,oY⟩:=List.mem_filterMap.mp f;exact List.mem_filterMap.mpr ⟨amR,dR _ he,oY⟩
  refine⟨C,_,⟨ea,_,B,rfl,⟨dE.os.trans I.os,dE.bare,aO,dE.bJ,⟨λb o cm n f _=>aO.1 _ _ (pZ b o cm n f),λb o cm n f _=>?_,λb o cm n _=>?_,λb o cm _=>?_,λb xs q=>on.1.kQ _ _ (iQ.kQ _ _ q),λb o u q=>on.1.kg _ _ _ (iQ.kg _ _ _ q),λb ps q=>?_⟩,pZ,tC⟩⟩,la⟩
  ·obtain⟨Bv,aD⟩:=iQ.slot b o cm n f (bO b);obtain⟨h2,aL⟩:=on.1.slot b _ aD (iQ.free b o cm n (bO b)) (up b f) (bO b);exact⟨h2,aL⟩
  ·obtain⟨Bv,aD⟩:=iQ.any cm n (bO b);exact on.1.free b _ aD (iQ.free b o cm n (bO b)) (bO b)
  ·obtain⟨o',aD⟩:=iQ.there b o cm (bO b);exact on.1.there b o' aD (bO b)
  ·obtain⟨eX,aP⟩:=iQ.km b ps q;obtain⟨o_,a9⟩:=on.1.km b _ aP;exact⟨eX++o_,by rw[a9,Array.append_assoc]⟩
def ai'(h:∀C ae,E (.ref C) none ae->wy X C ae):r9 (lT X.prog X.w) X E:=λah σ H s e s' I ⟨C,ae,dE,la⟩=>h C ae la ah σ H s e s' I (.inr dE)
end
end
section
variable [cI]
abbrev jq:=Ev->Bool
noncomputable def afI(X:aV)(C:af)(r:jq):TE:=λσ H _=>∃aC E O F ε,cx X.K aC E O F H ε σ/\r ε=true/\∀aG ae,Ext F H aG ae->wy X C ae
noncomputable def Qj(X:aV)(C:af)(r:jq):f3:=λ_ σ H=>∃aC E O F ε,cx X.K aC E O F H ε σ/\r ε=true/\∀aG ae,Ext aC E.h aG ae->wy X C ae
abbrev Ed(X:aV)(C:af)(e:bq)(r:jq):Prop:=bK X e (afI X C r)
abbrev Ee(X:aV)(C:af)(s:Stmt)(r:jq):Prop:=jr X s (Qj X C r)
abbrev uG(X:aV)(C:af)(s:List Stmt)(r:jq):Prop:=fT X s (Qj X C r)
def PB:jq:=λ_=>false
noncomputable def Aq(c:fS)(a b:jq):jq:=λε=>match c ε with
|some true=>a ε
|some false=>b ε
|none=>false
def n1(f:bH):jq:=λε=>(f ε).isSome
section
variable {X:aV}{C:af}{e c:bq}{st:Stmt}{rest q2:List Stmt}{r cq:jq}{b:bF}{hX:fS}{pos:Pos}
def agn{l:List Stmt}:uG X C l PB:=λah s σ H D I h=>by
 obtain⟨_,_,_,_,_,_,e,_⟩:=h;cases e
def QL(h:Ee X C st r):uG X C (st::rest) r:=Dp (vI (u:=λ_ _ _=>False) h λ_ _ _ _ _ _ z=>z.elim) λD σ H q=>q
def agm(au:ka X.ey c hX)(aB:uG X C rest r)(aa:uG X C q2 cq):Ee X C (.If c rest q2 pos) (Aq hX r cq):=hL (DJ au.ey aB aa) λD σ H ⟨aC,E,O,F,ε,i9,e,k⟩=>by
 unfold Aq at e;split at e
 next hx=>exact⟨aC,E,O,F,ε,true,i9,hx,λaG ae x=>rq ⟨aC,E,O,aG,ε,i9.ext x,e,k⟩⟩
 next hx=>exact⟨aC,E,O,F,ε,false,i9,hx,λaG ae x=>u7 ⟨aC,E,O,aG,ε,i9.ext x,e,k⟩⟩
 next=>cases e
end
abbrev E7:List aj:=[.type "ValueError",.type "Exception",.type "BaseException",.type "object"]
def aka{K:a6}{h:bz}{C:af}{Nm:List aj}{newId:String}(X:K.In h)(q:PySem.W.excIn K C Nm newId=true):
  ∃bm N nm q bs hdct sn sub ab col dd k0 k1 k2 k3 k5 mN,h.get? C=some (excClassObj nm q C N bs bm hdct sn sub ab col dd k0 k1 k2 k3 k5 newId)/\h.Ns N mN/\mN "__init__"=none/\OwnTail h Nm bm:=by
 unfold PySem.W.excIn at q;split at q
 ·rename_i dd cd cB aF
  split at q
  ·rename_i amO bm k0 k1 k2 k3 n k5 hm av
   simp only[iV,beq_iff_eq,Bool.not_eq_true'] at q;obtain⟨⟨⟨⟨⟨rfl,rfl⟩,OQ⟩,bh⟩,bJ⟩,Ak⟩:=q;obtain⟨nm,bs,mro,ns,tn,hd,sn,sub,ab,col,del⟩:=cd;dsimp only at hm OQ bJ Ak;subst hm OQ;have _N:cB=#[k0,k1,k2,k3,some (.builtin n),k5]:=by
    obtain⟨l⟩:=cB;simp only at av;rw[av]
   subst _N;exact⟨bm,ns,nm,tn,bs,hd,sn,sub,ab,col,dd,k0,k1,k2,k3,k5,_,X _ _ aF,.of_isNs (PySem.W.isNs_of_in X bJ),PySem.W.nsMap_none_of_in X bJ Ak,PySem.W.tail_of_in X bh⟩
  ·cases q
 ·cases q
def ajK{X:aV}{C:af}{x:Str}{e:bq}{f:bH}{np e2 pos:Pos}(hm:X.mg x=some (.ref C))(hx:PySem.W.excIn X.K C E7 "ValueError.__new__"=true)(he:cQ X.ey e f)(cD:X.A.handled=none)
  (bt:ew X x:=by rfl) (av:bB [e] X.env=(false,eval e X.env)::bB [] X.env:=by rfl) (hd:(x==("__debug__":Str))=false:=by decide):
  Ee X C (.Raise (some (.Call (.Name x np) [e] [] e2)) none pos) (n1 f):=by
 intro ah s σ H D I ⟨aC,E,O,F,ε,i9,uU,k⟩;obtain⟨t,bC⟩:=Option.isSome_iff_exists.mp uU;obtain⟨bm,N,nm,q,bs,hdct,sn,sub,ab,col,dd,k0,k1,k2,k3,k5,mN,Gs,dp,Ak,Nb⟩:=aka I.ok.mod.o5 hx;refine wpAny_Raise_call_subT (C:=C) (nm:=nm) (q:=q) (N:=N) (bs:=bs) (bm:=bm) (hdct:=hdct) (sn:=sn) (sub:=sub) (ab:=ab) (col:=col) (dd:=dd) (k0:=k0) (k1:=k1) (k2:=k2) (k3:=k3) (k5:=k5) (mN:=mN)
  PySem.F.excBase_ValueError (Nb.hasType PySem.F.excBase_ValueError.hasBase) cD (by rw[av];rfl) Ak (ue I bt hm ⟨rfl,?_⟩ hd)
 have aB:hp X [e] (iY (BC X.K f) m4):=fu (bK.ey he) h_ av;have h0:=aB e2 ah s σ H (λvs H1=>∃v,vs=[v]/\wy X C H1) I ⟨aC,E,O,F,ε,t,i9,bC,λv aG ae x _=>⟨v,rfl,k aG ae (i9.ent.trans x)⟩⟩;rw[av] at h0 ⊢;refine Calls.evalArgs_plain (eK h0 (λus jz ⟨vs,H1,a',bj,v,ev,kx⟩=>⟨rfl,?_,?_,?_,?_,λh' ea mk=>?_⟩) λ_ _ y=>y)
 ·have:=bj.length;rw[ev] at this;show us.length<=cA;rw[<- this];show 1<=cA;decide
 ·exact a'.gx _ _ Gs
 ·exact dp.keeps a'.gx
 ·exact Nb.keeps a'.gx
 ·exact kx ah σ H1 jz (.ref ea) _ a' (.inl ⟨rfl,ea,_,h',rfl,rfl,mk⟩)
noncomputable def P9(K:a6)(n:Nat)(C:af)(r:List aJ->Bool):kc:=λvs H _ E=>vs.length=n/\∃F ss,fQ F H/\y6 K F H ss vs/\r ss=true/\∀aG ae,Ext F H aG ae->E (.ref C) none ae
noncomputable def JX(r:jq)(n:Nat):List aJ->Bool:=λss=>r (kv n ss)
structure su(P:cC)(w:b6)(K:a6)(mg:Str->Option aj)(base:bz)(oE:af)(m:Str)(C:af)(k n:Nat)(r:List aJ->Bool):Prop where
 ex:∃bT fd ps,eR P w K mg base (lT P w) k bT fd ps (P9 K n C r)/\Meth K oE m bT/\fG K fd ps []
section
variable {P:cC}{w:b6}{K:a6}{mg:Str->Option aj}{base:bz}
theorem su.mono{oE C:af}{m:Str}{k n j:Nat}{r:List aJ->Bool}(c:su P w K mg base oE m C j n r)(h:j<=k):su P w K mg base oE m C k n r:=by
 obtain⟨bT,fd,ps,F,q⟩:=c.ex;exact⟨bT,fd,ps,F.mono h,q⟩
def aku{x qual:Str}{st:Stmt}{f C:af}{fd:et}{N ps:List Str}{k:Nat}{r:jq}(F:cG K x qual st f fd)(S:cO N ps (bx st))
  (aa:∀(bN:aj) (A:cH) (outer:List Env) (s:aH) (H:aw) (E:e0),c2 k (A.deeper (envOfC qual (bx st) s.heap.objs.size f bN)) ->
   uG (e3 (lT P w) P w K mg base N qual (bx st) f bN A outer s H E) C (fv st) r):
  eR P w K mg base (lT P w) (k+1) f fd ps (P9 K ps.length C (JX r N.length)):=by
 obtain⟨gD,eI,dN,doc,pm,an,bN,cR,lu,rfl,lk,fz⟩:=F.ex;refine MN lk fz S (λvs H Q E h=>h.1) λA outer s H vs Q E ax h=>⟨_,aa bN A outer s H E ax,?_⟩;obtain⟨aE,F,ss,cp,q,e,i5⟩:=h;refine⟨F,⟨H,0⟩,λa=>H a=none,F,_,?_,e,λaG ae x=>?_⟩
 ·unfold a7.start;exact Q6 cp q N.length
 ·intro ah σ H1 s1 aD s2 I t;refine eK (SG (X:=e3 (lT P w) P w K mg base N qual (bx st) f bN A outer s H E) (E:=E) (Z:=λ_ _=>False) I t (i5 aG ae x)) (λ_ _ z=>z) λ_ _ z=>z.elim
def alg{oE C:af}{m qual:Str}{st:Stmt}{f:af}{fd:et}{N ps:List Str}{k:Nat}{r:jq}(F:cG K m qual st f fd)(S:cO N ps (bx st))(bd:fG K fd ps [])(hA:Meth K oE m f)
  (aa:∀(bN:aj) (A:cH) (outer:List Env) (s:aH) (H:aw) (E:e0),c2 k (A.deeper (envOfC qual (bx st) s.heap.objs.size f bN)) ->
   uG (e3 (lT P w) P w K mg base N qual (bx st) f bN A outer s H E) C (fv st) r):su P w K mg base oE m C (k+1) ps.length (JX r N.length):=⟨f,fd,ps,aku F S aa,hA,bd⟩
end
noncomputable def nu(c:Nat)(r:List aJ->Bool)(i:Nat)(aA:List bH):jq:=λε=>match dq c i ε,args aA ε with
|some (_,os),some ts=>r (.obj .c1 c os::ts.map .ag)
|_,_=>false
section
variable {X:aV}{k n c C oE i:Nat}{ns:List Str}{r:List aJ->Bool}{x m:Str}{p pos apos:Pos}{o e:bq}{es:List bq}{as:List oB}{aA:List bH}
def Tb(fV:fw X.K c oE ns)(ie:su X.prog X.w X.K X.mg X.base oE m C k n r)(ax:c2 k X.A)(a5:bK X.ey o (fB i)){pl:Sem Bool}(hm:m∉ns:=by decide +kernel)(aE:1=n:=by rfl)
  (bh:eval (.Call (.Attribute o m apos) [] [] pos) X.env=(do
   let eo <- eval o X.env
   standAt apos.atName
   let (f,first) <- holding [eo] (getMethod eo m pl)
   callWith pos f first (dZ pos (bB [] X.env)) (od pos (oc [] X.env))):=by rfl):Ed X C (.Call (.Attribute o m apos) [] [] pos) (nu c r i []):=by
 obtain⟨bT,fd,ps,F,hA,b⟩:=ie.ex;refine ee (C_ (bK.ey a5) fV.cls hA F ax b .nil (ai' (E:=λcl _ ae=>∃amO,cl=.ref amO/\wy X amO ae) λamO ae ⟨UU,aL,q⟩=>by cases aL;exact q) bh) λσ H Q ⟨aC,E,O,F,ε,i9,e,k⟩=>?_;unfold nu at e;split at e
 next md os ts aF bC=>
  cases bC
  obtain⟨a,vs,bf,ai,hx,_⟩:=nk fV i9 aF;refine⟨_,ai,a,bf,_,rfl,hx,tV hm,⟨?_,F,_,i9.cp,?_,e,λaG ae bZ=>⟨C,rfl,k aG ae bZ⟩⟩⟩
  ·simp[aE]
  ·obtain⟨je,dF,rs⟩:=i9.val i _ (nh aF);rw[ai] at dF;cases dF;refine .cons ⟨rfl,v8 rs _ _ λb aa=>?_⟩ .nil;obtain⟨o,e,_⟩:=rs.at aa;show H b≠none;rw[e];exact λz=>by cases z
 next=>cases e
end
end
section
abbrev aV.rp(X:aV)(ea:af):aV:={X with A:=X.A.mark (some (.ref ea)),calm:=false,di:=λ_ _=>False}
section
variable {X:aV}{ah:List (af×Obj)}{σ:a7.St}{H:aw}{s:aH}{ea:af}
def ald(ok:X.Ok)(ea:af):(aV.rp X ea).Ok:=
 ⟨ok.mod,ok.kind,ok.glob,ok.blt,ok.above,ok.inj,ok.has,ok.sI,(λ(z:false=true)=>absurd z (by decide)),ok.frames,ok.amQ,ok.q5,ok.bs,ok.nG,ok.tg,ok.q6,ok.kJ,ok.oU⟩
def Tv(I:Inv X ah σ H s)(ea:af):Inv (aV.rp X ea) ah σ H s:=⟨ald I.ok ea,I.os,I.bare,I.base,I.loc,I.cell,I.free,I.jS,I.pin,I.bJ,I.len⟩
def ajt(ok:X.Ok)(I:Inv (aV.rp X ea) ah σ H s):Inv X ah σ H s:=⟨ok,I.os,I.bare,I.base,I.loc,I.cell,I.free,I.jS,I.pin,I.bJ,I.len⟩
def aju{i:Nat}{n:Str}{h':bz}{m:Str->Option aj}{v:Option aj}{tk:Nat}(I:Inv X ah σ H s)(aM:X.N[i]?=some n)(aE:∀(i:Nat) (x:Str) (v:V),X.N[i]?=some x->σ[i]?=some (some v)->l0 X.env.scope x->∃u,RelV v u/\Look X.env s.heap m x u)(dp:X.N.Nodup)
  (a5:h'.Ns X.env.locals (λx=>if x=n then v else m x)) (av:Heap.SameBut X.env.locals s.heap h') (rh:∃o,s.heap.get? X.env.locals=some o):Inv X ah (σ.set i none) H {s with heap:=h',toks:=tk}:=by
 have Ag:i<σ.length:=by rw[I.len];exact (gH.mp aM).1
 have nJ:=I.nJ;have lt:∀{b:af} {o:Obj},X.c_.heap.get? b=some o->b≠X.env.locals:=λe=>ez (iU (cT e) I.ok.above);refine⟨I.ok,I.os,I.bare,⟨λb o e n aa hx=>(av.2 b (lt e)).trans (I.base.keep b o e n aa hx),λb o e n aa hx=>?_,I.base.free,λb o e hx=>?_,I.base.kQ,I.base.kg,I.base.km⟩,⟨_,a5,λj y je aD aL eM=>?_⟩,λy c e=>?_,I.free,I.jS,λp aN=>?_,λb dc e=>?_,by simpa using I.len⟩
 ·obtain⟨cB,aD⟩:=I.base.slot b o e n aa hx;exact⟨cB,(av.2 b (lt e)).trans aD⟩
 ·obtain⟨o',aD⟩:=I.base.there b o e hx;exact⟨o',(av.2 b (lt e)).trans aD⟩
 ·by_cases bI:j=i
  ·subst bI;rw[List.getElem?_set_self Ag] at aL;cases aL
  ·rw[List.getElem?_set_ne (Ne.symm bI)] at aL;obtain⟨tD,cq,q⟩:=aE j y je aD aL eM;refine⟨tD,cq,?_⟩;rcases q with ⟨k,e⟩|⟨k,c,e,z⟩
   ·refine .inl ⟨k,?_⟩
    have:y≠n:=λe=>bI (LQ dp aD (e▸aM));simp[this,e]
   ·exact .inr ⟨k,c,e,z.sameBut av (nJ y c e)⟩
 ·obtain⟨fs,z⟩:=I.cell y c e;exact⟨fs,z.sameBut av (nJ y c e)⟩
 ·obtain⟨e,n,ne,jy,d⟩:=I.pin p aN;exact⟨(av.2 p.1 ne).trans e,n,ne,jy,d⟩
 ·refine (I.bJ b dc e).jd (λc fs au q=>(av.2 c ?_).trans q) (λ_ q=>q) λ_ _ q=>q
  rintro rfl;have fr:=I.free;rcases au with rfl|au
  ·rw[fr] at e;cases e
  ·rw[fr] at au;cases au
end
def aho{M:Model}{A:cH}{E:aj->aH->Prop}{K:a6}{s:aH}{x C eg:af}{Q:Bool->aH->Prop}(X:K.In s.heap)(I:jm x C s.heap)
  (ai:PySem.W.typeIn K (.ref eg)=some (.type "type")) (ao:PySem.W.mroIn K eg (.type "BaseException")=some true) (bE:PySem.W.mroIn K C (.ref eg)=some true) (au:(PySem.W.clsIn K eg).isSome=true) (bb:Q true s):
  bc M A (excMatches (.ref x) (.ref eg)) Q E s:=by
 obtain⟨cD,g,qZ,t,os⟩:=s;have qP:=I.type (M:=M);have kC:=PySem.W.looks_typeIn (M:=M) X ai;have a7:=PySem.W.looks_mroIn (M:=M) X ao;have D_:=PySem.W.looks_mroIn (M:=M) X bE;have D':PySem.W.Looks M cD (isInstance (.ref eg) (.type "tuple")) false:=kC.andThen (PySem.W.Looks.of_pure tc_notTuple);have LT:PySem.W.Looks M cD (isType (.ref eg)) true:=by
  unfold PySem.W.clsIn at au;split at au
  ·rename_i bW d' Np Bu aF
   intro UR zf lW s' k q;unfold isType loadHead;exact aR (wpAny_loadPart (k _ _ (X _ _ aF)) (cf q))
  ·cases au
 have LE:PySem.W.Looks M cD (isExcClass (.ref eg)) true:=LT.andThen a7;unfold excMatches;refine aR (D'.at ?_);rw[if_neg (by decide)];refine aR (cf ?_);dsimp only;refine aR ?_;simp only[List.forIn_cons,List.forIn_nil];refine aR (aR (LE.at ?_));rw[if_neg (by decide)];refine cf (cf ?_);refine aR (qP.at (aR ?_));refine aR (aR (D_.at ?_));rw[if_pos rfl];exact cf (cf (cf bb))
def ajF{X:aV}{ah:List (af×Obj)}{σ:a7.St}{H ae:aw}{s s':aH}{C eg:af}{e:aj}{nL n:Str}{i:Nat}{np pos:Pos}{oN:Stmt}{ph:List Stmt}{ts:f3}{D:Ends}
  (I:Inv X ah σ H s) (dE:DU X.prog X.w X.stack H s C ae e s') (hm:X.mg nL=some (.ref eg))
  (ai:PySem.W.typeIn X.K (.ref eg)=some (.type "type")) (ao:PySem.W.mroIn X.K eg (.type "BaseException")=some true) (bE:PySem.W.mroIn X.K C (.ref eg)=some true) (au:(PySem.W.clsIn X.K eg).isSome=true)
  (av:∀ea,fT (aV.rp X ea) (oN::ph) ts) (k:∀ea,ae ea=none->ts {bO:=λwe ba=>D.bO (we.set i none) ba,er:=λ_ _=>False} (σ.set i (some (.ref ea))) (upd ae ea (.ext (jm ea C))))
  (dp:X.N.Nodup) (aM:X.N[i]?=some n) (rg:X.env.kindOf n=some .local) (gW:X.stack=X.env::X.outer) (hf:X.env.frame=some X.env.locals) (bt:ew X nL) (gn:(nL==("__debug__":Str))=false):
  bc (bu X.prog X.w) X.A (noteFrame e X.env) (λ_ jz=>bc (bu X.prog X.w) X.A (setFlight e none) (λ_ pj=>bc (bu X.prog X.w) X.A (handleBy e X.env [.ExceptHandler (some (.Name nL np)) (some n) (oN::ph) pos]) (a7.oK X ah D) X.di pj) X.di jz) X.di s':=by
 obtain⟨ea,dx,B,rfl,dE⟩:=dE;have OU:=dE.uX;have kM:=I.ok.frames;rw[gW] at OU kM;refine wpAny_looks_onW kM hf OU λu6 Z' afz=>?_;refine wpAny_landsW Z' λhz Gq afA=>?_;have Nd:s'.heap.UpToSlots hz:=afz.trans afA;obtain⟨af7,_E⟩:=dE.on Gq.1 Nd;have bO:∀b:af,b∉([]:List af):=λb z=>absurd z (by simp);have M9:Inv X ah σ ae {s' with heap:=hz}:=I.Nn dE.os af7 _E dE.bare λb aa=>absurd aa (bO b);have Xq:jm ea C hz:=by
  obtain⟨n0,vs,aP,a9,de,_⟩:=Gq.first;exact⟨n0,vs,aP,a9,de⟩
 have jw:ae ea=none:=by
  cases q:ae ea with
  |none=>rfl
  |some u=>
   obtain⟨o,aF⟩:∃o,B.get? ea=some o:=by
    have z:=dE.bJ ea u q;have lt:=z.lt;have:∀(u:d7),hn X.prog X.w ae B ea u->∃o,B.get? ea=some o:=by
     intro u
     induction u with
     |lst xs=>rintro⟨_,_,_,_,e⟩;exact⟨_,e⟩
     |tup xs=>rintro⟨_,_,_,o,e,_⟩;exact⟨_,e⟩
     |fo kvs=>rintro⟨_,_,_,_,o,_,_,e,_⟩;exact⟨_,e⟩
     |mJ kvs=>rintro⟨_,_,_,_,o,_,_,e,_⟩;exact⟨_,e⟩
     |set S n=>rintro⟨o,_,_,_,e,_⟩;exact⟨_,e⟩
     |ins C bf aA=>rintro⟨_,_,_,e,_⟩;exact⟨_,e⟩
     |own x=>rintro⟨o,e⟩;exact⟨_,e⟩
     |h5 aA=>rintro⟨_,e,_⟩;obtain⟨o,_,_,e,_⟩:=e;exact⟨_,e⟩
     |met f x=>intro e;exact⟨_,e⟩
     |i_ lo aM=>rintro⟨_,_,_,e⟩;exact⟨_,e⟩
     |nS o u b1=>rintro⟨e,_⟩;exact⟨_,e⟩
     |h4 ps=>intro e;exact⟨_,e⟩
     |ext oA=>rintro⟨_,⟨o,e⟩,_⟩;exact⟨_,e⟩
    exact this u z
   rw[dE.uX.2.1] at aF;cases aF
 refine wpAny_handleBy_cons (codeAny_handlers_test (ue (X:=aV.rp X ea) (Tv M9 ea) bt hm ?_ gn)) (by intro q;cases q)
 refine aho M9.jx Xq ai ao bE au ?_
 refine codeAny_handlers_suite_as ?_
 refine lands_againW Gq λxb Gr afB=>?_
 have Wu:s'.heap.UpToSlots xb:=Nd.trans afB;obtain⟨tE,_F⟩:=dE.on Gr.1 Wu;have Nk:jm ea C xb:=by
  obtain⟨n0,vs,aP,a9,de,_⟩:=Gr.first;exact⟨n0,vs,aP,a9,de⟩
 have am_:∀{b:af} {u:d7},ae b=some u->upd ae ea (.ext (jm ea C)) b=some u:=λ{b u} q=>by rw[cK (by rintro rfl;rw[jw] at q;cases q)];exact q
 have abx:∀{b:af} {o:Obj},s.heap.get? b=some o->H b=none->b≠ea:=λ{b o} q n=>by
  rintro rfl;by_cases f:b∈e6 X.stack
  ·obtain⟨_,o',bP,hd⟩:=Gr.2.2.1.mem (b:=b) (by rw[<- gW];exact f);obtain⟨n0,vs,aD,_,aL⟩:=Nk;rw[aD] at bP;cases bP;exact hd vs aL
  ·have z:=dE.pZ b o q n f;rw[dE.uX.2.1] at z;cases z
 have af8:fU (e6 X.stack) [] H (upd ae ea (.ext (jm ea C))) s.heap xb:=⟨tE.keep,tE.slot,λb o q n hx=>by rw[cK (abx q n)];exact tE.free b o q n hx,tE.there,λb xs q=>am_ (tE.kQ b xs q),λb o u q=>am_ (tE.kg b o u q),λb ps q=>by
  obtain⟨m,z⟩:=tE.km b ps q;exact⟨m,am_ z⟩⟩
 have _G:eC X.prog X.w (upd ae ea (.ext (jm ea C))) xb:=λb u q=>by
  by_cases aa:b=ea
  ·subst aa;rw[dM] at q;cases q;obtain⟨n0,vs,aD,aL,eM⟩:=Nk;exact⟨⟨n0,vs,aD,aL,eM⟩,⟨n0,aD⟩,λk1 k2 ⟨o,vs,jG,gg,amT⟩ bQ=>⟨o,vs,bQ o jG,gg,amT⟩⟩
  ·rw[cK aa] at q;exact (_F b u q).jd (λ_ _ _ z=>z) (λc z=>am_ z) λc xs z=>am_ z
 have Wi:Inv X ah σ (upd ae ea (.ext (jm ea C))) {s' with heap:=xb}:=I.Nn dE.os af8 _G dE.bare λb aa=>absurd aa (bO b);refine LJ (X:=aV.rp X ea) (v:=.ref ea) (Tv Wi ea) dp aM (.inl rg) rfl (λeO gK=>?_) (.inr rg);refine eK (av ea ah eO _ _ _ gK (k ea jw)) (λf gZ uY=>?_) λ_ _ z=>z.elim;cases f with
|next=>
  obtain⟨we,ba,wk,kN⟩:=uY;have M8:=ajt I.ok wk;obtain⟨m,O1,_r⟩:=id M8.loc;refine wpAny_nameGoes_keeps rg O1 (by rw[I.ok.kind];rfl) λOI v _z _K=>?_;have rh:∃o,gZ.heap.get? X.env.locals=some o:=by
   obtain⟨o,_,_,q,_⟩:=O1;exact⟨o,q⟩
  exact⟨_,ba,aju M8 aM _r dp _z _K rh,kN⟩
|brk=>obtain⟨_,_,_,kN⟩:=uY;exact eL kN
|cont=>obtain⟨_,_,_,kN⟩:=uY;exact eL kN
|ret u=>obtain⟨_,_,_,_,_,kN⟩:=uY;exact eL kN
end
section
noncomputable def PU(K:a6)(C:af):List V->aw->c0->Prop:=λxs H Q=>∃ea c cv b,xs=[.ref ea,c]/\H ea=some (.ext (jm ea C))/\(∀u,RelV c u->u=cv)/\nd K (.ref C) cv=some b/\Q (.b0 b) H
def alu{X:aV}{C:af}(O:qN X.K C):lR X (.builtin "isinstance") (PU X.K C):=by
 intro ah s σ H xs us Q I r ⟨ea,c,cv,b,aD,aL,eM,ip,q⟩;subst aD;cases r with
|cons bj r=>
  cases r with
  |cons b_ r=>
   cases r
   cases bj
   have fe:=eM _ b_;subst fe;exact PySem.W.kia_one (ajp O) I.jx (I.bJ ea _ aL).1 ip (by intro z;cases z) λtk=>⟨.b0 b,H,I.tok _,rfl,q⟩
theorem LY:∀{bs:List Bool} {us:List aj},Vals (bs.map V.b0) us->us=bs.map Value.bool
| [],us,h=>by cases h;rfl
|b::bs,us,h=>by
  cases h with
  |cons r t=>
   cases r
   rw[LY t];rfl
noncomputable def r3:aj->Bool
|.bool true=>true
|_=>false
def ajk{X:aV}:zc X "list.count" (λx vs H Q=>∃(l:af) (bs:List Bool),x=.ref l/\vs=[.b0 true]/\fH X.K H l (bs.map V.b0)/\Q (.int (bs.countP id:Nat)) H):=by
 intro ah s σ H x vs v us Q I aS bR h;obtain⟨l,bs,rfl,rfl,bb,q⟩:=h;cases aS;obtain⟨u,rfl,c7⟩:=bR.one;cases c7;obtain⟨its,r,⟨⟨cls,dd,data,cB⟩,n,aF,au,hd,av⟩,aq⟩:=I.list bb;simp only at au hd av;subst au hd av;have hits:=LY r;subst hits;refine oe PySem.F.slot_list_count ⟨_,aF,rfl⟩ PySem.F.entry_list_count (PySem.F.args_list_count_2 _ _)
  (SeqAt.list_countAt l _ n _ _ (.bool true) r3) ⟨aF,λz l'=>?_,?_⟩
 ·obtain⟨b,_,rfl⟩:=en.mp (show z∈bs.map Value.bool by simpa using l');have e:=SeqAt.EqAt.bool_bool (A:=X.A.in1) (s:=s) b true;have aL:(b==true)=r3 (.bool b):=by cases b <;> rfl
  rw[aL] at e;exact e
 ·refine⟨V.int (bs.countP id:Nat),H,I.tok _,⟨s.toks,?_⟩,q⟩
  have:((bs.map Value.bool).toArray.toList.countP r3)=bs.countP id:=by
   show (bs.map Value.bool).countP r3=_
   rw[List.countP_map];congr 1;funext b;cases b <;> rfl
  rw[this]
def aik{X:aV}:zc X "list.index" (λx vs H Q=>∃(l:af) (bs:List Bool) (j:Nat),x=.ref l/\vs=[.b0 true]/\fH X.K H l (bs.map V.b0)/\bs[j]?=some true/\(∀m,m<j->bs[m]?=some false)/\Q (.int (j:Nat)) H):=by
 intro ah s σ H x vs v us Q I aS bR h;obtain⟨l,bs,j,rfl,rfl,bb,bI,aa,q⟩:=h;cases aS;obtain⟨u,rfl,c7⟩:=bR.one;cases c7;obtain⟨its,r,⟨⟨cls,dd,data,cB⟩,n,aF,au,hd,av⟩,aq⟩:=I.list bb;simp only at au hd av;subst au hd av;have hits:=LY r;subst hits;have w0:=(gH.mp bI).1;rw[hi] at aq;rw[nc] at aq;refine oe PySem.F.slot_list_index ⟨_,aF,rfl⟩ PySem.F.entry_list_index (PySem.F.args_list_index_2 _ _)
  (SeqAt.list_indexAt l _ n _ _ (.bool true) r3 j (by simpa using w0) (by omega) ?_ ?_) ⟨aF,λz l'=>?_,⟨V.int (j:Nat),H,I.tok _,⟨_,rfl⟩,q⟩⟩
 ·have:=(gH.mp bI).2;simp[r3,this]
 ·intro m hm e1;have:=(gH.mp (aa m e1)).2;simp[r3,this]
 ·obtain⟨b,_,rfl⟩:=en.mp (show z∈bs.map Value.bool by simpa using l');have e:=SeqAt.EqAt.bool_bool (A:=X.A.in1) (s:=s) b true;have aL:(b==true)=r3 (.bool b):=by cases b <;> rfl
  rw[aL] at e;exact e
noncomputable def k6 [cI](H ae:aw):Prop:=∀F:af->Prop,fQ F H->Ext F H F ae
theorem k6.laid [cI]{H:aw}{p:af}{o:d7}(aN:H p=none):k6 H (upd H p o):=λF d=>Ext.laid d aN
theorem k6.trans [cI]{H H1 ba:aw}(a:k6 H H1)(b:k6 H1 ba):k6 H ba:=λF d=>(a F d).trans (b F (a F d).cp)
abbrev tx(K:a6)(C:af)(c:V):TE:=Bz (PU K C) (iY (fB 2) (iY (jA c) m4))
abbrev aer(K:a6):V->List V->aw->c0->Prop:=λx vs H Q=>∃(l:af) (bs:List Bool),x=.ref l/\vs=[.b0 true]/\fH K H l (bs.map V.b0)/\Q (.int (bs.countP id:Nat)) H
abbrev aes(K:a6):V->List V->aw->c0->Prop:=λx vs H Q=>∃(l:af) (bs:List Bool) (j:Nat),x=.ref l/\vs=[.b0 true]/\fH K H l (bs.map V.b0)/\bs[j]?=some true/\(∀m,m<j->bs[m]?=some false)/\Q (.int (j:Nat)) H
abbrev Mn(K:a6)(C gN gM cd cR:af):f3:=
 BB (amY (Qg (iY (tx K C (.ref gN)) (iY (tx K C (.ref gM)) (iY (tx K C (.ref cd)) (iY (tx K C (.ref cR)) m4))))) (sg 3))
 (BB (amY (vg (iY (jA (.str "refused")) (iY (Qk (JS λi=>.int (-i)) (jA (.int 1))) m4))) (sg 1)) (Qf (Qe (J8 (tx K C (.ty "ValueError"))) (UC (tA PT (J9 K "list" (aer K) (fB 3) (iY (jA (.b0 true)) m4)) (jA (.int 1))))) (amY (vg (iY (jA (.str "refused")) (iY (J9 K "list" (aes K) (fB 3) (iY (jA (.b0 true)) m4)) m4))) (sg 1)) UD))
structure Kinds(K:a6)(C gN gM cd cR:af)(bs:List Bool)(j:Nat):Prop where
 gw:∃gw bM bY dy,bs=[gw,bM,bY,dy]/\nd K (.ref C) (.ref gN)=some gw/\nd K (.ref C) (.ref gM)=some bM/\nd K (.ref C) (.ref cd)=some bY/\nd K (.ref C) (.ref cR)=some dy
 Qn:nd K (.ref C) (.type "ValueError")=some true
 one:bs.countP id=1
 hit:bs[j]?=some true
 no:∀m,m<j->bs[m]?=some false
def ahc [cI]{K:a6}{C gN gM cd cR ea:af}{bs:List Bool}{j:Nat}(bQ:Kinds K C gN gM cd cR bs j){D:Ends}{σ:a7.St}{H:aw}(aE:σ.length=4)(he:σ[2]?=some (some (.ref ea)))(hx:H ea=some (.ext (jm ea C)))
  (k:∀ae p ct,k6 H ae->ae p=some (.tup [.str "refused",.int j])->ct.length=4->ct[1]?=some (some (.ref p))->D.bO ct ae):Mn K C gN gM cd cR D σ H:=by
 obtain⟨⟨gw,bM,bY,dy,rfl,k0,k1,k2,k3⟩,Qn,one,hit,no⟩:=bQ;have nY:∀{c:V} {cv:aj} {b:Bool} {σ:a7.St} {H:aw} {Q:c0},σ[2]?=some (some (.ref ea))->H ea=some (.ext (jm ea C))->(∀u,RelV c u->u=cv)->nd K (.ref C) cv=some b->Q (.b0 b) H->tx K C c σ H Q:=
  λ{c cv b σ H Q} aD aL eM ip q=>⟨_,aD,ea,c,cv,b,rfl,aL,eM,ip,q⟩
 refine nY he hx (cv:=.ref gN) (λu r=>r) k0 (nY he hx (cv:=.ref gM) (λu r=>r) k1 (nY he hx (cv:=.ref cd) (λu r=>r) k2 (nY he hx (cv:=.ref cR) (λu r=>r) k3 ?_)))
 refine⟨by show 4<=cA;decide,λp aN=>?_⟩
 refine⟨1,rfl,?_⟩
 refine⟨by show 2<=cA;decide,λeY sZ=>?_⟩
 have g1:k6 H (upd H p (.lst [.b0 gw,.b0 bM,.b0 bY,.b0 dy])):=k6.laid aN;have g2:=g1.trans (k6.laid (o:=.tup [.str "refused",.int (-1)]) sZ);have ne1:ea≠p:=by rintro rfl;rw[hx] at aN;cases aN
 have G_:upd H p (.lst [.b0 gw,.b0 bM,.b0 bY,.b0 dy]) ea=some (.ext (jm ea C)):=by rw[cK ne1];exact hx
 have ne2:ea≠eY:=by rintro rfl;rw[G_] at sZ;cases sZ
 have ne3:p≠eY:=by rintro rfl;rw[dM] at sZ;cases sZ
 have aL:((σ.set 3 (some (V.ref p))).set 1 (some (V.ref eY)))[2]?=some (some (.ref ea)):=by rw[List.getElem?_set_ne (by decide),List.getElem?_set_ne (by decide)];exact he
 have eM:((σ.set 3 (some (V.ref p))).set 1 (some (V.ref eY)))[3]?=some (some (.ref p)):=by rw[List.getElem?_set_ne (by decide),List.getElem?_set_self (by omega)]
 have hb:upd (upd H p (.lst [.b0 gw,.b0 bM,.b0 bY,.b0 dy])) eY (.tup [.str "refused",.int (-1)]) p=some (.lst [.b0 gw,.b0 bM,.b0 bY,.b0 dy]):=by rw[cK ne3,dM]
 have Bw:fH K (upd (upd H p (.lst [.b0 gw,.b0 bM,.b0 bY,.b0 dy])) eY (.tup [.str "refused",.int (-1)])) p ([gw,bM,bY,dy].map V.b0):=.inl (.inl hb);refine nY aL (by rw[cK ne2];exact G_) (cv:=.type "ValueError") (λu r=>r) Qn ⟨true,rfl,?_⟩;refine rq ?_;refine⟨_,eM,.inl ⟨rfl,_,Bw⟩,p,[gw,bM,bY,dy],rfl,rfl,Bw,rfl,⟨true,?_,?_⟩⟩
 ·rw[one];rfl
 ·refine rq ?_
  refine⟨_,eM,.inl ⟨rfl,_,Bw⟩,p,[gw,bM,bY,dy],j,rfl,rfl,Bw,hit,no,?_⟩
  refine⟨by show 2<=cA;decide,λp3 _I=>?_⟩
  refine k _ p3 _ (g2.trans (k6.laid _I)) dM ?_ ?_
  ·simp[aE]
  ·rw[List.getElem?_set_self (by simp[aE])]
end
section
variable [cI]
abbrev zo(P:cC)(w:b6)(K:a6)(mg:Str->Option aj)(base:bz)(N:List Str)(qual:Str)(scope:Scope)(q:af)(cd:aj)(cl:List (Str×af))(A:cH)(outer:List Env)(s:aH)(H:aw)(E:e0):aV:=
 (qY P w K mg base N qual scope q cd cl A outer s H).lB λe s'=>bc (bu P w) (A.deeper (mO qual scope s.heap.objs.size q cd cl)) (leaving (mO qual scope s.heap.objs.size q cd cl) e) (λ_ qj=>lT P w outer H s E e qj) (λbP qj=>lT P w outer H s E bP qj) s'
section
variable {P:cC}{w:b6}{K:a6}{mg:Str->Option aj}{base:bz}{k:Nat}{q bW:af}{N:List Str}{qual:Str}{scope:Scope}{cl:List (Str×af)}{A:cH}{outer:List Env}{s:aH}{H:aw}{σ:a7.St}{C:af}
def aio{params:Arguments}{body:bq}{pm iG:aj}{r:jq}{E:e0}(aK:scope.kind=.function)(q':scope.isCoroutine=false)(rb:scope.isGenerator=false)(lh:∀x∈scope.names,x.2≠.cell)
  (aa:∀(A:cH) (outer:List Env) (s:aH) (H:aw) (E:e0),c2 k (A.deeper (mO qual scope s.heap.objs.size q (.ref bW) cl))->Ed (zo P w K mg base N qual scope q (.ref bW) cl A outer s H E) C body r)
  (bd:bindArgs (PySem.W.kla_fn "<lambda>" qual params body scope cl pm (.ref bW) iG) ⟨[],[]⟩=pure [])
  (ax:c2 (k+1) A) (cm:ny P w K mg base A outer s H) (bb:H q=some (o8 (PySem.W.kla_obj "<lambda>" qual params body scope cl pm bW iG) q)) (au:H bW=some (wF bW qual)) (Vy:uy N scope cl σ H s.heap)
  (h:∃aC fR O F ε,cx K aC fR O F H ε σ/\r ε=true/\∀aG ae,Ext F H aG ae->E (.ref C) none ae):h7 (bu P w) A (.call (.ref q) ⟨[],[]⟩) (oF (lT P w) outer P w H s (λ_ _=>False) E) s:=by
 have Js:s.heap.NoLimit:=cm.mod.nolimit.keeps λb o e=>(cm.bs b o e).1;refine PySem.W.kla_callFunE ax.depth (cm.bJ q _ bb).1 rfl q' rb rfl (cm.bJ bW _ au).1 ?_;rw[bd];refine cf (BQ lh (λx hx=>by cases hx) (λeG mV rk=>⟨Js.fresh _ rk,?_⟩) aK);have az:∀b o,s.heap.get? b=some o->eG.get? b=some o:=λb o e=>rk.extBut b o (ez (cT e)) (cZ _ e);show h7 _ _ (.expr body (mO qual scope s.heap.objs.size q (.ref bW) cl)) _ _;refine PySem.W.kla_codeExpr ?_;have Wg:Inv (qY P w K mg base N qual scope q (.ref bW) cl A outer s H) [] σ H {s with heap:=eG,toks:=s.toks+([]:List (Str×aj)).length}:=RM aK ax.hd cm Vy mV az;have I:Inv (zo P w K mg base N qual scope q (.ref bW) cl A outer s H E) [] σ H {s with heap:=eG,toks:=s.toks+([]:List (Str×aj)).length}:=Wg.lB _;obtain⟨aC,fR,O,F,ε,i9,fg,i5⟩:=h;refine eK (aa A outer s H E (ax.deeper _) [] _ σ H (λ_ _=>False) I ⟨aC,fR,O,F,ε,i9,fg,λaG ae x ah MU H1 s1 aD s2 a' t=>?_⟩) (λu s' av=>?_) λe s' av=>av
 ·exact eK (SG (X:=zo P w K mg base N qual scope q (.ref bW) cl A outer s H E) (E:=E) (Z:=λ_ _=>False) a' t (i5 aG ae x)) (λ_ _ z=>z) λ_ _ z=>z.elim
 ·obtain⟨_,_,_,_,z⟩:=av;exact z.elim
end
noncomputable def al'(X:aV)(C:af)(ae:aw):Prop:=∀(ah:List (af×Obj)) (σ:a7.St) (H:aw) (s:aH) (e:aj) (s':aH),Inv X ah σ H s->DU X.prog X.w X.stack H s C ae e s'->X.di e s'
noncomputable def Mo(X:aV)(C:af)(i:Nat):TE:=λσ H _=>∃q,σ[i]?=some (some (.ref q))/\(∃(o:Obj) (fd:et),H q=some (o8 o q)/\o.data=.func fd) /\
 ∀(ah:List (af×Obj)) (s:aH),Inv X ah σ H s->h7 (bu X.prog X.w) X.A (.call (.ref q) ⟨[],[]⟩) (oF (lT X.prog X.w) X.stack X.prog X.w H s (λ_ _=>False) λcl _ ae=>∃amO,cl=.ref amO/\al' X amO ae) s
def ai_{X:aV}{C:af}{i:Nat}{x:Str}{p pos:Pos}(a5:bK X (.Name x p) (fB i)):bK X (.Call (.Name x p) [] [] pos) (Mo X C i):=by
 intro ah s σ H Q I ⟨q,bb,⟨o,fd,aF,GL⟩,au⟩;refine pq (cJ (a5 ah s σ H (λv H1=>v=.ref q/\H1=H) I ⟨.ref q,bb,rfl,rfl⟩) λv s1 ⟨y,H1,a',bk,e4,ht⟩=>?_);subst e4;subst ht;cases bk;have bT:PySem.W.FnAt q s1.heap:=by
  have ai:s1.heap.get? q=some o:=(a'.bJ q _ aF).1;obtain⟨c,uP,F3,cB⟩:=o;cases GL;exact⟨_,_,_,_,ai⟩
 refine PySem.W.callWith_F0 bT ?_
 refine rM (pw (au ah s1 a') λr s' bb=>?_)
 cases r with
|error e=>
  obtain⟨UT,ae,dE,UU,aL,ok⟩:=bb;cases aL;exact ok ah σ H1 s1 e s' a' dE
|ok dE=>
  cases dE with
  |ret u=>
   obtain⟨_,_,_,_,_,_,_,z⟩:=bb;exact z.elim
  |next=>exact eL bb
  |brk=>exact eL bb
  |cont=>exact eL bb
noncomputable def Dt(X:aV)(C:af)(j:Nat):f3:=λD σ H=>∃q,σ.length=4/\σ[0]?=some (some (.ref q))/\(∃(o:Obj) (fd:et),H q=some (o8 o q)/\o.data=.func fd)/\∃sm:aw->Prop,
 (∀(ah:List (af×Obj)) (s:aH),Inv X ah σ H s->h7 (bu X.prog X.w) X.A (.call (.ref q) ⟨[],[]⟩) (oF (lT X.prog X.w) X.stack X.prog X.w H s (λ_ _=>False) λcl _ ae=>cl=.ref C/\sm ae) s) /\
 ∀ae,sm ae->∀mE p,k6 ae mE->mE p=some (.tup [.str "refused",.int j])->D.er (.ref p) mE
abbrev aV.bears(X:aV)(c8:List (af×Obj))(E:aj->aH->Prop):aV:={X with c8:=c8,di:=E}
def aiu{X:aV}{ah:List (af×Obj)}{σ:a7.St}{H:aw}{s:aH}(I:Inv X ah σ H s)(E:aj->aH->Prop):Inv (aV.bears X (X.c8++ah) E) [] σ H s:=
 ⟨⟨I.ok.mod,I.ok.kind,I.ok.glob,I.ok.blt,I.ok.above,I.ok.inj,I.ok.has,I.ok.sI,I.ok.hd,I.ok.frames,I.ok.amQ,I.ok.q5,I.ok.bs,I.ok.nG,I.ok.tg,I.ok.q6,I.ok.kJ,I.ok.oU⟩,I.os,I.bare,I.base,I.loc,I.cell,I.free,I.jS,λp aN=>I.pin p (by simpa using aN),I.bJ,I.len⟩
def Rn{X:aV}{ah Bg:List (af×Obj)}{σ:a7.St}{H:aw}{s:aH}{E:aj->aH->Prop}(ok:X.Ok)(I:Inv (aV.bears X (X.c8++ah) E) Bg σ H s):Inv X ah σ H s:=
 ⟨ok,I.os,I.bare,I.base,I.loc,I.cell,I.free,I.jS,λp aN=>I.pin p (List.mem_append_left _ aN),I.bJ,I.len⟩
def ai5{X:aV}{C eg gN gM cd cR:af}{bs:List Bool}{j:Nat}{body ph:List Stmt}{oN:Stmt}{np pos am9 JW th:Pos}
  (p9:∀(c8:List (af×Obj)) (E:aj->aH->Prop),fT (aV.bears X c8 E) body (amY (vg (iY (jA (.str "told")) (iY (Mo (aV.bears X c8 E) C 0) m4))) (sg 1)))
  (G6:∀ea,fT (aV.rp X ea) (oN::ph) (Mn X.K C gN gM cd cR)) (bQ:Kinds X.K C gN gM cd cR bs j)
  (hm:X.mg "DoorError"=some (.ref eg)) (ai:PySem.W.typeIn X.K (.ref eg)=some (.type "type")) (ao:PySem.W.mroIn X.K eg (.type "BaseException")=some true) (bE:PySem.W.mroIn X.K C (.ref eg)=some true) (au:(PySem.W.clsIn X.K eg).isSome=true)
  (G2:bK X (.Name "_law_found" th) (fB 1))
  (dp:X.N.Nodup) (aM:X.N[2]?=some ("e":Str)) (hlen:X.N.length=4) (rg:X.env.kindOf "e"=some .local) (gW:X.stack=X.env::X.outer) (hf:X.env.frame=some X.env.locals) (bt:ew X "DoorError"):
  fT X [.Try body [.ExceptHandler (some (.Name "DoorError" np)) (some "e") (oN::ph) am9] [] [] pos,.Return (some (.Name "_law_found" th)) JW] (Dt X C j):=by
 have _R:jr X (.Try body [.ExceptHandler (some (.Name "DoorError" np)) (some "e") (oN::ph) am9] [] [] pos) (λD σ H=>∃q,σ.length=4/\σ[0]?=some (some (.ref q))/\(∃(o:Obj) (fd:et),H q=some (o8 o q)/\o.data=.func fd)/\∃sm:aw->Prop,
   (∀(ah:List (af×Obj)) (s:aH),Inv X ah σ H s->h7 (bu X.prog X.w) X.A (.call (.ref q) ⟨[],[]⟩) (oF (lT X.prog X.w) X.stack X.prog X.w H s (λ_ _=>False) λcl _ ae=>cl=.ref C/\sm ae) s) /\
   ∀ae,sm ae->∀mE p MT,k6 ae mE->mE p=some (.tup [.str "refused",.int j])->MT[1]?=some (some (.ref p))->D.bO MT mE):=by
  intro ah s σ H D I ⟨q,aE,bb,GV,sm,GF,aK⟩;refine wpAny_Try_except ?_
  let lW:aj->aH->Prop:=λe c'=>bc (bu X.prog X.w) X.A (noteFrame e X.env) (λ_ jz=>bc (bu X.prog X.w) X.A (setFlight e none) (λ_ pj=>bc (bu X.prog X.w) X.A (handleBy e X.env [.ExceptHandler (some (.Name "DoorError" np)) (some "e") (oN::ph) am9]) (a7.oK X ah D) X.di pj) X.di jz) X.di c'
  refine eK (p9 (X.c8++ah) lW [] s σ H {bO:=λ_ _=>False,er:=λ_ _=>False} (aiu I lW) ⟨q,bb,GV,λBg s2 b5=>?_⟩) (λf s1 av=>?_) λe s1 he=>he
  ·refine pw (GF (ah) s2 (Rn I.ok b5)) λr s' ax=>?_
   cases r with
   |ok dE=>
    cases dE with
    |ret u=>exact ax
    |next=>exact ax
    |brk=>exact ax
    |cont=>exact ax
   |error e=>
    obtain⟨UT,ae,dE,aD,JF⟩:=ax;cases aD;refine⟨C,ae,dE,C,rfl,λamx mD d6 s3 eM s4 dI Zr=>?_⟩;have J:=Rn I.ok dI;have xi:mD.length=4:=by rw[J.len,hlen]
    refine ajF (i:=2) J Zr hm ai ao bE au G6 (λea Z_=>ahc bQ (ea:=ea) (by simp[xi]) (List.getElem?_set_self (by omega)) dM λmE p ct g aN _q dF=>?_) dp aM rg gW hf bt (by decide)
    refine aK ae JF mE p _ ((k6.laid Z_).trans g) aN ?_
    rw[List.getElem?_set_ne (by decide)];exact dF
  ·cases f with
   |next=>obtain⟨_,_,_,z⟩:=av;exact eL z
   |brk=>obtain⟨_,_,_,z⟩:=av;exact eL z
   |cont=>obtain⟨_,_,_,z⟩:=av;exact eL z
   |ret u=>obtain⟨_,_,_,_,_,z⟩:=av;exact eL z
 refine Dp (vI _R (ud (uq G2))) λD σ H ⟨q,aE,bb,GV,sm,GF,aK⟩=>?_
 exact⟨q,aE,bb,GV,sm,GF,λae JF mE p MT g aN dF=>⟨_,dF,aK ae JF mE p g aN⟩⟩
noncomputable def pK(f:g8)(r:jq)(j:Nat):g8:=λε=>if r ε=true then some (.tuple [.str "refused",.int j],ε) else DG f ε
def Tc{X:aV}{k:Nat}{x:Str}{st:Stmt}{bT:af}{fd:et}{mj mm mq xT:Str}{params:Arguments}{body:bq}{scope:Scope}{jW p pos:Pos}{c amM C:af}{f:g8}{r:jq}{j:Nat}
  (F:cG X.K x x st bT fd) (S:cO [mj,mm,mq,xT] [mj] (bx st)) (bd:fG X.K fd [mj] []) (hm:X.mg x=some (.ref bT))
  (bh:∀(bN:aj) (A:cH) (outer:List Env) (s:aH) (H:aw),fT (e3 dt X.prog X.w X.K X.mg X.base [mj,mm,mq,xT] x (bx st) bT bN A outer s H jO).ey (fv st) (MG (e3 dt X.prog X.w X.K X.mg X.base [mj,mm,mq,xT] x (bx st) bT bN A outer s H jO).ey))
  (aq:∀(bN:aj) (A:cH) (outer:List Env) (s:aH) (H:aw),fT (e3 dt X.prog X.w X.K X.mg X.base [mj,mm,mq,xT] x (bx st) bT bN A outer s H jO).ey (fv st) (Dt (e3 dt X.prog X.w X.K X.mg X.base [mj,mm,mq,xT] x (bx st) bT bN A outer s H jO).ey C j))
  (sV:X.env.code=.ref c) (fz:vu X.K c amM=true) (jU:oC X.mg X.base) {tn:Str} (rm:(amM,tn)∈cI.df) (w_:∀p∈cI.df,p.1=amM->p.2=tn)
  (ax:c2 (k+2) X.A)
  (aa:∀(q bW:af) (cl:List (Str×af)) (A:cH) (outer:List Env) (s:aH) (H:aw),c2 k (A.deeper (mO (X.env.qual++"<lambda>") scope s.heap.objs.size q (.ref bW) cl))->kD (qY X.prog X.w X.K X.mg X.base X.N (X.env.qual++"<lambda>") scope q (.ref bW) cl A outer s H) body f)
  (Z1:∀(q bW:af) (cl:List (Str×af)) (A:cH) (outer:List Env) (s:aH) (H:aw) (E:e0),c2 k (A.deeper (mO (X.env.qual++"<lambda>") scope s.heap.objs.size q (.ref bW) cl))->Ed (zo X.prog X.w X.K X.mg X.base X.N (X.env.qual++"<lambda>") scope q (.ref bW) cl A outer s H E) C body r)
  (u5:(decide (scope.kind=.function) && !scope.isCoroutine && !scope.isGenerator && scope.names.all λy=>decide (y.2≠.cell) && decide (y.2≠.local))=true:=by rfl)
  (kM:(scope.names.all λy=>decide (y.2≠.free) || decide (X.env.scope.names.lookup y.1=some .cell))=true:=by rfl)
  (zl:∀(cl:List (Str×af)) (pm:aj) (bW:af) (iG:aj),bindArgs (PySem.W.kla_fn "<lambda>" (X.env.qual++"<lambda>") params body scope cl pm (.ref bW) iG) ⟨[],[]⟩=pure []:=by intros;rfl)
  (bt:ew X x:=by rfl) (gn:(x==("__debug__":Str))=false:=by decide) (u0:defaultsOf params X.env=([],[]):=by rfl)
  (he:bB [.Lambda params body scope jW] X.env=(false,eval (.Lambda params body scope jW) X.env)::bB [] X.env:=by rfl) (G1:X.env.qual++"<lambda>"=tn:=by rfl):
  kD X (.Call (.Name x p) [.Lambda params body scope jW] [] pos) (pK f r j):=by
 subst G1;simp only[iV,Bool.not_eq_true',decide_eq_true_eq,List.all_eq_true] at u5;obtain⟨⟨⟨aK,q'⟩,rb⟩,lh⟩:=u5;simp only[List.all_eq_true,Bool.or_eq_true,decide_eq_true_eq] at kM;have GP:∀y∈scope.names,y.2=.free->X.env.scope.names.lookup y.1=some .cell:=λy a_ hf=>by
  rcases kM y a_ with z|z
  ·exact absurd hf z
  ·exact z
 intro ah s σ H Q I ⟨aC,E,O,aG,ε,t,ε',i9,e,bQ⟩;have M4:=PySem.W.codeHd_of_K I.ok.mod.o5 fz;unfold pK at e;by_cases fg:r ε=true
 case neg=>
  rw[if_neg fg] at e;exact akI F S bd hm bh sV M4 jU rm w_ aK q' rb (λy a_=>lh y a_) GP zl ax aa bt gn u0 he ah s σ H Q I ⟨aC,E,O,aG,ε,t,ε',i9,e,bQ⟩
 rw[if_pos fg] at e;cases e;refine pq (ue I bt hm ?_ gn);refine PySem.W.callWith_K (h₀:=X.base) I.ok.mod.o5 F.az ?_ he rfl;rw[he];show bc _ _ (spliced ((false,eval (.Lambda params body scope jW) X.env)::[])) _ _ s;have aE:∀x∈scope.names,x.2=.free->∃c,X.env.cells.lookup x.1=some c:=λx hx hf=>I.ok.has x.1 (.inl (GP x hx hf));refine Calls.spliced_cons (SX I sV M4 jU u0 (Ck aE) i9.cp.m6 rm w_ λq bW iG H1 s1 a' tu tB G1 bb au=>Calls.spliced_nil ⟨a'.jx,?_⟩);have aO:Ext aG H aG H1:=⟨tu,λ_ h=>h,λ_ h=>.inl h,⟨λa aB=>by
  obtain⟨o,aF⟩:=i9.cp.wH a aB;exact tu.ne aF,tB⟩⟩
 have fin:h7 (bu X.prog X.w) X.A (.call (.ref bT) ⟨[.ref q],[]⟩) (oF dt X.stack X.prog X.w H1 s1 Q jO) s1:=by
  refine S1 (k:=k+1) (vs:=[.ref q]) F S bd ax a'.uW (.cons rfl .nil) rfl λbN nW=>⟨_,aq bN X.A X.stack s1 H1,?_⟩
  refine⟨q,rfl,rfl,⟨_,_,bb,rfl⟩,λae=>∃dH,Ext aG H1 dH ae,λBg s2 b5=>?_,?_⟩
  ·have caps:uy X.N scope (f5 X.env scope.names []) σ H1 s2.heap:=by
    have cY:=TH a' lh GP;have az:∀{a:af} {v:Option aj},s1.heap.IsCell a v->H1 a=none->s2.heap.IsCell a v:=λ{a v} z n=>Sa b5.base z n (by intro z;exact absurd (show a∈([]:List af) from z) (by simp));refine⟨cY.inj,cY.has,λx c h=>?_,cY.len,λi x v ai ao bE=>?_⟩
    ·obtain⟨⟨v,bo⟩,a5⟩:=cY.uO x c h;exact⟨⟨v,az bo a5⟩,a5⟩
    ·obtain⟨u,c,c7,hf,lb,hx⟩:=cY.val i x v ai ao bE;exact⟨u,c,c7,hf,lb,az hx (cY.uO x c lb).2⟩
   exact aio aK q' rb (λx hx=>(lh x hx).1) (Z1 q bW _) (zl _ _ _ _) nW b5.uW bb au caps ⟨aC,E,O,aG,ε,i9.ext aO,fg,λdH ba bZ=>⟨rfl,dH,bZ⟩⟩
  ·rintro ae ⟨dH,bZ⟩ mE p g aN;have fD:=g dH bZ.cp;refine bQ _ dH _ ((aO.trans bZ).trans fD).az (i9.ext ((aO.trans bZ).trans fD)) ?_;simp only[Rep];exact⟨p,_,rfl,c3.of aN,bl.cons (by simp[Rep]) (bl.cons (by simp[Rep]) bl.nil)⟩
 refine rM (pw fin λr s' bb=>?_)
 cases r with
|error e=>exact eL bb
|ok dE=>
  cases dE with
  |ret u=>exact a'.after bb
  |next=>exact eL bb
  |brk=>exact eL bb
  |cont=>exact eL bb
end
section
noncomputable def DL(K:a6)(eg gN gM cd cR C:af)(gw bM bY dy:Bool):Bool:=
 (PySem.W.clsIn K C).isSome && (ko K (.ref C) "__getattribute__"==some (some (.builtin "BaseException.__getattribute__"))) && (ko K (.ref C) "__getattr__"==some none)
 && (ko K (.ref C) "__class__"==some (some (.builtin "object.__class__"))) && (PySem.W.specialIn K (.builtin "object.__class__") "__get__"==some (some (.builtin "getset_descriptor.__get__")))
 && (PySem.W.takesIn K (.builtin "object.__class__")==some true) && (PySem.W.mroIn K C (.type "object")==some true) && (PySem.W.mroIn K C (.type "BaseException")==some true)
 && (PySem.W.mroIn K C (.ref eg)==some true) && PySem.W.excIn K C E7 "ValueError.__new__"
 && (nd K (.ref C) (.ref gN)==some gw) && (nd K (.ref C) (.ref gM)==some bM) && (nd K (.ref C) (.ref cd)==some bY) && (nd K (.ref C) (.ref cR)==some dy)
 && (nd K (.ref C) (.type "ValueError")==some true)
noncomputable def MD(K:a6)(eg:af):Bool:=(PySem.W.typeIn K (.ref eg)==some (.type "type")) && (PySem.W.mroIn K eg (.type "BaseException")==some true) && (PySem.W.clsIn K eg).isSome
structure uJ(K:a6)(eg gN gM cd cR C:af)(j:Nat):Prop where
 ok:qN K C
 mro:PySem.W.mroIn K C (.ref eg)=some true
 new:PySem.W.excIn K C E7 "ValueError.__new__"=true
 kinds:∃bs,Kinds K C gN gM cd cR bs j
def ajU{K:a6}{eg gN gM cd cR C:af}{gw bM bY dy:Bool}{j:Nat}(h:DL K eg gN gM cd cR C gw bM bY dy=true)(one:[gw,bM,bY,dy].countP id=1)(hit:[gw,bM,bY,dy][j]?=some true)(no:∀m,m<j->[gw,bM,bY,dy][m]?=some false):
  uJ K eg gN gM cd cR C j:=by
 unfold DL at h;simp only[iV,beq_iff_eq] at h;obtain⟨⟨⟨⟨⟨⟨⟨⟨⟨⟨⟨⟨⟨⟨ai,ao⟩,bE⟩,c4⟩,f'⟩,p7⟩,ZE⟩,uY⟩,OI⟩,Zy⟩,z_⟩,Zz⟩,ZA⟩,ZC⟩,ZD⟩:=h;exact⟨⟨ai,ao,bE,c4,f',p7,ZE,uY⟩,OI,Zy,_,⟨gw,bM,bY,dy,rfl,z_,Zz,ZA,ZC⟩,ZD,one,hit,no⟩
def alO{K:a6}{eg gN gM cd cR:af}(h:DL K eg gN gM cd cR cd false false true false=true):uJ K eg gN gM cd cR cd 2:=ajU h rfl rfl λm hm=>by
 match m,hm with
|0,_=>rfl
|1,_=>rfl
structure wt(K:a6)(mg:Str->Option aj)(eg gN gM cd cR:af):Prop where
 door:mg "DoorError"=some (.ref eg)
 nz:mg "NoZone"=some (.ref gN)
 nw:mg "NoWay"=some (.ref gM)
 a8:mg "NoDeed"=some (.ref cd)
 nt:mg "NoText"=some (.ref cR)
 nY:mg "isinstance"=none
 val:mg "ValueError"=none
 ok:MD K eg=true
section
variable [cI]{X:aV}{C eg gN gM cd cR:af}{j:Nat}{pos p jY:Pos}
def yM{fe:bq}{c:V}(O:qN X.K C)(z:X.mg "isinstance"=none)(he:bK X (.Name "e" jY) (fB 2))(au:bK X fe (jA c))(bt:ew X "isinstance":=by rfl)
  (av:bB [.Name "e" jY,fe] X.env=(false,eval (.Name "e" jY) X.env)::bB [fe] X.env:=by rfl) (hg:bB [fe] X.env=(false,eval fe X.env)::bB [] X.env:=by rfl)
  (hpl:(dZ pos (bB [fe] X.env)).any (·.1)=false:=by rfl):
  bK X (.Call (.Name "isinstance" p) [.Name "e" jY,fe] [] pos) (tx X.K C c):=C' (alu O) bt z PyProof.Rows.Boot.«isinstance» (fu he (fu au h_ hg) av) (he:=av) (hpl:=hpl)
def akM{body ph:List Stmt}{oN:Stmt}{np pos am9 JW th:Pos}(N:wt X.K X.mg eg gN gM cd cR)(R:uJ X.K eg gN gM cd cR C j)
  (p9:∀(c8:List (af×Obj)) (E:aj->aH->Prop),fT (aV.bears X c8 E) body (amY (vg (iY (jA (.str "told")) (iY (Mo (aV.bears X c8 E) C 0) m4))) (sg 1)))
  (G6:∀ea,fT (aV.rp X ea) (oN::ph) (Mn X.K C gN gM cd cR)) (G2:bK X (.Name "_law_found" th) (fB 1))
  (dp:X.N.Nodup) (aM:X.N[2]?=some ("e":Str):=by rfl) (hlen:X.N.length=4:=by rfl) (rg:X.env.kindOf "e"=some .local:=by rfl) (gW:X.stack=X.env::X.outer:=by rfl) (hf:X.env.frame=some X.env.locals:=by rfl) (bt:ew X "DoorError":=by rfl):
  fT X [.Try body [.ExceptHandler (some (.Name "DoorError" np)) (some "e") (oN::ph) am9] [] [] pos,.Return (some (.Name "_law_found" th)) JW] (Dt X C j):=by
 have ok:=N.ok;unfold MD at ok;simp only[iV,beq_iff_eq] at ok;obtain⟨⟨ai,ao⟩,bE⟩:=ok;obtain⟨bs,bQ⟩:=R.kinds;exact ai5 p9 G6 bQ N.door ai ao R.mro bE G2 dp aM hlen rg gW hf bt
end
end
section
variable [cI]
mutual
noncomputable def ir:T->T->Option Bool
|.int a,.int b=>some (decide (b<a))
|.tuple xs,.tuple ys=>tc xs ys
|_,_=>none
noncomputable def tc:List T->List T->Option Bool
| [],[]=>some false
| [],_::_=>some false
|_::_,[]=>some true
|x::xs,y::ys=>if n' x y then tc xs ys else ir x y
end
noncomputable def M7(A:cH)(s:aH)(y x:aj)(b:Bool):Prop:=
 ∀(prog:cC) (w:b6) (E:aj->aH->Prop) (Q:aj->aH->Prop),Q (.bool b) s->bc (bu prog w) A (richCompare .Gt y x) Q E s
inductive GoodG(A:cH)(s:aH)(fin:Bool):List (aj×aj)->Bool->Prop
|nil:GoodG A s fin [] fin
|eq {y x:aj} {r:List (aj×aj)} {b:Bool}:SeqAt.EqAt A s y x true->GoodG A s fin r b->GoodG A s fin ((y,x)::r) b
|lt {y x:aj} {r:List (aj×aj)} {b:Bool}:SeqAt.EqAt A s y x false->M7 A s y x b->GoodG A s fin ((y,x)::r) b
section
open PySem.SeqAt
open PySem.AutoSeq1 (wpAny_loadPart')
open PySem.MeetsSeq PySem.MeetsSeq2 PySem.MeetsSeq3
def agW(l b:af)(items qe:Array aj)(n gp:Nat)(dd mK:Option af)(cB h2:Array (Option aj))(z:Bool):
  Meets (Builtin.«tuple.__gt__» ⟨[.ref l,.ref b],[]⟩)
   (λA R s=>s.heap.get? l=some {cls:=.type "tuple",dict:=dd,data:=.seq items n,slots:=cB}/\s.heap.get? b=some {cls:=.type "tuple",dict:=mK,data:=.seq qe gp,slots:=h2} /\
    GoodG A.in1 s (decide (qe.size<items.size)) (items.toList.zip qe.toList) z/\R (.ok (.ret (.bool z))) s):=
 .of_wp λprog w A R s h=>by
  obtain⟨aN,g,d,tk,os⟩:=s;obtain⟨aE,aa,bt,h⟩:=h;have f2:=AutoSeq1.sub_tuple_tuple
  wp_walk using wpAny_loadPart' aE,wpAny_loadPart' aa,wpAny_forIn_list _ (λrest b s'=>b.1=none/\s'=⟨aN,g,d,tk,os⟩/\GoodG A.in1 ⟨aN,g,d,tk,os⟩ (decide (qe.size<items.size)) rest z) _
  case turn=>
   rintro⟨y,x⟩ rest b s' ⟨ju,rfl,jT⟩;cases jT with
   |eq he jT=>
    refine aR (he prog w _ _ ?_)
    wp_walk
    exact⟨rfl,rfl,jT⟩
   |lt he e1=>
    refine aR (he prog w _ _ ?_)
    have G3:=e1 prog w
    wp_walk using G3
    exact⟨_,rfl,h⟩
  case fin=>
   rintro⟨bM,bY⟩ s' ⟨ju,rfl,jT⟩;simp only at ju;subst ju;cases jT
   wp_walk
   exact⟨_,rfl,by simpa [Builtin.Tuple.tupleCompareSizes] using h⟩
  case h=>
   exact⟨rfl,rfl,bt⟩
mutual
theorem ajx:∀(p0 db:T) (A:cH) (s:aH) (a b:aj) (as bs:List af) (r:Bool),Reads s.heap a p0 as->Reads s.heap b db bs->p0.canLay0=true->db.canLay0=true->A.units+min p0.depth db.depth<cLine->ir p0 db=some r->M7 A s a b r
|.int i,.int j,A,s,_,_,_,_,r,.int _ t,.int _ u,_,_,_,e=>by
  unfold ir at e;cases e;exact λprog w E Q q=>(PyProof.Rows.gt_int q:bc (bu prog w) A (iz .Gt (.int i t) (.int j u)) Q E s)
|.tuple xs,.tuple ys,A,s,_,_,_,_,r,.tuple (a:=l) (o:=o) (vs:=vs) (n:=n) ai ao bE c4,.tuple (a:=o7) (o:=o') (vs:=fC) (n:=xm) k1 k2 k3 mb,aB,aa,cn,e=>by
  unfold ir at e;simp only[PyData.canLay0] at aB aa;simp only[oa] at cn;have jT:=Rp xs ys A.in1 s vs.toList fC.toList _ _ r c4 mb aB aa (room_in cn) e;obtain⟨cls,dd,data,cB⟩:=o;obtain⟨F0,mK,data2,h2⟩:=o';simp only at ao bE k2 k3;subst ao bE k2 k3;rw[rK,rK] at jT;exact λprog w E Q q=>richCompare_meets_room (op:=.Gt) ⟨_,ai,rfl⟩ ⟨_,k1,rfl⟩ PySem.F.slot_tuple_gt PySem.F.entry_tuple_gt (PySem.F.args_tuple_gt_2 _ _) (agW l o7 vs fC n xm dd mK cB h2 r)
   ⟨ai,k1,jT,show Value.bool r≠Value.notImplemented/\Q (.bool r) s from ⟨(λx=>nomatch x),q⟩⟩ (by omega)
|.none,_,_,_,_,_,_,_,_,_,_,_,_,_,e=>by simp[ir] at e
|.bool _,_,_,_,_,_,_,_,_,_,_,_,_,_,e=>by simp[ir] at e
|.str _,_,_,_,_,_,_,_,_,_,_,_,_,_,e=>by simp[ir] at e
|.list _,_,_,_,_,_,_,_,_,_,_,_,_,_,e=>by simp[ir] at e
|.dict _,_,_,_,_,_,_,_,_,_,_,_,_,_,e=>by simp[ir] at e
|.int _,.none,_,_,_,_,_,_,_,_,_,_,_,_,e=>by simp[ir] at e
|.int _,.bool _,_,_,_,_,_,_,_,_,_,_,_,_,e=>by simp[ir] at e
|.int _,.str _,_,_,_,_,_,_,_,_,_,_,_,_,e=>by simp[ir] at e
|.int _,.list _,_,_,_,_,_,_,_,_,_,_,_,_,e=>by simp[ir] at e
|.int _,.dict _,_,_,_,_,_,_,_,_,_,_,_,_,e=>by simp[ir] at e
|.int _,.tuple _,_,_,_,_,_,_,_,_,_,_,_,_,e=>by simp[ir] at e
|.tuple _,.none,_,_,_,_,_,_,_,_,_,_,_,_,e=>by simp[ir] at e
|.tuple _,.bool _,_,_,_,_,_,_,_,_,_,_,_,_,e=>by simp[ir] at e
|.tuple _,.str _,_,_,_,_,_,_,_,_,_,_,_,_,e=>by simp[ir] at e
|.tuple _,.list _,_,_,_,_,_,_,_,_,_,_,_,_,e=>by simp[ir] at e
|.tuple _,.dict _,_,_,_,_,_,_,_,_,_,_,_,_,e=>by simp[ir] at e
|.tuple _,.int _,_,_,_,_,_,_,_,_,_,_,_,_,e=>by simp[ir] at e
theorem Rp:∀(xs ys:List T) (A:cH) (s:aH) (vs ws:List aj) (as bs:List af) (r:Bool),ReadsAll s.heap vs xs as->ReadsAll s.heap ws ys bs->lG xs=true->lG ys=true->A.units+min (kq xs) (kq ys)<cLine->tc xs ys=some r->GoodG A s (decide (ws.length<vs.length)) (vs.zip ws) r
| [],[],A,s,_,_,_,_,r,.nil,.nil,_,_,_,e=>by
  unfold tc at e;cases e;exact .nil
| [],_::_,A,s,_,_,_,_,r,.nil,.cons _ _,_,_,_,e=>by
  unfold tc at e;cases e;exact GoodG.nil
|_::_,[],A,s,_,_,_,_,r,.cons _ _,.nil,_,_,_,e=>by
  unfold tc at e;cases e;exact GoodG.nil
|x::xs,y::ys,A,s,_,_,_,_,r,.cons bj b_,.cons aP a9,aB,aa,cn,e=>by
  simp only[lG,iV] at aB aa;simp only[kq] at cn;unfold tc at e;have he:=eqAt_reads x y A s _ _ _ _ bj aP aB.1 aa.1 (room_head cn);split at e
  next h=>
   rw[h] at he;have b1:=Rp xs ys A s _ _ _ _ r b_ a9 aB.2 aa.2 (room_tail cn) e;rw[rL];simp only[e_,Nat.add_lt_add_iff_right];exact .eq he b1
  next h=>
   rw[Bool.not_eq_true] at h;rw[h] at he;rw[rL];exact .lt he (ajx x y A s _ _ _ _ r bj aP aB.1 aa.1 (room_head cn) e)
end
end
end
section
variable [cI]
noncomputable def JR:V->List V->aw->c0->Prop:=λx vs H Q=>∃(l:af) (ws:List V) (y:V),x=.ref l/\vs=[]/\H l=some (.lst (ws++[y]))/\Q y (upd H l (.lst ws))
def Uk{X:aV}:wm X "list.pop" JR:=by
 intro ah s σ H x vs v us Q I aS bR h;obtain⟨l,ws,y,rfl,rfl,eF,q⟩:=h;cases aS;cases bR;obtain⟨z,its,n,r,aE,e⟩:=I.A7 eF;have aq:its.length=ws.length+1:=by
  have:=r.length;simp only[kr,e_,jh] at this;omega
 obtain⟨u,cn,c7⟩:=r.get (i:=ws.length) (x:=y) (by simp);have sN:(ws++[y]).eraseIdx ws.length=ws:=by
  rw[List.eraseIdx_append_of_length_le (dS _)];simp
 refine oe PySem.F.slot_list_pop ⟨_,e,rfl⟩ PySem.F.entry_list_pop (PySem.F.args_list_pop_1 _) (PySem.MeetsSeq.list_pop_last l its.toArray n u (by
  rw[d4,aq,Nat.add_sub_cancel];simpa using cn) (by rw[d4,<- aE];exact z)) ⟨e,?_⟩
 have bR:=r.eraseIdx ws.length;rw[sN] at bR;refine⟨y,_,I.A6 (t':=s.toks) (its':=its.eraseIdx ws.length) eF e ?_ bR (by
  have:=r.length;simp only[kr,e_,jh] at this z;omega),c7,q⟩
 unfold Array.eraseIdxIfInBounds;rw[dif_pos (by rw[d4];omega)];simp[aq]
end
section
variable [cI]
noncomputable def v3(kK:g8):List T->Ev->Option Ev
| [],ε=>some ε
|t::ts,ε=>(kK (ε.set 0 (some (.ag t)))).bind λr=>match (r.2[1]?:Option (Option aJ)) with
  |some (some (.own ys))=>if ys.length<big then v3 kK ts (r.2.set 1 (some (.own (ys++[r.1])))) else none
  |_=>none
noncomputable def y5(j:Nat)(it:kz)(kK:g8):bF:=λε=>(it ε).bind λts=>(v3 kK ts (none::some (.own [])::ε)).bind λε'=>match ε' with
|_::some s::ama=>some (.bO (ama.set j (some s)))
|_=>none
def ag2{scope:Scope}{env:Env}{x:Str}(h:scope.names.lookup x=none):(relabel scope env).names.lookup x=none:=by
 show (scope.names.map _).lookup x=none
 generalize scope.names=l at h
 induction l with
|nil=>rfl
|cons p l b1=>
  obtain⟨n,j⟩:=p;rw[kS] at h;split at h
  next=>cases h
  next aa=>
   have:=b1 h;show jC x ((if (j==NameKind.free && env.scope.kind==.function && env.kindOf n==some .cell)=true then (n,NameKind.cell) else (n,j))::_)=none;by_cases au:(j==NameKind.free && env.scope.kind==.function && env.kindOf n==some .cell)=true
   ·rw[if_pos au,kS,aa];exact this
   ·rw[if_neg au,kS,aa];exact this
def cx.Om{K:a6}{aC O F:af->Prop}{E:fR}{H:aw}{ε:Ev}{σ:a7.St}{w:Option V}(r:cx K aC E O F H ε σ):cx K aC E O F H (none::ε) (w::σ):=by
 refine⟨by simp[r.len],λi s e=>?_,λi j s u v1 rF jv aD aL dG eN ai ao=>?_,r.ent,r.o0,r.fr⟩
 ·cases i with
  |zero=>simp at e
  |succ i=>exact r.val i s (by simpa using e)
 ·cases i with
  |zero=>simp at aD
  |succ i=>
   cases j with
   |zero=>simp at aL
   |succ j=>exact r.ne i j s u v1 rF (by omega) (by simpa using aD) (by simpa using aL) dG eN (by simpa using ai) (by simpa using ao)
def cx.kn{K:a6}{aC O F:af->Prop}{E:fR}{H:aw}{ε:Ev}{σ:a7.St}{s:Option aJ}{w:Option V}(r:cx K aC E O F H (s::ε) (w::σ)):cx K aC E O F H ε σ:=
 ⟨by simpa using r.len,λi s e=>by simpa using r.val (i+1) s (by simpa using e),λi j s u v1 rF jv aD aL dG eN ai ao=>r.ne (i+1) (j+1) s u v1 rF (by omega) (by simpa using aD) (by simpa using aL) dG eN (by simpa using ai) (by simpa using ao),r.ent,r.o0,r.fr⟩
structure D1(X:aV)(scope:Scope)(y:Str)(ho:List Str):Prop where
 ok:qL X scope [y] []
 len:ho.length=X.N.length
 a8:(y::("":Str)::ho).Nodup
 _h:scope.names.lookup ("":Str)=none
 own:scope.names.lookup y=some .local
 wD:∀(i:Nat) (x:Str),ho[i]?=some x->scope.names.lookup x=none\/(scope.names.lookup x=some .free/\X.N[i]?=some x)
section
variable {X:aV}{iter elt:bq}{scope:Scope}{it:kz}{kK:g8}{pos py:Pos}{y:Str}{ho:List Str}
def aiD{ah:List (af×Obj)}{σ:a7.St}{ba:aw}{s2:aH}{b8:List af}(S:D1 X scope y ho)(b5:a7.Inv X ah σ ba s2)(f2:∀b∈b8,lY X ah ba b)(hc:∀b∈b8,b<s2.heap.objs.size){eG:bz}{m:Str->Option aj}{tk:Nat}
  (mV:eG.Ns (s2.heap.push {cls:=.type "list",data:=.seq ([]:List aj).toArray}).objs.size m) (keep:∀b u,(s2.heap.push {cls:=.type "list",data:=.seq ([]:List aj).toArray}).get? b=some u->eG.get? b=some u):
  a7.Inv (hl X (y::""::ho) scope (f5 X.env scope.names []) (s2.heap.push {cls:=.type "list",data:=.seq ([]:List aj).toArray}).objs.size {s2 with heap:=s2.heap.push {cls:=.type "list",data:=.seq ([]:List aj).toArray} } (upd ba s2.heap.objs.size (.lst [])) b8 (X.c8++ah)) []
   (none::some (.ref s2.heap.objs.size)::σ) (upd ba s2.heap.objs.size (.lst [])) {s2 with heap:=eG,toks:=tk}:=by
 have lg:∀x∈scope.names,x.2=.free->∃c,X.env.cells.lookup x.1=some c:=λx hx aK=>b5.ok.has x.1 (S.ok.free x hx aK);have nH:∀x c,(f5 X.env scope.names []).lookup x=some c->X.env.cells.lookup x=some c:=vH lg (λx c e=>by simp at e);have dI:=b5.u_ (its:=[]) (ys:=[]) (t':=s2.toks) .nil (kT _);refine⟨Dm S.ok b5 f2 hc _,rfl,b5.bare,fU.kept keep,⟨m,mV,λi x v ai ao bo=>?_⟩,λx c e=>?_,?_,λx c e=>dI.jS x c (nH x c e),λp aN=>?_,dI.bJ.kept keep,by
  show (none::some (V.ref s2.heap.objs.size)::σ).length=(y::""::ho).length
  simp[S.len,b5.len]⟩
 ·have PD:∀z:Str,scope.names.lookup z=none->¬l0 (relabel scope X.env) z:=λz aq q=>by
   have:=ag2 (env:=X.env) aq;unfold l0 at q;rw[this] at q;rcases q with q|q|q <;> cases q
  have o4:l0 (relabel scope X.env) x:=bo;have dF:(y::""::ho)[i]?=some x:=ai
  match i,dF,ao with
  |0,_,ao=>simp at ao
  |1,dF,ao=>
   have:("":Str)=x:=by simpa using dF
   subst this;exact absurd o4 (PD _ S._h)
  |i+2,dF,ao=>
   have hx:ho[i]?=some x:=by simpa using dF
   have bI:σ[i]?=some (some v):=by simpa using ao
   rcases S.wD i x hx with q|⟨hf,dp⟩
   ·exact absurd o4 (PD _ q)
   obtain⟨z,a_,k1,k2⟩:=rT hf;have aK:=S.ok.free z a_ k1;rw[k2] at aK;obtain⟨xk,_y,Ai⟩:=dI.loc;have Ki:l0 X.env.scope x:=by
    rcases aK with aK|aK
    ·exact .inr (.inl aK)
    ·exact .inr (.inr aK)
   obtain⟨u,c7,I2⟩:=Ai i x v dp bI Ki;refine⟨u,c7,.inr ⟨?_,?_⟩⟩
   ·obtain⟨iI,aD,aL⟩:=x_ (env:=X.env) hf;rcases aL with rfl|⟨_,rfl⟩
    ·exact .inr aD
    ·exact .inl aD
   ·rcases I2 with ⟨q,_⟩|⟨_,c,au,q_⟩
    ·rcases aK with aK|aK
     ·rw[aK] at q;cases q
     ·rw[aK] at q;cases q
    ·obtain⟨bW,da⟩:=ua (env:=X.env) (l:=scope.names) (cs:=[]) (x:=x) (.inl ⟨z,a_,k1,k2⟩);have:=nH _ _ da;rw[au] at this;cases this;obtain⟨gD,aF,hd⟩:=q_;exact⟨c,da,gD,keep _ _ aF,hd⟩
 ·obtain⟨v,gD,aF,hd⟩:=dI.cell x c (nH x c e);exact⟨v,gD,keep _ _ aF,hd⟩
 ·exact dI.bJ.fresh (dS _)
 ·have l9:p∈X.c8++ah:=by simpa [hl] using aN
  obtain⟨ai,ao,bE,c4,f'⟩:=dI.pin p l9;refine⟨keep _ _ ai,ao,ez (cT ai),λz=>?_,f'⟩;rcases cM.mp (b5.xF p.1 z) with q|q
  ·exact bE q
  ·exact c4 q
def ahU{X':aV}{R:Result->aH->Prop}{J:k8}{b8:List af}{ta D:af}{g0:Nat->bz->Prop}{aC O aY:af->Prop}{E:fR}{ba:aw}{ts:List T}{y7:Ev}{lS:a7.St}(hx:X'.di=λ_ _=>False)(au:X'.calm=true)
  (dp:X'.N.Nodup) (h0:X'.N[0]?=some y) (a_:Loc X'.env.scope y) (_Z:X'.fn y=true\/X'.env.scope.names.lookup y=some .local) (he:kD X' elt kK)
  (T:Turn X'.prog X'.w X'.K (.Name y py) J b8 ta g0) (n4:∀ae:aw,(∀b∈b8,ae b=none)->∀b∈b8,lY X' [] ae b) (ok:oH X'.K J aY ba ts)
  (fin:∀amU ae aG s1,a7.Inv X' [] (amU::some (.ref D)::lS) ae s1->dU X'.K aY ba aG ae->cx X'.K aC E O aG ae y7 (amU::some (.ref D)::lS)->R (.ok .next) s1)
  {s:aH} {w:Option V} {H:aw} {F:af->Prop} {ε:Ev} (I:a7.Inv X' [] (w::some (.ref D)::lS) H s) (st:g0 0 s.heap) (fr:∀b∈b8,H b=none) (x:dU X'.K aY ba F H) (r:cx X'.K aC E O F H ε (w::some (.ref D)::lS)) (e4:v3 kK ts ε=some y7):
  h7 (bu X'.prog X'.w) X'.A (.compLoop (.ListComp elt [⟨.Name y py,iter,[],0⟩] scope pos) 0 (.ref ta) (.ref D) X'.env) R s:=by
 refine Q2 (λn s'=>∃i fs ae aG ε',n=ts.length - i/\i<=ts.length/\a7.Inv X' [] (fs::some (.ref D)::lS) ae s'/\g0 i s'.heap/\(∀b∈b8,ae b=none)/\dU X'.K aY ba aG ae/\cx X'.K aC E O aG ae ε' (fs::some (.ref D)::lS)/\v3 kK (ts.drop i) ε'=some y7) ?_ ts.length
  ⟨0,w,H,F,ε,rfl,kT _,I,st,fr,x,r,by simpa using e4⟩
 rintro n s3 ⟨i,rG,d6,k4,MS,rfl,aM,dI,rC,q7,fD,iK,fg⟩;by_cases e1:i<ts.length
 ·have hd:ts.drop i=ts[i]::ts.drop (i+1):=List.drop_eq_getElem_cons e1;have ra:ts[i]?=some ts[i]:=hH e1;rw[hd] at fg;simp only[v3,cz] at fg;obtain⟨⟨xH,UQ⟩,ex,fg⟩:=fg;refine eK (T.item X' rfl rfl rfl au i [] s3 (rG::some (.ref D)::lS) d6 (λ_ _=>False) dI (n4 d6 q7) rC (ok.go i k4 d6 _ fD iK.cp ra)) (λbR s4 ⟨u,ax,c4⟩=>?_) λ_ _ z=>z;subst ax;refine eK c4 (λ_ s5 ⟨hG,hQ,nA,tp,xW,n3,wL⟩=>?_) λ_ _ z=>z;obtain⟨lX,xQ,aS⟩:=ok.nf i k4 d6 _ hG hQ fD iK.cp ra xW;have wj:=nA.pinned (n4 hQ wL) (T.obj _ _ n3);refine wpAny_assign_Name (CS wj dp h0 a_ tp (λj0 qO _=>?_) _Z);have qh:=(iK.ext xQ).set 0 aS;change a7.Inv X' ([]++ur b8 s5.heap) (some hG::some (.ref D)::lS) hQ j0 at qO;change cx X'.K aC E O lX hQ (MS.set 0 (some (.ag ts[i]))) (some hG::some (.ref D)::lS) at qh;have again:∀{jo:a7.St} {fc:aw} {eO:aH},a7.Inv X' ([]++ur b8 s5.heap) jo fc eO->g0 (i+1) eO.heap/\(∀b∈b8,fc b=none)/\a7.Inv X' [] jo fc eO:=λ{jo fc eO} gK=>by
   refine⟨T.keep _ _ _ n3 λb aa o e=>(gK.pin (b,o) (lF _ (lF _ (vF aa e)))).1,λb aa=>?_,gK.xK⟩
   obtain⟨o,e,d⟩:=T.obj _ _ n3 b aa;exact (gK.pin (b,o) (lF _ (lF _ (vF aa e)))).2.1
  have w9:=uk (X:=X') _ j0 (some hG::some (.ref D)::lS) hQ (λnF fc=>nF=true/\∃j',Ext lX hQ j' fc) qO ⟨aC,E,O,lX,_,true,qh,rfl,λj' fc n8=>⟨rfl,j',n8⟩⟩;rw[hx] at w9;refine eK w9 (λPI eO ⟨fc,gK,q0,j',n8⟩=>?_) λ_ _ z=>z;subst q0;have tq:=qh.ext n8;simp only[if_true];have mU:=he _ eO (some hG::some (.ref D)::lS) fc (λv kA=>∃jP,dU X'.K j' fc jP kA/\cx X'.K aC E O jP kA UQ (some hG::some (.ref D)::lS)/\Rep X'.K jP kA xH v) gK ⟨aC,E,O,j',_,xH,UQ,tq,ex,λv jP kA rH vc kN=>⟨jP,rH,vc,kN⟩⟩;rw[hx] at mU;refine eK mU (λu8 gZ ⟨n6,kA,wk,aeC,jP,rH,vc,kN⟩=>?_) λ_ _ z=>z;dsimp only at fg;split at fg
  next ys Pa=>
   split at fg
   next aq=>
    obtain⟨v,ai,a,vs,rfl,n,i2,cD,ax⟩:=vc.val 1 _ Pa;have:D=a:=by simpa using ai
    subst this;obtain⟨H3,JP⟩:=vc.mut (s':=.own (ys++[xH])) (o':=.lst (vs++[n6])) Pa rfl ai n i2 cD (.inl ⟨_,rfl⟩) λaz=>⟨D,_,rfl,n,i2,dM,(ax.az az).append (bl.cons (kN.az az) bl.nil)⟩;have aB:=Lr (X:=X') _ gZ (some hG::some (.ref D)::lS) kA (.ref D) [n6] (.ref D) [u8] (λ_ wi=>wi=upd kA D (.lst (vs++[n6]))) wk rfl (.cons aeC .nil) ⟨D,vs,n6,rfl,rfl,cD,by rw[lK,<- ax.length];exact aq,rfl⟩;rw[hx] at aB;refine eK aB (λu9 ve ⟨v9,wi,D3,aep,q1⟩=>?_) λ_ _ z=>z;subst q1;obtain⟨a1,a2,d0⟩:=again D3;exact⟨_,by omega,i+1,some hG,_,jP,_,rfl,e1,d0,a1,a2,(((fD.trans xQ.az).trans n8.az).trans rH).trans H3,JP,fg⟩
   next=>cases fg
  next=>cases fg
 ·have hd:ts.drop i=[]:=List.drop_eq_nil_of_le (by omega);rw[hd] at fg;cases fg;refine eK (T.done X' rfl rfl rfl au i [] s3 (rG::some (.ref D)::lS) d6 (λ_ _=>False) dI (n4 d6 q7) rC (ok.stop i k4 d6 fD (by omega))) (λbR s4 ⟨ax,jQ⟩=>?_) λ_ _ z=>z;subst ax;exact fin rG d6 k4 s4 jQ fD iK
def Tg(j:Nat){x:Str}{hD pf:Pos}(dp:X.N.Nodup)(S:D1 X scope y ho)(hit:oI X (.Name y py) iter it)
  (he:∀cl C c_ aT b8 c8,kD (hl X (y::("":Str)::ho) scope cl C c_ aT b8 c8) elt kK)
  (aM:X.N[j]?=some x:=by rfl) (hx:Loc X.env.scope x:=by first|exact Or.inl rfl|exact Or.inr rfl)
  (l_:amF (.ListComp elt [⟨.Name y py,iter,[],0⟩] scope pos) (some (.Name x hD)) pf.line X.env=pure true:=by rfl)
  (hf:X.fn x=true\/X.env.scope.names.lookup x=some .local:=by first|exact .inl rfl|exact .inr rfl)
  (av:∀x,am1 iter X.env x=pure x:=by intro _;rfl):
  gs X (.Assign [.Name x hD] (.ListComp elt [⟨.Name y py,iter,[],0⟩] scope pos) pf) (y5 j it kK):=by
 intro ah s σ H D I ⟨aC,E,O,F,ε,o,r,e,k⟩;simp only[y5,cz] at e;obtain⟨ts,bC,y7,e4,e⟩:=e;rw[exec_Assign_Name_used _ _ _ _ l_];refine aR (wpAny_standAt (aR ?_));show bc _ X.A (do let _ <- comprehension (.ListComp elt [⟨.Name y py,iter,[],0⟩] scope pos) scope X.env _ (newList []) false (eval iter X.env) (some (assign (.Name x hD) X.env))) _ _ s;have lg:∀z∈scope.names,z.2=.free->∃c,X.env.cells.lookup z.1=some c:=λz aq aK=>I.ok.has z.1 (S.ok.free z aq aK);refine aR (cJ (Q:=λ_ s'=>a7.oK X ah D .next s') ?_ λ_ s' bb=>cf (cf bb));refine wpAny_comprehension_free rfl av (Ck lg) S.ok.kind S.ok.names (cJ (hit ah s σ H (λJ H1=>∃aY,Ext F H aY H1/\oH X.K J aY H1 ts) I ⟨aC,E,O,F,ε,ts,r,bC,λJ aY H1 aO ok=>⟨aY,aO,ok⟩⟩) λv s1 ai=>cJ ai λAr s2 ao=>?_);obtain⟨ta,b8,g0,J,ba,rfl,b5,T,jc,f2,aY,aO,ok⟩:=ao;have hc:∀b∈b8,b<s2.heap.objs.size:=λb aa=>by
  obtain⟨o,aF,_⟩:=T.obj 0 _ jc b aa;exact cT aF
 have mQ:ba s2.heap.objs.size=none:=b5.fresh;have abo:¬aY s2.heap.objs.size:=λz=>by
  obtain⟨o,e⟩:=aO.cp _ z;rw[mQ] at e;cases e
 have iO:(s2.heap.push {cls:=.type "list",data:=.seq ([]:List aj).toArray}).objs.size=s2.heap.objs.size+1:=kp ..;refine wpAny_newList ?_ (kT _);refine BQ S.ok.cell (by intro y a_;simp at a_) (λeG GW G4=>?_) S.ok.kind;have keep:∀b u,(s2.heap.push {cls:=.type "list",data:=.seq ([]:List aj).toArray}).get? b=some u->eG.get? b=some u:=λb u e=>G4.extBut b u (ez (cT e)) (cZ _ e);have jQ:=aiD (tk:=s2.toks+0) S b5 f2 hc GW keep;have b_:=r.ext aO;have lay:Ext aY ba aY (upd ba s2.heap.objs.size (.lst [])):=Ext.laid aO.cp mQ;have mY:cx X.K aC E O aY (upd ba s2.heap.objs.size (.lst [])) (none::some (.own [])::ε) (none::some (.ref s2.heap.objs.size)::σ):=
  (cx.Om (w:=none) (cx.Om (w:=none) b_)).P2 (s:=.own []) 1 lay ⟨_,[],rfl,abo,b_.fr _ mQ,dM,bl.nil⟩ λb aa=>by
   have:b=s2.heap.objs.size:=by simpa [dz,hZ] using aa
   rw[this];exact mQ
 have loc:Loc (relabel scope X.env) y:=by
  obtain⟨iI,aD,aL⟩:=x_ (env:=X.env) S.own;rcases aL with rfl|⟨q,_⟩
  ·exact .inl aD
  ·cases q
 have abi:(relabel scope X.env).names.lookup y=some .local:=by
  obtain⟨iI,aD,aL⟩:=x_ (env:=X.env) S.own;rcases aL with rfl|⟨q,_⟩
  ·exact aD
  ·cases q
 refine codeAny_compStart_list ?loop (T.self _ 0 _ _ _ (T.keep 0 _ _ jc λb aa o e=>keep b o (cZ _ e)) ?loop)
 refine ahU (X':=hl X (y::("":Str)::ho) scope (f5 X.env scope.names []) (s2.heap.push {cls:=.type "list",data:=.seq ([]:List aj).toArray}).objs.size {s2 with heap:=s2.heap.push {cls:=.type "list",data:=.seq ([]:List aj).toArray} } (upd ba s2.heap.objs.size (.lst [])) b8 (X.c8++ah))
  rfl S.ok.calm S.a8 rfl loc (.inr abi) (he _ _ _ _ _ _) T (λae a5 b aa=>?_) ok (λamU ae aG s1 sr hG cq=>?_) jQ (T.keep 0 _ _ jc λb aa o e=>keep b o (cZ _ e)) (λb aa=>?_) lay.az mY e4
 ·have tj:=Dm S.ok b5 f2 hc (y::("":Str)::ho);refine⟨a5 b aa,(tj.q5 b aa).1,tj.q6 b aa,.inl aa,λx c e=>(tj.q5 b aa).2 x c e,λp aN=>?_⟩;have l9:p∈X.c8++ah:=by simpa [hl] using aN
  exact (f2 b aa).2.2.2.2.2 p l9
 ·obtain⟨m,a5,_⟩:=id sr.loc;have inv:∀h',Heap.SameBut (s2.heap.push {cls:=.type "list",data:=.seq ([]:List aj).toArray}).objs.size s1.heap h'->a7.Inv X ah σ ae {s1 with heap:=h'}:=λh' iM=>RR b5 f2 sr iM;have above:X.c_.heap.objs.size<=(s2.heap.push {cls:=.type "list",data:=.seq ([]:List aj).toArray}).objs.size:=by
   rw[iO];exact Nat.le_succ_of_le b5.iO
  have cells:∀x c,X.env.cells.lookup x=some c->c≠(s2.heap.push {cls:=.type "list",data:=.seq ([]:List aj).toArray}).objs.size:=λx c e z=>by
   obtain⟨v,q⟩:=b5.cell x c e;have:=q.lt;rw[z,iO] at this;exact absurd this (Nat.not_lt.mpr (mu _))
  have pin:∀p∈X.c8++ah,p.1≠(s2.heap.push {cls:=.type "list",data:=.seq ([]:List aj).toArray}).objs.size:=λp aN z=>by
   have:=cT (b5.pin p aN).1;rw[z,iO] at this;exact absurd this (Nat.not_lt.mpr (mu _))
  have Pn:(s2.heap.push {cls:=.type "list",data:=.seq ([]:List aj).toArray}).objs.size≠X.env.locals:=by
   have:=b5.lt;rw[iO];exact hI (Nat.lt_succ_of_lt this)
  have free:ae (s2.heap.push {cls:=.type "list",data:=.seq ([]:List aj).toArray}).objs.size=none:=sr.free;have D4:a7.Inv X ah σ ae s1:=inv s1.heap (Heap.SameBut.refl ..);generalize (s2.heap.push {cls:=.type "list",data:=.seq ([]:List aj).toArray}).objs.size=C at *;show bc _ X.A (assign (.Name x hD) X.env (.ref s2.heap.objs.size)) _ _ _;refine wpAny_assign_Name (CS (v:=.ref s2.heap.objs.size) D4 dp aM hx rfl (λs3 dI ⟨b,iM,aa⟩=>?_) hf);have nb:C≠b:=by
   rcases aa with rfl|aa
   ·exact Pn
   ·exact (cells x b aa).symm
  refine⟨m,a5.sameBut iM nb,λh' J2=>?_⟩
  have nA:a7.Inv X ah (σ.set j (some (.ref s2.heap.objs.size))) ae {s3 with heap:=h'}:=dI.turned (t':=s3.toks) (it:=C) (λb o aa e=>J2.extBut b o aa e) free Pn (.inr above) cells pin;refine⟨_,ae,nA,?_⟩
  match y7,cq,e with
  |s0::some cB::jn,cq,e=>
   cases e
   refine k _ aG ae (aO.az.trans hG) ?_
   obtain⟨v,bo,rs⟩:=cq.val 1 cB rfl;have:V.ref s2.heap.objs.size=v:=by simpa using bo
   subst this;refine cq.kn.kn.setG j rs λaF i u w amn aD dG ai=>?_;exact cq.ne 1 (i+2) cB u _ w (by omega) rfl (by simpa using aD) aF dG rfl (by simpa using ai)
 ·have:=(f2 b aa).1;rw[cK (ez (hc b aa))];exact this
end
section
variable {X:aV}{k n c C:Nat}{ns:List Str}{d:List aJ->Option T}{x:Str}{p pos:Pos}{o:bq}{p6:pP}
def ai3(fV:fw X.K c C ns)(ie:qK X.prog X.w X.K X.mg X.base x k n d)(ax:c2 k X.A)(aF:uI X o p6)(bt:ew X x:=by rfl)(a5:1=n:=by rfl)(gn:(x==("__debug__":Str))=false:=by decide)
  (he:bB [o] X.env=(false,eval o X.env)::bB [] X.env:=by rfl) (hpl:(dZ pos (bB [] X.env)).any (·.1)=false:=by rfl):cQ X (.Call (.Name x p) [o] [] pos) (pd c d p6 []):=by
 obtain⟨bT,fd,ps,F,hm,az,b⟩:=ie.ex;refine ee (yB F ax bt hm az b .nil ow (fu aF h_ he) gn he hpl) λσ H Q ⟨aC,E,O,F,ε,t,r,e,k⟩=>?_;simp only[pd,cz] at e;obtain⟨s,es,os,eE,ts,bC,ff⟩:=e;cases bC;have:=K1 eE;subst this;refine⟨aC,E,O,F,ε,_,r,es,λa aY H1 aO rs O0=>?_⟩;refine⟨by simp[a5],aY,_,t,aO.cp,.cons ⟨rfl,v8 rs _ _ λb aa=>?_⟩ .nil,ff,λv aG ae bZ a9=>k v aG ae (aO.trans bZ) a9⟩;obtain⟨o,e,_⟩:=rs.at aa;show H1 b≠none;rw[e];exact λz=>by cases z
end
noncomputable def Ut(scope:Scope)(N:List Str)(y:Str)(ho:List Str):Bool:=
 decide (ho.length=N.length) && decide ((y::("":Str)::ho).Nodup) && decide (scope.names.lookup ("":Str)=none) && decide (scope.names.lookup y=some .local) &&
  (ho.zip N).all λp=>decide (scope.names.lookup p.1=none) || (decide (scope.names.lookup p.1=some .free) && decide (p.1=p.2))
def TF{X:aV}{scope sc:Scope}{y:Str}{ho:List Str}(N:List Str)(u5:X.env.scope=sc)(dp:X.N=N)(au:X.calm=true)(h:MQ scope sc N []=true)(ao:Ut scope N y ho=true):D1 X scope y ho:=by
 simp only[Ut,iV,decide_eq_true_eq] at ao;obtain⟨⟨⟨⟨ai,ao⟩,bE⟩,c4⟩,f'⟩:=ao;refine⟨Us N u5 dp au h,by rw[dp];exact ai,ao,bE,c4,λi x hx=>?_⟩;have aM:=(gH.mp hx).1;have p':i<N.length:=by rw[<- ai];exact aM
 have aq:(ho.zip N)[i]?=some (x,N[i]):=by
  rw[List.getElem?_zip_eq_some];exact⟨hx,hH p'⟩
 have:=List.all_eq_true.mp f' _ (tJ aq);simp only[Bool.or_eq_true,iV,decide_eq_true_eq] at this;rcases this with q|⟨aP,a9⟩
 ·exact .inl q
 ·refine .inr ⟨aP,?_⟩
  rw[dp,hH p',<- a9]
end
end D
end
section
namespace cb
open D
noncomputable def Sx:bF:=
  (seq (gU (fO (ar bg (nm 0) (ak (.int 0)))) (cw 2) (iff (bS (ar oEq (ar bg (nm 2) (ak (.int 0))) (nm 1))) (cP (ar bg (nm 2) (ak (.int 1)))) skip))
  se)
def qx:List T->Option T:=eJ Sx 3
noncomputable def TN:bF:=
  (seq (asg 1 (b9 g6 [(comp 1 [] (fO (ar bg (nm 0) (ak (.int 0)))) (cw 0) (f6 true) (ak (.str "shut")))])) (seq (asg 2 (b9 g6 [(comp 1 [] (fO (ar bg (nm 0) (ak (.int 1)))) (cw 0) (f6 true) (ak (.int 0)))])) (cP (bV [(ak (.str "off")),(ak (.int 0)),(ak .none),(aZ 1),(bV []),(ak (.int 0)),(bV []),(ak (.int 0)),(ak (.int 0)),(aZ 2)]))))
def qD:List T->Option T:=eJ TN 3
noncomputable def Sy:bF:=
  (seq (gU (fO (ar bg (nm 0) (ak (.int 1)))) (cw 2) (iff (bS (ar oEq (ar bg (nm 2) (ak (.int 0))) (nm 1))) (cP (nm 2)) skip)) (cP (ak .none)))
def yr:List T->Option T:=eJ Sy 3
noncomputable def RT:bF:=
  (cP (b9 xq [(ar nZ (nm 0) (nm 1)),(ak (.int 0))]))
def t2:List T->Option T:=eJ RT 2
noncomputable def QA:bF:=
  (seq (eV 0 0 0 (aZ 1)) (seq (eV 0 0 1 (ar bg (nm 2) (ak (.int 0)))) (seq (eV 0 0 2 (ar bg (nm 2) (ak (.int 1)))) (seq (eV 0 0 3 (ar bg (nm 2) (ak (.int 2)))) (seq (wc 0 0 4 (comp 1 [] (fO (ar bg (nm 1) (ak (.int 0)))) (cw 0) (f6 true) (ar bg (nm 0) (ak (.int 0)))) (ar bg (nm 2) (ak (.int 3)))) (seq (j9 0 0 5 (e7 vY (ar bg (nm 2) (ak (.int 4))))) (seq (eV 0 0 6 (ar bg (nm 2) (ak (.int 5)))) (seq (j9 0 0 7 (e7 vY (ar bg (nm 2) (ak (.int 6))))) (seq (eV 0 0 8 (ar bg (nm 2) (ak (.int 7)))) (seq (eV 0 0 9 (ar bg (nm 2) (ak (.int 8)))) (seq (wc 0 0 10 (comp 1 [] (fO (ar bg (nm 1) (ak (.int 1)))) (cw 0) (f6 true) (ar bg (nm 0) (ak (.int 0)))) (ar bg (nm 2) (ak (.int 9)))) (seq (eV 0 0 11 (ak (.int 0))) (j9 0 0 12 (g7 []))))))))))))))
noncomputable def x4:List aJ->Option (T×List aJ):=runM 0 0 QA 3
noncomputable def QK:bF:=
  (seq (asg 1 (y4 0 0 4)) (seq (asg 2 (b9 g6 [(fld 0 0 5)])) (seq (asg 3 (b9 g6 [(fld 0 0 7)])) (seq (asg 4 (y4 0 0 10)) (cP (bV [(fL 0 0 1),(fL 0 0 2),(fL 0 0 3),(aZ 1),(aZ 2),(fL 0 0 6),(aZ 3),(fL 0 0 8),(fL 0 0 9),(aZ 4)]))))))
noncomputable def x':List aJ->Option T:=gE QK 5
noncomputable def QP:bF:=
  (l2 0 0 12 (bV [(fL 0 0 11),(aZ 1),(aZ 2)]))
noncomputable def gf:List aJ->Option (T×List aJ):=runM 0 0 QP 3
noncomputable def QE:bF:=
  (eV 0 0 6 (ar bg (ar bg (fld 0 0 0) (ak (.int 2))) (ak (.int 2))))
noncomputable def tU:List aJ->Option (T×List aJ):=runM 0 0 QE 1
noncomputable def KR:bF:=
  (seq (dj (cS 0 tU 0 [])) (iff (bS (ar (gQ true) (nm 1) (fld 0 0 7))) (seq (l2 0 0 7 (aZ 1)) (dj (cS 0 gf 0 [(ak (.str "alarm")),(aZ 1)]))) skip))
noncomputable def lH:List aJ->Option (T×List aJ):=runM 0 0 KR 2
noncomputable def B7:bF:=
  (seq (iff (fA (bS (ar fW (nm 2) (ak (.str "way")))) (bS (ar oLe (ar bg (ar bg (fld 0 0 0) (ak (.int 2))) (ak (.int 1))) (ak (.int 0))))) (seq (dj (cS 0 lH 0 [(aZ 1)]))
  qG) skip) (seq (eV 0 0 1 (ak (.str "coming"))) (seq (eV 0 0 2 (ar bg (ar bg (fld 0 0 0) (ak (.int 2))) (ak (.int 1)))) (seq (eV 0 0 3 (aZ 1)) (dj (cS 0 gf 0 [(ak (.str "coming")),(aZ 1)]))))))
noncomputable def tT:List aJ->Option (T×List aJ):=runM 0 0 B7 3
noncomputable def QD:bF:=
  (seq (asg 3 (b9 qx [(fL 0 0 0),(aZ 1)])) (iff (bS (ar oEq (nm 3) (ak (.str "day")))) (dj (cS 0 lH 0 [(aZ 1)])) (iff (bS (ar oEq (fld 0 0 1) (ak (.str "off")))) (iff (bS (ar oEq (nm 2) (ak (.str "cut")))) (dj (cS 0 gf 0 [(ak (.str "fault")),(aZ 1)])) skip) (iff (fA (bS (ar oEq (nm 2) (ak (.str "cut")))) (bS (ar oEq (nm 3) (ak (.str "once"))))) (dj (cS 0 lH 0 [(aZ 1)])) (iff (bS (ar oEq (fld 0 0 1) (ak (.str "on")))) (dj (cS 0 tT 0 [(aZ 1),(aZ 3)])) skip)))))
noncomputable def x5:List aJ->Option (T×List aJ):=runM 0 0 QD 4
noncomputable def QQ:bF:=
  (seq (asg 3 (nQ 0 0 4 (nm 1))) (seq (iff (bS (ar oEq (nm 2) (nm 3))) qG skip) (seq (sb 0 0 4 (nm 1) (aZ 2)) (iff (bS (ar oEq (nm 2) (ak (.str "shut")))) (iff (bS (ar oEq (nm 3) (ak (.str "cut")))) (dj (cS 0 gf 0 [(ak (.str "mended")),(aZ 1)])) skip) (iff (bS (ar (gQ true) (nm 1) (fld 0 0 5))) (dj (cS 0 x5 0 [(aZ 1),(aZ 2)])) skip)))))
noncomputable def yc:List aJ->Option (T×List aJ):=runM 0 0 QQ 4
noncomputable def Kx:bF:=
  (cP (nE (ar fW (ar bg (nm 1) (ak (.int 3))) (ak (.int 0))) (ar u' (nQ 0 0 10 (ar bg (nm 1) (ak (.int 0)))) (ar bg (nm 1) (ak (.int 3))))))
noncomputable def vy:List aJ->Option T:=gE Kx 2
noncomputable def Kv:bF:=
  (seq (dj (cS 0 gf 0 [(ak (.str "wrong")),(ak .none)])) (seq (pW 0 0 8 (ak (.int 1))) (iff (bS (ar u' (fld 0 0 8) (ak (.int 3)))) (seq (eV 0 0 8 (ak (.int 0))) (seq (eV 0 0 9 (ak (.int 90))) (seq (dj (cS 0 tU 0 [])) (dj (cS 0 gf 0 [(ak (.str "attack")),(ak .none)]))))) skip)))
noncomputable def vw:List aJ->Option (T×List aJ):=runM 0 0 Kv 1
noncomputable def tQ:bF:=
  (seq (iff (bS (ar oEq (nm 1) (ak (.str "unset")))) (cP (ak (.bool false))) skip) (seq (iff (bS (ar fW (fld 0 0 1) (ak (.str "off")))) (cP (ak (.bool true))) skip) (seq (iff (bS (ar oEq (nm 1) (ak (.str "shunt")))) (cP (xu (ar oEq (b9 qx [(fL 0 0 0),(aZ 2)]) (ak (.str "day"))) (ar (gQ false) (nm 2) (fld 0 0 5)))) skip) (cP (nE (ar oEq (nm 1) (ak (.str "free"))) (ar (gQ true) (nm 2) (fld 0 0 5)))))))
noncomputable def pA:List aJ->Option T:=gE tQ 3
noncomputable def Qx:bF:=
  (seq (asg 2 (comp 1 [1] (fO (ar bg (fld 0 0 0) (ak (.int 0)))) (cw 0) (bS (ar (gQ false) (ar bg (nm 0) (ak (.int 1))) (nm 1))) (ar bg (nm 0) (ak (.int 0))))) (cP (comp 1 [0] (fO (aZ 2)) (cw 0) (iF (bS (ar fW (nQ 0 1 4 (nm 0)) (ak (.str "shut")))) (bS (ar (gQ true) (nm 0) (fld 0 1 5)))) (aZ 0))))
noncomputable def tS:List aJ->Option T:=gE Qx 3
noncomputable def Qp:bF:=
  (seq (asg 4 (qd (bS (ar oEq (nm 2) (ak (.str "free")))) (ak (.str "shunt")) (aZ 2))) (seq (iff (bS (ar (gQ true) (nm 4) (ar bg (nm 1) (ak (.int 2))))) (cP (bV [(ak (.str "denied")),(ar bg (nm 1) (ak (.int 1)))])) skip) (seq (iff (bS (ef 0 pA 0 [(aZ 2),(aZ 3)])) (cP (bV [(ak (.str "no")),(ar bg (nm 1) (ak (.int 1)))])) skip) (seq (asg 5 (ef 0 tS 0 [(ak (.tuple (jI ["day","once"])))])) (seq (iff (iF (bS (ar oEq (nm 2) (ak (.str "set")))) (iy (nm 5))) (cP (bV [(ak (.str "open")),(ar bg (nm 5) (ak (.int 0)))])) skip) (cP (ak .none)))))))
noncomputable def xX:List aJ->Option T:=gE Qp 6
noncomputable def Qu:bF:=
  (seq (eV 0 0 1 (ak (.str "on"))) (seq (eV 0 0 2 (ak (.int 0))) (seq (dj (cS 0 gf 0 [(ak (.str "on")),(ak .none)])) (gU (fO (ef 0 tS 0 [(ak (.tuple (jI ["inner","way"])))])) (cw 1) (dj (cS 0 lH 0 [(aZ 1)]))))))
noncomputable def tP:List aJ->Option (T×List aJ):=runM 0 0 Qu 2
noncomputable def KO:bF:=
  (seq (j9 0 0 7 (g7 [])) (seq (eV 0 0 6 (ak (.int 0))) (seq (eV 0 0 1 (ak (.str "leaving"))) (seq (eV 0 0 2 (ar bg (ar bg (fld 0 0 0) (ak (.int 2))) (ak (.int 0)))) (seq (dj (cS 0 gf 0 [(ak (.str "set")),(aZ 1)])) (iff (bS (ar oLe (fld 0 0 2) (ak (.int 0)))) (dj (cS 0 tP 0 [])) skip))))))
noncomputable def vB:List aJ->Option (T×List aJ):=runM 0 0 KO 2
noncomputable def Qz:bF:=
  (seq (eV 0 0 1 (ak (.str "off"))) (seq (eV 0 0 2 (ak (.int 0))) (seq (eV 0 0 6 (ak (.int 0))) (seq (eV 0 0 3 (ak .none)) (seq (j9 0 0 5 (g7 [])) (dj (cS 0 gf 0 [(ak (.str "unset")),(aZ 1)])))))))
noncomputable def x3:List aJ->Option (T×List aJ):=runM 0 0 Qz 2
noncomputable def x7:bF:=
  (iff (bS (ar oEq (nm 2) (ak (.str "set")))) (dj (cS 0 vB 0 [(aZ 1)])) (iff (bS (ar oEq (nm 2) (ak (.str "unset")))) (dj (cS 0 x3 0 [(aZ 1)])) (iff (bS (ar oEq (nm 2) (ak (.str "shunt")))) (seq (j9 0 0 5 (e7 Dc (ar ek (fld 0 0 5) (g7 [(aZ 3)])))) (dj (cS 0 gf 0 [(ak (.str "shunt")),(aZ 3)]))) (seq (Bj 0 0 5 (aZ 3)) (dj (cS 0 gf 0 [(ak (.str "free")),(aZ 3)]))))))
noncomputable def rN:List aJ->Option (T×List aJ):=runM 0 0 x7 4
noncomputable def Kw:bF:=
  (seq (asg 4 (ef 0 xX 0 [(aZ 1),(aZ 2),(aZ 3)])) (iff (bS (e7 jX (nm 4))) (seq (sj 0 0 10 (ar bg (nm 1) (ak (.int 0))) (ak (.int 1))) (dj (cS 0 rN 0 [(ar bg (nm 1) (ak (.int 1))),(aZ 2),(aZ 3)]))) (dj (cS 0 gf 0 [(ar bg (nm 4) (ak (.int 0))),(ar bg (nm 4) (ak (.int 1)))]))))
noncomputable def vx:List aJ->Option (T×List aJ):=runM 0 0 Kw 5
noncomputable def yd:bF:=
  (seq (asg 4 (b9 yr [(fL 0 0 0),(aZ 1)])) (iff (bS (ar i8 (fld 0 0 9) (ak (.int 0)))) (dj (cS 0 gf 0 [(ak (.str "locked")),(ak .none)])) (iff (fA (bS (e7 jX (nm 4))) (bS (ef 0 vy 0 [(aZ 4)]))) (dj (cS 0 vw 0 [])) (seq (eV 0 0 8 (ak (.int 0))) (dj (cS 0 vx 0 [(aZ 4),(aZ 2),(aZ 3)]))))))
noncomputable def rR:List aJ->Option (T×List aJ):=runM 0 0 yd 5
noncomputable def Qw:bF:=
  (seq (pW 0 0 11 (aZ 1)) (seq (eV 0 0 9 (b9 t2 [(fL 0 0 9),(aZ 1)])) (seq (eV 0 0 6 (b9 t2 [(fL 0 0 6),(aZ 1)])) (eV 0 0 2 (b9 t2 [(fL 0 0 2),(aZ 1)])))))
noncomputable def tR:List aJ->Option (T×List aJ):=runM 0 0 Qw 2
noncomputable def Qv:bF:=
  (seq (asg 1 (fL 0 0 3)) (seq (eV 0 0 1 (ak (.str "on"))) (seq (eV 0 0 3 (ak .none)) (dj (cS 0 lH 0 [(aZ 1)])))))
noncomputable def xZ:List aJ->Option (T×List aJ):=runM 0 0 Qv 2
noncomputable def KC:bF:=
  (iff (bS (ar oEq (fld 0 0 1) (ak (.str "leaving")))) (dj (cS 0 tP 0 [])) (dj (cS 0 xZ 0 [])))
noncomputable def vA:List aJ->Option (T×List aJ):=runM 0 0 KC 1
noncomputable def ya:bF:=
  (seq (iff (bS (ar oLt (nm 1) (ak (.int 1)))) qG skip) (iff (iF (bS (ar (gQ false) (fld 0 0 1) (bV [(ak (.str "leaving")),(ak (.str "coming"))]))) (bS (ar oLe (fld 0 0 2) (nm 1)))) (seq (asg 2 (ar nZ (nm 1) (fld 0 0 2))) (seq (dj (cS 0 tR 0 [(fL 0 0 2)])) (seq (dj (cS 0 vA 0 [])) (dj (cS 0 tR 0 [(aZ 2)]))))) (dj (cS 0 tR 0 [(aZ 1)]))))
noncomputable def rQ:List aJ->Option (T×List aJ):=runM 0 0 ya 3
noncomputable def B':bF:=
  (iff (bS (ar oEq (ar bg (nm 1) (ak (.int 0))) (ak (.str "line")))) (dj (cS 0 yc 0 [(ar bg (nm 1) (ak (.int 1))),(ar bg (nm 1) (ak (.int 2)))])) (iff (bS (ar oEq (ar bg (nm 1) (ak (.int 0))) (ak (.str "code")))) (dj (cS 0 rR 0 [(ar bg (nm 1) (ak (.int 1))),(ar bg (nm 1) (ak (.int 2))),(ar bg (nm 1) (ak (.int 3)))])) (dj (cS 0 rQ 0 [(ar bg (nm 1) (ak (.int 1)))]))))
noncomputable def rO:List aJ->Option (T×List aJ):=runM 0 0 B' 2
noncomputable def K':bF:=
  (seq (qV 3 (lq 0 x4 [(aZ 0),(aZ 1)])) (seq (gU (fO (aZ 2)) (cw 4) (dj (cS 0 rO 3 [(aZ 4)]))) (xA 3)))
def pD:List T->Option aJ:=amX K' 5
noncomputable def TM:bF:=
  (cP (b9 g6 [(vO 0 12 (sh pD [(aZ 0),(aZ 1),(aZ 2)]))]))
def yE:List T->Option T:=eJ TM 3
noncomputable def Mk:bF:=
  (seq (asg 2 (comp 2 [] (DQ (jk (ar bg (nm 0) (ak (.int 0)))) (jk (ar bg (nm 1) (ak (.int 3))))) (fp [(cw 0),(cw 1)]) (bS (ar fW (nm 1) (ak (.str "shut")))) (ar bg (nm 0) (ak (.int 0))))) (cP (bV [(ar bg (nm 1) (ak (.int 0))),(ar i8 (ar bg (nm 1) (ak (.int 5))) (ak (.int 0))),(b9 g6 [(nm 2)])])))
def vP:List T->Option T:=eJ Mk 3
end cb
end
section
namespace cb
open D cb
noncomputable def Uu:bF:=
  (cP (pd 0 x' (sh pD [(aZ 0),(aZ 1),(bV [(aZ 2)])]) []))
def yU:List T->Option T:=eJ Uu 3
noncomputable def TL:bF:=
  (cP (b9 g6 [(comp 3 [] (fO (vO 0 12 (sh pD [(aZ 0),(aZ 1),(bV [(aZ 2)])]))) (fp [(cw 0),(cw 1),(cw 2)]) (f6 true) (bV [(aZ 1),(aZ 2)]))]))
def yD:List T->Option T:=eJ TL 3
noncomputable def K_:bF:=
  (seq (iff (bS (ar oLt (nm 1) (b9 gC [(nm 0)]))) (cP (ar bg (nm 0) (nm 1))) skip) (cP (ak (.int 0))))
def tX:List T->Option T:=eJ K_ 2
noncomputable def LF:bF:=
  (seq (asg 2 (ar oMod (ar gX (ar ek (ar ek (b9 tX [(aZ 0),(aZ 1)]) (ar gX (ak (.int 7919)) (nm 1))) (ak (.int 1))) (ak (.int 48271))) (ak (.int 2147483647)))) (cP (ar oMod (ar ek (ar ek (ar gX (nm 2) (nm 2)) (ar gX (ak (.int 7)) (nm 2))) (nm 1)) (ak (.int 2147483629)))))
def rV:List T->Option T:=eJ LF 3
noncomputable def LG:bF:=
  (seq (asg 2 (ar oMod (ar gX (ar ek (ar ek (nm 0) (ar gX (ak (.int 104729)) (nm 1))) (ak (.int 17))) (ak (.int 69621))) (ak (.int 2147483647)))) (cP (ar oMod (ar ek (ar ek (ar gX (nm 2) (nm 2)) (ar gX (ak (.int 3)) (nm 2))) (nm 1)) (ak (.int 2147483629)))))
def kV:List T->Option T:=eJ LG 3
noncomputable def ajI:bF:=
  (seq (asg 1 (bV [])) (seq (gU (nq (jk (bV [(ak (.str "a")),(ak (.str "b")),(ak (.str "back")),(ak (.str "d")),(ak (.str "hall")),(ak (.str "r")),(ak (.str "win")),(ak (.str "z"))]))) (fp [(cw 2),(cw 3)]) (seq (asg 4 (ar oDiv (b9 kV [(aZ 0),(aZ 2)]) (ak (.int 4)))) (iff (fA (bS (ar oLt (ar oMod (nm 4) (ak (.int 8))) (ar ek (ak (.int 3)) (ar oMod (nm 0) (ak (.int 5)))))) (bS (ar oEq (nm 2) (ar oMod (ar oDiv (nm 0) (ak (.int 8))) (ak (.int 8)))))) (asg 1 (ar ek (nm 1) (bV [(bV [(aZ 3),(ar bg (bV [(ak (.str "day")),(ak (.str "inner")),(ak (.str "once")),(ak (.str "way")),(ak (.str "way"))]) (ar oMod (ar oDiv (nm 4) (ak (.int 8))) (ak (.int 5))))])]))) skip))) (seq (asg 5 (bV [])) (seq (gU (nq (jk (bV [(ak (.str "0000")),(ak (.str "1234")),(ak (.str "4321")),(ak (.str "7777")),(ak (.str "9990")),(ak (.str "9999"))]))) (fp [(cw 2),(cw 6)]) (seq (asg 4 (ar oDiv (b9 kV [(aZ 0),(ar ek (ak (.int 10)) (nm 2))]) (ak (.int 4)))) (iff (fA (bS (ar i8 (ar oMod (nm 4) (ak (.int 3))) (ak (.int 0)))) (bS (ar oEq (nm 2) (ak (.int 1))))) (seq (asg 7 (b9 g6 [(comp 1 [4] (j7 (ak (.int 3))) (cw 0) (bS (ar i8 (ar oMod (ar oDiv (nm 1) (ar bg (bV [(ak (.int 4)),(ak (.int 16)),(ak (.int 64))]) (nm 0))) (ak (.int 4))) (ak (.int 0)))) (ar bg (bV [(ak (.str "set")),(ak (.str "shunt")),(ak (.str "unset"))]) (nm 0)))])) (seq (asg 8 (ar bg (bV [(ak (.str "ann")),(ak (.str "bo")),(ak (.str "cy"))]) (ar oMod (ar oDiv (nm 4) (ak (.int 256))) (ak (.int 3))))) (asg 5 (ar ek (nm 5) (bV [(bV [(aZ 6),(aZ 8),(aZ 7),(ar bg (bV [(ak (.int 0)),(ak (.int 0)),(ak (.int 1)),(ak (.int 2)),(ak (.int 9))]) (ar oMod (ar oDiv (nm 4) (ak (.int 1024))) (ak (.int 5))))])]))))) skip))) (seq (asg 4 (ar oDiv (b9 kV [(aZ 0),(ak (.int 20))]) (ak (.int 4)))) (seq (asg 9 (bV [(ar bg (bV [(ak (.int 0)),(ak (.int 5)),(ak (.int 30)),(ak (.int 60))]) (ar oMod (nm 4) (ak (.int 4)))),(ar bg (bV [(ak (.int 0)),(ak (.int 4)),(ak (.int 20)),(ak (.int 60))]) (ar oMod (ar oDiv (nm 4) (ak (.int 4))) (ak (.int 4)))),(ar bg (bV [(ak (.int 1)),(ak (.int 9)),(ak (.int 120)),(ak (.int 300))]) (ar oMod (ar oDiv (nm 4) (ak (.int 16))) (ak (.int 4))))])) (cP (bV [(aZ 1),(aZ 5),(aZ 9)]))))))))
def Dg:List T->Option T:=eJ ajI 10
noncomputable def Sw:bF:=
  (seq (asg 2 (ar bg (ar bg (ar bg (nm 0) (ak (.int 0))) (ar oMod (ar oDiv (nm 1) (ak (.int 8))) (b9 gC [(ar bg (nm 0) (ak (.int 0)))]))) (ak (.int 0)))) (seq (asg 3 (ar oMod (nm 1) (ak (.int 10)))) (seq (iff (bS (ar oLt (nm 3) (ak (.int 5)))) (cP (bV [(ak (.str "line")),(aZ 2),(ar bg (bV [(ak (.str "shut")),(ak (.str "open")),(ak (.str "open")),(ak (.str "cut"))]) (ar oMod (ar oDiv (nm 1) (ak (.int 512))) (ak (.int 4))))])) skip) (seq (iff (bS (ar oLt (nm 3) (ak (.int 7)))) (cP (bV [(ak (.str "ticks")),(ar ek (ak (.int 1)) (ar oMod (ar oDiv (nm 1) (ak (.int 64))) (ar bg (bV [(ak (.int 3)),(ak (.int 40)),(ak (.int 200))]) (ar oMod (ar oDiv (nm 1) (ak (.int 4096))) (ak (.int 3))))))])) skip) (seq (asg 4 (ar bg (ar bg (ar bg (nm 0) (ak (.int 1))) (ar oMod (ar oDiv (nm 1) (ak (.int 64))) (b9 gC [(ar bg (nm 0) (ak (.int 1)))]))) (ak (.int 0)))) (seq (iff (bS (ar oEq (ar oMod (ar oDiv (nm 1) (ak (.int 65536))) (ak (.int 4))) (ak (.int 0)))) (asg 4 (ar bg (bV [(ak (.str "0001")),(ak (.str "1111")),(ak (.str "9999")),(ak (.str "0000"))]) (ar oMod (ar oDiv (nm 1) (ak (.int 512))) (ak (.int 4))))) skip) (seq (asg 5 (ar bg (bV [(ak (.str "set")),(ak (.str "set")),(ak (.str "unset")),(ak (.str "shunt")),(ak (.str "free")),(ak (.str "shunt"))]) (ar oMod (ar oDiv (nm 1) (ak (.int 4096))) (ak (.int 6))))) (seq (iff (bS (ar (gQ false) (nm 5) (bV [(ak (.str "set")),(ak (.str "unset"))]))) (cP (bV [(ak (.str "code")),(aZ 4),(aZ 5),(ak .none)])) skip) (cP (bV [(ak (.str "code")),(aZ 4),(aZ 5),(aZ 2)]))))))))))
def rW:List T->Option T:=eJ Sw 6
noncomputable def Dn:bF:=
  (seq (asg 3 (b9 g6 [(comp 1 [0,1] (j7 (ar oMod (nm 1) (ar ek (nm 2) (ak (.int 1))))) (cw 0) (f6 true) (b9 rW [(aZ 1),(ar oDiv (b9 kV [(aZ 2),(ar ek (ak (.int 30)) (nm 0))]) (ak (.int 4)))]))])) (seq (iff (iF (bS (ar oEq (ar oMod (ar oDiv (nm 1) (ak (.int 64))) (ak (.int 5))) (ak (.int 0)))) (bS (ar i8 (b9 gC [(nm 3)]) (ak (.int 2))))) (asg 3 (ar ek (slice (nm 3) optN (opt (e7 rv (ak (.int 3))))) (ar xr (bV [(bV [(ak (.str "code")),(ak (.str "5555")),(ak (.str "unset")),(ak .none)])]) (ak (.int 3))))) skip) (cP (nm 3))))
def yF:List T->Option T:=eJ Dn 4
end cb
end
section
namespace fP
open D cb
noncomputable def Cf:bF:=
  (seq (eV 1 0 0 (aZ 1)) (seq (j9 1 0 1 (g7 [])) (j9 1 0 2 (g7 [(b9 qD [(aZ 1)])]))))
noncomputable def og:List aJ->Option (T×List aJ):=runM 1 0 Cf 2
noncomputable def CC:bF:=
  (cP (ar bg (fld 1 0 2) (e7 rv (ak (.int 1)))))
def my:List aJ->Option T:=gE CC 1
noncomputable def Cq:bF:=
  (seq (asg 2 (b9 yD [(fL 1 0 0),(ef 1 my 0 []),(aZ 1)])) (seq (asg 3 (b9 yU [(fL 1 0 0),(ef 1 my 0 []),(aZ 1)])) (seq (l2 1 0 1 (aZ 1)) (seq (l2 1 0 2 (aZ 3)) (rA (aZ 2))))))
noncomputable def pC:List aJ->Option (T×List aJ):=runM 1 0 Cq 4
noncomputable def Ca:bF:=
  (q4 (b9 qx [(fL 1 0 0),(aZ 1)]))
noncomputable def rP:List aJ->Option T:=gE Ca 2
noncomputable def CP:bF:=
  (seq (q4 (ef 1 rP 0 [(aZ 1)])) (i' (cS 1 pC 0 [(bV [(ak (.str "line")),(aZ 1),(aZ 2)])])))
noncomputable def yi:List aJ->Option (T×List aJ):=runM 1 0 CP 3
noncomputable def CQ:bF:=
  (seq (iff (fA (bS (e7 jK (nm 3))) (bS (ar (gQ false) (nm 2) (ak (.tuple (jI ["shunt","free"])))))) (q4 (ef 1 rP 0 [(aZ 3)])) skip) (i' (cS 1 pC 0 [(bV [(ak (.str "code")),(aZ 1),(aZ 2),(aZ 3)])])))
noncomputable def yj:List aJ->Option (T×List aJ):=runM 1 0 CQ 4
noncomputable def CB:bF:=
  (i' (cS 1 pC 0 [(bV [(ak (.str "ticks")),(aZ 1)])]))
noncomputable def yg:List aJ->Option (T×List aJ):=runM 1 0 CB 2
noncomputable def CD:bF:=
  (cP (b9 vP [(fL 1 0 0),(ef 1 my 0 [])]))
def tY:List aJ->Option T:=gE CD 1
def C7:bF:=
  (cP (b9 g6 [(fld 1 0 1)]))
def mA:List aJ->Option T:=gE C7 1
noncomputable def C8:bF:=
  (cP (b9 yE [(fL 1 0 0),(ar bg (fld 1 0 2) (ak (.int 0))),(ef 1 mA 0 [])]))
def t5:List aJ->Option T:=gE C8 1
noncomputable def CO:bF:=
  (seq (iff (i7 (iy (fld 1 0 1))) se skip) (seq (vb 1 0 1) (vb 1 0 2)))
noncomputable def lI:List aJ->Option (T×List aJ):=runM 1 0 CO 1
noncomputable def CN:bF:=
  (seq (iff (bS (ar oEq (ar bg (nm 1) (ak (.int 0))) (ak (.str "line")))) (i' (cS 1 yi 0 [(ar bg (nm 1) (ak (.int 1))),(ar bg (nm 1) (ak (.int 2)))])) skip) (seq (iff (bS (ar oEq (ar bg (nm 1) (ak (.int 0))) (ak (.str "code")))) (i' (cS 1 yj 0 [(ar bg (nm 1) (ak (.int 1))),(ar bg (nm 1) (ak (.int 2))),(ar bg (nm 1) (ak (.int 3)))])) skip) (i' (cS 1 yg 0 [(ar bg (nm 1) (ak (.int 1)))]))))
noncomputable def ng:List aJ->Option (T×List aJ):=runM 1 0 CN 2
end fP
end
section
namespace ux
open D cb fP
noncomputable def K4:jq:=
  (Aq (i7 (iy (fld 1 0 1))) (n1 (ak (.str "there is no event to take back"))) PB)
def oi:List aJ->Bool:=JX K4 1
end ux
end
section
namespace pT
open D cb fP ux
noncomputable def aiI:bF:=
  (cP (bV [(ef 1 my 0 []),(ef 1 tY 0 []),(ef 1 t5 0 []),(ef 1 mA 0 [])]))
def kW:List aJ->Option T:=gE aiI 1
noncomputable def MR:bF:=
  (seq (asg 1 (b9 Dg [(b9 rV [(aZ 0),(ak (.int 0))])])) (seq (asg 2 (b9 rV [(aZ 0),(ak (.int 1))])) (seq (asg 3 (b9 yF [(aZ 1),(aZ 2),(ak (.int 14))])) (seq (qV 4 (lq 1 og [(aZ 1)])) (seq (y5 5 (fO (aZ 3)) (oz 1 ng [] 6 [(aZ 0)])) (seq (asg 6 (ar oMod (ar oDiv (nm 2) (ak (.int 64))) (ar ek (b9 gC [(nm 3)]) (ak (.int 1))))) (seq (gU (j7 (nm 6)) (cw 7) (ro (rD (qg fW (pK (cS 1 lI 4 []) (nu 1 oi 4 []) 2) (sd (bV [(ak (.str "told")),(ak .none)])))) (cP (ak (.bool false))) skip)) (seq (qV 8 (lq 1 og [(aZ 1)])) (seq (gU (fO (slice (nm 3) optN (opt (ar nZ (b9 gC [(nm 3)]) (nm 6))))) (cw 9) (dj (oz 1 ng [] 8 [(aZ 9)]))) (seq (iff (fA (bS (ar fW (oy kW [.o 4]) (oy kW [.o 8]))) (bS (ar fW (ef 1 mA 4 []) (slice (nm 3) optN (opt (ar nZ (b9 gC [(nm 3)]) (nm 6))))))) (cP (ak (.bool false))) skip) (seq (asg 10 (ar nZ (b9 gC [(nm 3)]) (nm 6))) (seq (y5 11 (fO (slice (nm 3) (opt (nm 10)) optN)) (oz 1 ng [] 6 [(aZ 0)])) (seq (iff (bS (ar fW (nm 11) (slice (nm 5) (opt (nm 10)) optN))) (cP (ak (.bool false))) skip) (seq (gU (j7 (b9 gC [(nm 3)])) (cw 7) (dj (cS 1 lI 4 []))) (seq (asg 12 (oy kW [.o 4])) (seq (iff (fA (bS (ar fW (ar bg (nm 12) (ak (.int 0))) (b9 qD [(aZ 1)]))) (bS (ar fW (slice (nm 12) (opt (ak (.int 2))) optN) (bV [(bV []),(bV [])])))) (cP (ak (.bool false))) skip) (seq (ro (rD (qg fW (pK (cS 1 lI 4 []) (nu 1 oi 4 []) 2) (sd (bV [(ak (.str "refused")),(ak (.int 2))])))) (cP (ak (.bool false))) skip) (cP (nE (ar oEq (oy kW [.o 4]) (nm 12)) (ar oEq (pd 1 kW (lq 1 og [(aZ 1)]) []) (nm 12)))))))))))))))))))))
def wb:List T->Option T:=eJ MR 13
end pT
end
section
namespace pT
open PySem PySem.Spec PyProof.Rows a7 D cb fP ux
variable [cI]
noncomputable def top(i:Nat):Stmt:=PySem.Challenge.pw_doorwatch_k44_whole_undone_as_far.main.body.getD i (.Pass ⟨0,0,0,0⟩)
section
variable {P:cC}{w:b6}{K:a6}{mg:Str->Option aj}{base:bz}{bw cU:af}{k:Nat}{f:af}{fd:et}
local macro_rules | `(unop% bM $F) => `(cG.binds $F λ_ _ _ _ _ _ us aE => match us, aE with | [_], _ => rfl)
local macro_rules | `(unop% bY $F) => `(cG.binds $F λ_ _ _ _ _ _ us aE => match us, aE with | [_, _], _ => rfl)
local macro_rules | `(unop% dy $F) => `(cG.binds $F λ_ _ _ _ _ _ us aE => match us, aE with | [_, _, _], _ => rfl)
local macro_rules | `(unop% kE $F) => `(cG.binds $F λ_ _ _ _ _ _ us aE => match us, aE with | [_, _, _, _], _ => rfl)
local macro_rules | `(unop% du 0) => `(⟨rfl, rfl, rfl, by decide +kernel, rfl, by decide +kernel, by decide +kernel⟩)
set_option hygiene false in
local macro_rules | `(unop% d2 1) => `(fw K 1 cU ["plan", "events", "states"])
set_option hygiene false in
local macro_rules | `(unop% d2 0) => `(fw K 0 bw ["plan", "mode", "left", "came", "lines", "shunts", "siren", "alarms", "tries", "locked", "used", "past", "told"])
set_option hygiene false in
local macro_rules | `(unop% lm $t) => `(λbN A outer s H E ax => $t)
local macro_rules | `(unop% ft $t) => `(λ_ _ _ _ _ _ => $t)
local macro_rules | `(unop% a8 $l) => `(show List.Nodup ($l : List Str) by decide +kernel)
local macro_rules | `(binop% co $s $l) => `(Us (sc := bx $s) $l rfl rfl rfl (by decide +kernel))
set_option hygiene false in
local macro_rules | `(binop% gz $a $b) => `(hM (yO (by exact ax.units)) yQ $a $b)
set_option hygiene false in
local macro_rules | `(binop% pb $a $b) => `(hM (Dx (by exact ax.units)) Dy $a $b)
abbrev CV:Stmt:=top 30
def Rw:cO ["_law_number","_law_k","_law_drawn_here"] ["_law_number","_law_k"] (bx CV):=unop%du 0
def am3(F:cG K "_law_drawn" "_law_drawn" CV f fd)(m:mg "_law_drawn"=some (.ref f)) :Cl P w K mg base "_law_drawn" (k+1) 2 kV:=
 lP F Rw (unop%bY F) m unop%lm
  (bD (eu 2 Rw.a8 (gJ (ay (amV (ay (jJ (ay (jJ (a4 0) (ay (amV (ay aU) (a4 1))))) (ay aU))) (ay aU))) (ay aU))) (bG (eA (gJ (ay (jJ (ay (jJ (ay (amV (a4 2) (a4 2))) (ay (amV (ay aU) (a4 2))))) (a4 1))) (ay aU)))))
abbrev yt:Stmt:=top 31
def kU:cO ["_law_number","_law_zones","_law_k","_law_name","_law_drawn_here","_law_codes","_law_figures","_law_rights","_law_who","_law_times"] ["_law_number"] (bx yt):=unop%du 0
def LX(F:cG K "_law_plan" "_law_plan" yt f fd)(m:mg "_law_plan"=some (.ref f))(r6:mg "enumerate"=none)(am3:Cl P w K mg base "_law_drawn" k 2 kV)(fb:mg "tuple"=none)(lM:mg "range"=none):Cl P w K mg base "_law_plan" (k+1) 1 Dg:=
 lP F kU (unop%bM F) m unop%lm
  (bD (eu 1 kU.a8 (dD bA)) (bD (qF amS (Uo r6 (dD (aI b3 (aI b3 (aI b3 (aI b3 (aI b3 (aI b3 (aI b3 (aI b3 bA)))))))))) (y2 (ov (gO 2 kU.a8) (ov (gO 3 kU.a8) y3))) (bD (eu 4 kU.a8 (iC (ay (hJ am3 ax (aI (bL 0) (aI (bL 2) bA)))) (ay aU))) (bG (dQ (m7 (w_or (hM (yZ.or yq) yP (ay (gJ (a4 4) (ay aU))) (ay (jJ (ay aU) (ay (gJ (a4 0) (ay aU)))))) (r_ (binop%gz (a4 2) (ay (gJ (ay (iC (a4 0) (ay aU))) (ay aU))))))) (bG (eu 1 kU.a8 (jJ (a4 1) (ay (dD (aI (dD (aI (bL 3) (aI (cu (ay (dD (aI b3 (aI b3 (aI b3 (aI b3 (aI b3 bA))))))) (ay (gJ (ay (iC (a4 4) (ay aU))) (ay aU)))) bA))) bA)))))) fa)))) (bD (eu 5 kU.a8 (dD bA)) (bD (qF amS (Uo r6 (dD (aI b3 (aI b3 (aI b3 (aI b3 (aI b3 (aI b3 bA)))))))) (y2 (ov (gO 2 kU.a8) (ov (gO 6 kU.a8) y3))) (bD (eu 4 kU.a8 (iC (ay (hJ am3 ax (aI (bL 0) (aI (jJ (ay aU) (a4 2)) bA)))) (ay aU))) (bG (dQ (m7 (w_or (hM (wa.or vG) vU (ay (gJ (a4 4) (ay aU))) (ay aU)) (r_ (binop%gz (a4 2) (ay aU))))) (bD (eu 7 kU.a8 (amN fb (h9 (ay (r0 (own:=["_law_j"]) (caps:=[(4,"_law_drawn_here")]) (binop%co yt ["_law_number","_law_zones","_law_k","_law_name","_law_drawn_here","_law_codes","_law_figures","_law_rights","_law_who","_law_times"]) (DB lM (ay aU)) (unop%ft (gO 0 (unop%a8 ["_law_j","_law_drawn_here"]))) (unop%ft (yJ (hM (wa.or vG) vU (ay (gJ (ay (iC (a4 1) (ay (cu (ay (dD (aI aU (aI aU (aI aU bA))))) (a4 0))))) (ay aU))) (ay aU)))) (unop%ft (cu (ay (dD (aI b3 (aI b3 (aI b3 bA))))) (a4 0))))) iB))) (bD (eu 8 kU.a8 (cu (ay (dD (aI b3 (aI b3 (aI b3 bA))))) (ay (gJ (ay (iC (a4 4) (ay aU))) (ay aU))))) (bG (eu 5 kU.a8 (jJ (a4 5) (ay (dD (aI (dD (aI (bL 6) (aI (bL 8) (aI (bL 7) (aI (cu (ay (dD (aI aU (aI aU (aI aU (aI aU (aI aU bA))))))) (ay (gJ (ay (iC (a4 4) (ay aU))) (ay aU)))) bA))))) bA)))))))) fa)))) (bD (eu 4 kU.a8 (iC (ay (hJ am3 ax (aI (bL 0) (aI aU bA)))) (ay aU))) (bD (eu 9 kU.a8 (dD (aI (cu (ay (dD (aI aU (aI aU (aI aU (aI aU bA)))))) (ay (gJ (a4 4) (ay aU)))) (aI (cu (ay (dD (aI aU (aI aU (aI aU (aI aU bA)))))) (ay (gJ (ay (iC (a4 4) (ay aU))) (ay aU)))) (aI (cu (ay (dD (aI aU (aI aU (aI aU (aI aU bA)))))) (ay (gJ (ay (iC (a4 4) (ay aU))) (ay aU)))) bA))))) (bG (eA (dD (aI (bL 1) (aI (bL 5) (aI (bL 9) bA))))))))))))
abbrev Cs:Stmt:=top 28
def agY:cO ["_law_script","_law_k"] ["_law_script","_law_k"] (bx Cs):=unop%du 0
def K7(F:cG K "_law_cell_at" "_law_cell_at" Cs f fd)(m:mg "_law_cell_at"=some (.ref f))(iD:mg "len"=none):Cl P w K mg base "_law_cell_at" (k+1) 2 tX:=
 lP F agY (unop%bY F) m unop%lm
  (bD (dQ (hM (yZ.or yq) yP (a4 1) (ay (qH (by exact iD) (h9 (a4 0) iB)))) (bG (eA (cu (a4 0) (a4 1)))) fa) (bG (eA aU)))
abbrev CT:Stmt:=top 29
def Rv:cO ["_law_script","_law_k","_law_drawn_here"] ["_law_script","_law_k"] (bx CT):=unop%du 0
def C6(F:cG K "_law_mixed" "_law_mixed" CT f fd)(m:mg "_law_mixed"=some (.ref f))(K7:Cl P w K mg base "_law_cell_at" k 2 tX):Cl P w K mg base "_law_mixed" (k+1) 2 rV:=
 lP F Rv (unop%bY F) m unop%lm
  (bD (eu 2 Rv.a8 (gJ (ay (amV (ay (jJ (ay (jJ (ay (hJ K7 ax (aI (bL 0) (aI (bL 1) bA)))) (ay (amV (ay aU) (a4 1))))) (ay aU))) (ay aU))) (ay aU))) (bG (eA (gJ (ay (jJ (ay (jJ (ay (amV (a4 2) (a4 2))) (ay (amV (ay aU) (a4 2))))) (a4 1))) (ay aU)))))
abbrev CU:Stmt:=top 32
def vE:cO ["_law_plan_here","_law_number","_law_zone","_law_kind","_law_figures","_law_deed"] ["_law_plan_here","_law_number"] (bx CU):=unop%du 0
def LB(F:cG K "_law_event" "_law_event" CU f fd)(m:mg "_law_event"=some (.ref f))(iD:mg "len"=none):Cl P w K mg base "_law_event" (k+1) 2 rW:=
 lP F vE (unop%bY F) m unop%lm
  (bD (eu 2 vE.a8 (cu (ay (cu (ay (cu (a4 0) (ay aU))) (ay (gJ (ay (iC (a4 1) (ay aU))) (ay (qH (by exact iD) (h9 (ay (cu (a4 0) (ay aU))) iB))))))) (ay aU))) (bD (eu 3 vE.a8 (gJ (a4 1) (ay aU))) (bD (dQ (hM (yZ.or yq) yP (a4 3) (ay aU)) (bG (eA (dD (aI b3 (aI (bL 2) (aI (cu (ay (dD (aI b3 (aI b3 (aI b3 (aI b3 bA)))))) (ay (gJ (ay (iC (a4 1) (ay aU))) (ay aU)))) bA)))))) fa) (bD (dQ (hM (yZ.or yq) yP (a4 3) (ay aU)) (bG (eA (dD (aI b3 (aI (jJ (ay aU) (ay (gJ (ay (iC (a4 1) (ay aU))) (ay (cu (ay (dD (aI aU (aI aU (aI aU bA))))) (ay (gJ (ay (iC (a4 1) (ay aU))) (ay aU)))))))) bA))))) fa) (bD (eu 4 vE.a8 (cu (ay (cu (ay (cu (a4 0) (ay aU))) (ay (gJ (ay (iC (a4 1) (ay aU))) (ay (qH (by exact iD) (h9 (ay (cu (a4 0) (ay aU))) iB))))))) (ay aU))) (bD (dQ (binop%gz (ay (gJ (ay (iC (a4 1) (ay aU))) (ay aU))) (ay aU)) (bG (eu 4 vE.a8 (cu (ay (dD (aI b3 (aI b3 (aI b3 (aI b3 bA)))))) (ay (gJ (ay (iC (a4 1) (ay aU))) (ay aU)))))) fa) (bD (eu 5 vE.a8 (cu (ay (dD (aI b3 (aI b3 (aI b3 (aI b3 (aI b3 (aI b3 bA)))))))) (ay (gJ (ay (iC (a4 1) (ay aU))) (ay aU))))) (bD (dQ (hM (yN (by exact ax.units)) pH (a4 5) (ay (dD (aI b3 (aI b3 bA))))) (bG (eA (dD (aI b3 (aI (bL 4) (aI (bL 5) (aI amK bA))))))) fa) (bG (eA (dD (aI b3 (aI (bL 4) (aI (bL 5) (aI (bL 2) bA)))))))))))))))
abbrev yz:Stmt:=top 33
def LM:cO ["_law_plan_here","_law_number","_law_most","_law_row_here"] ["_law_plan_here","_law_number","_law_most"] (bx yz):=unop%du 0
def Mh(F:cG K "_law_row" "_law_row" yz f fd)(m:mg "_law_row"=some (.ref f))(fb:mg "tuple"=none)(LB:Cl P w K mg base "_law_event" k 2 rW)(iD:mg "len"=none)(lM:mg "range"=none)(am3:Cl P w K mg base "_law_drawn" k 2 kV):Cl P w K mg base "_law_row" (k+1) 3 yF:=
 lP F LM (unop%dy F) m unop%lm
  (bD (eu 3 LM.a8 (amN fb (h9 (ay (r0 (own:=["_law_k"]) (caps:=[(0,"_law_plan_here"),(1,"_law_number")]) (binop%co yz ["_law_plan_here","_law_number","_law_most","_law_row_here"]) (DB lM (ay (gJ (a4 1) (ay (jJ (a4 2) (ay aU)))))) (unop%ft (gO 0 (unop%a8 ["_law_k","_law_plan_here","_law_number"]))) (unop%ft uk) (unop%ft (hJ (by exact LB) (by exact ax) (aI (bL 1) (aI (iC (ay (hJ (by exact am3) (by exact ax) (aI (bL 2) (aI (jJ (ay aU) (a4 0)) bA)))) (ay aU)) bA)))))) iB))) (bD (dQ (m7 (DE (binop%gz (ay (gJ (ay (iC (a4 1) (ay aU))) (ay aU))) (ay aU)) (Dr (hM (wa.or vG) vU (ay (qH (by exact iD) (h9 (a4 3) iB))) (ay aU))))) (bG (eu 3 LM.a8 (jJ (ay (vL (a4 3) zev (vX (ay (UJ (ay aU)))))) (ay (alR (ay (dD (aI (dD (aI b3 (aI b3 (aI b3 (aI amK bA))))) bA))) (ay aU)))))) fa) (bG (T2 3))))
abbrev vK:Stmt:=top 9
def LN:cO ["plan","lines","used"] ["plan"] (bx vK):=unop%du 0
def yG(F:cG K "begun" "begun" vK f fd)(m:mg "begun"=some (.ref f))(fb:mg "tuple"=none):Cl P w K mg base "begun" (k+1) 1 qD:=
 lP F LN (unop%bM F) m unop%lm
  (bD (eu 1 LN.a8 (amN fb (h9 (ay (r0 (own:=["zone"]) (caps:=[]) (binop%co vK ["plan","lines","used"]) (lO (cu (a4 0) (ay aU))) (unop%ft (gO 0 (unop%a8 ["zone"]))) (unop%ft uk) (unop%ft b3))) iB))) (bD (eu 2 LN.a8 (amN fb (h9 (ay (r0 (own:=["code"]) (caps:=[]) (binop%co vK ["plan","lines","used"]) (lO (cu (a4 0) (ay aU))) (unop%ft (gO 0 (unop%a8 ["code"]))) (unop%ft uk) (unop%ft aU))) iB))) (bG (eA (dD (aI b3 (aI aU (aI amK (aI (bL 1) (aI (dD bA) (aI aU (aI (dD bA) (aI aU (aI aU (aI (bL 2) bA)))))))))))))))
abbrev Ce:Stmt:=e' (top 26) 0
def agy:cO ["self","plan"] ["self","plan"] (bx Ce):=unop%du 0
def agK(F:cG K "__init__" "Box.__init__" Ce f fd)(hA:uC K cU f)(m:mg "Box"=some (.ref cU))(cN:unop%d2 1)(yG:Cl P w K mg base "begun" k 1 qD):pN P w K mg base "Box" cU 1 (k+1) 2 og:=
 Uh F agy (unop%bY F) hA m unop%lm
  (bD (fZ (j:=0) cN (aW 0) (bL 1)) (bD (rZ (j:=1) cN (aW 0) (am7 bA)) (bG (rZ (j:=2) cN (aW 0) (am7 (aI (hJ yG ax (aI (bL 1) bA)) bA))))))
abbrev Cv:Stmt:=e' (top 26) 6
def ag0:cO ["self"] ["self"] (bx Cv):=unop%du 0
def rS(F:cG K "state" "Box.state" Cv f fd)(m:Meth K cU "state" f)(cN:unop%d2 1):fl P w K mg base cU "state" (k+1) 1 my:=
 pI F ag0 (unop%bM F) m unop%lm
  (bG (eA (cu (gq (j:=2) cN (aW 0)) (ay (UJ (ay aU))))))
abbrev ub:Stmt:=top 23
def C9:cO ["plan","state","not_shut"] ["plan","state"] (bx ub):=unop%du 0
def akE(F:cG K "shown" "shown" ub f fd)(m:mg "shown"=some (.ref f))(fb:mg "tuple"=none)(lN:mg "zip"=none):Cl P w K mg base "shown" (k+1) 2 vP:=
 lP F C9 (unop%bY F) m unop%lm
  (bD (Mr 2 C9.a8 (own:=["zone","line"]) (caps:=[]) (binop%co ub ["plan","state","not_shut"]) (UN lN (cu (a4 0) (ay aU)) (cu (a4 1) (ay aU))) (unop%ft (y2 (ov (gO 0 (unop%a8 ["zone","line"])) (ov (gO 1 (unop%a8 ["zone","line"])) y3)))) (unop%ft (yJ (binop%pb (a4 1) (ay b3)))) (unop%ft (cu (a4 0) (ay aU)))) (bG (eA (dD (aI (cu (a4 1) (ay aU)) (aI (pL (wa.or vG) vU (ay (cu (a4 1) (ay aU))) (ay aU)) (aI (amN fb (h9 (a4 2) iB)) bA)))))))
def K3(F:cG K "shown" "shown" ub f fd)(m:mg "shown_rows"=some (.ref f))(fb:mg "tuple"=none)(lN:mg "zip"=none):Cl P w K mg base "shown_rows" (k+1) 2 vP:=
 alv F C9 (unop%bY F) m unop%lm
  (bD (Mr 2 C9.a8 (own:=["zone","line"]) (caps:=[]) (binop%co ub ["plan","state","not_shut"]) (UN lN (cu (a4 0) (ay aU)) (cu (a4 1) (ay aU))) (unop%ft (y2 (ov (gO 0 (unop%a8 ["zone","line"])) (ov (gO 1 (unop%a8 ["zone","line"])) y3)))) (unop%ft (yJ (binop%pb (a4 1) (ay b3)))) (unop%ft (cu (a4 0) (ay aU)))) (bG (eA (dD (aI (cu (a4 1) (ay aU)) (aI (pL (wa.or vG) vU (ay (cu (a4 1) (ay aU))) (ay aU)) (aI (amN fb (h9 (a4 2) iB)) bA)))))))
abbrev Cw:Stmt:=e' (top 26) 7
def ag1:cO ["self"] ["self"] (bx Cw):=unop%du 0
def K9(F:cG K "shown" "Box.shown" Cw f fd)(m:Meth K cU "shown" f)(cN:unop%d2 1)(K3:Cl P w K mg base "shown_rows" k 2 vP)(rS:fl P w K mg base cU "state" k 1 my):fl P w K mg base cU "shown" (k+1) 1 tY:=
 pI F ag1 (unop%bM F) m unop%lm
  (bG (eA (hJ K3 ax (aI (iX (j:=0) cN (aW 0)) (aI (qz cN rS ax (aW 0)) bA)))))
abbrev vz:Stmt:=e' (top 17) 0
def agl:cO ["self","plan","state"] ["self","plan","state"] (bx vz):=unop%du 0
def agt(F:cG K "__init__" "Course.__init__" vz f fd)(hA:uC K bw f)(m:mg "Course"=some (.ref bw))(aX:unop%d2 0)(r5:mg "dict"=none)(r7:mg "list"=none)(lN:mg "zip"=none):pN P w K mg base "Course" bw 0 (k+1) 3 x4:=
 Uh F agl (unop%dy F) hA m unop%lm
  (bD (fZ (j:=0) aX (aW 0) (bL 1)) (bD (fZ (j:=1) aX (aW 0) (cu (a4 2) (ay aU))) (bD (fZ (j:=2) aX (aW 0) (cu (a4 2) (ay aU))) (bD (fZ (j:=3) aX (aW 0) (cu (a4 2) (ay aU))) (bD (Tf (j:=4) aX rfl r5 lN (aW 0) (ay (r0 (own:=["zone"]) (caps:=[]) (binop%co vz ["self","plan","state"]) (lO (cu (a4 1) (ay aU))) (unop%ft (gO 0 (unop%a8 ["zone"]))) (unop%ft uk) (unop%ft (cu (a4 0) (ay aU))))) (ay (cu (a4 2) (ay aU)))) (bD (rZ (j:=5) aX (aW 0) (Tj r7 (ay (cu (a4 2) (ay aU))))) (bD (fZ (j:=6) aX (aW 0) (cu (a4 2) (ay aU))) (bD (rZ (j:=7) aX (aW 0) (Tj r7 (ay (cu (a4 2) (ay aU))))) (bD (fZ (j:=8) aX (aW 0) (cu (a4 2) (ay aU))) (bD (fZ (j:=9) aX (aW 0) (cu (a4 2) (ay aU))) (bD (Tf (j:=10) aX rfl r5 lN (aW 0) (ay (r0 (own:=["code"]) (caps:=[]) (binop%co vz ["self","plan","state"]) (lO (cu (a4 1) (ay aU))) (unop%ft (gO 0 (unop%a8 ["code"]))) (unop%ft uk) (unop%ft (cu (a4 0) (ay aU))))) (ay (cu (a4 2) (ay aU)))) (bD (fZ (j:=11) aX (aW 0) aU) (bG (rZ (j:=12) aX (aW 0) (am7 bA)))))))))))))))
abbrev Cg:Stmt:=e' (top 17) 3
def agE:cO ["self","word","name"] ["self","word","name"] (bx Cg):=unop%du 0
def g5(F:cG K "tell" "Course.tell" Cg f fd)(m:Meth K bw "tell" f)(aX:unop%d2 0):cV P w K mg base bw 0 "tell" (k+1) 3 gf:=
 hK F agE (unop%dy F) m unop%lm
  (bG (Dv (j:=12) aX (aW 0) (dD (aI (iX (j:=11) aX (aW 0)) (aI (bL 1) (aI (bL 2) bA))))))
abbrev CX:Stmt:=top 8
def Rx:cO ["plan","name","zone"] ["plan","name"] (bx CX):=unop%du 0
def t8(F:cG K "kind_of" "kind_of" CX f fd)(m:mg "kind_of"=some (.ref f)) :Cl P w K mg base "kind_of" (k+1) 2 qx:=
 lP F Rx (unop%bY F) m unop%lm
  (bD (qF amS (lO (cu (a4 0) (ay aU))) (gO 2 Rx.a8) (bG (dQ (binop%gz (ay (cu (a4 2) (ay aU))) (a4 1)) (bG (eA (cu (a4 2) (ay aU)))) fa))) (bG Te))
abbrev B6:Stmt:=e' (top 17) 4
def agq:cO ["self"] ["self"] (bx B6):=unop%du 0
def x6(F:cG K "be_loud" "Course.be_loud" B6 f fd)(m:Meth K bw "be_loud" f)(aX:unop%d2 0):cV P w K mg base bw 0 "be_loud" (k+1) 1 tU:=
 hK F agq (unop%bM F) m unop%lm
  (bG (fZ (j:=6) aX (aW 0) (cu (ay (cu (gq (j:=0) aX (aW 0)) (ay aU))) (ay aU))))
abbrev Cd:Stmt:=e' (top 17) 5
def agx:cO ["self","zone"] ["self","zone"] (bx Cd):=unop%du 0
def pB(F:cG K "alarm" "Course.alarm" Cd f fd)(m:Meth K bw "alarm" f)(aX:unop%d2 0)(x6:cV P w K mg base bw 0 "be_loud" k 1 tU)(g5:cV P w K mg base bw 0 "tell" k 3 gf):cV P w K mg base bw 0 "alarm" (k+1) 2 lH:=
 hK F agx (unop%bY F) m unop%lm
  (bD (eB (pF aX x6 ax (aW 0))) (bG (dQ (hM (yp (by exact ax.units)) pH (a4 1) (gq (j:=7) aX (aW 0))) (bD (Dv (j:=7) aX (aW 0) (bL 1)) (bG (eB (eZ aX g5 ax (aW 0) (aI b3 (aI (bL 1) bA)))))) fa)))
abbrev B5:Stmt:=e' (top 17) 9
def agp:cO ["self","zone","kind"] ["self","zone","kind"] (bx B5):=unop%du 0
def KI(F:cG K "come_in" "Course.come_in" B5 f fd)(m:Meth K bw "come_in" f)(aX:unop%d2 0)(g5:cV P w K mg base bw 0 "tell" k 3 gf)(pB:cV P w K mg base bw 0 "alarm" k 2 lH):cV P w K mg base bw 0 "come_in" (k+1) 3 tT:=
 hK F agp (unop%dy F) m unop%lm
  (bD (dQ (m7 (w_or (binop%pb (a4 2) (ay b3)) (r_ (hM (ML.or Lq) Mx (ay (cu (ay (cu (gq (j:=0) aX (aW 0)) (ay aU))) (ay aU))) (ay aU))))) (bD (eB (eZ aX pB ax (aW 0) (aI (bL 1) bA))) (bG L5)) fa) (bD (fZ (j:=1) aX (aW 0) b3) (bD (fZ (j:=2) aX (aW 0) (cu (ay (cu (gq (j:=0) aX (aW 0)) (ay aU))) (ay aU))) (bD (fZ (j:=3) aX (aW 0) (bL 1)) (bG (eB (eZ aX g5 ax (aW 0) (aI b3 (aI (bL 1) bA)))))))))
abbrev B4:Stmt:=e' (top 17) 8
def Qy:cO ["self","zone","what","kind"] ["self","zone","what"] (bx B4):=unop%du 0
def KH(F:cG K "disturb" "Course.disturb" B4 f fd)(m:Meth K bw "disturb" f)(aX:unop%d2 0)(t8:Cl P w K mg base "kind_of" k 2 qx)(pB:cV P w K mg base bw 0 "alarm" k 2 lH)(g5:cV P w K mg base bw 0 "tell" k 3 gf)(KI:cV P w K mg base bw 0 "come_in" k 3 tT):cV P w K mg base bw 0 "disturb" (k+1) 3 x5:=
 hK F Qy (unop%dy F) m unop%lm
  (bD (eu 3 Qy.a8 (hJ t8 ax (aI (iX (j:=0) aX (aW 0)) (aI (bL 1) bA)))) (bG (dQ (binop%gz (a4 3) (ay b3)) (bG (eB (eZ aX pB ax (aW 0) (aI (bL 1) bA)))) (bG (dQ (binop%gz (gq (j:=1) aX (aW 0)) (ay b3)) (bG (dQ (binop%gz (a4 2) (ay b3)) (bG (eB (eZ aX g5 ax (aW 0) (aI b3 (aI (bL 1) bA))))) fa)) (bG (dQ (m7 (w_or (binop%gz (a4 2) (ay b3)) (r_ (binop%gz (a4 3) (ay b3))))) (bG (eB (eZ aX pB ax (aW 0) (aI (bL 1) bA)))) (bG (dQ (binop%gz (gq (j:=1) aX (aW 0)) (ay b3)) (bG (eB (eZ aX KI ax (aW 0) (aI (bL 1) (aI (bL 3) bA))))) fa)))))))))
abbrev Ci:Stmt:=e' (top 17) 7
def QH:cO ["self","zone","what","before"] ["self","zone","what"] (bx Ci):=unop%du 0
def KY(F:cG K "line" "Course.line" Ci f fd)(m:Meth K bw "line" f)(aX:unop%d2 0)(g5:cV P w K mg base bw 0 "tell" k 3 gf)(KH:cV P w K mg base bw 0 "disturb" k 3 x5):cV P w K mg base bw 0 "line" (k+1) 3 yc:=
 hK F QH (unop%dy F) m unop%lm
  (bD (eu 3 QH.a8 (Mt (j:=4) aX (y1 ax) (aW 0) (a4 1))) (bD (dQ (binop%gz (a4 2) (a4 3)) (bG L5) fa) (bD (akR (j:=4) aX (y1 ax) (aW 0) (a4 1) (bL 2)) (bG (dQ (binop%gz (a4 2) (ay b3)) (bG (dQ (binop%gz (a4 3) (ay b3)) (bG (eB (eZ aX g5 ax (aW 0) (aI b3 (aI (bL 1) bA))))) fa)) (bG (dQ (hM (yp (by exact ax.units)) pH (a4 1) (gq (j:=5) aX (aW 0))) (bG (eB (eZ aX KH ax (aW 0) (aI (bL 1) (aI (bL 2) bA))))) fa)))))))
abbrev CY:Stmt:=top 15
def Ry:cO ["plan","figures","code"] ["plan","figures"] (bx CY):=unop%du 0
def LC(F:cG K "code_of" "code_of" CY f fd)(m:mg "code_of"=some (.ref f)) :Cl P w K mg base "code_of" (k+1) 2 yr:=
 lP F Ry (unop%bY F) m unop%lm
  (bD (qF amS (lO (cu (a4 0) (ay aU))) (gO 2 Ry.a8) (bG (dQ (binop%gz (ay (cu (a4 2) (ay aU))) (a4 1)) (bG (T2 2)) fa))) (bG (eA amK)))
abbrev BY:Stmt:=e' (top 17) 16
def agd:cO ["self","code"] ["self","code"] (bx BY):=unop%du 0
def Kt(F:cG K "is_used_up" "Course.is_used_up" BY f fd)(m:Meth K bw "is_used_up" f)(aX:unop%d2 0):fl P w K mg base bw "is_used_up" (k+1) 2 vy:=
 pI F agd (unop%bY F) m unop%lm
  (bG (eA (MJ (pL (Dx (by exact ax.units)) Dy (ay (cu (a4 1) (ay aU))) (ay aU)) (Mu (pL (UL.or R1) Ub (ay (Mt (j:=10) aX (y1 ax) (aW 0) (ay (cu (a4 1) (ay aU))))) (ay (cu (a4 1) (ay aU))))))))
abbrev BW:Stmt:=e' (top 17) 17
def agc:cO ["self"] ["self"] (bx BW):=unop%du 0
def Kr(F:cG K "take_wrong" "Course.take_wrong" BW f fd)(m:Meth K bw "take_wrong" f)(aX:unop%d2 0)(g5:cV P w K mg base bw 0 "tell" k 3 gf)(x6:cV P w K mg base bw 0 "be_loud" k 1 tU){Kb:Tok}(sQ:mg "WRONG_IN_A_ROW"=some (.int 3 Kb)){Ka:Tok}(sP:mg "TICKS_LOCKED"=some (.int 90 Ka)):cV P w K mg base bw 0 "take_wrong" (k+1) 1 vw:=
 hK F agc (unop%bM F) m unop%lm
  (bD (eB (eZ aX g5 ax (aW 0) (aI b3 (aI amK bA)))) (bD (T4 (j:=8) aX (aW 0) aU) (bG (dQ (hM (UL.or R1) Ub (gq (j:=8) aX (aW 0)) (ay (PS sQ))) (bD (fZ (j:=8) aX (aW 0) aU) (bD (fZ (j:=9) aX (aW 0) (PS sP)) (bD (eB (pF aX x6 ax (aW 0))) (bG (eB (eZ aX g5 ax (aW 0) (aI b3 (aI amK bA)))))))) fa))))
abbrev BU:Stmt:=e' (top 17) 20
def agb:cO ["self","deed","zone"] ["self","deed","zone"] (bx BU):=unop%du 0
def Kq(F:cG K "is_untimely" "Course.is_untimely" BU f fd)(m:Meth K bw "is_untimely" f)(aX:unop%d2 0)(t8:Cl P w K mg base "kind_of" k 2 qx):fl P w K mg base bw "is_untimely" (k+1) 3 pA:=
 pI F agb (unop%dy F) m unop%lm
  (bD (dQ (binop%gz (a4 1) (ay b3)) (bG (eA tm)) fa) (bD (dQ (binop%pb (gq (j:=1) aX (aW 0)) (ay b3)) (bG (eA tm)) fa) (bD (dQ (binop%gz (a4 1) (ay b3)) (bG (eA (aeo (pL (yO (by exact ax.units)) yQ (ay (hJ t8 ax (aI (iX (j:=0) aX (aW 0)) (aI (bL 2) bA)))) (ay b3)) (alS (pL (yN (by exact ax.units)) pH (a4 2) (gq (j:=5) aX (aW 0))))))) fa) (bG (eA (MJ (pL (yO (by exact ax.units)) yQ (a4 1) (ay b3)) (Mu (pL (yp (by exact ax.units)) pH (a4 2) (gq (j:=5) aX (aW 0))))))))))
abbrev vv:Stmt:=e' (top 17) 6
def Qt:cO ["self","kinds","zones"] ["self","kinds"] (bx vv):=unop%du 0
def x2(F:cG K "bare_zones" "Course.bare_zones" vv f fd)(m:Meth K bw "bare_zones" f)(aX:unop%d2 0):fl P w K mg base bw "bare_zones" (k+1) 2 tS:=
 pI F Qt (unop%bY F) m unop%lm
  (bD (Mr 2 Qt.a8 (own:=["zone"]) (caps:=[(1,"kinds")]) (binop%co vv ["self","kinds","zones"]) (lO (cu (gq (j:=0) aX (aW 0)) (ay aU))) (unop%ft (gO 0 (unop%a8 ["zone","kinds"]))) (unop%ft (yJ (hM (yN (by exact ax.units)) pH (ay (cu (a4 0) (ay aU))) (a4 1)))) (unop%ft (cu (a4 0) (ay aU)))) (bG (eA (r0 (own:=["zone"]) (caps:=[(0,"self")]) (binop%co vv ["self","kinds","zones"]) (lO (bL 2)) (unop%ft (gO 0 (unop%a8 ["zone","self"]))) (unop%ft (yJ (m7 (DE (binop%pb (ay (Mt (j:=4) (by exact aX) (by exact y1 ax) (aW 1) (a4 0))) (ay b3)) (Dr (hM (yp (by exact ax.units)) pH (a4 0) (gq (j:=5) (by exact aX) (aW 1)))))))) (unop%ft (bL 0))))))
abbrev BS:Stmt:=e' (top 17) 19
def Ko:cO ["self","code","deed","zone","right","bare"] ["self","code","deed","zone"] (bx BS):=unop%du 0
def Kp(F:cG K "what_is_against" "Course.what_is_against" BS f fd)(m:Meth K bw "what_is_against" f)(aX:unop%d2 0)(Kq:fl P w K mg base bw "is_untimely" k 3 pA)(x2:fl P w K mg base bw "bare_zones" k 2 tS){uN:af}(abl:mg "KINDS_SHUT_TO_SET"=some (.ref uN))(afZ:∃(o:Obj) (its:Array aj) (n:Nat),K.lookup uN=some o/\o.cls=.type "tuple"/\o.data=.seq its n/\its.size<=cA/\Vals ((["day","once"]:List Str).map V.str) its.toList):fl P w K mg base bw "what_is_against" (k+1) 4 xX:=
 pI F Ko (unop%kE F) m unop%lm
  (bD (eu 4 Ko.a8 (alV (binop%gz (a4 2) (ay b3)) b3 (bL 2))) (bD (dQ (hM (yp (by exact ax.units)) pH (a4 4) (ay (cu (a4 1) (ay aU)))) (bG (eA (dD (aI b3 (aI (cu (a4 1) (ay aU)) bA))))) fa) (bD (dQ (T1 (ay (uc aX Kq ax (aW 0) (aI (bL 2) (aI (bL 3) bA))))) (bG (eA (dD (aI b3 (aI (cu (a4 1) (ay aU)) bA))))) fa) (bD (eu 5 Ko.a8 (uc aX x2 ax (aW 0) (aI (JM abl afZ) bA))) (bD (dQ (m7 (DE (binop%gz (a4 2) (ay b3)) (Dr (Mm (a4 5))))) (bG (eA (dD (aI b3 (aI (cu (a4 5) (ay aU)) bA))))) fa) (bG (eA amK)))))))
abbrev BV:Stmt:=e' (top 17) 13
def Qq:cO ["self","zone"] ["self"] (bx BV):=unop%du 0
def xY(F:cG K "end_leaving" "Course.end_leaving" BV f fd)(m:Meth K bw "end_leaving" f)(aX:unop%d2 0)(g5:cV P w K mg base bw 0 "tell" k 3 gf)(x2:fl P w K mg base bw "bare_zones" k 2 tS)(pB:cV P w K mg base bw 0 "alarm" k 2 lH){uM:af}(abk:mg "KINDS_LEFT_BY"=some (.ref uM))(afW:∃(o:Obj) (its:Array aj) (n:Nat),K.lookup uM=some o/\o.cls=.type "tuple"/\o.data=.seq its n/\its.size<=cA/\Vals ((["inner","way"]:List Str).map V.str) its.toList):cV P w K mg base bw 0 "end_leaving" (k+1) 1 tP:=
 hK F Qq (unop%bM F) m unop%lm
  (bD (fZ (j:=1) aX (aW 0) b3) (bD (fZ (j:=2) aX (aW 0) aU) (bD (eB (eZ aX g5 ax (aW 0) (aI b3 (aI amK bA)))) (bG (qF amS (lO (uc aX x2 ax (aW 0) (aI (JM abk afW) bA))) (gO 1 Qq.a8) (bG (eB (eZ aX pB ax (aW 0) (aI (bL 1) bA)))))))))
abbrev B9:Stmt:=e' (top 17) 22
def agv:cO ["self","who"] ["self","who"] (bx B9):=unop%du 0
def KN(F:cG K "do_set" "Course.do_set" B9 f fd)(m:Meth K bw "do_set" f)(aX:unop%d2 0)(g5:cV P w K mg base bw 0 "tell" k 3 gf)(xY:cV P w K mg base bw 0 "end_leaving" k 1 tP):cV P w K mg base bw 0 "do_set" (k+1) 2 vB:=
 hK F agv (unop%bY F) m unop%lm
  (bD (rZ (j:=7) aX (aW 0) (am7 bA)) (bD (fZ (j:=6) aX (aW 0) aU) (bD (fZ (j:=1) aX (aW 0) b3) (bD (fZ (j:=2) aX (aW 0) (cu (ay (cu (gq (j:=0) aX (aW 0)) (ay aU))) (ay aU))) (bD (eB (eZ aX g5 ax (aW 0) (aI b3 (aI (bL 1) bA)))) (bG (dQ (hM (ML.or Lq) Mx (gq (j:=2) aX (aW 0)) (ay aU)) (bG (eB (pF aX xY ax (aW 0)))) fa)))))))
abbrev B2:Stmt:=e' (top 17) 23
def agk:cO ["self","who"] ["self","who"] (bx B2):=unop%du 0
def KA(F:cG K "do_unset" "Course.do_unset" B2 f fd)(m:Meth K bw "do_unset" f)(aX:unop%d2 0)(g5:cV P w K mg base bw 0 "tell" k 3 gf):cV P w K mg base bw 0 "do_unset" (k+1) 2 x3:=
 hK F agk (unop%bY F) m unop%lm
  (bD (fZ (j:=1) aX (aW 0) b3) (bD (fZ (j:=2) aX (aW 0) aU) (bD (fZ (j:=6) aX (aW 0) aU) (bD (fZ (j:=3) aX (aW 0) amK) (bD (rZ (j:=5) aX (aW 0) (am7 bA)) (bG (eB (eZ aX g5 ax (aW 0) (aI b3 (aI (bL 1) bA))))))))))
abbrev B3:Stmt:=e' (top 17) 21
def ago:cO ["self","who","deed","zone"] ["self","who","deed","zone"] (bx B3):=unop%du 0
def KG(F:cG K "do_deed" "Course.do_deed" B3 f fd)(m:Meth K bw "do_deed" f)(aX:unop%d2 0)(KN:cV P w K mg base bw 0 "do_set" k 2 vB)(KA:cV P w K mg base bw 0 "do_unset" k 2 x3)(uj:mg "sorted"=none)(g5:cV P w K mg base bw 0 "tell" k 3 gf):cV P w K mg base bw 0 "do_deed" (k+1) 4 rN:=
 hK F ago (unop%kE F) m unop%lm
  (bG (dQ (binop%gz (a4 2) (ay b3)) (bG (eB (eZ aX KN ax (aW 0) (aI (bL 1) bA)))) (bG (dQ (binop%gz (a4 2) (ay b3)) (bG (eB (eZ aX KA ax (aW 0) (aI (bL 1) bA)))) (bG (dQ (binop%gz (a4 2) (ay b3)) (bD (rZ (j:=5) aX (aW 0) (aia rfl uj (ay (jJ (gq (j:=5) aX (aW 0)) (ay (akW (aI (bL 3) bA))))))) (bG (eB (eZ aX g5 ax (aW 0) (aI b3 (aI (bL 3) bA)))))) (bD (alL (j:=5) aX (aW 0) (bL 3)) (bG (eB (eZ aX g5 ax (aW 0) (aI b3 (aI (bL 3) bA))))))))))))
abbrev BX:Stmt:=e' (top 17) 18
def Qr:cO ["self","code","deed","zone","against"] ["self","code","deed","zone"] (bx BX):=unop%du 0
def Ks(F:cG K "take_right" "Course.take_right" BX f fd)(m:Meth K bw "take_right" f)(aX:unop%d2 0)(Kp:fl P w K mg base bw "what_is_against" k 4 xX)(KG:cV P w K mg base bw 0 "do_deed" k 4 rN)(g5:cV P w K mg base bw 0 "tell" k 3 gf):cV P w K mg base bw 0 "take_right" (k+1) 4 vx:=
 hK F Qr (unop%kE F) m unop%lm
  (bD (eu 4 Qr.a8 (uc aX Kp ax (aW 0) (aI (bL 1) (aI (bL 2) (aI (bL 3) bA))))) (bG (dQ (UB (a4 4)) (bD (ajR (j:=10) aX (y1 ax) (aW 0) (ay (cu (a4 1) (ay aU))) aU) (bG (eB (eZ aX KG ax (aW 0) (aI (cu (a4 1) (ay aU)) (aI (bL 2) (aI (bL 3) bA))))))) (bG (eB (eZ aX g5 ax (aW 0) (aI (cu (a4 4) (ay aU)) (aI (cu (a4 4) (ay aU)) bA))))))))
abbrev Cj:Stmt:=e' (top 17) 15
def QI:cO ["self","figures","deed","zone","code"] ["self","figures","deed","zone"] (bx Cj):=unop%du 0
def KZ(F:cG K "code" "Course.code" Cj f fd)(m:Meth K bw "code" f)(aX:unop%d2 0)(LC:Cl P w K mg base "code_of" k 2 yr)(g5:cV P w K mg base bw 0 "tell" k 3 gf)(Kt:fl P w K mg base bw "is_used_up" k 2 vy)(Kr:cV P w K mg base bw 0 "take_wrong" k 1 vw)(Ks:cV P w K mg base bw 0 "take_right" k 4 vx):cV P w K mg base bw 0 "code" (k+1) 4 rR:=
 hK F QI (unop%kE F) m unop%lm
  (bD (eu 4 QI.a8 (hJ LC ax (aI (iX (j:=0) aX (aW 0)) (aI (bL 1) bA)))) (bG (dQ (hM (wa.or vG) vU (gq (j:=9) aX (aW 0)) (ay aU)) (bG (eB (eZ aX g5 ax (aW 0) (aI b3 (aI amK bA))))) (bG (dQ (m7 (w_or (UB (a4 4)) (r_ (T1 (ay (uc aX Kt ax (aW 0) (aI (bL 4) bA))))))) (bG (eB (pF aX Kr ax (aW 0)))) (bD (fZ (j:=8) aX (aW 0) aU) (bG (eB (eZ aX Ks ax (aW 0) (aI (bL 4) (aI (bL 2) (aI (bL 3) bA))))))))))))
abbrev CG:Stmt:=top 16
def ahg:cO ["ticks","many"] ["ticks","many"] (bx CG):=unop%du 0
def yk(F:cG K "lessened" "lessened" CG f fd)(m:mg "lessened"=some (.ref f))(ui:mg "max"=none):Cl P w K mg base "lessened" (k+1) 2 t2:=
 lP F ahg (unop%bY F) m unop%lm
  (bG (eA (alU ui (h9 (ay (yY (a4 0) (a4 1))) (h9 (ay aU) iB)))))
abbrev B0:Stmt:=e' (top 17) 11
def age:cO ["self","many"] ["self","many"] (bx B0):=unop%du 0
def x1(F:cG K "count_down" "Course.count_down" B0 f fd)(m:Meth K bw "count_down" f)(aX:unop%d2 0)(yk:Cl P w K mg base "lessened" k 2 t2):cV P w K mg base bw 0 "count_down" (k+1) 2 tR:=
 hK F age (unop%bY F) m unop%lm
  (bD (T4 (j:=11) aX (aW 0) (bL 1)) (bD (fZ (j:=9) aX (aW 0) (hJ yk ax (aI (iX (j:=9) aX (aW 0)) (aI (bL 1) bA)))) (bD (fZ (j:=6) aX (aW 0) (hJ yk ax (aI (iX (j:=6) aX (aW 0)) (aI (bL 1) bA)))) (bG (fZ (j:=2) aX (aW 0) (hJ yk ax (aI (iX (j:=2) aX (aW 0)) (aI (bL 1) bA))))))))
abbrev BZ:Stmt:=e' (top 17) 14
def Qs:cO ["self","zone"] ["self"] (bx BZ):=unop%du 0
def Ku(F:cG K "end_coming" "Course.end_coming" BZ f fd)(m:Meth K bw "end_coming" f)(aX:unop%d2 0)(pB:cV P w K mg base bw 0 "alarm" k 2 lH):cV P w K mg base bw 0 "end_coming" (k+1) 1 xZ:=
 hK F Qs (unop%bM F) m unop%lm
  (bD (eu 1 Qs.a8 (iX (j:=3) aX (aW 0))) (bD (fZ (j:=1) aX (aW 0) b3) (bD (fZ (j:=3) aX (aW 0) amK) (bG (eB (eZ aX pB ax (aW 0) (aI (bL 1) bA)))))))
abbrev B1:Stmt:=e' (top 17) 12
def agj:cO ["self"] ["self"] (bx B1):=unop%du 0
def Kz(F:cG K "end_time" "Course.end_time" B1 f fd)(m:Meth K bw "end_time" f)(aX:unop%d2 0)(xY:cV P w K mg base bw 0 "end_leaving" k 1 tP)(Ku:cV P w K mg base bw 0 "end_coming" k 1 xZ):cV P w K mg base bw 0 "end_time" (k+1) 1 vA:=
 hK F agj (unop%bM F) m unop%lm
  (bG (dQ (binop%gz (gq (j:=1) aX (aW 0)) (ay b3)) (bG (eB (pF aX xY ax (aW 0)))) (bG (eB (pF aX Ku ax (aW 0))))))
abbrev Cb:Stmt:=e' (top 17) 10
def QF:cO ["self","many","rest"] ["self","many"] (bx Cb):=unop%du 0
def KP(F:cG K "ticks" "Course.ticks" Cb f fd)(m:Meth K bw "ticks" f)(aX:unop%d2 0)(x1:cV P w K mg base bw 0 "count_down" k 2 tR)(Kz:cV P w K mg base bw 0 "end_time" k 1 vA):cV P w K mg base bw 0 "ticks" (k+1) 2 rQ:=
 hK F QF (unop%bY F) m unop%lm
  (bD (dQ (hM (yZ.or yq) yP (a4 1) (ay aU)) (bG L5) fa) (bG (dQ (m7 (DE (hM (yN (by exact ax.units)) pH (gq (j:=1) aX (aW 0)) (ay (dD (aI b3 (aI b3 bA))))) (Dr (hM (ML.or Lq) Mx (gq (j:=2) aX (aW 0)) (a4 1))))) (bD (eu 2 QF.a8 (yY (a4 1) (gq (j:=2) aX (aW 0)))) (bD (eB (eZ aX x1 ax (aW 0) (aI (iX (j:=2) aX (aW 0)) bA))) (bD (eB (pF aX Kz ax (aW 0))) (bG (eB (eZ aX x1 ax (aW 0) (aI (bL 2) bA))))))) (bG (eB (eZ aX x1 ax (aW 0) (aI (bL 1) bA)))))))
abbrev B8:Stmt:=e' (top 17) 2
def agu:cO ["self","event"] ["self","event"] (bx B8):=unop%du 0
def KL(F:cG K "happen" "Course.happen" B8 f fd)(m:Meth K bw "happen" f)(aX:unop%d2 0)(KY:cV P w K mg base bw 0 "line" k 3 yc)(KZ:cV P w K mg base bw 0 "code" k 4 rR)(KP:cV P w K mg base bw 0 "ticks" k 2 rQ):cV P w K mg base bw 0 "happen" (k+1) 2 rO:=
 hK F agu (unop%bY F) m unop%lm
  (bG (dQ (binop%gz (ay (cu (a4 1) (ay aU))) (ay b3)) (bG (eB (eZ aX KY ax (aW 0) (aI (cu (a4 1) (ay aU)) (aI (cu (a4 1) (ay aU)) bA))))) (bG (dQ (binop%gz (ay (cu (a4 1) (ay aU))) (ay b3)) (bG (eB (eZ aX KZ ax (aW 0) (aI (cu (a4 1) (ay aU)) (aI (cu (a4 1) (ay aU)) (aI (cu (a4 1) (ay aU)) bA)))))) (bG (eB (eZ aX KP ax (aW 0) (aI (cu (a4 1) (ay aU)) bA))))))))
abbrev Ct:Stmt:=top 18
def K0:cO ["plan","state","row","course","event"] ["plan","state","row"] (bx Ct):=unop%du 0
def K5(ts:List T)(s:aJ)(h:pD ts=some s):∃c os,s=.obj .own c os:=ai0 (b:=K') h
def tZ(F:cG K "course_of" "course_of" Ct f fd)(m:mg "course_of"=some (.ref f))(aX:unop%d2 0)(Xv:pN P w K mg base "Course" bw 0 k 3 x4)(KL:cV P w K mg base bw 0 "happen" k 2 rO):pO P w K mg base "course_of" (k+2) 3 pD:=
 alx F K0 (unop%dy F) m unop%lm
  (bD (Mq 3 K0.a8 (DM aX Xv ax (aI (bL 0) (aI (bL 1) bA)))) (bD (qF amS (lO (bL 2)) (gO 4 K0.a8) (bG (eB (eZ aX KL (ax.mono (mu _)) (aW 3) (aI (bL 4) bA))))) (bG (akP (aW 3)))))
abbrev Dj:Stmt:=top 22
def aiX:cO ["plan","state","row"] ["plan","state","row"] (bx Dj):=unop%du 0
def Mg(F:cG K "story" "story" Dj f fd)(m:mg "story"=some (.ref f))(aX:unop%d2 0)(fb:mg "tuple"=none)(tZ:pO P w K mg base "course_of" k 3 pD):Cl P w K mg base "story" (k+1) 3 yE:=
 lP F aiX (unop%dy F) m unop%lm
  (bG (eA (amN fb (h9 (ay (RZ (j:=12) aX (Mz tZ K5 ax (aI (bL 0) (aI (bL 1) (aI (bL 2) bA)))))) iB))))
abbrev CZ:Stmt:=e' (top 26) 10
def ahE:cO ["self"] ["self"] (bx CZ):=unop%du 0
def t9(F:cG K "row" "Box.row" CZ f fd)(m:Meth K cU "row" f)(cN:unop%d2 1)(fb:mg "tuple"=none):fl P w K mg base cU "row" (k+1) 1 mA:=
 pI F ahE (unop%bM F) m unop%lm
  (bG (eA (amN fb (h9 (gq (j:=1) cN (aW 0)) iB))))
abbrev C0:Stmt:=e' (top 26) 8
def ahF:cO ["self"] ["self"] (bx C0):=unop%du 0
def LD(F:cG K "log" "Box.log" C0 f fd)(m:Meth K cU "log" f)(cN:unop%d2 1)(Mg:Cl P w K mg base "story" k 3 yE)(t9:fl P w K mg base cU "row" k 1 mA):fl P w K mg base cU "log" (k+1) 1 t5:=
 pI F ahF (unop%bM F) m unop%lm
  (bG (eA (hJ Mg ax (aI (iX (j:=0) cN (aW 0)) (aI (cu (gq (j:=2) cN (aW 0)) (ay aU)) (aI (qz cN t9 ax (aW 0)) bA))))))
abbrev CW:Stmt:=top 35
def ahD:cO ["_law_box"] ["_law_box"] (bx CW):=unop%du 0
def am4(F:cG K "_law_asked" "_law_asked" CW f fd)(m:mg "_law_asked"=some (.ref f))(cN:unop%d2 1)(rS:fl P w K mg base cU "state" k 1 my)(K9:fl P w K mg base cU "shown" k 1 tY)(LD:fl P w K mg base cU "log" k 1 t5)(t9:fl P w K mg base cU "row" k 1 mA):qK P w K mg base "_law_asked" (k+1) 1 kW:=
 alw F ahD (unop%bM F) m unop%lm
  (bG (eA (dD (aI (qz cN rS ax (aW 0)) (aI (qz cN K9 ax (aW 0)) (aI (qz cN LD ax (aW 0)) (aI (qz cN t9 ax (aW 0)) bA)))))))
abbrev yy:Stmt:=top 20
def aiW:cO ["plan","state","event"] ["plan","state","event"] (bx yy):=unop%du 0
def Mf(F:cG K "words" "words" yy f fd)(m:mg "words"=some (.ref f))(aX:unop%d2 0)(fb:mg "tuple"=none)(tZ:pO P w K mg base "course_of" k 3 pD):Cl P w K mg base "words" (k+1) 3 yD:=
 lP F aiW (unop%dy F) m unop%lm
  (bG (eA (amN fb (h9 (ay (r0 (own:=["past","word","name"]) (caps:=[]) (binop%co yy ["plan","state","event"]) (lO (RZ (j:=12) aX (Mz tZ K5 ax (aI (bL 0) (aI (bL 1) (aI (dD (aI (bL 2) bA)) bA)))))) (unop%ft (y2 (ov (gO 0 (unop%a8 ["past","word","name"])) (ov (gO 1 (unop%a8 ["past","word","name"])) (ov (gO 2 (unop%a8 ["past","word","name"])) y3))))) (unop%ft uk) (unop%ft (dD (aI (bL 1) (aI (bL 2) bA)))))) iB))))
abbrev Cc:Stmt:=e' (top 17) 1
def x8:cO ["self","lines","shunts","alarms","used"] ["self"] (bx Cc):=unop%du 0
def KQ(F:cG K "state" "Course.state" Cc f fd)(m:Meth K bw "state" f)(aX:unop%d2 0)(fb:mg "tuple"=none):fl P w K mg base bw "state" (k+1) 1 x':=
 pI F x8 (unop%bM F) m unop%lm
  (bD (eu 1 x8.a8 (Tn (j:=4) aX rfl fb (aW 0))) (bD (eu 2 x8.a8 (amN fb (h9 (gq (j:=5) aX (aW 0)) iB))) (bD (eu 3 x8.a8 (amN fb (h9 (gq (j:=7) aX (aW 0)) iB))) (bD (eu 4 x8.a8 (Tn (j:=10) aX rfl fb (aW 0))) (bG (eA (dD (aI (iX (j:=1) aX (aW 0)) (aI (iX (j:=2) aX (aW 0)) (aI (iX (j:=3) aX (aW 0)) (aI (bL 1) (aI (bL 2) (aI (iX (j:=6) aX (aW 0)) (aI (bL 3) (aI (iX (j:=8) aX (aW 0)) (aI (iX (j:=9) aX (aW 0)) (aI (bL 4) bA)))))))))))))))))
abbrev Du:Stmt:=top 19
def ajQ:cO ["plan","state","event"] ["plan","state","event"] (bx Du):=unop%du 0
def ME(F:cG K "gone" "gone" Du f fd)(m:mg "gone"=some (.ref f))(aX:unop%d2 0)(KQ:fl P w K mg base bw "state" k 1 x')(tZ:pO P w K mg base "course_of" k 3 pD):Cl P w K mg base "gone" (k+1) 3 yU:=
 lP F ajQ (unop%dy F) m unop%lm
  (bG (eA (alT aX KQ ax (Mz tZ K5 ax (aI (bL 0) (aI (bL 1) (aI (dD (aI (bL 2) bA)) bA)))))))
abbrev Cm:Stmt:=e' (top 26) 1
def KS:cO ["self","event","told","behind"] ["self","event"] (bx Cm):=unop%du 0
def tW(F:cG K "happen" "Box.happen" Cm f fd)(m:Meth K cU "happen" f)(cN:unop%d2 1)(Mf:Cl P w K mg base "words" k 3 yD)(ME:Cl P w K mg base "gone" k 3 yU)(rS:fl P w K mg base cU "state" k 1 my):cV P w K mg base cU 1 "happen" (k+1) 2 pC:=
 hK F KS (unop%bY F) m unop%lm
  (bD (eu 2 KS.a8 (hJ Mf ax (aI (iX (j:=0) cN (aW 0)) (aI (qz cN rS ax (aW 0)) (aI (bL 1) bA))))) (bD (eu 3 KS.a8 (hJ ME ax (aI (iX (j:=0) cN (aW 0)) (aI (qz cN rS ax (aW 0)) (aI (bL 1) bA))))) (bD (Dv (j:=1) cN (aW 0) (bL 1)) (bD (Dv (j:=2) cN (aW 0) (bL 3)) (bG (akQ (bL 2)))))))
abbrev Cu:Stmt:=e' (top 26) 4
def agZ:cO ["self","many"] ["self","many"] (bx Cu):=unop%du 0
def K8(F:cG K "ticks" "Box.ticks" Cu f fd)(m:Meth K cU "ticks" f)(cN:unop%d2 1)(tW:cV P w K mg base cU 1 "happen" k 2 pC):cV P w K mg base cU 1 "ticks" (k+1) 2 yg:=
 hK F agZ (unop%bY F) m unop%lm
  (bG (vS (eZ cN tW ax (aW 0) (aI (dD (aI b3 (aI (bL 1) bA))) bA))))
abbrev B_:Stmt:=e' (top 26) 5
def agw:cO ["self","zone"] ["self","zone"] (bx B_):=unop%du 0
def ana(F:cG K "need_zone" "Box.need_zone" B_ f fd)(m:Meth K cU "need_zone" f)(cN:unop%d2 1)(t8:Cl P w K mg base "kind_of" k 2 qx):fl P w K mg base cU "need_zone" (k+1) 2 rP:=
 pI F agw (unop%bY F) m unop%lm
  (bG (MI (hJ t8 ax (aI (iX (j:=0) cN (aW 0)) (aI (bL 1) bA)))))
abbrev CI:Stmt:=e' (top 26) 2
def ahi:cO ["self","zone","what"] ["self","zone","what"] (bx CI):=unop%du 0
def Lg(F:cG K "line" "Box.line" CI f fd)(m:Meth K cU "line" f)(cN:unop%d2 1)(ana:fl P w K mg base cU "need_zone" k 2 rP)(tW:cV P w K mg base cU 1 "happen" k 2 pC):cV P w K mg base cU 1 "line" (k+1) 3 yi:=
 hK F ahi (unop%dy F) m unop%lm
  (bD (MI (uc cN ana ax (aW 0) (aI (bL 1) bA))) (bG (vS (eZ cN tW ax (aW 0) (aI (dD (aI b3 (aI (bL 1) (aI (bL 2) bA)))) bA)))))
abbrev CJ:Stmt:=e' (top 26) 3
def ahj:cO ["self","figures","deed","zone"] ["self","figures","deed","zone"] (bx CJ):=unop%du 0
def Lh(F:cG K "code" "Box.code" CJ f fd)(m:Meth K cU "code" f)(cN:unop%d2 1)(tW:cV P w K mg base cU 1 "happen" k 2 pC)(ana:fl P w K mg base cU "need_zone" k 2 rP){uL:af}(abj:mg "DEEDS_OF_ZONES"=some (.ref uL))(afT:∃(o:Obj) (its:Array aj) (n:Nat),K.lookup uL=some o/\o.cls=.type "tuple"/\o.data=.seq its n/\its.size<=cA/\Vals ((["shunt","free"]:List Str).map V.str) its.toList):cV P w K mg base cU 1 "code" (k+1) 4 yj:=
 hK F ahj (unop%kE F) m unop%lm
  (bD (dQ (m7 (w_or (akN (a4 3)) (r_ (hM (yN (by exact ax.units)) pH (a4 2) (ay (JM abj afT)))))) (bG (MI (uc cN ana ax (aW 0) (aI (bL 3) bA)))) fa) (bG (vS (eZ cN tW ax (aW 0) (aI (dD (aI b3 (aI (bL 1) (aI (bL 2) (aI (bL 3) bA))))) bA)))))
abbrev CH:Stmt:=top 36
def ahh:cO ["_law_box","_law_event_here"] ["_law_box","_law_event_here"] (bx CH):=unop%du 0
def yl(F:cG K "_law_box_do" "_law_box_do" CH f fd)(m:mg "_law_box_do"=some (.ref f))(cN:unop%d2 1)(K8:cV P w K mg base cU 1 "ticks" k 2 yg)(Lg:cV P w K mg base cU 1 "line" k 3 yi)(Lh:cV P w K mg base cU 1 "code" k 4 yj):so P w K mg base "_law_box_do" 1 0 (k+1) 2 ng:=
 aly F ahh (unop%bY F) m unop%lm
  (bD (dQ (binop%gz (ay (cu (a4 1) (ay aU))) (ay b3)) (bG (vS (eZ cN Lg ax (aW 0) (aI (cu (a4 1) (ay aU)) (aI (cu (a4 1) (ay aU)) bA))))) fa) (bD (dQ (binop%gz (ay (cu (a4 1) (ay aU))) (ay b3)) (bG (vS (eZ cN Lh ax (aW 0) (aI (cu (a4 1) (ay aU)) (aI (cu (a4 1) (ay aU)) (aI (cu (a4 1) (ay aU)) bA)))))) fa) (bG (vS (eZ cN K8 ax (aW 0) (aI (cu (a4 1) (ay aU)) bA))))))
abbrev yh:Stmt:=e' (top 26) 9
def Q5:cO ["self"] ["self"] (bx yh):=unop%du 0
def ym(F:cG K "undo" "Box.undo" yh f fd)(m:Meth K cU "undo" f)(cN:unop%d2 1):cV P w K mg base cU 1 "undo" (k+1) 1 lI:=
 hK F Q5 (unop%bM F) m unop%lm
  (bD (dQ (UA (Mm (gq (j:=1) cN (aW 0)))) (bG Te) fa) (bD (T3 (j:=1) cN (aW 0)) (bG (T3 (j:=2) cN (aW 0)))))
def Cr{k:Nat}{f:af}{fd:et}(F:cG K "undo" "Box.undo" yh f fd)(m:Meth K cU "undo" f){l1 xz lC h5 m8:af}(amD:wt K mg l1 xz lC h5 m8)(eU:uJ K l1 xz lC h5 m8 h5 2)(cN:unop%d2 1) :su P w K mg base cU "undo" h5 (k+1) 1 oi:=
 alg F Q5 (unop%bM F) m unop%lm
  (QL (agm (UA (Mm (gq (j:=1) cN (aW 0)))) (QL (ajK amD.a8 eU.new b3 ax.hd)) agn))
abbrev om:Stmt:=top 34
def rU:cO ["_law_deed","_law_found","e","_law_kinds"] ["_law_deed"] (bx om):=unop%du 0
def Sv{K:a6}{f:af}{fd:et}(F:cG K "_law_told" "_law_told" om f fd):fG K fd ["_law_deed"] []:=F.binds (ps:=["_law_deed"]) λ_ _ _ _ _ _ us aE=>match us,aE with|[_],_=>rfl
def Se{f:af}(bN:aj)(A:cH)(outer:List Env)(s:aH)(H:aw):fT (e3 dt P w K mg base ["_law_deed","_law_found","e","_law_kinds"] "_law_told" (bx om) f bN A outer s H jO).ey (fv om) (MG (e3 dt P w K mg base ["_law_deed","_law_found","e","_law_kinds"] "_law_told" (bx om) f bN A outer s H jO).ey):=
 vI (ak3 (ud (uo rU.a8 rfl (Or.inl rfl) (yK (fu yL (fu (aj8 (aW 0)) h_)))))) (ud (uq (aW 1)))
def Sd{f C l1 xz lC h5 m8:af}{j:Nat}(amD:wt K mg l1 xz lC h5 m8)(R:uJ K l1 xz lC h5 m8 C j)(bN:aj)(A:cH)(outer:List Env)(s:aH)(H:aw):fT (e3 dt P w K mg base ["_law_deed","_law_found","e","_law_kinds"] "_law_told" (bx om) f bN A outer s H jO).ey (fv om) (Dt (e3 dt P w K mg base ["_law_deed","_law_found","e","_law_kinds"] "_law_told" (bx om) f bN A outer s H jO).ey C j):=
 akM amD R (λc8 E=>ud (uo rU.a8 rfl (Or.inl rfl) (yK (fu yL (fu (ai_ (aW 0)) h_)))))
  (λea=>vI (uo rU.a8 rfl (Or.inl rfl) (T_ (fu (yM R.ok amD.nY (aW 2) (vM (by rfl) amD.nz (by rfl))) (fu (yM R.ok amD.nY (aW 2) (vM (by rfl) amD.nw (by rfl))) (fu (yM R.ok amD.nY (aW 2) (vM (by rfl) amD.a8 (by rfl))) (fu (yM R.ok amD.nY (aW 2) (vM (by rfl) amD.nt (by rfl))) h_)))))) (vI (uo rU.a8 rfl (Or.inl rfl) (yK (fu yL (fu (UK TX Mw) h_)))) (ud (DJ (T6 (T7 (yM R.ok amD.nY (aW 2) (aj_ (by rfl) amD.val PyProof.Rows.Boot.«ValueError» (by rfl)))) (To (L8 al0 (DK xV PySem.F.slot_list_count PySem.F.type_list_count ajk (aW 3) (fu MK h_)) Mw (DA _)))).pt (ud (uo rU.a8 rfl (Or.inl rfl) (yK (fu yL (fu (DK xV PySem.F.slot_list_index PySem.F.type_list_index aik (aW 3) (fu MK h_)) h_))))) Tp)))) (aW 1) rU.a8
abbrev ky:Stmt:=top 37
def lJ:cO ["_law_script","_law_plan_here","_law_number","_law_row_here","_law_box","_law_told_here","_law_back","_law_k","_law_other","_law_event_here","_law_many","_law_again","_law_kept"] ["_law_script"] (bx ky):=unop%du 0
def al6{k:Nat}{f pX amM:af}{gD:aj}{eI an:Option af}{lu:Array (Option aj)}{dN doc pm cR:aj}(l:K.lookup f=some ⟨gD,eI,.func (ml "law" "law" (ot ky) (fv ky) (bx ky) .none dN doc pm an (.ref pX) cR),lu⟩)(fz:amZ K (.ref pX) "law"=true)(uZ:vu K pX amM=true)(jU:oC mg base)(rm:(amM,(("law":Str)++".<locals>.")++"<lambda>")∈cI.df)(w_:∀p∈cI.df,p.1=amM->p.2=(("law":Str)++".<locals>.")++"<lambda>"){l1 xz lC h5 m8:af}(amD:wt K mg l1 xz lC h5 m8)(eU:uJ K l1 xz lC h5 m8 h5 2)(Cr:su P w K mg base cU "undo" h5 k 1 oi)(cN:unop%d2 1)(LX:Cl P w K mg base "_law_plan" k 1 Dg)(C6:Cl P w K mg base "_law_mixed" k 2 rV)(Mh:Cl P w K mg base "_law_row" k 3 yF)(FY:pN P w K mg base "Box" cU 1 k 2 og)(lM:mg "range"=none)(am4:qK P w K mg base "_law_asked" k 1 kW)(yl:so P w K mg base "_law_box_do" 1 0 k 2 ng)(iD:mg "len"=none)(ym:cV P w K mg base cU 1 "undo" k 1 lI){OC:af}{Zq:et}(za:cG K "_law_told" "_law_told" om OC Zq)(Pq:mg "_law_told"=some (.ref OC))(t9:fl P w K mg base cU "row" k 1 mA)(yG:Cl P w K mg base "begun" k 1 qD):eR P w K mg base dt (k+3) f (ml "law" "law" (ot ky) (fv ky) (bx ky) .none dN doc pm an (.ref pX) cR) ["_law_script"] (spT K 1 wb):=
 akw l fz lJ λA outer s H E ax=>
  (bD (eu 1 lJ.a8 (hJ LX (ax.mono (h8 _ 2)) (aI (hJ C6 (ax.mono (h8 _ 2)) (aI (bL 0) (aI aU bA))) bA))) (bD (eu 2 lJ.a8 (hJ C6 (ax.mono (h8 _ 2)) (aI (bL 0) (aI aU bA)))) (bD (eu 3 lJ.a8 (hJ Mh (ax.mono (h8 _ 2)) (aI (bL 1) (aI (bL 2) (aI aU bA))))) (bD (Mq 4 lJ.a8 (DM cN FY (ax.mono (mu _)) (aI (bL 1) bA))) (bD (Tg 5 lJ.a8 (TF (y:="_law_event_here") (ho:=["_law_script","_law_plan_here","_law_number","_law_row_here","_law_box","_law_told_here","_law_back","_law_k","_law_other","._law_event_here","_law_many","_law_again","_law_kept"]) (sc:=bx ky) ["_law_script","_law_plan_here","_law_number","_law_row_here","_law_box","_law_told_here","_law_back","_law_k","_law_other","_law_event_here","_law_many","_law_again","_law_kept"] rfl rfl rfl (by decide +kernel) (by decide +kernel)) (lO (bL 3)) (λ_ _ _ _ _ _=>by exact (L3 cN yl (ax.mono (h8 _ 2)) (aW 6) (aI (bL 0) bA)))) (bD (eu 6 lJ.a8 (gJ (ay (iC (a4 2) (ay aU))) (ay (jJ (ay (qH (by exact iD) (h9 (a4 3) iB))) (ay aU))))) (bD (qF amS (DB lM (a4 6)) (gO 7 lJ.a8) (bG (UH (Uz (Dx (by exact ax.units)) Dy (Tc za rU (Sv za) Pq (λbN A outer s H=>Se bN A outer s H) (λbN A outer s H=>Sd amD eU bN A outer s H) rfl uZ jU rm w_ ax (λq dn cl DV eN s2 ba s7=>by exact (pF cN ym s7 (aW 4))) (λq dn cl DV eN s2 ba Vz s7=>by exact (Tb cN Cr s7 (aW 4)))) (TS (dD (aI b3 (aI amK bA))))) (bG (eA tm)) fa))) (bD (Mq 8 lJ.a8 (DM cN FY (ax.mono (mu _)) (aI (bL 1) bA))) (bD (qF amS (lO (vL (a4 3) zev (vX (ay (yY (ay (qH (by exact iD) (h9 (a4 3) iB))) (a4 6)))))) (gO 9 lJ.a8) (bG (eB (L3 cN yl (ax.mono (h8 _ 2)) (aW 8) (aI (bL 9) bA))))) (bD (dQ (m7 (w_or (binop%pb (ay (Dl am4 (ax.mono (h8 _ 2)) (zj (aW 4) DC))) (ay (Dl am4 (ax.mono (h8 _ 2)) (zj (aW 8) DC)))) (r_ (binop%pb (ay (qz cN t9 (ax.mono (h8 _ 2)) (aW 4))) (ay (vL (a4 3) zev (vX (ay (yY (ay (qH (by exact iD) (h9 (a4 3) iB))) (a4 6)))))))))) (bG (eA tm)) fa) (bD (eu 10 lJ.a8 (yY (ay (qH (by exact iD) (h9 (a4 3) iB))) (a4 6))) (bD (Tg 11 lJ.a8 (TF (y:="_law_event_here") (ho:=["_law_script","_law_plan_here","_law_number","_law_row_here","_law_box","_law_told_here","_law_back","_law_k","_law_other","._law_event_here","_law_many","_law_again","_law_kept"]) (sc:=bx ky) ["_law_script","_law_plan_here","_law_number","_law_row_here","_law_box","_law_told_here","_law_back","_law_k","_law_other","_law_event_here","_law_many","_law_again","_law_kept"] rfl rfl rfl (by decide +kernel) (by decide +kernel)) (lO (vL (a4 3) (vX (a4 10)) zev)) (λ_ _ _ _ _ _=>by exact (L3 cN yl (ax.mono (h8 _ 2)) (aW 6) (aI (bL 0) bA)))) (bD (dQ (binop%pb (a4 11) (ay (vL (a4 5) (vX (a4 10)) zev))) (bG (eA tm)) fa) (bD (qF amS (DB lM (ay (qH (by exact iD) (h9 (a4 3) iB)))) (gO 7 lJ.a8) (bG (eB (pF cN ym (ax.mono (h8 _ 2)) (aW 4))))) (bD (eu 12 lJ.a8 (Dl am4 (ax.mono (h8 _ 2)) (zj (aW 4) DC))) (bD (dQ (m7 (w_or (binop%pb (ay (cu (a4 12) (ay aU))) (ay (hJ yG (ax.mono (h8 _ 2)) (aI (bL 1) bA)))) (r_ (binop%pb (ay (vL (a4 12) (vX (ay aU)) zev)) (ay (dD (aI (dD bA) (aI (dD bA) bA)))))))) (bG (eA tm)) fa) (bD (UH (Uz (Dx (by exact ax.units)) Dy (Tc za rU (Sv za) Pq (λbN A outer s H=>Se bN A outer s H) (λbN A outer s H=>Sd amD eU bN A outer s H) rfl uZ jU rm w_ ax (λq dn cl DV eN s2 ba s7=>by exact (pF cN ym s7 (aW 4))) (λq dn cl DV eN s2 ba Vz s7=>by exact (Tb cN Cr s7 (aW 4)))) (TS (dD (aI b3 (aI aU bA))))) (bG (eA tm)) fa) (bG (eA (MJ (pL (yO (by exact ax.units)) yQ (ay (Dl am4 (ax.mono (h8 _ 2)) (zj (aW 4) DC))) (a4 12)) (Mu (pL (yO (by exact ax.units)) yQ (ay (ai3 cN am4 (ax.mono (h8 _ 2)) (DM cN FY (ax.mono (mu _)) (aI (bL 1) bA)))) (a4 12)))))))))))))))))))))))
end
end pT
end
section
namespace D
open PySem
def ajg(ss:List Str)(h:∀x∈ss,(amJ x).canLay0=true):lG (ss.map .str)=true/\kq (ss.map .str)<=1:=by
 induction ss with
|nil=>simp[lG,kq]
|cons n ns b1=>
  have ai:=h n (by simp);have ao:=b1 λx hx=>h x (by simp[hx]);simp[lG,kq,oa,ai,ao]
theorem LS(n:Str):∀ns:List Str,p8 (.str n) (ns.map .str)=decide (n∈ns)
| []=>by simp[p8]
|m::ns=>by
  have b1:=LS n ns;unfold p8 at b1 ⊢;rw[dr,List.any_cons,b1];simp[n',Bool.beq_eq_decide_eq,eq_comm]
def yC(n:Int):iJ (.int n)=true:=by simp[iJ,PyData.canLay0,oa]
def vN{x:Str}(h:(amJ x).canLay0=true):iJ (.str x)=true:=by simp[iJ,oa,h]
def R3(ss:List Str)(h:∀x∈ss,(amJ x).canLay0=true):ti (ss.map .str)=true:=by
 have:=ajg ss h;simp[ti,this.1];omega
def akh(neg:Bool)(n:Str)(ns:List Str)(h0:(amJ n).canLay0=true)(h:∀x∈ns,(amJ x).canLay0=true):gQ neg (.str n) (.tuple (ns.map .str))=some (.bool (if neg then !decide (n∈ns) else decide (n∈ns))):=by
 simp only[gQ,vN h0,R3 ns h,LS,Bool.and_self,if_true]
end D
end
section
namespace cb
open D PySem
structure hP where
 fK:Str
 jB:Str
 m1:List Str
 uses:Int
structure a0 where
 cL:List (Str×Str)
 codes:List hP
 leave:Int
 pY:Int
 loud:Int
structure aQ where
 mode:Str
 left:Int
 g_:Option Str
 lines:List (Str×Str)
 dW:List Str
 fY:Int
 dh:List Str
 tries:Int
 locked:Int
 used:List (Str×Int)
 past:Int
 told:List (Int×Str×Option Str)
noncomputable def fi:Option Str->T
|none=>.none
|some x=>.str x
def eD(z:Str×Str):T:=.tuple [.str z.1,.str z.2]
noncomputable def dT(c:hP):T:=.tuple [.str c.fK,.str c.jB,.tuple (c.m1.map .str),.int c.uses]
noncomputable def b7(p:a0):T:=.tuple [.tuple (p.cL.map eD),.tuple (p.codes.map dT),.tuple [.int p.leave,.int p.pY,.int p.loud]]
noncomputable def mM(w:Int×Str×Option Str):T:=.tuple [.int w.1,.str w.2.1,fi w.2.2]
noncomputable def ik(l:List (Str×Str)):List (D.Key×T):=l.map λp=>(.inr p.1,.str p.2)
noncomputable def ij(l:List (Str×Int)):List (D.Key×T):=l.map λp=>(.inr p.1,.int p.2)
noncomputable def encC(p:a0)(c:aQ):List aJ:=[.ag (b7 p),.ag (.str c.mode),.ag (.int c.left),.ag (fi c.g_),.hr (ik c.lines),.own (c.dW.map .str),.ag (.int c.fY),.own (c.dh.map .str),.ag (.int c.tries),.ag (.int c.locked),.hr (ij c.used),.ag (.int c.past),.own (c.told.map mM)]
def QM:¬(("off":Str)="leaving"):=by decide +kernel
def SV:¬(("off":Str)="on"):=by decide +kernel
def Cp:¬(("off":Str)="coming"):=by decide +kernel
def QN:¬(("leaving":Str)="off"):=by decide +kernel
def QY:¬(("leaving":Str)="on"):=by decide +kernel
def KD:¬(("leaving":Str)="coming"):=by decide +kernel
def SU:¬(("on":Str)="off"):=by decide +kernel
def QW:¬(("on":Str)="leaving"):=by decide +kernel
def Cz:¬(("on":Str)="coming"):=by decide +kernel
def Q0:¬(("coming":Str)="off"):=by decide +kernel
def QC:¬(("coming":Str)="leaving"):=by decide +kernel
def Rd:¬(("coming":Str)="on"):=by decide +kernel
def Q8:¬(("shut":Str)="open"):=by decide +kernel
def RC:¬(("shut":Str)="cut"):=by decide +kernel
def Q_:¬(("open":Str)="shut"):=by decide +kernel
def RD:¬(("open":Str)="cut"):=by decide +kernel
def RH:¬(("cut":Str)="shut"):=by decide +kernel
def RI:¬(("cut":Str)="open"):=by decide +kernel
def Rc:¬(("day":Str)="inner"):=by decide +kernel
def RG:¬(("day":Str)="once"):=by decide +kernel
def R8:¬(("day":Str)="way"):=by decide +kernel
def Rb:¬(("inner":Str)="day"):=by decide +kernel
def QZ:¬(("inner":Str)="once"):=by decide +kernel
def Ra:¬(("inner":Str)="way"):=by decide +kernel
def RF:¬(("once":Str)="day"):=by decide +kernel
def QV:¬(("once":Str)="inner"):=by decide +kernel
def RE:¬(("once":Str)="way"):=by decide +kernel
def R7:¬(("way":Str)="day"):=by decide +kernel
def Q7:¬(("way":Str)="inner"):=by decide +kernel
def RB:¬(("way":Str)="once"):=by decide +kernel
def Q9:¬(("set":Str)="unset"):=by decide +kernel
def K6:¬(("set":Str)="shunt"):=by decide +kernel
def CK:¬(("set":Str)="free"):=by decide +kernel
def Cx:¬(("unset":Str)="set"):=by decide +kernel
def KU:¬(("unset":Str)="shunt"):=by decide +kernel
def Co:¬(("unset":Str)="free"):=by decide +kernel
def Cy:¬(("shunt":Str)="set"):=by decide +kernel
def yb:¬(("shunt":Str)="unset"):=by decide +kernel
def QU:¬(("shunt":Str)="free"):=by decide +kernel
def CL:¬(("free":Str)="set"):=by decide +kernel
def ye:¬(("free":Str)="unset"):=by decide +kernel
def yf:¬(("free":Str)="shunt"):=by decide +kernel
def Q':¬(("line":Str)="code"):=by decide +kernel
def QX:¬(("line":Str)="ticks"):=by decide +kernel
def Rf:¬(("code":Str)="line"):=by decide +kernel
def Q1:¬(("code":Str)="ticks"):=by decide +kernel
def QS:¬(("ticks":Str)="line"):=by decide +kernel
def QT:¬(("ticks":Str)="code"):=by decide +kernel
noncomputable def tell(w:Str)(n:Option Str)(c:aQ):aQ:={c with told:=c.told++[(c.past,w,n)]}
noncomputable def k_(p:a0)(c:aQ):aQ:={c with fY:=p.loud}
noncomputable def gj(p:a0)(z:Str)(c:aQ):aQ:=if z∈c.dh then k_ p c else tell "alarm" (some z) {k_ p c with dh:=c.dh++[z]}
section
variable (p:a0)(c:aQ)
def DR:(encC p c).length=13:=rfl
def cm:(encC p c)[0]?=some (.ag (b7 p)):=rfl
def aD:(encC p c)[1]?=some (.ag (.str c.mode)):=rfl
def aL:(encC p c)[2]?=some (.ag (.int c.left)):=rfl
def eM:(encC p c)[3]?=some (.ag (fi c.g_)):=rfl
def ip:(encC p c)[4]?=some (.hr (ik c.lines)):=rfl
def zv:(encC p c)[5]?=some (.own (c.dW.map .str)):=rfl
def uT:(encC p c)[6]?=some (.ag (.int c.fY)):=rfl
def q0:(encC p c)[7]?=some (.own (c.dh.map .str)):=rfl
def anc:(encC p c)[8]?=some (.ag (.int c.tries)):=rfl
def q1:(encC p c)[9]?=some (.ag (.int c.locked)):=rfl
def zt:(encC p c)[10]?=some (.hr (ij c.used)):=rfl
def zu:(encC p c)[11]?=some (.ag (.int c.past)):=rfl
def uR:(encC p c)[12]?=some (.own (c.told.map mM)):=rfl
def s1(x:Str):(encC p c).set 1 (.ag (.str x))=encC p {c with mode:=x}:=rfl
def s2(x:Int):(encC p c).set 2 (.ag (.int x))=encC p {c with left:=x}:=rfl
def s3(x:Str):(encC p c).set 3 (.ag (.str x))=encC p {c with g_:=some x}:=rfl
def Bn:(encC p c).set 3 (.ag .none)=encC p {c with g_:=none}:=rfl
def s4(l:List (Str×Str)):(encC p c).set 4 (.hr (ik l))=encC p {c with lines:=l}:=rfl
def s5(l:List Str):(encC p c).set 5 (.own (l.map .str))=encC p {c with dW:=l}:=rfl
def Bo:(encC p c).set 5 (.own [])=encC p {c with dW:=[]}:=rfl
def j0(x:Int):(encC p c).set 6 (.ag (.int x))=encC p {c with fY:=x}:=rfl
def eO(l:List Str):(encC p c).set 7 (.own (l.map .str))=encC p {c with dh:=l}:=rfl
def Bq:(encC p c).set 7 (.own [])=encC p {c with dh:=[]}:=rfl
def Bp(l:List Str)(z:Str):(encC p c).set 7 (.own (l.map .str++[.str z]))=encC p {c with dh:=l++[z]}:=by simp[encC]
def gZ(x:Int):(encC p c).set 8 (.ag (.int x))=encC p {c with tries:=x}:=rfl
def ve(x:Int):(encC p c).set 9 (.ag (.int x))=encC p {c with locked:=x}:=rfl
def Bk(l:List (Str×Int)):(encC p c).set 10 (.hr (ij l))=encC p {c with used:=l}:=rfl
def Bl(x:Int):(encC p c).set 11 (.ag (.int x))=encC p {c with past:=x}:=rfl
def Bm(l:List (Int×Str×Option Str))(i:Int)(w:Str)(n:Option Str):(encC p c).set 12 (.own (l.map mM++[.tuple [.int i,.str w,fi n]]))=encC p {c with told:=l++[(i,w,n)]}:=by simp[encC,mM]
end
end cb
open D cb
open PySem hiding run fresh code
local macro_rules
| `(tactic| simp! [h3,$xs,*] $[$l]?)=>`(tactic| simp[DR,cm,aD,aL,eM,ip,zv,uT,q0,anc,q1,zt,zu,uR,s1,s2,s3,Bn,s4,s5,Bo,j0,eO,Bq,Bp,gZ,ve,Bk,Bl,Bm,runM,gE,kv,j6,dj,cS,ef,rA,qG,i',eV,j9,pW,l2,gF,dq,fld,fL,nR,k',nQ,sb,sj,qI,se,wz,qd,jI,eJ,seq,iff,bS,iy,iF,fA,i7,f6,ofT,e7,ar,b9,args,ak,nm,aZ,cP,skip,asg,l3,l4,par,bV,g7,jX,jK,bg,gL,hY,cw,fp,gV,fO,comp,j8,$xs,*] $[$l]?)
local macro_rules
| `(tactic| simp! [iN,$xs,*] $[$l]?)=>`(tactic| simp[eJ,seq,iff,bS,iy,iF,fA,i7,f6,ofT,e7,ar,b9,args,ak,nm,aZ,cP,skip,asg,l3,l4,par,bV,g7,jX,jK,bg,gL,hY,cw,fp,gV,fO,comp,j8,$xs,*] $[$l]?)
| `(tactic| simp! [iN] $[$l]?)=>`(tactic| simp[eJ,seq,iff,bS,iy,iF,fA,i7,f6,ofT,e7,ar,b9,args,ak,nm,aZ,cP,skip,asg,l3,l4,par,bV,g7,jX,jK,bg,gL,hY,cw,fp,gV,fO,comp,j8] $[$l]?)
local macro_rules
| `(tactic| simp! [jb,$xs,*] $[$l]?)=>`(tactic| simp[ek,nZ,gX,oDiv,oMod,rv,gC,PG,xq,g6,UM,PF,oLt,oLe,i8,u',big,DR,cm,aD,aL,eM,ip,zv,uT,q0,anc,q1,zt,zu,uR,s1,s2,s3,Bn,s4,s5,Bo,j0,eO,Bq,Bp,gZ,ve,Bk,Bl,Bm,runM,gE,kv,j6,dj,cS,ef,rA,qG,i',eV,j9,pW,l2,gF,dq,fld,fL,nR,k',nQ,sb,sj,qI,se,wz,qd,jI,eJ,seq,iff,bS,iy,iF,fA,i7,f6,ofT,e7,ar,b9,args,ak,nm,aZ,cP,skip,asg,l3,l4,par,bV,g7,jX,jK,bg,gL,hY,cw,fp,gV,fO,comp,j8,$xs,*] $[$l]?)
local macro_rules
| `(tactic| simp! [pe,$xs,*] $[$l]?)=>`(tactic| simp[runM,gE,kv,j6,dj,cS,ef,rA,qG,i',eV,j9,pW,l2,gF,dq,fld,fL,nR,k',nQ,sb,sj,qI,se,wz,qd,jI,eJ,seq,iff,bS,iy,iF,fA,i7,f6,ofT,e7,ar,b9,args,ak,nm,aZ,cP,skip,asg,l3,l4,par,bV,g7,jX,jK,bg,gL,hY,cw,fp,gV,fO,comp,j8,$xs,*] $[$l]?)
local macro_rules
| `(tactic| simp! [hE,$xs,*] $[$l]?)=>`(tactic| simp[DR,cm,aD,aL,eM,ip,zv,uT,q0,anc,q1,zt,zu,uR,s1,s2,s3,Bn,s4,s5,Bo,j0,eO,Bq,Bp,gZ,ve,Bk,Bl,Bm,runM,gE,kv,j6,dj,cS,ef,rA,qG,i',eV,j9,pW,l2,gF,dq,fld,fL,nR,k',nQ,sb,sj,qI,se,wz,qd,jI,QM,SV,Cp,QN,QY,KD,SU,QW,Cz,Q0,QC,Rd,Q8,RC,Q_,RD,RH,RI,Rc,RG,R8,Rb,QZ,Ra,RF,QV,RE,R7,Q7,RB,Q9,K6,CK,Cx,KU,Co,Cy,yb,QU,CL,ye,yf,Q',QX,Rf,Q1,QS,QT,eJ,seq,iff,bS,iy,iF,fA,i7,f6,ofT,e7,ar,b9,args,ak,nm,aZ,cP,skip,asg,l3,l4,par,bV,g7,jX,jK,bg,gL,hY,cw,fp,gV,fO,comp,j8,$xs,*] $[$l]?)
local macro_rules
| `(tactic| simp! [J3,$xs,*] $[$l]?)=>`(tactic| simp[ek,nZ,gX,oDiv,oMod,rv,gC,PG,xq,g6,UM,PF,oLt,oLe,i8,u',big,eJ,seq,iff,bS,iy,iF,fA,i7,f6,ofT,e7,ar,b9,args,ak,nm,aZ,cP,skip,asg,l3,l4,par,bV,g7,jX,jK,bg,gL,hY,cw,fp,gV,fO,comp,j8,$xs,*] $[$l]?)
local macro_rules
| `(tactic| simp! [afC,$xs,*] $[$l]?)=>`(tactic| simp[runM,gE,kv,j6,dj,cS,ef,rA,qG,i',eV,j9,pW,l2,gF,dq,fld,fL,nR,k',nQ,sb,sj,qI,se,wz,qd,jI,$xs,*] $[$l]?)
local macro_rules
| `(tactic| simp! [afD,$xs,*] $[$l]?)=>`(tactic| simp[DR,cm,aD,aL,eM,ip,zv,uT,q0,anc,q1,zt,zu,uR,s1,s2,s3,Bn,s4,s5,Bo,j0,eO,Bq,Bp,gZ,ve,Bk,Bl,Bm,$xs,*] $[$l]?)
local macro_rules
| `(tactic| simp! [fN,$xs,*] $[$l]?)=>`(tactic| simp[eJ,seq,iff,bS,iy,iF,fA,i7,f6,ofT,e7,ar,b9,args,ak,nm,aZ,cP,skip,asg,l3,l4,par,bV,g7,jX,jK,cw,fp,gV,fO,comp,j8,$xs,*] $[$l]?)
| `(tactic| simp! [fN] $[$l]?)=>`(tactic| simp[eJ,seq,iff,bS,iy,iF,fA,i7,f6,ofT,e7,ar,b9,args,ak,nm,aZ,cP,skip,asg,l3,l4,par,bV,g7,jX,jK,cw,fp,gV,fO,comp,j8] $[$l]?)
local macro_rules
| `(tactic| simp! [P7,$xs,*] $[$l]?)=>`(tactic| simp[QM,SV,Cp,QN,QY,KD,SU,QW,Cz,Q0,QC,Rd,Q8,RC,Q_,RD,RH,RI,Rc,RG,R8,Rb,QZ,Ra,RF,QV,RE,R7,Q7,RB,Q9,K6,CK,Cx,KU,Co,Cy,yb,QU,CL,ye,yf,Q',QX,Rf,Q1,QS,QT,eJ,seq,iff,bS,iy,iF,fA,i7,f6,ofT,e7,ar,b9,args,ak,nm,aZ,cP,skip,asg,l3,l4,par,bV,g7,jX,jK,bg,gL,hY,cw,fp,gV,fO,comp,j8,$xs,*] $[$l]?)
namespace cb
open D PySem
def cE(x:Str):Prop:=(amJ x).canLay0=true
def dC{x y:Str}(ai:cE x)(ao:cE y):oEq (.str x) (.str y)=some (.bool (decide (x=y))):=by
 unfold oEq;rw[vN ai,vN ao];by_cases e:x=y <;> simp[n',e]
def oq{x y:Str}(ai:cE x)(ao:cE y):fW (.str x) (.str y)=some (.bool (!decide (x=y))):=by
 unfold fW;rw[vN ai,vN ao];by_cases e:x=y <;> simp[n',e]
def yx(neg:Bool){n:Str}{ns:List Str}(h0:cE n)(h:∀x∈ns,cE x):gQ neg (.str n) (.list (ns.map .str))=some (.bool (if neg then !decide (n∈ns) else decide (n∈ns))):=by
 simp only[gQ,vN h0,R3 ns h,LS];rfl
def yw(neg:Bool){n:Str}{ns:List Str}(h0:cE n)(h:∀x∈ns,cE x):gQ neg (.str n) (.tuple (ns.map .str))=some (.bool (if neg then !decide (n∈ns) else decide (n∈ns))):=akh neg n ns h0 h
def Td(p:a0)(c:aQ)(w:Str)(n:Option Str)(h:c.told.length<big):gf [.obj .cy 0 (encC p c),.ag (.str w),.ag (fi n)]=some (.none,encC p (tell w n c)):=by
 have h':c.told.length<16777216:=h;simp! [h3,gf,QP,tell,big,h']
def CR(p:a0)(c:aQ)(w:Str)(h:c.told.length<big):gf [.obj .cy 0 (encC p c),.ag (.str w),.ag .none]=some (.none,encC p (tell w none c)):=Td p c w none h
def qw(p:a0)(c:aQ)(w z:Str)(h:c.told.length<big):gf [.obj .cy 0 (encC p c),.ag (.str w),.ag (.str z)]=some (.none,encC p (tell w (some z) c)):=Td p c w (some z) h
def Li(p:a0)(c:aQ):tU [.obj .cy 0 (encC p c)]=some (.none,encC p (k_ p c)):=by
 simp! [h3,tU,QE,k_,b7]
structure a3(p:a0)(c:aQ):Prop where
 zn:∀z∈p.cL,cE z.1/\cE z.2
 fm:∀k∈p.codes,cE k.fK/\cE k.jB/\∀r∈k.m1,cE r
 fk:p.cL.length<=40
 mo:cE c.mode
 ca:∀z,c.g_=some z->cE z/\z∈p.cL.map (·.1)
 kF:c.mode="coming"->c.g_≠none
 ln:c.lines.map (·.1)=p.cL.map (·.1)
 lo:∀l∈c.lines,cE l.2
 us:c.used.map (·.1)=p.codes.map (·.fK)
 h1:c.dW.Nodup/\∀z∈c.dW,z∈p.cL.map (·.1)
 al:c.dh.Nodup/\∀z∈c.dh,z∈p.cL.map (·.1)
def a3.kk{p:a0}{c:aQ}(h:a3 p c){z:Str}(aq:z∈p.cL.map (·.1)):cE z:=by
 obtain⟨x,hx,rfl⟩:=en.mp aq;exact (h.zn x hx).1
def a3.va{p:a0}{c:aQ}(h:a3 p c):∀z∈c.dW,cE z:=λz aq=>h.kk (h.h1.2 z aq)
def a3.PK{p:a0}{c:aQ}(h:a3 p c):∀z∈c.dh,cE z:=λz aq=>h.kk (h.al.2 z aq)
def R5{α:Type}[BEq α][LawfulBEq α]{l m:List α}(h:l.Nodup)(av:∀x∈l,x∈m):l.length<=m.length:=by
 induction l generalizing m with
|nil=>simp
|cons x l b1=>
  obtain⟨ai,ao⟩:=gR.mp h;have hx:=av x gb;have:=b1 (m:=m.erase x) ao λy a_=>(List.mem_erase_of_ne (λe:y=x=>ai (e▸a_))).mpr (av y (dR _ a_));have aE:=List.length_erase_of_mem hx;have:=List.length_pos_of_mem hx;simp only[e_];omega
def a3.Nf{p:a0}{c:aQ}(h:a3 p c):c.dh.length<=40:=by
 have:=R5 h.al.1 h.al.2;have:=h.fk;simp at *;omega
def a3.P4{p:a0}{c:aQ}(h:a3 p c):c.dW.length<=40:=by
 have:=R5 h.h1.1 h.h1.2;have:=h.fk;simp at *;omega
def Di(p:a0)(c:aQ)(z:Str)(h:a3 p c)(aq:cE z)(bh:c.told.length<big):lH [.obj .cy 0 (encC p c),.ag (.str z)]=some (.none,encC p (gj p z c)):=by
 have aB:=h.Nf;have rd:gQ true (.str z) (.list (c.dh.map .str))=some (.bool (!decide (z∈c.dh))):=by rw[yx true aq h.PK];rfl
 have aa:(k_ p c).dh=c.dh:=rfl;have e1:c.dh.length<16777216:=by omega
 by_cases hm:z∈c.dh
 ·simp! [h3,lH,KR,Li,aa,rd,hm,gj]
 ·have kn:({k_ p c with dh:=c.dh++[z]}:aQ).told.length<big:=bh;simp! [h3,lH,KR,Li,aa,rd,hm,gj,big,e1,qw p _ "alarm" z kn]
noncomputable def kindOf(p:a0)(z:Str):Str:=((p.cL.find? λx=>decide (x.1=z)).map (·.2)).getD ""
noncomputable def yV(p:a0)(f:Str):Option hP:=p.codes.find? λk=>decide (k.fK=f)
theorem R_{z:Str}(aq:cE z)(s0:Option aJ):∀(zs:List (Str×Str)) (t0:Option aJ),(∀x∈zs,cE x.1)->z∈zs.map (·.1)->forL (cw 2) (iff (bS (ar oEq (ar bg (nm 2) (ak (.int 0))) (nm 1))) (cP (ar bg (nm 2) (ak (.int 1)))) skip) (zs.map eD) [s0,some (.ag (.str z)),t0]=some (.er (.str (((zs.find? λx=>decide (x.1=z)).map (·.2)).getD "")))
| [],t0,_,h=>by simp at h
|x::zs,t0,aF,h=>by
  have e:=dC (aF x (by simp)) aq;by_cases hx:x.1=z
  ·simp! [iN,forL,eD,hx,dC aq aq]
  ·have h':z∈zs.map (·.1):=by
    rw[dr] at h;rcases cM.mp h with q|q
    ·exact absurd q.symm hx
    ·exact q
   have b1:=R_ aq s0 zs (some (.ag (eD x))) (λy a_=>aF y (dR _ a_)) h';simp[eD] at b1;simp! [iN,forL,eD,hx,e];simpa [eJ,seq,iff,bS,iy,iF,fA,i7,f6,ofT,e7,ar,b9,args,ak,nm,aZ,cP,skip,asg,l3,l4,par,bV,g7,jX,jK,bg,gL,hY,cw,fp,gV,fO,comp,j8] using b1
def Le{p:a0}{z:Str}(aF:∀x∈p.cL,cE x.1/\cE x.2)(aq:z∈p.cL.map (·.1)):qx [b7 p,.str z]=some (.str (kindOf p z)):=by
 obtain⟨x,hx,rfl⟩:=en.mp aq;have:=R_ (aF x hx).1 (some (.ag (b7 p))) p.cL none (λy a_=>(aF y a_).1) aq;simp! [iN,qx,Sx,gU,b7] at this ⊢;simp[this,kindOf]
noncomputable def uV:Option hP->T
|none=>.none
|some k=>dT k
theorem Sl{f:Str}(hf:cE f)(s0:Option aJ):∀(bp:List hP) (t0:Option aJ),(∀k∈bp,cE k.fK)->forL (cw 2) (iff (bS (ar oEq (ar bg (nm 2) (ak (.int 0))) (nm 1))) (cP (nm 2)) skip) (bp.map dT) [s0,some (.ag (.str f)),t0] =
   match bp.find? λk=>decide (k.fK=f) with
   |some k=>some (.er (dT k))
   |none=>some (.bO [s0,some (.ag (.str f)),(bp.getLast?.map λk=>aJ.ag (dT k)).elim t0 some])
| [],t0,_=>by simp[forL]
|k::bp,t0,aF=>by
  have e:=dC (aF k (by simp)) hf;by_cases hx:k.fK=f
  ·simp! [iN,forL,dT,hx,dC hf hf]
  ·have b1:=Sl hf s0 bp (some (.ag (dT k))) (λy a_=>aF y (dR _ a_));simp only[dr,forL];simp! [iN,dT,hx,e] at b1 ⊢;rw[b1];cases bp with
   |nil=>simp
   |cons iI bp=>simp[List.getLast?_cons]
def ahW{p:a0}{f:Str}(aF:∀k∈p.codes,cE k.fK)(hf:cE f):yr [b7 p,.str f]=some (uV (yV p f)):=by
 have:=Sl hf (some (.ag (b7 p))) p.codes none aF;simp! [iN,yr,Sy,gU,b7] at this ⊢;rw[this];unfold yV;cases e:p.codes.find? λk=>decide (k.fK=f) with
|none=>simp[uV]
|some k=>simp[uV]
noncomputable def ou(c:aQ)(z:Str):Str:=(c.lines.lookup z).getD ""
noncomputable def m2(l:List (Str×Str))(z w:Str):List (Str×Str):=l.map λp=>if p.1=z then (z,w) else p
noncomputable def TV(c:aQ)(f:Str):Int:=(c.used.lookup f).getD 0
noncomputable def qT(l:List (Str×Int))(f:Str):List (Str×Int):=l.map λp=>if p.1=f then (f,p.2+1) else p
theorem Up{z:Str}:∀{l:List (Str×Str)},z∈l.map (·.1)->getD (ik l) (.inr z)=some (.str ((l.lookup z).getD ""))
  | [],h=>by simp at h
  | (k,v)::l,h=>by
    by_cases e:k=z
    · subst e
      simp[getD,ik,jC]
    · have h':z∈l.map (·.1):=by
        rw[dr] at h;rcases cM.mp h with q|q
        · exact absurd q.symm e
        · exact q
      have b1:=Up h';have ne:(z==k)=false:=beq_eq_false_iff_ne.mpr (Ne.symm e);simp only[getD,ik,dr,qq] at b1 ⊢;rw[decide_eq_false (λq=>e (Sum.inr.inj q))];simp only[jC,ne];exact b1
theorem MB{z:Str}:∀{l:List (Str×Int)},z∈l.map (·.1)->getD (ij l) (.inr z)=some (.int ((l.lookup z).getD 0))
  | [],h=>by simp at h
  | (k,v)::l,h=>by
    by_cases e:k=z
    · subst e
      simp[getD,ij,jC]
    · have h':z∈l.map (·.1):=by
        rw[dr] at h;rcases cM.mp h with q|q
        · exact absurd q.symm e
        · exact q
      have b1:=MB h';have ne:(z==k)=false:=beq_eq_false_iff_ne.mpr (Ne.symm e);simp only[getD,ij,dr,qq] at b1 ⊢;rw[decide_eq_false (λq=>e (Sum.inr.inj q))];simp only[jC,ne];exact b1
def al9{z:Str}{l:List (Str×Str)}(h:z∈l.map (·.1)):(ik l).any (λp=>decide (p.1=(Sum.inr z:D.Key)))=true:=by
 obtain⟨x,hx,rfl⟩:=en.mp h;rw[List.any_eq_true];exact⟨(.inr x.1,.str x.2),en.mpr ⟨x,hx,rfl⟩,by simp⟩
def al_{z:Str}{l:List (Str×Int)}(h:z∈l.map (·.1)):(ij l).any (λp=>decide (p.1=(Sum.inr z:D.Key)))=true:=by
 obtain⟨x,hx,rfl⟩:=en.mp h;rw[List.any_eq_true];exact⟨(.inr x.1,.int x.2),en.mpr ⟨x,hx,rfl⟩,by simp⟩
def ak0{z w:Str}{l:List (Str×Str)}(h:z∈l.map (·.1)):putD (ik l) (.inr z) (.str w)=ik (m2 l z w):=by
 unfold putD;rw[al9 h,if_pos rfl];simp only[ik,m2,tK];refine List.map_congr_left λx _=>?_;by_cases e:x.1=z
 ·simp[e]
 ·have:¬(Sum.inr x.1:D.Key)=Sum.inr z:=λq=>e (Sum.inr.inj q);simp[e,this]
def ak1{z:Str}{l:List (Str×Int)}(h:z∈l.map (·.1))(a8:(l.map (·.1)).Nodup):putD (ij l) (.inr z) (.int ((l.lookup z).getD 0+1))=ij (qT l z):=by
 unfold putD;rw[al_ h,if_pos rfl];simp only[ij,qT,tK];refine List.map_congr_left λx hx=>?_;by_cases e:x.1=z
 ·have:∀{l:List (Str×Int)},x∈l->(l.map (·.1)).Nodup->l.lookup x.1=some x.2:=by
   intro l
   induction l with
   |nil=>intro h;simp at h
   |cons y l b1=>
    intro h a8;rcases cM.mp h with rfl|h
    ·simp[jC]
    ·rw[dr,gR] at a8;have ne:(x.1==y.1)=false:=beq_eq_false_iff_ne.mpr λq=>a8.1 (q▸en.mpr ⟨x,h,rfl⟩);simp only[jC,ne];exact b1 h a8.2
  have aE:=this hx a8;subst e;simp[aE]
 ·have:¬(Sum.inr x.1:D.Key)=Sum.inr z:=λq=>e (Sum.inr.inj q);simp[e,this]
theorem v5{α:Type}{cc:fS}{gm:bH}{caps:Ev}(enc:α->T)(q:α->Bool)(f:α->T):∀(ts:List α) (s0:Option aJ),(∀a∈ts,cc (some (.ag (enc a))::caps)=some (q a)/\(q a=true->gm (some (.ag (enc a))::caps)=some (f a)))->gT (cw 0) cc gm (ts.map enc) (s0::caps)=some ((ts.filter q).map f)
| [],_,_=>rfl
|a::ts,s0,h=>by
  obtain⟨ai,ao⟩:=h a (by simp);have b1:=v5 enc q f ts (some (.ag (enc a))) λb aa=>h b (dR _ aa);simp only[dr,gT,cw,jg,c5,ai];cases bb:q a with
  |false=>simp[b1,bb]
  |true=>simp[b1,bb,ao bb]
noncomputable def bare(p:a0)(kinds:List Str)(c:aQ):List Str:=((p.cL.filter λz=>decide (z.2∈kinds)).map (·.1)).filter λz=>decide (ou c z≠"shut") && !decide (z∈c.dW)
def br(x:Str)(h:(amJ x).canLay0=true:=by decide +kernel):cE x:=h
theorem RK{α:Type}{z:Str}:∀{l:List (Str×α)} {v:α},l.lookup z=some v->(z,v)∈l
  | [],v,h=>by cases h
  | (k,x)::l,v,h=>by
    rw[kS] at h;split at h
    next q=>
      cases h
      have:z=k:=by simpa using q
      subst this;simp
    next=>exact dR _ (RK h)
def a3.xt{p:a0}{c:aQ}(h:a3 p c)(z:Str):cE (ou c z):=by
 unfold ou;cases e:c.lines.lookup z with
|none=>exact br ""
|some v=>exact h.lo _ (RK e)
def a3.Pm{p:a0}{c:aQ}(h:a3 p c){z:Str}(aq:z∈p.cL.map (·.1)):getD (ik c.lines) (.inr z)=some (.str (ou c z)):=Up (by rw[h.ln];exact aq)
def TK(p:a0)(c:aQ)(bp:List Str)(m:gr)(h:a3 p c)(aK:∀k∈bp,cE k):tS [.obj m 0 (encC p c),.ag (.tuple (jI bp))]=some (.list ((bare p bp c).map .str)):=by
 have An:=h.fk;have cY:=v5 (cc:=bS (ar (gQ false) (ar bg (nm 0) (ak (.int 1))) (nm 1))) (gm:=ar bg (nm 0) (ak (.int 0))) (caps:=[some (.ag (.tuple (jI bp)))]) eD (λz=>decide (z.2∈bp)) (λz=>.str z.1) p.cL none λz aq=>by
  have:=yw false (h.zn z aq).2 aK;simp at this;constructor
  ·simp! [iN,eD,jI,this]
  ·intro _;simp! [iN,eD]
 have dn:=v5 (cc:=iF (bS (ar fW (nQ 0 1 4 (nm 0)) (ak (.str "shut")))) (bS (ar (gQ true) (nm 0) (fld 0 1 5)))) (gm:=aZ 0) (caps:=[some (.obj m 0 (encC p c))]) amJ (λz=>decide (ou c z≠"shut") && !decide (z∈c.dW)) amJ ((p.cL.filter λz=>decide (z.2∈bp)).map (·.1)) none λz aq=>by
  have Pc:z∈p.cL.map (·.1):=by
   obtain⟨x,hx,rfl⟩:=en.mp aq;exact en.mpr ⟨x,(List.mem_filter.mp hx).1,rfl⟩
  have aD:=h.Pm Pc;have aL:=oq (h.xt z) (br "shut");have eM:=yx true (h.kk Pc) h.va;simp at eM;constructor
  ·by_cases av:ou c z="shut"
   ·simp! [h3,ib,aD,aL,av,oq (br "shut") (br "shut")]
   ·simp! [h3,ib,aD,aL,eM,av]
  ·intro _;simp! [iN]
 have cg:(p.cL.map eD).length<=16777216:=by simp;omega
 have ck:(((p.cL.filter λz=>decide (z.2∈bp)).map λz=>amJ z.1)).length<=16777216:=by
  rw[hi];have:=BN (λz:Str×Str=>decide (z.2∈bp)) p.cL;omega
 simp only[tK,n9] at dn;simp only[tS,Qx,gE,kv];simp! [h3,b7] at cY dn ⊢;have sT:p.cL.length<=big:=by unfold big;omega
 have mT:(p.cL.filter λz=>decide (z.2∈bp)).length<=big:=by
  have:=BN (λz:Str×Str=>decide (z.2∈bp)) p.cL;omega
 rw[if_pos sT,cY];simp only[gd,c5,ks,jE,Function.comp_apply,hi,mT,if_true,Option.join_some];rw[dn];simp[bare]
noncomputable def kG(p:a0)(z k:Str)(c:aQ):aQ:=if k≠"way"\/p.pY<=0 then gj p z c else tell "coming" (some z) {c with mode:="coming",left:=p.pY,g_:=some z}
noncomputable def l6(p:a0)(z w:Str)(c:aQ):aQ:=
 if kindOf p z="day" then gj p z c
 else if c.mode="off" then (if w="cut" then tell "fault" (some z) c else c)
 else if w="cut"\/kindOf p z="once" then gj p z c
 else if c.mode="on" then kG p z (kindOf p z) c else c
noncomputable def line(p:a0)(z w:Str)(c:aQ):aQ:=
 if w=ou c z then c
 else if w="shut" then (if ou c z="cut" then tell "mended" (some z) {c with lines:=m2 c.lines z w} else {c with lines:=m2 c.lines z w})
 else if z∈c.dW then {c with lines:=m2 c.lines z w} else l6 p z w {c with lines:=m2 c.lines z w}
def ahV(p:a0)(c:aQ)(z k:Str)(h:a3 p c)(aq:cE z)(aK:cE k)(bh:c.told.length<big):tT [.obj .cy 0 (encC p c),.ag (.str z),.ag (.str k)]=some (.none,encC p (kG p z k c)):=by
 have e:=oq aK (br "way");have ea:=Di p c z h aq bh;by_cases ai:k="way"
 ·by_cases ao:p.pY<=0
  ·simp! [jb,tT,B7,b7,e,ai,ao,ea,kG];simp! [pe,oq (br "way") (br "way"),ea,ao]
  ·have bC:=qw p {c with mode:="coming",left:=p.pY,g_:=some z} "coming" z bh;simp! [jb,tT,B7,b7,ai,ao,kG];simp! [jb,oq (br "way") (br "way"),bC,ao,b7]
 ·simp! [jb,tT,B7,b7,e,ai,ea,kG]
def ahT(p:a0)(c:aQ)(z w:Str)(h:a3 p c)(aq:z∈p.cL.map (·.1))(hw:cE w)(bh:c.told.length<big):x5 [.obj .cy 0 (encC p c),.ag (.str z),.ag (.str w)]=some (.none,encC p (l6 p z w c)):=by
 have gy:=Le h.zn aq;have GU:cE (kindOf p z):=by
  unfold kindOf;cases e:p.cL.find? λx=>decide (x.1=z) with
  |none=>exact br ""
  |some x=>exact (h.zn x (List.mem_of_find?_eq_some e)).2
 have ea:=Di p c z h (h.kk aq) bh;have bC:=qw p c "fault" z bh;have fe:=ahV p c z (kindOf p z) h (h.kk aq) GU bh;have aP:=dC GU (br "day");have a9:=dC h.mo (br "off");have de:=dC hw (br "cut");have jZ:=dC GU (br "once");have tl:=dC h.mo (br "on");simp only[x5,QD,l6];by_cases ai:kindOf p z="day"
 ·simp! [hE,gy,aP,ai,ea];simp! [pe,dC (br "day") (br "day"),ea]
 ·by_cases ao:c.mode="off"
  ·by_cases bE:w="cut"
   ·simp! [hE,gy,aP,ai,a9,ao,de,bE,bC,dC (br "off") (br "off"),dC (br "cut") (br "cut")]
   ·simp! [hE,gy,aP,ai,a9,ao,de,bE,bC,dC (br "off") (br "off")]
  ·by_cases bE:w="cut"
   ·simp! [hE,gy,aP,ai,a9,ao,de,bE,ea,dC (br "cut") (br "cut")]
   ·by_cases c4:kindOf p z="once"
    ·simp! [hE,gy,aP,ai,a9,ao,de,bE,jZ,c4,ea,dC (br "once") (br "once"),dC (br "once") (br "day")]
    ·by_cases f':c.mode="on"
     ·simp! [hE,gy,aP,ai,a9,ao,de,bE,jZ,c4,tl,f',fe,dC (br "on") (br "on"),dC (br "on") (br "off")]
     ·simp! [hE,gy,aP,ai,a9,ao,de,bE,jZ,c4,tl,f',fe]
def ah8(l:List (Str×Str))(z w:Str):(m2 l z w).map (·.1)=l.map (·.1):=by
 unfold m2;rw[tK];refine List.map_congr_left λx _=>?_;by_cases e:x.1=z <;> simp[e]
def aiJ(l:List (Str×Int))(z:Str):(qT l z).map (·.1)=l.map (·.1):=by
 unfold qT;rw[tK];refine List.map_congr_left λx _=>?_;by_cases e:x.1=z <;> simp[e]
def a3.P1{p:a0}{c:aQ}(h:a3 p c)(z:Str){w:Str}(hw:cE w):a3 p {c with lines:=m2 c.lines z w}:=
 ⟨h.zn,h.fm,h.fk,h.mo,h.ca,h.kF,(ah8 _ _ _).trans h.ln,λl aE=>by
  obtain⟨x,hx,rfl⟩:=en.mp aE;by_cases e:x.1=z
  ·rw[if_pos e];exact hw
  ·rw[if_neg e];exact h.lo x hx,h.us,h.h1,h.al⟩
theorem a3.tell{p:a0}{c:aQ}(h:a3 p c)(w:Str)(n:Option Str):a3 p (cb.tell w n c):=⟨h.zn,h.fm,h.fk,h.mo,h.ca,h.kF,h.ln,h.lo,h.us,h.h1,h.al⟩
def a3.loud{p:a0}{c:aQ}(h:a3 p c):a3 p (k_ p c):=⟨h.zn,h.fm,h.fk,h.mo,h.ca,h.kF,h.ln,h.lo,h.us,h.h1,h.al⟩
theorem a3.gj{p:a0}{c:aQ}(h:a3 p c){z:Str}(aq:z∈p.cL.map (·.1)):a3 p (cb.gj p z c):=by
 unfold cb.gj;split
 ·exact h.loud
 next hm=>
  refine a3.tell (c:={k_ p c with dh:=c.dh++[z]}) ⟨h.zn,h.fm,h.fk,h.mo,h.ca,h.kF,h.ln,h.lo,h.us,h.h1,?_,?_⟩ _ _
  ·show (c.dh++[z]).Nodup
   rw[qp];exact⟨h.al.1,by simp,λa aB b aa e=>hm (by simp at aa;subst aa;exact e▸aB)⟩
  ·intro y a_;rcases j2.mp a_ with q|q
   ·exact h.al.2 y q
   ·simp at q;exact q▸aq
def yn(p:a0)(z:Str)(c:aQ):(gj p z c).told.length<=c.told.length+1:=by
 unfold gj tell k_;split <;> simp
def aki(p:a0)(c:aQ)(z w:Str)(h:a3 p c)(aq:z∈p.cL.map (·.1))(hw:cE w)(bh:c.told.length<big):yc [.obj .cy 0 (encC p c),.ag (.str z),.ag (.str w)]=some (.none,encC p (line p z w c)):=by
 have aD:=h.Pm aq;have An:z∈c.lines.map (·.1):=by rw[h.ln];exact aq
 have aL:=ak0 (w:=w) An;have aP:=dC hw (h.xt z);have a9:=dC hw (br "shut");have de:=dC (h.xt z) (br "cut");have jZ:=yx true (h.kk aq) h.va;simp at jZ;have hlen:(ik c.lines).length<16777216:=by
  have:=congrArg List.length h.ln;have:=h.fk;simp[ik] at *;omega
 have hd:=ahT p _ z w (h.P1 z hw) aq hw bh;have bC:=qw p {c with lines:=m2 c.lines z w} "mended" z bh;simp only[yc,QQ,line];by_cases ai:w=ou c z
 ·simp! [hE,ib,aD,aP,ai,dC (h.xt z) (h.xt z)]
 ·by_cases ao:w="shut"
  ·subst ao;by_cases bE:ou c z="cut"
   ·simp! [hE,big,ib,aD,aL,aP,ai,a9,de,bE,hlen,bC,dC (br "cut") (br "cut"),dC (br "shut") (br "shut"),dC (br "shut") (br "cut")]
   ·simp! [hE,big,ib,aD,aL,aP,ai,a9,de,bE,hlen,dC (br "shut") (br "shut")]
  ·by_cases c4:z∈c.dW
   ·simp! [hE,big,ib,aD,aL,aP,ai,a9,ao,jZ,c4,hlen]
   ·simp! [hE,big,ib,aD,aL,aP,ai,a9,ao,jZ,c4,hlen,hd]
def less(a n:Int):Int:=if 0 > a - n then 0 else a - n
noncomputable def qy(n:Int)(c:aQ):aQ:={c with past:=c.past+n,locked:=less c.locked n,fY:=less c.fY n,left:=less c.left n}
def ahm(a n:Int):t2 [.int a,.int n]=some (.int (less a n)):=by
 simp! [J3,t2,RT,less]
def KX(p:a0)(c:aQ)(n:Int):tR [.obj .cy 0 (encC p c),.ag (.int n)]=some (.none,encC p (qy n c)):=by
 simp! [h3,tR,Qw,ahm,qy]
noncomputable def dh(p:a0)(zs:List Str)(c:aQ):aQ:=zs.foldl (λc z=>gj p z c) c
noncomputable def kH(p:a0)(c:aQ):aQ:=dh p (bare p ["inner","way"] (tell "on" none {c with mode:="on",left:=0})) (tell "on" none {c with mode:="on",left:=0})
noncomputable def p4(p:a0)(c:aQ):aQ:=gj p (c.g_.getD "") {c with mode:="on",g_:=none}
noncomputable def kI(p:a0)(c:aQ):aQ:=if c.mode="leaving" then kH p c else p4 p c
noncomputable def e8(p:a0)(n:Int)(c:aQ):aQ:=
 if n<1 then c else if (c.mode="leaving"\/c.mode="coming")/\c.left<=n then qy (n - c.left) (kI p (qy c.left c)) else qy n c
theorem RU(p:a0):∀(zs:List Str) (c:aQ) (s1:Option aJ),a3 p c->(∀z∈zs,z∈p.cL.map (·.1))->c.told.length+zs.length<big->∃rB,forL (cw 1) (dj (cS 0 lH 0 [(aZ 1)])) (zs.map .str) [some (.obj .cy 0 (encC p c)),s1]=some (.bO [some (.obj .cy 0 (encC p (dh p zs c))),rB])
| [],c,s1,_,_,_=>⟨s1,by simp[forL,dh]⟩
|z::zs,c,s1,h,aq,bh=>by
  have Pd:=aq z (by simp);have ea:=Di p c z h (h.kk Pd) (by simp at bh;omega);have:=yn p z c;obtain⟨rB,b1⟩:=RU p zs (gj p z c) (some (.ag (.str z))) (h.gj Pd) (λy a_=>aq y (dR _ a_)) (by simp at bh;omega);refine⟨rB,?_⟩;rw[dr,forL];simp! [pe,ea];simpa [eJ,seq,iff,bS,iy,iF,fA,i7,f6,ofT,e7,ar,b9,args,ak,nm,aZ,cP,skip,asg,l3,l4,par,bV,g7,jX,jK,bg,gL,hY,cw,fp,gV,fO,comp,j8,dh] using b1
def Dh{p:a0}{bp:List Str}{c:aQ}{z:Str}(h:z∈bare p bp c):z∈p.cL.map (·.1):=by
 unfold bare at h;obtain⟨x,hx,rfl⟩:=en.mp (List.mem_filter.mp h).1;exact en.mpr ⟨x,(List.mem_filter.mp hx).1,rfl⟩
def S'(p:a0)(bp:List Str)(c:aQ):(bare p bp c).length<=p.cL.length:=by
 unfold bare;have ai:=BN (λz=>decide (ou c z≠"shut") && !decide (z∈c.dW)) ((p.cL.filter λz=>decide (z.2∈bp)).map (·.1));have ao:=BN (λz:Str×Str=>decide (z.2∈bp)) p.cL;rw[hi] at ai;omega
theorem a3.on{p:a0}{c:aQ}(h:a3 p c)(x:Int):a3 p {c with mode:="on",left:=x}:=⟨h.zn,h.fm,h.fk,br "on",h.ca,λe=>absurd e Cz,h.ln,h.lo,h.us,h.h1,h.al⟩
def QJ(p:a0)(c:aQ)(h:a3 p c)(bh:c.told.length+50<big):tP [.obj .cy 0 (encC p c)]=some (.none,encC p (kH p c)):=by
 have rF:=(h.on 0).tell "on" none;have bC:=CR p {c with mode:="on",left:=0} "on" (by show c.told.length<big;omega);have dV:=TK p (tell "on" none {c with mode:="on",left:=0}) ["inner","way"] .c1 rF (by
  intro k aK;simp at aK;rcases aK with rfl|rfl
  ·exact br "inner"
  ·exact br "way")
 have aE:=S' p ["inner","way"] (tell "on" none {c with mode:="on",left:=0});have aq:=h.fk;obtain⟨rB,lp⟩:=RU p (bare p ["inner","way"] (tell "on" none {c with mode:="on",left:=0})) (tell "on" none {c with mode:="on",left:=0}) none rF (λz aq=>Dh aq) (by
  have:(tell "on" none {c with mode:="on",left:=0}:aQ).told.length=c.told.length+1:=by simp[tell]
  omega)
 simp only[jI,dr,gc] at dV;simp! [h3,tP,Qu,bC,dV,gU];rw[lp];simp! [afC,kH]
def a3.PL{p:a0}{c:aQ}(h:a3 p c):a3 p {c with mode:="on",g_:=none}:=⟨h.zn,h.fm,h.fk,br "on",λz e=>(nomatch e),λe=>absurd e Cz,h.ln,h.lo,h.us,h.h1,h.al⟩
def agS(p:a0)(c:aQ)(h:a3 p c)(au:c.g_≠none)(bh:c.told.length<big):xZ [.obj .cy 0 (encC p c)]=some (.none,encC p (p4 p c)):=by
 obtain⟨z,aq⟩:=Option.ne_none_iff_exists'.mp au;have ea:=Di p {c with mode:="on",g_:=none} z h.PL (h.ca z aq).1 bh;simp! [h3,xZ,Qv,aq,fi,ea,p4]
def a3.cd{p:a0}{c:aQ}(h:a3 p c)(n:Int):a3 p (qy n c):=⟨h.zn,h.fm,h.fk,h.mo,h.ca,h.kF,h.ln,h.lo,h.us,h.h1,h.al⟩
def ahp(p:a0)(c:aQ)(h:a3 p c)(hm:c.mode="leaving"\/c.mode="coming")(bh:c.told.length+50<big):vA [.obj .cy 0 (encC p c)]=some (.none,encC p (kI p c)):=by
 have dK:=QJ p c h bh;have q:=dC h.mo (br "leaving");rcases hm with hm|hm
 ·simp! [hE,vA,KC,hm,dK,kI,dC (br "leaving") (br "leaving")]
 ·have eW:=agS p c h (h.kF hm) (by omega);simp! [hE,vA,KC,hm,eW,kI,dC (br "coming") (br "leaving")]
def aiO(p:a0)(c:aQ)(n:Int)(h:a3 p c)(bh:c.told.length+50<big):rQ [.obj .cy 0 (encC p c),.ag (.int n)]=some (.none,encC p (e8 p n c)):=by
 have q:gQ false (.str c.mode) (.tuple [.str "leaving",.str "coming"])=some (.bool (decide (c.mode="leaving"\/c.mode="coming"))):=by
  have:=yw false (n:=c.mode) (ns:=["leaving","coming"]) h.mo (by
   intro k aK;simp at aK;rcases aK with rfl|rfl
   ·exact br "leaving"
   ·exact br "coming")
  simpa using this
 have dK:=KX p c c.left;have f7:=KX p c n;by_cases ai:n<1
 ·simp! [jb,rQ,ya,ai,e8]
 ·by_cases ao:c.mode="leaving"\/c.mode="coming"
  ·by_cases bE:c.left<=n
   ·have eW:=ahp p (qy c.left c) (h.cd _) ao bh;have mL:=KX p (kI p (qy c.left c)) (n - c.left);rw[decide_eq_true ao] at q;simp only[e8,if_neg ai,if_pos (And.intro ao bE)];simp! [jb,rQ,ya,ai,q,bE,dK,eW,mL]
   ·rw[decide_eq_true ao] at q;simp only[e8,if_neg ai,if_neg (λz:(c.mode="leaving"\/c.mode="coming")/\c.left<=n=>bE z.2)];simp! [jb,rQ,ya,ai,q,bE,f7]
  ·rw[decide_eq_false ao] at q;simp only[e8,if_neg ai,if_neg (λz:(c.mode="leaving"\/c.mode="coming")/\c.left<=n=>ao z.1)];simp! [jb,rQ,ya,ai,q,f7]
noncomputable def yH(k:hP)(c:aQ):Bool:=decide (k.uses≠0) && decide (k.uses<=TV c k.fK)
noncomputable def n7(c:aQ):aQ:={tell "wrong" none c with tries:=c.tries+1}
noncomputable def j1(p:a0)(c:aQ):aQ:=if 3<=c.tries+1 then tell "attack" none (k_ p {n7 c with tries:=0,locked:=90}) else n7 c
noncomputable def mB(p:a0)(d:Str)(z:Option Str)(c:aQ):Bool:=
 if d="unset" then false else if c.mode≠"off" then true
 else if d="shunt" then decide (kindOf p (z.getD "")="day") || decide (z.getD ""∈c.dW)
 else decide (d="free") && !decide (z.getD ""∈c.dW)
noncomputable def mH(p:a0)(k:hP)(d:Str)(z:Option Str)(c:aQ):Option (Str×Str):=
 if (if d="free" then ("shunt":Str) else d)∉k.m1 then some ("denied",k.jB)
 else if mB p d z c then some ("no",k.jB)
 else if d="set"/\bare p ["day","once"] c≠[] then some ("open",(bare p ["day","once"] c).headD "") else none
noncomputable def oO(p:a0)(jB:Str)(c:aQ):aQ:=
 let cY:=tell "set" (some jB) {c with dh:=[],fY:=0,mode:="leaving",left:=p.leave}
 if p.leave<=0 then kH p cY else cY
noncomputable def sJ(jB:Str)(c:aQ):aQ:=tell "unset" (some jB) {c with mode:="off",left:=0,fY:=0,g_:=none,dW:=[]}
noncomputable def hT(p:a0)(jB d:Str)(z:Option Str)(c:aQ):aQ:=
 if d="set" then oO p jB c else if d="unset" then sJ jB c
 else if d="shunt" then tell "shunt" z {c with dW:=amG (c.dW++[z.getD ""])}
 else tell "free" z {c with dW:=c.dW.erase (z.getD "")}
noncomputable def takeRight(p:a0)(k:hP)(d:Str)(z:Option Str)(c:aQ):aQ:=match mH p k d z c with
|none=>hT p k.jB d z {c with used:=qT c.used k.fK}
|some (w,n)=>tell w (some n) c
noncomputable def code(p:a0)(f d:Str)(z:Option Str)(c:aQ):aQ:=
 if 0<c.locked then tell "locked" none c else match yV p f with
  |none=>j1 p c
  |some k=>if yH k c then j1 p c else takeRight p k d z {c with tries:=0}
def ahx(p:a0)(c:aQ)(k:hP)(h:a3 p c)(aK:k∈p.codes)(m:gr):vy [.obj m 0 (encC p c),.ag (dT k)]=some (.bool (yH k c)):=by
 have e:getD (ij c.used) (.inr k.fK)=some (.int (TV c k.fK)):=MB (by rw[h.us];exact en.mpr ⟨k,aK,rfl⟩);have q:fW (.int k.uses) (.int 0)=some (.bool (!decide (k.uses=0))):=by
  unfold fW;rw[yC,yC];by_cases e:k.uses=0 <;> simp[n',e]
 by_cases ai:k.uses=0
 ·simp! [jb,vy,Kx,dT,q,ai,nE,yH];simp[fW,yC,n']
 ·simp! [jb,vy,Kx,dT,q,ai,nE,yH,ib,e]
def agM(p:a0)(c:aQ)(bh:c.told.length+2<big):vw [.obj .cy 0 (encC p c)]=some (.none,encC p (j1 p c)):=by
 have dK:=CR p c "wrong" (by omega);have eW:=Li p {n7 c with tries:=0,locked:=90};have f7:=CR p (k_ p {n7 c with tries:=0,locked:=90}) "attack" (by simp[k_,n7,tell];omega);have w:({mode:=(tell "wrong" none c).mode,left:=(tell "wrong" none c).left,g_:=(tell "wrong" none c).g_,lines:=(tell "wrong" none c).lines,dW:=(tell "wrong" none c).dW,fY:=(tell "wrong" none c).fY,dh:=(tell "wrong" none c).dh,tries:=c.tries+1,locked:=(tell "wrong" none c).locked,used:=(tell "wrong" none c).used,past:=(tell "wrong" none c).past,told:=(tell "wrong" none c).told}:aQ)=n7 c:=rfl;have Kc:(tell "wrong" none c).tries=c.tries:=rfl;by_cases bE:3<=c.tries+1
 ·simp! [jb,vw,Kv,dK,Kc,bE,j1];simp[n7] at eW f7 ⊢;simp[eW,f7]
 ·simp! [jb,vw,Kv,dK,Kc,bE,j1,n7]
end cb
section
namespace cb
open D PySem
def a3.adv{p:a0}{c:aQ}(h:a3 p c)(z:Str):cE (kindOf p z):=by
 unfold kindOf;cases e:p.cL.find? λx=>decide (x.1=z) with
|none=>exact br ""
|some x=>exact (h.zn x (List.mem_of_find?_eq_some e)).2
def nj:(2<=big)=True:=by simp[big]
def SI:(10<=big)=True:=by simp[big]
noncomputable def n1(p:a0)(d:Str)(z:Option Str):Prop:=(d="shunt"\/d="free")->∃x,z=some x/\x∈p.cL.map (·.1)
def agH(p:a0)(c:aQ)(d:Str)(z:Option Str)(m:gr)(h:a3 p c)(hd:cE d)(aq:n1 p d z):pA [.obj m 0 (encC p c),.ag (.str d),.ag (fi z)]=some (.bool (mB p d z c)):=by
 have aP:=dC hd (br "unset");have a9:=oq h.mo (br "off");have de:=dC hd (br "shunt");have jZ:=dC hd (br "free");by_cases ai:d="unset"
 ·simp! [h3,pA,tQ,aP,ai,mB];simp[dC (br "unset") (br "unset")]
 ·by_cases ao:c.mode="off"
  ·by_cases bE:d="shunt"
   ·obtain⟨x,rfl,hx⟩:=aq (.inl bE);subst bE;have gy:=Le h.zn hx;have tl:=dC (h.adv x) (br "day");have ry:=yx false (h.kk hx) h.va;simp at ry;by_cases c4:kindOf p x="day"
    ·simp! [hE,pA,tQ,aP,ai,ao,oq (br "off") (br "off"),de,xu,fi,gy,tl,ry,c4,mB];simp[dC (br "day") (br "day")]
    ·simp! [hE,pA,tQ,aP,ai,ao,oq (br "off") (br "off"),de,xu,fi,gy,tl,ry,c4,mB]
   ·by_cases c4:d="free"
    ·obtain⟨x,rfl,hx⟩:=aq (.inr c4);subst c4;have ry:=yx true (h.kk hx) h.va;simp at ry;simp! [hE,pA,tQ,aP,ao,oq (br "off") (br "off"),de,jZ,nE,fi,ry,mB]
    ·simp! [hE,pA,tQ,aP,ai,ao,oq (br "off") (br "off"),de,bE,jZ,c4,nE,mB]
  ·simp! [h3,pA,tQ,aP,ai,a9,ao,mB]
noncomputable def q3:Option (Str×Str)->T
|none=>.none
|some (w,n)=>.tuple [.str w,.str n]
def agi(p:a0)(c:aQ)(k:hP)(d:Str)(z:Option Str)(m:gr)(h:a3 p c)(aK:k∈p.codes)(hd:cE d)(aq:n1 p d z):xX [.obj m 0 (encC p c),.ag (dT k),.ag (.str d),.ag (fi z)]=some (q3 (mH p k d z c)):=by
 have aP:=dC hd (br "free");have a9:=dC hd (br "set");have f9:=agH p c d z .c1 h hd aq;have dV:=TK p c ["day","once"] .c1 h (by
  intro k aK;simp at aK;rcases aK with rfl|rfl
  ·exact br "day"
  ·exact br "once")
 simp only[jI,dr,gc] at dV;have de:=yw true (n:=if d="free" then ("shunt":Str) else d) (ns:=k.m1) (by
  split
  ·exact br "shunt"
  ·exact hd) (h.fm k aK).2.2
 simp at de;have qr:(qd (bS (ar oEq (nm 2) (ak (.str "free")))) (ak (.str "shunt")) (aZ 2)) [some (.obj m 0 (encC p c)),some (.ag (dT k)),some (.ag (.str d)),some (.ag (fi z)),none,none]=some (.str (if d="free" then ("shunt":Str) else d)):=by
  by_cases h0:d="free"
  ·simp! [pe,aP,h0,dC (br "free") (br "free")]
  ·simp! [pe,aP,h0]
 simp only[xX,Qp,gE,kv,seq,asg,dr,gc,e_,jh,ed,vr,ob,qr,gd,c5,jD,jg];generalize ax:(if d="free" then ("shunt":Str) else d)=r at de ⊢;unfold mH;rw[ax];by_cases ai:r∈k.m1
 ·by_cases ao:mB p d z c=true
  ·simp! [h3,dT,nj,de,ai,f9,ao,q3]
  ·simp at ao;by_cases bE:d="set"
   ·subst bE;cases e:bare p ["day","once"] c with
    |nil=>
     rw[e] at dV;simp! [h3,dT,nj,de,ai,f9,ao,dV,a9,q3]
    |cons b bs=>
     rw[e] at dV;simp! [h3,dT,nj,de,ai,f9,ao,dV,a9,q3]
   ·simp! [h3,dT,nj,de,ai,f9,ao,dV,a9,bE,q3]
 ·simp! [h3,dT,nj,de,ai,q3]
def a3.Bs{p:a0}{c:aQ}(h:a3 p c)(x:Int):a3 p {c with dh:=[],fY:=0,mode:="leaving",left:=x}:=⟨h.zn,h.fm,h.fk,br "leaving",h.ca,λe=>absurd e KD,h.ln,h.lo,h.us,h.h1,by simp⟩
def aiB(p:a0)(c:aQ)(w:Str)(h:a3 p c)(bh:c.told.length+60<big):vB [.obj .cy 0 (encC p c),.ag (.str w)]=some (.none,encC p (oO p w c)):=by
 have dK:=qw p {c with dh:=[],fY:=0,mode:="leaving",left:=p.leave} "set" w (by show c.told.length<big;omega);have eW:=QJ p (tell "set" (some w) {c with dh:=[],fY:=0,mode:="leaving",left:=p.leave}) ((h.Bs p.leave).tell _ _) (by
  have:(tell "set" (some w) {c with dh:=[],fY:=0,mode:="leaving",left:=p.leave}:aQ).told.length=c.told.length+1:=by simp[tell]
  omega)
 have lf:(tell "set" (some w) {c with dh:=[],fY:=0,mode:="leaving",left:=p.leave}:aQ).left=p.leave:=rfl;by_cases ai:p.leave<=0
 ·simp! [jb,vB,KO,b7,dK,lf,ai,eW,oO]
 ·simp! [jb,vB,KO,b7,dK,lf,ai,oO]
def ahq(p:a0)(c:aQ)(w:Str)(bh:c.told.length<big):x3 [.obj .cy 0 (encC p c),.ag (.str w)]=some (.none,encC p (sJ w c)):=by
 have dK:=qw p {c with mode:="off",left:=0,fY:=0,g_:=none,dW:=[]} "unset" w bh;simp! [jb,x3,Qz,dK,sJ]
theorem Lb:∀l:List Str,um (l.map .str)=some l
| []=>rfl
|x::l=>by simp[um,Lb l]
noncomputable def Bd(p:a0)(d:Str)(z:Option Str)(c:aQ):Prop:=d="set"\/d="unset"\/(d="shunt"/\∃x,z=some x/\x∈p.cL.map (·.1))\/(d="free"/\∃x,z=some x/\x∈c.dW)
def ahR(p:a0)(c:aQ)(w d:Str)(z:Option Str)(h:a3 p c)(hd:cE d)(aq:Bd p d z c)(bh:c.told.length+60<big):rN [.obj .cy 0 (encC p c),.ag (.str w),.ag (.str d),.ag (fi z)]=some (.none,encC p (hT p w d z c)):=by
 have aP:=dC hd (br "set");have a9:=dC hd (br "unset");have de:=dC hd (br "shunt");have es:=aiB p c w h bh;have f9:=ahq p c w (by omega);rcases aq with rfl|rfl|⟨rfl,x,rfl,hx⟩|⟨rfl,x,rfl,hx⟩
 ·simp! [h3,rN,x7,aP,es,hT]
 ·simp! [hE,rN,x7,aP,a9,f9,hT]
 ·have aE:=h.P4;have dK:=qw p {c with dW:=amG (c.dW++[x])} "shunt" x (by show c.told.length<big;omega);have bM:c.dW.length+1<=big:=by unfold big;omega
  have bY:c.dW.length+1<64:=by omega
  have gw:1<=big:=by decide
  have dy:=Lb (c.dW++[x]);simp at dy;simp! [hE,rN,x7,aP,a9,de,fi,ek,gw,bM,bY,Dc,dy,dK,hT]
 ·have dK:=qw p {c with dW:=c.dW.erase x} "free" x (by show c.told.length<big;omega);simp! [hE,rN,x7,aP,a9,de,fi,Bj,Lb,hx,dK,hT]
structure Wp(p:a0):Prop where
 cd:(p.codes.map (·.fK)).Nodup
 zd:(p.cL.map (·.1)).Nodup
 cl:p.codes.length<=40
 Kc:0<=p.leave/\0<=p.pY/\0<=p.loud
def a3.add{p:a0}{c:aQ}(h:a3 p c)(f:Str):a3 p {c with used:=qT c.used f}:=⟨h.zn,h.fm,h.fk,h.mo,h.ca,h.kF,h.ln,h.lo,(aiJ _ _).trans h.us,h.h1,h.al⟩
def a3.BF{p:a0}{c:aQ}(h:a3 p c)(n:Int):a3 p {c with tries:=n}:=⟨h.zn,h.fm,h.fk,h.mo,h.ca,h.kF,h.ln,h.lo,h.us,h.h1,h.al⟩
def My{p:a0}{c:aQ}{k:hP}{d:Str}{z:Option Str}(hd:d="set"\/d="unset"\/d="shunt"\/d="free")(aq:n1 p d z)(aB:mH p k d z c=none):Bd p d z c:=by
 rcases hd with rfl|rfl|rfl|rfl
 ·exact .inl rfl
 ·exact .inr (.inl rfl)
 ·exact .inr (.inr (.inl ⟨rfl,aq (.inl rfl)⟩))
 ·refine .inr (.inr (.inr ⟨rfl,?_⟩))
  obtain⟨x,rfl,hx⟩:=aq (.inr rfl);refine⟨x,rfl,?_⟩;refine Classical.byContradiction λcn=>?_;have:mB p "free" (some x) c=true:=by
   by_cases hm:c.mode="off" <;> simp[mB,ye,yf,cn,hm]
  unfold mH at aB;rw[this] at aB;by_cases ax:(if ("free":Str)="free" then ("shunt":Str) else "free")∈k.m1
  ·rw[if_neg (λq=>q ax),if_pos rfl] at aB;cases aB
  ·rw[if_pos ax] at aB;cases aB
def agN(p:a0)(c:aQ)(k:hP)(d:Str)(z:Option Str)(h:a3 p c)(aN:Wp p)(aK:k∈p.codes)(hd:d="set"\/d="unset"\/d="shunt"\/d="free")(aq:n1 p d z)(bh:c.told.length+60<big):vx [.obj .cy 0 (encC p c),.ag (dT k),.ag (.str d),.ag (fi z)]=some (.none,encC p (takeRight p k d z c)):=by
 have eI:cE d:=by
  rcases hd with rfl|rfl|rfl|rfl
  ·exact br "set"
  ·exact br "unset"
  ·exact br "shunt"
  ·exact br "free"
 have ea:=agi p c k d z .c1 h aK eI aq;have Pl:k.fK∈c.used.map (·.1):=by rw[h.us];exact en.mpr ⟨k,aK,rfl⟩
 cases e:mH p k d z c with
|none=>
  have kL:=My hd aq e;have g1:=MB Pl;have g2:=ak1 Pl (by rw[h.us];exact aN.cd);have aE:(ij c.used).length<big:=by
   have:=congrArg List.length h.us;have:=aN.cl;simp[ij] at *;unfold big;omega
  have ff:=ahR p {c with used:=qT c.used k.fK} k.jB d z (h.add _) eI kL bh;rw[e] at ea;simp only[dT] at ea;simp! [h3,vx,Kw,ea,q3,dT,ib,g1,g2,aE,ff,takeRight,e]
|some wn=>
  obtain⟨w,n⟩:=wn;have bC:=qw p c w n (by omega);rw[e] at ea;simp only[dT] at ea;simp! [h3,vx,Kw,ea,q3,dT,bC,takeRight,e]
def RS{p:a0}{f:Str}{k:hP}(h:yV p f=some k):k∈p.codes:=List.mem_of_find?_eq_some h
def akC(p:a0)(c:aQ)(f d:Str)(z:Option Str)(h:a3 p c)(aN:Wp p)(hf:cE f)(hd:d="set"\/d="unset"\/d="shunt"\/d="free")(aq:n1 p d z)(bh:c.told.length+60<big):rR [.obj .cy 0 (encC p c),.ag (.str f),.ag (.str d),.ag (fi z)]=some (.none,encC p (code p f d z c)):=by
 have fe:=ahW (λk aK=>(h.fm k aK).1) hf;have bC:=CR p c "locked" (by omega);have nP:=agM p c (by omega);by_cases ai:0<c.locked
 ·simp! [jb,rR,yd,fe,ai,bC,code]
 ·cases e:yV p f with
  |none=>
   rw[e] at fe;simp! [jb,rR,yd,fe,uV,ai,nP,code,e]
  |some k=>
   rw[e] at fe;have aK:=RS e;have f9:=ahx p c k h aK .c1;have fg:=agN p {c with tries:=0} k d z (h.BF 0) aN aK hd aq bh;cases ao:yH k c with
   |true=>
    rw[ao] at f9;simp! [jb,rR,yd,fe,uV,ai,f9,dT] at f9 ⊢;simp[f9,nP,code,e,ai,ao]
   |false=>
    rw[ao] at f9;simp! [jb,rR,yd,fe,uV,ai,f9,dT] at f9 fg ⊢;simp! [afD,f9,fg,code,e,ai,ao]
inductive c6 where
|line (z w:Str)
|code (f d:Str) (z:Option Str)
|e8 (n:Int)
noncomputable def bU:c6->T
|.line z w=>.tuple [.str "line",.str z,.str w]
|.code f d z=>.tuple [.str "code",.str f,.str d,fi z]
|.e8 n=>.tuple [.str "ticks",.int n]
noncomputable def hC(p:a0):c6->Prop
|.line z w=>z∈p.cL.map (·.1)/\(w="shut"\/w="open"\/w="cut")
|.code f d z=>cE f/\(d="set"\/d="unset"\/d="shunt"\/d="free")/\n1 p d z
|.e8 n=>1<=n
noncomputable def iv(p:a0)(c:aQ):c6->aQ
|.line z w=>line p z w c
|.code f d z=>code p f d z c
|.e8 n=>e8 p n c
def aiw(p:a0)(c:aQ)(e:c6)(h:a3 p c)(aN:Wp p)(he:hC p e)(bh:c.told.length+60<big):rO [.obj .cy 0 (encC p c),.ag (bU e)]=some (.none,encC p (iv p c e)):=by
 have q (x y:Str) (hx:cE x) (a_:cE y):=dC hx a_;cases e with
|line z w=>
  have fX:cE w:=by
   rcases he.2 with rfl|rfl|rfl
   ·exact br "shut"
   ·exact br "open"
   ·exact br "cut"
  have iq:=aki p c z w h he.1 fX (by omega);simp! [h3,rO,B',bU,dC (br "line") (br "line"),iq,iv]
|code f d z=>
  have iq:=akC p c f d z h aN he.1 he.2.1 he.2.2 bh;simp! [hE,rO,B',bU,dC (br "code") (br "line"),dC (br "code") (br "code"),iq,iv]
|e8 n=>
  have iq:=aiO p c n h (by omega);simp! [hE,rO,B',bU,dC (br "ticks") (br "line"),dC (br "ticks") (br "code"),iq,iv]
end cb
end
section
namespace cb
open D PySem
local instance:cI:=⟨[],λ_=>[],λ_=>none⟩
def mz(w:Str)(n:Option Str)(c:aQ):(tell w n c).told.length=c.told.length+1:=by simp[tell]
theorem a3.Xx{p:a0}{c:aQ}(h:a3 p c)(x:Int){z:Str}(aq:z∈p.cL.map (·.1)):a3 p {c with mode:="coming",left:=x,g_:=some z}:=
 ⟨h.zn,h.fm,h.fk,br "coming",λy e=>fF e▸⟨h.kk aq,aq⟩,λ_ e=>(nomatch e),h.ln,h.lo,h.us,h.h1,h.al⟩
theorem a3.kG{p:a0}{c:aQ}(h:a3 p c){z:Str}(k:Str)(aq:z∈p.cL.map (·.1)):a3 p (kG p z k c):=by
 unfold cb.kG;split
 ·exact h.gj aq
 ·exact (h.Xx p.pY aq).tell _ _
def aht(p:a0)(z k:Str)(c:aQ):(kG p z k c).told.length<=c.told.length+1:=by
 unfold cb.kG;split
 ·exact yn p z c
 ·rw[mz];exact dS _
theorem a3.l6{p:a0}{c:aQ}(h:a3 p c){z:Str}(w:Str)(aq:z∈p.cL.map (·.1)):a3 p (l6 p z w c):=by
 unfold cb.l6
 repeat' split
 all_goals first|exact h.gj aq|exact h.tell _ _|exact h.kG _ aq|exact h
def ag7(p:a0)(z w:Str)(c:aQ):(l6 p z w c).told.length<=c.told.length+1:=by
 unfold cb.l6
 repeat' split
 all_goals first|exact yn p z c|exact aht p z _ c|(rw[mz];exact dS _)|omega
theorem a3.line{p:a0}{c:aQ}(h:a3 p c){z w:Str}(aq:z∈p.cL.map (·.1))(hw:cE w):a3 p (line p z w c):=by
 have h':=h.P1 z hw;unfold cb.line
 repeat' split
 all_goals first|exact h|exact h'|exact h'.tell _ _|exact h'.l6 _ aq
def aim(p:a0)(z w:Str)(c:aQ):(line p z w c).told.length<=c.told.length+1:=by
 unfold cb.line
 repeat' split
 all_goals first|omega|(rw[mz];exact dS _)|exact ag7 p z w {c with lines:=m2 c.lines z w}|exact mu _
theorem a3.dh{p:a0}:∀{zs:List Str} {c:aQ},a3 p c->(∀z∈zs,z∈p.cL.map (·.1))->a3 p (cb.dh p zs c)
| [],_,h,_=>h
|z::zs,c,h,aq=>a3.dh (zs:=zs) (h.gj (aq z gb)) λy a_=>aq y (dR _ a_)
theorem Rr(p:a0):∀(zs:List Str) (c:aQ),(cb.dh p zs c).told.length<=c.told.length+zs.length
| [],c=>dS _
|z::zs,c=>by
  have ai:=Rr p zs (gj p z c);have ao:=yn p z c;simp only[e_];show (cb.dh p zs (gj p z c)).told.length<=_;omega
theorem a3.kH{p:a0}{c:aQ}(h:a3 p c):a3 p (kH p c):=a3.dh ((h.on 0).tell _ _) λz aq=>Dh aq
def QG{p:a0}{c:aQ}(h:a3 p c):(kH p c).told.length<=c.told.length+41:=by
 have ai:=Rr p (bare p ["inner","way"] (tell "on" none {c with mode:="on",left:=0})) (tell "on" none {c with mode:="on",left:=0});have ao:=S' p ["inner","way"] (tell "on" none {c with mode:="on",left:=0});have bE:=h.fk;rw[mz] at ai;show (cb.dh p _ _).told.length<=_;have c4:({c with mode:="on",left:=0}:aQ).told.length=c.told.length:=rfl;omega
theorem a3.p4{p:a0}{c:aQ}(h:a3 p c)(au:c.g_≠none):a3 p (p4 p c):=by
 obtain⟨z,aq⟩:=Option.ne_none_iff_exists'.mp au;unfold cb.p4;rw[aq];exact h.PL.gj (h.ca z aq).2
def agI(p:a0)(c:aQ):(p4 p c).told.length<=c.told.length+1:=yn _ _ _
theorem a3.kI{p:a0}{c:aQ}(h:a3 p c)(hm:c.mode="leaving"\/c.mode="coming"):a3 p (kI p c):=by
 unfold cb.kI;split
 ·exact h.kH
 next q=>exact h.p4 (h.kF (hm.resolve_left q))
def ag6{p:a0}{c:aQ}(h:a3 p c):(kI p c).told.length<=c.told.length+41:=by
 unfold cb.kI;split
 ·exact QG h
 ·have:=agI p c;omega
theorem a3.e8{p:a0}{c:aQ}(h:a3 p c)(n:Int):a3 p (e8 p n c):=by
 unfold cb.e8;split
 ·exact h
 ·split
  next q=>exact ((h.cd _).kI q.1).cd _
  ·exact h.cd _
def ahA{p:a0}{c:aQ}(h:a3 p c)(n:Int):(e8 p n c).told.length<=c.told.length+41:=by
 unfold cb.e8;split
 ·omega
 ·split
  ·exact ag6 (h.cd c.left)
  ·exact h8 _ _
theorem a3.j1{p:a0}{c:aQ}(h:a3 p c):a3 p (j1 p c):=by
 unfold cb.j1;split
 ·exact a3.tell (a3.loud (c:={n7 c with tries:=0,locked:=90}) ⟨h.zn,h.fm,h.fk,h.mo,h.ca,h.kF,h.ln,h.lo,h.us,h.h1,h.al⟩) _ _
 ·exact⟨h.zn,h.fm,h.fk,h.mo,h.ca,h.kF,h.ln,h.lo,h.us,h.h1,h.al⟩
def agC(p:a0)(c:aQ):(j1 p c).told.length<=c.told.length+2:=by
 unfold cb.j1;split
 ·rw[mz];show (tell _ _ c).told.length+1<=_;rw[mz];exact dS _
 ·show (tell _ _ c).told.length<=_
  rw[mz];omega
theorem a3.oO{p:a0}{c:aQ}(h:a3 p c)(w:Str):a3 p (oO p w c):=by
 unfold cb.oO;have h':=(h.Bs p.leave).tell "set" (some w);show a3 p (if p.leave<=0 then _ else _);split
 ·exact h'.kH
 ·exact h'
def ahS{p:a0}{c:aQ}(h:a3 p c)(w:Str):(oO p w c).told.length<=c.told.length+42:=by
 unfold cb.oO;have h':=(h.Bs p.leave).tell "set" (some w);have e:=mz "set" (some w) {c with dh:=[],fY:=0,mode:="leaving",left:=p.leave};have bP:({c with dh:=[],fY:=0,mode:="leaving",left:=p.leave}:aQ).told.length=c.told.length:=rfl;show (if p.leave<=0 then kH p _ else _:aQ).told.length<=_;split
 ·have:=QG h';omega
 ·omega
theorem a3.sJ{p:a0}{c:aQ}(h:a3 p c)(w:Str):a3 p (sJ w c):=
 ⟨h.zn,h.fm,h.fk,br "off",λz e=>(nomatch e),λe=>absurd e Cp,h.ln,h.lo,h.us,by simp[cb.sJ,cb.tell],h.al⟩
theorem a3.hT{p:a0}{c:aQ}(h:a3 p c)(w:Str){d:Str}{z:Option Str}(aq:Bd p d z c)(a5:d="shunt"->z.getD ""∉c.dW):a3 p (hT p w d z c):=by
 rcases aq with rfl|rfl|⟨rfl,x,rfl,hx⟩|⟨rfl,x,rfl,hx⟩
 ·simp only[cb.hT,if_true];exact h.oO w
 ·simp only[cb.hT,if_neg Cx,if_true];exact h.sJ w
 ·simp only[cb.hT,if_neg Cy,if_neg yb,if_true];refine a3.tell (c:={c with dW:=amG (c.dW++[x])}) ⟨h.zn,h.fm,h.fk,h.mo,h.ca,h.kF,h.ln,h.lo,h.us,⟨?_,?_⟩,h.al⟩ _ _
  ·show (amG (c.dW++[x])).Nodup
   rw[(vD _).nodup_iff,qp];refine⟨h.h1.1,by simp,λa aB b aa e=>?_⟩;simp at aa;exact a5 rfl (by show x∈_;exact aa▸e▸aB)
  ·intro y a_;have G':=(vD _).mem_iff.mp a_;rcases j2.mp G' with q|q
   ·exact h.h1.2 y q
   ·simp at q;exact q▸hx
 ·simp only[cb.hT,if_neg CL,if_neg ye,if_neg yf];refine a3.tell (c:={c with dW:=c.dW.erase x}) ⟨h.zn,h.fm,h.fk,h.mo,h.ca,h.kF,h.ln,h.lo,h.us,⟨?_,?_⟩,h.al⟩ _ _
  ·exact h.h1.1.erase x
  ·exact λy a_=>h.h1.2 y (List.mem_of_mem_erase a_)
def ahr{p:a0}{c:aQ}(h:a3 p c)(w d:Str)(z:Option Str):(hT p w d z c).told.length<=c.told.length+42:=by
 unfold cb.hT;split
 ·exact ahS h w
 ·split
  ·show (tell _ _ _).told.length<=_
   rw[mz];show c.told.length+1<=_;omega
  ·split
   ·rw[mz];show c.told.length+1<=_;omega
   ·rw[mz];show c.told.length+1<=_;omega
def agU{p:a0}{c:aQ}{k:hP}{z:Option Str}(aB:mH p k "shunt" z c=none):z.getD ""∉c.dW/\c.mode="off"/\kindOf p (z.getD "")≠"day":=by
 have cn:mB p "shunt" z c≠true:=by
  intro q;unfold mH at aB;rw[q] at aB;by_cases ax:(if ("shunt":Str)="free" then ("shunt":Str) else "shunt")∈k.m1
  ·rw[if_neg (λq=>q ax),if_pos rfl] at aB;cases aB
  ·rw[if_pos ax] at aB;cases aB
 unfold mB at cn;rw[if_neg yb] at cn;by_cases hm:c.mode="off"
 ·rw[if_neg (λq=>q hm),if_pos rfl] at cn;simp at cn;exact⟨cn.2,hm,cn.1⟩
 ·rw[if_pos hm] at cn;exact absurd rfl cn
theorem a3.takeRight{p:a0}{c:aQ}(h:a3 p c)(k:hP){d:Str}{z:Option Str}(hd:d="set"\/d="unset"\/d="shunt"\/d="free")(aq:n1 p d z):a3 p (takeRight p k d z c):=by
 unfold cb.takeRight;split
 next e=>
  refine (h.add _).hT _ (My hd aq e) λq=>?_
  subst q;exact (agU e).1
 ·exact h.tell _ _
def agD{p:a0}{c:aQ}(h:a3 p c)(k:hP)(d:Str)(z:Option Str):(takeRight p k d z c).told.length<=c.told.length+42:=by
 unfold cb.takeRight;split
 ·exact ahr (h.add k.fK) _ _ _
 ·rw[mz];omega
theorem a3.code{p:a0}{c:aQ}(h:a3 p c)(f:Str){d:Str}{z:Option Str}(hd:d="set"\/d="unset"\/d="shunt"\/d="free")(aq:n1 p d z):a3 p (code p f d z c):=by
 unfold cb.code;split
 ·exact h.tell _ _
 ·split
  ·exact h.j1
  ·split
   ·exact h.j1
   ·exact (h.BF 0).takeRight _ hd aq
def aiE{p:a0}{c:aQ}(h:a3 p c)(f d:Str)(z:Option Str):(code p f d z c).told.length<=c.told.length+42:=by
 have:=agC p c;unfold cb.code;split
 ·rw[mz];omega
 ·split
  ·omega
  ·split
   ·omega
   ·exact agD (h.BF 0) _ _ _
def al1{p:a0}{z w:Str}(he:hC p (.line z w)):cE w:=by
 rcases he.2 with rfl|rfl|rfl
 ·exact br "shut"
 ·exact br "open"
 ·exact br "cut"
theorem a3.iv{p:a0}{c:aQ}(h:a3 p c){e:c6}(he:hC p e):a3 p (iv p c e):=by
 cases e with
|line z w=>exact h.line he.1 (al1 he)
|code f d z=>exact h.code f he.2.1 he.2.2
|e8 n=>exact h.e8 n
def Ro{p:a0}{c:aQ}(h:a3 p c)(e:c6):(iv p c e).told.length<=c.told.length+50:=by
 cases e with
|line z w=>have:=aim p z w c;show (line p z w c).told.length<=_;omega
|code f d z=>have:=aiE h f d z;show (code p f d z c).told.length<=_;omega
|e8 n=>have:=ahA h n;show (e8 p n c).told.length<=_;omega
noncomputable def run(p:a0)(c:aQ)(es:List c6):aQ:=es.foldl (iv p) c
def fresh(c:aQ):aQ:={c with past:=0,told:=[]}
theorem a3.fresh{p:a0}{c:aQ}(h:a3 p c):a3 p (fresh c):=⟨h.zn,h.fm,h.fk,h.mo,h.ca,h.kF,h.ln,h.lo,h.us,h.h1,h.al⟩
theorem a3.run{p:a0}:∀{es:List c6} {c:aQ},a3 p c->(∀e∈es,hC p e)->a3 p (run p c es)
| [],_,h,_=>h
|e::es,c,h,he=>a3.run (es:=es) (h.iv (he e gb)) λy a_=>he y (dR _ a_)
theorem LO{p:a0}:∀{es:List c6} {c:aQ},a3 p c->(∀e∈es,hC p e)->(run p c es).told.length<=c.told.length+50*es.length
| [],_,_,_=>dS _
|e::es,c,h,he=>by
  have ai:=LO (es:=es) (h.iv (he e gb)) λy a_=>he y (dR _ a_);have ao:=Ro h e;show (run p (iv p c e) es).told.length<=_;simp only[e_];omega
noncomputable def eb(c:aQ):T:=.tuple [.str c.mode,.int c.left,fi c.g_,.tuple (c.lines.map λl=>.str l.2),.tuple (c.dW.map .str),.int c.fY,.tuple (c.dh.map .str),.int c.tries,.int c.locked,.tuple (c.used.map λu=>.int u.2)]
theorem TQ:∀(bp:List Str) (l:List (Str×Str)),l.map (·.1)=bp->si (bp.map .str) (l.map λl=>.str l.2)=some (ik l)
| [],[],_=>rfl
| [],_::_,h=>by cases h
|_::_,[],h=>by cases h
|k::bp,x::l,h=>by
  simp at h;simp[si,ib,TQ bp l h.2,ik,h.1]
theorem TR:∀(bp:List Str) (l:List (Str×Int)),l.map (·.1)=bp->si (bp.map .str) (l.map λl=>.int l.2)=some (ij l)
| [],[],_=>rfl
| [],_::_,h=>by cases h
|_::_,[],h=>by cases h
|k::bp,x::l,h=>by
  simp at h;simp[si,ib,TR bp l h.2,ij,h.1]
def R6{l:List Str}(h:l.Nodup):(l.map (Sum.inr:Str->D.Key)).Nodup:=by
 rw[List.nodup_iff_pairwise_ne,List.pairwise_map];exact (List.nodup_iff_pairwise_ne.mp h).imp λq e=>q (Sum.inr.inj e)
def akk(l:List (Str×Str)):(ik l).map (·.1)=(l.map (·.1)).map Sum.inr:=by simp[ik,n9]
def akl(l:List (Str×Int)):(ij l).map (·.1)=(l.map (·.1)).map Sum.inr:=by simp[ij,n9]
def S6{α:Type}(enc:α->T)(g:α->T)(caps:Ev)(ts:List α)(s0:Option aJ)(h:∀a∈ts,(ar bg (nm 0) (ak (.int 0))) (some (.ag (enc a))::caps)=some (g a)):gT (cw 0) (f6 true) (ar bg (nm 0) (ak (.int 0))) (ts.map enc) (s0::caps)=some (ts.map g):=by
 have:=v5 (cc:=f6 true) (gm:=ar bg (nm 0) (ak (.int 0))) (caps:=caps) enc (λ_=>true) g ts s0 λa aB=>⟨rfl,λ_=>h a aB⟩;rw[List.filter_eq_self.mpr (λ_ _=>rfl)] at this;exact this
def akp(p:a0)(c:aQ)(h:a3 p c)(aN:Wp p):x4 [.obj .cy 0 [],.ag (b7 p),.ag (eb c)]=some (.none,encC p (fresh c)):=by
 have aq:=h.fk;have au:=aN.cl;have cY:=S6 eD (λz=>.str z.1) [] p.cL none λz aq=>by simp! [iN,eD]
 have dn:=S6 dT (λz=>.str z.fK) [] p.codes none λz aq=>by simp! [iN,dT]
 have jG:=TQ (p.cL.map (·.1)) c.lines h.ln;have gg:=TR (p.codes.map (·.fK)) c.used h.us;rw[tK] at jG gg;have bM:p.cL.length<=big:=by unfold big;omega
 have bY:p.codes.length<=big:=by unfold big;omega
 have hB:((ik c.lines).map (·.1)).Nodup/\(ik c.lines).length<=1000/\∀t∈(p.cL.map λz=>amJ z.1),(ib t).isSome=true:=by
  refine⟨?_,?_,?_⟩
  ·rw[akk,h.ln];exact R6 aN.zd
  ·have:=congrArg List.length h.ln;simp[ik] at *;omega
  ·intro t bh;obtain⟨z,_,rfl⟩:=en.mp bh;rfl
 have gp:((ij c.used).map (·.1)).Nodup/\(ij c.used).length<=1000/\∀t∈(p.codes.map λz=>amJ z.fK),(ib t).isSome=true:=by
  refine⟨?_,?_,?_⟩
  ·rw[akl,h.us];exact R6 aN.cd
  ·have:=congrArg List.length h.us;simp[ij] at *;omega
  ·intro t bh;obtain⟨z,_,rfl⟩:=en.mp bh;rfl
 have gw:(0<=big)=True:=by simp
 simp only[n9] at jG gg;simp only[x4,QA,runM,kv];simp! [pe,b7,eb,wc,vY,cY,dn,bM,bY,jG,gg];rw[if_pos hB];simp! [pe,vY,wc,cY,dn,bM,bY,jG,gg];rw[if_pos ⟨gp.1,gp.2.1,λa aB=>rfl⟩];simp! [pe,encC,fresh,b7]
def aiR(p:a0)(c:aQ)(m:gr)(h:a3 p c):x' [.obj m 0 (encC p c)]=some (eb c):=by
 have ai:=h.P4;have ao:=h.Nf;have bM:c.dW.length<=big:=by unfold big;omega
 have bY:c.dh.length<=big:=by unfold big;omega
 simp! [h3,x',QK,y4,g6,bM,bY,SI,eb,ik,ij,n9]
theorem SN(p:a0)(aN:Wp p):∀(es:List c6) (c:aQ) (s0 s1 s2 s4:Option aJ),a3 p c->(∀e∈es,hC p e)->c.told.length+50*es.length+60<big->∃lz,forL (cw 4) (dj (cS 0 rO 3 [(aZ 4)])) (es.map bU) [s0,s1,s2,some (.obj .own 0 (encC p c)),s4]=some (.bO [s0,s1,s2,some (.obj .own 0 (encC p (run p c es))),lz])
| [],c,s0,s1,s2,s4,_,_,_=>⟨s4,by simp[forL,run]⟩
|e::es,c,s0,s1,s2,s4,h,he,bh=>by
  have OS:=he e gb;simp only[e_] at bh;have ea:=aiw p c e h aN OS (by omega);have:=Ro h e;obtain⟨rB,b1⟩:=SN p aN es (iv p c e) s0 s1 s2 (some (.ag (bU e))) (h.iv OS) (λy a_=>he y (dR _ a_)) (by omega);refine⟨rB,?_⟩;rw[dr,forL];simp! [pe,ea];simpa [eJ,seq,iff,bS,iy,iF,fA,i7,f6,ofT,e7,ar,b9,args,ak,nm,aZ,cP,skip,asg,l3,l4,par,bV,g7,jX,jK,bg,gL,hY,cw,fp,gV,fO,comp,j8,run] using b1
def K2(p:a0)(c:aQ)(es:List c6)(h:a3 p c)(aN:Wp p)(he:∀e∈es,hC p e)(aE:es.length<=1000):pD [b7 p,eb c,.tuple (es.map bU)]=some (.obj .own 0 (encC p (run p (fresh c) es))):=by
 have F8:=akp p c h aN;have aa:(fresh c).told.length=0:=rfl;have bY:(60000<big):=by decide
 obtain⟨lz,iq⟩:=SN p aN es (fresh c) (some (.ag (b7 p))) (some (.ag (eb c))) (some (.ag (.tuple (es.map bU)))) none h.fresh he (by omega);simp only[pD,K',amX];simp! [pe,qV,lq,F8,gU,xA];rw[iq];simp[xA,Bf]
def aiQ(p:a0)(c:aQ)(es:List c6)(h:a3 p c)(aN:Wp p)(he:∀e∈es,hC p e)(aE:es.length<=1000):yE [b7 p,eb c,.tuple (es.map bU)]=some (.tuple ((run p (fresh c) es).told.map mM)):=by
 have dK:=K2 p c es h aN he aE;have aa:=LO h.fresh he;have bY:(60000<big):=by decide
 have h0:(fresh c).told.length=0:=rfl;have bM:(run p (fresh c) es).told.length<=big:=by omega
 simp! [iN,yE,TM,sh,vO,dK,uh,uR,g6,bM]
noncomputable def b'(p:a0):aQ:={mode:="off",left:=0,g_:=none,lines:=p.cL.map λz=>(z.1,"shut"),dW:=[],fY:=0,dh:=[],tries:=0,locked:=0,used:=p.codes.map λk=>(k.fK,0),past:=0,told:=[]}
def S_(p:a0)(aq:p.cL.length<=40)(aN:Wp p):qD [b7 p]=some (eb (b' p)):=by
 have au:=aN.cl;have bM:p.cL.length<=big:=by unfold big;omega
 have bY:p.codes.length<=big:=by unfold big;omega
 have cY:=v5 (cc:=f6 true) (gm:=ak (.str "shut")) (caps:=[]) eD (λ_=>true) (λ_=>.str "shut") p.cL none λa aB=>⟨rfl,λ_=>rfl⟩;have dn:=v5 (cc:=f6 true) (gm:=ak (.int 0)) (caps:=[]) dT (λ_=>true) (λ_=>.int 0) p.codes none λa aB=>⟨rfl,λ_=>rfl⟩;rw[List.filter_eq_self.mpr (λ_ _=>rfl)] at cY dn;simp! [iN,qD,TN,b7,g6,bM,bY,cY,dn,SI,eb,b',fi,n9]
end cb
end
section
namespace cb
open D PySem
local instance:cI:=⟨[],λ_=>[],λ_=>none⟩
def akD(ns:List Int)(k:Nat):tX [eP ns,.int k]=some (.int (ns.getD k 0)):=by
 by_cases h:k<ns.length
 ·have h':(k:Int)<(ns.length:Int):=by omega
  simp! [J3,tX,K_,eP,h,h',List.getD]
 ·have h':¬(k:Int)<(ns.length:Int):=by omega
  simp! [J3,tX,K_,eP,h,h',List.getD]
def uu{i j:Int}(h:-(2 ^ 64)<j/\j<2 ^ 64):gX (.int i) (.int j)=some (.int (i*j)):=by
 unfold gX DN;simp only[decide_eq_true h.1,decide_eq_true h.2,Bool.and_self,Bool.or_true,if_true]
def yR{i j:Int}(h:0<j):oMod (.int i) (.int j)=some (.int (i % j)):=if_pos h
def alq{i j:Int}(h:0<j/\j<1073741824):oDiv (.int i) (.int j)=some (.int (i / j)):=if_pos h
def mC{i j:Int}:ek (.int i) (.int j)=some (.int (i+j)):=rfl
def iA{a b:bF}{ε ε':Ev}(h:a ε=some (.bO ε')):seq a b ε=b ε':=by
 unfold seq;rw[h];rfl
def SW(ns:List Int)(k:Nat):∃m:Int,0<=m/\rV [eP ns,.int k]=some (.int m):=by
 have au:=akD ns k;have hd:0<=(ns.getD k 0+7919*(k:Int)+1)*48271 % 2147483647/\(ns.getD k 0+7919*(k:Int)+1)*48271 % 2147483647<2147483647:=⟨vp _ (by decide),BP _ (by decide)⟩;generalize hx:(ns.getD k 0+7919*(k:Int)+1)*48271 % 2147483647=d at hd;refine⟨(d*d+7*d+k) % 2147483629,vp _ (by decide),?_⟩;have cm:rV [eP ns,.int k]=(LF [some (.ag (eP ns)),some (.ag (.int k)),none]).bind λo=>match o with|.er t=>some t|.bO _=>some .none|_=>none:=rfl
 have eX:gX (.int 7919) (.int k)=some (.int (7919*k)):=by
  unfold gX DN;simp
 have td:aZ 0 [some (.ag (eP ns)),some (.ag (.int k)),none]=some (eP ns):=rfl;have hB:aZ 1 [some (.ag (eP ns)),some (.ag (.int k)),none]=some (.int k):=rfl;have abm:nm 1 [some (.ag (eP ns)),some (.ag (.int k)),none]=some (.int k):=rfl;have s1:asg 2 (ar oMod (ar gX (ar ek (ar ek (b9 tX [(aZ 0),(aZ 1)]) (ar gX (ak (.int 7919)) (nm 1))) (ak (.int 1))) (ak (.int 48271))) (ak (.int 2147483647))) [some (.ag (eP ns)),some (.ag (.int k)),none]=some (.bO [some (.ag (eP ns)),some (.ag (.int k)),some (.ag (.int d))]):=by
  simp only[asg,ar,b9,args,td,hB,abm,c5,gd,au,ak,eX,mC,uu (i:=ns.getD k 0+7919*(k:Int)+1) (j:=48271) (by decide),yR (j:=2147483647) (by decide),hx];rfl
 have o_:gX (.int d) (.int d)=some (.int (d*d)):=uu (by omega);have xk:gX (.int 7) (.int d)=some (.int (7*d)):=uu (by omega);rw[cm];unfold LF;rw[iA s1];have a9:nm 2 [some (.ag (eP ns)),some (.ag (.int k)),some (.ag (.int d))]=some (.int d):=rfl;have aP:nm 1 [some (.ag (eP ns)),some (.ag (.int k)),some (.ag (.int d))]=some (.int k):=rfl;simp only[cP,ar,a9,aP,c5,gd,ak,o_,xk,mC,yR (j:=2147483629) (by decide)]
def Df(n k:Int)(aK:-(2 ^ 64)<k/\k<2 ^ 64):∃m:Int,0<=m/\kV [.int n,.int k]=some (.int m):=by
 have hd:0<=(n+104729*k+17)*69621 % 2147483647/\(n+104729*k+17)*69621 % 2147483647<2147483647:=⟨vp _ (by decide),BP _ (by decide)⟩;generalize hx:(n+104729*k+17)*69621 % 2147483647=d at hd;refine⟨(d*d+3*d+k) % 2147483629,vp _ (by decide),?_⟩;have cm:kV [.int n,.int k]=(LG [some (.ag (.int n)),some (.ag (.int k)),none]).bind λo=>match o with|.er t=>some t|.bO _=>some .none|_=>none:=rfl
 have eX:gX (.int 104729) (.int k)=some (.int (104729*k)):=uu aK;have td:nm 0 [some (.ag (.int n)),some (.ag (.int k)),none]=some (.int n):=rfl;have hB:nm 1 [some (.ag (.int n)),some (.ag (.int k)),none]=some (.int k):=rfl;have s1:asg 2 (ar oMod (ar gX (ar ek (ar ek (nm 0) (ar gX (ak (.int 104729)) (nm 1))) (ak (.int 17))) (ak (.int 69621))) (ak (.int 2147483647))) [some (.ag (.int n)),some (.ag (.int k)),none]=some (.bO [some (.ag (.int n)),some (.ag (.int k)),some (.ag (.int d))]):=by
  simp only[asg,ar,td,hB,c5,gd,ak,eX,mC,uu (i:=n+104729*k+17) (j:=69621) (by decide),yR (j:=2147483647) (by decide),hx];rfl
 have o_:gX (.int d) (.int d)=some (.int (d*d)):=uu (by omega);have xk:gX (.int 3) (.int d)=some (.int (3*d)):=uu (by omega);rw[cm];unfold LG;rw[iA s1];have a9:nm 2 [some (.ag (.int n)),some (.ag (.int k)),some (.ag (.int d))]=some (.int d):=rfl;have aP:nm 1 [some (.ag (.int n)),some (.ag (.int k)),some (.ag (.int d))]=some (.int k):=rfl;simp only[cP,ar,a9,aP,c5,gd,ak,o_,xk,mC,yR (j:=2147483629) (by decide)]
def qC(a b:Int):oEq (.int a) (.int b)=some (.bool (decide (a=b))):=by
 unfold oEq;rw[yC,yC];by_cases e:a=b <;> simp[n',e]
def divQ(m:Int)(j:Int)(h:0<j/\j<1073741824:=by decide):∃q,q=m / j/\oDiv (.int m) (.int j)=some (.int q):=⟨_,rfl,alq h⟩
def modQ(m:Int)(j:Int)(h:0<j:=by decide):∃q,q=m % j/\0<=q/\q<j/\oMod (.int m) (.int j)=some (.int q):=⟨_,rfl,vp _ (by omega),BP _ h,yR h⟩
def As{ts:List T}{j:Int}(h0:0<=j)(ai:j<ts.length):∃t∈ts,bg (.tuple ts) (.int j)=some t:=by
 have bI:j.toNat<ts.length:=by omega
 refine⟨ts[j.toNat],List.getElem_mem bI,?_⟩
 simp only[bg,gL,hY,if_pos h0,if_pos ai,c5];exact hH bI
def xe(ss:List Str){j:Int}(h0:0<=j)(ai:j<ss.length):∃s∈ss,bg (.tuple (ss.map .str)) (.int j)=some (.str s):=by
 obtain⟨t,bh,e⟩:=As (ts:=ss.map .str) h0 (by simpa using ai);obtain⟨s,av,rfl⟩:=en.mp bh;exact⟨s,av,e⟩
def xd(ss:List Int){j:Int}(h0:0<=j)(ai:j<ss.length):∃s∈ss,bg (.tuple (ss.map .int)) (.int j)=some (.int s):=by
 obtain⟨t,bh,e⟩:=As (ts:=ss.map .int) h0 (by simpa using ai);obtain⟨s,av,rfl⟩:=en.mp bh;exact⟨s,av,e⟩
def Md:(5<=big)=True:=by simp[big]
def ug:(4<=big)=True:=by simp[big]
def oj:(3<=big)=True:=by simp[big]
def Mp:(6<=big)=True:=by simp[big]
def ajC:(8<=big)=True:=by simp[big]
def vV:(1<=big)=True:=by simp[big]
noncomputable def qW:bF:=(seq (asg 4 (ar oDiv (b9 kV [(aZ 0),(aZ 2)]) (ak (.int 4)))) (iff (fA (bS (ar oLt (ar oMod (nm 4) (ak (.int 8))) (ar ek (ak (.int 3)) (ar oMod (nm 0) (ak (.int 5)))))) (bS (ar oEq (nm 2) (ar oMod (ar oDiv (nm 0) (ak (.int 8))) (ak (.int 8)))))) (asg 1 (ar ek (nm 1) (bV [(bV [(aZ 3),(ar bg (bV [(ak (.str "day")),(ak (.str "inner")),(ak (.str "once")),(ak (.str "way")),(ak (.str "way"))]) (ar oMod (ar oDiv (nm 4) (ak (.int 8))) (ak (.int 5))))])]))) skip))
def oS(x:Int×Str):T:=.tuple [.int x.1,.str x.2]
noncomputable def kinds:List Str:=["day","inner","once","way","way"]
theorem Lj(n:Int):∀(l:List (Int×Str)) (acc:List (Str×Str)) (s2 s3 s4:Option aJ),(∀x∈l,0<=x.1/\x.1<100)->acc.length+l.length<=20->∃zs mf xB lz,(zs.map (·.1)).Sublist (l.map (·.2))/\(∀z∈zs,z.2∈kinds)/\((∃x∈l,x.1=n / 8 % 8)->zs≠[]) /\
  forL (fp [(cw 2),(cw 3)]) qW (l.map oS) [some (.ag (.int n)),some (.ag (.tuple (acc.map eD))),s2,s3,s4,none,none,none,none,none]=some (.bO [some (.ag (.int n)),some (.ag (.tuple ((acc++zs).map eD))),mf,xB,lz,none,none,none,none,none])
| [],acc,s2,s3,s4,_,_=>⟨[],s2,s3,s4,.refl _,by simp,by simp,by simp[forL]⟩
|x::l,acc,s2,s3,s4,hx,aE=>by
  obtain⟨m,hm,dK⟩:=Df n x.1 (by have:=hx x gb;omega);obtain⟨q,bb,eW⟩:=divQ m 4;obtain⟨r,_,_,_,f7⟩:=modQ q 8;obtain⟨cq,_,_,_,mL⟩:=modQ n 5;obtain⟨aP,mW,oP⟩:=divQ n 8;obtain⟨bj,ri,_,_,oQ⟩:=modQ aP 8;obtain⟨a9,nV,oR⟩:=divQ q 8;obtain⟨b_,_,h0,ai,nN⟩:=modQ a9 5;obtain⟨s,av,l7⟩:=xe kinds h0 ai;simp only[kinds,dr,gc] at l7;simp only[e_] at aE;have bM:acc.length+1<=big:=by unfold big;omega
  have lj:∀y∈l,0<=y.1/\y.1<100:=λy a_=>hx y (dR _ a_);by_cases au:r<3+cq\/x.1=bj
  ·obtain⟨zs,mf,xB,lz,bX,b4,nX,qc⟩:=Lj n l (acc++[(x.2,s)]) (some (.ag (.int x.1))) (some (.ag (.str x.2))) (some (.ag (.int q))) lj (by simp;omega);refine⟨(x.2,s)::zs,mf,xB,lz,by simpa using bX,λz aq=>?_,λ_=>by simp,?_⟩
   ·rcases cM.mp aq with rfl|aq
    ·exact av
    ·exact b4 z aq
   ·rw[dr,forL];have:qW [some (.ag (.int n)),some (.ag (.tuple (acc.map eD))),some (.ag (.int x.1)),some (.ag (.str x.2)),s4,none,none,none,none,none]=some (.bO [some (.ag (.int n)),some (.ag (.tuple ((acc++[(x.2,s)]).map eD))),some (.ag (.int x.1)),some (.ag (.str x.2)),some (.ag (.int q)),none,none,none,none,none]):=by
     by_cases da:r<3+cq
     ·simp! [fN,qW,dK,eW,f7,mL,oP,oQ,oR,nN,l7,mC,oLt,da,ek,bM,Md,nj,vV,eD]
     ·have nM:oEq (.int x.1) (.int bj)=some (.bool true):=by rw[qC,decide_eq_true (au.resolve_left da)]
      simp! [fN,qW,dK,eW,f7,mL,oP,oQ,oR,nN,l7,mC,oLt,da,nM,ek,bM,Md,nj,vV,eD]
    simp only[oS,fp,gV,cw,c5,jD,jg,this];simpa using qc
  ·obtain⟨zs,mf,xB,lz,bX,b4,nX,qc⟩:=Lj n l acc (some (.ag (.int x.1))) (some (.ag (.str x.2))) (some (.ag (.int q))) lj (by omega);refine⟨zs,mf,xB,lz,bX.cons _,b4,λ⟨y,a_,e⟩=>nX ?_,?_⟩
   ·rcases cM.mp a_ with rfl|a_
    ·exact absurd (.inr (by rw[e,ri,mW])) au
    ·exact⟨y,a_,e⟩
   ·rw[dr,forL];have:qW [some (.ag (.int n)),some (.ag (.tuple (acc.map eD))),some (.ag (.int x.1)),some (.ag (.str x.2)),s4,none,none,none,none,none]=some (.bO [some (.ag (.int n)),some (.ag (.tuple (acc.map eD))),some (.ag (.int x.1)),some (.ag (.str x.2)),some (.ag (.int q)),none,none,none,none,none]):=by
     have dF:¬r<3+cq:=λz=>au (.inl z);have ha:¬x.1=bj:=λz=>au (.inr z);simp! [fN,qW,dK,eW,f7,mL,oP,oQ,oR,nN,l7,mC,oLt,dF,ha,qC]
    simp only[oS,fp,gV,cw,c5,jD,jg,this];exact qc
def aez:i_ 0 3=[.int 0,.int 1,.int 2]:=by simp[i_,List.range_succ]
noncomputable def sH:fS:=bS (ar i8 (ar oMod (ar oDiv (nm 1) (ar bg (bV [(ak (.int 4)),(ak (.int 16)),(ak (.int 64))]) (nm 0))) (ak (.int 4))) (ak (.int 0)))
noncomputable def nO:bH:=ar bg (bV [(ak (.str "set")),(ak (.str "shunt")),(ak (.str "unset"))]) (nm 0)
def Dk:List Str:=["set","shunt","unset"]
def ah'(q:Int)(ε:Ev)(h:(ε[4]?).join=some (.ag (.int q))):∃rs:List Str,rs.Sublist Dk/\comp 1 [4] (j7 (ak (.int 3))) (cw 0) sH nO ε=some (.list (rs.map .str)):=by
 have key:∀j rt:Int,bg (.tuple [.int 4,.int 16,.int 64]) (.int j)=some (.int rt)->0<rt->rt<1073741824->∃b,sH [some (.ag (.int j)),some (.ag (.int q))]=some b:=by
  intro j rt ai ao bE;obtain⟨aP,_,dK⟩:=divQ q rt ⟨ao,bE⟩;obtain⟨bj,_,_,_,eW⟩:=modQ aP 4;exact⟨decide (0<bj),by simp! [fN,sH,ai,dK,eW,i8,oj]⟩
 obtain⟨gw,k0⟩:=key 0 4 (by simp[bg,gL,hY]) (by decide) (by decide);obtain⟨bM,k1⟩:=key 1 16 (by simp[bg,gL,hY]) (by decide) (by decide);obtain⟨bY,k2⟩:=key 2 64 (by simp[bg,gL,hY]) (by decide) (by decide);have lx:nO [some (.ag (.int 0)),some (.ag (.int q))]=some (.str "set"):=by simp! [iN,nO,oj]
 have bj:nO [some (.ag (.int 1)),some (.ag (.int q))]=some (.str "shunt"):=by simp! [iN,nO,oj]
 have b_:nO [some (.ag (.int 2)),some (.ag (.int q))]=some (.str "unset"):=by simp! [iN,nO,oj]
 have wC:comp 1 [4] (j7 (ak (.int 3))) (cw 0) sH nO ε=(gT (cw 0) sH nO [.int 0,.int 1,.int 2] [none,some (.ag (.int q))]).map .list:=by
  have s3:rY 3=true:=by decide
  simp[comp,j7,ak,s3,aez,j8,h,oj]
 rw[wC];cases gw <;> cases bM <;> cases bY
 ·exact⟨[],by simp,by simp[gT,cw,k0,k1,k2]⟩
 ·exact⟨["unset"],by decide,by simp[gT,cw,k0,k1,k2,lx,bj,b_]⟩
 ·exact⟨["shunt"],by decide,by simp[gT,cw,k0,k1,k2,lx,bj,b_]⟩
 ·exact⟨["shunt","unset"],by decide,by simp[gT,cw,k0,k1,k2,lx,bj,b_]⟩
 ·exact⟨["set"],by decide,by simp[gT,cw,k0,k1,k2,lx,bj,b_]⟩
 ·exact⟨["set","unset"],by decide,by simp[gT,cw,k0,k1,k2,lx,bj,b_]⟩
 ·exact⟨["set","shunt"],by decide,by simp[gT,cw,k0,k1,k2,lx,bj,b_]⟩
 ·exact⟨["set","shunt","unset"],by decide,by simp[gT,cw,k0,k1,k2,lx,bj,b_]⟩
noncomputable def sG:bF:=(seq (asg 4 (ar oDiv (b9 kV [(aZ 0),(ar ek (ak (.int 10)) (nm 2))]) (ak (.int 4)))) (iff (fA (bS (ar i8 (ar oMod (nm 4) (ak (.int 3))) (ak (.int 0)))) (bS (ar oEq (nm 2) (ak (.int 1))))) (seq (asg 7 (b9 g6 [(comp 1 [4] (j7 (ak (.int 3))) (cw 0) sH nO)])) (seq (asg 8 (ar bg (bV [(ak (.str "ann")),(ak (.str "bo")),(ak (.str "cy"))]) (ar oMod (ar oDiv (nm 4) (ak (.int 256))) (ak (.int 3))))) (asg 5 (ar ek (nm 5) (bV [(bV [(aZ 6),(aZ 8),(aZ 7),(ar bg (bV [(ak (.int 0)),(ak (.int 0)),(ak (.int 1)),(ak (.int 2)),(ak (.int 9))]) (ar oMod (ar oDiv (nm 4) (ak (.int 1024))) (ak (.int 5))))])]))))) skip))
def xO:List Str:=["ann","bo","cy"]
theorem Lf(n:Int)(s1 s3:Option aJ):∀(l:List (Int×Str)) (acc:List hP) (s2 s4 j0 eO gZ:Option aJ),(∀x∈l,0<=x.1/\x.1<100)->acc.length+l.length<=20->∃bp mf lz xC xD xE,(bp.map (·.fK)).Sublist (l.map (·.2))/\(∀k∈bp,k.jB∈xO/\k.m1.Sublist Dk/\k.uses∈([0,0,1,2,9]:List Int))/\((∃x∈l,x.1=1)->bp≠[]) /\
  forL (fp [(cw 2),(cw 6)]) sG (l.map oS) [some (.ag (.int n)),s1,s2,s3,s4,some (.ag (.tuple (acc.map dT))),j0,eO,gZ,none]=some (.bO [some (.ag (.int n)),s1,mf,s3,lz,some (.ag (.tuple ((acc++bp).map dT))),xC,xD,xE,none])
| [],acc,s2,s4,j0,eO,gZ,_,_=>⟨[],s2,s4,j0,eO,gZ,.refl _,by simp,by simp,by simp[forL]⟩
|x::l,acc,s2,s4,j0,eO,gZ,hx,aE=>by
  obtain⟨m,hm,dK⟩:=Df n (10+x.1) (by have:=hx x gb;omega);obtain⟨q,bb,eW⟩:=divQ m 4;obtain⟨r,_,_,_,f7⟩:=modQ q 3;obtain⟨aP,mW,oP⟩:=divQ q 256;obtain⟨bj,ri,h0,ai,oQ⟩:=modQ aP 3;obtain⟨a9,nV,oR⟩:=divQ q 1024;obtain⟨b_,_,ao,bE,nN⟩:=modQ a9 5;obtain⟨s,av,l7⟩:=xe xO h0 ai;obtain⟨u,cn,nM⟩:=xd [0,0,1,2,9] ao bE;simp only[xO,dr,gc] at l7 nM;simp only[e_] at aE;have bM:acc.length+1<=big:=by unfold big;omega
  have lj:∀y∈l,0<=y.1/\y.1<100:=λy a_=>hx y (dR _ a_);obtain⟨rs,_J,F4⟩:=ah' q [some (.ag (.int n)),s1,some (.ag (.int x.1)),s3,some (.ag (.int q)),some (.ag (.tuple (acc.map dT))),some (.ag (.str x.2)),eO,gZ,none] rfl;by_cases au:0<r\/x.1=1
  ·obtain⟨bp,mf,lz,xC,xD,xE,bX,b4,nX,qc⟩:=Lf n s1 s3 l (acc++[(⟨x.2,s,rs,u⟩:hP)]) (some (.ag (.int x.1))) (some (.ag (.int q))) (some (.ag (.str x.2))) (some (.ag (.tuple (rs.map .str)))) (some (.ag (.str s))) lj (by simp;omega);refine⟨⟨x.2,s,rs,u⟩::bp,mf,lz,xC,xD,xE,by simpa using bX,λz aq=>?_,λ_=>by simp,?_⟩
   ·rcases cM.mp aq with rfl|aq
    ·exact⟨av,_J,cn⟩
    ·exact b4 z aq
   ·rw[dr,forL];have:sG [some (.ag (.int n)),s1,some (.ag (.int x.1)),s3,s4,some (.ag (.tuple (acc.map dT))),some (.ag (.str x.2)),eO,gZ,none]=some (.bO [some (.ag (.int n)),s1,some (.ag (.int x.1)),s3,some (.ag (.int q)),some (.ag (.tuple ((acc++[(⟨x.2,s,rs,u⟩:hP)]).map dT))),some (.ag (.str x.2)),some (.ag (.tuple (rs.map .str))),some (.ag (.str s)),none]):=by
     have rB:asg 4 (ar oDiv (b9 kV [(aZ 0),(ar ek (ak (.int 10)) (nm 2))]) (ak (.int 4))) [some (.ag (.int n)),s1,some (.ag (.int x.1)),s3,s4,some (.ag (.tuple (acc.map dT))),some (.ag (.str x.2)),eO,gZ,none]=some (.bO [some (.ag (.int n)),s1,some (.ag (.int x.1)),s3,some (.ag (.int q)),some (.ag (.tuple (acc.map dT))),some (.ag (.str x.2)),eO,gZ,none]):=by
      simp! [fN,mC,dK,eW]
     have mf:asg 7 (b9 g6 [(comp 1 [4] (j7 (ak (.int 3))) (cw 0) sH nO)]) [some (.ag (.int n)),s1,some (.ag (.int x.1)),s3,some (.ag (.int q)),some (.ag (.tuple (acc.map dT))),some (.ag (.str x.2)),eO,gZ,none]=some (.bO [some (.ag (.int n)),s1,some (.ag (.int x.1)),s3,some (.ag (.int q)),some (.ag (.tuple (acc.map dT))),some (.ag (.str x.2)),some (.ag (.tuple (rs.map .str))),gZ,none]):=by
      simp only[asg,b9,args,F4,c5,gd,g6];rfl
     unfold sG;rw[iA rB];have cR:fA (bS (ar i8 (ar oMod (nm 4) (ak (.int 3))) (ak (.int 0)))) (bS (ar oEq (nm 2) (ak (.int 1)))) [some (.ag (.int n)),s1,some (.ag (.int x.1)),s3,some (.ag (.int q)),some (.ag (.tuple (acc.map dT))),some (.ag (.str x.2)),eO,gZ,none]=some true:=by
      by_cases da:0<r
      ·simp! [fN,f7,i8,da]
      ·have uS:oEq (.int x.1) (.int 1)=some (.bool true):=by rw[qC,decide_eq_true (au.resolve_left da)]
       simp! [fN,f7,i8,da,uS]
     simp only[iff,cR,c5,if_true];rw[iA mf];simp! [fN,f7,oP,oQ,oR,nN,l7,nM,ek,bM,Md,ug,oj,vV,dT]
    simp only[oS,fp,gV,cw,c5,jD,jg,this];simpa using qc
  ·obtain⟨bp,mf,lz,xC,xD,xE,bX,b4,nX,qc⟩:=Lf n s1 s3 l acc (some (.ag (.int x.1))) (some (.ag (.int q))) (some (.ag (.str x.2))) eO gZ lj (by omega);refine⟨bp,mf,lz,xC,xD,xE,bX.cons _,b4,λ⟨y,a_,e⟩=>nX ?_,?_⟩
   ·rcases cM.mp a_ with rfl|a_
    ·exact absurd (.inr e) au
    ·exact⟨y,a_,e⟩
   ·rw[dr,forL];have:sG [some (.ag (.int n)),s1,some (.ag (.int x.1)),s3,s4,some (.ag (.tuple (acc.map dT))),some (.ag (.str x.2)),eO,gZ,none]=some (.bO [some (.ag (.int n)),s1,some (.ag (.int x.1)),s3,some (.ag (.int q)),some (.ag (.tuple (acc.map dT))),some (.ag (.str x.2)),eO,gZ,none]):=by
     have dF:¬0<r:=λz=>au (.inl z);have uS:oEq (.int x.1) (.int 1)=some (.bool false):=by rw[qC,decide_eq_false λz=>au (.inr z)]
     simp! [fN,sG,dK,eW,f7,mC,i8,dF,uS]
    simp only[oS,fp,gV,cw,c5,jD,jg,this];exact qc
noncomputable def lL:List (Int×Str):=[(0,"a"),(1,"b"),(2,"back"),(3,"d"),(4,"hall"),(5,"r"),(6,"win"),(7,"z")]
noncomputable def qX:List (Int×Str):=[(0,"0000"),(1,"1234"),(2,"4321"),(3,"7777"),(4,"9990"),(5,"9999")]
structure jN(p:a0):Prop where
 zs:(p.cL.map (·.1)).Sublist (lL.map (·.2))
 Dq:∀z∈p.cL,z.2∈kinds
 am2:p.cL≠[]
 cs:(p.codes.map (·.fK)).Sublist (qX.map (·.2))
 nI:∀k∈p.codes,k.jB∈xO/\k.m1.Sublist Dk/\k.uses∈([0,0,1,2,9]:List Int)
 wC:p.codes≠[]
 kn:p.leave∈([0,5,30,60]:List Int)
 vh:p.pY∈([0,4,20,60]:List Int)
 to:p.loud∈([1,9,120,300]:List Int)
def aj2(n:Int):∃p,jN p/\Dg [.int n]=some (b7 p):=by
 obtain⟨zs,s2,s3,s4,bX,b4,nX,qc⟩:=Lj n lL [] none none none (by decide) (by decide);have w':zs≠[]:=nX (by
  have ai:0<=n / 8 % 8:=vp _ (by decide);have ao:n / 8 % 8<8:=BP _ (by decide);generalize n / 8 % 8=r at ai ao;have:r=0\/r=1\/r=2\/r=3\/r=4\/r=5\/r=6\/r=7:=by omega
  rcases this with rfl|rfl|rfl|rfl|rfl|rfl|rfl|rfl
  ·exact⟨(0,"a"),by simp[lL],rfl⟩
  ·exact⟨(1,"b"),by simp[lL],rfl⟩
  ·exact⟨(2,"back"),by simp[lL],rfl⟩
  ·exact⟨(3,"d"),by simp[lL],rfl⟩
  ·exact⟨(4,"hall"),by simp[lL],rfl⟩
  ·exact⟨(5,"r"),by simp[lL],rfl⟩
  ·exact⟨(6,"win"),by simp[lL],rfl⟩
  ·exact⟨(7,"z"),by simp[lL],rfl⟩)
 obtain⟨bp,mh,xG,t6,t7,xH,Av,Pj,j3,j4⟩:=Lf n (some (.ag (.tuple (zs.map eD)))) s3 qX [] s2 s4 none none none (by decide) (by decide);have _l:bp≠[]:=j3 ⟨(1,"1234"),by simp[qX],rfl⟩;obtain⟨m,hm,dK⟩:=Df n 20 (by decide);obtain⟨q,bb,eW⟩:=divQ m 4;obtain⟨r,_,dx,a1,f7⟩:=modQ q 4;obtain⟨aP,mW,mL⟩:=divQ q 4;obtain⟨bj,_,gw,bM,oP⟩:=modQ aP 4;obtain⟨a9,nV,oQ⟩:=divQ q 16;obtain⟨b_,_,wC,cY,oR⟩:=modQ a9 4;obtain⟨u,cn,nN⟩:=xd [0,5,30,60] dx a1;obtain⟨v,bo,l7⟩:=xd [0,4,20,60] gw bM;obtain⟨w,hw,nM⟩:=xd [1,9,120,300] wC cY;simp only[dr,gc] at nN l7 nM;refine⟨⟨zs,bp,u,v,w⟩,⟨bX,b4,w',Av,Pj,_l,cn,bo,hw⟩,?_⟩;have f1:gU (nq (jk (bV [(ak (.str "a")),(ak (.str "b")),(ak (.str "back")),(ak (.str "d")),(ak (.str "hall")),(ak (.str "r")),(ak (.str "win")),(ak (.str "z"))]))) (fp [(cw 2),(cw 3)]) qW [some (.ag (.int n)),some (.ag (.tuple [])),none,none,none,none,none,none,none,none]=some (.bO [some (.ag (.int n)),some (.ag (.tuple (zs.map eD))),s2,s3,s4,none,none,none,none,none]):=by
  have:(nq (jk (bV [(ak (.str "a")),(ak (.str "b")),(ak (.str "back")),(ak (.str "d")),(ak (.str "hall")),(ak (.str "r")),(ak (.str "win")),(ak (.str "z"))]))) [some (.ag (.int n)),some (.ag (.tuple [])),none,none,none,none,none,none,none,none]=some (lL.map oS):=by
   simp[nq,jk,bV,args,ak,ajC,enum,lL,oS,List.zipIdx]
  unfold gU;rw[this];exact qc
 have f2:gU (nq (jk (bV [(ak (.str "0000")),(ak (.str "1234")),(ak (.str "4321")),(ak (.str "7777")),(ak (.str "9990")),(ak (.str "9999"))]))) (fp [(cw 2),(cw 6)]) sG [some (.ag (.int n)),some (.ag (.tuple (zs.map eD))),s2,s3,s4,some (.ag (.tuple [])),none,none,none,none]=some (.bO [some (.ag (.int n)),some (.ag (.tuple (zs.map eD))),mh,s3,xG,some (.ag (.tuple (bp.map dT))),t6,t7,xH,none]):=by
  have:(nq (jk (bV [(ak (.str "0000")),(ak (.str "1234")),(ak (.str "4321")),(ak (.str "7777")),(ak (.str "9990")),(ak (.str "9999"))]))) [some (.ag (.int n)),some (.ag (.tuple (zs.map eD))),s2,s3,s4,some (.ag (.tuple [])),none,none,none,none]=some (qX.map oS):=by
   simp[nq,jk,bV,args,ak,Mp,enum,qX,oS,List.zipIdx]
  unfold gU;rw[this];exact j4
 show eJ (seq (asg 1 (bV [])) (seq (gU (nq (jk (bV [(ak (.str "a")),(ak (.str "b")),(ak (.str "back")),(ak (.str "d")),(ak (.str "hall")),(ak (.str "r")),(ak (.str "win")),(ak (.str "z"))]))) (fp [(cw 2),(cw 3)]) qW)
  (seq (asg 5 (bV [])) (seq (gU (nq (jk (bV [(ak (.str "0000")),(ak (.str "1234")),(ak (.str "4321")),(ak (.str "7777")),(ak (.str "9990")),(ak (.str "9999"))]))) (fp [(cw 2),(cw 6)]) sG) _)))) 10 [.int n]=_
 unfold eJ;have oV:seq (asg 1 (bV []))=λb=>seq (asg 1 (bV [])) b:=rfl;have ai:asg 1 (bV []) [some (.ag (.int n)),none,none,none,none,none,none,none,none,none]=some (.bO [some (.ag (.int n)),some (.ag (.tuple [])),none,none,none,none,none,none,none,none]):=by simp[asg,bV,args]
 have f':asg 5 (bV []) [some (.ag (.int n)),some (.ag (.tuple (zs.map eD))),s2,s3,s4,none,none,none,none,none]=some (.bO [some (.ag (.int n)),some (.ag (.tuple (zs.map eD))),s2,s3,s4,some (.ag (.tuple [])),none,none,none,none]):=by simp[asg,bV,args]
 show (seq _ _ [some (.ag (.int n)),none,none,none,none,none,none,none,none,none]).bind _=_
 rw[iA ai,iA f1,iA f',iA f2];simp! [fN,dK,eW,f7,mL,oP,oQ,oR,nN,l7,nM,ug,oj,b7]
def jN.fk{p:a0}(h:jN p):p.cL.length<=8:=by simpa [lL] using h.zs.length_le
def jN.cl{p:a0}(h:jN p):p.codes.length<=6:=by simpa [qX] using h.cs.length_le
def rX{l:List Str}(h:l.all (λx=>(amJ x).canLay0)=true:=by decide +kernel){x:Str}(hx:x∈l):cE x:=List.all_eq_true.mp h x hx
def jN.wp{p:a0}(h:jN p):Wp p:=by
 refine⟨?_,?_,?_,?_⟩
 ·exact h.cs.nodup (by decide +kernel)
 ·exact h.zs.nodup (by decide +kernel)
 ·have:=h.cl;omega
 ·have ai:=h.kn;have ao:=h.vh;have bE:=h.to;simp at ai ao bE;omega
def jN.kk{p:a0}(h:jN p):∀z∈p.cL,cE z.1/\cE z.2:=λz aq=>⟨rX (l:=lL.map (·.2)) (hx:=h.zs.subset (en.mpr ⟨z,aq,rfl⟩)),rX (l:=kinds) (hx:=h.Dq z aq)⟩
def jN.adu{p:a0}(h:jN p):∀k∈p.codes,cE k.fK/\cE k.jB/\∀r∈k.m1,cE r:=λk aK=>⟨rX (l:=qX.map (·.2)) (hx:=h.cs.subset (en.mpr ⟨k,aK,rfl⟩)),rX (l:=xO) (hx:=(h.nI k aK).1),λr ax=>rX (l:=Dk) (hx:=(h.nI k aK).2.1.subset ax)⟩
def jN.begun{p:a0}(h:jN p):a3 p (b' p):=by
 refine⟨h.kk,h.adu,?_,br "off",λz e=>(nomatch e),λe=>absurd e Cp,?_,?_,?_,by simp[b'],by simp[b']⟩
 ·have:=h.fk;omega
 ·simp[b',n9]
 ·intro l aE;obtain⟨z,_,rfl⟩:=en.mp aE;exact br "shut"
 ·simp[b',n9]
end cb
end
section
namespace cb
open D PySem
def Au(p:a0):bg (b7 p) (.int 0)=some (.tuple (p.cL.map eD)):=by simp[bg,gL,hY,b7]
def aan(p:a0):bg (b7 p) (.int 1)=some (.tuple (p.codes.map dT)):=by simp[bg,gL,hY,b7]
def DP(z:Str×Str):bg (eD z) (.int 0)=some (.str z.1):=by simp[bg,gL,hY,eD]
def al3(k:hP):bg (dT k) (.int 0)=some (.str k.fK):=by simp[bg,gL,hY,dT]
def Pr(m:Int){l:List T}(h:l≠[]):∃q:Int,0<=q/\q<l.length/\oMod (.int m) (.int l.length)=some (.int q):=by
 have aE:0<(l.length:Int):=by
  have:=List.length_pos_iff.mpr h;omega
 obtain⟨q,_,ai,ao,e⟩:=modQ m l.length aE;exact⟨q,ai,ao,e⟩
noncomputable def uw:List Str:=["0000","1234","4321","7777","9990","9999","0001","1111","5555"]
noncomputable def uz(p:a0):c6->Prop
|.line z w=>z∈p.cL.map (·.1)/\w∈(["shut","open","open","cut"]:List Str)
|.code f d z=>f∈uw/\(((d="set"\/d="unset")/\z=none)\/((d="shunt"\/d="free")/\∃x,z=some x/\x∈p.cL.map (·.1)))
|.e8 n=>1<=n/\n<=1000000000
def uz.ok{p:a0}{e:c6}(h:uz p e):hC p e:=by
 cases e with
|line z w=>
  obtain⟨ai,ao⟩:=h;simp at ao;exact⟨ai,ao⟩
|e8 n=>exact h.1
|code f d z=>
  obtain⟨ai,ao⟩:=h;refine⟨rX (l:=uw) (hx:=ai),?_,?_⟩
  ·rcases ao with ⟨ao|ao,_⟩|⟨ao|ao,_⟩
   ·exact .inl ao
   ·exact .inr (.inl ao)
   ·exact .inr (.inr (.inl ao))
   ·exact .inr (.inr (.inr ao))
  ·intro hd;rcases ao with ⟨ao|ao,_⟩|⟨_,bE⟩
   ·rcases hd with hd|hd
    ·exact absurd (ao.symm.trans hd) K6
    ·exact absurd (ao.symm.trans hd) CK
   ·rcases hd with hd|hd
    ·exact absurd (ao.symm.trans hd) KU
    ·exact absurd (ao.symm.trans hd) Co
   ·exact bE
def ajA{p:a0}(h:jN p)(n:Int):∃e,uz p e/\rW [b7 p,.int n]=some (bU e):=by
 obtain⟨aP,_,dK⟩:=divQ n 8;obtain⟨i,i0,bX,eW⟩:=Pr (l:=p.cL.map eD) aP (by simpa using h.am2);obtain⟨t,bh,f7⟩:=As i0 bX;obtain⟨z,aq,rfl⟩:=en.mp bh;have s8:z.1∈p.cL.map (·.1):=en.mpr ⟨z,aq,rfl⟩;obtain⟨k,_,_,_,mL⟩:=modQ n 10;obtain⟨a9,_,oP⟩:=divQ n 512;obtain⟨b_,_,Ph,Av,oQ⟩:=modQ a9 4;obtain⟨w,hw,oR⟩:=xe ["shut","open","open","cut"] Ph Av;obtain⟨Zp,oY,nN⟩:=xe ["0001","1111","9999","0000"] Ph Av;obtain⟨de,_,l7⟩:=divQ n 64;obtain⟨jZ,_,nM⟩:=divQ n 4096;obtain⟨mY,_,k0,k1,F4⟩:=modQ jZ 3;obtain⟨u,cn,uS⟩:=xd [3,40,200] k0 k1;have _S:0<u/\u<=200:=by
  simp at cn;omega
 obtain⟨iK,_,am5,cg,Zh⟩:=modQ de u _S.1;obtain⟨Hd,aae,aaf,Ow⟩:=Pr (l:=p.codes.map dT) de (by simpa using h.wC);obtain⟨t',_P,Zi⟩:=As aae aaf;obtain⟨c,au,rfl⟩:=en.mp _P;have Z3:c.fK∈uw:=by
  have:=h.cs.subset (en.mpr ⟨c,au,rfl⟩);simp[qX,uw] at this ⊢;rcases this with q|q|q|q|q|q <;> simp[q]
 obtain⟨tl,_,Ox⟩:=divQ n 65536;obtain⟨tp,_,_,_,Oy⟩:=modQ tl 4;obtain⟨qh,_,m0,eX,Oz⟩:=modQ jZ 6;obtain⟨d,hd,F5⟩:=xe ["set","set","unset","shunt","free","shunt"] m0 eX;simp only[dr,gc] at oR nN uS F5;simp only[hi] at eW Ow;have kC:gC [.tuple (p.cL.map eD)]=some (.int p.cL.length):=by simp[gC]
 have a7:gC [.tuple (p.codes.map dT)]=some (.int p.codes.length):=by simp[gC]
 simp only[rW,Sw,eJ,dr,gc,e_,jh,ed,vr,ob];by_cases ai:k<5
 ·exact⟨.line z.1 w,⟨s8,hw⟩,by simp! [fN,Au,DP,dK,kC,eW,f7,mL,oLt,ai,oP,oQ,oR,ug,oj,bU]⟩
 ·by_cases ao:k<7
  ·exact⟨.e8 (1+iK),⟨by omega,by omega⟩,by simp! [fN,Au,DP,dK,kC,eW,f7,mL,oLt,ai,ao,l7,nM,F4,uS,Zh,mC,oj,nj,bU]⟩
  ·have eI:cE d:=rX (l:=["set","set","unset","shunt","free","shunt"]) (hx:=hd);have JN:=yw false (n:=d) (ns:=["set","unset"]) eI (by
    intro k aK;exact rX (l:=["set","unset"]) (hx:=aK))
   simp only[dr,gc] at JN;obtain⟨f,hf,uU⟩:∃f∈uw,(iff (bS (ar oEq (ar oMod (ar oDiv (nm 1) (ak (.int 65536))) (ak (.int 4))) (ak (.int 0)))) (asg 4 (ar bg (bV [(ak (.str "0001")),(ak (.str "1111")),(ak (.str "9999")),(ak (.str "0000"))]) (ar oMod (ar oDiv (nm 1) (ak (.int 512))) (ak (.int 4))))) skip) [some (.ag (b7 p)),some (.ag (.int n)),some (.ag (.str z.1)),some (.ag (.int k)),some (.ag (.str c.fK)),none]=some (.bO [some (.ag (b7 p)),some (.ag (.int n)),some (.ag (.str z.1)),some (.ag (.int k)),some (.ag (.str f)),none]):=by
    by_cases bE:tp=0
    ·refine⟨Zp,?_,by simp! [fN,Ox,Oy,qC,bE,oP,oQ,nN,ug]⟩
     simp[uw] at oY ⊢;rcases oY with q|q|q|q <;> simp[q]
    ·exact⟨c.fK,Z3,by simp! [fN,Ox,Oy,qC,bE]⟩
   have PZ:∀X:bF,iff (bS (ar oLt (nm 3) (ak (.int 5)))) X skip [some (.ag (b7 p)),some (.ag (.int n)),some (.ag (.str z.1)),some (.ag (.int k)),none,none]=some (.bO [some (.ag (b7 p)),some (.ag (.int n)),some (.ag (.str z.1)),some (.ag (.int k)),none,none]):=λX=>by simp! [fN,oLt,ai]
   have sB:∀X:bF,iff (bS (ar oLt (nm 3) (ak (.int 7)))) X skip [some (.ag (b7 p)),some (.ag (.int n)),some (.ag (.str z.1)),some (.ag (.int k)),none,none]=some (.bO [some (.ag (b7 p)),some (.ag (.int n)),some (.ag (.str z.1)),some (.ag (.int k)),none,none]):=λX=>by simp! [fN,oLt,ao]
   have P0:asg 4 (ar bg (ar bg (ar bg (nm 0) (ak (.int 1))) (ar oMod (ar oDiv (nm 1) (ak (.int 64))) (b9 gC [(ar bg (nm 0) (ak (.int 1)))]))) (ak (.int 0))) [some (.ag (b7 p)),some (.ag (.int n)),some (.ag (.str z.1)),some (.ag (.int k)),none,none]=some (.bO [some (.ag (b7 p)),some (.ag (.int n)),some (.ag (.str z.1)),some (.ag (.int k)),some (.ag (.str c.fK)),none]):=by simp! [fN,aan,a7,l7,Ow,Zi,al3]
   by_cases c4:d="set"\/d="unset"
   ·refine⟨.code f d none,⟨hf,.inl ⟨c4,rfl⟩⟩,?_⟩
    have JO:gQ false (.str d) (.tuple [.str "set",.str "unset"])=some (.bool true):=by
     rw[JN];simp[c4]
    have pre:∀B:bF,(seq (asg 2 (ar bg (ar bg (ar bg (nm 0) (ak (.int 0))) (ar oMod (ar oDiv (nm 1) (ak (.int 8))) (b9 gC [(ar bg (nm 0) (ak (.int 0)))]))) (ak (.int 0)))) (seq (asg 3 (ar oMod (nm 1) (ak (.int 10)))) B)) [some (.ag (b7 p)),some (.ag (.int n)),none,none,none,none]=B [some (.ag (b7 p)),some (.ag (.int n)),some (.ag (.str z.1)),some (.ag (.int k)),none,none]:=by
     intro B;simp! [fN,Au,DP,dK,kC,eW,f7,mL]
    rw[pre];rw[iA (PZ _),iA (sB _),iA P0,iA uU];simp! [fN,nM,Oz,F5,Mp,nj,JO,ug,bU,fi]
   ·refine⟨.code f d (some z.1),⟨hf,.inr ⟨?_,z.1,rfl,s8⟩⟩,?_⟩
    ·simp at hd;rcases hd with q|q|q|q|q
     ·exact absurd (.inl q) c4
     ·exact absurd (.inr q) c4
     ·exact .inl q
     ·exact .inr q
     ·exact .inl q
    have JO:gQ false (.str d) (.tuple [.str "set",.str "unset"])=some (.bool false):=by
     rw[JN];simp at c4;simp[c4]
    have pre:∀B:bF,(seq (asg 2 (ar bg (ar bg (ar bg (nm 0) (ak (.int 0))) (ar oMod (ar oDiv (nm 1) (ak (.int 8))) (b9 gC [(ar bg (nm 0) (ak (.int 0)))]))) (ak (.int 0)))) (seq (asg 3 (ar oMod (nm 1) (ak (.int 10)))) B)) [some (.ag (b7 p)),some (.ag (.int n)),none,none,none,none]=B [some (.ag (b7 p)),some (.ag (.int n)),some (.ag (.str z.1)),some (.ag (.int k)),none,none]:=by
     intro B;simp! [fN,Au,DP,dK,kC,eW,f7,mL]
    rw[pre];rw[iA (PZ _),iA (sB _),iA P0,iA uU];simp! [fN,nM,Oz,F5,Mp,nj,JO,ug,bU,fi]
noncomputable def vR:List c6:=[.code "5555" "unset" none,.code "5555" "unset" none,.code "5555" "unset" none]
theorem SO{p:a0}(h:jN p)(n:Int):∀(bp:List Int) (s0:Option aJ),(∀k∈bp,0<=k/\k<1000)->∃es:List c6,(∀e∈es,uz p e)/\es.length=bp.length/\gT (cw 0) (f6 true) (b9 rW [(aZ 1),(ar oDiv (b9 kV [(aZ 2),(ar ek (ak (.int 30)) (nm 0))]) (ak (.int 4)))]) (bp.map .int) [s0,some (.ag (b7 p)),some (.ag (.int n))]=some (es.map bU)
| [],s0,_=>⟨[],by simp,rfl,rfl⟩
|k::bp,s0,aK=>by
  obtain⟨m,_,dK⟩:=Df n (30+k) (by have:=aK k gb;omega);obtain⟨q,_,eW⟩:=divQ m 4;obtain⟨e,he,f7⟩:=ajA h q;obtain⟨es,bX,b4,nX⟩:=SO h n bp (some (.ag (.int k))) λy a_=>aK y (dR _ a_);refine⟨e::es,λx hx=>?_,by simp[b4],?_⟩
  ·rcases cM.mp hx with rfl|hx
   ·exact he
   ·exact bX x hx
  ·have au:b9 rW [(aZ 1),(ar oDiv (b9 kV [(aZ 2),(ar ek (ak (.int 30)) (nm 0))]) (ak (.int 4)))] [some (.ag (.int k)),some (.ag (b7 p)),some (.ag (.int n))]=some (bU e):=by
    simp! [fN,mC,dK,eW,f7]
   rw[dr];simp only[gT,cw,jg,c5,f6,if_true,au];rw[nX];rfl
def akU{p:a0}(h:jN p)(n m:Int)(a5:0<=n)(hm:0<=m/\m<900):∃es:List c6,(∀e∈es,uz p e)/\(es.length:Int)<=m/\yF [b7 p,.int n,.int m]=some (.tuple (es.map bU)):=by
 obtain⟨r,_,lx,bj,dK⟩:=modQ n (m+1) (by omega);have _p:i_ 0 r=((List.range r.toNat).map λ(k:Nat)=>(k:Int)).map .int:=by
  simp[i_,n9]
 obtain⟨es,bX,b4,nX⟩:=SO h n ((List.range r.toNat).map λ(k:Nat)=>(k:Int)) none (by
  intro k aK;obtain⟨j,bI,rfl⟩:=en.mp aK;have:=List.mem_range.mp bI;omega)
 have aE:(es.length:Int)=r:=by
  simp at b4;omega
 obtain⟨q,_,eW⟩:=divQ n 64;obtain⟨cq,_,_,_,f7⟩:=modQ q 5;have aeE:rY r=true:=by
  unfold rY;simp;omega
 have s1:asg 3 (b9 g6 [(comp 1 [0,1] (j7 (ar oMod (nm 1) (ar ek (nm 2) (ak (.int 1))))) (cw 0) (f6 true) (b9 rW [(aZ 1),(ar oDiv (b9 kV [(aZ 2),(ar ek (ak (.int 30)) (nm 0))]) (ak (.int 4)))]))]) [some (.ag (b7 p)),some (.ag (.int n)),some (.ag (.int m)),none]=some (.bO [some (.ag (b7 p)),some (.ag (.int n)),some (.ag (.int m)),some (.ag (.tuple (es.map bU)))]):=by
  have bM:((((List.range r.toNat).map λ(k:Nat)=>(k:Int)).map PyData.int).length<=big)=True:=by
   simp;unfold big;omega
  have it:(j7 (ar oMod (nm 1) (ar ek (nm 2) (ak (.int 1))))) [some (.ag (b7 p)),some (.ag (.int n)),some (.ag (.int m)),none]=some (((List.range r.toNat).map λ(k:Nat)=>(k:Int)).map .int):=by
   rw[<- _p];simp[j7,ar,nm,ak,mC,dK,aeE]
  simp only[asg,b9,args,comp,it,c5,bM,if_true];show Option.map _ ((Option.bind (Option.map _ (gT _ _ _ _ [none,some (.ag (b7 p)),some (.ag (.int n))])) _).bind _)=_;rw[nX];simp[g6]
 have cm:yF [b7 p,.int n,.int m]=(Dn [some (.ag (b7 p)),some (.ag (.int n)),some (.ag (.int m)),none]).bind λo=>match o with|.er t=>some t|.bO _=>some .none|_=>none:=rfl
 by_cases au:cq=0/\2<(es.length:Int)
 ·refine⟨es.take (es.length - 3)++vR,?_,?_,?_⟩
  ·intro e he;rcases j2.mp he with q|q
   ·exact bX e (List.mem_of_mem_take q)
   ·simp[vR] at q;subst q;exact⟨by simp[uw],.inl ⟨.inr rfl,rfl⟩⟩
  ·simp[vR];omega
  ·rw[cm];unfold Dn;rw[iA s1];have bM:(es.length - 3+3<=big)=True:=by
    simp only[eq_iff_iff,iff_true];unfold big;omega
   have bY:(max (-3+(es.length:Int)) 0).toNat=es.length - 3:=by omega
   have dy:min (es.length - 3) es.length=es.length - 3:=by omega
   have kE:xr (.tuple [bU (.code "5555" "unset" none)]) (.int 3)=some (.tuple (vR.map bU)):=by
    simp[xr,vR,ed,oj]
   simp only[bU,fi] at kE;simp! [fN,eW,f7,qC,au.1,au.2,gC,i8,slice,optN,opt,rv,Bc,mI,cX,bY,dy,kE,ug,vV,ek,vR];rw[if_pos (bM▸trivial)];simp! [fN]
 ·refine⟨es,bX,by omega,?_⟩
  rw[cm];unfold Dn;rw[iA s1];by_cases ai:cq=0
  ·have ao:¬2<(es.length:Int):=λz=>au ⟨ai,z⟩;simp! [fN,eW,f7,qC,ai,gC,i8];rw[if_neg ao];simp! [fN]
  ·simp! [fN,eW,f7,qC,ai]
end cb
end
section
namespace cb
open D PySem
noncomputable def aeH(k:Int)(w:Int×Str×Option Str):Int×Str×Option Str:=(k+w.1,w.2)
noncomputable def h1(k:Int)(pre:List (Int×Str×Option Str))(c:aQ):aQ:={c with past:=k+c.past,told:=pre++c.told.map (aeH k)}
noncomputable def alB(c:aQ):Prop:=c.mode="leaving"\/c.mode="coming"
end cb
end
section
namespace cb
open D PySem
noncomputable def okN(d:Nat)(t:T):Prop:=t.canLay0=true/\t.depth<=d
theorem okN.iJ{d:Nat}{t:T}(h:okN d t)(hd:d<=60:=by decide):iJ t=true:=by
 unfold D.iJ;rw[h.1,decide_eq_true (mn h.2 hd)];rfl
theorem L_{d:Nat}:∀{ts:List T},(∀t∈ts,okN d t)->lG ts=true/\kq ts<=d
| [],_=>by simp[lG,kq]
|t::ts,h=>by
  obtain⟨ai,ao⟩:=L_ λx hx=>h x (dR _ hx);obtain⟨bE,c4⟩:=h t gb;constructor
  ·rw[lG,bE,ai];rfl
  ·rw[kq];omega
def ji{d:Nat}{ts:List T}(h:∀t∈ts,okN d t):okN (d+1) (.tuple ts):=by
 obtain⟨ai,ao⟩:=L_ h;constructor
 ·rw[PyData.canLay0];exact ai
 ·rw[oa];omega
def aje{d:Nat}{ts:List T}(h:∀t∈ts,okN d t):okN (d+1) (.list ts):=by
 obtain⟨ai,ao⟩:=L_ h;constructor
 ·rw[PyData.canLay0];exact ai
 ·rw[oa];omega
def r1(d:Nat)(n:Int):okN d (.int n):=⟨rfl,by rw[oa];omega⟩
def SQ(d:Nat):okN d .none:=⟨rfl,by rw[oa];omega⟩
def ajf(d:Nat)(b:Bool):okN d (.bool b):=⟨rfl,by rw[oa];omega⟩
def jH(d:Nat){x:Str}(h:cE x):okN d (.str x):=⟨h,by rw[oa];omega⟩
def Dz(d:Nat){x:Option Str}(h:∀z,x=some z->cE z):okN d (fi x):=by
 cases x with
|none=>exact SQ d
|some z=>exact jH d (h z rfl)
def t_{d:Nat}{t:T}(h:okN d t)(hd:d<=60:=by decide):fW t t=some (.bool false):=by
 unfold fW;rw[h.iJ hd,PySem.SeqAt.eqv_refl t h.1];rfl
def SS{d:Nat}{t:T}(h:okN d t)(hd:d<=60:=by decide):oEq t t=some (.bool true):=by
 unfold oEq;rw[h.iJ hd,PySem.SeqAt.eqv_refl t h.1];rfl
def SR{p:a0}{c:aQ}(h:a3 p c):okN 2 (eb c):=by
 refine ji λt bh=>?_
 simp only[cM,gS,or_false] at bh;rcases bh with rfl|rfl|rfl|rfl|rfl|rfl|rfl|rfl|rfl|rfl
 ·exact jH _ h.mo
 ·exact r1 _ _
 ·exact Dz _ λz aq=>(h.ca z aq).1
 ·refine ji (d:=0) λt bh=>?_
  obtain⟨l,aE,rfl⟩:=en.mp bh;exact jH _ (h.lo l aE)
 ·refine ji (d:=0) λt bh=>?_
  obtain⟨l,aE,rfl⟩:=en.mp bh;exact jH _ (h.va l aE)
 ·exact r1 _ _
 ·refine ji (d:=0) λt bh=>?_
  obtain⟨l,aE,rfl⟩:=en.mp bh;exact jH _ (h.PK l aE)
 ·exact r1 _ _
 ·exact r1 _ _
 ·refine ji (d:=0) λt bh=>?_
  obtain⟨l,aE,rfl⟩:=en.mp bh;exact r1 _ _
noncomputable def cW(c:aQ):Prop:=∀w∈c.told,cE w.2.1/\∀n,w.2.2=some n->cE n
theorem cW.tell{c:aQ}(h:cW c){w:Str}{n:Option Str}(hw:cE w)(a5:∀x,n=some x->cE x):cW (cb.tell w n c):=by
 intro x hx;rcases j2.mp hx with q|q
 ·exact h x q
 ·simp at q;subst q;exact⟨hw,a5⟩
theorem cW.gj{p:a0}{c:aQ}(h:cW c){z:Str}(aq:cE z):cW (cb.gj p z c):=by
 unfold cb.gj;split
 ·exact h
 ·exact cW.tell (c:={k_ p c with dh:=c.dh++[z]}) h (br "alarm") λx e=>fF e▸aq
theorem cW.dh{p:a0}:∀{zs:List Str} {c:aQ},cW c->(∀z∈zs,cE z)->cW (cb.dh p zs c)
| [],_,h,_=>h
|z::zs,c,h,aq=>cW.dh (zs:=zs) (h.gj (aq z gb)) λy a_=>aq y (dR _ a_)
theorem cW.kG{p:a0}{c:aQ}(h:cW c){z k:Str}(aq:cE z):cW (cb.kG p z k c):=by
 unfold cb.kG;split
 ·exact h.gj aq
 ·exact cW.tell (c:={c with mode:="coming",left:=p.pY,g_:=some z}) h (br "coming") λx e=>fF e▸aq
theorem cW.l6{p:a0}{c:aQ}(h:cW c){z w:Str}(aq:cE z):cW (cb.l6 p z w c):=by
 unfold cb.l6
 repeat' split
 all_goals first|exact h.gj aq|exact h.tell (br "fault") λx e=>fF e▸aq|exact h.kG aq|exact h
theorem cW.line{p:a0}{c:aQ}(h:cW c){z w:Str}(aq:cE z):cW (cb.line p z w c):=by
 have h':cW {c with lines:=m2 c.lines z w}:=h;unfold cb.line
 repeat' split
 all_goals first|exact h|exact h'|exact h'.tell (br "mended") λx e=>fF e▸aq|exact h'.l6 aq
theorem cW.kH{p:a0}{c:aQ}(h:cW c)(hw:a3 p c):cW (cb.kH p c):=
 cW.dh (cW.tell (c:={c with mode:="on",left:=0}) h (br "on") λx e=>(nomatch e)) λz aq=>hw.kk (Dh aq)
theorem cW.kI{p:a0}{c:aQ}(h:cW c)(hw:a3 p c)(hm:alB c):cW (cb.kI p c):=by
 unfold cb.kI;split
 ·exact h.kH hw
 next q=>
  obtain⟨z,aq⟩:=Option.ne_none_iff_exists'.mp (hw.kF (hm.resolve_left q));unfold cb.p4;rw[aq];exact cW.gj (c:={c with mode:="on",g_:=none}) h (hw.ca z aq).1
theorem cW.e8{p:a0}{c:aQ}(h:cW c)(hw:a3 p c)(n:Int):cW (cb.e8 p n c):=by
 unfold cb.e8;split
 ·exact h
 ·split
  next q=>exact cW.kI (c:=qy c.left c) h (hw.cd _) q.1
  ·exact h
theorem cW.j1{p:a0}{c:aQ}(h:cW c):cW (cb.j1 p c):=by
 have ai:cW (n7 c):=cW.tell h (br "wrong") λx e=>(nomatch e);unfold cb.j1;split
 ·exact cW.tell (c:=k_ p {n7 c with tries:=0,locked:=90}) ai (br "attack") λx e=>(nomatch e)
 ·exact ai
def ah0{p:a0}{c:aQ}(hw:a3 p c){k:hP}(aK:k∈p.codes){d:Str}{z:Option Str}{x:Str×Str}(h:mH p k d z c=some x):cE x.1/\cE x.2:=by
 have O':=(hw.fm k aK).2.1;unfold mH at h;by_cases ai:(if d="free" then ("shunt":Str) else d)∈k.m1
 ·rw[if_neg (λq=>q ai)] at h;split at h
  ·cases h
   exact⟨br "no",O'⟩
  ·split at h
   next q=>
    cases h
    refine⟨br "open",?_⟩
    have aa:=q.2;cases e:bare p ["day","once"] c with
    |nil=>exact absurd e aa
    |cons b bs=>
     have:b∈bare p ["day","once"] c:=by rw[e];simp
     simpa using hw.kk (Dh this)
   ·cases h
 ·rw[if_pos ai] at h;cases h;exact⟨br "denied",O'⟩
theorem cW.hT{p:a0}{c:aQ}(h:cW c)(hw:a3 p c){w d:Str}{z:Option Str}(how:cE w)(aq:Bd p d z c):cW (cb.hT p w d z c):=by
 rcases aq with rfl|rfl|⟨rfl,x,rfl,hx⟩|⟨rfl,x,rfl,hx⟩
 ·simp only[cb.hT,if_true];have h':cW (cb.tell "set" (some w) {c with dh:=[],fY:=0,mode:="leaving",left:=p.leave}):=cW.tell (c:={c with dh:=[],fY:=0,mode:="leaving",left:=p.leave}) h (br "set") λx e=>fF e▸how;show cW (if p.leave<=0 then cb.kH p (cb.tell "set" (some w) {c with dh:=[],fY:=0,mode:="leaving",left:=p.leave}) else cb.tell "set" (some w) {c with dh:=[],fY:=0,mode:="leaving",left:=p.leave});split
  ·exact h'.kH ((hw.Bs p.leave).tell _ _)
  ·exact h'
 ·simp only[cb.hT,if_neg Cx,if_true];exact cW.tell (c:={c with mode:="off",left:=0,fY:=0,g_:=none,dW:=[]}) h (br "unset") λx e=>fF e▸how
 ·simp only[cb.hT,if_neg Cy,if_neg yb,if_true];exact cW.tell (c:={c with dW:=amG (c.dW++[x])}) h (br "shunt") λy e=>fF e▸hw.kk hx
 ·simp only[cb.hT,if_neg CL,if_neg ye,if_neg yf];exact cW.tell (c:={c with dW:=c.dW.erase x}) h (br "free") λy e=>fF e▸hw.va x hx
theorem cW.iv{p:a0}{c:aQ}(h:cW c)(hw:a3 p c){e:c6}(he:hC p e):cW (cb.iv p c e):=by
 cases e with
|line z w=>exact h.line (hw.kk he.1)
|e8 n=>exact h.e8 hw n
|code f d z=>
  show cW (cb.code p f d z c)
  unfold cb.code;split
  ·exact h.tell (br "locked") λx e=>(nomatch e)
  ·split
   ·exact h.j1
   next k gy=>
    have aK:=RS gy;split
    ·exact h.j1
    ·have amU:=hw.BF 0;have h0:cW {c with tries:=0}:=h;unfold cb.takeRight;split
     next ea=>exact cW.hT (c:={c with tries:=0,used:=qT c.used k.fK}) h (amU.add k.fK) (hw.fm k aK).2.1 (My he.2.1 he.2.2 ea)
     next ea=>
      have:=ah0 amU aK ea;exact h0.tell this.1 λx e=>fF e▸this.2
theorem cW.run{p:a0}:∀{es:List c6} {c:aQ},cW c->a3 p c->(∀e∈es,hC p e)->cW (cb.run p c es)
| [],_,h,_,_=>h
|e::es,c,h,hw,he=>cW.run (es:=es) (h.iv hw (he e gb)) (hw.iv (he e gb)) λy a_=>he y (dR _ a_)
theorem cW.fresh(c:aQ):cW (cb.fresh c):=λw hw=>by cases hw
def ajd{c:aQ}(h:cW c):okN 2 (.tuple (c.told.map mM)):=by
 refine ji λt bh=>?_
 obtain⟨w,hw,rfl⟩:=en.mp bh;refine ji λt bh=>?_;simp only[cM,gS,or_false] at bh;rcases bh with rfl|rfl|rfl
 ·exact r1 _ _
 ·exact jH _ (h w hw).1
 ·exact Dz _ (h w hw).2
def akr(p:a0)(c:aQ)(e:c6)(h:a3 p c)(aN:Wp p)(he:hC p e):yU [b7 p,eb c,bU e]=some (eb (iv p (fresh c) e)):=by
 have dK:=K2 p c [e] h aN (by simpa using he) (by simp);have eW:=aiR p (run p (fresh c) [e]) .c1 (h.fresh.run (by simpa using he));simp only[dr,gc] at dK;simp! [fN,yU,Uu,sh,pd,vV,dK,uh,eW];rfl
noncomputable def jl(w:Int×Str×Option Str):T:=.tuple [.str w.2.1,fi w.2.2]
theorem Ur(caps:Ev):∀(ws:List (Int×Str×Option Str)) (s0 s1 s2:Option aJ),gT (fp [(cw 0),(cw 1),(cw 2)]) (f6 true) (bV [(aZ 1),(aZ 2)]) (ws.map mM) (s0::s1::s2::caps)=some (ws.map jl)
| [],_,_,_=>rfl
|w::ws,s0,s1,s2=>by
  have b1:=Ur caps ws (some (.ag (.int w.1))) (some (.ag (.str w.2.1))) (some (.ag (fi w.2.2)));simp only[dr,gT,mM,fp,gV,cw,c5,jg,jD,f6,if_true] at b1 ⊢;simp only[bV,args,aZ,ks,jE,c5,gd,e_,jh,nj,if_true] at b1 ⊢;simp[nj,jl];simpa [mM,jl] using b1
def aiL(p:a0)(c:aQ)(e:c6)(h:a3 p c)(aN:Wp p)(he:hC p e):yD [b7 p,eb c,bU e]=some (.tuple ((iv p (fresh c) e).told.map jl)):=by
 have dK:=K2 p c [e] h aN (by simpa using he) (by simp);have aa:=LO (es:=[e]) h.fresh (by simpa using he);have bY:(60000<big):=by decide
 have h0:(fresh c).told.length=0:=rfl;have bM:(run p (fresh c) [e]).told.length<=big:=by simp at aa;omega
 have fy:=Ur [] (run p (fresh c) [e]).told none none none;simp only[dr,gc] at dK;simp! [fN,yD,TL,sh,vO,vV,dK,uh,uR,bM];rw[fy];simp[g6];rfl
end cb
end
section
namespace cb
open D PySem
def qA{i:Nat}{f:bH}{b:bF}{ε:Ev}{t:T}{r:Option Out}(h:f ε=some t)(ao:b (ε.set i (some (.ag t)))=r):seq (asg i f) b ε=r:=by
 rw[iA (ε':=ε.set i (some (.ag t))),ao];unfold asg;rw[h];rfl
def De{c:fS}{a b:bF}{ε:Ev}{r:Option Out}(h:c ε=some false)(ao:b ε=r):seq (iff c a skip) b ε=r:=by
 rw[iA (ε':=ε),ao];unfold iff;rw[h];rfl
def kX{a b:bF}{ε ε':Ev}{r:Option Out}(h:a ε=some (.bO ε'))(ao:b ε'=r):seq a b ε=r:=by rw[iA h,ao]
theorem denied{p:a0}{c:aQ}{k:hP}{d:Str}(hd:d="set"\/d="unset")(ax:d∉k.m1):takeRight p k d none c=tell "denied" (some k.jB) c:=by
 have:mH p k d none c=some (("denied":Str),k.jB):=by
  rcases hd with rfl|rfl <;> simp[mH,CK,Co,ax]
 unfold takeRight;rw[this]
def ajc(d:Nat){w:Str}{n:Option Str}(hw:cE w)(a5:∀x,n=some x->cE x):okN (d+1) (.tuple [.str w,fi n]):=ji λx hx=>by
 simp only[cM,gS,or_false] at hx;rcases hx with rfl|rfl
 ·exact jH _ hw
 ·exact Dz _ a5
end cb
end
section
namespace cb
open D PySem
theorem TC{α:Type}{enc x y g:α->T}{q:α->Bool}{cc:fS}{gm:bH}{caps:Ev}(he:∀a,enc a=.tuple [x a,y a]):∀(ts:List α) (s0 s1:Option aJ),(∀a∈ts,cc (some (.ag (x a))::some (.ag (y a))::caps)=some (q a)/\(q a=true->gm (some (.ag (x a))::some (.ag (y a))::caps)=some (g a)))->gT (fp [(cw 0),(cw 1)]) cc gm (ts.map enc) (s0::s1::caps)=some ((ts.filter q).map g)
| [],_,_,_=>rfl
|a::ts,s0,s1,h=>by
  have b1:=TC he ts (some (.ag (x a))) (some (.ag (y a))) λb aa=>h b (dR _ aa);obtain⟨h0,ai⟩:=h a (by simp);rw[dr,gT,he a];simp only[fp,gV,cw,c5,jg,jD,h0];cases bb:q a with
  |true=>simp only[if_true,ai bb,c5,b1,gd,List.filter_cons,bb,dr]
  |false=>simp only[pn,if_false,b1,List.filter_cons,bb]
noncomputable def r2(p:a0)(c:aQ):List Str:=((p.cL.zip c.lines).filter λx=>!decide (x.2.2=("shut":Str))).map λx=>x.1.1
def aiV(p:a0)(c:aQ)(h:a3 p c):vP [b7 p,eb c]=some (.tuple [.str c.mode,.bool (decide (c.fY > 0)),.tuple ((r2 p c).map .str)]):=by
 have An:(p.cL.zip c.lines).length<=big:=by
  have:=h.fk;rw[List.length_zip];unfold big;omega
 have zw:List.zipWith (λx y=>PyData.tuple [x,y]) (p.cL.map eD) (c.lines.map λl=>.str l.2)=(p.cL.zip c.lines).map λx=>.tuple [eD x.1,.str x.2.2]:=by
  rw[List.zipWith_map,List.zip,List.map_zipWith]
 have au:=TC (enc:=λx:(Str×Str)×(Str×Str)=>.tuple [eD x.1,.str x.2.2]) (x:=λx=>eD x.1) (y:=λx=>.str x.2.2) (g:=λx=>.str x.1.1) (q:=λx=>!decide (x.2.2=("shut":Str))) (cc:=bS (ar fW (nm 1) (ak (.str "shut")))) (gm:=ar bg (nm 0) (ak (.int 0))) (caps:=[]) (λ_=>rfl) (p.cL.zip c.lines) none none (λx hx=>by
  have _V:=(List.of_mem_zip hx).2;have q:=oq (h.lo _ _V) (br "shut");refine⟨by simp! [fN,q],λ_=>?_⟩;simp! [iN,eD])
 have b:Mk [some (.ag (b7 p)),some (.ag (eb c)),none]=some (.er (.tuple [.str c.mode,.bool (decide (c.fY > 0)),.tuple ((r2 p c).map .str)])):=by
  unfold Mk;refine qA (t:=.list ((r2 p c).map .str)) ?_ ?_
  ·have it:DQ (jk (ar bg (nm 0) (ak (.int 0)))) (jk (ar bg (nm 1) (ak (.int 3)))) [some (.ag (b7 p)),some (.ag (eb c)),none]=some ((p.cL.zip c.lines).map λx=>.tuple [eD x.1,.str x.2.2]):=by
    rw[<- zw];rfl
   unfold comp;rw[it];simp only[c5,hi];rw[if_pos An];show (gT _ _ _ _ [none,none]).map _=_;rw[au];simp[r2,n9]
  simp only[jD,jg];simp! [iN,eb,i8,g6,oj]
 unfold vP eJ;simp only[dr,gc,e_,jh,vr,ob];exact congrArg (λo=>Option.bind o _) b
def aif(d:Nat){p:a0}{c:aQ}(h:a3 p c)(b:Bool):okN (d+2) (.tuple [.str c.mode,.bool b,.tuple ((r2 p c).map .str)]):=ji λx hx=>by
 simp only[cM,gS,or_false] at hx;rcases hx with rfl|rfl|rfl
 ·exact jH _ h.mo
 ·exact ajf _ _
 ·refine ji λx hx=>?_
  obtain⟨y,a_,rfl⟩:=en.mp hx;obtain⟨w,hw,rfl⟩:=en.mp a_;exact jH _ (h.zn _ (List.of_mem_zip (List.mem_filter.mp hw).1).1).1
end cb
end
section
namespace fP
open D cb
open PySem hiding run fresh code
local instance:cI:=⟨[],λ_=>[],λ_=>none⟩
noncomputable def ec(p:a0)(c:aQ)(e:c6):aQ:=iv p (fresh c) e
noncomputable def b2(p:a0)(es:List c6)(pre:List aQ)(c:aQ):List aJ:=[.ag (b7 p),.own (es.map bU),.own ((pre++[c]).map eb)]
noncomputable def amI(p:a0)(e:c6):Prop:=hC p e/\match e with
|.code _ _ z=>∀x,z=some x->x∈p.cL.map (·.1)
|_=>True
section
variable {p:a0}{es:List c6}{pre:List aQ}{c:aQ}{md:gr}
def akn(xs:List T)(x:T):bg (.list (xs++[x])) (.int (-1))=some x:=by
 have ai:¬((0:Int)<=-1):=by omega
 have ao:-(((xs++[x]).length:Nat):Int)<=-1:=by simp only[kr,e_,jh];omega
 have bE:(-1+(((xs++[x]).length:Nat):Int)).toNat=xs.length:=by simp only[kr,e_,jh];omega
 simp only[bg,gL,hY];rw[if_neg ai,if_pos ao,bE];simp
def Sn:my [.obj md 1 (b2 p es pre c)]=some (eb c):=by
 have av:CC [some (.obj md 1 (b2 p es pre c))]=some (.er (eb c)):=by
  have dK:fld 1 0 2 [some (.obj md 1 (b2 p es pre c))]=some (.list (pre.map eb++[eb c])):=by
   simp[fld,dq,b2]
  have eW:e7 rv (ak (.int 1)) [some (.obj md 1 (b2 p es pre c))]=some (.int (-1)):=rfl;unfold CC cP ar;rw[dK,eW];simp only[c5,akn];rfl
 unfold my gE;show Option.bind (CC [some (.obj md 1 (b2 p es pre c))]) _=_;rw[av];rfl
def L'{ε:Ev}{i:Nat}(h:ε[i]?=some (some (.obj md 1 (b2 p es pre c)))):ef 1 my i [] ε=some (eb c):=by
 have:dq 1 i ε=some (md,b2 p es pre c):=by simp[dq,h]
 simp only[ef,this,c5,args,gc,Sn]
def yS{ε:Ev}{i:Nat}(h:ε[i]?=some (some (.obj md 1 (b2 p es pre c)))):fL 1 i 0 ε=some (b7 p):=by
 have:dq 1 i ε=some (md,b2 p es pre c):=by simp[dq,h]
 simp only[fL,this,c5];rfl
def ahY(wp:Wp p)(hw:a3 p c){e:c6}(he:hC p e)(aE:es.length<10000)(aN:pre.length<10000):
  pC [.obj .cy 1 (b2 p es pre c),.ag (bU e)]=some (.tuple ((ec p c e).told.map jl),b2 p (es++[e]) (pre++[c]) (ec p c e)):=by
 have lC:=aiL p c e hw wp he;have xg:=akr p c e hw wp he;have bM:(es.map bU).length<big:=by rw[hi];unfold big;omega
 have bY:((pre++[c]).map eb).length<big:=by simp only[hi,kr,e_,jh];unfold big;omega
 have av:Cq [some (.obj .cy 1 (b2 p es pre c)),some (.ag (bU e)),none,none]=some (.iL (.tuple ((ec p c e).told.map jl)) [some (.obj .cy 1 (b2 p (es++[e]) (pre++[c]) (ec p c e))),some (.ag (bU e)),some (.ag (.tuple ((ec p c e).told.map jl))),some (.ag (eb (ec p c e)))]):=by
  unfold Cq;refine qA (t:=.tuple ((ec p c e).told.map jl)) (by
   simp only[b9,args,yS (i:=0) (ε:=[some (.obj .cy 1 (b2 p es pre c)),some (.ag (bU e)),none,none]) rfl,L' (i:=0) (ε:=[some (.obj .cy 1 (b2 p es pre c)),some (.ag (bU e)),none,none]) rfl,aZ,ks,jE,c5,gd,lC];rfl) ?_
  simp only[jD,jg];refine qA (t:=eb (ec p c e)) (by
   simp only[b9,args,yS (i:=0) (ε:=[some (.obj .cy 1 (b2 p es pre c)),some (.ag (bU e)),some (.ag (.tuple ((ec p c e).told.map jl))),none]) rfl,L' (i:=0) (ε:=[some (.obj .cy 1 (b2 p es pre c)),some (.ag (bU e)),some (.ag (.tuple ((ec p c e).told.map jl))),none]) rfl,aZ,ks,jE,c5,gd,xg];rfl) ?_
  simp only[jD,jg];refine kX (ε':=[some (.obj .cy 1 [.ag (b7 p),.own ((es++[e]).map bU),.own ((pre++[c]).map eb)]),some (.ag (bU e)),some (.ag (.tuple ((ec p c e).told.map jl))),some (.ag (eb (ec p c e)))]) ?_ ?_
  ·simp only[l2,k',gF,dq,b2,aZ,ks,jE,c5,gd,if_true,if_pos bM];have em:(es++[e]).map bU=es.map bU++[bU e]:=by simp
   rw[em];rfl
  refine kX (ε':=[some (.obj .cy 1 (b2 p (es++[e]) (pre++[c]) (ec p c e))),some (.ag (bU e)),some (.ag (.tuple ((ec p c e).told.map jl))),some (.ag (eb (ec p c e)))]) ?_ rfl
  simp only[l2,k',gF,dq,b2,aZ,ks,jE,c5,gd,if_true,if_pos bY];have em:((pre++[c])++[ec p c e]).map eb=(pre++[c]).map eb++[eb (ec p c e)]:=by simp
  rw[em];rfl
 unfold pC runM;show Option.bind (Cq [some (.obj .cy 1 (b2 p es pre c)),some (.ag (bU e)),none,none]) _=_;rw[av];simp[j6]
def LU(wp:Wp p)(hw:a3 p c){e:c6}(he:hC p e)(aE:es.length<10000)(aN:pre.length<10000){ε:Ev}{i:Nat}{md:gr}(hm:md≠.c1)(h:ε[i]?=some (some (.obj md 1 (b2 p es pre c)))){f:bH}(hf:f ε=some (bU e)):
  cS 1 pC i [f] ε=some (.tuple ((ec p c e).told.map jl),ε.set i (some (.obj md 1 (b2 p (es++[e]) (pre++[c]) (ec p c e))))):=by
 have ai:dq 1 i ε=some (md,b2 p es pre c):=by simp[dq,h]
 simp only[cS,ai,c5,if_neg hm,args,hf,gd,dr,gc,ahY wp hw he aE aN]
def abt(aq:∀x∈p.cL,cE x.1/\cE x.2){z:Str}(h:z∈p.cL.map (·.1)):rP [.obj .c1 1 (b2 p es pre c),.ag (.str z)]=some .none:=by
 have gy:=Le aq h;have av:Ca [some (.obj .c1 1 (b2 p es pre c)),some (.ag (.str z))]=some (.bO [some (.obj .c1 1 (b2 p es pre c)),some (.ag (.str z))]):=by
  unfold Ca;simp only[q4,b9,args,yS (i:=0) (ε:=[some (.obj .c1 1 (b2 p es pre c)),some (.ag (.str z))]) rfl,aZ,ks,jE,c5,gd,gy]
 unfold rP gE;show Option.bind (Ca [some (.obj .c1 1 (b2 p es pre c)),some (.ag (.str z))]) _=_;rw[av];rfl
def Uj(aq:∀x∈p.cL,cE x.1/\cE x.2){z:Str}(h:z∈p.cL.map (·.1)){ε:Ev}{i:Nat}(aM:ε[i]?=some (some (.obj md 1 (b2 p es pre c)))){f:bH}(hf:f ε=some (.str z)):q4 (ef 1 rP i [f]) ε=some (.bO ε):=by
 have ai:dq 1 i ε=some (md,b2 p es pre c):=by simp[dq,aM]
 simp only[q4,ef,ai,c5,args,hf,gd,dr,gc,abt aq h]
noncomputable def lV(p:a0)(es:List c6)(pre:List aQ)(c:aQ)(e:c6):T×List aJ:=(.tuple ((ec p c e).told.map jl),b2 p (es++[e]) (pre++[c]) (ec p c e))
def ajG(wp:Wp p)(hw:a3 p c){z w:Str}(he:hC p (.line z w))(aE:es.length<10000)(aN:pre.length<10000):
  yi [.obj .cy 1 (b2 p es pre c),.ag (.str z),.ag (.str w)]=some (lV p es pre c (.line z w)):=by
 have dy:(3:Nat)<=big:=by unfold big;omega
 have av:CP [some (.obj .cy 1 (b2 p es pre c)),some (.ag (.str z)),some (.ag (.str w))]=some (.iL (lV p es pre c (.line z w)).1 [some (.obj .cy 1 (lV p es pre c (.line z w)).2),some (.ag (.str z)),some (.ag (.str w))]):=by
  unfold CP;refine kX (Uj hw.zn he.1 (i:=0) rfl rfl) ?_;unfold i';rw[LU wp hw he aE aN (by decide) (i:=0) rfl (by simp[bV,args,ak,aZ,dy,bU])];rfl
 unfold yi runM;show Option.bind (CP [some (.obj .cy 1 (b2 p es pre c)),some (.ag (.str z)),some (.ag (.str w))]) _=_;rw[av];simp[j6]
def aiG(wp:Wp p)(hw:a3 p c){n:Int}(he:hC p (.e8 n))(aE:es.length<10000)(aN:pre.length<10000):
  yg [.obj .cy 1 (b2 p es pre c),.ag (.int n)]=some (lV p es pre c (.e8 n)):=by
 have dy:(2:Nat)<=big:=by unfold big;omega
 have av:CB [some (.obj .cy 1 (b2 p es pre c)),some (.ag (.int n))]=some (.iL (lV p es pre c (.e8 n)).1 [some (.obj .cy 1 (lV p es pre c (.e8 n)).2),some (.ag (.int n))]):=by
  unfold CB i';rw[LU wp hw he aE aN (by decide) (i:=0) rfl (by simp[bV,args,ak,aZ,dy,bU])];rfl
 unfold yg runM;show Option.bind (CB [some (.obj .cy 1 (b2 p es pre c)),some (.ag (.int n))]) _=_;rw[av];simp[j6]
def ajH(wp:Wp p)(hw:a3 p c){f d:Str}{z:Option Str}(he:amI p (.code f d z))(aE:es.length<10000)(aN:pre.length<10000):
  yj [.obj .cy 1 (b2 p es pre c),.ag (.str f),.ag (.str d),.ag (fi z)]=some (lV p es pre c (.code f d z)):=by
 have dy:(4:Nat)<=big:=by unfold big;omega
 have hd:cE d:=by
  rcases he.1.2.1 with h|h|h|h <;> (rw[h];exact br _)
 have PH:=yw false (n:=d) (ns:=["shunt","free"]) hd (λx hx=>by
  simp only[cM,gS,or_false] at hx;rcases hx with h|h <;> (rw[h];exact br _))
 have av:CQ [some (.obj .cy 1 (b2 p es pre c)),some (.ag (.str f)),some (.ag (.str d)),some (.ag (fi z))]=some (.iL (lV p es pre c (.code f d z)).1 [some (.obj .cy 1 (lV p es pre c (.code f d z)).2),some (.ag (.str f)),some (.ag (.str d)),some (.ag (fi z))]):=by
  unfold CQ;refine kX (ε':=[some (.obj .cy 1 (b2 p es pre c)),some (.ag (.str f)),some (.ag (.str d)),some (.ag (fi z))]) ?_ ?_
  ·cases z with
   |some x=>
    have hx:x∈p.cL.map (·.1):=he.2 x rfl;unfold iff;have t:fA (bS (e7 jK (nm 3))) (bS (ar (gQ false) (nm 2) (ak (.tuple (jI ["shunt","free"]))))) [some (.obj .cy 1 (b2 p es pre c)),some (.ag (.str f)),some (.ag (.str d)),some (.ag (fi (some x)))]=some true:=rfl;rw[t];exact Uj hw.zn hx (i:=0) rfl rfl
   |none=>
    have a8:¬(d∈(["shunt","free"]:List Str)):=λhm=>by
     simp only[cM,gS,or_false] at hm;obtain⟨x,hx,_⟩:=he.1.2.2 hm;cases hx
    simp only[pn,if_false,decide_eq_false a8] at PH;have ado:gQ false (.str d) (.tuple (jI ["shunt","free"]))=some (.bool false):=PH;unfold iff;have t:fA (bS (e7 jK (nm 3))) (bS (ar (gQ false) (nm 2) (ak (.tuple (jI ["shunt","free"]))))) [some (.obj .cy 1 (b2 p es pre c)),some (.ag (.str f)),some (.ag (.str d)),some (.ag (fi none))]=some false:=by
     simp only[fA,bS,e7,ar,nm,ak,ks,jE,c5,ado];rfl
    rw[t];rfl
  unfold i';rw[LU (e:=.code f d z) wp hw he.1 aE aN (by decide) (i:=0) rfl (by simp[bV,args,ak,aZ,dy,bU])];rfl
 unfold yj runM;show Option.bind (CQ [some (.obj .cy 1 (b2 p es pre c)),some (.ag (.str f)),some (.ag (.str d)),some (.ag (fi z))]) _=_;rw[av];simp[j6]
def alz(wp:Wp p)(hw:a3 p c){e:c6}(he:amI p e)(aE:es.length<10000)(aN:pre.length<10000):
  ng [.obj .cy 1 (b2 p es pre c),.ag (bU e)]=some (lV p es pre c e):=by
 have fin:CN [some (.obj .cy 1 (b2 p es pre c)),some (.ag (bU e))]=some (.iL (lV p es pre c e).1 [some (.obj .cy 1 (lV p es pre c e).2),some (.ag (bU e))]):=by
  have hm:¬(gr.cy=gr.c1):=by decide
  have dc:∀s:Option aJ,dq 1 0 [some (.obj .cy 1 (b2 p es pre c)),s]=some (.cy,b2 p es pre c):=λs=>rfl;unfold CN;cases e with
  |line z w=>
   have x:=ajG wp hw he.1 aE aN;have q:=dC (br "line") (br "line");simp! [iN,bU,q,i',cS,dc,x]
  |code f d z=>
   have x:=ajH wp hw he aE aN;have aP:=dC (br "code") (br "line");have a9:=dC (br "code") (br "code");simp! [P7,bU,aP,a9,i',cS,dc,x]
  |e8 n=>
   have x:=aiG wp hw he.1 aE aN;have aP:=dC (br "ticks") (br "line");have a9:=dC (br "ticks") (br "code");simp! [P7,bU,aP,a9,i',cS,dc,x]
 unfold ng runM;show Option.bind (CN [some (.obj .cy 1 (b2 p es pre c)),some (.ag (bU e))]) _=_;rw[fin];simp[j6,lV]
def Ov(wp:Wp p)(hw:a3 p c){e:c6}(he:amI p e)(aE:es.length<10000)(aN:pre.length<10000){ε:Ev}{i:Nat}{md:gr}(hm:md≠.c1)(h:ε[i]?=some (some (.obj md 1 (b2 p es pre c)))){f:bH}(hf:f ε=some (bU e)):
  oz 1 ng [] i [f] ε=some (.tuple ((ec p c e).told.map jl),ε.set i (some (.obj md 1 (b2 p (es++[e]) (pre++[c]) (ec p c e))))):=by
 have ai:dq 1 i ε=some (md,b2 p es pre c):=by simp[dq,h]
 simp only[oz,ai,c5,if_neg hm,args,hf,gd,dr,gc,ob,alz wp hw he aE aN];rfl
def S8(e:c6)(bW:aQ):lI [.obj .cy 1 (b2 p (es++[e]) (pre++[c]) bW)]=some (.none,b2 p es pre c):=by
 have av:CO [some (.obj .cy 1 (b2 p (es++[e]) (pre++[c]) bW))]=some (.bO [some (.obj .cy 1 (b2 p es pre c))]):=by
  have dK:b2 p (es++[e]) (pre++[c]) bW=[.ag (b7 p),.own (es.map bU++[bU e]),.own ((pre++[c]).map eb++[eb bW])]:=by simp[b2]
  rw[dK];unfold CO;refine De ?_ ?_
  ·have t:iy (fld 1 0 1) [some (.obj .cy 1 [.ag (b7 p),.own (es.map bU++[bU e]),.own ((pre++[c]).map eb++[eb bW])])]=some true:=by
    simp[iy,fld,dq]
   unfold i7;rw[t];rfl
  refine kX (ε':=[some (.obj .cy 1 [.ag (b7 p),.own (es.map bU),.own ((pre++[c]).map eb++[eb bW])])]) ?_ ?_
  ·simp only[vb,k',gF,dq,ks,jE,c5,if_true,List.getLast?_concat,List.dropLast_concat];rfl
  ·simp only[vb,k',gF,dq,ks,jE,c5,if_true,List.getLast?_concat,List.dropLast_concat];rfl
 unfold lI runM;show Option.bind (CO [some (.obj .cy 1 (b2 p (es++[e]) (pre++[c]) bW))]) _=_;rw[av];simp[j6]
def akK(e:c6)(bW:aQ){ε:Ev}{i:Nat}{md:gr}(hm:md≠.c1)(h:ε[i]?=some (some (.obj md 1 (b2 p (es++[e]) (pre++[c]) bW)))):
  dj (cS 1 lI i []) ε=some (.bO (ε.set i (some (.obj md 1 (b2 p es pre c))))):=by
 have ai:dq 1 i ε=some (md,b2 p (es++[e]) (pre++[c]) bW):=by simp[dq,h]
 simp only[dj,cS,ai,c5,if_neg hm,args,gd,gc,S8]
noncomputable def oX(pre:List aQ)(c:aQ):aQ:=(pre++[c]).headD c
def aiH(hw:a3 p c):tY [.obj .c1 1 (b2 p es pre c)]=some (.tuple [.str c.mode,.bool (decide (c.fY > 0)),.tuple ((r2 p c).map .str)]):=by
 have xs:=aiV p c hw;have av:CD [some (.obj .c1 1 (b2 p es pre c))]=some (.er (.tuple [.str c.mode,.bool (decide (c.fY > 0)),.tuple ((r2 p c).map .str)])):=by
  unfold CD;simp only[cP,b9,args,yS (i:=0) (ε:=[some (.obj .c1 1 (b2 p es pre c))]) rfl,L' (i:=0) (ε:=[some (.obj .c1 1 (b2 p es pre c))]) rfl,c5,gd,xs]
 unfold tY gE;show Option.bind (CD [some (.obj .c1 1 (b2 p es pre c))]) _=_;rw[av];rfl
def Mj(aE:es.length<10000):mA [.obj .c1 1 (b2 p es pre c)]=some (.tuple (es.map bU)):=by
 have bM:es.length<=big:=by unfold big;omega
 have av:C7 [some (.obj .c1 1 (b2 p es pre c))]=some (.er (.tuple (es.map bU))):=by
  unfold C7;simp[cP,b9,args,fld,dq,b2,g6,bM]
 unfold mA gE;show Option.bind (C7 [some (.obj .c1 1 (b2 p es pre c))]) _=_;rw[av];rfl
def Tu(x:T)(xs:List T):bg (.list (x::xs)) (.int 0)=some x:=by
 have h:(0:Int)<(((x::xs).length:Nat):Int):=by simp only[e_];omega
 simp only[bg,gL,hY,Int.le_refl,if_true,if_pos h];rfl
def akF(wp:Wp p)(cD:a3 p (oX pre c))(he:∀e∈es,hC p e)(aE:es.length<=1000):t5 [.obj .c1 1 (b2 p es pre c)]=some (.tuple ((run p (fresh (oX pre c)) es).told.map mM)):=by
 have xs:=aiQ p (oX pre c) es cD wp he aE;have BK:=Mj (p:=p) (pre:=pre) (c:=c) (es:=es) (by omega);have dK:ar bg (fld 1 0 2) (ak (.int 0)) [some (.obj .c1 1 (b2 p es pre c))]=some (eb (oX pre c)):=by
  have eW:fld 1 0 2 [some (.obj .c1 1 (b2 p es pre c))]=some (.list ((pre++[c]).map eb)):=by
   simp[fld,dq,b2]
  unfold ar;rw[eW];have f7:ak (.int 0) [some (.obj .c1 1 (b2 p es pre c))]=some (.int 0):=rfl;rw[f7];simp only[c5];cases pre with
  |nil=>exact Tu _ _
  |cons x pre=>exact Tu _ _
 have av:C8 [some (.obj .c1 1 (b2 p es pre c))]=some (.er (.tuple ((run p (fresh (oX pre c)) es).told.map mM))):=by
  have dc:dq 1 0 [some (.obj .c1 1 (b2 p es pre c))]=some (.c1,b2 p es pre c):=rfl;unfold C8;simp only[cP,b9,args,yS (i:=0) (ε:=[some (.obj .c1 1 (b2 p es pre c))]) rfl,dK,ef,dc,c5,gd,gc,BK,xs]
 unfold t5 gE;show Option.bind (C8 [some (.obj .c1 1 (b2 p es pre c))]) _=_;rw[av];rfl
end
end fP
end
section
namespace fP
open D cb
open PySem hiding run fresh code
local instance:cI:=⟨[],λ_=>[],λ_=>none⟩
noncomputable def chain(p:a0):aQ->List c6->List aQ
|_,[]=>[]
|c,e::es=>c::chain p (ec p c e) es
noncomputable def d1(p:a0)(c:aQ)(es:List c6):aQ:=es.foldl (ec p) c
def Ug{p:a0}{c:aQ}(hw:a3 p c){e:c6}(he:hC p e):a3 p (ec p c e):=hw.fresh.iv he
theorem yT{p:a0}:∀{es:List c6} {c:aQ},a3 p c->(∀e∈es,hC p e)->a3 p (d1 p c es)
| [],_,h,_=>h
|e::es,c,h,he=>yT (es:=es) (Ug h (he e (by simp))) λy a_=>he y (dR _ a_)
theorem Oh(p:a0):∀(xs ys:List c6) (c:aQ),chain p c (xs++ys)=chain p c xs++chain p (d1 p c xs) ys
| [],ys,c=>rfl
|x::xs,ys,c=>by
  show c::chain p (ec p c x) (xs++ys)=c::(chain p (ec p c x) xs++chain p (d1 p (ec p c x) xs) ys)
  rw[Oh p xs ys]
def OA(p:a0)(xs ys:List c6)(c:aQ):d1 p c (xs++ys)=d1 p (d1 p c xs) ys:=by simp[d1]
theorem FZ(p:a0):∀(xs:List c6) (c:aQ),(chain p c xs).length=xs.length
| [],c=>rfl
|x::xs,c=>by simp[chain,FZ p xs]
def ajw(p:a0):∀(xs:List c6) (c:aQ),oX (chain p c xs) (d1 p c xs)=c
| [],c=>rfl
|x::xs,c=>rfl
end fP
end
section
namespace fP
open D cb ux
open PySem hiding run fresh code
local instance:cI:=⟨[],λ_=>[],λ_=>none⟩
def als{p:a0}{e:c6}(h:uz p e):amI p e:=by
 refine⟨h.ok,?_⟩
 cases e with
|line _ _=>trivial
|e8 _=>trivial
|code f d z=>
  intro x hx;rcases h.2 with ⟨_,q⟩|⟨_,y,q,a_⟩
  ·rw[q] at hx;cases hx
  ·rw[q] at hx;cases hx;exact a_
def aie{ws:List (Int×Str×Option Str)}(h:∀w∈ws,cE w.2.1/\∀n,w.2.2=some n->cE n):okN 2 (.tuple (ws.map jl)):=ji λx hx=>by
 obtain⟨w,hw,rfl⟩:=en.mp hx;exact ajc 0 (h w hw).1 (h w hw).2
def S9{p:a0}(wp:Wp p)(fk:p.cL.length<=40):og [.obj .cy 1 [],.ag (b7 p)]=some (.none,b2 p [] [] (b' p)):=by
 have dV:=S_ p fk wp;have tB:(1:Nat)<=big:=by unfold big;omega
 have av:Cf [some (.obj .cy 1 []),some (.ag (b7 p))]=some (.bO [some (.obj .cy 1 (b2 p [] [] (b' p))),some (.ag (b7 p))]):=by
  unfold Cf;refine kX (ε':=[some (.obj .cy 1 [.ag (b7 p)]),some (.ag (b7 p))]) rfl ?_;refine kX (ε':=[some (.obj .cy 1 [.ag (b7 p),.own []]),some (.ag (b7 p))]) ?_ ?_
  ·simp[j9,g7,args,gF,dq]
  ·simp[j9,g7,args,gF,dq,b9,aZ,dV,tB,b2]
 unfold og runM;show Option.bind (Cf [some (.obj .cy 1 []),some (.ag (b7 p))]) _=_;rw[av];simp[j6]
def aiT{j:Int}(h0:0<=j)(ai:j<=1000):rY j=true:=by
 unfold rY;simp;omega
def Pg{f:bH}{ε:Ev}{j:Int}(h:f ε=some (.int j))(h0:0<=j)(ai:j<=1000):j7 f ε=some (i_ 0 j):=by
 unfold j7;rw[h];simp only[c5];rw[if_pos (aiT h0 ai)]
def yI{a:bH}{ε:Ev}{v:Bool}(h:a ε=some (.bool v)):bS a ε=some v:=by
 unfold bS;rw[h];rfl
def ox{o:T->T->Option T}{a b:bH}{ε:Ev}{x y z:T}(aB:a ε=some x)(aa:b ε=some y)(h:o x y=some z):ar o a b ε=some z:=by
 unfold ar;rw[aB,aa];exact h
section
variable {p:a0}{es:List c6}{pre:List aQ}{c:aQ}{ε:Ev}{i:Nat}{md:gr}
def aex(d:List aJ->Option T)(h:ε[i]?=some (some (.obj md 1 (b2 p es pre c)))):ef 1 d i [] ε=d [.obj .c1 1 (b2 p es pre c)]:=by
 have ai:dq 1 i ε=some (md,b2 p es pre c):=by simp[dq,h]
 simp only[ef,ai,c5,args,gc]
end
def Uc{p:a0}{e:c6}(aq:∀z∈p.cL,cE z.1/\cE z.2)(h:amI p e):okN 1 (bU e):=by
 have Dq:∀z,z∈p.cL.map (·.1)->cE z:=λz hm=>by
  obtain⟨x,hx,rfl⟩:=en.mp hm;exact (aq x hx).1
 cases e with
|line z w=>
  have fX:cE w:=by rcases h.1.2 with q|q|q <;> (rw[q];exact br _)
  exact ji λx hx=>by
   simp only[cM,gS,or_false] at hx;rcases hx with rfl|rfl|rfl
   ·exact jH 0 (br "line")
   ·exact jH 0 (Dq z h.1.1)
   ·exact jH 0 fX
|code f d z=>
  have eI:cE d:=by rcases h.1.2.1 with q|q|q|q <;> (rw[q];exact br _)
  exact ji λx hx=>by
   simp only[cM,gS,or_false] at hx;rcases hx with rfl|rfl|rfl|rfl
   ·exact jH 0 (br "code")
   ·exact jH 0 h.1.1
   ·exact jH 0 eI
   ·exact Dz 0 λy a_=>Dq y (h.2 y a_)
|e8 n=>
  exact ji λx hx=>by
   simp only[cM,gS,or_false] at hx;rcases hx with rfl|rfl
   ·exact jH 0 (br "ticks")
   ·exact r1 0 n
section
variable {p:a0}{es:List c6}{pre:List aQ}{c:aQ}{md:gr}
def T5:oi [.obj .c1 1 (b2 p es pre c)]=es.isEmpty:=by
 show K4 [some (.obj .c1 1 (b2 p es pre c))]=es.isEmpty
 unfold K4 Aq;have t:i7 (iy (fld 1 0 1)) [some (.obj .c1 1 (b2 p es pre c))]=some es.isEmpty:=by
  cases es with
  |nil=>rfl
  |cons e es=>rfl
 rw[t];cases es with
|nil=>rfl
|cons e es=>rfl
def ajL{ε:Ev}{i:Nat}(aM:ε[i]?=some (some (.obj md 1 (b2 p [] pre c))))(F:g8)(j:Nat):pK F (nu 1 oi i []) j ε=some (.tuple [.str "refused",.int j],ε):=by
 have ai:dq 1 i ε=some (md,b2 p [] pre c):=by simp[dq,aM]
 have m:nu 1 oi i [] ε=true:=by
  simp only[nu,ai,args,gc,T5];rfl
 unfold pK;rw[if_pos m]
def akJ(e:c6)(bW:aQ){ε:Ev}{i:Nat}(hm:md≠.c1)(h:ε[i]?=some (some (.obj md 1 (b2 p (es++[e]) (pre++[c]) bW))))(j:Nat):
  pK (cS 1 lI i []) (nu 1 oi i []) j ε=some (.tuple [.str "told",.none],ε.set i (some (.obj md 1 (b2 p es pre c)))):=by
 have ai:dq 1 i ε=some (md,b2 p (es++[e]) (pre++[c]) bW):=by simp[dq,h]
 have m:nu 1 oi i [] ε=false:=by
  simp only[nu,ai,args,gc,T5];cases es <;> rfl
 unfold pK;rw[if_neg (by rw[m];decide)];simp only[DG,cS,ai,c5,if_neg hm,args,gd,gc,S8]
end
end fP
end
section
namespace pT
open D cb fP ux
open PySem hiding run fresh code
local instance:cI:=⟨[],λ_=>[],λ_=>none⟩
noncomputable def jR(p:a0)(es:List c6)(pre:List aQ)(c:aQ):T:=.tuple [eb c,.tuple [.str c.mode,.bool (decide (c.fY > 0)),.tuple ((r2 p c).map .str)],.tuple ((run p (fresh (oX pre c)) es).told.map mM),.tuple (es.map bU)]
section
variable {p:a0}
def UO(wp:Wp p){es:List c6}{pre:List aQ}{c:aQ}(hw:a3 p c)(cD:a3 p (oX pre c))(he:∀e∈es,hC p e)(aE:es.length<=1000):kW [.obj .c1 1 (b2 p es pre c)]=some (jR p es pre c):=by
 have ai:dq 1 0 [some (.obj .c1 1 (b2 p es pre c))]=some (.c1,b2 p es pre c):=by simp[dq]
 have eX:∀d:List aJ->Option T,ef 1 d 0 [] [some (.obj .c1 1 (b2 p es pre c))]=d [.obj .c1 1 (b2 p es pre c)]:=λd=>by
  simp only[ef,ai,c5,args,gc]
 have tB:(4:Nat)<=big:=by unfold big;omega
 have m:bV [(ef 1 my 0 []),(ef 1 tY 0 []),(ef 1 t5 0 []),(ef 1 mA 0 [])] [some (.obj .c1 1 (b2 p es pre c))]=some (jR p es pre c):=by
  simp only[bV,args,eX,Sn,aiH hw,akF wp cD he aE,Mj (show es.length<10000 by omega),c5,gd,e_,jh];rw[if_pos tB];rfl
 show Option.bind (cP (bV [(ef 1 my 0 []),(ef 1 tY 0 []),(ef 1 t5 0 []),(ef 1 mA 0 [])]) [some (.obj .c1 1 (b2 p es pre c))]) _=_
 unfold cP;rw[m];rfl
def Tr{es:List c6}{pre:List aQ}{c:aQ}(hw:a3 p c)(cD:a3 p (oX pre c))(he:∀e∈es,amI p e):okN 3 (jR p es pre c):=ji λx hx=>by
 simp only[cM,gS,or_false] at hx;rcases hx with rfl|rfl|rfl|rfl
 ·exact SR hw
 ·exact aif 0 hw _
 ·exact ajd (cW.run (cW.fresh _) cD.fresh λe h=>(he e h).1)
 ·exact ji λx hx=>by
   obtain⟨e,h,rfl⟩:=en.mp hx;exact Uc hw.zn (he e h)
noncomputable def dw(p:a0):aQ->List c6->List T
|_,[]=>[]
|c,e::es=>.tuple ((ec p c e).told.map jl)::dw p (ec p c e) es
theorem QR:∀(xs ys:List c6) (c:aQ),dw p c (xs++ys)=dw p c xs++dw p (d1 p c xs) ys
| [],ys,c=>rfl
|x::xs,ys,c=>by
  show _::dw p (ec p c x) (xs++ys)=_::(dw p (ec p c x) xs++_)
  rw[QR xs ys (ec p c x)];rfl
theorem Ll:∀(xs:List c6) (c:aQ),(dw p c xs).length=xs.length
| [],c=>rfl
|x::xs,c=>by
  show (dw p (ec p c x) xs).length+1=_
  rw[Ll xs];rfl
theorem R2:∀(es:List c6) (c:aQ),a3 p c->(∀e∈es,hC p e)->∀t∈dw p c es,okN 2 t
| [],c,_,_,t,bh=>by cases bh
|e::es,c,hw,he,t,bh=>by
  rcases cM.mp (show t∈PyData.tuple ((ec p c e).told.map jl)::dw p (ec p c e) es from bh) with rfl|h
  ·have tw:cW (run p (fresh c) [e]):=cW.run (cW.fresh c) hw.fresh λy a_=>by
    have:y=e:=by simpa using a_
    rw[this];exact he e (by simp)
   exact aie λw hw=>tw w hw
  ·exact R2 es (ec p c e) (Ug hw (he e (by simp))) (λy a_=>he y (dR _ a_)) t h
abbrev dg(p:a0)(xs:List c6):List aJ:=b2 p xs (fP.chain p (b' p) xs) (d1 p (b' p) xs)
def Mi(xs:List c6)(e:c6):b2 p (xs++[e]) (fP.chain p (b' p) xs++[d1 p (b' p) xs]) (ec p (d1 p (b' p) xs) e)=dg p (xs++[e]):=by
 unfold dg;rw[fP.Oh,fP.OA];rfl
theorem Me(wp:Wp p)(iT:a3 p (b' p))(dx a1 a2 d0 dX dB dm dO c9 d8 d9 d_:Option aJ):∀(f_ xs:List c6) (acc:List T) (s0:Option aJ),(∀e∈xs,amI p e)->(∀e∈f_,amI p e)->xs.length+f_.length<=100->acc.length+f_.length<=100 ->
  ∃JZ,v3 (oz 1 ng [] 6 [(aZ 0)]) (f_.map bU) (s0::some (.own acc)::[dx,a1,a2,d0,some (.obj .own 1 (dg p xs)),dX,dB,dm,dO,c9,d8,d9,d_]) =
   some (JZ::some (.own (acc++dw p (d1 p (b' p) xs) f_))::[dx,a1,a2,d0,some (.obj .own 1 (dg p (xs++f_))),dX,dB,dm,dO,c9,d8,d9,d_])
| [],xs,acc,s0,_,_,_,_=>⟨s0,by
  rw[amE];show some _=some (_::some (aJ.own (acc++[]))::_);rw[amE]⟩
|e::f_,xs,acc,s0,hx,he,ai,ao=>by
  simp only[e_] at ai ao;have hw:a3 p (d1 p (b' p) xs):=yT iT λy a_=>(hx y a_).1;have st:=Ov wp hw (he e (by simp)) (es:=xs) (pre:=fP.chain p (b' p) xs) (by omega) (by rw[fP.FZ];omega) (md:=.own) (by decide) (i:=6) (ε:=[some (.ag (bU e)),some (.own acc),dx,a1,a2,d0,some (.obj .own 1 (dg p xs)),dX,dB,dm,dO,c9,d8,d9,d_]) rfl (f:=aZ 0) rfl;rw[Mi] at st;obtain⟨JZ,b1⟩:=Me wp iT dx a1 a2 d0 dX dB dm dO c9 d8 d9 d_ f_ (xs++[e]) (acc++[.tuple ((ec p (d1 p (b' p) xs) e).told.map jl)]) (some (.ag (bU e))) (λy a_=>by
   rcases j2.mp a_ with q|q
   ·exact hx y q
   ·have:y=e:=by simpa using q
    rw[this];exact he e (by simp)) (λy a_=>he y (dR _ a_)) (by simp only[kr,e_,jh];omega) (by simp only[kr,e_,jh];omega)
  refine⟨JZ,?_⟩
  have Xt:acc.length<big:=by unfold big;omega
  rw[dr];show Option.bind (oz 1 ng [] 6 [(aZ 0)] [some (.ag (bU e)),some (.own acc),dx,a1,a2,d0,some (.obj .own 1 (dg p xs)),dX,dB,dm,dO,c9,d8,d9,d_]) _=_;rw[st];simp only[c5,jD,jg,ks,jE,if_pos Xt];rw[fP.OA] at b1;rw[vq,vq] at b1;exact b1
noncomputable def E4:bF:=(ro (rD (qg fW (pK (cS 1 lI 4 []) (nu 1 oi 4 []) 2) (sd (bV [(ak (.str "told")),(ak .none)])))) (cP (ak (.bool false))) skip)
def TJ(xs:List c6)(e:c6):dg p (xs++[e])=b2 p (xs++[e]) (fP.chain p (b' p) xs++[d1 p (b' p) xs]) (ec p (d1 p (b' p) xs) e):=(Mi xs e).symm
def ale:okN 1 (.tuple [.str "told",.none]):=ji λx hx=>by
 simp only[cM,gS,or_false] at hx;rcases hx with rfl|rfl
 ·exact jH 0 (br "told")
 ·exact SQ 0
def alf:okN 1 (.tuple [.str "refused",.int 2]):=ji λx hx=>by
 simp only[cM,gS,or_false] at hx;rcases hx with rfl|rfl
 ·exact jH 0 (br "refused")
 ·exact r1 0 2
theorem TY(dx a1 a2 d0 dX dB dO c9 d8 d9 d_:Option aJ):∀(l:List T) (xs f_:List c6) (dm:Option aJ),l.length=f_.length->∃kd,forL (cw 7) E4 l [dx,a1,a2,d0,some (.obj .own 1 (dg p (xs++f_))),dX,dB,dm,dO,c9,d8,d9,d_]=some (.bO [dx,a1,a2,d0,some (.obj .own 1 (dg p xs)),dX,dB,kd,dO,c9,d8,d9,d_])
| [],xs,f_,dm,h=>by
  have:f_=[]:=List.eq_nil_of_length_eq_zero h.symm;subst this;exact⟨dm,by rw[amE];rfl⟩
|t::l,xs,f_,dm,h=>by
  rcases List.eq_nil_or_concat f_ with rfl|⟨i1,e,rfl⟩
  ·cases h
  simp only[List.concat_eq_append,kr,e_,jh] at h;obtain⟨kd,b1⟩:=TY dx a1 a2 d0 dX dB dO c9 d8 d9 d_ l xs i1 (some (.ag t)) (by omega);refine⟨kd,?_⟩;have xR:=akJ (p:=p) (es:=xs++i1) (pre:=fP.chain p (b' p) (xs++i1)) (c:=d1 p (b' p) (xs++i1)) e (ec p (d1 p (b' p) (xs++i1)) e) (md:=.own) (i:=4) (ε:=[dx,a1,a2,d0,some (.obj .own 1 (dg p (xs++i1++[e]))),dX,dB,some (.ag t),dO,c9,d8,d9,d_]) (by decide) (by rw[TJ];rfl) 2;have st:E4 [dx,a1,a2,d0,some (.obj .own 1 (dg p (xs++i1++[e]))),dX,dB,some (.ag t),dO,c9,d8,d9,d_]=some (.bO [dx,a1,a2,d0,some (.obj .own 1 (dg p (xs++i1))),dX,dB,some (.ag t),dO,c9,d8,d9,d_]):=by
   unfold E4 ro rD qg;rw[xR];simp only[c5];have jY:∀ε:Ev,sd (bV [(ak (.str "told")),(ak .none)]) ε=some (.tuple [.str "told",.none],ε):=λε=>rfl;rw[jY];simp only[c5,t_ ale];rfl
  rw[List.concat_eq_append,<- vq,forL];have hy:cw 7 t [dx,a1,a2,d0,some (.obj .own 1 (dg p (xs++i1++[e]))),dX,dB,dm,dO,c9,d8,d9,d_]=some [dx,a1,a2,d0,some (.obj .own 1 (dg p (xs++i1++[e]))),dX,dB,some (.ag t),dO,c9,d8,d9,d_]:=rfl;simp only[hy,c5,st];exact b1
theorem TU(dx a1 a2 d0 dX dB dO c9 d8 d9 d_:Option aJ):∀(l:List T) (f_:List c6) (dm:Option aJ),l.length=f_.length->∃kd,forL (cw 7) (dj (cS 1 lI 4 [])) l [dx,a1,a2,d0,some (.obj .own 1 (dg p f_)),dX,dB,dm,dO,c9,d8,d9,d_]=some (.bO [dx,a1,a2,d0,some (.obj .own 1 (dg p [])),dX,dB,kd,dO,c9,d8,d9,d_])
| [],f_,dm,h=>by
  have:f_=[]:=List.eq_nil_of_length_eq_zero h.symm;subst this;exact⟨dm,rfl⟩
|t::l,f_,dm,h=>by
  rcases List.eq_nil_or_concat f_ with rfl|⟨i1,e,rfl⟩
  ·cases h
  simp only[List.concat_eq_append,kr,e_,jh] at h;obtain⟨kd,b1⟩:=TU dx a1 a2 d0 dX dB dO c9 d8 d9 d_ l i1 (some (.ag t)) (by omega);refine⟨kd,?_⟩;have xR:=akK (p:=p) (es:=i1) (pre:=fP.chain p (b' p) i1) (c:=d1 p (b' p) i1) e (ec p (d1 p (b' p) i1) e) (md:=.own) (i:=4) (ε:=[dx,a1,a2,d0,some (.obj .own 1 (dg p (i1++[e]))),dX,dB,some (.ag t),dO,c9,d8,d9,d_]) (by decide) (by rw[TJ];rfl);rw[List.concat_eq_append,forL];have hy:cw 7 t [dx,a1,a2,d0,some (.obj .own 1 (dg p (i1++[e]))),dX,dB,dm,dO,c9,d8,d9,d_]=some [dx,a1,a2,d0,some (.obj .own 1 (dg p (i1++[e]))),dX,dB,some (.ag t),dO,c9,d8,d9,d_]:=rfl;simp only[hy,c5,xR];exact b1
theorem Ue(wp:Wp p)(iT:a3 p (b' p))(dx a1 a2 d0 hq dX dB dm d8 d9 d_:Option aJ):∀(f_ xs:List c6) (c9:Option aJ),(∀e∈xs,amI p e)->(∀e∈f_,amI p e)->xs.length+f_.length<=100 ->
  ∃E0,forL (cw 9) (dj (oz 1 ng [] 8 [(aZ 9)])) (f_.map bU) [dx,a1,a2,d0,hq,dX,dB,dm,some (.obj .own 1 (dg p xs)),c9,d8,d9,d_]=some (.bO [dx,a1,a2,d0,hq,dX,dB,dm,some (.obj .own 1 (dg p (xs++f_))),E0,d8,d9,d_])
| [],xs,c9,_,_,_=>⟨c9,by rw[amE];rfl⟩
|e::f_,xs,c9,hx,he,ai=>by
  simp only[e_] at ai;have hw:a3 p (d1 p (b' p) xs):=yT iT λy a_=>(hx y a_).1;have st:=Ov wp hw (he e (by simp)) (es:=xs) (pre:=fP.chain p (b' p) xs) (by omega) (by rw[fP.FZ];omega) (md:=.own) (by decide) (i:=8) (ε:=[dx,a1,a2,d0,hq,dX,dB,dm,some (.obj .own 1 (dg p xs)),some (.ag (bU e)),d8,d9,d_]) rfl (f:=aZ 9) rfl;rw[Mi] at st;obtain⟨E0,b1⟩:=Ue wp iT dx a1 a2 d0 hq dX dB dm d8 d9 d_ f_ (xs++[e]) (some (.ag (bU e))) (λy a_=>by
   rcases j2.mp a_ with q|q
   ·exact hx y q
   ·have:y=e:=by simpa using q
    rw[this];exact he e (by simp)) (λy a_=>he y (dR _ a_)) (by simp only[kr,e_,jh];omega)
  refine⟨E0,?_⟩
  have sx:dj (oz 1 ng [] 8 [(aZ 9)]) [dx,a1,a2,d0,hq,dX,dB,dm,some (.obj .own 1 (dg p xs)),some (.ag (bU e)),d8,d9,d_]=some (.bO [dx,a1,a2,d0,hq,dX,dB,dm,some (.obj .own 1 (dg p (xs++[e]))),some (.ag (bU e)),d8,d9,d_]):=by
   unfold dj;rw[st];rfl
  rw[dr,forL];have hy:cw 9 (bU e) [dx,a1,a2,d0,hq,dX,dB,dm,some (.obj .own 1 (dg p xs)),c9,d8,d9,d_]=some [dx,a1,a2,d0,hq,dX,dB,dm,some (.obj .own 1 (dg p xs)),some (.ag (bU e)),d8,d9,d_]:=rfl;simp only[hy,c5,sx];rw[vq] at b1;exact b1
end
def ajD{α:Type}(xs:List α){k:Nat}(ai:k<=xs.length):mI xs none (some (k:Int))=xs.take k:=by
 have:(min (k:Int) (xs.length:Int)).toNat=k:=by omega
 simp only[mI,cX,if_neg (show ¬(k:Int)<0 by omega),this,List.drop_zero,Nat.sub_zero]
def S4{α:Type}(xs:List α){k:Nat}(ai:k<=xs.length):mI xs (some (k:Int)) none=xs.drop k:=by
 have:(min (k:Int) (xs.length:Int)).toNat=k:=by omega
 simp only[mI,cX,if_neg (show ¬(k:Int)<0 by omega),this];rw[List.take_of_length_le (by simp)]
def LZ{f:bH}{ε:Ev}{i:Int}(h:f ε=some (.int i)):opt f ε=some (some i):=by
 unfold opt;rw[h];rfl
def MH{f:bH}{lo aM:Ev->Option (Option Int)}{ε:Ev}{t u:T}{l h:Option Int}(hf:f ε=some t)(aE:lo ε=some l)(cD:aM ε=some h)(e:Bc t l h=some u):slice f lo aM ε=some u:=by
 unfold slice;rw[hf,aE,cD];exact e
noncomputable def Nl:bF:=(seq (iff (bS (ar fW (nm 11) (slice (nm 5) (opt (nm 10)) optN))) (cP (ak (.bool false))) skip) (seq (gU (j7 (b9 gC [(nm 3)])) (cw 7) (dj (cS 1 lI 4 []))) (seq (asg 12 (oy kW [.o 4])) (seq (iff (fA (bS (ar fW (ar bg (nm 12) (ak (.int 0))) (b9 qD [(aZ 1)]))) (bS (ar fW (slice (nm 12) (opt (ak (.int 2))) optN) (bV [(bV []),(bV [])])))) (cP (ak (.bool false))) skip) (seq (ro (rD (qg fW (pK (cS 1 lI 4 []) (nu 1 oi 4 []) 2) (sd (bV [(ak (.str "refused")),(ak (.int 2))])))) (cP (ak (.bool false))) skip) (cP (nE (ar oEq (oy kW [.o 4]) (nm 12)) (ar oEq (pd 1 kW (lq 1 og [(aZ 1)]) []) (nm 12)))))))))
section
variable {p:a0}
def ajB(wp:Wp p)(iT:a3 p (b' p))(fk:p.cL.length<=40){es:List c6}{n:Nat}(a5:n<=es.length)(aE:es.length<=100)(he:∀e∈es,amI p e)(dx a2 dB dm dO c9:Option aJ):
  Nl [dx,some (.ag (b7 p)),a2,some (.ag (.tuple (es.map bU))),some (.obj .own 1 (dg p es)),some (.own (dw p (b' p) es)),dB,dm,dO,c9,some (.ag (.int (n:Int))),some (.own (dw p (d1 p (b' p) (es.take n)) (es.drop n))),none]=some (.er (.bool true)):=by
 have dV:=S_ p fk wp;have qZ:(dw p (b' p) es).drop n=dw p (d1 p (b' p) (es.take n)) (es.drop n):=by
  have h:=QR (p:=p) (es.take n) (es.drop n) (b' p);rw[List.take_append_drop] at h;rw[h];exact List.drop_left' (by rw[Ll,List.length_take];omega)
 have adq:okN 3 (.list (dw p (d1 p (b' p) (es.take n)) (es.drop n))):=aje (R2 _ _ (yT iT λy a_=>(he y (List.mem_of_mem_take a_)).1) λy a_=>(he y (List.mem_of_mem_drop a_)).1);have Ni:=UO wp (es:=[]) (pre:=[]) (c:=b' p) iT iT (λe h=>by cases h) (by simp);have PJ:okN 3 (jR p [] [] (b' p)):=Tr iT iT λe h=>by cases h
 unfold Nl;refine De ?_ ?_
 ·have cB:slice (nm 5) (opt (nm 10)) optN [dx,some (.ag (b7 p)),a2,some (.ag (.tuple (es.map bU))),some (.obj .own 1 (dg p es)),some (.own (dw p (b' p) es)),dB,dm,dO,c9,some (.ag (.int (n:Int))),some (.own (dw p (d1 p (b' p) (es.take n)) (es.drop n))),none]=some (.list (dw p (d1 p (b' p) (es.take n)) (es.drop n))):=by
   refine MH (t:=.list (dw p (b' p) es)) rfl (LZ (i:=(n:Int)) rfl) rfl ?_
   show some (PyData.list (mI _ _ _))=_
   rw[S4 _ (by rw[Ll];exact a5),qZ]
  refine yI (ox (x:=.list (dw p (d1 p (b' p) (es.take n)) (es.drop n))) rfl cB (t_ adq))
 have len:b9 gC [(nm 3)] [dx,some (.ag (b7 p)),a2,some (.ag (.tuple (es.map bU))),some (.obj .own 1 (dg p es)),some (.own (dw p (b' p) es)),dB,dm,dO,c9,some (.ag (.int (n:Int))),some (.own (dw p (d1 p (b' p) (es.take n)) (es.drop n))),none]=some (.int (es.length:Int)):=by
  show some (PyData.int ((es.map bU).length:Int))=_
  rw[hi]
 obtain⟨kd,g4⟩:=TU (p:=p) dx (some (.ag (b7 p))) a2 (some (.ag (.tuple (es.map bU)))) (some (.own (dw p (b' p) es))) dB dO c9 (some (.ag (.int (n:Int)))) (some (.own (dw p (d1 p (b' p) (es.take n)) (es.drop n)))) none (i_ 0 (es.length:Int)) es dm (by simp[i_]);refine kX (ε':=[dx,some (.ag (b7 p)),a2,some (.ag (.tuple (es.map bU))),some (.obj .own 1 (dg p [])),some (.own (dw p (b' p) es)),dB,kd,dO,c9,some (.ag (.int (n:Int))),some (.own (dw p (d1 p (b' p) (es.take n)) (es.drop n))),none]) ?_ ?_
 ·unfold gU;rw[fP.Pg len (by omega) (by omega)];exact g4
 have ca:∀PY:Option aJ,oy kW [.o 4] [dx,some (.ag (b7 p)),a2,some (.ag (.tuple (es.map bU))),some (.obj .own 1 (dg p [])),some (.own (dw p (b' p) es)),dB,kd,dO,c9,some (.ag (.int (n:Int))),some (.own (dw p (d1 p (b' p) (es.take n)) (es.drop n))),PY]=some (jR p [] [] (b' p)):=λPY=>Ni;refine qA (ca none) ?_;simp only[jD,jg];refine De ?_ ?_
 ·have bM:b9 qD [(aZ 1)] [dx,some (.ag (b7 p)),a2,some (.ag (.tuple (es.map bU))),some (.obj .own 1 (dg p [])),some (.own (dw p (b' p) es)),dB,kd,dO,c9,some (.ag (.int (n:Int))),some (.own (dw p (d1 p (b' p) (es.take n)) (es.drop n))),some (.ag (jR p [] [] (b' p)))]=some (eb (b' p)):=by
   simp only[b9,args,aZ,ks,jE,c5,gd,dV]
  have t1:=yI (ox (a:=ar bg (nm 12) (ak (.int 0))) (x:=eb (b' p)) rfl bM (t_ (SR iT)));have adp:okN 2 (.tuple [.tuple [],.tuple []]):=by
   refine⟨by decide,?_⟩
   decide
  have mh:bS (ar fW (slice (nm 12) (opt (ak (.int 2))) optN) (bV [(bV []),(bV [])])) [dx,some (.ag (b7 p)),a2,some (.ag (.tuple (es.map bU))),some (.obj .own 1 (dg p [])),some (.own (dw p (b' p) es)),dB,kd,dO,c9,some (.ag (.int (n:Int))),some (.own (dw p (d1 p (b' p) (es.take n)) (es.drop n))),some (.ag (jR p [] [] (b' p)))]=some false:=
   yI (ox (x:=.tuple [.tuple [],.tuple []]) (y:=.tuple [.tuple [],.tuple []]) rfl rfl (t_ adp))
  unfold fA;rw[t1];exact mh
 have xR:=ajL (p:=p) (pre:=[]) (c:=b' p) (md:=.own) (i:=4) (ε:=[dx,some (.ag (b7 p)),a2,some (.ag (.tuple (es.map bU))),some (.obj .own 1 (dg p [])),some (.own (dw p (b' p) es)),dB,kd,dO,c9,some (.ag (.int (n:Int))),some (.own (dw p (d1 p (b' p) (es.take n)) (es.drop n))),some (.ag (jR p [] [] (b' p)))]) rfl (cS 1 lI 4 []) 2;refine kX (ε':=[dx,some (.ag (b7 p)),a2,some (.ag (.tuple (es.map bU))),some (.obj .own 1 (dg p [])),some (.own (dw p (b' p) es)),dB,kd,dO,c9,some (.ag (.int (n:Int))),some (.own (dw p (d1 p (b' p) (es.take n)) (es.drop n))),some (.ag (jR p [] [] (b' p)))]) ?_ ?_
 ·unfold ro rD qg;rw[xR];simp only[c5];have jY:∀ε:Ev,sd (bV [(ak (.str "refused")),(ak (.int 2))]) ε=some (.tuple [.str "refused",.int 2],ε):=λε=>rfl;rw[jY];simp only[c5];have:=t_ alf;have aL:((2:Nat):Int)=2:=rfl;rw[aL,this];rfl
 have BJ:=S9 wp fk;have no:lq 1 og [(aZ 1)] [dx,some (.ag (b7 p)),a2,some (.ag (.tuple (es.map bU))),some (.obj .own 1 (dg p [])),some (.own (dw p (b' p) es)),dB,kd,dO,c9,some (.ag (.int (n:Int))),some (.own (dw p (d1 p (b' p) (es.take n)) (es.drop n))),some (.ag (jR p [] [] (b' p)))]=some (.obj .own 1 (dg p [])):=by
  simp only[lq,args,aZ,ks,jE,c5,gd,dr,gc,BJ];rfl
 have oo:pd 1 kW (lq 1 og [(aZ 1)]) [] [dx,some (.ag (b7 p)),a2,some (.ag (.tuple (es.map bU))),some (.obj .own 1 (dg p [])),some (.own (dw p (b' p) es)),dB,kd,dO,c9,some (.ag (.int (n:Int))),some (.own (dw p (d1 p (b' p) (es.take n)) (es.drop n))),some (.ag (jR p [] [] (b' p)))]=some (jR p [] [] (b' p)):=by
  unfold pd;rw[no];exact Ni
 have aP:=ox (b:=nm 12) (ca (some (.ag (jR p [] [] (b' p))))) (y:=jR p [] [] (b' p)) rfl (SS PJ);have a9:=ox (b:=nm 12) oo (y:=jR p [] [] (b' p)) rfl (SS PJ);unfold cP nE;rw[aP];simp only[c5];rw[a9];rfl
end
def ajo(ns:List Int)(h:ns.length<=63):wb [eP ns]=some (.bool true):=by
 obtain⟨m0,ams,x0⟩:=SW ns 0;obtain⟨eX,_w,aO⟩:=SW ns 1;obtain⟨p,aN,xp⟩:=aj2 m0;obtain⟨es,_b,amk,BK⟩:=akU aN eX 14 _w (by decide);have he:∀e∈es,amI p e:=λe h=>als (_b e h);have wp:=aN.wp;have iT:=aN.begun;have fk:=aN.fk;have BJ:=S9 wp (show p.cL.length<=40 by omega);obtain⟨aP,_,mm⟩:=divQ eX 64;obtain⟨r,_,lx,bj,mq⟩:=modQ aP ((es.length:Int)+1) (by omega);obtain⟨b,rfl⟩:∃b:Nat,r=(b:Int):=⟨r.toNat,by omega⟩;have aa:b<=es.length:=by omega
 have a5:es.length - b<=es.length:=by omega
 have af':rV [eP ns,.int 0]=some (.int m0):=x0;have aga:rV [eP ns,.int 1]=some (.int eX):=aO;have abz:lq 1 og [(aZ 1)] [some (.ag (eP ns)),some (.ag (b7 p)),some (.ag (.int eX)),some (.ag (.tuple (es.map bU))),none,none,none,none,none,none,none,none,none]=some (.obj .own 1 (dg p [])):=by
  simp only[lq,args,aZ,ks,jE,c5,gd,dr,gc,BJ];rfl
 suffices av:MR [some (.ag (eP ns)),none,none,none,none,none,none,none,none,none,none,none,none]=some (.er (.bool true)) by
  unfold wb eJ;simp only[dr,gc,e_,jh,vr,ob];exact congrArg (λo=>Option.bind o _) av
 unfold MR;refine qA (t:=b7 p) (by simp only[b9,args,aZ,ak,jE,c5,gd,af',xp]) ?_;simp only[jD,jg];refine qA (t:=.int eX) (by simp only[b9,args,aZ,ak,jE,c5,gd,aga]) ?_;simp only[jD,jg];refine qA (t:=.tuple (es.map bU)) (by simp only[b9,args,aZ,ak,ks,jE,c5,gd,BK]) ?_;simp only[jD,jg];refine kX (ε':=[some (.ag (eP ns)),some (.ag (b7 p)),some (.ag (.int eX)),some (.ag (.tuple (es.map bU))),some (.obj .own 1 (dg p [])),none,none,none,none,none,none,none,none]) (by
  unfold qV;rw[abz];rfl) ?_
 obtain⟨am2,Oq⟩:=Me wp iT (some (.ag (eP ns))) (some (.ag (b7 p))) (some (.ag (.int eX))) (some (.ag (.tuple (es.map bU)))) none none none none none none none none es [] [] none (λe h=>by cases h) he (by simp;omega) (by simp;omega);rw[ob,ob] at Oq;refine kX (ε':=[some (.ag (eP ns)),some (.ag (b7 p)),some (.ag (.int eX)),some (.ag (.tuple (es.map bU))),some (.obj .own 1 (dg p es)),some (.own (dw p (b' p) es)),none,none,none,none,none,none,none]) (by
  show Option.bind (some (es.map bU)) _=_
  simp only[c5];rw[Oq];rfl) ?_
 have len:∀hq dX dB dm dO c9 d8 d9 d_:Option aJ,b9 gC [(nm 3)] [some (.ag (eP ns)),some (.ag (b7 p)),some (.ag (.int eX)),some (.ag (.tuple (es.map bU))),hq,dX,dB,dm,dO,c9,d8,d9,d_]=some (.int (es.length:Int)):=λhq dX dB dm dO c9 d8 d9 d_=>by
  show some (PyData.int ((es.map bU).length:Int))=_
  rw[hi]
 refine qA (t:=.int (b:Int)) (ox (ox (x:=.int eX) (y:=.int 64) rfl rfl mm) (ox (len _ _ _ _ _ _ _ _ _) (y:=.int 1) rfl mC) mq) ?_
 simp only[jD,jg];obtain⟨dm,ul⟩:=TY (p:=p) (some (.ag (eP ns))) (some (.ag (b7 p))) (some (.ag (.int eX))) (some (.ag (.tuple (es.map bU)))) (some (.own (dw p (b' p) es))) (some (.ag (.int (b:Int)))) none none none none none (i_ 0 (b:Int)) (es.take (es.length - b)) (es.drop (es.length - b)) none (by simp[i_];omega);rw[List.take_append_drop] at ul;refine kX (ε':=[some (.ag (eP ns)),some (.ag (b7 p)),some (.ag (.int eX)),some (.ag (.tuple (es.map bU))),some (.obj .own 1 (dg p (es.take (es.length - b)))),some (.own (dw p (b' p) es)),some (.ag (.int (b:Int))),dm,none,none,none,none,none]) (by
  unfold gU;rw[fP.Pg (j:=(b:Int)) rfl (by omega) (by omega)];exact ul) ?_
 refine kX (ε':=[some (.ag (eP ns)),some (.ag (b7 p)),some (.ag (.int eX)),some (.ag (.tuple (es.map bU))),some (.obj .own 1 (dg p (es.take (es.length - b)))),some (.own (dw p (b' p) es)),some (.ag (.int (b:Int))),dm,some (.obj .own 1 (dg p [])),none,none,none,none]) (by
  simp only[qV,lq,args,aZ,ks,jE,c5,gd,dr,gc,BJ];rfl) ?_
 have iM:∀hq dX dm dO c9 d8 d9 d_:Option aJ,ar nZ (b9 gC [(nm 3)]) (nm 6) [some (.ag (eP ns)),some (.ag (b7 p)),some (.ag (.int eX)),some (.ag (.tuple (es.map bU))),hq,dX,some (.ag (.int (b:Int))),dm,dO,c9,d8,d9,d_]=some (.int ((es.length - b:Nat):Int)):=λhq dX dm dO c9 d8 d9 d_=>by
  refine ox (len _ _ _ _ _ _ _ _ _) (y:=.int (b:Int)) rfl ?_
  show some (PyData.int ((es.length:Int) - (b:Int)))=_
  congr 2;omega
 have slt:∀hq dX dm dO c9 d8 d9 d_:Option aJ,slice (nm 3) optN (opt (ar nZ (b9 gC [(nm 3)]) (nm 6))) [some (.ag (eP ns)),some (.ag (b7 p)),some (.ag (.int eX)),some (.ag (.tuple (es.map bU))),hq,dX,some (.ag (.int (b:Int))),dm,dO,c9,d8,d9,d_]=some (.tuple ((es.take (es.length - b)).map bU)):=λhq dX dm dO c9 d8 d9 d_=>by
  refine MH (t:=.tuple (es.map bU)) rfl rfl (LZ (iM _ _ _ _ _ _ _ _)) ?_
  show some (PyData.tuple (mI _ _ _))=_
  rw[ajD _ (by rw[hi];omega),List.map_take]
 obtain⟨c9,ol⟩:=Ue wp iT (some (.ag (eP ns))) (some (.ag (b7 p))) (some (.ag (.int eX))) (some (.ag (.tuple (es.map bU)))) (some (.obj .own 1 (dg p (es.take (es.length - b))))) (some (.own (dw p (b' p) es))) (some (.ag (.int (b:Int)))) dm none none none (es.take (es.length - b)) [] none (λe h=>by cases h) (λe h=>he e (List.mem_of_mem_take h)) (by simp only[jh,List.length_take];omega);rw[ob] at ol;refine kX (ε':=[some (.ag (eP ns)),some (.ag (b7 p)),some (.ag (.int eX)),some (.ag (.tuple (es.map bU))),some (.obj .own 1 (dg p (es.take (es.length - b)))),some (.own (dw p (b' p) es)),some (.ag (.int (b:Int))),dm,some (.obj .own 1 (dg p (es.take (es.length - b)))),c9,none,none,none]) (by
  unfold gU fO;rw[slt];exact ol) ?_
 have wY:∀e∈es.take (es.length - b),amI p e:=λe h=>he e (List.mem_of_mem_take h);have O_:a3 p (d1 p (b' p) (es.take (es.length - b))):=yT iT λy a_=>(wY y a_).1;have OY:a3 p (oX (fP.chain p (b' p) (es.take (es.length - b))) (d1 p (b' p) (es.take (es.length - b)))):=by rw[ajw];exact iT
 have Nj:=UO wp O_ OY (λe h=>(wY e h).1) (by simp only[List.length_take];omega);have ads:=Tr O_ OY wY;refine De ?_ ?_
 ·have t1:bS (ar fW (oy kW [.o 4]) (oy kW [.o 8])) [some (.ag (eP ns)),some (.ag (b7 p)),some (.ag (.int eX)),some (.ag (.tuple (es.map bU))),some (.obj .own 1 (dg p (es.take (es.length - b)))),some (.own (dw p (b' p) es)),some (.ag (.int (b:Int))),dm,some (.obj .own 1 (dg p (es.take (es.length - b)))),c9,none,none,none]=some false:=yI (ox (x:=jR p (es.take (es.length - b)) (fP.chain p (b' p) (es.take (es.length - b))) (d1 p (b' p) (es.take (es.length - b)))) (y:=jR p (es.take (es.length - b)) (fP.chain p (b' p) (es.take (es.length - b))) (d1 p (b' p) (es.take (es.length - b)))) Nj Nj (t_ ads));have Xu:=Mj (p:=p) (es:=es.take (es.length - b)) (pre:=fP.chain p (b' p) (es.take (es.length - b))) (c:=d1 p (b' p) (es.take (es.length - b))) (by simp only[List.length_take];omega);have mr:ef 1 mA 4 [] [some (.ag (eP ns)),some (.ag (b7 p)),some (.ag (.int eX)),some (.ag (.tuple (es.map bU))),some (.obj .own 1 (dg p (es.take (es.length - b)))),some (.own (dw p (b' p) es)),some (.ag (.int (b:Int))),dm,some (.obj .own 1 (dg p (es.take (es.length - b)))),c9,none,none,none]=some (.tuple ((es.take (es.length - b)).map bU)):=(aex (md:=.own) mA rfl).trans Xu;have adt:okN 2 (.tuple ((es.take (es.length - b)).map bU)):=ji λx hx=>by
   obtain⟨e,h,rfl⟩:=en.mp hx;exact Uc iT.zn (wY e h)
  have mh:=yI (ox mr (slt (some (.obj .own 1 (dg p (es.take (es.length - b))))) (some (.own (dw p (b' p) es))) dm (some (.obj .own 1 (dg p (es.take (es.length - b))))) c9 none none none) (t_ adt));unfold fA;rw[t1];exact mh
 refine qA (iM _ _ _ _ _ _ _ _) ?_
 simp only[jD,jg];obtain⟨jG,Ot⟩:=Me wp iT (some (.ag (eP ns))) (some (.ag (b7 p))) (some (.ag (.int eX))) (some (.ag (.tuple (es.map bU)))) (some (.own (dw p (b' p) es))) (some (.ag (.int (b:Int)))) dm (some (.obj .own 1 (dg p (es.take (es.length - b))))) c9 (some (.ag (.int ((es.length - b:Nat):Int)))) none none (es.drop (es.length - b)) (es.take (es.length - b)) [] none wY (λe h=>he e (List.mem_of_mem_drop h)) (by simp only[List.length_take,List.length_drop];omega) (by simp only[jh,List.length_drop];omega);rw[ob,List.take_append_drop] at Ot;refine kX (ε':=[some (.ag (eP ns)),some (.ag (b7 p)),some (.ag (.int eX)),some (.ag (.tuple (es.map bU))),some (.obj .own 1 (dg p es)),some (.own (dw p (b' p) es)),some (.ag (.int (b:Int))),dm,some (.obj .own 1 (dg p (es.take (es.length - b)))),c9,some (.ag (.int ((es.length - b:Nat):Int))),some (.own (dw p (d1 p (b' p) (es.take (es.length - b))) (es.drop (es.length - b)))),none]) (by
  have cB:slice (nm 3) (opt (nm 10)) optN [some (.ag (eP ns)),some (.ag (b7 p)),some (.ag (.int eX)),some (.ag (.tuple (es.map bU))),some (.obj .own 1 (dg p (es.take (es.length - b)))),some (.own (dw p (b' p) es)),some (.ag (.int (b:Int))),dm,some (.obj .own 1 (dg p (es.take (es.length - b)))),c9,some (.ag (.int ((es.length - b:Nat):Int))),none,none]=some (.tuple ((es.drop (es.length - b)).map bU)):=by
   refine MH (t:=.tuple (es.map bU)) rfl (LZ (i:=((es.length - b:Nat):Int)) rfl) rfl ?_
   show some (PyData.tuple (mI _ _ _))=_
   rw[S4 _ (by rw[hi];omega),List.map_drop]
  unfold y5 fO;rw[cB];simp only[c5];rw[Ot];rfl) ?_
 exact ajB wp iT (by omega) a5 (by omega) he _ _ _ _ _ _
end pT
end
end
section
namespace pT
open PySem PySem.Spec PyProof.Rows a7 D cb fP ux
set_option hygiene false in
local macro_rules | `(unop% lk ($f, $gD, $eI, $n, $q, $s, $a, $b, $c, $d, $e, $g, $h)) => `(K.lookup $f = some ⟨$gD, $eI, .func (ml $n $q (ot $s) (fv $s) (bx $s) .none $a $b $c $d $e $g), $h⟩)
set_option hygiene false in
local macro_rules | `(binop% cd $c $q) => `(amZ K $c $q = true)
set_option hygiene false in
local macro_rules | `(unop% az $c) => `(m9 K (.ref $c) = true)
set_option hygiene false in
local macro_rules | `(unop% e5 $c) => `(PySem.W.isFn K (.ref $c) = true)
set_option hygiene false in
local macro_rules | `(binop% ns $q $c) => `(PySem.W.nsIn K jf $q = some (some (.ref $c)))
set_option hygiene false in
local macro_rules | `(unop% zn $q) => `(PySem.W.nsIn K jf $q = some none)
set_option hygiene false in
local macro_rules | `(unop% fn ($C, $q, $c)) => `(ko K (.ref $C) $q = some (some (.ref $c)))
set_option hygiene false in
local macro_rules | `(binop% kh $C $q) => `(ko K (.ref $C) $q = some none)
local macro_rules | `(unop% mo $x) => `(($x).mono (by decide))
set_option hygiene false in
local macro_rules | `(unop% bQ ($f $n $as*)) => `($f (P := l.prog) (w := w) (mg := mg) (base := base) (k := $n) $as*)
def all_mk{l:PySem.W.OpenLaw}{w:b6}{K:a6}{h:bz}{mg:Str->Option aj}{bT bw cU f1 f2 hU f4 hV Gn Gp f8 z7 zz zA zB zC Gb zD zE zF zG zH Gd zI zJ zK zL zM zN zO zP zQ zR zS Ge zT zU zV zW zX Gf Gg zY zZ Gh Gi z0 Gj z1 z2 z3 z4 z5 Gk z6 Gl Gm uN uM uL pX l1 xz lC h5 m8:af}{acs Wx acD WI acO WU acZ W6 ac_ Xf adh Xl adi Xm adj Xn adk Xo acu Wy acv Wz acw WA acx WB acy WC acz WD acA WE acB WG acC WH acE WJ acF WK acG WL acH WM acI WN acJ WO acK WQ acL WR acM WS acN WT acP WV acQ WW acR WX acS WY acT WZ acU W0 acV W2 acW W3 acX W4 acY W5 ac0 W7 ac1 W8 ac2 W9 ac3 W_ ac4 W' ac5 Xa ac6 Xb ac7 Xc ac8 Xd ac9 Xe ac' Xg ada Xh adb Xi ade Xj adf Xk adg Ng adn adm adl:Option af}{Bv h2 ae1 afa afl afs aft afu afv aeI aeJ aeK aeL aeM aeN aeO aeP aeQ aeR aeS aeT aeU aeV aeW aeX aeY aeZ ae0 ae2 ae3 ae4 ae5 ae6 ae7 ae8 ae9 ae_ ae' afb afc afd afe aff afg afh afi afj afk afm afn afo afp afq afr afy afx afw:Array (Option aj)}{abA aao Ys ady Nq Xz abK aay YC adI NB XJ abV aaJ YN adT NN XW ab6 aaU YY ad4 NY X7 acg aa5 Y9 aed N9 Yh aco aa' Zd aej Od Yn acp aba Ze aek Oe Yo acq abb Zf ael Of Yp acr abc Zg aem Og Yq abB aap Yt adz Nr XA abC aaq Yu adA Nt XB abD aar Yv adB Nu XC abE aas Yw adC Nv XD abF aat Yx adD Nw XE abG aau Yy adE Nx XF abH aav Yz adF Ny XG abI aaw YA adG Nz XH abJ aax YB adH NA XI abL aaz YD adJ NC XK abM aaA YE adK ND XM abN aaB YF adL NF XN abO aaC YG adM NG XO abP aaD YH adN NH XP abQ aaE YI adO NI XQ abR aaF YJ adP NJ XR abS aaG YK adQ NK XS abT aaH YL adR NL XT abU aaI YM adS NM XU abW aaK YO adU NO XX abX aaL YP adV NP XY abY aaM YQ adW NQ XZ abZ aaN YR adX NR X0 ab0 aaO YS adY NS X1 ab1 aaP YT adZ NT X2 ab2 aaQ YU ad0 NU X3 ab3 aaR YV ad1 NV X4 ab4 aaS YW ad2 NW X5 ab5 aaT YX ad3 NX X6 ab7 aaV YZ ad5 NZ X8 ab8 aaW Y0 ad6 N0 X9 ab9 aaX Y1 ad7 N1 X_ ab_ aaY Y2 ad8 N2 Ya ab' aaZ Y3 ad9 N3 Yb aca aa0 Y4 ad_ N4 Yc acb aa1 Y5 ad' N5 Yd acd aa2 Y6 aea N6 Ye ace aa3 Y7 aeb N7 Yf acf aa4 Y8 aec N8 Yg ach aa6 Y_ aee N_ Yi aci aa7 Y' aef N' Yj acj aa8 Za aeg Oa Yk ack aa9 Zb aeh Ob Yl acm aa_ Zc aei Oc Ym acn Pk Ou PQ Oo:aj}{Kb Ka af0 af1 afX afY afU afV:Tok}{abr abq abp:Nat}(X:K.In h)(G:h.Ns jf mg)(_c:mg "law"=some (.ref bT))(E2:binop%ns "Course" bw)(JE:PySem.W.plainGet K bw Str.empty=true)(GJ:PySem.W.hasDictIn K bw=true)(JI:PySem.W.plainOver K bw=true)(J1:ko K (.ref bw) "__setattr__"=some (some (.builtin "object.__setattr__")))(I6:PySem.W.makesIn K bw=true)(H5:unop%az bw)(Jf:binop%kh bw "plan")(Jg:binop%kh bw "mode")(Jk:binop%kh bw "left")(Jl:binop%kh bw "came")(Jm:binop%kh bw "lines")(Jn:binop%kh bw "shunts")(Jo:binop%kh bw "siren")(Jp:binop%kh bw "alarms")(Jq:binop%kh bw "tries")(Jr:binop%kh bw "locked")(Jh:binop%kh bw "used")(Ji:binop%kh bw "past")(Jj:binop%kh bw "told")(E1:binop%ns "Box" cU)(JD:PySem.W.plainGet K cU Str.empty=true)(GI:PySem.W.hasDictIn K cU=true)(JH:PySem.W.plainOver K cU=true)(J0:ko K (.ref cU) "__setattr__"=some (some (.builtin "object.__setattr__")))(I5:PySem.W.makesIn K cU=true)(H4:unop%az cU)(Jc:binop%kh cU "plan")(Jd:binop%kh cU "events")(Je:binop%kh cU "states")(a1:binop%ns "_law_drawn" f1)(cg:unop%lk (f1,abA,acs,"_law_drawn","_law_drawn",CV,aao,Ys,ady,Wx,Nq,Xz,Bv))(cY:binop%cd Nq "_law_drawn")(k1:unop%az f1)(a2:binop%ns "_law_plan" f2)(ck:unop%lk (f2,abK,acD,"_law_plan","_law_plan",yt,aay,YC,adI,WI,NB,XJ,h2))(dn:binop%cd NB "_law_plan")(k2:unop%az f2)(d0:binop%ns "_law_cell_at" hU)(xi:unop%lk (hU,abV,acO,"_law_cell_at","_law_cell_at",Cs,aaJ,YN,adT,WU,NN,XW,ae1))(fy:binop%cd NN "_law_cell_at")(k3:unop%az hU)(hq:binop%ns "_law_mixed" f4)(IC:unop%lk (f4,ab6,acZ,"_law_mixed","_law_mixed",CT,aaU,YY,ad4,W6,NY,X7,afa))(gk:binop%cd NY "_law_mixed")(mb:unop%az f4)(dX:binop%ns "_law_event" hV)(IP:unop%lk (hV,acg,ac_,"_law_event","_law_event",CU,aa5,Y9,aed,Xf,N9,Yh,afl))(js:binop%cd N9 "_law_event")(k5:unop%az hV)(dB:binop%ns "_law_row" Gn)(IW:unop%lk (Gn,aco,adh,"_law_row","_law_row",yz,aa',Zd,aej,Xl,Od,Yn,afs))(FU:binop%cd Od "_law_row")(HY:unop%az Gn)(dm:binop%ns "begun" Gp)(IX:unop%lk (Gp,acp,adi,"begun","begun",vK,aba,Ze,aek,Xm,Oe,Yo,aft))(FV:binop%cd Oe "begun")(HZ:unop%az Gp)(dO:unop%fn (cU,"__init__",f8))(HJ:unop%e5 f8)(IY:unop%lk (f8,acq,adj,"__init__","Box.__init__",Ce,abb,Zf,ael,Xn,Of,Yp,afu))(FW:binop%cd Of "Box.__init__")(H0:unop%az f8)(c9:unop%fn (cU,"state",z7))(HK:unop%e5 z7)(IZ:unop%lk (z7,acr,adk,"state","Box.state",Cv,abc,Zg,aem,Xo,Og,Yq,afv))(FX:binop%cd Og "Box.state")(A3:unop%az z7)(d8:binop%ns "shown" zz)(H6:unop%lk (zz,abB,acu,"shown","shown",ub,aap,Yt,adz,Wy,Nr,XA,aeI))(E8:binop%cd Nr "shown")(HL:unop%az zz)(d9:binop%ns "shown_rows" zz)(d_:unop%fn (cU,"shown",zA))(i12:unop%e5 zA)(H7:unop%lk (zA,abC,acv,"shown","Box.shown",Cw,aaq,Yu,adA,Wz,Nt,XB,aeJ))(E9:binop%cd Nt "Box.shown")(Aw:unop%az zA)(Eh:unop%fn (bw,"__init__",zB))(He:unop%e5 zB)(H8:unop%lk (zB,abD,acw,"__init__","Course.__init__",vz,aar,Yv,adB,WA,Nu,XC,aeK))(E_:binop%cd Nu "Course.__init__")(HM:unop%az zB)(Ei:unop%fn (bw,"tell",zC))(Hf:unop%e5 zC)(H9:unop%lk (zC,abE,acx,"tell","Course.tell",Cg,aas,Yw,adC,WB,Nv,XD,aeL))(E':binop%cd Nv "Course.tell")(Ax:unop%az zC)(Ej:binop%ns "kind_of" Gb)(H_:unop%lk (Gb,abF,acy,"kind_of","kind_of",CX,aat,Yx,adD,WC,Nw,XE,aeM))(Fb:binop%cd Nw "kind_of")(HN:unop%az Gb)(Ek:unop%fn (bw,"be_loud",zD))(Hg:unop%e5 zD)(H':unop%lk (zD,abG,acz,"be_loud","Course.be_loud",B6,aau,Yy,adE,WD,Nx,XF,aeN))(Fc:binop%cd Nx "Course.be_loud")(Ay:unop%az zD)(El:unop%fn (bw,"alarm",zE))(Hh:unop%e5 zE)(Ia:unop%lk (zE,abH,acA,"alarm","Course.alarm",Cd,aav,Yz,adF,WE,Ny,XG,aeO))(Fd:binop%cd Ny "Course.alarm")(Az:unop%az zE)(Em:unop%fn (bw,"come_in",zF))(Hi:unop%e5 zF)(Ib:unop%lk (zF,abI,acB,"come_in","Course.come_in",B5,aaw,YA,adG,WG,Nz,XH,aeP))(Fe:binop%cd Nz "Course.come_in")(AA:unop%az zF)(En:unop%fn (bw,"disturb",zG))(Hj:unop%e5 zG)(Ic:unop%lk (zG,abJ,acC,"disturb","Course.disturb",B4,aax,YB,adH,WH,NA,XI,aeQ))(Ff:binop%cd NA "Course.disturb")(AB:unop%az zG)(Eo:unop%fn (bw,"line",zH))(Hk:unop%e5 zH)(Ie:unop%lk (zH,abL,acE,"line","Course.line",Ci,aaz,YD,adJ,WJ,NC,XK,aeR))(Fg:binop%cd NC "Course.line")(AD:unop%az zH)(Ep:binop%ns "code_of" Gd)(Ig:unop%lk (Gd,abM,acF,"code_of","code_of",CY,aaA,YE,adK,WK,ND,XM,aeS))(Fh:binop%cd ND "code_of")(HO:unop%az Gd)(Er:unop%fn (bw,"is_used_up",zI))(Hl:unop%e5 zI)(Ih:unop%lk (zI,abN,acG,"is_used_up","Course.is_used_up",BY,aaB,YF,adL,WL,NF,XN,aeT))(Fi:binop%cd NF "Course.is_used_up")(AE:unop%az zI)(Es:unop%fn (bw,"take_wrong",zJ))(Hm:unop%e5 zJ)(Ii:unop%lk (zJ,abO,acH,"take_wrong","Course.take_wrong",BW,aaC,YG,adM,WM,NG,XO,aeU))(Fj:binop%cd NG "Course.take_wrong")(AF:unop%az zJ)(Et:unop%fn (bw,"is_untimely",zK))(Hn:unop%e5 zK)(Ij:unop%lk (zK,abP,acI,"is_untimely","Course.is_untimely",BU,aaD,YH,adN,WN,NH,XP,aeV))(Fl:binop%cd NH "Course.is_untimely")(AG:unop%az zK)(Eu:unop%fn (bw,"bare_zones",zL))(Ho:unop%e5 zL)(Ik:unop%lk (zL,abQ,acJ,"bare_zones","Course.bare_zones",vv,aaE,YI,adO,WO,NI,XQ,aeW))(Fm:binop%cd NI "Course.bare_zones")(AH:unop%az zL)(Ew:unop%fn (bw,"what_is_against",zM))(Hp:unop%e5 zM)(Il:unop%lk (zM,abR,acK,"what_is_against","Course.what_is_against",BS,aaF,YJ,adP,WQ,NJ,XR,aeX))(Fn:binop%cd NJ "Course.what_is_against")(AI:unop%az zM)(Ex:unop%fn (bw,"end_leaving",zN))(Hq:unop%e5 zN)(Im:unop%lk (zN,abS,acL,"end_leaving","Course.end_leaving",BV,aaG,YK,adQ,WR,NK,XS,aeY))(Fo:binop%cd NK "Course.end_leaving")(AJ:unop%az zN)(Ey:unop%fn (bw,"do_set",zO))(Hr:unop%e5 zO)(Io:unop%lk (zO,abT,acM,"do_set","Course.do_set",B9,aaH,YL,adR,WS,NL,XT,aeZ))(Fp:binop%cd NL "Course.do_set")(AK:unop%az zO)(Ez:unop%fn (bw,"do_unset",zP))(Hs:unop%e5 zP)(Ip:unop%lk (zP,abU,acN,"do_unset","Course.do_unset",B2,aaI,YM,adS,WT,NM,XU,ae0))(Fq:binop%cd NM "Course.do_unset")(AL:unop%az zP)(EA:unop%fn (bw,"do_deed",zQ))(Ht:unop%e5 zQ)(Iq:unop%lk (zQ,abW,acP,"do_deed","Course.do_deed",B3,aaK,YO,adU,WV,NO,XX,ae2))(Fs:binop%cd NO "Course.do_deed")(AM:unop%az zQ)(EB:unop%fn (bw,"take_right",zR))(Hu:unop%e5 zR)(Ir:unop%lk (zR,abX,acQ,"take_right","Course.take_right",BX,aaL,YP,adV,WW,NP,XY,ae3))(Ft:binop%cd NP "Course.take_right")(AN:unop%az zR)(EC:unop%fn (bw,"code",zS))(Hv:unop%e5 zS)(It:unop%lk (zS,abY,acR,"code","Course.code",Cj,aaM,YQ,adW,WX,NQ,XZ,ae4))(Fu:binop%cd NQ "Course.code")(AO:unop%az zS)(ED:binop%ns "lessened" Ge)(Iu:unop%lk (Ge,abZ,acS,"lessened","lessened",CG,aaN,YR,adX,WY,NR,X0,ae5))(Fv:binop%cd NR "lessened")(HP:unop%az Ge)(EE:unop%fn (bw,"count_down",zT))(Hw:unop%e5 zT)(Iv:unop%lk (zT,ab0,acT,"count_down","Course.count_down",B0,aaO,YS,adY,WZ,NS,X1,ae6))(Fw:binop%cd NS "Course.count_down")(AP:unop%az zT)(EF:unop%fn (bw,"end_coming",zU))(Hx:unop%e5 zU)(Iw:unop%lk (zU,ab1,acU,"end_coming","Course.end_coming",BZ,aaP,YT,adZ,W0,NT,X2,ae7))(Fx:binop%cd NT "Course.end_coming")(AQ:unop%az zU)(EG:unop%fn (bw,"end_time",zV))(Hy:unop%e5 zV)(Iy:unop%lk (zV,ab2,acV,"end_time","Course.end_time",B1,aaQ,YU,ad0,W2,NU,X3,ae8))(Fy:binop%cd NU "Course.end_time")(AR:unop%az zV)(EH:unop%fn (bw,"ticks",zW))(Hz:unop%e5 zW)(Iz:unop%lk (zW,ab3,acW,"ticks","Course.ticks",Cb,aaR,YV,ad1,W3,NV,X4,ae9))(Fz:binop%cd NV "Course.ticks")(AS:unop%az zW)(EI:unop%fn (bw,"happen",zX))(HA:unop%e5 zX)(IA:unop%lk (zX,ab4,acX,"happen","Course.happen",B8,aaS,YW,ad2,W4,NW,X5,ae_))(FA:binop%cd NW "Course.happen")(AU:unop%az zX)(EJ:binop%ns "course_of" Gf)(IB:unop%lk (Gf,ab5,acY,"course_of","course_of",Ct,aaT,YX,ad3,W5,NX,X6,ae'))(FC:binop%cd NX "course_of")(HQ:unop%az Gf)(EK:binop%ns "story" Gg)(ID:unop%lk (Gg,ab7,ac0,"story","story",Dj,aaV,YZ,ad5,W7,NZ,X8,afb))(FD:binop%cd NZ "story")(HR:unop%az Gg)(EL:unop%fn (cU,"row",zY))(HB:unop%e5 zY)(IE:unop%lk (zY,ab8,ac1,"row","Box.row",CZ,aaW,Y0,ad6,W8,N0,X9,afc))(FE:binop%cd N0 "Box.row")(AV:unop%az zY)(EM:unop%fn (cU,"log",zZ))(HC:unop%e5 zZ)(IF:unop%lk (zZ,ab9,ac2,"log","Box.log",C0,aaX,Y1,ad7,W9,N1,X_,afd))(FF:binop%cd N1 "Box.log")(AW:unop%az zZ)(EN:binop%ns "_law_asked" Gh)(IG:unop%lk (Gh,ab_,ac3,"_law_asked","_law_asked",CW,aaY,Y2,ad8,W_,N2,Ya,afe))(FG:binop%cd N2 "_law_asked")(HS:unop%az Gh)(EO:binop%ns "words" Gi)(IH:unop%lk (Gi,ab',ac4,"words","words",yy,aaZ,Y3,ad9,W',N3,Yb,aff))(FH:binop%cd N3 "words")(HT:unop%az Gi)(EP:unop%fn (bw,"state",z0))(HD:unop%e5 z0)(II:unop%lk (z0,aca,ac5,"state","Course.state",Cc,aa0,Y4,ad_,Xa,N4,Yc,afg))(FI:binop%cd N4 "Course.state")(AX:unop%az z0)(ER:binop%ns "gone" Gj)(IJ:unop%lk (Gj,acb,ac6,"gone","gone",Du,aa1,Y5,ad',Xb,N5,Yd,afh))(FJ:binop%cd N5 "gone")(HU:unop%az Gj)(ES:unop%fn (cU,"happen",z1))(HE:unop%e5 z1)(IK:unop%lk (z1,acd,ac7,"happen","Box.happen",Cm,aa2,Y6,aea,Xc,N6,Ye,afi))(FK:binop%cd N6 "Box.happen")(AY:unop%az z1)(ET:unop%fn (cU,"ticks",z2))(HF:unop%e5 z2)(IL:unop%lk (z2,ace,ac8,"ticks","Box.ticks",Cu,aa3,Y7,aeb,Xd,N7,Yf,afj))(FL:binop%cd N7 "Box.ticks")(AZ:unop%az z2)(EU:unop%fn (cU,"need_zone",z3))(HG:unop%e5 z3)(IM:unop%lk (z3,acf,ac9,"need_zone","Box.need_zone",B_,aa4,Y8,aec,Xe,N8,Yg,afk))(FN:binop%cd N8 "Box.need_zone")(A0:unop%az z3)(EV:unop%fn (cU,"line",z4))(HH:unop%e5 z4)(IQ:unop%lk (z4,ach,ac',"line","Box.line",CI,aa6,Y_,aee,Xg,N_,Yi,afm))(FO:binop%cd N_ "Box.line")(A1:unop%az z4)(EW:unop%fn (cU,"code",z5))(HI:unop%e5 z5)(IS:unop%lk (z5,aci,ada,"code","Box.code",CJ,aa7,Y',aef,Xh,N',Yj,afn))(FP:binop%cd N' "Box.code")(A2:unop%az z5)(EX:binop%ns "_law_box_do" Gk)(IT:unop%lk (Gk,acj,adb,"_law_box_do","_law_box_do",CH,aa8,Za,aeg,Xi,Oa,Yk,afo))(FQ:binop%cd Oa "_law_box_do")(HV:unop%az Gk)(zi:unop%fn (cU,"undo",z6))(Ap:unop%e5 z6)(IU:unop%lk (z6,ack,ade,"undo","Box.undo",yh,aa9,Zb,aeh,Xj,Ob,Yl,afp))(FR:binop%cd Ob "Box.undo")(xf:unop%az z6)(EY:binop%ns "_law_told" Gl)(IV:unop%lk (Gl,acm,adf,"_law_told","_law_told",om,aa_,Zc,aei,Xk,Oc,Ym,afq))(FT:binop%cd Oc "_law_told")(HW:unop%az Gl)(EZ:binop%ns "law" Gm)(A5:K.lookup Gm=some ⟨acn,adg,.func (ml "law" "law" (ot ky) (fv ky) (bx ky) .none Pk Ou PQ Ng (.ref pX) Oo),afr⟩)(zm:amZ K (.ref pX) "law"=true)(HX:unop%az Gm)(r6:unop%zn "enumerate")(fb:unop%zn "tuple")(lM:unop%zn "range")(iD:unop%zn "len")(lN:unop%zn "zip")(r5:unop%zn "dict")(r7:unop%zn "list")(uj:unop%zn "sorted")(ui:unop%zn "max")(sQ:PySem.W.nsIn K jf "WRONG_IN_A_ROW"=some (some (.int 3 Kb)))(sP:PySem.W.nsIn K jf "TICKS_LOCKED"=some (some (.int 90 Ka)))(wO:binop%ns "KINDS_SHUT_TO_SET" uN)(JL:K.lookup uN=some ⟨.type "tuple",adn,.seq #[.str "day" af0,.str "once" af1] abr,afy⟩)(wN:binop%ns "KINDS_LEFT_BY" uM)(JK:K.lookup uM=some ⟨.type "tuple",adm,.seq #[.str "inner" afX,.str "way" afY] abq,afx⟩)(wM:binop%ns "DEEDS_OF_ZONES" uL)(JJ:K.lookup uL=some ⟨.type "tuple",adl,.seq #[.str "shunt" afU,.str "free" afV] abp,afw⟩)(uZ:vu K pX 465=true)(I9:binop%ns "DoorError" l1)(Jb:binop%ns "NoZone" xz)(Ja:binop%ns "NoWay" lC)(I_:binop%ns "NoDeed" h5)(I':binop%ns "NoText" m8)(yv:unop%zn "isinstance")(yu:unop%zn "ValueError")(Gw:MD K l1=true)(GB:DL K l1 xz lC h5 m8 h5 false false true false=true):
  ∃fd:et,(∀(s:aH) (v:aj),BindsTo s fd ⟨[v],[]⟩ [("_law_script",v)])/\∀base:bz,K.In base->base.Ns jf mg->oC mg base->eR l.prog w K mg base dt 17 bT fd ["_law_script"] (@spT (n5 [(465,(("law":Str)++".<locals>.")++"<lambda>")]) K 1 wb):=by
 have e:=_c.symm.trans (fE X G EZ);cases e;refine⟨ml "law" "law" (ot ky) (fv ky) (bx ky) .none Pk Ou PQ Ng (.ref pX) Oo,λs v=>.of_eq rfl,λbase _ _ jU=>?_⟩;letI tt:cI:=⟨[(465,(("law":Str)++".<locals>.")++"<lambda>")],λc=>match c with|0=>["plan","mode","left","came","lines","shunts","siren","alarms","tries","locked","used","past","told"]|1=>["plan","events","states"]|_=>[],λc=>match c with|0=>some bw|1=>some cU|_=>none⟩;have aX:fw K 0 bw ["plan","mode","left","came","lines","shunts","siren","alarms","tries","locked","used","past","told"]:=⟨rfl,rfl,⟨JE,GJ,JI,J1⟩,by decide +kernel,λf hf=>by
  simp only[cM,gS,or_false] at hf;rcases hf with rfl|rfl|rfl|rfl|rfl|rfl|rfl|rfl|rfl|rfl|rfl|rfl|rfl
  ·exact Jf
  ·exact Jg
  ·exact Jk
  ·exact Jl
  ·exact Jm
  ·exact Jn
  ·exact Jo
  ·exact Jp
  ·exact Jq
  ·exact Jr
  ·exact Jh
  ·exact Ji
  ·exact Jj,by decide⟩
 have cN:fw K 1 cU ["plan","events","states"]:=⟨rfl,rfl,⟨JD,GI,JH,J0⟩,by decide +kernel,λf hf=>by
  simp only[cM,gS,or_false] at hf;rcases hf with rfl|rfl|rfl
  ·exact Jc
  ·exact Jd
  ·exact Je,by decide⟩
 replace r6:=n_ X G r6;replace fb:=n_ X G fb;replace lM:=n_ X G lM;replace iD:=n_ X G iD;replace lN:=n_ X G lN;replace r5:=n_ X G r5;replace r7:=n_ X G r7;replace uj:=n_ X G uj;replace ui:=n_ X G ui;replace yv:=n_ X G yv;replace yu:=n_ X G yu;have amD:wt K mg l1 xz lC h5 m8:=⟨fE X G I9,fE X G Jb,fE X G Ja,fE X G I_,fE X G I',yv,yu,Gw⟩;have eU:=alO GB;replace sQ:=fE X G sQ;replace sP:=fE X G sP;replace wO:=fE X G wO;have af6:∃(o:Obj) (its:Array aj) (n:Nat),K.lookup uN=some o/\o.cls=.type "tuple"/\o.data=.seq its n/\its.size<=cA/\Vals ((["day","once"]:List Str).map V.str) its.toList:=⟨_,_,_,JL,rfl,rfl,by show 2<=cA;decide,(.cons ⟨_,rfl⟩ (.cons ⟨_,rfl⟩ .nil))⟩;replace wN:=fE X G wN;have af5:∃(o:Obj) (its:Array aj) (n:Nat),K.lookup uM=some o/\o.cls=.type "tuple"/\o.data=.seq its n/\its.size<=cA/\Vals ((["inner","way"]:List Str).map V.str) its.toList:=⟨_,_,_,JK,rfl,rfl,by show 2<=cA;decide,(.cons ⟨_,rfl⟩ (.cons ⟨_,rfl⟩ .nil))⟩;replace wM:=fE X G wM;have af4:∃(o:Obj) (its:Array aj) (n:Nat),K.lookup uL=some o/\o.cls=.type "tuple"/\o.data=.seq its n/\its.size<=cA/\Vals ((["shunt","free"]:List Str).map V.str) its.toList:=⟨_,_,_,JJ,rfl,rfl,by show 2<=cA;decide,(.cons ⟨_,rfl⟩ (.cons ⟨_,rfl⟩ .nil))⟩;have aY:=dv (st:=CV) cg cY k1;have M3:=unop%bQ (am3 0 aY (fE X G a1));have dH:=dv (st:=yt) ck dn k2;have Vs:=unop%bQ (LX 1 dH (fE X G a2) r6 (unop%mo M3) fb lM);have k4:=dv (st:=Cs) xi fy k3;have Vp:=unop%bQ (K7 0 k4 (fE X G d0) iD);have oG:=dv (st:=CT) IC gk mb;have Vr:=unop%bQ (C6 1 oG (fE X G hq) (unop%mo Vp));have lX:=dv (st:=CU) IP js k5;have Vq:=unop%bQ (LB 0 lX (fE X G dX) iD);have We:=dv (st:=yz) IW FU HY;have Vt:=unop%bQ (Mh 1 We (fE X G dB) fb (unop%mo Vq) iD lM (unop%mo M3));have j':=dv (st:=vK) IX FV HZ;have M1:=unop%bQ (yG 0 j' (fE X G dm) fb);have jP:=dv (st:=Ce) IY FW H0;have UX:=unop%bQ (agK 1 jP ⟨I5,dO,HJ,H4⟩ (fE X G E1) cN (unop%mo M1));have Wf:=dv (st:=Cv) IZ FX A3;have DY:=unop%bQ (rS 0 Wf (⟨c9,HK,A3⟩) cN);have M5:=dv (st:=ub) H6 E8 HL;have amb:=unop%bQ (akE 0 M5 (fE X G d8) fb lN);have Vv:=unop%bQ (K3 0 M5 (fE X G d9) fb lN);have VA:=dv (st:=Cw) H7 E9 Aw;have U1:=unop%bQ (K9 1 VA (⟨d_,i12,Aw⟩) cN (unop%mo Vv) (unop%mo DY));have VB:=dv (st:=vz) H8 E_ HM;have U4:=unop%bQ (agt 0 VB ⟨I6,Eh,He,H5⟩ (fE X G E2) aX r5 r7 lN);have VC:=dv (st:=Cg) H9 E' Ax;have nv:=unop%bQ (g5 0 VC (⟨Ei,Hf,Ax⟩) aX);have VD:=dv (st:=CX) H_ Fb HN;have D0:=unop%bQ (t8 0 VD (fE X G Ej));have VE:=dv (st:=B6) H' Fc Ay;have MZ:=unop%bQ (x6 0 VE (⟨Ek,Hg,Ay⟩) aX);have VF:=dv (st:=Cd) Ia Fd Az;have y_:=unop%bQ (pB 1 VF (⟨El,Hh,Az⟩) aX (unop%mo MZ) (unop%mo nv));have VG:=dv (st:=B5) Ib Fe AA;have U6:=unop%bQ (KI 2 VG (⟨Em,Hi,AA⟩) aX (unop%mo nv) (unop%mo y_));have VH:=dv (st:=B4) Ic Ff AB;have U8:=unop%bQ (KH 3 VH (⟨En,Hj,AB⟩) aX (unop%mo D0) (unop%mo y_) (unop%mo nv) (unop%mo U6));have VI:=dv (st:=Ci) Ie Fg AD;have Vf:=unop%bQ (KY 4 VI (⟨Eo,Hk,AD⟩) aX (unop%mo nv) (unop%mo U8))
 have VJ:=dv (st:=CY) Ig Fh HO;have Vl:=unop%bQ (LC 0 VJ (fE X G Ep));have VK:=dv (st:=BY) Ih Fi AE;have Ve:=unop%bQ (Kt 0 VK (⟨Er,Hl,AE⟩) aX);have VL:=dv (st:=BW) Ii Fj AF;have Vi:=unop%bQ (Kr 1 VL (⟨Es,Hm,AF⟩) aX (unop%mo nv) (unop%mo MZ) sQ sP);have VM:=dv (st:=BU) Ij Fl AG;have Vd:=unop%bQ (Kq 1 VM (⟨Et,Hn,AG⟩) aX (unop%mo D0));have VN:=dv (st:=vv) Ik Fm AH;have MY:=unop%bQ (x2 0 VN (⟨Eu,Ho,AH⟩) aX);have VO:=dv (st:=BS) Il Fn AI;have Vk:=unop%bQ (Kp 2 VO (⟨Ew,Hp,AI⟩) aX (unop%mo Vd) (unop%mo MY) wO af6);have VP:=dv (st:=BV) Im Fo AJ;have M0:=unop%bQ (xY 2 VP (⟨Ex,Hq,AJ⟩) aX (unop%mo nv) (unop%mo MY) (unop%mo y_) wN af5);have VQ:=dv (st:=B9) Io Fp AK;have U_:=unop%bQ (KN 3 VQ (⟨Ey,Hr,AK⟩) aX (unop%mo nv) (unop%mo M0));have VR:=dv (st:=B2) Ip Fq AL;have U':=unop%bQ (KA 1 VR (⟨Ez,Hs,AL⟩) aX (unop%mo nv));have VS:=dv (st:=B3) Iq Fs AM;have U9:=unop%bQ (KG 4 VS (⟨EA,Ht,AM⟩) aX (unop%mo U_) (unop%mo U') uj (unop%mo nv));have VT:=dv (st:=BX) Ir Ft AN;have Vh:=unop%bQ (Ks 5 VT (⟨EB,Hu,AN⟩) aX (unop%mo Vk) (unop%mo U9) (unop%mo nv));have VU:=dv (st:=Cj) It Fu AO;have U5:=unop%bQ (KZ 6 VU (⟨EC,Hv,AO⟩) aX (unop%mo Vl) (unop%mo nv) (unop%mo Ve) (unop%mo Vi) (unop%mo Vh));have VV:=dv (st:=CG) Iu Fv HP;have Vu:=unop%bQ (yk 0 VV (fE X G ED) ui);have VW:=dv (st:=B0) Iv Fw AP;have U7:=unop%bQ (x1 1 VW (⟨EE,Hw,AP⟩) aX (unop%mo Vu));have VX:=dv (st:=BZ) Iw Fx AQ;have Va:=unop%bQ (Ku 2 VX (⟨EF,Hx,AQ⟩) aX (unop%mo y_));have VY:=dv (st:=B1) Iy Fy AR;have Vb:=unop%bQ (Kz 3 VY (⟨EG,Hy,AR⟩) aX (unop%mo M0) (unop%mo Va));have VZ:=dv (st:=Cb) Iz Fz AS;have Vj:=unop%bQ (KP 4 VZ (⟨EH,Hz,AS⟩) aX (unop%mo U7) (unop%mo Vb));have V0:=dv (st:=B8) IA FA AU;have Vc:=unop%bQ (KL 7 V0 (⟨EI,HA,AU⟩) aX (unop%mo Vf) (unop%mo U5) (unop%mo Vj));have V1:=dv (st:=Ct) IB FC HQ;have DZ:=unop%bQ (tZ 8 V1 (fE X G EJ) aX (unop%mo U4) (unop%mo Vc));have V2:=dv (st:=Dj) ID FD HR;have Vw:=unop%bQ (Mg 10 V2 (fE X G EK) aX fb (unop%mo DZ));have V3:=dv (st:=CZ) IE FE AV;have DX:=unop%bQ (t9 0 V3 (⟨EL,HB,AV⟩) cN fb);have V4:=dv (st:=C0) IF FF AW;have U0:=unop%bQ (LD 11 V4 (⟨EM,HC,AW⟩) cN (unop%mo Vw) (unop%mo DX));have V5:=dv (st:=CW) IG FG HS;have Vn:=unop%bQ (am4 12 V5 (fE X G EN) cN (unop%mo DY) (unop%mo U1) (unop%mo U0) (unop%mo DX));have V6:=dv (st:=yy) IH FH HT;have Vx:=unop%bQ (Mf 10 V6 (fE X G EO) aX fb (unop%mo DZ));have V7:=dv (st:=Cc) II FI AX;have Vg:=unop%bQ (KQ 0 V7 (⟨EP,HD,AX⟩) aX fb);have V8:=dv (st:=Du) IJ FJ HU;have Vm:=unop%bQ (ME 10 V8 (fE X G ER) aX (unop%mo Vg) (unop%mo DZ));have V9:=dv (st:=Cm) IK FK AY;have DW:=unop%bQ (tW 11 V9 (⟨ES,HE,AY⟩) cN (unop%mo Vx) (unop%mo Vm) (unop%mo DY))
 have V_:=dv (st:=Cu) IL FL AZ;have U2:=unop%bQ (K8 12 V_ (⟨ET,HF,AZ⟩) cN (unop%mo DW));have V':=dv (st:=B_) IM FN A0;have MX:=unop%bQ (ana 1 V' (⟨EU,HG,A0⟩) cN (unop%mo D0));have Wa:=dv (st:=CI) IQ FO A1;have UZ:=unop%bQ (Lg 12 Wa (⟨EV,HH,A1⟩) cN (unop%mo MX) (unop%mo DW));have Wb:=dv (st:=CJ) IS FP A2;have UY:=unop%bQ (Lh 12 Wb (⟨EW,HI,A2⟩) cN (unop%mo DW) (unop%mo MX) wM af4);have Wc:=dv (st:=CH) IT FQ HV;have Vo:=unop%bQ (yl 13 Wc (fE X G EX) cN (unop%mo U2) (unop%mo UZ) (unop%mo UY));have M6:=dv (st:=yh) IU FR xf;have U3:=unop%bQ (ym 0 M6 (⟨zi,Ap,xf⟩) cN);have Wv:=Cr (P:=l.prog) (w:=w) (mg:=mg) (base:=base) (k:=0) M6 (⟨zi,Ap,xf⟩) amD eU cN;have Wd:=dv (st:=om) IV FT HW;have amc:=dv (st:=ky) A5 zm HX;exact akx rfl (al6 (k:=14) A5 zm uZ jU (by show _∈[(465,(("law":Str)++".<locals>.")++"<lambda>")];simp) (λp aN=>by have aN:p∈[(465,(("law":Str)++".<locals>.")++"<lambda>")]:=aN;simp only[cM,gS,or_false] at aN;rcases aN with rfl <;> first|(intro z;exact absurd z (by decide))|(intro _;rfl)) amD eU (Wv.mono (by decide)) cN (unop%mo Vs) (unop%mo Vr) (unop%mo Vt) (unop%mo UX) lM (unop%mo Vn) (unop%mo Vo) iD (unop%mo U3) Wd (fE X G EY) (unop%mo DX) (unop%mo M1))
def walk{l:PySem.W.OpenLaw}{q:cC}{loose:List Str}{uK:(Str->Option aj)->bz->Prop}{oM:b6->bz->Prop}{d:DefRec}{K:Params->a6}(a5:l.most=some 63)(wW:d.params.defaults=[])(hb:∀w:b6,PA (K w.params)=true)(GC:∀(w:b6) (h:bz),oM w h->(K w.params).In h)(ej:∀(w:b6) (h:bz),oM w h->∀b∈[465],h.get? b=some (PySem.W.tabObj #[]))(wR:∀w:b6,(([465]:List Nat).all λb=>((K w.params).lookup b).isNone)=true)(fz:∀w:b6,(([465]:List Nat).all λb=>(K w.params).any λp=>vu (K w.params) p.1 b)=true)(F:∀(w:b6) (mg:Str->Option aj) (bT:af) (h:bz),(K w.params).In h->h.Ns jf mg->mg d.name=some (.ref bT) ->
   ∃fd:et,(∀(s:aH) (u:aj),BindsTo s fd ⟨[u],[]⟩ [("_law_script",u)])/\∀base:bz,(K w.params).In base->base.Ns jf mg->oC mg base->eR l.prog w (K w.params) mg base dt 17 bT fd ["_law_script"] (@spT (n5 [(465,(("law":Str)++".<locals>.")++"<lambda>")]) (K w.params) 1 wb)):
  PySem.W.WalkO q loose uK oM l.row.toRowW d [] (λf vs=>PySem.call f vs):=
 aiM (n:=63) (k:=17) (x:="_law_script") (ts:=[465]) (eh:=λ_=>dt) (sp:=λw=>@spT (n5 [(465,(("law":Str)++".<locals>.")++"<lambda>")]) (K w.params) 1 wb) a5 (by decide) wW ⟨rfl,by decide,by decide⟩ GC ej (λw b aa=>Option.isNone_iff_eq_none.mp (List.all_eq_true.mp (wR w) b aa)) (λw b aa=>by
  obtain⟨p,_,aN⟩:=List.any_eq_true.mp (List.all_eq_true.mp (fz w) b aa);exact⟨p.1,aN⟩) F (λw H a ns aE i2 fh=>ah5 (t:=n5 [(465,(("law":Str)++".<locals>.")++"<lambda>")]) (λp aN=>by have aN:p∈[(465,(("law":Str)++".<locals>.")++"<lambda>")]:=aN;simp only[cM,gS,or_false] at aN;rcases aN with rfl <;> simp) i2 (hb w) (ajo ns aE) fh) λ_ _ _ _ _ z=>z
end pT
open PySem PySem.W PyProof.Rows
set_option maxRecDepth 100000 in
set_option maxHeartbeats 0 in
theorem PySem.Challenge.cw_doorwatch_k44_whole_undone_as_far_holds : PySem.Challenge.rw_doorwatch_k44_whole_undone_as_far.Holds := by
 w_on;o_law;k_head;(case hw=>w_witness2)
 k_fill
 refine pT.walk (l:=PySem.Challenge.rw_doorwatch_k44_whole_undone_as_far) rfl rfl ?L (λw h Y=>PySem.W.km_in_of Y) (λw h Y=>PySem.W.km_tabs_of Y) ?Wj ?eg ?F
 case L=>
  intro w
  first|rfl|(with_unfolding_all rfl)|kernel_rfl
 case Wj=>
  intro w
  first|rfl|(with_unfolding_all rfl)|kernel_rfl
 case eg=>
  intro w
  first|rfl|(with_unfolding_all rfl)|kernel_rfl
 case F=>
  intro w mg bT h kB G w3;refine' pT.all_mk kB G w3 ?E2 ?JE ?GJ ?JI ?J1 ?I6 ?H5 ?Jf ?Jg ?Jk ?Jl ?Jm ?Jn ?Jo ?Jp ?Jq ?Jr ?Jh ?Ji ?Jj ?E1 ?JD ?GI ?JH ?J0 ?I5 ?H4 ?Jc ?Jd ?Je ?a1 ?cg ?cY ?k1 ?a2 ?ck ?dn ?k2 ?d0 ?xi ?fy ?k3 ?hq ?IC ?gk ?mb ?dX ?IP ?js ?k5 ?dB ?IW ?FU ?HY ?dm ?IX ?FV ?HZ ?dO ?HJ ?IY ?FW ?H0 ?c9 ?HK ?IZ ?FX ?A3 ?d8 ?H6 ?E8 ?HL ?d9 ?d_ ?i12 ?H7 ?E9 ?Aw ?Eh ?He ?H8 ?E_ ?HM ?Ei ?Hf ?H9 ?E' ?Ax ?Ej ?H_ ?Fb ?HN ?Ek ?Hg ?H' ?Fc ?Ay ?El ?Hh ?Ia ?Fd ?Az ?Em ?Hi ?Ib ?Fe ?AA ?En ?Hj ?Ic ?Ff ?AB ?Eo ?Hk ?Ie ?Fg ?AD ?Ep ?Ig ?Fh ?HO ?Er ?Hl ?Ih ?Fi ?AE ?Es ?Hm ?Ii ?Fj ?AF ?Et ?Hn ?Ij ?Fl ?AG ?Eu ?Ho ?Ik ?Fm ?AH ?Ew ?Hp ?Il ?Fn ?AI ?Ex ?Hq ?Im ?Fo ?AJ ?Ey ?Hr ?Io ?Fp ?AK ?Ez ?Hs ?Ip ?Fq ?AL ?EA ?Ht ?Iq ?Fs ?AM ?EB ?Hu ?Ir ?Ft ?AN ?EC ?Hv ?It ?Fu ?AO ?ED ?Iu ?Fv ?HP ?EE ?Hw ?Iv ?Fw ?AP ?EF ?Hx ?Iw ?Fx ?AQ ?EG ?Hy ?Iy ?Fy ?AR ?EH ?Hz ?Iz ?Fz ?AS ?EI ?HA ?IA ?FA ?AU ?EJ ?IB ?FC ?HQ ?EK ?ID ?FD ?HR ?EL ?HB ?IE ?FE ?AV ?EM ?HC ?IF ?FF ?AW ?EN ?IG ?FG ?HS ?EO ?IH ?FH ?HT ?EP ?HD ?II ?FI ?AX ?ER ?IJ ?FJ ?HU ?ES ?HE ?IK ?FK ?AY ?ET ?HF ?IL ?FL ?AZ ?EU ?HG ?IM ?FN ?A0 ?EV ?HH ?IQ ?FO ?A1 ?EW ?HI ?IS ?FP ?A2 ?EX ?IT ?FQ ?HV ?zi ?Ap ?IU ?FR ?xf ?EY ?IV ?FT ?HW ?EZ ?A5 ?zm ?HX ?r6 ?fb ?lM ?iD ?lN ?r5 ?r7 ?uj ?ui ?sQ ?sP ?wO ?JL ?wN ?JK ?wM ?JJ ?uZ ?I9 ?Jb ?Ja ?I_ ?I' ?yv ?yu ?Gw ?GB
  (case uZ=>first|kernel_rfl|rfl|(with_unfolding_all rfl))
  (case Gw=>first|kernel_rfl|rfl|(with_unfolding_all rfl))
  (case GB=>first|kernel_rfl|rfl|(with_unfolding_all rfl))
  (case E2|JE|GJ|JI|J1|I6|H5|Jf|Jg|Jk|Jl|Jm|Jn|Jo|Jp|Jq|Jr|Jh|Ji|Jj|E1|JD|GI|JH|J0|I5|H4|Jc|Jd=>k_is)
  (case Je|a1|cg|cY|k1|a2|ck|dn|k2|d0|xi|fy|k3|hq|IC|gk|mb|dX|IP|js|k5|dB|IW|FU|HY|dm|IX|FV|HZ|dO|HJ|IY|FW|H0|c9|HK|IZ|FX|A3|d8|H6|E8|HL|d9|d_|i12|H7|E9|Aw|Eh|He|H8|E_|HM|Ei|Hf|H9=>k_is)
  (case E'|Ax|Ej|H_|Fb|HN|Ek|Hg|H'|Fc|Ay|El|Hh|Ia|Fd|Az|Em|Hi|Ib|Fe|AA|En|Hj|Ic|Ff|AB|Eo|Hk|Ie|Fg|AD|Ep|Ig|Fh|HO|Er|Hl|Ih|Fi|AE|Es|Hm|Ii|Fj|AF|Et|Hn|Ij|Fl|AG|Eu=>k_is)
  (case Ho|Ik|Fm|AH|Ew|Hp|Il|Fn|AI|Ex|Hq|Im|Fo|AJ|Ey|Hr|Io|Fp|AK|Ez|Hs|Ip|Fq|AL|EA|Ht|Iq|Fs|AM|EB|Hu|Ir|Ft|AN|EC|Hv|It|Fu|AO|ED|Iu|Fv|HP|EE|Hw|Iv|Fw|AP|EF|Hx|Iw=>k_is)
  (case Fx|AQ|EG|Hy|Iy|Fy|AR|EH|Hz|Iz|Fz|AS|EI|HA|IA|FA|AU|EJ|IB|FC|HQ|EK|ID|FD|HR|EL|HB|IE|FE|AV|EM|HC|IF|FF|AW|EN|IG|FG|HS|EO|IH|FH|HT|EP|HD|II|FI|AX|ER|IJ|FJ=>k_is)
  (case HU|ES|HE|IK|FK|AY|ET|HF|IL|FL|AZ|EU|HG|IM|FN|A0|EV|HH|IQ|FO|A1|EW|HI|IS|FP|A2|EX|IT|FQ|HV|zi|Ap|IU|FR|xf|EY|IV|FT|HW|EZ|A5|zm|HX|r6|fb|lM|iD|lN=>k_is)
  (case r5|r7|uj|ui|sQ|sP|wO|JL|wN|JK|wM|JJ|I9|Jb|Ja|I_|I'|yv|yu=>k_is)
end
end
