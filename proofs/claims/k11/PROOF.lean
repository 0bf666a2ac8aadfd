import PyProof.Rows.All
import Wide.All
import OpenK.AllK
import Wide.FinOn
import Lean
import PyProof.EqAt
import PyProof.EqKinds
import PyProof.TupleCall
import PyProof.P3Statements
import KE.KSortTup
import PyProof.AttrMissHeap
import PyProof.ZipIter
import PyProof.Draws
import PyProof.ListMulRoad
import Wide.Seal
import KE.KLam
import KE.KNest
import KE.KNestM
import KE.KIsAll
import PyProof.ExcArgs
import PyProof.ReprStr
import PyProof.FString
import PyProof.FitsInt
import KE.KMinKey
import KE.KIntText
import KE.IntTextText
import PySem.Challenge.RW_doorwatch_k11_rows
set_option Elab.async false
set_option linter.all false
set_option compiler.extract_closed false
set_option genSizeOfSpec false
set_option maxRecDepth 100000
set_option maxHeartbeats 0
open PySem renaming Value → aq, Addr → ak, Around → di, World → cB, Heap → b5, Expr → bc
open PySem.W renaming Frag → bo, keepIn → nE, findIn → nF, fnOf → rZ, mg_of → fZ, mg_none_of → pK, emptyDict → qS, instObj → r1
open Option renaming bind_eq_some_iff → cb, map_eq_some_iff → dP, bind_some → dt, map_some → kx
open PySem renaming wpAny_bind → a6, Shared → aQ, wpAny_pure → cK, starEach → bA, FuncData → gq, sizeLine → cF, mainGlobals → lD, Program → cQ, wpAny → bK, wpAny_mono → gB, mem_of_lookup → yq, keywordEach → mb, wpAny_holding → mY, backTo → dQ, wpAny_Call_Name_kw → ak8, wpAny_field → iv, attributeBase → jf, wpAny_callSpecial?_slot → oJ, backToKw → mc, sizeLine_eq → lE, wpAny_seqItems → pP, wpAny_pyIter_tuple → yr, compareOp → jE, codeAny_builtin → vu, wpAny_newObj_type → qY, wpAny_call_entry → nK, wpAny_setField_rec → tW, swapsWith → jg, behindInMarks → qZ, wpAny_truthy_bool → ak3, assignEach → nL, call_meets → r3, binaryOp → mZ, NameKind → m1, model → bZ, foldedSetIterable → pQ
open PySem.Heap renaming get?_push_of_some → dx, lt_size → c3, get?_push_size → ia, size_push → kU, get?_update_other → yu
open List renaming mem_cons_of_mem → dT, mem_cons → cO, map_cons → dv, mem_cons_self → e9, replicate → dZ, size_toArray → eb, getElem?_eq_some_iff → fe, mem_map → dK, nodup_cons → d0, getElem?_eq_getElem → fO, length_cons → g5, mem_singleton → kS, mem_append → j2, length_map → g6, getElem?_map → hK, pairwise_cons → nG, map_nil → j3, mem_append_right → l', lookup_cons → nH, set_cons_zero → i3, lookup → i4, set_cons_succ → je, getElem?_append_right → vl, nodup_append → pL, getElem?_append_left → vm, find?_cons → j4, replicate_succ → qT, mem_of_getElem? → ky, append_nil → mW, zip_cons_cons → qU, length_append → qV, length_filter_le → oI, getElem?_set → vp, flatten_cons → tU, not_mem_nil → gQ, getElem?_cons_zero → qW, getElem?_cons_succ → pM, length_nil → qX, nil_append → tV, cons_append → vr, map_map → nJ
open Nat renaming le_refl → eh, lt_of_lt_of_le → kv, ne_of_lt → e2, ne_of_gt → hW, le_trans → ma, zero_le → j6, le_succ → pN, le_add_right → oK
open PySem.Builtin.SmallTypes renaming nextOf → l_, ownedTupleIsFree → r0
open PySem.Builtin.Tuple renaming tupleExact → tS
open Function renaming comp_def → kT
open Bool renaming and_eq_true → iu, false_eq_true → j5, false_ne_true → kX
open PySem.PyData renaming depthAll → kV, canLayAll0 → kW, str → ib, eqv → hX, depth → mX
open PyProof.Rows renaming slot_tuple_getitem → BN, callWith_type1 → tT
open PySem.Builtin.Slice renaming slicePlaces → BO
open Array renaming getElem?_eq_getElem → vn, length_toList → r2
open PySem.Around renaming under_plainId → vo
open False renaming elim → mV
open PySem.PassesOwn renaming never → nI
open PySem.F renaming slot_tuple_iterator_next → BP, plainAttrs_list → yt
open Option.some renaming inj → e3
open Int renaming emod_nonneg → pO, emod_lt_of_pos → vq
namespace PySem.W.Fast
def tw10302581523358222465:=0
def tw15600055341770515469:=0
def tw14515392306808727430:=0
def tw18293522583555485006:=0
def tw7841754183502158252:=0
def tw1698290370770287995:=0
def tw7373657442275430018:=0
def tw17985474582148270096:=0
def tw10094140180969274311:=0
def tw5684012525490712267:=0
def tw9594482272828878574:=0
def tw10955692492089205358:=0
def tw3667546785089667961:=0
def tw13125960103260549112:=0
def tw3043741235578914952:=0
def tw17659665452014951306:=0
def tw11089959349775610472:=0
def tw2516799512829711462:=0
def tw1197348799602083717:=0
def tw13242735127117931655:=0
def tw732875992578347218:=0
def tw1170510212530181906:=0
def tw5375179182785381659:=0
def tw4113928248718613776:=0
def tw11489463701877311021:=0
def tw21412716718337773:=0
def tw7514125535746929651:=0
def tw2449353883559527835:=0
def tw3489230701935737858:=0
def tw10452161050259010698:=0
def tw3450270411595888240:=0
def tw2886823738520282605:=0
def tw15698330223574666269:=0
def tw714529135034609587:=0
def tw13603689405600757620:=0
def tw16855152116337080285:=0
def tw10691684261185275933:=0
def tw17646441765003884746:=0
def tw4809502778845653354:=0
def tw15337520348377467097:=0
def tw10024221441186148815:=0
def tw10610832853716490258:=0
def tw17302886387118466731:=0
def tw6953238829199037446:=0
def tw9202634149440876173:=0
def tw1134664239603949430:=0
def tw7157974258789484874:=0
def tw15765961983147356268:=0
def tw9304429140273103630:=0
def tw7570950938944787835:=0
def tw8096008026868731504:=0
def tw15376282734103504300:=0
def tw2861999639898389223:=0
def tw4977342271141847271:=0
def tw9935468776341427228:=0
def tw11892031987831116684:=0
def tw5655840357542975638:=0
def tw11503752631279254624:=0
def tw1793864724125250646:=0
def tw11086220522447470820:=0
def tw5276301820621549903:=0
def tw13148536396072815398:=0
def tw13921760303276640203:=0
def tw16492690231601158725:=0
def tw15916098231730902808:=0
def tw8238216646500986568:=0
def tw11543016256951173087:=0
def tw15968203756140839969:=0
def tw11482329327577776952:=0
def tw2209452135346737350:=0
def tw5539040091116891739:=0
def tw7966245914002516741:=0
def tw3041617337959702996:=0
def tw6733018807263624354:=0
def tw7407702140660969430:=0
def tw8189254400857727332:=0
def tw2575609542406669516:=0
def tw3551254640775619327:=0
def tw17460098225793604040:=0
def tw15764216437077476508:=0
def tw13072050453647418717:=0
def tw10759744672354232094:=0
def tw8612405704514470037:=0
def tw9681982679409676754:=0
def tw2737792257509722693:=0
def tw16787263402118413498:=0
def tw13529132966204560036:=0
def tw3377471979649989655:=0
def tw5490155065269470395:=0
def tw13205730869042249278:=0
def tw8602973947028349975:=0
def tw7771227777431061464:=0
def tw11593494815433917959:=0
def tw15251117930106520603:=0
def tw16324659589864114406:=0
def tw11271523535916274260:=0
def tw15376454935434879302:=0
def tw12636888224096377435:=0
def tw3423161098121993440:=0
def tw12441744665172631979:=0
def tw7346174333006115861:=0
def tw17666085043389778768:=0
def tw4922324164155538870:=0
def tw7455595204590058106:=0
def tw15761660741450214713:=0
def tw4165161801361991636:=0
def tw2857517140498357217:=0
def tw4126459357295854091:=0
def tw5161621807540544528:=0
def tw3504529993870674887:=0
def tw5703878796562653792:=0
def tw3596795847618468417:=0
def tw9337293487679644845:=0
def tw2404285615611609949:=0
def tw14868460662035801282:=0
def tw1392857361313083197:=0
def tw8779143496872935213:=0
def tw7863053921318138416:=0
def tw9890149293694616137:=0
def tw7416368933300743883:=0
def tw4027658190919523005:=0
def tw48832656133128906:=0
def tw6602974809618471076:=0
def tw17181525901788436390:=0
def tw6407391153345981799:=0
def tw15254027282702289158:=0
def tw13938058772113729446:=0
def tw5079490617568409526:=0
def tw7871382157355773035:=0
def tw14905383425097499062:=0
def tw8456651599266168697:=0
def tw10145025231597043708:=0
def tw16882145020792537748:=0
def tw4377727545588626755:=0
def tw8074295594423441762:=0
def tw87357455055903035:=0
def tw17371044458907375393:=0
def tw18071462959683930970:=0
def tw8616223721435421094:=0
def tw5819955389043602820:=0
def tw8373043528798333131:=0
def tw8887156392228456451:=0
def tw14377874226129874101:=0
def tw10941044208231721937:=0
def tw15628214207954950075:=0
def tw13921456731133693416:=0
def tw16827284615369929644:=0
def tw730134005267631162:=0
def tw11519162599239874192:=0
def tw2362437234460325176:=0
def tw10879434641942426146:=0
def tw8283813607473463510:=0
def tw14799300304907193443:=0
def tw15453364979899759570:=0
def tw8269464727962555884:=0
def tw16811130038087092241:=0
def tw14183390834874242022:=0
def tw13879344563845325269:=0
def tw11603265425153035324:=0
def tw4278839791114016723:=0
def tw15613917086414012704:=0
def tw13593507436822006:=0
def tw18045092561831177450:=0
def tw16202387634921799522:=0
def tw7001854153569631739:=0
def tw14109067518643933706:=0
def tw10226925561179485881:=0
def tw2391535489464465984:=0
def tw14840100665568331497:=0
def tw10995986054625015918:=0
def tw7847023413578543538:=0
def tw9447471874664914774:=0
def tw1605387405232739390:=0
def tw10339991924110887944:=0
def tw958649961429598573:=0
def tw12423573305724303000:=0
def tw9328386677517782453:=0
def tw13442233141939990180:=0
def tw6015950924334688023:=0
def tw17101003393206867475:=0
def tw10298114422591041042:=0
def tw2319121296592274427:=0
def tw17154885693078631268:=0
def tw18008938362351322243:=0
def tw14700489353067648232:=0
def tw6862245438167496148:=0
def tw17938986510539577515:=0
def tw5322272939157628480:=0
def tw3407511407455800218:=0
def tw18413881182927695787:=0
def tw11900750492384580717:=0
def tw7898957596391545135:=0
def tw8735598289992521698:=0
def tw8874019826709409221:=0
def tw15317429578870243848:=0
def tw15850976685026430209:=0
def tw5756640185902297581:=0
def tw9799205772061401194:=0
def tw9590036158888188294:=0
def tw13891250279428418101:=0
def tw16873770190333263660:=0
def tw1858259343631346216:=0
def tw17313382466419733566:=0
def tw11543826508604571571:=0
def tw3028663267429849217:=0
def tw12610991753777282844:=0
def tw18098233022024468641:=0
def tw14197618886806432524:=0
def tw384618366888485827:=0
def tw14148047224669846278:=0
def tw14681463550196791688:=0
def tw11928603915532979010:=0
def tw2442490708518177242:=0
def tw11865454637252553309:=0
def tw12441585376940770839:=0
def tw13147288413801444008:=0
def tw11885968498826706974:=0
def tw5454866880887494045:=0
def tw331945664006354617:=0
def tw1643721819119590294:=0
def tw7138467613653683280:=0
def tw7199289713950670897:=0
def tw8657914059550453811:=0
def tw12663670232072174783:=0
def tw4251241520014626124:=0
def tw244782438641178557:=0
def tw17945221967977595370:=0
def tw5873142746153836956:=0
def tw10685520843687372354:=0
def tw15812639691046777145:=0
def tw377212059640361451:=0
def tw5356754280935417587:=0
def tw1860173225447455016:=0
def tw8116334538021216693:=0
def tw5280881228947334215:=0
def tw9492022077839726415:=0
def tw6155375709718766353:=0
def tw5837216119148899878:=0
def tw18381158501827276388:=0
def tw3764417318452567306:=0
def tw4439939064860069815:=0
def tw2711731238375589277:=0
def tw7330336878764023170:=0
def tw10152478220039243124:=0
def tw5089018627415416226:=0
def tw16635956678212282626:=0
def tw11458293297797799524:=0
def tw6388755455773618925:=0
def tw14562914000372170907:=0
def tw5912083457031313355:=0
def tw8876145414177298106:=0
def tw556647456891481200:=0
def tw14813441678668350692:=0
def tw17477952588558669862:=0
def tw13703117575997266515:=0
def tw12784593997204046575:=0
def tw12736666188317780269:=0
def tw7090121075527305664:=0
def tw3755284411326246175:=0
def tw16138049371883763574:=0
def tw15977612310716077070:=0
def tw1455069368097833063:=0
def tw8828166004326468526:=0
def tw15609216325805691934:=0
def tw7656310920907379117:=0
def tw15151486667501174939:=0
def tw6015687983493071579:=0
def tw16188380480967249499:=0
def tw8153636468425325560:=0
def tw15368239796679027746:=0
def tw11151317997827616903:=0
def tw12443955425675470156:=0
def tw15189072062463043178:=0
def tw17165478483816843559:=0
def tw2600672519433685707:=0
def tw14707033189790574867:=0
def tw6729623890134737804:=0
def tw5824813799701817325:=0
def tw7038648680482483282:=0
def tw9911382033609617191:=0
def tw508972712641541566:=0
def tw367831911212217656:=0
def tw16942240768349037295:=0
def tw2155154311736811097:=0
def tw5792580973275079625:=0
def tw18329633483957444863:=0
def tw12052614345579278229:=0
def tw11724453425629203608:=0
def tw15305207878471669184:=0
def tw7980412302194761060:=0
def tw15119850827356558035:=0
def tw16833536197635958345:=0
def tw2189556080836684958:=0
end PySem.W.Fast
noncomputable section
section
namespace bw
open PySem PySem.Spec PyProof.Rows
abbrev Key:=Sum Int Str
noncomputable def k1:Key->aq->Bool
|.inl k,v=>Value.isInt k v
|.inr x,v=>Value.isStrOf x v
noncomputable def N_(w:cB):Key->Int
|.inl k=>hashInt k
|.inr x=>hashStr w x
def me:∀{k:Key} {v:aq},k1 k v=true->(∃i t,k=Sum.inl i/\v=Value.int i t)\/(∃x t,k=Sum.inr x/\v=Value.str x t)
|.inl i,v,h=>by
  obtain⟨t,e⟩:=Value.isInt_shape (k:=i) (v:=v) h;exact .inl ⟨i,t,rfl,e⟩
|.inr x,v,h=>by
  obtain⟨t,e⟩:=Value.isStrOf_shape (x:=x) (v:=v) h;exact .inr ⟨x,t,rfl,e⟩
def agA(i:Int)(t:Tok):k1 (.inl i) (.int i t)=true:=by simp[k1,Value.isInt]
def agz(x:Str)(t:Tok):k1 (.inr x) (.str x t)=true:=by simp[k1,Value.isStrOf]
def ajo(a b:Int):decide ((Sum.inl a:Key)=Sum.inl b)=(a==b):=by
 by_cases e:a=b
 ·subst e;simp
 ·have h:¬(Sum.inl a:Key)=Sum.inl b:=λq=>e (Sum.inl.inj q);rw[decide_eq_false h];exact (beq_eq_false_iff_ne.mpr e).symm
def ajl(a b:Str):decide ((Sum.inr a:Key)=Sum.inr b)=decide (a=b):=by
 by_cases e:a=b
 ·subst e;simp
 ·have h:¬(Sum.inr a:Key)=Sum.inr b:=λq=>e (Sum.inr.inj q);rw[decide_eq_false h,decide_eq_false e]
def ajn(a:Int)(b:Str):decide ((Sum.inl a:Key)=Sum.inr b)=false:=decide_eq_false (λq=>nomatch q)
def ajm(a:Str)(b:Int):decide ((Sum.inr a:Key)=Sum.inl b)=false:=decide_eq_false (λq=>nomatch q)
noncomputable def fF(prog:cQ)(w:cB):PySem.KeyKind prog w Key where
 is:=k1
 hash:=N_ w
 inj:=λv a b ax ae=>by
  rcases me ax with ⟨i,t,rfl,rfl⟩|⟨x,t,rfl,rfl⟩
  ·rcases me ae with ⟨j,u,rfl,e⟩|⟨y,u,rfl,e⟩
   ·injection e with aR _;rw[aR]
   ·exact nomatch e
  ·rcases me ae with ⟨j,u,rfl,e⟩|⟨y,u,rfl,e⟩
   ·exact nomatch e
   ·injection e with aR _;rw[aR]
 byValue:=λk v h=>by
  rcases me h with ⟨i,t,rfl,rfl⟩|⟨x,t,rfl,rfl⟩ <;> rfl
 pyHash:=λa' h=>by
  rcases me a' with ⟨i,t,rfl,rfl⟩|⟨x,t,rfl,rfl⟩
  ·exact wpAny_pyHash_int h
  ·exact wpAny_pyHash_str h
 eqBool:=λbp a' h=>by
  rcases me bp with ⟨i,t,rfl,rfl⟩|⟨x,t,rfl,rfl⟩
  ·rcases me a' with ⟨j,u,rfl,rfl⟩|⟨y,u,rfl,rfl⟩
   ·rw[ajo] at h;exact wpAny_eqBool_int h
   ·rw[ajn] at h;exact SeqAt.EqAt.int_str i t y u _ _ _ _ h
  ·rcases me a' with ⟨j,u,rfl,rfl⟩|⟨y,u,rfl,rfl⟩
   ·rw[ajm] at h;exact SeqAt.EqAt.str_int x t j u _ _ _ _ h
   ·rw[ajl] at h;exact wpAny_eqBool_str h
 «strs»:=λk x t v h=>by
  rcases me h with ⟨i,u,rfl,e⟩|⟨y,u,rfl,e⟩
  ·exact nomatch e
  ·injection e with aR _
   subst aR;cases v <;> rfl
def P9(prog:cQ)(w:cB)(k:Key)(v:aq):(fF prog w).is k v=k1 k v:=rfl
def PQ(prog:cQ)(w:cB)(i:Int)(t:Tok):(fF prog w).is (.inl i) (.int i t)=true:=agA i t
def PO(prog:cQ)(w:cB)(x:Str)(t:Tok):(fF prog w).is (.inr x) (.str x t)=true:=agz x t
end bw
namespace bw
open PySem PySem.Spec PyProof.Rows
inductive V where
|gL|dy (b:Bool)|int (i:Int)|str (x:Str)|sU (b:Array UInt8)|w' (b:UInt64)|ref (a:ak)|ty (n:String)
 deriving DecidableEq
noncomputable def RelV:V->aq->Prop
|.gL,u=>u=Value.none
|.dy b,u=>u=Value.bool b
|.int i,u=>∃t,u=Value.int i t
|.str x,u=>∃t,u=Value.str x t
|.sU b,u=>∃t,u=Value.bytes b t
|.w' b,u=>∃t,u=Value.float b t
|.ref a,u=>u=Value.ref a
|.ty n,u=>u=Value.type n
abbrev Vals:List V->List aq->Prop:=Paired RelV
theorem Vals.length{xs:List V}{us:List aq}(r:Vals xs us):xs.length=us.length:=Paired.length r
theorem Vals.get:∀{xs:List V} {us:List aq} {i:Nat} {x:V},Vals xs us->xs[i]?=some x->∃u,us[i]?=some u/\RelV x u
|_,_,_,_,.nil,e=>by simp at e
|_,_,0,_,.cons r _,e=>by simp at e;subst e;exact⟨_,rfl,r⟩
|_,_,i+1,x,.cons _ t,e=>by
  obtain⟨u,ah,ao⟩:=Vals.get (i:=i) (x:=x) t (by simpa using e);exact⟨u,by simpa using ah,ao⟩
theorem Vals.set{x:V}{u:aq}(r:RelV x u):∀{xs:List V} {us:List aq} (i:Nat),Vals xs us->Vals (xs.set i x) (us.set i u)
|_,_,_,.nil=>.nil
|_,_,0,.cons _ t=>.cons r t
|_,_,i+1,.cons q t=>.cons q (Vals.set r i t)
theorem Vals.append:∀{xs ys:List V} {us ws:List aq},Vals xs us->Vals ys ws->Vals (xs++ys) (us++ws)
|_,_,_,_,.nil,s=>s
|_,_,_,_,.cons r t,s=>.cons r (Vals.append t s)
theorem Vals.take:∀{xs:List V} {us:List aq} (n:Nat),Vals xs us->Vals (xs.take n) (us.take n)
|_,_,0,_=>.nil
|_,_,_+1,.nil=>.nil
|_,_,n+1,.cons r t=>.cons r (Vals.take n t)
theorem Vals.drop:∀{xs:List V} {us:List aq} (n:Nat),Vals xs us->Vals (xs.drop n) (us.drop n)
|_,_,0,r=>r
|_,_,_+1,.nil=>.nil
|_,_,n+1,.cons _ t=>Vals.drop n t
noncomputable def jP:Option V->Option aq->Prop
|some v,some u=>RelV v u
|none,none=>True
|_,_=>False
noncomputable def f3{ff:Type}:List (ff×V)->List (ff×aq)->Prop:=Paired λ(p:ff×V) (q:ff×aq)=>p.1=q.1/\RelV p.2 q.2
noncomputable def ek:Key->V
|.inl i=>.int i
|.inr x=>.str x
inductive eW where
|lst (xs:List V)
|tup (xs:List V)
|dA (kvs:List (Key×V))|ng (kvs:List (List Key×V))
|set (S:Int->Bool) (n:Nat)
|ins (C bF:ak) (az:List (Str×V))
|own (x:ak)
|JB (az:List (Str×V))
|met (f x:ak)
|jy (lo aU:Int)
|n_ (o:Obj) (u:eW)
|lA (ps:Array aq)
|ext (qa:b5->Prop)
abbrev aE:=ak->Option eW
noncomputable def upd(H:aE)(a:ak)(o:eW):aE:=λb=>if b=a then some o else H b
def dH{H:aE}{a:ak}{o:eW}:upd H a o a=some o:=by unfold upd;rw[if_pos rfl]
def cw{H:aE}{a b:ak}{o:eW}(h:b≠a):upd H a o b=H b:=by unfold upd;rw[if_neg h]
def aj'{H:aE}{a b:ak}{o u:eW}(h:H a=some o)(h':H b=some u)(d:o≠u):a≠b:=by
 intro e;subst e;rw[h] at h';exact d (e3 h')
def ic{H:aE}{a b:ak}{o:eW}(h:H a=some o)(h':H b=none):a≠b:=by
 intro e;subst e;rw[h] at h';cases h'
section
variable (P:cQ)(w:cB)
noncomputable def ik(H:aE)(h:b5)(a:ak):eW->Prop
|.lst xs=>xs.length<=cF/\∃(its:List aq) (n:Nat),Vals xs its/\h.get? a=some {cls:=.type "list",data:=.seq its.toArray n}
|.tup xs=>xs.length<=cF/\∃its:List aq,Vals xs its/\IsTup h a its.toArray
|.dA kvs=>kvs.length<=cF/\(a==sysModules)=false/\∃vs,f3 kvs vs/\h.DictOf (fF P w) a vs
|.ng kvs=>kvs.length<=cF/\(a==sysModules)=false/\∃xs:List (List Key×ak×aq),
   Paired (λ(p:List Key×V) (q:List Key×ak×aq)=>p.1=q.1/\H q.2.1=some (.tup (p.1.map ek))/\RelV p.2 q.2.2) kvs xs /\
   ∃o es ep,h.get? a=some o/\o.ExactDict/\o.data=.dict es ep/\es.toList=xs.map (entryOfKey (tupleKind (fF P w)))/\(xs.map (·.1)).Nodup
|.set S n=>h.SetOf (intKind P w) a S n
|.ins C bF az=>H bF=some (.own a)/\az.length<=1000/\bF≠a/\h.get? a=some (r1 C bF) /\
   ∃e8,h.Ns1 bF e8/\(∀f,jP (az.lookup f) (e8 f))/\PySem.Within e8 (az.map (·.1))
|.own _=>∃o,h.get? a=some o
|.JB az=>∃e8,h.Ns1 a e8/\∀f,jP (az.lookup f) (e8 f)
|.jy lo aU=>∃t u v,h.get? a=some {cls:=.type "range",data:=.fields #[.int lo t,.int aU u,.int 1 v]}
|.n_ o u=>h.get? a=some o/\ik H h a u
|.lA ps=>h.get? a=some {cls:=.none,data:=.fields ps}
|.met f x=>h.get? a=some (PySem.W.methodObj (.ref f) (.ref x))
|.ext qa=>qa h/\(∃o,h.get? a=some o)/\∀ah ao:b5,qa ah->(∀o,ah.get? a=some o->ao.get? a=some o)->qa ao
noncomputable def fy(H:aE)(h:b5):Prop:=∀a o,H a=some o->ik P w H h a o
end
section
variable {P:cQ}{w:cB}{H aj:aE}{h h':b5}{a:ak}{o:eW}
theorem ik.lt(x:ik P w H h a o):a<h.objs.size:=by
 cases o with
|lst xs=>obtain⟨_,_,_,_,e⟩:=x;exact c3 e
|tup xs=>obtain⟨_,_,_,p⟩:=x;exact p.lt
|dA kvs=>obtain⟨_,_,_,_,o,_,_,e,_⟩:=x;exact c3 e
|ng kvs=>obtain⟨_,_,_,_,o,_,_,e,_⟩:=x;exact c3 e
|set S n=>obtain⟨o,_,_,_,e,_⟩:=x;exact c3 e
|ins C bF az=>obtain⟨_,_,_,e,_⟩:=x;exact c3 e
|own y=>obtain⟨_,e⟩:=x;exact c3 e
|JB az=>obtain⟨_,⟨_,_,_,e,_⟩,_⟩:=x;exact c3 e
|jy lo aU=>obtain⟨_,_,_,e⟩:=x;exact c3 e
|n_ d_ u=>obtain⟨e,_⟩:=x;exact c3 e
|lA ps=>exact c3 (show h.get? a=some _ from x)
|met f y=>exact c3 (show h.get? a=some _ from x)
|ext qa=>obtain⟨_,⟨_,e⟩,_⟩:=x;exact c3 e
theorem Paired.Im{α β:Type}{F G:α->β->Prop}:∀{Of:List α} {Og:List β},Paired F Of Og->(∀a b,F a b->G a b)->Paired G Of Og
|_,_,.nil,_=>.nil
|_,_,.cons r t,f=>.cons (f _ _ r) (Paired.Im t f)
def ik.kq(x:ik P w H h a o)(k:∀b u,(b=a\/H b=some (.own a))->h.get? b=some u->h'.get? b=some u)
  (aH:∀b,H b=some (.own a)->aj b=some (.own a)) (aX:∀b xs,H b=some (.tup xs)->aj b=some (.tup xs)):ik P w aj h' a o:=by
 induction o with
|lst xs=>obtain⟨z,its,n,r,e⟩:=x;exact⟨z,its,n,r,k _ _ (.inl rfl) e⟩
|tup xs=>obtain⟨z,its,r,d_,e,c⟩:=x;exact⟨z,its,r,d_,k _ _ (.inl rfl) e,c⟩
|dA kvs=>obtain⟨z,y,vs,r,d_,es,ep,e,c⟩:=x;exact⟨z,y,vs,r,d_,es,ep,k _ _ (.inl rfl) e,c⟩
|ng kvs=>
  obtain⟨z,y,xs,r,d_,es,ep,e,c⟩:=x;exact⟨z,y,xs,Paired.Im r λp q z=>⟨z.1,aX _ _ z.2.1,z.2.2⟩,d_,es,ep,k _ _ (.inl rfl) e,c⟩
|set S n=>obtain⟨d_,es,ep,t,e,c⟩:=x;exact⟨d_,es,ep,t,k _ _ (.inl rfl) e,c⟩
|ins C bF az=>
  obtain⟨d,z,ne,e,e8,⟨f',es,ep,a7,c⟩,r⟩:=x;exact⟨aH _ d,z,ne,k _ _ (.inl rfl) e,e8,⟨f',es,ep,k _ _ (.inr d) a7,c⟩,r⟩
|own y=>obtain⟨d_,e⟩:=x;exact⟨d_,k _ _ (.inl rfl) e⟩
|JB az=>obtain⟨e8,⟨f',es,ep,e,c⟩,r⟩:=x;exact⟨e8,⟨f',es,ep,k _ _ (.inl rfl) e,c⟩,r⟩
|jy lo aU=>obtain⟨t,u,v,e⟩:=x;exact⟨t,u,v,k _ _ (.inl rfl) e⟩
|n_ d_ u b7=>obtain⟨e,q⟩:=x;exact⟨k _ _ (.inl rfl) e,b7 q⟩
|lA ps=>
  have e:h.get? a=some {cls:=.none,data:=.fields ps}:=x;show h'.get? a=some {cls:=.none,data:=.fields ps};exact k a _ (.inl rfl) e
|met f y=>
  have e:h.get? a=some (PySem.W.methodObj (.ref f) (.ref y)):=x;show h'.get? a=some (PySem.W.methodObj (.ref f) (.ref y));exact k a _ (.inl rfl) e
|ext qa=>obtain⟨p,⟨o,e⟩,st⟩:=x;exact⟨st _ _ p λo q=>k _ _ (.inl rfl) q,⟨o,k _ _ (.inl rfl) e⟩,st⟩
theorem fy.lt(x:fy P w H h)(e:H a=some o):a<h.objs.size:=(x a o e).lt
def fy.fresh(x:fy P w H h)(e:h.objs.size<=a):H a=none:=by
 cases q:H a with
|none=>rfl
|some u=>exact absurd (kv (x.lt q) e) (Nat.lt_irrefl _)
def fy.kept(x:fy P w H h)(k:∀b u,h.get? b=some u->h'.get? b=some u):fy P w H h':=λa o e=>
 (x a o e).kq (λb u _ q=>k b u q) (λ_ q=>q) λ_ _ q=>q
def fy.laid(x:fy P w H h)(k:∀b u,h.get? b=some u->h'.get? b=some u)(aC:h.objs.size<=a)(new:ik P w (upd H a o) h' a o):fy P w (upd H a o) h':=λb u e=>by
 have a8:=x.fresh aC;by_cases ae:b=a
 ·subst ae;rw[dH] at e;cases e;exact new
 ·rw[cw ae] at e;exact (x b u e).kq (λc v _ q=>k c v q) (λc q=>by rw[cw (ic q a8)];exact q) λc xs q=>by rw[cw (ic q a8)];exact q
end
noncomputable def e'(H:aE)(a:ak)(u:eW):Prop:=H a=some u\/∃o,H a=some (.n_ o u)
def e'.ok{P:cQ}{w:cB}{H:aE}{h:b5}{a:ak}{u:eW}(r:e' H a u)(x:fy P w H h):ik P w H h a u:=by
 rcases r with r|⟨o,r⟩
 ·exact x a u r
 ·obtain⟨_,q⟩:=x a _ r;exact q
noncomputable def wO:Option eW->Prop
|some (.lst _)=>True
|some (.dA _)=>True
|some (.ng _)=>True
|some (.set _ _)=>True
|some (.ins _ _ _)=>True
|some (.ext _)=>True
|_=>False
section
variable {P:cQ}{w:cB}{H:aE}{h h':b5}{x e:ak}{o':eW}
def fy.write(ok:fy P w H h)(l2:wO (H x))(he:e=x\/H e=some (.own x))(k:∀b u,b≠e->h.get? b=some u->h'.get? b=some u)(u2:∃u,h'.get? e=some u)
  (new:ik P w (upd H x o') h' x o'):fy P w (upd H x o') h':=λb u q=>by
 have Ot:∀c y,H c=some (.own y)->c≠x:=λc y r z=>by subst z;rw[r] at l2;exact l2
 have _k:∀c xs,H c=some (.tup xs)->c≠x:=λc xs r z=>by subst z;rw[r] at l2;exact l2
 by_cases ae:b=x
 ·subst ae;rw[dH] at q;cases q;exact new
 ·rw[cw ae] at q;by_cases te:b=e
  ·have du:H b=some (.own x):=by
    rcases he with z|z
    ·exact absurd (te.trans z) ae
    ·rw[te];exact z
   rw[q] at du;cases du;obtain⟨v,a'⟩:=u2;exact⟨v,by rw[te];exact a'⟩
  ·refine (ok b u q).kq (λc v aG r=>k c v ?_ r) (λc r=>by rw[cw (Ot c b r)];exact r) λc xs r=>by rw[cw (_k c xs r)];exact r
   rcases aG with rfl|aG
   ·exact te
   ·rintro rfl;rcases he with z|z
    ·exact Ot c b aG z
    ·rw[aG] at z;cases z;exact ae rfl
end
structure h3(az ex:List ak)(H aj:aE)(h h':b5):Prop where
 keep:∀b o,h.get? b=some o->H b=none->b∉az->b∉ex->h'.get? b=some o
 slot:∀b o,h.get? b=some o->H b=none->b∈az->b∉ex->∃dr,h'.get? b=some {o with slots:=dr}
 free:∀b o,h.get? b=some o->H b=none->b∉ex->aj b=none
 there:∀b o,h.get? b=some o->b∉ex->∃o',h'.get? b=some o'
 qM:∀b xs,H b=some (.tup xs)->aj b=some (.tup xs)
 akU:∀b o u,H b=some (.n_ o u)->aj b=some (.n_ o u)
 qK:∀b ps,H b=some (.lA ps)->∃more,aj b=some (.lA (ps++more))
section
variable {az il ex akt:List ak}{H H1 bb:aE}{h ah ao h':b5}{a x e:ak}{o:eW}
def h3.any(u:h3 az ex H H1 h ah){b:ak}{d_:Obj}(q:h.get? b=some d_)(n:H b=none)(hx:b∉ex):∃dr,ah.get? b=some {d_ with slots:=dr}:=by
 by_cases ae:b∈az
 ·exact u.slot b d_ q n ae hx
 ·exact⟨d_.slots,u.keep b d_ q n ae hx⟩
def h3.kept(k:∀b u,h.get? b=some u->h'.get? b=some u):h3 az ex H H h h':=
 ⟨λb d_ q _ _ _=>k b d_ q,λb d_ q _ _ _=>⟨d_.slots,k b d_ q⟩,λ_ _ _ n _=>n,λb d_ q _=>⟨d_,k b d_ q⟩,λ_ _ q=>q,λ_ _ _ q=>q,λ_ ps q=>⟨#[],by rw[q];simp⟩⟩
def h3.refl:h3 az ex H H h h:=h3.kept λ_ _ q=>q
def h3.laid(k:∀b u,h.get? b=some u->h'.get? b=some u)(aC:h.objs.size<=a)(a8:H a=none):h3 az ex H (upd H a o) h h' where
 keep:=λb u q _ _ _=>k b u q
 slot:=λb u q _ _ _=>⟨u.slots,k b u q⟩
 free:=λb u q n _=>by rw[cw (e2 (kv (c3 q) aC))];exact n
 there:=λb u q _=>⟨u,k b u q⟩
 qM:=λb xs q=>by rw[cw (ic q a8)];exact q
 akU:=λb u xs q=>by rw[cw (ic q a8)];exact q
 qK:=λb ps q=>⟨#[],by rw[cw (ic q a8),q];simp⟩
def h3.write(l2:wO (H x))(he:e=x\/H e=some (.own x))(k:∀b u,b≠e->h.get? b=some u->h'.get? b=some u)(u2:∃u,h'.get? e=some u):h3 az ex H (upd H x o) h h':=by
 have hx:∀b,H b=none->b≠x:=λb n z=>by subst z;rw[n] at l2;exact l2
 have ae:∀b,H b=none->b≠e:=λb n z=>by
  subst z;rcases he with r|r
  ·exact hx b n r
  ·rw[n] at r;cases r
 have hm:∀b u,H b=some u->¬wO (some u)->b≠x:=λb u q nm z=>by subst z;rw[q] at l2;exact nm l2
 refine⟨λb u q n _ _=>k b u (ae b n) q,λb u q n _ _=>⟨u.slots,k b u (ae b n) q⟩,λb u q n _=>by rw[cw (hx b n)];exact n,λb u q _=>?_,
  λb xs q=>by rw[cw (hm b _ q λz=>z)];exact q,λb u xs q=>by rw[cw (hm b _ q λz=>z)];exact q,λb ps q=>⟨#[],by rw[cw (hm b _ q λz=>z),q];simp⟩⟩
 by_cases te:b=e
 ·subst te;exact u2
 ·exact⟨u,k b u te q⟩
end
noncomputable def BJ(h:b5)(H:aE):List ak:=(List.range h.objs.size).filter λa=>(H a).isSome
noncomputable def qw(h:b5)(H:aE):b5:=PySem.W.hideAll h (BJ h H)
def agE(h:b5)(H:aE):(qw h H).objs.size=h.objs.size:=PySem.W.hideAll_size _ _
def aht{h:b5}{H:aE}{b:ak}{o:Obj}(e:h.get? b=some o)(n:H b=none):(qw h H).get? b=some o:=
 PySem.W.hideAll_get _ e λhm=>by
  have q:(H b).isSome=true:=(List.mem_filter.mp hm).2;rw[n] at q;simp at q
def aie{h:b5}{H:aE}{b:ak}{o:Obj}(e:(qw h H).get? b=some o):h.get? b=some o/\H b=none:=by
 have b1:h.get? b=some o:=PySem.W.of_hideAll (BJ h H) e;refine⟨b1,?_⟩;cases q:H b with
|none=>rfl
|some x=>
  have hm:b∈BJ h H:=List.mem_filter.mpr ⟨List.mem_range.mpr (c3 b1),by simp[q]⟩;have z:(qw h H).get? b=none:=PySem.W.hideAll_none (BJ h H) hm;rw[z] at e;cases e
noncomputable def aiy(g h:b5)(L:ak):List (ak×Obj):=(List.range h.objs.size).filterMap λa=>if a=L\/(g.get? a).isSome=true then none else (h.get? a).map λo=>(a,o)
noncomputable def rest(g h:b5)(L d:ak):List (ak×Obj):=(aiy g h L).filter λp=>decide (p.1≠d)
end bw
namespace bw
open PySem PySem.Spec PyProof.Rows
structure Mod(K:bo)(mg:Str->Option aq)(base:b5):Prop where
 xP:K.In base
 glob:base.Ns lD mg
 blt:∃ny,base.Ns builtinsNs ny/\∀x:Str,x≠"__name__"->ny x=bootBuiltins x
 nolimit:base.NoLimit
structure bh where
 prog:cQ
 w:cB
 K:bo
 mg:Str->Option aq
 base:b5
 A:di
 N:List Str
 de:aQ
 aN:aE
 env:Env
 outer:List Env
 stack:List Env
 ex:List ak
 fn:Str->Bool
 calm:Bool
 dw:List (ak×Obj)
 d3:aq->aQ->Prop
noncomputable def n9(l:List Env):List ak:=l.filterMap (·.frame)
abbrev bh.az(X:bh):List ak:=n9 X.outer
noncomputable def sR(sc:Scope)(x:Str):Prop:=sc.names.lookup x=some .local\/sc.names.lookup x=some .cell\/sc.names.lookup x=some .free
noncomputable def Loc(sc:Scope)(x:Str):Prop:=sc.names.lookup x=some .local\/sc.names.lookup x=some .cell
noncomputable def Look(env:Env)(h:b5)(m:Str->Option aq)(x:Str)(u:aq):Prop:=
 (env.kindOf x=some .local/\m x=some u)\/((env.kindOf x=some .cell\/env.kindOf x=some .free)/\∃c,env.cells.lookup x=some c/\h.IsCell c (some u))
structure bh.Ok(X:bh):Prop where
 mod:Mod X.K X.mg X.base
 kind:X.env.scope.kind=.function
 glob:X.env.globals=lD
 blt:X.env.builtins=builtinsNs
 above:X.de.heap.objs.size<=X.env.locals
 inj:∀x y c,X.env.cells.lookup x=some c->X.env.cells.lookup y=some c->x=y
 has:∀x,(X.env.kindOf x=some .cell\/X.env.kindOf x=some .free)->∃c,X.env.cells.lookup x=some c
 ak_:∀x c,X.fn x=true->X.env.cells.lookup x=some c->X.de.heap.objs.size<=c
 hd:X.calm=true->X.A.handled=none
 frames:X.A.frames=some X.stack
 BC:X.stack=X.outer\/(X.stack=X.env::X.outer/\X.env.frame=some X.env.locals)
 uY:∀b∈X.ex,b≠X.env.locals/\∀x c,X.env.cells.lookup x=some c->c≠b
 bs:∀b o,X.base.get? b=some o->X.de.heap.get? b=some o/\X.aN b=none
 ry:X.base.objs.size<=X.de.heap.objs.size
 x1:∀b o,X.base.get? b=some o->b∉X.ex
 uZ:∀b∈X.ex,b∉X.az
 nr:X.de.heap.FunFrames X.base X.outer
 s6:∀b∈X.az,X.aN b=none
structure Inv(X:bh)(ai:List (ak×Obj))(σ:List (Option V))(H:aE)(s:aQ):Prop where
 ok:X.Ok
 os:s.os=X.de.os
 bare:AllBare s.gens
 base:h3 X.az X.ex X.aN H X.de.heap s.heap
 loc:∃m,s.heap.Ns X.env.locals m/\∀(i:Nat) (x:Str) (v:V),X.N[i]?=some x->σ[i]?=some (some v)->sR X.env.scope x->∃u,RelV v u/\Look X.env s.heap m x u
 cell:∀x c,X.env.cells.lookup x=some c->∃v,s.heap.IsCell c v
 free:H X.env.locals=none
 pf:∀x c,X.env.cells.lookup x=some c->H c=none
 pin:∀p∈X.dw++ai,s.heap.get? p.1=some p.2/\H p.1=none/\p.1≠X.env.locals/\p.1∉X.az/\∀v,p.2.data≠.cell v
 b':fy X.prog X.w H s.heap
 len:σ.length=X.N.length
section
variable {X:bh}{ai:List (ak×Obj)}{σ:List (Option V)}{H aj:aE}{s:aQ}{h':b5}
def bh.Ok._d(ok:X.Ok){b:ak}{o:Obj}(e:X.base.get? b=some o):b∉X.az:=λae=>by
 have:=(ok.nr.mem ae).1;rw[e] at this;cases this
theorem Inv.bs(I:Inv X ai σ H s):∀b o,X.base.get? b=some o->s.heap.get? b=some o/\H b=none:=λb o e=>
 ⟨I.base.keep b o (I.ok.bs b o e).1 (I.ok.bs b o e).2 (I.ok._d e) (I.ok.x1 b o e),I.base.free b o (I.ok.bs b o e).1 (I.ok.bs b o e).2 (I.ok.x1 b o e)⟩
def Inv.iK(I:Inv X ai σ H s):∀b o,X.base.get? b=some o->s.heap.get? b=some o:=λb o e=>(I.bs b o e).1
theorem Inv.mod(I:Inv X ai σ H s):Mod X.K X.mg X.base:=I.ok.mod
def Inv.l1(I:Inv X ai σ H s):X.K.In s.heap:=I.ok.mod.xP.keeps I.iK
theorem Inv.lt(I:Inv X ai σ H s):X.env.locals<s.heap.objs.size:=let ⟨_,a8,_⟩:=I.loc;a8.lt
def Inv.jd(I:Inv X ai σ H s):X.de.heap.objs.size<=s.heap.objs.size:=ma I.ok.above (Nat.le_of_lt I.lt)
def Inv._g(I:Inv X ai σ H s){a:ak}(h:s.heap.objs.size<=a):a∉X.az:=λae=>by
 obtain⟨_,o,aH,_⟩:=I.ok.nr.mem ae;exact absurd (kv (c3 aH) (ma I.jd h)) (Nat.lt_irrefl _)
def Inv.sX(I:Inv X ai σ H s):∀x c,X.env.cells.lookup x=some c->c≠X.env.locals:=λx c e z=>by
 obtain⟨v,o,aH,hd⟩:=I.cell x c e;obtain⟨m,⟨o',es,ep,jv,Gh,_⟩,_⟩:=I.loc;rw[z,jv] at aH;cases aH;rw[Gh] at hd;cases hd
theorem Inv.nr(I:Inv X ai σ H s):s.heap.FunFrames X.base X.outer:=by
 have all:∀(l:List Env),(∀b∈n9 l,b∈X.az)->X.de.heap.FunFrames X.base l->s.heap.FunFrames X.base l:=by
  intro l
  induction l with
  |nil=>intro _ _;trivial
  |cons env r b7=>
   intro aw ay;obtain⟨aI,⟨L,o,hf,a8,aH,hd⟩,av⟩:=ay;have hT:L∈X.az:=aw L (by unfold n9;rw[List.filterMap_cons,hf];exact e9);obtain⟨dr,e⟩:=I.base.slot L o aH (I.ok.s6 L hT) hT λz=>I.ok.uZ L z hT;exact⟨aI,⟨L,_,hf,a8,e,hd⟩,b7 (λb ae=>aw b (by unfold n9;rw[List.filterMap_cons,hf];exact dT _ ae)) av⟩
 exact all X.outer (λ_ ae=>ae) I.ok.nr
theorem Inv.stack(I:Inv X ai σ H s):s.heap.FunFrames X.base X.stack:=by
 rcases I.ok.BC with e|⟨e,hf⟩
 ·rw[e];exact I.nr
 ·rw[e];obtain⟨m,a8,_⟩:=I.loc;refine .cons (by rw[I.ok.kind];decide) hf a8 ?_ I.nr;exact Heap.get?_none_of_le (ma I.ok.ry I.ok.above)
def Inv.BD(I:Inv X ai σ H s):∀b∈n9 X.stack,b∈X.env.locals::X.az:=λb ae=>by
 rcases I.ok.BC with e|⟨e,hf⟩
 ·rw[e] at ae;exact dT _ ae
 ·rw[e] at ae;unfold n9 at ae;rw[List.filterMap_cons,hf] at ae;exact ae
def Inv.OS(I:Inv X ai σ H s):∀b∈n9 X.stack,H b=none:=λb ae=>by
 rcases cO.mp (I.BD b ae) with e|ae
 ·rw[e];exact I.free
 ·obtain⟨_,o,aH,_⟩:=I.ok.nr.mem ae;exact I.base.free b o aH (I.ok.s6 b ae) λz=>I.ok.uZ b z ae
def Inv.step{g':Array GenState}{t':Nat}{d':Drawn}{ch:List ak}(I:Inv X ai σ H s)
  (rF:∀b∈ch,(b∈X.ex\/X.de.heap.objs.size<=b)/\b≠X.env.locals/\(∀x c,X.env.cells.lookup x=some c->c≠b)/\∀p∈X.dw++ai,p.1≠b)
  (keep:∀b o,b≠X.env.locals->b∉X.az->b∉ch->s.heap.get? b=some o->H b=none->h'.get? b=some o)
  (slot:∀b o,b≠X.env.locals->b∈X.az->b∉ch->s.heap.get? b=some o->H b=none->∃dr,h'.get? b=some {o with slots:=dr}) (free:∀b o,b∉ch->s.heap.get? b=some o->H b=none->aj b=none)
  (there:∀b o,b∉ch->s.heap.get? b=some o->∃o',h'.get? b=some o')
  (qM:∀b xs,H b=some (.tup xs)->aj b=some (.tup xs)) (akU:∀b o u,H b=some (.n_ o u)->aj b=some (.n_ o u)) (qK:∀b ps,H b=some (.lA ps)->∃more,aj b=some (.lA (ps++more)))
  (ns:∀m,s.heap.Ns X.env.locals m->h'.Ns X.env.locals m) (b':fy X.prog X.w aj h') (bt:AllBare g'):
  Inv X ai σ aj {s with heap:=h',gens:=g',drawn:=d',toks:=t'}:=by
 have Ol:∀b o,X.de.heap.get? b=some o->b≠X.env.locals:=λb o e=>e2 (kv (c3 e) I.ok.above);have Bj:∀b o,X.de.heap.get? b=some o->b∉X.ex->b∉ch:=λb o e hx ae=>by
  rcases (rF b ae).1 with z|z
  ·exact hx z
  ·exact absurd (kv (c3 e) z) (Nat.lt_irrefl _)
 have cellK:∀x c,X.env.cells.lookup x=some c->∀v,s.heap.IsCell c v->h'.IsCell c v:=λx c e v ⟨o,aH,hd⟩=>by
  have xX:c∉ch:=λz=>(rF c z).2.2.1 x c e rfl;by_cases aG:c∈X.az
  ·obtain⟨dr,q⟩:=slot c o (I.sX x c e) aG xX aH (I.pf x c e);exact⟨_,q,hd⟩
  ·exact⟨o,keep c o (I.sX x c e) aG xX aH (I.pf x c e),hd⟩
 refine⟨I.ok,I.os,bt,⟨λb o e n ae hx=>?_,λb o e n ae hx=>?_,λb o e n hx=>?_,λb o e hx=>?_,λb xs e=>qM b xs (I.base.qM b xs e),λb o xs e=>akU b o xs (I.base.akU b o xs e),λb ps e=>?_⟩,?_,λx c e=>?_,?_,λx c e=>?_,λp aC=>?_,b',I.len⟩
 ·exact keep b o (Ol b o e) ae (Bj b o e hx) (I.base.keep b o e n ae hx) (I.base.free b o e n hx)
 ·obtain⟨dr,aR⟩:=I.base.slot b o e n ae hx;obtain⟨ack,a7⟩:=slot b _ (Ol b o e) ae (Bj b o e hx) aR (I.base.free b o e n hx);exact⟨ack,a7⟩
 ·obtain⟨o',aR⟩:=I.base.there b o e hx;exact free b o' (Bj b o e hx) aR (I.base.free b o e n hx)
 ·obtain⟨o',aR⟩:=I.base.there b o e hx;exact there b o' (Bj b o e hx) aR
 ·obtain⟨i',aR⟩:=I.base.qK b ps e;obtain⟨kQ,a7⟩:=qK b _ aR;exact⟨i'++kQ,by rw[a7,Array.append_assoc]⟩
 ·obtain⟨m,a8,ay⟩:=I.loc;refine⟨m,ns m a8,λi x v aR a7 gi=>?_⟩;obtain⟨u,r,l⟩:=ay i x v aR a7 gi;refine⟨u,r,?_⟩;rcases l with l|⟨k,c,e,z⟩
  ·exact .inl l
  ·exact .inr ⟨k,c,e,cellK x c e _ z⟩
 ·obtain⟨v,z⟩:=I.cell x c e;exact⟨v,cellK x c e v z⟩
 ·obtain⟨m,⟨o,_,_,aH,_⟩,_⟩:=I.loc;exact free _ o (λz=>(rF _ z).2.1 rfl) aH I.free
 ·obtain⟨v,o,aH,hd⟩:=I.cell x c e;exact free c o (λz=>(rF c z).2.2.1 x c e rfl) aH (I.pf x c e)
 ·obtain⟨e,n,ne,gn,d⟩:=I.pin p aC;have xX:p.1∉ch:=λz=>(rF p.1 z).2.2.2 p aC rfl;exact⟨keep p.1 p.2 ne gn xX e n,free p.1 p.2 xX e n,ne,gn,d⟩
def Inv.un{t':Nat}(I:Inv X ai σ H s)(u:h3 X.az [] H aj s.heap h')(b':fy X.prog X.w aj h'):Inv X ai σ aj {s with heap:=h',toks:=t'}:=by
 obtain⟨m,⟨o,es,ep,aH,r⟩,_⟩:=id I.loc;obtain⟨dr,hT⟩:=u.any aH I.free (by simp);exact I.step (g':=s.gens) (d':=s.drawn) (ch:=[]) (λ_ z=>nomatch z) (λb o _ ae _ e n=>u.keep b o e n ae (by simp)) (λb o _ ae _ e n=>u.slot b o e n ae (by simp)) (λb o _ e n=>u.free b o e n (by simp)) (λb o _ e=>u.there b o e (by simp)) u.qM u.akU u.qK (λmN hm=>by
  obtain⟨o',e6,FF,jv,cE⟩:=hm;rw[aH] at jv;cases jv;exact⟨_,e6,FF,hT,cE⟩) b' I.bare
def Inv.call{g':Array GenState}{t':Nat}{d':Drawn}{ch:List ak}(I:Inv X ai σ H s)(u:h3 (n9 X.stack) ch H aj s.heap h')(b':fy X.prog X.w aj h')(bt:AllBare g')
  (rF:∀b∈ch,(b∈X.ex\/X.de.heap.objs.size<=b)/\b≠X.env.locals/\(∀x c,X.env.cells.lookup x=some c->c≠b)/\∀p∈X.dw++ai,p.1≠b):
  Inv X ai σ aj {s with heap:=h',gens:=g',drawn:=d',toks:=t'}:=by
 obtain⟨m,⟨o,es,ep,aH,r⟩,_⟩:=id I.loc;obtain⟨dr,hT⟩:=u.any aH I.free λz=>(rF _ z).2.1 rfl;exact I.step (ch:=ch) rF (λb o hT ae aG e n=>u.keep b o e n (λz=>(cO.mp (I.BD b z)).elim hT ae) aG) (λb o _ _ aG e n=>u.any e n aG) (λb o aG e n=>u.free b o e n aG) (λb o aG e=>u.there b o e aG) u.qM u.akU u.qK (λmN hm=>by
  obtain⟨o',e6,FF,jv,cE⟩:=hm;rw[aH] at jv;cases jv;exact⟨_,e6,FF,hT,cE⟩) b' bt
def Inv.turned{t':Nat}{it:ak}(I:Inv X ai σ H s)(k:∀b o,b≠it->s.heap.get? b=some o->h'.get? b=some o)(a8:H it=none)(hT:it≠X.env.locals)
  (ah:it∈X.ex\/X.de.heap.objs.size<=it) (ao:∀x c,X.env.cells.lookup x=some c->c≠it) (bG:∀p∈X.dw++ai,p.1≠it):Inv X ai σ H {s with heap:=h',toks:=t'}:=by
 have Oo:∀b u,H b=some u->b≠it:=λb u e z=>by rw[z,a8] at e;cases e
 refine I.step (g':=s.gens) (d':=s.drawn) (ch:=[it]) (λb ae=>?_) (λb o _ _ aG e _=>k b o (λz=>aG (by simp[z])) e) (λb o _ _ aG e _=>⟨o.slots,k b o (λz=>aG (by simp[z])) e⟩) (λ_ _ _ _ n=>n)
  (λb o aG e=>⟨o,k b o (λz=>aG (by simp[z])) e⟩) (λ_ _ e=>e) (λ_ _ _ e=>e) (λb ps e=>⟨#[],by rw[e];simp⟩) (λm hm=>?_) (λb u e=>?_) I.bare
 ·have e:b=it:=by simpa using ae
  subst e;exact⟨ah,hT,ao,bG⟩
 ·obtain⟨o,es,ep,aH,r⟩:=hm;exact⟨o,es,ep,k _ o (Ne.symm hT) aH,r⟩
 ·refine (I.b' b u e).kq (λc v aG q=>k c v ?_ q) (λ_ q=>q) λ_ _ q=>q
  rcases aG with z|z
  ·rw[z];exact Oo b u e
  ·exact Oo c _ z
def Inv.tok(I:Inv X ai σ H s)(t:Nat):Inv X ai σ H {s with toks:=t}:=I.un (h':=s.heap) (t':=t) h3.refl I.b'
theorem Inv.kept{t':Nat}(I:Inv X ai σ H s)(k:∀b u,s.heap.get? b=some u->h'.get? b=some u):Inv X ai σ H {s with heap:=h',toks:=t'}:=I.un (h3.kept k) (I.b'.kept k)
theorem Inv.laid{a:ak}{o:eW}{t':Nat}(I:Inv X ai σ H s)(k:∀b u,s.heap.get? b=some u->h'.get? b=some u)(aC:s.heap.objs.size<=a)(new:ik X.prog X.w (upd H a o) h' a o):
  Inv X ai σ (upd H a o) {s with heap:=h',toks:=t'}:=I.un (h3.laid k aC (I.b'.fresh aC)) (I.b'.laid k aC new)
theorem Inv.write{x e:ak}{o:eW}{t':Nat}(I:Inv X ai σ H s)(l2:wO (H x))(he:e=x\/H e=some (.own x))(k:∀b u,b≠e->s.heap.get? b=some u->h'.get? b=some u)(u2:∃u,h'.get? e=some u)
  (new:ik X.prog X.w (upd H x o) h' x o):Inv X ai σ (upd H x o) {s with heap:=h',toks:=t'}:=I.un (h3.write l2 he k u2) (I.b'.write l2 he k u2 new)
def Inv.OA{Oz:List (ak×Obj)}(I:Inv X ai σ H s)(h:∀p∈Oz,s.heap.get? p.1=some p.2/\H p.1=none/\p.1≠X.env.locals/\p.1∉X.az/\∀v,p.2.data≠.cell v):Inv X Oz σ H s:=
 ⟨I.ok,I.os,I.bare,I.base,I.loc,I.cell,I.free,I.pf,λp aC=>(j2.mp aC).elim (λz=>I.pin p (List.mem_append_left _ z)) (h p),I.b',I.len⟩
def Rd{N:List Str}(fc:N.Nodup){i j:Nat}{x:Str}(a:N[i]?=some x)(b:N[j]?=some x):i=j:=by
 obtain⟨ah,aR⟩:=fe.mp a;obtain⟨ao,a7⟩:=fe.mp b;exact (List.getElem_inj fc).mp (aR.trans a7.symm)
def Qo{M:Model}{A:di}{E:aq->aQ->Prop}{i:Nat}{x:Str}{v:V}{u:aq}{Q:Unit->aQ->Prop}(I:Inv X ai σ H s)(fc:X.N.Nodup)(aU:X.N[i]?=some x)(hx:Loc X.env.scope x)(r:RelV v u)
  (h:∀s',Inv X ai (σ.set i (some v)) H s'->(∃a,Heap.SameBut a s.heap s'.heap/\(a=X.env.locals\/X.env.cells.lookup x=some a))->Q () s') (hf:X.fn x=true\/X.env.scope.names.lookup x=some .local:=by first|exact .inl rfl|exact .inr rfl|assumption):bK M A (storeName X.env x u) Q E s:=by
 obtain⟨m,a8,ay⟩:=id I.loc;have Ye:(X.env.scope.kind==.class || (X.env.scope.kind==.module && X.env.locals != X.env.globals))=false:=by rw[I.ok.kind];rfl
 have NT:i<σ.length:=by rw[I.len];exact (fe.mp aU).1
 have sX:=I.sX;have tracked:∀{a:ak} {h':b5},(∃o,s.heap.get? a=some o/\H a=none)->Heap.SameBut a s.heap h'->fy X.prog X.w H h':=λ{a h'} ax aw b d_ e=>by
  obtain⟨_,_,NR⟩:=ax;refine (I.b' b d_ e).kq (λc gc aG q=>(aw.2 c ?_).trans q) (λ_ q=>q) λ_ _ q=>q;rintro rfl;rcases aG with rfl|aG
  ·rw[NR] at e;cases e
  ·rw[NR] at aG;cases aG
 rcases hx with aI|aI
 ·refine wpAny_storeName_local aI a8 (λh' YF aw=>?_) Ye
  obtain⟨_l,_,_,xA,_⟩:=id a8;refine h _ ⟨I.ok,I.os,I.bare,⟨λb o e n ae hx=>?_,λb o e n ae hx=>?_,I.base.free,λb o e hx=>?_,I.base.qM,I.base.akU,I.base.qK⟩,⟨_,YF,λj y ks aR a7 gi=>?_⟩,λy c e=>?_,I.free,I.pf,λp aC=>?_,tracked ⟨_l,xA,I.free⟩ aw,by simpa using I.len⟩ ⟨_,aw,.inl rfl⟩
  ·exact (aw.2 b (e2 (kv (c3 e) I.ok.above))).trans (I.base.keep b o e n ae hx)
  ·obtain⟨dr,aR⟩:=I.base.slot b o e n ae hx;exact⟨dr,(aw.2 b (e2 (kv (c3 e) I.ok.above))).trans aR⟩
  ·obtain⟨o',aR⟩:=I.base.there b o e hx;exact⟨o',(aw.2 b (e2 (kv (c3 e) I.ok.above))).trans aR⟩
  ·by_cases bD:j=i
   ·subst bD;rw[aU] at aR;cases aR;rw[List.getElem?_set_self NT] at a7;cases a7;exact⟨u,r,.inl ⟨aI,by simp⟩⟩
   ·rw[List.getElem?_set_ne (Ne.symm bD)] at a7;obtain⟨ym,cE,q⟩:=ay j y ks aR a7 gi;refine⟨ym,cE,?_⟩;rcases q with ⟨k,e⟩|⟨k,c,e,z⟩
    ·refine .inl ⟨k,?_⟩
     have:y≠x:=λe=>bD (Rd fc aR (e▸aU));simp[this,e]
    ·exact .inr ⟨k,c,e,z.sameBut aw (sX y c e)⟩
  ·obtain⟨gc,z⟩:=I.cell y c e;exact⟨gc,z.sameBut aw (sX y c e)⟩
  ·obtain⟨e,n,ne,gn,d⟩:=I.pin p aC;exact⟨(aw.2 p.1 ne).trans e,n,ne,gn,d⟩
 ·have Gm:X.fn x=true:=by
   rcases hf with z|z
   ·exact z
   ·rw[z] at aI;cases aI
  obtain⟨c,aG⟩:=I.ok.has x (.inl aI);obtain⟨gc,z⟩:=I.cell x c aG;refine wpAny_storeName_cell I.ok.kind aI aG z (λh' cV aw=>?_);obtain⟨kn,NV,YJ⟩:=id z;refine h {s with heap:=h'} ⟨I.ok,I.os,I.bare,⟨λb o e n ae hx=>?_,λb o e n ae hx=>?_,I.base.free,λb o e hx=>?_,I.base.qM,I.base.akU,I.base.qK⟩,⟨m,a8.sameBut aw (Ne.symm (sX x c aG)),λj y ks aR a7 gi=>?_⟩,λy gw e=>?_,I.free,I.pf,λp aC=>?_,tracked ⟨kn,NV,I.pf x c aG⟩ aw,by simpa using I.len⟩ ⟨c,aw,.inr aG⟩
  ·exact (aw.2 b (e2 (kv (c3 e) (I.ok.ak_ x c Gm aG)))).trans (I.base.keep b o e n ae hx)
  ·obtain⟨dr,aR⟩:=I.base.slot b o e n ae hx;exact⟨dr,(aw.2 b (e2 (kv (c3 e) (I.ok.ak_ x c Gm aG)))).trans aR⟩
  ·obtain⟨o',aR⟩:=I.base.there b o e hx;exact⟨o',(aw.2 b (e2 (kv (c3 e) (I.ok.ak_ x c Gm aG)))).trans aR⟩
  ·by_cases bD:j=i
   ·subst bD;rw[aU] at aR;cases aR;rw[List.getElem?_set_self NT] at a7;cases a7;exact⟨u,r,.inr ⟨.inl aI,c,aG,cV⟩⟩
   ·rw[List.getElem?_set_ne (Ne.symm bD)] at a7;obtain⟨ym,cE,q⟩:=ay j y ks aR a7 gi;refine⟨ym,cE,?_⟩;rcases q with q|⟨k,gw,e,lF⟩
    ·exact .inl q
    ·refine .inr ⟨k,gw,e,lF.sameBut aw ?_⟩
     rintro rfl;exact bD (Rd fc aR (I.ok.inj _ _ _ e aG▸aU))
  ·by_cases NI:gw=c
   ·subst NI;exact⟨_,cV⟩
   ·obtain⟨mT,hp⟩:=I.cell y gw e;exact⟨mT,hp.sameBut aw NI⟩
  ·obtain⟨e,n,ne,gn,d⟩:=I.pin p aC;refine⟨(aw.2 p.1 ?_).trans e,n,ne,gn,d⟩;intro q;rw[q,NV] at e;have du:kn=p.2:=e3 e;exact d gc (by rw[<- du];exact YJ)
def Q5{M:Model}{A:di}{E:aq->aQ->Prop}{i:Nat}{x:Str}{v:V}{u:aq}{Q:Unit->aQ->Prop}(I:Inv X ai σ H s)(fc:X.N.Nodup)(aU:X.N[i]?=some x)(hx:Loc X.env.scope x)(r:RelV v u)
  (h:∀s',Inv X ai (σ.set i (some v)) H s'->Q () s') (hf:X.fn x=true\/X.env.scope.names.lookup x=some .local:=by first|exact .inl rfl|exact .inr rfl|assumption):bK M A (storeName X.env x u) Q E s:=
 Qo I fc aU hx r (λs' akY _=>h s' akY) hf
end
abbrev gU:=aq->Option ak->aE->Prop
abbrev St:=List (Option V)
abbrev dC:=V->aE->Prop
abbrev TE:=St->aE->dC->Prop
abbrev TT:=St->aE->(Bool->aE->Prop)->Prop
abbrev fU:=St->aE->(List V->aE->Prop)->Prop
structure Ends where
 bY:St->aE->Prop
 e1:dC
 iK:St->aE->Prop:=λ_ _=>False
 fj:St->aE->Prop:=λ_ _=>False
abbrev h2:=Ends->St->aE->Prop
noncomputable def iD(X:bh)(ai:List (ak×Obj))(σ:St)(Q:dC)(u:aq)(s':aQ):Prop:=∃v aj,Inv X ai σ aj s'/\RelV v u/\Q v aj
noncomputable def zU(X:bh)(ai:List (ak×Obj))(σ:St)(Q:Bool->aE->Prop)(b:Bool)(s':aQ):Prop:=∃aj,Inv X ai σ aj s'/\Q b aj
noncomputable def L4(X:bh)(ai:List (ak×Obj))(σ:St)(Q:List V->aE->Prop)(us:List aq)(s':aQ):Prop:=∃vs aj,Inv X ai σ aj s'/\Vals vs us/\Q vs aj
noncomputable def sQ(X:bh)(ai:List (ak×Obj))(D:Ends)(f:Flow)(s':aQ):Prop:=
 match f with
|.next=>∃cq aj,Inv X ai cq aj s'/\D.bY cq aj
|.brk=>∃cq aj,Inv X ai cq aj s'/\D.iK cq aj
|.cont=>∃cq aj,Inv X ai cq aj s'/\D.fj cq aj
|.ret u=>∃v cq aj,Inv X ai cq aj s'/\RelV v u/\D.e1 v aj
noncomputable def bW(X:bh)(e:bc)(t:TE):Prop:=
 ∀(ai:List (ak×Obj)) (s:aQ) (σ:St) (H:aE) (Q:dC),Inv X ai σ H s->t σ H Q->bK (bZ X.prog X.w) X.A (eval e X.env) (iD X ai σ Q) X.d3 s
noncomputable def lQ(X:bh)(e:bc)(t:TT):Prop:=
 ∀(ai:List (ak×Obj)) (s:aQ) (σ:St) (H:aE) (Q:Bool->aE->Prop),Inv X ai σ H s->t σ H Q->bK (bZ X.prog X.w) X.A (isTrue e X.env (eval e X.env)) (zU X ai σ Q) X.d3 s
noncomputable def n1(X:bh)(e:bc)(t:TT):Prop:=
 ∀(whole:Sem aq) (ai:List (ak×Obj)) (s:aQ) (σ:St) (H:aE) (Q:Bool->aE->Prop),Inv X ai σ H s->t σ H Q->bK (bZ X.prog X.w) X.A (isTrue e X.env whole) (zU X ai σ Q) X.d3 s
def n1.pt{X:bh}{e:bc}{t:TT}(h:n1 X e t):lQ X e t:=h _
noncomputable def hZ(X:bh)(es:List bc)(t:fU):Prop:=
 ∀(pos:Pos) (ai:List (ak×Obj)) (s:aQ) (σ:St) (H:aE) (Q:List V->aE->Prop),Inv X ai σ H s->t σ H Q->bK (bZ X.prog X.w) X.A (spliced (dQ pos (bA es X.env))) (L4 X ai σ Q) X.d3 s
noncomputable def kH(X:bh)(st:Stmt)(t:h2):Prop:=
 ∀(ai:List (ak×Obj)) (s:aQ) (σ:St) (H:aE) (D:Ends),Inv X ai σ H s->t D σ H->bK (bZ X.prog X.w) X.A (exec st X.env) (sQ X ai D) X.d3 s
noncomputable def k7(X:bh)(st:List Stmt)(t:h2):Prop:=
 ∀(ai:List (ak×Obj)) (s:aQ) (σ:St) (H:aE) (D:Ends),Inv X ai σ H s->t D σ H->bK (bZ X.prog X.w) X.A (execs st X.env) (sQ X ai D) X.d3 s
def cA{α:Type}{t:Sem α}{Q Ml:α->aQ->Prop}{M:Model}{A:di}{E:aq->aQ->Prop}{s:aQ}(h:bK M A t Q E s)(jt:∀a s,Q a s->Ml a s):bK M A t Ml E s:=gB h jt λ_ _ x=>x
end bw
namespace bw
open PySem PySem.Spec PyProof.Rows
section
variable {X:bh}
noncomputable def gN(i:Nat):TE:=λσ H Q=>∃v,σ[i]?=some (some v)/\Q v H
noncomputable def vg(v:V):TE:=λ_ H Q=>Q v H
def ai1{i:Nat}{x:Str}{pos:Pos}(fc:X.N[i]?=some x)(a':sR X.env.scope x)(hd:(x==("__debug__":Str))=false:=by decide)(ki:(x==("__classdict__":Str))=false:=by decide):bW X (.Name x pos) (gN i):=by
 intro ai s σ H Q I h;obtain⟨v,e,h⟩:=h;obtain⟨m,a8,ay⟩:=I.loc;obtain⟨u,r,l⟩:=ay i x v fc e a';have fin:iD X ai σ Q u s:=⟨v,H,I,r,h⟩;rcases l with ⟨aI,hm⟩|⟨aI,c,aG,u1⟩
 ·exact wpAny_Name (wpAny_loadName_local I.ok.kind aI a8 hm fin) hd
 ·rcases aI with aI|aI
  ·exact wpAny_Name (wpAny_loadName_cell I.ok.kind aI aG u1 fin) hd
  ·exact wpAny_Name (wpAny_loadName_free I.ok.kind aI aG u1 fin ki) hd
def ai7{i j pos}:bW X (.Constant (.int i) j pos) (vg (.int i)):=λ_ _ _ H _ I h=>wpAny_Constant_int ⟨.int i,H,I.tok _,⟨_,rfl⟩,h⟩
def aj9{b j pos}:bW X (.Constant (.bool b) j pos) (vg (.dy b)):=λ_ _ _ H _ I h=>Constant_bool ⟨.dy b,H,I,rfl,h⟩
def ai5{j pos}:bW X (.Constant .none j pos) (vg .gL):=λ_ _ _ H _ I h=>Constant_none ⟨.gL,H,I,rfl,h⟩
def ai3{x j pos}:bW X (.Constant (.str x) j pos) (vg (.str x)):=λ_ _ _ H _ I h=>Calls.Constant_str ⟨.str x,H,I.tok _,⟨_,rfl⟩,h⟩
noncomputable def fh(X:bh)(x:Str):Prop:=X.env.kindOf x=some .globalImplicit
def Lm{E:aq->aQ->Prop}{ai:List (ak×Obj)}{s:aQ}{σ:St}{H:aE}{x:Str}{u:aq}{pos:Pos}{Q:aq->aQ->Prop}(I:Inv X ai σ H s)(bt:fh X x)(hm:X.mg x=some u)(h:Q u s)
  (hd:(x==("__debug__":Str))=false:=by decide):bK (bZ X.prog X.w) X.A (eval (.Name x pos) X.env) Q E s:=
 Calls.Name_function_global I.ok.kind bt (Calls.loadGlobal_global (by rw[I.ok.glob];exact I.mod.glob.keeps I.iK) hm h) hd
def sq{E:aq->aQ->Prop}{ai:List (ak×Obj)}{s:aQ}{σ:St}{H:aE}{x:Str}{u:aq}{pos:Pos}{Q:aq->aQ->Prop}(I:Inv X ai σ H s)(bt:fh X x)(hm:X.mg x=none)(a':bootBuiltins x=some u)(h:Q u s)
  (a8:x≠"__name__":=by decide) (hd:(x==("__debug__":Str))=false:=by decide):bK (bZ X.prog X.w) X.A (eval (.Name x pos) X.env) Q E s:=by
 obtain⟨ny,ah,ao⟩:=I.mod.blt;exact Calls.Name_function_global I.ok.kind bt (Calls.loadGlobal_builtin (by rw[I.ok.glob];exact I.mod.glob.keeps I.iK) hm (by rw[I.ok.blt];exact ah.keeps I.iK) ((ao x a8).trans a') h) hd
def RJ{x:Str}{v:V}{u:aq}{pos:Pos}(bt:fh X x)(hm:X.mg x=some u)(r:RelV v u)(hd:(x==("__debug__":Str))=false:=by decide):bW X (.Name x pos) (vg v):=
 λ_ _ _ H _ I h=>Lm I bt hm ⟨v,H,I,r,h⟩ hd
variable {a b:bc}{cD fC:TE}{pos:Pos}
noncomputable def Mg(X:bh)(op:CmpOp)(a b:bc)(t:TE):Prop:=
 ∀(ai:List (ak×Obj)) (s:aQ) (σ:St) (H:aE) (Q:dC),Inv X ai σ H s->t σ H Q ->
  bK (bZ X.prog X.w) X.A (eval a X.env) (λv dO=>bK (bZ X.prog X.w) X.A (eval b X.env) (λu nC=>bK (bZ X.prog X.w) X.A (jE op v u) (iD X ai σ Q) X.d3 nC) X.d3 dO) X.d3 s
def ahh(b:bc){op:CmpOp}(h:op≠.In)(ao:op≠.NotIn):qZ op b=false:=by
 have aR:(op==CmpOp.In)=false:=by cases op <;> first|rfl|exact absurd rfl h
 have a7:(op==CmpOp.NotIn)=false:=by cases op <;> first|rfl|exact absurd rfl ao
 cases b <;> simp[qZ,aR,a7]
noncomputable def ads(cD:TE):TE:=λσ H Q=>cD σ H λx H1=>Q (.dy (decide (x=.gL))) H1
def RelV._h{x:V}{v:aq}(r:RelV x v):(v==Value.none)=decide (x=.gL):=by
 cases x with
|gL=>cases r;rfl
|dy _=>cases r;rfl
|int _=>obtain⟨t,rfl⟩:=r;rfl
|str _=>obtain⟨t,rfl⟩:=r;rfl
|sU _=>obtain⟨t,rfl⟩:=r;rfl
|w' _=>obtain⟨t,rfl⟩:=r;rfl
|ref _=>cases r;rfl
|ty _=>cases r;rfl
def ai_{j pos'}(ax:bW X a cD):Mg X .Is a (.Constant .none j pos') (ads cD):=by
 intro ai s σ H Q I h;refine cA (ax ai s σ H _ I h) λv s1 ⟨x,H1,bC,bg,aP⟩=>?_;exact Constant_none (is_none_gen ⟨.dy _,H1,bC,by rw[bg._h];rfl,aP⟩)
noncomputable def O4(t:TE):TT:=λσ H Q=>t σ H λx H1=>∃c,x=.dy c/\Q c H1
def aiX{op:CmpOp}{t:TE}(h:Mg X op a b t)(ah:qZ op b=false:=by first|exact ahh _ (by decide) (by decide)|rfl):lQ X (.Compare a [op] [b] pos) (O4 t):=by
 intro ai s σ H Q I hw;refine wpAny_isTrue_Compare1 (cA (h ai s σ H _ I hw) λv s1 ah=>cA ah λu s2 ao=>cA ao λc s3 ⟨x,H1,bC,bg,aP⟩=>?_) ah;obtain⟨d,rfl,q⟩:=aP;cases bg;exact ak3 ⟨H1,bC,q⟩
def aiW{e:bc}{t:TE}(h:bW X e t)(he:∀whole,isTrue e X.env whole=(do let v <- whole;standAt e.pos;holding [v] (truthy v)):=by intro _;rfl):lQ X e (O4 t):=by
 intro ai s σ H Q I hw;refine isTrue_plain (cA (h ai s σ H _ I hw) λv s1 ⟨x,H1,bC,bg,aP⟩=>?_) (he _);obtain⟨d,rfl,q⟩:=aP;cases bg;exact ak3 ⟨H1,bC,q⟩
variable {pF BF:TT}{rest:List bc}
noncomputable def adj(t u:TT):TT:=λσ H Q=>t σ H λc H1=>if c=true then u σ H1 Q else Q false H1
noncomputable def adv(t u:TT):TT:=λσ H Q=>t σ H λc H1=>if c=true then Q true H1 else u σ H1 Q
def ahX(ax:lQ X a pF):n1 X (.BoolOp .And [a] pos) pF:=by
 intro yo ai s σ H Q I h;refine isTrue_and (cA (ax ai s σ H Q I h) λc s1 e=>?_);cases c with
|true=>exact isTrue_and_nil e
|false=>exact e
def aiS(ax:lQ X a pF):n1 X (.BoolOp .Or [a] pos) pF:=by
 intro yo ai s σ H Q I h;refine isTrue_or (cA (ax ai s σ H Q I h) λc s1 e=>?_);cases c with
|false=>exact isTrue_or_nil e
|true=>exact e
def aiT(ax:lQ X a pF)(ae:n1 X (.BoolOp .And (b::rest) pos) BF):n1 X (.BoolOp .And (a::b::rest) pos) (adj pF BF):=by
 intro yo ai s σ H Q I h;refine isTrue_and (cA (ax ai s σ H _ I h) λc s1 ⟨H1,bC,aP⟩=>?_);cases c with
|true=>exact ae yo ai s1 σ H1 Q bC aP
|false=>exact⟨H1,bC,aP⟩
def aj4(ax:lQ X a pF)(ae:n1 X (.BoolOp .Or (b::rest) pos) BF):n1 X (.BoolOp .Or (a::b::rest) pos) (adv pF BF):=by
 intro yo ai s σ H Q I h;refine isTrue_or (cA (ax ai s σ H _ I h) λc s1 ⟨H1,bC,aP⟩=>?_);cases c with
|true=>exact⟨H1,bC,aP⟩
|false=>exact ae yo ai s1 σ H1 Q bC aP
noncomputable def ajO(cD fC:TE):TE:=λσ H Q=>cD σ H λx H1=>∃c,x=.dy c/\if c=true then fC σ H1 Q else Q (.dy false) H1
noncomputable def adw(cD fC:TE):TE:=λσ H Q=>cD σ H λx H1=>∃c,x=.dy c/\if c=true then Q (.dy true) H1 else fC σ H1 Q
noncomputable def ajG(cD:TE):TE:=λσ H Q=>cD σ H λx H1=>∃c,x=.dy c/\Q (.dy (!c)) H1
def Su{op}{t:TE}(h:bW X a t):bW X (.BoolOp op [a] pos) t:=λai s σ H Q I hw=>BoolOp_one (h ai s σ H Q I hw)
def ai9(ax:bW X a cD)(ae:bW X (.BoolOp .And (b::rest) pos) fC):bW X (.BoolOp .And (a::b::rest) pos) (ajO cD fC):=by
 intro ai s σ H Q I h;refine BoolOp_and (cA (ax ai s σ H _ I h) λv s1 ⟨x,H1,bC,bg,aP⟩=>?_);obtain⟨c,rfl,aP⟩:=aP;cases bg;refine ak3 ?_;cases c with
|true=>exact ae ai s1 σ H1 Q bC aP
|false=>exact⟨.dy false,H1,bC,rfl,aP⟩
def aj7(ax:bW X a cD)(ae:bW X (.BoolOp .Or (b::rest) pos) fC):bW X (.BoolOp .Or (a::b::rest) pos) (adw cD fC):=by
 intro ai s σ H Q I h;refine BoolOp_or (cA (ax ai s σ H _ I h) λv s1 ⟨x,H1,bC,bg,aP⟩=>?_);obtain⟨c,rfl,aP⟩:=aP;cases bg;refine ak3 ?_;cases c with
|false=>exact ae ai s1 σ H1 Q bC aP
|true=>exact⟨.dy true,H1,bC,rfl,aP⟩
def ai4(ax:bW X a cD):bW X (.UnaryOp .Not a pos) (ajG cD):=by
 intro ai s σ H Q I h;refine UnaryOp_ (cA (ax ai s σ H _ I h) λv s1 ⟨x,H1,bC,bg,aP⟩=>?_);obtain⟨c,rfl,aP⟩:=aP;cases bg;exact not_of (ak3 ⟨.dy (!c),H1,bC,rfl,aP⟩)
noncomputable def adp(t:TT)(cD fC:TE):TE:=λσ H Q=>t σ H λc H1=>if c=true then cD σ H1 Q else fC σ H1 Q
def aha{c:bc}(aG:lQ X c pF)(ax:bW X a cD)(ae:bW X b fC):bW X (.IfExp c a b pos) (adp pF cD fC):=by
 intro ai s σ H Q I h;refine wpAny_IfExp (cA (aG ai s σ H _ I h) λd s1 ⟨H1,bC,aP⟩=>?_);cases d with
|true=>exact ax ai s1 σ H1 Q bC aP
|false=>exact ae ai s1 σ H1 Q bC aP
end
end bw
namespace bw
open PySem PySem.Spec PyProof.Rows
noncomputable def gg(K:bo)(H:aE)(a:ak)(xs:List V):Prop:=
 e' H a (.lst xs) \/
  ∃(o:Obj) (its:Array aq) (n:Nat),K.lookup a=some o/\o.cls=.type "list"/\o.dict=none/\o.data=.seq its n/\its.size<=cF/\Vals xs its.toList
noncomputable def c7(K:bo)(H:aE)(a:ak)(xs:List V):Prop:=
 e' H a (.tup xs) \/
  ∃(o:Obj) (its:Array aq) (n:Nat),K.lookup a=some o/\o.cls=.type "tuple"/\o.data=.seq its n/\its.size<=cF/\Vals xs its.toList
noncomputable def UX:aq->Option V
|.none=>some .gL
|.bool b=>some (.dy b)
|.int i _=>some (.int i)
|.str x _=>some (.str x)
|.bytes b _=>some (.sU b)
|.float b _=>some (.w' b)
|.ref a=>some (.ref a)
|.type n=>some (.ty n)
|_=>none
def RelV.abs{x:V}{u:aq}(r:RelV x u):UX u=some x:=by
 cases x with
|gL=>cases r;rfl
|dy _=>cases r;rfl
|int _=>obtain⟨t,rfl⟩:=r;rfl
|str _=>obtain⟨t,rfl⟩:=r;rfl
|sU _=>obtain⟨t,rfl⟩:=r;rfl
|w' _=>obtain⟨t,rfl⟩:=r;rfl
|ref _=>cases r;rfl
|ty _=>cases r;rfl
def RelV.inj{x y:V}{u:aq}(r:RelV x u)(q:RelV y u):x=y:=e3 (r.abs.symm.trans q.abs)
theorem Vals.inj:∀{xs ys:List V} {us:List aq},Vals xs us->Vals ys us->xs=ys
|_,_,_,.nil,.nil=>rfl
|_,_,_,.cons r t,.cons cE t'=>by rw[r.inj cE,Vals.inj t t']
section
variable {X:bh}{ai:List (ak×Obj)}{σ:St}{H:aE}{s:aQ}{a:ak}{xs ys:List V}
def gg.of{K:bo}(h:H a=some (.lst xs)):gg K H a xs:=.inl (.inl h)
def c7.of{K:bo}(h:H a=some (.tup xs)):c7 K H a xs:=.inl (.inl h)
def Inv.list(I:Inv X ai σ H s)(h:gg X.K H a xs):∃its:List aq,Vals xs its/\PlainL s.heap a its.toArray/\xs.length<=cF:=by
 rcases h with h|⟨o,its,n,aI,aG,hd,aw,ar,r⟩
 ·obtain⟨z,its,n,r,e⟩:=h.ok I.b';exact⟨its,r,⟨_,n,e,rfl,rfl,rfl⟩,z⟩
 ·refine⟨its.toList,r,⟨o,n,I.l1 a o aI,aG,hd,by simpa using aw⟩,?_⟩
  have e:=r.length;simp only[r2] at e;omega
def Inv.tuple(I:Inv X ai σ H s)(h:c7 X.K H a xs):∃its:List aq,Vals xs its/\IsTup s.heap a its.toArray/\xs.length<=cF:=by
 rcases h with h|⟨o,its,n,aI,aG,aw,ar,r⟩
 ·obtain⟨z,its,r,p⟩:=h.ok I.b';exact⟨its,r,p,z⟩
 ·refine⟨its.toList,r,⟨o,I.l1 a o aI,aG,n,by simpa using aw⟩,?_⟩
  have e:=r.length;simp only[r2] at e;omega
def Inv.Oc(I:Inv X ai σ H s)(h:gg X.K H a xs)(h':gg X.K H a ys):xs=ys:=by
 obtain⟨its,r,⟨o,n,e,_,_,d⟩,_⟩:=I.list h;obtain⟨its',cE,⟨o',qE,b1,_,_,d'⟩,_⟩:=I.list h';rw[e] at b1;cases b1;rw[d] at d';injection d' with o_ _;have:its=its':=by simpa using congrArg Array.toList o_
 subst this;exact r.inj cE
def Inv.yj(I:Inv X ai σ H s)(h:c7 X.K H a xs)(h':c7 X.K H a ys):xs=ys:=by
 obtain⟨its,r,⟨o,e,_,n,d⟩,_⟩:=I.tuple h;obtain⟨its',cE,⟨o',b1,_,qE,d'⟩,_⟩:=I.tuple h';rw[e] at b1;cases b1;rw[d] at d';injection d' with o_ _;have:its=its':=by simpa using congrArg Array.toList o_
 subst this;exact r.inj cE
end
abbrev bh.pH(X:bh)(E:aq->aQ->Prop):bh:={X with d3:=E}
abbrev bh.kR(X:bh):bh:=X.pH λ_ _=>False
theorem bh.Ok.pH{X:bh}(ok:X.Ok)(E:aq->aQ->Prop):(X.pH E).Ok:=
 ⟨ok.mod,ok.kind,ok.glob,ok.blt,ok.above,ok.inj,ok.has,ok.ak_,ok.hd,ok.frames,ok.BC,ok.uY,ok.bs,ok.ry,ok.x1,ok.uZ,ok.nr,ok.s6⟩
def bh.Ok.rY{X:bh}{E:aq->aQ->Prop}(ok:(X.pH E).Ok):X.Ok:=
 ⟨ok.mod,ok.kind,ok.glob,ok.blt,ok.above,ok.inj,ok.has,ok.ak_,ok.hd,ok.frames,ok.BC,ok.uY,ok.bs,ok.ry,ok.x1,ok.uZ,ok.nr,ok.s6⟩
section
variable {X:bh}{ai:List (ak×Obj)}{σ:St}{H:aE}{s:aQ}{E:aq->aQ->Prop}
theorem Inv.pH(I:Inv X ai σ H s)(E:aq->aQ->Prop):Inv (X.pH E) ai σ H s:=⟨I.ok.pH E,I.os,I.bare,I.base,I.loc,I.cell,I.free,I.pf,I.pin,I.b',I.len⟩
theorem Inv.rY(I:Inv (X.pH E) ai σ H s):Inv X ai σ H s:=⟨I.ok.rY,I.os,I.bare,I.base,I.loc,I.cell,I.free,I.pf,I.pin,I.b',I.len⟩
theorem sQ.rY{D:Ends}{f:Flow}{s':aQ}(h:sQ (X.pH E) ai D f s'):sQ X ai D f s':=by
 cases f with
|next=>obtain⟨cq,aj,I,q⟩:=h;exact⟨cq,aj,I.rY,q⟩
|brk=>obtain⟨cq,aj,I,q⟩:=h;exact⟨cq,aj,I.rY,q⟩
|cont=>obtain⟨cq,aj,I,q⟩:=h;exact⟨cq,aj,I.rY,q⟩
|ret u=>obtain⟨v,cq,aj,I,r,q⟩:=h;exact⟨v,cq,aj,I.rY,r,q⟩
theorem k7.kR{st:List Stmt}{t:h2}(h:k7 X.kR st t):k7 X st t:=λai s σ H D I hw=>
 gB (h ai s σ H D (I.pH _) hw) (λ_ _ q=>q.rY) λ_ _ z=>mV z
end
section
variable {X:bh}{st:Stmt}{rest:List Stmt}{t u:h2}{e:bc}{g4:TE}{pos:Pos}
def ajH:h2:=λD σ H=>D.bY σ H
noncomputable def ady(t u:h2):h2:=λD σ H=>t {D with bY:=u D} σ H
def RG:k7 X [] ajH:=λ_ _ σ H _ I h=>wpAny_execs_nil ⟨σ,H,I,h⟩
def ag8(ah:kH X st t)(ao:k7 X rest u):k7 X (st::rest) (ady t u):=by
 intro ai s σ H D I h;refine wpAny_execs_cons (cA (ah ai s σ H {D with bY:=u D} I h) λf s1 q=>?_);cases f with
|next=>
  obtain⟨cq,aj,akY,q⟩:=q;exact ao ai s1 cq aj D akY q
|ret v=>exact q
|brk=>exact q
|cont=>exact q
def RF(ah:kH X st t):k7 X [st] t:=by
 intro ai s σ H D I h;refine wpAny_execs_cons (cA (ah ai s σ H D I h) λf s1 q=>?_);cases f with
|next=>exact wpAny_execs_nil q
|ret v=>exact q
|brk=>exact q
|cont=>exact q
def Inv.quiet{ai:List (ak×Obj)}{σ:St}{H:aE}{s:aQ}(I:Inv X ai σ H s):interactive X.env=false:=by simp[interactive,I.ok.kind]
noncomputable def ajJ(g4:TE):h2:=λD σ H=>g4 σ H λ_ H1=>D.bY σ H1
def zl(he:bW X e g4)(aw:jg e none pos.line X.env=pure false:=by rfl):kH X (.Expr e pos) (ajJ g4):=by
 intro ai s σ H D I h;exact wpAny_Expr_any (cA (he ai s σ H _ I h) λv s1 ⟨x,H1,bC,bg,aP⟩=>⟨σ,H1,bC,aP⟩) I.quiet aw
noncomputable def adx(g4:TE):h2:=λD σ H=>g4 σ H D.e1
def zx(he:bW X e g4):kH X (.Return (some e) pos) (adx g4):=by
 intro ai s σ H D I h;exact wpAny_Return_some (cA (he ai s σ H _ I h) λv s1 ⟨x,H1,bC,bg,aP⟩=>⟨x,σ,H1,bC,bg,aP⟩)
noncomputable def ajE:h2:=λD _ H=>D.e1 .gL H
def ahZ:kH X (.Return none pos) ajE:=λ_ _ σ H _ I h=>wpAny_Return_none ⟨.gL,σ,H,I,rfl,h⟩
noncomputable def adq(c:TT)(t u:h2):h2:=λD σ H=>c σ H λb H1=>if b=true then t D σ H1 else u D σ H1
def S3{c:bc}{a b:List Stmt}{tN:TT}(aG:lQ X c tN)(ax:k7 X a t)(ae:k7 X b u):kH X (.If c a b pos) (adq tN t u):=by
 intro ai s σ H D I h;refine wpAny_If (cA (aG ai s σ H _ I h) λd s1 ⟨H1,bC,aP⟩=>?_);cases d with
|true=>exact ax ai s1 σ H1 D bC aP
|false=>exact ae ai s1 σ H1 D bC aP
end
abbrev nc:=V->St->aE->(St->aE->Prop)->Prop
abbrev qm:=List V->St->aE->(St->aE->Prop)->Prop
noncomputable def qj(X:bh)(target:bc)(t:nc):Prop:=
 ∀(ai:List (ak×Obj)) (s:aQ) (σ:St) (H:aE) (v:V) (u:aq) (Q:St->aE->Prop),Inv X ai σ H s->RelV v u->t v σ H Q ->
  bK (bZ X.prog X.w) X.A (assign target X.env u) (λ_ s'=>∃cq aj,Inv X ai cq aj s'/\Q cq aj) X.d3 s
noncomputable def sN(X:bh)(ts:List bc)(t:qm):Prop:=
 ∀(ai:List (ak×Obj)) (s:aQ) (σ:St) (H:aE) (vs:List V) (us:List aq) (Q:St->aE->Prop),Inv X ai σ H s->Vals vs us->t vs σ H Q ->
  bK (bZ X.prog X.w) X.A (assignInOrder ((nL ts X.env).map (·.2)) us) (λ_ s'=>∃cq aj,Inv X ai cq aj s'/\Q cq aj) X.d3 s
abbrev D1:=V->V->V->aE->(aE->Prop)->Prop
noncomputable def Mk(X:bh)(t:D1):Prop:=
 ∀(ai:List (ak×Obj)) (s:aQ) (σ:St) (H:aE) (o i v:V) (dX ft u:aq) (Q:aE->Prop),Inv X ai σ H s->RelV o dX->RelV i ft->RelV v u->t o i v H Q ->
  bK (bZ X.prog X.w) X.A (setItem dX ft u) (λ_ s'=>∃aj,Inv X ai σ aj s'/\Q aj) X.d3 s
section
variable {X:bh}{pos:Pos}
noncomputable def S8(i:Nat):nc:=λv σ H Q=>Q (σ.set i (some v)) H
def ah8{i:Nat}{x:Str}(fc:X.N.Nodup)(aU:X.N[i]?=some x)(hx:Loc X.env.scope x)(hf:X.fn x=true\/X.env.scope.names.lookup x=some .local:=by first|exact .inl rfl|exact .inr rfl|assumption):qj X (.Name x pos) (S8 i):=by
 intro ai s σ H v u Q I r h;exact wpAny_assign_Name (Q5 I fc aU hx r (λs' akY=>⟨_,H,akY,h⟩) hf)
noncomputable def XP:qm:=λvs σ H Q=>vs=[]/\Q σ H
noncomputable def akd(t:nc)(u:qm):qm:=λvs σ H Q=>∃v r,vs=v::r/\t v σ H λcq aj=>u r cq aj Q
def ah7:sN X [] XP:=by
 intro ai s σ H vs us Q I r h;obtain⟨e,h⟩:=h;subst e;cases r;exact assignInOrder_nil ⟨σ,H,I,h⟩
def ag_{e:bc}{es:List bc}{t:nc}{u:qm}(ah:qj X e t)(ao:sN X es u)
  (aw:(nL (e::es) X.env).map (·.2)=assign e X.env::(nL es X.env).map (·.2):=by rfl):sN X (e::es) (akd t u):=by
 intro ai s σ H vs us Q I r h;obtain⟨v,Jv,aR,h⟩:=h;subst aR;cases r with
|cons r x8=>
  rw[aw];refine assignInOrder_cons (cA (ah ai s σ H _ _ _ I r h) λ_ s1 ⟨Tb,H1,bC,aP⟩=>?_);exact ao ai s1 Tb H1 _ _ Q bC x8 aP
noncomputable def XR(K:bo)(n:Nat)(t:qm):nc:=λv σ H Q=>∃a xs,v=.ref a/\c7 K H a xs/\xs.length=n/\t xs σ H Q
def aiZ{es:List bc}{k:Nat}{t:qm}{n:Nat}(aG:X.calm=true)(h:sN X es t)
  (a8:(nL es X.env).length=n:=by rfl) (mJ:(nL es X.env).findIdx? (·.1)=none:=by rfl):qj X (.Tuple es k pos) (XR X.K n t):=by
 intro ai s σ H v u Q I r hw;obtain⟨a,xs,aR,bS,ay,hw⟩:=hw;subst aR;cases r;obtain⟨its,b8,aX,ar⟩:=I.tuple bS;refine assign_Tuple_tuple (I.ok.hd aG) aX (by simp[a8,<- ay,b8.length]) mJ λh' hx=>?_;have bC:Inv X ai σ H {s with heap:=h'}:=I.kept (t':=s.toks) λb o e=>hx b o (e2 (c3 e)) e;exact h ai _ σ H xs _ Q bC (by simpa using b8) hw
noncomputable def XQ(to oE:TE)(t:D1):nc:=λv σ H Q=>to σ H λo H1=>oE σ H1 λi bb=>t o i v bb λdj=>Q σ dj
def ai0{o i:bc}{to oE:TE}{t:D1}(aH:bW X o to)(aU:bW X i oE)(aw:Mk X t)
  (ax:∀v,assign (.Subscript o i pos) X.env v=(do
   let dX <- holding [v] (eval o X.env)
   let ft <- holding [v,dX] (eval i X.env)
   standAt pos
   holding [v,dX,ft] (setItem dX ft v)
   release [v,dX,ft] []):=by intro _;rfl):qj X (.Subscript o i pos) (XQ to oE t):=by
 intro ai s σ H v u Q I r h;rw[ax];refine a6 (mY (cA (aH ai s σ H _ I h) λdX s1 ⟨x,H1,bC,bg,aP⟩=>?_));refine a6 (mY (cA (aU ai s1 σ H1 _ bC aP) λft s2 ⟨y,bb,ck,cf,ba⟩=>?_));refine a6 (wpAny_standAt (a6 (mY (cA (aw ai s2 σ bb x y v dX ft u _ ck bg cf r ba) λ_ s3 ⟨dj,ej,cU⟩=>?_))));exact wpAny_release ⟨σ,dj,ej,cU⟩
noncomputable def O3(g4:TE)(g:nc):h2:=λD σ H=>g4 σ H λx H1=>g x σ H1 D.bY
def Sr{cH e:bc}{g4:TE}{g:nc}(he:bW X e g4)(bt:qj X cH g)(aw:swapsWithSole [cH] e pos.line X.env=pure false:=by rfl)(hw:swappedStores [cH] e X.env=pure none:=by rfl)
  (ah:(nL [cH] X.env).map (·.2)=[assign cH X.env]:=by rfl):kH X (.Assign [cH] e pos) (O3 g4 g):=by
 intro ai s σ H D I h;refine wpAny_Assign_stores (cA (he ai s σ H _ I h) λv s1 ⟨x,H1,bC,bg,aP⟩=>?_) aw hw;rw[ah];exact cA (bt ai s1 σ H1 x v _ bC bg aP) λ_ s2 q=>q
def Sp{i:Nat}{x:Str}{e:bc}{g4:TE}{pos':Pos}(fc:X.N.Nodup)(aU:X.N[i]?=some x)(hx:Loc X.env.scope x)(he:bW X e g4)(aw:jg e (some (.Name x pos')) pos.line X.env=pure false:=by rfl)(hf:X.fn x=true\/X.env.scope.names.lookup x=some .local:=by first|exact .inl rfl|exact .inr rfl|assumption):
  kH X (.Assign [.Name x pos'] e pos) (O3 g4 (S8 i)):=by
 intro ai s σ H D I h;refine wpAny_Assign_Name (cA (he ai s σ H _ I h) λv s1 ⟨y,H1,bC,bg,aP⟩=>?_) aw;exact Q5 bC fc aU hx bg (λs2 ck=>⟨_,H1,ck,aP⟩) hf
end
structure kG where
 go:Nat->aE->Prop
 kY:Nat->aE->V->aE->Prop
 stop:Nat->aE->Prop
noncomputable def m'(X:bh)(ai:List (ak×Obj))(H:aE)(b:ak):Prop:=
 H b=none/\b≠X.env.locals/\b∉X.az/\(b∈X.ex\/X.de.heap.objs.size<=b)/\(∀x c,X.env.cells.lookup x=some c->c≠b)/\∀p∈X.dw++ai,p.1≠b
def Inv.xa{X:bh}{ai:List (ak×Obj)}{σ:St}{H aj:aE}{s:aQ}{b:ak}(I:Inv X ai σ H s)(ae:s.heap.objs.size<=b)(a8:aj b=none):m' X ai aj b:=by
 refine⟨a8,hW (kv I.lt ae),I._g ae,.inr (ma I.jd ae),λx c e z=>?_,λp aC z=>?_⟩
 ·obtain⟨v,q⟩:=I.cell x c e;exact absurd (kv q.lt (by rw[z];exact ae)) (Nat.lt_irrefl _)
 ·exact absurd (kv (c3 (I.pin p aC).1) (by rw[z];exact ae)) (Nat.lt_irrefl _)
structure Turn(P:cQ)(w:cB)(K:bo)(cH:bc)(J:kG)(b2:List ak)(it:ak)(hH:Nat->b5->Prop):Prop where
 mem:it∈b2
 obj:∀i h,hH i h->∀b∈b2,∃o,h.get? b=some o/\∀v,o.data≠.cell v
 keep:∀i h h',hH i h->(∀b∈b2,∀o,h.get? b=some o->h'.get? b=some o)->hH i h'
 item:∀(X:bh),X.prog=P->X.w=w->X.K=K->X.calm=true->∀(i:Nat) (ai:List (ak×Obj)) (s:aQ) (σ:St) (H:aE) (E:aq->aQ->Prop),Inv X ai σ H s->(∀b∈b2,m' X ai H b)->hH i s.heap->J.go i H ->
  bK (bZ P w) X.A (pyNext (.ref it)) (λr s1=>∃u,r=some u /\
   bK (bZ P w) X.A (letOwnedTupleGo cH (.ref it) u) (λ_ s2=>∃x aj,Inv X ai σ aj s2/\RelV x u/\J.kY i H x aj/\hH (i+1) s2.heap/\∀b∈b2,aj b=none) E s1) E s
 done:∀(X:bh),X.prog=P->X.w=w->X.K=K->X.calm=true->∀(i:Nat) (ai:List (ak×Obj)) (s:aQ) (σ:St) (H:aE) (E:aq->aQ->Prop),Inv X ai σ H s->(∀b∈b2,m' X ai H b)->hH i s.heap->J.stop i H ->
  bK (bZ P w) X.A (pyNext (.ref it)) (λr s1=>r=none/\Inv X ai σ H s1) E s
 self:∀(A:di) (i:Nat) (s:aQ) (Q:aq->aQ->Prop) (E:aq->aQ->Prop),hH i s.heap->Q (.ref it) s->bK (bZ P w) A (pyIter (.ref it)) Q E s
abbrev TI:=St->aE->(kG->aE->Prop)->Prop
noncomputable def Mj(X:bh)(ai:List (ak×Obj))(σ:St)(cH:bc)(R:kG->aE->Prop)(AP:aq)(s2:aQ):Prop:=
 ∃(it:ak) (b2:List ak) (hH:Nat->b5->Prop) (J:kG) (aj:aE),AP=.ref it/\Inv X ai σ aj s2/\Turn X.prog X.w X.K cH J b2 it hH/\hH 0 s2.heap/\(∀b∈b2,m' X ai aj b)/\R J aj
noncomputable def o5(X:bh)(cH iter:bc)(qN:TI):Prop:=
 ∀(ai:List (ak×Obj)) (s:aQ) (σ:St) (H:aE) (R:kG->aE->Prop),Inv X ai σ H s->qN σ H R ->
  bK (bZ X.prog X.w) X.A (eval iter X.env) (λv s1=>bK (bZ X.prog X.w) X.A (pyIter v) (Mj X ai σ cH R) X.d3 s1) X.d3 s
def L0{M:Model}{A:di}{E:aq->aQ->Prop}{s:aQ}{cH:bc}{it:ak}{u:aq}{o:Obj}{n:String}{vs:Array aq}{Q:Unit->aQ->Prop}(aH:s.heap.get? it=some o)(aG:o.cls=.type n)(hd:o.data=.fields vs)
    (a8:["enumerate","zip","dict_itemiterator","dict_reverseitemiterator","odict_iterator","itertools.zip_longest","itertools.pairwise"].contains n=false) (jt:Q () s):bK M A (letOwnedTupleGo cH (.ref it) u) Q E s:=by
  unfold letOwnedTupleGo;cases cH <;> first
    |exact cK jt
    | (cases u <;> first
        |exact cK jt
        | (refine a6 (wpAny_load aH ?_)
           rw[aG,hd];show bK M A (if (["enumerate","zip","dict_itemiterator","dict_reverseitemiterator","odict_iterator","itertools.zip_longest","itertools.pairwise"].contains n && vs[0]?==some (rawInt _))=true then _ else _) Q E s;rw[if_neg (by intro h;rw[a8,Bool.false_and] at h;cases h)];exact cK jt))
noncomputable def DS(K:bo)(a:ak):kG:=
 ⟨λi H=>∃xs x,gg K H a xs/\xs[i]?=some x,λi H x aj=>aj=H/\∀xs,gg K H a xs->xs[i]?=some x,λi H=>∃xs,gg K H a xs/\xs.length<=i⟩
noncomputable def DT(K:bo)(a:ak):kG:=
 ⟨λi H=>∃xs x,c7 K H a xs/\xs[i]?=some x,λi H x aj=>aj=H/\∀xs,c7 K H a xs->xs[i]?=some x,λi H=>∃xs,c7 K H a xs/\xs.length<=i⟩
noncomputable def zQ(lo:Int)(n:Nat):kG:=⟨λi _=>i<n,λi H x aj=>aj=H/\x=.int (lo+i),λi _=>n<=i⟩
def af5{P:cQ}{w:cB}{K:bo}{cH:bc}(a it:ak):Turn P w K cH (DS K a) [it] it (λi h=>h.IsListIter it a i) where
 mem:=by simp
 obj:=λi h st b ae=>by
  have e:b=it:=by simpa using ae
  subst e;obtain⟨o,e,c,d⟩:=st;exact⟨o,e,λv z=>by rw[d] at z;cases z⟩
 keep:=λi h h' st k=>st.at λo e=>k it (by simp) o e
 item:=by
  intro X hh hw hB aG i ai s σ H E I hf st bt;subst hh hw hB;obtain⟨xs,x,bS,hx⟩:=bt;obtain⟨its,b8,p,ar⟩:=I.list bS;obtain⟨u,bp,ea⟩:=b8.get hx;obtain⟨f0,f1,f2,hc,f4,hg⟩:=hf it (by simp);refine wpAny_pyNext_list_item st p.isList (x:=u) (by simpa using bp) λh' lz g0=>?_;have bC:Inv X ai σ H {s with heap:=h'}:=I.turned (t':=s.toks) (λb o ae e=>(g0.2 b ae).trans e) f0 f1 hc f4 hg;obtain⟨o,e,c,d⟩:=id lz;exact⟨u,rfl,L0 (s:={s with heap:=h'}) e c d (by decide) ⟨x,H,bC,ea,⟨rfl,λys bN=>by rw[I.Oc bN bS];exact hx⟩,lz,λb ae=>(hf b ae).1⟩⟩
 done:=by
  intro X hh hw hB aG i ai s σ H E I hf st bt;subst hh hw hB;obtain⟨xs,bS,hx⟩:=bt;obtain⟨its,b8,p,ar⟩:=I.list bS;obtain⟨f0,f1,f2,hc,f4,hg⟩:=hf it (by simp);have ay:=b8.length;exact wpAny_pyNext_list_end (I.ok.hd aG) st p.isList (by simp;omega) λh' dk=>⟨rfl,I.turned (t':=s.toks) (λb o ae e=>dk b o ae e) f0 f1 hc f4 hg⟩
 self:=λ_ _ _ _ _ st h=>wpAny_pyIter_listiter st h
def afy{P:cQ}{w:cB}{K:bo}{cH:bc}(a it:ak):Turn P w K cH (DT K a) [it] it (λi h=>h.IsTupleIter it a i) where
 mem:=by simp
 obj:=λi h st b ae=>by
  have e:b=it:=by simpa using ae
  subst e;obtain⟨o,e,c,d⟩:=st;exact⟨o,e,λv z=>by rw[d] at z;cases z⟩
 keep:=λi h h' st k=>st.at λo e=>k it (by simp) o e
 item:=by
  intro X hh hw hB aG i ai s σ H E I hf st bt;subst hh hw hB;obtain⟨xs,x,bS,hx⟩:=bt;obtain⟨its,b8,p,ar⟩:=I.tuple bS;obtain⟨u,bp,ea⟩:=b8.get hx;obtain⟨f0,f1,f2,hc,f4,hg⟩:=hf it (by simp);refine wpAny_pyNext_tuple_item st (show s.heap.IsTuple a its.toArray from p) (x:=u) (by simpa using bp) λh' lz g0=>?_;have bC:Inv X ai σ H {s with heap:=h'}:=I.turned (t':=s.toks) (λb o ae e=>(g0.2 b ae).trans e) f0 f1 hc f4 hg;obtain⟨o,e,c,d⟩:=id lz;exact⟨u,rfl,L0 (s:={s with heap:=h'}) e c d (by decide) ⟨x,H,bC,ea,⟨rfl,λys bN=>by rw[I.yj bN bS];exact hx⟩,lz,λb ae=>(hf b ae).1⟩⟩
 done:=by
  intro X hh hw hB aG i ai s σ H E I hf st bt;subst hh hw hB;obtain⟨xs,bS,hx⟩:=bt;obtain⟨its,b8,p,ar⟩:=I.tuple bS;obtain⟨f0,f1,f2,hc,f4,hg⟩:=hf it (by simp);have ay:=b8.length;exact wpAny_pyNext_tuple_end (I.ok.hd aG) st (show s.heap.IsTuple a its.toArray from p) (by simp;omega) λh' dk=>⟨rfl,I.turned (t':=s.toks) (λb o ae e=>dk b o ae e) f0 f1 hc f4 hg⟩
 self:=λ_ _ _ _ _ st h=>wpAny_pyIter_tupleiter st h
def afz{P:cQ}{w:cB}{K:bo}{cH:bc}(it:ak)(lo:Int)(n:Nat):Turn P w K cH (zQ lo n) [it] it (λi h=>IsRangeIter h it (lo+(i:Nat)*1) ((n:Int) - (i:Nat)) 1) where
 mem:=by simp
 obj:=λi h st b ae=>by
  have e:b=it:=by simpa using ae
  subst e;exact⟨_,st,λv z=>by
   have lF:Data.fields _=Data.cell v:=z;cases lF⟩
 keep:=λi h h' st k=>k it (by simp) _ st
 item:=by
  intro X hh hw hB aG i ai s σ H E I hf st bt;subst hh hw hB;obtain⟨f0,f1,f2,hc,f4,hg⟩:=hf it (by simp);have W:=Walks.range (prog:=X.prog) (w:=X.w) (I.ok.hd aG) it lo 1 n;refine W.item i s _ _ bt st λv h' tk a' lz bV=>?_;obtain⟨t,rfl⟩:=a';have bC:Inv X ai σ H {s with heap:=h',toks:=tk}:=I.turned (λb o ae e=>bV b o (by simpa using ae) e) f0 f1 hc f4 hg;refine⟨_,rfl,L0 (s:={s with heap:=h',toks:=tk}) (n:="range_iterator") lz rfl rfl (by decide) ⟨.int (lo+i),H,bC,⟨t,?_⟩,⟨rfl,rfl⟩,lz,λb ae=>(hf b ae).1⟩⟩;rw[Int.mul_one]
 done:=by
  intro X hh hw hB aG i ai s σ H E I hf st bt;subst hh hw hB;obtain⟨f0,f1,f2,hc,f4,hg⟩:=hf it (by simp);exact wpAny_pyNext_range_end (I.ok.hd aG) st (by have:n<=i:=bt;omega) λh' dk=>⟨rfl,I.turned (t':=s.toks) (λb o ae e=>dk b o ae e) f0 f1 hc f4 hg⟩
 self:=λ_ _ _ _ _ st h=>wpAny_pyIter_rangeiter st h
end bw
namespace bw
open PySem PySem.Spec PyProof.Rows
section
variable {X:bh}{cH:bc}
def ag4{ai:List (ak×Obj)}{σ:St}{H:aE}{s:aQ}{R:kG->aE->Prop}{E:aq->aQ->Prop}{lo aU:Int}{t u v:Tok}{tk:Nat}(I:Inv X ai σ H s)(ah:-(2 ^ 62)<=lo)(ao:lo<2 ^ 62)(bG:-(2 ^ 62)<=aU)(cT:aU<2 ^ 62)
  (q:R (zQ lo (aU - lo).toNat) H):bK (bZ X.prog X.w) X.A (pyIter (.ref s.heap.objs.size)) (Mj X ai σ cH R) E {s with heap:=s.heap.push {cls:=.type "range",data:=.fields #[.int lo t,.int aU u,.int 1 v]},toks:=tk}:=by
 refine wpAny_pyIter_range (IsRange.new ..) (small_one ah ao bG cT) ?_
 have bC:Inv X ai σ H {s with heap:=s.heap.push {cls:=.type "range",data:=.fields #[.int lo t,.int aU u,.int 1 v]},toks:=tk}:=I.kept λb o e=>dx _ e;refine⟨(s.heap.push {cls:=.type "range",data:=.fields #[.int lo t,.int aU u,.int 1 v]}).objs.size,[(s.heap.push {cls:=.type "range",data:=.fields #[.int lo t,.int aU u,.int 1 v]}).objs.size],_,_,H,rfl,
  bC.kept (t':=tk) λb o e=>dx _ e,afz _ lo (aU - lo).toNat,?_,λb ae=>?_,q⟩
 ·have aR:lo+((0:Nat):Int)*1=lo:=by simp
  have a7:(((aU - lo).toNat:Nat):Int) - ((0:Nat):Int)=Builtin.Range.rangeSize lo aU 1:=by rw[rangeSize_one];split <;> omega
  show IsRangeIter _ _ (lo+((0:Nat):Int)*1) ((((aU - lo).toNat:Nat):Int) - ((0:Nat):Int)) 1
  rw[aR,a7];exact ia _ rfl
 ·have e:b=(s.heap.push {cls:=.type "range",data:=.fields #[.int lo t,.int aU u,.int 1 v]}).objs.size:=by simpa using ae
  subst e;exact bC.xa (eh _) (bC.b'.fresh (eh _))
noncomputable def akc(cD:fU):TI:=λσ H R=>cD σ H λvs H1=>∃j:Int,vs=[.int j]/\-(2 ^ 62)<=j/\j<2 ^ 62/\R (zQ 0 j.toNat) H1
def agk{a:bc}{cD:fU}{p pos:Pos}(bt:fh X "range")(hm:X.mg "range"=none)(ax:hZ X [a] cD)(aw:bA [a] X.env=[(false,eval a X.env)]:=by rfl):o5 X cH (.Call (.Name "range" p) [a] [] pos) (akc cD):=by
 intro ai s σ H R I h;refine Call_ (sq I bt hm boot_range (tT (cA (ax pos ai s σ H _ I h) λus s1 ⟨vs,H1,bC,bg,aP⟩=>?_) aw rfl));obtain⟨j,e,aP,ba,q⟩:=aP;subst e;cases bg with
|cons r x8=>
  cases x8
  obtain⟨t,rfl⟩:=r;exact call_range_1 (ag4 bC (by omega) (by omega) aP ba (by simpa using q))
noncomputable def adn(qN:TI)(g:nc)(fC:h2):h2:=λD σ H=>qN σ H λJ H1=>∃W:Nat->Nat->St->aE->Prop,(∃m,W 0 m σ H1)/\∀i m σ H,W i m σ H ->
 (J.stop i H/\D.bY σ H)\/(J.go i H/\∃N:St->aE->Prop,(∀cq aj,N cq aj->∃mN,mN<m/\W (i+1) mN cq aj)/\∀x aj,J.kY i H x aj->g x σ aj λzK bb=>fC {D with bY:=N,fj:=N,iK:=D.bY} zK bb)
noncomputable def wi(b2:List ak)(h:b5):List (ak×Obj):=b2.filterMap λb=>(h.get? b).map λo=>(b,o)
def vL{b2:List ak}{h:b5}{b:ak}{o:Obj}(ae:b∈b2)(e:h.get? b=some o):(b,o)∈wi b2 h:=List.mem_filterMap.mpr ⟨b,ae,by rw[e];rfl⟩
def agn{b2:List ak}{h:b5}{p:ak×Obj}(aC:p∈wi b2 h):p.1∈b2/\h.get? p.1=some p.2:=by
 obtain⟨b,ae,e⟩:=List.mem_filterMap.mp aC;cases q:h.get? b with
|none=>rw[q] at e;cases e
|some o=>
  rw[q] at e;have b1:(b,o)=p:=e3 e;subst b1;exact⟨ae,q⟩
def Inv.pinned{ai:List (ak×Obj)}{σ:St}{H:aE}{s:aQ}{b2:List ak}(I:Inv X ai σ H s)(hf:∀b∈b2,m' X ai H b)(aH:∀b∈b2,∃o,s.heap.get? b=some o/\∀v,o.data≠.cell v):Inv X (ai++wi b2 s.heap) σ H s:=
 I.OA λp aC=>(j2.mp aC).elim (λz=>I.pin p (l' _ z)) λz=>by
  obtain⟨ae,e⟩:=agn z;obtain⟨f0,f1,f2,_⟩:=hf p.1 ae;obtain⟨o,b1,d⟩:=aH p.1 ae;rw[e] at b1;cases b1;exact⟨e,f0,f1,f2,d⟩
def Inv.yn{ai pl:List (ak×Obj)}{σ:St}{H:aE}{s:aQ}(I:Inv X (ai++pl) σ H s):Inv X ai σ H s:=I.OA λp aC=>I.pin p (l' _ (List.mem_append_left _ aC))
def Sq{iter:bc}{body:List Stmt}{qN:TI}{g:nc}{fC:h2}{pos:Pos}(aC:PassesOwn (bZ X.prog X.w) X.A X.env X.d3)(aG:X.calm=true)(aU:o5 X cH iter qN)(bt:qj X cH g)(ae:k7 X body fC)
  (aw:∀x,pQ iter X.env x=pure x:=by intro _;rfl):kH X (.For cH iter body [] pos) (adn qN g fC):=by
 intro ai s σ H D I h;refine wpAny_For (cA (aU ai s σ H _ I h) λv s1 ah=>cA ah λAP s2 ao=>?_) aw;obtain⟨it,b2,hH,J,bb,e,ck,T,jB,f2,W,⟨m0,pG⟩,turn⟩:=ao;subst e;have oC:∀{aj:aE},(∀b∈b2,aj b=none)->∀b∈b2,m' X ai aj b:=λa8 b ae=>⟨a8 b ae,(f2 b ae).2⟩;refine codeAny_forLoop_any (λn s'=>∃i cq aj,Inv X ai cq aj s'/\hH i s'.heap/\(∀b∈b2,aj b=none)/\W i n cq aj) ?_ m0 ⟨0,σ,bb,ck,jB,λb ae=>(f2 b ae).1,pG⟩;rintro n s3 ⟨i,kF,dj,ej,rU,rD,BM⟩;rcases turn i n kF dj BM with ⟨stop,qn⟩|⟨go,N,fc,step⟩
 ·refine wpAny_passesOwn aC (cA (T.done X rfl rfl rfl aG i ai s3 kF dj X.d3 ej (oC rD) rU stop) λr s4 ⟨av,iE⟩=>?_)
  subst av;exact wpAny_execs_nil ⟨kF,dj,iE,qn⟩
 ·refine wpAny_passesOwn aC (cA (T.item X rfl rfl rfl aG i ai s3 kF dj X.d3 ej (oC rD) rU go) λr s4 ⟨u,av,cT⟩=>?_)
  subst av;refine wpAny_passesOwn aC (cA cT λ_ s5 ⟨x,g_,qf,tK,q0,oB,xb⟩=>?_);have wM:=qf.pinned (oC xb) (T.obj _ _ oB);refine wpAny_passesOwn aC (cA (bt _ s5 kF g_ x u _ wM tK (step x g_ q0)) λ_ c9 ⟨jL,nX,sH,pz⟩=>?_);refine wpAny_passesOwn aC (cA (ae _ c9 jL nX _ sH pz) λf cy pA=>?_);have again:∀{jM:St} {fx:aE},Inv X (ai++wi b2 s5.heap) jM fx cy->N jM fx->∃m,m<n/\∃i cq aj,Inv X ai cq aj cy/\hH i cy.heap/\(∀b∈b2,aj b=none)/\W i m cq aj:=λ{jM fx} hz xW=>by
   obtain⟨mN,hm,w7⟩:=fc jM fx xW;refine⟨mN,hm,i+1,jM,fx,hz.yn,T.keep _ _ _ oB λb ae o e=>(hz.pin (b,o) (l' _ (l' _ (vL ae e)))).1,λb ae=>?_,w7⟩;obtain⟨o,e,d⟩:=T.obj _ _ oB b ae;exact (hz.pin (b,o) (l' _ (l' _ (vL ae e)))).2.1
  cases f with
  |next=>obtain⟨jM,fx,hz,xW⟩:=pA;exact again hz xW
  |cont=>obtain⟨jM,fx,hz,xW⟩:=pA;exact again hz xW
  |brk=>obtain⟨jM,fx,hz,pA⟩:=pA;exact⟨jM,fx,hz.yn,pA⟩
  |ret v=>obtain⟨lC,jM,fx,hz,pC,pA⟩:=pA;exact⟨lC,jM,fx,hz.yn,pC,pA⟩
end
end bw
namespace bw
open PySem PySem.Spec PyProof.Rows
abbrev hP:=V->V->aE->dC->Prop
noncomputable def fz(X:bh)(f:aq->aq->Sem aq)(r:hP):Prop:=
 ∀(ai:List (ak×Obj)) (s:aQ) (σ:St) (H:aE) (x y:V) (v u:aq) (Q:dC),Inv X ai σ H s->RelV x v->RelV y u->r x y H Q ->
  bK (bZ X.prog X.w) X.A (f v u) (iD X ai σ Q) X.d3 s
noncomputable def D2(X:bh)(f:aq->Sem aq)(r:V->aE->dC->Prop):Prop:=
 ∀(ai:List (ak×Obj)) (s:aQ) (σ:St) (H:aE) (x:V) (v:aq) (Q:dC),Inv X ai σ H s->RelV x v->r x H Q ->
  bK (bZ X.prog X.w) X.A (f v) (iD X ai σ Q) X.d3 s
noncomputable def mu(X:bh)(f:aq)(r:List V->aE->dC->Prop):Prop:=
 ∀(ai:List (ak×Obj)) (s:aQ) (σ:St) (H:aE) (xs:List V) (us:List aq) (Q:dC),Inv X ai σ H s->Vals xs us->r xs H Q ->
  bK (bZ X.prog X.w) X.A (call f us) (iD X ai σ Q) X.d3 s
noncomputable def UU(X:bh)(r:V->aE->(Bool->aE->Prop)->Prop):Prop:=
 ∀(ai:List (ak×Obj)) (s:aQ) (σ:St) (H:aE) (x:V) (v:aq) (Q:Bool->aE->Prop),Inv X ai σ H s->RelV x v->r x H Q ->
  bK (bZ X.prog X.w) X.A (truthy v) (zU X ai σ Q) X.d3 s
noncomputable def yg(r:hP)(cD fC:TE):TE:=λσ H Q=>cD σ H λx H1=>fC σ H1 λy bb=>r x y bb Q
noncomputable def adB(r:V->aE->dC->Prop)(cD:TE):TE:=λσ H Q=>cD σ H λx H1=>r x H1 Q
noncomputable def Bt(C:Int->Int->Prop)(g:Int->Int->V):hP:=λx y H Q=>∃i j,x=.int i/\y=.int j/\C i j/\Q (g i j) H
noncomputable def nA(g:Int->Int->V):hP:=λx y H Q=>∃i j,x=.int i/\y=.int j/\Q (g i j) H
noncomputable def OI(g:Int->V):V->aE->dC->Prop:=λx H Q=>∃i,x=.int i/\Q (g i) H
section
variable {X:bh}{a b c:bc}{cD fC tN:TE}{pos:Pos}
def EJ(ax:bW X a cD)(ae:bW X b fC){ai:List (ak×Obj)}{s:aQ}{σ:St}{H:aE}{R:V->V->aE->Prop}(I:Inv X ai σ H s)
  (h:cD σ H λx H1=>fC σ H1 λy bb=>R x y bb) {Q:aq->aQ->Prop} {f:aq->aq->Sem aq}
  (hf:∀v u s2 x y bb,Inv X ai σ bb s2->RelV x v->RelV y u->R x y bb->bK (bZ X.prog X.w) X.A (f v u) Q X.d3 s2):
  bK (bZ X.prog X.w) X.A (eval a X.env) (λv dO=>bK (bZ X.prog X.w) X.A (eval b X.env) (λu nC=>bK (bZ X.prog X.w) X.A (f v u) Q X.d3 nC) X.d3 dO) X.d3 s:=by
 refine cA (ax ai s σ H _ I h) λv s1 ⟨x,H1,bC,bg,aP⟩=>?_
 refine cA (ae ai s1 σ H1 _ bC aP) λu s2 ⟨y,bb,ck,cf,ba⟩=>?_
 exact hf v u s2 x y bb ck bg cf ba
def uB{op:Operator}{r:hP}(aH:fz X (mZ op) r)(ax:bW X a cD)(ae:bW X b fC):bW X (.BinOp a op b pos) (yg r cD fC):=by
 intro ai s σ H Q I h;exact wpAny_BinOp (EJ ax ae I h λv u s2 x y bb ck a4 bM q=>aH ai s2 σ bb x y v u Q ck a4 bM q)
def aj6{op:UnaryOp}{r:V->aE->dC->Prop}(aH:D2 X (unaryOp op) r)(ax:bW X a cD):bW X (.UnaryOp op a pos) (adB r cD):=by
 intro ai s σ H Q I h;exact UnaryOp_ (cA (ax ai s σ H _ I h) λv s1 ⟨x,H1,bC,bg,aP⟩=>aH ai s1 σ H1 x v Q bC bg aP)
def IW{f:aq->aq->Sem aq}{C:Int->Int->Prop}{g:Int->Int->Int}
  (rule:∀(i j:Int) (t u:Tok) (s:aQ) (Q:aq->aQ->Prop) (E:aq->aQ->Prop),C i j->Q (.int (g i j) s.toks) {s with toks:=s.toks+1}->bK (bZ X.prog X.w) X.A (f (.int i t) (.int j u)) Q E s):
  fz X f (Bt C λi j=>.int (g i j)):=by
 intro ai s σ H x y v u Q I a4 bM h;obtain⟨i,j,rfl,rfl,aG,q⟩:=h;obtain⟨t,rfl⟩:=a4;obtain⟨t',rfl⟩:=bM;exact rule i j t t' s _ _ aG ⟨.int (g i j),H,I.tok _,⟨_,rfl⟩,q⟩
def Ox{f:aq->aq->Sem aq}{g:Int->Int->Int}
  (rule:∀(i j:Int) (t u:Tok) (s:aQ) (Q:aq->aQ->Prop) (E:aq->aQ->Prop),Q (.int (g i j) s.toks) {s with toks:=s.toks+1}->bK (bZ X.prog X.w) X.A (f (.int i t) (.int j u)) Q E s):
  fz X f (nA λi j=>.int (g i j)):=by
 intro ai s σ H x y v u Q I a4 bM h;obtain⟨i,j,rfl,rfl,q⟩:=h;obtain⟨t,rfl⟩:=a4;obtain⟨t',rfl⟩:=bM;exact rule i j t t' s _ _ ⟨.int (g i j),H,I.tok _,⟨_,rfl⟩,q⟩
def Bq{f:aq->aq->Sem aq}{g:Int->Int->Bool}
  (rule:∀(i j:Int) (t u:Tok) (s:aQ) (Q:aq->aQ->Prop) (E:aq->aQ->Prop),Q (.bool (g i j)) s->bK (bZ X.prog X.w) X.A (f (.int i t) (.int j u)) Q E s):
  fz X f (nA λi j=>.dy (g i j)):=by
 intro ai s σ H x y v u Q I a4 bM h;obtain⟨i,j,rfl,rfl,q⟩:=h;obtain⟨t,rfl⟩:=a4;obtain⟨t',rfl⟩:=bM;exact rule i j t t' s _ _ ⟨.dy (g i j),H,I,rfl,q⟩
noncomputable def Tc(i j:Int):Prop:=0<j/\j<1073741824
noncomputable def zL(i j:Int):Prop:=(-(2 ^ 64)<i/\i<2 ^ 64)\/(-(2 ^ 64)<j/\j<2 ^ 64)
def zL.ok{i j:Int}(h:zL i j):IntMulOk i j:=by
 rcases h with ⟨ah,ao⟩|⟨ah,ao⟩
 ·exact .of_left (intBits_le_64 ah ao)
 ·exact .of_right (intBits_le_64 ah ao)
def ajc:fz X (mZ .Add) (nA λi j=>.int (i+j)):=Ox λ_ _ _ _ _ _ _ q=>add_int q
def ai':fz X (mZ .Sub) (nA λi j=>.int (i - j)):=Ox λ_ _ _ _ _ _ _ q=>sub_int q
def aja:fz X (mZ .Mult) (Bt zL λi j=>.int (i*j)):=IW λ_ _ _ _ _ _ _ aG q=>mul_int q aG.ok
def aia:fz X (mZ .FloorDiv) (Bt Tc λi j=>.int (i / j)):=IW λi j _ _ _ _ _ aG q=>by
 have ah:(0:Int)<j:=aG.1;have ao:j<1073741824:=aG.2;exact floordiv_int (by omega) (by rw[Int.fdiv_eq_ediv_of_nonneg i (by omega)];exact q) (.inl (PyProof.noPylong_small (by omega)))
def ajb:fz X (mZ .Mod) (Bt (λ_ j=>0<j) λi j=>.int (i % j)):=IW λi j _ _ _ _ _ aG q=>by
 have ah:(0:Int)<j:=aG;exact mod_int' (by omega) (by rw[Int.fmod_eq_emod_of_nonneg i (by omega)];exact q)
def adW{f:aq->Sem aq}{g:Int->Int}
  (rule:∀(i:Int) (t:Tok) (s:aQ) (Q:aq->aQ->Prop) (E:aq->aQ->Prop),Q (.int (g i) s.toks) {s with toks:=s.toks+1}->bK (bZ X.prog X.w) X.A (f (.int i t)) Q E s):
  D2 X f (OI λi=>.int (g i)):=by
 intro ai s σ H x v Q I a4 h;obtain⟨i,rfl,q⟩:=h;obtain⟨t,rfl⟩:=a4;exact rule i t s _ _ ⟨.int (g i),H,I.tok _,⟨_,rfl⟩,q⟩
def aiD:D2 X (unaryOp .USub) (OI λi=>.int (-i)):=adW λ_ _ _ _ _ q=>neg_int q
end
section
variable {X:bh}{a b c:bc}{cD fC tN:TE}{pos:Pos}
def DB{ai:List (ak×Obj)}{σ:St}{H:aE}{s:aQ}{Q:dC}{k kl:Bool}(I:Inv X ai σ H s)(q:Q (.dy k) H)(e:k=kl):iD X ai σ Q (.bool kl) s:=by
 subst e;exact⟨.dy k,H,I,rfl,q⟩
def wB:fz X (jE .Lt) (nA λi j=>.dy (decide (i<j))):=Bq λ_ _ _ _ _ _ _ q=>lt_int q
def LZ:fz X (jE .LtE) (nA λi j=>.dy (decide (i<=j))):=Bq λ_ _ _ _ _ _ _ q=>le_int q
def uC:fz X (jE .Gt) (nA λi j=>.dy (decide (j<i))):=Bq λ_ _ _ _ _ _ _ q=>gt_int q
def S4:fz X (jE .GtE) (nA λi j=>.dy (decide (j<=i))):=Bq λ_ _ _ _ _ _ _ q=>ge_int q
def vN:fz X (jE .Lt) (λx y H Q=>∃i j,x=.str i/\y=.str j/\Q (.dy (decide (i.cps.toList<j.cps.toList))) H):=by
 intro ai s σ H x y v u Q I a4 bM h;obtain⟨i,j,rfl,rfl,q⟩:=h;obtain⟨t,rfl⟩:=a4;obtain⟨t',rfl⟩:=bM;exact lt_str (DB I q rfl)
def fz.or{f:aq->aq->Sem aq}{r cE:hP}(h:fz X f r)(h':fz X f cE):fz X f (λx y H Q=>r x y H Q\/cE x y H Q):=by
 intro ai s σ H x y v u Q I a4 bM q;rcases q with q|q
 ·exact h ai s σ H x y v u Q I a4 bM q
 ·exact h' ai s σ H x y v u Q I a4 bM q
def SE(b:bc){op:CmpOp}(h:op≠.In:=by decide)(ao:op≠.NotIn:=by decide):qZ op b=false:=by
 have aR:(op==CmpOp.In)=false:=by cases op <;> first|rfl|exact absurd rfl h
 have a7:(op==CmpOp.NotIn)=false:=by cases op <;> first|rfl|exact absurd rfl ao
 cases b <;> simp[qZ,aR,a7]
def ah_{op:CmpOp}{r:hP}(aH:fz X (jE op) r)(ax:bW X a cD)(ae:bW X b fC)(hm:qZ op b=false):bW X (.Compare a [op] [b] pos) (yg r cD fC):=by
 intro ai s σ H Q I h;exact wpAny_Compare1 (EJ ax ae I h λv u s2 x y bb ck a4 bM q=>aH ai s2 σ bb x y v u Q ck a4 bM q) hm
noncomputable def ajD(t:TE):TT:=λσ H Q=>t σ H λx aj=>∃k,x=.dy k/\Q k aj
def ahY{op:CmpOp}{r:hP}(aH:fz X (jE op) r)(ax:bW X a cD)(ae:bW X b fC)(hm:qZ op b=false):lQ X (.Compare a [op] [b] pos) (ajD (yg r cD fC)):=by
 intro ai s σ H Q I h;refine wpAny_isTrue_Compare1 (cA (ax ai s σ H _ I h) λv s1 ⟨x,H1,bC,bg,aP⟩=>cA (ae ai s1 σ H1 _ bC aP) λu s2 ⟨y,bb,ck,cf,ba⟩=>
  cA (aH ai s2 σ bb x y v u _ ck bg cf ba) λc s3 ⟨z,dj,ej,hV,k,e,cU⟩=>?_) hm
 subst e;cases hV;exact ak3 ⟨dj,ej,cU⟩
noncomputable def Mm(K:bo)(x:V)(H:aE)(k:Bool):Prop:=
 match x with
|.gL=>k=false
|.dy b=>k=b
|.int i=>k=(i != 0)
|.str y=>y.length<=cF/\k=((y.length:Int) != 0)
|.sU y=>y.size<=cF/\k=((y.size:Int) != 0)
|.ref p=>(∃xs,gg K H p xs/\k=!xs.isEmpty)\/(∃xs,c7 K H p xs/\k=!xs.isEmpty)\/∃kvs,H p=some (.dA kvs)/\k=!kvs.isEmpty
|_=>False
def afP{ff:Type}{kvs:List (ff×V)}{vs:List (ff×aq)}(r:f3 kvs vs):(!vs.isEmpty)=!kvs.isEmpty:=by
 cases r <;> rfl
def Qb{xs:List V}{its:List aq}(r:Vals xs its):(!its.toArray.isEmpty)=!xs.isEmpty:=by
 cases r <;> simp
def uz:(cF:Nat)<2 ^ 63:=by rw[lE];decide
def aiE:UU X (λx H Q=>∃k,Mm X.K x H k/\Q k H):=by
 intro ai s σ H x v Q I a4 h;obtain⟨k,e,q⟩:=h;have ay:=uz;have aw:cF=16777216:=lE;cases x with
|gL=>
  cases a4
  have b1:k=false:=e;subst b1;exact truthy_none ⟨H,I,q⟩
|dy b=>
  cases a4
  have b1:k=b:=e;subst b1;exact ak3 ⟨H,I,q⟩
|int i=>
  obtain⟨t,rfl⟩:=a4;have b1:k=(i != 0):=e;subst b1;exact PySem.P.truthy_int ⟨H,I,q⟩
|str y=>
  obtain⟨t,rfl⟩:=a4;obtain⟨bN,b1⟩:y.length<=cF/\k=((y.length:Int) != 0):=e;subst b1;exact PySem.P.truthy_str (by omega) ⟨H,I.tok _,q⟩
|sU y=>
  obtain⟨t,rfl⟩:=a4;obtain⟨bN,b1⟩:y.size<=cF/\k=((y.size:Int) != 0):=e;subst b1;exact PySem.W.truthy_bytes (by omega) ⟨H,I.tok _,q⟩
|ref p=>
  cases a4
  have b1:(∃xs,gg X.K H p xs/\k=!xs.isEmpty)\/(∃xs,c7 X.K H p xs/\k=!xs.isEmpty)\/∃kvs,H p=some (.dA kvs)/\k=!kvs.isEmpty:=e;rcases b1 with ⟨xs,hx,b1⟩|⟨xs,hx,b1⟩|⟨kvs,hx,b1⟩
  ·subst b1;obtain⟨its,r,pl,ar⟩:=I.list hx;have hlen:=r.length;exact wpAny_truthy_list pl.isList (by simp only[eb];omega) ⟨H,I.tok _,by rw[Qb r];exact q⟩
  ·subst b1;obtain⟨its,r,pl,ar⟩:=I.tuple hx;have hlen:=r.length;exact truthy_tuple pl (by simp only[eb];omega) ⟨H,I.tok _,by rw[Qb r];exact q⟩
  ·subst b1;obtain⟨ar,fJ,vs,r,m⟩:kvs.length<=cF/\(p==sysModules)=false/\∃vs,f3 kvs vs/\s.heap.DictOf (fF X.prog X.w) p vs:=I.b' p _ hx;have hlen:kvs.length=vs.length:=Paired.length r;exact wpAny_truthy_dict fJ m (by omega) ⟨H,I.tok _,by rw[afP r];exact q⟩
|_=>exact (show False from e).elim
def ag7(ax:bW X a cD)(he:∀whole,isTrue a X.env whole=(do let v <- whole;standAt a.pos;holding [v] (truthy v))):
  lQ X a (λσ H Q=>cD σ H λx aj=>∃k,Mm X.K x aj k/\Q k aj):=by
 intro ai s σ H Q I h;exact isTrue_plain (cA (ax ai s σ H _ I h) λv s1 ⟨x,H1,bC,bg,aP⟩=>aiE ai s1 σ H1 x v Q bC bg aP) (he _)
def afF:fz X (mZ .Add) (λx y H Q=>∃i j,x=.str i/\y=.str j/\i.length+j.length<=cF/\Q (.str (i++j)) H):=by
 intro ai s σ H x y v u Q I a4 bM h;obtain⟨i,j,rfl,rfl,ar,q⟩:=h;obtain⟨t,rfl⟩:=a4;obtain⟨t',rfl⟩:=bM;exact add_str (λt' tk=>⟨.str (i++j),H,I.tok _,⟨_,rfl⟩,q⟩) ar
def vals1{x:V}{us:List aq}(r:Vals [x] us):∃u,us=[u]/\RelV x u:=by
 cases r with
|cons bg cf=>cases cf;exact⟨_,rfl,bg⟩
def vals2{x y:V}{us:List aq}(r:Vals [x,y] us):∃u gc,us=[u,gc]/\RelV x u/\RelV y gc:=by
 cases r with
|cons bg cf=>
  cases cf with
  |cons hV l5=>cases l5;exact⟨_,_,rfl,bg,hV⟩
def agL(aG:X.calm=true):mu X (.builtin "max") (λxs H Q=>∃i j,xs=[.int i,.int j]/\Q (.int (if j > i then j else i)) H):=by
 intro ai s σ H xs us Q I r h;obtain⟨i,j,rfl,q⟩:=h;obtain⟨u,gc,rfl,⟨t,rfl⟩,⟨t',rfl⟩⟩:=vals2 r;refine max_two_ints (I.ok.hd aG) λh' tk k=>⟨_,H,I.kept k,?_,q⟩;by_cases bD:j > i
 ·rw[if_pos bD,if_pos bD];exact⟨_,rfl⟩
 ·rw[if_neg bD,if_neg bD];exact⟨_,rfl⟩
end
end bw
namespace bw
open PySem PySem.Spec PyProof.Rows
structure sL(h:b5)(x bF C:ak)(e8:Str->Option aq):Prop where
 obj:h.get? x=some (r1 C bF)
 ns:h.Ns1 bF e8
 ne:bF≠x
def ags{h:b5}{bF:ak}{e8:Str->Option aq}(n:h.Ns1 bF e8):∃f',h.get? bF=some f'/\∀name,PySem.W.lookIn name f'=some (e8 name):=by
 obtain⟨o,es,ep,aH,hd,aI,_,hm⟩:=n;refine⟨o,aH,λname=>?_⟩;have e:=hm name;unfold nsFind findBy at e;rw[<- Array.find?_toList] at e;unfold PySem.W.lookIn;rw[hd];dsimp only;split
 ·rename_i y q
  rw[q] at e;exact congrArg some e
 ·rename_i q
  rw[q] at e;have a:es.toList.any (·.refKey)=false:=by
   rw[List.any_eq_false];intro y bN;obtain⟨z,t,Yw⟩:=aI y (Array.mem_toList_iff.mp bN);simp[DictEntry.refKey,Yw]
  have lS:¬es.toList.any (·.refKey)=true:=by rw[a];exact kX
  rw[if_neg lS];exact congrArg some e
def sL.look{h:b5}{x bF C:ak}{e8:Str->Option aq}(I:sL h x bF C e8):∃f',PySem.W.InstAt h x (r1 C bF) C (some f')/\∀name,PySem.W.lookIn name f'=some (e8 name):=
 let ⟨f',aH,ay⟩:=ags I.ns
 ⟨f',⟨I.obj,rfl,rfl,aH⟩,ay⟩
section
variable {prog:cQ}{w:cB}{A:di}{E:aq->aQ->Prop}{s:aQ}{K:bo}{x bF C f:ak}{e8:Str->Option aq}{name:Str}{v:aq}
def get_map{expr:Bool}{Q:aq->aQ->Prop}(X:K.In s.heap)(I:sL s.heap x bF C e8)(bt:PySem.W.plainGet K C name=true)(c6:PySem.W.hasDictIn K C=true)
  (ax:nF K (.ref C) name=some none) (a':e8 name=some v) (tn:PySem.W.handedIn v=true) (h:Q v {s with toks:=s.toks+1}):
  bK (bZ prog w) A (getAttr (.ref x) name expr) Q E s:=by
 obtain⟨f',J,ay⟩:=I.look;exact PySem.W.get_value X J (PySem.W.plainGet_of bt).1 (PySem.W.findObj_own c6 ax rfl (by rw[ay,a'])) tn h
def ahv{pl:Sem Bool}{Q:aq×List aq->aQ->Prop}(X:K.In s.heap)(I:sL s.heap x bF C e8)(bt:PySem.W.plainGet K C name=true)
  (hf:nF K (.ref C) name=some (some (.ref f))) (aX:PySem.W.isFn K (.ref f)=true) (a':e8 name=none) (h:Q (.ref f,[.ref x]) s):
  bK (bZ prog w) A (getMethod (.ref x) name pl) Q E s:=by
 obtain⟨f',J,ay⟩:=I.look;exact PySem.W.method_fn X J (PySem.W.plainGet_of bt).1 (PySem.W.plainGet_of bt).2 hf (beq_iff_eq.mp aX) (by show (PySem.W.lookIn name f').map (·.isSome)=some false;rw[ay,a'];rfl) h
def ahL{ns:List Str}{Q:Unit->aQ->Prop}(X:K.In s.heap)(I:sL s.heap x bF C e8)
  (aw:nF K (.ref C) "__setattr__"=some (some (.builtin "object.__setattr__"))) (aC:PySem.W.plainOver K C=true) (aX:PySem.W.takerIn K C name=some none) (c6:PySem.W.hasDictIn K C=true)
  (hw:PySem.Within e8 ns) (hsz:ns.length<=cF)
  (h:∀h',sL h' x bF C (λy=>if y=name then some v else e8 y)->Heap.SameBut bF s.heap h'->Q () {s with heap:=h',toks:=s.toks+2}):
  bK (bZ prog w) A (setAttr (.ref x) name v) Q E s:=by
 obtain⟨f',J,ay⟩:=I.look;refine PySem.W.set_plain X J aw (PySem.W.osa_open (s:={s with toks:=s.toks+1}) (r:=none) X J aC aX λb=>?_);obtain⟨cd,aG,Gh⟩:=PySem.W.any_some c6;have hx:s.heap.get? x=some ⟨.ref C,some bF,.plain,#[]⟩:=I.obj;refine a6 (cK (a6 (a6 (wpAny_loadPart hx (a6 (PySem.W.Looks.here (s:={s with toks:=s.toks+1}) (PySem.W.looks_clsIn X aG) ?_))))));rw[Gh];refine cK (a:=some bF) (a6 (cK (a6 ?_)));refine wpAny_nsSet1 (s:={s with toks:=s.toks+1}) I.ns λh' AH fm=>?_;obtain⟨oD,aks,akr,YI,Yh,Yb⟩:=AH.count (PySem.Within.cons name v hw);refine a6 (wpAny_lookBehind YI (by rw[Yh];exact pastItsLine_dict (ma Yb (by rw[g5];omega))) ?_);exact cK (h _ ⟨(fm.2 _ (Ne.symm I.ne)).trans I.obj,AH,I.ne⟩ fm)
def ahl{R:Result->aQ->Prop}{vs:List aq}{kw:List (Str×aq)}(X:K.In s.heap)(hm:PySem.W.makesIn K C=true)
  (aU:nF K (.ref C) "__init__"=some (some (.ref f))) (hf:PySem.W.typeIn K (.ref f)=some (.type "function"))
  (h:codeAny (bZ prog w) (A.under (.builtin "type.__call__" ⟨.ref C::vs,kw⟩)) (.call (.ref f) ⟨.ref (s.heap.objs.size+1)::vs,kw⟩) (PySem.W.InitBack (s.heap.objs.size+1) R)
   {s with heap:=(s.heap.push qS).push (r1 C s.heap.objs.size)}):
  codeAny (bZ prog w) A (.call (.ref C) ⟨vs,kw⟩) R s:=by
 obtain⟨c6,g,d,t,os⟩:=s;exact PySem.W.make_core (PySem.W.makes_of X hm) (PySem.W.looks_findIn X aU) (λself=>PySem.W.bind_fn X self hf) (.inl rfl) h
end
noncomputable def hE(f:Str)(v:V):List (Str×V)->List (Str×V)
  | []=>[(f,v)]
  | (g,x)::r=>if g=f then (g,v)::r else (g,x)::hE f v r
theorem PR(f g:Str)(v:V):∀az:List (Str×V),(hE f v az).lookup g=if g=f then some v else az.lookup g
  | []=>by
    show i4 g [(f,v)]=_
    by_cases h:g=f
    · have ae:(g==f)=true:=beq_iff_eq.mpr h
      simp only[i4,ae,if_pos h]
    · have ae:(g==f)=false:=beq_eq_false_iff_ne.mpr h
      simp only[i4,ae,if_neg h]
  | (k,x)::r=>by
    have b7:=PR f g v r;rw[show hE f v ((k,x)::r)=(if k=f then (k,v)::r else (k,x)::hE f v r) from rfl];by_cases aI:k=f
    · rw[if_pos aI]
      by_cases h:g=k
      · have ae:(g==k)=true:=beq_iff_eq.mpr h
        simp only[i4,ae,if_pos (h.trans aI)]
      · have ae:(g==k)=false:=beq_eq_false_iff_ne.mpr h
        simp only[i4,ae,if_neg (λe:g=f=>h (e.trans aI.symm))]
    · rw[if_neg aI]
      by_cases h:g=k
      · have ae:(g==k)=true:=beq_iff_eq.mpr h
        simp only[i4,ae,if_neg (λe:g=f=>aI (h.symm.trans e))]
      · have ae:(g==k)=false:=beq_eq_false_iff_ne.mpr h
        simp only[i4,ae];exact b7
theorem KA(f:Str)(v:V):∀az:List (Str×V),f∈(hE f v az).map (·.1)/\∀g,g∈az.map (·.1)->g∈(hE f v az).map (·.1)
  | []=>⟨by simp[hE],λg h=>by simp at h⟩
  | (k,x)::r=>by
    obtain⟨bH,bO⟩:=KA f v r;rw[show hE f v ((k,x)::r)=(if k=f then (k,v)::r else (k,x)::hE f v r) from rfl];by_cases aI:k=f
    · rw[if_pos aI]
      subst aI;exact⟨by simp,λg h=>by simpa using h⟩
    · rw[if_neg aI]
      refine⟨?_,λg h=>?_⟩
      · rw[dv]
        exact dT _ bH
      · rw[dv] at h ⊢
        rcases cO.mp h with e|e
        · exact cO.mpr (.inl e)
        · exact dT _ (bO g e)
theorem PT(f:Str)(v:V):∀az:List (Str×V),(hE f v az).length<=az.length+1
  | []=>by simp[hE]
  | (k,x)::r=>by
    have b7:=PT f v r;rw[show hE f v ((k,x)::r)=(if k=f then (k,v)::r else (k,x)::hE f v r) from rfl];by_cases aI:k=f
    · rw[if_pos aI,g5,g5];omega
    · rw[if_neg aI,g5,g5];omega
def jP.some_of{v:V}{o:Option aq}(r:jP (some v) o):∃u,o=some u/\RelV v u:=by
 cases o with
|none=>exact (show False from r).elim
|some u=>exact⟨u,rfl,r⟩
def jP.none_of{o:Option aq}(r:jP none o):o=none:=by
 cases o with
|none=>rfl
|some u=>exact (show False from r).elim
def agG{v:V}{u:aq}(r:RelV v u):PySem.W.handedIn u=true:=by
 cases v with
|gL=>cases (show u=Value.none from r);rfl
|dy b=>cases (show u=Value.bool b from r);rfl
|int i=>obtain⟨t,e⟩:=(show ∃t,u=Value.int i t from r);cases e;rfl
|str x=>obtain⟨t,e⟩:=(show ∃t,u=Value.str x t from r);cases e;rfl
|sU b=>obtain⟨t,e⟩:=(show ∃t,u=Value.bytes b t from r);cases e;rfl
|w' b=>obtain⟨t,e⟩:=(show ∃t,u=Value.float b t from r);cases e;rfl
|ref a=>cases (show u=Value.ref a from r);rfl
|ty n=>cases (show u=Value.type n from r);rfl
section
variable {P:cQ}{w:cB}{H aj:aE}{h h':b5}{a C bF:ak}{az il:List (Str×V)}
def Ln(b':fy P w H h)(e:H a=some (.ins C bF az)):∃e8,sL h a bF C e8/\(∀f,jP (az.lookup f) (e8 f))/\PySem.Within e8 (az.map (·.1))/\az.length<=1000/\H bF=some (.own a):=by
 obtain⟨d,z,ne,d_,e8,n,r,q⟩:=(show ik P w H h a (.ins C bF az) from b' a _ e);exact⟨e8,⟨d_,n,ne⟩,r,q,z,d⟩
end
structure nW(K:bo)(C:ak):Prop where
 pg:PySem.W.plainGet K C Str.empty=true
 hd:PySem.W.hasDictIn K C=true
 po:PySem.W.plainOver K C=true
 sa:nF K (.ref C) "__setattr__"=some (some (.builtin "object.__setattr__"))
def nW.get{K:bo}{C:ak}(c:nW K C)(f:Str):PySem.W.plainGet K C f=true:=c.pg
noncomputable def rb(K:bo)(C:ak)(f:Str):Prop:=nF K (.ref C) f=some none
def rb.adL{K:bo}{C:ak}{f:Str}(n:rb K C f):PySem.W.takerIn K C f=some none:=by
 unfold PySem.W.takerIn;rw[show nF K (.ref C) f=some none from n];rfl
structure Meth(K:bo)(C:ak)(m:Str)(f:ak):Prop where
 at_:nF K (.ref C) m=some (some (.ref f))
 fn:PySem.W.isFn K (.ref f)=true
 aB:nE K (.ref f)=true
section
variable {X:bh}{ai:List (ak×Obj)}{σ:St}{H:aE}{s:aQ}{a C bF:ak}{az:List (Str×V)}{f:Str}{v:V}{A:di}{E:aq->aQ->Prop}
def Qe{b:Bool}{Q:aq->aQ->Prop}(I:Inv X ai σ H s)(e:H a=some (.ins C bF az))(c:nW X.K C)(n:rb X.K C f)(l:az.lookup f=some v)
  (h:∀u s',Inv X ai σ H s'->RelV v u->Q u s'):bK (bZ X.prog X.w) A (getAttr (.ref a) f b) Q E s:=by
 obtain⟨e8,O,r,_,_,_⟩:=Ln I.b' e;obtain⟨u,bp,ea⟩:=jP.some_of (v:=v) (o:=e8 f) (by rw[<- l];exact r f);exact get_map I.l1 O (c.get f) c.hd n bp (agG ea) (h u _ (I.tok _) ea)
def Qd{m:Str}{g:ak}{pl:Sem Bool}{Q:aq×List aq->aQ->Prop}(I:Inv X ai σ H s)(e:H a=some (.ins C bF az))(c:nW X.K C)(k:Meth X.K C m g)(l:az.lookup m=none)
  (h:Q (.ref g,[.ref a]) s):bK (bZ X.prog X.w) A (getMethod (.ref a) m pl) Q E s:=by
 obtain⟨e8,O,r,_,_,_⟩:=Ln I.b' e;have a8:e8 m=none:=jP.none_of (by rw[<- l];exact r m);exact ahv I.l1 O (c.get m) k.at_ k.fn a8 h
def PY{y:V}{u:aq}{Q:Unit->aQ->Prop}(I:Inv X ai σ H s)(e:H a=some (.ins C bF az))(c:nW X.K C)(n:rb X.K C f)(ay:az.length<1000)(bM:RelV y u)
  (h:∀s',Inv X ai σ (upd H a (.ins C bF (hE f y az))) s'->Q () s'):bK (bZ X.prog X.w) A (setAttr (.ref a) f u) Q E s:=by
 obtain⟨e8,O,r,qN,_,aH⟩:=Ln I.b' e;have ar:(az.map (·.1)).length<=cF:=by rw[g6,lE];omega
 refine ahL I.l1 O c.sa c.po n.adL c.hd qN ar λh' nZ g0=>h _ ?_
 have hd:∃o,h'.get? bF=some o:=let ⟨o,_,_,b1,_⟩:=nZ.ns;⟨o,b1⟩;refine I.write (x:=a) (e:=bF) (by rw[e];exact True.intro) (.inr aH) (λb q ae z=>(g0.2 b ae).trans z) hd ?_;refine⟨by rw[cw O.ne];exact aH,?_,O.ne,nZ.obj,_,nZ.ns,λg=>?_,λg bt=>?_⟩
 ·have:=PT f y az;omega
 ·show jP ((hE f y az).lookup g) (if g=f then some u else e8 g)
  rw[PR];by_cases q:g=f
  ·rw[if_pos q,if_pos q];exact bM
  ·rw[if_neg q,if_neg q];exact r g
 ·by_cases q:g=f
  ·rw[q];exact (KA f y az).1
  ·refine (KA f y az).2 g (qN g λz=>bt ?_)
   show (if g=f then some u else e8 g)=none
   rw[if_neg q];exact z
def Inv.made(I:Inv X ai σ H s):Inv X ai σ (upd (upd H s.heap.objs.size (.own (s.heap.objs.size+1))) (s.heap.objs.size+1) (.ins C s.heap.objs.size []))
  {s with heap:=(s.heap.push qS).push (r1 C s.heap.objs.size)}:=by
 have aR:(s.heap.push qS).get? s.heap.objs.size=some qS:=ia s.heap rfl;have a7:((s.heap.push qS).push (r1 C s.heap.objs.size)).get? (s.heap.objs.size+1)=some (r1 C s.heap.objs.size):=by
  have:=ia (s.heap.push qS) (o:=r1 C s.heap.objs.size) rfl
  rwa [kU] at this
 have gi:(s.heap.push qS).Ns s.heap.objs.size (λ_=>none):=⟨qS,#[],_,aR,rfl,(λe he=>absurd he (by simp)),λ_=>rfl⟩;have bC:=I.laid (a:=s.heap.objs.size) (o:=.own (s.heap.objs.size+1)) (h':=s.heap.push qS) (t':=s.toks) (λb u q=>dx _ q) (eh _) ⟨_,aR⟩;refine bC.laid (a:=s.heap.objs.size+1) (o:=.ins C s.heap.objs.size []) (t':=s.toks) (λb u q=>dx _ q) (Nat.le_of_eq (kU _ _)) ?_;have ne:s.heap.objs.size≠s.heap.objs.size+1:=e2 (Nat.lt_succ_self _);refine⟨by rw[cw ne,dH],j6 _,ne,a7,λ_=>none,(Heap.Ns1.of_empty gi).at λo q=>dx _ q,λ_=>True.intro,λy bN=>absurd rfl bN⟩
def aix{prog:cQ}{w:cB}{env:Env}{e:bc}{f:Str}{pos:Pos}{s:aQ}{Q:aq->aQ->Prop}(ae:jf e f env (eval e env)=eval e env)
  (h:bK (bZ prog w) A (eval e env) (λo dO=>bK (bZ prog w) A (getAttr o f true) Q E dO) E s):bK (bZ prog w) A (eval (.Attribute e f pos) env) Q E s:=
 Attribute_any_ h (by rw[arm_eval_Attribute,ae])
end
noncomputable def adm(K:bo)(cD:TE)(f:Str):TE:=λσ H Q=>cD σ H λx H1=>∃a C bF az v,x=.ref a/\H1 a=some (.ins C bF az)/\nW K C/\rb K C f/\az.lookup f=some v/\Q v H1
noncomputable def ach(K:bo)(cD hI:TE)(f:Str):h2:=λD σ H=>hI σ H λy H1=>cD σ H1 λx bb=>∃a C bF az,x=.ref a/\bb a=some (.ins C bF az)/\nW K C/\rb K C f/\az.length<1000 /\
 D.bY σ (upd bb a (.ins C bF (hE f y az)))
noncomputable def DQ(X:bh)(op:Operator)(ip:V->V->aE->dC->Prop):Prop:=
 ∀(ai:List (ak×Obj)) (s:aQ) (σ:St) (H:aE) (x y:V) (u v:aq) (Q:dC),Inv X ai σ H s->RelV x u->RelV y v->ip x y H Q->bK (bZ X.prog X.w) X.A (inplaceOp op u v) (iD X ai σ Q) X.d3 s
noncomputable def ahQ(K:bo)(cD hI:TE)(ip:V->V->aE->dC->Prop)(f:Str):h2:=λD σ H=>cD σ H λx H1=>∃a C bF az v,x=.ref a/\H1 a=some (.ins C bF az)/\nW K C/\rb K C f/\az.lookup f=some v /\
 hI σ H1 λy bb=>ip v y bb λz dj=>∃uU il,dj a=some (.ins C uU il)/\il.length<1000/\D.bY σ (upd dj a (.ins C uU (hE f z il)))
section
variable {X:bh}{o e value:bc}{f:Str}{pos pos' Jt:Pos}{cD hI:TE}
def q_(he:bW X e cD)(ae:jf e f X.env (eval e X.env)=eval e X.env):bW X (.Attribute e f pos) (adm X.K cD f):=by
 intro ai s σ H Q I h;refine aix ae (cA (he ai s σ H _ I h) λu s1 ⟨x,H1,bC,a4,a,C,bF,az,v,ex,dR,c,n,l,q⟩=>?_);subst ex;obtain rfl:u=Value.ref a:=a4;exact Qe bC dR c n l λym s2 ck ea=>⟨v,H1,ck,ea,q⟩
def LI(ax:bW X o cD)(a':bW X value hI)(aw:jg value (some (.Attribute o f pos')) pos.line X.env=pure false):kH X (.Assign [.Attribute o f pos'] value pos) (ach X.K cD hI f):=by
 intro ai s σ H D I h;refine plainObj_wpAny_Assign_Attribute (cA (a' ai s σ H _ I h) λu s1 ⟨y,H1,bC,bM,q⟩=>cA (ax ai s1 σ H1 _ bC q) λdX s2 ⟨x,bb,ck,a4,a,C,bF,az,ex,dR,c,n,l,ba⟩=>?_) aw;subst ex;obtain rfl:dX=Value.ref a:=a4;exact PY ck dR c n l bM λs3 ej=>⟨σ,_,ej,ba⟩
def agi{op:Operator}{ip:V->V->aE->dC->Prop}(ax:bW X o cD)(a':bW X value hI)(Gz:DQ X op ip):kH X (.AugAssign (.Attribute o f Jt) op value pos) (ahQ X.K cD hI ip f):=by
 intro ai s σ H D I h;refine wpAny_AugAssign_AttributeAny (cA (ax ai s σ H _ I h) λdX s1 ⟨x,H1,bC,a4,a,C,bF,az,v,ex,dR,c,n,l,q⟩=>?_);subst ex;obtain rfl:dX=Value.ref a:=a4;refine Qe bC dR c n l λu s2 ck ea=>cA (a' ai s2 σ H1 _ ck q) λBM s3 ⟨y,bb,ej,bM,cU⟩=>cA (Gz ai s3 σ bb v y u BM _ ej ea bM cU) λw4 s4 ⟨z,dj,iE,vc,uU,il,XG,gm,gM⟩=>?_;exact PY iE XG c n gm vc λs5 qf=>⟨σ,_,qf,gM⟩
noncomputable def ab7:V->V->aE->dC->Prop:=λx y H Q=>∃i j,x=.int i/\y=.int j/\Q (.int (i+j)) H
def SK:DQ X .Add ab7:=by
 rintro ai s σ H x y u v Q I a4 bM ⟨i,j,rfl,rfl,q⟩;obtain⟨t,rfl⟩:=(show ∃t,u=Value.int i t from a4);obtain⟨t',rfl⟩:=(show ∃t',v=Value.int j t' from bM);exact PyProof.Rows.iadd_int ⟨.int (i+j),H,I.tok _,⟨_,rfl⟩,q⟩
end
end bw
namespace bw
open PySem PySem.Spec PyProof.Rows
structure d8(k:Nat)(A:di):Prop where
 hd:A.handled=none
 z5:A.depth+3*k+5<recursionLimit
 un:A.units+16*k+200<cLine
 mE:A.guards=some []
def d8.mono{j k:Nat}{A:di}(r:d8 k A)(h:j<=k):d8 j A:=⟨r.hd,by have:=r.z5;omega,by have:=r.un;omega,r.mE⟩
theorem d8.deeper{k:Nat}{A:di}(r:d8 (k+1) A)(env:Env):d8 k (A.deeper env):=
 ⟨r.hd,by have:=r.z5;show A.depth+1+3*k+5<_;omega,by have:=r.un;show A.units+3+16*k+200<_;omega,r.mE⟩
def afK{A:di}{C:ak}{us:List aq}{kw:List (Str×aq)}:(A.under (.builtin "type.__call__" ⟨.ref C::us,kw⟩)).depth=A.depth+1:=by
 first|rfl|simp[Around.under,Code.weight,Code.isCreation,Code.isGuard,Code.isCaller,Code.frames,Code.isFrame,guardIds]
def afJ{A:di}{C:ak}{us:List aq}{kw:List (Str×aq)}:(A.under (.builtin "type.__call__" ⟨.ref C::us,kw⟩)).units=A.units+1:=by
 first|rfl|simp[Around.under,Code.cUnits,Code.frames,Code.isFrame]
def aff{A:di}{C:ak}{us:List aq}{kw:List (Str×aq)}:(A.under (.builtin "type.__call__" ⟨.ref C::us,kw⟩)).guards=A.guards:=by
 first|rfl|simp[Around.under,Code.weight,Code.isCreation,Code.isGuard,Code.isCaller,Code.frames,Code.isFrame,guardIds,Code.guards]
def d8.make{k:Nat}{A:di}(r:d8 (k+1) A)(C:ak)(us:List aq)(kw:List (Str×aq)):d8 k (A.under (.builtin "type.__call__" ⟨.ref C::us,kw⟩)):=
 ⟨r.hd,by have:=r.z5;rw[afK];omega,by have:=r.un;rw[afJ];omega,aff.trans r.mE⟩
theorem d8.depth{k:Nat}{A:di}(r:d8 k A):A.depth<recursionLimit:=by have:=r.z5;omega
theorem d8.units{k:Nat}{A:di}(r:d8 k A):A.units+64<cLine:=by have:=r.un;omega
def Jn:fU:=λ_ H Q=>Q [] H
noncomputable def ajM(cD:TE)(jC:fU):fU:=λσ H Q=>cD σ H λx H1=>jC σ H1 λxs bb=>Q (x::xs) bb
section
variable {X:bh}{e:bc}{es:List bc}{g4:TE}{t:fU}{pos:Pos}
def kZ:hZ X [] Jn:=λ_ _ _ _ H Q I h=>Calls.spliced_nil ⟨[],H,I,.nil,h⟩
def ix(ax:bW X e g4)(av:hZ X es t)(aw:bA (e::es) X.env=(false,eval e X.env)::bA es X.env:=by rfl):hZ X (e::es) (ajM g4 t):=by
 intro pos ai s σ H Q I h;rw[aw];show bK _ _ (spliced ((false,eval e X.env)::dQ pos (bA es X.env))) _ _ s;refine Calls.spliced_cons (cA (ax ai s σ H _ I h) λu s1 ⟨x,H1,bC,bg,aP⟩=>?_);exact cA (av pos ai s1 σ H1 _ bC aP) λus s2 ⟨xs,bb,ck,cf,ba⟩=>⟨x::xs,bb,ck,.cons bg cf,ba⟩
noncomputable def adA(t:fU):TE:=λσ H Q=>t σ H λxs H1=>xs.length<=cF/\∀p,H1 p=none->Q (.ref p) (upd H1 p (.tup xs))
noncomputable def adu(t:fU):TE:=λσ H Q=>t σ H λxs H1=>xs.length<=cF/\∀p,H1 p=none->Q (.ref p) (upd H1 p (.lst xs))
def ai2{aL}(h:hZ X es t):bW X (.Tuple es aL pos) (adA t):=by
 intro ai s σ H Q I bS;refine wpAny_Tuple_spliced (cA (h pos ai s σ H _ I bS) λus s1 ⟨xs,H1,bC,r,z,q⟩=>⟨by rw[<- r.length];exact z,?_⟩);have hf:H1 s1.heap.objs.size=none:=bC.b'.fresh (eh _);refine⟨.ref s1.heap.objs.size,upd H1 s1.heap.objs.size (.tup xs),bC.laid (t':=s1.toks) (λb u e=>dx _ e) (eh _) ?_,rfl,q _ hf⟩;exact⟨z,us,r,⟨_,ia _ rfl,rfl,_,rfl⟩⟩
def ai6(h:hZ X es t):bW X (.List es pos) (adu t):=by
 intro ai s σ H Q I bS;refine wpAny_List_spliced (cA (h pos ai s σ H _ I bS) λus s1 ⟨xs,H1,bC,r,z,q⟩=>⟨by rw[<- r.length];exact z,?_⟩);have hf:H1 s1.heap.objs.size=none:=bC.b'.fresh (eh _);refine⟨.ref s1.heap.objs.size,upd H1 s1.heap.objs.size (.lst xs),bC.laid (t':=s1.toks) (λb u e=>dx _ e) (eh _) ?_,rfl,q _ hf⟩;exact⟨z,us,0,r,ia _ rfl⟩
end
abbrev kI:=List V->aE->dC->gU->Prop
abbrev mv:=List Env->aE->aQ->gU->aq->aQ->Prop
structure sG(P:cQ)(w:cB)(K:bo)(mg:Str->Option aq)(base:b5)(A:di)(outer:List Env)(s:aQ)(H:aE):Prop where
 frames:A.frames=some outer
 mod:Mod K mg base
 bs:∀b o,base.get? b=some o->s.heap.get? b=some o/\H b=none
 ry:base.objs.size<=s.heap.objs.size
 nr:s.heap.FunFrames base outer
 s6:∀b∈n9 outer,H b=none
 b':fy P w H s.heap
 bare:AllBare s.gens
noncomputable def DL(outer:List Env)(P:cQ)(w:cB)(H:aE)(s:aQ)(Q:dC)(u:aq)(s':aQ):Prop:=
 ∃v aj,s'.os=s.os/\AllBare s'.gens/\h3 (n9 outer) [] H aj s.heap s'.heap/\fy P w aj s'.heap/\RelV v u/\Q v aj
noncomputable def Td(eI:mv)(outer:List Env)(P:cQ)(w:cB)(H:aE)(s:aQ)(Q:dC)(E:gU)(r:Result)(s':aQ):Prop:=
 match r with
|.ok (.ret u)=>DL outer P w H s Q u s'
|.ok _=>False
|.error e=>eI outer H s E e s'
structure fI(P:cQ)(w:cB)(K:bo)(mg:Str->Option aq)(base:b5)(eI:mv)(k:Nat)(f:ak)(fd:gq)(ps:List Str)(sp:kI):Prop where
 len:∀vs H Q E,sp vs H Q E->vs.length=ps.length
 run:∀(A:di) (outer:List Env) (s:aQ) (H:aE) (args:Args) (us:List aq) (vs:List V) (Q:dC) (E:gU),d8 k A->sG P w K mg base A outer s H->BindsTo s fd args (ps.zip us)->Vals vs us->sp vs H Q E ->
  codeAny (bZ P w) A (.call (.ref f) args) (Td eI outer P w H s Q E) s
theorem fI.mono{P:cQ}{w:cB}{K:bo}{mg:Str->Option aq}{base:b5}{eI:mv}{j k:Nat}{f:ak}{fd:gq}{ps:List Str}{sp:kI}(F:fI P w K mg base eI j f fd ps sp)(h:j<=k):
  fI P w K mg base eI k f fd ps sp:=⟨F.len,λA outer s H args us vs Q E av=>F.run A outer s H args us vs Q E (av.mono h)⟩
def fI.imp{P:cQ}{w:cB}{K:bo}{mg:Str->Option aq}{base:b5}{eI:mv}{k:Nat}{f:ak}{fd:gq}{ps:List Str}{sp OP:kI}(F:fI P w K mg base eI k f fd ps sp)
  (h:∀vs H Q E,OP vs H Q E->sp vs H Q E):fI P w K mg base eI k f fd ps OP:=
 ⟨λvs H Q E q=>F.len vs H Q E (h _ _ _ _ q),λA outer s H args us vs Q E av he ae a' aw=>F.run A outer s H args us vs Q E av he ae a' (h _ _ _ _ aw)⟩
def sG.make{P:cQ}{w:cB}{K:bo}{mg:Str->Option aq}{base:b5}{A:di}{outer:List Env}{s:aQ}{H:aE}(e:sG P w K mg base A outer s H)(C:ak)(us:List aq)(kw:List (Str×aq)):
  sG P w K mg base (A.under (.builtin "type.__call__" ⟨.ref C::us,kw⟩)) outer s H:=⟨by first|exact e.frames|(simpa [Around.under,Code.envs,Code.isFrame,pushEnvs] using e.frames),e.mod,e.bs,e.ry,e.nr,e.s6,e.b',e.bare⟩
section
variable {X:bh}{ai:List (ak×Obj)}{σ:St}{H:aE}{s s':aQ}
def Inv.Nx(I:Inv X ai σ H s):sG X.prog X.w X.K X.mg X.base X.A X.stack s H:=
 ⟨I.ok.frames,I.ok.mod,I.bs,ma I.ok.ry I.jd,I.stack,I.OS,I.b',I.bare⟩
def Inv.after{Q:dC}{u:aq}(I:Inv X ai σ H s)(h:DL X.stack X.prog X.w H s Q u s'):iD X ai σ Q u s':=by
 obtain⟨v,aj,os,bare,un,b',r,q⟩:=h;obtain⟨c6,g,d,t,abe⟩:=s';obtain rfl:abe=s.os:=os;exact⟨v,aj,I.call (h':=c6) (g':=g) (d':=d) (t':=t) (ch:=[]) un b' bare (λb z=>absurd z (by simp)),r,q⟩
end
noncomputable def ajN(sp:kI)(iO:List V)(E:gU)(t:fU):TE:=λσ H Q=>t σ H λvs H1=>sp (vs++iO) H1 Q E
noncomputable def S1(C:ak)(m:Str)(sp:kI)(iO:List V)(E:gU)(cD:TE)(t:fU):TE:=λσ H Q=>cD σ H λx H1=>∃a bF az,x=.ref a/\H1 a=some (.ins C bF az)/\az.lookup m=none /\
 t σ H1 λvs bb=>sp (x::(vs++iO)) bb Q E
noncomputable def ajI(C:ak)(sp:kI)(iO:List V)(E:gU)(t:fU):TE:=λσ H Q=>t σ H λvs H1=>∀x bF,H1 x=none->H1 bF=none->bF≠x ->
 sp (.ref x::(vs++iO)) (upd (upd H1 bF (.own x)) x (.ins C bF [])) (λv bb=>v=.gL/\Q (.ref x) bb) E
noncomputable def Binds(K:bo)(fd:gq)(ps:List Str)(ds:List aq):Prop:=
 ∀(s:aQ) (us:List aq),K.In s.heap->(us++ds).length=ps.length->BindsTo s fd ⟨us,[]⟩ (ps.zip (us++ds))
def Binds.all{K:bo}{fd:gq}{ps:List Str}(h:∀us:List aq,us.length=ps.length->bindArgs fd ⟨us,[]⟩=pure (ps.zip us)):Binds K fd ps []:=λs us _ ay=>by
 rw[mW] at ay ⊢;exact .of_eq (h us ay)
noncomputable def Passes(eI:mv)(X:bh)(E:gU):Prop:=∀(ai:List (ak×Obj)) (σ:St) (H:aE) (s:aQ) (e:aq) (s':aQ),Inv X ai σ H s->eI X.stack H s E e s'->X.d3 e s'
section
variable {X:bh}{eI:mv}{k:Nat}{f C:ak}{fd:gq}{ps:List Str}{sp:kI}{iO:List V}{ds:List aq}{E:gU}{x m:Str}{p pos apos:Pos}{e o:bc}{es:List bc}{cD:TE}{t:fU}
def LG{ai:List (ak×Obj)}{σ:St}{H:aE}{s:aQ}{Q:dC}{us:List aq}{vs:List V}(F:fI X.prog X.w X.K X.mg X.base eI k f fd ps sp)(av:d8 k X.A)(ae:Binds X.K fd ps ds)(hd:Vals iO ds)(hx:Passes eI X E)
  (I:Inv X ai σ H s) (r:Vals vs us) (h:sp (vs++iO) H Q E):bK (bZ X.prog X.w) X.A (call (.ref f) us) (iD X ai σ Q) X.d3 s:=by
 have cf:Vals (vs++iO) (us++ds):=r.append hd;have ay:(us++ds).length=ps.length:=by rw[<- cf.length];exact F.len _ _ _ _ h
 refine wpAny_call (codeAny_mono (F.run X.A X.stack s H ⟨us,[]⟩ (us++ds) (vs++iO) Q E av I.Nx (ae s us I.l1 ay) cf h) λr s' bS=>?_)
 cases r with
|error e=>exact hx ai σ H s e s' I bS
|ok n8=>
  cases n8 with
  |ret u=>exact I.after bS
  |next=>exact mV bS
  |brk=>exact mV bS
  |cont=>exact mV bS
def zm(F:fI X.prog X.w X.K X.mg X.base eI k f fd ps sp)(av:d8 k X.A)(bt:fh X x)(hm:X.mg x=some (.ref f))(aI:nE X.K (.ref f)=true)(ae:Binds X.K fd ps ds)(hd:Vals iO ds)(hx:Passes eI X E)
  (ax:hZ X (e::es) t) (iS:(x==("__debug__":Str))=false:=by decide) (he:bA (e::es) X.env=(false,eval e X.env)::bA es X.env:=by rfl) (hpl:(dQ pos (bA es X.env)).any (·.1)=false:=by rfl):
  bW X (.Call (.Name x p) (e::es) [] pos) (ajN sp iO E t):=by
 intro ai s σ H Q I h;refine ak8 (Lm I bt hm ?_ iS);refine PySem.W.callWith_K (h₀:=X.base) I.ok.mod.xP aI (cA (ax pos ai s σ H _ I h) λus s1 ⟨vs,H1,bC,r,q⟩=>⟨bC.l1,?_⟩) he hpl;exact LG F av ae hd hx bC r q
def RI{pl:Sem Bool}(he:bW X o cD)(c:nW X.K C)(hm:Meth X.K C m f)(F:fI X.prog X.w X.K X.mg X.base eI k f fd ps sp)(av:d8 k X.A)(ae:Binds X.K fd ps ds)(hd:Vals iO ds)(hx:Passes eI X E)(ax:hZ X (e::es) t)
  (mJ:bA (e::es) X.env=(false,eval e X.env)::bA es X.env:=by rfl) (hpl:(dQ pos (bA es X.env)).any (·.1)=false:=by rfl)
  (aX:eval (.Call (.Attribute o m apos) (e::es) [] pos) X.env=(do
   let dX <- eval o X.env
   standAt apos.atName
   let (f,first) <- holding [dX] (getMethod dX m pl)
   callWith pos f first (dQ pos (bA (e::es) X.env)) (mc pos (mb [] X.env))):=by rfl):
  bW X (.Call (.Attribute o m apos) (e::es) [] pos) (S1 C m sp iO E cD t):=by
 intro ai s σ H Q I h;refine PySem.W.methodCall_KW (pl:=pl) (cA (he ai s σ H _ I h) λu s1 ⟨x,H1,bC,a4,a,bF,az,ex,dR,l,q⟩=>?_) aX;subst ex;obtain rfl:u=Value.ref a:=a4;refine Qd bC dR c hm l ?_;refine PySem.W.callWith_K (first:=[.ref a]) (h₀:=X.base) I.ok.mod.xP hm.aB (cA (ax pos ai s1 σ H1 _ bC q) λus s2 ⟨vs,bb,ck,r,ba⟩=>⟨ck.l1,?_⟩) mJ hpl;exact LG (us:=.ref a::us) (vs:=.ref a::vs) F av ae hd hx ck (.cons rfl r) ba
def Q_{pl:Sem Bool}(he:bW X o cD)(c:nW X.K C)(hm:Meth X.K C m f)(F:fI X.prog X.w X.K X.mg X.base eI k f fd ps sp)(av:d8 k X.A)(ae:Binds X.K fd ps ds)(hd:Vals iO ds)(hx:Passes eI X E)
  (aX:eval (.Call (.Attribute o m apos) [] [] pos) X.env=(do
   let dX <- eval o X.env
   standAt apos.atName
   let (f,first) <- holding [dX] (getMethod dX m pl)
   callWith pos f first (dQ pos (bA [] X.env)) (mc pos (mb [] X.env))):=by rfl):
  bW X (.Call (.Attribute o m apos) [] [] pos) (S1 C m sp iO E cD Jn):=by
 intro ai s σ H Q I h;refine PySem.W.methodCall_KW (pl:=pl) (cA (he ai s σ H _ I h) λu s1 ⟨x,H1,bC,a4,a,bF,az,ex,dR,l,q⟩=>?_) aX;subst ex;obtain rfl:u=Value.ref a:=a4;refine Qd bC dR c hm l ?_;exact PySem.W.callWith_K0 (first:=[.ref a]) bC.l1 hm.aB (LG (us:=[.ref a]) (vs:=[.ref a]) F av ae hd hx bC (.cons rfl .nil) q)
structure wN(K:bo)(C f:ak):Prop where
 makes:PySem.W.makesIn K C=true
 init:nF K (.ref C) "__init__"=some (some (.ref f))
 fn:PySem.W.isFn K (.ref f)=true
 aB:nE K (.ref C)=true
def ag2{ai:List (ak×Obj)}{σ:St}{H:aE}{s:aQ}{Q:dC}{us:List aq}{vs:List V}(M:wN X.K C f)(F:fI X.prog X.w X.K X.mg X.base eI k f fd ps sp)(av:d8 (k+1) X.A)(ae:Binds X.K fd ps ds)(hd:Vals iO ds)
  (hx:Passes eI X E) (I:Inv X ai σ H s) (r:Vals vs us)
  (h:∀x bF,H x=none->H bF=none->bF≠x->sp (.ref x::(vs++iO)) (upd (upd H bF (.own x)) x (.ins C bF [])) (λv bb=>v=.gL/\Q (.ref x) bb) E):
  bK (bZ X.prog X.w) X.A (call (.ref C) us) (iD X ai σ Q) X.d3 s:=by
 have bS:=h (s.heap.objs.size+1) s.heap.objs.size (I.b'.fresh (pN _)) (I.b'.fresh (eh _)) (e2 (Nat.lt_succ_self _));have ck:=Inv.made (C:=C) I;have cf:Vals (V.ref (s.heap.objs.size+1)::(vs++iO)) (Value.ref (s.heap.objs.size+1)::(us++ds)):=.cons rfl (r.append hd);have ay:(Value.ref (s.heap.objs.size+1)::us++ds).length=ps.length:=by
  have e:=cf.length;rw[F.len _ _ _ _ bS] at e;exact e.symm
 refine wpAny_call (ahl (f:=f) I.l1 M.makes M.init (beq_iff_eq.mp M.fn) (codeAny_mono (F.run _ X.stack _ _ ⟨Value.ref (s.heap.objs.size+1)::us,[]⟩ (Value.ref (s.heap.objs.size+1)::(us++ds)) _ _ E (av.make C us [])
  (ck.Nx.make C us []) (ae _ (Value.ref (s.heap.objs.size+1)::us) ck.l1 ay) cf bS) λr s' xB=>?_))
 cases r with
|error e=>exact hx ai σ _ _ e s' ck xB
|ok n8=>
  cases n8 with
  |ret u=>
   obtain⟨v,aj,ej,b8,ev,cU⟩:=ck.after xB;subst ev;exact⟨b8,⟨V.ref (s.heap.objs.size+1),aj,ej,rfl,cU⟩⟩
  |next=>exact mV xB
  |brk=>exact mV xB
  |cont=>exact mV xB
def ah9(M:wN X.K C f)(F:fI X.prog X.w X.K X.mg X.base eI k f fd ps sp)(av:d8 (k+1) X.A)(bt:fh X x)(hm:X.mg x=some (.ref C))(ae:Binds X.K fd ps ds)(hd:Vals iO ds)(hx:Passes eI X E)
  (ax:hZ X (e::es) t) (iS:(x==("__debug__":Str))=false:=by decide) (he:bA (e::es) X.env=(false,eval e X.env)::bA es X.env:=by rfl) (hpl:(dQ pos (bA es X.env)).any (·.1)=false:=by rfl):
  bW X (.Call (.Name x p) (e::es) [] pos) (ajI C sp iO E t):=by
 intro ai s σ H Q I h;refine ak8 (Lm I bt hm ?_ iS);refine PySem.W.callWith_K (h₀:=X.base) I.ok.mod.xP M.aB (cA (ax pos ai s σ H _ I h) λus s1 ⟨vs,H1,bC,r,q⟩=>⟨bC.l1,?_⟩) he hpl;exact ag2 M F av ae hd hx bC r q
end
noncomputable def UO(X:bh)(Oa:List Keyword)(t:fU):Prop:=
 ∀(pos:Pos) (ai:List (ak×Obj)) (s:aQ) (σ:St) (H:aE) (Q:List V->aE->Prop),Inv X ai σ H s->t σ H Q->bK (bZ X.prog X.w) X.A (evalAll ((mc pos (mb Oa X.env)).map (·.2))) (L4 X ai σ Q) X.d3 s
section
variable {X:bh}{eI:mv}{k:Nat}{f C:ak}{fd:gq}{ps bf:List Str}{sp:kI}{E:gU}{x m:Str}{p pos apos akH:Pos}{e o:bc}{es:List bc}{Oa:List Keyword}{g4 cD:TE}{t tk:fU}{nm:Option Str}
def Ss:UO X [] Jn:=λ_ _ _ _ H Q I h=>wpAny_evalAll_nil ⟨[],H,I,.nil,h⟩
variable {g:List aq->List aq->List aq}{gV:List V->List V->List V}
end
structure dg(N P:List Str)(sc:Scope):Prop where
 kind:sc.kind=.function
 co:sc.isCoroutine=false
 gen:sc.isGenerator=false
 aW:N.Nodup
 pre:N.take P.length=P
 par:∀x∈P,sc.names.lookup x=some .local\/sc.names.lookup x=some .cell
 _e:∀y∈sc.names,y.2≠.free
theorem QO{kindOf:Str->Option m1}{x:Str}:∀{binds:List (Str×aq)} {m:Str->Option aq},(∀v,(x,v)∉binds)->bindL kindOf binds m x=m x
  | [],_,_=>rfl
  | (n,v)::r,m,h=>by
    unfold bindL;rw[QO λw hw=>h w (dT _ hw)];split
    · have:x≠n:=by rintro rfl;exact h v e9
      simp[this]
    · rfl
theorem QQ{kindOf:Str->Option m1}{x:Str}:∀{binds:List (Str×aq)} {m:Str->Option aq},(∀v,(x,v)∉binds)->bindC kindOf binds m x=m x
  | [],_,_=>rfl
  | (n,v)::r,m,h=>by
    unfold bindC;rw[QQ λw hw=>h w (dT _ hw)];split
    · rfl
    · have:x≠n:=by rintro rfl;exact h v e9
      simp[this]
theorem QP{kindOf:Str->Option m1}{x:Str}{v:aq}:∀{P:List Str} {vs:List aq} {i:Nat} {m:Str->Option aq},P.Nodup->P[i]?=some x->vs[i]?=some v->kindOf x=some .local ->
  bindL kindOf (P.zip vs) m x=some v
| [],_,_,_,_,h,_,_=>by simp at h
|_::_,[],_,_,_,_,h,_=>by simp at h
|p::P,w::vs,0,m,aW,ah,ao,aI=>by
  simp at ah ao;subst ah;subst ao;show bindL kindOf ((p,w)::P.zip vs) m p=_;unfold bindL;rw[QO λv a'=>(d0.mp aW).1 (List.of_mem_zip a').1,if_pos aI];simp
|p::P,w::vs,i+1,m,aW,ah,ao,aI=>by
  show bindL kindOf ((p,w)::P.zip vs) m x=_
  unfold bindL;exact QP (i:=i) (d0.mp aW).2 (by simpa using ah) (by simpa using ao) aI
theorem QR{kindOf:Str->Option m1}{x:Str}{v:aq}:∀{P:List Str} {vs:List aq} {i:Nat} {m:Str->Option aq},P.Nodup->P[i]?=some x->vs[i]?=some v->kindOf x≠some .local ->
  bindC kindOf (P.zip vs) m x=some v
| [],_,_,_,_,h,_,_=>by simp at h
|_::_,[],_,_,_,_,h,_=>by simp at h
|p::P,w::vs,0,m,aW,ah,ao,aI=>by
  simp at ah ao;subst ah;subst ao;show bindC kindOf ((p,w)::P.zip vs) m p=_;unfold bindC;rw[QQ λv a'=>(d0.mp aW).1 (List.of_mem_zip a').1,if_neg aI];simp
|p::P,w::vs,i+1,m,aW,ah,ao,aI=>by
  show bindC kindOf ((p,w)::P.zip vs) m x=_
  unfold bindC;exact QR (i:=i) (d0.mp aW).2 (by simpa using ah) (by simpa using ao) aI
noncomputable def start(N:List Str)(vs:List V):St:=vs.map some++dZ (N.length - vs.length) none
noncomputable def jU(eI:mv)(P:cQ)(w:cB)(K:bo)(mg:Str->Option aq)(base:b5)(N:List Str)(qual:Str)(scope:Scope)(f:ak)(cd:aq)(A:di)(outer:List Env)(s:aQ)(H:aE)(E:gU):bh where
 prog:=P
 w:=w
 K:=K
 mg:=mg
 base:=base
 A:=A.deeper (envOfC qual scope s.heap.objs.size f cd)
 N:=N
 de:=s
 aN:=H
 env:=envOfC qual scope s.heap.objs.size f cd
 outer:=outer
 stack:=envOfC qual scope s.heap.objs.size f cd::outer
 ex:=[]
 calm:=true
 fn:=λ_=>true
 dw:=[]
 d3:=λe s'=>bK (bZ P w) (A.deeper (envOfC qual scope s.heap.objs.size f cd)) (leaving (envOfC qual scope s.heap.objs.size f cd) e) (λ_ Jf=>eI outer H s E e Jf) (λb1 Jf=>eI outer H s E b1 Jf) s'
def Rn{sc:Scope}{n:Nat}{x:Str}(h:sc.names.lookup x=some .cell):∃c,(cellsFrom n sc.names []).lookup x=some c:=by
 have q:=PySem.W.cellsFrom_some sc.names n [] (.inl h);exact Option.isSome_iff_exists.mp q
def agD{eI:mv}{P:cQ}{w:cB}{K:bo}{mg:Str->Option aq}{base:b5}{N ps:List Str}{qual:Str}{scope:Scope}{f:ak}{cd:aq}{A:di}{outer:List Env}{s s1:aQ}{H:aE}{E:gU}{us:List aq}{vs:List V}
  (S:dg N ps scope) (hd:A.handled=none) (eC:sG P w K mg base A outer s H) (ay:vs.length=ps.length) (r:Vals vs us)
  (x:InCallC s s.heap.objs.size (bindL (envOfC qual scope s.heap.objs.size f cd).kindOf (ps.zip us) λ_=>none) (cellsFrom (s.heap.objs.size+1) scope.names []) (bindC (envOfC qual scope s.heap.objs.size f cd).kindOf (ps.zip us) λ_=>none) s1):
  Inv (jU eI P w K mg base N qual scope f cd A outer s H E) [] (start N vs) H s1:=by
 have hpl:ps.length<=N.length:=by have:=congrArg List.length S.pre;rw[List.length_take] at this;omega
 obtain⟨ah,tk,rfl,aI⟩:=x.done;have xZ:∀b:ak,b∉(jU eI P w K mg base N qual scope f cd A outer s H E).ex:=λb z=>absurd (show b∈([]:List ak) from z) (by simp);refine⟨⟨eC.mod,S.kind,rfl,rfl,eh _,λy z c ah ao=>?_,λy bN=>?_,λy c _ h=>?_,λ_=>hd,Around.frames_deeper eC.frames,.inr ⟨rfl,rfl⟩,λb z=>absurd z (xZ b),eC.bs,eC.ry,λb _ _=>xZ b,λb z=>absurd z (xZ b),eC.nr,eC.s6⟩,
  rfl,eC.bare,h3.kept aI,⟨_,x.toInCall.ns,λi y v ah ao bG=>?_⟩,λy c h=>⟨_,x.cell y c h⟩,eC.b'.fresh (eh _),λy c h=>?_,λp aC=>absurd (show p∈([]:List (ak×Obj)) from aC) (by simp),eC.b'.kept aI,?_⟩
 ·exact name_of_addr x.apart (yq ah) (yq ao)
 ·have bN:scope.names.lookup y=some .cell\/scope.names.lookup y=some .free:=bN;rcases bN with bN|bN
  ·exact Rn bN
  ·exact absurd rfl (S._e _ (yq bN))
 ·exact Nat.le_of_lt (x.above y c (yq h))
 ·have aU:i<vs.length:=by
   unfold start at ao;by_cases aU:i<vs.length
   ·exact aU
   ·rw[vl (by simpa using aU)] at ao;rw[List.getElem?_replicate] at ao;split at ao <;> cases ao
  have ax:vs[i]?=some v:=by
   unfold start at ao;rw[vm (by simpa using aU),hK] at ao;cases e:vs[i]? with
   |none=>rw[e] at ao;cases ao
   |some a=>rw[e] at ao;cases ao;rfl
  obtain⟨u,bp,b8⟩:=r.get ax;have aC:ps[i]?=some y:=by
   rw[<- S.pre,List.getElem?_take_of_lt (by omega)];exact ah
  have Oj:ps.Nodup:=by rw[<- S.pre];exact S.aW.sublist (List.take_sublist _ _)
  refine⟨u,b8,?_⟩
  rcases S.par y (ky aC) with k|k
  ·exact .inl ⟨k,QP Oj aC bp k⟩
  ·obtain⟨c,e⟩:=Rn (n:=s.heap.objs.size+1) k;refine .inr ⟨.inl k,c,e,?_⟩;have q:=x.cell y c e;rw[QR Oj aC bp (by show scope.names.lookup y≠_;rw[k];decide)] at q;exact q
 ·exact eC.b'.fresh (Nat.le_of_lt (x.above y c (yq h)))
 ·unfold start;show _=N.length;rw[qV,g6,List.length_replicate];omega
def ake{eI:mv}{P:cQ}{w:cB}{K:bo}{mg:Str->Option aq}{base:b5}{k:Nat}{f:ak}{name qual:Str}{params:Arguments}{body:List Stmt}{scope:Scope}{z3 ek doc pm c0 fj kn:aq}{an f':Option ak}
  {rR:Array (Option aq)} {N ps:List Str} {sp:kI} (lk:K.lookup f=some ⟨kn,f',.func (rZ name qual params body scope z3 ek doc pm an c0 fj),rR⟩) (ki:PySem.W.codeIn K c0 qual=true) (S:dg N ps scope)
  (len:∀vs H Q E,sp vs H Q E->vs.length=ps.length)
  (Gg:∀(A:di) (outer:List Env) (s:aQ) (H:aE) (vs:List V) (Q:dC) (E:gU),d8 k (A.deeper (envOfC qual scope s.heap.objs.size f c0))->sp vs H Q E ->
   ∃t,k7 (jU eI P w K mg base N qual scope f c0 A outer s H E) body t/\t {bY:=λ_ aj=>Q .gL aj,e1:=Q} (start N vs) H):
  fI P w K mg base eI (k+1) f (rZ name qual params body scope z3 ek doc pm an c0 fj) ps sp:=by
 refine⟨len,λA outer s H args us vs Q E av eC ae r rI=>?_⟩
 have ay:=len _ _ _ _ rI;have o2:K.In s.heap:=eC.mod.xP.keeps λb o e=>(eC.bs b o e).1;have lim:s.heap.NoLimit:=eC.mod.nolimit.keeps λb o e=>(eC.bs b o e).1;have Yx:∀y∈ps.zip us,scope.names.lookup y.1=some .local\/(scope.names.lookup y.1=some .cell/\((cellsFrom (s.heap.objs.size+1) scope.names []).lookup y.1).isSome=true):=λ⟨n,v⟩ bN=>by
  rcases S.par n (List.of_mem_zip bN).1 with q|q
  ·exact .inl q
  ·exact .inr ⟨q,PySem.W.cellsFrom_some _ _ _ (.inl q)⟩
 refine codeAny_call_function av.depth (o2 _ _ lk) rfl S.co S.gen rfl (PySem.W.codeRec_of o2 ki) (ae _ _ _ _ ?_)
 refine wpAny_newFunctionEnv_cells S.kind Yx λenv he s1 x=>?_
 subst he;refine⟨lim.keeps x.toInCall.keep,codeAny_func ?_⟩;obtain⟨t,aX,bS⟩:=Gg A outer s H vs Q E (av.deeper _) rI;have I:Inv (jU eI P w K mg base N qual scope f c0 A outer s H E) [] (start N vs) H s1:=agD S av.hd eC ay r x;refine gB (aX [] s1 (start N vs) H _ I bS) (λn8 s' aw=>?_) λe s' aw=>aw;have fin:∀{cq:St} {aj:aE} {v:V} {u:aq},Inv (jU eI P w K mg base N qual scope f c0 A outer s H E) [] cq aj s'->RelV v u->Q v aj->DL outer P w H s Q u s':=
  λ{cq aj v u} J b8 q=>⟨v,aj,J.os,J.bare,J.base,J.b',b8,q⟩
 cases n8 with
|ret u=>
  obtain⟨v,cq,aj,J,b8,q⟩:=aw;exact fin J b8 q
|next=>
  obtain⟨cq,aj,J,q⟩:=aw;exact fin (v:=V.gL) (u:=Value.none) J rfl q
|brk=>
  obtain⟨_,_,_,q⟩:=aw;exact mV q
|cont=>
  obtain⟨_,_,_,q⟩:=aw;exact mV q
end bw
namespace bw
open PySem PySem.Spec PyProof.Rows
section
variable {X:bh}{x:Str}{p pos:Pos}{e:bc}{es:List bc}{t:fU}{id T:String}{r:List V->aE->dC->Prop}
noncomputable def Jl(r:List V->aE->dC->Prop)(t:fU):TE:=λσ H Q=>t σ H λvs H1=>r vs H1 Q
def y'(aG:mu X (.builtin id) r)(bt:fh X x)(hm:X.mg x=none)(a':bootBuiltins x=some (.builtin id))(ax:hZ X (e::es) t)(a8:x≠"__name__":=by decide)(iS:(x==("__debug__":Str))=false:=by decide)
  (he:bA (e::es) X.env=(false,eval e X.env)::bA es X.env:=by rfl) (hpl:(dQ pos (bA es X.env)).any (·.1)=false:=by rfl):bW X (.Call (.Name x p) (e::es) [] pos) (Jl r t):=by
 intro ai s σ H Q I h;refine ak8 (sq I bt hm a' ?_ a8 iS);exact PyProof.Rows.callWith_builtin1 (cA (ax pos ai s σ H _ I h) λus s1 ⟨vs,H1,bC,bg,aP⟩=>aG ai s1 σ H1 vs us Q bC bg aP) he hpl
def Kw(aG:mu X (.type T) r)(bt:fh X x)(hm:X.mg x=none)(a':bootBuiltins x=some (.type T))(ax:hZ X (e::es) t)(a8:x≠"__name__":=by decide)(iS:(x==("__debug__":Str))=false:=by decide)
  (he:bA (e::es) X.env=(false,eval e X.env)::bA es X.env:=by rfl) (hpl:(dQ pos (bA es X.env)).any (·.1)=false:=by rfl):bW X (.Call (.Name x p) (e::es) [] pos) (Jl r t):=by
 intro ai s σ H Q I h;refine ak8 (sq I bt hm a' ?_ a8 iS);exact tT (cA (ax pos ai s σ H _ I h) λus s1 ⟨vs,H1,bC,bg,aP⟩=>aG ai s1 σ H1 vs us Q bC bg aP) he hpl
end
end bw
namespace fR
open PySem PyProof.Rows
section
variable {prog:cQ}{w:cB}{A:di}{E:aq->aQ->Prop}{s:aQ}
def VV{t b:ak}{vs ws:List aq}{Q:aq->aQ->Prop}(aX:IsTup s.heap t vs.toArray)(ae:IsTup s.heap b ws.toArray)(a':vs≠[])
  (ah:ws=[]->Q (.ref t) s) (ao:ws≠[]->Q (.ref s.heap.objs.size) {s with heap:=s.heap.push {cls:=.type "tuple",data:=.seq (vs++ws).toArray} })
  (hsz:vs.length+ws.length<=cF):bK (bZ prog w) A (mZ .Add (.ref t) (.ref b)) Q E s:=by
 obtain⟨⟨cls,dU,data,dr⟩,aH,aG,n,hd⟩:=id aX;obtain⟨⟨Fx,nh,data2,l8⟩,tj,xn,gJ,hd2⟩:=id ae;simp only at aG hd xn hd2;subst aG hd xn hd2;have e:vs.toArray++ws.toArray=(vs++ws).toArray:=by simp
 by_cases hw:ws=[]
 ·exact concat_meets ⟨_,aH,rfl⟩ ⟨_,tj,rfl⟩ noFill_tuple_add seq_tuple_add PySem.F.slot_tuple_add PySem.F.entry_tuple_add (PySem.F.args_tuple_add_2 _ _)
   (tuple_addW1 t b vs.toArray ws.toArray n gJ dU nh dr l8 (by simpa using a') (by simp[hw])) ⟨aH,tj,ah hw⟩
 ·refine concat_meets ⟨_,aH,rfl⟩ ⟨_,tj,rfl⟩ noFill_tuple_add seq_tuple_add PySem.F.slot_tuple_add PySem.F.entry_tuple_add (PySem.F.args_tuple_add_2 _ _)
   (tuple_addW2 t b vs.toArray ws.toArray n gJ dU nh dr l8 (by simpa using a') (by simpa using hw) (by rw[eb,eb];exact hsz)) ⟨aH,tj,?_⟩
  rw[e];exact ao hw
noncomputable def dc(n d:Nat):Option Int->Nat
|none=>d
|some v=>if v<0 then (v+(n:Int)).toNat else min v.toNat n
def Sk(n d:Nat)(hd:d<=n)(o:Option Int):dc n d o<=n:=by
 cases o with
|none=>exact hd
|some v=>
  show (if v<0 then (v+(n:Int)).toNat else min v.toNat n)<=n
  by_cases a':v<0
  ·rw[if_pos a'];omega
  ·rw[if_neg a'];exact Nat.min_le_right _ _
def RY(v:Int)(n d:Nat):(if v<0 then max (v+(n:Int)) 0 else min v (n:Int))=((dc n d (some v):Nat):Int):=by
 show (if v<0 then max (v+(n:Int)) 0 else min v (n:Int))=(((if v<0 then (v+(n:Int)).toNat else min v.toNat n):Nat):Int)
 by_cases a':v<0
 ·simp only[if_pos a'];omega
 ·simp only[if_neg a'];omega
def af1(lo aU:Option Int)(n:Nat):Builtin.Slice.sliceAdjust lo aU 1 (n:Int)=(((dc n 0 lo:Nat):Int),((dc n n aU:Nat):Int)):=by
 have ah:¬((1:Int)<0):=by omega
 unfold Builtin.Slice.sliceAdjust;simp only[ah,if_false];refine Prod.ext ?_ ?_
 ·cases lo with
  |none=>rfl
  |some v=>exact RY v n 0
 ·cases aU with
  |none=>rfl
  |some v=>exact RY v n n
def afD(i j:Nat):BO (i:Int) (j:Int) 1=j - i:=by
 unfold BO;have ah:(1:Int) > 0:=by omega
 simp only[ah,if_true,Int.ediv_one];split <;> omega
def PX{v:aq}{o:Option Int}{Q:Option Int->aQ->Prop}(p:IsPart v o)(h:Q o s):bK (bZ prog w) A (Builtin.Slice.slicePartIndex v) Q E s:=by
 cases p with
|none=>exact slicePart_none h
|int i t=>exact slicePart_int h
def OO{dr:ak}{h_ fD:aq}{lo aU:Option Int}{n:Nat}{Q:Int×Int×Nat->aQ->Prop}(aw:s.heap.IsSliceOf dr h_ fD .none)(pl:IsPart h_ lo)(pu:IsPart fD aU)
  (h:Q (((dc n 0 lo:Nat):Int),1,dc n n aU - dc n 0 lo) s):bK (bZ prog w) A (Builtin.Slice.sliceApplied (.ref dr) (pure (n:Int))) Q E s:=by
 obtain⟨os,qy,AE,xq⟩:=id aw;unfold Builtin.Slice.sliceApplied Builtin.Slice.sliceFields;refine a6 (a6 (iv qy xq (x:=h_) rfl (a6 (iv qy xq (x:=fD) rfl (a6 (iv qy xq (x:=.none) rfl (cK ?_)))))));refine a6 (slicePart_none ?_);show bK _ _ (if ((1:Int)==0)=true then _ else _) _ _ s;rw[if_neg (by decide)];refine a6 (PX pl (a6 (PX pu (a6 (cK ?_)))));show bK _ _ (match Builtin.Slice.sliceAdjust lo aU 1 (n:Int) with|(lo,aU)=>pure (lo,(1:Int),BO lo aU 1)) _ _ s;rw[af1 lo aU n];show bK _ _ (pure (((dc n 0 lo:Nat):Int),(1:Int),BO ((dc n 0 lo:Nat):Int) ((dc n n aU:Nat):Int) 1)) _ _ s;rw[afD];exact cK h
def ag9(xs:Array aq)(i k:Nat):((List.range k).filterMap λ(m:Nat)=>xs[((i:Int)+(m:Int)*1).toNat]?).toArray=((xs.toList.drop i).take k).toArray:=by
 have e:(λ(m:Nat)=>xs[((i:Int)+(m:Int)*1).toNat]?)=λm=>xs[i+m]?:=by
  funext m;have:((i:Int)+(m:Int)*1).toNat=i+m:=by omega
  rw[this]
 rw[e];have:=pick_run xs i k;rw[List.filterMap_map] at this;have a7:((λx=>xs[x]?) ∘ λx=>i+x)=λm=>xs[i+m]?:=rfl;rw[a7] at this;rw[this]
def XT{t dr:ak}{items:Array aq}{h_ fD:aq}{lo aU:Option Int}{Q:aq->aQ->Prop}(aX:IsTup s.heap t items)(aw:s.heap.IsSliceOf dr h_ fD .none)(pl:IsPart h_ lo)(pu:IsPart fD aU)
  (hw:¬(dc items.size 0 lo=0/\dc items.size items.size aU=items.size))
  (h:Q (.ref s.heap.objs.size) {s with heap:=s.heap.push {cls:=.type "tuple",data:=.seq ((items.toList.drop (dc items.size 0 lo)).take (dc items.size items.size aU - dc items.size 0 lo)).toArray} })
  (hsz:items.size<=cF):bK (bZ prog w) A (getItem (.ref t) (.ref dr)) Q E s:=by
 have AL:sizeOk (.seq ((items.toList.drop (dc items.size 0 lo)).take (dc items.size items.size aU - dc items.size 0 lo)).toArray):=by
  show ((items.toList.drop (dc items.size 0 lo)).take (dc items.size items.size aU - dc items.size 0 lo)).toArray.size<=cF
  rw[eb,List.length_take,List.length_drop,r2];omega
 have bD:dc items.size items.size aU<=items.size:=Sk _ _ (eh _) aU;obtain⟨os,qy,AE,xq⟩:=id aw;have Ga:s.TypeIs (.ref dr) "slice":=⟨os,qy,AE⟩;unfold getItem
 try with_reducible refine mY ?_
 first|refine a6 (cK ?_)|skip
 refine a6 (wpAny_sequenceKey aX.typeIs (by decide) ?_)
 refine a6 (oJ (name:=Str.ofString "__getitem__") aX.typeIs BN
  (nK BN aX.typeIs entry_tuple_getitem ?_ (args_tuple_getitem _ _)))
 show bK _ _ (Builtin.Tuple.tupleItemsOf (.ref t) >>= _) _ _ s
 refine a6 (tupleItemsOf_ aX ?_)
 refine a6 (wpAny_typeOf Ga ?_)
 rw[if_pos (by decide)];refine a6 (OO aw pl pu ?_);have u4:¬((((dc items.size 0 lo:Nat):Int)==0 && (1:Int)==1 && (dc items.size items.size aU - dc items.size 0 lo)==items.size)=true):=by
  intro q;rw[iu,iu] at q;have aP:((dc items.size 0 lo:Nat):Int)=0:=eq_of_beq q.1.1;have ba:dc items.size items.size aU - dc items.size 0 lo=items.size:=eq_of_beq q.2;exact hw ⟨by omega,by omega⟩
 show bK _ _ (if (((dc items.size 0 lo:Nat):Int)==0 && (1:Int)==1 && (dc items.size items.size aU - dc items.size 0 lo)==items.size)=true then _ else _) _ _ s
 rw[if_neg u4,ag9]
 first
  |exact a6 (m:=tS _) (qY (cK ⟨_,rfl,cK h⟩) AL)
  |exact a6 (m:=tS _) (qY (a6 (cK (cK ⟨_,rfl,cK h⟩))) AL)
  |exact a6 (a6 (m:=tS _) (qY (cK (cK ⟨_,rfl,cK h⟩)) AL))
  |exact a6 (a6 (m:=tS _) (qY (cK ⟨_,rfl,cK h⟩) AL))
end
end fR
namespace bw
open PySem PySem.Spec PyProof.Rows
abbrev b0:=St->aE->(Option Int->aE->Prop)->Prop
noncomputable def o6(X:bh)(e:Option bc)(t:b0):Prop:=
 ∀(ai:List (ak×Obj)) (s:aQ) (σ:St) (H:aE) (Q:Option Int->aE->Prop),Inv X ai σ H s->t σ H Q ->
  bK (bZ X.prog X.w) X.A (evalPart e X.env) (λu s'=>∃o aj,Inv X ai σ aj s'/\IsPart u o/\Q o aj) X.d3 s
noncomputable def ahH:b0:=λ_ H Q=>Q none H
noncomputable def ajF(t:TE):b0:=λσ H Q=>t σ H λx H1=>∃i,x=.int i/\Q (some i) H1
section
variable {X:bh}{e:bc}{g4:TE}{lo aU:Option bc}{j1 BH:b0}{pos e0:Pos}
def ah2:o6 X none ahH:=by
 intro ai s σ H Q I h;rw[evalPart_none];exact cK ⟨none,H,I,.none,h⟩
def ah1(h:bW X e g4):o6 X (some e) (ajF g4):=by
 intro ai s σ H Q I hw;rw[evalPart_some];refine cA (h ai s σ H _ I hw) λu s1 ⟨x,H1,bC,bg,aP⟩=>?_;obtain⟨i,rfl,q⟩:=aP;obtain⟨t,rfl⟩:=bg;exact⟨some i,H1,bC,.int i t,q⟩
noncomputable def rq(X:bh)(r:V->Option Int->Option Int->aE->dC->Prop):Prop:=
 ∀(ai:List (ak×Obj)) (s:aQ) (σ:St) (H:aE) (x:V) (v h_ fD:aq) (lo aU:Option Int) (dr:ak) (Q:dC),Inv X ai σ H s->RelV x v->s.heap.IsSliceOf dr h_ fD .none->IsPart h_ lo->IsPart fD aU->r x lo aU H Q ->
  ∃T id,typeLookup (.type T) "__getitem__"=pure (some (.builtin id))/\s.TypeIs v T/\bK (bZ X.prog X.w) X.A (getItem v (.ref dr)) (iD X ai σ Q) X.d3 s
def rq.or{r cE:V->Option Int->Option Int->aE->dC->Prop}(h:rq X r)(h':rq X cE):rq X (λx lo aU H Q=>r x lo aU H Q\/cE x lo aU H Q):=by
 intro ai s σ H x v h_ fD lo aU dr Q I a4 aw pl pu q;rcases q with q|q
 ·exact h ai s σ H x v h_ fD lo aU dr Q I a4 aw pl pu q
 ·exact h' ai s σ H x v h_ fD lo aU dr Q I a4 aw pl pu q
noncomputable def adz(r:V->Option Int->Option Int->aE->dC->Prop)(g4:TE)(j1 BH:b0):TE:=λσ H Q=>g4 σ H λx H1=>j1 σ H1 λl bb=>BH σ bb λu dj=>r x l u dj Q
def ag'{r:V->Option Int->Option Int->aE->dC->Prop}(av:rq X r)(he:bW X e g4)(ay:o6 X lo j1)(bp:o6 X aU BH):bW X (.Subscript e (.Slice lo aU none e0) pos) (adz r g4 j1 BH):=by
 intro ai s σ H Q I h;refine Subscript_ (cA (he ai s σ H _ I h) λv s1 ⟨x,H1,bC,bg,aP⟩=>?_);refine wpAny_Slice (cA (ay ai s1 σ H1 _ bC aP) λh_ s2 ⟨l,bb,ck,pl,ba⟩=>cA (bp ai s2 σ bb _ ck ba) λfD s3 ⟨u,dj,ej,pu,cU⟩=>?_);rw[evalPart_none];refine cK ?_;have iE:Inv X ai σ dj {s3 with heap:=s3.heap.push {cls:=.type "slice",data:=.fields #[h_,fD,.none]} }:=ej.kept (t':=s3.toks) λb d_ q=>dx _ q;obtain⟨T,id,eD,aX,bt⟩:=av ai {s3 with heap:=s3.heap.push {cls:=.type "slice",data:=.fields #[h_,fD,.none]} } σ dj x v h_ fD l u s3.heap.objs.size Q iE bg (Heap.IsSliceOf.new ..) pl pu cU;show bK (bZ X.prog X.w) X.A (subscriptTail e (.Slice lo aU none e0) v (.ref s3.heap.objs.size)) (iD X ai σ Q) X.d3 {s3 with heap:=s3.heap.push {cls:=.type "slice",data:=.fields #[h_,fD,.none]} };exact tail_any (ops:=[.ref s3.heap.objs.size,v]) aX eD bt (by with_unfolding_all rfl)
noncomputable def n4(xs:List V)(lo aU:Option Int):List V:=(xs.drop (fR.dc xs.length 0 lo)).take (fR.dc xs.length xs.length aU - fR.dc xs.length 0 lo)
def PU(xs:List V)(lo aU:Option Int):(n4 xs lo aU).length<=xs.length:=by
 unfold n4;rw[List.length_take,List.length_drop];omega
noncomputable def ab_(K:bo):V->Option Int->Option Int->aE->dC->Prop:=λx lo aU H Q=>∃a xs,x=.ref a/\c7 K H a xs /\
 ¬(fR.dc xs.length 0 lo=0/\fR.dc xs.length xs.length aU=xs.length)/\∀p,H p=none->Q (.ref p) (upd H p (.tup (n4 xs lo aU)))
def aiJ:rq X (ab_ X.K):=by
 intro ai s σ H x v h_ fD lo aU dr Q I a4 aw pl pu h;obtain⟨a,xs,rfl,hx,hw,q⟩:=h;cases a4;obtain⟨its,r,aX,ar⟩:=I.tuple hx;have hlen:its.toArray.size=xs.length:=by rw[eb];exact r.length.symm
 refine⟨"tuple",_,PyProof.Rows.slot_tuple_getitem.lookup,aX.typeIs,?_⟩
 refine fR.XT aX aw pl pu (by rw[hlen];exact hw) ?_ (by rw[hlen];exact ar)
 rw[hlen];refine⟨.ref s.heap.objs.size,_,I.laid (t':=s.toks) (o:=.tup (n4 xs lo aU)) (λb d_ q=>dx _ q) (eh _) ?_,rfl,q _ (I.b'.fresh (eh _))⟩;exact⟨ma (PU xs lo aU) ar,_,(r.drop (fR.dc xs.length 0 lo)).take (fR.dc xs.length xs.length aU - fR.dc xs.length 0 lo),IsTup.new _ _⟩
noncomputable def ajW(K:bo):hP:=λx y H Q=>∃a b xs ys,x=.ref a/\y=.ref b/\c7 K H a xs/\c7 K H b ys/\xs≠[]/\xs.length+ys.length<=cF /\
 (ys=[]->Q (.ref a) H)/\(ys≠[]->∀p,H p=none->Q (.ref p) (upd H p (.tup (xs++ys))))
def Vals.Bl{xs:List V}{us:List aq}(r:Vals xs us):us=[] <-> xs=[]:=by
 cases r with
|nil=>simp
|cons _ _=>simp
def aib:fz X (mZ .Add) (ajW X.K):=by
 intro ai s σ H x y v u Q I a4 bM h;obtain⟨a,b,xs,ys,rfl,rfl,ax,ae,hx,ar,aP,ba⟩:=h;cases a4;cases bM;obtain⟨its,bg,oy,_⟩:=I.tuple ax;obtain⟨fA,cf,e0,_⟩:=I.tuple ae;refine fR.VV oy e0 (λz=>hx (bg.Bl.mp z)) (λz=>⟨.ref a,H,I,rfl,aP (cf.Bl.mp z)⟩) (λz=>?_) (by rw[<- bg.length,<- cf.length];exact ar);refine⟨.ref s.heap.objs.size,_,I.laid (t':=s.toks) (o:=.tup (xs++ys)) (λb d_ q=>dx _ q) (eh _) ?_,rfl,ba (λw=>z (cf.Bl.mpr w)) _ (I.b'.fresh (eh _))⟩;exact⟨by rw[qV];exact ar,_,bg.append cf,IsTup.new _ _⟩
end
end bw
namespace bw
open PySem PySem.Spec PyProof.Rows
noncomputable def pq(n:Nat)(i:Int):Option Nat:=if 0<=i then (if i<n then some i.toNat else none) else if -(n:Int)<=i then some (i+n).toNat else none
noncomputable def wZ{α:Type}(xs:List α)(i:Int):Option α:=(pq xs.length i).bind λj=>xs[j]?
def RU{n:Nat}{i:Int}{j:Nat}(h:pq n i=some j):seqIndex? i n=some j/\j<n/\-(n:Int)<=i/\i<n:=by
 unfold pq at h;by_cases h0:0<=i
 ·rw[if_pos h0] at h;by_cases ah:i<n
  ·rw[if_pos ah] at h;have e:i.toNat=j:=e3 h;exact⟨by rw[seqIndex_of h0 ah,e],by omega,by omega,ah⟩
  ·rw[if_neg ah] at h;cases h
 ·rw[if_neg h0] at h;by_cases ah:-(n:Int)<=i
  ·rw[if_pos ah] at h;have e:(i+n).toNat=j:=e3 h;exact⟨by rw[seqIndex_neg (by omega) ah,e],by omega,ah,by omega⟩
  ·rw[if_neg ah] at h;cases h
def Lz{α:Type}{xs:List α}{i:Int}{v:α}(h:wZ xs i=some v):∃j,seqIndex? i xs.length=some j/\xs[j]?=some v/\j<xs.length/\-(xs.length:Int)<=i/\i<xs.length:=by
 unfold wZ at h;cases e:pq xs.length i with
|none=>rw[e] at h;cases h
|some j=>
  rw[e] at h;obtain⟨ah,ao,bG,cT⟩:=RU e;exact⟨j,ah,h,ao,bG,cT⟩
noncomputable def R4(b:bc):Prop:=∀o i,subscripted b false o i=operate [o,i] (getItem o i)
noncomputable def qg(X:bh)(r:hP):Prop:=
 ∀(value slice:bc) (ai:List (ak×Obj)) (s:aQ) (σ:St) (H:aE) (x y:V) (v u:aq) (Q:dC),Inv X ai σ H s->RelV x v->RelV y u->r x y H Q ->
  subscripted slice false v u=operate [v,u] (getItem v u)->bK (bZ X.prog X.w) X.A (subscriptTail value slice v u) (iD X ai σ Q) X.d3 s
noncomputable def DX(X:bh)(id:String)(r:V->List V->aE->dC->Prop):Prop:=
 ∀(ai:List (ak×Obj)) (s:aQ) (σ:St) (H:aE) (x:V) (xs:List V) (v:aq) (us:List aq) (Q:dC),Inv X ai σ H s->RelV x v->Vals xs us->r x xs H Q ->
  bK (bZ X.prog X.w) X.A (call (.builtin id) (v::us)) (iD X ai σ Q) X.d3 s
section
variable {X:bh}{a b:bc}{cD fC:TE}{pos:Pos}
def qg.or{r cE:hP}(h:qg X r)(h':qg X cE):qg X (λx y H Q=>r x y H Q\/cE x y H Q):=by
 intro value slice ai s σ H x y v u Q I a4 bM q aw;rcases q with q|q
 ·exact h value slice ai s σ H x y v u Q I a4 bM q aw
 ·exact h' value slice ai s σ H x y v u Q I a4 bM q aw
def aj8{r:hP}(av:qg X r)(ax:bW X a cD)(ae:bW X b fC)(aw:R4 b):bW X (.Subscript a b pos) (yg r cD fC):=by
 intro ai s σ H Q I h;exact Subscript_ (EJ ax ae I h λv u s2 x y bb ck a4 bM q=>av a b ai s2 σ bb x y v u Q ck a4 bM q (aw _ _))
noncomputable def OF(K:bo):hP:=λx y H Q=>∃p xs i v,x=.ref p/\y=.int i/\gg K H p xs/\wZ xs i=some v/\Q v H
noncomputable def OH(K:bo):hP:=λx y H Q=>∃p xs i v,x=.ref p/\y=.int i/\c7 K H p xs/\wZ xs i=some v/\Q v H
noncomputable def OG:hP:=λx y H Q=>∃z i c,x=.str z/\y=.int i/\z.length<=cF/\wZ z.cps.toList i=some c/\Q (.str ⟨#[c]⟩) H
def aim:qg X (OF X.K):=by
 intro value slice ai s σ H x y v u Q I a4 bM h aw;obtain⟨p,xs,i,z,rfl,rfl,bS,he,q⟩:=h;cases a4;obtain⟨t,rfl⟩:=bM;obtain⟨its,r,pl,ar⟩:=I.list bS;obtain⟨j,ah,ao,bG,cT,f9⟩:=Lz he;obtain⟨w,mC,kp⟩:=r.get ao;have ay:=r.length;have a8:=uz;have fin:iD X ai σ Q w s:=⟨z,H,I,kp,q⟩;by_cases h0:0<=i
 ·have bD:i.toNat=j:=by
   rw[seqIndex_of h0 f9] at ah;exact e3 ah
  exact item_listR pl.isList h0 (by omega) (by rw[bD];simpa using mC) fin aw
 ·have bD:(i+(its.toArray.size:Int)).toNat=j:=by
   rw[seqIndex_neg (by omega) cT] at ah;rw[eb,<- ay];exact e3 ah
  exact subscriptTail_builtinR (x:=w) pl.isList.typeIs slot_list_getitem.lookup
   (wpAny_getItem_list_neg (Q:=λr s'=>r=w/\iD X ai σ Q r s') pl.isList (by omega) (by rw[eb] <;> omega) (by omega) (by rw[bD];simpa using mC) ⟨rfl,fin⟩) aw
def ajp:qg X (OH X.K):=by
 intro value slice ai s σ H x y v u Q I a4 bM h aw;obtain⟨p,xs,i,z,rfl,rfl,bS,he,q⟩:=h;cases a4;obtain⟨t,rfl⟩:=bM;obtain⟨its,r,pl,ar⟩:=I.tuple bS;obtain⟨j,ah,ao,bG,cT,f9⟩:=Lz he;obtain⟨w,mC,kp⟩:=r.get ao;have ay:=r.length;have a8:=uz;have fin:iD X ai σ Q w s:=⟨z,H,I,kp,q⟩;exact subscriptTail_builtinR (x:=w) pl.typeIs slot_tuple_getitem.lookup
  (getItem_tuple (j:=j) (Q:=λr s'=>r=w/\iD X ai σ Q r s') pl (by omega) (by omega) (by rw[eb,<- ay];exact ah) (by simpa using mC) ⟨rfl,fin⟩) aw
def ajq:qg X OG:=by
 intro value slice ai s σ H x y v u Q I a4 bM h aw;obtain⟨z,i,c,rfl,rfl,ar,he,q⟩:=h;obtain⟨t,rfl⟩:=a4;obtain⟨t',rfl⟩:=bM;obtain⟨j,ah,ao,bG,cT,f9⟩:=Lz he;have ay:z.cps.toList.length=z.length:=by simp[Str.length]
 rw[ay] at ah cT f9;have a8:=uz;exact tail_any (typeIs_str s z t) slot_str_getitem.lookup (getItem_str (c:=c) (by
  have aR:decide (i < -(2 ^ 63:Int))=false:=decide_eq_false (by omega);have a7:decide (i >= 2 ^ 63)=false:=decide_eq_false (by omega);rw[aR,a7,Bool.or_false]) (by rw[ah];simpa using ao) ⟨.str ⟨#[c]⟩,H,I.tok _,⟨_,rfl⟩,q⟩) aw
noncomputable def ab8(K:bo):hP:=λx y H Q=>OF K x y H Q\/OH K x y H Q\/OG x y H Q
def ajr:qg X (ab8 X.K):=aim.or (ajp.or ajq)
def afI(its:List aq)(n j:Nat)(u:aq):Obj.mapSeq (·.setIfInBounds j u) {cls:=.type "list",data:=.seq its.toArray n}={cls:=.type "list",data:=.seq (its.set j u).toArray n}:=by
 simp[Obj.mapSeq]
theorem Inv.lst{ai:List (ak×Obj)}{σ:St}{H:aE}{s:aQ}{p:ak}{xs:List V}(I:Inv X ai σ H s)(h:H p=some (.lst xs)):
  ∃(its:List aq) (n:Nat),Vals xs its/\s.heap.get? p=some {cls:=.type "list",data:=.seq its.toArray n}/\xs.length<=cF:=by
 obtain⟨z,its,n,r,e⟩:=I.b' p _ h;exact⟨its,n,r,e,z⟩
def Inv.Z4{ai:List (ak×Obj)}{σ:St}{H:aE}{s:aQ}{p:ak}{xs ys:List V}{its its':List aq}{n qE:Nat}{f:Obj->Obj}(I:Inv X ai σ H s)(h:H p=some (.lst xs))
  (aH:s.heap.get? p=some {cls:=.type "list",data:=.seq its.toArray n}) (hf:f {cls:=.type "list",data:=.seq its.toArray n}={cls:=.type "list",data:=.seq its'.toArray qE}) (r:Vals ys its') (ar:ys.length<=cF) (t:Nat):
  Inv X ai σ (upd H p (.lst ys)) {s with heap:=s.heap.update p f,toks:=t}:=by
 have e:(s.heap.update p f).get? p=some {cls:=.type "list",data:=.seq its'.toArray qE}:=by
  rw[Heap.get?_update_self f aH (by rw[hf] <;> rfl),hf]
 refine I.write (x:=p) (e:=p) (by rw[h];trivial) (.inl rfl) (λb u ae q=>(yu _ _ (Ne.symm ae)).trans q) ⟨_,e⟩ ?_
 exact⟨ar,its',qE,r,e⟩
noncomputable def ajV:V->V->V->aE->(aE->Prop)->Prop:=λo i v H Q=>∃p xs k j,o=.ref p/\i=.int k/\H p=some (.lst xs)/\pq xs.length k=some j/\Q (upd H p (.lst (xs.set j v)))
def set_list:Mk X ajV:=by
 intro ai s σ H o i v dX ft u Q I fM ri b8 h;obtain⟨p,xs,k,j,rfl,rfl,aC,bD,q⟩:=h;cases fM;obtain⟨t,rfl⟩:=ri;obtain⟨its,n,r,aH,ar⟩:=I.lst aC;obtain⟨ah,ao,bG,cT⟩:=RU bD;have ay:=r.length;have a8:=uz;have akY:Inv X ai σ (upd H p (.lst (xs.set j v))) {s with heap:=s.heap.update p (Obj.mapSeq (·.setIfInBounds j u))}:=
  I.Z4 aC aH (afI its n j u) (r.set b8 j) (by rw[List.length_set];exact ar) s.toks
 by_cases h0:0<=k
 ·have aI:k.toNat=j:=by
   rw[seqIndex_of h0 cT] at ah;exact e3 ah
  exact PySem.W.ki_setAt aH h0 (by omega) (by rw[eb,<- ay];exact cT) (by rw[aI];exact⟨_,akY,q⟩)
 ·have aI:(k+(its.toArray.size:Int)).toNat=j:=by
   rw[seqIndex_neg (by omega) bG] at ah;rw[eb,<- ay];exact e3 ah
  exact PySem.W.ki_setBack aH (by omega) (by rw[eb,<- ay];exact bG) (by omega) (by rw[aI];exact⟨_,akY,q⟩)
def aeV(lo aU:Option Int)(n:Nat):(sliceBounds lo aU none n).1=((fR.dc n 0 lo:Nat):Int)/\(sliceBounds lo aU none n).2.1=((fR.dc n n aU:Nat):Int)/\(sliceBounds lo aU none n).2.2=1:=by
 refine⟨?_,?_,rfl⟩
 ·cases lo with
  |none=>simp[sliceBounds,fR.dc]
  |some i=>
   simp only[sliceBounds,fR.dc,Option.getD_none,show (1:Int) > 0 by decide,if_true];by_cases h:i<0
   ·simp only[h,if_true] <;> omega
   ·simp only[h,if_false] <;> omega
 ·cases aU with
  |none=>simp[sliceBounds,fR.dc]
  |some i=>
   simp only[sliceBounds,fR.dc,Option.getD_none,show (1:Int) > 0 by decide,if_true];by_cases h:i<0
   ·simp only[h,if_true] <;> omega
   ·simp only[h,if_false] <;> omega
def aeH(its:List aq)(lo aU:Option Int):slicePick its.toArray lo aU none=((its.drop (fR.dc its.length 0 lo)).take (fR.dc its.length its.length aU - fR.dc its.length 0 lo)).toArray:=by
 obtain⟨ah,ao,bG⟩:=aeV lo aU its.toArray.size;unfold slicePick;rw[ah,ao,bG];simp only[sliceRange_one,pick_run,eb] <;> rfl
noncomputable def ab9(K:bo):V->Option Int->Option Int->aE->dC->Prop:=λx lo aU H Q=>∃a xs,x=.ref a/\gg K H a xs/\∀p,H p=none->Q (.ref p) (upd H p (.lst (n4 xs lo aU)))
def ahK:rq X (ab9 X.K):=by
 intro ai s σ H x v h_ fD lo aU dr Q I a4 aw pl pu h;obtain⟨a,xs,rfl,hx,q⟩:=h;cases a4;obtain⟨its,r,aX,ar⟩:=I.list hx;have hlen:=r.length;refine⟨"list",_,slot_list_getitem.lookup,aX.isList.typeIs,?_⟩;refine wpAny_getItem_list_slice aX.isList aw pl pu .none (by simp) ?_ (by rw[eb] <;> omega);rw[aeH,<- hlen];refine⟨.ref s.heap.objs.size,_,I.laid (t':=s.toks) (o:=.lst (n4 xs lo aU)) (λb d_ q=>dx _ q) (eh _) ?_,rfl,q _ (I.b'.fresh (eh _))⟩;exact⟨ma (PU xs lo aU) ar,_,0,(r.drop (fR.dc xs.length 0 lo)).take (fR.dc xs.length xs.length aU - fR.dc xs.length 0 lo),ia _ rfl⟩
def ae9:mu X (.builtin "len") (λxs H Q=>∃p ys,xs=[.ref p]/\(gg X.K H p ys\/c7 X.K H p ys)/\Q (.int ys.length) H):=by
 intro ai s σ H xs us Q I r h;obtain⟨p,ys,rfl,bS,q⟩:=h;obtain⟨u,rfl,a4⟩:=vals1 r;cases a4;have a8:=uz;rcases bS with bS|bS
 ·obtain⟨its,cE,pl,ar⟩:=I.list bS;have hlen:=cE.length;exact Calls.call_len_list pl.isList (by simp only[eb] <;> omega) ⟨.int ys.length,H,I.tok _,⟨s.toks+1,by rw[eb,hlen]⟩,q⟩
 ·obtain⟨its,cE,pl,ar⟩:=I.tuple bS;have hlen:=cE.length;exact len_tuple pl (by simp only[eb] <;> omega) ⟨.int ys.length,H,I.tok _,⟨s.toks+1,by rw[eb,hlen]⟩,q⟩
def ae8:mu X (.builtin "len") (λxs H Q=>∃z,xs=[.str z]/\z.length<=cF/\Q (.int z.length) H):=by
 intro ai s σ H xs us Q I r h;obtain⟨z,rfl,ar,q⟩:=h;obtain⟨u,rfl,t,rfl⟩:=vals1 r;have a8:=uz;exact len_str (by omega) ⟨.int z.length,H,I.tok _,⟨_,rfl⟩,q⟩
def mu.or{f:aq}{r cE:List V->aE->dC->Prop}(h:mu X f r)(h':mu X f cE):mu X f (λxs H Q=>r xs H Q\/cE xs H Q):=by
 intro ai s σ H xs us Q I rs q;rcases q with q|q
 ·exact h ai s σ H xs us Q I rs q
 ·exact h' ai s σ H xs us Q I rs q
def ae7:mu X (.type "list") (λxs H Q=>∃p ys,xs=[.ref p]/\(gg X.K H p ys\/c7 X.K H p ys)/\∀l,H l=none->Q (.ref l) (upd H l (.lst ys))):=by
 intro ai s σ H xs us Q I r h;obtain⟨p,ys,rfl,bS,q⟩:=h;obtain⟨u,rfl,a4⟩:=vals1 r;cases a4;have fin:∀(its:List aq),Vals ys its->ys.length<=cF->∀(h':b5) (gw:Nat),(∀b o',s.heap.get? b=some o'->h'.get? b=some o') ->
   h'.get? s.heap.objs.size=some {cls:=.type "list",dict:=none,data:=.seq its.toArray gw,slots:=#[]}->iD X ai σ Q (.ref s.heap.objs.size) {s with heap:=h'}:=λits cE ar h' gw aB e=>
  ⟨.ref s.heap.objs.size,_,I.laid (t':=s.toks) aB (eh _) (show ik X.prog X.w _ h' _ (.lst ys) from ⟨ar,its,gw,cE,e⟩),rfl,q _ (I.b'.fresh (eh _))⟩
 rcases bS with bS|bS
 ·obtain⟨its,cE,pl,ar⟩:=I.list bS;have hlen:=cE.length;obtain⟨o,aH,aG,n,hd⟩:=pl.isList;exact call_list_seq p (.inl rfl) aH aG hd (λh' gw aB e=>fin its cE ar h' gw aB e) (by simp only[eb] <;> omega)
 ·obtain⟨its,cE,pl,ar⟩:=I.tuple bS;have hlen:=cE.length;obtain⟨o,aH,aG,n,hd⟩:=pl;exact call_list_seq p (.inr rfl) aH aG hd (λh' gw aB e=>fin its cE ar h' gw aB e) (by simp only[eb] <;> omega)
def aeP:mu X (.type "tuple") (λxs H Q=>∃p ys,xs=[.ref p]/\((gg X.K H p ys/\∀l,H l=none->Q (.ref l) (upd H l (.tup ys)))\/(c7 X.K H p ys/\Q (.ref p) H))):=by
 intro ai s σ H xs us Q I r h;obtain⟨p,ys,rfl,h⟩:=h;obtain⟨u,rfl,a4⟩:=vals1 r;cases a4;rcases h with ⟨bS,q⟩|⟨bS,q⟩
 ·obtain⟨its,cE,pl,ar⟩:=I.list bS;have hlen:=cE.length;refine call_tuple_list pl.isList (λh' aB=>?_) (by simp only[eb] <;> omega);have bC:Inv X ai σ H {s with heap:=h'}:=I.kept (t':=s.toks) aB;have ck:Inv X ai σ (upd H h'.objs.size (.tup ys)) {s with heap:=h'.push {cls:=.type "tuple",data:=.seq its.toArray} }:=
   bC.laid (t':=s.toks) (λb o e=>dx _ e) (eh _) (show ik X.prog X.w _ _ _ (.tup ys) from ⟨ar,its,cE,IsTup.new _ _⟩)
  exact⟨.ref h'.objs.size,_,ck,rfl,q _ (bC.b'.fresh (eh _))⟩
 ·obtain⟨its,cE,pl,ar⟩:=I.tuple bS;exact call_tuple_same pl ⟨.ref p,H,I,rfl,q⟩
noncomputable def Ju(K:bo)(T:String)(x:V)(H:aE):Prop:=match x with
|.str _=>T="str"
|.int _=>T="int"
|.ref p=>(T="list"/\∃xs,gg K H p xs)\/(T="tuple"/\∃o,K.lookup p=some o/\o.cls=.type "tuple"/\o.dict=none) \/
   (T="dict"/\((∃kvs,H p=some (.dA kvs))\/∃kvs,H p=some (.ng kvs)))\/(T="set"/\∃S n,H p=some (.set S n))
|_=>False
def R_{ai:List (ak×Obj)}{σ:St}{H:aE}{s:aQ}{T:String}{x:V}{v:aq}(I:Inv X ai σ H s)(r:RelV x v)(ty:Ju X.K T x H):
  s.TypeIs v T/\∀a,v=.ref a->∃d_,s.heap.get? a=some d_/\d_.dict=none:=by
 cases x with
|str z=>
  obtain⟨t,rfl⟩:=r;cases (show T="str" from ty);exact⟨typeIs_str s z t,λ_ e=>nomatch e⟩
|int i=>
  obtain⟨t,rfl⟩:=r;cases (show T="int" from ty);exact⟨typeIs_int s i t,λ_ e=>nomatch e⟩
|ref p=>
  cases r
  rcases ty with ⟨rfl,xs,bS⟩|⟨rfl,o,aI,aG,hd⟩|⟨rfl,aI⟩|⟨rfl,S,n,aI⟩
  ·obtain⟨its,_,pl,_⟩:=I.list bS;refine⟨pl.isList.typeIs,λa e=>?_⟩;cases e;obtain⟨o,n,e,c,hd,_⟩:=pl;exact⟨o,e,hd⟩
  ·refine⟨⟨o,I.l1 p o aI,aG⟩,λa e=>?_⟩
   cases e
   exact⟨o,I.l1 _ o aI,hd⟩
  ·have z:∃o,s.heap.get? p=some o/\o.ExactDict:=by
    rcases aI with ⟨kvs,aI⟩|⟨kvs,aI⟩
    ·obtain⟨_,_,_,_,o,_,_,e,ex,_⟩:=I.b' p _ aI;exact⟨o,e,ex⟩
    ·obtain⟨_,_,_,_,o,_,_,e,ex,_⟩:=I.b' p _ aI;exact⟨o,e,ex⟩
   obtain⟨o,e,ex⟩:=z;refine⟨⟨o,e,ex.1⟩,λa a7=>?_⟩;cases a7;exact⟨o,e,ex.2.1⟩
  ·obtain⟨o,_,_,_,e,ex,_⟩:=I.b' p _ aI;refine⟨⟨o,e,ex.1⟩,λa a7=>?_⟩;cases a7;exact⟨o,e,ex.2.1⟩
|_=>exact mV ty
noncomputable def adl(K:bo)(T:String)(r:V->List V->aE->dC->Prop)(to:TE):TE:=λσ H Q=>to σ H λx H1=>Ju K T x H1/\r x [] H1 Q
noncomputable def adk(K:bo)(T:String)(r:V->List V->aE->dC->Prop)(to:TE)(t:fU):TE:=λσ H Q=>to σ H λx H1=>Ju K T x H1/\t σ H1 λxs bb=>r x xs bb Q
variable {o e:bc}{es:List bc}{to:TE}{t:fU}{name:Str}{apos dz:Pos}{T id:String}{r:V->List V->aE->dC->Prop}
def ai8(Br:PlainAttrs T)(slot:Slot T name id)(GF:typeOf (.builtin id)=pure (.type "method_descriptor"))(hm:DX X id r)(aH:bW X o to)
  (la:jf o name X.env (eval o X.env)=eval o X.env:=by rfl) (lb:(apos.endLine==dz.line)=true:=by rfl):bW X (.Call (.Attribute o name apos) [] [] dz) (adl X.K T r to):=by
 intro ai s σ H Q I h;refine wpAny_Call_method0_late la lb (cA (aH ai s σ H _ I h) λv s1 ⟨x,H1,bC,bg,ty,aP⟩=>?_);obtain⟨ah,ao⟩:=R_ bC bg ty;exact⟨T,id,Br,slot,GF,ah,ao,Calls.callWith_builtin rfl (PySem.evalArgs_none (hm ai s1 σ H1 x [] v [] Q bC bg .nil aP))⟩
def zF(Br:PlainAttrs T)(slot:Slot T name id)(GF:typeOf (.builtin id)=pure (.type "method_descriptor"))(hm:DX X id r)(aH:bW X o to)(ax:hZ X (e::es) t)
  (la:jf o name X.env (eval o X.env)=eval o X.env:=by rfl)
  (ob:((dQ dz (bA (e::es) X.env)).all (λx=>!x.1) && (mc dz (mb [] X.env)).all (λx=>x.1.isSome)
   && decide ((e::es).length+([]:List Keyword).length+(if ([]:List Keyword).isEmpty then 0 else 1)<30))=true:=by rfl)
  (lb:(apos.endLine==dz.line)=true:=by rfl) (aw:bA (e::es) X.env=(false,eval e X.env)::bA es X.env:=by rfl) (oi:(dQ dz (bA es X.env)).any (·.1)=false:=by rfl):
  bW X (.Call (.Attribute o name apos) (e::es) [] dz) (adk X.K T r to t):=by
 intro ai s σ H Q I h;refine wpAny_Call_method_late la ob lb rfl (cA (aH ai s σ H _ I h) λv s1 ⟨x,H1,bC,bg,ty,aP⟩=>?_);obtain⟨ah,ao⟩:=R_ bC bg ty;refine⟨T,id,Br,slot,GF,ah,ao,?_⟩;have s9:=ax dz ai s1 σ H1 _ bC aP;rw[aw] at s9 ⊢;refine Calls.callWith_builtin (by show (false || (dQ dz (bA es X.env)).any (·.1))=false;rw[oi] <;> rfl) (Calls.evalArgs_plain ?_);exact cA s9 λus s2 ⟨vs,bb,ck,cf,ba⟩=>hm ai s2 σ bb x vs v us Q ck bg cf ba
end
end bw
namespace bw
open PySem PySem.Spec PyProof.Rows
noncomputable def DW(X:bh)(id:String)(r:V->List V->aE->dC->Prop):Prop:=
 ∀(ai:List (ak×Obj)) (s:aQ) (σ:St) (H:aE) (x:V) (xs:List V) (v:aq) (us:List aq) (Q:dC),Inv X ai σ H s->RelV x v->Vals xs us->r x xs H Q ->
  bK (bZ X.prog X.w) X.A (call (.builtin id) (v::us)) (iD X ai σ Q) X.d3 s
def Vals.one:∀{x:V} {us:List aq},Vals [x] us->∃u,us=[u]/\RelV x u
|_,_,.cons r .nil=>⟨_,rfl,r⟩
def Vals.two:∀{x y:V} {us:List aq},Vals [x,y] us->∃u v,us=[u,v]/\RelV x u/\RelV y v
|_,_,_,.cons r (.cons q .nil)=>⟨_,_,rfl,r,q⟩
theorem Vals.eraseIdx:∀{xs:List V} {us:List aq} (i:Nat),Vals xs us->Vals (xs.eraseIdx i) (us.eraseIdx i)
|_,_,_,.nil=>.nil
|_,_,0,.cons _ t=>t
|_,_,i+1,.cons r t=>.cons r (Vals.eraseIdx i t)
theorem Vals.rep{xs:List V}{us:List aq}(h:Vals xs us):∀k:Nat,Vals (dZ k xs).flatten (dZ k us).flatten
|0=>.nil
|k+1=>by
  rw[qT,qT,tU,tU];exact Vals.append h (Vals.rep h k)
theorem QB{α:Type}:∀(l:List α) (i:Nat),(l.eraseIdx i).length<=l.length
| [],_=>eh _
|_::_,0=>pN _
|_::r,i+1=>Nat.succ_le_succ (QB r i)
theorem foldl_rep(its:List aq):∀(k:Nat) (acc:List aq),
  List.foldl (λaL bx=>aL++bx) acc.toArray (dZ k its.toArray)=(acc++(dZ k its).flatten).toArray
|0,acc=>by simp
|k+1,acc=>by
  have e:acc.toArray++its.toArray=(acc++its).toArray:=by simp
  have a7:(acc++its)++(dZ k its).flatten=acc++(dZ (k+1) its).flatten:=by
   rw[qT,tU,List.append_assoc]
  rw[<- a7,<- foldl_rep its k (acc++its),<- e,qT,List.foldl_cons]
section
variable {X:bh}{ai:List (ak×Obj)}{σ:St}{H:aE}{s:aQ}{l b:ak}{xs ys zs:List V}
def Inv.Od{its its':List aq}{n:Nat}{f:Array aq->Array aq}{t':Nat}(I:Inv X ai σ H s)(js:H l=some (.lst xs))
  (e:s.heap.get? l=some {cls:=.type "list",data:=.seq its.toArray n}) (hf:f its.toArray=its'.toArray) (a':Vals ys its') (ar:ys.length<=cF):
  Inv X ai σ (upd H l (.lst ys)) {s with heap:=s.heap.update l (Obj.mapSeq f),toks:=t'}:=by
 have q:=PySem.IsL.update e f;rw[hf] at q;refine I.write (x:=l) (e:=l) (by rw[js];exact trivial) (.inl rfl) (λo9 u ae bp=>(yu s.heap (Obj.mapSeq f) (Ne.symm ae)).trans bp) ⟨_,q⟩ ?_;exact⟨ar,its',_,a',q⟩
def Inv.xS{its:List aq}{t':Nat}(I:Inv X ai σ H s)(a':Vals ys its)(ar:ys.length<=cF):
  Inv X ai σ (upd H s.heap.objs.size (.lst ys)) {s with heap:=s.heap.push {cls:=.type "list",data:=.seq its.toArray},toks:=t'}:=
 I.laid (λ_ _ q=>dx _ q) (eh _) ⟨ar,its,0,a',ia _ rfl⟩
theorem Inv.fresh(I:Inv X ai σ H s):H s.heap.objs.size=none:=I.b'.fresh (eh _)
def Inv.Oe(I:Inv X ai σ H s)(js:H l=some (.lst xs)):xs.length<=cF/\∃(its:List aq) (n:Nat),Vals xs its/\xs.length=its.length/\s.heap.get? l=some {cls:=.type "list",data:=.seq its.toArray n}:=by
 obtain⟨z,its,n,r,e⟩:=I.b' l _ js;exact⟨z,its,n,r,r.length,e⟩
def ahg{n:Nat}(h:n<=cF):Builtin.List.listTooLong n=false:=by
 unfold Builtin.List.listTooLong;exact decide_eq_false (by omega)
end
section
variable {X:bh}
noncomputable def ahT:V->List V->aE->dC->Prop:=λx vs H Q=>∃l xs y,x=.ref l/\vs=[y]/\H l=some (.lst xs)/\xs.length<cF/\Q .gL (upd H l (.lst (xs++[y])))
def CZ:DW X "list.append" ahT:=by
 intro ai s σ H x vs v us Q I a4 b8 h;obtain⟨l,xs,y,rfl,rfl,js,ar,q⟩:=h;cases a4;obtain⟨u,rfl,ea⟩:=b8.one;obtain⟨z,its,n,r,ay,e⟩:=I.Oe js;refine r3 F.slot_list_append ⟨_,e,rfl⟩ F.entry_list_append (F.args_list_append_2 _ _) (PySem.list_append l its.toArray n u (by rw[eb];omega)) ⟨e,?_⟩;refine⟨.gL,_,I.Od (its':=its++[u]) js e (by simp) (r.append (.cons ea .nil)) ?_,rfl,q⟩;rw[qV,List.length_singleton];omega
def len_rep{α:Type}(xs:List α)(k:Nat):(dZ k xs).flatten.length=k*xs.length:=by
 induction k with
|zero=>simp
|succ k b7=>rw[qT,tU,qV,b7,Nat.succ_mul,Nat.add_comm]
end
end bw
namespace L5
open PySem PySem.W PySem.Calls PyProof.Rows
def aeu{P:Params}{h:b5}:∀(ns:List Int) (vs:List aq),WellAll P h vs (ns.map WData.int)->IntsAre vs ns:=by
 intro ns
 induction ns with
|nil=>
  intro vs w;rw[j3] at w;cases w;exact .nil
|cons n ns b7=>
  intro vs w;rw[dv] at w;cases w with
  |cons a b=>
   cases a
   exact .cons _ _ (b7 _ b)
def agc{l:OpenLaw}{n:Nat}(a8:l.most=some n){P:Params}{h:b5}{args:List WData}{vals:List aq}
    (AJ:l.row.toRowW.claim.pre args=true) (GG:WellAll P h vals args):
    ∃a vs ns,vals=[Value.ref a]/\args=[WData.list (ns.map WData.int)]/\h.get? a=some {cls:=.type "list",data:=.seq vs.toArray}/\IntsAre vs ns/\ns.length<=n:=by
  have YN:WShape.hasAll [] args [.list .int]=true:=(pre_splitW AJ).1;have aG:l.pre.holds [] {args:=args}=true:=(pre_splitW AJ).2;obtain⟨d,r,rfl,ah,ao⟩:=hasAllW_cons YN;obtain rfl:=hasAllW_nil ao;obtain⟨xs,rfl,bG⟩:=hasW_list ah;obtain⟨ns,rfl⟩:=items_int bG;have hlen:ns.length<=n:=by
    unfold OpenLaw.pre at aG;have cT:(WTm.not (.lt (.lit (.int (n:Int))) (.len (.arg 0)))).holds [] {args:=[.list (ns.map .int)]}=true:=by
      have cT:=(holds_andW aG).1;rw[a8] at cT;exact cT
    have f9:=condW_of cT (w_not (w_lt w_lit (w_len_list (w_arg rfl))));rw[g6] at f9;refine Nat.le_of_not_lt λq=>?_;have du:(n:Int)<((ns.length:Nat):Int):=by omega
    first
      | (rw[decide_eq_true du] at f9;exact absurd f9 (by decide))
      | (simp at f9;omega)
  cases GG with
  |cons ho mT=>
    cases mT
    cases ho with
    |list aH tc=>exact⟨_,_,ns,rfl,rfl,aH,aeu ns _ tc,hlen⟩
def agj(l:OpenLaw)(args:List WData):l.row.toRowW.claim.post args (.bool true) args=true:=
 postW_of (r:=l.row.toRowW) (X:=(true==true))
  (show WShape.has [] (.bool true) .bool=true by first|rfl|decide|simp[WShape.has,WShape.arms,WShape.armsAll])
  (show (WTm.eq .res (.lit (.bool true))).value [] {args:=args,res:=some (.bool true),after:=args}=some (.bool (true==true)) from w_eq_bool (w_res rfl) w_lit) rfl
def VL{l:OpenLaw}{n:Nat}{q:cQ}{loose:List Str}{uM:(Str->Option aq)->b5->Prop}{rr:cB->b5->Prop}{d:DefRec}
  (a8:l.most=some n) (xp:d.params.defaults=[])
  (call:∀(w:cB) (de dO:aQ) (mg ny:Str->Option aq) (cG:ak) (o:Obj) (pm cd doc:aq) (a:ak) (vs:List aq) (ns:List Int),
   Ground q loose [] uM w de mg ny dO.heap->rr w dO.heap ->
   dO.heap.get? cG=some o->o.data=.func (docDef d.name d.params d.body d.scope pm cd doc)->dO.heap.CodeRec cd d.name->mg d.name=some (.ref cG) ->
   dO.heap.get? a=some {cls:=.type "list",data:=.seq vs.toArray}->IntsAre vs ns->ns.length<=n->dO.gens=#[] ->
   codeAny (bZ l.prog w) callerA (.call (.ref cG) ⟨[.ref a],[]⟩) (λr s'=>r=.ok (.ret (.bool true))/\OldK dO.heap s'.heap/\s'.os=dO.os/\AllBare s'.gens) dO):
  WalkO q loose uM rr l.row.toRowW d [] (λf vs=>PySem.call f vs):=by
 intro w de dO mg ny G Y cG o pm cd doc z3 ek aH hd ki i_ xx bt args vals as AJ akz akG GG akA;obtain rfl:z3=.none:=Dflts.none i_ xp;obtain rfl:ek=.none:=Dflts.noKw i_;obtain⟨a,vs,ns,rfl,rfl,Gx,hints,hlen⟩:=agc a8 AJ GG;refine enter_call (codeAny_mono (call w de dO mg ny cG o pm cd doc a vs ns G Y aH (fd_plain hd) ki xx Gx hints hlen bt) λr s' bS=>?_);obtain⟨rfl,ao,bG,cT⟩:=bS;exact⟨.inl ⟨.bool true,.bool true,[],rfl,λ_=>rfl,.bool true,agj l _,λ_=>⟨List.Pairwise.nil,λ_ hm=>(nomatch hm)⟩⟩,ao,bG,cT⟩
end L5
namespace bw
open PySem PySem.Spec PyProof.Rows
theorem Qm:∀{vs:List aq} {ns:List Int},IntsAre vs ns->Vals (ns.map V.int) vs
|_,_,.nil=>.nil
|_,_,.cons n t h=>.cons ⟨t,rfl⟩ (Qm h)
noncomputable def DY(H:aE):Prop:=∀b,H b=none\/∃o xs,H b=some (.n_ o (.lst xs))
def ahp{P:cQ}{w:cB}{K:bo}{mg ny:Str->Option aq}{eI:mv}{k:Nat}{cG a:ak}{fd:gq}{x:Str}{sp:kI}{dO:aQ}{vs:List aq}{ns:List Int}
  (o2:K.In dO.heap) (AI:dO.heap.Ns lD mg) (ae:dO.heap.Ns builtinsNs ny) (X_:∀x:Str,x≠"__name__"->ny x=bootBuiltins x) (YB:dO.heap.NoLimit) (bt:dO.gens=#[])
  (ax:dO.heap.get? a=some {cls:=.type "list",data:=.seq vs.toArray}) (aU:IntsAre vs ns) (ay:ns.length<=cF) (av:d8 k callerA)
  (F:∀base:b5,K.In base->base.Ns lD mg->fI P w K mg base eI k cG fd [x] sp) (Ya:∀(s:aQ) (u:aq),BindsTo s fd ⟨[u],[]⟩ [(x,u)])
  (rI:∀H:aE,DY H->gg K H a (ns.map V.int)->sp [.ref a] H (λv _=>v=.dy true) λ_ _ _=>False)
  (F8:∀H e s',eI [] H dO (λ_ _ _=>False) e s'->False):
  codeAny (bZ P w) callerA (.call (.ref cG) ⟨[.ref a],[]⟩) (λr s'=>r=.ok (.ret (.bool true))/\OldK dO.heap s'.heap/\s'.os=dO.os/\AllBare s'.gens) dO:=by
 have b8:=Qm aU;have ZZ:=aU.length;have core:∀H:aE,DY H->gg K H a (ns.map V.int)->fy P w H dO.heap->(∀b,H b≠none->b=a)->(H a≠none->K.lookup a=none) ->
   codeAny (bZ P w) callerA (.call (.ref cG) ⟨[.ref a],[]⟩) (λr s'=>r=.ok (.ret (.bool true))/\OldK dO.heap s'.heap/\s'.os=dO.os/\AllBare s'.gens) dO:=by
  intro H lZ fJ b' s9 hB;have Mu:∀{b:ak} {o:Obj},dO.heap.get? b=some o->H b=none->(qw dO.heap H).get? b=some o:=λe n=>aht e n;have xZ:∀{b:ak} {o:Obj} {es:Array DictEntry} {ep:Nat},dO.heap.get? b=some o->o.data=.dict es ep->H b=none:=λ{b o es ep} e d=>by
   cases q:H b with
   |none=>rfl
   |some u=>
    have b1:b=a:=s9 b (by rw[q];simp);subst b1;rw[ax] at e;cases e;have d':Data.seq vs.toArray _=Data.dict es ep:=d;cases d'
  have Bm:∀{b:ak} {m:Str->Option aq},dO.heap.Ns b m->(qw dO.heap H).Ns b m:=λ{b m} ⟨o,es,ep,e,d,r⟩=>⟨o,es,ep,Mu e (xZ e d),d,r⟩;have NF:K.In (qw dO.heap H):=λb o e=>Mu (o2 b o e) (by
   cases q:H b with
   |none=>rfl
   |some u=>
    have b1:b=a:=s9 b (by rw[q];simp);subst b1;rw[hB (by rw[q];simp)] at e;cases e)
  have XZ:Mod K mg (qw dO.heap H):=⟨NF,Bm AI,⟨ny,Bm ae,X_⟩,let ⟨Z9,ah,ao⟩:=YB;⟨Z9,Bm ah,ao⟩⟩;have eC:sG P w K mg (qw dO.heap H) callerA [] dO H:=⟨rfl,XZ,λb o e=>aie e,Nat.le_of_eq (agE _ _),trivial,λb ae=>absurd (show b∈([]:List ak) from ae) (by simp),b',.of_eq bt⟩;refine codeAny_mono ((F _ NF (Bm AI)).run callerA [] dO H ⟨[.ref a],[]⟩ [.ref a] [.ref a] _ _ av eC (Ya dO (.ref a)) (.cons rfl .nil) (rI H lZ fJ)) λr s' h=>?_;cases r with
  |error e=>exact (F8 H e s' h).elim
  |ok n8=>
   cases n8 with
   |next=>exact mV h
   |brk=>exact mV h
   |cont=>exact mV h
   |ret u=>
    obtain⟨v,aj,os,bare,un,YK,cE,q⟩:=h;have du:v=.dy true:=q;subst du;obtain rfl:u=Value.bool true:=cE;refine⟨rfl,OldK.of_keep λb o e=>?_,os,bare⟩;cases q:H b with
    |none=>exact un.keep b o e q (by intro z;exact absurd (show b∈([]:List ak) from z) (by simp)) (by simp)
    |some u=>
     rcases lZ b with z|⟨d_,xs,z⟩
     ·rw[q] at z;cases z
     ·have hp:=un.akU b d_ _ z;obtain⟨aR,_⟩:=b' b _ z;obtain⟨a7,_⟩:=YK b _ hp;rw[e] at aR;cases aR;exact a7
 cases aI:K.lookup a with
|some o=>
  have e:=o2 a o aI;rw[ax] at e;cases e;refine core (λ_=>none) (λ_=>.inl rfl) (.inr ⟨_,vs.toArray,_,aI,rfl,rfl,rfl,by rw[eb,ZZ];exact ay,by simpa using b8⟩) (λb u z=>by have lF:(none:Option eW)=some u:=z;cases lF) (λb z=>absurd rfl z) λz=>absurd rfl z
|none=>
  refine core (λb=>if b=a then some (.n_ {cls:=.type "list",data:=.seq vs.toArray} (.lst (ns.map V.int))) else none) (λb=>?_) (.inl (.inr ⟨{cls:=.type "list",data:=.seq vs.toArray},if_pos rfl⟩)) (λb u z=>?_) (λb z=>?_) λ_=>aI
  ·by_cases ae:b=a
   ·exact .inr ⟨_,_,if_pos ae⟩
   ·exact .inl (if_neg ae)
  ·by_cases ae:b=a
   ·have lF:=(if_pos ae).symm.trans z;cases lF;subst ae;exact⟨ax,by rw[g6];exact ay,vs,_,b8,ax⟩
   ·have lF:=(if_neg ae).symm.trans z;cases lF
  ·by_cases ae:b=a
   ·exact ae
   ·exact absurd (if_neg ae) z
end bw
namespace bw
open PySem PySem.Spec PyProof.Rows
def ad1{l:PySem.W.OpenLaw}{n k:Nat}{q:cQ}{loose:List Str}{uM:(Str->Option aq)->b5->Prop}{rr:cB->b5->Prop}{d:DefRec}{K:Params->bo}{eI:cB->mv}{sp:cB->kI}{x:Str}
  (a8:l.most=some n) (AH:n<=cF) (xp:d.params.defaults=[]) (av:d8 k callerA)
  (Gb:∀(w:cB) (h:b5),rr w h->(K w.params).In h)
  (F:∀(w:cB) (mg:Str->Option aq) (cG:ak) (h:b5),(K w.params).In h->h.Ns lD mg->mg d.name=some (.ref cG) ->
   ∃fd:gq,(∀(s:aQ) (u:aq),BindsTo s fd ⟨[u],[]⟩ [(x,u)]) /\
    ∀base:b5,(K w.params).In base->base.Ns lD mg->fI l.prog w (K w.params) mg base (eI w) k cG fd [x] (sp w))
  (rI:∀(w:cB) (H:aE) (a:ak) (ns:List Int),ns.length<=n->DY H->gg (K w.params) H a (ns.map V.int)->sp w [.ref a] H (λv _=>v=.dy true) λ_ _ _=>False)
  (F8:∀(w:cB) (H:aE) (s:aQ) (e:aq) (s':aQ),eI w [] H s (λ_ _ _=>False) e s'->False):
  PySem.W.WalkO q loose uM rr l.row.toRowW d [] (λf vs=>PySem.call f vs):=by
 refine L5.VL a8 xp λw de dO mg ny cG o pm cd doc a vs ns G Y aH hd ki xx Gx hints hlen bt=>?_
 have o2:=Gb w _ Y;obtain⟨fd,ae,XY⟩:=F w mg cG _ o2 G.T.g xx;exact ahp o2 G.T.g G.T.b G.T.builtins G.T.nolimit bt Gx hints (ma hlen AH) av XY ae (λH lZ fJ=>rI w H a ns hlen lZ fJ) λH e s'=>F8 w H dO e s'
end bw
namespace bw
open PySem PySem.Spec PyProof.Rows
noncomputable def inClass(s:Stmt)(j:Nat):Stmt:=match s with
|.ClassDef _ _ _ body _ _ _ _ _ _ _=>body.getD j (.Pass ⟨0,0,0,0⟩)
|_=>.Pass ⟨0,0,0,0⟩
noncomputable def v8(s:Stmt):Arguments:=match s with
|.FunctionDef _ a _ _ _ _ _ _ _ _=>a
|_=>{posonlyargs:=[],args:=[],vararg:=none,kwonlyargs:=[],kw_defaults:=[],kwarg:=none,defaults:=[]}
noncomputable def jH(s:Stmt):List Stmt:=match s with
|.FunctionDef _ _ b _ _ _ _ _ _ _=>b
|_=>[]
noncomputable def cp(s:Stmt):Scope:=match s with
|.FunctionDef _ _ _ _ _ _ sc _ _ _=>sc
|_=>{kind:=.function,names:=[],isGenerator:=false,isCoroutine:=false}
abbrev fH:mv:=λ_ _ _ _ _ _=>False
abbrev uF:gU:=λ_ _ _=>False
def p8{X:bh}:Passes fH X uF:=λ_ _ _ _ _ _ _ h=>h.elim
structure cY(K:bo)(x qual:Str)(st:Stmt)(f:ak)(fd:gq):Prop where
 ex:∃(kn:aq) (f':Option ak) (ek doc pm:aq) (an:Option ak) (c0 fj:aq) (rR:Array (Option aq)),
  fd=rZ x qual (v8 st) (jH st) (cp st) .none ek doc pm an c0 fj/\K.lookup f=some ⟨kn,f',.func fd,rR⟩/\PySem.W.codeIn K c0 qual=true
 aB:nE K (.ref f)=true
section
variable {P:cQ}{w:cB}{K:bo}{mg:Str->Option aq}{base:b5}
def cY.ok{x qual:Str}{st:Stmt}{f:ak}{fd:gq}{N ps:List Str}{k:Nat}{sp:kI}(F:cY K x qual st f fd)(S:dg N ps (cp st))(len:∀vs H Q E,sp vs H Q E->vs.length=ps.length)
  (Gg:∀(c0:aq) (A:di) (outer:List Env) (s:aQ) (H:aE) (vs:List V) (Q:dC) (E:gU),d8 k (A.deeper (envOfC qual (cp st) s.heap.objs.size f c0))->sp vs H Q E ->
   ∃t,k7 (jU fH P w K mg base N qual (cp st) f c0 A outer s H E).kR (jH st) t/\t {bY:=λ_ aj=>Q .gL aj,e1:=Q} (start N vs) H):fI P w K mg base fH (k+1) f fd ps sp:=by
 obtain⟨kn,f',ek,doc,pm,an,c0,fj,rR,rfl,lk,ki⟩:=F.ex;refine ake lk ki S len λA outer s H vs Q E av rI=>?_;obtain⟨t,h,q⟩:=Gg c0 A outer s H vs Q E av rI;exact⟨t,h.kR,q⟩
def cY.binds{x qual:Str}{st:Stmt}{f:ak}{fd:gq}{ps:List Str}(F:cY K x qual st f fd)
  (h:∀(ek doc pm:aq) (an:Option ak) (c0 fj:aq) (us:List aq),us.length=ps.length->bindArgs (rZ x qual (v8 st) (jH st) (cp st) .none ek doc pm an c0 fj) ⟨us,[]⟩=pure (ps.zip us)):Binds K fd ps []:=by
 obtain⟨kn,f',ek,doc,pm,an,c0,fj,rR,rfl,lk,ki⟩:=F.ex;exact .all (h ek doc pm an c0 fj)
def d7{x qual:Str}{st:Stmt}{f:ak}{kn:aq}{f' an:Option ak}{rR:Array (Option aq)}{ek doc pm c0 fj:aq}(l:K.lookup f=some ⟨kn,f',.func (rZ x qual (v8 st) (jH st) (cp st) .none ek doc pm an c0 fj),rR⟩)
  (c:PySem.W.codeIn K c0 qual=true) (k:nE K (.ref f)=true):cY K x qual st f (rZ x qual (v8 st) (jH st) (cp st) .none ek doc pm an c0 fj):=⟨⟨kn,f',ek,doc,pm,an,c0,fj,rR,rfl,l,c⟩,k⟩
end
def cL{A:di}{k:Nat}(av:d8 k A):A.units+1<cLine:=Nat.lt_of_le_of_lt (Nat.add_le_add_left (by decide:1<=64) _) av.units
section
variable {X:bh}
def aV(i:Nat){x:Str}{pos:Pos}(fc:X.N[i]?=some x:=by rfl)(a':sR X.env.scope x:=by first|exact Or.inl rfl|exact Or.inr (Or.inl rfl)|exact Or.inr (Or.inr rfl))(hd:(x==("__debug__":Str))=false:=by decide)
  (ki:(x==("__classdict__":Str))=false:=by decide):bW X (.Name x pos) (gN i):=ai1 fc a' hd ki
end
def xJ{A B:Prop}(h:B):if false=true then A else B:=by
 rw[if_neg kX];exact h
def xK{A B:Prop}(h:A):if true=true then A else B:=by
 rw[if_pos rfl];exact h
noncomputable def UQ(H aj:aE):Prop:=∀b o,H b=some o->aj b=some o
end bw
end
section
namespace D
open PySem
abbrev T:=PyData
noncomputable def hl(a:T):Bool:=a.canLay0 && decide (a.depth<=60)
noncomputable def ox(as:List T):Bool:=kW as && decide (kV as<=60)
abbrev Key:=Sum Int Str
inductive hA where
|fM|own|cM
 deriving DecidableEq
inductive aO where
|ab (t:T)|own (ts:List T)|h5 (kvs:List (Key×T))|obj (m:hA) (c:Nat) (az:List aO)
abbrev Ev:=List (Option aO)
inductive Out where
|bY (ag:Ev)|e1 (t:T)|iK (ag:Ev)|fj (ag:Ev)|fN (t:T) (ag:Ev)|l6 (s:aO)
abbrev bI:=Ev->Option T
abbrev fg:=Ev->Option Bool
abbrev bz:=Ev->Option Out
abbrev jN:=Ev->Option (List T)
abbrev hO:=T->Ev->Option Ev
def big:Nat:=16777216
noncomputable def cC:T->T->Option T
|.int i,.int j=>some (.int (i+j))
|.str x,.str y=>if x.length+y.length<=big then some (.str (x++y)) else none
|.tuple xs,.tuple ys=>if xs.length+ys.length<=big then some (.tuple (xs++ys)) else none
|.list xs,.list ys=>if xs.length+ys.length<=big then some (.list (xs++ys)) else none
|_,_=>none
noncomputable def km:T->T->Option T
|.int i,.int j=>some (.int (i - j))
|_,_=>none
noncomputable def wC(i j:Int):Bool:=(decide (-(2 ^ 64)<i) && decide (i<2 ^ 64)) || (decide (-(2 ^ 64)<j) && decide (j<2 ^ 64))
noncomputable def ef:T->T->Option T
|.int i,.int j=>if wC i j then some (.int (i*j)) else none
|_,_=>none
noncomputable def oDiv:T->T->Option T
|.int i,.int j=>if 0<j/\j<1073741824 then some (.int (i / j)) else none
|_,_=>none
noncomputable def oMod:T->T->Option T
|.int i,.int j=>if 0<j then some (.int (i % j)) else none
|_,_=>none
noncomputable def qF:T->Option T
|.int i=>some (.int (-i))
|_=>none
noncomputable def f_(n:Nat)(i:Int):Option Nat:=if 0<=i then (if i<n then some i.toNat else none) else if -(n:Int)<=i then some (i+n).toNat else none
noncomputable def gh{α:Type}(xs:List α)(i:Int):Option α:=(f_ xs.length i).bind λj=>xs[j]?
noncomputable def aK:T->T->Option T
|.tuple xs,.int i=>gh xs i
|.list xs,.int i=>gh xs i
|.str x,.int i=>if x.length<=big then (gh x.cps.toList i).map λc=>.str ⟨#[c]⟩ else none
|_,_=>none
noncomputable def oEq(a b:T):Option T:=if hl a && hl b then some (.bool (hX a b)) else none
noncomputable def eE(a b:T):Option T:=if hl a && hl b then some (.bool (!PyData.eqv a b)) else none
noncomputable def hU(a:T):Option T:=some (.bool (match a with|.none=>true|_=>false))
noncomputable def jm(a:T):Option T:=some (.bool (match a with|.none=>false|_=>true))
noncomputable def strLt(x y:Str):Bool:=decide (x.cps.toList<y.cps.toList)
noncomputable def oLt:T->T->Option T
|.int i,.int j=>some (.bool (decide (i<j)))
|.str x,.str y=>some (.bool (strLt x y))
|_,_=>none
noncomputable def oLe:T->T->Option T
|.int i,.int j=>some (.bool (decide (i<=j)))
|.str x,.str y=>some (.bool (!strLt y x))
|_,_=>none
noncomputable def gZ:T->T->Option T
|.int i,.int j=>some (.bool (decide (j<i)))
|.str x,.str y=>some (.bool (strLt y x))
|_,_=>none
noncomputable def rN:T->T->Option T
|.int i,.int j=>some (.bool (decide (j<=i)))
|.str x,.str y=>some (.bool (!strLt x y))
|_,_=>none
noncomputable def mG(x:T)(ts:List T):Bool:=ts.any λy=>hX y x
noncomputable def da(neg:Bool):T->T->Option T
|x,.tuple ys=>if hl x && ox ys then some (.bool (if neg then !mG x ys else mG x ys)) else none
|x,.list ys=>if hl x && ox ys then some (.bool (if neg then !mG x ys else mG x ys)) else none
|_,_=>none
noncomputable def hD:List T->Option T
| [.tuple xs]=>some (.int xs.length)
| [.list xs]=>some (.int xs.length)
| [.str x]=>if x.length<=big then some (.int x.length) else none
|_=>none
noncomputable def x2:List T->Option T
| [.int i,.int j]=>some (.int (if j<i then j else i))
|_=>none
noncomputable def akS:List T->Option T
| [.int i,.int j]=>some (.int (if j > i then j else i))
|_=>none
noncomputable def fP:List T->Option T
| [.tuple xs]=>some (.tuple xs)
| [.list xs]=>some (.tuple xs)
|_=>none
noncomputable def DF:List T->Option T
| [.tuple xs]=>some (.list xs)
| [.list xs]=>some (.list xs)
|_=>none
noncomputable def Bn:List T->Option T
| [.int i]=>some (.int i)
| [.bool b]=>some (.int (if b then 1 else 0))
|_=>none
noncomputable def dc(n d:Nat):Option Int->Nat
|none=>d
|some v=>(if v<0 then max (v+n) 0 else min v n).toNat
noncomputable def w5{α:Type}(xs:List α)(lo aU:Option Int):List α:=(xs.drop (dc xs.length 0 lo)).take (dc xs.length xs.length aU - dc xs.length 0 lo)
noncomputable def Bp(t:T)(lo aU:Option Int):Option T:=match t with
|.tuple xs=>some (.tuple (w5 xs lo aU))
|.list xs=>some (.list (w5 xs lo aU))
|_=>none
noncomputable def intsOf:List T->Option (List Int)
| []=>some []
|.int i::ts=>(intsOf ts).map λr=>i::r
|_::_=>none
noncomputable def strsOf:List T->Option (List Str)
| []=>some []
|.str x::ts=>(strsOf ts).map λr=>x::r
|_::_=>none
noncomputable def insI(x:Int):List Int->List Int
| []=>[x]
|y::ys=>if x<=y then x::y::ys else y::insI x ys
noncomputable def sortI:List Int->List Int
| []=>[]
|x::xs=>insI x (sortI xs)
noncomputable def tu(x:Str):List Str->List Str
| []=>[x]
|y::ys=>if !strLt y x then x::y::ys else y::tu x ys
noncomputable def eN:List Str->List Str
| []=>[]
|x::xs=>tu x (eN xs)
noncomputable def zq:List T->Option T
| [.list xs]=>if xs.length<64 then
   match intsOf xs with
   |some ns=>some (.list ((sortI ns).map .int))
   |none=>(strsOf xs).map λss=>.list ((eN ss).map .str)
  else none
|_=>none
noncomputable def keyOf:T->Option Key
|.int i=>some (.inl i)
|.str x=>some (.inr x)
|_=>none
noncomputable def putD(kvs:List (Key×T))(k:Key)(v:T):List (Key×T):=if kvs.any (λp=>decide (p.1=k)) then kvs.map λp=>if p.1=k then (k,v) else p else kvs++[(k,v)]
noncomputable def getD(kvs:List (Key×T))(k:Key):Option T:=(kvs.find? λp=>decide (p.1=k)).map (·.2)
def aa(t:T):bI:=λ_=>some t
noncomputable def nm(i:Nat):bI:=λag=>match ag[i]? with
|some (some (.ab t))=>some t
|some (some (.own ts))=>some (.list ts)
|_=>none
noncomputable def aA(i:Nat):bI:=λag=>match ag[i]? with
|some (some (.ab t))=>some t
|_=>none
noncomputable def fo(o:T->Option T)(f:bI):bI:=λag=>(f ag).bind o
noncomputable def af(o:T->T->Option T)(f g:bI):bI:=λag=>(f ag).bind λx=>(g ag).bind λy=>o x y
noncomputable def args:List bI->Ev->Option (List T)
| [],_=>some []
|f::az,ag=>(f ag).bind λt=>(args az ag).map λts=>t::ts
noncomputable def bl(o:List T->Option T)(az:List bI):bI:=λag=>(args az ag).bind o
noncomputable def bQ(az:List bI):bI:=λag=>(args az ag).bind λts=>if ts.length<=big then some (.tuple ts) else none
noncomputable def ew(az:List bI):bI:=λag=>(args az ag).bind λts=>if ts.length<=big then some (.list ts) else none
noncomputable def opt(f:bI):Ev->Option (Option Int):=λag=>(f ag).bind λt=>match t with|.int i=>some (some i)|_=>none
noncomputable def optN:Ev->Option (Option Int):=λ_=>some none
noncomputable def slice(f:bI)(lo aU:Ev->Option (Option Int)):bI:=λag=>(f ag).bind λt=>(lo ag).bind λl=>(aU ag).bind λh=>Bp t l h
noncomputable def iI(f g:bI):bI:=λag=>(f ag).bind λt=>match t with|.bool true=>g ag|.bool false=>some (.bool false)|_=>none
noncomputable def jb(f g:bI):bI:=λag=>(f ag).bind λt=>match t with|.bool false=>g ag|.bool true=>some (.bool true)|_=>none
noncomputable def tD(f:bI):bI:=λag=>(f ag).bind λt=>match t with|.bool b=>some (.bool (!b))|_=>none
noncomputable def a0(f:bI):fg:=λag=>(f ag).bind λt=>match t with|.bool b=>some b|_=>none
noncomputable def i1(f:bI):fg:=λag=>(f ag).bind λt=>match t with|.list ts=>some (!ts.isEmpty)|.tuple ts=>some (!ts.isEmpty)|_=>none
noncomputable def ei(f g:fg):fg:=λag=>(f ag).bind λb=>if b then g ag else some false
noncomputable def eZ(f g:fg):fg:=λag=>(f ag).bind λb=>if b then some true else g ag
noncomputable def jZ(f:fg):fg:=λag=>(f ag).map λb=>!b
noncomputable def nv(c:fg)(f g:bI):bI:=λag=>(c ag).bind λb=>if b then f ag else g ag
noncomputable def fi(b:Bool):fg:=λ_=>some b
noncomputable def ofT(c:fg):bI:=λag=>(c ag).map .bool
noncomputable def df(f:bI):jN:=λag=>(f ag).bind λt=>match t with|.tuple ts=>some ts|.list ts=>some ts|_=>none
noncomputable def hM(f:bI):jN:=λag=>(f ag).bind λt=>match t with|.tuple ts=>some ts|_=>none
noncomputable def jy(lo aU:Int):List T:=(List.range (aU - lo).toNat).map λ(k:Nat)=>.int (lo+(k:Int))
noncomputable def q6(i:Int):Bool:=decide (-(2 ^ 62)<=i) && decide (i<2 ^ 62)
noncomputable def ml(f:bI):jN:=λag=>(f ag).bind λt=>match t with|.int j=>if q6 j then some (jy 0 j) else none|_=>none
noncomputable def enum(ts:List T):List T:=ts.zipIdx.map λp=>.tuple [.int p.2,p.1]
noncomputable def j9(f:jN):jN:=λag=>(f ag).map enum
noncomputable def bJ(i:Nat):hO:=λt ag=>some (ag.set i (some (.ab t)))
noncomputable def gy:List hO->List T->Ev->Option Ev
| [],[],ag=>some ag
|g::eP,t::ts,ag=>(g t ag).bind λε'=>gy eP ts ε'
|_,_,_=>none
noncomputable def dq(eP:List hO):hO:=λt ag=>match t with|.tuple ts=>gy eP ts ag|_=>none
noncomputable def gf(g:hO)(c:fg)(e:bI):List T->Ev->Option (List T)
| [],_=>some []
|t::ts,ag=>(g t ag).bind λiB=>(c iB).bind λb=>if b then (e iB).bind λy=>(gf g c e ts iB).map λys=>y::ys else gf g c e ts iB
noncomputable def iz(own:Nat)(caps:List Nat)(ag:Ev):Ev:=dZ own none++caps.map λi=>(ag[i]?).join
noncomputable def comp(own:Nat)(caps:List Nat)(it:jN)(g:hO)(c:fg)(e:bI):bI:=λag=>(it ag).bind λts=>if ts.length<=big then (gf g c e ts (iz own caps ag)).map .list else none
def skip:bz:=λag=>some (.bY ag)
noncomputable def seq(a b:bz):bz:=λag=>(a ag).bind λo=>match o with|.bY ε'=>b ε'|o=>some o
noncomputable def asg(i:Nat)(f:bI):bz:=λag=>(f ag).map λt=>.bY (ag.set i (some (.ab t)))
noncomputable def jR(i:Nat)(f:bI):bz:=λag=>(f ag).bind λt=>match t with|.list ts=>some (.bY (ag.set i (some (.own ts))))|_=>none
noncomputable def hR(g:hO)(f:bI):bz:=λag=>(f ag).bind λt=>(g t ag).map .bY
noncomputable def cI(f:bI):bz:=λag=>(f ag).map .e1
noncomputable def iff(c:fg)(a b:bz):bz:=λag=>(c ag).bind λx=>if x then a ag else b ag
def brk:bz:=λag=>some (.iK ag)
noncomputable def forL(g:hO)(b:bz):List T->Ev->Option Out
| [],ag=>some (.bY ag)
|t::ts,ag=>(g t ag).bind λiB=>(b iB).bind λo=>match o with
  |.bY iC=>forL g b ts iC
  |.fj iC=>forL g b ts iC
  |.iK iC=>some (.bY iC)
  |.e1 t=>some (.e1 t)
  |.fN t iC=>some (.fN t iC)
  |.l6 s=>some (.l6 s)
noncomputable def gj(it:jN)(g:hO)(b:bz):bz:=λag=>(it ag).bind λts=>forL g b ts ag
noncomputable def ext(i:Nat)(f:bI):bz:=λag=>match ag[i]? with
|some (some (.own ts))=>(f ag).bind λt=>match t with
  |.list us=>if ts.length+us.length<=big then some (.bY (ag.set i (some (.own (ts++us))))) else none
  |_=>none
|_=>none
noncomputable def par(i j:Nat)(own:Bool)(f g:bI):bz:=λag=>(f ag).bind λt=>(g ag).bind λu=>if own then (match u with|.list us=>some (.bY ((ag.set i (some (.ab t))).set j (some (.own us))))|_=>none) else some (.bY ((ag.set i (some (.ab t))).set j (some (.ab u))))
noncomputable def d4(b:bz)(n:Nat)(as:List T):Option T:=(b ((as.map λt=>some (.ab t))++dZ (n - as.length) none)).bind λo=>match o with
|.e1 t=>some t
|.bY _=>some .none
|_=>none
end D
end
section
namespace D
open PySem PySem.Spec PyProof.Rows bw
section
mutual
noncomputable def Rep(K:bo)(F:ak->Prop)(H:aE):T->V->Prop
|.none,v=>v=.gL
|.bool b,v=>v=.dy b
|.int i,v=>v=.int i
|.str x,v=>v=.str x
|.dict _,_=>False
|.tuple ts,v=>∃a vs,v=.ref a/\c7 K H a vs/\bj K F H ts vs
|.list ts,v=>∃a vs,v=.ref a/\F a/\e' H a (.lst vs)/\bj K F H ts vs
noncomputable def bj(K:bo)(F:ak->Prop)(H:aE):List T->List V->Prop
| [],vs=>vs=[]
|t::ts,vs=>∃v r,vs=v::r/\Rep K F H t v/\bj K F H ts r
end
section
variable {K:bo}{F aM:ak->Prop}{H aj:aE}
mutual
theorem Rep.keep(ah:∀b xs,c7 K H b xs->c7 K aj b xs)(ao:∀b xs,F b->e' H b (.lst xs)->aM b/\e' aj b (.lst xs)):∀{t:T} {v:V},Rep K F H t v->Rep K aM aj t v
|.none,v,h=>by simpa [Rep] using h
|.bool _,v,h=>by simpa [Rep] using h
|.dict _,v,h=>by simp[Rep] at h
|.int _,v,h=>by simpa [Rep] using h
|.str _,v,h=>by simpa [Rep] using h
|.tuple ts,v,h=>by
  simp only[Rep] at h ⊢;obtain⟨a,vs,e,q,r⟩:=h;exact⟨a,vs,e,ah _ _ q,bj.keep ah ao r⟩
|.list ts,v,h=>by
  simp only[Rep] at h ⊢;obtain⟨a,vs,e,f,q,r⟩:=h;exact⟨a,vs,e,(ao _ _ f q).1,(ao _ _ f q).2,bj.keep ah ao r⟩
theorem bj.keep(ah:∀b xs,c7 K H b xs->c7 K aj b xs)(ao:∀b xs,F b->e' H b (.lst xs)->aM b/\e' aj b (.lst xs)):∀{ts:List T} {vs:List V},bj K F H ts vs->bj K aM aj ts vs
| [],vs,h=>by simpa [bj] using h
|t::ts,vs,h=>by
  simp only[bj] at h ⊢;obtain⟨v,r,e,q,z⟩:=h;exact⟨v,r,e,Rep.keep ah ao q,bj.keep ah ao z⟩
end
def bj.nil:bj K F H [] []:=by simp[bj]
def bj.cons{t:T}{v:V}{ts:List T}{vs:List V}(h:Rep K F H t v)(r:bj K F H ts vs):bj K F H (t::ts) (v::vs):=by
 simp only[bj];exact⟨v,vs,rfl,h,r⟩
theorem bj.length:∀{ts:List T} {vs:List V},bj K F H ts vs->ts.length=vs.length
| [],vs,h=>by
  simp only[bj] at h;subst h;rfl
|t::ts,vs,h=>by
  simp only[bj] at h;obtain⟨v,r,e,q,z⟩:=h;subst e;simp[bj.length z]
theorem bj.get:∀{ts:List T} {vs:List V} {i:Nat} {t:T},bj K F H ts vs->ts[i]?=some t->∃v,vs[i]?=some v/\Rep K F H t v
| [],vs,i,t,h,e=>by simp at e
|x::ts,vs,0,t,h,e=>by
  simp only[bj] at h;obtain⟨v,r,rfl,q,z⟩:=h;simp at e;subst e;exact⟨v,rfl,q⟩
|x::ts,vs,i+1,t,h,e=>by
  simp only[bj] at h;obtain⟨v,r,rfl,q,z⟩:=h;obtain⟨u,ah,ao⟩:=bj.get (i:=i) (t:=t) z (by simpa using e);exact⟨u,by simpa using ah,ao⟩
theorem bj.append:∀{ts us:List T} {vs ws:List V},bj K F H ts vs->bj K F H us ws->bj K F H (ts++us) (vs++ws)
| [],us,vs,ws,h,r=>by
  simp only[bj] at h;subst h;exact r
|t::ts,us,vs,ws,h,r=>by
  simp only[bj] at h;obtain⟨v,z,rfl,q,y⟩:=h;exact bj.cons q (bj.append y r)
theorem bj.take:∀{ts:List T} {vs:List V} (n:Nat),bj K F H ts vs->bj K F H (ts.take n) (vs.take n)
| [],vs,n,h=>by
  simp only[bj] at h;subst h;simpa using bj.nil
|t::ts,vs,0,h=>by simpa using bj.nil
|t::ts,vs,n+1,h=>by
  simp only[bj] at h;obtain⟨v,z,rfl,q,y⟩:=h;simpa using bj.cons q (bj.take n y)
theorem bj.drop:∀{ts:List T} {vs:List V} (n:Nat),bj K F H ts vs->bj K F H (ts.drop n) (vs.drop n)
| [],vs,n,h=>by
  simp only[bj] at h;subst h;simpa using bj.nil
|t::ts,vs,0,h=>by simpa using h
|t::ts,vs,n+1,h=>by
  simp only[bj] at h;obtain⟨v,z,rfl,q,y⟩:=h;simpa using bj.drop n y
end
class c5 where
 fC:List (ak×Str)
 eB:Nat->List Str
 jT:Nat->Option ak
noncomputable def zV(H:aE)(b:ak)(q:Str):Prop:=∃ps:Array aq,H b=some (.lA ps)/\TriplesOk ps.toList/\∀pos z2,codeAmong pos ps.toList=some z2->∃c,z2=.ref c/\H c=some (.ext λh=>h.CodeRec (.ref c) q)
noncomputable def o7 [t:c5](H:aE):Prop:=∀p∈t.fC,zV H p.1 p.2
def zV.keep{H aj:aE}{b:ak}{q:Str}(h:zV H b q)(eY:∀a ps,H a=some (.lA ps)->aj a=some (.lA ps))(dV:∀a qa,H a=some (.ext qa)->aj a=some (.ext qa)):zV aj b q:=by
 obtain⟨ps,ah,ao,bG⟩:=h;refine⟨ps,eY _ _ ah,ao,λpos z2 e=>?_⟩;obtain⟨c,aR,a7⟩:=bG pos z2 e;exact⟨c,aR,dV _ _ a7⟩
variable [c5]
noncomputable def nY(u:eW):Prop:=(∃xs,u=.lst xs)\/(∃xs,u=.dA xs)\/∃C bF az,u=.ins C bF az
def nY.cases{P:Prop}{u:eW}(h:nY u)(ah:∀xs,u=.lst xs->P)(ao:∀xs,u=.dA xs->P)(bG:∀C bF az,u=.ins C bF az->P):P:=by
 rcases h with ⟨xs,e⟩|⟨xs,e⟩|⟨C,bF,az,e⟩
 ·exact ah xs e
 ·exact ao xs e
 ·exact bG C bF az e
def o7.O7{H:aE}(h:o7 H){p:ak}{o:eW}(aC:∀u,H p=some u->nY u):o7 (upd H p o):=λb ae=>
 (h b ae).keep (λa ps e=>by
  have nb:a≠p:=by
   rintro rfl;exact (aC _ e).cases (λ_ z=>by cases z) (λ_ z=>by cases z) (λ_ _ _ z=>by cases z)
  rw[cw nb];exact e) λa qa e=>by
  have nb:a≠p:=by
   rintro rfl;exact (aC _ e).cases (λ_ z=>by cases z) (λ_ z=>by cases z) (λ_ _ _ z=>by cases z)
  rw[cw nb];exact e
theorem o7.upd{H:aE}(h:o7 H){p:ak}{o:eW}(aC:∀u,H p=some u->(∃xs,u=.lst xs)\/∃xs,u=.dA xs):o7 (upd H p o):=h.O7 λu e=>by
 rcases aC u e with z|z
 ·exact .inl z
 ·exact .inr (.inl z)
def o7.new{H:aE}(h:o7 H){p:ak}{o:eW}(aC:H p=none):o7 (bw.upd H p o):=h.upd λu e=>by rw[aC] at e;cases e
structure gS(F:ak->Prop)(H:aE):Prop where
 FA:∀a,F a->∃o,H a=some o
 akT:o7 H
instance {F:ak->Prop}{H:aE}:CoeFun (gS F H) λ_=>∀a,F a->∃o,H a=some o:=⟨gS.FA⟩
noncomputable def jK(H aj:aE):Prop:=∀b o,H b=some o->aj b=some o\/∃ps x6,o=.lA ps/\aj b=some (.lA x6)
def jK.refl(H:aE):jK H H:=λ_ _ h=>.inl h
def jK.ne{H aj:aE}(s:jK H aj){b:ak}{o:eW}(e:H b=some o):∃u,aj b=some u:=by
 rcases s b o e with h|⟨_,_,_,h⟩
 ·exact⟨_,h⟩
 ·exact⟨_,h⟩
theorem jK.none{H aj:aE}(s:jK H aj){b:ak}(e:aj b=none):H b=none:=by
 cases z:H b with
|none=>rfl
|some o=>
  obtain⟨u,q⟩:=s.ne z;rw[e] at q;cases q
def jK.get{H aj:aE}(s:jK H aj){b:ak}{o:eW}(e:H b=some o)(n:∀ps,o≠.lA ps:=by intro _ z;cases z):aj b=some o:=by
 rcases s b o e with h|⟨_,_,z,_⟩
 ·exact h
 ·exact absurd z (n _)
def jK.trans{H H1 bb:aE}(a:jK H H1)(b:jK H1 bb):jK H bb:=λc o h=>by
 rcases a c o h with q|⟨ps,ab4,z,q⟩
 ·exact b c o q
 ·rcases b c _ q with ba|⟨_,x7,hp,ba⟩
  ·exact .inr ⟨ps,ab4,z,ba⟩
  ·exact .inr ⟨ps,x7,z,ba⟩
structure Ext(F:ak->Prop)(H:aE)(aM:ak->Prop)(aj:aE):Prop where
 same:jK H aj
 sub:∀a,F a->aM a
 new:∀a,aM a->F a\/H a=none
 cn:gS aM aj
section
variable {K:bo}{F aZ cX:ak->Prop}{H H1 bb:aE}
theorem Ext.refl(d:gS F H):Ext F H F H:=⟨jK.refl H,λ_ h=>h,λ_ h=>.inl h,d⟩
theorem Ext.trans(a:Ext F H aZ H1)(b:Ext aZ H1 cX bb):Ext F H cX bb:=
 ⟨a.same.trans b.same,λx h=>b.sub x (a.sub x h),λx h=>(b.new x h).elim (λz=>a.new x z) λz=>.inr (a.same.none z),b.cn⟩
def e'.same{a:ak}{u:eW}(s:jK H H1)(r:e' H a u)(n:∀ps,u≠.lA ps:=by intro _ z;cases z):e' H1 a u:=by
 rcases r with r|⟨o,r⟩
 ·exact .inl (s.get r n)
 ·exact .inr ⟨o,s.get r⟩
theorem c7.same{a:ak}{xs:List V}(s:jK H H1)(r:c7 K H a xs):c7 K H1 a xs:=by
 rcases r with r|r
 ·exact .inl (e'.same s r)
 ·exact .inr r
def Rep.ext{t:T}{v:V}(r:Rep K F H t v)(x:Ext F H aZ H1):Rep K aZ H1 t v:=r.keep (λ_ _ q=>c7.same x.same q) λb _ f q=>⟨x.sub b f,e'.same x.same q⟩
def bj.ext{t:List T}{v:List V}(r:bj K F H t v)(x:Ext F H aZ H1):bj K aZ H1 t v:=r.keep (λ_ _ q=>c7.same x.same q) λb _ f q=>⟨x.sub b f,e'.same x.same q⟩
def Ext.laid{p:ak}{o:eW}(d:gS F H)(aC:H p=none):Ext F H F (upd H p o):=
 ⟨λb u q=>.inl (Bz aC o b u q),λ_ h=>h,λ_ h=>.inl h,⟨λa h=>by
  obtain⟨u,e⟩:=d a h;exact⟨u,Bz aC o a u e⟩,d.akT.new aC⟩⟩
where Bz {H:aE} {p:ak} (h:H p=none) (o:eW):UQ H (upd H p o):=λb u q=>by rw[cw (ic q h)];exact q
def Ext.Bg{p:ak}{o:eW}(d:gS F H)(aC:H p=none):Ext F H (λa=>F a\/a=p) (upd H p o):=
 ⟨λb u q=>.inl (Ext.laid.Bz aC o b u q),λ_ h=>.inl h,λa h=>by
  rcases h with h|rfl
  ·exact .inl h
  ·exact .inr aC,⟨λa h=>by
  rcases h with h|rfl
  ·obtain⟨u,e⟩:=d a h;exact⟨u,Ext.laid.Bz aC o a u e⟩
  ·exact⟨o,dH⟩,d.akT.new aC⟩⟩
end
structure eJ(K:bo)(F:ak->Prop)(H:aE)(aM:ak->Prop)(aj:aE):Prop where
 tup:∀b xs,c7 K H b xs->c7 K aj b xs
 lst:∀b xs,F b->e' H b (.lst xs)->aM b/\e' aj b (.lst xs)
section
variable {K:bo}{F aZ cX:ak->Prop}{H H1 bb:aE}
def eJ.refl:eJ K F H F H:=⟨λ_ _ h=>h,λ_ _ f h=>⟨f,h⟩⟩
def eJ.trans(a:eJ K F H aZ H1)(b:eJ K aZ H1 cX bb):eJ K F H cX bb:=⟨λx xs h=>b.tup x xs (a.tup x xs h),λx xs f h=>b.lst x xs (a.lst x xs f h).1 (a.lst x xs f h).2⟩
def Ext.aB(x:Ext F H aZ H1):eJ K F H aZ H1:=⟨λ_ _ q=>c7.same x.same q,λb _ f q=>⟨x.sub b f,e'.same x.same q⟩⟩
def Rep.aB{t:T}{v:V}(r:Rep K F H t v)(x:eJ K F H aZ H1):Rep K aZ H1 t v:=r.keep x.tup x.lst
def bj.aB{t:List T}{v:List V}(r:bj K F H t v)(x:eJ K F H aZ H1):bj K aZ H1 t v:=r.keep x.tup x.lst
end
noncomputable def gv(K:bo)(O F:ak->Prop)(H:aE)(t:T)(v:V):Prop:=
 Rep K F H t v\/∃ts a vs,t=.list ts/\v=.ref a/\H a=some (.lst vs)/\bj K F H ts vs
section
variable {K:bo}{O F aZ:ak->Prop}{H H1:aE}{v:V}
theorem gv.ext{t:T}(r:gv K O F H t v)(x:Ext F H aZ H1):gv K O aZ H1 t v:=by
 rcases r with r|⟨ts,a,vs,aR,a7,jq,r⟩
 ·exact .inl (r.ext x)
 ·exact .inr ⟨ts,a,vs,aR,a7,x.same.get jq,r.ext x⟩
theorem gv.gL(r:gv K O F H .none v):v=.gL:=by
 rcases r with r|⟨ts,a,vs,aR,_⟩
 ·simpa [Rep] using r
 ·cases aR
theorem gv.dy{b:Bool}(r:gv K O F H (.bool b) v):v=.dy b:=by
 rcases r with r|⟨ts,a,vs,aR,_⟩
 ·simpa [Rep] using r
 ·cases aR
theorem gv.int{i:Int}(r:gv K O F H (.int i) v):v=.int i:=by
 rcases r with r|⟨ts,a,vs,aR,_⟩
 ·simpa [Rep] using r
 ·cases aR
theorem gv.str{x:Str}(r:gv K O F H (.str x) v):v=.str x:=by
 rcases r with r|⟨ts,a,vs,aR,_⟩
 ·simpa [Rep] using r
 ·cases aR
def gv.tup{ts:List T}(r:gv K O F H (.tuple ts) v):∃a vs,v=.ref a/\c7 K H a vs/\bj K F H ts vs:=by
 rcases r with r|⟨ts,a,vs,aR,_⟩
 ·simpa [Rep] using r
 ·cases aR
theorem gv.lst{ts:List T}(r:gv K O F H (.list ts) v):∃a vs,v=.ref a/\e' H a (.lst vs)/\bj K F H ts vs:=by
 rcases r with r|⟨us,a,vs,aR,a7,jq,r⟩
 ·simp only[Rep] at r;obtain⟨a,vs,e,_,q,z⟩:=r;exact⟨a,vs,e,q,z⟩
 ·cases aR
  exact⟨a,vs,a7,.inl jq,r⟩
end
noncomputable def eO(K:bo)(F:ak->Prop)(H:aE):List (D.Key×T)->List (D.Key×V)->Prop
| [],vs=>vs=[]
|p::ts,vs=>∃v r,vs=(p.1,v)::r/\Rep K F H p.2 v/\eO K F H ts r
theorem eO.aB{K:bo}{F aM:ak->Prop}{H aj:aE}(x:eJ K F H aM aj):∀{ts:List (D.Key×T)} {vs:List (D.Key×V)},eO K F H ts vs->eO K aM aj ts vs
| [],vs,h=>h
|p::ts,vs,h=>by
  obtain⟨v,r,e,q,z⟩:=h;exact⟨v,r,e,q.aB x,eO.aB x z⟩
structure gu where
 h:aE
 hk:ak
noncomputable def gp:V->List ak
|.ref a=>[a]
|_=>[]
noncomputable def dN:aO->V->List ak
|.ab _,_=>[]
|_,v=>gp v
noncomputable def cZ:List aO->List V->List ak
|s::ss,v::vs=>dN s v++cZ ss vs
|_,_=>[]
noncomputable def Dt(H:aE):V->List V
|.ref a=>(match H a with
  |some (.ins _ _ kvs)=>kvs.map (·.2)
  |some (.dA kvs)=>kvs.map (·.2)
  |_=>[])
|_=>[]
noncomputable def dS(H:aE):aO->V->List ak
|.ab _,_=>[]
|.own _,v=>gp v
|.h5 _,v=>gp v
|.obj _ _ az,v=>gp v++cZ az (Dt H v)
noncomputable def gR(H:aE)(a:ak)(c:Nat)(vs:List V):Prop:=vs.length<=(c5.eB c).length/\match c5.jT c with
|some C=>∃bF,H a=some (.ins C bF ((c5.eB c).zip vs))
|none=>H a=some (.dA (((c5.eB c).zip vs).map λp=>(.inr p.1,p.2)))
noncomputable def k3(K:bo)(F:ak->Prop)(H:aE):aO->V->Prop
|.ab t,v=>Rep K F H t v
|.own ts,v=>∃b us,v=.ref b/\H b=some (.lst us)/\bj K F H ts us
|.h5 kvs,v=>∃b us,v=.ref b/\H b=some (.dA us)/\eO K F H kvs us
|.obj _ _ _,_=>False
noncomputable def fT(K:bo)(F:ak->Prop)(H:aE):List aO->List V->Prop
| [],vs=>vs=[]
|s::ss,vs=>∃v r,vs=v::r/\k3 K F H s v/\fT K F H ss r
noncomputable def ro(E:gu)(O F:ak->Prop)(m:hA)(b:ak):Prop:=¬F b/\match m with
|.fM=>E.h b≠none
|_=>O b
noncomputable def eH(K:bo)(E:gu)(O F:ak->Prop)(H:aE):aO->V->Prop
|.ab t,v=>Rep K F H t v
|.own ts,v=>∃a vs,v=.ref a/\¬F a/\O a/\H a=some (.lst vs)/\bj K F H ts vs
|.h5 kvs,v=>∃a vs,v=.ref a/\¬F a/\O a/\H a=some (.dA vs)/\eO K F H kvs vs
|.obj m c az,v=>∃a vs,v=.ref a/\gR H a c vs/\fT K F H az vs/\(a::cZ az vs).Nodup/\(∀b∈a::cZ az vs,ro E O F m b)/\(m=.cM->a=E.hk)
noncomputable def aO.iU:aO->Bool
|.ab _=>false
|.obj .fM _ _=>false
|_=>true
section
variable {K:bo}{F aM O nZ:ak->Prop}{H aj:aE}{E:gu}
theorem Lf{α β:Type}:∀{xs:List α} {ys:List β},ys.length<=xs.length->(xs.zip ys).map (·.2)=ys
|xs,[],_=>by simp
| [],y::ys,h=>by simp at h
|x::xs,y::ys,h=>by simp[Lf (xs:=xs) (ys:=ys) (by simpa using h)]
def gR.vals{a:ak}{c:Nat}{vs:List V}(h:gR H a c vs):Dt H (.ref a)=vs:=by
 obtain⟨ay,h⟩:=h;unfold Dt;split at h
 ·obtain⟨bF,e⟩:=h;simp only[e];exact Lf ay
 ·simp only[h,nJ];exact Lf ay
def gR.mem{a:ak}{c:Nat}{vs:List V}(h:gR H a c vs):∃o,H a=some o/\nY o:=by
 obtain⟨ay,h⟩:=h;split at h
 ·obtain⟨bF,e⟩:=h;exact⟨_,e,.inr (.inr ⟨_,_,_,rfl⟩)⟩
 ·exact⟨_,h,.inr (.inl ⟨_,rfl⟩)⟩
def gR.keep{a:ak}{c:Nat}{vs:List V}(h:gR H a c vs)(e:aj a=H a):gR aj a c vs:=by
 obtain⟨ay,h⟩:=h;refine⟨ay,?_⟩;rw[e];exact h
def wg{v:V}{b:ak}(h:b∈gp v):v=.ref b:=by
 unfold gp at h;split at h
 ·simp at h;rw[h]
 ·simp at h
theorem k3.at{s:aO}{v:V}{b:ak}(r:k3 K F H s v)(h:b∈dN s v):∃o,H b=some o/\nY o:=by
 cases s with
|ab t=>simp[dN] at h
|own ts=>
  obtain⟨o9,us,e,jr,_⟩:=r;have:=wg h;rw[e] at this;cases this;exact⟨_,jr,.inl ⟨_,rfl⟩⟩
|h5 ts=>
  obtain⟨o9,us,e,jr,_⟩:=r;have:=wg h;rw[e] at this;cases this;exact⟨_,jr,.inr (.inl ⟨_,rfl⟩)⟩
|obj m c az=>exact r.elim
theorem fT.at:∀{az:List aO} {vs:List V} {b:ak},fT K F H az vs->b∈cZ az vs->∃o,H b=some o/\nY o
| [],vs,b,r,h=>by simp[cZ] at h
|s::ss,vs,b,r,h=>by
  obtain⟨v,z,rfl,bg,cf⟩:=r;rw[show cZ (s::ss) (v::z)=dN s v++cZ ss z from rfl] at h;rcases j2.mp h with h|h
  ·exact bg.at h
  ·exact fT.at cf h
def jj{m:hA}{c:Nat}{az:List aO}{a:ak}{vs:List V}(h:gR H a c vs):dS H (.obj m c az) (.ref a)=a::cZ az vs:=by
 show gp (.ref a)++cZ az (Dt H (.ref a))=_
 rw[h.vals];rfl
theorem eH.at{s:aO}{v:V}{b:ak}(r:eH K E O F H s v)(h:b∈dS H s v):∃o,H b=some o/\nY o:=by
 cases s with
|ab t=>simp[dS] at h
|own ts=>
  obtain⟨o9,us,e,_,_,jr,_⟩:=r;have:=wg h;rw[e] at this;cases this;exact⟨_,jr,.inl ⟨_,rfl⟩⟩
|h5 ts=>
  obtain⟨o9,us,e,_,_,jr,_⟩:=r;have:=wg h;rw[e] at this;cases this;exact⟨_,jr,.inr (.inl ⟨_,rfl⟩)⟩
|obj m c az=>
  obtain⟨a,vs,rfl,ax,hf,_⟩:=r;rw[jj ax] at h;rcases cO.mp h with rfl|h
  ·exact ax.mem
  ·exact hf.at h
def eH.held{s:aO}{v:V}{b:ak}(r:eH K E O F H s v)(h:b∈dS H s v):¬F b/\(s.iU=true->O b)/\(s.iU=false->E.h b≠none):=by
 cases s with
|ab t=>simp[dS] at h
|own ts=>
  obtain⟨o9,us,e,n,o,jr,_⟩:=r;have:=wg h;rw[e] at this;cases this;exact⟨n,λ_=>o,λz=>by cases z⟩
|h5 ts=>
  obtain⟨o9,us,e,n,o,jr,_⟩:=r;have:=wg h;rw[e] at this;cases this;exact⟨n,λ_=>o,λz=>by cases z⟩
|obj m c az=>
  obtain⟨a,vs,rfl,ax,hf,aW,fB,_⟩:=r;rw[jj ax] at h;obtain⟨n,q⟩:=fB b h;refine⟨n,λz=>?_,λz=>?_⟩
  ·cases m with
   |fM=>cases z
   |own=>exact q
   |cM=>exact q
  ·cases m with
   |fM=>exact q
   |own=>cases z
   |cM=>cases z
def k3.keep{s:aO}{v:V}(r:k3 K F H s v)(aB:eJ K F H aM aj)(c6:∀b∈dN s v,aj b=H b):k3 K aM aj s v:=by
 cases s with
|ab t=>exact Rep.aB r aB
|own ts=>
  obtain⟨b,us,rfl,jr,z⟩:=r;exact⟨b,us,rfl,by rw[c6 b (by simp[dN,gp])];exact jr,z.aB aB⟩
|h5 ts=>
  obtain⟨b,us,rfl,jr,z⟩:=r;exact⟨b,us,rfl,by rw[c6 b (by simp[dN,gp])];exact jr,eO.aB aB z⟩
|obj m c az=>exact r.elim
theorem fT.keep:∀{az:List aO} {vs:List V},fT K F H az vs->eJ K F H aM aj->(∀b∈cZ az vs,aj b=H b)->fT K aM aj az vs
| [],vs,r,_,_=>r
|s::ss,vs,r,aB,c6=>by
  obtain⟨v,z,rfl,bg,cf⟩:=r;rw[show cZ (s::ss) (v::z)=dN s v++cZ ss z from rfl] at c6;exact⟨v,z,rfl,bg.keep aB λb h=>c6 b (j2.mpr (.inl h)),fT.keep cf aB λb h=>c6 b (j2.mpr (.inr h))⟩
theorem eH.keep{s:aO}{v:V}(r:eH K E O F H s v)(aB:eJ K F H aM aj)(c6:∀b∈dS H s v,aj b=H b)(hf:∀b∈dS H s v,aM b->F b)(aH:∀b∈dS H s v,O b->nZ b):
  eH K E nZ aM aj s v/\dS aj s v=dS H s v:=by
 cases s with
|ab t=>exact⟨Rep.aB r aB,rfl⟩
|own ts=>
  obtain⟨a,vs,rfl,n,o,jr,z⟩:=r;have m:a∈dS H (.own ts) (.ref a):=by simp[dS,gp]
  exact⟨⟨a,vs,rfl,λf=>n (hf a m f),aH a m o,by rw[c6 a m];exact jr,z.aB aB⟩,rfl⟩
|h5 ts=>
  obtain⟨a,vs,rfl,n,o,jr,z⟩:=r;have m:a∈dS H (.h5 ts) (.ref a):=by simp[dS,gp]
  exact⟨⟨a,vs,rfl,λf=>n (hf a m f),aH a m o,by rw[c6 a m];exact jr,eO.aB aB z⟩,rfl⟩
|obj m c az=>
  obtain⟨a,vs,rfl,ax,av,aW,fB,hk⟩:=r;rw[jj ax] at c6 hf aH;have l0:gR aj a c vs:=ax.keep (c6 a (by simp));refine⟨⟨a,vs,rfl,l0,av.keep aB λb h=>c6 b (dT _ h),aW,λb h=>?_,hk⟩,by rw[jj ax,jj l0]⟩;obtain⟨n,q⟩:=fB b h;refine⟨λf=>n (hf b h f),?_⟩;cases m with
  |fM=>exact q
  |own=>exact aH b h q
  |cM=>exact aH b h q
def eH.w9{s:aO}{v:V}(r:eH K E O F H s v)(x:Ext F H aM aj):eH K E O aM aj s v/\dS aj s v=dS H s v:=
 r.keep x.aB (λb h=>by
  obtain⟨o,e,m⟩:=r.at h;rw[e];exact x.same.get e λps z=>by subst z;exact m.cases (λ_ z=>by cases z) (λ_ z=>by cases z) (λ_ _ _ z=>by cases z)) (λb h f=>by
  rcases x.new b f with z|z
  ·exact z
  ·obtain⟨o,e,_⟩:=r.at h;rw[z] at e;cases e) λ_ _ o=>o
def eH.ext{s:aO}{v:V}(r:eH K E O F H s v)(x:Ext F H aM aj):eH K E O aM aj s v:=(r.w9 x).1
end
structure cJ(K:bo)(aF:ak->Prop)(E:gu)(O F:ak->Prop)(H:aE)(ag:Ev)(σ:bw.St):Prop where
 len:ag.length=σ.length
 val:∀(i:Nat) (s:aO),ag[i]?=some (some s)->∃v,σ[i]?=some (some v)/\eH K E O F H s v
 ne:∀(i j:Nat) (s u:aO) (v w:V),i≠j->ag[i]?=some (some s)->ag[j]?=some (some u)->s.iU=true->u.iU=true->σ[i]?=some (some v)->σ[j]?=some (some w)->∀a∈dS H s v,a∉dS H u w
 ent:Ext aF E.h F H
 o0:∀a,O a->E.h a=none
 fr:∀a,H a=none->O a
section
variable {K:bo}{aF O F aZ:ak->Prop}{E:gu}{H H1:aE}{ag:Ev}{σ:bw.St}
theorem cJ.cn(r:cJ K aF E O F H ag σ):gS F H:=r.ent.cn
theorem cJ.ext(r:cJ K aF E O F H ag σ)(x:Ext F H aZ H1):cJ K aF E O aZ H1 ag σ:=
 ⟨r.len,λi s e=>by
  obtain⟨v,ah,ao⟩:=r.val i s e;exact⟨v,ah,ao.ext x⟩,λi j s u v w kO aR a7 dD fu ah ao=>by
  obtain⟨ks,eT,bg⟩:=r.val i s aR;obtain⟨gc,gk,cf⟩:=r.val j u a7;rw[ah] at eT;rw[ao] at gk;cases eT;cases gk;rw[(bg.w9 x).2,(cf.w9 x).2];exact r.ne i j s u v w kO aR a7 dD fu ah ao,r.ent.trans x,r.o0,λa e=>r.fr a (x.same.none e)⟩
def get_set{α:Type}{l:List (Option α)}{i j:Nat}{x:Option α}{y:α}(h:(l.set i x)[j]?=some (some y)):(i=j/\x=some y/\j<l.length)\/(i≠j/\l[j]?=some (some y)):=by
 rw[vp] at h;by_cases e:i=j
 ·subst e;rw[if_pos rfl] at h;split at h
  next ay=>exact .inl ⟨rfl,e3 h,ay⟩
  next=>cases h
 ·rw[if_neg e] at h;exact .inr ⟨e,h⟩
def Lh{α:Type}{l:List (Option α)}{i:Nat}{x:Option α}(h:i<l.length):(l.set i x)[i]?=some x:=by
 rw[vp,if_pos rfl,if_pos h]
def CA{α:Type}{l:List (Option α)}{i j:Nat}{x:Option α}(h:i≠j):(l.set i x)[j]?=l[j]?:=by
 rw[vp,if_neg h]
def cJ.setG{s:aO}{v:V}(r:cJ K aF E O F H ag σ)(i:Nat)(h:eH K E O F H s v)(fr:s.iU=true->∀(j:Nat) (u:aO) (w:V),i≠j->ag[j]?=some (some u)->u.iU=true->σ[j]?=some (some w)->∀a∈dS H s v,a∉dS H u w):
  cJ K aF E O F H (ag.set i (some s)) (σ.set i (some v)):=by
 refine⟨by simp[r.len],λj u e=>?_,λj k u w fD mS pj aR a7 dD fu ah ao=>?_,r.ent,r.o0,r.fr⟩
 ·rcases get_set e with ⟨rfl,b1,ay⟩|⟨ne,b1⟩
  ·cases b1
   exact⟨_,Lh (by rw[<- r.len];exact ay),h⟩
  ·obtain⟨w,ah,ao⟩:=r.val j u b1;exact⟨w,by rw[CA ne];exact ah,ao⟩
 ·rcases get_set aR with ⟨rfl,b1,ay⟩|⟨ne1,kL⟩
  ·rcases get_set a7 with ⟨rfl,_,_⟩|⟨ne2,h6⟩
   ·exact absurd rfl pj
   ·rw[Lh (by rw[<- r.len];exact ay)] at ah;rw[CA ne2] at ao;cases ah;cases b1;exact fr dD k w mS ne2 h6 fu ao
  ·rw[CA ne1] at ah;rcases get_set a7 with ⟨rfl,b1,ay⟩|⟨ne2,h6⟩
   ·rw[Lh (by rw[<- r.len];exact ay)] at ao;cases ao;cases b1;intro a ax ae;exact fr fu j u fD ne1 kL dD ah a ae ax
   ·rw[CA ne2] at ao;exact r.ne j k u w fD mS pj kL h6 dD fu ah ao
theorem cJ.set{t:T}{v:V}(r:cJ K aF E O F H ag σ)(i:Nat)(h:Rep K F H t v):cJ K aF E O F H (ag.set i (some (.ab t))) (σ.set i (some v)):=r.setG (s:=.ab t) i h λz=>by cases z
def cJ.acj{s:aO}{v:V}(r:cJ K aF E O F H ag σ)(i:Nat)(x:Ext F H aZ H1)(h:eH K E O aZ H1 s v)(a8:∀a∈dS H1 s v,H a=none):cJ K aF E O aZ H1 (ag.set i (some s)) (σ.set i (some v)):=
 (r.ext x).setG i h λ_ j u w _ akW _ bD a ax ae=>by
  obtain⟨gc,ah,ao⟩:=r.val j u akW;rw[bD] at ah;cases ah;rw[(ao.w9 x).2] at ae;obtain⟨o,e,_⟩:=ao.at ae;rw[a8 a ax] at e;cases e
def RQ{x:ak}{o o':eW}(a8:¬F x)(hx:H x=some o)(hm:nY o):eJ K F H F (upd H x o'):=by
 refine⟨λb xs q=>?_,λb xs f q=>⟨f,?_⟩⟩
 ·rcases q with q|q
  ·refine .inl ?_
   have nb:b≠x:=by
    rintro rfl;rcases q with q|⟨_,q⟩ <;> (rw[hx] at q;cases q;exact hm.cases (λ_ z=>by cases z) (λ_ z=>by cases z) (λ_ _ _ z=>by cases z))
   rcases q with q|⟨u,q⟩
   ·exact .inl (by rw[cw nb];exact q)
   ·exact .inr ⟨u,by rw[cw nb];exact q⟩
  ·exact .inr q
 ·have nb:b≠x:=by
   rintro rfl;exact a8 f
  rcases q with q|⟨u,q⟩
  ·exact .inl (by rw[cw nb];exact q)
  ·exact .inr ⟨u,by rw[cw nb];exact q⟩
def Ri{x:ak}{o o':eW}{h0:aE}(e:Ext aF h0 F H)(XU:h0 x=none)(a8:¬F x)(hx:H x=some o)(hm:nY o):Ext aF h0 F (upd H x o'):=by
 refine⟨λb u q=>?_,e.sub,e.new,⟨λb f=>?_,e.cn.akT.O7 λu z=>by rw[hx] at z;cases z;exact hm⟩⟩
 ·have nb:b≠x:=by
   rintro rfl;rw[XU] at q;cases q
  rw[cw nb];exact e.same b u q
 ·have nb:b≠x:=by
   rintro rfl;exact a8 f
  rw[cw nb];exact e.cn b f
def cJ.xV{s s':aO}{v:V}{x:ak}{o':eW}(r:cJ K aF E O F H ag σ){i:Nat}(e:ag[i]?=some (some s))(aH:s.iU=true)(a':σ[i]?=some (some v))(hx:x∈dS H s v)
  (h:eJ K F H F (upd H x o')->eH K E O F (upd H x o') s' v)
  (aC:∀b∈dS (upd H x o') s' v,b∈dS H s v\/∀(j:Nat) (u:aO) (w:V),i≠j->ag[j]?=some (some u)->u.iU=true->σ[j]?=some (some w)->b∉dS H u w):
  eJ K F H F (upd H x o')/\cJ K aF E O F (upd H x o') (ag.set i (some s')) σ:=by
 obtain⟨ks,tn,rs⟩:=r.val i s e;rw[a'] at tn;cases tn;obtain⟨o,eo,hm⟩:=rs.at hx;obtain⟨Bh,lZ,_⟩:=rs.held hx;have X0:=lZ aH;have aB:eJ K F H F (upd H x o'):=RQ Bh eo hm;have h0:=r.o0 x X0;have keep:∀(j:Nat) (u:aO) (w:V),i≠j->ag[j]?=some (some u)->σ[j]?=some (some w)->eH K E O F H u w->eH K E O F (upd H x o') u w/\dS (upd H x o') u w=dS H u w:=by
  intro j u w kO akW bD ea;refine ea.keep aB (λb ae=>cw ?_) (λ_ _ f=>f) λ_ _ o=>o;rintro rfl;cases rS:u.iU with
  |true=>exact r.ne i j s u v w kO e akW aH rS a' bD b hx ae
  |false=>exact (ea.held ae).2.2 rS h0
 refine⟨aB,⟨by simp[r.len],λj u b1=>?_,λj k u w fD mS pj aR a7 dD fu ah ao=>?_,Ri r.ent h0 Bh eo hm,r.o0,λb b1=>r.fr b ?_⟩⟩
 ·rcases get_set b1 with ⟨rfl,qq,ay⟩|⟨ne,qq⟩
  ·cases qq
   exact⟨_,a',h aB⟩
  ·obtain⟨w,ah,ao⟩:=r.val j u qq;exact⟨w,ah,(keep j u w ne qq ah ao).1⟩
 ·rcases get_set aR with ⟨rfl,b1,ay⟩|⟨ne1,kL⟩
  ·rcases get_set a7 with ⟨rfl,_,_⟩|⟨ne2,h6⟩
   ·exact absurd rfl pj
   ·cases b1
    rw[a'] at ah;cases ah;obtain⟨gc,gk,cf⟩:=r.val k w h6;rw[ao] at gk;cases gk;rw[(keep k w mS ne2 h6 ao cf).2];intro a ax ae;rcases aC a ax with z|z
    ·exact r.ne i k s w v mS ne2 e h6 aH fu a' ao a z ae
    ·exact z k w mS ne2 h6 fu ao ae
  ·obtain⟨v1,eT,bg⟩:=r.val j u kL;rw[ah] at eT;cases eT;rw[(keep j u fD ne1 kL ah bg).2];rcases get_set a7 with ⟨rfl,b1,ay⟩|⟨ne2,h6⟩
   ·cases b1
    rw[a'] at ao;cases ao;intro a ax ae;rcases aC a ae with z|z
    ·exact r.ne i j s u v fD ne1 e kL aH dD a' ah a z ax
    ·exact z j u fD ne1 kL dD ah ax
   ·obtain⟨gc,gk,cf⟩:=r.val k w h6;rw[ao] at gk;cases gk;rw[(keep k w mS ne2 h6 ao cf).2];exact r.ne j k u w fD mS pj kL h6 dD fu ah ao
 ·by_cases nb:b=x
  ·subst nb;rw[dH] at b1;cases b1
  ·rwa [cw nb] at b1
end
noncomputable def Jo(K:bo)(f:bI):TE:=λσ H Q=>∃aF aN O F ag t,cJ K aF aN O F H ag σ/\f ag=some t/\∀v aM aj,Ext F H aM aj->gv K O aM aj t v->Q v aj
noncomputable def vh(K:bo)(f:bI):TE:=λσ H Q=>∃aF aN O F ag t,cJ K aF aN O F H ag σ/\f ag=some t/\∀v aM aj,Ext F H aM aj->Rep K aM aj t v->Q v aj
noncomputable def O5(K:bo)(f:bI):TE:=λσ H Q=>∃aF aN O F ag ts,cJ K aF aN O F H ag σ/\f ag=some (.list ts)/\∀a vs aM aj,Ext F H aM aj->H a=none->¬aM a->aj a=some (.lst vs)->bj K aM aj ts vs->Q (.ref a) aj
noncomputable def Jp(K:bo)(f:fg):TT:=λσ H Q=>∃aF aN O F ag b,cJ K aF aN O F H ag σ/\f ag=some b/\∀aM aj,Ext F H aM aj->Q b aj
noncomputable def O2(K:bo)(az:List bI):fU:=λσ H Q=>∃aF aN O F ag ts,cJ K aF aN O F H ag σ/\args az ag=some ts/\∀vs aM aj,Ext F H aM aj->Paired (gv K O aM aj) ts vs->Q vs aj
noncomputable def adi(K:bo)(az:List bI):fU:=λσ H Q=>∃aF aN O F ag ts,cJ K aF aN O F H ag σ/\args az ag=some ts/\∀vs aM aj,Ext F H aM aj->bj K aM aj ts vs->Q vs aj
abbrev ez(X:bh)(e:bc)(f:bI):Prop:=bW X e (Jo X.K f)
abbrev cg(X:bh)(e:bc)(f:bI):Prop:=bW X e (vh X.K f)
abbrev o4(X:bh)(e:bc)(f:bI):Prop:=bW X e (O5 X.K f)
abbrev lR(X:bh)(e:bc)(f:fg):Prop:=lQ X e (Jp X.K f)
abbrev sP(X:bh)(e:bc)(f:fg):Prop:=n1 X e (Jp X.K f)
abbrev qi(X:bh)(es:List bc)(az:List bI):Prop:=hZ X es (O2 X.K az)
abbrev lP(X:bh)(es:List bc)(az:List bI):Prop:=hZ X es (adi X.K az)
def ec{X:bh}{e:bc}{t t':TE}(h:bW X e t)(k:∀σ H Q,t' σ H Q->t σ H Q):bW X e t':=λai s σ H Q I q=>h ai s σ H Q I (k σ H Q q)
def DC{X:bh}{e:bc}{t t':TT}(h:lQ X e t)(k:∀σ H Q,t' σ H Q->t σ H Q):lQ X e t':=λai s σ H Q I q=>h ai s σ H Q I (k σ H Q q)
def SU{X:bh}{e:bc}{t t':TT}(h:n1 X e t)(k:∀σ H Q,t' σ H Q->t σ H Q):n1 X e t':=λw ai s σ H Q I q=>h w ai s σ H Q I (k σ H Q q)
def zC{X:bh}{e:List bc}{t t':fU}(h:hZ X e t)(k:∀σ H Q,t' σ H Q->t σ H Q):hZ X e t':=λpos ai s σ H Q I q=>h pos ai s σ H Q I (k σ H Q q)
def ht{X:bh}{e:Stmt}{t t':h2}(h:kH X e t)(k:∀D σ H,t' D σ H->t D σ H):kH X e t':=λai s σ H D I q=>h ai s σ H D I (k D σ H q)
def R5{X:bh}{e:List Stmt}{t t':h2}(h:k7 X e t)(k:∀D σ H,t' D σ H->t D σ H):k7 X e t':=λai s σ H D I q=>h ai s σ H D I (k D σ H q)
section
variable {X:bh}{e:bc}{f:bI}
def au(h:cg X e f):ez X e f:=ec h λσ H Q ⟨aF,aN,O,F,ag,t,r,e,k⟩=>⟨aF,aN,O,F,ag,t,r,e,λv aM aj x q=>k v aM aj x (.inl q)⟩
def Ir(h:o4 X e f)(hf:∀ag t,f ag=some t->∃ts,t=.list ts):cg X e f:=ec h λσ H Q ⟨aF,aN,O,F,ag,t,r,e,k⟩=>by
 obtain⟨ts,rfl⟩:=hf _ _ e;refine⟨aF,aN,O,F,ag,ts,r,e,λa vs aM aj x a8 gn ax q=>?_⟩;have y:Ext F H (λb=>aM b\/b=a) aj:=⟨x.same,λb z=>.inl (x.sub b z),λb z=>by
  rcases z with z|rfl
  ·exact x.new b z
  ·exact .inr a8,⟨λb z=>by
  rcases z with z|rfl
  ·exact x.cn b z
  ·exact⟨_,ax⟩,x.cn.akT⟩⟩
 refine k (.ref a) _ aj y ?_
 simp only[Rep];exact⟨a,vs,rfl,.inr rfl,.inl ax,q.keep (λ_ _ z=>z) λb _ z w=>⟨.inl z,w⟩⟩
end
end
section
variable [c5]
section
variable {X:bh}{a b c e:bc}{f g h:bI}{pos:Pos}
def wA{t:T}{v:V}(he:bW X e (vg v))(av:∀F H,Rep X.K F H t v):cg X e (aa t):=ec he λσ H Q ⟨aF,aN,O,F,ag,t',r,e,k⟩=>by
 cases e
 exact k v F H (Ext.refl r.cn) (av _ _)
def aS{i j}:cg X (.Constant (.int i) j pos) (aa (.int i)):=wA ai7 λ_ _=>by simp[Rep]
def u_{i j}:cg X (.Constant (.bool i) j pos) (aa (.bool i)):=wA aj9 λ_ _=>by simp[Rep]
def aY{i j}:cg X (.Constant (.str i) j pos) (aa (.str i)):=wA ai3 λ_ _=>by simp[Rep]
def hu{j}:cg X (.Constant .none j pos) (aa .none):=wA ai5 λ_ _=>by simp[Rep]
def a3(i:Nat){x:Str}(fc:X.N[i]?=some x:=by rfl)(a':sR X.env.scope x:=by first|exact Or.inl rfl|exact Or.inr (Or.inl rfl)|exact Or.inr (Or.inr rfl))(hd:(x==("__debug__":Str))=false:=by decide)
  (ki:(x==("__classdict__":Str))=false:=by decide):ez X (.Name x pos) (nm i):=ec (aV i fc a' hd ki) λσ H Q ⟨aF,aN,O,F,ag,t,r,e,k⟩=>by
 unfold nm at e;split at e
 next t' he=>
  cases e
  obtain⟨v,ah,ao⟩:=r.val _ _ he;exact⟨v,ah,k v F H (Ext.refl r.cn) (.inl ao)⟩
 next ts he=>
  cases e
  obtain⟨v,ah,a,vs,rfl,n,h0,c6,av⟩:=r.val _ _ he;exact⟨_,ah,k _ F H (Ext.refl r.cn) (.inr ⟨ts,a,vs,rfl,rfl,c6,av⟩)⟩
 next=>cases e
def bk(i:Nat){x:Str}(fc:X.N[i]?=some x:=by rfl)(a':sR X.env.scope x:=by first|exact Or.inl rfl|exact Or.inr (Or.inl rfl)|exact Or.inr (Or.inr rfl))(hd:(x==("__debug__":Str))=false:=by decide)
  (ki:(x==("__classdict__":Str))=false:=by decide):cg X (.Name x pos) (aA i):=ec (aV i fc a' hd ki) λσ H Q ⟨aF,aN,O,F,ag,t,r,e,k⟩=>by
 unfold aA at e;split at e
 next t' he=>
  cases e
  obtain⟨v,ah,ao⟩:=r.val _ _ he;exact⟨v,ah,k v F H (Ext.refl r.cn) ao⟩
 next=>cases e
noncomputable def o3(K:bo)(o:T->T->Option T)(R:hP):Prop:=
 ∀(O F:ak->Prop) (H:aE) (x y t:T) (gP jD:V) (Q:dC),gS F H->gv K O F H x gP->gv K O F H y jD->o x y=some t ->
  (∀v aM aj,Ext F H aM aj->Rep K aM aj t v->Q v aj)->R gP jD H Q
def q7{o:T->T->Option T}{R:hP}(h:o3 X.K o R):∀σ H Q,vh X.K (af o f g) σ H Q->yg R (Jo X.K f) (Jo X.K g) σ H Q:=by
 rintro σ H Q ⟨aF,aN,O,F,ag,t,r,e,k⟩;simp only[af,cb] at e;obtain⟨x,ex,y,eL,eo⟩:=e;refine⟨aF,aN,O,F,ag,x,r,ex,λgP aZ H1 aL a4=>⟨aF,aN,O,aZ,ag,y,r.ext aL,eL,λjD cX bb bx bM=>?_⟩⟩;exact h O cX bb x y t gP jD Q bx.cn (a4.ext bx) bM eo λv aM aj d6 cU=>k v aM aj ((aL.trans bx).trans d6) cU
def Inv.xU{ai:List (ak×Obj)}{σ:bw.St}{H:aE}{s:aQ}{l:ak}{xs:List V}(I:Inv X ai σ H s)(js:e' H l (.lst xs)):
  xs.length<=cF/\∃(its:List aq) (n:Nat),Vals xs its/\xs.length=its.length/\s.heap.get? l=some {cls:=.type "list",data:=.seq its.toArray n}:=by
 obtain⟨z,its,n,r,e⟩:=js.ok I.b';exact⟨z,its,n,r,r.length,e⟩
noncomputable def ajX:hP:=λx y H Q=>∃l b xs zs,x=.ref l/\y=.ref b/\e' H l (.lst xs)/\e' H b (.lst zs)/\xs.length+zs.length<=cF/\∀p,H p=none->Q (.ref p) (upd H p (.lst (xs++zs)))
def aic:fz X (mZ .Add) ajX:=by
 intro ai s σ H x y v u Q I a4 bM h;obtain⟨l,b,xs,zs,rfl,rfl,js,ND,ar,q⟩:=h;cases a4;cases bM;obtain⟨z,its,n,r,ay,e⟩:=Inv.xU I js;obtain⟨hp,fA,gJ,cf,xw,a7⟩:=Inv.xU I ND;refine PySem.P.add_list e a7 ?_ (by rw[eb,eb];omega);have dR:its.toArray++fA.toArray=(its++fA).toArray:=by simp
 rw[dR];exact⟨.ref _,_,I.xS (t':=s.toks) (r.append cf) (by rw[qV];omega),rfl,q _ I.fresh⟩
noncomputable def aiP(K:bo):hP:=λx y H Q=>∃a b ys,x=.ref a/\y=.ref b/\c7 K H a []/\c7 K H b ys/\Q (.ref b) H
def ahc:fz X (mZ .Add) (aiP X.K):=by
 intro ai s σ H x y v u Q I a4 bM h;obtain⟨a,b,ys,rfl,rfl,ax,ae,q⟩:=h;cases a4;cases bM;obtain⟨its,bg,oy,_⟩:=I.tuple ax;obtain⟨fA,cf,e0,_⟩:=I.tuple ae;have ak':its=[]:=bg.Bl.mpr rfl;subst ak';obtain⟨⟨cls,dU,data,dr⟩,aH,aG,n,hd⟩:=id oy;obtain⟨⟨Fx,nh,data2,l8⟩,tj,xn,gJ,hd2⟩:=id e0;simp only at aG hd xn hd2;subst aG hd xn hd2;exact concat_meets ⟨_,aH,rfl⟩ ⟨_,tj,rfl⟩ noFill_tuple_add seq_tuple_add PySem.F.slot_tuple_add PySem.F.entry_tuple_add (PySem.F.args_tuple_add_2 _ _)
   (tuple_addW0 a b ([]:List aq).toArray fA.toArray n gJ dU nh dr l8 (by simp)) ⟨aH,tj,⟨.ref b,H,I,rfl,q⟩⟩
def k0:cF=big:=by rw[lE];rfl
def ih(ax:ez X a f)(ae:ez X b g):cg X (.BinOp a .Add b pos) (af cC f g):=
 ec (uB (ajc.or (afF.or (ahc.or (aib.or aic)))) ax ae) (q7 (by
  intro O F H x y t gP jD Q d a4 bM e k;unfold cC at e;split at e
  ·cases e
   rw[a4.int,bM.int];exact .inl ⟨_,_,rfl,rfl,k _ F H (Ext.refl d) (by simp[Rep])⟩
  ·split at e
   next ar=>
    cases e
    rw[a4.str,bM.str];exact .inr (.inl ⟨_,_,rfl,rfl,by rw[k0];exact ar,k _ F H (Ext.refl d) (by simp[Rep])⟩)
   next=>cases e
  ·split at e
   next xs ys ar=>
    cases e
    obtain⟨akV,vs,rfl,aw,av⟩:=a4.tup;obtain⟨VM,ws,rfl,jY,qz⟩:=bM.tup;cases xs with
    |nil=>
     simp only[bj] at av;subst av;refine .inr (.inr (.inl ⟨_,_,_,rfl,rfl,aw,jY,k _ F H (Ext.refl d) ?_⟩));simp only[Rep];exact⟨_,_,rfl,jY,by simpa using qz⟩
    |cons x0 O'=>
     refine .inr (.inr (.inr (.inl ⟨_,_,_,_,rfl,rfl,aw,jY,?_,?_,λeC=>?_,λeC p aC=>?_⟩)))
     ·intro z;subst z;have:=av.length;simp at this
     ·rw[k0,<- av.length,<- qz.length];exact ar
     ·refine k _ F H (Ext.refl d) ?_
      subst eC;have aR:ys=[]:=List.eq_nil_of_length_eq_zero (by rw[qz.length];rfl);subst aR;simp only[Rep];exact⟨_,_,rfl,aw,by simpa using av⟩
     ·have aL:=Ext.laid (o:=.tup (vs++ws)) d aC;refine k _ F _ aL ?_;simp only[Rep];exact⟨p,_,rfl,c7.of dH,(av.append qz).ext aL⟩
   next=>cases e
  ·split at e
   next xs ys ar=>
    cases e
    obtain⟨akV,vs,rfl,aw,av⟩:=a4.lst;obtain⟨VM,ws,rfl,jY,qz⟩:=bM.lst;refine .inr (.inr (.inr (.inr ⟨_,_,_,_,rfl,rfl,aw,jY,by rw[k0,<- av.length,<- qz.length];exact ar,λp aC=>?_⟩)));have aL:=Ext.Bg (o:=.lst (vs++ws)) d aC;refine k _ _ _ aL ?_;simp only[Rep];exact⟨p,_,rfl,.inr rfl,.inl dH,(av.append qz).ext aL⟩
   next=>cases e
  ·cases e))
def zD(ax:ez X a f)(ae:ez X b g):cg X (.BinOp a .Sub b pos) (af km f g):=
 ec (uB ai' ax ae) (q7 (by
  intro O F H x y t gP jD Q d a4 bM e k;unfold km at e;split at e
  ·cases e
   rw[a4.int,bM.int];exact⟨_,_,rfl,rfl,k _ F H (Ext.refl d) (by simp[Rep])⟩
  ·cases e))
def sy(ax:ez X a f)(ae:ez X b g):cg X (.BinOp a .Mult b pos) (af ef f g):=
 ec (uB aja ax ae) (q7 (by
  intro O F H x y t gP jD Q d a4 bM e k;unfold ef at e;split at e
  ·split at e
   next hm=>
    cases e
    rw[a4.int,bM.int];refine⟨_,_,rfl,rfl,?_,k _ F H (Ext.refl d) (by simp[Rep])⟩;simpa [wC,zL] using hm
   next=>cases e
  ·cases e))
def jl(ax:ez X a f)(ae:ez X b g):cg X (.BinOp a .FloorDiv b pos) (af oDiv f g):=
 ec (uB aia ax ae) (q7 (by
  intro O F H x y t gP jD Q d a4 bM e k;unfold oDiv at e;split at e
  ·split at e
   next hm=>
    cases e
    rw[a4.int,bM.int];exact⟨_,_,rfl,rfl,hm,k _ F H (Ext.refl d) (by simp[Rep])⟩
   next=>cases e
  ·cases e))
def hv(ax:ez X a f)(ae:ez X b g):cg X (.BinOp a .Mod b pos) (af oMod f g):=
 ec (uB ajb ax ae) (q7 (by
  intro O F H x y t gP jD Q d a4 bM e k;unfold oMod at e;split at e
  ·split at e
   next hm=>
    cases e
    rw[a4.int,bM.int];exact⟨_,_,rfl,rfl,hm,k _ F H (Ext.refl d) (by simp[Rep])⟩
   next=>cases e
  ·cases e))
def bU(ax:ez X a f)(ae:ez X b g)(aw:R4 b:=by intro _ _;rfl):cg X (.Subscript a b pos) (af aK f g):=
 ec (aj8 ajr ax ae aw) (q7 (by
  intro O F H x y t gP jD Q d a4 bM e k;unfold aK at e;split at e
  ·obtain⟨akV,vs,rfl,aw,av⟩:=a4.tup;rw[bM.int];simp only[gh,cb] at e;obtain⟨j,bD,bB⟩:=e;obtain⟨v,a',b8⟩:=av.get bB;refine .inr (.inl ⟨_,_,_,v,rfl,rfl,aw,?_,k _ F H (Ext.refl d) b8⟩);rw[av.length] at bD;show (pq _ _).bind _=_;rw[show pq vs.length _=some j from bD];exact a'
  ·obtain⟨akV,vs,rfl,aw,av⟩:=a4.lst;rw[bM.int];simp only[gh,cb] at e;obtain⟨j,bD,bB⟩:=e;obtain⟨v,a',b8⟩:=av.get bB;refine .inl ⟨_,_,_,v,rfl,rfl,.inl aw,?_,k _ F H (Ext.refl d) b8⟩;rw[av.length] at bD;show (pq _ _).bind _=_;rw[show pq vs.length _=some j from bD];exact a'
  ·split at e
   next ar=>
    rw[a4.str,bM.int];simp only[dP] at e;obtain⟨c,aG,rfl⟩:=e;exact .inr (.inr ⟨_,_,c,rfl,rfl,by rw[k0];exact ar,aG,k _ F H (Ext.refl d) (by simp[Rep])⟩)
   next=>cases e
  ·cases e))
end
end
section
variable [c5]
noncomputable def zN(K:bo)(aF:ak->Prop)(aN:gu)(O F:ak->Prop)(H:aE)(D:Ends):Out->Prop
|.bY ε'=>∀cq aM aj,eJ K F H aM aj->cJ K aF aN O aM aj ε' cq->D.bY cq aj
|.e1 t=>∀v aM aj,Ext aF aN.h aM aj->Rep K aM aj t v->D.e1 v aj
|.fN t ε'=>∀v cq aM aj,cJ K aF aN O aM aj ε' cq->Rep K aM aj t v->D.e1 v aj
|.l6 s=>∀a aM aj,Ext aF aN.h aM aj->eH K aN O aM aj s (.ref a)->D.e1 (.ref a) aj
|.iK ε'=>∀cq aM aj,eJ K F H aM aj->cJ K aF aN O aM aj ε' cq->D.iK cq aj
|.fj ε'=>∀cq aM aj,eJ K F H aM aj->cJ K aF aN O aM aj ε' cq->D.fj cq aj
noncomputable def O6(K:bo)(g:bz):h2:=λD σ H=>∃aF aN O F ag o,cJ K aF aN O F H ag σ/\g ag=some o/\zN K aF aN O F H D o
abbrev fS(X:bh)(s:Stmt)(g:bz):Prop:=kH X s (O6 X.K g)
abbrev iF(X:bh)(s:List Stmt)(g:bz):Prop:=k7 X s (O6 X.K g)
def zN.aB{K:bo}{aF O F aZ:ak->Prop}{aN:gu}{H H1:aE}{D:Ends}{o:Out}(h:zN K aF aN O F H D o)(x:eJ K F H aZ H1):zN K aF aN O aZ H1 D o:=by
 cases o with
|bY ag=>exact λcq aM aj k r=>h cq aM aj (x.trans k) r
|e1 t=>exact h
|iK ag=>exact λcq aM aj k r=>h cq aM aj (x.trans k) r
|fj ag=>exact λcq aM aj k r=>h cq aM aj (x.trans k) r
|fN t ag=>exact h
|l6 s=>exact h
section
variable {X:bh}{e a b c:bc}{f:bI}{g g':bz}{gx:fg}{st:Stmt}{rest:List Stmt}{pos:Pos}
def eG:iF X [] skip:=R5 RG λD σ H ⟨aF,aN,O,F,ag,o,r,e,k⟩=>by
 cases e
 exact k σ F H eJ.refl r
def bE(h:fS X st g):iF X [st] g:=RF h
def bu(ah:fS X st g)(ao:iF X rest g'):iF X (st::rest) (seq g g'):=R5 (ag8 ah ao) λD σ H ⟨aF,aN,O,F,ag,o,r,e,k⟩=>by
 simp only[seq,cb] at e;obtain⟨dD,aR,a7⟩:=e;refine⟨aF,aN,O,F,ag,dD,r,aR,?_⟩;cases dD with
|bY ε'=>exact λcq aM aj x cE=>⟨aF,aN,O,aM,ε',o,cE,a7,k.aB x⟩
|e1 t=>
  cases a7
  exact k
|iK ε'=>
  cases a7
  exact k
|fj ε'=>
  cases a7
  exact k
|fN t ε'=>
  cases a7
  exact k
|l6 s=>
  cases a7
  exact k
def fL(h:cg X e f):fS X (.Return (some e) pos) (cI f):=ht (zx h) λD σ H ⟨aF,aN,O,F,ag,o,r,e,k⟩=>by
 simp only[cI,dP] at e;obtain⟨t,bB,rfl⟩:=e;exact⟨aF,aN,O,F,ag,t,r,bB,λv aM aj x q=>k v aM aj (r.ent.trans x) q⟩
def LC(i:Nat){x:Str}{_j:Pos}(fc:X.N[i]?=some x:=by rfl)(a':sR X.env.scope x:=by first|exact Or.inl rfl|exact Or.inr (Or.inl rfl)|exact Or.inr (Or.inr rfl))(hd:(x==("__debug__":Str))=false:=by decide)
  (ki:(x==("__classdict__":Str))=false:=by decide):fS X (.Return (some (.Name x _j)) pos) (cI (nm i)):=ht (zx (aV i fc a' hd ki)) λD σ H ⟨aF,aN,O,F,ag,o,r,e,k⟩=>by
 simp only[cI,dP] at e;obtain⟨t,bB,rfl⟩:=e;unfold nm at bB;split at bB
 next t' he=>
  cases bB
  obtain⟨v,ah,ao⟩:=r.val _ _ he;exact⟨v,ah,k v F H r.ent ao⟩
 next ts he=>
  cases bB
  obtain⟨v,ah,a,vs,rfl,n,h0,ax,q⟩:=r.val _ _ he;have bx:=r.ent;have y:Ext aF aN.h (λb=>F b\/b=a) H:=⟨bx.same,λb z=>.inl (bx.sub b z),λb z=>by
   rcases z with z|rfl
   ·exact bx.new b z
   ·exact .inr (r.o0 _ h0),⟨λb z=>by
   rcases z with z|rfl
   ·exact bx.cn b z
   ·exact⟨_,ax⟩,bx.cn.akT⟩⟩
  refine⟨_,ah,k _ _ H y ?_⟩
  simp only[Rep];exact⟨a,vs,rfl,.inr rfl,.inl ax,q.keep (λ_ _ z=>z) λb _ z w=>⟨.inl z,w⟩⟩
 next=>cases bB
def dh(aG:lR X c gx)(ax:iF X rest g){w8:List Stmt}(ae:iF X w8 g'):fS X (.If c rest w8 pos) (iff gx g g'):=ht (S3 aG ax ae) λD σ H ⟨aF,aN,O,F,ag,o,r,e,k⟩=>by
 simp only[iff,cb] at e;obtain⟨b,dk,e⟩:=e;refine⟨aF,aN,O,F,ag,b,r,dk,λaM aj x=>?_⟩;cases b with
|true=>exact xK ⟨aF,aN,O,aM,ag,o,r.ext x,by simpa using e,k.aB x.aB⟩
|false=>exact xJ ⟨aF,aN,O,aM,ag,o,r.ext x,by simpa using e,k.aB x.aB⟩
def ed(i:Nat){x:Str}{pos':Pos}(fc:X.N.Nodup)(he:cg X e f)(aU:X.N[i]?=some x:=by rfl)(hx:Loc X.env.scope x:=by first|exact Or.inl rfl|exact Or.inr rfl)
  (aw:jg e (some (.Name x pos')) pos.line X.env=pure false:=by rfl) (hf:X.fn x=true\/X.env.scope.names.lookup x=some .local:=by first|exact .inl rfl|exact .inr rfl):
  fS X (.Assign [.Name x pos'] e pos) (asg i f):=ht (Sp fc aU hx he aw hf) λD σ H ⟨aF,aN,O,F,ag,o,r,e,k⟩=>by
 simp only[asg,dP] at e;obtain⟨t,bB,rfl⟩:=e;refine⟨aF,aN,O,F,ag,t,r,bB,λv aM aj x q=>?_⟩;exact k _ aM aj x.aB ((r.ext x).set i q)
noncomputable def tG(K:bo)(g:hO):nc:=λv σ H Q=>∃aF aN O F ag t ε',cJ K aF aN O F H ag σ/\Rep K F H t v/\g t ag=some ε'/\∀cq,cJ K aF aN O F H ε' cq->Q cq H
noncomputable def ado(K:bo)(eP:List hO):qm:=λvs σ H Q=>∃aF aN O F ag ts ε',cJ K aF aN O F H ag σ/\bj K F H ts vs/\gy eP ts ag=some ε'/\∀cq,cJ K aF aN O F H ε' cq->Q cq H
abbrev k6(X:bh)(e:bc)(g:hO):Prop:=qj X e (tG X.K g)
abbrev alb(X:bh)(es:List bc)(eP:List hO):Prop:=sN X es (ado X.K eP)
def SW{X:bh}{e:bc}{t t':nc}(h:qj X e t)(k:∀v σ H Q,t' v σ H Q->t v σ H Q):qj X e t':=λai s σ H v u Q I r q=>h ai s σ H v u Q I r (k v σ H Q q)
def R6{X:bh}{e:List bc}{t t':qm}(h:sN X e t)(k:∀v σ H Q,t' v σ H Q->t v σ H Q):sN X e t':=λai s σ H v u Q I r q=>h ai s σ H v u Q I r (k v σ H Q q)
def fk(i:Nat){x:Str}(fc:X.N.Nodup)(aU:X.N[i]?=some x:=by rfl)(hx:Loc X.env.scope x:=by first|exact Or.inl rfl|exact Or.inr rfl)
  (hf:X.fn x=true\/X.env.scope.names.lookup x=some .local:=by first|exact .inl rfl|exact .inr rfl):k6 X (.Name x pos) (bJ i):=SW (ah8 fc aU hx hf) λv σ H Q ⟨aF,aN,O,F,ag,t,ε',r,q,e,k⟩=>by
 cases e
 exact k _ (r.set i q)
def p_:alb X [] []:=R6 ah7 λvs σ H Q ⟨aF,aN,O,F,ag,ts,ε',r,q,e,k⟩=>by
 cases ts with
|nil=>
  cases e
  simp only[bj] at q;exact⟨q,k σ r⟩
|cons t ts=>cases e
def jk{es:List bc}{g:hO}{eP:List hO}(ah:k6 X e g)(ao:alb X es eP)(aw:(nL (e::es) X.env).map (·.2)=assign e X.env::(nL es X.env).map (·.2):=by rfl):alb X (e::es) (g::eP):=
 R6 (ag_ ah ao aw) λvs σ H Q ⟨aF,aN,O,F,ag,ts,ε',r,q,e,k⟩=>by
 cases ts with
|nil=>cases e
|cons t ts=>
  simp only[gy,cb] at e;obtain⟨iB,aR,a7⟩:=e;simp only[bj] at q;obtain⟨v,Jv,rfl,aP,ba⟩:=q;exact⟨v,Jv,rfl,aF,aN,O,F,ag,t,iB,r,aP,aR,λTb bg=>⟨aF,aN,O,F,iB,ts,ε',bg,ba,a7,k⟩⟩
theorem Rf:∀{eP:List hO} {ts:List T} {ag ε':Ev},gy eP ts ag=some ε'->ts.length=eP.length
| [],[],_,_,_=>rfl
| [],_::_,_,_,h=>by cases h
|_::_,[],_,_,h=>by cases h
|g::eP,t::ts,ag,ε',h=>by
  simp only[gy,cb] at h;obtain⟨iB,_,h⟩:=h;simp[Rf h]
def p9{es:List bc}{k:Nat}{eP:List hO}(h:alb X es eP)(aG:X.calm=true:=by rfl)(a8:(nL es X.env).length=eP.length:=by rfl)(mJ:(nL es X.env).findIdx? (·.1)=none:=by rfl):
  k6 X (.Tuple es k pos) (dq eP):=SW (aiZ aG h a8 mJ) λv σ H Q ⟨aF,aN,O,F,ag,t,ε',r,q,e,k⟩=>by
 unfold dq at e;split at e
 next ts=>
  simp only[Rep] at q;obtain⟨a,vs,rfl,aw,av⟩:=q;exact⟨a,vs,rfl,aw,by rw[<- av.length];exact Rf e,aF,aN,O,F,ag,ts,ε',r,av,e,k⟩
 next=>cases e
def aiL{cH:bc}{g:hO}(he:cg X e f)(bt:k6 X cH g)(aw:swapsWithSole [cH] e pos.line X.env=pure false:=by rfl)(hw:swappedStores [cH] e X.env=pure none:=by rfl)
  (ah:(nL [cH] X.env).map (·.2)=[assign cH X.env]:=by rfl):fS X (.Assign [cH] e pos) (hR g f):=ht (Sr he bt aw hw ah) λD σ H ⟨aF,aN,O,F,ag,o,r,e,k⟩=>by
 simp only[hR,cb,dP] at e;obtain⟨t,bB,ε',mA,rfl⟩:=e;refine⟨aF,aN,O,F,ag,t,r,bB,λv aM aj x q=>?_⟩;exact⟨aF,aN,O,aM,ag,t,ε',r.ext x,q,mA,λcq cE=>k cq aM aj x.aB cE⟩
structure rm(K:bo)(J:kG)(aZ:ak->Prop)(H1:aE)(ts:List T):Prop where
 go:∀i F H t,eJ K aZ H1 F H->gS F H->ts[i]?=some t->J.go i H
 kY:∀i F H t x aj,eJ K aZ H1 F H->gS F H->ts[i]?=some t->J.kY i H x aj->∃aM,Ext F H aM aj/\Rep K aM aj t x
 stop:∀i F H,eJ K aZ H1 F H->ts.length<=i->J.stop i H
noncomputable def tI(K:bo)(f:jN):TI:=λσ H R=>∃aF aN O F ag ts,cJ K aF aN O F H ag σ/\f ag=some ts/\∀J aM aj,Ext F H aM aj->rm K J aM aj ts->R J aj
abbrev qk(X:bh)(cH e:bc)(f:jN):Prop:=o5 X cH e (tI X.K f)
def zB{X:bh}{cH e:bc}{t t':TI}(h:o5 X cH e t)(k:∀σ H R,t' σ H R->t σ H R):o5 X cH e t':=λai s σ H R I q=>h ai s σ H R I (k σ H R q)
def agB{K:bo}{a:ak}{aZ:ak->Prop}{H1:aE}{ts:List T}{vs:List V}(cG:aZ a)(av:e' H1 a (.lst vs))(q:bj K aZ H1 ts vs):rm K (DS K a) aZ H1 ts where
 go:=λi F H t aB d e=>by
  obtain⟨v,ah,_⟩:=q.get e;exact⟨vs,v,.inl (aB.lst _ _ cG av).2,ah⟩
 kY:=λi F H t x aj aB d e y=>by
  obtain⟨rfl,y⟩:=y;obtain⟨v,ah,ao⟩:=(q.aB aB).get e;have:=y vs (.inl (aB.lst _ _ cG av).2);rw[ah] at this;cases this;exact⟨F,Ext.refl d,ao⟩
 stop:=λi F H aB ay=>⟨vs,.inl (aB.lst _ _ cG av).2,by rw[<- q.length];exact ay⟩
def ahr{K:bo}{a:ak}{aZ:ak->Prop}{H1:aE}{ts:List T}{vs:List V}(av:c7 K H1 a vs)(q:bj K aZ H1 ts vs):rm K (DT K a) aZ H1 ts where
 go:=λi F H t aB d e=>by
  obtain⟨v,ah,_⟩:=q.get e;exact⟨vs,v,aB.tup _ _ av,ah⟩
 kY:=λi F H t x aj aB d e y=>by
  obtain⟨rfl,y⟩:=y;obtain⟨v,ah,ao⟩:=(q.aB aB).get e;have:=y vs (aB.tup _ _ av);rw[ah] at this;cases this;exact⟨F,Ext.refl d,ao⟩
 stop:=λi F H aB ay=>⟨vs,aB.tup _ _ av,by rw[<- q.length];exact ay⟩
def Lk(lo aU:Int):(jy lo aU).length=(aU - lo).toNat:=by simp[jy]
def ahs{K:bo}{aZ:ak->Prop}{H1:aE}(lo aU:Int):rm K (zQ lo (aU - lo).toNat) aZ H1 (jy lo aU) where
 go:=λi F H t aB d e=>by
  have h:=(fe.mp e).1;rw[Lk] at h;exact h
 kY:=λi F H t x aj aB d e y=>by
  obtain⟨rfl,rfl⟩:=y;refine⟨F,Ext.refl d,?_⟩;have h:=(fe.mp e).1;rw[Lk] at h;unfold jy at e;rw[hK,List.getElem?_range h] at e;simp at e;subst e;simp[Rep]
 stop:=λi F H aB ay=>by
  rw[Lk] at ay;exact ay
noncomputable def Y3(K:bo)(j1:TE):TI:=λσ H R=>j1 σ H λx H1=>∃a,x=.ref a/\(((∃xs,gg K H1 a xs)/\R (DS K a) H1)\/((∃xs,c7 K H1 a xs)/\R (DT K a) H1))
def aj5{cH l:bc}{j1:TE}(ay:bW X l j1):o5 X cH l (Y3 X.K j1):=by
 intro ai s σ H R I h;refine cA (ay ai s σ H _ I h) λv s1 ⟨x,H1,bC,bg,a,aR,q⟩=>?_;subst aR;cases bg;have b2:∀b∈[s1.heap.objs.size],m' X ai H1 b:=λb ae=>by
  have e:b=s1.heap.objs.size:=by simpa using ae
  subst e;exact bC.xa (eh _) (bC.b'.fresh (eh _))
 rcases q with ⟨⟨xs,bS⟩,q⟩|⟨⟨xs,bS⟩,q⟩
 ·obtain⟨its,b8,p,ar⟩:=bC.list bS;refine wpAny_pyIter_list p.isList ?_;exact⟨s1.heap.objs.size,[s1.heap.objs.size],_,_,H1,rfl,bC.kept (t':=s1.toks) λb o e=>dx _ e,af5 a _,⟨_,ia _ rfl,rfl,rfl⟩,b2,q⟩
 ·obtain⟨its,b8,p,ar⟩:=bC.tuple bS;refine yr (show s1.heap.IsTuple a its.toArray from p) ?_;exact⟨s1.heap.objs.size,[s1.heap.objs.size],_,_,H1,rfl,bC.kept (t':=s1.toks) λb o e=>dx _ e,afy a _,⟨_,ia _ rfl,rfl,rfl⟩,b2,q⟩
def k2{cH l:bc}{f:bI}(ay:cg X l f):qk X cH l (df f):=zB (aj5 ay) λσ H R ⟨aF,aN,O,F,ag,ts,r,e,k⟩=>by
 simp only[df,cb] at e;obtain⟨t,bB,e⟩:=e;split at e
 ·cases e
  refine⟨aF,aN,O,F,ag,_,r,bB,λv aM aj x q=>?_⟩
  simp only[Rep] at q;obtain⟨a,vs,rfl,aw,av⟩:=q;exact⟨a,rfl,.inr ⟨⟨vs,aw⟩,k _ aM aj x (ahr aw av)⟩⟩
 ·cases e
  refine⟨aF,aN,O,F,ag,_,r,bB,λv aM aj x q=>?_⟩
  simp only[Rep] at q;obtain⟨a,vs,rfl,cG,aw,av⟩:=q;exact⟨a,rfl,.inl ⟨⟨vs,.inl aw⟩,k _ aM aj x (agB cG aw av)⟩⟩
 ·cases e
def LO{cH a:bc}{f:bI}{p pos:Pos}(hm:X.mg "range"=none)(ax:ez X a f)(bt:fh X "range":=by rfl)(aw:bA [a] X.env=[(false,eval a X.env)]:=by rfl)(fm:bA [a] X.env=(false,eval a X.env)::bA [] X.env:=by rfl):
  qk X cH (.Call (.Name "range" p) [a] [] pos) (ml f):=zB (agk bt hm (ix ax kZ fm) aw) λσ H R ⟨aF,aN,O,F,ag,ts,r,e,k⟩=>by
 simp only[ml,cb] at e;obtain⟨t,bB,e⟩:=e;split at e
 next j=>
  split at e
  next ar=>
   cases e
   refine⟨aF,aN,O,F,ag,_,r,bB,λv aM aj x q=>⟨j,by rw[q.int],?_,?_,k _ aM aj x (by simpa using ahs 0 j)⟩⟩
   ·simp[q6] at ar;omega
   ·simp[q6] at ar;omega
  next=>cases e
 next=>cases e
def oV{cH iter:bc}{body:List Stmt}{it:jN}{fW:hO}{qo:bz}(aC:PassesOwn (bZ X.prog X.w) X.A X.env X.d3)(aU:qk X cH iter it)(bt:k6 X cH fW)(ae:iF X body qo)(aG:X.calm=true:=by rfl)
  (aw:∀x,pQ iter X.env x=pure x:=by intro _;rfl):fS X (.For cH iter body [] pos) (gj it fW qo):=ht (Sq aC aG aU bt ae aw) λD σ H ⟨aF,aN,O,F,ag,o,r,e,k⟩=>by
 simp only[gj,cb] at e;obtain⟨ts,bB,e⟩:=e;refine⟨aF,aN,O,F,ag,ts,r,bB,λJ aZ H1 aL ok=>?_⟩;refine⟨λi m cq aj=>m=ts.length - i/\i<=ts.length/\∃aM ε' ,eJ X.K aZ H1 aM aj/\cJ X.K aF aN O aM aj ε' cq/\forL fW qo (ts.drop i) ε'=some o,⟨_,rfl,j6 _,aZ,ag,eJ.refl,r.ext aL,by simpa using e⟩,?_⟩;rintro i m cq aj ⟨rfl,xt,aM,ε',aB,cE,b1⟩;by_cases e7:i<ts.length
 ·have hd:ts.drop i=ts[i]::ts.drop (i+1):=List.drop_eq_getElem_cons e7;have oc:ts[i]?=some ts[i]:=fO e7;rw[hd] at b1;simp only[forL,cb] at b1;obtain⟨iB,mA,dD,dk,b1⟩:=b1;refine .inr ⟨ok.go i aM aj _ aB cE.cn oc,λzK bb=>∃mN,mN<ts.length - i/\(mN=ts.length - (i+1)/\i+1<=ts.length/\∃cX iC,eJ X.K aZ H1 cX bb/\cJ X.K aF aN O cX bb iC zK/\forL fW qo (ts.drop (i+1)) iC=some o),λ_ _ z=>z,λx bb y=>?_⟩;obtain⟨cX,bx,a4⟩:=ok.kY i aM aj _ x bb aB cE.cn oc y;refine⟨aF,aN,O,cX,ε',_,iB,cE.ext bx,a4,mA,λkF hV=>⟨aF,aN,O,cX,iB,dD,hV,dk,?_⟩⟩;have xQ:eJ X.K aZ H1 cX bb:=aB.trans bx.aB;cases dD with
  |bY iC=>exact λL3 k4 jO mM l5=>⟨_,by omega,rfl,e7,k4,iC,xQ.trans mM,l5,b1⟩
  |fj iC=>exact λL3 k4 jO mM l5=>⟨_,by omega,rfl,e7,k4,iC,xQ.trans mM,l5,b1⟩
  |iK iC=>
   cases b1
   exact λL3 k4 jO mM l5=>k L3 k4 jO ((aL.aB.trans xQ).trans mM) l5
  |e1 t=>
   cases b1
   exact k
  |fN t iC=>
   cases b1
   exact k
  |l6 s=>
   cases b1
   exact k
 ·have hd:ts.drop i=[]:=List.drop_eq_nil_of_le (by omega);rw[hd] at b1;cases b1;exact .inl ⟨ok.stop i aM aj aB (by omega),k cq aM aj (aL.aB.trans aB) cE⟩
end
end
section
variable [c5]
section
variable {X:bh}{a b c e:bc}{es:List bc}{f g h:bI}{az:List bI}{gx gt:fg}{pos p:Pos}
def hs:qi X [] []:=zC kZ λσ H Q ⟨aF,aN,O,F,ag,ts,r,e,k⟩=>by
 cases e
 exact k [] F H (Ext.refl r.cn) .nil
def gD(ax:ez X e f)(av:qi X es az)(aw:bA (e::es) X.env=(false,eval e X.env)::bA es X.env:=by rfl):qi X (e::es) (f::az):=zC (ix ax av aw) λσ H Q ⟨aF,aN,O,F,ag,ts,r,e,k⟩=>by
 simp only[args,cb,dP] at e;obtain⟨t,bB,us,eX,rfl⟩:=e;refine⟨aF,aN,O,F,ag,t,r,bB,λv aZ H1 aL aP=>⟨aF,aN,O,aZ,ag,us,r.ext aL,eX,λvs cX bb bx ba=>?_⟩⟩;exact k _ cX bb (aL.trans bx) (.cons (aP.ext bx) ba)
def br:lP X [] []:=zC kZ λσ H Q ⟨aF,aN,O,F,ag,ts,r,e,k⟩=>by
 cases e
 exact k [] F H (Ext.refl r.cn) bj.nil
def aD(ax:cg X e f)(av:lP X es az)(aw:bA (e::es) X.env=(false,eval e X.env)::bA es X.env:=by rfl):lP X (e::es) (f::az):=zC (ix ax av aw) λσ H Q ⟨aF,aN,O,F,ag,ts,r,e,k⟩=>by
 simp only[args,cb,dP] at e;obtain⟨t,bB,us,eX,rfl⟩:=e;refine⟨aF,aN,O,F,ag,t,r,bB,λv aZ H1 aL aP=>⟨aF,aN,O,aZ,ag,us,r.ext aL,eX,λvs cX bb bx ba=>?_⟩⟩;exact k _ cX bb (aL.trans bx) (bj.cons (aP.ext bx) ba)
def dW{aL}(h:lP X es az):cg X (.Tuple es aL pos) (bQ az):=ec (ai2 h) λσ H Q ⟨aF,aN,O,F,ag,t,r,e,k⟩=>by
 simp only[bQ,cb] at e;obtain⟨ts,bB,e⟩:=e;split at e
 next ar=>
  cases e
  refine⟨aF,aN,O,F,ag,ts,r,bB,λvs aZ H1 aL aP=>⟨by rw[k0,<- aP.length];exact ar,λp aC=>?_⟩⟩
  have bx:=Ext.laid (o:=.tup vs) aL.cn aC;refine k _ aZ _ (aL.trans bx) ?_;simp only[Rep];exact⟨p,vs,rfl,c7.of dH,aP.ext bx⟩
 next=>cases e
def p7(h:lP X es az):o4 X (.List es pos) (ew az):=ec (ai6 h) λσ H Q ⟨aF,aN,O,F,ag,us,r,e,k⟩=>by
 simp only[ew,cb] at e;obtain⟨ts,bB,e⟩:=e;split at e
 next ar=>
  cases e
  refine⟨aF,aN,O,F,ag,_,r,bB,λvs aZ H1 aL aP=>⟨by rw[k0,<- aP.length];exact ar,λp aC=>?_⟩⟩
  have bx:=Ext.laid (o:=.lst vs) aL.cn aC;refine k p vs aZ _ (aL.trans bx) ?_ ?_ dH (aP.ext bx)
  ·exact aL.same.none aC
  ·intro b2;obtain⟨o,eo⟩:=aL.cn p b2;rw[aC] at eo;cases eo
 next=>cases e
def zw(h:lP X es az):cg X (.List es pos) (ew az):=Ir (p7 h) λag t e=>by
 simp only[ew,cb] at e;obtain⟨ts,bB,e⟩:=e;split at e
 ·cases e
  exact⟨_,rfl⟩
 ·cases e
mutual
theorem K3{F:ak->Prop}{ai:List (ak×Obj)}{σ:bw.St}{H:aE}{s:aQ}(I:Inv X ai σ H s):∀{t:T} {v:V} {u:aq},Rep X.K F H t v->RelV v u->∃as,Reads s.heap u t as
|.none,v,u,h,r=>by
  simp only[Rep] at h;subst h;cases r;exact⟨_,.none⟩
|.bool b,v,u,h,r=>by
  simp only[Rep] at h;subst h;cases r;exact⟨_,.bool b⟩
|.int i,v,u,h,r=>by
  simp only[Rep] at h;subst h;obtain⟨t,rfl⟩:=r;exact⟨_,.int i t⟩
|.str x,v,u,h,r=>by
  simp only[Rep] at h;subst h;obtain⟨t,rfl⟩:=r;exact⟨_,.str x t⟩
|.dict _,v,u,h,r=>by simp[Rep] at h
|.tuple ts,v,u,h,r=>by
  simp only[Rep] at h;obtain⟨a,vs,rfl,aw,av⟩:=h;cases r;obtain⟨its,b8,⟨o,ah,ao,n,bG⟩,ar⟩:=I.tuple aw;obtain⟨as,lu⟩:=CV I av b8;exact⟨_,.tuple ah ao bG (by simpa using lu)⟩
|.list ts,v,u,h,r=>by
  simp only[Rep] at h;obtain⟨a,vs,rfl,cG,aw,av⟩:=h;cases r;obtain⟨z,its,n,b8,ay,e⟩:=Inv.xU I aw;obtain⟨as,lu⟩:=CV I av b8;exact⟨_,.list e rfl rfl (by simpa using lu)⟩
theorem CV{F:ak->Prop}{ai:List (ak×Obj)}{σ:bw.St}{H:aE}{s:aQ}(I:Inv X ai σ H s):∀{ts:List T} {vs:List V} {us:List aq},bj X.K F H ts vs->Vals vs us->∃as,ReadsAll s.heap us ts as
| [],vs,us,h,r=>by
  simp only[bj] at h;subst h;cases r;exact⟨_,.nil⟩
|t::ts,vs,us,h,r=>by
  simp only[bj] at h;obtain⟨v,Jv,rfl,ah,ao⟩:=h;cases r with
  |cons bg cf=>
   obtain⟨as,aP⟩:=K3 I ah bg;obtain⟨bs,ba⟩:=CV I ao cf;exact⟨_,.cons aP ba⟩
end
def pX{O F:ak->Prop}{ai:List (ak×Obj)}{σ:bw.St}{H:aE}{s:aQ}(I:Inv X ai σ H s){t:T}{v:V}{u:aq}(h:gv X.K O F H t v)(r:RelV v u):∃as,Reads s.heap u t as:=by
 rcases h with h|⟨ts,a,vs,rfl,rfl,ax,h⟩
 ·exact K3 I h r
 ·cases r
  obtain⟨z,its,n,b8,ay,e⟩:=Inv.xU I (.inl ax);obtain⟨as,lu⟩:=CV I h b8;exact⟨_,.list e rfl rfl (by simpa using lu)⟩
def wk{t:T}(h:hl t=true):t.canLay0=true/\t.depth<=60:=by
 simp only[hl,iu,decide_eq_true_eq] at h;exact h
def SD{t:List T}(h:ox t=true):kW t=true/\kV t<=60:=by
 simp only[ox,iu,decide_eq_true_eq] at h;exact h
noncomputable def DE(K:bo)(n:Bool):hP:=λx y H Q=>∃(O F:ak->Prop) (s t:T),gv K O F H s x/\gv K O F H t y/\hl s=true/\hl t=true/\Q (.dy (if n then !PyData.eqv s t else hX s t)) H
def Sx(bp:X.A.units+64<cLine):fz X (jE .Eq) (DE X.K false):=by
 intro ai s σ H x y v u Q I a4 bM ⟨O,F,d,t,ah,ao,dD,fu,q⟩;obtain⟨as,lu⟩:=pX I ah a4;obtain⟨bs,eQ⟩:=pX I ao bM;obtain⟨c8,bT⟩:=wk dD;obtain⟨cv,bR⟩:=wk fu;refine SeqAt.compareEq_reads lu eQ c8 cv (by have:=Nat.min_le_left d.depth t.depth;omega) ?_;exact⟨.dy _,H,I,rfl,q⟩
def Sw(bp:X.A.units+64<cLine):fz X (jE .NotEq) (DE X.K true):=by
 intro ai s σ H x y v u Q I a4 bM ⟨O,F,d,t,ah,ao,dD,fu,q⟩;obtain⟨as,lu⟩:=pX I ah a4;obtain⟨bs,eQ⟩:=pX I ao bM;obtain⟨c8,bT⟩:=wk dD;obtain⟨cv,bR⟩:=wk fu;refine SeqAt.compareNe_reads lu eQ c8 cv (by have:=Nat.min_le_left d.depth t.depth;omega) ?_;exact⟨.dy _,H,I,rfl,q⟩
def rf{op:CmpOp}{R:hP}{o:T->T->Option T}(aH:fz X (jE op) R)(ao:o3 X.K o R)(ax:ez X a f)(ae:ez X b g)(hm:qZ op b=false:=by first|exact SE _|rfl):cg X (.Compare a [op] [b] pos) (af o f g):=ec (ah_ aH ax ae hm) (q7 ao)
def fG{op:CmpOp}{R:hP}{o:T->T->Option T}(aH:fz X (jE op) R)(ao:o3 X.K o R)(ax:ez X a f)(ae:ez X b g)(hm:qZ op b=false:=by first|exact SE _|rfl):lR X (.Compare a [op] [b] pos) (a0 (af o f g)):=
 DC (ahY aH ax ae hm) λσ H Q ⟨aF,aN,O,F,ag,b,r,e,k⟩=>by
 simp only[a0,cb] at e;obtain⟨t,bB,e⟩:=e;split at e
 ·cases e
  refine q7 ao σ H _ ⟨aF,aN,O,F,ag,_,r,bB,λv aM aj x q=>?_⟩
  simp only[Rep] at q;exact⟨_,q,k aM aj x⟩
 ·cases e
def SA:o3 X.K oEq (DE X.K false):=by
  intro O F H x y t gP jD Q d a4 bM e k;unfold oEq at e;split at e
  next ar=>
   cases e
   rw[iu] at ar;exact⟨O,F,x,y,a4,bM,ar.1,ar.2,k _ F H (Ext.refl d) (by simp[Rep])⟩
  next=>cases e
def Sy:o3 X.K eE (DE X.K true):=by
  intro O F H x y t gP jD Q d a4 bM e k;unfold eE at e;split at e
  next ar=>
   cases e
   rw[iu] at ar;exact⟨O,F,x,y,a4,bM,ar.1,ar.2,k _ F H (Ext.refl d) (by simp[Rep])⟩
  next=>cases e
noncomputable def I_(K:bo)(n:Bool):hP:=λx y H Q=>∃(O F:ak->Prop) (s:T) (ts:List T),gv K O F H s x/\(gv K O F H (.tuple ts) y\/gv K O F H (.list ts) y)/\hl s=true/\ox ts=true/\Q (.dy (if n then !mG s ts else mG s ts)) H
def nP(bp:X.A.units+64<cLine):fz X (jE .In) (I_ X.K false):=by
 intro ai s σ H x y v u Q I a4 bM ⟨O,F,d,ts,ah,ao,dD,fu,q⟩;obtain⟨as,lu⟩:=pX I ah a4;obtain⟨c8,bT⟩:=wk dD;obtain⟨cv,bR⟩:=SD fu;have hm:=Nat.min_le_left (kV ts) d.depth;rcases ao with ao|ao
 ·obtain⟨bs,eQ⟩:=pX I ao bM;exact SeqAt.in_tuple_reads eQ lu cv c8 (by omega) ⟨.dy _,H,I,rfl,q⟩
 ·obtain⟨bs,eQ⟩:=pX I ao bM;exact SeqAt.in_list_reads eQ lu cv c8 (by omega) ⟨.dy _,H,I,rfl,q⟩
def pY(bp:X.A.units+64<cLine):fz X (jE .NotIn) (I_ X.K true):=by
 intro ai s σ H x y v u Q I a4 bM ⟨O,F,d,ts,ah,ao,dD,fu,q⟩;obtain⟨as,lu⟩:=pX I ah a4;obtain⟨c8,bT⟩:=wk dD;obtain⟨cv,bR⟩:=SD fu;have hm:=Nat.min_le_left (kV ts) d.depth;rcases ao with ao|ao
 ·obtain⟨bs,eQ⟩:=pX I ao bM;exact SeqAt.notIn_tuple_reads eQ lu cv c8 (by omega) ⟨.dy _,H,I,rfl,q⟩
 ·obtain⟨bs,eQ⟩:=pX I ao bM;exact SeqAt.notIn_list_reads eQ lu cv c8 (by omega) ⟨.dy _,H,I,rfl,q⟩
def iy{n:Bool}:o3 X.K (da n) (I_ X.K n):=by
 intro O F H x y t gP jD Q d a4 bM e k;unfold da at e;split at e
 ·split at e
  next ar=>
   cases e
   rw[iu] at ar;exact⟨O,F,x,_,a4,.inl bM,ar.1,ar.2,k _ F H (Ext.refl d) (by simp[Rep])⟩
  next=>cases e
 ·split at e
  next ar=>
   cases e
   rw[iu] at ar;exact⟨O,F,x,_,a4,.inr bM,ar.1,ar.2,k _ F H (Ext.refl d) (by simp[Rep])⟩
  next=>cases e
 ·cases e
def wj:o3 X.K oLt (λx y H Q=>nA (λi j=>.dy (decide (i<j))) x y H Q\/∃i j,x=.str i/\y=.str j/\Q (.dy (decide (i.cps.toList<j.cps.toList))) H):=by
  intro O F H x y t gP jD Q d a4 bM e k;unfold oLt at e;split at e
  ·cases e
   rw[a4.int,bM.int];exact .inl ⟨_,_,rfl,rfl,k _ F H (Ext.refl d) (by simp[Rep])⟩
  ·cases e
   rw[a4.str,bM.str];exact .inr ⟨_,_,rfl,rfl,k _ F H (Ext.refl d) (by simp[Rep,strLt])⟩
  ·cases e
def Kx:fz X (jE .LtE) (λx y H Q=>∃i j,x=.str i/\y=.str j/\Q (.dy (!strLt j i)) H):=by
 intro ai s σ H x y v u Q I a4 bM ⟨i,j,aR,a7,q⟩;subst aR a7;obtain⟨t,rfl⟩:=a4;obtain⟨t',rfl⟩:=bM;exact PySem.P.le_str (DB I q (by simp[strLt]))
def Qv:fz X (jE .GtE) (λx y H Q=>∃i j,x=.str i/\y=.str j/\Q (.dy (!strLt i j)) H):=by
 intro ai s σ H x y v u Q I a4 bM ⟨i,j,aR,a7,q⟩;subst aR a7;obtain⟨t,rfl⟩:=a4;obtain⟨t',rfl⟩:=bM;exact PySem.P.ge_str (DB I q (by simp[strLt]))
def uf:fz X (jE .Gt) (λx y H Q=>∃i j,x=.str i/\y=.str j/\Q (.dy (strLt j i)) H):=by
 intro ai s σ H x y v u Q I a4 bM ⟨i,j,aR,a7,q⟩;subst aR a7;obtain⟨t,rfl⟩:=a4;obtain⟨t',rfl⟩:=bM;exact PySem.P.gt_str (DB I q (by simp[strLt]))
def LJ:o3 X.K oLe (λx y H Q=>nA (λi j=>.dy (decide (i<=j))) x y H Q\/∃i j,x=.str i/\y=.str j/\Q (.dy (!strLt j i)) H):=by
 intro O F H x y t gP jD Q d a4 bM e k;unfold oLe at e;split at e
 ·cases e
  rw[a4.int,bM.int];exact .inl ⟨_,_,rfl,rfl,k _ F H (Ext.refl d) (by simp[Rep])⟩
 ·cases e
  rw[a4.str,bM.str];exact .inr ⟨_,_,rfl,rfl,k _ F H (Ext.refl d) (by simp[Rep])⟩
 ·cases e
def uy:o3 X.K gZ (λx y H Q=>nA (λi j=>.dy (decide (j<i))) x y H Q\/∃i j,x=.str i/\y=.str j/\Q (.dy (strLt j i)) H):=by
 intro O F H x y t gP jD Q d a4 bM e k;unfold gZ at e;split at e
 ·cases e
  rw[a4.int,bM.int];exact .inl ⟨_,_,rfl,rfl,k _ F H (Ext.refl d) (by simp[Rep])⟩
 ·cases e
  rw[a4.str,bM.str];exact .inr ⟨_,_,rfl,rfl,k _ F H (Ext.refl d) (by simp[Rep])⟩
 ·cases e
def Sz:o3 X.K rN (λx y H Q=>nA (λi j=>.dy (decide (j<=i))) x y H Q\/∃i j,x=.str i/\y=.str j/\Q (.dy (!strLt i j)) H):=by
 intro O F H x y t gP jD Q d a4 bM e k;unfold rN at e;split at e
 ·cases e
  rw[a4.int,bM.int];exact .inl ⟨_,_,rfl,rfl,k _ F H (Ext.refl d) (by simp[Rep])⟩
 ·cases e
  rw[a4.str,bM.str];exact .inr ⟨_,_,rfl,rfl,k _ F H (Ext.refl d) (by simp[Rep])⟩
 ·cases e
def aj2(ax:ez X a f):cg X (.UnaryOp .USub a pos) (fo qF f):=ec (aj6 aiD ax) λσ H Q ⟨aF,aN,O,F,ag,t,r,e,k⟩=>by
 simp only[fo,cb] at e;obtain⟨x,ex,e⟩:=e;unfold qF at e;split at e
 ·cases e
  exact⟨aF,aN,O,F,ag,_,r,ex,λv aZ H1 aL a4=>⟨_,a4.int,k _ aZ H1 aL (by simp[Rep])⟩⟩
 ·cases e
noncomputable def UL(K:bo)(o:List T->Option T)(R:List V->aE->dC->Prop):Prop:=
 ∀(O F:ak->Prop) (H:aE) (ts:List T) (t:T) (vs:List V) (Q:dC),gS F H->Paired (gv K O F H) ts vs->o ts=some t ->
  (∀v aM aj,Ext F H aM aj->Rep K aM aj t v->Q v aj)->R vs H Q
def zo{o:List T->Option T}{R:List V->aE->dC->Prop}(ta:UL X.K o R):∀σ H Q,vh X.K (bl o az) σ H Q->Jl R (O2 X.K az) σ H Q:=by
 rintro σ H Q ⟨aF,aN,O,F,ag,t,r,e,k⟩;simp only[bl,cb] at e;obtain⟨ts,bB,eo⟩:=e;exact⟨aF,aN,O,F,ag,ts,r,bB,λvs aZ H1 aL q=>ta O aZ H1 ts t vs Q aL.cn q eo λv aM aj d6 cU=>k v aM aj (aL.trans d6) cU⟩
def wz(hm:X.mg "len"=none)(ax:qi X (e::es) az)(bt:fh X "len":=by rfl)(he:bA (e::es) X.env=(false,eval e X.env)::bA es X.env:=by rfl)(hpl:(dQ pos (bA es X.env)).any (·.1)=false:=by rfl):
  cg X (.Call (.Name "len" p) (e::es) [] pos) (bl hD az):=ec (y' (ae9.or ae8) bt hm PySem.boot_len ax (he:=he) (hpl:=hpl)) (zo (by
 intro O F H ts t vs Q d q e k;unfold hD at e;split at e
 ·cases e
  cases q with
  |cons aP ba=>
   cases ba
   obtain⟨a,ws,rfl,aw,av⟩:=aP.tup;exact .inl ⟨a,ws,rfl,.inr aw,k _ F H (Ext.refl d) (by simp[Rep,av.length])⟩
 ·cases e
  cases q with
  |cons aP ba=>
   cases ba
   obtain⟨a,ws,rfl,aw,av⟩:=aP.lst;exact .inl ⟨a,ws,rfl,.inl (.inl aw),k _ F H (Ext.refl d) (by simp[Rep,av.length])⟩
 ·split at e
  next ar=>
   cases e
   cases q with
   |cons aP ba=>
    cases ba
    exact .inr ⟨_,by rw[aP.str],by rw[k0];exact ar,k _ F H (Ext.refl d) (by simp[Rep])⟩
  next=>cases e
 ·cases e))
def LY(hm:X.mg "max"=none)(ax:qi X (e::es) az)(aG:X.calm=true:=by rfl)(bt:fh X "max":=by rfl)(he:bA (e::es) X.env=(false,eval e X.env)::bA es X.env:=by rfl)(hpl:(dQ pos (bA es X.env)).any (·.1)=false:=by rfl):
  cg X (.Call (.Name "max" p) (e::es) [] pos) (bl akS az):=ec (y' (agL aG) bt hm (by decide +kernel) ax (he:=he) (hpl:=hpl)) (zo (by
 intro O F H ts t vs Q d q e k;unfold akS at e;split at e
 ·cases e
  cases q with
  |cons aP ba=>
   cases ba with
   |cons ba cU=>
    cases cU
    exact⟨_,_,by rw[aP.int,ba.int],k _ F H (Ext.refl d) (by simp[Rep])⟩
 ·cases e))
def mh(hm:X.mg "tuple"=none)(ax:qi X (e::es) az)(bt:fh X "tuple":=by rfl)(he:bA (e::es) X.env=(false,eval e X.env)::bA es X.env:=by rfl)(hpl:(dQ pos (bA es X.env)).any (·.1)=false:=by rfl):
  cg X (.Call (.Name "tuple" p) (e::es) [] pos) (bl fP az):=ec (Kw aeP bt hm (by decide +kernel) ax (he:=he) (hpl:=hpl)) (zo (by
 intro O F H ts t vs Q d q e k;unfold fP at e;split at e
 ·cases e
  cases q with
  |cons aP ba=>
   cases ba
   obtain⟨a,ws,rfl,aw,av⟩:=aP.tup;refine⟨a,ws,rfl,.inr ⟨aw,k _ F H (Ext.refl d) ?_⟩⟩;simp only[Rep];exact⟨a,ws,rfl,aw,av⟩
 ·cases e
  cases q with
  |cons aP ba=>
   cases ba
   obtain⟨a,ws,rfl,aw,av⟩:=aP.lst;refine⟨a,ws,rfl,.inl ⟨.inl aw,λl ay=>?_⟩⟩;have aL:=Ext.laid (o:=.tup ws) d ay;refine k _ F _ aL ?_;simp only[Rep];exact⟨l,ws,rfl,c7.of dH,av.ext aL⟩
 ·cases e))
def Du(h:ez X e f)(he:∀whole,isTrue e X.env whole=(do let v <- whole;standAt e.pos;holding [v] (truthy v)):=by intro _;rfl):lR X e (a0 f):=DC (aiW h he) λσ H Q ⟨aF,aN,O,F,ag,b,r,e,k⟩=>by
 simp only[a0,cb] at e;obtain⟨t,bB,e⟩:=e;split at e
 ·cases e
  exact⟨aF,aN,O,F,ag,_,r,bB,λv aZ H1 aL a4=>⟨_,a4.dy,k aZ H1 aL⟩⟩
 ·cases e
def S0{j pos'}(ax:ez X a f):lR X (.Compare a [.Is] [.Constant .none j pos'] pos) (a0 (fo hU f)):=DC (aiX (ai_ ax)) λσ H Q ⟨aF,aN,O,F,ag,t,r,e,k⟩=>by
 simp only[a0,fo,hU,cb] at e;obtain⟨_,⟨x,ex,aR⟩,e⟩:=e;cases aR;cases e;refine⟨aF,aN,O,F,ag,x,r,ex,λv aZ H1 aL a4=>⟨_,?_,k aZ H1 aL⟩⟩;cases x with
|none=>rw[a4.gL];simp
|bool b=>rw[a4.dy];simp
|int b=>rw[a4.int];simp
|str b=>rw[a4.str];simp
|tuple b=>obtain⟨_,_,e,_⟩:=a4.tup;rw[e];simp
|list b=>obtain⟨_,_,e,_⟩:=a4.lst;rw[e];simp
|dict b=>rcases a4 with a4|⟨_,_,_,z,_⟩;simp[Rep] at a4;cases z
def aiF(h:ez X e f)(he:∀whole,isTrue e X.env whole=(do let v <- whole;standAt e.pos;holding [v] (truthy v)):=by intro _;rfl):lR X e (i1 f):=DC (ag7 h he) λσ H Q ⟨aF,aN,O,F,ag,b,r,e,k⟩=>by
 simp only[i1,cb] at e;obtain⟨t,bB,e⟩:=e;have emp:∀{ts:List T} {vs:List V} {aZ:ak->Prop} {H1:aE},bj X.K aZ H1 ts vs->ts.isEmpty=vs.isEmpty:=λ{ts vs aZ H1} q=>by
  have:=q.length;cases ts <;> cases vs <;> simp_all
 split at e
 ·cases e
  refine⟨aF,aN,O,F,ag,_,r,bB,λv aZ H1 aL a4=>?_⟩
  obtain⟨a,vs,rfl,aw,av⟩:=a4.lst;exact⟨_,.inl ⟨vs,.inl aw,by rw[emp av]⟩,k aZ H1 aL⟩
 ·cases e
  refine⟨aF,aN,O,F,ag,_,r,bB,λv aZ H1 aL a4=>?_⟩
  obtain⟨a,vs,rfl,aw,av⟩:=a4.tup;exact⟨_,.inr (.inl ⟨vs,aw,by rw[emp av]⟩),k aZ H1 aL⟩
 ·cases e
def q8(h:lR X e gx):sP X (.BoolOp .And [e] pos) gx:=ahX h
def sv(h:lR X e gx):sP X (.BoolOp .Or [e] pos) gx:=aiS h
def w_and(h:lR X a gx)(ao:sP X (.BoolOp .And (b::es) pos) gt):sP X (.BoolOp .And (a::b::es) pos) (ei gx gt):=SU (aiT h ao) λσ H Q ⟨aF,aN,O,F,ag,b,r,e,k⟩=>by
 simp only[ei,cb] at e;obtain⟨c,ha,e⟩:=e;refine⟨aF,aN,O,F,ag,c,r,ha,λaZ H1 aL=>?_⟩;cases c with
|true=>exact xK ⟨aF,aN,O,aZ,ag,b,r.ext aL,by simpa using e,λcX bb bx=>k cX bb (aL.trans bx)⟩
|false=>
  have:b=false:=by simpa using e.symm
  subst this;exact xJ (k aZ H1 aL)
def w_or(h:lR X a gx)(ao:sP X (.BoolOp .Or (b::es) pos) gt):sP X (.BoolOp .Or (a::b::es) pos) (eZ gx gt):=SU (aj4 h ao) λσ H Q ⟨aF,aN,O,F,ag,b,r,e,k⟩=>by
 simp only[eZ,cb] at e;obtain⟨c,ha,e⟩:=e;refine⟨aF,aN,O,F,ag,c,r,ha,λaZ H1 aL=>?_⟩;cases c with
|true=>
  have:b=true:=by simpa using e.symm
  subst this;exact xK (k aZ H1 aL)
|false=>exact xJ ⟨aF,aN,O,aZ,ag,b,r.ext aL,by simpa using e,λcX bb bx=>k cX bb (aL.trans bx)⟩
def ku(h:sP X e gx):lR X e gx:=h.pt
end
end
section
variable [c5]
noncomputable def spT(K:bo)(n:Nat)(d:List T->Option T):kI:=λvs H Q _=>vs.length=n/\∃F ts t,gS F H/\bj K F H ts vs/\d ts=some t/\∀v aM aj,Ext F H aM aj->Rep K aM aj t v->Q v aj
section
variable {X:bh}{k n:Nat}{cG:ak}{fd:gq}{ps:List Str}{d:List T->Option T}{x:Str}{p pos:Pos}{e:bc}{es:List bc}{az:List bI}
def aiR(F:fI X.prog X.w X.K X.mg X.base fH k cG fd ps (spT X.K n d))(av:d8 k X.A)(bt:fh X x)(hm:X.mg x=some (.ref cG))(aI:nE X.K (.ref cG)=true)(ae:Binds X.K fd ps [])
  (ax:lP X (e::es) az) (a8:az.length=n:=by rfl) (iS:(x==("__debug__":Str))=false:=by decide) (he:bA (e::es) X.env=(false,eval e X.env)::bA es X.env:=by rfl) (hpl:(dQ pos (bA es X.env)).any (·.1)=false:=by rfl):
  cg X (.Call (.Name x p) (e::es) [] pos) (bl d az):=ec (zm F av bt hm aI ae .nil p8 ax iS he hpl) λσ H Q ⟨aF,aN,O,F,ag,t,r,e,k⟩=>by
 simp only[bl,cb] at e;obtain⟨ts,bB,fa⟩:=e;have ay:∀(eP:List bI) (us:List T),args eP ag=some us->us.length=eP.length:=by
  intro eP
  induction eP with
  |nil=>intro us e;cases e;rfl
  |cons g eP b7=>
   intro us e;simp only[args,cb,dP] at e;obtain⟨t,_,vs,ev,rfl⟩:=e;simp[b7 vs ev]
 refine⟨aF,aN,O,F,ag,ts,r,bB,λvs aZ H1 aL q=>⟨?_,aZ,ts,t,aL.cn,by simpa using q,fa,λv aM aj bx ba=>k v aM aj (aL.trans bx) ba⟩⟩
 rw[mW,<- q.length,ay az ts bB,a8]
end
section
variable {P:cQ}{w:cB}{K:bo}{mg:Str->Option aq}{base:b5}
def P7{F:ak->Prop}{H:aE}{ts:List T}{vs:List V}{N:List Str}(cn:gS F H)(q:bj K F H ts vs)(n:Nat):
  cJ K F ⟨H,0⟩ (λa=>H a=none) F H ((ts.map λt=>some (.ab t))++dZ n none) (vs.map some++dZ n none):=by
 have ab:∀(i:Nat) (s:aO),((ts.map λt=>some (aO.ab t))++dZ n none)[i]?=some (some s)->∃t,s=.ab t/\ts[i]?=some t:=by
  intro i s e;by_cases aU:i<ts.length
  ·rw[vm (by simpa using aU),hK] at e;rw[fO aU] at e ⊢;simp at e;exact⟨_,e.symm,rfl⟩
  ·rw[vl (by simpa using aU),List.getElem?_replicate] at e;split at e <;> cases e
 refine⟨by simp[q.length],λi s e=>?_,λi j s u v w kO aR a7 dD=>?_,Ext.refl cn,λ_ h=>h,λ_ h=>h⟩
 ·obtain⟨t,rfl,aX⟩:=ab i s e;obtain⟨v,a',b8⟩:=q.get aX;refine⟨v,?_,b8⟩;rw[vm (by have:=(fe.mp a').1;simpa using this),hK,a'];rfl
 ·obtain⟨t,rfl,_⟩:=ab i s aR;cases dD
def SO{x qual:Str}{st:Stmt}{f:ak}{fd:gq}{N ps:List Str}{k:Nat}{b:bz}(F:cY K x qual st f fd)(S:dg N ps (cp st))
  (ae:∀(c0:aq) (A:di) (outer:List Env) (s:aQ) (H:aE) (E:gU),d8 k (A.deeper (envOfC qual (cp st) s.heap.objs.size f c0)) ->
   iF (jU fH P w K mg base N qual (cp st) f c0 A outer s H E).kR (jH st) b):
  fI P w K mg base fH (k+1) f fd ps (spT K ps.length (d4 b N.length)):=by
 refine F.ok S (λvs H Q E h=>h.1) λc0 A outer s H vs Q E av h=>⟨_,ae c0 A outer s H E av,?_⟩
 obtain⟨ay,F,ts,t,cn,q,e,nx⟩:=h;simp only[d4,cb] at e;obtain⟨o,eo,e⟩:=e;refine⟨F,⟨H,0⟩,λa=>H a=none,F,_,o,?_,eo,?_⟩
 ·have:=P7 (N:=N) cn q (N.length - ts.length);unfold bw.start;rw[q.length] at this ⊢;exact this
 ·cases o with
  |e1 t'=>
   cases e
   exact λv aM aj x q=>nx v aM aj x q
  |bY ε'=>
   cases e
   exact λcq aM aj _ r=>nx _ aM aj r.ent (by simp[Rep])
  |iK _=>cases e
  |fj _=>cases e
  |fN _ _=>cases e
  |l6 _=>cases e
end
end
section
variable [c5]
noncomputable def kg(env:Env):List (Str×m1)->List (Str×ak)->List (Str×ak)
| [],cs=>cs
|x::r,cs=>if x.2==.free then kg env r ((x.1,(env.cells.lookup x.1).getD 0)::cs) else kg env r cs
def PC{scope:Scope}{env:Env}(h:∀x∈scope.names,x.2=.free->∃c,env.cells.lookup x.1=some c):closureFor scope env=pure (kg env scope.names []):=by
 have go:∀(l:List (Str×m1)) (cs:List (Str×ak)),(∀x∈l,x.2=.free->∃c,env.cells.lookup x.1=some c) ->
   (forIn l cs (λx r=>(if (x.2==NameKind.free)=true then do let a <- cellOf env x.1;pure (ForInStep.yield ((x.1,a)::r)) else pure (ForInStep.yield r)):_->_->Sem (ForInStep (List (Str×ak)))):Sem (List (Str×ak)))=pure (kg env l cs):=by
  intro l
  induction l with
  |nil=>intro cs _;rfl
  |cons x r b7=>
   intro cs ay;rw[List.forIn_cons];have av:=λy bN=>ay y (dT _ bN);by_cases k:x.2=.free
   ·obtain⟨c,aG⟩:=ay x e9 k;have aR:(x.2==NameKind.free)=true:=by simp[k]
    simp only[aR,if_true,cellOf,aG,kg,Option.getD_some];exact b7 _ av
   ·have aR:(x.2==NameKind.free)=false:=by simpa using k
    simp only[aR,j5,if_false,kg];exact b7 _ av
 have:=go scope.names [] h;simp only[closureFor];exact congrArg (λm=>m >>= λcs=>pure cs) this
theorem C2{env:Env}:∀{l:List (Str×m1)} {cs:List (Str×ak)},(∀x∈l,x.2=.free->∃c,env.cells.lookup x.1=some c)->(∀x c,cs.lookup x=some c->env.cells.lookup x=some c)->∀x c,(kg env l cs).lookup x=some c->env.cells.lookup x=some c
| [],cs,_,h,x,c,e=>h x c e
|y::r,cs,ay,h,x,c,e=>by
  unfold kg at e;have av:=λz ar=>ay z (dT _ ar);split at e
  next k=>
   refine C2 av (λx c e=>?_) x c e
   rw[nH] at e;split at e
   next ae=>
    obtain⟨gw,aG⟩:=ay y e9 (by simpa using k);have:x=y.1:=by simpa using ae
    subst this;rw[aG] at e ⊢;simpa using e
   next=>exact h x c e
  next=>exact C2 av h x c e
theorem C_{env:Env}:∀{l:List (Str×m1)} {cs:List (Str×ak)} {x:Str},((∃y∈l,y.2=.free/\y.1=x)\/∃c,cs.lookup x=some c)->∃c,(kg env l cs).lookup x=some c
| [],cs,x,h=>by
  rcases h with ⟨y,bN,_⟩|h
  ·cases bN
  ·exact h
|y::r,cs,x,h=>by
  unfold kg;split
  next k=>
   refine C_ ?_
   rcases h with ⟨z,ar,kl,e⟩|⟨c,h⟩
   ·rcases cO.mp ar with rfl|ar
    ·refine .inr ?_
     subst e;rw[nH];simp
    ·exact .inl ⟨z,ar,kl,e⟩
   ·refine .inr ?_
    rw[nH];split
    ·exact⟨_,rfl⟩
    ·exact⟨c,h⟩
  next k=>
   refine C_ ?_
   rcases h with ⟨z,ar,kl,e⟩|h
   ·rcases cO.mp ar with rfl|ar
    ·exact absurd (by simpa using kl) k
    ·exact .inl ⟨z,ar,kl,e⟩
   ·exact .inr h
noncomputable def gr(X:bh)(wQ:List Str)(scope:Scope)(cl:List (Str×ak))(C:ak)(de:aQ)(aN:aE)(b2:List ak)(dw:List (ak×Obj)):bh where
 prog:=X.prog
 w:=X.w
 K:=X.K
 mg:=X.mg
 base:=X.base
 A:=X.A
 N:=wQ
 de:=de
 aN:=aN
 env:=compEnvC scope cl C X.env
 outer:=X.stack
 stack:=X.stack
 ex:=b2
 fn:=λ_=>false
 calm:=X.calm
 dw:=dw
 d3:=λ_ _=>False
noncomputable def n0(X:bh)(ifs:List bc)(cc:fg):Prop:=∀(ai:List (ak×Obj)) (s:aQ) (σ:bw.St) (H:aE) (Q:Bool->aE->Prop),bw.Inv X ai σ H s->Jp X.K cc σ H Q ->
 bK (bZ X.prog X.w) X.A (forIn ifs true λc r=>if r=true then do let ok <- isTrue c X.env (eval c X.env);pure (ForInStep.yield ok) else pure (ForInStep.yield r)) (zU X ai σ Q) X.d3 s
def wb{X:bh}:n0 X [] (fi true):=λai s σ H Q I ⟨aF,aN,O,F,ag,b,r,e,k⟩=>by
 cases e
 exact wpAny_tests_nil ⟨H,I,k F H (Ext.refl r.cn)⟩
def so{X:bh}{c:bc}{cc:fg}(h:lR X c cc):n0 X [c] cc:=λai s σ H Q I q=>wpAny_tests_one (h ai s σ H Q I q)
section
variable {prog:cQ}{w:cB}{A:di}{R:Result->aQ->Prop}{s:aQ}
def PI{elt target iter:bc}{ifs:List bc}{scope:Scope}{pos:Pos}{it acc:aq}{env:Env}(I:Nat->aQ->Prop)
  (turn:∀n s,I n s->bK (bZ prog w) A (pyNext it) (λr dO=>match r with
   |none=>R (.ok .next) dO
   |some v=>bK (bZ prog w) A (letOwnedTupleGo target it v) (λ_ OX=>bK (bZ prog w) A (assign target env v) (λ_ nC=>
     bK (bZ prog w) A (forIn ifs true λc r=>if r=true then do let ok <- isTrue c env (eval c env);pure (ForInStep.yield ok) else pure (ForInStep.yield r)) (λok vf=>
      if ok=true then bK (bZ prog w) A (eval elt env) (λx OY=>
       bK (bZ prog w) A (call (.builtin "list.append") [acc,x]) (λ_ OZ=>∃m,m<n/\I m OZ) (λ_ _=>False) OY) (λ_ _=>False) vf
      else ∃m,m<n/\I m vf) (λ_ _=>False) nC) (λ_ _=>False) OX) (λ_ _=>False) dO) (λ_ _=>False) s)
  (n:Nat) (h:I n s):codeAny (bZ prog w) A (.compLoop (.ListComp elt [⟨target,iter,ifs,0⟩] scope pos) 0 it acc env) R s:=by
 refine codeAny_loop rfl I (λn s rE=>?_) n h
 show bK _ A ((compTurn (.ListComp elt [⟨target,iter,ifs,0⟩] scope pos) 0 it acc env).onRaise (λx=>do noteFrame x env;theTreesLotGoes x)) _ _ s
 refine wpAny_noted ?_
 rw[compTurn_list];refine a6 (wpAny_standAt (a6 (gB (turn n s rE) (λr dO gI=>?_) λ_ _ h'=>h'.elim)));cases r with
|none=>exact cK gI
|some v=>
  refine a6 (gB gI (λ_ OX YY=>?_) λ_ _ h'=>h'.elim)
  refine a6 (gB YY (λ_ nC kk=>a6 (gB kk (λok vf iT=>?_) λ_ _ h'=>h'.elim)) λ_ _ h'=>h'.elim)
  cases ok with
  |false=>exact cK ⟨rfl,iT⟩
  |true=>
   exact a6 (a6 (gB iT (λx OY xG=>a6 (gB xG (λ_ OZ jx=>cK (cK ⟨rfl,jx⟩)) λ_ _ h'=>h'.elim)) λ_ _ h'=>h'.elim))
end
end
section
variable [c5]
theorem Pw{env:Env}{k:m1}:∀{names:List (Str×m1)} {x:Str},names.lookup x=some k->∃kl,(names.map λ(n,k)=>if (k==NameKind.free && env.scope.kind==.function && env.kindOf n==some .cell) then (n,NameKind.cell) else (n,k)).lookup x=some kl/\(kl=k\/(k=.free/\kl=.cell))
  | [],x,h=>by simp at h
  | (n,j)::r,x,h=>by
    have b7:=@Pw env k r x;show ∃kl,i4 x ((if (j==NameKind.free && env.scope.kind==.function && env.kindOf n==some .cell)=true then (n,NameKind.cell) else (n,j))::_)=some kl/\_;cases hx:x==n with
    |true=>
      simp only[nH,hx] at h;cases h;by_cases aG:(k==NameKind.free && env.scope.kind==.function && env.kindOf n==some .cell)=true
      · rw[if_pos aG]
        refine⟨.cell,by simp[nH,hx],.inr ⟨?_,rfl⟩⟩
        simp only[iu] at aG;simpa using aG.1.1
      · rw[if_neg aG]
        exact⟨k,by simp[nH,hx],.inl rfl⟩
    |false=>
      simp only[nH,hx] at h;obtain⟨kl,ah,ao⟩:=b7 h;refine⟨kl,?_,ao⟩;by_cases aG:(j==NameKind.free && env.scope.kind==.function && env.kindOf n==some .cell)=true
      · rw[if_pos aG];simp only[nH,hx];exact ah
      · rw[if_neg aG];simp only[nH,hx];exact ah
def mem_lookup{names:List (Str×m1)}{x:Str}{k:m1}(h:names.lookup x=some k):∃y∈names,y.2=k/\y.1=x:=by
 induction names with
|nil=>simp at h
|cons y r b7=>
  rw[nH] at h;split at h
  next ae=>
   cases h
   exact⟨y,e9,rfl,by simpa using (beq_iff_eq.mp ae).symm⟩
  next=>
   obtain⟨z,ar,ah,ao⟩:=b7 h;exact⟨z,dT _ ar,ah,ao⟩
def aeX{scope:Scope}{env:Env}(u1:∀y∈scope.names,y.2≠.cell){x:Str}(h:(relabel scope env).names.lookup x=some .cell\/(relabel scope env).names.lookup x=some .free):∃y∈scope.names,y.2=.free/\y.1=x:=by
 have go:∀{k:m1},(relabel scope env).names.lookup x=some k->(k=.cell\/k=.free)->∃y∈scope.names,y.2=.free/\y.1=x:=λ{k} e aI=>by
  obtain⟨y,bN,ah,ao⟩:=mem_lookup e;obtain⟨⟨n,j⟩,ar,a7⟩:=dK.mp (show y∈scope.names.map _ from bN);by_cases aG:(j==NameKind.free && env.scope.kind==.function && env.kindOf n==some .cell)=true
  ·have gi:(n,NameKind.cell)=y:=by
    have jq:(if (j==NameKind.free && env.scope.kind==.function && env.kindOf n==some .cell)=true then (n,NameKind.cell) else (n,j))=y:=a7
    rwa [if_pos aG] at jq
   subst gi;simp only[iu] at aG;exact⟨(n,j),ar,by simpa using aG.1.1,ao⟩
  ·have gi:(n,j)=y:=by
    have jq:(if (j==NameKind.free && env.scope.kind==.function && env.kindOf n==some .cell)=true then (n,NameKind.cell) else (n,j))=y:=a7
    rwa [if_neg aG] at jq
   subst gi;rcases aI with rfl|rfl
   ·exact absurd ah (u1 _ ar)
   ·exact⟨(n,j),ar,ah,ao⟩
 rcases h with h|h
 ·exact go h (.inl rfl)
 ·exact go h (.inr rfl)
def cJ.other{K:bo}{aF O F:ak->Prop}{E:gu}{H:aE}{ag:Ev}{σ:bw.St}{a:ak}{xs ys:List V}(r:cJ K aF E O F H ag σ)(a8:¬F a)(aH:¬O a)(h0:E.h a=none)(ax:H a=some (.lst xs)):
  eJ K F H F (upd H a (.lst ys))/\cJ K aF E O F (upd H a (.lst ys)) ag σ:=by
 have hm:nY (.lst xs):=.inl ⟨_,rfl⟩;have aB:eJ K F H F (upd H a (.lst ys)):=RQ a8 ax hm;have keep:∀(u:aO) (w:V),eH K E O F H u w->eH K E O F (upd H a (.lst ys)) u w/\dS (upd H a (.lst ys)) u w=dS H u w:=by
  intro u w ea;refine ea.keep aB (λb ae=>cw ?_) (λ_ _ f=>f) λ_ _ o=>o;rintro rfl;cases rS:u.iU with
  |true=>exact aH ((ea.held ae).2.1 rS)
  |false=>exact (ea.held ae).2.2 rS h0
 refine⟨aB,⟨r.len,λj u e=>?_,λi j s u v w kO aR a7 dD fu ah ao=>?_,Ri r.ent h0 a8 ax hm,r.o0,λb e=>r.fr b ?_⟩⟩
 ·obtain⟨v,ah,ao⟩:=r.val j u e;exact⟨v,ah,(keep u v ao).1⟩
 ·obtain⟨ks,eT,bg⟩:=r.val i s aR;obtain⟨gc,gk,cf⟩:=r.val j u a7;rw[ah] at eT;rw[ao] at gk;cases eT;cases gk;rw[(keep s v bg).2,(keep u w cf).2];exact r.ne i j s u v w kO aR a7 dD fu ah ao
 ·by_cases nb:b=a
  ·subst nb;rw[dH] at e;cases e
  ·rwa [cw nb] at e
noncomputable def DI(n:Nat)(caps:List Nat)(σ:bw.St):bw.St:=dZ n none++caps.map λi=>(σ[i]?).join
def join_some{α:Type}{o:Option (Option α)}{x:α}(h:o.join=some x):o=some (some x):=by
 cases o with
|none=>cases h
|some o=>exact congrArg some h
def ak9{α:Type}{n:Nat}{caps:List Nat}{l:List (Option α)}{i:Nat}{x:α}(h:(dZ n none++caps.map λi=>(l[i]?).join)[i]?=some (some x)):∃j,n<=i/\caps[i - n]?=some j/\l[j]?=some (some x):=by
 by_cases aU:i<n
 ·rw[vm (by simpa using aU),List.getElem?_replicate] at h;rw[if_pos aU] at h;cases h
 ·rw[vl (by simpa using aU),List.length_replicate,hK] at h;cases e:caps[i - n]? with
  |none=>
   rw[e] at h;cases h
  |some j=>
   rw[e] at h;exact⟨j,by omega,rfl,join_some (e3 h)⟩
def aio{α:Type}{n:Nat}{caps:List Nat}{l:List (Option α)}{i j:Nat}{x:α}(aU:n<=i)(aG:caps[i - n]?=some j)(h:l[j]?=some (some x)):(dZ n none++caps.map λi=>(l[i]?).join)[i]?=some (some x):=by
 rw[vl (by simpa using aU),List.length_replicate,hK,aG];simp[h]
def cJ.z1{K:bo}{aF O F:ak->Prop}{E:gu}{H:aE}{ag:Ev}{σ:bw.St}{D:ak}(r:cJ K aF E O F H ag σ)(n:Nat){caps:List Nat}(aW:caps.Nodup)(i_:H D=none):
  cJ K aF E (λa=>O a/\a≠D) F (upd H D (.lst [])) (iz n caps ag) (DI n caps σ):=by
 have x:=Ext.laid (o:=.lst []) r.cn i_;have keep:∀(u:aO) (w:V),eH K E O F H u w->eH K E (λa=>O a/\a≠D) F (upd H D (.lst [])) u w/\dS (upd H D (.lst [])) u w=dS H u w:=by
  intro u w ea;have nb:∀b∈dS H u w,b≠D:=λb ae z=>by
   obtain⟨o,e,_⟩:=ea.at ae;rw[z,i_] at e;cases e
  exact ea.keep x.aB (λb ae=>cw (nb b ae)) (λ_ _ f=>f) λb ae o=>⟨o,nb b ae⟩
 refine⟨by simp[iz,DI],λi s e=>?_,λi j s u v w kO aR a7 dD fu ah ao=>?_,r.ent.trans x,λa h=>r.o0 a h.1,λa h=>?_⟩
 ·obtain⟨j,a8,aG,b1⟩:=ak9 e;obtain⟨v,ah,ao⟩:=r.val j s b1;exact⟨v,aio a8 aG ah,(keep s v ao).1⟩
 ·obtain⟨GK,aU,ci,kL⟩:=ak9 aR;obtain⟨rL,bD,Nm,h6⟩:=ak9 a7;obtain⟨bO,_,Nl,eT⟩:=ak9 (l:=σ) ah;obtain⟨N7,_,Nn,gk⟩:=ak9 (l:=σ) ao;rw[ci] at Nl;rw[Nm] at Nn;cases Nl;cases Nn;obtain⟨ks,aP,bg⟩:=r.val GK s kL;obtain⟨gc,ba,cf⟩:=r.val rL u h6;rw[eT] at aP;rw[gk] at ba;cases aP;cases ba;rw[(keep s v bg).2,(keep u w cf).2];refine r.ne GK rL s u v w (λz=>?_) kL h6 dD fu eT gk;subst z;obtain⟨bT,i'⟩:=fe.mp ci;obtain⟨bR,kQ⟩:=fe.mp Nm;have ne:i - n≠j - n:=by omega
  rcases Nat.lt_or_gt_of_ne ne with q|q
  ·exact (List.pairwise_iff_getElem.mp aW _ _ bT bR q) (i'.trans kQ.symm)
  ·exact (List.pairwise_iff_getElem.mp aW _ _ bR bT q) (kQ.trans i'.symm)
 ·have aW:a≠D:=by
   rintro rfl;rw[dH] at h;cases h
  rw[cw aW] at h;exact⟨r.fr a h,aW⟩
end
section
variable [c5]
structure oZ(X:bh)(scope:Scope)(own:List Str)(caps:List (Nat×Str)):Prop where
 kind:scope.kind=.function
 names:∀y∈scope.names,y.2=.local->scope.names.lookup y.1=some .local
 cell:∀y∈scope.names,y.2≠.cell
 free:∀y∈scope.names,y.2=.free->X.env.kindOf y.1=some .cell\/X.env.kindOf y.1=some .free
 z1:∀p∈caps,X.N[p.1]?=some p.2/\scope.names.lookup p.2=some .free
 aW:(caps.map (·.1)).Nodup
 calm:X.calm=true
section
variable {X:bh}{cH iter elt:bc}{ifs:List bc}{scope:Scope}{it:jN}{fW:hO}{cc:fg}{fb:bI}{pos:Pos}{own:List Str}{caps:List (Nat×Str)}
def Lu{ai:List (ak×Obj)}{σ:bw.St}{bb:aE}{s2:aQ}{b2:List ak}(S:oZ X scope own caps)(ck:bw.Inv X ai σ bb s2)(f2:∀b∈b2,m' X ai bb b)(gH:∀b∈b2,b<s2.heap.objs.size)(wQ:List Str):
  (gr X wQ scope (kg X.env scope.names []) (s2.heap.push {cls:=.type "list",data:=.seq ([]:List aq).toArray}).objs.size {s2 with heap:=s2.heap.push {cls:=.type "list",data:=.seq ([]:List aq).toArray} } (upd bb s2.heap.objs.size (.lst [])) b2 (X.dw++ai)).Ok:=by
 have qu:∀x∈scope.names,x.2=.free->∃c,X.env.cells.lookup x.1=some c:=λx hx aI=>ck.ok.has x.1 (S.free x hx aI);have sW:∀x c,(kg X.env scope.names []).lookup x=some c->X.env.cells.lookup x=some c:=C2 qu (λx c e=>by simp at e);have ej:=ck.xS (its:=[]) (ys:=[]) (t':=s2.toks) .nil (j6 _);have jd:(s2.heap.push {cls:=.type "list",data:=.seq ([]:List aq).toArray}).objs.size=s2.heap.objs.size+1:=kU ..;refine⟨ck.ok.mod,S.kind,ck.ok.glob,ck.ok.blt,eh _,λx y c aR a7=>ck.ok.inj x y c (sW x c aR) (sW y c a7),λx hx=>?_,λx c h=>(by cases h),ck.ok.hd,ck.ok.frames,.inl rfl,λb ae=>⟨?_,λx c e=>(f2 b ae).2.2.2.2.1 x c (sW x c e)⟩,λb o e=>?_,?_,λb o e ae=>?_,λb ae hf=>?_,ej.stack,ej.OS⟩
 ·exact C_ (.inl (aeX S.cell hx))
 ·show b≠(s2.heap.push {cls:=.type "list",data:=.seq ([]:List aq).toArray}).objs.size
  have h:=gH b ae;rw[jd];exact e2 (Nat.lt_succ_of_lt h)
 ·obtain⟨ah,ao⟩:=ej.bs b o e;exact⟨ah,ao⟩
 ·have ah:=ma ck.ok.ry ck.jd;show X.base.objs.size<=(s2.heap.push {cls:=.type "list",data:=.seq ([]:List aq).toArray}).objs.size;omega
 ·rcases (f2 b ae).2.2.2.1 with q|q
  ·exact ck.ok.x1 b o e q
  ·exact absurd (kv (c3 (ck.ok.bs b o e).1) q) (Nat.lt_irrefl _)
 ·rcases cO.mp (ck.BD b hf) with q|q
  ·exact (f2 b ae).2.1 q
  ·exact (f2 b ae).2.2.1 q
def Rm{ai:List (ak×Obj)}{σ:bw.St}{bb:aE}{s2:aQ}{b2:List ak}(S:oZ X scope own caps)(ck:bw.Inv X ai σ bb s2)(f2:∀b∈b2,m' X ai bb b)(gH:∀b∈b2,b<s2.heap.objs.size){gI:b5}{m:Str->Option aq}{tk:Nat}
  (AI:gI.Ns (s2.heap.push {cls:=.type "list",data:=.seq ([]:List aq).toArray}).objs.size m) (keep:∀b u,(s2.heap.push {cls:=.type "list",data:=.seq ([]:List aq).toArray}).get? b=some u->gI.get? b=some u):
  bw.Inv (gr X (own++caps.map (·.2)) scope (kg X.env scope.names []) (s2.heap.push {cls:=.type "list",data:=.seq ([]:List aq).toArray}).objs.size {s2 with heap:=s2.heap.push {cls:=.type "list",data:=.seq ([]:List aq).toArray} } (upd bb s2.heap.objs.size (.lst [])) b2 (X.dw++ai)) []
   (DI own.length (caps.map (·.1)) σ) (upd bb s2.heap.objs.size (.lst [])) {s2 with heap:=gI,toks:=tk}:=by
 have qu:∀x∈scope.names,x.2=.free->∃c,X.env.cells.lookup x.1=some c:=λx hx aI=>ck.ok.has x.1 (S.free x hx aI);have sW:∀x c,(kg X.env scope.names []).lookup x=some c->X.env.cells.lookup x=some c:=C2 qu (λx c e=>by simp at e);have ej:=ck.xS (its:=[]) (ys:=[]) (t':=s2.toks) .nil (j6 _);refine⟨Lu S ck f2 gH _,rfl,ck.bare,h3.kept keep,⟨m,AI,λi x v ah ao a'=>?_⟩,λx c e=>?_,?_,λx c e=>ej.pf x c (sW x c e),λp aC=>?_,ej.b'.kept keep,by simp[DI,gr]⟩
 ·obtain⟨j,a8,aG,bD⟩:=ak9 (l:=σ) ao;have hx:(caps.map (·.2))[i - own.length]?=some x:=by
   have:(own++caps.map (·.2))[i]?=some x:=ah
   rwa [vl a8] at this
  rw[hK] at aG hx;cases ep:caps[i - own.length]? with
  |none=>rw[ep] at aG;cases aG
  |some p=>
   rw[ep] at aG hx;cases aG;cases hx;obtain⟨fc,hf⟩:=S.z1 p (ky ep);obtain⟨y,bN,eY,dV⟩:=mem_lookup hf;have aI:=S.free y bN eY;rw[dV] at aI;obtain⟨rM,akE,Gs⟩:=ej.loc;have adZ:sR X.env.scope p.2:=by
    rcases aI with aI|aI
    ·exact .inr (.inl aI)
    ·exact .inr (.inr aI)
   obtain⟨u,ea,Z5⟩:=Gs p.1 p.2 v fc bD adZ;refine⟨u,ea,.inr ⟨?_,?_⟩⟩
   ·obtain⟨kl,aR,a7⟩:=Pw (env:=X.env) hf;rcases a7 with rfl|⟨_,rfl⟩
    ·exact .inr aR
    ·exact .inl aR
   ·rcases Z5 with ⟨q,_⟩|⟨_,c,aG,u1⟩
    ·rcases aI with aI|aI
     ·rw[aI] at q;cases q
     ·rw[aI] at q;cases q
    ·obtain⟨gw,cV⟩:=C_ (env:=X.env) (l:=scope.names) (cs:=[]) (x:=p.2) (.inl ⟨y,bN,eY,dV⟩);have:=sW _ _ cV;rw[aG] at this;cases this;obtain⟨kn,aH,hd⟩:=u1;exact⟨c,cV,kn,keep _ _ aH,hd⟩
 ·obtain⟨v,kn,aH,hd⟩:=ej.cell x c (sW x c e);exact⟨v,kn,keep _ _ aH,hd⟩
 ·exact ej.b'.fresh (eh _)
 ·have oh:p∈X.dw++ai:=by simpa [gr] using aC
  obtain⟨ah,ao,bG,cT,f9⟩:=ej.pin p oh;refine⟨keep _ _ ah,ao,e2 (c3 ah),λz=>?_,f9⟩;rcases cO.mp (ck.BD p.1 z) with q|q
  ·exact bG q
  ·exact cT q
def Qf{ai:List (ak×Obj)}{σ cq:bw.St}{bb aj:aE}{s2 s':aQ}{b2:List ak}{wQ:List Str}(ck:bw.Inv X ai σ bb s2)(f2:∀b∈b2,m' X ai bb b)
  (J:bw.Inv (gr X wQ scope (kg X.env scope.names []) (s2.heap.push {cls:=.type "list",data:=.seq ([]:List aq).toArray}).objs.size {s2 with heap:=s2.heap.push {cls:=.type "list",data:=.seq ([]:List aq).toArray} } (upd bb s2.heap.objs.size (.lst [])) b2 (X.dw++ai)) [] cq aj s')
  {h':b5} (g0:Heap.SameBut (s2.heap.push {cls:=.type "list",data:=.seq ([]:List aq).toArray}).objs.size s'.heap h'):bw.Inv X ai σ aj {s' with heap:=h'}:=by
 have ej:=ck.xS (its:=[]) (ys:=[]) (t':=s2.toks) .nil (j6 _);have u:=J.base;have free:aj (s2.heap.push {cls:=.type "list",data:=.seq ([]:List aq).toArray}).objs.size=none:=J.free;have old:∀b o,(s2.heap.push {cls:=.type "list",data:=.seq ([]:List aq).toArray}).get? b=some o->b≠(s2.heap.push {cls:=.type "list",data:=.seq ([]:List aq).toArray}).objs.size:=λb o e=>e2 (c3 e);have z':∀b,b≠(s2.heap.push {cls:=.type "list",data:=.seq ([]:List aq).toArray}).objs.size->∀o,s'.heap.get? b=some o->h'.get? b=some o:=λb ae o e=>g0.extBut b o ae e;have vi:h3 (n9 X.stack) b2 (upd bb s2.heap.objs.size (.lst [])) aj (s2.heap.push {cls:=.type "list",data:=.seq ([]:List aq).toArray}) h':=by
  refine⟨λb o e n hf hx=>z' b (old b o e) _ (u.keep b o e n hf hx),λb o e n hf hx=>?_,u.free,λb o e hx=>?_,u.qM,u.akU,u.qK⟩
  ·obtain⟨dr,q⟩:=u.slot b o e n hf hx;exact⟨dr,z' b (old b o e) _ q⟩
  ·obtain⟨o',q⟩:=u.there b o e hx;exact⟨o',z' b (old b o e) _ q⟩
 have b':fy X.prog X.w aj h':=λb o e=>by
  refine (J.b' b o e).kq (λc v aG q=>z' c (λz=>?_) v q) (λ_ q=>q) λ_ _ q=>q
  rcases aG with rfl|aG
  ·rw[z,free] at e;cases e
  ·rw[z,free] at aG;cases aG
 have qy:=J.os;have X9:=J.bare;obtain⟨c6,g,d,t,os⟩:=s';obtain rfl:os=s2.os:=qy;have fin:=ej.call (h':=h') (g':=g) (d':=d) (t':=t) (ch:=b2) vi b' X9 λb ae=>⟨(f2 b ae).2.2.2.1,(f2 b ae).2.1,(f2 b ae).2.2.2.2.1,(f2 b ae).2.2.2.2.2⟩;exact fin
def agJ{X':bh}{R:Result->aQ->Prop}{J:kG}{b2:List ak}{tv D:ak}{hH:Nat->b5->Prop}{aF O aZ:ak->Prop}{aN:gu}{bb:aE}{ts ys:List T}(hx:X'.d3=λ_ _=>False)(aG:X'.calm=true)(bt:k6 X' cH fW)(aX:n0 X' ifs cc)(he:cg X' elt fb)
  (T:Turn X'.prog X'.w X'.K cH J b2 tv hH) (oC:∀aj:aE,(∀b∈b2,aj b=none)->∀b∈b2,m' X' [] aj b) (ok:rm X'.K J aZ bb ts) (xl:ts.length<=big) (k':bb D=none) (lZ:¬O D) (F_:aN.h D=none)
  (fin:∀cq aj aM s1 vs,bw.Inv X' [] cq aj s1->Ext aZ bb aM aj->aj D=some (.lst vs)->¬aM D->bj X'.K aM aj ys vs->R (.ok .next) s1)
  {s:aQ} {σ:bw.St} {H:aE} {F:ak->Prop} {ag:Ev} (I:bw.Inv X' [] σ H s) (st:hH 0 s.heap) (fr:∀b∈b2,H b=none) (x:Ext aZ bb F H) (r:cJ X'.K aF aN O F H ag σ) (i_:H D=some (.lst [])) (It:¬F D) (eL:gf fW cc fb ts ag=some ys):
  codeAny (bZ X'.prog X'.w) X'.A (.compLoop (.ListComp elt [⟨cH,iter,ifs,0⟩] scope pos) 0 (.ref tv) (.ref D) X'.env) R s:=by
 refine PI (λn s'=>∃i cq aj aM ε' my vs,n=ts.length - i/\i<=ts.length/\bw.Inv X' [] cq aj s'/\hH i s'.heap/\(∀b∈b2,aj b=none)/\Ext aZ bb aM aj/\cJ X'.K aF aN O aM aj ε' cq/\aj D=some (.lst vs)/\¬aM D/\bj X'.K aM aj my vs/\my.length<=i /\
  ∃rest,gf fW cc fb (ts.drop i) ε'=some rest/\ys=my++rest) ?_ ts.length ⟨0,σ,H,F,ag,[],[],rfl,j6 _,I,st,fr,x,r,i_,It,bj.nil,eh _,ys,by simpa using eL,by simp⟩
 rintro n s3 ⟨i,kF,dj,hY,L2,my,vs,rfl,aU,ej,rU,rD,d6,hV,oa,tB,cU,Gs,rest,d2,es⟩;have gn:∀{k4:ak->Prop} {jO:aE} {i6:ak->Prop} {g_:aE} {o:eW},Ext k4 jO i6 g_->jO D=some o->¬k4 D->¬i6 D:=λy e n z=>by
  rcases y.new D z with q|q
  ·exact n q
  ·rw[e] at q;cases q
 by_cases e7:i<ts.length
 ·have hd:ts.drop i=ts[i]::ts.drop (i+1):=List.drop_eq_getElem_cons e7;have oc:ts[i]?=some ts[i]:=fO e7;rw[hd] at d2;simp only[gf,cb] at d2;obtain⟨m_,mA,b,dk,d2⟩:=d2;refine gB (T.item X' rfl rfl rfl aG i [] s3 kF dj (λ_ _=>False) ej (oC dj rD) rU (ok.go i hY dj _ d6.aB hV.cn oc)) (λb8 s4 ⟨u,av,cT⟩=>?_) λ_ _ z=>z;subst av;refine gB cT (λ_ s5 ⟨i2,g_,qf,tK,q0,oB,xb⟩=>?_) λ_ _ z=>z;obtain⟨i6,nD,a4⟩:=ok.kY i hY dj _ i2 g_ d6.aB hV.cn oc q0;have wM:=qf.pinned (oC g_ xb) (T.obj _ _ oB);have xr:=bt _ s5 kF g_ i2 u (λjL nX=>nX=g_/\cJ X'.K aF aN O i6 g_ m_ jL) wM tK ⟨aF,aN,O,i6,L2,_,m_,hV.ext nD,a4,mA,λjL pB=>⟨rfl,pB⟩⟩;rw[hx] at xr;refine gB xr (λ_ c9 ⟨jL,nX,sH,rA,pB⟩=>?_) λ_ _ z=>z;subst rA;have again:∀{jM:bw.St} {fx:aE} {cy:aQ},bw.Inv X' ([]++wi b2 s5.heap) jM fx cy->hH (i+1) cy.heap/\(∀b∈b2,fx b=none)/\bw.Inv X' [] jM fx cy:=λ{jM fx cy} hz=>by
   refine⟨T.keep _ _ _ oB λb ae o e=>(hz.pin (b,o) (l' _ (l' _ (vL ae e)))).1,λb ae=>?_,hz.yn⟩
   obtain⟨o,e,d⟩:=T.obj _ _ oB b ae;exact (hz.pin (b,o) (l' _ (l' _ (vL ae e)))).2.1
  have xC:=aX _ c9 jL nX (λo9 fx=>o9=b/\∃kb,Ext i6 nX kb fx) sH ⟨aF,aN,O,i6,m_,b,pB,dk,λkb fx lC=>⟨rfl,kb,lC⟩⟩;rw[hx] at xC;refine gB xC (λIT cy ⟨fx,hz,rB,kb,lC⟩=>?_) λ_ _ z=>z;subst rB;have oG:=nD.trans lC;have pC:=pB.ext lC;cases IT with
  |false=>
   simp only[j5,if_false] at d2 ⊢;obtain⟨a1,a2,iH⟩:=again hz;exact⟨_,by omega,i+1,jL,fx,kb,m_,my,vs,rfl,e7,iH,a1,a2,d6.trans oG,pC,oG.same.get oa,gn oG oa tB,cU.ext oG,by omega,rest,d2,es⟩
  |true=>
   simp only[if_true,cb,dP] at d2 ⊢;obtain⟨y,FI,Jb,FG,rfl⟩:=d2;have nt:=he _ cy jL fx (λv k5=>∃kc,Ext kb fx kc k5/\Rep X'.K kc k5 y v) hz ⟨aF,aN,O,kb,m_,y,pC,FI,λv kc k5 mU tJ=>⟨kc,mU,tJ⟩⟩;rw[hx] at nt;refine gB nt (λu8 cN ⟨mR,k5,DO,I7,kc,mU,tJ⟩=>?_) λ_ _ z=>z;have qQ:=oG.trans mU;have s_:=qQ.same.get oa;have tC:=gn qQ oa tB;obtain⟨Hy,I8⟩:=(pC.ext mU).other (ys:=vs++[mR]) tC lZ F_ s_;have ax:=CZ (X:=X') _ cN jL k5 (.ref D) [mR] (.ref D) [u8] (λ_ wL=>wL=upd k5 D (.lst (vs++[mR]))) DO rfl (.cons I7 .nil) ⟨D,vs,mR,rfl,rfl,s_,by rw[k0,<- cU.length];omega,rfl⟩;rw[hx] at ax;refine gB ax (λu9 dn ⟨v9,wL,DP,ab6,nk⟩=>?_) λ_ _ z=>z;subst nk;obtain⟨a1,a2,iH⟩:=again DP;have qR:Ext aZ bb kc (upd k5 D (.lst (vs++[mR]))):=by
    have y:=d6.trans qQ;refine⟨λb o e=>?_,y.sub,y.new,⟨λb f=>?_,y.cn.akT.upd λu e=>.inl ⟨_,e3 (e.symm.trans s_)⟩⟩⟩
    ·have nb:b≠D:=by
      rintro rfl;rw[k'] at e;cases e
     rw[cw nb];exact y.same b o e
    ·have nb:b≠D:=by
      rintro rfl;exact tC f
     rw[cw nb];exact y.cn b f
   refine⟨_,by omega,i+1,jL,_,kc,m_,my++[y],vs++[mR],rfl,e7,iH,a1,a2,qR,I8,dH,tC,((cU.ext qQ).append (bj.cons tJ bj.nil)).aB Hy,by simp;omega,Jb,FG,by rw[es];simp⟩
 ·have hd:ts.drop i=[]:=List.drop_eq_nil_of_le (by omega);rw[hd] at d2;cases d2;refine gB (T.done X' rfl rfl rfl aG i [] s3 kF dj (λ_ _=>False) ej (oC dj rD) rU (ok.stop i hY dj d6.aB (by omega))) (λb8 s4 ⟨av,iE⟩=>?_) λ_ _ z=>z;subst av;exact fin kF dj hY s4 vs iE d6 oa tB (by rw[es,mW];exact cU)
structure After(X:bh)(ai:List (ak×Obj))(σ:bw.St)(F:ak->Prop)(H:aE)(ys:List T)(D C:ak)(aj:aE)(aM:ak->Prop)(s1:aQ)(vs:List V):Prop where
 inv:∀h',Heap.SameBut C s1.heap h'->bw.Inv X ai σ aj {s1 with heap:=h'}
 ns:∃m,s1.heap.Ns C m
 free:aj C=none
 above:X.de.heap.objs.size<=C
 cells:∀x c,X.env.cells.lookup x=some c->c≠C
 pin:∀p∈X.dw++ai,p.1≠C
 loc:C≠X.env.locals
 new:H D=none
 ext:Ext F H aM aj
 gn:¬aM D
 lst:aj D=some (.lst vs)
 rep:bj X.K aM aj ys vs
def Rl{use:Option (aq->Sem Unit)}{Q:aq->aQ->Prop}{e0:Pos}(S:oZ X scope own caps)(aU:qk X cH iter it)
  (bt:∀cl C de aN b2 dw,k6 (gr X (own++caps.map (·.2)) scope cl C de aN b2 dw) cH fW)
  (aX:∀cl C de aN b2 dw,n0 (gr X (own++caps.map (·.2)) scope cl C de aN b2 dw) ifs cc)
  (he:∀cl C de aN b2 dw,cg (gr X (own++caps.map (·.2)) scope cl C de aN b2 dw) elt fb)
  (aw:∀x,pQ iter X.env x=pure x) {ai:List (ak×Obj)} {s:aQ} {σ:bw.St} {H:aE} {aF O F:ak->Prop} {aN:gu} {ag:Ev} {ys:List T} (I:bw.Inv X ai σ H s) (r:cJ X.K aF aN O F H ag σ)
  (e:comp own.length (caps.map (·.1)) it fW cc fb ag=some (.list ys)) (fin:∀D C aj aM s1 vs,After X ai σ F H ys D C aj aM s1 vs->compPost (bZ X.prog X.w) X.A X.d3 use Q (.ref D) C (.ok .next) s1):
  bK (bZ X.prog X.w) X.A (comprehension (.ListComp elt [⟨cH,iter,ifs,0⟩] scope pos) scope X.env e0 (newList []) false (eval iter X.env) use) Q X.d3 s:=by
 simp only[comp,cb] at e;obtain⟨ts,bB,e⟩:=e;split at e
 case isFalse=>cases e
 next xl=>
 simp only[dP] at e;obtain⟨ad_,eL,e⟩:=e;cases e;have qu:∀x∈scope.names,x.2=.free->∃c,X.env.cells.lookup x.1=some c:=λx hx aI=>I.ok.has x.1 (S.free x hx aI);refine wpAny_comprehension_free rfl aw (PC qu) S.kind S.names (cA (aU ai s σ H (λJ H1=>∃aZ,Ext F H aZ H1/\rm X.K J aZ H1 ts) I ⟨aF,aN,O,F,ag,ts,r,bB,λJ aZ H1 aL ok=>⟨aZ,aL,ok⟩⟩) λv s1 ah=>cA ah λAP s2 ao=>?_);obtain⟨tv,b2,hH,J,bb,rfl,ck,T,jB,f2,aZ,aL,ok⟩:=ao;have gH:∀b∈b2,b<s2.heap.objs.size:=λb ae=>by
  obtain⟨o,aH,_⟩:=T.obj 0 _ jB b ae;exact c3 aH
 have k':bb s2.heap.objs.size=none:=ck.fresh;have i_:H s2.heap.objs.size=none:=aL.same.none k';have jd:(s2.heap.push {cls:=.type "list",data:=.seq ([]:List aq).toArray}).objs.size=s2.heap.objs.size+1:=kU ..;refine wpAny_newList ?_ (j6 _);refine wpAny_newFunctionEnv S.cell (by intro y bN;simp at bN) (λgI Gw GD=>?_) S.kind;have keep:∀b u,(s2.heap.push {cls:=.type "list",data:=.seq ([]:List aq).toArray}).get? b=some u->gI.get? b=some u:=λb u e=>GD.extBut b u (e2 (c3 e)) (dx _ e);have iE:=Rm (tk:=s2.toks+0) S ck f2 gH Gw keep;have l5:=(r.ext aL).z1 (D:=s2.heap.objs.size) own.length S.aW k';refine codeAny_compStart_list ?loop (T.self _ 0 _ _ _ (T.keep 0 _ _ jB λb ae o e=>keep b o (dx _ e)) ?loop);refine agJ (X':=gr X (own++caps.map (·.2)) scope (kg X.env scope.names []) (s2.heap.push {cls:=.type "list",data:=.seq ([]:List aq).toArray}).objs.size {s2 with heap:=s2.heap.push {cls:=.type "list",data:=.seq ([]:List aq).toArray} } (upd bb s2.heap.objs.size (.lst [])) b2 (X.dw++ai))
  rfl S.calm (bt _ _ _ _ _ _) (aX _ _ _ _ _ _) (he _ _ _ _ _ _) T (λaj a8 b ae=>?_) ok xl k' (λz=>z.2 rfl) (r.o0 _ (r.fr _ i_)) (λcq aj aM s1 vs sI i2 F9 Iu du=>?_) iE (T.keep 0 _ _ jB λb ae o e=>keep b o (dx _ e)) (λb ae=>?_) (Ext.laid aL.cn k') l5 dH ?_ eL
 ·have tH:=Lu S ck f2 gH (own++caps.map (·.2));refine⟨a8 b ae,(tH.uY b ae).1,tH.uZ b ae,.inl ae,λx c e=>(tH.uY b ae).2 x c e,λp aC=>?_⟩;have oh:p∈X.dw++ai:=by simpa [gr] using aC
  exact (f2 b ae).2.2.2.2.2 p oh
 ·obtain⟨m,a8,_⟩:=id sI.loc;refine fin s2.heap.objs.size _ aj aM s1 vs ⟨λh' g0=>Qf ck f2 sI g0,⟨m,a8⟩,sI.free,?_,λx c e z=>?_,λp aC z=>?_,?_,i_,aL.trans i2,Iu,F9,du⟩
  ·rw[jd];exact Nat.le_succ_of_le ck.jd
  ·obtain⟨v,q⟩:=ck.cell x c e;have:=q.lt;rw[z,jd] at this;exact absurd this (Nat.not_lt.mpr (pN _))
  ·have:=c3 (ck.pin p aC).1;rw[z,jd] at this;exact absurd this (Nat.not_lt.mpr (pN _))
  ·have:=ck.lt;rw[jd];exact hW (Nat.lt_succ_of_lt this)
 ·have:=(f2 b ae).1;rw[cw (e2 (gH b ae))];exact this
 ·intro z;obtain⟨o,e⟩:=aL.cn _ z;rw[k'] at e;cases e
def aiQ(S:oZ X scope own caps)(aU:qk X cH iter it)
  (bt:∀cl C de aN b2 dw,k6 (gr X (own++caps.map (·.2)) scope cl C de aN b2 dw) cH fW)
  (aX:∀cl C de aN b2 dw,n0 (gr X (own++caps.map (·.2)) scope cl C de aN b2 dw) ifs cc)
  (he:∀cl C de aN b2 dw,cg (gr X (own++caps.map (·.2)) scope cl C de aN b2 dw) elt fb)
  (aw:∀x,pQ iter X.env x=pure x:=by intro _;rfl):o4 X (.ListComp elt [⟨cH,iter,ifs,0⟩] scope pos) (comp own.length (caps.map (·.1)) it fW cc fb):=by
 intro ai s σ H Q I ⟨aF,aN,O,F,ag,ys,r,e,k⟩;rw[eval_ListComp];refine Rl S aU bt aX he aw I r e λD C aj aM s1 vs a=>?_;obtain⟨m,a8⟩:=a.ns;exact⟨m,a8,λh' g0=>⟨.ref D,aj,a.inv h' g0,rfl,k D vs aM aj a.ext a.new a.gn a.lst a.rep⟩⟩
def KI{ag:Ev}{n:Nat}{cs:List Nat}{t:T}(e:comp n cs it fW cc fb ag=some t):∃ts,t=.list ts:=by
 simp only[comp,cb] at e;obtain⟨ts,_,e⟩:=e;split at e
 ·simp only[dP] at e;obtain⟨ys,_,e⟩:=e;exact⟨ys,e.symm⟩
 ·cases e
def uv(S:oZ X scope own caps)(aU:qk X cH iter it)
  (bt:∀cl C de aN b2 dw,k6 (gr X (own++caps.map (·.2)) scope cl C de aN b2 dw) cH fW)
  (aX:∀cl C de aN b2 dw,n0 (gr X (own++caps.map (·.2)) scope cl C de aN b2 dw) ifs cc)
  (he:∀cl C de aN b2 dw,cg (gr X (own++caps.map (·.2)) scope cl C de aN b2 dw) elt fb)
  (aw:∀x,pQ iter X.env x=pure x:=by intro _;rfl):cg X (.ListComp elt [⟨cH,iter,ifs,0⟩] scope pos) (comp own.length (caps.map (·.1)) it fW cc fb):=
 Ir (aiQ S aU bt aX he aw) λag t e=>KI e
def we(i:Nat){x:Str}{iX ly:Pos}(fc:X.N.Nodup)(S:oZ X scope own caps)(hit:qk X cH iter it)
  (bt:∀cl C de aN b2 dw,k6 (gr X (own++caps.map (·.2)) scope cl C de aN b2 dw) cH fW)
  (aX:∀cl C de aN b2 dw,n0 (gr X (own++caps.map (·.2)) scope cl C de aN b2 dw) ifs cc)
  (he:∀cl C de aN b2 dw,cg (gr X (own++caps.map (·.2)) scope cl C de aN b2 dw) elt fb)
  (aU:X.N[i]?=some x:=by rfl) (hx:Loc X.env.scope x:=by first|exact Or.inl rfl|exact Or.inr rfl)
  (oj:jg (.ListComp elt [⟨cH,iter,ifs,0⟩] scope pos) (some (.Name x iX)) ly.line X.env=pure true:=by rfl)
  (hf:X.fn x=true\/X.env.scope.names.lookup x=some .local:=by first|exact .inl rfl|exact .inr rfl)
  (aw:∀x,pQ iter X.env x=pure x:=by intro _;rfl):
  fS X (.Assign [.Name x iX] (.ListComp elt [⟨cH,iter,ifs,0⟩] scope pos) ly) (asg i (comp own.length (caps.map (·.1)) it fW cc fb)):=by
 intro ai s σ H D I ⟨aF,aN,O,F,ag,o,r,e,k⟩;simp only[asg,dP] at e;obtain⟨t,bB,rfl⟩:=e;obtain⟨ys,rfl⟩:=KI bB;rw[exec_Assign_Name_used _ _ _ _ oj];refine a6 (wpAny_standAt (a6 ?_));show bK _ X.A (do let _ <- comprehension (.ListComp elt [⟨cH,iter,ifs,0⟩] scope pos) scope X.env _ (newList []) false (eval iter X.env) (some (assign (.Name x iX) X.env))) _ _ s;refine a6 (cA (Rl (use:=some (assign (.Name x iX) X.env)) (Q:=λ_ s'=>sQ X ai D .next s') S hit bt aX he aw I r bB λwK C aj aM s1 vs a=>?_) λ_ s' bS=>cK (cK bS));have UJ:=a.inv s1.heap (Heap.SameBut.refl ..);have UK:bw.Inv X ai σ aj s1:=UJ;show bK _ X.A (assign (.Name x iX) X.env (.ref wK)) _ _ _;refine wpAny_assign_Name (Qo (v:=.ref wK) UK fc aU hx rfl (λs2 ck ⟨b,g0,ae⟩=>?_) hf);obtain⟨m,a8⟩:=a.ns;have nb:C≠b:=by
  rcases ae with rfl|ae
  ·exact a.loc
  ·exact (a.cells x b ae).symm
 refine⟨m,a8.sameBut g0 nb,λh' aci=>?_⟩
 have ej:bw.Inv X ai (σ.set i (some (.ref wK))) aj {s2 with heap:=h'}:=ck.turned (t':=s2.toks) (it:=C) (λb o ae e=>aci.extBut b o ae e) a.free a.loc (.inr a.above) a.cells a.pin;refine⟨_,aj,ej,?_⟩;have y:Ext F H (λb=>aM b\/b=wK) aj:=⟨a.ext.same,λb z=>.inl (a.ext.sub b z),λb z=>by
  rcases z with z|rfl
  ·exact a.ext.new b z
  ·exact .inr a.new,⟨λb z=>by
  rcases z with z|rfl
  ·exact a.ext.cn b z
  ·exact⟨_,a.lst⟩,a.ext.cn.akT⟩⟩
 refine k _ _ aj y.aB ((r.ext y).set i ?_)
 simp only[Rep];exact⟨wK,vs,rfl,.inr rfl,.inl a.lst,a.rep.keep (λ_ _ z=>z) λb _ z w=>⟨.inl z,w⟩⟩
end
end
section
variable [c5]
open AutoSeq1 (wpAny_loadPart')
def aed(l:ak)(items:Array aq)(n:Nat)(z4:Option ak)(dr:Array (Option aq)):
  Meets (Builtin.«enumerate.__new__» ⟨[.type "enumerate",.ref l],[]⟩) (λ_ R s=>s.heap.get? l=some {cls:=.type "tuple",dict:=z4,data:=.seq items n,slots:=dr} /\
   R (.ok (.ret (.ref (s.heap.push {cls:=.type "tuple_iterator",data:=.fields #[.ref l,.int 0 0]}).objs.size)))
    {s with heap:=(s.heap.push {cls:=.type "tuple_iterator",data:=.fields #[.ref l,.int 0 0]}).push {cls:=.type "enumerate",data:=.fields #[.none,.bool false,.ref s.heap.objs.size,rawInt 0,.none,.none]} }):=
 .of_wp λprog w A R s h=>by
  obtain⟨aC,g,d,tk,os⟩:=s;obtain⟨ay,h⟩:=h;have NY:=sub_enumerate;have hT:Heap.IsTuple (Shared.heap ⟨aC,g,d,tk,os⟩) l items:=⟨_,ay,rfl,n,rfl⟩
  wp_walk using wpAny_loadPart' ay
  refine wpAny_stack_any λst=>cK ?_
  split
  ·rename_i c _ _ _ _ _
   cases (c==Value.type "enumerate")
   ·wp_walk using wpAny_loadPart' ay,yr hT
    exact⟨_,rfl,h⟩
   ·wp_walk using wpAny_loadPart' ay,yr hT
    exact⟨_,rfl,h⟩
  ·wp_walk using wpAny_loadPart' ay,yr hT
   exact⟨_,rfl,h⟩
section
variable {prog:cQ}{w:cB}{A:di}{E:aq->aQ->Prop}{s:aQ}
def aee{l:ak}{items:Array aq}{Q:aq->aQ->Prop}(hT:s.heap.IsTuple l items)
  (h:∀h',IsEnum h' (s.heap.objs.size+1) s.heap.objs.size 0 .none->h'.IsTupleIter s.heap.objs.size l 0->h'.objs.size=s.heap.objs.size+2 ->
   (∀b o,s.heap.get? b=some o->h'.get? b=some o)->Q (.ref (s.heap.objs.size+1)) {s with heap:=h'}):
  bK (bZ prog w) A (call (.type "enumerate") [.ref l]) Q E s:=by
 obtain⟨⟨c,z4,XD,dr⟩,ay,aG,n,hd⟩:=hT;replace aG:c=.type "tuple":=aG;replace hd:XD=.seq items n:=hd;subst aG hd;refine callType_new F.called_enumerate (by decide) (F.typeCall_enumerate_1 _) (F.newCall_enumerate_1 _) (λobj=>F.args_object_init_2 obj _) F.entry_enumerate_new
  (aed l items n z4 dr) ⟨ay,?_⟩
 have ar:(s.heap.push {cls:=.type "tuple_iterator",data:=.fields #[.ref l,.int 0 0]}).objs.size=s.heap.objs.size+1:=kU ..;show _/\_;rw[ar];have he:IsEnum ((s.heap.push {cls:=.type "tuple_iterator",data:=.fields #[.ref l,.int 0 0]}).push
   {cls:=.type "enumerate",data:=.fields #[.none,.bool false,.ref s.heap.objs.size,rawInt 0,.none,.none]}) (s.heap.objs.size+1) s.heap.objs.size 0 .none:=by
  have:=ia (s.heap.push {cls:=.type "tuple_iterator",data:=.fields #[.ref l,.int 0 0]})
   (o:={cls:=.type "enumerate",data:=.fields #[.none,.bool false,.ref s.heap.objs.size,rawInt 0,.none,.none]}) rfl
  rw[ar] at this;exact this
 refine⟨⟨_,he,rfl⟩,h _ he ⟨_,dx _ (ia _ rfl),rfl,rfl⟩ (by rw[kU,ar]) λb o x=>dx _ (dx _ x)⟩
def aeo{it l:ak}{i:Nat}{items}{x:aq}{Q:aq->aQ->Prop}(hit:s.heap.IsTupleIter it l i)
  (ay:s.heap.IsTuple l items) (hx:items[i]?=some x)
  (jt:∀h',h'.IsTupleIter it l (i+1)->Heap.SameBut it s.heap h'->Q x {s with heap:=h'}):
  bK (bZ prog w) A (l_ (.ref it)) Q E s:=by
 obtain⟨o,aH,aG,hd⟩:=id hit;obtain⟨ol,Gy,_,nl,Gk⟩:=ay;unfold l_;refine a6 (oJ (name:=Str.ofString "__next__") hit.typeIs BP
  (nK BP hit.typeIs F.entry_tuple_iterator_next ?_ (F.args_tuple_iterator_next_1 _)))
 show bK _ _ (field (.ref it) 0 >>= _) _ _ s
 refine a6 (iv aH hd (x:=.ref l) rfl ?_)
 show bK _ _ (if (Value.ref l==Value.none)=true then _ else _) _ _ s
 rw[if_neg (show ¬((Value.ref l==Value.none)=true) from kX)];show bK _ _ (field (.ref it) 1 >>= _) _ _ s;refine a6 (iv aH hd (x:=.int i 0) rfl ?_);show bK _ _ (seqItems? (.ref l) >>= _) _ _ s;refine a6 (pP Gy Gk ?_);simp only[Int.toNat_natCast,hx];refine a6 (wpAny_setField aH hd (by simp) (cK ⟨x,rfl,cK (jt _ ?_ (Heap.SameBut.update ..))⟩));exact⟨_,Heap.get?_update_self _ aH (Obj.isFreed_of_fields (Obj.data_mapFields hd _)),(Obj.cls_mapFields ..).trans aG,by
  rw[Obj.data_mapFields hd];simp[rawInt]⟩
def Pn{it l:ak}{i:Nat}{items}{Q:aq->aQ->Prop}(c6:A.handled=none)
  (hit:s.heap.IsTupleIter it l i) (ay:s.heap.IsTuple l items) (hx:items[i]?=none)
  (qt:∀h' e,Heap.ExtBut it s.heap h'->(∃o,h'.get? e=some o/\o.cls=.type "StopIteration")->E (.ref e) {s with heap:=h'}):
  bK (bZ prog w) A (l_ (.ref it)) Q E s:=by
 obtain⟨o,aH,aG,hd⟩:=id hit;obtain⟨ol,Gy,_,nl,Gk⟩:=ay;unfold l_;refine a6 (oJ (name:=Str.ofString "__next__") hit.typeIs BP
  (nK BP hit.typeIs F.entry_tuple_iterator_next ?_ (F.args_tuple_iterator_next_1 _)))
 show bK _ _ (field (.ref it) 0 >>= _) _ _ s
 refine a6 (iv aH hd (x:=.ref l) rfl ?_)
 show bK _ _ (if (Value.ref l==Value.none)=true then _ else _) _ _ s
 rw[if_neg (show ¬((Value.ref l==Value.none)=true) from kX)];show bK _ _ (field (.ref it) 1 >>= _) _ _ s;refine a6 (iv aH hd (x:=.int i 0) rfl ?_);show bK _ _ (seqItems? (.ref l) >>= _) _ _ s;refine a6 (pP Gy Gk ?_);simp only[Int.toNat_natCast,hx];refine a6 (wpAny_rule (a6 (wpAny_setField aH hd (by simp) ?_)));show bK _ _ (newExc (.type "StopIteration") [] >>= _) _ _ _;refine a6 ?_;simp only[newExc,newTuple];refine a6 (qY ?_ (by size_fits));refine a6 (m:=firstArgMember _ _) (wpAny_of_eq (a:=Value.none) (by first|rfl|(simp only[firstArgMember];rfl)) ?_);refine qY ?_ (by size_fits);simp only[raiseNew];refine a6 (wpAny_handled ?_)
 first|rw[show A.in1.handled=none from c6]|rw[c6]
 refine a6 (cK (wpAny_throw ?_))
 exact qt _ _ (((Heap.SameBut.update ..).extBut.push _).push _) ⟨_,ia _ rfl,rfl⟩
end
def vG{prog:cQ}{w:cB}{A:di}(c6:A.handled=none)(it l:ak)(lg:l≠it)(items:Array aq):
  Draws prog w A it [it,l] items.size (λi v=>items[i]?=some v) (λi h=>h.IsTupleIter it l i/\h.IsTuple l items) where
 live:=λ_ _ st=>let ⟨o,aH,_⟩:=st.1;⟨o,aH⟩
 frame:=λ_ _ _ st aI=>⟨st.1.at λo e=>aI it (by simp) o e,let ⟨o,aH,r⟩:=st.2;⟨o,aI l (by simp) o aH,r⟩⟩
 item:=λi s Q E aU st jt=>by
  refine aeo st.1 st.2 (x:=items[i]) (by simp[aU]) λh' Yq jY=>?_
  exact jt _ h' s.toks (by simp[aU]) ⟨Yq,st.2.extBut jY.extBut lg⟩ jY
 done:=λs Q E st qt=>Pn c6 st.1 st.2 (by simp) qt
noncomputable def DR(K:bo)(a:ak):kG:=
 ⟨λi H=>∃xs x,c7 K H a xs/\xs[i]?=some x,λi H x aj=>∃p v,H p=none/\x=.ref p/\aj=upd H p (.tup [.int i,v])/\∀xs,c7 K H a xs->xs[i]?=some v,λi H=>∃xs,c7 K H a xs/\xs.length<=i⟩
def af6{P:cQ}{w:cB}{K:bo}{es:List bc}{k:Nat}{pos:Pos}(a it e:ak)(lg:e≠it)(X7:a≠it)(X5:a≠e):Turn P w K (.Tuple es k pos) (DR K a) [e,it] e (λi h=>(∃old,IsEnum h e it i old)/\h.IsTupleIter it a i) where
 mem:=by simp
 obj:=λi h st b ae=>by
  obtain⟨⟨old,he⟩,o,aH,aG,hd⟩:=st;rcases cO.mp ae with rfl|ae
  ·exact⟨_,he,λv z=>by
    have lF:Data.fields _=Data.cell v:=z;cases lF⟩
  ·have aR:b=it:=by simpa using ae
   subst aR;exact⟨o,aH,λv z=>by rw[hd] at z;cases z⟩
 keep:=λi h h' st bV=>by
  obtain⟨⟨old,he⟩,jB⟩:=st;exact⟨⟨old,bV e (by simp) _ he⟩,jB.at λo q=>bV it (by simp) o q⟩
 item:=by
  intro X hh hw hB aG i ai s σ H E I hf st bt;subst hh hw hB;obtain⟨xs,x,bS,hx⟩:=bt;obtain⟨its,b8,p,ar⟩:=I.tuple bS;obtain⟨u,bp,ea⟩:=b8.get hx;obtain⟨⟨old,he⟩,hit⟩:=st;obtain⟨f0,f1,f2,hc,f4,hg⟩:=hf e (by simp);obtain⟨k_,g1,g2,g3,n',kN⟩:=hf it (by simp);have aU:i<its.toArray.size:=by
   rw[eb];exact (fe.mp bp).1
  have YH:e∉[it,a]:=by
   intro z;rcases cO.mp z with z|z
   ·exact lg z
   ·have lF:e=a:=by simpa using z
    exact X5 lF.symm
  refine wpAny_pyNext_enum_itemD (vG (A:=X.A.in1) (I.ok.hd aG) it a X7 its.toArray) he ⟨hit,p⟩ aU lg YH λi2 h' tk X1 aH jY eD hsz aI=>?_
  have ex:i2=u:=by
   have:=X1;rw[<- Array.getElem?_toList] at this;rw[show (its.toArray).toList=its from rfl,bp] at this;exact (e3 this).symm
  subst ex;refine⟨_,rfl,wpAny_letOwnedTupleGo_enum aH λao nt fm=>?_⟩;have NN:e<s.heap.objs.size:=c3 he;have Yp:it<s.heap.objs.size:=by obtain⟨o,jv,_⟩:=hit;exact c3 jv
  have dV:∀b o,b≠e->b≠it->s.heap.get? b=some o->ao.get? b=some o:=λb o ah bG q=>fm.extBut b o ah (aI b o ah bG q);have fr:H s.heap.objs.size=none:=I.b'.fresh (eh _);have xi:ao.get? s.heap.objs.size=some {cls:=.type "tuple",data:=.seq #[.int i tk,i2]}:=fm.extBut _ _ (hW NN) eD;have pw:∀b o,H b=some o->b≠e/\b≠it:=λb o q=>⟨λz=>(by rw[z,f0] at q;cases q),λz=>(by rw[z,k_] at q;cases q)⟩;have qx:fy X.prog X.w (upd H s.heap.objs.size (.tup [.int i,x])) ao:=by
   intro b o q;by_cases ae:b=s.heap.objs.size
   ·subst ae;rw[dH] at q;cases q;exact⟨by show 2<=cF;decide,[.int i tk,i2],.cons ⟨tk,rfl⟩ (.cons ea .nil),⟨_,xi,rfl,_,rfl⟩⟩
   ·rw[cw ae] at q;refine (I.b' b o q).kq (λc v cV du=>dV c v ?_ ?_ du) (λc du=>?_) λc ys du=>?_
    ·rcases cV with rfl|cV
     ·exact (pw _ _ q).1
     ·exact (pw _ _ cV).1
    ·rcases cV with rfl|cV
     ·exact (pw _ _ q).2
     ·exact (pw _ _ cV).2
    ·rw[cw (ic du fr)];exact du
    ·rw[cw (ic du fr)];exact du
  have ck:bw.Inv X ai σ (upd H s.heap.objs.size (.tup [.int i,x])) {s with heap:=ao,toks:=tk+1}:=by
   refine I.step (g':=s.gens) (d':=s.drawn) (ch:=[e,it]) (λb ae=>?_) (λb o _ _ cV q _=>dV b o (λz=>cV (by simp[z])) (λz=>cV (by simp[z])) q) (λb o _ _ cV q _=>⟨o.slots,dV b o (λz=>cV (by simp[z])) (λz=>cV (by simp[z])) q⟩) (λb o _ q n=>?_)
    (λb o cV q=>⟨o,dV b o (λz=>cV (by simp[z])) (λz=>cV (by simp[z])) q⟩) (λb ys q=>by rw[cw (ic q fr)];exact q) (λb o u q=>by rw[cw (ic q fr)];exact q) (λb ps q=>⟨#[],by rw[cw (ic q fr),q];simp⟩) (λm hm=>?_) qx I.bare
   ·rcases cO.mp ae with rfl|ae
    ·exact⟨hc,f1,f4,hg⟩
    ·have:b=it:=by simpa using ae
     subst this;exact⟨g3,g1,n',kN⟩
   ·rw[cw (e2 (c3 q))];exact n
   ·obtain⟨o,e6,ep,jv,r⟩:=hm;exact⟨o,e6,ep,dV _ o (Ne.symm f1) (Ne.symm g1) jv,r⟩
  refine⟨.ref s.heap.objs.size,_,ck,rfl,⟨s.heap.objs.size,x,fr,rfl,rfl,λys bN=>by rw[I.yj bN bS];exact hx⟩,⟨⟨_,by simpa using nt⟩,jY.1.at λo q=>(fm.2 it lg.symm).trans q⟩,λb ae=>?_⟩
  rcases cO.mp ae with rfl|ae
  ·rw[cw (e2 NN)];exact f0
  ·have:b=it:=by simpa using ae
   subst this;rw[cw (e2 Yp)];exact k_
 done:=by
  intro X hh hw hB aG i ai s σ H E I hf st bt;subst hh hw hB;obtain⟨xs,bS,hx⟩:=bt;obtain⟨its,b8,p,ar⟩:=I.tuple bS;obtain⟨⟨old,he⟩,hit⟩:=st;obtain⟨k_,g1,g2,g3,n',kN⟩:=hf it (by simp);have eD:s.TypeIs (.ref e) "enumerate":=⟨_,he,rfl⟩;have ay:=b8.length;unfold pyNext;refine a6 (wpAny_attempt (oJ (name:=Str.ofString "__next__") eD F.slot_enumerate_next
   (nK F.slot_enumerate_next eD F.entry_enumerate_next ?_ (F.args_enumerate_next_1 _))))
  show bK _ _ (field (.ref e) 2 >>= _) _ _ _
  refine a6 (iv he rfl (x:=.ref it) rfl ?_)
  refine a6 (Pn (I.ok.hd aG) hit (show s.heap.IsTuple a its.toArray from p) (by simp;omega) λh' x Yi kj=>?_)
  obtain⟨o,aH,cV⟩:=kj;refine a6 (wpAny_isInstance (T:="StopIteration") (b:=true) ⟨o,aH,cV⟩ isSubtype_stop ?_);exact cK ⟨rfl,I.turned (t':=s.toks) (λb o ae q=>Yi b o ae q) k_ g1 g3 n' kN⟩
 self:=λ_ _ _ _ _ st h=>by
  obtain⟨⟨old,he⟩,_⟩:=st;exact wpAny_pyIter_enum he h
noncomputable def Y2(K:bo)(cD:fU):TI:=λσ H R=>cD σ H λvs H1=>∃a xs,vs=[.ref a]/\c7 K H1 a xs/\R (DR K a) H1
section
variable {X:bh}{es:List bc}{k:Nat}{p pos e0:Pos}{a:bc}{f:bI}
def ah6{cD:fU}(bt:fh X "enumerate")(hm:X.mg "enumerate"=none)(ax:hZ X [a] cD)(aw:bA [a] X.env=[(false,eval a X.env)]:=by rfl):o5 X (.Tuple es k e0) (.Call (.Name "enumerate" p) [a] [] pos) (Y2 X.K cD):=by
 intro ai s σ H R I h;refine Call_ (sq I bt hm PyProof.Rows.boot_enumerate (tT (cA (ax pos ai s σ H _ I h) λus s1 ⟨vs,H1,bC,bg,aP⟩=>?_) aw rfl));obtain⟨a,xs,rfl,bS,q⟩:=aP;cases bg with
|cons r x8=>
  cases x8
  cases r
  obtain⟨its,b8,pl,ar⟩:=bC.tuple bS;have NH:a<s1.heap.objs.size:=by obtain⟨o,aH,_⟩:=pl;exact c3 aH
  refine aee (show s1.heap.IsTuple a its.toArray from pl) λh' he hit hsz aI=>wpAny_pyIter_enum he ?_
  refine⟨s1.heap.objs.size+1,[s1.heap.objs.size+1,s1.heap.objs.size],_,_,H1,rfl,bC.kept (t':=s1.toks) aI,af6 a s1.heap.objs.size (s1.heap.objs.size+1) (Nat.succ_ne_self _) (e2 NH) (e2 (Nat.lt_succ_of_lt NH)),⟨⟨_,he⟩,hit⟩,λb ae=>?_,q⟩
  have iR:s1.heap.objs.size<=b:=by
   rcases cO.mp ae with rfl|ae
   ·exact pN _
   ·have:b=s1.heap.objs.size:=by simpa using ae
    rw[this];exact eh _
  exact bC.xa iR (bC.b'.fresh iR)
def agC{K:bo}{a:ak}{aZ:ak->Prop}{H1:aE}{ts:List T}{vs:List V}(av:c7 K H1 a vs)(q:bj K aZ H1 ts vs):rm K (DR K a) aZ H1 (enum ts) where
 go:=λi F H t aB d e=>by
  have aU:=(fe.mp e).1;simp only[enum,g6,List.length_zipIdx] at aU;obtain⟨v,ah,_⟩:=q.get (fO aU);exact⟨vs,v,aB.tup _ _ av,ah⟩
 kY:=λi F H t x aj aB d e y=>by
  obtain⟨p,v,aC,rfl,rfl,y⟩:=y;have aU:=(fe.mp e).1;simp only[enum,g6,List.length_zipIdx] at aU;obtain⟨ks,ah,ao⟩:=(q.aB aB).get (fO aU);have bG:=y vs (aB.tup _ _ av);rw[ah] at bG;cases bG;have aL:=Ext.laid (o:=.tup [.int i,v]) d aC;refine⟨F,aL,?_⟩;have bB:t=.tuple [.int i,ts[i]]:=by
   simp only[enum,hK,List.getElem?_zipIdx,fO aU] at e;simpa using e.symm
  subst bB;simp only[Rep];exact⟨p,_,rfl,c7.of dH,bj.cons (by simp[Rep]) (bj.cons (ao.ext aL) bj.nil)⟩
 stop:=λi F H aB ay=>⟨vs,aB.tup _ _ av,by
  simp only[enum,g6,List.length_zipIdx] at ay;rw[<- q.length];exact ay⟩
def DA(hm:X.mg "enumerate"=none)(ax:cg X a f)(bt:fh X "enumerate":=by rfl)(aw:bA [a] X.env=[(false,eval a X.env)]:=by rfl)(fm:bA [a] X.env=(false,eval a X.env)::bA [] X.env:=by rfl):
  qk X (.Tuple es k e0) (.Call (.Name "enumerate" p) [a] [] pos) (j9 (hM f)):=zB (ah6 bt hm (ix ax kZ fm) aw) λσ H R ⟨aF,aN,O,F,ag,ts,r,e,k⟩=>by
 simp only[j9,hM,dP,cb] at e;obtain⟨us,⟨t,bB,e⟩,rfl⟩:=e;split at e
 ·cases e
  refine⟨aF,aN,O,F,ag,_,r,bB,λv aM aj x q=>?_⟩
  simp only[Rep] at q;obtain⟨a,vs,rfl,aw,av⟩:=q;exact⟨a,vs,rfl,aw,k _ aM aj x (agC aw av)⟩
 ·cases e
end
end
section
variable [c5]
structure Cl(P:cQ)(w:cB)(K:bo)(mg:Str->Option aq)(base:b5)(x:Str)(k n:Nat)(d:List T->Option T):Prop where
 ex:∃cG fd ps,fI P w K mg base fH k cG fd ps (spT K n d)/\mg x=some (.ref cG)/\nE K (.ref cG)=true/\Binds K fd ps []
section
variable {P:cQ}{w:cB}{K:bo}{mg:Str->Option aq}{base:b5}{x:Str}{k n:Nat}{d:List T->Option T}
theorem Cl.mono{j:Nat}(c:Cl P w K mg base x j n d)(h:j<=k):Cl P w K mg base x k n d:=by
 obtain⟨cG,fd,ps,F,r⟩:=c.ex;exact⟨cG,fd,ps,F.mono h,r⟩
def Cl.mk'{cG:ak}{fd:gq}{ps:List Str}(F:fI P w K mg base fH k cG fd ps (spT K n d))(m:mg x=some (.ref cG))(aB:nE K (.ref cG)=true)(b:Binds K fd ps []):Cl P w K mg base x k n d:=⟨cG,fd,ps,F,m,aB,b⟩
end
section
variable {X:bh}{k n:Nat}{d:List T->Option T}{x:Str}{p pos:Pos}{e:bc}{es:List bc}{az:List bI}
def g7(C:Cl X.prog X.w X.K X.mg X.base x k n d)(av:d8 k X.A)(ax:lP X (e::es) az)(bt:fh X x:=by rfl)(a8:az.length=n:=by rfl)(iS:(x==("__debug__":Str))=false:=by decide)
  (he:bA (e::es) X.env=(false,eval e X.env)::bA es X.env:=by rfl) (hpl:(dQ pos (bA es X.env)).any (·.1)=false:=by rfl):cg X (.Call (.Name x p) (e::es) [] pos) (bl d az):=by
 obtain⟨cG,fd,ps,F,m,aB,b⟩:=C.ex;exact aiR F av bt m aB b ax a8 iS he hpl
def OE{i:Int}{t:Tok}(hm:X.mg x=some (.int i t))(bt:fh X x:=by rfl)(hd:(x==("__debug__":Str))=false:=by decide):cg X (.Name x pos) (aa (.int i)):=wA (v:=.int i) (RJ (v:=.int i) bt hm ⟨t,rfl⟩ hd) λ_ _=>by simp[Rep]
noncomputable def S'(scope sc:Scope)(N:List Str)(caps:List (Nat×Str)):Bool:=
 decide (scope.kind=.function) && scope.names.all (λy=>(decide (y.2≠.local) || decide (scope.names.lookup y.1=some .local)) && decide (y.2≠.cell) && (decide (y.2≠.free) || decide (sc.names.lookup y.1=some .cell) || decide (sc.names.lookup y.1=some .free)))
  && caps.all (λq=>decide (N[q.1]?=some q.2) && decide (scope.names.lookup q.2=some .free)) && decide ((caps.map (·.1)).Nodup)
def ajy{scope sc:Scope}{own:List Str}{caps:List (Nat×Str)}(N:List Str)(YM:X.env.scope=sc)(fc:X.N=N)(aG:X.calm=true)(h:S' scope sc N caps=true):oZ X scope own caps:=by
 simp only[S',iu,List.all_eq_true,decide_eq_true_eq,Bool.or_eq_true] at h;obtain⟨⟨⟨ah,ao⟩,bG⟩,cT⟩:=h;refine⟨ah,λy bN ay=>?_,λy bN=>(ao y bN).1.2,λy bN hf=>?_,λq bS=>by rw[fc];exact bG q bS,cT,aG⟩
 ·rcases (ao y bN).1.1 with z|z
  ·exact absurd ay z
  ·exact z
 ·have aI:X.env.kindOf y.1=sc.names.lookup y.1:=by rw[<- YM];rfl
  rw[aI];rcases (ao y bN).2 with (z|z)|z
  ·exact absurd hf z
  ·exact .inl z
  ·exact .inr z
end
def mr{P:cQ}{w:cB}{K:bo}{mg:Str->Option aq}{base:b5}{x:Str}{st:Stmt}{f:ak}{fd:gq}{N ps:List Str}{k:Nat}{b:bz}(F:cY K x x st f fd)(S:dg N ps (cp st))(bd:Binds K fd ps [])(m:mg x=some (.ref f))
  (ae:∀(c0:aq) (A:di) (outer:List Env) (s:aQ) (H:aE) (E:gU),d8 k (A.deeper (envOfC x (cp st) s.heap.objs.size f c0)) ->
   iF (jU fH P w K mg base N x (cp st) f c0 A outer s H E).kR (jH st) b):Cl P w K mg base x (k+1) ps.length (d4 b N.length):=.mk' (SO F S ae) m F.aB bd
end
end D
end
section
namespace bw
open PySem PySem.Spec PyProof.Rows
section
variable {ff:Type}[DecidableEq ff]
noncomputable def h9(kvs:List (ff×V))(k:ff):Option V:=(kvs.find? λcP=>decide (cP.1=k)).map (·.2)
noncomputable def putK(kvs:List (ff×V))(k:ff)(v:V):List (ff×V):=
 if (kvs.any λcP=>decide (cP.1=k))=true then kvs.map (λcP=>if cP.1=k then (cP.1,v) else cP) else kvs++[(k,v)]
def KU{p:ff×V}{r:List (ff×V)}{k:ff}(e:p.1=k):h9 (p::r) k=some p.2:=by simp[h9,j4,e]
def KV{p:ff×V}{r:List (ff×V)}{k:ff}(e:¬p.1=k):h9 (p::r) k=h9 r k:=by simp[h9,j4,e]
theorem Q2(k:ff):∀kvs:List (ff×V),(kvs.any λcP=>decide (cP.1=k))=(h9 kvs k).isSome
| []=>rfl
|p::r=>by
  rw[List.any_cons];by_cases e:p.1=k
  ·simp only[KU e,decide_eq_true e,Bool.true_or,Option.isSome_some]
  ·rw[KV e,decide_eq_false e,Bool.false_or];exact Q2 k r
def Kg(kvs:List (ff×V))(k:ff)(v:V):(putK kvs k v).length<=kvs.length+1:=by
 unfold putK;split
 ·rw[g6];omega
 ·rw[qV,g5,qX];omega
def jP.Y7{o:Option V}{u:Option aq}(r:jP o u):o.isSome=u.isSome:=by
 cases o with
|none=>cases u with
  |none=>rfl
  |some _=>exact (show False from r).elim
|some _=>cases u with
  |none=>exact (show False from r).elim
  |some _=>rfl
theorem jP.getD{o:Option V}{u:Option aq}{d:V}{d':aq}(r:jP o u)(ip:RelV d d'):RelV (o.getD d) (u.getD d'):=by
 cases o with
|none=>cases u with
  |none=>exact ip
  |some _=>exact (show False from r).elim
|some _=>cases u with
  |none=>exact (show False from r).elim
  |some _=>exact r
def f3.val{kvs:List (ff×V)}{vs:List (ff×aq)}(r:f3 kvs vs)(k:ff):jP (h9 kvs k) (valueAt vs k):=by
 unfold f3 at r
 induction r with
|nil=>exact True.intro
| @cons p q ps oz h t b7=>
  obtain⟨ah,ao⟩:=h;by_cases e:p.1=k
  ·have b1:q.1=k:=ah.symm.trans e;have b:valueAt (q::oz) k=some q.2:=by simp[valueAt,j4,b1]
   rw[KU e,b];exact ao
  ·have b1:¬q.1=k:=λz=>e (ah.trans z);have b:valueAt (q::oz) k=valueAt oz k:=by simp[valueAt,j4,b1]
   rw[KV e,b];exact b7
theorem f3.any{kvs:List (ff×V)}{vs:List (ff×aq)}(r:f3 kvs vs)(k:ff):(kvs.any λcP=>decide (cP.1=k))=vs.any λcP=>decide (cP.1=k):=by
 unfold f3 at r
 induction r with
|nil=>rfl
|cons h t b7=>rw[List.any_cons,List.any_cons,b7,h.1]
def f3.Ja{kvs:List (ff×V)}{vs:List (ff×aq)}(r:f3 kvs vs)(k:ff){y:V}{u:aq}(bM:RelV y u):
  f3 (kvs.map λcP=>if cP.1=k then (cP.1,y) else cP) (vs.map λcP=>if cP.1=k then (cP.1,u) else cP):=by
 unfold f3 at r ⊢
 induction r with
|nil=>exact .nil
| @cons p q ps oz h t b7=>
  rw[dv,dv];refine .cons ?_ b7;obtain⟨ah,ao⟩:=h;by_cases e:p.1=k
  ·rw[if_pos e,if_pos (ah.symm.trans e)];exact⟨ah,bM⟩
  ·rw[if_neg e,if_neg (λz=>e (ah.trans z))];exact⟨ah,ao⟩
def f3.put{kvs:List (ff×V)}{vs:List (ff×aq)}(r:f3 kvs vs)(k:ff){y:V}{u:aq}(bM:RelV y u):f3 (putK kvs k y) (stored vs k u):=by
 unfold putK stored;rw[r.any k];by_cases e:(vs.any λcP=>decide (cP.1=k))=true
 ·rw[if_pos e,if_pos e];exact r.Ja k bM
 ·rw[if_neg e,if_neg e];exact Paired.snoc r ⟨rfl,bM⟩
theorem f3.length{kvs:List (ff×V)}{vs:List (ff×aq)}(r:f3 kvs vs):kvs.length=vs.length:=Paired.length r
end
def wD{P:cQ}{w:cB}{k:Key}{u:aq}(r:RelV (ek k) u):(fF P w).is k u=true:=by
 cases k with
|inl i=>obtain⟨t,e⟩:=(show ∃t,u=Value.int i t from r);subst e;exact PQ P w i t
|inr x=>obtain⟨t,e⟩:=(show ∃t,u=Value.str x t from r);subst e;exact PO P w x t
theorem QE{P:cQ}{w:cB}:∀{bf:List Key} {us:List aq},Vals (bf.map ek) us->ItemsAre (fF P w) bf us
| [],_,r=>by rw[j3] at r;cases r;exact .nil
|k::bf,_,r=>by
  rw[dv] at r;cases r with
  |cons h t=>exact .cons (wD h) (QE t)
abbrev KT(H:aE):List (List Key×V)->List (List Key×ak×aq)->Prop:=Paired λp q=>p.1=q.1/\H q.2.1=some (.tup (p.1.map ek))/\RelV p.2 q.2.2
def KT.val{H:aE}{kvs:List (List Key×V)}{xs:List (List Key×ak×aq)}(r:KT H kvs xs)(k:List Key):jP (h9 kvs k) ((atKey xs k).map (·.2)):=by
 induction r with
|nil=>exact True.intro
| @cons p q ps oz h t b7=>
  obtain⟨ah,_,ao⟩:=h;by_cases e:p.1=k
  ·have b1:q.1=k:=ah.symm.trans e;have b:atKey (q::oz) k=some q.2:=by simp[atKey,j4,b1]
   rw[KU e,b];exact ao
  ·have b1:¬q.1=k:=λz=>e (ah.trans z);have b:atKey (q::oz) k=atKey oz k:=by simp[atKey,j4,b1]
   rw[KV e,b];exact b7
def KT.Ja{H:aE}{kvs:List (List Key×V)}{xs:List (List Key×ak×aq)}(r:KT H kvs xs)(k:List Key){y:V}{u:aq}(bM:RelV y u):
  KT H (kvs.map λcP=>if cP.1=k then (cP.1,y) else cP) (xs.map (putAt k u)):=by
 induction r with
|nil=>exact .nil
| @cons p q ps oz h t b7=>
  rw[dv,dv];refine .cons ?_ b7;obtain⟨ah,ao,bG⟩:=h;unfold putAt;by_cases e:p.1=k
  ·rw[if_pos e,if_pos (ah.symm.trans e)];exact⟨ah,ao,bM⟩
  ·rw[if_neg e,if_neg (λz=>e (ah.trans z))];exact⟨ah,ao,bG⟩
def KT.put{H:aE}{kvs:List (List Key×V)}{xs:List (List Key×ak×aq)}(r:KT H kvs xs)(k:List Key){b:ak}{y:V}{u:aq}(ae:H b=some (.tup (k.map ek)))(bM:RelV y u):
  KT H (putK kvs k y) (storedH xs k b u):=by
 have e:(kvs.any λcP=>decide (cP.1=k))=(atKey xs k).isSome:=by
  rw[Q2,(r.val k).Y7,Option.isSome_map]
 unfold putK storedH;rw[e];by_cases q:(atKey xs k).isSome=true
 ·rw[if_pos q,if_pos q];exact r.Ja k bM
 ·rw[if_neg q,if_neg q];exact Paired.snoc r ⟨rfl,ae,bM⟩
def KT.keeps{H aj:aE}{kvs:List (List Key×V)}{xs:List (List Key×ak×aq)}(r:KT H kvs xs)(aX:∀b ys,H b=some (.tup ys)->aj b=some (.tup ys)):KT aj kvs xs:=
 Paired.Im r λ_ _ z=>⟨z.1,aX _ _ z.2.1,z.2.2⟩
section
variable {P:cQ}{w:cB}{H:aE}{h:b5}{a:ak}
def S2{u:eW}(ok:fy P w H h)(e:e' H a u):ik P w H h a u:=e.ok ok
def wG{kvs:List (Key×V)}(ok:fy P w H h)(e:e' H a (.dA kvs)):kvs.length<=cF/\(a==sysModules)=false/\∃vs,f3 kvs vs/\h.DictOf (fF P w) a vs:=
 show ik P w H h a (.dA kvs) from S2 ok e
def S_{kvs:List (Key×V)}(ok:fy P w H h)(e:H a=some (.dA kvs)):kvs.length<=cF/\(a==sysModules)=false/\∃vs,f3 kvs vs/\h.DictOf (fF P w) a vs:=wG ok (.inl e)
def Dz{bf:List Key}(ok:fy P w H h)(e:H a=some (.tup (bf.map ek))):(tupleKind (fF P w)).is h bf a:=by
 obtain⟨_,its,r,o,ah,ao,n,bG⟩:=(show ik P w H h a (.tup (bf.map ek)) from ok a _ e);exact⟨o,its.toArray,n,ah,ao,bG,by simpa using QE r⟩
def zI{kvs:List (List Key×V)}(ok:fy P w H h)(e:e' H a (.ng kvs)):kvs.length<=cF/\(a==sysModules)=false /\
  ∃xs,KT H kvs xs/\h.DictOfH (tupleKind (fF P w)) a xs:=by
 obtain⟨z,y,xs,r,o,es,ep,ah,ao,bG,cT,f9⟩:=(show ik P w H h a (.ng kvs) from S2 ok e);refine⟨z,y,xs,r,o,es,ep,ah,ao,bG,cT,λx hx=>?_,f9⟩;have all:∀{l:List (List Key×V)} {m:List (List Key×ak×aq)},KT H l m->∀x∈m,(tupleKind (fF P w)).is h x.1 x.2.1:=by
  intro l m q
  induction q with
  |nil=>intro x hx;exact nomatch hx
  | @cons p q ps oz bS t b7=>
   intro x hx;rcases cO.mp hx with e|hx
   ·subst e;exact Dz ok (by rw[<- bS.1];exact bS.2.1)
   ·exact b7 x hx
 exact all r x hx
def akg{kvs:List (List Key×V)}(ok:fy P w H h)(e:H a=some (.ng kvs)):kvs.length<=cF/\(a==sysModules)=false /\
  ∃xs,KT H kvs xs/\h.DictOfH (tupleKind (fF P w)) a xs:=zI ok (.inl e)
end
noncomputable def mw(H:aE)(a:ak)(y:V)(r:Option V):Prop:=
 (∃kvs k,e' H a (.dA kvs)/\y=ek k/\r=h9 kvs k)\/∃kvs k b,e' H a (.ng kvs)/\y=.ref b/\H b=some (.tup (k.map ek))/\r=h9 kvs k
noncomputable def qd(H:aE)(a:ak)(y v:V)(aj:aE):Prop:=
 (∃kvs k,H a=some (.dA kvs)/\y=ek k/\kvs.length<cF/\aj=upd H a (.dA (putK kvs k v))) \/
 ∃kvs k b,H a=some (.ng kvs)/\y=.ref b/\H b=some (.tup (k.map ek))/\kvs.length<cF/\aj=upd H a (.ng (putK kvs k v))
theorem mw.k{H:aE}{a:ak}{kvs:List (Key×V)}{k:Key}(e:H a=some (.dA kvs)):mw H a (ek k) (h9 kvs k):=.inl ⟨kvs,k,.inl e,rfl,rfl⟩
theorem qd.k{H:aE}{a:ak}{kvs:List (Key×V)}{k:Key}{v:V}(e:H a=some (.dA kvs))(ay:kvs.length<cF):qd H a (ek k) v (upd H a (.dA (putK kvs k v))):=.inl ⟨kvs,k,e,rfl,ay,rfl⟩
section
variable {X:bh}{ai:List (ak×Obj)}{σ:St}{H:aE}{s:aQ}{a:ak}{y v:V}{u r:aq}{o:Option V}{A:di}{E:aq->aQ->Prop}
def Inv.big(I:Inv X ai σ H s):sysModules<s.heap.objs.size:=by
 have h:lD<s.heap.objs.size:=(I.mod.glob.keeps I.iK).lt;exact Nat.lt_trans (by decide) h
def QL{Q:aq->aQ->Prop}(bp:A.units+1<cLine)(I:Inv X ai σ H s)(g:mw H a y (some v))(bM:RelV y u)(h:∀gc s',Inv X ai σ H s'->RelV v gc->Q gc s'):
  bK (bZ X.prog X.w) A (getItem (.ref a) u) Q E s:=by
 rcases g with ⟨kvs,k,e,eL,l⟩|⟨kvs,k,b,e,eL,dk,l⟩
 ·subst eL;obtain⟨z,hd,vs,rel,dU⟩:=wG I.b' e;obtain⟨gc,hw,kp⟩:=jP.some_of (v:=v) (o:=valueAt vs k) (by rw[l];exact rel.val k);exact wpAny_getItem_of (wD bM) dU.mapOf hw (h gc _ (I.tok _) kp)
 ·subst eL;cases (show u=Value.ref b from bM);obtain⟨z,hd,xs,rel,dU⟩:=zI I.b' e;obtain⟨gc,hw,kp⟩:=jP.some_of (v:=v) (o:=(atKey xs k).map (·.2)) (by rw[l];exact rel.val k);obtain⟨p,aC,rH⟩:=dP.mp hw;refine wpAny_getItem_heap (tupleKind_room_in1 bp) (Dz I.b' dk) dU aC ?_;rw[rH];exact h gc _ (I.tok _) kp
def Ls{h':b5}{t':Nat}{d_:eW}(I:Inv X ai σ H s)(l2:wO (H a))(aw:Heap.SameBut a s.heap h')(he:∃q,h'.get? a=some q)(new:ik X.prog X.w (upd H a d_) h' a d_):
  Inv X ai σ (upd H a d_) {s with heap:=h',toks:=t'}:=
 I.write (x:=a) (e:=a) l2 (.inl rfl) (λb q ae z=>(aw.2 b ae).trans z) he new
def SP{P:cQ}{w:cB}{aj:aE}{h':b5}{kvs:List (Key×V)}{vs:List (Key×aq)}(z:kvs.length<=cF)(hd:(a==sysModules)=false)(rel:f3 kvs vs)(dU:h'.DictOf (fF P w) a vs):
  ik P w aj h' a (.dA kvs):=⟨z,hd,vs,rel,dU⟩
def QK{aj:aE}{Q:Unit->aQ->Prop}(bp:A.units+1<cLine)(I:Inv X ai σ H s)(g:qd H a y v aj)(bM:RelV y u)(b8:RelV v r)(h:∀s',Inv X ai σ aj s'->Q () s'):
  bK (bZ X.prog X.w) A (setItem (.ref a) u r) Q E s:=by
 rcases g with ⟨kvs,k,e,eL,l,FE⟩|⟨kvs,k,b,e,eL,dk,l,FE⟩
 ·subst eL FE;obtain⟨z,hd,vs,rel,dU⟩:=S_ I.b' e;have ar:vs.length<=cF:=by rw[<- rel.length];exact z
  have ay:(putK kvs k v).length<=cF:=by have:=Kg kvs k v;omega
  refine wpAny_setItem_pairs (hsz:=ar) (wD bM) dU λh' sY aw=>h _ ?_
  have he:∃q,h'.get? a=some q:=let ⟨q,_,_,bS,_⟩:=sY;⟨q,bS⟩;exact Ls I (by rw[e];exact True.intro) aw he (SP ay hd (rel.put k b8) sY)
 ·subst eL FE;cases (show u=Value.ref b from bM);obtain⟨z,hd,xs,rel,dU⟩:=akg I.b' e;have ar:xs.length<=cF:=by rw[<- Paired.length rel];exact z
  have ay:(putK kvs k v).length<=cF:=by have:=Kg kvs k v;omega
  refine wpAny_setItem_heap (hsz:=ar) (tupleKind_room_in1 bp) (Dz I.b' dk) dU λh' sY aw=>h _ ?_
  obtain⟨q,es,ep,bS,ao,bG,cT,_,f9⟩:=sY;refine Ls I (by rw[e];exact True.intro) aw ⟨q,bS⟩ ⟨ay,hd,_,(rel.put k dk b8).keeps λc ys ha=>?_,q,es,ep,bS,ao,bG,cT,f9⟩;rw[cw (aj' ha e (λz=>nomatch z))];exact ha
end
noncomputable def rn(i:bc):Prop:=∀dX ft,subscripted i false dX ft=operate [dX,ft] (getItem dX ft)
def ahI{prog:cQ}{w:cB}{A:di}{E:aq->aQ->Prop}{s:aQ}{env:Env}{value slice:bc}{pos:Pos}{T id:String}{Q:aq->aQ->Prop}
  (ay:typeLookup (.type T) "__getitem__"=pure (some (.builtin id))) (aw:rn slice)
  (h:bK (bZ prog w) A (eval value env) (λo dO=>bK (bZ prog w) A (eval slice env) (λi nC=>nC.TypeIs o T/\bK (bZ prog w) A (getItem o i) Q E nC) E dO) E s):
  bK (bZ prog w) A (eval (.Subscript value slice pos) env) Q E s:=by
 refine Subscript_ (gB h (λo dO gI=>gB gI (λi nC kk=>?_) λ_ _ x=>x) λ_ _ x=>x)
 obtain⟨eD,kk⟩:=kk;unfold subscriptTail;refine a6 ?_;rw[getitemInPython_of_ne eD.not_modules];refine a6 (wpAny_specialOf eD ay ?_);have fin:bK (bZ prog w) A (subscripted slice false o i) (λr vf=>bK (bZ prog w) A (letTemporaryGo value o r >>= λ_=>pure r) Q E vf) E nC:=by
  rw[aw o i];exact wpAny_operating (gB kk (λr vf iT=>a6 (wpAny_letTemporaryGo (cK iT))) λ_ _ x=>x)
 first
  |exact cK (a6 fin)
  |exact a6 (cK (a6 fin))
  |exact a6 fin
def afs{X:bh}{ai:List (ak×Obj)}{σ:St}{H:aE}{s:aQ}{a:ak}{y:V}{o:Option V}(I:Inv X ai σ H s)(g:mw H a y o):s.TypeIs (.ref a) "dict":=by
 rcases g with ⟨kvs,k,e,_,_⟩|⟨kvs,k,b,e,_,_,_⟩
 ·obtain⟨_,_,vs,_,dU⟩:=wG I.b' e;exact dU.typeIs
 ·obtain⟨_,_,xs,_,dU⟩:=zI I.b' e;exact dU.typeIs
noncomputable def ajL(kr ty:TE):TE:=λσ H Q=>kr σ H λx H1=>ty σ H1 λy bb=>∃a v,x=.ref a/\mw bb a y (some v)/\Q v bb
noncomputable def ajT(kr ty hI:TE):h2:=λD σ H=>hI σ H λv H1=>kr σ H1 λx bb=>ty σ bb λy dj=>∃a jO,x=.ref a/\qd dj a y v jO/\D.bY σ jO
noncomputable def ajU(kr ty hI:TE)(ip:V->V->aE->dC->Prop):h2:=λD σ H=>kr σ H λx H1=>ty σ H1 λy bb=>∃a v,x=.ref a/\mw bb a y (some v) /\
 hI σ bb λoH dj=>ip v oH dj λz jO=>∃g_,qd jO a y z g_/\D.bY σ g_
section
variable {X:bh}{o i e value:bc}{pos pos' Jt:Pos}{kr ty hI:TE}
def vX(bp:X.A.units+1<cLine)(aH:bW X o kr)(aU:bW X i ty)(aw:rn i):bW X (.Subscript o i pos) (ajL kr ty):=by
 intro ai s σ H Q I h;refine ahI PySem.F.slot_dict_getitem.lookup aw (cA (aH ai s σ H _ I h) λu s1 ⟨x,H1,bC,a4,aP⟩=>cA (aU ai s1 σ H1 _ bC aP) λft s2 ⟨y,bb,ck,bM,a,v,ex,g,ba⟩=>?_);subst ex;obtain rfl:u=Value.ref a:=a4;exact⟨afs ck g,QL bp ck g bM λgc s3 ej kp=>⟨v,bb,ej,kp,ba⟩⟩
def Ll(bp:X.A.units+1<cLine)(aH:bW X o kr)(aU:bW X i ty)(a':bW X value hI)(aw:jg value (some (.Subscript o i pos')) pos.line X.env=pure false):
  kH X (.Assign [.Subscript o i pos'] value pos) (ajT kr ty hI):=by
 intro ai s σ H D I h;refine wpAny_Assign_Subscript (cA (a' ai s σ H _ I h) λr s1 ⟨v,H1,bC,b8,aP⟩=>cA (aH ai s1 σ H1 _ bC aP) λu s2 ⟨x,bb,ck,a4,ba⟩=>cA (aU ai s2 σ bb _ ck ba) λft s3 ⟨y,dj,ej,bM,a,jO,ex,g,cU⟩=>?_) aw;subst ex;obtain rfl:u=Value.ref a:=a4;exact QK bp ej g bM b8 λs4 iE=>⟨σ,jO,iE,cU⟩
def ah0{op:Operator}{ip:V->V->aE->dC->Prop}(bp:X.A.units+1<cLine)(aH:bW X o kr)(aU:bW X i ty)(a':bW X value hI)(Gz:DQ X op ip)
  (ax:∀dX ft new,augStore i dX ft new=(do holding [new,dX,ft] (setItem dX ft new);release [new,dX,ft] [];pure .next)):kH X (.AugAssign (.Subscript o i Jt) op value pos) (ajU kr ty hI ip):=by
 intro ai s σ H D I h;refine wpAny_AugAssign_SubscriptAny (cA (aH ai s σ H _ I h) λu s1 ⟨x,H1,bC,a4,aP⟩=>cA (aU ai s1 σ H1 _ bC aP) λft s2 ⟨y,bb,ck,bM,a,v,ex,g,ba⟩=>?_) ax;subst ex;obtain rfl:u=Value.ref a:=a4;refine QL bp ck g bM λgc s3 ej kp=>cA (a' ai s3 σ bb _ ej ba) λmT s4 ⟨oH,dj,iE,acf,cU⟩=>cA (Gz ai s4 σ dj v oH gc mT _ iE kp acf cU) λBM s5 ⟨z,jO,qf,vc,g_,kN,gM⟩=>?_;exact QK bp qf kN bM vc λc9 sH=>⟨σ,g_,sH,gM⟩
end
def ahz{P:cQ}{w:cB}{H:aE}(h:b5)(ae:sysModules<h.objs.size):ik P w H (h.push {cls:=.type "dict",data:=.dict #[]}) h.objs.size (.dA []):=
 ⟨j6 _,beq_eq_false_iff_ne.mpr (Ne.symm (e2 ae)),[],.nil,Heap.DictOf.new h⟩
noncomputable def zv:List (TE×TE)->St->aE->(List (V×V)->aE->Prop)->Prop
  | [],_,H,Q=>Q [] H
  | (tk,hI)::r,σ,H,Q=>tk σ H λx H1=>hI σ H1 λy bb=>zv r σ bb λps dj=>Q ((x,y)::ps) dj
abbrev Mn:List (V×V)->List (aq×aq)->Prop:=Paired λp q=>RelV p.1 q.1/\RelV p.2 q.2
noncomputable def wU(X:bh)(pos:Pos)(keys:List (Option bc))(values:List bc)(qL:List (TE×TE)):Prop:=
 ∀(ai:List (ak×Obj)) (s:aQ) (σ:St) (H:aE) (Q:List (V×V)->aE->Prop),Inv X ai σ H s->zv qL σ H Q ->
  bK (bZ X.prog X.w) X.A (evalPairs (pairTrees keys values X.env pos)) (λvs s'=>∃ps aj,Inv X ai σ aj s'/\Mn ps vs/\Q ps aj) X.d3 s
def RH{X:bh}{pos:Pos}:wU X pos [] [] []:=λai s σ H Q I h=>pairTrees_nil_walk ⟨[],H,I,.nil,h⟩
def K4{X:bh}{pos:Pos}{k v:bc}{bf:List (Option bc)}{vs:List bc}{tk hI:TE}{qL:List (TE×TE)}(aI:bW X k tk)(a':bW X v hI)(av:wU X pos bf vs qL):
  wU X pos (some k::bf) (v::vs) ((tk,hI)::qL):=λai s σ H Q I h=>
 pairTrees_cons_walk (cA (aI ai s σ H _ I h) λu s1 ⟨x,H1,bC,a4,aP⟩=>cA (a' ai s1 σ H1 _ bC aP) λmT s2 ⟨y,bb,ck,bM,ba⟩=>
  cA (av ai s2 σ bb _ ck ba) λws s3 ⟨ps,dj,ej,rel,cU⟩=>⟨(x,y)::ps,dj,ej,.cons ⟨a4,bM⟩ rel,cU⟩)
noncomputable def oS(kvs more:List (Key×V)):List (Key×V):=more.foldl (λacc cP=>putK acc cP.1 cP.2) kvs
def f3.merge:∀{more:List (Key×V)} {rs:List (Key×aq)} {kvs:List (Key×V)} {vs:List (Key×aq)},f3 more rs->f3 kvs vs->f3 (oS kvs more) (merged vs rs):=by
 intro more rs kvs vs r;unfold f3 at r
 induction r generalizing kvs vs with
|nil=>intro q;exact q
| @cons p q ps oz h t b7=>
  intro ko;have e:f3 (putK kvs p.1 p.2) (stored vs q.1 q.2):=by
   have:=ko.put p.1 h.2;rw[<- h.1];exact this
  exact b7 e
theorem PB:∀(more kvs:List (Key×V)),(oS kvs more).length<=kvs.length+more.length
| [],kvs=>by show kvs.length<=kvs.length+0;omega
|p::r,kvs=>by
  have ah:=PB r (putK kvs p.1 p.2);have ao:=Kg kvs p.1 p.2;show (oS (putK kvs p.1 p.2) r).length<=_;rw[g5];omega
theorem Qh{P:cQ}{w:cB}:∀{kvs:List (Key×V)} {ws:List (aq×aq)},Mn (kvs.map λcP=>(ek cP.1,cP.2)) ws->∃rs,Carries (fF P w) ws rs/\f3 kvs rs
| [],_,r=>by rw[j3] at r;cases r;exact⟨[],True.intro,.nil⟩
|p::kvs,_,r=>by
  rw[dv] at r;cases r with
  | @cons a b as bs h t=>
   obtain⟨rs,c,q⟩:=Qh (P:=P) (w:=w) t;obtain⟨bX,b9⟩:=b;exact⟨(p.1,b9)::rs,⟨wD h.1,rfl,c⟩,.cons ⟨rfl,h.2⟩ q⟩
noncomputable def ajK(qL:List (TE×TE)):TE:=λσ H Q=>∀p,H p=none->zv qL σ (upd H p (.dA [])) λps bb=>bb p=some (.dA [])/\∃kvs:List (Key×V),ps=kvs.map (λcP=>(ek cP.1,cP.2))/\kvs.length<=15/\Q (.ref p) (upd bb p (.dA (oS [] kvs)))
def RK{X:bh}{pos:Pos}{keys:List (Option bc)}{values:List bc}{qL:List (TE×TE)}(h:wU X pos keys values qL)(tc:keys.all (·.isSome)=true)(ay:keys.length=values.length)(h0:keys≠[])
  (xg:keys.length<=15):bW X (.Dict keys values pos) (ajK qL):=by
 intro ai s σ H Q I q;have a8:=I.b'.fresh (eh s.heap.objs.size);have bC:=I.laid (a:=s.heap.objs.size) (o:=.dA []) (h':=s.heap.push {cls:=.type "dict",data:=.dict #[]}) (t':=s.toks) (λ_ _ q=>dx _ q) (eh _) (ahz s.heap I.big);refine wpAny_Dict_walk (knd:=fF X.prog X.w) tc ay h0 xg (cA (h ai _ σ _ _ bC (q _ a8)) λws s2 ⟨ps,bb,ck,rel,e,kvs,ep,lk,ba⟩=>?_);subst ep;obtain⟨rs,c,vb⟩:=Qh (P:=X.prog) (w:=X.w) rel;obtain⟨z,hd,akM,ko,dU⟩:=S_ ck.b' e;cases ko;refine⟨rs,c,dU,λh' sY aw=>⟨.ref s.heap.objs.size,_,?_,rfl,ba⟩⟩;have ar:(oS [] kvs).length<=cF:=by
  have ah:=PB kvs [];rw[qX] at ah;rw[lE];omega
 have he:∃q,h'.get? s.heap.objs.size=some q:=let ⟨q,_,_,bS,_⟩:=sY;⟨q,bS⟩;exact Ls ck (by rw[e];exact True.intro) aw he (SP ar hd (vb.merge .nil) sY)
structure M2(X:bh)(o:bc)(m:Str)(apos:Pos)(e f:bc)(dz:Pos):Prop where
 base:jf o m X.env (eval o X.env)=eval o X.env
 pe:((dQ dz (bA [e,f] X.env)).all (λx=>!x.1) && (mc dz (mb [] X.env)).all (λx=>x.1.isSome)
  && decide (([e,f]:List bc).length+([]:List Keyword).length+(if ([]:List Keyword).isEmpty then 0 else 1)<30))=true
 line:(apos.endLine==dz.line)=true
 trees:dQ dz (bA [e,f] X.env)=[(false,eval e X.env),(false,eval f X.env)]
noncomputable def Me(H:aE)(a:ak):Prop:=(∃kvs,e' H a (.dA kvs))\/∃kvs,e' H a (.ng kvs)
def ajs{X:bh}{ai:List (ak×Obj)}{σ:St}{H:aE}{s:aQ}{a:ak}(I:Inv X ai σ H s)(d:Me H a):
  s.TypeIs (.ref a) "dict"/\(∀b,Value.ref a=.ref b->∃d_,s.heap.get? b=some d_/\d_.dict=none)/\(a==sysModules)=false:=by
 rcases d with ⟨kvs,e⟩|⟨kvs,e⟩
 ·obtain⟨_,hd,vs,_,dU⟩:=wG I.b' e;refine⟨dU.typeIs,λb q=>?_,hd⟩;cases q;obtain⟨d_,_,_,ah,ao,_⟩:=dU;exact⟨d_,ah,ao.2.1⟩
 ·obtain⟨_,hd,xs,_,dU⟩:=zI I.b' e;refine⟨dU.typeIs,λb q=>?_,hd⟩;cases q;obtain⟨d_,_,_,ah,ao,_⟩:=dU;exact⟨d_,ah,ao.2.1⟩
section
variable {X:bh}{ai:List (ak×Obj)}{σ:St}{H:aE}{s:aQ}{a:ak}{y d:V}{u r:aq}{o:Option V}{A:di}{E:aq->aQ->Prop}
def ajx{Q:aq->aQ->Prop}(bp:A.units+1<cLine)(I:Inv X ai σ H s)(g:mw H a y o)(bM:RelV y u)(ip:RelV d r)(h:∀gc s',Inv X ai σ H s'->RelV (o.getD d) gc->Q gc s'):
  bK (bZ X.prog X.w) A (call (.builtin "dict.get") [.ref a,u,r]) Q E s:=by
 rcases g with ⟨kvs,k,e,eL,l⟩|⟨kvs,k,b,e,eL,dk,l⟩
 ·subst eL;obtain⟨z,hd,vs,rel,dU⟩:=wG I.b' e;refine call_meetsIn PySem.F.slot_dict_get dU.typeIs PySem.F.entry_dict_get (PySem.F.args_dict_get_3 _ _ _) (meets_dict_get_default (fF X.prog X.w) a (wD bM) hd r) ⟨_,dU.mapOf,h _ _ (I.tok _) ?_⟩;rw[l];exact (rel.val k).getD ip
 ·subst eL;cases (show u=Value.ref b from bM);obtain⟨z,hd,xs,rel,dU⟩:=zI I.b' e;refine call_meetsIn PySem.F.slot_dict_get dU.typeIs PySem.F.entry_dict_get (PySem.F.args_dict_get_3 _ _ _) (meetsH_dict_get_default (tupleKind (fF X.prog X.w)) a b hd r) ⟨tupleKind_room_in1 bp,k,xs,Dz I.b' dk,dU,h _ _ (I.tok _) ?_⟩;rw[l];exact (rel.val k).getD ip
end
end bw
end
section
namespace D
open PySem PySem.Spec PyProof.Rows bw
variable [c5]
def ajk{K:bo}{F:ak->Prop}{H:aE}{a:ak}{o o':eW}(a8:¬F a)(ax:H a=some o)(aI:(∃xs,o=.lst xs)\/∃xs,o=.dA xs):eJ K F H F (upd H a o'):=by
 refine⟨λb xs q=>?_,λb xs f q=>⟨f,?_⟩⟩
 ·rcases q with q|q
  ·refine .inl ?_
   have nb:b≠a:=by
    rintro rfl;rcases q with q|⟨_,q⟩
    ·rw[ax] at q;cases q;rcases aI with ⟨_,z⟩|⟨_,z⟩ <;> cases z
    ·rw[ax] at q;cases q;rcases aI with ⟨_,z⟩|⟨_,z⟩ <;> cases z
   rcases q with q|⟨u,q⟩
   ·exact .inl (by rw[cw nb];exact q)
   ·exact .inr ⟨u,by rw[cw nb];exact q⟩
  ·exact .inr q
 ·have nb:b≠a:=by
   rintro rfl;exact a8 f
  rcases q with q|⟨u,q⟩
  ·exact .inl (by rw[cw nb];exact q)
  ·exact .inr ⟨u,by rw[cw nb];exact q⟩
section
variable {K:bo}{F:ak->Prop}{H:aE}
theorem eO.get{k:D.Key}{t:T}:∀{kvs:List (D.Key×T)} {vs:List (D.Key×V)},eO K F H kvs vs->D.getD kvs k=some t->∃v,h9 vs k=some v/\Rep K F H t v
| [],vs,h,e=>by cases e
|p::r,vs,h,e=>by
  obtain⟨v,w,rfl,q,z⟩:=h;simp only[D.getD,h9,j4] at e ⊢;by_cases b1:p.1=k
  ·simp[b1] at e ⊢;subst e;exact q
  ·simp[b1] at e ⊢;have:=eO.get (k:=k) (t:=t) z (by simpa [D.getD] using e);simpa [h9] using this
theorem eO.length:∀{kvs:List (D.Key×T)} {vs:List (D.Key×V)},eO K F H kvs vs->kvs.length=vs.length
| [],vs,h=>by
  have:vs=[]:=h;subst this;rfl
|p::r,vs,h=>by
  obtain⟨v,w,rfl,q,z⟩:=h;simp[eO.length z]
theorem eO.append:∀{kvs us:List (D.Key×T)} {vs ws:List (D.Key×V)},eO K F H kvs vs->eO K F H us ws->eO K F H (kvs++us) (vs++ws)
| [],us,vs,ws,h,r=>by
  have:vs=[]:=h;subst this;exact r
|p::q,us,vs,ws,h,r=>by
  obtain⟨v,w,rfl,du,z⟩:=h;exact⟨v,w++ws,rfl,du,eO.append z r⟩
theorem eO.Io{k:D.Key}{t:T}{v:V}:∀{kvs:List (D.Key×T)} {vs:List (D.Key×V)},eO K F H kvs vs->Rep K F H t v->eO K F H (kvs.map λp=>if p.1=k then (k,t) else p) (vs.map λcP=>if cP.1=k then (cP.1,v) else cP)
| [],vs,h,q=>by
  have:vs=[]:=h;subst this;rfl
|p::r,vs,h,q=>by
  obtain⟨ks,w,rfl,du,z⟩:=h;simp only[dv];by_cases e:p.1=k
  ·rw[if_pos e,if_pos e];exact⟨v,_,by rw[e],q,eO.Io z q⟩
  ·rw[if_neg e,if_neg e];exact⟨ks,_,rfl,du,eO.Io z q⟩
def eO.put{k:D.Key}{t:T}{v:V}{kvs:List (D.Key×T)}{vs:List (D.Key×V)}(h:eO K F H kvs vs)(q:Rep K F H t v):eO K F H (putD kvs k t) (putK vs k v):=by
 have ax:(kvs.any λp=>decide (p.1=k))=(vs.any λcP=>decide (cP.1=k)):=by
  clear q
  induction kvs generalizing vs with
  |nil=>
   have:vs=[]:=h;subst this;rfl
  |cons p r b7=>
   obtain⟨v,w,rfl,du,z⟩:=h;simp only[List.any_cons,b7 z]
 unfold putD putK;rw[ax];split
 ·exact eO.Io h q
 ·exact h.append ⟨v,[],rfl,q,rfl⟩
def si{t:T}{k:D.Key}{v:V}{O:ak->Prop}(e:keyOf t=some k)(r:gv K O F H t v):v=ek k:=by
 unfold keyOf at e;split at e
 ·cases e
  exact r.int
 ·cases e
  exact r.str
 ·cases e
end
end D
end
section
namespace D
open PySem
variable [c5]
end D
end
section
namespace D
open PySem PySem.Spec PyProof.Rows bw
section
variable [c5]
theorem Sv{α β:Type}{R:α->β->Prop}:∀{l:List α} {bf:List β},Paired R l bf->l.length=bf.length
|_,_,.nil=>rfl
|_,_,.cons a b=>by simp[Sv b]
section
variable {prog:cQ}{w:cB}{K:Type}[DecidableEq K](knd:PySem.KeyKind prog w K)
variable {knd}{A:di}{E:aq->aQ->Prop}{s:aQ}
noncomputable def uG(knd:PySem.KeyKind prog w K)(v:aq)(k:K):Prop:=knd.is k v=true/\v.scannable=true
end
end
section
variable [c5]
section
variable {prog:cQ}{w:cB}{K:Type}[DecidableEq K]{knd:PySem.KeyKind prog w K}{A:di}{E:aq->aQ->Prop}{s:aQ}{a:ak}{bf:List K}
def afu{R:List aq->aQ->Prop}{T:String}{r d:ak}{n:Nat}{P:Nat->aq->Prop}{sJ:b5->Prop}(W:PySem.W.KdlSrc prog w T r d n P sJ)(c6:A.handled=none)(b':sJ s.heap)(a8:n<=cF)
  (h:∀(h':b5) (tk:Nat) (acc:Array aq),(∀b o,s.heap.get? b=some o->h'.get? b=some o)->s.heap.objs.size<=h'.objs.size->ItemsOf P acc n->R acc.toList {s with heap:=h',toks:=tk}):
  bK (bZ prog w) A (collect (.ref r)) R E s:=by
 have e7:=W.there _ b';unfold collect;refine a6 (wpAny_runValue (vu entry_proto_collect' ?_));rw[vo PySem.F.plain_proto_collect _];show bK _ A.in1 (newList [] >>= λl=>again (.builtin "list.__iadd__" ⟨[l,.ref r],[]⟩)) _ _ s;refine a6 (qY ?_);refine cK ⟨plainId_quiet PySem.F.plain_list_iadd _,vu entry_list_iadd' ?_⟩;rw[vo PySem.F.plain_list_iadd _];have X3:(s.heap.push {cls:=.type "list",data:=.seq ([]:List aq).toArray}).get? s.heap.objs.size=some {cls:=.type "list",data:=.seq #[]}:=ia _ rfl;show bK _ A.in1 (Builtin.List.listExtendWith (.ref s.heap.objs.size) (.ref r) (.ref s.heap.objs.size)) _ _ _;have key:=PySem.W.kdl_extend (A:=A) (s:={s with heap:=s.heap.push {cls:=.type "list",data:=.seq ([]:List aq).toArray} })
  (R:=λ(q:Result) (s':aQ)=>∃(h':b5) (tk:Nat) (rt:Array aq) (gw:Nat),q=.ok (.ret (.ref s.heap.objs.size))/\s'={s with heap:=h',toks:=tk} /\
   (∀b o,s.heap.get? b=some o->h'.get? b=some o)/\h'.get? s.heap.objs.size=some {cls:=.type "list",dict:=none,data:=.seq rt gw,slots:=#[]}/\ItemsOf P rt n)
  W c6 (W.keep _ _ b' λb _ o e=>dx _ e) s.heap.objs.size (hW e7.1) (hW e7.2) (.ref s.heap.objs.size) 0 X3
  (λh' tk rt gw aI tb mF=>⟨h',tk,rt,gw,rfl,rfl,λb o e=>aI b o (e2 (c3 e)) (dx _ e),tb,mF⟩) a8
 refine gB key (λfin s' x=>?_) λe s' x=>?_
 ·cases fin with
  |done f=>
   obtain⟨h',tk,rt,gw,e,rfl,aI,tb,mF⟩:=x;cases e;show bK _ A (load s.heap.objs.size >>= _) _ _ _;refine a6 (wpAny_load tb ?_);exact cK (h h' tk rt aI (Nat.le_of_lt (c3 tb)) mF)
  |again c₁=>
   refine⟨x.1,codeAny_mono x.2 λq nC y=>?_⟩
   obtain⟨h',tk,rt,gw,rfl,rfl,aI,tb,mF⟩:=y;show bK _ A (load s.heap.objs.size >>= _) _ _ _;refine a6 (wpAny_load tb ?_);exact cK (h h' tk rt aI (Nat.le_of_lt (c3 tb)) mF)
 ·obtain⟨_,_,_,_,b1,_⟩:=x;cases b1
end
end
section
variable [c5]
theorem J9{α:Type}{r:α->α->Prop}(Mq:∀a b,r a b->r b a->a=b):∀{l m:List α},l.Perm m->l.Pairwise r->m.Pairwise r->l=m
| [],m,p,_,_=>(List.Perm.nil_eq p)
|a::l,m,p,ah,ao=>by
  cases m with
  |nil=>exact absurd p.length_eq (by simp)
  |cons b m=>
   have X4:a=b:=by
    have ax:a∈b::m:=p.mem_iff.mp (by simp);have ae:b∈a::l:=p.mem_iff.mpr (by simp);rcases cO.mp ax with q|q
    ·exact q
    ·rcases cO.mp ae with z|z
     ·exact z.symm
     ·exact Mq a b ((nG.mp ah).1 b z) ((nG.mp ao).1 a q)
   subst X4;rw[J9 Mq (List.perm_cons a |>.mp p) (nG.mp ah).2 (nG.mp ao).2]
theorem insI_perm(x:Int):∀l:List Int,(insI x l).Perm (x::l)
| []=>.rfl
|y::ys=>by
  unfold insI;split
  ·exact .rfl
  ·exact ((insI_perm x ys).cons y).trans (.swap _ _ _)
theorem sortI_perm:∀l:List Int,(sortI l).Perm l
| []=>.rfl
|x::xs=>(insI_perm x _).trans ((sortI_perm xs).cons x)
theorem RW(x:Int):∀{l:List Int},l.Pairwise (·<=·)->(insI x l).Pairwise (·<=·)
| [],_=>by simp[insI]
|y::ys,h=>by
  unfold insI;have h':=nG.mp h;split
  next q=>exact nG.mpr ⟨λz ar=>by
   rcases cO.mp ar with rfl|ar
   ·exact q
   ·exact Int.le_trans q (h'.1 z ar),h⟩
  next q=>exact nG.mpr ⟨λz ar=>by
   rcases cO.mp ((insI_perm x ys).mem_iff.mp ar) with rfl|ar
   ·omega
   ·exact h'.1 z ar,RW x h'.2⟩
theorem KY:∀l:List Int,(sortI l).Pairwise (·<=·)
| []=>.nil
|x::xs=>RW x (KY xs)
def Q6{l m:List Int}(p:l.Perm m)(h:l.Pairwise (·<=·)):l=sortI m:=J9 (λa b ah ao=>Int.le_antisymm ah ao) (p.trans (sortI_perm m).symm) h (KY m)
def afb{l m:List Int}(p:l.Perm m):sortI l=sortI m:=Q6 ((sortI_perm l).trans p) (KY l)
abbrev jz(x y:Str):Prop:=strLt y x=false
def agT(x y:Str):strLt x y=ltCps x.cps.toList y.cps.toList:=(ltCps_eq _ _).symm
def agd{x y:Str}(h:strLt x y=true):jz x y:=by
 unfold jz strLt at *;simp only[decide_eq_true_eq,decide_eq_false_iff_not] at *;exact List.lt_asymm h
def Qs{x y z:Str}(ah:jz x y)(ao:jz y z):jz x z:=by
 unfold jz strLt at *;simp only[decide_eq_false_iff_not] at *;exact List.not_lt.mpr (List.le_trans (List.not_lt.mp ah) (List.not_lt.mp ao))
def ag1{x y:Str}(ah:jz x y)(ao:jz y x):x=y:=by
 unfold jz strLt at *;simp only[decide_eq_false_iff_not] at *;have e:x.cps.toList=y.cps.toList:=List.le_antisymm (List.not_lt.mp ah) (List.not_lt.mp ao);cases x;cases y;simp only[Array.toList_inj] at e;exact congrArg _ e
theorem KH(x:Str):∀l:List Str,(tu x l).Perm (x::l)
| []=>.rfl
|y::ys=>by
  unfold tu;split
  ·exact .rfl
  ·exact ((KH x ys).cons y).trans (.swap _ _ _)
theorem oN:∀l:List Str,(eN l).Perm l
| []=>.rfl
|x::xs=>(KH x _).trans ((oN xs).cons x)
theorem RV(x:Str):∀{l:List Str},l.Pairwise jz->(tu x l).Pairwise jz
| [],_=>by simp[tu]
|y::ys,h=>by
  unfold tu;have h':=nG.mp h;split
  next q=>
   have du:jz x y:=by simpa [jz] using q
   exact nG.mpr ⟨λz ar=>by
    rcases cO.mp ar with rfl|ar
    ·exact du
    ·exact Qs du (h'.1 z ar),h⟩
  next q=>
   have du:strLt y x=true:=by simpa using q
   exact nG.mpr ⟨λz ar=>by
    rcases cO.mp ((KH x ys).mem_iff.mp ar) with rfl|ar
    ·exact agd du
    ·exact h'.1 z ar,RV x h'.2⟩
theorem C4:∀l:List Str,(eN l).Pairwise jz
| []=>.nil
|x::xs=>RV x (C4 xs)
def KX{l m:List Str}(p:l.Perm m)(h:l.Pairwise jz):l=eN m:=J9 (λa b ah ao=>ag1 ah ao) (p.trans (oN m).symm) h (C4 m)
def PL{l m:List Str}(p:l.Perm m):eN l=eN m:=KX ((oN l).trans p) (C4 l)
theorem P5:∀(l:List Str) (p:Str),risingS p l=true->(p::l).Pairwise jz
| [],p,_=>by simp
|x::r,p,h=>by
  simp only[risingS,iu,Bool.not_eq_true'] at h;have b7:=P5 r x h.2;have NW:jz p x:=by
   unfold jz;rw[agT];exact h.1
  refine nG.mpr ⟨λz ar=>?_,b7⟩
  rcases cO.mp ar with rfl|ar
  ·exact NW
  ·exact Qs NW ((nG.mp b7).1 z ar)
def afB{l:List Str}(h:sortedS l=true):l.Pairwise jz:=by
 cases l with
|nil=>exact .nil
|cons x r=>exact P5 r x h
end
section
variable [c5]
section
variable {prog:cQ}{w:cB}{A:di}{E:aq->aQ->Prop}{s:aQ}
inductive wV:List aq->List aq->Prop where
|IQ {vs out:List aq} {ns:List Int}:IntsAre vs ns->IntsAre out (sortI ns)->wV vs out
|IS {vs out:List aq} {ss:List Str}:StrsAre vs ss->StrsAre out (eN ss)->wV vs out
noncomputable def Le(vs:List aq):Prop:=vs.length<64/\((∃ns,IntsAre vs ns)\/∃ss,StrsAre vs ss)
def sortedHeap_at{h:b5}{a:ak}{vs:List aq}{n:Nat}{out:Array aq}(aH:h.get? a=some (seqObj "list" vs.toArray n)):
  (∃e,(sortedHeap h a vs out).get? a=some (seqObj "list" out e))/\∀b o,b≠a->h.get? b=some o->(sortedHeap h a vs out).get? b=some o:=by
 have e7:=c3 aH;unfold sortedHeap;refine⟨?_,λb o ae e=>?_⟩
 ·have ah:=get?_update_seq aH (λ_=>(#[]:Array aq));have ao:=dx (seqObj "tuple" vs.toArray 0) ah;have bG:=dx (seqObj "list" #[] 0) ao;exact⟨_,get?_update_seq bG (λ_=>out)⟩
 ·rw[yu _ _ (Ne.symm ae)];exact dx _ (dx _ ((yu _ _ (Ne.symm ae)).trans e))
def af_{a:ak}{vs:List aq}{n:Nat}{P:Fin->aQ->Prop}(aH:s.heap.get? a=some (seqObj "list" vs.toArray n))(aw:Le vs)
  (h:∀out:Array aq,wV vs out.toList->P (.done (.ret .none)) {s with heap:=sortedHeap s.heap a vs out}):bK (bZ prog w) A (Builtin.«list.sort» ⟨[.ref a],[]⟩) P E s:=by
 obtain⟨NB,⟨ns,rE⟩|⟨ss,fJ⟩⟩:=aw
 ·refine list_sort_tree aH rE NB λout IL a1 a2 iH=>h out (.IQ rE ?_)
  rw[<- Q6 a2 iH];exact a1
 ·refine list_sort_treeK strKind_oneLt aH fJ.keysOf (λakN akO rest e=>keyKind_strs (by rw[<- e];exact fJ)) NB λlz aC aw=>?_
  obtain⟨tM,ah,ao,bG⟩:=sorted_out_str fJ aC aw;refine h _ (.IS fJ ?_);rw[<- KX ao (afB bG)];exact ah
def afa{r:ak}{C:List aq->Prop}{Q:aq->aQ->Prop}
  (Yf:∀(akX:aq->aQ->Prop) (R:List aq->aQ->Prop),(∀h' tk d vs,(∀b o,s.heap.get? b=some o->h'.get? b=some o)->s.heap.objs.size<=h'.objs.size->C vs->R vs {s with heap:=h',toks:=tk,drawn:=d})->bK (bZ prog w) A.in1 (collect (.ref r)) R akX s)
  (XX:∀vs,C vs->Le vs)
  (h:∀h' tk d D e vs out,C vs->wV vs out->(∀b o,s.heap.get? b=some o->h'.get? b=some o)->s.heap.objs.size<=D->h'.get? D=some (seqObj "list" out.toArray e)->Q (.ref D) {s with heap:=h',toks:=tk,drawn:=d}):
  bK (bZ prog w) A (call (.builtin "sorted") [.ref r]) Q E s:=by
 refine Calls.call_function_entry kind_sorted plain_sorted entry_sorted (args_sorted1 _) ?_
 unfold Builtin.«sorted»;refine a6 (m:=checkCount "sorted" 1 1 _) (cK ?_);refine a6 (Yf _ _ λh' tk d vs aB hsz c=>?_);have aw:=XX vs c;have ar:vs.length<=cF:=by
  have:=aw.1;rw[lE];omega
 refine a6 (wpAny_newList ?_ ar)
 have xA:(h'.push (seqObj "list" vs.toArray 0)).get? h'.objs.size=some (seqObj "list" vs.toArray 0):=ia _ rfl;refine a6 (mY (nK slot_list_sort ⟨_,xA,rfl⟩ entry_list_sort (af_ xA aw λout vd=>⟨_,rfl,?_⟩) (args_list_sort _)));obtain⟨⟨e,he⟩,aI⟩:=sortedHeap_at (out:=out) xA;refine cK ⟨_,rfl,?_⟩;exact h _ tk d h'.objs.size e vs out.toList c vd (λb o q=>aI b o (e2 (c3 (aB b o q))) (dx _ (aB b o q))) hsz he
end
section
variable {X:bh}{ai:List (ak×Obj)}{σ:bw.St}{H:aE}{s:aQ}
def KD{a:ak}{o:eW}{t':Nat}{d':Drawn}{h':b5}(I:Inv X ai σ H s)(k:∀b u,s.heap.get? b=some u->h'.get? b=some u)(aC:s.heap.objs.size<=a)(new:ik X.prog X.w (upd H a o) h' a o):
  Inv X ai σ (upd H a o) {s with heap:=h',toks:=t',drawn:=d'}:=
 I.call (ch:=[]) (g':=s.gens) (h3.laid k aC (I.b'.fresh aC)) (I.b'.laid k aC new) I.bare λ_ z=>nomatch z
theorem KG:∀{us:List aq} {ns:List Int},IntsAre us ns->Vals (ns.map V.int) us
|_,_,.nil=>.nil
|_,_,.cons n t r=>.cons ⟨t,rfl⟩ (KG r)
theorem Ku:∀{us:List aq} {ss:List Str},StrsAre us ss->Vals (ss.map V.str) us
|_,_,.nil=>.nil
|_,_,.cons n t r=>.cons ⟨t,rfl⟩ (Ku r)
theorem Kt:∀{us:List aq} {bf:List bw.Key},Vals (bf.map ek) us->Paired (uG (fF X.prog X.w)) us bf
| [],[],_=>.nil
|_,.inl i::bf,.cons r rs=>by
  obtain⟨t,rfl⟩:=r;exact .cons ⟨PQ _ _ i t,rfl⟩ (Kt rs)
|_,.inr x::bf,.cons r rs=>by
  obtain⟨t,rfl⟩:=r;exact .cons ⟨PO _ _ x t,rfl⟩ (Kt rs)
theorem KC:∀{us:List aq} {bf:List bw.Key} {ns:List Int},Paired (uG (fF X.prog X.w)) us bf->bf=ns.map Sum.inl->IntsAre us ns
|_,_,[],.nil,_=>.nil
|_,_,n::ns,.cons a b,e=>by
  cases e
  have a1:=a.1;rw[P9] at a1;rcases me a1 with ⟨i,t,aR,rfl⟩|⟨x,t,aR,rfl⟩
  ·cases aR
   exact .cons _ t (KC b rfl)
  ·cases aR
theorem Kz:∀{us:List aq} {bf:List bw.Key} {ss:List Str},Paired (uG (fF X.prog X.w)) us bf->bf=ss.map Sum.inr->StrsAre us ss
|_,_,[],.nil,_=>.nil
|_,_,n::ns,.cons a b,e=>by
  cases e
  have a1:=a.1;rw[P9] at a1;rcases me a1 with ⟨i,t,aR,rfl⟩|⟨x,t,aR,rfl⟩
  ·cases aR
  ·cases aR
   exact .cons _ t (Kz b rfl)
def Cm{α β:Type}(f:α->β):∀{l:List α} {m:List β},m.Perm (l.map f)->∃gm:List α,m=gm.map f/\gm.Perm l:=by
 intro l m p;generalize hx:l.map f=lf at p
 induction p generalizing l with
|nil=>
  rw[List.map_eq_nil_iff] at hx;subst hx;exact⟨[],rfl,.rfl⟩
|cons x _ b7=>
  cases l with
  |nil=>cases hx
  |cons a r=>
   simp only[dv,List.cons.injEq] at hx;obtain⟨gm,e,q⟩:=b7 hx.2;exact⟨a::gm,by rw[dv,hx.1,e],q.cons a⟩
|swap x y r=>
  match l,hx with
  |a::b::cE,hx=>
   simp only[dv,List.cons.injEq] at hx;exact⟨b::a::cE,by rw[dv,dv,hx.1,hx.2.1,hx.2.2],.swap _ _ _⟩
|trans _ _ bH bO=>
  obtain⟨bT,aR,aP⟩:=bO hx;obtain⟨bR,a7,ba⟩:=bH aR.symm;exact⟨bR,a7,ba.trans aP⟩
noncomputable def wy(bf:List bw.Key)(ys:List V):Prop:=(∃ns:List Int,bf=ns.map Sum.inl/\ys=(sortI ns).map V.int)\/∃ss:List Str,bf=ss.map Sum.inr/\ys=(eN ss).map V.str
def agV{vs out:List aq}{bf xR:List bw.Key}{ys:List V}(a':Paired (uG (fF X.prog X.w)) vs xR)(aC:xR.Perm bf)(vd:wV vs out)(aI:wy bf ys):Vals ys out:=by
 rcases aI with ⟨ns,rfl,rfl⟩|⟨ss,rfl,rfl⟩
 ·obtain⟨IL,rfl,oh⟩:=Cm Sum.inl aC;have rE:=KC a' rfl;cases vd with
  |IQ a b=>
   rename_i ms
   rw[<- afb oh,show IL=ms from ?_]
   ·exact KG b
   ·rw[<- IntsAre.numsOf rE,<- IntsAre.numsOf a]
  |IS a b=>
   cases a with
   |nil=>
    cases rE
    have:ns=[]:=List.Perm.eq_nil oh.symm;subst this;exact Ku b
   |cons x t _=>cases rE
 ·obtain⟨tM,rfl,oh⟩:=Cm Sum.inr aC;have fJ:=Kz a' rfl;cases vd with
  |IS a b=>
   rename_i ms
   rw[<- PL oh,show tM=ms from ?_]
   ·exact Ku b
   ·rw[<- StrsAre.strs fJ,<- StrsAre.strs a]
  |IQ a b=>
   cases a with
   |nil=>
    cases fJ
    have:ss=[]:=List.Perm.eq_nil oh.symm;subst this;exact KG b
   |cons x t _=>cases fJ
def aeJ{vs:List aq}{bf xR:List bw.Key}{ys:List V}(ar:bf.length<64)(a':Paired (uG (fF X.prog X.w)) vs xR)(aC:xR.Perm bf)(aI:wy bf ys):Le vs:=by
 refine⟨by rw[Sv a',aC.length_eq];exact ar,?_⟩
 rcases aI with ⟨ns,rfl,_⟩|⟨ss,rfl,_⟩
 ·obtain⟨IL,rfl,_⟩:=Cm Sum.inl aC;exact .inl ⟨_,KC a' rfl⟩
 ·obtain⟨tM,rfl,_⟩:=Cm Sum.inr aC;exact .inr ⟨_,Kz a' rfl⟩
def af'{bf:List bw.Key}{ys:List V}(h:wy bf ys):ys.length=bf.length:=by
 rcases h with ⟨ns,rfl,rfl⟩|⟨ss,rfl,rfl⟩
 ·simp[(sortI_perm ns).length_eq]
 ·simp[(oN ss).length_eq]
theorem RP:∀{kvs:List (bw.Key×V)} {vs:List (bw.Key×aq)},f3 kvs vs->kvs.map (·.1)=vs.map (·.1)
|_,_,.nil=>rfl
|_,_,.cons a b=>by simp[a.1,RP b]
def PJ(aG:X.calm=true):mu X (.builtin "sorted") (λxs H Q=>∃p bf ys,xs=[.ref p]/\gg X.K H p (bf.map ek)/\bf.length<64/\wy bf ys/\∀l,H l=none->Q (.ref l) (upd H l (.lst ys))):=by
 intro ai s σ H xs us Q I r h;obtain⟨p,bf,ys,rfl,bS,ar,aI,q⟩:=h;obtain⟨u,rfl,a4⟩:=vals1 r;cases a4;obtain⟨its,cE,pl,mK⟩:=I.list bS;have hlen:=cE.length;rw[g6] at hlen;have hit:Paired (uG (fF X.prog X.w)) its bf:=Kt (by simpa using cE);refine afa (C:=λus=>us=its) (λakX R ta=>collect_list pl.isList (ta _ s.toks s.drawn its (λb o e=>?_) ?_ rfl) (by rw[lE];omega)) (λus bp=>by subst bp;exact aeJ ar hit .rfl aI) λh' tk d D e us out bp vd aB i_ he=>?_
 ·exact (yu _ _ (hW (c3 e))).trans (dx _ e)
 ·rw[Heap.size_update,kU];exact pN _
 ·subst bp;exact⟨.ref D,_,KD I (o:=.lst ys) aB i_ ⟨by rw[af' aI,lE];omega,out,e,agV hit .rfl vd aI,he⟩,rfl,q _ (I.b'.fresh i_)⟩
end
end
section
variable [c5]
theorem QF:∀{ts:List T} {ns:List Int},intsOf ts=some ns->ts=ns.map .int
| [],ns,e=>by
  cases e
  rfl
|t::ts,ns,e=>by
  unfold intsOf at e;split at e
  ·rename_i h
   cases h
  ·rename_i h
   cases h
   simp only[dP] at e;obtain⟨r,aR,rfl⟩:=e;rw[QF aR];rfl
  ·cases e
theorem vM:∀{ts:List T} {ss:List Str},strsOf ts=some ss->ts=ss.map .str
| [],ns,e=>by
  cases e
  rfl
|t::ts,ns,e=>by
  unfold strsOf at e;split at e
  ·rename_i h
   cases h
  ·rename_i h
   cases h
   simp only[dP] at e;obtain⟨r,aR,rfl⟩:=e;rw[vM aR];rfl
  ·cases e
section
variable {K:bo}{F:ak->Prop}{H:aE}
theorem Kv:∀(ns:List Int),bj K F H (ns.map .int) (ns.map V.int)
| []=>bj.nil
|n::ns=>bj.cons (by simp[Rep]) (Kv ns)
theorem y3:∀(ns:List Str),bj K F H (ns.map .str) (ns.map V.str)
| []=>bj.nil
|n::ns=>bj.cons (by simp[Rep]) (y3 ns)
theorem P6:∀{ns:List Int} {vs:List V},bj K F H (ns.map .int) vs->vs=ns.map V.int
| [],vs,h=>by simpa [bj] using h
|n::ns,vs,h=>by
  simp only[dv,bj,Rep] at h;obtain⟨v,r,rfl,rfl,z⟩:=h;rw[P6 z];rfl
theorem vJ:∀{ns:List Str} {vs:List V},bj K F H (ns.map .str) vs->vs=ns.map V.str
| [],vs,h=>by simpa [bj] using h
|n::ns,vs,h=>by
  simp only[dv,bj,Rep] at h;obtain⟨v,r,rfl,rfl,z⟩:=h;rw[vJ z];rfl
end
section
variable {X:bh}{a e:bc}{es:List bc}{f:bI}{az:List bI}{p e0 pos mP:Pos}
def ag5(aG:X.calm=true)(hm:X.mg "sorted"=none)(ax:qi X (e::es) az)(bt:fh X "sorted":=by rfl)(he:bA (e::es) X.env=(false,eval e X.env)::bA es X.env:=by rfl)(hpl:(dQ pos (bA es X.env)).any (·.1)=false:=by rfl):
  cg X (.Call (.Name "sorted" p) (e::es) [] pos) (bl zq az):=ec (y' (PJ aG) bt hm (by decide +kernel) ax (he:=he) (hpl:=hpl)) (zo (by
 intro O F H ts t vs Q d q e k;unfold zq at e;split at e
 next xs=>
  split at e
  next ar=>
   cases q with
   |cons aP ba=>
    cases ba
    obtain⟨oq,ws,rfl,ay,av⟩:=aP.lst;have fin:∀(bf:List bw.Key) (ys:List V) (rs:List T),ws=bf.map ek->bf.length<64->wy bf ys->(∀aM aj,bj X.K aM aj rs ys)->t=.list rs ->
      ∃p bf ys,[V.ref oq]=[V.ref p]/\gg X.K H p (bf.map ek)/\bf.length<64/\wy bf ys/\∀l,H l=none->Q (.ref l) (upd H l (.lst ys)):=by
     intro bf ys rs ev aI jY GC bB;subst ev;subst bB;refine⟨oq,bf,ys,rfl,.inl ay,aI,jY,λl ju=>k _ _ _ (Ext.Bg (o:=.lst ys) d ju) ?_⟩;simp only[Rep];exact⟨l,ys,rfl,.inr rfl,.inl dH,GC _ _⟩
    split at e
    next ns a8=>
     have xE:=QF a8;subst xE;cases e;exact fin (ns.map .inl) ((sortI ns).map V.int) _ (by rw[P6 av];simp[ek,kT]) (by simpa using ar) (.inl ⟨ns,rfl,rfl⟩) (λ_ _=>Kv _) rfl
    next a8=>
     simp only[dP] at e;obtain⟨ss,qA,e⟩:=e;have xE:=vM qA;subst xE;exact fin (ss.map .inr) ((eN ss).map V.str) _ (by rw[vJ av];simp[ek,kT]) (by simpa using ar) (.inr ⟨ss,rfl,rfl⟩) (λ_ _=>y3 _) e.symm
  next=>cases e
 next=>cases e))
end
end
section
variable [c5]
section
variable {X:bh}{a b e:bc}{es rest:List bc}{f g:bI}{az:List bI}{p e0 pos mP:Pos}
def wh{op:BoolOp}(h:cg X a f):cg X (.BoolOp op [a] pos) f:=Su h
def zE{op:BoolOp}(h:cg X a f):cg X (.BoolOp op [a] pos) f:=Su h
def uA(ax:cg X a f)(ae:cg X (.BoolOp .And (b::rest) pos) g):cg X (.BoolOp .And (a::b::rest) pos) (iI f g):=ec (ai9 ax ae) λσ H Q ⟨aF,aN,O,F,ag,t,r,e,k⟩=>by
 simp only[iI,cb] at e;obtain⟨x,ex,e⟩:=e;refine⟨aF,aN,O,F,ag,x,r,ex,λv aZ H1 aL a4=>?_⟩;split at e
 ·simp only[Rep] at a4;refine⟨true,a4,?_⟩;rw[if_pos rfl];exact⟨aF,aN,O,aZ,ag,t,r.ext aL,e,λv aM aj bx q=>k v aM aj (aL.trans bx) q⟩
 ·cases e
  simp only[Rep] at a4;refine⟨false,a4,?_⟩;rw[if_neg (by decide)];exact k _ aZ H1 aL (by simp[Rep])
 ·cases e
def u'(ax:cg X a f)(ae:cg X (.BoolOp .Or (b::rest) pos) g):cg X (.BoolOp .Or (a::b::rest) pos) (jb f g):=ec (aj7 ax ae) λσ H Q ⟨aF,aN,O,F,ag,t,r,e,k⟩=>by
 simp only[jb,cb] at e;obtain⟨x,ex,e⟩:=e;refine⟨aF,aN,O,F,ag,x,r,ex,λv aZ H1 aL a4=>?_⟩;split at e
 ·simp only[Rep] at a4;refine⟨false,a4,?_⟩;rw[if_neg (by decide)];exact⟨aF,aN,O,aZ,ag,t,r.ext aL,e,λv aM aj bx q=>k v aM aj (aL.trans bx) q⟩
 ·cases e
  simp only[Rep] at a4;refine⟨true,a4,?_⟩;rw[if_pos rfl];exact k _ aZ H1 aL (by simp[Rep])
 ·cases e
def aj1(ax:cg X a f):cg X (.UnaryOp .Not a pos) (tD f):=ec (ai4 ax) λσ H Q ⟨aF,aN,O,F,ag,t,r,e,k⟩=>by
 simp only[tD,cb] at e;obtain⟨x,ex,e⟩:=e;refine⟨aF,aN,O,F,ag,x,r,ex,λv aZ H1 aL a4=>?_⟩;split at e
 ·cases e
  simp only[Rep] at a4;exact⟨_,a4,k _ aZ H1 aL (by simp[Rep])⟩
 ·cases e
noncomputable def BG(K:bo)(f:Ev->Option (Option Int)):b0:=λσ H Q=>∃aF aN O F ag i,cJ K aF aN O F H ag σ/\f ag=some i/\∀aM aj,Ext F H aM aj->Q i aj
def SV{x:Option bc}{t t':b0}(h:o6 X x t)(k:∀σ H Q,t' σ H Q->t σ H Q):o6 X x t':=λai s σ H Q I q=>h ai s σ H Q I (k σ H Q q)
def ajf:o6 X none (BG X.K optN):=SV ah2 λσ H Q ⟨aF,aN,O,F,ag,i,r,e,k⟩=>by
 cases e
 exact k F H (Ext.refl r.cn)
def LM(h:ez X a f):o6 X (some a) (BG X.K (opt f)):=SV (ah1 h) λσ H Q ⟨aF,aN,O,F,ag,i,r,e,k⟩=>by
 simp only[opt,cb] at e;obtain⟨x,ex,e⟩:=e;refine⟨aF,aN,O,F,ag,x,r,ex,λv aZ H1 aL a4=>?_⟩;split at e
 ·cases e
  exact⟨_,a4.int,k aZ H1 aL⟩
 ·cases e
noncomputable def ab'(K:bo):V->Option Int->Option Int->aE->dC->Prop:=λx lo aU H Q=>∃a xs,x=.ref a/\c7 K H a xs/\(fR.dc xs.length 0 lo=0/\fR.dc xs.length xs.length aU=xs.length)/\Q (.ref a) H
def aef{prog:cQ}{w:cB}{A:di}{E:aq->aQ->Prop}{s:aQ}{t dr:ak}{items:Array aq}{h_ fD:aq}{lo aU:Option Int}{Q:aq->aQ->Prop}(aX:IsTup s.heap t items)(aw:s.heap.IsSliceOf dr h_ fD .none)(pl:IsPart h_ lo)(pu:IsPart fD aU)
  (hw:fR.dc items.size 0 lo=0/\fR.dc items.size items.size aU=items.size) (h:Q (.ref t) s):bK (bZ prog w) A (getItem (.ref t) (.ref dr)) Q E s:=by
 obtain⟨os,qy,AE,xq⟩:=id aw;have Ga:s.TypeIs (.ref dr) "slice":=⟨os,qy,AE⟩;unfold getItem
 try with_reducible refine mY ?_
 first|refine a6 (cK ?_)|skip
 refine a6 (wpAny_sequenceKey aX.typeIs (by decide) ?_)
 refine a6 (oJ (name:=Str.ofString "__getitem__") aX.typeIs BN
  (nK BN aX.typeIs entry_tuple_getitem ?_ (args_tuple_getitem _ _)))
 show bK _ _ (Builtin.Tuple.tupleItemsOf (.ref t) >>= _) _ _ s
 refine a6 (tupleItemsOf_ aX ?_)
 refine a6 (wpAny_typeOf Ga ?_)
 rw[if_pos (by decide)];refine a6 (fR.OO aw pl pu ?_);rw[hw.1,hw.2];show bK _ _ (if (((0:Nat):Int)==0 && (1:Int)==1 && (items.size - 0)==items.size)=true then _ else _) _ _ s;rw[if_pos (by simp)];unfold Builtin.Tuple.tupleIsExact;refine a6 (a6 (wpAny_typeOf aX.typeIs (cK ?_)));rw[if_pos (by decide)];refine a6 (wpAny_rule ?_);exact cK ⟨_,rfl,cK h⟩
def agW:rq X (ab' X.K):=by
 intro ai s σ H x v h_ fD lo aU dr Q I a4 aw pl pu h;obtain⟨a,xs,rfl,hx,hw,q⟩:=h;cases a4;obtain⟨its,r,aX,ar⟩:=I.tuple hx;have hlen:its.toArray.size=xs.length:=by rw[eb];exact r.length.symm
 refine⟨"tuple",_,PyProof.Rows.slot_tuple_getitem.lookup,aX.typeIs,?_⟩
 exact aef aX aw pl pu (by rw[hlen];exact hw) ⟨.ref a,H,I,rfl,q⟩
def aiM(n d:Nat)(o:Option Int):D.dc n d o=fR.dc n d o:=by
 cases o with
|none=>rfl
|some v=>
  unfold D.dc fR.dc;dsimp only;split <;> omega
def K2{K:bo}{F:ak->Prop}{H:aE}{ts:List T}{vs:List V}(h:bj K F H ts vs)(lo aU:Option Int):bj K F H (w5 ts lo aU) (n4 vs lo aU):=by
 unfold w5 n4;simp only[aiM,h.length];exact (h.drop _).take _
def RB{lo aU:Option bc}{n8 Ny:Ev->Option (Option Int)}(ax:ez X e f)(ay:o6 X lo (BG X.K n8))(bp:o6 X aU (BG X.K Ny)):cg X (.Subscript e (.Slice lo aU none e0) pos) (slice f n8 Ny):=ec (ag' ((aiJ.or agW).or ahK) ax ay bp) λσ H Q ⟨aF,aN,O,F,ag,t,r,e,k⟩=>by
 simp only[slice,cb] at e;obtain⟨x,ex,l,f6,h,jr,e⟩:=e;refine⟨aF,aN,O,F,ag,x,r,ex,λv aZ H1 aL a4=>⟨aF,aN,O,aZ,ag,l,r.ext aL,f6,λcX bb bx=>⟨aF,aN,O,cX,ag,h,(r.ext aL).ext bx,jr,λhY dj d6=>?_⟩⟩⟩;have pJ:=bx.trans d6;have qP:=aL.trans pJ;unfold Bp at e;split at e
 ·cases e
  obtain⟨a,vs,rfl,aw,av⟩:=(a4.ext pJ).tup;by_cases hw:fR.dc vs.length 0 l=0/\fR.dc vs.length vs.length h=vs.length
  ·refine .inl (.inr ⟨a,vs,rfl,aw,hw,k _ hY dj qP ?_⟩)
   simp only[Rep];refine⟨a,vs,rfl,aw,?_⟩;have:=K2 av l h;unfold n4 at this;rw[hw.1,hw.2,List.drop_zero,Nat.sub_zero,List.take_length] at this;exact this
  ·refine .inl (.inl ⟨a,vs,rfl,aw,hw,λq bS=>?_⟩)
   have l9:=Ext.laid (o:=.tup (n4 vs l h)) qP.cn bS;refine k _ hY _ (qP.trans l9) ?_;simp only[Rep];exact⟨q,_,rfl,c7.of dH,(K2 av l h).ext l9⟩
 ·cases e
  obtain⟨a,vs,rfl,aw,av⟩:=(a4.ext pJ).lst;refine .inr ⟨a,vs,rfl,.inl aw,λq bS=>?_⟩;have l9:=Ext.Bg (o:=.lst (n4 vs l h)) qP.cn bS;refine k _ _ _ (qP.trans l9) ?_;simp only[Rep];exact⟨q,_,rfl,.inr rfl,.inl dH,(K2 av l h).ext l9⟩
 ·cases e
end
end
end D
end
section
namespace D
open PySem PySem.W PyProof.Rows
structure UN(n:Nat)(lt:Nat->Nat->Bool):Prop where
 akp:∀i j,lt i j=true->lt j i=false
 trans:∀i j k,lt i j=true->lt j k=true->lt i k=true
 akL:∀i j,i<n->j<n->i≠j->lt i j=true\/lt j i=true
noncomputable def sQ(lt:Nat->Nat->Bool)(p:Array Nat)(m:Nat):Prop:=∀i j,i<j->j<m->lt (p.getD i 0) (p.getD j 0)=true
noncomputable def ey(lt:Nat->Nat->Bool)(p:Array Nat)(m:Nat):Prop:=∀i j,i<j->j<m->lt (p.getD j 0) (p.getD i 0)=true
section
variable {n:Nat}{lt:Nat->Nat->Bool}(O:UN n lt)
include O
end
end D
end
section
namespace D
open PySem
variable [c5]
end D
end
section
namespace D
open PySem PySem.Spec PyProof.Rows bw
section
variable [c5]
def QJ:entryFor table "dict.update.loop"=some Builtin.«dict.update.loop»:=entryFor_of_tree (by kernel_rfl)
def CX:plainId "dict.update.loop"=true:=by decide +kernel
section
variable {prog:cQ}{w:cB}{K:Type}[DecidableEq K]{knd:PySem.KeyKind prog w K}{A:di}
def pair_items{E:aq->aQ->Prop}{s:aQ}{p:ak}{o:Obj}{n:Nat}{xs:Array aq}{Q:List aq->aQ->Prop}(ah:s.heap.get? p=some o)(ao:o.cls=.type "tuple")(bG:o.data=.seq xs n)(h:Q xs.toList s):bK (bZ prog w) A (Builtin.Dict.pairItems (.ref p)) Q E s:=by
 obtain⟨c,z4,dat,dr⟩:=o;simp only at ao bG;subst ao bG;obtain⟨aC,g,d,tk,os⟩:=s;have eD:(⟨aC,g,d,tk,os⟩:aQ).TypeIs (.ref p) "tuple":=⟨_,ah,rfl⟩;unfold Builtin.Dict.pairItems
 repeat (any_goals (first|assumption|wp_step))
def stored_new{kvs:List (K×aq)}{k:K}{v:aq}(h:k∉kvs.map (·.1)):stored kvs k v=kvs++[(k,v)]:=by
 unfold stored;rw[if_neg];intro q;obtain⟨x,hx,e⟩:=List.any_eq_true.mp q;exact h (dK.mpr ⟨x,hx,by simpa using e⟩)
variable {R:Result->aQ->Prop}{I:ak}{b2 wr:List ak}{G:Array GenState->Array GenState->Prop}{St:Nat->aQ->Prop}{items:Array aq}
variable {E:aq->aQ->Prop}{s:aQ}
end
end
section
variable [c5]
mutual
noncomputable def iW:T->T->Option Bool
|.int a,.int b=>some (decide (a<b))
|.tuple xs,.tuple ys=>tw xs ys
|_,_=>none
noncomputable def tw:List T->List T->Option Bool
| [],[]=>some false
| [],_::_=>some true
|_::_,[]=>some false
|x::xs,y::ys=>if hX x y then tw xs ys else iW x y
end
noncomputable def Mf(A:di)(s:aQ)(y x:aq)(b:Bool):Prop:=
 ∀(prog:cQ) (w:cB) (E:aq->aQ->Prop) (Q:aq->aQ->Prop),Q (.bool b) s->bK (bZ prog w) A (richCompare .Lt y x) Q E s
inductive qe(A:di)(s:aQ)(fin:Bool):List (aq×aq)->Bool->Prop
|nil:qe A s fin [] fin
|eq {y x:aq} {r:List (aq×aq)} {b:Bool}:SeqAt.EqAt A s y x true->qe A s fin r b->qe A s fin ((y,x)::r) b
|lt {y x:aq} {r:List (aq×aq)} {b:Bool}:SeqAt.EqAt A s y x false->Mf A s y x b->qe A s fin ((y,x)::r) b
section
open PySem.SeqAt
open PySem.AutoSeq1 (wpAny_loadPart')
open PySem.MeetsSeq PySem.MeetsSeq2 PySem.MeetsSeq3
def aeS(l b:ak)(items qD:Array aq)(n gJ:Nat)(dU nh:Option ak)(dr l8:Array (Option aq))(z:Bool):
  Meets (Builtin.«tuple.__lt__» ⟨[.ref l,.ref b],[]⟩)
   (λA R s=>s.heap.get? l=some {cls:=.type "tuple",dict:=dU,data:=.seq items n,slots:=dr}/\s.heap.get? b=some {cls:=.type "tuple",dict:=nh,data:=.seq qD gJ,slots:=l8} /\
    qe A.in1 s (decide (items.size<qD.size)) (items.toList.zip qD.toList) z/\R (.ok (.ret (.bool z))) s):=
 .of_wp λprog w A R s h=>by
  obtain⟨aC,g,d,tk,os⟩:=s;obtain⟨ay,ae,bt,h⟩:=h;have f2:=AutoSeq1.sub_tuple_tuple
  wp_walk using wpAny_loadPart' ay,wpAny_loadPart' ae,wpAny_forIn_list _ (λrest b s'=>b.1=none/\s'=⟨aC,g,d,tk,os⟩/\qe A.in1 ⟨aC,g,d,tk,os⟩ (decide (items.size<qD.size)) rest z) _
  case turn=>
   rintro⟨y,x⟩ rest b s' ⟨iR,rfl,kh⟩;cases kh with
   |eq he kh=>
    refine a6 (he prog w _ _ ?_)
    wp_walk
    exact⟨rfl,rfl,kh⟩
   |lt he e7=>
    refine a6 (he prog w _ _ ?_)
    have GB:=e7 prog w
    wp_walk using GB
    exact⟨_,rfl,h⟩
  case fin=>
   rintro⟨bX,b9⟩ s' ⟨iR,rfl,kh⟩;simp only at iR;subst iR;cases kh
   wp_walk
   exact⟨_,rfl,by simpa [Builtin.Tuple.tupleCompareSizes] using h⟩
  case h=>
   exact⟨rfl,rfl,bt⟩
mutual
theorem ahm:∀(qp db:T) (A:di) (s:aQ) (a b:aq) (as bs:List ak) (r:Bool),Reads s.heap a qp as->Reads s.heap b db bs->qp.canLay0=true->db.canLay0=true->A.units+min qp.depth db.depth<cLine->iW qp db=some r->Mf A s a b r
|.int i,.int j,A,s,_,_,_,_,r,.int _ t,.int _ u,_,_,_,e=>by
  unfold iW at e;cases e;exact λprog w E Q q=>(PyProof.Rows.lt_int q:bK (bZ prog w) A (jE .Lt (.int i t) (.int j u)) Q E s)
|.tuple xs,.tuple ys,A,s,_,_,_,_,r,.tuple (a:=l) (o:=o) (vs:=vs) (n:=n) ah ao bG cT,.tuple (a:=gm) (o:=o') (vs:=eg) (n:=qE) eY dV gz mM,ax,ae,bp,e=>by
  unfold iW at e;simp only[PyData.canLay0] at ax ae;simp only[mX] at bp;have kh:=good_reads xs ys A.in1 s vs.toList eg.toList _ _ r cT mM ax ae (room_in bp) e;obtain⟨cls,dU,data,dr⟩:=o;obtain⟨Fx,nh,data2,l8⟩:=o';simp only at ao bG dV gz;subst ao bG dV gz;rw[r2,r2] at kh;exact λprog w E Q q=>richCompare_meets_room (op:=.Lt) ⟨_,ah,rfl⟩ ⟨_,eY,rfl⟩ PySem.F.slot_tuple_lt PySem.F.entry_tuple_lt (PySem.F.args_tuple_lt_2 _ _) (aeS l gm vs eg n qE dU nh dr l8 r)
   ⟨ah,eY,kh,show Value.bool r≠Value.notImplemented/\Q (.bool r) s from ⟨(λx=>nomatch x),q⟩⟩ (by omega)
|.none,_,_,_,_,_,_,_,_,_,_,_,_,_,e=>by simp[iW] at e
|.bool _,_,_,_,_,_,_,_,_,_,_,_,_,_,e=>by simp[iW] at e
|.str _,_,_,_,_,_,_,_,_,_,_,_,_,_,e=>by simp[iW] at e
|.list _,_,_,_,_,_,_,_,_,_,_,_,_,_,e=>by simp[iW] at e
|.dict _,_,_,_,_,_,_,_,_,_,_,_,_,_,e=>by simp[iW] at e
|.int _,.none,_,_,_,_,_,_,_,_,_,_,_,_,e=>by simp[iW] at e
|.int _,.bool _,_,_,_,_,_,_,_,_,_,_,_,_,e=>by simp[iW] at e
|.int _,.str _,_,_,_,_,_,_,_,_,_,_,_,_,e=>by simp[iW] at e
|.int _,.list _,_,_,_,_,_,_,_,_,_,_,_,_,e=>by simp[iW] at e
|.int _,.dict _,_,_,_,_,_,_,_,_,_,_,_,_,e=>by simp[iW] at e
|.int _,.tuple _,_,_,_,_,_,_,_,_,_,_,_,_,e=>by simp[iW] at e
|.tuple _,.none,_,_,_,_,_,_,_,_,_,_,_,_,e=>by simp[iW] at e
|.tuple _,.bool _,_,_,_,_,_,_,_,_,_,_,_,_,e=>by simp[iW] at e
|.tuple _,.str _,_,_,_,_,_,_,_,_,_,_,_,_,e=>by simp[iW] at e
|.tuple _,.list _,_,_,_,_,_,_,_,_,_,_,_,_,e=>by simp[iW] at e
|.tuple _,.dict _,_,_,_,_,_,_,_,_,_,_,_,_,e=>by simp[iW] at e
|.tuple _,.int _,_,_,_,_,_,_,_,_,_,_,_,_,e=>by simp[iW] at e
theorem good_reads:∀(xs ys:List T) (A:di) (s:aQ) (vs ws:List aq) (as bs:List ak) (r:Bool),ReadsAll s.heap vs xs as->ReadsAll s.heap ws ys bs->kW xs=true->kW ys=true->A.units+min (kV xs) (kV ys)<cLine->tw xs ys=some r->qe A s (decide (vs.length<ws.length)) (vs.zip ws) r
| [],[],A,s,_,_,_,_,r,.nil,.nil,_,_,_,e=>by
  unfold tw at e;cases e;exact .nil
| [],_::_,A,s,_,_,_,_,r,.nil,.cons _ _,_,_,_,e=>by
  unfold tw at e;cases e;exact qe.nil
|_::_,[],A,s,_,_,_,_,r,.cons _ _,.nil,_,_,_,e=>by
  unfold tw at e;cases e;exact qe.nil
|x::xs,y::ys,A,s,_,_,_,_,r,.cons bg cf,.cons aP ba,ax,ae,bp,e=>by
  simp only[kW,iu] at ax ae;simp only[kV] at bp;unfold tw at e;have he:=eqAt_reads x y A s _ _ _ _ bg aP ax.1 ae.1 (room_head bp);split at e
  next h=>
   rw[h] at he;have b7:=good_reads xs ys A s _ _ _ _ r cf ba ax.2 ae.2 (room_tail bp) e;rw[qU];simp only[g5,Nat.add_lt_add_iff_right];exact .eq he b7
  next h=>
   rw[Bool.not_eq_true] at h;rw[h] at he;rw[qU];exact .lt he (ahm x y A s _ _ _ _ r bg aP ax.1 ae.1 (room_head bp) e)
end
end
end
end D
end
section
namespace D
open PySem
inductive qb where
|v (f:bI)|o (i:Nat)
abbrev rj:=Ev->Option (T×Ev)
abbrev cu:=Ev->Option aO
noncomputable def IM(i:Nat)(ag:Ev):Option aO:=match ag[i]? with
|some (some (.obj m c az))=>some (.obj m c az)
|_=>none
noncomputable def ru:List qb->Ev->Option (List aO)
| [],_=>some []
|.v f::as,ag=>(f ag).bind λt=>(ru as ag).map λss=>.ab t::ss
|.o i::as,ag=>(IM i ag).bind λs=>(ru as ag).map λss=>s::ss
noncomputable def Jc:aO->aO
|.obj _ c az=>.obj .fM c az
|s=>s
noncomputable def akQ(c i:Nat)(ag:Ev):Option (hA×List aO):=match ag[i]? with
|some (some (.obj m gw az))=>if gw=c then some (m,az) else none
|_=>none
noncomputable def fld(c i j:Nat):bI:=λag=>(akQ c i ag).bind λo=>match o.2[j]? with
|some (.ab t)=>some t
|some (.own ts)=>some (.list ts)
|_=>none
noncomputable def eS(c i j:Nat):bI:=λag=>(akQ c i ag).bind λo=>match o.2[j]? with
|some (.ab t)=>some t
|_=>none
noncomputable def lY(c i j:Nat):Ev->Option (List (Key×T)):=λag=>(akQ c i ag).bind λo=>match o.2[j]? with
|some (.h5 kvs)=>some kvs
|_=>none
noncomputable def kM(c i j:Nat):Ev->Option (List T):=λag=>(akQ c i ag).bind λo=>match o.2[j]? with
|some (.own ts)=>some ts
|_=>none
noncomputable def lX(c i j:Nat)(k:bI):bI:=λag=>(k ag).bind λt=>(keyOf t).bind λk=>(lY c i j ag).bind λkvs=>getD kvs k
noncomputable def zH(c i j:Nat):bI:=λag=>(lY c i j ag).map λkvs=>.tuple (kvs.map (·.2))
noncomputable def gb(c i j:Nat)(s:aO)(ag:Ev):Option Ev:=(akQ c i ag).bind λo=>if o.1=.fM then none else
 if j<o.2.length then some (ag.set i (some (.obj o.1 c (o.2.set j s)))) else if j=o.2.length then some (ag.set i (some (.obj o.1 c (o.2++[s])))) else none
noncomputable def cx(c i j:Nat)(f:bI):bz:=λag=>(f ag).bind λt=>(gb c i j (.ab t) ag).map .bY
noncomputable def g9(c i j:Nat)(f:bI):bz:=λag=>(f ag).bind λt=>match t with
|.list ts=>(gb c i j (.own ts) ag).map .bY
|_=>none
noncomputable def nR:T->T->Option Int
|.int i,.int j=>some (i+j)
|_,_=>none
noncomputable def nf(c i j:Nat)(f:bI):bz:=λag=>(eS c i j ag).bind λx=>(f ag).bind λy=>(nR x y).bind λz=>(gb c i j (.ab (.int z)) ag).map .bY
noncomputable def jQ(c i j:Nat)(f:bI):bz:=λag=>(f ag).bind λt=>(kM c i j ag).bind λts=>if ts.length<big then (gb c i j (.own (ts++[t])) ag).map .bY else none
noncomputable def qG(c i j:Nat)(f:bI):bz:=λag=>(f ag).bind λt=>(kM c i j ag).bind λts=>match t,strsOf ts with
|.str x,some ss=>if x∈ss then (gb c i j (.own ((ss.erase x).map .str)) ag).map .bY else none
|_,_=>none
noncomputable def wm:T->Option T
|.tuple xs=>some (.list xs)
|.list xs=>some (.list xs)
|_=>none
noncomputable def C7:T->Option T
|.list xs=>if xs.length<64 then (strsOf xs).map λss=>.list ((eN ss).map .str) else none
|_=>none
noncomputable def oW(c i j:Nat)(k v:bI):bz:=λag=>(v ag).bind λv=>(k ag).bind λt=>(keyOf t).bind λk=>(lY c i j ag).bind λkvs=>if kvs.length<big then (gb c i j (.h5 (putD kvs k v)) ag).map .bY else none
noncomputable def oY(c i j:Nat)(k v:bI):bz:=λag=>(k ag).bind λt=>(keyOf t).bind λk=>(lY c i j ag).bind λkvs=>(getD kvs k).bind λx=>(v ag).bind λy=>(nR x y).bind λz=>if kvs.length<big then (gb c i j (.h5 (putD kvs k (.int z))) ag).map .bY else none
noncomputable def sz:List T->List T->Option (List (Key×T))
| [],_=>some []
|_::_,[]=>some []
|k::bf,v::vs=>(keyOf k).bind λk=>(sz bf vs).map λr=>(k,v)::r
noncomputable def wI(c i j:Nat)(bf vs:bI):bz:=λag=>(bf ag).bind λtk=>(vs ag).bind λhI=>match tk,hI with
|.list lk,.tuple lv=>(sz lk lv).bind λkvs=>if (kvs.map (·.1)).Nodup/\kvs.length<=1000/\(∀t∈lk,(keyOf t).isSome=true) then (gb c i j (.h5 kvs) ag).map .bY else none
|_,_=>none
noncomputable def m9(f g:jN):jN:=λag=>(f ag).bind λa=>(g ag).map λb=>List.zipWith (λx y=>.tuple [x,y]) a b
noncomputable def wH(d:List aO->Option T)(as:List qb):bI:=λag=>(ru as ag).bind λss=>d (ss.map Jc)
noncomputable def lN(c:Nat)(d:List aO->Option T)(i:Nat)(az:List bI):bI:=λag=>(akQ c i ag).bind λo=>(args az ag).bind λts=>d (.obj .fM c o.2::ts.map .ab)
noncomputable def d1(c:Nat)(d:List aO->Option (T×List aO))(i:Nat)(az:List bI):rj:=λag=>(akQ c i ag).bind λo=>if o.1=.fM then none else (args az ag).bind λts=>
 (d (.obj .cM c o.2::ts.map .ab)).map λr=>(r.1,ag.set i (some (.obj o.1 c r.2)))
noncomputable def dp(c:Nat)(d:List aO->Option (T×List aO))(az:List bI)(i:Nat)(eP:List bI):rj:=λag=>(akQ c i ag).bind λo=>if o.1=.fM then none else (args az ag).bind λts=>(args eP ag).bind λus=>
 (d (ts.map .ab++.obj .cM c o.2::us.map .ab)).map λr=>(r.1,ag.set i (some (.obj o.1 c r.2)))
noncomputable def Bk(c:Nat)(d:List aO->Option (T×List aO))(az:List bI):cu:=λag=>(args az ag).bind λts=>(d (.obj .cM c []::ts.map .ab)).bind λr=>match r.1 with
|.none=>some (.obj .own c r.2)
|_=>none
noncomputable def oX(d:List T->Option aO)(az:List bI):cu:=λag=>(args az ag).bind d
noncomputable def v7(c:Nat):aO->Option (List aO)
|.obj .own gw az=>if gw=c then some az else none
|_=>none
noncomputable def x3(c:Nat)(d:List aO->Option T)(o:cu)(az:List bI):bI:=λag=>(o ag).bind λs=>(v7 c s).bind λos=>(args az ag).bind λts=>d (.obj .fM c os::ts.map .ab)
noncomputable def zr(c j:Nat)(o:cu):bI:=λag=>(o ag).bind λs=>(v7 c s).bind λos=>match os[j]? with
|some (.own ts)=>some (.list ts)
|_=>none
noncomputable def ct(f:rj):bz:=λag=>(f ag).map λr=>.bY r.2
noncomputable def iZ(f:rj):bz:=λag=>(f ag).map λr=>.fN r.1 r.2
noncomputable def hn(f:bI):bz:=λag=>(f ag).map λt=>.fN t ag
noncomputable def rv(i:Nat)(f:rj):bz:=λag=>(f ag).map λr=>.bY (r.2.set i (some (.ab r.1)))
noncomputable def o8(i:Nat)(f:cu):bz:=λag=>(f ag).map λs=>.bY (ag.set i (some s))
noncomputable def tL(i:Nat):bz:=λag=>match ag[i]? with
|some (some (.obj .own c az))=>some (.l6 (.obj .own c az))
|_=>none
noncomputable def nQ:bz:=λag=>some (.fN .none ag)
def never:bz:=λ_=>none
noncomputable def j7(n:Nat)(ss:List aO):Ev:=ss.map some++dZ (n - ss.length) none
noncomputable def jc(b:bz)(n:Nat)(ss:List aO):Option T:=(b (j7 n ss)).bind λo=>match o with
|.e1 t=>some t
|.bY _=>some .none
|_=>none
noncomputable def m7(c p:Nat)(ag:Ev):Option (List aO):=match ag[p]? with
|some (some (.obj .cM gw az))=>if gw=c then some az else none
|_=>none
noncomputable def runM(c p:Nat)(b:bz)(n:Nat)(ss:List aO):Option (T×List aO):=(b (j7 n ss)).bind λo=>match o with
|.fN t ag=>(m7 c p ag).map λaz=>(t,az)
|.bY ag=>(m7 c p ag).map λaz=>(.none,az)
|_=>none
noncomputable def x5:aO->Option aO
|.obj .own c az=>some (.obj .own c az)
|_=>none
noncomputable def pD(b:bz)(n:Nat)(ts:List T):Option aO:=(b ((ts.map λt=>some (.ab t))++dZ (n - ts.length) none)).bind λo=>match o with
|.l6 s=>x5 s
|_=>none
end D
end
section
namespace D
open PySem PySem.Spec PyProof.Rows bw
section
variable [c5]
section
variable {K:bo}{F aM O:ak->Prop}{H aj:aE}{E:gu}
theorem fT.length:∀{az:List aO} {vs:List V},fT K F H az vs->az.length=vs.length
| [],vs,r=>by
  have e:vs=[]:=r;rw[e];rfl
|s::ss,vs,r=>by
  obtain⟨v,z,rfl,_,cf⟩:=r;simp[fT.length cf]
theorem fT.get:∀{az:List aO} {vs:List V} {j:Nat} {s:aO},fT K F H az vs->az[j]?=some s->∃v,vs[j]?=some v/\k3 K F H s v
| [],vs,j,s,r,e=>by simp at e
|s::ss,vs,0,u,r,e=>by
  obtain⟨v,z,rfl,bg,_⟩:=r;simp at e;subst e;exact⟨v,rfl,bg⟩
|s::ss,vs,j+1,u,r,e=>by
  obtain⟨v,z,rfl,_,cf⟩:=r;obtain⟨w,ah,ao⟩:=fT.get (j:=j) (s:=u) cf (by simpa using e);exact⟨w,by simpa using ah,ao⟩
theorem fT.set:∀{az:List aO} {vs:List V} {j:Nat} {s:aO} {v:V},fT K F H az vs->eJ K F H aM aj->(∀(k:Nat) (u:aO) (w:V),k≠j->az[k]?=some u->vs[k]?=some w->∀b∈dN u w,aj b=H b)->k3 K aM aj s v->fT K aM aj (az.set j s) (vs.set j v)
| [],vs,j,s,v,r,_,_,_=>by
  have e:vs=[]:=r;subst e;exact rfl
|u::ss,vs,0,s,v,r,aB,aI,h=>by
  obtain⟨w,z,rfl,bg,cf⟩:=r;refine⟨v,z,rfl,h,cf.keep aB λb ae=>?_⟩;have:∀{ss:List aO} {z:List V} (n:Nat),(∀(k:Nat) (u:aO) (w:V),ss[k]?=some u->z[k]?=some w->∀b∈dN u w,aj b=H b)->b∈cZ ss z->aj b=H b:=by
   intro ss
   induction ss with
   |nil=>intro z n _ ae;simp[cZ] at ae
   |cons s1 ss b7=>
    intro z n aI ae;cases z with
    |nil=>simp[cZ] at ae
    |cons v1 z=>
     rw[show cZ (s1::ss) (v1::z)=dN s1 v1++cZ ss z from rfl] at ae;rcases j2.mp ae with q|q
     ·exact aI 0 s1 v1 rfl rfl b q
     ·exact b7 n (λk u w aR a7=>aI (k+1) u w (by simpa using aR) (by simpa using a7)) q
  exact this 0 (λk u w aR a7=>aI (k+1) u w (by omega) (by simpa using aR) (by simpa using a7)) ae
|u::ss,vs,j+1,s,v,r,aB,aI,h=>by
  obtain⟨w,z,rfl,bg,cf⟩:=r;exact⟨w,z.set j v,rfl,bg.keep aB λb ae=>aI 0 u w (by omega) rfl rfl b ae,fT.set cf aB (λk u w aky aR a7=>aI (k+1) u w (by omega) (by simpa using aR) (by simpa using a7)) h⟩
theorem fT.snoc:∀{az:List aO} {vs:List V} {s:aO} {v:V},fT K F H az vs->k3 K F H s v->fT K F H (az++[s]) (vs++[v])
| [],vs,s,v,r,h=>by
  have e:vs=[]:=r;subst e;exact⟨v,[],rfl,h,rfl⟩
|u::ss,vs,s,v,r,h=>by
  obtain⟨w,z,rfl,bg,cf⟩:=r;exact⟨w,z++[v],rfl,bg,fT.snoc cf h⟩
theorem zc:∀{az:List aO} {vs:List V} {s:aO} {v:V},az.length=vs.length->cZ (az++[s]) (vs++[v])=cZ az vs++dN s v
| [],[],s,v,_=>by simp[cZ]
|u::ss,w::z,s,v,h=>by
  show dN u w++cZ (ss++[s]) (z++[v])=(dN u w++cZ ss z)++dN s v
  rw[zc (by simpa using h),List.append_assoc]
| [],w::z,_,_,h=>by simp at h
|u::ss,[],_,_,h=>by simp at h
theorem mm:∀{az:List aO} {vs:List V} {j:Nat} {s:aO} {v:V} {b:ak},az[j]?=some s->vs[j]?=some v->b∈dN s v->b∈cZ az vs
| [],vs,j,s,v,b,e,_,_=>by simp at e
|u::ss,[],j,s,v,b,_,e,_=>by simp at e
|u::ss,w::z,0,s,v,b,aR,a7,h=>by
  simp at aR a7;subst aR a7;exact j2.mpr (.inl h)
|u::ss,w::z,j+1,s,v,b,aR,a7,h=>j2.mpr (.inr (mm (j:=j) (by simpa using aR) (by simpa using a7) h))
theorem LQ:∀{az:List aO} {vs:List V} {b:ak},b∈cZ az vs->∃(j:Nat) (s:aO) (v:V),az[j]?=some s/\vs[j]?=some v/\b∈dN s v
| [],vs,b,h=>by simp[cZ] at h
|u::ss,[],b,h=>by simp[cZ] at h
|u::ss,w::z,b,h=>by
  rcases j2.mp (show b∈dN u w++cZ ss z from h) with q|q
  ·exact⟨0,u,w,rfl,rfl,q⟩
  ·obtain⟨j,s,v,aR,a7,h⟩:=LQ q;exact⟨j+1,s,v,by simpa using aR,by simpa using a7,h⟩
theorem K9:∀{az:List aO} {vs:List V} {j k:Nat} {s u:aO} {v w:V} {b:ak},(cZ az vs).Nodup->j≠k->az[j]?=some s->vs[j]?=some v->az[k]?=some u->vs[k]?=some w->b∈dN s v->b∈dN u w->False
| [],vs,j,k,s,u,v,w,b,_,_,e,_,_,_,_,_=>by simp at e
|x::ss,[],j,k,s,u,v,w,b,_,_,_,e,_,_,_,_=>by simp at e
|x::ss,y::z,j,k,s,u,v,w,b,aW,pj,aR,a7,gi,jq,ah,ao=>by
  have gK:(dN x y++cZ ss z).Nodup:=aW;rw[pL] at gK;obtain⟨gY,gJ,Oi⟩:=gK;cases j with
  |zero=>
   cases k with
   |zero=>exact pj rfl
   |succ k=>
    simp at aR a7;subst aR a7;exact Oi b ah b (mm (j:=k) (by simpa using gi) (by simpa using jq) ao) rfl
  |succ j=>
   cases k with
   |zero=>
    simp at gi jq;subst gi jq;exact Oi b ao b (mm (j:=j) (by simpa using aR) (by simpa using a7) ah) rfl
   |succ k=>exact K9 (j:=j) (k:=k) gJ (by omega) (by simpa using aR) (by simpa using a7) (by simpa using gi) (by simpa using jq) ah ao
def vF{az:List aO}{vs:List V}{j:Nat}{s:aO}{v:V}{b:ak}(h:b∈cZ (az.set j s) (vs.set j v)):b∈cZ az vs\/b∈dN s v:=by
 obtain⟨k,u,w,aR,a7,h⟩:=LQ h;by_cases aI:j=k
 ·subst aI;have bT:=(fe.mp aR).1;have bR:=(fe.mp a7).1;simp at bT bR;rw[vp,if_pos rfl,if_pos bT] at aR;rw[vp,if_pos rfl,if_pos bR] at a7;cases aR;cases a7;exact .inr h
 ·rw[vp,if_neg aI] at aR a7;exact .inl (mm aR a7 h)
theorem Ci:∀{az:List aO} {vs:List V} {j:Nat} {s:aO} {v:V},(cZ az vs).Nodup->(dN s v).Nodup->(∀b∈dN s v,∀(k:Nat) (u:aO) (w:V),k≠j->az[k]?=some u->vs[k]?=some w->b∉dN u w)->(cZ (az.set j s) (vs.set j v)).Nodup
| [],vs,j,s,v,_,_,_=>by simp[cZ]
|x::ss,[],j,s,v,_,_,_=>by cases j <;> simp[cZ]
|x::ss,y::z,0,s,v,aW,ou,ax=>by
  have gK:(dN x y++cZ ss z).Nodup:=aW;rw[pL] at gK;show (dN s v++cZ ss z).Nodup;rw[pL];refine⟨ou,gK.2.1,λb ae c aG e=>?_⟩;subst e;obtain⟨k,u,w,aR,a7,h⟩:=LQ aG;exact ax b ae (k+1) u w (by omega) (by simpa using aR) (by simpa using a7) h
|x::ss,y::z,j+1,s,v,aW,ou,ax=>by
  have gK:(dN x y++cZ ss z).Nodup:=aW;rw[pL] at gK;show (dN x y++cZ (ss.set j s) (z.set j v)).Nodup;rw[pL];refine⟨gK.1,Ci gK.2.1 ou λb ae k u w aI aR a7=>ax b ae (k+1) u w (by omega) (by simpa using aR) (by simpa using a7),λb ae c aG e=>?_⟩;subst e;rcases vF aG with q|q
  ·exact gK.2.2 b ae b q rfl
  ·exact ax b q 0 x y (by omega) rfl rfl ae
def ag3(v:V):(gp v).Nodup:=by
 unfold gp;split <;> simp
def C0(s:aO)(v:V):(dN s v).Nodup:=by
 cases s <;> first|exact ag3 v|simp[dN]
theorem Kl:∀{ns:List Str} {vs:List V} {j:Nat} {f:Str} {v:V},ns.Nodup->ns[j]?=some f->vs[j]?=some v->(ns.zip vs).lookup f=some v
| [],_,_,_,_,_,e,_=>by simp at e
|_::_,[],_,_,_,_,_,e=>by simp at e
|n::ns,w::vs,0,f,v,_,aR,a7=>by
  simp at aR a7;subst aR a7;simp[i4]
|n::ns,w::vs,j+1,f,v,aW,aR,a7=>by
  have ne:f≠n:=by
   rintro rfl;exact (d0.mp aW).1 (ky (by simpa using aR))
  have ae:(f==n)=false:=beq_eq_false_iff_ne.mpr ne;simp only[qU,i4,ae];exact Kl (j:=j) (d0.mp aW).2 (by simpa using aR) (by simpa using a7)
theorem yH:∀{ns:List Str} {vs:List V} {f:Str},f∉ns->(ns.zip vs).lookup f=none
| [],_,_,_=>by simp
|_::_,[],_,_=>by simp
|n::ns,w::vs,f,h=>by
  have ne:f≠n:=λe=>h (by simp[e]);have ae:(f==n)=false:=beq_eq_false_iff_ne.mpr ne;simp only[qU,i4,ae];exact yH λz=>h (dT _ z)
theorem Rq:∀{ns:List Str} {vs:List V} {j:Nat} {f:Str} {v:V},ns.Nodup->ns[j]?=some f->j<vs.length->bw.hE f v (ns.zip vs)=ns.zip (vs.set j v)
| [],_,_,_,_,_,e,_=>by simp at e
|_::_,[],_,_,_,_,_,h=>by simp at h
|n::ns,w::vs,0,f,v,_,aR,h=>by
  simp at aR;subst aR;simp[bw.hE]
|n::ns,w::vs,j+1,f,v,aW,aR,h=>by
  have ne:n≠f:=by
   rintro rfl;exact (d0.mp aW).1 (ky (by simpa using aR))
  simp only[qU,je,bw.hE,if_neg ne];rw[Rq (j:=j) (d0.mp aW).2 (by simpa using aR) (by simpa using h)]
theorem PK:∀{ns:List Str} {vs:List V} {f:Str} {v:V},ns.Nodup->ns[vs.length]?=some f->bw.hE f v (ns.zip vs)=ns.zip (vs++[v])
| [],_,_,_,_,e=>by simp at e
|n::ns,[],f,v,_,aR=>by
  simp at aR;subst aR;simp[bw.hE]
|n::ns,w::vs,f,v,aW,aR=>by
  have ne:n≠f:=by
   rintro rfl;exact (d0.mp aW).1 (ky (by simpa using aR))
  simp only[qU,vr,bw.hE,if_neg ne];rw[PK (d0.mp aW).2 (by simpa using aR)]
end
structure hy(K:bo)(c:Nat)(C:ak)(ns:List Str):Prop where
 jT:c5.jT c=some C
 eB:c5.eB c=ns
 cls:nW K C
 aW:ns.Nodup
 na:∀f∈ns,rb K C f
 pe:ns.length<1000
section
variable {K:bo}{aF F aZ O:ak->Prop}{H H1:aE}{E:gu}{ag ε':Ev}{σ:bw.St}{c C i j:Nat}{ns:List Str}
def kz{m:hA}{az:List aO}(h:akQ c i ag=some (m,az)):ag[i]?=some (some (.obj m c az)):=by
 unfold akQ at h;split at h
 next mN gw il e=>
  split at h
  next aG=>
   cases h
   rw[e,aG]
  next=>cases h
 next=>cases h
def q'{m:hA}{az:List aO}(k:hy K c C ns)(r:cJ K aF E O F H ag σ)(h:akQ c i ag=some (m,az)):
  ∃a vs bF,σ[i]?=some (some (.ref a))/\H a=some (.ins C bF (ns.zip vs))/\vs.length<=ns.length/\gR H a c vs/\fT K F H az vs/\(a::cZ az vs).Nodup/\(∀b∈a::cZ az vs,ro E O F m b)/\(m=.cM->a=E.hk):=by
 obtain⟨v,ah,a,vs,rfl,ax,hf,aW,fB,hk⟩:=r.val i _ (kz h);obtain⟨ay,hx⟩:=id ax;rw[k.jT] at hx;obtain⟨bF,hx⟩:=hx;rw[k.eB] at ay hx;exact⟨a,vs,bF,ah,hx,ay,ax,hf,aW,fB,hk⟩
def zy{m:hA}(hm:m≠.fM){az:List aO}:(aO.obj m c az).iU=true:=by
 cases m with
|fM=>exact absurd rfl hm
|own=>rfl
|cM=>rfl
def cJ.BA{s:aO}{v:V}{a bF:ak}{vs:List V}(k:hy K c C ns)(r:cJ K aF E O F H ag σ){m:hA}{az:List aO}(aH:akQ c i ag=some (m,az))(ah:σ[i]?=some (some (.ref a)))(ax:gR H a c vs)(he:gb c i j s ag=some ε')
  (rs:k3 K F H s v) (own:∀b∈dN s v,¬F b/\O b/\b∉dS H (.obj m c az) (.ref a)/\∀(k:Nat) (u:aO) (w:V),i≠k->ag[k]?=some (some u)->u.iU=true->σ[k]?=some (some w)->b∉dS H u w) (hx:H a=some (.ins C bF (ns.zip vs)))
  {f:Str} (bD:ns[j]?=some f):eJ K F H F (upd H a (.ins C bF (bw.hE f v (ns.zip vs))))/\cJ K aF E O F (upd H a (.ins C bF (bw.hE f v (ns.zip vs)))) ε' σ:=by
 obtain⟨lS,eg,uU,eT,kj,ay,l0,hf,aW,fB,hk⟩:=q' k r aH;rw[ah] at eT;cases eT;have ev:eg=vs:=by rw[<- ax.vals,<- l0.vals]
 subst ev;have gH:dS H (.obj m c az) (.ref a)=a::cZ az eg:=jj ax;rw[gH] at own;unfold gb at he;rw[aH] at he;simp only[dt] at he;split at he
 next=>cases he
 next hm=>
 have hlen:=hf.length;have rG:(aO.obj m c az).iU=true:=zy hm;have xy:∀b,ro E O F m b <-> ¬F b/\O b:=λb=>by
  cases m with
  |fM=>exact absurd rfl hm
  |own=>exact Iff.rfl
  |cM=>exact Iff.rfl
 have na:∀b∈cZ az eg,b≠a:=λb ae z=>(d0.mp aW).1 (z▸ae);split at he
 next xu=>
  cases he
  have tf:j<eg.length:=by omega
  rw[Rq k.aW bD tf];have mH:∀b∈a::cZ (az.set j s) (eg.set j v),b∈a::cZ az eg\/b∈dN s v:=λb ae=>by
   rcases cO.mp ae with rfl|ae
   ·exact .inl e9
   ·rcases vF ae with q|q
    ·exact .inl (dT _ q)
    ·exact .inr q
  have iQ:∀o':aE,o' a=some (.ins C bF (ns.zip (eg.set j v)))->gR o' a c (eg.set j v):=λo' e=>by
   refine⟨by rw[k.eB];simpa using ay,?_⟩
   rw[k.jT,k.eB];exact⟨bF,e⟩
  refine r.xV (kz aH) rG ah (by rw[gH];exact e9) (λaB=>⟨a,eg.set j v,rfl,iQ _ dH,?_,?_,λb ae=>?_,hk⟩) λb ae=>?_
  ·refine fT.set hf aB (λk u w _ aR a7 b ae=>cw (na b (mm aR a7 ae))) (rs.keep aB λb ae=>cw λz=>(own b ae).2.2.1 (z▸e9))
  ·refine d0.mpr ⟨λz=>?_,Ci (d0.mp aW).2 (C0 s v) λb ae k u w _ aR a7 q=>(own b ae).2.2.1 (dT _ (mm aR a7 q))⟩
   rcases vF z with q|q
   ·exact (d0.mp aW).1 q
   ·exact (own a q).2.2.1 e9
  ·rcases mH b ae with q|q
   ·exact fB b q
   ·exact (xy b).mpr ⟨(own b q).1,(own b q).2.1⟩
  ·rw[jj (iQ _ dH)] at ae;rcases mH b ae with q|q
   ·exact .inl (by rw[gH];exact q)
   ·exact .inr (own b q).2.2.2
 next xu=>
  split at he
  next Yr=>
   cases he
   have tf:j=eg.length:=by omega
   rw[PK k.aW (by rw[<- tf];exact bD)];have Ys:j<ns.length:=(fe.mp bD).1;have mH:∀b∈a::cZ (az++[s]) (eg++[v]),b∈a::cZ az eg\/b∈dN s v:=λb ae=>by
    rw[zc hlen] at ae;rcases cO.mp ae with rfl|ae
    ·exact .inl e9
    ·rcases j2.mp ae with q|q
     ·exact .inl (dT _ q)
     ·exact .inr q
   have iQ:∀o':aE,o' a=some (.ins C bF (ns.zip (eg++[v])))->gR o' a c (eg++[v]):=λo' e=>by
    refine⟨by rw[k.eB];simp;omega,?_⟩
    rw[k.jT,k.eB];exact⟨bF,e⟩
   refine r.xV (kz aH) rG ah (by rw[gH];exact e9) (λaB=>⟨a,eg++[v],rfl,iQ _ dH,?_,?_,λb ae=>?_,hk⟩) λb ae=>?_
   ·exact fT.snoc (hf.keep aB λb ae=>cw (na b ae)) (rs.keep aB λb ae=>cw λz=>(own b ae).2.2.1 (z▸e9))
   ·rw[zc hlen];refine d0.mpr ⟨λz=>?_,pL.mpr ⟨(d0.mp aW).2,C0 s v,λb ae d hd e=>?_⟩⟩
    ·rcases j2.mp z with q|q
     ·exact (d0.mp aW).1 q
     ·exact (own a q).2.2.1 e9
    ·subst e;exact (own b hd).2.2.1 (dT _ ae)
   ·rcases mH b ae with q|q
    ·exact fB b q
    ·exact (xy b).mpr ⟨(own b q).1,(own b q).2.1⟩
   ·rw[jj (iQ _ dH)] at ae;rcases mH b ae with q|q
    ·exact .inl (by rw[gH];exact q)
    ·exact .inr (own b q).2.2.2
  next=>cases he
def cJ.tA{s s':aO}{a b:ak}{vs:List V}{o':eW}(r:cJ K aF E O F H ag σ){m:hA}{az:List aO}(aH:akQ c i ag=some (m,az))(ah:σ[i]?=some (some (.ref a)))(ax:gR H a c vs)(he:gb c i j s' ag=some ε')
  (aw:az[j]?=some s) (a':vs[j]?=some (.ref b)) (aU:b∈dN s (.ref b)) (xt:dN s' (.ref b)=[b]) (rs:eJ K F H F (upd H b o')->k3 K F (upd H b o') s' (.ref b)):eJ K F H F (upd H b o')/\cJ K aF E O F (upd H b o') ε' σ:=by
 obtain⟨v,eT,lS,eg,ev,l0,hf,aW,fB,hk⟩:=r.val i _ (kz aH);rw[ah] at eT;cases eT;cases ev;have ev:eg=vs:=by rw[<- ax.vals,<- l0.vals]
 subst ev;have gH:dS H (.obj m c az) (.ref a)=a::cZ az eg:=jj ax;unfold gb at he;rw[aH] at he;simp only[dt] at he;split at he
 next=>cases he
 next hm=>
 have xu:j<az.length:=(fe.mp aw).1;rw[if_pos xu] at he;cases he;have Gf:b∈cZ az eg:=mm aw a' aU;have X8:a≠b:=λz=>(d0.mp aW).1 (z▸Gf);have iQ:gR (upd H b o') a c eg:=ax.keep (cw X8);have FH:eg.set j (.ref b)=eg:=by
  obtain⟨ay,e⟩:=fe.mp a';rw[<- e];exact List.set_getElem_self ay
 have Gl:∀x∈cZ (az.set j s') eg,x∈cZ az eg:=λx hx=>by
  rw[<- FH] at hx;rcases vF hx with q|q
  ·exact q
  ·rw[xt] at q;rw[kS.mp q];exact Gf
 refine r.xV (kz aH) (zy hm) ah (by rw[gH];exact dT _ Gf) (λaB=>⟨a,eg,rfl,iQ,?_,?_,λx hx=>?_,hk⟩) λx hx=>?_
 ·rw[<- FH];exact fT.set hf aB (λk u w aI aR a7 x hx=>cw λz=>K9 (d0.mp aW).2 (Ne.symm aI) aw a' aR a7 aU (z▸hx)) (rs aB)
 ·refine d0.mpr ⟨λz=>(d0.mp aW).1 (Gl a z),?_⟩
  rw[<- FH];refine Ci (d0.mp aW).2 (by rw[xt];simp) λx hx k u w aI aR a7 q=>?_;rw[xt] at hx;rw[kS.mp hx] at q;exact K9 (d0.mp aW).2 (Ne.symm aI) aw a' aR a7 aU q
 ·rcases cO.mp hx with rfl|hx
  ·exact fB _ e9
  ·exact fB x (dT _ (Gl x hx))
 ·rw[jj iQ] at hx;rw[gH];rcases cO.mp hx with rfl|hx
  ·exact .inl e9
  ·exact .inl (dT _ (Gl x hx))
end
end
section
variable [c5]
section
variable {K:bo}{aF F O:ak->Prop}{H:aE}{E:gu}{ag:Ev}{σ:bw.St}{c C i j:Nat}{ns:List Str}{f:Str}
def oT{m:hA}{az:List aO}{s:aO}(k:hy K c C ns)(r:cJ K aF E O F H ag σ)(h:akQ c i ag=some (m,az))(aw:az[j]?=some s)(bD:ns[j]?=some f):
  ∃a vs bF v,σ[i]?=some (some (.ref a))/\H a=some (.ins C bF (ns.zip vs))/\(ns.zip vs).lookup f=some v/\gR H a c vs/\vs[j]?=some v/\k3 K F H s v/\(∀b∈dN s v,ro E O F m b/\b≠a):=by
 obtain⟨a,vs,bF,ah,hx,ay,ax,hf,aW,fB,hk⟩:=q' k r h;obtain⟨v,a',b8⟩:=hf.get aw;refine⟨a,vs,bF,v,ah,hx,Kl k.aW bD a',ax,a',b8,λb ae=>⟨fB b (dT _ (mm aw a' ae)),λz=>(d0.mp aW).1 (z▸mm aw a' ae)⟩⟩
def mq(k:hy K c C ns)(bD:ns[j]?=some f):rb K C f:=k.na f (ky bD)
end
section
variable {X:bh}{c C i j:Nat}{ns:List Str}{f:Str}{o e a:bc}{g h:bI}{pos apos:Pos}
def ig(k:hy X.K c C ns)(a8:bW X o (gN i))(bD:ns[j]?=some f:=by rfl)(ae:jf o f X.env (eval o X.env)=eval o X.env:=by rfl):ez X (.Attribute o f pos) (fld c i j):=
 ec (q_ a8 ae) λσ H Q ⟨aF,aN,O,F,ag,t,r,e,bV⟩=>by
 simp only[fld,cb] at e;obtain⟨⟨m,az⟩,aH,e⟩:=e;split at e
 next t' aw=>
  cases e
  obtain⟨a,vs,bF,v,ah,hx,ay,ax,a',b8,_⟩:=oT k r aH aw bD;exact⟨_,ah,a,C,bF,_,v,rfl,hx,k.cls,mq k bD,ay,bV v F H (Ext.refl r.cn) (.inl b8)⟩
 next ts aw=>
  cases e
  obtain⟨a,vs,bF,v,ah,hx,ay,ax,a',⟨b,us,dk,ae,eQ⟩,_⟩:=oT k r aH aw bD;subst dk;exact⟨_,ah,a,C,bF,_,_,rfl,hx,k.cls,mq k bD,ay,bV _ F H (Ext.refl r.cn) (.inr ⟨ts,b,us,rfl,rfl,ae,eQ⟩)⟩
 next=>cases e
def lK(k:hy X.K c C ns)(a8:bW X o (gN i))(bD:ns[j]?=some f:=by rfl)(ae:jf o f X.env (eval o X.env)=eval o X.env:=by rfl):cg X (.Attribute o f pos) (eS c i j):=
 ec (q_ a8 ae) λσ H Q ⟨aF,aN,O,F,ag,t,r,e,bV⟩=>by
 simp only[eS,cb] at e;obtain⟨⟨m,az⟩,aH,e⟩:=e;split at e
 next t' aw=>
  cases e
  obtain⟨a,vs,bF,v,ah,hx,ay,ax,a',b8,_⟩:=oT k r aH aw bD;exact⟨_,ah,a,C,bF,_,v,rfl,hx,k.cls,mq k bD,ay,bV v F H (Ext.refl r.cn) b8⟩
 next=>cases e
def C1{ag:Ev}{kvs:List (D.Key×T)}(e:lY c i j ag=some kvs):∃m az,akQ c i ag=some (m,az)/\az[j]?=some (.h5 kvs):=by
 simp only[lY,cb] at e;obtain⟨⟨m,az⟩,aH,e⟩:=e;split at e
 ·cases e
  exact⟨m,az,aH,by assumption⟩
 ·cases e
def y4{ag:Ev}{ts:List T}(e:kM c i j ag=some ts):∃m az,akQ c i ag=some (m,az)/\az[j]?=some (.own ts):=by
 simp only[kM,cb] at e;obtain⟨⟨m,az⟩,aH,e⟩:=e;split at e
 ·cases e
  exact⟨m,az,aH,by assumption⟩
 ·cases e
def LH(k:hy X.K c C ns)(bp:X.A.units+1<cLine)(a8:bW X o (gN i))(ax:ez X a g)(bD:ns[j]?=some f:=by rfl)(ae:jf o f X.env (eval o X.env)=eval o X.env:=by rfl)(aw:rn a:=by intro _ _;rfl):
  cg X (.Subscript (.Attribute o f apos) a pos) (lX c i j g):=ec (vX bp (q_ a8 ae) ax aw) λσ H Q ⟨aF,aN,O,F,ag,t,r,e,bV⟩=>by
 simp only[lX,cb] at e;obtain⟨t',bB,key,f5,kvs,fa,mA⟩:=e;obtain⟨m,az,aH,aw⟩:=C1 fa;obtain⟨a,vs,bF,v,ah,hx,ay,ax,a',⟨b,us,dk,ae,eQ⟩,_⟩:=oT k r aH aw bD;subst dk;refine⟨_,ah,a,C,bF,_,_,rfl,hx,k.cls,mq k bD,ay,aF,aN,O,F,ag,t',r,bB,λv aZ H1 aL aP=>?_⟩;have td:=aL.same.get ae;have va:=eO.aB (aL.aB (K:=X.K)) eQ;obtain⟨w,hw,kp⟩:=va.get mA;refine⟨b,w,rfl,?_,bV w aZ H1 aL kp⟩;rw[si f5 aP,<- hw];exact mw.k td
def K7{K:bo}{aF F O aZ:ak->Prop}{H H1:aE}{E:gu}{ag:Ev}{σ:bw.St}{b:ak}(r:cJ K aF E O F H ag σ)(x:Ext F H aZ H1)(a8:H b=none):
  ∀(k:Nat) (u:aO) (w:V),ag[k]?=some (some u)->σ[k]?=some (some w)->b∉dS H1 u w:=λk u w f5 aI ae=>by
 obtain⟨gc,ah,ao⟩:=r.val k u f5;rw[aI] at ah;cases ah;rw[(ao.w9 x).2] at ae;obtain⟨o,e,_⟩:=ao.at ae;rw[a8] at e;cases e
def gE(k:hy X.K c C ns)(a8:bW X o (gN i))(he:cg X e g)(bD:ns[j]?=some f:=by rfl)(aw:jg e (some (.Attribute o f apos)) pos.line X.env=pure false:=by rfl):
  fS X (.Assign [.Attribute o f apos] e pos) (cx c i j g):=ht (LI a8 he aw) λD σ H ⟨aF,aN,O,F,ag,o,r,e,bV⟩=>by
 simp only[cx,cb,dP] at e;obtain⟨t,bB,ε',es,rfl⟩:=e;refine⟨aF,aN,O,F,ag,t,r,bB,λv aZ H1 aL aP=>?_⟩;have bg:=r.ext aL;have e6:=es;unfold gb at e6;simp only[cb] at e6;obtain⟨⟨m,az⟩,aH,_⟩:=e6;obtain⟨a,vs,bF,ah,hx,ay,ax,_⟩:=q' k bg aH;obtain⟨aB,cf⟩:=bg.BA (s:=.ab t) (v:=v) k aH ah ax es aP (λb ae=>by simp[dN] at ae) hx bD;refine⟨_,ah,a,C,bF,_,rfl,hx,k.cls,mq k bD,?_,bV σ aZ _ (aL.aB.trans aB) cf⟩;have:=k.pe;simp only[List.length_zip];omega
def vW(k:hy X.K c C ns)(a8:bW X o (gN i))(he:o4 X e g)(bD:ns[j]?=some f:=by rfl)(aw:jg e (some (.Attribute o f apos)) pos.line X.env=pure false:=by rfl):
  fS X (.Assign [.Attribute o f apos] e pos) (g9 c i j g):=ht (LI a8 he aw) λD σ H ⟨aF,aN,O,F,ag,o,r,e,bV⟩=>by
 simp only[g9,cb] at e;obtain⟨t,bB,e⟩:=e;split at e
 next ts=>
  simp only[dP] at e;obtain⟨ε',es,rfl⟩:=e;refine⟨aF,aN,O,F,ag,ts,r,bB,λb us aZ H1 aL nu gn ae aP=>?_⟩;have bg:=r.ext aL;have e6:=es;unfold gb at e6;simp only[cb] at e6;obtain⟨⟨m,az⟩,aH,_⟩:=e6;obtain⟨a,vs,bF,ah,hx,ay,ax,_⟩:=q' k bg aH;have hold:=K7 r aL nu;obtain⟨aB,cf⟩:=bg.BA (s:=.own ts) (v:=.ref b) k aH ah ax es ⟨b,us,rfl,ae,aP⟩ (λd hd=>by
   have:d=b:=by simpa [dN,gp] using hd
   subst this;exact⟨gn,r.fr _ nu,hold i _ _ (kz aH) ah,λk u w _ f5 _ aI=>hold k u w f5 aI⟩) hx bD
  refine⟨_,ah,a,C,bF,_,rfl,hx,k.cls,mq k bD,?_,bV σ aZ _ (aL.aB.trans aB) cf⟩
  have:=k.pe;simp only[List.length_zip];omega
 next=>cases e
def QX{x y:T}{z:Int}(h:nR x y=some z):∃p q,x=.int p/\y=.int q/\z=p+q:=by
 unfold nR at h;split at h
 ·cases h
  exact⟨_,_,rfl,rfl,rfl⟩
 ·cases h
def Si(k:hy X.K c C ns)(a8:bW X o (gN i))(he:cg X e g)(bD:ns[j]?=some f:=by rfl):fS X (.AugAssign (.Attribute o f apos) .Add e pos) (nf c i j g):=
 ht (agi a8 he SK) λD σ H ⟨aF,aN,O,F,ag,o,r,e,bV⟩=>by
 simp only[nf,cb,dP] at e;obtain⟨x,ex,y,eL,z,w_,ε',es,rfl⟩:=e;simp only[eS,cb] at ex;obtain⟨⟨m,az⟩,aH,ex⟩:=ex;split at ex
 next t' aw=>
  cases ex
  obtain⟨p,q,rfl,rfl,rfl⟩:=QX w_;obtain⟨a,vs,bF,v,ah,hx,ay,ax,a',b8,_⟩:=oT k r aH aw bD;refine⟨_,ah,a,C,bF,_,v,rfl,hx,k.cls,mq k bD,ay,aF,aN,O,F,ag,_,r,eL,λw aZ H1 aL aP=>?_⟩;have bg:=r.ext aL;have ev:v=.int p:=by simpa [k3,Rep] using b8
  have mC:w=.int q:=by simpa [Rep] using aP
  obtain⟨lS,eg,uU,eT,kj,xv,l0,_⟩:=q' k bg aH;rw[ah] at eT;cases eT;obtain⟨aB,cf⟩:=bg.BA (s:=.ab (.int (p+q))) (v:=.int (p+q)) k aH ah l0 es (by simp[k3,Rep]) (λb ae=>by simp[dN] at ae) kj bD;refine⟨p,q,ev,mC,uU,_,kj,?_,bV σ aZ _ (aL.aB.trans aB) cf⟩;have:=k.pe;simp only[List.length_zip];omega
 next=>cases ex
def Sj(k:hy X.K c C ns)(a8:bW X o (gN i)){i7 dz:Pos}(he:cg X e g)(bD:ns[j]?=some f:=by rfl)(ae:jf o f X.env (eval o X.env)=eval o X.env:=by rfl)
  (hj:bA [e] X.env=(false,eval e X.env)::bA [] X.env:=by rfl)
  (la:jf (.Attribute o f apos) "append" X.env (eval (.Attribute o f apos) X.env)=eval (.Attribute o f apos) X.env:=by rfl)
  (ob:((dQ dz (bA [e] X.env)).all (λx=>!x.1) && (mc dz (mb [] X.env)).all (λx=>x.1.isSome)
   && decide (([e]:List bc).length+([]:List Keyword).length+(if ([]:List Keyword).isEmpty then 0 else 1)<30))=true:=by rfl)
  (lb:(i7.endLine==dz.line)=true:=by rfl) (oi:(dQ dz (bA [] X.env)).any (·.1)=false:=by rfl)
  (oj:jg (.Call (.Attribute (.Attribute o f apos) "append" i7) [e] [] dz) none pos.line X.env=pure false:=by rfl):
  fS X (.Expr (.Call (.Attribute (.Attribute o f apos) "append" i7) [e] [] dz) pos) (jQ c i j g):=
 ht (zl (zF yt PySem.F.slot_list_append PySem.F.type_list_append CZ (q_ a8 ae) (ix he kZ hj) la ob lb hj oi) oj) λD σ H ⟨aF,aN,O,F,ag,o,r,e,bV⟩=>by
 simp only[jQ,cb] at e;obtain⟨t,bB,ts,f6,e⟩:=e;split at e
 next ar=>
  simp only[dP] at e;obtain⟨ε',es,rfl⟩:=e;obtain⟨m,az,aH,aw⟩:=y4 f6;obtain⟨a,vs,bF,v,ah,hx,ay,ax,a',⟨b,us,dk,ae,eQ⟩,_⟩:=oT k r aH aw bD;subst dk;refine⟨_,ah,a,C,bF,_,_,rfl,hx,k.cls,mq k bD,ay,.inl ⟨rfl,_,gg.of ae⟩,aF,aN,O,F,ag,t,r,bB,λv aZ H1 aL aP=>?_⟩;have bg:=r.ext aL;obtain⟨a1,ad0,akq,v1,Nz,AM,ju,AD,NZ,⟨bX,O8,XH,td,va⟩,_⟩:=oT k bg aH aw bD;rw[ah] at Nz;cases Nz;have ev:ad0=vs:=by rw[<- AD.vals,<- (ax.keep ((aL.same.get hx).trans hx.symm)).vals]
  subst ev;rw[a'] at NZ;cases NZ;cases XH;obtain⟨aB,cf⟩:=bg.tA (s':=.own (ts++[t])) (o':=.lst (O8++[v])) aH ah AD es aw a' (by simp[dN,gp]) rfl λaB=>⟨b,_,rfl,dH,(va.aB aB).append (bj.cons (aP.aB aB) bj.nil)⟩;exact⟨b,O8,v,rfl,rfl,td,by rw[k0,<- va.length];exact ar,bV σ aZ _ (aL.aB.trans aB) cf⟩
 next=>cases e
def aiK(k:hy X.K c C ns)(bp:X.A.units+1<cLine)(a8:bW X o (gN i)){ly:Pos}(ax:ez X a h)(he:cg X e g)(bD:ns[j]?=some f:=by rfl)(ae:jf o f X.env (eval o X.env)=eval o X.env:=by rfl)
  (aw:jg e (some (.Subscript (.Attribute o f apos) a ly)) pos.line X.env=pure false:=by rfl):
  fS X (.Assign [.Subscript (.Attribute o f apos) a ly] e pos) (oW c i j h g):=ht (Ll bp (q_ a8 ae) ax he aw) λD σ H ⟨aF,aN,O,F,ag,o,r,e,bV⟩=>by
 simp only[oW,cb] at e;obtain⟨v,ev,t,bB,key,f5,kvs,fa,e⟩:=e;split at e
 next ar=>
  simp only[dP] at e;obtain⟨ε',es,rfl⟩:=e;obtain⟨m,az,aH,aw⟩:=C1 fa;refine⟨aF,aN,O,F,ag,v,r,ev,λak2 aZ H1 aL aP=>?_⟩;have bg:=r.ext aL;obtain⟨a,vs,bF,w,ah,hx,ay,ax,a',⟨b,us,dk,ae,eQ⟩,_⟩:=oT k bg aH aw bD;subst dk;refine⟨_,ah,a,C,bF,_,_,rfl,hx,k.cls,mq k bD,ay,aF,aN,O,aZ,ag,t,bg,bB,λvt cX bb bx ba=>?_⟩;have cf:=bg.ext bx;have Gd:gR bb a c vs:=ax.keep ((bx.same.get hx).trans hx.symm);have I':=eO.aB (bx.aB (K:=X.K)) eQ;obtain⟨aB,hV⟩:=cf.tA (s':=.h5 (putD kvs key v)) (o':=.dA (putK us key ak2)) aH ah Gd es aw a' (by simp[dN,gp]) rfl λaB=>⟨b,_,rfl,dH,eO.put (eO.aB aB I') ((aP.ext bx).aB aB)⟩;refine⟨b,_,rfl,?_,bV σ cX _ ((aL.trans bx).aB.trans aB) hV⟩;rw[si f5 ba];exact qd.k (bx.same.get ae) (by rw[k0,<- eQ.length];exact ar)
 next=>cases e
def ahP(k:hy X.K c C ns)(bp:X.A.units+1<cLine)(a8:bW X o (gN i)){ly:Pos}(ax:ez X a h)(he:cg X e g)(bD:ns[j]?=some f:=by rfl)(ae:jf o f X.env (eval o X.env)=eval o X.env:=by rfl)
  (X6:∀dX ft new,augStore a dX ft new=(do holding [new,dX,ft] (setItem dX ft new);release [new,dX,ft] [];pure .next):=by intros;rfl):
  fS X (.AugAssign (.Subscript (.Attribute o f apos) a ly) .Add e pos) (oY c i j h g):=ht (ah0 bp (q_ a8 ae) ax he SK X6) λD σ H ⟨aF,aN,O,F,ag,o,r,e,bV⟩=>by
 simp only[oY,cb] at e;obtain⟨t,bB,key,f5,kvs,fa,x,mA,y,eL,z,w_,e⟩:=e;split at e
 next ar=>
  simp only[dP] at e;obtain⟨ε',es,rfl⟩:=e;obtain⟨p,q,rfl,rfl,rfl⟩:=QX w_;obtain⟨m,az,aH,aw⟩:=C1 fa;obtain⟨a,vs,bF,w,ah,hx,ay,ax,a',⟨b,us,dk,ae,eQ⟩,_⟩:=oT k r aH aw bD;subst dk;refine⟨_,ah,a,C,bF,_,_,rfl,hx,k.cls,mq k bD,ay,aF,aN,O,F,ag,t,r,bB,λvt aZ H1 aL aP=>?_⟩;have bg:=r.ext aL;have va:=eO.aB (aL.aB (K:=X.K)) eQ;have td:=aL.same.get ae;obtain⟨w,hw,kp⟩:=va.get mA;have mC:w=.int p:=by simpa [Rep] using kp
  subst mC;refine⟨b,_,rfl,by rw[si f5 aP,<- hw];exact mw.k td,aF,aN,O,aZ,ag,_,bg,eL,λak2 cX bb bx ba=>?_⟩;have ev:ak2=.int q:=by simpa [Rep] using ba
  subst ev;refine⟨p,q,rfl,rfl,?_⟩;have cf:=bg.ext bx;have qO:=aL.trans bx;have Gd:gR bb a c vs:=ax.keep ((qO.same.get hx).trans hx.symm);have I':=eO.aB (qO.aB (K:=X.K)) eQ;obtain⟨aB,hV⟩:=cf.tA (s':=.h5 (putD kvs key (.int (p+q)))) (o':=.dA (putK us key (.int (p+q)))) aH ah Gd es aw a' (by simp[dN,gp]) rfl λaB=>⟨b,_,rfl,dH,eO.put (eO.aB aB I') (by simp[Rep])⟩;refine⟨_,?_,bV σ cX _ (qO.aB.trans aB) hV⟩;rw[si f5 aP];exact qd.k (qO.same.get ae) (by rw[k0,<- eQ.length];exact ar)
 next=>cases e
end
end
section
variable [c5]
noncomputable def sD(K:bo)(F:ak->Prop)(H:aE)(σ:bw.St):List qb->List aO->List V->Prop
| [],[],[]=>True
|.v _::as,s::ss,v::vs=>(∃t,s=.ab t/\Rep K F H t v)/\sD K F H σ as ss vs
|.o i::as,s::ss,v::vs=>σ[i]?=some (some v)/\sD K F H σ as ss vs
|_,_,_=>False
noncomputable def adh(K:bo)(as:List qb):fU:=λσ H Q=>∃aF E O F ag ss,cJ K aF E O F H ag σ/\ru as ag=some ss/\∀vs aM aj,Ext F H aM aj->sD K aM aj σ as ss vs->Q vs aj
abbrev zS(X:bh)(es:List bc)(as:List qb):Prop:=hZ X es (adh X.K as)
def Ta{X:bh}{e:List bc}{t t':fU}(h:hZ X e t)(k:∀σ H Q,t' σ H Q->t σ H Q):hZ X e t':=zC h k
section
variable {X:bh}{e:bc}{es:List bc}{as:List qb}{f:bI}{i:Nat}
def SS:zS X [] []:=Ta kZ λσ H Q ⟨aF,E,O,F,ag,ss,r,e,k⟩=>by
 cases e
 exact k [] F H (Ext.refl r.cn) trivial
def Qw{ag:Ev}{s:aO}(h:IM i ag=some s):∃m c az,s=.obj m c az/\ag[i]?=some (some s):=by
 unfold IM at h;split at h
 next m c az e=>
  cases h
  exact⟨m,c,az,rfl,e⟩
 next=>cases h
def Mo(ah:bW X e (gN i))(ao:zS X es as)(aw:bA (e::es) X.env=(false,eval e X.env)::bA es X.env:=by rfl):zS X (e::es) (.o i::as):=Ta (ix ah ao aw) λσ H Q ⟨aF,E,O,F,ag,ss,r,e,k⟩=>by
 simp only[ru,cb,dP] at e;obtain⟨s,e6,us,eX,rfl⟩:=e;obtain⟨m,c,az,_,aw⟩:=Qw e6;obtain⟨v,ah,_⟩:=r.val i s aw;exact⟨v,ah,aF,E,O,F,ag,us,r,eX,λvs cX bb bx ba=>k _ cX bb bx ⟨ah,ba⟩⟩
end
noncomputable def DJ(K:bo)(F:ak->Prop)(H:aE)(ss:List aO)(vs:List V):Prop:=Paired (λs v=>s.iU=false/\eH K ⟨H,0⟩ (λa=>H a=none) F H s v) ss vs
noncomputable def Jk(K:bo)(n:Nat)(d:List aO->Option T):kI:=λvs H Q _=>vs.length=n/\∃F ss t,gS F H/\DJ K F H ss vs/\d ss=some t/\∀v aM aj,Ext F H aM aj->Rep K aM aj t v->Q v aj
section
variable {K:bo}{F aM aF O:ak->Prop}{H aj:aE}{E akX:gu}
theorem Paired.get{α β:Type}{R:α->β->Prop}:∀{xs:List α} {ys:List β} {i:Nat} {x:α},Paired R xs ys->xs[i]?=some x->∃y,ys[i]?=some y/\R x y
|_,_,i,x,.nil,e=>by simp at e
|_,_,0,x,.cons r _,e=>by
  simp at e;subst e;exact⟨_,rfl,r⟩
|_,_,i+1,x,.cons _ t,e=>by
  obtain⟨y,ah,ao⟩:=Paired.get (i:=i) (x:=x) t (by simpa using e);exact⟨y,by simpa using ah,ao⟩
def y2{ss:List aO}{n i:Nat}{s:aO}(h:(j7 n ss)[i]?=some (some s)):ss[i]?=some s:=by
 unfold j7 at h;by_cases aU:i<ss.length
 ·rw[vm (by simpa using aU),hK,fO aU] at h;rw[fO aU];simpa using h
 ·rw[vl (by simpa using aU),List.getElem?_replicate] at h;split at h <;> cases h
def Qp{vs:List V}{n i:Nat}{v:V}(h:vs[i]?=some v):(vs.map some++dZ n none)[i]?=some (some v):=by
 have aU:=(fe.mp h).1;rw[vm (by simpa using aU),hK,h];rfl
def LX{m:hA}{c:Nat}{az:List aO}{v:V}(r:eH K E O F H (.obj m c az) v)(akX:gu)(nZ:ak->Prop)(he:∀b∈dS H (.obj m c az) v,akX.h b≠none):eH K akX nZ F H (.obj .fM c az) v:=by
 have cE:=r;obtain⟨a,vs,rfl,ax,hf,aW,fB,hk⟩:=r;rw[jj ax] at he;exact⟨a,vs,rfl,ax,hf,aW,λb ae=>⟨(fB b ae).1,he b ae⟩,λz=>by cases z⟩
def afe{ss:List aO}{vs:List V}(cn:gS F H)(q:DJ K F H ss vs)(n:Nat):cJ K F ⟨H,0⟩ (λa=>H a=none) F H (j7 n ss) (vs.map some++dZ (n - vs.length) none):=by
 have ay:ss.length=vs.length:=Paired.length q;refine⟨by simp[j7,ay],λi s e=>?_,λi j s u v w kO aR a7 dD=>?_,Ext.refl cn,λ_ h=>h,λ_ h=>h⟩
 ·obtain⟨v,a',_,b8⟩:=Paired.get q (y2 e);exact⟨v,Qp a',b8⟩
 ·obtain⟨_,_,z,_⟩:=Paired.get q (y2 aR);rw[z] at dD;cases dD
theorem LW{ag:Ev}{σ:bw.St}(r:cJ K aF E O F H ag σ):∀{as:List qb} {ss:List aO} {vs:List V},ru as ag=some ss->sD K F H σ as ss vs->DJ K F H (ss.map Jc) vs
| [],ss,vs,e,h=>by
  cases e
  cases vs with
  |nil=>exact .nil
  |cons v vs=>exact h.elim
|.v f::as,ss,vs,e,h=>by
  simp only[ru,cb,dP] at e;obtain⟨t,bB,us,eX,rfl⟩:=e;cases vs with
  |nil=>exact h.elim
  |cons v vs=>
   obtain⟨⟨t',b1,e1⟩,h⟩:=h;cases b1;exact .cons ⟨rfl,e1⟩ (LW r eX h)
|.o i::as,ss,vs,e,h=>by
  simp only[ru,cb,dP] at e;obtain⟨s,es,us,eX,rfl⟩:=e;cases vs with
  |nil=>exact h.elim
  |cons v vs=>
   obtain⟨a',h⟩:=h;obtain⟨m,c,az,rfl,aw⟩:=Qw es;obtain⟨ks,tn,rs⟩:=r.val i _ aw;rw[a'] at tn;cases tn;refine .cons ⟨rfl,LX rs _ _ λb ae=>?_⟩ (LW r eX h);obtain⟨o,e,_⟩:=rs.at ae;show H b≠none;rw[e];exact λz=>by cases z
theorem ald:∀{ts:List T} {vs:List V},bj K F H ts vs->DJ K F H (ts.map .ab) vs
| [],vs,h=>by
  simp only[bj] at h;subst h;exact .nil
|t::ts,vs,h=>by
  simp only[bj] at h;obtain⟨v,z,rfl,q,h⟩:=h;exact .cons ⟨rfl,q⟩ (ald h)
end
section
variable {P:cQ}{w:cB}{K:bo}{mg:Str->Option aq}{base:b5}
def RX{x qual:Str}{st:Stmt}{f:ak}{fd:gq}{N ps:List Str}{k:Nat}{b:bz}(F:cY K x qual st f fd)(S:dg N ps (cp st))
  (ae:∀(c0:aq) (A:di) (outer:List Env) (s:aQ) (H:aE) (E:gU),d8 k (A.deeper (envOfC qual (cp st) s.heap.objs.size f c0)) ->
   iF (jU fH P w K mg base N qual (cp st) f c0 A outer s H E).kR (jH st) b):
  fI P w K mg base fH (k+1) f fd ps (Jk K ps.length (jc b N.length)):=by
 refine F.ok S (λvs H Q E h=>h.1) λc0 A outer s H vs Q E av h=>⟨_,ae c0 A outer s H E av,?_⟩
 obtain⟨ay,F,ss,t,cn,q,e,nx⟩:=h;simp only[jc,cb] at e;obtain⟨o,eo,e⟩:=e;refine⟨F,⟨H,0⟩,λa=>H a=none,F,_,o,?_,eo,?_⟩
 ·unfold bw.start;exact afe cn q N.length
 ·cases o with
  |e1 t'=>
   cases e
   exact λv aM aj x q=>nx v aM aj x q
  |bY ε'=>
   cases e
   exact λcq aM aj _ r=>nx _ aM aj r.ent (by simp[Rep])
  |iK _=>cases e
  |fj _=>cases e
  |fN _ _=>cases e
  |l6 _=>cases e
structure sF(P:cQ)(w:cB)(K:bo)(mg:Str->Option aq)(base:b5)(x:Str)(k n:Nat)(d:List aO->Option T):Prop where
 ex:∃cG fd ps,fI P w K mg base fH k cG fd ps (Jk K n d)/\mg x=some (.ref cG)/\nE K (.ref cG)=true/\Binds K fd ps []
theorem sF.mono{x:Str}{k n j:Nat}{d:List aO->Option T}(c:sF P w K mg base x j n d)(h:j<=k):sF P w K mg base x k n d:=by
 obtain⟨cG,fd,ps,F,r⟩:=c.ex;exact⟨cG,fd,ps,F.mono h,r⟩
def ajz{x:Str}{st:Stmt}{f:ak}{fd:gq}{N ps:List Str}{k:Nat}{b:bz}(F:cY K x x st f fd)(S:dg N ps (cp st))(bd:Binds K fd ps [])(m:mg x=some (.ref f))
  (ae:∀(c0:aq) (A:di) (outer:List Env) (s:aQ) (H:aE) (E:gU),d8 k (A.deeper (envOfC x (cp st) s.heap.objs.size f c0)) ->
   iF (jU fH P w K mg base N x (cp st) f c0 A outer s H E).kR (jH st) b):sF P w K mg base x (k+1) ps.length (jc b N.length):=⟨f,fd,ps,RX F S ae,m,F.aB,bd⟩
structure ke(P:cQ)(w:cB)(K:bo)(mg:Str->Option aq)(base:b5)(C:ak)(m:Str)(k n:Nat)(d:List aO->Option T):Prop where
 ex:∃cG fd ps,fI P w K mg base fH k cG fd ps (Jk K n d)/\Meth K C m cG/\Binds K fd ps []
theorem ke.mono{C:ak}{m:Str}{k n j:Nat}{d:List aO->Option T}(c:ke P w K mg base C m j n d)(h:j<=k):ke P w K mg base C m k n d:=by
 obtain⟨cG,fd,ps,F,r⟩:=c.ex;exact⟨cG,fd,ps,F.mono h,r⟩
def zz{C:ak}{m qual:Str}{st:Stmt}{f:ak}{fd:gq}{N ps:List Str}{k:Nat}{b:bz}(F:cY K m qual st f fd)(S:dg N ps (cp st))(bd:Binds K fd ps [])(lh:Meth K C m f)
  (ae:∀(c0:aq) (A:di) (outer:List Env) (s:aQ) (H:aE) (E:gU),d8 k (A.deeper (envOfC qual (cp st) s.heap.objs.size f c0)) ->
   iF (jU fH P w K mg base N qual (cp st) f c0 A outer s H E).kR (jH st) b):ke P w K mg base C m (k+1) ps.length (jc b N.length):=⟨f,fd,ps,RX F S ae,lh,bd⟩
end
theorem uu:∀{eP:List bI} {ag:Ev} {us:List T},args eP ag=some us->us.length=eP.length
| [],ag,us,e=>by
  cases e
  rfl
|g::eP,ag,us,e=>by
  simp only[args,cb,dP] at e;obtain⟨t,_,vs,ev,rfl⟩:=e;simp[uu ev]
theorem sD.len{K:bo}{F:ak->Prop}{H:aE}{σ:bw.St}:∀{as:List qb} {ss:List aO} {vs:List V},sD K F H σ as ss vs->vs.length=as.length
| [],[],[],_=>rfl
|.v _::as,s::ss,v::vs,h=>by simp[sD.len h.2]
|.o i::as,s::ss,v::vs,h=>by simp[sD.len h.2]
| [],[],_::_,h=>h.elim
| [],_::_,_,h=>h.elim
|.v _::_,[],_,h=>h.elim
|.v _::_,_::_,[],h=>h.elim
|.o _::_,[],_,h=>h.elim
|.o _::_,_::_,[],h=>h.elim
section
variable {X:bh}{k n c C i:Nat}{ns:List Str}{d:List aO->Option T}{x m:Str}{p pos apos:Pos}{o e:bc}{es:List bc}{as:List qb}{az:List bI}
def RE(ka:sF X.prog X.w X.K X.mg X.base x k n d)(av:d8 k X.A)(ax:zS X (e::es) as)(bt:fh X x:=by rfl)(a8:as.length=n:=by rfl)(iS:(x==("__debug__":Str))=false:=by decide)
  (he:bA (e::es) X.env=(false,eval e X.env)::bA es X.env:=by rfl) (hpl:(dQ pos (bA es X.env)).any (·.1)=false:=by rfl):cg X (.Call (.Name x p) (e::es) [] pos) (wH d as):=by
 obtain⟨cG,fd,ps,F,hm,aB,b⟩:=ka.ex;refine ec (zm F av bt hm aB b .nil p8 ax iS he hpl) λσ H Q ⟨aF,E,O,F,ag,t,r,e,k⟩=>?_;simp only[wH,cb] at e;obtain⟨ss,es,fa⟩:=e;refine⟨aF,E,O,F,ag,ss,r,es,λvs aZ H1 aL q=>⟨?_,aZ,ss.map Jc,t,aL.cn,?_,fa,λv aM aj bx ba=>k v aM aj (aL.trans bx) ba⟩⟩
 ·rw[mW,q.len,a8]
 ·rw[mW];exact LW (r.ext aL) es q
def zk(iV:hy X.K c C ns)(ka:ke X.prog X.w X.K X.mg X.base C m k n d)(av:d8 k X.A)(a8:bW X o (gN i))(ax:lP X (e::es) az){pl:Sem Bool}(hm:m∉ns:=by decide +kernel)(ay:az.length+1=n:=by rfl)
  (mJ:bA (e::es) X.env=(false,eval e X.env)::bA es X.env:=by rfl) (hpl:(dQ pos (bA es X.env)).any (·.1)=false:=by rfl)
  (aX:eval (.Call (.Attribute o m apos) (e::es) [] pos) X.env=(do
   let dX <- eval o X.env
   standAt apos.atName
   let (f,first) <- holding [dX] (getMethod dX m pl)
   callWith pos f first (dQ pos (bA (e::es) X.env)) (mc pos (mb [] X.env))):=by rfl):cg X (.Call (.Attribute o m apos) (e::es) [] pos) (lN c d i az):=by
 obtain⟨cG,fd,ps,F,lh,b⟩:=ka.ex;refine ec (RI a8 iV.cls lh F av b .nil p8 ax mJ hpl aX) λσ H Q ⟨aF,E,O,F,ag,t,r,e,k⟩=>?_;simp only[lN,cb] at e;obtain⟨⟨gA,os⟩,aH,ts,bB,fa⟩:=e;obtain⟨a,vs,bF,ah,hx,_⟩:=q' iV r aH;refine⟨_,ah,a,bF,_,rfl,hx,yH hm,aF,E,O,F,ag,ts,r,bB,λws aZ H1 aL q=>⟨?_,aZ,_,t,aL.cn,?_,fa,λv aM aj bx ba=>k v aM aj (aL.trans bx) ba⟩⟩
 ·rw[mW,g5,<- q.length,uu bB,ay]
 ·rw[mW];have bg:=r.ext aL;obtain⟨ks,eT,rs⟩:=bg.val i _ (kz aH);rw[ah] at eT;cases eT;refine .cons ⟨rfl,LX rs _ _ λb ae=>?_⟩ (ald q);obtain⟨o,e,_⟩:=rs.at ae;show H1 b≠none;rw[e];exact λz=>by cases z
end
end
section
variable [c5]
open Classical in
noncomputable def ij(H:aE)(P:List ak)(a:ak):gu:=⟨λb=>if b∈P then none else H b,a⟩
section
variable {K:bo}{F aM aF O:ak->Prop}{H aj:aE}{E:gu}{P:List ak}{a b:ak}{o:eW}{ag:Ev}{σ:bw.St}{c i:Nat}{m:hA}{az il:List aO}
def C9(h:b∈P):(ij H P a).h b=none:=if_pos h
def ug(h:b∉P):(ij H P a).h b=H b:=if_neg h
def CK(h:(ij H P a).h b=none):b∈P\/H b=none:=by
 by_cases z:b∈P
 ·exact .inl z
 ·rw[ug z] at h;exact .inr h
def afL(h:(ij H P a).h b=some o):b∉P/\H b=some o:=by
 by_cases z:b∈P
 ·rw[C9 z] at h;cases h
 ·exact⟨z,by rw[ug z] at h;exact h⟩
def ahn(d:gS F H):Ext F (ij H P a).h F H:=⟨λ_ _ q=>.inl (afL q).2,λ_ h=>h,λ_ h=>.inl h,d⟩
def RN{v:V}(r:eH K E O F H (.obj m c az) (.ref a)):eH K (ij H (dS H (.obj m c az) (.ref a)) a) (λb=>(ij H (dS H (.obj m c az) (.ref a)) a).h b=none) F H (.obj .cM c az) (.ref a):=by
 obtain⟨lS,vs,e,ax,hf,aW,fB,hk⟩:=r;cases e;rw[jj ax];exact⟨a,vs,rfl,ax,hf,aW,λb ae=>⟨(fB b ae).1,C9 ae⟩,λ_=>rfl⟩
def cJ.back(r:cJ K aF E O F H ag σ)(e:ag[i]?=some (some (.obj m c az)))(hm:m≠.fM)(ah:σ[i]?=some (some (.ref a)))(hh:P=dS H (.obj m c az) (.ref a))(x:Ext F (ij H P a).h aM aj)
  (rs:eH K (ij H P a) (λb=>(ij H P a).h b=none) aM aj (.obj .cM c il) (.ref a)):eJ K F H aM aj/\cJ K aF E O aM aj (ag.set i (some (.obj m c il))) σ:=by
 obtain⟨v,eT,ko⟩:=r.val i _ e;rw[ah] at eT;cases eT;have rG:(aO.obj m c az).iU=true:=zy hm;have tr:∀b∈P,(∃o,H b=some o/\nY o)/\¬F b/\O b:=λb ae=>by
  rw[hh] at ae;exact⟨ko.at ae,(ko.held ae).1,(ko.held ae).2.1 rG⟩
 have kq:∀b o,b∉P->H b=some o->(∀ps,o≠.lA ps)->aj b=some o:=λb o ae e n=>x.same.get (by rw[ug ae];exact e) n;have aB:eJ K F H aM aj:=by
  refine⟨λb xs q=>?_,λb xs f q=>⟨x.sub b f,?_⟩⟩
  ·rcases q with q|q
   ·refine .inl ?_
    have nb:b∉P:=λz=>by
     obtain⟨⟨o,eo,aH⟩,_⟩:=tr b z;rcases q with q|⟨_,q⟩ <;> (rw[eo] at q;cases q;exact aH.cases (λ_ z=>by cases z) (λ_ z=>by cases z) (λ_ _ _ z=>by cases z))
    rcases q with q|⟨u,q⟩
    ·exact .inl (kq b _ nb q λ_ z=>by cases z)
    ·exact .inr ⟨u,kq b _ nb q λ_ z=>by cases z⟩
   ·exact .inr q
  ·have nb:b∉P:=λz=>(tr b z).2.1 f;rcases q with q|⟨u,q⟩
   ·exact .inl (kq b _ nb q λ_ z=>by cases z)
   ·exact .inr ⟨u,kq b _ nb q λ_ z=>by cases z⟩
 have Om:∀b,aM b->F b\/b∈P\/H b=none:=λb f=>by
  rcases x.new b f with z|z
  ·exact .inl z
  ·exact .inr (CK z)
 have keep:∀(j:Nat) (u:aO) (w:V),i≠j->ag[j]?=some (some u)->σ[j]?=some (some w)->eH K E O F H u w->(∀b∈dS H u w,b∉P)/\eH K E O aM aj u w/\dS aj u w=dS H u w:=by
  intro j u w kO akW bD ea;have Iv:∀b∈dS H u w,b∉P:=λb ae z=>by
   cases rS:u.iU with
   |true=>exact r.ne i j _ u _ w kO e akW rG rS ah bD b (hh▸z) ae
   |false=>exact (ea.held ae).2.2 rS (r.o0 b (tr b z).2.2)
  refine⟨Iv,ea.keep aB (λb ae=>?_) (λb ae f=>?_) λ_ _ o=>o⟩
  ·obtain⟨o,eo,aH⟩:=ea.at ae;rw[eo];exact kq b o (Iv b ae) eo λps z=>by subst z;exact aH.cases (λ_ z=>by cases z) (λ_ z=>by cases z) (λ_ _ _ z=>by cases z)
  ·rcases Om b f with z|z|z
   ·exact z
   ·exact absurd z (Iv b ae)
   ·obtain⟨o,eo,_⟩:=ea.at ae;rw[z] at eo;cases eo
 obtain⟨lS,vs,dR,ax,hf,aW,fB,_⟩:=rs;cases dR;have lZ:∀b∈a::cZ il vs,¬aM b/\(b∈P\/H b=none):=λb ae=>by
  obtain⟨n,q⟩:=fB b ae;exact⟨n,CK q⟩
 have akF:(aO.obj m c il).iU=true:=zy hm;have ZY:m=.cM->a=E.hk:=by
  obtain⟨_,_,eC,_,_,_,_,hk⟩:=ko;cases eC;exact hk
 have abf:∀b,¬aM b/\O b->ro E O aM m b:=λb h=>by
  cases m with
  |fM=>exact absurd rfl hm
  |own=>exact h
  |cM=>exact h
 have x9:eH K E O aM aj (.obj m c il) (.ref a):=⟨a,vs,rfl,ax,hf,aW,λb ae=>abf b ⟨(lZ b ae).1,by
  rcases (lZ b ae).2 with z|z
  ·exact (tr b z).2.2
  ·exact r.fr b z⟩,ZY⟩
 have gH:dS aj (.obj m c il) (.ref a)=a::cZ il vs:=jj ax;have apart:∀(j:Nat) (u:aO) (w:V),i≠j->ag[j]?=some (some u)->σ[j]?=some (some w)->eH K E O F H u w->∀b∈dS aj (.obj m c il) (.ref a),b∉dS H u w:=λj u w kO akW bD ea b ae iR=>by
  rw[gH] at ae;rcases (lZ b ae).2 with z|z
  ·exact (keep j u w kO akW bD ea).1 b iR z
  ·obtain⟨o,eo,_⟩:=ea.at iR;rw[z] at eo;cases eo
 refine⟨aB,⟨by simp[r.len],λj u b1=>?_,λj k u w fD mS pj aR a7 dD fu aP ba=>?_,⟨λb o q=>?_,λb f=>x.sub b (r.ent.sub b f),λb f=>?_,x.cn⟩,r.o0,λb b1=>?_⟩⟩
 ·rcases get_set b1 with ⟨rfl,qq,ay⟩|⟨ne,qq⟩
  ·cases qq
   exact⟨_,ah,x9⟩
  ·obtain⟨w,ao,ea⟩:=r.val j u qq;exact⟨w,ao,(keep j u w ne qq ao ea).2.1⟩
 ·rcases get_set aR with ⟨rfl,b1,ay⟩|⟨ne1,kL⟩
  ·rcases get_set a7 with ⟨rfl,_,_⟩|⟨ne2,h6⟩
   ·exact absurd rfl pj
   ·cases b1
    rw[ah] at aP;cases aP;obtain⟨gc,ao,ea⟩:=r.val k w h6;rw[ba] at ao;cases ao;rw[(keep k w mS ne2 h6 ba ea).2.2];exact apart k w mS ne2 h6 ba ea
  ·obtain⟨v1,ao,bg⟩:=r.val j u kL;rw[aP] at ao;cases ao;rw[(keep j u fD ne1 kL aP bg).2.2];rcases get_set a7 with ⟨rfl,b1,ay⟩|⟨ne2,h6⟩
   ·cases b1
    rw[ah] at ba;cases ba;intro b ae iR;exact apart j u fD ne1 kL aP bg b iR ae
   ·obtain⟨gc,bG,cf⟩:=r.val k w h6;rw[ba] at bG;cases bG;rw[(keep k w mS ne2 h6 ba cf).2.2];exact r.ne j k u w fD mS pj kL h6 dD fu aP ba
 ·have nb:b∉P:=λz=>by
   rw[r.o0 b (tr b z).2.2] at q;cases q
  rcases r.ent.same b o q with z|⟨ps,x6,aR,z⟩
  ·exact x.same b o (by rw[ug nb];exact z)
  ·rcases x.same b _ (by rw[ug nb];exact z) with hp|⟨_,x7,_,hp⟩
   ·exact .inr ⟨ps,x6,aR,hp⟩
   ·exact .inr ⟨ps,x7,aR,hp⟩
 ·rcases Om b f with z|z|z
  ·exact r.ent.new b z
  ·exact .inr (r.o0 b (tr b z).2.2)
  ·exact .inr (r.o0 b (r.fr b z))
 ·rcases CK (x.same.none b1) with z|z
  ·exact (tr b z).2.2
  ·exact r.fr b z
end
noncomputable def qI(K:bo)(n c p:Nat)(d:List aO->Option (T×List aO)):kI:=λvs H Q _=>vs.length=n/\∃(F:ak->Prop) (ss:List aO) (a:ak) (P:List ak) (az:List aO) (r:T×List aO),gS F H/\vs[p]?=some (.ref a)/\ss[p]?=some (.obj .cM c az) /\
 Paired (λs v=>eH K (ij H P a) (λb=>(ij H P a).h b=none) F H s v) ss vs/\(∀q s,q≠p->ss[q]?=some s->s.iU=false)/\d ss=some r /\
 ∀v aM aj,Ext F (ij H P a).h aM aj->Rep K aM aj r.1 v->eH K (ij H P a) (λb=>(ij H P a).h b=none) aM aj (.obj .cM c r.2) (.ref a)->Q v aj
section
variable {P:cQ}{w:cB}{K:bo}{mg:Str->Option aq}{base:b5}
def afj{c p:Nat}{ag:Ev}{az:List aO}(h:m7 c p ag=some az):ag[p]?=some (some (.obj .cM c az)):=by
 unfold m7 at h;split at h
 next gw il e=>
  split at h
  next aG=>
   cases h
   rw[e,aG]
  next=>cases h
 next=>cases h
def Lp{x qual:Str}{st:Stmt}{f:ak}{fd:gq}{N ps:List Str}{k c p:Nat}{b:bz}(F:cY K x qual st f fd)(S:dg N ps (cp st))
  (ae:∀(c0:aq) (A:di) (outer:List Env) (s:aQ) (H:aE) (E:gU),d8 k (A.deeper (envOfC qual (cp st) s.heap.objs.size f c0)) ->
   iF (jU fH P w K mg base N qual (cp st) f c0 A outer s H E).kR (jH st) b):
  fI P w K mg base fH (k+1) f fd ps (qI K ps.length c p (runM c p b N.length)):=by
 refine F.ok S (λvs H Q E h=>h.1) λc0 A outer s H vs Q E av h=>⟨_,ae c0 A outer s H E av,?_⟩
 obtain⟨ay,F,ss,a,sM,az,r,cn,a',aw,q,aH,e,nx⟩:=h;simp only[runM,cb] at e;obtain⟨o,eo,e⟩:=e;have hlen:ss.length=vs.length:=Paired.length q;refine⟨F,ij H sM a,λb=>(ij H sM a).h b=none,F,_,o,?_,eo,?_⟩
 ·unfold bw.start;refine⟨by simp[j7,hlen],λi s e=>?_,λi j s u v w kO aR a7 dD fu=>?_,ahn cn,λ_ h=>h,λb ae=>?_⟩
  ·obtain⟨v,a',b8⟩:=Paired.get q (y2 e);exact⟨v,Qp a',b8⟩
  ·by_cases aU:i=p
   ·subst aU;rw[aH j u (Ne.symm kO) (y2 a7)] at fu;cases fu
   ·rw[aH i s aU (y2 aR)] at dD;cases dD
  ·by_cases z:b∈sM
   ·exact C9 z
   ·exact (ug z).trans ae
 ·have fin:∀{ε':Ev} {cq:bw.St} {aM:ak->Prop} {aj:aE} {il:List aO},cJ K F (ij H sM a) (λb=>(ij H sM a).h b=none) aM aj ε' cq->m7 c p ε'=some il->eH K (ij H sM a) (λb=>(ij H sM a).h b=none) aM aj (.obj .cM c il) (.ref a):=λcE f6=>by
   obtain⟨ks,_,rs⟩:=cE.val p _ (afj f6);have x9:=rs;obtain⟨lS,_,rfl,_,_,_,_,hk⟩:=rs;have:lS=a:=hk rfl;subst this;exact x9
  cases o with
  |e1 t'=>cases e
  |bY ε'=>
   simp only[dP] at e;obtain⟨il,f6,rfl⟩:=e;exact λcq aM aj _ cE=>nx _ aM aj cE.ent (by simp[Rep]) (fin cE f6)
  |iK _=>cases e
  |fj _=>cases e
  |fN t ε'=>
   simp only[dP] at e;obtain⟨il,f6,rfl⟩:=e;exact λv cq aM aj cE b8=>nx v aM aj cE.ent b8 (fin cE f6)
  |l6 _=>cases e
structure dF(P:cQ)(w:cB)(K:bo)(mg:Str->Option aq)(base:b5)(C:ak)(c:Nat)(m:Str)(k n:Nat)(d:List aO->Option (T×List aO)):Prop where
 ex:∃cG fd ps,fI P w K mg base fH k cG fd ps (qI K n c 0 d)/\Meth K C m cG/\Binds K fd ps []
theorem dF.mono{C:ak}{c:Nat}{m:Str}{k n j:Nat}{d:List aO->Option (T×List aO)}(h:dF P w K mg base C c m j n d)(bD:j<=k):dF P w K mg base C c m k n d:=by
 obtain⟨cG,fd,ps,F,r⟩:=h.ex;exact⟨cG,fd,ps,F.mono bD,r⟩
def j8{C:ak}{m qual:Str}{st:Stmt}{f:ak}{fd:gq}{N ps:List Str}{k c:Nat}{b:bz}(F:cY K m qual st f fd)(S:dg N ps (cp st))(bd:Binds K fd ps [])(lh:Meth K C m f)
  (ae:∀(c0:aq) (A:di) (outer:List Env) (s:aQ) (H:aE) (E:gU),d8 k (A.deeper (envOfC qual (cp st) s.heap.objs.size f c0)) ->
   iF (jU fH P w K mg base N qual (cp st) f c0 A outer s H E).kR (jH st) b):dF P w K mg base C c m (k+1) ps.length (runM c 0 b N.length):=⟨f,fd,ps,Lp F S ae,lh,bd⟩
structure gs(P:cQ)(w:cB)(K:bo)(mg:Str->Option aq)(base:b5)(x:Str)(c p k n:Nat)(d:List aO->Option (T×List aO)):Prop where
 ex:∃cG fd ps,fI P w K mg base fH k cG fd ps (qI K n c p d)/\mg x=some (.ref cG)/\nE K (.ref cG)=true/\Binds K fd ps []
theorem gs.mono{x:Str}{c p k n j:Nat}{d:List aO->Option (T×List aO)}(h:gs P w K mg base x c p j n d)(bD:j<=k):gs P w K mg base x c p k n d:=by
 obtain⟨cG,fd,ps,F,r⟩:=h.ex;exact⟨cG,fd,ps,F.mono bD,r⟩
def su{x:Str}{st:Stmt}{f:ak}{fd:gq}{N ps:List Str}{k c p:Nat}{b:bz}(F:cY K x x st f fd)(S:dg N ps (cp st))(bd:Binds K fd ps [])(m:mg x=some (.ref f))
  (ae:∀(c0:aq) (A:di) (outer:List Env) (s:aQ) (H:aE) (E:gU),d8 k (A.deeper (envOfC x (cp st) s.heap.objs.size f c0)) ->
   iF (jU fH P w K mg base N x (cp st) f c0 A outer s H E).kR (jH st) b):gs P w K mg base x c p (k+1) ps.length (runM c p b N.length):=⟨f,fd,ps,Lp F S ae,m,F.aB,bd⟩
end
noncomputable def tX(K:bo)(f:rj):TE:=λσ H Q=>∃aF E O F ag t ε',cJ K aF E O F H ag σ/\f ag=some (t,ε')/\∀v aM aj,eJ K F H aM aj->cJ K aF E O aM aj ε' σ->Rep K aM aj t v->Q v aj
abbrev uK(X:bh)(e:bc)(f:rj):Prop:=bW X e (tX X.K f)
section
variable {X:bh}{k n c C i:Nat}{ns:List Str}{d:List aO->Option (T×List aO)}{x m:Str}{p pos apos:Pos}{o e:bc}{es:List bc}{az eP:List bI}{Ay:rj}
theorem Dl{K:bo}{E:gu}{O F:ak->Prop}{H:aE}:∀{ts:List T} {vs:List V},bj K F H ts vs->Paired (λs v=>eH K E O F H s v) (ts.map .ab) vs
| [],vs,h=>by
  simp only[bj] at h;subst h;exact .nil
|t::ts,vs,h=>by
  simp only[bj] at h;obtain⟨v,z,rfl,q,h⟩:=h;exact .cons q (Dl h)
def Lo{ts:List T}{q:Nat}{s:aO}(h:(ts.map aO.ab)[q]?=some s):s.iU=false:=by
 rw[hK] at h;cases e:ts[q]? with
|none=>rw[e] at h;cases h
|some t=>rw[e] at h;cases h;rfl
def K6{σ:bw.St}{H H1:aE}{aF O F aZ:ak->Prop}{E:gu}{ag:Ev}{gA:hA}{os:List aO}{a:ak}{Q:dC}{ws:List V}{ts:List T}{r:T×List aO}(I9:cJ X.K aF E O F H ag σ)(aH:akQ c i ag=some (gA,os))(hm:gA≠.fM)(ah:σ[i]?=some (some (.ref a)))
  (aL:Ext F H aZ H1) (q:bj X.K aZ H1 ts ws) (fa:d (.obj .cM c os::ts.map .ab)=some r) (ay:ts.length+1=n)
  (bV:∀v aM aj,eJ X.K F H aM aj->cJ X.K aF E O aM aj (ag.set i (some (.obj gA c r.2))) σ->Rep X.K aM aj r.1 v->Q v aj):qI X.K n c 0 d (.ref a::ws) H1 Q uF:=by
 have bg:=I9.ext aL;obtain⟨ks,eT,rs⟩:=bg.val i _ (kz aH);rw[ah] at eT;cases eT;refine⟨by simp[<- q.length,ay],aZ,_,a,dS H1 (.obj gA c os) (.ref a),os,r,aL.cn,rfl,rfl,.cons (RN (v:=.ref a) rs) (Dl q),λj s bD aw=>?_,fa,λv aM aj bx b8 Jd=>?_⟩
 ·cases j with
  |zero=>exact absurd rfl bD
  |succ j=>exact Lo (q:=j) (by simpa using aw)
 ·obtain⟨aB,cf⟩:=bg.back (kz aH) hm ah rfl bx Jd;exact bV v aM aj (aL.aB.trans aB) cf b8
def gd(iV:hy X.K c C ns)(ka:dF X.prog X.w X.K X.mg X.base C c m k n d)(av:d8 k X.A)(a8:bW X o (gN i))(ax:lP X (e::es) az){pl:Sem Bool}(hm:m∉ns:=by decide +kernel)(ay:az.length+1=n:=by rfl)
  (mJ:bA (e::es) X.env=(false,eval e X.env)::bA es X.env:=by rfl) (hpl:(dQ pos (bA es X.env)).any (·.1)=false:=by rfl)
  (aX:eval (.Call (.Attribute o m apos) (e::es) [] pos) X.env=(do
   let dX <- eval o X.env
   standAt apos.atName
   let (f,first) <- holding [dX] (getMethod dX m pl)
   callWith pos f first (dQ pos (bA (e::es) X.env)) (mc pos (mb [] X.env))):=by rfl):uK X (.Call (.Attribute o m apos) (e::es) [] pos) (d1 c d i az):=by
 obtain⟨cG,fd,ps,F,lh,b⟩:=ka.ex;refine ec (RI a8 iV.cls lh F av b .nil p8 ax mJ hpl aX) λσ H Q ⟨aF,E,O,F,ag,t,ε',r,e,bV⟩=>?_;simp only[d1,cb] at e;obtain⟨⟨gA,os⟩,aH,e⟩:=e;split at e
 next=>cases e
 next ti=>
  simp only[cb,dP] at e;obtain⟨ts,bB,cE,fa,e⟩:=e;cases e;obtain⟨a,vs,bF,ah,hx,_⟩:=q' iV r aH;refine⟨_,ah,a,bF,_,rfl,hx,yH hm,aF,E,O,F,ag,ts,r,bB,λws aZ H1 aL q=>?_⟩;show qI X.K n c 0 d (V.ref a::(ws++[])) H1 Q uF;rw[mW];exact K6 r aH ti ah aL q fa (by rw[uu bB,ay]) bV
def uq(iV:hy X.K c C ns)(ka:dF X.prog X.w X.K X.mg X.base C c m k n d)(av:d8 k X.A)(a8:bW X o (gN i)){pl:Sem Bool}(hm:m∉ns:=by decide +kernel)(ay:1=n:=by rfl)
  (aX:eval (.Call (.Attribute o m apos) [] [] pos) X.env=(do
   let dX <- eval o X.env
   standAt apos.atName
   let (f,first) <- holding [dX] (getMethod dX m pl)
   callWith pos f first (dQ pos (bA [] X.env)) (mc pos (mb [] X.env))):=by rfl):uK X (.Call (.Attribute o m apos) [] [] pos) (d1 c d i []):=by
 obtain⟨cG,fd,ps,F,lh,b⟩:=ka.ex;refine ec (Q_ a8 iV.cls lh F av b .nil p8 aX) λσ H Q ⟨aF,E,O,F,ag,t,ε',r,e,bV⟩=>?_;simp only[d1,cb] at e;obtain⟨⟨gA,os⟩,aH,e⟩:=e;split at e
 next=>cases e
 next ti=>
  simp only[cb,dP] at e;obtain⟨ts,bB,cE,fa,e⟩:=e;cases e;cases bB;obtain⟨a,vs,bF,ah,hx,_⟩:=q' iV r aH;refine⟨_,ah,a,bF,_,rfl,hx,yH hm,?_⟩;exact K6 r aH ti ah (Ext.refl r.cn) bj.nil fa (by simpa using ay) bV
def dE(h:uK X e Ay)(oj:jg e none pos.line X.env=pure false:=by rfl):fS X (.Expr e pos) (ct Ay):=ht (zl h oj) λD σ H ⟨aF,E,O,F,ag,o,r,e,k⟩=>by
 simp only[ct,dP] at e;obtain⟨⟨t,ε'⟩,bB,rfl⟩:=e;exact⟨aF,E,O,F,ag,t,ε',r,bB,λv aM aj aB cE _=>k σ aM aj aB cE⟩
def Dv(h:uK X e Ay):fS X (.Return (some e) pos) (iZ Ay):=ht (zx h) λD σ H ⟨aF,E,O,F,ag,o,r,e,k⟩=>by
 simp only[iZ,dP] at e;obtain⟨⟨t,ε'⟩,bB,rfl⟩:=e;exact⟨aF,E,O,F,ag,t,ε',r,bB,λv aM aj aB cE b8=>k v σ aM aj cE b8⟩
def wd{f:bI}(h:cg X e f):fS X (.Return (some e) pos) (hn f):=ht (zx h) λD σ H ⟨aF,E,O,F,ag,o,r,e,k⟩=>by
 simp only[hn,dP] at e;obtain⟨t,bB,rfl⟩:=e;exact⟨aF,E,O,F,ag,t,r,bB,λv aM aj x b8=>k v σ aM aj (r.ext x) b8⟩
def Lj:fS X (.Return none pos) nQ:=ht ahZ λD σ H ⟨aF,E,O,F,ag,o,r,e,k⟩=>by
 cases e
 exact k .gL σ F H r (by simp[Rep])
def ahN{st:Stmt}:fS X st never:=λai s σ H D I ⟨aF,E,O,F,ag,o,r,e,k⟩=>by cases e
end
end
section
variable [c5]
noncomputable def tO(K:bo)(f:cu):TE:=λσ H Q=>∃aF E O F ag s,cJ K aF E O F H ag σ/\f ag=some s/\∀a aM aj,Ext F H aM aj->eH K E O aM aj s (.ref a)->(∀b∈dS aj s (.ref a),H b=none)->Q (.ref a) aj
abbrev uJ(X:bh)(e:bc)(f:cu):Prop:=bW X e (tO X.K f)
noncomputable def OQ(K:bo)(n:Nat)(d:List T->Option aO):kI:=λvs H Q _=>vs.length=n/\∃F ts s,gS F H/\bj K F H ts vs/\d ts=some s/\∀a aM aj,Ext F H aM aj->eH K ⟨H,0⟩ (λb=>H b=none) aM aj s (.ref a)->Q (.ref a) aj
def Qt{s t:aO}(h:x5 s=some t):∃c os,s=.obj .own c os/\t=.obj .own c os:=by
 unfold x5 at h;split at h
 ·cases h
  exact⟨_,_,rfl,rfl⟩
 ·cases h
section
variable {P:cQ}{w:cB}{K:bo}{mg:Str->Option aq}{base:b5}
def aip{x qual:Str}{st:Stmt}{f:ak}{fd:gq}{N ps:List Str}{k:Nat}{b:bz}(F:cY K x qual st f fd)(S:dg N ps (cp st))
  (ae:∀(c0:aq) (A:di) (outer:List Env) (s:aQ) (H:aE) (E:gU),d8 k (A.deeper (envOfC qual (cp st) s.heap.objs.size f c0)) ->
   iF (jU fH P w K mg base N qual (cp st) f c0 A outer s H E).kR (jH st) b):
  fI P w K mg base fH (k+1) f fd ps (OQ K ps.length (pD b N.length)):=by
 refine F.ok S (λvs H Q E h=>h.1) λc0 A outer s H vs Q E av h=>⟨_,ae c0 A outer s H E av,?_⟩
 obtain⟨ay,F,ts,t,cn,q,e,nx⟩:=h;simp only[pD,cb] at e;obtain⟨o,eo,e⟩:=e;refine⟨F,⟨H,0⟩,λa=>H a=none,F,_,o,?_,eo,?_⟩
 ·have:=P7 (N:=N) cn q (N.length - ts.length);unfold bw.start;rw[q.length] at this ⊢;exact this
 ·cases o with
  |l6 s=>
   obtain⟨c,os,rfl,rfl⟩:=Qt e;exact λa aM aj x rs=>nx a aM aj x rs
  |bY ε'=>cases e
  |iK _=>cases e
  |fj _=>cases e
  |fN _ _=>cases e
  |e1 _=>cases e
structure nV(P:cQ)(w:cB)(K:bo)(mg:Str->Option aq)(base:b5)(x:Str)(k n:Nat)(d:List T->Option aO):Prop where
 ex:∃cG fd ps,fI P w K mg base fH k cG fd ps (OQ K n d)/\mg x=some (.ref cG)/\nE K (.ref cG)=true/\Binds K fd ps []
theorem nV.mono{x:Str}{k n j:Nat}{d:List T->Option aO}(c:nV P w K mg base x j n d)(h:j<=k):nV P w K mg base x k n d:=by
 obtain⟨cG,fd,ps,F,r⟩:=c.ex;exact⟨cG,fd,ps,F.mono h,r⟩
def SR{x:Str}{st:Stmt}{f:ak}{fd:gq}{N ps:List Str}{k:Nat}{b:bz}(F:cY K x x st f fd)(S:dg N ps (cp st))(bd:Binds K fd ps [])(m:mg x=some (.ref f))
  (ae:∀(c0:aq) (A:di) (outer:List Env) (s:aQ) (H:aE) (E:gU),d8 k (A.deeper (envOfC x (cp st) s.heap.objs.size f c0)) ->
   iF (jU fH P w K mg base N x (cp st) f c0 A outer s H E).kR (jH st) b):nV P w K mg base x (k+1) ps.length (pD b N.length):=⟨f,fd,ps,aip F S ae,m,F.aB,bd⟩
structure sE(P:cQ)(w:cB)(K:bo)(mg:Str->Option aq)(base:b5)(x:Str)(C:ak)(c k n:Nat)(d:List aO->Option (T×List aO)):Prop where
 ex:∃cG fd ps,fI P w K mg base fH k cG fd ps (qI K n c 0 d)/\wN K C cG/\mg x=some (.ref C)/\Binds K fd ps []
theorem sE.mono{x:Str}{C:ak}{c k n j:Nat}{d:List aO->Option (T×List aO)}(h:sE P w K mg base x C c j n d)(bD:j<=k):sE P w K mg base x C c k n d:=by
 obtain⟨cG,fd,ps,F,r⟩:=h.ex;exact⟨cG,fd,ps,F.mono bD,r⟩
def aji{x:Str}{C:ak}{qual:Str}{st:Stmt}{f:ak}{fd:gq}{N ps:List Str}{k c:Nat}{b:bz}(F:cY K "__init__" qual st f fd)(S:dg N ps (cp st))(bd:Binds K fd ps [])(lh:wN K C f)(m:mg x=some (.ref C))
  (ae:∀(c0:aq) (A:di) (outer:List Env) (s:aQ) (H:aE) (E:gU),d8 k (A.deeper (envOfC qual (cp st) s.heap.objs.size f c0)) ->
   iF (jU fH P w K mg base N qual (cp st) f c0 A outer s H E).kR (jH st) b):sE P w K mg base x C c (k+1) ps.length (runM c 0 b N.length):=⟨f,fd,ps,Lp F S ae,lh,m,bd⟩
end
section
variable {X:bh}{k n c C i j:Nat}{ns:List Str}{x m f:Str}{p pos apos:Pos}{o e:bc}{es:List bc}{az:List bI}{u0:cu}
def RA{K:bo}{E akX:gu}{O nZ aM:ak->Prop}{aj:aE}{m:hA}{c:Nat}{os:List aO}{a:ak}(rs:eH K akX nZ aM aj (.obj m c os) (.ref a))(hm:m≠.fM)(h:∀b,nZ b->O b):eH K E O aM aj (.obj .own c os) (.ref a):=by
 obtain⟨lS,vs,e,ax,hf,aW,fB,_⟩:=rs;refine⟨lS,vs,e,ax,hf,aW,λb ae=>⟨(fB b ae).1,h b ?_⟩,λz=>by cases z⟩;have q:=(fB b ae).2;cases m with
|fM=>exact absurd rfl hm
|own=>exact q
|cM=>exact q
def aj_{d:List aO->Option (T×List aO)}(iV:hy X.K c C ns)(ka:sE X.prog X.w X.K X.mg X.base x C c k n d)(av:d8 (k+1) X.A)(ax:lP X (e::es) az)(bt:fh X x:=by rfl)(ay:az.length+1=n:=by rfl)(iS:(x==("__debug__":Str))=false:=by decide)
  (he:bA (e::es) X.env=(false,eval e X.env)::bA es X.env:=by rfl) (hpl:(dQ pos (bA es X.env)).any (·.1)=false:=by rfl):uJ X (.Call (.Name x p) (e::es) [] pos) (Bk c d az):=by
 obtain⟨cG,fd,ps,F,M,hm,b⟩:=ka.ex;refine ec (ah9 M F av bt hm b .nil p8 ax iS he hpl) λσ H Q ⟨aF,E,O,F,ag,s,r,e,bV⟩=>?_;simp only[Bk,cb] at e;obtain⟨ts,bB,cE,fa,e⟩:=e;refine⟨aF,E,O,F,ag,ts,r,bB,λws aZ H1 aL q=>λy bF bN NK lg=>?_⟩;rw[mW];have YU:upd (upd H1 bF (.own y)) y (.ins C bF []) y=some (.ins C bF []):=dH;have iQ:∀bb:aE,bb y=some (.ins C bF [])->gR bb y c []:=λbb e=>by
  refine⟨j6 _,?_⟩
  rw[iV.jT];exact⟨bF,by simpa using e⟩
 have pw:∀b,b≠y->b≠bF->upd (upd H1 bF (.own y)) y (.ins C bF []) b=H1 b:=λb ah ao=>by rw[cw ah,cw ao]
 have yp:Ext aZ H1 aZ (upd H1 bF (.own y)):=Ext.laid aL.cn NK;have YT:upd H1 bF (.own y) y=none:=by rw[cw (Ne.symm lg)];exact bN
 have JA:Ext aZ H1 aZ (upd (upd H1 bF (.own y)) y (.ins C bF [])):=yp.trans (Ext.laid yp.cn YT);have Bh:¬aZ y:=λz=>by
  obtain⟨o,e⟩:=aL.cn y z;rw[bN] at e;cases e
 split at e
 next pk=>
  cases e
  refine⟨by simp[<- q.length,uu bB,ay],aZ,.obj .cM c []::ts.map .ab,y,[y],[],cE,JA.cn,rfl,rfl,.cons ⟨y,[],rfl,iQ _ YU,rfl,by simp[cZ],λb ae=>?_,λ_=>rfl⟩ (Dl (q.ext JA)),λj s bD aw=>?_,fa,λv aM aj bx b8 rs=>?_⟩
  ·have:b=y:=by simpa [cZ] using ae
   subst this;exact⟨Bh,C9 (by simp)⟩
  ·cases j with
   |zero=>exact absurd rfl bD
   |succ j=>exact Lo (q:=j) (by simpa using aw)
  ·rw[pk] at b8;refine⟨by simpa [Rep] using b8,?_⟩;have IK:∀b,(ij (upd (upd H1 bF (.own y)) y (.ins C bF [])) [y] y).h b=none->H b=none:=λb ae=>by
    rcases CK ae with z|z
    ·have:b=y:=by simpa using z
     rw[this];exact aL.same.none bN
    ·exact aL.same.none (JA.same.none z)
   have d3:Ext F H aM aj:=by
    refine⟨λb o q=>?_,λb z=>bx.sub b (aL.sub b z),λb z=>?_,bx.cn⟩
    ·have step:∀u,H1 b=some u->(ij (upd (upd H1 bF (.own y)) y (.ins C bF [])) [y] y).h b=some u:=λu aR=>by
      have gY:b≠y:=λz=>by rw[z,bN] at aR;cases aR
      have gJ:b≠bF:=λz=>by rw[z,NK] at aR;cases aR
      rw[ug (by simpa using gY),pw b gY gJ];exact aR
     rcases aL.same b o q with z|⟨ps,x6,aR,z⟩
     ·exact bx.same b o (step _ z)
     ·rcases bx.same b _ (step _ z) with hp|⟨_,x7,_,hp⟩
      ·exact .inr ⟨ps,x6,aR,hp⟩
      ·exact .inr ⟨ps,x7,aR,hp⟩
    ·rcases bx.new b z with z|z
     ·exact aL.new b z
     ·exact .inr (IK b z)
   refine bV y aM aj d3 (RA rs (by decide) λb ae=>r.fr b (IK b ae)) λb ae=>?_
   obtain⟨lS,vs,dR,l0,hf,aW,fB,_⟩:=rs;cases dR;rw[jj l0] at ae;exact IK b (fB b ae).2
 next=>cases e
def LN{d:List T->Option aO}(ka:nV X.prog X.w X.K X.mg X.base x k n d)(hd:∀ts s,d ts=some s->∃c os,s=.obj .own c os)(av:d8 k X.A)(ax:lP X (e::es) az)(bt:fh X x:=by rfl)(ay:az.length=n:=by rfl)(iS:(x==("__debug__":Str))=false:=by decide)
  (he:bA (e::es) X.env=(false,eval e X.env)::bA es X.env:=by rfl) (hpl:(dQ pos (bA es X.env)).any (·.1)=false:=by rfl):uJ X (.Call (.Name x p) (e::es) [] pos) (oX d az):=by
 obtain⟨cG,fd,ps,F,hm,aB,b⟩:=ka.ex;refine ec (zm F av bt hm aB b .nil p8 ax iS he hpl) λσ H Q ⟨aF,E,O,F,ag,s,r,e,bV⟩=>?_;simp only[oX,cb] at e;obtain⟨ts,bB,fa⟩:=e;obtain⟨c,os,rfl⟩:=hd _ _ fa;refine⟨aF,E,O,F,ag,ts,r,bB,λws aZ H1 aL q=>⟨?_,aZ,ts,_,aL.cn,by simpa using q,fa,λa aM aj bx rs=>?_⟩⟩
 ·rw[mW,<- q.length,uu bB,ay]
 ·refine bV a aM aj (aL.trans bx) (RA rs (by decide) λb ae=>r.fr b (aL.same.none ae)) λb ae=>?_
  obtain⟨lS,vs,dR,l0,hf,aW,fB,_⟩:=rs;cases dR;rw[jj l0] at ae;exact aL.same.none (fB b ae).2
def Q8{b:bz}{n:Nat}{ts:List T}{s:aO}(h:pD b n ts=some s):∃c os,s=.obj .own c os:=by
 simp only[pD,cb] at h;obtain⟨o,eo,e⟩:=h;cases o with
|l6 s'=>
  obtain⟨c,os,_,rfl⟩:=Qt e;exact⟨c,os,rfl⟩
|_=>cases e
def LD(j:Nat){y:Str}{pos':Pos}(fc:X.N.Nodup)(h:uJ X e u0)(aU:X.N[j]?=some y:=by rfl)(hx:Loc X.env.scope y:=by first|exact Or.inl rfl|exact Or.inr rfl)
  (aw:jg e (some (.Name y pos')) pos.line X.env=pure false:=by rfl) (hf:X.fn y=true\/X.env.scope.names.lookup y=some .local:=by first|exact .inl rfl|exact .inr rfl):
  fS X (.Assign [.Name y pos'] e pos) (o8 j u0):=ht (Sp fc aU hx h aw hf) λD σ H ⟨aF,E,O,F,ag,o,r,e,k⟩=>by
 simp only[o8,dP] at e;obtain⟨s,es,rfl⟩:=e;exact⟨aF,E,O,F,ag,s,r,es,λa aM aj x rs a8=>k _ aM aj x.aB (r.acj j x rs a8)⟩
def Sh(a8:bW X e (gN i)):fS X (.Return (some e) pos) (tL i):=ht (zx a8) λD σ H ⟨aF,E,O,F,ag,o,r,e,k⟩=>by
 unfold tL at e;split at e
 next c az he=>
  cases e
  obtain⟨v,ah,rs⟩:=r.val i _ he;have x9:=rs;obtain⟨a,vs,rfl,_⟩:=rs;exact⟨_,ah,k a F H r.ent x9⟩
 next=>cases e
def PG{s:aO}{os:List aO}(h:v7 c s=some os):s=.obj .own c os:=by
 unfold v7 at h;split at h
 next gw az=>
  split at h
  next aG=>
   cases h
   rw[aG]
  next=>cases h
 next=>cases h
def SF{K:bo}{E:gu}{O F:ak->Prop}{H:aE}{os:List aO}{a:ak}(iV:hy K c C ns)(rs:eH K E O F H (.obj .own c os) (.ref a)):∃bF vs,H a=some (.ins C bF (ns.zip vs))/\gR H a c vs/\fT K F H os vs:=by
 obtain⟨lS,vs,dR,ax,hf,_⟩:=rs;cases dR;obtain⟨ay,hx⟩:=id ax;rw[iV.jT] at hx;obtain⟨bF,hx⟩:=hx;rw[iV.eB] at hx;exact⟨bF,vs,hx,ax,hf⟩
def aj0{d:List aO->Option T}(iV:hy X.K c C ns)(ka:ke X.prog X.w X.K X.mg X.base C m k n d)(av:d8 k X.A)(aH:uJ X o u0){pl:Sem Bool}(hm:m∉ns:=by decide +kernel)(ay:1=n:=by rfl)
  (aX:eval (.Call (.Attribute o m apos) [] [] pos) X.env=(do
   let dX <- eval o X.env
   standAt apos.atName
   let (f,first) <- holding [dX] (getMethod dX m pl)
   callWith pos f first (dQ pos (bA [] X.env)) (mc pos (mb [] X.env))):=by rfl):cg X (.Call (.Attribute o m apos) [] [] pos) (x3 c d u0 []):=by
 obtain⟨cG,fd,ps,F,lh,b⟩:=ka.ex;refine ec (Q_ aH iV.cls lh F av b .nil p8 aX) λσ H Q ⟨aF,E,O,F,ag,t,r,e,k⟩=>?_;simp only[x3,cb] at e;obtain⟨s,es,os,eo,ts,bB,fa⟩:=e;cases bB;have:=PG eo;subst this;refine⟨aF,E,O,F,ag,_,r,es,λa aZ H1 aL rs a8=>?_⟩;obtain⟨bF,vs,hx,ax,hf⟩:=SF iV rs;refine⟨a,bF,_,rfl,hx,yH hm,⟨by simp[ay],aZ,_,t,aL.cn,.cons ⟨rfl,LX rs _ _ λb ae=>?_⟩ .nil,fa,λv aM aj bx ba=>k v aM aj (aL.trans bx) ba⟩⟩;obtain⟨o,e,_⟩:=rs.at ae;show H1 b≠none;rw[e];exact λz=>by cases z
def agg(iV:hy X.K c C ns)(aH:uJ X o u0)(bD:ns[j]?=some f:=by rfl)(ae:jf o f X.env (eval o X.env)=eval o X.env:=by rfl):cg X (.Attribute o f pos) (zr c j u0):=
 ec (q_ aH ae) λσ H Q ⟨aF,E,O,F,ag,t,r,e,k⟩=>by
 simp only[zr,cb] at e;obtain⟨s,es,os,eo,e⟩:=e;have:=PG eo;subst this;split at e
 next ts aw=>
  cases e
  refine⟨aF,E,O,F,ag,_,r,es,λa aZ H1 aL rs a8=>?_⟩
  obtain⟨bF,vs,hx,ax,hf⟩:=SF iV rs;obtain⟨v,a',b,us,rfl,ae,eQ⟩:=hf.get aw;have xm:H b=none:=a8 b (by rw[jj ax];exact dT _ (mm aw a' (by simp[dN,gp])));refine⟨a,C,bF,_,_,rfl,hx,iV.cls,mq iV bD,Kl iV.aW bD a',?_⟩;have y:Ext F H (λd=>aZ d\/d=b) H1:=⟨aL.same,λd z=>.inl (aL.sub d z),λd z=>by
   rcases z with z|rfl
   ·exact aL.new d z
   ·exact .inr xm,⟨λd z=>by
   rcases z with z|rfl
   ·exact aL.cn d z
   ·exact⟨_,ae⟩,aL.cn.akT⟩⟩
  refine k _ _ H1 y ?_
  simp only[Rep];exact⟨b,us,rfl,.inr rfl,.inl ae,eQ.keep (λ_ _ z=>z) λ_ _ z w=>⟨.inl z,w⟩⟩
 next=>cases e
def aj3{fj a b:bc}{gx:fg}{g h:bI}(aG:lR X fj gx)(ax:cg X a g)(ae:cg X b h):cg X (.IfExp fj a b pos) (nv gx g h):=ec (aha aG ax ae) λσ H Q ⟨aF,E,O,F,ag,t,r,e,k⟩=>by
 simp only[nv,cb] at e;obtain⟨v,ev,e⟩:=e;refine⟨aF,E,O,F,ag,v,r,ev,λaZ H1 aL=>?_⟩;cases v with
|true=>exact xK ⟨aF,E,O,aZ,ag,t,r.ext aL,by simpa using e,λv aM aj bx q=>k v aM aj (aL.trans bx) q⟩
|false=>exact xJ ⟨aF,E,O,aZ,ag,t,r.ext aL,by simpa using e,λv aM aj bx q=>k v aM aj (aL.trans bx) q⟩
noncomputable def i5(xs:List Str):List T:=xs.map .str
def I4{xs:List Str}{a:ak}(hm:X.mg x=some (.ref a))(aI:∃(o:Obj) (its:Array aq) (n:Nat),X.K.lookup a=some o/\o.cls=.type "tuple"/\o.data=.seq its n/\its.size<=cF/\Vals (xs.map V.str) its.toList)(bt:fh X x:=by rfl)(hd:(x==("__debug__":Str))=false:=by decide):cg X (.Name x pos) (aa (.tuple (i5 xs))):=
 wA (v:=.ref a) (RJ (v:=.ref a) bt hm rfl hd) λF H=>by
  simp only[Rep];refine⟨a,xs.map V.str,rfl,.inr aI,?_⟩;unfold i5;clear hm aI bt hd
  induction xs with
  |nil=>exact bj.nil
  |cons y ys b7=>exact bj.cons (by simp[Rep]) b7
end
end
section
variable [c5]
open AutoSeq1 (wpAny_loadPart')
section
variable {X:bh}{a e o:bc}{f g:bI}{p pos apos:Pos}
def RC(hm:X.mg "list"=none)(ax:ez X a f)(bt:fh X "list":=by rfl)(he:bA [a] X.env=(false,eval a X.env)::bA [] X.env:=by rfl)(hpl:(dQ pos (bA [] X.env)).any (·.1)=false:=by rfl):
  o4 X (.Call (.Name "list" p) [a] [] pos) (fo wm f):=ec (Kw ae7 bt hm (by decide +kernel) (ix ax kZ he) (he:=he) (hpl:=hpl)) λσ H Q ⟨aF,E,O,F,ag,ts,r,e,k⟩=>by
 simp only[fo,cb] at e;obtain⟨t,bB,e⟩:=e;refine⟨aF,E,O,F,ag,t,r,bB,λv aZ H1 aL aP=>?_⟩;have fin:∀(ws:List V),bj X.K aZ H1 ts ws->∀l,H1 l=none->Q (.ref l) (upd H1 l (.lst ws)):=λws av l ay=>by
  have bx:=Ext.laid (o:=.lst ws) aL.cn ay;refine k l ws aZ _ (aL.trans bx) (aL.same.none ay) (λz=>?_) dH (av.ext bx);obtain⟨o,e⟩:=aL.cn l z;rw[ay] at e;cases e
 unfold wm at e;split at e
 ·cases e
  obtain⟨oq,ws,rfl,ay,av⟩:=aP.tup;exact⟨oq,ws,rfl,.inr ay,fin ws av⟩
 ·cases e
  obtain⟨oq,ws,rfl,ay,av⟩:=aP.lst;exact⟨oq,ws,rfl,.inl (.inl ay),fin ws av⟩
 ·cases e
def agf(aG:X.calm=true)(hm:X.mg "sorted"=none)(ax:ez X a f)(bt:fh X "sorted":=by rfl)(he:bA [a] X.env=(false,eval a X.env)::bA [] X.env:=by rfl)(hpl:(dQ pos (bA [] X.env)).any (·.1)=false:=by rfl):
  o4 X (.Call (.Name "sorted" p) [a] [] pos) (fo C7 f):=ec (y' (PJ aG) bt hm (by decide +kernel) (ix ax kZ he) (he:=he) (hpl:=hpl)) λσ H Q ⟨aF,E,O,F,ag,ts,r,e,k⟩=>by
 simp only[fo,cb] at e;obtain⟨t,bB,e⟩:=e;refine⟨aF,E,O,F,ag,t,r,bB,λv aZ H1 aL aP=>?_⟩;unfold C7 at e;split at e
 next xs=>
  split at e
  next ar=>
   simp only[dP] at e;obtain⟨ss,qA,e⟩:=e;cases e;have xE:=vM qA;subst xE;obtain⟨oq,ws,rfl,ay,av⟩:=aP.lst;refine⟨oq,ss.map .inr,(eN ss).map V.str,rfl,?_,by simpa using ar,.inr ⟨ss,rfl,rfl⟩,λl ju=>?_⟩
   ·have aR:ws=(ss.map (Sum.inr:Str->bw.Key)).map ek:=by rw[vJ av];simp[ek,kT]
    rw[<- aR];exact .inl ay
   ·have bx:=Ext.laid (o:=.lst ((eN ss).map V.str)) aL.cn ju;refine k l _ aZ _ (aL.trans bx) (aL.same.none ju) (λz=>?_) dH (y3 _);obtain⟨o,e⟩:=aL.cn l z;rw[ju] at e;cases e
  next=>cases e
 next=>cases e
end
def QG:entryFor table "list.remove.loop"=some Builtin.«list.remove.loop»:=entryFor_of_tree (by kernel_rfl)
def CW:plainId "list.remove.loop"=true:=by decide +kernel
def ahR(l:ak)(its:Array aq)(n:Nat)(x:Str)(t:Tok)(j:Nat)(ar:its.size<=cF)(bD:j<its.size)(hit:∃u,its[j]=.str x u)(k:Nat):
  ∀i:Nat,j - i=k->i<=j->(∀(m:Nat) (hm:m<its.size),i<=m->m<j->∃y u,its[m]=.str y u/\y≠x)->Meets (Builtin.«list.remove.loop» ⟨[.ref l,.str x t,rawInt i],[]⟩)
   (λ_ R s=>s.heap.get? l=some {cls:=.type "list",data:=.seq its n}/\R (.ok (.ret .none)) {s with heap:=s.heap.update l (Obj.mapSeq λa=>a.eraseIdxIfInBounds j)}):=by
 induction k with
|zero=>
  intro i aI kO _ prog w A R s h;obtain⟨aC,g,d,tk,os⟩:=s;obtain⟨ay,h⟩:=h;obtain rfl:i=j:=by omega
  obtain⟨u,bp⟩:=hit
  wp_walk using wpAny_loadPart' ay
  rw[show its[((i:Nat):Int).toNat]?=some (.str x u) by simp[bD,bp]];refine a6 (wpAny_eqBool_str ?_);rw[decide_eq_true rfl]
  wp_walk using wpAny_loadPart' ay
  rw[show ((Obj.mapSeq (λz=>z.eraseIdxIfInBounds ((i:Nat):Int).toNat) {cls:=.type "list",data:=.seq its n}:Obj).data.pastItsLine)=none from
   pastItsLine_seq (by
    have:(its.eraseIdxIfInBounds ((i:Nat):Int).toNat).size<=its.size:=by
     unfold Array.eraseIdxIfInBounds;split
     ·rw[Array.size_eraseIdx];omega
     ·omega
    show (its.eraseIdxIfInBounds ((i:Nat):Int).toNat).size<=_
    omega)]
  wp_walk
  exact h
|succ k b7=>
  intro i aI kO u4 prog w A R s h;obtain⟨aC,g,d,tk,os⟩:=s;obtain⟨ay,h⟩:=h;have e7:i<its.size:=by omega
  obtain⟨y,u,bN,ne⟩:=u4 i e7 (eh _) (by omega)
  wp_walk using wpAny_loadPart' ay
  rw[show its[((i:Nat):Int).toNat]?=some (.str y u) by simp[e7,bN]];refine a6 (wpAny_eqBool_str ?_);rw[decide_eq_false ne]
  wp_walk
  rw[show ((i:Int)+1)=((i+1:Nat):Int) by push_cast;rfl];exact⟨plainId_quiet CW _,vu QG (by
   rw[vo CW _];exact b7 (i+1) (by omega) (by omega) (λm hm ah ao=>u4 m hm (by omega) ao) prog w A R _ ⟨ay,h⟩)⟩
def aeY(l:ak)(its:Array aq)(n:Nat)(x:Str)(t:Tok)(j:Nat)(ar:its.size<=cF)(bD:j<its.size)(hit:∃u,its[j]=.str x u)(u4:∀(m:Nat) (hm:m<its.size),m<j->∃y u,its[m]=.str y u/\y≠x):
  Meets (Builtin.«list.remove» ⟨[.ref l,.str x t],[]⟩) (λ_ R s=>s.heap.get? l=some {cls:=.type "list",data:=.seq its n}/\R (.ok (.ret .none)) {s with heap:=s.heap.update l (Obj.mapSeq λa=>a.eraseIdxIfInBounds j)}):=by
 intro prog w A R s h;obtain⟨aC,g,d,tk,os⟩:=s;obtain⟨ay,h⟩:=h
 wp_walk using wpAny_loadPart' ay
 exact⟨plainId_quiet CW _,vu QG (by
  rw[vo CW _];exact ahR l its n x t j ar bD hit _ 0 rfl (j6 _) (λm hm _ ao=>u4 m hm ao) prog w A R _ ⟨ay,h⟩)⟩
noncomputable def ahS:V->List V->aE->dC->Prop:=λx vs H Q=>∃(l:ak) (ss:List Str) (y:Str),x=.ref l/\vs=[.str y]/\H l=some (.lst (ss.map V.str))/\y∈ss/\Q .gL (upd H l (.lst ((ss.erase y).map V.str)))
def y8{ss:List Str}{its:List aq}(r:Vals (ss.map V.str) its){m:Nat}{y:Str}(h:ss[m]?=some y):∃u,its[m]?=some (.str y u):=by
 obtain⟨v,a',b8⟩:=r.get (i:=m) (x:=.str y) (by rw[hK,h];rfl);obtain⟨u,rfl⟩:=b8;exact⟨u,a'⟩
theorem Rj{α:Type}[BEq α][LawfulBEq α]:∀{ss:List α} {y:α},y∈ss->∃j,ss[j]?=some y/\(∀m z,m<j->ss[m]?=some z->z≠y)/\ss.erase y=ss.eraseIdx j
| [],y,h=>by simp at h
|x::ss,y,h=>by
  by_cases e:x=y
  ·subst e;exact⟨0,rfl,λm z hm=>by omega,by simp⟩
  ·have h':y∈ss:=by
    rcases cO.mp h with z|z
    ·exact absurd z.symm e
    ·exact z
   obtain⟨j,ah,ao,bG⟩:=Rj h';refine⟨j+1,by simpa using ah,λm z hm ar=>?_,?_⟩
   ·cases m with
    |zero=>
     simp at ar;exact ar▸e
    |succ m=>exact ao m z (by omega) (by simpa using ar)
   ·rw[List.erase_cons_tail (by simpa using e),bG];rfl
theorem PA{α β:Type}(f:α->β):∀(l:List α) (j:Nat),(l.eraseIdx j).map f=(l.map f).eraseIdx j
| [],_=>rfl
|_::_,0=>rfl
|a::l,j+1=>by simp[PA f l j]
def Qz{X:bh}:DW X "list.remove" ahS:=by
 intro ai s σ H x vs v us Q I a4 b8 h;obtain⟨l,ss,y,rfl,rfl,js,bN,q⟩:=h;cases a4;obtain⟨u,rfl,ea⟩:=b8.one;obtain⟨t,rfl⟩:=ea;obtain⟨z,its,n,r,ay,e⟩:=I.Oe js;obtain⟨j,ah,ao,bG⟩:=Rj bN;obtain⟨w,hw⟩:=y8 r ah;have bD:j<its.length:=(fe.mp hw).1;refine r3 F.slot_list_remove ⟨_,e,rfl⟩ F.entry_list_remove (F.args_list_remove_2 _ _) (aeY l its.toArray n y t j (by rw[eb];omega) (by rw[eb];exact bD) ⟨w,?_⟩ λm hm YE=>?_) ⟨e,?_⟩
 ·rw[fO bD] at hw;simpa using hw
 ·rw[eb] at hm;have NU:m<ss.length:=by rw[g6] at ay;omega
  obtain⟨u,bp⟩:=y8 r (fO NU);rw[fO hm] at bp;exact⟨_,u,by simpa using bp,ao m _ YE (fO NU)⟩
 ·rw[bG] at q;have a7:(ss.eraseIdx j).map V.str=(ss.map V.str).eraseIdx j:=PA _ _ _;rw[a7] at q;refine⟨.gL,_,I.Od (t':=s.toks) (its':=its.eraseIdx j) js e ?_ (r.eraseIdx j) (ma (QB _ _) z),rfl,q⟩;unfold Array.eraseIdxIfInBounds;rw[dif_pos (by rw[eb];exact bD)];simp
section
variable {X:bh}{c C i j:Nat}{ns:List Str}{f:Str}{o e:bc}{g:bI}{pos apos:Pos}
def ajS(k:hy X.K c C ns)(a8:bW X o (gN i)){i7 dz:Pos}(he:cg X e g)(bD:ns[j]?=some f:=by rfl)(ae:jf o f X.env (eval o X.env)=eval o X.env:=by rfl)
  (hj:bA [e] X.env=(false,eval e X.env)::bA [] X.env:=by rfl)
  (la:jf (.Attribute o f apos) "remove" X.env (eval (.Attribute o f apos) X.env)=eval (.Attribute o f apos) X.env:=by rfl)
  (ob:((dQ dz (bA [e] X.env)).all (λx=>!x.1) && (mc dz (mb [] X.env)).all (λx=>x.1.isSome)
   && decide (([e]:List bc).length+([]:List Keyword).length+(if ([]:List Keyword).isEmpty then 0 else 1)<30))=true:=by rfl)
  (lb:(i7.endLine==dz.line)=true:=by rfl) (oi:(dQ dz (bA [] X.env)).any (·.1)=false:=by rfl)
  (oj:jg (.Call (.Attribute (.Attribute o f apos) "remove" i7) [e] [] dz) none pos.line X.env=pure false:=by rfl):
  fS X (.Expr (.Call (.Attribute (.Attribute o f apos) "remove" i7) [e] [] dz) pos) (qG c i j g):=
 ht (zl (zF yt PySem.F.slot_list_remove PySem.F.type_list_remove Qz (q_ a8 ae) (ix he kZ hj) la ob lb hj oi) oj) λD σ H ⟨aF,aN,O,F,ag,o,r,e,bV⟩=>by
 simp only[qG,cb] at e;obtain⟨t,bB,ts,f6,e⟩:=e;split at e
 next x ss qA=>
  split at e
  next hx=>
   simp only[dP] at e;obtain⟨ε',es,rfl⟩:=e;have xD:=vM qA;subst xD;obtain⟨m,az,aH,aw⟩:=y4 f6;obtain⟨a,vs,bF,v,ah,tp,ay,ax,a',⟨b,us,dk,ae,eQ⟩,_⟩:=oT k r aH aw bD;subst dk;refine⟨_,ah,a,C,bF,_,_,rfl,tp,k.cls,mq k bD,ay,.inl ⟨rfl,_,gg.of ae⟩,aF,aN,O,F,ag,_,r,bB,λv aZ H1 aL aP=>?_⟩;have bg:=r.ext aL;have AD:gR H1 a c vs:=ax.keep ((aL.same.get tp).trans tp.symm);have ev:v=.str x:=by simpa [Rep] using aP
   subst ev;have eX:=vJ eQ;subst eX;obtain⟨aB,cf⟩:=bg.tA (s':=.own ((ss.erase x).map .str)) (o':=.lst ((ss.erase x).map V.str)) aH ah AD es aw a' (by simp[dN,gp]) rfl λaB=>⟨b,_,rfl,dH,y3 _⟩;exact⟨b,ss,x,rfl,rfl,aL.same.get ae,hx,bV σ aZ _ (aL.aB.trans aB) cf⟩
  next=>cases e
 next=>cases e
end
end
section
variable [c5]
open AutoSeq1 (wpAny_loadPart')
section
variable {prog:cQ}{w:cB}{A:di}{E:aq->aQ->Prop}{s:aQ}{T:String}{r d:ak}{n:Nat}{P:Nat->aq->Prop}{sJ:b5->Prop}
def aet(W:PySem.W.KdlSrc prog w T r d n P sJ)(a8:n<=cF)(o:Obj)(aG:o.cls=.type T):
  MeetsIn prog w (Builtin.«tuple.__new__» ⟨[.type "tuple",.ref r],[]⟩)
   (λA R s=>A.handled=none/\sJ s.heap/\s.heap.get? r=some o/\∀(h':b5) (tk:Nat) (acc:Array aq),(∀b o,s.heap.get? b=some o->h'.get? b=some o)->s.heap.objs.size<=h'.objs.size->ItemsOf P acc n->R (.ok (.ret (.ref h'.objs.size))) {s with heap:=h'.push {cls:=.type "tuple",data:=.seq acc},toks:=tk}):=
 .of_wp λA R s h=>by
  obtain⟨aC,g,XC,tk,os⟩:=s;obtain⟨c6,b',aH,h⟩:=h;have NY:=sub_tuple_self;have akw:=init_tuple_lookup;have akC:=madeHere_tuple;have eD:Shared.TypeIs ⟨aC,g,XC,tk,os⟩ (.ref r) T:=W.type _ b';have gY:=W.notList;have gJ:=W.notTuple
  wp_walk using wpAny_loadPart' aH,wpAny_typeOf eD,afu W (by simpa using c6) b' a8
  intro h' BI acc aI hsz mF;show bK _ _ (tS acc.toList.toArray >>= λv=>ret v) _ _ _;unfold tS;have ar:acc.size<=cF:=by rw[mF.1];exact a8
  refine a6 (qY ?_ (by show acc.toList.toArray.size<=cF;simpa using ar))
  refine cK ⟨_,rfl,?_⟩
  rw[show acc.toList.toArray=acc by simp];exact h h' BI acc aI hsz mF
def zev{Q:aq->aQ->Prop}(W:PySem.W.KdlSrc prog w T r d n P sJ)(a8:n<=cF){o:Obj}(aG:o.cls=.type T)(c6:A.handled=none)(b':sJ s.heap)(aH:s.heap.get? r=some o)
  (h:∀(h':b5) (tk:Nat) (acc:Array aq),(∀b o,s.heap.get? b=some o->h'.get? b=some o)->s.heap.objs.size<=h'.objs.size->ItemsOf P acc n->Q (.ref h'.objs.size) {s with heap:=h'.push {cls:=.type "tuple",data:=.seq acc},toks:=tk}):
  bK (bZ prog w) A (call (.type "tuple") [.ref r]) Q E s:=
 callType_newIn F.called_tuple (by decide) (F.typeCall_tuple_1 _) (F.newCall_tuple_1 _) (λobj=>F.args_object_init_2 obj _) F.entry_tuple_new
  (aet W a8 o aG) ⟨by simpa using c6,b',aH,λh' tk acc aI hsz mF=>⟨⟨_,ia _ rfl,rfl⟩,h h' tk acc aI hsz mF⟩⟩
end
noncomputable def DD(p d:ak):eW:=.ext λh=>h.IsValuesView p d
section
variable {X:bh}
def agp:DW X "dict.values" (λx vs H Q=>∃d kvs,x=.ref d/\vs=[]/\H d=some (.dA kvs)/\∀p,H p=none->Q (.ref p) (upd H p (DD p d))):=by
 intro ai s σ H x vs v us Q I a4 b8 h;obtain⟨d,kvs,rfl,rfl,js,q⟩:=h;cases a4;cases b8;obtain⟨ar,AK,ws,th,hd⟩:=I.b' d _ js;refine call_meetsIn PySem.F.slot_dict_values hd.typeIs PySem.F.entry_dict_values (PySem.F.args_dict_values_1 _) (meets_dict_values (fF X.prog X.w) d AK) ⟨⟨ws,hd⟩,?_⟩;have a':(s.heap.push {cls:=.type "dict_values",data:=.fields #[.ref d]}).IsValuesView s.heap.objs.size d:=⟨_,ia _ rfl,rfl,rfl⟩;refine⟨.ref s.heap.objs.size,upd H s.heap.objs.size (DD s.heap.objs.size d),I.laid (t':=s.toks) (λb u e=>dx _ e) (eh _) ⟨a',⟨_,ia _ rfl⟩,λah ao p k=>?_⟩,rfl,q _ I.fresh⟩;obtain⟨o,aH,r⟩:=p;exact⟨o,k o aH,r⟩
theorem SH:∀{kvs:List (bw.Key×V)} {vs:List (bw.Key×aq)},f3 kvs vs->Vals (kvs.map (·.2)) (vs.map (·.2))
|_,_,.nil=>.nil
|_,_,.cons a b=>.cons a.2 (SH b)
def aev(aG:X.calm=true):mu X (.type "tuple") (λxs H Q=>∃p d kvs,xs=[.ref p]/\H p=some (DD p d)/\H d=some (.dA kvs)/\∀t,H t=none->Q (.ref t) (upd H t (.tup (kvs.map (·.2))))):=by
 intro ai s σ H xs us Q I r h;obtain⟨p,d,kvs,rfl,aC,bS,q⟩:=h;obtain⟨u,rfl,a4⟩:=vals1 r;cases a4;obtain⟨mK,AK,vs,th,hd⟩:=I.b' d _ bS;obtain⟨ep,iQ⟩:=hd.dictAt;have ay:vs.length=kvs.length:=(Paired.length th).symm;have a':s.heap.IsValuesView p d:=(I.b' p _ aC).1;obtain⟨o,aH,qu,aku⟩:=id a';refine zev (PySem.W.kdl_values (knd:=fF X.prog X.w) (kvs:=vs) (ep:=ep)) (by rw[ay];exact mK) qu (I.ok.hd aG) ⟨a',iQ⟩ aH λh' tk acc aI hsz mF=>?_;have pn:(kvs.map (·.2)).length<=cF:=by rw[g6];exact mK
 have dR:acc.toList=vs.map (·.2):=by
  refine List.ext_getElem? λi=>?_
  rw[hK];by_cases aU:i<acc.size
  ·obtain⟨k,aI⟩:=mF.2 i acc[i] (by simp[aU]);rw[aI];simp[aU]
  ·rw[List.getElem?_eq_none (by simpa using aU),List.getElem?_eq_none (by rw[mF.1] at aU;omega)];rfl
 have eD:(h'.push {cls:=.type "tuple",data:=.seq acc}).get? h'.objs.size=some {cls:=.type "tuple",data:=.seq acc}:=ia _ rfl;refine⟨.ref h'.objs.size,_,KD I (o:=.tup (kvs.map (·.2))) (d':=s.drawn) (λb u e=>dx _ (aI b u e)) hsz ⟨pn,vs.map (·.2),SH th,⟨_,eD,rfl,0,by rw[<- dR]⟩⟩,rfl,q _ (I.b'.fresh hsz)⟩
variable {c C i j:Nat}{ns:List Str}{f:Str}{o:bc}{p pos apos i7 dz:Pos}
theorem eO.snd{K:bo}{F:ak->Prop}{H:aE}:∀{ts:List (D.Key×T)} {vs:List (D.Key×V)},eO K F H ts vs->bj K F H (ts.map (·.2)) (vs.map (·.2))
| [],vs,h=>by
  have e:vs=[]:=h;subst e;exact bj.nil
|t::ts,vs,h=>by
  obtain⟨v,r,rfl,q,z⟩:=h;exact bj.cons q (eO.snd z)
def RD(k:hy X.K c C ns)(aG:X.calm=true)(aX:X.mg "tuple"=none)(a8:bW X o (gN i))(bD:ns[j]?=some f:=by rfl)(ae:jf o f X.env (eval o X.env)=eval o X.env:=by rfl)
  (la:jf (.Attribute o f apos) "values" X.env (eval (.Attribute o f apos) X.env)=eval (.Attribute o f apos) X.env:=by rfl) (lb:(i7.endLine==dz.line)=true:=by rfl) (bt:fh X "tuple":=by rfl)
  (he:bA [.Call (.Attribute (.Attribute o f apos) "values" i7) [] [] dz] X.env=(false,eval (.Call (.Attribute (.Attribute o f apos) "values" i7) [] [] dz) X.env)::bA [] X.env:=by rfl)
  (hpl:(dQ pos (bA [] X.env)).any (·.1)=false:=by rfl):
  cg X (.Call (.Name "tuple" p) [.Call (.Attribute (.Attribute o f apos) "values" i7) [] [] dz] [] pos) (zH c i j):=
 ec (Kw (aev aG) bt aX (by decide +kernel) (ix (ai8 PySem.F.plainAttrs_dict PySem.F.slot_dict_values PySem.F.type_dict_values agp (q_ a8 ae) la lb) kZ he) (he:=he) (hpl:=hpl)) λσ H Q ⟨aF,E,O,F,ag,t,r,e,bV⟩=>by
 simp only[zH,dP] at e;obtain⟨kvs,fa,rfl⟩:=e;obtain⟨m,az,aH,aw⟩:=C1 fa;obtain⟨a,vs,bF,v,ah,hx,ay,ax,a',⟨b,us,dk,ae,eQ⟩,_⟩:=oT k r aH aw bD;subst dk;refine⟨_,ah,a,C,bF,_,_,rfl,hx,k.cls,mq k bD,ay,.inr (.inr (.inl ⟨rfl,.inl ⟨_,ae⟩⟩)),b,us,rfl,rfl,ae,λp aC=>?_⟩;have aL:=Ext.laid (o:=DD p b) r.cn aC;refine⟨p,b,us,rfl,dH,aL.same.get ae,λt aX=>?_⟩;have bx:=aL.trans (Ext.laid (o:=.tup (us.map (·.2))) aL.cn aX);refine bV _ F _ bx ?_;simp only[Rep];exact⟨t,_,rfl,c7.of dH,(eQ.snd).ext bx⟩
end
end
section
variable [c5]
open AutoSeq1 (wpAny_loadPart')
noncomputable def fV(h:b5)(z TI b0:ak)(f0 f1:aq):Prop:=h.get? z=some {cls:=.type "zip",dict:=none,data:=.fields #[f0,f1,.bool false,.ref TI,.ref b0],slots:=#[]}
section
variable {prog:cQ}{w:cB}{A:di}{E:aq->aQ->Prop}{s:aQ}{z TI b0 bH bO bT bR:ak}{k gY gJ:Nat}{uH uI:Nat->aq->Prop}{hQ h1:Nat->b5->Prop}{a b f1:aq}
def KS{Q:aq->aQ->Prop}(D:ZipApart z TI b0 bH bO bT bR)(j':Draws prog w A bH [bH,bT] gY uH hQ)(lO:Draws prog w A bO [bO,bR] gJ uI h1)(ar:fV s.heap z TI b0 .none f1)(et:IsPair s.heap TI (.ref bH) (.ref bO))(fl:IsPair s.heap b0 a b)
  (s1:hQ k s.heap) (s2:h1 k s.heap) (ah:k<gY) (ao:k<gJ)
  (jt:∀h' x y tk,uH k x->uI k y->fV h' z TI b0 (rawInt s.heap.objs.size) (.bool false)->IsPair h' b0 x y->hQ (k+1) h'->h1 (k+1) h'->IsPair h' s.heap.objs.size x y->h'.objs.size=s.heap.objs.size+1 ->
   (∀c o,c≠z->c≠b0->c≠bH->c≠bO->s.heap.get? c=some o->h'.get? c=some o)->Q (.ref s.heap.objs.size) {s with heap:=h',toks:=tk}):
  bK (bZ prog w) A (Builtin.«zip.__next__» ⟨[.ref z],[]⟩) (λfin s'=>∃v,fin=.done (.ret v)/\Q v s') E s:=by
 unfold fV at ar;refine a6 (m:=field (.ref z) 2) (iv ar rfl (x:=.bool false) rfl (a6 (m:=field (.ref z) 3) (iv ar rfl (x:=.ref TI) rfl (a6 (pP et rfl ?_)))));refine a6 (m:=r0 (.ref z)) ?_;unfold r0;refine a6 (iv ar rfl (x:=.none) rfl (cK ?_));simp only[if_true];refine a6 (wpAny_rule (a6 (iv ar rfl (x:=.ref b0) rfl (a6 (tW ar (by simp) λgI mL f7=>?_)))));replace mL:fV gI z TI b0 .ellipsis f1:=mL;refine a6 ?_;simp only[List.zipIdx_cons,List.zipIdx_nil,List.forIn_cons,List.forIn_nil];have qJ:hQ k gI:=j'.frame k _ _ s1 λc aG o e=>by
  rcases cO.mp aG with rfl|aG
  ·exact f7.extBut _ _ D.i1z e
  ·rw[kS.mp aG] at e ⊢;exact f7.extBut _ _ D.l1z e
 refine a6 (a6 (wpAny_onRaise (a6 (m:=l_ (.ref bH)) (j'.item k _ _ _ ah qJ λx kk tk iX t1 gW=>cK ?_))))
 have xk:IsPair kk b0 a b:=gW.extBut _ _ D.TOi1 (f7.extBut _ _ D.TOz fl);refine a6 (pP xk rfl (a6 (wpAny_updateSeq_pair xk λiT Az h7=>?_)));replace Az:IsPair iT b0 x b:=Az;refine a6 (wpAny_letGo (cK ?_));have jB:h1 k iT:=lO.frame k _ _ s2 λc aG o e=>by
  rcases cO.mp aG with rfl|aG
  ·exact h7.extBut _ _ D.TOi2.symm (gW.extBut _ _ D.i12.symm (f7.extBut _ _ D.i2z e))
  ·rw[kS.mp aG] at e ⊢;exact h7.extBut _ _ D.l2TO (gW.extBut _ _ D.l2i1 (f7.extBut _ _ D.l2z e))
 refine a6 (a6 (wpAny_onRaise (a6 (m:=l_ (.ref bO)) (lO.item k _ _ _ ao jB λy xG Js py j0 qs=>cK ?_))))
 have NG:IsPair xG b0 x b:=qs.extBut _ _ D.TOi2 Az;refine a6 (pP NG rfl (a6 (wpAny_updateSeq_pair NG λjx AA pd=>?_)));replace AA:IsPair jx b0 x y:=AA;refine a6 (wpAny_letGo (cK (cK (a6 (pP AA rfl (a6 (wpAny_newTuple ?_)))))));have BE:jx.objs.size=s.heap.objs.size:=by rw[pd.1,qs.1,h7.1,gW.1,f7.1]
 have N3:fV jx z TI b0 .ellipsis f1:=pd.extBut _ _ D.TOz.symm (qs.extBut _ _ D.i2z.symm (h7.extBut _ _ D.TOz.symm (gW.extBut _ _ D.i1z.symm mL)));have ZX:∀c o,c≠z->c≠b0->c≠bH->c≠bO->s.heap.get? c=some o->jx.get? c=some o:=λc o c8 cv eA c4 e=>pd.extBut _ _ cv (qs.extBut _ _ c4 (h7.extBut _ _ cv (gW.extBut _ _ eA (f7.extBut _ _ c8 e))));have BL:hQ (k+1) jx:=j'.frame _ _ _ t1 λc aG o e=>by
  rcases cO.mp aG with rfl|aG
  ·exact pd.extBut _ _ D.TOi1.symm (qs.extBut _ _ D.i12 (h7.extBut _ _ D.TOi1.symm e))
  ·rw[kS.mp aG] at e ⊢;exact pd.extBut _ _ D.l1TO (qs.extBut _ _ D.l1i2 (h7.extBut _ _ D.l1TO e))
 have vi:h1 (k+1) jx:=lO.frame _ _ _ j0 λc aG o e=>by
  rcases cO.mp aG with rfl|aG
  ·exact pd.extBut _ _ D.TOi2.symm e
  ·rw[kS.mp aG] at e ⊢;exact pd.extBut _ _ D.l2TO e
 have nT:z<jx.objs.size:=c3 N3;refine a6 (m:=Builtin.SmallTypes.ownedTupleHandOut (.ref z) (.ref jx.objs.size)) ?_;unfold Builtin.SmallTypes.ownedTupleHandOut;have YX:fV (jx.push {cls:=.type "tuple",data:=.seq #[x,y]}) z TI b0 .ellipsis f1:=dx _ N3;refine a6 (tW YX (by simp) λYZ GJ FJ=>?_);replace GJ:fV YZ z TI b0 (rawInt jx.objs.size) f1:=GJ;refine tW GJ (by simp) λxH AN FK=>?_;replace AN:fV xH z TI b0 (rawInt jx.objs.size) (.bool false):=AN;have up:∀c o,c≠z->jx.get? c=some o->xH.get? c=some o:=λc o c8 e=>FK.extBut _ _ c8 (FJ.extBut _ _ c8 (dx _ e));have eD:IsPair xH jx.objs.size x y:=FK.extBut _ _ (hW nT) (FJ.extBut _ _ (hW nT) (ia _ rfl));have OW:xH.objs.size=jx.objs.size+1:=by rw[FK.1,FJ.1,kU]
 rw[BE] at AN eD OW;refine cK ⟨_,rfl,?_⟩;show Q (.ref jx.objs.size) _;rw[BE];refine jt xH x y _ iX py AN (up _ _ D.TOz AA) (j'.frame _ _ _ BL λc aG o e=>?_) (lO.frame _ _ _ vi λc aG o e=>?_) eD OW λc o c8 cv eA c4 e=>up c o c8 (ZX c o c8 cv eA c4 e)
 ·refine up c o ?_ e
  rcases cO.mp aG with rfl|aG
  ·exact D.i1z
  ·rw[kS.mp aG];exact D.l1z
 ·refine up c o ?_ e
  rcases cO.mp aG with rfl|aG
  ·exact D.i2z
  ·rw[kS.mp aG];exact D.l2z
def KR{Q:Fin->aQ->Prop}(D:ZipApart z TI b0 bH bO bT bR)(j':Draws prog w A bH [bH,bT] gY uH hQ)(lO:Draws prog w A bO [bO,bR] gJ uI h1)(ar:fV s.heap z TI b0 .none f1)(et:IsPair s.heap TI (.ref bH) (.ref bO))(fl:IsPair s.heap b0 a b)
  (s1:hQ k s.heap) (s2:h1 k s.heap) (aI:k=gY\/(k<gY/\k=gJ))
  (qt:∀h' e tk,(∀c o,c≠z->c≠b0->c≠bH->c≠bO->s.heap.get? c=some o->h'.get? c=some o)->(∃o,h'.get? e=some o/\o.cls=.type "StopIteration")->E (.ref e) {s with heap:=h',toks:=tk}):
  bK (bZ prog w) A (Builtin.«zip.__next__» ⟨[.ref z],[]⟩) Q E s:=by
 unfold fV at ar;refine a6 (m:=field (.ref z) 2) (iv ar rfl (x:=.bool false) rfl (a6 (m:=field (.ref z) 3) (iv ar rfl (x:=.ref TI) rfl (a6 (pP et rfl ?_)))));refine a6 (m:=r0 (.ref z)) ?_;unfold r0;refine a6 (iv ar rfl (x:=.none) rfl (cK ?_));simp only[if_true];refine a6 (wpAny_rule (a6 (iv ar rfl (x:=.ref b0) rfl (a6 (tW ar (by simp) λgI mL f7=>?_)))));replace mL:fV gI z TI b0 .ellipsis f1:=mL;refine a6 ?_;simp only[List.zipIdx_cons,List.zipIdx_nil,List.forIn_cons,List.forIn_nil];have qJ:hQ k gI:=j'.frame k _ _ s1 λc aG o e=>by
  rcases cO.mp aG with rfl|aG
  ·exact f7.extBut _ _ D.i1z e
  ·rw[kS.mp aG] at e ⊢;exact f7.extBut _ _ D.l1z e
 rcases aI with rfl|⟨ah,rfl⟩
 ·refine a6 (a6 (wpAny_onRaise (a6 (m:=l_ (.ref bH)) (j'.done _ _ _ qJ λkk e gW he=>?_))))
  obtain⟨IP,tl,xo⟩:=he;have GH:fV kk z TI b0 .ellipsis f1:=gW _ _ D.i1z.symm mL;have ne:e≠z:=λq=>by
   subst q;unfold fV at GH;rw[GH] at tl;cases tl;simp at xo
  exact tW GH (by simp) λiT _ h7=>qt iT e _ (λc o c8 _ eA _ q=>h7.extBut _ _ c8 (gW _ _ eA (f7.extBut _ _ c8 q))) ⟨IP,h7.extBut _ _ ne tl,xo⟩
 ·refine a6 (a6 (wpAny_onRaise (a6 (m:=l_ (.ref bH)) (j'.item k _ _ _ ah qJ λx kk tk iX t1 gW=>cK ?_))))
  have xk:IsPair kk b0 a b:=gW.extBut _ _ D.TOi1 (f7.extBut _ _ D.TOz fl);refine a6 (pP xk rfl (a6 (wpAny_updateSeq_pair xk λiT Az h7=>?_)));refine a6 (wpAny_letGo (cK ?_));have jB:h1 k iT:=lO.frame k _ _ s2 λc aG o e=>by
   rcases cO.mp aG with rfl|aG
   ·exact h7.extBut _ _ D.TOi2.symm (gW.extBut _ _ D.i12.symm (f7.extBut _ _ D.i2z e))
   ·rw[kS.mp aG] at e ⊢;exact h7.extBut _ _ D.l2TO (gW.extBut _ _ D.l2i1 (f7.extBut _ _ D.l2z e))
  refine a6 (a6 (wpAny_onRaise (a6 (m:=l_ (.ref bO)) (lO.done _ _ _ jB λxG e qs he=>?_))))
  obtain⟨IP,tl,xo⟩:=he;have GI:fV xG z TI b0 .ellipsis f1:=qs _ _ D.i2z.symm (h7.extBut _ _ D.TOz.symm (gW.extBut _ _ D.i1z.symm mL));have ne:e≠z:=λq=>by
   subst q;unfold fV at GI;rw[GI] at tl;cases tl;simp at xo
  exact tW GI (by simp) λjx _ pd=>qt jx e _ (λc o c8 cv eA c4 q=>pd.extBut _ _ c8 (qs _ _ c4 (h7.extBut _ _ cv (gW.extBut _ _ eA (f7.extBut _ _ c8 q))))) ⟨IP,pd.extBut _ _ ne tl,xo⟩
def ahE{c:ak}{Q:Option Obj->aQ->Prop}(h:Q (s.heap.get? c) s):bK (bZ prog w) A (loadIfAlive c) Q E s:=λΓ p _=>by
 unfold loadIfAlive;rw[Sem.wp_loadIfAlive];simpa using h
def P8{T:ak}{lp:Obj}{f:Bool}(ar:fV s.heap z TI b0 (rawInt T) (.bool f))(eD:s.heap.get? T=some lp):
  bK (bZ prog w) A (r0 (.ref z)) (λc s'=>c=false/\∃gI,s'={s with heap:=gI}/\fV gI z TI b0 (rawInt T) (.bool true)/\Heap.SameBut z s.heap gI) E s:=by
 unfold fV at ar;unfold r0;refine a6 (iv ar rfl (x:=rawInt T) rfl ?_);refine a6 (m:=loadIfAlive ((T:Nat):Int).toNat) (ahE ?_);rw[Int.toNat_natCast,eD];simp only[Option.isNone_some,j5,if_false];refine a6 (iv ar rfl (x:=.bool f) rfl ?_);cases f with
|true=>
  simp only[bne_self_eq_false,j5,if_false];exact cK ⟨rfl,s.heap,rfl,ar,Heap.SameBut.refl ..⟩
|false=>
  rw[if_pos (by decide)];exact a6 (tW ar (by simp) λgI mL f7=>cK ⟨rfl,gI,rfl,mL,f7⟩)
def agP{Q:aq->aQ->Prop}{T:ak}{lp:Obj}{f:Bool}(D:ZipApart z TI b0 bH bO bT bR)(j':Draws prog w A bH [bH,bT] gY uH hQ)(lO:Draws prog w A bO [bO,bR] gJ uI h1)(ar:fV s.heap z TI b0 (rawInt T) (.bool f))(eD:s.heap.get? T=some lp)(et:IsPair s.heap TI (.ref bH) (.ref bO))
  (s1:hQ k s.heap) (s2:h1 k s.heap) (ah:k<gY) (ao:k<gJ)
  (jt:∀h' x y tk,uH k x->uI k y->fV h' z TI b0 (rawInt T) (.bool true)->hQ (k+1) h'->h1 (k+1) h'->IsPair h' s.heap.objs.size x y->h'.objs.size=s.heap.objs.size+1 ->
   (∀c o,c≠z->c≠bH->c≠bO->s.heap.get? c=some o->h'.get? c=some o)->Q (.ref s.heap.objs.size) {s with heap:=h',toks:=tk}):
  bK (bZ prog w) A (Builtin.«zip.__next__» ⟨[.ref z],[]⟩) (λfin s'=>∃v,fin=.done (.ret v)/\Q v s') E s:=by
 have xF:=ar;unfold fV at ar;refine a6 (m:=field (.ref z) 2) (iv ar rfl (x:=.bool false) rfl (a6 (m:=field (.ref z) 3) (iv ar rfl (x:=.ref TI) rfl (a6 (pP et rfl ?_)))));refine a6 (m:=r0 (.ref z)) (gB (P8 xF eD) (λc s' ⟨ha,gI,es,mL,f7⟩=>?_) λ_ _ q=>q);subst ha es;simp only[j5,if_false];refine a6 ?_;rw[<- Array.forIn_toList];simp only[List.forIn_cons,List.forIn_nil];have qJ:hQ k gI:=j'.frame k _ _ s1 λc aG o e=>by
  rcases cO.mp aG with rfl|aG
  ·exact f7.extBut _ _ D.i1z e
  ·rw[kS.mp aG] at e ⊢;exact f7.extBut _ _ D.l1z e
 refine a6 (a6 (mY (a6 (m:=l_ (.ref bH)) (j'.item k _ _ _ ah qJ λx kk tk iX t1 gW=>cK (cK ?_)))))
 have jB:h1 k kk:=lO.frame k _ _ s2 λc aG o e=>by
  rcases cO.mp aG with rfl|aG
  ·exact gW.extBut _ _ D.i12.symm (f7.extBut _ _ D.i2z e)
  ·rw[kS.mp aG] at e ⊢;exact gW.extBut _ _ D.l2i1 (f7.extBut _ _ D.l2z e)
 refine a6 (a6 (mY (a6 (m:=l_ (.ref bO)) (lO.item k _ _ _ ao jB λy iT Js py j0 h7=>cK (cK (cK ?_))))))
 refine a6 (wpAny_newTuple (cK ⟨_,rfl,?_⟩) (by show 2<=cF;decide))
 have OV:iT.objs.size=s.heap.objs.size:=by rw[h7.1,gW.1,f7.1]
 have adg:hQ (k+1) iT:=j'.frame _ _ _ t1 λc aG o e=>by
  rcases cO.mp aG with rfl|aG
  ·exact h7.extBut _ _ D.i12 e
  ·rw[kS.mp aG] at e ⊢;exact h7.extBut _ _ D.l1i2 e
 have YW:fV iT z TI b0 (rawInt T) (.bool true):=h7.extBut _ _ D.i2z.symm (gW.extBut _ _ D.i1z.symm mL);have aC:(iT.push {cls:=.type "tuple",data:=.seq #[x,y]}).get? iT.objs.size=some _:=ia _ rfl;show Q (.ref iT.objs.size) _;rw[OV] at aC ⊢;refine jt (iT.push {cls:=.type "tuple",data:=.seq #[x,y]}) x y _ iX py (dx _ YW) (j'.frame _ _ _ adg λc _ o e=>dx _ e) (lO.frame _ _ _ j0 λc _ o e=>dx _ e) aC (by rw[kU,OV])
  λc o c8 eA c4 e=>dx _ (h7.extBut _ _ c4 (gW.extBut _ _ eA (f7.extBut _ _ c8 e)))
def aeE{Q:Fin->aQ->Prop}{T:ak}{lp:Obj}{f:Bool}(D:ZipApart z TI b0 bH bO bT bR)(j':Draws prog w A bH [bH,bT] gY uH hQ)(lO:Draws prog w A bO [bO,bR] gJ uI h1)(ar:fV s.heap z TI b0 (rawInt T) (.bool f))(eD:s.heap.get? T=some lp)(et:IsPair s.heap TI (.ref bH) (.ref bO))
  (s1:hQ k s.heap) (s2:h1 k s.heap) (aI:k=gY\/(k<gY/\k=gJ))
  (qt:∀h' e tk,(∀c o,c≠z->c≠bH->c≠bO->s.heap.get? c=some o->h'.get? c=some o)->(∃o,h'.get? e=some o/\o.cls=.type "StopIteration")->E (.ref e) {s with heap:=h',toks:=tk}):
  bK (bZ prog w) A (Builtin.«zip.__next__» ⟨[.ref z],[]⟩) Q E s:=by
 have xF:=ar;unfold fV at ar;refine a6 (m:=field (.ref z) 2) (iv ar rfl (x:=.bool false) rfl (a6 (m:=field (.ref z) 3) (iv ar rfl (x:=.ref TI) rfl (a6 (pP et rfl ?_)))));refine a6 (m:=r0 (.ref z)) (gB (P8 xF eD) (λc s' ⟨ha,gI,es,mL,f7⟩=>?_) λ_ _ q=>q);subst ha es;simp only[j5,if_false];refine a6 ?_;rw[<- Array.forIn_toList];simp only[List.forIn_cons,List.forIn_nil];have qJ:hQ k gI:=j'.frame k _ _ s1 λc aG o e=>by
  rcases cO.mp aG with rfl|aG
  ·exact f7.extBut _ _ D.i1z e
  ·rw[kS.mp aG] at e ⊢;exact f7.extBut _ _ D.l1z e
 rcases aI with rfl|⟨ah,rfl⟩
 ·refine a6 (a6 (mY (a6 (m:=l_ (.ref bH)) (j'.done _ _ _ qJ λkk e gW he=>?_))))
  exact qt kk e _ (λc o c8 eA _ q=>gW _ _ eA (f7.extBut _ _ c8 q)) he
 ·refine a6 (a6 (mY (a6 (m:=l_ (.ref bH)) (j'.item k _ _ _ ah qJ λx kk tk iX t1 gW=>cK (cK ?_)))))
  have jB:h1 k kk:=lO.frame k _ _ s2 λc aG o e=>by
   rcases cO.mp aG with rfl|aG
   ·exact gW.extBut _ _ D.i12.symm (f7.extBut _ _ D.i2z e)
   ·rw[kS.mp aG] at e ⊢;exact gW.extBut _ _ D.l2i1 (f7.extBut _ _ D.l2z e)
  refine a6 (a6 (mY (a6 (m:=l_ (.ref bO)) (lO.done _ _ _ jB λiT e h7 he=>?_))))
  exact qt iT e _ (λc o c8 eA c4 q=>h7 _ _ c4 (gW.extBut _ _ eA (f7.extBut _ _ c8 q))) he
end
end
section
variable [c5]
open AutoSeq1 (wpAny_loadPart')
noncomputable def Y8(b:Bool):String:=if b then "list_iterator" else "tuple_iterator"
noncomputable def hC(b:Bool)(h:b5)(it l:ak)(i:Nat):Prop:=match b with
|true=>h.IsListIter it l i
|false=>h.IsTupleIter it l i
noncomputable def fY(b:Bool)(h:b5)(l:ak)(xs:Array aq):Prop:=match b with
|true=>h.IsList l xs
|false=>h.IsTuple l xs
theorem hC.at{b:Bool}{h h':b5}{it l:ak}{i:Nat}(x:hC b h it l i)(k:∀o,h.get? it=some o->h'.get? it=some o):hC b h' it l i:=by
 cases b with
|true=>exact Heap.IsListIter.at x k
|false=>
  obtain⟨o,aH,r⟩:=x;exact⟨o,k o aH,r⟩
def hC.obj{b:Bool}{h:b5}{it l:ak}{i:Nat}(x:hC b h it l i):∃o,h.get? it=some o/\∀v,o.data≠.cell v:=by
 cases b with
|true=>
  obtain⟨o,aH,aG,hd⟩:=x;exact⟨o,aH,λv z=>by rw[hd] at z;cases z⟩
|false=>
  obtain⟨o,aH,aG,hd⟩:=x;exact⟨o,aH,λv z=>by rw[hd] at z;cases z⟩
def fY.at{b:Bool}{h h':b5}{l:ak}{xs:Array aq}(x:fY b h l xs)(k:∀o,h.get? l=some o->h'.get? l=some o):fY b h' l xs:=by
 cases b with
|true=>
  obtain⟨o,aH,r⟩:=x;exact⟨o,k o aH,r⟩
|false=>
  obtain⟨o,aH,r⟩:=x;exact⟨o,k o aH,r⟩
def fY.lt{b:Bool}{h:b5}{l:ak}{xs:Array aq}(x:fY b h l xs):l<h.objs.size:=by
 cases b with
|true=>
  obtain⟨o,aH,r⟩:=x;exact c3 aH
|false=>
  obtain⟨o,aH,r⟩:=x;exact c3 aH
def nN{prog:cQ}{w:cB}{A:di}(b:Bool)(c6:A.handled=none)(it l:ak)(lg:l≠it)(xs:Array aq):
  Draws prog w A it [it,l] xs.size (λi v=>xs[i]?=some v) (λi h=>hC b h it l i/\fY b h l xs):=by
 cases b with
|true=>exact Draws.list c6 it l lg xs
|false=>exact vG c6 it l lg xs
abbrev zG(b:Bool)(l:ak):Obj:={cls:=.type (Y8 b),data:=.fields #[.ref l,.int 0 0]}
abbrev ae3(bX b9:Bool)(h:b5)(bT bR:ak):b5:=((h.push (zG bX bT)).push (zG b9 bR)).push {cls:=.type "tuple",data:=.seq #[.ref h.objs.size,.ref (h.objs.size+1)]}
abbrev QH(bX b9:Bool)(h:b5)(bT bR:ak):b5:=(ae3 bX b9 h bT bR).push {cls:=.type "tuple",data:=.seq #[.none,.none]}
abbrev QI(bX b9:Bool)(h:b5)(bT bR:ak):b5:=(QH bX b9 h bT bR).push {cls:=.type "zip",data:=.fields #[.none,.bool false,.bool false,.ref (h.objs.size+2),.ref (h.objs.size+3)]}
section
variable {prog:cQ}{w:cB}{A:di}{E:aq->aQ->Prop}{s:aQ}
def SJ{b:Bool}{l:ak}{xs:Array aq}{Q:aq->aQ->Prop}(ay:fY b s.heap l xs)(h:Q (.ref s.heap.objs.size) {s with heap:=s.heap.push (zG b l)}):bK (bZ prog w) A (pyIter (.ref l)) Q E s:=by
 cases b with
|true=>exact wpAny_pyIter_list ay h
|false=>exact yr ay h
def afH(bX b9:Bool)(bT bR:ak)(xs ys:Array aq):
  Meets (Builtin.«zip.__new__» ⟨[.type "zip",.ref bT,.ref bR],[]⟩) (λ_ R s=>fY bX s.heap bT xs/\fY b9 s.heap bR ys /\
   R (.ok (.ret (.ref (s.heap.objs.size+4)))) {s with heap:=QI bX b9 s.heap bT bR}):=
 .of_wp λprog w A R s h=>by
  obtain⟨aC,g,d,tk,os⟩:=s;obtain⟨ah,ao,h⟩:=h;have NY:=sub_zip;have eT:fY bX (Shared.heap ⟨aC,g,d,tk,os⟩) bT xs:=ah;have gk:fY b9 (Shared.heap ⟨aC.push (zG bX bT),g,d,tk,os⟩) bR ys:=ao.at λo e=>dx _ e
  wp_walk using SJ eT,SJ gk
  refine⟨_,rfl,?_⟩
  simp only[kU] at h ⊢;exact h
def KJ{bX b9:Bool}{bT bR:ak}{xs ys:Array aq}{Q:aq->aQ->Prop}(ah:fY bX s.heap bT xs)(ao:fY b9 s.heap bR ys)
  (h:∀h',fV h' (s.heap.objs.size+4) (s.heap.objs.size+2) (s.heap.objs.size+3) .none (.bool false)->IsPair h' (s.heap.objs.size+2) (.ref s.heap.objs.size) (.ref (s.heap.objs.size+1))->IsPair h' (s.heap.objs.size+3) .none .none ->
   hC bX h' s.heap.objs.size bT 0->hC b9 h' (s.heap.objs.size+1) bR 0->h'.objs.size=s.heap.objs.size+5->(∀c o,s.heap.get? c=some o->h'.get? c=some o)->Q (.ref (s.heap.objs.size+4)) {s with heap:=h'}):
  bK (bZ prog w) A (call (.type "zip") [.ref bT,.ref bR]) Q E s:=by
 have aU:∀(b:Bool) (h':b5) (it l:ak),h'.get? it=some (zG b l)->hC b h' it l 0:=λb h' it l e=>by
  cases b with
  |true=>exact⟨_,e,rfl,rfl⟩
  |false=>exact⟨_,e,rfl,rfl⟩
 refine callType_new F.called_zip (by decide) (F.typeCall_zip_2 _ _) (F.newCall_zip_2 _ _) (λobj=>F.args_object_init_3 obj _ _) F.entry_zip_new (afH bX b9 bT bR xs ys) ⟨ah,ao,?_⟩
 have at_:∀(c6:b5) (n:Nat) (o o':Obj),c6.objs.size=n->o.isFreed=false->(c6.push o).get? n=some o:=λc6 n o o' e f=>by
  rw[<- e];exact ia _ f
 have kN:(QI bX b9 s.heap bT bR).get? (s.heap.objs.size+4)=some _:=at_ (QH bX b9 s.heap bT bR) (s.heap.objs.size+4) _ default (by simp only[kU]) rfl;refine⟨⟨_,kN,rfl⟩,h _ kN ?_ ?_ ?_ ?_ (by simp only[kU]) λc o e=>dx _ (dx _ (dx _ (dx _ (dx _ e))))⟩
 ·exact dx _ (dx _ (at_ _ _ _ default (by simp only[kU]) rfl))
 ·exact dx _ (at_ _ _ _ default (by simp only[kU]) rfl)
 ·exact aU bX _ _ _ (dx _ (dx _ (dx _ (dx _ (ia _ rfl)))))
 ·exact aU b9 _ _ _ (dx _ (dx _ (dx _ (at_ _ _ _ default (by simp only[kU]) rfl))))
end
end
section
variable [c5]
def afg:typeLookup (.type "zip") "keys"=pure none:=by rw[typeLookup_type,builtinLookup_eq_fast];kernel_rfl
def aeA:typeLookup (.type "zip") "__getattr__"=pure none:=by rw[typeLookup_type,builtinLookup_eq_fast];kernel_rfl
def ae2:entryFor table "zip.__getattribute__"=some Builtin.«object.__getattribute__»:=entryFor_alias (id':="object.__getattribute__") (by kernel_rfl) (by decide +kernel) (by decide +kernel) (by kernel_rfl)
def aez(a:ak)(vs:Array aq)(name:Str)(u:Tok)(akD:typeLookup (.type "zip") name=pure none)(YG:(["__module__","__name__","__qualname__","__doc__","__annotations__"]:List Str).contains name=false)(hsz:name.length+100<=cF):
  Meets (Builtin.«object.__getattribute__» ⟨[.ref a,.str name u],[]⟩) (λA R s=>s.heap.get? a=some {cls:=.type "zip",dict:=none,data:=.fields vs,slots:=#[]}/\raisesAttr (.ref a) name A R s):=
 Meets.of_wp λprog w A R s aw=>by
  obtain⟨aC,g,d,tk,os⟩:=s;obtain⟨hx,aw⟩:=aw;have ty:(⟨aC,g,d,tk,os⟩:aQ).TypeIs (.ref a) "zip":=⟨_,hx,rfl⟩;unfold Builtin.«object.__getattribute__»
  repeat (any_goals (first|assumption|wp_step))
  simp only[YG,j5,if_false]
  repeat (any_goals (first|assumption|wp_step))
  exact wpAny_raiseAttrError aw.1 aw.2 (attrMsg_fits (by decide +kernel) hsz)
def ahi{prog:cQ}{w:cB}{A:di}{E:aq->aQ->Prop}{s:aQ}{a:ak}{vs:Array aq}{Q:Option aq->aQ->Prop}
  (hx:s.heap.get? a=some {cls:=.type "zip",dict:=none,data:=.fields vs,slots:=#[]}) (s9:A.handled=none)
  (h:∀h' tk,(∀b o,s.heap.get? b=some o->h'.get? b=some o)->Q none {s with heap:=h',toks:=tk}):
  bK (bZ prog w) A (getAttr? (.ref a) "keys") Q E s:=by
 obtain⟨aC,g,d,tk,os⟩:=s;have ty:∀BI,(⟨aC,g,d,BI,os⟩:aQ).TypeIs (.ref a) "zip":=λ_=>⟨_,hx,rfl⟩;have f1:=sub_AttributeError;have hc:=F.slot_zip_getattribute.lookup;have f4:=F.slot_zip_getattribute.bind (.ref a);have hg:=aeA;have nm:(["__module__","__name__","__qualname__","__doc__","__annotations__"]:List Str).contains ("keys":Str)=false:=by decide +kernel
 have jd:("keys":Str).length+100<=cF:=by rw[lE];decide
 unfold getAttr? getAttrBy? getAttrBy
 repeat (any_goals (first|assumption|exact ty _|((with_reducible show bK _ _ (call (Value.builtin "zip.__getattribute__") _ _) _ _ _);refine r3 F.slot_zip_getattribute (ty _) ae2 (F.args_zip_getattribute_2 _ _) (aez a vs "keys" _ afg nm jd) ⟨hx,s9,λh' BI e kj=>?_⟩)|wp_step))
 obtain⟨t',ym,he⟩:=kj.there;show bK _ _ (getattributeRaised _ _ _ _ _ _ _) _ _ _;unfold getattributeRaised
 repeat (any_goals (first|assumption|wp_step))
 exact h _ _ kj.keeps
section
variable {prog:cQ}{w:cB}{K:Type}[DecidableEq K]{knd:PySem.KeyKind prog w K}{A:di}{E:aq->aQ->Prop}{s:aQ}{R:Result->aQ->Prop}{z TI b0 bH bO bT bR:ak}{bX b9:Bool}{xs ys:Array aq}
noncomputable def sC(S z TI b0 bH bO bT bR:ak)(bX b9:Bool)(xs ys:Array aq)(i:Nat)(h:b5):Prop:=IsPair h TI (.ref bH) (.ref bO)/\(∃a b,IsPair h b0 a b)/\(hC bX h bH bT i/\fY bX h bT xs)/\(hC b9 h bO bR i/\fY b9 h bR ys) /\
 (fV h z TI b0 .none (.bool false)\/∃(T:Nat) (lp:Obj) (f:Bool),fV h z TI b0 (rawInt T) (.bool f)/\h.get? T=some lp/\T≠S/\T≠z/\T≠b0/\T≠bH/\T≠bO)
noncomputable def Kept(S z b0 bH bO:ak)(h h':b5):Prop:=∀c o,c≠S->c≠z->c≠b0->c≠bH->c≠bO->h.get? c=some o->h'.get? c=some o
def afv{S:ak}{i:Nat}{Q:Option aq->aQ->Prop}(c6:A.handled=none)(D:ZipApart z TI b0 bH bO bT bR)(st:sC S z TI b0 bH bO bT bR bX b9 xs ys i s.heap)(fJ:∃o,s.heap.get? S=some o)(jW:S≠z/\S≠b0/\S≠bH/\S≠bO)
  (hx:i<xs.size) (bN:i<ys.size)
  (jt:∀h' tk,IsPair h' s.heap.objs.size xs[i] ys[i]->sC S z TI b0 bH bO bT bR bX b9 xs ys (i+1) h'->(∀o,s.heap.get? S=some o->h'.get? S=some o)->Kept S z b0 bH bO s.heap h'->s.heap.objs.size<=h'.objs.size->Q (some (.ref s.heap.objs.size)) {s with heap:=h',toks:=tk}):
  bK (bZ prog w) A (pyNext (.ref z)) Q E s:=by
 obtain⟨et,⟨a,b,fl⟩,aP,ba,ar⟩:=st;have nT:∀{f0 f1:aq},fV s.heap z TI b0 f0 f1->z<s.heap.objs.size:=λh=>c3 h;have eD:s.TypeIs (.ref z) "zip":=by
  rcases ar with h|⟨T,lp,f,h,_⟩
  ·exact⟨_,h,rfl⟩
  ·exact⟨_,h,rfl⟩
 have N4:bH<s.heap.objs.size/\bO<s.heap.objs.size:=by
  obtain⟨dD,aR,_⟩:=aP.1.obj;obtain⟨fu,a7,_⟩:=ba.1.obj;exact⟨c3 aR,c3 a7⟩
 have UR:S<s.heap.objs.size:=by
  obtain⟨o,e⟩:=fJ;exact c3 e
 have wW:b0<s.heap.objs.size:=c3 fl;unfold pyNext;refine a6 (wpAny_attempt (oJ (name:=Str.ofString "__next__") eD F.slot_zip_next (nK F.slot_zip_next eD F.entry_zip_next ?_ (F.args_zip_next_1 _))));rcases ar with ar|⟨T,lp,f,ar,AB,t1,j0,t3,i0,rW⟩
 ·refine KS (hQ:=λi h=>hC bX h bH bT i/\fY bX h bT xs) (h1:=λi h=>hC b9 h bO bR i/\fY b9 h bR ys) D (nN (A:=A.in1) bX c6 bH bT D.l1i1 xs) (nN (A:=A.in1) b9 c6 bO bR D.l2i2 ys) ar et fl aP ba hx bN λh' x y tk iX py mK xj s1 s2 aC hsz aB=>cK ?_
  have ex:xs[i]=x:=e3 ((vn hx).symm.trans iX);have eL:ys[i]=y:=e3 ((vn bN).symm.trans py);subst ex eL;refine jt h' tk aC ⟨aB _ _ D.TIz D.TITO D.TIi1 D.TIi2 et,⟨_,_,xj⟩,s1,s2,.inr ⟨_,_,false,mK,aC,?_⟩⟩ (λo e=>aB _ _ jW.1 jW.2.1 jW.2.2.1 jW.2.2.2 e) (λc o _ cv eA c4 jS e=>aB c o cv eA c4 jS e) (by omega);exact⟨hW UR,hW (nT ar),hW wW,hW N4.1,hW N4.2⟩
 ·refine agP (hQ:=λi h=>hC bX h bH bT i/\fY bX h bT xs) (h1:=λi h=>hC b9 h bO bR i/\fY b9 h bR ys) D (nN (A:=A.in1) bX c6 bH bT D.l1i1 xs) (nN (A:=A.in1) b9 c6 bO bR D.l2i2 ys) ar AB et aP ba hx bN λh' x y tk iX py mK s1 s2 aC hsz aB=>cK ?_
  have ex:xs[i]=x:=e3 ((vn hx).symm.trans iX);have eL:ys[i]=y:=e3 ((vn bN).symm.trans py);subst ex eL;exact jt h' tk aC ⟨aB _ _ D.TIz D.TIi1 D.TIi2 et,⟨a,b,aB _ _ D.TOz D.TOi1 D.TOi2 fl⟩,s1,s2,.inr ⟨T,lp,true,mK,aB _ _ j0 i0 rW AB,t1,j0,t3,i0,rW⟩⟩ (λo e=>aB _ _ jW.1 jW.2.2.1 jW.2.2.2 e) (λc o _ cv eA c4 jS e=>aB c o cv c4 jS e) (by omega)
def afw{S:ak}{i:Nat}{Q:Option aq->aQ->Prop}(c6:A.handled=none)(D:ZipApart z TI b0 bH bO bT bR)(st:sC S z TI b0 bH bO bT bR bX b9 xs ys i s.heap)(jW:S≠z/\S≠b0/\S≠bH/\S≠bO)(aU:i=xs.size\/(i<xs.size/\i=ys.size))
  (jt:∀h' tk,(∀o,s.heap.get? S=some o->h'.get? S=some o)->Kept S z b0 bH bO s.heap h'->Q none {s with heap:=h',toks:=tk}):
  bK (bZ prog w) A (pyNext (.ref z)) Q E s:=by
 obtain⟨et,⟨a,b,fl⟩,aP,ba,ar⟩:=st;have eD:s.TypeIs (.ref z) "zip":=by
  rcases ar with h|⟨T,lp,f,h,_⟩
  ·exact⟨_,h,rfl⟩
  ·exact⟨_,h,rfl⟩
 unfold pyNext;refine a6 (wpAny_attempt (oJ (name:=Str.ofString "__next__") eD F.slot_zip_next (nK F.slot_zip_next eD F.entry_zip_next ?_ (F.args_zip_next_1 _))));rcases ar with ar|⟨T,lp,f,ar,AB,t1,j0,t3,i0,rW⟩
 ·refine KR (hQ:=λi h=>hC bX h bH bT i/\fY bX h bT xs) (h1:=λi h=>hC b9 h bO bR i/\fY b9 h bR ys) D (nN (A:=A.in1) bX c6 bH bT D.l1i1 xs) (nN (A:=A.in1) b9 c6 bO bR D.l2i2 ys) ar et fl aP ba aU λh' e tk aB he=>?_
  obtain⟨o,aH,aG⟩:=he;refine a6 (wpAny_isInstance (T:="StopIteration") (b:=true) ⟨o,aH,aG⟩ isSubtype_stop (cK ?_));exact jt h' tk (λo e=>aB _ _ jW.1 jW.2.1 jW.2.2.1 jW.2.2.2 e) λc o _ cv eA c4 jS e=>aB c o cv eA c4 jS e
 ·refine aeE (hQ:=λi h=>hC bX h bH bT i/\fY bX h bT xs) (h1:=λi h=>hC b9 h bO bR i/\fY b9 h bR ys) D (nN (A:=A.in1) bX c6 bH bT D.l1i1 xs) (nN (A:=A.in1) b9 c6 bO bR D.l2i2 ys) ar AB et aP ba aU λh' e tk aB he=>?_
  obtain⟨o,aH,aG⟩:=he;refine a6 (wpAny_isInstance (T:="StopIteration") (b:=true) ⟨o,aH,aG⟩ isSubtype_stop (cK ?_));exact jt h' tk (λo e=>aB _ _ jW.1 jW.2.2.1 jW.2.2.2 e) λc o _ cv eA c4 jS e=>aB c o cv c4 jS e
def sC.frame{S:ak}{i:Nat}{h h':b5}(st:sC S z TI b0 bH bO bT bR bX b9 xs ys i h)(fJ:∀c∈[z,TI,b0,bH,bO,bT,bR],S≠c)(k:∀c o,c≠S->h.get? c=some o->h'.get? c=some o):sC S z TI b0 bH bO bT bR bX b9 xs ys i h':=by
 obtain⟨et,⟨a,b,fl⟩,aP,ba,ar⟩:=st;have ne:∀c∈[z,TI,b0,bH,bO,bT,bR],c≠S:=λc aG=>(fJ c aG).symm;refine⟨k _ _ (ne _ (by simp)) et,⟨a,b,k _ _ (ne _ (by simp)) fl⟩,⟨aP.1.at λo e=>k _ _ (ne _ (by simp)) e,aP.2.at λo e=>k _ _ (ne _ (by simp)) e⟩,⟨ba.1.at λo e=>k _ _ (ne _ (by simp)) e,ba.2.at λo e=>k _ _ (ne _ (by simp)) e⟩,?_⟩;rcases ar with ar|⟨T,lp,f,ar,eD,t⟩
 ·exact .inl (k _ _ (ne z (by simp)) ar)
 ·exact .inr ⟨T,lp,f,k _ _ (ne z (by simp)) ar,k _ _ t.1 eD,t⟩
def ae6(c6:A.handled=none)(D:ZipApart z TI b0 bH bO bT bR)(S:ak)(fJ:∀c∈[z,TI,b0,bH,bO,bT,bR],S≠c)(kvs:List (K×aq))(u3:(kvs.map (·.1)).Nodup)(hlen:kvs.length=min xs.size ys.size)(ar:kvs.length<=cF)
  (th:∀(j:Nat) (cP:K×aq),kvs[j]?=some cP->∃key,xs[j]?=some key/\knd.is cP.1 key=true/\ys[j]?=some cP.2):
  ∀(k i:Nat) (s:aQ) (c:Int) (fj:Tok),kvs.length - i=k->i<=kvs.length->sC S z TI b0 bH bO bT bR bX b9 xs ys i s.heap->s.heap.DictOf knd S (kvs.take i) ->
   (∀h' tk,Kept S z b0 bH bO s.heap h'->h'.DictOf knd S kvs->R (.ok (.ret .none)) {s with heap:=h',toks:=tk}) ->
   codeAny (bZ prog w) A (.builtin "dict.update.loop" ⟨[.ref S,.ref z,.int c fj,.none],[]⟩) R s:=by
 have jW:S≠z/\S≠b0/\S≠bH/\S≠bO:=⟨fJ _ (by simp),fJ _ (by simp),fJ _ (by simp),fJ _ (by simp)⟩;intro k
 induction k with
|zero=>
  intro i s c fj aI aU mJ hd ta;have og:i=kvs.length:=by omega
  subst og;refine vu QJ ?_;rw[vo CX _];refine a6 (m:=pyNext (.ref z)) (afw (A:=A.in1) c6 D mJ jW (by omega) λh' tk F' aB=>?_);refine a6 (m:=Builtin.Dict.addKeywords S []) (cK ?_);rw[List.take_of_length_le (eh _)] at hd;exact cK (ta h' tk aB (hd.at λo e=>F' o e))
|succ k b7=>
  intro i s c fj aI aU mJ hd ta;have e7:i<kvs.length:=by omega
  have hx:i<xs.size:=by omega
  have bN:i<ys.size:=by omega
  have X2:∃o,s.heap.get? S=some o:=by
   obtain⟨o,_,_,e,_⟩:=hd;exact⟨o,e⟩
  refine vu QJ ?_
  rw[vo CX _];refine a6 (m:=pyNext (.ref z)) (afv (A:=A.in1) c6 D mJ X2 jW hx bN λh' tk aC lz F' aB hsz=>?_);have NS:kvs[i]?=some kvs[i]:=fO e7;obtain⟨key,aR,a7,gi⟩:=th i _ NS;have ex:xs[i]=key:=e3 ((vn hx).symm.trans aR);have eL:ys[i]=kvs[i].2:=e3 ((vn bN).symm.trans gi);rw[ex,eL] at aC;refine a6 (mY (a6 (wpAny_tryCatch (pair_items (s:={s with heap:=h',toks:=tk}) aC rfl rfl ?_))));have qv:h'.DictOf knd S (kvs.take i):=hd.at λo e=>F' o e;refine mY (wpAny_dictSet_pairs (s:={s with heap:=h',toks:=tk}) a7 qv (λao hd2 NX=>?_) (by rw[List.length_take];omega));have nu:kvs[i].1∉(kvs.take i).map (·.1):=λq=>by
   rw[<- List.take_append_drop i kvs,List.map_append,pL] at u3;refine u3.2.2 _ q _ (dK.mpr ⟨kvs[i],?_,rfl⟩) rfl;rw[List.drop_eq_getElem_cons e7];exact e9
  rw[stored_new nu,show kvs.take i++[(kvs[i].1,kvs[i].2)]=kvs.take (i+1) by rw[List.take_succ,NS];rfl] at hd2;refine cK ⟨plainId_quiet CX _,b7 (i+1) _ _ _ (by omega) e7 (lz.frame fJ λc o aG e=>?_) hd2 λbG adM Hx Gi=>ta bG adM (λc o c8 cv eA c4 jS e=>Hx c o c8 cv eA c4 jS ?_) Gi⟩
  ·exact (NX.2 c aG).trans e
  ·exact (NX.2 c c8).trans (aB c o c8 cv eA c4 jS e)
def afX{kvs:List (K×aq)}{Q:aq->aQ->Prop}(c6:A.handled=none)(D:ZipApart z TI b0 bH bO bT bR)(st:sC s.heap.objs.size z TI b0 bH bO bT bR bX b9 xs ys 0 s.heap)(ar:fV s.heap z TI b0 .none (.bool false))(u3:(kvs.map (·.1)).Nodup)(hlen:kvs.length=min xs.size ys.size)(hsz:kvs.length<=cF)
  (th:∀(j:Nat) (cP:K×aq),kvs[j]?=some cP->∃key,xs[j]?=some key/\knd.is cP.1 key=true/\ys[j]?=some cP.2)
  (h:∀(h':b5) (tk:Nat),h'.DictOf knd s.heap.objs.size kvs->(∀c o,c≠z->c≠b0->c≠bH->c≠bO->s.heap.get? c=some o->h'.get? c=some o)->Q (.ref s.heap.objs.size) {s with heap:=h',toks:=tk}):
  bK (bZ prog w) A (call (.type "dict") [.ref z]) Q E s:=by
 obtain⟨et,⟨a,b,fl⟩,aP,ba,_⟩:=id st;have nT:z<s.heap.objs.size:=c3 ar;have fJ:∀c∈[z,TI,b0,bH,bO,bT,bR],s.heap.objs.size≠c:=by
  obtain⟨dD,aR,_⟩:=aP.1.obj;obtain⟨fu,a7,_⟩:=ba.1.obj;have a1:=c3 et;have a2:=c3 fl;have iH:=c3 aR;have k8:=c3 a7;have kf:=aP.2.lt;have k9:=ba.2.lt;intro c aG;simp only[cO,gQ,or_false] at aG;rcases aG with rfl|rfl|rfl|rfl|rfl|rfl|rfl
  ·exact hW nT
  ·exact hW a1
  ·exact hW a2
  ·exact hW iH
  ·exact hW k8
  ·exact hW kf
  ·exact hW k9
 refine callType_codes (Q₁:=λobj dO=>obj=.ref s.heap.objs.size/\dO={s with heap:=s.heap.push {cls:=.type "dict",data:=.dict #[]} }) F.kt_called_dict (F.kt_typeCall_dict_1 _) F.entry_dict_init (kt_code_dict_new _ ⟨rfl,rfl⟩) ?_
 rintro obj dO ⟨rfl,rfl⟩;have Fy:(s.heap.push {cls:=.type "dict",data:=.dict #[]}).DictOf knd s.heap.objs.size []:=Heap.DictOf.new s.heap;have tq:fV (s.heap.push {cls:=.type "dict",data:=.dict #[]}) z TI b0 .none (.bool false):=dx _ ar;refine⟨Fy.typeIs,F.args_dict_init_2 _ _,?_⟩;unfold Builtin.«dict.__init__»;refine a6 ?_;unfold Builtin.Dict.selfAndRest;refine a6 (wpAny_notOrdered_dict Fy.typeIs ?_);show bK _ _ (pure (s.heap.objs.size,[Value.ref z])) _ _ _;refine cK ?_;show bK _ _ (Builtin.Dict.updateFrom "dict.__init__" s.heap.objs.size (.ref z) [] .none) _ _ _;unfold Builtin.Dict.updateFrom;refine a6 (wpAny_typeOf (show Shared.TypeIs _ (.ref z) "zip" from ⟨_,tq,rfl⟩) ?_);rw[if_pos (by decide)];refine a6 (ahi tq (by simp[c6]) λao Js dV=>?_);have pn:IsZip ao z TI b0 .none:=dV _ _ tq;simp only[Option.isNone_none,if_true];refine a6 (wpAny_rule (a6 (wpAny_pyIter_zip (s:={s with heap:=ao,toks:=Js}) pn (cK ⟨plainId_quiet CX _,?_⟩))));have aB:∀c o,s.heap.get? c=some o->ao.get? c=some o:=λc o e=>dV _ _ (dx _ e);refine ae6 (knd:=knd) (by simp[c6]) D s.heap.objs.size fJ kvs u3 hlen hsz th (kvs.length - 0) 0 _ 0 _ (by omega) (j6 _) (st.frame fJ λc o _ e=>aB c o e) (by simpa using Fy.at λo e=>dV _ _ e) λh' tk Hx Gi=>⟨rfl,h h' tk Gi λc o cv eA c4 jS e=>?_⟩;exact Hx c o (e2 (c3 e)) cv eA c4 jS (aB c o e)
end
end
section
variable [c5]
def Kf{n bT bR:Nat}(ah:bT<n)(ao:bR<n):ZipApart (n+4) (n+2) (n+3) n (n+1) bT bR:=by constructor <;> (show (_:Nat)≠_) <;> omega
section
variable {X:bh}{a b:bc}{f g:bI}{p e0 pos mP:Pos}
noncomputable def kE:List bw.Key->List V->List (bw.Key×V)
|k::bf,v::vs=>(k,v)::kE bf vs
|_,_=>[]
theorem Q0:∀(bf:List bw.Key) (vs:List V),(kE bf vs).length=min bf.length vs.length
| [],vs=>by simp[kE]
|k::bf,[]=>by simp[kE]
|k::bf,v::vs=>by simp only[kE,g5,Q0 bf vs];omega
theorem Lg:∀{bf:List bw.Key} {vs:List V} {us:List aq},Vals vs us->f3 (kE bf vs) ((bf.zip us))
| [],vs,us,_=>by
  rw[show kE [] vs=[] from rfl,List.zip_nil_left];exact .nil
|k::bf,_,_,.nil=>.nil
|k::bf,_,_,.cons r t=>.cons ⟨rfl,r⟩ (Lg t)
def af3(X:bh){bf:List bw.Key}{us:List aq}{xs:List aq}(hx:Vals (bf.map ek) xs)(j:Nat)(cP:bw.Key×aq)(h:(bf.zip us)[j]?=some cP):∃key,xs.toArray[j]?=some key/\k1 cP.1 key=true/\us.toArray[j]?=some cP.2:=by
 rw[List.getElem?_zip_eq_some] at h;obtain⟨ah,ao⟩:=h;obtain⟨u,bp,ea⟩:=hx.get (i:=j) (x:=ek cP.1) (by rw[hK,ah];rfl);refine⟨u,by simpa using bp,wD (P:=X.prog) (w:=X.w) ea,by simpa using ao⟩
noncomputable def ajC(K:bo)(cD:fU):TE:=λσ H Q=>cD σ H λvs H1=>∃bT bR bf ys,vs=[.ref bT,.ref bR]/\gg K H1 bT (bf.map ek)/\c7 K H1 bR ys/\((kE bf ys).map (·.1)).Nodup/\(kE bf ys).length<=1000/\∀q,H1 q=none->Q (.ref q) (upd H1 q (.dA (kE bf ys)))
def afE{cD:fU}(aG:X.calm=true)(hd:X.mg "dict"=none)(ar:X.mg "zip"=none)(ax:hZ X [a,b] cD)(bt:fh X "dict")(Gp:fh X "zip")(nt:bA [a,b] X.env=(false,eval a X.env)::bA [b] X.env)(GA:(dQ mP (bA [b] X.env)).any (·.1)=false)
  (he:bA [.Call (.Name "zip" e0) [a,b] [] mP] X.env=(false,eval (.Call (.Name "zip" e0) [a,b] [] mP) X.env)::bA [] X.env) (hpl:(dQ pos (bA [] X.env)).any (·.1)=false):
  bW X (.Call (.Name "dict" p) [.Call (.Name "zip" e0) [a,b] [] mP] [] pos) (ajC X.K cD):=by
 intro ai s σ H Q I h;refine ak8 (sq I bt hd PyProof.Rows.boot_dict ?_);refine tT ?_ he hpl;rw[he];show bK _ _ (spliced ((false,eval (.Call (.Name "zip" e0) [a,b] [] mP) X.env)::dQ pos (bA [] X.env))) _ _ s;refine Calls.spliced_cons (ak8 (sq I Gp ar PyProof.Rows.boot_zip (tT (cA (ax mP ai s σ H _ I h) λus s1 ⟨vs,H1,bC,bg,aP⟩=>?_) nt GA)));obtain⟨bT,bR,bf,ys,rfl,jw,jX,u3,hle,q⟩:=aP;obtain⟨BL,vi,rfl,aR,a7⟩:=bg.two;cases aR;cases a7;obtain⟨its,b8,pl,tq⟩:=bC.list jw;obtain⟨fA,lx,IZ,pn⟩:=bC.tuple jX;have eY:fY true s1.heap bT its.toArray:=pl.isList;have dV:fY false s1.heap bR fA.toArray:=IZ;refine KJ eY dV λh' rK et fl od oe hsz aI=>Calls.spliced_nil ?_;have ju:bf.length=its.length:=by have:=b8.length;simpa using this
 have xw:ys.length=fA.length:=lx.length;have hlen:(bf.zip fA).length=(kE bf ys).length:=by rw[Q0,List.length_zip,xw]
 have Gr:(bf.zip fA).map (·.1)=(kE bf ys).map (·.1):=(RP (Lg lx)).symm;have big:=bC.big;have BE:h'.objs.size=s1.heap.objs.size+5:=hsz;refine afX (knd:=fF X.prog X.w) (kvs:=bf.zip fA) (s:={s1 with heap:=h'}) (bC.ok.hd aG) (Kf eY.lt dV.lt) ⟨et,⟨_,_,fl⟩,⟨od,eY.at λo e=>aI _ o e⟩,⟨oe,dV.at λo e=>aI _ o e⟩,.inl rK⟩ rK (by rw[Gr];exact u3) (by rw[List.length_zip,eb,eb,ju]) (by rw[hlen,lE];omega) (λj cP e=>af3 X b8 j cP e) λao tk hd2 xQ=>?_;have keep:∀c o,s1.heap.get? c=some o->ao.get? c=some o:=λc o e=>by
  have aG:c<s1.heap.objs.size:=c3 e;have ne:∀m:Nat,c≠s1.heap.objs.size+m:=λm=>e2 (kv aG (oK _ m));exact xQ c o (ne 4) (ne 3) (ne 0) (ne 1) (aI c o e)
 have Il:s1.heap.objs.size<=h'.objs.size:=by rw[BE];exact oK _ _
 refine⟨.ref h'.objs.size,_,KD (s:=s1) bC (o:=.dA (kE bf ys)) (d':=s1.drawn) (t':=tk) keep Il ⟨by rw[lE];omega,?_,bf.zip fA,Lg lx,hd2⟩,rfl,q _ (bC.b'.fresh Il)⟩
 rw[beq_eq_false_iff_ne];exact hW (kv big Il)
variable {c C i j:Nat}{ns:List Str}{fn:Str}{o:bc}{apos:Pos}
theorem Q1{K:bo}{F:ak->Prop}{H:aE}:∀{lk lv:List T} {kvs:List (D.Key×T)} {ws ys:List V},sz lk lv=some kvs->bj K F H lk ws->bj K F H lv ys->(∀t∈lk,∃k,keyOf t=some k)->∃bf:List bw.Key,ws=bf.map ek/\eO K F H kvs (kE bf ys)/\(kE bf ys).map (·.1)=kvs.map (·.1)
| [],lv,kvs,ws,ys,e,ah,ao,_=>by
  cases e
  simp only[bj] at ah;subst ah;exact⟨[],rfl,rfl,rfl⟩
|t::lk,[],kvs,ws,ys,e,ah,ao,ax=>by
  cases e
  simp only[bj] at ah ao;subst ao;obtain⟨v,r,rfl,q,z⟩:=ah;obtain⟨k,aI⟩:=ax t (by simp);have a':v=ek k:=si (O:=λ_=>False) aI (.inl q);have key:∀{lk:List T} {r:List V},bj K F H lk r->(∀t∈lk,∃k,keyOf t=some k)->∃bf:List bw.Key,r=bf.map ek:=by
   intro lk
   induction lk with
   |nil=>
    intro r h _;simp only[bj] at h;exact⟨[],h⟩
   |cons t lk b7=>
    intro r h ax;simp only[bj] at h;obtain⟨v,cE,rfl,q,z⟩:=h;obtain⟨k,aI⟩:=ax t (by simp);obtain⟨bf,rfl⟩:=b7 z λu bp=>ax u (dT _ bp);exact⟨k::bf,by rw[si (O:=λ_=>False) aI (.inl q)];rfl⟩
  obtain⟨bf,rfl⟩:=key z λu bp=>ax u (dT _ bp);exact⟨k::bf,by rw[a'];rfl,rfl,rfl⟩
|t::lk,u::lv,kvs,ws,ys,e,ah,ao,ax=>by
  simp only[sz,cb,dP] at e;obtain⟨k,aI,r,d2,rfl⟩:=e;simp only[bj] at ah ao;obtain⟨v,bg,rfl,aP,jh⟩:=ah;obtain⟨w,cf,rfl,ba,hp⟩:=ao;obtain⟨bf,rfl,ip,vb⟩:=Q1 d2 jh hp λu bp=>ax u (dT _ bp);exact⟨k::bf,by rw[si (O:=λ_=>False) aI (.inl aP)];rfl,⟨w,_,rfl,ba,ip⟩,by simp[kE,vb]⟩
def Rx(k:hy X.K c C ns)(aG:X.calm=true)(hd:X.mg "dict"=none)(ar:X.mg "zip"=none)(a8:bW X o (gN i))(ax:ez X a f)(ae:ez X b g){pa:Pos}(bD:ns[j]?=some fn:=by rfl)(bt:fh X "dict":=by rfl)(Gp:fh X "zip":=by rfl)
  (nt:bA [a,b] X.env=(false,eval a X.env)::bA [b] X.env:=by rfl) (Yj:bA [b] X.env=(false,eval b X.env)::bA [] X.env:=by rfl) (GA:(dQ mP (bA [b] X.env)).any (·.1)=false:=by rfl)
  (he:bA [.Call (.Name "zip" e0) [a,b] [] mP] X.env=(false,eval (.Call (.Name "zip" e0) [a,b] [] mP) X.env)::bA [] X.env:=by rfl) (hpl:(dQ pa (bA [] X.env)).any (·.1)=false:=by rfl)
  (aw:jg (.Call (.Name "dict" p) [.Call (.Name "zip" e0) [a,b] [] mP] [] pa) (some (.Attribute o fn apos)) pos.line X.env=pure false:=by rfl):
  fS X (.Assign [.Attribute o fn apos] (.Call (.Name "dict" p) [.Call (.Name "zip" e0) [a,b] [] mP] [] pa) pos) (wI c i j f g):=
 ht (LI a8 (afE aG hd ar (ix ax (ix ae kZ Yj) nt) bt Gp nt GA he hpl) aw) λD σ H ⟨aF,E,O,F,ag,o,r,e,bV⟩=>by
 simp only[wI,cb] at e;obtain⟨tk,XJ,hI,XK,e⟩:=e;split at e
 next lk lv=>
  simp only[cb] at e;obtain⟨kvs,w_,e⟩:=e;split at e
  next NJ=>
   simp only[dP] at e;obtain⟨ε',es,rfl⟩:=e;refine⟨aF,E,O,F,ag,_,r,XJ,λv1 aZ H1 aL aP=>⟨aF,E,O,aZ,ag,_,r.ext aL,XK,λv2 cX bb bx ba=>?_⟩⟩;obtain⟨bT,ws,rfl,ju,pk⟩:=(aP.ext bx).lst;obtain⟨bR,ys,rfl,xw,mI⟩:=ba.tup;obtain⟨bf,rfl,ip,vb⟩:=Q1 w_ pk mI λt aX=>Option.isSome_iff_exists.mp (NJ.2.2 t aX);have qO:=aL.trans bx;refine⟨bT,bR,bf,ys,rfl,.inl ju,xw,by rw[vb];exact NJ.1,by have:=congrArg List.length vb;simp only[g6] at this;omega,λq bS=>?_⟩;have d6:=Ext.laid (o:=.dA (kE bf ys)) qO.cn bS;have qP:=qO.trans d6;have bg:=r.ext qP;have nu:H q=none:=qO.same.none bS;have gn:¬cX q:=λz=>by
    obtain⟨o,e⟩:=qO.cn q z;rw[bS] at e;cases e
   have e6:=es;unfold gb at e6;simp only[cb] at e6;obtain⟨⟨m,az⟩,aH,_⟩:=e6;obtain⟨VK,vs,bF,ah,hx,ay,ax,_⟩:=q' k bg aH;have hold:=K7 r qP nu;obtain⟨aB,cf⟩:=bg.BA (s:=.h5 kvs) (v:=.ref q) k aH ah ax es ⟨q,_,rfl,dH,eO.aB d6.aB ip⟩ (λd hd=>by
    have:d=q:=by simpa [dN,gp] using hd
    subst this;exact⟨gn,r.fr _ nu,hold i _ _ (kz aH) ah,λk u w _ f5 _ aI=>hold k u w f5 aI⟩) hx bD
   refine⟨_,ah,VK,C,bF,_,rfl,hx,k.cls,mq k bD,?_,bV σ cX _ (qP.aB.trans aB) cf⟩
   have:=k.pe;simp only[List.length_zip];omega
  next=>cases e
 next=>cases e
end
end
section
variable [c5]
open AutoSeq1 (wpAny_loadPart')
noncomputable def ow:T->T->Option T
|.tuple xs,.int k=>if 2<=k/\k<1000/\xs≠[]/\xs.length*k.toNat<=big then some (.tuple (dZ k.toNat xs).flatten) else none
|.list xs,.int k=>if 0<=k/\k<1000/\xs.length*k.toNat<=big then some (.list (dZ k.toNat xs).flatten) else none
|_,_=>none
def aen:fillsNumberSlot (.type "tuple") "mul"=pure false:=
 PySem.fillsNumberSlot_seq (id:="tuple.__mul__") (r:=some (.builtin "tuple.__rmul__")) F.slot_tuple_mul.lookup (by decide +kernel) F.slot_tuple_rmul.lookup (by decide +kernel)
def aeI:seqRepeat? (.type "tuple")=pure (some (.builtin "tuple.__mul__")):=by
 unfold seqRepeat?;rw[PySem.seqSlot_of (T:="tuple") (name:="__mul__") (id:="tuple.__mul__") F.slot_tuple_mul.lookup (by decide +kernel),PySem.seqSlot_of (T:="tuple") (name:="__rmul__") (id:="tuple.__rmul__") F.slot_tuple_rmul.lookup (by decide +kernel)];rfl
def afd(a:Int)(t:Tok)(l:ak)(its:Array aq)(n:Nat)(dU:Option ak)(dr:Array (Option aq)):Meets (Builtin.«int.__rmul__» ⟨[.int a t,.ref l],[]⟩) (λ_ R s=>s.heap.get? l=some {cls:=.type "tuple",dict:=dU,data:=.seq its n,slots:=dr}/\R (.ok (.ret Value.notImplemented)) s):=
 .of_wp λprog w A R s h=>by
  obtain⟨aC,g,d,tk,os⟩:=s;obtain⟨ay,h⟩:=h
  wp_walk
  exact⟨_,rfl,h⟩
def afG(l:ak)(its:Array aq)(n:Nat)(dU:Option ak)(dr:Array (Option aq))(k:Int)(t:Tok)(ah:2<=k)(ao:k<1000)(lg:its.isEmpty=false)(ar:its.size*k.toNat<=cF):
  Meets (Builtin.«tuple.__mul__» ⟨[.ref l,.int k t],[]⟩) (λ_ R s=>s.heap.get? l=some {cls:=.type "tuple",dict:=dU,data:=.seq its n,slots:=dr} /\
   R (.ok (.ret (.ref s.heap.objs.size))) {s with heap:=s.heap.push {cls:=.type "tuple",data:=.seq ((dZ k.toNat its).foldl (·++·) #[])} }):=
 .of_wp λprog w A R s h=>by
  obtain⟨aC,g,d,tk,os⟩:=s;obtain⟨ay,h⟩:=h;have c8:¬(decide (k < -(2 ^ 63)) || decide (k >= 2 ^ 63))=true:=by simp;omega
  have cv:¬(its.isEmpty || k==1)=true:=by simp[lg];omega
  have eA:¬(decide (k<=0) || its.isEmpty)=true:=by simp[lg];omega
  wp_walk using wpAny_loadPart' ay
  have N1:(its.size:Int)*k=((its.size*k.toNat:Nat):Int):=by
   have:(k.toNat:Int)=k:=Int.toNat_of_nonneg (by omega);rw[<- this]
   push_cast
   simp
  have c4:¬((its.size:Int)*k > (2 ^ 63 - 1) / 8):=by
   rw[N1];rw[lE] at ar;omega
  have jS:¬Builtin.Tuple.tupleTooMany ((its.size:Int)*k)=true:=by
   unfold Builtin.Tuple.tupleTooMany;rw[N1,decide_eq_true_iff];omega
  rw[if_neg c8]
  wp_walk using wpAny_loadPart' ay
  rw[if_neg cv,if_neg eA,if_neg c4,if_neg jS];unfold tS;refine a6 (qY (cK ⟨_,rfl,h⟩) ?_);have e:=foldl_rep its.toList k.toNat [];rw[tV] at e;show (List.foldl _ #[] (dZ k.toNat its)).size<=cF;have b1:List.foldl (λaL bx=>aL++bx) #[] (dZ k.toNat its)=(dZ k.toNat its.toList).flatten.toArray:=by simpa using e
  rw[b1,eb,len_rep,r2,Nat.mul_comm];exact ar
section
variable {X:bh}{a b:bc}{f g:bI}{pos:Pos}
def ah':fz X (mZ .Mult) (λx y H Q=>∃a k xs,x=.ref a/\y=.int k/\c7 X.K H a xs/\xs≠[]/\2<=k/\k<1000/\xs.length*k.toNat<=cF/\∀p,H p=none->Q (.ref p) (upd H p (.tup (dZ k.toNat xs).flatten))):=by
 intro ai s σ H x y v u Q I a4 bM h;obtain⟨l,k,xs,rfl,rfl,js,lg,ah,ao,ar,q⟩:=h;cases a4;obtain⟨t,rfl⟩:=bM;obtain⟨its,r,pl,_⟩:=I.tuple js;have ay:=r.length;obtain⟨⟨cls,dU,data,dr⟩,aH,aG,n,hd⟩:=id pl;simp only at aG hd;subst aG hd;have Yk:its.toArray.isEmpty=false:=by
  cases its with
  |nil=>
   cases xs with
   |nil=>exact absurd rfl lg
   |cons x xs=>simp at ay
  |cons=>rfl
 refine wpAny_binaryOp_repeat_ref (T:="tuple") (U:="int") (by decide) ⟨_,aH,rfl⟩ (λs'=>typeIs_int s' k t) aen F.fills_int_mul F.slot_int_rmul aeI F.slot_int_index.lookup
  (r3 F.slot_int_rmul (typeIs_int s k t) F.entry_int_rmul (F.args_int_rmul_2 _ _) (afd k t l its.toArray n dU dr)
   ⟨aH,rfl,⟨_,aH,rfl⟩,r3 F.slot_tuple_mul ⟨_,aH,rfl⟩ F.entry_tuple_mul (F.args_tuple_mul_2 _ _) (afG l its.toArray n dU dr k t ah ao Yk (by rw[eb,<- ay];exact ar)) ⟨aH,?_⟩⟩)
 have e:List.foldl (λaL bx=>aL++bx) #[] (dZ k.toNat its.toArray)=(dZ k.toNat its).flatten.toArray:=by simpa using foldl_rep its k.toNat []
 have pn:(dZ k.toNat xs).flatten.length<=cF:=by rw[len_rep,Nat.mul_comm];exact ar
 refine⟨.ref s.heap.objs.size,upd H s.heap.objs.size (.tup (dZ k.toNat xs).flatten),I.laid (t':=s.toks) (λb u e=>dx _ e) (eh _) ⟨pn,_,r.rep k.toNat,⟨_,ia _ rfl,rfl,0,?_⟩⟩,rfl,q _ I.fresh⟩
 exact congrArg (λz=>Data.seq z 0) e
def RL:fz X (mZ .Mult) (λx y H Q=>∃l k xs,x=.ref l/\y=.int k/\e' H l (.lst xs)/\0<=k/\k<1000/\xs.length*k.toNat<=cF/\∀p,H p=none->Q (.ref p) (upd H p (.lst (dZ k.toNat xs).flatten))):=by
 intro ai s σ H x y v u Q I a4 bM h;obtain⟨l,k,xs,rfl,rfl,js,ah,ao,ar,q⟩:=h;cases a4;obtain⟨t,rfl⟩:=bM;obtain⟨z,its,n,r,ay,e⟩:=Inv.xU I js;have hlen:its.toArray.size*k.toNat<=cF:=by rw[eb,<- ay];exact ar
 have Yc:¬its.toArray.size*k.toNat > (2 ^ 63 - 1) / 8:=by
  have:(cF:Nat)<=(2 ^ 63 - 1) / 8:=by decide
  omega
 have Ym:¬(!Builtin.List.listFitsIndex k)=true:=by rw[fitsIndex_both (by omega) (by omega)];exact kX
 have YC:¬Builtin.List.listTooLong (its.toArray.size*k.toNat)=true:=by rw[ahg hlen];exact kX
 have f0:∀m:Nat,List.foldl (λaL bx=>aL++bx) #[] (dZ m its.toArray)=(dZ m its).flatten.toArray:=λm=>by simpa using foldl_rep its m []
 have nu:List.foldl (λaL bx=>aL++bx) #[] (dZ (if its.toArray.isEmpty=true then 0 else k.toNat) its.toArray)=(dZ k.toNat its).flatten.toArray:=by
  rw[f0];cases its with
  |nil=>simp
  |cons a cE=>rw[if_neg (by simp)]
 refine wpAny_binaryOp_repeat_ref (T:="list") (U:="int") (by decide) ⟨_,e,rfl⟩ (λs'=>typeIs_int s' k t) noFill_list_mul F.fills_int_mul F.slot_int_rmul repeat_list F.slot_int_index.lookup
  (r3 F.slot_int_rmul (typeIs_int s k t) F.entry_int_rmul (F.args_int_rmul_2 _ _) (int___rmul___int_list k t l its.toArray n) ⟨e,rfl,⟨_,e,rfl⟩,r3 F.slot_list_mul ⟨_,e,rfl⟩ F.entry_list_mul (F.args_list_mul_2 _ _) (AutoListH.list___mul___list_int_3 l its.toArray n k t Ym Yc YC) ⟨e,?_⟩⟩)
 rw[nu];exact⟨.ref _,_,I.xS (t':=s.toks) (r.rep k.toNat) (by rw[len_rep,Nat.mul_comm];exact ar),rfl,q _ I.fresh⟩
theorem bj.rep{K:bo}{F:ak->Prop}{H:aE}{ts:List T}{vs:List V}(h:bj K F H ts vs):∀k:Nat,bj K F H (dZ k ts).flatten (dZ k vs).flatten
|0=>bj.nil
|k+1=>by
  rw[qT,qT,tU,tU];exact h.append (bj.rep h k)
def ajZ(ax:ez X a f)(ae:ez X b g):cg X (.BinOp a .Mult b pos) (af ow f g):=ec (uB (ah'.or RL) ax ae) (q7 (by
 intro O F H x y t gP jD Q d a4 bM e k;unfold ow at e;split at e
 next xs n=>
  split at e
  next ar=>
   cases e
   obtain⟨akV,vs,rfl,aw,av⟩:=a4.tup;rw[bM.int];refine .inl ⟨akV,_,vs,rfl,rfl,aw,λz=>?_,ar.1,ar.2.1,by rw[k0,<- av.length];exact ar.2.2.2,λp aC=>?_⟩
   ·subst z;exact ar.2.2.1 (List.eq_nil_of_length_eq_zero (by rw[av.length];rfl))
   ·have aL:=Ext.laid (o:=.tup (dZ n.toNat vs).flatten) d aC;refine k _ F _ aL ?_;simp only[Rep];exact⟨p,_,rfl,c7.of dH,(av.rep _).ext aL⟩
  next=>cases e
 next xs n=>
  split at e
  next ar=>
   cases e
   obtain⟨akV,vs,rfl,aw,av⟩:=a4.lst;rw[bM.int];refine .inr ⟨akV,_,vs,rfl,rfl,aw,ar.1,ar.2.1,by rw[k0,<- av.length];exact ar.2.2,λp aC=>?_⟩;have aL:=Ext.Bg (o:=.lst (dZ n.toNat vs).flatten) d aC;refine k _ _ _ aL ?_;simp only[Rep];exact⟨p,_,rfl,.inr rfl,.inl dH,(av.rep _).ext aL⟩
  next=>cases e
 ·cases e))
end
end
section
abbrev t0:c5:=⟨[],λ_=>[],λ_=>none⟩
noncomputable def eF(ns:List Int):T:=.list (ns.map .int)
noncomputable def Oq(K:bo):Bool:=K.all λp=>match p.2.cls with
|.type t=>t != "list"
|_=>true
theorem PS{α β:Type}[BEq α][LawfulBEq α]{a:α}{b:β}:∀{l:List (α×β)},l.lookup a=some b->(a,b)∈l
  | [],h=>by cases h
  | (x,y)::l,h=>by
    rw[nH] at h;split at h
    next q=>
      cases h
      have:a=x:=by simpa using q
      subst this;simp
    next=>exact dT _ (PS h)
def af9{K:bo}{H:aE}{a:ak}{ns:List Int}{d:List T->Option T}(hT:Oq K=true)(hd:d [eF ns]=some (.bool true))(fJ:gg K H a (ns.map V.int)):@spT t0 K 1 d [.ref a] H (λv _=>v=.dy true) λ_ _ _=>False:=by
 letI:=t0;rcases fJ with fJ|⟨o,its,n,aI,aG,_⟩
 ·refine⟨rfl,λb=>b=a,[eF ns],.bool true,⟨?_,λp aC=>by cases aC⟩,bj.cons ?_ bj.nil,hd,λv aM aj x r=>by simpa [Rep] using r⟩
  ·rintro b rfl;rcases fJ with q|⟨u,q⟩
   ·exact⟨_,q⟩
   ·exact⟨_,q⟩
  ·simp only[eF,Rep];exact⟨a,_,rfl,rfl,fJ,Kv ns⟩
 ·have:=List.all_eq_true.mp hT _ (PS aI);simp[aG] at this
def aiq{t:c5}(aX:t.fC=[]){P:cQ}{w:cB}{K:bo}{mg:Str->Option aq}{base:b5}{k n:Nat}{f:ak}{fd:gq}{ps:List Str}{d:List T->Option T}(F:fI P w K mg base fH k f fd ps (@spT t K n d)):fI P w K mg base fH k f fd ps (@spT t0 K n d):=by
 have o_:∀{F:ak->Prop} {H:aE},@gS t0 F H->@gS t F H:=λ{F H} h=>@gS.mk t F H (@gS.FA t0 F H h) (λp aC=>by rw[aX] at aC;cases aC);have Fz:∀{F:ak->Prop} {H:aE},@gS t F H->@gS t0 F H:=λ{F H} h=>@gS.mk t0 F H (@gS.FA t F H h) (λp aC=>by cases aC);refine F.imp λvs H Q E h=>?_;obtain⟨ay,F,ts,r,cn,q,e,nx⟩:=h;exact⟨ay,F,ts,r,o_ cn,q,e,λv aM aj x b8=>nx v aM aj (@Ext.mk t0 F H aM aj (@Ext.same t F H aM aj x) (@Ext.sub t F H aM aj x) (@Ext.new t F H aM aj x) (Fz (@Ext.cn t F H aM aj x))) b8⟩
end
section
variable [c5]
noncomputable def DU(K:bo)(a b:ak)(n m:Nat):kG:=
 ⟨λi H=>∃xs x ys y,c7 K H a xs/\xs[i]?=some x/\c7 K H b ys/\ys[i]?=some y/\xs.length=n/\ys.length=m,
  λi H x aj=>∃p u v,H p=none/\x=.ref p/\aj=upd H p (.tup [u,v])/\(∀xs,c7 K H a xs->xs[i]?=some u)/\∀ys,c7 K H b ys->ys[i]?=some v,
  λi H=>∃xs ys,c7 K H a xs/\c7 K H b ys/\xs.length=n/\ys.length=m/\(n<=i\/m<=i)⟩
noncomputable def US(z TI b0 bH bO bT bR:ak)(n m i:Nat)(h:b5):Prop:=fV h z TI b0 .none (.bool false)/\IsPair h TI (.ref bH) (.ref bO)/\(∃a b,IsPair h b0 a b)/\h.IsTupleIter bH bT i/\h.IsTupleIter bO bR i/\i<=n/\i<=m
def agQ{P:cQ}{w:cB}{K:bo}{es:List bc}{k:Nat}{pos:Pos}{z TI b0 bH bO bT bR:ak}{n m:Nat}(D:ZipApart z TI b0 bH bO bT bR):Turn P w K (.Tuple es k pos) (DU K bT bR n m) [z,TI,b0,bH,bO] z (US z TI b0 bH bO bT bR n m) where
 mem:=by simp
 obj:=λi h st b ae=>by
  obtain⟨ar,et,⟨a,c,fl⟩,ah,ao,_⟩:=st;simp only[cO,gQ,or_false] at ae;rcases ae with rfl|rfl|rfl|rfl|rfl
  ·exact⟨_,ar,λv q=>by cases (show Data.fields _=Data.cell v from q)⟩
  ·exact⟨_,et,λv q=>by cases (show Data.seq _ _=Data.cell v from q)⟩
  ·exact⟨_,fl,λv q=>by cases (show Data.seq _ _=Data.cell v from q)⟩
  ·obtain⟨o,aH,_,hd⟩:=ah;exact⟨o,aH,λv q=>by rw[hd] at q;cases q⟩
  ·obtain⟨o,aH,_,hd⟩:=ao;exact⟨o,aH,λv q=>by rw[hd] at q;cases q⟩
 keep:=λi h h' st bV=>by
  obtain⟨ar,et,⟨a,c,fl⟩,ah,ao,a8⟩:=st;exact⟨bV z (by simp) _ ar,bV TI (by simp) _ et,⟨a,c,bV b0 (by simp) _ fl⟩,ah.at λo q=>bV bH (by simp) o q,ao.at λo q=>bV bO (by simp) o q,a8⟩
 item:=by
  intro X hh hw hB aG i ai s σ H E I hf st bt;subst hh hw hB;obtain⟨xs,x,ys,y,jw,hx,jX,bN,a8,hm⟩:=bt;obtain⟨its,b8,oy,_⟩:=I.tuple jw;obtain⟨fA,lx,e0,_⟩:=I.tuple jX;obtain⟨u,bp,ea⟩:=b8.get hx;obtain⟨v,a',Je⟩:=lx.get bN;obtain⟨ar,et,⟨a,c,fl⟩,ah,ao,og,Gq⟩:=st;have aU:i<its.toArray.size:=by
   rw[eb];exact (fe.mp bp).1
  have bD:i<fA.toArray.size:=by
   rw[eb];exact (fe.mp a').1
  have Gu:=b8.length;have Gv:=lx.length;have eD:s.TypeIs (.ref z) "zip":=⟨_,ar,rfl⟩;have nT:z<s.heap.objs.size:=c3 ar;have wW:b0<s.heap.objs.size:=c3 fl;have D0:TI<s.heap.objs.size:=c3 et;have GV:bH<s.heap.objs.size:=by obtain⟨o,e,_⟩:=ah;exact c3 e
  have G5:bO<s.heap.objs.size:=by obtain⟨o,e,_⟩:=ao;exact c3 e
  have c6:=I.ok.hd aG;unfold pyNext;refine a6 (wpAny_attempt (oJ (name:=Str.ofString "__next__") eD F.slot_zip_next (nK F.slot_zip_next eD F.entry_zip_next ?_ (F.args_zip_next_1 _))));refine KS (hQ:=λi h=>h.IsTupleIter bH bT i/\h.IsTuple bT its.toArray) (h1:=λi h=>h.IsTupleIter bO bR i/\h.IsTuple bR fA.toArray) D (vG (A:=X.A.in1) c6 bH bT D.l1i1 its.toArray) (vG (A:=X.A.in1) c6 bO bR D.l2i2 fA.toArray) ar et fl ⟨ah,oy⟩ ⟨ao,e0⟩ aU bD λh' i2 tQ tk iX py mK xj s1 s2 aC hsz aB=>cK ?_;have ex:i2=u:=by
   rw[<- Array.getElem?_toList,show (its.toArray).toList=its from rfl,bp] at iX;exact (e3 iX).symm
  have eL:tQ=v:=by
   rw[<- Array.getElem?_toList,show (fA.toArray).toList=fA from rfl,a'] at py;exact (e3 py).symm
  subst ex eL;refine⟨_,rfl,wpAny_letOwnedTupleGo_zip mK λgk pn fm=>?_⟩;have dV:∀b o,b≠z->b≠b0->b≠bH->b≠bO->s.heap.get? b=some o->gk.get? b=some o:=λb o bX b9 akR lT q=>fm.extBut b o bX (aB b o bX b9 akR lT q);have fr:H s.heap.objs.size=none:=I.b'.fresh (eh _);have xi:gk.get? s.heap.objs.size=some {cls:=.type "tuple",data:=.seq #[i2,tQ]}:=fm.extBut _ _ (hW nT) aC;obtain⟨oL,jh,hp,q2,t_,uc⟩:=hf z (by simp);obtain⟨o0,dD,fu,tE,tF,ak0⟩:=hf b0 (by simp);obtain⟨f0,f1,f2,hc,f4,hg⟩:=hf bH (by simp);obtain⟨k_,g1,g2,g3,n',kN⟩:=hf bO (by simp);obtain⟨t0,_⟩:=hf TI (by simp);have pw:∀b o,H b=some o->b≠z/\b≠b0/\b≠bH/\b≠bO:=λb o q=>⟨λe=>(by rw[e,oL] at q;cases q),λe=>(by rw[e,o0] at q;cases q),λe=>(by rw[e,f0] at q;cases q),λe=>(by rw[e,k_] at q;cases q)⟩;have gz:∀b o,b∉[z,b0,bH,bO]->s.heap.get? b=some o->gk.get? b=some o:=λb o ae q=>by
   simp only[cO,gQ,or_false,not_or] at ae;exact dV b o ae.1 ae.2.1 ae.2.2.1 ae.2.2.2 q
  have ov:∀b o,H b=some o->b∉[z,b0,bH,bO]:=λb o q=>by
   simp only[cO,gQ,or_false,not_or];exact pw b o q
  have qx:fy X.prog X.w (upd H s.heap.objs.size (.tup [x,y])) gk:=by
   intro b o q;by_cases ae:b=s.heap.objs.size
   ·subst ae;rw[dH] at q;cases q;exact⟨by show 2<=cF;decide,[i2,tQ],.cons ea (.cons Je .nil),⟨_,xi,rfl,_,rfl⟩⟩
   ·rw[cw ae] at q;refine (I.b' b o q).kq (λc v cV du=>gz c v ?_ du) (λc du=>?_) λc ys du=>?_
    ·rcases cV with rfl|cV
     ·exact ov _ _ q
     ·exact ov _ _ cV
    ·rw[cw (ic du fr)];exact du
    ·rw[cw (ic du fr)];exact du
  have ck:bw.Inv X ai σ (upd H s.heap.objs.size (.tup [x,y])) {s with heap:=gk,toks:=tk}:=by
   refine I.step (g':=s.gens) (d':=s.drawn) (ch:=[z,b0,bH,bO]) (λb ae=>?_) (λb o _ _ cV q _=>gz b o cV q) (λb o _ _ cV q _=>⟨o.slots,gz b o cV q⟩) (λb o _ q n=>?_)
    (λb o cV q=>⟨o,gz b o cV q⟩) (λb ys q=>by rw[cw (ic q fr)];exact q) (λb o u q=>by rw[cw (ic q fr)];exact q) (λb ps q=>⟨#[],by rw[cw (ic q fr),q];simp⟩) (λm hm=>?_) qx I.bare
   ·simp only[cO,gQ,or_false] at ae;rcases ae with rfl|rfl|rfl|rfl
    ·exact⟨q2,jh,t_,uc⟩
    ·exact⟨tE,dD,tF,ak0⟩
    ·exact⟨hc,f1,f4,hg⟩
    ·exact⟨g3,g1,n',kN⟩
   ·rw[cw (e2 (c3 q))];exact n
   ·obtain⟨o,e6,ep,jv,r⟩:=hm;exact⟨o,e6,ep,dV _ o (Ne.symm jh) (Ne.symm dD) (Ne.symm f1) (Ne.symm g1) jv,r⟩
  refine⟨.ref s.heap.objs.size,_,ck,rfl,⟨s.heap.objs.size,x,y,fr,rfl,rfl,λws hw=>by rw[I.yj hw jw];exact hx,λws hw=>by rw[I.yj hw jX];exact bN⟩,⟨pn,fm.extBut _ _ D.TIz (aB _ _ D.TIz D.TITO D.TIi1 D.TIi2 et),⟨_,_,fm.extBut _ _ D.TOz xj⟩,s1.1.at λo q=>fm.extBut _ _ D.i1z q,s2.1.at λo q=>fm.extBut _ _ D.i2z q,?_,?_⟩,λb ae=>?_⟩
  ·rw[eb] at aU;omega
  ·rw[eb] at bD;omega
  ·simp only[cO,gQ,or_false] at ae;rcases ae with rfl|rfl|rfl|rfl|rfl
   ·rw[cw (e2 nT)];exact oL
   ·rw[cw (e2 D0)];exact t0
   ·rw[cw (e2 wW)];exact o0
   ·rw[cw (e2 GV)];exact f0
   ·rw[cw (e2 G5)];exact k_
 done:=by
  intro X hh hw hB aG i ai s σ H E I hf st bt;subst hh hw hB;obtain⟨xs,ys,jw,jX,a8,hm,aw⟩:=bt;obtain⟨its,b8,oy,_⟩:=I.tuple jw;obtain⟨fA,lx,e0,_⟩:=I.tuple jX;obtain⟨ar,et,⟨a,c,fl⟩,ah,ao,og,Gq⟩:=st;have Gu:=b8.length;have Gv:=lx.length;have eD:s.TypeIs (.ref z) "zip":=⟨_,ar,rfl⟩;have c6:=I.ok.hd aG;have aI:i=its.toArray.size\/(i<its.toArray.size/\i=fA.toArray.size):=by
   rw[eb,eb];omega
  unfold pyNext;refine a6 (wpAny_attempt (oJ (name:=Str.ofString "__next__") eD F.slot_zip_next (nK F.slot_zip_next eD F.entry_zip_next ?_ (F.args_zip_next_1 _))));refine KR (hQ:=λi h=>h.IsTupleIter bH bT i/\h.IsTuple bT its.toArray) (h1:=λi h=>h.IsTupleIter bO bR i/\h.IsTuple bR fA.toArray) D (vG (A:=X.A.in1) c6 bH bT D.l1i1 its.toArray) (vG (A:=X.A.in1) c6 bO bR D.l2i2 fA.toArray) ar et fl ⟨ah,oy⟩ ⟨ao,e0⟩ aI λh' e tk aB he=>?_;obtain⟨o,aH,cV⟩:=he;refine a6 (wpAny_isInstance (T:="StopIteration") (b:=true) ⟨o,aH,cV⟩ isSubtype_stop (cK ⟨rfl,?_⟩));obtain⟨oL,jh,hp,q2,t_,uc⟩:=hf z (by simp);obtain⟨o0,dD,fu,tE,tF,ak0⟩:=hf b0 (by simp);obtain⟨f0,f1,f2,hc,f4,hg⟩:=hf bH (by simp);obtain⟨k_,g1,g2,g3,n',kN⟩:=hf bO (by simp);have gz:∀b o,b∉[z,b0,bH,bO]->s.heap.get? b=some o->h'.get? b=some o:=λb o ae q=>by
   simp only[cO,gQ,or_false,not_or] at ae;exact aB b o ae.1 ae.2.1 ae.2.2.1 ae.2.2.2 q
  have ov:∀b o,H b=some o->b∉[z,b0,bH,bO]:=λb o q=>by
   simp only[cO,gQ,or_false,not_or];exact⟨λe=>(by rw[e,oL] at q;cases q),λe=>(by rw[e,o0] at q;cases q),λe=>(by rw[e,f0] at q;cases q),λe=>(by rw[e,k_] at q;cases q)⟩
  have qx:fy X.prog X.w H h':=by
   intro b o q;refine (I.b' b o q).kq (λc v cV du=>gz c v ?_ du) (λc du=>du) λc ys du=>du;rcases cV with rfl|cV
   ·exact ov _ _ q
   ·exact ov _ _ cV
  refine I.step (g':=s.gens) (d':=s.drawn) (ch:=[z,b0,bH,bO]) (λb ae=>?_) (λb o _ _ cV q _=>gz b o cV q) (λb o _ _ cV q _=>⟨o.slots,gz b o cV q⟩) (λb o _ q n=>n)
    (λb o cV q=>⟨o,gz b o cV q⟩) (λb ys q=>q) (λb o u q=>q) (λb ps q=>⟨#[],by rw[q];simp⟩) (λm hm=>?_) qx I.bare
  ·simp only[cO,gQ,or_false] at ae;rcases ae with rfl|rfl|rfl|rfl
   ·exact⟨q2,jh,t_,uc⟩
   ·exact⟨tE,dD,tF,ak0⟩
   ·exact⟨hc,f1,f4,hg⟩
   ·exact⟨g3,g1,n',kN⟩
  ·obtain⟨o,e6,ep,jv,r⟩:=hm;exact⟨o,e6,ep,aB _ o (Ne.symm jh) (Ne.symm dD) (Ne.symm f1) (Ne.symm g1) jv,r⟩
 self:=λ_ _ _ _ _ st h=>wpAny_pyIter_zip (f0:=.none) st.1 h
noncomputable def Y4(K:bo)(cD:fU):TI:=λσ H R=>cD σ H λvs H1=>∃a b xs ys,vs=[.ref a,.ref b]/\c7 K H1 a xs/\c7 K H1 b ys/\R (DU K a b xs.length ys.length) H1
section
variable {X:bh}{es:List bc}{k:Nat}{p pos e0:Pos}{a b:bc}{f g:bI}
def aiY{cD:fU}(bt:fh X "zip")(hm:X.mg "zip"=none)(ax:hZ X [a,b] cD)(aw:bA [a,b] X.env=(false,eval a X.env)::bA [b] X.env)(hpl:(dQ pos (bA [b] X.env)).any (·.1)=false):o5 X (.Tuple es k e0) (.Call (.Name "zip" p) [a,b] [] pos) (Y4 X.K cD):=by
 intro ai s σ H R I h;refine Call_ (sq I bt hm PyProof.Rows.boot_zip (tT (cA (ax pos ai s σ H _ I h) λus s1 ⟨vs,H1,bC,bg,aP⟩=>?_) aw hpl));obtain⟨bT,bR,xs,ys,rfl,jw,jX,q⟩:=aP;obtain⟨BL,vi,rfl,aR,a7⟩:=bg.two;cases aR;cases a7;obtain⟨its,b8,pl,_⟩:=bC.tuple jw;obtain⟨fA,lx,IZ,_⟩:=bC.tuple jX;have eY:fY false s1.heap bT its.toArray:=pl;have dV:fY false s1.heap bR fA.toArray:=IZ;refine KJ eY dV λh' rK et fl od oe hsz aI=>wpAny_pyIter_zip (f0:=.none) rK ?_;refine⟨s1.heap.objs.size+4,[s1.heap.objs.size+4,s1.heap.objs.size+2,s1.heap.objs.size+3,s1.heap.objs.size,s1.heap.objs.size+1],_,_,H1,rfl,bC.kept (t':=s1.toks) aI,agQ (Kf eY.lt dV.lt),⟨rK,et,⟨_,_,fl⟩,od,oe,j6 _,j6 _⟩,λb ae=>?_,q⟩;have iR:s1.heap.objs.size<=b:=by
  simp only[cO,gQ,or_false] at ae;rcases ae with rfl|rfl|rfl|rfl|rfl
  ·exact oK _ _
  ·exact oK _ _
  ·exact oK _ _
  ·exact eh _
  ·exact oK _ _
 exact bC.xa iR (bC.b'.fresh iR)
noncomputable def p'(ts us:List T):List T:=List.zipWith (λx y=>.tuple [x,y]) ts us
def ahq{K:bo}{a b:ak}{aZ:ak->Prop}{H1:aE}{ts us:List T}{vs ws:List V}(av:c7 K H1 a vs)(q:bj K aZ H1 ts vs)(mI:c7 K H1 b ws)(ba:bj K aZ H1 us ws):rm K (DU K a b vs.length ws.length) aZ H1 (p' ts us) where
 go:=λi F H t aB d e=>by
  have aU:=(fe.mp e).1;simp only[p',List.length_zipWith] at aU;obtain⟨v,ah,_⟩:=q.get (fO (show i<ts.length by omega));obtain⟨v2,ao,_⟩:=ba.get (fO (show i<us.length by omega));exact⟨vs,v,ws,v2,aB.tup _ _ av,ah,aB.tup _ _ mI,ao,rfl,rfl⟩
 kY:=λi F H t x aj aB d e y=>by
  obtain⟨p,v,v2,aC,rfl,rfl,tR,oH⟩:=y;have aU:=(fe.mp e).1;simp only[p',List.length_zipWith] at aU;have od:i<ts.length:=by omega
  have oe:i<us.length:=by omega
  obtain⟨ks,ah,ao⟩:=(q.aB aB).get (fO od);obtain⟨adX,bG,cT⟩:=(ba.aB aB).get (fO oe);have f9:=tR vs (aB.tup _ _ av);rw[ah] at f9;cases f9;have ph:=oH ws (aB.tup _ _ mI);rw[bG] at ph;cases ph;have aL:=Ext.laid (o:=.tup [v,v2]) d aC;refine⟨F,aL,?_⟩;have bB:t=.tuple [ts[i],us[i]]:=by
   rw[p',List.getElem?_zipWith,fO od,fO oe] at e;exact (e3 e).symm
  subst bB;simp only[Rep];exact⟨p,_,rfl,c7.of dH,bj.cons (ao.ext aL) (bj.cons (cT.ext aL) bj.nil)⟩
 stop:=λi F H aB ay=>⟨vs,ws,aB.tup _ _ av,aB.tup _ _ mI,rfl,rfl,by
  simp only[p',List.length_zipWith] at ay;rw[<- q.length,<- ba.length];omega⟩
def akb(hm:X.mg "zip"=none)(ax:cg X a f)(ae:cg X b g)(bt:fh X "zip":=by rfl)(aw:bA [a,b] X.env=(false,eval a X.env)::bA [b] X.env:=by rfl)(fm:bA [b] X.env=(false,eval b X.env)::bA [] X.env:=by rfl)(hpl:(dQ pos (bA [b] X.env)).any (·.1)=false:=by rfl):
  qk X (.Tuple es k e0) (.Call (.Name "zip" p) [a,b] [] pos) (m9 (hM f) (hM g)):=zB (aiY bt hm (ix ax (ix ae kZ fm) aw) aw hpl) λσ H R ⟨aF,aN,O,F,ag,ts,r,e,k⟩=>by
 simp only[m9,hM,dP,cb] at e;obtain⟨xs,⟨t,bB,aR⟩,ys,⟨u,eX,a7⟩,rfl⟩:=e;split at aR
 ·cases aR
  split at a7
  ·cases a7
   refine⟨aF,aN,O,F,ag,_,r,bB,λv aZ H1 aL aP=>⟨aF,aN,O,aZ,ag,_,r.ext aL,eX,λw cX bb bx ba=>?_⟩⟩
   have OD:=aP.ext bx;simp only[Rep] at OD ba;obtain⟨a1,vs,rfl,hj,pk⟩:=OD;obtain⟨a2,ws,rfl,fm,mI⟩:=ba;exact⟨a1,a2,vs,ws,rfl,hj,fm,k _ cX bb (aL.trans bx) (ahq hj pk fm mI)⟩
  ·cases a7
 ·cases aR
end
end
section
section
variable [c5]
variable {X:bh}{a b:bc}{f g:bI}{pos:Pos}
noncomputable def _m:T->T->Option T
|.int i,.int j=>if i=10/\j=9 then some (.int 1000000000) else none
|_,_=>none
end
end
section
noncomputable def u7:Option bw.Key->aq->Bool
|none,.none=>true
|none,_=>false
|some k,v=>k1 k v
noncomputable def ajh(w:cB):Option bw.Key->Int
|none=>reduceHash 4238894112
|some k=>N_ w k
def q4{v:aq}(h:u7 none v=true):v=.none:=by
 unfold u7 at h;split at h <;> first|rfl|cases h|contradiction
def Ko(k:bw.Key):k1 k .none=false:=by
 cases h:k1 k .none with
|false=>rfl
|true=>rcases me h with ⟨i,t,_,e⟩|⟨x,t,_,e⟩ <;> cases e
noncomputable def S6(prog:cQ)(w:cB):PySem.KeyKind prog w (Option bw.Key) where
 is:=u7
 hash:=ajh w
 inj:=λv a b ax ae=>by
  cases a with
  |none=>
   cases q4 ax
   cases b with
   |none=>rfl
   |some k=>rw[show u7 (some k) Value.none=k1 k .none from rfl,Ko] at ae;cases ae
  |some j=>
   cases b with
   |none=>
    cases q4 ae
    rw[show u7 (some j) Value.none=k1 j .none from rfl,Ko] at ax;cases ax
   |some k=>exact congrArg some ((fF prog w).inj v j k ax ae)
 byValue:=λk v h=>by
  cases k with
  |none=>cases q4 h;rfl
  |some k=>exact (fF prog w).byValue k v h
 pyHash:=λ{A E s k v Q} a' h=>by
  cases k with
  |none=>
   cases q4 a'
   exact PySem.W.pyHash_slot (T:="NoneType") rfl F.slot_NoneType_hash F.entry_NoneType_hash (F.args_NoneType_hash_1 _) (beq_builtin_none _) (.inl rfl) (a6 (cK (a6 (wpAny_mkInt (cK ⟨_,_,rfl,h⟩)))))
  |some k=>exact (fF prog w).pyHash a' h
 eqBool:=λ{A E s a b u v Q} bp a' h=>by
  cases a with
  |none=>
   cases q4 bp
   cases b with
   |none=>cases q4 a';exact SeqAt.EqAt.same _ _ _ _ _ (by simpa using h)
   |some k=>
    rcases me (show k1 k v=true from a') with ⟨i,t,rfl,rfl⟩|⟨x,t,rfl,rfl⟩
    ·exact SeqAt.EqAt.none_int i t _ _ _ _ (by simpa using h)
    ·exact SeqAt.EqAt.none_str x t _ _ _ _ (by simpa using h)
  |some j=>
   cases b with
   |none=>
    cases q4 a'
    rcases me (show k1 j u=true from bp) with ⟨i,t,rfl,rfl⟩|⟨x,t,rfl,rfl⟩
    ·exact SeqAt.EqAt.int_none i t _ _ _ _ (by simpa using h)
    ·exact SeqAt.EqAt.str_none x t _ _ _ _ (by simpa using h)
   |some k=>exact (fF prog w).eqBool (a:=j) (b:=k) bp a' (by simpa using h)
 «strs»:=λk x t v h=>by
  cases k with
  |none=>cases q4 h
  |some k=>exact (fF prog w).strs k x t v h
def ajj{prog:cQ}{w:cB}{h:b5}{a:ak}{vs:List (bw.Key×aq)}(dU:h.DictOf (fF prog w) a vs):h.MapOf (S6 prog w) a (λk=>match k with|none=>none|some k=>valueAt vs k):=by
 obtain⟨o,es,ep,aH,aG,hd,aI,hf⟩:=dU.mapOf;refine⟨o,es,ep,aH,aG,hd,λe he=>?_,λk=>?_⟩
 ·obtain⟨k,ah,ao⟩:=aI e he;exact⟨some k,ah,ao⟩
 ·cases k with
  |some k=>exact hf k
  |none=>
   show findBy u7 es none=none
   unfold findBy;rw[Option.map_eq_none_iff,Array.find?_eq_none];intro e he q;obtain⟨k,ah,_⟩:=aI e he;have:=q4 q;rw[show (fF prog w).is k e.key=k1 k e.key from rfl,this,Ko] at ah;cases ah
section
variable {X:bh}{ai:List (ak×Obj)}{σ:bw.St}{H:aE}{s:aQ}{a:ak}{d:V}{r:aq}{A:di}{E:aq->aQ->Prop}
def ajw{kvs:List (bw.Key×V)}{Q:aq->aQ->Prop}(I:Inv X ai σ H s)(e:e' H a (.dA kvs))(h:∀s',Inv X ai σ H s'->Q r s'):
  bK (bZ X.prog X.w) A (call (.builtin "dict.get") [.ref a,.none,r]) Q E s:=by
 obtain⟨z,hd,vs,rel,dU⟩:=wG I.b' e;exact call_meetsIn PySem.F.slot_dict_get dU.typeIs PySem.F.entry_dict_get (PySem.F.args_dict_get_3 _ _ _) (meets_dict_get_default (S6 X.prog X.w) a (k:=none) rfl hd r) ⟨_,ajj dU,h _ (I.tok _)⟩
end
noncomputable def aiG(kr ty yl:TE):TE:=λσ H Q=>kr σ H λx H1=>∃a,x=.ref a/\Me H1 a/\ty σ H1 λy bb=>yl σ bb λz dj=>(∃o,mw dj a y o/\Q (o.getD z) dj)\/(y=.gL/\(∃kvs,e' dj a (.dA kvs))/\Q z dj)
section
variable {X:bh}{o e f:bc}{apos dz:Pos}{kr ty yl:TE}
def ahb(bp:X.A.units+1<cLine)(aH:bW X o kr)(he:bW X e ty)(hf:bW X f yl)(m:M2 X o "get" apos e f dz):bW X (.Call (.Attribute o "get" apos) [e,f] [] dz) (aiG kr ty yl):=by
 intro ai s σ H Q I h;refine wpAny_Call_method m.base m.pe m.line PySem.F.plainAttrs_dict PySem.F.slot_dict_get PySem.F.type_dict_get (cA (aH ai s σ H _ I h) λu s1 ⟨x,H1,bC,a4,a,ex,d,aP⟩=>?_);subst ex;obtain rfl:u=Value.ref a:=a4;obtain⟨t1,j0,_⟩:=ajs bC d;refine⟨t1,j0,?_⟩;rw[m.trees];refine Calls.callWith_builtin rfl (Calls.evalArgs_plain (Calls.spliced_cons (cA (he ai s1 σ H1 _ bC aP) λft s2 ⟨y,bb,ck,bM,ba⟩=>
  Calls.spliced_cons (cA (hf ai s2 σ bb _ ck ba) λfv s3 ⟨z,dj,ej,vc,cU⟩=>Calls.spliced_nil ?_))))
 rcases cU with ⟨dX,g,cU⟩|⟨eL,⟨kvs,g⟩,cU⟩
 ·exact ajx bp ej g bM vc λgc s4 iE kp=>⟨_,dj,iE,kp,cU⟩
 ·subst eL;obtain rfl:ft=Value.none:=bM;exact ajw ej g λs4 iE=>⟨_,dj,iE,vc,cU⟩
end
variable [c5]
end
section
variable [c5]
open PySem.W (kas_ask kas_sort kat_run kat_snds kat_lt kat_kind KatTups KatLex KatGo kas_item KasT)
noncomputable def eD(x:Str×List T):T:=.tuple (.str x.1::x.2)
noncomputable def wo:T->T->Option T
|.list xs,.str y=>(strsOf xs).bind λss=>if y∈ss then some (.int (ss.idxOf y:Nat)) else none
|_,_=>none
theorem Qc{y:Str}:∀{ss:List Str} {m:Nat} {z:Str},m<ss.idxOf y->ss[m]?=some z->z≠y
|x::ss,0,z,h,e=>by
  simp at e;subst e;rintro rfl;simp at h
|x::ss,m+1,z,h,e=>by
  by_cases q:x=y
  ·subst q;simp at h
  ·have ae:(x==y)=false:=beq_eq_false_iff_ne.mpr q;rw[List.idxOf_cons,ae] at h;exact Qc (ss:=ss) (m:=m) (by simpa using h) (by simpa using e)
def ahj{X:bh}:DX X "list.index" (λx vs H Q=>∃(l:ak) (ss:List Str) (y:Str),x=.ref l/\vs=[.str y]/\gg X.K H l (ss.map V.str)/\y∈ss/\Q (.int (ss.idxOf y:Nat)) H):=by
 intro ai s σ H x vs v us Q I a4 b8 h;obtain⟨l,ss,y,rfl,rfl,bS,bN,q⟩:=h;cases a4;obtain⟨u,rfl,ea⟩:=b8.one;obtain⟨t,rfl⟩:=ea;obtain⟨its,r,⟨⟨cls,dU,data,dr⟩,n,aH,aG,hd,aw⟩,ar⟩:=I.list bS;simp only at aG hd aw;subst aG hd aw;have hlen:ss.length=its.length:=by have:=r.length;simpa using this
 have bD:ss.idxOf y<ss.length:=List.idxOf_lt_length_iff.mpr bN;rw[g6] at ar;rw[lE] at ar;refine r3 PySem.F.slot_list_index ⟨_,aH,rfl⟩ PySem.F.entry_list_index (PySem.F.args_list_index_2 _ _)
  (SeqAt.list_indexAt l its.toArray n _ _ (.str y t) (Value.isStrOf y) (ss.idxOf y) (by rw[eb];omega) (by omega) ?_ ?_) ⟨aH,λz mK=>?_,⟨V.int (ss.idxOf y:Nat),H,I.tok _,⟨_,rfl⟩,q⟩⟩
 ·obtain⟨u,bp⟩:=y8 r (fO bD);have tm:=(fe.mp bp).2;show Value.isStrOf y its[ss.idxOf y]=true;rw[tm,List.getElem_idxOf bD];simp[Value.isStrOf]
 ·intro m hm e7;have AG:m<ss.length:=by omega
  obtain⟨u,bp⟩:=y8 r (fO AG);have tm:=(fe.mp bp).2;show Value.isStrOf y its[m]=false;rw[tm];have:=Qc e7 (fO AG);simpa [Value.isStrOf] using this
 ·obtain⟨m,hm,e⟩:=List.getElem_of_mem (show z∈its by simpa using mK);have AG:m<ss.length:=by omega
  obtain⟨u,bp⟩:=y8 r (fO AG);have tm:=(fe.mp bp).2;rw[<- e,tm];exact SeqAt.EqAt.str_str _ _ _ _
section
variable {X:bh}{o e:bc}{f g:bI}{apos dz:Pos}
def ahV(aH:ez X o f)(he:ez X e g)(hj:bA [e] X.env=(false,eval e X.env)::bA [] X.env:=by rfl)
  (la:jf o "index" X.env (eval o X.env)=eval o X.env:=by rfl)
  (ob:((dQ dz (bA [e] X.env)).all (λx=>!x.1) && (mc dz (mb [] X.env)).all (λx=>x.1.isSome)
   && decide (([e]:List bc).length+([]:List Keyword).length+(if ([]:List Keyword).isEmpty then 0 else 1)<30))=true:=by rfl)
  (lb:(apos.endLine==dz.line)=true:=by rfl) (oi:(dQ dz (bA [] X.env)).any (·.1)=false:=by rfl):
  cg X (.Call (.Attribute o "index" apos) [e] [] dz) (af wo f g):=
 ec (zF yt PySem.F.slot_list_index PySem.F.type_list_index ahj aH (ix he kZ hj) la ob lb hj oi) λσ H Q ⟨aF,aN,O,F,ag,t,r,e,k⟩=>by
 simp only[af,cb] at e;obtain⟨x,ex,y,eL,e⟩:=e;unfold wo at e;split at e
 next xs y=>
  simp only[cb] at e;obtain⟨ss,qA,e⟩:=e;split at e
  next bN=>
   cases e
   have xD:=vM qA;subst xD;refine⟨aF,aN,O,F,ag,_,r,ex,λv aZ H1 aL aP=>?_⟩;obtain⟨oq,ws,rfl,ay,av⟩:=aP.lst;refine⟨.inl ⟨rfl,_,.inl ay⟩,aF,aN,O,aZ,ag,_,r.ext aL,eL,λw cX bb bx ba=>?_⟩;obtain⟨bT,akP,aR,xv,qz⟩:=(aP.ext bx).lst;cases aR;have mC:w=.str y:=ba.str;subst mC;have eX:=vJ qz;subst eX;exact⟨oq,ss,y,rfl,rfl,.inl xv,bN,k _ cX bb (aL.trans bx) (by simp[Rep])⟩
  next=>cases e
 next=>cases e
end
end
section
section
variable {prog:cQ}{w:cB}{A:di}{E:aq->aQ->Prop}{s:aQ}{Mr:Array Keyed}
noncomputable def Rz(Mr:Array Keyed)(st lz:SortSt):Prop:=arrOf lz=arrOf st/\failedOf lz=none/\pendingOf lz=#[(0,Mr.size,0)]
end
variable [c5]
end
section

end
section
variable [c5]
abbrev ako:=Ev->Option (Bool×Ev)
end
section

end
end D
end
section
namespace D
open PySem PySem.Spec PySem.Calls PySem.W PyProof.Rows PySem.Builtin PySem.Builtin.ObjectAttr PySem.Builtin.Getset_descriptor
end D
end
section
namespace D
open PySem PySem.Spec PyProof.Rows bw
section
variable [c5]
abbrev UG:=Ev->Bool
noncomputable def lr(f:bI):UG:=λag=>(f ag).isSome
end
section

end
section
variable [c5]
mutual
noncomputable def iP:T->T->Option Bool
|.int a,.int b=>some (decide (b<a))
|.tuple xs,.tuple ys=>tx xs ys
|_,_=>none
noncomputable def tx:List T->List T->Option Bool
| [],[]=>some false
| [],_::_=>some false
|_::_,[]=>some true
|x::xs,y::ys=>if hX x y then tx xs ys else iP x y
end
noncomputable def Md(A:di)(s:aQ)(y x:aq)(b:Bool):Prop:=
 ∀(prog:cQ) (w:cB) (E:aq->aQ->Prop) (Q:aq->aQ->Prop),Q (.bool b) s->bK (bZ prog w) A (richCompare .Gt y x) Q E s
inductive GoodG(A:di)(s:aQ)(fin:Bool):List (aq×aq)->Bool->Prop
|nil:GoodG A s fin [] fin
|eq {y x:aq} {r:List (aq×aq)} {b:Bool}:SeqAt.EqAt A s y x true->GoodG A s fin r b->GoodG A s fin ((y,x)::r) b
|lt {y x:aq} {r:List (aq×aq)} {b:Bool}:SeqAt.EqAt A s y x false->Md A s y x b->GoodG A s fin ((y,x)::r) b
section
open PySem.SeqAt
open PySem.AutoSeq1 (wpAny_loadPart')
open PySem.MeetsSeq PySem.MeetsSeq2 PySem.MeetsSeq3
def aeT(l b:ak)(items qD:Array aq)(n gJ:Nat)(dU nh:Option ak)(dr l8:Array (Option aq))(z:Bool):
  Meets (Builtin.«tuple.__gt__» ⟨[.ref l,.ref b],[]⟩)
   (λA R s=>s.heap.get? l=some {cls:=.type "tuple",dict:=dU,data:=.seq items n,slots:=dr}/\s.heap.get? b=some {cls:=.type "tuple",dict:=nh,data:=.seq qD gJ,slots:=l8} /\
    GoodG A.in1 s (decide (qD.size<items.size)) (items.toList.zip qD.toList) z/\R (.ok (.ret (.bool z))) s):=
 .of_wp λprog w A R s h=>by
  obtain⟨aC,g,d,tk,os⟩:=s;obtain⟨ay,ae,bt,h⟩:=h;have f2:=AutoSeq1.sub_tuple_tuple
  wp_walk using wpAny_loadPart' ay,wpAny_loadPart' ae,wpAny_forIn_list _ (λrest b s'=>b.1=none/\s'=⟨aC,g,d,tk,os⟩/\GoodG A.in1 ⟨aC,g,d,tk,os⟩ (decide (qD.size<items.size)) rest z) _
  case turn=>
   rintro⟨y,x⟩ rest b s' ⟨iR,rfl,kh⟩;cases kh with
   |eq he kh=>
    refine a6 (he prog w _ _ ?_)
    wp_walk
    exact⟨rfl,rfl,kh⟩
   |lt he e7=>
    refine a6 (he prog w _ _ ?_)
    have GB:=e7 prog w
    wp_walk using GB
    exact⟨_,rfl,h⟩
  case fin=>
   rintro⟨bX,b9⟩ s' ⟨iR,rfl,kh⟩;simp only at iR;subst iR;cases kh
   wp_walk
   exact⟨_,rfl,by simpa [Builtin.Tuple.tupleCompareSizes] using h⟩
  case h=>
   exact⟨rfl,rfl,bt⟩
mutual
theorem ahu:∀(qp db:T) (A:di) (s:aQ) (a b:aq) (as bs:List ak) (r:Bool),Reads s.heap a qp as->Reads s.heap b db bs->qp.canLay0=true->db.canLay0=true->A.units+min qp.depth db.depth<cLine->iP qp db=some r->Md A s a b r
|.int i,.int j,A,s,_,_,_,_,r,.int _ t,.int _ u,_,_,_,e=>by
  unfold iP at e;cases e;exact λprog w E Q q=>(PyProof.Rows.gt_int q:bK (bZ prog w) A (jE .Gt (.int i t) (.int j u)) Q E s)
|.tuple xs,.tuple ys,A,s,_,_,_,_,r,.tuple (a:=l) (o:=o) (vs:=vs) (n:=n) ah ao bG cT,.tuple (a:=gm) (o:=o') (vs:=eg) (n:=qE) eY dV gz mM,ax,ae,bp,e=>by
  unfold iP at e;simp only[PyData.canLay0] at ax ae;simp only[mX] at bp;have kh:=goodG_reads xs ys A.in1 s vs.toList eg.toList _ _ r cT mM ax ae (room_in bp) e;obtain⟨cls,dU,data,dr⟩:=o;obtain⟨Fx,nh,data2,l8⟩:=o';simp only at ao bG dV gz;subst ao bG dV gz;rw[r2,r2] at kh;exact λprog w E Q q=>richCompare_meets_room (op:=.Gt) ⟨_,ah,rfl⟩ ⟨_,eY,rfl⟩ PySem.F.slot_tuple_gt PySem.F.entry_tuple_gt (PySem.F.args_tuple_gt_2 _ _) (aeT l gm vs eg n qE dU nh dr l8 r)
   ⟨ah,eY,kh,show Value.bool r≠Value.notImplemented/\Q (.bool r) s from ⟨(λx=>nomatch x),q⟩⟩ (by omega)
|.none,_,_,_,_,_,_,_,_,_,_,_,_,_,e=>by simp[iP] at e
|.bool _,_,_,_,_,_,_,_,_,_,_,_,_,_,e=>by simp[iP] at e
|.str _,_,_,_,_,_,_,_,_,_,_,_,_,_,e=>by simp[iP] at e
|.list _,_,_,_,_,_,_,_,_,_,_,_,_,_,e=>by simp[iP] at e
|.dict _,_,_,_,_,_,_,_,_,_,_,_,_,_,e=>by simp[iP] at e
|.int _,.none,_,_,_,_,_,_,_,_,_,_,_,_,e=>by simp[iP] at e
|.int _,.bool _,_,_,_,_,_,_,_,_,_,_,_,_,e=>by simp[iP] at e
|.int _,.str _,_,_,_,_,_,_,_,_,_,_,_,_,e=>by simp[iP] at e
|.int _,.list _,_,_,_,_,_,_,_,_,_,_,_,_,e=>by simp[iP] at e
|.int _,.dict _,_,_,_,_,_,_,_,_,_,_,_,_,e=>by simp[iP] at e
|.int _,.tuple _,_,_,_,_,_,_,_,_,_,_,_,_,e=>by simp[iP] at e
|.tuple _,.none,_,_,_,_,_,_,_,_,_,_,_,_,e=>by simp[iP] at e
|.tuple _,.bool _,_,_,_,_,_,_,_,_,_,_,_,_,e=>by simp[iP] at e
|.tuple _,.str _,_,_,_,_,_,_,_,_,_,_,_,_,e=>by simp[iP] at e
|.tuple _,.list _,_,_,_,_,_,_,_,_,_,_,_,_,e=>by simp[iP] at e
|.tuple _,.dict _,_,_,_,_,_,_,_,_,_,_,_,_,e=>by simp[iP] at e
|.tuple _,.int _,_,_,_,_,_,_,_,_,_,_,_,_,e=>by simp[iP] at e
theorem goodG_reads:∀(xs ys:List T) (A:di) (s:aQ) (vs ws:List aq) (as bs:List ak) (r:Bool),ReadsAll s.heap vs xs as->ReadsAll s.heap ws ys bs->kW xs=true->kW ys=true->A.units+min (kV xs) (kV ys)<cLine->tx xs ys=some r->GoodG A s (decide (ws.length<vs.length)) (vs.zip ws) r
| [],[],A,s,_,_,_,_,r,.nil,.nil,_,_,_,e=>by
  unfold tx at e;cases e;exact .nil
| [],_::_,A,s,_,_,_,_,r,.nil,.cons _ _,_,_,_,e=>by
  unfold tx at e;cases e;exact GoodG.nil
|_::_,[],A,s,_,_,_,_,r,.cons _ _,.nil,_,_,_,e=>by
  unfold tx at e;cases e;exact GoodG.nil
|x::xs,y::ys,A,s,_,_,_,_,r,.cons bg cf,.cons aP ba,ax,ae,bp,e=>by
  simp only[kW,iu] at ax ae;simp only[kV] at bp;unfold tx at e;have he:=eqAt_reads x y A s _ _ _ _ bg aP ax.1 ae.1 (room_head bp);split at e
  next h=>
   rw[h] at he;have b7:=goodG_reads xs ys A s _ _ _ _ r cf ba ax.2 ae.2 (room_tail bp) e;rw[qU];simp only[g5,Nat.add_lt_add_iff_right];exact .eq he b7
  next h=>
   rw[Bool.not_eq_true] at h;rw[h] at he;rw[qU];exact .lt he (ahu x y A s _ _ _ _ r bg aP ax.1 ae.1 (room_head bp) e)
end
end
end
section
variable [c5]
structure Mh(X:bh)(e:bc)(f:bI):Prop where
 h:cg X e f
structure uL(X:bh)(st:Stmt)(g:bz):Prop where
 h:fS X st g
end
end D
end
section
namespace D
open PySem
noncomputable def LV(x:Str):Bool:=x.cps.toList.all λc=>decide (c<128)
end D
end
section
namespace D
open PySem PySem.Spec PyProof.Rows bw
section
variable [c5]
def Sk(n d:Nat)(hd:d<=n)(o:Option Int):D.dc n d o<=n:=by
 cases o with
|none=>exact hd
|some v=>
  simp only[D.dc];split <;> omega
end
section
variable [c5]
noncomputable def iG(K:bo)(b:Bool)(H:aE)(a:ak)(xs:List V):Prop:=match b with
|true=>gg K H a xs
|false=>c7 K H a xs
def Inv.ve{X:bh}{ai:List (ak×Obj)}{σ:bw.St}{H:aE}{s:aQ}{b:Bool}{a:ak}{xs:List V}(I:Inv X ai σ H s)(h:iG X.K b H a xs):∃its:List aq,Vals xs its/\fY b s.heap a its.toArray/\xs.length<=cF:=by
 cases b with
|true=>
  obtain⟨its,r,p,z⟩:=I.list h;exact⟨its,r,p.isList,z⟩
|false=>exact I.tuple h
def Inv.OR{X:bh}{ai:List (ak×Obj)}{σ:bw.St}{H:aE}{s:aQ}{b:Bool}{a:ak}{xs ys:List V}(I:Inv X ai σ H s)(h:iG X.K b H a xs)(h':iG X.K b H a ys):xs=ys:=by
 cases b with
|true=>exact I.Oc h h'
|false=>exact I.yj h h'
noncomputable def DV(K:bo)(bX b9:Bool)(a b:ak)(n m:Nat):kG:=
 ⟨λi H=>∃xs x ys y,iG K bX H a xs/\xs[i]?=some x/\iG K b9 H b ys/\ys[i]?=some y/\xs.length=n/\ys.length=m,
  λi H x aj=>∃p u v,H p=none/\x=.ref p/\aj=upd H p (.tup [u,v])/\(∀xs,iG K bX H a xs->xs[i]?=some u)/\∀ys,iG K b9 H b ys->ys[i]?=some v,
  λi H=>∃xs ys,iG K bX H a xs/\iG K b9 H b ys/\xs.length=n/\ys.length=m/\(n<=i\/m<=i)⟩
noncomputable def UT(bX b9:Bool)(z TI b0 bH bO bT bR:ak)(n m i:Nat)(h:b5):Prop:=fV h z TI b0 .none (.bool false)/\IsPair h TI (.ref bH) (.ref bO)/\(∃a b,IsPair h b0 a b)/\hC bX h bH bT i/\hC b9 h bO bR i/\i<=n/\i<=m
def af4{bX b9:Bool}{P:cQ}{w:cB}{K:bo}{es:List bc}{k:Nat}{pos:Pos}{z TI b0 bH bO bT bR:ak}{n m:Nat}(D:ZipApart z TI b0 bH bO bT bR):Turn P w K (.Tuple es k pos) (DV K bX b9 bT bR n m) [z,TI,b0,bH,bO] z (UT bX b9 z TI b0 bH bO bT bR n m) where
 mem:=by simp
 obj:=λi h st b ae=>by
  obtain⟨ar,et,⟨a,c,fl⟩,ah,ao,_⟩:=st;simp only[cO,gQ,or_false] at ae;rcases ae with rfl|rfl|rfl|rfl|rfl
  ·exact⟨_,ar,λv q=>by cases (show Data.fields _=Data.cell v from q)⟩
  ·exact⟨_,et,λv q=>by cases (show Data.seq _ _=Data.cell v from q)⟩
  ·exact⟨_,fl,λv q=>by cases (show Data.seq _ _=Data.cell v from q)⟩
  ·exact ah.obj
  ·exact ao.obj
 keep:=λi h h' st bV=>by
  obtain⟨ar,et,⟨a,c,fl⟩,ah,ao,a8⟩:=st;exact⟨bV z (by simp) _ ar,bV TI (by simp) _ et,⟨a,c,bV b0 (by simp) _ fl⟩,ah.at λo q=>bV bH (by simp) o q,ao.at λo q=>bV bO (by simp) o q,a8⟩
 item:=by
  intro X hh hw hB aG i ai s σ H E I hf st bt;subst hh hw hB;obtain⟨xs,x,ys,y,jw,hx,jX,bN,a8,hm⟩:=bt;obtain⟨its,b8,oy,_⟩:=Inv.ve I jw;obtain⟨fA,lx,e0,_⟩:=Inv.ve I jX;obtain⟨u,bp,ea⟩:=b8.get hx;obtain⟨v,a',Je⟩:=lx.get bN;obtain⟨ar,et,⟨a,c,fl⟩,ah,ao,og,Gq⟩:=st;have aU:i<its.toArray.size:=by
   rw[eb];exact (fe.mp bp).1
  have bD:i<fA.toArray.size:=by
   rw[eb];exact (fe.mp a').1
  have Gu:=b8.length;have Gv:=lx.length;have eD:s.TypeIs (.ref z) "zip":=⟨_,ar,rfl⟩;have nT:z<s.heap.objs.size:=c3 ar;have wW:b0<s.heap.objs.size:=c3 fl;have D0:TI<s.heap.objs.size:=c3 et;have GV:bH<s.heap.objs.size:=by obtain⟨o,e,_⟩:=ah.obj;exact c3 e
  have G5:bO<s.heap.objs.size:=by obtain⟨o,e,_⟩:=ao.obj;exact c3 e
  have c6:=I.ok.hd aG;unfold pyNext;refine a6 (wpAny_attempt (oJ (name:=Str.ofString "__next__") eD F.slot_zip_next (nK F.slot_zip_next eD F.entry_zip_next ?_ (F.args_zip_next_1 _))));refine KS (hQ:=λi h=>hC bX h bH bT i/\fY bX h bT its.toArray) (h1:=λi h=>hC b9 h bO bR i/\fY b9 h bR fA.toArray) D (nN (A:=X.A.in1) bX c6 bH bT D.l1i1 its.toArray) (nN (A:=X.A.in1) b9 c6 bO bR D.l2i2 fA.toArray) ar et fl ⟨ah,oy⟩ ⟨ao,e0⟩ aU bD λh' i2 tQ tk iX py mK xj s1 s2 aC hsz aB=>cK ?_;have ex:i2=u:=by
   rw[<- Array.getElem?_toList,show (its.toArray).toList=its from rfl,bp] at iX;exact (e3 iX).symm
  have eL:tQ=v:=by
   rw[<- Array.getElem?_toList,show (fA.toArray).toList=fA from rfl,a'] at py;exact (e3 py).symm
  subst ex eL;refine⟨_,rfl,wpAny_letOwnedTupleGo_zip mK λgk pn fm=>?_⟩;have dV:∀b o,b≠z->b≠b0->b≠bH->b≠bO->s.heap.get? b=some o->gk.get? b=some o:=λb o bX b9 akR lT q=>fm.extBut b o bX (aB b o bX b9 akR lT q);have fr:H s.heap.objs.size=none:=I.b'.fresh (eh _);have xi:gk.get? s.heap.objs.size=some {cls:=.type "tuple",data:=.seq #[i2,tQ]}:=fm.extBut _ _ (hW nT) aC;obtain⟨oL,jh,hp,q2,t_,uc⟩:=hf z (by simp);obtain⟨o0,dD,fu,tE,tF,ak0⟩:=hf b0 (by simp);obtain⟨f0,f1,f2,hc,f4,hg⟩:=hf bH (by simp);obtain⟨k_,g1,g2,g3,n',kN⟩:=hf bO (by simp);obtain⟨t0,_⟩:=hf TI (by simp);have pw:∀b o,H b=some o->b≠z/\b≠b0/\b≠bH/\b≠bO:=λb o q=>⟨λe=>(by rw[e,oL] at q;cases q),λe=>(by rw[e,o0] at q;cases q),λe=>(by rw[e,f0] at q;cases q),λe=>(by rw[e,k_] at q;cases q)⟩;have gz:∀b o,b∉[z,b0,bH,bO]->s.heap.get? b=some o->gk.get? b=some o:=λb o ae q=>by
   simp only[cO,gQ,or_false,not_or] at ae;exact dV b o ae.1 ae.2.1 ae.2.2.1 ae.2.2.2 q
  have ov:∀b o,H b=some o->b∉[z,b0,bH,bO]:=λb o q=>by
   simp only[cO,gQ,or_false,not_or];exact pw b o q
  have qx:fy X.prog X.w (upd H s.heap.objs.size (.tup [x,y])) gk:=by
   intro b o q;by_cases ae:b=s.heap.objs.size
   ·subst ae;rw[dH] at q;cases q;exact⟨by show 2<=cF;decide,[i2,tQ],.cons ea (.cons Je .nil),⟨_,xi,rfl,_,rfl⟩⟩
   ·rw[cw ae] at q;refine (I.b' b o q).kq (λc v cV du=>gz c v ?_ du) (λc du=>?_) λc ys du=>?_
    ·rcases cV with rfl|cV
     ·exact ov _ _ q
     ·exact ov _ _ cV
    ·rw[cw (ic du fr)];exact du
    ·rw[cw (ic du fr)];exact du
  have ck:bw.Inv X ai σ (upd H s.heap.objs.size (.tup [x,y])) {s with heap:=gk,toks:=tk}:=by
   refine I.step (g':=s.gens) (d':=s.drawn) (ch:=[z,b0,bH,bO]) (λb ae=>?_) (λb o _ _ cV q _=>gz b o cV q) (λb o _ _ cV q _=>⟨o.slots,gz b o cV q⟩) (λb o _ q n=>?_)
    (λb o cV q=>⟨o,gz b o cV q⟩) (λb ys q=>by rw[cw (ic q fr)];exact q) (λb o u q=>by rw[cw (ic q fr)];exact q) (λb ps q=>⟨#[],by rw[cw (ic q fr),q];simp⟩) (λm hm=>?_) qx I.bare
   ·simp only[cO,gQ,or_false] at ae;rcases ae with rfl|rfl|rfl|rfl
    ·exact⟨q2,jh,t_,uc⟩
    ·exact⟨tE,dD,tF,ak0⟩
    ·exact⟨hc,f1,f4,hg⟩
    ·exact⟨g3,g1,n',kN⟩
   ·rw[cw (e2 (c3 q))];exact n
   ·obtain⟨o,e6,ep,jv,r⟩:=hm;exact⟨o,e6,ep,dV _ o (Ne.symm jh) (Ne.symm dD) (Ne.symm f1) (Ne.symm g1) jv,r⟩
  refine⟨.ref s.heap.objs.size,_,ck,rfl,⟨s.heap.objs.size,x,y,fr,rfl,rfl,λws hw=>by rw[Inv.OR I hw jw];exact hx,λws hw=>by rw[Inv.OR I hw jX];exact bN⟩,⟨pn,fm.extBut _ _ D.TIz (aB _ _ D.TIz D.TITO D.TIi1 D.TIi2 et),⟨_,_,fm.extBut _ _ D.TOz xj⟩,s1.1.at λo q=>fm.extBut _ _ D.i1z q,s2.1.at λo q=>fm.extBut _ _ D.i2z q,?_,?_⟩,λb ae=>?_⟩
  ·rw[eb] at aU;omega
  ·rw[eb] at bD;omega
  ·simp only[cO,gQ,or_false] at ae;rcases ae with rfl|rfl|rfl|rfl|rfl
   ·rw[cw (e2 nT)];exact oL
   ·rw[cw (e2 D0)];exact t0
   ·rw[cw (e2 wW)];exact o0
   ·rw[cw (e2 GV)];exact f0
   ·rw[cw (e2 G5)];exact k_
 done:=by
  intro X hh hw hB aG i ai s σ H E I hf st bt;subst hh hw hB;obtain⟨xs,ys,jw,jX,a8,hm,aw⟩:=bt;obtain⟨its,b8,oy,_⟩:=Inv.ve I jw;obtain⟨fA,lx,e0,_⟩:=Inv.ve I jX;obtain⟨ar,et,⟨a,c,fl⟩,ah,ao,og,Gq⟩:=st;have Gu:=b8.length;have Gv:=lx.length;have eD:s.TypeIs (.ref z) "zip":=⟨_,ar,rfl⟩;have c6:=I.ok.hd aG;have aI:i=its.toArray.size\/(i<its.toArray.size/\i=fA.toArray.size):=by
   rw[eb,eb];omega
  unfold pyNext;refine a6 (wpAny_attempt (oJ (name:=Str.ofString "__next__") eD F.slot_zip_next (nK F.slot_zip_next eD F.entry_zip_next ?_ (F.args_zip_next_1 _))));refine KR (hQ:=λi h=>hC bX h bH bT i/\fY bX h bT its.toArray) (h1:=λi h=>hC b9 h bO bR i/\fY b9 h bR fA.toArray) D (nN (A:=X.A.in1) bX c6 bH bT D.l1i1 its.toArray) (nN (A:=X.A.in1) b9 c6 bO bR D.l2i2 fA.toArray) ar et fl ⟨ah,oy⟩ ⟨ao,e0⟩ aI λh' e tk aB he=>?_;obtain⟨o,aH,cV⟩:=he;refine a6 (wpAny_isInstance (T:="StopIteration") (b:=true) ⟨o,aH,cV⟩ isSubtype_stop (cK ⟨rfl,?_⟩));obtain⟨oL,jh,hp,q2,t_,uc⟩:=hf z (by simp);obtain⟨o0,dD,fu,tE,tF,ak0⟩:=hf b0 (by simp);obtain⟨f0,f1,f2,hc,f4,hg⟩:=hf bH (by simp);obtain⟨k_,g1,g2,g3,n',kN⟩:=hf bO (by simp);have gz:∀b o,b∉[z,b0,bH,bO]->s.heap.get? b=some o->h'.get? b=some o:=λb o ae q=>by
   simp only[cO,gQ,or_false,not_or] at ae;exact aB b o ae.1 ae.2.1 ae.2.2.1 ae.2.2.2 q
  have ov:∀b o,H b=some o->b∉[z,b0,bH,bO]:=λb o q=>by
   simp only[cO,gQ,or_false,not_or];exact⟨λe=>(by rw[e,oL] at q;cases q),λe=>(by rw[e,o0] at q;cases q),λe=>(by rw[e,f0] at q;cases q),λe=>(by rw[e,k_] at q;cases q)⟩
  have qx:fy X.prog X.w H h':=by
   intro b o q;refine (I.b' b o q).kq (λc v cV du=>gz c v ?_ du) (λc du=>du) λc ys du=>du;rcases cV with rfl|cV
   ·exact ov _ _ q
   ·exact ov _ _ cV
  refine I.step (g':=s.gens) (d':=s.drawn) (ch:=[z,b0,bH,bO]) (λb ae=>?_) (λb o _ _ cV q _=>gz b o cV q) (λb o _ _ cV q _=>⟨o.slots,gz b o cV q⟩) (λb o _ q n=>n)
    (λb o cV q=>⟨o,gz b o cV q⟩) (λb ys q=>q) (λb o u q=>q) (λb ps q=>⟨#[],by rw[q];simp⟩) (λm hm=>?_) qx I.bare
  ·simp only[cO,gQ,or_false] at ae;rcases ae with rfl|rfl|rfl|rfl
   ·exact⟨q2,jh,t_,uc⟩
   ·exact⟨tE,dD,tF,ak0⟩
   ·exact⟨hc,f1,f4,hg⟩
   ·exact⟨g3,g1,n',kN⟩
  ·obtain⟨o,e6,ep,jv,r⟩:=hm;exact⟨o,e6,ep,aB _ o (Ne.symm jh) (Ne.symm dD) (Ne.symm f1) (Ne.symm g1) jv,r⟩
 self:=λ_ _ _ _ _ st h=>wpAny_pyIter_zip (f0:=.none) st.1 h
noncomputable def Y5(K:bo)(cD:fU):TI:=λσ H R=>cD σ H λvs H1=>∃bX b9 a b xs ys,vs=[.ref a,.ref b]/\iG K bX H1 a xs/\iG K b9 H1 b ys/\R (DV K bX b9 a b xs.length ys.length) H1
section
variable {X:bh}{es:List bc}{k:Nat}{p pos e0:Pos}{a b:bc}{f g:bI}
def ah5{cD:fU}(bt:fh X "zip")(hm:X.mg "zip"=none)(ax:hZ X [a,b] cD)(aw:bA [a,b] X.env=(false,eval a X.env)::bA [b] X.env)(hpl:(dQ pos (bA [b] X.env)).any (·.1)=false):o5 X (.Tuple es k e0) (.Call (.Name "zip" p) [a,b] [] pos) (Y5 X.K cD):=by
 intro ai s σ H R I h;refine Call_ (sq I bt hm PyProof.Rows.boot_zip (tT (cA (ax pos ai s σ H _ I h) λus s1 ⟨vs,H1,bC,bg,aP⟩=>?_) aw hpl));obtain⟨bX,b9,bT,bR,xs,ys,rfl,jw,jX,q⟩:=aP;obtain⟨BL,vi,rfl,aR,a7⟩:=bg.two;cases aR;cases a7;obtain⟨its,b8,eY,_⟩:=Inv.ve bC jw;obtain⟨fA,lx,dV,_⟩:=Inv.ve bC jX;refine KJ eY dV λh' rK et fl od oe hsz aI=>wpAny_pyIter_zip (f0:=.none) rK ?_;refine⟨s1.heap.objs.size+4,[s1.heap.objs.size+4,s1.heap.objs.size+2,s1.heap.objs.size+3,s1.heap.objs.size,s1.heap.objs.size+1],_,_,H1,rfl,bC.kept (t':=s1.toks) aI,af4 (Kf eY.lt dV.lt),⟨rK,et,⟨_,_,fl⟩,od,oe,j6 _,j6 _⟩,λb ae=>?_,q⟩;have iR:s1.heap.objs.size<=b:=by
  simp only[cO,gQ,or_false] at ae;rcases ae with rfl|rfl|rfl|rfl|rfl
  ·exact oK _ _
  ·exact oK _ _
  ·exact oK _ _
  ·exact eh _
  ·exact oK _ _
 exact bC.xa iR (bC.b'.fresh iR)
end
end
section
variable [c5]
noncomputable def n_(i:Nat):bz:=λag=>match ag[i]? with
|some (some (.own ts))=>some (.bY (ag.set i (some (.ab (.list ts)))))
|_=>none
end
section
variable [c5]
noncomputable def rh:List T->Option T
| [.tuple ts]=>if (PyData.tuple ts).showable && !(PyData.tuple ts).hasDict && decide ((PyData.tuple ts).depth<=60) && decide ((PyData.tuple ts).shown.length<=1000000) then some (.str (PyData.tuple ts).shown) else none
|_=>none
section
variable {X:bh}{a:bc}{f:bI}{p pos:Pos}
def ais(Gn:X.A.guards=some [])(bp:X.A.units+62<cLine):mu X (.builtin "repr") (λxs H Q=>∃(l:ak) (t:T) (F:ak->Prop),xs=[.ref l]/\Rep X.K F H t (.ref l)/\t.showable=true/\t.hasDict=false/\t.depth<=60/\t.shown.length<=1000000/\Q (.str t.shown) H):=by
 intro ai s σ H xs us Q I r h;obtain⟨l,t,F,rfl,e1,ah,ao,bG,cT,q⟩:=h;obtain⟨u,rfl,a4⟩:=vals1 r;cases a4;obtain⟨as,ip⟩:=K3 I e1 (show RelV (.ref l) (.ref l) from rfl);refine PySem.repr_of_reads' ip ah (λz=>by rw[ao] at z;cases z) Gn (by omega) (λ_ _ e=>e) (λh' u tk keep=>?_) (by rw[lE];omega);exact⟨.str t.shown,H,I.kept (t':=tk) keep,⟨u,rfl⟩,q⟩
def ahU(Gn:X.A.guards=some [])(bp:X.A.units+62<cLine)(hm:X.mg "repr"=none){e:bc}{es:List bc}{az:List bI}(ax:qi X (e::es) az)(bt:fh X "repr":=by rfl)(he:bA (e::es) X.env=(false,eval e X.env)::bA es X.env:=by rfl)(hpl:(dQ pos (bA es X.env)).any (·.1)=false:=by rfl):
  cg X (.Call (.Name "repr" p) (e::es) [] pos) (bl rh az):=ec (y' (ais Gn bp) bt hm (by decide +kernel) ax (he:=he) (hpl:=hpl)) (zo (by
 intro O F H ts t vs Q d q e k;unfold rh at e;split at e
 next us=>
  split at e
  next ar=>
   cases e
   simp only[iu,Bool.not_eq_true',decide_eq_true_eq] at ar;cases q with
   |cons aP ba=>
    cases ba
    rcases aP with aP|⟨ts,a,vs,ah,_⟩
    ·obtain⟨a,ws,rfl,aw,av⟩:=gv.tup (O:=O) (.inl aP);exact⟨a,.tuple us,F,rfl,aP,ar.1.1.1,ar.1.1.2,ar.1.2,ar.2,k _ F H (Ext.refl d) (by simp[Rep])⟩
    ·cases ah
  next=>cases e
 next=>cases e))
def Sn{k:Nat}(av:d8 k X.A)(hm:X.mg "repr"=none){e:bc}{es:List bc}{az:List bI}(ax:qi X (e::es) az)(bt:fh X "repr":=by rfl)(he:bA (e::es) X.env=(false,eval e X.env)::bA es X.env:=by rfl)(hpl:(dQ pos (bA es X.env)).any (·.1)=false:=by rfl):
  cg X (.Call (.Name "repr" p) (e::es) [] pos) (bl rh az):=ahU av.mE (by have:=av.un;omega) hm ax bt he hpl
end
end
section
variable [c5]
structure rp(X:bh)(b:List Stmt)(g:bz):Prop where
 h:iF X b g
section
variable {X:bh}{e a b c:bc}{es:List bc}{f g:bI}{az:List bI}{gx:fg}{eP aw:bz}{st:Stmt}{rest w8:List Stmt}{pos:Pos}
def O9(h:cg X e f):Mh X e f:=⟨h⟩
def hJ(h:fS X st eP):uL X st eP:=⟨h⟩
def vj(aG:lR X c gx)(ax:rp X rest eP)(ae:rp X w8 aw):uL X (.If c rest w8 pos) (iff gx eP aw):=⟨dh aG ax.h ae.h⟩
def SX(i:Nat){x:Str}{pos':Pos}(fc:X.N.Nodup)(he:Mh X e f)(aU:X.N[i]?=some x:=by rfl)(hx:Loc X.env.scope x:=by first|exact Or.inl rfl|exact Or.inr rfl)
  (aw:jg e (some (.Name x pos')) pos.line X.env=pure false:=by rfl) (hf:X.fn x=true\/X.env.scope.names.lookup x=some .local:=by first|exact .inl rfl|exact .inr rfl):
  uL X (.Assign [.Name x pos'] e pos) (asg i f):=⟨ed i fc he.h aU hx aw hf⟩
def wx:rp X [] skip:=⟨eG⟩
def sx(h:uL X st eP):rp X [st] eP:=⟨bE h.h⟩
def hq(h:uL X st eP)(t:rp X rest aw):rp X (st::rest) (seq eP aw):=⟨bu h.h t.h⟩
def adY(h:rp X rest eP):iF X rest eP:=h.h
end
end
section
variable [c5]
structure hN(c:Nat)(ns:List Str):Prop where
 jT:c5.jT c=none
 eB:c5.eB c=ns
 aW:ns.Nodup
 pe:ns.length<=15
noncomputable def dM(ns:List Str)(vs:List V):List (bw.Key×V):=(ns.zip vs).map λp=>(.inr p.1,p.2)
def Ql{ns:List Str}{vs:List V}(h:vs.length<=ns.length):(dM ns vs).length=vs.length:=by
 simp[dM];omega
def aiA:∀{ns:List Str} {vs:List V} {f:Str},f∉ns->∀q∈dM ns vs,q.1≠.inr f
|ns,vs,f,h,q,bS=>by
  unfold dM at bS;obtain⟨⟨x,v⟩,aC,rfl⟩:=dK.mp bS;have:=(List.of_mem_zip aC).1;intro e;cases e;exact h this
theorem R7:∀{ns:List Str} {vs:List V} {j:Nat} {f:Str} {v:V},ns.Nodup->ns[j]?=some f->vs[j]?=some v->h9 (dM ns vs) (.inr f)=some v
| [],_,_,_,_,_,e,_=>by simp at e
|_::_,[],_,_,_,_,_,e=>by simp at e
|n::ns,w::vs,0,f,v,_,aR,a7=>by
  simp at aR a7;subst aR a7;simp[dM,h9]
|n::ns,w::vs,j+1,f,v,aW,aR,a7=>by
  have ne:n≠f:=by
   rintro rfl;exact (d0.mp aW).1 (ky (by simpa using aR))
  have b7:=R7 (j:=j) (d0.mp aW).2 (by simpa using aR) (by simpa using a7);have ae:decide ((Sum.inr n:bw.Key)=.inr f)=false:=decide_eq_false λz=>ne (Sum.inr.inj z);simp only[dM,h9,qU,dv,j4,ae] at b7 ⊢;exact b7
def aiz:∀{ns:List Str} {vs:List V} {j:Nat} {f:Str} {v:V},ns.Nodup->ns[j]?=some f->j<vs.length->putK (dM ns vs) (.inr f) v=dM ns (vs.set j v):=by
 intro ns vs j f v aW e h;have key:∀{ns:List Str} {vs:List V} {j:Nat},ns.Nodup->ns[j]?=some f->j<vs.length->((dM ns vs).any λcP=>decide (cP.1=.inr f))=true/\(dM ns vs).map (λcP=>if cP.1=.inr f then (cP.1,v) else cP)=dM ns (vs.set j v):=by
  intro ns
  induction ns with
  |nil=>intro vs j _ e _;simp at e
  |cons n ns b7=>
   intro vs j aW e h;cases vs with
   |nil=>simp at h
   |cons w vs=>
    cases j with
    |zero=>
     simp at e;subst e;refine⟨by simp[dM],?_⟩;have a8:(dM ns vs).map (λcP=>if cP.1=.inr n then (cP.1,v) else cP)=dM ns vs:=by
      conv=>rhs;rw[<- List.map_id (dM ns vs)]
      exact List.map_congr_left λq bS=>if_neg (aiA (d0.mp aW).1 q bS)
     show (λcP:bw.Key×V=>if cP.1=.inr n then (cP.1,v) else cP) (.inr n,w)::(dM ns vs).map _=(.inr n,v)::dM ns vs
     rw[a8];simp
    |succ j=>
     have ne:n≠f:=by
      rintro rfl;exact (d0.mp aW).1 (ky (by simpa using e))
     obtain⟨bH,bO⟩:=b7 (vs:=vs) (j:=j) (d0.mp aW).2 (by simpa using e) (by simpa using h);have nb:(Sum.inr n:bw.Key)≠.inr f:=λz=>ne (Sum.inr.inj z);refine⟨?_,?_⟩
     ·show (decide ((Sum.inr n:bw.Key)=.inr f) || (dM ns vs).any _)=true
      rw[bH,Bool.or_true]
     ·show (λcP:bw.Key×V=>if cP.1=.inr f then (cP.1,v) else cP) (.inr n,w)::(dM ns vs).map _=(.inr n,w)::dM ns (vs.set j v)
      rw[bO];simp only[if_neg nb]
 obtain⟨ah,ao⟩:=key aW e h;unfold putK;rw[if_pos ah];exact ao
theorem Rp:∀{ns:List Str} {vs:List V} {f:Str} {v:V},ns[vs.length]?=some f->dM ns vs++[(.inr f,v)]=dM ns (vs++[v])
| [],_,_,_,e=>by simp at e
|n::ns,[],f,v,e=>by
  simp at e;subst e;simp[dM]
|n::ns,w::vs,f,v,e=>by
  have b7:=Rp (ns:=ns) (vs:=vs) (f:=f) (v:=v) (by simpa using e);show (.inr n,w)::(dM ns vs++[(.inr f,v)])=(.inr n,w)::dM ns (vs++[v]);rw[b7]
def ahG{ns:List Str}{vs:List V}{f:Str}(aW:ns.Nodup)(e:ns[vs.length]?=some f):((dM ns vs).any λcP=>decide (cP.1=.inr f))=false:=by
 rw[List.any_eq_false];intro q bS;unfold dM at bS;obtain⟨⟨x,v⟩,aC,rfl⟩:=dK.mp bS;obtain⟨k,aI,a7⟩:=List.mem_iff_getElem.mp aC;rw[List.getElem_zip] at a7;cases a7;have Yv:k<vs.length:=by
  rw[List.length_zip] at aI;omega
 have Gr:k<ns.length:=by
  rw[List.length_zip] at aI;omega
 obtain⟨ay,gi⟩:=fe.mp e;simp only[decide_eq_true_eq];intro z;have lF:ns[k]=ns[vs.length]:=(Sum.inr.inj z).trans gi.symm;exact List.pairwise_iff_getElem.mp aW k vs.length Gr ay Yv lF
def PV{ns:List Str}{vs:List V}{f:Str}{v:V}(aW:ns.Nodup)(e:ns[vs.length]?=some f):putK (dM ns vs) (.inr f) v=dM ns (vs++[v]):=by
 unfold putK;rw[if_neg (by rw[ahG aW e];exact kX)];exact Rp e
theorem QZ{ns:List Str}(aW:ns.Nodup):∀(vs us:List V),us.length+vs.length<=ns.length->oS (dM ns us) (dM (ns.drop us.length) vs)=dM ns (us++vs)
| [],us,h=>by
  simp[dM,oS]
|v::vs,us,h=>by
  simp only[g5] at h;have ay:us.length<ns.length:=by omega
  have e:ns.drop us.length=ns[us.length]::ns.drop (us.length+1):=List.drop_eq_getElem_cons ay;rw[e];show oS (putK (dM ns us) (.inr ns[us.length]) v) (dM (ns.drop (us.length+1)) vs)=_;rw[PV aW (fO ay)];have b7:=QZ aW vs (us++[v]) (by simp;omega);simp only[qV,g5,qX,Nat.zero_add] at b7;rw[b7,List.append_assoc];rfl
section
variable {K:bo}{aF F aZ O:ak->Prop}{H H1:aE}{E:gu}{ag ε':Ev}{σ:bw.St}{c i j:Nat}{ns:List Str}{f:Str}
def Dm{m:hA}{az:List aO}(k:hN c ns)(r:cJ K aF E O F H ag σ)(h:akQ c i ag=some (m,az)):
  ∃a vs,σ[i]?=some (some (.ref a))/\H a=some (.dA (dM ns vs))/\vs.length<=ns.length/\gR H a c vs/\fT K F H az vs/\(a::cZ az vs).Nodup/\(∀b∈a::cZ az vs,ro E O F m b)/\(m=.cM->a=E.hk):=by
 obtain⟨v,ah,a,vs,rfl,ax,hf,aW,fB,hk⟩:=r.val i _ (kz h);obtain⟨ay,hx⟩:=id ax;rw[k.jT] at hx;rw[k.eB] at ay hx;exact⟨a,vs,ah,hx,ay,ax,hf,aW,fB,hk⟩
def v5{m:hA}{az:List aO}{s:aO}(k:hN c ns)(r:cJ K aF E O F H ag σ)(h:akQ c i ag=some (m,az))(aw:az[j]?=some s)(bD:ns[j]?=some f):
  ∃a vs v,σ[i]?=some (some (.ref a))/\H a=some (.dA (dM ns vs))/\h9 (dM ns vs) (.inr f)=some v/\gR H a c vs/\vs[j]?=some v/\k3 K F H s v/\(∀b∈dN s v,ro E O F m b/\b≠a):=by
 obtain⟨a,vs,ah,hx,ay,ax,hf,aW,fB,hk⟩:=Dm k r h;obtain⟨v,a',b8⟩:=hf.get aw;refine⟨a,vs,v,ah,hx,R7 k.aW bD a',ax,a',b8,λb ae=>⟨fB b (dT _ (mm aw a' ae)),λz=>(d0.mp aW).1 (z▸mm aw a' ae)⟩⟩
def cJ.OM{s:aO}{v:V}{a:ak}{vs:List V}(k:hN c ns)(r:cJ K aF E O F H ag σ){m:hA}{az:List aO}(aH:akQ c i ag=some (m,az))(ah:σ[i]?=some (some (.ref a)))(ax:gR H a c vs)(he:gb c i j s ag=some ε')
  (rs:k3 K F H s v) (own:∀b∈dN s v,¬F b/\O b/\b∉dS H (.obj m c az) (.ref a)/\∀(k:Nat) (u:aO) (w:V),i≠k->ag[k]?=some (some u)->u.iU=true->σ[k]?=some (some w)->b∉dS H u w) (hx:H a=some (.dA (dM ns vs)))
  {f:Str} (bD:ns[j]?=some f):eJ K F H F (upd H a (.dA (putK (dM ns vs) (.inr f) v)))/\cJ K aF E O F (upd H a (.dA (putK (dM ns vs) (.inr f) v))) ε' σ:=by
 obtain⟨lS,eg,eT,kj,ay,l0,hf,aW,fB,hk⟩:=Dm k r aH;rw[ah] at eT;cases eT;have ev:eg=vs:=by rw[<- ax.vals,<- l0.vals]
 subst ev;have gH:dS H (.obj m c az) (.ref a)=a::cZ az eg:=jj ax;rw[gH] at own;unfold gb at he;rw[aH] at he;simp only[dt] at he;split at he
 next=>cases he
 next hm=>
 have hlen:=hf.length;have rG:(aO.obj m c az).iU=true:=zy hm;have xy:∀b,ro E O F m b <-> ¬F b/\O b:=λb=>by
  cases m with
  |fM=>exact absurd rfl hm
  |own=>exact Iff.rfl
  |cM=>exact Iff.rfl
 have na:∀b∈cZ az eg,b≠a:=λb ae z=>(d0.mp aW).1 (z▸ae);split at he
 next xu=>
  cases he
  have tf:j<eg.length:=by omega
  rw[aiz k.aW bD tf];have mH:∀b∈a::cZ (az.set j s) (eg.set j v),b∈a::cZ az eg\/b∈dN s v:=λb ae=>by
   rcases cO.mp ae with rfl|ae
   ·exact .inl e9
   ·rcases vF ae with q|q
    ·exact .inl (dT _ q)
    ·exact .inr q
  have iQ:∀o':aE,o' a=some (.dA (dM ns (eg.set j v)))->gR o' a c (eg.set j v):=λo' e=>by
   refine⟨by rw[k.eB];simpa using ay,?_⟩
   rw[k.jT,k.eB];exact e
  refine r.xV (kz aH) rG ah (by rw[gH];exact e9) (λaB=>⟨a,eg.set j v,rfl,iQ _ dH,?_,?_,λb ae=>?_,hk⟩) λb ae=>?_
  ·refine fT.set hf aB (λk u w _ aR a7 b ae=>cw (na b (mm aR a7 ae))) (rs.keep aB λb ae=>cw λz=>(own b ae).2.2.1 (z▸e9))
  ·refine d0.mpr ⟨λz=>?_,Ci (d0.mp aW).2 (C0 s v) λb ae k u w _ aR a7 q=>(own b ae).2.2.1 (dT _ (mm aR a7 q))⟩
   rcases vF z with q|q
   ·exact (d0.mp aW).1 q
   ·exact (own a q).2.2.1 e9
  ·rcases mH b ae with q|q
   ·exact fB b q
   ·exact (xy b).mpr ⟨(own b q).1,(own b q).2.1⟩
  ·rw[jj (iQ _ dH)] at ae;rcases mH b ae with q|q
   ·exact .inl (by rw[gH];exact q)
   ·exact .inr (own b q).2.2.2
 next xu=>
  split at he
  next Yr=>
   cases he
   have tf:j=eg.length:=by omega
   rw[PV k.aW (by rw[<- tf];exact bD)];have Ys:j<ns.length:=(fe.mp bD).1;have mH:∀b∈a::cZ (az++[s]) (eg++[v]),b∈a::cZ az eg\/b∈dN s v:=λb ae=>by
    rw[zc hlen] at ae;rcases cO.mp ae with rfl|ae
    ·exact .inl e9
    ·rcases j2.mp ae with q|q
     ·exact .inl (dT _ q)
     ·exact .inr q
   have iQ:∀o':aE,o' a=some (.dA (dM ns (eg++[v])))->gR o' a c (eg++[v]):=λo' e=>by
    refine⟨by rw[k.eB];simp;omega,?_⟩
    rw[k.jT,k.eB];exact e
   refine r.xV (kz aH) rG ah (by rw[gH];exact e9) (λaB=>⟨a,eg++[v],rfl,iQ _ dH,?_,?_,λb ae=>?_,hk⟩) λb ae=>?_
   ·exact fT.snoc (hf.keep aB λb ae=>cw (na b ae)) (rs.keep aB λb ae=>cw λz=>(own b ae).2.2.1 (z▸e9))
   ·rw[zc hlen];refine d0.mpr ⟨λz=>?_,pL.mpr ⟨(d0.mp aW).2,C0 s v,λb ae d hd e=>?_⟩⟩
    ·rcases j2.mp z with q|q
     ·exact (d0.mp aW).1 q
     ·exact (own a q).2.2.1 e9
    ·subst e;exact (own b hd).2.2.1 (dT _ ae)
   ·rcases mH b ae with q|q
    ·exact fB b q
    ·exact (xy b).mpr ⟨(own b q).1,(own b q).2.1⟩
   ·rw[jj (iQ _ dH)] at ae;rcases mH b ae with q|q
    ·exact .inl (by rw[gH];exact q)
    ·exact .inr (own b q).2.2.2
  next=>cases he
end
section
variable {X:bh}{c i j:Nat}{ns:List Str}{f:Str}{o e eu a:bc}{g h:bI}{pos apos:Pos}
def vR{K:bo}{F:ak->Prop}{H:aE}{a:ak}{ns:List Str}{vs:List V}{w v:V}(hx:H a=some (.dA (dM ns vs)))(ay:h9 (dM ns vs) (.inr f)=some v)(q:Rep K F H (.str f) w):mw H a w (some v):=by
 have:w=.str f:=by simpa [Rep] using q
 subst this;rw[<- ay];exact mw.k (k:=.inr f) hx
def gF(k:hN c ns)(bp:X.A.units+1<cLine)(a8:bW X o (gN i))(aI:cg X eu (aa (.str f)))(bD:ns[j]?=some f:=by rfl)(aw:rn eu:=by intro _ _;rfl):ez X (.Subscript o eu pos) (fld c i j):=
 ec (vX bp a8 aI aw) λσ H Q ⟨aF,aN,O,F,ag,t,r,e,bV⟩=>by
 simp only[fld,cb] at e;obtain⟨⟨m,az⟩,aH,e⟩:=e;split at e
 next t' aw=>
  cases e
  obtain⟨a,vs,v,ah,hx,ay,ax,a',b8,_⟩:=v5 k r aH aw bD;refine⟨_,ah,aF,aN,O,F,ag,_,r,rfl,λw aZ H1 aL aP=>⟨a,v,rfl,vR (aL.same.get hx) ay aP,bV v aZ H1 aL (.inl (b8.ext aL))⟩⟩
 next ts aw=>
  cases e
  obtain⟨a,vs,v,ah,hx,ay,ax,a',⟨b,us,dk,ae,eQ⟩,_⟩:=v5 k r aH aw bD;subst dk;refine⟨_,ah,aF,aN,O,F,ag,_,r,rfl,λw aZ H1 aL aP=>⟨a,_,rfl,vR (aL.same.get hx) ay aP,bV _ aZ H1 aL (.inr ⟨ts,b,us,rfl,rfl,aL.same.get ae,eQ.ext aL⟩)⟩⟩
 next=>cases e
def p2(k:hN c ns)(bp:X.A.units+1<cLine)(a8:bW X o (gN i))(aI:cg X eu (aa (.str f)))(bD:ns[j]?=some f:=by rfl)(aw:rn eu:=by intro _ _;rfl):cg X (.Subscript o eu pos) (eS c i j):=
 ec (vX bp a8 aI aw) λσ H Q ⟨aF,aN,O,F,ag,t,r,e,bV⟩=>by
 simp only[eS,cb] at e;obtain⟨⟨m,az⟩,aH,e⟩:=e;split at e
 next t' aw=>
  cases e
  obtain⟨a,vs,v,ah,hx,ay,ax,a',b8,_⟩:=v5 k r aH aw bD;refine⟨_,ah,aF,aN,O,F,ag,_,r,rfl,λw aZ H1 aL aP=>⟨a,v,rfl,vR (aL.same.get hx) ay aP,bV v aZ H1 aL (b8.ext aL)⟩⟩
 next=>cases e
def Rk{K:bo}{F:ak->Prop}{H:aE}{a:ak}{ns:List Str}{vs:List V}{w v:V}(hx:H a=some (.dA (dM ns vs)))(ay:vs.length<=ns.length)(hf:ns.length<=15)(q:Rep K F H (.str f) w):qd H a w v (upd H a (.dA (putK (dM ns vs) (.inr f) v))):=by
 have:w=.str f:=by simpa [Rep] using q
 subst this;refine qd.k (k:=.inr f) hx ?_;rw[Ql ay,lE];omega
def hr(k:hN c ns)(bp:X.A.units+1<cLine)(a8:bW X o (gN i))(aI:cg X eu (aa (.str f)))(he:cg X e g)(bD:ns[j]?=some f:=by rfl)(aw:jg e (some (.Subscript o eu apos)) pos.line X.env=pure false:=by rfl):
  fS X (.Assign [.Subscript o eu apos] e pos) (cx c i j g):=ht (Ll bp a8 aI he aw) λD σ H ⟨aF,aN,O,F,ag,o,r,e,bV⟩=>by
 simp only[cx,cb,dP] at e;obtain⟨t,bB,ε',es,rfl⟩:=e;refine⟨aF,aN,O,F,ag,t,r,bB,λv aZ H1 aL aP=>?_⟩;have bg:=r.ext aL;have e6:=es;unfold gb at e6;simp only[cb] at e6;obtain⟨⟨m,az⟩,aH,_⟩:=e6;obtain⟨a,vs,ah,hx,ay,ax,_⟩:=Dm k bg aH;refine⟨_,ah,aF,aN,O,aZ,ag,_,bg,rfl,λw cX bb bx ba=>?_⟩;have om:=bx.same.get hx;obtain⟨aB,cf⟩:=(bg.ext bx).OM (s:=.ab t) (v:=v) k aH ah (ax.keep (om.trans hx.symm)) es (aP.ext bx) (λb ae=>by simp[dN] at ae) om bD;exact⟨a,_,rfl,Rk om ay k.pe ba,bV σ cX _ ((aL.trans bx).aB.trans aB) cf⟩
def vV(k:hN c ns)(bp:X.A.units+1<cLine)(a8:bW X o (gN i))(aI:cg X eu (aa (.str f)))(he:o4 X e g)(bD:ns[j]?=some f:=by rfl)(aw:jg e (some (.Subscript o eu apos)) pos.line X.env=pure false:=by rfl):
  fS X (.Assign [.Subscript o eu apos] e pos) (g9 c i j g):=ht (Ll bp a8 aI he aw) λD σ H ⟨aF,aN,O,F,ag,o,r,e,bV⟩=>by
 simp only[g9,cb] at e;obtain⟨t,bB,e⟩:=e;split at e
 next ts=>
  simp only[dP] at e;obtain⟨ε',es,rfl⟩:=e;refine⟨aF,aN,O,F,ag,ts,r,bB,λb us aZ H1 aL nu gn ae aP=>?_⟩;have bg:=r.ext aL;have e6:=es;unfold gb at e6;simp only[cb] at e6;obtain⟨⟨m,az⟩,aH,_⟩:=e6;obtain⟨a,vs,ah,hx,ay,ax,_⟩:=Dm k bg aH;refine⟨_,ah,aF,aN,O,aZ,ag,_,bg,rfl,λw cX bb bx ba=>?_⟩;have om:=bx.same.get hx;have Ge:=bx.same.get ae;have _c:¬cX b:=λz=>by
   rcases bx.new b z with q|q
   ·exact gn q
   ·rw[ae] at q;cases q
  have hold:=K7 r (aL.trans bx) nu;obtain⟨aB,cf⟩:=(bg.ext bx).OM (s:=.own ts) (v:=.ref b) k aH ah (ax.keep (om.trans hx.symm)) es ⟨b,us,rfl,Ge,aP.ext bx⟩ (λd hd=>by
   have:d=b:=by simpa [dN,gp] using hd
   subst this;exact⟨_c,r.fr _ nu,hold i _ _ (kz aH) ah,λk u w _ f5 _ aI=>hold k u w f5 aI⟩) om bD
  exact⟨a,_,rfl,Rk om ay k.pe ba,bV σ cX _ ((aL.trans bx).aB.trans aB) cf⟩
 next=>cases e
def LF(k:hN c ns)(bp:X.A.units+1<cLine)(a8:bW X o (gN i))(aI:cg X eu (aa (.str f))){i7 dz:Pos}(he:cg X e g)(bD:ns[j]?=some f:=by rfl)(aw:rn eu:=by intro _ _;rfl)
  (hj:bA [e] X.env=(false,eval e X.env)::bA [] X.env:=by rfl)
  (la:jf (.Subscript o eu apos) "append" X.env (eval (.Subscript o eu apos) X.env)=eval (.Subscript o eu apos) X.env:=by rfl)
  (ob:((dQ dz (bA [e] X.env)).all (λx=>!x.1) && (mc dz (mb [] X.env)).all (λx=>x.1.isSome)
   && decide (([e]:List bc).length+([]:List Keyword).length+(if ([]:List Keyword).isEmpty then 0 else 1)<30))=true:=by rfl)
  (lb:(i7.endLine==dz.line)=true:=by rfl) (oi:(dQ dz (bA [] X.env)).any (·.1)=false:=by rfl)
  (oj:jg (.Call (.Attribute (.Subscript o eu apos) "append" i7) [e] [] dz) none pos.line X.env=pure false:=by rfl):
  fS X (.Expr (.Call (.Attribute (.Subscript o eu apos) "append" i7) [e] [] dz) pos) (jQ c i j g):=
 ht (zl (zF yt PySem.F.slot_list_append PySem.F.type_list_append CZ (vX bp a8 aI aw) (ix he kZ hj) la ob lb hj oi) oj) λD σ H ⟨aF,aN,O,F,ag,o,r,e,bV⟩=>by
 simp only[jQ,cb] at e;obtain⟨t,bB,ts,f6,e⟩:=e;split at e
 next ar=>
  simp only[dP] at e;obtain⟨ε',es,rfl⟩:=e;obtain⟨m,az,aH,aw⟩:=y4 f6;obtain⟨a,vs,v,ah,hx,ay,ax,a',⟨b,us,dk,ae,eQ⟩,_⟩:=v5 k r aH aw bD;subst dk;refine⟨_,ah,aF,aN,O,F,ag,_,r,rfl,λw DN UH x0 ak1=>⟨a,_,rfl,vR (x0.same.get hx) ay ak1,.inl ⟨rfl,_,gg.of (x0.same.get ae)⟩,aF,aN,O,DN,ag,t,r.ext x0,bB,λv aZ H1 aL aP=>?_⟩⟩;have pI:=x0.trans aL;have bg:=r.ext pI;have AM:=pI.same.get hx;obtain⟨aB,cf⟩:=bg.tA (s':=.own (ts++[t])) (o':=.lst (us++[v])) aH ah (ax.keep (AM.trans hx.symm)) es aw a' (by simp[dN,gp]) rfl λaB=>⟨b,_,rfl,dH,((eQ.ext pI).aB aB).append (bj.cons (aP.aB aB) bj.nil)⟩;exact⟨b,us,v,rfl,rfl,pI.same.get ae,by rw[k0,<- eQ.length];exact ar,bV σ aZ _ (pI.aB.trans aB) cf⟩
 next=>cases e
def ajR(k:hN c ns)(bp:X.A.units+1<cLine)(a8:bW X o (gN i))(aI:cg X eu (aa (.str f))){i7 dz:Pos}(he:cg X e g)(bD:ns[j]?=some f:=by rfl)(aw:rn eu:=by intro _ _;rfl)
  (hj:bA [e] X.env=(false,eval e X.env)::bA [] X.env:=by rfl)
  (la:jf (.Subscript o eu apos) "remove" X.env (eval (.Subscript o eu apos) X.env)=eval (.Subscript o eu apos) X.env:=by rfl)
  (ob:((dQ dz (bA [e] X.env)).all (λx=>!x.1) && (mc dz (mb [] X.env)).all (λx=>x.1.isSome)
   && decide (([e]:List bc).length+([]:List Keyword).length+(if ([]:List Keyword).isEmpty then 0 else 1)<30))=true:=by rfl)
  (lb:(i7.endLine==dz.line)=true:=by rfl) (oi:(dQ dz (bA [] X.env)).any (·.1)=false:=by rfl)
  (oj:jg (.Call (.Attribute (.Subscript o eu apos) "remove" i7) [e] [] dz) none pos.line X.env=pure false:=by rfl):
  fS X (.Expr (.Call (.Attribute (.Subscript o eu apos) "remove" i7) [e] [] dz) pos) (qG c i j g):=
 ht (zl (zF yt PySem.F.slot_list_remove PySem.F.type_list_remove Qz (vX bp a8 aI aw) (ix he kZ hj) la ob lb hj oi) oj) λD σ H ⟨aF,aN,O,F,ag,o,r,e,bV⟩=>by
 simp only[qG,cb] at e;obtain⟨t,bB,ts,f6,e⟩:=e;split at e
 next x ss qA=>
  split at e
  next hx=>
   simp only[dP] at e;obtain⟨ε',es,rfl⟩:=e;have xD:=vM qA;subst xD;obtain⟨m,az,aH,aw⟩:=y4 f6;obtain⟨a,vs,v,ah,tp,ay,ax,a',⟨b,us,dk,ae,eQ⟩,_⟩:=v5 k r aH aw bD;subst dk;refine⟨_,ah,aF,aN,O,F,ag,_,r,rfl,λw DN UH x0 ak1=>⟨a,_,rfl,vR (x0.same.get tp) ay ak1,.inl ⟨rfl,_,gg.of (x0.same.get ae)⟩,aF,aN,O,DN,ag,_,r.ext x0,bB,λv aZ H1 aL aP=>?_⟩⟩;have pI:=x0.trans aL;have bg:=r.ext pI;have AM:=pI.same.get tp;have ev:v=.str x:=by simpa [Rep] using aP
   subst ev;have eX:=vJ eQ;subst eX;obtain⟨aB,cf⟩:=bg.tA (s':=.own ((ss.erase x).map .str)) (o':=.lst ((ss.erase x).map V.str)) aH ah (ax.keep (AM.trans tp.symm)) es aw a' (by simp[dN,gp]) rfl λaB=>⟨b,_,rfl,dH,y3 _⟩;exact⟨b,ss,x,rfl,rfl,pI.same.get ae,hx,bV σ aZ _ (pI.aB.trans aB) cf⟩
  next=>cases e
 next=>cases e
end
end
section
variable [c5]
noncomputable def rg(c i j:Nat)(k v:bI):bz:=λag=>(v ag).bind λv=>(k ag).bind λt=>(kM c i j ag).bind λts=>match t with
|.int n=>if 0<=n/\n.toNat<ts.length then (gb c i j (.own (ts.set n.toNat v)) ag).map .bY else none
|_=>none
theorem bj.set{K:bo}{F:ak->Prop}{H:aE}{t:T}{v:V}:∀{ts:List T} {vs:List V} (n:Nat),bj K F H ts vs->Rep K F H t v->bj K F H (ts.set n t) (vs.set n v)
| [],vs,n,h,q=>by
  simp only[bj] at h;subst h;simpa using bj.nil
|x::ts,vs,0,h,q=>by
  simp only[bj] at h;obtain⟨w,z,rfl,du,y⟩:=h;exact bj.cons q y
|x::ts,vs,n+1,h,q=>by
  simp only[bj] at h;obtain⟨w,z,rfl,du,y⟩:=h;exact bj.cons du (bj.set n y q)
section
variable {X:bh}{c i j:Nat}{ns:List Str}{f:Str}{o e eu a:bc}{g h:bI}{pos apos ly:Pos}
def Rw(k:hN c ns)(bp:X.A.units+1<cLine)(a8:bW X o (gN i))(aI:cg X eu (aa (.str f)))(ax:cg X a h)(he:cg X e g)(bD:ns[j]?=some f:=by rfl)(aw:rn eu:=by intro _ _;rfl)
    (bt:∀v,assign (.Subscript (.Subscript o eu apos) a ly) X.env v=(do
      let dX <- holding [v] (eval (.Subscript o eu apos) X.env)
      let ft <- holding [v,dX] (eval a X.env)
      standAt ly
      holding [v,dX,ft] (setItem dX ft v)
      release [v,dX,ft] []):=by intro _;rfl)
    (YQ:swapsWithSole [.Subscript (.Subscript o eu apos) a ly] e pos.line X.env=pure false:=by rfl) (hw:swappedStores [.Subscript (.Subscript o eu apos) a ly] e X.env=pure none:=by rfl)
    (ah:(nL [.Subscript (.Subscript o eu apos) a ly] X.env).map (·.2)=[assign (.Subscript (.Subscript o eu apos) a ly) X.env]:=by rfl):
    fS X (.Assign [.Subscript (.Subscript o eu apos) a ly] e pos) (rg c i j h g):=
  ht (Sr he (ai0 (vX bp a8 aI aw) ax set_list bt) YQ hw ah) λD σ H ⟨aF,aN,O,F,ag,o,r,e,bV⟩=>by
  simp only[rg,cb] at e;obtain⟨v,ev,t,bB,ts,f6,e⟩:=e;split at e
  next n=>
    split at e
    next ar=>
      simp only[dP] at e;obtain⟨ε',es,rfl⟩:=e;obtain⟨m,az,aH,aw⟩:=y4 f6;refine⟨aF,aN,O,F,ag,v,r,ev,λak2 aZ H1 aL aP=>?_⟩;obtain⟨a,vs,u,ah,hx,ay,ax,a',⟨b,us,dk,ae,eQ⟩,_⟩:=v5 k (r.ext aL) aH aw bD;subst dk;refine⟨_,ah,aF,aN,O,aZ,ag,_,r.ext aL,rfl,λw cX bb bx ba=>⟨a,_,rfl,vR (bx.same.get hx) ay ba,aF,aN,O,cX,ag,_,(r.ext aL).ext bx,bB,λft hY dj d6 cU=>?_⟩⟩;have pJ:=bx.trans d6;have hV:=(r.ext aL).ext pJ;have YR:=pJ.same.get hx;have ak':ft=.int n:=by simpa [Rep] using cU
      subst ak';have hlen:=eQ.length;obtain⟨aB,l5⟩:=hV.tA (s':=.own (ts.set n.toNat v)) (o':=.lst (us.set n.toNat ak2)) aH ah (ax.keep (YR.trans hx.symm)) es aw a' (by simp[dN,gp]) rfl λaB=>⟨b,_,rfl,dH,((eQ.ext pJ).aB aB).set _ ((aP.ext pJ).aB aB)⟩;refine⟨b,us,n,n.toNat,rfl,rfl,pJ.same.get ae,?_,bV σ hY _ ((aL.trans pJ).aB.trans aB) l5⟩;unfold pq
      first
        | (rw[if_pos ar.1,if_pos (by omega)])
        | (simp only[ar.1,if_true];split <;> first|rfl|omega)
        | (simp;omega)
    next=>cases e
  next=>cases e
end
section
variable {X:bh}{k n c i:Nat}{d:List aO->Option (T×List aO)}{x:Str}{p pos:Pos}{o eC:bc}{es:List bc}{az:List bI}{f0:bI}
def Sm{K:bo}{aF O F:ak->Prop}{H:aE}{E:gu}{ag:Ev}{σ:bw.St}{gA:hA}{os:List aO}(r:cJ K aF E O F H ag σ)(aH:akQ c i ag=some (gA,os)):∃a,σ[i]?=some (some (.ref a)):=by
 obtain⟨v,ah,a,vs,rfl,_⟩:=r.val i _ (kz aH);exact⟨a,ah⟩
def m4(ka:gs X.prog X.w X.K X.mg X.base x c 0 k n d)(av:d8 k X.A)(a8:bW X o (gN i))(ax:lP X es az)(bt:fh X x:=by rfl)(ay:az.length+1=n:=by rfl)(iS:(x==("__debug__":Str))=false:=by decide)
  (he:bA (o::es) X.env=(false,eval o X.env)::bA es X.env:=by rfl) (hpl:(dQ pos (bA es X.env)).any (·.1)=false:=by rfl):uK X (.Call (.Name x p) (o::es) [] pos) (dp c d [] i az):=by
 obtain⟨cG,fd,ps,F,m,aB,b⟩:=ka.ex;refine ec (zm F av bt m aB b .nil p8 (ix a8 ax he) iS he hpl) λσ H Q ⟨aF,E,O,F,ag,t,ε',r,e,bV⟩=>?_;simp only[dp,cb] at e;obtain⟨⟨gA,os⟩,aH,e⟩:=e;split at e
 next=>cases e
 next ti=>
  simp only[args,cb,dP,Option.some.injEq,exists_eq_left'] at e;obtain⟨ts,bB,cE,fa,e⟩:=e;cases e;obtain⟨a,ah⟩:=Sm r aH;refine⟨_,ah,aF,E,O,F,ag,ts,r,bB,λws aZ H1 aL q=>?_⟩;show qI X.K n c 0 d (V.ref a::ws++[]) H1 Q uF;rw[mW];exact K6 r aH ti ah aL q fa (by rw[uu bB,ay]) bV
def agq{σ:bw.St}{H H1:aE}{aF O F aZ:ak->Prop}{E:gu}{ag:Ev}{gA:hA}{os:List aO}{a:ak}{Q:dC}{pG:V}{t0:T}{ws:List V}{ts:List T}{r:T×List aO}(I9:cJ X.K aF E O F H ag σ)(aH:akQ c i ag=some (gA,os))(hm:gA≠.fM)(ah:σ[i]?=some (some (.ref a)))
  (aL:Ext F H aZ H1) (ak1:Rep X.K aZ H1 t0 pG) (q:bj X.K aZ H1 ts ws) (fa:d (.ab t0::.obj .cM c os::ts.map .ab)=some r) (ay:ts.length+2=n)
  (bV:∀v aM aj,eJ X.K F H aM aj->cJ X.K aF E O aM aj (ag.set i (some (.obj gA c r.2))) σ->Rep X.K aM aj r.1 v->Q v aj):qI X.K n c 1 d (pG::.ref a::ws) H1 Q uF:=by
 have bg:=I9.ext aL;obtain⟨ks,eT,rs⟩:=bg.val i _ (kz aH);rw[ah] at eT;cases eT;refine⟨by simp[<- q.length,ay],aZ,.ab t0::.obj .cM c os::ts.map .ab,a,dS H1 (.obj gA c os) (.ref a),os,r,aL.cn,rfl,rfl,.cons (show eH _ _ _ _ _ (.ab t0) pG from ak1) (.cons (RN (v:=.ref a) rs) (Dl q)),λj s bD aw=>?_,fa,λv aM aj bx b8 Jd=>?_⟩
 ·cases j with
  |zero=>
   simp at aw;subst aw;rfl
  |succ j=>
   cases j with
   |zero=>exact absurd rfl bD
   |succ j=>exact Lo (q:=j) (by simpa using aw)
 ·obtain⟨aB,cf⟩:=bg.back (kz aH) hm ah rfl bx Jd;exact bV v aM aj (aL.aB.trans aB) cf b8
def oO(ka:gs X.prog X.w X.K X.mg X.base x c 1 k n d)(av:d8 k X.A)(h0:cg X eC f0)(a8:bW X o (gN i))(ax:lP X es az)(bt:fh X x:=by rfl)(ay:az.length+2=n:=by rfl)(iS:(x==("__debug__":Str))=false:=by decide)
  (NL:bA (eC::o::es) X.env=(false,eval eC X.env)::bA (o::es) X.env:=by rfl) (he:bA (o::es) X.env=(false,eval o X.env)::bA es X.env:=by rfl) (hpl:(dQ pos (bA (o::es) X.env)).any (·.1)=false:=by rfl):
  uK X (.Call (.Name x p) (eC::o::es) [] pos) (dp c d [f0] i az):=by
 obtain⟨cG,fd,ps,F,m,aB,b⟩:=ka.ex;refine ec (zm F av bt m aB b .nil p8 (ix h0 (ix a8 ax he) NL) iS NL hpl) λσ H Q ⟨aF,E,O,F,ag,t,ε',r,e,bV⟩=>?_;simp only[dp,cb] at e;obtain⟨⟨gA,os⟩,aH,e⟩:=e;split at e
 next=>cases e
 next ti=>
  simp only[args,cb,dP,Option.some.injEq] at e;obtain⟨akJ,⟨t0,XI,_,rfl,rfl⟩,us,eX,cE,fa,e⟩:=e;cases e;obtain⟨a,ah⟩:=Sm r aH;refine⟨aF,E,O,F,ag,t0,r,XI,λpG aZ H1 aL ak1=>⟨_,ah,aF,E,O,aZ,ag,us,r.ext aL,eX,λws cX bb bx q=>?_⟩⟩;show qI X.K n c 1 d (pG::V.ref a::ws++[]) bb Q uF;rw[mW];exact agq r aH ti ah (aL.trans bx) (ak1.ext bx) q fa (by rw[uu eX,ay]) bV
end
noncomputable def ux:List (Bool×bI)->Ev->Option (List aO)
  | [],_=>some []
  | (false,f)::es,ag=>(f ag).bind λt=>(ux es ag).map λss=>.ab t::ss
  | (true,f)::es,ag=>(f ag).bind λt=>match t with
    |.list ts=>(ux es ag).map λss=>.own ts::ss
    |_=>none
noncomputable def xY(c:Nat)(es:List (Bool×bI)):cu:=λag=>(ux es ag).map λss=>.obj .own c ss
noncomputable def yh(K:bo):List Str->List (Bool×bI)->List (TE×TE)
|n::ns,(false,f)::es=>(vh K (aa (.str n)),vh K f)::yh K ns es
|n::ns,(true,f)::es=>(vh K (aa (.str n)),O5 K f)::yh K ns es
|_,_=>[]
section
variable {X:bh}{pos:Pos}{eu gP:bc}{bf:List (Option bc)}{vs:List bc}{n:Str}{ns:List Str}{f:bI}{es:List (Bool×bI)}
structure sO(X:bh)(pos:Pos)(keys:List (Option bc))(values:List bc)(ns:List Str)(es:List (Bool×bI)):Prop where
 h:wU X pos keys values (yh X.K ns es)
structure DZ(X:bh)(e:bc)(n:Str):Prop where
 h:cg X e (aa (.str n))
structure Mi(X:bh)(b:Bool)(e:bc)(f:bI):Prop where
 h:match b with|false=>cg X e f|true=>o4 X e f
def u5{X:bh}{i:Str}{j}{pos:Pos}:DZ X (.Constant (.str i) j pos) i:=⟨aY⟩
def Ss:sO X pos [] [] ns []:=⟨by
 cases ns <;> exact RH⟩
def Bs(aI:DZ X eu n)(a':Mi X false gP f)(r:sO X pos bf vs ns es):sO X pos (some eu::bf) (gP::vs) (n::ns) ((false,f)::es):=⟨K4 aI.h a'.h r.h⟩
def OB(aI:DZ X eu n)(a':Mi X true gP f)(r:sO X pos bf vs ns es):sO X pos (some eu::bf) (gP::vs) (n::ns) ((true,f)::es):=⟨K4 aI.h a'.h r.h⟩
theorem LA{K:bo}{aF O:ak->Prop}{E:gu}{ag:Ev}{σ:bw.St}:∀{es:List (Bool×bI)} {ns:List Str} {ss:List aO} {F:ak->Prop} {H:aE} {Q:List (V×V)->aE->Prop},ux es ag=some ss->es.length<=ns.length->cJ K aF E O F H ag σ ->
    (∀vs aM aj,Ext F H aM aj->vs.length=es.length->fT K aM aj ss vs->(cZ ss vs).Nodup->(∀b∈cZ ss vs,H b=none/\¬aM b)->Q ((ns.zip vs).map λp=>(.str p.1,p.2)) aj)->zv (yh K ns es) σ H Q
  | [],ns,ss,F,H,Q,e,ay,r,k=>by
    cases e
    have:zv (yh K ns []) σ H Q=Q [] H:=by cases ns <;> rfl
    rw[this];have:=k [] F H (Ext.refl r.cn) rfl rfl (by simp[cZ]) (by simp[cZ]);simpa using this
  | (false,f)::es,[],ss,F,H,Q,e,ay,r,k=>by simp at ay
  | (true,f)::es,[],ss,F,H,Q,e,ay,r,k=>by simp at ay
  | (false,f)::es,n::ns,ss,F,H,Q,e,ay,r,k=>by
    simp only[ux,cb,dP] at e;obtain⟨t,bB,tM,e6,rfl⟩:=e;refine⟨aF,E,O,F,ag,_,r,rfl,λv aZ H1 aL aP=>⟨aF,E,O,aZ,ag,t,r.ext aL,bB,λw cX bb bx ba=>?_⟩⟩;have ev:v=.str n:=by simpa [Rep] using aP
    subst ev;refine LA e6 (by simpa using ay) ((r.ext aL).ext bx) λvs hY dj d6 hlen gp aW fr=>?_;exact k (w::vs) hY dj ((aL.trans bx).trans d6) (by simp[hlen]) ⟨w,vs,rfl,ba.ext d6,gp⟩ aW λb ae=>⟨(aL.trans bx).same.none (fr b ae).1,(fr b ae).2⟩
  | (true,f)::es,n::ns,ss,F,H,Q,e,ay,r,k=>by
    simp only[ux,cb] at e;obtain⟨t,bB,e⟩:=e;split at e
    next ts=>
      simp only[dP] at e;obtain⟨tM,e6,rfl⟩:=e;refine⟨aF,E,O,F,ag,_,r,rfl,λv aZ H1 aL aP=>⟨aF,E,O,aZ,ag,ts,r.ext aL,bB,λa us cX bb bx a8 gn ax ba=>?_⟩⟩;have ev:v=.str n:=by simpa [Rep] using aP
      subst ev;refine LA e6 (by simpa using ay) ((r.ext aL).ext bx) λvs hY dj d6 hlen gp aW fr=>?_;have na:a∉cZ tM vs:=λz=>by
        have:=(fr a z).1;rw[ax] at this;cases this
      refine k (.ref a::vs) hY dj ((aL.trans bx).trans d6) (by simp[hlen]) ⟨.ref a,vs,rfl,⟨a,us,rfl,d6.same.get ax,ba.ext d6⟩,gp⟩ (d0.mpr ⟨na,aW⟩) λb ae=>?_
      rcases cO.mp (show b∈a::cZ tM vs from ae) with rfl|ae
      · refine⟨aL.same.none a8,λz=>?_⟩
        rcases d6.new _ z with q|q
        · exact gn q
        · rw[ax] at q
          cases q
      · exact⟨(aL.trans bx).same.none (fr b ae).1,(fr b ae).2⟩
    next=>cases e
def ajg{c:Nat}{keys:List (Option bc)}{values:List bc}{l4:List Str}(k:hN c l4)(h:sO X pos keys values l4 es)(hle:es.length<=l4.length:=by decide)(tc:keys.all (·.isSome)=true:=by rfl)(ay:keys.length=values.length:=by rfl)(h0:keys≠[]:=by simp)
  (xg:keys.length<=15:=by decide):uJ X (.Dict keys values pos) (xY c es):=ec (RK h.h tc ay h0 xg) λσ H Q ⟨aF,E,O,F,ag,s,r,e,bV⟩=>by
 simp only[xY,dP] at e;obtain⟨ss,e,rfl⟩:=e;intro p aC;have x0:=Ext.laid (o:=.dA []) r.cn aC;refine LA e hle (r.ext x0) λvs cX bb bx hlen gp aW fr=>?_;have a':vs.length<=l4.length:=by omega
 have oF:=x0.trans bx;have rH:bb p=some (.dA []):=bx.same.get dH;have gn:¬cX p:=λz=>by
  rcases bx.new p z with q|q
  ·obtain⟨o,e⟩:=r.cn p q;rw[aC] at e;cases e
  ·rw[dH] at q;cases q
 have np:∀b∈cZ ss vs,b≠p:=λb ae z=>by
  have:=(fr b ae).1;rw[z,dH] at this;cases this
 have hm:oS [] (dM l4 vs)=dM l4 vs:=by
  have:=QZ k.aW vs [] (by simpa using a');simpa [dM] using this
 refine⟨rH,dM l4 vs,?_,?_,?_⟩
 ·unfold dM;rw[nJ];rfl
 ·rw[Ql a'];have:=k.pe;omega
 ·rw[hm];have aB:eJ X.K cX bb cX (upd bb p (.dA (dM l4 vs))):=ajk gn rH (.inr ⟨_,rfl⟩);have d6:Ext F H cX (upd bb p (.dA (dM l4 vs))):=by
   refine⟨λb o e=>?_,oF.sub,oF.new,⟨λb z=>?_,oF.cn.akT.upd λu e=>.inr ⟨_,e3 (e.symm.trans rH)⟩⟩⟩
   ·rw[cw (ic e aC)];exact oF.same b o e
   ·have nb:b≠p:=by
     rintro rfl;exact gn z
    rw[cw nb];exact oF.cn b z
  have iQ:gR (upd bb p (.dA (dM l4 vs))) p c vs:=by
   refine⟨by rw[k.eB];exact a',?_⟩
   rw[k.jT,k.eB];exact dH
  have xm:∀b∈p::cZ ss vs,H b=none/\¬cX b:=λb ae=>by
   rcases cO.mp ae with rfl|ae
   ·exact⟨aC,gn⟩
   ·exact⟨x0.same.none (fr b ae).1,(fr b ae).2⟩
  refine bV p cX _ d6 ⟨p,vs,rfl,iQ,gp.keep aB λb ae=>cw (np b ae),d0.mpr ⟨λz=>np p z rfl,aW⟩,λb ae=>⟨(xm b ae).2,r.fr b (xm b ae).1⟩,λz=>by cases z⟩ λb ae=>?_
  rw[jj iQ] at ae;exact (xm b ae).1
end
noncomputable def v3(k v:Str)(f g:bI):bI:=λag=>(f ag).bind λt=>(keyOf t).bind λkey=>(g ag).map λd=>if key=.inr k then .str v else d
section
variable {X:bh}{a b eu gP:bc}{f g:bI}{k v:Str}{apos dz pa:Pos}
def agh(bp:X.A.units+1<cLine)(aI:cg X eu (aa (.str k)))(a':cg X gP (aa (.str v)))(ax:ez X a f)(ae:cg X b g)(m:M2 X (.Dict [some eu] [gP] pa) "get" apos a b dz:=by exact⟨rfl,rfl,rfl,rfl⟩):
  cg X (.Call (.Attribute (.Dict [some eu] [gP] pa) "get" apos) [a,b] [] dz) (v3 k v f g):=
 ec (ahb bp (RK (K4 aI a' RH) rfl rfl (by simp) (by simp)) ax ae m) λσ H Q ⟨aF,aN,O,F,ag,t,r,e,bV⟩=>by
 simp only[v3,cb,dP] at e;obtain⟨t',bB,key,f5,d,fa,rfl⟩:=e;intro p aC;have x0:=Ext.laid (o:=.dA []) r.cn aC;refine⟨aF,aN,O,F,ag,_,r.ext x0,rfl,λvk aZ H1 aL aP=>⟨aF,aN,O,aZ,ag,_,(r.ext x0).ext aL,rfl,λak2 cX bb bx ba=>?_⟩⟩;have aR:vk=.str k:=by simpa [Rep] using aP
 have a7:ak2=.str v:=by simpa [Rep] using ba
 subst aR a7;have oF:=(x0.trans aL).trans bx;have rH:bb p=some (.dA []):=(aL.trans bx).same.get dH;have gn:¬cX p:=λz=>by
  rcases (aL.trans bx).new p z with q|q
  ·obtain⟨o,e⟩:=r.cn p q;rw[aC] at e;cases e
  ·rw[dH] at q;cases q
 refine⟨rH,[(.inr k,.str v)],rfl,by simp,?_⟩
 have d6:Ext F H cX (upd bb p (.dA (oS [] [(.inr k,.str v)]))):=by
  refine⟨λb o e=>?_,oF.sub,oF.new,⟨λb z=>?_,oF.cn.akT.upd λu e=>.inr ⟨_,e3 (e.symm.trans rH)⟩⟩⟩
  ·rw[cw (ic e aC)];exact oF.same b o e
  ·have nb:b≠p:=by
    rintro rfl;exact gn z
   rw[cw nb];exact oF.cn b z
 refine⟨p,rfl,.inl ⟨_,.inl dH⟩,aF,aN,O,cX,ag,t',r.ext d6,bB,λw k4 jO l9 gM=>⟨aF,aN,O,k4,ag,d,(r.ext d6).ext l9,fa,λz i6 g_ nD nz=>.inl ?_⟩⟩
 have YL:=(l9.trans nD).same.get (dH (H:=bb) (a:=p) (o:=.dA (oS [] [(.inr k,.str v)])));refine⟨_,by rw[si f5 gM];exact mw.k YL,bV _ i6 g_ ((d6.trans l9).trans nD) ?_⟩;show Rep X.K i6 g_ _ ((h9 [(.inr k,V.str v)] key).getD z);by_cases aI:key=.inr k
 ·subst aI;simp[h9,Rep]
 ·have Yt:¬((Sum.inr k:bw.Key)=key):=λz=>aI z.symm;have YP:h9 [((Sum.inr k:bw.Key),V.str v)] key=none:=by simp[h9,Yt]
  rw[if_neg aI,YP];exact nz
end
end
section
variable [c5]
structure zP(K:bo)(J:kG)(aZ:ak->Prop)(H1:aE)(ts:List T):Prop where
 go:∀i F H t,Ext aZ H1 F H->ts[i]?=some t->J.go i H
 kY:∀i F H t x aj,Ext aZ H1 F H->ts[i]?=some t->J.kY i H x aj->∃aM,Ext F H aM aj/\Rep K aM aj t x
 stop:∀i F H,Ext aZ H1 F H->ts.length<=i->J.stop i H
noncomputable def adt(K:bo)(f:jN):TI:=λσ H R=>∃aF aN O F ag ts,cJ K aF aN O F H ag σ/\f ag=some ts/\∀J aM aj,Ext F H aM aj->zP K J aM aj ts->R J aj
abbrev wR(X:bh)(cH e:bc)(f:jN):Prop:=o5 X cH e (adt X.K f)
noncomputable def ra(g:hO)(c:fg)(b:bz):List T->Ev->Option Out
| [],ag=>some (.bY ag)
|t::ts,ag=>(g t ag).bind λiB=>(c iB).bind λx=>if x then (b iB).bind λo=>(match o with
   |.e1 t=>some (.e1 t)
   |.fN t iC=>some (.fN t iC)
   |_=>none) else ra g c b ts iB
noncomputable def wF(it:jN)(g:hO)(c:fg)(b:bz):bz:=λag=>(it ag).bind λts=>ra g c b ts ag
section
variable {X:bh}{pos Y6:Pos}
def ahO{cH iter c:bc}{eQ:List Stmt}{it:jN}{fW:hO}{gx:fg}{qo:bz}(aC:PassesOwn (bZ X.prog X.w) X.A X.env X.d3)(aU:wR X cH iter it)(bt:k6 X cH fW)(Yg:lR X c gx)(ae:iF X eQ qo)(aG:X.calm=true:=by rfl)
  (aw:∀x,pQ iter X.env x=pure x:=by intro _;rfl):fS X (.For cH iter [.If c eQ [] Y6] [] pos) (wF it fW gx qo):=ht (Sq aC aG aU bt (RF (S3 Yg ae RG)) aw) λD σ H ⟨aF,aN,O,F,ag,o,r,e,k⟩=>by
 simp only[wF,cb] at e;obtain⟨ts,bB,e⟩:=e;refine⟨aF,aN,O,F,ag,ts,r,bB,λJ aZ H1 aL ok=>?_⟩;have o_:=(r.ext aL).cn;refine⟨λi m cq aj=>m=ts.length - i/\i<=ts.length/\∃aM ε' ,Ext aZ H1 aM aj/\cJ X.K aF aN O aM aj ε' cq/\ra fW gx qo (ts.drop i) ε'=some o,⟨_,rfl,j6 _,aZ,ag,Ext.refl o_,r.ext aL,by simpa using e⟩,?_⟩;rintro i m cq aj ⟨rfl,xt,aM,ε',tP,cE,b1⟩;by_cases e7:i<ts.length
 ·have hd:ts.drop i=ts[i]::ts.drop (i+1):=List.drop_eq_getElem_cons e7;have oc:ts[i]?=some ts[i]:=fO e7;rw[hd] at b1;simp only[ra,cb] at b1;obtain⟨iB,mA,x,ha,b1⟩:=b1;refine .inr ⟨ok.go i aM aj _ tP oc,λzK bb=>∃mN,mN<ts.length - i/\(mN=ts.length - (i+1)/\i+1<=ts.length/\∃cX iC,Ext aZ H1 cX bb/\cJ X.K aF aN O cX bb iC zK/\ra fW gx qo (ts.drop (i+1)) iC=some o),λ_ _ z=>z,λy bb yy=>?_⟩;obtain⟨cX,bx,a4⟩:=ok.kY i aM aj _ y bb tP oc yy;refine⟨aF,aN,O,cX,ε',_,iB,cE.ext bx,a4,mA,λkF hV=>⟨aF,aN,O,cX,iB,x,hV,ha,λhY dj d6=>?_⟩⟩;cases x with
  |false=>
   simp only[j5,if_false] at b1;exact xJ ⟨_,by omega,rfl,e7,hY,iB,(tP.trans bx).trans d6,hV.ext d6,b1⟩
  |true=>
   simp only[if_true,cb] at b1;obtain⟨dD,dk,b1⟩:=b1;refine xK ⟨aF,aN,O,hY,iB,dD,hV.ext d6,dk,?_⟩;cases dD with
   |e1 t=>
    cases b1
    exact k
   |fN t iC=>
    cases b1
    exact k
   |bY _=>cases b1
   |fj _=>cases b1
   |iK _=>cases b1
   |l6 _=>cases b1
 ·have hd:ts.drop i=[]:=List.drop_eq_nil_of_le (by omega);rw[hd] at b1;cases b1;exact .inl ⟨ok.stop i aM aj tP (by omega),k cq aM aj (aL.aB.trans tP.aB) cE⟩
end
theorem iG.same{K:bo}{b:Bool}{H H1:aE}{a:ak}{xs:List V}(s:jK H H1)(h:match b with|true=>e' H a (.lst xs)|false=>c7 K H a xs):iG K b H1 a xs:=by
 cases b with
|true=>exact .inl (e'.same s h)
|false=>exact c7.same s h
section
variable {X:bh}{es:List bc}{k:Nat}{p pos e0:Pos}{a b:bc}{f g:bI}
def afO{bX b9:Bool}{K:bo}{a b:ak}{aZ:ak->Prop}{H1:aE}{ts us:List T}{vs ws:List V}(o_:gS aZ H1)(av:match bX with|true=>e' H1 a (.lst vs)|false=>c7 K H1 a vs)(q:bj K aZ H1 ts vs)(mI:match b9 with|true=>e' H1 b (.lst ws)|false=>c7 K H1 b ws)(ba:bj K aZ H1 us ws):zP K (DV K bX b9 a b vs.length ws.length) aZ H1 (p' ts us) where
 go:=λi F H t aB e=>by
  have aU:=(fe.mp e).1;simp only[p',List.length_zipWith] at aU;obtain⟨v,ah,_⟩:=q.get (fO (show i<ts.length by omega));obtain⟨v2,ao,_⟩:=ba.get (fO (show i<us.length by omega));exact⟨vs,v,ws,v2,iG.same aB.same av,ah,iG.same aB.same mI,ao,rfl,rfl⟩
 kY:=λi F H t x aj aB e y=>by
  obtain⟨p,v,v2,aC,rfl,rfl,tR,oH⟩:=y;have aU:=(fe.mp e).1;simp only[p',List.length_zipWith] at aU;have od:i<ts.length:=by omega
  have oe:i<us.length:=by omega
  obtain⟨ks,ah,ao⟩:=(q.ext aB).get (fO od);obtain⟨adX,bG,cT⟩:=(ba.ext aB).get (fO oe);have f9:=tR vs (iG.same aB.same av);rw[ah] at f9;cases f9;have ph:=oH ws (iG.same aB.same mI);rw[bG] at ph;cases ph;have aL:=Ext.laid (o:=.tup [v,v2]) aB.cn aC;refine⟨F,aL,?_⟩;have bB:t=.tuple [ts[i],us[i]]:=by
   rw[p',List.getElem?_zipWith,fO od,fO oe] at e;exact (e3 e).symm
  subst bB;simp only[Rep];exact⟨p,_,rfl,c7.of dH,bj.cons (ao.ext aL) (bj.cons (cT.ext aL) bj.nil)⟩
 stop:=λi F H aB ay=>⟨vs,ws,iG.same aB.same av,iG.same aB.same mI,rfl,rfl,by
  simp only[p',List.length_zipWith] at ay;rw[<- q.length,<- ba.length];omega⟩
def Sb{K:bo}{O F:ak->Prop}{H:aE}{t:T}{ts:List T}{v:V}(h:(match t with|.tuple ts=>some ts|.list ts=>some ts|_=>(none:Option (List T)))=some ts)(q:gv K O F H t v):∃(b:Bool) (a:ak) (vs:List V),v=.ref a/\(match b with|true=>e' H a (.lst vs)|false=>c7 K H a vs)/\bj K F H ts vs:=by
 split at h
 ·cases h
  obtain⟨a,vs,rfl,aw,av⟩:=q.tup;exact⟨false,a,vs,rfl,aw,av⟩
 ·cases h
  obtain⟨a,vs,rfl,aw,av⟩:=q.lst;exact⟨true,a,vs,rfl,aw,av⟩
 ·cases h
def SM(hm:X.mg "zip"=none)(ax:ez X a f)(ae:ez X b g)(bt:fh X "zip":=by rfl)(aw:bA [a,b] X.env=(false,eval a X.env)::bA [b] X.env:=by rfl)(fm:bA [b] X.env=(false,eval b X.env)::bA [] X.env:=by rfl)(hpl:(dQ pos (bA [b] X.env)).any (·.1)=false:=by rfl):
  wR X (.Tuple es k e0) (.Call (.Name "zip" p) [a,b] [] pos) (m9 (df f) (df g)):=zB (ah5 bt hm (ix ax (ix ae kZ fm) aw) aw hpl) λσ H R ⟨aF,aN,O,F,ag,ts,r,e,k⟩=>by
 simp only[m9,df,dP,cb] at e;obtain⟨xs,⟨t,bB,aR⟩,ys,⟨u,eX,a7⟩,rfl⟩:=e;refine⟨aF,aN,O,F,ag,_,r,bB,λv aZ H1 aL aP=>⟨aF,aN,O,aZ,ag,_,r.ext aL,eX,λw cX bb bx ba=>?_⟩⟩;obtain⟨c8,a1,vs,rfl,hj,pk⟩:=Sb aR (aP.ext bx);obtain⟨cv,a2,ws,rfl,fm,mI⟩:=Sb a7 ba;exact⟨c8,cv,a1,a2,vs,ws,rfl,iG.same (jK.refl _) hj,iG.same (jK.refl _) fm,k _ cX bb (aL.trans bx) (afO bx.cn hj pk fm mI)⟩
def So(ax:ez X a f)(ae:ez X b g):o4 X (.BinOp a .Mult b pos) (af ow f g):=
 ec (uB RL ax ae) λσ H Q ⟨aF,aN,O,F,ag,ts,r,e,k⟩=>by
  simp only[af,cb] at e;obtain⟨x,ex,y,eL,eo⟩:=e;refine⟨aF,aN,O,F,ag,x,r,ex,λgP aZ H1 aL a4=>⟨aF,aN,O,aZ,ag,y,r.ext aL,eL,λjD cX bb bx bM=>?_⟩⟩;unfold ow at eo;split at eo
  ·split at eo <;> cases eo
  next xs n=>
   split at eo
   next ar=>
    cases eo
    obtain⟨akV,vs,rfl,aw,av⟩:=(a4.ext bx).lst;rw[bM.int];refine⟨akV,n,vs,rfl,rfl,aw,ar.1,ar.2.1,by rw[k0,<- av.length];exact ar.2.2,λq bS=>?_⟩;have d6:Ext cX bb cX (upd bb q (.lst (dZ n.toNat vs).flatten)):=Ext.laid bx.cn bS;exact k q _ cX _ ((aL.trans bx).trans d6) ((aL.trans bx).same.none bS) (λb2=>by
     obtain⟨o,eo⟩:=bx.cn q b2;rw[bS] at eo;cases eo) dH ((bj.rep av n.toNat).ext d6)
   next=>cases eo
  ·cases eo
end
end
section
variable [c5]
section
variable {X:bh}{cH iter elt:bc}{ifs:List bc}{scope:Scope}{it:jN}{fW:hO}{cc:fg}{fb:bI}{pos:Pos}{own:List Str}{caps:List (Nat×Str)}
def afU{X':bh}{R:Result->aQ->Prop}{J:kG}{b2:List ak}{tv D:ak}{hH:Nat->b5->Prop}{aF O aZ:ak->Prop}{aN:gu}{bb:aE}{ts ys:List T}(hx:X'.d3=λ_ _=>False)(aG:X'.calm=true)(bt:k6 X' cH fW)(aX:n0 X' ifs cc)(he:cg X' elt fb)
  (T:Turn X'.prog X'.w X'.K cH J b2 tv hH) (oC:∀aj:aE,(∀b∈b2,aj b=none)->∀b∈b2,m' X' [] aj b) (ok:zP X'.K J aZ bb ts) (xl:ts.length<=big) (k':bb D=none) (lZ:¬O D) (F_:aN.h D=none)
  (fin:∀cq aj aM s1 vs,bw.Inv X' [] cq aj s1->Ext aZ bb aM aj->aj D=some (.lst vs)->¬aM D->bj X'.K aM aj ys vs->R (.ok .next) s1)
  {s:aQ} {σ:bw.St} {H:aE} {F:ak->Prop} {ag:Ev} (I:bw.Inv X' [] σ H s) (st:hH 0 s.heap) (fr:∀b∈b2,H b=none) (x:Ext aZ bb F H) (r:cJ X'.K aF aN O F H ag σ) (i_:H D=some (.lst [])) (It:¬F D) (eL:gf fW cc fb ts ag=some ys):
  codeAny (bZ X'.prog X'.w) X'.A (.compLoop (.ListComp elt [⟨cH,iter,ifs,0⟩] scope pos) 0 (.ref tv) (.ref D) X'.env) R s:=by
 refine PI (λn s'=>∃i cq aj aM ε' my vs,n=ts.length - i/\i<=ts.length/\bw.Inv X' [] cq aj s'/\hH i s'.heap/\(∀b∈b2,aj b=none)/\Ext aZ bb aM aj/\cJ X'.K aF aN O aM aj ε' cq/\aj D=some (.lst vs)/\¬aM D/\bj X'.K aM aj my vs/\my.length<=i /\
  ∃rest,gf fW cc fb (ts.drop i) ε'=some rest/\ys=my++rest) ?_ ts.length ⟨0,σ,H,F,ag,[],[],rfl,j6 _,I,st,fr,x,r,i_,It,bj.nil,eh _,ys,by simpa using eL,by simp⟩
 rintro n s3 ⟨i,kF,dj,hY,L2,my,vs,rfl,aU,ej,rU,rD,d6,hV,oa,tB,cU,Gs,rest,d2,es⟩;have gn:∀{k4:ak->Prop} {jO:aE} {i6:ak->Prop} {g_:aE} {o:eW},Ext k4 jO i6 g_->jO D=some o->¬k4 D->¬i6 D:=λy e n z=>by
  rcases y.new D z with q|q
  ·exact n q
  ·rw[e] at q;cases q
 by_cases e7:i<ts.length
 ·have hd:ts.drop i=ts[i]::ts.drop (i+1):=List.drop_eq_getElem_cons e7;have oc:ts[i]?=some ts[i]:=fO e7;rw[hd] at d2;simp only[gf,cb] at d2;obtain⟨m_,mA,b,dk,d2⟩:=d2;refine gB (T.item X' rfl rfl rfl aG i [] s3 kF dj (λ_ _=>False) ej (oC dj rD) rU (ok.go i hY dj _ d6 oc)) (λb8 s4 ⟨u,av,cT⟩=>?_) λ_ _ z=>z;subst av;refine gB cT (λ_ s5 ⟨i2,g_,qf,tK,q0,oB,xb⟩=>?_) λ_ _ z=>z;obtain⟨i6,nD,a4⟩:=ok.kY i hY dj _ i2 g_ d6 oc q0;have wM:=qf.pinned (oC g_ xb) (T.obj _ _ oB);have xr:=bt _ s5 kF g_ i2 u (λjL nX=>nX=g_/\cJ X'.K aF aN O i6 g_ m_ jL) wM tK ⟨aF,aN,O,i6,L2,_,m_,hV.ext nD,a4,mA,λjL pB=>⟨rfl,pB⟩⟩;rw[hx] at xr;refine gB xr (λ_ c9 ⟨jL,nX,sH,rA,pB⟩=>?_) λ_ _ z=>z;subst rA;have again:∀{jM:bw.St} {fx:aE} {cy:aQ},bw.Inv X' ([]++wi b2 s5.heap) jM fx cy->hH (i+1) cy.heap/\(∀b∈b2,fx b=none)/\bw.Inv X' [] jM fx cy:=λ{jM fx cy} hz=>by
   refine⟨T.keep _ _ _ oB λb ae o e=>(hz.pin (b,o) (l' _ (l' _ (vL ae e)))).1,λb ae=>?_,hz.yn⟩
   obtain⟨o,e,d⟩:=T.obj _ _ oB b ae;exact (hz.pin (b,o) (l' _ (l' _ (vL ae e)))).2.1
  have xC:=aX _ c9 jL nX (λo9 fx=>o9=b/\∃kb,Ext i6 nX kb fx) sH ⟨aF,aN,O,i6,m_,b,pB,dk,λkb fx lC=>⟨rfl,kb,lC⟩⟩;rw[hx] at xC;refine gB xC (λIT cy ⟨fx,hz,rB,kb,lC⟩=>?_) λ_ _ z=>z;subst rB;have oG:=nD.trans lC;have pC:=pB.ext lC;cases IT with
  |false=>
   simp only[j5,if_false] at d2 ⊢;obtain⟨a1,a2,iH⟩:=again hz;exact⟨_,by omega,i+1,jL,fx,kb,m_,my,vs,rfl,e7,iH,a1,a2,d6.trans oG,pC,oG.same.get oa,gn oG oa tB,cU.ext oG,by omega,rest,d2,es⟩
  |true=>
   simp only[if_true,cb,dP] at d2 ⊢;obtain⟨y,FI,Jb,FG,rfl⟩:=d2;have nt:=he _ cy jL fx (λv k5=>∃kc,Ext kb fx kc k5/\Rep X'.K kc k5 y v) hz ⟨aF,aN,O,kb,m_,y,pC,FI,λv kc k5 mU tJ=>⟨kc,mU,tJ⟩⟩;rw[hx] at nt;refine gB nt (λu8 cN ⟨mR,k5,DO,I7,kc,mU,tJ⟩=>?_) λ_ _ z=>z;have qQ:=oG.trans mU;have s_:=qQ.same.get oa;have tC:=gn qQ oa tB;obtain⟨Hy,I8⟩:=(pC.ext mU).other (ys:=vs++[mR]) tC lZ F_ s_;have ax:=CZ (X:=X') _ cN jL k5 (.ref D) [mR] (.ref D) [u8] (λ_ wL=>wL=upd k5 D (.lst (vs++[mR]))) DO rfl (.cons I7 .nil) ⟨D,vs,mR,rfl,rfl,s_,by rw[k0,<- cU.length];omega,rfl⟩;rw[hx] at ax;refine gB ax (λu9 dn ⟨v9,wL,DP,ab6,nk⟩=>?_) λ_ _ z=>z;subst nk;obtain⟨a1,a2,iH⟩:=again DP;have qR:Ext aZ bb kc (upd k5 D (.lst (vs++[mR]))):=by
    have y:=d6.trans qQ;refine⟨λb o e=>?_,y.sub,y.new,⟨λb f=>?_,y.cn.akT.upd λu e=>.inl ⟨_,e3 (e.symm.trans s_)⟩⟩⟩
    ·have nb:b≠D:=by
      rintro rfl;rw[k'] at e;cases e
     rw[cw nb];exact y.same b o e
    ·have nb:b≠D:=by
      rintro rfl;exact tC f
     rw[cw nb];exact y.cn b f
   refine⟨_,by omega,i+1,jL,_,kc,m_,my++[y],vs++[mR],rfl,e7,iH,a1,a2,qR,I8,dH,tC,((cU.ext qQ).append (bj.cons tJ bj.nil)).aB Hy,by simp;omega,Jb,FG,by rw[es];simp⟩
 ·have hd:ts.drop i=[]:=List.drop_eq_nil_of_le (by omega);rw[hd] at d2;cases d2;refine gB (T.done X' rfl rfl rfl aG i [] s3 kF dj (λ_ _=>False) ej (oC dj rD) rU (ok.stop i hY dj d6 (by omega))) (λb8 s4 ⟨av,iE⟩=>?_) λ_ _ z=>z;subst av;exact fin kF dj hY s4 vs iE d6 oa tB (by rw[es,mW];exact cU)
def agI{use:Option (aq->Sem Unit)}{Q:aq->aQ->Prop}{e0:Pos}(S:oZ X scope own caps)(aU:wR X cH iter it)
  (bt:∀cl C de aN b2 dw,k6 (gr X (own++caps.map (·.2)) scope cl C de aN b2 dw) cH fW)
  (aX:∀cl C de aN b2 dw,n0 (gr X (own++caps.map (·.2)) scope cl C de aN b2 dw) ifs cc)
  (he:∀cl C de aN b2 dw,cg (gr X (own++caps.map (·.2)) scope cl C de aN b2 dw) elt fb)
  (aw:∀x,pQ iter X.env x=pure x) {ai:List (ak×Obj)} {s:aQ} {σ:bw.St} {H:aE} {aF O F:ak->Prop} {aN:gu} {ag:Ev} {ys:List T} (I:bw.Inv X ai σ H s) (r:cJ X.K aF aN O F H ag σ)
  (e:comp own.length (caps.map (·.1)) it fW cc fb ag=some (.list ys)) (fin:∀D C aj aM s1 vs,After X ai σ F H ys D C aj aM s1 vs->compPost (bZ X.prog X.w) X.A X.d3 use Q (.ref D) C (.ok .next) s1):
  bK (bZ X.prog X.w) X.A (comprehension (.ListComp elt [⟨cH,iter,ifs,0⟩] scope pos) scope X.env e0 (newList []) false (eval iter X.env) use) Q X.d3 s:=by
 simp only[comp,cb] at e;obtain⟨ts,bB,e⟩:=e;split at e
 case isFalse=>cases e
 next xl=>
 simp only[dP] at e;obtain⟨ad_,eL,e⟩:=e;cases e;have qu:∀x∈scope.names,x.2=.free->∃c,X.env.cells.lookup x.1=some c:=λx hx aI=>I.ok.has x.1 (S.free x hx aI);refine wpAny_comprehension_free rfl aw (PC qu) S.kind S.names (cA (aU ai s σ H (λJ H1=>∃aZ,Ext F H aZ H1/\zP X.K J aZ H1 ts) I ⟨aF,aN,O,F,ag,ts,r,bB,λJ aZ H1 aL ok=>⟨aZ,aL,ok⟩⟩) λv s1 ah=>cA ah λAP s2 ao=>?_);obtain⟨tv,b2,hH,J,bb,rfl,ck,T,jB,f2,aZ,aL,ok⟩:=ao;have gH:∀b∈b2,b<s2.heap.objs.size:=λb ae=>by
  obtain⟨o,aH,_⟩:=T.obj 0 _ jB b ae;exact c3 aH
 have k':bb s2.heap.objs.size=none:=ck.fresh;have i_:H s2.heap.objs.size=none:=aL.same.none k';have jd:(s2.heap.push {cls:=.type "list",data:=.seq ([]:List aq).toArray}).objs.size=s2.heap.objs.size+1:=kU ..;refine wpAny_newList ?_ (j6 _);refine wpAny_newFunctionEnv S.cell (by intro y bN;simp at bN) (λgI Gw GD=>?_) S.kind;have keep:∀b u,(s2.heap.push {cls:=.type "list",data:=.seq ([]:List aq).toArray}).get? b=some u->gI.get? b=some u:=λb u e=>GD.extBut b u (e2 (c3 e)) (dx _ e);have iE:=Rm (tk:=s2.toks+0) S ck f2 gH Gw keep;have l5:=(r.ext aL).z1 (D:=s2.heap.objs.size) own.length S.aW k';refine codeAny_compStart_list ?loop (T.self _ 0 _ _ _ (T.keep 0 _ _ jB λb ae o e=>keep b o (dx _ e)) ?loop);refine afU (X':=gr X (own++caps.map (·.2)) scope (kg X.env scope.names []) (s2.heap.push {cls:=.type "list",data:=.seq ([]:List aq).toArray}).objs.size {s2 with heap:=s2.heap.push {cls:=.type "list",data:=.seq ([]:List aq).toArray} } (upd bb s2.heap.objs.size (.lst [])) b2 (X.dw++ai))
  rfl S.calm (bt _ _ _ _ _ _) (aX _ _ _ _ _ _) (he _ _ _ _ _ _) T (λaj a8 b ae=>?_) ok xl k' (λz=>z.2 rfl) (r.o0 _ (r.fr _ i_)) (λcq aj aM s1 vs sI i2 F9 Iu du=>?_) iE (T.keep 0 _ _ jB λb ae o e=>keep b o (dx _ e)) (λb ae=>?_) (Ext.laid aL.cn k') l5 dH ?_ eL
 ·have tH:=Lu S ck f2 gH (own++caps.map (·.2));refine⟨a8 b ae,(tH.uY b ae).1,tH.uZ b ae,.inl ae,λx c e=>(tH.uY b ae).2 x c e,λp aC=>?_⟩;have oh:p∈X.dw++ai:=by simpa [gr] using aC
  exact (f2 b ae).2.2.2.2.2 p oh
 ·obtain⟨m,a8,_⟩:=id sI.loc;refine fin s2.heap.objs.size _ aj aM s1 vs ⟨λh' g0=>Qf ck f2 sI g0,⟨m,a8⟩,sI.free,?_,λx c e z=>?_,λp aC z=>?_,?_,i_,aL.trans i2,Iu,F9,du⟩
  ·rw[jd];exact Nat.le_succ_of_le ck.jd
  ·obtain⟨v,q⟩:=ck.cell x c e;have:=q.lt;rw[z,jd] at this;exact absurd this (Nat.not_lt.mpr (pN _))
  ·have:=c3 (ck.pin p aC).1;rw[z,jd] at this;exact absurd this (Nat.not_lt.mpr (pN _))
  ·have:=ck.lt;rw[jd];exact hW (Nat.lt_succ_of_lt this)
 ·have:=(f2 b ae).1;rw[cw (e2 (gH b ae))];exact this
 ·intro z;obtain⟨o,e⟩:=aL.cn _ z;rw[k'] at e;cases e
def ahW(S:oZ X scope own caps)(aU:wR X cH iter it)
  (bt:∀cl C de aN b2 dw,k6 (gr X (own++caps.map (·.2)) scope cl C de aN b2 dw) cH fW)
  (aX:∀cl C de aN b2 dw,n0 (gr X (own++caps.map (·.2)) scope cl C de aN b2 dw) ifs cc)
  (he:∀cl C de aN b2 dw,cg (gr X (own++caps.map (·.2)) scope cl C de aN b2 dw) elt fb)
  (aw:∀x,pQ iter X.env x=pure x:=by intro _;rfl):o4 X (.ListComp elt [⟨cH,iter,ifs,0⟩] scope pos) (comp own.length (caps.map (·.1)) it fW cc fb):=by
 intro ai s σ H Q I ⟨aF,aN,O,F,ag,ys,r,e,k⟩;rw[eval_ListComp];refine agI S aU bt aX he aw I r e λD C aj aM s1 vs a=>?_;obtain⟨m,a8⟩:=a.ns;exact⟨m,a8,λh' g0=>⟨.ref D,aj,a.inv h' g0,rfl,k D vs aM aj a.ext a.new a.gn a.lst a.rep⟩⟩
def ag6(S:oZ X scope own caps)(aU:wR X cH iter it)
  (bt:∀cl C de aN b2 dw,k6 (gr X (own++caps.map (·.2)) scope cl C de aN b2 dw) cH fW)
  (aX:∀cl C de aN b2 dw,n0 (gr X (own++caps.map (·.2)) scope cl C de aN b2 dw) ifs cc)
  (he:∀cl C de aN b2 dw,cg (gr X (own++caps.map (·.2)) scope cl C de aN b2 dw) elt fb)
  (aw:∀x,pQ iter X.env x=pure x:=by intro _;rfl):cg X (.ListComp elt [⟨cH,iter,ifs,0⟩] scope pos) (comp own.length (caps.map (·.1)) it fW cc fb):=
 Ir (ahW S aU bt aX he aw) λag t e=>KI e
end
section
variable {P:cQ}{w:cB}{K:bo}{mg:Str->Option aq}{base:b5}
def aiu{x:Str}{st:Stmt}{f:ak}{fd:gq}{N ps:List Str}{k:Nat}{b:bz}(F:cY K x x st f fd)(S:dg N ps (cp st))(bd:Binds K fd ps [])(m:mg x=some (.ref f))
  (ae:∀(c0:aq) (A:di) (outer:List Env) (s:aQ) (H:aE) (E:gU),d8 k (A.deeper (envOfC x (cp st) s.heap.objs.size f c0)) ->
   rp (jU fH P w K mg base N x (cp st) f c0 A outer s H E).kR (jH st) b):nV P w K mg base x (k+1) ps.length (pD b N.length):=SR F S bd m λc0 A outer s H E av=>(ae c0 A outer s H E av).h
end
section
variable {X:bh}{c:Nat}{l4:List Str}{keys:List (Option bc)}{values:List bc}{es:List (Bool×bI)}{pos pa:Pos}
def aiC(j:Nat){y:Str}{pos':Pos}(k:hN c l4)(fc:X.N.Nodup)(h:sO X pa keys values l4 es)(aU:X.N[j]?=some y:=by rfl)(hx:Loc X.env.scope y:=by first|exact Or.inl rfl|exact Or.inr rfl)
  (aw:jg (.Dict keys values pa) (some (.Name y pos')) pos.line X.env=pure false:=by rfl) (hf:X.fn y=true\/X.env.scope.names.lookup y=some .local:=by first|exact .inl rfl|exact .inr rfl)
  (hle:es.length<=l4.length:=by decide) (tc:keys.all (·.isSome)=true:=by rfl) (ay:keys.length=values.length:=by rfl) (h0:keys≠[]:=by exact List.cons_ne_nil _ _) (xg:keys.length<=15:=by decide):
  uL X (.Assign [.Name y pos'] (.Dict keys values pa) pos) (o8 j (xY c es)):=⟨LD j fc (ajg k h hle tc ay h0 xg) aU hx aw hf⟩
end
end
end D
end
section
namespace bq
open D
noncomputable def QU:bz:=
  (seq (gj (df (af aK (nm 0) (aa (.int 0)))) (bJ 2) (iff (a0 (af oEq (af aK (nm 2) (aa (.int 0))) (nm 1))) (cI (af aK (nm 2) (aa (.int 1)))) skip))
  never)
noncomputable def ui:List T->Option T:=d4 QU 3
noncomputable def R2:bz:=
  (seq (asg 1 (bl fP [(comp 1 [] (df (af aK (nm 0) (aa (.int 0)))) (bJ 0) (fi true) (aa (.str "shut")))])) (seq (asg 2 (bl fP [(comp 1 [] (df (af aK (nm 0) (aa (.int 1)))) (bJ 0) (fi true) (aa (.int 0)))])) (cI (bQ [(aa (.str "off")),(aa (.int 0)),(aa .none),(aA 1),(bQ []),(aa (.int 0)),(bQ []),(aa (.int 0)),(aa (.int 0)),(aA 2)]))))
noncomputable def lI:List T->Option T:=d4 R2 3
noncomputable def QV:bz:=
  (seq (gj (df (af aK (nm 0) (aa (.int 1)))) (bJ 2) (iff (a0 (af oEq (af aK (nm 2) (aa (.int 0))) (nm 1))) (cI (nm 2)) skip)) (cI (aa .none)))
noncomputable def y5:List T->Option T:=d4 QV 3
noncomputable def Qi:bz:=
  (cI (bl akS [(af km (nm 0) (nm 1)),(aa (.int 0))]))
noncomputable def ud:List T->Option T:=d4 Qi 2
noncomputable def Pm:bz:=
  (seq (cx 0 0 0 (aA 1)) (seq (cx 0 0 1 (af aK (nm 2) (aa (.int 0)))) (seq (cx 0 0 2 (af aK (nm 2) (aa (.int 1)))) (seq (cx 0 0 3 (af aK (nm 2) (aa (.int 2)))) (seq (wI 0 0 4 (comp 1 [] (df (af aK (nm 1) (aa (.int 0)))) (bJ 0) (fi true) (af aK (nm 0) (aa (.int 0)))) (af aK (nm 2) (aa (.int 3)))) (seq (g9 0 0 5 (fo wm (af aK (nm 2) (aa (.int 4))))) (seq (cx 0 0 6 (af aK (nm 2) (aa (.int 5)))) (seq (g9 0 0 7 (fo wm (af aK (nm 2) (aa (.int 6))))) (seq (cx 0 0 8 (af aK (nm 2) (aa (.int 7)))) (seq (cx 0 0 9 (af aK (nm 2) (aa (.int 8)))) (seq (wI 0 0 10 (comp 1 [] (df (af aK (nm 1) (aa (.int 1)))) (bJ 0) (fi true) (af aK (nm 0) (aa (.int 0)))) (af aK (nm 2) (aa (.int 9)))) (seq (cx 0 0 11 (aa (.int 0))) (g9 0 0 12 (ew []))))))))))))))
noncomputable def yB:List aO->Option (T×List aO):=runM 0 0 Pm 3
noncomputable def Py:bz:=
  (seq (asg 1 (zH 0 0 4)) (seq (asg 2 (bl fP [(fld 0 0 5)])) (seq (asg 3 (bl fP [(fld 0 0 7)])) (seq (asg 4 (zH 0 0 10)) (cI (bQ [(eS 0 0 1),(eS 0 0 2),(eS 0 0 3),(aA 1),(aA 2),(eS 0 0 6),(aA 3),(eS 0 0 8),(eS 0 0 9),(aA 4)]))))))
noncomputable def vC:List aO->Option T:=jc Py 5
noncomputable def PD:bz:=
  (jQ 0 0 12 (bQ [(eS 0 0 11),(aA 1),(aA 2)]))
noncomputable def gC:List aO->Option (T×List aO):=runM 0 0 PD 3
noncomputable def Pp:bz:=
  (cx 0 0 6 (af aK (af aK (fld 0 0 0) (aa (.int 2))) (aa (.int 2))))
noncomputable def ak4:List aO->Option (T×List aO):=runM 0 0 Pp 1
noncomputable def J8:bz:=
  (seq (ct (d1 0 ak4 0 [])) (iff (a0 (af (da true) (nm 1) (fld 0 0 7))) (seq (jQ 0 0 7 (aA 1)) (ct (d1 0 gC 0 [(aa (.str "alarm")),(aA 1)]))) skip))
noncomputable def md:List aO->Option (T×List aO):=runM 0 0 J8 2
noncomputable def B8:bz:=
  (seq (iff (eZ (a0 (af eE (nm 2) (aa (.str "way")))) (a0 (af oLe (af aK (af aK (fld 0 0 0) (aa (.int 2))) (aa (.int 1))) (aa (.int 0))))) (seq (ct (d1 0 md 0 [(aA 1)]))
  nQ) skip) (seq (cx 0 0 1 (aa (.str "coming"))) (seq (cx 0 0 2 (af aK (af aK (fld 0 0 0) (aa (.int 2))) (aa (.int 1)))) (seq (cx 0 0 3 (aA 1)) (ct (d1 0 gC 0 [(aa (.str "coming")),(aA 1)]))))))
noncomputable def t5:List aO->Option (T×List aO):=runM 0 0 B8 3
noncomputable def Po:bz:=
  (seq (asg 3 (bl ui [(eS 0 0 0),(aA 1)])) (iff (a0 (af oEq (nm 3) (aa (.str "day")))) (ct (d1 0 md 0 [(aA 1)])) (iff (a0 (af oEq (fld 0 0 1) (aa (.str "off")))) (iff (a0 (af oEq (nm 2) (aa (.str "cut")))) (ct (d1 0 gC 0 [(aa (.str "fault")),(aA 1)])) skip) (iff (eZ (a0 (af oEq (nm 2) (aa (.str "cut")))) (a0 (af oEq (nm 3) (aa (.str "once"))))) (ct (d1 0 md 0 [(aA 1)])) (iff (a0 (af oEq (fld 0 0 1) (aa (.str "on")))) (ct (d1 0 t5 0 [(aA 1),(aA 3)])) skip)))))
noncomputable def yE:List aO->Option (T×List aO):=runM 0 0 Po 4
noncomputable def PE:bz:=
  (seq (asg 3 (lX 0 0 4 (nm 1))) (seq (iff (a0 (af oEq (nm 2) (nm 3))) nQ skip) (seq (oW 0 0 4 (nm 1) (aA 2)) (iff (a0 (af oEq (nm 2) (aa (.str "shut")))) (iff (a0 (af oEq (nm 3) (aa (.str "cut")))) (ct (d1 0 gC 0 [(aa (.str "mended")),(aA 1)])) skip) (iff (a0 (af (da true) (nm 1) (fld 0 0 5))) (ct (d1 0 yE 0 [(aA 1),(aA 2)])) skip)))))
noncomputable def yL:List aO->Option (T×List aO):=runM 0 0 PE 4
noncomputable def JW:bz:=
  (cI (iI (af eE (af aK (nm 1) (aa (.int 3))) (aa (.int 0))) (af rN (lX 0 0 10 (af aK (nm 1) (aa (.int 0)))) (af aK (nm 1) (aa (.int 3))))))
noncomputable def vy:List aO->Option T:=jc JW 2
noncomputable def JU:bz:=
  (seq (ct (d1 0 gC 0 [(aa (.str "wrong")),(aa .none)])) (seq (nf 0 0 8 (aa (.int 1))) (iff (a0 (af rN (fld 0 0 8) (aa (.int 3)))) (seq (cx 0 0 8 (aa (.int 0))) (seq (cx 0 0 9 (aa (.int 90))) (seq (ct (d1 0 ak4 0 [])) (ct (d1 0 gC 0 [(aa (.str "attack")),(aa .none)]))))) skip)))
noncomputable def vw:List aO->Option (T×List aO):=runM 0 0 JU 1
noncomputable def tZ:bz:=
  (seq (iff (a0 (af oEq (nm 1) (aa (.str "unset")))) (cI (aa (.bool false))) skip) (seq (iff (a0 (af eE (fld 0 0 1) (aa (.str "off")))) (cI (aa (.bool true))) skip) (seq (iff (a0 (af oEq (nm 1) (aa (.str "shunt")))) (cI (jb (af oEq (bl ui [(eS 0 0 0),(aA 2)]) (aa (.str "day"))) (af (da false) (nm 2) (fld 0 0 5)))) skip) (cI (iI (af oEq (nm 1) (aa (.str "free"))) (af (da true) (nm 2) (fld 0 0 5)))))))
noncomputable def pR:List aO->Option T:=jc tZ 3
noncomputable def Pj:bz:=
  (seq (asg 2 (comp 1 [1] (df (af aK (fld 0 0 0) (aa (.int 0)))) (bJ 0) (a0 (af (da false) (af aK (nm 0) (aa (.int 1))) (nm 1))) (af aK (nm 0) (aa (.int 0))))) (cI (comp 1 [0] (df (aA 2)) (bJ 0) (ei (a0 (af eE (lX 0 1 4 (nm 0)) (aa (.str "shut")))) (a0 (af (da true) (nm 0) (fld 0 1 5)))) (aA 0))))
noncomputable def t4:List aO->Option T:=jc Pj 3
noncomputable def Pa:bz:=
  (seq (asg 4 (nv (a0 (af oEq (nm 2) (aa (.str "free")))) (aa (.str "shunt")) (aA 2))) (seq (iff (a0 (af (da true) (nm 4) (af aK (nm 1) (aa (.int 2))))) (cI (bQ [(aa (.str "denied")),(af aK (nm 1) (aa (.int 1)))])) skip) (seq (iff (a0 (lN 0 pR 0 [(aA 2),(aA 3)])) (cI (bQ [(aa (.str "no")),(af aK (nm 1) (aa (.int 1)))])) skip) (seq (asg 5 (lN 0 t4 0 [(aa (.tuple (i5 ["day","once"])))])) (seq (iff (ei (a0 (af oEq (nm 2) (aa (.str "set")))) (i1 (nm 5))) (cI (bQ [(aa (.str "open")),(af aK (nm 5) (aa (.int 0)))])) skip) (cI (aa .none)))))))
noncomputable def yv:List aO->Option T:=jc Pa 6
noncomputable def Pf:bz:=
  (seq (cx 0 0 1 (aa (.str "on"))) (seq (cx 0 0 2 (aa (.int 0))) (seq (ct (d1 0 gC 0 [(aa (.str "on")),(aa .none)])) (gj (df (lN 0 t4 0 [(aa (.tuple (i5 ["inner","way"])))])) (bJ 1) (ct (d1 0 md 0 [(aA 1)]))))))
noncomputable def tY:List aO->Option (T×List aO):=runM 0 0 Pf 2
noncomputable def J5:bz:=
  (seq (g9 0 0 7 (ew [])) (seq (cx 0 0 6 (aa (.int 0))) (seq (cx 0 0 1 (aa (.str "leaving"))) (seq (cx 0 0 2 (af aK (af aK (fld 0 0 0) (aa (.int 2))) (aa (.int 0)))) (seq (ct (d1 0 gC 0 [(aa (.str "set")),(aA 1)])) (iff (a0 (af oLe (fld 0 0 2) (aa (.int 0)))) (ct (d1 0 tY 0 [])) skip))))))
noncomputable def vB:List aO->Option (T×List aO):=runM 0 0 J5 2
noncomputable def Pl:bz:=
  (seq (cx 0 0 1 (aa (.str "off"))) (seq (cx 0 0 2 (aa (.int 0))) (seq (cx 0 0 6 (aa (.int 0))) (seq (cx 0 0 3 (aa .none)) (seq (g9 0 0 5 (ew [])) (ct (d1 0 gC 0 [(aa (.str "unset")),(aA 1)])))))))
noncomputable def yA:List aO->Option (T×List aO):=runM 0 0 Pl 2
noncomputable def yG:bz:=
  (iff (a0 (af oEq (nm 2) (aa (.str "set")))) (ct (d1 0 vB 0 [(aA 1)])) (iff (a0 (af oEq (nm 2) (aa (.str "unset")))) (ct (d1 0 yA 0 [(aA 1)])) (iff (a0 (af oEq (nm 2) (aa (.str "shunt")))) (seq (g9 0 0 5 (fo C7 (af cC (fld 0 0 5) (ew [(aA 3)])))) (ct (d1 0 gC 0 [(aa (.str "shunt")),(aA 3)]))) (seq (qG 0 0 5 (aA 3)) (ct (d1 0 gC 0 [(aa (.str "free")),(aA 3)]))))))
noncomputable def r4:List aO->Option (T×List aO):=runM 0 0 yG 4
noncomputable def JV:bz:=
  (seq (asg 4 (lN 0 yv 0 [(aA 1),(aA 2),(aA 3)])) (iff (a0 (fo hU (nm 4))) (seq (oY 0 0 10 (af aK (nm 1) (aa (.int 0))) (aa (.int 1))) (ct (d1 0 r4 0 [(af aK (nm 1) (aa (.int 1))),(aA 2),(aA 3)]))) (ct (d1 0 gC 0 [(af aK (nm 4) (aa (.int 0))),(af aK (nm 4) (aa (.int 1)))]))))
noncomputable def vx:List aO->Option (T×List aO):=runM 0 0 JV 5
noncomputable def yM:bz:=
  (seq (asg 4 (bl y5 [(eS 0 0 0),(aA 1)])) (iff (a0 (af gZ (fld 0 0 9) (aa (.int 0)))) (ct (d1 0 gC 0 [(aa (.str "locked")),(aa .none)])) (iff (eZ (a0 (fo hU (nm 4))) (a0 (lN 0 vy 0 [(aA 4)]))) (ct (d1 0 vw 0 [])) (seq (cx 0 0 8 (aa (.int 0))) (ct (d1 0 vx 0 [(aA 4),(aA 2),(aA 3)]))))))
noncomputable def r7:List aO->Option (T×List aO):=runM 0 0 yM 5
noncomputable def Ph:bz:=
  (seq (nf 0 0 11 (aA 1)) (seq (cx 0 0 9 (bl ud [(eS 0 0 9),(aA 1)])) (seq (cx 0 0 6 (bl ud [(eS 0 0 6),(aA 1)])) (cx 0 0 2 (bl ud [(eS 0 0 2),(aA 1)])))))
noncomputable def t2:List aO->Option (T×List aO):=runM 0 0 Ph 2
noncomputable def Pg:bz:=
  (seq (asg 1 (eS 0 0 3)) (seq (cx 0 0 1 (aa (.str "on"))) (seq (cx 0 0 3 (aa .none)) (ct (d1 0 md 0 [(aA 1)])))))
noncomputable def yx:List aO->Option (T×List aO):=runM 0 0 Pg 2
noncomputable def JZ:bz:=
  (iff (a0 (af oEq (fld 0 0 1) (aa (.str "leaving")))) (ct (d1 0 tY 0 [])) (ct (d1 0 yx 0 [])))
noncomputable def vA:List aO->Option (T×List aO):=runM 0 0 JZ 1
noncomputable def yJ:bz:=
  (seq (iff (a0 (af oLt (nm 1) (aa (.int 1)))) nQ skip) (iff (ei (a0 (af (da false) (fld 0 0 1) (bQ [(aa (.str "leaving")),(aa (.str "coming"))]))) (a0 (af oLe (fld 0 0 2) (nm 1)))) (seq (asg 2 (af km (nm 1) (fld 0 0 2))) (seq (ct (d1 0 t2 0 [(eS 0 0 2)])) (seq (ct (d1 0 vA 0 [])) (ct (d1 0 t2 0 [(aA 2)]))))) (ct (d1 0 t2 0 [(aA 1)]))))
noncomputable def r6:List aO->Option (T×List aO):=runM 0 0 yJ 3
noncomputable def B':bz:=
  (iff (a0 (af oEq (af aK (nm 1) (aa (.int 0))) (aa (.str "line")))) (ct (d1 0 yL 0 [(af aK (nm 1) (aa (.int 1))),(af aK (nm 1) (aa (.int 2)))])) (iff (a0 (af oEq (af aK (nm 1) (aa (.int 0))) (aa (.str "code")))) (ct (d1 0 r7 0 [(af aK (nm 1) (aa (.int 1))),(af aK (nm 1) (aa (.int 2))),(af aK (nm 1) (aa (.int 3)))])) (ct (d1 0 r6 0 [(af aK (nm 1) (aa (.int 1)))]))))
noncomputable def r5:List aO->Option (T×List aO):=runM 0 0 B' 2
noncomputable def Kj:bz:=
  (seq (o8 3 (Bk 0 yB [(aA 0),(aA 1)])) (seq (gj (df (aA 2)) (bJ 4) (ct (d1 0 r5 3 [(aA 4)]))) (tL 3)))
noncomputable def pU:List T->Option aO:=pD Kj 5
noncomputable def R3:bz:=
  (cI (x3 0 vC (oX pU [(aA 0),(aA 1),(aA 2)]) []))
noncomputable def mj:List T->Option T:=d4 R3 3
noncomputable def R0:bz:=
  (cI (bl fP [(zr 0 12 (oX pU [(aA 0),(aA 1),(aA 2)]))]))
noncomputable def mi:List T->Option T:=d4 R0 3
noncomputable def Ly:bz:=
  (seq (asg 2 (comp 2 [] (m9 (hM (af aK (nm 0) (aa (.int 0)))) (hM (af aK (nm 1) (aa (.int 3))))) (dq [(bJ 0),(bJ 1)]) (a0 (af eE (nm 1) (aa (.str "shut")))) (af aK (nm 0) (aa (.int 0))))) (cI (bQ [(af aK (nm 1) (aa (.int 0))),(af gZ (af aK (nm 1) (aa (.int 5))) (aa (.int 0))),(bl fP [(nm 2)])])))
noncomputable def zt:List T->Option T:=d4 Ly 3
noncomputable def Ke:bz:=
  (seq (gj (df (bl mi [(aA 0),(aA 1),(aA 2)])) (bJ 3) (iff (a0 (af (da false) (af aK (nm 3) (aa (.int 1))) (aa (.tuple (i5 ["alarm","attack"]))))) (cI (nm 3)) skip)) (cI (aa .none)))
noncomputable def t8:List T->Option T:=d4 Ke 4
end bq
end
section
namespace bq
open D bq
noncomputable def ajA:bz:=
  (cI (x3 0 vC (oX pU [(aA 0),(aA 1),(bQ [(aA 2)])]) []))
noncomputable def ajv:List T->Option T:=d4 ajA 3
noncomputable def aiv:bz:=
  (cI (bl fP [(comp 3 [] (df (zr 0 12 (oX pU [(aA 0),(aA 1),(bQ [(aA 2)])]))) (dq [(bJ 0),(bJ 1),(bJ 2)]) (fi true) (bQ [(aA 1),(aA 2)]))]))
noncomputable def air:List T->Option T:=d4 aiv 3
noncomputable def ub:bz:=
  (seq (iff (a0 (af oLt (nm 1) (bl hD [(nm 0)]))) (cI (af aK (nm 0) (nm 1))) skip) (cI (aa (.int 0))))
noncomputable def m2:List T->Option T:=d4 ub 2
noncomputable def um:bz:=
  (seq (asg 2 (af oMod (af ef (af cC (af cC (bl m2 [(aA 0),(aA 1)]) (af ef (aa (.int 7919)) (nm 1))) (aa (.int 1))) (aa (.int 48271))) (aa (.int 2147483647)))) (cI (af oMod (af cC (af cC (af ef (nm 2) (nm 2)) (af ef (aa (.int 7)) (nm 2))) (nm 1)) (aa (.int 2147483629)))))
noncomputable def lH:List T->Option T:=d4 um 3
noncomputable def uo:bz:=
  (seq (asg 2 (af oMod (af ef (af cC (af cC (nm 0) (af ef (aa (.int 104729)) (nm 1))) (aa (.int 17))) (aa (.int 69621))) (aa (.int 2147483647)))) (cI (af oMod (af cC (af cC (af ef (nm 2) (nm 2)) (af ef (aa (.int 3)) (nm 2))) (nm 1)) (aa (.int 2147483629)))))
noncomputable def jF:List T->Option T:=d4 uo 3
noncomputable def ahC:bz:=
  (seq (asg 1 (bQ [])) (seq (gj (j9 (hM (bQ [(aa (.str "a")),(aa (.str "b")),(aa (.str "back")),(aa (.str "d")),(aa (.str "hall")),(aa (.str "r")),(aa (.str "win")),(aa (.str "z"))]))) (dq [(bJ 2),(bJ 3)]) (seq (asg 4 (af oDiv (bl jF [(aA 0),(aA 2)]) (aa (.int 4)))) (iff (eZ (a0 (af oLt (af oMod (nm 4) (aa (.int 8))) (af cC (aa (.int 3)) (af oMod (nm 0) (aa (.int 5)))))) (a0 (af oEq (nm 2) (af oMod (af oDiv (nm 0) (aa (.int 8))) (aa (.int 8)))))) (asg 1 (af cC (nm 1) (bQ [(bQ [(aA 3),(af aK (bQ [(aa (.str "day")),(aa (.str "inner")),(aa (.str "once")),(aa (.str "way")),(aa (.str "way"))]) (af oMod (af oDiv (nm 4) (aa (.int 8))) (aa (.int 5))))])]))) skip))) (seq (asg 5 (bQ [])) (seq (gj (j9 (hM (bQ [(aa (.str "0000")),(aa (.str "1234")),(aa (.str "4321")),(aa (.str "7777")),(aa (.str "9990")),(aa (.str "9999"))]))) (dq [(bJ 2),(bJ 6)]) (seq (asg 4 (af oDiv (bl jF [(aA 0),(af cC (aa (.int 10)) (nm 2))]) (aa (.int 4)))) (iff (eZ (a0 (af gZ (af oMod (nm 4) (aa (.int 3))) (aa (.int 0)))) (a0 (af oEq (nm 2) (aa (.int 1))))) (seq (asg 7 (bl fP [(comp 1 [4] (ml (aa (.int 3))) (bJ 0) (a0 (af gZ (af oMod (af oDiv (nm 1) (af aK (bQ [(aa (.int 4)),(aa (.int 16)),(aa (.int 64))]) (nm 0))) (aa (.int 4))) (aa (.int 0)))) (af aK (bQ [(aa (.str "set")),(aa (.str "shunt")),(aa (.str "unset"))]) (nm 0)))])) (seq (asg 8 (af aK (bQ [(aa (.str "ann")),(aa (.str "bo")),(aa (.str "cy"))]) (af oMod (af oDiv (nm 4) (aa (.int 256))) (aa (.int 3))))) (asg 5 (af cC (nm 5) (bQ [(bQ [(aA 6),(aA 8),(aA 7),(af aK (bQ [(aa (.int 0)),(aa (.int 0)),(aa (.int 1)),(aa (.int 2)),(aa (.int 9))]) (af oMod (af oDiv (nm 4) (aa (.int 1024))) (aa (.int 5))))])]))))) skip))) (seq (asg 4 (af oDiv (bl jF [(aA 0),(aa (.int 20))]) (aa (.int 4)))) (seq (asg 9 (bQ [(af aK (bQ [(aa (.int 0)),(aa (.int 5)),(aa (.int 30)),(aa (.int 60))]) (af oMod (nm 4) (aa (.int 4)))),(af aK (bQ [(aa (.int 0)),(aa (.int 4)),(aa (.int 20)),(aa (.int 60))]) (af oMod (af oDiv (nm 4) (aa (.int 4))) (aa (.int 4)))),(af aK (bQ [(aa (.int 1)),(aa (.int 9)),(aa (.int 120)),(aa (.int 300))]) (af oMod (af oDiv (nm 4) (aa (.int 16))) (aa (.int 4))))])) (cI (bQ [(aA 1),(aA 5),(aA 9)]))))))))
noncomputable def vS:List T->Option T:=d4 ahC 10
noncomputable def QT:bz:=
  (seq (asg 2 (af aK (af aK (af aK (nm 0) (aa (.int 0))) (af oMod (af oDiv (nm 1) (aa (.int 8))) (bl hD [(af aK (nm 0) (aa (.int 0)))]))) (aa (.int 0)))) (seq (asg 3 (af oMod (nm 1) (aa (.int 10)))) (seq (iff (a0 (af oLt (nm 3) (aa (.int 5)))) (cI (bQ [(aa (.str "line")),(aA 2),(af aK (bQ [(aa (.str "shut")),(aa (.str "open")),(aa (.str "open")),(aa (.str "cut"))]) (af oMod (af oDiv (nm 1) (aa (.int 512))) (aa (.int 4))))])) skip) (seq (iff (a0 (af oLt (nm 3) (aa (.int 7)))) (cI (bQ [(aa (.str "ticks")),(af cC (aa (.int 1)) (af oMod (af oDiv (nm 1) (aa (.int 64))) (af aK (bQ [(aa (.int 3)),(aa (.int 40)),(aa (.int 200))]) (af oMod (af oDiv (nm 1) (aa (.int 4096))) (aa (.int 3))))))])) skip) (seq (asg 4 (af aK (af aK (af aK (nm 0) (aa (.int 1))) (af oMod (af oDiv (nm 1) (aa (.int 64))) (bl hD [(af aK (nm 0) (aa (.int 1)))]))) (aa (.int 0)))) (seq (iff (a0 (af oEq (af oMod (af oDiv (nm 1) (aa (.int 65536))) (aa (.int 4))) (aa (.int 0)))) (asg 4 (af aK (bQ [(aa (.str "0001")),(aa (.str "1111")),(aa (.str "9999")),(aa (.str "0000"))]) (af oMod (af oDiv (nm 1) (aa (.int 512))) (aa (.int 4))))) skip) (seq (asg 5 (af aK (bQ [(aa (.str "set")),(aa (.str "set")),(aa (.str "unset")),(aa (.str "shunt")),(aa (.str "free")),(aa (.str "shunt"))]) (af oMod (af oDiv (nm 1) (aa (.int 4096))) (aa (.int 6))))) (seq (iff (a0 (af (da false) (nm 5) (bQ [(aa (.str "set")),(aa (.str "unset"))]))) (cI (bQ [(aa (.str "code")),(aA 4),(aA 5),(aa .none)])) skip) (cI (bQ [(aa (.str "code")),(aA 4),(aA 5),(aA 2)]))))))))))
noncomputable def se:List T->Option T:=d4 QT 6
noncomputable def Ds:bz:=
  (seq (asg 3 (bl fP [(comp 1 [0,1] (ml (af oMod (nm 1) (af cC (nm 2) (aa (.int 1))))) (bJ 0) (fi true) (bl se [(aA 1),(af oDiv (bl jF [(aA 2),(af cC (aa (.int 30)) (nm 0))]) (aa (.int 4)))]))])) (seq (iff (ei (a0 (af oEq (af oMod (af oDiv (nm 1) (aa (.int 64))) (aa (.int 5))) (aa (.int 0)))) (a0 (af gZ (bl hD [(nm 3)]) (aa (.int 2))))) (asg 3 (af cC (slice (nm 3) optN (opt (fo qF (aa (.int 3))))) (af ow (bQ [(bQ [(aa (.str "code")),(aa (.str "5555")),(aa (.str "unset")),(aa .none)])]) (aa (.int 3))))) skip) (cI (nm 3))))
noncomputable def sj:List T->Option T:=d4 Ds 4
end bq
end
section
namespace kd
open D bq
noncomputable def KP:bz:=
  (seq (o8 1 (xY 1 [(false,(aa (.str "off"))),(false,(aa (.int 0))),(false,(aa .none)),(true,(af ow (ew [(aa (.str "shut"))]) (bl hD [(af aK (nm 0) (aa (.int 0)))]))),(true,(ew [])),(false,(aa (.int 0)))])) (seq (g9 1 1 6 (ew [])) (seq (cx 1 1 7 (aa (.int 0))) (seq (cx 1 1 8 (aa (.int 0))) (seq (g9 1 1 9 (af ow (ew [(aa (.int 0))]) (bl hD [(af aK (nm 0) (aa (.int 1)))]))) (seq (cx 1 1 10 (aa (.int 0))) (seq (g9 1 1 11 (ew [])) (tL 1))))))))
noncomputable def uh:List T->Option aO:=pD KP 2
noncomputable def R1:bz:=
  (jQ 1 0 11 (bQ [(eS 1 0 10),(aA 1),(aA 2)]))
noncomputable def eM:List aO->Option (T×List aO):=runM 1 0 R1 3
noncomputable def KQ:bz:=
  (seq (cx 1 1 5 (af aK (af aK (nm 0) (aa (.int 2))) (aa (.int 2)))) (iff (a0 (af (da true) (nm 2) (fld 1 1 6))) (seq (jQ 1 1 6 (aA 2)) (ct (dp 1 eM [] 1 [(aa (.str "alarm")),(aA 2)]))) skip))
noncomputable def mf:List aO->Option (T×List aO):=runM 1 1 KQ 3
noncomputable def Dd:bz:=
  (seq (asg 4 (comp 1 [] (df (af aK (nm 0) (aa (.int 0)))) (bJ 0) (fi true) (af aK (nm 0) (aa (.int 0))))) (seq (asg 5 (af wo (nm 4) (nm 2))) (seq (asg 6 (af aK (fld 1 1 3) (nm 5))) (seq (rg 1 1 3 (aA 5) (aA 3)) (seq (asg 7 (af aK (af aK (af aK (nm 0) (aa (.int 0))) (nm 5)) (aa (.int 1)))) (seq (asg 8 (eS 1 1 0)) (seq (iff (a0 (af oEq (nm 3) (nm 6))) (hn (aa .none)) skip) (seq (iff (a0 (af oEq (nm 3) (aa (.str "shut")))) (iff (a0 (af oEq (nm 6) (aa (.str "cut")))) (ct (dp 1 eM [] 1 [(aa (.str "mended")),(aA 2)])) skip) (iff (a0 (af (da true) (nm 2) (fld 1 1 4))) (seq (asg 9 (jb (af oEq (nm 3) (aa (.str "cut"))) (jb (af oEq (nm 7) (aa (.str "once"))) (iI (af oEq (nm 8) (aa (.str "on"))) (jb (af oEq (nm 7) (aa (.str "inner"))) (af oEq (af aK (af aK (nm 0) (aa (.int 2))) (aa (.int 1))) (aa (.int 0)))))))) (iff (eZ (a0 (af oEq (nm 7) (aa (.str "day")))) (ei (a0 (af eE (nm 8) (aa (.str "off")))) (a0 (nm 9)))) (ct (dp 1 mf [(aA 0)] 1 [(aA 2)])) (iff (ei (a0 (af oEq (nm 8) (aa (.str "off")))) (a0 (af oEq (nm 3) (aa (.str "cut"))))) (ct (dp 1 eM [] 1 [(aa (.str "fault")),(aA 2)])) (iff (a0 (af oEq (nm 8) (aa (.str "on")))) (seq (cx 1 1 0 (aa (.str "coming"))) (seq (cx 1 1 1 (af aK (af aK (nm 0) (aa (.int 2))) (aa (.int 1)))) (seq (cx 1 1 2 (aA 2)) (ct (dp 1 eM [] 1 [(aa (.str "coming")),(aA 2)]))))) skip)))) skip)) (hn (aa .none))))))))))
noncomputable def zf:List aO->Option (T×List aO):=runM 1 1 Dd 10
noncomputable def LS:bz:=
  (seq (cx 1 1 0 (aa (.str "on"))) (seq (ct (dp 1 eM [] 1 [(aa (.str "on")),(aa .none)])) (gj (j9 (hM (af aK (nm 0) (aa (.int 0))))) (dq [(bJ 2),(dq [(bJ 3),(bJ 4)])]) (iff (ei (a0 (af (da false) (nm 4) (bQ [(aa (.str "way")),(aa (.str "inner"))]))) (ei (a0 (af eE (af aK (fld 1 1 3) (nm 2)) (aa (.str "shut")))) (a0 (af (da true) (nm 3) (fld 1 1 4))))) (ct (dp 1 mf [(aA 0)] 1 [(aA 3)])) skip))))
noncomputable def p4:List aO->Option (T×List aO):=runM 1 1 LS 5
noncomputable def LU:bz:=
  (seq (iff (a0 (af oEq (nm 2) (aa (.str "shunt")))) (jQ 1 1 4 (aA 3)) skip) (seq (iff (a0 (af oEq (nm 2) (aa (.str "free")))) (qG 1 1 4 (aA 3)) skip) (seq (iff (a0 (af (da false) (nm 2) (bQ [(aa (.str "shunt")),(aa (.str "free"))]))) (seq (ct (dp 1 eM [] 1 [(aA 2),(aA 3)])) (hn (aa .none))) skip) (seq (cx 1 1 5 (aa (.int 0))) (seq (ct (dp 1 eM [] 1 [(aA 2),(aA 4)])) (seq (iff (a0 (af oEq (nm 2) (aa (.str "unset")))) (seq (cx 1 1 0 (aa (.str "off"))) (seq (cx 1 1 1 (aa (.int 0))) (seq (cx 1 1 2 (aa .none)) (g9 1 1 4 (ew []))))) (seq (g9 1 1 6 (ew [])) (seq (cx 1 1 0 (aa (.str "leaving"))) (seq (cx 1 1 1 (af aK (af aK (nm 0) (aa (.int 2))) (aa (.int 0)))) (iff (a0 (af oEq (fld 1 1 1) (aa (.int 0)))) (ct (dp 1 p4 [(aA 0)] 1 [])) skip))))) (hn (aa .none))))))))
noncomputable def wt:List aO->Option (T×List aO):=runM 1 1 LU 5
noncomputable def De:bz:=
  (seq (asg 5 (comp 2 [2] (j9 (hM (af aK (nm 0) (aa (.int 1))))) (dq [(bJ 0),(bJ 1)]) (a0 (af oEq (af aK (nm 1) (aa (.int 0))) (nm 2))) (aA 0))) (seq (asg 5 (comp 1 [1,0] (df (aA 5)) (bJ 0) (eZ (a0 (af oEq (af aK (af aK (af aK (nm 2) (aa (.int 1))) (nm 0)) (aa (.int 3))) (aa (.int 0)))) (a0 (af oLt (af aK (fld 1 1 9) (nm 0)) (af aK (af aK (af aK (nm 2) (aa (.int 1))) (nm 0)) (aa (.int 3)))))) (aA 0))) (seq (iff (a0 (af gZ (fld 1 1 8) (aa (.int 0)))) (iZ (dp 1 eM [] 1 [(aa (.str "locked")),(aa .none)])) skip) (seq (iff (a0 (af oEq (nm 5) (ew []))) (seq (ct (dp 1 eM [] 1 [(aa (.str "wrong")),(aa .none)])) (seq (cx 1 1 7 (af cC (fld 1 1 7) (aa (.int 1)))) (seq (iff (a0 (af oEq (fld 1 1 7) (aa (.int 3)))) (seq (cx 1 1 7 (aa (.int 0))) (seq (cx 1 1 8 (aa (.int 90))) (seq (cx 1 1 5 (af aK (af aK (nm 0) (aa (.int 2))) (aa (.int 2)))) (ct (dp 1 eM [] 1 [(aa (.str "attack")),(aa .none)]))))) skip) (hn (aa .none))))) skip) (seq (cx 1 1 7 (aa (.int 0))) (seq (hR (dq [(bJ 6),(bJ 7)]) (slice (af aK (af aK (nm 0) (aa (.int 1))) (af aK (nm 5) (aa (.int 0)))) (opt (aa (.int 1))) (opt (aa (.int 3))))) (seq (iff (a0 (af (da true) (v3 "free" "shunt" (nm 3) (aA 3)) (nm 7))) (iZ (dp 1 eM [] 1 [(aa (.str "denied")),(aA 6)])) skip) (seq (asg 8 (af (da false) (nm 4) (fld 1 1 4))) (seq (asg 9 (jb (iI (af oEq (nm 3) (aa (.str "shunt"))) (jb (aA 8) (af (da false) (bQ [(aA 4),(aa (.str "day"))]) (af aK (nm 0) (aa (.int 0)))))) (iI (af oEq (nm 3) (aa (.str "free"))) (tD (aA 8))))) (seq (iff (eZ (ei (a0 (af eE (nm 3) (aa (.str "unset")))) (a0 (af eE (fld 1 1 0) (aa (.str "off"))))) (a0 (nm 9))) (iZ (dp 1 eM [] 1 [(aa (.str "no")),(aA 6)])) skip) (seq (iff (a0 (af oEq (nm 3) (aa (.str "set")))) (wF (m9 (df (af aK (nm 0) (aa (.int 0)))) (df (fld 1 1 3))) (dq [(dq [(bJ 10),(bJ 11)]),(bJ 12)]) (ei (a0 (af (da false) (nm 11) (bQ [(aa (.str "once")),(aa (.str "day"))]))) (ei (a0 (af eE (nm 12) (aa (.str "shut")))) (a0 (af (da true) (nm 10) (fld 1 1 4))))) (iZ (dp 1 eM [] 1 [(aa (.str "open")),(aA 10)]))) skip) (seq (rg 1 1 9 (af aK (nm 5) (aa (.int 0))) (af cC (af aK (fld 1 1 9) (af aK (nm 5) (aa (.int 0)))) (aa (.int 1)))) (seq (ct (dp 1 wt [(aA 0)] 1 [(aA 3),(aA 4),(aA 6)])) (hn (aa .none)))))))))))))))
noncomputable def zg:List aO->Option (T×List aO):=runM 1 1 De 13
noncomputable def Dc:bz:=
  (seq (cx 1 1 10 (af cC (fld 1 1 10) (aa (.int 1)))) (seq (cx 1 1 8 (bl akS [(aa (.int 0)),(af km (fld 1 1 8) (aa (.int 1)))])) (seq (cx 1 1 5 (bl akS [(aa (.int 0)),(af km (fld 1 1 5) (aa (.int 1)))])) (iff (a0 (af (da false) (fld 1 1 0) (bQ [(aa (.str "leaving")),(aa (.str "coming"))]))) (seq (cx 1 1 1 (af km (fld 1 1 1) (aa (.int 1)))) (iff (a0 (af oEq (fld 1 1 1) (aa (.int 0)))) (seq (asg 2 (eS 1 1 2)) (iff (a0 (af oEq (fld 1 1 0) (aa (.str "leaving")))) (ct (dp 1 p4 [(aA 0)] 1 [])) (seq (cx 1 1 0 (aa (.str "on"))) (seq (cx 1 1 2 (aa .none)) (ct (dp 1 mf [(aA 0)] 1 [(aA 2)])))))) skip)) skip))))
noncomputable def ze:List aO->Option (T×List aO):=runM 1 1 Dc 3
noncomputable def pV:bz:=
  (iff (a0 (af oEq (af aK (nm 2) (aa (.int 0))) (aa (.str "line")))) (ct (dp 1 zf [(aA 0)] 1 [(af aK (nm 2) (aa (.int 1))),(af aK (nm 2) (aa (.int 2)))])) (iff (a0 (af oEq (af aK (nm 2) (aa (.int 0))) (aa (.str "code")))) (ct (dp 1 zg [(aA 0)] 1 [(af aK (nm 2) (aa (.int 1))),(af aK (nm 2) (aa (.int 2))),(af aK (nm 2) (aa (.int 3)))])) (gj (ml (af aK (nm 2) (aa (.int 1)))) (bJ 3) (ct (dp 1 ze [(aA 0)] 1 [])))))
noncomputable def sd:List aO->Option (T×List aO):=runM 1 1 pV 4
noncomputable def QS:bz:=
  (seq (asg 1 (bQ [(eS 1 0 0),(eS 1 0 1),(eS 1 0 2),(bl fP [(fld 1 0 3)])])) (seq (asg 2 (bQ [(bl fP [(bl zq [(fld 1 0 4)])]),(eS 1 0 5),(bl fP [(fld 1 0 6)])])) (cI (af cC (af cC (nm 1) (nm 2)) (bQ [(eS 1 0 7),(eS 1 0 8),(bl fP [(fld 1 0 9)])])))))
noncomputable def pZ:List aO->Option T:=jc QS 3
noncomputable def uE:bz:=
  (seq (asg 1 (bl vS [(bl lH [(aA 0),(aa (.int 0))])])) (seq (o8 2 (oX uh [(aA 1)])) (seq (asg 3 (bl lI [(aA 1)])) (seq (gj (df (bl sj [(aA 1),(bl lH [(aA 0),(aa (.int 1))]),(aa (.int 24))])) (bJ 4) (seq (g9 1 2 11 (ew [])) (seq (ct (dp 1 sd [(aA 1)] 2 [(aA 4)])) (seq (iff (a0 (af eE (bl air [(aA 1),(aA 3),(aA 4)]) (bl fP [(comp 1 [] (df (fld 1 2 11)) (bJ 0) (fi true) (slice (nm 0) (opt (aa (.int 1))) optN))]))) (cI (aa (.bool false))) skip) (seq (asg 3 (bl ajv [(aA 1),(aA 3),(aA 4)])) (iff (a0 (af eE (bl rh [(nm 3)]) (bl rh [(wH pZ [.o 2])]))) (cI (aa (.bool false))) skip)))))) (cI (aa (.bool true)))))))
noncomputable def sA:List T->Option T:=d4 uE 5
end kd
end
section
namespace qh
open D bq kd
noncomputable def uE:bz:=
  (seq (asg 1 (bl vS [(bl lH [(aA 0),(aa (.int 0))])])) (seq (o8 2 (oX uh [(aA 1)])) (seq (asg 3 (bl sj [(aA 1),(bl lH [(aA 0),(aa (.int 1))]),(aa (.int 5))])) (seq (gj (df (aA 3)) (bJ 4) (ct (dp 1 sd [(aA 1)] 2 [(aA 4)]))) (seq (asg 5 (bl mj [(aA 1),(bl lI [(aA 1)]),(aA 3)])) (seq (iff (a0 (af eE (nm 5) (wH pZ [.o 2]))) (cI (aa (.bool false))) skip) (seq (g9 1 2 11 (ew [])) (seq (cx 1 2 10 (aa (.int 0))) (seq (asg 6 (bl sj [(aA 1),(bl lH [(aA 0),(aa (.int 2))]),(aa (.int 20))])) (seq (gj (df (aA 6)) (bJ 4) (ct (dp 1 sd [(aA 1)] 2 [(aA 4)]))) (seq (asg 7 (bl fP [(fld 1 2 11)])) (seq (iff (a0 (af eE (bl mi [(aA 1),(aA 5),(aA 6)]) (nm 7))) (cI (aa (.bool false))) skip) (seq (asg 8 (comp 1 [] (df (aA 7)) (bJ 0) (a0 (af (da false) (af aK (nm 0) (aa (.int 1))) (bQ [(aa (.str "alarm")),(aa (.str "attack"))]))) (aA 0))) (seq (iff (a0 (af eE (bl t8 [(aA 1),(aA 5),(aA 6)]) (af aK (af cC (nm 8) (ew [(aa .none)])) (aa (.int 0))))) (cI (aa (.bool false))) skip) (seq (asg 9 (bl mj [(aA 1),(aA 5),(aA 6)])) (seq (asg 10 (bl fP [(comp 2 [] (m9 (df (af aK (nm 1) (aa (.int 0)))) (df (fld 1 2 3))) (dq [(bJ 0),(bJ 1)]) (a0 (af eE (nm 1) (aa (.str "shut")))) (af aK (nm 0) (aa (.int 0))))])) (seq (iff (a0 (af eE (bl rh [(bl zt [(aA 1),(aA 9)])]) (bl rh [(bQ [(eS 1 2 0),(af gZ (fld 1 2 5) (aa (.int 0))),(aA 10)])]))) (cI (aa (.bool false))) skip) (cI (iI (af oEq (nm 9) (wH pZ [.o 2])) (iI (af oEq (bl mj [(aA 1),(aA 5),(bQ [])]) (nm 5)) (af oEq (bl mi [(aA 1),(aA 5),(bQ [])]) (bQ []))))))))))))))))))))))
noncomputable def sA:List T->Option T:=d4 uE 11
end qh
end
section
namespace qh
open PySem PySem.Spec PyProof.Rows bw D bq kd
variable [c5]
noncomputable def top(i:Nat):Stmt:=PySem.Challenge.pw_doorwatch_k11_rows.main.body.getD i (.Pass ⟨0,0,0,0⟩)
section
variable {P:cQ}{w:cB}{K:bo}{mg:Str->Option aq}{base:b5}{bL:ak}{k:Nat}{f:ak}{fd:gq}
def adR{α:Type}{us:List α}(h:us.length=1):∃a,us=[a]:=match us,h with|[a],_=>⟨_,rfl⟩
def adS{α:Type}{us:List α}(h:us.length=2):∃a b,us=[a,b]:=match us,h with|[a,b],_=>⟨_,_,rfl⟩
def adT{α:Type}{us:List α}(h:us.length=3):∃a b c,us=[a,b,c]:=match us,h with|[a,b,c],_=>⟨_,_,_,rfl⟩
def adU{α:Type}{us:List α}(h:us.length=4):∃a b c d,us=[a,b,c,d]:=match us,h with|[a,b,c,d],_=>⟨_,_,_,_,rfl⟩
def adV{α:Type}{us:List α}(h:us.length=5):∃a b c d e,us=[a,b,c,d,e]:=match us,h with|[a,b,c,d,e],_=>⟨_,_,_,_,_,rfl⟩
set_option hygiene false in
local macro_rules | `(unop% bX $F) => `(cY.binds $F λ_ _ _ _ _ _ us ay => by obtain ⟨_, rfl⟩ := adR ay; rfl)
set_option hygiene false in
local macro_rules | `(unop% b9 $F) => `(cY.binds $F λ_ _ _ _ _ _ us ay => by obtain ⟨_, _, rfl⟩ := adS ay; rfl)
set_option hygiene false in
local macro_rules | `(unop% akR $F) => `(cY.binds $F λ_ _ _ _ _ _ us ay => by obtain ⟨_, _, _, rfl⟩ := adT ay; rfl)
set_option hygiene false in
local macro_rules | `(unop% lT $F) => `(cY.binds $F λ_ _ _ _ _ _ us ay => by obtain ⟨_, _, _, _, rfl⟩ := adU ay; rfl)
set_option hygiene false in
local macro_rules | `(unop% zW $F) => `(cY.binds $F λ_ _ _ _ _ _ us ay => by obtain ⟨_, _, _, _, _, rfl⟩ := adV ay; rfl)
local macro_rules | `(unop% d5 0) => `(⟨rfl, rfl, rfl, by decide +kernel, rfl, by decide +kernel, by decide +kernel⟩)
set_option hygiene false in
local macro_rules | `(unop% gX 0) => `(hy K 0 bL ["plan", "mode", "left", "came", "lines", "shunts", "siren", "alarms", "tries", "locked", "used", "past", "told"])
set_option hygiene false in
local macro_rules | `(unop% lm $t) => `(λc0 A outer s H E av => $t)
local macro_rules | `(unop% eR $t) => `(λ_ _ _ _ _ _ => $t)
local macro_rules | `(unop% aW $l) => `(show List.Nodup ($l : List Str) by decide +kernel)
local macro_rules | `(binop% co $s $l) => `(ajy (sc := cp $s) $l rfl rfl rfl (by decide +kernel))
set_option hygiene false in
local macro_rules | `(binop% er $a $b) => `(fG (Sx (by exact av.units)) SA $a $b)
set_option hygiene false in
local macro_rules | `(binop% nq $a $b) => `(rf (Sx (by exact av.units)) SA $a $b)
set_option hygiene false in
local macro_rules | `(binop% l3 $a $b) => `(fG (Sw (by exact av.units)) Sy $a $b)
abbrev CQ:Stmt:=top 24
def P0:dg ["_law_number","_law_k","_law_drawn_here"] ["_law_number","_law_k"] (cp CQ):=unop%d5 0
def uj(F:cY K "_law_drawn" "_law_drawn" CQ f fd)(m:mg "_law_drawn"=some (.ref f)) :Cl P w K mg base "_law_drawn" (k+1) 2 jF:=
 mr F P0 (unop%b9 F) m unop%lm
  (bu (ed 2 P0.aW (hv (au (sy (au (ih (au (ih (a3 0) (au (sy (au aS) (a3 1))))) (au aS))) (au aS))) (au aS))) (bE (fL (hv (au (ih (au (ih (au (sy (a3 2) (a3 2))) (au (sy (au aS) (a3 2))))) (a3 1))) (au aS)))))
abbrev y9:Stmt:=top 25
def lG:dg ["_law_number","_law_zones","_law_k","_law_name","_law_drawn_here","_law_codes","_law_figures","_law_rights","_law_who","_law_times"] ["_law_number"] (cp y9):=unop%d5 0
def La(F:cY K "_law_plan" "_law_plan" y9 f fd)(m:mg "_law_plan"=some (.ref f))(mn:mg "enumerate"=none)(uj:Cl P w K mg base "_law_drawn" k 2 jF)(fw:mg "tuple"=none)(m8:mg "range"=none):Cl P w K mg base "_law_plan" (k+1) 1 vS:=
 mr F lG (unop%bX F) m unop%lm
  (bu (ed 1 lG.aW (dW br)) (bu (oV nI (DA mn (dW (aD aY (aD aY (aD aY (aD aY (aD aY (aD aY (aD aY (aD aY br)))))))))) (p9 (jk (fk 2 lG.aW) (jk (fk 3 lG.aW) p_))) (bu (ed 4 lG.aW (jl (au (g7 uj av (aD (bk 0) (aD (bk 2) br)))) (au aS))) (bE (dh (ku (w_or (fG (wB.or vN) wj (au (hv (a3 4) (au aS))) (au (ih (au aS) (au (hv (a3 0) (au aS)))))) (sv (binop%er (a3 2) (au (hv (au (jl (a3 0) (au aS))) (au aS))))))) (bE (ed 1 lG.aW (ih (a3 1) (au (dW (aD (dW (aD (bk 3) (aD (bU (au (dW (aD aY (aD aY (aD aY (aD aY (aD aY br))))))) (au (hv (au (jl (a3 4) (au aS))) (au aS)))) br))) br)))))) eG)))) (bu (ed 5 lG.aW (dW br)) (bu (oV nI (DA mn (dW (aD aY (aD aY (aD aY (aD aY (aD aY (aD aY br)))))))) (p9 (jk (fk 2 lG.aW) (jk (fk 6 lG.aW) p_))) (bu (ed 4 lG.aW (jl (au (g7 uj av (aD (bk 0) (aD (ih (au aS) (a3 2)) br)))) (au aS))) (bE (dh (ku (w_or (fG (uC.or uf) uy (au (hv (a3 4) (au aS))) (au aS)) (sv (binop%er (a3 2) (au aS))))) (bu (ed 7 lG.aW (mh fw (gD (au (uv (own:=["_law_j"]) (caps:=[(4,"_law_drawn_here")]) (binop%co y9 ["_law_number","_law_zones","_law_k","_law_name","_law_drawn_here","_law_codes","_law_figures","_law_rights","_law_who","_law_times"]) (LO m8 (au aS)) (unop%eR (fk 0 (unop%aW ["_law_j","_law_drawn_here"]))) (unop%eR (so (fG (uC.or uf) uy (au (hv (au (jl (a3 1) (au (bU (au (dW (aD aS (aD aS (aD aS br))))) (a3 0))))) (au aS))) (au aS)))) (unop%eR (bU (au (dW (aD aY (aD aY (aD aY br))))) (a3 0))))) hs))) (bu (ed 8 lG.aW (bU (au (dW (aD aY (aD aY (aD aY br))))) (au (hv (au (jl (a3 4) (au aS))) (au aS))))) (bE (ed 5 lG.aW (ih (a3 5) (au (dW (aD (dW (aD (bk 6) (aD (bk 8) (aD (bk 7) (aD (bU (au (dW (aD aS (aD aS (aD aS (aD aS (aD aS br))))))) (au (hv (au (jl (a3 4) (au aS))) (au aS)))) br))))) br)))))))) eG)))) (bu (ed 4 lG.aW (jl (au (g7 uj av (aD (bk 0) (aD aS br)))) (au aS))) (bu (ed 9 lG.aW (dW (aD (bU (au (dW (aD aS (aD aS (aD aS (aD aS br)))))) (au (hv (a3 4) (au aS)))) (aD (bU (au (dW (aD aS (aD aS (aD aS (aD aS br)))))) (au (hv (au (jl (a3 4) (au aS))) (au aS)))) (aD (bU (au (dW (aD aS (aD aS (aD aS (aD aS br)))))) (au (hv (au (jl (a3 4) (au aS))) (au aS)))) br))))) (bE (fL (dW (aD (bk 1) (aD (bk 5) (aD (bk 9) br))))))))))))
abbrev CR:Stmt:=top 28
def P1:dg ["_law_plan_here","_law_now"] ["_law_plan_here"] (cp CR):=unop%d5 0
def ago(ts:List T)(s:aO)(h:uh ts=some s):∃c os,s=.obj .own c os:=Q8 (b:=KP) h
def KN(F:cY K "_law_begun" "_law_begun" CR f fd)(m:mg "_law_begun"=some (.ref f))(cj:hN 1 ["mode","left","came","lines","shunts","siren","alarms","tries","locked","used","went","story"])(j_:mg "len"=none):nV P w K mg base "_law_begun" (k+1) 1 uh:=
 aiu F P1 (unop%bX F) m unop%lm
  (hq (aiC 1 cj P1.aW (Bs u5 ⟨aY⟩ (Bs u5 ⟨aS⟩ (Bs u5 ⟨hu⟩ (OB u5 ⟨ (So (au (zw (aD aY br))) (au (wz (by exact j_) (gD (au (bU (a3 0) (au aS))) hs)))) ⟩ (OB u5 ⟨ (p7 br) ⟩ (Bs u5 ⟨aS⟩ Ss)))))))
(hq (hJ (vV (j:=6) cj (cL av) (aV 1) aY (p7 br)))
(hq (hJ (hr (j:=7) cj (cL av) (aV 1) aY aS))
(hq (hJ (hr (j:=8) cj (cL av) (aV 1) aY aS))
(hq (hJ (vV (j:=9) cj (cL av) (aV 1) aY (So (au (zw (aD aS br))) (au (wz (by exact j_) (gD (au (bU (a3 0) (au aS))) hs))))))
(hq (hJ (hr (j:=10) cj (cL av) (aV 1) aY aS))
(hq (hJ (vV (j:=11) cj (cL av) (aV 1) aY (p7 br)))
(sx (hJ (Sh (aV 1)))))))))))
abbrev CP:Stmt:=top 26
def vI:dg ["_law_plan_here","_law_number","_law_zone","_law_kind","_law_figures","_law_deed"] ["_law_plan_here","_law_number"] (cp CP):=unop%d5 0
def KL(F:cY K "_law_event" "_law_event" CP f fd)(m:mg "_law_event"=some (.ref f))(j_:mg "len"=none):Cl P w K mg base "_law_event" (k+1) 2 se:=
 mr F vI (unop%b9 F) m unop%lm
  (bu (ed 2 vI.aW (bU (au (bU (au (bU (a3 0) (au aS))) (au (hv (au (jl (a3 1) (au aS))) (au (wz (by exact j_) (gD (au (bU (a3 0) (au aS))) hs))))))) (au aS))) (bu (ed 3 vI.aW (hv (a3 1) (au aS))) (bu (dh (fG (wB.or vN) wj (a3 3) (au aS)) (bE (fL (dW (aD aY (aD (bk 2) (aD (bU (au (dW (aD aY (aD aY (aD aY (aD aY br)))))) (au (hv (au (jl (a3 1) (au aS))) (au aS)))) br)))))) eG) (bu (dh (fG (wB.or vN) wj (a3 3) (au aS)) (bE (fL (dW (aD aY (aD (ih (au aS) (au (hv (au (jl (a3 1) (au aS))) (au (bU (au (dW (aD aS (aD aS (aD aS br))))) (au (hv (au (jl (a3 1) (au aS))) (au aS)))))))) br))))) eG) (bu (ed 4 vI.aW (bU (au (bU (au (bU (a3 0) (au aS))) (au (hv (au (jl (a3 1) (au aS))) (au (wz (by exact j_) (gD (au (bU (a3 0) (au aS))) hs))))))) (au aS))) (bu (dh (binop%er (au (hv (au (jl (a3 1) (au aS))) (au aS))) (au aS)) (bE (ed 4 vI.aW (bU (au (dW (aD aY (aD aY (aD aY (aD aY br)))))) (au (hv (au (jl (a3 1) (au aS))) (au aS)))))) eG) (bu (ed 5 vI.aW (bU (au (dW (aD aY (aD aY (aD aY (aD aY (aD aY (aD aY br)))))))) (au (hv (au (jl (a3 1) (au aS))) (au aS))))) (bu (dh (fG (nP (by exact av.units)) iy (a3 5) (au (dW (aD aY (aD aY br))))) (bE (fL (dW (aD aY (aD (bk 4) (aD (bk 5) (aD hu br))))))) eG) (bE (fL (dW (aD aY (aD (bk 4) (aD (bk 5) (aD (bk 2) br)))))))))))))))
abbrev zj:Stmt:=top 27
def KZ:dg ["_law_plan_here","_law_number","_law_most","_law_row_here"] ["_law_plan_here","_law_number","_law_most"] (cp zj):=unop%d5 0
def Dr(F:cY K "_law_row" "_law_row" zj f fd)(m:mg "_law_row"=some (.ref f))(fw:mg "tuple"=none)(KL:Cl P w K mg base "_law_event" k 2 se)(j_:mg "len"=none)(m8:mg "range"=none)(uj:Cl P w K mg base "_law_drawn" k 2 jF):Cl P w K mg base "_law_row" (k+1) 3 sj:=
 mr F KZ (unop%akR F) m unop%lm
  (bu (ed 3 KZ.aW (mh fw (gD (au (uv (own:=["_law_k"]) (caps:=[(0,"_law_plan_here"),(1,"_law_number")]) (binop%co zj ["_law_plan_here","_law_number","_law_most","_law_row_here"]) (LO m8 (au (hv (a3 1) (au (ih (a3 2) (au aS)))))) (unop%eR (fk 0 (unop%aW ["_law_k","_law_plan_here","_law_number"]))) (unop%eR wb) (unop%eR (g7 (by exact KL) (by exact av) (aD (bk 1) (aD (jl (au (g7 (by exact uj) (by exact av) (aD (bk 2) (aD (ih (au aS) (a3 0)) br)))) (au aS)) br)))))) hs))) (bu (dh (ku (w_and (binop%er (au (hv (au (jl (a3 1) (au aS))) (au aS))) (au aS)) (q8 (fG (uC.or uf) uy (au (wz (by exact j_) (gD (a3 3) hs))) (au aS))))) (bE (ed 3 KZ.aW (ih (au (RB (a3 3) ajf (LM (au (aj2 (au aS)))))) (au (ajZ (au (dW (aD (dW (aD aY (aD aY (aD aY (aD hu br))))) br))) (au aS)))))) eG) (bE (LC 3))))
abbrev Cb:Stmt:=inClass (top 13) 1
def yI:dg ["self","lines","shunts","alarms","used"] ["self"] (cp Cb):=unop%d5 0
def J7(F:cY K "state" "Course.state" Cb f fd)(m:Meth K bL "state" f)(a_:unop%gX 0)(fw:mg "tuple"=none):ke P w K mg base bL "state" (k+1) 1 vC:=
 zz F yI (unop%bX F) m unop%lm
  (bu (ed 1 yI.aW (RD (j:=4) a_ rfl fw (aV 0))) (bu (ed 2 yI.aW (mh fw (gD (ig (j:=5) a_ (aV 0)) hs))) (bu (ed 3 yI.aW (mh fw (gD (ig (j:=7) a_ (aV 0)) hs))) (bu (ed 4 yI.aW (RD (j:=10) a_ rfl fw (aV 0))) (bE (fL (dW (aD (lK (j:=1) a_ (aV 0)) (aD (lK (j:=2) a_ (aV 0)) (aD (lK (j:=3) a_ (aV 0)) (aD (bk 1) (aD (bk 2) (aD (lK (j:=6) a_ (aV 0)) (aD (bk 3) (aD (lK (j:=8) a_ (aV 0)) (aD (lK (j:=9) a_ (aV 0)) (aD (bk 4) br)))))))))))))))))
abbrev vz:Stmt:=inClass (top 13) 0
def aej:dg ["self","plan","state"] ["self","plan","state"] (cp vz):=unop%d5 0
def aep(F:cY K "__init__" "Course.__init__" vz f fd)(lh:wN K bL f)(m:mg "Course"=some (.ref bL))(a_:unop%gX 0)(sk:mg "dict"=none)(sl:mg "list"=none)(kD:mg "zip"=none):sE P w K mg base "Course" bL 0 (k+1) 3 yB:=
 aji F aej (unop%akR F) lh m unop%lm
  (bu (gE (j:=0) a_ (aV 0) (bk 1)) (bu (gE (j:=1) a_ (aV 0) (bU (a3 2) (au aS))) (bu (gE (j:=2) a_ (aV 0) (bU (a3 2) (au aS))) (bu (gE (j:=3) a_ (aV 0) (bU (a3 2) (au aS))) (bu (Rx (j:=4) a_ rfl sk kD (aV 0) (au (uv (own:=["zone"]) (caps:=[]) (binop%co vz ["self","plan","state"]) (k2 (bU (a3 1) (au aS))) (unop%eR (fk 0 (unop%aW ["zone"]))) (unop%eR wb) (unop%eR (bU (a3 0) (au aS))))) (au (bU (a3 2) (au aS)))) (bu (vW (j:=5) a_ (aV 0) (RC sl (au (bU (a3 2) (au aS))))) (bu (gE (j:=6) a_ (aV 0) (bU (a3 2) (au aS))) (bu (vW (j:=7) a_ (aV 0) (RC sl (au (bU (a3 2) (au aS))))) (bu (gE (j:=8) a_ (aV 0) (bU (a3 2) (au aS))) (bu (gE (j:=9) a_ (aV 0) (bU (a3 2) (au aS))) (bu (Rx (j:=10) a_ rfl sk kD (aV 0) (au (uv (own:=["code"]) (caps:=[]) (binop%co vz ["self","plan","state"]) (k2 (bU (a3 1) (au aS))) (unop%eR (fk 0 (unop%aW ["code"]))) (unop%eR wb) (unop%eR (bU (a3 0) (au aS))))) (au (bU (a3 2) (au aS)))) (bu (gE (j:=11) a_ (aV 0) aS) (bE (vW (j:=12) a_ (aV 0) (p7 br)))))))))))))))
abbrev Cd:Stmt:=inClass (top 13) 3
def aey:dg ["self","word","name"] ["self","word","name"] (cp Cd):=unop%d5 0
def hL(F:cY K "tell" "Course.tell" Cd f fd)(m:Meth K bL "tell" f)(a_:unop%gX 0):dF P w K mg base bL 0 "tell" (k+1) 3 gC:=
 j8 F aey (unop%akR F) m unop%lm
  (bE (Sj (j:=12) a_ (aV 0) (dW (aD (lK (j:=11) a_ (aV 0)) (aD (bk 1) (aD (bk 2) br))))))
abbrev CT:Stmt:=top 4
def P2:dg ["plan","name","zone"] ["plan","name"] (cp CT):=unop%d5 0
def y7(F:cY K "kind_of" "kind_of" CT f fd)(m:mg "kind_of"=some (.ref f)) :Cl P w K mg base "kind_of" (k+1) 2 ui:=
 mr F P2 (unop%b9 F) m unop%lm
  (bu (oV nI (k2 (bU (a3 0) (au aS))) (fk 2 P2.aW) (bE (dh (binop%er (au (bU (a3 2) (au aS))) (a3 1)) (bE (fL (bU (a3 2) (au aS)))) eG))) (bE ahN))
abbrev B7:Stmt:=inClass (top 13) 4
def aem:dg ["self"] ["self"] (cp B7):=unop%d5 0
def yF(F:cY K "be_loud" "Course.be_loud" B7 f fd)(m:Meth K bL "be_loud" f)(a_:unop%gX 0):dF P w K mg base bL 0 "be_loud" (k+1) 1 ak4:=
 j8 F aem (unop%bX F) m unop%lm
  (bE (gE (j:=6) a_ (aV 0) (bU (au (bU (ig (j:=0) a_ (aV 0)) (au aS))) (au aS))))
abbrev Cc:Stmt:=inClass (top 13) 5
def aes:dg ["self","zone"] ["self","zone"] (cp Cc):=unop%d5 0
def pS(F:cY K "alarm" "Course.alarm" Cc f fd)(m:Meth K bL "alarm" f)(a_:unop%gX 0)(yF:dF P w K mg base bL 0 "be_loud" k 1 ak4)(hL:dF P w K mg base bL 0 "tell" k 3 gC):dF P w K mg base bL 0 "alarm" (k+1) 2 md:=
 j8 F aes (unop%b9 F) m unop%lm
  (bu (dE (uq a_ yF av (aV 0))) (bE (dh (fG (pY (by exact av.units)) iy (a3 1) (ig (j:=7) a_ (aV 0))) (bu (Sj (j:=7) a_ (aV 0) (bk 1)) (bE (dE (gd a_ hL av (aV 0) (aD aY (aD (bk 1) br)))))) eG)))
abbrev B6:Stmt:=inClass (top 13) 9
def ael:dg ["self","zone","kind"] ["self","zone","kind"] (cp B6):=unop%d5 0
def J2(F:cY K "come_in" "Course.come_in" B6 f fd)(m:Meth K bL "come_in" f)(a_:unop%gX 0)(hL:dF P w K mg base bL 0 "tell" k 3 gC)(pS:dF P w K mg base bL 0 "alarm" k 2 md):dF P w K mg base bL 0 "come_in" (k+1) 3 t5:=
 j8 F ael (unop%akR F) m unop%lm
  (bu (dh (ku (w_or (binop%l3 (a3 2) (au aY)) (sv (fG (LZ.or Kx) LJ (au (bU (au (bU (ig (j:=0) a_ (aV 0)) (au aS))) (au aS))) (au aS))))) (bu (dE (gd a_ pS av (aV 0) (aD (bk 1) br))) (bE Lj)) eG) (bu (gE (j:=1) a_ (aV 0) aY) (bu (gE (j:=2) a_ (aV 0) (bU (au (bU (ig (j:=0) a_ (aV 0)) (au aS))) (au aS))) (bu (gE (j:=3) a_ (aV 0) (bk 1)) (bE (dE (gd a_ hL av (aV 0) (aD aY (aD (bk 1) br)))))))))
abbrev B5:Stmt:=inClass (top 13) 8
def Pk:dg ["self","zone","what","kind"] ["self","zone","what"] (cp B5):=unop%d5 0
def J1(F:cY K "disturb" "Course.disturb" B5 f fd)(m:Meth K bL "disturb" f)(a_:unop%gX 0)(y7:Cl P w K mg base "kind_of" k 2 ui)(pS:dF P w K mg base bL 0 "alarm" k 2 md)(hL:dF P w K mg base bL 0 "tell" k 3 gC)(J2:dF P w K mg base bL 0 "come_in" k 3 t5):dF P w K mg base bL 0 "disturb" (k+1) 3 yE:=
 j8 F Pk (unop%akR F) m unop%lm
  (bu (ed 3 Pk.aW (g7 y7 av (aD (lK (j:=0) a_ (aV 0)) (aD (bk 1) br)))) (bE (dh (binop%er (a3 3) (au aY)) (bE (dE (gd a_ pS av (aV 0) (aD (bk 1) br)))) (bE (dh (binop%er (ig (j:=1) a_ (aV 0)) (au aY)) (bE (dh (binop%er (a3 2) (au aY)) (bE (dE (gd a_ hL av (aV 0) (aD aY (aD (bk 1) br))))) eG)) (bE (dh (ku (w_or (binop%er (a3 2) (au aY)) (sv (binop%er (a3 3) (au aY))))) (bE (dE (gd a_ pS av (aV 0) (aD (bk 1) br)))) (bE (dh (binop%er (ig (j:=1) a_ (aV 0)) (au aY)) (bE (dE (gd a_ J2 av (aV 0) (aD (bk 1) (aD (bk 3) br))))) eG)))))))))
abbrev Ce:Stmt:=inClass (top 13) 7
def Pt:dg ["self","zone","what","before"] ["self","zone","what"] (cp Ce):=unop%d5 0
def J'(F:cY K "line" "Course.line" Ce f fd)(m:Meth K bL "line" f)(a_:unop%gX 0)(hL:dF P w K mg base bL 0 "tell" k 3 gC)(J1:dF P w K mg base bL 0 "disturb" k 3 yE):dF P w K mg base bL 0 "line" (k+1) 3 yL:=
 j8 F Pt (unop%akR F) m unop%lm
  (bu (ed 3 Pt.aW (LH (j:=4) a_ (cL av) (aV 0) (a3 1))) (bu (dh (binop%er (a3 2) (a3 3)) (bE Lj) eG) (bu (aiK (j:=4) a_ (cL av) (aV 0) (a3 1) (bk 2)) (bE (dh (binop%er (a3 2) (au aY)) (bE (dh (binop%er (a3 3) (au aY)) (bE (dE (gd a_ hL av (aV 0) (aD aY (aD (bk 1) br))))) eG)) (bE (dh (fG (pY (by exact av.units)) iy (a3 1) (ig (j:=5) a_ (aV 0))) (bE (dE (gd a_ J1 av (aV 0) (aD (bk 1) (aD (bk 2) br))))) eG)))))))
abbrev CU:Stmt:=top 11
def P4:dg ["plan","figures","code"] ["plan","figures"] (cp CU):=unop%d5 0
def KO(F:cY K "code_of" "code_of" CU f fd)(m:mg "code_of"=some (.ref f)) :Cl P w K mg base "code_of" (k+1) 2 y5:=
 mr F P4 (unop%b9 F) m unop%lm
  (bu (oV nI (k2 (bU (a3 0) (au aS))) (fk 2 P4.aW) (bE (dh (binop%er (au (bU (a3 2) (au aS))) (a3 1)) (bE (LC 2)) eG))) (bE (fL hu)))
abbrev BZ:Stmt:=inClass (top 13) 16
def aeb:dg ["self","code"] ["self","code"] (cp BZ):=unop%d5 0
def JS(F:cY K "is_used_up" "Course.is_used_up" BZ f fd)(m:Meth K bL "is_used_up" f)(a_:unop%gX 0):ke P w K mg base bL "is_used_up" (k+1) 2 vy:=
 zz F aeb (unop%b9 F) m unop%lm
  (bE (fL (uA (rf (Sw (by exact av.units)) Sy (au (bU (a3 1) (au aS))) (au aS)) (wh (rf (S4.or Qv) Sz (au (LH (j:=10) a_ (cL av) (aV 0) (au (bU (a3 1) (au aS))))) (au (bU (a3 1) (au aS))))))))
abbrev BX:Stmt:=inClass (top 13) 17
def aea:dg ["self"] ["self"] (cp BX):=unop%d5 0
def JQ(F:cY K "take_wrong" "Course.take_wrong" BX f fd)(m:Meth K bL "take_wrong" f)(a_:unop%gX 0)(hL:dF P w K mg base bL 0 "tell" k 3 gC)(yF:dF P w K mg base bL 0 "be_loud" k 1 ak4){Jr:Tok}(s8:mg "WRONG_IN_A_ROW"=some (.int 3 Jr)){Jq:Tok}(s7:mg "TICKS_LOCKED"=some (.int 90 Jq)):dF P w K mg base bL 0 "take_wrong" (k+1) 1 vw:=
 j8 F aea (unop%bX F) m unop%lm
  (bu (dE (gd a_ hL av (aV 0) (aD aY (aD hu br)))) (bu (Si (j:=8) a_ (aV 0) aS) (bE (dh (fG (S4.or Qv) Sz (ig (j:=8) a_ (aV 0)) (au (OE s8))) (bu (gE (j:=8) a_ (aV 0) aS) (bu (gE (j:=9) a_ (aV 0) (OE s7)) (bu (dE (uq a_ yF av (aV 0))) (bE (dE (gd a_ hL av (aV 0) (aD aY (aD hu br)))))))) eG))))
abbrev BV:Stmt:=inClass (top 13) 20
def ad':dg ["self","deed","zone"] ["self","deed","zone"] (cp BV):=unop%d5 0
def JP(F:cY K "is_untimely" "Course.is_untimely" BV f fd)(m:Meth K bL "is_untimely" f)(a_:unop%gX 0)(y7:Cl P w K mg base "kind_of" k 2 ui):ke P w K mg base bL "is_untimely" (k+1) 3 pR:=
 zz F ad' (unop%akR F) m unop%lm
  (bu (dh (binop%er (a3 1) (au aY)) (bE (fL u_)) eG) (bu (dh (binop%l3 (ig (j:=1) a_ (aV 0)) (au aY)) (bE (fL u_)) eG) (bu (dh (binop%er (a3 1) (au aY)) (bE (fL (u' (binop%nq (au (g7 y7 av (aD (lK (j:=0) a_ (aV 0)) (aD (bk 2) br)))) (au aY)) (zE (rf (nP (by exact av.units)) iy (a3 2) (ig (j:=5) a_ (aV 0))))))) eG) (bE (fL (uA (binop%nq (a3 1) (au aY)) (wh (rf (pY (by exact av.units)) iy (a3 2) (ig (j:=5) a_ (aV 0))))))))))
abbrev vv:Stmt:=inClass (top 13) 6
def Pe:dg ["self","kinds","zones"] ["self","kinds"] (cp vv):=unop%d5 0
def yz(F:cY K "bare_zones" "Course.bare_zones" vv f fd)(m:Meth K bL "bare_zones" f)(a_:unop%gX 0):ke P w K mg base bL "bare_zones" (k+1) 2 t4:=
 zz F Pe (unop%b9 F) m unop%lm
  (bu (we 2 Pe.aW (own:=["zone"]) (caps:=[(1,"kinds")]) (binop%co vv ["self","kinds","zones"]) (k2 (bU (ig (j:=0) a_ (aV 0)) (au aS))) (unop%eR (fk 0 (unop%aW ["zone","kinds"]))) (unop%eR (so (fG (nP (by exact av.units)) iy (au (bU (a3 0) (au aS))) (a3 1)))) (unop%eR (bU (a3 0) (au aS)))) (bE (fL (uv (own:=["zone"]) (caps:=[(0,"self")]) (binop%co vv ["self","kinds","zones"]) (k2 (bk 2)) (unop%eR (fk 0 (unop%aW ["zone","self"]))) (unop%eR (so (ku (w_and (binop%l3 (au (LH (j:=4) (by exact a_) (by exact cL av) (aV 1) (a3 0))) (au aY)) (q8 (fG (pY (by exact av.units)) iy (a3 0) (ig (j:=5) (by exact a_) (aV 1)))))))) (unop%eR (bk 0))))))
abbrev BU:Stmt:=inClass (top 13) 19
def JN:dg ["self","code","deed","zone","right","bare"] ["self","code","deed","zone"] (cp BU):=unop%d5 0
def JO(F:cY K "what_is_against" "Course.what_is_against" BU f fd)(m:Meth K bL "what_is_against" f)(a_:unop%gX 0)(JP:ke P w K mg base bL "is_untimely" k 3 pR)(yz:ke P w K mg base bL "bare_zones" k 2 t4){uO:ak}(Z7:mg "KINDS_SHUT_TO_SET"=some (.ref uO))(adF:∃(o:Obj) (its:Array aq) (n:Nat),K.lookup uO=some o/\o.cls=.type "tuple"/\o.data=.seq its n/\its.size<=cF/\Vals ((["day","once"]:List Str).map V.str) its.toList):ke P w K mg base bL "what_is_against" (k+1) 4 yv:=
 zz F JN (unop%lT F) m unop%lm
  (bu (ed 4 JN.aW (aj3 (binop%er (a3 2) (au aY)) aY (bk 2))) (bu (dh (fG (pY (by exact av.units)) iy (a3 4) (au (bU (a3 1) (au aS)))) (bE (fL (dW (aD aY (aD (bU (a3 1) (au aS)) br))))) eG) (bu (dh (Du (au (zk a_ JP av (aV 0) (aD (bk 2) (aD (bk 3) br))))) (bE (fL (dW (aD aY (aD (bU (a3 1) (au aS)) br))))) eG) (bu (ed 5 JN.aW (zk a_ yz av (aV 0) (aD (I4 Z7 adF) br))) (bu (dh (ku (w_and (binop%er (a3 2) (au aY)) (q8 (aiF (a3 5))))) (bE (fL (dW (aD aY (aD (bU (a3 5) (au aS)) br))))) eG) (bE (fL hu)))))))
abbrev BW:Stmt:=inClass (top 13) 13
def Pb:dg ["self","zone"] ["self"] (cp BW):=unop%d5 0
def yw(F:cY K "end_leaving" "Course.end_leaving" BW f fd)(m:Meth K bL "end_leaving" f)(a_:unop%gX 0)(hL:dF P w K mg base bL 0 "tell" k 3 gC)(yz:ke P w K mg base bL "bare_zones" k 2 t4)(pS:dF P w K mg base bL 0 "alarm" k 2 md){uN:ak}(Z6:mg "KINDS_LEFT_BY"=some (.ref uN))(adC:∃(o:Obj) (its:Array aq) (n:Nat),K.lookup uN=some o/\o.cls=.type "tuple"/\o.data=.seq its n/\its.size<=cF/\Vals ((["inner","way"]:List Str).map V.str) its.toList):dF P w K mg base bL 0 "end_leaving" (k+1) 1 tY:=
 j8 F Pb (unop%bX F) m unop%lm
  (bu (gE (j:=1) a_ (aV 0) aY) (bu (gE (j:=2) a_ (aV 0) aS) (bu (dE (gd a_ hL av (aV 0) (aD aY (aD hu br)))) (bE (oV nI (k2 (zk a_ yz av (aV 0) (aD (I4 Z6 adC) br))) (fk 1 Pb.aW) (bE (dE (gd a_ pS av (aV 0) (aD (bk 1) br)))))))))
abbrev B_:Stmt:=inClass (top 13) 22
def aer:dg ["self","who"] ["self","who"] (cp B_):=unop%d5 0
def J4(F:cY K "do_set" "Course.do_set" B_ f fd)(m:Meth K bL "do_set" f)(a_:unop%gX 0)(hL:dF P w K mg base bL 0 "tell" k 3 gC)(yw:dF P w K mg base bL 0 "end_leaving" k 1 tY):dF P w K mg base bL 0 "do_set" (k+1) 2 vB:=
 j8 F aer (unop%b9 F) m unop%lm
  (bu (vW (j:=7) a_ (aV 0) (p7 br)) (bu (gE (j:=6) a_ (aV 0) aS) (bu (gE (j:=1) a_ (aV 0) aY) (bu (gE (j:=2) a_ (aV 0) (bU (au (bU (ig (j:=0) a_ (aV 0)) (au aS))) (au aS))) (bu (dE (gd a_ hL av (aV 0) (aD aY (aD (bk 1) br)))) (bE (dh (fG (LZ.or Kx) LJ (ig (j:=2) a_ (aV 0)) (au aS)) (bE (dE (uq a_ yw av (aV 0)))) eG)))))))
abbrev B3:Stmt:=inClass (top 13) 23
def aei:dg ["self","who"] ["self","who"] (cp B3):=unop%d5 0
def JY(F:cY K "do_unset" "Course.do_unset" B3 f fd)(m:Meth K bL "do_unset" f)(a_:unop%gX 0)(hL:dF P w K mg base bL 0 "tell" k 3 gC):dF P w K mg base bL 0 "do_unset" (k+1) 2 yA:=
 j8 F aei (unop%b9 F) m unop%lm
  (bu (gE (j:=1) a_ (aV 0) aY) (bu (gE (j:=2) a_ (aV 0) aS) (bu (gE (j:=6) a_ (aV 0) aS) (bu (gE (j:=3) a_ (aV 0) hu) (bu (vW (j:=5) a_ (aV 0) (p7 br)) (bE (dE (gd a_ hL av (aV 0) (aD aY (aD (bk 1) br))))))))))
abbrev B4:Stmt:=inClass (top 13) 21
def aek:dg ["self","who","deed","zone"] ["self","who","deed","zone"] (cp B4):=unop%d5 0
def J0(F:cY K "do_deed" "Course.do_deed" B4 f fd)(m:Meth K bL "do_deed" f)(a_:unop%gX 0)(J4:dF P w K mg base bL 0 "do_set" k 2 vB)(JY:dF P w K mg base bL 0 "do_unset" k 2 yA)(p5:mg "sorted"=none)(hL:dF P w K mg base bL 0 "tell" k 3 gC):dF P w K mg base bL 0 "do_deed" (k+1) 4 r4:=
 j8 F aek (unop%lT F) m unop%lm
  (bE (dh (binop%er (a3 2) (au aY)) (bE (dE (gd a_ J4 av (aV 0) (aD (bk 1) br)))) (bE (dh (binop%er (a3 2) (au aY)) (bE (dE (gd a_ JY av (aV 0) (aD (bk 1) br)))) (bE (dh (binop%er (a3 2) (au aY)) (bu (vW (j:=5) a_ (aV 0) (agf rfl p5 (au (ih (ig (j:=5) a_ (aV 0)) (au (zw (aD (bk 3) br))))))) (bE (dE (gd a_ hL av (aV 0) (aD aY (aD (bk 3) br)))))) (bu (ajS (j:=5) a_ (aV 0) (bk 3)) (bE (dE (gd a_ hL av (aV 0) (aD aY (aD (bk 3) br))))))))))))
abbrev BY:Stmt:=inClass (top 13) 18
def Pc:dg ["self","code","deed","zone","against"] ["self","code","deed","zone"] (cp BY):=unop%d5 0
def JR(F:cY K "take_right" "Course.take_right" BY f fd)(m:Meth K bL "take_right" f)(a_:unop%gX 0)(JO:ke P w K mg base bL "what_is_against" k 4 yv)(J0:dF P w K mg base bL 0 "do_deed" k 4 r4)(hL:dF P w K mg base bL 0 "tell" k 3 gC):dF P w K mg base bL 0 "take_right" (k+1) 4 vx:=
 j8 F Pc (unop%lT F) m unop%lm
  (bu (ed 4 Pc.aW (zk a_ JO av (aV 0) (aD (bk 1) (aD (bk 2) (aD (bk 3) br))))) (bE (dh (S0 (a3 4)) (bu (ahP (j:=10) a_ (cL av) (aV 0) (au (bU (a3 1) (au aS))) aS) (bE (dE (gd a_ J0 av (aV 0) (aD (bU (a3 1) (au aS)) (aD (bk 2) (aD (bk 3) br))))))) (bE (dE (gd a_ hL av (aV 0) (aD (bU (a3 4) (au aS)) (aD (bU (a3 4) (au aS)) br))))))))
abbrev Cf:Stmt:=inClass (top 13) 15
def Pu:dg ["self","figures","deed","zone","code"] ["self","figures","deed","zone"] (cp Cf):=unop%d5 0
def Ka(F:cY K "code" "Course.code" Cf f fd)(m:Meth K bL "code" f)(a_:unop%gX 0)(KO:Cl P w K mg base "code_of" k 2 y5)(hL:dF P w K mg base bL 0 "tell" k 3 gC)(JS:ke P w K mg base bL "is_used_up" k 2 vy)(JQ:dF P w K mg base bL 0 "take_wrong" k 1 vw)(JR:dF P w K mg base bL 0 "take_right" k 4 vx):dF P w K mg base bL 0 "code" (k+1) 4 r7:=
 j8 F Pu (unop%lT F) m unop%lm
  (bu (ed 4 Pu.aW (g7 KO av (aD (lK (j:=0) a_ (aV 0)) (aD (bk 1) br)))) (bE (dh (fG (uC.or uf) uy (ig (j:=9) a_ (aV 0)) (au aS)) (bE (dE (gd a_ hL av (aV 0) (aD aY (aD hu br))))) (bE (dh (ku (w_or (S0 (a3 4)) (sv (Du (au (zk a_ JS av (aV 0) (aD (bk 4) br))))))) (bE (dE (uq a_ JQ av (aV 0)))) (bu (gE (j:=8) a_ (aV 0) aS) (bE (dE (gd a_ JR av (aV 0) (aD (bk 4) (aD (bk 2) (aD (bk 3) br))))))))))))
abbrev CB:Stmt:=top 12
def afc:dg ["ticks","many"] ["ticks","many"] (cp CB):=unop%d5 0
def y0(F:cY K "lessened" "lessened" CB f fd)(m:mg "lessened"=some (.ref f))(oU:mg "max"=none):Cl P w K mg base "lessened" (k+1) 2 ud:=
 mr F afc (unop%b9 F) m unop%lm
  (bE (fL (LY oU (gD (au (zD (a3 0) (a3 1))) (gD (au aS) hs)))))
abbrev B1:Stmt:=inClass (top 13) 11
def aec:dg ["self","many"] ["self","many"] (cp B1):=unop%d5 0
def ala(F:cY K "count_down" "Course.count_down" B1 f fd)(m:Meth K bL "count_down" f)(a_:unop%gX 0)(y0:Cl P w K mg base "lessened" k 2 ud):dF P w K mg base bL 0 "count_down" (k+1) 2 t2:=
 j8 F aec (unop%b9 F) m unop%lm
  (bu (Si (j:=11) a_ (aV 0) (bk 1)) (bu (gE (j:=9) a_ (aV 0) (g7 y0 av (aD (lK (j:=9) a_ (aV 0)) (aD (bk 1) br)))) (bu (gE (j:=6) a_ (aV 0) (g7 y0 av (aD (lK (j:=6) a_ (aV 0)) (aD (bk 1) br)))) (bE (gE (j:=2) a_ (aV 0) (g7 y0 av (aD (lK (j:=2) a_ (aV 0)) (aD (bk 1) br))))))))
abbrev B0:Stmt:=inClass (top 13) 14
def Pd:dg ["self","zone"] ["self"] (cp B0):=unop%d5 0
def JT(F:cY K "end_coming" "Course.end_coming" B0 f fd)(m:Meth K bL "end_coming" f)(a_:unop%gX 0)(pS:dF P w K mg base bL 0 "alarm" k 2 md):dF P w K mg base bL 0 "end_coming" (k+1) 1 yx:=
 j8 F Pd (unop%bX F) m unop%lm
  (bu (ed 1 Pd.aW (lK (j:=3) a_ (aV 0))) (bu (gE (j:=1) a_ (aV 0) aY) (bu (gE (j:=3) a_ (aV 0) hu) (bE (dE (gd a_ pS av (aV 0) (aD (bk 1) br)))))))
abbrev B2:Stmt:=inClass (top 13) 12
def aeh:dg ["self"] ["self"] (cp B2):=unop%d5 0
def JX(F:cY K "end_time" "Course.end_time" B2 f fd)(m:Meth K bL "end_time" f)(a_:unop%gX 0)(yw:dF P w K mg base bL 0 "end_leaving" k 1 tY)(JT:dF P w K mg base bL 0 "end_coming" k 1 yx):dF P w K mg base bL 0 "end_time" (k+1) 1 vA:=
 j8 F aeh (unop%bX F) m unop%lm
  (bE (dh (binop%er (ig (j:=1) a_ (aV 0)) (au aY)) (bE (dE (uq a_ yw av (aV 0)))) (bE (dE (uq a_ JT av (aV 0))))))
abbrev Ca:Stmt:=inClass (top 13) 10
def Pq:dg ["self","many","rest"] ["self","many"] (cp Ca):=unop%d5 0
def J6(F:cY K "ticks" "Course.ticks" Ca f fd)(m:Meth K bL "ticks" f)(a_:unop%gX 0)(ala:dF P w K mg base bL 0 "count_down" k 2 t2)(JX:dF P w K mg base bL 0 "end_time" k 1 vA):dF P w K mg base bL 0 "ticks" (k+1) 2 r6:=
 j8 F Pq (unop%b9 F) m unop%lm
  (bu (dh (fG (wB.or vN) wj (a3 1) (au aS)) (bE Lj) eG) (bE (dh (ku (w_and (fG (nP (by exact av.units)) iy (ig (j:=1) a_ (aV 0)) (au (dW (aD aY (aD aY br))))) (q8 (fG (LZ.or Kx) LJ (ig (j:=2) a_ (aV 0)) (a3 1))))) (bu (ed 2 Pq.aW (zD (a3 1) (ig (j:=2) a_ (aV 0)))) (bu (dE (gd a_ ala av (aV 0) (aD (lK (j:=2) a_ (aV 0)) br))) (bu (dE (uq a_ JX av (aV 0))) (bE (dE (gd a_ ala av (aV 0) (aD (bk 2) br))))))) (bE (dE (gd a_ ala av (aV 0) (aD (bk 1) br)))))))
abbrev B9:Stmt:=inClass (top 13) 2
def aeq:dg ["self","event"] ["self","event"] (cp B9):=unop%d5 0
def J3(F:cY K "happen" "Course.happen" B9 f fd)(m:Meth K bL "happen" f)(a_:unop%gX 0)(J':dF P w K mg base bL 0 "line" k 3 yL)(Ka:dF P w K mg base bL 0 "code" k 4 r7)(J6:dF P w K mg base bL 0 "ticks" k 2 r6):dF P w K mg base bL 0 "happen" (k+1) 2 r5:=
 j8 F aeq (unop%b9 F) m unop%lm
  (bE (dh (binop%er (au (bU (a3 1) (au aS))) (au aY)) (bE (dE (gd a_ J' av (aV 0) (aD (bU (a3 1) (au aS)) (aD (bU (a3 1) (au aS)) br))))) (bE (dh (binop%er (au (bU (a3 1) (au aS))) (au aY)) (bE (dE (gd a_ Ka av (aV 0) (aD (bU (a3 1) (au aS)) (aD (bU (a3 1) (au aS)) (aD (bU (a3 1) (au aS)) br)))))) (bE (dE (gd a_ J6 av (aV 0) (aD (bU (a3 1) (au aS)) br))))))))
abbrev Ct:Stmt:=top 14
def Kc:dg ["plan","state","row","course","event"] ["plan","state","row"] (cp Ct):=unop%d5 0
def PN(ts:List T)(s:aO)(h:pU ts=some s):∃c os,s=.obj .own c os:=Q8 (b:=Kj) h
def yY(F:cY K "course_of" "course_of" Ct f fd)(m:mg "course_of"=some (.ref f))(a_:unop%gX 0)(VU:sE P w K mg base "Course" bL 0 k 3 yB)(J3:dF P w K mg base bL 0 "happen" k 2 r5):nV P w K mg base "course_of" (k+2) 3 pU:=
 SR F Kc (unop%akR F) m unop%lm
  (bu (LD 3 Kc.aW (aj_ a_ VU av (aD (bk 0) (aD (bk 1) br)))) (bu (oV nI (k2 (bk 2)) (fk 4 Kc.aW) (bE (dE (gd a_ J3 (av.mono (pN _)) (aV 3) (aD (bk 4) br))))) (bE (Sh (aV 3)))))
abbrev Dj:Stmt:=top 17
def ag0:dg ["plan","state","row"] ["plan","state","row"] (cp Dj):=unop%d5 0
def zu(F:cY K "after" "after" Dj f fd)(m:mg "after"=some (.ref f))(a_:unop%gX 0)(J7:ke P w K mg base bL "state" k 1 vC)(yY:nV P w K mg base "course_of" k 3 pU):Cl P w K mg base "after" (k+1) 3 mj:=
 mr F ag0 (unop%akR F) m unop%lm
  (bE (fL (aj0 a_ J7 av (LN yY PN av (aD (bk 0) (aD (bk 1) (aD (bk 2) br)))))))
abbrev Cs:Stmt:=top 22
def aeW:dg ["_law_script","_law_k"] ["_law_script","_law_k"] (cp Cs):=unop%d5 0
def Ki(F:cY K "_law_cell_at" "_law_cell_at" Cs f fd)(m:mg "_law_cell_at"=some (.ref f))(j_:mg "len"=none):Cl P w K mg base "_law_cell_at" (k+1) 2 m2:=
 mr F aeW (unop%b9 F) m unop%lm
  (bu (dh (fG (wB.or vN) wj (a3 1) (au (wz (by exact j_) (gD (a3 0) hs)))) (bE (fL (bU (a3 0) (a3 1)))) eG) (bE (fL aS)))
abbrev CO:Stmt:=top 23
def PZ:dg ["_law_script","_law_k","_law_drawn_here"] ["_law_script","_law_k"] (cp CO):=unop%d5 0
def y6(F:cY K "_law_mixed" "_law_mixed" CO f fd)(m:mg "_law_mixed"=some (.ref f))(Ki:Cl P w K mg base "_law_cell_at" k 2 m2):Cl P w K mg base "_law_mixed" (k+1) 2 lH:=
 mr F PZ (unop%b9 F) m unop%lm
  (bu (ed 2 PZ.aW (hv (au (sy (au (ih (au (ih (au (g7 Ki av (aD (bk 0) (aD (bk 1) br)))) (au (sy (au aS) (a3 1))))) (au aS))) (au aS))) (au aS))) (bE (fL (hv (au (ih (au (ih (au (sy (a3 2) (a3 2))) (au (sy (au aS) (a3 2))))) (a3 1))) (au aS)))))
abbrev Di:Stmt:=top 30
def agZ:dg ["_law_now","_law_word","_law_name"] ["_law_now","_law_word","_law_name"] (cp Di):=unop%d5 0
def jI(F:cY K "_law_say" "_law_say" Di f fd)(m:mg "_law_say"=some (.ref f))(cj:hN 1 ["mode","left","came","lines","shunts","siren","alarms","tries","locked","used","went","story"]) :gs P w K mg base "_law_say" 1 0 (k+1) 3 eM:=
 su F agZ (unop%akR F) m unop%lm
  (bE (LF (j:=11) cj (cL av) (aV 0) aY (dW (aD (p2 (j:=10) cj (cL av) (aV 0) aY) (aD (bk 1) (aD (bk 2) br))))))
abbrev CS:Stmt:=top 31
def afC:dg ["_law_plan_here","_law_now","_law_zone"] ["_law_plan_here","_law_now","_law_zone"] (cp CS):=unop%d5 0
def uk(F:cY K "_law_alarm" "_law_alarm" CS f fd)(m:mg "_law_alarm"=some (.ref f))(cj:hN 1 ["mode","left","came","lines","shunts","siren","alarms","tries","locked","used","went","story"])(jI:gs P w K mg base "_law_say" 1 0 k 3 eM):gs P w K mg base "_law_alarm" 1 1 (k+1) 3 mf:=
 su F afC (unop%akR F) m unop%lm
  (bu (hr (j:=5) cj (cL av) (aV 1) aY (bU (au (bU (a3 0) (au aS))) (au aS))) (bE (dh (fG (pY (by exact av.units)) iy (a3 2) (gF (j:=6) cj (cL av) (aV 1) aY)) (bu (LF (j:=6) cj (cL av) (aV 1) aY (bk 2)) (bE (dE (m4 jI av (aV 1) (aD aY (aD (bk 2) br)))))) eG)))
abbrev y_:Stmt:=top 32
def ue:dg ["_law_plan_here","_law_now","_law_zone","_law_what","_law_names","_law_at","_law_old","_law_kind","_law_mode","_law_rings"] ["_law_plan_here","_law_now","_law_zone","_law_what"] (cp y_):=unop%d5 0
def Lb(F:cY K "_law_line" "_law_line" y_ f fd)(m:mg "_law_line"=some (.ref f))(cj:hN 1 ["mode","left","came","lines","shunts","siren","alarms","tries","locked","used","went","story"])(jI:gs P w K mg base "_law_say" 1 0 k 3 eM)(uk:gs P w K mg base "_law_alarm" 1 1 k 3 mf):gs P w K mg base "_law_line" 1 1 (k+1) 4 zf:=
 su F ue (unop%lT F) m unop%lm
  (bu (we 4 ue.aW (own:=["_law_one"]) (caps:=[]) (binop%co y_ ["_law_plan_here","_law_now","_law_zone","_law_what","_law_names","_law_at","_law_old","_law_kind","_law_mode","_law_rings"]) (k2 (bU (a3 0) (au aS))) (unop%eR (fk 0 (unop%aW ["_law_one"]))) (unop%eR wb) (unop%eR (bU (a3 0) (au aS)))) (bu (ed 5 ue.aW (ahV (a3 4) (a3 2))) (bu (ed 6 ue.aW (bU (gF (j:=3) cj (cL av) (aV 1) aY) (a3 5))) (bu (Rw (j:=3) cj (cL av) (aV 1) aY (bk 5) (bk 3)) (bu (ed 7 ue.aW (bU (au (bU (au (bU (a3 0) (au aS))) (a3 5))) (au aS))) (bu (ed 8 ue.aW (p2 (j:=0) cj (cL av) (aV 1) aY)) (bu (dh (binop%er (a3 3) (a3 6)) (bE (wd hu)) eG) (bu (dh (binop%er (a3 3) (au aY)) (bE (dh (binop%er (a3 6) (au aY)) (bE (dE (m4 jI av (aV 1) (aD aY (aD (bk 2) br))))) eG)) (bE (dh (fG (pY (by exact av.units)) iy (a3 2) (gF (j:=4) cj (cL av) (aV 1) aY)) (bu (ed 9 ue.aW (u' (binop%nq (a3 3) (au aY)) (u' (binop%nq (a3 7) (au aY)) (zE (uA (binop%nq (a3 8) (au aY)) (wh (u' (binop%nq (a3 7) (au aY)) (zE (binop%nq (au (bU (au (bU (a3 0) (au aS))) (au aS))) (au aS)))))))))) (bE (dh (ku (w_or (binop%er (a3 7) (au aY)) (sv (ku (w_and (binop%l3 (a3 8) (au aY)) (q8 (Du (a3 9)))))))) (bE (dE (oO uk av (bk 0) (aV 1) (aD (bk 2) br)))) (bE (dh (ku (w_and (binop%er (a3 8) (au aY)) (q8 (binop%er (a3 3) (au aY))))) (bE (dE (m4 jI av (aV 1) (aD aY (aD (bk 2) br))))) (bE (dh (binop%er (a3 8) (au aY)) (bu (hr (j:=0) cj (cL av) (aV 1) aY aY) (bu (hr (j:=1) cj (cL av) (aV 1) aY (bU (au (bU (a3 0) (au aS))) (au aS))) (bu (hr (j:=2) cj (cL av) (aV 1) aY (bk 2)) (bE (dE (m4 jI av (aV 1) (aD aY (aD (bk 2) br)))))))) eG))))))) eG))) (bE (wd hu))))))))))
abbrev Dw:Stmt:=top 33
def Dg:dg ["_law_plan_here","_law_now","_law_at","_law_zone","_law_kind"] ["_law_plan_here","_law_now"] (cp Dw):=unop%d5 0
def zA(F:cY K "_law_on" "_law_on" Dw f fd)(m:mg "_law_on"=some (.ref f))(cj:hN 1 ["mode","left","came","lines","shunts","siren","alarms","tries","locked","used","went","story"])(jI:gs P w K mg base "_law_say" 1 0 k 3 eM)(mn:mg "enumerate"=none)(uk:gs P w K mg base "_law_alarm" 1 1 k 3 mf):gs P w K mg base "_law_on" 1 1 (k+1) 2 p4:=
 su F Dg (unop%b9 F) m unop%lm
  (bu (hr (j:=0) cj (cL av) (aV 1) aY aY) (bu (dE (m4 jI av (aV 1) (aD aY (aD hu br)))) (bE (oV nI (DA mn (bU (a3 0) (au aS))) (p9 (jk (fk 2 Dg.aW) (jk (p9 (jk (fk 3 Dg.aW) (jk (fk 4 Dg.aW) p_))) p_))) (bE (dh (ku (w_and (fG (nP (by exact av.units)) iy (a3 4) (au (dW (aD aY (aD aY br))))) (w_and (binop%l3 (au (bU (gF (j:=3) cj (cL av) (aV 1) aY) (a3 2))) (au aY)) (q8 (fG (pY (by exact av.units)) iy (a3 3) (gF (j:=4) cj (cL av) (aV 1) aY)))))) (bE (dE (oO uk av (bk 0) (aV 1) (aD (bk 3) br)))) eG))))))
abbrev Dx:Stmt:=top 36
def ahM:dg ["_law_plan_here","_law_now","_law_deed","_law_zone","_law_who"] ["_law_plan_here","_law_now","_law_deed","_law_zone","_law_who"] (cp Dx):=unop%d5 0
def LR(F:cY K "_law_do" "_law_do" Dx f fd)(m:mg "_law_do"=some (.ref f))(cj:hN 1 ["mode","left","came","lines","shunts","siren","alarms","tries","locked","used","went","story"])(jI:gs P w K mg base "_law_say" 1 0 k 3 eM)(zA:gs P w K mg base "_law_on" 1 1 k 2 p4):gs P w K mg base "_law_do" 1 1 (k+1) 5 wt:=
 su F ahM (unop%zW F) m unop%lm
  (bu (dh (binop%er (a3 2) (au aY)) (bE (LF (j:=4) cj (cL av) (aV 1) aY (bk 3))) eG) (bu (dh (binop%er (a3 2) (au aY)) (bE (ajR (j:=4) cj (cL av) (aV 1) aY (bk 3))) eG) (bu (dh (fG (nP (by exact av.units)) iy (a3 2) (au (dW (aD aY (aD aY br))))) (bu (dE (m4 jI av (aV 1) (aD (bk 2) (aD (bk 3) br)))) (bE (wd hu))) eG) (bu (hr (j:=5) cj (cL av) (aV 1) aY aS) (bu (dE (m4 jI av (aV 1) (aD (bk 2) (aD (bk 4) br)))) (bu (dh (binop%er (a3 2) (au aY)) (bu (hr (j:=0) cj (cL av) (aV 1) aY aY) (bu (hr (j:=1) cj (cL av) (aV 1) aY aS) (bu (hr (j:=2) cj (cL av) (aV 1) aY hu) (bE (vV (j:=4) cj (cL av) (aV 1) aY (p7 br)))))) (bu (vV (j:=6) cj (cL av) (aV 1) aY (p7 br)) (bu (hr (j:=0) cj (cL av) (aV 1) aY aY) (bu (hr (j:=1) cj (cL av) (aV 1) aY (bU (au (bU (a3 0) (au aS))) (au aS))) (bE (dh (binop%er (gF (j:=1) cj (cL av) (aV 1) aY) (au aS)) (bE (dE (oO zA av (bk 0) (aV 1) br))) eG)))))) (bE (wd hu))))))))
abbrev vP:Stmt:=top 35
def pW:dg ["_law_plan_here","_law_now","_law_figures","_law_deed","_law_zone","_law_some","_law_who","_law_rights","_law_is_shunted","_law_odd","_law_one","_law_kind","_law_what"] ["_law_plan_here","_law_now","_law_figures","_law_deed","_law_zone"] (cp vP):=unop%d5 0
def Lc(F:cY K "_law_code" "_law_code" vP f fd)(m:mg "_law_code"=some (.ref f))(cj:hN 1 ["mode","left","came","lines","shunts","siren","alarms","tries","locked","used","went","story"])(LR:gs P w K mg base "_law_do" 1 1 k 5 wt)(jI:gs P w K mg base "_law_say" 1 0 k 3 eM)(kD:mg "zip"=none)(mn:mg "enumerate"=none):gs P w K mg base "_law_code" 1 1 (k+1) 5 zg:=
 su F pW (unop%zW F) m unop%lm
  (adY (hq (hJ (we 5 pW.aW (own:=["_law_at","_law_code_here"]) (caps:=[(2,"_law_figures")]) (binop%co vP ["_law_plan_here","_law_now","_law_figures","_law_deed","_law_zone","_law_some","_law_who","_law_rights","_law_is_shunted","_law_odd","_law_one","_law_kind","_law_what"]) (DA mn (bU (a3 0) (au aS))) (unop%eR (p9 (jk (fk 0 (unop%aW ["_law_at","_law_code_here","_law_figures"])) (jk (fk 1 (unop%aW ["_law_at","_law_code_here","_law_figures"])) p_)))) (unop%eR (so (binop%er (au (bU (a3 1) (au aS))) (a3 2)))) (unop%eR (bk 0))))
(hq (hJ (we 5 pW.aW (own:=["_law_at"]) (caps:=[(1,"_law_now"),(0,"_law_plan_here")]) (binop%co vP ["_law_plan_here","_law_now","_law_figures","_law_deed","_law_zone","_law_some","_law_who","_law_rights","_law_is_shunted","_law_odd","_law_one","_law_kind","_law_what"]) (k2 (bk 5)) (unop%eR (fk 0 (unop%aW ["_law_at","_law_now","_law_plan_here"]))) (unop%eR (so (ku (w_or (binop%er (au (bU (au (bU (au (bU (a3 2) (au aS))) (a3 0))) (au aS))) (au aS)) (sv (fG (wB.or vN) wj (au (bU (gF (j:=9) (by exact cj) (by exact cL av) (aV 1) aY) (a3 0))) (au (bU (au (bU (au (bU (a3 2) (au aS))) (a3 0))) (au aS))))))))) (unop%eR (bk 0))))
(hq (vj (fG (uC.or uf) uy (gF (j:=8) cj (cL av) (aV 1) aY) (au aS)) (sx (hJ (Dv (m4 jI av (aV 1) (aD aY (aD hu br)))))) wx)
(hq (vj (binop%er (a3 5) (au (zw br))) (hq (hJ (dE (m4 jI av (aV 1) (aD aY (aD hu br)))))
(hq (hJ (hr (j:=7) cj (cL av) (aV 1) aY (ih (gF (j:=7) cj (cL av) (aV 1) aY) (au aS))))
(hq (vj (binop%er (gF (j:=7) cj (cL av) (aV 1) aY) (au aS)) (hq (hJ (hr (j:=7) cj (cL av) (aV 1) aY aS))
(hq (hJ (hr (j:=8) cj (cL av) (aV 1) aY aS))
(hq (hJ (hr (j:=5) cj (cL av) (aV 1) aY (bU (au (bU (a3 0) (au aS))) (au aS))))
(sx (hJ (dE (m4 jI av (aV 1) (aD aY (aD hu br))))))))) wx)
(sx (hJ (wd hu)))))) wx)
(hq (hJ (hr (j:=7) cj (cL av) (aV 1) aY aS))
(hq (hJ (aiL (RB (au (bU (au (bU (a3 0) (au aS))) (au (bU (a3 5) (au aS))))) (LM (au aS)) (LM (au aS))) (p9 (jk (fk 6 pW.aW) (jk (fk 7 pW.aW) p_)))))
(hq (vj (fG (pY (by exact av.units)) iy (au (agh (cL av) aY aY (a3 3) (bk 3))) (a3 7)) (sx (hJ (Dv (m4 jI av (aV 1) (aD aY (aD (bk 6) br)))))) wx)
(hq (SX 8 pW.aW (O9 (rf (nP (by exact av.units)) iy (a3 4) (gF (j:=4) cj (cL av) (aV 1) aY))))
(hq (SX 9 pW.aW (O9 (u' (uA (binop%nq (a3 3) (au aY)) (wh (u' (bk 8) (zE (rf (nP (by exact av.units)) iy (au (dW (aD (bk 4) (aD aY br)))) (au (bU (a3 0) (au aS)))))))) (zE (uA (binop%nq (a3 3) (au aY)) (wh (aj1 (bk 8))))))))
(hq (vj (ku (w_or (ku (w_and (binop%l3 (a3 3) (au aY)) (q8 (binop%l3 (gF (j:=0) cj (cL av) (aV 1) aY) (au aY))))) (sv (Du (a3 9))))) (sx (hJ (Dv (m4 jI av (aV 1) (aD aY (aD (bk 6) br)))))) wx)
(hq (vj (binop%er (a3 3) (au aY)) (sx (hJ (ahO nI (SM kD (au (bU (a3 0) (au aS))) (gF (j:=3) cj (cL av) (aV 1) aY)) (p9 (jk (p9 (jk (fk 10 pW.aW) (jk (fk 11 pW.aW) p_))) (jk (fk 12 pW.aW) p_))) (ku (w_and (fG (nP (by exact av.units)) iy (a3 11) (au (dW (aD aY (aD aY br))))) (w_and (binop%l3 (a3 12) (au aY)) (q8 (fG (pY (by exact av.units)) iy (a3 10) (gF (j:=4) cj (cL av) (aV 1) aY)))))) (bE (Dv (m4 jI av (aV 1) (aD aY (aD (bk 10) br)))))))) wx)
(hq (hJ (Rw (j:=9) cj (cL av) (aV 1) aY (bU (a3 5) (au aS)) (ih (au (bU (gF (j:=9) cj (cL av) (aV 1) aY) (au (bU (a3 5) (au aS))))) (au aS))))
(hq (hJ (dE (oO LR av (bk 0) (aV 1) (aD (bk 3) (aD (bk 4) (aD (bk 6) br))))))
(sx (hJ (wd hu)))))))))))))))))
abbrev C6:Stmt:=top 34
def Qr:dg ["_law_plan_here","_law_now","_law_zone"] ["_law_plan_here","_law_now"] (cp C6):=unop%d5 0
def K'(F:cY K "_law_tick" "_law_tick" C6 f fd)(m:mg "_law_tick"=some (.ref f))(cj:hN 1 ["mode","left","came","lines","shunts","siren","alarms","tries","locked","used","went","story"])(oU:mg "max"=none)(zA:gs P w K mg base "_law_on" 1 1 k 2 p4)(uk:gs P w K mg base "_law_alarm" 1 1 k 3 mf):gs P w K mg base "_law_tick" 1 1 (k+1) 2 ze:=
 su F Qr (unop%b9 F) m unop%lm
  (bu (hr (j:=10) cj (cL av) (aV 1) aY (ih (gF (j:=10) cj (cL av) (aV 1) aY) (au aS))) (bu (hr (j:=8) cj (cL av) (aV 1) aY (LY oU (gD (au aS) (gD (au (zD (gF (j:=8) cj (cL av) (aV 1) aY) (au aS))) hs)))) (bu (hr (j:=5) cj (cL av) (aV 1) aY (LY oU (gD (au aS) (gD (au (zD (gF (j:=5) cj (cL av) (aV 1) aY) (au aS))) hs)))) (bE (dh (fG (nP (by exact av.units)) iy (gF (j:=0) cj (cL av) (aV 1) aY) (au (dW (aD aY (aD aY br))))) (bu (hr (j:=1) cj (cL av) (aV 1) aY (zD (gF (j:=1) cj (cL av) (aV 1) aY) (au aS))) (bE (dh (binop%er (gF (j:=1) cj (cL av) (aV 1) aY) (au aS)) (bu (ed 2 Qr.aW (p2 (j:=2) cj (cL av) (aV 1) aY)) (bE (dh (binop%er (gF (j:=0) cj (cL av) (aV 1) aY) (au aY)) (bE (dE (oO zA av (bk 0) (aV 1) br))) (bu (hr (j:=0) cj (cL av) (aV 1) aY aY) (bu (hr (j:=2) cj (cL av) (aV 1) aY hu) (bE (dE (oO uk av (bk 0) (aV 1) (aD (bk 2) br))))))))) eG))) eG)))))
abbrev CC:Stmt:=top 37
def PM:dg ["_law_plan_here","_law_now","_law_event_here","_law_turn"] ["_law_plan_here","_law_now","_law_event_here"] (cp CC):=unop%d5 0
def CL(F:cY K "_law_happen" "_law_happen" CC f fd)(m:mg "_law_happen"=some (.ref f))(cj:hN 1 ["mode","left","came","lines","shunts","siren","alarms","tries","locked","used","went","story"])(Lb:gs P w K mg base "_law_line" 1 1 k 4 zf)(Lc:gs P w K mg base "_law_code" 1 1 k 5 zg)(m8:mg "range"=none)(K':gs P w K mg base "_law_tick" 1 1 k 2 ze):gs P w K mg base "_law_happen" 1 1 (k+1) 3 sd:=
 su F PM (unop%akR F) m unop%lm
  (bE (dh (binop%er (au (bU (a3 2) (au aS))) (au aY)) (bE (dE (oO Lb av (bk 0) (aV 1) (aD (bU (a3 2) (au aS)) (aD (bU (a3 2) (au aS)) br))))) (bE (dh (binop%er (au (bU (a3 2) (au aS))) (au aY)) (bE (dE (oO Lc av (bk 0) (aV 1) (aD (bU (a3 2) (au aS)) (aD (bU (a3 2) (au aS)) (aD (bU (a3 2) (au aS)) br)))))) (bE (oV nI (LO m8 (au (bU (a3 2) (au aS)))) (fk 3 PM.aW) (bE (dE (oO K' av (bk 0) (aV 1) br)))))))))
abbrev vU:Stmt:=top 5
def K0:dg ["plan","lines","used"] ["plan"] (cp vU):=unop%d5 0
def Lx(F:cY K "begun" "begun" vU f fd)(m:mg "begun"=some (.ref f))(fw:mg "tuple"=none):Cl P w K mg base "begun" (k+1) 1 lI:=
 mr F K0 (unop%bX F) m unop%lm
  (bu (ed 1 K0.aW (mh fw (gD (au (uv (own:=["zone"]) (caps:=[]) (binop%co vU ["plan","lines","used"]) (k2 (bU (a3 0) (au aS))) (unop%eR (fk 0 (unop%aW ["zone"]))) (unop%eR wb) (unop%eR aY))) hs))) (bu (ed 2 K0.aW (mh fw (gD (au (uv (own:=["code"]) (caps:=[]) (binop%co vU ["plan","lines","used"]) (k2 (bU (a3 0) (au aS))) (unop%eR (fk 0 (unop%aW ["code"]))) (unop%eR wb) (unop%eR aS))) hs))) (bE (fL (dW (aD aY (aD aS (aD hu (aD (bk 1) (aD (dW br) (aD aS (aD (dW br) (aD aS (aD aS (aD (bk 2) br)))))))))))))))
abbrev CN:Stmt:=top 29
def Km:dg ["_law_now","_law_first","_law_more"] ["_law_now"] (cp CN):=unop%d5 0
def C3(F:cY K "_law_state" "_law_state" CN f fd)(m:mg "_law_state"=some (.ref f))(cj:hN 1 ["mode","left","came","lines","shunts","siren","alarms","tries","locked","used","went","story"])(fw:mg "tuple"=none)(p5:mg "sorted"=none):sF P w K mg base "_law_state" (k+1) 1 pZ:=
 ajz F Km (unop%bX F) m unop%lm
  (bu (ed 1 Km.aW (dW (aD (p2 (j:=0) cj (cL av) (aV 0) aY) (aD (p2 (j:=1) cj (cL av) (aV 0) aY) (aD (p2 (j:=2) cj (cL av) (aV 0) aY) (aD (mh fw (gD (gF (j:=3) cj (cL av) (aV 0) aY) hs)) br)))))) (bu (ed 2 Km.aW (dW (aD (mh fw (gD (au (ag5 rfl p5 (gD (gF (j:=4) cj (cL av) (aV 0) aY) hs))) hs)) (aD (p2 (j:=5) cj (cL av) (aV 0) aY) (aD (mh fw (gD (gF (j:=6) cj (cL av) (aV 0) aY) hs)) br))))) (bE (fL (ih (au (ih (a3 1) (a3 2))) (au (dW (aD (p2 (j:=7) cj (cL av) (aV 0) aY) (aD (p2 (j:=8) cj (cL av) (aV 0) aY) (aD (mh fw (gD (gF (j:=9) cj (cL av) (aV 0) aY) hs)) br))))))))))
abbrev Dh:Stmt:=top 18
def agY:dg ["plan","state","row"] ["plan","state","row"] (cp Dh):=unop%d5 0
def v_(F:cY K "story" "story" Dh f fd)(m:mg "story"=some (.ref f))(a_:unop%gX 0)(fw:mg "tuple"=none)(yY:nV P w K mg base "course_of" k 3 pU):Cl P w K mg base "story" (k+1) 3 mi:=
 mr F agY (unop%akR F) m unop%lm
  (bE (fL (mh fw (gD (au (agg (j:=12) a_ (LN yY PN av (aD (bk 0) (aD (bk 1) (aD (bk 2) br)))))) hs))))
abbrev Ck:Stmt:=top 20
def Pz:dg ["plan","state","row","told"] ["plan","state","row"] (cp Ck):=unop%d5 0
def Kd(F:cY K "first_loud" "first_loud" Ck f fd)(m:mg "first_loud"=some (.ref f))(v_:Cl P w K mg base "story" k 3 mi){uP:ak}(Z8:mg "LOUD_WORDS"=some (.ref uP))(adI:∃(o:Obj) (its:Array aq) (n:Nat),K.lookup uP=some o/\o.cls=.type "tuple"/\o.data=.seq its n/\its.size<=cF/\Vals ((["alarm","attack"]:List Str).map V.str) its.toList):Cl P w K mg base "first_loud" (k+1) 3 t8:=
 mr F Pz (unop%akR F) m unop%lm
  (bu (oV nI (k2 (g7 v_ av (aD (bk 0) (aD (bk 1) (aD (bk 2) br))))) (fk 3 Pz.aW) (bE (dh (fG (nP (by exact av.units)) iy (au (bU (a3 3) (au aS))) (au (I4 Z8 adI))) (bE (LC 3)) eG))) (bE (fL hu)))
abbrev zi:Stmt:=top 19
def Q7:dg ["plan","state","not_shut"] ["plan","state"] (cp zi):=unop%d5 0
def Lw(F:cY K "shown" "shown" zi f fd)(m:mg "shown"=some (.ref f))(fw:mg "tuple"=none)(kD:mg "zip"=none):Cl P w K mg base "shown" (k+1) 2 zt:=
 mr F Q7 (unop%b9 F) m unop%lm
  (bu (we 2 Q7.aW (own:=["zone","line"]) (caps:=[]) (binop%co zi ["plan","state","not_shut"]) (akb kD (bU (a3 0) (au aS)) (bU (a3 1) (au aS))) (unop%eR (p9 (jk (fk 0 (unop%aW ["zone","line"])) (jk (fk 1 (unop%aW ["zone","line"])) p_)))) (unop%eR (so (binop%l3 (a3 1) (au aY)))) (unop%eR (bU (a3 0) (au aS)))) (bE (fL (dW (aD (bU (a3 1) (au aS)) (aD (rf (uC.or uf) uy (au (bU (a3 1) (au aS))) (au aS)) (aD (mh fw (gD (a3 2) hs)) br)))))))
abbrev rd:Stmt:=top 38
def nO:dg ["_law_script","_law_plan_here","_law_now","_law_first","_law_event_here","_law_state_here","_law_row_here","_law_due","_law_loud","_law_last","_law_some"] ["_law_script"] (cp rd):=unop%d5 0
def akf(F:cY K "law" "law" rd f fd)(cj:hN 1 ["mode","left","came","lines","shunts","siren","alarms","tries","locked","used","went","story"])(La:Cl P w K mg base "_law_plan" k 1 vS)(KN:nV P w K mg base "_law_begun" k 1 uh)(Dr:Cl P w K mg base "_law_row" k 3 sj)(zu:Cl P w K mg base "after" k 3 mj)(fw:mg "tuple"=none)(y6:Cl P w K mg base "_law_mixed" k 2 lH)(CL:gs P w K mg base "_law_happen" 1 1 k 3 sd)(Lx:Cl P w K mg base "begun" k 1 lI)(C3:sF P w K mg base "_law_state" k 1 pZ)(v_:Cl P w K mg base "story" k 3 mi)(Kd:Cl P w K mg base "first_loud" k 3 t8)(sm:mg "repr"=none)(Lw:Cl P w K mg base "shown" k 2 zt)(kD:mg "zip"=none):fI P w K mg base fH (k+1) f fd ["_law_script"] (spT K 1 sA):=
 SO F nO unop%lm
  (bu (ed 1 nO.aW (g7 La av (aD (g7 y6 av (aD (bk 0) (aD aS br))) br))) (bu (LD 2 nO.aW (LN KN ago av (aD (bk 1) br))) (bu (ed 3 nO.aW (g7 Dr av (aD (bk 1) (aD (g7 y6 av (aD (bk 0) (aD aS br))) (aD aS br))))) (bu (oV nI (k2 (bk 3)) (fk 4 nO.aW) (bE (dE (oO CL av (bk 1) (aV 2) (aD (bk 4) br))))) (bu (ed 5 nO.aW (g7 zu av (aD (bk 1) (aD (g7 Lx av (aD (bk 1) br)) (aD (bk 3) br))))) (bu (dh (binop%l3 (a3 5) (au (RE C3 av (Mo (aV 2) SS)))) (bE (fL u_)) eG) (bu (vV (j:=11) cj (cL av) (aV 2) aY (p7 br)) (bu (hr (j:=10) cj (cL av) (aV 2) aY aS) (bu (ed 6 nO.aW (g7 Dr av (aD (bk 1) (aD (g7 y6 av (aD (bk 0) (aD aS br))) (aD aS br))))) (bu (oV nI (k2 (bk 6)) (fk 4 nO.aW) (bE (dE (oO CL av (bk 1) (aV 2) (aD (bk 4) br))))) (bu (ed 7 nO.aW (mh fw (gD (gF (j:=11) cj (cL av) (aV 2) aY) hs))) (bu (dh (binop%l3 (au (g7 v_ av (aD (bk 1) (aD (bk 5) (aD (bk 6) br))))) (a3 7)) (bE (fL u_)) eG) (bu (we 8 nO.aW (own:=["_law_told"]) (caps:=[]) (binop%co rd ["_law_script","_law_plan_here","_law_now","_law_first","_law_event_here","_law_state_here","_law_row_here","_law_due","_law_loud","_law_last","_law_some"]) (k2 (bk 7)) (unop%eR (fk 0 (unop%aW ["_law_told"]))) (unop%eR (so (fG (nP (by exact av.units)) iy (au (bU (a3 0) (au aS))) (au (dW (aD aY (aD aY br))))))) (unop%eR (bk 0))) (bu (dh (binop%l3 (au (g7 Kd av (aD (bk 1) (aD (bk 5) (aD (bk 6) br))))) (au (bU (au (ih (a3 8) (au (zw (aD hu br))))) (au aS)))) (bE (fL u_)) eG) (bu (ed 9 nO.aW (g7 zu av (aD (bk 1) (aD (bk 5) (aD (bk 6) br))))) (bu (ed 10 nO.aW (mh fw (gD (au (ag6 (own:=["_law_zone","_law_what"]) (caps:=[]) (binop%co rd ["_law_script","_law_plan_here","_law_now","_law_first","_law_event_here","_law_state_here","_law_row_here","_law_due","_law_loud","_law_last","_law_some"]) (SM kD (au (bU (a3 1) (au aS))) (gF (j:=3) cj (cL av) (aV 2) aY)) (unop%eR (p9 (jk (fk 0 (unop%aW ["_law_zone","_law_what"])) (jk (fk 1 (unop%aW ["_law_zone","_law_what"])) p_)))) (unop%eR (so (binop%l3 (a3 1) (au aY)))) (unop%eR (bU (a3 0) (au aS))))) hs))) (bu (dh (binop%l3 (au (Sn av sm (gD (au (g7 Lw av (aD (bk 1) (aD (bk 9) br)))) hs))) (au (Sn av sm (gD (au (dW (aD (p2 (j:=0) cj (cL av) (aV 2) aY) (aD (rf (uC.or uf) uy (gF (j:=5) cj (cL av) (aV 2) aY) (au aS)) (aD (bk 10) br))))) hs)))) (bE (fL u_)) eG) (bE (fL (uA (binop%nq (a3 9) (au (RE C3 av (Mo (aV 2) SS)))) (uA (binop%nq (au (g7 zu av (aD (bk 1) (aD (bk 5) (aD (dW br) br))))) (a3 5)) (wh (binop%nq (au (g7 v_ av (aD (bk 1) (aD (bk 5) (aD (dW br) br))))) (au (dW br)))))))))))))))))))))))))
end
end qh
end
section
namespace D
open PySem
def Rb(ss:List Str)(h:∀x∈ss,(ib x).canLay0=true):kW (ss.map .str)=true/\kV (ss.map .str)<=1:=by
 induction ss with
|nil=>simp[kW,kV]
|cons n ns b7=>
  have ah:=h n (by simp);have ao:=b7 λx hx=>h x (by simp[hx]);simp[kW,kV,mX,ah,ao]
theorem K8(n:Str):∀ns:List Str,mG (.str n) (ns.map .str)=decide (n∈ns)
| []=>by simp[mG]
|m::ns=>by
  have b7:=K8 n ns;unfold mG at b7 ⊢;rw[dv,List.any_cons,b7];simp[hX,Bool.beq_eq_decide_eq,eq_comm]
def sg(n:Int):hl (.int n)=true:=by simp[hl,PyData.canLay0,mX]
def vY{x:Str}(h:(ib x).canLay0=true):hl (.str x)=true:=by simp[hl,mX,h]
def Ky(ss:List Str)(h:∀x∈ss,(ib x).canLay0=true):ox (ss.map .str)=true:=by
 have:=Rb ss h;simp[ox,this.1];omega
def aif(neg:Bool)(n:Str)(ns:List Str)(h0:(ib n).canLay0=true)(h:∀x∈ns,(ib x).canLay0=true):da neg (.str n) (.tuple (ns.map .str))=some (.bool (if neg then !decide (n∈ns) else decide (n∈ns))):=by
 simp only[da,vY h0,Ky ns h,K8,Bool.and_self,if_true]
end D
end
section
namespace bq
open D PySem
structure e4 where
 c':Str
 fE:Str
 iY:List Str
 uses:Int
structure aT where
 bP:List (Str×Str)
 codes:List e4
 leave:Int
 gG:Int
 loud:Int
structure aJ where
 mode:Str
 left:Int
 e5:Option Str
 lines:List (Str×Str)
 b4:List Str
 c2:Int
 b3:List Str
 tries:Int
 locked:Int
 used:List (Str×Int)
 past:Int
 told:List (Int×Str×Option Str)
noncomputable def dm:Option Str->T
|none=>.none
|some x=>.str x
noncomputable def c_(z:Str×Str):T:=.tuple [.str z.1,.str z.2]
noncomputable def dI(c:e4):T:=.tuple [.str c.c',.str c.fE,.tuple (c.iY.map .str),.int c.uses]
noncomputable def cm(p:aT):T:=.tuple [.tuple (p.bP.map c_),.tuple (p.codes.map dI),.tuple [.int p.leave,.int p.gG,.int p.loud]]
noncomputable def fq(w:Int×Str×Option Str):T:=.tuple [.int w.1,.str w.2.1,dm w.2.2]
noncomputable def iN(l:List (Str×Str)):List (D.Key×T):=l.map λp=>(.inr p.1,.str p.2)
noncomputable def iM(l:List (Str×Int)):List (D.Key×T):=l.map λp=>(.inr p.1,.int p.2)
noncomputable def encC(p:aT)(c:aJ):List aO:=[.ab (cm p),.ab (.str c.mode),.ab (.int c.left),.ab (dm c.e5),.h5 (iN c.lines),.own (c.b4.map .str),.ab (.int c.c2),.own (c.b3.map .str),.ab (.int c.tries),.ab (.int c.locked),.h5 (iM c.used),.ab (.int c.past),.own (c.told.map fq)]
def vD:¬(("off":Str)="leaving"):=by decide +kernel
def zb:¬(("off":Str)="on"):=by decide +kernel
def r9:¬(("off":Str)="coming"):=by decide +kernel
def Cg:¬(("leaving":Str)="off"):=by decide +kernel
def Cp:¬(("leaving":Str)="on"):=by decide +kernel
def yC:¬(("leaving":Str)="coming"):=by decide +kernel
def ur:¬(("on":Str)="off"):=by decide +kernel
def yR:¬(("on":Str)="leaving"):=by decide +kernel
def ua:¬(("on":Str)="coming"):=by decide +kernel
def Cq:¬(("coming":Str)="off"):=by decide +kernel
def yD:¬(("coming":Str)="leaving"):=by decide +kernel
def Cy:¬(("coming":Str)="on"):=by decide +kernel
def Cu:¬(("shut":Str)="open"):=by decide +kernel
def CD:¬(("shut":Str)="cut"):=by decide +kernel
def Cv:¬(("open":Str)="shut"):=by decide +kernel
def CE:¬(("open":Str)="cut"):=by decide +kernel
def CH:¬(("cut":Str)="shut"):=by decide +kernel
def CI:¬(("cut":Str)="open"):=by decide +kernel
def Cx:¬(("day":Str)="inner"):=by decide +kernel
def CG:¬(("day":Str)="once"):=by decide +kernel
def CY:¬(("day":Str)="way"):=by decide +kernel
def yW:¬(("inner":Str)="day"):=by decide +kernel
def yS:¬(("inner":Str)="once"):=by decide +kernel
def yV:¬(("inner":Str)="way"):=by decide +kernel
def yZ:¬(("once":Str)="day"):=by decide +kernel
def Cn:¬(("once":Str)="inner"):=by decide +kernel
def CF:¬(("once":Str)="way"):=by decide +kernel
def vO:¬(("way":Str)="day"):=by decide +kernel
def vE:¬(("way":Str)="inner"):=by decide +kernel
def vK:¬(("way":Str)="once"):=by decide +kernel
def yU:¬(("set":Str)="unset"):=by decide +kernel
def t9:¬(("set":Str)="shunt"):=by decide +kernel
def akZ:¬(("set":Str)="free"):=by decide +kernel
def r_:¬(("unset":Str)="set"):=by decide +kernel
def ak5:¬(("unset":Str)="shunt"):=by decide +kernel
def r8:¬(("unset":Str)="free"):=by decide +kernel
def r':¬(("shunt":Str)="set"):=by decide +kernel
def q1:¬(("shunt":Str)="unset"):=by decide +kernel
def yQ:¬(("shunt":Str)="free"):=by decide +kernel
def sb:¬(("free":Str)="set"):=by decide +kernel
def pT:¬(("free":Str)="unset"):=by decide +kernel
def oM:¬(("free":Str)="shunt"):=by decide +kernel
def Cw:¬(("line":Str)="code"):=by decide +kernel
def Co:¬(("line":Str)="ticks"):=by decide +kernel
def yX:¬(("code":Str)="line"):=by decide +kernel
def Cr:¬(("code":Str)="ticks"):=by decide +kernel
def yO:¬(("ticks":Str)="line"):=by decide +kernel
def yP:¬(("ticks":Str)="code"):=by decide +kernel
noncomputable def tell(w:Str)(n:Option Str)(c:aJ):aJ:={c with told:=c.told++[(c.past,w,n)]}
noncomputable def iJ(p:aT)(c:aJ):aJ:={c with c2:=p.loud}
noncomputable def dJ(p:aT)(z:Str)(c:aJ):aJ:=if z∈c.b3 then iJ p c else tell "alarm" (some z) {iJ p c with b3:=c.b3++[z]}
section
variable (p:aT)(c:aJ)
def DH:(encC p c).length=13:=rfl
def eC:(encC p c)[0]?=some (.ab (cm p)):=rfl
def aR:(encC p c)[1]?=some (.ab (.str c.mode)):=rfl
def a7:(encC p c)[2]?=some (.ab (.int c.left)):=rfl
def gi:(encC p c)[3]?=some (.ab (dm c.e5)):=rfl
def jq:(encC p c)[4]?=some (.h5 (iN c.lines)):=rfl
def z9:(encC p c)[5]?=some (.own (c.b4.map .str)):=rfl
def rA:(encC p c)[6]?=some (.ab (.int c.c2)):=rfl
def rB:(encC p c)[7]?=some (.own (c.b3.map .str)):=rfl
def z_:(encC p c)[8]?=some (.ab (.int c.tries)):=rfl
def nk:(encC p c)[9]?=some (.ab (.int c.locked)):=rfl
def z7:(encC p c)[10]?=some (.h5 (iM c.used)):=rfl
def z8:(encC p c)[11]?=some (.ab (.int c.past)):=rfl
def w6:(encC p c)[12]?=some (.own (c.told.map fq)):=rfl
def s1(x:Str):(encC p c).set 1 (.ab (.str x))=encC p {c with mode:=x}:=rfl
def s2(x:Int):(encC p c).set 2 (.ab (.int x))=encC p {c with left:=x}:=rfl
def s3(x:Str):(encC p c).set 3 (.ab (.str x))=encC p {c with e5:=some x}:=rfl
def Bv:(encC p c).set 3 (.ab .none)=encC p {c with e5:=none}:=rfl
def s4(l:List (Str×Str)):(encC p c).set 4 (.h5 (iN l))=encC p {c with lines:=l}:=rfl
def s5(l:List Str):(encC p c).set 5 (.own (l.map .str))=encC p {c with b4:=l}:=rfl
def Bw:(encC p c).set 5 (.own [])=encC p {c with b4:=[]}:=rfl
def c9(x:Int):(encC p c).set 6 (.ab (.int x))=encC p {c with c2:=x}:=rfl
def cy(l:List Str):(encC p c).set 7 (.own (l.map .str))=encC p {c with b3:=l}:=rfl
def By:(encC p c).set 7 (.own [])=encC p {c with b3:=[]}:=rfl
def Bx(l:List Str)(z:Str):(encC p c).set 7 (.own (l.map .str++[.str z]))=encC p {c with b3:=l++[z]}:=by simp[encC]
def cN(x:Int):(encC p c).set 8 (.ab (.int x))=encC p {c with tries:=x}:=rfl
def dn(x:Int):(encC p c).set 9 (.ab (.int x))=encC p {c with locked:=x}:=rfl
def dG(l:List (Str×Int)):(encC p c).set 10 (.h5 (iM l))=encC p {c with used:=l}:=rfl
def el(x:Int):(encC p c).set 11 (.ab (.int x))=encC p {c with past:=x}:=rfl
def Bu(l:List (Int×Str×Option Str))(i:Int)(w:Str)(n:Option Str):(encC p c).set 12 (.own (l.map fq++[.tuple [.int i,.str w,dm n]]))=encC p {c with told:=l++[(i,w,n)]}:=by simp[encC,fq]
end
end bq
open D bq
open PySem hiding run fresh code
local macro_rules
| `(tactic| simp! [iq,$xs,*] $[$l]?)=>`(tactic| simp[DH,eC,aR,a7,gi,jq,z9,rA,rB,z_,nk,z7,z8,w6,s1,s2,s3,Bv,s4,s5,Bw,c9,cy,By,Bx,cN,dn,dG,el,Bu,runM,jc,j7,m7,ct,d1,lN,hn,nQ,iZ,cx,g9,nf,jQ,gb,akQ,fld,eS,lY,kM,lX,oW,oY,nR,never,rv,nv,i5,d4,seq,iff,a0,i1,ei,eZ,jZ,fi,ofT,fo,af,bl,args,aa,nm,aA,cI,skip,asg,jR,hR,par,bQ,ew,hU,jm,aK,gh,f_,bJ,dq,gy,df,comp,iz,$xs,*] $[$l]?)
local macro_rules
| `(tactic| simp! [hF,$xs,*] $[$l]?)=>`(tactic| simp[d4,seq,iff,a0,i1,ei,eZ,jZ,fi,ofT,fo,af,bl,args,aa,nm,aA,cI,skip,asg,jR,hR,par,bQ,ew,hU,jm,aK,gh,f_,bJ,dq,gy,df,comp,iz,$xs,*] $[$l]?)
| `(tactic| simp! [hF] $[$l]?)=>`(tactic| simp[d4,seq,iff,a0,i1,ei,eZ,jZ,fi,ofT,fo,af,bl,args,aa,nm,aA,cI,skip,asg,jR,hR,par,bQ,ew,hU,jm,aK,gh,f_,bJ,dq,gy,df,comp,iz] $[$l]?)
local macro_rules
| `(tactic| simp! [jA,$xs,*] $[$l]?)=>`(tactic| simp[cC,km,ef,oDiv,oMod,qF,hD,x2,akS,fP,DF,Bn,oLt,oLe,gZ,rN,big,DH,eC,aR,a7,gi,jq,z9,rA,rB,z_,nk,z7,z8,w6,s1,s2,s3,Bv,s4,s5,Bw,c9,cy,By,Bx,cN,dn,dG,el,Bu,runM,jc,j7,m7,ct,d1,lN,hn,nQ,iZ,cx,g9,nf,jQ,gb,akQ,fld,eS,lY,kM,lX,oW,oY,nR,never,rv,nv,i5,d4,seq,iff,a0,i1,ei,eZ,jZ,fi,ofT,fo,af,bl,args,aa,nm,aA,cI,skip,asg,jR,hR,par,bQ,ew,hU,jm,aK,gh,f_,bJ,dq,gy,df,comp,iz,$xs,*] $[$l]?)
local macro_rules
| `(tactic| simp! [oA,$xs,*] $[$l]?)=>`(tactic| simp[runM,jc,j7,m7,ct,d1,lN,hn,nQ,iZ,cx,g9,nf,jQ,gb,akQ,fld,eS,lY,kM,lX,oW,oY,nR,never,rv,nv,i5,d4,seq,iff,a0,i1,ei,eZ,jZ,fi,ofT,fo,af,bl,args,aa,nm,aA,cI,skip,asg,jR,hR,par,bQ,ew,hU,jm,aK,gh,f_,bJ,dq,gy,df,comp,iz,$xs,*] $[$l]?)
local macro_rules
| `(tactic| simp! [h8,$xs,*] $[$l]?)=>`(tactic| simp[DH,eC,aR,a7,gi,jq,z9,rA,rB,z_,nk,z7,z8,w6,s1,s2,s3,Bv,s4,s5,Bw,c9,cy,By,Bx,cN,dn,dG,el,Bu,runM,jc,j7,m7,ct,d1,lN,hn,nQ,iZ,cx,g9,nf,jQ,gb,akQ,fld,eS,lY,kM,lX,oW,oY,nR,never,rv,nv,i5,vD,zb,r9,Cg,Cp,yC,ur,yR,ua,Cq,yD,Cy,Cu,CD,Cv,CE,CH,CI,Cx,CG,CY,yW,yS,yV,yZ,Cn,CF,vO,vE,vK,yU,t9,akZ,r_,ak5,r8,r',q1,yQ,sb,pT,oM,Cw,Co,yX,Cr,yO,yP,d4,seq,iff,a0,i1,ei,eZ,jZ,fi,ofT,fo,af,bl,args,aa,nm,aA,cI,skip,asg,jR,hR,par,bQ,ew,hU,jm,aK,gh,f_,bJ,dq,gy,df,comp,iz,$xs,*] $[$l]?)
local macro_rules
| `(tactic| simp! [Jj,$xs,*] $[$l]?)=>`(tactic| simp[cC,km,ef,oDiv,oMod,qF,hD,x2,akS,fP,DF,Bn,oLt,oLe,gZ,rN,big,d4,seq,iff,a0,i1,ei,eZ,jZ,fi,ofT,fo,af,bl,args,aa,nm,aA,cI,skip,asg,jR,hR,par,bQ,ew,hU,jm,aK,gh,f_,bJ,dq,gy,df,comp,iz,$xs,*] $[$l]?)
local macro_rules
| `(tactic| simp! [adb,$xs,*] $[$l]?)=>`(tactic| simp[runM,jc,j7,m7,ct,d1,lN,hn,nQ,iZ,cx,g9,nf,jQ,gb,akQ,fld,eS,lY,kM,lX,oW,oY,nR,never,rv,nv,i5,$xs,*] $[$l]?)
local macro_rules
| `(tactic| simp! [ade,$xs,*] $[$l]?)=>`(tactic| simp[DH,eC,aR,a7,gi,jq,z9,rA,rB,z_,nk,z7,z8,w6,s1,s2,s3,Bv,s4,s5,Bw,c9,cy,By,Bx,cN,dn,dG,el,Bu,$xs,*] $[$l]?)
local macro_rules
| `(tactic| simp! [fK,$xs,*] $[$l]?)=>`(tactic| simp[d4,seq,iff,a0,i1,ei,eZ,jZ,fi,ofT,fo,af,bl,args,aa,nm,aA,cI,skip,asg,jR,hR,par,bQ,ew,hU,jm,bJ,dq,gy,df,comp,iz,$xs,*] $[$l]?)
| `(tactic| simp! [fK] $[$l]?)=>`(tactic| simp[d4,seq,iff,a0,i1,ei,eZ,jZ,fi,ofT,fo,af,bl,args,aa,nm,aA,cI,skip,asg,jR,hR,par,bQ,ew,hU,jm,bJ,dq,gy,df,comp,iz] $[$l]?)
local macro_rules
| `(tactic| simp! [akI,$xs,*] $[$l]?)=>`(tactic| simp[vD,zb,r9,Cg,Cp,yC,ur,yR,ua,Cq,yD,Cy,Cu,CD,Cv,CE,CH,CI,Cx,CG,CY,yW,yS,yV,yZ,Cn,CF,vO,vE,vK,yU,t9,akZ,r_,ak5,r8,r',q1,yQ,sb,pT,oM,Cw,Co,yX,Cr,yO,yP,d4,seq,iff,a0,i1,ei,eZ,jZ,fi,ofT,fo,af,bl,args,aa,nm,aA,cI,skip,asg,jR,hR,par,bQ,ew,hU,jm,aK,gh,f_,bJ,dq,gy,df,comp,iz,$xs,*] $[$l]?)
local macro_rules
| `(tactic| simp! [yd,$xs,*] $[$l]?)=>`(tactic| simp[vD,zb,r9,Cg,Cp,yC,ur,yR,ua,Cq,yD,Cy,Cu,CD,Cv,CE,CH,CI,Cx,CG,CY,yW,yS,yV,yZ,Cn,CF,vO,vE,vK,yU,t9,akZ,r_,ak5,r8,r',q1,yQ,sb,pT,oM,Cw,Co,yX,Cr,yO,yP,$xs,*] $[$l]?)
| `(tactic| simp! [yd] $[$l]?)=>`(tactic| simp[vD,zb,r9,Cg,Cp,yC,ur,yR,ua,Cq,yD,Cy,Cu,CD,Cv,CE,CH,CI,Cx,CG,CY,yW,yS,yV,yZ,Cn,CF,vO,vE,vK,yU,t9,akZ,r_,ak5,r8,r',q1,yQ,sb,pT,oM,Cw,Co,yX,Cr,yO,yP] $[$l]?)
namespace bq
open D PySem
noncomputable def cz(x:Str):Prop:=(ib x).canLay0=true
def cR{x y:Str}(ah:cz x)(ao:cz y):oEq (.str x) (.str y)=some (.bool (decide (x=y))):=by
 unfold oEq;rw[vY ah,vY ao];by_cases e:x=y <;> simp[hX,e]
def kB{x y:Str}(ah:cz x)(ao:cz y):eE (.str x) (.str y)=some (.bool (!decide (x=y))):=by
 unfold eE;rw[vY ah,vY ao];by_cases e:x=y <;> simp[hX,e]
def p1(neg:Bool){n:Str}{ns:List Str}(h0:cz n)(h:∀x∈ns,cz x):da neg (.str n) (.list (ns.map .str))=some (.bool (if neg then !decide (n∈ns) else decide (n∈ns))):=by
 simp only[da,vY h0,Ky ns h,K8];rfl
def oQ(neg:Bool){n:Str}{ns:List Str}(h0:cz n)(h:∀x∈ns,cz x):da neg (.str n) (.tuple (ns.map .str))=some (.bool (if neg then !decide (n∈ns) else decide (n∈ns))):=aif neg n ns h0 h
def Rt(p:aT)(c:aJ)(w:Str)(n:Option Str)(h:c.told.length<big):gC [.obj .cM 0 (encC p c),.ab (.str w),.ab (dm n)]=some (.none,encC p (tell w n c)):=by
 have h':c.told.length<16777216:=h;simp! [iq,gC,PD,tell,big,h']
def CM(p:aT)(c:aJ)(w:Str)(h:c.told.length<big):gC [.obj .cM 0 (encC p c),.ab (.str w),.ab .none]=some (.none,encC p (tell w none c)):=Rt p c w none h
def q3(p:aT)(c:aJ)(w z:Str)(h:c.told.length<big):gC [.obj .cM 0 (encC p c),.ab (.str w),.ab (.str z)]=some (.none,encC p (tell w (some z) c)):=Rt p c w (some z) h
def Kr(p:aT)(c:aJ):ak4 [.obj .cM 0 (encC p c)]=some (.none,encC p (iJ p c)):=by
 simp! [iq,ak4,Pp,iJ,cm]
structure a9(p:aT)(c:aJ):Prop where
 zn:∀z∈p.bP,cz z.1/\cz z.2
 eB:∀k∈p.codes,cz k.c'/\cz k.fE/\∀r∈k.iY,cz r
 fQ:p.bP.length<=40
 mo:cz c.mode
 ca:∀z,c.e5=some z->cz z/\z∈p.bP.map (·.1)
 kK:c.mode="coming"->c.e5≠none
 ln:c.lines.map (·.1)=p.bP.map (·.1)
 lo:∀l∈c.lines,cz l.2
 us:c.used.map (·.1)=p.codes.map (·.c')
 dY:c.b4.Nodup/\∀z∈c.b4,z∈p.bP.map (·.1)
 al:c.b3.Nodup/\∀z∈c.b3,z∈p.bP.map (·.1)
def a9.ja{p:aT}{c:aJ}(h:a9 p c){z:Str}(ar:z∈p.bP.map (·.1)):cz z:=by
 obtain⟨x,hx,rfl⟩:=dK.mp ar;exact (h.zn x hx).1
def a9.mO{p:aT}{c:aJ}(h:a9 p c):∀z∈c.b4,cz z:=λz ar=>h.ja (h.dY.2 z ar)
def a9.IU{p:aT}{c:aJ}(h:a9 p c):∀z∈c.b3,cz z:=λz ar=>h.ja (h.al.2 z ar)
def Qx{α:Type}[BEq α][LawfulBEq α]{l m:List α}(h:l.Nodup)(aw:∀x∈l,x∈m):l.length<=m.length:=by
 induction l generalizing m with
|nil=>simp
|cons x l b7=>
  obtain⟨ah,ao⟩:=d0.mp h;have hx:=aw x e9;have:=b7 (m:=m.erase x) ao λy bN=>(List.mem_erase_of_ne (λe:y=x=>ah (e▸bN))).mpr (aw y (dT _ bN));have ay:=List.length_erase_of_mem hx;have:=List.length_pos_of_mem hx;simp only[g5];omega
def a9.EI{p:aT}{c:aJ}(h:a9 p c):c.b3.length<=40:=by
 have:=Qx h.al.1 h.al.2;have:=h.fQ;simp at *;omega
def a9.BB{p:aT}{c:aJ}(h:a9 p c):c.b4.length<=40:=by
 have:=Qx h.dY.1 h.dY.2;have:=h.fQ;simp at *;omega
def Df(p:aT)(c:aJ)(z:Str)(h:a9 p c)(ar:cz z)(aX:c.told.length<big):md [.obj .cM 0 (encC p c),.ab (.str z)]=some (.none,encC p (dJ p z c)):=by
 have ax:=h.EI;have og:da true (.str z) (.list (c.b3.map .str))=some (.bool (!decide (z∈c.b3))):=by rw[p1 true ar h.IU];rfl
 have ae:(iJ p c).b3=c.b3:=rfl;have e7:c.b3.length<16777216:=by omega
 by_cases hm:z∈c.b3
 ·simp! [iq,md,J8,Kr,ae,og,hm,dJ]
 ·have j1:({iJ p c with b3:=c.b3++[z]}:aJ).told.length<big:=aX;simp! [iq,md,J8,Kr,ae,og,hm,dJ,big,e7,q3 p _ "alarm" z j1]
noncomputable def kindOf(p:aT)(z:Str):Str:=((p.bP.find? λx=>decide (x.1=z)).map (·.2)).getD ""
noncomputable def codeOf(p:aT)(f:Str):Option e4:=p.codes.find? λk=>decide (k.c'=f)
theorem QC{z:Str}(ar:cz z)(s0:Option aO):∀(zs:List (Str×Str)) (t0:Option aO),(∀x∈zs,cz x.1)->z∈zs.map (·.1)->forL (bJ 2) (iff (a0 (af oEq (af aK (nm 2) (aa (.int 0))) (nm 1))) (cI (af aK (nm 2) (aa (.int 1)))) skip) (zs.map c_) [s0,some (.ab (.str z)),t0]=some (.e1 (.str (((zs.find? λx=>decide (x.1=z)).map (·.2)).getD "")))
| [],t0,_,h=>by simp at h
|x::zs,t0,aH,h=>by
  have e:=cR (aH x (by simp)) ar;by_cases hx:x.1=z
  ·simp! [hF,forL,c_,hx,cR ar ar]
  ·have h':z∈zs.map (·.1):=by
    rw[dv] at h;rcases cO.mp h with q|q
    ·exact absurd q.symm hx
    ·exact q
   have b7:=QC ar s0 zs (some (.ab (c_ x))) (λy bN=>aH y (dT _ bN)) h';simp[c_] at b7;simp! [hF,forL,c_,hx,e];simpa [d4,seq,iff,a0,i1,ei,eZ,jZ,fi,ofT,fo,af,bl,args,aa,nm,aA,cI,skip,asg,jR,hR,par,bQ,ew,hU,jm,aK,gh,f_,bJ,dq,gy,df,comp,iz] using b7
def Qa{p:aT}{z:Str}(aH:∀x∈p.bP,cz x.1/\cz x.2)(ar:z∈p.bP.map (·.1)):ui [cm p,.str z]=some (.str (kindOf p z)):=by
 obtain⟨x,hx,rfl⟩:=dK.mp ar;have:=QC (aH x hx).1 (some (.ab (cm p))) p.bP none (λy bN=>(aH y bN).1) ar;simp! [hF,ui,QU,gj,cm] at this ⊢;simp[this,kindOf]
noncomputable def uX:Option e4->T
|none=>.none
|some k=>dI k
theorem QM{f:Str}(hf:cz f)(s0:Option aO):∀(bf:List e4) (t0:Option aO),(∀k∈bf,cz k.c')->forL (bJ 2) (iff (a0 (af oEq (af aK (nm 2) (aa (.int 0))) (nm 1))) (cI (nm 2)) skip) (bf.map dI) [s0,some (.ab (.str f)),t0] =
   match bf.find? λk=>decide (k.c'=f) with
   |some k=>some (.e1 (dI k))
   |none=>some (.bY [s0,some (.ab (.str f)),(bf.getLast?.map λk=>aO.ab (dI k)).elim t0 some])
| [],t0,_=>by simp[forL]
|k::bf,t0,aH=>by
  have e:=cR (aH k (by simp)) hf;by_cases hx:k.c'=f
  ·simp! [hF,forL,dI,hx,cR hf hf]
  ·have b7:=QM hf s0 bf (some (.ab (dI k))) (λy bN=>aH y (dT _ bN));simp only[dv,forL];simp! [hF,dI,hx,e] at b7 ⊢;rw[b7];cases bf with
   |nil=>simp
   |cons kl bf=>simp[List.getLast?_cons]
def afW{p:aT}{f:Str}(aH:∀k∈p.codes,cz k.c')(hf:cz f):y5 [cm p,.str f]=some (uX (codeOf p f)):=by
 have:=QM hf (some (.ab (cm p))) p.codes none aH;simp! [hF,y5,QV,gj,cm] at this ⊢;rw[this];unfold codeOf;cases e:p.codes.find? λk=>decide (k.c'=f) with
|none=>simp[uX]
|some k=>simp[uX]
noncomputable def dB(c:aJ)(z:Str):Str:=(c.lines.lookup z).getD ""
noncomputable def fX(l:List (Str×Str))(z w:Str):List (Str×Str):=l.map λp=>if p.1=z then (z,w) else p
noncomputable def q9(c:aJ)(f:Str):Int:=(c.used.lookup f).getD 0
noncomputable def h4(l:List (Str×Int))(f:Str):List (Str×Int):=l.map λp=>if p.1=f then (f,p.2+1) else p
theorem SN{z:Str}:∀{l:List (Str×Str)},z∈l.map (·.1)->getD (iN l) (.inr z)=some (.str ((l.lookup z).getD ""))
  | [],h=>by simp at h
  | (k,v)::l,h=>by
    by_cases e:k=z
    · subst e
      simp[getD,iN,i4]
    · have h':z∈l.map (·.1):=by
        rw[dv] at h;rcases cO.mp h with q|q
        · exact absurd q.symm e
        · exact q
      have b7:=SN h';have ne:(z==k)=false:=beq_eq_false_iff_ne.mpr (Ne.symm e);simp only[getD,iN,dv,j4] at b7 ⊢;rw[decide_eq_false (λq=>e (Sum.inr.inj q))];simp only[i4,ne];exact b7
theorem LP{z:Str}:∀{l:List (Str×Int)},z∈l.map (·.1)->getD (iM l) (.inr z)=some (.int ((l.lookup z).getD 0))
  | [],h=>by simp at h
  | (k,v)::l,h=>by
    by_cases e:k=z
    · subst e
      simp[getD,iM,i4]
    · have h':z∈l.map (·.1):=by
        rw[dv] at h;rcases cO.mp h with q|q
        · exact absurd q.symm e
        · exact q
      have b7:=LP h';have ne:(z==k)=false:=beq_eq_false_iff_ne.mpr (Ne.symm e);simp only[getD,iM,dv,j4] at b7 ⊢;rw[decide_eq_false (λq=>e (Sum.inr.inj q))];simp only[i4,ne];exact b7
def akm{z:Str}{l:List (Str×Str)}(h:z∈l.map (·.1)):(iN l).any (λp=>decide (p.1=(Sum.inr z:D.Key)))=true:=by
 obtain⟨x,hx,rfl⟩:=dK.mp h;rw[List.any_eq_true];exact⟨(.inr x.1,.str x.2),dK.mpr ⟨x,hx,rfl⟩,by simp⟩
def akn{z:Str}{l:List (Str×Int)}(h:z∈l.map (·.1)):(iM l).any (λp=>decide (p.1=(Sum.inr z:D.Key)))=true:=by
 obtain⟨x,hx,rfl⟩:=dK.mp h;rw[List.any_eq_true];exact⟨(.inr x.1,.int x.2),dK.mpr ⟨x,hx,rfl⟩,by simp⟩
def aiU{z w:Str}{l:List (Str×Str)}(h:z∈l.map (·.1)):putD (iN l) (.inr z) (.str w)=iN (fX l z w):=by
 unfold putD;rw[akm h,if_pos rfl];simp only[iN,fX,nJ];refine List.map_congr_left λx _=>?_;by_cases e:x.1=z
 ·simp[e]
 ·have:¬(Sum.inr x.1:D.Key)=Sum.inr z:=λq=>e (Sum.inr.inj q);simp[e,this]
def aiV{z:Str}{l:List (Str×Int)}(h:z∈l.map (·.1))(aW:(l.map (·.1)).Nodup):putD (iM l) (.inr z) (.int ((l.lookup z).getD 0+1))=iM (h4 l z):=by
 unfold putD;rw[akn h,if_pos rfl];simp only[iM,h4,nJ];refine List.map_congr_left λx hx=>?_;by_cases e:x.1=z
 ·have:∀{l:List (Str×Int)},x∈l->(l.map (·.1)).Nodup->l.lookup x.1=some x.2:=by
   intro l
   induction l with
   |nil=>intro h;simp at h
   |cons y l b7=>
    intro h aW;rcases cO.mp h with rfl|h
    ·simp[i4]
    ·rw[dv,d0] at aW;have ne:(x.1==y.1)=false:=beq_eq_false_iff_ne.mpr λq=>aW.1 (q▸dK.mpr ⟨x,h,rfl⟩);simp only[i4,ne];exact b7 h aW.2
  have ay:=this hx aW;subst e;simp[ay]
 ·have:¬(Sum.inr x.1:D.Key)=Sum.inr z:=λq=>e (Sum.inr.inj q);simp[e,this]
theorem sr{α:Type}{cc:fg}{fb:bI}{caps:Ev}(enc:α->T)(q:α->Bool)(f:α->T):∀(ts:List α) (s0:Option aO),(∀a∈ts,cc (some (.ab (enc a))::caps)=some (q a)/\(q a=true->fb (some (.ab (enc a))::caps)=some (f a)))->gf (bJ 0) cc fb (ts.map enc) (s0::caps)=some ((ts.filter q).map f)
| [],_,_=>rfl
|a::ts,s0,h=>by
  obtain⟨ah,ao⟩:=h a (by simp);have b7:=sr enc q f ts (some (.ab (enc a))) λb ae=>h b (dT _ ae);simp only[dv,gf,bJ,i3,dt,ah];cases bS:q a with
  |false=>simp[b7,bS]
  |true=>simp[b7,bS,ao bS]
noncomputable def bare(p:aT)(kinds:List Str)(c:aJ):List Str:=((p.bP.filter λz=>decide (z.2∈kinds)).map (·.1)).filter λz=>decide (dB c z≠"shut") && !decide (z∈c.b4)
def a5(x:Str)(h:(ib x).canLay0=true:=by decide +kernel):cz x:=h
theorem lookup_mem{α:Type}{z:Str}:∀{l:List (Str×α)} {v:α},l.lookup z=some v->(z,v)∈l
  | [],v,h=>by cases h
  | (k,x)::l,v,h=>by
    rw[nH] at h;split at h
    next q=>
      cases h
      have:z=k:=by simpa using q
      subst this;simp
    next=>exact dT _ (lookup_mem h)
def a9.rQ{p:aT}{c:aJ}(h:a9 p c)(z:Str):cz (dB c z):=by
 unfold dB;cases e:c.lines.lookup z with
|none=>exact a5 ""
|some v=>exact h.lo _ (lookup_mem e)
def a9.Ob{p:aT}{c:aJ}(h:a9 p c){z:Str}(ar:z∈p.bP.map (·.1)):getD (iN c.lines) (.inr z)=some (.str (dB c z)):=SN (by rw[h.ln];exact ar)
def RZ(p:aT)(c:aJ)(bf:List Str)(m:hA)(h:a9 p c)(aI:∀k∈bf,cz k):t4 [.obj m 0 (encC p c),.ab (.tuple (i5 bf))]=some (.list ((bare p bf c).map .str)):=by
 have rJ:=h.fQ;have c8:=sr (cc:=a0 (af (da false) (af aK (nm 0) (aa (.int 1))) (nm 1))) (fb:=af aK (nm 0) (aa (.int 0))) (caps:=[some (.ab (.tuple (i5 bf)))]) c_ (λz=>decide (z.2∈bf)) (λz=>.str z.1) p.bP none λz ar=>by
  have:=oQ false (h.zn z ar).2 aI;simp at this;constructor
  ·simp! [hF,c_,i5,this]
  ·intro _;simp! [hF,c_]
 have cv:=sr (cc:=ei (a0 (af eE (lX 0 1 4 (nm 0)) (aa (.str "shut")))) (a0 (af (da true) (nm 0) (fld 0 1 5)))) (fb:=aA 0) (caps:=[some (.obj m 0 (encC p c))]) ib (λz=>decide (dB c z≠"shut") && !decide (z∈c.b4)) ib ((p.bP.filter λz=>decide (z.2∈bf)).map (·.1)) none λz ar=>by
  have qB:z∈p.bP.map (·.1):=by
   obtain⟨x,hx,rfl⟩:=dK.mp ar;exact dK.mpr ⟨x,(List.mem_filter.mp hx).1,rfl⟩
  have aR:=h.Ob qB;have a7:=kB (h.rQ z) (a5 "shut");have gi:=p1 true (h.ja qB) h.mO;simp at gi;constructor
  ·by_cases aw:dB c z="shut"
   ·simp! [iq,keyOf,aR,a7,aw,kB (a5 "shut") (a5 "shut")]
   ·simp! [iq,keyOf,aR,a7,gi,aw]
  ·intro _;simp! [hF]
 have bT:(p.bP.map c_).length<=16777216:=by simp;omega
 have bR:(((p.bP.filter λz=>decide (z.2∈bf)).map λz=>ib z.1)).length<=16777216:=by
  rw[g6];have:=oI (λz:Str×Str=>decide (z.2∈bf)) p.bP;omega
 simp only[nJ,kT] at cv;simp only[t4,Pj,jc,j7];simp! [iq,cm] at c8 cv ⊢;have td:p.bP.length<=big:=by unfold big;omega
 have Ge:(p.bP.filter λz=>decide (z.2∈bf)).length<=big:=by
  have:=oI (λz:Str×Str=>decide (z.2∈bf)) p.bP;omega
 rw[if_pos td,c8];simp only[kx,dt,pM,qW,Function.comp_apply,g6,Ge,if_true,Option.join_some];rw[cv];simp[bare]
noncomputable def iL(p:aT)(z k:Str)(c:aJ):aJ:=if k≠"way"\/p.gG<=0 then dJ p z c else tell "coming" (some z) {c with mode:="coming",left:=p.gG,e5:=some z}
noncomputable def i9(p:aT)(z w:Str)(c:aJ):aJ:=
 if kindOf p z="day" then dJ p z c
 else if c.mode="off" then (if w="cut" then tell "fault" (some z) c else c)
 else if w="cut"\/kindOf p z="once" then dJ p z c
 else if c.mode="on" then iL p z (kindOf p z) c else c
noncomputable def line(p:aT)(z w:Str)(c:aJ):aJ:=
 if w=dB c z then c
 else if w="shut" then (if dB c z="cut" then tell "mended" (some z) {c with lines:=fX c.lines z w} else {c with lines:=fX c.lines z w})
 else if z∈c.b4 then {c with lines:=fX c.lines z w} else i9 p z w {c with lines:=fX c.lines z w}
def afV(p:aT)(c:aJ)(z k:Str)(h:a9 p c)(ar:cz z)(aI:cz k)(aX:c.told.length<big):t5 [.obj .cM 0 (encC p c),.ab (.str z),.ab (.str k)]=some (.none,encC p (iL p z k c)):=by
 have e:=kB aI (a5 "way");have dR:=Df p c z h ar aX;by_cases ah:k="way"
 ·by_cases ao:p.gG<=0
  ·simp! [jA,t5,B8,cm,e,ah,ao,dR,iL];simp! [oA,kB (a5 "way") (a5 "way"),dR,ao]
  ·have bB:=q3 p {c with mode:="coming",left:=p.gG,e5:=some z} "coming" z aX;simp! [jA,t5,B8,cm,ah,ao,iL];simp! [jA,kB (a5 "way") (a5 "way"),bB,ao,cm]
 ·simp! [jA,t5,B8,cm,e,ah,dR,iL]
def afT(p:aT)(c:aJ)(z w:Str)(h:a9 p c)(ar:z∈p.bP.map (·.1))(hw:cz w)(aX:c.told.length<big):yE [.obj .cM 0 (encC p c),.ab (.str z),.ab (.str w)]=some (.none,encC p (i9 p z w c)):=by
 have f5:=Qa h.zn ar;have tg:cz (kindOf p z):=by
  unfold kindOf;cases e:p.bP.find? λx=>decide (x.1=z) with
  |none=>exact a5 ""
  |some x=>exact (h.zn x (List.mem_of_find?_eq_some e)).2
 have dR:=Df p c z h (h.ja ar) aX;have bB:=q3 p c "fault" z aX;have ha:=afV p c z (kindOf p z) h (h.ja ar) tg aX;have aP:=cR tg (a5 "day");have ba:=cR h.mo (a5 "off");have cU:=cR hw (a5 "cut");have gM:=cR tg (a5 "once");have nz:=cR h.mo (a5 "on");simp only[yE,Po,i9];by_cases ah:kindOf p z="day"
 ·simp! [h8,f5,aP,ah,dR];simp! [oA,cR (a5 "day") (a5 "day"),dR]
 ·by_cases ao:c.mode="off"
  ·by_cases bG:w="cut"
   ·simp! [h8,f5,aP,ah,ba,ao,cU,bG,bB,cR (a5 "off") (a5 "off"),cR (a5 "cut") (a5 "cut")]
   ·simp! [h8,f5,aP,ah,ba,ao,cU,bG,bB,cR (a5 "off") (a5 "off")]
  ·by_cases bG:w="cut"
   ·simp! [h8,f5,aP,ah,ba,ao,cU,bG,dR,cR (a5 "cut") (a5 "cut")]
   ·by_cases cT:kindOf p z="once"
    ·simp! [h8,f5,aP,ah,ba,ao,cU,bG,gM,cT,dR,cR (a5 "once") (a5 "once"),cR (a5 "once") (a5 "day")]
    ·by_cases f9:c.mode="on"
     ·simp! [h8,f5,aP,ah,ba,ao,cU,bG,gM,cT,nz,f9,ha,cR (a5 "on") (a5 "on"),cR (a5 "on") (a5 "off")]
     ·simp! [h8,f5,aP,ah,ba,ao,cU,bG,gM,cT,nz,f9,ha]
def agb(l:List (Str×Str))(z w:Str):(fX l z w).map (·.1)=l.map (·.1):=by
 unfold fX;rw[nJ];refine List.map_congr_left λx _=>?_;by_cases e:x.1=z <;> simp[e]
def agO(l:List (Str×Int))(z:Str):(h4 l z).map (·.1)=l.map (·.1):=by
 unfold h4;rw[nJ];refine List.map_congr_left λx _=>?_;by_cases e:x.1=z <;> simp[e]
def a9.Jh{p:aT}{c:aJ}(h:a9 p c)(z:Str){w:Str}(hw:cz w):a9 p {c with lines:=fX c.lines z w}:=
 ⟨h.zn,h.eB,h.fQ,h.mo,h.ca,h.kK,(agb _ _ _).trans h.ln,λl ay=>by
  obtain⟨x,hx,rfl⟩:=dK.mp ay;by_cases e:x.1=z
  ·rw[if_pos e];exact hw
  ·rw[if_neg e];exact h.lo x hx,h.us,h.dY,h.al⟩
theorem a9.tell{p:aT}{c:aJ}(h:a9 p c)(w:Str)(n:Option Str):a9 p (bq.tell w n c):=⟨h.zn,h.eB,h.fQ,h.mo,h.ca,h.kK,h.ln,h.lo,h.us,h.dY,h.al⟩
def a9.loud{p:aT}{c:aJ}(h:a9 p c):a9 p (iJ p c):=⟨h.zn,h.eB,h.fQ,h.mo,h.ca,h.kK,h.ln,h.lo,h.us,h.dY,h.al⟩
theorem a9.dJ{p:aT}{c:aJ}(h:a9 p c){z:Str}(ar:z∈p.bP.map (·.1)):a9 p (bq.dJ p z c):=by
 unfold bq.dJ;split
 ·exact h.loud
 next hm=>
  refine a9.tell (c:={iJ p c with b3:=c.b3++[z]}) ⟨h.zn,h.eB,h.fQ,h.mo,h.ca,h.kK,h.ln,h.lo,h.us,h.dY,?_,?_⟩ _ _
  ·show (c.b3++[z]).Nodup
   rw[pL];exact⟨h.al.1,by simp,λa ax b ae e=>hm (by simp at ae;subst ae;exact e▸ax)⟩
  ·intro y bN;rcases j2.mp bN with q|q
   ·exact h.al.2 y q
   ·simp at q;exact q▸ar
def y1(p:aT)(z:Str)(c:aJ):(dJ p z c).told.length<=c.told.length+1:=by
 unfold dJ tell iJ;split <;> simp
def aih(p:aT)(c:aJ)(z w:Str)(h:a9 p c)(ar:z∈p.bP.map (·.1))(hw:cz w)(aX:c.told.length<big):yL [.obj .cM 0 (encC p c),.ab (.str z),.ab (.str w)]=some (.none,encC p (line p z w c)):=by
 have aR:=h.Ob ar;have rJ:z∈c.lines.map (·.1):=by rw[h.ln];exact ar
 have a7:=aiU (w:=w) rJ;have aP:=cR hw (h.rQ z);have ba:=cR hw (a5 "shut");have cU:=cR (h.rQ z) (a5 "cut");have gM:=p1 true (h.ja ar) h.mO;simp at gM;have hlen:(iN c.lines).length<16777216:=by
  have:=congrArg List.length h.ln;have:=h.fQ;simp[iN] at *;omega
 have hd:=afT p _ z w (h.Jh z hw) ar hw aX;have bB:=q3 p {c with lines:=fX c.lines z w} "mended" z aX;simp only[yL,PE,line];by_cases ah:w=dB c z
 ·simp! [h8,keyOf,aR,aP,ah,cR (h.rQ z) (h.rQ z)]
 ·by_cases ao:w="shut"
  ·subst ao;by_cases bG:dB c z="cut"
   ·simp! [h8,big,keyOf,aR,a7,aP,ah,ba,cU,bG,hlen,bB,cR (a5 "cut") (a5 "cut"),cR (a5 "shut") (a5 "shut"),cR (a5 "shut") (a5 "cut")]
   ·simp! [h8,big,keyOf,aR,a7,aP,ah,ba,cU,bG,hlen,cR (a5 "shut") (a5 "shut")]
  ·by_cases cT:z∈c.b4
   ·simp! [h8,big,keyOf,aR,a7,aP,ah,ba,ao,gM,cT,hlen]
   ·simp! [h8,big,keyOf,aR,a7,aP,ah,ba,ao,gM,cT,hlen,hd]
noncomputable def less(a n:Int):Int:=if 0 > a - n then 0 else a - n
noncomputable def e_(n:Int)(c:aJ):aJ:={c with past:=c.past+n,locked:=less c.locked n,c2:=less c.c2 n,left:=less c.left n}
def afi(a n:Int):ud [.int a,.int n]=some (.int (less a n)):=by
 simp! [Jj,ud,Qi,less]
def J_(p:aT)(c:aJ)(n:Int):t2 [.obj .cM 0 (encC p c),.ab (.int n)]=some (.none,encC p (e_ n c)):=by
 simp! [iq,t2,Ph,afi,e_]
noncomputable def b3(p:aT)(zs:List Str)(c:aJ):aJ:=zs.foldl (λc z=>dJ p z c) c
noncomputable def hb(p:aT)(c:aJ):aJ:=b3 p (bare p ["inner","way"] (tell "on" none {c with mode:="on",left:=0})) (tell "on" none {c with mode:="on",left:=0})
noncomputable def mB(p:aT)(c:aJ):aJ:=dJ p (c.e5.getD "") {c with mode:="on",e5:=none}
noncomputable def fs(p:aT)(c:aJ):aJ:=if c.mode="leaving" then hb p c else mB p c
noncomputable def cW(p:aT)(n:Int)(c:aJ):aJ:=
 if n<1 then c else if (c.mode="leaving"\/c.mode="coming")/\c.left<=n then e_ (n - c.left) (fs p (e_ c.left c)) else e_ n c
theorem Qk(p:aT):∀(zs:List Str) (c:aJ) (s1:Option aO),a9 p c->(∀z∈zs,z∈p.bP.map (·.1))->c.told.length+zs.length<big->∃rT,forL (bJ 1) (ct (d1 0 md 0 [(aA 1)])) (zs.map .str) [some (.obj .cM 0 (encC p c)),s1]=some (.bY [some (.obj .cM 0 (encC p (b3 p zs c))),rT])
| [],c,s1,_,_,_=>⟨s1,by simp[forL,b3]⟩
|z::zs,c,s1,h,ar,aX=>by
  have N2:=ar z (by simp);have dR:=Df p c z h (h.ja N2) (by simp at aX;omega);have:=y1 p z c;obtain⟨rT,b7⟩:=Qk p zs (dJ p z c) (some (.ab (.str z))) (h.dJ N2) (λy bN=>ar y (dT _ bN)) (by simp at aX;omega);refine⟨rT,?_⟩;rw[dv,forL];simp! [oA,dR];simpa [d4,seq,iff,a0,i1,ei,eZ,jZ,fi,ofT,fo,af,bl,args,aa,nm,aA,cI,skip,asg,jR,hR,par,bQ,ew,hU,jm,aK,gh,f_,bJ,dq,gy,df,comp,iz,b3] using b7
def C'{p:aT}{bf:List Str}{c:aJ}{z:Str}(h:z∈bare p bf c):z∈p.bP.map (·.1):=by
 unfold bare at h;obtain⟨x,hx,rfl⟩:=dK.mp (List.mem_filter.mp h).1;exact dK.mpr ⟨x,(List.mem_filter.mp hx).1,rfl⟩
def Ro(p:aT)(bf:List Str)(c:aJ):(bare p bf c).length<=p.bP.length:=by
 unfold bare;have ah:=oI (λz=>decide (dB c z≠"shut") && !decide (z∈c.b4)) ((p.bP.filter λz=>decide (z.2∈bf)).map (·.1));have ao:=oI (λz:Str×Str=>decide (z.2∈bf)) p.bP;rw[g6] at ah;omega
theorem a9.on{p:aT}{c:aJ}(h:a9 p c)(x:Int):a9 p {c with mode:="on",left:=x}:=⟨h.zn,h.eB,h.fQ,a5 "on",h.ca,λe=>absurd e ua,h.ln,h.lo,h.us,h.dY,h.al⟩
def Px(p:aT)(c:aJ)(h:a9 p c)(aX:c.told.length+50<big):tY [.obj .cM 0 (encC p c)]=some (.none,encC p (hb p c)):=by
 have ho:=(h.on 0).tell "on" none;have bB:=CM p {c with mode:="on",left:=0} "on" (by show c.told.length<big;omega);have dk:=RZ p (tell "on" none {c with mode:="on",left:=0}) ["inner","way"] .fM ho (by
  intro k aI;simp at aI;rcases aI with rfl|rfl
  ·exact a5 "inner"
  ·exact a5 "way")
 have ay:=Ro p ["inner","way"] (tell "on" none {c with mode:="on",left:=0});have ar:=h.fQ;obtain⟨rT,ot⟩:=Qk p (bare p ["inner","way"] (tell "on" none {c with mode:="on",left:=0})) (tell "on" none {c with mode:="on",left:=0}) none ho (λz ar=>C' ar) (by
  have:(tell "on" none {c with mode:="on",left:=0}:aJ).told.length=c.told.length+1:=by simp[tell]
  omega)
 simp only[i5,dv,j3] at dk;simp! [iq,tY,Pf,bB,dk,gj];rw[ot];simp! [adb,hb]
def a9.IV{p:aT}{c:aJ}(h:a9 p c):a9 p {c with mode:="on",e5:=none}:=⟨h.zn,h.eB,h.fQ,a5 "on",λz e=>(nomatch e),λe=>absurd e ua,h.ln,h.lo,h.us,h.dY,h.al⟩
def aeN(p:aT)(c:aJ)(h:a9 p c)(aG:c.e5≠none)(aX:c.told.length<big):yx [.obj .cM 0 (encC p c)]=some (.none,encC p (mB p c)):=by
 obtain⟨z,ar⟩:=Option.ne_none_iff_exists'.mp aG;have dR:=Df p {c with mode:="on",e5:=none} z h.IV (h.ca z ar).1 aX;simp! [iq,yx,Pg,ar,dm,dR,mB]
def a9.cd{p:aT}{c:aJ}(h:a9 p c)(n:Int):a9 p (e_ n c):=⟨h.zn,h.eB,h.fQ,h.mo,h.ca,h.kK,h.ln,h.lo,h.us,h.dY,h.al⟩
def afp(p:aT)(c:aJ)(h:a9 p c)(hm:c.mode="leaving"\/c.mode="coming")(aX:c.told.length+50<big):vA [.obj .cM 0 (encC p c)]=some (.none,encC p (fs p c)):=by
 have c1:=Px p c h aX;have q:=cR h.mo (a5 "leaving");rcases hm with hm|hm
 ·simp! [h8,vA,JZ,hm,c1,fs,cR (a5 "leaving") (a5 "leaving")]
 ·have en:=aeN p c h (h.kK hm) (by omega);simp! [h8,vA,JZ,hm,en,fs,cR (a5 "coming") (a5 "leaving")]
def agR(p:aT)(c:aJ)(n:Int)(h:a9 p c)(aX:c.told.length+50<big):r6 [.obj .cM 0 (encC p c),.ab (.int n)]=some (.none,encC p (cW p n c)):=by
 have q:da false (.str c.mode) (.tuple [.str "leaving",.str "coming"])=some (.bool (decide (c.mode="leaving"\/c.mode="coming"))):=by
  have:=oQ false (n:=c.mode) (ns:=["leaving","coming"]) h.mo (by
   intro k aI;simp at aI;rcases aI with rfl|rfl
   ·exact a5 "leaving"
   ·exact a5 "coming")
  simpa using this
 have c1:=J_ p c c.left;have fp:=J_ p c n;by_cases ah:n<1
 ·simp! [jA,r6,yJ,ah,cW]
 ·by_cases ao:c.mode="leaving"\/c.mode="coming"
  ·by_cases bG:c.left<=n
   ·have en:=afp p (e_ c.left c) (h.cd _) ao aX;have lV:=J_ p (fs p (e_ c.left c)) (n - c.left);rw[decide_eq_true ao] at q;simp only[cW,if_neg ah,if_pos (And.intro ao bG)];simp! [jA,r6,yJ,ah,q,bG,c1,en,lV]
   ·rw[decide_eq_true ao] at q;simp only[cW,if_neg ah,if_neg (λz:(c.mode="leaving"\/c.mode="coming")/\c.left<=n=>bG z.2)];simp! [jA,r6,yJ,ah,q,bG,fp]
  ·rw[decide_eq_false ao] at q;simp only[cW,if_neg ah,if_neg (λz:(c.mode="leaving"\/c.mode="coming")/\c.left<=n=>ao z.1)];simp! [jA,r6,yJ,ah,q,fp]
noncomputable def lJ(k:e4)(c:aJ):Bool:=decide (k.uses≠0) && decide (k.uses<=q9 c k.c')
noncomputable def lB(c:aJ):aJ:={tell "wrong" none c with tries:=c.tries+1}
noncomputable def gO(p:aT)(c:aJ):aJ:=if 3<=c.tries+1 then tell "attack" none (iJ p {lB c with tries:=0,locked:=90}) else lB c
noncomputable def ie(p:aT)(d:Str)(z:Option Str)(c:aJ):Bool:=
 if d="unset" then false else if c.mode≠"off" then true
 else if d="shunt" then decide (kindOf p (z.getD "")="day") || decide (z.getD ""∈c.b4)
 else decide (d="free") && !decide (z.getD ""∈c.b4)
noncomputable def mx(p:aT)(k:e4)(d:Str)(z:Option Str)(c:aJ):Option (Str×Str):=
 if (if d="free" then ("shunt":Str) else d)∉k.iY then some ("denied",k.fE)
 else if ie p d z c then some ("no",k.fE)
 else if d="set"/\bare p ["day","once"] c≠[] then some ("open",(bare p ["day","once"] c).headD "") else none
noncomputable def jo(p:aT)(fE:Str)(c:aJ):aJ:=
 let c8:=tell "set" (some fE) {c with b3:=[],c2:=0,mode:="leaving",left:=p.leave}
 if p.leave<=0 then hb p c8 else c8
noncomputable def lU(fE:Str)(c:aJ):aJ:=tell "unset" (some fE) {c with mode:="off",left:=0,c2:=0,e5:=none,b4:=[]}
noncomputable def d9(p:aT)(fE d:Str)(z:Option Str)(c:aJ):aJ:=
 if d="set" then jo p fE c else if d="unset" then lU fE c
 else if d="shunt" then tell "shunt" z {c with b4:=eN (c.b4++[z.getD ""])}
 else tell "free" z {c with b4:=c.b4.erase (z.getD "")}
noncomputable def takeRight(p:aT)(k:e4)(d:Str)(z:Option Str)(c:aJ):aJ:=match mx p k d z c with
|none=>d9 p k.fE d z {c with used:=h4 c.used k.c'}
|some (w,n)=>tell w (some n) c
noncomputable def code(p:aT)(f d:Str)(z:Option Str)(c:aJ):aJ:=
 if 0<c.locked then tell "locked" none c else match codeOf p f with
  |none=>gO p c
  |some k=>if lJ k c then gO p c else takeRight p k d z {c with tries:=0}
def afx(p:aT)(c:aJ)(k:e4)(h:a9 p c)(aI:k∈p.codes)(m:hA):vy [.obj m 0 (encC p c),.ab (dI k)]=some (.bool (lJ k c)):=by
 have e:getD (iM c.used) (.inr k.c')=some (.int (q9 c k.c')):=LP (by rw[h.us];exact dK.mpr ⟨k,aI,rfl⟩);have q:eE (.int k.uses) (.int 0)=some (.bool (!decide (k.uses=0))):=by
  unfold eE;rw[sg,sg];by_cases e:k.uses=0 <;> simp[hX,e]
 by_cases ah:k.uses=0
 ·simp! [jA,vy,JW,dI,q,ah,iI,lJ];simp[eE,sg,hX]
 ·simp! [jA,vy,JW,dI,q,ah,iI,lJ,keyOf,e]
def aeF(p:aT)(c:aJ)(aX:c.told.length+2<big):vw [.obj .cM 0 (encC p c)]=some (.none,encC p (gO p c)):=by
 have c1:=CM p c "wrong" (by omega);have en:=Kr p {lB c with tries:=0,locked:=90};have fp:=CM p (iJ p {lB c with tries:=0,locked:=90}) "attack" (by simp[iJ,lB,tell];omega);have w:({mode:=(tell "wrong" none c).mode,left:=(tell "wrong" none c).left,e5:=(tell "wrong" none c).e5,lines:=(tell "wrong" none c).lines,b4:=(tell "wrong" none c).b4,c2:=(tell "wrong" none c).c2,b3:=(tell "wrong" none c).b3,tries:=c.tries+1,locked:=(tell "wrong" none c).locked,used:=(tell "wrong" none c).used,past:=(tell "wrong" none c).past,told:=(tell "wrong" none c).told}:aJ)=lB c:=rfl;have oE:(tell "wrong" none c).tries=c.tries:=rfl;by_cases bG:3<=c.tries+1
 ·simp! [jA,vw,JU,c1,oE,bG,gO];simp[lB] at en fp ⊢;simp[en,fp]
 ·simp! [jA,vw,JU,c1,oE,bG,gO,lB]
end bq
section
namespace bq
open D PySem
def a9.Ov{p:aT}{c:aJ}(h:a9 p c)(z:Str):cz (kindOf p z):=by
 unfold kindOf;cases e:p.bP.find? λx=>decide (x.1=z) with
|none=>exact a5 ""
|some x=>exact (h.zn x (List.mem_of_find?_eq_some e)).2
def m6:(2<=big)=True:=by simp[big]
def Q3:(10<=big)=True:=by simp[big]
noncomputable def lr(p:aT)(d:Str)(z:Option Str):Prop:=(d="shunt"\/d="free")->∃x,z=some x/\x∈p.bP.map (·.1)
def aeC(p:aT)(c:aJ)(d:Str)(z:Option Str)(m:hA)(h:a9 p c)(hd:cz d)(ar:lr p d z):pR [.obj m 0 (encC p c),.ab (.str d),.ab (dm z)]=some (.bool (ie p d z c)):=by
 have aP:=cR hd (a5 "unset");have ba:=kB h.mo (a5 "off");have cU:=cR hd (a5 "shunt");have gM:=cR hd (a5 "free");by_cases ah:d="unset"
 ·simp! [iq,pR,tZ,aP,ah,ie];simp[cR (a5 "unset") (a5 "unset")]
 ·by_cases ao:c.mode="off"
  ·by_cases bG:d="shunt"
   ·obtain⟨x,rfl,hx⟩:=ar (.inl bG);subst bG;have f5:=Qa h.zn hx;have nz:=cR (h.Ov x) (a5 "day");have pz:=p1 false (h.ja hx) h.mO;simp at pz;by_cases cT:kindOf p x="day"
    ·simp! [h8,pR,tZ,aP,ah,ao,kB (a5 "off") (a5 "off"),cU,jb,dm,f5,nz,pz,cT,ie];simp[cR (a5 "day") (a5 "day")]
    ·simp! [h8,pR,tZ,aP,ah,ao,kB (a5 "off") (a5 "off"),cU,jb,dm,f5,nz,pz,cT,ie]
   ·by_cases cT:d="free"
    ·obtain⟨x,rfl,hx⟩:=ar (.inr cT);subst cT;have pz:=p1 true (h.ja hx) h.mO;simp at pz;simp! [h8,pR,tZ,aP,ao,kB (a5 "off") (a5 "off"),cU,gM,iI,dm,pz,ie]
    ·simp! [h8,pR,tZ,aP,ah,ao,kB (a5 "off") (a5 "off"),cU,bG,gM,cT,iI,ie]
  ·simp! [iq,pR,tZ,aP,ah,ba,ao,ie]
noncomputable def rC:Option (Str×Str)->T
|none=>.none
|some (w,n)=>.tuple [.str w,.str n]
def aeg(p:aT)(c:aJ)(k:e4)(d:Str)(z:Option Str)(m:hA)(h:a9 p c)(aI:k∈p.codes)(hd:cz d)(ar:lr p d z):yv [.obj m 0 (encC p c),.ab (dI k),.ab (.str d),.ab (dm z)]=some (rC (mx p k d z c)):=by
 have aP:=cR hd (a5 "free");have ba:=cR hd (a5 "set");have eX:=aeC p c d z .fM h hd ar;have dk:=RZ p c ["day","once"] .fM h (by
  intro k aI;simp at aI;rcases aI with rfl|rfl
  ·exact a5 "day"
  ·exact a5 "once")
 simp only[i5,dv,j3] at dk;have cU:=oQ true (n:=if d="free" then ("shunt":Str) else d) (ns:=k.iY) (by
  split
  ·exact a5 "shunt"
  ·exact hd) (h.eB k aI).2.2
 simp at cU;have qr:(nv (a0 (af oEq (nm 2) (aa (.str "free")))) (aa (.str "shunt")) (aA 2)) [some (.obj m 0 (encC p c)),some (.ab (dI k)),some (.ab (.str d)),some (.ab (dm z)),none,none]=some (.str (if d="free" then ("shunt":Str) else d)):=by
  by_cases h0:d="free"
  ·simp! [oA,aP,h0,cR (a5 "free") (a5 "free")]
  ·simp! [oA,aP,h0]
 simp only[yv,Pa,jc,j7,seq,asg,dv,j3,g5,qX,dZ,vr,tV,qr,kx,dt,je,i3];generalize av:(if d="free" then ("shunt":Str) else d)=r at cU ⊢;unfold mx;rw[av];by_cases ah:r∈k.iY
 ·by_cases ao:ie p d z c=true
  ·simp! [iq,dI,m6,cU,ah,eX,ao,rC]
  ·simp at ao;by_cases bG:d="set"
   ·subst bG;cases e:bare p ["day","once"] c with
    |nil=>
     rw[e] at dk;simp! [iq,dI,m6,cU,ah,eX,ao,dk,ba,rC]
    |cons b bs=>
     rw[e] at dk;simp! [iq,dI,m6,cU,ah,eX,ao,dk,ba,rC]
   ·simp! [iq,dI,m6,cU,ah,eX,ao,dk,ba,bG,rC]
 ·simp! [iq,dI,m6,cU,ah,rC]
def a9.yb{p:aT}{c:aJ}(h:a9 p c)(x:Int):a9 p {c with b3:=[],c2:=0,mode:="leaving",left:=x}:=⟨h.zn,h.eB,h.fQ,a5 "leaving",h.ca,λe=>absurd e yC,h.ln,h.lo,h.us,h.dY,by simp⟩
def agH(p:aT)(c:aJ)(w:Str)(h:a9 p c)(aX:c.told.length+60<big):vB [.obj .cM 0 (encC p c),.ab (.str w)]=some (.none,encC p (jo p w c)):=by
 have c1:=q3 p {c with b3:=[],c2:=0,mode:="leaving",left:=p.leave} "set" w (by show c.told.length<big;omega);have en:=Px p (tell "set" (some w) {c with b3:=[],c2:=0,mode:="leaving",left:=p.leave}) ((h.yb p.leave).tell _ _) (by
  have:(tell "set" (some w) {c with b3:=[],c2:=0,mode:="leaving",left:=p.leave}:aJ).told.length=c.told.length+1:=by simp[tell]
  omega)
 have lf:(tell "set" (some w) {c with b3:=[],c2:=0,mode:="leaving",left:=p.leave}:aJ).left=p.leave:=rfl;by_cases ah:p.leave<=0
 ·simp! [jA,vB,J5,cm,c1,lf,ah,en,jo]
 ·simp! [jA,vB,J5,cm,c1,lf,ah,jo]
def afq(p:aT)(c:aJ)(w:Str)(aX:c.told.length<big):yA [.obj .cM 0 (encC p c),.ab (.str w)]=some (.none,encC p (lU w c)):=by
 have c1:=q3 p {c with mode:="off",left:=0,c2:=0,e5:=none,b4:=[]} "unset" w aX;simp! [jA,yA,Pl,c1,lU]
theorem vH:∀l:List Str,strsOf (l.map .str)=some l
| []=>rfl
|x::l=>by simp[strsOf,vH l]
noncomputable def rO(p:aT)(d:Str)(z:Option Str)(c:aJ):Prop:=d="set"\/d="unset"\/(d="shunt"/\∃x,z=some x/\x∈p.bP.map (·.1))\/(d="free"/\∃x,z=some x/\x∈c.b4)
def afQ(p:aT)(c:aJ)(w d:Str)(z:Option Str)(h:a9 p c)(hd:cz d)(ar:rO p d z c)(aX:c.told.length+60<big):r4 [.obj .cM 0 (encC p c),.ab (.str w),.ab (.str d),.ab (dm z)]=some (.none,encC p (d9 p w d z c)):=by
 have aP:=cR hd (a5 "set");have ba:=cR hd (a5 "unset");have cU:=cR hd (a5 "shunt");have es:=agH p c w h aX;have eX:=afq p c w (by omega);rcases ar with rfl|rfl|⟨rfl,x,rfl,hx⟩|⟨rfl,x,rfl,hx⟩
 ·simp! [iq,r4,yG,aP,es,d9]
 ·simp! [h8,r4,yG,aP,ba,eX,d9]
 ·have ay:=h.BB;have c1:=q3 p {c with b4:=eN (c.b4++[x])} "shunt" x (by show c.told.length<big;omega);have bX:c.b4.length+1<=big:=by unfold big;omega
  have b9:c.b4.length+1<64:=by omega
  have uQ:1<=big:=by decide
  have akR:=vH (c.b4++[x]);simp at akR;simp! [h8,r4,yG,aP,ba,cU,dm,cC,uQ,bX,b9,C7,akR,c1,d9]
 ·have c1:=q3 p {c with b4:=c.b4.erase x} "free" x (by show c.told.length<big;omega);simp! [h8,r4,yG,aP,ba,cU,dm,qG,vH,hx,c1,d9]
structure Wp(p:aT):Prop where
 cd:(p.codes.map (·.c')).Nodup
 wa:(p.bP.map (·.1)).Nodup
 cl:p.codes.length<=40
 oE:0<=p.leave/\0<=p.gG/\0<=p.loud
def a9.add{p:aT}{c:aJ}(h:a9 p c)(f:Str):a9 p {c with used:=h4 c.used f}:=⟨h.zn,h.eB,h.fQ,h.mo,h.ca,h.kK,h.ln,h.lo,(agO _ _).trans h.us,h.dY,h.al⟩
def a9.yi{p:aT}{c:aJ}(h:a9 p c)(n:Int):a9 p {c with tries:=n}:=⟨h.zn,h.eB,h.fQ,h.mo,h.ca,h.kK,h.ln,h.lo,h.us,h.dY,h.al⟩
def LL{p:aT}{c:aJ}{k:e4}{d:Str}{z:Option Str}(hd:d="set"\/d="unset"\/d="shunt"\/d="free")(ar:lr p d z)(ax:mx p k d z c=none):rO p d z c:=by
 rcases hd with rfl|rfl|rfl|rfl
 ·exact .inl rfl
 ·exact .inr (.inl rfl)
 ·exact .inr (.inr (.inl ⟨rfl,ar (.inl rfl)⟩))
 ·refine .inr (.inr (.inr ⟨rfl,?_⟩))
  obtain⟨x,rfl,hx⟩:=ar (.inr rfl);refine⟨x,rfl,?_⟩;refine Classical.byContradiction λbp=>?_;have:ie p "free" (some x) c=true:=by
   by_cases hm:c.mode="off" <;> simp[ie,pT,oM,bp,hm]
  unfold mx at ax;rw[this] at ax;by_cases av:(if ("free":Str)="free" then ("shunt":Str) else "free")∈k.iY
  ·rw[if_neg (λq=>q av),if_pos rfl] at ax;cases ax
  ·rw[if_pos av] at ax;cases ax
def aeG(p:aT)(c:aJ)(k:e4)(d:Str)(z:Option Str)(h:a9 p c)(aC:Wp p)(aI:k∈p.codes)(hd:d="set"\/d="unset"\/d="shunt"\/d="free")(ar:lr p d z)(aX:c.told.length+60<big):vx [.obj .cM 0 (encC p c),.ab (dI k),.ab (.str d),.ab (dm z)]=some (.none,encC p (takeRight p k d z c)):=by
 have f':cz d:=by
  rcases hd with rfl|rfl|rfl|rfl
  ·exact a5 "set"
  ·exact a5 "unset"
  ·exact a5 "shunt"
  ·exact a5 "free"
 have dR:=aeg p c k d z .fM h aI f' ar;have N':k.c'∈c.used.map (·.1):=by rw[h.us];exact dK.mpr ⟨k,aI,rfl⟩
 cases e:mx p k d z c with
|none=>
  have i_:=LL hd ar e;have g1:=LP N';have g2:=aiV N' (by rw[h.us];exact aC.cd);have ay:(iM c.used).length<big:=by
   have:=congrArg List.length h.us;have:=aC.cl;simp[iM] at *;unfold big;omega
  have fa:=afQ p {c with used:=h4 c.used k.c'} k.fE d z (h.add _) f' i_ aX;rw[e] at dR;simp only[dI] at dR;simp! [iq,vx,JV,dR,rC,dI,keyOf,g1,g2,ay,fa,takeRight,e]
|some wn=>
  obtain⟨w,n⟩:=wn;have bB:=q3 p c w n (by omega);rw[e] at dR;simp only[dI] at dR;simp! [iq,vx,JV,dR,rC,dI,bB,takeRight,e]
def Qg{p:aT}{f:Str}{k:e4}(h:codeOf p f=some k):k∈p.codes:=List.mem_of_find?_eq_some h
def ait(p:aT)(c:aJ)(f d:Str)(z:Option Str)(h:a9 p c)(aC:Wp p)(hf:cz f)(hd:d="set"\/d="unset"\/d="shunt"\/d="free")(ar:lr p d z)(aX:c.told.length+60<big):r7 [.obj .cM 0 (encC p c),.ab (.str f),.ab (.str d),.ab (dm z)]=some (.none,encC p (code p f d z c)):=by
 have ha:=afW (λk aI=>(h.eB k aI).1) hf;have bB:=CM p c "locked" (by omega);have mC:=aeF p c (by omega);by_cases ah:0<c.locked
 ·simp! [jA,r7,yM,ha,ah,bB,code]
 ·cases e:codeOf p f with
  |none=>
   rw[e] at ha;simp! [jA,r7,yM,ha,uX,ah,mC,code,e]
  |some k=>
   rw[e] at ha;have aI:=Qg e;have eX:=afx p c k h aI .fM;have d2:=aeG p {c with tries:=0} k d z (h.yi 0) aC aI hd ar aX;cases ao:lJ k c with
   |true=>
    rw[ao] at eX;simp! [jA,r7,yM,ha,uX,ah,eX,dI] at eX ⊢;simp[eX,mC,code,e,ah,ao]
   |false=>
    rw[ao] at eX;simp! [jA,r7,yM,ha,uX,ah,eX,dI] at eX d2 ⊢;simp! [ade,eX,d2,code,e,ah,ao]
inductive gT where
|line (z w:Str)
|code (f d:Str) (z:Option Str)
|cW (n:Int)
noncomputable def ee:gT->T
|.line z w=>.tuple [.str "line",.str z,.str w]
|.code f d z=>.tuple [.str "code",.str f,.str d,dm z]
|.cW n=>.tuple [.str "ticks",.int n]
noncomputable def lq(p:aT):gT->Prop
|.line z w=>z∈p.bP.map (·.1)/\(w="shut"\/w="open"\/w="cut")
|.code f d z=>cz f/\(d="set"\/d="unset"\/d="shunt"\/d="free")/\lr p d z
|.cW n=>1<=n
noncomputable def hi(p:aT)(c:aJ):gT->aJ
|.line z w=>line p z w c
|.code f d z=>code p f d z c
|.cW n=>cW p n c
def agF(p:aT)(c:aJ)(e:gT)(h:a9 p c)(aC:Wp p)(he:lq p e)(aX:c.told.length+60<big):r5 [.obj .cM 0 (encC p c),.ab (ee e)]=some (.none,encC p (hi p c e)):=by
 have q (x y:Str) (hx:cz x) (bN:cz y):=cR hx bN;cases e with
|line z w=>
  have fB:cz w:=by
   rcases he.2 with rfl|rfl|rfl
   ·exact a5 "shut"
   ·exact a5 "open"
   ·exact a5 "cut"
  have f6:=aih p c z w h he.1 fB (by omega);simp! [iq,r5,B',ee,cR (a5 "line") (a5 "line"),f6,hi]
|code f d z=>
  have f6:=ait p c f d z h aC he.1 he.2.1 he.2.2 aX;simp! [h8,r5,B',ee,cR (a5 "code") (a5 "line"),cR (a5 "code") (a5 "code"),f6,hi]
|cW n=>
  have f6:=agR p c n h (by omega);simp! [h8,r5,B',ee,cR (a5 "ticks") (a5 "line"),cR (a5 "ticks") (a5 "code"),f6,hi]
end bq
end
section
namespace bq
open D PySem
local instance:c5:=⟨[],λ_=>[],λ_=>none⟩
def m3(w:Str)(n:Option Str)(c:aJ):(tell w n c).told.length=c.told.length+1:=by simp[tell]
theorem a9.VX{p:aT}{c:aJ}(h:a9 p c)(x:Int){z:Str}(ar:z∈p.bP.map (·.1)):a9 p {c with mode:="coming",left:=x,e5:=some z}:=
 ⟨h.zn,h.eB,h.fQ,a5 "coming",λy e=>e3 e▸⟨h.ja ar,ar⟩,λ_ e=>(nomatch e),h.ln,h.lo,h.us,h.dY,h.al⟩
theorem a9.iL{p:aT}{c:aJ}(h:a9 p c){z:Str}(k:Str)(ar:z∈p.bP.map (·.1)):a9 p (iL p z k c):=by
 unfold bq.iL;split
 ·exact h.dJ ar
 ·exact (h.VX p.gG ar).tell _ _
def aft(p:aT)(z k:Str)(c:aJ):(iL p z k c).told.length<=c.told.length+1:=by
 unfold bq.iL;split
 ·exact y1 p z c
 ·rw[m3];exact eh _
theorem a9.i9{p:aT}{c:aJ}(h:a9 p c){z:Str}(w:Str)(ar:z∈p.bP.map (·.1)):a9 p (i9 p z w c):=by
 unfold bq.i9
 repeat' split
 all_goals first|exact h.dJ ar|exact h.tell _ _|exact h.iL _ ar|exact h
def ae5(p:aT)(z w:Str)(c:aJ):(i9 p z w c).told.length<=c.told.length+1:=by
 unfold bq.i9
 repeat' split
 all_goals first|exact y1 p z c|exact aft p z _ c|(rw[m3];exact eh _)|omega
theorem a9.line{p:aT}{c:aJ}(h:a9 p c){z w:Str}(ar:z∈p.bP.map (·.1))(hw:cz w):a9 p (line p z w c):=by
 have h':=h.Jh z hw;unfold bq.line
 repeat' split
 all_goals first|exact h|exact h'|exact h'.tell _ _|exact h'.i9 _ ar
def agt(p:aT)(z w:Str)(c:aJ):(line p z w c).told.length<=c.told.length+1:=by
 unfold bq.line
 repeat' split
 all_goals first|omega|(rw[m3];exact eh _)|exact ae5 p z w {c with lines:=fX c.lines z w}|exact pN _
theorem a9.b3{p:aT}:∀{zs:List Str} {c:aJ},a9 p c->(∀z∈zs,z∈p.bP.map (·.1))->a9 p (bq.b3 p zs c)
| [],_,h,_=>h
|z::zs,c,h,ar=>a9.b3 (zs:=zs) (h.dJ (ar z e9)) λy bN=>ar y (dT _ bN)
theorem Kk(p:aT):∀(zs:List Str) (c:aJ),(bq.b3 p zs c).told.length<=c.told.length+zs.length
| [],c=>eh _
|z::zs,c=>by
  have ah:=Kk p zs (dJ p z c);have ao:=y1 p z c;simp only[g5];show (bq.b3 p zs (dJ p z c)).told.length<=_;omega
theorem a9.hb{p:aT}{c:aJ}(h:a9 p c):a9 p (hb p c):=a9.b3 ((h.on 0).tell _ _) λz ar=>C' ar
def Pr{p:aT}{c:aJ}(h:a9 p c):(hb p c).told.length<=c.told.length+41:=by
 have ah:=Kk p (bare p ["inner","way"] (tell "on" none {c with mode:="on",left:=0})) (tell "on" none {c with mode:="on",left:=0});have ao:=Ro p ["inner","way"] (tell "on" none {c with mode:="on",left:=0});have bG:=h.fQ;rw[m3] at ah;show (bq.b3 p _ _).told.length<=_;have cT:({c with mode:="on",left:=0}:aJ).told.length=c.told.length:=rfl;omega
theorem a9.mB{p:aT}{c:aJ}(h:a9 p c)(aG:c.e5≠none):a9 p (mB p c):=by
 obtain⟨z,ar⟩:=Option.ne_none_iff_exists'.mp aG;unfold bq.mB;rw[ar];exact h.IV.dJ (h.ca z ar).2
def aeD(p:aT)(c:aJ):(mB p c).told.length<=c.told.length+1:=y1 _ _ _
theorem a9.fs{p:aT}{c:aJ}(h:a9 p c)(hm:c.mode="leaving"\/c.mode="coming"):a9 p (fs p c):=by
 unfold bq.fs;split
 ·exact h.hb
 next q=>exact h.mB (h.kK (hm.resolve_left q))
def ae4{p:aT}{c:aJ}(h:a9 p c):(fs p c).told.length<=c.told.length+41:=by
 unfold bq.fs;split
 ·exact Pr h
 ·have:=aeD p c;omega
theorem a9.cW{p:aT}{c:aJ}(h:a9 p c)(n:Int):a9 p (cW p n c):=by
 unfold bq.cW;split
 ·exact h
 ·split
  next q=>exact ((h.cd _).fs q.1).cd _
  ·exact h.cd _
def PW{p:aT}{c:aJ}(h:a9 p c)(n:Int):(cW p n c).told.length<=c.told.length+41:=by
 unfold bq.cW;split
 ·omega
 ·split
  ·exact ae4 (h.cd c.left)
  ·exact oK _ _
theorem a9.gO{p:aT}{c:aJ}(h:a9 p c):a9 p (gO p c):=by
 unfold bq.gO;split
 ·exact a9.tell (a9.loud (c:={lB c with tries:=0,locked:=90}) ⟨h.zn,h.eB,h.fQ,h.mo,h.ca,h.kK,h.ln,h.lo,h.us,h.dY,h.al⟩) _ _
 ·exact⟨h.zn,h.eB,h.fQ,h.mo,h.ca,h.kK,h.ln,h.lo,h.us,h.dY,h.al⟩
def aew(p:aT)(c:aJ):(gO p c).told.length<=c.told.length+2:=by
 unfold bq.gO;split
 ·rw[m3];show (tell _ _ c).told.length+1<=_;rw[m3];exact eh _
 ·show (tell _ _ c).told.length<=_
  rw[m3];omega
theorem a9.jo{p:aT}{c:aJ}(h:a9 p c)(w:Str):a9 p (jo p w c):=by
 unfold bq.jo;have h':=(h.yb p.leave).tell "set" (some w);show a9 p (if p.leave<=0 then _ else _);split
 ·exact h'.hb
 ·exact h'
def afS{p:aT}{c:aJ}(h:a9 p c)(w:Str):(jo p w c).told.length<=c.told.length+42:=by
 unfold bq.jo;have h':=(h.yb p.leave).tell "set" (some w);have e:=m3 "set" (some w) {c with b3:=[],c2:=0,mode:="leaving",left:=p.leave};have b1:({c with b3:=[],c2:=0,mode:="leaving",left:=p.leave}:aJ).told.length=c.told.length:=rfl;show (if p.leave<=0 then hb p _ else _:aJ).told.length<=_;split
 ·have:=Pr h';omega
 ·omega
theorem a9.lU{p:aT}{c:aJ}(h:a9 p c)(w:Str):a9 p (lU w c):=
 ⟨h.zn,h.eB,h.fQ,a5 "off",λz e=>(nomatch e),λe=>absurd e r9,h.ln,h.lo,h.us,by simp[bq.lU,bq.tell],h.al⟩
theorem a9.d9{p:aT}{c:aJ}(h:a9 p c)(w:Str){d:Str}{z:Option Str}(ar:rO p d z c)(a8:d="shunt"->z.getD ""∉c.b4):a9 p (d9 p w d z c):=by
 rcases ar with rfl|rfl|⟨rfl,x,rfl,hx⟩|⟨rfl,x,rfl,hx⟩
 ·simp only[bq.d9,if_true];exact h.jo w
 ·simp only[bq.d9,if_neg r_,if_true];exact h.lU w
 ·simp only[bq.d9,if_neg r',if_neg q1,if_true];refine a9.tell (c:={c with b4:=eN (c.b4++[x])}) ⟨h.zn,h.eB,h.fQ,h.mo,h.ca,h.kK,h.ln,h.lo,h.us,⟨?_,?_⟩,h.al⟩ _ _
  ·show (eN (c.b4++[x])).Nodup
   rw[(oN _).nodup_iff,pL];refine⟨h.dY.1,by simp,λa ax b ae e=>?_⟩;simp at ae;exact a8 rfl (by show x∈_;exact ae▸e▸ax)
  ·intro y bN;have YS:=(oN _).mem_iff.mp bN;rcases j2.mp YS with q|q
   ·exact h.dY.2 y q
   ·simp at q;exact q▸hx
 ·simp only[bq.d9,if_neg sb,if_neg pT,if_neg oM];refine a9.tell (c:={c with b4:=c.b4.erase x}) ⟨h.zn,h.eB,h.fQ,h.mo,h.ca,h.kK,h.ln,h.lo,h.us,⟨?_,?_⟩,h.al⟩ _ _
  ·exact h.dY.1.erase x
  ·exact λy bN=>h.dY.2 y (List.mem_of_mem_erase bN)
def afr{p:aT}{c:aJ}(h:a9 p c)(w d:Str)(z:Option Str):(d9 p w d z c).told.length<=c.told.length+42:=by
 unfold bq.d9;split
 ·exact afS h w
 ·split
  ·show (tell _ _ _).told.length<=_
   rw[m3];show c.told.length+1<=_;omega
  ·split
   ·rw[m3];show c.told.length+1<=_;omega
   ·rw[m3];show c.told.length+1<=_;omega
def aeR{p:aT}{c:aJ}{k:e4}{z:Option Str}(ax:mx p k "shunt" z c=none):z.getD ""∉c.b4/\c.mode="off"/\kindOf p (z.getD "")≠"day":=by
 have bp:ie p "shunt" z c≠true:=by
  intro q;unfold mx at ax;rw[q] at ax;by_cases av:(if ("shunt":Str)="free" then ("shunt":Str) else "shunt")∈k.iY
  ·rw[if_neg (λq=>q av),if_pos rfl] at ax;cases ax
  ·rw[if_pos av] at ax;cases ax
 unfold ie at bp;rw[if_neg q1] at bp;by_cases hm:c.mode="off"
 ·rw[if_neg (λq=>q hm),if_pos rfl] at bp;simp at bp;exact⟨bp.2,hm,bp.1⟩
 ·rw[if_pos hm] at bp;exact absurd rfl bp
theorem a9.takeRight{p:aT}{c:aJ}(h:a9 p c)(k:e4){d:Str}{z:Option Str}(hd:d="set"\/d="unset"\/d="shunt"\/d="free")(ar:lr p d z):a9 p (takeRight p k d z c):=by
 unfold bq.takeRight;split
 next e=>
  refine (h.add _).d9 _ (LL hd ar e) λq=>?_
  subst q;exact (aeR e).1
 ·exact h.tell _ _
def aex{p:aT}{c:aJ}(h:a9 p c)(k:e4)(d:Str)(z:Option Str):(takeRight p k d z c).told.length<=c.told.length+42:=by
 unfold bq.takeRight;split
 ·exact afr (h.add k.c') _ _ _
 ·rw[m3];omega
theorem a9.code{p:aT}{c:aJ}(h:a9 p c)(f:Str){d:Str}{z:Option Str}(hd:d="set"\/d="unset"\/d="shunt"\/d="free")(ar:lr p d z):a9 p (code p f d z c):=by
 unfold bq.code;split
 ·exact h.tell _ _
 ·split
  ·exact h.gO
  ·split
   ·exact h.gO
   ·exact (h.yi 0).takeRight _ hd ar
def agK{p:aT}{c:aJ}(h:a9 p c)(f d:Str)(z:Option Str):(code p f d z c).told.length<=c.told.length+42:=by
 have:=aew p c;unfold bq.code;split
 ·rw[m3];omega
 ·split
  ·omega
  ·split
   ·omega
   ·exact aex (h.yi 0) _ _ _
def S5{p:aT}{z w:Str}(he:lq p (.line z w)):cz w:=by
 rcases he.2 with rfl|rfl|rfl
 ·exact a5 "shut"
 ·exact a5 "open"
 ·exact a5 "cut"
theorem a9.hi{p:aT}{c:aJ}(h:a9 p c){e:gT}(he:lq p e):a9 p (hi p c e):=by
 cases e with
|line z w=>exact h.line he.1 (S5 he)
|code f d z=>exact h.code f he.2.1 he.2.2
|cW n=>exact h.cW n
def Kh{p:aT}{c:aJ}(h:a9 p c)(e:gT):(hi p c e).told.length<=c.told.length+50:=by
 cases e with
|line z w=>have:=agt p z w c;show (line p z w c).told.length<=_;omega
|code f d z=>have:=agK h f d z;show (code p f d z c).told.length<=_;omega
|cW n=>have:=PW h n;show (cW p n c).told.length<=_;omega
noncomputable def run(p:aT)(c:aJ)(es:List gT):aJ:=es.foldl (hi p) c
noncomputable def fresh(c:aJ):aJ:={c with past:=0,told:=[]}
theorem a9.fresh{p:aT}{c:aJ}(h:a9 p c):a9 p (fresh c):=⟨h.zn,h.eB,h.fQ,h.mo,h.ca,h.kK,h.ln,h.lo,h.us,h.dY,h.al⟩
theorem a9.run{p:aT}:∀{es:List gT} {c:aJ},a9 p c->(∀e∈es,lq p e)->a9 p (run p c es)
| [],_,h,_=>h
|e::es,c,h,he=>a9.run (es:=es) (h.hi (he e e9)) λy bN=>he y (dT _ bN)
theorem K1{p:aT}:∀{es:List gT} {c:aJ},a9 p c->(∀e∈es,lq p e)->(run p c es).told.length<=c.told.length+50*es.length
| [],_,_,_=>eh _
|e::es,c,h,he=>by
  have ah:=K1 (es:=es) (h.hi (he e e9)) λy bN=>he y (dT _ bN);have ao:=Kh h e;show (run p (hi p c e) es).told.length<=_;simp only[g5];omega
noncomputable def eK(c:aJ):T:=.tuple [.str c.mode,.int c.left,dm c.e5,.tuple (c.lines.map λl=>.str l.2),.tuple (c.b4.map .str),.int c.c2,.tuple (c.b3.map .str),.int c.tries,.int c.locked,.tuple (c.used.map λu=>.int u.2)]
theorem R8:∀(bf:List Str) (l:List (Str×Str)),l.map (·.1)=bf->sz (bf.map .str) (l.map λl=>.str l.2)=some (iN l)
| [],[],_=>rfl
| [],_::_,h=>by cases h
|_::_,[],h=>by cases h
|k::bf,x::l,h=>by
  simp at h;simp[sz,keyOf,R8 bf l h.2,iN,h.1]
theorem R9:∀(bf:List Str) (l:List (Str×Int)),l.map (·.1)=bf->sz (bf.map .str) (l.map λl=>.int l.2)=some (iM l)
| [],[],_=>rfl
| [],_::_,h=>by cases h
|_::_,[],h=>by cases h
|k::bf,x::l,h=>by
  simp at h;simp[sz,keyOf,R9 bf l h.2,iM,h.1]
def Qy{l:List Str}(h:l.Nodup):(l.map (Sum.inr:Str->D.Key)).Nodup:=by
 rw[List.nodup_iff_pairwise_ne,List.pairwise_map];exact (List.nodup_iff_pairwise_ne.mp h).imp λq e=>q (Sum.inr.inj e)
def aik(l:List (Str×Str)):(iN l).map (·.1)=(l.map (·.1)).map Sum.inr:=by simp[iN,kT]
def ail(l:List (Str×Int)):(iM l).map (·.1)=(l.map (·.1)).map Sum.inr:=by simp[iM,kT]
def K_{α:Type}(enc:α->T)(g:α->T)(caps:Ev)(ts:List α)(s0:Option aO)(h:∀a∈ts,(af aK (nm 0) (aa (.int 0))) (some (.ab (enc a))::caps)=some (g a)):gf (bJ 0) (fi true) (af aK (nm 0) (aa (.int 0))) (ts.map enc) (s0::caps)=some (ts.map g):=by
 have:=sr (cc:=fi true) (fb:=af aK (nm 0) (aa (.int 0))) (caps:=caps) enc (λ_=>true) g ts s0 λa ax=>⟨rfl,λ_=>h a ax⟩;rw[List.filter_eq_self.mpr (λ_ _=>rfl)] at this;exact this
def ain(p:aT)(c:aJ)(h:a9 p c)(aC:Wp p):yB [.obj .cM 0 [],.ab (cm p),.ab (eK c)]=some (.none,encC p (fresh c)):=by
 have ar:=h.fQ;have aG:=aC.cl;have c8:=K_ c_ (λz=>.str z.1) [] p.bP none λz ar=>by simp! [hF,c_]
 have cv:=K_ dI (λz=>.str z.c') [] p.codes none λz ar=>by simp! [hF,dI]
 have jh:=R8 (p.bP.map (·.1)) c.lines h.ln;have hp:=R9 (p.codes.map (·.c')) c.used h.us;rw[nJ] at jh hp;have bX:p.bP.length<=big:=by unfold big;omega
 have b9:p.codes.length<=big:=by unfold big;omega
 have gY:((iN c.lines).map (·.1)).Nodup/\(iN c.lines).length<=1000/\∀t∈(p.bP.map λz=>ib z.1),(keyOf t).isSome=true:=by
  refine⟨?_,?_,?_⟩
  ·rw[aik,h.ln];exact Qy aC.wa
  ·have:=congrArg List.length h.ln;simp[iN] at *;omega
  ·intro t aX;obtain⟨z,_,rfl⟩:=dK.mp aX;rfl
 have gJ:((iM c.used).map (·.1)).Nodup/\(iM c.used).length<=1000/\∀t∈(p.codes.map λz=>ib z.c'),(keyOf t).isSome=true:=by
  refine⟨?_,?_,?_⟩
  ·rw[ail,h.us];exact Qy aC.cd
  ·have:=congrArg List.length h.us;simp[iM] at *;omega
  ·intro t aX;obtain⟨z,_,rfl⟩:=dK.mp aX;rfl
 have uQ:(0<=big)=True:=by simp
 simp only[kT] at jh hp;simp only[yB,Pm,runM,j7];simp! [oA,cm,eK,wI,wm,c8,cv,bX,b9,jh,hp];rw[if_pos gY];simp! [oA,wm,wI,c8,cv,bX,b9,jh,hp];rw[if_pos ⟨gJ.1,gJ.2.1,λa ax=>rfl⟩];simp! [oA,encC,fresh,cm]
def agU(p:aT)(c:aJ)(m:hA)(h:a9 p c):vC [.obj m 0 (encC p c)]=some (eK c):=by
 have ah:=h.BB;have ao:=h.EI;have bX:c.b4.length<=big:=by unfold big;omega
 have b9:c.b3.length<=big:=by unfold big;omega
 simp! [iq,vC,Py,zH,fP,bX,b9,Q3,eK,iN,iM,kT]
theorem vQ(p:aT)(aC:Wp p):∀(es:List gT) (c:aJ) (s0 s1 s2 s4:Option aO),a9 p c->(∀e∈es,lq p e)->c.told.length+50*es.length+60<big->∃l7,forL (bJ 4) (ct (d1 0 r5 3 [(aA 4)])) (es.map ee) [s0,s1,s2,some (.obj .own 0 (encC p c)),s4]=some (.bY [s0,s1,s2,some (.obj .own 0 (encC p (run p c es))),l7])
| [],c,s0,s1,s2,s4,_,_,_=>⟨s4,by simp[forL,run]⟩
|e::es,c,s0,s1,s2,s4,h,he,aX=>by
  have NM:=he e e9;simp only[g5] at aX;have dR:=agF p c e h aC NM (by omega);have:=Kh h e;obtain⟨rT,b7⟩:=vQ p aC es (hi p c e) s0 s1 s2 (some (.ab (ee e))) (h.hi NM) (λy bN=>he y (dT _ bN)) (by omega);refine⟨rT,?_⟩;rw[dv,forL];simp! [oA,dR];simpa [d4,seq,iff,a0,i1,ei,eZ,jZ,fi,ofT,fo,af,bl,args,aa,nm,aA,cI,skip,asg,jR,hR,par,bQ,ew,hU,jm,aK,gh,f_,bJ,dq,gy,df,comp,iz,run] using b7
def PH(p:aT)(c:aJ)(es:List gT)(h:a9 p c)(aC:Wp p)(he:∀e∈es,lq p e)(ay:es.length<=1000):pU [cm p,eK c,.tuple (es.map ee)]=some (.obj .own 0 (encC p (run p (fresh c) es))):=by
 have ak':=ain p c h aC;have ae:(fresh c).told.length=0:=rfl;have b9:(60000<big):=by decide
 obtain⟨l7,f6⟩:=vQ p aC es (fresh c) (some (.ab (cm p))) (some (.ab (eK c))) (some (.ab (.tuple (es.map ee)))) none h.fresh he (by omega);simp only[pU,Kj,pD];simp! [oA,o8,Bk,ak',gj,tL];rw[f6];simp[tL,x5]
def Ld(p:aT)(c:aJ)(es:List gT)(h:a9 p c)(aC:Wp p)(he:∀e∈es,lq p e)(ay:es.length<=1000):mj [cm p,eK c,.tuple (es.map ee)]=some (eK (run p (fresh c) es)):=by
 have c1:=PH p c es h aC he ay;have en:=agU p (run p (fresh c) es) .fM (h.fresh.run he);simp! [hF,mj,R3,oX,x3,c1,v7,en]
def KW(p:aT)(c:aJ)(es:List gT)(h:a9 p c)(aC:Wp p)(he:∀e∈es,lq p e)(ay:es.length<=1000):mi [cm p,eK c,.tuple (es.map ee)]=some (.tuple ((run p (fresh c) es).told.map fq)):=by
 have c1:=PH p c es h aC he ay;have ae:=K1 h.fresh he;have b9:(60000<big):=by decide
 have h0:(fresh c).told.length=0:=rfl;have bX:(run p (fresh c) es).told.length<=big:=by omega
 simp! [hF,mi,R0,oX,zr,c1,v7,w6,fP,bX]
noncomputable def iA(p:aT):aJ:={mode:="off",left:=0,e5:=none,lines:=p.bP.map λz=>(z.1,"shut"),b4:=[],c2:=0,b3:=[],tries:=0,locked:=0,used:=p.codes.map λk=>(k.c',0),past:=0,told:=[]}
def ahB(p:aT)(ar:p.bP.length<=40)(aC:Wp p):lI [cm p]=some (eK (iA p)):=by
 have aG:=aC.cl;have bX:p.bP.length<=big:=by unfold big;omega
 have b9:p.codes.length<=big:=by unfold big;omega
 have c8:=sr (cc:=fi true) (fb:=aa (.str "shut")) (caps:=[]) c_ (λ_=>true) (λ_=>.str "shut") p.bP none λa ax=>⟨rfl,λ_=>rfl⟩;have cv:=sr (cc:=fi true) (fb:=aa (.int 0)) (caps:=[]) dI (λ_=>true) (λ_=>.int 0) p.codes none λa ax=>⟨rfl,λ_=>rfl⟩;rw[List.filter_eq_self.mpr (λ_ _=>rfl)] at c8 cv;simp! [hF,lI,R2,cm,fP,bX,b9,c8,cv,Q3,eK,iA,dm,kT]
end bq
end
section
namespace bq
open D PySem
local instance:c5:=⟨[],λ_=>[],λ_=>none⟩
def Lv(ns:List Int)(k:Nat):m2 [eF ns,.int k]=some (.int (ns.getD k 0)):=by
 by_cases h:k<ns.length
 ·have h':(k:Int)<(ns.length:Int):=by omega
  simp! [Jj,m2,ub,eF,h,h',List.getD]
 ·have h':¬(k:Int)<(ns.length:Int):=by omega
  simp! [Jj,m2,ub,eF,h,h',List.getD]
def lL{i j:Int}(h:-(2 ^ 64)<j/\j<2 ^ 64):ef (.int i) (.int j)=some (.int (i*j)):=by
 unfold ef wC;simp only[decide_eq_true h.1,decide_eq_true h.2,Bool.and_self,Bool.or_true,if_true]
def p3{i j:Int}(h:0<j):oMod (.int i) (.int j)=some (.int (i % j)):=if_pos h
def SQ{i j:Int}(h:0<j/\j<1073741824):oDiv (.int i) (.int j)=some (.int (i / j)):=if_pos h
def kC{i j:Int}:cC (.int i) (.int j)=some (.int (i+j)):=rfl
def g8{a b:bz}{ag ε':Ev}(h:a ag=some (.bY ε')):seq a b ag=b ε':=by
 unfold seq;rw[h];rfl
def C8(ns:List Int)(k:Nat):∃m:Int,0<=m/\lH [eF ns,.int k]=some (.int m):=by
 have aG:=Lv ns k;have hd:0<=(ns.getD k 0+7919*(k:Int)+1)*48271 % 2147483647/\(ns.getD k 0+7919*(k:Int)+1)*48271 % 2147483647<2147483647:=⟨pO _ (by decide),vq _ (by decide)⟩;generalize hx:(ns.getD k 0+7919*(k:Int)+1)*48271 % 2147483647=d at hd;refine⟨(d*d+7*d+k) % 2147483629,pO _ (by decide),?_⟩;have eC:lH [eF ns,.int k]=(um [some (.ab (eF ns)),some (.ab (.int k)),none]).bind λo=>match o with|.e1 t=>some t|.bY _=>some .none|_=>none:=rfl
 have i':ef (.int 7919) (.int k)=some (.int (7919*k)):=by
  unfold ef wC;simp
 have ou:aA 0 [some (.ab (eF ns)),some (.ab (.int k)),none]=some (eF ns):=rfl;have gY:aA 1 [some (.ab (eF ns)),some (.ab (.int k)),none]=some (.int k):=rfl;have Iq:nm 1 [some (.ab (eF ns)),some (.ab (.int k)),none]=some (.int k):=rfl;have s1:asg 2 (af oMod (af ef (af cC (af cC (bl m2 [(aA 0),(aA 1)]) (af ef (aa (.int 7919)) (nm 1))) (aa (.int 1))) (aa (.int 48271))) (aa (.int 2147483647))) [some (.ab (eF ns)),some (.ab (.int k)),none]=some (.bY [some (.ab (eF ns)),some (.ab (.int k)),some (.ab (.int d))]):=by
  simp only[asg,af,bl,args,ou,gY,Iq,dt,kx,aG,aa,i',kC,lL (i:=ns.getD k 0+7919*(k:Int)+1) (j:=48271) (by decide),p3 (j:=2147483647) (by decide),hx];rfl
 have kQ:ef (.int d) (.int d)=some (.int (d*d)):=lL (by omega);have rM:ef (.int 7) (.int d)=some (.int (7*d)):=lL (by omega);rw[eC];unfold um;rw[g8 s1];have ba:nm 2 [some (.ab (eF ns)),some (.ab (.int k)),some (.ab (.int d))]=some (.int d):=rfl;have aP:nm 1 [some (.ab (eF ns)),some (.ab (.int k)),some (.ab (.int d))]=some (.int k):=rfl;simp only[cI,af,ba,aP,dt,kx,aa,kQ,rM,kC,p3 (j:=2147483629) (by decide)]
def zd(n k:Int)(aI:-(2 ^ 64)<k/\k<2 ^ 64):∃m:Int,0<=m/\jF [.int n,.int k]=some (.int m):=by
 have hd:0<=(n+104729*k+17)*69621 % 2147483647/\(n+104729*k+17)*69621 % 2147483647<2147483647:=⟨pO _ (by decide),vq _ (by decide)⟩;generalize hx:(n+104729*k+17)*69621 % 2147483647=d at hd;refine⟨(d*d+3*d+k) % 2147483629,pO _ (by decide),?_⟩;have eC:jF [.int n,.int k]=(uo [some (.ab (.int n)),some (.ab (.int k)),none]).bind λo=>match o with|.e1 t=>some t|.bY _=>some .none|_=>none:=rfl
 have i':ef (.int 104729) (.int k)=some (.int (104729*k)):=lL aI;have ou:nm 0 [some (.ab (.int n)),some (.ab (.int k)),none]=some (.int n):=rfl;have gY:nm 1 [some (.ab (.int n)),some (.ab (.int k)),none]=some (.int k):=rfl;have s1:asg 2 (af oMod (af ef (af cC (af cC (nm 0) (af ef (aa (.int 104729)) (nm 1))) (aa (.int 17))) (aa (.int 69621))) (aa (.int 2147483647))) [some (.ab (.int n)),some (.ab (.int k)),none]=some (.bY [some (.ab (.int n)),some (.ab (.int k)),some (.ab (.int d))]):=by
  simp only[asg,af,ou,gY,dt,kx,aa,i',kC,lL (i:=n+104729*k+17) (j:=69621) (by decide),p3 (j:=2147483647) (by decide),hx];rfl
 have kQ:ef (.int d) (.int d)=some (.int (d*d)):=lL (by omega);have rM:ef (.int 3) (.int d)=some (.int (3*d)):=lL (by omega);rw[eC];unfold uo;rw[g8 s1];have ba:nm 2 [some (.ab (.int n)),some (.ab (.int k)),some (.ab (.int d))]=some (.int d):=rfl;have aP:nm 1 [some (.ab (.int n)),some (.ab (.int k)),some (.ab (.int d))]=some (.int k):=rfl;simp only[cI,af,ba,aP,dt,kx,aa,kQ,rM,kC,p3 (j:=2147483629) (by decide)]
def ji(a b:Int):oEq (.int a) (.int b)=some (.bool (decide (a=b))):=by
 unfold oEq;rw[sg,sg];by_cases e:a=b <;> simp[hX,e]
def divQ(m:Int)(j:Int)(h:0<j/\j<1073741824:=by decide):∃q,q=m / j/\oDiv (.int m) (.int j)=some (.int q):=⟨_,rfl,SQ h⟩
def modQ(m:Int)(j:Int)(h:0<j:=by decide):∃q,q=m % j/\0<=q/\q<j/\oMod (.int m) (.int j)=some (.int q):=⟨_,rfl,pO _ (by omega),vq _ h,p3 h⟩
def AQ{ts:List T}{j:Int}(h0:0<=j)(ah:j<ts.length):∃t∈ts,aK (.tuple ts) (.int j)=some t:=by
 have bD:j.toNat<ts.length:=by omega
 refine⟨ts[j.toNat],List.getElem_mem bD,?_⟩
 simp only[aK,gh,f_,if_pos h0,if_pos ah,dt];exact fO bD
def xN(ss:List Str){j:Int}(h0:0<=j)(ah:j<ss.length):∃s∈ss,aK (.tuple (ss.map .str)) (.int j)=some (.str s):=by
 obtain⟨t,aX,e⟩:=AQ (ts:=ss.map .str) h0 (by simpa using ah);obtain⟨s,aw,rfl⟩:=dK.mp aX;exact⟨s,aw,e⟩
def xM(ss:List Int){j:Int}(h0:0<=j)(ah:j<ss.length):∃s∈ss,aK (.tuple (ss.map .int)) (.int j)=some (.int s):=by
 obtain⟨t,aX,e⟩:=AQ (ts:=ss.map .int) h0 (by simpa using ah);obtain⟨s,aw,rfl⟩:=dK.mp aX;exact⟨s,aw,e⟩
def Lq:(5<=big)=True:=by simp[big]
def uw:(4<=big)=True:=by simp[big]
def oP:(3<=big)=True:=by simp[big]
def LB:(6<=big)=True:=by simp[big]
def ahx:(8<=big)=True:=by simp[big]
def one_le:(1<=big)=True:=by simp[big]
noncomputable def rx:bz:=(seq (asg 4 (af oDiv (bl jF [(aA 0),(aA 2)]) (aa (.int 4)))) (iff (eZ (a0 (af oLt (af oMod (nm 4) (aa (.int 8))) (af cC (aa (.int 3)) (af oMod (nm 0) (aa (.int 5)))))) (a0 (af oEq (nm 2) (af oMod (af oDiv (nm 0) (aa (.int 8))) (aa (.int 8)))))) (asg 1 (af cC (nm 1) (bQ [(bQ [(aA 3),(af aK (bQ [(aa (.str "day")),(aa (.str "inner")),(aa (.str "once")),(aa (.str "way")),(aa (.str "way"))]) (af oMod (af oDiv (nm 4) (aa (.int 8))) (aa (.int 5))))])]))) skip))
noncomputable def pb(x:Int×Str):T:=.tuple [.int x.1,.str x.2]
noncomputable def kinds:List Str:=["day","inner","once","way","way"]
theorem Ks(n:Int):∀(l:List (Int×Str)) (acc:List (Str×Str)) (s2 s3 s4:Option aO),(∀x∈l,0<=x.1/\x.1<100)->acc.length+l.length<=20->∃zs mQ qH l7,(zs.map (·.1)).Sublist (l.map (·.2))/\(∀z∈zs,z.2∈kinds)/\((∃x∈l,x.1=n / 8 % 8)->zs≠[]) /\
  forL (dq [(bJ 2),(bJ 3)]) rx (l.map pb) [some (.ab (.int n)),some (.ab (.tuple (acc.map c_))),s2,s3,s4,none,none,none,none,none]=some (.bY [some (.ab (.int n)),some (.ab (.tuple ((acc++zs).map c_))),mQ,qH,l7,none,none,none,none,none])
| [],acc,s2,s3,s4,_,_=>⟨[],s2,s3,s4,.refl _,by simp,by simp,by simp[forL]⟩
|x::l,acc,s2,s3,s4,hx,ay=>by
  obtain⟨m,hm,c1⟩:=zd n x.1 (by have:=hx x e9;omega);obtain⟨q,bS,en⟩:=divQ m 4;obtain⟨r,_,_,_,fp⟩:=modQ q 8;obtain⟨cE,_,_,_,lV⟩:=modQ n 5;obtain⟨aP,jw,lW⟩:=divQ n 8;obtain⟨bg,pk,_,_,ni⟩:=modQ aP 8;obtain⟨ba,jX,nj⟩:=divQ q 8;obtain⟨cf,_,h0,ah,n6⟩:=modQ ba 5;obtain⟨s,aw,mz⟩:=xN kinds h0 ah;simp only[kinds,dv,j3] at mz;simp only[g5] at ay;have bX:acc.length+1<=big:=by unfold big;omega
  have kj:∀y∈l,0<=y.1/\y.1<100:=λy bN=>hx y (dT _ bN);by_cases aG:r<3+cE\/x.1=bg
  ·obtain⟨zs,mQ,qH,l7,bH,bO,oo,qC⟩:=Ks n l (acc++[(x.2,s)]) (some (.ab (.int x.1))) (some (.ab (.str x.2))) (some (.ab (.int q))) kj (by simp;omega);refine⟨(x.2,s)::zs,mQ,qH,l7,by simpa using bH,λz ar=>?_,λ_=>by simp,?_⟩
   ·rcases cO.mp ar with rfl|ar
    ·exact aw
    ·exact bO z ar
   ·rw[dv,forL];have:rx [some (.ab (.int n)),some (.ab (.tuple (acc.map c_))),some (.ab (.int x.1)),some (.ab (.str x.2)),s4,none,none,none,none,none]=some (.bY [some (.ab (.int n)),some (.ab (.tuple ((acc++[(x.2,s)]).map c_))),some (.ab (.int x.1)),some (.ab (.str x.2)),some (.ab (.int q)),none,none,none,none,none]):=by
     by_cases cV:r<3+cE
     ·simp! [fK,rx,c1,en,fp,lV,lW,ni,nj,n6,mz,kC,oLt,cV,cC,bX,Lq,m6,one_le,c_]
     ·have n5:oEq (.int x.1) (.int bg)=some (.bool true):=by rw[ji,decide_eq_true (aG.resolve_left cV)]
      simp! [fK,rx,c1,en,fp,lV,lW,ni,nj,n6,mz,kC,oLt,cV,n5,cC,bX,Lq,m6,one_le,c_]
    simp only[pb,dq,gy,bJ,dt,je,i3,this];simpa using qC
  ·obtain⟨zs,mQ,qH,l7,bH,bO,oo,qC⟩:=Ks n l acc (some (.ab (.int x.1))) (some (.ab (.str x.2))) (some (.ab (.int q))) kj (by omega);refine⟨zs,mQ,qH,l7,bH.cons _,bO,λ⟨y,bN,e⟩=>oo ?_,?_⟩
   ·rcases cO.mp bN with rfl|bN
    ·exact absurd (.inr (by rw[e,pk,jw])) aG
    ·exact⟨y,bN,e⟩
   ·rw[dv,forL];have:rx [some (.ab (.int n)),some (.ab (.tuple (acc.map c_))),some (.ab (.int x.1)),some (.ab (.str x.2)),s4,none,none,none,none,none]=some (.bY [some (.ab (.int n)),some (.ab (.tuple (acc.map c_))),some (.ab (.int x.1)),some (.ab (.str x.2)),some (.ab (.int q)),none,none,none,none,none]):=by
     have eT:¬r<3+cE:=λz=>aG (.inl z);have gk:¬x.1=bg:=λz=>aG (.inr z);simp! [fK,rx,c1,en,fp,lV,lW,ni,nj,n6,mz,kC,oLt,eT,gk,ji]
    simp only[pb,dq,gy,bJ,dt,je,i3,this];exact qC
def acd:jy 0 3=[.int 0,.int 1,.int 2]:=by simp[jy,List.range_succ]
noncomputable def sV:fg:=a0 (af gZ (af oMod (af oDiv (nm 1) (af aK (bQ [(aa (.int 4)),(aa (.int 16)),(aa (.int 64))]) (nm 0))) (aa (.int 4))) (aa (.int 0)))
noncomputable def n7:bI:=af aK (bQ [(aa (.str "set")),(aa (.str "shunt")),(aa (.str "unset"))]) (nm 0)
noncomputable def Dk:List Str:=["set","shunt","unset"]
def age(q:Int)(ag:Ev)(h:(ag[4]?).join=some (.ab (.int q))):∃rs:List Str,rs.Sublist Dk/\comp 1 [4] (ml (aa (.int 3))) (bJ 0) sV n7 ag=some (.list (rs.map .str)):=by
 have key:∀j rL:Int,aK (.tuple [.int 4,.int 16,.int 64]) (.int j)=some (.int rL)->0<rL->rL<1073741824->∃b,sV [some (.ab (.int j)),some (.ab (.int q))]=some b:=by
  intro j rL ah ao bG;obtain⟨aP,_,c1⟩:=divQ q rL ⟨ao,bG⟩;obtain⟨bg,_,_,_,en⟩:=modQ aP 4;exact⟨decide (0<bg),by simp! [fK,sV,ah,c1,en,gZ,oP]⟩
 obtain⟨uQ,pv⟩:=key 0 4 (by simp[aK,gh,f_]) (by decide) (by decide);obtain⟨bX,eY⟩:=key 1 16 (by simp[aK,gh,f_]) (by decide) (by decide);obtain⟨b9,dV⟩:=key 2 64 (by simp[aK,gh,f_]) (by decide) (by decide);have ko:n7 [some (.ab (.int 0)),some (.ab (.int q))]=some (.str "set"):=by simp! [hF,n7,oP]
 have bg:n7 [some (.ab (.int 1)),some (.ab (.int q))]=some (.str "shunt"):=by simp! [hF,n7,oP]
 have cf:n7 [some (.ab (.int 2)),some (.ab (.int q))]=some (.str "unset"):=by simp! [hF,n7,oP]
 have w1:comp 1 [4] (ml (aa (.int 3))) (bJ 0) sV n7 ag=(gf (bJ 0) sV n7 [.int 0,.int 1,.int 2] [none,some (.ab (.int q))]).map .list:=by
  have s3:q6 3=true:=by decide
  simp[comp,ml,aa,s3,acd,iz,h,oP]
 rw[w1];cases uQ <;> cases bX <;> cases b9
 ·exact⟨[],by simp,by simp[gf,bJ,pv,eY,dV]⟩
 ·exact⟨["unset"],by decide,by simp[gf,bJ,pv,eY,dV,ko,bg,cf]⟩
 ·exact⟨["shunt"],by decide,by simp[gf,bJ,pv,eY,dV,ko,bg,cf]⟩
 ·exact⟨["shunt","unset"],by decide,by simp[gf,bJ,pv,eY,dV,ko,bg,cf]⟩
 ·exact⟨["set"],by decide,by simp[gf,bJ,pv,eY,dV,ko,bg,cf]⟩
 ·exact⟨["set","unset"],by decide,by simp[gf,bJ,pv,eY,dV,ko,bg,cf]⟩
 ·exact⟨["set","shunt"],by decide,by simp[gf,bJ,pv,eY,dV,ko,bg,cf]⟩
 ·exact⟨["set","shunt","unset"],by decide,by simp[gf,bJ,pv,eY,dV,ko,bg,cf]⟩
noncomputable def sT:bz:=(seq (asg 4 (af oDiv (bl jF [(aA 0),(af cC (aa (.int 10)) (nm 2))]) (aa (.int 4)))) (iff (eZ (a0 (af gZ (af oMod (nm 4) (aa (.int 3))) (aa (.int 0)))) (a0 (af oEq (nm 2) (aa (.int 1))))) (seq (asg 7 (bl fP [(comp 1 [4] (ml (aa (.int 3))) (bJ 0) sV n7)])) (seq (asg 8 (af aK (bQ [(aa (.str "ann")),(aa (.str "bo")),(aa (.str "cy"))]) (af oMod (af oDiv (nm 4) (aa (.int 256))) (aa (.int 3))))) (asg 5 (af cC (nm 5) (bQ [(bQ [(aA 6),(aA 8),(aA 7),(af aK (bQ [(aa (.int 0)),(aa (.int 0)),(aa (.int 1)),(aa (.int 2)),(aa (.int 9))]) (af oMod (af oDiv (nm 4) (aa (.int 1024))) (aa (.int 5))))])]))))) skip))
noncomputable def ak7:List Str:=["ann","bo","cy"]
theorem Kp(n:Int)(s1 s3:Option aO):∀(l:List (Int×Str)) (acc:List e4) (s2 s4 c9 cy cN:Option aO),(∀x∈l,0<=x.1/\x.1<100)->acc.length+l.length<=20->∃bf mQ l7 x_ x' ya,(bf.map (·.c')).Sublist (l.map (·.2))/\(∀k∈bf,k.fE∈ak7/\k.iY.Sublist Dk/\k.uses∈([0,0,1,2,9]:List Int))/\((∃x∈l,x.1=1)->bf≠[]) /\
  forL (dq [(bJ 2),(bJ 6)]) sT (l.map pb) [some (.ab (.int n)),s1,s2,s3,s4,some (.ab (.tuple (acc.map dI))),c9,cy,cN,none]=some (.bY [some (.ab (.int n)),s1,mQ,s3,l7,some (.ab (.tuple ((acc++bf).map dI))),x_,x',ya,none])
| [],acc,s2,s4,c9,cy,cN,_,_=>⟨[],s2,s4,c9,cy,cN,.refl _,by simp,by simp,by simp[forL]⟩
|x::l,acc,s2,s4,c9,cy,cN,hx,ay=>by
  obtain⟨m,hm,c1⟩:=zd n (10+x.1) (by have:=hx x e9;omega);obtain⟨q,bS,en⟩:=divQ m 4;obtain⟨r,_,_,_,fp⟩:=modQ q 3;obtain⟨aP,jw,lW⟩:=divQ q 256;obtain⟨bg,pk,h0,ah,ni⟩:=modQ aP 3;obtain⟨ba,jX,nj⟩:=divQ q 1024;obtain⟨cf,_,ao,bG,n6⟩:=modQ ba 5;obtain⟨s,aw,mz⟩:=xN ak7 h0 ah;obtain⟨u,bp,n5⟩:=xM [0,0,1,2,9] ao bG;simp only[ak7,dv,j3] at mz n5;simp only[g5] at ay;have bX:acc.length+1<=big:=by unfold big;omega
  have kj:∀y∈l,0<=y.1/\y.1<100:=λy bN=>hx y (dT _ bN);obtain⟨rs,GC,FC⟩:=age q [some (.ab (.int n)),s1,some (.ab (.int x.1)),s3,some (.ab (.int q)),some (.ab (.tuple (acc.map dI))),some (.ab (.str x.2)),cy,cN,none] rfl;by_cases aG:0<r\/x.1=1
  ·obtain⟨bf,mQ,l7,x_,x',ya,bH,bO,oo,qC⟩:=Kp n s1 s3 l (acc++[(⟨x.2,s,rs,u⟩:e4)]) (some (.ab (.int x.1))) (some (.ab (.int q))) (some (.ab (.str x.2))) (some (.ab (.tuple (rs.map .str)))) (some (.ab (.str s))) kj (by simp;omega);refine⟨⟨x.2,s,rs,u⟩::bf,mQ,l7,x_,x',ya,by simpa using bH,λz ar=>?_,λ_=>by simp,?_⟩
   ·rcases cO.mp ar with rfl|ar
    ·exact⟨aw,GC,bp⟩
    ·exact bO z ar
   ·rw[dv,forL];have:sT [some (.ab (.int n)),s1,some (.ab (.int x.1)),s3,s4,some (.ab (.tuple (acc.map dI))),some (.ab (.str x.2)),cy,cN,none]=some (.bY [some (.ab (.int n)),s1,some (.ab (.int x.1)),s3,some (.ab (.int q)),some (.ab (.tuple ((acc++[(⟨x.2,s,rs,u⟩:e4)]).map dI))),some (.ab (.str x.2)),some (.ab (.tuple (rs.map .str))),some (.ab (.str s)),none]):=by
     have rT:asg 4 (af oDiv (bl jF [(aA 0),(af cC (aa (.int 10)) (nm 2))]) (aa (.int 4))) [some (.ab (.int n)),s1,some (.ab (.int x.1)),s3,s4,some (.ab (.tuple (acc.map dI))),some (.ab (.str x.2)),cy,cN,none]=some (.bY [some (.ab (.int n)),s1,some (.ab (.int x.1)),s3,some (.ab (.int q)),some (.ab (.tuple (acc.map dI))),some (.ab (.str x.2)),cy,cN,none]):=by
      simp! [fK,kC,c1,en]
     have mQ:asg 7 (bl fP [(comp 1 [4] (ml (aa (.int 3))) (bJ 0) sV n7)]) [some (.ab (.int n)),s1,some (.ab (.int x.1)),s3,some (.ab (.int q)),some (.ab (.tuple (acc.map dI))),some (.ab (.str x.2)),cy,cN,none]=some (.bY [some (.ab (.int n)),s1,some (.ab (.int x.1)),s3,some (.ab (.int q)),some (.ab (.tuple (acc.map dI))),some (.ab (.str x.2)),some (.ab (.tuple (rs.map .str))),cN,none]):=by
      simp only[asg,bl,args,FC,dt,kx,fP];rfl
     unfold sT;rw[g8 rT];have fj:eZ (a0 (af gZ (af oMod (nm 4) (aa (.int 3))) (aa (.int 0)))) (a0 (af oEq (nm 2) (aa (.int 1)))) [some (.ab (.int n)),s1,some (.ab (.int x.1)),s3,some (.ab (.int q)),some (.ab (.tuple (acc.map dI))),some (.ab (.str x.2)),cy,cN,none]=some true:=by
      by_cases cV:0<r
      ·simp! [fK,fp,gZ,cV]
      ·have uV:oEq (.int x.1) (.int 1)=some (.bool true):=by rw[ji,decide_eq_true (aG.resolve_left cV)]
       simp! [fK,fp,gZ,cV,uV]
     simp only[iff,fj,dt,if_true];rw[g8 mQ];simp! [fK,fp,lW,ni,nj,n6,mz,n5,cC,bX,Lq,uw,oP,one_le,dI]
    simp only[pb,dq,gy,bJ,dt,je,i3,this];simpa using qC
  ·obtain⟨bf,mQ,l7,x_,x',ya,bH,bO,oo,qC⟩:=Kp n s1 s3 l acc (some (.ab (.int x.1))) (some (.ab (.int q))) (some (.ab (.str x.2))) cy cN kj (by omega);refine⟨bf,mQ,l7,x_,x',ya,bH.cons _,bO,λ⟨y,bN,e⟩=>oo ?_,?_⟩
   ·rcases cO.mp bN with rfl|bN
    ·exact absurd (.inr e) aG
    ·exact⟨y,bN,e⟩
   ·rw[dv,forL];have:sT [some (.ab (.int n)),s1,some (.ab (.int x.1)),s3,s4,some (.ab (.tuple (acc.map dI))),some (.ab (.str x.2)),cy,cN,none]=some (.bY [some (.ab (.int n)),s1,some (.ab (.int x.1)),s3,some (.ab (.int q)),some (.ab (.tuple (acc.map dI))),some (.ab (.str x.2)),cy,cN,none]):=by
     have eT:¬0<r:=λz=>aG (.inl z);have uV:oEq (.int x.1) (.int 1)=some (.bool false):=by rw[ji,decide_eq_false λz=>aG (.inr z)]
     simp! [fK,sT,c1,en,fp,kC,gZ,eT,uV]
    simp only[pb,dq,gy,bJ,dt,je,i3,this];exact qC
noncomputable def lM:List (Int×Str):=[(0,"a"),(1,"b"),(2,"back"),(3,"d"),(4,"hall"),(5,"r"),(6,"win"),(7,"z")]
noncomputable def rz:List (Int×Str):=[(0,"0000"),(1,"1234"),(2,"4321"),(3,"7777"),(4,"9990"),(5,"9999")]
structure ey(p:aT):Prop where
 zs:(p.bP.map (·.1)).Sublist (lM.map (·.2))
 QY:∀z∈p.bP,z.2∈kinds
 oL:p.bP≠[]
 cs:(p.codes.map (·.c')).Sublist (rz.map (·.2))
 jT:∀k∈p.codes,k.fE∈ak7/\k.iY.Sublist Dk/\k.uses∈([0,0,1,2,9]:List Int)
 w1:p.codes≠[]
 j1:p.leave∈([0,5,30,60]:List Int)
 tN:p.gG∈([0,4,20,60]:List Int)
 to:p.loud∈([1,9,120,300]:List Int)
def ah3(n:Int):∃p,ey p/\vS [.int n]=some (cm p):=by
 obtain⟨zs,s2,s3,s4,bH,bO,oo,qC⟩:=Ks n lM [] none none none (by decide) (by decide);have xF:zs≠[]:=oo (by
  have ah:0<=n / 8 % 8:=pO _ (by decide);have ao:n / 8 % 8<8:=vq _ (by decide);generalize n / 8 % 8=r at ah ao;have:r=0\/r=1\/r=2\/r=3\/r=4\/r=5\/r=6\/r=7:=by omega
  rcases this with rfl|rfl|rfl|rfl|rfl|rfl|rfl|rfl
  ·exact⟨(0,"a"),by simp[lM],rfl⟩
  ·exact⟨(1,"b"),by simp[lM],rfl⟩
  ·exact⟨(2,"back"),by simp[lM],rfl⟩
  ·exact⟨(3,"d"),by simp[lM],rfl⟩
  ·exact⟨(4,"hall"),by simp[lM],rfl⟩
  ·exact⟨(5,"r"),by simp[lM],rfl⟩
  ·exact⟨(6,"win"),by simp[lM],rfl⟩
  ·exact⟨(7,"z"),by simp[lM],rfl⟩)
 obtain⟨bf,j0,i0,t6,t7,yf,AR,N7,Y9,Y_⟩:=Kp n (some (.ab (.tuple (zs.map c_)))) s3 rz [] s2 s4 none none none (by decide) (by decide);have Yu:bf≠[]:=Y9 ⟨(1,"1234"),by simp[rz],rfl⟩;obtain⟨m,hm,c1⟩:=zd n 20 (by decide);obtain⟨q,bS,en⟩:=divQ m 4;obtain⟨r,_,UW,a1,fp⟩:=modQ q 4;obtain⟨aP,jw,lV⟩:=divQ q 4;obtain⟨bg,_,uQ,bX,lW⟩:=modQ aP 4;obtain⟨ba,jX,ni⟩:=divQ q 16;obtain⟨cf,_,w1,c8,nj⟩:=modQ ba 4;obtain⟨u,bp,n6⟩:=xM [0,5,30,60] UW a1;obtain⟨v,a',mz⟩:=xM [0,4,20,60] uQ bX;obtain⟨w,hw,n5⟩:=xM [1,9,120,300] w1 c8;simp only[dv,j3] at n6 mz n5;refine⟨⟨zs,bf,u,v,w⟩,⟨bH,bO,xF,AR,N7,Yu,bp,a',hw⟩,?_⟩;have f1:gj (j9 (hM (bQ [(aa (.str "a")),(aa (.str "b")),(aa (.str "back")),(aa (.str "d")),(aa (.str "hall")),(aa (.str "r")),(aa (.str "win")),(aa (.str "z"))]))) (dq [(bJ 2),(bJ 3)]) rx [some (.ab (.int n)),some (.ab (.tuple [])),none,none,none,none,none,none,none,none]=some (.bY [some (.ab (.int n)),some (.ab (.tuple (zs.map c_))),s2,s3,s4,none,none,none,none,none]):=by
  have:(j9 (hM (bQ [(aa (.str "a")),(aa (.str "b")),(aa (.str "back")),(aa (.str "d")),(aa (.str "hall")),(aa (.str "r")),(aa (.str "win")),(aa (.str "z"))]))) [some (.ab (.int n)),some (.ab (.tuple [])),none,none,none,none,none,none,none,none]=some (lM.map pb):=by
   simp[j9,hM,bQ,args,aa,ahx,enum,lM,pb,List.zipIdx]
  unfold gj;rw[this];exact qC
 have f2:gj (j9 (hM (bQ [(aa (.str "0000")),(aa (.str "1234")),(aa (.str "4321")),(aa (.str "7777")),(aa (.str "9990")),(aa (.str "9999"))]))) (dq [(bJ 2),(bJ 6)]) sT [some (.ab (.int n)),some (.ab (.tuple (zs.map c_))),s2,s3,s4,some (.ab (.tuple [])),none,none,none,none]=some (.bY [some (.ab (.int n)),some (.ab (.tuple (zs.map c_))),j0,s3,i0,some (.ab (.tuple (bf.map dI))),t6,t7,yf,none]):=by
  have:(j9 (hM (bQ [(aa (.str "0000")),(aa (.str "1234")),(aa (.str "4321")),(aa (.str "7777")),(aa (.str "9990")),(aa (.str "9999"))]))) [some (.ab (.int n)),some (.ab (.tuple (zs.map c_))),s2,s3,s4,some (.ab (.tuple [])),none,none,none,none]=some (rz.map pb):=by
   simp[j9,hM,bQ,args,aa,LB,enum,rz,pb,List.zipIdx]
  unfold gj;rw[this];exact Y_
 show d4 (seq (asg 1 (bQ [])) (seq (gj (j9 (hM (bQ [(aa (.str "a")),(aa (.str "b")),(aa (.str "back")),(aa (.str "d")),(aa (.str "hall")),(aa (.str "r")),(aa (.str "win")),(aa (.str "z"))]))) (dq [(bJ 2),(bJ 3)]) rx)
  (seq (asg 5 (bQ [])) (seq (gj (j9 (hM (bQ [(aa (.str "0000")),(aa (.str "1234")),(aa (.str "4321")),(aa (.str "7777")),(aa (.str "9990")),(aa (.str "9999"))]))) (dq [(bJ 2),(bJ 6)]) sT) _)))) 10 [.int n]=_
 unfold d4;have k_:seq (asg 1 (bQ []))=λb=>seq (asg 1 (bQ [])) b:=rfl;have ah:asg 1 (bQ []) [some (.ab (.int n)),none,none,none,none,none,none,none,none,none]=some (.bY [some (.ab (.int n)),some (.ab (.tuple [])),none,none,none,none,none,none,none,none]):=by simp[asg,bQ,args]
 have f9:asg 5 (bQ []) [some (.ab (.int n)),some (.ab (.tuple (zs.map c_))),s2,s3,s4,none,none,none,none,none]=some (.bY [some (.ab (.int n)),some (.ab (.tuple (zs.map c_))),s2,s3,s4,some (.ab (.tuple [])),none,none,none,none]):=by simp[asg,bQ,args]
 show (seq _ _ [some (.ab (.int n)),none,none,none,none,none,none,none,none,none]).bind _=_
 rw[g8 ah,g8 f1,g8 f9,g8 f2];simp! [fK,c1,en,fp,lV,lW,ni,nj,n6,mz,n5,uw,oP,cm]
def ey.fQ{p:aT}(h:ey p):p.bP.length<=8:=by simpa [lM] using h.zs.length_le
def ey.cl{p:aT}(h:ey p):p.codes.length<=6:=by simpa [rz] using h.cs.length_le
def p0{l:List Str}(h:l.all (λx=>(ib x).canLay0)=true:=by decide +kernel){x:Str}(hx:x∈l):cz x:=List.all_eq_true.mp h x hx
def ey.wp{p:aT}(h:ey p):Wp p:=by
 refine⟨?_,?_,?_,?_⟩
 ·exact h.cs.nodup (by decide +kernel)
 ·exact h.zs.nodup (by decide +kernel)
 ·have:=h.cl;omega
 ·have ah:=h.j1;have ao:=h.tN;have bG:=h.to;simp at ah ao bG;omega
def ey.ja{p:aT}(h:ey p):∀z∈p.bP,cz z.1/\cz z.2:=λz ar=>⟨p0 (l:=lM.map (·.2)) (hx:=h.zs.subset (dK.mpr ⟨z,ar,rfl⟩)),p0 (l:=kinds) (hx:=h.QY z ar)⟩
def ey.abb{p:aT}(h:ey p):∀k∈p.codes,cz k.c'/\cz k.fE/\∀r∈k.iY,cz r:=λk aI=>⟨p0 (l:=rz.map (·.2)) (hx:=h.cs.subset (dK.mpr ⟨k,aI,rfl⟩)),p0 (l:=ak7) (hx:=(h.jT k aI).1),λr av=>p0 (l:=Dk) (hx:=(h.jT k aI).2.1.subset av)⟩
def ey.begun{p:aT}(h:ey p):a9 p (iA p):=by
 refine⟨h.ja,h.abb,?_,a5 "off",λz e=>(nomatch e),λe=>absurd e r9,?_,?_,?_,by simp[iA],by simp[iA]⟩
 ·have:=h.fQ;omega
 ·simp[iA,kT]
 ·intro l ay;obtain⟨z,_,rfl⟩:=dK.mp ay;exact a5 "shut"
 ·simp[iA,kT]
end bq
end
section
namespace bq
open D PySem
def xO(p:aT):aK (cm p) (.int 0)=some (.tuple (p.bP.map c_)):=by simp[aK,gh,f_,cm]
def N5(p:aT):aK (cm p) (.int 1)=some (.tuple (p.codes.map dI)):=by simp[aK,gh,f_,cm]
def DG(z:Str×Str):aK (c_ z) (.int 0)=some (.str z.1):=by simp[aK,gh,f_,c_]
def aka(k:e4):aK (dI k) (.int 0)=some (.str k.c'):=by simp[aK,gh,f_,dI]
def Oh(m:Int){l:List T}(h:l≠[]):∃q:Int,0<=q/\q<l.length/\oMod (.int m) (.int l.length)=some (.int q):=by
 have ay:0<(l.length:Int):=by
  have:=List.length_pos_iff.mpr h;omega
 obtain⟨q,_,ah,ao,e⟩:=modQ m l.length ay;exact⟨q,ah,ao,e⟩
noncomputable def uD:List Str:=["0000","1234","4321","7777","9990","9999","0001","1111","5555"]
noncomputable def o1(p:aT):gT->Prop
|.line z w=>z∈p.bP.map (·.1)/\w∈(["shut","open","open","cut"]:List Str)
|.code f d z=>f∈uD/\(((d="set"\/d="unset")/\z=none)\/((d="shunt"\/d="free")/\∃x,z=some x/\x∈p.bP.map (·.1)))
|.cW n=>1<=n/\n<=1000000000
def o1.ok{p:aT}{e:gT}(h:o1 p e):lq p e:=by
 cases e with
|line z w=>
  obtain⟨ah,ao⟩:=h;simp at ao;exact⟨ah,ao⟩
|cW n=>exact h.1
|code f d z=>
  obtain⟨ah,ao⟩:=h;refine⟨p0 (l:=uD) (hx:=ah),?_,?_⟩
  ·rcases ao with ⟨ao|ao,_⟩|⟨ao|ao,_⟩
   ·exact .inl ao
   ·exact .inr (.inl ao)
   ·exact .inr (.inr (.inl ao))
   ·exact .inr (.inr (.inr ao))
  ·intro hd;rcases ao with ⟨ao|ao,_⟩|⟨_,bG⟩
   ·rcases hd with hd|hd
    ·exact absurd (ao.symm.trans hd) t9
    ·exact absurd (ao.symm.trans hd) akZ
   ·rcases hd with hd|hd
    ·exact absurd (ao.symm.trans hd) ak5
    ·exact absurd (ao.symm.trans hd) r8
   ·exact bG
noncomputable def wc:List gT:=[.code "5555" "unset" none,.code "5555" "unset" none,.code "5555" "unset" none]
end bq
end
section
namespace bq
open D PySem
noncomputable def Ji(k:Int)(w:Int×Str×Option Str):Int×Str×Option Str:=(k+w.1,w.2)
noncomputable def dY(k:Int)(pre:List (Int×Str×Option Str))(c:aJ):aJ:={c with past:=k+c.past,told:=pre++c.told.map (Ji k)}
section
variable (k:Int)(pre:List (Int×Str×Option Str))(p:aT)
def zh(w:Str)(n:Option Str)(c:aJ):tell w n (dY k pre c)=dY k pre (tell w n c):=by simp[tell,dY,Ji]
def ahF(z:Str)(c:aJ):dJ p z (dY k pre c)=dY k pre (dJ p z c):=by
 by_cases h:z∈c.b3 <;> simp[dJ,dY,h,tell,iJ,Ji]
theorem QW:∀(zs:List Str) (c:aJ),b3 p zs (dY k pre c)=dY k pre (b3 p zs c)
| [],c=>rfl
|z::zs,c=>by
  show b3 p zs (dJ p z (dY k pre c))=_
  rw[ahF,QW zs];rfl
def aeO(c:aJ):hb p (dY k pre c)=dY k pre (hb p c):=by
 show b3 p (bare p ["inner","way"] (tell "on" none {c with mode:="on",left:=0})) (tell "on" none (dY k pre {c with mode:="on",left:=0}))=_
 rw[zh,QW];rfl
def ahy(w:Str)(c:aJ):jo p w (dY k pre c)=dY k pre (jo p w c):=by
 show (if p.leave<=0 then hb p (tell "set" (some w) (dY k pre {c with b3:=[],c2:=0,mode:="leaving",left:=p.leave})) else tell "set" (some w) (dY k pre {c with b3:=[],c2:=0,mode:="leaving",left:=p.leave}))=dY k pre (if p.leave<=0 then _ else _)
 rw[zh,aeO];split <;> rfl
def afR(w:Str)(c:aJ):lU w (dY k pre c)=dY k pre (lU w c):=by
 unfold lU;rw[<- zh];rfl
def Nr(w d:Str)(z:Option Str)(c:aJ):d9 p w d z (dY k pre c)=dY k pre (d9 p w d z c):=by
 show (if d="set" then jo p w (dY k pre c) else if d="unset" then lU w (dY k pre c) else if d="shunt" then tell "shunt" z (dY k pre {c with b4:=eN (c.b4++[z.getD ""])}) else tell "free" z (dY k pre {c with b4:=c.b4.erase (z.getD "")}))=dY k pre (d9 p w d z c)
 unfold d9;rw[zh,zh,ahy,afR]
 repeat' split
 all_goals rfl
end
def agv{x a b:Int}(ae:0<=b):less (less x a) b=less x (a+b):=by
 unfold less
 repeat' split
 all_goals omega
def sf(a n:Int):less a n=max (a - n) 0:=by
 unfold less;split <;> omega
def Cj(c:aJ)(a b:Int)(ae:0<=b):e_ b (e_ a c)=e_ (a+b) c:=by
 simp[e_,agv ae,Int.add_assoc]
def Cz(p:aT)(z:Str)(c:aJ):(dJ p z c).mode=c.mode/\(dJ p z c).left=c.left/\(dJ p z c).e5=c.e5/\(dJ p z c).lines=c.lines/\(dJ p z c).b4=c.b4/\(dJ p z c).tries=c.tries/\(dJ p z c).locked=c.locked/\(dJ p z c).used=c.used/\(dJ p z c).past=c.past/\(dJ p z c).c2=p.loud:=by
 unfold dJ;split <;> simp[tell,iJ]
theorem yT(p:aT):∀(zs:List Str) (c:aJ),(b3 p zs c).mode=c.mode/\(b3 p zs c).left=c.left/\(b3 p zs c).e5=c.e5/\(b3 p zs c).lines=c.lines/\(b3 p zs c).b4=c.b4/\(b3 p zs c).tries=c.tries/\(b3 p zs c).locked=c.locked/\(b3 p zs c).used=c.used/\(b3 p zs c).past=c.past/\((b3 p zs c).c2=p.loud\/(b3 p zs c).c2=c.c2)
| [],c=>by simp[b3]
|z::zs,c=>by
  have ah:=Cz p z c;have ao:=yT p zs (dJ p z c);have e:b3 p (z::zs) c=b3 p zs (dJ p z c):=rfl;rw[e];obtain⟨a1,a2,iH,k8,kf,k9,nd,n3,kJ,n2⟩:=ah;obtain⟨bX,b9,akR,lT,zW,VO,VP,VQ,VR,VN⟩:=ao;refine⟨bX.trans a1,b9.trans a2,akR.trans iH,lT.trans k8,zW.trans kf,VO.trans k9,VP.trans nd,VQ.trans n3,VR.trans kJ,?_⟩;rcases VN with q|q
  ·exact .inl q
  ·exact .inl (q.trans n2)
def yK(p:aT)(c:aJ):(fs p c).mode="on"/\(c.left=0->(fs p c).left=0)/\(fs p c).lines=c.lines/\(fs p c).b4=c.b4/\(fs p c).tries=c.tries/\(fs p c).locked=c.locked/\(fs p c).used=c.used/\(fs p c).past=c.past/\((fs p c).c2=p.loud\/(fs p c).c2=c.c2):=by
 unfold fs;split
 ·obtain⟨a1,a2,iH,k8,kf,k9,nd,n3,kJ,n2⟩:=yT p (bare p ["inner","way"] (tell "on" none {c with mode:="on",left:=0})) (tell "on" none {c with mode:="on",left:=0});exact⟨a1,λ_=>a2,k8,kf,k9,nd,n3,kJ,n2⟩
 ·obtain⟨a1,a2,iH,k8,kf,k9,nd,n3,kJ,n2⟩:=Cz p (c.e5.getD "") {c with mode:="on",e5:=none};exact⟨a1,λh=>a2.trans h,k8,kf,k9,nd,n3,kJ,.inl n2⟩
noncomputable def p6(c:aJ):Prop:=c.mode="leaving"\/c.mode="coming"
def yN{c:aJ}(h:c.mode="on"):¬(c.mode="leaving"\/c.mode="coming"):=by
 rw[h];simp[yR,ua]
def af7(p:aT)(c:aJ)(h:p6 c->1<=c.left){a b:Int}(ax:1<=a)(ae:1<=b):cW p b (cW p a c)=cW p (a+b) c:=by
 have na:¬a<1:=by omega
 have nb:¬b<1:=by omega
 have Bi:¬a+b<1:=by omega
 by_cases aX:c.mode="leaving"\/c.mode="coming"
 ·have ay:=h aX;by_cases ah:c.left<=a
  ·have aR:cW p a c=e_ (a - c.left) (fs p (e_ c.left c)):=by
    unfold cW;rw[if_neg na,if_pos ⟨aX,ah⟩]
   have m:(e_ (a - c.left) (fs p (e_ c.left c))).mode="on":=(yK p _).1;have a7:cW p (a+b) c=e_ (a+b - c.left) (fs p (e_ c.left c)):=by
    unfold cW;rw[if_neg Bi,if_pos ⟨aX,by omega⟩]
   rw[aR,a7];unfold cW;rw[if_neg nb,if_neg (λz=>yN m z.1),Cj _ _ _ (by omega)];congr 1;omega
  ·have aR:cW p a c=e_ a c:=by
    unfold cW;rw[if_neg na,if_neg (λz=>ah z.2)]
   rw[aR];have hm:(e_ a c).mode=c.mode:=rfl;have xv:(e_ a c).left=c.left - a:=by
    show less c.left a=_
    rw[sf];omega
   by_cases ao:c.left<=a+b
   ·unfold cW;rw[if_neg nb,if_neg Bi,hm,xv,if_pos ⟨aX,by omega⟩,if_pos ⟨aX,ao⟩,Cj _ _ _ (by omega)];have aL:a+(c.left - a)=c.left:=by omega
    have bx:b - (c.left - a)=a+b - c.left:=by omega
    rw[aL,bx]
   ·unfold cW;rw[if_neg nb,if_neg Bi,hm,xv,if_neg (λz=>by have:=z.2;omega),if_neg (λz=>ao z.2),Cj _ _ _ (by omega)]
 ·have aR:cW p a c=e_ a c:=by
   unfold cW;rw[if_neg na,if_neg (λz=>aX z.1)]
  rw[aR];have hm:(e_ a c).mode=c.mode:=rfl;unfold cW;rw[if_neg nb,if_neg Bi,hm,if_neg (λz=>aX z.1),if_neg (λz=>aX z.1),Cj _ _ _ (by omega)]
def ae'(p:aT)(c:aJ)(h:p6 c->1<=c.left)(n:Int):p6 (cW p n c)->1<=(cW p n c).left:=by
 unfold cW;split
 ·exact h
 next nn=>
  split
  next q=>
   intro t;exact absurd t (yN (yK p _).1)
  next q=>
   intro t;have t':c.mode="leaving"\/c.mode="coming":=t;have:¬c.left<=n:=λz=>q ⟨t',z⟩;show 1<=less c.left n;rw[sf];omega
structure cS(c:aJ):Prop where
 gA:c.mode="off"\/c.mode="leaving"\/c.mode="on"\/c.mode="coming"
 t1:p6 c->1<=c.left/\c.left<=60
 t0:¬p6 c->c.left=0
 nB:0<=c.c2/\c.c2<=300
 lo:0<=c.locked/\c.locked<=90
 jC:0<=c.tries/\c.tries<=2
def cS.begun(p:aT):cS (iA p):=⟨.inl rfl,λh=>by rcases h with h|h;exact absurd h vD;exact absurd h r9,λ_=>rfl,by simp[iA],by simp[iA],by simp[iA]⟩
theorem ey.loud{p:aT}(h:ey p):1<=p.loud/\p.loud<=300:=by
 have:=h.to;simp at this;omega
theorem ey.leave{p:aT}(h:ey p):0<=p.leave/\p.leave<=60:=by
 have:=h.j1;simp at this;omega
theorem ey.gG{p:aT}(h:ey p):0<=p.gG/\p.gG<=60:=by
 have:=h.tN;simp at this;omega
theorem cS.tell{c:aJ}(h:cS c)(w:Str)(n:Option Str):cS (bq.tell w n c):=⟨h.gA,h.t1,h.t0,h.nB,h.lo,h.jC⟩
theorem cS.dJ{p:aT}(aC:ey p){c:aJ}(h:cS c)(z:Str):cS (bq.dJ p z c):=by
 obtain⟨a1,a2,iH,k8,kf,k9,nd,n3,kJ,n2⟩:=Cz p z c;have:=aC.loud;refine⟨by rw[a1];exact h.gA,?_,?_,by rw[n2];omega,by rw[nd];exact h.lo,by rw[k9];exact h.jC⟩
 ·unfold p6;rw[a1,a2];exact h.t1
 ·unfold p6;rw[a1,a2];exact h.t0
theorem cS.b3{p:aT}(aC:ey p):∀{zs:List Str} {c:aJ},cS c->cS (bq.b3 p zs c)
| [],_,h=>h
|z::zs,c,h=>cS.b3 aC (zs:=zs) (h.dJ aC z)
theorem cS.iL{p:aT}(aC:ey p){c:aJ}(h:cS c)(z k:Str):cS (bq.iL p z k c):=by
 have:=aC.gG;unfold bq.iL;split
 ·exact h.dJ aC z
 next q=>
  have:¬p.gG<=0:=λz=>q (.inr z);exact⟨.inr (.inr (.inr rfl)),λ_=>by show 1<=p.gG/\p.gG<=60;omega,λt=>absurd (.inr rfl) t,h.nB,h.lo,h.jC⟩
theorem cS.i9{p:aT}(aC:ey p){c:aJ}(h:cS c)(z w:Str):cS (bq.i9 p z w c):=by
 unfold bq.i9
 repeat' split
 all_goals first|exact h.dJ aC z|exact h.tell _ _|exact h.iL aC z _|exact h
theorem cS.line{p:aT}(aC:ey p){c:aJ}(h:cS c)(z w:Str):cS (bq.line p z w c):=by
 have h':cS {c with lines:=fX c.lines z w}:=⟨h.gA,h.t1,h.t0,h.nB,h.lo,h.jC⟩;unfold bq.line
 repeat' split
 all_goals first|exact h|exact h'|exact h'.tell _ _|exact h'.i9 aC z w
def vZ{x n m:Int}(a8:0<=n)(h:0<=x/\x<=m):0<=less x n/\less x n<=m:=by
 rw[sf];omega
theorem cS.hb{p:aT}(aC:ey p){c:aJ}(h:0<=c.c2/\c.c2<=300)(ao:0<=c.locked/\c.locked<=90)(bG:0<=c.tries/\c.tries<=2):cS (bq.hb p c):=
 cS.b3 aC (cS.tell (c:={c with mode:="on",left:=0}) ⟨.inr (.inr (.inl rfl)),λt=>absurd t (yN rfl),λ_=>rfl,h,ao,bG⟩ _ _)
theorem cS.mB{p:aT}(aC:ey p){c:aJ}(h0:c.left=0)(h:0<=c.c2/\c.c2<=300)(ao:0<=c.locked/\c.locked<=90)(bG:0<=c.tries/\c.tries<=2):cS (bq.mB p c):=
 cS.dJ aC (c:={c with mode:="on",e5:=none}) ⟨.inr (.inr (.inl rfl)),λt=>absurd t (yN rfl),λ_=>h0,h,ao,bG⟩ _
def cS.cd{c:aJ}(h:cS c){n:Int}(a8:0<=n)(aX:p6 c->n<c.left):cS (e_ n c):=by
 refine⟨h.gA,λt=>?_,λt=>?_,vZ a8 h.nB,vZ a8 h.lo,h.jC⟩
 ·have:=h.t1 t;have:=aX t;show 1<=less c.left n/\less c.left n<=60;rw[sf];omega
 ·have:=h.t0 t;show less c.left n=0;rw[sf];omega
theorem cS.cW{p:aT}(aC:ey p){c:aJ}(h:cS c)(n:Int):cS (bq.cW p n c):=by
 unfold bq.cW;split
 ·exact h
 ·split
  next q=>
   obtain⟨aP,ba⟩:=q;have ay:=h.t1 aP;have YA:(e_ c.left c).left=0:=by
    show less c.left c.left=0
    rw[sf];omega
   have e:cS (bq.fs p (e_ c.left c)):=by
    have s:=vZ (n:=c.left) (by omega) h.nB;have l:=vZ (n:=c.left) (by omega) h.lo;unfold bq.fs;split
    ·exact cS.hb aC s l h.jC
    ·exact cS.mB aC YA s l h.jC
   exact e.cd (by omega) λt=>absurd t (yN (yK p _).1)
  next q=>
   refine h.cd (by omega) λt=>?_
   have:¬c.left<=n:=λz=>q ⟨t,z⟩;omega
theorem cS.gO{p:aT}(aC:ey p){c:aJ}(h:cS c):cS (bq.gO p c):=by
 have:=aC.loud;have:=h.jC;unfold bq.gO;split
 ·exact⟨h.gA,h.t1,h.t0,by show 0<=p.loud/\p.loud<=300;omega,by show (0:Int)<=90/\(90:Int)<=90;omega,by show (0:Int)<=0/\(0:Int)<=2;omega⟩
 ·exact⟨h.gA,h.t1,h.t0,h.nB,h.lo,by show 0<=c.tries+1/\c.tries+1<=2;omega⟩
theorem cS.jo{p:aT}(aC:ey p){c:aJ}(h:cS c)(w:Str):cS (bq.jo p w c):=by
 have:=aC.leave;show cS (if p.leave<=0 then bq.hb p (bq.tell "set" (some w) {c with b3:=[],c2:=0,mode:="leaving",left:=p.leave}) else bq.tell "set" (some w) {c with b3:=[],c2:=0,mode:="leaving",left:=p.leave});split
 ·exact cS.hb aC (by show (0:Int)<=0/\(0:Int)<=300;omega) h.lo h.jC
 ·exact⟨.inr (.inl rfl),λ_=>by show 1<=p.leave/\p.leave<=60;omega,λt=>absurd (.inl rfl) t,by show (0:Int)<=0/\(0:Int)<=300;omega,h.lo,h.jC⟩
theorem cS.d9{p:aT}(aC:ey p){c:aJ}(h:cS c)(w d:Str)(z:Option Str):cS (bq.d9 p w d z c):=by
 unfold bq.d9;split
 ·exact h.jo aC w
 ·split
  ·exact⟨.inl rfl,λt=>(by rcases t with t|t;exact absurd t vD;exact absurd t r9),λ_=>rfl,by show (0:Int)<=0/\(0:Int)<=300;omega,h.lo,h.jC⟩
  ·split
   ·exact⟨h.gA,h.t1,h.t0,h.nB,h.lo,h.jC⟩
   ·exact⟨h.gA,h.t1,h.t0,h.nB,h.lo,h.jC⟩
theorem cS.code{p:aT}(aC:ey p){c:aJ}(h:cS c)(f d:Str)(z:Option Str):cS (bq.code p f d z c):=by
 unfold bq.code;split
 ·exact h.tell _ _
 ·split
  ·exact h.gO aC
  ·split
   ·exact h.gO aC
   ·have h0:cS {c with tries:=0}:=⟨h.gA,h.t1,h.t0,h.nB,h.lo,by show (0:Int)<=0/\(0:Int)<=2;omega⟩;unfold bq.takeRight;split
    ·refine cS.d9 aC ?_ _ _ _
     exact⟨h0.gA,h0.t1,h0.t0,h0.nB,h0.lo,h0.jC⟩
    ·exact h0.tell _ _
theorem cS.hi{p:aT}(aC:ey p){c:aJ}(h:cS c)(e:gT):cS (bq.hi p c e):=by
 cases e with
|line z w=>exact h.line aC z w
|code f d z=>exact h.code aC f d z
|cW n=>exact h.cW aC n
theorem cS.run{p:aT}(aC:ey p):∀{es:List gT} {c:aJ},cS c->cS (bq.run p c es)
| [],_,h=>h
|e::es,c,h=>cS.run aC (es:=es) (h.hi aC e)
theorem cS.fresh{c:aJ}(h:cS c):cS (bq.fresh c):=⟨h.gA,h.t1,h.t0,h.nB,h.lo,h.jC⟩
end bq
end
section
namespace bq
open D PySem
noncomputable def okN(d:Nat)(t:T):Prop:=t.canLay0=true/\t.depth<=d
theorem okN.hl{d:Nat}{t:T}(h:okN d t)(hd:d<=60:=by decide):hl t=true:=by
 unfold D.hl;rw[h.1,decide_eq_true (ma h.2 hd)];rfl
theorem zp{d:Nat}:∀{ts:List T},(∀t∈ts,okN d t)->kW ts=true/\kV ts<=d
| [],_=>by simp[kW,kV]
|t::ts,h=>by
  obtain⟨ah,ao⟩:=zp λx hx=>h x (dT _ hx);obtain⟨bG,cT⟩:=h t e9;constructor
  ·rw[kW,bG,ah];rfl
  ·rw[kV];omega
def nM{d:Nat}{ts:List T}(h:∀t∈ts,okN d t):okN (d+1) (.tuple ts):=by
 obtain⟨ah,ao⟩:=zp h;constructor
 ·rw[PyData.canLay0];exact ah
 ·rw[mX];omega
def ahe{d:Nat}{ts:List T}(h:∀t∈ts,okN d t):okN (d+1) (.list ts):=by
 obtain⟨ah,ao⟩:=zp h;constructor
 ·rw[PyData.canLay0];exact ah
 ·rw[mX];omega
def sh(d:Nat)(n:Int):okN d (.int n):=⟨rfl,by rw[mX];omega⟩
def K5(d:Nat):okN d .none:=⟨rfl,by rw[mX];omega⟩
def ahf(d:Nat)(b:Bool):okN d (.bool b):=⟨rfl,by rw[mX];omega⟩
def m5(d:Nat){x:Str}(h:cz x):okN d (.str x):=⟨h,by rw[mX];omega⟩
def LK(d:Nat){x:Option Str}(h:∀z,x=some z->cz z):okN d (dm x):=by
 cases x with
|none=>exact K5 d
|some z=>exact m5 d (h z rfl)
def Bo{d:Nat}{t:T}(h:okN d t)(hd:d<=60:=by decide):eE t t=some (.bool false):=by
 unfold eE;rw[h.hl hd,PySem.SeqAt.eqv_refl t h.1];rfl
def Rc{d:Nat}{t:T}(h:okN d t)(hd:d<=60:=by decide):oEq t t=some (.bool true):=by
 unfold oEq;rw[h.hl hd,PySem.SeqAt.eqv_refl t h.1];rfl
def Ra{p:aT}{c:aJ}(h:a9 p c):okN 2 (eK c):=by
 refine nM λt aX=>?_
 simp only[cO,gQ,or_false] at aX;rcases aX with rfl|rfl|rfl|rfl|rfl|rfl|rfl|rfl|rfl|rfl
 ·exact m5 _ h.mo
 ·exact sh _ _
 ·exact LK _ λz ar=>(h.ca z ar).1
 ·refine nM (d:=0) λt aX=>?_
  obtain⟨l,ay,rfl⟩:=dK.mp aX;exact m5 _ (h.lo l ay)
 ·refine nM (d:=0) λt aX=>?_
  obtain⟨l,ay,rfl⟩:=dK.mp aX;exact m5 _ (h.mO l ay)
 ·exact sh _ _
 ·refine nM (d:=0) λt aX=>?_
  obtain⟨l,ay,rfl⟩:=dK.mp aX;exact m5 _ (h.IU l ay)
 ·exact sh _ _
 ·exact sh _ _
 ·refine nM (d:=0) λt aX=>?_
  obtain⟨l,ay,rfl⟩:=dK.mp aX;exact sh _ _
noncomputable def dd(c:aJ):Prop:=∀w∈c.told,cz w.2.1/\∀n,w.2.2=some n->cz n
theorem dd.tell{c:aJ}(h:dd c){w:Str}{n:Option Str}(hw:cz w)(a8:∀x,n=some x->cz x):dd (bq.tell w n c):=by
 intro x hx;rcases j2.mp hx with q|q
 ·exact h x q
 ·simp at q;subst q;exact⟨hw,a8⟩
theorem dd.dJ{p:aT}{c:aJ}(h:dd c){z:Str}(ar:cz z):dd (bq.dJ p z c):=by
 unfold bq.dJ;split
 ·exact h
 ·exact dd.tell (c:={iJ p c with b3:=c.b3++[z]}) h (a5 "alarm") λx e=>e3 e▸ar
theorem dd.b3{p:aT}:∀{zs:List Str} {c:aJ},dd c->(∀z∈zs,cz z)->dd (bq.b3 p zs c)
| [],_,h,_=>h
|z::zs,c,h,ar=>dd.b3 (zs:=zs) (h.dJ (ar z e9)) λy bN=>ar y (dT _ bN)
theorem dd.iL{p:aT}{c:aJ}(h:dd c){z k:Str}(ar:cz z):dd (bq.iL p z k c):=by
 unfold bq.iL;split
 ·exact h.dJ ar
 ·exact dd.tell (c:={c with mode:="coming",left:=p.gG,e5:=some z}) h (a5 "coming") λx e=>e3 e▸ar
theorem dd.i9{p:aT}{c:aJ}(h:dd c){z w:Str}(ar:cz z):dd (bq.i9 p z w c):=by
 unfold bq.i9
 repeat' split
 all_goals first|exact h.dJ ar|exact h.tell (a5 "fault") λx e=>e3 e▸ar|exact h.iL ar|exact h
theorem dd.line{p:aT}{c:aJ}(h:dd c){z w:Str}(ar:cz z):dd (bq.line p z w c):=by
 have h':dd {c with lines:=fX c.lines z w}:=h;unfold bq.line
 repeat' split
 all_goals first|exact h|exact h'|exact h'.tell (a5 "mended") λx e=>e3 e▸ar|exact h'.i9 ar
theorem dd.hb{p:aT}{c:aJ}(h:dd c)(hw:a9 p c):dd (bq.hb p c):=
 dd.b3 (dd.tell (c:={c with mode:="on",left:=0}) h (a5 "on") λx e=>(nomatch e)) λz ar=>hw.ja (C' ar)
theorem dd.fs{p:aT}{c:aJ}(h:dd c)(hw:a9 p c)(hm:p6 c):dd (bq.fs p c):=by
 unfold bq.fs;split
 ·exact h.hb hw
 next q=>
  obtain⟨z,ar⟩:=Option.ne_none_iff_exists'.mp (hw.kK (hm.resolve_left q));unfold bq.mB;rw[ar];exact dd.dJ (c:={c with mode:="on",e5:=none}) h (hw.ca z ar).1
theorem dd.cW{p:aT}{c:aJ}(h:dd c)(hw:a9 p c)(n:Int):dd (bq.cW p n c):=by
 unfold bq.cW;split
 ·exact h
 ·split
  next q=>exact dd.fs (c:=e_ c.left c) h (hw.cd _) q.1
  ·exact h
theorem dd.gO{p:aT}{c:aJ}(h:dd c):dd (bq.gO p c):=by
 have ah:dd (lB c):=dd.tell h (a5 "wrong") λx e=>(nomatch e);unfold bq.gO;split
 ·exact dd.tell (c:=iJ p {lB c with tries:=0,locked:=90}) ah (a5 "attack") λx e=>(nomatch e)
 ·exact ah
def af0{p:aT}{c:aJ}(hw:a9 p c){k:e4}(aI:k∈p.codes){d:Str}{z:Option Str}{x:Str×Str}(h:mx p k d z c=some x):cz x.1/\cz x.2:=by
 have N0:=(hw.eB k aI).2.1;unfold mx at h;by_cases ah:(if d="free" then ("shunt":Str) else d)∈k.iY
 ·rw[if_neg (λq=>q ah)] at h;split at h
  ·cases h
   exact⟨a5 "no",N0⟩
  ·split at h
   next q=>
    cases h
    refine⟨a5 "open",?_⟩
    have ae:=q.2;cases e:bare p ["day","once"] c with
    |nil=>exact absurd e ae
    |cons b bs=>
     have:b∈bare p ["day","once"] c:=by rw[e];simp
     simpa using hw.ja (C' this)
   ·cases h
 ·rw[if_pos ah] at h;cases h;exact⟨a5 "denied",N0⟩
theorem dd.d9{p:aT}{c:aJ}(h:dd c)(hw:a9 p c){w d:Str}{z:Option Str}(how:cz w)(ar:rO p d z c):dd (bq.d9 p w d z c):=by
 rcases ar with rfl|rfl|⟨rfl,x,rfl,hx⟩|⟨rfl,x,rfl,hx⟩
 ·simp only[bq.d9,if_true];have h':dd (bq.tell "set" (some w) {c with b3:=[],c2:=0,mode:="leaving",left:=p.leave}):=dd.tell (c:={c with b3:=[],c2:=0,mode:="leaving",left:=p.leave}) h (a5 "set") λx e=>e3 e▸how;show dd (if p.leave<=0 then bq.hb p (bq.tell "set" (some w) {c with b3:=[],c2:=0,mode:="leaving",left:=p.leave}) else bq.tell "set" (some w) {c with b3:=[],c2:=0,mode:="leaving",left:=p.leave});split
  ·exact h'.hb ((hw.yb p.leave).tell _ _)
  ·exact h'
 ·simp only[bq.d9,if_neg r_,if_true];exact dd.tell (c:={c with mode:="off",left:=0,c2:=0,e5:=none,b4:=[]}) h (a5 "unset") λx e=>e3 e▸how
 ·simp only[bq.d9,if_neg r',if_neg q1,if_true];exact dd.tell (c:={c with b4:=eN (c.b4++[x])}) h (a5 "shunt") λy e=>e3 e▸hw.ja hx
 ·simp only[bq.d9,if_neg sb,if_neg pT,if_neg oM];exact dd.tell (c:={c with b4:=c.b4.erase x}) h (a5 "free") λy e=>e3 e▸hw.mO x hx
theorem dd.hi{p:aT}{c:aJ}(h:dd c)(hw:a9 p c){e:gT}(he:lq p e):dd (bq.hi p c e):=by
 cases e with
|line z w=>exact h.line (hw.ja he.1)
|cW n=>exact h.cW hw n
|code f d z=>
  show dd (bq.code p f d z c)
  unfold bq.code;split
  ·exact h.tell (a5 "locked") λx e=>(nomatch e)
  ·split
   ·exact h.gO
   next k f5=>
    have aI:=Qg f5;split
    ·exact h.gO
    ·have pG:=hw.yi 0;have h0:dd {c with tries:=0}:=h;unfold bq.takeRight;split
     next dR=>exact dd.d9 (c:={c with tries:=0,used:=h4 c.used k.c'}) h (pG.add k.c') (hw.eB k aI).2.1 (LL he.2.1 he.2.2 dR)
     next dR=>
      have:=af0 pG aI dR;exact h0.tell this.1 λx e=>e3 e▸this.2
theorem dd.run{p:aT}:∀{es:List gT} {c:aJ},dd c->a9 p c->(∀e∈es,lq p e)->dd (bq.run p c es)
| [],_,h,_,_=>h
|e::es,c,h,hw,he=>dd.run (es:=es) (h.hi hw (he e e9)) (hw.hi (he e e9)) λy bN=>he y (dT _ bN)
theorem dd.fresh(c:aJ):dd (bq.fresh c):=λw hw=>by cases hw
def ahd{c:aJ}(h:dd c):okN 2 (.tuple (c.told.map fq)):=by
 refine nM λt aX=>?_
 obtain⟨w,hw,rfl⟩:=dK.mp aX;refine nM λt aX=>?_;simp only[cO,gQ,or_false] at aX;rcases aX with rfl|rfl|rfl
 ·exact sh _ _
 ·exact m5 _ (h w hw).1
 ·exact LK _ (h w hw).2
end bq
end
section
namespace bq
open D PySem
def jG{i:Nat}{f:bI}{b:bz}{ag:Ev}{t:T}{r:Option Out}(h:f ag=some t)(ao:b (ag.set i (some (.ab t)))=r):seq (asg i f) b ag=r:=by
 rw[g8 (ε':=ag.set i (some (.ab t))),ao];unfold asg;rw[h];rfl
def kA{c:fg}{a b:bz}{ag:Ev}{r:Option Out}(h:c ag=some false)(ao:b ag=r):seq (iff c a skip) b ag=r:=by
 rw[g8 (ε':=ag),ao];unfold iff;rw[h];rfl
def iw{a b:bz}{ag ε':Ev}{r:Option Out}(h:a ag=some (.bY ε'))(ao:b ε'=r):seq a b ag=r:=by rw[g8 h,ao]
theorem denied{p:aT}{c:aJ}{k:e4}{d:Str}(hd:d="set"\/d="unset")(av:d∉k.iY):takeRight p k d none c=tell "denied" (some k.fE) c:=by
 have:mx p k d none c=some (("denied":Str),k.fE):=by
  rcases hd with rfl|rfl <;> simp[mx,akZ,r8,av]
 unfold takeRight;rw[this]
def agl(d:Nat){i:Int}{w:Str}{n:Option Str}(hw:cz w)(a8:∀x,n=some x->cz x):okN (d+1) (.tuple [.int i,.str w,dm n]):=nM λx hx=>by
 simp only[cO,gQ,or_false] at hx;rcases hx with rfl|rfl|rfl
 ·exact sh _ _
 ·exact m5 _ hw
 ·exact LK _ a8
def iff_eq{c:fg}{x y:bz}{ag:Ev}{b:Bool}(h:c ag=some b):iff c x y ag=if b then x ag else y ag:=by
 unfold iff;rw[h];rfl
end bq
end
section
namespace bq
open D PySem
theorem Dq{α:Type}{enc x y g:α->T}{q:α->Bool}{cc:fg}{fb:bI}{caps:Ev}(he:∀a,enc a=.tuple [x a,y a]):∀(ts:List α) (s0 s1:Option aO),(∀a∈ts,cc (some (.ab (x a))::some (.ab (y a))::caps)=some (q a)/\(q a=true->fb (some (.ab (x a))::some (.ab (y a))::caps)=some (g a)))->gf (dq [(bJ 0),(bJ 1)]) cc fb (ts.map enc) (s0::s1::caps)=some ((ts.filter q).map g)
| [],_,_,_=>rfl
|a::ts,s0,s1,h=>by
  have b7:=Dq he ts (some (.ab (x a))) (some (.ab (y a))) λb ae=>h b (dT _ ae);obtain⟨h0,ah⟩:=h a (by simp);rw[dv,gf,he a];simp only[dq,gy,bJ,dt,i3,je,h0];cases bS:q a with
  |true=>simp only[if_true,ah bS,dt,b7,kx,List.filter_cons,bS,dv]
  |false=>simp only[j5,if_false,b7,List.filter_cons,bS]
noncomputable def oR(p:aT)(c:aJ):List Str:=((p.bP.zip c.lines).filter λx=>!decide (x.2.2=("shut":Str))).map λx=>x.1.1
def agX(p:aT)(c:aJ)(h:a9 p c):zt [cm p,eK c]=some (.tuple [.str c.mode,.bool (decide (c.c2 > 0)),.tuple ((oR p c).map .str)]):=by
 have rJ:(p.bP.zip c.lines).length<=big:=by
  have:=h.fQ;rw[List.length_zip];unfold big;omega
 have L1:List.zipWith (λx y=>PyData.tuple [x,y]) (p.bP.map c_) (c.lines.map λl=>.str l.2)=(p.bP.zip c.lines).map λx=>.tuple [c_ x.1,.str x.2.2]:=by
  rw[List.zipWith_map,List.zip,List.map_zipWith]
 have aG:=Dq (enc:=λx:(Str×Str)×(Str×Str)=>.tuple [c_ x.1,.str x.2.2]) (x:=λx=>c_ x.1) (y:=λx=>.str x.2.2) (g:=λx=>.str x.1.1) (q:=λx=>!decide (x.2.2=("shut":Str))) (cc:=a0 (af eE (nm 1) (aa (.str "shut")))) (fb:=af aK (nm 0) (aa (.int 0))) (caps:=[]) (λ_=>rfl) (p.bP.zip c.lines) none none (λx hx=>by
  have om:=(List.of_mem_zip hx).2;have q:=kB (h.lo _ om) (a5 "shut");refine⟨by simp! [fK,q],λ_=>?_⟩;simp! [hF,c_])
 have b:Ly [some (.ab (cm p)),some (.ab (eK c)),none]=some (.e1 (.tuple [.str c.mode,.bool (decide (c.c2 > 0)),.tuple ((oR p c).map .str)])):=by
  unfold Ly;refine jG (t:=.list ((oR p c).map .str)) ?_ ?_
  ·have it:m9 (hM (af aK (nm 0) (aa (.int 0)))) (hM (af aK (nm 1) (aa (.int 3)))) [some (.ab (cm p)),some (.ab (eK c)),none]=some ((p.bP.zip c.lines).map λx=>.tuple [c_ x.1,.str x.2.2]):=by
    rw[<- L1];rfl
   unfold comp;rw[it];simp only[dt,g6];rw[if_pos rJ];show (gf _ _ _ _ [none,none]).map _=_;rw[aG];simp[oR,kT]
  simp only[je,i3];simp! [hF,eK,gZ,fP,oP]
 unfold zt d4;simp only[dv,j3,g5,qX,vr,tV];exact congrArg (λo=>Option.bind o _) b
def agm(d:Nat){p:aT}{c:aJ}(h:a9 p c)(b:Bool):okN (d+2) (.tuple [.str c.mode,.bool b,.tuple ((oR p c).map .str)]):=nM λx hx=>by
 simp only[cO,gQ,or_false] at hx;rcases hx with rfl|rfl|rfl
 ·exact m5 _ h.mo
 ·exact ahf _ _
 ·refine nM λx hx=>?_
  obtain⟨y,bN,rfl⟩:=dK.mp hx;obtain⟨w,hw,rfl⟩:=dK.mp bN;exact m5 _ (h.zn _ (List.of_mem_zip (List.mem_filter.mp hw).1).1).1
end bq
end
section
namespace qc
open D bq
end qc
end
section
namespace qc
open D bq
open PySem hiding run fresh code
local instance:c5:=⟨[],λ_=>[],λ_=>none⟩
end qc
end
section
namespace qc
open D bq
open PySem hiding run fresh code
local instance:c5:=⟨[],λ_=>[],λ_=>none⟩
end qc
end
section
namespace L6
open D bq qc
end L6
end
section
namespace qc
open D bq L6
open PySem hiding run fresh code
local instance:c5:=⟨[],λ_=>[],λ_=>none⟩
end qc
end
section
namespace cu
open D bq
end cu
end
section
namespace cu
open D PySem
noncomputable def ls(x:Str):List Nat:=x.cps.toList
noncomputable def st(l:List Nat):Str:=⟨l.toArray⟩
def Dy(x:Str):x.length=(ls x).length:=by simp[Str.length,ls]
def wq(x y:Str):ls (x++y)=ls x++ls y:=by
 show (x.cps++y.cps).toList=_
 simp[ls]
noncomputable def N8(c:Nat):List (List Nat)->List Nat
| []=>[]
| [p]=>p
|p::q::r=>p++c::N8 c (q::r)
noncomputable def asc(l:List Nat):Prop:=∀a∈l,a<128
def Qj(x:Str):LV x=true <-> asc (ls x):=by
 unfold LV asc ls;rw[List.all_eq_true];constructor
 ·intro h a ax;exact of_decide_eq_true (h a ax)
 ·intro h a ax;exact decide_eq_true (h a ax)
def Q4{x:Str}(h:asc (ls x)):PyData.strOk x=true:=by
 unfold PyData.strOk;rw[<- Array.all_toList,List.all_eq_true];intro a ax;have:=h a ax;exact decide_eq_true (by omega)
def v'{a b:List Nat}(ah:asc a)(ao:asc b):asc (a++b):=λx hx=>(j2.mp hx).elim (ah x) (ao x)
end cu
end
section
namespace cu
open D bq PySem
section
variable {f g:bI}{gx gt:fg}{ag:Ev}{a b:Bool}
def wY(hf:f ag=some (.bool a))(bt:a=true->g ag=some (.bool b)):iI f g ag=some (.bool (a && b)):=by
 cases a with
|true=>simp[iI,hf,bt rfl]
|false=>simp[iI,hf]
def x4(hf:f ag=some (.bool a))(bt:a=false->g ag=some (.bool b)):jb f g ag=some (.bool (a || b)):=by
 cases a with
|false=>simp[jb,hf,bt rfl]
|true=>simp[jb,hf]
def _i(hf:f ag=some (.bool a)):tD f ag=some (.bool !a):=by simp[tD,hf]
def BK(hf:f ag=some (.bool a)):a0 f ag=some a:=by simp[a0,hf]
def IX(hf:gx ag=some a)(bt:a=false->gt ag=some b):eZ gx gt ag=some (a || b):=by
 cases a with
|false=>simp[eZ,hf,bt rfl]
|true=>simp[eZ,hf]
def wX(hf:gx ag=some a)(bt:a=true->gt ag=some b):ei gx gt ag=some (a && b):=by
 cases a with
|true=>simp[ei,hf,bt rfl]
|false=>simp[ei,hf]
def Oy{d:List T->Option T}{t:T}(h:f ag=some t):bl d [f] ag=d [t]:=by simp[bl,args,h]
def px{o:T->T->Option T}{t u:T}(h:f ag=some t)(ao:g ag=some u):af o f g ag=o t u:=by simp[af,h,ao]
end
mutual
noncomputable def mE:T->Bool
|.str x=>LV x && decide (x.length<=1000000)
|.tuple ts=>xf ts
|.list ts=>xf ts
|.dict _=>false
|_=>true
noncomputable def xf:List T->Bool
| []=>true
|t::ts=>mE t && xf ts
end
mutual
theorem QN:∀{t:T},mE t=true->t.canLay0=true
|.str x,h=>by
  rw[mE,iu] at h;rw[PyData.canLay0];exact Q4 ((Qj x).mp h.1)
|.tuple ts,h=>by
  rw[mE] at h;rw[PyData.canLay0];exact Kq h
|.list ts,h=>by
  rw[mE] at h;rw[PyData.canLay0];exact Kq h
|.dict _,h=>by simp[mE] at h
|.none,_=>rfl
|.int _,_=>rfl
|.bool _,_=>rfl
theorem Kq:∀{ts:List T},xf ts=true->kW ts=true
| [],_=>rfl
|t::ts,h=>by
  rw[xf,iu] at h;rw[kW,QN h.1,Kq h.2];rfl
end
structure zO(d:Nat)(t:T):Prop where
 g:mE t=true
 d:t.depth<=d
theorem zO.okN{d:Nat}{t:T}(h:zO d t):bq.okN d t:=⟨QN h.g,h.d⟩
def XS{d:Nat}{x:Str}(h:asc (ls x))(ay:x.length<=1000000):zO d (.str x):=⟨by rw[mE,iu];exact⟨(Qj x).mpr h,decide_eq_true ay⟩,by rw[mX];omega⟩
end cu
end
section
namespace cu
open D bq PySem
def Rb{ss:List Str}(h:∀s∈ss,asc (ls s)):ox (ss.map .str)=true:=by
 unfold ox;have:=zp (d:=0) (ts:=ss.map .str) λt aX=>by
  obtain⟨s,aw,rfl⟩:=dK.mp aX;exact⟨by rw[PyData.canLay0];exact Q4 (h s aw),by rw[mX];omega⟩
 rw[this.1,Bool.true_and];exact decide_eq_true (by omega)
end cu
end
section
namespace cu
open D bq PySem
end cu
end
section
namespace cu
open D bq PySem
def sS{s:Str}(h:((ls s).all λc=>decide (c<128))=true:=by decide +kernel):asc (ls s):=λa ax=>of_decide_eq_true (List.all_eq_true.mp h a ax)
end cu
end
section
namespace cu
open D bq PySem
end cu
end
section
namespace rk
open D
noncomputable def ahD:bz:=
  (seq (iff (a0 (af oEq (af aK (nm 0) (aa (.int 0))) (nm 1))) (cI (af aK (nm 0) (aa (.int 1)))) skip) (seq (iff (a0 (af oEq (af aK (nm 0) (aa (.int 1))) (nm 1))) (cI (af aK (nm 0) (aa (.int 0)))) skip) (cI (aa .none))))
noncomputable def ahA:List T->Option T:=d4 ahD 2
noncomputable def ub:bz:=
  (seq (iff (a0 (af oLt (nm 1) (bl hD [(nm 0)]))) (cI (af aK (nm 0) (nm 1))) skip) (cI (aa (.int 0))))
noncomputable def m2:List T->Option T:=d4 ub 2
noncomputable def um:bz:=
  (seq (asg 2 (af oMod (af ef (af cC (af cC (bl m2 [(aA 0),(aA 1)]) (af ef (aa (.int 7919)) (nm 1))) (aa (.int 1))) (aa (.int 48271))) (aa (.int 2147483647)))) (cI (af oMod (af cC (af cC (af ef (nm 2) (nm 2)) (af ef (aa (.int 7)) (nm 2))) (nm 1)) (aa (.int 2147483629)))))
noncomputable def lH:List T->Option T:=d4 um 3
noncomputable def uo:bz:=
  (seq (asg 2 (af oMod (af ef (af cC (af cC (nm 0) (af ef (aa (.int 104729)) (nm 1))) (aa (.int 17))) (aa (.int 69621))) (aa (.int 2147483647)))) (cI (af oMod (af cC (af cC (af ef (nm 2) (nm 2)) (af ef (aa (.int 3)) (nm 2))) (nm 1)) (aa (.int 2147483629)))))
noncomputable def jF:List T->Option T:=d4 uo 3
end rk
end
section
namespace UI
noncomputable def UY(e:Int×Int)(x:Int):Option Int:=if e.1=x then some e.2 else if e.2=x then some e.1 else none
noncomputable def Within(R:Int)(E:List (Int×Int)):Prop:=∀e∈E,0<=e.1/\e.1<=R/\0<=e.2/\e.2<=R
noncomputable def inner(h:Int):List (Int×Int)->List Int->List Int->List Int×List Int
| [],r,w=>(r,w)
|e::es,r,w=>match UY e h with
  |some t=>if t∈r then inner h es r w else inner h es (r++[t]) (w++[t])
  |none=>inner h es r w
end UI
end
section
namespace rk
open PySem D
abbrev Op:=Int×Int×Option Str
noncomputable def zT:Option Str->T
|none=>.none
|some x=>.str x
noncomputable def free(ns:List Str)(o:Op):Bool:=match o.2.2 with
|none=>true
|some x=>decide (x∈ns)
noncomputable def lp:Option Int->T
|some t=>.int t
|none=>.none
def ji(a b:Int):oEq (.int a) (.int b)=some (.bool (decide (a=b))):=by
 simp[oEq,sg,hX,Bool.beq_eq_decide_eq]
def g8{a b:bz}{ag ε':Ev}(h:a ag=some (.bY ε')):seq a b ag=b ε':=by
 simp only[seq,h,dt]
noncomputable def cP(r:List Int):List (Key×T):=r.map λx=>(Sum.inl x,.bool true)
end rk
end
section
namespace rk
open PySem D
noncomputable def uT(rec:List T->Option T):bz:=(seq (asg 6 (bl ahA [(aA 5),(af aK (nm 2) (fo qF (aa (.int 1))))])) (iff (ei (a0 (fo jm (nm 6))) (a0 (af (da true) (nm 6) (nm 2)))) (ext 3 (comp 1 [4] (df (bl rec [(aA 0),(aA 1),(af cC (nm 2) (bQ [(aA 6)]))])) (bJ 0) (fi true) (af cC (bQ [(aA 1)]) (nm 0)))) skip))
end rk
end
section
namespace rk
open PySem D
noncomputable def eF(ns:List Int):T:=.list (ns.map .int)
def Lv(ns:List Int)(k:Nat):m2 [eF ns,.int k]=some (.int (ns.getD k 0)):=by
 by_cases h:k<ns.length
 ·have h':(k:Int)<(ns.length:Int):=by omega
  simp[m2,ub,eF,d4,seq,iff,a0,i1,ei,eZ,jZ,fi,ofT,fo,af,bl,args,aa,nm,aA,cI,skip,asg,jR,hR,par,bQ,ew,hU,jm,aK,gh,f_,bJ,dq,gy,df,comp,iz,cC,km,ef,oDiv,oMod,qF,hD,x2,akS,fP,DF,Bn,oLt,oLe,gZ,rN,big,h,h',List.getD]
 ·have h':¬(k:Int)<(ns.length:Int):=by omega
  simp[m2,ub,eF,d4,seq,iff,a0,i1,ei,eZ,jZ,fi,ofT,fo,af,bl,args,aa,nm,aA,cI,skip,asg,jR,hR,par,bQ,ew,hU,jm,aK,gh,f_,bJ,dq,gy,df,comp,iz,cC,km,ef,oDiv,oMod,qF,hD,x2,akS,fP,DF,Bn,oLt,oLe,gZ,rN,big,h,h',List.getD]
def lL{i j:Int}(h:-(2 ^ 64)<j/\j<2 ^ 64):ef (.int i) (.int j)=some (.int (i*j)):=by
 unfold ef wC;simp only[decide_eq_true h.1,decide_eq_true h.2,Bool.and_self,Bool.or_true,if_true]
def p3{i j:Int}(h:0<j):oMod (.int i) (.int j)=some (.int (i % j)):=if_pos h
def SQ{i j:Int}(h:0<j/\j<1073741824):oDiv (.int i) (.int j)=some (.int (i / j)):=if_pos h
def kC{i j:Int}:cC (.int i) (.int j)=some (.int (i+j)):=rfl
def C8(ns:List Int)(k:Nat):∃m:Int,0<=m/\lH [eF ns,.int k]=some (.int m):=by
 have aG:=Lv ns k;have hd:0<=(ns.getD k 0+7919*(k:Int)+1)*48271 % 2147483647/\(ns.getD k 0+7919*(k:Int)+1)*48271 % 2147483647<2147483647:=⟨pO _ (by decide),vq _ (by decide)⟩;generalize hx:(ns.getD k 0+7919*(k:Int)+1)*48271 % 2147483647=d at hd;refine⟨(d*d+7*d+k) % 2147483629,pO _ (by decide),?_⟩;have eC:lH [eF ns,.int k]=(um [some (.ab (eF ns)),some (.ab (.int k)),none]).bind λo=>match o with|.e1 t=>some t|.bY _=>some .none|_=>none:=rfl
 have i':ef (.int 7919) (.int k)=some (.int (7919*k)):=by
  unfold ef wC;simp
 have ou:aA 0 [some (.ab (eF ns)),some (.ab (.int k)),none]=some (eF ns):=rfl;have gY:aA 1 [some (.ab (eF ns)),some (.ab (.int k)),none]=some (.int k):=rfl;have Iq:nm 1 [some (.ab (eF ns)),some (.ab (.int k)),none]=some (.int k):=rfl;have s1:asg 2 (af oMod (af ef (af cC (af cC (bl m2 [(aA 0),(aA 1)]) (af ef (aa (.int 7919)) (nm 1))) (aa (.int 1))) (aa (.int 48271))) (aa (.int 2147483647))) [some (.ab (eF ns)),some (.ab (.int k)),none]=some (.bY [some (.ab (eF ns)),some (.ab (.int k)),some (.ab (.int d))]):=by
  simp only[asg,af,bl,args,ou,gY,Iq,dt,kx,aG,aa,i',kC,lL (i:=ns.getD k 0+7919*(k:Int)+1) (j:=48271) (by decide),p3 (j:=2147483647) (by decide),hx];rfl
 have kQ:ef (.int d) (.int d)=some (.int (d*d)):=lL (by omega);have rM:ef (.int 7) (.int d)=some (.int (7*d)):=lL (by omega);rw[eC];unfold um;rw[g8 s1];have ba:nm 2 [some (.ab (eF ns)),some (.ab (.int k)),some (.ab (.int d))]=some (.int d):=rfl;have aP:nm 1 [some (.ab (eF ns)),some (.ab (.int k)),some (.ab (.int d))]=some (.int k):=rfl;simp only[cI,af,ba,aP,dt,kx,aa,kQ,rM,kC,p3 (j:=2147483629) (by decide)]
def zd(n k:Int)(aI:-(2 ^ 64)<k/\k<2 ^ 64):∃m:Int,0<=m/\jF [.int n,.int k]=some (.int m):=by
 have hd:0<=(n+104729*k+17)*69621 % 2147483647/\(n+104729*k+17)*69621 % 2147483647<2147483647:=⟨pO _ (by decide),vq _ (by decide)⟩;generalize hx:(n+104729*k+17)*69621 % 2147483647=d at hd;refine⟨(d*d+3*d+k) % 2147483629,pO _ (by decide),?_⟩;have eC:jF [.int n,.int k]=(uo [some (.ab (.int n)),some (.ab (.int k)),none]).bind λo=>match o with|.e1 t=>some t|.bY _=>some .none|_=>none:=rfl
 have i':ef (.int 104729) (.int k)=some (.int (104729*k)):=lL aI;have ou:nm 0 [some (.ab (.int n)),some (.ab (.int k)),none]=some (.int n):=rfl;have gY:nm 1 [some (.ab (.int n)),some (.ab (.int k)),none]=some (.int k):=rfl;have s1:asg 2 (af oMod (af ef (af cC (af cC (nm 0) (af ef (aa (.int 104729)) (nm 1))) (aa (.int 17))) (aa (.int 69621))) (aa (.int 2147483647))) [some (.ab (.int n)),some (.ab (.int k)),none]=some (.bY [some (.ab (.int n)),some (.ab (.int k)),some (.ab (.int d))]):=by
  simp only[asg,af,ou,gY,dt,kx,aa,i',kC,lL (i:=n+104729*k+17) (j:=69621) (by decide),p3 (j:=2147483647) (by decide),hx];rfl
 have kQ:ef (.int d) (.int d)=some (.int (d*d)):=lL (by omega);have rM:ef (.int 3) (.int d)=some (.int (3*d)):=lL (by omega);rw[eC];unfold uo;rw[g8 s1];have ba:nm 2 [some (.ab (.int n)),some (.ab (.int k)),some (.ab (.int d))]=some (.int d):=rfl;have aP:nm 1 [some (.ab (.int n)),some (.ab (.int k)),some (.ab (.int d))]=some (.int k):=rfl;simp only[cI,af,ba,aP,dt,kx,aa,kQ,rM,kC,p3 (j:=2147483629) (by decide)]
noncomputable def names5:List Str:=["a","b","back","hall","win"]
noncomputable def UM(R:Int)(o:Op):Prop:=0<=o.1/\o.1<o.2.1/\o.2.1<=R/\∀x,o.2.2=some x->x∈names5
structure Drawn(R:Int)(os:List Op):Prop where
 bg:1<=R
 pC:R<=7
 len:os.length<=10
 ok:∀o∈os,UM R o
noncomputable def w0:bz:=(seq (asg 4 (af oDiv (bl jF [(aA 0),(af cC (aa (.int 50)) (nm 3))]) (aa (.int 4)))) (seq (asg 5 (af oMod (nm 4) (af cC (nm 1) (aa (.int 1))))) (seq (asg 6 (af oMod (af cC (af cC (nm 5) (aa (.int 1))) (af oMod (af oDiv (nm 4) (aa (.int 8))) (nm 1))) (af cC (nm 1) (aa (.int 1))))) (seq (asg 7 (af aK (bQ [(aa .none),(aa .none),(aa (.str "a")),(aa (.str "b")),(aa (.str "back")),(aa (.str "hall")),(aa (.str "win"))]) (af oMod (af oDiv (nm 4) (aa (.int 64))) (aa (.int 7))))) (asg 2 (af cC (nm 2) (bQ [(bQ [(bl x2 [(nm 5),(nm 6)]),(bl akS [(nm 5),(nm 6)]),(aA 7)])])))))))
def vT(i:Int)(h0:0<=i)(xh:i<7)(ag:Ev):∃z:Option Str,(bQ [(aa .none),(aa .none),(aa (.str "a")),(aa (.str "b")),(aa (.str "back")),(aa (.str "hall")),(aa (.str "win"))] ag).bind (λt=>aK t (.int i))=some (zT z)/\∀x,z=some x->x∈names5:=by
 have aG:i=0\/i=1\/i=2\/i=3\/i=4\/i=5\/i=6:=by omega
 have e:bQ [(aa .none),(aa .none),(aa (.str "a")),(aa (.str "b")),(aa (.str "back")),(aa (.str "hall")),(aa (.str "win"))] ag=some (.tuple [.none,.none,.str "a",.str "b",.str "back",.str "hall",.str "win"]):=by
  simp[bQ,args,aa,big]
 rw[e];rcases aG with rfl|rfl|rfl|rfl|rfl|rfl|rfl
 ·exact⟨none,rfl,λx h=>by cases h⟩
 ·exact⟨none,rfl,λx h=>by cases h⟩
 ·exact⟨some "a",rfl,λx h=>by cases h;simp[names5]⟩
 ·exact⟨some "b",rfl,λx h=>by cases h;simp[names5]⟩
 ·exact⟨some "back",rfl,λx h=>by cases h;simp[names5]⟩
 ·exact⟨some "hall",rfl,λx h=>by cases h;simp[names5]⟩
 ·exact⟨some "win",rfl,λx h=>by cases h;simp[names5]⟩
end rk
end
section
namespace cu
open D bq PySem
noncomputable def ace(ps:List Str):List Nat:=N8 32 (ps.map ls)++[10]
noncomputable def adQ(rs:List (List Str)):List Nat:=(rs.map ace).flatten
noncomputable def yl(rs:List (List Str)):Str:=st (adQ rs)
end cu
end
section
namespace cu
open D bq PySem
structure Ow(o:rk.Op):Prop where
 a:0<=o.1/\o.1<1000000000
 b:0<=o.2.1/\o.2.1<1000000000
 z:∀x,o.2.2=some x->x.length<=100/\asc (ls x)
end cu
end
section
namespace cu
open D bq PySem
end cu
end
section
namespace cu
open D bq PySem
noncomputable def hd(s:Str)(ps:List Str):Bool:=decide (ps.head?=some s)
end cu
end
section
namespace cu
open D bq PySem
end cu
end
section
namespace cu
open D bq PySem
end cu
end
section
namespace cu
open D bq PySem
noncomputable def aba(q:Str):Prop:=32∉ls q/\10∉ls q
structure Cl(ps:List Str):Prop where
 ne:ps≠[]
 p:∀q∈ps,aba q
end cu
end
section
namespace cu
open D bq PySem
def ne_self{d:Nat}{f g:bI}{ag:Ev}{t:T}(hf:f ag=some t)(bt:g ag=some t)(h:zO d t)(hd:d<=60:=by decide):a0 (af eE f g) ag=some false:=by
 refine BK ?_
 rw[px hf bt];exact bq.Bo h.okN hd
end cu
end
section
namespace cu
open D bq PySem
end cu
end
section
namespace cu
open D bq PySem
mutual
noncomputable def nb:T->Bool
|.bool _=>false
|.dict _=>false
|.tuple ts=>u6 ts
|.list ts=>u6 ts
|_=>true
noncomputable def u6:List T->Bool
| []=>true
|t::ts=>nb t && u6 ts
end
mutual
theorem ajt:∀{t u:T},nb t=true->nb u=true->hX t u=true->t=u
|.none,u,_,_,h=>by cases u <;> simp[hX] at h;rfl
|.bool _,_,h,_,_=>by simp[nb] at h
|.dict _,_,h,_,_=>by simp[nb] at h
|.int i,u,_,bp,h=>by
  cases u <;> simp[hX] at h
  ·simp[nb] at bp
  ·rw[h]
|.str x,u,_,_,h=>by
  cases u <;> simp[hX] at h
  rw[h]
|.list xs,u,aX,bp,h=>by
  cases u <;> simp only[hX,j5] at h
  rw[nb] at aX bp;rw[Lr aX bp h]
|.tuple xs,u,aX,bp,h=>by
  cases u <;> simp only[hX,j5] at h
  rw[nb] at aX bp;rw[Lr aX bp h]
theorem Lr:∀{ts us:List T},u6 ts=true->u6 us=true->PyData.eqvAll ts us=true->ts=us
| [],[],_,_,_=>rfl
| [],_::_,_,_,h=>by simp[PyData.eqvAll] at h
|_::_,[],_,_,h=>by simp[PyData.eqvAll] at h
|t::ts,u::us,aX,bp,h=>by
  rw[u6,iu] at aX bp;rw[PyData.eqvAll,iu] at h;rw[ajt aX.1 bp.1 h.1,Lr aX.2 bp.2 h.2]
end
def aiO:([34,39].all λq=>(List.range 128).all λc=>(Builtin.Str.reprChar q c).all λa=>decide (a<128))=true:=by decide +kernel
def aiN{q c:Nat}(bS:q=34\/q=39)(aG:c<128):asc (Builtin.Str.reprChar q c):=λa ax=>by
 have ah:=List.all_eq_true.mp aiO q (by rcases bS with rfl|rfl <;> simp);have ao:=List.all_eq_true.mp ah c (List.mem_range.mpr aG);exact of_decide_eq_true (List.all_eq_true.mp ao a ax)
def OJ(x:Str):reprQuote x=34\/reprQuote x=39:=by
 unfold reprQuote;split
 ·exact .inl rfl
 ·exact .inr rfl
theorem Rg{q:Nat}(bS:q=34\/q=39):∀(l:List Nat) (acc:Array Nat),asc l->asc acc.toList->asc (l.foldl (λout c=>out++(Builtin.Str.reprChar q c).toArray) acc).toList
| [],acc,_,h=>h
|c::l,acc,ay,h=>by
  rw[List.foldl_cons];refine Rg bS l _ (λa ax=>ay a (dT _ ax)) ?_;rw[Array.toList_append];exact v' h (aiN bS (ay c (by simp)))
def aca{x:Str}(h:asc (ls x)):asc (ls (reprText x)):=by
 have NA:∀a∈[reprQuote x],a<128:=λa ax=>by
  rw[kS.mp ax];rcases OJ x with e|e <;> rw[e] <;> omega
 show asc ((x.cps.foldl (λout c=>out++(Builtin.Str.reprChar (reprQuote x) c).toArray) #[reprQuote x]).push (reprQuote x)).toList
 rw[Array.toList_push,<- Array.foldl_toList];exact v' (Rg (OJ x) _ _ h NA) NA
structure ql(B:Nat)(t:T):Prop where
 dY:t.showable=true
 aW:t.hasDict=false
 as:asc (ls t.shown)
 le:t.shown.length<=B
def ql.mono{B C:Nat}{t:T}(h:ql B t)(aG:B<=C):ql C t:=⟨h.dY,h.aW,h.as,ma h.le aG⟩
theorem Kb:∀ts:List T,PyData.shownAll ts=ts.map PyData.shown
| []=>PyData.shownAll_nil
|t::ts=>by rw[PyData.shownAll_cons,Kb ts];rfl
theorem QD{s:Str}(aw:asc (ls s)):∀ps:List Str,(∀p∈ps,asc (ls p))->asc (ls (Str.join s ps))
| [],_=>λa ax=>by cases ax
| [p],h=>by rw[PyProof.Rows.join_one];exact h p (by simp)
|p::q::r,h=>by
  rw[PyProof.Rows.join_cons_cons,wq,wq];exact v' (v' (h p (by simp)) aw) (QD aw (q::r) λy bN=>h y (dT _ bN))
theorem Sd:∀{ts:List T},(∀t∈ts,t.showable=true)->PyData.showableAll ts=true
| [],_=>rfl
|t::ts,h=>by rw[PyData.showableAll,h t (by simp),Sd λu bp=>h u (dT _ bp)];rfl
theorem SG:∀{ts:List T},(∀t∈ts,t.hasDict=false)->PyData.hasDictAll ts=false
| [],_=>rfl
|t::ts,h=>by rw[PyData.hasDictAll,h t (by simp),SG λu bp=>h u (dT _ bp)];rfl
theorem Sa{B:Nat}:∀{ps:List Nat},(∀p∈ps,p<=B)->ps.sum<=ps.length*B
| [],_=>by simp
|p::ps,h=>by
  have ah:=h p (by simp);have ao:=Sa λq bS=>h q (dT p bS);rw[List.sum_cons,g5,Nat.succ_mul];omega
def OU{B n:Nat}{ts:List T}(h:∀t∈ts,ql B t)(a8:ts.length<=n):ql (n*(B+2)+4) (.tuple ts):=by
 have a7:asc (ls (", ":Str)):=sS;have bR:(", ":Str).length=2:=by decide +kernel
 have gi:asc (ls ("(":Str)):=sS;have jq:asc (ls (if ts.length==1 then ",)" else ")":String)):=by split <;> exact sS
 have Be:("(":Str).length=1:=by decide +kernel
 have Bf:(Str.ofString (if ts.length==1 then ",)" else ")":String)).length<=2:=by split <;> decide +kernel
 have bD:=StrLaws.join_length_le ", " (ts.map PyData.shown);rw[bR,g6,nJ] at bD;have aw:=Sa (ps:=ts.map (Str.length ∘ PyData.shown)) (B:=B) λp aC=>by
  obtain⟨t,aX,rfl⟩:=dK.mp aC;exact (h t aX).le
 rw[g6] at aw;have hm:ts.length*(B+2)<=n*(B+2):=Nat.mul_le_mul_right _ a8;rw[Nat.mul_add] at hm;refine⟨by rw[PyData.showable];exact Sd λt aX=>(h t aX).dY,by rw[PyData.hasDict];exact SG λt aX=>(h t aX).aW,?_,?_⟩
 ·rw[PyData.shown_tuple,Kb,wq,wq];refine v' (v' gi (QD a7 _ λp aC=>?_)) jq;obtain⟨t,aX,rfl⟩:=dK.mp aC;exact (h t aX).as
 ·rw[PyData.shown_tuple,Kb,Dy,wq,wq,qV,qV,<- Dy,<- Dy,<- Dy];have:(List.map (Str.length ∘ PyData.shown) ts).sum<=ts.length*B:=aw;have akx:(Str.join ", " (List.map PyData.shown ts)).length<=(List.map (Str.length ∘ PyData.shown) ts).sum+ts.length*2:=bD;omega
end cu
end
section
namespace DK
open D bq qc
open PySem hiding run fresh code
local instance:c5:=⟨[],λ_=>[],λ_=>none⟩
noncomputable def rP(x:Str):Prop:=cu.asc (cu.ls x)/\x.length<=10
def aid(x:Str)(ah:((cu.ls x).all λc=>decide (c<128))=true:=by decide +kernel)(ao:x.length<=10:=by decide +kernel):rP x:=⟨cu.sS ah,ao⟩
structure UP(p:aT):Prop where
 z:∀{x:Str},x∈p.bP.map (·.1)->rP x
 w:∀k∈p.codes,rP k.fE
def Q'{l:List Str}(h:l.all (λx=>((cu.ls x).all λc=>decide (c<128)) && decide (x.length<=10))=true:=by decide +kernel){x:Str}(hx:x∈l):rP x:=by
 have:=List.all_eq_true.mp h x hx;rw[iu] at this;exact⟨cu.sS this.1,of_decide_eq_true this.2⟩
def ajY{p:aT}(aC:ey p):UP p:=⟨λ{x} hx=>Q' (l:=lM.map (·.2)) (hx:=aC.zs.subset hx),λk aI=>Q' (l:=ak7) (hx:=(aC.jT k aI).1)⟩
structure Sg(b:Int)(c:aJ):Prop where
 Br:0<=c.past
 to:∀w∈c.told,(0<=w.1/\w.1<=c.past)/\rP w.2.1/\∀n,w.2.2=some n->rP n
 ln:∀l∈c.lines,rP l.2
 us:∀u∈c.used,0<=u.2/\u.2<=b
def OT{x:Str}(h:rP x):cu.ql 150 (.str x):=
 ⟨rfl,rfl,by rw[PyData.shown_str];exact cu.aca h.1,by
  rw[PyData.shown_str];have:=StrLaws.reprText_len x λc aG=>by
   have:=h.1 c aG;omega
  have:=h.2;omega⟩
def adf{b:Bool}:cu.ql 150 (.bool b):=by
 cases b
 ·exact⟨rfl,rfl,cu.sS,by decide +kernel⟩
 ·exact⟨rfl,rfl,cu.sS,by decide +kernel⟩
end DK
end
section
namespace kd
open D bq
open PySem hiding run fresh code
noncomputable def b6(c:aJ)(l:List Str):List aO:=[.ab (.str c.mode),.ab (.int c.left),.ab (dm c.e5),.own (c.lines.map λz=>.str z.2),.own (l.map .str),.ab (.int c.c2),.own (c.b3.map .str),.ab (.int c.tries),.ab (.int c.locked),.own (c.used.map λu=>.int u.2),.ab (.int c.past),.own (c.told.map fq)]
abbrev b_(p:aT)(c:aJ)(l:List Str)(r:Ev):Ev:=some (.ab (cm p))::some (.obj .cM 1 (b6 c l))::r
section
variable (c:aJ)(l:List Str)
def wu:(b6 c l).length=12:=rfl
def x0:(b6 c l)[0]?=some (.ab (.str c.mode)):=rfl
def aL:(b6 c l)[1]?=some (.ab (.int c.left)):=rfl
def bx:(b6 c l)[2]?=some (.ab (dm c.e5)):=rfl
def d6:(b6 c l)[3]?=some (.own (c.lines.map λz=>.str z.2)):=rfl
def l9:(b6 c l)[4]?=some (.own (l.map .str)):=rfl
def nD:(b6 c l)[5]?=some (.ab (.int c.c2)):=rfl
def Jz:(b6 c l)[6]?=some (.own (c.b3.map .str)):=rfl
def lC:(b6 c l)[7]?=some (.ab (.int c.tries)):=rfl
def mU:(b6 c l)[8]?=some (.ab (.int c.locked)):=rfl
def qR:(b6 c l)[9]?=some (.own (c.used.map λu=>.int u.2)):=rfl
def Jx:(b6 c l)[10]?=some (.ab (.int c.past)):=rfl
def Jy:(b6 c l)[11]?=some (.own (c.told.map fq)):=rfl
def JC(x:Str):(b6 c l).set 0 (.ab (.str x))=b6 {c with mode:=x} l:=rfl
def tR(x:Int):(b6 c l).set 1 (.ab (.int x))=b6 {c with left:=x} l:=rfl
def oH(x:Str):(b6 c l).set 2 (.ab (.str x))=b6 {c with e5:=some x} l:=rfl
def JG:(b6 c l).set 2 (.ab .none)=b6 {c with e5:=none} l:=rfl
def BQ(m:List (Str×Str)):(b6 c l).set 3 (.own (m.map λz=>.str z.2))=b6 {c with lines:=m} l:=rfl
def BR(m:List Str):(b6 c l).set 4 (.own (m.map .str))=b6 c m:=rfl
def JH:(b6 c l).set 4 (.own [])=b6 c []:=rfl
def q0(x:Int):(b6 c l).set 5 (.ab (.int x))=b6 {c with c2:=x} l:=rfl
def JI(m:List Str):(b6 c l).set 6 (.own (m.map .str))=b6 {c with b3:=m} l:=rfl
def JK:(b6 c l).set 6 (.own [])=b6 {c with b3:=[]} l:=rfl
def JJ(m:List Str)(z:Str):(b6 c l).set 6 (.own (m.map .str++[.str z]))=b6 {c with b3:=m++[z]} l:=by simp[b6]
def JL(x:Int):(b6 c l).set 7 (.ab (.int x))=b6 {c with tries:=x} l:=rfl
def JM(x:Int):(b6 c l).set 8 (.ab (.int x))=b6 {c with locked:=x} l:=rfl
def BS(m:List (Str×Int)):(b6 c l).set 9 (.own (m.map λu=>.int u.2))=b6 {c with used:=m} l:=rfl
def JD(x:Int):(b6 c l).set 10 (.ab (.int x))=b6 {c with past:=x} l:=rfl
def JF:(b6 c l).set 11 (.own [])=b6 {c with told:=[]} l:=rfl
def JE(m:List (Int×Str×Option Str))(i:Int)(w:Str)(n:Option Str):(b6 c l).set 11 (.own (m.map fq++[.tuple [.int i,.str w,dm n]]))=b6 {c with told:=m++[(i,w,n)]} l:=by simp[b6,fq]
end
end kd
open D bq kd
open PySem hiding run fresh code
local macro_rules
| `(tactic| simp! [yc,$xs,*] $[$l]?)=>`(tactic| simp[runM,jc,j7,m7,ct,d1,lN,hn,nQ,iZ,cx,g9,nf,jQ,gb,akQ,fld,eS,lY,kM,lX,oW,oY,nR,never,rv,nv,i5,d4,seq,iff,a0,i1,ei,eZ,jZ,fi,ofT,fo,af,bl,args,aa,nm,aA,cI,skip,asg,jR,hR,par,bQ,ew,hU,jm,aK,gh,f_,bJ,dq,gy,df,comp,iz,wu,x0,aL,bx,d6,l9,nD,Jz,lC,mU,qR,Jx,Jy,JC,tR,oH,JG,BQ,BR,JH,q0,JI,JK,JJ,JL,JM,BS,JD,JF,JE,dp,$xs,*] $[$l]?)
local macro_rules
| `(tactic| simp! [ir,$xs,*] $[$l]?)=>`(tactic| simp[runM,jc,j7,m7,ct,d1,lN,hn,nQ,iZ,cx,g9,nf,jQ,gb,akQ,fld,eS,lY,kM,lX,oW,oY,nR,never,rv,nv,i5,d4,seq,iff,a0,i1,ei,eZ,jZ,fi,ofT,fo,af,bl,args,aa,nm,aA,cI,skip,asg,jR,hR,par,bQ,ew,hU,jm,bJ,dq,gy,df,comp,iz,wu,x0,aL,bx,d6,l9,nD,Jz,lC,mU,qR,Jx,Jy,JC,tR,oH,JG,BQ,BR,JH,q0,JI,JK,JJ,JL,JM,BS,JD,JF,JE,dp,$xs,*] $[$l]?)
namespace kd
open D bq
open PySem hiding run fresh code
def ale(c:aJ)(l:List Str)(w:Str)(n:Option Str)(h:c.told.length<big):eM [.obj .cM 1 (b6 c l),.ab (.str w),.ab (dm n)]=some (.none,b6 (tell w n c) l):=by
 have h':c.told.length<16777216:=h;simp! [yc,eM,R1,tell,big,h']
def C5(c:aJ)(l:List Str)(w:Str)(h:c.told.length<big):eM [.obj .cM 1 (b6 c l),.ab (.str w),.ab .none]=some (.none,b6 (tell w none c) l):=ale c l w none h
def q5(c:aJ)(l:List Str)(w z:Str)(h:c.told.length<big):eM [.obj .cM 1 (b6 c l),.ab (.str w),.ab (.str z)]=some (.none,b6 (tell w (some z) c) l):=ale c l w (some z) h
def Kn(p:aT)(c:aJ)(l:List Str)(z:Str)(h:a9 p c)(ar:cz z)(aX:c.told.length<big):mf [.ab (cm p),.obj .cM 1 (b6 c l),.ab (.str z)]=some (.none,b6 (dJ p z c) l):=by
 have ax:=h.EI;have og:da true (.str z) (.list (c.b3.map .str))=some (.bool (!decide (z∈c.b3))):=by rw[p1 true ar h.IU];rfl
 have e7:c.b3.length<16777216:=by omega
 by_cases hm:z∈c.b3
 ·simp! [yc,mf,KQ,cm,og,hm,dJ,iJ]
 ·have j1:({c with c2:=p.loud,b3:=c.b3++[z]}:aJ).told.length<big:=aX;simp! [yc,mf,KQ,cm,og,hm,dJ,iJ,big,e7,q5 _ l "alarm" z j1]
theorem lookup_at:∀{l:List (Str×Str)} {i:Nat} {z w:Str},(l.map (·.1)).Nodup->l[i]?=some (z,w)->l.lookup z=some w
| [],_,_,_,_,e=>by simp at e
|x::l,0,z,w,_,e=>by
  simp at e;subst e;simp[i4]
|x::l,i+1,z,w,aW,e=>by
  have gK:(x.1::l.map (·.1)).Nodup:=aW;have ne:z≠x.1:=λq=>by
   have:(z,w)∈l:=ky (by simpa using e);exact (d0.mp gK).1 (dK.mpr ⟨_,this,q⟩)
  obtain⟨a,b⟩:=x;have ae:(z==a)=false:=beq_eq_false_iff_ne.mpr ne;simp only[i4,ae];exact lookup_at (i:=i) (d0.mp gK).2 (by simpa using e)
def Dn{p:aT}{c:aJ}(h:a9 p c)(aC:Wp p){i:Nat}{z:Str×Str}(e:p.bP[i]?=some z):c.lines[i]?=some (z.1,dB c z.1):=by
 have ah:(c.lines.map (·.1))[i]?=some z.1:=by rw[h.ln,hK,e];rfl
 rw[hK] at ah;cases a7:c.lines[i]? with
|none=>rw[a7] at ah;cases ah
|some y=>
  rw[a7] at ah;obtain⟨a,b⟩:=y;have ax:a=z.1:=by simpa using ah
  subst ax;have aW:(c.lines.map (·.1)).Nodup:=by rw[h.ln];exact aC.wa
  unfold dB;rw[lookup_at aW a7];rfl
def RS{p:aT}{c:aJ}(h:a9 p c)(aC:Wp p){i:Nat}{z:Str×Str}(e:p.bP[i]?=some z):aK (.list (c.lines.map λz=>.str z.2)) (.int (i:Nat))=some (.str (dB c z.1)):=by
 have ah:=Dn h aC e;have ay:i<c.lines.length:=(fe.mp ah).1;have bG:f_ (c.lines.map λz=>(ib z.2:T)).length (i:Int)=some i:=by
  have q:(i:Int)<((c.lines.map λz=>(ib z.2:T)).length:Nat):=by simp;omega
  rw[f_,if_pos (by omega),if_pos q];simp
 show (f_ (c.lines.map λz=>(ib z.2:T)).length (i:Int)).bind (λj=>(c.lines.map λz=>(ib z.2:T))[j]?)=_
 rw[bG,dt,hK,ah];rfl
noncomputable def jJ(c:aJ)(zs:List (Str×Str)):List Str:=((zs.filter λz=>decide (z.2∈(["inner","way"]:List Str))).map (·.1)).filter λz=>decide (dB c z≠"shut") && !decide (z∈c.b4)
noncomputable def zY:bz:=(iff (ei (a0 (af (da false) (nm 4) (bQ [(aa (.str "way")),(aa (.str "inner"))]))) (ei (a0 (af eE (af aK (fld 1 1 3) (nm 2)) (aa (.str "shut")))) (a0 (af (da true) (nm 3) (fld 1 1 4))))) (ct (dp 1 mf [(aA 0)] 1 [(aA 3)])) skip)
def akl(p:aT)(c:aJ)(l:List Str)(i:Nat)(z:Str×Str)(h:a9 p c)(aC:Wp p)(ay:∀x,x∈l <-> x∈c.b4)(e:p.bP[i]?=some z)(aX:c.told.length<big):
  zY (b_ p c l [some (.ab (.int (i:Nat))),some (.ab (.str z.1)),some (.ab (.str z.2))]) =
   some (.bY (b_ p (b3 p (jJ c [z]) c) l [some (.ab (.int (i:Nat))),some (.ab (.str z.1)),some (.ab (.str z.2))])):=by
 have ar:=ky e;have qB:=h.zn z ar;have aP:da false (.str z.2) (.tuple [.str "way",.str "inner"])=some (.bool (decide (z.2∈(["inner","way"]:List Str)))):=by
  have:=oQ false (n:=z.2) (ns:=["way","inner"]) qB.2 (by
   intro k aI;simp at aI;rcases aI with rfl|rfl
   ·exact a5 "way"
   ·exact a5 "inner")
  simp only[dv,j3,j5,if_false] at this;rw[this];congr 2;simp only[cO,gQ,or_false];exact decide_eq_decide.mpr Or.comm
 have ba:=RS h aC e;have cU:=kB (h.rQ z.1) (a5 "shut");have gM:da true (.str z.1) (.list (l.map .str))=some (.bool (!decide (z.1∈c.b4))):=by
  rw[p1 true qB.1 λx hx=>h.mO x ((ay x).mp hx)];simp[ay]
 have dR:=Kn p c l z.1 h qB.1 aX;have dk:jJ c [z]=if (decide (z.2∈(["inner","way"]:List Str)) && (!decide (dB c z.1="shut") && !decide (z.1∈c.b4)))=true then [z.1] else []:=by
  unfold jJ;by_cases ah:z.2∈(["inner","way"]:List Str)
  ·rw[List.filter_cons,if_pos (decide_eq_true ah),decide_eq_true ah,List.filter_nil,dv,j3,List.filter_cons,List.filter_nil];by_cases ao:dB c z.1="shut" <;> by_cases bG:z.1∈c.b4 <;> simp[ao,bG]
  ·rw[List.filter_cons,if_neg (by simpa using ah),decide_eq_false ah,List.filter_nil];rfl
 rw[dk];clear dk;generalize decide (z.2∈(["inner","way"]:List Str))=bX at aP ⊢;generalize decide (dB c z.1="shut")=b9 at cU ⊢;generalize decide (z.1∈c.b4)=akR at gM ⊢;cases bX <;> cases b9 <;> cases akR <;> simp! [ir,zY,m6,aP,ba,cU,gM,dR,b3]
def afY(c:aJ)(z:Str×Str)(zs:List (Str×Str)):jJ c (z::zs)=jJ c [z]++jJ c zs:=by
 unfold jJ;rw[<- List.filter_append,<- List.map_append,<- List.filter_append];rfl
def ae_(p:aT)(c:aJ)(xs:List Str)(zs:List (Str×Str)):jJ (b3 p xs c) zs=jJ c zs:=by
 obtain⟨_,_,_,k8,kf,_⟩:=yT p xs c;unfold jJ dB;rw[k8,kf]
def aeQ(p:aT)(xs ys:List Str)(c:aJ):b3 p (xs++ys) c=b3 p ys (b3 p xs c):=by simp[b3]
def agM{c:aJ}{zs:List (Str×Str)}{x:Str}(h:x∈jJ c zs):x∈zs.map (·.1):=by
 unfold jJ at h;obtain⟨y,bN,rfl⟩:=dK.mp (List.mem_filter.mp h).1;exact dK.mpr ⟨y,(List.mem_filter.mp bN).1,rfl⟩
def agN(c:aJ)(zs:List (Str×Str)):(jJ c zs).length<=zs.length:=by
 unfold jJ;have ah:=oI (λz=>decide (dB c z≠"shut") && !decide (z∈c.b4)) ((zs.filter λz=>decide (z.2∈(["inner","way"]:List Str))).map (·.1));have ao:=oI (λz:Str×Str=>decide (z.2∈(["inner","way"]:List Str))) zs;rw[g6] at ah;omega
theorem RM(p:aT)(l:List Str)(aC:Wp p):∀(zs:List (Str×Str)) (i:Nat) (c:aJ) (s2 s3 s4:Option aO),a9 p c->(∀j,zs[j]?=p.bP[i+j]?)->(∀x,x∈l <-> x∈c.b4)->c.told.length+zs.length<big ->
  ∃j0 t3 i0,forL (dq [(bJ 2),(dq [(bJ 3),(bJ 4)])]) zY (((zs.map c_).zipIdx i).map λq=>.tuple [.int q.2,q.1]) (b_ p c l [s2,s3,s4])=some (.bY (b_ p (b3 p (jJ c zs) c) l [j0,t3,i0]))
| [],i,c,s2,s3,s4,_,_,_,_=>⟨s2,s3,s4,rfl⟩
|z::zs,i,c,s2,s3,s4,h,ar,ay,aX=>by
  have e:p.bP[i]?=some z:=by
   have:=ar 0;simpa using this.symm
  have YV:∀x∈jJ c [z],x∈p.bP.map (·.1):=λx hx=>by
   have:=agM hx;simp at this;exact dK.mpr ⟨z,ky e,this.symm⟩
  have ah:=akl p c l i z h aC ay e (by simp at aX;omega);have k:=yT p (jJ c [z]) c;have ho:=a9.b3 h YV;have t1:=Kk p (jJ c [z]) c;have bX:=agN c [z];obtain⟨j0,t3,i0,b7⟩:=RM p l aC zs (i+1) (b3 p (jJ c [z]) c) (some (.ab (.int (i:Nat)))) (some (.ab (.str z.1))) (some (.ab (.str z.2))) ho (λj=>by
   have:=ar (j+1);rw[pM] at this;rw[this];congr 1;omega) (λx=>by rw[k.2.2.2.2.1];exact ay x) (by simp at aX bX;omega)
  refine⟨j0,t3,i0,?_⟩
  rw[afY,aeQ];rw[ae_] at b7;rw[dv,List.zipIdx_cons,dv,forL];show Option.bind (some ((b_ p c l [some (.ab (.int (i:Nat))),some (.ab (.str z.1)),some (.ab (.str z.2))]):Ev)) _=_;rw[dt,ah,dt];exact b7
def RO(p:aT)(c:aJ)(l:List Str)(h:a9 p c)(aC:Wp p)(h0:c.left=0)(ay:∀x,x∈l <-> x∈c.b4)(aX:c.told.length+50<big):p4 [.ab (cm p),.obj .cM 1 (b6 c l)]=some (.none,b6 (hb p c) l):=by
 have ho:=(h.on 0).tell "on" none;have ha:({c with mode:="on" }:aJ)={c with mode:="on",left:=0}:=by rw[<- h0]
 have bB:=C5 {c with mode:="on",left:=0} l "on" (by show c.told.length<big;omega);have ar:=h.fQ;obtain⟨j0,t3,i0,ot⟩:=RM p l aC p.bP 0 (tell "on" none {c with mode:="on",left:=0}) none none none ho (λj=>by rw[Nat.zero_add]) ay (by
  have:(tell "on" none {c with mode:="on",left:=0}:aJ).told.length=c.told.length+1:=by simp[tell]
  omega)
 have s1:(cx 1 1 0 (aa (.str "on"))) (b_ p c l [none,none,none])=some (.bY (b_ p {c with mode:="on",left:=0} l [none,none,none])):=by
  rw[<- ha];rfl
 have s2:(ct (dp 1 eM [] 1 [(aa (.str "on")),(aa .none)])) (b_ p {c with mode:="on",left:=0} l [none,none,none])=some (.bY (b_ p (tell "on" none {c with mode:="on",left:=0}) l [none,none,none])):=by
  simp! [ir,bB]
 have s3:(gj (j9 (hM (af aK (nm 0) (aa (.int 0))))) (dq [(bJ 2),(dq [(bJ 3),(bJ 4)])]) zY) (b_ p (tell "on" none {c with mode:="on",left:=0}) l [none,none,none])=some (.bY (b_ p (hb p c) l [j0,t3,i0])):=by
  unfold gj;rw[show j9 (hM (af aK (nm 0) (aa (.int 0)))) (b_ p (tell "on" none {c with mode:="on",left:=0}) l [none,none,none])=some (((p.bP.map c_).zipIdx 0).map λq=>.tuple [.int q.2,q.1]) from rfl,dt];exact ot
 have g0:LS (b_ p c l [none,none,none])=some (.bY (b_ p (hb p c) l [j0,t3,i0])):=by
  show (seq _ (seq _ _)) _=_
  simp only[seq,s1,dt,s2];exact s3
 show (LS (b_ p c l [none,none,none])).bind _=_
 rw[g0];rfl
def VW{c:aJ}(ah:0<=c.locked)(ao:0<=c.c2)(bG:0<=c.left):e_ 0 c=c:=by
 have e:∀x:Int,0<=x->less x 0=x:=λx hx=>by
  rw[sf];omega
 unfold e_;rw[e _ ah,e _ ao,e _ bG,Int.add_zero]
def ahk(x:Int):akS [.int 0,.int (x - 1)]=some (.int (less x 1)):=by
 unfold less;by_cases h:0 > x - 1
 ·rw[if_pos h];simp[akS];omega
 ·rw[if_neg h];simp[akS];omega
def af8(p:aT)(c:aJ)(l:List Str)(k:bz):(seq (cx 1 1 10 (af cC (fld 1 1 10) (aa (.int 1))))
  (seq (cx 1 1 8 (bl akS [(aa (.int 0)),(af km (fld 1 1 8) (aa (.int 1)))]))
  (seq (cx 1 1 5 (bl akS [(aa (.int 0)),(af km (fld 1 1 5) (aa (.int 1)))])) k))) (b_ p c l [none])=k (b_ p {c with past:=c.past+1,locked:=less c.locked 1,c2:=less c.c2 1} l [none]):=by
 simp! [ir,cC,km,ahk]
noncomputable def uS:bz:=(iff (a0 (af oEq (fld 1 1 1) (aa (.int 0)))) (seq (asg 2 (eS 1 1 2)) (iff (a0 (af oEq (fld 1 1 0) (aa (.str "leaving")))) (ct (dp 1 p4 [(aA 0)] 1 [])) (seq (cx 1 1 0 (aa (.str "on"))) (seq (cx 1 1 2 (aa .none)) (ct (dp 1 mf [(aA 0)] 1 [(aA 2)])))))) skip)
def ji(a b:Int):oEq (.int a) (.int b)=some (.bool (decide (a=b))):=by
 unfold oEq;rw[sg,sg];by_cases e:a=b <;> simp[hX,e]
def aiw(p:aT)(c:aJ)(l:List Str)(h:c.left≠0):uS (b_ p c l [none])=some (.bY (b_ p c l [none])):=by
 simp! [ir,uS,ji,h]
def ajB(p:aT)(c:aJ)(l:List Str)(h:a9 p c)(aC:Wp p)(h0:c.left=0)(aX:c.mode="leaving"\/c.mode="coming")(ay:∀x,x∈l <-> x∈c.b4)(ae:c.told.length+50<big):
  ∃s2,uS (b_ p c l [none])=some (.bY (b_ p (fs p c) l [s2])):=by
 rcases aX with hm|hm
 ·have c1:=RO p c l h aC h0 ay ae;refine⟨some (.ab (dm c.e5)),?_⟩;have q:=cR (a5 "leaving") (a5 "leaving");simp only[uS,d4,seq,iff,a0,i1,ei,eZ,jZ,fi,ofT,fo,af,bl,args,aa,nm,aA,cI,skip,asg,jR,hR,par,bQ,ew,hU,jm,bJ,dq,gy,df,comp,iz,runM,jc,j7,m7,ct,d1,lN,hn,nQ,iZ,cx,g9,nf,jQ,gb,akQ,fld,eS,lY,kM,lX,oW,oY,nR,never,rv,nv,i5,wu,x0,aL,bx,d6,l9,nD,Jz,lC,mU,qR,Jx,Jy,JC,tR,oH,JG,BQ,BR,JH,q0,JI,JK,JJ,JL,JM,BS,JD,JF,JE,dp,ji,h0,hm,fs];simp! [ir,ji,h0,hm,q,c1,fs]
 ·obtain⟨z,ar⟩:=Option.ne_none_iff_exists'.mp (h.kK hm);have dR:=Kn p {c with mode:="on",e5:=none} l z h.IV (h.ca z ar).1 (by show c.told.length<big;omega);refine⟨some (.ab (.str z)),?_⟩;rw[h0] at dR;have q:=cR (a5 "coming") (a5 "leaving");simp! [ir,uS,ji,h0,hm,q,ar,dm,dR,fs,mB,yD]
def agw(p:aT)(c:aJ)(l:List Str)(h:a9 p c)(aC:Wp p)(a':cS c)(ay:∀x,x∈l <-> x∈c.b4)(ae:c.told.length+50<big):ze [.ab (cm p),.obj .cM 1 (b6 c l)]=some (.none,b6 (cW p 1 c) l):=by
 have q:da false (.str c.mode) (.tuple [.str "leaving",.str "coming"])=some (.bool (decide (c.mode="leaving"\/c.mode="coming"))):=by
  have:=oQ false (n:=c.mode) (ns:=["leaving","coming"]) h.mo (by
   intro k aI;simp at aI;rcases aI with rfl|rfl
   ·exact a5 "leaving"
   ·exact a5 "coming")
  simpa using this
 have main:∃s2,Dc (b_ p c l [none])=some (.bY (b_ p (cW p 1 c) l [s2])):=by
  unfold Dc;rw[af8];show ∃s2,(iff (a0 (af (da false) (fld 1 1 0) (bQ [(aa (.str "leaving")),(aa (.str "coming"))]))) (seq (cx 1 1 1 (af km (fld 1 1 1) (aa (.int 1)))) uS) skip) _=_;by_cases aX:c.mode="leaving"\/c.mode="coming"
  ·have ju:=(a'.t1 aX).1;rw[decide_eq_true aX] at q;have f6:less c.left 1=c.left - 1:=by
    rw[sf];omega
   have st:∀k:bz,(iff (a0 (af (da false) (fld 1 1 0) (bQ [(aa (.str "leaving")),(aa (.str "coming"))]))) (seq (cx 1 1 1 (af km (fld 1 1 1) (aa (.int 1)))) k) skip) (b_ p {c with past:=c.past+1,locked:=less c.locked 1,c2:=less c.c2 1} l [none])=k (b_ p (e_ 1 c) l [none]):=λk=>by
    simp! [ir,km,m6,q,e_,f6]
   rw[st];by_cases ah:c.left<=1
   ·have c1:c.left=1:=by omega
    have z6:(e_ 1 c).left=0:=by
     show less c.left 1=0
     rw[f6,c1];rfl
    obtain⟨s2,dk⟩:=ajB p (e_ 1 c) l (h.cd 1) aC z6 aX ay ae;refine⟨s2,?_⟩;rw[dk];have bB:cW p 1 c=fs p (e_ 1 c):=by
     unfold cW;rw[if_neg (by omega),if_pos ⟨aX,ah⟩,c1];obtain⟨a1,a2,iH,k8,kf,k9,nd,n3,kJ⟩:=yK p (e_ 1 c);have eY:=vZ (x:=c.locked) (n:=1) (by omega) a'.lo;have dV:=vZ (x:=c.c2) (n:=1) (by omega) a'.nB;refine VW ?_ ?_ ?_
     ·rw[k9];exact eY.1
     ·rcases kJ with kJ|kJ
      ·rw[kJ];exact aC.oE.2.2
      ·rw[kJ];exact dV.1
     ·rw[a2 z6];exact Int.le_refl 0
    rw[bB]
   ·have z6:(e_ 1 c).left≠0:=by
     show less c.left 1≠0
     rw[f6];omega
    refine⟨none,?_⟩
    rw[aiw p _ l z6];have bB:cW p 1 c=e_ 1 c:=by
     unfold cW;rw[if_neg (by omega),if_neg λz=>ah z.2]
    rw[bB]
  ·have h0:=a'.t0 aX;rw[decide_eq_false aX] at q;refine⟨none,?_⟩;have bB:cW p 1 c={c with past:=c.past+1,locked:=less c.locked 1,c2:=less c.c2 1}:=by
    unfold cW;rw[if_neg (by omega),if_neg λz=>aX z.1];unfold e_;have:less c.left 1=c.left:=by
     rw[h0];rfl
    rw[this]
   rw[bB];simp! [ir,m6,q]
 obtain⟨s2,e⟩:=main;show (Dc (b_ p c l [none])).bind _=_;rw[e];rfl
theorem vT:∀(zs:List (Str×Str)) (z:Str),z∈zs.map (·.1)->zs[(zs.map (·.1)).idxOf z]?=some (z,(((zs.find? λx=>decide (x.1=z)).map (·.2)).getD ("":Str):Str))
| [],z,h=>by simp at h
|x::zs,z,h=>by
  by_cases e:x.1=z
  ·subst e;simp[List.idxOf_cons]
  ·have h':z∈zs.map (·.1):=by
    rcases cO.mp (show z∈x.1::zs.map (·.1) from h) with q|q
    ·exact absurd q.symm e
    ·exact q
   have ae:(x.1==z)=false:=beq_eq_false_iff_ne.mpr e;rw[dv,List.idxOf_cons,ae,j4,decide_eq_false e];simpa using vT zs z h'
theorem Qq:∀{l:List (Str×Str)} {z w:Str},z∉l.map (·.1)->fX l z w=l
| [],_,_,_=>rfl
|x::l,z,w,h=>by
  have ah:x.1≠z:=λq=>h (by simp[q]);have ao:z∉l.map (·.1):=λq=>h (by simp[dK] at q ⊢;exact .inr q);show (if x.1=z then (z,w) else x)::fX l z w=_;rw[if_neg ah,Qq ao]
theorem Li:∀{l:List (Str×Str)} {i:Nat} {z w o:Str},(l.map (·.1)).Nodup->l[i]?=some (z,o)->fX l z w=l.set i (z,w)
| [],_,_,_,_,_,e=>by simp at e
|x::l,0,z,w,o,aW,e=>by
  simp at e;subst e;have gK:(z::l.map (·.1)).Nodup:=aW;show (if z=z then (z,w) else (z,o))::fX l z w=_;rw[if_pos rfl,Qq (d0.mp gK).1];rfl
|x::l,i+1,z,w,o,aW,e=>by
  have gK:(x.1::l.map (·.1)).Nodup:=aW;have ne:x.1≠z:=λq=>by
   have:(z,o)∈l:=ky (by simpa using e);exact (d0.mp gK).1 (dK.mpr ⟨_,this,q.symm⟩)
  show (if x.1=z then (z,w) else x)::fX l z w=_
  rw[if_neg ne,Li (d0.mp gK).2 (show l[i]?=some (z,o) by simpa using e)];rfl
def aeU(zs:List (Str×Str)):strsOf (zs.map λz=>.str z.1)=some (zs.map (·.1)):=by
 have:=vH (zs.map (·.1));rw[nJ] at this;exact this
def agu(p:aT)(c:aJ)(l:List Str)(z w:Str)(k:bz)(h:a9 p c)(aC:Wp p)(ar:z∈p.bP.map (·.1)):∃lj i,(seq (asg 4 (comp 1 [] (df (af aK (nm 0) (aa (.int 0)))) (bJ 0) (fi true) (af aK (nm 0) (aa (.int 0)))))
  (seq (asg 5 (af wo (nm 4) (nm 2)))
  (seq (asg 6 (af aK (fld 1 1 3) (nm 5)))
  (seq (rg 1 1 3 (aA 5) (aA 3))
  (seq (asg 7 (af aK (af aK (af aK (nm 0) (aa (.int 0))) (nm 5)) (aa (.int 1))))
  (seq (asg 8 (eS 1 1 0)) k)))))) (b_ p c l [some (.ab (.str z)),some (.ab (.str w)),none,none,none,none,none,none]) =
   k (b_ p {c with lines:=fX c.lines z w} l [some (.ab (.str z)),some (.ab (.str w)),lj,i,some (.ab (.str (dB c z))),some (.ab (.str (kindOf p z))),some (.ab (.str c.mode)),none]):=by
 have rJ:=h.fQ;have e:p.bP[(p.bP.map (·.1)).idxOf z]?=some (z,kindOf p z):=vT p.bP z ar;generalize aU:(p.bP.map (·.1)).idxOf z=i at e;have c1:=Dn h aC e;have en:=RS h aC e;have Yo:i<p.bP.length:=(fe.mp e).1;have hlen:c.lines.length=p.bP.length:=by
  have:=congrArg List.length h.ln;simpa using this
 have aW:(c.lines.map (·.1)).Nodup:=by rw[h.ln];exact aC.wa
 have fp:=Li (w:=w) aW c1;refine⟨some (.ab (.list (p.bP.map λz=>.str z.1))),some (.ab (.int (i:Nat))),?_⟩;refine jG (t:=.list (p.bP.map λz=>.str z.1)) ?_ (jG (t:=.int (i:Nat)) ?_ (jG (t:=.str (dB c z)) ?_ (iw (ε':=(b_ p {c with lines:=fX c.lines z w} l [some (.ab (.str z)),some (.ab (.str w)),some (.ab (.list (p.bP.map λz=>.str z.1))),some (.ab (.int (i:Nat))),some (.ab (.str (dB c z))),none,none,none])) ?_ (jG (t:=.str (kindOf p z)) ?_ (jG (t:=.str c.mode) ?_ ?_)))))
 ·have c8:=K_ c_ (λz=>.str z.1) [] p.bP none λz ar=>by simp! [hF,c_]
  have bX:p.bP.length<=big:=by unfold big;omega
  simp! [hF,cm,c8,bX]
 ·simp only[af,nm,je,i3];show wo (.list (p.bP.map λz=>.str z.1)) (.str z)=_;unfold wo;simp only[aeU,dt];rw[if_pos ar,aU]
 ·simp only[je,i3];show aK (.list (c.lines.map λz=>.str z.2)) (.int (i:Nat))=_;exact en
 ·simp only[je,i3];have q:(0:Int)<=(i:Int)/\((i:Int)).toNat<(c.lines.map λz=>(ib z.2:T)).length:=by
   simp;omega
  have lW:(c.lines.map λz=>(ib z.2:T)).set i (.str w)=(fX c.lines z w).map λz=>.str z.2:=by
   rw[fp,List.map_set]
  simp only[rg,aA,nm,kM,akQ,dt,pM,qW,if_true,d6,q,and_self,Int.toNat_natCast,lW];simp[gb,akQ,wu,BQ];omega
 ·have ni:aK (.tuple (p.bP.map c_)) (.int (i:Nat))=some (c_ (z,kindOf p z)):=by
   have bG:f_ (p.bP.map c_).length (i:Int)=some i:=by
    have q:(i:Int)<((p.bP.map c_).length:Nat):=by simp;omega
    rw[f_,if_pos (by omega),if_pos q];simp
   show (f_ (p.bP.map c_).length (i:Int)).bind (λj=>(p.bP.map c_)[j]?)=_
   rw[bG,dt,hK,e];rfl
  have nj:aK (cm p) (.int 0)=some (.tuple (p.bP.map c_)):=rfl;simp only[af,nm,aa,pM,qW,dt,nj,ni];rfl
 ·rfl
 ·rfl
def eV{f:bI}{ag:Ev}{b:Bool}(h:f ag=some (.bool b)):a0 f ag=some b:=by simp[a0,h]
noncomputable def Ms:bz:=(seq (asg 9 (jb (af oEq (nm 3) (aa (.str "cut"))) (jb (af oEq (nm 7) (aa (.str "once"))) (iI (af oEq (nm 8) (aa (.str "on"))) (jb (af oEq (nm 7) (aa (.str "inner"))) (af oEq (af aK (af aK (nm 0) (aa (.int 2))) (aa (.int 1))) (aa (.int 0)))))))) (iff (eZ (a0 (af oEq (nm 7) (aa (.str "day")))) (ei (a0 (af eE (nm 8) (aa (.str "off")))) (a0 (nm 9)))) (ct (dp 1 mf [(aA 0)] 1 [(aA 2)])) (iff (ei (a0 (af oEq (nm 8) (aa (.str "off")))) (a0 (af oEq (nm 3) (aa (.str "cut"))))) (ct (dp 1 eM [] 1 [(aa (.str "fault")),(aA 2)])) (iff (a0 (af oEq (nm 8) (aa (.str "on")))) (seq (cx 1 1 0 (aa (.str "coming"))) (seq (cx 1 1 1 (af aK (af aK (nm 0) (aa (.int 2))) (aa (.int 1)))) (seq (cx 1 1 2 (aA 2)) (ct (dp 1 eM [] 1 [(aa (.str "coming")),(aA 2)]))))) skip))))
noncomputable def kinds:List Str:=["day","inner","once","way"]
def akk(p:aT)(c:aJ)(l:List Str)(z w:Str)(s4 s5 c9 dn:Option aO)(h:a9 p c)(aC:Wp p)(ar:z∈p.bP.map (·.1))(hw:cz w)(aI:kindOf p z∈kinds)(aX:c.told.length<big):
  ∃hG,Ms (b_ p c l [some (.ab (.str z)),some (.ab (.str w)),s4,s5,c9,some (.ab (.str (kindOf p z))),some (.ab (.str c.mode)),dn]) =
   some (.bY (b_ p (i9 p z w c) l [some (.ab (.str z)),some (.ab (.str w)),s4,s5,c9,some (.ab (.str (kindOf p z))),some (.ab (.str c.mode)),hG])):=by
 have tg:cz (kindOf p z):=h.Ov z;have dR:=Kn p c l z h (h.ja ar) aX;have uW:=q5 c l "fault" z aX;have ha:=q5 {c with mode:="coming",left:=p.gG,e5:=some z} l "coming" z aX;have aP:=cR tg (a5 "day");have ba:=cR h.mo (a5 "off");have ab5:=kB h.mo (a5 "off");have cU:=cR hw (a5 "cut");have gM:=cR tg (a5 "once");have nz:=cR h.mo (a5 "on");have pz:=cR tg (a5 "inner");have pA:=ji p.gG 0;have ci:aK (.tuple [.int p.leave,.int p.gG,.int p.loud]) (.int 1)=some (.int p.gG):=rfl;have pi:aK (cm p) (.int 2)=some (.tuple [.int p.leave,.int p.gG,.int p.loud]):=rfl;refine⟨some (.ab (.bool (decide (w="cut") || (decide (kindOf p z="once") || (decide (c.mode="on") && (decide (kindOf p z="inner") || decide (p.gG=0))))))),?_⟩;refine jG (t:=.bool (decide (w="cut") || (decide (kindOf p z="once") || (decide (c.mode="on") && (decide (kindOf p z="inner") || decide (p.gG=0)))))) (cu.x4 cU λ_=>cu.x4 gM λ_=>cu.wY nz λ_=>cu.x4 pz λ_=>?_) ?_
 ·simp only[af,nm,aa,pM,qW,dt,pi,ci,pA]
 simp only[je,i3];have c8:∀hG,(eZ (a0 (af oEq (nm 7) (aa (.str "day")))) (ei (a0 (af eE (nm 8) (aa (.str "off")))) (a0 (nm 9)))) (b_ p c l [some (.ab (.str z)),some (.ab (.str w)),s4,s5,c9,some (.ab (.str (kindOf p z))),some (.ab (.str c.mode)),some (.ab (.bool hG))])=some (decide (kindOf p z="day") || (!decide (c.mode="off") && hG)):=λhG=>
  cu.IX (eV aP) λ_=>cu.wX (eV ab5) λ_=>eV rfl
 have cv:∀hG,(ei (a0 (af oEq (nm 8) (aa (.str "off")))) (a0 (af oEq (nm 3) (aa (.str "cut"))))) (b_ p c l [some (.ab (.str z)),some (.ab (.str w)),s4,s5,c9,some (.ab (.str (kindOf p z))),some (.ab (.str c.mode)),some (.ab (.bool hG))])=some (decide (c.mode="off") && decide (w="cut")):=λhG=>cu.wX (eV ba) λ_=>eV cU;have eA:∀hG,(a0 (af oEq (nm 8) (aa (.str "on")))) (b_ p c l [some (.ab (.str z)),some (.ab (.str w)),s4,s5,c9,some (.ab (.str (kindOf p z))),some (.ab (.str c.mode)),some (.ab (.bool hG))])=some (decide (c.mode="on")):=λhG=>eV nz;have Xy:∀hG:T,(ct (dp 1 mf [(aA 0)] 1 [(aA 2)])) (b_ p c l [some (.ab (.str z)),some (.ab (.str w)),s4,s5,c9,some (.ab (.str (kindOf p z))),some (.ab (.str c.mode)),some (.ab hG)])=some (.bY (b_ p (dJ p z c) l [some (.ab (.str z)),some (.ab (.str w)),s4,s5,c9,some (.ab (.str (kindOf p z))),some (.ab (.str c.mode)),some (.ab hG)])):=λhG=>by
  simp! [ir,dR]
 have XA:∀hG:T,(ct (dp 1 eM [] 1 [(aa (.str "fault")),(aA 2)])) (b_ p c l [some (.ab (.str z)),some (.ab (.str w)),s4,s5,c9,some (.ab (.str (kindOf p z))),some (.ab (.str c.mode)),some (.ab hG)])=some (.bY (b_ p (tell "fault" (some z) c) l [some (.ab (.str z)),some (.ab (.str w)),s4,s5,c9,some (.ab (.str (kindOf p z))),some (.ab (.str c.mode)),some (.ab hG)])):=λhG=>by
  simp! [ir,uW]
 have Xz:∀hG:T,(seq (cx 1 1 0 (aa (.str "coming")))
  (seq (cx 1 1 1 (af aK (af aK (nm 0) (aa (.int 2))) (aa (.int 1))))
  (seq (cx 1 1 2 (aA 2))
  (ct (dp 1 eM [] 1 [(aa (.str "coming")),(aA 2)]))))) (b_ p c l [some (.ab (.str z)),some (.ab (.str w)),s4,s5,c9,some (.ab (.str (kindOf p z))),some (.ab (.str c.mode)),some (.ab hG)])=some (.bY (b_ p (tell "coming" (some z) {c with mode:="coming",left:=p.gG,e5:=some z}) l [some (.ab (.str z)),some (.ab (.str w)),s4,s5,c9,some (.ab (.str (kindOf p z))),some (.ab (.str c.mode)),some (.ab hG)])):=λhG=>by
  simp! [ir,pi,ci,ha]
 rw[iff_eq (c8 _),iff_eq (cv _),iff_eq (eA _),Xy,XA,Xz];have aG:=aC.oE.2.1;unfold i9 iL;by_cases ah:kindOf p z="day"
 ·simp[ah]
 ·by_cases ao:c.mode="off"
  ·by_cases bG:w="cut" <;> simp[ah,ao,bG,skip,zb]
  ·by_cases bG:w="cut"
   ·simp[ah,ao,bG]
   ·by_cases cT:kindOf p z="once"
    ·simp[ah,ao,bG,cT,yZ]
    ·by_cases f9:c.mode="on"
     ·by_cases ph:kindOf p z="inner"
      ·simp[ah,ao,bG,cT,f9,ph,ur,yW,yS,yV]
      ·have xh:kindOf p z="way":=by
        simp[kinds] at aI;rcases aI with q|q|q|q
        ·exact absurd q ah
        ·exact absurd q ph
        ·exact absurd q cT
        ·exact q
       by_cases NC:p.gG=0
       ·simp[ah,ao,bG,cT,f9,ph,xh,NC,ur,vO,vK,vE]
       ·have XW:¬p.gG<=0:=by omega
        simp[ah,ao,bG,cT,f9,ph,xh,NC,XW,ur,vO,vK,vE]
     ·simp[ah,ao,bG,cT,f9,skip]
def aga{p:aT}{c:aJ}(h:a9 p c)(aC:Wp p){z:Str}(ar:z∈p.bP.map (·.1)):fX c.lines z (dB c z)=c.lines:=by
 have e:p.bP[(p.bP.map (·.1)).idxOf z]?=some (z,kindOf p z):=vT p.bP z ar;have c1:=Dn h aC e;have aW:(c.lines.map (·.1)).Nodup:=by rw[h.ln];exact aC.wa
 rw[Li (w:=dB c z) aW c1];obtain⟨ay,q⟩:=fe.mp c1;rw[show (z,dB c z)=c.lines[(p.bP.map (·.1)).idxOf z] from q.symm];exact List.set_getElem_self ay
noncomputable def Jm:bz:=(seq (iff (a0 (af oEq (nm 3) (nm 6))) (hn (aa .none)) skip) (seq (iff (a0 (af oEq (nm 3) (aa (.str "shut")))) (iff (a0 (af oEq (nm 6) (aa (.str "cut")))) (ct (dp 1 eM [] 1 [(aa (.str "mended")),(aA 2)])) skip) (iff (a0 (af (da true) (nm 2) (fld 1 1 4))) Ms skip)) (hn (aa .none))))
def agx(p:aT)(c:aJ)(l:List Str)(z w:Str)(h:a9 p c)(aC:Wp p)(ar:z∈p.bP.map (·.1))(hw:cz w)(aI:kindOf p z∈kinds)(ay:∀x,x∈l <-> x∈c.b4)(aX:c.told.length<big):
  zf [.ab (cm p),.obj .cM 1 (b6 c l),.ab (.str z),.ab (.str w)]=some (.none,b6 (line p z w c) l):=by
 have main:∃s4 s5 c9 cy cN dn,Dd (b_ p c l [some (.ab (.str z)),some (.ab (.str w)),none,none,none,none,none,none])=some (.fN .none (b_ p (line p z w c) l [some (.ab (.str z)),some (.ab (.str w)),s4,s5,c9,cy,cN,dn])):=by
  obtain⟨lj,i,c6⟩:=agu p c l z w Jm h aC ar;have ho:=h.Jh z hw;have aH:=h.rQ z;have aP:=cR hw aH;have ba:=cR hw (a5 "shut");have cU:=cR aH (a5 "cut");have gM:da true (.str z) (.list (l.map .str))=some (.bool (!decide (z∈c.b4))):=by
   rw[p1 true (h.ja ar) λx hx=>h.mO x ((ay x).mp hx)];simp[ay]
  obtain⟨hG,eq⟩:=akk p {c with lines:=fX c.lines z w} l z w lj i (some (.ab (.str (dB c z)))) none ho aC ar hw aI aX;have em:=q5 {c with lines:=fX c.lines z w} l "mended" z aX;have i8:(a0 (af oEq (nm 3) (nm 6))) (b_ p {c with lines:=fX c.lines z w} l [some (.ab (.str z)),some (.ab (.str w)),lj,i,some (.ab (.str (dB c z))),some (.ab (.str (kindOf p z))),some (.ab (.str c.mode)),none])=some (decide (w=dB c z)):=eV aP;have zZ:(a0 (af oEq (nm 3) (aa (.str "shut")))) (b_ p {c with lines:=fX c.lines z w} l [some (.ab (.str z)),some (.ab (.str w)),lj,i,some (.ab (.str (dB c z))),some (.ab (.str (kindOf p z))),some (.ab (.str c.mode)),none])=some (decide (w="shut")):=eV ba;have Mv:(a0 (af oEq (nm 6) (aa (.str "cut")))) (b_ p {c with lines:=fX c.lines z w} l [some (.ab (.str z)),some (.ab (.str w)),lj,i,some (.ab (.str (dB c z))),some (.ab (.str (kindOf p z))),some (.ab (.str c.mode)),none])=some (decide (dB c z="cut")):=eV cU;have Mw:(a0 (af (da true) (nm 2) (fld 1 1 4))) (b_ p {c with lines:=fX c.lines z w} l [some (.ab (.str z)),some (.ab (.str w)),lj,i,some (.ab (.str (dB c z))),some (.ab (.str (kindOf p z))),some (.ab (.str c.mode)),none])=some (!decide (z∈c.b4)):=eV gM;have XB:(ct (dp 1 eM [] 1 [(aa (.str "mended")),(aA 2)])) (b_ p {c with lines:=fX c.lines z w} l [some (.ab (.str z)),some (.ab (.str w)),lj,i,some (.ab (.str (dB c z))),some (.ab (.str (kindOf p z))),some (.ab (.str c.mode)),none])=some (.bY (b_ p (tell "mended" (some z) {c with lines:=fX c.lines z w}) l [some (.ab (.str z)),some (.ab (.str w)),lj,i,some (.ab (.str (dB c z))),some (.ab (.str (kindOf p z))),some (.ab (.str c.mode)),none])):=by
   simp! [ir,em]
  have ae:Dd (b_ p c l [some (.ab (.str z)),some (.ab (.str w)),none,none,none,none,none,none])=Jm (b_ p {c with lines:=fX c.lines z w} l [some (.ab (.str z)),some (.ab (.str w)),lj,i,some (.ab (.str (dB c z))),some (.ab (.str (kindOf p z))),some (.ab (.str c.mode)),none]):=c6;rw[ae];unfold Jm line;by_cases ah:w=dB c z
  ·refine⟨lj,i,some (.ab (.str (dB c z))),some (.ab (.str (kindOf p z))),some (.ab (.str c.mode)),none,?_⟩
   rw[if_pos ah];have es:({c with lines:=fX c.lines z w}:aJ)=c:=by
    rw[ah,aga h aC ar]
   simp only[seq,iff,i8,decide_eq_true ah,dt,if_true,hn,aa,kx];rw[es]
  ·rw[if_neg ah];by_cases ao:w="shut"
   ·rw[if_pos ao];by_cases bG:dB c z="cut"
    ·rw[if_pos bG];refine⟨lj,i,some (.ab (.str (dB c z))),some (.ab (.str (kindOf p z))),some (.ab (.str c.mode)),none,?_⟩;simp only[seq,iff,skip,i8,zZ,Mv,decide_eq_false ah,decide_eq_true ao,decide_eq_true bG,dt,if_true,j5,if_false,XB,hn,aa,kx]
    ·rw[if_neg bG];refine⟨lj,i,some (.ab (.str (dB c z))),some (.ab (.str (kindOf p z))),some (.ab (.str c.mode)),none,?_⟩;simp only[seq,iff,skip,i8,zZ,Mv,decide_eq_false ah,decide_eq_true ao,decide_eq_false bG,dt,if_true,j5,if_false,hn,aa,kx]
   ·rw[if_neg ao];by_cases cT:z∈c.b4
    ·rw[if_pos cT];refine⟨lj,i,some (.ab (.str (dB c z))),some (.ab (.str (kindOf p z))),some (.ab (.str c.mode)),none,?_⟩;simp only[seq,iff,skip,i8,zZ,Mw,decide_eq_false ah,decide_eq_false ao,decide_eq_true cT,dt,Bool.not_true,j5,if_false,hn,aa,kx]
    ·rw[if_neg cT];refine⟨lj,i,some (.ab (.str (dB c z))),some (.ab (.str (kindOf p z))),some (.ab (.str c.mode)),hG,?_⟩;simp only[seq,iff,skip,i8,zZ,Mw,decide_eq_false ah,decide_eq_false ao,decide_eq_false cT,dt,Bool.not_false,j5,if_true,if_false,hn,aa,kx];rw[eq];rfl
 obtain⟨s4,s5,c9,cy,cN,dn,e⟩:=main;show (Dd (b_ p c l [some (.ab (.str z)),some (.ab (.str w)),none,none,none,none,none,none])).bind _=_;rw[e];rfl
noncomputable def kP(d:Str)(z:Option Str)(l:List Str):List Str:=if d="set" then l else if d="unset" then [] else if d="shunt" then l++[z.getD ""] else l.erase (z.getD "")
def CJ{l m:List Str}(h:eN l=m)(x:Str):x∈l <-> x∈m:=by
 rw[<- h];exact (@oN t0 l).mem_iff.symm
def Nr(p:aT)(c:aJ)(l:List Str)(w d:Str)(z:Option Str)(h:eN l=c.b4):eN (kP d z l)=(d9 p w d z c).b4:=by
 unfold kP d9;split
 ·unfold jo;simp only[];split
  ·obtain⟨_,_,_,_,kf,_⟩:=yT p (bare p ["inner","way"] (tell "on" none {tell "set" (some w) {c with b3:=[],c2:=0,mode:="leaving",left:=p.leave} with mode:="on",left:=0})) (tell "on" none {tell "set" (some w) {c with b3:=[],c2:=0,mode:="leaving",left:=p.leave} with mode:="on",left:=0});exact h.trans kf.symm
  ·exact h
 ·split
  ·rfl
  ·split
   ·show eN (l++[z.getD ""])=eN (c.b4++[z.getD ""])
    rw[<- h];exact @PL t0 _ _ ((@oN t0 l).symm.append_right _)
   ·show eN (l.erase (z.getD ""))=c.b4.erase (z.getD "")
    rw[<- h];exact (@KX t0 _ _ ((@oN t0 l).erase _) ((@C4 t0 l).sublist List.erase_sublist)).symm
def afm:oEq (.str "set") (.str "shunt")=some (.bool false):=by
 rw[cR (a5 "set") (a5 "shunt")];simp[t9]
def afN:oEq (.str "set") (.str "free")=some (.bool false):=by
 rw[cR (a5 "set") (a5 "free")];simp[akZ]
def afl:oEq (.str "set") (.str "unset")=some (.bool false):=by
 rw[cR (a5 "set") (a5 "unset")];simp[yU]
def aeL:oEq (.str "unset") (.str "shunt")=some (.bool false):=by
 rw[cR (a5 "unset") (a5 "shunt")];simp[ak5]
def aeZ:oEq (.str "unset") (.str "free")=some (.bool false):=by
 rw[cR (a5 "unset") (a5 "free")];simp[r8]
def aeK:oEq (.str "unset") (.str "unset")=some (.bool true):=by
 rw[cR (a5 "unset") (a5 "unset")];simp
def aeM:oEq (.str "shunt") (.str "shunt")=some (.bool true):=by
 rw[cR (a5 "shunt") (a5 "shunt")];simp
def ae0:oEq (.str "shunt") (.str "free")=some (.bool false):=by
 rw[cR (a5 "shunt") (a5 "free")];simp[yQ]
def ae1:oEq (.str "free") (.str "shunt")=some (.bool false):=by
 rw[cR (a5 "free") (a5 "shunt")];simp[oM]
def afn:oEq (.str "free") (.str "free")=some (.bool true):=by
 rw[cR (a5 "free") (a5 "free")];simp
def ad9(c:aJ)(l:List Str)(x:Str):(b6 c l).set 4 (.own (l.map .str++[.str x]))=b6 c (l++[x]):=by simp[b6]
noncomputable def Mt:bz:=(seq (iff (a0 (af oEq (nm 2) (aa (.str "unset")))) (seq (cx 1 1 0 (aa (.str "off"))) (seq (cx 1 1 1 (aa (.int 0))) (seq (cx 1 1 2 (aa .none)) (g9 1 1 4 (ew []))))) (seq (g9 1 1 6 (ew [])) (seq (cx 1 1 0 (aa (.str "leaving"))) (seq (cx 1 1 1 (af aK (af aK (nm 0) (aa (.int 2))) (aa (.int 0)))) (iff (a0 (af oEq (fld 1 1 1) (aa (.int 0)))) (ct (dp 1 p4 [(aA 0)] 1 [])) skip))))) (hn (aa .none)))
def Z_(x y:Str)(ag:Ev):bQ [(aa (.str x)),(aa (.str y))] ag=some (.tuple [.str x,.str y]):=by
 show (if ([.str x,.str y]:List T).length<=big then some (PyData.tuple [.str x,.str y]) else none)=_
 rw[if_pos (by simp[big])]
def AO{n:Str}(x y:Str){c:aJ}{p:aT}{l:List Str}{r:Ev}(a8:cz n)(hx:cz x)(bN:cz y):(a0 (af (da false) (nm 2) (bQ [(aa (.str x)),(aa (.str y))]))) (b_ p c l (some (.ab (.str n))::r))=some (decide (n=x\/n=y)):=by
 have:=oQ false (n:=n) (ns:=[x,y]) a8 (by
  intro k aI;simp at aI;rcases aI with rfl|rfl
  ·exact hx
  ·exact bN)
 refine eV ?_
 rw[cu.px (t:=.str n) rfl (Z_ x y _)];simpa using this
def Sf(p:aT)(c:aJ)(l:List Str)(w n:Str)(d:Str)(zs:Option aO)(h:c.told.length<big):(ct (dp 1 eM [] 1 [(aA 2),(aA 4)])) (b_ p c l [some (.ab (.str d)),zs,some (.ab (.str n))])=some (.bY (b_ p (tell d (some n) c) l [some (.ab (.str d)),zs,some (.ab (.str n))])):=by
 have e:=q5 c l d n h;show Option.map _ (Option.map _ (eM [.obj .cM 1 (b6 c l),.ab (.str d),.ab (.str n)]))=_;rw[e];rfl
def Se(p:aT)(c:aJ)(l:List Str)(d z:Str)(ws:Option aO)(h:c.told.length<big):(ct (dp 1 eM [] 1 [(aA 2),(aA 3)])) (b_ p c l [some (.ab (.str d)),some (.ab (.str z)),ws])=some (.bY (b_ p (tell d (some z) c) l [some (.ab (.str d)),some (.ab (.str z)),ws])):=by
 have e:=q5 c l d z h;show Option.map _ (Option.map _ (eM [.obj .cM 1 (b6 c l),.ab (.str d),.ab (.str z)]))=_;rw[e];rfl
def aii(p:aT)(c:aJ)(l:List Str)(w d:Str)(z:Option Str)(h:a9 p c)(aC:Wp p)(ar:rO p d z c)(aw:eN l=c.b4)(aX:c.told.length+60<big):
  wt [.ab (cm p),.obj .cM 1 (b6 c l),.ab (.str d),.ab (dm z),.ab (.str w)]=some (.none,b6 (d9 p w d z c) (kP d z l)):=by
 have ay:=CJ aw;have ll:l.length<=40:=by
  have:=h.BB;rw[<- aw,(@oN t0 l).length_eq] at this;exact this
 suffices ae:∃r,LU (b_ p c l [some (.ab (.str d)),some (.ab (dm z)),some (.ab (.str w))])=some (.fN .none (b_ p (d9 p w d z c) (kP d z l) r)) by
  obtain⟨r,ae⟩:=ae;show (LU (b_ p c l [some (.ab (.str d)),some (.ab (dm z)),some (.ab (.str w))])).bind _=_;rw[ae];rfl
 have O0:({c with c2:=0}:aJ).told.length<big:=by show c.told.length<big;omega
 rcases ar with rfl|rfl|⟨rfl,x,rfl,hx⟩|⟨rfl,x,rfl,hx⟩
 ·have ho:a9 p (tell "set" (some w) {c with b3:=[],c2:=0,mode:="leaving",left:=p.leave}):=(h.yb p.leave).tell _ _;have eA:=AO (c:=c) (p:=p) (l:=l) (r:=[some (.ab (dm z)),some (.ab (.str w))]) "shunt" "free" (a5 "set") (a5 "shunt") (a5 "free");rw[decide_eq_false (by simp[t9,akZ])] at eA;have s5:=Sf p {c with c2:=0} l w w "set" (some (.ab (dm z))) O0;have cl:(a0 (af oEq (fld 1 1 1) (aa (.int 0)))) (b_ p (tell "set" (some w) {c with b3:=[],c2:=0,mode:="leaving",left:=p.leave}) l [some (.ab (.str "set")),some (.ab (dm z)),some (.ab (.str w))])=some (decide (p.leave=0)):=eV (ji p.leave 0);have fin:∃r,(iff (a0 (af oEq (fld 1 1 1) (aa (.int 0)))) (ct (dp 1 p4 [(aA 0)] 1 [])) skip) (b_ p (tell "set" (some w) {c with b3:=[],c2:=0,mode:="leaving",left:=p.leave}) l [some (.ab (.str "set")),some (.ab (dm z)),some (.ab (.str w))])=some (.bY (b_ p (d9 p w "set" z c) (kP "set" z l) r)):=by
   refine⟨[some (.ab (.str "set")),some (.ab (dm z)),some (.ab (.str w))],?_⟩
   have qv:d9 p w "set" z c=jo p w c:=if_pos rfl;have ju:kP "set" z l=l:=if_pos rfl;rw[iff_eq cl,qv,ju];unfold jo;by_cases h0:p.leave=0
   ·have en:=RO p (tell "set" (some w) {c with b3:=[],c2:=0,mode:="leaving",left:=p.leave}) l ho aC h0 ay (by simp[tell];omega);rw[decide_eq_true h0,if_pos rfl];show Option.map _ (Option.map _ (p4 [.ab (cm p),.obj .cM 1 (b6 (tell "set" (some w) {c with b3:=[],c2:=0,mode:="leaving",left:=p.leave}) l)]))=_;rw[en];simp only[];rw[if_pos (by omega)];rfl
   ·have ah:¬p.leave<=0:=by
     have:=aC.oE.1;omega
    rw[decide_eq_false h0,if_neg kX];simp only[];rw[if_neg ah];rfl
  obtain⟨r,fin⟩:=fin;have c9:Mt (b_ p (tell "set" (some w) {c with c2:=0}) l [some (.ab (.str "set")),some (.ab (dm z)),some (.ab (.str w))])=some (.fN .none (b_ p (d9 p w "set" z c) (kP "set" z l) r)):=by
   refine iw (ε':=b_ p (d9 p w "set" z c) (kP "set" z l) r) ?_ rfl
   rw[iff_eq (b:=false) (eV afl),if_neg kX];exact iw rfl (iw rfl (iw rfl fin))
  exact⟨r,kA (eV afm) (kA (eV afN) (kA eA (iw rfl (iw s5 c9))))⟩
 ·have eA:=AO (c:=c) (p:=p) (l:=l) (r:=[some (.ab (dm z)),some (.ab (.str w))]) "shunt" "free" (a5 "unset") (a5 "shunt") (a5 "free");rw[decide_eq_false (by simp[ak5,r8])] at eA;have s5:=Sf p {c with c2:=0} l w w "unset" (some (.ab (dm z))) O0;have qv:d9 p w "unset" z c=lU w c:=by
   unfold d9;rw[if_neg r_,if_pos rfl]
  have ju:kP "unset" z l=[]:=by
   unfold kP;rw[if_neg r_,if_pos rfl]
  rw[qv,ju];have c9:Mt (b_ p (tell "unset" (some w) {c with c2:=0}) l [some (.ab (.str "unset")),some (.ab (dm z)),some (.ab (.str w))])=some (.fN .none (b_ p (lU w c) [] [some (.ab (.str "unset")),some (.ab (dm z)),some (.ab (.str w))])):=by
   refine iw (ε':=b_ p (lU w c) [] [some (.ab (.str "unset")),some (.ab (dm z)),some (.ab (.str w))]) ?_ rfl
   rw[iff_eq (b:=true) (eV aeK),if_pos rfl];exact iw rfl (iw rfl (iw rfl rfl))
  exact⟨_,kA (eV aeL) (kA (eV aeZ) (kA eA (iw rfl (iw s5 c9))))⟩
 ·have bX:(l.map (ib)).length<big:=by
   rw[g6];show l.length<16777216;omega
  have eA:=AO (c:=c) (p:=p) (l:=l++[x]) (r:=[some (.ab (.str x)),some (.ab (.str w))]) "shunt" "free" (a5 "shunt") (a5 "shunt") (a5 "free");rw[decide_eq_true (by simp)] at eA;have s3:=Se p c (l++[x]) "shunt" x (some (.ab (.str w))) (by omega);have a1:(jQ 1 1 4 (aA 3)) (b_ p c l [some (.ab (.str "shunt")),some (.ab (.str x)),some (.ab (.str w))])=some (.bY (b_ p c (l++[x]) [some (.ab (.str "shunt")),some (.ab (.str x)),some (.ab (.str w))])):=by
   show (if (l.map (ib)).length<big then _ else _)=_
   rw[if_pos bX];show Option.map _ (some ((b_ p c l _).set 1 (some (.obj .cM 1 ((b6 c l).set 4 (.own (l.map .str++[.str x])))))))=_;rw[ad9];rfl
  have qv:d9 p w "shunt" (some x) c=tell "shunt" (some x) {c with b4:=eN (c.b4++[x])}:=by
   unfold d9;rw[if_neg r',if_neg q1,if_pos rfl];rfl
  have ju:kP "shunt" (some x) l=l++[x]:=by
   unfold kP;rw[if_neg r',if_neg q1,if_pos rfl];rfl
  rw[qv,ju];refine⟨[some (.ab (.str "shunt")),some (.ab (.str x)),some (.ab (.str w))],iw (ε':=b_ p c (l++[x]) [some (.ab (.str "shunt")),some (.ab (.str x)),some (.ab (.str w))]) ?_ (kA (eV ae0) ?_)⟩
  ·rw[show (b_ p c l [some (.ab (.str "shunt")),some (.ab (dm (some x))),some (.ab (.str w))])=b_ p c l [some (.ab (.str "shunt")),some (.ab (.str x)),some (.ab (.str w))] from rfl,iff_eq (b:=true) (eV aeM),if_pos rfl,a1]
  ·unfold seq;rw[iff_eq eA,if_pos rfl];show Option.bind (Option.bind _ _) _=_;rw[s3];rfl
 ·have kj:x∈l:=(ay x).mpr hx;have eA:=AO (c:=c) (p:=p) (l:=l.erase x) (r:=[some (.ab (.str x)),some (.ab (.str w))]) "shunt" "free" (a5 "free") (a5 "shunt") (a5 "free");rw[decide_eq_true (by simp)] at eA;have s3:=Se p c (l.erase x) "free" x (some (.ab (.str w))) (by omega);have a1:(qG 1 1 4 (aA 3)) (b_ p c l [some (.ab (.str "free")),some (.ab (.str x)),some (.ab (.str w))])=some (.bY (b_ p c (l.erase x) [some (.ab (.str "free")),some (.ab (.str x)),some (.ab (.str w))])):=by
   simp[qG,aA,kM,akQ,gb,l9,wu,vH,kj,BR]
  have qv:d9 p w "free" (some x) c=tell "free" (some x) {c with b4:=c.b4.erase x}:=by
   unfold d9;rw[if_neg sb,if_neg pT,if_neg oM];rfl
  have ju:kP "free" (some x) l=l.erase x:=by
   unfold kP;rw[if_neg sb,if_neg pT,if_neg oM];rfl
  rw[qv,ju];refine⟨[some (.ab (.str "free")),some (.ab (.str x)),some (.ab (.str w))],kA (eV ae1) (iw (ε':=b_ p c (l.erase x) [some (.ab (.str "free")),some (.ab (.str x)),some (.ab (.str w))]) ?_ ?_)⟩
  ·rw[show (b_ p c l [some (.ab (.str "free")),some (.ab (dm (some x))),some (.ab (.str w))])=b_ p c l [some (.ab (.str "free")),some (.ab (.str x)),some (.ab (.str w))] from rfl,iff_eq (b:=true) (eV afn),if_pos rfl,a1]
  ·unfold seq;rw[iff_eq eA,if_pos rfl];show Option.bind (Option.bind _ _) _=_;rw[s3];rfl
def afA{l:List Str}(h:l.length<64):zq [.list (l.map .str)]=some (.list ((eN l).map .str)):=by
 cases l with
|nil=>rfl
|cons x l=>
  have e:=vH (x::l);rw[dv] at e;have aU:intsOf (.str x::l.map .str)=none:=rfl;simp only[dv,zq,aU,e];rw[if_pos (by simpa using h)];rfl
def P'(c:aJ)(l:List Str)(aw:eN l=c.b4)(ay:l.length<64):pZ [.obj .fM 1 (b6 c l)]=some (eK c):=by
 have e:=afA ay;rw[aw] at e;simp! [ir,pZ,QS,fP,cC,big,e,eK]
theorem S9{α:Type}(a:α):∀n:Nat,(dZ n [a]).flatten=dZ n a
|0=>rfl
|n+1=>by rw[qT,tU,S9 a n,qT];rfl
def Q9{x:T}{n:Nat}(h:n<=40):ow (.list [x]) (.int (n:Nat))=some (.list (dZ n x)):=by
 unfold ow;have q:(0:Int)<=(n:Int)/\(n:Int)<1000/\[x].length*((n:Int)).toNat<=big:=by
  simp[big];omega
 show (if (0:Int)<=(n:Int)/\(n:Int)<1000/\[x].length*((n:Int)).toNat<=big then some (.list (dZ ((n:Int)).toNat [x]).flatten) else none:Option T)=_
 rw[if_pos q,Int.toNat_natCast,S9]
def afM(p:aT)(ar:p.bP.length<=40)(aC:Wp p):uh [cm p]=some (.obj .own 1 (b6 (iA p) [])):=by
 have aG:=aC.cl;have bg:=Q9 (x:=.str "shut") ar;have cf:=Q9 (x:=.int 0) aG;have i':(p.bP.map λz=>(ib ("shut":Str):T))=dZ p.bP.length (.str "shut"):=List.map_const' ..;have kQ:(p.codes.map λz=>(PyData.int 0:T))=dZ p.codes.length (.int 0):=List.map_const' ..;have eY:b6 (iA p) []=[.ab (.str "off"),.ab (.int 0),.ab .none,.own (dZ p.bP.length (.str "shut")),.own [],.ab (.int 0),.own [],.ab (.int 0),.ab (.int 0),.own (dZ p.codes.length (.int 0)),.ab (.int 0),.own []]:=by
  simp[b6,iA,dm,kT,i',kQ]
 rw[eY];simp! [oA,uh,KP,pD,o8,xY,ux,tL,x5,hD,big,cm,bg,cf]
noncomputable def tk(p:aT):Nat->aJ->aJ
|0,c=>c
|n+1,c=>tk p n (cW p 1 c)
theorem SY(p:aT):∀(n:Nat) (c:aJ),(p6 c->1<=c.left)->tk p (n+1) c=cW p ((n+1:Nat):Int) c
|0,c,_=>rfl
|n+1,c,h=>by
  show tk p (n+1) (cW p 1 c)=_
  rw[SY p n (cW p 1 c) (ae' p c h 1),af7 p c h (by omega) (by omega)];congr 1;omega
def PF(p:aT)(n:Int)(c:aJ):(cW p n c).b4=c.b4:=by
 unfold cW;split
 ·rfl
 ·split
  ·exact (yK p (e_ c.left c)).2.2.2.1
  ·rfl
noncomputable def zX:bz:=(ct (dp 1 ze [(aA 0)] 1 []))
theorem Qn(p:aT)(l:List Str)(aC:Wp p)(hd:ey p)(e:Option aO):∀(ts:List T) (c:aJ) (s3:Option aO),a9 p c->cS c->(∀x,x∈l <-> x∈c.b4)->c.told.length+50*ts.length+50<big ->
  ∃t3,forL (bJ 3) zX ts (b_ p c l [e,s3])=some (.bY (b_ p (tk p ts.length c) l [e,t3]))
| [],c,s3,_,_,_,_=>⟨s3,rfl⟩
|t::ts,c,s3,h,a',ay,aX=>by
  have c1:=agw p c l h aC a' ay (by omega);have tt:=PW h 1;obtain⟨t3,b7⟩:=Qn p l aC hd e ts (cW p 1 c) (some (.ab t)) (h.cW 1) (a'.cW hd 1) (λx=>by rw[PF];exact ay x) (by simp at aX;omega);refine⟨t3,?_⟩;rw[forL];have s1:zX (b_ p c l [e,some (.ab t)])=some (.bY (b_ p (cW p 1 c) l [e,some (.ab t)])):=by
   simp! [ir,zX,c1]
  show Option.bind (zX (b_ p c l [e,some (.ab t)])) _=_
  rw[s1,dt];exact b7
theorem Rh{f:Str}:∀(bf:List e4) (n:Nat),(bf.map (·.c')).Nodup->(bf.find? (λk=>decide (k.c'=f))=none/\(bf.zipIdx n).filter (λq=>decide (q.1.c'=f))=[])\/∃k i,bf.find? (λk=>decide (k.c'=f))=some k/\bf[i]?=some k/\(bf.zipIdx n).filter (λq=>decide (q.1.c'=f))=[(k,n+i)]
| [],n,_=>.inl ⟨rfl,rfl⟩
|x::bf,n,aW=>by
  have gK:(x.c'::bf.map (·.c')).Nodup:=aW;obtain⟨gY,gJ⟩:=d0.mp gK;by_cases e:x.c'=f
  ·refine .inr ⟨x,0,by rw[j4,decide_eq_true e],rfl,?_⟩
   have h0:(bf.zipIdx (n+1)).filter (λq=>decide (q.1.c'=f))=[]:=by
    rw[List.filter_eq_nil_iff];intro q bS;simp only[decide_eq_true_eq];intro z;obtain⟨k,i⟩:=q;have:=List.mem_zipIdx bS;have aI:k∈bf:=by
     rw[this.2.2];exact List.getElem_mem _
    exact gY (dK.mpr ⟨k,aI,z.trans e.symm⟩)
   rw[List.zipIdx_cons,List.filter_cons,if_pos (decide_eq_true e),h0];rfl
  ·rcases Rh bf (n+1) gJ with ⟨ah,ao⟩|⟨k,i,ah,ao,bG⟩
   ·refine .inl ⟨by rw[j4,decide_eq_false e];exact ah,?_⟩
    rw[List.zipIdx_cons,List.filter_cons,if_neg (by simpa using e),ao]
   ·refine .inr ⟨k,i+1,by rw[j4,decide_eq_false e];exact ah,by simpa using ao,?_⟩
    rw[List.zipIdx_cons,List.filter_cons,if_neg (by simpa using e),bG];congr 2;omega
def places_eq(p:aT)(c:aJ)(f:Str)(s1 s3 s4 s5 c9 cy cN dn dG el eU:Option aO)(h:a9 p c)(aC:Wp p)(hf:cz f):
  (comp 2 [2] (j9 (hM (af aK (nm 0) (aa (.int 1))))) (dq [(bJ 0),(bJ 1)]) (a0 (af oEq (af aK (nm 1) (aa (.int 0))) (nm 2))) (aA 0)) [some (.ab (cm p)),s1,some (.ab (.str f)),s3,s4,s5,c9,cy,cN,dn,dG,el,eU]=some (.list (((p.codes.zipIdx 0).filter (λq=>decide (q.1.c'=f))).map λq=>.int (q.2:Nat))):=by
 have aG:=aC.cl;have c1:((p.codes.map dI).zipIdx 0).map (λq=>(PyData.tuple [.int q.2,q.1]:T))=(p.codes.zipIdx 0).map λq=>.tuple [.int (q.2:Nat),dI q.1]:=by
  rw[List.zipIdx_map,nJ];rfl
 have en:=Dq (enc:=λq:e4×Nat=>.tuple [.int (q.2:Nat),dI q.1]) (x:=λq=>.int (q.2:Nat)) (y:=λq=>dI q.1) (g:=λq=>.int (q.2:Nat)) (q:=λq=>decide (q.1.c'=f)) (cc:=a0 (af oEq (af aK (nm 1) (aa (.int 0))) (nm 2))) (fb:=aA 0) (caps:=[some (.ab (.str f))]) (λ_=>rfl) (p.codes.zipIdx 0) none none (by
  intro a ax;have aI:a.1∈p.codes:=by
   have:=List.mem_zipIdx (x:=a.1) (i:=a.2) ax;rw[this.2.2];exact List.getElem_mem _
  exact⟨eV (cR (h.eB a.1 aI).1 hf),λ_=>rfl⟩)
 unfold comp;rw[show j9 (hM (af aK (nm 0) (aa (.int 1)))) [some (.ab (cm p)),s1,some (.ab (.str f)),s3,s4,s5,c9,cy,cN,dn,dG,el,eU]=some (((p.codes.map dI).zipIdx 0).map λq=>(PyData.tuple [.int q.2,q.1]:T)) from rfl,dt,if_pos (by simp[big];omega),c1];show (gf _ _ _ _ [none,none,some (.ab (.str f))]).map _=_;rw[en];rfl
theorem P_:∀{l:List (Str×Int)} {i:Nat} {z:Str} {w:Int},(l.map (·.1)).Nodup->l[i]?=some (z,w)->l.lookup z=some w
| [],_,_,_,_,e=>by simp at e
|x::l,0,z,w,_,e=>by
  simp at e;subst e;simp[i4]
|x::l,i+1,z,w,aW,e=>by
  have gK:(x.1::l.map (·.1)).Nodup:=aW;have ne:z≠x.1:=λq=>by
   have:(z,w)∈l:=ky (by simpa using e);exact (d0.mp gK).1 (dK.mpr ⟨_,this,q⟩)
  obtain⟨a,b⟩:=x;have ae:(z==a)=false:=beq_eq_false_iff_ne.mpr ne;simp only[i4,ae];exact P_ (i:=i) (d0.mp gK).2 (by simpa using e)
def Rr{p:aT}{c:aJ}(h:a9 p c)(aC:Wp p){i:Nat}{k:e4}(e:p.codes[i]?=some k):c.used[i]?=some (k.c',q9 c k.c'):=by
 have ah:(c.used.map (·.1))[i]?=some k.c':=by rw[h.us,hK,e];rfl
 rw[hK] at ah;cases a7:c.used[i]? with
|none=>rw[a7] at ah;cases ah
|some y=>
  rw[a7] at ah;obtain⟨a,b⟩:=y;have ax:a=k.c':=by simpa using ah
  subst ax;have aW:(c.used.map (·.1)).Nodup:=by rw[h.us];exact aC.cd
  unfold q9;rw[P_ aW a7];rfl
def SI{xs:List T}{i:Nat}{t:T}(e:xs[i]?=some t):gh xs (i:Nat)=some t:=by
 have ay:i<xs.length:=(fe.mp e).1;unfold gh;rw[f_,if_pos (by omega),if_pos (by omega),dt,Int.toNat_natCast];exact e
def RR{p:aT}{c:aJ}(h:a9 p c)(aC:Wp p){i:Nat}{k:e4}(e:p.codes[i]?=some k):aK (.list (c.used.map λu=>.int u.2)) (.int (i:Nat))=some (.int (q9 c k.c')):=
 SI (by rw[hK,Rr h aC e];rfl)
def RT{p:aT}{i:Nat}{k:e4}(e:p.codes[i]?=some k):aK (.tuple (p.codes.map dI)) (.int (i:Nat))=some (dI k):=SI (by rw[hK,e];rfl)
noncomputable def z0:fg:=(eZ (a0 (af oEq (af aK (af aK (af aK (nm 2) (aa (.int 1))) (nm 0)) (aa (.int 3))) (aa (.int 0)))) (a0 (af oLt (af aK (fld 1 1 9) (nm 0)) (af aK (af aK (af aK (nm 2) (aa (.int 1))) (nm 0)) (aa (.int 3))))))
def akh(p:aT)(c:aJ)(l:List Str)(m:hA)(h:a9 p c)(aC:Wp p){i:Nat}{k:e4}(e:p.codes[i]?=some k):z0 [some (.ab (.int (i:Nat))),some (.obj m 1 (b6 c l)),some (.ab (cm p))]=some (!lJ k c):=by
 have c1:aK (cm p) (.int 1)=some (.tuple (p.codes.map dI)):=rfl;have en:=RT e;have fp:aK (dI k) (.int 3)=some (.int k.uses):=rfl;have lV:=RR h aC e;have c8:(af aK (af aK (af aK (nm 2) (aa (.int 1))) (nm 0)) (aa (.int 3))) [some (.ab (.int (i:Nat))),some (.obj m 1 (b6 c l)),some (.ab (cm p))]=some (.int k.uses):=by
  simp only[af,nm,aa,pM,qW,dt,c1,en,fp]
 have cv:(af aK (fld 1 1 9) (nm 0)) [some (.ab (.int (i:Nat))),some (.obj m 1 (b6 c l)),some (.ab (cm p))]=some (.int (q9 c k.c')):=by
  simp only[af,nm,fld,akQ,pM,qW,dt,if_true,qR,lV]
 have o_:(a0 (af oEq (af aK (af aK (af aK (nm 2) (aa (.int 1))) (nm 0)) (aa (.int 3))) (aa (.int 0)))) [some (.ab (.int (i:Nat))),some (.obj m 1 (b6 c l)),some (.ab (cm p))]=some (decide (k.uses=0)):=by
  refine eV ?_
  unfold af;unfold af at c8;rw[c8];exact ji _ _
 have Fz:(a0 (af oLt (af aK (fld 1 1 9) (nm 0)) (af aK (af aK (af aK (nm 2) (aa (.int 1))) (nm 0)) (aa (.int 3))))) [some (.ab (.int (i:Nat))),some (.obj m 1 (b6 c l)),some (.ab (cm p))]=some (decide (q9 c k.c'<k.uses)):=by
  refine eV ?_
  show (Option.bind _ λx=>Option.bind _ λy=>oLt x y)=_
  rw[cv,c8];rfl
 rw[z0,cu.IX o_ λ_=>Fz];unfold lJ;by_cases ah:k.uses=0
 ·simp[ah]
 ·by_cases ao:q9 c k.c'<k.uses
  ·simp[ah,ao]
   try omega
  ·simp[ah,ao]
   try omega
def ah4(p:aT)(c:aJ)(l:List Str)(h:a9 p c)(aC:Wp p)(is:List (e4×Nat))(aU:∀q∈is,p.codes[q.2]?=some q.1)(s2 s3 s4 c9 cy cN dn dG el eU:Option aO)(ay:is.length<=40):
  (comp 1 [1,0] (df (aA 5)) (bJ 0) z0 (aA 0)) (b_ p c l [s2,s3,s4,some (.ab (.list (is.map λq=>.int (q.2:Nat)))),c9,cy,cN,dn,dG,el,eU])=some (.list ((is.filter λq=>!lJ q.1 c).map λq=>.int (q.2:Nat))):=by
 have en:=sr (cc:=z0) (fb:=aA 0) (caps:=[some (.obj .cM 1 (b6 c l)),some (.ab (cm p))]) (λq:e4×Nat=>.int (q.2:Nat)) (λq=>!lJ q.1 c) (λq=>.int (q.2:Nat)) is none λa ax=>⟨akh p c l .cM h aC (aU a ax),λ_=>rfl⟩;unfold comp;rw[show df (aA 5) (b_ p c l [s2,s3,s4,some (.ab (.list (is.map λq=>.int (q.2:Nat)))),c9,cy,cN,dn,dG,el,eU])=some (is.map λq=>.int (q.2:Nat)) from rfl,dt,if_pos (by simp[big];omega)];show (gf _ _ _ _ [none,some (.obj .cM 1 (b6 c l)),some (.ab (cm p))]).map _=_;rw[en];rfl
noncomputable def zJ(c:aJ)(zs:List (Str×Str)):List Str:=((zs.filter λz=>decide (z.2∈(["day","once"]:List Str))).map (·.1)).filter λz=>decide (dB c z≠"shut") && !decide (z∈c.b4)
noncomputable def w3:fg:=(ei (a0 (af (da false) (nm 11) (bQ [(aa (.str "once")),(aa (.str "day"))]))) (ei (a0 (af eE (nm 12) (aa (.str "shut")))) (a0 (af (da true) (nm 10) (fld 1 1 4)))))
def aki(p:aT)(c:aJ)(l:List Str)(h:a9 p c)(ay:∀x,x∈l <-> x∈c.b4){z:Str×Str}(ar:z∈p.bP)(s0 s2 s3 s4 s5 c9 cy cN dn:Option aO):
  w3 [s0,some (.obj .cM 1 (b6 c l)),s2,s3,s4,s5,c9,cy,cN,dn,some (.ab (.str z.1)),some (.ab (.str z.2)),some (.ab (.str (dB c z.1)))]=some (decide (z.2∈(["day","once"]:List Str)) && (!decide (dB c z.1="shut") && !decide (z.1∈c.b4))):=by
 have qB:=h.zn z ar;have aP:da false (.str z.2) (.tuple [.str "once",.str "day"])=some (.bool (decide (z.2∈(["day","once"]:List Str)))):=by
  have:=oQ false (n:=z.2) (ns:=["once","day"]) qB.2 (by
   intro k aI;simp at aI;rcases aI with rfl|rfl
   ·exact a5 "once"
   ·exact a5 "day")
  simp only[dv,j3,j5,if_false] at this;rw[this];congr 2;simp only[cO,gQ,or_false];exact decide_eq_decide.mpr Or.comm
 have gM:da true (.str z.1) (.list (l.map .str))=some (.bool (!decide (z.1∈c.b4))):=by
  rw[p1 true qB.1 λx hx=>h.mO x ((ay x).mp hx)];simp[ay]
 exact cu.wX (eV aP) λ_=>cu.wX (eV (kB (h.rQ z.1) (a5 "shut"))) λ_=>eV gM
def afZ(c:aJ)(z:Str×Str)(zs:List (Str×Str)):zJ c (z::zs)=(if (decide (z.2∈(["day","once"]:List Str)) && (!decide (dB c z.1="shut") && !decide (z.1∈c.b4)))=true then [z.1] else [])++zJ c zs:=by
 unfold zJ;by_cases ah:z.2∈(["day","once"]:List Str)
 ·rw[List.filter_cons,if_pos (decide_eq_true ah),decide_eq_true ah,dv,List.filter_cons];by_cases ao:dB c z.1="shut" <;> by_cases bG:z.1∈c.b4 <;> simp[ao,bG]
 ·rw[List.filter_cons,if_neg (by simpa using ah),decide_eq_false ah];rfl
noncomputable def uR:bz:=(iZ (dp 1 eM [] 1 [(aa (.str "open")),(aA 10)]))
theorem Qu(p:aT)(c:aJ)(l:List Str)(h:a9 p c)(ay:∀x,x∈l <-> x∈c.b4)(aX:c.told.length<big)(s0 s2 s3 s4 s5 c9 cy cN dn:Option aO):∀(zs:List (Str×Str)) (dG el eU:Option aO),(∀z∈zs,z∈p.bP) ->
  ∃ye pE rV,ra (dq [(dq [(bJ 10),(bJ 11)]),(bJ 12)]) w3 uR (zs.map λz=>.tuple [c_ z,.str (dB c z.1)]) [s0,some (.obj .cM 1 (b6 c l)),s2,s3,s4,s5,c9,cy,cN,dn,dG,el,eU] =
   (match zJ c zs with
    | []=>some (.bY [s0,some (.obj .cM 1 (b6 c l)),s2,s3,s4,s5,c9,cy,cN,dn,ye,pE,rV])
    |x::_=>some (.fN .none [s0,some (.obj .cM 1 (b6 (tell "open" (some x) c) l)),s2,s3,s4,s5,c9,cy,cN,dn,ye,pE,rV]))
| [],dG,el,eU,_=>⟨dG,el,eU,rfl⟩
|z::zs,dG,el,eU,ar=>by
  have c1:=aki p c l h ay (ar z e9) s0 s2 s3 s4 s5 c9 cy cN dn;have bB:=q5 c l "open" z.1 aX;obtain⟨ye,pE,rV,b7⟩:=Qu p c l h ay aX s0 s2 s3 s4 s5 c9 cy cN dn zs (some (.ab (.str z.1))) (some (.ab (.str z.2))) (some (.ab (.str (dB c z.1)))) λy bN=>ar y (dT _ bN);have ON:dq [(dq [(bJ 10),(bJ 11)]),(bJ 12)] (.tuple [c_ z,.str (dB c z.1)]) [s0,some (.obj .cM 1 (b6 c l)),s2,s3,s4,s5,c9,cy,cN,dn,dG,el,eU]=some [s0,some (.obj .cM 1 (b6 c l)),s2,s3,s4,s5,c9,cy,cN,dn,some (.ab (.str z.1)),some (.ab (.str z.2)),some (.ab (.str (dB c z.1)))]:=rfl;have g0:uR [s0,some (.obj .cM 1 (b6 c l)),s2,s3,s4,s5,c9,cy,cN,dn,some (.ab (.str z.1)),some (.ab (.str z.2)),some (.ab (.str (dB c z.1)))]=some (.fN .none [s0,some (.obj .cM 1 (b6 (tell "open" (some z.1) c) l)),s2,s3,s4,s5,c9,cy,cN,dn,some (.ab (.str z.1)),some (.ab (.str z.2)),some (.ab (.str (dB c z.1)))]):=by
   simp! [ir,uR,bB]
  rw[afZ];cases ae:(decide (z.2∈(["day","once"]:List Str)) && (!decide (dB c z.1="shut") && !decide (z.1∈c.b4))) with
  |true=>
   rw[ae] at c1;refine⟨some (.ab (.str z.1)),some (.ab (.str z.2)),some (.ab (.str (dB c z.1))),?_⟩;rw[dv,ra,ON,dt,c1,dt,if_pos rfl,g0,dt,if_pos rfl];rfl
  |false=>
   rw[ae] at c1;refine⟨ye,pE,rV,?_⟩;rw[dv,ra,ON,dt,c1,dt,if_neg kX,if_neg kX,tV];exact b7
def af2{p:aT}{c:aJ}(h:a9 p c)(aC:Wp p):List.zipWith (λx y=>(PyData.tuple [x,y]:T)) (p.bP.map c_) (c.lines.map λz=>.str z.2)=p.bP.map λz=>.tuple [c_ z,.str (dB c z.1)]:=by
 have hlen:c.lines.length=p.bP.length:=by
  have:=congrArg List.length h.ln;simpa using this
 apply List.ext_getElem?;intro i;rw[List.getElem?_zipWith,hK,hK,hK];cases e:p.bP[i]? with
|none=>rfl
|some z=>
  rw[Dn h aC e];rfl
theorem Ru:∀{l:List (Str×Int)} {i:Nat} {f:Str} {n:Int},(l.map (·.1)).Nodup->l[i]?=some (f,n)->h4 l f=l.set i (f,n+1)
| [],_,_,_,_,e=>by simp at e
|x::l,0,f,n,aW,e=>by
  simp at e;subst e;have gK:(f::l.map (·.1)).Nodup:=aW;have a8:∀{l:List (Str×Int)},f∉l.map (·.1)->h4 l f=l:=by
   intro l
   induction l with
   |nil=>intro _;rfl
   |cons x l b7=>
    intro h;have ah:x.1≠f:=λq=>h (by simp[q]);have ao:f∉l.map (·.1):=λq=>h (by simp[dK] at q ⊢;exact .inr q);show (if x.1=f then (f,x.2+1) else x)::h4 l f=_;rw[if_neg ah,b7 ao]
  show (if f=f then (f,n+1) else (f,n))::h4 l f=_
  rw[if_pos rfl,a8 (d0.mp gK).1];rfl
|x::l,i+1,f,n,aW,e=>by
  have gK:(x.1::l.map (·.1)).Nodup:=aW;have ne:x.1≠f:=λq=>by
   have:(f,n)∈l:=ky (by simpa using e);exact (d0.mp gK).1 (dK.mpr ⟨_,this,q.symm⟩)
  show (if x.1=f then (f,x.2+1) else x)::h4 l f=_
  rw[if_neg ne,Ru (d0.mp gK).2 (show l[i]?=some (f,n) by simpa using e)];rfl
noncomputable def uT:bz:=(seq (ct (dp 1 eM [] 1 [(aa (.str "wrong")),(aa .none)])) (seq (cx 1 1 7 (af cC (fld 1 1 7) (aa (.int 1)))) (seq (iff (a0 (af oEq (fld 1 1 7) (aa (.int 3)))) (seq (cx 1 1 7 (aa (.int 0))) (seq (cx 1 1 8 (aa (.int 90))) (seq (cx 1 1 5 (af aK (af aK (nm 0) (aa (.int 2))) (aa (.int 2)))) (ct (dp 1 eM [] 1 [(aa (.str "attack")),(aa .none)]))))) skip) (hn (aa .none)))))
def akj(p:aT)(c:aJ)(l:List Str)(a':cS c)(aX:c.told.length+2<big)(r:Ev):uT (some (.ab (cm p))::some (.obj .cM 1 (b6 c l))::r)=some (.fN .none (some (.ab (cm p))::some (.obj .cM 1 (b6 (gO p c) l))::r)):=by
 have c1:=C5 c l "wrong" (by omega);have aU:aK (cm p) (.int 2)=some (.tuple [.int p.leave,.int p.gG,.int p.loud]):=rfl;have bD:aK (.tuple [.int p.leave,.int p.gG,.int p.loud]) (.int 2)=some (.int p.loud):=rfl;have eY:b6 {tell "wrong" none c with tries:=(tell "wrong" none c).tries+1} l=b6 (lB c) l:=rfl;have jC:=a'.jC;unfold gO;by_cases bG:c.tries+1=3
 ·have fp:=C5 (iJ p {lB c with tries:=0,locked:=90}) l "attack" (by simp[iJ,lB,tell];omega);rw[if_pos (by omega)];have t3:(tell "wrong" none c).tries+1=3:=bG;have dV:b6 (iJ p {lB c with tries:=0,locked:=90}) l=b6 {tell "wrong" none c with tries:=0,locked:=90,c2:=p.loud} l:=rfl;rw[dV] at fp;simp! [ir,uT,cC,c1,ji,t3,aU,bD];simp[fp]
  try rfl
 ·rw[if_neg (by omega)];have t3:¬(tell "wrong" none c).tries+1=3:=bG;simp! [ir,uT,cC,c1,ji,t3]
  try rfl
def aeB(p:aT)(c:aJ)(l:List Str)(n:Int)(h:a9 p c)(aC:Wp p)(hd:ey p)(a':cS c)(ay:∀x,x∈l <-> x∈c.b4)(ah:1<=n)(ao:n<=1000)(aX:c.told.length+60000<big):sd [.ab (cm p),.obj .cM 1 (b6 c l),.ab (.tuple [.str "ticks",.int n])]=some (.none,b6 (cW p n c) l):=by
 have aP:oEq (.str "ticks") (.str "line")=some (.bool false):=by
  rw[cR (a5 "ticks") (a5 "line")];simp[yO]
 have ba:oEq (.str "ticks") (.str "code")=some (.bool false):=by
  rw[cR (a5 "ticks") (a5 "code")];simp[yP]
 have av:(jy 0 n).length=n.toNat:=by simp[jy]
 obtain⟨t3,ot⟩:=Qn p l aC hd (some (.ab (.tuple [.str "ticks",.int n]))) (jy 0 n) c none h a' ay (by rw[av];omega);have bB:tk p (jy 0 n).length c=cW p n c:=by
  rw[av];obtain⟨m,hm⟩:∃m:Nat,n.toNat=m+1:=⟨n.toNat - 1,by omega⟩;rw[hm,SY p m c λt=>(a'.t1 t).1];congr 1;omega
 rw[bB] at ot;have AK:q6 n=true:=by simp[q6];omega
 have it:ml (af aK (nm 2) (aa (.int 1))) (b_ p c l [some (.ab (.tuple [.str "ticks",.int n])),none])=some (jy 0 n):=by
  show (if q6 n=true then some (jy 0 n) else none)=_
  rw[if_pos AK]
 have c8:(a0 (af oEq (af aK (nm 2) (aa (.int 0))) (aa (.str "line")))) (b_ p c l [some (.ab (.tuple [.str "ticks",.int n])),none])=some false:=eV aP;have cv:(a0 (af oEq (af aK (nm 2) (aa (.int 0))) (aa (.str "code")))) (b_ p c l [some (.ab (.tuple [.str "ticks",.int n])),none])=some false:=eV ba;have g0:pV (b_ p c l [some (.ab (.tuple [.str "ticks",.int n])),none])=some (.bY (b_ p (cW p n c) l [some (.ab (.tuple [.str "ticks",.int n])),t3])):=by
  unfold pV;rw[iff_eq c8,if_neg kX,iff_eq cv,if_neg kX];unfold gj;rw[it,dt];exact ot
 show (pV (b_ p c l [some (.ab (.tuple [.str "ticks",.int n])),none])).bind _=_
 rw[g0];rfl
end kd
section
namespace kd
open D bq
open PySem hiding run fresh code
abbrev ev(p:aT)(c:aJ)(l:List Str)(f d:Str)(z:Option Str)(r:Ev):Ev:=some (.ab (cm p))::some (.obj .cM 1 (b6 c l))::some (.ab (.str f))::some (.ab (.str d))::some (.ab (dm z))::r
abbrev d2(i:Nat)(k:e4)(r:Ev):Ev:=some (.ab (.list [.int (i:Nat)]))::some (.ab (.str k.fE))::r
noncomputable def Ends(p:aT)(c:aJ)(o:Option Out):Prop:=∃gm r,o=some (.fN .none (some (.ab (cm p))::some (.obj .cM 1 (b6 c gm))::r))/\eN gm=c.b4
def Ends.of{p:aT}{c:aJ}{l:List Str}{r:Ev}{o:Option Out}(h:o=some (.fN .none (some (.ab (cm p))::some (.obj .cM 1 (b6 c l))::r)))(aw:eN l=c.b4):Ends p c o:=⟨l,r,h,aw⟩
def Rv{a b:bz}{ag ε':Ev}{t:T}(h:a ag=some (.fN t ε')):seq a b ag=some (.fN t ε'):=by
 unfold seq;rw[h];rfl
def Dp{a b:bz}{q:fg}{ag ε':Ev}{t:T}(bS:q ag=some true)(h:a ag=some (.fN t ε')):seq (iff q a skip) b ag=some (.fN t ε'):=Rv (by rw[iff_eq bS,if_pos rfl,h])
noncomputable def O1:bz:=(seq (rg 1 1 9 (af aK (nm 5) (aa (.int 0))) (af cC (af aK (fld 1 1 9) (af aK (nm 5) (aa (.int 0)))) (aa (.int 1)))) (seq (ct (dp 1 wt [(aA 0)] 1 [(aA 3),(aA 4),(aA 6)])) (hn (aa .none))))
def R'(p:aT)(c:aJ)(l:List Str)(k:e4)(i:Nat)(f d:Str)(z:Option Str)(h:a9 p c)(aC:Wp p)(e:p.codes[i]?=some k)(ar:rO p d z c)(aw:eN l=c.b4)(aX:c.told.length+60<big)(r:Ev):
  Ends p (d9 p k.fE d z {c with used:=h4 c.used k.c'}) (O1 (ev p c l f d z (d2 i k r))):=by
 have u:=Rr h aC e;have eX:=RR h aC e;have aW:(c.used.map (·.1)).Nodup:=by rw[h.us];exact aC.cd
 have fp:=Ru aW u;have Yo:i<c.used.length:=(fe.mp u).1;have ho:=h.add k.c';have fa:=aii p {c with used:=h4 c.used k.c'} l k.fE d z ho aC ar aw aX;have xI:aK (.list [.int (i:Nat)]) (.int 0)=some (.int (i:Nat)):=rfl;have q:(0:Int)<=(i:Int)/\((i:Int)).toNat<(c.used.map λu=>(PyData.int u.2:T)).length:=by
  simp;omega
 have lW:(c.used.map λu=>(PyData.int u.2:T)).set i (.int (q9 c k.c'+1))=(h4 c.used k.c').map λu=>.int u.2:=by
  rw[fp,List.map_set]
 have s1:(rg 1 1 9 (af aK (nm 5) (aa (.int 0))) (af cC (af aK (fld 1 1 9) (af aK (nm 5) (aa (.int 0)))) (aa (.int 1)))) (ev p c l f d z (d2 i k r))=some (.bY (ev p {c with used:=h4 c.used k.c'} l f d z (d2 i k r))):=by
  simp only[rg,af,aa,aA,nm,fld,kM,akQ,dt,pM,qW,if_true,qR,xI,eX,cC,q,and_self,Int.toNat_natCast,lW];simp[gb,akQ,wu,BS];omega
 have s2:(ct (dp 1 wt [(aA 0)] 1 [(aA 3),(aA 4),(aA 6)])) (ev p {c with used:=h4 c.used k.c'} l f d z (d2 i k r))=some (.bY (ev p (d9 p k.fE d z {c with used:=h4 c.used k.c'}) (kP d z l) f d z (d2 i k r))):=by
  simp! [ir,fa]
 refine⟨kP d z l,_,iw s1 (iw s2 rfl),?_⟩
 exact kd.Nr p {c with used:=h4 c.used k.c'} l k.fE d z aw
noncomputable def rV:bz:=(seq (iff (a0 (af oEq (nm 3) (aa (.str "set")))) (wF (m9 (df (af aK (nm 0) (aa (.int 0)))) (df (fld 1 1 3))) (dq [(dq [(bJ 10),(bJ 11)]),(bJ 12)]) w3 uR) skip) O1)
def ajd{p:aT}{c:aJ}{d:Str}{z:Option Str}(hd:d="set"\/d="unset"\/d="shunt"\/d="free")(ar:lr p d z)(bp:ie p d z c=false):rO p d z c:=by
 rcases hd with rfl|rfl|rfl|rfl
 ·exact .inl rfl
 ·exact .inr (.inl rfl)
 ·exact .inr (.inr (.inl ⟨rfl,ar (.inl rfl)⟩))
 ·refine .inr (.inr (.inr ⟨rfl,?_⟩))
  obtain⟨x,rfl,hx⟩:=ar (.inr rfl);refine⟨x,rfl,Classical.byContradiction λa8=>?_⟩;have:ie p "free" (some x) c=true:=by
   by_cases hm:c.mode="off" <;> simp[ie,pT,oM,a8,hm]
  rw[this] at bp;cases bp
def za{d:Str}(hd:d="set"\/d="unset"\/d="shunt"\/d="free"):cz d:=by
 rcases hd with rfl|rfl|rfl|rfl
 ·exact a5 "set"
 ·exact a5 "unset"
 ·exact a5 "shunt"
 ·exact a5 "free"
def aiH(p:aT)(c:aJ)(l:List Str)(k:e4)(i:Nat)(f d:Str)(z:Option Str)(h:a9 p c)(aC:Wp p)(e:p.codes[i]?=some k)(hd:d="set"\/d="unset"\/d="shunt"\/d="free")(ar:rO p d z c)(aw:eN l=c.b4)(aX:c.told.length+60<big)(cy cN dn dG el eU:Option aO):
  Ends p (if d="set"/\bare p ["day","once"] c≠[] then tell "open" (some ((bare p ["day","once"] c).headD "")) c else d9 p k.fE d z {c with used:=h4 c.used k.c'}) (rV (ev p c l f d z (d2 i k [cy,cN,dn,dG,el,eU]))):=by
 have ay:=CJ aw;have i8:(a0 (af oEq (nm 3) (aa (.str "set")))) (ev p c l f d z (d2 i k [cy,cN,dn,dG,el,eU]))=some (decide (d="set")):=eV (cR (za hd) (a5 "set"));unfold rV;by_cases ah:d="set"
 ·rw[decide_eq_true ah] at i8;obtain⟨ye,pE,akK,ot⟩:=Qu p c l h ay (by omega) (some (.ab (cm p))) (some (.ab (.str f))) (some (.ab (.str d))) (some (.ab (dm z))) (some (.ab (.list [.int (i:Nat)]))) (some (.ab (.str k.fE))) cy cN dn p.bP dG el eU λz ar=>ar;have ae:zJ c p.bP=bare p ["day","once"] c:=rfl;rw[ae] at ot;have it:(m9 (df (af aK (nm 0) (aa (.int 0)))) (df (fld 1 1 3))) (ev p c l f d z (d2 i k [cy,cN,dn,dG,el,eU]))=some (p.bP.map λz=>.tuple [c_ z,.str (dB c z.1)]):=by
   rw[<- af2 h aC];rfl
  have xT:(iff (a0 (af oEq (nm 3) (aa (.str "set")))) (wF (m9 (df (af aK (nm 0) (aa (.int 0)))) (df (fld 1 1 3))) (dq [(dq [(bJ 10),(bJ 11)]),(bJ 12)]) w3 uR) skip) (ev p c l f d z (d2 i k [cy,cN,dn,dG,el,eU]))=ra (dq [(dq [(bJ 10),(bJ 11)]),(bJ 12)]) w3 uR (p.bP.map λz=>.tuple [c_ z,.str (dB c z.1)]) (ev p c l f d z (d2 i k [cy,cN,dn,dG,el,eU])):=by
   rw[iff_eq i8,if_pos rfl];unfold wF;rw[it,dt]
  rw[ot] at xT;cases dk:bare p ["day","once"] c with
  |nil=>
   rw[dk] at xT;rw[if_neg λq=>q.2 rfl];rw[g8 xT];exact R' p c l k i f d z h aC e ar aw aX _
  |cons x xs=>
   rw[dk] at xT;rw[if_pos ⟨ah,by simp⟩];exact Ends.of (Rv xT) aw
 ·rw[decide_eq_false ah] at i8;rw[if_neg λq=>ah q.1];exact kA i8 rfl▸R' p c l k i f d z h aC e ar aw aX _
noncomputable def nS(z:Option Str)(c:aJ):Bool:=match z with
|none=>false
|some x=>decide (x∈c.b4)
def aje{p:aT}{c:aJ}{d:Str}{z:Option Str}(hd:d="set"\/d="unset"\/d="shunt"\/d="free")(ar:lr p d z):
  (((!decide (d="unset")) && !decide (c.mode="off")) || ((decide (d="shunt") && (nS z c || decide (kindOf p (z.getD "")="day"))) || (decide (d="free") && !nS z c)))=ie p d z c:=by
 unfold ie;rcases hd with rfl|rfl|rfl|rfl
 ·by_cases hm:c.mode="off" <;> simp! [yd,hm]
 ·simp! [yd]
 ·obtain⟨x,rfl,hx⟩:=ar (.inl rfl);by_cases hm:c.mode="off" <;> simp! [yd,hm,nS,Bool.or_comm]
 ·obtain⟨x,rfl,hx⟩:=ar (.inr rfl);by_cases hm:c.mode="off" <;> simp! [yd,hm,nS]
noncomputable def odd(p:aT)(c:aJ)(d:Str)(z:Option Str):Bool:=(decide (d="shunt") && (nS z c || decide (kindOf p (z.getD "")="day"))) || (decide (d="free") && !nS z c)
noncomputable def pE:bz:=(seq (iff (eZ (ei (a0 (af eE (nm 3) (aa (.str "unset")))) (a0 (af eE (fld 1 1 0) (aa (.str "off"))))) (a0 (nm 9))) (iZ (dp 1 eM [] 1 [(aa (.str "no")),(aA 6)])) skip) rV)
def aiI(p:aT)(c:aJ)(l:List Str)(k:e4)(i:Nat)(f d:Str)(z:Option Str)(h:a9 p c)(aC:Wp p)(e:p.codes[i]?=some k)(hd:d="set"\/d="unset"\/d="shunt"\/d="free")(ar:lr p d z)(aw:eN l=c.b4)(aX:c.told.length+60<big)(cy cN dG el eU:Option aO):
  Ends p (if ie p d z c then tell "no" (some k.fE) c else if d="set"/\bare p ["day","once"] c≠[] then tell "open" (some ((bare p ["day","once"] c).headD "")) c else d9 p k.fE d z {c with used:=h4 c.used k.c'}) (pE (ev p c l f d z (d2 i k [cy,cN,some (.ab (.bool (odd p c d z))),dG,el,eU]))):=by
 have i8:(eZ (ei (a0 (af eE (nm 3) (aa (.str "unset")))) (a0 (af eE (fld 1 1 0) (aa (.str "off"))))) (a0 (nm 9))) (ev p c l f d z (d2 i k [cy,cN,some (.ab (.bool (odd p c d z))),dG,el,eU]))=some (ie p d z c):=by
  rw[<- aje hd ar];exact cu.IX (cu.wX (eV (kB (za hd) (a5 "unset"))) λ_=>eV (kB h.mo (a5 "off"))) λ_=>eV rfl
 have es:=q5 c l "no" k.fE (by omega);unfold pE;cases bp:ie p d z c with
|true=>
  rw[bp] at i8;have s1:(iZ (dp 1 eM [] 1 [(aa (.str "no")),(aA 6)])) (ev p c l f d z (d2 i k [cy,cN,some (.ab (.bool (odd p c d z))),dG,el,eU]))=some (.fN .none (ev p (tell "no" (some k.fE) c) l f d z (d2 i k [cy,cN,some (.ab (.bool (odd p c d z))),dG,el,eU]))):=by
   simp! [ir,es]
  exact Ends.of (Dp i8 s1) aw
|false=>
  rw[bp] at i8;rw[if_neg kX];exact kA i8 rfl▸aiH p c l k i f d z h aC e hd (ajd hd ar bp) aw aX _ _ _ _ _ _
def aiB{p:aT}{c:aJ}{l:List Str}{z:Option Str}(h:a9 p c)(ay:∀x,x∈l <-> x∈c.b4)(aH:∀x,z=some x->cz x):da false (dm z) (.list (l.map .str))=some (.bool (nS z c)):=by
 have b':∀x∈l,cz x:=λx hx=>h.mO x ((ay x).mp hx);cases z with
|some x=>
  show da false (.str x) (.list (l.map .str))=_
  rw[p1 false (aH x rfl) b'];simp[nS,ay]
|none=>
  have a8:mG .none (l.map .str)=false:=by
   unfold mG;rw[List.any_map];simp[hX]
  simp only[dm,da,(K5 1).hl,Ky l b',a8];rfl
def aju{p:aT}{c:aJ}{x:Str}(h:a9 p c)(aC:Wp p)(hx:x∈p.bP.map (·.1)):da false (.tuple [.str x,.str "day"]) (.tuple (p.bP.map c_))=some (.bool (decide (kindOf p x="day"))):=by
 have dD:hl (.tuple [.str x,.str "day"])=true:=(nM (d:=1) λt aX=>by
  simp at aX;rcases aX with rfl|rfl
  ·exact m5 _ (h.ja hx)
  ·exact m5 _ (a5 "day")).hl
 have fu:ox (p.bP.map c_)=true:=by
  have:=zp (d:=2) (ts:=p.bP.map c_) λt aX=>by
   obtain⟨y,bN,rfl⟩:=dK.mp aX;refine nM λt aX=>?_;simp at aX;rcases aX with rfl|rfl
   ·exact m5 _ (h.zn y bN).1
   ·exact m5 _ (h.zn y bN).2
  unfold ox;rw[this.1,Bool.true_and,decide_eq_true_eq];omega
 have e:=vT p.bP x hx;have hm:mG (.tuple [.str x,.str "day"]) (p.bP.map c_)=decide (kindOf p x="day"):=by
  rw[Bool.eq_iff_iff];unfold mG;rw[List.any_map,List.any_eq_true,decide_eq_true_eq];constructor
  ·rintro⟨y,bN,eL⟩;have a7:y=(x,("day":Str)):=by
    obtain⟨a,b⟩:=y;simpa [c_,hX,PyData.eqvAll] using eL
   subst a7;obtain⟨j,bD,akW⟩:=List.getElem_of_mem bN;have bT:=lookup_at aC.wa (i:=j) (fe.mpr ⟨bD,akW⟩);have bR:=lookup_at aC.wa e;rw[bT] at bR;exact (e3 bR).symm
  ·intro f5;refine⟨(x,kindOf p x),ky e,?_⟩;rw[f5];simp[c_,hX,PyData.eqvAll]
 simp only[da,dD,fu,hm];rfl
noncomputable def yf:bz:=(seq (asg 8 (af (da false) (nm 4) (fld 1 1 4))) (seq (asg 9 (jb (iI (af oEq (nm 3) (aa (.str "shunt"))) (jb (aA 8) (af (da false) (bQ [(aA 4),(aa (.str "day"))]) (af aK (nm 0) (aa (.int 0)))))) (iI (af oEq (nm 3) (aa (.str "free"))) (tD (aA 8))))) pE))
def ajP(p:aT)(c:aJ)(l:List Str)(k:e4)(i:Nat)(f d:Str)(z:Option Str)(h:a9 p c)(aC:Wp p)(e:p.codes[i]?=some k)(hd:d="set"\/d="unset"\/d="shunt"\/d="free")(ar:lr p d z)(aH:∀x,z=some x->cz x)(aw:eN l=c.b4)(aX:c.told.length+60<big)(cy cN dn dG el eU:Option aO):
  Ends p (if ie p d z c then tell "no" (some k.fE) c else if d="set"/\bare p ["day","once"] c≠[] then tell "open" (some ((bare p ["day","once"] c).headD "")) c else d9 p k.fE d z {c with used:=h4 c.used k.c'}) (yf (ev p c l f d z (d2 i k [cy,cN,dn,dG,el,eU]))):=by
 have ay:=CJ aw;have bg:=aiI p c l k i f d z h aC e hd ar aw aX cy (some (.ab (.bool (nS z c)))) dG el eU;have a1:(af (da false) (nm 4) (fld 1 1 4)) (ev p c l f d z (d2 i k [cy,cN,dn,dG,el,eU]))=some (.bool (nS z c)):=aiB h ay aH;have a2:(jb (iI (af oEq (nm 3) (aa (.str "shunt"))) (jb (aA 8) (af (da false) (bQ [(aA 4),(aa (.str "day"))]) (af aK (nm 0) (aa (.int 0)))))) (iI (af oEq (nm 3) (aa (.str "free"))) (tD (aA 8)))) (ev p c l f d z (d2 i k [cy,some (.ab (.bool (nS z c))),dn,dG,el,eU]))=some (.bool (odd p c d z)):=by
  refine cu.x4 (cu.wY (cR (za hd) (a5 "shunt")) λq=>cu.x4 rfl λ_=>?_) λ_=>cu.wY (cR (za hd) (a5 "free")) λ_=>cu._i rfl
  obtain⟨x,rfl,hx⟩:=ar (.inl (of_decide_eq_true q));have:=aju h aC hx;simp only[af,nm,aa,bQ,args,aA,dm,pM,qW,dt,xO];exact this
 have st:yf (ev p c l f d z (d2 i k [cy,cN,dn,dG,el,eU]))=pE (ev p c l f d z (d2 i k [cy,some (.ab (.bool (nS z c))),some (.ab (.bool (odd p c d z))),dG,el,eU])):=jG a1 (jG a2 rfl);rw[st];exact bg
noncomputable def rW:bz:=(seq (cx 1 1 7 (aa (.int 0))) (seq (hR (dq [(bJ 6),(bJ 7)]) (slice (af aK (af aK (nm 0) (aa (.int 1))) (af aK (nm 5) (aa (.int 0)))) (opt (aa (.int 1))) (opt (aa (.int 3))))) (seq (iff (a0 (af (da true) (v3 "free" "shunt" (nm 3) (aA 3)) (nm 7))) (iZ (dp 1 eM [] 1 [(aa (.str "denied")),(aA 6)])) skip) yf)))
def ajQ(p:aT)(c:aJ)(l:List Str)(k:e4)(i:Nat)(f d:Str)(z:Option Str)(h:a9 p c)(aC:Wp p)(e:p.codes[i]?=some k)(hd:d="set"\/d="unset"\/d="shunt"\/d="free")(ar:lr p d z)(aH:∀x,z=some x->cz x)(aw:eN l=c.b4)(aX:c.told.length+60<big)(c9 cy cN dn dG el eU:Option aO):
  Ends p (takeRight p k d z {c with tries:=0}) (rW (ev p c l f d z [some (.ab (.list [.int (i:Nat)])),c9,cy,cN,dn,dG,el,eU])):=by
 have aI:k∈p.codes:=ky e;have Yy:=h.eB k aI;have bg:=ajP p {c with tries:=0} l k i f d z (h.yi 0) aC e hd ar aH aw aX (some (.ab (.tuple (k.iY.map .str)))) cN dn dG el eU;have a1:(cx 1 1 7 (aa (.int 0))) (ev p c l f d z [some (.ab (.list [.int (i:Nat)])),c9,cy,cN,dn,dG,el,eU])=some (.bY (ev p {c with tries:=0} l f d z [some (.ab (.list [.int (i:Nat)])),c9,cy,cN,dn,dG,el,eU])):=rfl;have a2:(hR (dq [(bJ 6),(bJ 7)]) (slice (af aK (af aK (nm 0) (aa (.int 1))) (af aK (nm 5) (aa (.int 0)))) (opt (aa (.int 1))) (opt (aa (.int 3))))) (ev p {c with tries:=0} l f d z [some (.ab (.list [.int (i:Nat)])),c9,cy,cN,dn,dG,el,eU])=some (.bY (ev p {c with tries:=0} l f d z (d2 i k [some (.ab (.tuple (k.iY.map .str))),cN,dn,dG,el,eU]))):=by
  have xI:aK (.list [.int (i:Nat)]) (.int 0)=some (.int (i:Nat)):=rfl;have bH:=RT e;have bO:Bp (dI k) (some 1) (some 3)=some (.tuple [.str k.fE,.tuple (k.iY.map .str)]):=rfl;simp only[hR,slice,opt,af,nm,aa,pM,qW,dt,N5,xI,bH,bO];rfl
 have abc:cz (if d="free" then ("shunt":Str) else d):=by
  split
  ·exact a5 "shunt"
  ·exact za hd
 have g1:v3 "free" "shunt" (nm 3) (aA 3) (ev p {c with tries:=0} l f d z (d2 i k [some (.ab (.tuple (k.iY.map .str))),cN,dn,dG,el,eU]))=some (.str (if d="free" then ("shunt":Str) else d)):=by
  show some (if (Sum.inr d:D.Key)=.inr "free" then (ib "shunt":T) else .str d)=_
  by_cases q:d="free"
  ·subst q;rw[if_pos rfl,if_pos rfl]
  ·rw[if_neg q,if_neg λz=>q (Sum.inr.inj z)]
 have i8:(a0 (af (da true) (v3 "free" "shunt" (nm 3) (aA 3)) (nm 7))) (ev p {c with tries:=0} l f d z (d2 i k [some (.ab (.tuple (k.iY.map .str))),cN,dn,dG,el,eU]))=some (!decide ((if d="free" then ("shunt":Str) else d)∈k.iY)):=by
  refine eV ?_
  rw[cu.px g1 rfl];exact oQ true abc Yy.2.2
 have es:=q5 {c with tries:=0} l "denied" k.fE (by show c.told.length<big;omega);unfold rW;rw[g8 a1,g8 a2];unfold takeRight mx;by_cases av:(if d="free" then ("shunt":Str) else d)∈k.iY
 ·rw[if_neg λq=>q av];rw[decide_eq_true av] at i8;rw[kA i8 rfl];by_cases bp:ie p d z {c with tries:=0}=true
  ·rw[if_pos bp] at bg ⊢;exact bg
  ·rw[if_neg bp] at bg ⊢;by_cases ae:d="set"/\bare p ["day","once"] {c with tries:=0}≠[]
   ·rw[if_pos ae] at bg ⊢;exact bg
   ·rw[if_neg ae] at bg ⊢;exact bg
 ·rw[if_pos av];rw[decide_eq_false av] at i8;have s1:(iZ (dp 1 eM [] 1 [(aa (.str "denied")),(aA 6)])) (ev p {c with tries:=0} l f d z (d2 i k [some (.ab (.tuple (k.iY.map .str))),cN,dn,dG,el,eU]))=some (.fN .none (ev p (tell "denied" (some k.fE) {c with tries:=0}) l f d z (d2 i k [some (.ab (.tuple (k.iY.map .str))),cN,dn,dG,el,eU]))):=by
   simp! [ir,es]
  exact Ends.of (Dp i8 s1) aw
noncomputable def t3:bz:=(seq (iff (a0 (af gZ (fld 1 1 8) (aa (.int 0)))) (iZ (dp 1 eM [] 1 [(aa (.str "locked")),(aa .none)])) skip) (seq (iff (a0 (af oEq (nm 5) (ew []))) uT skip) rW))
def eq_nil(ns:List Int)(a8:ns.length<=40):oEq (.list (ns.map .int)) (.list [])=some (.bool (decide (ns=[]))):=by
 have dD:hl (.list (ns.map .int))=true:=(ahe (d:=1) λt aX=>by
  obtain⟨n,_,rfl⟩:=dK.mp aX;exact sh _ n).hl
 have fu:hl (.list [])=true:=rfl;unfold oEq;rw[dD,fu];cases ns with
|nil=>simp[hX,PyData.eqvAll]
|cons n ns=>simp[hX,PyData.eqvAll]
def agy(p:aT)(c:aJ)(l:List Str)(f d:Str)(z:Option Str)(h:a9 p c)(aC:Wp p)(a':cS c)(hf:cz f)(hd:d="set"\/d="unset"\/d="shunt"\/d="free")(ar:lr p d z)(aH:∀x,z=some x->cz x)(aw:eN l=c.b4)(aX:c.told.length+60<big):
  ∃gm,zg [.ab (cm p),.obj .cM 1 (b6 c l),.ab (.str f),.ab (.str d),.ab (dm z)]=some (.none,b6 (code p f d z c) gm)/\eN gm=(code p f d z c).b4:=by
 have main:Ends p (code p f d z c) (De (ev p c l f d z [none,none,none,none,none,none,none,none])):=by
  have c1:=places_eq p c f (some (.obj .cM 1 (b6 c l))) (some (.ab (.str d))) (some (.ab (dm z))) none none none none none none none none h aC hf;have rJ:=aC.cl;have en:=ah4 p c l h aC ((p.codes.zipIdx 0).filter (λq=>decide (q.1.c'=f))) (λq bS=>by
   have:=List.mem_zipIdx (x:=q.1) (i:=q.2) (List.mem_filter.mp bS).1;have bG:=this.2.2;have ao:q.2<p.codes.length:=by omega
   rw[fe];exact⟨ao,by simpa using bG.symm⟩) (some (.ab (.str f))) (some (.ab (.str d))) (some (.ab (dm z))) none none none none none none none (by
    have:=oI (λq:e4×Nat=>decide (q.1.c'=f)) (p.codes.zipIdx 0);rw[List.length_zipIdx] at this;omega)
  have st:De (ev p c l f d z [none,none,none,none,none,none,none,none])=t3 (ev p c l f d z [some (.ab (.list ((((p.codes.zipIdx 0).filter (λq=>decide (q.1.c'=f))).filter (λq=>!lJ q.1 c)).map λq=>.int (q.2:Nat)))),none,none,none,none,none,none,none]):=jG c1 (jG en rfl);have Mx:∀r,(a0 (af gZ (fld 1 1 8) (aa (.int 0)))) (ev p c l f d z r)=some (decide (0<c.locked)):=λr=>by
   refine eV ?_
   show gZ (.int c.locked) (.int 0)=_
   simp[gZ]
  rw[st];generalize hm:(((p.codes.zipIdx 0).filter (λq=>decide (q.1.c'=f))).filter (λq=>!lJ q.1 c))=ms;have hlen:ms.length<=40:=by
   rw[<- hm];have ah:=oI (λq:e4×Nat=>!lJ q.1 c) ((p.codes.zipIdx 0).filter (λq=>decide (q.1.c'=f)));have ao:=oI (λq:e4×Nat=>decide (q.1.c'=f)) (p.codes.zipIdx 0);rw[List.length_zipIdx] at ao;omega
  unfold t3 code;by_cases AF:0<c.locked
  ·rw[if_pos AF];have es:=C5 c l "locked" (by omega);have w2:=Mx [some (.ab (.list (ms.map λq=>.int (q.2:Nat)))),none,none,none,none,none,none,none];rw[decide_eq_true AF] at w2;have s1:∀r,(iZ (dp 1 eM [] 1 [(aa (.str "locked")),(aa .none)])) (ev p c l f d z r)=some (.fN .none (ev p (tell "locked" none c) l f d z r)):=λr=>by
    simp! [ir,es]
   exact Ends.of (Dp w2 (s1 _)) aw
  ·rw[if_neg AF];have w2:=Mx [some (.ab (.list (ms.map λq=>.int (q.2:Nat)))),none,none,none,none,none,none,none];rw[decide_eq_false AF] at w2;rw[kA w2 rfl];have Fv:(a0 (af oEq (nm 5) (ew []))) (ev p c l f d z [some (.ab (.list (ms.map λq=>.int (q.2:Nat)))),none,none,none,none,none,none,none])=some (decide (ms=[])):=by
    refine eV ?_
    have:=eq_nil (ms.map λq=>((q.2:Nat):Int)) (by simpa using hlen);rw[nJ] at this;show oEq (.list (ms.map λq=>.int (q.2:Nat))) (.list [])=_;simpa [kT] using this
   have O_:ms=[]->Ends p (gO p c) (seq (iff (a0 (af oEq (nm 5) (ew []))) uT skip) rW (ev p c l f d z [some (.ab (.list (ms.map λq=>.int (q.2:Nat)))),none,none,none,none,none,none,none])):=λem=>by
    rw[decide_eq_true em] at Fv;refine Ends.of (Dp Fv (akj p c l a' (by omega) _)) ?_;rw[aw];unfold gO;split <;> rfl
   have Yn:=Rh (f:=f) p.codes 0 aC.cd;unfold codeOf;rcases Yn with ⟨ah,ao⟩|⟨k,i,ah,ao,bG⟩
   ·rw[ah];rw[ao] at hm;exact O_ hm.symm
   ·rw[ah];rw[bG,Nat.zero_add] at hm;cases bp:lJ k c with
    |true=>
     have:ms=[]:=by
      rw[<- hm];simp[bp]
     show Ends p (if lJ k c=true then gO p c else takeRight p k d z {c with tries:=0}) _
     rw[bp,if_pos rfl];exact O_ this
    |false=>
     have em:ms=[(k,i)]:=by
      rw[<- hm];simp[bp]
     subst em;have VT:(a0 (af oEq (nm 5) (ew []))) (ev p c l f d z [some (.ab (.list ([(k,i)].map λq=>.int (q.2:Nat)))),none,none,none,none,none,none,none])=some false:=by
      rw[Fv];simp
     rw[kA VT rfl];show Ends p (if lJ k c=true then gO p c else takeRight p k d z {c with tries:=0}) _;rw[bp,if_neg kX];exact ajQ p c l k i f d z h aC ao hd ar aH aw aX none none none none none none none
 obtain⟨gm,r,e,jY⟩:=main;refine⟨gm,?_,jY⟩;show (De (ev p c l f d z [none,none,none,none,none,none,none,none])).bind _=_;rw[e];rfl
end kd
end
section
namespace bq
open D PySem
noncomputable def Tk:gT->Prop
|.cW n=>n<=200
|_=>True
def ahw{p:aT}(h:ey p)(n:Int):∃e,(o1 p e/\Tk e)/\se [cm p,.int n]=some (ee e):=by
 obtain⟨aP,_,c1⟩:=divQ n 8;obtain⟨i,xI,bH,en⟩:=Oh (l:=p.bP.map c_) aP (by simpa using h.oL);obtain⟨t,aX,fp⟩:=AQ xI bH;obtain⟨z,ar,rfl⟩:=dK.mp aX;have tq:z.1∈p.bP.map (·.1):=dK.mpr ⟨z,ar,rfl⟩;obtain⟨k,_,_,_,lV⟩:=modQ n 10;obtain⟨ba,_,lW⟩:=divQ n 512;obtain⟨cf,_,N6,AR,ni⟩:=modQ ba 4;obtain⟨w,hw,nj⟩:=xN ["shut","open","open","cut"] N6 AR;obtain⟨XM,NQ,n6⟩:=xN ["0001","1111","9999","0000"] N6 AR;obtain⟨cU,_,mz⟩:=divQ n 64;obtain⟨gM,_,n5⟩:=divQ n 4096;obtain⟨l5,_,pv,eY,FC⟩:=modQ gM 3;obtain⟨u,bp,uV⟩:=xM [3,40,200] pv eY;have tm:0<u/\u<=200:=by
  simp at bp;omega
 obtain⟨hV,_,oq,bT,XE⟩:=modQ cU u tm.1;obtain⟨GK,Y0,Y1,Nt⟩:=Oh (l:=p.codes.map dI) cU (by simpa using h.w1);obtain⟨t',YO,XF⟩:=AQ Y0 Y1;obtain⟨c,aG,rfl⟩:=dK.mp YO;have Yd:c.c'∈uD:=by
  have:=h.cs.subset (dK.mpr ⟨c,aG,rfl⟩);simp[rz,uD] at this ⊢;rcases this with q|q|q|q|q|q <;> simp[q]
 obtain⟨nz,_,Nu⟩:=divQ n 65536;obtain⟨tK,_,_,_,Nv⟩:=modQ nz 4;obtain⟨pB,_,m0,i',Nw⟩:=modQ gM 6;obtain⟨d,hd,FD⟩:=xN ["set","set","unset","shunt","free","shunt"] m0 i';simp only[dv,j3] at nj n6 uV FD;simp only[g6] at en Nt;have zR:hD [.tuple (p.bP.map c_)]=some (.int p.bP.length):=by simp[hD]
 have bw:hD [.tuple (p.codes.map dI)]=some (.int p.codes.length):=by simp[hD]
 simp only[se,QT,d4,dv,j3,g5,qX,dZ,vr,tV];by_cases ah:k<5
 ·exact⟨.line z.1 w,⟨⟨tq,hw⟩,trivial⟩,by simp! [fK,xO,DG,c1,zR,en,fp,lV,oLt,ah,lW,ni,nj,uw,oP,ee]⟩
 ·by_cases ao:k<7
  ·exact⟨.cW (1+hV),⟨⟨by omega,by omega⟩,by show 1+hV<=200;omega⟩,by simp! [fK,xO,DG,c1,zR,en,fp,lV,oLt,ah,ao,mz,n5,FC,uV,XE,kC,oP,m6,ee]⟩
  ·have f':cz d:=p0 (l:=["set","set","unset","shunt","free","shunt"]) (hx:=hd);have I5:=oQ false (n:=d) (ns:=["set","unset"]) f' (by
    intro k aI;exact p0 (l:=["set","unset"]) (hx:=aI))
   simp only[dv,j3] at I5;obtain⟨f,hf,uW⟩:∃f∈uD,(iff (a0 (af oEq (af oMod (af oDiv (nm 1) (aa (.int 65536))) (aa (.int 4))) (aa (.int 0)))) (asg 4 (af aK (bQ [(aa (.str "0001")),(aa (.str "1111")),(aa (.str "9999")),(aa (.str "0000"))]) (af oMod (af oDiv (nm 1) (aa (.int 512))) (aa (.int 4))))) skip) [some (.ab (cm p)),some (.ab (.int n)),some (.ab (.str z.1)),some (.ab (.int k)),some (.ab (.str c.c')),none]=some (.bY [some (.ab (cm p)),some (.ab (.int n)),some (.ab (.str z.1)),some (.ab (.int k)),some (.ab (.str f)),none]):=by
    by_cases bG:tK=0
    ·refine⟨XM,?_,by simp! [fK,Nu,Nv,ji,bG,lW,ni,n6,uw]⟩
     simp[uD] at NQ ⊢;rcases NQ with q|q|q|q <;> simp[q]
    ·exact⟨c.c',Yd,by simp! [fK,Nu,Nv,ji,bG]⟩
   have OK:∀X:bz,iff (a0 (af oLt (nm 3) (aa (.int 5)))) X skip [some (.ab (cm p)),some (.ab (.int n)),some (.ab (.str z.1)),some (.ab (.int k)),none,none]=some (.bY [some (.ab (cm p)),some (.ab (.int n)),some (.ab (.str z.1)),some (.ab (.int k)),none,none]):=λX=>by simp! [fK,oLt,ah]
   have sB:∀X:bz,iff (a0 (af oLt (nm 3) (aa (.int 7)))) X skip [some (.ab (cm p)),some (.ab (.int n)),some (.ab (.str z.1)),some (.ab (.int k)),none,none]=some (.bY [some (.ab (cm p)),some (.ab (.int n)),some (.ab (.str z.1)),some (.ab (.int k)),none,none]):=λX=>by simp! [fK,oLt,ao]
   have OL:asg 4 (af aK (af aK (af aK (nm 0) (aa (.int 1))) (af oMod (af oDiv (nm 1) (aa (.int 64))) (bl hD [(af aK (nm 0) (aa (.int 1)))]))) (aa (.int 0))) [some (.ab (cm p)),some (.ab (.int n)),some (.ab (.str z.1)),some (.ab (.int k)),none,none]=some (.bY [some (.ab (cm p)),some (.ab (.int n)),some (.ab (.str z.1)),some (.ab (.int k)),some (.ab (.str c.c')),none]):=by simp! [fK,N5,bw,mz,Nt,XF,aka]
   by_cases cT:d="set"\/d="unset"
   ·refine⟨.code f d none,⟨⟨hf,.inl ⟨cT,rfl⟩⟩,trivial⟩,?_⟩
    have I6:da false (.str d) (.tuple [.str "set",.str "unset"])=some (.bool true):=by
     rw[I5];simp[cT]
    have pre:∀B:bz,(seq (asg 2 (af aK (af aK (af aK (nm 0) (aa (.int 0))) (af oMod (af oDiv (nm 1) (aa (.int 8))) (bl hD [(af aK (nm 0) (aa (.int 0)))]))) (aa (.int 0)))) (seq (asg 3 (af oMod (nm 1) (aa (.int 10)))) B)) [some (.ab (cm p)),some (.ab (.int n)),none,none,none,none]=B [some (.ab (cm p)),some (.ab (.int n)),some (.ab (.str z.1)),some (.ab (.int k)),none,none]:=by
     intro B;simp! [fK,xO,DG,c1,zR,en,fp,lV]
    rw[pre];rw[g8 (OK _),g8 (sB _),g8 OL,g8 uW];simp! [fK,n5,Nw,FD,LB,m6,I6,uw,ee,dm]
   ·refine⟨.code f d (some z.1),⟨⟨hf,.inr ⟨?_,z.1,rfl,tq⟩⟩,trivial⟩,?_⟩
    ·simp at hd;rcases hd with q|q|q|q|q
     ·exact absurd (.inl q) cT
     ·exact absurd (.inr q) cT
     ·exact .inl q
     ·exact .inr q
     ·exact .inl q
    have I6:da false (.str d) (.tuple [.str "set",.str "unset"])=some (.bool false):=by
     rw[I5];simp at cT;simp[cT]
    have pre:∀B:bz,(seq (asg 2 (af aK (af aK (af aK (nm 0) (aa (.int 0))) (af oMod (af oDiv (nm 1) (aa (.int 8))) (bl hD [(af aK (nm 0) (aa (.int 0)))]))) (aa (.int 0)))) (seq (asg 3 (af oMod (nm 1) (aa (.int 10)))) B)) [some (.ab (cm p)),some (.ab (.int n)),none,none,none,none]=B [some (.ab (cm p)),some (.ab (.int n)),some (.ab (.str z.1)),some (.ab (.int k)),none,none]:=by
     intro B;simp! [fK,xO,DG,c1,zR,en,fp,lV]
    rw[pre];rw[g8 (OK _),g8 (sB _),g8 OL,g8 uW];simp! [fK,n5,Nw,FD,LB,m6,I6,uw,ee,dm]
theorem Ry{p:aT}(h:ey p)(n:Int):∀(bf:List Int) (s0:Option aO),(∀k∈bf,0<=k/\k<1000)->∃es:List gT,(∀e∈es,o1 p e/\Tk e)/\es.length=bf.length/\gf (bJ 0) (fi true) (bl se [(aA 1),(af oDiv (bl jF [(aA 2),(af cC (aa (.int 30)) (nm 0))]) (aa (.int 4)))]) (bf.map .int) [s0,some (.ab (cm p)),some (.ab (.int n))]=some (es.map ee)
| [],s0,_=>⟨[],by simp,rfl,rfl⟩
|k::bf,s0,aI=>by
  obtain⟨m,_,c1⟩:=zd n (30+k) (by have:=aI k e9;omega);obtain⟨q,_,en⟩:=divQ m 4;obtain⟨e,he,fp⟩:=ahw h q;obtain⟨es,bH,bO,oo⟩:=Ry h n bf (some (.ab (.int k))) λy bN=>aI y (dT _ bN);refine⟨e::es,λx hx=>?_,by simp[bO],?_⟩
  ·rcases cO.mp hx with rfl|hx
   ·exact he
   ·exact bH x hx
  ·have aG:bl se [(aA 1),(af oDiv (bl jF [(aA 2),(af cC (aa (.int 30)) (nm 0))]) (aa (.int 4)))] [some (.ab (.int k)),some (.ab (cm p)),some (.ab (.int n))]=some (ee e):=by
    simp! [fK,kC,c1,en,fp]
   rw[dv];simp only[gf,bJ,i3,dt,fi,if_true,aG];rw[oo];rfl
def Sl{p:aT}(h:ey p)(n m:Int)(a8:0<=n)(hm:0<=m/\m<900):∃es:List gT,(∀e∈es,o1 p e/\Tk e)/\(es.length:Int)<=m/\sj [cm p,.int n,.int m]=some (.tuple (es.map ee)):=by
 obtain⟨r,_,ko,bg,c1⟩:=modQ n (m+1) (by omega);have Yz:jy 0 r=((List.range r.toNat).map λ(k:Nat)=>(k:Int)).map .int:=by
  simp[jy,kT]
 obtain⟨es,bH,bO,oo⟩:=Ry h n ((List.range r.toNat).map λ(k:Nat)=>(k:Int)) none (by
  intro k aI;obtain⟨j,bD,rfl⟩:=dK.mp aI;have:=List.mem_range.mp bD;omega)
 have ay:(es.length:Int)=r:=by
  simp at bO;omega
 obtain⟨q,_,en⟩:=divQ n 64;obtain⟨cE,_,_,_,fp⟩:=modQ q 5;have acg:q6 r=true:=by
  unfold q6;simp;omega
 have s1:asg 3 (bl fP [(comp 1 [0,1] (ml (af oMod (nm 1) (af cC (nm 2) (aa (.int 1))))) (bJ 0) (fi true) (bl se [(aA 1),(af oDiv (bl jF [(aA 2),(af cC (aa (.int 30)) (nm 0))]) (aa (.int 4)))]))]) [some (.ab (cm p)),some (.ab (.int n)),some (.ab (.int m)),none]=some (.bY [some (.ab (cm p)),some (.ab (.int n)),some (.ab (.int m)),some (.ab (.tuple (es.map ee)))]):=by
  have bX:((((List.range r.toNat).map λ(k:Nat)=>(k:Int)).map PyData.int).length<=big)=True:=by
   simp;unfold big;omega
  have it:(ml (af oMod (nm 1) (af cC (nm 2) (aa (.int 1))))) [some (.ab (cm p)),some (.ab (.int n)),some (.ab (.int m)),none]=some (((List.range r.toNat).map λ(k:Nat)=>(k:Int)).map .int):=by
   rw[<- Yz];simp[ml,af,nm,aa,kC,c1,acg]
  simp only[asg,bl,args,comp,it,dt,bX,if_true];show Option.map _ ((Option.bind (Option.map _ (gf _ _ _ _ [none,some (.ab (cm p)),some (.ab (.int n))])) _).bind _)=_;rw[oo];simp[fP]
 have eC:sj [cm p,.int n,.int m]=(Ds [some (.ab (cm p)),some (.ab (.int n)),some (.ab (.int m)),none]).bind λo=>match o with|.e1 t=>some t|.bY _=>some .none|_=>none:=rfl
 by_cases aG:cE=0/\2<(es.length:Int)
 ·refine⟨es.take (es.length - 3)++wc,?_,?_,?_⟩
  ·intro e he;rcases j2.mp he with q|q
   ·exact bH e (List.mem_of_mem_take q)
   ·simp[wc] at q;subst q;exact⟨⟨by simp[uD],.inl ⟨.inr rfl,rfl⟩⟩,trivial⟩
  ·simp[wc];omega
  ·rw[eC];unfold Ds;rw[g8 s1];have bX:(es.length - 3+3<=big)=True:=by
    simp only[eq_iff_iff,iff_true];unfold big;omega
   have b9:(max (-3+(es.length:Int)) 0).toNat=es.length - 3:=by omega
   have akR:min (es.length - 3) es.length=es.length - 3:=by omega
   have lT:ow (.tuple [ee (.code "5555" "unset" none)]) (.int 3)=some (.tuple (wc.map ee)):=by
    simp[ow,wc,dZ,oP]
   simp only[ee,dm] at lT;simp! [fK,en,fp,ji,aG.1,aG.2,hD,gZ,slice,optN,opt,qF,Bp,w5,dc,b9,akR,lT,uw,one_le,cC,wc];rw[if_pos (bX▸trivial)];simp! [fK]
 ·refine⟨es,bH,by omega,?_⟩
  rw[eC];unfold Ds;rw[g8 s1];by_cases ah:cE=0
  ·have ao:¬2<(es.length:Int):=λz=>aG ⟨ah,z⟩;simp! [fK,en,fp,ji,ah,hD,gZ];rw[if_neg ao];simp! [fK]
  ·simp! [fK,en,fp,ji,ah]
end bq
end
section
namespace kd
open D bq DK
open PySem hiding run fresh code
def afh(p:aT)(z w:Str)(c:aJ):(line p z w c).b4=c.b4:=by
 have ax:∀c:aJ,(dJ p z c).b4=c.b4:=λc=>(Cz p z c).2.2.2.2.1;unfold line i9 iL;split
 ·rfl
 ·split
  ·split <;> rfl
  ·split
   ·rfl
   ·split
    ·rw[ax]
    ·split
     ·split <;> rfl
     ·split
      ·rw[ax]
      ·split
       ·split
        ·rw[ax]
        ·rfl
       ·rfl
def aij{p:aT}(hd:ey p){z:Str}(ar:z∈p.bP.map (·.1)):kindOf p z∈kd.kinds:=by
 have e:=vT p.bP z ar;have:=hd.QY _ (ky e);simp only[bq.kinds,kd.kinds,cO,gQ,or_false] at this ⊢;show _\/_;unfold kindOf;rcases this with q|q|q|q|q <;> simp[q]
def afk(p:aT)(c:aJ)(l:List Str)(e:gT)(h:a9 p c)(hd:ey p)(a':cS c)(he:o1 p e)(ae:Tk e)(aw:eN l=c.b4)(aX:c.told.length+60000<big):
  ∃gm,sd [.ab (cm p),.obj .cM 1 (b6 c l),.ab (ee e)]=some (.none,b6 (hi p c e) gm)/\eN gm=(hi p c e).b4:=by
 have aC:=hd.wp;have ay:=CJ aw;cases e with
|cW n=>
  refine⟨l,aeB p c l n h aC hd a' ay he.1 (by have:n<=200:=ae;omega) aX,?_⟩
  rw[aw];exact (PF p n c).symm
|line z w=>
  have ok:=o1.ok he;refine⟨l,?_,by rw[aw];exact (afh p z w c).symm⟩;have c1:=agx p c l z w h aC ok.1 (S5 ok) (aij hd ok.1) ay (by omega);have c8:(a0 (af oEq (af aK (nm 2) (aa (.int 0))) (aa (.str "line")))) (b_ p c l [some (.ab (.tuple [.str "line",.str z,.str w])),none])=some true:=eV (by
   show oEq (.str "line") (.str "line")=_
   rw[cR (a5 "line") (a5 "line")];simp)
  have s1:(ct (dp 1 zf [(aA 0)] 1 [(af aK (nm 2) (aa (.int 1))),(af aK (nm 2) (aa (.int 2)))])) (b_ p c l [some (.ab (.tuple [.str "line",.str z,.str w])),none])=some (.bY (b_ p (line p z w c) l [some (.ab (.tuple [.str "line",.str z,.str w])),none])):=by
   simp! [yc,c1]
  have g0:pV (b_ p c l [some (.ab (.tuple [.str "line",.str z,.str w])),none])=some (.bY (b_ p (line p z w c) l [some (.ab (.tuple [.str "line",.str z,.str w])),none])):=by
   unfold pV;rw[iff_eq c8,if_pos rfl,s1]
  show (pV (b_ p c l [some (.ab (.tuple [.str "line",.str z,.str w])),none])).bind _=_
  rw[g0];rfl
|code f d z=>
  have ok:=o1.ok he;have aH:∀x,z=some x->cz x:=λx hx=>by
   rcases he.2 with ⟨_,q⟩|⟨_,y,q,bN⟩
   ·rw[q] at hx;cases hx
   ·rw[q] at hx;cases hx;exact h.ja bN
  obtain⟨gm,c1,jY⟩:=agy p c l f d z h aC a' ok.1 ok.2.1 ok.2.2 aH aw (by omega);refine⟨gm,?_,jY⟩;have c8:(a0 (af oEq (af aK (nm 2) (aa (.int 0))) (aa (.str "line")))) (b_ p c l [some (.ab (.tuple [.str "code",.str f,.str d,dm z])),none])=some false:=eV (by
   show oEq (.str "code") (.str "line")=_
   rw[cR (a5 "code") (a5 "line")];simp[yX])
  have cv:(a0 (af oEq (af aK (nm 2) (aa (.int 0))) (aa (.str "code")))) (b_ p c l [some (.ab (.tuple [.str "code",.str f,.str d,dm z])),none])=some true:=eV (by
   show oEq (.str "code") (.str "code")=_
   rw[cR (a5 "code") (a5 "code")];simp)
  have s1:(ct (dp 1 zg [(aA 0)] 1 [(af aK (nm 2) (aa (.int 1))),(af aK (nm 2) (aa (.int 2))),(af aK (nm 2) (aa (.int 3)))])) (b_ p c l [some (.ab (.tuple [.str "code",.str f,.str d,dm z])),none])=some (.bY (b_ p (code p f d z c) gm [some (.ab (.tuple [.str "code",.str f,.str d,dm z])),none])):=by
   simp! [yc,c1]
  have g0:pV (b_ p c l [some (.ab (.tuple [.str "code",.str f,.str d,dm z])),none])=some (.bY (b_ p (code p f d z c) gm [some (.ab (.tuple [.str "code",.str f,.str d,dm z])),none])):=by
   unfold pV;rw[iff_eq c8,if_neg kX,iff_eq cv,if_pos rfl,s1]
  show (pV (b_ p c l [some (.ab (.tuple [.str "code",.str f,.str d,dm z])),none])).bind _=_
  rw[g0];rfl
def rep1{f:bI}{ag:Ev}{ts:List T}{d B:Nat}(hf:f ag=some (.tuple ts))(h:cu.ql B (.tuple ts))(ND:B<=1000000)(g:okN d (.tuple ts))(hd:d<=60):bl rh [f] ag=some (.str (PyData.tuple ts).shown):=by
 rw[cu.Oy hf];simp only[rh];have:=h.le;have akv:=g.2;rw[if_pos (by
  simp only[iu,Bool.not_eq_true',decide_eq_true_eq];exact⟨⟨⟨h.dY,h.aW⟩,by omega⟩,by omega⟩)]
def S7{p:aT}{c:aJ}{l:List Str}(h:a9 p c)(aw:eN l=c.b4):l.length<64:=by
 have:=h.BB;rw[<- aw,(@oN t0 l).length_eq] at this;omega
end kd
end
section
namespace jn
open D bq
noncomputable def uE:bz:=
  (seq (asg 1 (bl vS [(bl lH [(aA 0),(aa (.int 0))])])) (seq (asg 2 (bl sj [(aA 1),(bl lH [(aA 0),(aa (.int 1))]),(aa (.int 12))])) (seq (asg 3 (bl lH [(aA 0),(aa (.int 2))])) (seq (asg 4 (af cC (aa (.int 1)) (af oMod (nm 3) (af aK (bQ [(aa (.int 9)),(aa (.int 400)),(af _m (aa (.int 10)) (aa (.int 9)))]) (af oMod (af oDiv (nm 3) (aa (.int 4096))) (aa (.int 3))))))) (seq (asg 5 (af cC (bQ [(bQ [(aa (.str "ticks")),(aA 4)])]) (nm 2))) (seq (asg 6 (bl mi [(aA 1),(bl lI [(aA 1)]),(aA 2)])) (seq (iff (a0 (af eE (bl mi [(aA 1),(bl lI [(aA 1)]),(aA 5)]) (bl fP [(comp 3 [4] (df (aA 6)) (dq [(bJ 0),(bJ 1),(bJ 2)]) (fi true) (bQ [(af cC (nm 0) (nm 3)),(aA 1),(aA 2)]))]))) (cI (aa (.bool false))) skip) (seq (iff (a0 (af eE (bl mj [(aA 1),(bl lI [(aA 1)]),(aA 5)]) (bl mj [(aA 1),(bl lI [(aA 1)]),(aA 2)]))) (cI (aa (.bool false))) skip) (seq (asg 7 (bl t8 [(aA 1),(bl lI [(aA 1)]),(aA 2)])) (seq (asg 8 (bl t8 [(aA 1),(bl lI [(aA 1)]),(aA 5)])) (seq (iff (eZ (a0 (af eE (fo hU (nm 7)) (fo hU (nm 8)))) (ei (a0 (fo jm (nm 7))) (a0 (af eE (nm 8) (af cC (bQ [(af cC (af aK (nm 7) (aa (.int 0))) (nm 4))]) (slice (nm 7) (opt (aa (.int 1))) optN)))))) (cI (aa (.bool false))) skip) (seq (asg 9 (af oMod (af oDiv (nm 3) (aa (.int 16))) (af cC (bl hD [(nm 2)]) (aa (.int 1))))) (seq (asg 10 (bl mi [(aA 1),(bl lI [(aA 1)]),(slice (nm 2) optN (opt (nm 9)))])) (seq (iff (a0 (af eE (slice (nm 6) optN (opt (bl hD [(nm 10)]))) (nm 10))) (cI (aa (.bool false))) skip) (seq (asg 11 (bl mj [(aA 1),(bl lI [(aA 1)]),(slice (nm 2) optN (opt (nm 9)))])) (cI (af oEq (bl mj [(aA 1),(aA 11),(slice (nm 2) (opt (nm 9)) optN)]) (bl mj [(aA 1),(bl lI [(aA 1)]),(aA 2)]))))))))))))))))))
noncomputable def sA:List T->Option T:=d4 uE 12
end jn
end
section
namespace jn
open D bq
open PySem hiding run fresh code
noncomputable def loud(w:Int×Str×Option Str):Bool:=decide (w.2.1∈(["alarm","attack"]:List Str))
noncomputable def sZ:Option (Int×Str×Option Str)->T
|none=>.none
|some w=>fq w
theorem QA(s0 s1 s2:Option aO):∀(ws:List (Int×Str×Option Str)) (s3:Option aO),(∀w∈ws,cz w.2.1)->∃qH,forL (bJ 3) (iff (a0 (af (da false) (af aK (nm 3) (aa (.int 1))) (aa (.tuple (i5 ["alarm","attack"]))))) (cI (nm 3)) skip) (ws.map fq) [s0,s1,s2,s3] =
   match ws.find? loud with
   |some w=>some (.e1 (fq w))
   |none=>some (.bY [s0,s1,s2,qH])
| [],s3,_=>⟨s3,by simp[forL]⟩
|w::ws,s3,aH=>by
  have bH:da false (.str w.2.1) (.tuple (i5 ["alarm","attack"]))=some (.bool (loud w)):=by
   rw[show i5 ["alarm","attack"]=(["alarm","attack"]:List Str).map .str from rfl,oQ false (aH w (by simp)) (λk aI=>p0 (l:=["alarm","attack"]) (hx:=aI))];rfl
  cases ay:loud w with
  |true=>
   refine⟨none,?_⟩
   rw[ay] at bH;simp! [hF,forL,fq,bH,j4,ay]
  |false=>
   obtain⟨qH,b7⟩:=QA s0 s1 s2 ws (some (.ab (fq w))) (λy bN=>aH y (dT _ bN));refine⟨qH,?_⟩;rw[ay] at bH;rw[j4,ay,dv,forL];simp! [hF,fq,bH] at b7 ⊢;rw[b7]
def XO(p:aT)(c:aJ)(es:List gT)(h:a9 p c)(aC:Wp p)(he:∀e∈es,lq p e)(ay:es.length<=1000):t8 [cm p,eK c,.tuple (es.map ee)]=some (sZ ((run p (fresh c) es).told.find? loud)):=by
 have xs:=KW p c es h aC he ay;have yk:=dd.run (dd.fresh c) h.fresh he;obtain⟨s3,ot⟩:=QA (some (.ab (cm p))) (some (.ab (eK c))) (some (.ab (.tuple (es.map ee)))) (run p (fresh c) es).told none (λw hw=>(yk w hw).1);have b:Ke [some (.ab (cm p)),some (.ab (eK c)),some (.ab (.tuple (es.map ee))),none]=some (.e1 (sZ ((run p (fresh c) es).told.find? loud))):=by
  have it:df (bl mi [(aA 0),(aA 1),(aA 2)]) [some (.ab (cm p)),some (.ab (eK c)),some (.ab (.tuple (es.map ee))),none]=some ((run p (fresh c) es).told.map fq):=by
   simp[df,bl,args,aA,xs]
  unfold Ke seq gj;rw[it];simp only[dt];rw[ot];cases (run p (fresh c) es).told.find? loud with
  |none=>simp[cI,aa,sZ]
  |some w=>simp[sZ]
 unfold t8 d4;simp only[dv,j3,g5,qX,vr,tV];exact congrArg (λo=>Option.bind o _) b
end jn
end
section
namespace qh
open D bq DK kd
open PySem hiding run fresh code
abbrev ev(s:T)(p:aT)(c:aJ)(l:List Str)(r:Ev):Ev:=some (.ab s)::some (.ab (cm p))::some (.obj .own 1 (b6 c l))::r
abbrev nk(ns:List Int)(p:aT)(c cv:aJ)(bR:List Str)(es jV:List gT)(rX:Option aO):Ev:=ev (eF ns) p cv bR [some (.ab (.tuple (es.map ee))),rX,some (.ab (eK c)),some (.ab (.tuple (jV.map ee))),some (.ab (.tuple (cv.told.map fq))),some (.ab (.list ((cv.told.filter jn.loud).map fq))),some (.ab (eK cv)),some (.ab (.tuple ((oR p cv).map .str)))]
noncomputable def w0:bz:=(ct (dp 1 sd [(aA 1)] 2 [(aA 4)]))
theorem vQ(s:T)(p:aT)(hd:ey p)(s3 s5 c9 cy cN dn dG:Option aO):∀(es:List gT) (c:aJ) (l:List Str) (s4:Option aO),a9 p c->cS c->eN l=c.b4->(∀e∈es,o1 p e/\Tk e)->c.told.length+50*es.length+60000<big ->
  ∃gm i0,forL (bJ 4) w0 (es.map ee) (ev s p c l [s3,s4,s5,c9,cy,cN,dn,dG])=some (.bY (ev s p (run p c es) gm [s3,i0,s5,c9,cy,cN,dn,dG]))/\eN gm=(run p c es).b4
| [],c,l,s4,_,_,aw,_,_=>⟨l,s4,rfl,aw⟩
|e::es,c,l,s4,h,a',aw,he,ae=>by
  have ah:=he e e9;have ok:=o1.ok ah.1;simp only[g5] at ae;obtain⟨bT,c1,hj⟩:=afk p c l e h hd a' ah.1 ah.2 aw (by omega);have j1:=Kh h e;obtain⟨gm,i0,b7,jY⟩:=vQ s p hd s3 s5 c9 cy cN dn dG es (hi p c e) bT (some (.ab (ee e))) (h.hi ok) (a'.hi hd e) hj (λx hx=>he x (dT _ hx)) (by omega);refine⟨gm,i0,?_,jY⟩;rw[dv,forL];have s1:w0 (ev s p c l [s3,some (.ab (ee e)),s5,c9,cy,cN,dn,dG])=some (.bY (ev s p (hi p c e) bT [s3,some (.ab (ee e)),s5,c9,cy,cN,dn,dG])):=by
   simp! [ir,w0,c1]
  show Option.bind (w0 (ev s p c l [s3,some (.ab (ee e)),s5,c9,cy,cN,dn,dG])) _=_
  rw[s1,dt];exact b7
def afo{α:Type}(f:α->Bool):∀l:List α,(l.filter f).head?=l.find? f
| []=>rfl
|x::l=>by
  cases h:f x with
  |true=>simp[List.filter_cons,j4,h]
  |false=>simp[List.filter_cons,j4,h]
def agS{p:aT}{c:aJ}(aC:ey p)(hw:a9 p c)(ft:cS c)(b:Bool):cu.ql 62000 (.tuple [.str c.mode,.bool b,.tuple ((oR p c).map .str)]):=by
 have bS:=ajY aC;have fQ:=aC.fQ;refine (cu.OU (B:=6100) (n:=3) (λt aX=>?_) (by simp)).mono (by omega);simp only[cO,gQ,or_false] at aX;rcases aX with rfl|rfl|rfl
 ·refine (OT ?_).mono (by omega)
  rcases ft.gA with e|e|e|e <;> rw[e] <;> exact aid _
 ·exact adf.mono (by omega)
 ·refine (cu.OU (B:=150) (n:=40) (λt aX=>?_) ?_).mono (by omega)
  ·obtain⟨x,hx,rfl⟩:=dK.mp aX;obtain⟨y,bN,rfl⟩:=dK.mp hx;exact OT (bS.z (dK.mpr ⟨_,(List.of_mem_zip (List.mem_filter.mp bN).1).1,rfl⟩))
  ·have ah:=oI (λx:(Str×Str)×(Str×Str)=>!decide (x.2.2=("shut":Str))) (p.bP.zip c.lines);rw[List.length_zip] at ah;unfold oR;rw[g6,g6];omega
def ahJ(s:T)(p:aT)(c:aJ)(l:List Str)(h:a9 p c)(r:Ev):(comp 2 [] (m9 (df (af aK (nm 1) (aa (.int 0)))) (df (fld 1 2 3))) (dq [(bJ 0),(bJ 1)]) (a0 (af eE (nm 1) (aa (.str "shut")))) (af aK (nm 0) (aa (.int 0)))) (ev s p c l r)=some (.list ((oR p c).map .str)):=by
 have rJ:(p.bP.zip c.lines).length<=big:=by
  have:=h.fQ;rw[List.length_zip];unfold big;omega
 have L1:List.zipWith (λx y=>PyData.tuple [x,y]) (p.bP.map c_) (c.lines.map λl=>.str l.2)=(p.bP.zip c.lines).map λx=>.tuple [c_ x.1,.str x.2.2]:=by
  rw[List.zipWith_map,List.zip,List.map_zipWith]
 have aG:=Dq (enc:=λx:(Str×Str)×(Str×Str)=>.tuple [c_ x.1,.str x.2.2]) (x:=λx=>c_ x.1) (y:=λx=>.str x.2.2) (g:=λx=>.str x.1.1) (q:=λx=>!decide (x.2.2=("shut":Str))) (cc:=a0 (af eE (nm 1) (aa (.str "shut")))) (fb:=af aK (nm 0) (aa (.int 0))) (caps:=[]) (λ_=>rfl) (p.bP.zip c.lines) none none (λx hx=>by
  have om:=(List.of_mem_zip hx).2;have q:=kB (h.lo _ om) (a5 "shut");refine⟨by simp! [fK,q],λ_=>?_⟩;simp! [hF,c_])
 have it:(m9 (df (af aK (nm 1) (aa (.int 0)))) (df (fld 1 2 3))) (ev s p c l r)=some ((p.bP.zip c.lines).map λx=>.tuple [c_ x.1,.str x.2.2]):=by
  rw[<- L1];rfl
 unfold comp;rw[it];simp only[dt,g6];rw[if_pos rJ];show (gf _ _ _ _ [none,none]).map _=_;rw[aG];simp[oR,kT]
def agr(ag:Ev)(ws:List (Int×Str×Option Str))(aH:∀w∈ws,cz w.2.1)(ay:ws.length<=big)(xh:aA 7 ag=some (.tuple (ws.map fq))):(comp 1 [] (df (aA 7)) (bJ 0) (a0 (af (da false) (af aK (nm 0) (aa (.int 1))) (bQ [(aa (.str "alarm")),(aa (.str "attack"))]))) (aA 0)) ag=some (.list ((ws.filter jn.loud).map fq)):=by
 have it:df (aA 7) ag=some (ws.map fq):=by simp[df,xh]
 have aG:=sr (cc:=a0 (af (da false) (af aK (nm 0) (aa (.int 1))) (bQ [(aa (.str "alarm")),(aa (.str "attack"))]))) (fb:=aA 0) (caps:=[]) fq jn.loud fq ws none λw hw=>⟨by
  have bH:da false (.str w.2.1) (.tuple [.str "alarm",.str "attack"])=some (.bool (jn.loud w)):=by
   rw[show ([.str "alarm",.str "attack"]:List T)=(["alarm","attack"]:List Str).map .str from rfl,oQ false (aH w hw) (λk aI=>p0 (l:=["alarm","attack"]) (hx:=aI))];rfl
  exact eV bH,λ_=>rfl⟩
 unfold comp;rw[it,dt,g6,if_pos ay];show (gf _ _ _ _ [none]).map _=_;rw[aG];rfl
def aho(ns:List Int)(h:ns.length<=63):sA [eF ns]=some (.bool true):=by
 obtain⟨m0,akB,x0⟩:=C8 ns 0;obtain⟨i',YD,aL⟩:=C8 ns 1;obtain⟨kQ,mH,bx⟩:=C8 ns 2;obtain⟨p,aC,tP⟩:=ah3 m0;have wp:=aC.wp;have Jw:=aC.begun;have ar:p.bP.length<=40:=by have:=aC.fQ;omega
 have dk:=ahB p ar wp;have f6:=afM p ar wp;obtain⟨es,NO,ay,O'⟩:=Sl aC i' 5 YD (by omega);obtain⟨jV,NP,xw,ad5⟩:=Sl aC kQ 20 mH (by omega);have Ou:∀e∈es,lq p e:=λe he=>(NO e he).1.ok;have ak6:∀e∈jV,lq p e:=λe he=>(NP e he).1.ok;have VS:(iA p).told.length+50*es.length+60000<big:=by
  show 0+50*es.length+60000<16777216
  omega
 have yp:=Ld p (iA p) es Jw wp Ou (by omega);have XN:fresh (iA p)=iA p:=rfl;rw[XN] at yp;have ho:=Jw.run Ou;have v1:cS (run p (iA p) es):=(cS.begun p).run aC;have rl:=λs3 s4 s5 c9 cy cN dn dG=>vQ (eF ns) p aC s3 s5 c9 cy cN dn dG es (iA p) [] s4 Jw (cS.begun p) rfl NO VS;generalize run p (iA p) es=c at *;have ad3:=Ld p c jV ho wp ak6 (by omega);have ad7:=KW p c jV ho wp ak6 (by omega);have ad4:=jn.XO p c jV ho wp ak6 (by omega);have ad2:=Ld p c [] ho wp (λe he=>by cases he) (by simp);have ad6:=KW p c [] ho wp (λe he=>by cases he) (by simp);have mT:=ho.fresh.run ak6;have v2:cS (run p (fresh c) jV):=v1.fresh.run aC;have yk:=dd.run (dd.fresh c) ho.fresh ak6;have j1:=K1 ho.fresh ak6;have f0:(fresh c).told.length=0:=rfl;have acb:=λs3 s4 s5 c9 cy cN dn dG bT aw=>vQ (eF ns) p aC s3 s5 c9 cy cN dn dG jV (fresh c) bT s4 ho.fresh v1.fresh aw NP (by rw[f0];show 0+50*jV.length+60000<16777216;omega);generalize run p (fresh c) jV=cv at *;have ad8:=agX p cv mT;have alc:=Ra ho;have abd:=Ra mT;suffices aw:uE [some (.ab (eF ns)),none,none,none,none,none,none,none,none,none,none]=some (.e1 (.bool true)) by
  unfold sA d4;simp only[dv,j3,g5,qX,vr,tV];exact congrArg (λo=>Option.bind o _) aw
 unfold uE;refine jG (t:=cm p) (by
  simp! [fK] at x0 ⊢;simp[x0,tP]) ?_
 simp only[je,i3];refine iw (ε':=ev (eF ns) p (iA p) [] [none,none,none,none,none,none,none,none]) (by simp[o8,oX,args,aA,nm,f6]) ?_;refine jG (t:=.tuple (es.map ee)) (by
  simp! [fK] at aL ⊢;simp[aL,O']) ?_
 simp only[je,i3];obtain⟨bT,i0,Z0,hj⟩:=rl (some (.ab (.tuple (es.map ee)))) none none none none none none none;refine iw (ε':=ev (eF ns) p c bT [some (.ab (.tuple (es.map ee))),i0,none,none,none,none,none,none]) (by
  unfold gj;exact Z0) ?_
 refine jG (t:=eK c) (by simp! [fK,dk,yp]) ?_
 simp only[je,i3];have Z2:=P' c bT hj (S7 ho hj);refine kA (cu.BK (a:=false) ?_) ?_
 ·rw[cu.px (t:=eK c) (u:=eK c) rfl (show pZ [.obj .fM 1 (b6 c bT)]=some (eK c) from Z2)];exact Bo alc
 refine iw (ε':=ev (eF ns) p {c with told:=[]} bT [some (.ab (.tuple (es.map ee))),i0,some (.ab (eK c)),none,none,none,none,none]) rfl ?_
 refine iw (ε':=ev (eF ns) p (fresh c) bT [some (.ab (.tuple (es.map ee))),i0,some (.ab (eK c)),none,none,none,none,none]) rfl ?_
 refine jG (t:=.tuple (jV.map ee)) (by
  simp! [fK] at bx ⊢;simp[bx,ad5]) ?_
 simp only[je,i3];obtain⟨bR,rX,Z1,fm⟩:=acb (some (.ab (.tuple (es.map ee)))) i0 (some (.ab (eK c))) (some (.ab (.tuple (jV.map ee)))) none none none none bT hj;refine iw (ε':=ev (eF ns) p cv bR [some (.ab (.tuple (es.map ee))),rX,some (.ab (eK c)),some (.ab (.tuple (jV.map ee))),none,none,none,none]) (by
  unfold gj;exact Z1) ?_
 refine jG (t:=.tuple (cv.told.map fq)) rfl ?_
 simp only[je,i3];refine kA (cu.BK (a:=false) ?_) ?_
 ·rw[cu.px (t:=.tuple (cv.told.map fq)) (u:=.tuple (cv.told.map fq)) (by simp[bl,args,aA,nm,ad7]) rfl];exact Bo (ahd yk)
 refine jG (t:=.list ((cv.told.filter jn.loud).map fq)) (agr _ cv.told (λw hw=>(yk w hw).1) (by show _<=16777216;omega) rfl) ?_
 simp only[je,i3];refine kA (cu.BK (a:=false) ?_) ?_
 ·have hT:(af aK (af cC (nm 8) (ew [(aa .none)])) (aa (.int 0))) (ev (eF ns) p cv bR [some (.ab (.tuple (es.map ee))),rX,some (.ab (eK c)),some (.ab (.tuple (jV.map ee))),some (.ab (.tuple (cv.told.map fq))),some (.ab (.list ((cv.told.filter jn.loud).map fq))),none,none])=some (jn.sZ (cv.told.find? jn.loud)):=by
   rw[<- afo];have n8:=oI jn.loud cv.told;have bX:(List.map fq (List.filter jn.loud cv.told)).length+1<=big:=by
    rw[g6];show _<=16777216;omega
   generalize List.filter jn.loud cv.told=az at bX;have a1:cC (.list (az.map fq)) (.list [.none])=some (.list (az.map fq++[.none])):=by
    simp only[cC,g5,qX];rw[if_pos bX]
   have i':(af cC (nm 8) (ew [(aa .none)])) (ev (eF ns) p cv bR [some (.ab (.tuple (es.map ee))),rX,some (.ab (eK c)),some (.ab (.tuple (jV.map ee))),some (.ab (.tuple (cv.told.map fq))),some (.ab (.list (az.map fq))),none,none])=some (.list (az.map fq++[.none])):=a1;rw[cu.px i' rfl];cases az with
   |nil=>rfl
   |cons w az=>
    have q:(0:Int)<(az.length:Int)+1+1:=by omega
    simp[aK,gh,f_,jn.sZ,q]
  rw[cu.px (t:=jn.sZ (cv.told.find? jn.loud)) (by simp[bl,args,aA,nm,ad4]) hT];refine Bo (d:=2) ?_;cases uW:cv.told.find? jn.loud with
  |none=>exact K5 _
  |some w=>
   have:=yk w (List.mem_of_find?_eq_some uW);exact agl 1 this.1 this.2
 refine jG (t:=eK cv) (by simp[bl,args,aA,nm,ad3]) ?_
 simp only[je,i3];refine jG (t:=.tuple ((oR p cv).map .str)) ?_ ?_
 ·rw[cu.Oy (ahJ _ p cv bR mT _)];rfl
 simp only[je,i3];have sw:=agS aC mT v2 (decide (cv.c2 > 0));have mO:=agm 0 mT (decide (cv.c2 > 0));refine kA ?_ ?_
 ·exact cu.ne_self (d:=0) (rep1 (by simp[bl,args,aA,nm,ad8]) sw (by decide) mO (by decide)) (rep1 rfl sw (by decide) mO (by decide)) (cu.XS sw.as (ma sw.le (by decide)))
 have Z3:=P' cv bR fm (S7 mT fm);have jh:(af oEq (nm 9) (wH pZ [.o 2])) (nk ns p c cv bR es jV rX)=some (.bool true):=by
  rw[cu.px (t:=eK cv) (u:=eK cv) rfl (show pZ [.obj .fM 1 (b6 cv bR)]=some (eK cv) from Z3)];exact Rc abd
 have hp:(af oEq (bl mj [(aA 1),(aA 5),(bQ [])]) (nm 5)) (nk ns p c cv bR es jV rX)=some (.bool true):=by
  rw[cu.px (t:=eK c) (u:=eK c) (show mj [cm p,eK c,.tuple []]=some (eK c) from ad2) rfl];exact Rc alc
 have q2:(af oEq (bl mi [(aA 1),(aA 5),(bQ [])]) (bQ [])) (nk ns p c cv bR es jV rX)=some (.bool true):=by
  rw[cu.px (t:=.tuple []) (u:=.tuple []) (show mi [cm p,eK c,.tuple []]=some (.tuple []) from ad6) rfl];rfl
 have z:=cu.wY jh λ_=>cu.wY hp λ_=>q2;unfold cI;rw[z];rfl
end qh
end
end
end
section
namespace qh
open PySem PySem.Spec PyProof.Rows bw D bq kd
set_option hygiene false in
local macro_rules | `(unop% lk ($f, $kn, $f', $n, $q, $s, $a, $b, $c, $d, $e, $g, $h)) => `(K.lookup $f = some ⟨$kn, $f', .func (rZ $n $q (v8 $s) (jH $s) (cp $s) .none $a $b $c $d $e $g), $h⟩)
set_option hygiene false in
local macro_rules | `(binop% cd $c $q) => `(PySem.W.codeIn K $c $q = true)
set_option hygiene false in
local macro_rules | `(unop% aB $c) => `(nE K (.ref $c) = true)
set_option hygiene false in
local macro_rules | `(unop% hS $c) => `(PySem.W.isFn K (.ref $c) = true)
set_option hygiene false in
local macro_rules | `(binop% ns $q $c) => `(PySem.W.nsIn K lD $q = some (some (.ref $c)))
set_option hygiene false in
local macro_rules | `(unop% zn $q) => `(PySem.W.nsIn K lD $q = some none)
set_option hygiene false in
local macro_rules | `(unop% fn ($C, $q, $c)) => `(nF K (.ref $C) $q = some (some (.ref $c)))
set_option hygiene false in
local macro_rules | `(binop% mD $C $q) => `(nF K (.ref $C) $q = some none)
local macro_rules | `(unop% mo $x) => `(($x).mono (by decide))
set_option hygiene false in
local macro_rules | `(unop% bV ($f $n $as*)) => `($f (P := l.prog) (w := w) (mg := mg) (base := base) (k := $n) $as*)
def all_mk{l:PySem.W.OpenLaw}{w:cB}{K:bo}{h:b5}{mg:Str->Option aq}{cG bL f1 f2 hc f4 hg Aw Ax f8 F7 Aa Ab Ac Ad Ae FL Af Ag Ah Ai Aj Ak Al Am An Ao Ap FN Aq Ar As Au Av FO FP FQ FR FT FU FV FW FX FY FZ F0 F1 F2 F3 F4 F5 F6 uO uN uP:ak}{aal UZ aaw U_ aaH Vj aaS Vu aa3 VF aa5 VG aa6 VH aa7 VI aa8 VJ aam U0 aan U1 aao U2 aap U3 aaq U4 aar U5 aas U6 aat U7 aau U8 aav U9 aax U' aay Va aaz Vb aaA Vc aaB Vd aaC Ve aaD Vf aaE Vg aaF Vh aaG Vi aaI Vk aaJ Vl aaK Vm aaL Vn aaM Vo aaN Vp aaO Vq aaP Vr aaQ Vs aaR Vt aaT Vv aaU Vw aaV Vx aaW Vy aaX Vz aaY VA aaZ VB aa0 VC aa1 VD aa2 VE aa4 Mp aa_ aa9 aa':Option ak}{acm l8 acI acT ac4 ac6 ac7 ac8 ac9 acn aco acp acq acr acs acu acv acw acx acy acz acA acB acC acD acE acF acG acH acJ acK acL acM acN acO acP acQ acR acS acU acV acW acX acY acZ ac0 ac1 ac2 ac3 ac5 ac' ac_ ada:Array (Option aq)}{_n Y' WL abg My VY _y Zk WX abr MJ V9 _J Zv W9 abD MU Wi _U ZH Xi abO M6 Wu aaf ZS Xt abZ Ng WG aah ZT Xu ab0 Nh WH aai ZU Xv ab1 Ni WI aaj ZV Xw ab2 Nj WJ aak ZW Xx ab3 Nk WK _o Za WM abh Mz VZ _p Zb WN abi MA V0 _q Zc WO abj MB V1 _r Zd WQ abk MC V2 _s Ze WR abl MD V3 _t Zf WS abm ME V4 _u Zg WT abn MF V5 _v Zh WU abo MG V6 _w Zi WV abp MH V7 _x Zj WW abq MI V8 _z Zl WY abt MK V_ _A Zm WZ abu ML V' _B Zn W0 abv MM Wa _C Zo W2 abw MN Wb _D Zp W3 abx MO Wc _E Zq W4 aby MP Wd _F Zr W5 abz MQ We _G Zs W6 abA MR Wf _H Zt W7 abB MS Wg _I Zu W8 abC MT Wh _K Zw W_ abE MV Wj _L Zx W' abF MW Wk _M Zy Xa abG MX Wl _N Zz Xb abH MY Wm _O ZA Xc abI MZ Wn _P ZC Xd abJ M0 Wo _Q ZD Xe abK M1 Wq _R ZE Xf abL M3 Wr _S ZF Xg abM M4 Ws _T ZG Xh abN M5 Wt _V ZI Xj abP M7 Wv _W ZJ Xk abQ M8 Ww _X ZK Xl abR M9 Wx _Y ZL Xm abS M_ Wy _Z ZM Xn abT M' Wz aaa ZN Xo abU Na WA aab ZO Xp abV Nb WB aac ZP Xq abW Nc WC aad ZQ Xr abX Nd WD aae ZR Xs abY Nf WE aag N9 Nq OC Fw Np:aq}{Jr Jq adG adH adD adE adJ adK:Tok}{_a Z' _b:Nat}(X:K.In h)(G:h.Ns lD mg)(Yl:mg "law"=some (.ref cG))(EH:binop%ns "Course" bL)(IY:PySem.W.plainGet K bL Str.empty=true)(Gj:PySem.W.hasDictIn K bL=true)(I0:PySem.W.plainOver K bL=true)(Jg:nF K (.ref bL) "__setattr__"=some (some (.builtin "object.__setattr__")))(Ip:PySem.W.makesIn K bL=true)(Hz:unop%aB bL)(Iw:binop%mD bL "plan")(Iy:binop%mD bL "mode")(IC:binop%mD bL "left")(ID:binop%mD bL "came")(IE:binop%mD bL "lines")(IF:binop%mD bL "shunts")(IG:binop%mD bL "siren")(IH:binop%mD bL "alarms")(II:binop%mD bL "tries")(IJ:binop%mD bL "locked")(Iz:binop%mD bL "used")(IA:binop%mD bL "past")(IB:binop%mD bL "told")(a1:binop%ns "_law_drawn" f1)(bT:unop%lk (f1,_n,aal,"_law_drawn","_law_drawn",CQ,Y',WL,abg,UZ,My,VY,acm))(c8:binop%cd My "_law_drawn")(eY:unop%aB f1)(a2:binop%ns "_law_plan" f2)(bR:unop%lk (f2,_y,aaw,"_law_plan","_law_plan",y9,Zk,WX,abr,U_,MJ,V9,l8))(cv:binop%cd MJ "_law_plan")(dV:unop%aB f2)(iH:binop%ns "_law_begun" hc)(Be:unop%lk (hc,_J,aaH,"_law_begun","_law_begun",CR,Zv,W9,abD,Vj,MU,Wi,acI))(eA:binop%cd MU "_law_begun")(gz:unop%aB hc)(k8:binop%ns "_law_event" f4)(Bf:unop%lk (f4,_U,aaS,"_law_event","_law_event",CP,ZH,Xi,abO,Vu,M6,Wu,acT))(c4:binop%cd M6 "_law_event")(mM:unop%aB f4)(kf:binop%ns "_law_row" hg)(Ie:unop%lk (hg,aaf,aa3,"_law_row","_law_row",zj,ZS,Xt,abZ,VF,Ng,WG,ac4))(jS:binop%cd Ng "_law_row")(Ht:unop%aB hg)(k9:unop%fn (bL,"state",Aw))(G9:unop%hS Aw)(Ih:unop%lk (Aw,aah,aa5,"state","Course.state",Cb,ZT,Xu,ab0,VG,Nh,WH,ac6))(Fq:binop%cd Nh "Course.state")(Bc:unop%aB Aw)(nd:unop%fn (bL,"__init__",Ax))(G_:unop%hS Ax)(Ii:unop%lk (Ax,aai,aa6,"__init__","Course.__init__",vz,ZU,Xv,ab1,VH,Ni,WI,ac7))(Fs:binop%cd Ni "Course.__init__")(Hv:unop%aB Ax)(n3:unop%fn (bL,"tell",f8))(G':unop%hS f8)(Ij:unop%lk (f8,aaj,aa7,"tell","Course.tell",Cd,ZV,Xw,ab2,VI,Nj,WJ,ac8))(Ft:binop%cd Nj "Course.tell")(Bd:unop%aB f8)(kJ:binop%ns "kind_of" F7)(Ik:unop%lk (F7,aak,aa8,"kind_of","kind_of",CT,ZW,Xx,ab3,VJ,Nk,WK,ac9))(Fu:binop%cd Nk "kind_of")(Hw:unop%aB F7)(n2:unop%fn (bL,"be_loud",Aa))(GL:unop%hS Aa)(HA:unop%lk (Aa,_o,aam,"be_loud","Course.be_loud",B7,Za,WM,abh,U0,Mz,VZ,acn))(EK:binop%cd Mz "Course.be_loud")(AS:unop%aB Aa)(D3:unop%fn (bL,"alarm",Ab))(GN:unop%hS Ab)(HB:unop%lk (Ab,_p,aan,"alarm","Course.alarm",Cc,Zb,WN,abi,U1,MA,V0,aco))(EL:binop%cd MA "Course.alarm")(AU:unop%aB Ab)(D4:unop%fn (bL,"come_in",Ac))(i12:unop%hS Ac)(HC:unop%lk (Ac,_q,aao,"come_in","Course.come_in",B6,Zc,WO,abj,U2,MB,V1,acp))(EM:binop%cd MB "Course.come_in")(AV:unop%aB Ac)(D5:unop%fn (bL,"disturb",Ad))(GO:unop%hS Ad)(HD:unop%lk (Ad,_r,aap,"disturb","Course.disturb",B5,Zd,WQ,abk,U3,MC,V2,acq))(EN:binop%cd MC "Course.disturb")(AW:unop%aB Ad)(D6:unop%fn (bL,"line",Ae))(GP:unop%hS Ae)(HE:unop%lk (Ae,_s,aaq,"line","Course.line",Ce,Ze,WR,abl,U4,MD,V3,acr))(EO:binop%cd MD "Course.line")(AX:unop%aB Ae)(D7:binop%ns "code_of" FL)(HF:unop%lk (FL,_t,aar,"code_of","code_of",CU,Zf,WS,abm,U5,ME,V4,acs))(EP:binop%cd ME "code_of")(Ha:unop%aB FL)(D8:unop%fn (bL,"is_used_up",Af))(GQ:unop%hS Af)(HG:unop%lk (Af,_u,aas,"is_used_up","Course.is_used_up",BZ,Zg,WT,abn,U6,MF,V5,acu))(ER:binop%cd MF "Course.is_used_up")(AY:unop%aB Af)(D9:unop%fn (bL,"take_wrong",Ag))(GR:unop%hS Ag)(HH:unop%lk (Ag,_v,aat,"take_wrong","Course.take_wrong",BX,Zh,WU,abo,U7,MG,V6,acv))(ES:binop%cd MG "Course.take_wrong")(AZ:unop%aB Ag)(D_:unop%fn (bL,"is_untimely",Ah))(GS:unop%hS Ah)(HI:unop%lk (Ah,_w,aau,"is_untimely","Course.is_untimely",BV,Zi,WV,abp,U8,MH,V7,acw))(ET:binop%cd MH "Course.is_untimely")(A0:unop%aB Ah)(D':unop%fn (bL,"bare_zones",Ai))(GU:unop%hS Ai)(HJ:unop%lk (Ai,_x,aav,"bare_zones","Course.bare_zones",vv,Zj,WW,abq,U9,MI,V8,acx))(EU:binop%cd MI "Course.bare_zones")(A1:unop%aB Ai)(Ea:unop%fn (bL,"what_is_against",Aj))(GW:unop%hS Aj)(HK:unop%lk (Aj,_z,aax,"what_is_against","Course.what_is_against",BU,Zl,WY,abt,U',MK,V_,acy))(EV:binop%cd MK "Course.what_is_against")(A2:unop%aB Aj)(Eb:unop%fn (bL,"end_leaving",Ak))(GX:unop%hS Ak)(HL:unop%lk (Ak,_A,aay,"end_leaving","Course.end_leaving",BW,Zm,WZ,abu,Va,ML,V',acz))(EW:binop%cd ML "Course.end_leaving")(A3:unop%aB Ak)(Ec:unop%fn (bL,"do_set",Al))(GY:unop%hS Al)(HM:unop%lk (Al,_B,aaz,"do_set","Course.do_set",B_,Zn,W0,abv,Vb,MM,Wa,acA))(EX:binop%cd MM "Course.do_set")(A4:unop%aB Al)(Ed:unop%fn (bL,"do_unset",Am))(GZ:unop%hS Am)(HN:unop%lk (Am,_C,aaA,"do_unset","Course.do_unset",B3,Zo,W2,abw,Vc,MN,Wb,acB))(EY:binop%cd MN "Course.do_unset")(A5:unop%aB Am)(Ee:unop%fn (bL,"do_deed",An))(G0:unop%hS An)(HO:unop%lk (An,_D,aaB,"do_deed","Course.do_deed",B4,Zp,W3,abx,Vd,MO,Wc,acC))(EZ:binop%cd MO "Course.do_deed")(A6:unop%aB An)(Ef:unop%fn (bL,"take_right",Ao))(G1:unop%hS Ao)(HP:unop%lk (Ao,_E,aaC,"take_right","Course.take_right",BY,Zq,W4,aby,Ve,MP,Wd,acD))(E0:binop%cd MP "Course.take_right")(A7:unop%aB Ao)(Eg:unop%fn (bL,"code",Ap))(G2:unop%hS Ap)(HQ:unop%lk (Ap,_F,aaD,"code","Course.code",Cf,Zr,W5,abz,Vf,MQ,We,acE))(E1:binop%cd MQ "Course.code")(A8:unop%aB Ap)(Eh:binop%ns "lessened" FN)(HR:unop%lk (FN,_G,aaE,"lessened","lessened",CB,Zs,W6,abA,Vg,MR,Wf,acF))(E2:binop%cd MR "lessened")(Hb:unop%aB FN)(Ei:unop%fn (bL,"count_down",Aq))(G3:unop%hS Aq)(HS:unop%lk (Aq,_H,aaF,"count_down","Course.count_down",B1,Zt,W7,abB,Vh,MS,Wg,acG))(E3:binop%cd MS "Course.count_down")(A9:unop%aB Aq)(Ej:unop%fn (bL,"end_coming",Ar))(G4:unop%hS Ar)(HT:unop%lk (Ar,_I,aaG,"end_coming","Course.end_coming",B0,Zu,W8,abC,Vi,MT,Wh,acH))(E4:binop%cd MT "Course.end_coming")(A_:unop%aB Ar)(Ek:unop%fn (bL,"end_time",As))(G6:unop%hS As)(HU:unop%lk (As,_K,aaI,"end_time","Course.end_time",B2,Zw,W_,abE,Vk,MV,Wj,acJ))(E5:binop%cd MV "Course.end_time")(A':unop%aB As)(El:unop%fn (bL,"ticks",Au))(G7:unop%hS Au)(HV:unop%lk (Au,_L,aaJ,"ticks","Course.ticks",Ca,Zx,W',abF,Vl,MW,Wk,acK))(E6:binop%cd MW "Course.ticks")(Ba:unop%aB Au)(Em:unop%fn (bL,"happen",Av))(G8:unop%hS Av)(HW:unop%lk (Av,_M,aaK,"happen","Course.happen",B9,Zy,Xa,abG,Vm,MX,Wl,acL))(E7:binop%cd MX "Course.happen")(Bb:unop%aB Av)(En:binop%ns "course_of" FO)(HX:unop%lk (FO,_N,aaL,"course_of","course_of",Ct,Zz,Xb,abH,Vn,MY,Wm,acM))(E8:binop%cd MY "course_of")(Hc:unop%aB FO)(Eo:binop%ns "after" FP)(HY:unop%lk (FP,_O,aaM,"after","after",Dj,ZA,Xc,abI,Vo,MZ,Wn,acN))(E9:binop%cd MZ "after")(Hd:unop%aB FP)(Ep:binop%ns "_law_cell_at" FQ)(HZ:unop%lk (FQ,_P,aaN,"_law_cell_at","_law_cell_at",Cs,ZC,Xd,abJ,Vp,M0,Wo,acO))(E_:binop%cd M0 "_law_cell_at")(He:unop%aB FQ)(Er:binop%ns "_law_mixed" FR)(H0:unop%lk (FR,_Q,aaO,"_law_mixed","_law_mixed",CO,ZD,Xe,abK,Vq,M1,Wq,acP))(E':binop%cd M1 "_law_mixed")(Hf:unop%aB FR)(Es:binop%ns "_law_say" FT)(H2:unop%lk (FT,_R,aaP,"_law_say","_law_say",Di,ZE,Xf,abL,Vr,M3,Wr,acQ))(Fb:binop%cd M3 "_law_say")(Hg:unop%aB FT)(Et:binop%ns "_law_alarm" FU)(H3:unop%lk (FU,_S,aaQ,"_law_alarm","_law_alarm",CS,ZF,Xg,abM,Vs,M4,Ws,acR))(Fc:binop%cd M4 "_law_alarm")(Hh:unop%aB FU)(Eu:binop%ns "_law_line" FV)(H4:unop%lk (FV,_T,aaR,"_law_line","_law_line",y_,ZG,Xh,abN,Vt,M5,Wt,acS))(Fd:binop%cd M5 "_law_line")(Hi:unop%aB FV)(Ew:binop%ns "_law_on" FW)(H5:unop%lk (FW,_V,aaT,"_law_on","_law_on",Dw,ZI,Xj,abP,Vv,M7,Wv,acU))(Fe:binop%cd M7 "_law_on")(Hj:unop%aB FW)(Ex:binop%ns "_law_do" FX)(H6:unop%lk (FX,_W,aaU,"_law_do","_law_do",Dx,ZJ,Xk,abQ,Vw,M8,Ww,acV))(Ff:binop%cd M8 "_law_do")(Hk:unop%aB FX)(Ey:binop%ns "_law_code" FY)(H7:unop%lk (FY,_X,aaV,"_law_code","_law_code",vP,ZK,Xl,abR,Vx,M9,Wx,acW))(Fg:binop%cd M9 "_law_code")(Hl:unop%aB FY)(Ez:binop%ns "_law_tick" FZ)(H8:unop%lk (FZ,_Y,aaW,"_law_tick","_law_tick",C6,ZL,Xm,abS,Vy,M_,Wy,acX))(Fh:binop%cd M_ "_law_tick")(Hm:unop%aB FZ)(EA:binop%ns "_law_happen" F0)(H9:unop%lk (F0,_Z,aaX,"_law_happen","_law_happen",CC,ZM,Xn,abT,Vz,M',Wz,acY))(Fi:binop%cd M' "_law_happen")(Hn:unop%aB F0)(EB:binop%ns "begun" F1)(H_:unop%lk (F1,aaa,aaY,"begun","begun",vU,ZN,Xo,abU,VA,Na,WA,acZ))(Fj:binop%cd Na "begun")(Ho:unop%aB F1)(EC:binop%ns "_law_state" F2)(H':unop%lk (F2,aab,aaZ,"_law_state","_law_state",CN,ZO,Xp,abV,VB,Nb,WB,ac0))(Fl:binop%cd Nb "_law_state")(Hp:unop%aB F2)(ED:binop%ns "story" F3)(Ia:unop%lk (F3,aac,aa0,"story","story",Dh,ZP,Xq,abW,VC,Nc,WC,ac1))(Fm:binop%cd Nc "story")(Hq:unop%aB F3)(EE:binop%ns "first_loud" F4)(Ib:unop%lk (F4,aad,aa1,"first_loud","first_loud",Ck,ZQ,Xr,abX,VD,Nd,WD,ac2))(Fn:binop%cd Nd "first_loud")(Hr:unop%aB F4)(EF:binop%ns "shown" F5)(Ic:unop%lk (F5,aae,aa2,"shown","shown",zi,ZR,Xs,abY,VE,Nf,WE,ac3))(Fo:binop%cd Nf "shown")(Hs:unop%aB F5)(EG:binop%ns "law" F6)(Ig:unop%lk (F6,aag,aa4,"law","law",rd,N9,Nq,OC,Mp,Fw,Np,ac5))(Fp:binop%cd Fw "law")(Hu:unop%aB F6)(mn:unop%zn "enumerate")(fw:unop%zn "tuple")(m8:unop%zn "range")(j_:unop%zn "len")(sk:unop%zn "dict")(sl:unop%zn "list")(kD:unop%zn "zip")(p5:unop%zn "sorted")(oU:unop%zn "max")(sm:unop%zn "repr")(s8:PySem.W.nsIn K lD "WRONG_IN_A_ROW"=some (some (.int 3 Jr)))(s7:PySem.W.nsIn K lD "TICKS_LOCKED"=some (some (.int 90 Jq)))(xd:binop%ns "KINDS_SHUT_TO_SET" uO)(I2:K.lookup uO=some ⟨.type "tuple",aa_,.seq #[.str "day" adG,.str "once" adH] _a,ac'⟩)(xc:binop%ns "KINDS_LEFT_BY" uN)(I1:K.lookup uN=some ⟨.type "tuple",aa9,.seq #[.str "inner" adD,.str "way" adE] Z',ac_⟩)(xe:binop%ns "LOUD_WORDS" uP)(I3:K.lookup uP=some ⟨.type "tuple",aa',.seq #[.str "alarm" adJ,.str "attack" adK] _b,ada⟩):
  ∃fd:gq,(∀(s:aQ) (v:aq),BindsTo s fd ⟨[v],[]⟩ [("_law_script",v)])/\∀base:b5,K.In base->base.Ns lD mg->fI l.prog w K mg base fH 13 cG fd ["_law_script"] (@spT t0 K 1 sA):=by
 have e:=Yl.symm.trans (fZ X G EG);cases e;refine⟨rZ "law" "law" (v8 rd) (jH rd) (cp rd) .none N9 Nq OC Mp Fw Np,λs v=>.of_eq rfl,λbase _ _=>?_⟩;letI tt:c5:=⟨[],λc=>match c with|1=>["mode","left","came","lines","shunts","siren","alarms","tries","locked","used","went","story"]|0=>["plan","mode","left","came","lines","shunts","siren","alarms","tries","locked","used","past","told"]|_=>[],λc=>match c with|0=>some bL|_=>none⟩;have cj:hN 1 ["mode","left","came","lines","shunts","siren","alarms","tries","locked","used","went","story"]:=⟨rfl,rfl,by decide +kernel,by decide⟩;have a_:hy K 0 bL ["plan","mode","left","came","lines","shunts","siren","alarms","tries","locked","used","past","told"]:=⟨rfl,rfl,⟨IY,Gj,I0,Jg⟩,by decide +kernel,λf hf=>by
  simp only[cO,gQ,or_false] at hf;rcases hf with rfl|rfl|rfl|rfl|rfl|rfl|rfl|rfl|rfl|rfl|rfl|rfl|rfl
  ·exact Iw
  ·exact Iy
  ·exact IC
  ·exact ID
  ·exact IE
  ·exact IF
  ·exact IG
  ·exact IH
  ·exact II
  ·exact IJ
  ·exact Iz
  ·exact IA
  ·exact IB,by decide⟩
 replace mn:=pK X G mn;replace fw:=pK X G fw;replace m8:=pK X G m8;replace j_:=pK X G j_;replace sk:=pK X G sk;replace sl:=pK X G sl;replace kD:=pK X G kD;replace p5:=pK X G p5;replace oU:=pK X G oU;replace sm:=pK X G sm;replace s8:=fZ X G s8;replace s7:=fZ X G s7;replace xd:=fZ X G xd;have adO:∃(o:Obj) (its:Array aq) (n:Nat),K.lookup uO=some o/\o.cls=.type "tuple"/\o.data=.seq its n/\its.size<=cF/\Vals ((["day","once"]:List Str).map V.str) its.toList:=⟨_,_,_,I2,rfl,rfl,by show 2<=cF;decide,(.cons ⟨_,rfl⟩ (.cons ⟨_,rfl⟩ .nil))⟩;replace xc:=fZ X G xc;have adN:∃(o:Obj) (its:Array aq) (n:Nat),K.lookup uN=some o/\o.cls=.type "tuple"/\o.data=.seq its n/\its.size<=cF/\Vals ((["inner","way"]:List Str).map V.str) its.toList:=⟨_,_,_,I1,rfl,rfl,by show 2<=cF;decide,(.cons ⟨_,rfl⟩ (.cons ⟨_,rfl⟩ .nil))⟩;replace xe:=fZ X G xe;have adP:∃(o:Obj) (its:Array aq) (n:Nat),K.lookup uP=some o/\o.cls=.type "tuple"/\o.data=.seq its n/\its.size<=cF/\Vals ((["alarm","attack"]:List Str).map V.str) its.toList:=⟨_,_,_,I3,rfl,rfl,by show 2<=cF;decide,(.cons ⟨_,rfl⟩ (.cons ⟨_,rfl⟩ .nil))⟩;have aZ:=d7 (st:=CQ) bT c8 eY;have Ma:=unop%bV (uj 0 aZ (fZ X G a1));have cX:=d7 (st:=y9) bR cv dV;have TQ:=unop%bV (La 1 cX (fZ X G a2) mn (unop%mo Ma) fw m8);have hY:=d7 (st:=CR) Be eA gz;have TH:=unop%bV (KN 0 hY (fZ X G iH) cj j_);have k4:=d7 (st:=CP) Bf c4 mM;have TM:=unop%bV (KL 0 k4 (fZ X G k8) j_);have i6:=d7 (st:=zj) Ie jS Ht;have TR:=unop%bV (Dr 1 i6 (fZ X G kf) fw (unop%mo TM) j_ m8 (unop%mo Ma));have UD:=d7 (st:=Cb) Ih Fq Bc;have Tv:=unop%bV (J7 0 UD (⟨k9,G9,Bc⟩) a_ fw);have kb:=d7 (st:=vz) Ii Fs Hv;have Te:=unop%bV (aep 0 kb ⟨Ip,nd,G_,Hz⟩ (fZ X G EH) a_ sk sl kD);have kc:=d7 (st:=Cd) Ij Ft Bd;have nU:=unop%bV (hL 0 kc (⟨n3,G',Bd⟩) a_);have UE:=d7 (st:=CT) Ik Fu Hw;have L':=unop%bV (y7 0 UE (fZ X G kJ));have TY:=d7 (st:=B7) HA EK AS;have L8:=unop%bV (yF 0 TY (⟨n2,GL,AS⟩) a_);have TZ:=d7 (st:=Cc) HB EL AU;have zM:=unop%bV (pS 1 TZ (⟨D3,GN,AU⟩) a_ (unop%mo L8) (unop%mo nU));have T1:=d7 (st:=B6) HC EM AV;have Tg:=unop%bV (J2 2 T1 (⟨D4,i12,AV⟩) a_ (unop%mo nU) (unop%mo zM));have T2:=d7 (st:=B5) HD EN AW;have Ti:=unop%bV (J1 3 T2 (⟨D5,GO,AW⟩) a_ (unop%mo L') (unop%mo zM) (unop%mo nU) (unop%mo Tg));have T3:=d7 (st:=Ce) HE EO AX;have Tu:=unop%bV (J' 4 T3 (⟨D6,GP,AX⟩) a_ (unop%mo nU) (unop%mo Ti));have T4:=d7 (st:=CU) HF EP Ha;have TF:=unop%bV (KO 0 T4 (fZ X G D7));have T5:=d7 (st:=BZ) HG ER AY;have Tt:=unop%bV (JS 0 T5 (⟨D8,GQ,AY⟩) a_);have T6:=d7 (st:=BX) HH ES AZ;have Tx:=unop%bV (JQ 1 T6 (⟨D9,GR,AZ⟩) a_ (unop%mo nU) (unop%mo L8) s8 s7);have T7:=d7 (st:=BV) HI ET A0;have Ts:=unop%bV (JP 1 T7 (⟨D_,GS,A0⟩) a_ (unop%mo L'));have T8:=d7 (st:=vv) HJ EU A1;have L7:=unop%bV (yz 0 T8 (⟨D',GU,A1⟩) a_);have T9:=d7 (st:=BU) HK EV A2;have TA:=unop%bV (JO 2 T9 (⟨Ea,GW,A2⟩) a_ (unop%mo Ts) (unop%mo L7) xd adO)
 have T_:=d7 (st:=BW) HL EW A3;have L9:=unop%bV (yw 2 T_ (⟨Eb,GX,A3⟩) a_ (unop%mo nU) (unop%mo L7) (unop%mo zM) xc adN);have T':=d7 (st:=B_) HM EX A4;have Tn:=unop%bV (J4 3 T' (⟨Ec,GY,A4⟩) a_ (unop%mo nU) (unop%mo L9));have Ua:=d7 (st:=B3) HN EY A5;have To:=unop%bV (JY 1 Ua (⟨Ed,GZ,A5⟩) a_ (unop%mo nU));have Ub:=d7 (st:=B4) HO EZ A6;have Tj:=unop%bV (J0 4 Ub (⟨Ee,G0,A6⟩) a_ (unop%mo Tn) (unop%mo To) p5 (unop%mo nU));have Uc:=d7 (st:=BY) HP E0 A7;have Tw:=unop%bV (JR 5 Uc (⟨Ef,G1,A7⟩) a_ (unop%mo TA) (unop%mo Tj) (unop%mo nU));have Ud:=d7 (st:=Cf) HQ E1 A8;have Tf:=unop%bV (Ka 6 Ud (⟨Eg,G2,A8⟩) a_ (unop%mo TF) (unop%mo nU) (unop%mo Tt) (unop%mo Tx) (unop%mo Tw));have Ue:=d7 (st:=CB) HR E2 Hb;have TV:=unop%bV (y0 0 Ue (fZ X G Eh) oU);have Ug:=d7 (st:=B1) HS E3 A9;have Th:=unop%bV (ala 1 Ug (⟨Ei,G3,A9⟩) a_ (unop%mo TV));have Uh:=d7 (st:=B0) HT E4 A_;have Tp:=unop%bV (JT 2 Uh (⟨Ej,G4,A_⟩) a_ (unop%mo zM));have Ui:=d7 (st:=B2) HU E5 A';have Tq:=unop%bV (JX 3 Ui (⟨Ek,G6,A'⟩) a_ (unop%mo L9) (unop%mo Tp));have Uj:=d7 (st:=Ca) HV E6 Ba;have Tz:=unop%bV (J6 4 Uj (⟨El,G7,Ba⟩) a_ (unop%mo Th) (unop%mo Tq));have Uk:=d7 (st:=B9) HW E7 Bb;have Tr:=unop%bV (J3 7 Uk (⟨Em,G8,Bb⟩) a_ (unop%mo Tu) (unop%mo Tf) (unop%mo Tz));have Ul:=d7 (st:=Ct) HX E8 Hc;have L_:=unop%bV (yY 8 Ul (fZ X G En) a_ (unop%mo Te) (unop%mo Tr));have Um:=d7 (st:=Dj) HY E9 Hd;have TB:=unop%bV (zu 10 Um (fZ X G Eo) a_ (unop%mo Tv) (unop%mo L_));have Un:=d7 (st:=Cs) HZ E_ He;have TJ:=unop%bV (Ki 0 Un (fZ X G Ep) j_);have Uo:=d7 (st:=CO) H0 E' Hf;have TP:=unop%bV (y6 1 Uo (fZ X G Er) (unop%mo TJ));have Up:=d7 (st:=Di) H2 Fb Hg;have wJ:=unop%bV (jI 0 Up (fZ X G Es) cj);have Uq:=d7 (st:=CS) H3 Fc Hh;have DM:=unop%bV (uk 1 Uq (fZ X G Et) cj (unop%mo wJ));have Ur:=d7 (st:=y_) H4 Fd Hi;have TO:=unop%bV (Lb 2 Ur (fZ X G Eu) cj (unop%mo wJ) (unop%mo DM));have Us:=d7 (st:=Dw) H5 Fe Hj;have Mb:=unop%bV (zA 2 Us (fZ X G Ew) cj (unop%mo wJ) mn (unop%mo DM));have Ut:=d7 (st:=Dx) H6 Ff Hk;have TL:=unop%bV (LR 3 Ut (fZ X G Ex) cj (unop%mo wJ) (unop%mo Mb));have Uu:=d7 (st:=vP) H7 Fg Hl;have TK:=unop%bV (Lc 4 Uu (fZ X G Ey) cj (unop%mo TL) (unop%mo wJ) kD mn);have Uv:=d7 (st:=C6) H8 Fh Hm;have TU:=unop%bV (K' 3 Uv (fZ X G Ez) cj oU (unop%mo Mb) (unop%mo DM));have Uw:=d7 (st:=CC) H9 Fi Hn;have TN:=unop%bV (CL 5 Uw (fZ X G EA) cj (unop%mo TO) (unop%mo TK) m8 (unop%mo TU));have Ux:=d7 (st:=vU) H_ Fj Ho;have TC:=unop%bV (Lx 0 Ux (fZ X G EB) fw);have Uy:=d7 (st:=CN) H' Fl Hp;have TS:=unop%bV (C3 0 Uy (fZ X G EC) cj fw p5);have Uz:=d7 (st:=Dh) Ia Fm Hq;have Mc:=unop%bV (v_ 10 Uz (fZ X G ED) a_ fw (unop%mo L_));have UA:=d7 (st:=Ck) Ib Fn Hr;have TG:=unop%bV (Kd 11 UA (fZ X G EE) (unop%mo Mc) xe adP)
 have UB:=d7 (st:=zi) Ic Fo Hs;have TX:=unop%bV (Lw 0 UB (fZ X G EF) fw kD);have UC:=d7 (st:=rd) Ig Fp Hu;exact aiq rfl (akf (k:=12) UC cj (unop%mo TQ) (unop%mo TH) (unop%mo TR) (unop%mo TB) fw (unop%mo TP) (unop%mo TN) (unop%mo TC) (unop%mo TS) (unop%mo Mc) (unop%mo TG) sm (unop%mo TX) kD)
def walk{l:PySem.W.OpenLaw}{q:cQ}{loose:List Str}{uM:(Str->Option aq)->b5->Prop}{rr:cB->b5->Prop}{d:DefRec}{K:Params->bo}(a8:l.most=some 63)(xp:d.params.defaults=[])(hT:∀w:cB,Oq (K w.params)=true)(Gb:∀(w:cB) (h:b5),rr w h->(K w.params).In h)(F:∀(w:cB) (mg:Str->Option aq) (cG:ak) (h:b5),(K w.params).In h->h.Ns lD mg->mg d.name=some (.ref cG) ->
   ∃fd:gq,(∀(s:aQ) (u:aq),BindsTo s fd ⟨[u],[]⟩ [("_law_script",u)])/\∀base:b5,(K w.params).In base->base.Ns lD mg->fI l.prog w (K w.params) mg base fH 13 cG fd ["_law_script"] (@spT t0 (K w.params) 1 sA)):
  PySem.W.WalkO q loose uM rr l.row.toRowW d [] (λf vs=>PySem.call f vs):=
 bw.ad1 (n:=63) (k:=13) (x:="_law_script") (eI:=λ_=>fH) (sp:=λw=>@spT t0 (K w.params) 1 sA) a8 (by decide) xp ⟨rfl,by decide,by decide,rfl⟩ Gb F (λw _ _ ns ay _ fJ=>af9 (hT w) (aho ns ay) fJ) λ_ _ _ _ _ z=>z
end qh
open PySem PySem.W PyProof.Rows
set_option maxRecDepth 100000 in
set_option maxHeartbeats 0 in
theorem PySem.Challenge.cw_doorwatch_k11_rows_holds : PySem.Challenge.rw_doorwatch_k11_rows.Holds := by
 w_on;o_law;k_head;(case hw=>w_witness2)
 k_fill
 refine qh.walk (l:=PySem.Challenge.rw_doorwatch_k11_rows) rfl rfl ?L (λw h Y=>PySem.W.kIn_of Y) ?F
 case L=>
  intro w
  first|rfl|(with_unfolding_all rfl)|kernel_rfl
 case F=>
  intro w mg cG h o2 G xx;refine' qh.all_mk o2 G xx ?EH ?IY ?Gj ?I0 ?Jg ?Ip ?Hz ?Iw ?Iy ?IC ?ID ?IE ?IF ?IG ?IH ?II ?IJ ?Iz ?IA ?IB ?a1 ?bT ?c8 ?eY ?a2 ?bR ?cv ?dV ?iH ?Be ?eA ?gz ?k8 ?Bf ?c4 ?mM ?kf ?Ie ?jS ?Ht ?k9 ?G9 ?Ih ?Fq ?Bc ?nd ?G_ ?Ii ?Fs ?Hv ?n3 ?G' ?Ij ?Ft ?Bd ?kJ ?Ik ?Fu ?Hw ?n2 ?GL ?HA ?EK ?AS ?D3 ?GN ?HB ?EL ?AU ?D4 ?i12 ?HC ?EM ?AV ?D5 ?GO ?HD ?EN ?AW ?D6 ?GP ?HE ?EO ?AX ?D7 ?HF ?EP ?Ha ?D8 ?GQ ?HG ?ER ?AY ?D9 ?GR ?HH ?ES ?AZ ?D_ ?GS ?HI ?ET ?A0 ?D' ?GU ?HJ ?EU ?A1 ?Ea ?GW ?HK ?EV ?A2 ?Eb ?GX ?HL ?EW ?A3 ?Ec ?GY ?HM ?EX ?A4 ?Ed ?GZ ?HN ?EY ?A5 ?Ee ?G0 ?HO ?EZ ?A6 ?Ef ?G1 ?HP ?E0 ?A7 ?Eg ?G2 ?HQ ?E1 ?A8 ?Eh ?HR ?E2 ?Hb ?Ei ?G3 ?HS ?E3 ?A9 ?Ej ?G4 ?HT ?E4 ?A_ ?Ek ?G6 ?HU ?E5 ?A' ?El ?G7 ?HV ?E6 ?Ba ?Em ?G8 ?HW ?E7 ?Bb ?En ?HX ?E8 ?Hc ?Eo ?HY ?E9 ?Hd ?Ep ?HZ ?E_ ?He ?Er ?H0 ?E' ?Hf ?Es ?H2 ?Fb ?Hg ?Et ?H3 ?Fc ?Hh ?Eu ?H4 ?Fd ?Hi ?Ew ?H5 ?Fe ?Hj ?Ex ?H6 ?Ff ?Hk ?Ey ?H7 ?Fg ?Hl ?Ez ?H8 ?Fh ?Hm ?EA ?H9 ?Fi ?Hn ?EB ?H_ ?Fj ?Ho ?EC ?H' ?Fl ?Hp ?ED ?Ia ?Fm ?Hq ?EE ?Ib ?Fn ?Hr ?EF ?Ic ?Fo ?Hs ?EG ?Ig ?Fp ?Hu ?mn ?fw ?m8 ?j_ ?sk ?sl ?kD ?p5 ?oU ?sm ?s8 ?s7 ?xd ?I2 ?xc ?I1 ?xe ?I3
  (case EH|IY|Gj|I0|Jg|Ip|Hz|Iw|Iy|IC|ID|IE|IF|IG|IH|II|IJ|Iz|IA|IB|a1|bT|c8|eY|a2|bR|cv|dV|iH|Be|eA|gz|k8|Bf=>k_is)
  (case c4|mM|kf|Ie|jS|Ht|k9|G9|Ih|Fq|Bc|nd|G_|Ii|Fs|Hv|n3|G'|Ij|Ft|Bd|kJ|Ik|Fu|Hw|n2|GL|HA|EK|AS|D3|GN|HB|EL|AU|D4|i12|HC|EM|AV|D5|GO|HD|EN|AW|D6|GP|HE|EO|AX|D7|HF|EP|Ha|D8=>k_is)
  (case GQ|HG|ER|AY|D9|GR|HH|ES|AZ|D_|GS|HI|ET|A0|D'|GU|HJ|EU|A1|Ea|GW|HK|EV|A2|Eb|GX|HL|EW|A3|Ec|GY|HM|EX|A4|Ed|GZ|HN|EY|A5|Ee|G0|HO|EZ|A6|Ef|G1|HP|E0|A7|Eg|G2=>k_is)
  (case HQ|E1|A8|Eh|HR|E2|Hb|Ei|G3|HS|E3|A9|Ej|G4|HT|E4|A_|Ek|G6|HU|E5|A'|El|G7|HV|E6|Ba|Em|G8|HW|E7|Bb|En|HX|E8|Hc|Eo|HY|E9|Hd|Ep|HZ|E_|He|Er|H0|E'|Hf|Es|H2|Fb=>k_is)
  (case Hg|Et|H3|Fc|Hh|Eu|H4|Fd|Hi|Ew|H5|Fe|Hj|Ex|H6|Ff|Hk|Ey|H7|Fg|Hl|Ez|H8|Fh|Hm|EA|H9|Fi|Hn|EB|H_|Fj|Ho|EC|H'|Fl|Hp|ED|Ia|Fm|Hq|EE|Ib|Fn|Hr|EF|Ic|Fo|Hs|EG|Ig=>k_is)
  (case Fp|Hu|mn|fw|m8|j_|sk|sl|kD|p5|oU|sm|s8|s7|xd|I2|xc|I1|xe|I3=>k_is)
end
end
