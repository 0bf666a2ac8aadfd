import PyProof.Rows.All
import Wide.All
import OpenK.AllK
import Wide.FinOn
import Lean
import PyProof.EqAt
import PyProof.EqKinds
import PyProof.TupleCall
import PyProof.P3Statements
import KE.KSortTup
import PyProof.AttrMissHeap
import PyProof.ZipIter
import PyProof.Draws
import PyProof.ListMulRoad
import Wide.Seal
import KE.KLam
import KE.KNest
import KE.KNestM
import KE.KIsAll
import PyProof.ExcArgs
import PyProof.ReprStr
import PyProof.FString
import PyProof.FitsInt
import KE.KMinKey
import KE.KIntText
import KE.IntTextText
import PySem.Challenge.RW_doorwatch_k10_what_happens
set_option Elab.async false
set_option linter.all false
set_option compiler.extract_closed false
set_option genSizeOfSpec false
set_option maxRecDepth 100000
set_option maxHeartbeats 0
open PySem renaming Value → ao, Addr → aj, Around → c9, World → cu, Heap → b0, Expr → bf
open PySem.W renaming Frag → bl, keepIn → ni, findIn → nj, fnOf → ry, mg_of → gu, mg_none_of → o6, emptyDict → ajT, instObj → rA
open Option renaming bind_eq_some_iff → b5, map_eq_some_iff → dN, bind_some → dh, map_some → jT
open PySem renaming wpAny_bind → a7, Shared → aP, wpAny_pure → cH, starEach → bB, FuncData → gj, sizeLine → cF, mainGlobals → ajP, Program → cR, wpAny → bG, wpAny_mono → gv, mem_of_lookup → x9, keywordEach → l3, wpAny_holding → mG, backTo → dR, wpAny_Call_Name_kw → u2, wpAny_field → iq, attributeBase → i5, wpAny_callSpecial?_slot → qs, backToKw → l4, sizeLine_eq → lr, wpAny_seqItems → pd, wpAny_pyIter_tuple → ya, compareOp → jv, codeAny_builtin → u3, wpAny_newObj_type → qt, wpAny_call_entry → pe, wpAny_setField_rec → tr, swapsWith → i6, behindInMarks → qu, wpAny_truthy_bool → tu, assignEach → nt, call_meets → rC, binaryOp → mH, NameKind → mI, model → bR, foldedSetIterable → pf
open PySem.Heap renaming get?_push_of_some → dq, lt_size → c8, get?_push_size → hX, size_push → kL, get?_update_other → yc
open List renaming mem_cons_of_mem → dM, mem_cons → cZ, map_cons → dk, mem_cons_self → e8, replicate → dW, size_toArray → eJ, getElem?_eq_some_iff → fC, mem_map → dm, nodup_cons → dX, getElem?_eq_getElem → gT, length_cons → hF, mem_singleton → kK, mem_append → ju, length_map → gk, getElem?_map → hq, pairwise_cons → nk, map_nil → jS, mem_append_right → l0, lookup_cons → nq, set_cons_zero → kO, lookup → iT, set_cons_succ → lq, getElem?_append_right → uV, nodup_append → o7, getElem?_append_left → uW, find?_cons → l1, replicate_succ → qo, mem_of_getElem? → ko, append_nil → mE, zip_cons_cons → qp, length_append → qq, length_filter_le → ajU, getElem?_set → u0, flatten_cons → ajX, not_mem_nil → kp, getElem?_cons_zero → o_, getElem?_cons_succ → oh, length_nil → tq, nil_append → x_, map_map → mF
open Nat renaming le_refl → el, lt_of_lt_of_le → km, ne_of_lt → fD, ne_of_gt → hY, le_trans → kn, zero_le → kP, le_succ → pa, le_add_right → tv
open PySem.Builtin.SmallTypes renaming nextOf → lZ, ownedTupleIsFree → rz
open PySem.Builtin.Tuple renaming tupleExact → tn
open Function renaming comp_def → lp
open Bool renaming and_eq_true → hZ, false_eq_true → jU, false_ne_true → l2
open PySem.PyData renaming depthAll → kM, canLayAll0 → kN, str → iU, eqv → hG, depth → nr
open PyProof.Rows renaming slot_tuple_getitem → B3, callWith_type1 → uY
open PySem.Builtin.Slice renaming slicePlaces → B4
open Array renaming getElem?_eq_getElem → uX, length_toList → rB
open PySem.Around renaming under_plainId → uZ
open False renaming elim → mD
open PySem.PassesOwn renaming never → o9
open PySem.F renaming slot_tuple_iterator_next → B5, plainAttrs_list → yb
open Option.some renaming inj → en
open Int renaming emod_nonneg → pb, emod_lt_of_pos → u1
namespace PySem.W.Fast
def tw16842089195917994668:=0
def tw1806307648869019547:=0
def tw234066925906776805:=0
def tw18173425404338266003:=0
def tw4599249747855564322:=0
def tw9545940000710117465:=0
def tw8572890288729366774:=0
def tw7480812102086948011:=0
def tw12901173496508686242:=0
def tw9349387753919389328:=0
def tw5904115114836863085:=0
def tw7523628788168017517:=0
def tw8529708657907560365:=0
def tw4188101307034015850:=0
def tw11502670868837254229:=0
def tw11962247545376796603:=0
def tw3219407070484475086:=0
def tw248816277781183995:=0
def tw10448611187488698768:=0
def tw1489828377007024542:=0
def tw14678172314362086707:=0
def tw9124612701970268549:=0
def tw7466642054941148166:=0
def tw2287888196644977222:=0
def tw2736709047170456586:=0
def tw16000173256559369700:=0
def tw4278391629601775824:=0
def tw8167805986701379335:=0
def tw13861568007043081053:=0
def tw17931681450760204938:=0
def tw16132733790303384169:=0
def tw10354390649007409398:=0
def tw12845676812238169162:=0
def tw17385536114753150753:=0
def tw5948276844411664096:=0
def tw6675881462009933215:=0
def tw4105584657620195001:=0
def tw17957376247873684022:=0
def tw16670301893740856379:=0
def tw12491850319734654149:=0
def tw16187057037541415437:=0
def tw16444256764369391415:=0
def tw390833498612211898:=0
def tw13037493861695746582:=0
def tw7640853186464394526:=0
def tw2586630950061734152:=0
def tw1524411809031986732:=0
def tw12014814901108506549:=0
def tw6423943722440681346:=0
def tw12657176691246704796:=0
def tw14731183645091387757:=0
def tw12375236830686388236:=0
def tw5530244964898083458:=0
def tw5777475106293222219:=0
def tw11664884235585553774:=0
def tw14593944627935161490:=0
def tw10290772462010020721:=0
def tw587336298145285397:=0
def tw7875431133497968508:=0
def tw2810955366683612730:=0
def tw13153952997254413862:=0
def tw11638996407038912339:=0
def tw6667468196463886073:=0
def tw15821838658737065927:=0
def tw6227260463746610987:=0
def tw5241629385700389384:=0
def tw8948340989860102454:=0
def tw11102381700431381409:=0
def tw17200148280040430265:=0
def tw7186903372895698865:=0
def tw11599845522417459654:=0
def tw1357079739444677846:=0
def tw13336030122689596801:=0
def tw8292143718019516565:=0
def tw10485226255069857586:=0
def tw6759951417723488131:=0
def tw9735004278344332234:=0
def tw1130149577634412968:=0
def tw14859699309129612667:=0
def tw16665527940483083504:=0
def tw7883938702441424320:=0
def tw11742661361016925838:=0
def tw7528139881499507936:=0
def tw8724820701716857169:=0
def tw2646904739130489812:=0
def tw5321865418992899245:=0
def tw13640649321022393923:=0
def tw15582975856526499181:=0
def tw417696472485812187:=0
def tw12617210971938962980:=0
def tw9633752184776294715:=0
def tw15855243983026369241:=0
def tw8626338381397428267:=0
def tw1826560080683342168:=0
def tw14490724625939126977:=0
def tw2820076787771733187:=0
def tw16505849307149391915:=0
def tw10857083264820605811:=0
def tw11222002562618680583:=0
def tw8610207225794607760:=0
def tw6583690017080127561:=0
def tw14588068927262227145:=0
def tw7424303654999961686:=0
def tw13093357545213731277:=0
def tw16919743826719979032:=0
def tw15533494857212678774:=0
def tw3243276456849586839:=0
def tw17846000435093854536:=0
def tw16055086138346584512:=0
def tw13532525071863551283:=0
def tw15129231528521680372:=0
def tw6968627297743909608:=0
def tw4104972902845074180:=0
def tw4109122924399586706:=0
def tw16859747509595752515:=0
def tw16896574894189499373:=0
def tw10763728136932218916:=0
def tw16539670794757337132:=0
def tw3435863918237203053:=0
def tw9436250278663198856:=0
def tw332600770589564774:=0
def tw14792494008622682667:=0
def tw11961202204493575566:=0
def tw2911943305803299884:=0
def tw18385687247065557260:=0
def tw11426325179956091651:=0
def tw259202917598928446:=0
def tw17151035011767520597:=0
def tw15459498717325869083:=0
def tw7471674861202429675:=0
def tw3770104787925984309:=0
def tw12628393729737591480:=0
def tw16430596305130149607:=0
def tw7016242584337178028:=0
def tw8419462222528622141:=0
def tw14479054087030570669:=0
def tw5484261388566802460:=0
def tw5850006374223913444:=0
def tw9894593538538425368:=0
def tw18293482619957166107:=0
def tw137790957111525244:=0
def tw10318570473907597665:=0
def tw6701540185589325895:=0
def tw11102811630274082440:=0
def tw16710070188170371695:=0
def tw1912561033164075521:=0
def tw12039762921193818326:=0
def tw8715525226602239392:=0
def tw12030280067206545569:=0
def tw14644482689277910439:=0
def tw6021529540542024476:=0
def tw15446856435898252619:=0
def tw17879795099102435293:=0
def tw1452102441586956836:=0
def tw18115328094586310771:=0
def tw13194381892211147147:=0
def tw7599897027915816450:=0
def tw17279940657605977938:=0
def tw3385839716274703673:=0
def tw12259046027023950576:=0
def tw8594559976335425171:=0
def tw3599297433286961386:=0
def tw1378305998709385516:=0
def tw8540408623497124165:=0
def tw12354353632366491074:=0
def tw11803730964165241444:=0
def tw7322885737011630743:=0
def tw11436356429944266315:=0
def tw9546297839312426396:=0
def tw9119591802835125474:=0
def tw4639875364371582970:=0
def tw16202350583816685445:=0
def tw7723790183755242395:=0
def tw4283073643190704427:=0
def tw660375032958588006:=0
def tw10993997657458407692:=0
def tw13688589633972847844:=0
def tw4023623166414454278:=0
def tw16283206194382031860:=0
def tw11394314905930392717:=0
def tw7952939822394747070:=0
def tw11199181478347258157:=0
def tw8150052430123175116:=0
def tw859436986086609272:=0
def tw9529450207949813608:=0
def tw6230964673052962101:=0
def tw9165578729606043588:=0
def tw14634240951432497620:=0
def tw14942594898472896236:=0
def tw8829999242492176279:=0
def tw3657625198747849702:=0
def tw12497150308972838198:=0
def tw5255849576972174927:=0
def tw6224228767100529874:=0
def tw13167080686220963366:=0
def tw13486283999756970166:=0
def tw9100747530703728200:=0
def tw17660340150737144586:=0
def tw14856486502150317533:=0
def tw862271646165823517:=0
def tw13286353735955893332:=0
def tw18023673108225074751:=0
def tw10313708222980755866:=0
def tw3402073278846585322:=0
def tw7564203236200702042:=0
def tw15851040253493696237:=0
def tw7732928150670263475:=0
def tw18025657404978597166:=0
def tw17381330125065110418:=0
def tw12706862477700108628:=0
def tw16739405141914851267:=0
def tw3548081370586782491:=0
def tw16238201999024147785:=0
def tw6315083198229133275:=0
def tw3327983352905417465:=0
def tw4283217752517624394:=0
def tw6342562174645864488:=0
def tw3842380599210751889:=0
def tw1112373151613014098:=0
def tw5306250047558133881:=0
def tw400133288724018620:=0
def tw15290522438024271702:=0
def tw11275802723043733767:=0
def tw16278944075101977645:=0
def tw12688376601320402899:=0
def tw7367374187205329299:=0
def tw10245048420434488742:=0
def tw9656317023389550564:=0
def tw17113698078285179925:=0
def tw11737998748210439234:=0
def tw5667429475945756131:=0
def tw11906577992339704622:=0
def tw11578109367785102141:=0
def tw11390817418631602589:=0
def tw4776859871821851623:=0
def tw7149386692748374716:=0
def tw5397111580604719926:=0
def tw16092576357033944402:=0
def tw5581217442272917129:=0
def tw4122444923431200826:=0
def tw1637447959647186855:=0
def tw10094898858610876970:=0
def tw9674084654140527972:=0
def tw2013693053839035912:=0
def tw17971483181709032842:=0
def tw3944130599614810814:=0
def tw7854880165725078363:=0
def tw17445719789877472843:=0
def tw4197152628326956430:=0
def tw9932817483999620987:=0
def tw10975211597447015702:=0
def tw16530436772863531439:=0
def tw12080098055368917096:=0
def tw10124140999833903422:=0
def tw18161944922643962453:=0
def tw1710291621418523527:=0
def tw4365863297745727307:=0
def tw8854230754353065570:=0
def tw17470867740923219364:=0
def tw13267067413326623988:=0
def tw5470081774549742339:=0
def tw8498200667956687830:=0
def tw11892411900656574760:=0
def tw7121626939518583180:=0
def tw6583870663860140678:=0
def tw5226496896966739099:=0
def tw16288187745370418041:=0
def tw16441406669446855362:=0
def tw18118852314713047635:=0
def tw9137245708944560798:=0
def tw9418116819488126682:=0
end PySem.W.Fast
noncomputable section
section
namespace bo
open PySem PySem.Spec PyProof.Rows
abbrev Key:=Sum Int Str
def kS:Key->ao->Bool
|.inl k,v=>Value.isInt k v
|.inr x,v=>Value.isStrOf x v
def Nx(w:cu):Key->Int
|.inl k=>hashInt k
|.inr x=>hashStr w x
def l6:∀{k:Key} {v:ao},kS k v=true->(∃i t,k=Sum.inl i/\v=Value.int i t)\/(∃x t,k=Sum.inr x/\v=Value.str x t)
|.inl i,v,h=>by
  obtain⟨t,e⟩:=Value.isInt_shape (k:=i) (v:=v) h;exact .inl ⟨i,t,rfl,e⟩
|.inr x,v,h=>by
  obtain⟨t,e⟩:=Value.isStrOf_shape (x:=x) (v:=v) h;exact .inr ⟨x,t,rfl,e⟩
def afp(i:Int)(t:Tok):kS (.inl i) (.int i t)=true:=by simp[kS,Value.isInt]
def afo(x:Str)(t:Tok):kS (.inr x) (.str x t)=true:=by simp[kS,Value.isStrOf]
def aii(a b:Int):decide ((Sum.inl a:Key)=Sum.inl b)=(a==b):=by
 by_cases e:a=b
 ·subst e;simp
 ·have h:¬(Sum.inl a:Key)=Sum.inl b:=λq=>e (Sum.inl.inj q);rw[decide_eq_false h];exact (beq_eq_false_iff_ne.mpr e).symm
def aie(a b:Str):decide ((Sum.inr a:Key)=Sum.inr b)=decide (a=b):=by
 by_cases e:a=b
 ·subst e;simp
 ·have h:¬(Sum.inr a:Key)=Sum.inr b:=λq=>e (Sum.inr.inj q);rw[decide_eq_false h,decide_eq_false e]
def aih(a:Int)(b:Str):decide ((Sum.inl a:Key)=Sum.inr b)=false:=decide_eq_false (λq=>nomatch q)
def aif(a:Str)(b:Int):decide ((Sum.inr a:Key)=Sum.inl b)=false:=decide_eq_false (λq=>nomatch q)
noncomputable def fu(prog:cR)(w:cu):PySem.KeyKind prog w Key where
 is:=kS
 hash:=Nx w
 inj:=λv a b ax ae=>by
  rcases l6 ax with ⟨i,t,rfl,rfl⟩|⟨x,t,rfl,rfl⟩
  ·rcases l6 ae with ⟨j,u,rfl,e⟩|⟨y,u,rfl,e⟩
   ·injection e with aQ _;rw[aQ]
   ·exact nomatch e
  ·rcases l6 ae with ⟨j,u,rfl,e⟩|⟨y,u,rfl,e⟩
   ·exact nomatch e
   ·injection e with aQ _;rw[aQ]
 byValue:=λk v h=>by
  rcases l6 h with ⟨i,t,rfl,rfl⟩|⟨x,t,rfl,rfl⟩ <;> rfl
 pyHash:=λa5 h=>by
  rcases l6 a5 with ⟨i,t,rfl,rfl⟩|⟨x,t,rfl,rfl⟩
  ·exact wpAny_pyHash_int h
  ·exact wpAny_pyHash_str h
 eqBool:=λbj a5 h=>by
  rcases l6 bj with ⟨i,t,rfl,rfl⟩|⟨x,t,rfl,rfl⟩
  ·rcases l6 a5 with ⟨j,u,rfl,rfl⟩|⟨y,u,rfl,rfl⟩
   ·rw[aii] at h;exact wpAny_eqBool_int h
   ·rw[aih] at h;exact SeqAt.EqAt.int_str i t y u _ _ _ _ h
  ·rcases l6 a5 with ⟨j,u,rfl,rfl⟩|⟨y,u,rfl,rfl⟩
   ·rw[aif] at h;exact SeqAt.EqAt.str_int x t j u _ _ _ _ h
   ·rw[aie] at h;exact wpAny_eqBool_str h
 «strs»:=λk x t v h=>by
  rcases l6 h with ⟨i,u,rfl,e⟩|⟨y,u,rfl,e⟩
  ·exact nomatch e
  ·injection e with aQ _
   subst aQ;cases v <;> rfl
def Py(prog:cR)(w:cu)(k:Key)(v:ao):(fu prog w).is k v=kS k v:=rfl
def Pc(prog:cR)(w:cu)(i:Int)(t:Tok):(fu prog w).is (.inl i) (.int i t)=true:=afp i t
def Pb(prog:cR)(w:cu)(x:Str)(t:Tok):(fu prog w).is (.inr x) (.str x t)=true:=afo x t
end bo
namespace bo
open PySem PySem.Spec PyProof.Rows
inductive V where
|gH|dr (b:Bool)|int (i:Int)|str (x:Str)|sr (b:Array UInt8)|wQ (b:UInt64)|ref (a:aj)|ty (n:String)
 deriving DecidableEq
noncomputable def RelV:V->ao->Prop
|.gH,u=>u=Value.none
|.dr b,u=>u=Value.bool b
|.int i,u=>∃t,u=Value.int i t
|.str x,u=>∃t,u=Value.str x t
|.sr b,u=>∃t,u=Value.bytes b t
|.wQ b,u=>∃t,u=Value.float b t
|.ref a,u=>u=Value.ref a
|.ty n,u=>u=Value.type n
abbrev Vals:List V->List ao->Prop:=Paired RelV
theorem Vals.length{xs:List V}{us:List ao}(r:Vals xs us):xs.length=us.length:=Paired.length r
theorem Vals.get:∀{xs:List V} {us:List ao} {i:Nat} {x:V},Vals xs us->xs[i]?=some x->∃u,us[i]?=some u/\RelV x u
|_,_,_,_,.nil,e=>by simp at e
|_,_,0,_,.cons r _,e=>by simp at e;subst e;exact⟨_,rfl,r⟩
|_,_,i+1,x,.cons _ t,e=>by
  obtain⟨u,af,ak⟩:=Vals.get (i:=i) (x:=x) t (by simpa using e);exact⟨u,by simpa using af,ak⟩
theorem Vals.set{x:V}{u:ao}(r:RelV x u):∀{xs:List V} {us:List ao} (i:Nat),Vals xs us->Vals (xs.set i x) (us.set i u)
|_,_,_,.nil=>.nil
|_,_,0,.cons _ t=>.cons r t
|_,_,i+1,.cons q t=>.cons q (Vals.set r i t)
theorem Vals.append:∀{xs ys:List V} {us ws:List ao},Vals xs us->Vals ys ws->Vals (xs++ys) (us++ws)
|_,_,_,_,.nil,s=>s
|_,_,_,_,.cons r t,s=>.cons r (Vals.append t s)
theorem Vals.take:∀{xs:List V} {us:List ao} (n:Nat),Vals xs us->Vals (xs.take n) (us.take n)
|_,_,0,_=>.nil
|_,_,_+1,.nil=>.nil
|_,_,n+1,.cons r t=>.cons r (Vals.take n t)
theorem Vals.drop:∀{xs:List V} {us:List ao} (n:Nat),Vals xs us->Vals (xs.drop n) (us.drop n)
|_,_,0,r=>r
|_,_,_+1,.nil=>.nil
|_,_,n+1,.cons _ t=>Vals.drop n t
noncomputable def jG:Option V->Option ao->Prop
|some v,some u=>RelV v u
|none,none=>True
|_,_=>False
noncomputable def fU{e9:Type}:List (e9×V)->List (e9×ao)->Prop:=Paired λ(p:e9×V) (q:e9×ao)=>p.1=q.1/\RelV p.2 q.2
def ei:Key->V
|.inl i=>.int i
|.inr x=>.str x
inductive eW where
|lst (xs:List V)
|tup (xs:List V)
|du (kvs:List (Key×V))|mW (kvs:List (List Key×V))
|set (S:Int->Bool) (n:Nat)
|ins (C bz:aj) (ay:List (Str×V))
|own (x:aj)
|Jm (ay:List (Str×V))
|met (f x:aj)
|jo (lo aS:Int)
|nS (o:Obj) (u:eW)
|lj (ps:Array ao)
|ext (pI:b0->Prop)
abbrev aA:=aj->Option eW
def upd(H:aA)(a:aj)(o:eW):aA:=λb=>if b=a then some o else H b
def dI{H:aA}{a:aj}{o:eW}:upd H a o a=some o:=by unfold upd;rw[if_pos rfl]
def cI{H:aA}{a b:aj}{o:eW}(h:b≠a):upd H a o b=H b:=by unfold upd;rw[if_neg h]
def ai6{H:aA}{a b:aj}{o u:eW}(h:H a=some o)(h':H b=some u)(d:o≠u):a≠b:=by
 intro e;subst e;rw[h] at h';exact d (en h')
def jV{H:aA}{a b:aj}{o:eW}(h:H a=some o)(h':H b=none):a≠b:=by
 intro e;subst e;rw[h] at h';cases h'
section
variable (P:cR)(w:cu)
noncomputable def h4(H:aA)(h:b0)(a:aj):eW->Prop
|.lst xs=>xs.length<=cF/\∃(its:List ao) (n:Nat),Vals xs its/\h.get? a=some {cls:=.type "list",data:=.seq its.toArray n}
|.tup xs=>xs.length<=cF/\∃its:List ao,Vals xs its/\IsTup h a its.toArray
|.du kvs=>kvs.length<=cF/\(a==sysModules)=false/\∃vs,fU kvs vs/\h.DictOf (fu P w) a vs
|.mW kvs=>kvs.length<=cF/\(a==sysModules)=false/\∃xs:List (List Key×aj×ao),
   Paired (λ(p:List Key×V) (q:List Key×aj×ao)=>p.1=q.1/\H q.2.1=some (.tup (p.1.map ei))/\RelV p.2 q.2.2) kvs xs /\
   ∃o es ep,h.get? a=some o/\o.ExactDict/\o.data=.dict es ep/\es.toList=xs.map (entryOfKey (tupleKind (fu P w)))/\(xs.map (·.1)).Nodup
|.set S n=>h.SetOf (intKind P w) a S n
|.ins C bz ay=>H bz=some (.own a)/\ay.length<=1000/\bz≠a/\h.get? a=some (rA C bz) /\
   ∃e0,h.Ns1 bz e0/\(∀f,jG (ay.lookup f) (e0 f))/\PySem.Within e0 (ay.map (·.1))
|.own _=>∃o,h.get? a=some o
|.Jm ay=>∃e0,h.Ns1 a e0/\∀f,jG (ay.lookup f) (e0 f)
|.jo lo aS=>∃t u v,h.get? a=some {cls:=.type "range",data:=.fields #[.int lo t,.int aS u,.int 1 v]}
|.nS o u=>h.get? a=some o/\h4 H h a u
|.lj ps=>h.get? a=some {cls:=.none,data:=.fields ps}
|.met f x=>h.get? a=some (PySem.W.methodObj (.ref f) (.ref x))
|.ext pI=>pI h/\(∃o,h.get? a=some o)/\∀af ak:b0,pI af->(∀o,af.get? a=some o->ak.get? a=some o)->pI ak
def fF(H:aA)(h:b0):Prop:=∀a o,H a=some o->h4 P w H h a o
end
section
variable {P:cR}{w:cu}{H ai:aA}{h h':b0}{a:aj}{o:eW}
theorem h4.lt(x:h4 P w H h a o):a<h.objs.size:=by
 cases o with
|lst xs=>obtain⟨_,_,_,_,e⟩:=x;exact c8 e
|tup xs=>obtain⟨_,_,_,p⟩:=x;exact p.lt
|du kvs=>obtain⟨_,_,_,_,o,_,_,e,_⟩:=x;exact c8 e
|mW kvs=>obtain⟨_,_,_,_,o,_,_,e,_⟩:=x;exact c8 e
|set S n=>obtain⟨o,_,_,_,e,_⟩:=x;exact c8 e
|ins C bz ay=>obtain⟨_,_,_,e,_⟩:=x;exact c8 e
|own y=>obtain⟨_,e⟩:=x;exact c8 e
|Jm ay=>obtain⟨_,⟨_,_,_,e,_⟩,_⟩:=x;exact c8 e
|jo lo aS=>obtain⟨_,_,_,e⟩:=x;exact c8 e
|nS d6 u=>obtain⟨e,_⟩:=x;exact c8 e
|lj ps=>exact c8 (show h.get? a=some _ from x)
|met f y=>exact c8 (show h.get? a=some _ from x)
|ext pI=>obtain⟨_,⟨_,e⟩,_⟩:=x;exact c8 e
theorem Paired.H_{α β:Type}{F G:α->β->Prop}:∀{NF:List α} {NG:List β},Paired F NF NG->(∀a b,F a b->G a b)->Paired G NF NG
|_,_,.nil,_=>.nil
|_,_,.cons r t,f=>.cons (f _ _ r) (Paired.H_ t f)
def h4.lh(x:h4 P w H h a o)(k:∀b u,(b=a\/H b=some (.own a))->h.get? b=some u->h'.get? b=some u)
  (aE:∀b,H b=some (.own a)->ai b=some (.own a)) (aR:∀b xs,H b=some (.tup xs)->ai b=some (.tup xs)):h4 P w ai h' a o:=by
 induction o with
|lst xs=>obtain⟨z,its,n,r,e⟩:=x;exact⟨z,its,n,r,k _ _ (.inl rfl) e⟩
|tup xs=>obtain⟨z,its,r,d6,e,c⟩:=x;exact⟨z,its,r,d6,k _ _ (.inl rfl) e,c⟩
|du kvs=>obtain⟨z,y,vs,r,d6,es,ep,e,c⟩:=x;exact⟨z,y,vs,r,d6,es,ep,k _ _ (.inl rfl) e,c⟩
|mW kvs=>
  obtain⟨z,y,xs,r,d6,es,ep,e,c⟩:=x;exact⟨z,y,xs,Paired.H_ r λp q z=>⟨z.1,aR _ _ z.2.1,z.2.2⟩,d6,es,ep,k _ _ (.inl rfl) e,c⟩
|set S n=>obtain⟨d6,es,ep,t,e,c⟩:=x;exact⟨d6,es,ep,t,k _ _ (.inl rfl) e,c⟩
|ins C bz ay=>
  obtain⟨d,z,ne,e,e0,⟨f5,es,ep,a9,c⟩,r⟩:=x;exact⟨aE _ d,z,ne,k _ _ (.inl rfl) e,e0,⟨f5,es,ep,k _ _ (.inr d) a9,c⟩,r⟩
|own y=>obtain⟨d6,e⟩:=x;exact⟨d6,k _ _ (.inl rfl) e⟩
|Jm ay=>obtain⟨e0,⟨f5,es,ep,e,c⟩,r⟩:=x;exact⟨e0,⟨f5,es,ep,k _ _ (.inl rfl) e,c⟩,r⟩
|jo lo aS=>obtain⟨t,u,v,e⟩:=x;exact⟨t,u,v,k _ _ (.inl rfl) e⟩
|nS d6 u b2=>obtain⟨e,q⟩:=x;exact⟨k _ _ (.inl rfl) e,b2 q⟩
|lj ps=>
  have e:h.get? a=some {cls:=.none,data:=.fields ps}:=x;show h'.get? a=some {cls:=.none,data:=.fields ps};exact k a _ (.inl rfl) e
|met f y=>
  have e:h.get? a=some (PySem.W.methodObj (.ref f) (.ref y)):=x;show h'.get? a=some (PySem.W.methodObj (.ref f) (.ref y));exact k a _ (.inl rfl) e
|ext pI=>obtain⟨p,⟨o,e⟩,st⟩:=x;exact⟨st _ _ p λo q=>k _ _ (.inl rfl) q,⟨o,k _ _ (.inl rfl) e⟩,st⟩
theorem fF.lt(x:fF P w H h)(e:H a=some o):a<h.objs.size:=(x a o e).lt
def fF.fresh(x:fF P w H h)(e:h.objs.size<=a):H a=none:=by
 cases q:H a with
|none=>rfl
|some u=>exact absurd (km (x.lt q) e) (Nat.lt_irrefl _)
def fF.kept(x:fF P w H h)(k:∀b u,h.get? b=some u->h'.get? b=some u):fF P w H h':=λa o e=>
 (x a o e).lh (λb u _ q=>k b u q) (λ_ q=>q) λ_ _ q=>q
def fF.laid(x:fF P w H h)(k:∀b u,h.get? b=some u->h'.get? b=some u)(aC:h.objs.size<=a)(new:h4 P w (upd H a o) h' a o):fF P w (upd H a o) h':=λb u e=>by
 have a8:=x.fresh aC;by_cases ae:b=a
 ·subst ae;rw[dI] at e;cases e;exact new
 ·rw[cI ae] at e;exact (x b u e).lh (λc v _ q=>k c v q) (λc q=>by rw[cI (jV q a8)];exact q) λc xs q=>by rw[cI (jV q a8)];exact q
end
def eK(H:aA)(a:aj)(u:eW):Prop:=H a=some u\/∃o,H a=some (.nS o u)
def eK.ok{P:cR}{w:cu}{H:aA}{h:b0}{a:aj}{u:eW}(r:eK H a u)(x:fF P w H h):h4 P w H h a u:=by
 rcases r with r|⟨o,r⟩
 ·exact x a u r
 ·obtain⟨_,q⟩:=x a _ r;exact q
noncomputable def wx:Option eW->Prop
|some (.lst _)=>True
|some (.du _)=>True
|some (.mW _)=>True
|some (.set _ _)=>True
|some (.ins _ _ _)=>True
|some (.ext _)=>True
|_=>False
section
variable {P:cR}{w:cu}{H:aA}{h h':b0}{x e:aj}{o':eW}
def fF.write(ok:fF P w H h)(lQ:wx (H x))(he:e=x\/H e=some (.own x))(k:∀b u,b≠e->h.get? b=some u->h'.get? b=some u)(uz:∃u,h'.get? e=some u)
  (new:h4 P w (upd H x o') h' x o'):fF P w (upd H x o') h':=λb u q=>by
 have NO:∀c y,H c=some (.own y)->c≠x:=λc y r z=>by subst z;rw[r] at lQ;exact lQ
 have ZC:∀c xs,H c=some (.tup xs)->c≠x:=λc xs r z=>by subst z;rw[r] at lQ;exact lQ
 by_cases ae:b=x
 ·subst ae;rw[dI] at q;cases q;exact new
 ·rw[cI ae] at q;by_cases sM:b=e
  ·have ed:H b=some (.own x):=by
    rcases he with z|z
    ·exact absurd (sM.trans z) ae
    ·rw[sM];exact z
   rw[q] at ed;cases ed;obtain⟨v,a5⟩:=uz;exact⟨v,by rw[sM];exact a5⟩
  ·refine (ok b u q).lh (λc v aD r=>k c v ?_ r) (λc r=>by rw[cI (NO c b r)];exact r) λc xs r=>by rw[cI (ZC c xs r)];exact r
   rcases aD with rfl|aD
   ·exact sM
   ·rintro rfl;rcases he with z|z
    ·exact NO c b aD z
    ·rw[aD] at z;cases z;exact ae rfl
end
structure hM(ay ex:List aj)(H ai:aA)(h h':b0):Prop where
 keep:∀b o,h.get? b=some o->H b=none->b∉ay->b∉ex->h'.get? b=some o
 slot:∀b o,h.get? b=some o->H b=none->b∈ay->b∉ex->∃dg,h'.get? b=some {o with slots:=dg}
 free:∀b o,h.get? b=some o->H b=none->b∉ex->ai b=none
 there:∀b o,h.get? b=some o->b∉ex->∃o',h'.get? b=some o'
 qi:∀b xs,H b=some (.tup xs)->ai b=some (.tup xs)
 oN:∀b o u,H b=some (.nS o u)->ai b=some (.nS o u)
 qg:∀b ps,H b=some (.lj ps)->∃more,ai b=some (.lj (ps++more))
section
variable {ay h_ ex ajp:List aj}{H H1 ba:aA}{h af ak h':b0}{a x e:aj}{o:eW}
def hM.any(u:hM ay ex H H1 h af){b:aj}{d6:Obj}(q:h.get? b=some d6)(n:H b=none)(hx:b∉ex):∃dg,af.get? b=some {d6 with slots:=dg}:=by
 by_cases ae:b∈ay
 ·exact u.slot b d6 q n ae hx
 ·exact⟨d6.slots,u.keep b d6 q n ae hx⟩
def hM.kept(k:∀b u,h.get? b=some u->h'.get? b=some u):hM ay ex H H h h':=
 ⟨λb d6 q _ _ _=>k b d6 q,λb d6 q _ _ _=>⟨d6.slots,k b d6 q⟩,λ_ _ _ n _=>n,λb d6 q _=>⟨d6,k b d6 q⟩,λ_ _ q=>q,λ_ _ _ q=>q,λ_ ps q=>⟨#[],by rw[q];simp⟩⟩
def hM.refl:hM ay ex H H h h:=hM.kept λ_ _ q=>q
def hM.laid(k:∀b u,h.get? b=some u->h'.get? b=some u)(aC:h.objs.size<=a)(a8:H a=none):hM ay ex H (upd H a o) h h' where
 keep:=λb u q _ _ _=>k b u q
 slot:=λb u q _ _ _=>⟨u.slots,k b u q⟩
 free:=λb u q n _=>by rw[cI (fD (km (c8 q) aC))];exact n
 there:=λb u q _=>⟨u,k b u q⟩
 qi:=λb xs q=>by rw[cI (jV q a8)];exact q
 oN:=λb u xs q=>by rw[cI (jV q a8)];exact q
 qg:=λb ps q=>⟨#[],by rw[cI (jV q a8),q];simp⟩
def hM.write(lQ:wx (H x))(he:e=x\/H e=some (.own x))(k:∀b u,b≠e->h.get? b=some u->h'.get? b=some u)(uz:∃u,h'.get? e=some u):hM ay ex H (upd H x o) h h':=by
 have hx:∀b,H b=none->b≠x:=λb n z=>by subst z;rw[n] at lQ;exact lQ
 have ae:∀b,H b=none->b≠e:=λb n z=>by
  subst z;rcases he with r|r
  ·exact hx b n r
  ·rw[n] at r;cases r
 have hm:∀b u,H b=some u->¬wx (some u)->b≠x:=λb u q nm z=>by subst z;rw[q] at lQ;exact nm lQ
 refine⟨λb u q n _ _=>k b u (ae b n) q,λb u q n _ _=>⟨u.slots,k b u (ae b n) q⟩,λb u q n _=>by rw[cI (hx b n)];exact n,λb u q _=>?_,
  λb xs q=>by rw[cI (hm b _ q λz=>z)];exact q,λb u xs q=>by rw[cI (hm b _ q λz=>z)];exact q,λb ps q=>⟨#[],by rw[cI (hm b _ q λz=>z),q];simp⟩⟩
 by_cases sM:b=e
 ·subst sM;exact uz
 ·exact⟨u,k b u sM q⟩
end
def BU(h:b0)(H:aA):List aj:=(List.range h.objs.size).filter λa=>(H a).isSome
def p4(h:b0)(H:aA):b0:=PySem.W.hideAll h (BU h H)
def afu(h:b0)(H:aA):(p4 h H).objs.size=h.objs.size:=PySem.W.hideAll_size _ _
def agl{h:b0}{H:aA}{b:aj}{o:Obj}(e:h.get? b=some o)(n:H b=none):(p4 h H).get? b=some o:=
 PySem.W.hideAll_get _ e λhm=>by
  have q:(H b).isSome=true:=(List.mem_filter.mp hm).2;rw[n] at q;simp at q
def ag8{h:b0}{H:aA}{b:aj}{o:Obj}(e:(p4 h H).get? b=some o):h.get? b=some o/\H b=none:=by
 have bT:h.get? b=some o:=PySem.W.of_hideAll (BU h H) e;refine⟨bT,?_⟩;cases q:H b with
|none=>rfl
|some x=>
  have hm:b∈BU h H:=List.mem_filter.mpr ⟨List.mem_range.mpr (c8 bT),by simp[q]⟩;have z:(p4 h H).get? b=none:=PySem.W.hideAll_none (BU h H) hm;rw[z] at e;cases e
noncomputable def ahq(g h:b0)(L:aj):List (aj×Obj):=(List.range h.objs.size).filterMap λa=>if a=L\/(g.get? a).isSome=true then none else (h.get? a).map λo=>(a,o)
noncomputable def rest(g h:b0)(L d:aj):List (aj×Obj):=(ahq g h L).filter λp=>decide (p.1≠d)
end bo
namespace bo
open PySem PySem.Spec PyProof.Rows
structure Mod(K:bl)(mg:Str->Option ao)(base:b0):Prop where
 xq:K.In base
 glob:base.Ns ajP mg
 blt:∃m_,base.Ns builtinsNs m_/\∀x:Str,x≠"__name__"->m_ x=bootBuiltins x
 nolimit:base.NoLimit
structure bh where
 prog:cR
 w:cu
 K:bl
 mg:Str->Option ao
 base:b0
 A:c9
 N:List Str
 c7:aP
 aK:aA
 env:Env
 outer:List Env
 stack:List Env
 ex:List aj
 fn:Str->Bool
 calm:Bool
 dp:List (aj×Obj)
 d1:ao->aP->Prop
def nR(l:List Env):List aj:=l.filterMap (·.frame)
abbrev bh.ay(X:bh):List aj:=nR X.outer
noncomputable def sm(sc:Scope)(x:Str):Prop:=sc.names.lookup x=some .local\/sc.names.lookup x=some .cell\/sc.names.lookup x=some .free
noncomputable def Loc(sc:Scope)(x:Str):Prop:=sc.names.lookup x=some .local\/sc.names.lookup x=some .cell
noncomputable def Look(env:Env)(h:b0)(m:Str->Option ao)(x:Str)(u:ao):Prop:=
 (env.kindOf x=some .local/\m x=some u)\/((env.kindOf x=some .cell\/env.kindOf x=some .free)/\∃c,env.cells.lookup x=some c/\h.IsCell c (some u))
structure bh.Ok(X:bh):Prop where
 mod:Mod X.K X.mg X.base
 kind:X.env.scope.kind=.function
 glob:X.env.globals=ajP
 blt:X.env.builtins=builtinsNs
 above:X.c7.heap.objs.size<=X.env.locals
 inj:∀x y c,X.env.cells.lookup x=some c->X.env.cells.lookup y=some c->x=y
 has:∀x,(X.env.kindOf x=some .cell\/X.env.kindOf x=some .free)->∃c,X.env.cells.lookup x=some c
 wI:∀x c,X.fn x=true->X.env.cells.lookup x=some c->X.c7.heap.objs.size<=c
 hd:X.calm=true->X.A.handled=none
 frames:X.A.frames=some X.stack
 BM:X.stack=X.outer\/(X.stack=X.env::X.outer/\X.env.frame=some X.env.locals)
 uv:∀b∈X.ex,b≠X.env.locals/\∀x c,X.env.cells.lookup x=some c->c≠b
 bs:∀b o,X.base.get? b=some o->X.c7.heap.get? b=some o/\X.aK b=none
 q4:X.base.objs.size<=X.c7.heap.objs.size
 xE:∀b o,X.base.get? b=some o->b∉X.ex
 uw:∀b∈X.ex,b∉X.ay
 m3:X.c7.heap.FunFrames X.base X.outer
 sz:∀b∈X.ay,X.aK b=none
structure Inv(X:bh)(ah:List (aj×Obj))(σ:List (Option V))(H:aA)(s:aP):Prop where
 ok:X.Ok
 os:s.os=X.c7.os
 bare:AllBare s.gens
 base:hM X.ay X.ex X.aK H X.c7.heap s.heap
 loc:∃m,s.heap.Ns X.env.locals m/\∀(i:Nat) (x:Str) (v:V),X.N[i]?=some x->σ[i]?=some (some v)->sm X.env.scope x->∃u,RelV v u/\Look X.env s.heap m x u
 cell:∀x c,X.env.cells.lookup x=some c->∃v,s.heap.IsCell c v
 free:H X.env.locals=none
 oM:∀x c,X.env.cells.lookup x=some c->H c=none
 pin:∀p∈X.dp++ah,s.heap.get? p.1=some p.2/\H p.1=none/\p.1≠X.env.locals/\p.1∉X.ay/\∀v,p.2.data≠.cell v
 b':fF X.prog X.w H s.heap
 len:σ.length=X.N.length
section
variable {X:bh}{ah:List (aj×Obj)}{σ:List (Option V)}{H ai:aA}{s:aP}{h':b0}
def bh.Ok.Zv(ok:X.Ok){b:aj}{o:Obj}(e:X.base.get? b=some o):b∉X.ay:=λae=>by
 have:=(ok.m3.mem ae).1;rw[e] at this;cases this
theorem Inv.bs(I:Inv X ah σ H s):∀b o,X.base.get? b=some o->s.heap.get? b=some o/\H b=none:=λb o e=>
 ⟨I.base.keep b o (I.ok.bs b o e).1 (I.ok.bs b o e).2 (I.ok.Zv e) (I.ok.xE b o e),I.base.free b o (I.ok.bs b o e).1 (I.ok.bs b o e).2 (I.ok.xE b o e)⟩
def Inv.iD(I:Inv X ah σ H s):∀b o,X.base.get? b=some o->s.heap.get? b=some o:=λb o e=>(I.bs b o e).1
theorem Inv.mod(I:Inv X ah σ H s):Mod X.K X.mg X.base:=I.ok.mod
def Inv.lO(I:Inv X ah σ H s):X.K.In s.heap:=I.ok.mod.xq.keeps I.iD
theorem Inv.lt(I:Inv X ah σ H s):X.env.locals<s.heap.objs.size:=let ⟨_,a8,_⟩:=I.loc;a8.lt
def Inv.i4(I:Inv X ah σ H s):X.c7.heap.objs.size<=s.heap.objs.size:=kn I.ok.above (Nat.le_of_lt I.lt)
def Inv.Zx(I:Inv X ah σ H s){a:aj}(h:s.heap.objs.size<=a):a∉X.ay:=λae=>by
 obtain⟨_,o,aE,_⟩:=I.ok.m3.mem ae;exact absurd (km (c8 aE) (kn I.i4 h)) (Nat.lt_irrefl _)
def Inv.sx(I:Inv X ah σ H s):∀x c,X.env.cells.lookup x=some c->c≠X.env.locals:=λx c e z=>by
 obtain⟨v,o,aE,hd⟩:=I.cell x c e;obtain⟨m,⟨o',es,ep,k7,Gd,_⟩,_⟩:=I.loc;rw[z,k7] at aE;cases aE;rw[Gd] at hd;cases hd
theorem Inv.m3(I:Inv X ah σ H s):s.heap.FunFrames X.base X.outer:=by
 have all:∀(l:List Env),(∀b∈nR l,b∈X.ay)->X.c7.heap.FunFrames X.base l->s.heap.FunFrames X.base l:=by
  intro l
  induction l with
  |nil=>intro _ _;trivial
  |cons env r b2=>
   intro av aw;obtain⟨aH,⟨L,o,hf,a8,aE,hd⟩,ar⟩:=aw;have ia:L∈X.ay:=av L (by unfold nR;rw[List.filterMap_cons,hf];exact e8);obtain⟨dg,e⟩:=I.base.slot L o aE (I.ok.sz L ia) ia λz=>I.ok.uw L z ia;exact⟨aH,⟨L,_,hf,a8,e,hd⟩,b2 (λb ae=>av b (by unfold nR;rw[List.filterMap_cons,hf];exact dM _ ae)) ar⟩
 exact all X.outer (λ_ ae=>ae) I.ok.m3
theorem Inv.stack(I:Inv X ah σ H s):s.heap.FunFrames X.base X.stack:=by
 rcases I.ok.BM with e|⟨e,hf⟩
 ·rw[e];exact I.m3
 ·rw[e];obtain⟨m,a8,_⟩:=I.loc;refine .cons (by rw[I.ok.kind];decide) hf a8 ?_ I.m3;exact Heap.get?_none_of_le (kn I.ok.q4 I.ok.above)
def Inv.BN(I:Inv X ah σ H s):∀b∈nR X.stack,b∈X.env.locals::X.ay:=λb ae=>by
 rcases I.ok.BM with e|⟨e,hf⟩
 ·rw[e] at ae;exact dM _ ae
 ·rw[e] at ae;unfold nR at ae;rw[List.filterMap_cons,hf] at ae;exact ae
def Inv.Ob(I:Inv X ah σ H s):∀b∈nR X.stack,H b=none:=λb ae=>by
 rcases cZ.mp (I.BN b ae) with e|ae
 ·rw[e];exact I.free
 ·obtain⟨_,o,aE,_⟩:=I.ok.m3.mem ae;exact I.base.free b o aE (I.ok.sz b ae) λz=>I.ok.uw b z ae
def Inv.step{g':Array GenState}{t':Nat}{d':Drawn}{ch:List aj}(I:Inv X ah σ H s)
  (ra:∀b∈ch,(b∈X.ex\/X.c7.heap.objs.size<=b)/\b≠X.env.locals/\(∀x c,X.env.cells.lookup x=some c->c≠b)/\∀p∈X.dp++ah,p.1≠b)
  (keep:∀b o,b≠X.env.locals->b∉X.ay->b∉ch->s.heap.get? b=some o->H b=none->h'.get? b=some o)
  (slot:∀b o,b≠X.env.locals->b∈X.ay->b∉ch->s.heap.get? b=some o->H b=none->∃dg,h'.get? b=some {o with slots:=dg}) (free:∀b o,b∉ch->s.heap.get? b=some o->H b=none->ai b=none)
  (there:∀b o,b∉ch->s.heap.get? b=some o->∃o',h'.get? b=some o')
  (qi:∀b xs,H b=some (.tup xs)->ai b=some (.tup xs)) (oN:∀b o u,H b=some (.nS o u)->ai b=some (.nS o u)) (qg:∀b ps,H b=some (.lj ps)->∃more,ai b=some (.lj (ps++more)))
  (ns:∀m,s.heap.Ns X.env.locals m->h'.Ns X.env.locals m) (b':fF X.prog X.w ai h') (br:AllBare g'):
  Inv X ah σ ai {s with heap:=h',gens:=g',drawn:=d',toks:=t'}:=by
 have NK:∀b o,X.c7.heap.get? b=some o->b≠X.env.locals:=λb o e=>fD (km (c8 e) I.ok.above);have Bu:∀b o,X.c7.heap.get? b=some o->b∉X.ex->b∉ch:=λb o e hx ae=>by
  rcases (ra b ae).1 with z|z
  ·exact hx z
  ·exact absurd (km (c8 e) z) (Nat.lt_irrefl _)
 have cellK:∀x c,X.env.cells.lookup x=some c->∀v,s.heap.IsCell c v->h'.IsCell c v:=λx c e v ⟨o,aE,hd⟩=>by
  have xB:c∉ch:=λz=>(ra c z).2.2.1 x c e rfl;by_cases aD:c∈X.ay
  ·obtain⟨dg,q⟩:=slot c o (I.sx x c e) aD xB aE (I.oM x c e);exact⟨_,q,hd⟩
  ·exact⟨o,keep c o (I.sx x c e) aD xB aE (I.oM x c e),hd⟩
 refine⟨I.ok,I.os,br,⟨λb o e n ae hx=>?_,λb o e n ae hx=>?_,λb o e n hx=>?_,λb o e hx=>?_,λb xs e=>qi b xs (I.base.qi b xs e),λb o xs e=>oN b o xs (I.base.oN b o xs e),λb ps e=>?_⟩,?_,λx c e=>?_,?_,λx c e=>?_,λp aC=>?_,b',I.len⟩
 ·exact keep b o (NK b o e) ae (Bu b o e hx) (I.base.keep b o e n ae hx) (I.base.free b o e n hx)
 ·obtain⟨dg,aQ⟩:=I.base.slot b o e n ae hx;obtain⟨abu,a9⟩:=slot b _ (NK b o e) ae (Bu b o e hx) aQ (I.base.free b o e n hx);exact⟨abu,a9⟩
 ·obtain⟨o',aQ⟩:=I.base.there b o e hx;exact free b o' (Bu b o e hx) aQ (I.base.free b o e n hx)
 ·obtain⟨o',aQ⟩:=I.base.there b o e hx;exact there b o' (Bu b o e hx) aQ
 ·obtain⟨jN,aQ⟩:=I.base.qg b ps e;obtain⟨lP,a9⟩:=qg b _ aQ;exact⟨jN++lP,by rw[a9,Array.append_assoc]⟩
 ·obtain⟨m,a8,aw⟩:=I.loc;refine⟨m,ns m a8,λi x v aQ a9 gc=>?_⟩;obtain⟨u,r,l⟩:=aw i x v aQ a9 gc;refine⟨u,r,?_⟩;rcases l with l|⟨k,c,e,z⟩
  ·exact .inl l
  ·exact .inr ⟨k,c,e,cellK x c e _ z⟩
 ·obtain⟨v,z⟩:=I.cell x c e;exact⟨v,cellK x c e v z⟩
 ·obtain⟨m,⟨o,_,_,aE,_⟩,_⟩:=I.loc;exact free _ o (λz=>(ra _ z).2.1 rfl) aE I.free
 ·obtain⟨v,o,aE,hd⟩:=I.cell x c e;exact free c o (λz=>(ra c z).2.2.1 x c e rfl) aE (I.oM x c e)
 ·obtain⟨e,n,ne,gf,d⟩:=I.pin p aC;have xB:p.1∉ch:=λz=>(ra p.1 z).2.2.2 p aC rfl;exact⟨keep p.1 p.2 ne gf xB e n,free p.1 p.2 xB e n,ne,gf,d⟩
def Inv.un{t':Nat}(I:Inv X ah σ H s)(u:hM X.ay [] H ai s.heap h')(b':fF X.prog X.w ai h'):Inv X ah σ ai {s with heap:=h',toks:=t'}:=by
 obtain⟨m,⟨o,es,ep,aE,r⟩,_⟩:=id I.loc;obtain⟨dg,ia⟩:=u.any aE I.free (by simp);exact I.step (g':=s.gens) (d':=s.drawn) (ch:=[]) (λ_ z=>nomatch z) (λb o _ ae _ e n=>u.keep b o e n ae (by simp)) (λb o _ ae _ e n=>u.slot b o e n ae (by simp)) (λb o _ e n=>u.free b o e n (by simp)) (λb o _ e=>u.there b o e (by simp)) u.qi u.oN u.qg (λmw hm=>by
  obtain⟨o',fm,Fz,k7,cw⟩:=hm;rw[aE] at k7;cases k7;exact⟨_,fm,Fz,ia,cw⟩) b' I.bare
def Inv.call{g':Array GenState}{t':Nat}{d':Drawn}{ch:List aj}(I:Inv X ah σ H s)(u:hM (nR X.stack) ch H ai s.heap h')(b':fF X.prog X.w ai h')(br:AllBare g')
  (ra:∀b∈ch,(b∈X.ex\/X.c7.heap.objs.size<=b)/\b≠X.env.locals/\(∀x c,X.env.cells.lookup x=some c->c≠b)/\∀p∈X.dp++ah,p.1≠b):
  Inv X ah σ ai {s with heap:=h',gens:=g',drawn:=d',toks:=t'}:=by
 obtain⟨m,⟨o,es,ep,aE,r⟩,_⟩:=id I.loc;obtain⟨dg,ia⟩:=u.any aE I.free λz=>(ra _ z).2.1 rfl;exact I.step (ch:=ch) ra (λb o ia ae aD e n=>u.keep b o e n (λz=>(cZ.mp (I.BN b z)).elim ia ae) aD) (λb o _ _ aD e n=>u.any e n aD) (λb o aD e n=>u.free b o e n aD) (λb o aD e=>u.there b o e aD) u.qi u.oN u.qg (λmw hm=>by
  obtain⟨o',fm,Fz,k7,cw⟩:=hm;rw[aE] at k7;cases k7;exact⟨_,fm,Fz,ia,cw⟩) b' br
def Inv.turned{t':Nat}{it:aj}(I:Inv X ah σ H s)(k:∀b o,b≠it->s.heap.get? b=some o->h'.get? b=some o)(a8:H it=none)(ia:it≠X.env.locals)
  (af:it∈X.ex\/X.c7.heap.objs.size<=it) (ak:∀x c,X.env.cells.lookup x=some c->c≠it) (bA:∀p∈X.dp++ah,p.1≠it):Inv X ah σ H {s with heap:=h',toks:=t'}:=by
 have NM:∀b u,H b=some u->b≠it:=λb u e z=>by rw[z,a8] at e;cases e
 refine I.step (g':=s.gens) (d':=s.drawn) (ch:=[it]) (λb ae=>?_) (λb o _ _ aD e _=>k b o (λz=>aD (by simp[z])) e) (λb o _ _ aD e _=>⟨o.slots,k b o (λz=>aD (by simp[z])) e⟩) (λ_ _ _ _ n=>n)
  (λb o aD e=>⟨o,k b o (λz=>aD (by simp[z])) e⟩) (λ_ _ e=>e) (λ_ _ _ e=>e) (λb ps e=>⟨#[],by rw[e];simp⟩) (λm hm=>?_) (λb u e=>?_) I.bare
 ·have e:b=it:=by simpa using ae
  subst e;exact⟨af,ia,ak,bA⟩
 ·obtain⟨o,es,ep,aE,r⟩:=hm;exact⟨o,es,ep,k _ o (Ne.symm ia) aE,r⟩
 ·refine (I.b' b u e).lh (λc v aD q=>k c v ?_ q) (λ_ q=>q) λ_ _ q=>q
  rcases aD with z|z
  ·rw[z];exact NM b u e
  ·exact NM c _ z
def Inv.tok(I:Inv X ah σ H s)(t:Nat):Inv X ah σ H {s with toks:=t}:=I.un (h':=s.heap) (t':=t) hM.refl I.b'
theorem Inv.kept{t':Nat}(I:Inv X ah σ H s)(k:∀b u,s.heap.get? b=some u->h'.get? b=some u):Inv X ah σ H {s with heap:=h',toks:=t'}:=I.un (hM.kept k) (I.b'.kept k)
theorem Inv.laid{a:aj}{o:eW}{t':Nat}(I:Inv X ah σ H s)(k:∀b u,s.heap.get? b=some u->h'.get? b=some u)(aC:s.heap.objs.size<=a)(new:h4 X.prog X.w (upd H a o) h' a o):
  Inv X ah σ (upd H a o) {s with heap:=h',toks:=t'}:=I.un (hM.laid k aC (I.b'.fresh aC)) (I.b'.laid k aC new)
theorem Inv.write{x e:aj}{o:eW}{t':Nat}(I:Inv X ah σ H s)(lQ:wx (H x))(he:e=x\/H e=some (.own x))(k:∀b u,b≠e->s.heap.get? b=some u->h'.get? b=some u)(uz:∃u,h'.get? e=some u)
  (new:h4 X.prog X.w (upd H x o) h' x o):Inv X ah σ (upd H x o) {s with heap:=h',toks:=t'}:=I.un (hM.write lQ he k uz) (I.b'.write lQ he k uz new)
def Inv.NV{NU:List (aj×Obj)}(I:Inv X ah σ H s)(h:∀p∈NU,s.heap.get? p.1=some p.2/\H p.1=none/\p.1≠X.env.locals/\p.1∉X.ay/\∀v,p.2.data≠.cell v):Inv X NU σ H s:=
 ⟨I.ok,I.os,I.bare,I.base,I.loc,I.cell,I.free,I.oM,λp aC=>(ju.mp aC).elim (λz=>I.pin p (List.mem_append_left _ z)) (h p),I.b',I.len⟩
def QH{N:List Str}(e5:N.Nodup){i j:Nat}{x:Str}(a:N[i]?=some x)(b:N[j]?=some x):i=j:=by
 obtain⟨af,aQ⟩:=fC.mp a;obtain⟨ak,a9⟩:=fC.mp b;exact (List.getElem_inj e5).mp (aQ.trans a9.symm)
def PN{M:Model}{A:c9}{E:ao->aP->Prop}{i:Nat}{x:Str}{v:V}{u:ao}{Q:Unit->aP->Prop}(I:Inv X ah σ H s)(e5:X.N.Nodup)(aS:X.N[i]?=some x)(hx:Loc X.env.scope x)(r:RelV v u)
  (h:∀s',Inv X ah (σ.set i (some v)) H s'->(∃a,Heap.SameBut a s.heap s'.heap/\(a=X.env.locals\/X.env.cells.lookup x=some a))->Q () s') (hf:X.fn x=true\/X.env.scope.names.lookup x=some .local:=by first|exact .inl rfl|exact .inr rfl|assumption):bG M A (storeName X.env x u) Q E s:=by
 obtain⟨m,a8,aw⟩:=id I.loc;have Xx:(X.env.scope.kind==.class || (X.env.scope.kind==.module && X.env.locals != X.env.globals))=false:=by rw[I.ok.kind];rfl
 have Nf:i<σ.length:=by rw[I.len];exact (fC.mp aS).1
 have sx:=I.sx;have tracked:∀{a:aj} {h':b0},(∃o,s.heap.get? a=some o/\H a=none)->Heap.SameBut a s.heap h'->fF X.prog X.w H h':=λ{a h'} ax av b d6 e=>by
  obtain⟨_,_,Nc⟩:=ax;refine (I.b' b d6 e).lh (λc f7 aD q=>(av.2 c ?_).trans q) (λ_ q=>q) λ_ _ q=>q;rintro rfl;rcases aD with rfl|aD
  ·rw[Nc] at e;cases e
  ·rw[Nc] at aD;cases aD
 rcases hx with aH|aH
 ·refine wpAny_storeName_local aH a8 (λh' X5 av=>?_) Xx
  obtain⟨ZD,_,_,w',_⟩:=id a8;refine h _ ⟨I.ok,I.os,I.bare,⟨λb o e n ae hx=>?_,λb o e n ae hx=>?_,I.base.free,λb o e hx=>?_,I.base.qi,I.base.oN,I.base.qg⟩,⟨_,X5,λj y kI aQ a9 gc=>?_⟩,λy c e=>?_,I.free,I.oM,λp aC=>?_,tracked ⟨ZD,w',I.free⟩ av,by simpa using I.len⟩ ⟨_,av,.inl rfl⟩
  ·exact (av.2 b (fD (km (c8 e) I.ok.above))).trans (I.base.keep b o e n ae hx)
  ·obtain⟨dg,aQ⟩:=I.base.slot b o e n ae hx;exact⟨dg,(av.2 b (fD (km (c8 e) I.ok.above))).trans aQ⟩
  ·obtain⟨o',aQ⟩:=I.base.there b o e hx;exact⟨o',(av.2 b (fD (km (c8 e) I.ok.above))).trans aQ⟩
  ·by_cases bw:j=i
   ·subst bw;rw[aS] at aQ;cases aQ;rw[List.getElem?_set_self Nf] at a9;cases a9;exact⟨u,r,.inl ⟨aH,by simp⟩⟩
   ·rw[List.getElem?_set_ne (Ne.symm bw)] at a9;obtain⟨x5,cw,q⟩:=aw j y kI aQ a9 gc;refine⟨x5,cw,?_⟩;rcases q with ⟨k,e⟩|⟨k,c,e,z⟩
    ·refine .inl ⟨k,?_⟩
     have:y≠x:=λe=>bw (QH e5 aQ (e▸aS));simp[this,e]
    ·exact .inr ⟨k,c,e,z.sameBut av (sx y c e)⟩
  ·obtain⟨f7,z⟩:=I.cell y c e;exact⟨f7,z.sameBut av (sx y c e)⟩
  ·obtain⟨e,n,ne,gf,d⟩:=I.pin p aC;exact⟨(av.2 p.1 ne).trans e,n,ne,gf,d⟩
 ·have Gi:X.fn x=true:=by
   rcases hf with z|z
   ·exact z
   ·rw[z] at aH;cases aH
  obtain⟨c,aD⟩:=I.ok.has x (.inl aH);obtain⟨f7,z⟩:=I.cell x c aD;refine wpAny_storeName_cell I.ok.kind aH aD z (λh' dP av=>?_);obtain⟨kf,Nh,X9⟩:=id z;refine h {s with heap:=h'} ⟨I.ok,I.os,I.bare,⟨λb o e n ae hx=>?_,λb o e n ae hx=>?_,I.base.free,λb o e hx=>?_,I.base.qi,I.base.oN,I.base.qg⟩,⟨m,a8.sameBut av (Ne.symm (sx x c aD)),λj y kI aQ a9 gc=>?_⟩,λy dY e=>?_,I.free,I.oM,λp aC=>?_,tracked ⟨kf,Nh,I.oM x c aD⟩ av,by simpa using I.len⟩ ⟨c,av,.inr aD⟩
  ·exact (av.2 b (fD (km (c8 e) (I.ok.wI x c Gi aD)))).trans (I.base.keep b o e n ae hx)
  ·obtain⟨dg,aQ⟩:=I.base.slot b o e n ae hx;exact⟨dg,(av.2 b (fD (km (c8 e) (I.ok.wI x c Gi aD)))).trans aQ⟩
  ·obtain⟨o',aQ⟩:=I.base.there b o e hx;exact⟨o',(av.2 b (fD (km (c8 e) (I.ok.wI x c Gi aD)))).trans aQ⟩
  ·by_cases bw:j=i
   ·subst bw;rw[aS] at aQ;cases aQ;rw[List.getElem?_set_self Nf] at a9;cases a9;exact⟨u,r,.inr ⟨.inl aH,c,aD,dP⟩⟩
   ·rw[List.getElem?_set_ne (Ne.symm bw)] at a9;obtain⟨x5,cw,q⟩:=aw j y kI aQ a9 gc;refine⟨x5,cw,?_⟩;rcases q with q|⟨k,dY,e,lu⟩
    ·exact .inl q
    ·refine .inr ⟨k,dY,e,lu.sameBut av ?_⟩
     rintro rfl;exact bw (QH e5 aQ (I.ok.inj _ _ _ e aD▸aS))
  ·by_cases M7:dY=c
   ·subst M7;exact⟨_,dP⟩
   ·obtain⟨uS,ir⟩:=I.cell y dY e;exact⟨uS,ir.sameBut av M7⟩
  ·obtain⟨e,n,ne,gf,d⟩:=I.pin p aC;refine⟨(av.2 p.1 ?_).trans e,n,ne,gf,d⟩;intro q;rw[q,Nh] at e;have ed:kf=p.2:=en e;exact d f7 (by rw[<- ed];exact X9)
def Qx{M:Model}{A:c9}{E:ao->aP->Prop}{i:Nat}{x:Str}{v:V}{u:ao}{Q:Unit->aP->Prop}(I:Inv X ah σ H s)(e5:X.N.Nodup)(aS:X.N[i]?=some x)(hx:Loc X.env.scope x)(r:RelV v u)
  (h:∀s',Inv X ah (σ.set i (some v)) H s'->Q () s') (hf:X.fn x=true\/X.env.scope.names.lookup x=some .local:=by first|exact .inl rfl|exact .inr rfl|assumption):bG M A (storeName X.env x u) Q E s:=
 PN I e5 aS hx r (λs' qU _=>h s' qU) hf
end
abbrev gN:=ao->Option aj->aA->Prop
abbrev St:=List (Option V)
abbrev dx:=V->aA->Prop
abbrev TE:=St->aA->dx->Prop
abbrev TT:=St->aA->(Bool->aA->Prop)->Prop
abbrev f':=St->aA->(List V->aA->Prop)->Prop
structure Ends where
 bY:St->aA->Prop
 fa:dx
 iD:St->aA->Prop:=λ_ _=>False
 e':St->aA->Prop:=λ_ _=>False
abbrev hL:=Ends->St->aA->Prop
noncomputable def ix(X:bh)(ah:List (aj×Obj))(σ:St)(Q:dx)(u:ao)(s':aP):Prop:=∃v ai,Inv X ah σ ai s'/\RelV v u/\Q v ai
noncomputable def z1(X:bh)(ah:List (aj×Obj))(σ:St)(Q:Bool->aA->Prop)(b:Bool)(s':aP):Prop:=∃ai,Inv X ah σ ai s'/\Q b ai
noncomputable def Ly(X:bh)(ah:List (aj×Obj))(σ:St)(Q:List V->aA->Prop)(us:List ao)(s':aP):Prop:=∃vs ai,Inv X ah σ ai s'/\Vals vs us/\Q vs ai
noncomputable def sl(X:bh)(ah:List (aj×Obj))(D:Ends)(f:Flow)(s':aP):Prop:=
 match f with
|.next=>∃cn ai,Inv X ah cn ai s'/\D.bY cn ai
|.brk=>∃cn ai,Inv X ah cn ai s'/\D.iD cn ai
|.cont=>∃cn ai,Inv X ah cn ai s'/\D.e' cn ai
|.ret u=>∃v cn ai,Inv X ah cn ai s'/\RelV v u/\D.fa v ai
noncomputable def bO(X:bh)(e:bf)(t:TE):Prop:=
 ∀(ah:List (aj×Obj)) (s:aP) (σ:St) (H:aA) (Q:dx),Inv X ah σ H s->t σ H Q->bG (bR X.prog X.w) X.A (eval e X.env) (ix X ah σ Q) X.d1 s
noncomputable def lF(X:bh)(e:bf)(t:TT):Prop:=
 ∀(ah:List (aj×Obj)) (s:aP) (σ:St) (H:aA) (Q:Bool->aA->Prop),Inv X ah σ H s->t σ H Q->bG (bR X.prog X.w) X.A (isTrue e X.env (eval e X.env)) (z1 X ah σ Q) X.d1 s
noncomputable def nK(X:bh)(e:bf)(t:TT):Prop:=
 ∀(whole:Sem ao) (ah:List (aj×Obj)) (s:aP) (σ:St) (H:aA) (Q:Bool->aA->Prop),Inv X ah σ H s->t σ H Q->bG (bR X.prog X.w) X.A (isTrue e X.env whole) (z1 X ah σ Q) X.d1 s
def nK.pt{X:bh}{e:bf}{t:TT}(h:nK X e t):lF X e t:=h _
noncomputable def h5(X:bh)(es:List bf)(t:f'):Prop:=
 ∀(pos:Pos) (ah:List (aj×Obj)) (s:aP) (σ:St) (H:aA) (Q:List V->aA->Prop),Inv X ah σ H s->t σ H Q->bG (bR X.prog X.w) X.A (spliced (dR pos (bB es X.env))) (Ly X ah σ Q) X.d1 s
noncomputable def ky(X:bh)(st:Stmt)(t:hL):Prop:=
 ∀(ah:List (aj×Obj)) (s:aP) (σ:St) (H:aA) (D:Ends),Inv X ah σ H s->t D σ H->bG (bR X.prog X.w) X.A (exec st X.env) (sl X ah D) X.d1 s
noncomputable def kY(X:bh)(st:List Stmt)(t:hL):Prop:=
 ∀(ah:List (aj×Obj)) (s:aP) (σ:St) (H:aA) (D:Ends),Inv X ah σ H s->t D σ H->bG (bR X.prog X.w) X.A (execs st X.env) (sl X ah D) X.d1 s
def ct{α:Type}{t:Sem α}{Q LS:α->aP->Prop}{M:Model}{A:c9}{E:ao->aP->Prop}{s:aP}(h:bG M A t Q E s)(jk:∀a s,Q a s->LS a s):bG M A t LS E s:=gv h jk λ_ _ x=>x
end bo
namespace bo
open PySem PySem.Spec PyProof.Rows
section
variable {X:bh}
def gJ(i:Nat):TE:=λσ H Q=>∃v,σ[i]?=some (some v)/\Q v H
def uO(v:V):TE:=λ_ H Q=>Q v H
def ahU{i:Nat}{x:Str}{pos:Pos}(e5:X.N[i]?=some x)(a5:sm X.env.scope x)(hd:(x==("__debug__":Str))=false:=by decide)(j':(x==("__classdict__":Str))=false:=by decide):bO X (.Name x pos) (gJ i):=by
 intro ah s σ H Q I h;obtain⟨v,e,h⟩:=h;obtain⟨m,a8,aw⟩:=I.loc;obtain⟨u,r,l⟩:=aw i x v e5 e a5;have fin:ix X ah σ Q u s:=⟨v,H,I,r,h⟩;rcases l with ⟨aH,hm⟩|⟨aH,c,aD,uy⟩
 ·exact wpAny_Name (wpAny_loadName_local I.ok.kind aH a8 hm fin) hd
 ·rcases aH with aH|aH
  ·exact wpAny_Name (wpAny_loadName_cell I.ok.kind aH aD uy fin) hd
  ·exact wpAny_Name (wpAny_loadName_free I.ok.kind aH aD uy fin j') hd
def ah0{i j pos}:bO X (.Constant (.int i) j pos) (uO (.int i)):=λ_ _ _ H _ I h=>wpAny_Constant_int ⟨.int i,H,I.tok _,⟨_,rfl⟩,h⟩
def ai4{b j pos}:bO X (.Constant (.bool b) j pos) (uO (.dr b)):=λ_ _ _ H _ I h=>Constant_bool ⟨.dr b,H,I,rfl,h⟩
def ahY{j pos}:bO X (.Constant .none j pos) (uO .gH):=λ_ _ _ H _ I h=>Constant_none ⟨.gH,H,I,rfl,h⟩
def ahW{x j pos}:bO X (.Constant (.str x) j pos) (uO (.str x)):=λ_ _ _ H _ I h=>Calls.Constant_str ⟨.str x,H,I.tok _,⟨_,rfl⟩,h⟩
def fi(X:bh)(x:Str):Prop:=X.env.kindOf x=some .globalImplicit
def KY{E:ao->aP->Prop}{ah:List (aj×Obj)}{s:aP}{σ:St}{H:aA}{x:Str}{u:ao}{pos:Pos}{Q:ao->aP->Prop}(I:Inv X ah σ H s)(br:fi X x)(hm:X.mg x=some u)(h:Q u s)
  (hd:(x==("__debug__":Str))=false:=by decide):bG (bR X.prog X.w) X.A (eval (.Name x pos) X.env) Q E s:=
 Calls.Name_function_global I.ok.kind br (Calls.loadGlobal_global (by rw[I.ok.glob];exact I.mod.glob.keeps I.iD) hm h) hd
def tY{E:ao->aP->Prop}{ah:List (aj×Obj)}{s:aP}{σ:St}{H:aA}{x:Str}{u:ao}{pos:Pos}{Q:ao->aP->Prop}(I:Inv X ah σ H s)(br:fi X x)(hm:X.mg x=none)(a5:bootBuiltins x=some u)(h:Q u s)
  (a8:x≠"__name__":=by decide) (hd:(x==("__debug__":Str))=false:=by decide):bG (bR X.prog X.w) X.A (eval (.Name x pos) X.env) Q E s:=by
 obtain⟨m_,af,ak⟩:=I.mod.blt;exact Calls.Name_function_global I.ok.kind br (Calls.loadGlobal_builtin (by rw[I.ok.glob];exact I.mod.glob.keeps I.iD) hm (by rw[I.ok.blt];exact af.keeps I.iD) ((ak x a8).trans a5) h) hd
def Q'{x:Str}{v:V}{u:ao}{pos:Pos}(br:fi X x)(hm:X.mg x=some u)(r:RelV v u)(hd:(x==("__debug__":Str))=false:=by decide):bO X (.Name x pos) (uO v):=
 λ_ _ _ H _ I h=>KY I br hm ⟨v,H,I,r,h⟩ hd
variable {a b:bf}{cD fq:TE}{pos:Pos}
noncomputable def LN(X:bh)(op:CmpOp)(a b:bf)(t:TE):Prop:=
 ∀(ah:List (aj×Obj)) (s:aP) (σ:St) (H:aA) (Q:dx),Inv X ah σ H s->t σ H Q ->
  bG (bR X.prog X.w) X.A (eval a X.env) (λv dH=>bG (bR X.prog X.w) X.A (eval b X.env) (λu ng=>bG (bR X.prog X.w) X.A (jv op v u) (ix X ah σ Q) X.d1 ng) X.d1 dH) X.d1 s
def aga(b:bf){op:CmpOp}(h:op≠.In)(ak:op≠.NotIn):qu op b=false:=by
 have aQ:(op==CmpOp.In)=false:=by cases op <;> first|rfl|exact absurd rfl h
 have a9:(op==CmpOp.NotIn)=false:=by cases op <;> first|rfl|exact absurd rfl ak
 cases b <;> simp[qu,aQ,a9]
def acy(cD:TE):TE:=λσ H Q=>cD σ H λx H1=>Q (.dr (decide (x=.gH))) H1
def RelV.Zy{x:V}{v:ao}(r:RelV x v):(v==Value.none)=decide (x=.gH):=by
 cases x with
|gH=>cases r;rfl
|dr _=>cases r;rfl
|int _=>obtain⟨t,rfl⟩:=r;rfl
|str _=>obtain⟨t,rfl⟩:=r;rfl
|sr _=>obtain⟨t,rfl⟩:=r;rfl
|wQ _=>obtain⟨t,rfl⟩:=r;rfl
|ref _=>cases r;rfl
|ty _=>cases r;rfl
def ah3{j pos'}(ax:bO X a cD):LN X .Is a (.Constant .none j pos') (acy cD):=by
 intro ah s σ H Q I h;refine ct (ax ah s σ H _ I h) λv s1 ⟨x,H1,bE,bg,aO⟩=>?_;exact Constant_none (is_none_gen ⟨.dr _,H1,bE,by rw[bg.Zy];rfl,aO⟩)
def Om(t:TE):TT:=λσ H Q=>t σ H λx H1=>∃c,x=.dr c/\Q c H1
def ahR{op:CmpOp}{t:TE}(h:LN X op a b t)(af:qu op b=false:=by first|exact aga _ (by decide) (by decide)|rfl):lF X (.Compare a [op] [b] pos) (Om t):=by
 intro ah s σ H Q I hw;refine wpAny_isTrue_Compare1 (ct (h ah s σ H _ I hw) λv s1 af=>ct af λu s2 ak=>ct ak λc s3 ⟨x,H1,bE,bg,aO⟩=>?_) af;obtain⟨d,rfl,q⟩:=aO;cases bg;exact tu ⟨H1,bE,q⟩
def ahQ{e:bf}{t:TE}(h:bO X e t)(he:∀whole,isTrue e X.env whole=(do let v <- whole;standAt e.pos;holding [v] (truthy v)):=by intro _;rfl):lF X e (Om t):=by
 intro ah s σ H Q I hw;refine isTrue_plain (ct (h ah s σ H _ I hw) λv s1 ⟨x,H1,bE,bg,aO⟩=>?_) (he _);obtain⟨d,rfl,q⟩:=aO;cases bg;exact tu ⟨H1,bE,q⟩
variable {o1 BP:TT}{rest:List bf}
def acp(t u:TT):TT:=λσ H Q=>t σ H λc H1=>if c=true then u σ H1 Q else Q false H1
def acB(t u:TT):TT:=λσ H Q=>t σ H λc H1=>if c=true then Q true H1 else u σ H1 Q
def agQ(ax:lF X a o1):nK X (.BoolOp .And [a] pos) o1:=by
 intro x8 ah s σ H Q I h;refine isTrue_and (ct (ax ah s σ H Q I h) λc s1 e=>?_);cases c with
|true=>exact isTrue_and_nil e
|false=>exact e
def ahM(ax:lF X a o1):nK X (.BoolOp .Or [a] pos) o1:=by
 intro x8 ah s σ H Q I h;refine isTrue_or (ct (ax ah s σ H Q I h) λc s1 e=>?_);cases c with
|false=>exact isTrue_or_nil e
|true=>exact e
def ahN(ax:lF X a o1)(ae:nK X (.BoolOp .And (b::rest) pos) BP):nK X (.BoolOp .And (a::b::rest) pos) (acp o1 BP):=by
 intro x8 ah s σ H Q I h;refine isTrue_and (ct (ax ah s σ H _ I h) λc s1 ⟨H1,bE,aO⟩=>?_);cases c with
|true=>exact ae x8 ah s1 σ H1 Q bE aO
|false=>exact⟨H1,bE,aO⟩
def ai0(ax:lF X a o1)(ae:nK X (.BoolOp .Or (b::rest) pos) BP):nK X (.BoolOp .Or (a::b::rest) pos) (acB o1 BP):=by
 intro x8 ah s σ H Q I h;refine isTrue_or (ct (ax ah s σ H _ I h) λc s1 ⟨H1,bE,aO⟩=>?_);cases c with
|true=>exact⟨H1,bE,aO⟩
|false=>exact ae x8 ah s1 σ H1 Q bE aO
noncomputable def aiK(cD fq:TE):TE:=λσ H Q=>cD σ H λx H1=>∃c,x=.dr c/\if c=true then fq σ H1 Q else Q (.dr false) H1
noncomputable def acC(cD fq:TE):TE:=λσ H Q=>cD σ H λx H1=>∃c,x=.dr c/\if c=true then Q (.dr true) H1 else fq σ H1 Q
def aiC(cD:TE):TE:=λσ H Q=>cD σ H λx H1=>∃c,x=.dr c/\Q (.dr (!c)) H1
def RU{op}{t:TE}(h:bO X a t):bO X (.BoolOp op [a] pos) t:=λah s σ H Q I hw=>BoolOp_one (h ah s σ H Q I hw)
def ah2(ax:bO X a cD)(ae:bO X (.BoolOp .And (b::rest) pos) fq):bO X (.BoolOp .And (a::b::rest) pos) (aiK cD fq):=by
 intro ah s σ H Q I h;refine BoolOp_and (ct (ax ah s σ H _ I h) λv s1 ⟨x,H1,bE,bg,aO⟩=>?_);obtain⟨c,rfl,aO⟩:=aO;cases bg;refine tu ?_;cases c with
|true=>exact ae ah s1 σ H1 Q bE aO
|false=>exact⟨.dr false,H1,bE,rfl,aO⟩
def ai2(ax:bO X a cD)(ae:bO X (.BoolOp .Or (b::rest) pos) fq):bO X (.BoolOp .Or (a::b::rest) pos) (acC cD fq):=by
 intro ah s σ H Q I h;refine BoolOp_or (ct (ax ah s σ H _ I h) λv s1 ⟨x,H1,bE,bg,aO⟩=>?_);obtain⟨c,rfl,aO⟩:=aO;cases bg;refine tu ?_;cases c with
|false=>exact ae ah s1 σ H1 Q bE aO
|true=>exact⟨.dr true,H1,bE,rfl,aO⟩
def ahX(ax:bO X a cD):bO X (.UnaryOp .Not a pos) (aiC cD):=by
 intro ah s σ H Q I h;refine UnaryOp_ (ct (ax ah s σ H _ I h) λv s1 ⟨x,H1,bE,bg,aO⟩=>?_);obtain⟨c,rfl,aO⟩:=aO;cases bg;exact not_of (tu ⟨.dr (!c),H1,bE,rfl,aO⟩)
noncomputable def acw(t:TT)(cD fq:TE):TE:=λσ H Q=>t σ H λc H1=>if c=true then cD σ H1 Q else fq σ H1 Q
def af5{c:bf}(aD:lF X c o1)(ax:bO X a cD)(ae:bO X b fq):bO X (.IfExp c a b pos) (acw o1 cD fq):=by
 intro ah s σ H Q I h;refine wpAny_IfExp (ct (aD ah s σ H _ I h) λd s1 ⟨H1,bE,aO⟩=>?_);cases d with
|true=>exact ax ah s1 σ H1 Q bE aO
|false=>exact ae ah s1 σ H1 Q bE aO
end
end bo
namespace bo
open PySem PySem.Spec PyProof.Rows
noncomputable def f_(K:bl)(H:aA)(a:aj)(xs:List V):Prop:=
 eK H a (.lst xs) \/
  ∃(o:Obj) (its:Array ao) (n:Nat),K.lookup a=some o/\o.cls=.type "list"/\o.dict=none/\o.data=.seq its n/\its.size<=cF/\Vals xs its.toList
noncomputable def de(K:bl)(H:aA)(a:aj)(xs:List V):Prop:=
 eK H a (.tup xs) \/
  ∃(o:Obj) (its:Array ao) (n:Nat),K.lookup a=some o/\o.cls=.type "tuple"/\o.data=.seq its n/\its.size<=cF/\Vals xs its.toList
noncomputable def Un:ao->Option V
|.none=>some .gH
|.bool b=>some (.dr b)
|.int i _=>some (.int i)
|.str x _=>some (.str x)
|.bytes b _=>some (.sr b)
|.float b _=>some (.wQ b)
|.ref a=>some (.ref a)
|.type n=>some (.ty n)
|_=>none
def RelV.abs{x:V}{u:ao}(r:RelV x u):Un u=some x:=by
 cases x with
|gH=>cases r;rfl
|dr _=>cases r;rfl
|int _=>obtain⟨t,rfl⟩:=r;rfl
|str _=>obtain⟨t,rfl⟩:=r;rfl
|sr _=>obtain⟨t,rfl⟩:=r;rfl
|wQ _=>obtain⟨t,rfl⟩:=r;rfl
|ref _=>cases r;rfl
|ty _=>cases r;rfl
def RelV.inj{x y:V}{u:ao}(r:RelV x u)(q:RelV y u):x=y:=en (r.abs.symm.trans q.abs)
theorem Vals.inj:∀{xs ys:List V} {us:List ao},Vals xs us->Vals ys us->xs=ys
|_,_,_,.nil,.nil=>rfl
|_,_,_,.cons r t,.cons cw t'=>by rw[r.inj cw,Vals.inj t t']
section
variable {X:bh}{ah:List (aj×Obj)}{σ:St}{H:aA}{s:aP}{a:aj}{xs ys:List V}
def f_.of{K:bl}(h:H a=some (.lst xs)):f_ K H a xs:=.inl (.inl h)
def de.of{K:bl}(h:H a=some (.tup xs)):de K H a xs:=.inl (.inl h)
def Inv.list(I:Inv X ah σ H s)(h:f_ X.K H a xs):∃its:List ao,Vals xs its/\PlainL s.heap a its.toArray/\xs.length<=cF:=by
 rcases h with h|⟨o,its,n,aH,aD,hd,av,aq,r⟩
 ·obtain⟨z,its,n,r,e⟩:=h.ok I.b';exact⟨its,r,⟨_,n,e,rfl,rfl,rfl⟩,z⟩
 ·refine⟨its.toList,r,⟨o,n,I.lO a o aH,aD,hd,by simpa using av⟩,?_⟩
  have e:=r.length;simp only[rB] at e;omega
def Inv.tuple(I:Inv X ah σ H s)(h:de X.K H a xs):∃its:List ao,Vals xs its/\IsTup s.heap a its.toArray/\xs.length<=cF:=by
 rcases h with h|⟨o,its,n,aH,aD,av,aq,r⟩
 ·obtain⟨z,its,r,p⟩:=h.ok I.b';exact⟨its,r,p,z⟩
 ·refine⟨its.toList,r,⟨o,I.lO a o aH,aD,n,by simpa using av⟩,?_⟩
  have e:=r.length;simp only[rB] at e;omega
def Inv.NB(I:Inv X ah σ H s)(h:f_ X.K H a xs)(h':f_ X.K H a ys):xs=ys:=by
 obtain⟨its,r,⟨o,n,e,_,_,d⟩,_⟩:=I.list h;obtain⟨its',cw,⟨o',qa,bT,_,_,d'⟩,_⟩:=I.list h';rw[e] at bT;cases bT;rw[d] at d';injection d' with oG _;have:its=its':=by simpa using congrArg Array.toList oG
 subst this;exact r.inj cw
def Inv.Jh(I:Inv X ah σ H s)(h:de X.K H a xs)(h':de X.K H a ys):xs=ys:=by
 obtain⟨its,r,⟨o,e,_,n,d⟩,_⟩:=I.tuple h;obtain⟨its',cw,⟨o',bT,_,qa,d'⟩,_⟩:=I.tuple h';rw[e] at bT;cases bT;rw[d] at d';injection d' with oG _;have:its=its':=by simpa using congrArg Array.toList oG
 subst this;exact r.inj cw
end
abbrev bh.o2(X:bh)(E:ao->aP->Prop):bh:={X with d1:=E}
abbrev bh.kG(X:bh):bh:=X.o2 λ_ _=>False
theorem bh.Ok.o2{X:bh}(ok:X.Ok)(E:ao->aP->Prop):(X.o2 E).Ok:=
 ⟨ok.mod,ok.kind,ok.glob,ok.blt,ok.above,ok.inj,ok.has,ok.wI,ok.hd,ok.frames,ok.BM,ok.uv,ok.bs,ok.q4,ok.xE,ok.uw,ok.m3,ok.sz⟩
def bh.Ok.rx{X:bh}{E:ao->aP->Prop}(ok:(X.o2 E).Ok):X.Ok:=
 ⟨ok.mod,ok.kind,ok.glob,ok.blt,ok.above,ok.inj,ok.has,ok.wI,ok.hd,ok.frames,ok.BM,ok.uv,ok.bs,ok.q4,ok.xE,ok.uw,ok.m3,ok.sz⟩
section
variable {X:bh}{ah:List (aj×Obj)}{σ:St}{H:aA}{s:aP}{E:ao->aP->Prop}
theorem Inv.o2(I:Inv X ah σ H s)(E:ao->aP->Prop):Inv (X.o2 E) ah σ H s:=⟨I.ok.o2 E,I.os,I.bare,I.base,I.loc,I.cell,I.free,I.oM,I.pin,I.b',I.len⟩
theorem Inv.rx(I:Inv (X.o2 E) ah σ H s):Inv X ah σ H s:=⟨I.ok.rx,I.os,I.bare,I.base,I.loc,I.cell,I.free,I.oM,I.pin,I.b',I.len⟩
theorem sl.rx{D:Ends}{f:Flow}{s':aP}(h:sl (X.o2 E) ah D f s'):sl X ah D f s':=by
 cases f with
|next=>obtain⟨cn,ai,I,q⟩:=h;exact⟨cn,ai,I.rx,q⟩
|brk=>obtain⟨cn,ai,I,q⟩:=h;exact⟨cn,ai,I.rx,q⟩
|cont=>obtain⟨cn,ai,I,q⟩:=h;exact⟨cn,ai,I.rx,q⟩
|ret u=>obtain⟨v,cn,ai,I,r,q⟩:=h;exact⟨v,cn,ai,I.rx,r,q⟩
theorem kY.kG{st:List Stmt}{t:hL}(h:kY X.kG st t):kY X st t:=λah s σ H D I hw=>
 gv (h ah s σ H D (I.o2 _) hw) (λ_ _ q=>q.rx) λ_ _ z=>mD z
end
section
variable {X:bh}{st:Stmt}{rest:List Stmt}{t u:hL}{e:bf}{gS:TE}{pos:Pos}
def aiD:hL:=λD σ H=>D.bY σ H
def acE(t u:hL):hL:=λD σ H=>t {D with bY:=u D} σ H
def Q8:kY X [] aiD:=λ_ _ σ H _ I h=>wpAny_execs_nil ⟨σ,H,I,h⟩
def af1(af:ky X st t)(ak:kY X rest u):kY X (st::rest) (acE t u):=by
 intro ah s σ H D I h;refine wpAny_execs_cons (ct (af ah s σ H {D with bY:=u D} I h) λf s1 q=>?_);cases f with
|next=>
  obtain⟨cn,ai,qU,q⟩:=q;exact ak ah s1 cn ai D qU q
|ret v=>exact q
|brk=>exact q
|cont=>exact q
def Q7(af:ky X st t):kY X [st] t:=by
 intro ah s σ H D I h;refine wpAny_execs_cons (ct (af ah s σ H D I h) λf s1 q=>?_);cases f with
|next=>exact wpAny_execs_nil q
|ret v=>exact q
|brk=>exact q
|cont=>exact q
def Inv.quiet{ah:List (aj×Obj)}{σ:St}{H:aA}{s:aP}(I:Inv X ah σ H s):interactive X.env=false:=by simp[interactive,I.ok.kind]
def aiF(gS:TE):hL:=λD σ H=>gS σ H λ_ H1=>D.bY σ H1
def zm(he:bO X e gS)(av:i6 e none pos.line X.env=pure false:=by rfl):ky X (.Expr e pos) (aiF gS):=by
 intro ah s σ H D I h;exact wpAny_Expr_any (ct (he ah s σ H _ I h) λv s1 ⟨x,H1,bE,bg,aO⟩=>⟨σ,H1,bE,aO⟩) I.quiet av
def acD(gS:TE):hL:=λD σ H=>gS σ H D.fa
def zx(he:bO X e gS):ky X (.Return (some e) pos) (acD gS):=by
 intro ah s σ H D I h;exact wpAny_Return_some (ct (he ah s σ H _ I h) λv s1 ⟨x,H1,bE,bg,aO⟩=>⟨x,σ,H1,bE,bg,aO⟩)
def aiA:hL:=λD _ H=>D.fa .gH H
def agS:ky X (.Return none pos) aiA:=λ_ _ σ H _ I h=>wpAny_Return_none ⟨.gH,σ,H,I,rfl,h⟩
noncomputable def acx(c:TT)(t u:hL):hL:=λD σ H=>c σ H λb H1=>if b=true then t D σ H1 else u D σ H1
def Sq{c:bf}{a b:List Stmt}{tj:TT}(aD:lF X c tj)(ax:kY X a t)(ae:kY X b u):ky X (.If c a b pos) (acx tj t u):=by
 intro ah s σ H D I h;refine wpAny_If (ct (aD ah s σ H _ I h) λd s1 ⟨H1,bE,aO⟩=>?_);cases d with
|true=>exact ax ah s1 σ H1 D bE aO
|false=>exact ae ah s1 σ H1 D bE aO
end
abbrev mT:=V->St->aA->(St->aA->Prop)->Prop
abbrev pS:=List V->St->aA->(St->aA->Prop)->Prop
noncomputable def pQ(X:bh)(target:bf)(t:mT):Prop:=
 ∀(ah:List (aj×Obj)) (s:aP) (σ:St) (H:aA) (v:V) (u:ao) (Q:St->aA->Prop),Inv X ah σ H s->RelV v u->t v σ H Q ->
  bG (bR X.prog X.w) X.A (assign target X.env u) (λ_ s'=>∃cn ai,Inv X ah cn ai s'/\Q cn ai) X.d1 s
noncomputable def sh(X:bh)(ts:List bf)(t:pS):Prop:=
 ∀(ah:List (aj×Obj)) (s:aP) (σ:St) (H:aA) (vs:List V) (us:List ao) (Q:St->aA->Prop),Inv X ah σ H s->Vals vs us->t vs σ H Q ->
  bG (bR X.prog X.w) X.A (assignInOrder ((nt ts X.env).map (·.2)) us) (λ_ s'=>∃cn ai,Inv X ah cn ai s'/\Q cn ai) X.d1 s
abbrev DY:=V->V->V->aA->(aA->Prop)->Prop
noncomputable def LR(X:bh)(t:DY):Prop:=
 ∀(ah:List (aj×Obj)) (s:aP) (σ:St) (H:aA) (o i v:V) (dU ew u:ao) (Q:aA->Prop),Inv X ah σ H s->RelV o dU->RelV i ew->RelV v u->t o i v H Q ->
  bG (bR X.prog X.w) X.A (setItem dU ew u) (λ_ s'=>∃ai,Inv X ah σ ai s'/\Q ai) X.d1 s
section
variable {X:bh}{pos:Pos}
def Sx(i:Nat):mT:=λv σ H Q=>Q (σ.set i (some v)) H
def ag1{i:Nat}{x:Str}(e5:X.N.Nodup)(aS:X.N[i]?=some x)(hx:Loc X.env.scope x)(hf:X.fn x=true\/X.env.scope.names.lookup x=some .local:=by first|exact .inl rfl|exact .inr rfl|assumption):pQ X (.Name x pos) (Sx i):=by
 intro ah s σ H v u Q I r h;exact wpAny_assign_Name (Qx I e5 aS hx r (λs' qU=>⟨_,H,qU,h⟩) hf)
def W':pS:=λvs σ H Q=>vs=[]/\Q σ H
noncomputable def ai_(t:mT)(u:pS):pS:=λvs σ H Q=>∃v r,vs=v::r/\t v σ H λcn ai=>u r cn ai Q
def ag0:sh X [] W':=by
 intro ah s σ H vs us Q I r h;obtain⟨e,h⟩:=h;subst e;cases r;exact assignInOrder_nil ⟨σ,H,I,h⟩
def af3{e:bf}{es:List bf}{t:mT}{u:pS}(af:pQ X e t)(ak:sh X es u)
  (av:(nt (e::es) X.env).map (·.2)=assign e X.env::(nt es X.env).map (·.2):=by rfl):sh X (e::es) (ai_ t u):=by
 intro ah s σ H vs us Q I r h;obtain⟨v,Jk,aQ,h⟩:=h;subst aQ;cases r with
|cons r xM=>
  rw[av];refine assignInOrder_cons (ct (af ah s σ H _ _ _ I r h) λ_ s1 ⟨SG,H1,bE,aO⟩=>?_);exact ak ah s1 SG H1 _ _ Q bE xM aO
noncomputable def Xb(K:bl)(n:Nat)(t:pS):mT:=λv σ H Q=>∃a xs,v=.ref a/\de K H a xs/\xs.length=n/\t xs σ H Q
def ahS{es:List bf}{k:Nat}{t:pS}{n:Nat}(aD:X.calm=true)(h:sh X es t)
  (a8:(nt es X.env).length=n:=by rfl) (mq:(nt es X.env).findIdx? (·.1)=none:=by rfl):pQ X (.Tuple es k pos) (Xb X.K n t):=by
 intro ah s σ H v u Q I r hw;obtain⟨a,xs,aQ,bt,aw,hw⟩:=hw;subst aQ;cases r;obtain⟨its,b9,aR,aq⟩:=I.tuple bt;refine assign_Tuple_tuple (I.ok.hd aD) aR (by simp[a8,<- aw,b9.length]) mq λh' hx=>?_;have bE:Inv X ah σ H {s with heap:=h'}:=I.kept (t':=s.toks) λb o e=>hx b o (fD (c8 e)) e;exact h ah _ σ H xs _ Q bE (by simpa using b9) hw
noncomputable def Xa(to od:TE)(t:DY):mT:=λv σ H Q=>to σ H λo H1=>od σ H1 λi ba=>t o i v ba λc_=>Q σ c_
def ahT{o i:bf}{to od:TE}{t:DY}(aE:bO X o to)(aS:bO X i od)(av:LR X t)
  (ax:∀v,assign (.Subscript o i pos) X.env v=(do
   let dU <- holding [v] (eval o X.env)
   let ew <- holding [v,dU] (eval i X.env)
   standAt pos
   holding [v,dU,ew] (setItem dU ew v)
   release [v,dU,ew] []):=by intro _;rfl):pQ X (.Subscript o i pos) (Xa to od t):=by
 intro ah s σ H v u Q I r h;rw[ax];refine a7 (mG (ct (aE ah s σ H _ I h) λdU s1 ⟨x,H1,bE,bg,aO⟩=>?_));refine a7 (mG (ct (aS ah s1 σ H1 _ bE aO) λew s2 ⟨y,ba,ck,b7,bb⟩=>?_));refine a7 (wpAny_standAt (a7 (mG (ct (av ah s2 σ ba x y v dU ew u _ ck bg b7 r bb) λ_ s3 ⟨c_,ef,cQ⟩=>?_))));exact wpAny_release ⟨σ,c_,ef,cQ⟩
def Ol(gS:TE)(g:mT):hL:=λD σ H=>gS σ H λx H1=>g x σ H1 D.bY
def RS{cx e:bf}{gS:TE}{g:mT}(he:bO X e gS)(br:pQ X cx g)(av:swapsWithSole [cx] e pos.line X.env=pure false:=by rfl)(hw:swappedStores [cx] e X.env=pure none:=by rfl)
  (af:(nt [cx] X.env).map (·.2)=[assign cx X.env]:=by rfl):ky X (.Assign [cx] e pos) (Ol gS g):=by
 intro ah s σ H D I h;refine wpAny_Assign_stores (ct (he ah s σ H _ I h) λv s1 ⟨x,H1,bE,bg,aO⟩=>?_) av hw;rw[af];exact ct (br ah s1 σ H1 x v _ bE bg aO) λ_ s2 q=>q
def RQ{i:Nat}{x:Str}{e:bf}{gS:TE}{pos':Pos}(e5:X.N.Nodup)(aS:X.N[i]?=some x)(hx:Loc X.env.scope x)(he:bO X e gS)(av:i6 e (some (.Name x pos')) pos.line X.env=pure false:=by rfl)(hf:X.fn x=true\/X.env.scope.names.lookup x=some .local:=by first|exact .inl rfl|exact .inr rfl|assumption):
  ky X (.Assign [.Name x pos'] e pos) (Ol gS (Sx i)):=by
 intro ah s σ H D I h;refine wpAny_Assign_Name (ct (he ah s σ H _ I h) λv s1 ⟨y,H1,bE,bg,aO⟩=>?_) av;exact Qx bE e5 aS hx bg (λs2 ck=>⟨_,H1,ck,aO⟩) hf
end
structure kW where
 go:Nat->aA->Prop
 kq:Nat->aA->V->aA->Prop
 stop:Nat->aA->Prop
noncomputable def mS(X:bh)(ah:List (aj×Obj))(H:aA)(b:aj):Prop:=
 H b=none/\b≠X.env.locals/\b∉X.ay/\(b∈X.ex\/X.c7.heap.objs.size<=b)/\(∀x c,X.env.cells.lookup x=some c->c≠b)/\∀p∈X.dp++ah,p.1≠b
def Inv.AI{X:bh}{ah:List (aj×Obj)}{σ:St}{H ai:aA}{s:aP}{b:aj}(I:Inv X ah σ H s)(ae:s.heap.objs.size<=b)(a8:ai b=none):mS X ah ai b:=by
 refine⟨a8,hY (km I.lt ae),I.Zx ae,.inr (kn I.i4 ae),λx c e z=>?_,λp aC z=>?_⟩
 ·obtain⟨v,q⟩:=I.cell x c e;exact absurd (km q.lt (by rw[z];exact ae)) (Nat.lt_irrefl _)
 ·exact absurd (km (c8 (I.pin p aC).1) (by rw[z];exact ae)) (Nat.lt_irrefl _)
structure Turn(P:cR)(w:cu)(K:bl)(cx:bf)(J:kW)(bX:List aj)(it:aj)(hn:Nat->b0->Prop):Prop where
 mem:it∈bX
 obj:∀i h,hn i h->∀b∈bX,∃o,h.get? b=some o/\∀v,o.data≠.cell v
 keep:∀i h h',hn i h->(∀b∈bX,∀o,h.get? b=some o->h'.get? b=some o)->hn i h'
 item:∀(X:bh),X.prog=P->X.w=w->X.K=K->X.calm=true->∀(i:Nat) (ah:List (aj×Obj)) (s:aP) (σ:St) (H:aA) (E:ao->aP->Prop),Inv X ah σ H s->(∀b∈bX,mS X ah H b)->hn i s.heap->J.go i H ->
  bG (bR P w) X.A (pyNext (.ref it)) (λr s1=>∃u,r=some u /\
   bG (bR P w) X.A (letOwnedTupleGo cx (.ref it) u) (λ_ s2=>∃x ai,Inv X ah σ ai s2/\RelV x u/\J.kq i H x ai/\hn (i+1) s2.heap/\∀b∈bX,ai b=none) E s1) E s
 done:∀(X:bh),X.prog=P->X.w=w->X.K=K->X.calm=true->∀(i:Nat) (ah:List (aj×Obj)) (s:aP) (σ:St) (H:aA) (E:ao->aP->Prop),Inv X ah σ H s->(∀b∈bX,mS X ah H b)->hn i s.heap->J.stop i H ->
  bG (bR P w) X.A (pyNext (.ref it)) (λr s1=>r=none/\Inv X ah σ H s1) E s
 self:∀(A:c9) (i:Nat) (s:aP) (Q:ao->aP->Prop) (E:ao->aP->Prop),hn i s.heap->Q (.ref it) s->bG (bR P w) A (pyIter (.ref it)) Q E s
abbrev TI:=St->aA->(kW->aA->Prop)->Prop
noncomputable def LQ(X:bh)(ah:List (aj×Obj))(σ:St)(cx:bf)(R:kW->aA->Prop)(A1:ao)(s2:aP):Prop:=
 ∃(it:aj) (bX:List aj) (hn:Nat->b0->Prop) (J:kW) (ai:aA),A1=.ref it/\Inv X ah σ ai s2/\Turn X.prog X.w X.K cx J bX it hn/\hn 0 s2.heap/\(∀b∈bX,mS X ah ai b)/\R J ai
noncomputable def pR(X:bh)(cx iter:bf)(qj:TI):Prop:=
 ∀(ah:List (aj×Obj)) (s:aP) (σ:St) (H:aA) (R:kW->aA->Prop),Inv X ah σ H s->qj σ H R ->
  bG (bR X.prog X.w) X.A (eval iter X.env) (λv s1=>bG (bR X.prog X.w) X.A (pyIter v) (LQ X ah σ cx R) X.d1 s1) X.d1 s
def Lv{M:Model}{A:c9}{E:ao->aP->Prop}{s:aP}{cx:bf}{it:aj}{u:ao}{o:Obj}{n:String}{vs:Array ao}{Q:Unit->aP->Prop}(aE:s.heap.get? it=some o)(aD:o.cls=.type n)(hd:o.data=.fields vs)
    (a8:["enumerate","zip","dict_itemiterator","dict_reverseitemiterator","odict_iterator","itertools.zip_longest","itertools.pairwise"].contains n=false) (jk:Q () s):bG M A (letOwnedTupleGo cx (.ref it) u) Q E s:=by
  unfold letOwnedTupleGo;cases cx <;> first
    |exact cH jk
    | (cases u <;> first
        |exact cH jk
        | (refine a7 (wpAny_load aE ?_)
           rw[aD,hd];show bG M A (if (["enumerate","zip","dict_itemiterator","dict_reverseitemiterator","odict_iterator","itertools.zip_longest","itertools.pairwise"].contains n && vs[0]?==some (rawInt _))=true then _ else _) Q E s;rw[if_neg (by intro h;rw[a8,Bool.false_and] at h;cases h)];exact cH jk))
noncomputable def zV(K:bl)(a:aj):kW:=
 ⟨λi H=>∃xs x,f_ K H a xs/\xs[i]?=some x,λi H x ai=>ai=H/\∀xs,f_ K H a xs->xs[i]?=some x,λi H=>∃xs,f_ K H a xs/\xs.length<=i⟩
noncomputable def zX(K:bl)(a:aj):kW:=
 ⟨λi H=>∃xs x,de K H a xs/\xs[i]?=some x,λi H x ai=>ai=H/\∀xs,de K H a xs->xs[i]?=some x,λi H=>∃xs,de K H a xs/\xs.length<=i⟩
noncomputable def zW(lo:Int)(n:Nat):kW:=⟨λi _=>i<n,λi H x ai=>ai=H/\x=.int (lo+i),λi _=>n<=i⟩
def aeW{P:cR}{w:cu}{K:bl}{cx:bf}(a it:aj):Turn P w K cx (zV K a) [it] it (λi h=>h.IsListIter it a i) where
 mem:=by simp
 obj:=λi h st b ae=>by
  have e:b=it:=by simpa using ae
  subst e;obtain⟨o,e,c,d⟩:=st;exact⟨o,e,λv z=>by rw[d] at z;cases z⟩
 keep:=λi h h' st k=>st.at λo e=>k it (by simp) o e
 item:=by
  intro X ib hw iJ aD i ah s σ H E I hf st br;subst ib hw iJ;obtain⟨xs,x,bt,hx⟩:=br;obtain⟨its,b9,p,aq⟩:=I.list bt;obtain⟨u,bj,ee⟩:=b9.get hx;obtain⟨f0,f1,f2,h8,f4,h9⟩:=hf it (by simp);refine wpAny_pyNext_list_item st p.isList (x:=u) (by simpa using bj) λh' lg gR=>?_;have bE:Inv X ah σ H {s with heap:=h'}:=I.turned (t':=s.toks) (λb o ae e=>(gR.2 b ae).trans e) f0 f1 h8 f4 h9;obtain⟨o,e,c,d⟩:=id lg;exact⟨u,rfl,Lv (s:={s with heap:=h'}) e c d (by decide) ⟨x,H,bE,ee,⟨rfl,λys bL=>by rw[I.NB bL bt];exact hx⟩,lg,λb ae=>(hf b ae).1⟩⟩
 done:=by
  intro X ib hw iJ aD i ah s σ H E I hf st br;subst ib hw iJ;obtain⟨xs,bt,hx⟩:=br;obtain⟨its,b9,p,aq⟩:=I.list bt;obtain⟨f0,f1,f2,h8,f4,h9⟩:=hf it (by simp);have aw:=b9.length;exact wpAny_pyNext_list_end (I.ok.hd aD) st p.isList (by simp;omega) λh' c'=>⟨rfl,I.turned (t':=s.toks) (λb o ae e=>c' b o ae e) f0 f1 h8 f4 h9⟩
 self:=λ_ _ _ _ _ st h=>wpAny_pyIter_listiter st h
def aem{P:cR}{w:cu}{K:bl}{cx:bf}(a it:aj):Turn P w K cx (zX K a) [it] it (λi h=>h.IsTupleIter it a i) where
 mem:=by simp
 obj:=λi h st b ae=>by
  have e:b=it:=by simpa using ae
  subst e;obtain⟨o,e,c,d⟩:=st;exact⟨o,e,λv z=>by rw[d] at z;cases z⟩
 keep:=λi h h' st k=>st.at λo e=>k it (by simp) o e
 item:=by
  intro X ib hw iJ aD i ah s σ H E I hf st br;subst ib hw iJ;obtain⟨xs,x,bt,hx⟩:=br;obtain⟨its,b9,p,aq⟩:=I.tuple bt;obtain⟨u,bj,ee⟩:=b9.get hx;obtain⟨f0,f1,f2,h8,f4,h9⟩:=hf it (by simp);refine wpAny_pyNext_tuple_item st (show s.heap.IsTuple a its.toArray from p) (x:=u) (by simpa using bj) λh' lg gR=>?_;have bE:Inv X ah σ H {s with heap:=h'}:=I.turned (t':=s.toks) (λb o ae e=>(gR.2 b ae).trans e) f0 f1 h8 f4 h9;obtain⟨o,e,c,d⟩:=id lg;exact⟨u,rfl,Lv (s:={s with heap:=h'}) e c d (by decide) ⟨x,H,bE,ee,⟨rfl,λys bL=>by rw[I.Jh bL bt];exact hx⟩,lg,λb ae=>(hf b ae).1⟩⟩
 done:=by
  intro X ib hw iJ aD i ah s σ H E I hf st br;subst ib hw iJ;obtain⟨xs,bt,hx⟩:=br;obtain⟨its,b9,p,aq⟩:=I.tuple bt;obtain⟨f0,f1,f2,h8,f4,h9⟩:=hf it (by simp);have aw:=b9.length;exact wpAny_pyNext_tuple_end (I.ok.hd aD) st (show s.heap.IsTuple a its.toArray from p) (by simp;omega) λh' c'=>⟨rfl,I.turned (t':=s.toks) (λb o ae e=>c' b o ae e) f0 f1 h8 f4 h9⟩
 self:=λ_ _ _ _ _ st h=>wpAny_pyIter_tupleiter st h
def aen{P:cR}{w:cu}{K:bl}{cx:bf}(it:aj)(lo:Int)(n:Nat):Turn P w K cx (zW lo n) [it] it (λi h=>IsRangeIter h it (lo+(i:Nat)*1) ((n:Int) - (i:Nat)) 1) where
 mem:=by simp
 obj:=λi h st b ae=>by
  have e:b=it:=by simpa using ae
  subst e;exact⟨_,st,λv z=>by
   have lu:Data.fields _=Data.cell v:=z;cases lu⟩
 keep:=λi h h' st k=>k it (by simp) _ st
 item:=by
  intro X ib hw iJ aD i ah s σ H E I hf st br;subst ib hw iJ;obtain⟨f0,f1,f2,h8,f4,h9⟩:=hf it (by simp);have W:=Walks.range (prog:=X.prog) (w:=X.w) (I.ok.hd aD) it lo 1 n;refine W.item i s _ _ br st λv h' tk a5 lg bQ=>?_;obtain⟨t,rfl⟩:=a5;have bE:Inv X ah σ H {s with heap:=h',toks:=tk}:=I.turned (λb o ae e=>bQ b o (by simpa using ae) e) f0 f1 h8 f4 h9;refine⟨_,rfl,Lv (s:={s with heap:=h',toks:=tk}) (n:="range_iterator") lg rfl rfl (by decide) ⟨.int (lo+i),H,bE,⟨t,?_⟩,⟨rfl,rfl⟩,lg,λb ae=>(hf b ae).1⟩⟩;rw[Int.mul_one]
 done:=by
  intro X ib hw iJ aD i ah s σ H E I hf st br;subst ib hw iJ;obtain⟨f0,f1,f2,h8,f4,h9⟩:=hf it (by simp);exact wpAny_pyNext_range_end (I.ok.hd aD) st (by have:n<=i:=br;omega) λh' c'=>⟨rfl,I.turned (t':=s.toks) (λb o ae e=>c' b o ae e) f0 f1 h8 f4 h9⟩
 self:=λ_ _ _ _ _ st h=>wpAny_pyIter_rangeiter st h
end bo
namespace bo
open PySem PySem.Spec PyProof.Rows
section
variable {X:bh}{cx:bf}
def afX{ah:List (aj×Obj)}{σ:St}{H:aA}{s:aP}{R:kW->aA->Prop}{E:ao->aP->Prop}{lo aS:Int}{t u v:Tok}{tk:Nat}(I:Inv X ah σ H s)(af:-(2 ^ 62)<=lo)(ak:lo<2 ^ 62)(bA:-(2 ^ 62)<=aS)(cP:aS<2 ^ 62)
  (q:R (zW lo (aS - lo).toNat) H):bG (bR X.prog X.w) X.A (pyIter (.ref s.heap.objs.size)) (LQ X ah σ cx R) E {s with heap:=s.heap.push {cls:=.type "range",data:=.fields #[.int lo t,.int aS u,.int 1 v]},toks:=tk}:=by
 refine wpAny_pyIter_range (IsRange.new ..) (small_one af ak bA cP) ?_
 have bE:Inv X ah σ H {s with heap:=s.heap.push {cls:=.type "range",data:=.fields #[.int lo t,.int aS u,.int 1 v]},toks:=tk}:=I.kept λb o e=>dq _ e;refine⟨(s.heap.push {cls:=.type "range",data:=.fields #[.int lo t,.int aS u,.int 1 v]}).objs.size,[(s.heap.push {cls:=.type "range",data:=.fields #[.int lo t,.int aS u,.int 1 v]}).objs.size],_,_,H,rfl,
  bE.kept (t':=tk) λb o e=>dq _ e,aen _ lo (aS - lo).toNat,?_,λb ae=>?_,q⟩
 ·have aQ:lo+((0:Nat):Int)*1=lo:=by simp
  have a9:(((aS - lo).toNat:Nat):Int) - ((0:Nat):Int)=Builtin.Range.rangeSize lo aS 1:=by rw[rangeSize_one];split <;> omega
  show IsRangeIter _ _ (lo+((0:Nat):Int)*1) ((((aS - lo).toNat:Nat):Int) - ((0:Nat):Int)) 1
  rw[aQ,a9];exact hX _ rfl
 ·have e:b=(s.heap.push {cls:=.type "range",data:=.fields #[.int lo t,.int aS u,.int 1 v]}).objs.size:=by simpa using ae
  subst e;exact bE.AI (el _) (bE.b'.fresh (el _))
noncomputable def ai9(cD:f'):TI:=λσ H R=>cD σ H λvs H1=>∃j:Int,vs=[.int j]/\-(2 ^ 62)<=j/\j<2 ^ 62/\R (zW 0 j.toNat) H1
def afc{a:bf}{cD:f'}{p pos:Pos}(br:fi X "range")(hm:X.mg "range"=none)(ax:h5 X [a] cD)(av:bB [a] X.env=[(false,eval a X.env)]:=by rfl):pR X cx (.Call (.Name "range" p) [a] [] pos) (ai9 cD):=by
 intro ah s σ H R I h;refine Call_ (tY I br hm boot_range (uY (ct (ax pos ah s σ H _ I h) λus s1 ⟨vs,H1,bE,bg,aO⟩=>?_) av rfl));obtain⟨j,e,aO,bb,q⟩:=aO;subst e;cases bg with
|cons r xM=>
  cases xM
  obtain⟨t,rfl⟩:=r;exact call_range_1 (afX bE (by omega) (by omega) aO bb (by simpa using q))
noncomputable def acu(qj:TI)(g:mT)(fq:hL):hL:=λD σ H=>qj σ H λJ H1=>∃W:Nat->Nat->St->aA->Prop,(∃m,W 0 m σ H1)/\∀i m σ H,W i m σ H ->
 (J.stop i H/\D.bY σ H)\/(J.go i H/\∃N:St->aA->Prop,(∀cn ai,N cn ai->∃mw,mw<m/\W (i+1) mw cn ai)/\∀x ai,J.kq i H x ai->g x σ ai λzQ ba=>fq {D with bY:=N,e':=N,iD:=D.bY} zQ ba)
noncomputable def vW(bX:List aj)(h:b0):List (aj×Obj):=bX.filterMap λb=>(h.get? b).map λo=>(b,o)
def vr{bX:List aj}{h:b0}{b:aj}{o:Obj}(ae:b∈bX)(e:h.get? b=some o):(b,o)∈vW bX h:=List.mem_filterMap.mpr ⟨b,ae,by rw[e];rfl⟩
def afd{bX:List aj}{h:b0}{p:aj×Obj}(aC:p∈vW bX h):p.1∈bX/\h.get? p.1=some p.2:=by
 obtain⟨b,ae,e⟩:=List.mem_filterMap.mp aC;cases q:h.get? b with
|none=>rw[q] at e;cases e
|some o=>
  rw[q] at e;have bT:(b,o)=p:=en e;subst bT;exact⟨ae,q⟩
def Inv.pinned{ah:List (aj×Obj)}{σ:St}{H:aA}{s:aP}{bX:List aj}(I:Inv X ah σ H s)(hf:∀b∈bX,mS X ah H b)(aE:∀b∈bX,∃o,s.heap.get? b=some o/\∀v,o.data≠.cell v):Inv X (ah++vW bX s.heap) σ H s:=
 I.NV λp aC=>(ju.mp aC).elim (λz=>I.pin p (l0 _ z)) λz=>by
  obtain⟨ae,e⟩:=afd z;obtain⟨f0,f1,f2,_⟩:=hf p.1 ae;obtain⟨o,bT,d⟩:=aE p.1 ae;rw[e] at bT;cases bT;exact⟨e,f0,f1,f2,d⟩
def Inv.x7{ah pl:List (aj×Obj)}{σ:St}{H:aA}{s:aP}(I:Inv X (ah++pl) σ H s):Inv X ah σ H s:=I.NV λp aC=>I.pin p (l0 _ (List.mem_append_left _ aC))
def RR{iter:bf}{body:List Stmt}{qj:TI}{g:mT}{fq:hL}{pos:Pos}(aC:PassesOwn (bR X.prog X.w) X.A X.env X.d1)(aD:X.calm=true)(aS:pR X cx iter qj)(br:pQ X cx g)(ae:kY X body fq)
  (av:∀x,pf iter X.env x=pure x:=by intro _;rfl):ky X (.For cx iter body [] pos) (acu qj g fq):=by
 intro ah s σ H D I h;refine wpAny_For (ct (aS ah s σ H _ I h) λv s1 af=>ct af λA1 s2 ak=>?_) av;obtain⟨it,bX,hn,J,ba,e,ck,T,js,f2,W,⟨m0,iR⟩,turn⟩:=ak;subst e;have ob:∀{ai:aA},(∀b∈bX,ai b=none)->∀b∈bX,mS X ah ai b:=λa8 b ae=>⟨a8 b ae,(f2 b ae).2⟩;refine codeAny_forLoop_any (λn s'=>∃i cn ai,Inv X ah cn ai s'/\hn i s'.heap/\(∀b∈bX,ai b=none)/\W i n cn ai) ?_ m0 ⟨0,σ,ba,ck,js,λb ae=>(f2 b ae).1,iR⟩;rintro n s3 ⟨i,kx,c_,ef,rr,q_,BV⟩;rcases turn i n kx c_ BV with ⟨stop,qn⟩|⟨go,N,e5,step⟩
 ·refine wpAny_passesOwn aC (ct (T.done X rfl rfl rfl aD i ah s3 kx c_ X.d1 ef (ob q_) rr stop) λr s4 ⟨ar,iy⟩=>?_)
  subst ar;exact wpAny_execs_nil ⟨kx,c_,iy,qn⟩
 ·refine wpAny_passesOwn aC (ct (T.item X rfl rfl rfl aD i ah s3 kx c_ X.d1 ef (ob q_) rr go) λr s4 ⟨u,ar,cP⟩=>?_)
  subst ar;refine wpAny_passesOwn aC (ct cP λ_ s5 ⟨x,gY,pN,tg,ajS,oa,wR⟩=>?_);have wt:=pN.pinned (ob wR) (T.obj _ _ oa);refine wpAny_passesOwn aC (ct (br _ s5 kx gY x u _ wt tg (step x gY ajS)) λ_ dK ⟨jD,nG,ajW,oU⟩=>?_);refine wpAny_passesOwn aC (ct (ae _ dK jD nG _ ajW oU) λf cG oV=>?_);have again:∀{jE:St} {fj:aA},Inv X (ah++vW bX s5.heap) jE fj cG->N jE fj->∃m,m<n/\∃i cn ai,Inv X ah cn ai cG/\hn i cG.heap/\(∀b∈bX,ai b=none)/\W i m cn ai:=λ{jE fj} hc xy=>by
   obtain⟨mw,hm,w7⟩:=e5 jE fj xy;refine⟨mw,hm,i+1,jE,fj,hc.x7,T.keep _ _ _ oa λb ae o e=>(hc.pin (b,o) (l0 _ (l0 _ (vr ae e)))).1,λb ae=>?_,w7⟩;obtain⟨o,e,d⟩:=T.obj _ _ oa b ae;exact (hc.pin (b,o) (l0 _ (l0 _ (vr ae e)))).2.1
  cases f with
  |next=>obtain⟨jE,fj,hc,xy⟩:=oV;exact again hc xy
  |cont=>obtain⟨jE,fj,hc,xy⟩:=oV;exact again hc xy
  |brk=>obtain⟨jE,fj,hc,oV⟩:=oV;exact⟨jE,fj,hc.x7,oV⟩
  |ret v=>obtain⟨kJ,jE,fj,hc,oX,oV⟩:=oV;exact⟨kJ,jE,fj,hc.x7,oX,oV⟩
end
end bo
namespace bo
open PySem PySem.Spec PyProof.Rows
abbrev hy:=V->V->aA->dx->Prop
noncomputable def fk(X:bh)(f:ao->ao->Sem ao)(r:hy):Prop:=
 ∀(ah:List (aj×Obj)) (s:aP) (σ:St) (H:aA) (x y:V) (v u:ao) (Q:dx),Inv X ah σ H s->RelV x v->RelV y u->r x y H Q ->
  bG (bR X.prog X.w) X.A (f v u) (ix X ah σ Q) X.d1 s
noncomputable def DZ(X:bh)(f:ao->Sem ao)(r:V->aA->dx->Prop):Prop:=
 ∀(ah:List (aj×Obj)) (s:aP) (σ:St) (H:aA) (x:V) (v:ao) (Q:dx),Inv X ah σ H s->RelV x v->r x H Q ->
  bG (bR X.prog X.w) X.A (f v) (ix X ah σ Q) X.d1 s
noncomputable def mc(X:bh)(f:ao)(r:List V->aA->dx->Prop):Prop:=
 ∀(ah:List (aj×Obj)) (s:aP) (σ:St) (H:aA) (xs:List V) (us:List ao) (Q:dx),Inv X ah σ H s->Vals xs us->r xs H Q ->
  bG (bR X.prog X.w) X.A (call f us) (ix X ah σ Q) X.d1 s
noncomputable def Ul(X:bh)(r:V->aA->(Bool->aA->Prop)->Prop):Prop:=
 ∀(ah:List (aj×Obj)) (s:aP) (σ:St) (H:aA) (x:V) (v:ao) (Q:Bool->aA->Prop),Inv X ah σ H s->RelV x v->r x H Q ->
  bG (bR X.prog X.w) X.A (truthy v) (z1 X ah σ Q) X.d1 s
def x2(r:hy)(cD fq:TE):TE:=λσ H Q=>cD σ H λx H1=>fq σ H1 λy ba=>r x y ba Q
def acH(r:V->aA->dx->Prop)(cD:TE):TE:=λσ H Q=>cD σ H λx H1=>r x H1 Q
noncomputable def BD(C:Int->Int->Prop)(g:Int->Int->V):hy:=λx y H Q=>∃i j,x=.int i/\y=.int j/\C i j/\Q (g i j) H
def nf(g:Int->Int->V):hy:=λx y H Q=>∃i j,x=.int i/\y=.int j/\Q (g i j) H
def N3(g:Int->V):V->aA->dx->Prop:=λx H Q=>∃i,x=.int i/\Q (g i) H
section
variable {X:bh}{a b c:bf}{cD fq tj:TE}{pos:Pos}
def EF(ax:bO X a cD)(ae:bO X b fq){ah:List (aj×Obj)}{s:aP}{σ:St}{H:aA}{R:V->V->aA->Prop}(I:Inv X ah σ H s)
  (h:cD σ H λx H1=>fq σ H1 λy ba=>R x y ba) {Q:ao->aP->Prop} {f:ao->ao->Sem ao}
  (hf:∀v u s2 x y ba,Inv X ah σ ba s2->RelV x v->RelV y u->R x y ba->bG (bR X.prog X.w) X.A (f v u) Q X.d1 s2):
  bG (bR X.prog X.w) X.A (eval a X.env) (λv dH=>bG (bR X.prog X.w) X.A (eval b X.env) (λu ng=>bG (bR X.prog X.w) X.A (f v u) Q X.d1 ng) X.d1 dH) X.d1 s:=by
 refine ct (ax ah s σ H _ I h) λv s1 ⟨x,H1,bE,bg,aO⟩=>?_
 refine ct (ae ah s1 σ H1 _ bE aO) λu s2 ⟨y,ba,ck,b7,bb⟩=>?_
 exact hf v u s2 x y ba ck bg b7 bb
def t5{op:Operator}{r:hy}(aE:fk X (mH op) r)(ax:bO X a cD)(ae:bO X b fq):bO X (.BinOp a op b pos) (x2 r cD fq):=by
 intro ah s σ H Q I h;exact wpAny_BinOp (EF ax ae I h λv u s2 x y ba ck a3 bK q=>aE ah s2 σ ba x y v u Q ck a3 bK q)
def ai1{op:UnaryOp}{r:V->aA->dx->Prop}(aE:DZ X (unaryOp op) r)(ax:bO X a cD):bO X (.UnaryOp op a pos) (acH r cD):=by
 intro ah s σ H Q I h;exact UnaryOp_ (ct (ax ah s σ H _ I h) λv s1 ⟨x,H1,bE,bg,aO⟩=>aE ah s1 σ H1 x v Q bE bg aO)
def IL{f:ao->ao->Sem ao}{C:Int->Int->Prop}{g:Int->Int->Int}
  (rule:∀(i j:Int) (t u:Tok) (s:aP) (Q:ao->aP->Prop) (E:ao->aP->Prop),C i j->Q (.int (g i j) s.toks) {s with toks:=s.toks+1}->bG (bR X.prog X.w) X.A (f (.int i t) (.int j u)) Q E s):
  fk X f (BD C λi j=>.int (g i j)):=by
 intro ah s σ H x y v u Q I a3 bK h;obtain⟨i,j,rfl,rfl,aD,q⟩:=h;obtain⟨t,rfl⟩:=a3;obtain⟨t',rfl⟩:=bK;exact rule i j t t' s _ _ aD ⟨.int (g i j),H,I.tok _,⟨_,rfl⟩,q⟩
def NS{f:ao->ao->Sem ao}{g:Int->Int->Int}
  (rule:∀(i j:Int) (t u:Tok) (s:aP) (Q:ao->aP->Prop) (E:ao->aP->Prop),Q (.int (g i j) s.toks) {s with toks:=s.toks+1}->bG (bR X.prog X.w) X.A (f (.int i t) (.int j u)) Q E s):
  fk X f (nf λi j=>.int (g i j)):=by
 intro ah s σ H x y v u Q I a3 bK h;obtain⟨i,j,rfl,rfl,q⟩:=h;obtain⟨t,rfl⟩:=a3;obtain⟨t',rfl⟩:=bK;exact rule i j t t' s _ _ ⟨.int (g i j),H,I.tok _,⟨_,rfl⟩,q⟩
def BB{f:ao->ao->Sem ao}{g:Int->Int->Bool}
  (rule:∀(i j:Int) (t u:Tok) (s:aP) (Q:ao->aP->Prop) (E:ao->aP->Prop),Q (.bool (g i j)) s->bG (bR X.prog X.w) X.A (f (.int i t) (.int j u)) Q E s):
  fk X f (nf λi j=>.dr (g i j)):=by
 intro ah s σ H x y v u Q I a3 bK h;obtain⟨i,j,rfl,rfl,q⟩:=h;obtain⟨t,rfl⟩:=a3;obtain⟨t',rfl⟩:=bK;exact rule i j t t' s _ _ ⟨.dr (g i j),H,I,rfl,q⟩
def SH(i j:Int):Prop:=0<j/\j<1073741824
def zR(i j:Int):Prop:=(-(2 ^ 64)<i/\i<2 ^ 64)\/(-(2 ^ 64)<j/\j<2 ^ 64)
def zR.ok{i j:Int}(h:zR i j):IntMulOk i j:=by
 rcases h with ⟨af,ak⟩|⟨af,ak⟩
 ·exact .of_left (intBits_le_64 af ak)
 ·exact .of_right (intBits_le_64 af ak)
def ah7:fk X (mH .Add) (nf λi j=>.int (i+j)):=NS λ_ _ _ _ _ _ _ q=>add_int q
def ah4:fk X (mH .Sub) (nf λi j=>.int (i - j)):=NS λ_ _ _ _ _ _ _ q=>sub_int q
def ah5:fk X (mH .Mult) (BD zR λi j=>.int (i*j)):=IL λ_ _ _ _ _ _ _ aD q=>mul_int q aD.ok
def ag5:fk X (mH .FloorDiv) (BD SH λi j=>.int (i / j)):=IL λi j _ _ _ _ _ aD q=>by
 have af:(0:Int)<j:=aD.1;have ak:j<1073741824:=aD.2;exact floordiv_int (by omega) (by rw[Int.fdiv_eq_ediv_of_nonneg i (by omega)];exact q) (.inl (PyProof.noPylong_small (by omega)))
def ah6:fk X (mH .Mod) (BD (λ_ j=>0<j) λi j=>.int (i % j)):=IL λi j _ _ _ _ _ aD q=>by
 have af:(0:Int)<j:=aD;exact mod_int' (by omega) (by rw[Int.fmod_eq_emod_of_nonneg i (by omega)];exact q)
def acY{f:ao->Sem ao}{g:Int->Int}
  (rule:∀(i:Int) (t:Tok) (s:aP) (Q:ao->aP->Prop) (E:ao->aP->Prop),Q (.int (g i) s.toks) {s with toks:=s.toks+1}->bG (bR X.prog X.w) X.A (f (.int i t)) Q E s):
  DZ X f (N3 λi=>.int (g i)):=by
 intro ah s σ H x v Q I a3 h;obtain⟨i,rfl,q⟩:=h;obtain⟨t,rfl⟩:=a3;exact rule i t s _ _ ⟨.int (g i),H,I.tok _,⟨_,rfl⟩,q⟩
def ahv:DZ X (unaryOp .USub) (N3 λi=>.int (-i)):=acY λ_ _ _ _ _ q=>neg_int q
end
section
variable {X:bh}{a b c:bf}{cD fq tj:TE}{pos:Pos}
def DC{ah:List (aj×Obj)}{σ:St}{H:aA}{s:aP}{Q:dx}{k kd:Bool}(I:Inv X ah σ H s)(q:Q (.dr k) H)(e:k=kd):ix X ah σ Q (.bool kd) s:=by
 subst e;exact⟨.dr k,H,I,rfl,q⟩
def wc:fk X (jv .Lt) (nf λi j=>.dr (decide (i<j))):=BB λ_ _ _ _ _ _ _ q=>lt_int q
def Lu:fk X (jv .LtE) (nf λi j=>.dr (decide (i<=j))):=BB λ_ _ _ _ _ _ _ q=>le_int q
def zK:fk X (jv .Gt) (nf λi j=>.dr (decide (j<i))):=BB λ_ _ _ _ _ _ _ q=>gt_int q
def Ss:fk X (jv .GtE) (nf λi j=>.dr (decide (j<=i))):=BB λ_ _ _ _ _ _ _ q=>ge_int q
def vv:fk X (jv .Lt) (λx y H Q=>∃i j,x=.str i/\y=.str j/\Q (.dr (decide (i.cps.toList<j.cps.toList))) H):=by
 intro ah s σ H x y v u Q I a3 bK h;obtain⟨i,j,rfl,rfl,q⟩:=h;obtain⟨t,rfl⟩:=a3;obtain⟨t',rfl⟩:=bK;exact lt_str (DC I q rfl)
def fk.or{f:ao->ao->Sem ao}{r cw:hy}(h:fk X f r)(h':fk X f cw):fk X f (λx y H Q=>r x y H Q\/cw x y H Q):=by
 intro ah s σ H x y v u Q I a3 bK q;rcases q with q|q
 ·exact h ah s σ H x y v u Q I a3 bK q
 ·exact h' ah s σ H x y v u Q I a3 bK q
def R4(b:bf){op:CmpOp}(h:op≠.In:=by decide)(ak:op≠.NotIn:=by decide):qu op b=false:=by
 have aQ:(op==CmpOp.In)=false:=by cases op <;> first|rfl|exact absurd rfl h
 have a9:(op==CmpOp.NotIn)=false:=by cases op <;> first|rfl|exact absurd rfl ak
 cases b <;> simp[qu,aQ,a9]
def ag3{op:CmpOp}{r:hy}(aE:fk X (jv op) r)(ax:bO X a cD)(ae:bO X b fq)(hm:qu op b=false):bO X (.Compare a [op] [b] pos) (x2 r cD fq):=by
 intro ah s σ H Q I h;exact wpAny_Compare1 (EF ax ae I h λv u s2 x y ba ck a3 bK q=>aE ah s2 σ ba x y v u Q ck a3 bK q) hm
def aiz(t:TE):TT:=λσ H Q=>t σ H λx ai=>∃k,x=.dr k/\Q k ai
def agR{op:CmpOp}{r:hy}(aE:fk X (jv op) r)(ax:bO X a cD)(ae:bO X b fq)(hm:qu op b=false):lF X (.Compare a [op] [b] pos) (aiz (x2 r cD fq)):=by
 intro ah s σ H Q I h;refine wpAny_isTrue_Compare1 (ct (ax ah s σ H _ I h) λv s1 ⟨x,H1,bE,bg,aO⟩=>ct (ae ah s1 σ H1 _ bE aO) λu s2 ⟨y,ba,ck,b7,bb⟩=>
  ct (aE ah s2 σ ba x y v u _ ck bg b7 bb) λc s3 ⟨z,c_,ef,hE,k,e,cQ⟩=>?_) hm
 subst e;cases hE;exact tu ⟨c_,ef,cQ⟩
noncomputable def LU(K:bl)(x:V)(H:aA)(k:Bool):Prop:=
 match x with
|.gH=>k=false
|.dr b=>k=b
|.int i=>k=(i != 0)
|.str y=>y.length<=cF/\k=((y.length:Int) != 0)
|.sr y=>y.size<=cF/\k=((y.size:Int) != 0)
|.ref p=>(∃xs,f_ K H p xs/\k=!xs.isEmpty)\/(∃xs,de K H p xs/\k=!xs.isEmpty)\/∃kvs,H p=some (.du kvs)/\k=!kvs.isEmpty
|_=>False
def aeE{e9:Type}{kvs:List (e9×V)}{vs:List (e9×ao)}(r:fU kvs vs):(!vs.isEmpty)=!kvs.isEmpty:=by
 cases r <;> rfl
def PB{xs:List V}{its:List ao}(r:Vals xs its):(!its.toArray.isEmpty)=!xs.isEmpty:=by
 cases r <;> simp
def aj1:(cF:Nat)<2 ^ 63:=by rw[lr];decide
def ahx:Ul X (λx H Q=>∃k,LU X.K x H k/\Q k H):=by
 intro ah s σ H x v Q I a3 h;obtain⟨k,e,q⟩:=h;have aw:=aj1;have av:cF=16777216:=lr;cases x with
|gH=>
  cases a3
  have bT:k=false:=e;subst bT;exact truthy_none ⟨H,I,q⟩
|dr b=>
  cases a3
  have bT:k=b:=e;subst bT;exact tu ⟨H,I,q⟩
|int i=>
  obtain⟨t,rfl⟩:=a3;have bT:k=(i != 0):=e;subst bT;exact PySem.P.truthy_int ⟨H,I,q⟩
|str y=>
  obtain⟨t,rfl⟩:=a3;obtain⟨bL,bT⟩:y.length<=cF/\k=((y.length:Int) != 0):=e;subst bT;exact PySem.P.truthy_str (by omega) ⟨H,I.tok _,q⟩
|sr y=>
  obtain⟨t,rfl⟩:=a3;obtain⟨bL,bT⟩:y.size<=cF/\k=((y.size:Int) != 0):=e;subst bT;exact PySem.W.truthy_bytes (by omega) ⟨H,I.tok _,q⟩
|ref p=>
  cases a3
  have bT:(∃xs,f_ X.K H p xs/\k=!xs.isEmpty)\/(∃xs,de X.K H p xs/\k=!xs.isEmpty)\/∃kvs,H p=some (.du kvs)/\k=!kvs.isEmpty:=e;rcases bT with ⟨xs,hx,bT⟩|⟨xs,hx,bT⟩|⟨kvs,hx,bT⟩
  ·subst bT;obtain⟨its,r,pl,aq⟩:=I.list hx;have hlen:=r.length;exact wpAny_truthy_list pl.isList (by simp only[eJ];omega) ⟨H,I.tok _,by rw[PB r];exact q⟩
  ·subst bT;obtain⟨its,r,pl,aq⟩:=I.tuple hx;have hlen:=r.length;exact truthy_tuple pl (by simp only[eJ];omega) ⟨H,I.tok _,by rw[PB r];exact q⟩
  ·subst bT;obtain⟨aq,fz,vs,r,m⟩:kvs.length<=cF/\(p==sysModules)=false/\∃vs,fU kvs vs/\s.heap.DictOf (fu X.prog X.w) p vs:=I.b' p _ hx;have hlen:kvs.length=vs.length:=Paired.length r;exact wpAny_truthy_dict fz m (by omega) ⟨H,I.tok _,by rw[aeE r];exact q⟩
|_=>exact (show False from e).elim
def af0(ax:bO X a cD)(he:∀whole,isTrue a X.env whole=(do let v <- whole;standAt a.pos;holding [v] (truthy v))):
  lF X a (λσ H Q=>cD σ H λx ai=>∃k,LU X.K x ai k/\Q k ai):=by
 intro ah s σ H Q I h;exact isTrue_plain (ct (ax ah s σ H _ I h) λv s1 ⟨x,H1,bE,bg,aO⟩=>ahx ah s1 σ H1 x v Q bE bg aO) (he _)
def aet:fk X (mH .Add) (λx y H Q=>∃i j,x=.str i/\y=.str j/\i.length+j.length<=cF/\Q (.str (i++j)) H):=by
 intro ah s σ H x y v u Q I a3 bK h;obtain⟨i,j,rfl,rfl,aq,q⟩:=h;obtain⟨t,rfl⟩:=a3;obtain⟨t',rfl⟩:=bK;exact add_str (λt' tk=>⟨.str (i++j),H,I.tok _,⟨_,rfl⟩,q⟩) aq
def vals1{x:V}{us:List ao}(r:Vals [x] us):∃u,us=[u]/\RelV x u:=by
 cases r with
|cons bg b7=>cases b7;exact⟨_,rfl,bg⟩
def vals2{x y:V}{us:List ao}(r:Vals [x,y] us):∃u f7,us=[u,f7]/\RelV x u/\RelV y f7:=by
 cases r with
|cons bg b7=>
  cases b7 with
  |cons hE lT=>cases lT;exact⟨_,_,rfl,bg,hE⟩
def afD(aD:X.calm=true):mc X (.builtin "max") (λxs H Q=>∃i j,xs=[.int i,.int j]/\Q (.int (if j > i then j else i)) H):=by
 intro ah s σ H xs us Q I r h;obtain⟨i,j,rfl,q⟩:=h;obtain⟨u,f7,rfl,⟨t,rfl⟩,⟨t',rfl⟩⟩:=vals2 r;refine max_two_ints (I.ok.hd aD) λh' tk k=>⟨_,H,I.kept k,?_,q⟩;by_cases bw:j > i
 ·rw[if_pos bw,if_pos bw];exact⟨_,rfl⟩
 ·rw[if_neg bw,if_neg bw];exact⟨_,rfl⟩
end
end bo
namespace bo
open PySem PySem.Spec PyProof.Rows
structure sf(h:b0)(x bz C:aj)(e0:Str->Option ao):Prop where
 obj:h.get? x=some (rA C bz)
 ns:h.Ns1 bz e0
 ne:bz≠x
def afh{h:b0}{bz:aj}{e0:Str->Option ao}(n:h.Ns1 bz e0):∃f5,h.get? bz=some f5/\∀name,PySem.W.lookIn name f5=some (e0 name):=by
 obtain⟨o,es,ep,aE,hd,aH,_,hm⟩:=n;refine⟨o,aE,λname=>?_⟩;have e:=hm name;unfold nsFind findBy at e;rw[<- Array.find?_toList] at e;unfold PySem.W.lookIn;rw[hd];dsimp only;split
 ·rename_i y q
  rw[q] at e;exact congrArg some e
 ·rename_i q
  rw[q] at e;have a:es.toList.any (·.refKey)=false:=by
   rw[List.any_eq_false];intro y bL;obtain⟨z,t,XT⟩:=aH y (Array.mem_toList_iff.mp bL);simp[DictEntry.refKey,XT]
  have lI:¬es.toList.any (·.refKey)=true:=by rw[a];exact l2
  rw[if_neg lI];exact congrArg some e
def sf.look{h:b0}{x bz C:aj}{e0:Str->Option ao}(I:sf h x bz C e0):∃f5,PySem.W.InstAt h x (rA C bz) C (some f5)/\∀name,PySem.W.lookIn name f5=some (e0 name):=
 let ⟨f5,aE,aw⟩:=afh I.ns
 ⟨f5,⟨I.obj,rfl,rfl,aE⟩,aw⟩
section
variable {prog:cR}{w:cu}{A:c9}{E:ao->aP->Prop}{s:aP}{K:bl}{x bz C f:aj}{e0:Str->Option ao}{name:Str}{v:ao}
def get_map{expr:Bool}{Q:ao->aP->Prop}(X:K.In s.heap)(I:sf s.heap x bz C e0)(br:PySem.W.plainGet K C name=true)(da:PySem.W.hasDictIn K C=true)
  (ax:nj K (.ref C) name=some none) (a5:e0 name=some v) (sV:PySem.W.handedIn v=true) (h:Q v {s with toks:=s.toks+1}):
  bG (bR prog w) A (getAttr (.ref x) name expr) Q E s:=by
 obtain⟨f5,J,aw⟩:=I.look;exact PySem.W.get_value X J (PySem.W.plainGet_of br).1 (PySem.W.findObj_own da ax rfl (by rw[aw,a5])) sV h
def agn{pl:Sem Bool}{Q:ao×List ao->aP->Prop}(X:K.In s.heap)(I:sf s.heap x bz C e0)(br:PySem.W.plainGet K C name=true)
  (hf:nj K (.ref C) name=some (some (.ref f))) (aR:PySem.W.isFn K (.ref f)=true) (a5:e0 name=none) (h:Q (.ref f,[.ref x]) s):
  bG (bR prog w) A (getMethod (.ref x) name pl) Q E s:=by
 obtain⟨f5,J,aw⟩:=I.look;exact PySem.W.method_fn X J (PySem.W.plainGet_of br).1 (PySem.W.plainGet_of br).2 hf (beq_iff_eq.mp aR) (by show (PySem.W.lookIn name f5).map (·.isSome)=some false;rw[aw,a5];rfl) h
def agC{ns:List Str}{Q:Unit->aP->Prop}(X:K.In s.heap)(I:sf s.heap x bz C e0)
  (av:nj K (.ref C) "__setattr__"=some (some (.builtin "object.__setattr__"))) (aC:PySem.W.plainOver K C=true) (aR:PySem.W.takerIn K C name=some none) (da:PySem.W.hasDictIn K C=true)
  (hw:PySem.Within e0 ns) (hsz:ns.length<=cF)
  (h:∀h',sf h' x bz C (λy=>if y=name then some v else e0 y)->Heap.SameBut bz s.heap h'->Q () {s with heap:=h',toks:=s.toks+2}):
  bG (bR prog w) A (setAttr (.ref x) name v) Q E s:=by
 obtain⟨f5,J,aw⟩:=I.look;refine PySem.W.set_plain X J av (PySem.W.osa_open (s:={s with toks:=s.toks+1}) (r:=none) X J aC aR λb=>?_);obtain⟨cd,aD,Gd⟩:=PySem.W.any_some da;have hx:s.heap.get? x=some ⟨.ref C,some bz,.plain,#[]⟩:=I.obj;refine a7 (cH (a7 (a7 (wpAny_loadPart hx (a7 (PySem.W.Looks.here (s:={s with toks:=s.toks+1}) (PySem.W.looks_clsIn X aD) ?_))))));rw[Gd];refine cH (a:=some bz) (a7 (cH (a7 ?_)));refine wpAny_nsSet1 (s:={s with toks:=s.toks+1}) I.ns λh' AS ie=>?_;obtain⟨oD,ajo,ajn,X8,XB,Xu⟩:=AS.count (PySem.Within.cons name v hw);refine a7 (wpAny_lookBehind X8 (by rw[XB];exact pastItsLine_dict (kn Xu (by rw[hF];omega))) ?_);exact cH (h _ ⟨(ie.2 _ (Ne.symm I.ne)).trans I.obj,AS,I.ne⟩ ie)
def age{R:Result->aP->Prop}{vs:List ao}{kw:List (Str×ao)}(X:K.In s.heap)(hm:PySem.W.makesIn K C=true)
  (aS:nj K (.ref C) "__init__"=some (some (.ref f))) (hf:PySem.W.typeIn K (.ref f)=some (.type "function"))
  (h:codeAny (bR prog w) (A.under (.builtin "type.__call__" ⟨.ref C::vs,kw⟩)) (.call (.ref f) ⟨.ref (s.heap.objs.size+1)::vs,kw⟩) (PySem.W.InitBack (s.heap.objs.size+1) R)
   {s with heap:=(s.heap.push ajT).push (rA C s.heap.objs.size)}):
  codeAny (bR prog w) A (.call (.ref C) ⟨vs,kw⟩) R s:=by
 obtain⟨da,g,d,t,os⟩:=s;exact PySem.W.make_core (PySem.W.makes_of X hm) (PySem.W.looks_findIn X aS) (λself=>PySem.W.bind_fn X self hf) (.inl rfl) h
end
noncomputable def hk(f:Str)(v:V):List (Str×V)->List (Str×V)
  | []=>[(f,v)]
  | (g,x)::r=>if g=f then (g,v)::r else (g,x)::hk f v r
theorem Pd(f g:Str)(v:V):∀ay:List (Str×V),(hk f v ay).lookup g=if g=f then some v else ay.lookup g
  | []=>by
    show iT g [(f,v)]=_
    by_cases h:g=f
    · have ae:(g==f)=true:=beq_iff_eq.mpr h
      simp only[iT,ae,if_pos h]
    · have ae:(g==f)=false:=beq_eq_false_iff_ne.mpr h
      simp only[iT,ae,if_neg h]
  | (k,x)::r=>by
    have b2:=Pd f g v r;rw[show hk f v ((k,x)::r)=(if k=f then (k,v)::r else (k,x)::hk f v r) from rfl];by_cases aH:k=f
    · rw[if_pos aH]
      by_cases h:g=k
      · have ae:(g==k)=true:=beq_iff_eq.mpr h
        simp only[iT,ae,if_pos (h.trans aH)]
      · have ae:(g==k)=false:=beq_eq_false_iff_ne.mpr h
        simp only[iT,ae,if_neg (λe:g=f=>h (e.trans aH.symm))]
    · rw[if_neg aH]
      by_cases h:g=k
      · have ae:(g==k)=true:=beq_iff_eq.mpr h
        simp only[iT,ae,if_neg (λe:g=f=>aH (h.symm.trans e))]
      · have ae:(g==k)=false:=beq_eq_false_iff_ne.mpr h
        simp only[iT,ae];exact b2
theorem Ke(f:Str)(v:V):∀ay:List (Str×V),f∈(hk f v ay).map (·.1)/\∀g,g∈ay.map (·.1)->g∈(hk f v ay).map (·.1)
  | []=>⟨by simp[hk],λg h=>by simp at h⟩
  | (k,x)::r=>by
    obtain⟨bZ,b3⟩:=Ke f v r;rw[show hk f v ((k,x)::r)=(if k=f then (k,v)::r else (k,x)::hk f v r) from rfl];by_cases aH:k=f
    · rw[if_pos aH]
      subst aH;exact⟨by simp,λg h=>by simpa using h⟩
    · rw[if_neg aH]
      refine⟨?_,λg h=>?_⟩
      · rw[dk]
        exact dM _ bZ
      · rw[dk] at h ⊢
        rcases cZ.mp h with e|e
        · exact cZ.mpr (.inl e)
        · exact dM _ (b3 g e)
theorem Pf(f:Str)(v:V):∀ay:List (Str×V),(hk f v ay).length<=ay.length+1
  | []=>by simp[hk]
  | (k,x)::r=>by
    have b2:=Pf f v r;rw[show hk f v ((k,x)::r)=(if k=f then (k,v)::r else (k,x)::hk f v r) from rfl];by_cases aH:k=f
    · rw[if_pos aH,hF,hF];omega
    · rw[if_neg aH,hF,hF];omega
def jG.some_of{v:V}{o:Option ao}(r:jG (some v) o):∃u,o=some u/\RelV v u:=by
 cases o with
|none=>exact (show False from r).elim
|some u=>exact⟨u,rfl,r⟩
def jG.none_of{o:Option ao}(r:jG none o):o=none:=by
 cases o with
|none=>rfl
|some u=>exact (show False from r).elim
def afx{v:V}{u:ao}(r:RelV v u):PySem.W.handedIn u=true:=by
 cases v with
|gH=>cases (show u=Value.none from r);rfl
|dr b=>cases (show u=Value.bool b from r);rfl
|int i=>obtain⟨t,e⟩:=(show ∃t,u=Value.int i t from r);cases e;rfl
|str x=>obtain⟨t,e⟩:=(show ∃t,u=Value.str x t from r);cases e;rfl
|sr b=>obtain⟨t,e⟩:=(show ∃t,u=Value.bytes b t from r);cases e;rfl
|wQ b=>obtain⟨t,e⟩:=(show ∃t,u=Value.float b t from r);cases e;rfl
|ref a=>cases (show u=Value.ref a from r);rfl
|ty n=>cases (show u=Value.type n from r);rfl
section
variable {P:cR}{w:cu}{H ai:aA}{h h':b0}{a C bz:aj}{ay h_:List (Str×V)}
def KZ(b':fF P w H h)(e:H a=some (.ins C bz ay)):∃e0,sf h a bz C e0/\(∀f,jG (ay.lookup f) (e0 f))/\PySem.Within e0 (ay.map (·.1))/\ay.length<=1000/\H bz=some (.own a):=by
 obtain⟨d,z,ne,d6,e0,n,r,q⟩:=(show h4 P w H h a (.ins C bz ay) from b' a _ e);exact⟨e0,⟨d6,n,ne⟩,r,q,z,d⟩
end
structure nF(K:bl)(C:aj):Prop where
 pg:PySem.W.plainGet K C Str.empty=true
 hd:PySem.W.hasDictIn K C=true
 po:PySem.W.plainOver K C=true
 sa:nj K (.ref C) "__setattr__"=some (some (.builtin "object.__setattr__"))
def nF.get{K:bl}{C:aj}(c:nF K C)(f:Str):PySem.W.plainGet K C f=true:=c.pg
def qK(K:bl)(C:aj)(f:Str):Prop:=nj K (.ref C) f=some none
def qK.acO{K:bl}{C:aj}{f:Str}(n:qK K C f):PySem.W.takerIn K C f=some none:=by
 unfold PySem.W.takerIn;rw[show nj K (.ref C) f=some none from n];rfl
structure Meth(K:bl)(C:aj)(m:Str)(f:aj):Prop where
 at_:nj K (.ref C) m=some (some (.ref f))
 fn:PySem.W.isFn K (.ref f)=true
 az:ni K (.ref f)=true
section
variable {X:bh}{ah:List (aj×Obj)}{σ:St}{H:aA}{s:aP}{a C bz:aj}{ay:List (Str×V)}{f:Str}{v:V}{A:c9}{E:ao->aP->Prop}
def PE{b:Bool}{Q:ao->aP->Prop}(I:Inv X ah σ H s)(e:H a=some (.ins C bz ay))(c:nF X.K C)(n:qK X.K C f)(l:ay.lookup f=some v)
  (h:∀u s',Inv X ah σ H s'->RelV v u->Q u s'):bG (bR X.prog X.w) A (getAttr (.ref a) f b) Q E s:=by
 obtain⟨e0,O,r,_,_,_⟩:=KZ I.b' e;obtain⟨u,bj,ee⟩:=jG.some_of (v:=v) (o:=e0 f) (by rw[<- l];exact r f);exact get_map I.lO O (c.get f) c.hd n bj (afx ee) (h u _ (I.tok _) ee)
def PD{m:Str}{g:aj}{pl:Sem Bool}{Q:ao×List ao->aP->Prop}(I:Inv X ah σ H s)(e:H a=some (.ins C bz ay))(c:nF X.K C)(k:Meth X.K C m g)(l:ay.lookup m=none)
  (h:Q (.ref g,[.ref a]) s):bG (bR X.prog X.w) A (getMethod (.ref a) m pl) Q E s:=by
 obtain⟨e0,O,r,_,_,_⟩:=KZ I.b' e;have a8:e0 m=none:=jG.none_of (by rw[<- l];exact r m);exact agn I.lO O (c.get m) k.at_ k.fn a8 h
def Pm{y:V}{u:ao}{Q:Unit->aP->Prop}(I:Inv X ah σ H s)(e:H a=some (.ins C bz ay))(c:nF X.K C)(n:qK X.K C f)(aw:ay.length<1000)(bK:RelV y u)
  (h:∀s',Inv X ah σ (upd H a (.ins C bz (hk f y ay))) s'->Q () s'):bG (bR X.prog X.w) A (setAttr (.ref a) f u) Q E s:=by
 obtain⟨e0,O,r,qj,_,aE⟩:=KZ I.b' e;have aq:(ay.map (·.1)).length<=cF:=by rw[gk,lr];omega
 refine agC I.lO O c.sa c.po n.acO c.hd qj aq λh' nI gR=>h _ ?_
 have hd:∃o,h'.get? bz=some o:=let ⟨o,_,_,bT,_⟩:=nI.ns;⟨o,bT⟩;refine I.write (x:=a) (e:=bz) (by rw[e];exact True.intro) (.inr aE) (λb q ae z=>(gR.2 b ae).trans z) hd ?_;refine⟨by rw[cI O.ne];exact aE,?_,O.ne,nI.obj,_,nI.ns,λg=>?_,λg br=>?_⟩
 ·have:=Pf f y ay;omega
 ·show jG ((hk f y ay).lookup g) (if g=f then some u else e0 g)
  rw[Pd];by_cases q:g=f
  ·rw[if_pos q,if_pos q];exact bK
  ·rw[if_neg q,if_neg q];exact r g
 ·by_cases q:g=f
  ·rw[q];exact (Ke f y ay).1
  ·refine (Ke f y ay).2 g (qj g λz=>br ?_)
   show (if g=f then some u else e0 g)=none
   rw[if_neg q];exact z
def Inv.made(I:Inv X ah σ H s):Inv X ah σ (upd (upd H s.heap.objs.size (.own (s.heap.objs.size+1))) (s.heap.objs.size+1) (.ins C s.heap.objs.size []))
  {s with heap:=(s.heap.push ajT).push (rA C s.heap.objs.size)}:=by
 have aQ:(s.heap.push ajT).get? s.heap.objs.size=some ajT:=hX s.heap rfl;have a9:((s.heap.push ajT).push (rA C s.heap.objs.size)).get? (s.heap.objs.size+1)=some (rA C s.heap.objs.size):=by
  have:=hX (s.heap.push ajT) (o:=rA C s.heap.objs.size) rfl
  rwa [kL] at this
 have gc:(s.heap.push ajT).Ns s.heap.objs.size (λ_=>none):=⟨ajT,#[],_,aQ,rfl,(λe he=>absurd he (by simp)),λ_=>rfl⟩;have bE:=I.laid (a:=s.heap.objs.size) (o:=.own (s.heap.objs.size+1)) (h':=s.heap.push ajT) (t':=s.toks) (λb u q=>dq _ q) (el _) ⟨_,aQ⟩;refine bE.laid (a:=s.heap.objs.size+1) (o:=.ins C s.heap.objs.size []) (t':=s.toks) (λb u q=>dq _ q) (Nat.le_of_eq (kL _ _)) ?_;have ne:s.heap.objs.size≠s.heap.objs.size+1:=fD (Nat.lt_succ_self _);refine⟨by rw[cI ne,dI],kP _,ne,a9,λ_=>none,(Heap.Ns1.of_empty gc).at λo q=>dq _ q,λ_=>True.intro,λy bL=>absurd rfl bL⟩
def ahp{prog:cR}{w:cu}{env:Env}{e:bf}{f:Str}{pos:Pos}{s:aP}{Q:ao->aP->Prop}(ae:i5 e f env (eval e env)=eval e env)
  (h:bG (bR prog w) A (eval e env) (λo dH=>bG (bR prog w) A (getAttr o f true) Q E dH) E s):bG (bR prog w) A (eval (.Attribute e f pos) env) Q E s:=
 Attribute_any_ h (by rw[arm_eval_Attribute,ae])
end
noncomputable def acs(K:bl)(cD:TE)(f:Str):TE:=λσ H Q=>cD σ H λx H1=>∃a C bz ay v,x=.ref a/\H1 a=some (.ins C bz ay)/\nF K C/\qK K C f/\ay.lookup f=some v/\Q v H1
noncomputable def abq(K:bl)(cD ho:TE)(f:Str):hL:=λD σ H=>ho σ H λy H1=>cD σ H1 λx ba=>∃a C bz ay,x=.ref a/\ba a=some (.ins C bz ay)/\nF K C/\qK K C f/\ay.length<1000 /\
 D.bY σ (upd ba a (.ins C bz (hk f y ay)))
noncomputable def DQ(X:bh)(op:Operator)(ig:V->V->aA->dx->Prop):Prop:=
 ∀(ah:List (aj×Obj)) (s:aP) (σ:St) (H:aA) (x y:V) (u v:ao) (Q:dx),Inv X ah σ H s->RelV x u->RelV y v->ig x y H Q->bG (bR X.prog X.w) X.A (inplaceOp op u v) (ix X ah σ Q) X.d1 s
noncomputable def agI(K:bl)(cD ho:TE)(ig:V->V->aA->dx->Prop)(f:Str):hL:=λD σ H=>cD σ H λx H1=>∃a C bz ay v,x=.ref a/\H1 a=some (.ins C bz ay)/\nF K C/\qK K C f/\ay.lookup f=some v /\
 ho σ H1 λy ba=>ig v y ba λz c_=>∃uq h_,c_ a=some (.ins C uq h_)/\h_.length<1000/\D.bY σ (upd c_ a (.ins C uq (hk f z h_)))
section
variable {X:bh}{o e value:bf}{f:Str}{pos pos' Jg:Pos}{cD ho:TE}
def qH(he:bO X e cD)(ae:i5 e f X.env (eval e X.env)=eval e X.env):bO X (.Attribute e f pos) (acs X.K cD f):=by
 intro ah s σ H Q I h;refine ahp ae (ct (he ah s σ H _ I h) λu s1 ⟨x,H1,bE,a3,a,C,bz,ay,v,ex,dy,c,n,l,q⟩=>?_);subst ex;obtain rfl:u=Value.ref a:=a3;exact PE bE dy c n l λx5 s2 ck ee=>⟨v,H1,ck,ee,q⟩
def Lf(ax:bO X o cD)(a5:bO X value ho)(av:i6 value (some (.Attribute o f pos')) pos.line X.env=pure false):ky X (.Assign [.Attribute o f pos'] value pos) (abq X.K cD ho f):=by
 intro ah s σ H D I h;refine plainObj_wpAny_Assign_Attribute (ct (a5 ah s σ H _ I h) λu s1 ⟨y,H1,bE,bK,q⟩=>ct (ax ah s1 σ H1 _ bE q) λdU s2 ⟨x,ba,ck,a3,a,C,bz,ay,ex,dy,c,n,l,bb⟩=>?_) av;subst ex;obtain rfl:dU=Value.ref a:=a3;exact Pm ck dy c n l bK λs3 ef=>⟨σ,_,ef,bb⟩
def afa{op:Operator}{ig:V->V->aA->dx->Prop}(ax:bO X o cD)(a5:bO X value ho)(Gr:DQ X op ig):ky X (.AugAssign (.Attribute o f Jg) op value pos) (agI X.K cD ho ig f):=by
 intro ah s σ H D I h;refine wpAny_AugAssign_AttributeAny (ct (ax ah s σ H _ I h) λdU s1 ⟨x,H1,bE,a3,a,C,bz,ay,v,ex,dy,c,n,l,q⟩=>?_);subst ex;obtain rfl:dU=Value.ref a:=a3;refine PE bE dy c n l λu s2 ck ee=>ct (a5 ah s2 σ H1 _ ck q) λBV s3 ⟨y,ba,ef,bK,cQ⟩=>ct (Gr ah s3 σ ba v y u BV _ ef ee bK cQ) λw4 s4 ⟨z,c_,iy,uK,uq,h_,W5,eX,gI⟩=>?_;exact Pm iy W5 c n eX uK λs5 pN=>⟨σ,_,pN,gI⟩
noncomputable def abf:V->V->aA->dx->Prop:=λx y H Q=>∃i j,x=.int i/\y=.int j/\Q (.int (i+j)) H
def R_:DQ X .Add abf:=by
 rintro ah s σ H x y u v Q I a3 bK ⟨i,j,rfl,rfl,q⟩;obtain⟨t,rfl⟩:=(show ∃t,u=Value.int i t from a3);obtain⟨t',rfl⟩:=(show ∃t',v=Value.int j t' from bK);exact PyProof.Rows.iadd_int ⟨.int (i+j),H,I.tok _,⟨_,rfl⟩,q⟩
end
end bo
namespace bo
open PySem PySem.Spec PyProof.Rows
structure d4(k:Nat)(A:c9):Prop where
 hd:A.handled=none
 Aa:A.depth+3*k+5<recursionLimit
 un:A.units+16*k+200<cLine
 ml:A.guards=some []
def d4.mono{j k:Nat}{A:c9}(r:d4 k A)(h:j<=k):d4 j A:=⟨r.hd,by have:=r.Aa;omega,by have:=r.un;omega,r.ml⟩
theorem d4.deeper{k:Nat}{A:c9}(r:d4 (k+1) A)(env:Env):d4 k (A.deeper env):=
 ⟨r.hd,by have:=r.Aa;show A.depth+1+3*k+5<_;omega,by have:=r.un;show A.units+3+16*k+200<_;omega,r.ml⟩
def aey{A:c9}{C:aj}{us:List ao}{kw:List (Str×ao)}:(A.under (.builtin "type.__call__" ⟨.ref C::us,kw⟩)).depth=A.depth+1:=by
 first|rfl|simp[Around.under,Code.weight,Code.isCreation,Code.isGuard,Code.isCaller,Code.frames,Code.isFrame,guardIds]
def aex{A:c9}{C:aj}{us:List ao}{kw:List (Str×ao)}:(A.under (.builtin "type.__call__" ⟨.ref C::us,kw⟩)).units=A.units+1:=by
 first|rfl|simp[Around.under,Code.cUnits,Code.frames,Code.isFrame]
def ad9{A:c9}{C:aj}{us:List ao}{kw:List (Str×ao)}:(A.under (.builtin "type.__call__" ⟨.ref C::us,kw⟩)).guards=A.guards:=by
 first|rfl|simp[Around.under,Code.weight,Code.isCreation,Code.isGuard,Code.isCaller,Code.frames,Code.isFrame,guardIds,Code.guards]
def d4.make{k:Nat}{A:c9}(r:d4 (k+1) A)(C:aj)(us:List ao)(kw:List (Str×ao)):d4 k (A.under (.builtin "type.__call__" ⟨.ref C::us,kw⟩)):=
 ⟨r.hd,by have:=r.Aa;rw[aey];omega,by have:=r.un;rw[aex];omega,ad9.trans r.ml⟩
theorem d4.depth{k:Nat}{A:c9}(r:d4 k A):A.depth<recursionLimit:=by have:=r.Aa;omega
theorem d4.units{k:Nat}{A:c9}(r:d4 k A):A.units+64<cLine:=by have:=r.un;omega
def Ja:f':=λ_ H Q=>Q [] H
noncomputable def aiI(cD:TE)(hU:f'):f':=λσ H Q=>cD σ H λx H1=>hU σ H1 λxs ba=>Q (x::xs) ba
section
variable {X:bh}{e:bf}{es:List bf}{gS:TE}{t:f'}{pos:Pos}
def lA:h5 X [] Ja:=λ_ _ _ _ H Q I h=>Calls.spliced_nil ⟨[],H,I,.nil,h⟩
def i7(ax:bO X e gS)(ar:h5 X es t)(av:bB (e::es) X.env=(false,eval e X.env)::bB es X.env:=by rfl):h5 X (e::es) (aiI gS t):=by
 intro pos ah s σ H Q I h;rw[av];show bG _ _ (spliced ((false,eval e X.env)::dR pos (bB es X.env))) _ _ s;refine Calls.spliced_cons (ct (ax ah s σ H _ I h) λu s1 ⟨x,H1,bE,bg,aO⟩=>?_);exact ct (ar pos ah s1 σ H1 _ bE aO) λus s2 ⟨xs,ba,ck,b7,bb⟩=>⟨x::xs,ba,ck,.cons bg b7,bb⟩
noncomputable def acG(t:f'):TE:=λσ H Q=>t σ H λxs H1=>xs.length<=cF/\∀p,H1 p=none->Q (.ref p) (upd H1 p (.tup xs))
noncomputable def acA(t:f'):TE:=λσ H Q=>t σ H λxs H1=>xs.length<=cF/\∀p,H1 p=none->Q (.ref p) (upd H1 p (.lst xs))
def ahV{aJ}(h:h5 X es t):bO X (.Tuple es aJ pos) (acG t):=by
 intro ah s σ H Q I bt;refine wpAny_Tuple_spliced (ct (h pos ah s σ H _ I bt) λus s1 ⟨xs,H1,bE,r,z,q⟩=>⟨by rw[<- r.length];exact z,?_⟩);have hf:H1 s1.heap.objs.size=none:=bE.b'.fresh (el _);refine⟨.ref s1.heap.objs.size,upd H1 s1.heap.objs.size (.tup xs),bE.laid (t':=s1.toks) (λb u e=>dq _ e) (el _) ?_,rfl,q _ hf⟩;exact⟨z,us,r,⟨_,hX _ rfl,rfl,_,rfl⟩⟩
def ahZ(h:h5 X es t):bO X (.List es pos) (acA t):=by
 intro ah s σ H Q I bt;refine wpAny_List_spliced (ct (h pos ah s σ H _ I bt) λus s1 ⟨xs,H1,bE,r,z,q⟩=>⟨by rw[<- r.length];exact z,?_⟩);have hf:H1 s1.heap.objs.size=none:=bE.b'.fresh (el _);refine⟨.ref s1.heap.objs.size,upd H1 s1.heap.objs.size (.lst xs),bE.laid (t':=s1.toks) (λb u e=>dq _ e) (el _) ?_,rfl,q _ hf⟩;exact⟨z,us,0,r,hX _ rfl⟩
end
abbrev kz:=List V->aA->dx->gN->Prop
abbrev md:=List Env->aA->aP->gN->ao->aP->Prop
structure r'(P:cR)(w:cu)(K:bl)(mg:Str->Option ao)(base:b0)(A:c9)(outer:List Env)(s:aP)(H:aA):Prop where
 frames:A.frames=some outer
 mod:Mod K mg base
 bs:∀b o,base.get? b=some o->s.heap.get? b=some o/\H b=none
 q4:base.objs.size<=s.heap.objs.size
 m3:s.heap.FunFrames base outer
 sz:∀b∈nR outer,H b=none
 b':fF P w H s.heap
 bare:AllBare s.gens
noncomputable def DL(outer:List Env)(P:cR)(w:cu)(H:aA)(s:aP)(Q:dx)(u:ao)(s':aP):Prop:=
 ∃v ai,s'.os=s.os/\AllBare s'.gens/\hM (nR outer) [] H ai s.heap s'.heap/\fF P w ai s'.heap/\RelV v u/\Q v ai
noncomputable def SI(eF:md)(outer:List Env)(P:cR)(w:cu)(H:aA)(s:aP)(Q:dx)(E:gN)(r:Result)(s':aP):Prop:=
 match r with
|.ok (.ret u)=>DL outer P w H s Q u s'
|.ok _=>False
|.error e=>eF outer H s E e s'
structure fw(P:cR)(w:cu)(K:bl)(mg:Str->Option ao)(base:b0)(eF:md)(k:Nat)(f:aj)(fd:gj)(ps:List Str)(sp:kz):Prop where
 len:∀vs H Q E,sp vs H Q E->vs.length=ps.length
 run:∀(A:c9) (outer:List Env) (s:aP) (H:aA) (args:Args) (us:List ao) (vs:List V) (Q:dx) (E:gN),d4 k A->r' P w K mg base A outer s H->BindsTo s fd args (ps.zip us)->Vals vs us->sp vs H Q E ->
  codeAny (bR P w) A (.call (.ref f) args) (SI eF outer P w H s Q E) s
theorem fw.mono{P:cR}{w:cu}{K:bl}{mg:Str->Option ao}{base:b0}{eF:md}{j k:Nat}{f:aj}{fd:gj}{ps:List Str}{sp:kz}(F:fw P w K mg base eF j f fd ps sp)(h:j<=k):
  fw P w K mg base eF k f fd ps sp:=⟨F.len,λA outer s H args us vs Q E ar=>F.run A outer s H args us vs Q E (ar.mono h)⟩
def fw.imp{P:cR}{w:cu}{K:bl}{mg:Str->Option ao}{base:b0}{eF:md}{k:Nat}{f:aj}{fd:gj}{ps:List Str}{sp N9:kz}(F:fw P w K mg base eF k f fd ps sp)
  (h:∀vs H Q E,N9 vs H Q E->sp vs H Q E):fw P w K mg base eF k f fd ps N9:=
 ⟨λvs H Q E q=>F.len vs H Q E (h _ _ _ _ q),λA outer s H args us vs Q E ar he ae a5 av=>F.run A outer s H args us vs Q E ar he ae a5 (h _ _ _ _ av)⟩
def r'.make{P:cR}{w:cu}{K:bl}{mg:Str->Option ao}{base:b0}{A:c9}{outer:List Env}{s:aP}{H:aA}(e:r' P w K mg base A outer s H)(C:aj)(us:List ao)(kw:List (Str×ao)):
  r' P w K mg base (A.under (.builtin "type.__call__" ⟨.ref C::us,kw⟩)) outer s H:=⟨by first|exact e.frames|(simpa [Around.under,Code.envs,Code.isFrame,pushEnvs] using e.frames),e.mod,e.bs,e.q4,e.m3,e.sz,e.b',e.bare⟩
section
variable {X:bh}{ah:List (aj×Obj)}{σ:St}{H:aA}{s s':aP}
def Inv.MW(I:Inv X ah σ H s):r' X.prog X.w X.K X.mg X.base X.A X.stack s H:=
 ⟨I.ok.frames,I.ok.mod,I.bs,kn I.ok.q4 I.i4,I.stack,I.Ob,I.b',I.bare⟩
def Inv.after{Q:dx}{u:ao}(I:Inv X ah σ H s)(h:DL X.stack X.prog X.w H s Q u s'):ix X ah σ Q u s':=by
 obtain⟨v,ai,os,bare,un,b',r,q⟩:=h;obtain⟨da,g,d,t,aaq⟩:=s';obtain rfl:aaq=s.os:=os;exact⟨v,ai,I.call (h':=da) (g':=g) (d':=d) (t':=t) (ch:=[]) un b' bare (λb z=>absurd z (by simp)),r,q⟩
end
noncomputable def aiJ(sp:kz)(iH:List V)(E:gN)(t:f'):TE:=λσ H Q=>t σ H λvs H1=>sp (vs++iH) H1 Q E
noncomputable def So(C:aj)(m:Str)(sp:kz)(iH:List V)(E:gN)(cD:TE)(t:f'):TE:=λσ H Q=>cD σ H λx H1=>∃a bz ay,x=.ref a/\H1 a=some (.ins C bz ay)/\ay.lookup m=none /\
 t σ H1 λvs ba=>sp (x::(vs++iH)) ba Q E
noncomputable def aiE(C:aj)(sp:kz)(iH:List V)(E:gN)(t:f'):TE:=λσ H Q=>t σ H λvs H1=>∀x bz,H1 x=none->H1 bz=none->bz≠x ->
 sp (.ref x::(vs++iH)) (upd (upd H1 bz (.own x)) x (.ins C bz [])) (λv ba=>v=.gH/\Q (.ref x) ba) E
noncomputable def Binds(K:bl)(fd:gj)(ps:List Str)(ds:List ao):Prop:=
 ∀(s:aP) (us:List ao),K.In s.heap->(us++ds).length=ps.length->BindsTo s fd ⟨us,[]⟩ (ps.zip (us++ds))
def Binds.all{K:bl}{fd:gj}{ps:List Str}(h:∀us:List ao,us.length=ps.length->bindArgs fd ⟨us,[]⟩=pure (ps.zip us)):Binds K fd ps []:=λs us _ aw=>by
 rw[mE] at aw ⊢;exact .of_eq (h us aw)
noncomputable def Passes(eF:md)(X:bh)(E:gN):Prop:=∀(ah:List (aj×Obj)) (σ:St) (H:aA) (s:aP) (e:ao) (s':aP),Inv X ah σ H s->eF X.stack H s E e s'->X.d1 e s'
section
variable {X:bh}{eF:md}{k:Nat}{f C:aj}{fd:gj}{ps:List Str}{sp:kz}{iH:List V}{ds:List ao}{E:gN}{x m:Str}{p pos apos:Pos}{e o:bf}{es:List bf}{cD:TE}{t:f'}
def Ld{ah:List (aj×Obj)}{σ:St}{H:aA}{s:aP}{Q:dx}{us:List ao}{vs:List V}(F:fw X.prog X.w X.K X.mg X.base eF k f fd ps sp)(ar:d4 k X.A)(ae:Binds X.K fd ps ds)(hd:Vals iH ds)(hx:Passes eF X E)
  (I:Inv X ah σ H s) (r:Vals vs us) (h:sp (vs++iH) H Q E):bG (bR X.prog X.w) X.A (call (.ref f) us) (ix X ah σ Q) X.d1 s:=by
 have b7:Vals (vs++iH) (us++ds):=r.append hd;have aw:(us++ds).length=ps.length:=by rw[<- b7.length];exact F.len _ _ _ _ h
 refine wpAny_call (codeAny_mono (F.run X.A X.stack s H ⟨us,[]⟩ (us++ds) (vs++iH) Q E ar I.MW (ae s us I.lO aw) b7 h) λr s' bt=>?_)
 cases r with
|error e=>exact hx ah σ H s e s' I bt
|ok oL=>
  cases oL with
  |ret u=>exact I.after bt
  |next=>exact mD bt
  |brk=>exact mD bt
  |cont=>exact mD bt
def zo(F:fw X.prog X.w X.K X.mg X.base eF k f fd ps sp)(ar:d4 k X.A)(br:fi X x)(hm:X.mg x=some (.ref f))(aH:ni X.K (.ref f)=true)(ae:Binds X.K fd ps ds)(hd:Vals iH ds)(hx:Passes eF X E)
  (ax:h5 X (e::es) t) (iL:(x==("__debug__":Str))=false:=by decide) (he:bB (e::es) X.env=(false,eval e X.env)::bB es X.env:=by rfl) (hpl:(dR pos (bB es X.env)).any (·.1)=false:=by rfl):
  bO X (.Call (.Name x p) (e::es) [] pos) (aiJ sp iH E t):=by
 intro ah s σ H Q I h;refine u2 (KY I br hm ?_ iL);refine PySem.W.callWith_K (h₀:=X.base) I.ok.mod.xq aH (ct (ax pos ah s σ H _ I h) λus s1 ⟨vs,H1,bE,r,q⟩=>⟨bE.lO,?_⟩) he hpl;exact Ld F ar ae hd hx bE r q
def Q_{pl:Sem Bool}(he:bO X o cD)(c:nF X.K C)(hm:Meth X.K C m f)(F:fw X.prog X.w X.K X.mg X.base eF k f fd ps sp)(ar:d4 k X.A)(ae:Binds X.K fd ps ds)(hd:Vals iH ds)(hx:Passes eF X E)(ax:h5 X (e::es) t)
  (mq:bB (e::es) X.env=(false,eval e X.env)::bB es X.env:=by rfl) (hpl:(dR pos (bB es X.env)).any (·.1)=false:=by rfl)
  (aR:eval (.Call (.Attribute o m apos) (e::es) [] pos) X.env=(do
   let dU <- eval o X.env
   standAt apos.atName
   let (f,first) <- holding [dU] (getMethod dU m pl)
   callWith pos f first (dR pos (bB (e::es) X.env)) (l4 pos (l3 [] X.env))):=by rfl):
  bO X (.Call (.Attribute o m apos) (e::es) [] pos) (So C m sp iH E cD t):=by
 intro ah s σ H Q I h;refine PySem.W.methodCall_KW (pl:=pl) (ct (he ah s σ H _ I h) λu s1 ⟨x,H1,bE,a3,a,bz,ay,ex,dy,l,q⟩=>?_) aR;subst ex;obtain rfl:u=Value.ref a:=a3;refine PD bE dy c hm l ?_;refine PySem.W.callWith_K (first:=[.ref a]) (h₀:=X.base) I.ok.mod.xq hm.az (ct (ax pos ah s1 σ H1 _ bE q) λus s2 ⟨vs,ba,ck,r,bb⟩=>⟨ck.lO,?_⟩) mq hpl;exact Ld (us:=.ref a::us) (vs:=.ref a::vs) F ar ae hd hx ck (.cons rfl r) bb
def QD{pl:Sem Bool}(he:bO X o cD)(c:nF X.K C)(hm:Meth X.K C m f)(F:fw X.prog X.w X.K X.mg X.base eF k f fd ps sp)(ar:d4 k X.A)(ae:Binds X.K fd ps ds)(hd:Vals iH ds)(hx:Passes eF X E)
  (aR:eval (.Call (.Attribute o m apos) [] [] pos) X.env=(do
   let dU <- eval o X.env
   standAt apos.atName
   let (f,first) <- holding [dU] (getMethod dU m pl)
   callWith pos f first (dR pos (bB [] X.env)) (l4 pos (l3 [] X.env))):=by rfl):
  bO X (.Call (.Attribute o m apos) [] [] pos) (So C m sp iH E cD Ja):=by
 intro ah s σ H Q I h;refine PySem.W.methodCall_KW (pl:=pl) (ct (he ah s σ H _ I h) λu s1 ⟨x,H1,bE,a3,a,bz,ay,ex,dy,l,q⟩=>?_) aR;subst ex;obtain rfl:u=Value.ref a:=a3;refine PD bE dy c hm l ?_;exact PySem.W.callWith_K0 (first:=[.ref a]) bE.lO hm.az (Ld (us:=[.ref a]) (vs:=[.ref a]) F ar ae hd hx bE (.cons rfl .nil) q)
structure wu(K:bl)(C f:aj):Prop where
 makes:PySem.W.makesIn K C=true
 init:nj K (.ref C) "__init__"=some (some (.ref f))
 fn:PySem.W.isFn K (.ref f)=true
 az:ni K (.ref C)=true
def afV{ah:List (aj×Obj)}{σ:St}{H:aA}{s:aP}{Q:dx}{us:List ao}{vs:List V}(M:wu X.K C f)(F:fw X.prog X.w X.K X.mg X.base eF k f fd ps sp)(ar:d4 (k+1) X.A)(ae:Binds X.K fd ps ds)(hd:Vals iH ds)
  (hx:Passes eF X E) (I:Inv X ah σ H s) (r:Vals vs us)
  (h:∀x bz,H x=none->H bz=none->bz≠x->sp (.ref x::(vs++iH)) (upd (upd H bz (.own x)) x (.ins C bz [])) (λv ba=>v=.gH/\Q (.ref x) ba) E):
  bG (bR X.prog X.w) X.A (call (.ref C) us) (ix X ah σ Q) X.d1 s:=by
 have bt:=h (s.heap.objs.size+1) s.heap.objs.size (I.b'.fresh (pa _)) (I.b'.fresh (el _)) (fD (Nat.lt_succ_self _));have ck:=Inv.made (C:=C) I;have b7:Vals (V.ref (s.heap.objs.size+1)::(vs++iH)) (Value.ref (s.heap.objs.size+1)::(us++ds)):=.cons rfl (r.append hd);have aw:(Value.ref (s.heap.objs.size+1)::us++ds).length=ps.length:=by
  have e:=b7.length;rw[F.len _ _ _ _ bt] at e;exact e.symm
 refine wpAny_call (age (f:=f) I.lO M.makes M.init (beq_iff_eq.mp M.fn) (codeAny_mono (F.run _ X.stack _ _ ⟨Value.ref (s.heap.objs.size+1)::us,[]⟩ (Value.ref (s.heap.objs.size+1)::(us++ds)) _ _ E (ar.make C us [])
  (ck.MW.make C us []) (ae _ (Value.ref (s.heap.objs.size+1)::us) ck.lO aw) b7 bt) λr s' xb=>?_))
 cases r with
|error e=>exact hx ah σ _ _ e s' ck xb
|ok oL=>
  cases oL with
  |ret u=>
   obtain⟨v,ai,ef,b9,ev,cQ⟩:=ck.after xb;subst ev;exact⟨b9,⟨V.ref (s.heap.objs.size+1),ai,ef,rfl,cQ⟩⟩
  |next=>exact mD xb
  |brk=>exact mD xb
  |cont=>exact mD xb
def ag2(M:wu X.K C f)(F:fw X.prog X.w X.K X.mg X.base eF k f fd ps sp)(ar:d4 (k+1) X.A)(br:fi X x)(hm:X.mg x=some (.ref C))(ae:Binds X.K fd ps ds)(hd:Vals iH ds)(hx:Passes eF X E)
  (ax:h5 X (e::es) t) (iL:(x==("__debug__":Str))=false:=by decide) (he:bB (e::es) X.env=(false,eval e X.env)::bB es X.env:=by rfl) (hpl:(dR pos (bB es X.env)).any (·.1)=false:=by rfl):
  bO X (.Call (.Name x p) (e::es) [] pos) (aiE C sp iH E t):=by
 intro ah s σ H Q I h;refine u2 (KY I br hm ?_ iL);refine PySem.W.callWith_K (h₀:=X.base) I.ok.mod.xq M.az (ct (ax pos ah s σ H _ I h) λus s1 ⟨vs,H1,bE,r,q⟩=>⟨bE.lO,?_⟩) he hpl;exact afV M F ar ae hd hx bE r q
end
noncomputable def Ug(X:bh)(Nz:List Keyword)(t:f'):Prop:=
 ∀(pos:Pos) (ah:List (aj×Obj)) (s:aP) (σ:St) (H:aA) (Q:List V->aA->Prop),Inv X ah σ H s->t σ H Q->bG (bR X.prog X.w) X.A (evalAll ((l4 pos (l3 Nz X.env)).map (·.2))) (Ly X ah σ Q) X.d1 s
section
variable {X:bh}{eF:md}{k:Nat}{f C:aj}{fd:gj}{ps bc:List Str}{sp:kz}{E:gN}{x m:Str}{p pos apos ajD:Pos}{e o:bf}{es:List bf}{Nz:List Keyword}{gS cD:TE}{t tk:f'}{nm:Option Str}
def RT:Ug X [] Ja:=λ_ _ _ _ H Q I h=>wpAny_evalAll_nil ⟨[],H,I,.nil,h⟩
variable {g:List ao->List ao->List ao}{gV:List V->List V->List V}
end
structure dc(N P:List Str)(sc:Scope):Prop where
 kind:sc.kind=.function
 co:sc.isCoroutine=false
 gen:sc.isGenerator=false
 aW:N.Nodup
 pre:N.take P.length=P
 par:∀x∈P,sc.names.lookup x=some .local\/sc.names.lookup x=some .cell
 Zw:∀y∈sc.names,y.2≠.free
theorem Qd{kindOf:Str->Option mI}{x:Str}:∀{binds:List (Str×ao)} {m:Str->Option ao},(∀v,(x,v)∉binds)->bindL kindOf binds m x=m x
  | [],_,_=>rfl
  | (n,v)::r,m,h=>by
    unfold bindL;rw[Qd λw hw=>h w (dM _ hw)];split
    · have:x≠n:=by rintro rfl;exact h v e8
      simp[this]
    · rfl
theorem Qf{kindOf:Str->Option mI}{x:Str}:∀{binds:List (Str×ao)} {m:Str->Option ao},(∀v,(x,v)∉binds)->bindC kindOf binds m x=m x
  | [],_,_=>rfl
  | (n,v)::r,m,h=>by
    unfold bindC;rw[Qf λw hw=>h w (dM _ hw)];split
    · rfl
    · have:x≠n:=by rintro rfl;exact h v e8
      simp[this]
theorem Qe{kindOf:Str->Option mI}{x:Str}{v:ao}:∀{P:List Str} {vs:List ao} {i:Nat} {m:Str->Option ao},P.Nodup->P[i]?=some x->vs[i]?=some v->kindOf x=some .local ->
  bindL kindOf (P.zip vs) m x=some v
| [],_,_,_,_,h,_,_=>by simp at h
|_::_,[],_,_,_,_,h,_=>by simp at h
|p::P,w::vs,0,m,aW,af,ak,aH=>by
  simp at af ak;subst af;subst ak;show bindL kindOf ((p,w)::P.zip vs) m p=_;unfold bindL;rw[Qd λv a5=>(dX.mp aW).1 (List.of_mem_zip a5).1,if_pos aH];simp
|p::P,w::vs,i+1,m,aW,af,ak,aH=>by
  show bindL kindOf ((p,w)::P.zip vs) m x=_
  unfold bindL;exact Qe (i:=i) (dX.mp aW).2 (by simpa using af) (by simpa using ak) aH
theorem Qg{kindOf:Str->Option mI}{x:Str}{v:ao}:∀{P:List Str} {vs:List ao} {i:Nat} {m:Str->Option ao},P.Nodup->P[i]?=some x->vs[i]?=some v->kindOf x≠some .local ->
  bindC kindOf (P.zip vs) m x=some v
| [],_,_,_,_,h,_,_=>by simp at h
|_::_,[],_,_,_,_,h,_=>by simp at h
|p::P,w::vs,0,m,aW,af,ak,aH=>by
  simp at af ak;subst af;subst ak;show bindC kindOf ((p,w)::P.zip vs) m p=_;unfold bindC;rw[Qf λv a5=>(dX.mp aW).1 (List.of_mem_zip a5).1,if_neg aH];simp
|p::P,w::vs,i+1,m,aW,af,ak,aH=>by
  show bindC kindOf ((p,w)::P.zip vs) m x=_
  unfold bindC;exact Qg (i:=i) (dX.mp aW).2 (by simpa using af) (by simpa using ak) aH
def start(N:List Str)(vs:List V):St:=vs.map some++dW (N.length - vs.length) none
noncomputable def jL(eF:md)(P:cR)(w:cu)(K:bl)(mg:Str->Option ao)(base:b0)(N:List Str)(qual:Str)(scope:Scope)(f:aj)(cd:ao)(A:c9)(outer:List Env)(s:aP)(H:aA)(E:gN):bh where
 prog:=P
 w:=w
 K:=K
 mg:=mg
 base:=base
 A:=A.deeper (envOfC qual scope s.heap.objs.size f cd)
 N:=N
 c7:=s
 aK:=H
 env:=envOfC qual scope s.heap.objs.size f cd
 outer:=outer
 stack:=envOfC qual scope s.heap.objs.size f cd::outer
 ex:=[]
 calm:=true
 fn:=λ_=>true
 dp:=[]
 d1:=λe s'=>bG (bR P w) (A.deeper (envOfC qual scope s.heap.objs.size f cd)) (leaving (envOfC qual scope s.heap.objs.size f cd) e) (λ_ I5=>eF outer H s E e I5) (λbT I5=>eF outer H s E bT I5) s'
def QR{sc:Scope}{n:Nat}{x:Str}(h:sc.names.lookup x=some .cell):∃c,(cellsFrom n sc.names []).lookup x=some c:=by
 have q:=PySem.W.cellsFrom_some sc.names n [] (.inl h);exact Option.isSome_iff_exists.mp q
def aft{eF:md}{P:cR}{w:cu}{K:bl}{mg:Str->Option ao}{base:b0}{N ps:List Str}{qual:Str}{scope:Scope}{f:aj}{cd:ao}{A:c9}{outer:List Env}{s s1:aP}{H:aA}{E:gN}{us:List ao}{vs:List V}
  (S:dc N ps scope) (hd:A.handled=none) (eB:r' P w K mg base A outer s H) (aw:vs.length=ps.length) (r:Vals vs us)
  (x:InCallC s s.heap.objs.size (bindL (envOfC qual scope s.heap.objs.size f cd).kindOf (ps.zip us) λ_=>none) (cellsFrom (s.heap.objs.size+1) scope.names []) (bindC (envOfC qual scope s.heap.objs.size f cd).kindOf (ps.zip us) λ_=>none) s1):
  Inv (jL eF P w K mg base N qual scope f cd A outer s H E) [] (start N vs) H s1:=by
 have hpl:ps.length<=N.length:=by have:=congrArg List.length S.pre;rw[List.length_take] at this;omega
 obtain⟨af,tk,rfl,aH⟩:=x.done;have xD:∀b:aj,b∉(jL eF P w K mg base N qual scope f cd A outer s H E).ex:=λb z=>absurd (show b∈([]:List aj) from z) (by simp);refine⟨⟨eB.mod,S.kind,rfl,rfl,el _,λy z c af ak=>?_,λy bL=>?_,λy c _ h=>?_,λ_=>hd,Around.frames_deeper eB.frames,.inr ⟨rfl,rfl⟩,λb z=>absurd z (xD b),eB.bs,eB.q4,λb _ _=>xD b,λb z=>absurd z (xD b),eB.m3,eB.sz⟩,
  rfl,eB.bare,hM.kept aH,⟨_,x.toInCall.ns,λi y v af ak bA=>?_⟩,λy c h=>⟨_,x.cell y c h⟩,eB.b'.fresh (el _),λy c h=>?_,λp aC=>absurd (show p∈([]:List (aj×Obj)) from aC) (by simp),eB.b'.kept aH,?_⟩
 ·exact name_of_addr x.apart (x9 af) (x9 ak)
 ·have bL:scope.names.lookup y=some .cell\/scope.names.lookup y=some .free:=bL;rcases bL with bL|bL
  ·exact QR bL
  ·exact absurd rfl (S.Zw _ (x9 bL))
 ·exact Nat.le_of_lt (x.above y c (x9 h))
 ·have aS:i<vs.length:=by
   unfold start at ak;by_cases aS:i<vs.length
   ·exact aS
   ·rw[uV (by simpa using aS)] at ak;rw[List.getElem?_replicate] at ak;split at ak <;> cases ak
  have ax:vs[i]?=some v:=by
   unfold start at ak;rw[uW (by simpa using aS),hq] at ak;cases e:vs[i]? with
   |none=>rw[e] at ak;cases ak
   |some a=>rw[e] at ak;cases ak;rfl
  obtain⟨u,bj,b9⟩:=r.get ax;have aC:ps[i]?=some y:=by
   rw[<- S.pre,List.getElem?_take_of_lt (by omega)];exact af
  have NJ:ps.Nodup:=by rw[<- S.pre];exact S.aW.sublist (List.take_sublist _ _)
  refine⟨u,b9,?_⟩
  rcases S.par y (ko aC) with k|k
  ·exact .inl ⟨k,Qe NJ aC bj k⟩
  ·obtain⟨c,e⟩:=QR (n:=s.heap.objs.size+1) k;refine .inr ⟨.inl k,c,e,?_⟩;have q:=x.cell y c e;rw[Qg NJ aC bj (by show scope.names.lookup y≠_;rw[k];decide)] at q;exact q
 ·exact eB.b'.fresh (Nat.le_of_lt (x.above y c (x9 h)))
 ·unfold start;show _=N.length;rw[qq,gk,List.length_replicate];omega
def ai'{eF:md}{P:cR}{w:cu}{K:bl}{mg:Str->Option ao}{base:b0}{k:Nat}{f:aj}{name qual:Str}{params:Arguments}{body:List Stmt}{scope:Scope}{z_ ei doc pm cW e' kf:ao}{an f5:Option aj}
  {rn:Array (Option ao)} {N ps:List Str} {sp:kz} (lk:K.lookup f=some ⟨kf,f5,.func (ry name qual params body scope z_ ei doc pm an cW e'),rn⟩) (j':PySem.W.codeIn K cW qual=true) (S:dc N ps scope)
  (len:∀vs H Q E,sp vs H Q E->vs.length=ps.length)
  (Gb:∀(A:c9) (outer:List Env) (s:aP) (H:aA) (vs:List V) (Q:dx) (E:gN),d4 k (A.deeper (envOfC qual scope s.heap.objs.size f cW))->sp vs H Q E ->
   ∃t,kY (jL eF P w K mg base N qual scope f cW A outer s H E) body t/\t {bY:=λ_ ai=>Q .gH ai,fa:=Q} (start N vs) H):
  fw P w K mg base eF (k+1) f (ry name qual params body scope z_ ei doc pm an cW e') ps sp:=by
 refine⟨len,λA outer s H args us vs Q E ar eB ae r rg=>?_⟩
 have aw:=len _ _ _ _ rg;have oA:K.In s.heap:=eB.mod.xq.keeps λb o e=>(eB.bs b o e).1;have lim:s.heap.NoLimit:=eB.mod.nolimit.keeps λb o e=>(eB.bs b o e).1;have XU:∀y∈ps.zip us,scope.names.lookup y.1=some .local\/(scope.names.lookup y.1=some .cell/\((cellsFrom (s.heap.objs.size+1) scope.names []).lookup y.1).isSome=true):=λ⟨n,v⟩ bL=>by
  rcases S.par n (List.of_mem_zip bL).1 with q|q
  ·exact .inl q
  ·exact .inr ⟨q,PySem.W.cellsFrom_some _ _ _ (.inl q)⟩
 refine codeAny_call_function ar.depth (oA _ _ lk) rfl S.co S.gen rfl (PySem.W.codeRec_of oA j') (ae _ _ _ _ ?_)
 refine wpAny_newFunctionEnv_cells S.kind XU λenv he s1 x=>?_
 subst he;refine⟨lim.keeps x.toInCall.keep,codeAny_func ?_⟩;obtain⟨t,aR,bt⟩:=Gb A outer s H vs Q E (ar.deeper _) rg;have I:Inv (jL eF P w K mg base N qual scope f cW A outer s H E) [] (start N vs) H s1:=aft S ar.hd eB aw r x;refine gv (aR [] s1 (start N vs) H _ I bt) (λoL s' av=>?_) λe s' av=>av;have fin:∀{cn:St} {ai:aA} {v:V} {u:ao},Inv (jL eF P w K mg base N qual scope f cW A outer s H E) [] cn ai s'->RelV v u->Q v ai->DL outer P w H s Q u s':=
  λ{cn ai v u} J b9 q=>⟨v,ai,J.os,J.bare,J.base,J.b',b9,q⟩
 cases oL with
|ret u=>
  obtain⟨v,cn,ai,J,b9,q⟩:=av;exact fin J b9 q
|next=>
  obtain⟨cn,ai,J,q⟩:=av;exact fin (v:=V.gH) (u:=Value.none) J rfl q
|brk=>
  obtain⟨_,_,_,q⟩:=av;exact mD q
|cont=>
  obtain⟨_,_,_,q⟩:=av;exact mD q
end bo
namespace bo
open PySem PySem.Spec PyProof.Rows
section
variable {X:bh}{x:Str}{p pos:Pos}{e:bf}{es:List bf}{t:f'}{id T:String}{r:List V->aA->dx->Prop}
def I_(r:List V->aA->dx->Prop)(t:f'):TE:=λσ H Q=>t σ H λvs H1=>r vs H1 Q
def zc(aD:mc X (.builtin id) r)(br:fi X x)(hm:X.mg x=none)(a5:bootBuiltins x=some (.builtin id))(ax:h5 X (e::es) t)(a8:x≠"__name__":=by decide)(iL:(x==("__debug__":Str))=false:=by decide)
  (he:bB (e::es) X.env=(false,eval e X.env)::bB es X.env:=by rfl) (hpl:(dR pos (bB es X.env)).any (·.1)=false:=by rfl):bO X (.Call (.Name x p) (e::es) [] pos) (I_ r t):=by
 intro ah s σ H Q I h;refine u2 (tY I br hm a5 ?_ a8 iL);exact PyProof.Rows.callWith_builtin1 (ct (ax pos ah s σ H _ I h) λus s1 ⟨vs,H1,bE,bg,aO⟩=>aD ah s1 σ H1 vs us Q bE bg aO) he hpl
def Ka(aD:mc X (.type T) r)(br:fi X x)(hm:X.mg x=none)(a5:bootBuiltins x=some (.type T))(ax:h5 X (e::es) t)(a8:x≠"__name__":=by decide)(iL:(x==("__debug__":Str))=false:=by decide)
  (he:bB (e::es) X.env=(false,eval e X.env)::bB es X.env:=by rfl) (hpl:(dR pos (bB es X.env)).any (·.1)=false:=by rfl):bO X (.Call (.Name x p) (e::es) [] pos) (I_ r t):=by
 intro ah s σ H Q I h;refine u2 (tY I br hm a5 ?_ a8 iL);exact uY (ct (ax pos ah s σ H _ I h) λus s1 ⟨vs,H1,bE,bg,aO⟩=>aD ah s1 σ H1 vs us Q bE bg aO) he hpl
end
end bo
namespace fL
open PySem PyProof.Rows
section
variable {prog:cR}{w:cu}{A:c9}{E:ao->aP->Prop}{s:aP}
def Vl{t b:aj}{vs ws:List ao}{Q:ao->aP->Prop}(aR:IsTup s.heap t vs.toArray)(ae:IsTup s.heap b ws.toArray)(a5:vs≠[])
  (af:ws=[]->Q (.ref t) s) (ak:ws≠[]->Q (.ref s.heap.objs.size) {s with heap:=s.heap.push {cls:=.type "tuple",data:=.seq (vs++ws).toArray} })
  (hsz:vs.length+ws.length<=cF):bG (bR prog w) A (mH .Add (.ref t) (.ref b)) Q E s:=by
 obtain⟨⟨cls,dO,data,dg⟩,aE,aD,n,hd⟩:=id aR;obtain⟨⟨Fq,mX,data2,lW⟩,sR,w1,gF,hd2⟩:=id ae;simp only at aD hd w1 hd2;subst aD hd w1 hd2;have e:vs.toArray++ws.toArray=(vs++ws).toArray:=by simp
 by_cases hw:ws=[]
 ·exact concat_meets ⟨_,aE,rfl⟩ ⟨_,sR,rfl⟩ noFill_tuple_add seq_tuple_add PySem.F.slot_tuple_add PySem.F.entry_tuple_add (PySem.F.args_tuple_add_2 _ _)
   (tuple_addW1 t b vs.toArray ws.toArray n gF dO mX dg lW (by simpa using a5) (by simp[hw])) ⟨aE,sR,af hw⟩
 ·refine concat_meets ⟨_,aE,rfl⟩ ⟨_,sR,rfl⟩ noFill_tuple_add seq_tuple_add PySem.F.slot_tuple_add PySem.F.entry_tuple_add (PySem.F.args_tuple_add_2 _ _)
   (tuple_addW2 t b vs.toArray ws.toArray n gF dO mX dg lW (by simpa using a5) (by simpa using hw) (by rw[eJ,eJ];exact hsz)) ⟨aE,sR,?_⟩
  rw[e];exact ak hw
noncomputable def c5(n d:Nat):Option Int->Nat
|none=>d
|some v=>if v<0 then (v+(n:Int)).toNat else min v.toNat n
def RM(n d:Nat)(hd:d<=n)(o:Option Int):c5 n d o<=n:=by
 cases o with
|none=>exact hd
|some v=>
  show (if v<0 then (v+(n:Int)).toNat else min v.toNat n)<=n
  by_cases a5:v<0
  ·rw[if_pos a5];omega
  ·rw[if_neg a5];exact Nat.min_le_right _ _
def Rq(v:Int)(n d:Nat):(if v<0 then max (v+(n:Int)) 0 else min v (n:Int))=((c5 n d (some v):Nat):Int):=by
 show (if v<0 then max (v+(n:Int)) 0 else min v (n:Int))=(((if v<0 then (v+(n:Int)).toNat else min v.toNat n):Nat):Int)
 by_cases a5:v<0
 ·simp only[if_pos a5];omega
 ·simp only[if_neg a5];omega
def aeS(lo aS:Option Int)(n:Nat):Builtin.Slice.sliceAdjust lo aS 1 (n:Int)=(((c5 n 0 lo:Nat):Int),((c5 n n aS:Nat):Int)):=by
 have af:¬((1:Int)<0):=by omega
 unfold Builtin.Slice.sliceAdjust;simp only[af,if_false];refine Prod.ext ?_ ?_
 ·cases lo with
  |none=>rfl
  |some v=>exact Rq v n 0
 ·cases aS with
  |none=>rfl
  |some v=>exact Rq v n n
def aer(i j:Nat):B4 (i:Int) (j:Int) 1=j - i:=by
 unfold B4;have af:(1:Int) > 0:=by omega
 simp only[af,if_true,Int.ediv_one];split <;> omega
def Pl{v:ao}{o:Option Int}{Q:Option Int->aP->Prop}(p:IsPart v o)(h:Q o s):bG (bR prog w) A (Builtin.Slice.slicePartIndex v) Q E s:=by
 cases p with
|none=>exact slicePart_none h
|int i t=>exact slicePart_int h
def N8{dg:aj}{hW fs:ao}{lo aS:Option Int}{n:Nat}{Q:Int×Int×Nat->aP->Prop}(av:s.heap.IsSliceOf dg hW fs .none)(pl:IsPart hW lo)(pu:IsPart fs aS)
  (h:Q (((c5 n 0 lo:Nat):Int),1,c5 n n aS - c5 n 0 lo) s):bG (bR prog w) A (Builtin.Slice.sliceApplied (.ref dg) (pure (n:Int))) Q E s:=by
 obtain⟨os,p6,AO,aj9⟩:=id av;unfold Builtin.Slice.sliceApplied Builtin.Slice.sliceFields;refine a7 (a7 (iq p6 aj9 (x:=hW) rfl (a7 (iq p6 aj9 (x:=fs) rfl (a7 (iq p6 aj9 (x:=.none) rfl (cH ?_)))))));refine a7 (slicePart_none ?_);show bG _ _ (if ((1:Int)==0)=true then _ else _) _ _ s;rw[if_neg (by decide)];refine a7 (Pl pl (a7 (Pl pu (a7 (cH ?_)))));show bG _ _ (match Builtin.Slice.sliceAdjust lo aS 1 (n:Int) with|(lo,aS)=>pure (lo,(1:Int),B4 lo aS 1)) _ _ s;rw[aeS lo aS n];show bG _ _ (pure (((c5 n 0 lo:Nat):Int),(1:Int),B4 ((c5 n 0 lo:Nat):Int) ((c5 n n aS:Nat):Int) 1)) _ _ s;rw[aer];exact cH h
def af2(xs:Array ao)(i k:Nat):((List.range k).filterMap λ(m:Nat)=>xs[((i:Int)+(m:Int)*1).toNat]?).toArray=((xs.toList.drop i).take k).toArray:=by
 have e:(λ(m:Nat)=>xs[((i:Int)+(m:Int)*1).toNat]?)=λm=>xs[i+m]?:=by
  funext m;have:((i:Int)+(m:Int)*1).toNat=i+m:=by omega
  rw[this]
 rw[e];have:=pick_run xs i k;rw[List.filterMap_map] at this;have a9:((λx=>xs[x]?) ∘ λx=>i+x)=λm=>xs[i+m]?:=rfl;rw[a9] at this;rw[this]
def Xd{t dg:aj}{items:Array ao}{hW fs:ao}{lo aS:Option Int}{Q:ao->aP->Prop}(aR:IsTup s.heap t items)(av:s.heap.IsSliceOf dg hW fs .none)(pl:IsPart hW lo)(pu:IsPart fs aS)
  (hw:¬(c5 items.size 0 lo=0/\c5 items.size items.size aS=items.size))
  (h:Q (.ref s.heap.objs.size) {s with heap:=s.heap.push {cls:=.type "tuple",data:=.seq ((items.toList.drop (c5 items.size 0 lo)).take (c5 items.size items.size aS - c5 items.size 0 lo)).toArray} })
  (hsz:items.size<=cF):bG (bR prog w) A (getItem (.ref t) (.ref dg)) Q E s:=by
 have AX:sizeOk (.seq ((items.toList.drop (c5 items.size 0 lo)).take (c5 items.size items.size aS - c5 items.size 0 lo)).toArray):=by
  show ((items.toList.drop (c5 items.size 0 lo)).take (c5 items.size items.size aS - c5 items.size 0 lo)).toArray.size<=cF
  rw[eJ,List.length_take,List.length_drop,rB];omega
 have bw:c5 items.size items.size aS<=items.size:=RM _ _ (el _) aS;obtain⟨os,p6,AO,aj9⟩:=id av;have F7:s.TypeIs (.ref dg) "slice":=⟨os,p6,AO⟩;unfold getItem
 try with_reducible refine mG ?_
 first|refine a7 (cH ?_)|skip
 refine a7 (wpAny_sequenceKey aR.typeIs (by decide) ?_)
 refine a7 (qs (name:=Str.ofString "__getitem__") aR.typeIs B3
  (pe B3 aR.typeIs entry_tuple_getitem ?_ (args_tuple_getitem _ _)))
 show bG _ _ (Builtin.Tuple.tupleItemsOf (.ref t) >>= _) _ _ s
 refine a7 (tupleItemsOf_ aR ?_)
 refine a7 (wpAny_typeOf F7 ?_)
 rw[if_pos (by decide)];refine a7 (N8 av pl pu ?_);have uD:¬((((c5 items.size 0 lo:Nat):Int)==0 && (1:Int)==1 && (c5 items.size items.size aS - c5 items.size 0 lo)==items.size)=true):=by
  intro q;rw[hZ,hZ] at q;have aO:((c5 items.size 0 lo:Nat):Int)=0:=eq_of_beq q.1.1;have bb:c5 items.size items.size aS - c5 items.size 0 lo=items.size:=eq_of_beq q.2;exact hw ⟨by omega,by omega⟩
 show bG _ _ (if (((c5 items.size 0 lo:Nat):Int)==0 && (1:Int)==1 && (c5 items.size items.size aS - c5 items.size 0 lo)==items.size)=true then _ else _) _ _ s
 rw[if_neg uD,af2]
 first
  |exact a7 (m:=tn _) (qt (cH ⟨_,rfl,cH h⟩) AX)
  |exact a7 (m:=tn _) (qt (a7 (cH (cH ⟨_,rfl,cH h⟩))) AX)
  |exact a7 (a7 (m:=tn _) (qt (cH (cH ⟨_,rfl,cH h⟩)) AX))
  |exact a7 (a7 (m:=tn _) (qt (cH ⟨_,rfl,cH h⟩) AX))
end
end fL
namespace bo
open PySem PySem.Spec PyProof.Rows
abbrev cg:=St->aA->(Option Int->aA->Prop)->Prop
noncomputable def ajR(X:bh)(e:Option bf)(t:cg):Prop:=
 ∀(ah:List (aj×Obj)) (s:aP) (σ:St) (H:aA) (Q:Option Int->aA->Prop),Inv X ah σ H s->t σ H Q ->
  bG (bR X.prog X.w) X.A (evalPart e X.env) (λu s'=>∃o ai,Inv X ah σ ai s'/\IsPart u o/\Q o ai) X.d1 s
def agz:cg:=λ_ H Q=>Q none H
def aiB(t:TE):cg:=λσ H Q=>t σ H λx H1=>∃i,x=.int i/\Q (some i) H1
section
variable {X:bh}{e:bf}{gS:TE}{lo aS:Option bf}{kj BR:cg}{pos fB:Pos}
def agV:ajR X none agz:=by
 intro ah s σ H Q I h;rw[evalPart_none];exact cH ⟨none,H,I,.none,h⟩
def agU(h:bO X e gS):ajR X (some e) (aiB gS):=by
 intro ah s σ H Q I hw;rw[evalPart_some];refine ct (h ah s σ H _ I hw) λu s1 ⟨x,H1,bE,bg,aO⟩=>?_;obtain⟨i,rfl,q⟩:=aO;obtain⟨t,rfl⟩:=bg;exact⟨some i,H1,bE,.int i t,q⟩
noncomputable def qZ(X:bh)(r:V->Option Int->Option Int->aA->dx->Prop):Prop:=
 ∀(ah:List (aj×Obj)) (s:aP) (σ:St) (H:aA) (x:V) (v hW fs:ao) (lo aS:Option Int) (dg:aj) (Q:dx),Inv X ah σ H s->RelV x v->s.heap.IsSliceOf dg hW fs .none->IsPart hW lo->IsPart fs aS->r x lo aS H Q ->
  ∃T id,typeLookup (.type T) "__getitem__"=pure (some (.builtin id))/\s.TypeIs v T/\bG (bR X.prog X.w) X.A (getItem v (.ref dg)) (ix X ah σ Q) X.d1 s
def qZ.or{r cw:V->Option Int->Option Int->aA->dx->Prop}(h:qZ X r)(h':qZ X cw):qZ X (λx lo aS H Q=>r x lo aS H Q\/cw x lo aS H Q):=by
 intro ah s σ H x v hW fs lo aS dg Q I a3 av pl pu q;rcases q with q|q
 ·exact h ah s σ H x v hW fs lo aS dg Q I a3 av pl pu q
 ·exact h' ah s σ H x v hW fs lo aS dg Q I a3 av pl pu q
noncomputable def acF(r:V->Option Int->Option Int->aA->dx->Prop)(gS:TE)(kj BR:cg):TE:=λσ H Q=>gS σ H λx H1=>kj σ H1 λl ba=>BR σ ba λu c_=>r x l u c_ Q
def af4{r:V->Option Int->Option Int->aA->dx->Prop}(ar:qZ X r)(he:bO X e gS)(aw:ajR X lo kj)(bj:ajR X aS BR):bO X (.Subscript e (.Slice lo aS none fB) pos) (acF r gS kj BR):=by
 intro ah s σ H Q I h;refine Subscript_ (ct (he ah s σ H _ I h) λv s1 ⟨x,H1,bE,bg,aO⟩=>?_);refine wpAny_Slice (ct (aw ah s1 σ H1 _ bE aO) λhW s2 ⟨l,ba,ck,pl,bb⟩=>ct (bj ah s2 σ ba _ ck bb) λfs s3 ⟨u,c_,ef,pu,cQ⟩=>?_);rw[evalPart_none];refine cH ?_;have iy:Inv X ah σ c_ {s3 with heap:=s3.heap.push {cls:=.type "slice",data:=.fields #[hW,fs,.none]} }:=ef.kept (t':=s3.toks) λb d6 q=>dq _ q;obtain⟨T,id,e6,aR,br⟩:=ar ah {s3 with heap:=s3.heap.push {cls:=.type "slice",data:=.fields #[hW,fs,.none]} } σ c_ x v hW fs l u s3.heap.objs.size Q iy bg (Heap.IsSliceOf.new ..) pl pu cQ;show bG (bR X.prog X.w) X.A (subscriptTail e (.Slice lo aS none fB) v (.ref s3.heap.objs.size)) (ix X ah σ Q) X.d1 {s3 with heap:=s3.heap.push {cls:=.type "slice",data:=.fields #[hW,fs,.none]} };exact tail_any (ops:=[.ref s3.heap.objs.size,v]) aR e6 br (by with_unfolding_all rfl)
noncomputable def nN(xs:List V)(lo aS:Option Int):List V:=(xs.drop (fL.c5 xs.length 0 lo)).take (fL.c5 xs.length xs.length aS - fL.c5 xs.length 0 lo)
def Ph(xs:List V)(lo aS:Option Int):(nN xs lo aS).length<=xs.length:=by
 unfold nN;rw[List.length_take,List.length_drop];omega
noncomputable def abi(K:bl):V->Option Int->Option Int->aA->dx->Prop:=λx lo aS H Q=>∃a xs,x=.ref a/\de K H a xs /\
 ¬(fL.c5 xs.length 0 lo=0/\fL.c5 xs.length xs.length aS=xs.length)/\∀p,H p=none->Q (.ref p) (upd H p (.tup (nN xs lo aS)))
def ahC:qZ X (abi X.K):=by
 intro ah s σ H x v hW fs lo aS dg Q I a3 av pl pu h;obtain⟨a,xs,rfl,hx,hw,q⟩:=h;cases a3;obtain⟨its,r,aR,aq⟩:=I.tuple hx;have hlen:its.toArray.size=xs.length:=by rw[eJ];exact r.length.symm
 refine⟨"tuple",_,PyProof.Rows.slot_tuple_getitem.lookup,aR.typeIs,?_⟩
 refine fL.Xd aR av pl pu (by rw[hlen];exact hw) ?_ (by rw[hlen];exact aq)
 rw[hlen];refine⟨.ref s.heap.objs.size,_,I.laid (t':=s.toks) (o:=.tup (nN xs lo aS)) (λb d6 q=>dq _ q) (el _) ?_,rfl,q _ (I.b'.fresh (el _))⟩;exact⟨kn (Ph xs lo aS) aq,_,(r.drop (fL.c5 xs.length 0 lo)).take (fL.c5 xs.length xs.length aS - fL.c5 xs.length 0 lo),IsTup.new _ _⟩
noncomputable def aiT(K:bl):hy:=λx y H Q=>∃a b xs ys,x=.ref a/\y=.ref b/\de K H a xs/\de K H b ys/\xs≠[]/\xs.length+ys.length<=cF /\
 (ys=[]->Q (.ref a) H)/\(ys≠[]->∀p,H p=none->Q (.ref p) (upd H p (.tup (xs++ys))))
def Vals.Bw{xs:List V}{us:List ao}(r:Vals xs us):us=[] <-> xs=[]:=by
 cases r with
|nil=>simp
|cons _ _=>simp
def ag6:fk X (mH .Add) (aiT X.K):=by
 intro ah s σ H x y v u Q I a3 bK h;obtain⟨a,b,xs,ys,rfl,rfl,ax,ae,hx,aq,aO,bb⟩:=h;cases a3;cases bK;obtain⟨its,bg,te,_⟩:=I.tuple ax;obtain⟨hQ,b7,fB,_⟩:=I.tuple ae;refine fL.Vl te fB (λz=>hx (bg.Bw.mp z)) (λz=>⟨.ref a,H,I,rfl,aO (b7.Bw.mp z)⟩) (λz=>?_) (by rw[<- bg.length,<- b7.length];exact aq);refine⟨.ref s.heap.objs.size,_,I.laid (t':=s.toks) (o:=.tup (xs++ys)) (λb d6 q=>dq _ q) (el _) ?_,rfl,bb (λw=>z (b7.Bw.mpr w)) _ (I.b'.fresh (el _))⟩;exact⟨by rw[qq];exact aq,_,bg.append b7,IsTup.new _ _⟩
end
end bo
namespace bo
open PySem PySem.Spec PyProof.Rows
noncomputable def oP(n:Nat)(i:Int):Option Nat:=if 0<=i then (if i<n then some i.toNat else none) else if -(n:Int)<=i then some (i+n).toNat else none
def wC{α:Type}(xs:List α)(i:Int):Option α:=(oP xs.length i).bind λj=>xs[j]?
def Rl{n:Nat}{i:Int}{j:Nat}(h:oP n i=some j):seqIndex? i n=some j/\j<n/\-(n:Int)<=i/\i<n:=by
 unfold oP at h;by_cases h0:0<=i
 ·rw[if_pos h0] at h;by_cases af:i<n
  ·rw[if_pos af] at h;have e:i.toNat=j:=en h;exact⟨by rw[seqIndex_of h0 af,e],by omega,by omega,af⟩
  ·rw[if_neg af] at h;cases h
 ·rw[if_neg h0] at h;by_cases af:-(n:Int)<=i
  ·rw[if_pos af] at h;have e:(i+n).toNat=j:=en h;exact⟨by rw[seqIndex_neg (by omega) af,e],by omega,af,by omega⟩
  ·rw[if_neg af] at h;cases h
def K_{α:Type}{xs:List α}{i:Int}{v:α}(h:wC xs i=some v):∃j,seqIndex? i xs.length=some j/\xs[j]?=some v/\j<xs.length/\-(xs.length:Int)<=i/\i<xs.length:=by
 unfold wC at h;cases e:oP xs.length i with
|none=>rw[e] at h;cases h
|some j=>
  rw[e] at h;obtain⟨af,ak,bA,cP⟩:=Rl e;exact⟨j,af,h,ak,bA,cP⟩
def Rw(b:bf):Prop:=∀o i,subscripted b false o i=operate [o,i] (getItem o i)
noncomputable def pO(X:bh)(r:hy):Prop:=
 ∀(value slice:bf) (ah:List (aj×Obj)) (s:aP) (σ:St) (H:aA) (x y:V) (v u:ao) (Q:dx),Inv X ah σ H s->RelV x v->RelV y u->r x y H Q ->
  subscripted slice false v u=operate [v,u] (getItem v u)->bG (bR X.prog X.w) X.A (subscriptTail value slice v u) (ix X ah σ Q) X.d1 s
noncomputable def DU(X:bh)(id:String)(r:V->List V->aA->dx->Prop):Prop:=
 ∀(ah:List (aj×Obj)) (s:aP) (σ:St) (H:aA) (x:V) (xs:List V) (v:ao) (us:List ao) (Q:dx),Inv X ah σ H s->RelV x v->Vals xs us->r x xs H Q ->
  bG (bR X.prog X.w) X.A (call (.builtin id) (v::us)) (ix X ah σ Q) X.d1 s
section
variable {X:bh}{a b:bf}{cD fq:TE}{pos:Pos}
def pO.or{r cw:hy}(h:pO X r)(h':pO X cw):pO X (λx y H Q=>r x y H Q\/cw x y H Q):=by
 intro value slice ah s σ H x y v u Q I a3 bK q av;rcases q with q|q
 ·exact h value slice ah s σ H x y v u Q I a3 bK q av
 ·exact h' value slice ah s σ H x y v u Q I a3 bK q av
def ai3{r:hy}(ar:pO X r)(ax:bO X a cD)(ae:bO X b fq)(av:Rw b):bO X (.Subscript a b pos) (x2 r cD fq):=by
 intro ah s σ H Q I h;exact Subscript_ (EF ax ae I h λv u s2 x y ba ck a3 bK q=>ar a b ah s2 σ ba x y v u Q ck a3 bK q (av _ _))
noncomputable def N0(K:bl):hy:=λx y H Q=>∃p xs i v,x=.ref p/\y=.int i/\f_ K H p xs/\wC xs i=some v/\Q v H
noncomputable def N2(K:bl):hy:=λx y H Q=>∃p xs i v,x=.ref p/\y=.int i/\de K H p xs/\wC xs i=some v/\Q v H
noncomputable def N1:hy:=λx y H Q=>∃z i c,x=.str z/\y=.int i/\z.length<=cF/\wC z.cps.toList i=some c/\Q (.str ⟨#[c]⟩) H
def ahe:pO X (N0 X.K):=by
 intro value slice ah s σ H x y v u Q I a3 bK h av;obtain⟨p,xs,i,z,rfl,rfl,bt,he,q⟩:=h;cases a3;obtain⟨t,rfl⟩:=bK;obtain⟨its,r,pl,aq⟩:=I.list bt;obtain⟨j,af,ak,bA,cP,gC⟩:=K_ he;obtain⟨w,kD,kh⟩:=r.get ak;have aw:=r.length;have a8:=aj1;have fin:ix X ah σ Q w s:=⟨z,H,I,kh,q⟩;by_cases h0:0<=i
 ·have bw:i.toNat=j:=by
   rw[seqIndex_of h0 gC] at af;exact en af
  exact item_listR pl.isList h0 (by omega) (by rw[bw];simpa using kD) fin av
 ·have bw:(i+(its.toArray.size:Int)).toNat=j:=by
   rw[seqIndex_neg (by omega) cP] at af;rw[eJ,<- aw];exact en af
  exact subscriptTail_builtinR (x:=w) pl.isList.typeIs slot_list_getitem.lookup
   (wpAny_getItem_list_neg (Q:=λr s'=>r=w/\ix X ah σ Q r s') pl.isList (by omega) (by rw[eJ] <;> omega) (by omega) (by rw[bw];simpa using kD) ⟨rfl,fin⟩) av
def aij:pO X (N2 X.K):=by
 intro value slice ah s σ H x y v u Q I a3 bK h av;obtain⟨p,xs,i,z,rfl,rfl,bt,he,q⟩:=h;cases a3;obtain⟨t,rfl⟩:=bK;obtain⟨its,r,pl,aq⟩:=I.tuple bt;obtain⟨j,af,ak,bA,cP,gC⟩:=K_ he;obtain⟨w,kD,kh⟩:=r.get ak;have aw:=r.length;have a8:=aj1;have fin:ix X ah σ Q w s:=⟨z,H,I,kh,q⟩;exact subscriptTail_builtinR (x:=w) pl.typeIs slot_tuple_getitem.lookup
  (getItem_tuple (j:=j) (Q:=λr s'=>r=w/\ix X ah σ Q r s') pl (by omega) (by omega) (by rw[eJ,<- aw];exact af) (by simpa using kD) ⟨rfl,fin⟩) av
def aik:pO X N1:=by
 intro value slice ah s σ H x y v u Q I a3 bK h av;obtain⟨z,i,c,rfl,rfl,aq,he,q⟩:=h;obtain⟨t,rfl⟩:=a3;obtain⟨t',rfl⟩:=bK;obtain⟨j,af,ak,bA,cP,gC⟩:=K_ he;have aw:z.cps.toList.length=z.length:=by simp[Str.length]
 rw[aw] at af cP gC;have a8:=aj1;exact tail_any (typeIs_str s z t) slot_str_getitem.lookup (getItem_str (c:=c) (by
  have aQ:decide (i < -(2 ^ 63:Int))=false:=decide_eq_false (by omega);have a9:decide (i >= 2 ^ 63)=false:=decide_eq_false (by omega);rw[aQ,a9,Bool.or_false]) (by rw[af];simpa using ak) ⟨.str ⟨#[c]⟩,H,I.tok _,⟨_,rfl⟩,q⟩) av
def abg(K:bl):hy:=λx y H Q=>N0 K x y H Q\/N2 K x y H Q\/N1 x y H Q
def ail:pO X (abg X.K):=ahe.or (aij.or aik)
def aew(its:List ao)(n j:Nat)(u:ao):Obj.mapSeq (·.setIfInBounds j u) {cls:=.type "list",data:=.seq its.toArray n}={cls:=.type "list",data:=.seq (its.set j u).toArray n}:=by
 simp[Obj.mapSeq]
theorem Inv.lst{ah:List (aj×Obj)}{σ:St}{H:aA}{s:aP}{p:aj}{xs:List V}(I:Inv X ah σ H s)(h:H p=some (.lst xs)):
  ∃(its:List ao) (n:Nat),Vals xs its/\s.heap.get? p=some {cls:=.type "list",data:=.seq its.toArray n}/\xs.length<=cF:=by
 obtain⟨z,its,n,r,e⟩:=I.b' p _ h;exact⟨its,n,r,e,z⟩
def Inv.Zn{ah:List (aj×Obj)}{σ:St}{H:aA}{s:aP}{p:aj}{xs ys:List V}{its its':List ao}{n qa:Nat}{f:Obj->Obj}(I:Inv X ah σ H s)(h:H p=some (.lst xs))
  (aE:s.heap.get? p=some {cls:=.type "list",data:=.seq its.toArray n}) (hf:f {cls:=.type "list",data:=.seq its.toArray n}={cls:=.type "list",data:=.seq its'.toArray qa}) (r:Vals ys its') (aq:ys.length<=cF) (t:Nat):
  Inv X ah σ (upd H p (.lst ys)) {s with heap:=s.heap.update p f,toks:=t}:=by
 have e:(s.heap.update p f).get? p=some {cls:=.type "list",data:=.seq its'.toArray qa}:=by
  rw[Heap.get?_update_self f aE (by rw[hf] <;> rfl),hf]
 refine I.write (x:=p) (e:=p) (by rw[h];trivial) (.inl rfl) (λb u ae q=>(yc _ _ (Ne.symm ae)).trans q) ⟨_,e⟩ ?_
 exact⟨aq,its',qa,r,e⟩
noncomputable def aiS:V->V->V->aA->(aA->Prop)->Prop:=λo i v H Q=>∃p xs k j,o=.ref p/\i=.int k/\H p=some (.lst xs)/\oP xs.length k=some j/\Q (upd H p (.lst (xs.set j v)))
def set_list:LR X aiS:=by
 intro ah s σ H o i v dU ew u Q I fR ri b9 h;obtain⟨p,xs,k,j,rfl,rfl,aC,bw,q⟩:=h;cases fR;obtain⟨t,rfl⟩:=ri;obtain⟨its,n,r,aE,aq⟩:=I.lst aC;obtain⟨af,ak,bA,cP⟩:=Rl bw;have aw:=r.length;have a8:=aj1;have qU:Inv X ah σ (upd H p (.lst (xs.set j v))) {s with heap:=s.heap.update p (Obj.mapSeq (·.setIfInBounds j u))}:=
  I.Zn aC aE (aew its n j u) (r.set b9 j) (by rw[List.length_set];exact aq) s.toks
 by_cases h0:0<=k
 ·have aH:k.toNat=j:=by
   rw[seqIndex_of h0 cP] at af;exact en af
  exact PySem.W.ki_setAt aE h0 (by omega) (by rw[eJ,<- aw];exact cP) (by rw[aH];exact⟨_,qU,q⟩)
 ·have aH:(k+(its.toArray.size:Int)).toNat=j:=by
   rw[seqIndex_neg (by omega) bA] at af;rw[eJ,<- aw];exact en af
  exact PySem.W.ki_setBack aE (by omega) (by rw[eJ,<- aw];exact bA) (by omega) (by rw[aH];exact⟨_,qU,q⟩)
def adP(lo aS:Option Int)(n:Nat):(sliceBounds lo aS none n).1=((fL.c5 n 0 lo:Nat):Int)/\(sliceBounds lo aS none n).2.1=((fL.c5 n n aS:Nat):Int)/\(sliceBounds lo aS none n).2.2=1:=by
 refine⟨?_,?_,rfl⟩
 ·cases lo with
  |none=>simp[sliceBounds,fL.c5]
  |some i=>
   simp only[sliceBounds,fL.c5,Option.getD_none,show (1:Int) > 0 by decide,if_true];by_cases h:i<0
   ·simp only[h,if_true] <;> omega
   ·simp only[h,if_false] <;> omega
 ·cases aS with
  |none=>simp[sliceBounds,fL.c5]
  |some i=>
   simp only[sliceBounds,fL.c5,Option.getD_none,show (1:Int) > 0 by decide,if_true];by_cases h:i<0
   ·simp only[h,if_true] <;> omega
   ·simp only[h,if_false] <;> omega
def adE(its:List ao)(lo aS:Option Int):slicePick its.toArray lo aS none=((its.drop (fL.c5 its.length 0 lo)).take (fL.c5 its.length its.length aS - fL.c5 its.length 0 lo)).toArray:=by
 obtain⟨af,ak,bA⟩:=adP lo aS its.toArray.size;unfold slicePick;rw[af,ak,bA];simp only[sliceRange_one,pick_run,eJ] <;> rfl
noncomputable def abh(K:bl):V->Option Int->Option Int->aA->dx->Prop:=λx lo aS H Q=>∃a xs,x=.ref a/\f_ K H a xs/\∀p,H p=none->Q (.ref p) (upd H p (.lst (nN xs lo aS)))
def agB:qZ X (abh X.K):=by
 intro ah s σ H x v hW fs lo aS dg Q I a3 av pl pu h;obtain⟨a,xs,rfl,hx,q⟩:=h;cases a3;obtain⟨its,r,aR,aq⟩:=I.list hx;have hlen:=r.length;refine⟨"list",_,slot_list_getitem.lookup,aR.isList.typeIs,?_⟩;refine wpAny_getItem_list_slice aR.isList av pl pu .none (by simp) ?_ (by rw[eJ] <;> omega);rw[adE,<- hlen];refine⟨.ref s.heap.objs.size,_,I.laid (t':=s.toks) (o:=.lst (nN xs lo aS)) (λb d6 q=>dq _ q) (el _) ?_,rfl,q _ (I.b'.fresh (el _))⟩;exact⟨kn (Ph xs lo aS) aq,_,0,(r.drop (fL.c5 xs.length 0 lo)).take (fL.c5 xs.length xs.length aS - fL.c5 xs.length 0 lo),hX _ rfl⟩
def ad0:mc X (.builtin "len") (λxs H Q=>∃p ys,xs=[.ref p]/\(f_ X.K H p ys\/de X.K H p ys)/\Q (.int ys.length) H):=by
 intro ah s σ H xs us Q I r h;obtain⟨p,ys,rfl,bt,q⟩:=h;obtain⟨u,rfl,a3⟩:=vals1 r;cases a3;have a8:=aj1;rcases bt with bt|bt
 ·obtain⟨its,cw,pl,aq⟩:=I.list bt;have hlen:=cw.length;exact Calls.call_len_list pl.isList (by simp only[eJ] <;> omega) ⟨.int ys.length,H,I.tok _,⟨s.toks+1,by rw[eJ,hlen]⟩,q⟩
 ·obtain⟨its,cw,pl,aq⟩:=I.tuple bt;have hlen:=cw.length;exact len_tuple pl (by simp only[eJ] <;> omega) ⟨.int ys.length,H,I.tok _,⟨s.toks+1,by rw[eJ,hlen]⟩,q⟩
def adZ:mc X (.builtin "len") (λxs H Q=>∃z,xs=[.str z]/\z.length<=cF/\Q (.int z.length) H):=by
 intro ah s σ H xs us Q I r h;obtain⟨z,rfl,aq,q⟩:=h;obtain⟨u,rfl,t,rfl⟩:=vals1 r;have a8:=aj1;exact len_str (by omega) ⟨.int z.length,H,I.tok _,⟨_,rfl⟩,q⟩
def mc.or{f:ao}{r cw:List V->aA->dx->Prop}(h:mc X f r)(h':mc X f cw):mc X f (λxs H Q=>r xs H Q\/cw xs H Q):=by
 intro ah s σ H xs us Q I rs q;rcases q with q|q
 ·exact h ah s σ H xs us Q I rs q
 ·exact h' ah s σ H xs us Q I rs q
def adY:mc X (.type "list") (λxs H Q=>∃p ys,xs=[.ref p]/\(f_ X.K H p ys\/de X.K H p ys)/\∀l,H l=none->Q (.ref l) (upd H l (.lst ys))):=by
 intro ah s σ H xs us Q I r h;obtain⟨p,ys,rfl,bt,q⟩:=h;obtain⟨u,rfl,a3⟩:=vals1 r;cases a3;have fin:∀(its:List ao),Vals ys its->ys.length<=cF->∀(h':b0) (dY:Nat),(∀b o',s.heap.get? b=some o'->h'.get? b=some o') ->
   h'.get? s.heap.objs.size=some {cls:=.type "list",dict:=none,data:=.seq its.toArray dY,slots:=#[]}->ix X ah σ Q (.ref s.heap.objs.size) {s with heap:=h'}:=λits cw aq h' dY az e=>
  ⟨.ref s.heap.objs.size,_,I.laid (t':=s.toks) az (el _) (show h4 X.prog X.w _ h' _ (.lst ys) from ⟨aq,its,dY,cw,e⟩),rfl,q _ (I.b'.fresh (el _))⟩
 rcases bt with bt|bt
 ·obtain⟨its,cw,pl,aq⟩:=I.list bt;have hlen:=cw.length;obtain⟨o,aE,aD,n,hd⟩:=pl.isList;exact call_list_seq p (.inl rfl) aE aD hd (λh' dY az e=>fin its cw aq h' dY az e) (by simp only[eJ] <;> omega)
 ·obtain⟨its,cw,pl,aq⟩:=I.tuple bt;have hlen:=cw.length;obtain⟨o,aE,aD,n,hd⟩:=pl;exact call_list_seq p (.inr rfl) aE aD hd (λh' dY az e=>fin its cw aq h' dY az e) (by simp only[eJ] <;> omega)
def adI:mc X (.type "tuple") (λxs H Q=>∃p ys,xs=[.ref p]/\((f_ X.K H p ys/\∀l,H l=none->Q (.ref l) (upd H l (.tup ys)))\/(de X.K H p ys/\Q (.ref p) H))):=by
 intro ah s σ H xs us Q I r h;obtain⟨p,ys,rfl,h⟩:=h;obtain⟨u,rfl,a3⟩:=vals1 r;cases a3;rcases h with ⟨bt,q⟩|⟨bt,q⟩
 ·obtain⟨its,cw,pl,aq⟩:=I.list bt;have hlen:=cw.length;refine call_tuple_list pl.isList (λh' az=>?_) (by simp only[eJ] <;> omega);have bE:Inv X ah σ H {s with heap:=h'}:=I.kept (t':=s.toks) az;have ck:Inv X ah σ (upd H h'.objs.size (.tup ys)) {s with heap:=h'.push {cls:=.type "tuple",data:=.seq its.toArray} }:=
   bE.laid (t':=s.toks) (λb o e=>dq _ e) (el _) (show h4 X.prog X.w _ _ _ (.tup ys) from ⟨aq,its,cw,IsTup.new _ _⟩)
  exact⟨.ref h'.objs.size,_,ck,rfl,q _ (bE.b'.fresh (el _))⟩
 ·obtain⟨its,cw,pl,aq⟩:=I.tuple bt;exact call_tuple_same pl ⟨.ref p,H,I,rfl,q⟩
noncomputable def Ji(K:bl)(T:String)(x:V)(H:aA):Prop:=match x with
|.str _=>T="str"
|.int _=>T="int"
|.ref p=>(T="list"/\∃xs,f_ K H p xs)\/(T="tuple"/\∃o,K.lookup p=some o/\o.cls=.type "tuple"/\o.dict=none) \/
   (T="dict"/\((∃kvs,H p=some (.du kvs))\/∃kvs,H p=some (.mW kvs)))\/(T="set"/\∃S n,H p=some (.set S n))
|_=>False
def RC{ah:List (aj×Obj)}{σ:St}{H:aA}{s:aP}{T:String}{x:V}{v:ao}(I:Inv X ah σ H s)(r:RelV x v)(ty:Ji X.K T x H):
  s.TypeIs v T/\∀a,v=.ref a->∃d6,s.heap.get? a=some d6/\d6.dict=none:=by
 cases x with
|str z=>
  obtain⟨t,rfl⟩:=r;cases (show T="str" from ty);exact⟨typeIs_str s z t,λ_ e=>nomatch e⟩
|int i=>
  obtain⟨t,rfl⟩:=r;cases (show T="int" from ty);exact⟨typeIs_int s i t,λ_ e=>nomatch e⟩
|ref p=>
  cases r
  rcases ty with ⟨rfl,xs,bt⟩|⟨rfl,o,aH,aD,hd⟩|⟨rfl,aH⟩|⟨rfl,S,n,aH⟩
  ·obtain⟨its,_,pl,_⟩:=I.list bt;refine⟨pl.isList.typeIs,λa e=>?_⟩;cases e;obtain⟨o,n,e,c,hd,_⟩:=pl;exact⟨o,e,hd⟩
  ·refine⟨⟨o,I.lO p o aH,aD⟩,λa e=>?_⟩
   cases e
   exact⟨o,I.lO _ o aH,hd⟩
  ·have z:∃o,s.heap.get? p=some o/\o.ExactDict:=by
    rcases aH with ⟨kvs,aH⟩|⟨kvs,aH⟩
    ·obtain⟨_,_,_,_,o,_,_,e,ex,_⟩:=I.b' p _ aH;exact⟨o,e,ex⟩
    ·obtain⟨_,_,_,_,o,_,_,e,ex,_⟩:=I.b' p _ aH;exact⟨o,e,ex⟩
   obtain⟨o,e,ex⟩:=z;refine⟨⟨o,e,ex.1⟩,λa a9=>?_⟩;cases a9;exact⟨o,e,ex.2.1⟩
  ·obtain⟨o,_,_,_,e,ex,_⟩:=I.b' p _ aH;refine⟨⟨o,e,ex.1⟩,λa a9=>?_⟩;cases a9;exact⟨o,e,ex.2.1⟩
|_=>exact mD ty
noncomputable def acr(K:bl)(T:String)(r:V->List V->aA->dx->Prop)(to:TE):TE:=λσ H Q=>to σ H λx H1=>Ji K T x H1/\r x [] H1 Q
noncomputable def acq(K:bl)(T:String)(r:V->List V->aA->dx->Prop)(to:TE)(t:f'):TE:=λσ H Q=>to σ H λx H1=>Ji K T x H1/\t σ H1 λxs ba=>r x xs ba Q
variable {o e:bf}{es:List bf}{to:TE}{t:f'}{name:Str}{apos dt:Pos}{T id:String}{r:V->List V->aA->dx->Prop}
def ah1(mx:PlainAttrs T)(slot:Slot T name id)(Gx:typeOf (.builtin id)=pure (.type "method_descriptor"))(hm:DU X id r)(aE:bO X o to)
  (k4:i5 o name X.env (eval o X.env)=eval o X.env:=by rfl) (k5:(apos.endLine==dt.line)=true:=by rfl):bO X (.Call (.Attribute o name apos) [] [] dt) (acr X.K T r to):=by
 intro ah s σ H Q I h;refine wpAny_Call_method0_late k4 k5 (ct (aE ah s σ H _ I h) λv s1 ⟨x,H1,bE,bg,ty,aO⟩=>?_);obtain⟨af,ak⟩:=RC bE bg ty;exact⟨T,id,mx,slot,Gx,af,ak,Calls.callWith_builtin rfl (PySem.evalArgs_none (hm ah s1 σ H1 x [] v [] Q bE bg .nil aO))⟩
def zJ(mx:PlainAttrs T)(slot:Slot T name id)(Gx:typeOf (.builtin id)=pure (.type "method_descriptor"))(hm:DU X id r)(aE:bO X o to)(ax:h5 X (e::es) t)
  (k4:i5 o name X.env (eval o X.env)=eval o X.env:=by rfl)
  (nU:((dR dt (bB (e::es) X.env)).all (λx=>!x.1) && (l4 dt (l3 [] X.env)).all (λx=>x.1.isSome)
   && decide ((e::es).length+([]:List Keyword).length+(if ([]:List Keyword).isEmpty then 0 else 1)<30))=true:=by rfl)
  (k5:(apos.endLine==dt.line)=true:=by rfl) (av:bB (e::es) X.env=(false,eval e X.env)::bB es X.env:=by rfl) (nZ:(dR dt (bB es X.env)).any (·.1)=false:=by rfl):
  bO X (.Call (.Attribute o name apos) (e::es) [] dt) (acq X.K T r to t):=by
 intro ah s σ H Q I h;refine wpAny_Call_method_late k4 nU k5 rfl (ct (aE ah s σ H _ I h) λv s1 ⟨x,H1,bE,bg,ty,aO⟩=>?_);obtain⟨af,ak⟩:=RC bE bg ty;refine⟨T,id,mx,slot,Gx,af,ak,?_⟩;have sF:=ax dt ah s1 σ H1 _ bE aO;rw[av] at sF ⊢;refine Calls.callWith_builtin (by show (false || (dR dt (bB es X.env)).any (·.1))=false;rw[nZ] <;> rfl) (Calls.evalArgs_plain ?_);exact ct sF λus s2 ⟨vs,ba,ck,b7,bb⟩=>hm ah s2 σ ba x vs v us Q ck bg b7 bb
end
end bo
namespace bo
open PySem PySem.Spec PyProof.Rows
noncomputable def DT(X:bh)(id:String)(r:V->List V->aA->dx->Prop):Prop:=
 ∀(ah:List (aj×Obj)) (s:aP) (σ:St) (H:aA) (x:V) (xs:List V) (v:ao) (us:List ao) (Q:dx),Inv X ah σ H s->RelV x v->Vals xs us->r x xs H Q ->
  bG (bR X.prog X.w) X.A (call (.builtin id) (v::us)) (ix X ah σ Q) X.d1 s
def Vals.one:∀{x:V} {us:List ao},Vals [x] us->∃u,us=[u]/\RelV x u
|_,_,.cons r .nil=>⟨_,rfl,r⟩
def Vals.two:∀{x y:V} {us:List ao},Vals [x,y] us->∃u v,us=[u,v]/\RelV x u/\RelV y v
|_,_,_,.cons r (.cons q .nil)=>⟨_,_,rfl,r,q⟩
theorem Vals.eraseIdx:∀{xs:List V} {us:List ao} (i:Nat),Vals xs us->Vals (xs.eraseIdx i) (us.eraseIdx i)
|_,_,_,.nil=>.nil
|_,_,0,.cons _ t=>t
|_,_,i+1,.cons r t=>.cons r (Vals.eraseIdx i t)
theorem Vals.rep{xs:List V}{us:List ao}(h:Vals xs us):∀k:Nat,Vals (dW k xs).flatten (dW k us).flatten
|0=>.nil
|k+1=>by
  rw[qo,qo,ajX,ajX];exact Vals.append h (Vals.rep h k)
theorem P0{α:Type}:∀(l:List α) (i:Nat),(l.eraseIdx i).length<=l.length
| [],_=>el _
|_::_,0=>pa _
|_::r,i+1=>Nat.succ_le_succ (P0 r i)
theorem foldl_rep(its:List ao):∀(k:Nat) (acc:List ao),
  List.foldl (λaJ bq=>aJ++bq) acc.toArray (dW k its.toArray)=(acc++(dW k its).flatten).toArray
|0,acc=>by simp
|k+1,acc=>by
  have e:acc.toArray++its.toArray=(acc++its).toArray:=by simp
  have a9:(acc++its)++(dW k its).flatten=acc++(dW (k+1) its).flatten:=by
   rw[qo,ajX,List.append_assoc]
  rw[<- a9,<- foldl_rep its k (acc++its),<- e,qo,List.foldl_cons]
section
variable {X:bh}{ah:List (aj×Obj)}{σ:St}{H:aA}{s:aP}{l b:aj}{xs ys zs:List V}
def Inv.NC{its its':List ao}{n:Nat}{f:Array ao->Array ao}{t':Nat}(I:Inv X ah σ H s)(jj:H l=some (.lst xs))
  (e:s.heap.get? l=some {cls:=.type "list",data:=.seq its.toArray n}) (hf:f its.toArray=its'.toArray) (a5:Vals ys its') (aq:ys.length<=cF):
  Inv X ah σ (upd H l (.lst ys)) {s with heap:=s.heap.update l (Obj.mapSeq f),toks:=t'}:=by
 have q:=PySem.IsL.update e f;rw[hf] at q;refine I.write (x:=l) (e:=l) (by rw[jj];exact trivial) (.inl rfl) (λoF u ae bj=>(yc s.heap (Obj.mapSeq f) (Ne.symm ae)).trans bj) ⟨_,q⟩ ?_;exact⟨aq,its',_,a5,q⟩
def Inv.xu{its:List ao}{t':Nat}(I:Inv X ah σ H s)(a5:Vals ys its)(aq:ys.length<=cF):
  Inv X ah σ (upd H s.heap.objs.size (.lst ys)) {s with heap:=s.heap.push {cls:=.type "list",data:=.seq its.toArray},toks:=t'}:=
 I.laid (λ_ _ q=>dq _ q) (el _) ⟨aq,its,0,a5,hX _ rfl⟩
theorem Inv.fresh(I:Inv X ah σ H s):H s.heap.objs.size=none:=I.b'.fresh (el _)
def Inv.ND(I:Inv X ah σ H s)(jj:H l=some (.lst xs)):xs.length<=cF/\∃(its:List ao) (n:Nat),Vals xs its/\xs.length=its.length/\s.heap.get? l=some {cls:=.type "list",data:=.seq its.toArray n}:=by
 obtain⟨z,its,n,r,e⟩:=I.b' l _ jj;exact⟨z,its,n,r,r.length,e⟩
def af'{n:Nat}(h:n<=cF):Builtin.List.listTooLong n=false:=by
 unfold Builtin.List.listTooLong;exact decide_eq_false (by omega)
end
section
variable {X:bh}
noncomputable def agL:V->List V->aA->dx->Prop:=λx vs H Q=>∃l xs y,x=.ref l/\vs=[y]/\H l=some (.lst xs)/\xs.length<cF/\Q .gH (upd H l (.lst (xs++[y])))
def CZ:DT X "list.append" agL:=by
 intro ah s σ H x vs v us Q I a3 b9 h;obtain⟨l,xs,y,rfl,rfl,jj,aq,q⟩:=h;cases a3;obtain⟨u,rfl,ee⟩:=b9.one;obtain⟨z,its,n,r,aw,e⟩:=I.ND jj;refine rC F.slot_list_append ⟨_,e,rfl⟩ F.entry_list_append (F.args_list_append_2 _ _) (PySem.list_append l its.toArray n u (by rw[eJ];omega)) ⟨e,?_⟩;refine⟨.gH,_,I.NC (its':=its++[u]) jj e (by simp) (r.append (.cons ee .nil)) ?_,rfl,q⟩;rw[qq,List.length_singleton];omega
def len_rep{α:Type}(xs:List α)(k:Nat):(dW k xs).flatten.length=k*xs.length:=by
 induction k with
|zero=>simp
|succ k b2=>rw[qo,ajX,qq,b2,Nat.succ_mul,Nat.add_comm]
end
end bo
namespace Lz
open PySem PySem.W PySem.Calls PyProof.Rows
def adq{P:Params}{h:b0}:∀(ns:List Int) (vs:List ao),WellAll P h vs (ns.map WData.int)->IntsAre vs ns:=by
 intro ns
 induction ns with
|nil=>
  intro vs w;rw[jS] at w;cases w;exact .nil
|cons n ns b2=>
  intro vs w;rw[dk] at w;cases w with
  |cons a b=>
   cases a
   exact .cons _ _ (b2 _ b)
def ae6{l:OpenLaw}{n:Nat}(a8:l.most=some n){P:Params}{h:b0}{args:List WData}{vals:List ao}
    (AV:l.row.toRowW.claim.pre args=true) (Gy:WellAll P h vals args):
    ∃a vs ns,vals=[Value.ref a]/\args=[WData.list (ns.map WData.int)]/\h.get? a=some {cls:=.type "list",data:=.seq vs.toArray}/\IntsAre vs ns/\ns.length<=n:=by
  have Yc:WShape.hasAll [] args [.list .int]=true:=(pre_splitW AV).1;have aD:l.pre.holds [] {args:=args}=true:=(pre_splitW AV).2;obtain⟨d,r,rfl,af,ak⟩:=hasAllW_cons Yc;obtain rfl:=hasAllW_nil ak;obtain⟨xs,rfl,bA⟩:=hasW_list af;obtain⟨ns,rfl⟩:=items_int bA;have hlen:ns.length<=n:=by
    unfold OpenLaw.pre at aD;have cP:(WTm.not (.lt (.lit (.int (n:Int))) (.len (.arg 0)))).holds [] {args:=[.list (ns.map .int)]}=true:=by
      have cP:=(holds_andW aD).1;rw[a8] at cP;exact cP
    have gC:=condW_of cP (w_not (w_lt w_lit (w_len_list (w_arg rfl))));rw[gk] at gC;refine Nat.le_of_not_lt λq=>?_;have ed:(n:Int)<((ns.length:Nat):Int):=by omega
    first
      | (rw[decide_eq_true ed] at gC;exact absurd gC (by decide))
      | (simp at gC;omega)
  cases Gy with
  |cons jR uS=>
    cases uS
    cases jR with
    |list aE sJ=>exact⟨_,_,ns,rfl,rfl,aE,adq ns _ sJ,hlen⟩
def afb(l:OpenLaw)(args:List WData):l.row.toRowW.claim.post args (.bool true) args=true:=
 postW_of (r:=l.row.toRowW) (X:=(true==true))
  (show WShape.has [] (.bool true) .bool=true by first|rfl|decide|simp[WShape.has,WShape.arms,WShape.armsAll])
  (show (WTm.eq .res (.lit (.bool true))).value [] {args:=args,res:=some (.bool true),after:=args}=some (.bool (true==true)) from w_eq_bool (w_res rfl) w_lit) rfl
def Vc{l:OpenLaw}{n:Nat}{q:cR}{loose:List Str}{uf:(Str->Option ao)->b0->Prop}{q0:cu->b0->Prop}{d:DefRec}
  (a8:l.most=some n) (w3:d.params.defaults=[])
  (call:∀(w:cu) (c7 dH:aP) (mg m_:Str->Option ao) (cA:aj) (o:Obj) (pm cd doc:ao) (a:aj) (vs:List ao) (ns:List Int),
   Ground q loose [] uf w c7 mg m_ dH.heap->q0 w dH.heap ->
   dH.heap.get? cA=some o->o.data=.func (docDef d.name d.params d.body d.scope pm cd doc)->dH.heap.CodeRec cd d.name->mg d.name=some (.ref cA) ->
   dH.heap.get? a=some {cls:=.type "list",data:=.seq vs.toArray}->IntsAre vs ns->ns.length<=n->dH.gens=#[] ->
   codeAny (bR l.prog w) callerA (.call (.ref cA) ⟨[.ref a],[]⟩) (λr s'=>r=.ok (.ret (.bool true))/\OldK dH.heap s'.heap/\s'.os=dH.os/\AllBare s'.gens) dH):
  WalkO q loose uf q0 l.row.toRowW d [] (λf vs=>PySem.call f vs):=by
 intro w c7 dH mg m_ G Y cA o pm cd doc z_ ei aE hd j' iZ w9 br args vals as AV ajv ajC Gy ajw;obtain rfl:z_=.none:=Dflts.none iZ w3;obtain rfl:ei=.none:=Dflts.noKw iZ;obtain⟨a,vs,ns,rfl,rfl,Gp,hints,hlen⟩:=ae6 a8 AV Gy;refine enter_call (codeAny_mono (call w c7 dH mg m_ cA o pm cd doc a vs ns G Y aE (fd_plain hd) j' w9 Gp hints hlen br) λr s' bt=>?_);obtain⟨rfl,ak,bA,cP⟩:=bt;exact⟨.inl ⟨.bool true,.bool true,[],rfl,λ_=>rfl,.bool true,afb l _,λ_=>⟨List.Pairwise.nil,λ_ hm=>(nomatch hm)⟩⟩,ak,bA,cP⟩
end Lz
namespace bo
open PySem PySem.Spec PyProof.Rows
theorem PL:∀{vs:List ao} {ns:List Int},IntsAre vs ns->Vals (ns.map V.int) vs
|_,_,.nil=>.nil
|_,_,.cons n t h=>.cons ⟨t,rfl⟩ (PL h)
def DV(H:aA):Prop:=∀b,H b=none\/∃o xs,H b=some (.nS o (.lst xs))
def agi{P:cR}{w:cu}{K:bl}{mg m_:Str->Option ao}{eF:md}{k:Nat}{cA a:aj}{fd:gj}{x:Str}{sp:kz}{dH:aP}{vs:List ao}{ns:List Int}
  (oA:K.In dH.heap) (AU:dH.heap.Ns ajP mg) (ae:dH.heap.Ns builtinsNs m_) (F':∀x:Str,x≠"__name__"->m_ x=bootBuiltins x) (XZ:dH.heap.NoLimit) (br:dH.gens=#[])
  (ax:dH.heap.get? a=some {cls:=.type "list",data:=.seq vs.toArray}) (aS:IntsAre vs ns) (aw:ns.length<=cF) (ar:d4 k callerA)
  (F:∀base:b0,K.In base->base.Ns ajP mg->fw P w K mg base eF k cA fd [x] sp) (Xt:∀(s:aP) (u:ao),BindsTo s fd ⟨[u],[]⟩ [(x,u)])
  (rg:∀H:aA,DV H->f_ K H a (ns.map V.int)->sp [.ref a] H (λv _=>v=.dr true) λ_ _ _=>False)
  (F1:∀H e s',eF [] H dH (λ_ _ _=>False) e s'->False):
  codeAny (bR P w) callerA (.call (.ref cA) ⟨[.ref a],[]⟩) (λr s'=>r=.ok (.ret (.bool true))/\OldK dH.heap s'.heap/\s'.os=dH.os/\AllBare s'.gens) dH:=by
 have b9:=PL aS;have Zm:=aS.length;have core:∀H:aA,DV H->f_ K H a (ns.map V.int)->fF P w H dH.heap->(∀b,H b≠none->b=a)->(H a≠none->K.lookup a=none) ->
   codeAny (bR P w) callerA (.call (.ref cA) ⟨[.ref a],[]⟩) (λr s'=>r=.ok (.ret (.bool true))/\OldK dH.heap s'.heap/\s'.os=dH.os/\AllBare s'.gens) dH:=by
  intro H lM fz b' sF iJ;have L0:∀{b:aj} {o:Obj},dH.heap.get? b=some o->H b=none->(p4 dH.heap H).get? b=some o:=λe n=>agl e n;have xD:∀{b:aj} {o:Obj} {es:Array DictEntry} {ep:Nat},dH.heap.get? b=some o->o.data=.dict es ep->H b=none:=λ{b o es ep} e d=>by
   cases q:H b with
   |none=>rfl
   |some u=>
    have bT:b=a:=sF b (by rw[q];simp);subst bT;rw[ax] at e;cases e;have d':Data.seq vs.toArray _=Data.dict es ep:=d;cases d'
  have Bx:∀{b:aj} {m:Str->Option ao},dH.heap.Ns b m->(p4 dH.heap H).Ns b m:=λ{b m} ⟨o,es,ep,e,d,r⟩=>⟨o,es,ep,L0 e (xD e d),d,r⟩;have M4:K.In (p4 dH.heap H):=λb o e=>L0 (oA b o e) (by
   cases q:H b with
   |none=>rfl
   |some u=>
    have bT:b=a:=sF b (by rw[q];simp);subst bT;rw[iJ (by rw[q];simp)] at e;cases e)
  have Xi:Mod K mg (p4 dH.heap H):=⟨M4,Bx AU,⟨m_,Bx ae,F'⟩,let ⟨Zr,af,ak⟩:=XZ;⟨Zr,Bx af,ak⟩⟩;have eB:r' P w K mg (p4 dH.heap H) callerA [] dH H:=⟨rfl,Xi,λb o e=>ag8 e,Nat.le_of_eq (afu _ _),trivial,λb ae=>absurd (show b∈([]:List aj) from ae) (by simp),b',.of_eq br⟩;refine codeAny_mono ((F _ M4 (Bx AU)).run callerA [] dH H ⟨[.ref a],[]⟩ [.ref a] [.ref a] _ _ ar eB (Xt dH (.ref a)) (.cons rfl .nil) (rg H lM fz)) λr s' h=>?_;cases r with
  |error e=>exact (F1 H e s' h).elim
  |ok oL=>
   cases oL with
   |next=>exact mD h
   |brk=>exact mD h
   |cont=>exact mD h
   |ret u=>
    obtain⟨v,ai,os,bare,un,X_,cw,q⟩:=h;have ed:v=.dr true:=q;subst ed;obtain rfl:u=Value.bool true:=cw;refine⟨rfl,OldK.of_keep λb o e=>?_,os,bare⟩;cases q:H b with
    |none=>exact un.keep b o e q (by intro z;exact absurd (show b∈([]:List aj) from z) (by simp)) (by simp)
    |some u=>
     rcases lM b with z|⟨d6,xs,z⟩
     ·rw[q] at z;cases z
     ·have ir:=un.oN b d6 _ z;obtain⟨aQ,_⟩:=b' b _ z;obtain⟨a9,_⟩:=X_ b _ ir;rw[e] at aQ;cases aQ;exact a9
 cases aH:K.lookup a with
|some o=>
  have e:=oA a o aH;rw[ax] at e;cases e;refine core (λ_=>none) (λ_=>.inl rfl) (.inr ⟨_,vs.toArray,_,aH,rfl,rfl,rfl,by rw[eJ,Zm];exact aw,by simpa using b9⟩) (λb u z=>by have lu:(none:Option eW)=some u:=z;cases lu) (λb z=>absurd rfl z) λz=>absurd rfl z
|none=>
  refine core (λb=>if b=a then some (.nS {cls:=.type "list",data:=.seq vs.toArray} (.lst (ns.map V.int))) else none) (λb=>?_) (.inl (.inr ⟨{cls:=.type "list",data:=.seq vs.toArray},if_pos rfl⟩)) (λb u z=>?_) (λb z=>?_) λ_=>aH
  ·by_cases ae:b=a
   ·exact .inr ⟨_,_,if_pos ae⟩
   ·exact .inl (if_neg ae)
  ·by_cases ae:b=a
   ·have lu:=(if_pos ae).symm.trans z;cases lu;subst ae;exact⟨ax,by rw[gk];exact aw,vs,_,b9,ax⟩
   ·have lu:=(if_neg ae).symm.trans z;cases lu
  ·by_cases ae:b=a
   ·exact ae
   ·exact absurd (if_neg ae) z
end bo
namespace bo
open PySem PySem.Spec PyProof.Rows
def ac2{l:PySem.W.OpenLaw}{n k:Nat}{q:cR}{loose:List Str}{uf:(Str->Option ao)->b0->Prop}{q0:cu->b0->Prop}{d:DefRec}{K:Params->bl}{eF:cu->md}{sp:cu->kz}{x:Str}
  (a8:l.most=some n) (AS:n<=cF) (w3:d.params.defaults=[]) (ar:d4 k callerA)
  (F8:∀(w:cu) (h:b0),q0 w h->(K w.params).In h)
  (F:∀(w:cu) (mg:Str->Option ao) (cA:aj) (h:b0),(K w.params).In h->h.Ns ajP mg->mg d.name=some (.ref cA) ->
   ∃fd:gj,(∀(s:aP) (u:ao),BindsTo s fd ⟨[u],[]⟩ [(x,u)]) /\
    ∀base:b0,(K w.params).In base->base.Ns ajP mg->fw l.prog w (K w.params) mg base (eF w) k cA fd [x] (sp w))
  (rg:∀(w:cu) (H:aA) (a:aj) (ns:List Int),ns.length<=n->DV H->f_ (K w.params) H a (ns.map V.int)->sp w [.ref a] H (λv _=>v=.dr true) λ_ _ _=>False)
  (F1:∀(w:cu) (H:aA) (s:aP) (e:ao) (s':aP),eF w [] H s (λ_ _ _=>False) e s'->False):
  PySem.W.WalkO q loose uf q0 l.row.toRowW d [] (λf vs=>PySem.call f vs):=by
 refine Lz.Vc a8 w3 λw c7 dH mg m_ cA o pm cd doc a vs ns G Y aE hd j' w9 Gp hints hlen br=>?_
 have oA:=F8 w _ Y;obtain⟨fd,ae,Xh⟩:=F w mg cA _ oA G.T.g w9;exact agi oA G.T.g G.T.b G.T.builtins G.T.nolimit br Gp hints (kn hlen AS) ar Xh ae (λH lM fz=>rg w H a ns hlen lM fz) λH e s'=>F1 w H dH e s'
end bo
namespace bo
open PySem PySem.Spec PyProof.Rows
noncomputable def inClass(s:Stmt)(j:Nat):Stmt:=match s with
|.ClassDef _ _ _ body _ _ _ _ _ _ _=>body.getD j (.Pass ⟨0,0,0,0⟩)
|_=>.Pass ⟨0,0,0,0⟩
noncomputable def vN(s:Stmt):Arguments:=match s with
|.FunctionDef _ a _ _ _ _ _ _ _ _=>a
|_=>{posonlyargs:=[],args:=[],vararg:=none,kwonlyargs:=[],kw_defaults:=[],kwarg:=none,defaults:=[]}
noncomputable def jx(s:Stmt):List Stmt:=match s with
|.FunctionDef _ _ b _ _ _ _ _ _ _=>b
|_=>[]
noncomputable def cp(s:Stmt):Scope:=match s with
|.FunctionDef _ _ _ _ _ _ sc _ _ _=>sc
|_=>{kind:=.function,names:=[],isGenerator:=false,isCoroutine:=false}
abbrev ajN:md:=λ_ _ _ _ _ _=>False
abbrev aj3:gN:=λ_ _ _=>False
def pG{X:bh}:Passes ajN X aj3:=λ_ _ _ _ _ _ _ h=>h.elim
structure c1(K:bl)(x qual:Str)(st:Stmt)(f:aj)(fd:gj):Prop where
 ex:∃(kf:ao) (f5:Option aj) (ei doc pm:ao) (an:Option aj) (cW e':ao) (rn:Array (Option ao)),
  fd=ry x qual (vN st) (jx st) (cp st) .none ei doc pm an cW e'/\K.lookup f=some ⟨kf,f5,.func fd,rn⟩/\PySem.W.codeIn K cW qual=true
 az:ni K (.ref f)=true
section
variable {P:cR}{w:cu}{K:bl}{mg:Str->Option ao}{base:b0}
def c1.ok{x qual:Str}{st:Stmt}{f:aj}{fd:gj}{N ps:List Str}{k:Nat}{sp:kz}(F:c1 K x qual st f fd)(S:dc N ps (cp st))(len:∀vs H Q E,sp vs H Q E->vs.length=ps.length)
  (Gb:∀(cW:ao) (A:c9) (outer:List Env) (s:aP) (H:aA) (vs:List V) (Q:dx) (E:gN),d4 k (A.deeper (envOfC qual (cp st) s.heap.objs.size f cW))->sp vs H Q E ->
   ∃t,kY (jL ajN P w K mg base N qual (cp st) f cW A outer s H E).kG (jx st) t/\t {bY:=λ_ ai=>Q .gH ai,fa:=Q} (start N vs) H):fw P w K mg base ajN (k+1) f fd ps sp:=by
 obtain⟨kf,f5,ei,doc,pm,an,cW,e',rn,rfl,lk,j'⟩:=F.ex;refine ai' lk j' S len λA outer s H vs Q E ar rg=>?_;obtain⟨t,h,q⟩:=Gb cW A outer s H vs Q E ar rg;exact⟨t,h.kG,q⟩
def c1.binds{x qual:Str}{st:Stmt}{f:aj}{fd:gj}{ps:List Str}(F:c1 K x qual st f fd)
  (h:∀(ei doc pm:ao) (an:Option aj) (cW e':ao) (us:List ao),us.length=ps.length->bindArgs (ry x qual (vN st) (jx st) (cp st) .none ei doc pm an cW e') ⟨us,[]⟩=pure (ps.zip us)):Binds K fd ps []:=by
 obtain⟨kf,f5,ei,doc,pm,an,cW,e',rn,rfl,lk,j'⟩:=F.ex;exact .all (h ei doc pm an cW e')
def ea{x qual:Str}{st:Stmt}{f:aj}{kf:ao}{f5 an:Option aj}{rn:Array (Option ao)}{ei doc pm cW e':ao}(l:K.lookup f=some ⟨kf,f5,.func (ry x qual (vN st) (jx st) (cp st) .none ei doc pm an cW e'),rn⟩)
  (c:PySem.W.codeIn K cW qual=true) (k:ni K (.ref f)=true):c1 K x qual st f (ry x qual (vN st) (jx st) (cp st) .none ei doc pm an cW e'):=⟨⟨kf,f5,ei,doc,pm,an,cW,e',rn,rfl,l,c⟩,k⟩
end
def cM{A:c9}{k:Nat}(ar:d4 k A):A.units+1<cLine:=Nat.lt_of_le_of_lt (Nat.add_le_add_left (by decide:1<=64) _) ar.units
section
variable {X:bh}
def aV(i:Nat){x:Str}{pos:Pos}(e5:X.N[i]?=some x:=by rfl)(a5:sm X.env.scope x:=by first|exact Or.inl rfl|exact Or.inr (Or.inl rfl)|exact Or.inr (Or.inr rfl))(hd:(x==("__debug__":Str))=false:=by decide)
  (j':(x==("__classdict__":Str))=false:=by decide):bO X (.Name x pos) (gJ i):=ahU e5 a5 hd j'
end
def xl{A B:Prop}(h:B):if false=true then A else B:=by
 rw[if_neg l2];exact h
def xm{A B:Prop}(h:A):if true=true then A else B:=by
 rw[if_pos rfl];exact h
def Uh(H ai:aA):Prop:=∀b o,H b=some o->ai b=some o
end bo
end
section
namespace D
open PySem
abbrev T:=PyData
def hj(a:T):Bool:=a.canLay0 && decide (a.depth<=60)
def n8(as:List T):Bool:=kN as && decide (kM as<=60)
abbrev Key:=Sum Int Str
inductive hg where
|fR|own|cN
 deriving DecidableEq
inductive aM where
|ab (t:T)|own (ts:List T)|hN (kvs:List (Key×T))|obj (m:hg) (c:Nat) (ay:List aM)
abbrev Ev:=List (Option aM)
inductive Out where
|bY (ε:Ev)|fa (t:T)|iD (ε:Ev)|e' (ε:Ev)|gh (t:T) (ε:Ev)|lU (s:aM)
abbrev bD:=Ev->Option T
abbrev e_:=Ev->Option Bool
abbrev bu:=Ev->Option Out
abbrev jd:=Ev->Option (List T)
abbrev hv:=T->Ev->Option Ev
def big:Nat:=16777216
noncomputable def cV:T->T->Option T
|.int i,.int j=>some (.int (i+j))
|.str x,.str y=>if x.length+y.length<=big then some (.str (x++y)) else none
|.tuple xs,.tuple ys=>if xs.length+ys.length<=big then some (.tuple (xs++ys)) else none
|.list xs,.list ys=>if xs.length+ys.length<=big then some (.list (xs++ys)) else none
|_,_=>none
def ke:T->T->Option T
|.int i,.int j=>some (.int (i - j))
|_,_=>none
noncomputable def wd(i j:Int):Bool:=(decide (-(2 ^ 64)<i) && decide (i<2 ^ 64)) || (decide (-(2 ^ 64)<j) && decide (j<2 ^ 64))
noncomputable def d8:T->T->Option T
|.int i,.int j=>if wd i j then some (.int (i*j)) else none
|_,_=>none
noncomputable def oDiv:T->T->Option T
|.int i,.int j=>if 0<j/\j<1073741824 then some (.int (i / j)) else none
|_,_=>none
noncomputable def oMod:T->T->Option T
|.int i,.int j=>if 0<j then some (.int (i % j)) else none
|_,_=>none
def qb:T->Option T
|.int i=>some (.int (-i))
|_=>none
noncomputable def fP(n:Nat)(i:Int):Option Nat:=if 0<=i then (if i<n then some i.toNat else none) else if -(n:Int)<=i then some (i+n).toNat else none
def fW{α:Type}(xs:List α)(i:Int):Option α:=(fP xs.length i).bind λj=>xs[j]?
noncomputable def aN:T->T->Option T
|.tuple xs,.int i=>fW xs i
|.list xs,.int i=>fW xs i
|.str x,.int i=>if x.length<=big then (fW x.cps.toList i).map λc=>.str ⟨#[c]⟩ else none
|_,_=>none
def oEq(a b:T):Option T:=if hj a && hj b then some (.bool (hG a b)) else none
def fQ(a b:T):Option T:=if hj a && hj b then some (.bool (!PyData.eqv a b)) else none
def hR(a:T):Option T:=some (.bool (match a with|.none=>true|_=>false))
def jc(a:T):Option T:=some (.bool (match a with|.none=>false|_=>true))
def strLt(x y:Str):Bool:=decide (x.cps.toList<y.cps.toList)
noncomputable def oLt:T->T->Option T
|.int i,.int j=>some (.bool (decide (i<j)))
|.str x,.str y=>some (.bool (strLt x y))
|_,_=>none
noncomputable def oLe:T->T->Option T
|.int i,.int j=>some (.bool (decide (i<=j)))
|.str x,.str y=>some (.bool (!strLt y x))
|_,_=>none
noncomputable def hD:T->T->Option T
|.int i,.int j=>some (.bool (decide (j<i)))
|.str x,.str y=>some (.bool (strLt y x))
|_,_=>none
noncomputable def rl:T->T->Option T
|.int i,.int j=>some (.bool (decide (j<=i)))
|.str x,.str y=>some (.bool (!strLt x y))
|_,_=>none
def mn(x:T)(ts:List T):Bool:=ts.any λy=>hG y x
noncomputable def dj(neg:Bool):T->T->Option T
|x,.tuple ys=>if hj x && n8 ys then some (.bool (if neg then !mn x ys else mn x ys)) else none
|x,.list ys=>if hj x && n8 ys then some (.bool (if neg then !mn x ys else mn x ys)) else none
|_,_=>none
noncomputable def hS:List T->Option T
| [.tuple xs]=>some (.int xs.length)
| [.list xs]=>some (.int xs.length)
| [.str x]=>if x.length<=big then some (.int x.length) else none
|_=>none
noncomputable def Bz:List T->Option T
| [.int i,.int j]=>some (.int (if j<i then j else i))
|_=>none
noncomputable def lS:List T->Option T
| [.int i,.int j]=>some (.int (if j > i then j else i))
|_=>none
noncomputable def gy:List T->Option T
| [.tuple xs]=>some (.tuple xs)
| [.list xs]=>some (.tuple xs)
|_=>none
noncomputable def DG:List T->Option T
| [.tuple xs]=>some (.list xs)
| [.list xs]=>some (.list xs)
|_=>none
noncomputable def By:List T->Option T
| [.int i]=>some (.int i)
| [.bool b]=>some (.int (if b then 1 else 0))
|_=>none
noncomputable def c5(n d:Nat):Option Int->Nat
|none=>d
|some v=>(if v<0 then max (v+n) 0 else min v n).toNat
noncomputable def wJ{α:Type}(xs:List α)(lo aS:Option Int):List α:=(xs.drop (c5 xs.length 0 lo)).take (c5 xs.length xs.length aS - c5 xs.length 0 lo)
noncomputable def xF(t:T)(lo aS:Option Int):Option T:=match t with
|.tuple xs=>some (.tuple (wJ xs lo aS))
|.list xs=>some (.list (wJ xs lo aS))
|_=>none
noncomputable def intsOf:List T->Option (List Int)
| []=>some []
|.int i::ts=>(intsOf ts).map λr=>i::r
|_::_=>none
noncomputable def strsOf:List T->Option (List Str)
| []=>some []
|.str x::ts=>(strsOf ts).map λr=>x::r
|_::_=>none
noncomputable def insI(x:Int):List Int->List Int
| []=>[x]
|y::ys=>if x<=y then x::y::ys else y::insI x ys
def sortI:List Int->List Int
| []=>[]
|x::xs=>insI x (sortI xs)
noncomputable def s6(x:Str):List Str->List Str
| []=>[x]
|y::ys=>if !strLt y x then x::y::ys else y::s6 x ys
def eD:List Str->List Str
| []=>[]
|x::xs=>s6 x (eD xs)
noncomputable def zr:List T->Option T
| [.list xs]=>if xs.length<64 then
   match intsOf xs with
   |some ns=>some (.list ((sortI ns).map .int))
   |none=>(strsOf xs).map λss=>.list ((eD ss).map .str)
  else none
|_=>none
def keyOf:T->Option Key
|.int i=>some (.inl i)
|.str x=>some (.inr x)
|_=>none
noncomputable def putD(kvs:List (Key×T))(k:Key)(v:T):List (Key×T):=if kvs.any (λp=>decide (p.1=k)) then kvs.map λp=>if p.1=k then (k,v) else p else kvs++[(k,v)]
noncomputable def getD(kvs:List (Key×T))(k:Key):Option T:=(kvs.find? λp=>decide (p.1=k)).map (·.2)
def aa(t:T):bD:=λ_=>some t
noncomputable def nm(i:Nat):bD:=λε=>match ε[i]? with
|some (some (.ab t))=>some t
|some (some (.own ts))=>some (.list ts)
|_=>none
def aL(i:Nat):bD:=λε=>match ε[i]? with
|some (some (.ab t))=>some t
|_=>none
def fo(o:T->Option T)(f:bD):bD:=λε=>(f ε).bind o
noncomputable def ag(o:T->T->Option T)(f g:bD):bD:=λε=>(f ε).bind λx=>(g ε).bind λy=>o x y
noncomputable def args:List bD->Ev->Option (List T)
| [],_=>some []
|f::ay,ε=>(f ε).bind λt=>(args ay ε).map λts=>t::ts
def bV(o:List T->Option T)(ay:List bD):bD:=λε=>(args ay ε).bind o
noncomputable def b1(ay:List bD):bD:=λε=>(args ay ε).bind λts=>if ts.length<=big then some (.tuple ts) else none
noncomputable def eU(ay:List bD):bD:=λε=>(args ay ε).bind λts=>if ts.length<=big then some (.list ts) else none
noncomputable def opt(f:bD):Ev->Option (Option Int):=λε=>(f ε).bind λt=>match t with|.int i=>some (some i)|_=>none
def optN:Ev->Option (Option Int):=λ_=>some none
noncomputable def slice(f:bD)(lo aS:Ev->Option (Option Int)):bD:=λε=>(f ε).bind λt=>(lo ε).bind λl=>(aS ε).bind λh=>xF t l h
noncomputable def jf(f g:bD):bD:=λε=>(f ε).bind λt=>match t with|.bool true=>g ε|.bool false=>some (.bool false)|_=>none
noncomputable def i3(f g:bD):bD:=λε=>(f ε).bind λt=>match t with|.bool false=>g ε|.bool true=>some (.bool true)|_=>none
noncomputable def tc(f:bD):bD:=λε=>(f ε).bind λt=>match t with|.bool b=>some (.bool (!b))|_=>none
def a0(f:bD):e_:=λε=>(f ε).bind λt=>match t with|.bool b=>some b|_=>none
noncomputable def ip(f:bD):e_:=λε=>(f ε).bind λt=>match t with|.list ts=>some (!ts.isEmpty)|.tuple ts=>some (!ts.isEmpty)|_=>none
def eb(f g:e_):e_:=λε=>(f ε).bind λb=>if b then g ε else some false
def eY(f g:e_):e_:=λε=>(f ε).bind λb=>if b then some true else g ε
def jn(f:e_):e_:=λε=>(f ε).map λb=>!b
def mu(c:e_)(f g:bD):bD:=λε=>(c ε).bind λb=>if b then f ε else g ε
def er(b:Bool):e_:=λ_=>some b
def ofT(c:e_):bD:=λε=>(c ε).map .bool
noncomputable def dv(f:bD):jd:=λε=>(f ε).bind λt=>match t with|.tuple ts=>some ts|.list ts=>some ts|_=>none
noncomputable def j0(f:bD):jd:=λε=>(f ε).bind λt=>match t with|.tuple ts=>some ts|_=>none
noncomputable def jo(lo aS:Int):List T:=(List.range (aS - lo).toNat).map λ(k:Nat)=>.int (lo+(k:Int))
def qC(i:Int):Bool:=decide (-(2 ^ 62)<=i) && decide (i<2 ^ 62)
noncomputable def l9(f:bD):jd:=λε=>(f ε).bind λt=>match t with|.int j=>if qC j then some (jo 0 j) else none|_=>none
def enum(ts:List T):List T:=ts.zipIdx.map λp=>.tuple [.int p.2,p.1]
def jY(f:jd):jd:=λε=>(f ε).map enum
def bH(i:Nat):hv:=λt ε=>some (ε.set i (some (.ab t)))
noncomputable def f3:List hv->List T->Ev->Option Ev
| [],[],ε=>some ε
|g::eN,t::ts,ε=>(g t ε).bind λε'=>f3 eN ts ε'
|_,_,_=>none
def di(eN:List hv):hv:=λt ε=>match t with|.tuple ts=>f3 eN ts ε|_=>none
noncomputable def fS(g:hv)(c:e_)(e:bD):List T->Ev->Option (List T)
| [],_=>some []
|t::ts,ε=>(g t ε).bind λiv=>(c iv).bind λb=>if b then (e iv).bind λy=>(fS g c e ts iv).map λys=>y::ys else fS g c e ts iv
noncomputable def hH(own:Nat)(caps:List Nat)(ε:Ev):Ev:=dW own none++caps.map λi=>(ε[i]?).join
noncomputable def comp(own:Nat)(caps:List Nat)(it:jd)(g:hv)(c:e_)(e:bD):bD:=λε=>(it ε).bind λts=>if ts.length<=big then (fS g c e ts (hH own caps ε)).map .list else none
def skip:bu:=λε=>some (.bY ε)
def seq(a b:bu):bu:=λε=>(a ε).bind λo=>match o with|.bY ε'=>b ε'|o=>some o
def asg(i:Nat)(f:bD):bu:=λε=>(f ε).map λt=>.bY (ε.set i (some (.ab t)))
noncomputable def jg(i:Nat)(f:bD):bu:=λε=>(f ε).bind λt=>match t with|.list ts=>some (.bY (ε.set i (some (.own ts))))|_=>none
def hh(g:hv)(f:bD):bu:=λε=>(f ε).bind λt=>(g t ε).map .bY
def cX(f:bD):bu:=λε=>(f ε).map .fa
def iff(c:e_)(a b:bu):bu:=λε=>(c ε).bind λx=>if x then a ε else b ε
def brk:bu:=λε=>some (.iD ε)
noncomputable def forL(g:hv)(b:bu):List T->Ev->Option Out
| [],ε=>some (.bY ε)
|t::ts,ε=>(g t ε).bind λiv=>(b iv).bind λo=>match o with
  |.bY iw=>forL g b ts iw
  |.e' iw=>forL g b ts iw
  |.iD iw=>some (.bY iw)
  |.fa t=>some (.fa t)
  |.gh t iw=>some (.gh t iw)
  |.lU s=>some (.lU s)
def g4(it:jd)(g:hv)(b:bu):bu:=λε=>(it ε).bind λts=>forL g b ts ε
noncomputable def ext(i:Nat)(f:bD):bu:=λε=>match ε[i]? with
|some (some (.own ts))=>(f ε).bind λt=>match t with
  |.list us=>if ts.length+us.length<=big then some (.bY (ε.set i (some (.own (ts++us))))) else none
  |_=>none
|_=>none
noncomputable def par(i j:Nat)(own:Bool)(f g:bD):bu:=λε=>(f ε).bind λt=>(g ε).bind λu=>if own then (match u with|.list us=>some (.bY ((ε.set i (some (.ab t))).set j (some (.own us))))|_=>none) else some (.bY ((ε.set i (some (.ab t))).set j (some (.ab u))))
noncomputable def eI(b:bu)(n:Nat)(as:List T):Option T:=(b ((as.map λt=>some (.ab t))++dW (n - as.length) none)).bind λo=>match o with
|.fa t=>some t
|.bY _=>some .none
|_=>none
end D
end
section
namespace D
open PySem PySem.Spec PyProof.Rows bo
section
mutual
noncomputable def Rep(K:bl)(F:aj->Prop)(H:aA):T->V->Prop
|.none,v=>v=.gH
|.bool b,v=>v=.dr b
|.int i,v=>v=.int i
|.str x,v=>v=.str x
|.dict _,_=>False
|.tuple ts,v=>∃a vs,v=.ref a/\de K H a vs/\bk K F H ts vs
|.list ts,v=>∃a vs,v=.ref a/\F a/\eK H a (.lst vs)/\bk K F H ts vs
noncomputable def bk(K:bl)(F:aj->Prop)(H:aA):List T->List V->Prop
| [],vs=>vs=[]
|t::ts,vs=>∃v r,vs=v::r/\Rep K F H t v/\bk K F H ts r
end
section
variable {K:bl}{F aI:aj->Prop}{H ai:aA}
mutual
theorem Rep.keep(af:∀b xs,de K H b xs->de K ai b xs)(ak:∀b xs,F b->eK H b (.lst xs)->aI b/\eK ai b (.lst xs)):∀{t:T} {v:V},Rep K F H t v->Rep K aI ai t v
|.none,v,h=>by simpa [Rep] using h
|.bool _,v,h=>by simpa [Rep] using h
|.dict _,v,h=>by simp[Rep] at h
|.int _,v,h=>by simpa [Rep] using h
|.str _,v,h=>by simpa [Rep] using h
|.tuple ts,v,h=>by
  simp only[Rep] at h ⊢;obtain⟨a,vs,e,q,r⟩:=h;exact⟨a,vs,e,af _ _ q,bk.keep af ak r⟩
|.list ts,v,h=>by
  simp only[Rep] at h ⊢;obtain⟨a,vs,e,f,q,r⟩:=h;exact⟨a,vs,e,(ak _ _ f q).1,(ak _ _ f q).2,bk.keep af ak r⟩
theorem bk.keep(af:∀b xs,de K H b xs->de K ai b xs)(ak:∀b xs,F b->eK H b (.lst xs)->aI b/\eK ai b (.lst xs)):∀{ts:List T} {vs:List V},bk K F H ts vs->bk K aI ai ts vs
| [],vs,h=>by simpa [bk] using h
|t::ts,vs,h=>by
  simp only[bk] at h ⊢;obtain⟨v,r,e,q,z⟩:=h;exact⟨v,r,e,Rep.keep af ak q,bk.keep af ak z⟩
end
def bk.nil:bk K F H [] []:=by simp[bk]
def bk.cons{t:T}{v:V}{ts:List T}{vs:List V}(h:Rep K F H t v)(r:bk K F H ts vs):bk K F H (t::ts) (v::vs):=by
 simp only[bk];exact⟨v,vs,rfl,h,r⟩
theorem bk.length:∀{ts:List T} {vs:List V},bk K F H ts vs->ts.length=vs.length
| [],vs,h=>by
  simp only[bk] at h;subst h;rfl
|t::ts,vs,h=>by
  simp only[bk] at h;obtain⟨v,r,e,q,z⟩:=h;subst e;simp[bk.length z]
theorem bk.get:∀{ts:List T} {vs:List V} {i:Nat} {t:T},bk K F H ts vs->ts[i]?=some t->∃v,vs[i]?=some v/\Rep K F H t v
| [],vs,i,t,h,e=>by simp at e
|x::ts,vs,0,t,h,e=>by
  simp only[bk] at h;obtain⟨v,r,rfl,q,z⟩:=h;simp at e;subst e;exact⟨v,rfl,q⟩
|x::ts,vs,i+1,t,h,e=>by
  simp only[bk] at h;obtain⟨v,r,rfl,q,z⟩:=h;obtain⟨u,af,ak⟩:=bk.get (i:=i) (t:=t) z (by simpa using e);exact⟨u,by simpa using af,ak⟩
theorem bk.append:∀{ts us:List T} {vs ws:List V},bk K F H ts vs->bk K F H us ws->bk K F H (ts++us) (vs++ws)
| [],us,vs,ws,h,r=>by
  simp only[bk] at h;subst h;exact r
|t::ts,us,vs,ws,h,r=>by
  simp only[bk] at h;obtain⟨v,z,rfl,q,y⟩:=h;exact bk.cons q (bk.append y r)
theorem bk.take:∀{ts:List T} {vs:List V} (n:Nat),bk K F H ts vs->bk K F H (ts.take n) (vs.take n)
| [],vs,n,h=>by
  simp only[bk] at h;subst h;simpa using bk.nil
|t::ts,vs,0,h=>by simpa using bk.nil
|t::ts,vs,n+1,h=>by
  simp only[bk] at h;obtain⟨v,z,rfl,q,y⟩:=h;simpa using bk.cons q (bk.take n y)
theorem bk.drop:∀{ts:List T} {vs:List V} (n:Nat),bk K F H ts vs->bk K F H (ts.drop n) (vs.drop n)
| [],vs,n,h=>by
  simp only[bk] at h;subst h;simpa using bk.nil
|t::ts,vs,0,h=>by simpa using h
|t::ts,vs,n+1,h=>by
  simp only[bk] at h;obtain⟨v,z,rfl,q,y⟩:=h;simpa using bk.drop n y
end
class c2 where
 fq:List (aj×Str)
 eg:Nat->List Str
 jK:Nat->Option aj
noncomputable def z2(H:aA)(b:aj)(q:Str):Prop:=∃ps:Array ao,H b=some (.lj ps)/\TriplesOk ps.toList/\∀pos z9,codeAmong pos ps.toList=some z9->∃c,z9=.ref c/\H c=some (.ext λh=>h.CodeRec (.ref c) q)
def oE [t:c2](H:aA):Prop:=∀p∈t.fq,z2 H p.1 p.2
def z2.keep{H ai:aA}{b:aj}{q:Str}(h:z2 H b q)(e7:∀a ps,H a=some (.lj ps)->ai a=some (.lj ps))(ec:∀a pI,H a=some (.ext pI)->ai a=some (.ext pI)):z2 ai b q:=by
 obtain⟨ps,af,ak,bA⟩:=h;refine⟨ps,e7 _ _ af,ak,λpos z9 e=>?_⟩;obtain⟨c,aQ,a9⟩:=bA pos z9 e;exact⟨c,aQ,ec _ _ a9⟩
variable [c2]
def nH(u:eW):Prop:=(∃xs,u=.lst xs)\/(∃xs,u=.du xs)\/∃C bz ay,u=.ins C bz ay
def nH.cases{P:Prop}{u:eW}(h:nH u)(af:∀xs,u=.lst xs->P)(ak:∀xs,u=.du xs->P)(bA:∀C bz ay,u=.ins C bz ay->P):P:=by
 rcases h with ⟨xs,e⟩|⟨xs,e⟩|⟨C,bz,ay,e⟩
 ·exact af xs e
 ·exact ak xs e
 ·exact bA C bz ay e
def oE.Ou{H:aA}(h:oE H){p:aj}{o:eW}(aC:∀u,H p=some u->nH u):oE (upd H p o):=λb ae=>
 (h b ae).keep (λa ps e=>by
  have nb:a≠p:=by
   rintro rfl;exact (aC _ e).cases (λ_ z=>by cases z) (λ_ z=>by cases z) (λ_ _ _ z=>by cases z)
  rw[cI nb];exact e) λa pI e=>by
  have nb:a≠p:=by
   rintro rfl;exact (aC _ e).cases (λ_ z=>by cases z) (λ_ z=>by cases z) (λ_ _ _ z=>by cases z)
  rw[cI nb];exact e
theorem oE.upd{H:aA}(h:oE H){p:aj}{o:eW}(aC:∀u,H p=some u->(∃xs,u=.lst xs)\/∃xs,u=.du xs):oE (upd H p o):=h.Ou λu e=>by
 rcases aC u e with z|z
 ·exact .inl z
 ·exact .inr (.inl z)
def oE.new{H:aA}(h:oE H){p:aj}{o:eW}(aC:H p=none):oE (bo.upd H p o):=h.upd λu e=>by rw[aC] at e;cases e
structure gM(F:aj->Prop)(H:aA):Prop where
 Fu:∀a,F a->∃o,H a=some o
 oc:oE H
instance {F:aj->Prop}{H:aA}:CoeFun (gM F H) λ_=>∀a,F a->∃o,H a=some o:=⟨gM.Fu⟩
noncomputable def jC(H ai:aA):Prop:=∀b o,H b=some o->ai b=some o\/∃ps xI,o=.lj ps/\ai b=some (.lj xI)
def jC.refl(H:aA):jC H H:=λ_ _ h=>.inl h
def jC.ne{H ai:aA}(s:jC H ai){b:aj}{o:eW}(e:H b=some o):∃u,ai b=some u:=by
 rcases s b o e with h|⟨_,_,_,h⟩
 ·exact⟨_,h⟩
 ·exact⟨_,h⟩
theorem jC.none{H ai:aA}(s:jC H ai){b:aj}(e:ai b=none):H b=none:=by
 cases z:H b with
|none=>rfl
|some o=>
  obtain⟨u,q⟩:=s.ne z;rw[e] at q;cases q
def jC.get{H ai:aA}(s:jC H ai){b:aj}{o:eW}(e:H b=some o)(n:∀ps,o≠.lj ps:=by intro _ z;cases z):ai b=some o:=by
 rcases s b o e with h|⟨_,_,z,_⟩
 ·exact h
 ·exact absurd z (n _)
def jC.trans{H H1 ba:aA}(a:jC H H1)(b:jC H1 ba):jC H ba:=λc o h=>by
 rcases a c o h with q|⟨ps,abc,z,q⟩
 ·exact b c o q
 ·rcases b c _ q with bb|⟨_,xJ,ir,bb⟩
  ·exact .inr ⟨ps,abc,z,bb⟩
  ·exact .inr ⟨ps,xJ,z,bb⟩
structure Ext(F:aj->Prop)(H:aA)(aI:aj->Prop)(ai:aA):Prop where
 same:jC H ai
 sub:∀a,F a->aI a
 new:∀a,aI a->F a\/H a=none
 cj:gM aI ai
section
variable {K:bl}{F aX c0:aj->Prop}{H H1 ba:aA}
theorem Ext.refl(d:gM F H):Ext F H F H:=⟨jC.refl H,λ_ h=>h,λ_ h=>.inl h,d⟩
theorem Ext.trans(a:Ext F H aX H1)(b:Ext aX H1 c0 ba):Ext F H c0 ba:=
 ⟨a.same.trans b.same,λx h=>b.sub x (a.sub x h),λx h=>(b.new x h).elim (λz=>a.new x z) λz=>.inr (a.same.none z),b.cj⟩
def eK.same{a:aj}{u:eW}(s:jC H H1)(r:eK H a u)(n:∀ps,u≠.lj ps:=by intro _ z;cases z):eK H1 a u:=by
 rcases r with r|⟨o,r⟩
 ·exact .inl (s.get r n)
 ·exact .inr ⟨o,s.get r⟩
theorem de.same{a:aj}{xs:List V}(s:jC H H1)(r:de K H a xs):de K H1 a xs:=by
 rcases r with r|r
 ·exact .inl (eK.same s r)
 ·exact .inr r
def Rep.ext{t:T}{v:V}(r:Rep K F H t v)(x:Ext F H aX H1):Rep K aX H1 t v:=r.keep (λ_ _ q=>de.same x.same q) λb _ f q=>⟨x.sub b f,eK.same x.same q⟩
def bk.ext{t:List T}{v:List V}(r:bk K F H t v)(x:Ext F H aX H1):bk K aX H1 t v:=r.keep (λ_ _ q=>de.same x.same q) λb _ f q=>⟨x.sub b f,eK.same x.same q⟩
def Ext.laid{p:aj}{o:eW}(d:gM F H)(aC:H p=none):Ext F H F (upd H p o):=
 ⟨λb u q=>.inl (BJ aC o b u q),λ_ h=>h,λ_ h=>.inl h,⟨λa h=>by
  obtain⟨u,e⟩:=d a h;exact⟨u,BJ aC o a u e⟩,d.oc.new aC⟩⟩
where BJ {H:aA} {p:aj} (h:H p=none) (o:eW):Uh H (upd H p o):=λb u q=>by rw[cI (jV q h)];exact q
def Ext.Br{p:aj}{o:eW}(d:gM F H)(aC:H p=none):Ext F H (λa=>F a\/a=p) (upd H p o):=
 ⟨λb u q=>.inl (Ext.laid.BJ aC o b u q),λ_ h=>.inl h,λa h=>by
  rcases h with h|rfl
  ·exact .inl h
  ·exact .inr aC,⟨λa h=>by
  rcases h with h|rfl
  ·obtain⟨u,e⟩:=d a h;exact⟨u,Ext.laid.BJ aC o a u e⟩
  ·exact⟨o,dI⟩,d.oc.new aC⟩⟩
end
structure eG(K:bl)(F:aj->Prop)(H:aA)(aI:aj->Prop)(ai:aA):Prop where
 tup:∀b xs,de K H b xs->de K ai b xs
 lst:∀b xs,F b->eK H b (.lst xs)->aI b/\eK ai b (.lst xs)
section
variable {K:bl}{F aX c0:aj->Prop}{H H1 ba:aA}
def eG.refl:eG K F H F H:=⟨λ_ _ h=>h,λ_ _ f h=>⟨f,h⟩⟩
def eG.trans(a:eG K F H aX H1)(b:eG K aX H1 c0 ba):eG K F H c0 ba:=⟨λx xs h=>b.tup x xs (a.tup x xs h),λx xs f h=>b.lst x xs (a.lst x xs f h).1 (a.lst x xs f h).2⟩
def Ext.az(x:Ext F H aX H1):eG K F H aX H1:=⟨λ_ _ q=>de.same x.same q,λb _ f q=>⟨x.sub b f,eK.same x.same q⟩⟩
def Rep.az{t:T}{v:V}(r:Rep K F H t v)(x:eG K F H aX H1):Rep K aX H1 t v:=r.keep x.tup x.lst
def bk.az{t:List T}{v:List V}(r:bk K F H t v)(x:eG K F H aX H1):bk K aX H1 t v:=r.keep x.tup x.lst
end
noncomputable def gr(K:bl)(O F:aj->Prop)(H:aA)(t:T)(v:V):Prop:=
 Rep K F H t v\/∃ts a vs,t=.list ts/\v=.ref a/\H a=some (.lst vs)/\bk K F H ts vs
section
variable {K:bl}{O F aX:aj->Prop}{H H1:aA}{v:V}
theorem gr.ext{t:T}(r:gr K O F H t v)(x:Ext F H aX H1):gr K O aX H1 t v:=by
 rcases r with r|⟨ts,a,vs,aQ,a9,ji,r⟩
 ·exact .inl (r.ext x)
 ·exact .inr ⟨ts,a,vs,aQ,a9,x.same.get ji,r.ext x⟩
theorem gr.gH(r:gr K O F H .none v):v=.gH:=by
 rcases r with r|⟨ts,a,vs,aQ,_⟩
 ·simpa [Rep] using r
 ·cases aQ
theorem gr.dr{b:Bool}(r:gr K O F H (.bool b) v):v=.dr b:=by
 rcases r with r|⟨ts,a,vs,aQ,_⟩
 ·simpa [Rep] using r
 ·cases aQ
theorem gr.int{i:Int}(r:gr K O F H (.int i) v):v=.int i:=by
 rcases r with r|⟨ts,a,vs,aQ,_⟩
 ·simpa [Rep] using r
 ·cases aQ
theorem gr.str{x:Str}(r:gr K O F H (.str x) v):v=.str x:=by
 rcases r with r|⟨ts,a,vs,aQ,_⟩
 ·simpa [Rep] using r
 ·cases aQ
def gr.tup{ts:List T}(r:gr K O F H (.tuple ts) v):∃a vs,v=.ref a/\de K H a vs/\bk K F H ts vs:=by
 rcases r with r|⟨ts,a,vs,aQ,_⟩
 ·simpa [Rep] using r
 ·cases aQ
theorem gr.lst{ts:List T}(r:gr K O F H (.list ts) v):∃a vs,v=.ref a/\eK H a (.lst vs)/\bk K F H ts vs:=by
 rcases r with r|⟨us,a,vs,aQ,a9,ji,r⟩
 ·simp only[Rep] at r;obtain⟨a,vs,e,_,q,z⟩:=r;exact⟨a,vs,e,q,z⟩
 ·cases aQ
  exact⟨a,vs,a9,.inl ji,r⟩
end
noncomputable def eL(K:bl)(F:aj->Prop)(H:aA):List (D.Key×T)->List (D.Key×V)->Prop
| [],vs=>vs=[]
|p::ts,vs=>∃v r,vs=(p.1,v)::r/\Rep K F H p.2 v/\eL K F H ts r
theorem eL.az{K:bl}{F aI:aj->Prop}{H ai:aA}(x:eG K F H aI ai):∀{ts:List (D.Key×T)} {vs:List (D.Key×V)},eL K F H ts vs->eL K aI ai ts vs
| [],vs,h=>h
|p::ts,vs,h=>by
  obtain⟨v,r,e,q,z⟩:=h;exact⟨v,r,e,q.az x,eL.az x z⟩
structure gq where
 h:aA
 g6:aj
def gg:V->List aj
|.ref a=>[a]
|_=>[]
def dG:aM->V->List aj
|.ab _,_=>[]
|_,v=>gg v
def cU:List aM->List V->List aj
|s::ss,v::vs=>dG s v++cU ss vs
|_,_=>[]
noncomputable def Dq(H:aA):V->List V
|.ref a=>(match H a with
  |some (.ins _ _ kvs)=>kvs.map (·.2)
  |some (.du kvs)=>kvs.map (·.2)
  |_=>[])
|_=>[]
noncomputable def dJ(H:aA):aM->V->List aj
|.ab _,_=>[]
|.own _,v=>gg v
|.hN _,v=>gg v
|.obj _ _ ay,v=>gg v++cU ay (Dq H v)
noncomputable def gL(H:aA)(a:aj)(c:Nat)(vs:List V):Prop:=vs.length<=(c2.eg c).length/\match c2.jK c with
|some C=>∃bz,H a=some (.ins C bz ((c2.eg c).zip vs))
|none=>H a=some (.du (((c2.eg c).zip vs).map λp=>(.inr p.1,p.2)))
noncomputable def kT(K:bl)(F:aj->Prop)(H:aA):aM->V->Prop
|.ab t,v=>Rep K F H t v
|.own ts,v=>∃b us,v=.ref b/\H b=some (.lst us)/\bk K F H ts us
|.hN kvs,v=>∃b us,v=.ref b/\H b=some (.du us)/\eL K F H kvs us
|.obj _ _ _,_=>False
noncomputable def fN(K:bl)(F:aj->Prop)(H:aA):List aM->List V->Prop
| [],vs=>vs=[]
|s::ss,vs=>∃v r,vs=v::r/\kT K F H s v/\fN K F H ss r
noncomputable def qW(E:gq)(O F:aj->Prop)(m:hg)(b:aj):Prop:=¬F b/\match m with
|.fR=>E.h b≠none
|_=>O b
noncomputable def eE(K:bl)(E:gq)(O F:aj->Prop)(H:aA):aM->V->Prop
|.ab t,v=>Rep K F H t v
|.own ts,v=>∃a vs,v=.ref a/\¬F a/\O a/\H a=some (.lst vs)/\bk K F H ts vs
|.hN kvs,v=>∃a vs,v=.ref a/\¬F a/\O a/\H a=some (.du vs)/\eL K F H kvs vs
|.obj m c ay,v=>∃a vs,v=.ref a/\gL H a c vs/\fN K F H ay vs/\(a::cU ay vs).Nodup/\(∀b∈a::cU ay vs,qW E O F m b)/\(m=.cN->a=E.g6)
def aM.iN:aM->Bool
|.ab _=>false
|.obj .fR _ _=>false
|_=>true
section
variable {K:bl}{F aI O nI:aj->Prop}{H ai:aA}{E:gq}
theorem KP{α β:Type}:∀{xs:List α} {ys:List β},ys.length<=xs.length->(xs.zip ys).map (·.2)=ys
|xs,[],_=>by simp
| [],y::ys,h=>by simp at h
|x::xs,y::ys,h=>by simp[KP (xs:=xs) (ys:=ys) (by simpa using h)]
def gL.vals{a:aj}{c:Nat}{vs:List V}(h:gL H a c vs):Dq H (.ref a)=vs:=by
 obtain⟨aw,h⟩:=h;unfold Dq;split at h
 ·obtain⟨bz,e⟩:=h;simp only[e];exact KP aw
 ·simp only[h,mF];exact KP aw
def gL.mem{a:aj}{c:Nat}{vs:List V}(h:gL H a c vs):∃o,H a=some o/\nH o:=by
 obtain⟨aw,h⟩:=h;split at h
 ·obtain⟨bz,e⟩:=h;exact⟨_,e,.inr (.inr ⟨_,_,_,rfl⟩)⟩
 ·exact⟨_,h,.inr (.inl ⟨_,rfl⟩)⟩
def gL.keep{a:aj}{c:Nat}{vs:List V}(h:gL H a c vs)(e:ai a=H a):gL ai a c vs:=by
 obtain⟨aw,h⟩:=h;refine⟨aw,?_⟩;rw[e];exact h
def vV{v:V}{b:aj}(h:b∈gg v):v=.ref b:=by
 unfold gg at h;split at h
 ·simp at h;rw[h]
 ·simp at h
theorem kT.at{s:aM}{v:V}{b:aj}(r:kT K F H s v)(h:b∈dG s v):∃o,H b=some o/\nH o:=by
 cases s with
|ab t=>simp[dG] at h
|own ts=>
  obtain⟨oF,us,e,h7,_⟩:=r;have:=vV h;rw[e] at this;cases this;exact⟨_,h7,.inl ⟨_,rfl⟩⟩
|hN ts=>
  obtain⟨oF,us,e,h7,_⟩:=r;have:=vV h;rw[e] at this;cases this;exact⟨_,h7,.inr (.inl ⟨_,rfl⟩)⟩
|obj m c ay=>exact r.elim
theorem fN.at:∀{ay:List aM} {vs:List V} {b:aj},fN K F H ay vs->b∈cU ay vs->∃o,H b=some o/\nH o
| [],vs,b,r,h=>by simp[cU] at h
|s::ss,vs,b,r,h=>by
  obtain⟨v,z,rfl,bg,b7⟩:=r;rw[show cU (s::ss) (v::z)=dG s v++cU ss z from rfl] at h;rcases ju.mp h with h|h
  ·exact bg.at h
  ·exact fN.at b7 h
def i9{m:hg}{c:Nat}{ay:List aM}{a:aj}{vs:List V}(h:gL H a c vs):dJ H (.obj m c ay) (.ref a)=a::cU ay vs:=by
 show gg (.ref a)++cU ay (Dq H (.ref a))=_
 rw[h.vals];rfl
theorem eE.at{s:aM}{v:V}{b:aj}(r:eE K E O F H s v)(h:b∈dJ H s v):∃o,H b=some o/\nH o:=by
 cases s with
|ab t=>simp[dJ] at h
|own ts=>
  obtain⟨oF,us,e,_,_,h7,_⟩:=r;have:=vV h;rw[e] at this;cases this;exact⟨_,h7,.inl ⟨_,rfl⟩⟩
|hN ts=>
  obtain⟨oF,us,e,_,_,h7,_⟩:=r;have:=vV h;rw[e] at this;cases this;exact⟨_,h7,.inr (.inl ⟨_,rfl⟩)⟩
|obj m c ay=>
  obtain⟨a,vs,rfl,ax,hf,_⟩:=r;rw[i9 ax] at h;rcases cZ.mp h with rfl|h
  ·exact ax.mem
  ·exact hf.at h
def eE.held{s:aM}{v:V}{b:aj}(r:eE K E O F H s v)(h:b∈dJ H s v):¬F b/\(s.iN=true->O b)/\(s.iN=false->E.h b≠none):=by
 cases s with
|ab t=>simp[dJ] at h
|own ts=>
  obtain⟨oF,us,e,n,o,h7,_⟩:=r;have:=vV h;rw[e] at this;cases this;exact⟨n,λ_=>o,λz=>by cases z⟩
|hN ts=>
  obtain⟨oF,us,e,n,o,h7,_⟩:=r;have:=vV h;rw[e] at this;cases this;exact⟨n,λ_=>o,λz=>by cases z⟩
|obj m c ay=>
  obtain⟨a,vs,rfl,ax,hf,aW,fp,_⟩:=r;rw[i9 ax] at h;obtain⟨n,q⟩:=fp b h;refine⟨n,λz=>?_,λz=>?_⟩
  ·cases m with
   |fR=>cases z
   |own=>exact q
   |cN=>exact q
  ·cases m with
   |fR=>exact q
   |own=>cases z
   |cN=>cases z
def kT.keep{s:aM}{v:V}(r:kT K F H s v)(az:eG K F H aI ai)(da:∀b∈dG s v,ai b=H b):kT K aI ai s v:=by
 cases s with
|ab t=>exact Rep.az r az
|own ts=>
  obtain⟨b,us,rfl,h7,z⟩:=r;exact⟨b,us,rfl,by rw[da b (by simp[dG,gg])];exact h7,z.az az⟩
|hN ts=>
  obtain⟨b,us,rfl,h7,z⟩:=r;exact⟨b,us,rfl,by rw[da b (by simp[dG,gg])];exact h7,eL.az az z⟩
|obj m c ay=>exact r.elim
theorem fN.keep:∀{ay:List aM} {vs:List V},fN K F H ay vs->eG K F H aI ai->(∀b∈cU ay vs,ai b=H b)->fN K aI ai ay vs
| [],vs,r,_,_=>r
|s::ss,vs,r,az,da=>by
  obtain⟨v,z,rfl,bg,b7⟩:=r;rw[show cU (s::ss) (v::z)=dG s v++cU ss z from rfl] at da;exact⟨v,z,rfl,bg.keep az λb h=>da b (ju.mpr (.inl h)),fN.keep b7 az λb h=>da b (ju.mpr (.inr h))⟩
theorem eE.keep{s:aM}{v:V}(r:eE K E O F H s v)(az:eG K F H aI ai)(da:∀b∈dJ H s v,ai b=H b)(hf:∀b∈dJ H s v,aI b->F b)(aE:∀b∈dJ H s v,O b->nI b):
  eE K E nI aI ai s v/\dJ ai s v=dJ H s v:=by
 cases s with
|ab t=>exact⟨Rep.az r az,rfl⟩
|own ts=>
  obtain⟨a,vs,rfl,n,o,h7,z⟩:=r;have m:a∈dJ H (.own ts) (.ref a):=by simp[dJ,gg]
  exact⟨⟨a,vs,rfl,λf=>n (hf a m f),aE a m o,by rw[da a m];exact h7,z.az az⟩,rfl⟩
|hN ts=>
  obtain⟨a,vs,rfl,n,o,h7,z⟩:=r;have m:a∈dJ H (.hN ts) (.ref a):=by simp[dJ,gg]
  exact⟨⟨a,vs,rfl,λf=>n (hf a m f),aE a m o,by rw[da a m];exact h7,eL.az az z⟩,rfl⟩
|obj m c ay=>
  obtain⟨a,vs,rfl,ax,ar,aW,fp,g6⟩:=r;rw[i9 ax] at da hf aE;have lN:gL ai a c vs:=ax.keep (da a (by simp));refine⟨⟨a,vs,rfl,lN,ar.keep az λb h=>da b (dM _ h),aW,λb h=>?_,g6⟩,by rw[i9 ax,i9 lN]⟩;obtain⟨n,q⟩:=fp b h;refine⟨λf=>n (hf b h f),?_⟩;cases m with
  |fR=>exact q
  |own=>exact aE b h q
  |cN=>exact aE b h q
def eE.wN{s:aM}{v:V}(r:eE K E O F H s v)(x:Ext F H aI ai):eE K E O aI ai s v/\dJ ai s v=dJ H s v:=
 r.keep x.az (λb h=>by
  obtain⟨o,e,m⟩:=r.at h;rw[e];exact x.same.get e λps z=>by subst z;exact m.cases (λ_ z=>by cases z) (λ_ z=>by cases z) (λ_ _ _ z=>by cases z)) (λb h f=>by
  rcases x.new b f with z|z
  ·exact z
  ·obtain⟨o,e,_⟩:=r.at h;rw[z] at e;cases e) λ_ _ o=>o
def eE.ext{s:aM}{v:V}(r:eE K E O F H s v)(x:Ext F H aI ai):eE K E O aI ai s v:=(r.wN x).1
end
structure cB(K:bl)(aB:aj->Prop)(E:gq)(O F:aj->Prop)(H:aA)(ε:Ev)(σ:bo.St):Prop where
 len:ε.length=σ.length
 val:∀(i:Nat) (s:aM),ε[i]?=some (some s)->∃v,σ[i]?=some (some v)/\eE K E O F H s v
 ne:∀(i j:Nat) (s u:aM) (v w:V),i≠j->ε[i]?=some (some s)->ε[j]?=some (some u)->s.iN=true->u.iN=true->σ[i]?=some (some v)->σ[j]?=some (some w)->∀a∈dJ H s v,a∉dJ H u w
 ent:Ext aB E.h F H
 o0:∀a,O a->E.h a=none
 fr:∀a,H a=none->O a
section
variable {K:bl}{aB O F aX:aj->Prop}{E:gq}{H H1:aA}{ε:Ev}{σ:bo.St}
theorem cB.cj(r:cB K aB E O F H ε σ):gM F H:=r.ent.cj
theorem cB.ext(r:cB K aB E O F H ε σ)(x:Ext F H aX H1):cB K aB E O aX H1 ε σ:=
 ⟨r.len,λi s e=>by
  obtain⟨v,af,ak⟩:=r.val i s e;exact⟨v,af,ak.ext x⟩,λi j s u v w kF aQ a9 dT fA af ak=>by
  obtain⟨kI,eS,bg⟩:=r.val i s aQ;obtain⟨f7,hC,b7⟩:=r.val j u a9;rw[af] at eS;rw[ak] at hC;cases eS;cases hC;rw[(bg.wN x).2,(b7.wN x).2];exact r.ne i j s u v w kF aQ a9 dT fA af ak,r.ent.trans x,r.o0,λa e=>r.fr a (x.same.none e)⟩
def get_set{α:Type}{l:List (Option α)}{i j:Nat}{x:Option α}{y:α}(h:(l.set i x)[j]?=some (some y)):(i=j/\x=some y/\j<l.length)\/(i≠j/\l[j]?=some (some y)):=by
 rw[u0] at h;by_cases e:i=j
 ·subst e;rw[if_pos rfl] at h;split at h
  next aw=>exact .inl ⟨rfl,en h,aw⟩
  next=>cases h
 ·rw[if_neg e] at h;exact .inr ⟨e,h⟩
def KR{α:Type}{l:List (Option α)}{i:Nat}{x:Option α}(h:i<l.length):(l.set i x)[i]?=some x:=by
 rw[u0,if_pos rfl,if_pos h]
def CI{α:Type}{l:List (Option α)}{i j:Nat}{x:Option α}(h:i≠j):(l.set i x)[j]?=l[j]?:=by
 rw[u0,if_neg h]
def cB.setG{s:aM}{v:V}(r:cB K aB E O F H ε σ)(i:Nat)(h:eE K E O F H s v)(fr:s.iN=true->∀(j:Nat) (u:aM) (w:V),i≠j->ε[j]?=some (some u)->u.iN=true->σ[j]?=some (some w)->∀a∈dJ H s v,a∉dJ H u w):
  cB K aB E O F H (ε.set i (some s)) (σ.set i (some v)):=by
 refine⟨by simp[r.len],λj u e=>?_,λj k u w fs mB oO aQ a9 dT fA af ak=>?_,r.ent,r.o0,r.fr⟩
 ·rcases get_set e with ⟨rfl,bT,aw⟩|⟨ne,bT⟩
  ·cases bT
   exact⟨_,KR (by rw[<- r.len];exact aw),h⟩
  ·obtain⟨w,af,ak⟩:=r.val j u bT;exact⟨w,by rw[CI ne];exact af,ak⟩
 ·rcases get_set aQ with ⟨rfl,bT,aw⟩|⟨ne1,kB⟩
  ·rcases get_set a9 with ⟨rfl,_,_⟩|⟨ne2,hO⟩
   ·exact absurd rfl oO
   ·rw[KR (by rw[<- r.len];exact aw)] at af;rw[CI ne2] at ak;cases af;cases bT;exact fr dT k w mB ne2 hO fA ak
  ·rw[CI ne1] at af;rcases get_set a9 with ⟨rfl,bT,aw⟩|⟨ne2,hO⟩
   ·rw[KR (by rw[<- r.len];exact aw)] at ak;cases ak;cases bT;intro a ax ae;exact fr fA j u fs ne1 kB dT af a ae ax
   ·rw[CI ne2] at ak;exact r.ne j k u w fs mB oO kB hO dT fA af ak
theorem cB.set{t:T}{v:V}(r:cB K aB E O F H ε σ)(i:Nat)(h:Rep K F H t v):cB K aB E O F H (ε.set i (some (.ab t))) (σ.set i (some v)):=r.setG (s:=.ab t) i h λz=>by cases z
def cB.abt{s:aM}{v:V}(r:cB K aB E O F H ε σ)(i:Nat)(x:Ext F H aX H1)(h:eE K E O aX H1 s v)(a8:∀a∈dJ H1 s v,H a=none):cB K aB E O aX H1 (ε.set i (some s)) (σ.set i (some v)):=
 (r.ext x).setG i h λ_ j u w _ pZ _ bw a ax ae=>by
  obtain⟨f7,af,ak⟩:=r.val j u pZ;rw[bw] at af;cases af;rw[(ak.wN x).2] at ae;obtain⟨o,e,_⟩:=ak.at ae;rw[a8 a ax] at e;cases e
def Rh{x:aj}{o o':eW}(a8:¬F x)(hx:H x=some o)(hm:nH o):eG K F H F (upd H x o'):=by
 refine⟨λb xs q=>?_,λb xs f q=>⟨f,?_⟩⟩
 ·rcases q with q|q
  ·refine .inl ?_
   have nb:b≠x:=by
    rintro rfl;rcases q with q|⟨_,q⟩ <;> (rw[hx] at q;cases q;exact hm.cases (λ_ z=>by cases z) (λ_ z=>by cases z) (λ_ _ _ z=>by cases z))
   rcases q with q|⟨u,q⟩
   ·exact .inl (by rw[cI nb];exact q)
   ·exact .inr ⟨u,by rw[cI nb];exact q⟩
  ·exact .inr q
 ·have nb:b≠x:=by
   rintro rfl;exact a8 f
  rcases q with q|⟨u,q⟩
  ·exact .inl (by rw[cI nb];exact q)
  ·exact .inr ⟨u,by rw[cI nb];exact q⟩
def QM{x:aj}{o o':eW}{h0:aA}(e:Ext aB h0 F H)(Xe:h0 x=none)(a8:¬F x)(hx:H x=some o)(hm:nH o):Ext aB h0 F (upd H x o'):=by
 refine⟨λb u q=>?_,e.sub,e.new,⟨λb f=>?_,e.cj.oc.Ou λu z=>by rw[hx] at z;cases z;exact hm⟩⟩
 ·have nb:b≠x:=by
   rintro rfl;rw[Xe] at q;cases q
  rw[cI nb];exact e.same b u q
 ·have nb:b≠x:=by
   rintro rfl;exact a8 f
  rw[cI nb];exact e.cj b f
def cB.xx{s s':aM}{v:V}{x:aj}{o':eW}(r:cB K aB E O F H ε σ){i:Nat}(e:ε[i]?=some (some s))(aE:s.iN=true)(a5:σ[i]?=some (some v))(hx:x∈dJ H s v)
  (h:eG K F H F (upd H x o')->eE K E O F (upd H x o') s' v)
  (aC:∀b∈dJ (upd H x o') s' v,b∈dJ H s v\/∀(j:Nat) (u:aM) (w:V),i≠j->ε[j]?=some (some u)->u.iN=true->σ[j]?=some (some w)->b∉dJ H u w):
  eG K F H F (upd H x o')/\cB K aB E O F (upd H x o') (ε.set i (some s')) σ:=by
 obtain⟨kI,sV,rs⟩:=r.val i s e;rw[a5] at sV;cases sV;obtain⟨o,et,hm⟩:=rs.at hx;obtain⟨Bs,lM,_⟩:=rs.held hx;have Xj:=lM aE;have az:eG K F H F (upd H x o'):=Rh Bs et hm;have h0:=r.o0 x Xj;have keep:∀(j:Nat) (u:aM) (w:V),i≠j->ε[j]?=some (some u)->σ[j]?=some (some w)->eE K E O F H u w->eE K E O F (upd H x o') u w/\dJ (upd H x o') u w=dJ H u w:=by
  intro j u w kF pZ bw ee;refine ee.keep az (λb ae=>cI ?_) (λ_ _ f=>f) λ_ _ o=>o;rintro rfl;cases ro:u.iN with
  |true=>exact r.ne i j s u v w kF e pZ aE ro a5 bw b hx ae
  |false=>exact (ee.held ae).2.2 ro h0
 refine⟨az,⟨by simp[r.len],λj u bT=>?_,λj k u w fs mB oO aQ a9 dT fA af ak=>?_,QM r.ent h0 Bs et hm,r.o0,λb bT=>r.fr b ?_⟩⟩
 ·rcases get_set bT with ⟨rfl,pY,aw⟩|⟨ne,pY⟩
  ·cases pY
   exact⟨_,a5,h az⟩
  ·obtain⟨w,af,ak⟩:=r.val j u pY;exact⟨w,af,(keep j u w ne pY af ak).1⟩
 ·rcases get_set aQ with ⟨rfl,bT,aw⟩|⟨ne1,kB⟩
  ·rcases get_set a9 with ⟨rfl,_,_⟩|⟨ne2,hO⟩
   ·exact absurd rfl oO
   ·cases bT
    rw[a5] at af;cases af;obtain⟨f7,hC,b7⟩:=r.val k w hO;rw[ak] at hC;cases hC;rw[(keep k w mB ne2 hO ak b7).2];intro a ax ae;rcases aC a ax with z|z
    ·exact r.ne i k s w v mB ne2 e hO aE fA a5 ak a z ae
    ·exact z k w mB ne2 hO fA ak ae
  ·obtain⟨v1,eS,bg⟩:=r.val j u kB;rw[af] at eS;cases eS;rw[(keep j u fs ne1 kB af bg).2];rcases get_set a9 with ⟨rfl,bT,aw⟩|⟨ne2,hO⟩
   ·cases bT
    rw[a5] at ak;cases ak;intro a ax ae;rcases aC a ae with z|z
    ·exact r.ne i j s u v fs ne1 e kB aE dT a5 af a z ax
    ·exact z j u fs ne1 kB dT af ax
   ·obtain⟨f7,hC,b7⟩:=r.val k w hO;rw[ak] at hC;cases hC;rw[(keep k w mB ne2 hO ak b7).2];exact r.ne j k u w fs mB oO kB hO dT fA af ak
 ·by_cases nb:b=x
  ·subst nb;rw[dI] at bT;cases bT
  ·rwa [cI nb] at bT
end
noncomputable def Jb(K:bl)(f:bD):TE:=λσ H Q=>∃aB aK O F ε t,cB K aB aK O F H ε σ/\f ε=some t/\∀v aI ai,Ext F H aI ai->gr K O aI ai t v->Q v ai
noncomputable def uP(K:bl)(f:bD):TE:=λσ H Q=>∃aB aK O F ε t,cB K aB aK O F H ε σ/\f ε=some t/\∀v aI ai,Ext F H aI ai->Rep K aI ai t v->Q v ai
noncomputable def Oo(K:bl)(f:bD):TE:=λσ H Q=>∃aB aK O F ε ts,cB K aB aK O F H ε σ/\f ε=some (.list ts)/\∀a vs aI ai,Ext F H aI ai->H a=none->¬aI a->ai a=some (.lst vs)->bk K aI ai ts vs->Q (.ref a) ai
noncomputable def Jc(K:bl)(f:e_):TT:=λσ H Q=>∃aB aK O F ε b,cB K aB aK O F H ε σ/\f ε=some b/\∀aI ai,Ext F H aI ai->Q b ai
noncomputable def Oj(K:bl)(ay:List bD):f':=λσ H Q=>∃aB aK O F ε ts,cB K aB aK O F H ε σ/\args ay ε=some ts/\∀vs aI ai,Ext F H aI ai->Paired (gr K O aI ai) ts vs->Q vs ai
noncomputable def aco(K:bl)(ay:List bD):f':=λσ H Q=>∃aB aK O F ε ts,cB K aB aK O F H ε σ/\args ay ε=some ts/\∀vs aI ai,Ext F H aI ai->bk K aI ai ts vs->Q vs ai
abbrev eo(X:bh)(e:bf)(f:bD):Prop:=bO X e (Jb X.K f)
abbrev cf(X:bh)(e:bf)(f:bD):Prop:=bO X e (uP X.K f)
abbrev oC(X:bh)(e:bf)(f:bD):Prop:=bO X e (Oo X.K f)
abbrev lG(X:bh)(e:bf)(f:e_):Prop:=lF X e (Jc X.K f)
abbrev sj(X:bh)(e:bf)(f:e_):Prop:=nK X e (Jc X.K f)
abbrev pP(X:bh)(es:List bf)(ay:List bD):Prop:=h5 X es (Oj X.K ay)
abbrev lE(X:bh)(es:List bf)(ay:List bD):Prop:=h5 X es (aco X.K ay)
def d7{X:bh}{e:bf}{t t':TE}(h:bO X e t)(k:∀σ H Q,t' σ H Q->t σ H Q):bO X e t':=λah s σ H Q I q=>h ah s σ H Q I (k σ H Q q)
def DD{X:bh}{e:bf}{t t':TT}(h:lF X e t)(k:∀σ H Q,t' σ H Q->t σ H Q):lF X e t':=λah s σ H Q I q=>h ah s σ H Q I (k σ H Q q)
def Si{X:bh}{e:bf}{t t':TT}(h:nK X e t)(k:∀σ H Q,t' σ H Q->t σ H Q):nK X e t':=λw ah s σ H Q I q=>h w ah s σ H Q I (k σ H Q q)
def zF{X:bh}{e:List bf}{t t':f'}(h:h5 X e t)(k:∀σ H Q,t' σ H Q->t σ H Q):h5 X e t':=λpos ah s σ H Q I q=>h pos ah s σ H Q I (k σ H Q q)
def g9{X:bh}{e:Stmt}{t t':hL}(h:ky X e t)(k:∀D σ H,t' D σ H->t D σ H):ky X e t':=λah s σ H D I q=>h ah s σ H D I (k D σ H q)
def Rx{X:bh}{e:List Stmt}{t t':hL}(h:kY X e t)(k:∀D σ H,t' D σ H->t D σ H):kY X e t':=λah s σ H D I q=>h ah s σ H D I (k D σ H q)
section
variable {X:bh}{e:bf}{f:bD}
def au(h:cf X e f):eo X e f:=d7 h λσ H Q ⟨aB,aK,O,F,ε,t,r,e,k⟩=>⟨aB,aK,O,F,ε,t,r,e,λv aI ai x q=>k v aI ai x (.inl q)⟩
def Ic(h:oC X e f)(hf:∀ε t,f ε=some t->∃ts,t=.list ts):cf X e f:=d7 h λσ H Q ⟨aB,aK,O,F,ε,t,r,e,k⟩=>by
 obtain⟨ts,rfl⟩:=hf _ _ e;refine⟨aB,aK,O,F,ε,ts,r,e,λa vs aI ai x a8 gf ax q=>?_⟩;have y:Ext F H (λb=>aI b\/b=a) ai:=⟨x.same,λb z=>.inl (x.sub b z),λb z=>by
  rcases z with z|rfl
  ·exact x.new b z
  ·exact .inr a8,⟨λb z=>by
  rcases z with z|rfl
  ·exact x.cj b z
  ·exact⟨_,ax⟩,x.cj.oc⟩⟩
 refine k (.ref a) _ ai y ?_
 simp only[Rep];exact⟨a,vs,rfl,.inr rfl,.inl ax,q.keep (λ_ _ z=>z) λb _ z w=>⟨.inl z,w⟩⟩
end
end
section
variable [c2]
section
variable {X:bh}{a b c e:bf}{f g h:bD}{pos:Pos}
def aj8{t:T}{v:V}(he:bO X e (uO v))(ar:∀F H,Rep X.K F H t v):cf X e (aa t):=d7 he λσ H Q ⟨aB,aK,O,F,ε,t',r,e,k⟩=>by
 cases e
 exact k v F H (Ext.refl r.cj) (ar _ _)
def aT{i j}:cf X (.Constant (.int i) j pos) (aa (.int i)):=aj8 ah0 λ_ _=>by simp[Rep]
def xK{i j}:cf X (.Constant (.bool i) j pos) (aa (.bool i)):=aj8 ai4 λ_ _=>by simp[Rep]
def aY{i j}:cf X (.Constant (.str i) j pos) (aa (.str i)):=aj8 ahW λ_ _=>by simp[Rep]
def hJ{j}:cf X (.Constant .none j pos) (aa .none):=aj8 ahY λ_ _=>by simp[Rep]
def aZ(i:Nat){x:Str}(e5:X.N[i]?=some x:=by rfl)(a5:sm X.env.scope x:=by first|exact Or.inl rfl|exact Or.inr (Or.inl rfl)|exact Or.inr (Or.inr rfl))(hd:(x==("__debug__":Str))=false:=by decide)
  (j':(x==("__classdict__":Str))=false:=by decide):eo X (.Name x pos) (nm i):=d7 (aV i e5 a5 hd j') λσ H Q ⟨aB,aK,O,F,ε,t,r,e,k⟩=>by
 unfold nm at e;split at e
 next t' he=>
  cases e
  obtain⟨v,af,ak⟩:=r.val _ _ he;exact⟨v,af,k v F H (Ext.refl r.cj) (.inl ak)⟩
 next ts he=>
  cases e
  obtain⟨v,af,a,vs,rfl,n,h0,da,ar⟩:=r.val _ _ he;exact⟨_,af,k _ F H (Ext.refl r.cj) (.inr ⟨ts,a,vs,rfl,rfl,da,ar⟩)⟩
 next=>cases e
def bF(i:Nat){x:Str}(e5:X.N[i]?=some x:=by rfl)(a5:sm X.env.scope x:=by first|exact Or.inl rfl|exact Or.inr (Or.inl rfl)|exact Or.inr (Or.inr rfl))(hd:(x==("__debug__":Str))=false:=by decide)
  (j':(x==("__classdict__":Str))=false:=by decide):cf X (.Name x pos) (aL i):=d7 (aV i e5 a5 hd j') λσ H Q ⟨aB,aK,O,F,ε,t,r,e,k⟩=>by
 unfold aL at e;split at e
 next t' he=>
  cases e
  obtain⟨v,af,ak⟩:=r.val _ _ he;exact⟨v,af,k v F H (Ext.refl r.cj) ak⟩
 next=>cases e
noncomputable def oB(K:bl)(o:T->T->Option T)(R:hy):Prop:=
 ∀(O F:aj->Prop) (H:aA) (x y t:T) (gK jt:V) (Q:dx),gM F H->gr K O F H x gK->gr K O F H y jt->o x y=some t ->
  (∀v aI ai,Ext F H aI ai->Rep K aI ai t v->Q v ai)->R gK jt H Q
def qE{o:T->T->Option T}{R:hy}(h:oB X.K o R):∀σ H Q,uP X.K (ag o f g) σ H Q->x2 R (Jb X.K f) (Jb X.K g) σ H Q:=by
 rintro σ H Q ⟨aB,aK,O,F,ε,t,r,e,k⟩;simp only[ag,b5] at e;obtain⟨x,ex,y,eQ,et⟩:=e;refine⟨aB,aK,O,F,ε,x,r,ex,λgK aX H1 aJ a3=>⟨aB,aK,O,aX,ε,y,r.ext aJ,eQ,λjt c0 ba bq bK=>?_⟩⟩;exact h O c0 ba x y t gK jt Q bq.cj (a3.ext bq) bK et λv aI ai d0 cQ=>k v aI ai ((aJ.trans bq).trans d0) cQ
def Inv.xw{ah:List (aj×Obj)}{σ:bo.St}{H:aA}{s:aP}{l:aj}{xs:List V}(I:Inv X ah σ H s)(jj:eK H l (.lst xs)):
  xs.length<=cF/\∃(its:List ao) (n:Nat),Vals xs its/\xs.length=its.length/\s.heap.get? l=some {cls:=.type "list",data:=.seq its.toArray n}:=by
 obtain⟨z,its,n,r,e⟩:=jj.ok I.b';exact⟨z,its,n,r,r.length,e⟩
noncomputable def aiU:hy:=λx y H Q=>∃l b xs zs,x=.ref l/\y=.ref b/\eK H l (.lst xs)/\eK H b (.lst zs)/\xs.length+zs.length<=cF/\∀p,H p=none->Q (.ref p) (upd H p (.lst (xs++zs)))
def ag7:fk X (mH .Add) aiU:=by
 intro ah s σ H x y v u Q I a3 bK h;obtain⟨l,b,xs,zs,rfl,rfl,jj,M3,aq,q⟩:=h;cases a3;cases bK;obtain⟨z,its,n,r,aw,e⟩:=Inv.xw I jj;obtain⟨ir,hQ,gF,b7,AP,a9⟩:=Inv.xw I M3;refine PySem.P.add_list e a9 ?_ (by rw[eJ,eJ];omega);have dy:its.toArray++hQ.toArray=(its++hQ).toArray:=by simp
 rw[dy];exact⟨.ref _,_,I.xu (t':=s.toks) (r.append b7) (by rw[qq];omega),rfl,q _ I.fresh⟩
noncomputable def ahJ(K:bl):hy:=λx y H Q=>∃a b ys,x=.ref a/\y=.ref b/\de K H a []/\de K H b ys/\Q (.ref b) H
def af7:fk X (mH .Add) (ahJ X.K):=by
 intro ah s σ H x y v u Q I a3 bK h;obtain⟨a,b,ys,rfl,rfl,ax,ae,q⟩:=h;cases a3;cases bK;obtain⟨its,bg,te,_⟩:=I.tuple ax;obtain⟨hQ,b7,fB,_⟩:=I.tuple ae;have wL:its=[]:=bg.Bw.mpr rfl;subst wL;obtain⟨⟨cls,dO,data,dg⟩,aE,aD,n,hd⟩:=id te;obtain⟨⟨Fq,mX,data2,lW⟩,sR,w1,gF,hd2⟩:=id fB;simp only at aD hd w1 hd2;subst aD hd w1 hd2;exact concat_meets ⟨_,aE,rfl⟩ ⟨_,sR,rfl⟩ noFill_tuple_add seq_tuple_add PySem.F.slot_tuple_add PySem.F.entry_tuple_add (PySem.F.args_tuple_add_2 _ _)
   (tuple_addW0 a b ([]:List ao).toArray hQ.toArray n gF dO mX dg lW (by simp)) ⟨aE,sR,⟨.ref b,H,I,rfl,q⟩⟩
def kQ:cF=big:=by rw[lr];rfl
def iu(ax:eo X a f)(ae:eo X b g):cf X (.BinOp a .Add b pos) (ag cV f g):=
 d7 (t5 (ah7.or (aet.or (af7.or (ag6.or ag7)))) ax ae) (qE (by
  intro O F H x y t gK jt Q d a3 bK e k;unfold cV at e;split at e
  ·cases e
   rw[a3.int,bK.int];exact .inl ⟨_,_,rfl,rfl,k _ F H (Ext.refl d) (by simp[Rep])⟩
  ·split at e
   next aq=>
    cases e
    rw[a3.str,bK.str];exact .inr (.inl ⟨_,_,rfl,rfl,by rw[kQ];exact aq,k _ F H (Ext.refl d) (by simp[Rep])⟩)
   next=>cases e
  ·split at e
   next xs ys aq=>
    cases e
    obtain⟨pV,vs,rfl,av,ar⟩:=a3.tup;obtain⟨Vd,ws,rfl,ic,p7⟩:=bK.tup;cases xs with
    |nil=>
     simp only[bk] at ar;subst ar;refine .inr (.inr (.inl ⟨_,_,_,rfl,rfl,av,ic,k _ F H (Ext.refl d) ?_⟩));simp only[Rep];exact⟨_,_,rfl,ic,by simpa using p7⟩
    |cons x0 Oz=>
     refine .inr (.inr (.inr (.inl ⟨_,_,_,_,rfl,rfl,av,ic,?_,?_,λeB=>?_,λeB p aC=>?_⟩)))
     ·intro z;subst z;have:=ar.length;simp at this
     ·rw[kQ,<- ar.length,<- p7.length];exact aq
     ·refine k _ F H (Ext.refl d) ?_
      subst eB;have aQ:ys=[]:=List.eq_nil_of_length_eq_zero (by rw[p7.length];rfl);subst aQ;simp only[Rep];exact⟨_,_,rfl,av,by simpa using ar⟩
     ·have aJ:=Ext.laid (o:=.tup (vs++ws)) d aC;refine k _ F _ aJ ?_;simp only[Rep];exact⟨p,_,rfl,de.of dI,(ar.append p7).ext aJ⟩
   next=>cases e
  ·split at e
   next xs ys aq=>
    cases e
    obtain⟨pV,vs,rfl,av,ar⟩:=a3.lst;obtain⟨Vd,ws,rfl,ic,p7⟩:=bK.lst;refine .inr (.inr (.inr (.inr ⟨_,_,_,_,rfl,rfl,av,ic,by rw[kQ,<- ar.length,<- p7.length];exact aq,λp aC=>?_⟩)));have aJ:=Ext.Br (o:=.lst (vs++ws)) d aC;refine k _ _ _ aJ ?_;simp only[Rep];exact⟨p,_,rfl,.inr rfl,.inl dI,(ar.append p7).ext aJ⟩
   next=>cases e
  ·cases e))
def zG(ax:eo X a f)(ae:eo X b g):cf X (.BinOp a .Sub b pos) (ag ke f g):=
 d7 (t5 ah4 ax ae) (qE (by
  intro O F H x y t gK jt Q d a3 bK e k;unfold ke at e;split at e
  ·cases e
   rw[a3.int,bK.int];exact⟨_,_,rfl,rfl,k _ F H (Ext.refl d) (by simp[Rep])⟩
  ·cases e))
def r4(ax:eo X a f)(ae:eo X b g):cf X (.BinOp a .Mult b pos) (ag d8 f g):=
 d7 (t5 ah5 ax ae) (qE (by
  intro O F H x y t gK jt Q d a3 bK e k;unfold d8 at e;split at e
  ·split at e
   next hm=>
    cases e
    rw[a3.int,bK.int];refine⟨_,_,rfl,rfl,?_,k _ F H (Ext.refl d) (by simp[Rep])⟩;simpa [wd,zR] using hm
   next=>cases e
  ·cases e))
def jb(ax:eo X a f)(ae:eo X b g):cf X (.BinOp a .FloorDiv b pos) (ag oDiv f g):=
 d7 (t5 ag5 ax ae) (qE (by
  intro O F H x y t gK jt Q d a3 bK e k;unfold oDiv at e;split at e
  ·split at e
   next hm=>
    cases e
    rw[a3.int,bK.int];exact⟨_,_,rfl,rfl,hm,k _ F H (Ext.refl d) (by simp[Rep])⟩
   next=>cases e
  ·cases e))
def g_(ax:eo X a f)(ae:eo X b g):cf X (.BinOp a .Mod b pos) (ag oMod f g):=
 d7 (t5 ah6 ax ae) (qE (by
  intro O F H x y t gK jt Q d a3 bK e k;unfold oMod at e;split at e
  ·split at e
   next hm=>
    cases e
    rw[a3.int,bK.int];exact⟨_,_,rfl,rfl,hm,k _ F H (Ext.refl d) (by simp[Rep])⟩
   next=>cases e
  ·cases e))
def bS(ax:eo X a f)(ae:eo X b g)(av:Rw b:=by intro _ _;rfl):cf X (.Subscript a b pos) (ag aN f g):=
 d7 (ai3 ail ax ae av) (qE (by
  intro O F H x y t gK jt Q d a3 bK e k;unfold aN at e;split at e
  ·obtain⟨pV,vs,rfl,av,ar⟩:=a3.tup;rw[bK.int];simp only[fW,b5] at e;obtain⟨j,bw,bp⟩:=e;obtain⟨v,a5,b9⟩:=ar.get bp;refine .inr (.inl ⟨_,_,_,v,rfl,rfl,av,?_,k _ F H (Ext.refl d) b9⟩);rw[ar.length] at bw;show (oP _ _).bind _=_;rw[show oP vs.length _=some j from bw];exact a5
  ·obtain⟨pV,vs,rfl,av,ar⟩:=a3.lst;rw[bK.int];simp only[fW,b5] at e;obtain⟨j,bw,bp⟩:=e;obtain⟨v,a5,b9⟩:=ar.get bp;refine .inl ⟨_,_,_,v,rfl,rfl,.inl av,?_,k _ F H (Ext.refl d) b9⟩;rw[ar.length] at bw;show (oP _ _).bind _=_;rw[show oP vs.length _=some j from bw];exact a5
  ·split at e
   next aq=>
    rw[a3.str,bK.int];simp only[dN] at e;obtain⟨c,aD,rfl⟩:=e;exact .inr (.inr ⟨_,_,c,rfl,rfl,by rw[kQ];exact aq,aD,k _ F H (Ext.refl d) (by simp[Rep])⟩)
   next=>cases e
  ·cases e))
end
end
section
variable [c2]
noncomputable def aka(K:bl)(aB:aj->Prop)(aK:gq)(O F:aj->Prop)(H:aA)(D:Ends):Out->Prop
|.bY ε'=>∀cn aI ai,eG K F H aI ai->cB K aB aK O aI ai ε' cn->D.bY cn ai
|.fa t=>∀v aI ai,Ext aB aK.h aI ai->Rep K aI ai t v->D.fa v ai
|.gh t ε'=>∀v cn aI ai,cB K aB aK O aI ai ε' cn->Rep K aI ai t v->D.fa v ai
|.lU s=>∀a aI ai,Ext aB aK.h aI ai->eE K aK O aI ai s (.ref a)->D.fa (.ref a) ai
|.iD ε'=>∀cn aI ai,eG K F H aI ai->cB K aB aK O aI ai ε' cn->D.iD cn ai
|.e' ε'=>∀cn aI ai,eG K F H aI ai->cB K aB aK O aI ai ε' cn->D.e' cn ai
noncomputable def Oq(K:bl)(g:bu):hL:=λD σ H=>∃aB aK O F ε o,cB K aB aK O F H ε σ/\g ε=some o/\aka K aB aK O F H D o
abbrev fM(X:bh)(s:Stmt)(g:bu):Prop:=ky X s (Oq X.K g)
abbrev iz(X:bh)(s:List Stmt)(g:bu):Prop:=kY X s (Oq X.K g)
def aka.az{K:bl}{aB O F aX:aj->Prop}{aK:gq}{H H1:aA}{D:Ends}{o:Out}(h:aka K aB aK O F H D o)(x:eG K F H aX H1):aka K aB aK O aX H1 D o:=by
 cases o with
|bY ε=>exact λcn aI ai k r=>h cn aI ai (x.trans k) r
|fa t=>exact h
|iD ε=>exact λcn aI ai k r=>h cn aI ai (x.trans k) r
|e' ε=>exact λcn aI ai k r=>h cn aI ai (x.trans k) r
|gh t ε=>exact h
|lU s=>exact h
section
variable {X:bh}{e a b c:bf}{f:bD}{g g':bu}{gs:e_}{st:Stmt}{rest:List Stmt}{pos:Pos}
def eV:iz X [] skip:=Rx Q8 λD σ H ⟨aB,aK,O,F,ε,o,r,e,k⟩=>by
 cases e
 exact k σ F H eG.refl r
def bI(h:fM X st g):iz X [st] g:=Q7 h
def bx(af:fM X st g)(ak:iz X rest g'):iz X (st::rest) (seq g g'):=Rx (af1 af ak) λD σ H ⟨aB,aK,O,F,ε,o,r,e,k⟩=>by
 simp only[seq,b5] at e;obtain⟨dT,aQ,a9⟩:=e;refine⟨aB,aK,O,F,ε,dT,r,aQ,?_⟩;cases dT with
|bY ε'=>exact λcn aI ai x cw=>⟨aB,aK,O,aI,ε',o,cw,a9,k.az x⟩
|fa t=>
  cases a9
  exact k
|iD ε'=>
  cases a9
  exact k
|e' ε'=>
  cases a9
  exact k
|gh t ε'=>
  cases a9
  exact k
|lU s=>
  cases a9
  exact k
def gn(h:cf X e f):fM X (.Return (some e) pos) (cX f):=g9 (zx h) λD σ H ⟨aB,aK,O,F,ε,o,r,e,k⟩=>by
 simp only[cX,dN] at e;obtain⟨t,bp,rfl⟩:=e;exact⟨aB,aK,O,F,ε,t,r,bp,λv aI ai x q=>k v aI ai (r.ent.trans x) q⟩
def RJ(i:Nat){x:Str}{ZA:Pos}(e5:X.N[i]?=some x:=by rfl)(a5:sm X.env.scope x:=by first|exact Or.inl rfl|exact Or.inr (Or.inl rfl)|exact Or.inr (Or.inr rfl))(hd:(x==("__debug__":Str))=false:=by decide)
  (j':(x==("__classdict__":Str))=false:=by decide):fM X (.Return (some (.Name x ZA)) pos) (cX (nm i)):=g9 (zx (aV i e5 a5 hd j')) λD σ H ⟨aB,aK,O,F,ε,o,r,e,k⟩=>by
 simp only[cX,dN] at e;obtain⟨t,bp,rfl⟩:=e;unfold nm at bp;split at bp
 next t' he=>
  cases bp
  obtain⟨v,af,ak⟩:=r.val _ _ he;exact⟨v,af,k v F H r.ent ak⟩
 next ts he=>
  cases bp
  obtain⟨v,af,a,vs,rfl,n,h0,ax,q⟩:=r.val _ _ he;have bq:=r.ent;have y:Ext aB aK.h (λb=>F b\/b=a) H:=⟨bq.same,λb z=>.inl (bq.sub b z),λb z=>by
   rcases z with z|rfl
   ·exact bq.new b z
   ·exact .inr (r.o0 _ h0),⟨λb z=>by
   rcases z with z|rfl
   ·exact bq.cj b z
   ·exact⟨_,ax⟩,bq.cj.oc⟩⟩
  refine⟨_,af,k _ _ H y ?_⟩
  simp only[Rep];exact⟨a,vs,rfl,.inr rfl,.inl ax,q.keep (λ_ _ z=>z) λb _ z w=>⟨.inl z,w⟩⟩
 next=>cases bp
def df(aD:lG X c gs)(ax:iz X rest g){wM:List Stmt}(ae:iz X wM g'):fM X (.If c rest wM pos) (iff gs g g'):=g9 (Sq aD ax ae) λD σ H ⟨aB,aK,O,F,ε,o,r,e,k⟩=>by
 simp only[iff,b5] at e;obtain⟨b,c',e⟩:=e;refine⟨aB,aK,O,F,ε,b,r,c',λaI ai x=>?_⟩;cases b with
|true=>exact xm ⟨aB,aK,O,aI,ε,o,r.ext x,by simpa using e,k.az x.az⟩
|false=>exact xl ⟨aB,aK,O,aI,ε,o,r.ext x,by simpa using e,k.az x.az⟩
def ez(i:Nat){x:Str}{pos':Pos}(e5:X.N.Nodup)(he:cf X e f)(aS:X.N[i]?=some x:=by rfl)(hx:Loc X.env.scope x:=by first|exact Or.inl rfl|exact Or.inr rfl)
  (av:i6 e (some (.Name x pos')) pos.line X.env=pure false:=by rfl) (hf:X.fn x=true\/X.env.scope.names.lookup x=some .local:=by first|exact .inl rfl|exact .inr rfl):
  fM X (.Assign [.Name x pos'] e pos) (asg i f):=g9 (RQ e5 aS hx he av hf) λD σ H ⟨aB,aK,O,F,ε,o,r,e,k⟩=>by
 simp only[asg,dN] at e;obtain⟨t,bp,rfl⟩:=e;refine⟨aB,aK,O,F,ε,t,r,bp,λv aI ai x q=>?_⟩;exact k _ aI ai x.az ((r.ext x).set i q)
noncomputable def tG(K:bl)(g:hv):mT:=λv σ H Q=>∃aB aK O F ε t ε',cB K aB aK O F H ε σ/\Rep K F H t v/\g t ε=some ε'/\∀cn,cB K aB aK O F H ε' cn->Q cn H
noncomputable def acv(K:bl)(eN:List hv):pS:=λvs σ H Q=>∃aB aK O F ε ts ε',cB K aB aK O F H ε σ/\bk K F H ts vs/\f3 eN ts ε=some ε'/\∀cn,cB K aB aK O F H ε' cn->Q cn H
abbrev kX(X:bh)(e:bf)(g:hv):Prop:=pQ X e (tG X.K g)
abbrev z0(X:bh)(es:List bf)(eN:List hv):Prop:=sh X es (acv X.K eN)
def Sk{X:bh}{e:bf}{t t':mT}(h:pQ X e t)(k:∀v σ H Q,t' v σ H Q->t v σ H Q):pQ X e t':=λah s σ H v u Q I r q=>h ah s σ H v u Q I r (k v σ H Q q)
def Ry{X:bh}{e:List bf}{t t':pS}(h:sh X e t)(k:∀v σ H Q,t' v σ H Q->t v σ H Q):sh X e t':=λah s σ H v u Q I r q=>h ah s σ H v u Q I r (k v σ H Q q)
def fy(i:Nat){x:Str}(e5:X.N.Nodup)(aS:X.N[i]?=some x:=by rfl)(hx:Loc X.env.scope x:=by first|exact Or.inl rfl|exact Or.inr rfl)
  (hf:X.fn x=true\/X.env.scope.names.lookup x=some .local:=by first|exact .inl rfl|exact .inr rfl):kX X (.Name x pos) (bH i):=Sk (ag1 e5 aS hx hf) λv σ H Q ⟨aB,aK,O,F,ε,t,ε',r,q,e,k⟩=>by
 cases e
 exact k _ (r.set i q)
def qP:z0 X [] []:=Ry ag0 λvs σ H Q ⟨aB,aK,O,F,ε,ts,ε',r,q,e,k⟩=>by
 cases ts with
|nil=>
  cases e
  simp only[bk] at q;exact⟨q,k σ r⟩
|cons t ts=>cases e
def jA{es:List bf}{g:hv}{eN:List hv}(af:kX X e g)(ak:z0 X es eN)(av:(nt (e::es) X.env).map (·.2)=assign e X.env::(nt es X.env).map (·.2):=by rfl):z0 X (e::es) (g::eN):=
 Ry (af3 af ak av) λvs σ H Q ⟨aB,aK,O,F,ε,ts,ε',r,q,e,k⟩=>by
 cases ts with
|nil=>cases e
|cons t ts=>
  simp only[f3,b5] at e;obtain⟨iv,aQ,a9⟩:=e;simp only[bk] at q;obtain⟨v,Jk,rfl,aO,bb⟩:=q;exact⟨v,Jk,rfl,aB,aK,O,F,ε,t,iv,r,aO,aQ,λSG bg=>⟨aB,aK,O,F,iv,ts,ε',bg,bb,a9,k⟩⟩
theorem QJ:∀{eN:List hv} {ts:List T} {ε ε':Ev},f3 eN ts ε=some ε'->ts.length=eN.length
| [],[],_,_,_=>rfl
| [],_::_,_,_,h=>by cases h
|_::_,[],_,_,h=>by cases h
|g::eN,t::ts,ε,ε',h=>by
  simp only[f3,b5] at h;obtain⟨iv,_,h⟩:=h;simp[QJ h]
def qO{es:List bf}{k:Nat}{eN:List hv}(h:z0 X es eN)(aD:X.calm=true:=by rfl)(a8:(nt es X.env).length=eN.length:=by rfl)(mq:(nt es X.env).findIdx? (·.1)=none:=by rfl):
  kX X (.Tuple es k pos) (di eN):=Sk (ahS aD h a8 mq) λv σ H Q ⟨aB,aK,O,F,ε,t,ε',r,q,e,k⟩=>by
 unfold di at e;split at e
 next ts=>
  simp only[Rep] at q;obtain⟨a,vs,rfl,av,ar⟩:=q;exact⟨a,vs,rfl,av,by rw[<- ar.length];exact QJ e,aB,aK,O,F,ε,ts,ε',r,ar,e,k⟩
 next=>cases e
def ahE{cx:bf}{g:hv}(he:cf X e f)(br:kX X cx g)(av:swapsWithSole [cx] e pos.line X.env=pure false:=by rfl)(hw:swappedStores [cx] e X.env=pure none:=by rfl)
  (af:(nt [cx] X.env).map (·.2)=[assign cx X.env]:=by rfl):fM X (.Assign [cx] e pos) (hh g f):=g9 (RS he br av hw af) λD σ H ⟨aB,aK,O,F,ε,o,r,e,k⟩=>by
 simp only[hh,b5,dN] at e;obtain⟨t,bp,ε',kC,rfl⟩:=e;refine⟨aB,aK,O,F,ε,t,r,bp,λv aI ai x q=>?_⟩;exact⟨aB,aK,O,aI,ε,t,ε',r.ext x,q,kC,λcn cw=>k cn aI ai x.az cw⟩
structure sb(K:bl)(J:kW)(aX:aj->Prop)(H1:aA)(ts:List T):Prop where
 go:∀i F H t,eG K aX H1 F H->gM F H->ts[i]?=some t->J.go i H
 kq:∀i F H t x ai,eG K aX H1 F H->gM F H->ts[i]?=some t->J.kq i H x ai->∃aI,Ext F H aI ai/\Rep K aI ai t x
 stop:∀i F H,eG K aX H1 F H->ts.length<=i->J.stop i H
noncomputable def tI(K:bl)(f:jd):TI:=λσ H R=>∃aB aK O F ε ts,cB K aB aK O F H ε σ/\f ε=some ts/\∀J aI ai,Ext F H aI ai->sb K J aI ai ts->R J ai
abbrev qY(X:bh)(cx e:bf)(f:jd):Prop:=pR X cx e (tI X.K f)
def zE{X:bh}{cx e:bf}{t t':TI}(h:pR X cx e t)(k:∀σ H R,t' σ H R->t σ H R):pR X cx e t':=λah s σ H R I q=>h ah s σ H R I (k σ H R q)
def afq{K:bl}{a:aj}{aX:aj->Prop}{H1:aA}{ts:List T}{vs:List V}(cA:aX a)(ar:eK H1 a (.lst vs))(q:bk K aX H1 ts vs):sb K (zV K a) aX H1 ts where
 go:=λi F H t az d e=>by
  obtain⟨v,af,_⟩:=q.get e;exact⟨vs,v,.inl (az.lst _ _ cA ar).2,af⟩
 kq:=λi F H t x ai az d e y=>by
  obtain⟨rfl,y⟩:=y;obtain⟨v,af,ak⟩:=(q.az az).get e;have:=y vs (.inl (az.lst _ _ cA ar).2);rw[af] at this;cases this;exact⟨F,Ext.refl d,ak⟩
 stop:=λi F H az aw=>⟨vs,.inl (az.lst _ _ cA ar).2,by rw[<- q.length];exact aw⟩
def agj{K:bl}{a:aj}{aX:aj->Prop}{H1:aA}{ts:List T}{vs:List V}(ar:de K H1 a vs)(q:bk K aX H1 ts vs):sb K (zX K a) aX H1 ts where
 go:=λi F H t az d e=>by
  obtain⟨v,af,_⟩:=q.get e;exact⟨vs,v,az.tup _ _ ar,af⟩
 kq:=λi F H t x ai az d e y=>by
  obtain⟨rfl,y⟩:=y;obtain⟨v,af,ak⟩:=(q.az az).get e;have:=y vs (az.tup _ _ ar);rw[af] at this;cases this;exact⟨F,Ext.refl d,ak⟩
 stop:=λi F H az aw=>⟨vs,az.tup _ _ ar,by rw[<- q.length];exact aw⟩
def KV(lo aS:Int):(jo lo aS).length=(aS - lo).toNat:=by simp[jo]
def agk{K:bl}{aX:aj->Prop}{H1:aA}(lo aS:Int):sb K (zW lo (aS - lo).toNat) aX H1 (jo lo aS) where
 go:=λi F H t az d e=>by
  have h:=(fC.mp e).1;rw[KV] at h;exact h
 kq:=λi F H t x ai az d e y=>by
  obtain⟨rfl,rfl⟩:=y;refine⟨F,Ext.refl d,?_⟩;have h:=(fC.mp e).1;rw[KV] at h;unfold jo at e;rw[hq,List.getElem?_range h] at e;simp at e;subst e;simp[Rep]
 stop:=λi F H az aw=>by
  rw[KV] at aw;exact aw
noncomputable def Yu(K:bl)(kj:TE):TI:=λσ H R=>kj σ H λx H1=>∃a,x=.ref a/\(((∃xs,f_ K H1 a xs)/\R (zV K a) H1)\/((∃xs,de K H1 a xs)/\R (zX K a) H1))
def Sr{cx l:bf}{kj:TE}(aw:bO X l kj):pR X cx l (Yu X.K kj):=by
 intro ah s σ H R I h;refine ct (aw ah s σ H _ I h) λv s1 ⟨x,H1,bE,bg,a,aQ,q⟩=>?_;subst aQ;cases bg;have bX:∀b∈[s1.heap.objs.size],mS X ah H1 b:=λb ae=>by
  have e:b=s1.heap.objs.size:=by simpa using ae
  subst e;exact bE.AI (el _) (bE.b'.fresh (el _))
 rcases q with ⟨⟨xs,bt⟩,q⟩|⟨⟨xs,bt⟩,q⟩
 ·obtain⟨its,b9,p,aq⟩:=bE.list bt;refine wpAny_pyIter_list p.isList ?_;exact⟨s1.heap.objs.size,[s1.heap.objs.size],_,_,H1,rfl,bE.kept (t':=s1.toks) λb o e=>dq _ e,aeW a _,⟨_,hX _ rfl,rfl,rfl⟩,bX,q⟩
 ·obtain⟨its,b9,p,aq⟩:=bE.tuple bt;refine ya (show s1.heap.IsTuple a its.toArray from p) ?_;exact⟨s1.heap.objs.size,[s1.heap.objs.size],_,_,H1,rfl,bE.kept (t':=s1.toks) λb o e=>dq _ e,aem a _,⟨_,hX _ rfl,rfl,rfl⟩,bX,q⟩
def mb{cx l:bf}{f:bD}(aw:cf X l f):qY X cx l (dv f):=zE (Sr aw) λσ H R ⟨aB,aK,O,F,ε,ts,r,e,k⟩=>by
 simp only[dv,b5] at e;obtain⟨t,bp,e⟩:=e;split at e
 ·cases e
  refine⟨aB,aK,O,F,ε,_,r,bp,λv aI ai x q=>?_⟩
  simp only[Rep] at q;obtain⟨a,vs,rfl,av,ar⟩:=q;exact⟨a,rfl,.inr ⟨⟨vs,av⟩,k _ aI ai x (agj av ar)⟩⟩
 ·cases e
  refine⟨aB,aK,O,F,ε,_,r,bp,λv aI ai x q=>?_⟩
  simp only[Rep] at q;obtain⟨a,vs,rfl,cA,av,ar⟩:=q;exact⟨a,rfl,.inl ⟨⟨vs,.inl av⟩,k _ aI ai x (afq cA av ar)⟩⟩
 ·cases e
def Li{cx a:bf}{f:bD}{p pos:Pos}(hm:X.mg "range"=none)(ax:eo X a f)(br:fi X "range":=by rfl)(av:bB [a] X.env=[(false,eval a X.env)]:=by rfl)(ie:bB [a] X.env=(false,eval a X.env)::bB [] X.env:=by rfl):
  qY X cx (.Call (.Name "range" p) [a] [] pos) (l9 f):=zE (afc br hm (i7 ax lA ie) av) λσ H R ⟨aB,aK,O,F,ε,ts,r,e,k⟩=>by
 simp only[l9,b5] at e;obtain⟨t,bp,e⟩:=e;split at e
 next j=>
  split at e
  next aq=>
   cases e
   refine⟨aB,aK,O,F,ε,_,r,bp,λv aI ai x q=>⟨j,by rw[q.int],?_,?_,k _ aI ai x (by simpa using agk 0 j)⟩⟩
   ·simp[qC] at aq;omega
   ·simp[qC] at aq;omega
  next=>cases e
 next=>cases e
def qL{cx iter:bf}{body:List Stmt}{it:jd}{fO:hv}{pW:bu}(aC:PassesOwn (bR X.prog X.w) X.A X.env X.d1)(aS:qY X cx iter it)(br:kX X cx fO)(ae:iz X body pW)(aD:X.calm=true:=by rfl)
  (av:∀x,pf iter X.env x=pure x:=by intro _;rfl):fM X (.For cx iter body [] pos) (g4 it fO pW):=g9 (RR aC aD aS br ae av) λD σ H ⟨aB,aK,O,F,ε,o,r,e,k⟩=>by
 simp only[g4,b5] at e;obtain⟨ts,bp,e⟩:=e;refine⟨aB,aK,O,F,ε,ts,r,bp,λJ aX H1 aJ ok=>?_⟩;refine⟨λi m cn ai=>m=ts.length - i/\i<=ts.length/\∃aI ε' ,eG X.K aX H1 aI ai/\cB X.K aB aK O aI ai ε' cn/\forL fO pW (ts.drop i) ε'=some o,⟨_,rfl,kP _,aX,ε,eG.refl,r.ext aJ,by simpa using e⟩,?_⟩;rintro i m cn ai ⟨rfl,w6,aI,ε',az,cw,bT⟩;by_cases eZ:i<ts.length
 ·have hd:ts.drop i=ts[i]::ts.drop (i+1):=List.drop_eq_getElem_cons eZ;have nV:ts[i]?=some ts[i]:=gT eZ;rw[hd] at bT;simp only[forL,b5] at bT;obtain⟨iv,kC,dT,c',bT⟩:=bT;refine .inr ⟨ok.go i aI ai _ az cw.cj nV,λzQ ba=>∃mw,mw<ts.length - i/\(mw=ts.length - (i+1)/\i+1<=ts.length/\∃c0 iw,eG X.K aX H1 c0 ba/\cB X.K aB aK O c0 ba iw zQ/\forL fO pW (ts.drop (i+1)) iw=some o),λ_ _ z=>z,λx ba y=>?_⟩;obtain⟨c0,bq,a3⟩:=ok.kq i aI ai _ x ba az cw.cj nV y;refine⟨aB,aK,O,c0,ε',_,iv,cw.ext bq,a3,kC,λkx hE=>⟨aB,aK,O,c0,iv,dT,hE,c',?_⟩⟩;have xr:eG X.K aX H1 c0 ba:=az.trans bq.az;cases dT with
  |bY iw=>exact λLx kU jF mv lT=>⟨_,by omega,rfl,eZ,kU,iw,xr.trans mv,lT,bT⟩
  |e' iw=>exact λLx kU jF mv lT=>⟨_,by omega,rfl,eZ,kU,iw,xr.trans mv,lT,bT⟩
  |iD iw=>
   cases bT
   exact λLx kU jF mv lT=>k Lx kU jF ((aJ.az.trans xr).trans mv) lT
  |fa t=>
   cases bT
   exact k
  |gh t iw=>
   cases bT
   exact k
  |lU s=>
   cases bT
   exact k
 ·have hd:ts.drop i=[]:=List.drop_eq_nil_of_le (by omega);rw[hd] at bT;cases bT;exact .inl ⟨ok.stop i aI ai az (by omega),k cn aI ai (aJ.az.trans az) cw⟩
end
end
section
variable [c2]
section
variable {X:bh}{a b c e:bf}{es:List bf}{f g h:bD}{ay:List bD}{gs gt:e_}{pos p:Pos}
def hI:pP X [] []:=zF lA λσ H Q ⟨aB,aK,O,F,ε,ts,r,e,k⟩=>by
 cases e
 exact k [] F H (Ext.refl r.cj) .nil
def gU(ax:eo X e f)(ar:pP X es ay)(av:bB (e::es) X.env=(false,eval e X.env)::bB es X.env:=by rfl):pP X (e::es) (f::ay):=zF (i7 ax ar av) λσ H Q ⟨aB,aK,O,F,ε,ts,r,e,k⟩=>by
 simp only[args,b5,dN] at e;obtain⟨t,bp,us,e4,rfl⟩:=e;refine⟨aB,aK,O,F,ε,t,r,bp,λv aX H1 aJ aO=>⟨aB,aK,O,aX,ε,us,r.ext aJ,e4,λvs c0 ba bq bb=>?_⟩⟩;exact k _ c0 ba (aJ.trans bq) (.cons (aO.ext bq) bb)
def bC:lE X [] []:=zF lA λσ H Q ⟨aB,aK,O,F,ε,ts,r,e,k⟩=>by
 cases e
 exact k [] F H (Ext.refl r.cj) bk.nil
def aF(ax:cf X e f)(ar:lE X es ay)(av:bB (e::es) X.env=(false,eval e X.env)::bB es X.env:=by rfl):lE X (e::es) (f::ay):=zF (i7 ax ar av) λσ H Q ⟨aB,aK,O,F,ε,ts,r,e,k⟩=>by
 simp only[args,b5,dN] at e;obtain⟨t,bp,us,e4,rfl⟩:=e;refine⟨aB,aK,O,F,ε,t,r,bp,λv aX H1 aJ aO=>⟨aB,aK,O,aX,ε,us,r.ext aJ,e4,λvs c0 ba bq bb=>?_⟩⟩;exact k _ c0 ba (aJ.trans bq) (bk.cons (aO.ext bq) bb)
def d3{aJ}(h:lE X es ay):cf X (.Tuple es aJ pos) (b1 ay):=d7 (ahV h) λσ H Q ⟨aB,aK,O,F,ε,t,r,e,k⟩=>by
 simp only[b1,b5] at e;obtain⟨ts,bp,e⟩:=e;split at e
 next aq=>
  cases e
  refine⟨aB,aK,O,F,ε,ts,r,bp,λvs aX H1 aJ aO=>⟨by rw[kQ,<- aO.length];exact aq,λp aC=>?_⟩⟩
  have bq:=Ext.laid (o:=.tup vs) aJ.cj aC;refine k _ aX _ (aJ.trans bq) ?_;simp only[Rep];exact⟨p,vs,rfl,de.of dI,aO.ext bq⟩
 next=>cases e
def pF(h:lE X es ay):oC X (.List es pos) (eU ay):=d7 (ahZ h) λσ H Q ⟨aB,aK,O,F,ε,us,r,e,k⟩=>by
 simp only[eU,b5] at e;obtain⟨ts,bp,e⟩:=e;split at e
 next aq=>
  cases e
  refine⟨aB,aK,O,F,ε,_,r,bp,λvs aX H1 aJ aO=>⟨by rw[kQ,<- aO.length];exact aq,λp aC=>?_⟩⟩
  have bq:=Ext.laid (o:=.lst vs) aJ.cj aC;refine k p vs aX _ (aJ.trans bq) ?_ ?_ dI (aO.ext bq)
  ·exact aJ.same.none aC
  ·intro bX;obtain⟨o,et⟩:=aJ.cj p bX;rw[aC] at et;cases et
 next=>cases e
def Dx(h:lE X es ay):cf X (.List es pos) (eU ay):=Ic (pF h) λε t e=>by
 simp only[eU,b5] at e;obtain⟨ts,bp,e⟩:=e;split at e
 ·cases e
  exact⟨_,rfl⟩
 ·cases e
mutual
theorem Kx{F:aj->Prop}{ah:List (aj×Obj)}{σ:bo.St}{H:aA}{s:aP}(I:Inv X ah σ H s):∀{t:T} {v:V} {u:ao},Rep X.K F H t v->RelV v u->∃as,Reads s.heap u t as
|.none,v,u,h,r=>by
  simp only[Rep] at h;subst h;cases r;exact⟨_,.none⟩
|.bool b,v,u,h,r=>by
  simp only[Rep] at h;subst h;cases r;exact⟨_,.bool b⟩
|.int i,v,u,h,r=>by
  simp only[Rep] at h;subst h;obtain⟨t,rfl⟩:=r;exact⟨_,.int i t⟩
|.str x,v,u,h,r=>by
  simp only[Rep] at h;subst h;obtain⟨t,rfl⟩:=r;exact⟨_,.str x t⟩
|.dict _,v,u,h,r=>by simp[Rep] at h
|.tuple ts,v,u,h,r=>by
  simp only[Rep] at h;obtain⟨a,vs,rfl,av,ar⟩:=h;cases r;obtain⟨its,b9,⟨o,af,ak,n,bA⟩,aq⟩:=I.tuple av;obtain⟨as,la⟩:=CW I ar b9;exact⟨_,.tuple af ak bA (by simpa using la)⟩
|.list ts,v,u,h,r=>by
  simp only[Rep] at h;obtain⟨a,vs,rfl,cA,av,ar⟩:=h;cases r;obtain⟨z,its,n,b9,aw,e⟩:=Inv.xw I av;obtain⟨as,la⟩:=CW I ar b9;exact⟨_,.list e rfl rfl (by simpa using la)⟩
theorem CW{F:aj->Prop}{ah:List (aj×Obj)}{σ:bo.St}{H:aA}{s:aP}(I:Inv X ah σ H s):∀{ts:List T} {vs:List V} {us:List ao},bk X.K F H ts vs->Vals vs us->∃as,ReadsAll s.heap us ts as
| [],vs,us,h,r=>by
  simp only[bk] at h;subst h;cases r;exact⟨_,.nil⟩
|t::ts,vs,us,h,r=>by
  simp only[bk] at h;obtain⟨v,Jk,rfl,af,ak⟩:=h;cases r with
  |cons bg b7=>
   obtain⟨as,aO⟩:=Kx I af bg;obtain⟨bs,bb⟩:=CW I ak b7;exact⟨_,.cons aO bb⟩
end
def pv{O F:aj->Prop}{ah:List (aj×Obj)}{σ:bo.St}{H:aA}{s:aP}(I:Inv X ah σ H s){t:T}{v:V}{u:ao}(h:gr X.K O F H t v)(r:RelV v u):∃as,Reads s.heap u t as:=by
 rcases h with h|⟨ts,a,vs,rfl,rfl,ax,h⟩
 ·exact Kx I h r
 ·cases r
  obtain⟨z,its,n,b9,aw,e⟩:=Inv.xw I (.inl ax);obtain⟨as,la⟩:=CW I h b9;exact⟨_,.list e rfl rfl (by simpa using la)⟩
def vY{t:T}(h:hj t=true):t.canLay0=true/\t.depth<=60:=by
 simp only[hj,hZ,decide_eq_true_eq] at h;exact h
def R2{t:List T}(h:n8 t=true):kN t=true/\kM t<=60:=by
 simp only[n8,hZ,decide_eq_true_eq] at h;exact h
noncomputable def DF(K:bl)(n:Bool):hy:=λx y H Q=>∃(O F:aj->Prop) (s t:T),gr K O F H s x/\gr K O F H t y/\hj s=true/\hj t=true/\Q (.dr (if n then !PyData.eqv s t else hG s t)) H
def RX(bj:X.A.units+64<cLine):fk X (jv .Eq) (DF X.K false):=by
 intro ah s σ H x y v u Q I a3 bK ⟨O,F,d,t,af,ak,dT,fA,q⟩;obtain⟨as,la⟩:=pv I af a3;obtain⟨bs,eO⟩:=pv I ak bK;obtain⟨c3,cb⟩:=vY dT;obtain⟨dF,b_⟩:=vY fA;refine SeqAt.compareEq_reads la eO c3 dF (by have:=Nat.min_le_left d.depth t.depth;omega) ?_;exact⟨.dr _,H,I,rfl,q⟩
def RW(bj:X.A.units+64<cLine):fk X (jv .NotEq) (DF X.K true):=by
 intro ah s σ H x y v u Q I a3 bK ⟨O,F,d,t,af,ak,dT,fA,q⟩;obtain⟨as,la⟩:=pv I af a3;obtain⟨bs,eO⟩:=pv I ak bK;obtain⟨c3,cb⟩:=vY dT;obtain⟨dF,b_⟩:=vY fA;refine SeqAt.compareNe_reads la eO c3 dF (by have:=Nat.min_le_left d.depth t.depth;omega) ?_;exact⟨.dr _,H,I,rfl,q⟩
def t4{op:CmpOp}{R:hy}{o:T->T->Option T}(aE:fk X (jv op) R)(ak:oB X.K o R)(ax:eo X a f)(ae:eo X b g)(hm:qu op b=false:=by first|exact R4 _|rfl):cf X (.Compare a [op] [b] pos) (ag o f g):=d7 (ag3 aE ax ae hm) (qE ak)
def fK{op:CmpOp}{R:hy}{o:T->T->Option T}(aE:fk X (jv op) R)(ak:oB X.K o R)(ax:eo X a f)(ae:eo X b g)(hm:qu op b=false:=by first|exact R4 _|rfl):lG X (.Compare a [op] [b] pos) (a0 (ag o f g)):=
 DD (agR aE ax ae hm) λσ H Q ⟨aB,aK,O,F,ε,b,r,e,k⟩=>by
 simp only[a0,b5] at e;obtain⟨t,bp,e⟩:=e;split at e
 ·cases e
  refine qE ak σ H _ ⟨aB,aK,O,F,ε,_,r,bp,λv aI ai x q=>?_⟩
  simp only[Rep] at q;exact⟨_,q,k aI ai x⟩
 ·cases e
def R0:oB X.K oEq (DF X.K false):=by
  intro O F H x y t gK jt Q d a3 bK e k;unfold oEq at e;split at e
  next aq=>
   cases e
   rw[hZ] at aq;exact⟨O,F,x,y,a3,bK,aq.1,aq.2,k _ F H (Ext.refl d) (by simp[Rep])⟩
  next=>cases e
def RY:oB X.K fQ (DF X.K true):=by
  intro O F H x y t gK jt Q d a3 bK e k;unfold fQ at e;split at e
  next aq=>
   cases e
   rw[hZ] at aq;exact⟨O,F,x,y,a3,bK,aq.1,aq.2,k _ F H (Ext.refl d) (by simp[Rep])⟩
  next=>cases e
noncomputable def IZ(K:bl)(n:Bool):hy:=λx y H Q=>∃(O F:aj->Prop) (s:T) (ts:List T),gr K O F H s x/\(gr K O F H (.tuple ts) y\/gr K O F H (.list ts) y)/\hj s=true/\n8 ts=true/\Q (.dr (if n then !mn s ts else mn s ts)) H
def pC(bj:X.A.units+64<cLine):fk X (jv .In) (IZ X.K false):=by
 intro ah s σ H x y v u Q I a3 bK ⟨O,F,d,ts,af,ak,dT,fA,q⟩;obtain⟨as,la⟩:=pv I af a3;obtain⟨c3,cb⟩:=vY dT;obtain⟨dF,b_⟩:=R2 fA;have hm:=Nat.min_le_left (kM ts) d.depth;rcases ak with ak|ak
 ·obtain⟨bs,eO⟩:=pv I ak bK;exact SeqAt.in_tuple_reads eO la dF c3 (by omega) ⟨.dr _,H,I,rfl,q⟩
 ·obtain⟨bs,eO⟩:=pv I ak bK;exact SeqAt.in_list_reads eO la dF c3 (by omega) ⟨.dr _,H,I,rfl,q⟩
def pw(bj:X.A.units+64<cLine):fk X (jv .NotIn) (IZ X.K true):=by
 intro ah s σ H x y v u Q I a3 bK ⟨O,F,d,ts,af,ak,dT,fA,q⟩;obtain⟨as,la⟩:=pv I af a3;obtain⟨c3,cb⟩:=vY dT;obtain⟨dF,b_⟩:=R2 fA;have hm:=Nat.min_le_left (kM ts) d.depth;rcases ak with ak|ak
 ·obtain⟨bs,eO⟩:=pv I ak bK;exact SeqAt.notIn_tuple_reads eO la dF c3 (by omega) ⟨.dr _,H,I,rfl,q⟩
 ·obtain⟨bs,eO⟩:=pv I ak bK;exact SeqAt.notIn_list_reads eO la dF c3 (by omega) ⟨.dr _,H,I,rfl,q⟩
def i'{n:Bool}:oB X.K (dj n) (IZ X.K n):=by
 intro O F H x y t gK jt Q d a3 bK e k;unfold dj at e;split at e
 ·split at e
  next aq=>
   cases e
   rw[hZ] at aq;exact⟨O,F,x,_,a3,.inl bK,aq.1,aq.2,k _ F H (Ext.refl d) (by simp[Rep])⟩
  next=>cases e
 ·split at e
  next aq=>
   cases e
   rw[hZ] at aq;exact⟨O,F,x,_,a3,.inr bK,aq.1,aq.2,k _ F H (Ext.refl d) (by simp[Rep])⟩
  next=>cases e
 ·cases e
def vX:oB X.K oLt (λx y H Q=>nf (λi j=>.dr (decide (i<j))) x y H Q\/∃i j,x=.str i/\y=.str j/\Q (.dr (decide (i.cps.toList<j.cps.toList))) H):=by
  intro O F H x y t gK jt Q d a3 bK e k;unfold oLt at e;split at e
  ·cases e
   rw[a3.int,bK.int];exact .inl ⟨_,_,rfl,rfl,k _ F H (Ext.refl d) (by simp[Rep])⟩
  ·cases e
   rw[a3.str,bK.str];exact .inr ⟨_,_,rfl,rfl,k _ F H (Ext.refl d) (by simp[Rep,strLt])⟩
  ·cases e
def Kb:fk X (jv .LtE) (λx y H Q=>∃i j,x=.str i/\y=.str j/\Q (.dr (!strLt j i)) H):=by
 intro ah s σ H x y v u Q I a3 bK ⟨i,j,aQ,a9,q⟩;subst aQ a9;obtain⟨t,rfl⟩:=a3;obtain⟨t',rfl⟩:=bK;exact PySem.P.le_str (DC I q (by simp[strLt]))
def PV:fk X (jv .GtE) (λx y H Q=>∃i j,x=.str i/\y=.str j/\Q (.dr (!strLt i j)) H):=by
 intro ah s σ H x y v u Q I a3 bK ⟨i,j,aQ,a9,q⟩;subst aQ a9;obtain⟨t,rfl⟩:=a3;obtain⟨t',rfl⟩:=bK;exact PySem.P.ge_str (DC I q (by simp[strLt]))
def y6:fk X (jv .Gt) (λx y H Q=>∃i j,x=.str i/\y=.str j/\Q (.dr (strLt j i)) H):=by
 intro ah s σ H x y v u Q I a3 bK ⟨i,j,aQ,a9,q⟩;subst aQ a9;obtain⟨t,rfl⟩:=a3;obtain⟨t',rfl⟩:=bK;exact PySem.P.gt_str (DC I q (by simp[strLt]))
def Lg:oB X.K oLe (λx y H Q=>nf (λi j=>.dr (decide (i<=j))) x y H Q\/∃i j,x=.str i/\y=.str j/\Q (.dr (!strLt j i)) H):=by
 intro O F H x y t gK jt Q d a3 bK e k;unfold oLe at e;split at e
 ·cases e
  rw[a3.int,bK.int];exact .inl ⟨_,_,rfl,rfl,k _ F H (Ext.refl d) (by simp[Rep])⟩
 ·cases e
  rw[a3.str,bK.str];exact .inr ⟨_,_,rfl,rfl,k _ F H (Ext.refl d) (by simp[Rep])⟩
 ·cases e
def zz:oB X.K hD (λx y H Q=>nf (λi j=>.dr (decide (j<i))) x y H Q\/∃i j,x=.str i/\y=.str j/\Q (.dr (strLt j i)) H):=by
 intro O F H x y t gK jt Q d a3 bK e k;unfold hD at e;split at e
 ·cases e
  rw[a3.int,bK.int];exact .inl ⟨_,_,rfl,rfl,k _ F H (Ext.refl d) (by simp[Rep])⟩
 ·cases e
  rw[a3.str,bK.str];exact .inr ⟨_,_,rfl,rfl,k _ F H (Ext.refl d) (by simp[Rep])⟩
 ·cases e
def RZ:oB X.K rl (λx y H Q=>nf (λi j=>.dr (decide (j<=i))) x y H Q\/∃i j,x=.str i/\y=.str j/\Q (.dr (!strLt i j)) H):=by
 intro O F H x y t gK jt Q d a3 bK e k;unfold rl at e;split at e
 ·cases e
  rw[a3.int,bK.int];exact .inl ⟨_,_,rfl,rfl,k _ F H (Ext.refl d) (by simp[Rep])⟩
 ·cases e
  rw[a3.str,bK.str];exact .inr ⟨_,_,rfl,rfl,k _ F H (Ext.refl d) (by simp[Rep])⟩
 ·cases e
def aiY(ax:eo X a f):cf X (.UnaryOp .USub a pos) (fo qb f):=d7 (ai1 ahv ax) λσ H Q ⟨aB,aK,O,F,ε,t,r,e,k⟩=>by
 simp only[fo,b5] at e;obtain⟨x,ex,e⟩:=e;unfold qb at e;split at e
 ·cases e
  exact⟨aB,aK,O,F,ε,_,r,ex,λv aX H1 aJ a3=>⟨_,a3.int,k _ aX H1 aJ (by simp[Rep])⟩⟩
 ·cases e
noncomputable def Uc(K:bl)(o:List T->Option T)(R:List V->aA->dx->Prop):Prop:=
 ∀(O F:aj->Prop) (H:aA) (ts:List T) (t:T) (vs:List V) (Q:dx),gM F H->Paired (gr K O F H) ts vs->o ts=some t ->
  (∀v aI ai,Ext F H aI ai->Rep K aI ai t v->Q v ai)->R vs H Q
def zp{o:List T->Option T}{R:List V->aA->dx->Prop}(sH:Uc X.K o R):∀σ H Q,uP X.K (bV o ay) σ H Q->I_ R (Oj X.K ay) σ H Q:=by
 rintro σ H Q ⟨aB,aK,O,F,ε,t,r,e,k⟩;simp only[bV,b5] at e;obtain⟨ts,bp,et⟩:=e;exact⟨aB,aK,O,F,ε,ts,r,bp,λvs aX H1 aJ q=>sH O aX H1 ts t vs Q aJ.cj q et λv aI ai d0 cQ=>k v aI ai (aJ.trans d0) cQ⟩
def wa(hm:X.mg "len"=none)(ax:pP X (e::es) ay)(br:fi X "len":=by rfl)(he:bB (e::es) X.env=(false,eval e X.env)::bB es X.env:=by rfl)(hpl:(dR pos (bB es X.env)).any (·.1)=false:=by rfl):
  cf X (.Call (.Name "len" p) (e::es) [] pos) (bV hS ay):=d7 (zc (ad0.or adZ) br hm PySem.boot_len ax (he:=he) (hpl:=hpl)) (zp (by
 intro O F H ts t vs Q d q e k;unfold hS at e;split at e
 ·cases e
  cases q with
  |cons aO bb=>
   cases bb
   obtain⟨a,ws,rfl,av,ar⟩:=aO.tup;exact .inl ⟨a,ws,rfl,.inr av,k _ F H (Ext.refl d) (by simp[Rep,ar.length])⟩
 ·cases e
  cases q with
  |cons aO bb=>
   cases bb
   obtain⟨a,ws,rfl,av,ar⟩:=aO.lst;exact .inl ⟨a,ws,rfl,.inl (.inl av),k _ F H (Ext.refl d) (by simp[Rep,ar.length])⟩
 ·split at e
  next aq=>
   cases e
   cases q with
   |cons aO bb=>
    cases bb
    exact .inr ⟨_,by rw[aO.str],by rw[kQ];exact aq,k _ F H (Ext.refl d) (by simp[Rep])⟩
  next=>cases e
 ·cases e))
def Ls(hm:X.mg "max"=none)(ax:pP X (e::es) ay)(aD:X.calm=true:=by rfl)(br:fi X "max":=by rfl)(he:bB (e::es) X.env=(false,eval e X.env)::bB es X.env:=by rfl)(hpl:(dR pos (bB es X.env)).any (·.1)=false:=by rfl):
  cf X (.Call (.Name "max" p) (e::es) [] pos) (bV lS ay):=d7 (zc (afD aD) br hm (by decide +kernel) ax (he:=he) (hpl:=hpl)) (zp (by
 intro O F H ts t vs Q d q e k;unfold lS at e;split at e
 ·cases e
  cases q with
  |cons aO bb=>
   cases bb with
   |cons bb cQ=>
    cases cQ
    exact⟨_,_,by rw[aO.int,bb.int],k _ F H (Ext.refl d) (by simp[Rep])⟩
 ·cases e))
def nv(hm:X.mg "tuple"=none)(ax:pP X (e::es) ay)(br:fi X "tuple":=by rfl)(he:bB (e::es) X.env=(false,eval e X.env)::bB es X.env:=by rfl)(hpl:(dR pos (bB es X.env)).any (·.1)=false:=by rfl):
  cf X (.Call (.Name "tuple" p) (e::es) [] pos) (bV gy ay):=d7 (Ka adI br hm (by decide +kernel) ax (he:=he) (hpl:=hpl)) (zp (by
 intro O F H ts t vs Q d q e k;unfold gy at e;split at e
 ·cases e
  cases q with
  |cons aO bb=>
   cases bb
   obtain⟨a,ws,rfl,av,ar⟩:=aO.tup;refine⟨a,ws,rfl,.inr ⟨av,k _ F H (Ext.refl d) ?_⟩⟩;simp only[Rep];exact⟨a,ws,rfl,av,ar⟩
 ·cases e
  cases q with
  |cons aO bb=>
   cases bb
   obtain⟨a,ws,rfl,av,ar⟩:=aO.lst;refine⟨a,ws,rfl,.inl ⟨.inl av,λl aw=>?_⟩⟩;have aJ:=Ext.laid (o:=.tup ws) d aw;refine k _ F _ aJ ?_;simp only[Rep];exact⟨l,ws,rfl,de.of dI,ar.ext aJ⟩
 ·cases e))
def Dr(h:eo X e f)(he:∀whole,isTrue e X.env whole=(do let v <- whole;standAt e.pos;holding [v] (truthy v)):=by intro _;rfl):lG X e (a0 f):=DD (ahQ h he) λσ H Q ⟨aB,aK,O,F,ε,b,r,e,k⟩=>by
 simp only[a0,b5] at e;obtain⟨t,bp,e⟩:=e;split at e
 ·cases e
  exact⟨aB,aK,O,F,ε,_,r,bp,λv aX H1 aJ a3=>⟨_,a3.dr,k aX H1 aJ⟩⟩
 ·cases e
def Sn{j pos'}(ax:eo X a f):lG X (.Compare a [.Is] [.Constant .none j pos'] pos) (a0 (fo hR f)):=DD (ahR (ah3 ax)) λσ H Q ⟨aB,aK,O,F,ε,t,r,e,k⟩=>by
 simp only[a0,fo,hR,b5] at e;obtain⟨_,⟨x,ex,aQ⟩,e⟩:=e;cases aQ;cases e;refine⟨aB,aK,O,F,ε,x,r,ex,λv aX H1 aJ a3=>⟨_,?_,k aX H1 aJ⟩⟩;cases x with
|none=>rw[a3.gH];simp
|bool b=>rw[a3.dr];simp
|int b=>rw[a3.int];simp
|str b=>rw[a3.str];simp
|tuple b=>obtain⟨_,_,e,_⟩:=a3.tup;rw[e];simp
|list b=>obtain⟨_,_,e,_⟩:=a3.lst;rw[e];simp
|dict b=>rcases a3 with a3|⟨_,_,_,z,_⟩;simp[Rep] at a3;cases z
def ahy(h:eo X e f)(he:∀whole,isTrue e X.env whole=(do let v <- whole;standAt e.pos;holding [v] (truthy v)):=by intro _;rfl):lG X e (ip f):=DD (af0 h he) λσ H Q ⟨aB,aK,O,F,ε,b,r,e,k⟩=>by
 simp only[ip,b5] at e;obtain⟨t,bp,e⟩:=e;have emp:∀{ts:List T} {vs:List V} {aX:aj->Prop} {H1:aA},bk X.K aX H1 ts vs->ts.isEmpty=vs.isEmpty:=λ{ts vs aX H1} q=>by
  have:=q.length;cases ts <;> cases vs <;> simp_all
 split at e
 ·cases e
  refine⟨aB,aK,O,F,ε,_,r,bp,λv aX H1 aJ a3=>?_⟩
  obtain⟨a,vs,rfl,av,ar⟩:=a3.lst;exact⟨_,.inl ⟨vs,.inl av,by rw[emp ar]⟩,k aX H1 aJ⟩
 ·cases e
  refine⟨aB,aK,O,F,ε,_,r,bp,λv aX H1 aJ a3=>?_⟩
  obtain⟨a,vs,rfl,av,ar⟩:=a3.tup;exact⟨_,.inr (.inl ⟨vs,av,by rw[emp ar]⟩),k aX H1 aJ⟩
 ·cases e
def qF(h:lG X e gs):sj X (.BoolOp .And [e] pos) gs:=agQ h
def r1(h:lG X e gs):sj X (.BoolOp .Or [e] pos) gs:=ahM h
def w_and(h:lG X a gs)(ak:sj X (.BoolOp .And (b::es) pos) gt):sj X (.BoolOp .And (a::b::es) pos) (eb gs gt):=Si (ahN h ak) λσ H Q ⟨aB,aK,O,F,ε,b,r,e,k⟩=>by
 simp only[eb,b5] at e;obtain⟨c,g0,e⟩:=e;refine⟨aB,aK,O,F,ε,c,r,g0,λaX H1 aJ=>?_⟩;cases c with
|true=>exact xm ⟨aB,aK,O,aX,ε,b,r.ext aJ,by simpa using e,λc0 ba bq=>k c0 ba (aJ.trans bq)⟩
|false=>
  have:b=false:=by simpa using e.symm
  subst this;exact xl (k aX H1 aJ)
def w_or(h:lG X a gs)(ak:sj X (.BoolOp .Or (b::es) pos) gt):sj X (.BoolOp .Or (a::b::es) pos) (eY gs gt):=Si (ai0 h ak) λσ H Q ⟨aB,aK,O,F,ε,b,r,e,k⟩=>by
 simp only[eY,b5] at e;obtain⟨c,g0,e⟩:=e;refine⟨aB,aK,O,F,ε,c,r,g0,λaX H1 aJ=>?_⟩;cases c with
|true=>
  have:b=true:=by simpa using e.symm
  subst this;exact xm (k aX H1 aJ)
|false=>exact xl ⟨aB,aK,O,aX,ε,b,r.ext aJ,by simpa using e,λc0 ba bq=>k c0 ba (aJ.trans bq)⟩
def kk(h:sj X e gs):lG X e gs:=h.pt
end
end
section
variable [c2]
noncomputable def spT(K:bl)(n:Nat)(d:List T->Option T):kz:=λvs H Q _=>vs.length=n/\∃F ts t,gM F H/\bk K F H ts vs/\d ts=some t/\∀v aI ai,Ext F H aI ai->Rep K aI ai t v->Q v ai
section
variable {X:bh}{k n:Nat}{cA:aj}{fd:gj}{ps:List Str}{d:List T->Option T}{x:Str}{p pos:Pos}{e:bf}{es:List bf}{ay:List bD}
def ahL(F:fw X.prog X.w X.K X.mg X.base ajN k cA fd ps (spT X.K n d))(ar:d4 k X.A)(br:fi X x)(hm:X.mg x=some (.ref cA))(aH:ni X.K (.ref cA)=true)(ae:Binds X.K fd ps [])
  (ax:lE X (e::es) ay) (a8:ay.length=n:=by rfl) (iL:(x==("__debug__":Str))=false:=by decide) (he:bB (e::es) X.env=(false,eval e X.env)::bB es X.env:=by rfl) (hpl:(dR pos (bB es X.env)).any (·.1)=false:=by rfl):
  cf X (.Call (.Name x p) (e::es) [] pos) (bV d ay):=d7 (zo F ar br hm aH ae .nil pG ax iL he hpl) λσ H Q ⟨aB,aK,O,F,ε,t,r,e,k⟩=>by
 simp only[bV,b5] at e;obtain⟨ts,bp,e3⟩:=e;have aw:∀(eN:List bD) (us:List T),args eN ε=some us->us.length=eN.length:=by
  intro eN
  induction eN with
  |nil=>intro us e;cases e;rfl
  |cons g eN b2=>
   intro us e;simp only[args,b5,dN] at e;obtain⟨t,_,vs,ev,rfl⟩:=e;simp[b2 vs ev]
 refine⟨aB,aK,O,F,ε,ts,r,bp,λvs aX H1 aJ q=>⟨?_,aX,ts,t,aJ.cj,by simpa using q,e3,λv aI ai bq bb=>k v aI ai (aJ.trans bq) bb⟩⟩
 rw[mE,<- q.length,aw ay ts bp,a8]
end
section
variable {P:cR}{w:cu}{K:bl}{mg:Str->Option ao}{base:b0}
def Pw{F:aj->Prop}{H:aA}{ts:List T}{vs:List V}{N:List Str}(cj:gM F H)(q:bk K F H ts vs)(n:Nat):
  cB K F ⟨H,0⟩ (λa=>H a=none) F H ((ts.map λt=>some (.ab t))++dW n none) (vs.map some++dW n none):=by
 have ab:∀(i:Nat) (s:aM),((ts.map λt=>some (aM.ab t))++dW n none)[i]?=some (some s)->∃t,s=.ab t/\ts[i]?=some t:=by
  intro i s e;by_cases aS:i<ts.length
  ·rw[uW (by simpa using aS),hq] at e;rw[gT aS] at e ⊢;simp at e;exact⟨_,e.symm,rfl⟩
  ·rw[uV (by simpa using aS),List.getElem?_replicate] at e;split at e <;> cases e
 refine⟨by simp[q.length],λi s e=>?_,λi j s u v w kF aQ a9 dT=>?_,Ext.refl cj,λ_ h=>h,λ_ h=>h⟩
 ·obtain⟨t,rfl,aR⟩:=ab i s e;obtain⟨v,a5,b9⟩:=q.get aR;refine⟨v,?_,b9⟩;rw[uW (by have:=(fC.mp a5).1;simpa using this),hq,a5];rfl
 ·obtain⟨t,rfl,_⟩:=ab i s aQ;cases dT
def Sa{x qual:Str}{st:Stmt}{f:aj}{fd:gj}{N ps:List Str}{k:Nat}{b:bu}(F:c1 K x qual st f fd)(S:dc N ps (cp st))
  (ae:∀(cW:ao) (A:c9) (outer:List Env) (s:aP) (H:aA) (E:gN),d4 k (A.deeper (envOfC qual (cp st) s.heap.objs.size f cW)) ->
   iz (jL ajN P w K mg base N qual (cp st) f cW A outer s H E).kG (jx st) b):
  fw P w K mg base ajN (k+1) f fd ps (spT K ps.length (eI b N.length)):=by
 refine F.ok S (λvs H Q E h=>h.1) λcW A outer s H vs Q E ar h=>⟨_,ae cW A outer s H E ar,?_⟩
 obtain⟨aw,F,ts,t,cj,q,e,m9⟩:=h;simp only[eI,b5] at e;obtain⟨o,et,e⟩:=e;refine⟨F,⟨H,0⟩,λa=>H a=none,F,_,o,?_,et,?_⟩
 ·have:=Pw (N:=N) cj q (N.length - ts.length);unfold bo.start;rw[q.length] at this ⊢;exact this
 ·cases o with
  |fa t'=>
   cases e
   exact λv aI ai x q=>m9 v aI ai x q
  |bY ε'=>
   cases e
   exact λcn aI ai _ r=>m9 _ aI ai r.ent (by simp[Rep])
  |iD _=>cases e
  |e' _=>cases e
  |gh _ _=>cases e
  |lU _=>cases e
end
end
section
variable [c2]
noncomputable def j8(env:Env):List (Str×mI)->List (Str×aj)->List (Str×aj)
| [],cs=>cs
|x::r,cs=>if x.2==.free then j8 env r ((x.1,(env.cells.lookup x.1).getD 0)::cs) else j8 env r cs
def OZ{scope:Scope}{env:Env}(h:∀x∈scope.names,x.2=.free->∃c,env.cells.lookup x.1=some c):closureFor scope env=pure (j8 env scope.names []):=by
 have go:∀(l:List (Str×mI)) (cs:List (Str×aj)),(∀x∈l,x.2=.free->∃c,env.cells.lookup x.1=some c) ->
   (forIn l cs (λx r=>(if (x.2==NameKind.free)=true then do let a <- cellOf env x.1;pure (ForInStep.yield ((x.1,a)::r)) else pure (ForInStep.yield r)):_->_->Sem (ForInStep (List (Str×aj)))):Sem (List (Str×aj)))=pure (j8 env l cs):=by
  intro l
  induction l with
  |nil=>intro cs _;rfl
  |cons x r b2=>
   intro cs aw;rw[List.forIn_cons];have ar:=λy bL=>aw y (dM _ bL);by_cases k:x.2=.free
   ·obtain⟨c,aD⟩:=aw x e8 k;have aQ:(x.2==NameKind.free)=true:=by simp[k]
    simp only[aQ,if_true,cellOf,aD,j8,Option.getD_some];exact b2 _ ar
   ·have aQ:(x.2==NameKind.free)=false:=by simpa using k
    simp only[aQ,jU,if_false,j8];exact b2 _ ar
 have:=go scope.names [] h;simp only[closureFor];exact congrArg (λm=>m >>= λcs=>pure cs) this
theorem C2{env:Env}:∀{l:List (Str×mI)} {cs:List (Str×aj)},(∀x∈l,x.2=.free->∃c,env.cells.lookup x.1=some c)->(∀x c,cs.lookup x=some c->env.cells.lookup x=some c)->∀x c,(j8 env l cs).lookup x=some c->env.cells.lookup x=some c
| [],cs,_,h,x,c,e=>h x c e
|y::r,cs,aw,h,x,c,e=>by
  unfold j8 at e;have ar:=λz aq=>aw z (dM _ aq);split at e
  next k=>
   refine C2 ar (λx c e=>?_) x c e
   rw[nq] at e;split at e
   next ae=>
    obtain⟨dY,aD⟩:=aw y e8 (by simpa using k);have:x=y.1:=by simpa using ae
    subst this;rw[aD] at e ⊢;simpa using e
   next=>exact h x c e
  next=>exact C2 ar h x c e
theorem C_{env:Env}:∀{l:List (Str×mI)} {cs:List (Str×aj)} {x:Str},((∃y∈l,y.2=.free/\y.1=x)\/∃c,cs.lookup x=some c)->∃c,(j8 env l cs).lookup x=some c
| [],cs,x,h=>by
  rcases h with ⟨y,bL,_⟩|h
  ·cases bL
  ·exact h
|y::r,cs,x,h=>by
  unfold j8;split
  next k=>
   refine C_ ?_
   rcases h with ⟨z,aq,kd,e⟩|⟨c,h⟩
   ·rcases cZ.mp aq with rfl|aq
    ·refine .inr ?_
     subst e;rw[nq];simp
    ·exact .inl ⟨z,aq,kd,e⟩
   ·refine .inr ?_
    rw[nq];split
    ·exact⟨_,rfl⟩
    ·exact⟨c,h⟩
  next k=>
   refine C_ ?_
   rcases h with ⟨z,aq,kd,e⟩|h
   ·rcases cZ.mp aq with rfl|aq
    ·exact absurd (by simpa using kd) k
    ·exact .inl ⟨z,aq,kd,e⟩
   ·exact .inr h
noncomputable def gm(X:bh)(wy:List Str)(scope:Scope)(cl:List (Str×aj))(C:aj)(c7:aP)(aK:aA)(bX:List aj)(dp:List (aj×Obj)):bh where
 prog:=X.prog
 w:=X.w
 K:=X.K
 mg:=X.mg
 base:=X.base
 A:=X.A
 N:=wy
 c7:=c7
 aK:=aK
 env:=compEnvC scope cl C X.env
 outer:=X.stack
 stack:=X.stack
 ex:=bX
 fn:=λ_=>false
 calm:=X.calm
 dp:=dp
 d1:=λ_ _=>False
noncomputable def nJ(X:bh)(ifs:List bf)(cc:e_):Prop:=∀(ah:List (aj×Obj)) (s:aP) (σ:bo.St) (H:aA) (Q:Bool->aA->Prop),bo.Inv X ah σ H s->Jc X.K cc σ H Q ->
 bG (bR X.prog X.w) X.A (forIn ifs true λc r=>if r=true then do let ok <- isTrue c X.env (eval c X.env);pure (ForInStep.yield ok) else pure (ForInStep.yield r)) (z1 X ah σ Q) X.d1 s
def rZ{X:bh}:nJ X [] (er true):=λah s σ H Q I ⟨aB,aK,O,F,ε,b,r,e,k⟩=>by
 cases e
 exact wpAny_tests_nil ⟨H,I,k F H (Ext.refl r.cj)⟩
def zu{X:bh}{c:bf}{cc:e_}(h:lG X c cc):nJ X [c] cc:=λah s σ H Q I q=>wpAny_tests_one (h ah s σ H Q I q)
section
variable {prog:cR}{w:cu}{A:c9}{R:Result->aP->Prop}{s:aP}
def O6{elt target iter:bf}{ifs:List bf}{scope:Scope}{pos:Pos}{it acc:ao}{env:Env}(I:Nat->aP->Prop)
  (turn:∀n s,I n s->bG (bR prog w) A (pyNext it) (λr dH=>match r with
   |none=>R (.ok .next) dH
   |some v=>bG (bR prog w) A (letOwnedTupleGo target it v) (λ_ Of=>bG (bR prog w) A (assign target env v) (λ_ ng=>
     bG (bR prog w) A (forIn ifs true λc r=>if r=true then do let ok <- isTrue c env (eval c env);pure (ForInStep.yield ok) else pure (ForInStep.yield r)) (λok uN=>
      if ok=true then bG (bR prog w) A (eval elt env) (λx Og=>
       bG (bR prog w) A (call (.builtin "list.append") [acc,x]) (λ_ Oh=>∃m,m<n/\I m Oh) (λ_ _=>False) Og) (λ_ _=>False) uN
      else ∃m,m<n/\I m uN) (λ_ _=>False) ng) (λ_ _=>False) Of) (λ_ _=>False) dH) (λ_ _=>False) s)
  (n:Nat) (h:I n s):codeAny (bR prog w) A (.compLoop (.ListComp elt [⟨target,iter,ifs,0⟩] scope pos) 0 it acc env) R s:=by
 refine codeAny_loop rfl I (λn s q'=>?_) n h
 show bG _ A ((compTurn (.ListComp elt [⟨target,iter,ifs,0⟩] scope pos) 0 it acc env).onRaise (λx=>do noteFrame x env;theTreesLotGoes x)) _ _ s
 refine wpAny_noted ?_
 rw[compTurn_list];refine a7 (wpAny_standAt (a7 (gv (turn n s q') (λr dH gE=>?_) λ_ _ h'=>h'.elim)));cases r with
|none=>exact cH gE
|some v=>
  refine a7 (gv gE (λ_ Of Yn=>?_) λ_ _ h'=>h'.elim)
  refine a7 (gv Yn (λ_ ng kc=>a7 (gv kc (λok uN iM=>?_) λ_ _ h'=>h'.elim)) λ_ _ h'=>h'.elim)
  cases ok with
  |false=>exact cH ⟨rfl,iM⟩
  |true=>
   exact a7 (a7 (gv iM (λx Og xi=>a7 (gv xi (λ_ Oh jl=>cH (cH ⟨rfl,jl⟩)) λ_ _ h'=>h'.elim)) λ_ _ h'=>h'.elim))
end
end
section
variable [c2]
theorem OT{env:Env}{k:mI}:∀{names:List (Str×mI)} {x:Str},names.lookup x=some k->∃kd,(names.map λ(n,k)=>if (k==NameKind.free && env.scope.kind==.function && env.kindOf n==some .cell) then (n,NameKind.cell) else (n,k)).lookup x=some kd/\(kd=k\/(k=.free/\kd=.cell))
  | [],x,h=>by simp at h
  | (n,j)::r,x,h=>by
    have b2:=@OT env k r x;show ∃kd,iT x ((if (j==NameKind.free && env.scope.kind==.function && env.kindOf n==some .cell)=true then (n,NameKind.cell) else (n,j))::_)=some kd/\_;cases hx:x==n with
    |true=>
      simp only[nq,hx] at h;cases h;by_cases aD:(k==NameKind.free && env.scope.kind==.function && env.kindOf n==some .cell)=true
      · rw[if_pos aD]
        refine⟨.cell,by simp[nq,hx],.inr ⟨?_,rfl⟩⟩
        simp only[hZ] at aD;simpa using aD.1.1
      · rw[if_neg aD]
        exact⟨k,by simp[nq,hx],.inl rfl⟩
    |false=>
      simp only[nq,hx] at h;obtain⟨kd,af,ak⟩:=b2 h;refine⟨kd,?_,ak⟩;by_cases aD:(j==NameKind.free && env.scope.kind==.function && env.kindOf n==some .cell)=true
      · rw[if_pos aD];simp only[nq,hx];exact af
      · rw[if_neg aD];simp only[nq,hx];exact af
def mem_lookup{names:List (Str×mI)}{x:Str}{k:mI}(h:names.lookup x=some k):∃y∈names,y.2=k/\y.1=x:=by
 induction names with
|nil=>simp at h
|cons y r b2=>
  rw[nq] at h;split at h
  next ae=>
   cases h
   exact⟨y,e8,rfl,by simpa using (beq_iff_eq.mp ae).symm⟩
  next=>
   obtain⟨z,aq,af,ak⟩:=b2 h;exact⟨z,dM _ aq,af,ak⟩
def adR{scope:Scope}{env:Env}(uy:∀y∈scope.names,y.2≠.cell){x:Str}(h:(relabel scope env).names.lookup x=some .cell\/(relabel scope env).names.lookup x=some .free):∃y∈scope.names,y.2=.free/\y.1=x:=by
 have go:∀{k:mI},(relabel scope env).names.lookup x=some k->(k=.cell\/k=.free)->∃y∈scope.names,y.2=.free/\y.1=x:=λ{k} e aH=>by
  obtain⟨y,bL,af,ak⟩:=mem_lookup e;obtain⟨⟨n,j⟩,aq,a9⟩:=dm.mp (show y∈scope.names.map _ from bL);by_cases aD:(j==NameKind.free && env.scope.kind==.function && env.kindOf n==some .cell)=true
  ·have gc:(n,NameKind.cell)=y:=by
    have ji:(if (j==NameKind.free && env.scope.kind==.function && env.kindOf n==some .cell)=true then (n,NameKind.cell) else (n,j))=y:=a9
    rwa [if_pos aD] at ji
   subst gc;simp only[hZ] at aD;exact⟨(n,j),aq,by simpa using aD.1.1,ak⟩
  ·have gc:(n,j)=y:=by
    have ji:(if (j==NameKind.free && env.scope.kind==.function && env.kindOf n==some .cell)=true then (n,NameKind.cell) else (n,j))=y:=a9
    rwa [if_neg aD] at ji
   subst gc;rcases aH with rfl|rfl
   ·exact absurd af (uy _ aq)
   ·exact⟨(n,j),aq,af,ak⟩
 rcases h with h|h
 ·exact go h (.inl rfl)
 ·exact go h (.inr rfl)
def cB.other{K:bl}{aB O F:aj->Prop}{E:gq}{H:aA}{ε:Ev}{σ:bo.St}{a:aj}{xs ys:List V}(r:cB K aB E O F H ε σ)(a8:¬F a)(aE:¬O a)(h0:E.h a=none)(ax:H a=some (.lst xs)):
  eG K F H F (upd H a (.lst ys))/\cB K aB E O F (upd H a (.lst ys)) ε σ:=by
 have hm:nH (.lst xs):=.inl ⟨_,rfl⟩;have az:eG K F H F (upd H a (.lst ys)):=Rh a8 ax hm;have keep:∀(u:aM) (w:V),eE K E O F H u w->eE K E O F (upd H a (.lst ys)) u w/\dJ (upd H a (.lst ys)) u w=dJ H u w:=by
  intro u w ee;refine ee.keep az (λb ae=>cI ?_) (λ_ _ f=>f) λ_ _ o=>o;rintro rfl;cases ro:u.iN with
  |true=>exact aE ((ee.held ae).2.1 ro)
  |false=>exact (ee.held ae).2.2 ro h0
 refine⟨az,⟨r.len,λj u e=>?_,λi j s u v w kF aQ a9 dT fA af ak=>?_,QM r.ent h0 a8 ax hm,r.o0,λb e=>r.fr b ?_⟩⟩
 ·obtain⟨v,af,ak⟩:=r.val j u e;exact⟨v,af,(keep u v ak).1⟩
 ·obtain⟨kI,eS,bg⟩:=r.val i s aQ;obtain⟨f7,hC,b7⟩:=r.val j u a9;rw[af] at eS;rw[ak] at hC;cases eS;cases hC;rw[(keep s v bg).2,(keep u w b7).2];exact r.ne i j s u v w kF aQ a9 dT fA af ak
 ·by_cases nb:b=a
  ·subst nb;rw[dI] at e;cases e
  ·rwa [cI nb] at e
noncomputable def DJ(n:Nat)(caps:List Nat)(σ:bo.St):bo.St:=dW n none++caps.map λi=>(σ[i]?).join
def join_some{α:Type}{o:Option (Option α)}{x:α}(h:o.join=some x):o=some (some x):=by
 cases o with
|none=>cases h
|some o=>exact congrArg some h
def vP{α:Type}{n:Nat}{caps:List Nat}{l:List (Option α)}{i:Nat}{x:α}(h:(dW n none++caps.map λi=>(l[i]?).join)[i]?=some (some x)):∃j,n<=i/\caps[i - n]?=some j/\l[j]?=some (some x):=by
 by_cases aS:i<n
 ·rw[uW (by simpa using aS),List.getElem?_replicate] at h;rw[if_pos aS] at h;cases h
 ·rw[uV (by simpa using aS),List.length_replicate,hq] at h;cases e:caps[i - n]? with
  |none=>
   rw[e] at h;cases h
  |some j=>
   rw[e] at h;exact⟨j,by omega,rfl,join_some (en h)⟩
def ahh{α:Type}{n:Nat}{caps:List Nat}{l:List (Option α)}{i j:Nat}{x:α}(aS:n<=i)(aD:caps[i - n]?=some j)(h:l[j]?=some (some x)):(dW n none++caps.map λi=>(l[i]?).join)[i]?=some (some x):=by
 rw[uV (by simpa using aS),List.length_replicate,hq,aD];simp[h]
def cB.z8{K:bl}{aB O F:aj->Prop}{E:gq}{H:aA}{ε:Ev}{σ:bo.St}{D:aj}(r:cB K aB E O F H ε σ)(n:Nat){caps:List Nat}(aW:caps.Nodup)(iZ:H D=none):
  cB K aB E (λa=>O a/\a≠D) F (upd H D (.lst [])) (hH n caps ε) (DJ n caps σ):=by
 have x:=Ext.laid (o:=.lst []) r.cj iZ;have keep:∀(u:aM) (w:V),eE K E O F H u w->eE K E (λa=>O a/\a≠D) F (upd H D (.lst [])) u w/\dJ (upd H D (.lst [])) u w=dJ H u w:=by
  intro u w ee;have nb:∀b∈dJ H u w,b≠D:=λb ae z=>by
   obtain⟨o,e,_⟩:=ee.at ae;rw[z,iZ] at e;cases e
  exact ee.keep x.az (λb ae=>cI (nb b ae)) (λ_ _ f=>f) λb ae o=>⟨o,nb b ae⟩
 refine⟨by simp[hH,DJ],λi s e=>?_,λi j s u v w kF aQ a9 dT fA af ak=>?_,r.ent.trans x,λa h=>r.o0 a h.1,λa h=>?_⟩
 ·obtain⟨j,a8,aD,bT⟩:=vP e;obtain⟨v,af,ak⟩:=r.val j s bT;exact⟨v,ahh a8 aD af,(keep s v ak).1⟩
 ·obtain⟨GC,aS,ci,kB⟩:=vP aQ;obtain⟨ajV,bw,MO,hO⟩:=vP a9;obtain⟨b3,_,MN,eS⟩:=vP (l:=σ) af;obtain⟨Nu,_,MP,hC⟩:=vP (l:=σ) ak;rw[ci] at MN;rw[MO] at MP;cases MN;cases MP;obtain⟨kI,aO,bg⟩:=r.val GC s kB;obtain⟨f7,bb,b7⟩:=r.val ajV u hO;rw[eS] at aO;rw[hC] at bb;cases aO;cases bb;rw[(keep s v bg).2,(keep u w b7).2];refine r.ne GC ajV s u v w (λz=>?_) kB hO dT fA eS hC;subst z;obtain⟨cb,jN⟩:=fC.mp ci;obtain⟨b_,lP⟩:=fC.mp MO;have ne:i - n≠j - n:=by omega
  rcases Nat.lt_or_gt_of_ne ne with q|q
  ·exact (List.pairwise_iff_getElem.mp aW _ _ cb b_ q) (jN.trans lP.symm)
  ·exact (List.pairwise_iff_getElem.mp aW _ _ b_ cb q) (lP.trans jN.symm)
 ·have aW:a≠D:=by
   rintro rfl;rw[dI] at h;cases h
  rw[cI aW] at h;exact⟨r.fr a h,aW⟩
end
section
variable [c2]
structure oz(X:bh)(scope:Scope)(own:List Str)(caps:List (Nat×Str)):Prop where
 kind:scope.kind=.function
 names:∀y∈scope.names,y.2=.local->scope.names.lookup y.1=some .local
 cell:∀y∈scope.names,y.2≠.cell
 free:∀y∈scope.names,y.2=.free->X.env.kindOf y.1=some .cell\/X.env.kindOf y.1=some .free
 z8:∀p∈caps,X.N[p.1]?=some p.2/\scope.names.lookup p.2=some .free
 aW:(caps.map (·.1)).Nodup
 calm:X.calm=true
section
variable {X:bh}{cx iter elt:bf}{ifs:List bf}{scope:Scope}{it:jd}{fO:hv}{cc:e_}{fl:bD}{pos:Pos}{own:List Str}{caps:List (Nat×Str)}
def K5{ah:List (aj×Obj)}{σ:bo.St}{ba:aA}{s2:aP}{bX:List aj}(S:oz X scope own caps)(ck:bo.Inv X ah σ ba s2)(f2:∀b∈bX,mS X ah ba b)(gD:∀b∈bX,b<s2.heap.objs.size)(wy:List Str):
  (gm X wy scope (j8 X.env scope.names []) (s2.heap.push {cls:=.type "list",data:=.seq ([]:List ao).toArray}).objs.size {s2 with heap:=s2.heap.push {cls:=.type "list",data:=.seq ([]:List ao).toArray} } (upd ba s2.heap.objs.size (.lst [])) bX (X.dp++ah)).Ok:=by
 have p3:∀x∈scope.names,x.2=.free->∃c,X.env.cells.lookup x.1=some c:=λx hx aH=>ck.ok.has x.1 (S.free x hx aH);have sv:∀x c,(j8 X.env scope.names []).lookup x=some c->X.env.cells.lookup x=some c:=C2 p3 (λx c e=>by simp at e);have ef:=ck.xu (its:=[]) (ys:=[]) (t':=s2.toks) .nil (kP _);have i4:(s2.heap.push {cls:=.type "list",data:=.seq ([]:List ao).toArray}).objs.size=s2.heap.objs.size+1:=kL ..;refine⟨ck.ok.mod,S.kind,ck.ok.glob,ck.ok.blt,el _,λx y c aQ a9=>ck.ok.inj x y c (sv x c aQ) (sv y c a9),λx hx=>?_,λx c h=>(by cases h),ck.ok.hd,ck.ok.frames,.inl rfl,λb ae=>⟨?_,λx c e=>(f2 b ae).2.2.2.2.1 x c (sv x c e)⟩,λb o e=>?_,?_,λb o e ae=>?_,λb ae hf=>?_,ef.stack,ef.Ob⟩
 ·exact C_ (.inl (adR S.cell hx))
 ·show b≠(s2.heap.push {cls:=.type "list",data:=.seq ([]:List ao).toArray}).objs.size
  have h:=gD b ae;rw[i4];exact fD (Nat.lt_succ_of_lt h)
 ·obtain⟨af,ak⟩:=ef.bs b o e;exact⟨af,ak⟩
 ·have af:=kn ck.ok.q4 ck.i4;show X.base.objs.size<=(s2.heap.push {cls:=.type "list",data:=.seq ([]:List ao).toArray}).objs.size;omega
 ·rcases (f2 b ae).2.2.2.1 with q|q
  ·exact ck.ok.xE b o e q
  ·exact absurd (km (c8 (ck.ok.bs b o e).1) q) (Nat.lt_irrefl _)
 ·rcases cZ.mp (ck.BN b hf) with q|q
  ·exact (f2 b ae).2.1 q
  ·exact (f2 b ae).2.2.1 q
def QQ{ah:List (aj×Obj)}{σ:bo.St}{ba:aA}{s2:aP}{bX:List aj}(S:oz X scope own caps)(ck:bo.Inv X ah σ ba s2)(f2:∀b∈bX,mS X ah ba b)(gD:∀b∈bX,b<s2.heap.objs.size){gE:b0}{m:Str->Option ao}{tk:Nat}
  (AU:gE.Ns (s2.heap.push {cls:=.type "list",data:=.seq ([]:List ao).toArray}).objs.size m) (keep:∀b u,(s2.heap.push {cls:=.type "list",data:=.seq ([]:List ao).toArray}).get? b=some u->gE.get? b=some u):
  bo.Inv (gm X (own++caps.map (·.2)) scope (j8 X.env scope.names []) (s2.heap.push {cls:=.type "list",data:=.seq ([]:List ao).toArray}).objs.size {s2 with heap:=s2.heap.push {cls:=.type "list",data:=.seq ([]:List ao).toArray} } (upd ba s2.heap.objs.size (.lst [])) bX (X.dp++ah)) []
   (DJ own.length (caps.map (·.1)) σ) (upd ba s2.heap.objs.size (.lst [])) {s2 with heap:=gE,toks:=tk}:=by
 have p3:∀x∈scope.names,x.2=.free->∃c,X.env.cells.lookup x.1=some c:=λx hx aH=>ck.ok.has x.1 (S.free x hx aH);have sv:∀x c,(j8 X.env scope.names []).lookup x=some c->X.env.cells.lookup x=some c:=C2 p3 (λx c e=>by simp at e);have ef:=ck.xu (its:=[]) (ys:=[]) (t':=s2.toks) .nil (kP _);refine⟨K5 S ck f2 gD _,rfl,ck.bare,hM.kept keep,⟨m,AU,λi x v af ak a5=>?_⟩,λx c e=>?_,?_,λx c e=>ef.oM x c (sv x c e),λp aC=>?_,ef.b'.kept keep,by simp[DJ,gm]⟩
 ·obtain⟨j,a8,aD,bw⟩:=vP (l:=σ) ak;have hx:(caps.map (·.2))[i - own.length]?=some x:=by
   have:(own++caps.map (·.2))[i]?=some x:=af
   rwa [uV a8] at this
  rw[hq] at aD hx;cases ep:caps[i - own.length]? with
  |none=>rw[ep] at aD;cases aD
  |some p=>
   rw[ep] at aD hx;cases aD;cases hx;obtain⟨e5,hf⟩:=S.z8 p (ko ep);obtain⟨y,bL,e7,ec⟩:=mem_lookup hf;have aH:=S.free y bL e7;rw[ec] at aH;obtain⟨rj,ajA,Gm⟩:=ef.loc;have ac0:sm X.env.scope p.2:=by
    rcases aH with aH|aH
    ·exact .inr (.inl aH)
    ·exact .inr (.inr aH)
   obtain⟨u,ee,Zo⟩:=Gm p.1 p.2 v e5 bw ac0;refine⟨u,ee,.inr ⟨?_,?_⟩⟩
   ·obtain⟨kd,aQ,a9⟩:=OT (env:=X.env) hf;rcases a9 with rfl|⟨_,rfl⟩
    ·exact .inr aQ
    ·exact .inl aQ
   ·rcases Zo with ⟨q,_⟩|⟨_,c,aD,uy⟩
    ·rcases aH with aH|aH
     ·rw[aH] at q;cases q
     ·rw[aH] at q;cases q
    ·obtain⟨dY,dP⟩:=C_ (env:=X.env) (l:=scope.names) (cs:=[]) (x:=p.2) (.inl ⟨y,bL,e7,ec⟩);have:=sv _ _ dP;rw[aD] at this;cases this;obtain⟨kf,aE,hd⟩:=uy;exact⟨c,dP,kf,keep _ _ aE,hd⟩
 ·obtain⟨v,kf,aE,hd⟩:=ef.cell x c (sv x c e);exact⟨v,kf,keep _ _ aE,hd⟩
 ·exact ef.b'.fresh (el _)
 ·have nY:p∈X.dp++ah:=by simpa [gm] using aC
  obtain⟨af,ak,bA,cP,gC⟩:=ef.pin p nY;refine⟨keep _ _ af,ak,fD (c8 af),λz=>?_,gC⟩;rcases cZ.mp (ck.BN p.1 z) with q|q
  ·exact bA q
  ·exact cP q
def PF{ah:List (aj×Obj)}{σ cn:bo.St}{ba ai:aA}{s2 s':aP}{bX:List aj}{wy:List Str}(ck:bo.Inv X ah σ ba s2)(f2:∀b∈bX,mS X ah ba b)
  (J:bo.Inv (gm X wy scope (j8 X.env scope.names []) (s2.heap.push {cls:=.type "list",data:=.seq ([]:List ao).toArray}).objs.size {s2 with heap:=s2.heap.push {cls:=.type "list",data:=.seq ([]:List ao).toArray} } (upd ba s2.heap.objs.size (.lst [])) bX (X.dp++ah)) [] cn ai s')
  {h':b0} (gR:Heap.SameBut (s2.heap.push {cls:=.type "list",data:=.seq ([]:List ao).toArray}).objs.size s'.heap h'):bo.Inv X ah σ ai {s' with heap:=h'}:=by
 have ef:=ck.xu (its:=[]) (ys:=[]) (t':=s2.toks) .nil (kP _);have u:=J.base;have free:ai (s2.heap.push {cls:=.type "list",data:=.seq ([]:List ao).toArray}).objs.size=none:=J.free;have old:∀b o,(s2.heap.push {cls:=.type "list",data:=.seq ([]:List ao).toArray}).get? b=some o->b≠(s2.heap.push {cls:=.type "list",data:=.seq ([]:List ao).toArray}).objs.size:=λb o e=>fD (c8 e);have Ah:∀b,b≠(s2.heap.push {cls:=.type "list",data:=.seq ([]:List ao).toArray}).objs.size->∀o,s'.heap.get? b=some o->h'.get? b=some o:=λb ae o e=>gR.extBut b o ae e;have x6:hM (nR X.stack) bX (upd ba s2.heap.objs.size (.lst [])) ai (s2.heap.push {cls:=.type "list",data:=.seq ([]:List ao).toArray}) h':=by
  refine⟨λb o e n hf hx=>Ah b (old b o e) _ (u.keep b o e n hf hx),λb o e n hf hx=>?_,u.free,λb o e hx=>?_,u.qi,u.oN,u.qg⟩
  ·obtain⟨dg,q⟩:=u.slot b o e n hf hx;exact⟨dg,Ah b (old b o e) _ q⟩
  ·obtain⟨o',q⟩:=u.there b o e hx;exact⟨o',Ah b (old b o e) _ q⟩
 have b':fF X.prog X.w ai h':=λb o e=>by
  refine (J.b' b o e).lh (λc v aD q=>Ah c (λz=>?_) v q) (λ_ q=>q) λ_ _ q=>q
  rcases aD with rfl|aD
  ·rw[z,free] at e;cases e
  ·rw[z,free] at aD;cases aD
 have p6:=J.os;have Xs:=J.bare;obtain⟨da,g,d,t,os⟩:=s';obtain rfl:os=s2.os:=p6;have fin:=ef.call (h':=h') (g':=g) (d':=d) (t':=t) (ch:=bX) x6 b' Xs λb ae=>⟨(f2 b ae).2.2.2.1,(f2 b ae).2.1,(f2 b ae).2.2.2.2.1,(f2 b ae).2.2.2.2.2⟩;exact fin
def afA{X':bh}{R:Result->aP->Prop}{J:kW}{bX:List aj}{s7 D:aj}{hn:Nat->b0->Prop}{aB O aX:aj->Prop}{aK:gq}{ba:aA}{ts ys:List T}(hx:X'.d1=λ_ _=>False)(aD:X'.calm=true)(br:kX X' cx fO)(aR:nJ X' ifs cc)(he:cf X' elt fl)
  (T:Turn X'.prog X'.w X'.K cx J bX s7 hn) (ob:∀ai:aA,(∀b∈bX,ai b=none)->∀b∈bX,mS X' [] ai b) (ok:sb X'.K J aX ba ts) (wZ:ts.length<=big) (k3:ba D=none) (lM:¬O D) (F3:aK.h D=none)
  (fin:∀cn ai aI s1 vs,bo.Inv X' [] cn ai s1->Ext aX ba aI ai->ai D=some (.lst vs)->¬aI D->bk X'.K aI ai ys vs->R (.ok .next) s1)
  {s:aP} {σ:bo.St} {H:aA} {F:aj->Prop} {ε:Ev} (I:bo.Inv X' [] σ H s) (st:hn 0 s.heap) (fr:∀b∈bX,H b=none) (x:Ext aX ba F H) (r:cB X'.K aB aK O F H ε σ) (iZ:H D=some (.lst [])) (Ie:¬F D) (eQ:fS fO cc fl ts ε=some ys):
  codeAny (bR X'.prog X'.w) X'.A (.compLoop (.ListComp elt [⟨cx,iter,ifs,0⟩] scope pos) 0 (.ref s7) (.ref D) X'.env) R s:=by
 refine O6 (λn s'=>∃i cn ai aI ε' mh vs,n=ts.length - i/\i<=ts.length/\bo.Inv X' [] cn ai s'/\hn i s'.heap/\(∀b∈bX,ai b=none)/\Ext aX ba aI ai/\cB X'.K aB aK O aI ai ε' cn/\ai D=some (.lst vs)/\¬aI D/\bk X'.K aI ai mh vs/\mh.length<=i /\
  ∃rest,fS fO cc fl (ts.drop i) ε'=some rest/\ys=mh++rest) ?_ ts.length ⟨0,σ,H,F,ε,[],[],rfl,kP _,I,st,fr,x,r,iZ,Ie,bk.nil,el _,ys,by simpa using eQ,by simp⟩
 rintro n s3 ⟨i,kx,c_,hK,Lw,mh,vs,rfl,aS,ef,rr,q_,d0,hE,nT,ta,cQ,Gm,rest,dZ,es⟩;have gf:∀{kU:aj->Prop} {jF:aA} {iW:aj->Prop} {gY:aA} {o:eW},Ext kU jF iW gY->jF D=some o->¬kU D->¬iW D:=λy e n z=>by
  rcases y.new D z with q|q
  ·exact n q
  ·rw[e] at q;cases q
 by_cases eZ:i<ts.length
 ·have hd:ts.drop i=ts[i]::ts.drop (i+1):=List.drop_eq_getElem_cons eZ;have nV:ts[i]?=some ts[i]:=gT eZ;rw[hd] at dZ;simp only[fS,b5] at dZ;obtain⟨mQ,kC,b,c',dZ⟩:=dZ;refine gv (T.item X' rfl rfl rfl aD i [] s3 kx c_ (λ_ _=>False) ef (ob c_ q_) rr (ok.go i hK c_ _ d0.az hE.cj nV)) (λb9 s4 ⟨u,ar,cP⟩=>?_) λ_ _ z=>z;subst ar;refine gv cP (λ_ s5 ⟨kl,gY,pN,tg,ajS,oa,wR⟩=>?_) λ_ _ z=>z;obtain⟨iW,mC,a3⟩:=ok.kq i hK c_ _ kl gY d0.az hE.cj nV ajS;have wt:=pN.pinned (ob gY wR) (T.obj _ _ oa);have w5:=br _ s5 kx gY kl u (λjD nG=>nG=gY/\cB X'.K aB aK O iW gY mQ jD) wt tg ⟨aB,aK,O,iW,Lw,_,mQ,hE.ext mC,a3,kC,λjD oW=>⟨rfl,oW⟩⟩;rw[hx] at w5;refine gv w5 (λ_ dK ⟨jD,nG,ajW,q6,oW⟩=>?_) λ_ _ z=>z;subst q6;have again:∀{jE:bo.St} {fj:aA} {cG:aP},bo.Inv X' ([]++vW bX s5.heap) jE fj cG->hn (i+1) cG.heap/\(∀b∈bX,fj b=none)/\bo.Inv X' [] jE fj cG:=λ{jE fj cG} hc=>by
   refine⟨T.keep _ _ _ oa λb ae o e=>(hc.pin (b,o) (l0 _ (l0 _ (vr ae e)))).1,λb ae=>?_,hc.x7⟩
   obtain⟨o,e,d⟩:=T.obj _ _ oa b ae;exact (hc.pin (b,o) (l0 _ (l0 _ (vr ae e)))).2.1
  have xc:=aR _ dK jD nG (λoF fj=>oF=b/\∃j4,Ext iW nG j4 fj) ajW ⟨aB,aK,O,iW,mQ,b,oW,c',λj4 fj kJ=>⟨rfl,j4,kJ⟩⟩;rw[hx] at xc;refine gv xc (λIH cG ⟨fj,hc,q7,j4,kJ⟩=>?_) λ_ _ z=>z;subst q7;have og:=mC.trans kJ;have oX:=oW.ext kJ;cases IH with
  |false=>
   simp only[jU,if_false] at dZ ⊢;obtain⟨a1,a2,iC⟩:=again hc;exact⟨_,by omega,i+1,jD,fj,j4,mQ,mh,vs,rfl,eZ,iC,a1,a2,d0.trans og,oX,og.same.get nT,gf og nT ta,cQ.ext og,by omega,rest,dZ,es⟩
  |true=>
   simp only[if_true,b5,dN] at dZ ⊢;obtain⟨y,FD,I2,FA,rfl⟩:=dZ;have m5:=he _ cG jD fj (λv kV=>∃j5,Ext j4 fj j5 kV/\Rep X'.K j5 kV y v) hc ⟨aB,aK,O,j4,mQ,y,oX,FD,λv j5 kV lY tf=>⟨j5,lY,tf⟩⟩;rw[hx] at m5;refine gv m5 (λu8 cY ⟨mA,kV,DO,IW,j5,lY,tf⟩=>?_) λ_ _ z=>z;have qm:=og.trans lY;have sG:=qm.same.get nT;have tb:=gf qm nT ta;obtain⟨Ho,IX⟩:=(oX.ext lY).other (ys:=vs++[mA]) tb lM F3 sG;have ax:=CZ (X:=X') _ cY jD kV (.ref D) [mA] (.ref D) [u8] (λ_ wq=>wq=upd kV D (.lst (vs++[mA]))) DO rfl (.cons IW .nil) ⟨D,vs,mA,rfl,rfl,sG,by rw[kQ,<- cQ.length];omega,rfl⟩;rw[hx] at ax;refine gv ax (λu9 dV ⟨v9,wq,DP,abe,q8⟩=>?_) λ_ _ z=>z;subst q8;obtain⟨a1,a2,iC⟩:=again DP;have o5:Ext aX ba j5 (upd kV D (.lst (vs++[mA]))):=by
    have y:=d0.trans qm;refine⟨λb o e=>?_,y.sub,y.new,⟨λb f=>?_,y.cj.oc.upd λu e=>.inl ⟨_,en (e.symm.trans sG)⟩⟩⟩
    ·have nb:b≠D:=by
      rintro rfl;rw[k3] at e;cases e
     rw[cI nb];exact y.same b o e
    ·have nb:b≠D:=by
      rintro rfl;exact tb f
     rw[cI nb];exact y.cj b f
   refine⟨_,by omega,i+1,jD,_,j5,mQ,mh++[y],vs++[mA],rfl,eZ,iC,a1,a2,o5,IX,dI,tb,((cQ.ext qm).append (bk.cons tf bk.nil)).az Ho,by simp;omega,I2,FA,by rw[es];simp⟩
 ·have hd:ts.drop i=[]:=List.drop_eq_nil_of_le (by omega);rw[hd] at dZ;cases dZ;refine gv (T.done X' rfl rfl rfl aD i [] s3 kx c_ (λ_ _=>False) ef (ob c_ q_) rr (ok.stop i hK c_ d0.az (by omega))) (λb9 s4 ⟨ar,iy⟩=>?_) λ_ _ z=>z;subst ar;exact fin kx c_ hK s4 vs iy d0 nT ta (by rw[es,mE];exact cQ)
structure After(X:bh)(ah:List (aj×Obj))(σ:bo.St)(F:aj->Prop)(H:aA)(ys:List T)(D C:aj)(ai:aA)(aI:aj->Prop)(s1:aP)(vs:List V):Prop where
 inv:∀h',Heap.SameBut C s1.heap h'->bo.Inv X ah σ ai {s1 with heap:=h'}
 ns:∃m,s1.heap.Ns C m
 free:ai C=none
 above:X.c7.heap.objs.size<=C
 cells:∀x c,X.env.cells.lookup x=some c->c≠C
 pin:∀p∈X.dp++ah,p.1≠C
 loc:C≠X.env.locals
 new:H D=none
 ext:Ext F H aI ai
 gf:¬aI D
 lst:ai D=some (.lst vs)
 rep:bk X.K aI ai ys vs
def QP{use:Option (ao->Sem Unit)}{Q:ao->aP->Prop}{fB:Pos}(S:oz X scope own caps)(aS:qY X cx iter it)
  (br:∀cl C c7 aK bX dp,kX (gm X (own++caps.map (·.2)) scope cl C c7 aK bX dp) cx fO)
  (aR:∀cl C c7 aK bX dp,nJ (gm X (own++caps.map (·.2)) scope cl C c7 aK bX dp) ifs cc)
  (he:∀cl C c7 aK bX dp,cf (gm X (own++caps.map (·.2)) scope cl C c7 aK bX dp) elt fl)
  (av:∀x,pf iter X.env x=pure x) {ah:List (aj×Obj)} {s:aP} {σ:bo.St} {H:aA} {aB O F:aj->Prop} {aK:gq} {ε:Ev} {ys:List T} (I:bo.Inv X ah σ H s) (r:cB X.K aB aK O F H ε σ)
  (e:comp own.length (caps.map (·.1)) it fO cc fl ε=some (.list ys)) (fin:∀D C ai aI s1 vs,After X ah σ F H ys D C ai aI s1 vs->compPost (bR X.prog X.w) X.A X.d1 use Q (.ref D) C (.ok .next) s1):
  bG (bR X.prog X.w) X.A (comprehension (.ListComp elt [⟨cx,iter,ifs,0⟩] scope pos) scope X.env fB (newList []) false (eval iter X.env) use) Q X.d1 s:=by
 simp only[comp,b5] at e;obtain⟨ts,bp,e⟩:=e;split at e
 case isFalse=>cases e
 next wZ=>
 simp only[dN] at e;obtain⟨ac4,eQ,e⟩:=e;cases e;have p3:∀x∈scope.names,x.2=.free->∃c,X.env.cells.lookup x.1=some c:=λx hx aH=>I.ok.has x.1 (S.free x hx aH);refine wpAny_comprehension_free rfl av (OZ p3) S.kind S.names (ct (aS ah s σ H (λJ H1=>∃aX,Ext F H aX H1/\sb X.K J aX H1 ts) I ⟨aB,aK,O,F,ε,ts,r,bp,λJ aX H1 aJ ok=>⟨aX,aJ,ok⟩⟩) λv s1 af=>ct af λA1 s2 ak=>?_);obtain⟨s7,bX,hn,J,ba,rfl,ck,T,js,f2,aX,aJ,ok⟩:=ak;have gD:∀b∈bX,b<s2.heap.objs.size:=λb ae=>by
  obtain⟨o,aE,_⟩:=T.obj 0 _ js b ae;exact c8 aE
 have k3:ba s2.heap.objs.size=none:=ck.fresh;have iZ:H s2.heap.objs.size=none:=aJ.same.none k3;have i4:(s2.heap.push {cls:=.type "list",data:=.seq ([]:List ao).toArray}).objs.size=s2.heap.objs.size+1:=kL ..;refine wpAny_newList ?_ (kP _);refine wpAny_newFunctionEnv S.cell (by intro y bL;simp at bL) (λgE Gn Gw=>?_) S.kind;have keep:∀b u,(s2.heap.push {cls:=.type "list",data:=.seq ([]:List ao).toArray}).get? b=some u->gE.get? b=some u:=λb u e=>Gw.extBut b u (fD (c8 e)) (dq _ e);have iy:=QQ (tk:=s2.toks+0) S ck f2 gD Gn keep;have lT:=(r.ext aJ).z8 (D:=s2.heap.objs.size) own.length S.aW k3;refine codeAny_compStart_list ?loop (T.self _ 0 _ _ _ (T.keep 0 _ _ js λb ae o e=>keep b o (dq _ e)) ?loop);refine afA (X':=gm X (own++caps.map (·.2)) scope (j8 X.env scope.names []) (s2.heap.push {cls:=.type "list",data:=.seq ([]:List ao).toArray}).objs.size {s2 with heap:=s2.heap.push {cls:=.type "list",data:=.seq ([]:List ao).toArray} } (upd ba s2.heap.objs.size (.lst [])) bX (X.dp++ah))
  rfl S.calm (br _ _ _ _ _ _) (aR _ _ _ _ _ _) (he _ _ _ _ _ _) T (λai a8 b ae=>?_) ok wZ k3 (λz=>z.2 rfl) (r.o0 _ (r.fr _ iZ)) (λcn ai aI s1 vs sd kl F2 Ig ed=>?_) iy (T.keep 0 _ _ js λb ae o e=>keep b o (dq _ e)) (λb ae=>?_) (Ext.laid aJ.cj k3) lT dI ?_ eQ
 ·have td:=K5 S ck f2 gD (own++caps.map (·.2));refine⟨a8 b ae,(td.uv b ae).1,td.uw b ae,.inl ae,λx c e=>(td.uv b ae).2 x c e,λp aC=>?_⟩;have nY:p∈X.dp++ah:=by simpa [gm] using aC
  exact (f2 b ae).2.2.2.2.2 p nY
 ·obtain⟨m,a8,_⟩:=id sd.loc;refine fin s2.heap.objs.size _ ai aI s1 vs ⟨λh' gR=>PF ck f2 sd gR,⟨m,a8⟩,sd.free,?_,λx c e z=>?_,λp aC z=>?_,?_,iZ,aJ.trans kl,Ig,F2,ed⟩
  ·rw[i4];exact Nat.le_succ_of_le ck.i4
  ·obtain⟨v,q⟩:=ck.cell x c e;have:=q.lt;rw[z,i4] at this;exact absurd this (Nat.not_lt.mpr (pa _))
  ·have:=c8 (ck.pin p aC).1;rw[z,i4] at this;exact absurd this (Nat.not_lt.mpr (pa _))
  ·have:=ck.lt;rw[i4];exact hY (Nat.lt_succ_of_lt this)
 ·have:=(f2 b ae).1;rw[cI (fD (gD b ae))];exact this
 ·intro z;obtain⟨o,e⟩:=aJ.cj _ z;rw[k3] at e;cases e
def ahK(S:oz X scope own caps)(aS:qY X cx iter it)
  (br:∀cl C c7 aK bX dp,kX (gm X (own++caps.map (·.2)) scope cl C c7 aK bX dp) cx fO)
  (aR:∀cl C c7 aK bX dp,nJ (gm X (own++caps.map (·.2)) scope cl C c7 aK bX dp) ifs cc)
  (he:∀cl C c7 aK bX dp,cf (gm X (own++caps.map (·.2)) scope cl C c7 aK bX dp) elt fl)
  (av:∀x,pf iter X.env x=pure x:=by intro _;rfl):oC X (.ListComp elt [⟨cx,iter,ifs,0⟩] scope pos) (comp own.length (caps.map (·.1)) it fO cc fl):=by
 intro ah s σ H Q I ⟨aB,aK,O,F,ε,ys,r,e,k⟩;rw[eval_ListComp];refine QP S aS br aR he av I r e λD C ai aI s1 vs a=>?_;obtain⟨m,a8⟩:=a.ns;exact⟨m,a8,λh' gR=>⟨.ref D,ai,a.inv h' gR,rfl,k D vs aI ai a.ext a.new a.gf a.lst a.rep⟩⟩
def Kj{ε:Ev}{n:Nat}{cs:List Nat}{t:T}(e:comp n cs it fO cc fl ε=some t):∃ts,t=.list ts:=by
 simp only[comp,b5] at e;obtain⟨ts,_,e⟩:=e;split at e
 ·simp only[dN] at e;obtain⟨ys,_,e⟩:=e;exact⟨ys,e.symm⟩
 ·cases e
def rT(S:oz X scope own caps)(aS:qY X cx iter it)
  (br:∀cl C c7 aK bX dp,kX (gm X (own++caps.map (·.2)) scope cl C c7 aK bX dp) cx fO)
  (aR:∀cl C c7 aK bX dp,nJ (gm X (own++caps.map (·.2)) scope cl C c7 aK bX dp) ifs cc)
  (he:∀cl C c7 aK bX dp,cf (gm X (own++caps.map (·.2)) scope cl C c7 aK bX dp) elt fl)
  (av:∀x,pf iter X.env x=pure x:=by intro _;rfl):cf X (.ListComp elt [⟨cx,iter,ifs,0⟩] scope pos) (comp own.length (caps.map (·.1)) it fO cc fl):=
 Ic (ahK S aS br aR he av) λε t e=>Kj e
def Dw(i:Nat){x:Str}{jO lb:Pos}(e5:X.N.Nodup)(S:oz X scope own caps)(hit:qY X cx iter it)
  (br:∀cl C c7 aK bX dp,kX (gm X (own++caps.map (·.2)) scope cl C c7 aK bX dp) cx fO)
  (aR:∀cl C c7 aK bX dp,nJ (gm X (own++caps.map (·.2)) scope cl C c7 aK bX dp) ifs cc)
  (he:∀cl C c7 aK bX dp,cf (gm X (own++caps.map (·.2)) scope cl C c7 aK bX dp) elt fl)
  (aS:X.N[i]?=some x:=by rfl) (hx:Loc X.env.scope x:=by first|exact Or.inl rfl|exact Or.inr rfl)
  (n1:i6 (.ListComp elt [⟨cx,iter,ifs,0⟩] scope pos) (some (.Name x jO)) lb.line X.env=pure true:=by rfl)
  (hf:X.fn x=true\/X.env.scope.names.lookup x=some .local:=by first|exact .inl rfl|exact .inr rfl)
  (av:∀x,pf iter X.env x=pure x:=by intro _;rfl):
  fM X (.Assign [.Name x jO] (.ListComp elt [⟨cx,iter,ifs,0⟩] scope pos) lb) (asg i (comp own.length (caps.map (·.1)) it fO cc fl)):=by
 intro ah s σ H D I ⟨aB,aK,O,F,ε,o,r,e,k⟩;simp only[asg,dN] at e;obtain⟨t,bp,rfl⟩:=e;obtain⟨ys,rfl⟩:=Kj bp;rw[exec_Assign_Name_used _ _ _ _ n1];refine a7 (wpAny_standAt (a7 ?_));show bG _ X.A (do let _ <- comprehension (.ListComp elt [⟨cx,iter,ifs,0⟩] scope pos) scope X.env _ (newList []) false (eval iter X.env) (some (assign (.Name x jO) X.env))) _ _ s;refine a7 (ct (QP (use:=some (assign (.Name x jO) X.env)) (Q:=λ_ s'=>sl X ah D .next s') S hit br aR he av I r bp λwo C ai aI s1 vs a=>?_) λ_ s' bt=>cH (cH bt));have Ua:=a.inv s1.heap (Heap.SameBut.refl ..);have Ub:bo.Inv X ah σ ai s1:=Ua;show bG _ X.A (assign (.Name x jO) X.env (.ref wo)) _ _ _;refine wpAny_assign_Name (PN (v:=.ref wo) Ub e5 aS hx rfl (λs2 ck ⟨b,gR,ae⟩=>?_) hf);obtain⟨m,a8⟩:=a.ns;have nb:C≠b:=by
  rcases ae with rfl|ae
  ·exact a.loc
  ·exact (a.cells x b ae).symm
 refine⟨m,a8.sameBut gR nb,λh' abr=>?_⟩
 have ef:bo.Inv X ah (σ.set i (some (.ref wo))) ai {s2 with heap:=h'}:=ck.turned (t':=s2.toks) (it:=C) (λb o ae e=>abr.extBut b o ae e) a.free a.loc (.inr a.above) a.cells a.pin;refine⟨_,ai,ef,?_⟩;have y:Ext F H (λb=>aI b\/b=wo) ai:=⟨a.ext.same,λb z=>.inl (a.ext.sub b z),λb z=>by
  rcases z with z|rfl
  ·exact a.ext.new b z
  ·exact .inr a.new,⟨λb z=>by
  rcases z with z|rfl
  ·exact a.ext.cj b z
  ·exact⟨_,a.lst⟩,a.ext.cj.oc⟩⟩
 refine k _ _ ai y.az ((r.ext y).set i ?_)
 simp only[Rep];exact⟨wo,vs,rfl,.inr rfl,.inl a.lst,a.rep.keep (λ_ _ z=>z) λb _ z w=>⟨.inl z,w⟩⟩
end
end
section
variable [c2]
open AutoSeq1 (wpAny_loadPart')
def ac9(l:aj)(items:Array ao)(n:Nat)(z':Option aj)(dg:Array (Option ao)):
  Meets (Builtin.«enumerate.__new__» ⟨[.type "enumerate",.ref l],[]⟩) (λ_ R s=>s.heap.get? l=some {cls:=.type "tuple",dict:=z',data:=.seq items n,slots:=dg} /\
   R (.ok (.ret (.ref (s.heap.push {cls:=.type "tuple_iterator",data:=.fields #[.ref l,.int 0 0]}).objs.size)))
    {s with heap:=(s.heap.push {cls:=.type "tuple_iterator",data:=.fields #[.ref l,.int 0 0]}).push {cls:=.type "enumerate",data:=.fields #[.none,.bool false,.ref s.heap.objs.size,rawInt 0,.none,.none]} }):=
 .of_wp λprog w A R s h=>by
  obtain⟨aC,g,d,tk,os⟩:=s;obtain⟨aw,h⟩:=h;have Nk:=sub_enumerate;have ia:Heap.IsTuple (Shared.heap ⟨aC,g,d,tk,os⟩) l items:=⟨_,aw,rfl,n,rfl⟩
  wp_walk using wpAny_loadPart' aw
  refine wpAny_stack_any λst=>cH ?_
  split
  ·rename_i c _ _ _ _ _
   cases (c==Value.type "enumerate")
   ·wp_walk using wpAny_loadPart' aw,ya ia
    exact⟨_,rfl,h⟩
   ·wp_walk using wpAny_loadPart' aw,ya ia
    exact⟨_,rfl,h⟩
  ·wp_walk using wpAny_loadPart' aw,ya ia
   exact⟨_,rfl,h⟩
section
variable {prog:cR}{w:cu}{A:c9}{E:ao->aP->Prop}{s:aP}
def ac_{l:aj}{items:Array ao}{Q:ao->aP->Prop}(ia:s.heap.IsTuple l items)
  (h:∀h',IsEnum h' (s.heap.objs.size+1) s.heap.objs.size 0 .none->h'.IsTupleIter s.heap.objs.size l 0->h'.objs.size=s.heap.objs.size+2 ->
   (∀b o,s.heap.get? b=some o->h'.get? b=some o)->Q (.ref (s.heap.objs.size+1)) {s with heap:=h'}):
  bG (bR prog w) A (call (.type "enumerate") [.ref l]) Q E s:=by
 obtain⟨⟨c,z',W2,dg⟩,aw,aD,n,hd⟩:=ia;replace aD:c=.type "tuple":=aD;replace hd:W2=.seq items n:=hd;subst aD hd;refine callType_new F.called_enumerate (by decide) (F.typeCall_enumerate_1 _) (F.newCall_enumerate_1 _) (λobj=>F.args_object_init_2 obj _) F.entry_enumerate_new
  (ac9 l items n z' dg) ⟨aw,?_⟩
 have aq:(s.heap.push {cls:=.type "tuple_iterator",data:=.fields #[.ref l,.int 0 0]}).objs.size=s.heap.objs.size+1:=kL ..;show _/\_;rw[aq];have he:IsEnum ((s.heap.push {cls:=.type "tuple_iterator",data:=.fields #[.ref l,.int 0 0]}).push
   {cls:=.type "enumerate",data:=.fields #[.none,.bool false,.ref s.heap.objs.size,rawInt 0,.none,.none]}) (s.heap.objs.size+1) s.heap.objs.size 0 .none:=by
  have:=hX (s.heap.push {cls:=.type "tuple_iterator",data:=.fields #[.ref l,.int 0 0]})
   (o:={cls:=.type "enumerate",data:=.fields #[.none,.bool false,.ref s.heap.objs.size,rawInt 0,.none,.none]}) rfl
  rw[aq] at this;exact this
 refine⟨⟨_,he,rfl⟩,h _ he ⟨_,dq _ (hX _ rfl),rfl,rfl⟩ (by rw[kL,aq]) λb o x=>dq _ (dq _ x)⟩
def adk{it l:aj}{i:Nat}{items}{x:ao}{Q:ao->aP->Prop}(hit:s.heap.IsTupleIter it l i)
  (aw:s.heap.IsTuple l items) (hx:items[i]?=some x)
  (jk:∀h',h'.IsTupleIter it l (i+1)->Heap.SameBut it s.heap h'->Q x {s with heap:=h'}):
  bG (bR prog w) A (lZ (.ref it)) Q E s:=by
 obtain⟨o,aE,aD,hd⟩:=id hit;obtain⟨ol,Gq,_,nl,Gg⟩:=aw;unfold lZ;refine a7 (qs (name:=Str.ofString "__next__") hit.typeIs B5
  (pe B5 hit.typeIs F.entry_tuple_iterator_next ?_ (F.args_tuple_iterator_next_1 _)))
 show bG _ _ (field (.ref it) 0 >>= _) _ _ s
 refine a7 (iq aE hd (x:=.ref l) rfl ?_)
 show bG _ _ (if (Value.ref l==Value.none)=true then _ else _) _ _ s
 rw[if_neg (show ¬((Value.ref l==Value.none)=true) from l2)];show bG _ _ (field (.ref it) 1 >>= _) _ _ s;refine a7 (iq aE hd (x:=.int i 0) rfl ?_);show bG _ _ (seqItems? (.ref l) >>= _) _ _ s;refine a7 (pd Gq Gg ?_);simp only[Int.toNat_natCast,hx];refine a7 (wpAny_setField aE hd (by simp) (cH ⟨x,rfl,cH (jk _ ?_ (Heap.SameBut.update ..))⟩));exact⟨_,Heap.get?_update_self _ aE (Obj.isFreed_of_fields (Obj.data_mapFields hd _)),(Obj.cls_mapFields ..).trans aD,by
  rw[Obj.data_mapFields hd];simp[rawInt]⟩
def OM{it l:aj}{i:Nat}{items}{Q:ao->aP->Prop}(da:A.handled=none)
  (hit:s.heap.IsTupleIter it l i) (aw:s.heap.IsTuple l items) (hx:items[i]?=none)
  (p2:∀h' e,Heap.ExtBut it s.heap h'->(∃o,h'.get? e=some o/\o.cls=.type "StopIteration")->E (.ref e) {s with heap:=h'}):
  bG (bR prog w) A (lZ (.ref it)) Q E s:=by
 obtain⟨o,aE,aD,hd⟩:=id hit;obtain⟨ol,Gq,_,nl,Gg⟩:=aw;unfold lZ;refine a7 (qs (name:=Str.ofString "__next__") hit.typeIs B5
  (pe B5 hit.typeIs F.entry_tuple_iterator_next ?_ (F.args_tuple_iterator_next_1 _)))
 show bG _ _ (field (.ref it) 0 >>= _) _ _ s
 refine a7 (iq aE hd (x:=.ref l) rfl ?_)
 show bG _ _ (if (Value.ref l==Value.none)=true then _ else _) _ _ s
 rw[if_neg (show ¬((Value.ref l==Value.none)=true) from l2)];show bG _ _ (field (.ref it) 1 >>= _) _ _ s;refine a7 (iq aE hd (x:=.int i 0) rfl ?_);show bG _ _ (seqItems? (.ref l) >>= _) _ _ s;refine a7 (pd Gq Gg ?_);simp only[Int.toNat_natCast,hx];refine a7 (wpAny_rule (a7 (wpAny_setField aE hd (by simp) ?_)));show bG _ _ (newExc (.type "StopIteration") [] >>= _) _ _ _;refine a7 ?_;simp only[newExc,newTuple];refine a7 (qt ?_ (by size_fits));refine a7 (m:=firstArgMember _ _) (wpAny_of_eq (a:=Value.none) (by first|rfl|(simp only[firstArgMember];rfl)) ?_);refine qt ?_ (by size_fits);simp only[raiseNew];refine a7 (wpAny_handled ?_)
 first|rw[show A.in1.handled=none from da]|rw[da]
 refine a7 (cH (wpAny_throw ?_))
 exact p2 _ _ (((Heap.SameBut.update ..).extBut.push _).push _) ⟨_,hX _ rfl,rfl⟩
end
def Pg{prog:cR}{w:cu}{A:c9}(da:A.handled=none)(it l:aj)(k6:l≠it)(items:Array ao):
  Draws prog w A it [it,l] items.size (λi v=>items[i]?=some v) (λi h=>h.IsTupleIter it l i/\h.IsTuple l items) where
 live:=λ_ _ st=>let ⟨o,aE,_⟩:=st.1;⟨o,aE⟩
 frame:=λ_ _ _ st aH=>⟨st.1.at λo e=>aH it (by simp) o e,let ⟨o,aE,r⟩:=st.2;⟨o,aH l (by simp) o aE,r⟩⟩
 item:=λi s Q E aS st jk=>by
  refine adk st.1 st.2 (x:=items[i]) (by simp[aS]) λh' XN ic=>?_
  exact jk _ h' s.toks (by simp[aS]) ⟨XN,st.2.extBut ic.extBut k6⟩ ic
 done:=λs Q E st p2=>OM da st.1 st.2 (by simp) p2
noncomputable def DR(K:bl)(a:aj):kW:=
 ⟨λi H=>∃xs x,de K H a xs/\xs[i]?=some x,λi H x ai=>∃p v,H p=none/\x=.ref p/\ai=upd H p (.tup [.int i,v])/\∀xs,de K H a xs->xs[i]?=some v,λi H=>∃xs,de K H a xs/\xs.length<=i⟩
def aeX{P:cR}{w:cu}{K:bl}{es:List bf}{k:Nat}{pos:Pos}(a it e:aj)(k6:e≠it)(Xq:a≠it)(Xo:a≠e):Turn P w K (.Tuple es k pos) (DR K a) [e,it] e (λi h=>(∃old,IsEnum h e it i old)/\h.IsTupleIter it a i) where
 mem:=by simp
 obj:=λi h st b ae=>by
  obtain⟨⟨old,he⟩,o,aE,aD,hd⟩:=st;rcases cZ.mp ae with rfl|ae
  ·exact⟨_,he,λv z=>by
    have lu:Data.fields _=Data.cell v:=z;cases lu⟩
  ·have aQ:b=it:=by simpa using ae
   subst aQ;exact⟨o,aE,λv z=>by rw[hd] at z;cases z⟩
 keep:=λi h h' st bQ=>by
  obtain⟨⟨old,he⟩,js⟩:=st;exact⟨⟨old,bQ e (by simp) _ he⟩,js.at λo q=>bQ it (by simp) o q⟩
 item:=by
  intro X ib hw iJ aD i ah s σ H E I hf st br;subst ib hw iJ;obtain⟨xs,x,bt,hx⟩:=br;obtain⟨its,b9,p,aq⟩:=I.tuple bt;obtain⟨u,bj,ee⟩:=b9.get hx;obtain⟨⟨old,he⟩,hit⟩:=st;obtain⟨f0,f1,f2,h8,f4,h9⟩:=hf e (by simp);obtain⟨lL,g1,g2,g3,sA,m4⟩:=hf it (by simp);have aS:i<its.toArray.size:=by
   rw[eJ];exact (fC.mp bj).1
  have X7:e∉[it,a]:=by
   intro z;rcases cZ.mp z with z|z
   ·exact k6 z
   ·have lu:e=a:=by simpa using z
    exact Xo lu.symm
  refine wpAny_pyNext_enum_itemD (Pg (A:=X.A.in1) (I.ok.hd aD) it a Xq its.toArray) he ⟨hit,p⟩ aS k6 X7 λkl h' tk Xk aE ic e6 hsz aH=>?_
  have ex:kl=u:=by
   have:=Xk;rw[<- Array.getElem?_toList] at this;rw[show (its.toArray).toList=its from rfl,bj] at this;exact (en this).symm
  subst ex;refine⟨_,rfl,wpAny_letOwnedTupleGo_enum aE λak m5 ie=>?_⟩;have Na:e<s.heap.objs.size:=c8 he;have XK:it<s.heap.objs.size:=by obtain⟨o,k7,_⟩:=hit;exact c8 k7
  have ec:∀b o,b≠e->b≠it->s.heap.get? b=some o->ak.get? b=some o:=λb o af bA q=>ie.extBut b o af (aH b o af bA q);have fr:H s.heap.objs.size=none:=I.b'.fresh (el _);have F5:ak.get? s.heap.objs.size=some {cls:=.type "tuple",data:=.seq #[.int i tk,kl]}:=ie.extBut _ _ (hY Na) e6;have rk:∀b o,H b=some o->b≠e/\b≠it:=λb o q=>⟨λz=>(by rw[z,f0] at q;cases q),λz=>(by rw[z,lL] at q;cases q)⟩;have xa:fF X.prog X.w (upd H s.heap.objs.size (.tup [.int i,x])) ak:=by
   intro b o q;by_cases ae:b=s.heap.objs.size
   ·subst ae;rw[dI] at q;cases q;exact⟨by show 2<=cF;decide,[.int i tk,kl],.cons ⟨tk,rfl⟩ (.cons ee .nil),⟨_,F5,rfl,_,rfl⟩⟩
   ·rw[cI ae] at q;refine (I.b' b o q).lh (λc v dP ed=>ec c v ?_ ?_ ed) (λc ed=>?_) λc ys ed=>?_
    ·rcases dP with rfl|dP
     ·exact (rk _ _ q).1
     ·exact (rk _ _ dP).1
    ·rcases dP with rfl|dP
     ·exact (rk _ _ q).2
     ·exact (rk _ _ dP).2
    ·rw[cI (jV ed fr)];exact ed
    ·rw[cI (jV ed fr)];exact ed
  have ck:bo.Inv X ah σ (upd H s.heap.objs.size (.tup [.int i,x])) {s with heap:=ak,toks:=tk+1}:=by
   refine I.step (g':=s.gens) (d':=s.drawn) (ch:=[e,it]) (λb ae=>?_) (λb o _ _ dP q _=>ec b o (λz=>dP (by simp[z])) (λz=>dP (by simp[z])) q) (λb o _ _ dP q _=>⟨o.slots,ec b o (λz=>dP (by simp[z])) (λz=>dP (by simp[z])) q⟩) (λb o _ q n=>?_)
    (λb o dP q=>⟨o,ec b o (λz=>dP (by simp[z])) (λz=>dP (by simp[z])) q⟩) (λb ys q=>by rw[cI (jV q fr)];exact q) (λb o u q=>by rw[cI (jV q fr)];exact q) (λb ps q=>⟨#[],by rw[cI (jV q fr),q];simp⟩) (λm hm=>?_) xa I.bare
   ·rcases cZ.mp ae with rfl|ae
    ·exact⟨h8,f1,f4,h9⟩
    ·have:b=it:=by simpa using ae
     subst this;exact⟨g3,g1,sA,m4⟩
   ·rw[cI (fD (c8 q))];exact n
   ·obtain⟨o,fm,ep,k7,r⟩:=hm;exact⟨o,fm,ep,ec _ o (Ne.symm f1) (Ne.symm g1) k7,r⟩
  refine⟨.ref s.heap.objs.size,_,ck,rfl,⟨s.heap.objs.size,x,fr,rfl,rfl,λys bL=>by rw[I.Jh bL bt];exact hx⟩,⟨⟨_,by simpa using m5⟩,ic.1.at λo q=>(ie.2 it k6.symm).trans q⟩,λb ae=>?_⟩
  rcases cZ.mp ae with rfl|ae
  ·rw[cI (fD Na)];exact f0
  ·have:b=it:=by simpa using ae
   subst this;rw[cI (fD XK)];exact lL
 done:=by
  intro X ib hw iJ aD i ah s σ H E I hf st br;subst ib hw iJ;obtain⟨xs,bt,hx⟩:=br;obtain⟨its,b9,p,aq⟩:=I.tuple bt;obtain⟨⟨old,he⟩,hit⟩:=st;obtain⟨lL,g1,g2,g3,sA,m4⟩:=hf it (by simp);have e6:s.TypeIs (.ref e) "enumerate":=⟨_,he,rfl⟩;have aw:=b9.length;unfold pyNext;refine a7 (wpAny_attempt (qs (name:=Str.ofString "__next__") e6 F.slot_enumerate_next
   (pe F.slot_enumerate_next e6 F.entry_enumerate_next ?_ (F.args_enumerate_next_1 _))))
  show bG _ _ (field (.ref e) 2 >>= _) _ _ _
  refine a7 (iq he rfl (x:=.ref it) rfl ?_)
  refine a7 (OM (I.ok.hd aD) hit (show s.heap.IsTuple a its.toArray from p) (by simp;omega) λh' x XC kb=>?_)
  obtain⟨o,aE,dP⟩:=kb;refine a7 (wpAny_isInstance (T:="StopIteration") (b:=true) ⟨o,aE,dP⟩ isSubtype_stop ?_);exact cH ⟨rfl,I.turned (t':=s.toks) (λb o ae q=>XC b o ae q) lL g1 g3 sA m4⟩
 self:=λ_ _ _ _ _ st h=>by
  obtain⟨⟨old,he⟩,_⟩:=st;exact wpAny_pyIter_enum he h
noncomputable def Yt(K:bl)(cD:f'):TI:=λσ H R=>cD σ H λvs H1=>∃a xs,vs=[.ref a]/\de K H1 a xs/\R (DR K a) H1
section
variable {X:bh}{es:List bf}{k:Nat}{p pos fB:Pos}{a:bf}{f:bD}
def agZ{cD:f'}(br:fi X "enumerate")(hm:X.mg "enumerate"=none)(ax:h5 X [a] cD)(av:bB [a] X.env=[(false,eval a X.env)]:=by rfl):pR X (.Tuple es k fB) (.Call (.Name "enumerate" p) [a] [] pos) (Yt X.K cD):=by
 intro ah s σ H R I h;refine Call_ (tY I br hm PyProof.Rows.boot_enumerate (uY (ct (ax pos ah s σ H _ I h) λus s1 ⟨vs,H1,bE,bg,aO⟩=>?_) av rfl));obtain⟨a,xs,rfl,bt,q⟩:=aO;cases bg with
|cons r xM=>
  cases xM
  cases r
  obtain⟨its,b9,pl,aq⟩:=bE.tuple bt;have M6:a<s1.heap.objs.size:=by obtain⟨o,aE,_⟩:=pl;exact c8 aE
  refine ac_ (show s1.heap.IsTuple a its.toArray from pl) λh' he hit hsz aH=>wpAny_pyIter_enum he ?_
  refine⟨s1.heap.objs.size+1,[s1.heap.objs.size+1,s1.heap.objs.size],_,_,H1,rfl,bE.kept (t':=s1.toks) aH,aeX a s1.heap.objs.size (s1.heap.objs.size+1) (Nat.succ_ne_self _) (fD M6) (fD (Nat.lt_succ_of_lt M6)),⟨⟨_,he⟩,hit⟩,λb ae=>?_,q⟩
  have i0:s1.heap.objs.size<=b:=by
   rcases cZ.mp ae with rfl|ae
   ·exact pa _
   ·have:b=s1.heap.objs.size:=by simpa using ae
    rw[this];exact el _
  exact bE.AI i0 (bE.b'.fresh i0)
def afr{K:bl}{a:aj}{aX:aj->Prop}{H1:aA}{ts:List T}{vs:List V}(ar:de K H1 a vs)(q:bk K aX H1 ts vs):sb K (DR K a) aX H1 (enum ts) where
 go:=λi F H t az d e=>by
  have aS:=(fC.mp e).1;simp only[enum,gk,List.length_zipIdx] at aS;obtain⟨v,af,_⟩:=q.get (gT aS);exact⟨vs,v,az.tup _ _ ar,af⟩
 kq:=λi F H t x ai az d e y=>by
  obtain⟨p,v,aC,rfl,rfl,y⟩:=y;have aS:=(fC.mp e).1;simp only[enum,gk,List.length_zipIdx] at aS;obtain⟨kI,af,ak⟩:=(q.az az).get (gT aS);have bA:=y vs (az.tup _ _ ar);rw[af] at bA;cases bA;have aJ:=Ext.laid (o:=.tup [.int i,v]) d aC;refine⟨F,aJ,?_⟩;have bp:t=.tuple [.int i,ts[i]]:=by
   simp only[enum,hq,List.getElem?_zipIdx,gT aS] at e;simpa using e.symm
  subst bp;simp only[Rep];exact⟨p,_,rfl,de.of dI,bk.cons (by simp[Rep]) (bk.cons (ak.ext aJ) bk.nil)⟩
 stop:=λi F H az aw=>⟨vs,az.tup _ _ ar,by
  simp only[enum,gk,List.length_zipIdx] at aw;rw[<- q.length];exact aw⟩
def DB(hm:X.mg "enumerate"=none)(ax:cf X a f)(br:fi X "enumerate":=by rfl)(av:bB [a] X.env=[(false,eval a X.env)]:=by rfl)(ie:bB [a] X.env=(false,eval a X.env)::bB [] X.env:=by rfl):
  qY X (.Tuple es k fB) (.Call (.Name "enumerate" p) [a] [] pos) (jY (j0 f)):=zE (agZ br hm (i7 ax lA ie) av) λσ H R ⟨aB,aK,O,F,ε,ts,r,e,k⟩=>by
 simp only[jY,j0,dN,b5] at e;obtain⟨us,⟨t,bp,e⟩,rfl⟩:=e;split at e
 ·cases e
  refine⟨aB,aK,O,F,ε,_,r,bp,λv aI ai x q=>?_⟩
  simp only[Rep] at q;obtain⟨a,vs,rfl,av,ar⟩:=q;exact⟨a,vs,rfl,av,k _ aI ai x (afr av ar)⟩
 ·cases e
end
end
section
variable [c2]
structure Cl(P:cR)(w:cu)(K:bl)(mg:Str->Option ao)(base:b0)(x:Str)(k n:Nat)(d:List T->Option T):Prop where
 ex:∃cA fd ps,fw P w K mg base ajN k cA fd ps (spT K n d)/\mg x=some (.ref cA)/\ni K (.ref cA)=true/\Binds K fd ps []
section
variable {P:cR}{w:cu}{K:bl}{mg:Str->Option ao}{base:b0}{x:Str}{k n:Nat}{d:List T->Option T}
theorem Cl.mono{j:Nat}(c:Cl P w K mg base x j n d)(h:j<=k):Cl P w K mg base x k n d:=by
 obtain⟨cA,fd,ps,F,r⟩:=c.ex;exact⟨cA,fd,ps,F.mono h,r⟩
def Cl.mk'{cA:aj}{fd:gj}{ps:List Str}(F:fw P w K mg base ajN k cA fd ps (spT K n d))(m:mg x=some (.ref cA))(az:ni K (.ref cA)=true)(b:Binds K fd ps []):Cl P w K mg base x k n d:=⟨cA,fd,ps,F,m,az,b⟩
end
section
variable {X:bh}{k n:Nat}{d:List T->Option T}{x:Str}{p pos:Pos}{e:bf}{es:List bf}{ay:List bD}
def jw(C:Cl X.prog X.w X.K X.mg X.base x k n d)(ar:d4 k X.A)(ax:lE X (e::es) ay)(br:fi X x:=by rfl)(a8:ay.length=n:=by rfl)(iL:(x==("__debug__":Str))=false:=by decide)
  (he:bB (e::es) X.env=(false,eval e X.env)::bB es X.env:=by rfl) (hpl:(dR pos (bB es X.env)).any (·.1)=false:=by rfl):cf X (.Call (.Name x p) (e::es) [] pos) (bV d ay):=by
 obtain⟨cA,fd,ps,F,m,az,b⟩:=C.ex;exact ahL F ar br m az b ax a8 iL he hpl
def NY{i:Int}{t:Tok}(hm:X.mg x=some (.int i t))(br:fi X x:=by rfl)(hd:(x==("__debug__":Str))=false:=by decide):cf X (.Name x pos) (aa (.int i)):=aj8 (v:=.int i) (Q' (v:=.int i) br hm ⟨t,rfl⟩ hd) λ_ _=>by simp[Rep]
noncomputable def SA(scope sc:Scope)(N:List Str)(caps:List (Nat×Str)):Bool:=
 decide (scope.kind=.function) && scope.names.all (λy=>(decide (y.2≠.local) || decide (scope.names.lookup y.1=some .local)) && decide (y.2≠.cell) && (decide (y.2≠.free) || decide (sc.names.lookup y.1=some .cell) || decide (sc.names.lookup y.1=some .free)))
  && caps.all (λq=>decide (N[q.1]?=some q.2) && decide (scope.names.lookup q.2=some .free)) && decide ((caps.map (·.1)).Nodup)
def ait{scope sc:Scope}{own:List Str}{caps:List (Nat×Str)}(N:List Str)(Yb:X.env.scope=sc)(e5:X.N=N)(aD:X.calm=true)(h:SA scope sc N caps=true):oz X scope own caps:=by
 simp only[SA,hZ,List.all_eq_true,decide_eq_true_eq,Bool.or_eq_true] at h;obtain⟨⟨⟨af,ak⟩,bA⟩,cP⟩:=h;refine⟨af,λy bL aw=>?_,λy bL=>(ak y bL).1.2,λy bL hf=>?_,λq bt=>by rw[e5];exact bA q bt,cP,aD⟩
 ·rcases (ak y bL).1.1 with z|z
  ·exact absurd aw z
  ·exact z
 ·have aH:X.env.kindOf y.1=sc.names.lookup y.1:=by rw[<- Yb];rfl
  rw[aH];rcases (ak y bL).2 with (z|z)|z
  ·exact absurd hf z
  ·exact .inl z
  ·exact .inr z
end
def nA{P:cR}{w:cu}{K:bl}{mg:Str->Option ao}{base:b0}{x:Str}{st:Stmt}{f:aj}{fd:gj}{N ps:List Str}{k:Nat}{b:bu}(F:c1 K x x st f fd)(S:dc N ps (cp st))(bd:Binds K fd ps [])(m:mg x=some (.ref f))
  (ae:∀(cW:ao) (A:c9) (outer:List Env) (s:aP) (H:aA) (E:gN),d4 k (A.deeper (envOfC x (cp st) s.heap.objs.size f cW)) ->
   iz (jL ajN P w K mg base N x (cp st) f cW A outer s H E).kG (jx st) b):Cl P w K mg base x (k+1) ps.length (eI b N.length):=.mk' (Sa F S ae) m F.az bd
end
end D
end
section
namespace bo
open PySem PySem.Spec PyProof.Rows
section
variable {e9:Type}[DecidableEq e9]
noncomputable def hV(kvs:List (e9×V))(k:e9):Option V:=(kvs.find? λcJ=>decide (cJ.1=k)).map (·.2)
noncomputable def putK(kvs:List (e9×V))(k:e9)(v:V):List (e9×V):=
 if (kvs.any λcJ=>decide (cJ.1=k))=true then kvs.map (λcJ=>if cJ.1=k then (cJ.1,v) else cJ) else kvs++[(k,v)]
def Kq{p:e9×V}{r:List (e9×V)}{k:e9}(e:p.1=k):hV (p::r) k=some p.2:=by simp[hV,l1,e]
def Kr{p:e9×V}{r:List (e9×V)}{k:e9}(e:¬p.1=k):hV (p::r) k=hV r k:=by simp[hV,l1,e]
theorem Qt(k:e9):∀kvs:List (e9×V),(kvs.any λcJ=>decide (cJ.1=k))=(hV kvs k).isSome
| []=>rfl
|p::r=>by
  rw[List.any_cons];by_cases e:p.1=k
  ·simp only[Kq e,decide_eq_true e,Bool.true_or,Option.isSome_some]
  ·rw[Kr e,decide_eq_false e,Bool.false_or];exact Qt k r
def JU(kvs:List (e9×V))(k:e9)(v:V):(putK kvs k v).length<=kvs.length+1:=by
 unfold putK;split
 ·rw[gk];omega
 ·rw[qq,hF,tq];omega
def jG.Yx{o:Option V}{u:Option ao}(r:jG o u):o.isSome=u.isSome:=by
 cases o with
|none=>cases u with
  |none=>rfl
  |some _=>exact (show False from r).elim
|some _=>cases u with
  |none=>exact (show False from r).elim
  |some _=>rfl
theorem jG.getD{o:Option V}{u:Option ao}{d:V}{d':ao}(r:jG o u)(ig:RelV d d'):RelV (o.getD d) (u.getD d'):=by
 cases o with
|none=>cases u with
  |none=>exact ig
  |some _=>exact (show False from r).elim
|some _=>cases u with
  |none=>exact (show False from r).elim
  |some _=>exact r
def fU.val{kvs:List (e9×V)}{vs:List (e9×ao)}(r:fU kvs vs)(k:e9):jG (hV kvs k) (valueAt vs k):=by
 unfold fU at r
 induction r with
|nil=>exact True.intro
| @cons p q ps n9 h t b2=>
  obtain⟨af,ak⟩:=h;by_cases e:p.1=k
  ·have bT:q.1=k:=af.symm.trans e;have b:valueAt (q::n9) k=some q.2:=by simp[valueAt,l1,bT]
   rw[Kq e,b];exact ak
  ·have bT:¬q.1=k:=λz=>e (af.trans z);have b:valueAt (q::n9) k=valueAt n9 k:=by simp[valueAt,l1,bT]
   rw[Kr e,b];exact b2
theorem fU.any{kvs:List (e9×V)}{vs:List (e9×ao)}(r:fU kvs vs)(k:e9):(kvs.any λcJ=>decide (cJ.1=k))=vs.any λcJ=>decide (cJ.1=k):=by
 unfold fU at r
 induction r with
|nil=>rfl
|cons h t b2=>rw[List.any_cons,List.any_cons,b2,h.1]
def fU.I1{kvs:List (e9×V)}{vs:List (e9×ao)}(r:fU kvs vs)(k:e9){y:V}{u:ao}(bK:RelV y u):
  fU (kvs.map λcJ=>if cJ.1=k then (cJ.1,y) else cJ) (vs.map λcJ=>if cJ.1=k then (cJ.1,u) else cJ):=by
 unfold fU at r ⊢
 induction r with
|nil=>exact .nil
| @cons p q ps n9 h t b2=>
  rw[dk,dk];refine .cons ?_ b2;obtain⟨af,ak⟩:=h;by_cases e:p.1=k
  ·rw[if_pos e,if_pos (af.symm.trans e)];exact⟨af,bK⟩
  ·rw[if_neg e,if_neg (λz=>e (af.trans z))];exact⟨af,ak⟩
def fU.put{kvs:List (e9×V)}{vs:List (e9×ao)}(r:fU kvs vs)(k:e9){y:V}{u:ao}(bK:RelV y u):fU (putK kvs k y) (stored vs k u):=by
 unfold putK stored;rw[r.any k];by_cases e:(vs.any λcJ=>decide (cJ.1=k))=true
 ·rw[if_pos e,if_pos e];exact r.I1 k bK
 ·rw[if_neg e,if_neg e];exact Paired.snoc r ⟨rfl,bK⟩
theorem fU.length{kvs:List (e9×V)}{vs:List (e9×ao)}(r:fU kvs vs):kvs.length=vs.length:=Paired.length r
end
def we{P:cR}{w:cu}{k:Key}{u:ao}(r:RelV (ei k) u):(fu P w).is k u=true:=by
 cases k with
|inl i=>obtain⟨t,e⟩:=(show ∃t,u=Value.int i t from r);subst e;exact Pc P w i t
|inr x=>obtain⟨t,e⟩:=(show ∃t,u=Value.str x t from r);subst e;exact Pb P w x t
theorem P4{P:cR}{w:cu}:∀{bc:List Key} {us:List ao},Vals (bc.map ei) us->ItemsAre (fu P w) bc us
| [],_,r=>by rw[jS] at r;cases r;exact .nil
|k::bc,_,r=>by
  rw[dk] at r;cases r with
  |cons h t=>exact .cons (we h) (P4 t)
abbrev KT(H:aA):List (List Key×V)->List (List Key×aj×ao)->Prop:=Paired λp q=>p.1=q.1/\H q.2.1=some (.tup (p.1.map ei))/\RelV p.2 q.2.2
def KT.val{H:aA}{kvs:List (List Key×V)}{xs:List (List Key×aj×ao)}(r:KT H kvs xs)(k:List Key):jG (hV kvs k) ((atKey xs k).map (·.2)):=by
 induction r with
|nil=>exact True.intro
| @cons p q ps n9 h t b2=>
  obtain⟨af,_,ak⟩:=h;by_cases e:p.1=k
  ·have bT:q.1=k:=af.symm.trans e;have b:atKey (q::n9) k=some q.2:=by simp[atKey,l1,bT]
   rw[Kq e,b];exact ak
  ·have bT:¬q.1=k:=λz=>e (af.trans z);have b:atKey (q::n9) k=atKey n9 k:=by simp[atKey,l1,bT]
   rw[Kr e,b];exact b2
def KT.I1{H:aA}{kvs:List (List Key×V)}{xs:List (List Key×aj×ao)}(r:KT H kvs xs)(k:List Key){y:V}{u:ao}(bK:RelV y u):
  KT H (kvs.map λcJ=>if cJ.1=k then (cJ.1,y) else cJ) (xs.map (putAt k u)):=by
 induction r with
|nil=>exact .nil
| @cons p q ps n9 h t b2=>
  rw[dk,dk];refine .cons ?_ b2;obtain⟨af,ak,bA⟩:=h;unfold putAt;by_cases e:p.1=k
  ·rw[if_pos e,if_pos (af.symm.trans e)];exact⟨af,ak,bK⟩
  ·rw[if_neg e,if_neg (λz=>e (af.trans z))];exact⟨af,ak,bA⟩
def KT.put{H:aA}{kvs:List (List Key×V)}{xs:List (List Key×aj×ao)}(r:KT H kvs xs)(k:List Key){b:aj}{y:V}{u:ao}(ae:H b=some (.tup (k.map ei)))(bK:RelV y u):
  KT H (putK kvs k y) (storedH xs k b u):=by
 have e:(kvs.any λcJ=>decide (cJ.1=k))=(atKey xs k).isSome:=by
  rw[Qt,(r.val k).Yx,Option.isSome_map]
 unfold putK storedH;rw[e];by_cases q:(atKey xs k).isSome=true
 ·rw[if_pos q,if_pos q];exact r.I1 k bK
 ·rw[if_neg q,if_neg q];exact Paired.snoc r ⟨rfl,ae,bK⟩
def KT.keeps{H ai:aA}{kvs:List (List Key×V)}{xs:List (List Key×aj×ao)}(r:KT H kvs xs)(aR:∀b ys,H b=some (.tup ys)->ai b=some (.tup ys)):KT ai kvs xs:=
 Paired.H_ r λ_ _ z=>⟨z.1,aR _ _ z.2.1,z.2.2⟩
section
variable {P:cR}{w:cu}{H:aA}{h:b0}{a:aj}
def Sp{u:eW}(ok:fF P w H h)(e:eK H a u):h4 P w H h a u:=e.ok ok
def wi{kvs:List (Key×V)}(ok:fF P w H h)(e:eK H a (.du kvs)):kvs.length<=cF/\(a==sysModules)=false/\∃vs,fU kvs vs/\h.DictOf (fu P w) a vs:=
 show h4 P w H h a (.du kvs) from Sp ok e
def Sz{kvs:List (Key×V)}(ok:fF P w H h)(e:H a=some (.du kvs)):kvs.length<=cF/\(a==sysModules)=false/\∃vs,fU kvs vs/\h.DictOf (fu P w) a vs:=wi ok (.inl e)
def DA{bc:List Key}(ok:fF P w H h)(e:H a=some (.tup (bc.map ei))):(tupleKind (fu P w)).is h bc a:=by
 obtain⟨_,its,r,o,af,ak,n,bA⟩:=(show h4 P w H h a (.tup (bc.map ei)) from ok a _ e);exact⟨o,its.toArray,n,af,ak,bA,by simpa using P4 r⟩
def zN{kvs:List (List Key×V)}(ok:fF P w H h)(e:eK H a (.mW kvs)):kvs.length<=cF/\(a==sysModules)=false /\
  ∃xs,KT H kvs xs/\h.DictOfH (tupleKind (fu P w)) a xs:=by
 obtain⟨z,y,xs,r,o,es,ep,af,ak,bA,cP,gC⟩:=(show h4 P w H h a (.mW kvs) from Sp ok e);refine⟨z,y,xs,r,o,es,ep,af,ak,bA,cP,λx hx=>?_,gC⟩;have all:∀{l:List (List Key×V)} {m:List (List Key×aj×ao)},KT H l m->∀x∈m,(tupleKind (fu P w)).is h x.1 x.2.1:=by
  intro l m q
  induction q with
  |nil=>intro x hx;exact nomatch hx
  | @cons p q ps n9 bt t b2=>
   intro x hx;rcases cZ.mp hx with e|hx
   ·subst e;exact DA ok (by rw[<- bt.1];exact bt.2.1)
   ·exact b2 x hx
 exact all r x hx
def ajb{kvs:List (List Key×V)}(ok:fF P w H h)(e:H a=some (.mW kvs)):kvs.length<=cF/\(a==sysModules)=false /\
  ∃xs,KT H kvs xs/\h.DictOfH (tupleKind (fu P w)) a xs:=zN ok (.inl e)
end
noncomputable def me(H:aA)(a:aj)(y:V)(r:Option V):Prop:=
 (∃kvs k,eK H a (.du kvs)/\y=ei k/\r=hV kvs k)\/∃kvs k b,eK H a (.mW kvs)/\y=.ref b/\H b=some (.tup (k.map ei))/\r=hV kvs k
noncomputable def pL(H:aA)(a:aj)(y v:V)(ai:aA):Prop:=
 (∃kvs k,H a=some (.du kvs)/\y=ei k/\kvs.length<cF/\ai=upd H a (.du (putK kvs k v))) \/
 ∃kvs k b,H a=some (.mW kvs)/\y=.ref b/\H b=some (.tup (k.map ei))/\kvs.length<cF/\ai=upd H a (.mW (putK kvs k v))
theorem me.k{H:aA}{a:aj}{kvs:List (Key×V)}{k:Key}(e:H a=some (.du kvs)):me H a (ei k) (hV kvs k):=.inl ⟨kvs,k,.inl e,rfl,rfl⟩
theorem pL.k{H:aA}{a:aj}{kvs:List (Key×V)}{k:Key}{v:V}(e:H a=some (.du kvs))(aw:kvs.length<cF):pL H a (ei k) v (upd H a (.du (putK kvs k v))):=.inl ⟨kvs,k,e,rfl,aw,rfl⟩
section
variable {X:bh}{ah:List (aj×Obj)}{σ:St}{H:aA}{s:aP}{a:aj}{y v:V}{u r:ao}{o:Option V}{A:c9}{E:ao->aP->Prop}
def Inv.big(I:Inv X ah σ H s):sysModules<s.heap.objs.size:=by
 have h:ajP<s.heap.objs.size:=(I.mod.glob.keeps I.iD).lt;exact Nat.lt_trans (by decide) h
def P9{Q:ao->aP->Prop}(bj:A.units+1<cLine)(I:Inv X ah σ H s)(g:me H a y (some v))(bK:RelV y u)(h:∀f7 s',Inv X ah σ H s'->RelV v f7->Q f7 s'):
  bG (bR X.prog X.w) A (getItem (.ref a) u) Q E s:=by
 rcases g with ⟨kvs,k,e,eQ,l⟩|⟨kvs,k,b,e,eQ,c',l⟩
 ·subst eQ;obtain⟨z,hd,vs,rel,dO⟩:=wi I.b' e;obtain⟨f7,hw,kh⟩:=jG.some_of (v:=v) (o:=valueAt vs k) (by rw[l];exact rel.val k);exact wpAny_getItem_of (we bK) dO.mapOf hw (h f7 _ (I.tok _) kh)
 ·subst eQ;cases (show u=Value.ref b from bK);obtain⟨z,hd,xs,rel,dO⟩:=zN I.b' e;obtain⟨f7,hw,kh⟩:=jG.some_of (v:=v) (o:=(atKey xs k).map (·.2)) (by rw[l];exact rel.val k);obtain⟨p,aC,rd⟩:=dN.mp hw;refine wpAny_getItem_heap (tupleKind_room_in1 bj) (DA I.b' c') dO aC ?_;rw[rd];exact h f7 _ (I.tok _) kh
def K4{h':b0}{t':Nat}{d6:eW}(I:Inv X ah σ H s)(lQ:wx (H a))(av:Heap.SameBut a s.heap h')(he:∃q,h'.get? a=some q)(new:h4 X.prog X.w (upd H a d6) h' a d6):
  Inv X ah σ (upd H a d6) {s with heap:=h',toks:=t'}:=
 I.write (x:=a) (e:=a) lQ (.inl rfl) (λb q ae z=>(av.2 b ae).trans z) he new
def Sb{P:cR}{w:cu}{ai:aA}{h':b0}{kvs:List (Key×V)}{vs:List (Key×ao)}(z:kvs.length<=cF)(hd:(a==sysModules)=false)(rel:fU kvs vs)(dO:h'.DictOf (fu P w) a vs):
  h4 P w ai h' a (.du kvs):=⟨z,hd,vs,rel,dO⟩
def P8{ai:aA}{Q:Unit->aP->Prop}(bj:A.units+1<cLine)(I:Inv X ah σ H s)(g:pL H a y v ai)(bK:RelV y u)(b9:RelV v r)(h:∀s',Inv X ah σ ai s'->Q () s'):
  bG (bR X.prog X.w) A (setItem (.ref a) u r) Q E s:=by
 rcases g with ⟨kvs,k,e,eQ,l,Fy⟩|⟨kvs,k,b,e,eQ,c',l,Fy⟩
 ·subst eQ Fy;obtain⟨z,hd,vs,rel,dO⟩:=Sz I.b' e;have aq:vs.length<=cF:=by rw[<- rel.length];exact z
  have aw:(putK kvs k v).length<=cF:=by have:=JU kvs k v;omega
  refine wpAny_setItem_pairs (hsz:=aq) (we bK) dO λh' sy av=>h _ ?_
  have he:∃q,h'.get? a=some q:=let ⟨q,_,_,bt,_⟩:=sy;⟨q,bt⟩;exact K4 I (by rw[e];exact True.intro) av he (Sb aw hd (rel.put k b9) sy)
 ·subst eQ Fy;cases (show u=Value.ref b from bK);obtain⟨z,hd,xs,rel,dO⟩:=ajb I.b' e;have aq:xs.length<=cF:=by rw[<- Paired.length rel];exact z
  have aw:(putK kvs k v).length<=cF:=by have:=JU kvs k v;omega
  refine wpAny_setItem_heap (hsz:=aq) (tupleKind_room_in1 bj) (DA I.b' c') dO λh' sy av=>h _ ?_
  obtain⟨q,es,ep,bt,ak,bA,cP,_,gC⟩:=sy;refine K4 I (by rw[e];exact True.intro) av ⟨q,bt⟩ ⟨aw,hd,_,(rel.put k c' b9).keeps λc ys g0=>?_,q,es,ep,bt,ak,bA,cP,gC⟩;rw[cI (ai6 g0 e (λz=>nomatch z))];exact g0
end
def qV(i:bf):Prop:=∀dU ew,subscripted i false dU ew=operate [dU,ew] (getItem dU ew)
def agA{prog:cR}{w:cu}{A:c9}{E:ao->aP->Prop}{s:aP}{env:Env}{value slice:bf}{pos:Pos}{T id:String}{Q:ao->aP->Prop}
  (aw:typeLookup (.type T) "__getitem__"=pure (some (.builtin id))) (av:qV slice)
  (h:bG (bR prog w) A (eval value env) (λo dH=>bG (bR prog w) A (eval slice env) (λi ng=>ng.TypeIs o T/\bG (bR prog w) A (getItem o i) Q E ng) E dH) E s):
  bG (bR prog w) A (eval (.Subscript value slice pos) env) Q E s:=by
 refine Subscript_ (gv h (λo dH gE=>gv gE (λi ng kc=>?_) λ_ _ x=>x) λ_ _ x=>x)
 obtain⟨e6,kc⟩:=kc;unfold subscriptTail;refine a7 ?_;rw[getitemInPython_of_ne e6.not_modules];refine a7 (wpAny_specialOf e6 aw ?_);have fin:bG (bR prog w) A (subscripted slice false o i) (λr uN=>bG (bR prog w) A (letTemporaryGo value o r >>= λ_=>pure r) Q E uN) E ng:=by
  rw[av o i];exact wpAny_operating (gv kc (λr uN iM=>a7 (wpAny_letTemporaryGo (cH iM))) λ_ _ x=>x)
 first
  |exact cH (a7 fin)
  |exact a7 (cH (a7 fin))
  |exact a7 fin
def aeg{X:bh}{ah:List (aj×Obj)}{σ:St}{H:aA}{s:aP}{a:aj}{y:V}{o:Option V}(I:Inv X ah σ H s)(g:me H a y o):s.TypeIs (.ref a) "dict":=by
 rcases g with ⟨kvs,k,e,_,_⟩|⟨kvs,k,b,e,_,_,_⟩
 ·obtain⟨_,_,vs,_,dO⟩:=wi I.b' e;exact dO.typeIs
 ·obtain⟨_,_,xs,_,dO⟩:=zN I.b' e;exact dO.typeIs
noncomputable def aiH(ki ty:TE):TE:=λσ H Q=>ki σ H λx H1=>ty σ H1 λy ba=>∃a v,x=.ref a/\me ba a y (some v)/\Q v ba
noncomputable def aiQ(ki ty ho:TE):hL:=λD σ H=>ho σ H λv H1=>ki σ H1 λx ba=>ty σ ba λy c_=>∃a jF,x=.ref a/\pL c_ a y v jF/\D.bY σ jF
noncomputable def aiR(ki ty ho:TE)(ig:V->V->aA->dx->Prop):hL:=λD σ H=>ki σ H λx H1=>ty σ H1 λy ba=>∃a v,x=.ref a/\me ba a y (some v) /\
 ho σ ba λo8 c_=>ig v o8 c_ λz jF=>∃gY,pL jF a y z gY/\D.bY σ gY
section
variable {X:bh}{o i e value:bf}{pos pos' Jg:Pos}{ki ty ho:TE}
def vG(bj:X.A.units+1<cLine)(aE:bO X o ki)(aS:bO X i ty)(av:qV i):bO X (.Subscript o i pos) (aiH ki ty):=by
 intro ah s σ H Q I h;refine agA PySem.F.slot_dict_getitem.lookup av (ct (aE ah s σ H _ I h) λu s1 ⟨x,H1,bE,a3,aO⟩=>ct (aS ah s1 σ H1 _ bE aO) λew s2 ⟨y,ba,ck,bK,a,v,ex,g,bb⟩=>?_);subst ex;obtain rfl:u=Value.ref a:=a3;exact⟨aeg ck g,P9 bj ck g bK λf7 s3 ef kh=>⟨v,ba,ef,kh,bb⟩⟩
def KX(bj:X.A.units+1<cLine)(aE:bO X o ki)(aS:bO X i ty)(a5:bO X value ho)(av:i6 value (some (.Subscript o i pos')) pos.line X.env=pure false):
  ky X (.Assign [.Subscript o i pos'] value pos) (aiQ ki ty ho):=by
 intro ah s σ H D I h;refine wpAny_Assign_Subscript (ct (a5 ah s σ H _ I h) λr s1 ⟨v,H1,bE,b9,aO⟩=>ct (aE ah s1 σ H1 _ bE aO) λu s2 ⟨x,ba,ck,a3,bb⟩=>ct (aS ah s2 σ ba _ ck bb) λew s3 ⟨y,c_,ef,bK,a,jF,ex,g,cQ⟩=>?_) av;subst ex;obtain rfl:u=Value.ref a:=a3;exact P8 bj ef g bK b9 λs4 iy=>⟨σ,jF,iy,cQ⟩
def agT{op:Operator}{ig:V->V->aA->dx->Prop}(bj:X.A.units+1<cLine)(aE:bO X o ki)(aS:bO X i ty)(a5:bO X value ho)(Gr:DQ X op ig)
  (ax:∀dU ew new,augStore i dU ew new=(do holding [new,dU,ew] (setItem dU ew new);release [new,dU,ew] [];pure .next)):ky X (.AugAssign (.Subscript o i Jg) op value pos) (aiR ki ty ho ig):=by
 intro ah s σ H D I h;refine wpAny_AugAssign_SubscriptAny (ct (aE ah s σ H _ I h) λu s1 ⟨x,H1,bE,a3,aO⟩=>ct (aS ah s1 σ H1 _ bE aO) λew s2 ⟨y,ba,ck,bK,a,v,ex,g,bb⟩=>?_) ax;subst ex;obtain rfl:u=Value.ref a:=a3;refine P9 bj ck g bK λf7 s3 ef kh=>ct (a5 ah s3 σ ba _ ef bb) λuS s4 ⟨o8,c_,iy,abo,cQ⟩=>ct (Gr ah s4 σ c_ v o8 f7 uS _ iy kh abo cQ) λBV s5 ⟨z,jF,pN,uK,gY,m4,gI⟩=>?_;exact P8 bj pN m4 bK uK λdK ajW=>⟨σ,gY,ajW,gI⟩
end
def agr{P:cR}{w:cu}{H:aA}(h:b0)(ae:sysModules<h.objs.size):h4 P w H (h.push {cls:=.type "dict",data:=.dict #[]}) h.objs.size (.du []):=
 ⟨kP _,beq_eq_false_iff_ne.mpr (Ne.symm (fD ae)),[],.nil,Heap.DictOf.new h⟩
noncomputable def zv:List (TE×TE)->St->aA->(List (V×V)->aA->Prop)->Prop
  | [],_,H,Q=>Q [] H
  | (tk,ho)::r,σ,H,Q=>tk σ H λx H1=>ho σ H1 λy ba=>zv r σ ba λps c_=>Q ((x,y)::ps) c_
abbrev LV:List (V×V)->List (ao×ao)->Prop:=Paired λp q=>RelV p.1 q.1/\RelV p.2 q.2
noncomputable def wz(X:bh)(pos:Pos)(keys:List (Option bf))(values:List bf)(qh:List (TE×TE)):Prop:=
 ∀(ah:List (aj×Obj)) (s:aP) (σ:St) (H:aA) (Q:List (V×V)->aA->Prop),Inv X ah σ H s->zv qh σ H Q ->
  bG (bR X.prog X.w) X.A (evalPairs (pairTrees keys values X.env pos)) (λvs s'=>∃ps ai,Inv X ah σ ai s'/\LV ps vs/\Q ps ai) X.d1 s
def Q9{X:bh}{pos:Pos}:wz X pos [] [] []:=λah s σ H Q I h=>pairTrees_nil_walk ⟨[],H,I,.nil,h⟩
def Ky{X:bh}{pos:Pos}{k v:bf}{bc:List (Option bf)}{vs:List bf}{tk ho:TE}{qh:List (TE×TE)}(aH:bO X k tk)(a5:bO X v ho)(ar:wz X pos bc vs qh):
  wz X pos (some k::bc) (v::vs) ((tk,ho)::qh):=λah s σ H Q I h=>
 pairTrees_cons_walk (ct (aH ah s σ H _ I h) λu s1 ⟨x,H1,bE,a3,aO⟩=>ct (a5 ah s1 σ H1 _ bE aO) λuS s2 ⟨y,ba,ck,bK,bb⟩=>
  ct (ar ah s2 σ ba _ ck bb) λws s3 ⟨ps,c_,ef,rel,cQ⟩=>⟨(x,y)::ps,c_,ef,.cons ⟨a3,bK⟩ rel,cQ⟩)
noncomputable def ou(kvs more:List (Key×V)):List (Key×V):=more.foldl (λacc cJ=>putK acc cJ.1 cJ.2) kvs
def fU.merge:∀{more:List (Key×V)} {rs:List (Key×ao)} {kvs:List (Key×V)} {vs:List (Key×ao)},fU more rs->fU kvs vs->fU (ou kvs more) (merged vs rs):=by
 intro more rs kvs vs r;unfold fU at r
 induction r generalizing kvs vs with
|nil=>intro q;exact q
| @cons p q ps n9 h t b2=>
  intro kg;have e:fU (putK kvs p.1 p.2) (stored vs q.1 q.2):=by
   have:=kg.put p.1 h.2;rw[<- h.1];exact this
  exact b2 e
theorem OX:∀(more kvs:List (Key×V)),(ou kvs more).length<=kvs.length+more.length
| [],kvs=>by show kvs.length<=kvs.length+0;omega
|p::r,kvs=>by
  have af:=OX r (putK kvs p.1 p.2);have ak:=JU kvs p.1 p.2;show (ou (putK kvs p.1 p.2) r).length<=_;rw[hF];omega
theorem PG{P:cR}{w:cu}:∀{kvs:List (Key×V)} {ws:List (ao×ao)},LV (kvs.map λcJ=>(ei cJ.1,cJ.2)) ws->∃rs,Carries (fu P w) ws rs/\fU kvs rs
| [],_,r=>by rw[jS] at r;cases r;exact⟨[],True.intro,.nil⟩
|p::kvs,_,r=>by
  rw[dk] at r;cases r with
  | @cons a b as bs h t=>
   obtain⟨rs,c,q⟩:=PG (P:=P) (w:=w) t;obtain⟨bW,b6⟩:=b;exact⟨(p.1,b6)::rs,⟨we h.1,rfl,c⟩,.cons ⟨rfl,h.2⟩ q⟩
noncomputable def aiG(qh:List (TE×TE)):TE:=λσ H Q=>∀p,H p=none->zv qh σ (upd H p (.du [])) λps ba=>ba p=some (.du [])/\∃kvs:List (Key×V),ps=kvs.map (λcJ=>(ei cJ.1,cJ.2))/\kvs.length<=15/\Q (.ref p) (upd ba p (.du (ou [] kvs)))
def Ra{X:bh}{pos:Pos}{keys:List (Option bf)}{values:List bf}{qh:List (TE×TE)}(h:wz X pos keys values qh)(sJ:keys.all (·.isSome)=true)(aw:keys.length=values.length)(h0:keys≠[])
  (wX:keys.length<=15):bO X (.Dict keys values pos) (aiG qh):=by
 intro ah s σ H Q I q;have a8:=I.b'.fresh (el s.heap.objs.size);have bE:=I.laid (a:=s.heap.objs.size) (o:=.du []) (h':=s.heap.push {cls:=.type "dict",data:=.dict #[]}) (t':=s.toks) (λ_ _ q=>dq _ q) (el _) (agr s.heap I.big);refine wpAny_Dict_walk (knd:=fu X.prog X.w) sJ aw h0 wX (ct (h ah _ σ _ _ bE (q _ a8)) λws s2 ⟨ps,ba,ck,rel,e,kvs,ep,lk,bb⟩=>?_);subst ep;obtain⟨rs,c,uJ⟩:=PG (P:=X.prog) (w:=X.w) rel;obtain⟨z,hd,ajJ,kg,dO⟩:=Sz ck.b' e;cases kg;refine⟨rs,c,dO,λh' sy av=>⟨.ref s.heap.objs.size,_,?_,rfl,bb⟩⟩;have aq:(ou [] kvs).length<=cF:=by
  have af:=OX kvs [];rw[tq] at af;rw[lr];omega
 have he:∃q,h'.get? s.heap.objs.size=some q:=let ⟨q,_,_,bt,_⟩:=sy;⟨q,bt⟩;exact K4 ck (by rw[e];exact True.intro) av he (Sb aq hd (uJ.merge .nil) sy)
structure M2(X:bh)(o:bf)(m:Str)(apos:Pos)(e f:bf)(dt:Pos):Prop where
 base:i5 o m X.env (eval o X.env)=eval o X.env
 oK:((dR dt (bB [e,f] X.env)).all (λx=>!x.1) && (l4 dt (l3 [] X.env)).all (λx=>x.1.isSome)
  && decide (([e,f]:List bf).length+([]:List Keyword).length+(if ([]:List Keyword).isEmpty then 0 else 1)<30))=true
 line:(apos.endLine==dt.line)=true
 trees:dR dt (bB [e,f] X.env)=[(false,eval e X.env),(false,eval f X.env)]
def LL(H:aA)(a:aj):Prop:=(∃kvs,eK H a (.du kvs))\/∃kvs,eK H a (.mW kvs)
def aim{X:bh}{ah:List (aj×Obj)}{σ:St}{H:aA}{s:aP}{a:aj}(I:Inv X ah σ H s)(d:LL H a):
  s.TypeIs (.ref a) "dict"/\(∀b,Value.ref a=.ref b->∃d6,s.heap.get? b=some d6/\d6.dict=none)/\(a==sysModules)=false:=by
 rcases d with ⟨kvs,e⟩|⟨kvs,e⟩
 ·obtain⟨_,hd,vs,_,dO⟩:=wi I.b' e;refine⟨dO.typeIs,λb q=>?_,hd⟩;cases q;obtain⟨d6,_,_,af,ak,_⟩:=dO;exact⟨d6,af,ak.2.1⟩
 ·obtain⟨_,hd,xs,_,dO⟩:=zN I.b' e;refine⟨dO.typeIs,λb q=>?_,hd⟩;cases q;obtain⟨d6,_,_,af,ak,_⟩:=dO;exact⟨d6,af,ak.2.1⟩
section
variable {X:bh}{ah:List (aj×Obj)}{σ:St}{H:aA}{s:aP}{a:aj}{y d:V}{u r:ao}{o:Option V}{A:c9}{E:ao->aP->Prop}
def ais{Q:ao->aP->Prop}(bj:A.units+1<cLine)(I:Inv X ah σ H s)(g:me H a y o)(bK:RelV y u)(ig:RelV d r)(h:∀f7 s',Inv X ah σ H s'->RelV (o.getD d) f7->Q f7 s'):
  bG (bR X.prog X.w) A (call (.builtin "dict.get") [.ref a,u,r]) Q E s:=by
 rcases g with ⟨kvs,k,e,eQ,l⟩|⟨kvs,k,b,e,eQ,c',l⟩
 ·subst eQ;obtain⟨z,hd,vs,rel,dO⟩:=wi I.b' e;refine call_meetsIn PySem.F.slot_dict_get dO.typeIs PySem.F.entry_dict_get (PySem.F.args_dict_get_3 _ _ _) (meets_dict_get_default (fu X.prog X.w) a (we bK) hd r) ⟨_,dO.mapOf,h _ _ (I.tok _) ?_⟩;rw[l];exact (rel.val k).getD ig
 ·subst eQ;cases (show u=Value.ref b from bK);obtain⟨z,hd,xs,rel,dO⟩:=zN I.b' e;refine call_meetsIn PySem.F.slot_dict_get dO.typeIs PySem.F.entry_dict_get (PySem.F.args_dict_get_3 _ _ _) (meetsH_dict_get_default (tupleKind (fu X.prog X.w)) a b hd r) ⟨tupleKind_room_in1 bj,k,xs,DA I.b' c',dO,h _ _ (I.tok _) ?_⟩;rw[l];exact (rel.val k).getD ig
end
end bo
end
section
namespace D
open PySem PySem.Spec PyProof.Rows bo
variable [c2]
def aid{K:bl}{F:aj->Prop}{H:aA}{a:aj}{o o':eW}(a8:¬F a)(ax:H a=some o)(aH:(∃xs,o=.lst xs)\/∃xs,o=.du xs):eG K F H F (upd H a o'):=by
 refine⟨λb xs q=>?_,λb xs f q=>⟨f,?_⟩⟩
 ·rcases q with q|q
  ·refine .inl ?_
   have nb:b≠a:=by
    rintro rfl;rcases q with q|⟨_,q⟩
    ·rw[ax] at q;cases q;rcases aH with ⟨_,z⟩|⟨_,z⟩ <;> cases z
    ·rw[ax] at q;cases q;rcases aH with ⟨_,z⟩|⟨_,z⟩ <;> cases z
   rcases q with q|⟨u,q⟩
   ·exact .inl (by rw[cI nb];exact q)
   ·exact .inr ⟨u,by rw[cI nb];exact q⟩
  ·exact .inr q
 ·have nb:b≠a:=by
   rintro rfl;exact a8 f
  rcases q with q|⟨u,q⟩
  ·exact .inl (by rw[cI nb];exact q)
  ·exact .inr ⟨u,by rw[cI nb];exact q⟩
section
variable {K:bl}{F:aj->Prop}{H:aA}
theorem eL.get{k:D.Key}{t:T}:∀{kvs:List (D.Key×T)} {vs:List (D.Key×V)},eL K F H kvs vs->D.getD kvs k=some t->∃v,hV vs k=some v/\Rep K F H t v
| [],vs,h,e=>by cases e
|p::r,vs,h,e=>by
  obtain⟨v,w,rfl,q,z⟩:=h;simp only[D.getD,hV,l1] at e ⊢;by_cases bT:p.1=k
  ·simp[bT] at e ⊢;subst e;exact q
  ·simp[bT] at e ⊢;have:=eL.get (k:=k) (t:=t) z (by simpa [D.getD] using e);simpa [hV] using this
theorem eL.length:∀{kvs:List (D.Key×T)} {vs:List (D.Key×V)},eL K F H kvs vs->kvs.length=vs.length
| [],vs,h=>by
  have:vs=[]:=h;subst this;rfl
|p::r,vs,h=>by
  obtain⟨v,w,rfl,q,z⟩:=h;simp[eL.length z]
theorem eL.append:∀{kvs us:List (D.Key×T)} {vs ws:List (D.Key×V)},eL K F H kvs vs->eL K F H us ws->eL K F H (kvs++us) (vs++ws)
| [],us,vs,ws,h,r=>by
  have:vs=[]:=h;subst this;exact r
|p::q,us,vs,ws,h,r=>by
  obtain⟨v,w,rfl,ed,z⟩:=h;exact⟨v,w++ws,rfl,ed,eL.append z r⟩
theorem eL.H'{k:D.Key}{t:T}{v:V}:∀{kvs:List (D.Key×T)} {vs:List (D.Key×V)},eL K F H kvs vs->Rep K F H t v->eL K F H (kvs.map λp=>if p.1=k then (k,t) else p) (vs.map λcJ=>if cJ.1=k then (cJ.1,v) else cJ)
| [],vs,h,q=>by
  have:vs=[]:=h;subst this;rfl
|p::r,vs,h,q=>by
  obtain⟨kI,w,rfl,ed,z⟩:=h;simp only[dk];by_cases e:p.1=k
  ·rw[if_pos e,if_pos e];exact⟨v,_,by rw[e],q,eL.H' z q⟩
  ·rw[if_neg e,if_neg e];exact⟨kI,_,rfl,ed,eL.H' z q⟩
def eL.put{k:D.Key}{t:T}{v:V}{kvs:List (D.Key×T)}{vs:List (D.Key×V)}(h:eL K F H kvs vs)(q:Rep K F H t v):eL K F H (putD kvs k t) (putK vs k v):=by
 have ax:(kvs.any λp=>decide (p.1=k))=(vs.any λcJ=>decide (cJ.1=k)):=by
  clear q
  induction kvs generalizing vs with
  |nil=>
   have:vs=[]:=h;subst this;rfl
  |cons p r b2=>
   obtain⟨v,w,rfl,ed,z⟩:=h;simp only[List.any_cons,b2 z]
 unfold putD putK;rw[ax];split
 ·exact eL.H' h q
 ·exact h.append ⟨v,[],rfl,q,rfl⟩
def rV{t:T}{k:D.Key}{v:V}{O:aj->Prop}(e:keyOf t=some k)(r:gr K O F H t v):v=ei k:=by
 unfold keyOf at e;split at e
 ·cases e
  exact r.int
 ·cases e
  exact r.str
 ·cases e
end
end D
end
section
namespace D
open PySem
variable [c2]
end D
end
section
namespace D
open PySem PySem.Spec PyProof.Rows bo
section
variable [c2]
theorem RV{α β:Type}{R:α->β->Prop}:∀{l:List α} {bc:List β},Paired R l bc->l.length=bc.length
|_,_,.nil=>rfl
|_,_,.cons a b=>by simp[RV b]
section
variable {prog:cR}{w:cu}{K:Type}[DecidableEq K](knd:PySem.KeyKind prog w K)
variable {knd}{A:c9}{E:ao->aP->Prop}{s:aP}
noncomputable def t8(knd:PySem.KeyKind prog w K)(v:ao)(k:K):Prop:=knd.is k v=true/\v.scannable=true
end
end
section
variable [c2]
section
variable {prog:cR}{w:cu}{K:Type}[DecidableEq K]{knd:PySem.KeyKind prog w K}{A:c9}{E:ao->aP->Prop}{s:aP}{a:aj}{bc:List K}
def aei{R:List ao->aP->Prop}{T:String}{r d:aj}{n:Nat}{P:Nat->ao->Prop}{se:b0->Prop}(W:PySem.W.KdlSrc prog w T r d n P se)(da:A.handled=none)(b':se s.heap)(a8:n<=cF)
  (h:∀(h':b0) (tk:Nat) (acc:Array ao),(∀b o,s.heap.get? b=some o->h'.get? b=some o)->s.heap.objs.size<=h'.objs.size->ItemsOf P acc n->R acc.toList {s with heap:=h',toks:=tk}):
  bG (bR prog w) A (collect (.ref r)) R E s:=by
 have eZ:=W.there _ b';unfold collect;refine a7 (wpAny_runValue (u3 entry_proto_collect' ?_));rw[uZ PySem.F.plain_proto_collect _];show bG _ A.in1 (newList [] >>= λl=>again (.builtin "list.__iadd__" ⟨[l,.ref r],[]⟩)) _ _ s;refine a7 (qt ?_);refine cH ⟨plainId_quiet PySem.F.plain_list_iadd _,u3 entry_list_iadd' ?_⟩;rw[uZ PySem.F.plain_list_iadd _];have Xm:(s.heap.push {cls:=.type "list",data:=.seq ([]:List ao).toArray}).get? s.heap.objs.size=some {cls:=.type "list",data:=.seq #[]}:=hX _ rfl;show bG _ A.in1 (Builtin.List.listExtendWith (.ref s.heap.objs.size) (.ref r) (.ref s.heap.objs.size)) _ _ _;have key:=PySem.W.kdl_extend (A:=A) (s:={s with heap:=s.heap.push {cls:=.type "list",data:=.seq ([]:List ao).toArray} })
  (R:=λ(q:Result) (s':aP)=>∃(h':b0) (tk:Nat) (q1:Array ao) (dY:Nat),q=.ok (.ret (.ref s.heap.objs.size))/\s'={s with heap:=h',toks:=tk} /\
   (∀b o,s.heap.get? b=some o->h'.get? b=some o)/\h'.get? s.heap.objs.size=some {cls:=.type "list",dict:=none,data:=.seq q1 dY,slots:=#[]}/\ItemsOf P q1 n)
  W da (W.keep _ _ b' λb _ o e=>dq _ e) s.heap.objs.size (hY eZ.1) (hY eZ.2) (.ref s.heap.objs.size) 0 Xm
  (λh' tk q1 dY aH sI mm=>⟨h',tk,q1,dY,rfl,rfl,λb o e=>aH b o (fD (c8 e)) (dq _ e),sI,mm⟩) a8
 refine gv key (λfin s' x=>?_) λe s' x=>?_
 ·cases fin with
  |done f=>
   obtain⟨h',tk,q1,dY,e,rfl,aH,sI,mm⟩:=x;cases e;show bG _ A (load s.heap.objs.size >>= _) _ _ _;refine a7 (wpAny_load sI ?_);exact cH (h h' tk q1 aH (Nat.le_of_lt (c8 sI)) mm)
  |again c₁=>
   refine⟨x.1,codeAny_mono x.2 λq ng y=>?_⟩
   obtain⟨h',tk,q1,dY,rfl,rfl,aH,sI,mm⟩:=y;show bG _ A (load s.heap.objs.size >>= _) _ _ _;refine a7 (wpAny_load sI ?_);exact cH (h h' tk q1 aH (Nat.le_of_lt (c8 sI)) mm)
 ·obtain⟨_,_,_,_,bT,_⟩:=x;cases bT
end
end
section
variable [c2]
theorem JN{α:Type}{r:α->α->Prop}(LX:∀a b,r a b->r b a->a=b):∀{l m:List α},l.Perm m->l.Pairwise r->m.Pairwise r->l=m
| [],m,p,_,_=>(List.Perm.nil_eq p)
|a::l,m,p,af,ak=>by
  cases m with
  |nil=>exact absurd p.length_eq (by simp)
  |cons b m=>
   have Xn:a=b:=by
    have ax:a∈b::m:=p.mem_iff.mp (by simp);have ae:b∈a::l:=p.mem_iff.mpr (by simp);rcases cZ.mp ax with q|q
    ·exact q
    ·rcases cZ.mp ae with z|z
     ·exact z.symm
     ·exact LX a b ((nk.mp af).1 b z) ((nk.mp ak).1 a q)
   subst Xn;rw[JN LX (List.perm_cons a |>.mp p) (nk.mp af).2 (nk.mp ak).2]
theorem insI_perm(x:Int):∀l:List Int,(insI x l).Perm (x::l)
| []=>.rfl
|y::ys=>by
  unfold insI;split
  ·exact .rfl
  ·exact ((insI_perm x ys).cons y).trans (.swap _ _ _)
theorem sortI_perm:∀l:List Int,(sortI l).Perm l
| []=>.rfl
|x::xs=>(insI_perm x _).trans ((sortI_perm xs).cons x)
theorem Rn(x:Int):∀{l:List Int},l.Pairwise (·<=·)->(insI x l).Pairwise (·<=·)
| [],_=>by simp[insI]
|y::ys,h=>by
  unfold insI;have h':=nk.mp h;split
  next q=>exact nk.mpr ⟨λz aq=>by
   rcases cZ.mp aq with rfl|aq
   ·exact q
   ·exact Int.le_trans q (h'.1 z aq),h⟩
  next q=>exact nk.mpr ⟨λz aq=>by
   rcases cZ.mp ((insI_perm x ys).mem_iff.mp aq) with rfl|aq
   ·omega
   ·exact h'.1 z aq,Rn x h'.2⟩
theorem Kt:∀l:List Int,(sortI l).Pairwise (·<=·)
| []=>.nil
|x::xs=>Rn x (Kt xs)
def Qy{l m:List Int}(p:l.Perm m)(h:l.Pairwise (·<=·)):l=sortI m:=JN (λa b af ak=>Int.le_antisymm af ak) (p.trans (sortI_perm m).symm) h (Kt m)
def ad5{l m:List Int}(p:l.Perm m):sortI l=sortI m:=Qy ((sortI_perm l).trans p) (Kt l)
abbrev jq(x y:Str):Prop:=strLt y x=false
def afN(x y:Str):strLt x y=ltCps x.cps.toList y.cps.toList:=(ltCps_eq _ _).symm
def ae7{x y:Str}(h:strLt x y=true):jq x y:=by
 unfold jq strLt at *;simp only[decide_eq_true_eq,decide_eq_false_iff_not] at *;exact List.lt_asymm h
def PS{x y z:Str}(af:jq x y)(ak:jq y z):jq x z:=by
 unfold jq strLt at *;simp only[decide_eq_false_iff_not] at *;exact List.not_lt.mpr (List.le_trans (List.not_lt.mp af) (List.not_lt.mp ak))
def afU{x y:Str}(af:jq x y)(ak:jq y x):x=y:=by
 unfold jq strLt at *;simp only[decide_eq_false_iff_not] at *;have e:x.cps.toList=y.cps.toList:=List.le_antisymm (List.not_lt.mp af) (List.not_lt.mp ak);cases x;cases y;simp only[Array.toList_inj] at e;exact congrArg _ e
theorem Ki(x:Str):∀l:List Str,(s6 x l).Perm (x::l)
| []=>.rfl
|y::ys=>by
  unfold s6;split
  ·exact .rfl
  ·exact ((Ki x ys).cons y).trans (.swap _ _ _)
theorem om:∀l:List Str,(eD l).Perm l
| []=>.rfl
|x::xs=>(Ki x _).trans ((om xs).cons x)
theorem Rm(x:Str):∀{l:List Str},l.Pairwise jq->(s6 x l).Pairwise jq
| [],_=>by simp[s6]
|y::ys,h=>by
  unfold s6;have h':=nk.mp h;split
  next q=>
   have ed:jq x y:=by simpa [jq] using q
   exact nk.mpr ⟨λz aq=>by
    rcases cZ.mp aq with rfl|aq
    ·exact ed
    ·exact PS ed (h'.1 z aq),h⟩
  next q=>
   have ed:strLt y x=true:=by simpa using q
   exact nk.mpr ⟨λz aq=>by
    rcases cZ.mp ((Ki x ys).mem_iff.mp aq) with rfl|aq
    ·exact ae7 ed
    ·exact h'.1 z aq,Rm x h'.2⟩
theorem C4:∀l:List Str,(eD l).Pairwise jq
| []=>.nil
|x::xs=>Rm x (C4 xs)
def Ks{l m:List Str}(p:l.Perm m)(h:l.Pairwise jq):l=eD m:=JN (λa b af ak=>afU af ak) (p.trans (om m).symm) h (C4 m)
def O_{l m:List Str}(p:l.Perm m):eD l=eD m:=Ks ((om l).trans p) (C4 l)
theorem Pt:∀(l:List Str) (p:Str),risingS p l=true->(p::l).Pairwise jq
| [],p,_=>by simp
|x::r,p,h=>by
  simp only[risingS,hZ,Bool.not_eq_true'] at h;have b2:=Pt r x h.2;have Ni:jq p x:=by
   unfold jq;rw[afN];exact h.1
  refine nk.mpr ⟨λz aq=>?_,b2⟩
  rcases cZ.mp aq with rfl|aq
  ·exact Ni
  ·exact PS Ni ((nk.mp b2).1 z aq)
def aep{l:List Str}(h:sortedS l=true):l.Pairwise jq:=by
 cases l with
|nil=>exact .nil
|cons x r=>exact Pt r x h
end
section
variable [c2]
section
variable {prog:cR}{w:cu}{A:c9}{E:ao->aP->Prop}{s:aP}
inductive wA:List ao->List ao->Prop where
|IF {vs out:List ao} {ns:List Int}:IntsAre vs ns->IntsAre out (sortI ns)->wA vs out
|IG {vs out:List ao} {ss:List Str}:StrsAre vs ss->StrsAre out (eD ss)->wA vs out
noncomputable def KO(vs:List ao):Prop:=vs.length<64/\((∃ns,IntsAre vs ns)\/∃ss,StrsAre vs ss)
def sortedHeap_at{h:b0}{a:aj}{vs:List ao}{n:Nat}{out:Array ao}(aE:h.get? a=some (seqObj "list" vs.toArray n)):
  (∃e,(sortedHeap h a vs out).get? a=some (seqObj "list" out e))/\∀b o,b≠a->h.get? b=some o->(sortedHeap h a vs out).get? b=some o:=by
 have eZ:=c8 aE;unfold sortedHeap;refine⟨?_,λb o ae e=>?_⟩
 ·have af:=get?_update_seq aE (λ_=>(#[]:Array ao));have ak:=dq (seqObj "tuple" vs.toArray 0) af;have bA:=dq (seqObj "list" #[] 0) ak;exact⟨_,get?_update_seq bA (λ_=>out)⟩
 ·rw[yc _ _ (Ne.symm ae)];exact dq _ (dq _ ((yc _ _ (Ne.symm ae)).trans e))
def ae2{a:aj}{vs:List ao}{n:Nat}{P:Fin->aP->Prop}(aE:s.heap.get? a=some (seqObj "list" vs.toArray n))(av:KO vs)
  (h:∀out:Array ao,wA vs out.toList->P (.done (.ret .none)) {s with heap:=sortedHeap s.heap a vs out}):bG (bR prog w) A (Builtin.«list.sort» ⟨[.ref a],[]⟩) P E s:=by
 obtain⟨M0,⟨ns,q'⟩|⟨ss,fz⟩⟩:=av
 ·refine list_sort_tree aE q' M0 λout Iz a1 a2 iC=>h out (.IF q' ?_)
  rw[<- Qy a2 iC];exact a1
 ·refine list_sort_treeK strKind_oneLt aE fz.keysOf (λajK ajL rest e=>keyKind_strs (by rw[<- e];exact fz)) M0 λlg aC av=>?_
  obtain⟨ti,af,ak,bA⟩:=sorted_out_str fz aC av;refine h _ (.IG fz ?_);rw[<- Ks ak (aep bA)];exact af
def ad4{r:aj}{C:List ao->Prop}{Q:ao->aP->Prop}
  (Xy:∀(qR:ao->aP->Prop) (R:List ao->aP->Prop),(∀h' tk d vs,(∀b o,s.heap.get? b=some o->h'.get? b=some o)->s.heap.objs.size<=h'.objs.size->C vs->R vs {s with heap:=h',toks:=tk,drawn:=d})->bG (bR prog w) A.in1 (collect (.ref r)) R qR s)
  (Xg:∀vs,C vs->KO vs)
  (h:∀h' tk d D e vs out,C vs->wA vs out->(∀b o,s.heap.get? b=some o->h'.get? b=some o)->s.heap.objs.size<=D->h'.get? D=some (seqObj "list" out.toArray e)->Q (.ref D) {s with heap:=h',toks:=tk,drawn:=d}):
  bG (bR prog w) A (call (.builtin "sorted") [.ref r]) Q E s:=by
 refine Calls.call_function_entry kind_sorted plain_sorted entry_sorted (args_sorted1 _) ?_
 unfold Builtin.«sorted»;refine a7 (m:=checkCount "sorted" 1 1 _) (cH ?_);refine a7 (Xy _ _ λh' tk d vs az hsz c=>?_);have av:=Xg vs c;have aq:vs.length<=cF:=by
  have:=av.1;rw[lr];omega
 refine a7 (wpAny_newList ?_ aq)
 have w':(h'.push (seqObj "list" vs.toArray 0)).get? h'.objs.size=some (seqObj "list" vs.toArray 0):=hX _ rfl;refine a7 (mG (pe slot_list_sort ⟨_,w',rfl⟩ entry_list_sort (ae2 w' av λout uL=>⟨_,rfl,?_⟩) (args_list_sort _)));obtain⟨⟨e,he⟩,aH⟩:=sortedHeap_at (out:=out) w';refine cH ⟨_,rfl,?_⟩;exact h _ tk d h'.objs.size e vs out.toList c uL (λb o q=>aH b o (fD (c8 (az b o q))) (dq _ (az b o q))) hsz he
end
section
variable {X:bh}{ah:List (aj×Obj)}{σ:bo.St}{H:aA}{s:aP}
def Kg{a:aj}{o:eW}{t':Nat}{d':Drawn}{h':b0}(I:Inv X ah σ H s)(k:∀b u,s.heap.get? b=some u->h'.get? b=some u)(aC:s.heap.objs.size<=a)(new:h4 X.prog X.w (upd H a o) h' a o):
  Inv X ah σ (upd H a o) {s with heap:=h',toks:=t',drawn:=d'}:=
 I.call (ch:=[]) (g':=s.gens) (hM.laid k aC (I.b'.fresh aC)) (I.b'.laid k aC new) I.bare λ_ z=>nomatch z
theorem Kh:∀{us:List ao} {ns:List Int},IntsAre us ns->Vals (ns.map V.int) us
|_,_,.nil=>.nil
|_,_,.cons n t r=>.cons ⟨t,rfl⟩ (Kh r)
theorem J_:∀{us:List ao} {ss:List Str},StrsAre us ss->Vals (ss.map V.str) us
|_,_,.nil=>.nil
|_,_,.cons n t r=>.cons ⟨t,rfl⟩ (J_ r)
theorem J9:∀{us:List ao} {bc:List bo.Key},Vals (bc.map ei) us->Paired (t8 (fu X.prog X.w)) us bc
| [],[],_=>.nil
|_,.inl i::bc,.cons r rs=>by
  obtain⟨t,rfl⟩:=r;exact .cons ⟨Pc _ _ i t,rfl⟩ (J9 rs)
|_,.inr x::bc,.cons r rs=>by
  obtain⟨t,rfl⟩:=r;exact .cons ⟨Pb _ _ x t,rfl⟩ (J9 rs)
theorem Kf:∀{us:List ao} {bc:List bo.Key} {ns:List Int},Paired (t8 (fu X.prog X.w)) us bc->bc=ns.map Sum.inl->IntsAre us ns
|_,_,[],.nil,_=>.nil
|_,_,n::ns,.cons a b,e=>by
  cases e
  have a1:=a.1;rw[Py] at a1;rcases l6 a1 with ⟨i,t,aQ,rfl⟩|⟨x,t,aQ,rfl⟩
  ·cases aQ
   exact .cons _ t (Kf b rfl)
  ·cases aQ
theorem Kd:∀{us:List ao} {bc:List bo.Key} {ss:List Str},Paired (t8 (fu X.prog X.w)) us bc->bc=ss.map Sum.inr->StrsAre us ss
|_,_,[],.nil,_=>.nil
|_,_,n::ns,.cons a b,e=>by
  cases e
  have a1:=a.1;rw[Py] at a1;rcases l6 a1 with ⟨i,t,aQ,rfl⟩|⟨x,t,aQ,rfl⟩
  ·cases aQ
  ·cases aQ
   exact .cons _ t (Kd b rfl)
def CE{α β:Type}(f:α->β):∀{l:List α} {m:List β},m.Perm (l.map f)->∃eX:List α,m=eX.map f/\eX.Perm l:=by
 intro l m p;generalize hx:l.map f=lf at p
 induction p generalizing l with
|nil=>
  rw[List.map_eq_nil_iff] at hx;subst hx;exact⟨[],rfl,.rfl⟩
|cons x _ b2=>
  cases l with
  |nil=>cases hx
  |cons a r=>
   simp only[dk,List.cons.injEq] at hx;obtain⟨eX,e,q⟩:=b2 hx.2;exact⟨a::eX,by rw[dk,hx.1,e],q.cons a⟩
|swap x y r=>
  match l,hx with
  |a::b::cw,hx=>
   simp only[dk,List.cons.injEq] at hx;exact⟨b::a::cw,by rw[dk,dk,hx.1,hx.2.1,hx.2.2],.swap _ _ _⟩
|trans _ _ bZ b3=>
  obtain⟨cb,aQ,aO⟩:=b3 hx;obtain⟨b_,a9,bb⟩:=bZ aQ.symm;exact⟨b_,a9,bb.trans aO⟩
noncomputable def v'(bc:List bo.Key)(ys:List V):Prop:=(∃ns:List Int,bc=ns.map Sum.inl/\ys=(sortI ns).map V.int)\/∃ss:List Str,bc=ss.map Sum.inr/\ys=(eD ss).map V.str
def afQ{vs out:List ao}{bc xt:List bo.Key}{ys:List V}(a5:Paired (t8 (fu X.prog X.w)) vs xt)(aC:xt.Perm bc)(uL:wA vs out)(aH:v' bc ys):Vals ys out:=by
 rcases aH with ⟨ns,rfl,rfl⟩|⟨ss,rfl,rfl⟩
 ·obtain⟨Iz,rfl,nY⟩:=CE Sum.inl aC;have q':=Kf a5 rfl;cases uL with
  |IF a b=>
   rename_i ms
   rw[<- ad5 nY,show Iz=ms from ?_]
   ·exact Kh b
   ·rw[<- IntsAre.numsOf q',<- IntsAre.numsOf a]
  |IG a b=>
   cases a with
   |nil=>
    cases q'
    have:ns=[]:=List.Perm.eq_nil nY.symm;subst this;exact J_ b
   |cons x t _=>cases q'
 ·obtain⟨ti,rfl,nY⟩:=CE Sum.inr aC;have fz:=Kd a5 rfl;cases uL with
  |IG a b=>
   rename_i ms
   rw[<- O_ nY,show ti=ms from ?_]
   ·exact J_ b
   ·rw[<- StrsAre.strs fz,<- StrsAre.strs a]
  |IF a b=>
   cases a with
   |nil=>
    cases fz
    have:ss=[]:=List.Perm.eq_nil nY.symm;subst this;exact Kh b
   |cons x t _=>cases fz
def adG{vs:List ao}{bc xt:List bo.Key}{ys:List V}(aq:bc.length<64)(a5:Paired (t8 (fu X.prog X.w)) vs xt)(aC:xt.Perm bc)(aH:v' bc ys):KO vs:=by
 refine⟨by rw[RV a5,aC.length_eq];exact aq,?_⟩
 rcases aH with ⟨ns,rfl,_⟩|⟨ss,rfl,_⟩
 ·obtain⟨Iz,rfl,_⟩:=CE Sum.inl aC;exact .inl ⟨_,Kf a5 rfl⟩
 ·obtain⟨ti,rfl,_⟩:=CE Sum.inr aC;exact .inr ⟨_,Kd a5 rfl⟩
def ae3{bc:List bo.Key}{ys:List V}(h:v' bc ys):ys.length=bc.length:=by
 rcases h with ⟨ns,rfl,rfl⟩|⟨ss,rfl,rfl⟩
 ·simp[(sortI_perm ns).length_eq]
 ·simp[(om ss).length_eq]
theorem Rg:∀{kvs:List (bo.Key×V)} {vs:List (bo.Key×ao)},fU kvs vs->kvs.map (·.1)=vs.map (·.1)
|_,_,.nil=>rfl
|_,_,.cons a b=>by simp[a.1,Rg b]
def O7(aD:X.calm=true):mc X (.builtin "sorted") (λxs H Q=>∃p bc ys,xs=[.ref p]/\f_ X.K H p (bc.map ei)/\bc.length<64/\v' bc ys/\∀l,H l=none->Q (.ref l) (upd H l (.lst ys))):=by
 intro ah s σ H xs us Q I r h;obtain⟨p,bc,ys,rfl,bt,aq,aH,q⟩:=h;obtain⟨u,rfl,a3⟩:=vals1 r;cases a3;obtain⟨its,cw,pl,n2⟩:=I.list bt;have hlen:=cw.length;rw[gk] at hlen;have hit:Paired (t8 (fu X.prog X.w)) its bc:=J9 (by simpa using cw);refine ad4 (C:=λus=>us=its) (λqR R sH=>collect_list pl.isList (sH _ s.toks s.drawn its (λb o e=>?_) ?_ rfl) (by rw[lr];omega)) (λus bj=>by subst bj;exact adG aq hit .rfl aH) λh' tk d D e us out bj uL az iZ he=>?_
 ·exact (yc _ _ (hY (c8 e))).trans (dq _ e)
 ·rw[Heap.size_update,kL];exact pa _
 ·subst bj;exact⟨.ref D,_,Kg I (o:=.lst ys) az iZ ⟨by rw[ae3 aH,lr];omega,out,e,afQ hit .rfl uL aH,he⟩,rfl,q _ (I.b'.fresh iZ)⟩
end
end
section
variable [c2]
theorem P5:∀{ts:List T} {ns:List Int},intsOf ts=some ns->ts=ns.map .int
| [],ns,e=>by
  cases e
  rfl
|t::ts,ns,e=>by
  unfold intsOf at e;split at e
  ·rename_i h
   cases h
  ·rename_i h
   cases h
   simp only[dN] at e;obtain⟨r,aQ,rfl⟩:=e;rw[P5 aQ];rfl
  ·cases e
theorem vu:∀{ts:List T} {ss:List Str},strsOf ts=some ss->ts=ss.map .str
| [],ns,e=>by
  cases e
  rfl
|t::ts,ns,e=>by
  unfold strsOf at e;split at e
  ·rename_i h
   cases h
  ·rename_i h
   cases h
   simp only[dN] at e;obtain⟨r,aQ,rfl⟩:=e;rw[vu aQ];rfl
  ·cases e
section
variable {K:bl}{F:aj->Prop}{H:aA}
theorem J':∀(ns:List Int),bk K F H (ns.map .int) (ns.map V.int)
| []=>bk.nil
|n::ns=>bk.cons (by simp[Rep]) (J' ns)
theorem y5:∀(ns:List Str),bk K F H (ns.map .str) (ns.map V.str)
| []=>bk.nil
|n::ns=>bk.cons (by simp[Rep]) (y5 ns)
theorem Pu:∀{ns:List Int} {vs:List V},bk K F H (ns.map .int) vs->vs=ns.map V.int
| [],vs,h=>by simpa [bk] using h
|n::ns,vs,h=>by
  simp only[dk,bk,Rep] at h;obtain⟨v,r,rfl,rfl,z⟩:=h;rw[Pu z];rfl
theorem vp:∀{ns:List Str} {vs:List V},bk K F H (ns.map .str) vs->vs=ns.map V.str
| [],vs,h=>by simpa [bk] using h
|n::ns,vs,h=>by
  simp only[dk,bk,Rep] at h;obtain⟨v,r,rfl,rfl,z⟩:=h;rw[vp z];rfl
end
section
variable {X:bh}{a e:bf}{es:List bf}{f:bD}{ay:List bD}{p fB pos my:Pos}
def afY(aD:X.calm=true)(hm:X.mg "sorted"=none)(ax:pP X (e::es) ay)(br:fi X "sorted":=by rfl)(he:bB (e::es) X.env=(false,eval e X.env)::bB es X.env:=by rfl)(hpl:(dR pos (bB es X.env)).any (·.1)=false:=by rfl):
  cf X (.Call (.Name "sorted" p) (e::es) [] pos) (bV zr ay):=d7 (zc (O7 aD) br hm (by decide +kernel) ax (he:=he) (hpl:=hpl)) (zp (by
 intro O F H ts t vs Q d q e k;unfold zr at e;split at e
 next xs=>
  split at e
  next aq=>
   cases q with
   |cons aO bb=>
    cases bb
    obtain⟨n4,ws,rfl,aw,ar⟩:=aO.lst;have fin:∀(bc:List bo.Key) (ys:List V) (rs:List T),ws=bc.map ei->bc.length<64->v' bc ys->(∀aI ai,bk X.K aI ai rs ys)->t=.list rs ->
      ∃p bc ys,[V.ref n4]=[V.ref p]/\f_ X.K H p (bc.map ei)/\bc.length<64/\v' bc ys/\∀l,H l=none->Q (.ref l) (upd H l (.lst ys)):=by
     intro bc ys rs ev aH ic Gv bp;subst ev;subst bp;refine⟨n4,bc,ys,rfl,.inl aw,aH,ic,λl nW=>k _ _ _ (Ext.Br (o:=.lst ys) d nW) ?_⟩;simp only[Rep];exact⟨l,ys,rfl,.inr rfl,.inl dI,Gv _ _⟩
    split at e
    next ns a8=>
     have xf:=P5 a8;subst xf;cases e;exact fin (ns.map .inl) ((sortI ns).map V.int) _ (by rw[Pu ar];simp[ei,lp]) (by simpa using aq) (.inl ⟨ns,rfl,rfl⟩) (λ_ _=>J' _) rfl
    next a8=>
     simp only[dN] at e;obtain⟨ss,p8,e⟩:=e;have xf:=vu p8;subst xf;exact fin (ss.map .inr) ((eD ss).map V.str) _ (by rw[vp ar];simp[ei,lp]) (by simpa using aq) (.inr ⟨ss,rfl,rfl⟩) (λ_ _=>y5 _) e.symm
  next=>cases e
 next=>cases e))
end
end
section
variable [c2]
section
variable {X:bh}{a b e:bf}{es rest:List bf}{f g:bD}{ay:List bD}{p fB pos my:Pos}
def zw{op:BoolOp}(h:cf X a f):cf X (.BoolOp op [a] pos) f:=RU h
def zH{op:BoolOp}(h:cf X a f):cf X (.BoolOp op [a] pos) f:=RU h
def zI(ax:cf X a f)(ae:cf X (.BoolOp .And (b::rest) pos) g):cf X (.BoolOp .And (a::b::rest) pos) (jf f g):=d7 (ah2 ax ae) λσ H Q ⟨aB,aK,O,F,ε,t,r,e,k⟩=>by
 simp only[jf,b5] at e;obtain⟨x,ex,e⟩:=e;refine⟨aB,aK,O,F,ε,x,r,ex,λv aX H1 aJ a3=>?_⟩;split at e
 ·simp only[Rep] at a3;refine⟨true,a3,?_⟩;rw[if_pos rfl];exact⟨aB,aK,O,aX,ε,t,r.ext aJ,e,λv aI ai bq q=>k v aI ai (aJ.trans bq) q⟩
 ·cases e
  simp only[Rep] at a3;refine⟨false,a3,?_⟩;rw[if_neg (by decide)];exact k _ aX H1 aJ (by simp[Rep])
 ·cases e
def uH(ax:cf X a f)(ae:cf X (.BoolOp .Or (b::rest) pos) g):cf X (.BoolOp .Or (a::b::rest) pos) (i3 f g):=d7 (ai2 ax ae) λσ H Q ⟨aB,aK,O,F,ε,t,r,e,k⟩=>by
 simp only[i3,b5] at e;obtain⟨x,ex,e⟩:=e;refine⟨aB,aK,O,F,ε,x,r,ex,λv aX H1 aJ a3=>?_⟩;split at e
 ·simp only[Rep] at a3;refine⟨false,a3,?_⟩;rw[if_neg (by decide)];exact⟨aB,aK,O,aX,ε,t,r.ext aJ,e,λv aI ai bq q=>k v aI ai (aJ.trans bq) q⟩
 ·cases e
  simp only[Rep] at a3;refine⟨true,a3,?_⟩;rw[if_pos rfl];exact k _ aX H1 aJ (by simp[Rep])
 ·cases e
def aiX(ax:cf X a f):cf X (.UnaryOp .Not a pos) (tc f):=d7 (ahX ax) λσ H Q ⟨aB,aK,O,F,ε,t,r,e,k⟩=>by
 simp only[tc,b5] at e;obtain⟨x,ex,e⟩:=e;refine⟨aB,aK,O,F,ε,x,r,ex,λv aX H1 aJ a3=>?_⟩;split at e
 ·cases e
  simp only[Rep] at a3;exact⟨_,a3,k _ aX H1 aJ (by simp[Rep])⟩
 ·cases e
noncomputable def BQ(K:bl)(f:Ev->Option (Option Int)):cg:=λσ H Q=>∃aB aK O F ε i,cB K aB aK O F H ε σ/\f ε=some i/\∀aI ai,Ext F H aI ai->Q i ai
def Sj{x:Option bf}{t t':cg}(h:ajR X x t)(k:∀σ H Q,t' σ H Q->t σ H Q):ajR X x t':=λah s σ H Q I q=>h ah s σ H Q I (k σ H Q q)
def R3:ajR X none (BQ X.K optN):=Sj agV λσ H Q ⟨aB,aK,O,F,ε,i,r,e,k⟩=>by
 cases e
 exact k F H (Ext.refl r.cj)
def Dz(h:eo X a f):ajR X (some a) (BQ X.K (opt f)):=Sj (agU h) λσ H Q ⟨aB,aK,O,F,ε,i,r,e,k⟩=>by
 simp only[opt,b5] at e;obtain⟨x,ex,e⟩:=e;refine⟨aB,aK,O,F,ε,x,r,ex,λv aX H1 aJ a3=>?_⟩;split at e
 ·cases e
  exact⟨_,a3.int,k aX H1 aJ⟩
 ·cases e
noncomputable def abj(K:bl):V->Option Int->Option Int->aA->dx->Prop:=λx lo aS H Q=>∃a xs,x=.ref a/\de K H a xs/\(fL.c5 xs.length 0 lo=0/\fL.c5 xs.length xs.length aS=xs.length)/\Q (.ref a) H
def ac'{prog:cR}{w:cu}{A:c9}{E:ao->aP->Prop}{s:aP}{t dg:aj}{items:Array ao}{hW fs:ao}{lo aS:Option Int}{Q:ao->aP->Prop}(aR:IsTup s.heap t items)(av:s.heap.IsSliceOf dg hW fs .none)(pl:IsPart hW lo)(pu:IsPart fs aS)
  (hw:fL.c5 items.size 0 lo=0/\fL.c5 items.size items.size aS=items.size) (h:Q (.ref t) s):bG (bR prog w) A (getItem (.ref t) (.ref dg)) Q E s:=by
 obtain⟨os,p6,AO,aj9⟩:=id av;have F7:s.TypeIs (.ref dg) "slice":=⟨os,p6,AO⟩;unfold getItem
 try with_reducible refine mG ?_
 first|refine a7 (cH ?_)|skip
 refine a7 (wpAny_sequenceKey aR.typeIs (by decide) ?_)
 refine a7 (qs (name:=Str.ofString "__getitem__") aR.typeIs B3
  (pe B3 aR.typeIs entry_tuple_getitem ?_ (args_tuple_getitem _ _)))
 show bG _ _ (Builtin.Tuple.tupleItemsOf (.ref t) >>= _) _ _ s
 refine a7 (tupleItemsOf_ aR ?_)
 refine a7 (wpAny_typeOf F7 ?_)
 rw[if_pos (by decide)];refine a7 (fL.N8 av pl pu ?_);rw[hw.1,hw.2];show bG _ _ (if (((0:Nat):Int)==0 && (1:Int)==1 && (items.size - 0)==items.size)=true then _ else _) _ _ s;rw[if_pos (by simp)];unfold Builtin.Tuple.tupleIsExact;refine a7 (a7 (wpAny_typeOf aR.typeIs (cH ?_)));rw[if_pos (by decide)];refine a7 (wpAny_rule ?_);exact cH ⟨_,rfl,cH h⟩
def afR:qZ X (abj X.K):=by
 intro ah s σ H x v hW fs lo aS dg Q I a3 av pl pu h;obtain⟨a,xs,rfl,hx,hw,q⟩:=h;cases a3;obtain⟨its,r,aR,aq⟩:=I.tuple hx;have hlen:its.toArray.size=xs.length:=by rw[eJ];exact r.length.symm
 refine⟨"tuple",_,PyProof.Rows.slot_tuple_getitem.lookup,aR.typeIs,?_⟩
 exact ac' aR av pl pu (by rw[hlen];exact hw) ⟨.ref a,H,I,rfl,q⟩
def ahF(n d:Nat)(o:Option Int):D.c5 n d o=fL.c5 n d o:=by
 cases o with
|none=>rfl
|some v=>
  unfold D.c5 fL.c5;dsimp only;split <;> omega
def Kw{K:bl}{F:aj->Prop}{H:aA}{ts:List T}{vs:List V}(h:bk K F H ts vs)(lo aS:Option Int):bk K F H (wJ ts lo aS) (nN vs lo aS):=by
 unfold wJ nN;simp only[ahF,h.length];exact (h.drop _).take _
def KW{lo aS:Option bf}{oL MX:Ev->Option (Option Int)}(ax:eo X e f)(aw:ajR X lo (BQ X.K oL))(bj:ajR X aS (BQ X.K MX)):cf X (.Subscript e (.Slice lo aS none fB) pos) (slice f oL MX):=d7 (af4 ((ahC.or afR).or agB) ax aw bj) λσ H Q ⟨aB,aK,O,F,ε,t,r,e,k⟩=>by
 simp only[slice,b5] at e;obtain⟨x,ex,l,fX,h,h7,e⟩:=e;refine⟨aB,aK,O,F,ε,x,r,ex,λv aX H1 aJ a3=>⟨aB,aK,O,aX,ε,l,r.ext aJ,fX,λc0 ba bq=>⟨aB,aK,O,c0,ε,h,(r.ext aJ).ext bq,h7,λhK c_ d0=>?_⟩⟩⟩;have o4:=bq.trans d0;have ql:=aJ.trans o4;unfold xF at e;split at e
 ·cases e
  obtain⟨a,vs,rfl,av,ar⟩:=(a3.ext o4).tup;by_cases hw:fL.c5 vs.length 0 l=0/\fL.c5 vs.length vs.length h=vs.length
  ·refine .inl (.inr ⟨a,vs,rfl,av,hw,k _ hK c_ ql ?_⟩)
   simp only[Rep];refine⟨a,vs,rfl,av,?_⟩;have:=Kw ar l h;unfold nN at this;rw[hw.1,hw.2,List.drop_zero,Nat.sub_zero,List.take_length] at this;exact this
  ·refine .inl (.inl ⟨a,vs,rfl,av,hw,λq bt=>?_⟩)
   have lX:=Ext.laid (o:=.tup (nN vs l h)) ql.cj bt;refine k _ hK _ (ql.trans lX) ?_;simp only[Rep];exact⟨q,_,rfl,de.of dI,(Kw ar l h).ext lX⟩
 ·cases e
  obtain⟨a,vs,rfl,av,ar⟩:=(a3.ext o4).lst;refine .inr ⟨a,vs,rfl,.inl av,λq bt=>?_⟩;have lX:=Ext.Br (o:=.lst (nN vs l h)) ql.cj bt;refine k _ _ _ (ql.trans lX) ?_;simp only[Rep];exact⟨q,_,rfl,.inr rfl,.inl dI,(Kw ar l h).ext lX⟩
 ·cases e
end
end
end D
end
section
namespace D
open PySem PySem.W PyProof.Rows
structure Ue(n:Nat)(lt:Nat->Nat->Bool):Prop where
 ajl:∀i j,lt i j=true->lt j i=false
 trans:∀i j k,lt i j=true->lt j k=true->lt i k=true
 ajH:∀i j,i<n->j<n->i≠j->lt i j=true\/lt j i=true
noncomputable def sl(lt:Nat->Nat->Bool)(p:Array Nat)(m:Nat):Prop:=∀i j,i<j->j<m->lt (p.getD i 0) (p.getD j 0)=true
noncomputable def eA(lt:Nat->Nat->Bool)(p:Array Nat)(m:Nat):Prop:=∀i j,i<j->j<m->lt (p.getD j 0) (p.getD i 0)=true
section
variable {n:Nat}{lt:Nat->Nat->Bool}(O:Ue n lt)
include O
end
end D
end
section
namespace D
open PySem
variable [c2]
end D
end
section
namespace D
open PySem PySem.Spec PyProof.Rows bo
section
variable [c2]
def P7:entryFor table "dict.update.loop"=some Builtin.«dict.update.loop»:=entryFor_of_tree (by kernel_rfl)
def CY:plainId "dict.update.loop"=true:=by decide +kernel
section
variable {prog:cR}{w:cu}{K:Type}[DecidableEq K]{knd:PySem.KeyKind prog w K}{A:c9}
def pair_items{E:ao->aP->Prop}{s:aP}{p:aj}{o:Obj}{n:Nat}{xs:Array ao}{Q:List ao->aP->Prop}(af:s.heap.get? p=some o)(ak:o.cls=.type "tuple")(bA:o.data=.seq xs n)(h:Q xs.toList s):bG (bR prog w) A (Builtin.Dict.pairItems (.ref p)) Q E s:=by
 obtain⟨c,z',dat,dg⟩:=o;simp only at ak bA;subst ak bA;obtain⟨aC,g,d,tk,os⟩:=s;have e6:(⟨aC,g,d,tk,os⟩:aP).TypeIs (.ref p) "tuple":=⟨_,af,rfl⟩;unfold Builtin.Dict.pairItems
 repeat (any_goals (first|assumption|wp_step))
def stored_new{kvs:List (K×ao)}{k:K}{v:ao}(h:k∉kvs.map (·.1)):stored kvs k v=kvs++[(k,v)]:=by
 unfold stored;rw[if_neg];intro q;obtain⟨x,hx,e⟩:=List.any_eq_true.mp q;exact h (dm.mpr ⟨x,hx,by simpa using e⟩)
variable {R:Result->aP->Prop}{I:aj}{bX wr:List aj}{G:Array GenState->Array GenState->Prop}{St:Nat->aP->Prop}{items:Array ao}
variable {E:ao->aP->Prop}{s:aP}
end
end
section
variable [c2]
mutual
noncomputable def iP:T->T->Option Bool
|.int a,.int b=>some (decide (a<b))
|.tuple xs,.tuple ys=>s8 xs ys
|_,_=>none
noncomputable def s8:List T->List T->Option Bool
| [],[]=>some false
| [],_::_=>some true
|_::_,[]=>some false
|x::xs,y::ys=>if hG x y then s8 xs ys else iP x y
end
noncomputable def LM(A:c9)(s:aP)(y x:ao)(b:Bool):Prop:=
 ∀(prog:cR) (w:cu) (E:ao->aP->Prop) (Q:ao->aP->Prop),Q (.bool b) s->bG (bR prog w) A (richCompare .Lt y x) Q E s
inductive pM(A:c9)(s:aP)(fin:Bool):List (ao×ao)->Bool->Prop
|nil:pM A s fin [] fin
|eq {y x:ao} {r:List (ao×ao)} {b:Bool}:SeqAt.EqAt A s y x true->pM A s fin r b->pM A s fin ((y,x)::r) b
|lt {y x:ao} {r:List (ao×ao)} {b:Bool}:SeqAt.EqAt A s y x false->LM A s y x b->pM A s fin ((y,x)::r) b
section
open PySem.SeqAt
open PySem.AutoSeq1 (wpAny_loadPart')
open PySem.MeetsSeq PySem.MeetsSeq2 PySem.MeetsSeq3
def adL(l b:aj)(items p':Array ao)(n gF:Nat)(dO mX:Option aj)(dg lW:Array (Option ao))(z:Bool):
  Meets (Builtin.«tuple.__lt__» ⟨[.ref l,.ref b],[]⟩)
   (λA R s=>s.heap.get? l=some {cls:=.type "tuple",dict:=dO,data:=.seq items n,slots:=dg}/\s.heap.get? b=some {cls:=.type "tuple",dict:=mX,data:=.seq p' gF,slots:=lW} /\
    pM A.in1 s (decide (items.size<p'.size)) (items.toList.zip p'.toList) z/\R (.ok (.ret (.bool z))) s):=
 .of_wp λprog w A R s h=>by
  obtain⟨aC,g,d,tk,os⟩:=s;obtain⟨aw,ae,br,h⟩:=h;have f2:=AutoSeq1.sub_tuple_tuple
  wp_walk using wpAny_loadPart' aw,wpAny_loadPart' ae,wpAny_forIn_list _ (λrest b s'=>b.1=none/\s'=⟨aC,g,d,tk,os⟩/\pM A.in1 ⟨aC,g,d,tk,os⟩ (decide (items.size<p'.size)) rest z) _
  case turn=>
   rintro⟨y,x⟩ rest b s' ⟨i0,rfl,j_⟩;cases j_ with
   |eq he j_=>
    refine a7 (he prog w _ _ ?_)
    wp_walk
    exact⟨rfl,rfl,j_⟩
   |lt he eZ=>
    refine a7 (he prog w _ _ ?_)
    have Gu:=eZ prog w
    wp_walk using Gu
    exact⟨_,rfl,h⟩
  case fin=>
   rintro⟨bW,b6⟩ s' ⟨i0,rfl,j_⟩;simp only at i0;subst i0;cases j_
   wp_walk
   exact⟨_,rfl,by simpa [Builtin.Tuple.tupleCompareSizes] using h⟩
  case h=>
   exact⟨rfl,rfl,br⟩
mutual
theorem agf:∀(pX db:T) (A:c9) (s:aP) (a b:ao) (as bs:List aj) (r:Bool),Reads s.heap a pX as->Reads s.heap b db bs->pX.canLay0=true->db.canLay0=true->A.units+min pX.depth db.depth<cLine->iP pX db=some r->LM A s a b r
|.int i,.int j,A,s,_,_,_,_,r,.int _ t,.int _ u,_,_,_,e=>by
  unfold iP at e;cases e;exact λprog w E Q q=>(PyProof.Rows.lt_int q:bG (bR prog w) A (jv .Lt (.int i t) (.int j u)) Q E s)
|.tuple xs,.tuple ys,A,s,_,_,_,_,r,.tuple (a:=l) (o:=o) (vs:=vs) (n:=n) af ak bA cP,.tuple (a:=eX) (o:=o') (vs:=d_) (n:=qa) e7 ec jm mv,ax,ae,bj,e=>by
  unfold iP at e;simp only[PyData.canLay0] at ax ae;simp only[nr] at bj;have j_:=good_reads xs ys A.in1 s vs.toList d_.toList _ _ r cP mv ax ae (room_in bj) e;obtain⟨cls,dO,data,dg⟩:=o;obtain⟨Fq,mX,data2,lW⟩:=o';simp only at ak bA ec jm;subst ak bA ec jm;rw[rB,rB] at j_;exact λprog w E Q q=>richCompare_meets_room (op:=.Lt) ⟨_,af,rfl⟩ ⟨_,e7,rfl⟩ PySem.F.slot_tuple_lt PySem.F.entry_tuple_lt (PySem.F.args_tuple_lt_2 _ _) (adL l eX vs d_ n qa dO mX dg lW r)
   ⟨af,e7,j_,show Value.bool r≠Value.notImplemented/\Q (.bool r) s from ⟨(λx=>nomatch x),q⟩⟩ (by omega)
|.none,_,_,_,_,_,_,_,_,_,_,_,_,_,e=>by simp[iP] at e
|.bool _,_,_,_,_,_,_,_,_,_,_,_,_,_,e=>by simp[iP] at e
|.str _,_,_,_,_,_,_,_,_,_,_,_,_,_,e=>by simp[iP] at e
|.list _,_,_,_,_,_,_,_,_,_,_,_,_,_,e=>by simp[iP] at e
|.dict _,_,_,_,_,_,_,_,_,_,_,_,_,_,e=>by simp[iP] at e
|.int _,.none,_,_,_,_,_,_,_,_,_,_,_,_,e=>by simp[iP] at e
|.int _,.bool _,_,_,_,_,_,_,_,_,_,_,_,_,e=>by simp[iP] at e
|.int _,.str _,_,_,_,_,_,_,_,_,_,_,_,_,e=>by simp[iP] at e
|.int _,.list _,_,_,_,_,_,_,_,_,_,_,_,_,e=>by simp[iP] at e
|.int _,.dict _,_,_,_,_,_,_,_,_,_,_,_,_,e=>by simp[iP] at e
|.int _,.tuple _,_,_,_,_,_,_,_,_,_,_,_,_,e=>by simp[iP] at e
|.tuple _,.none,_,_,_,_,_,_,_,_,_,_,_,_,e=>by simp[iP] at e
|.tuple _,.bool _,_,_,_,_,_,_,_,_,_,_,_,_,e=>by simp[iP] at e
|.tuple _,.str _,_,_,_,_,_,_,_,_,_,_,_,_,e=>by simp[iP] at e
|.tuple _,.list _,_,_,_,_,_,_,_,_,_,_,_,_,e=>by simp[iP] at e
|.tuple _,.dict _,_,_,_,_,_,_,_,_,_,_,_,_,e=>by simp[iP] at e
|.tuple _,.int _,_,_,_,_,_,_,_,_,_,_,_,_,e=>by simp[iP] at e
theorem good_reads:∀(xs ys:List T) (A:c9) (s:aP) (vs ws:List ao) (as bs:List aj) (r:Bool),ReadsAll s.heap vs xs as->ReadsAll s.heap ws ys bs->kN xs=true->kN ys=true->A.units+min (kM xs) (kM ys)<cLine->s8 xs ys=some r->pM A s (decide (vs.length<ws.length)) (vs.zip ws) r
| [],[],A,s,_,_,_,_,r,.nil,.nil,_,_,_,e=>by
  unfold s8 at e;cases e;exact .nil
| [],_::_,A,s,_,_,_,_,r,.nil,.cons _ _,_,_,_,e=>by
  unfold s8 at e;cases e;exact pM.nil
|_::_,[],A,s,_,_,_,_,r,.cons _ _,.nil,_,_,_,e=>by
  unfold s8 at e;cases e;exact pM.nil
|x::xs,y::ys,A,s,_,_,_,_,r,.cons bg b7,.cons aO bb,ax,ae,bj,e=>by
  simp only[kN,hZ] at ax ae;simp only[kM] at bj;unfold s8 at e;have he:=eqAt_reads x y A s _ _ _ _ bg aO ax.1 ae.1 (room_head bj);split at e
  next h=>
   rw[h] at he;have b2:=good_reads xs ys A s _ _ _ _ r b7 bb ax.2 ae.2 (room_tail bj) e;rw[qp];simp only[hF,Nat.add_lt_add_iff_right];exact .eq he b2
  next h=>
   rw[Bool.not_eq_true] at h;rw[h] at he;rw[qp];exact .lt he (agf x y A s _ _ _ _ r bg aO ax.1 ae.1 (room_head bj) e)
end
end
end
end D
end
section
namespace D
open PySem
inductive pJ where
|v (f:bD)|o (i:Nat)
abbrev qS:=Ev->Option (T×Ev)
abbrev cv:=Ev->Option aM
noncomputable def ID(i:Nat)(ε:Ev):Option aM:=match ε[i]? with
|some (some (.obj m c ay))=>some (.obj m c ay)
|_=>none
noncomputable def q2:List pJ->Ev->Option (List aM)
| [],_=>some []
|.v f::as,ε=>(f ε).bind λt=>(q2 as ε).map λss=>.ab t::ss
|.o i::as,ε=>(ID i ε).bind λs=>(q2 as ε).map λss=>s::ss
def I3:aM->aM
|.obj _ c ay=>.obj .fR c ay
|s=>s
noncomputable def fh(c i:Nat)(ε:Ev):Option (hg×List aM):=match ε[i]? with
|some (some (.obj m dY ay))=>if dY=c then some (m,ay) else none
|_=>none
noncomputable def fld(c i j:Nat):bD:=λε=>(fh c i ε).bind λo=>match o.2[j]? with
|some (.ab t)=>some t
|some (.own ts)=>some (.list ts)
|_=>none
noncomputable def eR(c i j:Nat):bD:=λε=>(fh c i ε).bind λo=>match o.2[j]? with
|some (.ab t)=>some t
|_=>none
noncomputable def k2(c i j:Nat):Ev->Option (List (Key×T)):=λε=>(fh c i ε).bind λo=>match o.2[j]? with
|some (.hN kvs)=>some kvs
|_=>none
noncomputable def kE(c i j:Nat):Ev->Option (List T):=λε=>(fh c i ε).bind λo=>match o.2[j]? with
|some (.own ts)=>some ts
|_=>none
noncomputable def k1(c i j:Nat)(k:bD):bD:=λε=>(k ε).bind λt=>(keyOf t).bind λk=>(k2 c i j ε).bind λkvs=>getD kvs k
def zM(c i j:Nat):bD:=λε=>(k2 c i j ε).map λkvs=>.tuple (kvs.map (·.2))
noncomputable def f6(c i j:Nat)(s:aM)(ε:Ev):Option Ev:=(fh c i ε).bind λo=>if o.1=.fR then none else
 if j<o.2.length then some (ε.set i (some (.obj o.1 c (o.2.set j s)))) else if j=o.2.length then some (ε.set i (some (.obj o.1 c (o.2++[s])))) else none
def cy(c i j:Nat)(f:bD):bu:=λε=>(f ε).bind λt=>(f6 c i j (.ab t) ε).map .bY
noncomputable def ha(c i j:Nat)(f:bD):bu:=λε=>(f ε).bind λt=>match t with
|.list ts=>(f6 c i j (.own ts) ε).map .bY
|_=>none
def mP:T->T->Option Int
|.int i,.int j=>some (i+j)
|_,_=>none
noncomputable def mf(c i j:Nat)(f:bD):bu:=λε=>(eR c i j ε).bind λx=>(f ε).bind λy=>(mP x y).bind λz=>(f6 c i j (.ab (.int z)) ε).map .bY
noncomputable def jI(c i j:Nat)(f:bD):bu:=λε=>(f ε).bind λt=>(kE c i j ε).bind λts=>if ts.length<big then (f6 c i j (.own (ts++[t])) ε).map .bY else none
noncomputable def rp(c i j:Nat)(f:bD):bu:=λε=>(f ε).bind λt=>(kE c i j ε).bind λts=>match t,strsOf ts with
|.str x,some ss=>if x∈ss then (f6 c i j (.own ((ss.erase x).map .str)) ε).map .bY else none
|_,_=>none
noncomputable def vZ:T->Option T
|.tuple xs=>some (.list xs)
|.list xs=>some (.list xs)
|_=>none
noncomputable def C7:T->Option T
|.list xs=>if xs.length<64 then (strsOf xs).map λss=>.list ((eD ss).map .str) else none
|_=>none
noncomputable def ajQ(c i j:Nat)(k v:bD):bu:=λε=>(v ε).bind λv=>(k ε).bind λt=>(keyOf t).bind λk=>(k2 c i j ε).bind λkvs=>if kvs.length<big then (f6 c i j (.hN (putD kvs k v)) ε).map .bY else none
noncomputable def nB(c i j:Nat)(k v:bD):bu:=λε=>(k ε).bind λt=>(keyOf t).bind λk=>(k2 c i j ε).bind λkvs=>(getD kvs k).bind λx=>(v ε).bind λy=>(mP x y).bind λz=>if kvs.length<big then (f6 c i j (.hN (putD kvs k (.int z))) ε).map .bY else none
noncomputable def r5:List T->List T->Option (List (Key×T))
| [],_=>some []
|_::_,[]=>some []
|k::bc,v::vs=>(keyOf k).bind λk=>(r5 bc vs).map λr=>(k,v)::r
noncomputable def wk(c i j:Nat)(bc vs:bD):bu:=λε=>(bc ε).bind λtk=>(vs ε).bind λho=>match tk,ho with
|.list lk,.tuple lv=>(r5 lk lv).bind λkvs=>if (kvs.map (·.1)).Nodup/\kvs.length<=1000/\(∀t∈lk,(keyOf t).isSome=true) then (f6 c i j (.hN kvs) ε).map .bY else none
|_,_=>none
noncomputable def wg(f g:jd):jd:=λε=>(f ε).bind λa=>(g ε).map λb=>List.zipWith (λx y=>.tuple [x,y]) a b
noncomputable def zO(d:List aM->Option T)(as:List pJ):bD:=λε=>(q2 as ε).bind λss=>d (ss.map I3)
noncomputable def kR(c:Nat)(d:List aM->Option T)(i:Nat)(ay:List bD):bD:=λε=>(fh c i ε).bind λo=>(args ay ε).bind λts=>d (.obj .fR c o.2::ts.map .ab)
noncomputable def dS(c:Nat)(d:List aM->Option (T×List aM))(i:Nat)(ay:List bD):qS:=λε=>(fh c i ε).bind λo=>if o.1=.fR then none else (args ay ε).bind λts=>
 (d (.obj .cN c o.2::ts.map .ab)).map λr=>(r.1,ε.set i (some (.obj o.1 c r.2)))
noncomputable def dz(c:Nat)(d:List aM->Option (T×List aM))(ay:List bD)(i:Nat)(eN:List bD):qS:=λε=>(fh c i ε).bind λo=>if o.1=.fR then none else (args ay ε).bind λts=>(args eN ε).bind λus=>
 (d (ts.map .ab++.obj .cN c o.2::us.map .ab)).map λr=>(r.1,ε.set i (some (.obj o.1 c r.2)))
noncomputable def Bv(c:Nat)(d:List aM->Option (T×List aM))(ay:List bD):cv:=λε=>(args ay ε).bind λts=>(d (.obj .cN c []::ts.map .ab)).bind λr=>match r.1 with
|.none=>some (.obj .own c r.2)
|_=>none
def r6(d:List T->Option aM)(ay:List bD):cv:=λε=>(args ay ε).bind d
noncomputable def vM(c:Nat):aM->Option (List aM)
|.obj .own dY ay=>if dY=c then some ay else none
|_=>none
noncomputable def BA(c:Nat)(d:List aM->Option T)(o:cv)(ay:List bD):bD:=λε=>(o ε).bind λs=>(vM c s).bind λos=>(args ay ε).bind λts=>d (.obj .fR c os::ts.map .ab)
noncomputable def Dl(c j:Nat)(o:cv):bD:=λε=>(o ε).bind λs=>(vM c s).bind λos=>match os[j]? with
|some (.own ts)=>some (.list ts)
|_=>none
def cq(f:qS):bu:=λε=>(f ε).map λr=>.bY r.2
def ij(f:qS):bu:=λε=>(f ε).map λr=>.gh r.1 r.2
def g7(f:bD):bu:=λε=>(f ε).map λt=>.gh t ε
def pU(i:Nat)(f:qS):bu:=λε=>(f ε).map λr=>.bY (r.2.set i (some (.ab r.1)))
def pT(i:Nat)(f:cv):bu:=λε=>(f ε).map λs=>.bY (ε.set i (some s))
noncomputable def th(i:Nat):bu:=λε=>match ε[i]? with
|some (some (.obj .own c ay))=>some (.lU (.obj .own c ay))
|_=>none
def mO:bu:=λε=>some (.gh .none ε)
def never:bu:=λ_=>none
def jz(n:Nat)(ss:List aM):Ev:=ss.map some++dW (n - ss.length) none
noncomputable def iQ(b:bu)(n:Nat)(ss:List aM):Option T:=(b (jz n ss)).bind λo=>match o with
|.fa t=>some t
|.bY _=>some .none
|_=>none
noncomputable def l8(c p:Nat)(ε:Ev):Option (List aM):=match ε[p]? with
|some (some (.obj .cN dY ay))=>if dY=c then some ay else none
|_=>none
noncomputable def runM(c p:Nat)(b:bu)(n:Nat)(ss:List aM):Option (T×List aM):=(b (jz n ss)).bind λo=>match o with
|.gh t ε=>(l8 c p ε).map λay=>(t,ay)
|.bY ε=>(l8 c p ε).map λay=>(.none,ay)
|_=>none
def xH:aM->Option aM
|.obj .own c ay=>some (.obj .own c ay)
|_=>none
noncomputable def oY(b:bu)(n:Nat)(ts:List T):Option aM:=(b ((ts.map λt=>some (.ab t))++dW (n - ts.length) none)).bind λo=>match o with
|.lU s=>xH s
|_=>none
end D
end
section
namespace D
open PySem PySem.Spec PyProof.Rows bo
section
variable [c2]
section
variable {K:bl}{F aI O:aj->Prop}{H ai:aA}{E:gq}
theorem fN.length:∀{ay:List aM} {vs:List V},fN K F H ay vs->ay.length=vs.length
| [],vs,r=>by
  have e:vs=[]:=r;rw[e];rfl
|s::ss,vs,r=>by
  obtain⟨v,z,rfl,_,b7⟩:=r;simp[fN.length b7]
theorem fN.get:∀{ay:List aM} {vs:List V} {j:Nat} {s:aM},fN K F H ay vs->ay[j]?=some s->∃v,vs[j]?=some v/\kT K F H s v
| [],vs,j,s,r,e=>by simp at e
|s::ss,vs,0,u,r,e=>by
  obtain⟨v,z,rfl,bg,_⟩:=r;simp at e;subst e;exact⟨v,rfl,bg⟩
|s::ss,vs,j+1,u,r,e=>by
  obtain⟨v,z,rfl,_,b7⟩:=r;obtain⟨w,af,ak⟩:=fN.get (j:=j) (s:=u) b7 (by simpa using e);exact⟨w,by simpa using af,ak⟩
theorem fN.set:∀{ay:List aM} {vs:List V} {j:Nat} {s:aM} {v:V},fN K F H ay vs->eG K F H aI ai->(∀(k:Nat) (u:aM) (w:V),k≠j->ay[k]?=some u->vs[k]?=some w->∀b∈dG u w,ai b=H b)->kT K aI ai s v->fN K aI ai (ay.set j s) (vs.set j v)
| [],vs,j,s,v,r,_,_,_=>by
  have e:vs=[]:=r;subst e;exact rfl
|u::ss,vs,0,s,v,r,az,aH,h=>by
  obtain⟨w,z,rfl,bg,b7⟩:=r;refine⟨v,z,rfl,h,b7.keep az λb ae=>?_⟩;have:∀{ss:List aM} {z:List V} (n:Nat),(∀(k:Nat) (u:aM) (w:V),ss[k]?=some u->z[k]?=some w->∀b∈dG u w,ai b=H b)->b∈cU ss z->ai b=H b:=by
   intro ss
   induction ss with
   |nil=>intro z n _ ae;simp[cU] at ae
   |cons s1 ss b2=>
    intro z n aH ae;cases z with
    |nil=>simp[cU] at ae
    |cons v1 z=>
     rw[show cU (s1::ss) (v1::z)=dG s1 v1++cU ss z from rfl] at ae;rcases ju.mp ae with q|q
     ·exact aH 0 s1 v1 rfl rfl b q
     ·exact b2 n (λk u w aQ a9=>aH (k+1) u w (by simpa using aQ) (by simpa using a9)) q
  exact this 0 (λk u w aQ a9=>aH (k+1) u w (by omega) (by simpa using aQ) (by simpa using a9)) ae
|u::ss,vs,j+1,s,v,r,az,aH,h=>by
  obtain⟨w,z,rfl,bg,b7⟩:=r;exact⟨w,z.set j v,rfl,bg.keep az λb ae=>aH 0 u w (by omega) rfl rfl b ae,fN.set b7 az (λk u w aju aQ a9=>aH (k+1) u w (by omega) (by simpa using aQ) (by simpa using a9)) h⟩
theorem fN.snoc:∀{ay:List aM} {vs:List V} {s:aM} {v:V},fN K F H ay vs->kT K F H s v->fN K F H (ay++[s]) (vs++[v])
| [],vs,s,v,r,h=>by
  have e:vs=[]:=r;subst e;exact⟨v,[],rfl,h,rfl⟩
|u::ss,vs,s,v,r,h=>by
  obtain⟨w,z,rfl,bg,b7⟩:=r;exact⟨w,z++[v],rfl,bg,fN.snoc b7 h⟩
theorem ze:∀{ay:List aM} {vs:List V} {s:aM} {v:V},ay.length=vs.length->cU (ay++[s]) (vs++[v])=cU ay vs++dG s v
| [],[],s,v,_=>by simp[cU]
|u::ss,w::z,s,v,h=>by
  show dG u w++cU (ss++[s]) (z++[v])=(dG u w++cU ss z)++dG s v
  rw[ze (by simpa using h),List.append_assoc]
| [],w::z,_,_,h=>by simp at h
|u::ss,[],_,_,h=>by simp at h
theorem l_:∀{ay:List aM} {vs:List V} {j:Nat} {s:aM} {v:V} {b:aj},ay[j]?=some s->vs[j]?=some v->b∈dG s v->b∈cU ay vs
| [],vs,j,s,v,b,e,_,_=>by simp at e
|u::ss,[],j,s,v,b,_,e,_=>by simp at e
|u::ss,w::z,0,s,v,b,aQ,a9,h=>by
  simp at aQ a9;subst aQ a9;exact ju.mpr (.inl h)
|u::ss,w::z,j+1,s,v,b,aQ,a9,h=>ju.mpr (.inr (l_ (j:=j) (by simpa using aQ) (by simpa using a9) h))
theorem Lk:∀{ay:List aM} {vs:List V} {b:aj},b∈cU ay vs->∃(j:Nat) (s:aM) (v:V),ay[j]?=some s/\vs[j]?=some v/\b∈dG s v
| [],vs,b,h=>by simp[cU] at h
|u::ss,[],b,h=>by simp[cU] at h
|u::ss,w::z,b,h=>by
  rcases ju.mp (show b∈dG u w++cU ss z from h) with q|q
  ·exact⟨0,u,w,rfl,rfl,q⟩
  ·obtain⟨j,s,v,aQ,a9,h⟩:=Lk q;exact⟨j+1,s,v,by simpa using aQ,by simpa using a9,h⟩
theorem KG:∀{ay:List aM} {vs:List V} {j k:Nat} {s u:aM} {v w:V} {b:aj},(cU ay vs).Nodup->j≠k->ay[j]?=some s->vs[j]?=some v->ay[k]?=some u->vs[k]?=some w->b∈dG s v->b∈dG u w->False
| [],vs,j,k,s,u,v,w,b,_,_,e,_,_,_,_,_=>by simp at e
|x::ss,[],j,k,s,u,v,w,b,_,_,_,e,_,_,_,_=>by simp at e
|x::ss,y::z,j,k,s,u,v,w,b,aW,oO,aQ,a9,gc,ji,af,ak=>by
  have gG:(dG x y++cU ss z).Nodup:=aW;rw[o7] at gG;obtain⟨gQ,gF,NI⟩:=gG;cases j with
  |zero=>
   cases k with
   |zero=>exact oO rfl
   |succ k=>
    simp at aQ a9;subst aQ a9;exact NI b af b (l_ (j:=k) (by simpa using gc) (by simpa using ji) ak) rfl
  |succ j=>
   cases k with
   |zero=>
    simp at gc ji;subst gc ji;exact NI b ak b (l_ (j:=j) (by simpa using aQ) (by simpa using a9) af) rfl
   |succ k=>exact KG (j:=j) (k:=k) gF (by omega) (by simpa using aQ) (by simpa using a9) (by simpa using gc) (by simpa using ji) af ak
def vm{ay:List aM}{vs:List V}{j:Nat}{s:aM}{v:V}{b:aj}(h:b∈cU (ay.set j s) (vs.set j v)):b∈cU ay vs\/b∈dG s v:=by
 obtain⟨k,u,w,aQ,a9,h⟩:=Lk h;by_cases aH:j=k
 ·subst aH;have cb:=(fC.mp aQ).1;have b_:=(fC.mp a9).1;simp at cb b_;rw[u0,if_pos rfl,if_pos cb] at aQ;rw[u0,if_pos rfl,if_pos b_] at a9;cases aQ;cases a9;exact .inr h
 ·rw[u0,if_neg aH] at aQ a9;exact .inl (l_ aQ a9 h)
theorem CC:∀{ay:List aM} {vs:List V} {j:Nat} {s:aM} {v:V},(cU ay vs).Nodup->(dG s v).Nodup->(∀b∈dG s v,∀(k:Nat) (u:aM) (w:V),k≠j->ay[k]?=some u->vs[k]?=some w->b∉dG u w)->(cU (ay.set j s) (vs.set j v)).Nodup
| [],vs,j,s,v,_,_,_=>by simp[cU]
|x::ss,[],j,s,v,_,_,_=>by cases j <;> simp[cU]
|x::ss,y::z,0,s,v,aW,n6,ax=>by
  have gG:(dG x y++cU ss z).Nodup:=aW;rw[o7] at gG;show (dG s v++cU ss z).Nodup;rw[o7];refine⟨n6,gG.2.1,λb ae c aD e=>?_⟩;subst e;obtain⟨k,u,w,aQ,a9,h⟩:=Lk aD;exact ax b ae (k+1) u w (by omega) (by simpa using aQ) (by simpa using a9) h
|x::ss,y::z,j+1,s,v,aW,n6,ax=>by
  have gG:(dG x y++cU ss z).Nodup:=aW;rw[o7] at gG;show (dG x y++cU (ss.set j s) (z.set j v)).Nodup;rw[o7];refine⟨gG.1,CC gG.2.1 n6 λb ae k u w aH aQ a9=>ax b ae (k+1) u w (by omega) (by simpa using aQ) (by simpa using a9),λb ae c aD e=>?_⟩;subst e;rcases vm aD with q|q
  ·exact gG.2.2 b ae b q rfl
  ·exact ax b q 0 x y (by omega) rfl rfl ae
def afW(v:V):(gg v).Nodup:=by
 unfold gg;split <;> simp
def C0(s:aM)(v:V):(dG s v).Nodup:=by
 cases s <;> first|exact afW v|simp[dG]
theorem JZ:∀{ns:List Str} {vs:List V} {j:Nat} {f:Str} {v:V},ns.Nodup->ns[j]?=some f->vs[j]?=some v->(ns.zip vs).lookup f=some v
| [],_,_,_,_,_,e,_=>by simp at e
|_::_,[],_,_,_,_,_,e=>by simp at e
|n::ns,w::vs,0,f,v,_,aQ,a9=>by
  simp at aQ a9;subst aQ a9;simp[iT]
|n::ns,w::vs,j+1,f,v,aW,aQ,a9=>by
  have ne:f≠n:=by
   rintro rfl;exact (dX.mp aW).1 (ko (by simpa using aQ))
  have ae:(f==n)=false:=beq_eq_false_iff_ne.mpr ne;simp only[qp,iT,ae];exact JZ (j:=j) (dX.mp aW).2 (by simpa using aQ) (by simpa using a9)
theorem yo:∀{ns:List Str} {vs:List V} {f:Str},f∉ns->(ns.zip vs).lookup f=none
| [],_,_,_=>by simp
|_::_,[],_,_=>by simp
|n::ns,w::vs,f,h=>by
  have ne:f≠n:=λe=>h (by simp[e]);have ae:(f==n)=false:=beq_eq_false_iff_ne.mpr ne;simp only[qp,iT,ae];exact yo λz=>h (dM _ z)
theorem QU:∀{ns:List Str} {vs:List V} {j:Nat} {f:Str} {v:V},ns.Nodup->ns[j]?=some f->j<vs.length->bo.hk f v (ns.zip vs)=ns.zip (vs.set j v)
| [],_,_,_,_,_,e,_=>by simp at e
|_::_,[],_,_,_,_,_,h=>by simp at h
|n::ns,w::vs,0,f,v,_,aQ,h=>by
  simp at aQ;subst aQ;simp[bo.hk]
|n::ns,w::vs,j+1,f,v,aW,aQ,h=>by
  have ne:n≠f:=by
   rintro rfl;exact (dX.mp aW).1 (ko (by simpa using aQ))
  simp only[qp,lq,bo.hk,if_neg ne];rw[QU (j:=j) (dX.mp aW).2 (by simpa using aQ) (by simpa using h)]
theorem O8:∀{ns:List Str} {vs:List V} {f:Str} {v:V},ns.Nodup->ns[vs.length]?=some f->bo.hk f v (ns.zip vs)=ns.zip (vs++[v])
| [],_,_,_,_,e=>by simp at e
|n::ns,[],f,v,_,aQ=>by
  simp at aQ;subst aQ;simp[bo.hk]
|n::ns,w::vs,f,v,aW,aQ=>by
  have ne:n≠f:=by
   rintro rfl;exact (dX.mp aW).1 (ko (by simpa using aQ))
  simp only[qp,List.cons_append,bo.hk,if_neg ne];rw[O8 (dX.mp aW).2 (by simpa using aQ)]
end
structure hb(K:bl)(c:Nat)(C:aj)(ns:List Str):Prop where
 jK:c2.jK c=some C
 eg:c2.eg c=ns
 cls:nF K C
 aW:ns.Nodup
 na:∀f∈ns,qK K C f
 oK:ns.length<1000
section
variable {K:bl}{aB F aX O:aj->Prop}{H H1:aA}{E:gq}{ε ε':Ev}{σ:bo.St}{c C i j:Nat}{ns:List Str}
def kr{m:hg}{ay:List aM}(h:fh c i ε=some (m,ay)):ε[i]?=some (some (.obj m c ay)):=by
 unfold fh at h;split at h
 next mw dY h_ e=>
  split at h
  next aD=>
   cases h
   rw[e,aD]
  next=>cases h
 next=>cases h
def qI{m:hg}{ay:List aM}(k:hb K c C ns)(r:cB K aB E O F H ε σ)(h:fh c i ε=some (m,ay)):
  ∃a vs bz,σ[i]?=some (some (.ref a))/\H a=some (.ins C bz (ns.zip vs))/\vs.length<=ns.length/\gL H a c vs/\fN K F H ay vs/\(a::cU ay vs).Nodup/\(∀b∈a::cU ay vs,qW E O F m b)/\(m=.cN->a=E.g6):=by
 obtain⟨v,af,a,vs,rfl,ax,hf,aW,fp,g6⟩:=r.val i _ (kr h);obtain⟨aw,hx⟩:=id ax;rw[k.jK] at hx;obtain⟨bz,hx⟩:=hx;rw[k.eg] at aw hx;exact⟨a,vs,bz,af,hx,aw,ax,hf,aW,fp,g6⟩
def zy{m:hg}(hm:m≠.fR){ay:List aM}:(aM.obj m c ay).iN=true:=by
 cases m with
|fR=>exact absurd rfl hm
|own=>rfl
|cN=>rfl
def cB.BK{s:aM}{v:V}{a bz:aj}{vs:List V}(k:hb K c C ns)(r:cB K aB E O F H ε σ){m:hg}{ay:List aM}(aE:fh c i ε=some (m,ay))(af:σ[i]?=some (some (.ref a)))(ax:gL H a c vs)(he:f6 c i j s ε=some ε')
  (rs:kT K F H s v) (own:∀b∈dG s v,¬F b/\O b/\b∉dJ H (.obj m c ay) (.ref a)/\∀(k:Nat) (u:aM) (w:V),i≠k->ε[k]?=some (some u)->u.iN=true->σ[k]?=some (some w)->b∉dJ H u w) (hx:H a=some (.ins C bz (ns.zip vs)))
  {f:Str} (bw:ns[j]?=some f):eG K F H F (upd H a (.ins C bz (bo.hk f v (ns.zip vs))))/\cB K aB E O F (upd H a (.ins C bz (bo.hk f v (ns.zip vs)))) ε' σ:=by
 obtain⟨lI,d_,uq,eS,kb,aw,lN,hf,aW,fp,g6⟩:=qI k r aE;rw[af] at eS;cases eS;have ev:d_=vs:=by rw[<- ax.vals,<- lN.vals]
 subst ev;have gD:dJ H (.obj m c ay) (.ref a)=a::cU ay d_:=i9 ax;rw[gD] at own;unfold f6 at he;rw[aE] at he;simp only[dh] at he;split at he
 next=>cases he
 next hm=>
 have hlen:=hf.length;have rb:(aM.obj m c ay).iN=true:=zy hm;have w_:∀b,qW E O F m b <-> ¬F b/\O b:=λb=>by
  cases m with
  |fR=>exact absurd rfl hm
  |own=>exact Iff.rfl
  |cN=>exact Iff.rfl
 have na:∀b∈cU ay d_,b≠a:=λb ae z=>(dX.mp aW).1 (z▸ae);split at he
 next aj_=>
  cases he
  have sN:j<d_.length:=by omega
  rw[QU k.aW bw sN];have nX:∀b∈a::cU (ay.set j s) (d_.set j v),b∈a::cU ay d_\/b∈dG s v:=λb ae=>by
   rcases cZ.mp ae with rfl|ae
   ·exact .inl e8
   ·rcases vm ae with q|q
    ·exact .inl (dM _ q)
    ·exact .inr q
  have iK:∀o':aA,o' a=some (.ins C bz (ns.zip (d_.set j v)))->gL o' a c (d_.set j v):=λo' e=>by
   refine⟨by rw[k.eg];simpa using aw,?_⟩
   rw[k.jK,k.eg];exact⟨bz,e⟩
  refine r.xx (kr aE) rb af (by rw[gD];exact e8) (λaz=>⟨a,d_.set j v,rfl,iK _ dI,?_,?_,λb ae=>?_,g6⟩) λb ae=>?_
  ·refine fN.set hf az (λk u w _ aQ a9 b ae=>cI (na b (l_ aQ a9 ae))) (rs.keep az λb ae=>cI λz=>(own b ae).2.2.1 (z▸e8))
  ·refine dX.mpr ⟨λz=>?_,CC (dX.mp aW).2 (C0 s v) λb ae k u w _ aQ a9 q=>(own b ae).2.2.1 (dM _ (l_ aQ a9 q))⟩
   rcases vm z with q|q
   ·exact (dX.mp aW).1 q
   ·exact (own a q).2.2.1 e8
  ·rcases nX b ae with q|q
   ·exact fp b q
   ·exact (w_ b).mpr ⟨(own b q).1,(own b q).2.1⟩
  ·rw[i9 (iK _ dI)] at ae;rcases nX b ae with q|q
   ·exact .inl (by rw[gD];exact q)
   ·exact .inr (own b q).2.2.2
 next aj_=>
  split at he
  next XO=>
   cases he
   have sN:j=d_.length:=by omega
   rw[O8 k.aW (by rw[<- sN];exact bw)];have XP:j<ns.length:=(fC.mp bw).1;have nX:∀b∈a::cU (ay++[s]) (d_++[v]),b∈a::cU ay d_\/b∈dG s v:=λb ae=>by
    rw[ze hlen] at ae;rcases cZ.mp ae with rfl|ae
    ·exact .inl e8
    ·rcases ju.mp ae with q|q
     ·exact .inl (dM _ q)
     ·exact .inr q
   have iK:∀o':aA,o' a=some (.ins C bz (ns.zip (d_++[v])))->gL o' a c (d_++[v]):=λo' e=>by
    refine⟨by rw[k.eg];simp;omega,?_⟩
    rw[k.jK,k.eg];exact⟨bz,e⟩
   refine r.xx (kr aE) rb af (by rw[gD];exact e8) (λaz=>⟨a,d_++[v],rfl,iK _ dI,?_,?_,λb ae=>?_,g6⟩) λb ae=>?_
   ·exact fN.snoc (hf.keep az λb ae=>cI (na b ae)) (rs.keep az λb ae=>cI λz=>(own b ae).2.2.1 (z▸e8))
   ·rw[ze hlen];refine dX.mpr ⟨λz=>?_,o7.mpr ⟨(dX.mp aW).2,C0 s v,λb ae d hd e=>?_⟩⟩
    ·rcases ju.mp z with q|q
     ·exact (dX.mp aW).1 q
     ·exact (own a q).2.2.1 e8
    ·subst e;exact (own b hd).2.2.1 (dM _ ae)
   ·rcases nX b ae with q|q
    ·exact fp b q
    ·exact (w_ b).mpr ⟨(own b q).1,(own b q).2.1⟩
   ·rw[i9 (iK _ dI)] at ae;rcases nX b ae with q|q
    ·exact .inl (by rw[gD];exact q)
    ·exact .inr (own b q).2.2.2
  next=>cases he
def cB.s_{s s':aM}{a b:aj}{vs:List V}{o':eW}(r:cB K aB E O F H ε σ){m:hg}{ay:List aM}(aE:fh c i ε=some (m,ay))(af:σ[i]?=some (some (.ref a)))(ax:gL H a c vs)(he:f6 c i j s' ε=some ε')
  (av:ay[j]?=some s) (a5:vs[j]?=some (.ref b)) (aS:b∈dG s (.ref b)) (w6:dG s' (.ref b)=[b]) (rs:eG K F H F (upd H b o')->kT K F (upd H b o') s' (.ref b)):eG K F H F (upd H b o')/\cB K aB E O F (upd H b o') ε' σ:=by
 obtain⟨v,eS,lI,d_,ev,lN,hf,aW,fp,g6⟩:=r.val i _ (kr aE);rw[af] at eS;cases eS;cases ev;have ev:d_=vs:=by rw[<- ax.vals,<- lN.vals]
 subst ev;have gD:dJ H (.obj m c ay) (.ref a)=a::cU ay d_:=i9 ax;unfold f6 at he;rw[aE] at he;simp only[dh] at he;split at he
 next=>cases he
 next hm=>
 have aj_:j<ay.length:=(fC.mp av).1;rw[if_pos aj_] at he;cases he;have Ga:b∈cU ay d_:=l_ av a5 aS;have Xr:a≠b:=λz=>(dX.mp aW).1 (z▸Ga);have iK:gL (upd H b o') a c d_:=ax.keep (cI Xr);have FC:d_.set j (.ref b)=d_:=by
  obtain⟨aw,e⟩:=fC.mp a5;rw[<- e];exact List.set_getElem_self aw
 have Gh:∀x∈cU (ay.set j s') d_,x∈cU ay d_:=λx hx=>by
  rw[<- FC] at hx;rcases vm hx with q|q
  ·exact q
  ·rw[w6] at q;rw[kK.mp q];exact Ga
 refine r.xx (kr aE) (zy hm) af (by rw[gD];exact dM _ Ga) (λaz=>⟨a,d_,rfl,iK,?_,?_,λx hx=>?_,g6⟩) λx hx=>?_
 ·rw[<- FC];exact fN.set hf az (λk u w aH aQ a9 x hx=>cI λz=>KG (dX.mp aW).2 (Ne.symm aH) av a5 aQ a9 aS (z▸hx)) (rs az)
 ·refine dX.mpr ⟨λz=>(dX.mp aW).1 (Gh a z),?_⟩
  rw[<- FC];refine CC (dX.mp aW).2 (by rw[w6];simp) λx hx k u w aH aQ a9 q=>?_;rw[w6] at hx;rw[kK.mp hx] at q;exact KG (dX.mp aW).2 (Ne.symm aH) av a5 aQ a9 aS q
 ·rcases cZ.mp hx with rfl|hx
  ·exact fp _ e8
  ·exact fp x (dM _ (Gh x hx))
 ·rw[i9 iK] at hx;rw[gD];rcases cZ.mp hx with rfl|hx
  ·exact .inl e8
  ·exact .inl (dM _ (Gh x hx))
end
end
section
variable [c2]
section
variable {K:bl}{aB F O:aj->Prop}{H:aA}{E:gq}{ε:Ev}{σ:bo.St}{c C i j:Nat}{ns:List Str}{f:Str}
def ov{m:hg}{ay:List aM}{s:aM}(k:hb K c C ns)(r:cB K aB E O F H ε σ)(h:fh c i ε=some (m,ay))(av:ay[j]?=some s)(bw:ns[j]?=some f):
  ∃a vs bz v,σ[i]?=some (some (.ref a))/\H a=some (.ins C bz (ns.zip vs))/\(ns.zip vs).lookup f=some v/\gL H a c vs/\vs[j]?=some v/\kT K F H s v/\(∀b∈dG s v,qW E O F m b/\b≠a):=by
 obtain⟨a,vs,bz,af,hx,aw,ax,hf,aW,fp,g6⟩:=qI k r h;obtain⟨v,a5,b9⟩:=hf.get av;refine⟨a,vs,bz,v,af,hx,JZ k.aW bw a5,ax,a5,b9,λb ae=>⟨fp b (dM _ (l_ av a5 ae)),λz=>(dX.mp aW).1 (z▸l_ av a5 ae)⟩⟩
def ma(k:hb K c C ns)(bw:ns[j]?=some f):qK K C f:=k.na f (ko bw)
end
section
variable {X:bh}{c C i j:Nat}{ns:List Str}{f:Str}{o e a:bf}{g h:bD}{pos apos:Pos}
def h2(k:hb X.K c C ns)(a8:bO X o (gJ i))(bw:ns[j]?=some f:=by rfl)(ae:i5 o f X.env (eval o X.env)=eval o X.env:=by rfl):eo X (.Attribute o f pos) (fld c i j):=
 d7 (qH a8 ae) λσ H Q ⟨aB,aK,O,F,ε,t,r,e,bQ⟩=>by
 simp only[fld,b5] at e;obtain⟨⟨m,ay⟩,aE,e⟩:=e;split at e
 next t' av=>
  cases e
  obtain⟨a,vs,bz,v,af,hx,aw,ax,a5,b9,_⟩:=ov k r aE av bw;exact⟨_,af,a,C,bz,_,v,rfl,hx,k.cls,ma k bw,aw,bQ v F H (Ext.refl r.cj) (.inl b9)⟩
 next ts av=>
  cases e
  obtain⟨a,vs,bz,v,af,hx,aw,ax,a5,⟨b,us,c',ae,eO⟩,_⟩:=ov k r aE av bw;subst c';exact⟨_,af,a,C,bz,_,_,rfl,hx,k.cls,ma k bw,aw,bQ _ F H (Ext.refl r.cj) (.inr ⟨ts,b,us,rfl,rfl,ae,eO⟩)⟩
 next=>cases e
def lz(k:hb X.K c C ns)(a8:bO X o (gJ i))(bw:ns[j]?=some f:=by rfl)(ae:i5 o f X.env (eval o X.env)=eval o X.env:=by rfl):cf X (.Attribute o f pos) (eR c i j):=
 d7 (qH a8 ae) λσ H Q ⟨aB,aK,O,F,ε,t,r,e,bQ⟩=>by
 simp only[eR,b5] at e;obtain⟨⟨m,ay⟩,aE,e⟩:=e;split at e
 next t' av=>
  cases e
  obtain⟨a,vs,bz,v,af,hx,aw,ax,a5,b9,_⟩:=ov k r aE av bw;exact⟨_,af,a,C,bz,_,v,rfl,hx,k.cls,ma k bw,aw,bQ v F H (Ext.refl r.cj) b9⟩
 next=>cases e
def C1{ε:Ev}{kvs:List (D.Key×T)}(e:k2 c i j ε=some kvs):∃m ay,fh c i ε=some (m,ay)/\ay[j]?=some (.hN kvs):=by
 simp only[k2,b5] at e;obtain⟨⟨m,ay⟩,aE,e⟩:=e;split at e
 ·cases e
  exact⟨m,ay,aE,by assumption⟩
 ·cases e
def y8{ε:Ev}{ts:List T}(e:kE c i j ε=some ts):∃m ay,fh c i ε=some (m,ay)/\ay[j]?=some (.own ts):=by
 simp only[kE,b5] at e;obtain⟨⟨m,ay⟩,aE,e⟩:=e;split at e
 ·cases e
  exact⟨m,ay,aE,by assumption⟩
 ·cases e
def Le(k:hb X.K c C ns)(bj:X.A.units+1<cLine)(a8:bO X o (gJ i))(ax:eo X a g)(bw:ns[j]?=some f:=by rfl)(ae:i5 o f X.env (eval o X.env)=eval o X.env:=by rfl)(av:qV a:=by intro _ _;rfl):
  cf X (.Subscript (.Attribute o f apos) a pos) (k1 c i j g):=d7 (vG bj (qH a8 ae) ax av) λσ H Q ⟨aB,aK,O,F,ε,t,r,e,bQ⟩=>by
 simp only[k1,b5] at e;obtain⟨t',bp,key,fG,kvs,e3,kC⟩:=e;obtain⟨m,ay,aE,av⟩:=C1 e3;obtain⟨a,vs,bz,v,af,hx,aw,ax,a5,⟨b,us,c',ae,eO⟩,_⟩:=ov k r aE av bw;subst c';refine⟨_,af,a,C,bz,_,_,rfl,hx,k.cls,ma k bw,aw,aB,aK,O,F,ε,t',r,bp,λv aX H1 aJ aO=>?_⟩;have sL:=aJ.same.get ae;have uI:=eL.az (aJ.az (K:=X.K)) eO;obtain⟨w,hw,kh⟩:=uI.get kC;refine⟨b,w,rfl,?_,bQ w aX H1 aJ kh⟩;rw[rV fG aO,<- hw];exact me.k sL
def KC{K:bl}{aB F O aX:aj->Prop}{H H1:aA}{E:gq}{ε:Ev}{σ:bo.St}{b:aj}(r:cB K aB E O F H ε σ)(x:Ext F H aX H1)(a8:H b=none):
  ∀(k:Nat) (u:aM) (w:V),ε[k]?=some (some u)->σ[k]?=some (some w)->b∉dJ H1 u w:=λk u w fG aH ae=>by
 obtain⟨f7,af,ak⟩:=r.val k u fG;rw[aH] at af;cases af;rw[(ak.wN x).2] at ae;obtain⟨o,e,_⟩:=ak.at ae;rw[a8] at e;cases e
def gx(k:hb X.K c C ns)(a8:bO X o (gJ i))(he:cf X e g)(bw:ns[j]?=some f:=by rfl)(av:i6 e (some (.Attribute o f apos)) pos.line X.env=pure false:=by rfl):
  fM X (.Assign [.Attribute o f apos] e pos) (cy c i j g):=g9 (Lf a8 he av) λD σ H ⟨aB,aK,O,F,ε,o,r,e,bQ⟩=>by
 simp only[cy,b5,dN] at e;obtain⟨t,bp,ε',es,rfl⟩:=e;refine⟨aB,aK,O,F,ε,t,r,bp,λv aX H1 aJ aO=>?_⟩;have bg:=r.ext aJ;have fm:=es;unfold f6 at fm;simp only[b5] at fm;obtain⟨⟨m,ay⟩,aE,_⟩:=fm;obtain⟨a,vs,bz,af,hx,aw,ax,_⟩:=qI k bg aE;obtain⟨az,b7⟩:=bg.BK (s:=.ab t) (v:=v) k aE af ax es aO (λb ae=>by simp[dG] at ae) hx bw;refine⟨_,af,a,C,bz,_,rfl,hx,k.cls,ma k bw,?_,bQ σ aX _ (aJ.az.trans az) b7⟩;have:=k.oK;simp only[List.length_zip];omega
def vF(k:hb X.K c C ns)(a8:bO X o (gJ i))(he:oC X e g)(bw:ns[j]?=some f:=by rfl)(av:i6 e (some (.Attribute o f apos)) pos.line X.env=pure false:=by rfl):
  fM X (.Assign [.Attribute o f apos] e pos) (ha c i j g):=g9 (Lf a8 he av) λD σ H ⟨aB,aK,O,F,ε,o,r,e,bQ⟩=>by
 simp only[ha,b5] at e;obtain⟨t,bp,e⟩:=e;split at e
 next ts=>
  simp only[dN] at e;obtain⟨ε',es,rfl⟩:=e;refine⟨aB,aK,O,F,ε,ts,r,bp,λb us aX H1 aJ m6 gf ae aO=>?_⟩;have bg:=r.ext aJ;have fm:=es;unfold f6 at fm;simp only[b5] at fm;obtain⟨⟨m,ay⟩,aE,_⟩:=fm;obtain⟨a,vs,bz,af,hx,aw,ax,_⟩:=qI k bg aE;have hold:=KC r aJ m6;obtain⟨az,b7⟩:=bg.BK (s:=.own ts) (v:=.ref b) k aE af ax es ⟨b,us,rfl,ae,aO⟩ (λd hd=>by
   have:d=b:=by simpa [dG,gg] using hd
   subst this;exact⟨gf,r.fr _ m6,hold i _ _ (kr aE) af,λk u w _ fG _ aH=>hold k u w fG aH⟩) hx bw
  refine⟨_,af,a,C,bz,_,rfl,hx,k.cls,ma k bw,?_,bQ σ aX _ (aJ.az.trans az) b7⟩
  have:=k.oK;simp only[List.length_zip];omega
 next=>cases e
def Qm{x y:T}{z:Int}(h:mP x y=some z):∃p q,x=.int p/\y=.int q/\z=p+q:=by
 unfold mP at h;split at h
 ·cases h
  exact⟨_,_,rfl,rfl,rfl⟩
 ·cases h
def RK(k:hb X.K c C ns)(a8:bO X o (gJ i))(he:cf X e g)(bw:ns[j]?=some f:=by rfl):fM X (.AugAssign (.Attribute o f apos) .Add e pos) (mf c i j g):=
 g9 (afa a8 he R_) λD σ H ⟨aB,aK,O,F,ε,o,r,e,bQ⟩=>by
 simp only[mf,b5,dN] at e;obtain⟨x,ex,y,eQ,z,wO,ε',es,rfl⟩:=e;simp only[eR,b5] at ex;obtain⟨⟨m,ay⟩,aE,ex⟩:=ex;split at ex
 next t' av=>
  cases ex
  obtain⟨p,q,rfl,rfl,rfl⟩:=Qm wO;obtain⟨a,vs,bz,v,af,hx,aw,ax,a5,b9,_⟩:=ov k r aE av bw;refine⟨_,af,a,C,bz,_,v,rfl,hx,k.cls,ma k bw,aw,aB,aK,O,F,ε,_,r,eQ,λw aX H1 aJ aO=>?_⟩;have bg:=r.ext aJ;have ev:v=.int p:=by simpa [kT,Rep] using b9
  have kD:w=.int q:=by simpa [Rep] using aO
  obtain⟨lI,d_,uq,eS,kb,w8,lN,_⟩:=qI k bg aE;rw[af] at eS;cases eS;obtain⟨az,b7⟩:=bg.BK (s:=.ab (.int (p+q))) (v:=.int (p+q)) k aE af lN es (by simp[kT,Rep]) (λb ae=>by simp[dG] at ae) kb bw;refine⟨p,q,ev,kD,uq,_,kb,?_,bQ σ aX _ (aJ.az.trans az) b7⟩;have:=k.oK;simp only[List.length_zip];omega
 next=>cases ex
def RL(k:hb X.K c C ns)(a8:bO X o (gJ i)){iX dt:Pos}(he:cf X e g)(bw:ns[j]?=some f:=by rfl)(ae:i5 o f X.env (eval o X.env)=eval o X.env:=by rfl)
  (ka:bB [e] X.env=(false,eval e X.env)::bB [] X.env:=by rfl)
  (k4:i5 (.Attribute o f apos) "append" X.env (eval (.Attribute o f apos) X.env)=eval (.Attribute o f apos) X.env:=by rfl)
  (nU:((dR dt (bB [e] X.env)).all (λx=>!x.1) && (l4 dt (l3 [] X.env)).all (λx=>x.1.isSome)
   && decide (([e]:List bf).length+([]:List Keyword).length+(if ([]:List Keyword).isEmpty then 0 else 1)<30))=true:=by rfl)
  (k5:(iX.endLine==dt.line)=true:=by rfl) (nZ:(dR dt (bB [] X.env)).any (·.1)=false:=by rfl)
  (n1:i6 (.Call (.Attribute (.Attribute o f apos) "append" iX) [e] [] dt) none pos.line X.env=pure false:=by rfl):
  fM X (.Expr (.Call (.Attribute (.Attribute o f apos) "append" iX) [e] [] dt) pos) (jI c i j g):=
 g9 (zm (zJ yb PySem.F.slot_list_append PySem.F.type_list_append CZ (qH a8 ae) (i7 he lA ka) k4 nU k5 ka nZ) n1) λD σ H ⟨aB,aK,O,F,ε,o,r,e,bQ⟩=>by
 simp only[jI,b5] at e;obtain⟨t,bp,ts,fX,e⟩:=e;split at e
 next aq=>
  simp only[dN] at e;obtain⟨ε',es,rfl⟩:=e;obtain⟨m,ay,aE,av⟩:=y8 fX;obtain⟨a,vs,bz,v,af,hx,aw,ax,a5,⟨b,us,c',ae,eO⟩,_⟩:=ov k r aE av bw;subst c';refine⟨_,af,a,C,bz,_,_,rfl,hx,k.cls,ma k bw,aw,.inl ⟨rfl,_,f_.of ae⟩,aB,aK,O,F,ε,t,r,bp,λv aX H1 aJ aO=>?_⟩;have bg:=r.ext aJ;obtain⟨a1,ac1,ajm,v1,MY,AY,nW,AN,Nl,⟨bW,Ov,W6,sL,uI⟩,_⟩:=ov k bg aE av bw;rw[af] at MY;cases MY;have ev:ac1=vs:=by rw[<- AN.vals,<- (ax.keep ((aJ.same.get hx).trans hx.symm)).vals]
  subst ev;rw[a5] at Nl;cases Nl;cases W6;obtain⟨az,b7⟩:=bg.s_ (s':=.own (ts++[t])) (o':=.lst (Ov++[v])) aE af AN es av a5 (by simp[dG,gg]) rfl λaz=>⟨b,_,rfl,dI,(uI.az az).append (bk.cons (aO.az az) bk.nil)⟩;exact⟨b,Ov,v,rfl,rfl,sL,by rw[kQ,<- uI.length];exact aq,bQ σ aX _ (aJ.az.trans az) b7⟩
 next=>cases e
def ahD(k:hb X.K c C ns)(bj:X.A.units+1<cLine)(a8:bO X o (gJ i)){lb:Pos}(ax:eo X a h)(he:cf X e g)(bw:ns[j]?=some f:=by rfl)(ae:i5 o f X.env (eval o X.env)=eval o X.env:=by rfl)
  (av:i6 e (some (.Subscript (.Attribute o f apos) a lb)) pos.line X.env=pure false:=by rfl):
  fM X (.Assign [.Subscript (.Attribute o f apos) a lb] e pos) (ajQ c i j h g):=g9 (KX bj (qH a8 ae) ax he av) λD σ H ⟨aB,aK,O,F,ε,o,r,e,bQ⟩=>by
 simp only[ajQ,b5] at e;obtain⟨v,ev,t,bp,key,fG,kvs,e3,e⟩:=e;split at e
 next aq=>
  simp only[dN] at e;obtain⟨ε',es,rfl⟩:=e;obtain⟨m,ay,aE,av⟩:=C1 e3;refine⟨aB,aK,O,F,ε,v,r,ev,λtl aX H1 aJ aO=>?_⟩;have bg:=r.ext aJ;obtain⟨a,vs,bz,w,af,hx,aw,ax,a5,⟨b,us,c',ae,eO⟩,_⟩:=ov k bg aE av bw;subst c';refine⟨_,af,a,C,bz,_,_,rfl,hx,k.cls,ma k bw,aw,aB,aK,O,aX,ε,t,bg,bp,λvt c0 ba bq bb=>?_⟩;have b7:=bg.ext bq;have F9:gL ba a c vs:=ax.keep ((bq.same.get hx).trans hx.symm);have I0:=eL.az (bq.az (K:=X.K)) eO;obtain⟨az,hE⟩:=b7.s_ (s':=.hN (putD kvs key v)) (o':=.du (putK us key tl)) aE af F9 es av a5 (by simp[dG,gg]) rfl λaz=>⟨b,_,rfl,dI,eL.put (eL.az az I0) ((aO.ext bq).az az)⟩;refine⟨b,_,rfl,?_,bQ σ c0 _ ((aJ.trans bq).az.trans az) hE⟩;rw[rV fG bb];exact pL.k (bq.same.get ae) (by rw[kQ,<- eO.length];exact aq)
 next=>cases e
def agH(k:hb X.K c C ns)(bj:X.A.units+1<cLine)(a8:bO X o (gJ i)){lb:Pos}(ax:eo X a h)(he:cf X e g)(bw:ns[j]?=some f:=by rfl)(ae:i5 o f X.env (eval o X.env)=eval o X.env:=by rfl)
  (Xp:∀dU ew new,augStore a dU ew new=(do holding [new,dU,ew] (setItem dU ew new);release [new,dU,ew] [];pure .next):=by intros;rfl):
  fM X (.AugAssign (.Subscript (.Attribute o f apos) a lb) .Add e pos) (nB c i j h g):=g9 (agT bj (qH a8 ae) ax he R_ Xp) λD σ H ⟨aB,aK,O,F,ε,o,r,e,bQ⟩=>by
 simp only[nB,b5] at e;obtain⟨t,bp,key,fG,kvs,e3,x,kC,y,eQ,z,wO,e⟩:=e;split at e
 next aq=>
  simp only[dN] at e;obtain⟨ε',es,rfl⟩:=e;obtain⟨p,q,rfl,rfl,rfl⟩:=Qm wO;obtain⟨m,ay,aE,av⟩:=C1 e3;obtain⟨a,vs,bz,w,af,hx,aw,ax,a5,⟨b,us,c',ae,eO⟩,_⟩:=ov k r aE av bw;subst c';refine⟨_,af,a,C,bz,_,_,rfl,hx,k.cls,ma k bw,aw,aB,aK,O,F,ε,t,r,bp,λvt aX H1 aJ aO=>?_⟩;have bg:=r.ext aJ;have uI:=eL.az (aJ.az (K:=X.K)) eO;have sL:=aJ.same.get ae;obtain⟨w,hw,kh⟩:=uI.get kC;have kD:w=.int p:=by simpa [Rep] using kh
  subst kD;refine⟨b,_,rfl,by rw[rV fG aO,<- hw];exact me.k sL,aB,aK,O,aX,ε,_,bg,eQ,λtl c0 ba bq bb=>?_⟩;have ev:tl=.int q:=by simpa [Rep] using bb
  subst ev;refine⟨p,q,rfl,rfl,?_⟩;have b7:=bg.ext bq;have qk:=aJ.trans bq;have F9:gL ba a c vs:=ax.keep ((qk.same.get hx).trans hx.symm);have I0:=eL.az (qk.az (K:=X.K)) eO;obtain⟨az,hE⟩:=b7.s_ (s':=.hN (putD kvs key (.int (p+q)))) (o':=.du (putK us key (.int (p+q)))) aE af F9 es av a5 (by simp[dG,gg]) rfl λaz=>⟨b,_,rfl,dI,eL.put (eL.az az I0) (by simp[Rep])⟩;refine⟨_,?_,bQ σ c0 _ (qk.az.trans az) hE⟩;rw[rV fG aO];exact pL.k (qk.same.get ae) (by rw[kQ,<- eO.length];exact aq)
 next=>cases e
end
end
section
variable [c2]
noncomputable def r8(K:bl)(F:aj->Prop)(H:aA)(σ:bo.St):List pJ->List aM->List V->Prop
| [],[],[]=>True
|.v _::as,s::ss,v::vs=>(∃t,s=.ab t/\Rep K F H t v)/\r8 K F H σ as ss vs
|.o i::as,s::ss,v::vs=>σ[i]?=some (some v)/\r8 K F H σ as ss vs
|_,_,_=>False
noncomputable def acn(K:bl)(as:List pJ):f':=λσ H Q=>∃aB E O F ε ss,cB K aB E O F H ε σ/\q2 as ε=some ss/\∀vs aI ai,Ext F H aI ai->r8 K aI ai σ as ss vs->Q vs ai
abbrev zZ(X:bh)(es:List bf)(as:List pJ):Prop:=h5 X es (acn X.K as)
def SF{X:bh}{e:List bf}{t t':f'}(h:h5 X e t)(k:∀σ H Q,t' σ H Q->t σ H Q):h5 X e t':=zF h k
section
variable {X:bh}{e:bf}{es:List bf}{as:List pJ}{f:bD}{i:Nat}
def aiw:zZ X [] []:=SF lA λσ H Q ⟨aB,E,O,F,ε,ss,r,e,k⟩=>by
 cases e
 exact k [] F H (Ext.refl r.cj) trivial
def PW{ε:Ev}{s:aM}(h:ID i ε=some s):∃m c ay,s=.obj m c ay/\ε[i]?=some (some s):=by
 unfold ID at h;split at h
 next m c ay e=>
  cases h
  exact⟨m,c,ay,rfl,e⟩
 next=>cases h
def Up(af:bO X e (gJ i))(ak:zZ X es as)(av:bB (e::es) X.env=(false,eval e X.env)::bB es X.env:=by rfl):zZ X (e::es) (.o i::as):=SF (i7 af ak av) λσ H Q ⟨aB,E,O,F,ε,ss,r,e,k⟩=>by
 simp only[q2,b5,dN] at e;obtain⟨s,fm,us,e4,rfl⟩:=e;obtain⟨m,c,ay,_,av⟩:=PW fm;obtain⟨v,af,_⟩:=r.val i s av;exact⟨v,af,aB,E,O,F,ε,us,r,e4,λvs c0 ba bq bb=>k _ c0 ba bq ⟨af,bb⟩⟩
end
noncomputable def DK(K:bl)(F:aj->Prop)(H:aA)(ss:List aM)(vs:List V):Prop:=Paired (λs v=>s.iN=false/\eE K ⟨H,0⟩ (λa=>H a=none) F H s v) ss vs
noncomputable def I9(K:bl)(n:Nat)(d:List aM->Option T):kz:=λvs H Q _=>vs.length=n/\∃F ss t,gM F H/\DK K F H ss vs/\d ss=some t/\∀v aI ai,Ext F H aI ai->Rep K aI ai t v->Q v ai
section
variable {K:bl}{F aI aB O:aj->Prop}{H ai:aA}{E qR:gq}
theorem Paired.get{α β:Type}{R:α->β->Prop}:∀{xs:List α} {ys:List β} {i:Nat} {x:α},Paired R xs ys->xs[i]?=some x->∃y,ys[i]?=some y/\R x y
|_,_,i,x,.nil,e=>by simp at e
|_,_,0,x,.cons r _,e=>by
  simp at e;subst e;exact⟨_,rfl,r⟩
|_,_,i+1,x,.cons _ t,e=>by
  obtain⟨y,af,ak⟩:=Paired.get (i:=i) (x:=x) t (by simpa using e);exact⟨y,by simpa using af,ak⟩
def y4{ss:List aM}{n i:Nat}{s:aM}(h:(jz n ss)[i]?=some (some s)):ss[i]?=some s:=by
 unfold jz at h;by_cases aS:i<ss.length
 ·rw[uW (by simpa using aS),hq,gT aS] at h;rw[gT aS];simpa using h
 ·rw[uV (by simpa using aS),List.getElem?_replicate] at h;split at h <;> cases h
def PO{vs:List V}{n i:Nat}{v:V}(h:vs[i]?=some v):(vs.map some++dW n none)[i]?=some (some v):=by
 have aS:=(fC.mp h).1;rw[uW (by simpa using aS),hq,h];rfl
def Lq{m:hg}{c:Nat}{ay:List aM}{v:V}(r:eE K E O F H (.obj m c ay) v)(qR:gq)(nI:aj->Prop)(he:∀b∈dJ H (.obj m c ay) v,qR.h b≠none):eE K qR nI F H (.obj .fR c ay) v:=by
 have cw:=r;obtain⟨a,vs,rfl,ax,hf,aW,fp,g6⟩:=r;rw[i9 ax] at he;exact⟨a,vs,rfl,ax,hf,aW,λb ae=>⟨(fp b ae).1,he b ae⟩,λz=>by cases z⟩
def ad8{ss:List aM}{vs:List V}(cj:gM F H)(q:DK K F H ss vs)(n:Nat):cB K F ⟨H,0⟩ (λa=>H a=none) F H (jz n ss) (vs.map some++dW (n - vs.length) none):=by
 have aw:ss.length=vs.length:=Paired.length q;refine⟨by simp[jz,aw],λi s e=>?_,λi j s u v w kF aQ a9 dT=>?_,Ext.refl cj,λ_ h=>h,λ_ h=>h⟩
 ·obtain⟨v,a5,_,b9⟩:=Paired.get q (y4 e);exact⟨v,PO a5,b9⟩
 ·obtain⟨_,_,z,_⟩:=Paired.get q (y4 aQ);rw[z] at dT;cases dT
theorem Lp{ε:Ev}{σ:bo.St}(r:cB K aB E O F H ε σ):∀{as:List pJ} {ss:List aM} {vs:List V},q2 as ε=some ss->r8 K F H σ as ss vs->DK K F H (ss.map I3) vs
| [],ss,vs,e,h=>by
  cases e
  cases vs with
  |nil=>exact .nil
  |cons v vs=>exact h.elim
|.v f::as,ss,vs,e,h=>by
  simp only[q2,b5,dN] at e;obtain⟨t,bp,us,e4,rfl⟩:=e;cases vs with
  |nil=>exact h.elim
  |cons v vs=>
   obtain⟨⟨t',bT,fa⟩,h⟩:=h;cases bT;exact .cons ⟨rfl,fa⟩ (Lp r e4 h)
|.o i::as,ss,vs,e,h=>by
  simp only[q2,b5,dN] at e;obtain⟨s,es,us,e4,rfl⟩:=e;cases vs with
  |nil=>exact h.elim
  |cons v vs=>
   obtain⟨a5,h⟩:=h;obtain⟨m,c,ay,rfl,av⟩:=PW es;obtain⟨kI,sV,rs⟩:=r.val i _ av;rw[a5] at sV;cases sV;refine .cons ⟨rfl,Lq rs _ _ λb ae=>?_⟩ (Lp r e4 h);obtain⟨o,e,_⟩:=rs.at ae;show H b≠none;rw[e];exact λz=>by cases z
theorem Q3:∀{ts:List T} {vs:List V},bk K F H ts vs->DK K F H (ts.map .ab) vs
| [],vs,h=>by
  simp only[bk] at h;subst h;exact .nil
|t::ts,vs,h=>by
  simp only[bk] at h;obtain⟨v,z,rfl,q,h⟩:=h;exact .cons ⟨rfl,q⟩ (Q3 h)
end
section
variable {P:cR}{w:cu}{K:bl}{mg:Str->Option ao}{base:b0}
def Ro{x qual:Str}{st:Stmt}{f:aj}{fd:gj}{N ps:List Str}{k:Nat}{b:bu}(F:c1 K x qual st f fd)(S:dc N ps (cp st))
  (ae:∀(cW:ao) (A:c9) (outer:List Env) (s:aP) (H:aA) (E:gN),d4 k (A.deeper (envOfC qual (cp st) s.heap.objs.size f cW)) ->
   iz (jL ajN P w K mg base N qual (cp st) f cW A outer s H E).kG (jx st) b):
  fw P w K mg base ajN (k+1) f fd ps (I9 K ps.length (iQ b N.length)):=by
 refine F.ok S (λvs H Q E h=>h.1) λcW A outer s H vs Q E ar h=>⟨_,ae cW A outer s H E ar,?_⟩
 obtain⟨aw,F,ss,t,cj,q,e,m9⟩:=h;simp only[iQ,b5] at e;obtain⟨o,et,e⟩:=e;refine⟨F,⟨H,0⟩,λa=>H a=none,F,_,o,?_,et,?_⟩
 ·unfold bo.start;exact ad8 cj q N.length
 ·cases o with
  |fa t'=>
   cases e
   exact λv aI ai x q=>m9 v aI ai x q
  |bY ε'=>
   cases e
   exact λcn aI ai _ r=>m9 _ aI ai r.ent (by simp[Rep])
  |iD _=>cases e
  |e' _=>cases e
  |gh _ _=>cases e
  |lU _=>cases e
structure r_(P:cR)(w:cu)(K:bl)(mg:Str->Option ao)(base:b0)(x:Str)(k n:Nat)(d:List aM->Option T):Prop where
 ex:∃cA fd ps,fw P w K mg base ajN k cA fd ps (I9 K n d)/\mg x=some (.ref cA)/\ni K (.ref cA)=true/\Binds K fd ps []
theorem r_.mono{x:Str}{k n j:Nat}{d:List aM->Option T}(c:r_ P w K mg base x j n d)(h:j<=k):r_ P w K mg base x k n d:=by
 obtain⟨cA,fd,ps,F,r⟩:=c.ex;exact⟨cA,fd,ps,F.mono h,r⟩
def aiu{x:Str}{st:Stmt}{f:aj}{fd:gj}{N ps:List Str}{k:Nat}{b:bu}(F:c1 K x x st f fd)(S:dc N ps (cp st))(bd:Binds K fd ps [])(m:mg x=some (.ref f))
  (ae:∀(cW:ao) (A:c9) (outer:List Env) (s:aP) (H:aA) (E:gN),d4 k (A.deeper (envOfC x (cp st) s.heap.objs.size f cW)) ->
   iz (jL ajN P w K mg base N x (cp st) f cW A outer s H E).kG (jx st) b):r_ P w K mg base x (k+1) ps.length (iQ b N.length):=⟨f,fd,ps,Ro F S ae,m,F.az,bd⟩
structure j6(P:cR)(w:cu)(K:bl)(mg:Str->Option ao)(base:b0)(C:aj)(m:Str)(k n:Nat)(d:List aM->Option T):Prop where
 ex:∃cA fd ps,fw P w K mg base ajN k cA fd ps (I9 K n d)/\Meth K C m cA/\Binds K fd ps []
theorem j6.mono{C:aj}{m:Str}{k n j:Nat}{d:List aM->Option T}(c:j6 P w K mg base C m j n d)(h:j<=k):j6 P w K mg base C m k n d:=by
 obtain⟨cA,fd,ps,F,r⟩:=c.ex;exact⟨cA,fd,ps,F.mono h,r⟩
def zA{C:aj}{m qual:Str}{st:Stmt}{f:aj}{fd:gj}{N ps:List Str}{k:Nat}{b:bu}(F:c1 K m qual st f fd)(S:dc N ps (cp st))(bd:Binds K fd ps [])(k8:Meth K C m f)
  (ae:∀(cW:ao) (A:c9) (outer:List Env) (s:aP) (H:aA) (E:gN),d4 k (A.deeper (envOfC qual (cp st) s.heap.objs.size f cW)) ->
   iz (jL ajN P w K mg base N qual (cp st) f cW A outer s H E).kG (jx st) b):j6 P w K mg base C m (k+1) ps.length (iQ b N.length):=⟨f,fd,ps,Ro F S ae,k8,bd⟩
end
theorem tT:∀{eN:List bD} {ε:Ev} {us:List T},args eN ε=some us->us.length=eN.length
| [],ε,us,e=>by
  cases e
  rfl
|g::eN,ε,us,e=>by
  simp only[args,b5,dN] at e;obtain⟨t,_,vs,ev,rfl⟩:=e;simp[tT ev]
theorem r8.len{K:bl}{F:aj->Prop}{H:aA}{σ:bo.St}:∀{as:List pJ} {ss:List aM} {vs:List V},r8 K F H σ as ss vs->vs.length=as.length
| [],[],[],_=>rfl
|.v _::as,s::ss,v::vs,h=>by simp[r8.len h.2]
|.o i::as,s::ss,v::vs,h=>by simp[r8.len h.2]
| [],[],_::_,h=>h.elim
| [],_::_,_,h=>h.elim
|.v _::_,[],_,h=>h.elim
|.v _::_,_::_,[],h=>h.elim
|.o _::_,[],_,h=>h.elim
|.o _::_,_::_,[],h=>h.elim
section
variable {X:bh}{k n c C i:Nat}{ns:List Str}{d:List aM->Option T}{x m:Str}{p pos apos:Pos}{o e:bf}{es:List bf}{as:List pJ}{ay:List bD}
def agP(j3:r_ X.prog X.w X.K X.mg X.base x k n d)(ar:d4 k X.A)(ax:zZ X (e::es) as)(br:fi X x:=by rfl)(a8:as.length=n:=by rfl)(iL:(x==("__debug__":Str))=false:=by decide)
  (he:bB (e::es) X.env=(false,eval e X.env)::bB es X.env:=by rfl) (hpl:(dR pos (bB es X.env)).any (·.1)=false:=by rfl):cf X (.Call (.Name x p) (e::es) [] pos) (zO d as):=by
 obtain⟨cA,fd,ps,F,hm,az,b⟩:=j3.ex;refine d7 (zo F ar br hm az b .nil pG ax iL he hpl) λσ H Q ⟨aB,E,O,F,ε,t,r,e,k⟩=>?_;simp only[zO,b5] at e;obtain⟨ss,es,e3⟩:=e;refine⟨aB,E,O,F,ε,ss,r,es,λvs aX H1 aJ q=>⟨?_,aX,ss.map I3,t,aJ.cj,?_,e3,λv aI ai bq bb=>k v aI ai (aJ.trans bq) bb⟩⟩
 ·rw[mE,q.len,a8]
 ·rw[mE];exact Lp (r.ext aJ) es q
def zl(iO:hb X.K c C ns)(j3:j6 X.prog X.w X.K X.mg X.base C m k n d)(ar:d4 k X.A)(a8:bO X o (gJ i))(ax:lE X (e::es) ay){pl:Sem Bool}(hm:m∉ns:=by decide +kernel)(aw:ay.length+1=n:=by rfl)
  (mq:bB (e::es) X.env=(false,eval e X.env)::bB es X.env:=by rfl) (hpl:(dR pos (bB es X.env)).any (·.1)=false:=by rfl)
  (aR:eval (.Call (.Attribute o m apos) (e::es) [] pos) X.env=(do
   let dU <- eval o X.env
   standAt apos.atName
   let (f,first) <- holding [dU] (getMethod dU m pl)
   callWith pos f first (dR pos (bB (e::es) X.env)) (l4 pos (l3 [] X.env))):=by rfl):cf X (.Call (.Attribute o m apos) (e::es) [] pos) (kR c d i ay):=by
 obtain⟨cA,fd,ps,F,k8,b⟩:=j3.ex;refine d7 (Q_ a8 iO.cls k8 F ar b .nil pG ax mq hpl aR) λσ H Q ⟨aB,E,O,F,ε,t,r,e,k⟩=>?_;simp only[kR,b5] at e;obtain⟨⟨gd,os⟩,aE,ts,bp,e3⟩:=e;obtain⟨a,vs,bz,af,hx,_⟩:=qI iO r aE;refine⟨_,af,a,bz,_,rfl,hx,yo hm,aB,E,O,F,ε,ts,r,bp,λws aX H1 aJ q=>⟨?_,aX,_,t,aJ.cj,?_,e3,λv aI ai bq bb=>k v aI ai (aJ.trans bq) bb⟩⟩
 ·rw[mE,hF,<- q.length,tT bp,aw]
 ·rw[mE];have bg:=r.ext aJ;obtain⟨kI,eS,rs⟩:=bg.val i _ (kr aE);rw[af] at eS;cases eS;refine .cons ⟨rfl,Lq rs _ _ λb ae=>?_⟩ (Q3 q);obtain⟨o,e,_⟩:=rs.at ae;show H1 b≠none;rw[e];exact λz=>by cases z
end
end
section
variable [c2]
open Classical in
noncomputable def h3(H:aA)(P:List aj)(a:aj):gq:=⟨λb=>if b∈P then none else H b,a⟩
section
variable {K:bl}{F aI aB O:aj->Prop}{H ai:aA}{E:gq}{P:List aj}{a b:aj}{o:eW}{ε:Ev}{σ:bo.St}{c i:Nat}{m:hg}{ay h_:List aM}
def C8(h:b∈P):(h3 H P a).h b=none:=if_pos h
def tL(h:b∉P):(h3 H P a).h b=H b:=if_neg h
def CM(h:(h3 H P a).h b=none):b∈P\/H b=none:=by
 by_cases z:b∈P
 ·exact .inl z
 ·rw[tL z] at h;exact .inr h
def aez(h:(h3 H P a).h b=some o):b∉P/\H b=some o:=by
 by_cases z:b∈P
 ·rw[C8 z] at h;cases h
 ·exact⟨z,by rw[tL z] at h;exact h⟩
def agg(d:gM F H):Ext F (h3 H P a).h F H:=⟨λ_ _ q=>.inl (aez q).2,λ_ h=>h,λ_ h=>.inl h,d⟩
def Rd{v:V}(r:eE K E O F H (.obj m c ay) (.ref a)):eE K (h3 H (dJ H (.obj m c ay) (.ref a)) a) (λb=>(h3 H (dJ H (.obj m c ay) (.ref a)) a).h b=none) F H (.obj .cN c ay) (.ref a):=by
 obtain⟨lI,vs,e,ax,hf,aW,fp,g6⟩:=r;cases e;rw[i9 ax];exact⟨a,vs,rfl,ax,hf,aW,λb ae=>⟨(fp b ae).1,C8 ae⟩,λ_=>rfl⟩
def cB.back(r:cB K aB E O F H ε σ)(e:ε[i]?=some (some (.obj m c ay)))(hm:m≠.fR)(af:σ[i]?=some (some (.ref a)))(ib:P=dJ H (.obj m c ay) (.ref a))(x:Ext F (h3 H P a).h aI ai)
  (rs:eE K (h3 H P a) (λb=>(h3 H P a).h b=none) aI ai (.obj .cN c h_) (.ref a)):eG K F H aI ai/\cB K aB E O aI ai (ε.set i (some (.obj m c h_))) σ:=by
 obtain⟨v,eS,kg⟩:=r.val i _ e;rw[af] at eS;cases eS;have rb:(aM.obj m c ay).iN=true:=zy hm;have sZ:∀b∈P,(∃o,H b=some o/\nH o)/\¬F b/\O b:=λb ae=>by
  rw[ib] at ae;exact⟨kg.at ae,(kg.held ae).1,(kg.held ae).2.1 rb⟩
 have lh:∀b o,b∉P->H b=some o->(∀ps,o≠.lj ps)->ai b=some o:=λb o ae e n=>x.same.get (by rw[tL ae];exact e) n;have az:eG K F H aI ai:=by
  refine⟨λb xs q=>?_,λb xs f q=>⟨x.sub b f,?_⟩⟩
  ·rcases q with q|q
   ·refine .inl ?_
    have nb:b∉P:=λz=>by
     obtain⟨⟨o,et,aE⟩,_⟩:=sZ b z;rcases q with q|⟨_,q⟩ <;> (rw[et] at q;cases q;exact aE.cases (λ_ z=>by cases z) (λ_ z=>by cases z) (λ_ _ _ z=>by cases z))
    rcases q with q|⟨u,q⟩
    ·exact .inl (lh b _ nb q λ_ z=>by cases z)
    ·exact .inr ⟨u,lh b _ nb q λ_ z=>by cases z⟩
   ·exact .inr q
  ·have nb:b∉P:=λz=>(sZ b z).2.1 f;rcases q with q|⟨u,q⟩
   ·exact .inl (lh b _ nb q λ_ z=>by cases z)
   ·exact .inr ⟨u,lh b _ nb q λ_ z=>by cases z⟩
 have NL:∀b,aI b->F b\/b∈P\/H b=none:=λb f=>by
  rcases x.new b f with z|z
  ·exact .inl z
  ·exact .inr (CM z)
 have keep:∀(j:Nat) (u:aM) (w:V),i≠j->ε[j]?=some (some u)->σ[j]?=some (some w)->eE K E O F H u w->(∀b∈dJ H u w,b∉P)/\eE K E O aI ai u w/\dJ ai u w=dJ H u w:=by
  intro j u w kF pZ bw ee;have Ih:∀b∈dJ H u w,b∉P:=λb ae z=>by
   cases ro:u.iN with
   |true=>exact r.ne i j _ u _ w kF e pZ rb ro af bw b (ib▸z) ae
   |false=>exact (ee.held ae).2.2 ro (r.o0 b (sZ b z).2.2)
  refine⟨Ih,ee.keep az (λb ae=>?_) (λb ae f=>?_) λ_ _ o=>o⟩
  ·obtain⟨o,et,aE⟩:=ee.at ae;rw[et];exact lh b o (Ih b ae) et λps z=>by subst z;exact aE.cases (λ_ z=>by cases z) (λ_ z=>by cases z) (λ_ _ _ z=>by cases z)
  ·rcases NL b f with z|z|z
   ·exact z
   ·exact absurd z (Ih b ae)
   ·obtain⟨o,et,_⟩:=ee.at ae;rw[z] at et;cases et
 obtain⟨lI,vs,dy,ax,hf,aW,fp,_⟩:=rs;cases dy;have lM:∀b∈a::cU h_ vs,¬aI b/\(b∈P\/H b=none):=λb ae=>by
  obtain⟨n,q⟩:=fp b ae;exact⟨n,CM q⟩
 have ajB:(aM.obj m c h_).iN=true:=zy hm;have Zl:m=.cN->a=E.g6:=by
  obtain⟨_,_,eB,_,_,_,_,g6⟩:=kg;cases eB;exact g6
 have aar:∀b,¬aI b/\O b->qW E O aI m b:=λb h=>by
  cases m with
  |fR=>exact absurd rfl hm
  |own=>exact h
  |cN=>exact h
 have xN:eE K E O aI ai (.obj m c h_) (.ref a):=⟨a,vs,rfl,ax,hf,aW,λb ae=>aar b ⟨(lM b ae).1,by
  rcases (lM b ae).2 with z|z
  ·exact (sZ b z).2.2
  ·exact r.fr b z⟩,Zl⟩
 have gD:dJ ai (.obj m c h_) (.ref a)=a::cU h_ vs:=i9 ax;have apart:∀(j:Nat) (u:aM) (w:V),i≠j->ε[j]?=some (some u)->σ[j]?=some (some w)->eE K E O F H u w->∀b∈dJ ai (.obj m c h_) (.ref a),b∉dJ H u w:=λj u w kF pZ bw ee b ae i0=>by
  rw[gD] at ae;rcases (lM b ae).2 with z|z
  ·exact (keep j u w kF pZ bw ee).1 b i0 z
  ·obtain⟨o,et,_⟩:=ee.at i0;rw[z] at et;cases et
 refine⟨az,⟨by simp[r.len],λj u bT=>?_,λj k u w fs mB oO aQ a9 dT fA aO bb=>?_,⟨λb o q=>?_,λb f=>x.sub b (r.ent.sub b f),λb f=>?_,x.cj⟩,r.o0,λb bT=>?_⟩⟩
 ·rcases get_set bT with ⟨rfl,pY,aw⟩|⟨ne,pY⟩
  ·cases pY
   exact⟨_,af,xN⟩
  ·obtain⟨w,ak,ee⟩:=r.val j u pY;exact⟨w,ak,(keep j u w ne pY ak ee).2.1⟩
 ·rcases get_set aQ with ⟨rfl,bT,aw⟩|⟨ne1,kB⟩
  ·rcases get_set a9 with ⟨rfl,_,_⟩|⟨ne2,hO⟩
   ·exact absurd rfl oO
   ·cases bT
    rw[af] at aO;cases aO;obtain⟨f7,ak,ee⟩:=r.val k w hO;rw[bb] at ak;cases ak;rw[(keep k w mB ne2 hO bb ee).2.2];exact apart k w mB ne2 hO bb ee
  ·obtain⟨v1,ak,bg⟩:=r.val j u kB;rw[aO] at ak;cases ak;rw[(keep j u fs ne1 kB aO bg).2.2];rcases get_set a9 with ⟨rfl,bT,aw⟩|⟨ne2,hO⟩
   ·cases bT
    rw[af] at bb;cases bb;intro b ae i0;exact apart j u fs ne1 kB aO bg b i0 ae
   ·obtain⟨f7,bA,b7⟩:=r.val k w hO;rw[bb] at bA;cases bA;rw[(keep k w mB ne2 hO bb b7).2.2];exact r.ne j k u w fs mB oO kB hO dT fA aO bb
 ·have nb:b∉P:=λz=>by
   rw[r.o0 b (sZ b z).2.2] at q;cases q
  rcases r.ent.same b o q with z|⟨ps,xI,aQ,z⟩
  ·exact x.same b o (by rw[tL nb];exact z)
  ·rcases x.same b _ (by rw[tL nb];exact z) with ir|⟨_,xJ,_,ir⟩
   ·exact .inr ⟨ps,xI,aQ,ir⟩
   ·exact .inr ⟨ps,xJ,aQ,ir⟩
 ·rcases NL b f with z|z|z
  ·exact r.ent.new b z
  ·exact .inr (r.o0 b (sZ b z).2.2)
  ·exact .inr (r.o0 b (r.fr b z))
 ·rcases CM (x.same.none bT) with z|z
  ·exact (sZ b z).2.2
  ·exact r.fr b z
end
noncomputable def qe(K:bl)(n c p:Nat)(d:List aM->Option (T×List aM)):kz:=λvs H Q _=>vs.length=n/\∃(F:aj->Prop) (ss:List aM) (a:aj) (P:List aj) (ay:List aM) (r:T×List aM),gM F H/\vs[p]?=some (.ref a)/\ss[p]?=some (.obj .cN c ay) /\
 Paired (λs v=>eE K (h3 H P a) (λb=>(h3 H P a).h b=none) F H s v) ss vs/\(∀q s,q≠p->ss[q]?=some s->s.iN=false)/\d ss=some r /\
 ∀v aI ai,Ext F (h3 H P a).h aI ai->Rep K aI ai r.1 v->eE K (h3 H P a) (λb=>(h3 H P a).h b=none) aI ai (.obj .cN c r.2) (.ref a)->Q v ai
section
variable {P:cR}{w:cu}{K:bl}{mg:Str->Option ao}{base:b0}
def aeb{c p:Nat}{ε:Ev}{ay:List aM}(h:l8 c p ε=some ay):ε[p]?=some (some (.obj .cN c ay)):=by
 unfold l8 at h;split at h
 next dY h_ e=>
  split at h
  next aD=>
   cases h
   rw[e,aD]
  next=>cases h
 next=>cases h
def K1{x qual:Str}{st:Stmt}{f:aj}{fd:gj}{N ps:List Str}{k c p:Nat}{b:bu}(F:c1 K x qual st f fd)(S:dc N ps (cp st))
  (ae:∀(cW:ao) (A:c9) (outer:List Env) (s:aP) (H:aA) (E:gN),d4 k (A.deeper (envOfC qual (cp st) s.heap.objs.size f cW)) ->
   iz (jL ajN P w K mg base N qual (cp st) f cW A outer s H E).kG (jx st) b):
  fw P w K mg base ajN (k+1) f fd ps (qe K ps.length c p (runM c p b N.length)):=by
 refine F.ok S (λvs H Q E h=>h.1) λcW A outer s H vs Q E ar h=>⟨_,ae cW A outer s H E ar,?_⟩
 obtain⟨aw,F,ss,a,sg,ay,r,cj,a5,av,q,aE,e,m9⟩:=h;simp only[runM,b5] at e;obtain⟨o,et,e⟩:=e;have hlen:ss.length=vs.length:=Paired.length q;refine⟨F,h3 H sg a,λb=>(h3 H sg a).h b=none,F,_,o,?_,et,?_⟩
 ·unfold bo.start;refine⟨by simp[jz,hlen],λi s e=>?_,λi j s u v w kF aQ a9 dT fA=>?_,agg cj,λ_ h=>h,λb ae=>?_⟩
  ·obtain⟨v,a5,b9⟩:=Paired.get q (y4 e);exact⟨v,PO a5,b9⟩
  ·by_cases aS:i=p
   ·subst aS;rw[aE j u (Ne.symm kF) (y4 a9)] at fA;cases fA
   ·rw[aE i s aS (y4 aQ)] at dT;cases dT
  ·by_cases z:b∈sg
   ·exact C8 z
   ·exact (tL z).trans ae
 ·have fin:∀{ε':Ev} {cn:bo.St} {aI:aj->Prop} {ai:aA} {h_:List aM},cB K F (h3 H sg a) (λb=>(h3 H sg a).h b=none) aI ai ε' cn->l8 c p ε'=some h_->eE K (h3 H sg a) (λb=>(h3 H sg a).h b=none) aI ai (.obj .cN c h_) (.ref a):=λcw fX=>by
   obtain⟨kI,_,rs⟩:=cw.val p _ (aeb fX);have xN:=rs;obtain⟨lI,_,rfl,_,_,_,_,g6⟩:=rs;have:lI=a:=g6 rfl;subst this;exact xN
  cases o with
  |fa t'=>cases e
  |bY ε'=>
   simp only[dN] at e;obtain⟨h_,fX,rfl⟩:=e;exact λcn aI ai _ cw=>m9 _ aI ai cw.ent (by simp[Rep]) (fin cw fX)
  |iD _=>cases e
  |e' _=>cases e
  |gh t ε'=>
   simp only[dN] at e;obtain⟨h_,fX,rfl⟩:=e;exact λv cn aI ai cw b9=>m9 v aI ai cw.ent b9 (fin cw fX)
  |lU _=>cases e
structure dA(P:cR)(w:cu)(K:bl)(mg:Str->Option ao)(base:b0)(C:aj)(c:Nat)(m:Str)(k n:Nat)(d:List aM->Option (T×List aM)):Prop where
 ex:∃cA fd ps,fw P w K mg base ajN k cA fd ps (qe K n c 0 d)/\Meth K C m cA/\Binds K fd ps []
theorem dA.mono{C:aj}{c:Nat}{m:Str}{k n j:Nat}{d:List aM->Option (T×List aM)}(h:dA P w K mg base C c m j n d)(bw:j<=k):dA P w K mg base C c m k n d:=by
 obtain⟨cA,fd,ps,F,r⟩:=h.ex;exact⟨cA,fd,ps,F.mono bw,r⟩
def jX{C:aj}{m qual:Str}{st:Stmt}{f:aj}{fd:gj}{N ps:List Str}{k c:Nat}{b:bu}(F:c1 K m qual st f fd)(S:dc N ps (cp st))(bd:Binds K fd ps [])(k8:Meth K C m f)
  (ae:∀(cW:ao) (A:c9) (outer:List Env) (s:aP) (H:aA) (E:gN),d4 k (A.deeper (envOfC qual (cp st) s.heap.objs.size f cW)) ->
   iz (jL ajN P w K mg base N qual (cp st) f cW A outer s H E).kG (jx st) b):dA P w K mg base C c m (k+1) ps.length (runM c 0 b N.length):=⟨f,fd,ps,K1 F S ae,k8,bd⟩
structure gp(P:cR)(w:cu)(K:bl)(mg:Str->Option ao)(base:b0)(x:Str)(c p k n:Nat)(d:List aM->Option (T×List aM)):Prop where
 ex:∃cA fd ps,fw P w K mg base ajN k cA fd ps (qe K n c p d)/\mg x=some (.ref cA)/\ni K (.ref cA)=true/\Binds K fd ps []
theorem gp.mono{x:Str}{c p k n j:Nat}{d:List aM->Option (T×List aM)}(h:gp P w K mg base x c p j n d)(bw:j<=k):gp P w K mg base x c p k n d:=by
 obtain⟨cA,fd,ps,F,r⟩:=h.ex;exact⟨cA,fd,ps,F.mono bw,r⟩
def r0{x:Str}{st:Stmt}{f:aj}{fd:gj}{N ps:List Str}{k c p:Nat}{b:bu}(F:c1 K x x st f fd)(S:dc N ps (cp st))(bd:Binds K fd ps [])(m:mg x=some (.ref f))
  (ae:∀(cW:ao) (A:c9) (outer:List Env) (s:aP) (H:aA) (E:gN),d4 k (A.deeper (envOfC x (cp st) s.heap.objs.size f cW)) ->
   iz (jL ajN P w K mg base N x (cp st) f cW A outer s H E).kG (jx st) b):gp P w K mg base x c p (k+1) ps.length (runM c p b N.length):=⟨f,fd,ps,K1 F S ae,m,F.az,bd⟩
end
noncomputable def tX(K:bl)(f:qS):TE:=λσ H Q=>∃aB E O F ε t ε',cB K aB E O F H ε σ/\f ε=some (t,ε')/\∀v aI ai,eG K F H aI ai->cB K aB E O aI ai ε' σ->Rep K aI ai t v->Q v ai
abbrev uc(X:bh)(e:bf)(f:qS):Prop:=bO X e (tX X.K f)
section
variable {X:bh}{k n c C i:Nat}{ns:List Str}{d:List aM->Option (T×List aM)}{x m:Str}{p pos apos:Pos}{o e:bf}{es:List bf}{ay eN:List bD}{AJ:qS}
theorem Dj{K:bl}{E:gq}{O F:aj->Prop}{H:aA}:∀{ts:List T} {vs:List V},bk K F H ts vs->Paired (λs v=>eE K E O F H s v) (ts.map .ab) vs
| [],vs,h=>by
  simp only[bk] at h;subst h;exact .nil
|t::ts,vs,h=>by
  simp only[bk] at h;obtain⟨v,z,rfl,q,h⟩:=h;exact .cons q (Dj h)
def K0{ts:List T}{q:Nat}{s:aM}(h:(ts.map aM.ab)[q]?=some s):s.iN=false:=by
 rw[hq] at h;cases e:ts[q]? with
|none=>rw[e] at h;cases h
|some t=>rw[e] at h;cases h;rfl
def KA{σ:bo.St}{H H1:aA}{aB O F aX:aj->Prop}{E:gq}{ε:Ev}{gd:hg}{os:List aM}{a:aj}{Q:dx}{ws:List V}{ts:List T}{r:T×List aM}(IY:cB X.K aB E O F H ε σ)(aE:fh c i ε=some (gd,os))(hm:gd≠.fR)(af:σ[i]?=some (some (.ref a)))
  (aJ:Ext F H aX H1) (q:bk X.K aX H1 ts ws) (e3:d (.obj .cN c os::ts.map .ab)=some r) (aw:ts.length+1=n)
  (bQ:∀v aI ai,eG X.K F H aI ai->cB X.K aB E O aI ai (ε.set i (some (.obj gd c r.2))) σ->Rep X.K aI ai r.1 v->Q v ai):qe X.K n c 0 d (.ref a::ws) H1 Q aj3:=by
 have bg:=IY.ext aJ;obtain⟨kI,eS,rs⟩:=bg.val i _ (kr aE);rw[af] at eS;cases eS;refine⟨by simp[<- q.length,aw],aX,_,a,dJ H1 (.obj gd c os) (.ref a),os,r,aJ.cj,rfl,rfl,.cons (Rd (v:=.ref a) rs) (Dj q),λj s bw av=>?_,e3,λv aI ai bq b9 I4=>?_⟩
 ·cases j with
  |zero=>exact absurd rfl bw
  |succ j=>exact K0 (q:=j) (by simpa using av)
 ·obtain⟨az,b7⟩:=bg.back (kr aE) hm af rfl bq I4;exact bQ v aI ai (aJ.az.trans az) b7 b9
def f9(iO:hb X.K c C ns)(j3:dA X.prog X.w X.K X.mg X.base C c m k n d)(ar:d4 k X.A)(a8:bO X o (gJ i))(ax:lE X (e::es) ay){pl:Sem Bool}(hm:m∉ns:=by decide +kernel)(aw:ay.length+1=n:=by rfl)
  (mq:bB (e::es) X.env=(false,eval e X.env)::bB es X.env:=by rfl) (hpl:(dR pos (bB es X.env)).any (·.1)=false:=by rfl)
  (aR:eval (.Call (.Attribute o m apos) (e::es) [] pos) X.env=(do
   let dU <- eval o X.env
   standAt apos.atName
   let (f,first) <- holding [dU] (getMethod dU m pl)
   callWith pos f first (dR pos (bB (e::es) X.env)) (l4 pos (l3 [] X.env))):=by rfl):uc X (.Call (.Attribute o m apos) (e::es) [] pos) (dS c d i ay):=by
 obtain⟨cA,fd,ps,F,k8,b⟩:=j3.ex;refine d7 (Q_ a8 iO.cls k8 F ar b .nil pG ax mq hpl aR) λσ H Q ⟨aB,E,O,F,ε,t,ε',r,e,bQ⟩=>?_;simp only[dS,b5] at e;obtain⟨⟨gd,os⟩,aE,e⟩:=e;split at e
 next=>cases e
 next sQ=>
  simp only[b5,dN] at e;obtain⟨ts,bp,cw,e3,e⟩:=e;cases e;obtain⟨a,vs,bz,af,hx,_⟩:=qI iO r aE;refine⟨_,af,a,bz,_,rfl,hx,yo hm,aB,E,O,F,ε,ts,r,bp,λws aX H1 aJ q=>?_⟩;show qe X.K n c 0 d (V.ref a::(ws++[])) H1 Q aj3;rw[mE];exact KA r aE sQ af aJ q e3 (by rw[tT bp,aw]) bQ
def tR(iO:hb X.K c C ns)(j3:dA X.prog X.w X.K X.mg X.base C c m k n d)(ar:d4 k X.A)(a8:bO X o (gJ i)){pl:Sem Bool}(hm:m∉ns:=by decide +kernel)(aw:1=n:=by rfl)
  (aR:eval (.Call (.Attribute o m apos) [] [] pos) X.env=(do
   let dU <- eval o X.env
   standAt apos.atName
   let (f,first) <- holding [dU] (getMethod dU m pl)
   callWith pos f first (dR pos (bB [] X.env)) (l4 pos (l3 [] X.env))):=by rfl):uc X (.Call (.Attribute o m apos) [] [] pos) (dS c d i []):=by
 obtain⟨cA,fd,ps,F,k8,b⟩:=j3.ex;refine d7 (QD a8 iO.cls k8 F ar b .nil pG aR) λσ H Q ⟨aB,E,O,F,ε,t,ε',r,e,bQ⟩=>?_;simp only[dS,b5] at e;obtain⟨⟨gd,os⟩,aE,e⟩:=e;split at e
 next=>cases e
 next sQ=>
  simp only[b5,dN] at e;obtain⟨ts,bp,cw,e3,e⟩:=e;cases e;cases bp;obtain⟨a,vs,bz,af,hx,_⟩:=qI iO r aE;refine⟨_,af,a,bz,_,rfl,hx,yo hm,?_⟩;exact KA r aE sQ af (Ext.refl r.cj) bk.nil e3 (by simpa using aw) bQ
def dB(h:uc X e AJ)(n1:i6 e none pos.line X.env=pure false:=by rfl):fM X (.Expr e pos) (cq AJ):=g9 (zm h n1) λD σ H ⟨aB,E,O,F,ε,o,r,e,k⟩=>by
 simp only[cq,dN] at e;obtain⟨⟨t,ε'⟩,bp,rfl⟩:=e;exact⟨aB,E,O,F,ε,t,ε',r,bp,λv aI ai az cw _=>k σ aI ai az cw⟩
def Ds(h:uc X e AJ):fM X (.Return (some e) pos) (ij AJ):=g9 (zx h) λD σ H ⟨aB,E,O,F,ε,o,r,e,k⟩=>by
 simp only[ij,dN] at e;obtain⟨⟨t,ε'⟩,bp,rfl⟩:=e;exact⟨aB,E,O,F,ε,t,ε',r,bp,λv aI ai az cw b9=>k v σ aI ai cw b9⟩
def vU{f:bD}(h:cf X e f):fM X (.Return (some e) pos) (g7 f):=g9 (zx h) λD σ H ⟨aB,E,O,F,ε,o,r,e,k⟩=>by
 simp only[g7,dN] at e;obtain⟨t,bp,rfl⟩:=e;exact⟨aB,E,O,F,ε,t,r,bp,λv aI ai x b9=>k v σ aI ai (r.ext x) b9⟩
def KU:fM X (.Return none pos) mO:=g9 agS λD σ H ⟨aB,E,O,F,ε,o,r,e,k⟩=>by
 cases e
 exact k .gH σ F H r (by simp[Rep])
def agF{st:Stmt}:fM X st never:=λah s σ H D I ⟨aB,E,O,F,ε,o,r,e,k⟩=>by cases e
end
end
section
variable [c2]
noncomputable def tO(K:bl)(f:cv):TE:=λσ H Q=>∃aB E O F ε s,cB K aB E O F H ε σ/\f ε=some s/\∀a aI ai,Ext F H aI ai->eE K E O aI ai s (.ref a)->(∀b∈dJ ai s (.ref a),H b=none)->Q (.ref a) ai
abbrev ub(X:bh)(e:bf)(f:cv):Prop:=bO X e (tO X.K f)
noncomputable def N'(K:bl)(n:Nat)(d:List T->Option aM):kz:=λvs H Q _=>vs.length=n/\∃F ts s,gM F H/\bk K F H ts vs/\d ts=some s/\∀a aI ai,Ext F H aI ai->eE K ⟨H,0⟩ (λb=>H b=none) aI ai s (.ref a)->Q (.ref a) ai
def PT{s t:aM}(h:xH s=some t):∃c os,s=.obj .own c os/\t=.obj .own c os:=by
 unfold xH at h;split at h
 ·cases h
  exact⟨_,_,rfl,rfl⟩
 ·cases h
section
variable {P:cR}{w:cu}{K:bl}{mg:Str->Option ao}{base:b0}
def ahi{x qual:Str}{st:Stmt}{f:aj}{fd:gj}{N ps:List Str}{k:Nat}{b:bu}(F:c1 K x qual st f fd)(S:dc N ps (cp st))
  (ae:∀(cW:ao) (A:c9) (outer:List Env) (s:aP) (H:aA) (E:gN),d4 k (A.deeper (envOfC qual (cp st) s.heap.objs.size f cW)) ->
   iz (jL ajN P w K mg base N qual (cp st) f cW A outer s H E).kG (jx st) b):
  fw P w K mg base ajN (k+1) f fd ps (N' K ps.length (oY b N.length)):=by
 refine F.ok S (λvs H Q E h=>h.1) λcW A outer s H vs Q E ar h=>⟨_,ae cW A outer s H E ar,?_⟩
 obtain⟨aw,F,ts,t,cj,q,e,m9⟩:=h;simp only[oY,b5] at e;obtain⟨o,et,e⟩:=e;refine⟨F,⟨H,0⟩,λa=>H a=none,F,_,o,?_,et,?_⟩
 ·have:=Pw (N:=N) cj q (N.length - ts.length);unfold bo.start;rw[q.length] at this ⊢;exact this
 ·cases o with
  |lU s=>
   obtain⟨c,os,rfl,rfl⟩:=PT e;exact λa aI ai x rs=>m9 a aI ai x rs
  |bY ε'=>cases e
  |iD _=>cases e
  |e' _=>cases e
  |gh _ _=>cases e
  |fa _=>cases e
structure nE(P:cR)(w:cu)(K:bl)(mg:Str->Option ao)(base:b0)(x:Str)(k n:Nat)(d:List T->Option aM):Prop where
 ex:∃cA fd ps,fw P w K mg base ajN k cA fd ps (N' K n d)/\mg x=some (.ref cA)/\ni K (.ref cA)=true/\Binds K fd ps []
theorem nE.mono{x:Str}{k n j:Nat}{d:List T->Option aM}(c:nE P w K mg base x j n d)(h:j<=k):nE P w K mg base x k n d:=by
 obtain⟨cA,fd,ps,F,r⟩:=c.ex;exact⟨cA,fd,ps,F.mono h,r⟩
def Sf{x:Str}{st:Stmt}{f:aj}{fd:gj}{N ps:List Str}{k:Nat}{b:bu}(F:c1 K x x st f fd)(S:dc N ps (cp st))(bd:Binds K fd ps [])(m:mg x=some (.ref f))
  (ae:∀(cW:ao) (A:c9) (outer:List Env) (s:aP) (H:aA) (E:gN),d4 k (A.deeper (envOfC x (cp st) s.heap.objs.size f cW)) ->
   iz (jL ajN P w K mg base N x (cp st) f cW A outer s H E).kG (jx st) b):nE P w K mg base x (k+1) ps.length (oY b N.length):=⟨f,fd,ps,ahi F S ae,m,F.az,bd⟩
structure r9(P:cR)(w:cu)(K:bl)(mg:Str->Option ao)(base:b0)(x:Str)(C:aj)(c k n:Nat)(d:List aM->Option (T×List aM)):Prop where
 ex:∃cA fd ps,fw P w K mg base ajN k cA fd ps (qe K n c 0 d)/\wu K C cA/\mg x=some (.ref C)/\Binds K fd ps []
theorem r9.mono{x:Str}{C:aj}{c k n j:Nat}{d:List aM->Option (T×List aM)}(h:r9 P w K mg base x C c j n d)(bw:j<=k):r9 P w K mg base x C c k n d:=by
 obtain⟨cA,fd,ps,F,r⟩:=h.ex;exact⟨cA,fd,ps,F.mono bw,r⟩
def aia{x:Str}{C:aj}{qual:Str}{st:Stmt}{f:aj}{fd:gj}{N ps:List Str}{k c:Nat}{b:bu}(F:c1 K "__init__" qual st f fd)(S:dc N ps (cp st))(bd:Binds K fd ps [])(k8:wu K C f)(m:mg x=some (.ref C))
  (ae:∀(cW:ao) (A:c9) (outer:List Env) (s:aP) (H:aA) (E:gN),d4 k (A.deeper (envOfC qual (cp st) s.heap.objs.size f cW)) ->
   iz (jL ajN P w K mg base N qual (cp st) f cW A outer s H E).kG (jx st) b):r9 P w K mg base x C c (k+1) ps.length (runM c 0 b N.length):=⟨f,fd,ps,K1 F S ae,k8,m,bd⟩
end
section
variable {X:bh}{k n c C i j:Nat}{ns:List Str}{x m f:Str}{p pos apos:Pos}{o e:bf}{es:List bf}{ay:List bD}{ux:cv}
def Q4{K:bl}{E qR:gq}{O nI aI:aj->Prop}{ai:aA}{m:hg}{c:Nat}{os:List aM}{a:aj}(rs:eE K qR nI aI ai (.obj m c os) (.ref a))(hm:m≠.fR)(h:∀b,nI b->O b):eE K E O aI ai (.obj .own c os) (.ref a):=by
 obtain⟨lI,vs,e,ax,hf,aW,fp,_⟩:=rs;refine⟨lI,vs,e,ax,hf,aW,λb ae=>⟨(fp b ae).1,h b ?_⟩,λz=>by cases z⟩;have q:=(fp b ae).2;cases m with
|fR=>exact absurd rfl hm
|own=>exact q
|cN=>exact q
def ai5{d:List aM->Option (T×List aM)}(iO:hb X.K c C ns)(j3:r9 X.prog X.w X.K X.mg X.base x C c k n d)(ar:d4 (k+1) X.A)(ax:lE X (e::es) ay)(br:fi X x:=by rfl)(aw:ay.length+1=n:=by rfl)(iL:(x==("__debug__":Str))=false:=by decide)
  (he:bB (e::es) X.env=(false,eval e X.env)::bB es X.env:=by rfl) (hpl:(dR pos (bB es X.env)).any (·.1)=false:=by rfl):ub X (.Call (.Name x p) (e::es) [] pos) (Bv c d ay):=by
 obtain⟨cA,fd,ps,F,M,hm,b⟩:=j3.ex;refine d7 (ag2 M F ar br hm b .nil pG ax iL he hpl) λσ H Q ⟨aB,E,O,F,ε,s,r,e,bQ⟩=>?_;simp only[Bv,b5] at e;obtain⟨ts,bp,cw,e3,e⟩:=e;refine⟨aB,E,O,F,ε,ts,r,bp,λws aX H1 aJ q=>λy bz bL M9 k6=>?_⟩;rw[mE];have Yj:upd (upd H1 bz (.own y)) y (.ins C bz []) y=some (.ins C bz []):=dI;have iK:∀ba:aA,ba y=some (.ins C bz [])->gL ba y c []:=λba e=>by
  refine⟨kP _,?_⟩
  rw[iO.jK];exact⟨bz,by simpa using e⟩
 have rk:∀b,b≠y->b≠bz->upd (upd H1 bz (.own y)) y (.ins C bz []) b=H1 b:=λb af ak=>by rw[cI af,cI ak]
 have Oy:Ext aX H1 aX (upd H1 bz (.own y)):=Ext.laid aJ.cj M9;have Yi:upd H1 bz (.own y) y=none:=by rw[cI (Ne.symm k6)];exact bL
 have Jl:Ext aX H1 aX (upd (upd H1 bz (.own y)) y (.ins C bz [])):=Oy.trans (Ext.laid Oy.cj Yi);have Bs:¬aX y:=λz=>by
  obtain⟨o,e⟩:=aJ.cj y z;rw[bL] at e;cases e
 split at e
 next rf=>
  cases e
  refine⟨by simp[<- q.length,tT bp,aw],aX,.obj .cN c []::ts.map .ab,y,[y],[],cw,Jl.cj,rfl,rfl,.cons ⟨y,[],rfl,iK _ Yj,rfl,by simp[cU],λb ae=>?_,λ_=>rfl⟩ (Dj (q.ext Jl)),λj s bw av=>?_,e3,λv aI ai bq b9 rs=>?_⟩
  ·have:b=y:=by simpa [cU] using ae
   subst this;exact⟨Bs,C8 (by simp)⟩
  ·cases j with
   |zero=>exact absurd rfl bw
   |succ j=>exact K0 (q:=j) (by simpa using av)
  ·rw[rf] at b9;refine⟨by simpa [Rep] using b9,?_⟩;have Iy:∀b,(h3 (upd (upd H1 bz (.own y)) y (.ins C bz [])) [y] y).h b=none->H b=none:=λb ae=>by
    rcases CM ae with z|z
    ·have:b=y:=by simpa using z
     rw[this];exact aJ.same.none bL
    ·exact aJ.same.none (Jl.same.none z)
   have d1:Ext F H aI ai:=by
    refine⟨λb o q=>?_,λb z=>bq.sub b (aJ.sub b z),λb z=>?_,bq.cj⟩
    ·have step:∀u,H1 b=some u->(h3 (upd (upd H1 bz (.own y)) y (.ins C bz [])) [y] y).h b=some u:=λu aQ=>by
      have gQ:b≠y:=λz=>by rw[z,bL] at aQ;cases aQ
      have gF:b≠bz:=λz=>by rw[z,M9] at aQ;cases aQ
      rw[tL (by simpa using gQ),rk b gQ gF];exact aQ
     rcases aJ.same b o q with z|⟨ps,xI,aQ,z⟩
     ·exact bq.same b o (step _ z)
     ·rcases bq.same b _ (step _ z) with ir|⟨_,xJ,_,ir⟩
      ·exact .inr ⟨ps,xI,aQ,ir⟩
      ·exact .inr ⟨ps,xJ,aQ,ir⟩
    ·rcases bq.new b z with z|z
     ·exact aJ.new b z
     ·exact .inr (Iy b z)
   refine bQ y aI ai d1 (Q4 rs (by decide) λb ae=>r.fr b (Iy b ae)) λb ae=>?_
   obtain⟨lI,vs,dy,lN,hf,aW,fp,_⟩:=rs;cases dy;rw[i9 lN] at ae;exact Iy b (fp b ae).2
 next=>cases e
def Lh{d:List T->Option aM}(j3:nE X.prog X.w X.K X.mg X.base x k n d)(hd:∀ts s,d ts=some s->∃c os,s=.obj .own c os)(ar:d4 k X.A)(ax:lE X (e::es) ay)(br:fi X x:=by rfl)(aw:ay.length=n:=by rfl)(iL:(x==("__debug__":Str))=false:=by decide)
  (he:bB (e::es) X.env=(false,eval e X.env)::bB es X.env:=by rfl) (hpl:(dR pos (bB es X.env)).any (·.1)=false:=by rfl):ub X (.Call (.Name x p) (e::es) [] pos) (r6 d ay):=by
 obtain⟨cA,fd,ps,F,hm,az,b⟩:=j3.ex;refine d7 (zo F ar br hm az b .nil pG ax iL he hpl) λσ H Q ⟨aB,E,O,F,ε,s,r,e,bQ⟩=>?_;simp only[r6,b5] at e;obtain⟨ts,bp,e3⟩:=e;obtain⟨c,os,rfl⟩:=hd _ _ e3;refine⟨aB,E,O,F,ε,ts,r,bp,λws aX H1 aJ q=>⟨?_,aX,ts,_,aJ.cj,by simpa using q,e3,λa aI ai bq rs=>?_⟩⟩
 ·rw[mE,<- q.length,tT bp,aw]
 ·refine bQ a aI ai (aJ.trans bq) (Q4 rs (by decide) λb ae=>r.fr b (aJ.same.none ae)) λb ae=>?_
  obtain⟨lI,vs,dy,lN,hf,aW,fp,_⟩:=rs;cases dy;rw[i9 lN] at ae;exact aJ.same.none (fp b ae).2
def QA{b:bu}{n:Nat}{ts:List T}{s:aM}(h:oY b n ts=some s):∃c os,s=.obj .own c os:=by
 simp only[oY,b5] at h;obtain⟨o,et,e⟩:=h;cases o with
|lU s'=>
  obtain⟨c,os,_,rfl⟩:=PT e;exact⟨c,os,rfl⟩
|_=>cases e
def Lb(j:Nat){y:Str}{pos':Pos}(e5:X.N.Nodup)(h:ub X e ux)(aS:X.N[j]?=some y:=by rfl)(hx:Loc X.env.scope y:=by first|exact Or.inl rfl|exact Or.inr rfl)
  (av:i6 e (some (.Name y pos')) pos.line X.env=pure false:=by rfl) (hf:X.fn y=true\/X.env.scope.names.lookup y=some .local:=by first|exact .inl rfl|exact .inr rfl):
  fM X (.Assign [.Name y pos'] e pos) (pT j ux):=g9 (RQ e5 aS hx h av hf) λD σ H ⟨aB,E,O,F,ε,o,r,e,k⟩=>by
 simp only[pT,dN] at e;obtain⟨s,es,rfl⟩:=e;exact⟨aB,E,O,F,ε,s,r,es,λa aI ai x rs a8=>k _ aI ai x.az (r.abt j x rs a8)⟩
def RI(a8:bO X e (gJ i)):fM X (.Return (some e) pos) (th i):=g9 (zx a8) λD σ H ⟨aB,E,O,F,ε,o,r,e,k⟩=>by
 unfold th at e;split at e
 next c ay he=>
  cases e
  obtain⟨v,af,rs⟩:=r.val i _ he;have xN:=rs;obtain⟨a,vs,rfl,_⟩:=rs;exact⟨_,af,k a F H r.ent xN⟩
 next=>cases e
def O4{s:aM}{os:List aM}(h:vM c s=some os):s=.obj .own c os:=by
 unfold vM at h;split at h
 next dY ay=>
  split at h
  next aD=>
   cases h
   rw[aD]
  next=>cases h
 next=>cases h
def R5{K:bl}{E:gq}{O F:aj->Prop}{H:aA}{os:List aM}{a:aj}(iO:hb K c C ns)(rs:eE K E O F H (.obj .own c os) (.ref a)):∃bz vs,H a=some (.ins C bz (ns.zip vs))/\gL H a c vs/\fN K F H os vs:=by
 obtain⟨lI,vs,dy,ax,hf,_⟩:=rs;cases dy;obtain⟨aw,hx⟩:=id ax;rw[iO.jK] at hx;obtain⟨bz,hx⟩:=hx;rw[iO.eg] at hx;exact⟨bz,vs,hx,ax,hf⟩
def aiW{d:List aM->Option T}(iO:hb X.K c C ns)(j3:j6 X.prog X.w X.K X.mg X.base C m k n d)(ar:d4 k X.A)(aE:ub X o ux){pl:Sem Bool}(hm:m∉ns:=by decide +kernel)(aw:1=n:=by rfl)
  (aR:eval (.Call (.Attribute o m apos) [] [] pos) X.env=(do
   let dU <- eval o X.env
   standAt apos.atName
   let (f,first) <- holding [dU] (getMethod dU m pl)
   callWith pos f first (dR pos (bB [] X.env)) (l4 pos (l3 [] X.env))):=by rfl):cf X (.Call (.Attribute o m apos) [] [] pos) (BA c d ux []):=by
 obtain⟨cA,fd,ps,F,k8,b⟩:=j3.ex;refine d7 (QD aE iO.cls k8 F ar b .nil pG aR) λσ H Q ⟨aB,E,O,F,ε,t,r,e,k⟩=>?_;simp only[BA,b5] at e;obtain⟨s,es,os,et,ts,bp,e3⟩:=e;cases bp;have:=O4 et;subst this;refine⟨aB,E,O,F,ε,_,r,es,λa aX H1 aJ rs a8=>?_⟩;obtain⟨bz,vs,hx,ax,hf⟩:=R5 iO rs;refine⟨a,bz,_,rfl,hx,yo hm,⟨by simp[aw],aX,_,t,aJ.cj,.cons ⟨rfl,Lq rs _ _ λb ae=>?_⟩ .nil,e3,λv aI ai bq bb=>k v aI ai (aJ.trans bq) bb⟩⟩;obtain⟨o,e,_⟩:=rs.at ae;show H1 b≠none;rw[e];exact λz=>by cases z
def ae_(iO:hb X.K c C ns)(aE:ub X o ux)(bw:ns[j]?=some f:=by rfl)(ae:i5 o f X.env (eval o X.env)=eval o X.env:=by rfl):cf X (.Attribute o f pos) (Dl c j ux):=
 d7 (qH aE ae) λσ H Q ⟨aB,E,O,F,ε,t,r,e,k⟩=>by
 simp only[Dl,b5] at e;obtain⟨s,es,os,et,e⟩:=e;have:=O4 et;subst this;split at e
 next ts av=>
  cases e
  refine⟨aB,E,O,F,ε,_,r,es,λa aX H1 aJ rs a8=>?_⟩
  obtain⟨bz,vs,hx,ax,hf⟩:=R5 iO rs;obtain⟨v,a5,b,us,rfl,ae,eO⟩:=hf.get av;have w0:H b=none:=a8 b (by rw[i9 ax];exact dM _ (l_ av a5 (by simp[dG,gg])));refine⟨a,C,bz,_,_,rfl,hx,iO.cls,ma iO bw,JZ iO.aW bw a5,?_⟩;have y:Ext F H (λd=>aX d\/d=b) H1:=⟨aJ.same,λd z=>.inl (aJ.sub d z),λd z=>by
   rcases z with z|rfl
   ·exact aJ.new d z
   ·exact .inr w0,⟨λd z=>by
   rcases z with z|rfl
   ·exact aJ.cj d z
   ·exact⟨_,ae⟩,aJ.cj.oc⟩⟩
  refine k _ _ H1 y ?_
  simp only[Rep];exact⟨b,us,rfl,.inr rfl,.inl ae,eO.keep (λ_ _ z=>z) λ_ _ z w=>⟨.inl z,w⟩⟩
 next=>cases e
def aiZ{e' a b:bf}{gs:e_}{g h:bD}(aD:lG X e' gs)(ax:cf X a g)(ae:cf X b h):cf X (.IfExp e' a b pos) (mu gs g h):=d7 (af5 aD ax ae) λσ H Q ⟨aB,E,O,F,ε,t,r,e,k⟩=>by
 simp only[mu,b5] at e;obtain⟨v,ev,e⟩:=e;refine⟨aB,E,O,F,ε,v,r,ev,λaX H1 aJ=>?_⟩;cases v with
|true=>exact xm ⟨aB,E,O,aX,ε,t,r.ext aJ,by simpa using e,λv aI ai bq q=>k v aI ai (aJ.trans bq) q⟩
|false=>exact xl ⟨aB,E,O,aX,ε,t,r.ext aJ,by simpa using e,λv aI ai bq q=>k v aI ai (aJ.trans bq) q⟩
def jZ(xs:List Str):List T:=xs.map .str
def NZ{xs:List Str}{a:aj}(hm:X.mg x=some (.ref a))(aH:∃(o:Obj) (its:Array ao) (n:Nat),X.K.lookup a=some o/\o.cls=.type "tuple"/\o.data=.seq its n/\its.size<=cF/\Vals (xs.map V.str) its.toList)(br:fi X x:=by rfl)(hd:(x==("__debug__":Str))=false:=by decide):cf X (.Name x pos) (aa (.tuple (jZ xs))):=
 aj8 (v:=.ref a) (Q' (v:=.ref a) br hm rfl hd) λF H=>by
  simp only[Rep];refine⟨a,xs.map V.str,rfl,.inr aH,?_⟩;unfold jZ;clear hm aH br hd
  induction xs with
  |nil=>exact bk.nil
  |cons y ys b2=>exact bk.cons (by simp[Rep]) b2
end
end
section
variable [c2]
open AutoSeq1 (wpAny_loadPart')
section
variable {X:bh}{a e o:bf}{f g:bD}{p pos apos:Pos}
def Q5(hm:X.mg "list"=none)(ax:eo X a f)(br:fi X "list":=by rfl)(he:bB [a] X.env=(false,eval a X.env)::bB [] X.env:=by rfl)(hpl:(dR pos (bB [] X.env)).any (·.1)=false:=by rfl):
  oC X (.Call (.Name "list" p) [a] [] pos) (fo vZ f):=d7 (Ka adY br hm (by decide +kernel) (i7 ax lA he) (he:=he) (hpl:=hpl)) λσ H Q ⟨aB,E,O,F,ε,ts,r,e,k⟩=>by
 simp only[fo,b5] at e;obtain⟨t,bp,e⟩:=e;refine⟨aB,E,O,F,ε,t,r,bp,λv aX H1 aJ aO=>?_⟩;have fin:∀(ws:List V),bk X.K aX H1 ts ws->∀l,H1 l=none->Q (.ref l) (upd H1 l (.lst ws)):=λws ar l aw=>by
  have bq:=Ext.laid (o:=.lst ws) aJ.cj aw;refine k l ws aX _ (aJ.trans bq) (aJ.same.none aw) (λz=>?_) dI (ar.ext bq);obtain⟨o,e⟩:=aJ.cj l z;rw[aw] at e;cases e
 unfold vZ at e;split at e
 ·cases e
  obtain⟨n4,ws,rfl,aw,ar⟩:=aO.tup;exact⟨n4,ws,rfl,.inr aw,fin ws ar⟩
 ·cases e
  obtain⟨n4,ws,rfl,aw,ar⟩:=aO.lst;exact⟨n4,ws,rfl,.inl (.inl aw),fin ws ar⟩
 ·cases e
def ae9(aD:X.calm=true)(hm:X.mg "sorted"=none)(ax:eo X a f)(br:fi X "sorted":=by rfl)(he:bB [a] X.env=(false,eval a X.env)::bB [] X.env:=by rfl)(hpl:(dR pos (bB [] X.env)).any (·.1)=false:=by rfl):
  oC X (.Call (.Name "sorted" p) [a] [] pos) (fo C7 f):=d7 (zc (O7 aD) br hm (by decide +kernel) (i7 ax lA he) (he:=he) (hpl:=hpl)) λσ H Q ⟨aB,E,O,F,ε,ts,r,e,k⟩=>by
 simp only[fo,b5] at e;obtain⟨t,bp,e⟩:=e;refine⟨aB,E,O,F,ε,t,r,bp,λv aX H1 aJ aO=>?_⟩;unfold C7 at e;split at e
 next xs=>
  split at e
  next aq=>
   simp only[dN] at e;obtain⟨ss,p8,e⟩:=e;cases e;have xf:=vu p8;subst xf;obtain⟨n4,ws,rfl,aw,ar⟩:=aO.lst;refine⟨n4,ss.map .inr,(eD ss).map V.str,rfl,?_,by simpa using aq,.inr ⟨ss,rfl,rfl⟩,λl nW=>?_⟩
   ·have aQ:ws=(ss.map (Sum.inr:Str->bo.Key)).map ei:=by rw[vp ar];simp[ei,lp]
    rw[<- aQ];exact .inl aw
   ·have bq:=Ext.laid (o:=.lst ((eD ss).map V.str)) aJ.cj nW;refine k l _ aX _ (aJ.trans bq) (aJ.same.none nW) (λz=>?_) dI (y5 _);obtain⟨o,e⟩:=aJ.cj l z;rw[nW] at e;cases e
  next=>cases e
 next=>cases e
end
def P6:entryFor table "list.remove.loop"=some Builtin.«list.remove.loop»:=entryFor_of_tree (by kernel_rfl)
def CX:plainId "list.remove.loop"=true:=by decide +kernel
def agJ(l:aj)(its:Array ao)(n:Nat)(x:Str)(t:Tok)(j:Nat)(aq:its.size<=cF)(bw:j<its.size)(hit:∃u,its[j]=.str x u)(k:Nat):
  ∀i:Nat,j - i=k->i<=j->(∀(m:Nat) (hm:m<its.size),i<=m->m<j->∃y u,its[m]=.str y u/\y≠x)->Meets (Builtin.«list.remove.loop» ⟨[.ref l,.str x t,rawInt i],[]⟩)
   (λ_ R s=>s.heap.get? l=some {cls:=.type "list",data:=.seq its n}/\R (.ok (.ret .none)) {s with heap:=s.heap.update l (Obj.mapSeq λa=>a.eraseIdxIfInBounds j)}):=by
 induction k with
|zero=>
  intro i aH kF _ prog w A R s h;obtain⟨aC,g,d,tk,os⟩:=s;obtain⟨aw,h⟩:=h;obtain rfl:i=j:=by omega
  obtain⟨u,bj⟩:=hit
  wp_walk using wpAny_loadPart' aw
  rw[show its[((i:Nat):Int).toNat]?=some (.str x u) by simp[bw,bj]];refine a7 (wpAny_eqBool_str ?_);rw[decide_eq_true rfl]
  wp_walk using wpAny_loadPart' aw
  rw[show ((Obj.mapSeq (λz=>z.eraseIdxIfInBounds ((i:Nat):Int).toNat) {cls:=.type "list",data:=.seq its n}:Obj).data.pastItsLine)=none from
   pastItsLine_seq (by
    have:(its.eraseIdxIfInBounds ((i:Nat):Int).toNat).size<=its.size:=by
     unfold Array.eraseIdxIfInBounds;split
     ·rw[Array.size_eraseIdx];omega
     ·omega
    show (its.eraseIdxIfInBounds ((i:Nat):Int).toNat).size<=_
    omega)]
  wp_walk
  exact h
|succ k b2=>
  intro i aH kF uD prog w A R s h;obtain⟨aC,g,d,tk,os⟩:=s;obtain⟨aw,h⟩:=h;have eZ:i<its.size:=by omega
  obtain⟨y,u,bL,ne⟩:=uD i eZ (el _) (by omega)
  wp_walk using wpAny_loadPart' aw
  rw[show its[((i:Nat):Int).toNat]?=some (.str y u) by simp[eZ,bL]];refine a7 (wpAny_eqBool_str ?_);rw[decide_eq_false ne]
  wp_walk
  rw[show ((i:Int)+1)=((i+1:Nat):Int) by push_cast;rfl];exact⟨plainId_quiet CX _,u3 P6 (by
   rw[uZ CX _];exact b2 (i+1) (by omega) (by omega) (λm hm af ak=>uD m hm (by omega) ak) prog w A R _ ⟨aw,h⟩)⟩
def adS(l:aj)(its:Array ao)(n:Nat)(x:Str)(t:Tok)(j:Nat)(aq:its.size<=cF)(bw:j<its.size)(hit:∃u,its[j]=.str x u)(uD:∀(m:Nat) (hm:m<its.size),m<j->∃y u,its[m]=.str y u/\y≠x):
  Meets (Builtin.«list.remove» ⟨[.ref l,.str x t],[]⟩) (λ_ R s=>s.heap.get? l=some {cls:=.type "list",data:=.seq its n}/\R (.ok (.ret .none)) {s with heap:=s.heap.update l (Obj.mapSeq λa=>a.eraseIdxIfInBounds j)}):=by
 intro prog w A R s h;obtain⟨aC,g,d,tk,os⟩:=s;obtain⟨aw,h⟩:=h
 wp_walk using wpAny_loadPart' aw
 exact⟨plainId_quiet CX _,u3 P6 (by
  rw[uZ CX _];exact agJ l its n x t j aq bw hit _ 0 rfl (kP _) (λm hm _ ak=>uD m hm ak) prog w A R _ ⟨aw,h⟩)⟩
noncomputable def agK:V->List V->aA->dx->Prop:=λx vs H Q=>∃(l:aj) (ss:List Str) (y:Str),x=.ref l/\vs=[.str y]/\H l=some (.lst (ss.map V.str))/\y∈ss/\Q .gH (upd H l (.lst ((ss.erase y).map V.str)))
def y'{ss:List Str}{its:List ao}(r:Vals (ss.map V.str) its){m:Nat}{y:Str}(h:ss[m]?=some y):∃u,its[m]?=some (.str y u):=by
 obtain⟨v,a5,b9⟩:=r.get (i:=m) (x:=.str y) (by rw[hq,h];rfl);obtain⟨u,rfl⟩:=b9;exact⟨u,a5⟩
theorem QN{α:Type}[BEq α][LawfulBEq α]:∀{ss:List α} {y:α},y∈ss->∃j,ss[j]?=some y/\(∀m z,m<j->ss[m]?=some z->z≠y)/\ss.erase y=ss.eraseIdx j
| [],y,h=>by simp at h
|x::ss,y,h=>by
  by_cases e:x=y
  ·subst e;exact⟨0,rfl,λm z hm=>by omega,by simp⟩
  ·have h':y∈ss:=by
    rcases cZ.mp h with z|z
    ·exact absurd z.symm e
    ·exact z
   obtain⟨j,af,ak,bA⟩:=QN h';refine⟨j+1,by simpa using af,λm z hm aq=>?_,?_⟩
   ·cases m with
    |zero=>
     simp at aq;exact aq▸e
    |succ m=>exact ak m z (by omega) (by simpa using aq)
   ·rw[List.erase_cons_tail (by simpa using e),bA];rfl
theorem OW{α β:Type}(f:α->β):∀(l:List α) (j:Nat),(l.eraseIdx j).map f=(l.map f).eraseIdx j
| [],_=>rfl
|_::_,0=>rfl
|a::l,j+1=>by simp[OW f l j]
def PZ{X:bh}:DT X "list.remove" agK:=by
 intro ah s σ H x vs v us Q I a3 b9 h;obtain⟨l,ss,y,rfl,rfl,jj,bL,q⟩:=h;cases a3;obtain⟨u,rfl,ee⟩:=b9.one;obtain⟨t,rfl⟩:=ee;obtain⟨z,its,n,r,aw,e⟩:=I.ND jj;obtain⟨j,af,ak,bA⟩:=QN bL;obtain⟨w,hw⟩:=y' r af;have bw:j<its.length:=(fC.mp hw).1;refine rC F.slot_list_remove ⟨_,e,rfl⟩ F.entry_list_remove (F.args_list_remove_2 _ _) (adS l its.toArray n y t j (by rw[eJ];omega) (by rw[eJ];exact bw) ⟨w,?_⟩ λm hm X4=>?_) ⟨e,?_⟩
 ·rw[gT bw] at hw;simpa using hw
 ·rw[eJ] at hm;have Ng:m<ss.length:=by rw[gk] at aw;omega
  obtain⟨u,bj⟩:=y' r (gT Ng);rw[gT hm] at bj;exact⟨_,u,by simpa using bj,ak m _ X4 (gT Ng)⟩
 ·rw[bA] at q;have a9:(ss.eraseIdx j).map V.str=(ss.map V.str).eraseIdx j:=OW _ _ _;rw[a9] at q;refine⟨.gH,_,I.NC (t':=s.toks) (its':=its.eraseIdx j) jj e ?_ (r.eraseIdx j) (kn (P0 _ _) z),rfl,q⟩;unfold Array.eraseIdxIfInBounds;rw[dif_pos (by rw[eJ];exact bw)];simp
section
variable {X:bh}{c C i j:Nat}{ns:List Str}{f:Str}{o e:bf}{g:bD}{pos apos:Pos}
def aiP(k:hb X.K c C ns)(a8:bO X o (gJ i)){iX dt:Pos}(he:cf X e g)(bw:ns[j]?=some f:=by rfl)(ae:i5 o f X.env (eval o X.env)=eval o X.env:=by rfl)
  (ka:bB [e] X.env=(false,eval e X.env)::bB [] X.env:=by rfl)
  (k4:i5 (.Attribute o f apos) "remove" X.env (eval (.Attribute o f apos) X.env)=eval (.Attribute o f apos) X.env:=by rfl)
  (nU:((dR dt (bB [e] X.env)).all (λx=>!x.1) && (l4 dt (l3 [] X.env)).all (λx=>x.1.isSome)
   && decide (([e]:List bf).length+([]:List Keyword).length+(if ([]:List Keyword).isEmpty then 0 else 1)<30))=true:=by rfl)
  (k5:(iX.endLine==dt.line)=true:=by rfl) (nZ:(dR dt (bB [] X.env)).any (·.1)=false:=by rfl)
  (n1:i6 (.Call (.Attribute (.Attribute o f apos) "remove" iX) [e] [] dt) none pos.line X.env=pure false:=by rfl):
  fM X (.Expr (.Call (.Attribute (.Attribute o f apos) "remove" iX) [e] [] dt) pos) (rp c i j g):=
 g9 (zm (zJ yb PySem.F.slot_list_remove PySem.F.type_list_remove PZ (qH a8 ae) (i7 he lA ka) k4 nU k5 ka nZ) n1) λD σ H ⟨aB,aK,O,F,ε,o,r,e,bQ⟩=>by
 simp only[rp,b5] at e;obtain⟨t,bp,ts,fX,e⟩:=e;split at e
 next x ss p8=>
  split at e
  next hx=>
   simp only[dN] at e;obtain⟨ε',es,rfl⟩:=e;have xd:=vu p8;subst xd;obtain⟨m,ay,aE,av⟩:=y8 fX;obtain⟨a,vs,bz,v,af,sW,aw,ax,a5,⟨b,us,c',ae,eO⟩,_⟩:=ov k r aE av bw;subst c';refine⟨_,af,a,C,bz,_,_,rfl,sW,k.cls,ma k bw,aw,.inl ⟨rfl,_,f_.of ae⟩,aB,aK,O,F,ε,_,r,bp,λv aX H1 aJ aO=>?_⟩;have bg:=r.ext aJ;have AN:gL H1 a c vs:=ax.keep ((aJ.same.get sW).trans sW.symm);have ev:v=.str x:=by simpa [Rep] using aO
   subst ev;have e4:=vp eO;subst e4;obtain⟨az,b7⟩:=bg.s_ (s':=.own ((ss.erase x).map .str)) (o':=.lst ((ss.erase x).map V.str)) aE af AN es av a5 (by simp[dG,gg]) rfl λaz=>⟨b,_,rfl,dI,y5 _⟩;exact⟨b,ss,x,rfl,rfl,aJ.same.get ae,hx,bQ σ aX _ (aJ.az.trans az) b7⟩
  next=>cases e
 next=>cases e
end
end
section
variable [c2]
open AutoSeq1 (wpAny_loadPart')
section
variable {prog:cR}{w:cu}{A:c9}{E:ao->aP->Prop}{s:aP}{T:String}{r d:aj}{n:Nat}{P:Nat->ao->Prop}{se:b0->Prop}
def adp(W:PySem.W.KdlSrc prog w T r d n P se)(a8:n<=cF)(o:Obj)(aD:o.cls=.type T):
  MeetsIn prog w (Builtin.«tuple.__new__» ⟨[.type "tuple",.ref r],[]⟩)
   (λA R s=>A.handled=none/\se s.heap/\s.heap.get? r=some o/\∀(h':b0) (tk:Nat) (acc:Array ao),(∀b o,s.heap.get? b=some o->h'.get? b=some o)->s.heap.objs.size<=h'.objs.size->ItemsOf P acc n->R (.ok (.ret (.ref h'.objs.size))) {s with heap:=h'.push {cls:=.type "tuple",data:=.seq acc},toks:=tk}):=
 .of_wp λA R s h=>by
  obtain⟨aC,g,W0,tk,os⟩:=s;obtain⟨da,b',aE,h⟩:=h;have Nk:=sub_tuple_self;have ajs:=init_tuple_lookup;have ajy:=madeHere_tuple;have e6:Shared.TypeIs ⟨aC,g,W0,tk,os⟩ (.ref r) T:=W.type _ b';have gQ:=W.notList;have gF:=W.notTuple
  wp_walk using wpAny_loadPart' aE,wpAny_typeOf e6,aei W (by simpa using da) b' a8
  intro h' BS acc aH hsz mm;show bG _ _ (tn acc.toList.toArray >>= λv=>ret v) _ _ _;unfold tn;have aq:acc.size<=cF:=by rw[mm.1];exact a8
  refine a7 (qt ?_ (by show acc.toList.toArray.size<=cF;simpa using aq))
  refine cH ⟨_,rfl,?_⟩
  rw[show acc.toList.toArray=acc by simp];exact h h' BS acc aH hsz mm
def zev{Q:ao->aP->Prop}(W:PySem.W.KdlSrc prog w T r d n P se)(a8:n<=cF){o:Obj}(aD:o.cls=.type T)(da:A.handled=none)(b':se s.heap)(aE:s.heap.get? r=some o)
  (h:∀(h':b0) (tk:Nat) (acc:Array ao),(∀b o,s.heap.get? b=some o->h'.get? b=some o)->s.heap.objs.size<=h'.objs.size->ItemsOf P acc n->Q (.ref h'.objs.size) {s with heap:=h'.push {cls:=.type "tuple",data:=.seq acc},toks:=tk}):
  bG (bR prog w) A (call (.type "tuple") [.ref r]) Q E s:=
 callType_newIn F.called_tuple (by decide) (F.typeCall_tuple_1 _) (F.newCall_tuple_1 _) (λobj=>F.args_object_init_2 obj _) F.entry_tuple_new
  (adp W a8 o aD) ⟨by simpa using da,b',aE,λh' tk acc aH hsz mm=>⟨⟨_,hX _ rfl,rfl⟩,h h' tk acc aH hsz mm⟩⟩
end
def DE(p d:aj):eW:=.ext λh=>h.IsValuesView p d
section
variable {X:bh}
def aff:DT X "dict.values" (λx vs H Q=>∃d kvs,x=.ref d/\vs=[]/\H d=some (.du kvs)/\∀p,H p=none->Q (.ref p) (upd H p (DE p d))):=by
 intro ah s σ H x vs v us Q I a3 b9 h;obtain⟨d,kvs,rfl,rfl,jj,q⟩:=h;cases a3;cases b9;obtain⟨aq,AW,ws,sP,hd⟩:=I.b' d _ jj;refine call_meetsIn PySem.F.slot_dict_values hd.typeIs PySem.F.entry_dict_values (PySem.F.args_dict_values_1 _) (meets_dict_values (fu X.prog X.w) d AW) ⟨⟨ws,hd⟩,?_⟩;have a5:(s.heap.push {cls:=.type "dict_values",data:=.fields #[.ref d]}).IsValuesView s.heap.objs.size d:=⟨_,hX _ rfl,rfl,rfl⟩;refine⟨.ref s.heap.objs.size,upd H s.heap.objs.size (DE s.heap.objs.size d),I.laid (t':=s.toks) (λb u e=>dq _ e) (el _) ⟨a5,⟨_,hX _ rfl⟩,λaf ak p k=>?_⟩,rfl,q _ I.fresh⟩;obtain⟨o,aE,r⟩:=p;exact⟨o,k o aE,r⟩
theorem R7:∀{kvs:List (bo.Key×V)} {vs:List (bo.Key×ao)},fU kvs vs->Vals (kvs.map (·.2)) (vs.map (·.2))
|_,_,.nil=>.nil
|_,_,.cons a b=>.cons a.2 (R7 b)
def ads(aD:X.calm=true):mc X (.type "tuple") (λxs H Q=>∃p d kvs,xs=[.ref p]/\H p=some (DE p d)/\H d=some (.du kvs)/\∀t,H t=none->Q (.ref t) (upd H t (.tup (kvs.map (·.2))))):=by
 intro ah s σ H xs us Q I r h;obtain⟨p,d,kvs,rfl,aC,bt,q⟩:=h;obtain⟨u,rfl,a3⟩:=vals1 r;cases a3;obtain⟨n2,AW,vs,sP,hd⟩:=I.b' d _ bt;obtain⟨ep,iK⟩:=hd.dictAt;have aw:vs.length=kvs.length:=(Paired.length sP).symm;have a5:s.heap.IsValuesView p d:=(I.b' p _ aC).1;obtain⟨o,aE,p3,ajq⟩:=id a5;refine zev (PySem.W.kdl_values (knd:=fu X.prog X.w) (kvs:=vs) (ep:=ep)) (by rw[aw];exact n2) p3 (I.ok.hd aD) ⟨a5,iK⟩ aE λh' tk acc aH hsz mm=>?_;have rh:(kvs.map (·.2)).length<=cF:=by rw[gk];exact n2
 have dy:acc.toList=vs.map (·.2):=by
  refine List.ext_getElem? λi=>?_
  rw[hq];by_cases aS:i<acc.size
  ·obtain⟨k,aH⟩:=mm.2 i acc[i] (by simp[aS]);rw[aH];simp[aS]
  ·rw[List.getElem?_eq_none (by simpa using aS),List.getElem?_eq_none (by rw[mm.1] at aS;omega)];rfl
 have e6:(h'.push {cls:=.type "tuple",data:=.seq acc}).get? h'.objs.size=some {cls:=.type "tuple",data:=.seq acc}:=hX _ rfl;refine⟨.ref h'.objs.size,_,Kg I (o:=.tup (kvs.map (·.2))) (d':=s.drawn) (λb u e=>dq _ (aH b u e)) hsz ⟨rh,vs.map (·.2),R7 sP,⟨_,e6,rfl,0,by rw[<- dy]⟩⟩,rfl,q _ (I.b'.fresh hsz)⟩
variable {c C i j:Nat}{ns:List Str}{f:Str}{o:bf}{p pos apos iX dt:Pos}
theorem eL.snd{K:bl}{F:aj->Prop}{H:aA}:∀{ts:List (D.Key×T)} {vs:List (D.Key×V)},eL K F H ts vs->bk K F H (ts.map (·.2)) (vs.map (·.2))
| [],vs,h=>by
  have e:vs=[]:=h;subst e;exact bk.nil
|t::ts,vs,h=>by
  obtain⟨v,r,rfl,q,z⟩:=h;exact bk.cons q (eL.snd z)
def Q6(k:hb X.K c C ns)(aD:X.calm=true)(aR:X.mg "tuple"=none)(a8:bO X o (gJ i))(bw:ns[j]?=some f:=by rfl)(ae:i5 o f X.env (eval o X.env)=eval o X.env:=by rfl)
  (k4:i5 (.Attribute o f apos) "values" X.env (eval (.Attribute o f apos) X.env)=eval (.Attribute o f apos) X.env:=by rfl) (k5:(iX.endLine==dt.line)=true:=by rfl) (br:fi X "tuple":=by rfl)
  (he:bB [.Call (.Attribute (.Attribute o f apos) "values" iX) [] [] dt] X.env=(false,eval (.Call (.Attribute (.Attribute o f apos) "values" iX) [] [] dt) X.env)::bB [] X.env:=by rfl)
  (hpl:(dR pos (bB [] X.env)).any (·.1)=false:=by rfl):
  cf X (.Call (.Name "tuple" p) [.Call (.Attribute (.Attribute o f apos) "values" iX) [] [] dt] [] pos) (zM c i j):=
 d7 (Ka (ads aD) br aR (by decide +kernel) (i7 (ah1 PySem.F.plainAttrs_dict PySem.F.slot_dict_values PySem.F.type_dict_values aff (qH a8 ae) k4 k5) lA he) (he:=he) (hpl:=hpl)) λσ H Q ⟨aB,E,O,F,ε,t,r,e,bQ⟩=>by
 simp only[zM,dN] at e;obtain⟨kvs,e3,rfl⟩:=e;obtain⟨m,ay,aE,av⟩:=C1 e3;obtain⟨a,vs,bz,v,af,hx,aw,ax,a5,⟨b,us,c',ae,eO⟩,_⟩:=ov k r aE av bw;subst c';refine⟨_,af,a,C,bz,_,_,rfl,hx,k.cls,ma k bw,aw,.inr (.inr (.inl ⟨rfl,.inl ⟨_,ae⟩⟩)),b,us,rfl,rfl,ae,λp aC=>?_⟩;have aJ:=Ext.laid (o:=DE p b) r.cj aC;refine⟨p,b,us,rfl,dI,aJ.same.get ae,λt aR=>?_⟩;have bq:=aJ.trans (Ext.laid (o:=.tup (us.map (·.2))) aJ.cj aR);refine bQ _ F _ bq ?_;simp only[Rep];exact⟨t,_,rfl,de.of dI,(eO.snd).ext bq⟩
end
end
section
variable [c2]
open AutoSeq1 (wpAny_loadPart')
noncomputable def fV(h:b0)(z TI cg:aj)(f0 f1:ao):Prop:=h.get? z=some {cls:=.type "zip",dict:=none,data:=.fields #[f0,f1,.bool false,.ref TI,.ref cg],slots:=#[]}
section
variable {prog:cR}{w:cu}{A:c9}{E:ao->aP->Prop}{s:aP}{z TI cg bZ b3 cb b_:aj}{k gQ gF:Nat}{t_ ua:Nat->ao->Prop}{h6 iA:Nat->b0->Prop}{a b f1:ao}
def Qq{Q:ao->aP->Prop}(D:ZipApart z TI cg bZ b3 cb b_)(j2:Draws prog w A bZ [bZ,cb] gQ t_ h6)(lD:Draws prog w A b3 [b3,b_] gF ua iA)(aq:fV s.heap z TI cg .none f1)(fI:IsPair s.heap TI (.ref bZ) (.ref b3))(g5:IsPair s.heap cg a b)
  (s1:h6 k s.heap) (s2:iA k s.heap) (af:k<gQ) (ak:k<gF)
  (jk:∀h' x y tk,t_ k x->ua k y->fV h' z TI cg (rawInt s.heap.objs.size) (.bool false)->IsPair h' cg x y->h6 (k+1) h'->iA (k+1) h'->IsPair h' s.heap.objs.size x y->h'.objs.size=s.heap.objs.size+1 ->
   (∀c o,c≠z->c≠cg->c≠bZ->c≠b3->s.heap.get? c=some o->h'.get? c=some o)->Q (.ref s.heap.objs.size) {s with heap:=h',toks:=tk}):
  bG (bR prog w) A (Builtin.«zip.__next__» ⟨[.ref z],[]⟩) (λfin s'=>∃v,fin=.done (.ret v)/\Q v s') E s:=by
 unfold fV at aq;refine a7 (m:=field (.ref z) 2) (iq aq rfl (x:=.bool false) rfl (a7 (m:=field (.ref z) 3) (iq aq rfl (x:=.ref TI) rfl (a7 (pd fI rfl ?_)))));refine a7 (m:=rz (.ref z)) ?_;unfold rz;refine a7 (iq aq rfl (x:=.none) rfl (cH ?_));simp only[if_true];refine a7 (wpAny_rule (a7 (iq aq rfl (x:=.ref cg) rfl (a7 (tr aq (by simp) λgE mr fZ=>?_)))));replace mr:fV gE z TI cg .ellipsis f1:=mr;refine a7 ?_;simp only[List.zipIdx_cons,List.zipIdx_nil,List.forIn_cons,List.forIn_nil];have qf:h6 k gE:=j2.frame k _ _ s1 λc aD o e=>by
  rcases cZ.mp aD with rfl|aD
  ·exact fZ.extBut _ _ D.i1z e
  ·rw[kK.mp aD] at e ⊢;exact fZ.extBut _ _ D.l1z e
 refine a7 (a7 (wpAny_onRaise (a7 (m:=lZ (.ref bZ)) (j2.item k _ _ _ af qf λx kc tk jO t1 gO=>cH ?_))))
 have wY:IsPair kc cg a b:=gO.extBut _ _ D.TOi1 (fZ.extBut _ _ D.TOz g5);refine a7 (pd wY rfl (a7 (wpAny_updateSeq_pair wY λiM AK hP=>?_)));replace AK:IsPair iM cg x b:=AK;refine a7 (wpAny_letGo (cH ?_));have js:iA k iM:=lD.frame k _ _ s2 λc aD o e=>by
  rcases cZ.mp aD with rfl|aD
  ·exact hP.extBut _ _ D.TOi2.symm (gO.extBut _ _ D.i12.symm (fZ.extBut _ _ D.i2z e))
  ·rw[kK.mp aD] at e ⊢;exact hP.extBut _ _ D.l2TO (gO.extBut _ _ D.l2i1 (fZ.extBut _ _ D.l2z e))
 refine a7 (a7 (wpAny_onRaise (a7 (m:=lZ (.ref b3)) (lD.item k _ _ _ ak js λy xi Jf py jQ p1=>cH ?_))))
 have M5:IsPair xi cg x b:=p1.extBut _ _ D.TOi2 AK;refine a7 (pd M5 rfl (a7 (wpAny_updateSeq_pair M5 λjl AL oJ=>?_)));replace AL:IsPair jl cg x y:=AL;refine a7 (wpAny_letGo (cH (cH (a7 (pd AL rfl (a7 (wpAny_newTuple ?_)))))));have BO:jl.objs.size=s.heap.objs.size:=by rw[oJ.1,p1.1,hP.1,gO.1,fZ.1]
 have Np:fV jl z TI cg .ellipsis f1:=oJ.extBut _ _ D.TOz.symm (p1.extBut _ _ D.i2z.symm (hP.extBut _ _ D.TOz.symm (gO.extBut _ _ D.i1z.symm mr)));have Zk:∀c o,c≠z->c≠cg->c≠bZ->c≠b3->s.heap.get? c=some o->jl.get? c=some o:=λc o c3 dF fx c4 e=>oJ.extBut _ _ dF (p1.extBut _ _ c4 (hP.extBut _ _ dF (gO.extBut _ _ fx (fZ.extBut _ _ c3 e))));have Jj:h6 (k+1) jl:=j2.frame _ _ _ t1 λc aD o e=>by
  rcases cZ.mp aD with rfl|aD
  ·exact oJ.extBut _ _ D.TOi1.symm (p1.extBut _ _ D.i12 (hP.extBut _ _ D.TOi1.symm e))
  ·rw[kK.mp aD] at e ⊢;exact oJ.extBut _ _ D.l1TO (p1.extBut _ _ D.l1i2 (hP.extBut _ _ D.l1TO e))
 have x6:iA (k+1) jl:=lD.frame _ _ _ jQ λc aD o e=>by
  rcases cZ.mp aD with rfl|aD
  ·exact oJ.extBut _ _ D.TOi2.symm e
  ·rw[kK.mp aD] at e ⊢;exact oJ.extBut _ _ D.l2TO e
 have qQ:z<jl.objs.size:=c8 Np;refine a7 (m:=Builtin.SmallTypes.ownedTupleHandOut (.ref z) (.ref jl.objs.size)) ?_;unfold Builtin.SmallTypes.ownedTupleHandOut;have Ym:fV (jl.push {cls:=.type "tuple",data:=.seq #[x,y]}) z TI cg .ellipsis f1:=dq _ Np;refine a7 (tr Ym (by simp) λYo GB FE=>?_);replace GB:fV Yo z TI cg (rawInt jl.objs.size) f1:=GB;refine tr GB (by simp) λxj A0 FF=>?_;replace A0:fV xj z TI cg (rawInt jl.objs.size) (.bool false):=A0;have up:∀c o,c≠z->jl.get? c=some o->xj.get? c=some o:=λc o c3 e=>FF.extBut _ _ c3 (FE.extBut _ _ c3 (dq _ e));have e6:IsPair xj jl.objs.size x y:=FF.extBut _ _ (hY qQ) (FE.extBut _ _ (hY qQ) (hX _ rfl));have Oe:xj.objs.size=jl.objs.size+1:=by rw[FF.1,FE.1,kL]
 rw[BO] at A0 e6 Oe;refine cH ⟨_,rfl,?_⟩;show Q (.ref jl.objs.size) _;rw[BO];refine jk xj x y _ jO py A0 (up _ _ D.TOz AL) (j2.frame _ _ _ Jj λc aD o e=>?_) (lD.frame _ _ _ x6 λc aD o e=>?_) e6 Oe λc o c3 dF fx c4 e=>up c o c3 (Zk c o c3 dF fx c4 e)
 ·refine up c o ?_ e
  rcases cZ.mp aD with rfl|aD
  ·exact D.i1z
  ·rw[kK.mp aD];exact D.l1z
 ·refine up c o ?_ e
  rcases cZ.mp aD with rfl|aD
  ·exact D.i2z
  ·rw[kK.mp aD];exact D.l2z
def Qp{Q:Fin->aP->Prop}(D:ZipApart z TI cg bZ b3 cb b_)(j2:Draws prog w A bZ [bZ,cb] gQ t_ h6)(lD:Draws prog w A b3 [b3,b_] gF ua iA)(aq:fV s.heap z TI cg .none f1)(fI:IsPair s.heap TI (.ref bZ) (.ref b3))(g5:IsPair s.heap cg a b)
  (s1:h6 k s.heap) (s2:iA k s.heap) (aH:k=gQ\/(k<gQ/\k=gF))
  (p2:∀h' e tk,(∀c o,c≠z->c≠cg->c≠bZ->c≠b3->s.heap.get? c=some o->h'.get? c=some o)->(∃o,h'.get? e=some o/\o.cls=.type "StopIteration")->E (.ref e) {s with heap:=h',toks:=tk}):
  bG (bR prog w) A (Builtin.«zip.__next__» ⟨[.ref z],[]⟩) Q E s:=by
 unfold fV at aq;refine a7 (m:=field (.ref z) 2) (iq aq rfl (x:=.bool false) rfl (a7 (m:=field (.ref z) 3) (iq aq rfl (x:=.ref TI) rfl (a7 (pd fI rfl ?_)))));refine a7 (m:=rz (.ref z)) ?_;unfold rz;refine a7 (iq aq rfl (x:=.none) rfl (cH ?_));simp only[if_true];refine a7 (wpAny_rule (a7 (iq aq rfl (x:=.ref cg) rfl (a7 (tr aq (by simp) λgE mr fZ=>?_)))));replace mr:fV gE z TI cg .ellipsis f1:=mr;refine a7 ?_;simp only[List.zipIdx_cons,List.zipIdx_nil,List.forIn_cons,List.forIn_nil];have qf:h6 k gE:=j2.frame k _ _ s1 λc aD o e=>by
  rcases cZ.mp aD with rfl|aD
  ·exact fZ.extBut _ _ D.i1z e
  ·rw[kK.mp aD] at e ⊢;exact fZ.extBut _ _ D.l1z e
 rcases aH with rfl|⟨af,rfl⟩
 ·refine a7 (a7 (wpAny_onRaise (a7 (m:=lZ (.ref bZ)) (j2.done _ _ _ qf λkc e gO he=>?_))))
  obtain⟨IE,sS,w2⟩:=he;have Gz:fV kc z TI cg .ellipsis f1:=gO _ _ D.i1z.symm mr;have ne:e≠z:=λq=>by
   subst q;unfold fV at Gz;rw[Gz] at sS;cases sS;simp at w2
  exact tr Gz (by simp) λiM _ hP=>p2 iM e _ (λc o c3 _ fx _ q=>hP.extBut _ _ c3 (gO _ _ fx (fZ.extBut _ _ c3 q))) ⟨IE,hP.extBut _ _ ne sS,w2⟩
 ·refine a7 (a7 (wpAny_onRaise (a7 (m:=lZ (.ref bZ)) (j2.item k _ _ _ af qf λx kc tk jO t1 gO=>cH ?_))))
  have wY:IsPair kc cg a b:=gO.extBut _ _ D.TOi1 (fZ.extBut _ _ D.TOz g5);refine a7 (pd wY rfl (a7 (wpAny_updateSeq_pair wY λiM AK hP=>?_)));refine a7 (wpAny_letGo (cH ?_));have js:iA k iM:=lD.frame k _ _ s2 λc aD o e=>by
   rcases cZ.mp aD with rfl|aD
   ·exact hP.extBut _ _ D.TOi2.symm (gO.extBut _ _ D.i12.symm (fZ.extBut _ _ D.i2z e))
   ·rw[kK.mp aD] at e ⊢;exact hP.extBut _ _ D.l2TO (gO.extBut _ _ D.l2i1 (fZ.extBut _ _ D.l2z e))
  refine a7 (a7 (wpAny_onRaise (a7 (m:=lZ (.ref b3)) (lD.done _ _ _ js λxi e p1 he=>?_))))
  obtain⟨IE,sS,w2⟩:=he;have GA:fV xi z TI cg .ellipsis f1:=p1 _ _ D.i2z.symm (hP.extBut _ _ D.TOz.symm (gO.extBut _ _ D.i1z.symm mr));have ne:e≠z:=λq=>by
   subst q;unfold fV at GA;rw[GA] at sS;cases sS;simp at w2
  exact tr GA (by simp) λjl _ oJ=>p2 jl e _ (λc o c3 dF fx c4 q=>oJ.extBut _ _ c3 (p1 _ _ c4 (hP.extBut _ _ dF (gO.extBut _ _ fx (fZ.extBut _ _ c3 q))))) ⟨IE,oJ.extBut _ _ ne sS,w2⟩
def agx{c:aj}{Q:Option Obj->aP->Prop}(h:Q (s.heap.get? c) s):bG (bR prog w) A (loadIfAlive c) Q E s:=λΓ p _=>by
 unfold loadIfAlive;rw[Sem.wp_loadIfAlive];simpa using h
def Px{T:aj}{k_:Obj}{f:Bool}(aq:fV s.heap z TI cg (rawInt T) (.bool f))(e6:s.heap.get? T=some k_):
  bG (bR prog w) A (rz (.ref z)) (λc s'=>c=false/\∃gE,s'={s with heap:=gE}/\fV gE z TI cg (rawInt T) (.bool true)/\Heap.SameBut z s.heap gE) E s:=by
 unfold fV at aq;unfold rz;refine a7 (iq aq rfl (x:=rawInt T) rfl ?_);refine a7 (m:=loadIfAlive ((T:Nat):Int).toNat) (agx ?_);rw[Int.toNat_natCast,e6];simp only[Option.isNone_some,jU,if_false];refine a7 (iq aq rfl (x:=.bool f) rfl ?_);cases f with
|true=>
  simp only[bne_self_eq_false,jU,if_false];exact cH ⟨rfl,s.heap,rfl,aq,Heap.SameBut.refl ..⟩
|false=>
  rw[if_pos (by decide)];exact a7 (tr aq (by simp) λgE mr fZ=>cH ⟨rfl,gE,rfl,mr,fZ⟩)
def afI{Q:ao->aP->Prop}{T:aj}{k_:Obj}{f:Bool}(D:ZipApart z TI cg bZ b3 cb b_)(j2:Draws prog w A bZ [bZ,cb] gQ t_ h6)(lD:Draws prog w A b3 [b3,b_] gF ua iA)(aq:fV s.heap z TI cg (rawInt T) (.bool f))(e6:s.heap.get? T=some k_)(fI:IsPair s.heap TI (.ref bZ) (.ref b3))
  (s1:h6 k s.heap) (s2:iA k s.heap) (af:k<gQ) (ak:k<gF)
  (jk:∀h' x y tk,t_ k x->ua k y->fV h' z TI cg (rawInt T) (.bool true)->h6 (k+1) h'->iA (k+1) h'->IsPair h' s.heap.objs.size x y->h'.objs.size=s.heap.objs.size+1 ->
   (∀c o,c≠z->c≠bZ->c≠b3->s.heap.get? c=some o->h'.get? c=some o)->Q (.ref s.heap.objs.size) {s with heap:=h',toks:=tk}):
  bG (bR prog w) A (Builtin.«zip.__next__» ⟨[.ref z],[]⟩) (λfin s'=>∃v,fin=.done (.ret v)/\Q v s') E s:=by
 have xg:=aq;unfold fV at aq;refine a7 (m:=field (.ref z) 2) (iq aq rfl (x:=.bool false) rfl (a7 (m:=field (.ref z) 3) (iq aq rfl (x:=.ref TI) rfl (a7 (pd fI rfl ?_)))));refine a7 (m:=rz (.ref z)) (gv (Px xg e6) (λc s' ⟨g0,gE,es,mr,fZ⟩=>?_) λ_ _ q=>q);subst g0 es;simp only[jU,if_false];refine a7 ?_;rw[<- Array.forIn_toList];simp only[List.forIn_cons,List.forIn_nil];have qf:h6 k gE:=j2.frame k _ _ s1 λc aD o e=>by
  rcases cZ.mp aD with rfl|aD
  ·exact fZ.extBut _ _ D.i1z e
  ·rw[kK.mp aD] at e ⊢;exact fZ.extBut _ _ D.l1z e
 refine a7 (a7 (mG (a7 (m:=lZ (.ref bZ)) (j2.item k _ _ _ af qf λx kc tk jO t1 gO=>cH (cH ?_)))))
 have js:iA k kc:=lD.frame k _ _ s2 λc aD o e=>by
  rcases cZ.mp aD with rfl|aD
  ·exact gO.extBut _ _ D.i12.symm (fZ.extBut _ _ D.i2z e)
  ·rw[kK.mp aD] at e ⊢;exact gO.extBut _ _ D.l2i1 (fZ.extBut _ _ D.l2z e)
 refine a7 (a7 (mG (a7 (m:=lZ (.ref b3)) (lD.item k _ _ _ ak js λy iM Jf py jQ hP=>cH (cH (cH ?_))))))
 refine a7 (wpAny_newTuple (cH ⟨_,rfl,?_⟩) (by show 2<=cF;decide))
 have Od:iM.objs.size=s.heap.objs.size:=by rw[hP.1,gO.1,fZ.1]
 have acm:h6 (k+1) iM:=j2.frame _ _ _ t1 λc aD o e=>by
  rcases cZ.mp aD with rfl|aD
  ·exact hP.extBut _ _ D.i12 e
  ·rw[kK.mp aD] at e ⊢;exact hP.extBut _ _ D.l1i2 e
 have Yl:fV iM z TI cg (rawInt T) (.bool true):=hP.extBut _ _ D.i2z.symm (gO.extBut _ _ D.i1z.symm mr);have aC:(iM.push {cls:=.type "tuple",data:=.seq #[x,y]}).get? iM.objs.size=some _:=hX _ rfl;show Q (.ref iM.objs.size) _;rw[Od] at aC ⊢;refine jk (iM.push {cls:=.type "tuple",data:=.seq #[x,y]}) x y _ jO py (dq _ Yl) (j2.frame _ _ _ acm λc _ o e=>dq _ e) (lD.frame _ _ _ jQ λc _ o e=>dq _ e) aC (by rw[kL,Od])
  λc o c3 fx c4 e=>dq _ (hP.extBut _ _ c4 (gO.extBut _ _ fx (fZ.extBut _ _ c3 e)))
def adB{Q:Fin->aP->Prop}{T:aj}{k_:Obj}{f:Bool}(D:ZipApart z TI cg bZ b3 cb b_)(j2:Draws prog w A bZ [bZ,cb] gQ t_ h6)(lD:Draws prog w A b3 [b3,b_] gF ua iA)(aq:fV s.heap z TI cg (rawInt T) (.bool f))(e6:s.heap.get? T=some k_)(fI:IsPair s.heap TI (.ref bZ) (.ref b3))
  (s1:h6 k s.heap) (s2:iA k s.heap) (aH:k=gQ\/(k<gQ/\k=gF))
  (p2:∀h' e tk,(∀c o,c≠z->c≠bZ->c≠b3->s.heap.get? c=some o->h'.get? c=some o)->(∃o,h'.get? e=some o/\o.cls=.type "StopIteration")->E (.ref e) {s with heap:=h',toks:=tk}):
  bG (bR prog w) A (Builtin.«zip.__next__» ⟨[.ref z],[]⟩) Q E s:=by
 have xg:=aq;unfold fV at aq;refine a7 (m:=field (.ref z) 2) (iq aq rfl (x:=.bool false) rfl (a7 (m:=field (.ref z) 3) (iq aq rfl (x:=.ref TI) rfl (a7 (pd fI rfl ?_)))));refine a7 (m:=rz (.ref z)) (gv (Px xg e6) (λc s' ⟨g0,gE,es,mr,fZ⟩=>?_) λ_ _ q=>q);subst g0 es;simp only[jU,if_false];refine a7 ?_;rw[<- Array.forIn_toList];simp only[List.forIn_cons,List.forIn_nil];have qf:h6 k gE:=j2.frame k _ _ s1 λc aD o e=>by
  rcases cZ.mp aD with rfl|aD
  ·exact fZ.extBut _ _ D.i1z e
  ·rw[kK.mp aD] at e ⊢;exact fZ.extBut _ _ D.l1z e
 rcases aH with rfl|⟨af,rfl⟩
 ·refine a7 (a7 (mG (a7 (m:=lZ (.ref bZ)) (j2.done _ _ _ qf λkc e gO he=>?_))))
  exact p2 kc e _ (λc o c3 fx _ q=>gO _ _ fx (fZ.extBut _ _ c3 q)) he
 ·refine a7 (a7 (mG (a7 (m:=lZ (.ref bZ)) (j2.item k _ _ _ af qf λx kc tk jO t1 gO=>cH (cH ?_)))))
  have js:iA k kc:=lD.frame k _ _ s2 λc aD o e=>by
   rcases cZ.mp aD with rfl|aD
   ·exact gO.extBut _ _ D.i12.symm (fZ.extBut _ _ D.i2z e)
   ·rw[kK.mp aD] at e ⊢;exact gO.extBut _ _ D.l2i1 (fZ.extBut _ _ D.l2z e)
  refine a7 (a7 (mG (a7 (m:=lZ (.ref b3)) (lD.done _ _ _ js λiM e hP he=>?_))))
  exact p2 iM e _ (λc o c3 fx c4 q=>hP _ _ c4 (gO.extBut _ _ fx (fZ.extBut _ _ c3 q))) he
end
end
section
variable [c2]
open AutoSeq1 (wpAny_loadPart')
def Yy(b:Bool):String:=if b then "list_iterator" else "tuple_iterator"
noncomputable def hi(b:Bool)(h:b0)(it l:aj)(i:Nat):Prop:=match b with
|true=>h.IsListIter it l i
|false=>h.IsTupleIter it l i
noncomputable def gi(b:Bool)(h:b0)(l:aj)(xs:Array ao):Prop:=match b with
|true=>h.IsList l xs
|false=>h.IsTuple l xs
theorem hi.at{b:Bool}{h h':b0}{it l:aj}{i:Nat}(x:hi b h it l i)(k:∀o,h.get? it=some o->h'.get? it=some o):hi b h' it l i:=by
 cases b with
|true=>exact Heap.IsListIter.at x k
|false=>
  obtain⟨o,aE,r⟩:=x;exact⟨o,k o aE,r⟩
def hi.obj{b:Bool}{h:b0}{it l:aj}{i:Nat}(x:hi b h it l i):∃o,h.get? it=some o/\∀v,o.data≠.cell v:=by
 cases b with
|true=>
  obtain⟨o,aE,aD,hd⟩:=x;exact⟨o,aE,λv z=>by rw[hd] at z;cases z⟩
|false=>
  obtain⟨o,aE,aD,hd⟩:=x;exact⟨o,aE,λv z=>by rw[hd] at z;cases z⟩
def gi.at{b:Bool}{h h':b0}{l:aj}{xs:Array ao}(x:gi b h l xs)(k:∀o,h.get? l=some o->h'.get? l=some o):gi b h' l xs:=by
 cases b with
|true=>
  obtain⟨o,aE,r⟩:=x;exact⟨o,k o aE,r⟩
|false=>
  obtain⟨o,aE,r⟩:=x;exact⟨o,k o aE,r⟩
def gi.lt{b:Bool}{h:b0}{l:aj}{xs:Array ao}(x:gi b h l xs):l<h.objs.size:=by
 cases b with
|true=>
  obtain⟨o,aE,r⟩:=x;exact c8 aE
|false=>
  obtain⟨o,aE,r⟩:=x;exact c8 aE
def nx{prog:cR}{w:cu}{A:c9}(b:Bool)(da:A.handled=none)(it l:aj)(k6:l≠it)(xs:Array ao):
  Draws prog w A it [it,l] xs.size (λi v=>xs[i]?=some v) (λi h=>hi b h it l i/\gi b h l xs):=by
 cases b with
|true=>exact Draws.list da it l k6 xs
|false=>exact Pg da it l k6 xs
abbrev zL(b:Bool)(l:aj):Obj:={cls:=.type (Yy b),data:=.fields #[.ref l,.int 0 0]}
abbrev ad1(bW b6:Bool)(h:b0)(cb b_:aj):b0:=((h.push (zL bW cb)).push (zL b6 b_)).push {cls:=.type "tuple",data:=.seq #[.ref h.objs.size,.ref (h.objs.size+1)]}
abbrev Qb(bW b6:Bool)(h:b0)(cb b_:aj):b0:=(ad1 bW b6 h cb b_).push {cls:=.type "tuple",data:=.seq #[.none,.none]}
abbrev Qc(bW b6:Bool)(h:b0)(cb b_:aj):b0:=(Qb bW b6 h cb b_).push {cls:=.type "zip",data:=.fields #[.none,.bool false,.bool false,.ref (h.objs.size+2),.ref (h.objs.size+3)]}
section
variable {prog:cR}{w:cu}{A:c9}{E:ao->aP->Prop}{s:aP}
def R9{b:Bool}{l:aj}{xs:Array ao}{Q:ao->aP->Prop}(aw:gi b s.heap l xs)(h:Q (.ref s.heap.objs.size) {s with heap:=s.heap.push (zL b l)}):bG (bR prog w) A (pyIter (.ref l)) Q E s:=by
 cases b with
|true=>exact wpAny_pyIter_list aw h
|false=>exact ya aw h
def aev(bW b6:Bool)(cb b_:aj)(xs ys:Array ao):
  Meets (Builtin.«zip.__new__» ⟨[.type "zip",.ref cb,.ref b_],[]⟩) (λ_ R s=>gi bW s.heap cb xs/\gi b6 s.heap b_ ys /\
   R (.ok (.ret (.ref (s.heap.objs.size+4)))) {s with heap:=Qc bW b6 s.heap cb b_}):=
 .of_wp λprog w A R s h=>by
  obtain⟨aC,g,d,tk,os⟩:=s;obtain⟨af,ak,h⟩:=h;have Nk:=sub_zip;have eS:gi bW (Shared.heap ⟨aC,g,d,tk,os⟩) cb xs:=af;have hC:gi b6 (Shared.heap ⟨aC.push (zL bW cb),g,d,tk,os⟩) b_ ys:=ak.at λo e=>dq _ e
  wp_walk using R9 eS,R9 hC
  refine⟨_,rfl,?_⟩
  simp only[kL] at h ⊢;exact h
def Qa{bW b6:Bool}{cb b_:aj}{xs ys:Array ao}{Q:ao->aP->Prop}(af:gi bW s.heap cb xs)(ak:gi b6 s.heap b_ ys)
  (h:∀h',fV h' (s.heap.objs.size+4) (s.heap.objs.size+2) (s.heap.objs.size+3) .none (.bool false)->IsPair h' (s.heap.objs.size+2) (.ref s.heap.objs.size) (.ref (s.heap.objs.size+1))->IsPair h' (s.heap.objs.size+3) .none .none ->
   hi bW h' s.heap.objs.size cb 0->hi b6 h' (s.heap.objs.size+1) b_ 0->h'.objs.size=s.heap.objs.size+5->(∀c o,s.heap.get? c=some o->h'.get? c=some o)->Q (.ref (s.heap.objs.size+4)) {s with heap:=h'}):
  bG (bR prog w) A (call (.type "zip") [.ref cb,.ref b_]) Q E s:=by
 have aS:∀(b:Bool) (h':b0) (it l:aj),h'.get? it=some (zL b l)->hi b h' it l 0:=λb h' it l e=>by
  cases b with
  |true=>exact⟨_,e,rfl,rfl⟩
  |false=>exact⟨_,e,rfl,rfl⟩
 refine callType_new F.called_zip (by decide) (F.typeCall_zip_2 _ _) (F.newCall_zip_2 _ _) (λobj=>F.args_object_init_3 obj _ _) F.entry_zip_new (aev bW b6 cb b_ xs ys) ⟨af,ak,?_⟩
 have at_:∀(da:b0) (n:Nat) (o o':Obj),da.objs.size=n->o.isFreed=false->(da.push o).get? n=some o:=λda n o o' e f=>by
  rw[<- e];exact hX _ f
 have m4:(Qc bW b6 s.heap cb b_).get? (s.heap.objs.size+4)=some _:=at_ (Qb bW b6 s.heap cb b_) (s.heap.objs.size+4) _ default (by simp only[kL]) rfl;refine⟨⟨_,m4,rfl⟩,h _ m4 ?_ ?_ ?_ ?_ (by simp only[kL]) λc o e=>dq _ (dq _ (dq _ (dq _ (dq _ e))))⟩
 ·exact dq _ (dq _ (at_ _ _ _ default (by simp only[kL]) rfl))
 ·exact dq _ (at_ _ _ _ default (by simp only[kL]) rfl)
 ·exact aS bW _ _ _ (dq _ (dq _ (dq _ (dq _ (hX _ rfl)))))
 ·exact aS b6 _ _ _ (dq _ (dq _ (dq _ (at_ _ _ _ default (by simp only[kL]) rfl))))
end
end
section
variable [c2]
def ad_:typeLookup (.type "zip") "keys"=pure none:=by rw[typeLookup_type,builtinLookup_eq_fast];kernel_rfl
def adx:typeLookup (.type "zip") "__getattr__"=pure none:=by rw[typeLookup_type,builtinLookup_eq_fast];kernel_rfl
def adT:entryFor table "zip.__getattribute__"=some Builtin.«object.__getattribute__»:=entryFor_alias (id':="object.__getattribute__") (by kernel_rfl) (by decide +kernel) (by decide +kernel) (by kernel_rfl)
def adw(a:aj)(vs:Array ao)(name:Str)(u:Tok)(ajz:typeLookup (.type "zip") name=pure none)(X6:(["__module__","__name__","__qualname__","__doc__","__annotations__"]:List Str).contains name=false)(hsz:name.length+100<=cF):
  Meets (Builtin.«object.__getattribute__» ⟨[.ref a,.str name u],[]⟩) (λA R s=>s.heap.get? a=some {cls:=.type "zip",dict:=none,data:=.fields vs,slots:=#[]}/\raisesAttr (.ref a) name A R s):=
 Meets.of_wp λprog w A R s av=>by
  obtain⟨aC,g,d,tk,os⟩:=s;obtain⟨hx,av⟩:=av;have ty:(⟨aC,g,d,tk,os⟩:aP).TypeIs (.ref a) "zip":=⟨_,hx,rfl⟩;unfold Builtin.«object.__getattribute__»
  repeat (any_goals (first|assumption|wp_step))
  simp only[X6,jU,if_false]
  repeat (any_goals (first|assumption|wp_step))
  exact wpAny_raiseAttrError av.1 av.2 (attrMsg_fits (by decide +kernel) hsz)
def agb{prog:cR}{w:cu}{A:c9}{E:ao->aP->Prop}{s:aP}{a:aj}{vs:Array ao}{Q:Option ao->aP->Prop}
  (hx:s.heap.get? a=some {cls:=.type "zip",dict:=none,data:=.fields vs,slots:=#[]}) (sF:A.handled=none)
  (h:∀h' tk,(∀b o,s.heap.get? b=some o->h'.get? b=some o)->Q none {s with heap:=h',toks:=tk}):
  bG (bR prog w) A (getAttr? (.ref a) "keys") Q E s:=by
 obtain⟨aC,g,d,tk,os⟩:=s;have ty:∀BS,(⟨aC,g,d,BS,os⟩:aP).TypeIs (.ref a) "zip":=λ_=>⟨_,hx,rfl⟩;have f1:=sub_AttributeError;have h8:=F.slot_zip_getattribute.lookup;have f4:=F.slot_zip_getattribute.bind (.ref a);have h9:=adx;have nm:(["__module__","__name__","__qualname__","__doc__","__annotations__"]:List Str).contains ("keys":Str)=false:=by decide +kernel
 have i4:("keys":Str).length+100<=cF:=by rw[lr];decide
 unfold getAttr? getAttrBy? getAttrBy
 repeat (any_goals (first|assumption|exact ty _|((with_reducible show bG _ _ (call (Value.builtin "zip.__getattribute__") _ _) _ _ _);refine rC F.slot_zip_getattribute (ty _) adT (F.args_zip_getattribute_2 _ _) (adw a vs "keys" _ ad_ nm i4) ⟨hx,sF,λh' BS e kb=>?_⟩)|wp_step))
 obtain⟨t',x5,he⟩:=kb.there;show bG _ _ (getattributeRaised _ _ _ _ _ _ _) _ _ _;unfold getattributeRaised
 repeat (any_goals (first|assumption|wp_step))
 exact h _ _ kb.keeps
section
variable {prog:cR}{w:cu}{K:Type}[DecidableEq K]{knd:PySem.KeyKind prog w K}{A:c9}{E:ao->aP->Prop}{s:aP}{R:Result->aP->Prop}{z TI cg bZ b3 cb b_:aj}{bW b6:Bool}{xs ys:Array ao}
noncomputable def r7(S z TI cg bZ b3 cb b_:aj)(bW b6:Bool)(xs ys:Array ao)(i:Nat)(h:b0):Prop:=IsPair h TI (.ref bZ) (.ref b3)/\(∃a b,IsPair h cg a b)/\(hi bW h bZ cb i/\gi bW h cb xs)/\(hi b6 h b3 b_ i/\gi b6 h b_ ys) /\
 (fV h z TI cg .none (.bool false)\/∃(T:Nat) (k_:Obj) (f:Bool),fV h z TI cg (rawInt T) (.bool f)/\h.get? T=some k_/\T≠S/\T≠z/\T≠cg/\T≠bZ/\T≠b3)
noncomputable def Kept(S z cg bZ b3:aj)(h h':b0):Prop:=∀c o,c≠S->c≠z->c≠cg->c≠bZ->c≠b3->h.get? c=some o->h'.get? c=some o
def aej{S:aj}{i:Nat}{Q:Option ao->aP->Prop}(da:A.handled=none)(D:ZipApart z TI cg bZ b3 cb b_)(st:r7 S z TI cg bZ b3 cb b_ bW b6 xs ys i s.heap)(fz:∃o,s.heap.get? S=some o)(jM:S≠z/\S≠cg/\S≠bZ/\S≠b3)
  (hx:i<xs.size) (bL:i<ys.size)
  (jk:∀h' tk,IsPair h' s.heap.objs.size xs[i] ys[i]->r7 S z TI cg bZ b3 cb b_ bW b6 xs ys (i+1) h'->(∀o,s.heap.get? S=some o->h'.get? S=some o)->Kept S z cg bZ b3 s.heap h'->s.heap.objs.size<=h'.objs.size->Q (some (.ref s.heap.objs.size)) {s with heap:=h',toks:=tk}):
  bG (bR prog w) A (pyNext (.ref z)) Q E s:=by
 obtain⟨fI,⟨a,b,g5⟩,aO,bb,aq⟩:=st;have qQ:∀{f0 f1:ao},fV s.heap z TI cg f0 f1->z<s.heap.objs.size:=λh=>c8 h;have e6:s.TypeIs (.ref z) "zip":=by
  rcases aq with h|⟨T,k_,f,h,_⟩
  ·exact⟨_,h,rfl⟩
  ·exact⟨_,h,rfl⟩
 have Nq:bZ<s.heap.objs.size/\b3<s.heap.objs.size:=by
  obtain⟨dT,aQ,_⟩:=aO.1.obj;obtain⟨fA,a9,_⟩:=bb.1.obj;exact⟨c8 aQ,c8 a9⟩
 have Ui:S<s.heap.objs.size:=by
  obtain⟨o,e⟩:=fz;exact c8 e
 have DX:cg<s.heap.objs.size:=c8 g5;unfold pyNext;refine a7 (wpAny_attempt (qs (name:=Str.ofString "__next__") e6 F.slot_zip_next (pe F.slot_zip_next e6 F.entry_zip_next ?_ (F.args_zip_next_1 _))));rcases aq with aq|⟨T,k_,f,aq,AM,t1,jQ,t3,nh,rv⟩
 ·refine Qq (h6:=λi h=>hi bW h bZ cb i/\gi bW h cb xs) (iA:=λi h=>hi b6 h b3 b_ i/\gi b6 h b_ ys) D (nx (A:=A.in1) bW da bZ cb D.l1i1 xs) (nx (A:=A.in1) b6 da b3 b_ D.l2i2 ys) aq fI g5 aO bb hx bL λh' x y tk jO py n2 F6 s1 s2 aC hsz az=>cH ?_
  have ex:xs[i]=x:=en ((uX hx).symm.trans jO);have eQ:ys[i]=y:=en ((uX bL).symm.trans py);subst ex eQ;refine jk h' tk aC ⟨az _ _ D.TIz D.TITO D.TIi1 D.TIi2 fI,⟨_,_,F6⟩,s1,s2,.inr ⟨_,_,false,n2,aC,?_⟩⟩ (λo e=>az _ _ jM.1 jM.2.1 jM.2.2.1 jM.2.2.2 e) (λc o _ dF fx c4 jJ e=>az c o dF fx c4 jJ e) (by omega);exact⟨hY Ui,hY (qQ aq),hY DX,hY Nq.1,hY Nq.2⟩
 ·refine afI (h6:=λi h=>hi bW h bZ cb i/\gi bW h cb xs) (iA:=λi h=>hi b6 h b3 b_ i/\gi b6 h b_ ys) D (nx (A:=A.in1) bW da bZ cb D.l1i1 xs) (nx (A:=A.in1) b6 da b3 b_ D.l2i2 ys) aq AM fI aO bb hx bL λh' x y tk jO py n2 s1 s2 aC hsz az=>cH ?_
  have ex:xs[i]=x:=en ((uX hx).symm.trans jO);have eQ:ys[i]=y:=en ((uX bL).symm.trans py);subst ex eQ;exact jk h' tk aC ⟨az _ _ D.TIz D.TIi1 D.TIi2 fI,⟨a,b,az _ _ D.TOz D.TOi1 D.TOi2 g5⟩,s1,s2,.inr ⟨T,k_,true,n2,az _ _ jQ nh rv AM,t1,jQ,t3,nh,rv⟩⟩ (λo e=>az _ _ jM.1 jM.2.2.1 jM.2.2.2 e) (λc o _ dF fx c4 jJ e=>az c o dF c4 jJ e) (by omega)
def aek{S:aj}{i:Nat}{Q:Option ao->aP->Prop}(da:A.handled=none)(D:ZipApart z TI cg bZ b3 cb b_)(st:r7 S z TI cg bZ b3 cb b_ bW b6 xs ys i s.heap)(jM:S≠z/\S≠cg/\S≠bZ/\S≠b3)(aS:i=xs.size\/(i<xs.size/\i=ys.size))
  (jk:∀h' tk,(∀o,s.heap.get? S=some o->h'.get? S=some o)->Kept S z cg bZ b3 s.heap h'->Q none {s with heap:=h',toks:=tk}):
  bG (bR prog w) A (pyNext (.ref z)) Q E s:=by
 obtain⟨fI,⟨a,b,g5⟩,aO,bb,aq⟩:=st;have e6:s.TypeIs (.ref z) "zip":=by
  rcases aq with h|⟨T,k_,f,h,_⟩
  ·exact⟨_,h,rfl⟩
  ·exact⟨_,h,rfl⟩
 unfold pyNext;refine a7 (wpAny_attempt (qs (name:=Str.ofString "__next__") e6 F.slot_zip_next (pe F.slot_zip_next e6 F.entry_zip_next ?_ (F.args_zip_next_1 _))));rcases aq with aq|⟨T,k_,f,aq,AM,t1,jQ,t3,nh,rv⟩
 ·refine Qp (h6:=λi h=>hi bW h bZ cb i/\gi bW h cb xs) (iA:=λi h=>hi b6 h b3 b_ i/\gi b6 h b_ ys) D (nx (A:=A.in1) bW da bZ cb D.l1i1 xs) (nx (A:=A.in1) b6 da b3 b_ D.l2i2 ys) aq fI g5 aO bb aS λh' e tk az he=>?_
  obtain⟨o,aE,aD⟩:=he;refine a7 (wpAny_isInstance (T:="StopIteration") (b:=true) ⟨o,aE,aD⟩ isSubtype_stop (cH ?_));exact jk h' tk (λo e=>az _ _ jM.1 jM.2.1 jM.2.2.1 jM.2.2.2 e) λc o _ dF fx c4 jJ e=>az c o dF fx c4 jJ e
 ·refine adB (h6:=λi h=>hi bW h bZ cb i/\gi bW h cb xs) (iA:=λi h=>hi b6 h b3 b_ i/\gi b6 h b_ ys) D (nx (A:=A.in1) bW da bZ cb D.l1i1 xs) (nx (A:=A.in1) b6 da b3 b_ D.l2i2 ys) aq AM fI aO bb aS λh' e tk az he=>?_
  obtain⟨o,aE,aD⟩:=he;refine a7 (wpAny_isInstance (T:="StopIteration") (b:=true) ⟨o,aE,aD⟩ isSubtype_stop (cH ?_));exact jk h' tk (λo e=>az _ _ jM.1 jM.2.2.1 jM.2.2.2 e) λc o _ dF fx c4 jJ e=>az c o dF c4 jJ e
def r7.frame{S:aj}{i:Nat}{h h':b0}(st:r7 S z TI cg bZ b3 cb b_ bW b6 xs ys i h)(fz:∀c∈[z,TI,cg,bZ,b3,cb,b_],S≠c)(k:∀c o,c≠S->h.get? c=some o->h'.get? c=some o):r7 S z TI cg bZ b3 cb b_ bW b6 xs ys i h':=by
 obtain⟨fI,⟨a,b,g5⟩,aO,bb,aq⟩:=st;have ne:∀c∈[z,TI,cg,bZ,b3,cb,b_],c≠S:=λc aD=>(fz c aD).symm;refine⟨k _ _ (ne _ (by simp)) fI,⟨a,b,k _ _ (ne _ (by simp)) g5⟩,⟨aO.1.at λo e=>k _ _ (ne _ (by simp)) e,aO.2.at λo e=>k _ _ (ne _ (by simp)) e⟩,⟨bb.1.at λo e=>k _ _ (ne _ (by simp)) e,bb.2.at λo e=>k _ _ (ne _ (by simp)) e⟩,?_⟩;rcases aq with aq|⟨T,k_,f,aq,e6,t⟩
 ·exact .inl (k _ _ (ne z (by simp)) aq)
 ·exact .inr ⟨T,k_,f,k _ _ (ne z (by simp)) aq,k _ _ t.1 e6,t⟩
def adX(da:A.handled=none)(D:ZipApart z TI cg bZ b3 cb b_)(S:aj)(fz:∀c∈[z,TI,cg,bZ,b3,cb,b_],S≠c)(kvs:List (K×ao))(uC:(kvs.map (·.1)).Nodup)(hlen:kvs.length=min xs.size ys.size)(aq:kvs.length<=cF)
  (sP:∀(j:Nat) (cJ:K×ao),kvs[j]?=some cJ->∃key,xs[j]?=some key/\knd.is cJ.1 key=true/\ys[j]?=some cJ.2):
  ∀(k i:Nat) (s:aP) (c:Int) (e':Tok),kvs.length - i=k->i<=kvs.length->r7 S z TI cg bZ b3 cb b_ bW b6 xs ys i s.heap->s.heap.DictOf knd S (kvs.take i) ->
   (∀h' tk,Kept S z cg bZ b3 s.heap h'->h'.DictOf knd S kvs->R (.ok (.ret .none)) {s with heap:=h',toks:=tk}) ->
   codeAny (bR prog w) A (.builtin "dict.update.loop" ⟨[.ref S,.ref z,.int c e',.none],[]⟩) R s:=by
 have jM:S≠z/\S≠cg/\S≠bZ/\S≠b3:=⟨fz _ (by simp),fz _ (by simp),fz _ (by simp),fz _ (by simp)⟩;intro k
 induction k with
|zero=>
  intro i s c e' aH aS mq hd sH;have p5:i=kvs.length:=by omega
  subst p5;refine u3 P7 ?_;rw[uZ CY _];refine a7 (m:=pyNext (.ref z)) (aek (A:=A.in1) da D mq jM (by omega) λh' tk F4 az=>?_);refine a7 (m:=Builtin.Dict.addKeywords S []) (cH ?_);rw[List.take_of_length_le (el _)] at hd;exact cH (sH h' tk az (hd.at λo e=>F4 o e))
|succ k b2=>
  intro i s c e' aH aS mq hd sH;have eZ:i<kvs.length:=by omega
  have hx:i<xs.size:=by omega
  have bL:i<ys.size:=by omega
  have Xl:∃o,s.heap.get? S=some o:=by
   obtain⟨o,_,_,e,_⟩:=hd;exact⟨o,e⟩
  refine u3 P7 ?_
  rw[uZ CY _];refine a7 (m:=pyNext (.ref z)) (aej (A:=A.in1) da D mq Xl jM hx bL λh' tk aC lg F4 az hsz=>?_);have Nd:kvs[i]?=some kvs[i]:=gT eZ;obtain⟨key,aQ,a9,gc⟩:=sP i _ Nd;have ex:xs[i]=key:=en ((uX hx).symm.trans aQ);have eQ:ys[i]=kvs[i].2:=en ((uX bL).symm.trans gc);rw[ex,eQ] at aC;refine a7 (mG (a7 (wpAny_tryCatch (pair_items (s:={s with heap:=h',toks:=tk}) aC rfl rfl ?_))));have XA:h'.DictOf knd S (kvs.take i):=hd.at λo e=>F4 o e;refine mG (wpAny_dictSet_pairs (s:={s with heap:=h',toks:=tk}) a9 XA (λak hd2 Nj=>?_) (by rw[List.length_take];omega));have m6:kvs[i].1∉(kvs.take i).map (·.1):=λq=>by
   rw[<- List.take_append_drop i kvs,List.map_append,o7] at uC;refine uC.2.2 _ q _ (dm.mpr ⟨kvs[i],?_,rfl⟩) rfl;rw[List.drop_eq_getElem_cons eZ];exact e8
  rw[stored_new m6,show kvs.take i++[(kvs[i].1,kvs[i].2)]=kvs.take (i+1) by rw[List.take_succ,Nd];rfl] at hd2;refine cH ⟨plainId_quiet CY _,b2 (i+1) _ _ _ (by omega) eZ (lg.frame fz λc o aD e=>?_) hd2 λbA acP Hn Ge=>sH bA acP (λc o c3 dF fx c4 jJ e=>Hn c o c3 dF fx c4 jJ ?_) Ge⟩
  ·exact (Nj.2 c aD).trans e
  ·exact (Nj.2 c c3).trans (az c o c3 dF fx c4 jJ e)
def aeO{kvs:List (K×ao)}{Q:ao->aP->Prop}(da:A.handled=none)(D:ZipApart z TI cg bZ b3 cb b_)(st:r7 s.heap.objs.size z TI cg bZ b3 cb b_ bW b6 xs ys 0 s.heap)(aq:fV s.heap z TI cg .none (.bool false))(uC:(kvs.map (·.1)).Nodup)(hlen:kvs.length=min xs.size ys.size)(hsz:kvs.length<=cF)
  (sP:∀(j:Nat) (cJ:K×ao),kvs[j]?=some cJ->∃key,xs[j]?=some key/\knd.is cJ.1 key=true/\ys[j]?=some cJ.2)
  (h:∀(h':b0) (tk:Nat),h'.DictOf knd s.heap.objs.size kvs->(∀c o,c≠z->c≠cg->c≠bZ->c≠b3->s.heap.get? c=some o->h'.get? c=some o)->Q (.ref s.heap.objs.size) {s with heap:=h',toks:=tk}):
  bG (bR prog w) A (call (.type "dict") [.ref z]) Q E s:=by
 obtain⟨fI,⟨a,b,g5⟩,aO,bb,_⟩:=id st;have qQ:z<s.heap.objs.size:=c8 aq;have fz:∀c∈[z,TI,cg,bZ,b3,cb,b_],s.heap.objs.size≠c:=by
  obtain⟨dT,aQ,_⟩:=aO.1.obj;obtain⟨fA,a9,_⟩:=bb.1.obj;have a1:=c8 fI;have a2:=c8 g5;have iC:=c8 aQ;have kZ:=c8 a9;have j7:=aO.2.lt;have k0:=bb.2.lt;intro c aD;simp only[cZ,kp,or_false] at aD;rcases aD with rfl|rfl|rfl|rfl|rfl|rfl|rfl
  ·exact hY qQ
  ·exact hY a1
  ·exact hY a2
  ·exact hY iC
  ·exact hY kZ
  ·exact hY j7
  ·exact hY k0
 refine callType_codes (Q₁:=λobj dH=>obj=.ref s.heap.objs.size/\dH={s with heap:=s.heap.push {cls:=.type "dict",data:=.dict #[]} }) F.kt_called_dict (F.kt_typeCall_dict_1 _) F.entry_dict_init (kt_code_dict_new _ ⟨rfl,rfl⟩) ?_
 rintro obj dH ⟨rfl,rfl⟩;have Fs:(s.heap.push {cls:=.type "dict",data:=.dict #[]}).DictOf knd s.heap.objs.size []:=Heap.DictOf.new s.heap;have sY:fV (s.heap.push {cls:=.type "dict",data:=.dict #[]}) z TI cg .none (.bool false):=dq _ aq;refine⟨Fs.typeIs,F.args_dict_init_2 _ _,?_⟩;unfold Builtin.«dict.__init__»;refine a7 ?_;unfold Builtin.Dict.selfAndRest;refine a7 (wpAny_notOrdered_dict Fs.typeIs ?_);show bG _ _ (pure (s.heap.objs.size,[Value.ref z])) _ _ _;refine cH ?_;show bG _ _ (Builtin.Dict.updateFrom "dict.__init__" s.heap.objs.size (.ref z) [] .none) _ _ _;unfold Builtin.Dict.updateFrom;refine a7 (wpAny_typeOf (show Shared.TypeIs _ (.ref z) "zip" from ⟨_,sY,rfl⟩) ?_);rw[if_pos (by decide)];refine a7 (agb sY (by simp[da]) λak Jf ec=>?_);have rh:IsZip ak z TI cg .none:=ec _ _ sY;simp only[Option.isNone_none,if_true];refine a7 (wpAny_rule (a7 (wpAny_pyIter_zip (s:={s with heap:=ak,toks:=Jf}) rh (cH ⟨plainId_quiet CY _,?_⟩))));have az:∀c o,s.heap.get? c=some o->ak.get? c=some o:=λc o e=>ec _ _ (dq _ e);refine adX (knd:=knd) (by simp[da]) D s.heap.objs.size fz kvs uC hlen hsz sP (kvs.length - 0) 0 _ 0 _ (by omega) (kP _) (st.frame fz λc o _ e=>az c o e) (by simpa using Fs.at λo e=>ec _ _ e) λh' tk Hn Ge=>⟨rfl,h h' tk Ge λc o dF fx c4 jJ e=>?_⟩;exact Hn c o (fD (c8 e)) dF fx c4 jJ (az c o e)
end
end
section
variable [c2]
def O9{n cb b_:Nat}(af:cb<n)(ak:b_<n):ZipApart (n+4) (n+2) (n+3) n (n+1) cb b_:=by constructor <;> (show (_:Nat)≠_) <;> omega
section
variable {X:bh}{a b:bf}{f g:bD}{p fB pos my:Pos}
noncomputable def kv:List bo.Key->List V->List (bo.Key×V)
|k::bc,v::vs=>(k,v)::kv bc vs
|_,_=>[]
theorem Qr:∀(bc:List bo.Key) (vs:List V),(kv bc vs).length=min bc.length vs.length
| [],vs=>by simp[kv]
|k::bc,[]=>by simp[kv]
|k::bc,v::vs=>by simp only[kv,hF,Qr bc vs];omega
theorem KQ:∀{bc:List bo.Key} {vs:List V} {us:List ao},Vals vs us->fU (kv bc vs) ((bc.zip us))
| [],vs,us,_=>by
  rw[show kv [] vs=[] from rfl,List.zip_nil_left];exact .nil
|k::bc,_,_,.nil=>.nil
|k::bc,_,_,.cons r t=>.cons ⟨rfl,r⟩ (KQ t)
def aeU(X:bh){bc:List bo.Key}{us:List ao}{xs:List ao}(hx:Vals (bc.map ei) xs)(j:Nat)(cJ:bo.Key×ao)(h:(bc.zip us)[j]?=some cJ):∃key,xs.toArray[j]?=some key/\kS cJ.1 key=true/\us.toArray[j]?=some cJ.2:=by
 rw[List.getElem?_zip_eq_some] at h;obtain⟨af,ak⟩:=h;obtain⟨u,bj,ee⟩:=hx.get (i:=j) (x:=ei cJ.1) (by rw[hq,af];rfl);refine⟨u,by simpa using bj,we (P:=X.prog) (w:=X.w) ee,by simpa using ak⟩
noncomputable def aiy(K:bl)(cD:f'):TE:=λσ H Q=>cD σ H λvs H1=>∃cb b_ bc ys,vs=[.ref cb,.ref b_]/\f_ K H1 cb (bc.map ei)/\de K H1 b_ ys/\((kv bc ys).map (·.1)).Nodup/\(kv bc ys).length<=1000/\∀q,H1 q=none->Q (.ref q) (upd H1 q (.du (kv bc ys)))
def aes{cD:f'}(aD:X.calm=true)(hd:X.mg "dict"=none)(aq:X.mg "zip"=none)(ax:h5 X [a,b] cD)(br:fi X "dict")(Gk:fi X "zip")(m5:bB [a,b] X.env=(false,eval a X.env)::bB [b] X.env)(Gs:(dR my (bB [b] X.env)).any (·.1)=false)
  (he:bB [.Call (.Name "zip" fB) [a,b] [] my] X.env=(false,eval (.Call (.Name "zip" fB) [a,b] [] my) X.env)::bB [] X.env) (hpl:(dR pos (bB [] X.env)).any (·.1)=false):
  bO X (.Call (.Name "dict" p) [.Call (.Name "zip" fB) [a,b] [] my] [] pos) (aiy X.K cD):=by
 intro ah s σ H Q I h;refine u2 (tY I br hd PyProof.Rows.boot_dict ?_);refine uY ?_ he hpl;rw[he];show bG _ _ (spliced ((false,eval (.Call (.Name "zip" fB) [a,b] [] my) X.env)::dR pos (bB [] X.env))) _ _ s;refine Calls.spliced_cons (u2 (tY I Gk aq PyProof.Rows.boot_zip (uY (ct (ax my ah s σ H _ I h) λus s1 ⟨vs,H1,bE,bg,aO⟩=>?_) m5 Gs)));obtain⟨cb,b_,bc,ys,rfl,m7,n0,uC,hle,q⟩:=aO;obtain⟨Jj,x6,rfl,aQ,a9⟩:=bg.two;cases aQ;cases a9;obtain⟨its,b9,pl,sY⟩:=bE.list m7;obtain⟨hQ,qd,aas,rh⟩:=bE.tuple n0;have e7:gi true s1.heap cb its.toArray:=pl.isList;have ec:gi false s1.heap b_ hQ.toArray:=aas;refine Qa e7 ec λh' xh fI g5 uA uB hsz aH=>Calls.spliced_nil ?_;have nW:bc.length=its.length:=by have:=b9.length;simpa using this
 have AP:ys.length=hQ.length:=qd.length;have hlen:(bc.zip hQ).length=(kv bc ys).length:=by rw[Qr,List.length_zip,AP]
 have Gl:(bc.zip hQ).map (·.1)=(kv bc ys).map (·.1):=(Rg (KQ qd)).symm;have big:=bE.big;have BO:h'.objs.size=s1.heap.objs.size+5:=hsz;refine aeO (knd:=fu X.prog X.w) (kvs:=bc.zip hQ) (s:={s1 with heap:=h'}) (bE.ok.hd aD) (O9 e7.lt ec.lt) ⟨fI,⟨_,_,g5⟩,⟨uA,e7.at λo e=>aH _ o e⟩,⟨uB,ec.at λo e=>aH _ o e⟩,.inl xh⟩ xh (by rw[Gl];exact uC) (by rw[List.length_zip,eJ,eJ,nW]) (by rw[hlen,lr];omega) (λj cJ e=>aeU X b9 j cJ e) λak tk hd2 xr=>?_;have keep:∀c o,s1.heap.get? c=some o->ak.get? c=some o:=λc o e=>by
  have aD:c<s1.heap.objs.size:=c8 e;have ne:∀m:Nat,c≠s1.heap.objs.size+m:=λm=>fD (km aD (tv _ m));exact xr c o (ne 4) (ne 3) (ne 0) (ne 1) (aH c o e)
 have H9:s1.heap.objs.size<=h'.objs.size:=by rw[BO];exact tv _ _
 refine⟨.ref h'.objs.size,_,Kg (s:=s1) bE (o:=.du (kv bc ys)) (d':=s1.drawn) (t':=tk) keep H9 ⟨by rw[lr];omega,?_,bc.zip hQ,KQ qd,hd2⟩,rfl,q _ (bE.b'.fresh H9)⟩
 rw[beq_eq_false_iff_ne];exact hY (km big H9)
variable {c C i j:Nat}{ns:List Str}{fn:Str}{o:bf}{apos:Pos}
theorem Qs{K:bl}{F:aj->Prop}{H:aA}:∀{lk lv:List T} {kvs:List (D.Key×T)} {ws ys:List V},r5 lk lv=some kvs->bk K F H lk ws->bk K F H lv ys->(∀t∈lk,∃k,keyOf t=some k)->∃bc:List bo.Key,ws=bc.map ei/\eL K F H kvs (kv bc ys)/\(kv bc ys).map (·.1)=kvs.map (·.1)
| [],lv,kvs,ws,ys,e,af,ak,_=>by
  cases e
  simp only[bk] at af;subst af;exact⟨[],rfl,rfl,rfl⟩
|t::lk,[],kvs,ws,ys,e,af,ak,ax=>by
  cases e
  simp only[bk] at af ak;subst ak;obtain⟨v,r,rfl,q,z⟩:=af;obtain⟨k,aH⟩:=ax t (by simp);have a5:v=ei k:=rV (O:=λ_=>False) aH (.inl q);have key:∀{lk:List T} {r:List V},bk K F H lk r->(∀t∈lk,∃k,keyOf t=some k)->∃bc:List bo.Key,r=bc.map ei:=by
   intro lk
   induction lk with
   |nil=>
    intro r h _;simp only[bk] at h;exact⟨[],h⟩
   |cons t lk b2=>
    intro r h ax;simp only[bk] at h;obtain⟨v,cw,rfl,q,z⟩:=h;obtain⟨k,aH⟩:=ax t (by simp);obtain⟨bc,rfl⟩:=b2 z λu bj=>ax u (dM _ bj);exact⟨k::bc,by rw[rV (O:=λ_=>False) aH (.inl q)];rfl⟩
  obtain⟨bc,rfl⟩:=key z λu bj=>ax u (dM _ bj);exact⟨k::bc,by rw[a5];rfl,rfl,rfl⟩
|t::lk,u::lv,kvs,ws,ys,e,af,ak,ax=>by
  simp only[r5,b5,dN] at e;obtain⟨k,aH,r,dZ,rfl⟩:=e;simp only[bk] at af ak;obtain⟨v,bg,rfl,aO,nu⟩:=af;obtain⟨w,b7,rfl,bb,ir⟩:=ak;obtain⟨bc,rfl,ig,uJ⟩:=Qs dZ nu ir λu bj=>ax u (dM _ bj);exact⟨k::bc,by rw[rV (O:=λ_=>False) aH (.inl aO)];rfl,⟨w,_,rfl,bb,ig⟩,by simp[kv,uJ]⟩
def Q1(k:hb X.K c C ns)(aD:X.calm=true)(hd:X.mg "dict"=none)(aq:X.mg "zip"=none)(a8:bO X o (gJ i))(ax:eo X a f)(ae:eo X b g){oH:Pos}(bw:ns[j]?=some fn:=by rfl)(br:fi X "dict":=by rfl)(Gk:fi X "zip":=by rfl)
  (m5:bB [a,b] X.env=(false,eval a X.env)::bB [b] X.env:=by rfl) (XD:bB [b] X.env=(false,eval b X.env)::bB [] X.env:=by rfl) (Gs:(dR my (bB [b] X.env)).any (·.1)=false:=by rfl)
  (he:bB [.Call (.Name "zip" fB) [a,b] [] my] X.env=(false,eval (.Call (.Name "zip" fB) [a,b] [] my) X.env)::bB [] X.env:=by rfl) (hpl:(dR oH (bB [] X.env)).any (·.1)=false:=by rfl)
  (av:i6 (.Call (.Name "dict" p) [.Call (.Name "zip" fB) [a,b] [] my] [] oH) (some (.Attribute o fn apos)) pos.line X.env=pure false:=by rfl):
  fM X (.Assign [.Attribute o fn apos] (.Call (.Name "dict" p) [.Call (.Name "zip" fB) [a,b] [] my] [] oH) pos) (wk c i j f g):=
 g9 (Lf a8 (aes aD hd aq (i7 ax (i7 ae lA XD) m5) br Gk m5 Gs he hpl) av) λD σ H ⟨aB,E,O,F,ε,o,r,e,bQ⟩=>by
 simp only[wk,b5] at e;obtain⟨tk,W8,ho,W9,e⟩:=e;split at e
 next lk lv=>
  simp only[b5] at e;obtain⟨kvs,wO,e⟩:=e;split at e
  next M8=>
   simp only[dN] at e;obtain⟨ε',es,rfl⟩:=e;refine⟨aB,E,O,F,ε,_,r,W8,λv1 aX H1 aJ aO=>⟨aB,E,O,aX,ε,_,r.ext aJ,W9,λv2 c0 ba bq bb=>?_⟩⟩;obtain⟨cb,ws,rfl,nW,rf⟩:=(aO.ext bq).lst;obtain⟨b_,ys,rfl,AP,sT⟩:=bb.tup;obtain⟨bc,rfl,ig,uJ⟩:=Qs wO rf sT λt aR=>Option.isSome_iff_exists.mp (M8.2.2 t aR);have qk:=aJ.trans bq;refine⟨cb,b_,bc,ys,rfl,.inl nW,AP,by rw[uJ];exact M8.1,by have:=congrArg List.length uJ;simp only[gk] at this;omega,λq bt=>?_⟩;have d0:=Ext.laid (o:=.du (kv bc ys)) qk.cj bt;have ql:=qk.trans d0;have bg:=r.ext ql;have m6:H q=none:=qk.same.none bt;have gf:¬c0 q:=λz=>by
    obtain⟨o,e⟩:=qk.cj q z;rw[bt] at e;cases e
   have fm:=es;unfold f6 at fm;simp only[b5] at fm;obtain⟨⟨m,ay⟩,aE,_⟩:=fm;obtain⟨Vb,vs,bz,af,hx,aw,ax,_⟩:=qI k bg aE;have hold:=KC r ql m6;obtain⟨az,b7⟩:=bg.BK (s:=.hN kvs) (v:=.ref q) k aE af ax es ⟨q,_,rfl,dI,eL.az d0.az ig⟩ (λd hd=>by
    have:d=q:=by simpa [dG,gg] using hd
    subst this;exact⟨gf,r.fr _ m6,hold i _ _ (kr aE) af,λk u w _ fG _ aH=>hold k u w fG aH⟩) hx bw
   refine⟨_,af,Vb,C,bz,_,rfl,hx,k.cls,ma k bw,?_,bQ σ c0 _ (ql.az.trans az) b7⟩
   have:=k.oK;simp only[List.length_zip];omega
  next=>cases e
 next=>cases e
end
end
section
variable [c2]
open AutoSeq1 (wpAny_loadPart')
noncomputable def n7:T->T->Option T
|.tuple xs,.int k=>if 2<=k/\k<1000/\xs≠[]/\xs.length*k.toNat<=big then some (.tuple (dW k.toNat xs).flatten) else none
|.list xs,.int k=>if 0<=k/\k<1000/\xs.length*k.toNat<=big then some (.list (dW k.toNat xs).flatten) else none
|_,_=>none
def adj:fillsNumberSlot (.type "tuple") "mul"=pure false:=
 PySem.fillsNumberSlot_seq (id:="tuple.__mul__") (r:=some (.builtin "tuple.__rmul__")) F.slot_tuple_mul.lookup (by decide +kernel) F.slot_tuple_rmul.lookup (by decide +kernel)
def adF:seqRepeat? (.type "tuple")=pure (some (.builtin "tuple.__mul__")):=by
 unfold seqRepeat?;rw[PySem.seqSlot_of (T:="tuple") (name:="__mul__") (id:="tuple.__mul__") F.slot_tuple_mul.lookup (by decide +kernel),PySem.seqSlot_of (T:="tuple") (name:="__rmul__") (id:="tuple.__rmul__") F.slot_tuple_rmul.lookup (by decide +kernel)];rfl
def ad7(a:Int)(t:Tok)(l:aj)(its:Array ao)(n:Nat)(dO:Option aj)(dg:Array (Option ao)):Meets (Builtin.«int.__rmul__» ⟨[.int a t,.ref l],[]⟩) (λ_ R s=>s.heap.get? l=some {cls:=.type "tuple",dict:=dO,data:=.seq its n,slots:=dg}/\R (.ok (.ret Value.notImplemented)) s):=
 .of_wp λprog w A R s h=>by
  obtain⟨aC,g,d,tk,os⟩:=s;obtain⟨aw,h⟩:=h
  wp_walk
  exact⟨_,rfl,h⟩
def aeu(l:aj)(its:Array ao)(n:Nat)(dO:Option aj)(dg:Array (Option ao))(k:Int)(t:Tok)(af:2<=k)(ak:k<1000)(k6:its.isEmpty=false)(aq:its.size*k.toNat<=cF):
  Meets (Builtin.«tuple.__mul__» ⟨[.ref l,.int k t],[]⟩) (λ_ R s=>s.heap.get? l=some {cls:=.type "tuple",dict:=dO,data:=.seq its n,slots:=dg} /\
   R (.ok (.ret (.ref s.heap.objs.size))) {s with heap:=s.heap.push {cls:=.type "tuple",data:=.seq ((dW k.toNat its).foldl (·++·) #[])} }):=
 .of_wp λprog w A R s h=>by
  obtain⟨aC,g,d,tk,os⟩:=s;obtain⟨aw,h⟩:=h;have c3:¬(decide (k < -(2 ^ 63)) || decide (k >= 2 ^ 63))=true:=by simp;omega
  have dF:¬(its.isEmpty || k==1)=true:=by simp[k6];omega
  have fx:¬(decide (k<=0) || its.isEmpty)=true:=by simp[k6];omega
  wp_walk using wpAny_loadPart' aw
  have Nm:(its.size:Int)*k=((its.size*k.toNat:Nat):Int):=by
   have:(k.toNat:Int)=k:=Int.toNat_of_nonneg (by omega);rw[<- this]
   push_cast
   simp
  have c4:¬((its.size:Int)*k > (2 ^ 63 - 1) / 8):=by
   rw[Nm];rw[lr] at aq;omega
  have jJ:¬Builtin.Tuple.tupleTooMany ((its.size:Int)*k)=true:=by
   unfold Builtin.Tuple.tupleTooMany;rw[Nm,decide_eq_true_iff];omega
  rw[if_neg c3]
  wp_walk using wpAny_loadPart' aw
  rw[if_neg dF,if_neg fx,if_neg c4,if_neg jJ];unfold tn;refine a7 (qt (cH ⟨_,rfl,h⟩) ?_);have e:=foldl_rep its.toList k.toNat [];rw[x_] at e;show (List.foldl _ #[] (dW k.toNat its)).size<=cF;have bT:List.foldl (λaJ bq=>aJ++bq) #[] (dW k.toNat its)=(dW k.toNat its.toList).flatten.toArray:=by simpa using e
  rw[bT,eJ,len_rep,rB,Nat.mul_comm];exact aq
section
variable {X:bh}{a b:bf}{f g:bD}{pos:Pos}
def ag4:fk X (mH .Mult) (λx y H Q=>∃a k xs,x=.ref a/\y=.int k/\de X.K H a xs/\xs≠[]/\2<=k/\k<1000/\xs.length*k.toNat<=cF/\∀p,H p=none->Q (.ref p) (upd H p (.tup (dW k.toNat xs).flatten))):=by
 intro ah s σ H x y v u Q I a3 bK h;obtain⟨l,k,xs,rfl,rfl,jj,k6,af,ak,aq,q⟩:=h;cases a3;obtain⟨t,rfl⟩:=bK;obtain⟨its,r,pl,_⟩:=I.tuple jj;have aw:=r.length;obtain⟨⟨cls,dO,data,dg⟩,aE,aD,n,hd⟩:=id pl;simp only at aD hd;subst aD hd;have XE:its.toArray.isEmpty=false:=by
  cases its with
  |nil=>
   cases xs with
   |nil=>exact absurd rfl k6
   |cons x xs=>simp at aw
  |cons=>rfl
 refine wpAny_binaryOp_repeat_ref (T:="tuple") (U:="int") (by decide) ⟨_,aE,rfl⟩ (λs'=>typeIs_int s' k t) adj F.fills_int_mul F.slot_int_rmul adF F.slot_int_index.lookup
  (rC F.slot_int_rmul (typeIs_int s k t) F.entry_int_rmul (F.args_int_rmul_2 _ _) (ad7 k t l its.toArray n dO dg)
   ⟨aE,rfl,⟨_,aE,rfl⟩,rC F.slot_tuple_mul ⟨_,aE,rfl⟩ F.entry_tuple_mul (F.args_tuple_mul_2 _ _) (aeu l its.toArray n dO dg k t af ak XE (by rw[eJ,<- aw];exact aq)) ⟨aE,?_⟩⟩)
 have e:List.foldl (λaJ bq=>aJ++bq) #[] (dW k.toNat its.toArray)=(dW k.toNat its).flatten.toArray:=by simpa using foldl_rep its k.toNat []
 have rh:(dW k.toNat xs).flatten.length<=cF:=by rw[len_rep,Nat.mul_comm];exact aq
 refine⟨.ref s.heap.objs.size,upd H s.heap.objs.size (.tup (dW k.toNat xs).flatten),I.laid (t':=s.toks) (λb u e=>dq _ e) (el _) ⟨rh,_,r.rep k.toNat,⟨_,hX _ rfl,rfl,0,?_⟩⟩,rfl,q _ I.fresh⟩
 exact congrArg (λz=>Data.seq z 0) e
def Rb:fk X (mH .Mult) (λx y H Q=>∃l k xs,x=.ref l/\y=.int k/\eK H l (.lst xs)/\0<=k/\k<1000/\xs.length*k.toNat<=cF/\∀p,H p=none->Q (.ref p) (upd H p (.lst (dW k.toNat xs).flatten))):=by
 intro ah s σ H x y v u Q I a3 bK h;obtain⟨l,k,xs,rfl,rfl,jj,af,ak,aq,q⟩:=h;cases a3;obtain⟨t,rfl⟩:=bK;obtain⟨z,its,n,r,aw,e⟩:=Inv.xw I jj;have hlen:its.toArray.size*k.toNat<=cF:=by rw[eJ,<- aw];exact aq
 have Xv:¬its.toArray.size*k.toNat > (2 ^ 63 - 1) / 8:=by
  have:(cF:Nat)<=(2 ^ 63 - 1) / 8:=by decide
  omega
 have XH:¬(!Builtin.List.listFitsIndex k)=true:=by rw[fitsIndex_both (by omega) (by omega)];exact l2
 have X0:¬Builtin.List.listTooLong (its.toArray.size*k.toNat)=true:=by rw[af' hlen];exact l2
 have f0:∀m:Nat,List.foldl (λaJ bq=>aJ++bq) #[] (dW m its.toArray)=(dW m its).flatten.toArray:=λm=>by simpa using foldl_rep its m []
 have m6:List.foldl (λaJ bq=>aJ++bq) #[] (dW (if its.toArray.isEmpty=true then 0 else k.toNat) its.toArray)=(dW k.toNat its).flatten.toArray:=by
  rw[f0];cases its with
  |nil=>simp
  |cons a cw=>rw[if_neg (by simp)]
 refine wpAny_binaryOp_repeat_ref (T:="list") (U:="int") (by decide) ⟨_,e,rfl⟩ (λs'=>typeIs_int s' k t) noFill_list_mul F.fills_int_mul F.slot_int_rmul repeat_list F.slot_int_index.lookup
  (rC F.slot_int_rmul (typeIs_int s k t) F.entry_int_rmul (F.args_int_rmul_2 _ _) (int___rmul___int_list k t l its.toArray n) ⟨e,rfl,⟨_,e,rfl⟩,rC F.slot_list_mul ⟨_,e,rfl⟩ F.entry_list_mul (F.args_list_mul_2 _ _) (AutoListH.list___mul___list_int_3 l its.toArray n k t XH Xv X0) ⟨e,?_⟩⟩)
 rw[m6];exact⟨.ref _,_,I.xu (t':=s.toks) (r.rep k.toNat) (by rw[len_rep,Nat.mul_comm];exact aq),rfl,q _ I.fresh⟩
theorem bk.rep{K:bl}{F:aj->Prop}{H:aA}{ts:List T}{vs:List V}(h:bk K F H ts vs):∀k:Nat,bk K F H (dW k ts).flatten (dW k vs).flatten
|0=>bk.nil
|k+1=>by
  rw[qo,qo,ajX,ajX];exact h.append (bk.rep h k)
def aiV(ax:eo X a f)(ae:eo X b g):cf X (.BinOp a .Mult b pos) (ag n7 f g):=d7 (t5 (ag4.or Rb) ax ae) (qE (by
 intro O F H x y t gK jt Q d a3 bK e k;unfold n7 at e;split at e
 next xs n=>
  split at e
  next aq=>
   cases e
   obtain⟨pV,vs,rfl,av,ar⟩:=a3.tup;rw[bK.int];refine .inl ⟨pV,_,vs,rfl,rfl,av,λz=>?_,aq.1,aq.2.1,by rw[kQ,<- ar.length];exact aq.2.2.2,λp aC=>?_⟩
   ·subst z;exact aq.2.2.1 (List.eq_nil_of_length_eq_zero (by rw[ar.length];rfl))
   ·have aJ:=Ext.laid (o:=.tup (dW n.toNat vs).flatten) d aC;refine k _ F _ aJ ?_;simp only[Rep];exact⟨p,_,rfl,de.of dI,(ar.rep _).ext aJ⟩
  next=>cases e
 next xs n=>
  split at e
  next aq=>
   cases e
   obtain⟨pV,vs,rfl,av,ar⟩:=a3.lst;rw[bK.int];refine .inr ⟨pV,_,vs,rfl,rfl,av,aq.1,aq.2.1,by rw[kQ,<- ar.length];exact aq.2.2,λp aC=>?_⟩;have aJ:=Ext.Br (o:=.lst (dW n.toNat vs).flatten) d aC;refine k _ _ _ aJ ?_;simp only[Rep];exact⟨p,_,rfl,.inr rfl,.inl dI,(ar.rep _).ext aJ⟩
  next=>cases e
 ·cases e))
end
end
section
abbrev t0:c2:=⟨[],λ_=>[],λ_=>none⟩
def fe(ns:List Int):T:=.list (ns.map .int)
def NN(K:bl):Bool:=K.all λp=>match p.2.cls with
|.type t=>t != "list"
|_=>true
theorem Pe{α β:Type}[BEq α][LawfulBEq α]{a:α}{b:β}:∀{l:List (α×β)},l.lookup a=some b->(a,b)∈l
  | [],h=>by cases h
  | (x,y)::l,h=>by
    rw[nq] at h;split at h
    next q=>
      cases h
      have:a=x:=by simpa using q
      subst this;simp
    next=>exact dM _ (Pe h)
def ae1{K:bl}{H:aA}{a:aj}{ns:List Int}{d:List T->Option T}(ia:NN K=true)(hd:d [fe ns]=some (.bool true))(fz:f_ K H a (ns.map V.int)):@spT t0 K 1 d [.ref a] H (λv _=>v=.dr true) λ_ _ _=>False:=by
 letI:=t0;rcases fz with fz|⟨o,its,n,aH,aD,_⟩
 ·refine⟨rfl,λb=>b=a,[fe ns],.bool true,⟨?_,λp aC=>by cases aC⟩,bk.cons ?_ bk.nil,hd,λv aI ai x r=>by simpa [Rep] using r⟩
  ·rintro b rfl;rcases fz with q|⟨u,q⟩
   ·exact⟨_,q⟩
   ·exact⟨_,q⟩
  ·simp only[fe,Rep];exact⟨a,_,rfl,rfl,fz,J' ns⟩
 ·have:=List.all_eq_true.mp ia _ (Pe aH);simp[aD] at this
def ahj{t:c2}(aR:t.fq=[]){P:cR}{w:cu}{K:bl}{mg:Str->Option ao}{base:b0}{k n:Nat}{f:aj}{fd:gj}{ps:List Str}{d:List T->Option T}(F:fw P w K mg base ajN k f fd ps (@spT t K n d)):fw P w K mg base ajN k f fd ps (@spT t0 K n d):=by
 have oG:∀{F:aj->Prop} {H:aA},@gM t0 F H->@gM t F H:=λ{F H} h=>@gM.mk t F H (@gM.Fu t0 F H h) (λp aC=>by rw[aR] at aC;cases aC);have Ft:∀{F:aj->Prop} {H:aA},@gM t F H->@gM t0 F H:=λ{F H} h=>@gM.mk t0 F H (@gM.Fu t F H h) (λp aC=>by cases aC);refine F.imp λvs H Q E h=>?_;obtain⟨aw,F,ts,r,cj,q,e,m9⟩:=h;exact⟨aw,F,ts,r,oG cj,q,e,λv aI ai x b9=>m9 v aI ai (@Ext.mk t0 F H aI ai (@Ext.same t F H aI ai x) (@Ext.sub t F H aI ai x) (@Ext.new t F H aI ai x) (Ft (@Ext.cj t F H aI ai x))) b9⟩
end
section
variable [c2]
section
variable {X:bh}{es:List bf}{k:Nat}{p pos fB:Pos}{a b:bf}{f g:bD}
def zC(ts us:List T):List T:=List.zipWith (λx y=>.tuple [x,y]) ts us
end
end
section
noncomputable def uG:Option bo.Key->ao->Bool
|none,.none=>true
|none,_=>false
|some k,v=>kS k v
def ah'(w:cu):Option bo.Key->Int
|none=>reduceHash 4238894112
|some k=>Nx w k
def qA{v:ao}(h:uG none v=true):v=.none:=by
 unfold uG at h;split at h <;> first|rfl|cases h|contradiction
def J2(k:bo.Key):kS k .none=false:=by
 cases h:kS k .none with
|false=>rfl
|true=>rcases l6 h with ⟨i,t,_,e⟩|⟨x,t,_,e⟩ <;> cases e
noncomputable def Sv(prog:cR)(w:cu):PySem.KeyKind prog w (Option bo.Key) where
 is:=uG
 hash:=ah' w
 inj:=λv a b ax ae=>by
  cases a with
  |none=>
   cases qA ax
   cases b with
   |none=>rfl
   |some k=>rw[show uG (some k) Value.none=kS k .none from rfl,J2] at ae;cases ae
  |some j=>
   cases b with
   |none=>
    cases qA ae
    rw[show uG (some j) Value.none=kS j .none from rfl,J2] at ax;cases ax
   |some k=>exact congrArg some ((fu prog w).inj v j k ax ae)
 byValue:=λk v h=>by
  cases k with
  |none=>cases qA h;rfl
  |some k=>exact (fu prog w).byValue k v h
 pyHash:=λ{A E s k v Q} a5 h=>by
  cases k with
  |none=>
   cases qA a5
   exact PySem.W.pyHash_slot (T:="NoneType") rfl F.slot_NoneType_hash F.entry_NoneType_hash (F.args_NoneType_hash_1 _) (beq_builtin_none _) (.inl rfl) (a7 (cH (a7 (wpAny_mkInt (cH ⟨_,_,rfl,h⟩)))))
  |some k=>exact (fu prog w).pyHash a5 h
 eqBool:=λ{A E s a b u v Q} bj a5 h=>by
  cases a with
  |none=>
   cases qA bj
   cases b with
   |none=>cases qA a5;exact SeqAt.EqAt.same _ _ _ _ _ (by simpa using h)
   |some k=>
    rcases l6 (show kS k v=true from a5) with ⟨i,t,rfl,rfl⟩|⟨x,t,rfl,rfl⟩
    ·exact SeqAt.EqAt.none_int i t _ _ _ _ (by simpa using h)
    ·exact SeqAt.EqAt.none_str x t _ _ _ _ (by simpa using h)
  |some j=>
   cases b with
   |none=>
    cases qA a5
    rcases l6 (show kS j u=true from bj) with ⟨i,t,rfl,rfl⟩|⟨x,t,rfl,rfl⟩
    ·exact SeqAt.EqAt.int_none i t _ _ _ _ (by simpa using h)
    ·exact SeqAt.EqAt.str_none x t _ _ _ _ (by simpa using h)
   |some k=>exact (fu prog w).eqBool (a:=j) (b:=k) bj a5 (by simpa using h)
 «strs»:=λk x t v h=>by
  cases k with
  |none=>cases qA h
  |some k=>exact (fu prog w).strs k x t v h
def aib{prog:cR}{w:cu}{h:b0}{a:aj}{vs:List (bo.Key×ao)}(dO:h.DictOf (fu prog w) a vs):h.MapOf (Sv prog w) a (λk=>match k with|none=>none|some k=>valueAt vs k):=by
 obtain⟨o,es,ep,aE,aD,hd,aH,hf⟩:=dO.mapOf;refine⟨o,es,ep,aE,aD,hd,λe he=>?_,λk=>?_⟩
 ·obtain⟨k,af,ak⟩:=aH e he;exact⟨some k,af,ak⟩
 ·cases k with
  |some k=>exact hf k
  |none=>
   show findBy uG es none=none
   unfold findBy;rw[Option.map_eq_none_iff,Array.find?_eq_none];intro e he q;obtain⟨k,af,_⟩:=aH e he;have:=qA q;rw[show (fu prog w).is k e.key=kS k e.key from rfl,this,J2] at af;cases af
section
variable {X:bh}{ah:List (aj×Obj)}{σ:bo.St}{H:aA}{s:aP}{a:aj}{d:V}{r:ao}{A:c9}{E:ao->aP->Prop}
def air{kvs:List (bo.Key×V)}{Q:ao->aP->Prop}(I:Inv X ah σ H s)(e:eK H a (.du kvs))(h:∀s',Inv X ah σ H s'->Q r s'):
  bG (bR X.prog X.w) A (call (.builtin "dict.get") [.ref a,.none,r]) Q E s:=by
 obtain⟨z,hd,vs,rel,dO⟩:=wi I.b' e;exact call_meetsIn PySem.F.slot_dict_get dO.typeIs PySem.F.entry_dict_get (PySem.F.args_dict_get_3 _ _ _) (meets_dict_get_default (Sv X.prog X.w) a (k:=none) rfl hd r) ⟨_,aib dO,h _ (I.tok _)⟩
end
noncomputable def ahz(ki ty x4:TE):TE:=λσ H Q=>ki σ H λx H1=>∃a,x=.ref a/\LL H1 a/\ty σ H1 λy ba=>x4 σ ba λz c_=>(∃o,me c_ a y o/\Q (o.getD z) c_)\/(y=.gH/\(∃kvs,eK c_ a (.du kvs))/\Q z c_)
section
variable {X:bh}{o e f:bf}{apos dt:Pos}{ki ty x4:TE}
def af6(bj:X.A.units+1<cLine)(aE:bO X o ki)(he:bO X e ty)(hf:bO X f x4)(m:M2 X o "get" apos e f dt):bO X (.Call (.Attribute o "get" apos) [e,f] [] dt) (ahz ki ty x4):=by
 intro ah s σ H Q I h;refine wpAny_Call_method m.base m.oK m.line PySem.F.plainAttrs_dict PySem.F.slot_dict_get PySem.F.type_dict_get (ct (aE ah s σ H _ I h) λu s1 ⟨x,H1,bE,a3,a,ex,d,aO⟩=>?_);subst ex;obtain rfl:u=Value.ref a:=a3;obtain⟨t1,jQ,_⟩:=aim bE d;refine⟨t1,jQ,?_⟩;rw[m.trees];refine Calls.callWith_builtin rfl (Calls.evalArgs_plain (Calls.spliced_cons (ct (he ah s1 σ H1 _ bE aO) λew s2 ⟨y,ba,ck,bK,bb⟩=>
  Calls.spliced_cons (ct (hf ah s2 σ ba _ ck bb) λfv s3 ⟨z,c_,ef,uK,cQ⟩=>Calls.spliced_nil ?_))))
 rcases cQ with ⟨dU,g,cQ⟩|⟨eQ,⟨kvs,g⟩,cQ⟩
 ·exact ais bj ef g bK uK λf7 s4 iy kh=>⟨_,c_,iy,kh,cQ⟩
 ·subst eQ;obtain rfl:ew=Value.none:=bK;exact air ef g λs4 iy=>⟨_,c_,iy,uK,cQ⟩
end
variable [c2]
end
section
variable [c2]
open PySem.W (kas_ask kas_sort kat_run kat_snds kat_lt kat_kind KatTups KatLex KatGo kas_item KasT)
def e6(x:Str×List T):T:=.tuple (.str x.1::x.2)
noncomputable def v3:T->T->Option T
|.list xs,.str y=>(strsOf xs).bind λss=>if y∈ss then some (.int (ss.idxOf y:Nat)) else none
|_,_=>none
theorem PC{y:Str}:∀{ss:List Str} {m:Nat} {z:Str},m<ss.idxOf y->ss[m]?=some z->z≠y
|x::ss,0,z,h,e=>by
  simp at e;subst e;rintro rfl;simp at h
|x::ss,m+1,z,h,e=>by
  by_cases q:x=y
  ·subst q;simp at h
  ·have ae:(x==y)=false:=beq_eq_false_iff_ne.mpr q;rw[List.idxOf_cons,ae] at h;exact PC (ss:=ss) (m:=m) (by simpa using h) (by simpa using e)
def agc{X:bh}:DU X "list.index" (λx vs H Q=>∃(l:aj) (ss:List Str) (y:Str),x=.ref l/\vs=[.str y]/\f_ X.K H l (ss.map V.str)/\y∈ss/\Q (.int (ss.idxOf y:Nat)) H):=by
 intro ah s σ H x vs v us Q I a3 b9 h;obtain⟨l,ss,y,rfl,rfl,bt,bL,q⟩:=h;cases a3;obtain⟨u,rfl,ee⟩:=b9.one;obtain⟨t,rfl⟩:=ee;obtain⟨its,r,⟨⟨cls,dO,data,dg⟩,n,aE,aD,hd,av⟩,aq⟩:=I.list bt;simp only at aD hd av;subst aD hd av;have hlen:ss.length=its.length:=by have:=r.length;simpa using this
 have bw:ss.idxOf y<ss.length:=List.idxOf_lt_length_iff.mpr bL;rw[gk] at aq;rw[lr] at aq;refine rC PySem.F.slot_list_index ⟨_,aE,rfl⟩ PySem.F.entry_list_index (PySem.F.args_list_index_2 _ _)
  (SeqAt.list_indexAt l its.toArray n _ _ (.str y t) (Value.isStrOf y) (ss.idxOf y) (by rw[eJ];omega) (by omega) ?_ ?_) ⟨aE,λz n2=>?_,⟨V.int (ss.idxOf y:Nat),H,I.tok _,⟨_,rfl⟩,q⟩⟩
 ·obtain⟨u,bj⟩:=y' r (gT bw);have sU:=(fC.mp bj).2;show Value.isStrOf y its[ss.idxOf y]=true;rw[sU,List.getElem_idxOf bw];simp[Value.isStrOf]
 ·intro m hm eZ;have AR:m<ss.length:=by omega
  obtain⟨u,bj⟩:=y' r (gT AR);have sU:=(fC.mp bj).2;show Value.isStrOf y its[m]=false;rw[sU];have:=PC eZ (gT AR);simpa [Value.isStrOf] using this
 ·obtain⟨m,hm,e⟩:=List.getElem_of_mem (show z∈its by simpa using n2);have AR:m<ss.length:=by omega
  obtain⟨u,bj⟩:=y' r (gT AR);have sU:=(fC.mp bj).2;rw[<- e,sU];exact SeqAt.EqAt.str_str _ _ _ _
section
variable {X:bh}{o e:bf}{f g:bD}{apos dt:Pos}
def agN(aE:eo X o f)(he:eo X e g)(ka:bB [e] X.env=(false,eval e X.env)::bB [] X.env:=by rfl)
  (k4:i5 o "index" X.env (eval o X.env)=eval o X.env:=by rfl)
  (nU:((dR dt (bB [e] X.env)).all (λx=>!x.1) && (l4 dt (l3 [] X.env)).all (λx=>x.1.isSome)
   && decide (([e]:List bf).length+([]:List Keyword).length+(if ([]:List Keyword).isEmpty then 0 else 1)<30))=true:=by rfl)
  (k5:(apos.endLine==dt.line)=true:=by rfl) (nZ:(dR dt (bB [] X.env)).any (·.1)=false:=by rfl):
  cf X (.Call (.Attribute o "index" apos) [e] [] dt) (ag v3 f g):=
 d7 (zJ yb PySem.F.slot_list_index PySem.F.type_list_index agc aE (i7 he lA ka) k4 nU k5 ka nZ) λσ H Q ⟨aB,aK,O,F,ε,t,r,e,k⟩=>by
 simp only[ag,b5] at e;obtain⟨x,ex,y,eQ,e⟩:=e;unfold v3 at e;split at e
 next xs y=>
  simp only[b5] at e;obtain⟨ss,p8,e⟩:=e;split at e
  next bL=>
   cases e
   have xd:=vu p8;subst xd;refine⟨aB,aK,O,F,ε,_,r,ex,λv aX H1 aJ aO=>?_⟩;obtain⟨n4,ws,rfl,aw,ar⟩:=aO.lst;refine⟨.inl ⟨rfl,_,.inl aw⟩,aB,aK,O,aX,ε,_,r.ext aJ,eQ,λw c0 ba bq bb=>?_⟩;obtain⟨cb,ajM,aQ,w8,p7⟩:=(aO.ext bq).lst;cases aQ;have kD:w=.str y:=bb.str;subst kD;have e4:=vp p7;subst e4;exact⟨n4,ss,y,rfl,rfl,.inl w8,bL,k _ c0 ba (aJ.trans bq) (by simp[Rep])⟩
  next=>cases e
 next=>cases e
end
end
section
section
variable {prog:cR}{w:cu}{A:c9}{E:ao->aP->Prop}{s:aP}{LY:Array Keyed}
noncomputable def Rz(LY:Array Keyed)(st lg:SortSt):Prop:=arrOf lg=arrOf st/\failedOf lg=none/\pendingOf lg=#[(0,LY.size,0)]
end
variable [c2]
end
section

end
section
variable [c2]
abbrev ajk:=Ev->Option (Bool×Ev)
end
section

end
end D
end
section
namespace D
open PySem PySem.Spec PySem.Calls PySem.W PyProof.Rows PySem.Builtin PySem.Builtin.ObjectAttr PySem.Builtin.Getset_descriptor
end D
end
section
namespace D
open PySem PySem.Spec PyProof.Rows bo
section
variable [c2]
abbrev T9:=Ev->Bool
def k'(f:bD):T9:=λε=>(f ε).isSome
end
section

end
section
variable [c2]
mutual
noncomputable def iI:T->T->Option Bool
|.int a,.int b=>some (decide (b<a))
|.tuple xs,.tuple ys=>s9 xs ys
|_,_=>none
noncomputable def s9:List T->List T->Option Bool
| [],[]=>some false
| [],_::_=>some false
|_::_,[]=>some true
|x::xs,y::ys=>if hG x y then s9 xs ys else iI x y
end
noncomputable def LK(A:c9)(s:aP)(y x:ao)(b:Bool):Prop:=
 ∀(prog:cR) (w:cu) (E:ao->aP->Prop) (Q:ao->aP->Prop),Q (.bool b) s->bG (bR prog w) A (richCompare .Gt y x) Q E s
inductive GoodG(A:c9)(s:aP)(fin:Bool):List (ao×ao)->Bool->Prop
|nil:GoodG A s fin [] fin
|eq {y x:ao} {r:List (ao×ao)} {b:Bool}:SeqAt.EqAt A s y x true->GoodG A s fin r b->GoodG A s fin ((y,x)::r) b
|lt {y x:ao} {r:List (ao×ao)} {b:Bool}:SeqAt.EqAt A s y x false->LK A s y x b->GoodG A s fin ((y,x)::r) b
section
open PySem.SeqAt
open PySem.AutoSeq1 (wpAny_loadPart')
open PySem.MeetsSeq PySem.MeetsSeq2 PySem.MeetsSeq3
def adM(l b:aj)(items p':Array ao)(n gF:Nat)(dO mX:Option aj)(dg lW:Array (Option ao))(z:Bool):
  Meets (Builtin.«tuple.__gt__» ⟨[.ref l,.ref b],[]⟩)
   (λA R s=>s.heap.get? l=some {cls:=.type "tuple",dict:=dO,data:=.seq items n,slots:=dg}/\s.heap.get? b=some {cls:=.type "tuple",dict:=mX,data:=.seq p' gF,slots:=lW} /\
    GoodG A.in1 s (decide (p'.size<items.size)) (items.toList.zip p'.toList) z/\R (.ok (.ret (.bool z))) s):=
 .of_wp λprog w A R s h=>by
  obtain⟨aC,g,d,tk,os⟩:=s;obtain⟨aw,ae,br,h⟩:=h;have f2:=AutoSeq1.sub_tuple_tuple
  wp_walk using wpAny_loadPart' aw,wpAny_loadPart' ae,wpAny_forIn_list _ (λrest b s'=>b.1=none/\s'=⟨aC,g,d,tk,os⟩/\GoodG A.in1 ⟨aC,g,d,tk,os⟩ (decide (p'.size<items.size)) rest z) _
  case turn=>
   rintro⟨y,x⟩ rest b s' ⟨i0,rfl,j_⟩;cases j_ with
   |eq he j_=>
    refine a7 (he prog w _ _ ?_)
    wp_walk
    exact⟨rfl,rfl,j_⟩
   |lt he eZ=>
    refine a7 (he prog w _ _ ?_)
    have Gu:=eZ prog w
    wp_walk using Gu
    exact⟨_,rfl,h⟩
  case fin=>
   rintro⟨bW,b6⟩ s' ⟨i0,rfl,j_⟩;simp only at i0;subst i0;cases j_
   wp_walk
   exact⟨_,rfl,by simpa [Builtin.Tuple.tupleCompareSizes] using h⟩
  case h=>
   exact⟨rfl,rfl,br⟩
mutual
theorem agm:∀(pX db:T) (A:c9) (s:aP) (a b:ao) (as bs:List aj) (r:Bool),Reads s.heap a pX as->Reads s.heap b db bs->pX.canLay0=true->db.canLay0=true->A.units+min pX.depth db.depth<cLine->iI pX db=some r->LK A s a b r
|.int i,.int j,A,s,_,_,_,_,r,.int _ t,.int _ u,_,_,_,e=>by
  unfold iI at e;cases e;exact λprog w E Q q=>(PyProof.Rows.gt_int q:bG (bR prog w) A (jv .Gt (.int i t) (.int j u)) Q E s)
|.tuple xs,.tuple ys,A,s,_,_,_,_,r,.tuple (a:=l) (o:=o) (vs:=vs) (n:=n) af ak bA cP,.tuple (a:=eX) (o:=o') (vs:=d_) (n:=qa) e7 ec jm mv,ax,ae,bj,e=>by
  unfold iI at e;simp only[PyData.canLay0] at ax ae;simp only[nr] at bj;have j_:=goodG_reads xs ys A.in1 s vs.toList d_.toList _ _ r cP mv ax ae (room_in bj) e;obtain⟨cls,dO,data,dg⟩:=o;obtain⟨Fq,mX,data2,lW⟩:=o';simp only at ak bA ec jm;subst ak bA ec jm;rw[rB,rB] at j_;exact λprog w E Q q=>richCompare_meets_room (op:=.Gt) ⟨_,af,rfl⟩ ⟨_,e7,rfl⟩ PySem.F.slot_tuple_gt PySem.F.entry_tuple_gt (PySem.F.args_tuple_gt_2 _ _) (adM l eX vs d_ n qa dO mX dg lW r)
   ⟨af,e7,j_,show Value.bool r≠Value.notImplemented/\Q (.bool r) s from ⟨(λx=>nomatch x),q⟩⟩ (by omega)
|.none,_,_,_,_,_,_,_,_,_,_,_,_,_,e=>by simp[iI] at e
|.bool _,_,_,_,_,_,_,_,_,_,_,_,_,_,e=>by simp[iI] at e
|.str _,_,_,_,_,_,_,_,_,_,_,_,_,_,e=>by simp[iI] at e
|.list _,_,_,_,_,_,_,_,_,_,_,_,_,_,e=>by simp[iI] at e
|.dict _,_,_,_,_,_,_,_,_,_,_,_,_,_,e=>by simp[iI] at e
|.int _,.none,_,_,_,_,_,_,_,_,_,_,_,_,e=>by simp[iI] at e
|.int _,.bool _,_,_,_,_,_,_,_,_,_,_,_,_,e=>by simp[iI] at e
|.int _,.str _,_,_,_,_,_,_,_,_,_,_,_,_,e=>by simp[iI] at e
|.int _,.list _,_,_,_,_,_,_,_,_,_,_,_,_,e=>by simp[iI] at e
|.int _,.dict _,_,_,_,_,_,_,_,_,_,_,_,_,e=>by simp[iI] at e
|.int _,.tuple _,_,_,_,_,_,_,_,_,_,_,_,_,e=>by simp[iI] at e
|.tuple _,.none,_,_,_,_,_,_,_,_,_,_,_,_,e=>by simp[iI] at e
|.tuple _,.bool _,_,_,_,_,_,_,_,_,_,_,_,_,e=>by simp[iI] at e
|.tuple _,.str _,_,_,_,_,_,_,_,_,_,_,_,_,e=>by simp[iI] at e
|.tuple _,.list _,_,_,_,_,_,_,_,_,_,_,_,_,e=>by simp[iI] at e
|.tuple _,.dict _,_,_,_,_,_,_,_,_,_,_,_,_,e=>by simp[iI] at e
|.tuple _,.int _,_,_,_,_,_,_,_,_,_,_,_,_,e=>by simp[iI] at e
theorem goodG_reads:∀(xs ys:List T) (A:c9) (s:aP) (vs ws:List ao) (as bs:List aj) (r:Bool),ReadsAll s.heap vs xs as->ReadsAll s.heap ws ys bs->kN xs=true->kN ys=true->A.units+min (kM xs) (kM ys)<cLine->s9 xs ys=some r->GoodG A s (decide (ws.length<vs.length)) (vs.zip ws) r
| [],[],A,s,_,_,_,_,r,.nil,.nil,_,_,_,e=>by
  unfold s9 at e;cases e;exact .nil
| [],_::_,A,s,_,_,_,_,r,.nil,.cons _ _,_,_,_,e=>by
  unfold s9 at e;cases e;exact GoodG.nil
|_::_,[],A,s,_,_,_,_,r,.cons _ _,.nil,_,_,_,e=>by
  unfold s9 at e;cases e;exact GoodG.nil
|x::xs,y::ys,A,s,_,_,_,_,r,.cons bg b7,.cons aO bb,ax,ae,bj,e=>by
  simp only[kN,hZ] at ax ae;simp only[kM] at bj;unfold s9 at e;have he:=eqAt_reads x y A s _ _ _ _ bg aO ax.1 ae.1 (room_head bj);split at e
  next h=>
   rw[h] at he;have b2:=goodG_reads xs ys A s _ _ _ _ r b7 bb ax.2 ae.2 (room_tail bj) e;rw[qp];simp only[hF,Nat.add_lt_add_iff_right];exact .eq he b2
  next h=>
   rw[Bool.not_eq_true] at h;rw[h] at he;rw[qp];exact .lt he (agm x y A s _ _ _ _ r bg aO ax.1 ae.1 (room_head bj) e)
end
end
end
section
variable [c2]
structure LO(X:bh)(e:bf)(f:bD):Prop where
 h:cf X e f
structure ue(X:bh)(st:Stmt)(g:bu):Prop where
 h:fM X st g
end
end D
end
section
namespace D
open PySem
def Lo(x:Str):Bool:=x.cps.toList.all λc=>decide (c<128)
def Sw(i:Int):Bool:=decide (i.natAbs.log2<1920)
def rt(i:Int):Str:=Str.ofString (toString i)
end D
end
section
namespace D
open PySem PySem.Spec PyProof.Rows bo
section
variable [c2]
def RM(n d:Nat)(hd:d<=n)(o:Option Int):D.c5 n d o<=n:=by
 cases o with
|none=>exact hd
|some v=>
  simp only[D.c5];split <;> omega
end
section
variable [c2]
noncomputable def iB(K:bl)(b:Bool)(H:aA)(a:aj)(xs:List V):Prop:=match b with
|true=>f_ K H a xs
|false=>de K H a xs
def Inv.uM{X:bh}{ah:List (aj×Obj)}{σ:bo.St}{H:aA}{s:aP}{b:Bool}{a:aj}{xs:List V}(I:Inv X ah σ H s)(h:iB X.K b H a xs):∃its:List ao,Vals xs its/\gi b s.heap a its.toArray/\xs.length<=cF:=by
 cases b with
|true=>
  obtain⟨its,r,p,z⟩:=I.list h;exact⟨its,r,p.isList,z⟩
|false=>exact I.tuple h
def Inv.Oa{X:bh}{ah:List (aj×Obj)}{σ:bo.St}{H:aA}{s:aP}{b:Bool}{a:aj}{xs ys:List V}(I:Inv X ah σ H s)(h:iB X.K b H a xs)(h':iB X.K b H a ys):xs=ys:=by
 cases b with
|true=>exact I.NB h h'
|false=>exact I.Jh h h'
noncomputable def DS(K:bl)(bW b6:Bool)(a b:aj)(n m:Nat):kW:=
 ⟨λi H=>∃xs x ys y,iB K bW H a xs/\xs[i]?=some x/\iB K b6 H b ys/\ys[i]?=some y/\xs.length=n/\ys.length=m,
  λi H x ai=>∃p u v,H p=none/\x=.ref p/\ai=upd H p (.tup [u,v])/\(∀xs,iB K bW H a xs->xs[i]?=some u)/\∀ys,iB K b6 H b ys->ys[i]?=some v,
  λi H=>∃xs ys,iB K bW H a xs/\iB K b6 H b ys/\xs.length=n/\ys.length=m/\(n<=i\/m<=i)⟩
noncomputable def Uk(bW b6:Bool)(z TI cg bZ b3 cb b_:aj)(n m i:Nat)(h:b0):Prop:=fV h z TI cg .none (.bool false)/\IsPair h TI (.ref bZ) (.ref b3)/\(∃a b,IsPair h cg a b)/\hi bW h bZ cb i/\hi b6 h b3 b_ i/\i<=n/\i<=m
def aeV{bW b6:Bool}{P:cR}{w:cu}{K:bl}{es:List bf}{k:Nat}{pos:Pos}{z TI cg bZ b3 cb b_:aj}{n m:Nat}(D:ZipApart z TI cg bZ b3 cb b_):Turn P w K (.Tuple es k pos) (DS K bW b6 cb b_ n m) [z,TI,cg,bZ,b3] z (Uk bW b6 z TI cg bZ b3 cb b_ n m) where
 mem:=by simp
 obj:=λi h st b ae=>by
  obtain⟨aq,fI,⟨a,c,g5⟩,af,ak,_⟩:=st;simp only[cZ,kp,or_false] at ae;rcases ae with rfl|rfl|rfl|rfl|rfl
  ·exact⟨_,aq,λv q=>by cases (show Data.fields _=Data.cell v from q)⟩
  ·exact⟨_,fI,λv q=>by cases (show Data.seq _ _=Data.cell v from q)⟩
  ·exact⟨_,g5,λv q=>by cases (show Data.seq _ _=Data.cell v from q)⟩
  ·exact af.obj
  ·exact ak.obj
 keep:=λi h h' st bQ=>by
  obtain⟨aq,fI,⟨a,c,g5⟩,af,ak,a8⟩:=st;exact⟨bQ z (by simp) _ aq,bQ TI (by simp) _ fI,⟨a,c,bQ cg (by simp) _ g5⟩,af.at λo q=>bQ bZ (by simp) o q,ak.at λo q=>bQ b3 (by simp) o q,a8⟩
 item:=by
  intro X ib hw iJ aD i ah s σ H E I hf st br;subst ib hw iJ;obtain⟨xs,x,ys,y,m7,hx,n0,bL,a8,hm⟩:=br;obtain⟨its,b9,te,_⟩:=Inv.uM I m7;obtain⟨hQ,qd,fB,_⟩:=Inv.uM I n0;obtain⟨u,bj,ee⟩:=b9.get hx;obtain⟨v,a5,abn⟩:=qd.get bL;obtain⟨aq,fI,⟨a,c,g5⟩,af,ak,p5,XM⟩:=st;have aS:i<its.toArray.size:=by
   rw[eJ];exact (fC.mp bj).1
  have bw:i<hQ.toArray.size:=by
   rw[eJ];exact (fC.mp a5).1
  have X1:=b9.length;have X2:=qd.length;have e6:s.TypeIs (.ref z) "zip":=⟨_,aq,rfl⟩;have qQ:z<s.heap.objs.size:=c8 aq;have DX:cg<s.heap.objs.size:=c8 g5;have Uj:TI<s.heap.objs.size:=c8 fI;have Yr:bZ<s.heap.objs.size:=by obtain⟨o,e,_⟩:=af.obj;exact c8 e
  have Ys:b3<s.heap.objs.size:=by obtain⟨o,e,_⟩:=ak.obj;exact c8 e
  have da:=I.ok.hd aD;unfold pyNext;refine a7 (wpAny_attempt (qs (name:=Str.ofString "__next__") e6 F.slot_zip_next (pe F.slot_zip_next e6 F.entry_zip_next ?_ (F.args_zip_next_1 _))));refine Qq (h6:=λi h=>hi bW h bZ cb i/\gi bW h cb its.toArray) (iA:=λi h=>hi b6 h b3 b_ i/\gi b6 h b_ hQ.toArray) D (nx (A:=X.A.in1) bW da bZ cb D.l1i1 its.toArray) (nx (A:=X.A.in1) b6 da b3 b_ D.l2i2 hQ.toArray) aq fI g5 ⟨af,te⟩ ⟨ak,fB⟩ aS bw λh' kl Jn tk jO py n2 F6 s1 s2 aC hsz az=>cH ?_;have ex:kl=u:=by
   rw[<- Array.getElem?_toList,show (its.toArray).toList=its from rfl,bj] at jO;exact (en jO).symm
  have eQ:Jn=v:=by
   rw[<- Array.getElem?_toList,show (hQ.toArray).toList=hQ from rfl,a5] at py;exact (en py).symm
  subst ex eQ;refine⟨_,rfl,wpAny_letOwnedTupleGo_zip n2 λhC rh ie=>?_⟩;have ec:∀b o,b≠z->b≠cg->b≠bZ->b≠b3->s.heap.get? b=some o->hC.get? b=some o:=λb o bW b6 hz mV q=>ie.extBut b o bW (az b o bW b6 hz mV q);have fr:H s.heap.objs.size=none:=I.b'.fresh (el _);have F5:hC.get? s.heap.objs.size=some {cls:=.type "tuple",data:=.seq #[kl,Jn]}:=ie.extBut _ _ (hY qQ) aC;obtain⟨u4,nu,ir,Jq,Jw,JA⟩:=hf z (by simp);obtain⟨o0,dT,fA,IA,IB,IC⟩:=hf cg (by simp);obtain⟨f0,f1,f2,h8,f4,h9⟩:=hf bZ (by simp);obtain⟨lL,g1,g2,g3,sA,m4⟩:=hf b3 (by simp);obtain⟨t0,_⟩:=hf TI (by simp);have rk:∀b o,H b=some o->b≠z/\b≠cg/\b≠bZ/\b≠b3:=λb o q=>⟨λe=>(by rw[e,u4] at q;cases q),λe=>(by rw[e,o0] at q;cases q),λe=>(by rw[e,f0] at q;cases q),λe=>(by rw[e,lL] at q;cases q)⟩;have jm:∀b o,b∉[z,cg,bZ,b3]->s.heap.get? b=some o->hC.get? b=some o:=λb o ae q=>by
   simp only[cZ,kp,or_false,not_or] at ae;exact ec b o ae.1 ae.2.1 ae.2.2.1 ae.2.2.2 q
  have xA:∀b o,H b=some o->b∉[z,cg,bZ,b3]:=λb o q=>by
   simp only[cZ,kp,or_false,not_or];exact rk b o q
  have xa:fF X.prog X.w (upd H s.heap.objs.size (.tup [x,y])) hC:=by
   intro b o q;by_cases ae:b=s.heap.objs.size
   ·subst ae;rw[dI] at q;cases q;exact⟨by show 2<=cF;decide,[kl,Jn],.cons ee (.cons abn .nil),⟨_,F5,rfl,_,rfl⟩⟩
   ·rw[cI ae] at q;refine (I.b' b o q).lh (λc v dP ed=>jm c v ?_ ed) (λc ed=>?_) λc ys ed=>?_
    ·rcases dP with rfl|dP
     ·exact xA _ _ q
     ·exact xA _ _ dP
    ·rw[cI (jV ed fr)];exact ed
    ·rw[cI (jV ed fr)];exact ed
  have ck:bo.Inv X ah σ (upd H s.heap.objs.size (.tup [x,y])) {s with heap:=hC,toks:=tk}:=by
   refine I.step (g':=s.gens) (d':=s.drawn) (ch:=[z,cg,bZ,b3]) (λb ae=>?_) (λb o _ _ dP q _=>jm b o dP q) (λb o _ _ dP q _=>⟨o.slots,jm b o dP q⟩) (λb o _ q n=>?_)
    (λb o dP q=>⟨o,jm b o dP q⟩) (λb ys q=>by rw[cI (jV q fr)];exact q) (λb o u q=>by rw[cI (jV q fr)];exact q) (λb ps q=>⟨#[],by rw[cI (jV q fr),q];simp⟩) (λm hm=>?_) xa I.bare
   ·simp only[cZ,kp,or_false] at ae;rcases ae with rfl|rfl|rfl|rfl
    ·exact⟨Jq,nu,Jw,JA⟩
    ·exact⟨IA,dT,IB,IC⟩
    ·exact⟨h8,f1,f4,h9⟩
    ·exact⟨g3,g1,sA,m4⟩
   ·rw[cI (fD (c8 q))];exact n
   ·obtain⟨o,fm,ep,k7,r⟩:=hm;exact⟨o,fm,ep,ec _ o (Ne.symm nu) (Ne.symm dT) (Ne.symm f1) (Ne.symm g1) k7,r⟩
  refine⟨.ref s.heap.objs.size,_,ck,rfl,⟨s.heap.objs.size,x,y,fr,rfl,rfl,λws hw=>by rw[Inv.Oa I hw m7];exact hx,λws hw=>by rw[Inv.Oa I hw n0];exact bL⟩,⟨rh,ie.extBut _ _ D.TIz (az _ _ D.TIz D.TITO D.TIi1 D.TIi2 fI),⟨_,_,ie.extBut _ _ D.TOz F6⟩,s1.1.at λo q=>ie.extBut _ _ D.i1z q,s2.1.at λo q=>ie.extBut _ _ D.i2z q,?_,?_⟩,λb ae=>?_⟩
  ·rw[eJ] at aS;omega
  ·rw[eJ] at bw;omega
  ·simp only[cZ,kp,or_false] at ae;rcases ae with rfl|rfl|rfl|rfl|rfl
   ·rw[cI (fD qQ)];exact u4
   ·rw[cI (fD Uj)];exact t0
   ·rw[cI (fD DX)];exact o0
   ·rw[cI (fD Yr)];exact f0
   ·rw[cI (fD Ys)];exact lL
 done:=by
  intro X ib hw iJ aD i ah s σ H E I hf st br;subst ib hw iJ;obtain⟨xs,ys,m7,n0,a8,hm,av⟩:=br;obtain⟨its,b9,te,_⟩:=Inv.uM I m7;obtain⟨hQ,qd,fB,_⟩:=Inv.uM I n0;obtain⟨aq,fI,⟨a,c,g5⟩,af,ak,p5,XM⟩:=st;have X1:=b9.length;have X2:=qd.length;have e6:s.TypeIs (.ref z) "zip":=⟨_,aq,rfl⟩;have da:=I.ok.hd aD;have aH:i=its.toArray.size\/(i<its.toArray.size/\i=hQ.toArray.size):=by
   rw[eJ,eJ];omega
  unfold pyNext;refine a7 (wpAny_attempt (qs (name:=Str.ofString "__next__") e6 F.slot_zip_next (pe F.slot_zip_next e6 F.entry_zip_next ?_ (F.args_zip_next_1 _))));refine Qp (h6:=λi h=>hi bW h bZ cb i/\gi bW h cb its.toArray) (iA:=λi h=>hi b6 h b3 b_ i/\gi b6 h b_ hQ.toArray) D (nx (A:=X.A.in1) bW da bZ cb D.l1i1 its.toArray) (nx (A:=X.A.in1) b6 da b3 b_ D.l2i2 hQ.toArray) aq fI g5 ⟨af,te⟩ ⟨ak,fB⟩ aH λh' e tk az he=>?_;obtain⟨o,aE,dP⟩:=he;refine a7 (wpAny_isInstance (T:="StopIteration") (b:=true) ⟨o,aE,dP⟩ isSubtype_stop (cH ⟨rfl,?_⟩));obtain⟨u4,nu,ir,Jq,Jw,JA⟩:=hf z (by simp);obtain⟨o0,dT,fA,IA,IB,IC⟩:=hf cg (by simp);obtain⟨f0,f1,f2,h8,f4,h9⟩:=hf bZ (by simp);obtain⟨lL,g1,g2,g3,sA,m4⟩:=hf b3 (by simp);have jm:∀b o,b∉[z,cg,bZ,b3]->s.heap.get? b=some o->h'.get? b=some o:=λb o ae q=>by
   simp only[cZ,kp,or_false,not_or] at ae;exact az b o ae.1 ae.2.1 ae.2.2.1 ae.2.2.2 q
  have xA:∀b o,H b=some o->b∉[z,cg,bZ,b3]:=λb o q=>by
   simp only[cZ,kp,or_false,not_or];exact⟨λe=>(by rw[e,u4] at q;cases q),λe=>(by rw[e,o0] at q;cases q),λe=>(by rw[e,f0] at q;cases q),λe=>(by rw[e,lL] at q;cases q)⟩
  have xa:fF X.prog X.w H h':=by
   intro b o q;refine (I.b' b o q).lh (λc v dP ed=>jm c v ?_ ed) (λc ed=>ed) λc ys ed=>ed;rcases dP with rfl|dP
   ·exact xA _ _ q
   ·exact xA _ _ dP
  refine I.step (g':=s.gens) (d':=s.drawn) (ch:=[z,cg,bZ,b3]) (λb ae=>?_) (λb o _ _ dP q _=>jm b o dP q) (λb o _ _ dP q _=>⟨o.slots,jm b o dP q⟩) (λb o _ q n=>n)
    (λb o dP q=>⟨o,jm b o dP q⟩) (λb ys q=>q) (λb o u q=>q) (λb ps q=>⟨#[],by rw[q];simp⟩) (λm hm=>?_) xa I.bare
  ·simp only[cZ,kp,or_false] at ae;rcases ae with rfl|rfl|rfl|rfl
   ·exact⟨Jq,nu,Jw,JA⟩
   ·exact⟨IA,dT,IB,IC⟩
   ·exact⟨h8,f1,f4,h9⟩
   ·exact⟨g3,g1,sA,m4⟩
  ·obtain⟨o,fm,ep,k7,r⟩:=hm;exact⟨o,fm,ep,az _ o (Ne.symm nu) (Ne.symm dT) (Ne.symm f1) (Ne.symm g1) k7,r⟩
 self:=λ_ _ _ _ _ st h=>wpAny_pyIter_zip (f0:=.none) st.1 h
noncomputable def Yv(K:bl)(cD:f'):TI:=λσ H R=>cD σ H λvs H1=>∃bW b6 a b xs ys,vs=[.ref a,.ref b]/\iB K bW H1 a xs/\iB K b6 H1 b ys/\R (DS K bW b6 a b xs.length ys.length) H1
section
variable {X:bh}{es:List bf}{k:Nat}{p pos fB:Pos}{a b:bf}{f g:bD}
def agY{cD:f'}(br:fi X "zip")(hm:X.mg "zip"=none)(ax:h5 X [a,b] cD)(av:bB [a,b] X.env=(false,eval a X.env)::bB [b] X.env)(hpl:(dR pos (bB [b] X.env)).any (·.1)=false):pR X (.Tuple es k fB) (.Call (.Name "zip" p) [a,b] [] pos) (Yv X.K cD):=by
 intro ah s σ H R I h;refine Call_ (tY I br hm PyProof.Rows.boot_zip (uY (ct (ax pos ah s σ H _ I h) λus s1 ⟨vs,H1,bE,bg,aO⟩=>?_) av hpl));obtain⟨bW,b6,cb,b_,xs,ys,rfl,m7,n0,q⟩:=aO;obtain⟨Jj,x6,rfl,aQ,a9⟩:=bg.two;cases aQ;cases a9;obtain⟨its,b9,e7,_⟩:=Inv.uM bE m7;obtain⟨hQ,qd,ec,_⟩:=Inv.uM bE n0;refine Qa e7 ec λh' xh fI g5 uA uB hsz aH=>wpAny_pyIter_zip (f0:=.none) xh ?_;refine⟨s1.heap.objs.size+4,[s1.heap.objs.size+4,s1.heap.objs.size+2,s1.heap.objs.size+3,s1.heap.objs.size,s1.heap.objs.size+1],_,_,H1,rfl,bE.kept (t':=s1.toks) aH,aeV (O9 e7.lt ec.lt),⟨xh,fI,⟨_,_,g5⟩,uA,uB,kP _,kP _⟩,λb ae=>?_,q⟩;have i0:s1.heap.objs.size<=b:=by
  simp only[cZ,kp,or_false] at ae;rcases ae with rfl|rfl|rfl|rfl|rfl
  ·exact tv _ _
  ·exact tv _ _
  ·exact tv _ _
  ·exact el _
  ·exact tv _ _
 exact bE.AI i0 (bE.b'.fresh i0)
end
end
section
variable [c2]
noncomputable def nS(i:Nat):bu:=λε=>match ε[i]? with
|some (some (.own ts))=>some (.bY (ε.set i (some (.ab (.list ts)))))
|_=>none
end
section
variable [c2]
noncomputable def qN:List T->Option T
| [.tuple ts]=>if (PyData.tuple ts).showable && !(PyData.tuple ts).hasDict && decide ((PyData.tuple ts).depth<=60) && decide ((PyData.tuple ts).shown.length<=1000000) then some (.str (PyData.tuple ts).shown) else none
|_=>none
section
variable {X:bh}{a:bf}{f:bD}{p pos:Pos}
def ahk(Gj:X.A.guards=some [])(bj:X.A.units+62<cLine):mc X (.builtin "repr") (λxs H Q=>∃(l:aj) (t:T) (F:aj->Prop),xs=[.ref l]/\Rep X.K F H t (.ref l)/\t.showable=true/\t.hasDict=false/\t.depth<=60/\t.shown.length<=1000000/\Q (.str t.shown) H):=by
 intro ah s σ H xs us Q I r h;obtain⟨l,t,F,rfl,fa,af,ak,bA,cP,q⟩:=h;obtain⟨u,rfl,a3⟩:=vals1 r;cases a3;obtain⟨as,ig⟩:=Kx I fa (show RelV (.ref l) (.ref l) from rfl);refine PySem.repr_of_reads' ig af (λz=>by rw[ak] at z;cases z) Gj (by omega) (λ_ _ e=>e) (λh' u tk keep=>?_) (by rw[lr];omega);exact⟨.str t.shown,H,I.kept (t':=tk) keep,⟨u,rfl⟩,q⟩
def agM(Gj:X.A.guards=some [])(bj:X.A.units+62<cLine)(hm:X.mg "repr"=none){e:bf}{es:List bf}{ay:List bD}(ax:pP X (e::es) ay)(br:fi X "repr":=by rfl)(he:bB (e::es) X.env=(false,eval e X.env)::bB es X.env:=by rfl)(hpl:(dR pos (bB es X.env)).any (·.1)=false:=by rfl):
  cf X (.Call (.Name "repr" p) (e::es) [] pos) (bV qN ay):=d7 (zc (ahk Gj bj) br hm (by decide +kernel) ax (he:=he) (hpl:=hpl)) (zp (by
 intro O F H ts t vs Q d q e k;unfold qN at e;split at e
 next us=>
  split at e
  next aq=>
   cases e
   simp only[hZ,Bool.not_eq_true',decide_eq_true_eq] at aq;cases q with
   |cons aO bb=>
    cases bb
    rcases aO with aO|⟨ts,a,vs,af,_⟩
    ·obtain⟨a,ws,rfl,av,ar⟩:=gr.tup (O:=O) (.inl aO);exact⟨a,.tuple us,F,rfl,aO,aq.1.1.1,aq.1.1.2,aq.1.2,aq.2,k _ F H (Ext.refl d) (by simp[Rep])⟩
    ·cases af
  next=>cases e
 next=>cases e))
def RO{k:Nat}(ar:d4 k X.A)(hm:X.mg "repr"=none){e:bf}{es:List bf}{ay:List bD}(ax:pP X (e::es) ay)(br:fi X "repr":=by rfl)(he:bB (e::es) X.env=(false,eval e X.env)::bB es X.env:=by rfl)(hpl:(dR pos (bB es X.env)).any (·.1)=false:=by rfl):
  cf X (.Call (.Name "repr" p) (e::es) [] pos) (bV qN ay):=agM ar.ml (by have:=ar.un;omega) hm ax br he hpl
end
end
section
variable [c2]
structure qX(X:bh)(b:List Stmt)(g:bu):Prop where
 h:iz X b g
section
variable {X:bh}{e a b c:bf}{es:List bf}{f g:bD}{ay:List bD}{gs:e_}{eN av:bu}{st:Stmt}{rest wM:List Stmt}{pos:Pos}
def akb(h:cf X e f):LO X e f:=⟨h⟩
def hp(h:fM X st eN):ue X st eN:=⟨h⟩
def uR(aD:lG X c gs)(ax:qX X rest eN)(ae:qX X wM av):ue X (.If c rest wM pos) (iff gs eN av):=⟨df aD ax.h ae.h⟩
def Sl(i:Nat){x:Str}{pos':Pos}(e5:X.N.Nodup)(he:LO X e f)(aS:X.N[i]?=some x:=by rfl)(hx:Loc X.env.scope x:=by first|exact Or.inl rfl|exact Or.inr rfl)
  (av:i6 e (some (.Name x pos')) pos.line X.env=pure false:=by rfl) (hf:X.fn x=true\/X.env.scope.names.lookup x=some .local:=by first|exact .inl rfl|exact .inr rfl):
  ue X (.Assign [.Name x pos'] e pos) (asg i f):=⟨ez i e5 he.h aS hx av hf⟩
def v_:qX X [] skip:=⟨eV⟩
def r2(h:ue X st eN):qX X [st] eN:=⟨bI h.h⟩
def g8(h:ue X st eN)(t:qX X rest av):qX X (st::rest) (seq eN av):=⟨bx h.h t.h⟩
def acZ(h:qX X rest eN):iz X rest eN:=h.h
end
end
section
variable [c2]
structure hu(c:Nat)(ns:List Str):Prop where
 jK:c2.jK c=none
 eg:c2.eg c=ns
 aW:ns.Nodup
 oK:ns.length<=15
def dE(ns:List Str)(vs:List V):List (bo.Key×V):=(ns.zip vs).map λp=>(.inr p.1,p.2)
def PK{ns:List Str}{vs:List V}(h:vs.length<=ns.length):(dE ns vs).length=vs.length:=by
 simp[dE];omega
def ahs:∀{ns:List Str} {vs:List V} {f:Str},f∉ns->∀q∈dE ns vs,q.1≠.inr f
|ns,vs,f,h,q,bt=>by
  unfold dE at bt;obtain⟨⟨x,v⟩,aC,rfl⟩:=dm.mp bt;have:=(List.of_mem_zip aC).1;intro e;cases e;exact h this
theorem akc:∀{ns:List Str} {vs:List V} {j:Nat} {f:Str} {v:V},ns.Nodup->ns[j]?=some f->vs[j]?=some v->hV (dE ns vs) (.inr f)=some v
| [],_,_,_,_,_,e,_=>by simp at e
|_::_,[],_,_,_,_,_,e=>by simp at e
|n::ns,w::vs,0,f,v,_,aQ,a9=>by
  simp at aQ a9;subst aQ a9;simp[dE,hV]
|n::ns,w::vs,j+1,f,v,aW,aQ,a9=>by
  have ne:n≠f:=by
   rintro rfl;exact (dX.mp aW).1 (ko (by simpa using aQ))
  have b2:=akc (j:=j) (dX.mp aW).2 (by simpa using aQ) (by simpa using a9);have ae:decide ((Sum.inr n:bo.Key)=.inr f)=false:=decide_eq_false λz=>ne (Sum.inr.inj z);simp only[dE,hV,qp,dk,l1,ae] at b2 ⊢;exact b2
def ahr:∀{ns:List Str} {vs:List V} {j:Nat} {f:Str} {v:V},ns.Nodup->ns[j]?=some f->j<vs.length->putK (dE ns vs) (.inr f) v=dE ns (vs.set j v):=by
 intro ns vs j f v aW e h;have key:∀{ns:List Str} {vs:List V} {j:Nat},ns.Nodup->ns[j]?=some f->j<vs.length->((dE ns vs).any λcJ=>decide (cJ.1=.inr f))=true/\(dE ns vs).map (λcJ=>if cJ.1=.inr f then (cJ.1,v) else cJ)=dE ns (vs.set j v):=by
  intro ns
  induction ns with
  |nil=>intro vs j _ e _;simp at e
  |cons n ns b2=>
   intro vs j aW e h;cases vs with
   |nil=>simp at h
   |cons w vs=>
    cases j with
    |zero=>
     simp at e;subst e;refine⟨by simp[dE],?_⟩;have a8:(dE ns vs).map (λcJ=>if cJ.1=.inr n then (cJ.1,v) else cJ)=dE ns vs:=by
      conv=>rhs;rw[<- List.map_id (dE ns vs)]
      exact List.map_congr_left λq bt=>if_neg (ahs (dX.mp aW).1 q bt)
     show (λcJ:bo.Key×V=>if cJ.1=.inr n then (cJ.1,v) else cJ) (.inr n,w)::(dE ns vs).map _=(.inr n,v)::dE ns vs
     rw[a8];simp
    |succ j=>
     have ne:n≠f:=by
      rintro rfl;exact (dX.mp aW).1 (ko (by simpa using e))
     obtain⟨bZ,b3⟩:=b2 (vs:=vs) (j:=j) (dX.mp aW).2 (by simpa using e) (by simpa using h);have nb:(Sum.inr n:bo.Key)≠.inr f:=λz=>ne (Sum.inr.inj z);refine⟨?_,?_⟩
     ·show (decide ((Sum.inr n:bo.Key)=.inr f) || (dE ns vs).any _)=true
      rw[bZ,Bool.or_true]
     ·show (λcJ:bo.Key×V=>if cJ.1=.inr f then (cJ.1,v) else cJ) (.inr n,w)::(dE ns vs).map _=(.inr n,w)::dE ns (vs.set j v)
      rw[b3];simp only[if_neg nb]
 obtain⟨af,ak⟩:=key aW e h;unfold putK;rw[if_pos af];exact ak
theorem QT:∀{ns:List Str} {vs:List V} {f:Str} {v:V},ns[vs.length]?=some f->dE ns vs++[(.inr f,v)]=dE ns (vs++[v])
| [],_,_,_,e=>by simp at e
|n::ns,[],f,v,e=>by
  simp at e;subst e;simp[dE]
|n::ns,w::vs,f,v,e=>by
  have b2:=QT (ns:=ns) (vs:=vs) (f:=f) (v:=v) (by simpa using e);show (.inr n,w)::(dE ns vs++[(.inr f,v)])=(.inr n,w)::dE ns (vs++[v]);rw[b2]
def agy{ns:List Str}{vs:List V}{f:Str}(aW:ns.Nodup)(e:ns[vs.length]?=some f):((dE ns vs).any λcJ=>decide (cJ.1=.inr f))=false:=by
 rw[List.any_eq_false];intro q bt;unfold dE at bt;obtain⟨⟨x,v⟩,aC,rfl⟩:=dm.mp bt;obtain⟨k,aH,a9⟩:=List.mem_iff_getElem.mp aC;rw[List.getElem_zip] at a9;cases a9;have XS:k<vs.length:=by
  rw[List.length_zip] at aH;omega
 have Gl:k<ns.length:=by
  rw[List.length_zip] at aH;omega
 obtain⟨aw,gc⟩:=fC.mp e;simp only[decide_eq_true_eq];intro z;have lu:ns[k]=ns[vs.length]:=(Sum.inr.inj z).trans gc.symm;exact List.pairwise_iff_getElem.mp aW k vs.length Gl aw XS lu
def Pj{ns:List Str}{vs:List V}{f:Str}{v:V}(aW:ns.Nodup)(e:ns[vs.length]?=some f):putK (dE ns vs) (.inr f) v=dE ns (vs++[v]):=by
 unfold putK;rw[if_neg (by rw[agy aW e];exact l2)];exact QT e
theorem Qo{ns:List Str}(aW:ns.Nodup):∀(vs us:List V),us.length+vs.length<=ns.length->ou (dE ns us) (dE (ns.drop us.length) vs)=dE ns (us++vs)
| [],us,h=>by
  simp[dE,ou]
|v::vs,us,h=>by
  simp only[hF] at h;have aw:us.length<ns.length:=by omega
  have e:ns.drop us.length=ns[us.length]::ns.drop (us.length+1):=List.drop_eq_getElem_cons aw;rw[e];show ou (putK (dE ns us) (.inr ns[us.length]) v) (dE (ns.drop (us.length+1)) vs)=_;rw[Pj aW (gT aw)];have b2:=Qo aW vs (us++[v]) (by simp;omega);simp only[qq,hF,tq,Nat.zero_add] at b2;rw[b2,List.append_assoc];rfl
section
variable {K:bl}{aB F aX O:aj->Prop}{H H1:aA}{E:gq}{ε ε':Ev}{σ:bo.St}{c i j:Nat}{ns:List Str}{f:Str}
def Dk{m:hg}{ay:List aM}(k:hu c ns)(r:cB K aB E O F H ε σ)(h:fh c i ε=some (m,ay)):
  ∃a vs,σ[i]?=some (some (.ref a))/\H a=some (.du (dE ns vs))/\vs.length<=ns.length/\gL H a c vs/\fN K F H ay vs/\(a::cU ay vs).Nodup/\(∀b∈a::cU ay vs,qW E O F m b)/\(m=.cN->a=E.g6):=by
 obtain⟨v,af,a,vs,rfl,ax,hf,aW,fp,g6⟩:=r.val i _ (kr h);obtain⟨aw,hx⟩:=id ax;rw[k.jK] at hx;rw[k.eg] at aw hx;exact⟨a,vs,af,hx,aw,ax,hf,aW,fp,g6⟩
def vL{m:hg}{ay:List aM}{s:aM}(k:hu c ns)(r:cB K aB E O F H ε σ)(h:fh c i ε=some (m,ay))(av:ay[j]?=some s)(bw:ns[j]?=some f):
  ∃a vs v,σ[i]?=some (some (.ref a))/\H a=some (.du (dE ns vs))/\hV (dE ns vs) (.inr f)=some v/\gL H a c vs/\vs[j]?=some v/\kT K F H s v/\(∀b∈dG s v,qW E O F m b/\b≠a):=by
 obtain⟨a,vs,af,hx,aw,ax,hf,aW,fp,g6⟩:=Dk k r h;obtain⟨v,a5,b9⟩:=hf.get av;refine⟨a,vs,v,af,hx,akc k.aW bw a5,ax,a5,b9,λb ae=>⟨fp b (dM _ (l_ av a5 ae)),λz=>(dX.mp aW).1 (z▸l_ av a5 ae)⟩⟩
def cB.N7{s:aM}{v:V}{a:aj}{vs:List V}(k:hu c ns)(r:cB K aB E O F H ε σ){m:hg}{ay:List aM}(aE:fh c i ε=some (m,ay))(af:σ[i]?=some (some (.ref a)))(ax:gL H a c vs)(he:f6 c i j s ε=some ε')
  (rs:kT K F H s v) (own:∀b∈dG s v,¬F b/\O b/\b∉dJ H (.obj m c ay) (.ref a)/\∀(k:Nat) (u:aM) (w:V),i≠k->ε[k]?=some (some u)->u.iN=true->σ[k]?=some (some w)->b∉dJ H u w) (hx:H a=some (.du (dE ns vs)))
  {f:Str} (bw:ns[j]?=some f):eG K F H F (upd H a (.du (putK (dE ns vs) (.inr f) v)))/\cB K aB E O F (upd H a (.du (putK (dE ns vs) (.inr f) v))) ε' σ:=by
 obtain⟨lI,d_,eS,kb,aw,lN,hf,aW,fp,g6⟩:=Dk k r aE;rw[af] at eS;cases eS;have ev:d_=vs:=by rw[<- ax.vals,<- lN.vals]
 subst ev;have gD:dJ H (.obj m c ay) (.ref a)=a::cU ay d_:=i9 ax;rw[gD] at own;unfold f6 at he;rw[aE] at he;simp only[dh] at he;split at he
 next=>cases he
 next hm=>
 have hlen:=hf.length;have rb:(aM.obj m c ay).iN=true:=zy hm;have w_:∀b,qW E O F m b <-> ¬F b/\O b:=λb=>by
  cases m with
  |fR=>exact absurd rfl hm
  |own=>exact Iff.rfl
  |cN=>exact Iff.rfl
 have na:∀b∈cU ay d_,b≠a:=λb ae z=>(dX.mp aW).1 (z▸ae);split at he
 next aj_=>
  cases he
  have sN:j<d_.length:=by omega
  rw[ahr k.aW bw sN];have nX:∀b∈a::cU (ay.set j s) (d_.set j v),b∈a::cU ay d_\/b∈dG s v:=λb ae=>by
   rcases cZ.mp ae with rfl|ae
   ·exact .inl e8
   ·rcases vm ae with q|q
    ·exact .inl (dM _ q)
    ·exact .inr q
  have iK:∀o':aA,o' a=some (.du (dE ns (d_.set j v)))->gL o' a c (d_.set j v):=λo' e=>by
   refine⟨by rw[k.eg];simpa using aw,?_⟩
   rw[k.jK,k.eg];exact e
  refine r.xx (kr aE) rb af (by rw[gD];exact e8) (λaz=>⟨a,d_.set j v,rfl,iK _ dI,?_,?_,λb ae=>?_,g6⟩) λb ae=>?_
  ·refine fN.set hf az (λk u w _ aQ a9 b ae=>cI (na b (l_ aQ a9 ae))) (rs.keep az λb ae=>cI λz=>(own b ae).2.2.1 (z▸e8))
  ·refine dX.mpr ⟨λz=>?_,CC (dX.mp aW).2 (C0 s v) λb ae k u w _ aQ a9 q=>(own b ae).2.2.1 (dM _ (l_ aQ a9 q))⟩
   rcases vm z with q|q
   ·exact (dX.mp aW).1 q
   ·exact (own a q).2.2.1 e8
  ·rcases nX b ae with q|q
   ·exact fp b q
   ·exact (w_ b).mpr ⟨(own b q).1,(own b q).2.1⟩
  ·rw[i9 (iK _ dI)] at ae;rcases nX b ae with q|q
   ·exact .inl (by rw[gD];exact q)
   ·exact .inr (own b q).2.2.2
 next aj_=>
  split at he
  next XO=>
   cases he
   have sN:j=d_.length:=by omega
   rw[Pj k.aW (by rw[<- sN];exact bw)];have XP:j<ns.length:=(fC.mp bw).1;have nX:∀b∈a::cU (ay++[s]) (d_++[v]),b∈a::cU ay d_\/b∈dG s v:=λb ae=>by
    rw[ze hlen] at ae;rcases cZ.mp ae with rfl|ae
    ·exact .inl e8
    ·rcases ju.mp ae with q|q
     ·exact .inl (dM _ q)
     ·exact .inr q
   have iK:∀o':aA,o' a=some (.du (dE ns (d_++[v])))->gL o' a c (d_++[v]):=λo' e=>by
    refine⟨by rw[k.eg];simp;omega,?_⟩
    rw[k.jK,k.eg];exact e
   refine r.xx (kr aE) rb af (by rw[gD];exact e8) (λaz=>⟨a,d_++[v],rfl,iK _ dI,?_,?_,λb ae=>?_,g6⟩) λb ae=>?_
   ·exact fN.snoc (hf.keep az λb ae=>cI (na b ae)) (rs.keep az λb ae=>cI λz=>(own b ae).2.2.1 (z▸e8))
   ·rw[ze hlen];refine dX.mpr ⟨λz=>?_,o7.mpr ⟨(dX.mp aW).2,C0 s v,λb ae d hd e=>?_⟩⟩
    ·rcases ju.mp z with q|q
     ·exact (dX.mp aW).1 q
     ·exact (own a q).2.2.1 e8
    ·subst e;exact (own b hd).2.2.1 (dM _ ae)
   ·rcases nX b ae with q|q
    ·exact fp b q
    ·exact (w_ b).mpr ⟨(own b q).1,(own b q).2.1⟩
   ·rw[i9 (iK _ dI)] at ae;rcases nX b ae with q|q
    ·exact .inl (by rw[gD];exact q)
    ·exact .inr (own b q).2.2.2
  next=>cases he
end
section
variable {X:bh}{c i j:Nat}{ns:List Str}{f:Str}{o e ey a:bf}{g h:bD}{pos apos:Pos}
def vA{K:bl}{F:aj->Prop}{H:aA}{a:aj}{ns:List Str}{vs:List V}{w v:V}(hx:H a=some (.du (dE ns vs)))(aw:hV (dE ns vs) (.inr f)=some v)(q:Rep K F H (.str f) w):me H a w (some v):=by
 have:w=.str f:=by simpa [Rep] using q
 subst this;rw[<- aw];exact me.k (k:=.inr f) hx
def gW(k:hu c ns)(bj:X.A.units+1<cLine)(a8:bO X o (gJ i))(aH:cf X ey (aa (.str f)))(bw:ns[j]?=some f:=by rfl)(av:qV ey:=by intro _ _;rfl):eo X (.Subscript o ey pos) (fld c i j):=
 d7 (vG bj a8 aH av) λσ H Q ⟨aB,aK,O,F,ε,t,r,e,bQ⟩=>by
 simp only[fld,b5] at e;obtain⟨⟨m,ay⟩,aE,e⟩:=e;split at e
 next t' av=>
  cases e
  obtain⟨a,vs,v,af,hx,aw,ax,a5,b9,_⟩:=vL k r aE av bw;refine⟨_,af,aB,aK,O,F,ε,_,r,rfl,λw aX H1 aJ aO=>⟨a,v,rfl,vA (aJ.same.get hx) aw aO,bQ v aX H1 aJ (.inl (b9.ext aJ))⟩⟩
 next ts av=>
  cases e
  obtain⟨a,vs,v,af,hx,aw,ax,a5,⟨b,us,c',ae,eO⟩,_⟩:=vL k r aE av bw;subst c';refine⟨_,af,aB,aK,O,F,ε,_,r,rfl,λw aX H1 aJ aO=>⟨a,_,rfl,vA (aJ.same.get hx) aw aO,bQ _ aX H1 aJ (.inr ⟨ts,b,us,rfl,rfl,aJ.same.get ae,eO.ext aJ⟩)⟩⟩
 next=>cases e
def qD(k:hu c ns)(bj:X.A.units+1<cLine)(a8:bO X o (gJ i))(aH:cf X ey (aa (.str f)))(bw:ns[j]?=some f:=by rfl)(av:qV ey:=by intro _ _;rfl):cf X (.Subscript o ey pos) (eR c i j):=
 d7 (vG bj a8 aH av) λσ H Q ⟨aB,aK,O,F,ε,t,r,e,bQ⟩=>by
 simp only[eR,b5] at e;obtain⟨⟨m,ay⟩,aE,e⟩:=e;split at e
 next t' av=>
  cases e
  obtain⟨a,vs,v,af,hx,aw,ax,a5,b9,_⟩:=vL k r aE av bw;refine⟨_,af,aB,aK,O,F,ε,_,r,rfl,λw aX H1 aJ aO=>⟨a,v,rfl,vA (aJ.same.get hx) aw aO,bQ v aX H1 aJ (b9.ext aJ)⟩⟩
 next=>cases e
def QO{K:bl}{F:aj->Prop}{H:aA}{a:aj}{ns:List Str}{vs:List V}{w v:V}(hx:H a=some (.du (dE ns vs)))(aw:vs.length<=ns.length)(hf:ns.length<=15)(q:Rep K F H (.str f) w):pL H a w v (upd H a (.du (putK (dE ns vs) (.inr f) v))):=by
 have:w=.str f:=by simpa [Rep] using q
 subst this;refine pL.k (k:=.inr f) hx ?_;rw[PK aw,lr];omega
def hs(k:hu c ns)(bj:X.A.units+1<cLine)(a8:bO X o (gJ i))(aH:cf X ey (aa (.str f)))(he:cf X e g)(bw:ns[j]?=some f:=by rfl)(av:i6 e (some (.Subscript o ey apos)) pos.line X.env=pure false:=by rfl):
  fM X (.Assign [.Subscript o ey apos] e pos) (cy c i j g):=g9 (KX bj a8 aH he av) λD σ H ⟨aB,aK,O,F,ε,o,r,e,bQ⟩=>by
 simp only[cy,b5,dN] at e;obtain⟨t,bp,ε',es,rfl⟩:=e;refine⟨aB,aK,O,F,ε,t,r,bp,λv aX H1 aJ aO=>?_⟩;have bg:=r.ext aJ;have fm:=es;unfold f6 at fm;simp only[b5] at fm;obtain⟨⟨m,ay⟩,aE,_⟩:=fm;obtain⟨a,vs,af,hx,aw,ax,_⟩:=Dk k bg aE;refine⟨_,af,aB,aK,O,aX,ε,_,bg,rfl,λw c0 ba bq bb=>?_⟩;have sX:=bq.same.get hx;obtain⟨az,b7⟩:=(bg.ext bq).N7 (s:=.ab t) (v:=v) k aE af (ax.keep (sX.trans hx.symm)) es (aO.ext bq) (λb ae=>by simp[dG] at ae) sX bw;exact⟨a,_,rfl,QO sX aw k.oK bb,bQ σ c0 _ ((aJ.trans bq).az.trans az) b7⟩
def vE(k:hu c ns)(bj:X.A.units+1<cLine)(a8:bO X o (gJ i))(aH:cf X ey (aa (.str f)))(he:oC X e g)(bw:ns[j]?=some f:=by rfl)(av:i6 e (some (.Subscript o ey apos)) pos.line X.env=pure false:=by rfl):
  fM X (.Assign [.Subscript o ey apos] e pos) (ha c i j g):=g9 (KX bj a8 aH he av) λD σ H ⟨aB,aK,O,F,ε,o,r,e,bQ⟩=>by
 simp only[ha,b5] at e;obtain⟨t,bp,e⟩:=e;split at e
 next ts=>
  simp only[dN] at e;obtain⟨ε',es,rfl⟩:=e;refine⟨aB,aK,O,F,ε,ts,r,bp,λb us aX H1 aJ m6 gf ae aO=>?_⟩;have bg:=r.ext aJ;have fm:=es;unfold f6 at fm;simp only[b5] at fm;obtain⟨⟨m,ay⟩,aE,_⟩:=fm;obtain⟨a,vs,af,hx,aw,ax,_⟩:=Dk k bg aE;refine⟨_,af,aB,aK,O,aX,ε,_,bg,rfl,λw c0 ba bq bb=>?_⟩;have sX:=bq.same.get hx;have F_:=bq.same.get ae;have Zu:¬c0 b:=λz=>by
   rcases bq.new b z with q|q
   ·exact gf q
   ·rw[ae] at q;cases q
  have hold:=KC r (aJ.trans bq) m6;obtain⟨az,b7⟩:=(bg.ext bq).N7 (s:=.own ts) (v:=.ref b) k aE af (ax.keep (sX.trans hx.symm)) es ⟨b,us,rfl,F_,aO.ext bq⟩ (λd hd=>by
   have:d=b:=by simpa [dG,gg] using hd
   subst this;exact⟨Zu,r.fr _ m6,hold i _ _ (kr aE) af,λk u w _ fG _ aH=>hold k u w fG aH⟩) sX bw
  exact⟨a,_,rfl,QO sX aw k.oK bb,bQ σ c0 _ ((aJ.trans bq).az.trans az) b7⟩
 next=>cases e
def Lc(k:hu c ns)(bj:X.A.units+1<cLine)(a8:bO X o (gJ i))(aH:cf X ey (aa (.str f))){iX dt:Pos}(he:cf X e g)(bw:ns[j]?=some f:=by rfl)(av:qV ey:=by intro _ _;rfl)
  (ka:bB [e] X.env=(false,eval e X.env)::bB [] X.env:=by rfl)
  (k4:i5 (.Subscript o ey apos) "append" X.env (eval (.Subscript o ey apos) X.env)=eval (.Subscript o ey apos) X.env:=by rfl)
  (nU:((dR dt (bB [e] X.env)).all (λx=>!x.1) && (l4 dt (l3 [] X.env)).all (λx=>x.1.isSome)
   && decide (([e]:List bf).length+([]:List Keyword).length+(if ([]:List Keyword).isEmpty then 0 else 1)<30))=true:=by rfl)
  (k5:(iX.endLine==dt.line)=true:=by rfl) (nZ:(dR dt (bB [] X.env)).any (·.1)=false:=by rfl)
  (n1:i6 (.Call (.Attribute (.Subscript o ey apos) "append" iX) [e] [] dt) none pos.line X.env=pure false:=by rfl):
  fM X (.Expr (.Call (.Attribute (.Subscript o ey apos) "append" iX) [e] [] dt) pos) (jI c i j g):=
 g9 (zm (zJ yb PySem.F.slot_list_append PySem.F.type_list_append CZ (vG bj a8 aH av) (i7 he lA ka) k4 nU k5 ka nZ) n1) λD σ H ⟨aB,aK,O,F,ε,o,r,e,bQ⟩=>by
 simp only[jI,b5] at e;obtain⟨t,bp,ts,fX,e⟩:=e;split at e
 next aq=>
  simp only[dN] at e;obtain⟨ε',es,rfl⟩:=e;obtain⟨m,ay,aE,av⟩:=y8 fX;obtain⟨a,vs,v,af,hx,aw,ax,a5,⟨b,us,c',ae,eO⟩,_⟩:=vL k r aE av bw;subst c';refine⟨_,af,aB,aK,O,F,ε,_,r,rfl,λw DN T_ x0 nc=>⟨a,_,rfl,vA (x0.same.get hx) aw nc,.inl ⟨rfl,_,f_.of (x0.same.get ae)⟩,aB,aK,O,DN,ε,t,r.ext x0,bp,λv aX H1 aJ aO=>?_⟩⟩;have o3:=x0.trans aJ;have bg:=r.ext o3;have AY:=o3.same.get hx;obtain⟨az,b7⟩:=bg.s_ (s':=.own (ts++[t])) (o':=.lst (us++[v])) aE af (ax.keep (AY.trans hx.symm)) es av a5 (by simp[dG,gg]) rfl λaz=>⟨b,_,rfl,dI,((eO.ext o3).az az).append (bk.cons (aO.az az) bk.nil)⟩;exact⟨b,us,v,rfl,rfl,o3.same.get ae,by rw[kQ,<- eO.length];exact aq,bQ σ aX _ (o3.az.trans az) b7⟩
 next=>cases e
def aiO(k:hu c ns)(bj:X.A.units+1<cLine)(a8:bO X o (gJ i))(aH:cf X ey (aa (.str f))){iX dt:Pos}(he:cf X e g)(bw:ns[j]?=some f:=by rfl)(av:qV ey:=by intro _ _;rfl)
  (ka:bB [e] X.env=(false,eval e X.env)::bB [] X.env:=by rfl)
  (k4:i5 (.Subscript o ey apos) "remove" X.env (eval (.Subscript o ey apos) X.env)=eval (.Subscript o ey apos) X.env:=by rfl)
  (nU:((dR dt (bB [e] X.env)).all (λx=>!x.1) && (l4 dt (l3 [] X.env)).all (λx=>x.1.isSome)
   && decide (([e]:List bf).length+([]:List Keyword).length+(if ([]:List Keyword).isEmpty then 0 else 1)<30))=true:=by rfl)
  (k5:(iX.endLine==dt.line)=true:=by rfl) (nZ:(dR dt (bB [] X.env)).any (·.1)=false:=by rfl)
  (n1:i6 (.Call (.Attribute (.Subscript o ey apos) "remove" iX) [e] [] dt) none pos.line X.env=pure false:=by rfl):
  fM X (.Expr (.Call (.Attribute (.Subscript o ey apos) "remove" iX) [e] [] dt) pos) (rp c i j g):=
 g9 (zm (zJ yb PySem.F.slot_list_remove PySem.F.type_list_remove PZ (vG bj a8 aH av) (i7 he lA ka) k4 nU k5 ka nZ) n1) λD σ H ⟨aB,aK,O,F,ε,o,r,e,bQ⟩=>by
 simp only[rp,b5] at e;obtain⟨t,bp,ts,fX,e⟩:=e;split at e
 next x ss p8=>
  split at e
  next hx=>
   simp only[dN] at e;obtain⟨ε',es,rfl⟩:=e;have xd:=vu p8;subst xd;obtain⟨m,ay,aE,av⟩:=y8 fX;obtain⟨a,vs,v,af,sW,aw,ax,a5,⟨b,us,c',ae,eO⟩,_⟩:=vL k r aE av bw;subst c';refine⟨_,af,aB,aK,O,F,ε,_,r,rfl,λw DN T_ x0 nc=>⟨a,_,rfl,vA (x0.same.get sW) aw nc,.inl ⟨rfl,_,f_.of (x0.same.get ae)⟩,aB,aK,O,DN,ε,_,r.ext x0,bp,λv aX H1 aJ aO=>?_⟩⟩;have o3:=x0.trans aJ;have bg:=r.ext o3;have AY:=o3.same.get sW;have ev:v=.str x:=by simpa [Rep] using aO
   subst ev;have e4:=vp eO;subst e4;obtain⟨az,b7⟩:=bg.s_ (s':=.own ((ss.erase x).map .str)) (o':=.lst ((ss.erase x).map V.str)) aE af (ax.keep (AY.trans sW.symm)) es av a5 (by simp[dG,gg]) rfl λaz=>⟨b,_,rfl,dI,y5 _⟩;exact⟨b,ss,x,rfl,rfl,o3.same.get ae,hx,bQ σ aX _ (o3.az.trans az) b7⟩
  next=>cases e
 next=>cases e
end
end
section
variable [c2]
noncomputable def qM(c i j:Nat)(k v:bD):bu:=λε=>(v ε).bind λv=>(k ε).bind λt=>(kE c i j ε).bind λts=>match t with
|.int n=>if 0<=n/\n.toNat<ts.length then (f6 c i j (.own (ts.set n.toNat v)) ε).map .bY else none
|_=>none
theorem bk.set{K:bl}{F:aj->Prop}{H:aA}{t:T}{v:V}:∀{ts:List T} {vs:List V} (n:Nat),bk K F H ts vs->Rep K F H t v->bk K F H (ts.set n t) (vs.set n v)
| [],vs,n,h,q=>by
  simp only[bk] at h;subst h;simpa using bk.nil
|x::ts,vs,0,h,q=>by
  simp only[bk] at h;obtain⟨w,z,rfl,ed,y⟩:=h;exact bk.cons q y
|x::ts,vs,n+1,h,q=>by
  simp only[bk] at h;obtain⟨w,z,rfl,ed,y⟩:=h;exact bk.cons ed (bk.set n y q)
section
variable {X:bh}{c i j:Nat}{ns:List Str}{f:Str}{o e ey a:bf}{g h:bD}{pos apos lb:Pos}
def Q0(k:hu c ns)(bj:X.A.units+1<cLine)(a8:bO X o (gJ i))(aH:cf X ey (aa (.str f)))(ax:cf X a h)(he:cf X e g)(bw:ns[j]?=some f:=by rfl)(av:qV ey:=by intro _ _;rfl)
    (br:∀v,assign (.Subscript (.Subscript o ey apos) a lb) X.env v=(do
      let dU <- holding [v] (eval (.Subscript o ey apos) X.env)
      let ew <- holding [v,dU] (eval a X.env)
      standAt lb
      holding [v,dU,ew] (setItem dU ew v)
      release [v,dU,ew] []):=by intro _;rfl)
    (Yf:swapsWithSole [.Subscript (.Subscript o ey apos) a lb] e pos.line X.env=pure false:=by rfl) (hw:swappedStores [.Subscript (.Subscript o ey apos) a lb] e X.env=pure none:=by rfl)
    (af:(nt [.Subscript (.Subscript o ey apos) a lb] X.env).map (·.2)=[assign (.Subscript (.Subscript o ey apos) a lb) X.env]:=by rfl):
    fM X (.Assign [.Subscript (.Subscript o ey apos) a lb] e pos) (qM c i j h g):=
  g9 (RS he (ahT (vG bj a8 aH av) ax set_list br) Yf hw af) λD σ H ⟨aB,aK,O,F,ε,o,r,e,bQ⟩=>by
  simp only[qM,b5] at e;obtain⟨v,ev,t,bp,ts,fX,e⟩:=e;split at e
  next n=>
    split at e
    next aq=>
      simp only[dN] at e;obtain⟨ε',es,rfl⟩:=e;obtain⟨m,ay,aE,av⟩:=y8 fX;refine⟨aB,aK,O,F,ε,v,r,ev,λtl aX H1 aJ aO=>?_⟩;obtain⟨a,vs,u,af,hx,aw,ax,a5,⟨b,us,c',ae,eO⟩,_⟩:=vL k (r.ext aJ) aE av bw;subst c';refine⟨_,af,aB,aK,O,aX,ε,_,r.ext aJ,rfl,λw c0 ba bq bb=>⟨a,_,rfl,vA (bq.same.get hx) aw bb,aB,aK,O,c0,ε,_,(r.ext aJ).ext bq,bp,λew hK c_ d0 cQ=>?_⟩⟩;have o4:=bq.trans d0;have hE:=(r.ext aJ).ext o4;have Yg:=o4.same.get hx;have wL:ew=.int n:=by simpa [Rep] using cQ
      subst wL;have hlen:=eO.length;obtain⟨az,lT⟩:=hE.s_ (s':=.own (ts.set n.toNat v)) (o':=.lst (us.set n.toNat tl)) aE af (ax.keep (Yg.trans hx.symm)) es av a5 (by simp[dG,gg]) rfl λaz=>⟨b,_,rfl,dI,((eO.ext o4).az az).set _ ((aO.ext o4).az az)⟩;refine⟨b,us,n,n.toNat,rfl,rfl,o4.same.get ae,?_,bQ σ hK _ ((aJ.trans o4).az.trans az) lT⟩;unfold oP
      first
        | (rw[if_pos aq.1,if_pos (by omega)])
        | (simp only[aq.1,if_true];split <;> first|rfl|omega)
        | (simp;omega)
    next=>cases e
  next=>cases e
end
section
variable {X:bh}{k n c i:Nat}{d:List aM->Option (T×List aM)}{x:Str}{p pos:Pos}{o eB:bf}{es:List bf}{ay:List bD}{f0:bD}
def RN{K:bl}{aB O F:aj->Prop}{H:aA}{E:gq}{ε:Ev}{σ:bo.St}{gd:hg}{os:List aM}(r:cB K aB E O F H ε σ)(aE:fh c i ε=some (gd,os)):∃a,σ[i]?=some (some (.ref a)):=by
 obtain⟨v,af,a,vs,rfl,_⟩:=r.val i _ (kr aE);exact⟨a,af⟩
def mM(j3:gp X.prog X.w X.K X.mg X.base x c 0 k n d)(ar:d4 k X.A)(a8:bO X o (gJ i))(ax:lE X es ay)(br:fi X x:=by rfl)(aw:ay.length+1=n:=by rfl)(iL:(x==("__debug__":Str))=false:=by decide)
  (he:bB (o::es) X.env=(false,eval o X.env)::bB es X.env:=by rfl) (hpl:(dR pos (bB es X.env)).any (·.1)=false:=by rfl):uc X (.Call (.Name x p) (o::es) [] pos) (dz c d [] i ay):=by
 obtain⟨cA,fd,ps,F,m,az,b⟩:=j3.ex;refine d7 (zo F ar br m az b .nil pG (i7 a8 ax he) iL he hpl) λσ H Q ⟨aB,E,O,F,ε,t,ε',r,e,bQ⟩=>?_;simp only[dz,b5] at e;obtain⟨⟨gd,os⟩,aE,e⟩:=e;split at e
 next=>cases e
 next sQ=>
  simp only[args,b5,dN,Option.some.injEq,exists_eq_left'] at e;obtain⟨ts,bp,cw,e3,e⟩:=e;cases e;obtain⟨a,af⟩:=RN r aE;refine⟨_,af,aB,E,O,F,ε,ts,r,bp,λws aX H1 aJ q=>?_⟩;show qe X.K n c 0 d (V.ref a::ws++[]) H1 Q aj3;rw[mE];exact KA r aE sQ af aJ q e3 (by rw[tT bp,aw]) bQ
def afg{σ:bo.St}{H H1:aA}{aB O F aX:aj->Prop}{E:gq}{ε:Ev}{gd:hg}{os:List aM}{a:aj}{Q:dx}{iR:V}{t0:T}{ws:List V}{ts:List T}{r:T×List aM}(IY:cB X.K aB E O F H ε σ)(aE:fh c i ε=some (gd,os))(hm:gd≠.fR)(af:σ[i]?=some (some (.ref a)))
  (aJ:Ext F H aX H1) (nc:Rep X.K aX H1 t0 iR) (q:bk X.K aX H1 ts ws) (e3:d (.ab t0::.obj .cN c os::ts.map .ab)=some r) (aw:ts.length+2=n)
  (bQ:∀v aI ai,eG X.K F H aI ai->cB X.K aB E O aI ai (ε.set i (some (.obj gd c r.2))) σ->Rep X.K aI ai r.1 v->Q v ai):qe X.K n c 1 d (iR::.ref a::ws) H1 Q aj3:=by
 have bg:=IY.ext aJ;obtain⟨kI,eS,rs⟩:=bg.val i _ (kr aE);rw[af] at eS;cases eS;refine⟨by simp[<- q.length,aw],aX,.ab t0::.obj .cN c os::ts.map .ab,a,dJ H1 (.obj gd c os) (.ref a),os,r,aJ.cj,rfl,rfl,.cons (show eE _ _ _ _ _ (.ab t0) iR from nc) (.cons (Rd (v:=.ref a) rs) (Dj q)),λj s bw av=>?_,e3,λv aI ai bq b9 I4=>?_⟩
 ·cases j with
  |zero=>
   simp at av;subst av;rfl
  |succ j=>
   cases j with
   |zero=>exact absurd rfl bw
   |succ j=>exact K0 (q:=j) (by simpa using av)
 ·obtain⟨az,b7⟩:=bg.back (kr aE) hm af rfl bq I4;exact bQ v aI ai (aJ.az.trans az) b7 b9
def px(j3:gp X.prog X.w X.K X.mg X.base x c 1 k n d)(ar:d4 k X.A)(h0:cf X eB f0)(a8:bO X o (gJ i))(ax:lE X es ay)(br:fi X x:=by rfl)(aw:ay.length+2=n:=by rfl)(iL:(x==("__debug__":Str))=false:=by decide)
  (M_:bB (eB::o::es) X.env=(false,eval eB X.env)::bB (o::es) X.env:=by rfl) (he:bB (o::es) X.env=(false,eval o X.env)::bB es X.env:=by rfl) (hpl:(dR pos (bB (o::es) X.env)).any (·.1)=false:=by rfl):
  uc X (.Call (.Name x p) (eB::o::es) [] pos) (dz c d [f0] i ay):=by
 obtain⟨cA,fd,ps,F,m,az,b⟩:=j3.ex;refine d7 (zo F ar br m az b .nil pG (i7 h0 (i7 a8 ax he) M_) iL M_ hpl) λσ H Q ⟨aB,E,O,F,ε,t,ε',r,e,bQ⟩=>?_;simp only[dz,b5] at e;obtain⟨⟨gd,os⟩,aE,e⟩:=e;split at e
 next=>cases e
 next sQ=>
  simp only[args,b5,dN,Option.some.injEq] at e;obtain⟨ajF,⟨t0,W7,_,rfl,rfl⟩,us,e4,cw,e3,e⟩:=e;cases e;obtain⟨a,af⟩:=RN r aE;refine⟨aB,E,O,F,ε,t0,r,W7,λiR aX H1 aJ nc=>⟨_,af,aB,E,O,aX,ε,us,r.ext aJ,e4,λws c0 ba bq q=>?_⟩⟩;show qe X.K n c 1 d (iR::V.ref a::ws++[]) ba Q aj3;rw[mE];exact afg r aE sQ af (aJ.trans bq) (nc.ext bq) q e3 (by rw[tT e4,aw]) bQ
end
noncomputable def tV:List (Bool×bD)->Ev->Option (List aM)
  | [],_=>some []
  | (false,f)::es,ε=>(f ε).bind λt=>(tV es ε).map λss=>.ab t::ss
  | (true,f)::es,ε=>(f ε).bind λt=>match t with
    |.list ts=>(tV es ε).map λss=>.own ts::ss
    |_=>none
noncomputable def xC(c:Nat)(es:List (Bool×bD)):cv:=λε=>(tV es ε).map λss=>.obj .own c ss
noncomputable def x3(K:bl):List Str->List (Bool×bD)->List (TE×TE)
|n::ns,(false,f)::es=>(uP K (aa (.str n)),uP K f)::x3 K ns es
|n::ns,(true,f)::es=>(uP K (aa (.str n)),Oo K f)::x3 K ns es
|_,_=>[]
section
variable {X:bh}{pos:Pos}{ey gK:bf}{bc:List (Option bf)}{vs:List bf}{n:Str}{ns:List Str}{f:bD}{es:List (Bool×bD)}
structure si(X:bh)(pos:Pos)(keys:List (Option bf))(values:List bf)(ns:List Str)(es:List (Bool×bD)):Prop where
 h:wz X pos keys values (x3 X.K ns es)
structure DW(X:bh)(e:bf)(n:Str):Prop where
 h:cf X e (aa (.str n))
structure LP(X:bh)(b:Bool)(e:bf)(f:bD):Prop where
 h:match b with|false=>cf X e f|true=>oC X e f
def uE{X:bh}{i:Str}{j}{pos:Pos}:DW X (.Constant (.str i) j pos) i:=⟨aY⟩
def RT:si X pos [] [] ns []:=⟨by
 cases ns <;> exact Q9⟩
def BC(aH:DW X ey n)(a5:LP X false gK f)(r:si X pos bc vs ns es):si X pos (some ey::bc) (gK::vs) (n::ns) ((false,f)::es):=⟨Ky aH.h a5.h r.h⟩
def NW(aH:DW X ey n)(a5:LP X true gK f)(r:si X pos bc vs ns es):si X pos (some ey::bc) (gK::vs) (n::ns) ((true,f)::es):=⟨Ky aH.h a5.h r.h⟩
theorem K'{K:bl}{aB O:aj->Prop}{E:gq}{ε:Ev}{σ:bo.St}:∀{es:List (Bool×bD)} {ns:List Str} {ss:List aM} {F:aj->Prop} {H:aA} {Q:List (V×V)->aA->Prop},tV es ε=some ss->es.length<=ns.length->cB K aB E O F H ε σ ->
    (∀vs aI ai,Ext F H aI ai->vs.length=es.length->fN K aI ai ss vs->(cU ss vs).Nodup->(∀b∈cU ss vs,H b=none/\¬aI b)->Q ((ns.zip vs).map λp=>(.str p.1,p.2)) ai)->zv (x3 K ns es) σ H Q
  | [],ns,ss,F,H,Q,e,aw,r,k=>by
    cases e
    have:zv (x3 K ns []) σ H Q=Q [] H:=by cases ns <;> rfl
    rw[this];have:=k [] F H (Ext.refl r.cj) rfl rfl (by simp[cU]) (by simp[cU]);simpa using this
  | (false,f)::es,[],ss,F,H,Q,e,aw,r,k=>by simp at aw
  | (true,f)::es,[],ss,F,H,Q,e,aw,r,k=>by simp at aw
  | (false,f)::es,n::ns,ss,F,H,Q,e,aw,r,k=>by
    simp only[tV,b5,dN] at e;obtain⟨t,bp,ti,fm,rfl⟩:=e;refine⟨aB,E,O,F,ε,_,r,rfl,λv aX H1 aJ aO=>⟨aB,E,O,aX,ε,t,r.ext aJ,bp,λw c0 ba bq bb=>?_⟩⟩;have ev:v=.str n:=by simpa [Rep] using aO
    subst ev;refine K' fm (by simpa using aw) ((r.ext aJ).ext bq) λvs hK c_ d0 hlen gg aW fr=>?_;exact k (w::vs) hK c_ ((aJ.trans bq).trans d0) (by simp[hlen]) ⟨w,vs,rfl,bb.ext d0,gg⟩ aW λb ae=>⟨(aJ.trans bq).same.none (fr b ae).1,(fr b ae).2⟩
  | (true,f)::es,n::ns,ss,F,H,Q,e,aw,r,k=>by
    simp only[tV,b5] at e;obtain⟨t,bp,e⟩:=e;split at e
    next ts=>
      simp only[dN] at e;obtain⟨ti,fm,rfl⟩:=e;refine⟨aB,E,O,F,ε,_,r,rfl,λv aX H1 aJ aO=>⟨aB,E,O,aX,ε,ts,r.ext aJ,bp,λa us c0 ba bq a8 gf ax bb=>?_⟩⟩;have ev:v=.str n:=by simpa [Rep] using aO
      subst ev;refine K' fm (by simpa using aw) ((r.ext aJ).ext bq) λvs hK c_ d0 hlen gg aW fr=>?_;have na:a∉cU ti vs:=λz=>by
        have:=(fr a z).1;rw[ax] at this;cases this
      refine k (.ref a::vs) hK c_ ((aJ.trans bq).trans d0) (by simp[hlen]) ⟨.ref a,vs,rfl,⟨a,us,rfl,d0.same.get ax,bb.ext d0⟩,gg⟩ (dX.mpr ⟨na,aW⟩) λb ae=>?_
      rcases cZ.mp (show b∈a::cU ti vs from ae) with rfl|ae
      · refine⟨aJ.same.none a8,λz=>?_⟩
        rcases d0.new _ z with q|q
        · exact gf q
        · rw[ax] at q
          cases q
      · exact⟨(aJ.trans bq).same.none (fr b ae).1,(fr b ae).2⟩
    next=>cases e
def ah_{c:Nat}{keys:List (Option bf)}{values:List bf}{lR:List Str}(k:hu c lR)(h:si X pos keys values lR es)(hle:es.length<=lR.length:=by decide)(sJ:keys.all (·.isSome)=true:=by rfl)(aw:keys.length=values.length:=by rfl)(h0:keys≠[]:=by simp)
  (wX:keys.length<=15:=by decide):ub X (.Dict keys values pos) (xC c es):=d7 (Ra h.h sJ aw h0 wX) λσ H Q ⟨aB,E,O,F,ε,s,r,e,bQ⟩=>by
 simp only[xC,dN] at e;obtain⟨ss,e,rfl⟩:=e;intro p aC;have x0:=Ext.laid (o:=.du []) r.cj aC;refine K' e hle (r.ext x0) λvs c0 ba bq hlen gg aW fr=>?_;have a5:vs.length<=lR.length:=by omega
 have oe:=x0.trans bq;have rd:ba p=some (.du []):=bq.same.get dI;have gf:¬c0 p:=λz=>by
  rcases bq.new p z with q|q
  ·obtain⟨o,e⟩:=r.cj p q;rw[aC] at e;cases e
  ·rw[dI] at q;cases q
 have np:∀b∈cU ss vs,b≠p:=λb ae z=>by
  have:=(fr b ae).1;rw[z,dI] at this;cases this
 have hm:ou [] (dE lR vs)=dE lR vs:=by
  have:=Qo k.aW vs [] (by simpa using a5);simpa [dE] using this
 refine⟨rd,dE lR vs,?_,?_,?_⟩
 ·unfold dE;rw[mF];rfl
 ·rw[PK a5];have:=k.oK;omega
 ·rw[hm];have az:eG X.K c0 ba c0 (upd ba p (.du (dE lR vs))):=aid gf rd (.inr ⟨_,rfl⟩);have d0:Ext F H c0 (upd ba p (.du (dE lR vs))):=by
   refine⟨λb o e=>?_,oe.sub,oe.new,⟨λb z=>?_,oe.cj.oc.upd λu e=>.inr ⟨_,en (e.symm.trans rd)⟩⟩⟩
   ·rw[cI (jV e aC)];exact oe.same b o e
   ·have nb:b≠p:=by
     rintro rfl;exact gf z
    rw[cI nb];exact oe.cj b z
  have iK:gL (upd ba p (.du (dE lR vs))) p c vs:=by
   refine⟨by rw[k.eg];exact a5,?_⟩
   rw[k.jK,k.eg];exact dI
  have w0:∀b∈p::cU ss vs,H b=none/\¬c0 b:=λb ae=>by
   rcases cZ.mp ae with rfl|ae
   ·exact⟨aC,gf⟩
   ·exact⟨x0.same.none (fr b ae).1,(fr b ae).2⟩
  refine bQ p c0 _ d0 ⟨p,vs,rfl,iK,gg.keep az λb ae=>cI (np b ae),dX.mpr ⟨λz=>np p z rfl,aW⟩,λb ae=>⟨(w0 b ae).2,r.fr b (w0 b ae).1⟩,λz=>by cases z⟩ λb ae=>?_
  rw[i9 iK] at ae;exact (w0 b ae).1
end
noncomputable def vK(k v:Str)(f g:bD):bD:=λε=>(f ε).bind λt=>(keyOf t).bind λkey=>(g ε).map λd=>if key=.inr k then .str v else d
section
variable {X:bh}{a b ey gK:bf}{f g:bD}{k v:Str}{apos dt oH:Pos}
def ae'(bj:X.A.units+1<cLine)(aH:cf X ey (aa (.str k)))(a5:cf X gK (aa (.str v)))(ax:eo X a f)(ae:cf X b g)(m:M2 X (.Dict [some ey] [gK] oH) "get" apos a b dt:=by exact⟨rfl,rfl,rfl,rfl⟩):
  cf X (.Call (.Attribute (.Dict [some ey] [gK] oH) "get" apos) [a,b] [] dt) (vK k v f g):=
 d7 (af6 bj (Ra (Ky aH a5 Q9) rfl rfl (by simp) (by simp)) ax ae m) λσ H Q ⟨aB,aK,O,F,ε,t,r,e,bQ⟩=>by
 simp only[vK,b5,dN] at e;obtain⟨t',bp,key,fG,d,e3,rfl⟩:=e;intro p aC;have x0:=Ext.laid (o:=.du []) r.cj aC;refine⟨aB,aK,O,F,ε,_,r.ext x0,rfl,λvk aX H1 aJ aO=>⟨aB,aK,O,aX,ε,_,(r.ext x0).ext aJ,rfl,λtl c0 ba bq bb=>?_⟩⟩;have aQ:vk=.str k:=by simpa [Rep] using aO
 have a9:tl=.str v:=by simpa [Rep] using bb
 subst aQ a9;have oe:=(x0.trans aJ).trans bq;have rd:ba p=some (.du []):=(aJ.trans bq).same.get dI;have gf:¬c0 p:=λz=>by
  rcases (aJ.trans bq).new p z with q|q
  ·obtain⟨o,e⟩:=r.cj p q;rw[aC] at e;cases e
  ·rw[dI] at q;cases q
 refine⟨rd,[(.inr k,.str v)],rfl,by simp,?_⟩
 have d0:Ext F H c0 (upd ba p (.du (ou [] [(.inr k,.str v)]))):=by
  refine⟨λb o e=>?_,oe.sub,oe.new,⟨λb z=>?_,oe.cj.oc.upd λu e=>.inr ⟨_,en (e.symm.trans rd)⟩⟩⟩
  ·rw[cI (jV e aC)];exact oe.same b o e
  ·have nb:b≠p:=by
    rintro rfl;exact gf z
   rw[cI nb];exact oe.cj b z
 refine⟨p,rfl,.inl ⟨_,.inl dI⟩,aB,aK,O,c0,ε,t',r.ext d0,bp,λw kU jF lX gI=>⟨aB,aK,O,kU,ε,d,(r.ext d0).ext lX,e3,λz iW gY mC nd=>.inl ?_⟩⟩
 have Ya:=(lX.trans mC).same.get (dI (H:=ba) (a:=p) (o:=.du (ou [] [(.inr k,.str v)])));refine⟨_,by rw[rV fG gI];exact me.k Ya,bQ _ iW gY ((d0.trans lX).trans mC) ?_⟩;show Rep X.K iW gY _ ((hV [(.inr k,V.str v)] key).getD z);by_cases aH:key=.inr k
 ·subst aH;simp[hV,Rep]
 ·have XQ:¬((Sum.inr k:bo.Key)=key):=λz=>aH z.symm;have Ye:hV [((Sum.inr k:bo.Key),V.str v)] key=none:=by simp[hV,XQ]
  rw[if_neg aH,Ye];exact nd
end
end
section
variable [c2]
structure t9(K:bl)(J:kW)(aX:aj->Prop)(H1:aA)(ts:List T):Prop where
 go:∀i F H t,Ext aX H1 F H->ts[i]?=some t->J.go i H
 kq:∀i F H t x ai,Ext aX H1 F H->ts[i]?=some t->J.kq i H x ai->∃aI,Ext F H aI ai/\Rep K aI ai t x
 stop:∀i F H,Ext aX H1 F H->ts.length<=i->J.stop i H
noncomputable def acz(K:bl)(f:jd):TI:=λσ H R=>∃aB aK O F ε ts,cB K aB aK O F H ε σ/\f ε=some ts/\∀J aI ai,Ext F H aI ai->t9 K J aI ai ts->R J ai
abbrev ud(X:bh)(cx e:bf)(f:jd):Prop:=pR X cx e (acz X.K f)
noncomputable def qJ(g:hv)(c:e_)(b:bu):List T->Ev->Option Out
| [],ε=>some (.bY ε)
|t::ts,ε=>(g t ε).bind λiv=>(c iv).bind λx=>if x then (b iv).bind λo=>(match o with
   |.fa t=>some (.fa t)
   |.gh t iw=>some (.gh t iw)
   |_=>none) else qJ g c b ts iv
noncomputable def wh(it:jd)(g:hv)(c:e_)(b:bu):bu:=λε=>(it ε).bind λts=>qJ g c b ts ε
section
variable {X:bh}{pos Yw:Pos}
def agG{cx iter c:bf}{eO:List Stmt}{it:jd}{fO:hv}{gs:e_}{pW:bu}(aC:PassesOwn (bR X.prog X.w) X.A X.env X.d1)(aS:ud X cx iter it)(br:kX X cx fO)(Xz:lG X c gs)(ae:iz X eO pW)(aD:X.calm=true:=by rfl)
  (av:∀x,pf iter X.env x=pure x:=by intro _;rfl):fM X (.For cx iter [.If c eO [] Yw] [] pos) (wh it fO gs pW):=g9 (RR aC aD aS br (Q7 (Sq Xz ae Q8)) av) λD σ H ⟨aB,aK,O,F,ε,o,r,e,k⟩=>by
 simp only[wh,b5] at e;obtain⟨ts,bp,e⟩:=e;refine⟨aB,aK,O,F,ε,ts,r,bp,λJ aX H1 aJ ok=>?_⟩;have oG:=(r.ext aJ).cj;refine⟨λi m cn ai=>m=ts.length - i/\i<=ts.length/\∃aI ε' ,Ext aX H1 aI ai/\cB X.K aB aK O aI ai ε' cn/\qJ fO gs pW (ts.drop i) ε'=some o,⟨_,rfl,kP _,aX,ε,Ext.refl oG,r.ext aJ,by simpa using e⟩,?_⟩;rintro i m cn ai ⟨rfl,w6,aI,ε',tm,cw,bT⟩;by_cases eZ:i<ts.length
 ·have hd:ts.drop i=ts[i]::ts.drop (i+1):=List.drop_eq_getElem_cons eZ;have nV:ts[i]?=some ts[i]:=gT eZ;rw[hd] at bT;simp only[qJ,b5] at bT;obtain⟨iv,kC,x,g0,bT⟩:=bT;refine .inr ⟨ok.go i aI ai _ tm nV,λzQ ba=>∃mw,mw<ts.length - i/\(mw=ts.length - (i+1)/\i+1<=ts.length/\∃c0 iw,Ext aX H1 c0 ba/\cB X.K aB aK O c0 ba iw zQ/\qJ fO gs pW (ts.drop (i+1)) iw=some o),λ_ _ z=>z,λy ba yy=>?_⟩;obtain⟨c0,bq,a3⟩:=ok.kq i aI ai _ y ba tm nV yy;refine⟨aB,aK,O,c0,ε',_,iv,cw.ext bq,a3,kC,λkx hE=>⟨aB,aK,O,c0,iv,x,hE,g0,λhK c_ d0=>?_⟩⟩;cases x with
  |false=>
   simp only[jU,if_false] at bT;exact xl ⟨_,by omega,rfl,eZ,hK,iv,(tm.trans bq).trans d0,hE.ext d0,bT⟩
  |true=>
   simp only[if_true,b5] at bT;obtain⟨dT,c',bT⟩:=bT;refine xm ⟨aB,aK,O,hK,iv,dT,hE.ext d0,c',?_⟩;cases dT with
   |fa t=>
    cases bT
    exact k
   |gh t iw=>
    cases bT
    exact k
   |bY _=>cases bT
   |e' _=>cases bT
   |iD _=>cases bT
   |lU _=>cases bT
 ·have hd:ts.drop i=[]:=List.drop_eq_nil_of_le (by omega);rw[hd] at bT;cases bT;exact .inl ⟨ok.stop i aI ai tm (by omega),k cn aI ai (aJ.az.trans tm.az) cw⟩
end
theorem iB.same{K:bl}{b:Bool}{H H1:aA}{a:aj}{xs:List V}(s:jC H H1)(h:match b with|true=>eK H a (.lst xs)|false=>de K H a xs):iB K b H1 a xs:=by
 cases b with
|true=>exact .inl (eK.same s h)
|false=>exact de.same s h
section
variable {X:bh}{es:List bf}{k:Nat}{p pos fB:Pos}{a b:bf}{f g:bD}
def aeC{bW b6:Bool}{K:bl}{a b:aj}{aX:aj->Prop}{H1:aA}{ts us:List T}{vs ws:List V}(oG:gM aX H1)(ar:match bW with|true=>eK H1 a (.lst vs)|false=>de K H1 a vs)(q:bk K aX H1 ts vs)(sT:match b6 with|true=>eK H1 b (.lst ws)|false=>de K H1 b ws)(bb:bk K aX H1 us ws):t9 K (DS K bW b6 a b vs.length ws.length) aX H1 (zC ts us) where
 go:=λi F H t az e=>by
  have aS:=(fC.mp e).1;simp only[zC,List.length_zipWith] at aS;obtain⟨v,af,_⟩:=q.get (gT (show i<ts.length by omega));obtain⟨v2,ak,_⟩:=bb.get (gT (show i<us.length by omega));exact⟨vs,v,ws,v2,iB.same az.same ar,af,iB.same az.same sT,ak,rfl,rfl⟩
 kq:=λi F H t x ai az e y=>by
  obtain⟨p,v,v2,aC,rfl,rfl,uU,o8⟩:=y;have aS:=(fC.mp e).1;simp only[zC,List.length_zipWith] at aS;have uA:i<ts.length:=by omega
  have uB:i<us.length:=by omega
  obtain⟨kI,af,ak⟩:=(q.ext az).get (gT uA);obtain⟨ajI,bA,cP⟩:=(bb.ext az).get (gT uB);have gC:=uU vs (iB.same az.same ar);rw[af] at gC;cases gC;have sE:=o8 ws (iB.same az.same sT);rw[bA] at sE;cases sE;have aJ:=Ext.laid (o:=.tup [v,v2]) az.cj aC;refine⟨F,aJ,?_⟩;have bp:t=.tuple [ts[i],us[i]]:=by
   rw[zC,List.getElem?_zipWith,gT uA,gT uB] at e;exact (en e).symm
  subst bp;simp only[Rep];exact⟨p,_,rfl,de.of dI,bk.cons (ak.ext aJ) (bk.cons (cP.ext aJ) bk.nil)⟩
 stop:=λi F H az aw=>⟨vs,ws,iB.same az.same ar,iB.same az.same sT,rfl,rfl,by
  simp only[zC,List.length_zipWith] at aw;rw[<- q.length,<- bb.length];omega⟩
def RF{K:bl}{O F:aj->Prop}{H:aA}{t:T}{ts:List T}{v:V}(h:(match t with|.tuple ts=>some ts|.list ts=>some ts|_=>(none:Option (List T)))=some ts)(q:gr K O F H t v):∃(b:Bool) (a:aj) (vs:List V),v=.ref a/\(match b with|true=>eK H a (.lst vs)|false=>de K H a vs)/\bk K F H ts vs:=by
 split at h
 ·cases h
  obtain⟨a,vs,rfl,av,ar⟩:=q.tup;exact⟨false,a,vs,rfl,av,ar⟩
 ·cases h
  obtain⟨a,vs,rfl,av,ar⟩:=q.lst;exact⟨true,a,vs,rfl,av,ar⟩
 ·cases h
def ain(hm:X.mg "zip"=none)(ax:eo X a f)(ae:eo X b g)(br:fi X "zip":=by rfl)(av:bB [a,b] X.env=(false,eval a X.env)::bB [b] X.env:=by rfl)(ie:bB [b] X.env=(false,eval b X.env)::bB [] X.env:=by rfl)(hpl:(dR pos (bB [b] X.env)).any (·.1)=false:=by rfl):
  ud X (.Tuple es k fB) (.Call (.Name "zip" p) [a,b] [] pos) (wg (dv f) (dv g)):=zE (agY br hm (i7 ax (i7 ae lA ie) av) av hpl) λσ H R ⟨aB,aK,O,F,ε,ts,r,e,k⟩=>by
 simp only[wg,dv,dN,b5] at e;obtain⟨xs,⟨t,bp,aQ⟩,ys,⟨u,e4,a9⟩,rfl⟩:=e;refine⟨aB,aK,O,F,ε,_,r,bp,λv aX H1 aJ aO=>⟨aB,aK,O,aX,ε,_,r.ext aJ,e4,λw c0 ba bq bb=>?_⟩⟩;obtain⟨c3,a1,vs,rfl,ka,rf⟩:=RF aQ (aO.ext bq);obtain⟨dF,a2,ws,rfl,ie,sT⟩:=RF a9 bb;exact⟨c3,dF,a1,a2,vs,ws,rfl,iB.same (jC.refl _) ka,iB.same (jC.refl _) ie,k _ c0 ba (aJ.trans bq) (aeC bq.cj ka rf ie sT)⟩
def RP(ax:eo X a f)(ae:eo X b g):oC X (.BinOp a .Mult b pos) (ag n7 f g):=
 d7 (t5 Rb ax ae) λσ H Q ⟨aB,aK,O,F,ε,ts,r,e,k⟩=>by
  simp only[ag,b5] at e;obtain⟨x,ex,y,eQ,et⟩:=e;refine⟨aB,aK,O,F,ε,x,r,ex,λgK aX H1 aJ a3=>⟨aB,aK,O,aX,ε,y,r.ext aJ,eQ,λjt c0 ba bq bK=>?_⟩⟩;unfold n7 at et;split at et
  ·split at et <;> cases et
  next xs n=>
   split at et
   next aq=>
    cases et
    obtain⟨pV,vs,rfl,av,ar⟩:=(a3.ext bq).lst;rw[bK.int];refine⟨pV,n,vs,rfl,rfl,av,aq.1,aq.2.1,by rw[kQ,<- ar.length];exact aq.2.2,λq bt=>?_⟩;have d0:Ext c0 ba c0 (upd ba q (.lst (dW n.toNat vs).flatten)):=Ext.laid bq.cj bt;exact k q _ c0 _ ((aJ.trans bq).trans d0) ((aJ.trans bq).same.none bt) (λbX=>by
     obtain⟨o,et⟩:=bq.cj q bX;rw[bt] at et;cases et) dI ((bk.rep ar n.toNat).ext d0)
   next=>cases et
  ·cases et
end
end
section
variable [c2]
section
variable {X:bh}{cx iter elt:bf}{ifs:List bf}{scope:Scope}{it:jd}{fO:hv}{cc:e_}{fl:bD}{pos:Pos}{own:List Str}{caps:List (Nat×Str)}
def aeL{X':bh}{R:Result->aP->Prop}{J:kW}{bX:List aj}{s7 D:aj}{hn:Nat->b0->Prop}{aB O aX:aj->Prop}{aK:gq}{ba:aA}{ts ys:List T}(hx:X'.d1=λ_ _=>False)(aD:X'.calm=true)(br:kX X' cx fO)(aR:nJ X' ifs cc)(he:cf X' elt fl)
  (T:Turn X'.prog X'.w X'.K cx J bX s7 hn) (ob:∀ai:aA,(∀b∈bX,ai b=none)->∀b∈bX,mS X' [] ai b) (ok:t9 X'.K J aX ba ts) (wZ:ts.length<=big) (k3:ba D=none) (lM:¬O D) (F3:aK.h D=none)
  (fin:∀cn ai aI s1 vs,bo.Inv X' [] cn ai s1->Ext aX ba aI ai->ai D=some (.lst vs)->¬aI D->bk X'.K aI ai ys vs->R (.ok .next) s1)
  {s:aP} {σ:bo.St} {H:aA} {F:aj->Prop} {ε:Ev} (I:bo.Inv X' [] σ H s) (st:hn 0 s.heap) (fr:∀b∈bX,H b=none) (x:Ext aX ba F H) (r:cB X'.K aB aK O F H ε σ) (iZ:H D=some (.lst [])) (Ie:¬F D) (eQ:fS fO cc fl ts ε=some ys):
  codeAny (bR X'.prog X'.w) X'.A (.compLoop (.ListComp elt [⟨cx,iter,ifs,0⟩] scope pos) 0 (.ref s7) (.ref D) X'.env) R s:=by
 refine O6 (λn s'=>∃i cn ai aI ε' mh vs,n=ts.length - i/\i<=ts.length/\bo.Inv X' [] cn ai s'/\hn i s'.heap/\(∀b∈bX,ai b=none)/\Ext aX ba aI ai/\cB X'.K aB aK O aI ai ε' cn/\ai D=some (.lst vs)/\¬aI D/\bk X'.K aI ai mh vs/\mh.length<=i /\
  ∃rest,fS fO cc fl (ts.drop i) ε'=some rest/\ys=mh++rest) ?_ ts.length ⟨0,σ,H,F,ε,[],[],rfl,kP _,I,st,fr,x,r,iZ,Ie,bk.nil,el _,ys,by simpa using eQ,by simp⟩
 rintro n s3 ⟨i,kx,c_,hK,Lw,mh,vs,rfl,aS,ef,rr,q_,d0,hE,nT,ta,cQ,Gm,rest,dZ,es⟩;have gf:∀{kU:aj->Prop} {jF:aA} {iW:aj->Prop} {gY:aA} {o:eW},Ext kU jF iW gY->jF D=some o->¬kU D->¬iW D:=λy e n z=>by
  rcases y.new D z with q|q
  ·exact n q
  ·rw[e] at q;cases q
 by_cases eZ:i<ts.length
 ·have hd:ts.drop i=ts[i]::ts.drop (i+1):=List.drop_eq_getElem_cons eZ;have nV:ts[i]?=some ts[i]:=gT eZ;rw[hd] at dZ;simp only[fS,b5] at dZ;obtain⟨mQ,kC,b,c',dZ⟩:=dZ;refine gv (T.item X' rfl rfl rfl aD i [] s3 kx c_ (λ_ _=>False) ef (ob c_ q_) rr (ok.go i hK c_ _ d0 nV)) (λb9 s4 ⟨u,ar,cP⟩=>?_) λ_ _ z=>z;subst ar;refine gv cP (λ_ s5 ⟨kl,gY,pN,tg,ajS,oa,wR⟩=>?_) λ_ _ z=>z;obtain⟨iW,mC,a3⟩:=ok.kq i hK c_ _ kl gY d0 nV ajS;have wt:=pN.pinned (ob gY wR) (T.obj _ _ oa);have w5:=br _ s5 kx gY kl u (λjD nG=>nG=gY/\cB X'.K aB aK O iW gY mQ jD) wt tg ⟨aB,aK,O,iW,Lw,_,mQ,hE.ext mC,a3,kC,λjD oW=>⟨rfl,oW⟩⟩;rw[hx] at w5;refine gv w5 (λ_ dK ⟨jD,nG,ajW,q6,oW⟩=>?_) λ_ _ z=>z;subst q6;have again:∀{jE:bo.St} {fj:aA} {cG:aP},bo.Inv X' ([]++vW bX s5.heap) jE fj cG->hn (i+1) cG.heap/\(∀b∈bX,fj b=none)/\bo.Inv X' [] jE fj cG:=λ{jE fj cG} hc=>by
   refine⟨T.keep _ _ _ oa λb ae o e=>(hc.pin (b,o) (l0 _ (l0 _ (vr ae e)))).1,λb ae=>?_,hc.x7⟩
   obtain⟨o,e,d⟩:=T.obj _ _ oa b ae;exact (hc.pin (b,o) (l0 _ (l0 _ (vr ae e)))).2.1
  have xc:=aR _ dK jD nG (λoF fj=>oF=b/\∃j4,Ext iW nG j4 fj) ajW ⟨aB,aK,O,iW,mQ,b,oW,c',λj4 fj kJ=>⟨rfl,j4,kJ⟩⟩;rw[hx] at xc;refine gv xc (λIH cG ⟨fj,hc,q7,j4,kJ⟩=>?_) λ_ _ z=>z;subst q7;have og:=mC.trans kJ;have oX:=oW.ext kJ;cases IH with
  |false=>
   simp only[jU,if_false] at dZ ⊢;obtain⟨a1,a2,iC⟩:=again hc;exact⟨_,by omega,i+1,jD,fj,j4,mQ,mh,vs,rfl,eZ,iC,a1,a2,d0.trans og,oX,og.same.get nT,gf og nT ta,cQ.ext og,by omega,rest,dZ,es⟩
  |true=>
   simp only[if_true,b5,dN] at dZ ⊢;obtain⟨y,FD,I2,FA,rfl⟩:=dZ;have m5:=he _ cG jD fj (λv kV=>∃j5,Ext j4 fj j5 kV/\Rep X'.K j5 kV y v) hc ⟨aB,aK,O,j4,mQ,y,oX,FD,λv j5 kV lY tf=>⟨j5,lY,tf⟩⟩;rw[hx] at m5;refine gv m5 (λu8 cY ⟨mA,kV,DO,IW,j5,lY,tf⟩=>?_) λ_ _ z=>z;have qm:=og.trans lY;have sG:=qm.same.get nT;have tb:=gf qm nT ta;obtain⟨Ho,IX⟩:=(oX.ext lY).other (ys:=vs++[mA]) tb lM F3 sG;have ax:=CZ (X:=X') _ cY jD kV (.ref D) [mA] (.ref D) [u8] (λ_ wq=>wq=upd kV D (.lst (vs++[mA]))) DO rfl (.cons IW .nil) ⟨D,vs,mA,rfl,rfl,sG,by rw[kQ,<- cQ.length];omega,rfl⟩;rw[hx] at ax;refine gv ax (λu9 dV ⟨v9,wq,DP,abe,q8⟩=>?_) λ_ _ z=>z;subst q8;obtain⟨a1,a2,iC⟩:=again DP;have o5:Ext aX ba j5 (upd kV D (.lst (vs++[mA]))):=by
    have y:=d0.trans qm;refine⟨λb o e=>?_,y.sub,y.new,⟨λb f=>?_,y.cj.oc.upd λu e=>.inl ⟨_,en (e.symm.trans sG)⟩⟩⟩
    ·have nb:b≠D:=by
      rintro rfl;rw[k3] at e;cases e
     rw[cI nb];exact y.same b o e
    ·have nb:b≠D:=by
      rintro rfl;exact tb f
     rw[cI nb];exact y.cj b f
   refine⟨_,by omega,i+1,jD,_,j5,mQ,mh++[y],vs++[mA],rfl,eZ,iC,a1,a2,o5,IX,dI,tb,((cQ.ext qm).append (bk.cons tf bk.nil)).az Ho,by simp;omega,I2,FA,by rw[es];simp⟩
 ·have hd:ts.drop i=[]:=List.drop_eq_nil_of_le (by omega);rw[hd] at dZ;cases dZ;refine gv (T.done X' rfl rfl rfl aD i [] s3 kx c_ (λ_ _=>False) ef (ob c_ q_) rr (ok.stop i hK c_ d0 (by omega))) (λb9 s4 ⟨ar,iy⟩=>?_) λ_ _ z=>z;subst ar;exact fin kx c_ hK s4 vs iy d0 nT ta (by rw[es,mE];exact cQ)
def afz{use:Option (ao->Sem Unit)}{Q:ao->aP->Prop}{fB:Pos}(S:oz X scope own caps)(aS:ud X cx iter it)
  (br:∀cl C c7 aK bX dp,kX (gm X (own++caps.map (·.2)) scope cl C c7 aK bX dp) cx fO)
  (aR:∀cl C c7 aK bX dp,nJ (gm X (own++caps.map (·.2)) scope cl C c7 aK bX dp) ifs cc)
  (he:∀cl C c7 aK bX dp,cf (gm X (own++caps.map (·.2)) scope cl C c7 aK bX dp) elt fl)
  (av:∀x,pf iter X.env x=pure x) {ah:List (aj×Obj)} {s:aP} {σ:bo.St} {H:aA} {aB O F:aj->Prop} {aK:gq} {ε:Ev} {ys:List T} (I:bo.Inv X ah σ H s) (r:cB X.K aB aK O F H ε σ)
  (e:comp own.length (caps.map (·.1)) it fO cc fl ε=some (.list ys)) (fin:∀D C ai aI s1 vs,After X ah σ F H ys D C ai aI s1 vs->compPost (bR X.prog X.w) X.A X.d1 use Q (.ref D) C (.ok .next) s1):
  bG (bR X.prog X.w) X.A (comprehension (.ListComp elt [⟨cx,iter,ifs,0⟩] scope pos) scope X.env fB (newList []) false (eval iter X.env) use) Q X.d1 s:=by
 simp only[comp,b5] at e;obtain⟨ts,bp,e⟩:=e;split at e
 case isFalse=>cases e
 next wZ=>
 simp only[dN] at e;obtain⟨ac4,eQ,e⟩:=e;cases e;have p3:∀x∈scope.names,x.2=.free->∃c,X.env.cells.lookup x.1=some c:=λx hx aH=>I.ok.has x.1 (S.free x hx aH);refine wpAny_comprehension_free rfl av (OZ p3) S.kind S.names (ct (aS ah s σ H (λJ H1=>∃aX,Ext F H aX H1/\t9 X.K J aX H1 ts) I ⟨aB,aK,O,F,ε,ts,r,bp,λJ aX H1 aJ ok=>⟨aX,aJ,ok⟩⟩) λv s1 af=>ct af λA1 s2 ak=>?_);obtain⟨s7,bX,hn,J,ba,rfl,ck,T,js,f2,aX,aJ,ok⟩:=ak;have gD:∀b∈bX,b<s2.heap.objs.size:=λb ae=>by
  obtain⟨o,aE,_⟩:=T.obj 0 _ js b ae;exact c8 aE
 have k3:ba s2.heap.objs.size=none:=ck.fresh;have iZ:H s2.heap.objs.size=none:=aJ.same.none k3;have i4:(s2.heap.push {cls:=.type "list",data:=.seq ([]:List ao).toArray}).objs.size=s2.heap.objs.size+1:=kL ..;refine wpAny_newList ?_ (kP _);refine wpAny_newFunctionEnv S.cell (by intro y bL;simp at bL) (λgE Gn Gw=>?_) S.kind;have keep:∀b u,(s2.heap.push {cls:=.type "list",data:=.seq ([]:List ao).toArray}).get? b=some u->gE.get? b=some u:=λb u e=>Gw.extBut b u (fD (c8 e)) (dq _ e);have iy:=QQ (tk:=s2.toks+0) S ck f2 gD Gn keep;have lT:=(r.ext aJ).z8 (D:=s2.heap.objs.size) own.length S.aW k3;refine codeAny_compStart_list ?loop (T.self _ 0 _ _ _ (T.keep 0 _ _ js λb ae o e=>keep b o (dq _ e)) ?loop);refine aeL (X':=gm X (own++caps.map (·.2)) scope (j8 X.env scope.names []) (s2.heap.push {cls:=.type "list",data:=.seq ([]:List ao).toArray}).objs.size {s2 with heap:=s2.heap.push {cls:=.type "list",data:=.seq ([]:List ao).toArray} } (upd ba s2.heap.objs.size (.lst [])) bX (X.dp++ah))
  rfl S.calm (br _ _ _ _ _ _) (aR _ _ _ _ _ _) (he _ _ _ _ _ _) T (λai a8 b ae=>?_) ok wZ k3 (λz=>z.2 rfl) (r.o0 _ (r.fr _ iZ)) (λcn ai aI s1 vs sd kl F2 Ig ed=>?_) iy (T.keep 0 _ _ js λb ae o e=>keep b o (dq _ e)) (λb ae=>?_) (Ext.laid aJ.cj k3) lT dI ?_ eQ
 ·have td:=K5 S ck f2 gD (own++caps.map (·.2));refine⟨a8 b ae,(td.uv b ae).1,td.uw b ae,.inl ae,λx c e=>(td.uv b ae).2 x c e,λp aC=>?_⟩;have nY:p∈X.dp++ah:=by simpa [gm] using aC
  exact (f2 b ae).2.2.2.2.2 p nY
 ·obtain⟨m,a8,_⟩:=id sd.loc;refine fin s2.heap.objs.size _ ai aI s1 vs ⟨λh' gR=>PF ck f2 sd gR,⟨m,a8⟩,sd.free,?_,λx c e z=>?_,λp aC z=>?_,?_,iZ,aJ.trans kl,Ig,F2,ed⟩
  ·rw[i4];exact Nat.le_succ_of_le ck.i4
  ·obtain⟨v,q⟩:=ck.cell x c e;have:=q.lt;rw[z,i4] at this;exact absurd this (Nat.not_lt.mpr (pa _))
  ·have:=c8 (ck.pin p aC).1;rw[z,i4] at this;exact absurd this (Nat.not_lt.mpr (pa _))
  ·have:=ck.lt;rw[i4];exact hY (Nat.lt_succ_of_lt this)
 ·have:=(f2 b ae).1;rw[cI (fD (gD b ae))];exact this
 ·intro z;obtain⟨o,e⟩:=aJ.cj _ z;rw[k3] at e;cases e
def agO(S:oz X scope own caps)(aS:ud X cx iter it)
  (br:∀cl C c7 aK bX dp,kX (gm X (own++caps.map (·.2)) scope cl C c7 aK bX dp) cx fO)
  (aR:∀cl C c7 aK bX dp,nJ (gm X (own++caps.map (·.2)) scope cl C c7 aK bX dp) ifs cc)
  (he:∀cl C c7 aK bX dp,cf (gm X (own++caps.map (·.2)) scope cl C c7 aK bX dp) elt fl)
  (av:∀x,pf iter X.env x=pure x:=by intro _;rfl):oC X (.ListComp elt [⟨cx,iter,ifs,0⟩] scope pos) (comp own.length (caps.map (·.1)) it fO cc fl):=by
 intro ah s σ H Q I ⟨aB,aK,O,F,ε,ys,r,e,k⟩;rw[eval_ListComp];refine afz S aS br aR he av I r e λD C ai aI s1 vs a=>?_;obtain⟨m,a8⟩:=a.ns;exact⟨m,a8,λh' gR=>⟨.ref D,ai,a.inv h' gR,rfl,k D vs aI ai a.ext a.new a.gf a.lst a.rep⟩⟩
def afZ(S:oz X scope own caps)(aS:ud X cx iter it)
  (br:∀cl C c7 aK bX dp,kX (gm X (own++caps.map (·.2)) scope cl C c7 aK bX dp) cx fO)
  (aR:∀cl C c7 aK bX dp,nJ (gm X (own++caps.map (·.2)) scope cl C c7 aK bX dp) ifs cc)
  (he:∀cl C c7 aK bX dp,cf (gm X (own++caps.map (·.2)) scope cl C c7 aK bX dp) elt fl)
  (av:∀x,pf iter X.env x=pure x:=by intro _;rfl):cf X (.ListComp elt [⟨cx,iter,ifs,0⟩] scope pos) (comp own.length (caps.map (·.1)) it fO cc fl):=
 Ic (agO S aS br aR he av) λε t e=>Kj e
end
section
variable {X:bh}
def aeD{K:bl}{a:aj}{aX:aj->Prop}{H1:aA}{ts:List T}{vs:List V}(ar:eK H1 a (.lst vs))(q:bk K aX H1 ts vs):t9 K (zV K a) aX H1 ts where
 go:=λi F H t az e=>by
  obtain⟨v,af,_⟩:=q.get e;exact⟨vs,v,.inl (eK.same az.same ar),af⟩
 kq:=λi F H t x ai az e y=>by
  obtain⟨rfl,y⟩:=y;obtain⟨v,af,ak⟩:=(q.ext az).get e;have:=y vs (.inl (eK.same az.same ar));rw[af] at this;cases this;exact⟨F,Ext.refl az.cj,ak⟩
 stop:=λi F H az aw=>⟨vs,.inl (eK.same az.same ar),by rw[<- q.length];exact aw⟩
def afs{K:bl}{a:aj}{aX:aj->Prop}{H1:aA}{ts:List T}{vs:List V}(ar:de K H1 a vs)(q:bk K aX H1 ts vs):t9 K (zX K a) aX H1 ts where
 go:=λi F H t az e=>by
  obtain⟨v,af,_⟩:=q.get e;exact⟨vs,v,de.same az.same ar,af⟩
 kq:=λi F H t x ai az e y=>by
  obtain⟨rfl,y⟩:=y;obtain⟨v,af,ak⟩:=(q.ext az).get e;have:=y vs (de.same az.same ar);rw[af] at this;cases this;exact⟨F,Ext.refl az.cj,ak⟩
 stop:=λi F H az aw=>⟨vs,de.same az.same ar,by rw[<- q.length];exact aw⟩
def aio{cx l:bf}{f:bD}(aw:eo X l f):ud X cx l (dv f):=zE (Sr aw) λσ H R ⟨aB,aK,O,F,ε,ts,r,e,k⟩=>by
 simp only[dv,b5] at e;obtain⟨t,bp,e⟩:=e;split at e
 ·cases e
  refine⟨aB,aK,O,F,ε,_,r,bp,λv aI ai x q=>?_⟩
  obtain⟨a,vs,rfl,av,ar⟩:=q.tup;exact⟨a,rfl,.inr ⟨⟨vs,av⟩,k _ aI ai x (afs av ar)⟩⟩
 ·cases e
  refine⟨aB,aK,O,F,ε,_,r,bp,λv aI ai x q=>?_⟩
  obtain⟨a,vs,rfl,av,ar⟩:=q.lst;exact⟨a,rfl,.inl ⟨⟨vs,.inl av⟩,k _ aI ai x (aeD av ar)⟩⟩
 ·cases e
end
section
variable {P:cR}{w:cu}{K:bl}{mg:Str->Option ao}{base:b0}
def ahn{x:Str}{st:Stmt}{f:aj}{fd:gj}{N ps:List Str}{k:Nat}{b:bu}(F:c1 K x x st f fd)(S:dc N ps (cp st))(bd:Binds K fd ps [])(m:mg x=some (.ref f))
  (ae:∀(cW:ao) (A:c9) (outer:List Env) (s:aP) (H:aA) (E:gN),d4 k (A.deeper (envOfC x (cp st) s.heap.objs.size f cW)) ->
   qX (jL ajN P w K mg base N x (cp st) f cW A outer s H E).kG (jx st) b):nE P w K mg base x (k+1) ps.length (oY b N.length):=Sf F S bd m λcW A outer s H E ar=>(ae cW A outer s H E ar).h
end
section
variable {X:bh}{c:Nat}{lR:List Str}{keys:List (Option bf)}{values:List bf}{es:List (Bool×bD)}{pos oH:Pos}
def ahu(j:Nat){y:Str}{pos':Pos}(k:hu c lR)(e5:X.N.Nodup)(h:si X oH keys values lR es)(aS:X.N[j]?=some y:=by rfl)(hx:Loc X.env.scope y:=by first|exact Or.inl rfl|exact Or.inr rfl)
  (av:i6 (.Dict keys values oH) (some (.Name y pos')) pos.line X.env=pure false:=by rfl) (hf:X.fn y=true\/X.env.scope.names.lookup y=some .local:=by first|exact .inl rfl|exact .inr rfl)
  (hle:es.length<=lR.length:=by decide) (sJ:keys.all (·.isSome)=true:=by rfl) (aw:keys.length=values.length:=by rfl) (h0:keys≠[]:=by exact List.cons_ne_nil _ _) (wX:keys.length<=15:=by decide):
  ue X (.Assign [.Name y pos'] (.Dict keys values oH) pos) (pT j (xC c es)):=⟨Lb j e5 (ah_ k h hle sJ aw h0 wX) aS hx av hf⟩
end
end
end D
end
section
namespace a'
open D
noncomputable def Qj:bu:=
  (seq (g4 (dv (ag aN (nm 0) (aa (.int 0)))) (bH 2) (iff (a0 (ag oEq (ag aN (nm 2) (aa (.int 0))) (nm 1))) (cX (ag aN (nm 2) (aa (.int 1)))) skip))
  never)
def tM:List T->Option T:=eI Qj 3
noncomputable def Rv:bu:=
  (seq (asg 1 (bV gy [(comp 1 [] (dv (ag aN (nm 0) (aa (.int 0)))) (bH 0) (er true) (aa (.str "shut")))])) (seq (asg 2 (bV gy [(comp 1 [] (dv (ag aN (nm 0) (aa (.int 1)))) (bH 0) (er true) (aa (.int 0)))])) (cX (b1 [(aa (.str "off")),(aa (.int 0)),(aa .none),(aL 1),(b1 []),(aa (.int 0)),(b1 []),(aa (.int 0)),(aa (.int 0)),(aL 2)]))))
def zt:List T->Option T:=eI Rv 3
noncomputable def Qk:bu:=
  (seq (g4 (dv (ag aN (nm 0) (aa (.int 1)))) (bH 2) (iff (a0 (ag oEq (ag aN (nm 2) (aa (.int 0))) (nm 1))) (cX (nm 2)) skip)) (cX (aa .none)))
def y9:List T->Option T:=eI Qk 3
def PH:bu:=
  (cX (bV lS [(ag ke (nm 0) (nm 1)),(aa (.int 0))]))
def ajZ:List T->Option T:=eI PH 2
noncomputable def OL:bu:=
  (seq (cy 0 0 0 (aL 1)) (seq (cy 0 0 1 (ag aN (nm 2) (aa (.int 0)))) (seq (cy 0 0 2 (ag aN (nm 2) (aa (.int 1)))) (seq (cy 0 0 3 (ag aN (nm 2) (aa (.int 2)))) (seq (wk 0 0 4 (comp 1 [] (dv (ag aN (nm 1) (aa (.int 0)))) (bH 0) (er true) (ag aN (nm 0) (aa (.int 0)))) (ag aN (nm 2) (aa (.int 3)))) (seq (ha 0 0 5 (fo vZ (ag aN (nm 2) (aa (.int 4))))) (seq (cy 0 0 6 (ag aN (nm 2) (aa (.int 5)))) (seq (ha 0 0 7 (fo vZ (ag aN (nm 2) (aa (.int 6))))) (seq (cy 0 0 8 (ag aN (nm 2) (aa (.int 7)))) (seq (cy 0 0 9 (ag aN (nm 2) (aa (.int 8)))) (seq (wk 0 0 10 (comp 1 [] (dv (ag aN (nm 1) (aa (.int 1)))) (bH 0) (er true) (ag aN (nm 0) (aa (.int 0)))) (ag aN (nm 2) (aa (.int 9)))) (seq (cy 0 0 11 (aa (.int 0))) (ha 0 0 12 (eU []))))))))))))))
def yk:List aM->Option (T×List aM):=runM 0 0 OL 3
noncomputable def OV:bu:=
  (seq (asg 1 (zM 0 0 4)) (seq (asg 2 (bV gy [(fld 0 0 5)])) (seq (asg 3 (bV gy [(fld 0 0 7)])) (seq (asg 4 (zM 0 0 10)) (cX (b1 [(eR 0 0 1),(eR 0 0 2),(eR 0 0 3),(aL 1),(aL 2),(eR 0 0 6),(aL 3),(eR 0 0 8),(eR 0 0 9),(aL 4)]))))))
def yq:List aM->Option T:=iQ OV 5
def O0:bu:=
  (jI 0 0 12 (b1 [(eR 0 0 11),(aL 1),(aL 2)]))
def gw:List aM->Option (T×List aM):=runM 0 0 O0 3
noncomputable def OO:bu:=
  (cy 0 0 6 (ag aN (ag aN (fld 0 0 0) (aa (.int 2))) (aa (.int 2))))
def tD:List aM->Option (T×List aM):=runM 0 0 OO 1
noncomputable def JM:bu:=
  (seq (cq (dS 0 tD 0 [])) (iff (a0 (ag (dj true) (nm 1) (fld 0 0 7))) (seq (jI 0 0 7 (aL 1)) (cq (dS 0 gw 0 [(aa (.str "alarm")),(aL 1)]))) skip))
def l5:List aM->Option (T×List aM):=runM 0 0 JM 2
noncomputable def Cs:bu:=
  (seq (iff (eY (a0 (ag fQ (nm 2) (aa (.str "way")))) (a0 (ag oLe (ag aN (ag aN (fld 0 0 0) (aa (.int 2))) (aa (.int 1))) (aa (.int 0))))) (seq (cq (dS 0 l5 0 [(aL 1)]))
  mO) skip) (seq (cy 0 0 1 (aa (.str "coming"))) (seq (cy 0 0 2 (ag aN (ag aN (fld 0 0 0) (aa (.int 2))) (aa (.int 1)))) (seq (cy 0 0 3 (aL 1)) (cq (dS 0 gw 0 [(aa (.str "coming")),(aL 1)]))))))
def tC:List aM->Option (T×List aM):=runM 0 0 Cs 3
noncomputable def ON:bu:=
  (seq (asg 3 (bV tM [(eR 0 0 0),(aL 1)])) (iff (a0 (ag oEq (nm 3) (aa (.str "day")))) (cq (dS 0 l5 0 [(aL 1)])) (iff (a0 (ag oEq (fld 0 0 1) (aa (.str "off")))) (iff (a0 (ag oEq (nm 2) (aa (.str "cut")))) (cq (dS 0 gw 0 [(aa (.str "fault")),(aL 1)])) skip) (iff (eY (a0 (ag oEq (nm 2) (aa (.str "cut")))) (a0 (ag oEq (nm 3) (aa (.str "once"))))) (cq (dS 0 l5 0 [(aL 1)])) (iff (a0 (ag oEq (fld 0 0 1) (aa (.str "on")))) (cq (dS 0 tC 0 [(aL 1),(aL 3)])) skip)))))
def yl:List aM->Option (T×List aM):=runM 0 0 ON 4
noncomputable def O1:bu:=
  (seq (asg 3 (k1 0 0 4 (nm 1))) (seq (iff (a0 (ag oEq (nm 2) (nm 3))) mO skip) (seq (ajQ 0 0 4 (nm 1) (aL 2)) (iff (a0 (ag oEq (nm 2) (aa (.str "shut")))) (iff (a0 (ag oEq (nm 3) (aa (.str "cut")))) (cq (dS 0 gw 0 [(aa (.str "mended")),(aL 1)])) skip) (iff (a0 (ag (dj true) (nm 1) (fld 0 0 5))) (cq (dS 0 yl 0 [(aL 1),(aL 2)])) skip)))))
def yz:List aM->Option (T×List aM):=runM 0 0 O1 4
noncomputable def Jz:bu:=
  (cX (jf (ag fQ (ag aN (nm 1) (aa (.int 3))) (aa (.int 0))) (ag rl (k1 0 0 10 (ag aN (nm 1) (aa (.int 0)))) (ag aN (nm 1) (aa (.int 3))))))
def aj4:List aM->Option T:=iQ Jz 2
noncomputable def Jx:bu:=
  (seq (cq (dS 0 gw 0 [(aa (.str "wrong")),(aa .none)])) (seq (mf 0 0 8 (aa (.int 1))) (iff (a0 (ag rl (fld 0 0 8) (aa (.int 3)))) (seq (cy 0 0 8 (aa (.int 0))) (seq (cy 0 0 9 (aa (.int 90))) (seq (cq (dS 0 tD 0 [])) (cq (dS 0 gw 0 [(aa (.str "attack")),(aa .none)]))))) skip)))
def u6:List aM->Option (T×List aM):=runM 0 0 Jx 1
noncomputable def tx:bu:=
  (seq (iff (a0 (ag oEq (nm 1) (aa (.str "unset")))) (cX (aa (.bool false))) skip) (seq (iff (a0 (ag fQ (fld 0 0 1) (aa (.str "off")))) (cX (aa (.bool true))) skip) (seq (iff (a0 (ag oEq (nm 1) (aa (.str "shunt")))) (cX (i3 (ag oEq (bV tM [(eR 0 0 0),(aL 2)]) (aa (.str "day"))) (ag (dj false) (nm 2) (fld 0 0 5)))) skip) (cX (jf (ag oEq (nm 1) (aa (.str "free"))) (ag (dj true) (nm 2) (fld 0 0 5)))))))
def ph:List aM->Option T:=iQ tx 3
noncomputable def OI:bu:=
  (seq (asg 2 (comp 1 [1] (dv (ag aN (fld 0 0 0) (aa (.int 0)))) (bH 0) (a0 (ag (dj false) (ag aN (nm 0) (aa (.int 1))) (nm 1))) (ag aN (nm 0) (aa (.int 0))))) (cX (comp 1 [0] (dv (aL 2)) (bH 0) (eb (a0 (ag fQ (k1 0 1 4 (nm 0)) (aa (.str "shut")))) (a0 (ag (dj true) (nm 0) (fld 0 1 5)))) (aL 0))))
def tB:List aM->Option T:=iQ OI 3
noncomputable def OA:bu:=
  (seq (asg 4 (mu (a0 (ag oEq (nm 2) (aa (.str "free")))) (aa (.str "shunt")) (aL 2))) (seq (iff (a0 (ag (dj true) (nm 4) (ag aN (nm 1) (aa (.int 2))))) (cX (b1 [(aa (.str "denied")),(ag aN (nm 1) (aa (.int 1)))])) skip) (seq (iff (a0 (kR 0 ph 0 [(aL 2),(aL 3)])) (cX (b1 [(aa (.str "no")),(ag aN (nm 1) (aa (.int 1)))])) skip) (seq (asg 5 (kR 0 tB 0 [(aa (.tuple (jZ ["day","once"])))])) (seq (iff (eb (a0 (ag oEq (nm 2) (aa (.str "set")))) (ip (nm 5))) (cX (b1 [(aa (.str "open")),(ag aN (nm 5) (aa (.int 0)))])) skip) (cX (aa .none)))))))
def ye:List aM->Option T:=iQ OA 6
noncomputable def OF:bu:=
  (seq (cy 0 0 1 (aa (.str "on"))) (seq (cy 0 0 2 (aa (.int 0))) (seq (cq (dS 0 gw 0 [(aa (.str "on")),(aa .none)])) (g4 (dv (kR 0 tB 0 [(aa (.tuple (jZ ["inner","way"])))])) (bH 1) (cq (dS 0 l5 0 [(aL 1)]))))))
def tw:List aM->Option (T×List aM):=runM 0 0 OF 2
noncomputable def JJ:bu:=
  (seq (ha 0 0 7 (eU [])) (seq (cy 0 0 6 (aa (.int 0))) (seq (cy 0 0 1 (aa (.str "leaving"))) (seq (cy 0 0 2 (ag aN (ag aN (fld 0 0 0) (aa (.int 2))) (aa (.int 0)))) (seq (cq (dS 0 gw 0 [(aa (.str "set")),(aL 1)])) (iff (a0 (ag oLe (fld 0 0 2) (aa (.int 0)))) (cq (dS 0 tw 0 [])) skip))))))
def vc:List aM->Option (T×List aM):=runM 0 0 JJ 2
noncomputable def OK:bu:=
  (seq (cy 0 0 1 (aa (.str "off"))) (seq (cy 0 0 2 (aa (.int 0))) (seq (cy 0 0 6 (aa (.int 0))) (seq (cy 0 0 3 (aa .none)) (seq (ha 0 0 5 (eU [])) (cq (dS 0 gw 0 [(aa (.str "unset")),(aL 1)])))))))
def yj:List aM->Option (T×List aM):=runM 0 0 OK 2
noncomputable def yn:bu:=
  (iff (a0 (ag oEq (nm 2) (aa (.str "set")))) (cq (dS 0 vc 0 [(aL 1)])) (iff (a0 (ag oEq (nm 2) (aa (.str "unset")))) (cq (dS 0 yj 0 [(aL 1)])) (iff (a0 (ag oEq (nm 2) (aa (.str "shunt")))) (seq (ha 0 0 5 (fo C7 (ag cV (fld 0 0 5) (eU [(aL 3)])))) (cq (dS 0 gw 0 [(aa (.str "shunt")),(aL 3)]))) (seq (rp 0 0 5 (aL 3)) (cq (dS 0 gw 0 [(aa (.str "free")),(aL 3)]))))))
def rD:List aM->Option (T×List aM):=runM 0 0 yn 4
noncomputable def Jy:bu:=
  (seq (asg 4 (kR 0 ye 0 [(aL 1),(aL 2),(aL 3)])) (iff (a0 (fo hR (nm 4))) (seq (nB 0 0 10 (ag aN (nm 1) (aa (.int 0))) (aa (.int 1))) (cq (dS 0 rD 0 [(ag aN (nm 1) (aa (.int 1))),(aL 2),(aL 3)]))) (cq (dS 0 gw 0 [(ag aN (nm 4) (aa (.int 0))),(ag aN (nm 4) (aa (.int 1)))]))))
def u7:List aM->Option (T×List aM):=runM 0 0 Jy 5
noncomputable def yA:bu:=
  (seq (asg 4 (bV y9 [(eR 0 0 0),(aL 1)])) (iff (a0 (ag hD (fld 0 0 9) (aa (.int 0)))) (cq (dS 0 gw 0 [(aa (.str "locked")),(aa .none)])) (iff (eY (a0 (fo hR (nm 4))) (a0 (kR 0 aj4 0 [(aL 4)]))) (cq (dS 0 u6 0 [])) (seq (cy 0 0 8 (aa (.int 0))) (cq (dS 0 u7 0 [(aL 4),(aL 2),(aL 3)]))))))
def rH:List aM->Option (T×List aM):=runM 0 0 yA 5
noncomputable def OH:bu:=
  (seq (mf 0 0 11 (aL 1)) (seq (cy 0 0 9 (bV ajZ [(eR 0 0 9),(aL 1)])) (seq (cy 0 0 6 (bV ajZ [(eR 0 0 6),(aL 1)])) (cy 0 0 2 (bV ajZ [(eR 0 0 2),(aL 1)])))))
def tA:List aM->Option (T×List aM):=runM 0 0 OH 2
noncomputable def OG:bu:=
  (seq (asg 1 (eR 0 0 3)) (seq (cy 0 0 1 (aa (.str "on"))) (seq (cy 0 0 3 (aa .none)) (cq (dS 0 l5 0 [(aL 1)])))))
def yg:List aM->Option (T×List aM):=runM 0 0 OG 2
noncomputable def JD:bu:=
  (iff (a0 (ag oEq (fld 0 0 1) (aa (.str "leaving")))) (cq (dS 0 tw 0 [])) (cq (dS 0 yg 0 [])))
def u':List aM->Option (T×List aM):=runM 0 0 JD 1
noncomputable def yr:bu:=
  (seq (iff (a0 (ag oLt (nm 1) (aa (.int 1)))) mO skip) (iff (eb (a0 (ag (dj false) (fld 0 0 1) (b1 [(aa (.str "leaving")),(aa (.str "coming"))]))) (a0 (ag oLe (fld 0 0 2) (nm 1)))) (seq (asg 2 (ag ke (nm 1) (fld 0 0 2))) (seq (cq (dS 0 tA 0 [(eR 0 0 2)])) (seq (cq (dS 0 u' 0 [])) (cq (dS 0 tA 0 [(aL 2)]))))) (cq (dS 0 tA 0 [(aL 1)]))))
def rF:List aM->Option (T×List aM):=runM 0 0 yr 3
noncomputable def Cv:bu:=
  (iff (a0 (ag oEq (ag aN (nm 1) (aa (.int 0))) (aa (.str "line")))) (cq (dS 0 yz 0 [(ag aN (nm 1) (aa (.int 1))),(ag aN (nm 1) (aa (.int 2)))])) (iff (a0 (ag oEq (ag aN (nm 1) (aa (.int 0))) (aa (.str "code")))) (cq (dS 0 rH 0 [(ag aN (nm 1) (aa (.int 1))),(ag aN (nm 1) (aa (.int 2))),(ag aN (nm 1) (aa (.int 3)))])) (cq (dS 0 rF 0 [(ag aN (nm 1) (aa (.int 1)))]))))
def rE:List aM->Option (T×List aM):=runM 0 0 Cv 2
noncomputable def JX:bu:=
  (seq (pT 3 (Bv 0 yk [(aL 0),(aL 1)])) (seq (g4 (dv (aL 2)) (bH 4) (cq (dS 0 rE 3 [(aL 4)]))) (th 3)))
def rM:List T->Option aM:=oY JX 5
end a'
end
section
namespace a'
open D a'
noncomputable def Sh:bu:=
  (cX (BA 0 yq (r6 rM [(aL 0),(aL 1),(b1 [(aL 2)])]) []))
def v7:List T->Option T:=eI Sh 3
noncomputable def Rt:bu:=
  (cX (bV gy [(comp 3 [] (dv (Dl 0 12 (r6 rM [(aL 0),(aL 1),(b1 [(aL 2)])]))) (di [(bH 0),(bH 1),(bH 2)]) (er true) (b1 [(aL 1),(aL 2)]))]))
def vO:List T->Option T:=eI Rt 3
noncomputable def ajY:bu:=
  (seq (iff (a0 (ag oLt (nm 1) (bV hS [(nm 0)]))) (cX (ag aN (nm 0) (nm 1))) skip) (cX (aa (.int 0))))
def mJ:List T->Option T:=eI ajY 2
noncomputable def tP:bu:=
  (seq (asg 2 (ag oMod (ag d8 (ag cV (ag cV (bV mJ [(aL 0),(aL 1)]) (ag d8 (aa (.int 7919)) (nm 1))) (aa (.int 1))) (aa (.int 48271))) (aa (.int 2147483647)))) (cX (ag oMod (ag cV (ag cV (ag d8 (nm 2) (nm 2)) (ag d8 (aa (.int 7)) (nm 2))) (nm 1)) (aa (.int 2147483629)))))
def oo:List T->Option T:=eI tP 3
noncomputable def tQ:bu:=
  (seq (asg 2 (ag oMod (ag d8 (ag cV (ag cV (nm 0) (ag d8 (aa (.int 104729)) (nm 1))) (aa (.int 17))) (aa (.int 69621))) (aa (.int 2147483647)))) (cX (ag oMod (ag cV (ag cV (ag d8 (nm 2) (nm 2)) (ag d8 (aa (.int 3)) (nm 2))) (nm 1)) (aa (.int 2147483629)))))
def jW:List T->Option T:=eI tQ 3
noncomputable def agv:bu:=
  (seq (asg 1 (b1 [])) (seq (g4 (jY (j0 (b1 [(aa (.str "a")),(aa (.str "b")),(aa (.str "back")),(aa (.str "d")),(aa (.str "hall")),(aa (.str "r")),(aa (.str "win")),(aa (.str "z"))]))) (di [(bH 2),(bH 3)]) (seq (asg 4 (ag oDiv (bV jW [(aL 0),(aL 2)]) (aa (.int 4)))) (iff (eY (a0 (ag oLt (ag oMod (nm 4) (aa (.int 8))) (ag cV (aa (.int 3)) (ag oMod (nm 0) (aa (.int 5)))))) (a0 (ag oEq (nm 2) (ag oMod (ag oDiv (nm 0) (aa (.int 8))) (aa (.int 8)))))) (asg 1 (ag cV (nm 1) (b1 [(b1 [(aL 3),(ag aN (b1 [(aa (.str "day")),(aa (.str "inner")),(aa (.str "once")),(aa (.str "way")),(aa (.str "way"))]) (ag oMod (ag oDiv (nm 4) (aa (.int 8))) (aa (.int 5))))])]))) skip))) (seq (asg 5 (b1 [])) (seq (g4 (jY (j0 (b1 [(aa (.str "0000")),(aa (.str "1234")),(aa (.str "4321")),(aa (.str "7777")),(aa (.str "9990")),(aa (.str "9999"))]))) (di [(bH 2),(bH 6)]) (seq (asg 4 (ag oDiv (bV jW [(aL 0),(ag cV (aa (.int 10)) (nm 2))]) (aa (.int 4)))) (iff (eY (a0 (ag hD (ag oMod (nm 4) (aa (.int 3))) (aa (.int 0)))) (a0 (ag oEq (nm 2) (aa (.int 1))))) (seq (asg 7 (bV gy [(comp 1 [4] (l9 (aa (.int 3))) (bH 0) (a0 (ag hD (ag oMod (ag oDiv (nm 1) (ag aN (b1 [(aa (.int 4)),(aa (.int 16)),(aa (.int 64))]) (nm 0))) (aa (.int 4))) (aa (.int 0)))) (ag aN (b1 [(aa (.str "set")),(aa (.str "shunt")),(aa (.str "unset"))]) (nm 0)))])) (seq (asg 8 (ag aN (b1 [(aa (.str "ann")),(aa (.str "bo")),(aa (.str "cy"))]) (ag oMod (ag oDiv (nm 4) (aa (.int 256))) (aa (.int 3))))) (asg 5 (ag cV (nm 5) (b1 [(b1 [(aL 6),(aL 8),(aL 7),(ag aN (b1 [(aa (.int 0)),(aa (.int 0)),(aa (.int 1)),(aa (.int 2)),(aa (.int 9))]) (ag oMod (ag oDiv (nm 4) (aa (.int 1024))) (aa (.int 5))))])]))))) skip))) (seq (asg 4 (ag oDiv (bV jW [(aL 0),(aa (.int 20))]) (aa (.int 4)))) (seq (asg 9 (b1 [(ag aN (b1 [(aa (.int 0)),(aa (.int 5)),(aa (.int 30)),(aa (.int 60))]) (ag oMod (nm 4) (aa (.int 4)))),(ag aN (b1 [(aa (.int 0)),(aa (.int 4)),(aa (.int 20)),(aa (.int 60))]) (ag oMod (ag oDiv (nm 4) (aa (.int 4))) (aa (.int 4)))),(ag aN (b1 [(aa (.int 1)),(aa (.int 9)),(aa (.int 120)),(aa (.int 300))]) (ag oMod (ag oDiv (nm 4) (aa (.int 16))) (aa (.int 4))))])) (cX (b1 [(aL 1),(aL 5),(aL 9)]))))))))
def C9:List T->Option T:=eI agv 10
noncomputable def Qi:bu:=
  (seq (asg 2 (ag aN (ag aN (ag aN (nm 0) (aa (.int 0))) (ag oMod (ag oDiv (nm 1) (aa (.int 8))) (bV hS [(ag aN (nm 0) (aa (.int 0)))]))) (aa (.int 0)))) (seq (asg 3 (ag oMod (nm 1) (aa (.int 10)))) (seq (iff (a0 (ag oLt (nm 3) (aa (.int 5)))) (cX (b1 [(aa (.str "line")),(aL 2),(ag aN (b1 [(aa (.str "shut")),(aa (.str "open")),(aa (.str "open")),(aa (.str "cut"))]) (ag oMod (ag oDiv (nm 1) (aa (.int 512))) (aa (.int 4))))])) skip) (seq (iff (a0 (ag oLt (nm 3) (aa (.int 7)))) (cX (b1 [(aa (.str "ticks")),(ag cV (aa (.int 1)) (ag oMod (ag oDiv (nm 1) (aa (.int 64))) (ag aN (b1 [(aa (.int 3)),(aa (.int 40)),(aa (.int 200))]) (ag oMod (ag oDiv (nm 1) (aa (.int 4096))) (aa (.int 3))))))])) skip) (seq (asg 4 (ag aN (ag aN (ag aN (nm 0) (aa (.int 1))) (ag oMod (ag oDiv (nm 1) (aa (.int 64))) (bV hS [(ag aN (nm 0) (aa (.int 1)))]))) (aa (.int 0)))) (seq (iff (a0 (ag oEq (ag oMod (ag oDiv (nm 1) (aa (.int 65536))) (aa (.int 4))) (aa (.int 0)))) (asg 4 (ag aN (b1 [(aa (.str "0001")),(aa (.str "1111")),(aa (.str "9999")),(aa (.str "0000"))]) (ag oMod (ag oDiv (nm 1) (aa (.int 512))) (aa (.int 4))))) skip) (seq (asg 5 (ag aN (b1 [(aa (.str "set")),(aa (.str "set")),(aa (.str "unset")),(aa (.str "shunt")),(aa (.str "free")),(aa (.str "shunt"))]) (ag oMod (ag oDiv (nm 1) (aa (.int 4096))) (aa (.int 6))))) (seq (iff (a0 (ag (dj false) (nm 5) (b1 [(aa (.str "set")),(aa (.str "unset"))]))) (cX (b1 [(aa (.str "code")),(aL 4),(aL 5),(aa .none)])) skip) (cX (b1 [(aa (.str "code")),(aL 4),(aL 5),(aL 2)]))))))))))
def rP:List T->Option T:=eI Qi 6
noncomputable def Dp:bu:=
  (seq (asg 3 (bV gy [(comp 1 [0,1] (l9 (ag oMod (nm 1) (ag cV (nm 2) (aa (.int 1))))) (bH 0) (er true) (bV rP [(aL 1),(ag oDiv (bV jW [(aL 2),(ag cV (aa (.int 30)) (nm 0))]) (aa (.int 4)))]))])) (seq (iff (eb (a0 (ag oEq (ag oMod (ag oDiv (nm 1) (aa (.int 64))) (aa (.int 5))) (aa (.int 0)))) (a0 (ag hD (bV hS [(nm 3)]) (aa (.int 2))))) (asg 3 (ag cV (slice (nm 3) optN (opt (fo qb (aa (.int 3))))) (ag n7 (b1 [(b1 [(aa (.str "code")),(aa (.str "5555")),(aa (.str "unset")),(aa .none)])]) (aa (.int 3))))) skip) (cX (nm 3))))
def tW:List T->Option T:=eI Dp 4
end a'
end
section
namespace je
open D a'
noncomputable def Ko:bu:=
  (seq (pT 1 (xC 1 [(false,(aa (.str "off"))),(false,(aa (.int 0))),(false,(aa .none)),(true,(ag n7 (eU [(aa (.str "shut"))]) (bV hS [(ag aN (nm 0) (aa (.int 0)))]))),(true,(eU [])),(false,(aa (.int 0)))])) (seq (ha 1 1 6 (eU [])) (seq (cy 1 1 7 (aa (.int 0))) (seq (cy 1 1 8 (aa (.int 0))) (seq (ha 1 1 9 (ag n7 (eU [(aa (.int 0))]) (bV hS [(ag aN (nm 0) (aa (.int 1)))]))) (seq (cy 1 1 10 (aa (.int 0))) (seq (ha 1 1 11 (eU [])) (th 1))))))))
def vw:List T->Option aM:=oY Ko 2
def Ru:bu:=
  (jI 1 0 11 (b1 [(eR 1 0 10),(aL 1),(aL 2)]))
def e2:List aM->Option (T×List aM):=runM 1 0 Ru 3
noncomputable def Kp:bu:=
  (seq (cy 1 1 5 (ag aN (ag aN (nm 0) (aa (.int 2))) (aa (.int 2)))) (iff (a0 (ag (dj true) (nm 2) (fld 1 1 6))) (seq (jI 1 1 6 (aL 2)) (cq (dz 1 e2 [] 1 [(aa (.str "alarm")),(aL 2)]))) skip))
def l7:List aM->Option (T×List aM):=runM 1 1 Kp 3
noncomputable def Dc:bu:=
  (seq (asg 4 (comp 1 [] (dv (ag aN (nm 0) (aa (.int 0)))) (bH 0) (er true) (ag aN (nm 0) (aa (.int 0))))) (seq (asg 5 (ag v3 (nm 4) (nm 2))) (seq (asg 6 (ag aN (fld 1 1 3) (nm 5))) (seq (qM 1 1 3 (aL 5) (aL 3)) (seq (asg 7 (ag aN (ag aN (ag aN (nm 0) (aa (.int 0))) (nm 5)) (aa (.int 1)))) (seq (asg 8 (eR 1 1 0)) (seq (iff (a0 (ag oEq (nm 3) (nm 6))) (g7 (aa .none)) skip) (seq (iff (a0 (ag oEq (nm 3) (aa (.str "shut")))) (iff (a0 (ag oEq (nm 6) (aa (.str "cut")))) (cq (dz 1 e2 [] 1 [(aa (.str "mended")),(aL 2)])) skip) (iff (a0 (ag (dj true) (nm 2) (fld 1 1 4))) (seq (asg 9 (i3 (ag oEq (nm 3) (aa (.str "cut"))) (i3 (ag oEq (nm 7) (aa (.str "once"))) (jf (ag oEq (nm 8) (aa (.str "on"))) (i3 (ag oEq (nm 7) (aa (.str "inner"))) (ag oEq (ag aN (ag aN (nm 0) (aa (.int 2))) (aa (.int 1))) (aa (.int 0)))))))) (iff (eY (a0 (ag oEq (nm 7) (aa (.str "day")))) (eb (a0 (ag fQ (nm 8) (aa (.str "off")))) (a0 (nm 9)))) (cq (dz 1 l7 [(aL 0)] 1 [(aL 2)])) (iff (eb (a0 (ag oEq (nm 8) (aa (.str "off")))) (a0 (ag oEq (nm 3) (aa (.str "cut"))))) (cq (dz 1 e2 [] 1 [(aa (.str "fault")),(aL 2)])) (iff (a0 (ag oEq (nm 8) (aa (.str "on")))) (seq (cy 1 1 0 (aa (.str "coming"))) (seq (cy 1 1 1 (ag aN (ag aN (nm 0) (aa (.int 2))) (aa (.int 1)))) (seq (cy 1 1 2 (aL 2)) (cq (dz 1 e2 [] 1 [(aa (.str "coming")),(aL 2)]))))) skip)))) skip)) (g7 (aa .none))))))))))
def zh:List aM->Option (T×List aM):=runM 1 1 Dc 10
noncomputable def Ln:bu:=
  (seq (cy 1 1 0 (aa (.str "on"))) (seq (cq (dz 1 e2 [] 1 [(aa (.str "on")),(aa .none)])) (g4 (jY (j0 (ag aN (nm 0) (aa (.int 0))))) (di [(bH 2),(di [(bH 3),(bH 4)])]) (iff (eb (a0 (ag (dj false) (nm 4) (b1 [(aa (.str "way")),(aa (.str "inner"))]))) (eb (a0 (ag fQ (ag aN (fld 1 1 3) (nm 2)) (aa (.str "shut")))) (a0 (ag (dj true) (nm 3) (fld 1 1 4))))) (cq (dz 1 l7 [(aL 0)] 1 [(aL 3)])) skip))))
def tZ:List aM->Option (T×List aM):=runM 1 1 Ln 5
noncomputable def v8:bu:=
  (seq (iff (a0 (ag oEq (nm 2) (aa (.str "shunt")))) (jI 1 1 4 (aL 3)) skip) (seq (iff (a0 (ag oEq (nm 2) (aa (.str "free")))) (rp 1 1 4 (aL 3)) skip) (seq (iff (a0 (ag (dj false) (nm 2) (b1 [(aa (.str "shunt")),(aa (.str "free"))]))) (seq (cq (dz 1 e2 [] 1 [(aL 2),(aL 3)])) (g7 (aa .none))) skip) (seq (cy 1 1 5 (aa (.int 0))) (seq (cq (dz 1 e2 [] 1 [(aL 2),(aL 4)])) (seq (iff (a0 (ag oEq (nm 2) (aa (.str "unset")))) (seq (cy 1 1 0 (aa (.str "off"))) (seq (cy 1 1 1 (aa (.int 0))) (seq (cy 1 1 2 (aa .none)) (ha 1 1 4 (eU []))))) (seq (ha 1 1 6 (eU [])) (seq (cy 1 1 0 (aa (.str "leaving"))) (seq (cy 1 1 1 (ag aN (ag aN (nm 0) (aa (.int 2))) (aa (.int 0)))) (iff (a0 (ag oEq (fld 1 1 1) (aa (.int 0)))) (cq (dz 1 tZ [(aL 0)] 1 [])) skip))))) (g7 (aa .none))))))))
def ow:List aM->Option (T×List aM):=runM 1 1 v8 5
noncomputable def Dd:bu:=
  (seq (asg 5 (comp 2 [2] (jY (j0 (ag aN (nm 0) (aa (.int 1))))) (di [(bH 0),(bH 1)]) (a0 (ag oEq (ag aN (nm 1) (aa (.int 0))) (nm 2))) (aL 0))) (seq (asg 5 (comp 1 [1,0] (dv (aL 5)) (bH 0) (eY (a0 (ag oEq (ag aN (ag aN (ag aN (nm 2) (aa (.int 1))) (nm 0)) (aa (.int 3))) (aa (.int 0)))) (a0 (ag oLt (ag aN (fld 1 1 9) (nm 0)) (ag aN (ag aN (ag aN (nm 2) (aa (.int 1))) (nm 0)) (aa (.int 3)))))) (aL 0))) (seq (iff (a0 (ag hD (fld 1 1 8) (aa (.int 0)))) (ij (dz 1 e2 [] 1 [(aa (.str "locked")),(aa .none)])) skip) (seq (iff (a0 (ag oEq (nm 5) (eU []))) (seq (cq (dz 1 e2 [] 1 [(aa (.str "wrong")),(aa .none)])) (seq (cy 1 1 7 (ag cV (fld 1 1 7) (aa (.int 1)))) (seq (iff (a0 (ag oEq (fld 1 1 7) (aa (.int 3)))) (seq (cy 1 1 7 (aa (.int 0))) (seq (cy 1 1 8 (aa (.int 90))) (seq (cy 1 1 5 (ag aN (ag aN (nm 0) (aa (.int 2))) (aa (.int 2)))) (cq (dz 1 e2 [] 1 [(aa (.str "attack")),(aa .none)]))))) skip) (g7 (aa .none))))) skip) (seq (cy 1 1 7 (aa (.int 0))) (seq (hh (di [(bH 6),(bH 7)]) (slice (ag aN (ag aN (nm 0) (aa (.int 1))) (ag aN (nm 5) (aa (.int 0)))) (opt (aa (.int 1))) (opt (aa (.int 3))))) (seq (iff (a0 (ag (dj true) (vK "free" "shunt" (nm 3) (aL 3)) (nm 7))) (ij (dz 1 e2 [] 1 [(aa (.str "denied")),(aL 6)])) skip) (seq (asg 8 (ag (dj false) (nm 4) (fld 1 1 4))) (seq (asg 9 (i3 (jf (ag oEq (nm 3) (aa (.str "shunt"))) (i3 (aL 8) (ag (dj false) (b1 [(aL 4),(aa (.str "day"))]) (ag aN (nm 0) (aa (.int 0)))))) (jf (ag oEq (nm 3) (aa (.str "free"))) (tc (aL 8))))) (seq (iff (eY (eb (a0 (ag fQ (nm 3) (aa (.str "unset")))) (a0 (ag fQ (fld 1 1 0) (aa (.str "off"))))) (a0 (nm 9))) (ij (dz 1 e2 [] 1 [(aa (.str "no")),(aL 6)])) skip) (seq (iff (a0 (ag oEq (nm 3) (aa (.str "set")))) (wh (wg (dv (ag aN (nm 0) (aa (.int 0)))) (dv (fld 1 1 3))) (di [(di [(bH 10),(bH 11)]),(bH 12)]) (eb (a0 (ag (dj false) (nm 11) (b1 [(aa (.str "once")),(aa (.str "day"))]))) (eb (a0 (ag fQ (nm 12) (aa (.str "shut")))) (a0 (ag (dj true) (nm 10) (fld 1 1 4))))) (ij (dz 1 e2 [] 1 [(aa (.str "open")),(aL 10)]))) skip) (seq (qM 1 1 9 (ag aN (nm 5) (aa (.int 0))) (ag cV (ag aN (fld 1 1 9) (ag aN (nm 5) (aa (.int 0)))) (aa (.int 1)))) (seq (cq (dz 1 ow [(aL 0)] 1 [(aL 3),(aL 4),(aL 6)])) (g7 (aa .none)))))))))))))))
def zi:List aM->Option (T×List aM):=runM 1 1 Dd 13
noncomputable def C':bu:=
  (seq (cy 1 1 10 (ag cV (fld 1 1 10) (aa (.int 1)))) (seq (cy 1 1 8 (bV lS [(aa (.int 0)),(ag ke (fld 1 1 8) (aa (.int 1)))])) (seq (cy 1 1 5 (bV lS [(aa (.int 0)),(ag ke (fld 1 1 5) (aa (.int 1)))])) (iff (a0 (ag (dj false) (fld 1 1 0) (b1 [(aa (.str "leaving")),(aa (.str "coming"))]))) (seq (cy 1 1 1 (ag ke (fld 1 1 1) (aa (.int 1)))) (iff (a0 (ag oEq (fld 1 1 1) (aa (.int 0)))) (seq (asg 2 (eR 1 1 2)) (iff (a0 (ag oEq (fld 1 1 0) (aa (.str "leaving")))) (cq (dz 1 tZ [(aL 0)] 1 [])) (seq (cy 1 1 0 (aa (.str "on"))) (seq (cy 1 1 2 (aa .none)) (cq (dz 1 l7 [(aL 0)] 1 [(aL 2)])))))) skip)) skip))))
def zg:List aM->Option (T×List aM):=runM 1 1 C' 3
noncomputable def pn:bu:=
  (iff (a0 (ag oEq (ag aN (nm 2) (aa (.int 0))) (aa (.str "line")))) (cq (dz 1 zh [(aL 0)] 1 [(ag aN (nm 2) (aa (.int 1))),(ag aN (nm 2) (aa (.int 2)))])) (iff (a0 (ag oEq (ag aN (nm 2) (aa (.int 0))) (aa (.str "code")))) (cq (dz 1 zi [(aL 0)] 1 [(ag aN (nm 2) (aa (.int 1))),(ag aN (nm 2) (aa (.int 2))),(ag aN (nm 2) (aa (.int 3)))])) (g4 (l9 (ag aN (nm 2) (aa (.int 1)))) (bH 3) (cq (dz 1 zg [(aL 0)] 1 [])))))
def aj6:List aM->Option (T×List aM):=runM 1 1 pn 4
noncomputable def Qh:bu:=
  (seq (asg 1 (b1 [(eR 1 0 0),(eR 1 0 1),(eR 1 0 2),(bV gy [(fld 1 0 3)])])) (seq (asg 2 (b1 [(bV gy [(bV zr [(fld 1 0 4)])]),(eR 1 0 5),(bV gy [(fld 1 0 6)])])) (cX (ag cV (ag cV (nm 1) (nm 2)) (b1 [(eR 1 0 7),(eR 1 0 8),(bV gy [(fld 1 0 9)])])))))
def rO:List aM->Option T:=iQ Qh 3
noncomputable def SE:bu:=
  (seq (asg 1 (bV C9 [(bV oo [(aL 0),(aa (.int 0))])])) (seq (pT 2 (r6 vw [(aL 1)])) (seq (asg 3 (bV zt [(aL 1)])) (seq (g4 (dv (bV tW [(aL 1),(bV oo [(aL 0),(aa (.int 1))]),(aa (.int 24))])) (bH 4) (seq (ha 1 2 11 (eU [])) (seq (cq (dz 1 aj6 [(aL 1)] 2 [(aL 4)])) (seq (iff (a0 (ag fQ (bV vO [(aL 1),(aL 3),(aL 4)]) (bV gy [(comp 1 [] (dv (fld 1 2 11)) (bH 0) (er true) (slice (nm 0) (opt (aa (.int 1))) optN))]))) (cX (aa (.bool false))) skip) (seq (asg 3 (bV v7 [(aL 1),(aL 3),(aL 4)])) (iff (a0 (ag fQ (bV qN [(nm 3)]) (bV qN [(zO rO [.o 2])]))) (cX (aa (.bool false))) skip)))))) (cX (aa (.bool true)))))))
def wj:List T->Option T:=eI SE 5
end je
end
section
namespace je
open PySem PySem.Spec PyProof.Rows bo D a'
variable [c2]
noncomputable def top(i:Nat):Stmt:=PySem.Challenge.pw_doorwatch_k10_what_happens.main.body.getD i (.Pass ⟨0,0,0,0⟩)
section
variable {P:cR}{w:cu}{K:bl}{mg:Str->Option ao}{base:b0}{bJ:aj}{k:Nat}{f:aj}{fd:gj}
def acT{α:Type}{us:List α}(h:us.length=1):∃a,us=[a]:=match us,h with|[a],_=>⟨_,rfl⟩
def acU{α:Type}{us:List α}(h:us.length=2):∃a b,us=[a,b]:=match us,h with|[a,b],_=>⟨_,_,rfl⟩
def acV{α:Type}{us:List α}(h:us.length=3):∃a b c,us=[a,b,c]:=match us,h with|[a,b,c],_=>⟨_,_,_,rfl⟩
def acW{α:Type}{us:List α}(h:us.length=4):∃a b c d,us=[a,b,c,d]:=match us,h with|[a,b,c,d],_=>⟨_,_,_,_,rfl⟩
def acX{α:Type}{us:List α}(h:us.length=5):∃a b c d e,us=[a,b,c,d,e]:=match us,h with|[a,b,c,d,e],_=>⟨_,_,_,_,_,rfl⟩
set_option hygiene false in
local macro_rules | `(unop% bW $F) => `(c1.binds $F λ_ _ _ _ _ _ us aw => by obtain ⟨_, rfl⟩ := acT aw; rfl)
set_option hygiene false in
local macro_rules | `(unop% b6 $F) => `(c1.binds $F λ_ _ _ _ _ _ us aw => by obtain ⟨_, _, rfl⟩ := acU aw; rfl)
set_option hygiene false in
local macro_rules | `(unop% hz $F) => `(c1.binds $F λ_ _ _ _ _ _ us aw => by obtain ⟨_, _, _, rfl⟩ := acV aw; rfl)
set_option hygiene false in
local macro_rules | `(unop% mV $F) => `(c1.binds $F λ_ _ _ _ _ _ us aw => by obtain ⟨_, _, _, _, rfl⟩ := acW aw; rfl)
set_option hygiene false in
local macro_rules | `(unop% z3 $F) => `(c1.binds $F λ_ _ _ _ _ _ us aw => by obtain ⟨_, _, _, _, _, rfl⟩ := acX aw; rfl)
local macro_rules | `(unop% d9 0) => `(⟨rfl, rfl, rfl, by decide +kernel, rfl, by decide +kernel, by decide +kernel⟩)
set_option hygiene false in
local macro_rules | `(unop% gP 0) => `(hb K 0 bJ ["plan", "mode", "left", "came", "lines", "shunts", "siren", "alarms", "tries", "locked", "used", "past", "told"])
set_option hygiene false in
local macro_rules | `(unop% lm $t) => `(λcW A outer s H E ar => $t)
local macro_rules | `(unop% e1 $t) => `(λ_ _ _ _ _ _ => $t)
local macro_rules | `(unop% aW $l) => `(show List.Nodup ($l : List Str) by decide +kernel)
local macro_rules | `(binop% co $s $l) => `(ait (sc := cp $s) $l rfl rfl rfl (by decide +kernel))
set_option hygiene false in
local macro_rules | `(binop% eu $a $b) => `(fK (RX (by exact ar.units)) R0 $a $b)
set_option hygiene false in
local macro_rules | `(binop% p0 $a $b) => `(t4 (RX (by exact ar.units)) R0 $a $b)
set_option hygiene false in
local macro_rules | `(binop% oS $a $b) => `(fK (RW (by exact ar.units)) RY $a $b)
abbrev CR:Stmt:=top 20
def Po:dc ["_law_number","_law_k","_law_drawn_here"] ["_law_number","_law_k"] (cp CR):=unop%d9 0
def tN(F:c1 K "_law_drawn" "_law_drawn" CR f fd)(m:mg "_law_drawn"=some (.ref f)) :Cl P w K mg base "_law_drawn" (k+1) 2 jW:=
 nA F Po (unop%b6 F) m unop%lm
  (bx (ez 2 Po.aW (g_ (au (r4 (au (iu (au (iu (aZ 0) (au (r4 (au aT) (aZ 1))))) (au aT))) (au aT))) (au aT))) (bI (gn (g_ (au (iu (au (iu (au (r4 (aZ 2) (aZ 2))) (au (r4 (au aT) (aZ 2))))) (aZ 1))) (au aT)))))
abbrev za:Stmt:=top 21
def lx:dc ["_law_number","_law_zones","_law_k","_law_name","_law_drawn_here","_law_codes","_law_figures","_law_rights","_law_who","_law_times"] ["_law_number"] (cp za):=unop%d9 0
def KJ(F:c1 K "_law_plan" "_law_plan" za f fd)(m:mg "_law_plan"=some (.ref f))(l':mg "enumerate"=none)(tN:Cl P w K mg base "_law_drawn" k 2 jW)(fT:mg "tuple"=none)(mN:mg "range"=none):Cl P w K mg base "_law_plan" (k+1) 1 C9:=
 nA F lx (unop%bW F) m unop%lm
  (bx (ez 1 lx.aW (d3 bC)) (bx (qL o9 (DB l' (d3 (aF aY (aF aY (aF aY (aF aY (aF aY (aF aY (aF aY (aF aY bC)))))))))) (qO (jA (fy 2 lx.aW) (jA (fy 3 lx.aW) qP))) (bx (ez 4 lx.aW (jb (au (jw tN ar (aF (bF 0) (aF (bF 2) bC)))) (au aT))) (bI (df (kk (w_or (fK (wc.or vv) vX (au (g_ (aZ 4) (au aT))) (au (iu (au aT) (au (g_ (aZ 0) (au aT)))))) (r1 (binop%eu (aZ 2) (au (g_ (au (jb (aZ 0) (au aT))) (au aT))))))) (bI (ez 1 lx.aW (iu (aZ 1) (au (d3 (aF (d3 (aF (bF 3) (aF (bS (au (d3 (aF aY (aF aY (aF aY (aF aY (aF aY bC))))))) (au (g_ (au (jb (aZ 4) (au aT))) (au aT)))) bC))) bC)))))) eV)))) (bx (ez 5 lx.aW (d3 bC)) (bx (qL o9 (DB l' (d3 (aF aY (aF aY (aF aY (aF aY (aF aY (aF aY bC)))))))) (qO (jA (fy 2 lx.aW) (jA (fy 6 lx.aW) qP))) (bx (ez 4 lx.aW (jb (au (jw tN ar (aF (bF 0) (aF (iu (au aT) (aZ 2)) bC)))) (au aT))) (bI (df (kk (w_or (fK (zK.or y6) zz (au (g_ (aZ 4) (au aT))) (au aT)) (r1 (binop%eu (aZ 2) (au aT))))) (bx (ez 7 lx.aW (nv fT (gU (au (rT (own:=["_law_j"]) (caps:=[(4,"_law_drawn_here")]) (binop%co za ["_law_number","_law_zones","_law_k","_law_name","_law_drawn_here","_law_codes","_law_figures","_law_rights","_law_who","_law_times"]) (Li mN (au aT)) (unop%e1 (fy 0 (unop%aW ["_law_j","_law_drawn_here"]))) (unop%e1 (zu (fK (zK.or y6) zz (au (g_ (au (jb (aZ 1) (au (bS (au (d3 (aF aT (aF aT (aF aT bC))))) (aZ 0))))) (au aT))) (au aT)))) (unop%e1 (bS (au (d3 (aF aY (aF aY (aF aY bC))))) (aZ 0))))) hI))) (bx (ez 8 lx.aW (bS (au (d3 (aF aY (aF aY (aF aY bC))))) (au (g_ (au (jb (aZ 4) (au aT))) (au aT))))) (bI (ez 5 lx.aW (iu (aZ 5) (au (d3 (aF (d3 (aF (bF 6) (aF (bF 8) (aF (bF 7) (aF (bS (au (d3 (aF aT (aF aT (aF aT (aF aT (aF aT bC))))))) (au (g_ (au (jb (aZ 4) (au aT))) (au aT)))) bC))))) bC)))))))) eV)))) (bx (ez 4 lx.aW (jb (au (jw tN ar (aF (bF 0) (aF aT bC)))) (au aT))) (bx (ez 9 lx.aW (d3 (aF (bS (au (d3 (aF aT (aF aT (aF aT (aF aT bC)))))) (au (g_ (aZ 4) (au aT)))) (aF (bS (au (d3 (aF aT (aF aT (aF aT (aF aT bC)))))) (au (g_ (au (jb (aZ 4) (au aT))) (au aT)))) (aF (bS (au (d3 (aF aT (aF aT (aF aT (aF aT bC)))))) (au (g_ (au (jb (aZ 4) (au aT))) (au aT)))) bC))))) (bI (gn (d3 (aF (bF 1) (aF (bF 5) (aF (bF 9) bC))))))))))))
abbrev CS:Stmt:=top 24
def Pp:dc ["_law_plan_here","_law_now"] ["_law_plan_here"] (cp CS):=unop%d9 0
def afe(ts:List T)(s:aM)(h:vw ts=some s):∃c os,s=.obj .own c os:=QA (b:=Ko) h
def Km(F:c1 K "_law_begun" "_law_begun" CS f fd)(m:mg "_law_begun"=some (.ref f))(cm:hu 1 ["mode","left","came","lines","shunts","siren","alarms","tries","locked","used","went","story"])(j1:mg "len"=none):nE P w K mg base "_law_begun" (k+1) 1 vw:=
 ahn F Pp (unop%bW F) m unop%lm
  (g8 (ahu 1 cm Pp.aW (BC uE ⟨aY⟩ (BC uE ⟨aT⟩ (BC uE ⟨hJ⟩ (NW uE ⟨ (RP (au (Dx (aF aY bC))) (au (wa (by exact j1) (gU (au (bS (aZ 0) (au aT))) hI)))) ⟩ (NW uE ⟨ (pF bC) ⟩ (BC uE ⟨aT⟩ RT)))))))
(g8 (hp (vE (j:=6) cm (cM ar) (aV 1) aY (pF bC)))
(g8 (hp (hs (j:=7) cm (cM ar) (aV 1) aY aT))
(g8 (hp (hs (j:=8) cm (cM ar) (aV 1) aY aT))
(g8 (hp (vE (j:=9) cm (cM ar) (aV 1) aY (RP (au (Dx (aF aT bC))) (au (wa (by exact j1) (gU (au (bS (aZ 0) (au aT))) hI))))))
(g8 (hp (hs (j:=10) cm (cM ar) (aV 1) aY aT))
(g8 (hp (vE (j:=11) cm (cM ar) (aV 1) aY (pF bC)))
(r2 (hp (RI (aV 1)))))))))))
abbrev vD:Stmt:=top 5
def Kv:dc ["plan","lines","used"] ["plan"] (cp vD):=unop%d9 0
def K9(F:c1 K "begun" "begun" vD f fd)(m:mg "begun"=some (.ref f))(fT:mg "tuple"=none):Cl P w K mg base "begun" (k+1) 1 zt:=
 nA F Kv (unop%bW F) m unop%lm
  (bx (ez 1 Kv.aW (nv fT (gU (au (rT (own:=["zone"]) (caps:=[]) (binop%co vD ["plan","lines","used"]) (mb (bS (aZ 0) (au aT))) (unop%e1 (fy 0 (unop%aW ["zone"]))) (unop%e1 rZ) (unop%e1 aY))) hI))) (bx (ez 2 Kv.aW (nv fT (gU (au (rT (own:=["code"]) (caps:=[]) (binop%co vD ["plan","lines","used"]) (mb (bS (aZ 0) (au aT))) (unop%e1 (fy 0 (unop%aW ["code"]))) (unop%e1 rZ) (unop%e1 aT))) hI))) (bI (gn (d3 (aF aY (aF aT (aF hJ (aF (bF 1) (aF (d3 bC) (aF aT (aF (d3 bC) (aF aT (aF aT (aF (bF 2) bC)))))))))))))))
abbrev CQ:Stmt:=top 22
def vo:dc ["_law_plan_here","_law_number","_law_zone","_law_kind","_law_figures","_law_deed"] ["_law_plan_here","_law_number"] (cp CQ):=unop%d9 0
def Kl(F:c1 K "_law_event" "_law_event" CQ f fd)(m:mg "_law_event"=some (.ref f))(j1:mg "len"=none):Cl P w K mg base "_law_event" (k+1) 2 rP:=
 nA F vo (unop%b6 F) m unop%lm
  (bx (ez 2 vo.aW (bS (au (bS (au (bS (aZ 0) (au aT))) (au (g_ (au (jb (aZ 1) (au aT))) (au (wa (by exact j1) (gU (au (bS (aZ 0) (au aT))) hI))))))) (au aT))) (bx (ez 3 vo.aW (g_ (aZ 1) (au aT))) (bx (df (fK (wc.or vv) vX (aZ 3) (au aT)) (bI (gn (d3 (aF aY (aF (bF 2) (aF (bS (au (d3 (aF aY (aF aY (aF aY (aF aY bC)))))) (au (g_ (au (jb (aZ 1) (au aT))) (au aT)))) bC)))))) eV) (bx (df (fK (wc.or vv) vX (aZ 3) (au aT)) (bI (gn (d3 (aF aY (aF (iu (au aT) (au (g_ (au (jb (aZ 1) (au aT))) (au (bS (au (d3 (aF aT (aF aT (aF aT bC))))) (au (g_ (au (jb (aZ 1) (au aT))) (au aT)))))))) bC))))) eV) (bx (ez 4 vo.aW (bS (au (bS (au (bS (aZ 0) (au aT))) (au (g_ (au (jb (aZ 1) (au aT))) (au (wa (by exact j1) (gU (au (bS (aZ 0) (au aT))) hI))))))) (au aT))) (bx (df (binop%eu (au (g_ (au (jb (aZ 1) (au aT))) (au aT))) (au aT)) (bI (ez 4 vo.aW (bS (au (d3 (aF aY (aF aY (aF aY (aF aY bC)))))) (au (g_ (au (jb (aZ 1) (au aT))) (au aT)))))) eV) (bx (ez 5 vo.aW (bS (au (d3 (aF aY (aF aY (aF aY (aF aY (aF aY (aF aY bC)))))))) (au (g_ (au (jb (aZ 1) (au aT))) (au aT))))) (bx (df (fK (pC (by exact ar.units)) i' (aZ 5) (au (d3 (aF aY (aF aY bC))))) (bI (gn (d3 (aF aY (aF (bF 4) (aF (bF 5) (aF hJ bC))))))) eV) (bI (gn (d3 (aF aY (aF (bF 4) (aF (bF 5) (aF (bF 2) bC)))))))))))))))
abbrev zk:Stmt:=top 23
def Ku:dc ["_law_plan_here","_law_number","_law_most","_law_row_here"] ["_law_plan_here","_law_number","_law_most"] (cp zk):=unop%d9 0
def K8(F:c1 K "_law_row" "_law_row" zk f fd)(m:mg "_law_row"=some (.ref f))(fT:mg "tuple"=none)(Kl:Cl P w K mg base "_law_event" k 2 rP)(j1:mg "len"=none)(mN:mg "range"=none)(tN:Cl P w K mg base "_law_drawn" k 2 jW):Cl P w K mg base "_law_row" (k+1) 3 tW:=
 nA F Ku (unop%hz F) m unop%lm
  (bx (ez 3 Ku.aW (nv fT (gU (au (rT (own:=["_law_k"]) (caps:=[(0,"_law_plan_here"),(1,"_law_number")]) (binop%co zk ["_law_plan_here","_law_number","_law_most","_law_row_here"]) (Li mN (au (g_ (aZ 1) (au (iu (aZ 2) (au aT)))))) (unop%e1 (fy 0 (unop%aW ["_law_k","_law_plan_here","_law_number"]))) (unop%e1 rZ) (unop%e1 (jw (by exact Kl) (by exact ar) (aF (bF 1) (aF (jb (au (jw (by exact tN) (by exact ar) (aF (bF 2) (aF (iu (au aT) (aZ 0)) bC)))) (au aT)) bC)))))) hI))) (bx (df (kk (w_and (binop%eu (au (g_ (au (jb (aZ 1) (au aT))) (au aT))) (au aT)) (qF (fK (zK.or y6) zz (au (wa (by exact j1) (gU (aZ 3) hI))) (au aT))))) (bI (ez 3 Ku.aW (iu (au (KW (aZ 3) R3 (Dz (au (aiY (au aT)))))) (au (aiV (au (d3 (aF (d3 (aF aY (aF aY (aF aY (aF hJ bC))))) bC))) (au aT)))))) eV) (bI (RJ 3))))
abbrev CF:Stmt:=top 18
def adQ:dc ["_law_script","_law_k"] ["_law_script","_law_k"] (cp CF):=unop%d9 0
def JW(F:c1 K "_law_cell_at" "_law_cell_at" CF f fd)(m:mg "_law_cell_at"=some (.ref f))(j1:mg "len"=none):Cl P w K mg base "_law_cell_at" (k+1) 2 mJ:=
 nA F adQ (unop%b6 F) m unop%lm
  (bx (df (fK (wc.or vv) vX (aZ 1) (au (wa (by exact j1) (gU (aZ 0) hI)))) (bI (gn (bS (aZ 0) (aZ 1)))) eV) (bI (gn aT)))
abbrev CP:Stmt:=top 19
def Pn:dc ["_law_script","_law_k","_law_drawn_here"] ["_law_script","_law_k"] (cp CP):=unop%d9 0
def C3(F:c1 K "_law_mixed" "_law_mixed" CP f fd)(m:mg "_law_mixed"=some (.ref f))(JW:Cl P w K mg base "_law_cell_at" k 2 mJ):Cl P w K mg base "_law_mixed" (k+1) 2 oo:=
 nA F Pn (unop%b6 F) m unop%lm
  (bx (ez 2 Pn.aW (g_ (au (r4 (au (iu (au (iu (au (jw JW ar (aF (bF 0) (aF (bF 1) bC)))) (au (r4 (au aT) (aZ 1))))) (au aT))) (au aT))) (au aT))) (bI (gn (g_ (au (iu (au (iu (au (r4 (aZ 2) (aZ 2))) (au (r4 (au aT) (aZ 2))))) (aZ 1))) (au aT)))))
abbrev Dh:Stmt:=top 26
def afT:dc ["_law_now","_law_word","_law_name"] ["_law_now","_law_word","_law_name"] (cp Dh):=unop%d9 0
def jy(F:c1 K "_law_say" "_law_say" Dh f fd)(m:mg "_law_say"=some (.ref f))(cm:hu 1 ["mode","left","came","lines","shunts","siren","alarms","tries","locked","used","went","story"]) :gp P w K mg base "_law_say" 1 0 (k+1) 3 e2:=
 r0 F afT (unop%hz F) m unop%lm
  (bI (Lc (j:=11) cm (cM ar) (aV 0) aY (d3 (aF (qD (j:=10) cm (cM ar) (aV 0) aY) (aF (bF 1) (aF (bF 2) bC))))))
abbrev CT:Stmt:=top 27
def aeq:dc ["_law_plan_here","_law_now","_law_zone"] ["_law_plan_here","_law_now","_law_zone"] (cp CT):=unop%d9 0
def aj0(F:c1 K "_law_alarm" "_law_alarm" CT f fd)(m:mg "_law_alarm"=some (.ref f))(cm:hu 1 ["mode","left","came","lines","shunts","siren","alarms","tries","locked","used","went","story"])(jy:gp P w K mg base "_law_say" 1 0 k 3 e2):gp P w K mg base "_law_alarm" 1 1 (k+1) 3 l7:=
 r0 F aeq (unop%hz F) m unop%lm
  (bx (hs (j:=5) cm (cM ar) (aV 1) aY (bS (au (bS (aZ 0) (au aT))) (au aT))) (bI (df (fK (pw (by exact ar.units)) i' (aZ 2) (gW (j:=6) cm (cM ar) (aV 1) aY)) (bx (Lc (j:=6) cm (cM ar) (aV 1) aY (bF 2)) (bI (dB (mM jy ar (aV 1) (aF aY (aF (bF 2) bC)))))) eV)))
abbrev zb:Stmt:=top 28
def tJ:dc ["_law_plan_here","_law_now","_law_zone","_law_what","_law_names","_law_at","_law_old","_law_kind","_law_mode","_law_rings"] ["_law_plan_here","_law_now","_law_zone","_law_what"] (cp zb):=unop%d9 0
def KL(F:c1 K "_law_line" "_law_line" zb f fd)(m:mg "_law_line"=some (.ref f))(cm:hu 1 ["mode","left","came","lines","shunts","siren","alarms","tries","locked","used","went","story"])(jy:gp P w K mg base "_law_say" 1 0 k 3 e2)(aj0:gp P w K mg base "_law_alarm" 1 1 k 3 l7):gp P w K mg base "_law_line" 1 1 (k+1) 4 zh:=
 r0 F tJ (unop%mV F) m unop%lm
  (bx (Dw 4 tJ.aW (own:=["_law_one"]) (caps:=[]) (binop%co zb ["_law_plan_here","_law_now","_law_zone","_law_what","_law_names","_law_at","_law_old","_law_kind","_law_mode","_law_rings"]) (mb (bS (aZ 0) (au aT))) (unop%e1 (fy 0 (unop%aW ["_law_one"]))) (unop%e1 rZ) (unop%e1 (bS (aZ 0) (au aT)))) (bx (ez 5 tJ.aW (agN (aZ 4) (aZ 2))) (bx (ez 6 tJ.aW (bS (gW (j:=3) cm (cM ar) (aV 1) aY) (aZ 5))) (bx (Q0 (j:=3) cm (cM ar) (aV 1) aY (bF 5) (bF 3)) (bx (ez 7 tJ.aW (bS (au (bS (au (bS (aZ 0) (au aT))) (aZ 5))) (au aT))) (bx (ez 8 tJ.aW (qD (j:=0) cm (cM ar) (aV 1) aY)) (bx (df (binop%eu (aZ 3) (aZ 6)) (bI (vU hJ)) eV) (bx (df (binop%eu (aZ 3) (au aY)) (bI (df (binop%eu (aZ 6) (au aY)) (bI (dB (mM jy ar (aV 1) (aF aY (aF (bF 2) bC))))) eV)) (bI (df (fK (pw (by exact ar.units)) i' (aZ 2) (gW (j:=4) cm (cM ar) (aV 1) aY)) (bx (ez 9 tJ.aW (uH (binop%p0 (aZ 3) (au aY)) (uH (binop%p0 (aZ 7) (au aY)) (zH (zI (binop%p0 (aZ 8) (au aY)) (zw (uH (binop%p0 (aZ 7) (au aY)) (zH (binop%p0 (au (bS (au (bS (aZ 0) (au aT))) (au aT))) (au aT)))))))))) (bI (df (kk (w_or (binop%eu (aZ 7) (au aY)) (r1 (kk (w_and (binop%oS (aZ 8) (au aY)) (qF (Dr (aZ 9)))))))) (bI (dB (px aj0 ar (bF 0) (aV 1) (aF (bF 2) bC)))) (bI (df (kk (w_and (binop%eu (aZ 8) (au aY)) (qF (binop%eu (aZ 3) (au aY))))) (bI (dB (mM jy ar (aV 1) (aF aY (aF (bF 2) bC))))) (bI (df (binop%eu (aZ 8) (au aY)) (bx (hs (j:=0) cm (cM ar) (aV 1) aY aY) (bx (hs (j:=1) cm (cM ar) (aV 1) aY (bS (au (bS (aZ 0) (au aT))) (au aT))) (bx (hs (j:=2) cm (cM ar) (aV 1) aY (bF 2)) (bI (dB (mM jy ar (aV 1) (aF aY (aF (bF 2) bC)))))))) eV))))))) eV))) (bI (vU hJ))))))))))
abbrev Dt:Stmt:=top 29
def Dg:dc ["_law_plan_here","_law_now","_law_at","_law_zone","_law_kind"] ["_law_plan_here","_law_now"] (cp Dt):=unop%d9 0
def zD(F:c1 K "_law_on" "_law_on" Dt f fd)(m:mg "_law_on"=some (.ref f))(cm:hu 1 ["mode","left","came","lines","shunts","siren","alarms","tries","locked","used","went","story"])(jy:gp P w K mg base "_law_say" 1 0 k 3 e2)(l':mg "enumerate"=none)(aj0:gp P w K mg base "_law_alarm" 1 1 k 3 l7):gp P w K mg base "_law_on" 1 1 (k+1) 2 tZ:=
 r0 F Dg (unop%b6 F) m unop%lm
  (bx (hs (j:=0) cm (cM ar) (aV 1) aY aY) (bx (dB (mM jy ar (aV 1) (aF aY (aF hJ bC)))) (bI (qL o9 (DB l' (bS (aZ 0) (au aT))) (qO (jA (fy 2 Dg.aW) (jA (qO (jA (fy 3 Dg.aW) (jA (fy 4 Dg.aW) qP))) qP))) (bI (df (kk (w_and (fK (pC (by exact ar.units)) i' (aZ 4) (au (d3 (aF aY (aF aY bC))))) (w_and (binop%oS (au (bS (gW (j:=3) cm (cM ar) (aV 1) aY) (aZ 2))) (au aY)) (qF (fK (pw (by exact ar.units)) i' (aZ 3) (gW (j:=4) cm (cM ar) (aV 1) aY)))))) (bI (dB (px aj0 ar (bF 0) (aV 1) (aF (bF 3) bC)))) eV))))))
abbrev Du:Stmt:=top 32
def agD:dc ["_law_plan_here","_law_now","_law_deed","_law_zone","_law_who"] ["_law_plan_here","_law_now","_law_deed","_law_zone","_law_who"] (cp Du):=unop%d9 0
def Ll(F:c1 K "_law_do" "_law_do" Du f fd)(m:mg "_law_do"=some (.ref f))(cm:hu 1 ["mode","left","came","lines","shunts","siren","alarms","tries","locked","used","went","story"])(jy:gp P w K mg base "_law_say" 1 0 k 3 e2)(zD:gp P w K mg base "_law_on" 1 1 k 2 tZ):gp P w K mg base "_law_do" 1 1 (k+1) 5 ow:=
 r0 F agD (unop%z3 F) m unop%lm
  (bx (df (binop%eu (aZ 2) (au aY)) (bI (Lc (j:=4) cm (cM ar) (aV 1) aY (bF 3))) eV) (bx (df (binop%eu (aZ 2) (au aY)) (bI (aiO (j:=4) cm (cM ar) (aV 1) aY (bF 3))) eV) (bx (df (fK (pC (by exact ar.units)) i' (aZ 2) (au (d3 (aF aY (aF aY bC))))) (bx (dB (mM jy ar (aV 1) (aF (bF 2) (aF (bF 3) bC)))) (bI (vU hJ))) eV) (bx (hs (j:=5) cm (cM ar) (aV 1) aY aT) (bx (dB (mM jy ar (aV 1) (aF (bF 2) (aF (bF 4) bC)))) (bx (df (binop%eu (aZ 2) (au aY)) (bx (hs (j:=0) cm (cM ar) (aV 1) aY aY) (bx (hs (j:=1) cm (cM ar) (aV 1) aY aT) (bx (hs (j:=2) cm (cM ar) (aV 1) aY hJ) (bI (vE (j:=4) cm (cM ar) (aV 1) aY (pF bC)))))) (bx (vE (j:=6) cm (cM ar) (aV 1) aY (pF bC)) (bx (hs (j:=0) cm (cM ar) (aV 1) aY aY) (bx (hs (j:=1) cm (cM ar) (aV 1) aY (bS (au (bS (aZ 0) (au aT))) (au aT))) (bI (df (binop%eu (gW (j:=1) cm (cM ar) (aV 1) aY) (au aT)) (bI (dB (px zD ar (bF 0) (aV 1) bC))) eV)))))) (bI (vU hJ))))))))
abbrev vx:Stmt:=top 31
def pq:dc ["_law_plan_here","_law_now","_law_figures","_law_deed","_law_zone","_law_some","_law_who","_law_rights","_law_is_shunted","_law_odd","_law_one","_law_kind","_law_what"] ["_law_plan_here","_law_now","_law_figures","_law_deed","_law_zone"] (cp vx):=unop%d9 0
def KN(F:c1 K "_law_code" "_law_code" vx f fd)(m:mg "_law_code"=some (.ref f))(cm:hu 1 ["mode","left","came","lines","shunts","siren","alarms","tries","locked","used","went","story"])(Ll:gp P w K mg base "_law_do" 1 1 k 5 ow)(jy:gp P w K mg base "_law_say" 1 0 k 3 e2)(oy:mg "zip"=none)(l':mg "enumerate"=none):gp P w K mg base "_law_code" 1 1 (k+1) 5 zi:=
 r0 F pq (unop%z3 F) m unop%lm
  (acZ (g8 (hp (Dw 5 pq.aW (own:=["_law_at","_law_code_here"]) (caps:=[(2,"_law_figures")]) (binop%co vx ["_law_plan_here","_law_now","_law_figures","_law_deed","_law_zone","_law_some","_law_who","_law_rights","_law_is_shunted","_law_odd","_law_one","_law_kind","_law_what"]) (DB l' (bS (aZ 0) (au aT))) (unop%e1 (qO (jA (fy 0 (unop%aW ["_law_at","_law_code_here","_law_figures"])) (jA (fy 1 (unop%aW ["_law_at","_law_code_here","_law_figures"])) qP)))) (unop%e1 (zu (binop%eu (au (bS (aZ 1) (au aT))) (aZ 2)))) (unop%e1 (bF 0))))
(g8 (hp (Dw 5 pq.aW (own:=["_law_at"]) (caps:=[(1,"_law_now"),(0,"_law_plan_here")]) (binop%co vx ["_law_plan_here","_law_now","_law_figures","_law_deed","_law_zone","_law_some","_law_who","_law_rights","_law_is_shunted","_law_odd","_law_one","_law_kind","_law_what"]) (mb (bF 5)) (unop%e1 (fy 0 (unop%aW ["_law_at","_law_now","_law_plan_here"]))) (unop%e1 (zu (kk (w_or (binop%eu (au (bS (au (bS (au (bS (aZ 2) (au aT))) (aZ 0))) (au aT))) (au aT)) (r1 (fK (wc.or vv) vX (au (bS (gW (j:=9) (by exact cm) (by exact cM ar) (aV 1) aY) (aZ 0))) (au (bS (au (bS (au (bS (aZ 2) (au aT))) (aZ 0))) (au aT))))))))) (unop%e1 (bF 0))))
(g8 (uR (fK (zK.or y6) zz (gW (j:=8) cm (cM ar) (aV 1) aY) (au aT)) (r2 (hp (Ds (mM jy ar (aV 1) (aF aY (aF hJ bC)))))) v_)
(g8 (uR (binop%eu (aZ 5) (au (Dx bC))) (g8 (hp (dB (mM jy ar (aV 1) (aF aY (aF hJ bC)))))
(g8 (hp (hs (j:=7) cm (cM ar) (aV 1) aY (iu (gW (j:=7) cm (cM ar) (aV 1) aY) (au aT))))
(g8 (uR (binop%eu (gW (j:=7) cm (cM ar) (aV 1) aY) (au aT)) (g8 (hp (hs (j:=7) cm (cM ar) (aV 1) aY aT))
(g8 (hp (hs (j:=8) cm (cM ar) (aV 1) aY aT))
(g8 (hp (hs (j:=5) cm (cM ar) (aV 1) aY (bS (au (bS (aZ 0) (au aT))) (au aT))))
(r2 (hp (dB (mM jy ar (aV 1) (aF aY (aF hJ bC))))))))) v_)
(r2 (hp (vU hJ)))))) v_)
(g8 (hp (hs (j:=7) cm (cM ar) (aV 1) aY aT))
(g8 (hp (ahE (KW (au (bS (au (bS (aZ 0) (au aT))) (au (bS (aZ 5) (au aT))))) (Dz (au aT)) (Dz (au aT))) (qO (jA (fy 6 pq.aW) (jA (fy 7 pq.aW) qP)))))
(g8 (uR (fK (pw (by exact ar.units)) i' (au (ae' (cM ar) aY aY (aZ 3) (bF 3))) (aZ 7)) (r2 (hp (Ds (mM jy ar (aV 1) (aF aY (aF (bF 6) bC)))))) v_)
(g8 (Sl 8 pq.aW (akb (t4 (pC (by exact ar.units)) i' (aZ 4) (gW (j:=4) cm (cM ar) (aV 1) aY))))
(g8 (Sl 9 pq.aW (akb (uH (zI (binop%p0 (aZ 3) (au aY)) (zw (uH (bF 8) (zH (t4 (pC (by exact ar.units)) i' (au (d3 (aF (bF 4) (aF aY bC)))) (au (bS (aZ 0) (au aT)))))))) (zH (zI (binop%p0 (aZ 3) (au aY)) (zw (aiX (bF 8))))))))
(g8 (uR (kk (w_or (kk (w_and (binop%oS (aZ 3) (au aY)) (qF (binop%oS (gW (j:=0) cm (cM ar) (aV 1) aY) (au aY))))) (r1 (Dr (aZ 9))))) (r2 (hp (Ds (mM jy ar (aV 1) (aF aY (aF (bF 6) bC)))))) v_)
(g8 (uR (binop%eu (aZ 3) (au aY)) (r2 (hp (agG o9 (ain oy (au (bS (aZ 0) (au aT))) (gW (j:=3) cm (cM ar) (aV 1) aY)) (qO (jA (qO (jA (fy 10 pq.aW) (jA (fy 11 pq.aW) qP))) (jA (fy 12 pq.aW) qP))) (kk (w_and (fK (pC (by exact ar.units)) i' (aZ 11) (au (d3 (aF aY (aF aY bC))))) (w_and (binop%oS (aZ 12) (au aY)) (qF (fK (pw (by exact ar.units)) i' (aZ 10) (gW (j:=4) cm (cM ar) (aV 1) aY)))))) (bI (Ds (mM jy ar (aV 1) (aF aY (aF (bF 10) bC)))))))) v_)
(g8 (hp (Q0 (j:=9) cm (cM ar) (aV 1) aY (bS (aZ 5) (au aT)) (iu (au (bS (gW (j:=9) cm (cM ar) (aV 1) aY) (au (bS (aZ 5) (au aT))))) (au aT))))
(g8 (hp (dB (px Ll ar (bF 0) (aV 1) (aF (bF 3) (aF (bF 4) (aF (bF 6) bC))))))
(r2 (hp (vU hJ)))))))))))))))))
abbrev C6:Stmt:=top 30
def PR:dc ["_law_plan_here","_law_now","_law_zone"] ["_law_plan_here","_law_now"] (cp C6):=unop%d9 0
def KI(F:c1 K "_law_tick" "_law_tick" C6 f fd)(m:mg "_law_tick"=some (.ref f))(cm:hu 1 ["mode","left","came","lines","shunts","siren","alarms","tries","locked","used","went","story"])(ox:mg "max"=none)(zD:gp P w K mg base "_law_on" 1 1 k 2 tZ)(aj0:gp P w K mg base "_law_alarm" 1 1 k 3 l7):gp P w K mg base "_law_tick" 1 1 (k+1) 2 zg:=
 r0 F PR (unop%b6 F) m unop%lm
  (bx (hs (j:=10) cm (cM ar) (aV 1) aY (iu (gW (j:=10) cm (cM ar) (aV 1) aY) (au aT))) (bx (hs (j:=8) cm (cM ar) (aV 1) aY (Ls ox (gU (au aT) (gU (au (zG (gW (j:=8) cm (cM ar) (aV 1) aY) (au aT))) hI)))) (bx (hs (j:=5) cm (cM ar) (aV 1) aY (Ls ox (gU (au aT) (gU (au (zG (gW (j:=5) cm (cM ar) (aV 1) aY) (au aT))) hI)))) (bI (df (fK (pC (by exact ar.units)) i' (gW (j:=0) cm (cM ar) (aV 1) aY) (au (d3 (aF aY (aF aY bC))))) (bx (hs (j:=1) cm (cM ar) (aV 1) aY (zG (gW (j:=1) cm (cM ar) (aV 1) aY) (au aT))) (bI (df (binop%eu (gW (j:=1) cm (cM ar) (aV 1) aY) (au aT)) (bx (ez 2 PR.aW (qD (j:=2) cm (cM ar) (aV 1) aY)) (bI (df (binop%eu (gW (j:=0) cm (cM ar) (aV 1) aY) (au aY)) (bI (dB (px zD ar (bF 0) (aV 1) bC))) (bx (hs (j:=0) cm (cM ar) (aV 1) aY aY) (bx (hs (j:=2) cm (cM ar) (aV 1) aY hJ) (bI (dB (px aj0 ar (bF 0) (aV 1) (aF (bF 2) bC))))))))) eV))) eV)))))
abbrev CK:Stmt:=top 33
def O':dc ["_law_plan_here","_law_now","_law_event_here","_law_turn"] ["_law_plan_here","_law_now","_law_event_here"] (cp CK):=unop%d9 0
def J6(F:c1 K "_law_happen" "_law_happen" CK f fd)(m:mg "_law_happen"=some (.ref f))(cm:hu 1 ["mode","left","came","lines","shunts","siren","alarms","tries","locked","used","went","story"])(KL:gp P w K mg base "_law_line" 1 1 k 4 zh)(KN:gp P w K mg base "_law_code" 1 1 k 5 zi)(mN:mg "range"=none)(KI:gp P w K mg base "_law_tick" 1 1 k 2 zg):gp P w K mg base "_law_happen" 1 1 (k+1) 3 aj6:=
 r0 F O' (unop%hz F) m unop%lm
  (bI (df (binop%eu (au (bS (aZ 2) (au aT))) (au aY)) (bI (dB (px KL ar (bF 0) (aV 1) (aF (bS (aZ 2) (au aT)) (aF (bS (aZ 2) (au aT)) bC))))) (bI (df (binop%eu (au (bS (aZ 2) (au aT))) (au aY)) (bI (dB (px KN ar (bF 0) (aV 1) (aF (bS (aZ 2) (au aT)) (aF (bS (aZ 2) (au aT)) (aF (bS (aZ 2) (au aT)) bC)))))) (bI (qL o9 (Li mN (au (bS (aZ 2) (au aT)))) (fy 3 O'.aW) (bI (dB (px KI ar (bF 0) (aV 1) bC)))))))))
abbrev Cx:Stmt:=inClass (top 13) 1
def yp:dc ["self","lines","shunts","alarms","used"] ["self"] (cp Cx):=unop%d9 0
def JL(F:c1 K "state" "Course.state" Cx f fd)(m:Meth K bJ "state" f)(a_:unop%gP 0)(fT:mg "tuple"=none):j6 P w K mg base bJ "state" (k+1) 1 yq:=
 zA F yp (unop%bW F) m unop%lm
  (bx (ez 1 yp.aW (Q6 (j:=4) a_ rfl fT (aV 0))) (bx (ez 2 yp.aW (nv fT (gU (h2 (j:=5) a_ (aV 0)) hI))) (bx (ez 3 yp.aW (nv fT (gU (h2 (j:=7) a_ (aV 0)) hI))) (bx (ez 4 yp.aW (Q6 (j:=10) a_ rfl fT (aV 0))) (bI (gn (d3 (aF (lz (j:=1) a_ (aV 0)) (aF (lz (j:=2) a_ (aV 0)) (aF (lz (j:=3) a_ (aV 0)) (aF (bF 1) (aF (bF 2) (aF (lz (j:=6) a_ (aV 0)) (aF (bF 3) (aF (lz (j:=8) a_ (aV 0)) (aF (lz (j:=9) a_ (aV 0)) (aF (bF 4) bC)))))))))))))))))
abbrev u_:Stmt:=inClass (top 13) 0
def adf:dc ["self","plan","state"] ["self","plan","state"] (cp u_):=unop%d9 0
def adl(F:c1 K "__init__" "Course.__init__" u_ f fd)(k8:wu K bJ f)(m:mg "Course"=some (.ref bJ))(a_:unop%gP 0)(rW:mg "dict"=none)(rX:mg "list"=none)(oy:mg "zip"=none):r9 P w K mg base "Course" bJ 0 (k+1) 3 yk:=
 aia F adf (unop%hz F) k8 m unop%lm
  (bx (gx (j:=0) a_ (aV 0) (bF 1)) (bx (gx (j:=1) a_ (aV 0) (bS (aZ 2) (au aT))) (bx (gx (j:=2) a_ (aV 0) (bS (aZ 2) (au aT))) (bx (gx (j:=3) a_ (aV 0) (bS (aZ 2) (au aT))) (bx (Q1 (j:=4) a_ rfl rW oy (aV 0) (au (rT (own:=["zone"]) (caps:=[]) (binop%co u_ ["self","plan","state"]) (mb (bS (aZ 1) (au aT))) (unop%e1 (fy 0 (unop%aW ["zone"]))) (unop%e1 rZ) (unop%e1 (bS (aZ 0) (au aT))))) (au (bS (aZ 2) (au aT)))) (bx (vF (j:=5) a_ (aV 0) (Q5 rX (au (bS (aZ 2) (au aT))))) (bx (gx (j:=6) a_ (aV 0) (bS (aZ 2) (au aT))) (bx (vF (j:=7) a_ (aV 0) (Q5 rX (au (bS (aZ 2) (au aT))))) (bx (gx (j:=8) a_ (aV 0) (bS (aZ 2) (au aT))) (bx (gx (j:=9) a_ (aV 0) (bS (aZ 2) (au aT))) (bx (Q1 (j:=10) a_ rfl rW oy (aV 0) (au (rT (own:=["code"]) (caps:=[]) (binop%co u_ ["self","plan","state"]) (mb (bS (aZ 1) (au aT))) (unop%e1 (fy 0 (unop%aW ["code"]))) (unop%e1 rZ) (unop%e1 (bS (aZ 0) (au aT))))) (au (bS (aZ 2) (au aT)))) (bx (gx (j:=11) a_ (aV 0) aT) (bI (vF (j:=12) a_ (aV 0) (pF bC)))))))))))))))
abbrev Cz:Stmt:=inClass (top 13) 3
def adv:dc ["self","word","name"] ["self","word","name"] (cp Cz):=unop%d9 0
def hr(F:c1 K "tell" "Course.tell" Cz f fd)(m:Meth K bJ "tell" f)(a_:unop%gP 0):dA P w K mg base bJ 0 "tell" (k+1) 3 gw:=
 jX F adv (unop%hz F) m unop%lm
  (bI (RL (j:=12) a_ (aV 0) (d3 (aF (lz (j:=11) a_ (aV 0)) (aF (bF 1) (aF (bF 2) bC))))))
abbrev CU:Stmt:=top 4
def Pq:dc ["plan","name","zone"] ["plan","name"] (cp CU):=unop%d9 0
def y_(F:c1 K "kind_of" "kind_of" CU f fd)(m:mg "kind_of"=some (.ref f)) :Cl P w K mg base "kind_of" (k+1) 2 tM:=
 nA F Pq (unop%b6 F) m unop%lm
  (bx (qL o9 (mb (bS (aZ 0) (au aT))) (fy 2 Pq.aW) (bI (df (binop%eu (au (bS (aZ 2) (au aT))) (aZ 1)) (bI (gn (bS (aZ 2) (au aT)))) eV))) (bI agF))
abbrev Cr:Stmt:=inClass (top 13) 4
def adi:dc ["self"] ["self"] (cp Cr):=unop%d9 0
def ym(F:c1 K "be_loud" "Course.be_loud" Cr f fd)(m:Meth K bJ "be_loud" f)(a_:unop%gP 0):dA P w K mg base bJ 0 "be_loud" (k+1) 1 tD:=
 jX F adi (unop%bW F) m unop%lm
  (bI (gx (j:=6) a_ (aV 0) (bS (au (bS (h2 (j:=0) a_ (aV 0)) (au aT))) (au aT))))
abbrev Cy:Stmt:=inClass (top 13) 5
def ado:dc ["self","zone"] ["self","zone"] (cp Cy):=unop%d9 0
def pj(F:c1 K "alarm" "Course.alarm" Cy f fd)(m:Meth K bJ "alarm" f)(a_:unop%gP 0)(ym:dA P w K mg base bJ 0 "be_loud" k 1 tD)(hr:dA P w K mg base bJ 0 "tell" k 3 gw):dA P w K mg base bJ 0 "alarm" (k+1) 2 l5:=
 jX F ado (unop%b6 F) m unop%lm
  (bx (dB (tR a_ ym ar (aV 0))) (bI (df (fK (pw (by exact ar.units)) i' (aZ 1) (h2 (j:=7) a_ (aV 0))) (bx (RL (j:=7) a_ (aV 0) (bF 1)) (bI (dB (f9 a_ hr ar (aV 0) (aF aY (aF (bF 1) bC)))))) eV)))
abbrev Cq:Stmt:=inClass (top 13) 9
def adh:dc ["self","zone","kind"] ["self","zone","kind"] (cp Cq):=unop%d9 0
def JG(F:c1 K "come_in" "Course.come_in" Cq f fd)(m:Meth K bJ "come_in" f)(a_:unop%gP 0)(hr:dA P w K mg base bJ 0 "tell" k 3 gw)(pj:dA P w K mg base bJ 0 "alarm" k 2 l5):dA P w K mg base bJ 0 "come_in" (k+1) 3 tC:=
 jX F adh (unop%hz F) m unop%lm
  (bx (df (kk (w_or (binop%oS (aZ 2) (au aY)) (r1 (fK (Lu.or Kb) Lg (au (bS (au (bS (h2 (j:=0) a_ (aV 0)) (au aT))) (au aT))) (au aT))))) (bx (dB (f9 a_ pj ar (aV 0) (aF (bF 1) bC))) (bI KU)) eV) (bx (gx (j:=1) a_ (aV 0) aY) (bx (gx (j:=2) a_ (aV 0) (bS (au (bS (h2 (j:=0) a_ (aV 0)) (au aT))) (au aT))) (bx (gx (j:=3) a_ (aV 0) (bF 1)) (bI (dB (f9 a_ hr ar (aV 0) (aF aY (aF (bF 1) bC)))))))))
abbrev Cp:Stmt:=inClass (top 13) 8
def OJ:dc ["self","zone","what","kind"] ["self","zone","what"] (cp Cp):=unop%d9 0
def JF(F:c1 K "disturb" "Course.disturb" Cp f fd)(m:Meth K bJ "disturb" f)(a_:unop%gP 0)(y_:Cl P w K mg base "kind_of" k 2 tM)(pj:dA P w K mg base bJ 0 "alarm" k 2 l5)(hr:dA P w K mg base bJ 0 "tell" k 3 gw)(JG:dA P w K mg base bJ 0 "come_in" k 3 tC):dA P w K mg base bJ 0 "disturb" (k+1) 3 yl:=
 jX F OJ (unop%hz F) m unop%lm
  (bx (ez 3 OJ.aW (jw y_ ar (aF (lz (j:=0) a_ (aV 0)) (aF (bF 1) bC)))) (bI (df (binop%eu (aZ 3) (au aY)) (bI (dB (f9 a_ pj ar (aV 0) (aF (bF 1) bC)))) (bI (df (binop%eu (h2 (j:=1) a_ (aV 0)) (au aY)) (bI (df (binop%eu (aZ 2) (au aY)) (bI (dB (f9 a_ hr ar (aV 0) (aF aY (aF (bF 1) bC))))) eV)) (bI (df (kk (w_or (binop%eu (aZ 2) (au aY)) (r1 (binop%eu (aZ 3) (au aY))))) (bI (dB (f9 a_ pj ar (aV 0) (aF (bF 1) bC)))) (bI (df (binop%eu (h2 (j:=1) a_ (aV 0)) (au aY)) (bI (dB (f9 a_ JG ar (aV 0) (aF (bF 1) (aF (bF 3) bC))))) eV)))))))))
abbrev CA:Stmt:=inClass (top 13) 7
def OR:dc ["self","zone","what","before"] ["self","zone","what"] (cp CA):=unop%d9 0
def JP(F:c1 K "line" "Course.line" CA f fd)(m:Meth K bJ "line" f)(a_:unop%gP 0)(hr:dA P w K mg base bJ 0 "tell" k 3 gw)(JF:dA P w K mg base bJ 0 "disturb" k 3 yl):dA P w K mg base bJ 0 "line" (k+1) 3 yz:=
 jX F OR (unop%hz F) m unop%lm
  (bx (ez 3 OR.aW (Le (j:=4) a_ (cM ar) (aV 0) (aZ 1))) (bx (df (binop%eu (aZ 2) (aZ 3)) (bI KU) eV) (bx (ahD (j:=4) a_ (cM ar) (aV 0) (aZ 1) (bF 2)) (bI (df (binop%eu (aZ 2) (au aY)) (bI (df (binop%eu (aZ 3) (au aY)) (bI (dB (f9 a_ hr ar (aV 0) (aF aY (aF (bF 1) bC))))) eV)) (bI (df (fK (pw (by exact ar.units)) i' (aZ 1) (h2 (j:=5) a_ (aV 0))) (bI (dB (f9 a_ JF ar (aV 0) (aF (bF 1) (aF (bF 2) bC))))) eV)))))))
abbrev CV:Stmt:=top 11
def Pr:dc ["plan","figures","code"] ["plan","figures"] (cp CV):=unop%d9 0
def Kn(F:c1 K "code_of" "code_of" CV f fd)(m:mg "code_of"=some (.ref f)) :Cl P w K mg base "code_of" (k+1) 2 y9:=
 nA F Pr (unop%b6 F) m unop%lm
  (bx (qL o9 (mb (bS (aZ 0) (au aT))) (fy 2 Pr.aW) (bI (df (binop%eu (au (bS (aZ 2) (au aT))) (aZ 1)) (bI (RJ 2)) eV))) (bI (gn hJ)))
abbrev Ci:Stmt:=inClass (top 13) 16
def ac7:dc ["self","code"] ["self","code"] (cp Ci):=unop%d9 0
def Ju(F:c1 K "is_used_up" "Course.is_used_up" Ci f fd)(m:Meth K bJ "is_used_up" f)(a_:unop%gP 0):j6 P w K mg base bJ "is_used_up" (k+1) 2 aj4:=
 zA F ac7 (unop%b6 F) m unop%lm
  (bI (gn (zI (t4 (RW (by exact ar.units)) RY (au (bS (aZ 1) (au aT))) (au aT)) (zw (t4 (Ss.or PV) RZ (au (Le (j:=10) a_ (cM ar) (aV 0) (au (bS (aZ 1) (au aT))))) (au (bS (aZ 1) (au aT))))))))
abbrev Cf:Stmt:=inClass (top 13) 17
def ac6:dc ["self"] ["self"] (cp Cf):=unop%d9 0
def Js(F:c1 K "take_wrong" "Course.take_wrong" Cf f fd)(m:Meth K bJ "take_wrong" f)(a_:unop%gP 0)(hr:dA P w K mg base bJ 0 "tell" k 3 gw)(ym:dA P w K mg base bJ 0 "be_loud" k 1 tD){Je:Tok}(sD:mg "WRONG_IN_A_ROW"=some (.int 3 Je)){Jd:Tok}(sC:mg "TICKS_LOCKED"=some (.int 90 Jd)):dA P w K mg base bJ 0 "take_wrong" (k+1) 1 u6:=
 jX F ac6 (unop%bW F) m unop%lm
  (bx (dB (f9 a_ hr ar (aV 0) (aF aY (aF hJ bC)))) (bx (RK (j:=8) a_ (aV 0) aT) (bI (df (fK (Ss.or PV) RZ (h2 (j:=8) a_ (aV 0)) (au (NY sD))) (bx (gx (j:=8) a_ (aV 0) aT) (bx (gx (j:=9) a_ (aV 0) (NY sC)) (bx (dB (tR a_ ym ar (aV 0))) (bI (dB (f9 a_ hr ar (aV 0) (aF aY (aF hJ bC)))))))) eV))))
abbrev Cd:Stmt:=inClass (top 13) 20
def ac5:dc ["self","deed","zone"] ["self","deed","zone"] (cp Cd):=unop%d9 0
def Jr(F:c1 K "is_untimely" "Course.is_untimely" Cd f fd)(m:Meth K bJ "is_untimely" f)(a_:unop%gP 0)(y_:Cl P w K mg base "kind_of" k 2 tM):j6 P w K mg base bJ "is_untimely" (k+1) 3 ph:=
 zA F ac5 (unop%hz F) m unop%lm
  (bx (df (binop%eu (aZ 1) (au aY)) (bI (gn xK)) eV) (bx (df (binop%oS (h2 (j:=1) a_ (aV 0)) (au aY)) (bI (gn xK)) eV) (bx (df (binop%eu (aZ 1) (au aY)) (bI (gn (uH (binop%p0 (au (jw y_ ar (aF (lz (j:=0) a_ (aV 0)) (aF (bF 2) bC)))) (au aY)) (zH (t4 (pC (by exact ar.units)) i' (aZ 2) (h2 (j:=5) a_ (aV 0))))))) eV) (bI (gn (zI (binop%p0 (aZ 1) (au aY)) (zw (t4 (pw (by exact ar.units)) i' (aZ 2) (h2 (j:=5) a_ (aV 0))))))))))
abbrev u5:Stmt:=inClass (top 13) 6
def OE:dc ["self","kinds","zones"] ["self","kinds"] (cp u5):=unop%d9 0
def yi(F:c1 K "bare_zones" "Course.bare_zones" u5 f fd)(m:Meth K bJ "bare_zones" f)(a_:unop%gP 0):j6 P w K mg base bJ "bare_zones" (k+1) 2 tB:=
 zA F OE (unop%b6 F) m unop%lm
  (bx (Dw 2 OE.aW (own:=["zone"]) (caps:=[(1,"kinds")]) (binop%co u5 ["self","kinds","zones"]) (mb (bS (h2 (j:=0) a_ (aV 0)) (au aT))) (unop%e1 (fy 0 (unop%aW ["zone","kinds"]))) (unop%e1 (zu (fK (pC (by exact ar.units)) i' (au (bS (aZ 0) (au aT))) (aZ 1)))) (unop%e1 (bS (aZ 0) (au aT)))) (bI (gn (rT (own:=["zone"]) (caps:=[(0,"self")]) (binop%co u5 ["self","kinds","zones"]) (mb (bF 2)) (unop%e1 (fy 0 (unop%aW ["zone","self"]))) (unop%e1 (zu (kk (w_and (binop%oS (au (Le (j:=4) (by exact a_) (by exact cM ar) (aV 1) (aZ 0))) (au aY)) (qF (fK (pw (by exact ar.units)) i' (aZ 0) (h2 (j:=5) (by exact a_) (aV 1)))))))) (unop%e1 (bF 0))))))
abbrev Cc:Stmt:=inClass (top 13) 19
def Jo:dc ["self","code","deed","zone","right","bare"] ["self","code","deed","zone"] (cp Cc):=unop%d9 0
def Jp(F:c1 K "what_is_against" "Course.what_is_against" Cc f fd)(m:Meth K bJ "what_is_against" f)(a_:unop%gP 0)(Jr:j6 P w K mg base bJ "is_untimely" k 3 ph)(yi:j6 P w K mg base bJ "bare_zones" k 2 tB){uh:aj}(Zq:mg "KINDS_SHUT_TO_SET"=some (.ref uh))(acL:∃(o:Obj) (its:Array ao) (n:Nat),K.lookup uh=some o/\o.cls=.type "tuple"/\o.data=.seq its n/\its.size<=cF/\Vals ((["day","once"]:List Str).map V.str) its.toList):j6 P w K mg base bJ "what_is_against" (k+1) 4 ye:=
 zA F Jo (unop%mV F) m unop%lm
  (bx (ez 4 Jo.aW (aiZ (binop%eu (aZ 2) (au aY)) aY (bF 2))) (bx (df (fK (pw (by exact ar.units)) i' (aZ 4) (au (bS (aZ 1) (au aT)))) (bI (gn (d3 (aF aY (aF (bS (aZ 1) (au aT)) bC))))) eV) (bx (df (Dr (au (zl a_ Jr ar (aV 0) (aF (bF 2) (aF (bF 3) bC))))) (bI (gn (d3 (aF aY (aF (bS (aZ 1) (au aT)) bC))))) eV) (bx (ez 5 Jo.aW (zl a_ yi ar (aV 0) (aF (NZ Zq acL) bC))) (bx (df (kk (w_and (binop%eu (aZ 2) (au aY)) (qF (ahy (aZ 5))))) (bI (gn (d3 (aF aY (aF (bS (aZ 5) (au aT)) bC))))) eV) (bI (gn hJ)))))))
abbrev Ce:Stmt:=inClass (top 13) 13
def OB:dc ["self","zone"] ["self"] (cp Ce):=unop%d9 0
def yf(F:c1 K "end_leaving" "Course.end_leaving" Ce f fd)(m:Meth K bJ "end_leaving" f)(a_:unop%gP 0)(hr:dA P w K mg base bJ 0 "tell" k 3 gw)(yi:j6 P w K mg base bJ "bare_zones" k 2 tB)(pj:dA P w K mg base bJ 0 "alarm" k 2 l5){ug:aj}(Zp:mg "KINDS_LEFT_BY"=some (.ref ug))(acI:∃(o:Obj) (its:Array ao) (n:Nat),K.lookup ug=some o/\o.cls=.type "tuple"/\o.data=.seq its n/\its.size<=cF/\Vals ((["inner","way"]:List Str).map V.str) its.toList):dA P w K mg base bJ 0 "end_leaving" (k+1) 1 tw:=
 jX F OB (unop%bW F) m unop%lm
  (bx (gx (j:=1) a_ (aV 0) aY) (bx (gx (j:=2) a_ (aV 0) aT) (bx (dB (f9 a_ hr ar (aV 0) (aF aY (aF hJ bC)))) (bI (qL o9 (mb (zl a_ yi ar (aV 0) (aF (NZ Zp acI) bC))) (fy 1 OB.aW) (bI (dB (f9 a_ pj ar (aV 0) (aF (bF 1) bC)))))))))
abbrev Cu:Stmt:=inClass (top 13) 22
def adn:dc ["self","who"] ["self","who"] (cp Cu):=unop%d9 0
def JI(F:c1 K "do_set" "Course.do_set" Cu f fd)(m:Meth K bJ "do_set" f)(a_:unop%gP 0)(hr:dA P w K mg base bJ 0 "tell" k 3 gw)(yf:dA P w K mg base bJ 0 "end_leaving" k 1 tw):dA P w K mg base bJ 0 "do_set" (k+1) 2 vc:=
 jX F adn (unop%b6 F) m unop%lm
  (bx (vF (j:=7) a_ (aV 0) (pF bC)) (bx (gx (j:=6) a_ (aV 0) aT) (bx (gx (j:=1) a_ (aV 0) aY) (bx (gx (j:=2) a_ (aV 0) (bS (au (bS (h2 (j:=0) a_ (aV 0)) (au aT))) (au aT))) (bx (dB (f9 a_ hr ar (aV 0) (aF aY (aF (bF 1) bC)))) (bI (df (fK (Lu.or Kb) Lg (h2 (j:=2) a_ (aV 0)) (au aT)) (bI (dB (tR a_ yf ar (aV 0)))) eV)))))))
abbrev Cn:Stmt:=inClass (top 13) 23
def ade:dc ["self","who"] ["self","who"] (cp Cn):=unop%d9 0
def JC(F:c1 K "do_unset" "Course.do_unset" Cn f fd)(m:Meth K bJ "do_unset" f)(a_:unop%gP 0)(hr:dA P w K mg base bJ 0 "tell" k 3 gw):dA P w K mg base bJ 0 "do_unset" (k+1) 2 yj:=
 jX F ade (unop%b6 F) m unop%lm
  (bx (gx (j:=1) a_ (aV 0) aY) (bx (gx (j:=2) a_ (aV 0) aT) (bx (gx (j:=6) a_ (aV 0) aT) (bx (gx (j:=3) a_ (aV 0) hJ) (bx (vF (j:=5) a_ (aV 0) (pF bC)) (bI (dB (f9 a_ hr ar (aV 0) (aF aY (aF (bF 1) bC))))))))))
abbrev Co:Stmt:=inClass (top 13) 21
def adg:dc ["self","who","deed","zone"] ["self","who","deed","zone"] (cp Co):=unop%d9 0
def JE(F:c1 K "do_deed" "Course.do_deed" Co f fd)(m:Meth K bJ "do_deed" f)(a_:unop%gP 0)(JI:dA P w K mg base bJ 0 "do_set" k 2 vc)(JC:dA P w K mg base bJ 0 "do_unset" k 2 yj)(pE:mg "sorted"=none)(hr:dA P w K mg base bJ 0 "tell" k 3 gw):dA P w K mg base bJ 0 "do_deed" (k+1) 4 rD:=
 jX F adg (unop%mV F) m unop%lm
  (bI (df (binop%eu (aZ 2) (au aY)) (bI (dB (f9 a_ JI ar (aV 0) (aF (bF 1) bC)))) (bI (df (binop%eu (aZ 2) (au aY)) (bI (dB (f9 a_ JC ar (aV 0) (aF (bF 1) bC)))) (bI (df (binop%eu (aZ 2) (au aY)) (bx (vF (j:=5) a_ (aV 0) (ae9 rfl pE (au (iu (h2 (j:=5) a_ (aV 0)) (au (Dx (aF (bF 3) bC))))))) (bI (dB (f9 a_ hr ar (aV 0) (aF aY (aF (bF 3) bC)))))) (bx (aiP (j:=5) a_ (aV 0) (bF 3)) (bI (dB (f9 a_ hr ar (aV 0) (aF aY (aF (bF 3) bC))))))))))))
abbrev Cg:Stmt:=inClass (top 13) 18
def OC:dc ["self","code","deed","zone","against"] ["self","code","deed","zone"] (cp Cg):=unop%d9 0
def Jt(F:c1 K "take_right" "Course.take_right" Cg f fd)(m:Meth K bJ "take_right" f)(a_:unop%gP 0)(Jp:j6 P w K mg base bJ "what_is_against" k 4 ye)(JE:dA P w K mg base bJ 0 "do_deed" k 4 rD)(hr:dA P w K mg base bJ 0 "tell" k 3 gw):dA P w K mg base bJ 0 "take_right" (k+1) 4 u7:=
 jX F OC (unop%mV F) m unop%lm
  (bx (ez 4 OC.aW (zl a_ Jp ar (aV 0) (aF (bF 1) (aF (bF 2) (aF (bF 3) bC))))) (bI (df (Sn (aZ 4)) (bx (agH (j:=10) a_ (cM ar) (aV 0) (au (bS (aZ 1) (au aT))) aT) (bI (dB (f9 a_ JE ar (aV 0) (aF (bS (aZ 1) (au aT)) (aF (bF 2) (aF (bF 3) bC))))))) (bI (dB (f9 a_ hr ar (aV 0) (aF (bS (aZ 4) (au aT)) (aF (bS (aZ 4) (au aT)) bC))))))))
abbrev CB:Stmt:=inClass (top 13) 15
def OS:dc ["self","figures","deed","zone","code"] ["self","figures","deed","zone"] (cp CB):=unop%d9 0
def JQ(F:c1 K "code" "Course.code" CB f fd)(m:Meth K bJ "code" f)(a_:unop%gP 0)(Kn:Cl P w K mg base "code_of" k 2 y9)(hr:dA P w K mg base bJ 0 "tell" k 3 gw)(Ju:j6 P w K mg base bJ "is_used_up" k 2 aj4)(Js:dA P w K mg base bJ 0 "take_wrong" k 1 u6)(Jt:dA P w K mg base bJ 0 "take_right" k 4 u7):dA P w K mg base bJ 0 "code" (k+1) 4 rH:=
 jX F OS (unop%mV F) m unop%lm
  (bx (ez 4 OS.aW (jw Kn ar (aF (lz (j:=0) a_ (aV 0)) (aF (bF 1) bC)))) (bI (df (fK (zK.or y6) zz (h2 (j:=9) a_ (aV 0)) (au aT)) (bI (dB (f9 a_ hr ar (aV 0) (aF aY (aF hJ bC))))) (bI (df (kk (w_or (Sn (aZ 4)) (r1 (Dr (au (zl a_ Ju ar (aV 0) (aF (bF 4) bC))))))) (bI (dB (tR a_ Js ar (aV 0)))) (bx (gx (j:=8) a_ (aV 0) aT) (bI (dB (f9 a_ Jt ar (aV 0) (aF (bF 4) (aF (bF 2) (aF (bF 3) bC))))))))))))
abbrev CJ:Stmt:=top 12
def ad6:dc ["ticks","many"] ["ticks","many"] (cp CJ):=unop%d9 0
def y2(F:c1 K "lessened" "lessened" CJ f fd)(m:mg "lessened"=some (.ref f))(ox:mg "max"=none):Cl P w K mg base "lessened" (k+1) 2 ajZ:=
 nA F ad6 (unop%b6 F) m unop%lm
  (bI (gn (Ls ox (gU (au (zG (aZ 0) (aZ 1))) (gU (au aT) hI)))))
abbrev Ck:Stmt:=inClass (top 13) 11
def ac8:dc ["self","many"] ["self","many"] (cp Ck):=unop%d9 0
def yh(F:c1 K "count_down" "Course.count_down" Ck f fd)(m:Meth K bJ "count_down" f)(a_:unop%gP 0)(y2:Cl P w K mg base "lessened" k 2 ajZ):dA P w K mg base bJ 0 "count_down" (k+1) 2 tA:=
 jX F ac8 (unop%b6 F) m unop%lm
  (bx (RK (j:=11) a_ (aV 0) (bF 1)) (bx (gx (j:=9) a_ (aV 0) (jw y2 ar (aF (lz (j:=9) a_ (aV 0)) (aF (bF 1) bC)))) (bx (gx (j:=6) a_ (aV 0) (jw y2 ar (aF (lz (j:=6) a_ (aV 0)) (aF (bF 1) bC)))) (bI (gx (j:=2) a_ (aV 0) (jw y2 ar (aF (lz (j:=2) a_ (aV 0)) (aF (bF 1) bC))))))))
abbrev Cj:Stmt:=inClass (top 13) 14
def OD:dc ["self","zone"] ["self"] (cp Cj):=unop%d9 0
def Jv(F:c1 K "end_coming" "Course.end_coming" Cj f fd)(m:Meth K bJ "end_coming" f)(a_:unop%gP 0)(pj:dA P w K mg base bJ 0 "alarm" k 2 l5):dA P w K mg base bJ 0 "end_coming" (k+1) 1 yg:=
 jX F OD (unop%bW F) m unop%lm
  (bx (ez 1 OD.aW (lz (j:=3) a_ (aV 0))) (bx (gx (j:=1) a_ (aV 0) aY) (bx (gx (j:=3) a_ (aV 0) hJ) (bI (dB (f9 a_ pj ar (aV 0) (aF (bF 1) bC)))))))
abbrev Cm:Stmt:=inClass (top 13) 12
def adb:dc ["self"] ["self"] (cp Cm):=unop%d9 0
def JB(F:c1 K "end_time" "Course.end_time" Cm f fd)(m:Meth K bJ "end_time" f)(a_:unop%gP 0)(yf:dA P w K mg base bJ 0 "end_leaving" k 1 tw)(Jv:dA P w K mg base bJ 0 "end_coming" k 1 yg):dA P w K mg base bJ 0 "end_time" (k+1) 1 u':=
 jX F adb (unop%bW F) m unop%lm
  (bI (df (binop%eu (h2 (j:=1) a_ (aV 0)) (au aY)) (bI (dB (tR a_ yf ar (aV 0)))) (bI (dB (tR a_ Jv ar (aV 0))))))
abbrev Cw:Stmt:=inClass (top 13) 10
def OP:dc ["self","many","rest"] ["self","many"] (cp Cw):=unop%d9 0
def JK(F:c1 K "ticks" "Course.ticks" Cw f fd)(m:Meth K bJ "ticks" f)(a_:unop%gP 0)(yh:dA P w K mg base bJ 0 "count_down" k 2 tA)(JB:dA P w K mg base bJ 0 "end_time" k 1 u'):dA P w K mg base bJ 0 "ticks" (k+1) 2 rF:=
 jX F OP (unop%b6 F) m unop%lm
  (bx (df (fK (wc.or vv) vX (aZ 1) (au aT)) (bI KU) eV) (bI (df (kk (w_and (fK (pC (by exact ar.units)) i' (h2 (j:=1) a_ (aV 0)) (au (d3 (aF aY (aF aY bC))))) (qF (fK (Lu.or Kb) Lg (h2 (j:=2) a_ (aV 0)) (aZ 1))))) (bx (ez 2 OP.aW (zG (aZ 1) (h2 (j:=2) a_ (aV 0)))) (bx (dB (f9 a_ yh ar (aV 0) (aF (lz (j:=2) a_ (aV 0)) bC))) (bx (dB (tR a_ JB ar (aV 0))) (bI (dB (f9 a_ yh ar (aV 0) (aF (bF 2) bC))))))) (bI (dB (f9 a_ yh ar (aV 0) (aF (bF 1) bC)))))))
abbrev Ct:Stmt:=inClass (top 13) 2
def adm:dc ["self","event"] ["self","event"] (cp Ct):=unop%d9 0
def JH(F:c1 K "happen" "Course.happen" Ct f fd)(m:Meth K bJ "happen" f)(a_:unop%gP 0)(JP:dA P w K mg base bJ 0 "line" k 3 yz)(JQ:dA P w K mg base bJ 0 "code" k 4 rH)(JK:dA P w K mg base bJ 0 "ticks" k 2 rF):dA P w K mg base bJ 0 "happen" (k+1) 2 rE:=
 jX F adm (unop%b6 F) m unop%lm
  (bI (df (binop%eu (au (bS (aZ 1) (au aT))) (au aY)) (bI (dB (f9 a_ JP ar (aV 0) (aF (bS (aZ 1) (au aT)) (aF (bS (aZ 1) (au aT)) bC))))) (bI (df (binop%eu (au (bS (aZ 1) (au aT))) (au aY)) (bI (dB (f9 a_ JQ ar (aV 0) (aF (bS (aZ 1) (au aT)) (aF (bS (aZ 1) (au aT)) (aF (bS (aZ 1) (au aT)) bC)))))) (bI (dB (f9 a_ JK ar (aV 0) (aF (bS (aZ 1) (au aT)) bC))))))))
abbrev CG:Stmt:=top 14
def JS:dc ["plan","state","row","course","event"] ["plan","state","row"] (cp CG):=unop%d9 0
def Pa(ts:List T)(s:aM)(h:rM ts=some s):∃c os,s=.obj .own c os:=QA (b:=JX) h
def yU(F:c1 K "course_of" "course_of" CG f fd)(m:mg "course_of"=some (.ref f))(a_:unop%gP 0)(Vk:r9 P w K mg base "Course" bJ 0 k 3 yk)(JH:dA P w K mg base bJ 0 "happen" k 2 rE):nE P w K mg base "course_of" (k+2) 3 rM:=
 Sf F JS (unop%hz F) m unop%lm
  (bx (Lb 3 JS.aW (ai5 a_ Vk ar (aF (bF 0) (aF (bF 1) bC)))) (bx (qL o9 (mb (bF 2)) (fy 4 JS.aW) (bI (dB (f9 a_ JH (ar.mono (pa _)) (aV 3) (aF (bF 4) bC))))) (bI (RI (aV 3)))))
abbrev Dv:Stmt:=top 15
def agE:dc ["plan","state","event"] ["plan","state","event"] (cp Dv):=unop%d9 0
def Lm(F:c1 K "gone" "gone" Dv f fd)(m:mg "gone"=some (.ref f))(a_:unop%gP 0)(JL:j6 P w K mg base bJ "state" k 1 yq)(yU:nE P w K mg base "course_of" k 3 rM):Cl P w K mg base "gone" (k+1) 3 v7:=
 nA F agE (unop%hz F) m unop%lm
  (bI (gn (aiW a_ JL ar (Lh yU Pa ar (aF (bF 0) (aF (bF 1) (aF (d3 (aF (bF 2) bC)) bC)))))))
abbrev zj:Stmt:=top 16
def afS:dc ["plan","state","event"] ["plan","state","event"] (cp zj):=unop%d9 0
def K7(F:c1 K "words" "words" zj f fd)(m:mg "words"=some (.ref f))(a_:unop%gP 0)(fT:mg "tuple"=none)(yU:nE P w K mg base "course_of" k 3 rM):Cl P w K mg base "words" (k+1) 3 vO:=
 nA F afS (unop%hz F) m unop%lm
  (bI (gn (nv fT (gU (au (rT (own:=["past","word","name"]) (caps:=[]) (binop%co zj ["plan","state","event"]) (mb (ae_ (j:=12) a_ (Lh yU Pa ar (aF (bF 0) (aF (bF 1) (aF (d3 (aF (bF 2) bC)) bC)))))) (unop%e1 (qO (jA (fy 0 (unop%aW ["past","word","name"])) (jA (fy 1 (unop%aW ["past","word","name"])) (jA (fy 2 (unop%aW ["past","word","name"])) qP))))) (unop%e1 rZ) (unop%e1 (d3 (aF (bF 1) (aF (bF 2) bC)))))) hI))))
abbrev CO:Stmt:=top 25
def J0:dc ["_law_now","_law_first","_law_more"] ["_law_now"] (cp CO):=unop%d9 0
def Kk(F:c1 K "_law_state" "_law_state" CO f fd)(m:mg "_law_state"=some (.ref f))(cm:hu 1 ["mode","left","came","lines","shunts","siren","alarms","tries","locked","used","went","story"])(fT:mg "tuple"=none)(pE:mg "sorted"=none):r_ P w K mg base "_law_state" (k+1) 1 rO:=
 aiu F J0 (unop%bW F) m unop%lm
  (bx (ez 1 J0.aW (d3 (aF (qD (j:=0) cm (cM ar) (aV 0) aY) (aF (qD (j:=1) cm (cM ar) (aV 0) aY) (aF (qD (j:=2) cm (cM ar) (aV 0) aY) (aF (nv fT (gU (gW (j:=3) cm (cM ar) (aV 0) aY) hI)) bC)))))) (bx (ez 2 J0.aW (d3 (aF (nv fT (gU (au (afY rfl pE (gU (gW (j:=4) cm (cM ar) (aV 0) aY) hI))) hI)) (aF (qD (j:=5) cm (cM ar) (aV 0) aY) (aF (nv fT (gU (gW (j:=6) cm (cM ar) (aV 0) aY) hI)) bC))))) (bI (gn (iu (au (iu (aZ 1) (aZ 2))) (au (d3 (aF (qD (j:=7) cm (cM ar) (aV 0) aY) (aF (qD (j:=8) cm (cM ar) (aV 0) aY) (aF (nv fT (gU (gW (j:=9) cm (cM ar) (aV 0) aY) hI)) bC))))))))))
abbrev r3:Stmt:=top 34
def vT:dc ["_law_script","_law_plan_here","_law_now","_law_state_here","_law_event_here"] ["_law_script"] (cp r3):=unop%d9 0
def aja(F:c1 K "law" "law" r3 f fd)(cm:hu 1 ["mode","left","came","lines","shunts","siren","alarms","tries","locked","used","went","story"])(KJ:Cl P w K mg base "_law_plan" k 1 C9)(Km:nE P w K mg base "_law_begun" k 1 vw)(K9:Cl P w K mg base "begun" k 1 zt)(K8:Cl P w K mg base "_law_row" k 3 tW)(C3:Cl P w K mg base "_law_mixed" k 2 oo)(J6:gp P w K mg base "_law_happen" 1 1 k 3 aj6)(Lm:Cl P w K mg base "gone" k 3 v7)(K7:Cl P w K mg base "words" k 3 vO)(fT:mg "tuple"=none)(rY:mg "repr"=none)(Kk:r_ P w K mg base "_law_state" k 1 rO):fw P w K mg base ajN (k+1) f fd ["_law_script"] (spT K 1 wj):=
 Sa F vT unop%lm
  (bx (ez 1 vT.aW (jw KJ ar (aF (jw C3 ar (aF (bF 0) (aF aT bC))) bC))) (bx (Lb 2 vT.aW (Lh Km afe ar (aF (bF 1) bC))) (bx (ez 3 vT.aW (jw K9 ar (aF (bF 1) bC))) (bx (qL o9 (mb (jw K8 ar (aF (bF 1) (aF (jw C3 ar (aF (bF 0) (aF aT bC))) (aF aT bC))))) (fy 4 vT.aW) (bx (vE (j:=11) cm (cM ar) (aV 2) aY (pF bC)) (bx (dB (px J6 ar (bF 1) (aV 2) (aF (bF 4) bC))) (bx (df (binop%oS (au (jw K7 ar (aF (bF 1) (aF (bF 3) (aF (bF 4) bC))))) (au (nv fT (gU (au (afZ (own:=["_law_told"]) (caps:=[]) (binop%co r3 ["_law_script","_law_plan_here","_law_now","_law_state_here","_law_event_here"]) (aio (gW (j:=11) cm (cM ar) (aV 2) aY)) (unop%e1 (fy 0 (unop%aW ["_law_told"]))) (unop%e1 rZ) (unop%e1 (KW (aZ 0) (Dz (au aT)) R3)))) hI)))) (bI (gn xK)) eV) (bx (ez 3 vT.aW (jw Lm ar (aF (bF 1) (aF (bF 3) (aF (bF 4) bC))))) (bI (df (binop%oS (au (RO ar rY (gU (aZ 3) hI))) (au (RO ar rY (gU (au (agP Kk ar (Up (aV 2) aiw))) hI)))) (bI (gn xK)) eV))))))) (bI (gn xK))))))
end
end je
end
section
namespace D
open PySem
def QG(ss:List Str)(h:∀x∈ss,(iU x).canLay0=true):kN (ss.map .str)=true/\kM (ss.map .str)<=1:=by
 induction ss with
|nil=>simp[kN,kM]
|cons n ns b2=>
  have af:=h n (by simp);have ak:=b2 λx hx=>h x (by simp[hx]);simp[kN,kM,nr,af,ak]
theorem KD(n:Str):∀ns:List Str,mn (.str n) (ns.map .str)=decide (n∈ns)
| []=>by simp[mn]
|m::ns=>by
  have b2:=KD n ns;unfold mn at b2 ⊢;rw[dk,List.any_cons,b2];simp[hG,Bool.beq_eq_decide_eq,eq_comm]
def rU(n:Int):hj (.int n)=true:=by simp[hj,PyData.canLay0,nr]
def vH{x:Str}(h:(iU x).canLay0=true):hj (.str x)=true:=by simp[hj,nr,h]
def Kc(ss:List Str)(h:∀x∈ss,(iU x).canLay0=true):n8 (ss.map .str)=true:=by
 have:=QG ss h;simp[n8,this.1];omega
def ag9(neg:Bool)(n:Str)(ns:List Str)(h0:(iU n).canLay0=true)(h:∀x∈ns,(iU x).canLay0=true):dj neg (.str n) (.tuple (ns.map .str))=some (.bool (if neg then !decide (n∈ns) else decide (n∈ns))):=by
 simp only[dj,vH h0,Kc ns h,KD,Bool.and_self,if_true]
end D
end
section
namespace a'
open D PySem
structure eP where
 cS:Str
 ft:Str
 ih:List Str
 uses:Int
structure aU where
 bM:List (Str×Str)
 codes:List eP
 leave:Int
 gb:Int
 loud:Int
structure aG where
 mode:Str
 left:Int
 eM:Option Str
 lines:List (Str×Str)
 bU:List Str
 c6:Int
 bN:List Str
 tries:Int
 locked:Int
 used:List (Str×Int)
 past:Int
 told:List (Int×Str×Option Str)
def dQ:Option Str->T
|none=>.none
|some x=>.str x
def dD(z:Str×Str):T:=.tuple [.str z.1,.str z.2]
def dC(c:eP):T:=.tuple [.str c.cS,.str c.ft,.tuple (c.ih.map .str),.int c.uses]
noncomputable def b8(p:aU):T:=.tuple [.tuple (p.bM.map dD),.tuple (p.codes.map dC),.tuple [.int p.leave,.int p.gb,.int p.loud]]
def m2(w:Int×Str×Option Str):T:=.tuple [.int w.1,.str w.2.1,dQ w.2.2]
def iG(l:List (Str×Str)):List (D.Key×T):=l.map λp=>(.inr p.1,.str p.2)
def iF(l:List (Str×Int)):List (D.Key×T):=l.map λp=>(.inr p.1,.int p.2)
noncomputable def encC(p:aU)(c:aG):List aM:=[.ab (b8 p),.ab (.str c.mode),.ab (.int c.left),.ab (dQ c.eM),.hN (iG c.lines),.own (c.bU.map .str),.ab (.int c.c6),.own (c.bN.map .str),.ab (.int c.tries),.ab (.int c.locked),.hN (iF c.used),.ab (.int c.past),.own (c.told.map m2)]
def tE:¬(("off":Str)="leaving"):=by decide +kernel
def vy:¬(("off":Str)="on"):=by decide +kernel
def qw:¬(("off":Str)="coming"):=by decide +kernel
def yt:¬(("leaving":Str)="off"):=by decide +kernel
def yE:¬(("leaving":Str)="on"):=by decide +kernel
def va:¬(("leaving":Str)="coming"):=by decide +kernel
def rR:¬(("on":Str)="off"):=by decide +kernel
def vg:¬(("on":Str)="leaving"):=by decide +kernel
def rL:¬(("on":Str)="coming"):=by decide +kernel
def yF:¬(("coming":Str)="off"):=by decide +kernel
def vb:¬(("coming":Str)="leaving"):=by decide +kernel
def yQ:¬(("coming":Str)="on"):=by decide +kernel
def yM:¬(("shut":Str)="open"):=by decide +kernel
def yV:¬(("shut":Str)="cut"):=by decide +kernel
def yN:¬(("open":Str)="shut"):=by decide +kernel
def yW:¬(("open":Str)="cut"):=by decide +kernel
def yZ:¬(("cut":Str)="shut"):=by decide +kernel
def y0:¬(("cut":Str)="open"):=by decide +kernel
def yP:¬(("day":Str)="inner"):=by decide +kernel
def yY:¬(("day":Str)="once"):=by decide +kernel
def y7:¬(("day":Str)="way"):=by decide +kernel
def aj5:¬(("inner":Str)="day"):=by decide +kernel
def vh:¬(("inner":Str)="once"):=by decide +kernel
def vj:¬(("inner":Str)="way"):=by decide +kernel
def vq:¬(("once":Str)="day"):=by decide +kernel
def yC:¬(("once":Str)="inner"):=by decide +kernel
def yX:¬(("once":Str)="way"):=by decide +kernel
def tK:¬(("way":Str)="day"):=by decide +kernel
def tF:¬(("way":Str)="inner"):=by decide +kernel
def tH:¬(("way":Str)="once"):=by decide +kernel
def vi:¬(("set":Str)="unset"):=by decide +kernel
def rK:¬(("set":Str)="shunt"):=by decide +kernel
def qx:¬(("set":Str)="free"):=by decide +kernel
def rI:¬(("unset":Str)="set"):=by decide +kernel
def rG:¬(("unset":Str)="shunt"):=by decide +kernel
def qv:¬(("unset":Str)="free"):=by decide +kernel
def rJ:¬(("shunt":Str)="set"):=by decide +kernel
def pk:¬(("shunt":Str)="unset"):=by decide +kernel
def vf:¬(("shunt":Str)="free"):=by decide +kernel
def rN:¬(("free":Str)="set"):=by decide +kernel
def oi:¬(("free":Str)="unset"):=by decide +kernel
def oj:¬(("free":Str)="shunt"):=by decide +kernel
def yO:¬(("line":Str)="code"):=by decide +kernel
def yD:¬(("line":Str)="ticks"):=by decide +kernel
def vl:¬(("code":Str)="line"):=by decide +kernel
def yG:¬(("code":Str)="ticks"):=by decide +kernel
def vd:¬(("ticks":Str)="line"):=by decide +kernel
def ve:¬(("ticks":Str)="code"):=by decide +kernel
def tell(w:Str)(n:Option Str)(c:aG):aG:={c with told:=c.told++[(c.past,w,n)]}
def hA(p:aU)(c:aG):aG:={c with c6:=p.loud}
noncomputable def dd(p:aU)(z:Str)(c:aG):aG:=if z∈c.bN then hA p c else tell "alarm" (some z) {hA p c with bN:=c.bN++[z]}
section
variable (p:aU)(c:aG)
def DI:(encC p c).length=13:=rfl
def eB:(encC p c)[0]?=some (.ab (b8 p)):=rfl
def aQ:(encC p c)[1]?=some (.ab (.str c.mode)):=rfl
def a9:(encC p c)[2]?=some (.ab (.int c.left)):=rfl
def gc:(encC p c)[3]?=some (.ab (dQ c.eM)):=rfl
def ji:(encC p c)[4]?=some (.hN (iG c.lines)):=rfl
def Ae:(encC p c)[5]?=some (.own (c.bU.map .str)):=rfl
def q6:(encC p c)[6]?=some (.ab (.int c.c6)):=rfl
def q7:(encC p c)[7]?=some (.own (c.bN.map .str)):=rfl
def Af:(encC p c)[8]?=some (.ab (.int c.tries)):=rfl
def q8:(encC p c)[9]?=some (.ab (.int c.locked)):=rfl
def Ac:(encC p c)[10]?=some (.hN (iF c.used)):=rfl
def Ad:(encC p c)[11]?=some (.ab (.int c.past)):=rfl
def wK:(encC p c)[12]?=some (.own (c.told.map m2)):=rfl
def s1(x:Str):(encC p c).set 1 (.ab (.str x))=encC p {c with mode:=x}:=rfl
def s2(x:Int):(encC p c).set 2 (.ab (.int x))=encC p {c with left:=x}:=rfl
def s3(x:Str):(encC p c).set 3 (.ab (.str x))=encC p {c with eM:=some x}:=rfl
def BF:(encC p c).set 3 (.ab .none)=encC p {c with eM:=none}:=rfl
def s4(l:List (Str×Str)):(encC p c).set 4 (.hN (iG l))=encC p {c with lines:=l}:=rfl
def s5(l:List Str):(encC p c).set 5 (.own (l.map .str))=encC p {c with bU:=l}:=rfl
def BG:(encC p c).set 5 (.own [])=encC p {c with bU:=[]}:=rfl
def dK(x:Int):(encC p c).set 6 (.ab (.int x))=encC p {c with c6:=x}:=rfl
def cG(l:List Str):(encC p c).set 7 (.own (l.map .str))=encC p {c with bN:=l}:=rfl
def BI:(encC p c).set 7 (.own [])=encC p {c with bN:=[]}:=rfl
def BH(l:List Str)(z:Str):(encC p c).set 7 (.own (l.map .str++[.str z]))=encC p {c with bN:=l++[z]}:=by simp[encC]
def cY(x:Int):(encC p c).set 8 (.ab (.int x))=encC p {c with tries:=x}:=rfl
def dV(x:Int):(encC p c).set 9 (.ab (.int x))=encC p {c with locked:=x}:=rfl
def ej(l:List (Str×Int)):(encC p c).set 10 (.hN (iF l))=encC p {c with used:=l}:=rfl
def ek(x:Int):(encC p c).set 11 (.ab (.int x))=encC p {c with past:=x}:=rfl
def BE(l:List (Int×Str×Option Str))(i:Int)(w:Str)(n:Option Str):(encC p c).set 12 (.own (l.map m2++[.tuple [.int i,.str w,dQ n]]))=encC p {c with told:=l++[(i,w,n)]}:=by simp[encC,m2]
end
end a'
open D a'
open PySem hiding run fresh code
local macro_rules
| `(tactic| simp! [ik,$xs,*] $[$l]?)=>`(tactic| simp[DI,eB,aQ,a9,gc,ji,Ae,q6,q7,Af,q8,Ac,Ad,wK,s1,s2,s3,BF,s4,s5,BG,dK,cG,BI,BH,cY,dV,ej,ek,BE,runM,iQ,jz,l8,cq,dS,kR,g7,mO,ij,cy,ha,mf,jI,f6,fh,fld,eR,k2,kE,k1,ajQ,nB,mP,never,pU,mu,jZ,eI,seq,iff,a0,ip,eb,eY,jn,er,ofT,fo,ag,bV,args,aa,nm,aL,cX,skip,asg,jg,hh,par,b1,eU,hR,jc,aN,fW,fP,bH,di,f3,dv,comp,hH,$xs,*] $[$l]?)
local macro_rules
| `(tactic| simp! [jP,$xs,*] $[$l]?)=>`(tactic| simp[eI,seq,iff,a0,ip,eb,eY,jn,er,ofT,fo,ag,bV,args,aa,nm,aL,cX,skip,asg,jg,hh,par,b1,eU,hR,jc,aN,fW,fP,bH,di,f3,dv,comp,hH,$xs,*] $[$l]?)
| `(tactic| simp! [jP] $[$l]?)=>`(tactic| simp[eI,seq,iff,a0,ip,eb,eY,jn,er,ofT,fo,ag,bV,args,aa,nm,aL,cX,skip,asg,jg,hh,par,b1,eU,hR,jc,aN,fW,fP,bH,di,f3,dv,comp,hH] $[$l]?)
local macro_rules
| `(tactic| simp! [jr,$xs,*] $[$l]?)=>`(tactic| simp[cV,ke,d8,oDiv,oMod,qb,hS,Bz,lS,gy,DG,By,oLt,oLe,hD,rl,big,DI,eB,aQ,a9,gc,ji,Ae,q6,q7,Af,q8,Ac,Ad,wK,s1,s2,s3,BF,s4,s5,BG,dK,cG,BI,BH,cY,dV,ej,ek,BE,runM,iQ,jz,l8,cq,dS,kR,g7,mO,ij,cy,ha,mf,jI,f6,fh,fld,eR,k2,kE,k1,ajQ,nB,mP,never,pU,mu,jZ,eI,seq,iff,a0,ip,eb,eY,jn,er,ofT,fo,ag,bV,args,aa,nm,aL,cX,skip,asg,jg,hh,par,b1,eU,hR,jc,aN,fW,fP,bH,di,f3,dv,comp,hH,$xs,*] $[$l]?)
local macro_rules
| `(tactic| simp! [n',$xs,*] $[$l]?)=>`(tactic| simp[runM,iQ,jz,l8,cq,dS,kR,g7,mO,ij,cy,ha,mf,jI,f6,fh,fld,eR,k2,kE,k1,ajQ,nB,mP,never,pU,mu,jZ,eI,seq,iff,a0,ip,eb,eY,jn,er,ofT,fo,ag,bV,args,aa,nm,aL,cX,skip,asg,jg,hh,par,b1,eU,hR,jc,aN,fW,fP,bH,di,f3,dv,comp,hH,$xs,*] $[$l]?)
local macro_rules
| `(tactic| simp! [hT,$xs,*] $[$l]?)=>`(tactic| simp[DI,eB,aQ,a9,gc,ji,Ae,q6,q7,Af,q8,Ac,Ad,wK,s1,s2,s3,BF,s4,s5,BG,dK,cG,BI,BH,cY,dV,ej,ek,BE,runM,iQ,jz,l8,cq,dS,kR,g7,mO,ij,cy,ha,mf,jI,f6,fh,fld,eR,k2,kE,k1,ajQ,nB,mP,never,pU,mu,jZ,tE,vy,qw,yt,yE,va,rR,vg,rL,yF,vb,yQ,yM,yV,yN,yW,yZ,y0,yP,yY,y7,aj5,vh,vj,vq,yC,yX,tK,tF,tH,vi,rK,qx,rI,rG,qv,rJ,pk,vf,rN,oi,oj,yO,yD,vl,yG,vd,ve,eI,seq,iff,a0,ip,eb,eY,jn,er,ofT,fo,ag,bV,args,aa,nm,aL,cX,skip,asg,jg,hh,par,b1,eU,hR,jc,aN,fW,fP,bH,di,f3,dv,comp,hH,$xs,*] $[$l]?)
local macro_rules
| `(tactic| simp! [I8,$xs,*] $[$l]?)=>`(tactic| simp[cV,ke,d8,oDiv,oMod,qb,hS,Bz,lS,gy,DG,By,oLt,oLe,hD,rl,big,eI,seq,iff,a0,ip,eb,eY,jn,er,ofT,fo,ag,bV,args,aa,nm,aL,cX,skip,asg,jg,hh,par,b1,eU,hR,jc,aN,fW,fP,bH,di,f3,dv,comp,hH,$xs,*] $[$l]?)
local macro_rules
| `(tactic| simp! [N_,$xs,*] $[$l]?)=>`(tactic| simp[runM,iQ,jz,l8,cq,dS,kR,g7,mO,ij,cy,ha,mf,jI,f6,fh,fld,eR,k2,kE,k1,ajQ,nB,mP,never,pU,mu,jZ,$xs,*] $[$l]?)
local macro_rules
| `(tactic| simp! [ach,$xs,*] $[$l]?)=>`(tactic| simp[DI,eB,aQ,a9,gc,ji,Ae,q6,q7,Af,q8,Ac,Ad,wK,s1,s2,s3,BF,s4,s5,BG,dK,cG,BI,BH,cY,dV,ej,ek,BE,$xs,*] $[$l]?)
local macro_rules
| `(tactic| simp! [fJ,$xs,*] $[$l]?)=>`(tactic| simp[eI,seq,iff,a0,ip,eb,eY,jn,er,ofT,fo,ag,bV,args,aa,nm,aL,cX,skip,asg,jg,hh,par,b1,eU,hR,jc,bH,di,f3,dv,comp,hH,$xs,*] $[$l]?)
| `(tactic| simp! [fJ] $[$l]?)=>`(tactic| simp[eI,seq,iff,a0,ip,eb,eY,jn,er,ofT,fo,ag,bV,args,aa,nm,aL,cX,skip,asg,jg,hh,par,b1,eU,hR,jc,bH,di,f3,dv,comp,hH] $[$l]?)
local macro_rules
| `(tactic| simp! [ajE,$xs,*] $[$l]?)=>`(tactic| simp[tE,vy,qw,yt,yE,va,rR,vg,rL,yF,vb,yQ,yM,yV,yN,yW,yZ,y0,yP,yY,y7,aj5,vh,vj,vq,yC,yX,tK,tF,tH,vi,rK,qx,rI,rG,qv,rJ,pk,vf,rN,oi,oj,yO,yD,vl,yG,vd,ve,eI,seq,iff,a0,ip,eb,eY,jn,er,ofT,fo,ag,bV,args,aa,nm,aL,cX,skip,asg,jg,hh,par,b1,eU,hR,jc,aN,fW,fP,bH,di,f3,dv,comp,hH,$xs,*] $[$l]?)
local macro_rules
| `(tactic| simp! [xW,$xs,*] $[$l]?)=>`(tactic| simp[tE,vy,qw,yt,yE,va,rR,vg,rL,yF,vb,yQ,yM,yV,yN,yW,yZ,y0,yP,yY,y7,aj5,vh,vj,vq,yC,yX,tK,tF,tH,vi,rK,qx,rI,rG,qv,rJ,pk,vf,rN,oi,oj,yO,yD,vl,yG,vd,ve,$xs,*] $[$l]?)
| `(tactic| simp! [xW] $[$l]?)=>`(tactic| simp[tE,vy,qw,yt,yE,va,rR,vg,rL,yF,vb,yQ,yM,yV,yN,yW,yZ,y0,yP,yY,y7,aj5,vh,vj,vq,yC,yX,tK,tF,tH,vi,rK,qx,rI,rG,qv,rJ,pk,vf,rN,oi,oj,yO,yD,vl,yG,vd,ve] $[$l]?)
namespace a'
open D PySem
def cz(x:Str):Prop:=(iU x).canLay0=true
def cL{x y:Str}(af:cz x)(ak:cz y):oEq (.str x) (.str y)=some (.bool (decide (x=y))):=by
 unfold oEq;rw[vH af,vH ak];by_cases e:x=y <;> simp[hG,e]
def ly{x y:Str}(af:cz x)(ak:cz y):fQ (.str x) (.str y)=some (.bool (!decide (x=y))):=by
 unfold fQ;rw[vH af,vH ak];by_cases e:x=y <;> simp[hG,e]
def pA(neg:Bool){n:Str}{ns:List Str}(h0:cz n)(h:∀x∈ns,cz x):dj neg (.str n) (.list (ns.map .str))=some (.bool (if neg then !decide (n∈ns) else decide (n∈ns))):=by
 simp only[dj,vH h0,Kc ns h,KD];rfl
def qB(neg:Bool){n:Str}{ns:List Str}(h0:cz n)(h:∀x∈ns,cz x):dj neg (.str n) (.tuple (ns.map .str))=some (.bool (if neg then !decide (n∈ns) else decide (n∈ns))):=ag9 neg n ns h0 h
def QW(p:aU)(c:aG)(w:Str)(n:Option Str)(h:c.told.length<big):gw [.obj .cN 0 (encC p c),.ab (.str w),.ab (dQ n)]=some (.none,encC p (tell w n c)):=by
 have h':c.told.length<16777216:=h;simp! [ik,gw,O0,tell,big,h']
def CN(p:aU)(c:aG)(w:Str)(h:c.told.length<big):gw [.obj .cN 0 (encC p c),.ab (.str w),.ab .none]=some (.none,encC p (tell w none c)):=QW p c w none h
def qy(p:aU)(c:aG)(w z:Str)(h:c.told.length<big):gw [.obj .cN 0 (encC p c),.ab (.str w),.ab (.str z)]=some (.none,encC p (tell w (some z) c)):=QW p c w (some z) h
def J7(p:aU)(c:aG):tD [.obj .cN 0 (encC p c)]=some (.none,encC p (hA p c)):=by
 simp! [ik,tD,OO,hA,b8]
structure a4(p:aU)(c:aG):Prop where
 zn:∀z∈p.bM,cz z.1/\cz z.2
 eg:∀k∈p.codes,cz k.cS/\cz k.ft/\∀r∈k.ih,cz r
 fE:p.bM.length<=40
 mo:cz c.mode
 ca:∀z,c.eM=some z->cz z/\z∈p.bM.map (·.1)
 iE:c.mode="coming"->c.eM≠none
 ln:c.lines.map (·.1)=p.bM.map (·.1)
 lo:∀l∈c.lines,cz l.2
 us:c.used.map (·.1)=p.codes.map (·.cS)
 b4:c.bU.Nodup/\∀z∈c.bU,z∈p.bM.map (·.1)
 al:c.bN.Nodup/\∀z∈c.bN,z∈p.bM.map (·.1)
def a4.i2{p:aU}{c:aG}(h:a4 p c){z:Str}(aq:z∈p.bM.map (·.1)):cz z:=by
 obtain⟨x,hx,rfl⟩:=dm.mp aq;exact (h.zn x hx).1
def a4.oT{p:aU}{c:aG}(h:a4 p c):∀z∈c.bU,cz z:=λz aq=>h.i2 (h.b4.2 z aq)
def a4.II{p:aU}{c:aG}(h:a4 p c):∀z∈c.bN,cz z:=λz aq=>h.i2 (h.al.2 z aq)
def PX{α:Type}[BEq α][LawfulBEq α]{l m:List α}(h:l.Nodup)(av:∀x∈l,x∈m):l.length<=m.length:=by
 induction l generalizing m with
|nil=>simp
|cons x l b2=>
  obtain⟨af,ak⟩:=dX.mp h;have hx:=av x e8;have:=b2 (m:=m.erase x) ak λy bL=>(List.mem_erase_of_ne (λe:y=x=>af (e▸bL))).mpr (av y (dM _ bL));have aw:=List.length_erase_of_mem hx;have:=List.length_pos_of_mem hx;simp only[hF];omega
def a4.ED{p:aU}{c:aG}(h:a4 p c):c.bN.length<=40:=by
 have:=PX h.al.1 h.al.2;have:=h.fE;simp at *;omega
def a4.BL{p:aU}{c:aG}(h:a4 p c):c.bU.length<=40:=by
 have:=PX h.b4.1 h.b4.2;have:=h.fE;simp at *;omega
def Df(p:aU)(c:aG)(z:Str)(h:a4 p c)(aq:cz z)(aR:c.told.length<big):l5 [.obj .cN 0 (encC p c),.ab (.str z)]=some (.none,encC p (dd p z c)):=by
 have ax:=h.ED;have p5:dj true (.str z) (.list (c.bN.map .str))=some (.bool (!decide (z∈c.bN))):=by rw[pA true aq h.II];rfl
 have ae:(hA p c).bN=c.bN:=rfl;have eZ:c.bN.length<16777216:=by omega
 by_cases hm:z∈c.bN
 ·simp! [ik,l5,JM,J7,ae,p5,hm,dd]
 ·have kj:({hA p c with bN:=c.bN++[z]}:aG).told.length<big:=aR;simp! [ik,l5,JM,J7,ae,p5,hm,dd,big,eZ,qy p _ "alarm" z kj]
def kindOf(p:aU)(z:Str):Str:=((p.bM.find? λx=>decide (x.1=z)).map (·.2)).getD ""
def codeOf(p:aU)(f:Str):Option eP:=p.codes.find? λk=>decide (k.cS=f)
theorem P1{z:Str}(aq:cz z)(s0:Option aM):∀(zs:List (Str×Str)) (t0:Option aM),(∀x∈zs,cz x.1)->z∈zs.map (·.1)->forL (bH 2) (iff (a0 (ag oEq (ag aN (nm 2) (aa (.int 0))) (nm 1))) (cX (ag aN (nm 2) (aa (.int 1)))) skip) (zs.map dD) [s0,some (.ab (.str z)),t0]=some (.fa (.str (((zs.find? λx=>decide (x.1=z)).map (·.2)).getD "")))
| [],t0,_,h=>by simp at h
|x::zs,t0,aE,h=>by
  have e:=cL (aE x (by simp)) aq;by_cases hx:x.1=z
  ·simp! [jP,forL,dD,hx,cL aq aq]
  ·have h':z∈zs.map (·.1):=by
    rw[dk] at h;rcases cZ.mp h with q|q
    ·exact absurd q.symm hx
    ·exact q
   have b2:=P1 aq s0 zs (some (.ab (dD x))) (λy bL=>aE y (dM _ bL)) h';simp[dD] at b2;simp! [jP,forL,dD,hx,e];simpa [eI,seq,iff,a0,ip,eb,eY,jn,er,ofT,fo,ag,bV,args,aa,nm,aL,cX,skip,asg,jg,hh,par,b1,eU,hR,jc,aN,fW,fP,bH,di,f3,dv,comp,hH] using b2
def PA{p:aU}{z:Str}(aE:∀x∈p.bM,cz x.1/\cz x.2)(aq:z∈p.bM.map (·.1)):tM [b8 p,.str z]=some (.str (kindOf p z)):=by
 obtain⟨x,hx,rfl⟩:=dm.mp aq;have:=P1 (aE x hx).1 (some (.ab (b8 p))) p.bM none (λy bL=>(aE y bL).1) aq;simp! [jP,tM,Qj,g4,b8] at this ⊢;simp[this,kindOf]
def uu:Option eP->T
|none=>.none
|some k=>dC k
theorem P_{f:Str}(hf:cz f)(s0:Option aM):∀(bc:List eP) (t0:Option aM),(∀k∈bc,cz k.cS)->forL (bH 2) (iff (a0 (ag oEq (ag aN (nm 2) (aa (.int 0))) (nm 1))) (cX (nm 2)) skip) (bc.map dC) [s0,some (.ab (.str f)),t0] =
   match bc.find? λk=>decide (k.cS=f) with
   |some k=>some (.fa (dC k))
   |none=>some (.bY [s0,some (.ab (.str f)),(bc.getLast?.map λk=>aM.ab (dC k)).elim t0 some])
| [],t0,_=>by simp[forL]
|k::bc,t0,aE=>by
  have e:=cL (aE k (by simp)) hf;by_cases hx:k.cS=f
  ·simp! [jP,forL,dC,hx,cL hf hf]
  ·have b2:=P_ hf s0 bc (some (.ab (dC k))) (λy bL=>aE y (dM _ bL));simp only[dk,forL];simp! [jP,dC,hx,e] at b2 ⊢;rw[b2];cases bc with
   |nil=>simp
   |cons kd bc=>simp[List.getLast?_cons]
def aeN{p:aU}{f:Str}(aE:∀k∈p.codes,cz k.cS)(hf:cz f):y9 [b8 p,.str f]=some (uu (codeOf p f)):=by
 have:=P_ hf (some (.ab (b8 p))) p.codes none aE;simp! [jP,y9,Qk,g4,b8] at this ⊢;rw[this];unfold codeOf;cases e:p.codes.find? λk=>decide (k.cS=f) with
|none=>simp[uu]
|some k=>simp[uu]
def dn(c:aG)(z:Str):Str:=(c.lines.lookup z).getD ""
noncomputable def fb(l:List (Str×Str))(z w:Str):List (Str×Str):=l.map λp=>if p.1=z then (z,w) else p
def qG(c:aG)(f:Str):Int:=(c.used.lookup f).getD 0
noncomputable def gZ(l:List (Str×Int))(f:Str):List (Str×Int):=l.map λp=>if p.1=f then (f,p.2+1) else p
theorem R'{z:Str}:∀{l:List (Str×Str)},z∈l.map (·.1)->getD (iG l) (.inr z)=some (.str ((l.lookup z).getD ""))
  | [],h=>by simp at h
  | (k,v)::l,h=>by
    by_cases e:k=z
    · subst e
      simp[getD,iG,iT]
    · have h':z∈l.map (·.1):=by
        rw[dk] at h;rcases cZ.mp h with q|q
        · exact absurd q.symm e
        · exact q
      have b2:=R' h';have ne:(z==k)=false:=beq_eq_false_iff_ne.mpr (Ne.symm e);simp only[getD,iG,dk,l1] at b2 ⊢;rw[decide_eq_false (λq=>e (Sum.inr.inj q))];simp only[iT,ne];exact b2
theorem Lj{z:Str}:∀{l:List (Str×Int)},z∈l.map (·.1)->getD (iF l) (.inr z)=some (.int ((l.lookup z).getD 0))
  | [],h=>by simp at h
  | (k,v)::l,h=>by
    by_cases e:k=z
    · subst e
      simp[getD,iF,iT]
    · have h':z∈l.map (·.1):=by
        rw[dk] at h;rcases cZ.mp h with q|q
        · exact absurd q.symm e
        · exact q
      have b2:=Lj h';have ne:(z==k)=false:=beq_eq_false_iff_ne.mpr (Ne.symm e);simp only[getD,iF,dk,l1] at b2 ⊢;rw[decide_eq_false (λq=>e (Sum.inr.inj q))];simp only[iT,ne];exact b2
def aji{z:Str}{l:List (Str×Str)}(h:z∈l.map (·.1)):(iG l).any (λp=>decide (p.1=(Sum.inr z:D.Key)))=true:=by
 obtain⟨x,hx,rfl⟩:=dm.mp h;rw[List.any_eq_true];exact⟨(.inr x.1,.str x.2),dm.mpr ⟨x,hx,rfl⟩,by simp⟩
def ajj{z:Str}{l:List (Str×Int)}(h:z∈l.map (·.1)):(iF l).any (λp=>decide (p.1=(Sum.inr z:D.Key)))=true:=by
 obtain⟨x,hx,rfl⟩:=dm.mp h;rw[List.any_eq_true];exact⟨(.inr x.1,.int x.2),dm.mpr ⟨x,hx,rfl⟩,by simp⟩
def ahO{z w:Str}{l:List (Str×Str)}(h:z∈l.map (·.1)):putD (iG l) (.inr z) (.str w)=iG (fb l z w):=by
 unfold putD;rw[aji h,if_pos rfl];simp only[iG,fb,mF];refine List.map_congr_left λx _=>?_;by_cases e:x.1=z
 ·simp[e]
 ·have:¬(Sum.inr x.1:D.Key)=Sum.inr z:=λq=>e (Sum.inr.inj q);simp[e,this]
def ahP{z:Str}{l:List (Str×Int)}(h:z∈l.map (·.1))(aW:(l.map (·.1)).Nodup):putD (iF l) (.inr z) (.int ((l.lookup z).getD 0+1))=iF (gZ l z):=by
 unfold putD;rw[ajj h,if_pos rfl];simp only[iF,gZ,mF];refine List.map_congr_left λx hx=>?_;by_cases e:x.1=z
 ·have:∀{l:List (Str×Int)},x∈l->(l.map (·.1)).Nodup->l.lookup x.1=some x.2:=by
   intro l
   induction l with
   |nil=>intro h;simp at h
   |cons y l b2=>
    intro h aW;rcases cZ.mp h with rfl|h
    ·simp[iT]
    ·rw[dk,dX] at aW;have ne:(x.1==y.1)=false:=beq_eq_false_iff_ne.mpr λq=>aW.1 (q▸dm.mpr ⟨x,h,rfl⟩);simp only[iT,ne];exact b2 h aW.2
  have aw:=this hx aW;subst e;simp[aw]
 ·have:¬(Sum.inr x.1:D.Key)=Sum.inr z:=λq=>e (Sum.inr.inj q);simp[e,this]
theorem t2{α:Type}{cc:e_}{fl:bD}{caps:Ev}(enc:α->T)(q:α->Bool)(f:α->T):∀(ts:List α) (s0:Option aM),(∀a∈ts,cc (some (.ab (enc a))::caps)=some (q a)/\(q a=true->fl (some (.ab (enc a))::caps)=some (f a)))->fS (bH 0) cc fl (ts.map enc) (s0::caps)=some ((ts.filter q).map f)
| [],_,_=>rfl
|a::ts,s0,h=>by
  obtain⟨af,ak⟩:=h a (by simp);have b2:=t2 enc q f ts (some (.ab (enc a))) λb ae=>h b (dM _ ae);simp only[dk,fS,bH,kO,dh,af];cases bt:q a with
  |false=>simp[b2,bt]
  |true=>simp[b2,bt,ak bt]
noncomputable def bare(p:aU)(kinds:List Str)(c:aG):List Str:=((p.bM.filter λz=>decide (z.2∈kinds)).map (·.1)).filter λz=>decide (dn c z≠"shut") && !decide (z∈c.bU)
def a6(x:Str)(h:(iU x).canLay0=true:=by decide +kernel):cz x:=h
theorem lookup_mem{α:Type}{z:Str}:∀{l:List (Str×α)} {v:α},l.lookup z=some v->(z,v)∈l
  | [],v,h=>by cases h
  | (k,x)::l,v,h=>by
    rw[nq] at h;split at h
    next q=>
      cases h
      have:z=k:=by simpa using q
      subst this;simp
    next=>exact dM _ (lookup_mem h)
def a4.rm{p:aU}{c:aG}(h:a4 p c)(z:Str):cz (dn c z):=by
 unfold dn;cases e:c.lines.lookup z with
|none=>exact a6 ""
|some v=>exact h.lo _ (lookup_mem e)
def a4.NA{p:aU}{c:aG}(h:a4 p c){z:Str}(aq:z∈p.bM.map (·.1)):getD (iG c.lines) (.inr z)=some (.str (dn c z)):=R' (by rw[h.ln];exact aq)
def Rr(p:aU)(c:aG)(bc:List Str)(m:hg)(h:a4 p c)(aH:∀k∈bc,cz k):tB [.obj m 0 (encC p c),.ab (.tuple (jZ bc))]=some (.list ((bare p bc c).map .str)):=by
 have AZ:=h.fE;have c3:=t2 (cc:=a0 (ag (dj false) (ag aN (nm 0) (aa (.int 1))) (nm 1))) (fl:=ag aN (nm 0) (aa (.int 0))) (caps:=[some (.ab (.tuple (jZ bc)))]) dD (λz=>decide (z.2∈bc)) (λz=>.str z.1) p.bM none λz aq=>by
  have:=qB false (h.zn z aq).2 aH;simp at this;constructor
  ·simp! [jP,dD,jZ,this]
  ·intro _;simp! [jP,dD]
 have dF:=t2 (cc:=eb (a0 (ag fQ (k1 0 1 4 (nm 0)) (aa (.str "shut")))) (a0 (ag (dj true) (nm 0) (fld 0 1 5)))) (fl:=aL 0) (caps:=[some (.obj m 0 (encC p c))]) iU (λz=>decide (dn c z≠"shut") && !decide (z∈c.bU)) iU ((p.bM.filter λz=>decide (z.2∈bc)).map (·.1)) none λz aq=>by
  have p9:z∈p.bM.map (·.1):=by
   obtain⟨x,hx,rfl⟩:=dm.mp aq;exact dm.mpr ⟨x,(List.mem_filter.mp hx).1,rfl⟩
  have aQ:=h.NA p9;have a9:=ly (h.rm z) (a6 "shut");have gc:=pA true (h.i2 p9) h.oT;simp at gc;constructor
  ·by_cases av:dn c z="shut"
   ·simp! [ik,keyOf,aQ,a9,av,ly (a6 "shut") (a6 "shut")]
   ·simp! [ik,keyOf,aQ,a9,gc,av]
  ·intro _;simp! [jP]
 have cb:(p.bM.map dD).length<=16777216:=by simp;omega
 have b_:(((p.bM.filter λz=>decide (z.2∈bc)).map λz=>iU z.1)).length<=16777216:=by
  rw[gk];have:=ajU (λz:Str×Str=>decide (z.2∈bc)) p.bM;omega
 simp only[mF,lp] at dF;simp only[tB,OI,iQ,jz];simp! [ik,b8] at c3 dF ⊢;have sL:p.bM.length<=big:=by unfold big;omega
 have F_:(p.bM.filter λz=>decide (z.2∈bc)).length<=big:=by
  have:=ajU (λz:Str×Str=>decide (z.2∈bc)) p.bM;omega
 rw[if_pos sL,c3];simp only[jT,dh,oh,o_,Function.comp_apply,gk,F_,if_true,Option.join_some];rw[dF];simp[bare]
noncomputable def gA(p:aU)(z k:Str)(c:aG):aG:=if k≠"way"\/p.gb<=0 then dd p z c else tell "coming" (some z) {c with mode:="coming",left:=p.gb,eM:=some z}
noncomputable def gB(p:aU)(z w:Str)(c:aG):aG:=
 if kindOf p z="day" then dd p z c
 else if c.mode="off" then (if w="cut" then tell "fault" (some z) c else c)
 else if w="cut"\/kindOf p z="once" then dd p z c
 else if c.mode="on" then gA p z (kindOf p z) c else c
noncomputable def line(p:aU)(z w:Str)(c:aG):aG:=
 if w=dn c z then c
 else if w="shut" then (if dn c z="cut" then tell "mended" (some z) {c with lines:=fb c.lines z w} else {c with lines:=fb c.lines z w})
 else if z∈c.bU then {c with lines:=fb c.lines z w} else gB p z w {c with lines:=fb c.lines z w}
def aeM(p:aU)(c:aG)(z k:Str)(h:a4 p c)(aq:cz z)(aH:cz k)(aR:c.told.length<big):tC [.obj .cN 0 (encC p c),.ab (.str z),.ab (.str k)]=some (.none,encC p (gA p z k c)):=by
 have e:=ly aH (a6 "way");have dy:=Df p c z h aq aR;by_cases af:k="way"
 ·by_cases ak:p.gb<=0
  ·simp! [jr,tC,Cs,b8,e,af,ak,dy,gA];simp! [n',ly (a6 "way") (a6 "way"),dy,ak]
  ·have bp:=qy p {c with mode:="coming",left:=p.gb,eM:=some z} "coming" z aR;simp! [jr,tC,Cs,b8,af,ak,gA];simp! [jr,ly (a6 "way") (a6 "way"),bp,ak,b8]
 ·simp! [jr,tC,Cs,b8,e,af,dy,gA]
def aeK(p:aU)(c:aG)(z w:Str)(h:a4 p c)(aq:z∈p.bM.map (·.1))(hw:cz w)(aR:c.told.length<big):yl [.obj .cN 0 (encC p c),.ab (.str z),.ab (.str w)]=some (.none,encC p (gB p z w c)):=by
 have fG:=PA h.zn aq;have sO:cz (kindOf p z):=by
  unfold kindOf;cases e:p.bM.find? λx=>decide (x.1=z) with
  |none=>exact a6 ""
  |some x=>exact (h.zn x (List.mem_of_find?_eq_some e)).2
 have dy:=Df p c z h (h.i2 aq) aR;have bp:=qy p c "fault" z aR;have g0:=aeM p c z (kindOf p z) h (h.i2 aq) sO aR;have aO:=cL sO (a6 "day");have bb:=cL h.mo (a6 "off");have cQ:=cL hw (a6 "cut");have gI:=cL sO (a6 "once");have nd:=cL h.mo (a6 "on");simp only[yl,ON,gB];by_cases af:kindOf p z="day"
 ·simp! [hT,fG,aO,af,dy];simp! [n',cL (a6 "day") (a6 "day"),dy]
 ·by_cases ak:c.mode="off"
  ·by_cases bA:w="cut"
   ·simp! [hT,fG,aO,af,bb,ak,cQ,bA,bp,cL (a6 "off") (a6 "off"),cL (a6 "cut") (a6 "cut")]
   ·simp! [hT,fG,aO,af,bb,ak,cQ,bA,bp,cL (a6 "off") (a6 "off")]
  ·by_cases bA:w="cut"
   ·simp! [hT,fG,aO,af,bb,ak,cQ,bA,dy,cL (a6 "cut") (a6 "cut")]
   ·by_cases cP:kindOf p z="once"
    ·simp! [hT,fG,aO,af,bb,ak,cQ,bA,gI,cP,dy,cL (a6 "once") (a6 "once"),cL (a6 "once") (a6 "day")]
    ·by_cases gC:c.mode="on"
     ·simp! [hT,fG,aO,af,bb,ak,cQ,bA,gI,cP,nd,gC,g0,cL (a6 "on") (a6 "on"),cL (a6 "on") (a6 "off")]
     ·simp! [hT,fG,aO,af,bb,ak,cQ,bA,gI,cP,nd,gC,g0]
def ae5(l:List (Str×Str))(z w:Str):(fb l z w).map (·.1)=l.map (·.1):=by
 unfold fb;rw[mF];refine List.map_congr_left λx _=>?_;by_cases e:x.1=z <;> simp[e]
def afH(l:List (Str×Int))(z:Str):(gZ l z).map (·.1)=l.map (·.1):=by
 unfold gZ;rw[mF];refine List.map_congr_left λx _=>?_;by_cases e:x.1=z <;> simp[e]
def a4.I7{p:aU}{c:aG}(h:a4 p c)(z:Str){w:Str}(hw:cz w):a4 p {c with lines:=fb c.lines z w}:=
 ⟨h.zn,h.eg,h.fE,h.mo,h.ca,h.iE,(ae5 _ _ _).trans h.ln,λl aw=>by
  obtain⟨x,hx,rfl⟩:=dm.mp aw;by_cases e:x.1=z
  ·rw[if_pos e];exact hw
  ·rw[if_neg e];exact h.lo x hx,h.us,h.b4,h.al⟩
theorem a4.tell{p:aU}{c:aG}(h:a4 p c)(w:Str)(n:Option Str):a4 p (a'.tell w n c):=⟨h.zn,h.eg,h.fE,h.mo,h.ca,h.iE,h.ln,h.lo,h.us,h.b4,h.al⟩
def a4.loud{p:aU}{c:aG}(h:a4 p c):a4 p (hA p c):=⟨h.zn,h.eg,h.fE,h.mo,h.ca,h.iE,h.ln,h.lo,h.us,h.b4,h.al⟩
theorem a4.dd{p:aU}{c:aG}(h:a4 p c){z:Str}(aq:z∈p.bM.map (·.1)):a4 p (a'.dd p z c):=by
 unfold a'.dd;split
 ·exact h.loud
 next hm=>
  refine a4.tell (c:={hA p c with bN:=c.bN++[z]}) ⟨h.zn,h.eg,h.fE,h.mo,h.ca,h.iE,h.ln,h.lo,h.us,h.b4,?_,?_⟩ _ _
  ·show (c.bN++[z]).Nodup
   rw[o7];exact⟨h.al.1,by simp,λa ax b ae e=>hm (by simp at ae;subst ae;exact e▸ax)⟩
  ·intro y bL;rcases ju.mp bL with q|q
   ·exact h.al.2 y q
   ·simp at q;exact q▸aq
def y3(p:aU)(z:Str)(c:aG):(dd p z c).told.length<=c.told.length+1:=by
 unfold dd tell hA;split <;> simp
def ag'(p:aU)(c:aG)(z w:Str)(h:a4 p c)(aq:z∈p.bM.map (·.1))(hw:cz w)(aR:c.told.length<big):yz [.obj .cN 0 (encC p c),.ab (.str z),.ab (.str w)]=some (.none,encC p (line p z w c)):=by
 have aQ:=h.NA aq;have AZ:z∈c.lines.map (·.1):=by rw[h.ln];exact aq
 have a9:=ahO (w:=w) AZ;have aO:=cL hw (h.rm z);have bb:=cL hw (a6 "shut");have cQ:=cL (h.rm z) (a6 "cut");have gI:=pA true (h.i2 aq) h.oT;simp at gI;have hlen:(iG c.lines).length<16777216:=by
  have:=congrArg List.length h.ln;have:=h.fE;simp[iG] at *;omega
 have hd:=aeK p _ z w (h.I7 z hw) aq hw aR;have bp:=qy p {c with lines:=fb c.lines z w} "mended" z aR;simp only[yz,O1,line];by_cases af:w=dn c z
 ·simp! [hT,keyOf,aQ,aO,af,cL (h.rm z) (h.rm z)]
 ·by_cases ak:w="shut"
  ·subst ak;by_cases bA:dn c z="cut"
   ·simp! [hT,big,keyOf,aQ,a9,aO,af,bb,cQ,bA,hlen,bp,cL (a6 "cut") (a6 "cut"),cL (a6 "shut") (a6 "shut"),cL (a6 "shut") (a6 "cut")]
   ·simp! [hT,big,keyOf,aQ,a9,aO,af,bb,cQ,bA,hlen,cL (a6 "shut") (a6 "shut")]
  ·by_cases cP:z∈c.bU
   ·simp! [hT,big,keyOf,aQ,a9,aO,af,bb,ak,gI,cP,hlen]
   ·simp! [hT,big,keyOf,aQ,a9,aO,af,bb,ak,gI,cP,hlen,hd]
def less(a n:Int):Int:=if 0 > a - n then 0 else a - n
noncomputable def eC(n:Int)(c:aG):aG:={c with past:=c.past+n,locked:=less c.locked n,c6:=less c.c6 n,left:=less c.left n}
def aea(a n:Int):ajZ [.int a,.int n]=some (.int (less a n)):=by
 simp! [I8,ajZ,PH,less]
def JO(p:aU)(c:aG)(n:Int):tA [.obj .cN 0 (encC p c),.ab (.int n)]=some (.none,encC p (eC n c)):=by
 simp! [ik,tA,OH,aea,eC]
def bN(p:aU)(zs:List Str)(c:aG):aG:=zs.foldl (λc z=>dd p z c) c
noncomputable def fY(p:aU)(c:aG):aG:=bN p (bare p ["inner","way"] (tell "on" none {c with mode:="on",left:=0})) (tell "on" none {c with mode:="on",left:=0})
noncomputable def j9(p:aU)(c:aG):aG:=dd p (c.eM.getD "") {c with mode:="on",eM:=none}
def eH(p:aU)(c:aG):aG:=if c.mode="leaving" then fY p c else j9 p c
noncomputable def cE(p:aU)(n:Int)(c:aG):aG:=
 if n<1 then c else if (c.mode="leaving"\/c.mode="coming")/\c.left<=n then eC (n - c.left) (eH p (eC c.left c)) else eC n c
theorem PJ(p:aU):∀(zs:List Str) (c:aG) (s1:Option aM),a4 p c->(∀z∈zs,z∈p.bM.map (·.1))->c.told.length+zs.length<big->∃rq,forL (bH 1) (cq (dS 0 l5 0 [(aL 1)])) (zs.map .str) [some (.obj .cN 0 (encC p c)),s1]=some (.bY [some (.obj .cN 0 (encC p (bN p zs c))),rq])
| [],c,s1,_,_,_=>⟨s1,by simp[forL,bN]⟩
|z::zs,c,s1,h,aq,aR=>by
  have Nn:=aq z (by simp);have dy:=Df p c z h (h.i2 Nn) (by simp at aR;omega);have:=y3 p z c;obtain⟨rq,b2⟩:=PJ p zs (dd p z c) (some (.ab (.str z))) (h.dd Nn) (λy bL=>aq y (dM _ bL)) (by simp at aR;omega);refine⟨rq,?_⟩;rw[dk,forL];simp! [n',dy];simpa [eI,seq,iff,a0,ip,eb,eY,jn,er,ofT,fo,ag,bV,args,aa,nm,aL,cX,skip,asg,jg,hh,par,b1,eU,hR,jc,aN,fW,fP,bH,di,f3,dv,comp,hH,bN] using b2
def vB{p:aU}{bc:List Str}{c:aG}{z:Str}(h:z∈bare p bc c):z∈p.bM.map (·.1):=by
 unfold bare at h;obtain⟨x,hx,rfl⟩:=dm.mp (List.mem_filter.mp h).1;exact dm.mpr ⟨x,(List.mem_filter.mp hx).1,rfl⟩
def QS(p:aU)(bc:List Str)(c:aG):(bare p bc c).length<=p.bM.length:=by
 unfold bare;have af:=ajU (λz=>decide (dn c z≠"shut") && !decide (z∈c.bU)) ((p.bM.filter λz=>decide (z.2∈bc)).map (·.1));have ak:=ajU (λz:Str×Str=>decide (z.2∈bc)) p.bM;rw[gk] at af;omega
theorem a4.on{p:aU}{c:aG}(h:a4 p c)(x:Int):a4 p {c with mode:="on",left:=x}:=⟨h.zn,h.eg,h.fE,a6 "on",h.ca,λe=>absurd e rL,h.ln,h.lo,h.us,h.b4,h.al⟩
def OU(p:aU)(c:aG)(h:a4 p c)(aR:c.told.length+50<big):tw [.obj .cN 0 (encC p c)]=some (.none,encC p (fY p c)):=by
 have jR:=(h.on 0).tell "on" none;have bp:=CN p {c with mode:="on",left:=0} "on" (by show c.told.length<big;omega);have c':=Rr p (tell "on" none {c with mode:="on",left:=0}) ["inner","way"] .fR jR (by
  intro k aH;simp at aH;rcases aH with rfl|rfl
  ·exact a6 "inner"
  ·exact a6 "way")
 have aw:=QS p ["inner","way"] (tell "on" none {c with mode:="on",left:=0});have aq:=h.fE;obtain⟨rq,n5⟩:=PJ p (bare p ["inner","way"] (tell "on" none {c with mode:="on",left:=0})) (tell "on" none {c with mode:="on",left:=0}) none jR (λz aq=>vB aq) (by
  have:(tell "on" none {c with mode:="on",left:=0}:aG).told.length=c.told.length+1:=by simp[tell]
  omega)
 simp only[jZ,dk,jS] at c';simp! [ik,tw,OF,bp,c',g4];rw[n5];simp! [N_,fY]
def a4.IJ{p:aU}{c:aG}(h:a4 p c):a4 p {c with mode:="on",eM:=none}:=⟨h.zn,h.eg,h.fE,a6 "on",λz e=>(nomatch e),λe=>absurd e rL,h.ln,h.lo,h.us,h.b4,h.al⟩
def adH(p:aU)(c:aG)(h:a4 p c)(aD:c.eM≠none)(aR:c.told.length<big):yg [.obj .cN 0 (encC p c)]=some (.none,encC p (j9 p c)):=by
 obtain⟨z,aq⟩:=Option.ne_none_iff_exists'.mp aD;have dy:=Df p {c with mode:="on",eM:=none} z h.IJ (h.ca z aq).1 aR;simp! [ik,yg,OG,aq,dQ,dy,j9]
def a4.cd{p:aU}{c:aG}(h:a4 p c)(n:Int):a4 p (eC n c):=⟨h.zn,h.eg,h.fE,h.mo,h.ca,h.iE,h.ln,h.lo,h.us,h.b4,h.al⟩
def aed(p:aU)(c:aG)(h:a4 p c)(hm:c.mode="leaving"\/c.mode="coming")(aR:c.told.length+50<big):u' [.obj .cN 0 (encC p c)]=some (.none,encC p (eH p c)):=by
 have cC:=OU p c h aR;have q:=cL h.mo (a6 "leaving");rcases hm with hm|hm
 ·simp! [hT,u',JD,hm,cC,eH,cL (a6 "leaving") (a6 "leaving")]
 ·have eh:=adH p c h (h.iE hm) (by omega);simp! [hT,u',JD,hm,eh,eH,cL (a6 "coming") (a6 "leaving")]
def afL(p:aU)(c:aG)(n:Int)(h:a4 p c)(aR:c.told.length+50<big):rF [.obj .cN 0 (encC p c),.ab (.int n)]=some (.none,encC p (cE p n c)):=by
 have q:dj false (.str c.mode) (.tuple [.str "leaving",.str "coming"])=some (.bool (decide (c.mode="leaving"\/c.mode="coming"))):=by
  have:=qB false (n:=c.mode) (ns:=["leaving","coming"]) h.mo (by
   intro k aH;simp at aH;rcases aH with rfl|rfl
   ·exact a6 "leaving"
   ·exact a6 "coming")
  simpa using this
 have cC:=JO p c c.left;have ff:=JO p c n;by_cases af:n<1
 ·simp! [jr,rF,yr,af,cE]
 ·by_cases ak:c.mode="leaving"\/c.mode="coming"
  ·by_cases bA:c.left<=n
   ·have eh:=aed p (eC c.left c) (h.cd _) ak aR;have lJ:=JO p (eH p (eC c.left c)) (n - c.left);rw[decide_eq_true ak] at q;simp only[cE,if_neg af,if_pos (And.intro ak bA)];simp! [jr,rF,yr,af,q,bA,cC,eh,lJ]
   ·rw[decide_eq_true ak] at q;simp only[cE,if_neg af,if_neg (λz:(c.mode="leaving"\/c.mode="coming")/\c.left<=n=>bA z.2)];simp! [jr,rF,yr,af,q,bA,ff]
  ·rw[decide_eq_false ak] at q;simp only[cE,if_neg af,if_neg (λz:(c.mode="leaving"\/c.mode="coming")/\c.left<=n=>ak z.1)];simp! [jr,rF,yr,af,q,ff]
def ks(k:eP)(c:aG):Bool:=decide (k.uses≠0) && decide (k.uses<=qG c k.cS)
def iS(c:aG):aG:={tell "wrong" none c with tries:=c.tries+1}
noncomputable def fc(p:aU)(c:aG):aG:=if 3<=c.tries+1 then tell "attack" none (hA p {iS c with tries:=0,locked:=90}) else iS c
noncomputable def h1(p:aU)(d:Str)(z:Option Str)(c:aG):Bool:=
 if d="unset" then false else if c.mode≠"off" then true
 else if d="shunt" then decide (kindOf p (z.getD "")="day") || decide (z.getD ""∈c.bU)
 else decide (d="free") && !decide (z.getD ""∈c.bU)
noncomputable def jH(p:aU)(k:eP)(d:Str)(z:Option Str)(c:aG):Option (Str×Str):=
 if (if d="free" then ("shunt":Str) else d)∉k.ih then some ("denied",k.ft)
 else if h1 p d z c then some ("no",k.ft)
 else if d="set"/\bare p ["day","once"] c≠[] then some ("open",(bare p ["day","once"] c).headD "") else none
noncomputable def jh(p:aU)(ft:Str)(c:aG):aG:=
 let c3:=tell "set" (some ft) {c with bN:=[],c6:=0,mode:="leaving",left:=p.leave}
 if p.leave<=0 then fY p c3 else c3
noncomputable def mY(ft:Str)(c:aG):aG:=tell "unset" (some ft) {c with mode:="off",left:=0,c6:=0,eM:=none,bU:=[]}
noncomputable def d2(p:aU)(ft d:Str)(z:Option Str)(c:aG):aG:=
 if d="set" then jh p ft c else if d="unset" then mY ft c
 else if d="shunt" then tell "shunt" z {c with bU:=eD (c.bU++[z.getD ""])}
 else tell "free" z {c with bU:=c.bU.erase (z.getD "")}
noncomputable def takeRight(p:aU)(k:eP)(d:Str)(z:Option Str)(c:aG):aG:=match jH p k d z c with
|none=>d2 p k.ft d z {c with used:=gZ c.used k.cS}
|some (w,n)=>tell w (some n) c
noncomputable def code(p:aU)(f d:Str)(z:Option Str)(c:aG):aG:=
 if 0<c.locked then tell "locked" none c else match codeOf p f with
  |none=>fc p c
  |some k=>if ks k c then fc p c else takeRight p k d z {c with tries:=0}
def ael(p:aU)(c:aG)(k:eP)(h:a4 p c)(aH:k∈p.codes)(m:hg):aj4 [.obj m 0 (encC p c),.ab (dC k)]=some (.bool (ks k c)):=by
 have e:getD (iF c.used) (.inr k.cS)=some (.int (qG c k.cS)):=Lj (by rw[h.us];exact dm.mpr ⟨k,aH,rfl⟩);have q:fQ (.int k.uses) (.int 0)=some (.bool (!decide (k.uses=0))):=by
  unfold fQ;rw[rU,rU];by_cases e:k.uses=0 <;> simp[hG,e]
 by_cases af:k.uses=0
 ·simp! [jr,aj4,Jz,dC,q,af,jf,ks];simp[fQ,rU,hG]
 ·simp! [jr,aj4,Jz,dC,q,af,jf,ks,keyOf,e]
def adC(p:aU)(c:aG)(aR:c.told.length+2<big):u6 [.obj .cN 0 (encC p c)]=some (.none,encC p (fc p c)):=by
 have cC:=CN p c "wrong" (by omega);have eh:=J7 p {iS c with tries:=0,locked:=90};have ff:=CN p (hA p {iS c with tries:=0,locked:=90}) "attack" (by simp[hA,iS,tell];omega);have w:({mode:=(tell "wrong" none c).mode,left:=(tell "wrong" none c).left,eM:=(tell "wrong" none c).eM,lines:=(tell "wrong" none c).lines,bU:=(tell "wrong" none c).bU,c6:=(tell "wrong" none c).c6,bN:=(tell "wrong" none c).bN,tries:=c.tries+1,locked:=(tell "wrong" none c).locked,used:=(tell "wrong" none c).used,past:=(tell "wrong" none c).past,told:=(tell "wrong" none c).told}:aG)=iS c:=rfl;have od:(tell "wrong" none c).tries=c.tries:=rfl;by_cases bA:3<=c.tries+1
 ·simp! [jr,u6,Jx,cC,od,bA,fc];simp[iS] at eh ff ⊢;simp[eh,ff]
 ·simp! [jr,u6,Jx,cC,od,bA,fc,iS]
end a'
section
namespace a'
open D PySem
def a4.NR{p:aU}{c:aG}(h:a4 p c)(z:Str):cz (kindOf p z):=by
 unfold kindOf;cases e:p.bM.find? λx=>decide (x.1=z) with
|none=>exact a6 ""
|some x=>exact (h.zn x (List.mem_of_find?_eq_some e)).2
def i_:(2<=big)=True:=by simp[big]
def Qu:(10<=big)=True:=by simp[big]
noncomputable def k'(p:aU)(d:Str)(z:Option Str):Prop:=(d="shunt"\/d="free")->∃x,z=some x/\x∈p.bM.map (·.1)
def adz(p:aU)(c:aG)(d:Str)(z:Option Str)(m:hg)(h:a4 p c)(hd:cz d)(aq:k' p d z):ph [.obj m 0 (encC p c),.ab (.str d),.ab (dQ z)]=some (.bool (h1 p d z c)):=by
 have aO:=cL hd (a6 "unset");have bb:=ly h.mo (a6 "off");have cQ:=cL hd (a6 "shunt");have gI:=cL hd (a6 "free");by_cases af:d="unset"
 ·simp! [ik,ph,tx,aO,af,h1];simp[cL (a6 "unset") (a6 "unset")]
 ·by_cases ak:c.mode="off"
  ·by_cases bA:d="shunt"
   ·obtain⟨x,rfl,hx⟩:=aq (.inl bA);subst bA;have fG:=PA h.zn hx;have nd:=cL (h.NR x) (a6 "day");have oU:=pA false (h.i2 hx) h.oT;simp at oU;by_cases cP:kindOf p x="day"
    ·simp! [hT,ph,tx,aO,af,ak,ly (a6 "off") (a6 "off"),cQ,i3,dQ,fG,nd,oU,cP,h1];simp[cL (a6 "day") (a6 "day")]
    ·simp! [hT,ph,tx,aO,af,ak,ly (a6 "off") (a6 "off"),cQ,i3,dQ,fG,nd,oU,cP,h1]
   ·by_cases cP:d="free"
    ·obtain⟨x,rfl,hx⟩:=aq (.inr cP);subst cP;have oU:=pA true (h.i2 hx) h.oT;simp at oU;simp! [hT,ph,tx,aO,ak,ly (a6 "off") (a6 "off"),cQ,gI,jf,dQ,oU,h1]
    ·simp! [hT,ph,tx,aO,af,ak,ly (a6 "off") (a6 "off"),cQ,bA,gI,cP,jf,h1]
  ·simp! [ik,ph,tx,aO,af,bb,ak,h1]
def q9:Option (Str×Str)->T
|none=>.none
|some (w,n)=>.tuple [.str w,.str n]
def ada(p:aU)(c:aG)(k:eP)(d:Str)(z:Option Str)(m:hg)(h:a4 p c)(aH:k∈p.codes)(hd:cz d)(aq:k' p d z):ye [.obj m 0 (encC p c),.ab (dC k),.ab (.str d),.ab (dQ z)]=some (q9 (jH p k d z c)):=by
 have aO:=cL hd (a6 "free");have bb:=cL hd (a6 "set");have e4:=adz p c d z .fR h hd aq;have c':=Rr p c ["day","once"] .fR h (by
  intro k aH;simp at aH;rcases aH with rfl|rfl
  ·exact a6 "day"
  ·exact a6 "once")
 simp only[jZ,dk,jS] at c';have cQ:=qB true (n:=if d="free" then ("shunt":Str) else d) (ns:=k.ih) (by
  split
  ·exact a6 "shunt"
  ·exact hd) (h.eg k aH).2.2
 simp at cQ;have qr:(mu (a0 (ag oEq (nm 2) (aa (.str "free")))) (aa (.str "shunt")) (aL 2)) [some (.obj m 0 (encC p c)),some (.ab (dC k)),some (.ab (.str d)),some (.ab (dQ z)),none,none]=some (.str (if d="free" then ("shunt":Str) else d)):=by
  by_cases h0:d="free"
  ·simp! [n',aO,h0,cL (a6 "free") (a6 "free")]
  ·simp! [n',aO,h0]
 simp only[ye,OA,iQ,jz,seq,asg,dk,jS,hF,tq,dW,List.cons_append,x_,qr,jT,dh,lq,kO];generalize ar:(if d="free" then ("shunt":Str) else d)=r at cQ ⊢;unfold jH;rw[ar];by_cases af:r∈k.ih
 ·by_cases ak:h1 p d z c=true
  ·simp! [ik,dC,i_,cQ,af,e4,ak,q9]
  ·simp at ak;by_cases bA:d="set"
   ·subst bA;cases e:bare p ["day","once"] c with
    |nil=>
     rw[e] at c';simp! [ik,dC,i_,cQ,af,e4,ak,c',bb,q9]
    |cons b bs=>
     rw[e] at c';simp! [ik,dC,i_,cQ,af,e4,ak,c',bb,q9]
   ·simp! [ik,dC,i_,cQ,af,e4,ak,c',bb,bA,q9]
 ·simp! [ik,dC,i_,cQ,af,q9]
def a4.xS{p:aU}{c:aG}(h:a4 p c)(x:Int):a4 p {c with bN:=[],c6:=0,mode:="leaving",left:=x}:=⟨h.zn,h.eg,h.fE,a6 "leaving",h.ca,λe=>absurd e va,h.ln,h.lo,h.us,h.b4,by simp⟩
def afy(p:aU)(c:aG)(w:Str)(h:a4 p c)(aR:c.told.length+60<big):vc [.obj .cN 0 (encC p c),.ab (.str w)]=some (.none,encC p (jh p w c)):=by
 have cC:=qy p {c with bN:=[],c6:=0,mode:="leaving",left:=p.leave} "set" w (by show c.told.length<big;omega);have eh:=OU p (tell "set" (some w) {c with bN:=[],c6:=0,mode:="leaving",left:=p.leave}) ((h.xS p.leave).tell _ _) (by
  have:(tell "set" (some w) {c with bN:=[],c6:=0,mode:="leaving",left:=p.leave}:aG).told.length=c.told.length+1:=by simp[tell]
  omega)
 have lf:(tell "set" (some w) {c with bN:=[],c6:=0,mode:="leaving",left:=p.leave}:aG).left=p.leave:=rfl;by_cases af:p.leave<=0
 ·simp! [jr,vc,JJ,b8,cC,lf,af,eh,jh]
 ·simp! [jr,vc,JJ,b8,cC,lf,af,jh]
def aee(p:aU)(c:aG)(w:Str)(aR:c.told.length<big):yj [.obj .cN 0 (encC p c),.ab (.str w)]=some (.none,encC p (mY w c)):=by
 have cC:=qy p {c with mode:="off",left:=0,c6:=0,eM:=none,bU:=[]} "unset" w aR;simp! [jr,yj,OK,cC,mY]
theorem vn:∀l:List Str,strsOf (l.map .str)=some l
| []=>rfl
|x::l=>by simp[strsOf,vn l]
noncomputable def qc(p:aU)(d:Str)(z:Option Str)(c:aG):Prop:=d="set"\/d="unset"\/(d="shunt"/\∃x,z=some x/\x∈p.bM.map (·.1))\/(d="free"/\∃x,z=some x/\x∈c.bU)
def aeG(p:aU)(c:aG)(w d:Str)(z:Option Str)(h:a4 p c)(hd:cz d)(aq:qc p d z c)(aR:c.told.length+60<big):rD [.obj .cN 0 (encC p c),.ab (.str w),.ab (.str d),.ab (dQ z)]=some (.none,encC p (d2 p w d z c)):=by
 have aO:=cL hd (a6 "set");have bb:=cL hd (a6 "unset");have cQ:=cL hd (a6 "shunt");have es:=afy p c w h aR;have e4:=aee p c w (by omega);rcases aq with rfl|rfl|⟨rfl,x,rfl,hx⟩|⟨rfl,x,rfl,hx⟩
 ·simp! [ik,rD,yn,aO,es,d2]
 ·simp! [hT,rD,yn,aO,bb,e4,d2]
 ·have aw:=h.BL;have cC:=qy p {c with bU:=eD (c.bU++[x])} "shunt" x (by show c.told.length<big;omega);have bW:c.bU.length+1<=big:=by unfold big;omega
  have b6:c.bU.length+1<64:=by omega
  have uj:1<=big:=by decide
  have hz:=vn (c.bU++[x]);simp at hz;simp! [hT,rD,yn,aO,bb,cQ,dQ,cV,uj,bW,b6,C7,hz,cC,d2]
 ·have cC:=qy p {c with bU:=c.bU.erase x} "free" x (by show c.told.length<big;omega);simp! [hT,rD,yn,aO,bb,cQ,dQ,rp,vn,hx,cC,d2]
structure Wp(p:aU):Prop where
 cd:(p.codes.map (·.cS)).Nodup
 vR:(p.bM.map (·.1)).Nodup
 cl:p.codes.length<=40
 od:0<=p.leave/\0<=p.gb/\0<=p.loud
def a4.add{p:aU}{c:aG}(h:a4 p c)(f:Str):a4 p {c with used:=gZ c.used f}:=⟨h.zn,h.eg,h.fE,h.mo,h.ca,h.iE,h.ln,h.lo,(afH _ _).trans h.us,h.b4,h.al⟩
def a4.uQ{p:aU}{c:aG}(h:a4 p c)(n:Int):a4 p {c with tries:=n}:=⟨h.zn,h.eg,h.fE,h.mo,h.ca,h.iE,h.ln,h.lo,h.us,h.b4,h.al⟩
def Dy{p:aU}{c:aG}{k:eP}{d:Str}{z:Option Str}(hd:d="set"\/d="unset"\/d="shunt"\/d="free")(aq:k' p d z)(ax:jH p k d z c=none):qc p d z c:=by
 rcases hd with rfl|rfl|rfl|rfl
 ·exact .inl rfl
 ·exact .inr (.inl rfl)
 ·exact .inr (.inr (.inl ⟨rfl,aq (.inl rfl)⟩))
 ·refine .inr (.inr (.inr ⟨rfl,?_⟩))
  obtain⟨x,rfl,hx⟩:=aq (.inr rfl);refine⟨x,rfl,?_⟩;refine Classical.byContradiction λbj=>?_;have:h1 p "free" (some x) c=true:=by
   by_cases hm:c.mode="off" <;> simp[h1,oi,oj,bj,hm]
  unfold jH at ax;rw[this] at ax;by_cases ar:(if ("free":Str)="free" then ("shunt":Str) else "free")∈k.ih
  ·rw[if_neg (λq=>q ar),if_pos rfl] at ax;cases ax
  ·rw[if_pos ar] at ax;cases ax
def adD(p:aU)(c:aG)(k:eP)(d:Str)(z:Option Str)(h:a4 p c)(aC:Wp p)(aH:k∈p.codes)(hd:d="set"\/d="unset"\/d="shunt"\/d="free")(aq:k' p d z)(aR:c.told.length+60<big):u7 [.obj .cN 0 (encC p c),.ab (dC k),.ab (.str d),.ab (dQ z)]=some (.none,encC p (takeRight p k d z c)):=by
 have f5:cz d:=by
  rcases hd with rfl|rfl|rfl|rfl
  ·exact a6 "set"
  ·exact a6 "unset"
  ·exact a6 "shunt"
  ·exact a6 "free"
 have dy:=ada p c k d z .fR h aH f5 aq;have Ny:k.cS∈c.used.map (·.1):=by rw[h.us];exact dm.mpr ⟨k,aH,rfl⟩
 cases e:jH p k d z c with
|none=>
  have iZ:=Dy hd aq e;have g1:=Lj Ny;have g2:=ahP Ny (by rw[h.us];exact aC.cd);have aw:(iF c.used).length<big:=by
   have:=congrArg List.length h.us;have:=aC.cl;simp[iF] at *;unfold big;omega
  have e3:=aeG p {c with used:=gZ c.used k.cS} k.ft d z (h.add _) f5 iZ aR;rw[e] at dy;simp only[dC] at dy;simp! [ik,u7,Jy,dy,q9,dC,keyOf,g1,g2,aw,e3,takeRight,e]
|some wn=>
  obtain⟨w,n⟩:=wn;have bp:=qy p c w n (by omega);rw[e] at dy;simp only[dC] at dy;simp! [ik,u7,Jy,dy,q9,dC,bp,takeRight,e]
def J4{p:aU}{f:Str}{k:eP}(h:codeOf p f=some k):k∈p.codes:=List.mem_of_find?_eq_some h
def ahm(p:aU)(c:aG)(f d:Str)(z:Option Str)(h:a4 p c)(aC:Wp p)(hf:cz f)(hd:d="set"\/d="unset"\/d="shunt"\/d="free")(aq:k' p d z)(aR:c.told.length+60<big):rH [.obj .cN 0 (encC p c),.ab (.str f),.ab (.str d),.ab (dQ z)]=some (.none,encC p (code p f d z c)):=by
 have g0:=aeN (λk aH=>(h.eg k aH).1) hf;have bp:=CN p c "locked" (by omega);have kD:=adC p c (by omega);by_cases af:0<c.locked
 ·simp! [jr,rH,yA,g0,af,bp,code]
 ·cases e:codeOf p f with
  |none=>
   rw[e] at g0;simp! [jr,rH,yA,g0,uu,af,kD,code,e]
  |some k=>
   rw[e] at g0;have aH:=J4 e;have e4:=ael p c k h aH .fR;have dZ:=adD p {c with tries:=0} k d z (h.uQ 0) aC aH hd aq aR;cases ak:ks k c with
   |true=>
    rw[ak] at e4;simp! [jr,rH,yA,g0,uu,af,e4,dC] at e4 ⊢;simp[e4,kD,code,e,af,ak]
   |false=>
    rw[ak] at e4;simp! [jr,rH,yA,g0,uu,af,e4,dC] at e4 dZ ⊢;simp! [ach,e4,dZ,code,e,af,ak]
inductive gX where
|line (z w:Str)
|code (f d:Str) (z:Option Str)
|cE (n:Int)
noncomputable def fg:gX->T
|.line z w=>.tuple [.str "line",.str z,.str w]
|.code f d z=>.tuple [.str "code",.str f,.str d,dQ z]
|.cE n=>.tuple [.str "ticks",.int n]
noncomputable def m'(p:aU):gX->Prop
|.line z w=>z∈p.bM.map (·.1)/\(w="shut"\/w="open"\/w="cut")
|.code f d z=>cz f/\(d="set"\/d="unset"\/d="shunt"\/d="free")/\k' p d z
|.cE n=>1<=n
noncomputable def d5(p:aU)(c:aG):gX->aG
|.line z w=>line p z w c
|.code f d z=>code p f d z c
|.cE n=>cE p n c
def afw(p:aU)(c:aG)(e:gX)(h:a4 p c)(aC:Wp p)(he:m' p e)(aR:c.told.length+60<big):rE [.obj .cN 0 (encC p c),.ab (fg e)]=some (.none,encC p (d5 p c e)):=by
 have q (x y:Str) (hx:cz x) (bL:cz y):=cL hx bL;cases e with
|line z w=>
  have fp:cz w:=by
   rcases he.2 with rfl|rfl|rfl
   ·exact a6 "shut"
   ·exact a6 "open"
   ·exact a6 "cut"
  have fX:=ag' p c z w h he.1 fp (by omega);simp! [ik,rE,Cv,fg,cL (a6 "line") (a6 "line"),fX,d5]
|code f d z=>
  have fX:=ahm p c f d z h aC he.1 he.2.1 he.2.2 aR;simp! [hT,rE,Cv,fg,cL (a6 "code") (a6 "line"),cL (a6 "code") (a6 "code"),fX,d5]
|cE n=>
  have fX:=afL p c n h (by omega);simp! [hT,rE,Cv,fg,cL (a6 "ticks") (a6 "line"),cL (a6 "ticks") (a6 "code"),fX,d5]
end a'
end
section
namespace a'
open D PySem
local instance:c2:=⟨[],λ_=>[],λ_=>none⟩
def mK(w:Str)(n:Option Str)(c:aG):(tell w n c).told.length=c.told.length+1:=by simp[tell]
theorem a4.Vn{p:aU}{c:aG}(h:a4 p c)(x:Int){z:Str}(aq:z∈p.bM.map (·.1)):a4 p {c with mode:="coming",left:=x,eM:=some z}:=
 ⟨h.zn,h.eg,h.fE,a6 "coming",λy e=>en e▸⟨h.i2 aq,aq⟩,λ_ e=>(nomatch e),h.ln,h.lo,h.us,h.b4,h.al⟩
theorem a4.gA{p:aU}{c:aG}(h:a4 p c){z:Str}(k:Str)(aq:z∈p.bM.map (·.1)):a4 p (gA p z k c):=by
 unfold a'.gA;split
 ·exact h.dd aq
 ·exact (h.Vn p.gb aq).tell _ _
def aeh(p:aU)(z k:Str)(c:aG):(gA p z k c).told.length<=c.told.length+1:=by
 unfold a'.gA;split
 ·exact y3 p z c
 ·rw[mK];exact el _
theorem a4.gB{p:aU}{c:aG}(h:a4 p c){z:Str}(w:Str)(aq:z∈p.bM.map (·.1)):a4 p (gB p z w c):=by
 unfold a'.gB
 repeat' split
 all_goals first|exact h.dd aq|exact h.tell _ _|exact h.gA _ aq|exact h
def adW(p:aU)(z w:Str)(c:aG):(gB p z w c).told.length<=c.told.length+1:=by
 unfold a'.gB
 repeat' split
 all_goals first|exact y3 p z c|exact aeh p z _ c|(rw[mK];exact el _)|omega
theorem a4.line{p:aU}{c:aG}(h:a4 p c){z w:Str}(aq:z∈p.bM.map (·.1))(hw:cz w):a4 p (line p z w c):=by
 have h':=h.I7 z hw;unfold a'.line
 repeat' split
 all_goals first|exact h|exact h'|exact h'.tell _ _|exact h'.gB _ aq
def afi(p:aU)(z w:Str)(c:aG):(line p z w c).told.length<=c.told.length+1:=by
 unfold a'.line
 repeat' split
 all_goals first|omega|(rw[mK];exact el _)|exact adW p z w {c with lines:=fb c.lines z w}|exact pa _
theorem a4.bN{p:aU}:∀{zs:List Str} {c:aG},a4 p c->(∀z∈zs,z∈p.bM.map (·.1))->a4 p (a'.bN p zs c)
| [],_,h,_=>h
|z::zs,c,h,aq=>a4.bN (zs:=zs) (h.dd (aq z e8)) λy bL=>aq y (dM _ bL)
theorem JY(p:aU):∀(zs:List Str) (c:aG),(a'.bN p zs c).told.length<=c.told.length+zs.length
| [],c=>el _
|z::zs,c=>by
  have af:=JY p zs (dd p z c);have ak:=y3 p z c;simp only[hF];show (a'.bN p zs (dd p z c)).told.length<=_;omega
theorem a4.fY{p:aU}{c:aG}(h:a4 p c):a4 p (fY p c):=a4.bN ((h.on 0).tell _ _) λz aq=>vB aq
def OQ{p:aU}{c:aG}(h:a4 p c):(fY p c).told.length<=c.told.length+41:=by
 have af:=JY p (bare p ["inner","way"] (tell "on" none {c with mode:="on",left:=0})) (tell "on" none {c with mode:="on",left:=0});have ak:=QS p ["inner","way"] (tell "on" none {c with mode:="on",left:=0});have bA:=h.fE;rw[mK] at af;show (a'.bN p _ _).told.length<=_;have cP:({c with mode:="on",left:=0}:aG).told.length=c.told.length:=rfl;omega
theorem a4.j9{p:aU}{c:aG}(h:a4 p c)(aD:c.eM≠none):a4 p (j9 p c):=by
 obtain⟨z,aq⟩:=Option.ne_none_iff_exists'.mp aD;unfold a'.j9;rw[aq];exact h.IJ.dd (h.ca z aq).2
def adA(p:aU)(c:aG):(j9 p c).told.length<=c.told.length+1:=y3 _ _ _
theorem a4.eH{p:aU}{c:aG}(h:a4 p c)(hm:c.mode="leaving"\/c.mode="coming"):a4 p (eH p c):=by
 unfold a'.eH;split
 ·exact h.fY
 next q=>exact h.j9 (h.iE (hm.resolve_left q))
def adU{p:aU}{c:aG}(h:a4 p c):(eH p c).told.length<=c.told.length+41:=by
 unfold a'.eH;split
 ·exact OQ h
 ·have:=adA p c;omega
theorem a4.cE{p:aU}{c:aG}(h:a4 p c)(n:Int):a4 p (cE p n c):=by
 unfold a'.cE;split
 ·exact h
 ·split
  next q=>exact ((h.cd _).eH q.1).cd _
  ·exact h.cd _
def Pk{p:aU}{c:aG}(h:a4 p c)(n:Int):(cE p n c).told.length<=c.told.length+41:=by
 unfold a'.cE;split
 ·omega
 ·split
  ·exact adU (h.cd c.left)
  ·exact tv _ _
theorem a4.fc{p:aU}{c:aG}(h:a4 p c):a4 p (fc p c):=by
 unfold a'.fc;split
 ·exact a4.tell (a4.loud (c:={iS c with tries:=0,locked:=90}) ⟨h.zn,h.eg,h.fE,h.mo,h.ca,h.iE,h.ln,h.lo,h.us,h.b4,h.al⟩) _ _
 ·exact⟨h.zn,h.eg,h.fE,h.mo,h.ca,h.iE,h.ln,h.lo,h.us,h.b4,h.al⟩
def adt(p:aU)(c:aG):(fc p c).told.length<=c.told.length+2:=by
 unfold a'.fc;split
 ·rw[mK];show (tell _ _ c).told.length+1<=_;rw[mK];exact el _
 ·show (tell _ _ c).told.length<=_
  rw[mK];omega
theorem a4.jh{p:aU}{c:aG}(h:a4 p c)(w:Str):a4 p (jh p w c):=by
 unfold a'.jh;have h':=(h.xS p.leave).tell "set" (some w);show a4 p (if p.leave<=0 then _ else _);split
 ·exact h'.fY
 ·exact h'
def aeI{p:aU}{c:aG}(h:a4 p c)(w:Str):(jh p w c).told.length<=c.told.length+42:=by
 unfold a'.jh;have h':=(h.xS p.leave).tell "set" (some w);have e:=mK "set" (some w) {c with bN:=[],c6:=0,mode:="leaving",left:=p.leave};have bT:({c with bN:=[],c6:=0,mode:="leaving",left:=p.leave}:aG).told.length=c.told.length:=rfl;show (if p.leave<=0 then fY p _ else _:aG).told.length<=_;split
 ·have:=OQ h';omega
 ·omega
theorem a4.mY{p:aU}{c:aG}(h:a4 p c)(w:Str):a4 p (mY w c):=
 ⟨h.zn,h.eg,h.fE,a6 "off",λz e=>(nomatch e),λe=>absurd e qw,h.ln,h.lo,h.us,by simp[a'.mY,a'.tell],h.al⟩
theorem a4.d2{p:aU}{c:aG}(h:a4 p c)(w:Str){d:Str}{z:Option Str}(aq:qc p d z c)(a8:d="shunt"->z.getD ""∉c.bU):a4 p (d2 p w d z c):=by
 rcases aq with rfl|rfl|⟨rfl,x,rfl,hx⟩|⟨rfl,x,rfl,hx⟩
 ·simp only[a'.d2,if_true];exact h.jh w
 ·simp only[a'.d2,if_neg rI,if_true];exact h.mY w
 ·simp only[a'.d2,if_neg rJ,if_neg pk,if_true];refine a4.tell (c:={c with bU:=eD (c.bU++[x])}) ⟨h.zn,h.eg,h.fE,h.mo,h.ca,h.iE,h.ln,h.lo,h.us,⟨?_,?_⟩,h.al⟩ _ _
  ·show (eD (c.bU++[x])).Nodup
   rw[(om _).nodup_iff,o7];refine⟨h.b4.1,by simp,λa ax b ae e=>?_⟩;simp at ae;exact a8 rfl (by show x∈_;exact ae▸e▸ax)
  ·intro y bL;have Yh:=(om _).mem_iff.mp bL;rcases ju.mp Yh with q|q
   ·exact h.b4.2 y q
   ·simp at q;exact q▸hx
 ·simp only[a'.d2,if_neg rN,if_neg oi,if_neg oj];refine a4.tell (c:={c with bU:=c.bU.erase x}) ⟨h.zn,h.eg,h.fE,h.mo,h.ca,h.iE,h.ln,h.lo,h.us,⟨?_,?_⟩,h.al⟩ _ _
  ·exact h.b4.1.erase x
  ·exact λy bL=>h.b4.2 y (List.mem_of_mem_erase bL)
def aef{p:aU}{c:aG}(h:a4 p c)(w d:Str)(z:Option Str):(d2 p w d z c).told.length<=c.told.length+42:=by
 unfold a'.d2;split
 ·exact aeI h w
 ·split
  ·show (tell _ _ _).told.length<=_
   rw[mK];show c.told.length+1<=_;omega
  ·split
   ·rw[mK];show c.told.length+1<=_;omega
   ·rw[mK];show c.told.length+1<=_;omega
def adK{p:aU}{c:aG}{k:eP}{z:Option Str}(ax:jH p k "shunt" z c=none):z.getD ""∉c.bU/\c.mode="off"/\kindOf p (z.getD "")≠"day":=by
 have bj:h1 p "shunt" z c≠true:=by
  intro q;unfold jH at ax;rw[q] at ax;by_cases ar:(if ("shunt":Str)="free" then ("shunt":Str) else "shunt")∈k.ih
  ·rw[if_neg (λq=>q ar),if_pos rfl] at ax;cases ax
  ·rw[if_pos ar] at ax;cases ax
 unfold h1 at bj;rw[if_neg pk] at bj;by_cases hm:c.mode="off"
 ·rw[if_neg (λq=>q hm),if_pos rfl] at bj;simp at bj;exact⟨bj.2,hm,bj.1⟩
 ·rw[if_pos hm] at bj;exact absurd rfl bj
theorem a4.takeRight{p:aU}{c:aG}(h:a4 p c)(k:eP){d:Str}{z:Option Str}(hd:d="set"\/d="unset"\/d="shunt"\/d="free")(aq:k' p d z):a4 p (takeRight p k d z c):=by
 unfold a'.takeRight;split
 next e=>
  refine (h.add _).d2 _ (Dy hd aq e) λq=>?_
  subst q;exact (adK e).1
 ·exact h.tell _ _
def adu{p:aU}{c:aG}(h:a4 p c)(k:eP)(d:Str)(z:Option Str):(takeRight p k d z c).told.length<=c.told.length+42:=by
 unfold a'.takeRight;split
 ·exact aef (h.add k.cS) _ _ _
 ·rw[mK];omega
theorem a4.code{p:aU}{c:aG}(h:a4 p c)(f:Str){d:Str}{z:Option Str}(hd:d="set"\/d="unset"\/d="shunt"\/d="free")(aq:k' p d z):a4 p (code p f d z c):=by
 unfold a'.code;split
 ·exact h.tell _ _
 ·split
  ·exact h.fc
  ·split
   ·exact h.fc
   ·exact (h.uQ 0).takeRight _ hd aq
def afC{p:aU}{c:aG}(h:a4 p c)(f d:Str)(z:Option Str):(code p f d z c).told.length<=c.told.length+42:=by
 have:=adt p c;unfold a'.code;split
 ·rw[mK];omega
 ·split
  ·omega
  ·split
   ·omega
   ·exact adu (h.uQ 0) _ _ _
def Su{p:aU}{z w:Str}(he:m' p (.line z w)):cz w:=by
 rcases he.2 with rfl|rfl|rfl
 ·exact a6 "shut"
 ·exact a6 "open"
 ·exact a6 "cut"
theorem a4.d5{p:aU}{c:aG}(h:a4 p c){e:gX}(he:m' p e):a4 p (d5 p c e):=by
 cases e with
|line z w=>exact h.line he.1 (Su he)
|code f d z=>exact h.code f he.2.1 he.2.2
|cE n=>exact h.cE n
def JV{p:aU}{c:aG}(h:a4 p c)(e:gX):(d5 p c e).told.length<=c.told.length+50:=by
 cases e with
|line z w=>have:=afi p z w c;show (line p z w c).told.length<=_;omega
|code f d z=>have:=afC h f d z;show (code p f d z c).told.length<=_;omega
|cE n=>have:=Pk h n;show (cE p n c).told.length<=_;omega
def run(p:aU)(c:aG)(es:List gX):aG:=es.foldl (d5 p) c
def fresh(c:aG):aG:={c with past:=0,told:=[]}
theorem a4.fresh{p:aU}{c:aG}(h:a4 p c):a4 p (fresh c):=⟨h.zn,h.eg,h.fE,h.mo,h.ca,h.iE,h.ln,h.lo,h.us,h.b4,h.al⟩
theorem a4.run{p:aU}:∀{es:List gX} {c:aG},a4 p c->(∀e∈es,m' p e)->a4 p (run p c es)
| [],_,h,_=>h
|e::es,c,h,he=>a4.run (es:=es) (h.d5 (he e e8)) λy bL=>he y (dM _ bL)
theorem Qz{p:aU}:∀{es:List gX} {c:aG},a4 p c->(∀e∈es,m' p e)->(run p c es).told.length<=c.told.length+50*es.length
| [],_,_,_=>el _
|e::es,c,h,he=>by
  have af:=Qz (es:=es) (h.d5 (he e e8)) λy bL=>he y (dM _ bL);have ak:=JV h e;show (run p (d5 p c e) es).told.length<=_;simp only[hF];omega
noncomputable def fH(c:aG):T:=.tuple [.str c.mode,.int c.left,dQ c.eM,.tuple (c.lines.map λl=>.str l.2),.tuple (c.bU.map .str),.int c.c6,.tuple (c.bN.map .str),.int c.tries,.int c.locked,.tuple (c.used.map λu=>.int u.2)]
theorem RA:∀(bc:List Str) (l:List (Str×Str)),l.map (·.1)=bc->r5 (bc.map .str) (l.map λl=>.str l.2)=some (iG l)
| [],[],_=>rfl
| [],_::_,h=>by cases h
|_::_,[],h=>by cases h
|k::bc,x::l,h=>by
  simp at h;simp[r5,keyOf,RA bc l h.2,iG,h.1]
theorem RB:∀(bc:List Str) (l:List (Str×Int)),l.map (·.1)=bc->r5 (bc.map .str) (l.map λl=>.int l.2)=some (iF l)
| [],[],_=>rfl
| [],_::_,h=>by cases h
|_::_,[],h=>by cases h
|k::bc,x::l,h=>by
  simp at h;simp[r5,keyOf,RB bc l h.2,iF,h.1]
def PY{l:List Str}(h:l.Nodup):(l.map (Sum.inr:Str->D.Key)).Nodup:=by
 rw[List.nodup_iff_pairwise_ne,List.pairwise_map];exact (List.nodup_iff_pairwise_ne.mp h).imp λq e=>q (Sum.inr.inj e)
def ahc(l:List (Str×Str)):(iG l).map (·.1)=(l.map (·.1)).map Sum.inr:=by simp[iG,lp]
def ahd(l:List (Str×Int)):(iF l).map (·.1)=(l.map (·.1)).map Sum.inr:=by simp[iF,lp]
def KH{α:Type}(enc:α->T)(g:α->T)(caps:Ev)(ts:List α)(s0:Option aM)(h:∀a∈ts,(ag aN (nm 0) (aa (.int 0))) (some (.ab (enc a))::caps)=some (g a)):fS (bH 0) (er true) (ag aN (nm 0) (aa (.int 0))) (ts.map enc) (s0::caps)=some (ts.map g):=by
 have:=t2 (cc:=er true) (fl:=ag aN (nm 0) (aa (.int 0))) (caps:=caps) enc (λ_=>true) g ts s0 λa ax=>⟨rfl,λ_=>h a ax⟩;rw[List.filter_eq_self.mpr (λ_ _=>rfl)] at this;exact this
def ahf(p:aU)(c:aG)(h:a4 p c)(aC:Wp p):yk [.obj .cN 0 [],.ab (b8 p),.ab (fH c)]=some (.none,encC p (fresh c)):=by
 have aq:=h.fE;have aD:=aC.cl;have c3:=KH dD (λz=>.str z.1) [] p.bM none λz aq=>by simp! [jP,dD]
 have dF:=KH dC (λz=>.str z.cS) [] p.codes none λz aq=>by simp! [jP,dC]
 have nu:=RA (p.bM.map (·.1)) c.lines h.ln;have ir:=RB (p.codes.map (·.cS)) c.used h.us;rw[mF] at nu ir;have bW:p.bM.length<=big:=by unfold big;omega
 have b6:p.codes.length<=big:=by unfold big;omega
 have gQ:((iG c.lines).map (·.1)).Nodup/\(iG c.lines).length<=1000/\∀t∈(p.bM.map λz=>iU z.1),(keyOf t).isSome=true:=by
  refine⟨?_,?_,?_⟩
  ·rw[ahc,h.ln];exact PY aC.vR
  ·have:=congrArg List.length h.ln;simp[iG] at *;omega
  ·intro t aR;obtain⟨z,_,rfl⟩:=dm.mp aR;rfl
 have gF:((iF c.used).map (·.1)).Nodup/\(iF c.used).length<=1000/\∀t∈(p.codes.map λz=>iU z.cS),(keyOf t).isSome=true:=by
  refine⟨?_,?_,?_⟩
  ·rw[ahd,h.us];exact PY aC.cd
  ·have:=congrArg List.length h.us;simp[iF] at *;omega
  ·intro t aR;obtain⟨z,_,rfl⟩:=dm.mp aR;rfl
 have uj:(0<=big)=True:=by simp
 simp only[lp] at nu ir;simp only[yk,OL,runM,jz];simp! [n',b8,fH,wk,vZ,c3,dF,bW,b6,nu,ir];rw[if_pos gQ];simp! [n',vZ,wk,c3,dF,bW,b6,nu,ir];rw[if_pos ⟨gF.1,gF.2.1,λa ax=>rfl⟩];simp! [n',encC,fresh,b8]
def afP(p:aU)(c:aG)(m:hg)(h:a4 p c):yq [.obj m 0 (encC p c)]=some (fH c):=by
 have af:=h.BL;have ak:=h.ED;have bW:c.bU.length<=big:=by unfold big;omega
 have b6:c.bN.length<=big:=by unfold big;omega
 simp! [ik,yq,OV,zM,gy,bW,b6,Qu,fH,iG,iF,lp]
theorem QB(p:aU)(aC:Wp p):∀(es:List gX) (c:aG) (s0 s1 s2 s4:Option aM),a4 p c->(∀e∈es,m' p e)->c.told.length+50*es.length+60<big->∃lV,forL (bH 4) (cq (dS 0 rE 3 [(aL 4)])) (es.map fg) [s0,s1,s2,some (.obj .own 0 (encC p c)),s4]=some (.bY [s0,s1,s2,some (.obj .own 0 (encC p (run p c es))),lV])
| [],c,s0,s1,s2,s4,_,_,_=>⟨s4,by simp[forL,run]⟩
|e::es,c,s0,s1,s2,s4,h,he,aR=>by
  have M':=he e e8;simp only[hF] at aR;have dy:=afw p c e h aC M' (by omega);have:=JV h e;obtain⟨rq,b2⟩:=QB p aC es (d5 p c e) s0 s1 s2 (some (.ab (fg e))) (h.d5 M') (λy bL=>he y (dM _ bL)) (by omega);refine⟨rq,?_⟩;rw[dk,forL];simp! [n',dy];simpa [eI,seq,iff,a0,ip,eb,eY,jn,er,ofT,fo,ag,bV,args,aa,nm,aL,cX,skip,asg,jg,hh,par,b1,eU,hR,jc,aN,fW,fP,bH,di,f3,dv,comp,hH,run] using b2
def O5(p:aU)(c:aG)(es:List gX)(h:a4 p c)(aC:Wp p)(he:∀e∈es,m' p e)(aw:es.length<=1000):rM [b8 p,fH c,.tuple (es.map fg)]=some (.obj .own 0 (encC p (run p (fresh c) es))):=by
 have wL:=ahf p c h aC;have ae:(fresh c).told.length=0:=rfl;have b6:(60000<big):=by decide
 obtain⟨lV,fX⟩:=QB p aC es (fresh c) (some (.ab (b8 p))) (some (.ab (fH c))) (some (.ab (.tuple (es.map fg)))) none h.fresh he (by omega);simp only[rM,JX,oY];simp! [n',pT,Bv,wL,g4,th];rw[fX];simp[th,xH]
noncomputable def ja(p:aU):aG:={mode:="off",left:=0,eM:=none,lines:=p.bM.map λz=>(z.1,"shut"),bU:=[],c6:=0,bN:=[],tries:=0,locked:=0,used:=p.codes.map λk=>(k.cS,0),past:=0,told:=[]}
def agt(p:aU)(aq:p.bM.length<=40)(aC:Wp p):zt [b8 p]=some (fH (ja p)):=by
 have aD:=aC.cl;have bW:p.bM.length<=big:=by unfold big;omega
 have b6:p.codes.length<=big:=by unfold big;omega
 have c3:=t2 (cc:=er true) (fl:=aa (.str "shut")) (caps:=[]) dD (λ_=>true) (λ_=>.str "shut") p.bM none λa ax=>⟨rfl,λ_=>rfl⟩;have dF:=t2 (cc:=er true) (fl:=aa (.int 0)) (caps:=[]) dC (λ_=>true) (λ_=>.int 0) p.codes none λa ax=>⟨rfl,λ_=>rfl⟩;rw[List.filter_eq_self.mpr (λ_ _=>rfl)] at c3 dF;simp! [jP,zt,Rv,b8,gy,bW,b6,c3,dF,Qu,fH,ja,dQ,lp]
end a'
end
section
namespace a'
open D PySem
local instance:c2:=⟨[],λ_=>[],λ_=>none⟩
def K6(ns:List Int)(k:Nat):mJ [fe ns,.int k]=some (.int (ns.getD k 0)):=by
 by_cases h:k<ns.length
 ·have h':(k:Int)<(ns.length:Int):=by omega
  simp! [I8,mJ,ajY,fe,h,h',List.getD]
 ·have h':¬(k:Int)<(ns.length:Int):=by omega
  simp! [I8,mJ,ajY,fe,h,h',List.getD]
def lB{i j:Int}(h:-(2 ^ 64)<j/\j<2 ^ 64):d8 (.int i) (.int j)=some (.int (i*j)):=by
 unfold d8 wd;simp only[decide_eq_true h.1,decide_eq_true h.2,Bool.and_self,Bool.or_true,if_true]
def pD{i j:Int}(h:0<j):oMod (.int i) (.int j)=some (.int (i % j)):=if_pos h
def Sd{i j:Int}(h:0<j/\j<1073741824):oDiv (.int i) (.int j)=some (.int (i / j)):=if_pos h
def ku{i j:Int}:cV (.int i) (.int j)=some (.int (i+j)):=rfl
def ajO{a b:bu}{ε ε':Ev}(h:a ε=some (.bY ε')):seq a b ε=b ε':=by
 unfold seq;rw[h];rfl
def Kz(ns:List Int)(k:Nat):∃m:Int,0<=m/\oo [fe ns,.int k]=some (.int m):=by
 have aD:=K6 ns k;have hd:0<=(ns.getD k 0+7919*(k:Int)+1)*48271 % 2147483647/\(ns.getD k 0+7919*(k:Int)+1)*48271 % 2147483647<2147483647:=⟨pb _ (by decide),u1 _ (by decide)⟩;generalize hx:(ns.getD k 0+7919*(k:Int)+1)*48271 % 2147483647=d at hd;refine⟨(d*d+7*d+k) % 2147483629,pb _ (by decide),?_⟩;have eB:oo [fe ns,.int k]=(tP [some (.ab (fe ns)),some (.ab (.int k)),none]).bind λo=>match o with|.fa t=>some t|.bY _=>some .none|_=>none:=rfl
 have jN:d8 (.int 7919) (.int k)=some (.int (7919*k)):=by
  unfold d8 wd;simp
 have n6:aL 0 [some (.ab (fe ns)),some (.ab (.int k)),none]=some (fe ns):=rfl;have gQ:aL 1 [some (.ab (fe ns)),some (.ab (.int k)),none]=some (.int k):=rfl;have Ib:nm 1 [some (.ab (fe ns)),some (.ab (.int k)),none]=some (.int k):=rfl;have s1:asg 2 (ag oMod (ag d8 (ag cV (ag cV (bV mJ [(aL 0),(aL 1)]) (ag d8 (aa (.int 7919)) (nm 1))) (aa (.int 1))) (aa (.int 48271))) (aa (.int 2147483647))) [some (.ab (fe ns)),some (.ab (.int k)),none]=some (.bY [some (.ab (fe ns)),some (.ab (.int k)),some (.ab (.int d))]):=by
  simp only[asg,ag,bV,args,n6,gQ,Ib,dh,jT,aD,aa,jN,ku,lB (i:=ns.getD k 0+7919*(k:Int)+1) (j:=48271) (by decide),pD (j:=2147483647) (by decide),hx];rfl
 have lP:d8 (.int d) (.int d)=some (.int (d*d)):=lB (by omega);have rj:d8 (.int 7) (.int d)=some (.int (7*d)):=lB (by omega);rw[eB];unfold tP;rw[ajO s1];have bb:nm 2 [some (.ab (fe ns)),some (.ab (.int k)),some (.ab (.int d))]=some (.int d):=rfl;have aO:nm 1 [some (.ab (fe ns)),some (.ab (.int k)),some (.ab (.int d))]=some (.int k):=rfl;simp only[cX,ag,bb,aO,dh,jT,aa,lP,rj,ku,pD (j:=2147483629) (by decide)]
def zf(n k:Int)(aH:-(2 ^ 64)<k/\k<2 ^ 64):∃m:Int,0<=m/\jW [.int n,.int k]=some (.int m):=by
 have hd:0<=(n+104729*k+17)*69621 % 2147483647/\(n+104729*k+17)*69621 % 2147483647<2147483647:=⟨pb _ (by decide),u1 _ (by decide)⟩;generalize hx:(n+104729*k+17)*69621 % 2147483647=d at hd;refine⟨(d*d+3*d+k) % 2147483629,pb _ (by decide),?_⟩;have eB:jW [.int n,.int k]=(tQ [some (.ab (.int n)),some (.ab (.int k)),none]).bind λo=>match o with|.fa t=>some t|.bY _=>some .none|_=>none:=rfl
 have jN:d8 (.int 104729) (.int k)=some (.int (104729*k)):=lB aH;have n6:nm 0 [some (.ab (.int n)),some (.ab (.int k)),none]=some (.int n):=rfl;have gQ:nm 1 [some (.ab (.int n)),some (.ab (.int k)),none]=some (.int k):=rfl;have s1:asg 2 (ag oMod (ag d8 (ag cV (ag cV (nm 0) (ag d8 (aa (.int 104729)) (nm 1))) (aa (.int 17))) (aa (.int 69621))) (aa (.int 2147483647))) [some (.ab (.int n)),some (.ab (.int k)),none]=some (.bY [some (.ab (.int n)),some (.ab (.int k)),some (.ab (.int d))]):=by
  simp only[asg,ag,n6,gQ,dh,jT,aa,jN,ku,lB (i:=n+104729*k+17) (j:=69621) (by decide),pD (j:=2147483647) (by decide),hx];rfl
 have lP:d8 (.int d) (.int d)=some (.int (d*d)):=lB (by omega);have rj:d8 (.int 3) (.int d)=some (.int (3*d)):=lB (by omega);rw[eB];unfold tQ;rw[ajO s1];have bb:nm 2 [some (.ab (.int n)),some (.ab (.int k)),some (.ab (.int d))]=some (.int d):=rfl;have aO:nm 1 [some (.ab (.int n)),some (.ab (.int k)),some (.ab (.int d))]=some (.int k):=rfl;simp only[cX,ag,bb,aO,dh,jT,aa,lP,rj,ku,pD (j:=2147483629) (by decide)]
def iV(a b:Int):oEq (.int a) (.int b)=some (.bool (decide (a=b))):=by
 unfold oEq;rw[rU,rU];by_cases e:a=b <;> simp[hG,e]
def divQ(m:Int)(j:Int)(h:0<j/\j<1073741824:=by decide):∃q,q=m / j/\oDiv (.int m) (.int j)=some (.int q):=⟨_,rfl,Sd h⟩
def modQ(m:Int)(j:Int)(h:0<j:=by decide):∃q,q=m % j/\0<=q/\q<j/\oMod (.int m) (.int j)=some (.int q):=⟨_,rfl,pb _ (by omega),u1 _ h,pD h⟩
def A2{ts:List T}{j:Int}(h0:0<=j)(af:j<ts.length):∃t∈ts,aN (.tuple ts) (.int j)=some t:=by
 have bw:j.toNat<ts.length:=by omega
 refine⟨ts[j.toNat],List.getElem_mem bw,?_⟩
 simp only[aN,fW,fP,if_pos h0,if_pos af,dh];exact gT bw
def xo(ss:List Str){j:Int}(h0:0<=j)(af:j<ss.length):∃s∈ss,aN (.tuple (ss.map .str)) (.int j)=some (.str s):=by
 obtain⟨t,aR,e⟩:=A2 (ts:=ss.map .str) h0 (by simpa using af);obtain⟨s,av,rfl⟩:=dm.mp aR;exact⟨s,av,e⟩
def xn(ss:List Int){j:Int}(h0:0<=j)(af:j<ss.length):∃s∈ss,aN (.tuple (ss.map .int)) (.int j)=some (.int s):=by
 obtain⟨t,aR,e⟩:=A2 (ts:=ss.map .int) h0 (by simpa using af);obtain⟨s,av,rfl⟩:=dm.mp aR;exact⟨s,av,e⟩
def K2:(5<=big)=True:=by simp[big]
def tU:(4<=big)=True:=by simp[big]
def pz:(3<=big)=True:=by simp[big]
def La:(6<=big)=True:=by simp[big]
def agp:(8<=big)=True:=by simp[big]
def one_le:(1<=big)=True:=by simp[big]
noncomputable def q3:bu:=(seq (asg 4 (ag oDiv (bV jW [(aL 0),(aL 2)]) (aa (.int 4)))) (iff (eY (a0 (ag oLt (ag oMod (nm 4) (aa (.int 8))) (ag cV (aa (.int 3)) (ag oMod (nm 0) (aa (.int 5)))))) (a0 (ag oEq (nm 2) (ag oMod (ag oDiv (nm 0) (aa (.int 8))) (aa (.int 8)))))) (asg 1 (ag cV (nm 1) (b1 [(b1 [(aL 3),(ag aN (b1 [(aa (.str "day")),(aa (.str "inner")),(aa (.str "once")),(aa (.str "way")),(aa (.str "way"))]) (ag oMod (ag oDiv (nm 4) (aa (.int 8))) (aa (.int 5))))])]))) skip))
def oI(x:Int×Str):T:=.tuple [.int x.1,.str x.2]
def kinds:List Str:=["day","inner","once","way","way"]
theorem J8(n:Int):∀(l:List (Int×Str)) (acc:List (Str×Str)) (s2 s3 s4:Option aM),(∀x∈l,0<=x.1/\x.1<100)->acc.length+l.length<=20->∃zs mz xO lV,(zs.map (·.1)).Sublist (l.map (·.2))/\(∀z∈zs,z.2∈kinds)/\((∃x∈l,x.1=n / 8 % 8)->zs≠[]) /\
  forL (di [(bH 2),(bH 3)]) q3 (l.map oI) [some (.ab (.int n)),some (.ab (.tuple (acc.map dD))),s2,s3,s4,none,none,none,none,none]=some (.bY [some (.ab (.int n)),some (.ab (.tuple ((acc++zs).map dD))),mz,xO,lV,none,none,none,none,none])
| [],acc,s2,s3,s4,_,_=>⟨[],s2,s3,s4,.refl _,by simp,by simp,by simp[forL]⟩
|x::l,acc,s2,s3,s4,hx,aw=>by
  obtain⟨m,hm,cC⟩:=zf n x.1 (by have:=hx x e8;omega);obtain⟨q,bt,eh⟩:=divQ m 4;obtain⟨r,_,_,_,ff⟩:=modQ q 8;obtain⟨cw,_,_,_,lJ⟩:=modQ n 5;obtain⟨aO,m7,lK⟩:=divQ n 8;obtain⟨bg,rf,_,_,mZ⟩:=modQ aO 8;obtain⟨bb,n0,m1⟩:=divQ q 8;obtain⟨b7,_,h0,af,nP⟩:=modQ bb 5;obtain⟨s,av,mi⟩:=xo kinds h0 af;simp only[kinds,dk,jS] at mi;simp only[hF] at aw;have bW:acc.length+1<=big:=by unfold big;omega
  have kb:∀y∈l,0<=y.1/\y.1<100:=λy bL=>hx y (dM _ bL);by_cases aD:r<3+cw\/x.1=bg
  ·obtain⟨zs,mz,xO,lV,bZ,b3,n3,p_⟩:=J8 n l (acc++[(x.2,s)]) (some (.ab (.int x.1))) (some (.ab (.str x.2))) (some (.ab (.int q))) kb (by simp;omega);refine⟨(x.2,s)::zs,mz,xO,lV,by simpa using bZ,λz aq=>?_,λ_=>by simp,?_⟩
   ·rcases cZ.mp aq with rfl|aq
    ·exact av
    ·exact b3 z aq
   ·rw[dk,forL];have:q3 [some (.ab (.int n)),some (.ab (.tuple (acc.map dD))),some (.ab (.int x.1)),some (.ab (.str x.2)),s4,none,none,none,none,none]=some (.bY [some (.ab (.int n)),some (.ab (.tuple ((acc++[(x.2,s)]).map dD))),some (.ab (.int x.1)),some (.ab (.str x.2)),some (.ab (.int q)),none,none,none,none,none]):=by
     by_cases dP:r<3+cw
     ·simp! [fJ,q3,cC,eh,ff,lJ,lK,mZ,m1,nP,mi,ku,oLt,dP,cV,bW,K2,i_,one_le,dD]
     ·have nO:oEq (.int x.1) (.int bg)=some (.bool true):=by rw[iV,decide_eq_true (aD.resolve_left dP)]
      simp! [fJ,q3,cC,eh,ff,lJ,lK,mZ,m1,nP,mi,ku,oLt,dP,nO,cV,bW,K2,i_,one_le,dD]
    simp only[oI,di,f3,bH,dh,lq,kO,this];simpa using p_
  ·obtain⟨zs,mz,xO,lV,bZ,b3,n3,p_⟩:=J8 n l acc (some (.ab (.int x.1))) (some (.ab (.str x.2))) (some (.ab (.int q))) kb (by omega);refine⟨zs,mz,xO,lV,bZ.cons _,b3,λ⟨y,bL,e⟩=>n3 ?_,?_⟩
   ·rcases cZ.mp bL with rfl|bL
    ·exact absurd (.inr (by rw[e,rf,m7])) aD
    ·exact⟨y,bL,e⟩
   ·rw[dk,forL];have:q3 [some (.ab (.int n)),some (.ab (.tuple (acc.map dD))),some (.ab (.int x.1)),some (.ab (.str x.2)),s4,none,none,none,none,none]=some (.bY [some (.ab (.int n)),some (.ab (.tuple (acc.map dD))),some (.ab (.int x.1)),some (.ab (.str x.2)),some (.ab (.int q)),none,none,none,none,none]):=by
     have eS:¬r<3+cw:=λz=>aD (.inl z);have hC:¬x.1=bg:=λz=>aD (.inr z);simp! [fJ,q3,cC,eh,ff,lJ,lK,mZ,m1,nP,mi,ku,oLt,eS,hC,iV]
    simp only[oI,di,f3,bH,dh,lq,kO,this];exact p_
def abl:jo 0 3=[.int 0,.int 1,.int 2]:=by simp[jo,List.range_succ]
noncomputable def su:e_:=a0 (ag hD (ag oMod (ag oDiv (nm 1) (ag aN (b1 [(aa (.int 4)),(aa (.int 16)),(aa (.int 64))]) (nm 0))) (aa (.int 4))) (aa (.int 0)))
noncomputable def nQ:bD:=ag aN (b1 [(aa (.str "set")),(aa (.str "shunt")),(aa (.str "unset"))]) (nm 0)
def Di:List Str:=["set","shunt","unset"]
def ae8(q:Int)(ε:Ev)(h:(ε[4]?).join=some (.ab (.int q))):∃rs:List Str,rs.Sublist Di/\comp 1 [4] (l9 (aa (.int 3))) (bH 0) su nQ ε=some (.list (rs.map .str)):=by
 have key:∀j ajV:Int,aN (.tuple [.int 4,.int 16,.int 64]) (.int j)=some (.int ajV)->0<ajV->ajV<1073741824->∃b,su [some (.ab (.int j)),some (.ab (.int q))]=some b:=by
  intro j ajV af ak bA;obtain⟨aO,_,cC⟩:=divQ q ajV ⟨ak,bA⟩;obtain⟨bg,_,_,_,eh⟩:=modQ aO 4;exact⟨decide (0<bg),by simp! [fJ,su,af,cC,eh,hD,pz]⟩
 obtain⟨uj,oQ⟩:=key 0 4 (by simp[aN,fW,fP]) (by decide) (by decide);obtain⟨bW,e7⟩:=key 1 16 (by simp[aN,fW,fP]) (by decide) (by decide);obtain⟨b6,ec⟩:=key 2 64 (by simp[aN,fW,fP]) (by decide) (by decide);have kg:nQ [some (.ab (.int 0)),some (.ab (.int q))]=some (.str "set"):=by simp! [jP,nQ,pz]
 have bg:nQ [some (.ab (.int 1)),some (.ab (.int q))]=some (.str "shunt"):=by simp! [jP,nQ,pz]
 have b7:nQ [some (.ab (.int 2)),some (.ab (.int q))]=some (.str "unset"):=by simp! [jP,nQ,pz]
 have wF:comp 1 [4] (l9 (aa (.int 3))) (bH 0) su nQ ε=(fS (bH 0) su nQ [.int 0,.int 1,.int 2] [none,some (.ab (.int q))]).map .list:=by
  have s3:qC 3=true:=by decide
  simp[comp,l9,aa,s3,abl,hH,h,pz]
 rw[wF];cases uj <;> cases bW <;> cases b6
 ·exact⟨[],by simp,by simp[fS,bH,oQ,e7,ec]⟩
 ·exact⟨["unset"],by decide,by simp[fS,bH,oQ,e7,ec,kg,bg,b7]⟩
 ·exact⟨["shunt"],by decide,by simp[fS,bH,oQ,e7,ec,kg,bg,b7]⟩
 ·exact⟨["shunt","unset"],by decide,by simp[fS,bH,oQ,e7,ec,kg,bg,b7]⟩
 ·exact⟨["set"],by decide,by simp[fS,bH,oQ,e7,ec,kg,bg,b7]⟩
 ·exact⟨["set","unset"],by decide,by simp[fS,bH,oQ,e7,ec,kg,bg,b7]⟩
 ·exact⟨["set","shunt"],by decide,by simp[fS,bH,oQ,e7,ec,kg,bg,b7]⟩
 ·exact⟨["set","shunt","unset"],by decide,by simp[fS,bH,oQ,e7,ec,kg,bg,b7]⟩
noncomputable def sq:bu:=(seq (asg 4 (ag oDiv (bV jW [(aL 0),(ag cV (aa (.int 10)) (nm 2))]) (aa (.int 4)))) (iff (eY (a0 (ag hD (ag oMod (nm 4) (aa (.int 3))) (aa (.int 0)))) (a0 (ag oEq (nm 2) (aa (.int 1))))) (seq (asg 7 (bV gy [(comp 1 [4] (l9 (aa (.int 3))) (bH 0) su nQ)])) (seq (asg 8 (ag aN (b1 [(aa (.str "ann")),(aa (.str "bo")),(aa (.str "cy"))]) (ag oMod (ag oDiv (nm 4) (aa (.int 256))) (aa (.int 3))))) (asg 5 (ag cV (nm 5) (b1 [(b1 [(aL 6),(aL 8),(aL 7),(ag aN (b1 [(aa (.int 0)),(aa (.int 0)),(aa (.int 1)),(aa (.int 2)),(aa (.int 9))]) (ag oMod (ag oDiv (nm 4) (aa (.int 1024))) (aa (.int 5))))])]))))) skip))
def uT:List Str:=["ann","bo","cy"]
theorem J3(n:Int)(s1 s3:Option aM):∀(l:List (Int×Str)) (acc:List eP) (s2 s4 dK cG cY:Option aM),(∀x∈l,0<=x.1/\x.1<100)->acc.length+l.length<=20->∃bc mz lV xP xQ xR,(bc.map (·.cS)).Sublist (l.map (·.2))/\(∀k∈bc,k.ft∈uT/\k.ih.Sublist Di/\k.uses∈([0,0,1,2,9]:List Int))/\((∃x∈l,x.1=1)->bc≠[]) /\
  forL (di [(bH 2),(bH 6)]) sq (l.map oI) [some (.ab (.int n)),s1,s2,s3,s4,some (.ab (.tuple (acc.map dC))),dK,cG,cY,none]=some (.bY [some (.ab (.int n)),s1,mz,s3,lV,some (.ab (.tuple ((acc++bc).map dC))),xP,xQ,xR,none])
| [],acc,s2,s4,dK,cG,cY,_,_=>⟨[],s2,s4,dK,cG,cY,.refl _,by simp,by simp,by simp[forL]⟩
|x::l,acc,s2,s4,dK,cG,cY,hx,aw=>by
  obtain⟨m,hm,cC⟩:=zf n (10+x.1) (by have:=hx x e8;omega);obtain⟨q,bt,eh⟩:=divQ m 4;obtain⟨r,_,_,_,ff⟩:=modQ q 3;obtain⟨aO,m7,lK⟩:=divQ q 256;obtain⟨bg,rf,h0,af,mZ⟩:=modQ aO 3;obtain⟨bb,n0,m1⟩:=divQ q 1024;obtain⟨b7,_,ak,bA,nP⟩:=modQ bb 5;obtain⟨s,av,mi⟩:=xo uT h0 af;obtain⟨u,bj,nO⟩:=xn [0,0,1,2,9] ak bA;simp only[uT,dk,jS] at mi nO;simp only[hF] at aw;have bW:acc.length+1<=big:=by unfold big;omega
  have kb:∀y∈l,0<=y.1/\y.1<100:=λy bL=>hx y (dM _ bL);obtain⟨rs,Gv,Fw⟩:=ae8 q [some (.ab (.int n)),s1,some (.ab (.int x.1)),s3,some (.ab (.int q)),some (.ab (.tuple (acc.map dC))),some (.ab (.str x.2)),cG,cY,none] rfl;by_cases aD:0<r\/x.1=1
  ·obtain⟨bc,mz,lV,xP,xQ,xR,bZ,b3,n3,p_⟩:=J3 n s1 s3 l (acc++[(⟨x.2,s,rs,u⟩:eP)]) (some (.ab (.int x.1))) (some (.ab (.int q))) (some (.ab (.str x.2))) (some (.ab (.tuple (rs.map .str)))) (some (.ab (.str s))) kb (by simp;omega);refine⟨⟨x.2,s,rs,u⟩::bc,mz,lV,xP,xQ,xR,by simpa using bZ,λz aq=>?_,λ_=>by simp,?_⟩
   ·rcases cZ.mp aq with rfl|aq
    ·exact⟨av,Gv,bj⟩
    ·exact b3 z aq
   ·rw[dk,forL];have:sq [some (.ab (.int n)),s1,some (.ab (.int x.1)),s3,s4,some (.ab (.tuple (acc.map dC))),some (.ab (.str x.2)),cG,cY,none]=some (.bY [some (.ab (.int n)),s1,some (.ab (.int x.1)),s3,some (.ab (.int q)),some (.ab (.tuple ((acc++[(⟨x.2,s,rs,u⟩:eP)]).map dC))),some (.ab (.str x.2)),some (.ab (.tuple (rs.map .str))),some (.ab (.str s)),none]):=by
     have rq:asg 4 (ag oDiv (bV jW [(aL 0),(ag cV (aa (.int 10)) (nm 2))]) (aa (.int 4))) [some (.ab (.int n)),s1,some (.ab (.int x.1)),s3,s4,some (.ab (.tuple (acc.map dC))),some (.ab (.str x.2)),cG,cY,none]=some (.bY [some (.ab (.int n)),s1,some (.ab (.int x.1)),s3,some (.ab (.int q)),some (.ab (.tuple (acc.map dC))),some (.ab (.str x.2)),cG,cY,none]):=by
      simp! [fJ,ku,cC,eh]
     have mz:asg 7 (bV gy [(comp 1 [4] (l9 (aa (.int 3))) (bH 0) su nQ)]) [some (.ab (.int n)),s1,some (.ab (.int x.1)),s3,some (.ab (.int q)),some (.ab (.tuple (acc.map dC))),some (.ab (.str x.2)),cG,cY,none]=some (.bY [some (.ab (.int n)),s1,some (.ab (.int x.1)),s3,some (.ab (.int q)),some (.ab (.tuple (acc.map dC))),some (.ab (.str x.2)),some (.ab (.tuple (rs.map .str))),cY,none]):=by
      simp only[asg,bV,args,Fw,dh,jT,gy];rfl
     unfold sq;rw[ajO rq];have e':eY (a0 (ag hD (ag oMod (nm 4) (aa (.int 3))) (aa (.int 0)))) (a0 (ag oEq (nm 2) (aa (.int 1)))) [some (.ab (.int n)),s1,some (.ab (.int x.1)),s3,some (.ab (.int q)),some (.ab (.tuple (acc.map dC))),some (.ab (.str x.2)),cG,cY,none]=some true:=by
      by_cases dP:0<r
      ·simp! [fJ,ff,hD,dP]
      ·have ur:oEq (.int x.1) (.int 1)=some (.bool true):=by rw[iV,decide_eq_true (aD.resolve_left dP)]
       simp! [fJ,ff,hD,dP,ur]
     simp only[iff,e',dh,if_true];rw[ajO mz];simp! [fJ,ff,lK,mZ,m1,nP,mi,nO,cV,bW,K2,tU,pz,one_le,dC]
    simp only[oI,di,f3,bH,dh,lq,kO,this];simpa using p_
  ·obtain⟨bc,mz,lV,xP,xQ,xR,bZ,b3,n3,p_⟩:=J3 n s1 s3 l acc (some (.ab (.int x.1))) (some (.ab (.int q))) (some (.ab (.str x.2))) cG cY kb (by omega);refine⟨bc,mz,lV,xP,xQ,xR,bZ.cons _,b3,λ⟨y,bL,e⟩=>n3 ?_,?_⟩
   ·rcases cZ.mp bL with rfl|bL
    ·exact absurd (.inr e) aD
    ·exact⟨y,bL,e⟩
   ·rw[dk,forL];have:sq [some (.ab (.int n)),s1,some (.ab (.int x.1)),s3,s4,some (.ab (.tuple (acc.map dC))),some (.ab (.str x.2)),cG,cY,none]=some (.bY [some (.ab (.int n)),s1,some (.ab (.int x.1)),s3,some (.ab (.int q)),some (.ab (.tuple (acc.map dC))),some (.ab (.str x.2)),cG,cY,none]):=by
     have eS:¬0<r:=λz=>aD (.inl z);have ur:oEq (.int x.1) (.int 1)=some (.bool false):=by rw[iV,decide_eq_false λz=>aD (.inr z)]
     simp! [fJ,sq,cC,eh,ff,ku,hD,eS,ur]
    simp only[oI,di,f3,bH,dh,lq,kO,this];exact p_
noncomputable def lC:List (Int×Str):=[(0,"a"),(1,"b"),(2,"back"),(3,"d"),(4,"hall"),(5,"r"),(6,"win"),(7,"z")]
noncomputable def q5:List (Int×Str):=[(0,"0000"),(1,"1234"),(2,"4321"),(3,"7777"),(4,"9990"),(5,"9999")]
structure eA(p:aU):Prop where
 zs:(p.bM.map (·.1)).Sublist (lC.map (·.2))
 Qn:∀z∈p.bM,z.2∈kinds
 u4:p.bM≠[]
 cs:(p.codes.map (·.cS)).Sublist (q5.map (·.2))
 jK:∀k∈p.codes,k.ft∈uT/\k.ih.Sublist Di/\k.uses∈([0,0,1,2,9]:List Int)
 wF:p.codes≠[]
 kj:p.leave∈([0,5,30,60]:List Int)
 tj:p.gb∈([0,4,20,60]:List Int)
 to:p.loud∈([1,9,120,300]:List Int)
def agW(n:Int):∃p,eA p/\C9 [.int n]=some (b8 p):=by
 obtain⟨zs,s2,s3,s4,bZ,b3,n3,p_⟩:=J8 n lC [] none none none (by decide) (by decide);have xg:zs≠[]:=n3 (by
  have af:0<=n / 8 % 8:=pb _ (by decide);have ak:n / 8 % 8<8:=u1 _ (by decide);generalize n / 8 % 8=r at af ak;have:r=0\/r=1\/r=2\/r=3\/r=4\/r=5\/r=6\/r=7:=by omega
  rcases this with rfl|rfl|rfl|rfl|rfl|rfl|rfl|rfl
  ·exact⟨(0,"a"),by simp[lC],rfl⟩
  ·exact⟨(1,"b"),by simp[lC],rfl⟩
  ·exact⟨(2,"back"),by simp[lC],rfl⟩
  ·exact⟨(3,"d"),by simp[lC],rfl⟩
  ·exact⟨(4,"hall"),by simp[lC],rfl⟩
  ·exact⟨(5,"r"),by simp[lC],rfl⟩
  ·exact⟨(6,"win"),by simp[lC],rfl⟩
  ·exact⟨(7,"z"),by simp[lC],rfl⟩)
 obtain⟨bc,jQ,nh,t6,t7,x1,A3,Nu,Yz,YA⟩:=J3 n (some (.ab (.tuple (zs.map dD)))) s3 q5 [] s2 s4 none none none (by decide) (by decide);have XR:bc≠[]:=Yz ⟨(1,"1234"),by simp[q5],rfl⟩;obtain⟨m,hm,cC⟩:=zf n 20 (by decide);obtain⟨q,bt,eh⟩:=divQ m 4;obtain⟨r,_,Um,a1,ff⟩:=modQ q 4;obtain⟨aO,m7,lJ⟩:=divQ q 4;obtain⟨bg,_,uj,bW,lK⟩:=modQ aO 4;obtain⟨bb,n0,mZ⟩:=divQ q 16;obtain⟨b7,_,wF,c3,m1⟩:=modQ bb 4;obtain⟨u,bj,nP⟩:=xn [0,5,30,60] Um a1;obtain⟨v,a5,mi⟩:=xn [0,4,20,60] uj bW;obtain⟨w,hw,nO⟩:=xn [1,9,120,300] wF c3;simp only[dk,jS] at nP mi nO;refine⟨⟨zs,bc,u,v,w⟩,⟨bZ,b3,xg,A3,Nu,XR,bj,a5,hw⟩,?_⟩;have f1:g4 (jY (j0 (b1 [(aa (.str "a")),(aa (.str "b")),(aa (.str "back")),(aa (.str "d")),(aa (.str "hall")),(aa (.str "r")),(aa (.str "win")),(aa (.str "z"))]))) (di [(bH 2),(bH 3)]) q3 [some (.ab (.int n)),some (.ab (.tuple [])),none,none,none,none,none,none,none,none]=some (.bY [some (.ab (.int n)),some (.ab (.tuple (zs.map dD))),s2,s3,s4,none,none,none,none,none]):=by
  have:(jY (j0 (b1 [(aa (.str "a")),(aa (.str "b")),(aa (.str "back")),(aa (.str "d")),(aa (.str "hall")),(aa (.str "r")),(aa (.str "win")),(aa (.str "z"))]))) [some (.ab (.int n)),some (.ab (.tuple [])),none,none,none,none,none,none,none,none]=some (lC.map oI):=by
   simp[jY,j0,b1,args,aa,agp,enum,lC,oI,List.zipIdx]
  unfold g4;rw[this];exact p_
 have f2:g4 (jY (j0 (b1 [(aa (.str "0000")),(aa (.str "1234")),(aa (.str "4321")),(aa (.str "7777")),(aa (.str "9990")),(aa (.str "9999"))]))) (di [(bH 2),(bH 6)]) sq [some (.ab (.int n)),some (.ab (.tuple (zs.map dD))),s2,s3,s4,some (.ab (.tuple [])),none,none,none,none]=some (.bY [some (.ab (.int n)),some (.ab (.tuple (zs.map dD))),jQ,s3,nh,some (.ab (.tuple (bc.map dC))),t6,t7,x1,none]):=by
  have:(jY (j0 (b1 [(aa (.str "0000")),(aa (.str "1234")),(aa (.str "4321")),(aa (.str "7777")),(aa (.str "9990")),(aa (.str "9999"))]))) [some (.ab (.int n)),some (.ab (.tuple (zs.map dD))),s2,s3,s4,some (.ab (.tuple [])),none,none,none,none]=some (q5.map oI):=by
   simp[jY,j0,b1,args,aa,La,enum,q5,oI,List.zipIdx]
  unfold g4;rw[this];exact YA
 show eI (seq (asg 1 (b1 [])) (seq (g4 (jY (j0 (b1 [(aa (.str "a")),(aa (.str "b")),(aa (.str "back")),(aa (.str "d")),(aa (.str "hall")),(aa (.str "r")),(aa (.str "win")),(aa (.str "z"))]))) (di [(bH 2),(bH 3)]) q3)
  (seq (asg 5 (b1 [])) (seq (g4 (jY (j0 (b1 [(aa (.str "0000")),(aa (.str "1234")),(aa (.str "4321")),(aa (.str "7777")),(aa (.str "9990")),(aa (.str "9999"))]))) (di [(bH 2),(bH 6)]) sq) _)))) 10 [.int n]=_
 unfold eI;have lL:seq (asg 1 (b1 []))=λb=>seq (asg 1 (b1 [])) b:=rfl;have af:asg 1 (b1 []) [some (.ab (.int n)),none,none,none,none,none,none,none,none,none]=some (.bY [some (.ab (.int n)),some (.ab (.tuple [])),none,none,none,none,none,none,none,none]):=by simp[asg,b1,args]
 have gC:asg 5 (b1 []) [some (.ab (.int n)),some (.ab (.tuple (zs.map dD))),s2,s3,s4,none,none,none,none,none]=some (.bY [some (.ab (.int n)),some (.ab (.tuple (zs.map dD))),s2,s3,s4,some (.ab (.tuple [])),none,none,none,none]):=by simp[asg,b1,args]
 show (seq _ _ [some (.ab (.int n)),none,none,none,none,none,none,none,none,none]).bind _=_
 rw[ajO af,ajO f1,ajO gC,ajO f2];simp! [fJ,cC,eh,ff,lJ,lK,mZ,m1,nP,mi,nO,tU,pz,b8]
def eA.fE{p:aU}(h:eA p):p.bM.length<=8:=by simpa [lC] using h.zs.length_le
def eA.cl{p:aU}(h:eA p):p.codes.length<=6:=by simpa [q5] using h.cs.length_le
def rQ{l:List Str}(h:l.all (λx=>(iU x).canLay0)=true:=by decide +kernel){x:Str}(hx:x∈l):cz x:=List.all_eq_true.mp h x hx
def eA.wp{p:aU}(h:eA p):Wp p:=by
 refine⟨?_,?_,?_,?_⟩
 ·exact h.cs.nodup (by decide +kernel)
 ·exact h.zs.nodup (by decide +kernel)
 ·have:=h.cl;omega
 ·have af:=h.kj;have ak:=h.tj;have bA:=h.to;simp at af ak bA;omega
def eA.i2{p:aU}(h:eA p):∀z∈p.bM,cz z.1/\cz z.2:=λz aq=>⟨rQ (l:=lC.map (·.2)) (hx:=h.zs.subset (dm.mpr ⟨z,aq,rfl⟩)),rQ (l:=kinds) (hx:=h.Qn z aq)⟩
def eA.aao{p:aU}(h:eA p):∀k∈p.codes,cz k.cS/\cz k.ft/\∀r∈k.ih,cz r:=λk aH=>⟨rQ (l:=q5.map (·.2)) (hx:=h.cs.subset (dm.mpr ⟨k,aH,rfl⟩)),rQ (l:=uT) (hx:=(h.jK k aH).1),λr ar=>rQ (l:=Di) (hx:=(h.jK k aH).2.1.subset ar)⟩
def eA.begun{p:aU}(h:eA p):a4 p (ja p):=by
 refine⟨h.i2,h.aao,?_,a6 "off",λz e=>(nomatch e),λe=>absurd e qw,?_,?_,?_,by simp[ja],by simp[ja]⟩
 ·have:=h.fE;omega
 ·simp[ja,lp]
 ·intro l aw;obtain⟨z,_,rfl⟩:=dm.mp aw;exact a6 "shut"
 ·simp[ja,lp]
end a'
end
section
namespace a'
open D PySem
def xp(p:aU):aN (b8 p) (.int 0)=some (.tuple (p.bM.map dD)):=by simp[aN,fW,fP,b8]
def Nr(p:aU):aN (b8 p) (.int 1)=some (.tuple (p.codes.map dC)):=by simp[aN,fW,fP,b8]
def DH(z:Str×Str):aN (dD z) (.int 0)=some (.str z.1):=by simp[aN,fW,fP,dD]
def ai8(k:eP):aN (dC k) (.int 0)=some (.str k.cS):=by simp[aN,fW,fP,dC]
def NH(m:Int){l:List T}(h:l≠[]):∃q:Int,0<=q/\q<l.length/\oMod (.int m) (.int l.length)=some (.int q):=by
 have aw:0<(l.length:Int):=by
  have:=List.length_pos_iff.mpr h;omega
 obtain⟨q,_,af,ak,e⟩:=modQ m l.length aw;exact⟨q,af,ak,e⟩
def aj2:List Str:=["0000","1234","4321","7777","9990","9999","0001","1111","5555"]
noncomputable def mR(p:aU):gX->Prop
|.line z w=>z∈p.bM.map (·.1)/\w∈(["shut","open","open","cut"]:List Str)
|.code f d z=>f∈aj2/\(((d="set"\/d="unset")/\z=none)\/((d="shunt"\/d="free")/\∃x,z=some x/\x∈p.bM.map (·.1)))
|.cE n=>1<=n/\n<=1000000000
def mR.ok{p:aU}{e:gX}(h:mR p e):m' p e:=by
 cases e with
|line z w=>
  obtain⟨af,ak⟩:=h;simp at ak;exact⟨af,ak⟩
|cE n=>exact h.1
|code f d z=>
  obtain⟨af,ak⟩:=h;refine⟨rQ (l:=aj2) (hx:=af),?_,?_⟩
  ·rcases ak with ⟨ak|ak,_⟩|⟨ak|ak,_⟩
   ·exact .inl ak
   ·exact .inr (.inl ak)
   ·exact .inr (.inr (.inl ak))
   ·exact .inr (.inr (.inr ak))
  ·intro hd;rcases ak with ⟨ak|ak,_⟩|⟨_,bA⟩
   ·rcases hd with hd|hd
    ·exact absurd (ak.symm.trans hd) rK
    ·exact absurd (ak.symm.trans hd) qx
   ·rcases hd with hd|hd
    ·exact absurd (ak.symm.trans hd) rG
    ·exact absurd (ak.symm.trans hd) qv
   ·exact bA
noncomputable def vS:List gX:=[.code "5555" "unset" none,.code "5555" "unset" none,.code "5555" "unset" none]
end a'
end
section
namespace a'
open D PySem
def xT(k:Int)(w:Int×Str×Option Str):Int×Str×Option Str:=(k+w.1,w.2)
noncomputable def b4(k:Int)(pre:List (Int×Str×Option Str))(c:aG):aG:={c with past:=k+c.past,told:=pre++c.told.map (xT k)}
section
variable (k:Int)(pre:List (Int×Str×Option Str))(p:aU)
def ot(w:Str)(n:Option Str)(c:aG):tell w n (b4 k pre c)=b4 k pre (tell w n c):=by simp[tell,b4,xT]
def De(z:Str)(c:aG):dd p z (b4 k pre c)=b4 k pre (dd p z c):=by
 by_cases h:z∈c.bN <;> simp[dd,b4,h,tell,hA,xT]
theorem Ql:∀(zs:List Str) (c:aG),bN p zs (b4 k pre c)=b4 k pre (bN p zs c)
| [],c=>rfl
|z::zs,c=>by
  show bN p zs (dd p z (b4 k pre c))=_
  rw[De,Ql zs];rfl
def afB(z x:Str)(c:aG):gA p z x (b4 k pre c)=b4 k pre (gA p z x c):=by
 unfold gA;by_cases h:x≠"way"\/p.gb<=0
 ·rw[if_pos h,if_pos h,De]
 ·rw[if_neg h,if_neg h,<- ot];rfl
def aeJ(z w:Str)(c:aG):gB p z w (b4 k pre c)=b4 k pre (gB p z w c):=by
 have hm:(b4 k pre c).mode=c.mode:=rfl;unfold gB;rw[hm,De,ot,afB]
 repeat' split
 all_goals rfl
def ag_(z w:Str)(c:aG):line p z w (b4 k pre c)=b4 k pre (line p z w c):=by
 show (if w=dn c z then b4 k pre c else if w="shut" then (if dn c z="cut" then tell "mended" (some z) (b4 k pre {c with lines:=fb c.lines z w}) else b4 k pre {c with lines:=fb c.lines z w})
  else if z∈c.bU then b4 k pre {c with lines:=fb c.lines z w} else gB p z w (b4 k pre {c with lines:=fb c.lines z w}))=b4 k pre (line p z w c)
 unfold line;rw[ot,aeJ]
 repeat' split
 all_goals rfl
def JT(n:Int)(c:aG):eC n (b4 k pre c)=b4 k pre (eC n c):=by simp[eC,b4,Int.add_assoc]
def OY(c:aG):fY p (b4 k pre c)=b4 k pre (fY p c):=by
 show bN p (bare p ["inner","way"] (tell "on" none {c with mode:="on",left:=0})) (tell "on" none (b4 k pre {c with mode:="on",left:=0}))=_
 rw[ot,Ql];rfl
def adV(c:aG):j9 p (b4 k pre c)=b4 k pre (j9 p c):=by
 unfold j9;rw[<- De];rfl
def aeF(c:aG):eH p (b4 k pre c)=b4 k pre (eH p c):=by
 have hm:(b4 k pre c).mode=c.mode:=rfl;unfold eH;rw[hm,OY,adV];split <;> rfl
def afK(n:Int)(c:aG):cE p n (b4 k pre c)=b4 k pre (cE p n c):=by
 have hm:(b4 k pre c).mode=c.mode:=rfl;have aw:(b4 k pre c).left=c.left:=rfl;unfold cE;rw[hm,aw,JT,aeF,JT,JT]
 repeat' split
 all_goals rfl
def O3(c:aG):fc p (b4 k pre c)=b4 k pre (fc p c):=by
 have aR:(b4 k pre c).tries=c.tries:=rfl;have af:iS (b4 k pre c)=b4 k pre (iS c):=by simp[iS,tell,b4,xT]
 unfold fc;rw[aR,af];split
 ·exact ot k pre "attack" none (hA p {iS c with tries:=0,locked:=90})
 ·rfl
def agq(w:Str)(c:aG):jh p w (b4 k pre c)=b4 k pre (jh p w c):=by
 show (if p.leave<=0 then fY p (tell "set" (some w) (b4 k pre {c with bN:=[],c6:=0,mode:="leaving",left:=p.leave})) else tell "set" (some w) (b4 k pre {c with bN:=[],c6:=0,mode:="leaving",left:=p.leave}))=b4 k pre (if p.leave<=0 then _ else _)
 rw[ot,OY];split <;> rfl
def aeH(w:Str)(c:aG):mY w (b4 k pre c)=b4 k pre (mY w c):=by
 unfold mY;rw[<- ot];rfl
def Fv(w d:Str)(z:Option Str)(c:aG):d2 p w d z (b4 k pre c)=b4 k pre (d2 p w d z c):=by
 show (if d="set" then jh p w (b4 k pre c) else if d="unset" then mY w (b4 k pre c) else if d="shunt" then tell "shunt" z (b4 k pre {c with bU:=eD (c.bU++[z.getD ""])}) else tell "free" z (b4 k pre {c with bU:=c.bU.erase (z.getD "")}))=b4 k pre (d2 p w d z c)
 unfold d2;rw[ot,ot,agq,aeH]
 repeat' split
 all_goals rfl
def adN(x:eP)(d:Str)(z:Option Str)(c:aG):takeRight p x d z (b4 k pre c)=b4 k pre (takeRight p x d z c):=by
 have h0:jH p x d z (b4 k pre c)=jH p x d z c:=rfl;unfold takeRight;rw[h0];cases jH p x d z c with
|none=>exact Fv k pre p _ _ _ {c with used:=gZ c.used x.cS}
|some wn=>exact ot k pre _ _ _
def ahl(f d:Str)(z:Option Str)(c:aG):code p f d z (b4 k pre c)=b4 k pre (code p f d z c):=by
 have h0:(b4 k pre c).locked=c.locked:=rfl;unfold code;rw[h0,ot];split
 ·rfl
 ·cases codeOf p f with
  |none=>exact O3 k pre p c
  |some x=>
   show (if ks x c=true then fc p (b4 k pre c) else takeRight p x d z (b4 k pre {c with tries:=0}))=b4 k pre (if ks x c=true then _ else _)
   rw[O3,adN];split <;> rfl
def afv(e:gX)(c:aG):d5 p (b4 k pre c) e=b4 k pre (d5 p c e):=by
 cases e with
|line z w=>exact ag_ k pre p z w c
|code f d z=>exact ahl k pre p f d z c
|cE n=>exact afK k pre p n c
end
def afk{x a b:Int}(ae:0<=b):less (less x a) b=less x (a+b):=by
 unfold less
 repeat' split
 all_goals omega
def rS(a n:Int):less a n=max (a - n) 0:=by
 unfold less;split <;> omega
def CD(c:aG)(a b:Int)(ae:0<=b):eC b (eC a c)=eC (a+b) c:=by
 simp[eC,afk ae,Int.add_assoc]
def CH(p:aU)(z:Str)(c:aG):(dd p z c).mode=c.mode/\(dd p z c).left=c.left/\(dd p z c).eM=c.eM/\(dd p z c).lines=c.lines/\(dd p z c).bU=c.bU/\(dd p z c).tries=c.tries/\(dd p z c).locked=c.locked/\(dd p z c).used=c.used/\(dd p z c).past=c.past/\(dd p z c).c6=p.loud:=by
 unfold dd;split <;> simp[tell,hA]
theorem yL(p:aU):∀(zs:List Str) (c:aG),(bN p zs c).mode=c.mode/\(bN p zs c).left=c.left/\(bN p zs c).eM=c.eM/\(bN p zs c).lines=c.lines/\(bN p zs c).bU=c.bU/\(bN p zs c).tries=c.tries/\(bN p zs c).locked=c.locked/\(bN p zs c).used=c.used/\(bN p zs c).past=c.past/\((bN p zs c).c6=p.loud\/(bN p zs c).c6=c.c6)
| [],c=>by simp[bN]
|z::zs,c=>by
  have af:=CH p z c;have ak:=yL p zs (dd p z c);have e:bN p (z::zs) c=bN p zs (dd p z c):=rfl;rw[e];obtain⟨a1,a2,iC,kZ,j7,k0,mU,nM,kA,nL⟩:=af;obtain⟨bW,b6,hz,mV,z3,Vf,Vg,Vh,Vi,Ve⟩:=ak;refine⟨bW.trans a1,b6.trans a2,hz.trans iC,mV.trans kZ,z3.trans j7,Vf.trans k0,Vg.trans mU,Vh.trans nM,Vi.trans kA,?_⟩;rcases Ve with q|q
  ·exact .inl q
  ·exact .inl (q.trans nL)
def aj'(p:aU)(c:aG):(eH p c).mode="on"/\(c.left=0->(eH p c).left=0)/\(eH p c).lines=c.lines/\(eH p c).bU=c.bU/\(eH p c).tries=c.tries/\(eH p c).locked=c.locked/\(eH p c).used=c.used/\(eH p c).past=c.past/\((eH p c).c6=p.loud\/(eH p c).c6=c.c6):=by
 unfold eH;split
 ·obtain⟨a1,a2,iC,kZ,j7,k0,mU,nM,kA,nL⟩:=yL p (bare p ["inner","way"] (tell "on" none {c with mode:="on",left:=0})) (tell "on" none {c with mode:="on",left:=0});exact⟨a1,λ_=>a2,kZ,j7,k0,mU,nM,kA,nL⟩
 ·obtain⟨a1,a2,iC,kZ,j7,k0,mU,nM,kA,nL⟩:=CH p (c.eM.getD "") {c with mode:="on",eM:=none};exact⟨a1,λh=>a2.trans h,kZ,j7,k0,mU,nM,kA,.inl nL⟩
def ny(c:aG):Prop:=c.mode="leaving"\/c.mode="coming"
def yB{c:aG}(h:c.mode="on"):¬(c.mode="leaving"\/c.mode="coming"):=by
 rw[h];simp[vg,rL]
def aeY(p:aU)(c:aG)(h:ny c->1<=c.left){a b:Int}(ax:1<=a)(ae:1<=b):cE p b (cE p a c)=cE p (a+b) c:=by
 have na:¬a<1:=by omega
 have nb:¬b<1:=by omega
 have Bt:¬a+b<1:=by omega
 by_cases aR:c.mode="leaving"\/c.mode="coming"
 ·have aw:=h aR;by_cases af:c.left<=a
  ·have aQ:cE p a c=eC (a - c.left) (eH p (eC c.left c)):=by
    unfold cE;rw[if_neg na,if_pos ⟨aR,af⟩]
   have m:(eC (a - c.left) (eH p (eC c.left c))).mode="on":=(aj' p _).1;have a9:cE p (a+b) c=eC (a+b - c.left) (eH p (eC c.left c)):=by
    unfold cE;rw[if_neg Bt,if_pos ⟨aR,by omega⟩]
   rw[aQ,a9];unfold cE;rw[if_neg nb,if_neg (λz=>yB m z.1),CD _ _ _ (by omega)];congr 1;omega
  ·have aQ:cE p a c=eC a c:=by
    unfold cE;rw[if_neg na,if_neg (λz=>af z.2)]
   rw[aQ];have hm:(eC a c).mode=c.mode:=rfl;have w8:(eC a c).left=c.left - a:=by
    show less c.left a=_
    rw[rS];omega
   by_cases ak:c.left<=a+b
   ·unfold cE;rw[if_neg nb,if_neg Bt,hm,w8,if_pos ⟨aR,by omega⟩,if_pos ⟨aR,ak⟩,CD _ _ _ (by omega)];have aJ:a+(c.left - a)=c.left:=by omega
    have bq:b - (c.left - a)=a+b - c.left:=by omega
    rw[aJ,bq]
   ·unfold cE;rw[if_neg nb,if_neg Bt,hm,w8,if_neg (λz=>by have:=z.2;omega),if_neg (λz=>ak z.2),CD _ _ _ (by omega)]
 ·have aQ:cE p a c=eC a c:=by
   unfold cE;rw[if_neg na,if_neg (λz=>aR z.1)]
  rw[aQ];have hm:(eC a c).mode=c.mode:=rfl;unfold cE;rw[if_neg nb,if_neg Bt,hm,if_neg (λz=>aR z.1),if_neg (λz=>aR z.1),CD _ _ _ (by omega)]
def ad3(p:aU)(c:aG)(h:ny c->1<=c.left)(n:Int):ny (cE p n c)->1<=(cE p n c).left:=by
 unfold cE;split
 ·exact h
 next nn=>
  split
  next q=>
   intro t;exact absurd t (yB (aj' p _).1)
  next q=>
   intro t;have t':c.mode="leaving"\/c.mode="coming":=t;have:¬c.left<=n:=λz=>q ⟨t',z⟩;show 1<=less c.left n;rw[rS];omega
structure cT(c:aG):Prop where
 gd:c.mode="off"\/c.mode="leaving"\/c.mode="on"\/c.mode="coming"
 t1:ny c->1<=c.left/\c.left<=60
 t0:¬ny c->c.left=0
 kH:0<=c.c6/\c.c6<=300
 lo:0<=c.locked/\c.locked<=90
 hU:0<=c.tries/\c.tries<=2
def cT.begun(p:aU):cT (ja p):=⟨.inl rfl,λh=>by rcases h with h|h;exact absurd h tE;exact absurd h qw,λ_=>rfl,by simp[ja],by simp[ja],by simp[ja]⟩
theorem eA.loud{p:aU}(h:eA p):1<=p.loud/\p.loud<=300:=by
 have:=h.to;simp at this;omega
theorem eA.leave{p:aU}(h:eA p):0<=p.leave/\p.leave<=60:=by
 have:=h.kj;simp at this;omega
theorem eA.gb{p:aU}(h:eA p):0<=p.gb/\p.gb<=60:=by
 have:=h.tj;simp at this;omega
theorem cT.tell{c:aG}(h:cT c)(w:Str)(n:Option Str):cT (a'.tell w n c):=⟨h.gd,h.t1,h.t0,h.kH,h.lo,h.hU⟩
theorem cT.dd{p:aU}(aC:eA p){c:aG}(h:cT c)(z:Str):cT (a'.dd p z c):=by
 obtain⟨a1,a2,iC,kZ,j7,k0,mU,nM,kA,nL⟩:=CH p z c;have:=aC.loud;refine⟨by rw[a1];exact h.gd,?_,?_,by rw[nL];omega,by rw[mU];exact h.lo,by rw[k0];exact h.hU⟩
 ·unfold ny;rw[a1,a2];exact h.t1
 ·unfold ny;rw[a1,a2];exact h.t0
theorem cT.bN{p:aU}(aC:eA p):∀{zs:List Str} {c:aG},cT c->cT (a'.bN p zs c)
| [],_,h=>h
|z::zs,c,h=>cT.bN aC (zs:=zs) (h.dd aC z)
theorem cT.gA{p:aU}(aC:eA p){c:aG}(h:cT c)(z k:Str):cT (a'.gA p z k c):=by
 have:=aC.gb;unfold a'.gA;split
 ·exact h.dd aC z
 next q=>
  have:¬p.gb<=0:=λz=>q (.inr z);exact⟨.inr (.inr (.inr rfl)),λ_=>by show 1<=p.gb/\p.gb<=60;omega,λt=>absurd (.inr rfl) t,h.kH,h.lo,h.hU⟩
theorem cT.gB{p:aU}(aC:eA p){c:aG}(h:cT c)(z w:Str):cT (a'.gB p z w c):=by
 unfold a'.gB
 repeat' split
 all_goals first|exact h.dd aC z|exact h.tell _ _|exact h.gA aC z _|exact h
theorem cT.line{p:aU}(aC:eA p){c:aG}(h:cT c)(z w:Str):cT (a'.line p z w c):=by
 have h':cT {c with lines:=fb c.lines z w}:=⟨h.gd,h.t1,h.t0,h.kH,h.lo,h.hU⟩;unfold a'.line
 repeat' split
 all_goals first|exact h|exact h'|exact h'.tell _ _|exact h'.gB aC z w
def vJ{x n m:Int}(a8:0<=n)(h:0<=x/\x<=m):0<=less x n/\less x n<=m:=by
 rw[rS];omega
theorem cT.fY{p:aU}(aC:eA p){c:aG}(h:0<=c.c6/\c.c6<=300)(ak:0<=c.locked/\c.locked<=90)(bA:0<=c.tries/\c.tries<=2):cT (a'.fY p c):=
 cT.bN aC (cT.tell (c:={c with mode:="on",left:=0}) ⟨.inr (.inr (.inl rfl)),λt=>absurd t (yB rfl),λ_=>rfl,h,ak,bA⟩ _ _)
theorem cT.j9{p:aU}(aC:eA p){c:aG}(h0:c.left=0)(h:0<=c.c6/\c.c6<=300)(ak:0<=c.locked/\c.locked<=90)(bA:0<=c.tries/\c.tries<=2):cT (a'.j9 p c):=
 cT.dd aC (c:={c with mode:="on",eM:=none}) ⟨.inr (.inr (.inl rfl)),λt=>absurd t (yB rfl),λ_=>h0,h,ak,bA⟩ _
def cT.cd{c:aG}(h:cT c){n:Int}(a8:0<=n)(aR:ny c->n<c.left):cT (eC n c):=by
 refine⟨h.gd,λt=>?_,λt=>?_,vJ a8 h.kH,vJ a8 h.lo,h.hU⟩
 ·have:=h.t1 t;have:=aR t;show 1<=less c.left n/\less c.left n<=60;rw[rS];omega
 ·have:=h.t0 t;show less c.left n=0;rw[rS];omega
theorem cT.cE{p:aU}(aC:eA p){c:aG}(h:cT c)(n:Int):cT (a'.cE p n c):=by
 unfold a'.cE;split
 ·exact h
 ·split
  next q=>
   obtain⟨aO,bb⟩:=q;have aw:=h.t1 aO;have XY:(eC c.left c).left=0:=by
    show less c.left c.left=0
    rw[rS];omega
   have e:cT (a'.eH p (eC c.left c)):=by
    have s:=vJ (n:=c.left) (by omega) h.kH;have l:=vJ (n:=c.left) (by omega) h.lo;unfold a'.eH;split
    ·exact cT.fY aC s l h.hU
    ·exact cT.j9 aC XY s l h.hU
   exact e.cd (by omega) λt=>absurd t (yB (aj' p _).1)
  next q=>
   refine h.cd (by omega) λt=>?_
   have:¬c.left<=n:=λz=>q ⟨t,z⟩;omega
theorem cT.fc{p:aU}(aC:eA p){c:aG}(h:cT c):cT (a'.fc p c):=by
 have:=aC.loud;have:=h.hU;unfold a'.fc;split
 ·exact⟨h.gd,h.t1,h.t0,by show 0<=p.loud/\p.loud<=300;omega,by show (0:Int)<=90/\(90:Int)<=90;omega,by show (0:Int)<=0/\(0:Int)<=2;omega⟩
 ·exact⟨h.gd,h.t1,h.t0,h.kH,h.lo,by show 0<=c.tries+1/\c.tries+1<=2;omega⟩
theorem cT.jh{p:aU}(aC:eA p){c:aG}(h:cT c)(w:Str):cT (a'.jh p w c):=by
 have:=aC.leave;show cT (if p.leave<=0 then a'.fY p (a'.tell "set" (some w) {c with bN:=[],c6:=0,mode:="leaving",left:=p.leave}) else a'.tell "set" (some w) {c with bN:=[],c6:=0,mode:="leaving",left:=p.leave});split
 ·exact cT.fY aC (by show (0:Int)<=0/\(0:Int)<=300;omega) h.lo h.hU
 ·exact⟨.inr (.inl rfl),λ_=>by show 1<=p.leave/\p.leave<=60;omega,λt=>absurd (.inl rfl) t,by show (0:Int)<=0/\(0:Int)<=300;omega,h.lo,h.hU⟩
theorem cT.d2{p:aU}(aC:eA p){c:aG}(h:cT c)(w d:Str)(z:Option Str):cT (a'.d2 p w d z c):=by
 unfold a'.d2;split
 ·exact h.jh aC w
 ·split
  ·exact⟨.inl rfl,λt=>(by rcases t with t|t;exact absurd t tE;exact absurd t qw),λ_=>rfl,by show (0:Int)<=0/\(0:Int)<=300;omega,h.lo,h.hU⟩
  ·split
   ·exact⟨h.gd,h.t1,h.t0,h.kH,h.lo,h.hU⟩
   ·exact⟨h.gd,h.t1,h.t0,h.kH,h.lo,h.hU⟩
theorem cT.code{p:aU}(aC:eA p){c:aG}(h:cT c)(f d:Str)(z:Option Str):cT (a'.code p f d z c):=by
 unfold a'.code;split
 ·exact h.tell _ _
 ·split
  ·exact h.fc aC
  ·split
   ·exact h.fc aC
   ·have h0:cT {c with tries:=0}:=⟨h.gd,h.t1,h.t0,h.kH,h.lo,by show (0:Int)<=0/\(0:Int)<=2;omega⟩;unfold a'.takeRight;split
    ·refine cT.d2 aC ?_ _ _ _
     exact⟨h0.gd,h0.t1,h0.t0,h0.kH,h0.lo,h0.hU⟩
    ·exact h0.tell _ _
theorem cT.d5{p:aU}(aC:eA p){c:aG}(h:cT c)(e:gX):cT (a'.d5 p c e):=by
 cases e with
|line z w=>exact h.line aC z w
|code f d z=>exact h.code aC f d z
|cE n=>exact h.cE aC n
end a'
end
section
namespace a'
open D PySem
def okN(d:Nat)(t:T):Prop:=t.canLay0=true/\t.depth<=d
theorem okN.hj{d:Nat}{t:T}(h:okN d t)(hd:d<=60:=by decide):hj t=true:=by
 unfold D.hj;rw[h.1,decide_eq_true (kn h.2 hd)];rfl
theorem zq{d:Nat}:∀{ts:List T},(∀t∈ts,okN d t)->kN ts=true/\kM ts<=d
| [],_=>by simp[kN,kM]
|t::ts,h=>by
  obtain⟨af,ak⟩:=zq λx hx=>h x (dM _ hx);obtain⟨bA,cP⟩:=h t e8;constructor
  ·rw[kN,bA,af];rfl
  ·rw[kM];omega
def qz{d:Nat}{ts:List T}(h:∀t∈ts,okN d t):okN (d+1) (.tuple ts):=by
 obtain⟨af,ak⟩:=zq h;constructor
 ·rw[PyData.canLay0];exact af
 ·rw[nr];omega
def af9{d:Nat}{ts:List T}(h:∀t∈ts,okN d t):okN (d+1) (.list ts):=by
 obtain⟨af,ak⟩:=zq h;constructor
 ·rw[PyData.canLay0];exact af
 ·rw[nr];omega
def vI(d:Nat)(n:Int):okN d (.int n):=⟨rfl,by rw[nr];omega⟩
def QF(d:Nat):okN d .none:=⟨rfl,by rw[nr];omega⟩
def pB(d:Nat){x:Str}(h:cz x):okN d (.str x):=⟨h,by rw[nr];omega⟩
def R1(d:Nat){x:Option Str}(h:∀z,x=some z->cz z):okN d (dQ x):=by
 cases x with
|none=>exact QF d
|some z=>exact pB d (h z rfl)
def NP{d:Nat}{t:T}(h:okN d t)(hd:d<=60:=by decide):fQ t t=some (.bool false):=by
 unfold fQ;rw[h.hj hd,PySem.SeqAt.eqv_refl t h.1];rfl
def af_{p:aU}{c:aG}(h:a4 p c):okN 2 (fH c):=by
 refine qz λt aR=>?_
 simp only[cZ,kp,or_false] at aR;rcases aR with rfl|rfl|rfl|rfl|rfl|rfl|rfl|rfl|rfl|rfl
 ·exact pB _ h.mo
 ·exact vI _ _
 ·exact R1 _ λz aq=>(h.ca z aq).1
 ·refine qz (d:=0) λt aR=>?_
  obtain⟨l,aw,rfl⟩:=dm.mp aR;exact pB _ (h.lo l aw)
 ·refine qz (d:=0) λt aR=>?_
  obtain⟨l,aw,rfl⟩:=dm.mp aR;exact pB _ (h.oT l aw)
 ·exact vI _ _
 ·refine qz (d:=0) λt aR=>?_
  obtain⟨l,aw,rfl⟩:=dm.mp aR;exact pB _ (h.II l aw)
 ·exact vI _ _
 ·exact vI _ _
 ·refine qz (d:=0) λt aR=>?_
  obtain⟨l,aw,rfl⟩:=dm.mp aR;exact vI _ _
def dw(c:aG):Prop:=∀w∈c.told,cz w.2.1/\∀n,w.2.2=some n->cz n
theorem dw.tell{c:aG}(h:dw c){w:Str}{n:Option Str}(hw:cz w)(a8:∀x,n=some x->cz x):dw (a'.tell w n c):=by
 intro x hx;rcases ju.mp hx with q|q
 ·exact h x q
 ·simp at q;subst q;exact⟨hw,a8⟩
theorem dw.dd{p:aU}{c:aG}(h:dw c){z:Str}(aq:cz z):dw (a'.dd p z c):=by
 unfold a'.dd;split
 ·exact h
 ·exact dw.tell (c:={hA p c with bN:=c.bN++[z]}) h (a6 "alarm") λx e=>en e▸aq
theorem dw.bN{p:aU}:∀{zs:List Str} {c:aG},dw c->(∀z∈zs,cz z)->dw (a'.bN p zs c)
| [],_,h,_=>h
|z::zs,c,h,aq=>dw.bN (zs:=zs) (h.dd (aq z e8)) λy bL=>aq y (dM _ bL)
theorem dw.gA{p:aU}{c:aG}(h:dw c){z k:Str}(aq:cz z):dw (a'.gA p z k c):=by
 unfold a'.gA;split
 ·exact h.dd aq
 ·exact dw.tell (c:={c with mode:="coming",left:=p.gb,eM:=some z}) h (a6 "coming") λx e=>en e▸aq
theorem dw.gB{p:aU}{c:aG}(h:dw c){z w:Str}(aq:cz z):dw (a'.gB p z w c):=by
 unfold a'.gB
 repeat' split
 all_goals first|exact h.dd aq|exact h.tell (a6 "fault") λx e=>en e▸aq|exact h.gA aq|exact h
theorem dw.line{p:aU}{c:aG}(h:dw c){z w:Str}(aq:cz z):dw (a'.line p z w c):=by
 have h':dw {c with lines:=fb c.lines z w}:=h;unfold a'.line
 repeat' split
 all_goals first|exact h|exact h'|exact h'.tell (a6 "mended") λx e=>en e▸aq|exact h'.gB aq
theorem dw.fY{p:aU}{c:aG}(h:dw c)(hw:a4 p c):dw (a'.fY p c):=
 dw.bN (dw.tell (c:={c with mode:="on",left:=0}) h (a6 "on") λx e=>(nomatch e)) λz aq=>hw.i2 (vB aq)
theorem dw.eH{p:aU}{c:aG}(h:dw c)(hw:a4 p c)(hm:ny c):dw (a'.eH p c):=by
 unfold a'.eH;split
 ·exact h.fY hw
 next q=>
  obtain⟨z,aq⟩:=Option.ne_none_iff_exists'.mp (hw.iE (hm.resolve_left q));unfold a'.j9;rw[aq];exact dw.dd (c:={c with mode:="on",eM:=none}) h (hw.ca z aq).1
theorem dw.cE{p:aU}{c:aG}(h:dw c)(hw:a4 p c)(n:Int):dw (a'.cE p n c):=by
 unfold a'.cE;split
 ·exact h
 ·split
  next q=>exact dw.eH (c:=eC c.left c) h (hw.cd _) q.1
  ·exact h
theorem dw.fc{p:aU}{c:aG}(h:dw c):dw (a'.fc p c):=by
 have af:dw (iS c):=dw.tell h (a6 "wrong") λx e=>(nomatch e);unfold a'.fc;split
 ·exact dw.tell (c:=hA p {iS c with tries:=0,locked:=90}) af (a6 "attack") λx e=>(nomatch e)
 ·exact af
def aeR{p:aU}{c:aG}(hw:a4 p c){k:eP}(aH:k∈p.codes){d:Str}{z:Option Str}{x:Str×Str}(h:jH p k d z c=some x):cz x.1/\cz x.2:=by
 have xe:=(hw.eg k aH).2.1;unfold jH at h;by_cases af:(if d="free" then ("shunt":Str) else d)∈k.ih
 ·rw[if_neg (λq=>q af)] at h;split at h
  ·cases h
   exact⟨a6 "no",xe⟩
  ·split at h
   next q=>
    cases h
    refine⟨a6 "open",?_⟩
    have ae:=q.2;cases e:bare p ["day","once"] c with
    |nil=>exact absurd e ae
    |cons b bs=>
     have:b∈bare p ["day","once"] c:=by rw[e];simp
     simpa using hw.i2 (vB this)
   ·cases h
 ·rw[if_pos af] at h;cases h;exact⟨a6 "denied",xe⟩
theorem dw.d2{p:aU}{c:aG}(h:dw c)(hw:a4 p c){w d:Str}{z:Option Str}(how:cz w)(aq:qc p d z c):dw (a'.d2 p w d z c):=by
 rcases aq with rfl|rfl|⟨rfl,x,rfl,hx⟩|⟨rfl,x,rfl,hx⟩
 ·simp only[a'.d2,if_true];have h':dw (a'.tell "set" (some w) {c with bN:=[],c6:=0,mode:="leaving",left:=p.leave}):=dw.tell (c:={c with bN:=[],c6:=0,mode:="leaving",left:=p.leave}) h (a6 "set") λx e=>en e▸how;show dw (if p.leave<=0 then a'.fY p (a'.tell "set" (some w) {c with bN:=[],c6:=0,mode:="leaving",left:=p.leave}) else a'.tell "set" (some w) {c with bN:=[],c6:=0,mode:="leaving",left:=p.leave});split
  ·exact h'.fY ((hw.xS p.leave).tell _ _)
  ·exact h'
 ·simp only[a'.d2,if_neg rI,if_true];exact dw.tell (c:={c with mode:="off",left:=0,c6:=0,eM:=none,bU:=[]}) h (a6 "unset") λx e=>en e▸how
 ·simp only[a'.d2,if_neg rJ,if_neg pk,if_true];exact dw.tell (c:={c with bU:=eD (c.bU++[x])}) h (a6 "shunt") λy e=>en e▸hw.i2 hx
 ·simp only[a'.d2,if_neg rN,if_neg oi,if_neg oj];exact dw.tell (c:={c with bU:=c.bU.erase x}) h (a6 "free") λy e=>en e▸hw.oT x hx
theorem dw.d5{p:aU}{c:aG}(h:dw c)(hw:a4 p c){e:gX}(he:m' p e):dw (a'.d5 p c e):=by
 cases e with
|line z w=>exact h.line (hw.i2 he.1)
|cE n=>exact h.cE hw n
|code f d z=>
  show dw (a'.code p f d z c)
  unfold a'.code;split
  ·exact h.tell (a6 "locked") λx e=>(nomatch e)
  ·split
   ·exact h.fc
   next k fG=>
    have aH:=J4 fG;split
    ·exact h.fc
    ·have iR:=hw.uQ 0;have h0:dw {c with tries:=0}:=h;unfold a'.takeRight;split
     next dy=>exact dw.d2 (c:={c with tries:=0,used:=gZ c.used k.cS}) h (iR.add k.cS) (hw.eg k aH).2.1 (Dy he.2.1 he.2.2 dy)
     next dy=>
      have:=aeR iR aH dy;exact h0.tell this.1 λx e=>en e▸this.2
def ahg(p:aU)(c:aG)(e:gX)(h:a4 p c)(aC:Wp p)(he:m' p e):v7 [b8 p,fH c,fg e]=some (fH (d5 p (fresh c) e)):=by
 have cC:=O5 p c [e] h aC (by simpa using he) (by simp);have eh:=afP p (run p (fresh c) [e]) .fR (h.fresh.run (by simpa using he));simp only[dk,jS] at cC;simp! [fJ,v7,Sh,r6,BA,one_le,cC,vM,eh];rfl
def pH(w:Int×Str×Option Str):T:=.tuple [.str w.2.1,dQ w.2.2]
theorem Se(caps:Ev):∀(ws:List (Int×Str×Option Str)) (s0 s1 s2:Option aM),fS (di [(bH 0),(bH 1),(bH 2)]) (er true) (b1 [(aL 1),(aL 2)]) (ws.map m2) (s0::s1::s2::caps)=some (ws.map pH)
| [],_,_,_=>rfl
|w::ws,s0,s1,s2=>by
  have b2:=Se caps ws (some (.ab (.int w.1))) (some (.ab (.str w.2.1))) (some (.ab (dQ w.2.2)));simp only[dk,fS,m2,di,f3,bH,dh,kO,lq,er,if_true] at b2 ⊢;simp only[b1,args,aL,oh,o_,dh,jT,hF,tq,i_,if_true] at b2 ⊢;simp[i_,pH];simpa [m2,pH] using b2
def afJ(p:aU)(c:aG)(e:gX)(h:a4 p c)(aC:Wp p)(he:m' p e):vO [b8 p,fH c,fg e]=some (.tuple ((d5 p (fresh c) e).told.map pH)):=by
 have cC:=O5 p c [e] h aC (by simpa using he) (by simp);have ae:=Qz (es:=[e]) h.fresh (by simpa using he);have b6:(60000<big):=by decide
 have h0:(fresh c).told.length=0:=rfl;have bW:(run p (fresh c) [e]).told.length<=big:=by simp at ae;omega
 have fx:=Se [] (run p (fresh c) [e]).told none none none;simp only[dk,jS] at cC;simp! [fJ,vO,Rt,r6,Dl,one_le,cC,vM,wK,bW];rw[fx];simp[gy];rfl
end a'
end
section
namespace a'
open D PySem
def mL{i:Nat}{f:bD}{b:bu}{ε:Ev}{t:T}{r:Option Out}(h:f ε=some t)(ak:b (ε.set i (some (.ab t)))=r):seq (asg i f) b ε=r:=by
 rw[ajO (ε':=ε.set i (some (.ab t))),ak];unfold asg;rw[h];rfl
def vz{c:e_}{a b:bu}{ε:Ev}{r:Option Out}(h:c ε=some false)(ak:b ε=r):seq (iff c a skip) b ε=r:=by
 rw[ajO (ε':=ε),ak];unfold iff;rw[h];rfl
def tS{a b:bu}{ε ε':Ev}{r:Option Out}(h:a ε=some (.bY ε'))(ak:b ε'=r):seq a b ε=r:=by rw[ajO h,ak]
theorem denied{p:aU}{c:aG}{k:eP}{d:Str}(hd:d="set"\/d="unset")(ar:d∉k.ih):takeRight p k d none c=tell "denied" (some k.ft) c:=by
 have:jH p k d none c=some (("denied":Str),k.ft):=by
  rcases hd with rfl|rfl <;> simp[jH,qx,qv,ar]
 unfold takeRight;rw[this]
def af8(d:Nat){w:Str}{n:Option Str}(hw:cz w)(a8:∀x,n=some x->cz x):okN (d+1) (.tuple [.str w,dQ n]):=qz λx hx=>by
 simp only[cZ,kp,or_false] at hx;rcases hx with rfl|rfl
 ·exact pB _ hw
 ·exact R1 _ a8
def iff_eq{c:e_}{x y:bu}{ε:Ev}{b:Bool}(h:c ε=some b):iff c x y ε=if b then x ε else y ε:=by
 unfold iff;rw[h];rfl
end a'
end
section
namespace a'
open D PySem
theorem Rp{α:Type}{enc x y g:α->T}{q:α->Bool}{cc:e_}{fl:bD}{caps:Ev}(he:∀a,enc a=.tuple [x a,y a]):∀(ts:List α) (s0 s1:Option aM),(∀a∈ts,cc (some (.ab (x a))::some (.ab (y a))::caps)=some (q a)/\(q a=true->fl (some (.ab (x a))::some (.ab (y a))::caps)=some (g a)))->fS (di [(bH 0),(bH 1)]) cc fl (ts.map enc) (s0::s1::caps)=some ((ts.filter q).map g)
| [],_,_,_=>rfl
|a::ts,s0,s1,h=>by
  have b2:=Rp he ts (some (.ab (x a))) (some (.ab (y a))) λb ae=>h b (dM _ ae);obtain⟨h0,af⟩:=h a (by simp);rw[dk,fS,he a];simp only[di,f3,bH,dh,kO,lq,h0];cases bt:q a with
  |true=>simp only[if_true,af bt,dh,b2,jT,List.filter_cons,bt,dk]
  |false=>simp only[jU,if_false,b2,List.filter_cons,bt]
end a'
end
section
namespace pK
open D a'
end pK
end
section
namespace pK
open D a'
open PySem hiding run fresh code
local instance:c2:=⟨[],λ_=>[],λ_=>none⟩
end pK
end
section
namespace pK
open D a'
open PySem hiding run fresh code
local instance:c2:=⟨[],λ_=>[],λ_=>none⟩
end pK
end
section
namespace LB
open D a' pK
end LB
end
section
namespace pK
open D a' LB
open PySem hiding run fresh code
local instance:c2:=⟨[],λ_=>[],λ_=>none⟩
end pK
end
section
namespace cv
open D a'
end cv
end
section
namespace cv
open D PySem
def ls(x:Str):List Nat:=x.cps.toList
def st(l:List Nat):Str:=⟨l.toArray⟩
def zB(x:Str):x.length=(ls x).length:=by simp[Str.length,ls]
def v5(x y:Str):ls (x++y)=ls x++ls y:=by
 show (x.cps++y.cps).toList=_
 simp[ls]
noncomputable def Nv(c:Nat):List (List Nat)->List Nat
| []=>[]
| [p]=>p
|p::q::r=>p++c::Nv c (q::r)
def asc(l:List Nat):Prop:=∀a∈l,a<128
def PI(x:Str):Lo x=true <-> asc (ls x):=by
 unfold Lo asc ls;rw[List.all_eq_true];constructor
 ·intro h a ax;exact of_decide_eq_true (h a ax)
 ·intro h a ax;exact decide_eq_true (h a ax)
def Qv{x:Str}(h:asc (ls x)):PyData.strOk x=true:=by
 unfold PyData.strOk;rw[<- Array.all_toList,List.all_eq_true];intro a ax;have:=h a ax;exact decide_eq_true (by omega)
def vQ{a b:List Nat}(af:asc a)(ak:asc b):asc (a++b):=λx hx=>(ju.mp hx).elim (af x) (ak x)
def QX(m:Nat):ls (rt (m:Int))=(Nat.toDigits 10 m).map Char.toNat:=W.KIN.signs_num m
def afO(m:Nat):NumText.AllDigits (ls (rt (m:Int))):=by
 rw[QX];intro c aD;obtain⟨d,hd,rfl⟩:=dm.mp aD;have h:=Nat.isDigit_of_mem_toDigits (by decide) (by decide) hd;simp only[Char.isDigit,hZ,decide_eq_true_eq] at h;exact⟨h.1,h.2⟩
end cv
end
section
namespace cv
open D a' PySem
section
variable {f g:bD}{gs gt:e_}{ε:Ev}{a b:Bool}
def EE(hf:f ε=some (.bool a))(br:a=true->g ε=some (.bool b)):jf f g ε=some (.bool (a && b)):=by
 cases a with
|true=>simp[jf,hf,br rfl]
|false=>simp[jf,hf]
def xG(hf:f ε=some (.bool a))(br:a=false->g ε=some (.bool b)):i3 f g ε=some (.bool (a || b)):=by
 cases a with
|false=>simp[i3,hf,br rfl]
|true=>simp[i3,hf]
def Zz(hf:f ε=some (.bool a)):tc f ε=some (.bool !a):=by simp[tc,hf]
def ahw(hf:f ε=some (.bool a)):a0 f ε=some a:=by simp[a0,hf]
def IM(hf:gs ε=some a)(br:a=false->gt ε=some b):eY gs gt ε=some (a || b):=by
 cases a with
|false=>simp[eY,hf,br rfl]
|true=>simp[eY,hf]
def wB(hf:gs ε=some a)(br:a=true->gt ε=some b):eb gs gt ε=some (a && b):=by
 cases a with
|true=>simp[eb,hf,br rfl]
|false=>simp[eb,hf]
def NT{d:List T->Option T}{t:T}(h:f ε=some t):bV d [f] ε=d [t]:=by simp[bV,args,h]
def IK{o:T->T->Option T}{t u:T}(h:f ε=some t)(ak:g ε=some u):ag o f g ε=o t u:=by simp[ag,h,ak]
end
theorem SD{r:Ev}{e:bD}{f:T->T}:∀(ts:List T) (s0:Option aM),(∀t∈ts,e (some (.ab t)::r)=some (f t))->fS (bH 0) (er true) e ts (s0::r)=some (ts.map f)
| [],_,_=>rfl
|t::ts,s0,h=>by
  have af:=h t (by simp);have ak:=SD (f:=f) ts (some (.ab t)) λu bj=>h u (dM _ bj);simp[fS,bH,er,af,ak]
def Vo{it:jd}{caps:List Nat}{e:bD}{f:T->T}{ε:Ev}{ts:List T}(aS:it ε=some ts)(aw:ts.length<=big)(h:∀t∈ts,e (some (.ab t)::caps.map λi=>(ε[i]?).join)=some (f t)):comp 1 caps it (bH 0) (er true) e ε=some (.list (ts.map f)):=by
 simp only[comp,aS,dh,if_pos aw];rw[show hH 1 caps ε=none::caps.map λi=>(ε[i]?).join from rfl,SD (f:=f) ts none h];rfl
mutual
noncomputable def ml:T->Bool
|.str x=>Lo x && decide (x.length<=1000000)
|.tuple ts=>wW ts
|.list ts=>wW ts
|.dict _=>false
|_=>true
noncomputable def wW:List T->Bool
| []=>true
|t::ts=>ml t && wW ts
end
mutual
theorem P':∀{t:T},ml t=true->t.canLay0=true
|.str x,h=>by
  rw[ml,hZ] at h;rw[PyData.canLay0];exact Qv ((PI x).mp h.1)
|.tuple ts,h=>by
  rw[ml] at h;rw[PyData.canLay0];exact J5 h
|.list ts,h=>by
  rw[ml] at h;rw[PyData.canLay0];exact J5 h
|.dict _,h=>by simp[ml] at h
|.none,_=>rfl
|.int _,_=>rfl
|.bool _,_=>rfl
theorem J5:∀{ts:List T},wW ts=true->kN ts=true
| [],_=>rfl
|t::ts,h=>by
  rw[wW,hZ] at h;rw[kN,P' h.1,J5 h.2];rfl
end
structure zU(d:Nat)(t:T):Prop where
 g:ml t=true
 d:t.depth<=d
theorem zU.okN{d:Nat}{t:T}(h:zU d t):a'.okN d t:=⟨P' h.g,h.d⟩
def Xc{d:Nat}{x:Str}(h:asc (ls x))(aw:x.length<=1000000):zU d (.str x):=⟨by rw[ml,hZ];exact⟨(PI x).mpr h,decide_eq_true aw⟩,by rw[nr];omega⟩
end cv
end
section
namespace cv
open D a' PySem
def QG{ss:List Str}(h:∀s∈ss,asc (ls s)):n8 (ss.map .str)=true:=by
 unfold n8;have:=zq (d:=0) (ts:=ss.map .str) λt aR=>by
  obtain⟨s,av,rfl⟩:=dm.mp aR;exact⟨by rw[PyData.canLay0];exact Qv (h s av),by rw[nr];omega⟩
 rw[this.1,Bool.true_and];exact decide_eq_true (by omega)
end cv
end
section
namespace cv
open D a' PySem
end cv
end
section
namespace cv
open D a' PySem
def ui{s:Str}(h:((ls s).all λc=>decide (c<128))=true:=by decide +kernel):asc (ls s):=λa ax=>of_decide_eq_true (List.all_eq_true.mp h a ax)
end cv
end
section
namespace cv
open D a' PySem
def so:Int:=10 ^ 64
def aix:so<2 ^ 213:=by decide +kernel
def aic{a:Int}(h0:0<=a)(h:a<so):Sw a=true:=by
 unfold Sw;refine decide_eq_true ?_;have af:=aix;have ak:a.natAbs<2 ^ 213:=by
  have e:((2 ^ 213:Nat):Int)=2 ^ 213:=by norm_cast
  have:a<((2 ^ 213:Nat):Int):=by rw[e];exact Int.lt_trans h af
  generalize 2 ^ 213=q at this ⊢;omega
 by_cases aq:a.natAbs=0
 ·rw[aq];decide
 ·have:=(Nat.log2_lt aq).mpr ak;omega
def dig(l:List Nat):Prop:=NumText.AllDigits l
def Qw{a:Int}(h:0<=a):rt a=rt ((a.toNat:Nat):Int):=by rw[Int.toNat_of_nonneg h]
def ae0{a:Int}(h:0<=a):dig (ls (rt a)):=by
 rw[Qw h];exact afO _
def aci{a:Int}(h0:0<=a)(h:a<so):(rt a).length<=64/\0<(rt a).length:=by
 rw[Qw h0,zB,QX,gk];refine⟨(Nat.length_toDigits_le_iff (by decide) (by decide)).mpr ?_,Nat.length_toDigits_pos⟩;have:((a.toNat:Nat):Int)<((10 ^ 64:Nat):Int):=by
  rw[Int.toNat_of_nonneg h0];have e:((10 ^ 64:Nat):Int)=so:=by unfold so;norm_cast
  rw[e];exact h
 exact_mod_cast this
end cv
end
section
namespace qT
open D
noncomputable def agw:bu:=
  (seq (iff (a0 (ag oEq (ag aN (nm 0) (aa (.int 0))) (nm 1))) (cX (ag aN (nm 0) (aa (.int 1)))) skip) (seq (iff (a0 (ag oEq (ag aN (nm 0) (aa (.int 1))) (nm 1))) (cX (ag aN (nm 0) (aa (.int 0)))) skip) (cX (aa .none))))
def ags:List T->Option T:=eI agw 2
noncomputable def ajY:bu:=
  (seq (iff (a0 (ag oLt (nm 1) (bV hS [(nm 0)]))) (cX (ag aN (nm 0) (nm 1))) skip) (cX (aa (.int 0))))
def mJ:List T->Option T:=eI ajY 2
noncomputable def tP:bu:=
  (seq (asg 2 (ag oMod (ag d8 (ag cV (ag cV (bV mJ [(aL 0),(aL 1)]) (ag d8 (aa (.int 7919)) (nm 1))) (aa (.int 1))) (aa (.int 48271))) (aa (.int 2147483647)))) (cX (ag oMod (ag cV (ag cV (ag d8 (nm 2) (nm 2)) (ag d8 (aa (.int 7)) (nm 2))) (nm 1)) (aa (.int 2147483629)))))
def oo:List T->Option T:=eI tP 3
noncomputable def tQ:bu:=
  (seq (asg 2 (ag oMod (ag d8 (ag cV (ag cV (nm 0) (ag d8 (aa (.int 104729)) (nm 1))) (aa (.int 17))) (aa (.int 69621))) (aa (.int 2147483647)))) (cX (ag oMod (ag cV (ag cV (ag d8 (nm 2) (nm 2)) (ag d8 (aa (.int 3)) (nm 2))) (nm 1)) (aa (.int 2147483629)))))
def jW:List T->Option T:=eI tQ 3
end qT
end
section
namespace T'
noncomputable def Uo(e:Int×Int)(x:Int):Option Int:=if e.1=x then some e.2 else if e.2=x then some e.1 else none
noncomputable def Within(R:Int)(E:List (Int×Int)):Prop:=∀e∈E,0<=e.1/\e.1<=R/\0<=e.2/\e.2<=R
noncomputable def inner(h:Int):List (Int×Int)->List Int->List Int->List Int×List Int
| [],r,w=>(r,w)
|e::es,r,w=>match Uo e h with
  |some t=>if t∈r then inner h es r w else inner h es (r++[t]) (w++[t])
  |none=>inner h es r w
end T'
end
section
namespace qT
open PySem D
abbrev Op:=Int×Int×Option Str
def zT:Option Str->T
|none=>.none
|some x=>.str x
noncomputable def free(ns:List Str)(o:Op):Bool:=match o.2.2 with
|none=>true
|some x=>decide (x∈ns)
def k_:Option Int->T
|some t=>.int t
|none=>.none
def iV(a b:Int):oEq (.int a) (.int b)=some (.bool (decide (a=b))):=by
 simp[oEq,rU,hG,Bool.beq_eq_decide_eq]
def ajO{a b:bu}{ε ε':Ev}(h:a ε=some (.bY ε')):seq a b ε=b ε':=by
 simp only[seq,h,dh]
def cJ(r:List Int):List (Key×T):=r.map λx=>(Sum.inl x,.bool true)
end qT
end
section
namespace qT
open PySem D
noncomputable def uo(rec:List T->Option T):bu:=(seq (asg 6 (bV ags [(aL 5),(ag aN (nm 2) (fo qb (aa (.int 1))))])) (iff (eb (a0 (fo jc (nm 6))) (a0 (ag (dj true) (nm 6) (nm 2)))) (ext 3 (comp 1 [4] (dv (bV rec [(aL 0),(aL 1),(ag cV (nm 2) (b1 [(aL 6)]))])) (bH 0) (er true) (ag cV (b1 [(aL 1)]) (nm 0)))) skip))
end qT
end
section
namespace qT
open PySem D
def fe(ns:List Int):T:=.list (ns.map .int)
def K6(ns:List Int)(k:Nat):mJ [fe ns,.int k]=some (.int (ns.getD k 0)):=by
 by_cases h:k<ns.length
 ·have h':(k:Int)<(ns.length:Int):=by omega
  simp[mJ,ajY,fe,eI,seq,iff,a0,ip,eb,eY,jn,er,ofT,fo,ag,bV,args,aa,nm,aL,cX,skip,asg,jg,hh,par,b1,eU,hR,jc,aN,fW,fP,bH,di,f3,dv,comp,hH,cV,ke,d8,oDiv,oMod,qb,hS,Bz,lS,gy,DG,By,oLt,oLe,hD,rl,big,h,h',List.getD]
 ·have h':¬(k:Int)<(ns.length:Int):=by omega
  simp[mJ,ajY,fe,eI,seq,iff,a0,ip,eb,eY,jn,er,ofT,fo,ag,bV,args,aa,nm,aL,cX,skip,asg,jg,hh,par,b1,eU,hR,jc,aN,fW,fP,bH,di,f3,dv,comp,hH,cV,ke,d8,oDiv,oMod,qb,hS,Bz,lS,gy,DG,By,oLt,oLe,hD,rl,big,h,h',List.getD]
def lB{i j:Int}(h:-(2 ^ 64)<j/\j<2 ^ 64):d8 (.int i) (.int j)=some (.int (i*j)):=by
 unfold d8 wd;simp only[decide_eq_true h.1,decide_eq_true h.2,Bool.and_self,Bool.or_true,if_true]
def pD{i j:Int}(h:0<j):oMod (.int i) (.int j)=some (.int (i % j)):=if_pos h
def Sd{i j:Int}(h:0<j/\j<1073741824):oDiv (.int i) (.int j)=some (.int (i / j)):=if_pos h
def ku{i j:Int}:cV (.int i) (.int j)=some (.int (i+j)):=rfl
def Kz(ns:List Int)(k:Nat):∃m:Int,0<=m/\oo [fe ns,.int k]=some (.int m):=by
 have aD:=K6 ns k;have hd:0<=(ns.getD k 0+7919*(k:Int)+1)*48271 % 2147483647/\(ns.getD k 0+7919*(k:Int)+1)*48271 % 2147483647<2147483647:=⟨pb _ (by decide),u1 _ (by decide)⟩;generalize hx:(ns.getD k 0+7919*(k:Int)+1)*48271 % 2147483647=d at hd;refine⟨(d*d+7*d+k) % 2147483629,pb _ (by decide),?_⟩;have eB:oo [fe ns,.int k]=(tP [some (.ab (fe ns)),some (.ab (.int k)),none]).bind λo=>match o with|.fa t=>some t|.bY _=>some .none|_=>none:=rfl
 have jN:d8 (.int 7919) (.int k)=some (.int (7919*k)):=by
  unfold d8 wd;simp
 have n6:aL 0 [some (.ab (fe ns)),some (.ab (.int k)),none]=some (fe ns):=rfl;have gQ:aL 1 [some (.ab (fe ns)),some (.ab (.int k)),none]=some (.int k):=rfl;have Ib:nm 1 [some (.ab (fe ns)),some (.ab (.int k)),none]=some (.int k):=rfl;have s1:asg 2 (ag oMod (ag d8 (ag cV (ag cV (bV mJ [(aL 0),(aL 1)]) (ag d8 (aa (.int 7919)) (nm 1))) (aa (.int 1))) (aa (.int 48271))) (aa (.int 2147483647))) [some (.ab (fe ns)),some (.ab (.int k)),none]=some (.bY [some (.ab (fe ns)),some (.ab (.int k)),some (.ab (.int d))]):=by
  simp only[asg,ag,bV,args,n6,gQ,Ib,dh,jT,aD,aa,jN,ku,lB (i:=ns.getD k 0+7919*(k:Int)+1) (j:=48271) (by decide),pD (j:=2147483647) (by decide),hx];rfl
 have lP:d8 (.int d) (.int d)=some (.int (d*d)):=lB (by omega);have rj:d8 (.int 7) (.int d)=some (.int (7*d)):=lB (by omega);rw[eB];unfold tP;rw[ajO s1];have bb:nm 2 [some (.ab (fe ns)),some (.ab (.int k)),some (.ab (.int d))]=some (.int d):=rfl;have aO:nm 1 [some (.ab (fe ns)),some (.ab (.int k)),some (.ab (.int d))]=some (.int k):=rfl;simp only[cX,ag,bb,aO,dh,jT,aa,lP,rj,ku,pD (j:=2147483629) (by decide)]
def zf(n k:Int)(aH:-(2 ^ 64)<k/\k<2 ^ 64):∃m:Int,0<=m/\jW [.int n,.int k]=some (.int m):=by
 have hd:0<=(n+104729*k+17)*69621 % 2147483647/\(n+104729*k+17)*69621 % 2147483647<2147483647:=⟨pb _ (by decide),u1 _ (by decide)⟩;generalize hx:(n+104729*k+17)*69621 % 2147483647=d at hd;refine⟨(d*d+3*d+k) % 2147483629,pb _ (by decide),?_⟩;have eB:jW [.int n,.int k]=(tQ [some (.ab (.int n)),some (.ab (.int k)),none]).bind λo=>match o with|.fa t=>some t|.bY _=>some .none|_=>none:=rfl
 have jN:d8 (.int 104729) (.int k)=some (.int (104729*k)):=lB aH;have n6:nm 0 [some (.ab (.int n)),some (.ab (.int k)),none]=some (.int n):=rfl;have gQ:nm 1 [some (.ab (.int n)),some (.ab (.int k)),none]=some (.int k):=rfl;have s1:asg 2 (ag oMod (ag d8 (ag cV (ag cV (nm 0) (ag d8 (aa (.int 104729)) (nm 1))) (aa (.int 17))) (aa (.int 69621))) (aa (.int 2147483647))) [some (.ab (.int n)),some (.ab (.int k)),none]=some (.bY [some (.ab (.int n)),some (.ab (.int k)),some (.ab (.int d))]):=by
  simp only[asg,ag,n6,gQ,dh,jT,aa,jN,ku,lB (i:=n+104729*k+17) (j:=69621) (by decide),pD (j:=2147483647) (by decide),hx];rfl
 have lP:d8 (.int d) (.int d)=some (.int (d*d)):=lB (by omega);have rj:d8 (.int 3) (.int d)=some (.int (3*d)):=lB (by omega);rw[eB];unfold tQ;rw[ajO s1];have bb:nm 2 [some (.ab (.int n)),some (.ab (.int k)),some (.ab (.int d))]=some (.int d):=rfl;have aO:nm 1 [some (.ab (.int n)),some (.ab (.int k)),some (.ab (.int d))]=some (.int k):=rfl;simp only[cX,ag,bb,aO,dh,jT,aa,lP,rj,ku,pD (j:=2147483629) (by decide)]
def names5:List Str:=["a","b","back","hall","win"]
noncomputable def Ud(R:Int)(o:Op):Prop:=0<=o.1/\o.1<o.2.1/\o.2.1<=R/\∀x,o.2.2=some x->x∈names5
structure Drawn(R:Int)(os:List Op):Prop where
 bg:1<=R
 oX:R<=7
 len:os.length<=10
 ok:∀o∈os,Ud R o
def vC(i:Int)(h0:0<=i)(F0:i<7)(ε:Ev):∃z:Option Str,(b1 [(aa .none),(aa .none),(aa (.str "a")),(aa (.str "b")),(aa (.str "back")),(aa (.str "hall")),(aa (.str "win"))] ε).bind (λt=>aN t (.int i))=some (zT z)/\∀x,z=some x->x∈names5:=by
 have aD:i=0\/i=1\/i=2\/i=3\/i=4\/i=5\/i=6:=by omega
 have e:b1 [(aa .none),(aa .none),(aa (.str "a")),(aa (.str "b")),(aa (.str "back")),(aa (.str "hall")),(aa (.str "win"))] ε=some (.tuple [.none,.none,.str "a",.str "b",.str "back",.str "hall",.str "win"]):=by
  simp[b1,args,aa,big]
 rw[e];rcases aD with rfl|rfl|rfl|rfl|rfl|rfl|rfl
 ·exact⟨none,rfl,λx h=>by cases h⟩
 ·exact⟨none,rfl,λx h=>by cases h⟩
 ·exact⟨some "a",rfl,λx h=>by cases h;simp[names5]⟩
 ·exact⟨some "b",rfl,λx h=>by cases h;simp[names5]⟩
 ·exact⟨some "back",rfl,λx h=>by cases h;simp[names5]⟩
 ·exact⟨some "hall",rfl,λx h=>by cases h;simp[names5]⟩
 ·exact⟨some "win",rfl,λx h=>by cases h;simp[names5]⟩
end qT
end
section
namespace cv
open D a' PySem
def abm(ps:List Str):List Nat:=Nv 32 (ps.map ls)++[10]
def acS(rs:List (List Str)):List Nat:=(rs.map abm).flatten
def x4(rs:List (List Str)):Str:=st (acS rs)
end cv
end
section
namespace cv
open D a' PySem
structure Ow(o:qT.Op):Prop where
 a:0<=o.1/\o.1<1000000000
 b:0<=o.2.1/\o.2.1<1000000000
 z:∀x,o.2.2=some x->x.length<=100/\asc (ls x)
end cv
end
section
namespace cv
open D a' PySem
end cv
end
section
namespace cv
open D a' PySem
def hd(s:Str)(ps:List Str):Bool:=decide (ps.head?=some s)
end cv
end
section
namespace cv
open D a' PySem
end cv
end
section
namespace cv
open D a' PySem
end cv
end
section
namespace cv
open D a' PySem
def aan(q:Str):Prop:=32∉ls q/\10∉ls q
structure Cl(ps:List Str):Prop where
 ne:ps≠[]
 p:∀q∈ps,aan q
end cv
end
section
namespace cv
open D a' PySem
def ne_self{d:Nat}{f g:bD}{ε:Ev}{t:T}(hf:f ε=some t)(br:g ε=some t)(h:zU d t)(hd:d<=60:=by decide):a0 (ag fQ f g) ε=some false:=by
 refine ahw ?_
 rw[IK hf br];exact a'.NP h.okN hd
end cv
end
section
namespace cv
open D a' PySem
end cv
end
section
namespace cv
open D a' PySem
mutual
noncomputable def nb:T->Bool
|.bool _=>false
|.dict _=>false
|.tuple ts=>uF ts
|.list ts=>uF ts
|_=>true
noncomputable def uF:List T->Bool
| []=>true
|t::ts=>nb t && uF ts
end
mutual
theorem aip:∀{t u:T},nb t=true->nb u=true->hG t u=true->t=u
|.none,u,_,_,h=>by cases u <;> simp[hG] at h;rfl
|.bool _,_,h,_,_=>by simp[nb] at h
|.dict _,_,h,_,_=>by simp[nb] at h
|.int i,u,_,bj,h=>by
  cases u <;> simp[hG] at h
  ·simp[nb] at bj
  ·rw[h]
|.str x,u,_,_,h=>by
  cases u <;> simp[hG] at h
  rw[h]
|.list xs,u,aR,bj,h=>by
  cases u <;> simp only[hG,jU] at h
  rw[nb] at aR bj;rw[K3 aR bj h]
|.tuple xs,u,aR,bj,h=>by
  cases u <;> simp only[hG,jU] at h
  rw[nb] at aR bj;rw[K3 aR bj h]
theorem K3:∀{ts us:List T},uF ts=true->uF us=true->PyData.eqvAll ts us=true->ts=us
| [],[],_,_,_=>rfl
| [],_::_,_,_,h=>by simp[PyData.eqvAll] at h
|_::_,[],_,_,h=>by simp[PyData.eqvAll] at h
|t::ts,u::us,aR,bj,h=>by
  rw[uF,hZ] at aR bj;rw[PyData.eqvAll,hZ] at h;rw[aip aR.1 bj.1 h.1,K3 aR.2 bj.2 h.2]
end
def ahI:([34,39].all λq=>(List.range 128).all λc=>(Builtin.Str.reprChar q c).all λa=>decide (a<128))=true:=by decide +kernel
def ahH{q c:Nat}(bt:q=34\/q=39)(aD:c<128):asc (Builtin.Str.reprChar q c):=λa ax=>by
 have af:=List.all_eq_true.mp ahI q (by rcases bt with rfl|rfl <;> simp);have ak:=List.all_eq_true.mp af c (List.mem_range.mpr aD);exact of_decide_eq_true (List.all_eq_true.mp ak a ax)
def N4(x:Str):reprQuote x=34\/reprQuote x=39:=by
 unfold reprQuote;split
 ·exact .inl rfl
 ·exact .inr rfl
theorem QK{q:Nat}(bt:q=34\/q=39):∀(l:List Nat) (acc:Array Nat),asc l->asc acc.toList->asc (l.foldl (λout c=>out++(Builtin.Str.reprChar q c).toArray) acc).toList
| [],acc,_,h=>h
|c::l,acc,aw,h=>by
  rw[List.foldl_cons];refine QK bt l _ (λa ax=>aw a (dM _ ax)) ?_;rw[Array.toList_append];exact vQ h (ahH bt (aw c (by simp)))
def abk{x:Str}(h:asc (ls x)):asc (ls (reprText x)):=by
 have MZ:∀a∈[reprQuote x],a<128:=λa ax=>by
  rw[kK.mp ax];rcases N4 x with e|e <;> rw[e] <;> omega
 show asc ((x.cps.foldl (λout c=>out++(Builtin.Str.reprChar (reprQuote x) c).toArray) #[reprQuote x]).push (reprQuote x)).toList
 rw[Array.toList_push,<- Array.foldl_toList];exact vQ (QK (N4 x) _ _ h MZ) MZ
structure lH(B:Nat)(t:T):Prop where
 b4:t.showable=true
 aW:t.hasDict=false
 as:asc (ls t.shown)
 le:t.shown.length<=B
def lH.mono{B C:Nat}{t:T}(h:lH B t)(aD:B<=C):lH C t:=⟨h.b4,h.aW,h.as,kn h.le aD⟩
def acj{i:Int}(h0:0<=i)(hw:i<so)(aw:(rt i).length<=100):lH 2000 (.int i):=
 ⟨by
  have:=aic h0 hw;rw[PyData.showable];exact this,rfl,by rw[PyData.shown_int];exact λa ax=>(by
   have:=ae0 h0 a ax;omega),by rw[PyData.shown_int];exact kn aw (by omega)⟩
theorem JR:∀ts:List T,PyData.shownAll ts=ts.map PyData.shown
| []=>PyData.shownAll_nil
|t::ts=>by rw[PyData.shownAll_cons,JR ts];rfl
theorem P2{s:Str}(av:asc (ls s)):∀ps:List Str,(∀p∈ps,asc (ls p))->asc (ls (Str.join s ps))
| [],_=>λa ax=>by cases ax
| [p],h=>by rw[PyProof.Rows.join_one];exact h p (by simp)
|p::q::r,h=>by
  rw[PyProof.Rows.join_cons_cons,v5,v5];exact vQ (vQ (h p (by simp)) av) (P2 av (q::r) λy bL=>h y (dM _ bL))
theorem RG:∀{ts:List T},(∀t∈ts,t.showable=true)->PyData.showableAll ts=true
| [],_=>rfl
|t::ts,h=>by rw[PyData.showableAll,h t (by simp),RG λu bj=>h u (dM _ bj)];rfl
theorem R6:∀{ts:List T},(∀t∈ts,t.hasDict=false)->PyData.hasDictAll ts=false
| [],_=>rfl
|t::ts,h=>by rw[PyData.hasDictAll,h t (by simp),R6 λu bj=>h u (dM _ bj)];rfl
theorem RE{B:Nat}:∀{ps:List Nat},(∀p∈ps,p<=B)->ps.sum<=ps.length*B
| [],_=>by simp
|p::ps,h=>by
  have af:=h p (by simp);have ak:=RE λq bt=>h q (dM p bt);rw[List.sum_cons,hF,Nat.succ_mul];omega
def Oc{B n:Nat}{ts:List T}(h:∀t∈ts,lH B t)(a8:ts.length<=n):lH (n*(B+2)+4) (.tuple ts):=by
 have a9:asc (ls (", ":Str)):=ui;have b_:(", ":Str).length=2:=by decide +kernel
 have gc:asc (ls ("(":Str)):=ui;have ji:asc (ls (if ts.length==1 then ",)" else ")":String)):=by split <;> exact ui
 have Bp:("(":Str).length=1:=by decide +kernel
 have Bq:(Str.ofString (if ts.length==1 then ",)" else ")":String)).length<=2:=by split <;> decide +kernel
 have bw:=StrLaws.join_length_le ", " (ts.map PyData.shown);rw[b_,gk,mF] at bw;have av:=RE (ps:=ts.map (Str.length ∘ PyData.shown)) (B:=B) λp aC=>by
  obtain⟨t,aR,rfl⟩:=dm.mp aC;exact (h t aR).le
 rw[gk] at av;have hm:ts.length*(B+2)<=n*(B+2):=Nat.mul_le_mul_right _ a8;rw[Nat.mul_add] at hm;refine⟨by rw[PyData.showable];exact RG λt aR=>(h t aR).b4,by rw[PyData.hasDict];exact R6 λt aR=>(h t aR).aW,?_,?_⟩
 ·rw[PyData.shown_tuple,JR,v5,v5];refine vQ (vQ gc (P2 a9 _ λp aC=>?_)) ji;obtain⟨t,aR,rfl⟩:=dm.mp aC;exact (h t aR).as
 ·rw[PyData.shown_tuple,JR,zB,v5,v5,qq,qq,<- zB,<- zB,<- zB];have:(List.map (Str.length ∘ PyData.shown) ts).sum<=ts.length*B:=av;have ajt:(Str.join ", " (List.map PyData.shown ts)).length<=(List.map (Str.length ∘ PyData.shown) ts).sum+ts.length*2:=bw;omega
end cv
end
section
namespace LA
open D a' pK
open PySem hiding run fresh code
local instance:c2:=⟨[],λ_=>[],λ_=>none⟩
def i1(x:Str):Prop:=cv.asc (cv.ls x)/\x.length<=10
def i8(x:Str)(af:((cv.ls x).all λc=>decide (c<128))=true:=by decide +kernel)(ak:x.length<=10:=by decide +kernel):i1 x:=⟨cv.ui af,ak⟩
structure sk(p:aU):Prop where
 z:∀{x:Str},x∈p.bM.map (·.1)->i1 x
 w:∀k∈p.codes,i1 k.ft
def QE{l:List Str}(h:l.all (λx=>((cv.ls x).all λc=>decide (c<128)) && decide (x.length<=10))=true:=by decide +kernel){x:Str}(hx:x∈l):i1 x:=by
 have:=List.all_eq_true.mp h x hx;rw[hZ] at this;exact⟨cv.ui this.1,of_decide_eq_true this.2⟩
def Lr{p:aU}(aC:eA p):sk p:=⟨λ{x} hx=>QE (l:=lC.map (·.2)) (hx:=aC.zs.subset hx),λk aH=>QE (l:=uT) (hx:=(aC.jK k aH).1)⟩
structure cK(b:Int)(c:aG):Prop where
 mx:0<=c.past
 to:∀w∈c.told,(0<=w.1/\w.1<=c.past)/\i1 w.2.1/\∀n,w.2.2=some n->i1 n
 ln:∀l∈c.lines,i1 l.2
 us:∀u∈c.used,0<=u.2/\u.2<=b
section
variable {p:aU}{b:Int}{c dY:aG}
def cK.of(h:cK b c)(af:dY.past=c.past)(ak:dY.told=c.told)(bA:dY.lines=c.lines)(cP:dY.used=c.used):cK b dY:=⟨by rw[af];exact h.mx,by rw[af,ak];exact h.to,by rw[bA];exact h.ln,by rw[cP];exact h.us⟩
theorem cK.tell(h:cK b c){w:Str}{n:Option Str}(hw:i1 w)(a8:∀x,n=some x->i1 x):cK b (a'.tell w n c):=by
 refine⟨h.mx,λx hx=>?_,h.ln,h.us⟩
 rcases ju.mp (show x∈c.told++[(c.past,w,n)] from hx) with q|q
 ·exact h.to x q
 ·simp at q;subst q;exact⟨⟨h.mx,Int.le_refl _⟩,hw,a8⟩
theorem cK.dd(h:cK b c){z:Str}(aq:i1 z):cK b (a'.dd p z c):=by
 unfold a'.dd;split
 ·exact h.of rfl rfl rfl rfl
 ·exact cK.tell (c:={hA p c with bN:=c.bN++[z]}) (h.of rfl rfl rfl rfl) (i8 "alarm") λx e=>en e▸aq
theorem cK.bN:∀{zs:List Str} {c:aG},cK b c->(∀z∈zs,i1 z)->cK b (a'.bN p zs c)
| [],_,h,_=>h
|z::zs,c,h,aq=>cK.bN (zs:=zs) (h.dd (aq z e8)) λy bL=>aq y (dM _ bL)
theorem cK.gA(h:cK b c){z k:Str}(aq:i1 z):cK b (a'.gA p z k c):=by
 unfold a'.gA;split
 ·exact h.dd aq
 ·exact cK.tell (c:={c with mode:="coming",left:=p.gb,eM:=some z}) (h.of rfl rfl rfl rfl) (i8 "coming") λx e=>en e▸aq
theorem cK.gB(h:cK b c){z w:Str}(aq:i1 z):cK b (a'.gB p z w c):=by
 unfold a'.gB
 repeat' split
 all_goals first|exact h.dd aq|exact h.tell (i8 "fault") λx e=>en e▸aq|exact h.gA aq|exact h
theorem cK.line(h:cK b c){z w:Str}(aq:i1 z)(hw:i1 w):cK b (a'.line p z w c):=by
 have h':cK b {c with lines:=fb c.lines z w}:=⟨h.mx,h.to,λl aw=>by
  obtain⟨y,bL,rfl⟩:=dm.mp (show l∈c.lines.map λp=>if p.1=z then (z,w) else p from aw);split
  ·exact hw
  ·exact h.ln y bL,h.us⟩
 unfold a'.line
 repeat' split
 all_goals first|exact h|exact h'|exact h'.tell (i8 "mended") λx e=>en e▸aq|exact h'.gB aq
theorem cK.fY(bt:sk p)(h:cK b c):cK b (a'.fY p c):=
 cK.bN (cK.tell (c:={c with mode:="on",left:=0}) (h.of rfl rfl rfl rfl) (i8 "on") λx e=>(nomatch e)) λz aq=>bt.z (vB aq)
theorem cK.eH(bt:sk p)(h:cK b c)(hw:a4 p c)(hm:ny c):cK b (a'.eH p c):=by
 unfold a'.eH;split
 ·exact h.fY bt
 next q=>
  obtain⟨z,aq⟩:=Option.ne_none_iff_exists'.mp (hw.iE (hm.resolve_left q));unfold a'.j9;rw[aq];exact cK.dd (c:={c with mode:="on",eM:=none}) (h.of rfl rfl rfl rfl) (bt.z (hw.ca z aq).2)
def cK.cd(h:cK b c){n:Int}(a8:0<=n):cK b (eC n c):=by
 have aC:=h.mx;refine⟨show 0<=c.past+n by omega,λw hw=>?_,h.ln,h.us⟩;have:=h.to w hw;exact⟨⟨this.1.1,show w.1<=c.past+n by omega⟩,this.2⟩
theorem cK.cE(bt:sk p)(h:cK b c)(hw:a4 p c)(ew:cT c)(n:Int):cK b (a'.cE p n c):=by
 unfold a'.cE;split
 ·exact h
 ·split
  next q=>
   have aw:=ew.t1 q.1;exact cK.cd (cK.eH (c:=eC c.left c) bt (h.cd (by omega)) (hw.cd _) q.1) (by omega)
  ·exact h.cd (by omega)
theorem cK.fc(h:cK b c):cK b (a'.fc p c):=by
 have af:cK b (iS c):=(cK.tell (n:=none) h (i8 "wrong") λx e=>(by cases e)).of rfl rfl rfl rfl;unfold a'.fc;split
 ·exact cK.tell (c:=hA p {iS c with tries:=0,locked:=90}) (af.of rfl rfl rfl rfl) (i8 "attack") λx e=>(nomatch e)
 ·exact af
def afG(bt:sk p){k:eP}(aH:k∈p.codes){d:Str}{z:Option Str}{x:Str×Str}(h:jH p k d z c=some x):i1 x.1/\i1 x.2:=by
 have xe:=bt.w k aH;unfold jH at h;by_cases af:(if d="free" then ("shunt":Str) else d)∈k.ih
 ·rw[if_neg (λq=>q af)] at h;split at h
  ·cases h
   exact⟨i8 "no",xe⟩
  ·split at h
   next q=>
    cases h
    refine⟨i8 "open",?_⟩
    have ae:=q.2;cases e:bare p ["day","once"] c with
    |nil=>exact absurd e ae
    |cons b bs=>
     have:b∈bare p ["day","once"] c:=by rw[e];simp
     simpa using bt.z (vB this)
   ·cases h
 ·rw[if_pos af] at h;cases h;exact⟨i8 "denied",xe⟩
theorem cK.d2(bt:sk p)(h:cK b c)(hw:a4 p c){w d:Str}{z:Option Str}(how:i1 w)(aq:qc p d z c):cK b (a'.d2 p w d z c):=by
 rcases aq with rfl|rfl|⟨rfl,x,rfl,hx⟩|⟨rfl,x,rfl,hx⟩
 ·simp only[a'.d2,if_true];have h':cK b (a'.tell "set" (some w) {c with bN:=[],c6:=0,mode:="leaving",left:=p.leave}):=cK.tell (c:={c with bN:=[],c6:=0,mode:="leaving",left:=p.leave}) (h.of rfl rfl rfl rfl) (i8 "set") λx e=>en e▸how;show cK b (if p.leave<=0 then a'.fY p (a'.tell "set" (some w) {c with bN:=[],c6:=0,mode:="leaving",left:=p.leave}) else a'.tell "set" (some w) {c with bN:=[],c6:=0,mode:="leaving",left:=p.leave});split
  ·exact h'.fY bt
  ·exact h'
 ·simp only[a'.d2,if_neg rI,if_true];exact cK.tell (c:={c with mode:="off",left:=0,c6:=0,eM:=none,bU:=[]}) (h.of rfl rfl rfl rfl) (i8 "unset") λx e=>en e▸how
 ·simp only[a'.d2,if_neg rJ,if_neg pk,if_true];exact cK.tell (c:={c with bU:=eD (c.bU++[x])}) (h.of rfl rfl rfl rfl) (i8 "shunt") λy e=>en e▸bt.z hx
 ·simp only[a'.d2,if_neg rN,if_neg oi,if_neg oj];exact cK.tell (c:={c with bU:=c.bU.erase x}) (h.of rfl rfl rfl rfl) (i8 "free") λy e=>en e▸bt.z (hw.b4.2 x hx)
def cK.up(h:cK b c):cK (b+1) c:=⟨h.mx,h.to,h.ln,λu bj=>by have:=h.us u bj;omega⟩
def cK.add(h:cK b c)(f:Str):cK (b+1) {c with used:=gZ c.used f}:=⟨h.mx,h.to,h.ln,λu bj=>by
 obtain⟨y,bL,rfl⟩:=dm.mp (show u∈c.used.map λp=>if p.1=f then (f,p.2+1) else p from bj);have:=h.us y bL;split
 ·show 0<=y.2+1/\y.2+1<=b+1
  omega
 ·omega⟩
theorem cK.d5(bt:sk p)(h:cK b c)(hw:a4 p c)(ew:cT c){e:gX}(he:m' p e):cK (b+1) (a'.d5 p c e):=by
 cases e with
|line z w=>
  refine (cK.line h (bt.z he.1) ?_).up
  rcases he.2 with rfl|rfl|rfl
  ·exact i8 _
  ·exact i8 _
  ·exact i8 _
|cE n=>exact (h.cE bt hw ew n).up
|code f d z=>
  show cK (b+1) (a'.code p f d z c)
  unfold a'.code;split
  ·exact (cK.tell (n:=none) h (i8 "locked") λx e=>(by cases e)).up
  ·split
   ·exact h.fc.up
   next k fG=>
    have aH:=J4 fG;split
    ·exact h.fc.up
    ·have iR:=hw.uQ 0;have h0:cK b {c with tries:=0}:=h.of rfl rfl rfl rfl;unfold a'.takeRight;split
     next dy=>exact cK.d2 (c:={c with tries:=0,used:=gZ c.used k.cS}) bt ((h.add k.cS).of rfl rfl rfl rfl) (iR.add k.cS) (bt.w k aH) (Dy he.2.1 he.2.2 dy)
     next dy=>
      have:=afG bt aH dy;exact (h0.tell this.1 λx e=>en e▸this.2).up
def cK.begun(p:aU):cK 0 (ja p):=⟨Int.le_refl _,λw hw=>(by cases hw),λl aw=>(by
 obtain⟨z,_,rfl⟩:=dm.mp (show l∈p.bM.map λz=>(z.1,("shut":Str)) from aw);exact i8 "shut"),λu bj=>(by
 obtain⟨k,_,rfl⟩:=dm.mp (show u∈p.codes.map λk=>(k.cS,(0:Int)) from bj);exact⟨Int.le_refl _,Int.le_refl _⟩)⟩
end
def xY{x:Str}(h:i1 x):cv.lH 150 (.str x):=
 ⟨rfl,rfl,by rw[PyData.shown_str];exact cv.abk h.1,by
  rw[PyData.shown_str];have:=StrLaws.reprText_len x λc aD=>by
   have:=h.1 c aD;omega
  have:=h.2;omega⟩
def ack:cv.lH 150 .none:=⟨rfl,rfl,by rw[PyData.shown_none];exact cv.ui,by rw[PyData.shown_none];decide +kernel⟩
def aiN{x:Option Str}(h:∀z,x=some z->i1 z):cv.lH 150 (dQ x):=by
 cases x with
|none=>exact ack
|some z=>exact xY (h z rfl)
def Sg{i:Int}(h:i<=1000000000000):i<cv.so:=Int.lt_of_le_of_lt h (by decide +kernel)
def xX{i:Int}(h0:0<=i)(h:i<=1000000000000):cv.lH 150 (.int i):=by
 have aw:=(cv.aci h0 (Sg h)).1;have:=cv.acj h0 (Sg h) (by omega);refine⟨this.b4,this.aW,this.as,?_⟩;rw[PyData.shown_int];exact kn aw (by omega)
def afM{p:aU}{c:aG}{b:Int}(aC:eA p)(hw:a4 p c)(ew:cT c)(av:cK b c)(ae:b<=1000):cv.lH 62000 (fH c):=by
 have bt:=Lr aC;have fE:=aC.fE;have nz:(p.bM.map (·.1)).length<=8:=by rw[gk];exact fE
 have ln:c.lines.length<=40:=by
  have:=congrArg List.length hw.ln;rw[gk,gk] at this;omega
 have ul:c.used.length<=40:=by
  have:=congrArg List.length hw.us;rw[gk,gk] at this;have:=aC.cl;omega
 have sub:∀{l:List Str},l.Nodup->(∀z∈l,z∈p.bM.map (·.1))->l.length<=40:=λn h=>kn (n.length_le_of_subset λx hx=>h x hx) (by omega);have lf:0<=c.left/\c.left<=60:=by
  by_cases t:ny c
  ·have:=ew.t1 t;omega
  ·rw[ew.t0 t];omega
 have kH:=ew.kH;have lo:=ew.lo;have hU:=ew.hU;have big:∀{ts:List T},(∀t∈ts,cv.lH 150 t)->ts.length<=40->cv.lH 6100 (.tuple ts):=λh aw=>(cv.Oc (B:=150) (n:=40) h aw).mono (by omega);refine (cv.Oc (B:=6100) (n:=10) (λt aR=>?_) (by simp[fH])).mono (by omega);simp only[cZ,kp,or_false] at aR;rcases aR with rfl|rfl|rfl|rfl|rfl|rfl|rfl|rfl|rfl|rfl
 ·refine (xY ?_).mono (by omega)
  rcases ew.gd with e|e|e|e <;> rw[e] <;> exact i8 _
 ·exact (xX lf.1 (by omega)).mono (by omega)
 ·exact (aiN λz aq=>bt.z (hw.ca z aq).2).mono (by omega)
 ·refine big (λt aR=>?_) (by rw[gk];exact ln)
  obtain⟨l,aw,rfl⟩:=dm.mp aR;exact xY (av.ln l aw)
 ·refine big (λt aR=>?_) (by rw[gk];exact sub hw.b4.1 hw.b4.2)
  obtain⟨l,aw,rfl⟩:=dm.mp aR;exact xY (bt.z (hw.b4.2 l aw))
 ·exact (xX kH.1 (by omega)).mono (by omega)
 ·refine big (λt aR=>?_) (by rw[gk];exact sub hw.al.1 hw.al.2)
  obtain⟨l,aw,rfl⟩:=dm.mp aR;exact xY (bt.z (hw.al.2 l aw))
 ·exact (xX hU.1 (by omega)).mono (by omega)
 ·exact (xX lo.1 (by omega)).mono (by omega)
 ·refine big (λt aR=>?_) (by rw[gk];exact ul)
  obtain⟨u,bj,rfl⟩:=dm.mp aR;have:=av.us u bj;exact xX this.1 (by omega)
end LA
end
section
namespace je
open D a'
open PySem hiding run fresh code
noncomputable def bP(c:aG)(l:List Str):List aM:=[.ab (.str c.mode),.ab (.int c.left),.ab (dQ c.eM),.own (c.lines.map λz=>.str z.2),.own (l.map .str),.ab (.int c.c6),.own (c.bN.map .str),.ab (.int c.tries),.ab (.int c.locked),.own (c.used.map λu=>.int u.2),.ab (.int c.past),.own (c.told.map m2)]
abbrev cO(p:aU)(c:aG)(l:List Str)(r:Ev):Ev:=some (.ab (b8 p))::some (.obj .cN 1 (bP c l))::r
section
variable (c:aG)(l:List Str)
def aj7:(bP c l).length=12:=rfl
def x0:(bP c l)[0]?=some (.ab (.str c.mode)):=rfl
def aJ:(bP c l)[1]?=some (.ab (.int c.left)):=rfl
def bq:(bP c l)[2]?=some (.ab (dQ c.eM)):=rfl
def d0:(bP c l)[3]?=some (.own (c.lines.map λz=>.str z.2)):=rfl
def lX:(bP c l)[4]?=some (.own (l.map .str)):=rfl
def mC:(bP c l)[5]?=some (.ab (.int c.c6)):=rfl
def BY:(bP c l)[6]?=some (.own (c.bN.map .str)):=rfl
def kJ:(bP c l)[7]?=some (.ab (.int c.tries)):=rfl
def lY:(bP c l)[8]?=some (.ab (.int c.locked)):=rfl
def o5:(bP c l)[9]?=some (.own (c.used.map λu=>.int u.2)):=rfl
def BW:(bP c l)[10]?=some (.ab (.int c.past)):=rfl
def BX:(bP c l)[11]?=some (.own (c.told.map m2)):=rfl
def BZ(x:Str):(bP c l).set 0 (.ab (.str x))=bP {c with mode:=x} l:=rfl
def uU(x:Int):(bP c l).set 1 (.ab (.int x))=bP {c with left:=x} l:=rfl
def o8(x:Str):(bP c l).set 2 (.ab (.str x))=bP {c with eM:=some x} l:=rfl
def B6:(bP c l).set 2 (.ab .none)=bP {c with eM:=none} l:=rfl
def x'(m:List (Str×Str)):(bP c l).set 3 (.own (m.map λz=>.str z.2))=bP {c with lines:=m} l:=rfl
def B7(m:List Str):(bP c l).set 4 (.own (m.map .str))=bP c m:=rfl
def B8:(bP c l).set 4 (.own [])=bP c []:=rfl
def ajS(x:Int):(bP c l).set 5 (.ab (.int x))=bP {c with c6:=x} l:=rfl
def B9(m:List Str):(bP c l).set 6 (.own (m.map .str))=bP {c with bN:=m} l:=rfl
def B':(bP c l).set 6 (.own [])=bP {c with bN:=[]} l:=rfl
def B_(m:List Str)(z:Str):(bP c l).set 6 (.own (m.map .str++[.str z]))=bP {c with bN:=m++[z]} l:=by simp[bP]
def Ca(x:Int):(bP c l).set 7 (.ab (.int x))=bP {c with tries:=x} l:=rfl
def Cb(x:Int):(bP c l).set 8 (.ab (.int x))=bP {c with locked:=x} l:=rfl
def yd(m:List (Str×Int)):(bP c l).set 9 (.own (m.map λu=>.int u.2))=bP {c with used:=m} l:=rfl
def B0(x:Int):(bP c l).set 10 (.ab (.int x))=bP {c with past:=x} l:=rfl
def B2:(bP c l).set 11 (.own [])=bP {c with told:=[]} l:=rfl
def B1(m:List (Int×Str×Option Str))(i:Int)(w:Str)(n:Option Str):(bP c l).set 11 (.own (m.map m2++[.tuple [.int i,.str w,dQ n]]))=bP {c with told:=m++[(i,w,n)]} l:=by simp[bP,m2]
end
end je
open D a' je
open PySem hiding run fresh code
local macro_rules
| `(tactic| simp! [xU,$xs,*] $[$l]?)=>`(tactic| simp[runM,iQ,jz,l8,cq,dS,kR,g7,mO,ij,cy,ha,mf,jI,f6,fh,fld,eR,k2,kE,k1,ajQ,nB,mP,never,pU,mu,jZ,eI,seq,iff,a0,ip,eb,eY,jn,er,ofT,fo,ag,bV,args,aa,nm,aL,cX,skip,asg,jg,hh,par,b1,eU,hR,jc,aN,fW,fP,bH,di,f3,dv,comp,hH,aj7,x0,aJ,bq,d0,lX,mC,BY,kJ,lY,o5,BW,BX,BZ,uU,o8,B6,x',B7,B8,ajS,B9,B',B_,Ca,Cb,yd,B0,B2,B1,dz,$xs,*] $[$l]?)
local macro_rules
| `(tactic| simp! [il,$xs,*] $[$l]?)=>`(tactic| simp[runM,iQ,jz,l8,cq,dS,kR,g7,mO,ij,cy,ha,mf,jI,f6,fh,fld,eR,k2,kE,k1,ajQ,nB,mP,never,pU,mu,jZ,eI,seq,iff,a0,ip,eb,eY,jn,er,ofT,fo,ag,bV,args,aa,nm,aL,cX,skip,asg,jg,hh,par,b1,eU,hR,jc,bH,di,f3,dv,comp,hH,aj7,x0,aJ,bq,d0,lX,mC,BY,kJ,lY,o5,BW,BX,BZ,uU,o8,B6,x',B7,B8,ajS,B9,B',B_,Ca,Cb,yd,B0,B2,B1,dz,$xs,*] $[$l]?)
local macro_rules
| `(tactic| simp! [xV,$xs,*] $[$l]?)=>`(tactic| simp[runM,iQ,jz,l8,cq,dS,kR,g7,mO,ij,cy,ha,mf,jI,f6,fh,fld,eR,k2,kE,k1,ajQ,nB,mP,never,pU,mu,jZ,tE,vy,qw,yt,yE,va,rR,vg,rL,yF,vb,yQ,yM,yV,yN,yW,yZ,y0,yP,yY,y7,aj5,vh,vj,vq,yC,yX,tK,tF,tH,vi,rK,qx,rI,rG,qv,rJ,pk,vf,rN,oi,oj,yO,yD,vl,yG,vd,ve,eI,seq,iff,a0,ip,eb,eY,jn,er,ofT,fo,ag,bV,args,aa,nm,aL,cX,skip,asg,jg,hh,par,b1,eU,hR,jc,bH,di,f3,dv,comp,hH,aj7,x0,aJ,bq,d0,lX,mC,BY,kJ,lY,o5,BW,BX,BZ,uU,o8,B6,x',B7,B8,ajS,B9,B',B_,Ca,Cb,yd,B0,B2,B1,dz,$xs,*] $[$l]?)
namespace je
open D a'
open PySem hiding run fresh code
def RH(c:aG)(l:List Str)(w:Str)(n:Option Str)(h:c.told.length<big):e2 [.obj .cN 1 (bP c l),.ab (.str w),.ab (dQ n)]=some (.none,bP (tell w n c) l):=by
 have h':c.told.length<16777216:=h;simp! [xU,e2,Ru,tell,big,h']
def C5(c:aG)(l:List Str)(w:Str)(h:c.told.length<big):e2 [.obj .cN 1 (bP c l),.ab (.str w),.ab .none]=some (.none,bP (tell w none c) l):=RH c l w none h
def oq(c:aG)(l:List Str)(w z:Str)(h:c.told.length<big):e2 [.obj .cN 1 (bP c l),.ab (.str w),.ab (.str z)]=some (.none,bP (tell w (some z) c) l):=RH c l w (some z) h
def J1(p:aU)(c:aG)(l:List Str)(z:Str)(h:a4 p c)(aq:cz z)(aR:c.told.length<big):l7 [.ab (b8 p),.obj .cN 1 (bP c l),.ab (.str z)]=some (.none,bP (dd p z c) l):=by
 have ax:=h.ED;have p5:dj true (.str z) (.list (c.bN.map .str))=some (.bool (!decide (z∈c.bN))):=by rw[pA true aq h.II];rfl
 have eZ:c.bN.length<16777216:=by omega
 by_cases hm:z∈c.bN
 ·simp! [xU,l7,Kp,b8,p5,hm,dd,hA]
 ·have kj:({c with c6:=p.loud,bN:=c.bN++[z]}:aG).told.length<big:=aR;simp! [xU,l7,Kp,b8,p5,hm,dd,hA,big,eZ,oq _ l "alarm" z kj]
theorem lookup_at:∀{l:List (Str×Str)} {i:Nat} {z w:Str},(l.map (·.1)).Nodup->l[i]?=some (z,w)->l.lookup z=some w
| [],_,_,_,_,e=>by simp at e
|x::l,0,z,w,_,e=>by
  simp at e;subst e;simp[iT]
|x::l,i+1,z,w,aW,e=>by
  have gG:(x.1::l.map (·.1)).Nodup:=aW;have ne:z≠x.1:=λq=>by
   have:(z,w)∈l:=ko (by simpa using e);exact (dX.mp gG).1 (dm.mpr ⟨_,this,q⟩)
  obtain⟨a,b⟩:=x;have ae:(z==a)=false:=beq_eq_false_iff_ne.mpr ne;simp only[iT,ae];exact lookup_at (i:=i) (dX.mp gG).2 (by simpa using e)
def Dm{p:aU}{c:aG}(h:a4 p c)(aC:Wp p){i:Nat}{z:Str×Str}(e:p.bM[i]?=some z):c.lines[i]?=some (z.1,dn c z.1):=by
 have af:(c.lines.map (·.1))[i]?=some z.1:=by rw[h.ln,hq,e];rfl
 rw[hq] at af;cases a9:c.lines[i]? with
|none=>rw[a9] at af;cases af
|some y=>
  rw[a9] at af;obtain⟨a,b⟩:=y;have ax:a=z.1:=by simpa using af
  subst ax;have aW:(c.lines.map (·.1)).Nodup:=by rw[h.ln];exact aC.vR
  unfold dn;rw[lookup_at aW a9];rfl
def Rj{p:aU}{c:aG}(h:a4 p c)(aC:Wp p){i:Nat}{z:Str×Str}(e:p.bM[i]?=some z):aN (.list (c.lines.map λz=>.str z.2)) (.int (i:Nat))=some (.str (dn c z.1)):=by
 have af:=Dm h aC e;have aw:i<c.lines.length:=(fC.mp af).1;have bA:fP (c.lines.map λz=>(iU z.2:T)).length (i:Int)=some i:=by
  have q:(i:Int)<((c.lines.map λz=>(iU z.2:T)).length:Nat):=by simp;omega
  rw[fP,if_pos (by omega),if_pos q];simp
 show (fP (c.lines.map λz=>(iU z.2:T)).length (i:Int)).bind (λj=>(c.lines.map λz=>(iU z.2:T))[j]?)=_
 rw[bA,dh,hq,af];rfl
noncomputable def jB(c:aG)(zs:List (Str×Str)):List Str:=((zs.filter λz=>decide (z.2∈(["inner","way"]:List Str))).map (·.1)).filter λz=>decide (dn c z≠"shut") && !decide (z∈c.bU)
noncomputable def z5:bu:=(iff (eb (a0 (ag (dj false) (nm 4) (b1 [(aa (.str "way")),(aa (.str "inner"))]))) (eb (a0 (ag fQ (ag aN (fld 1 1 3) (nm 2)) (aa (.str "shut")))) (a0 (ag (dj true) (nm 3) (fld 1 1 4))))) (cq (dz 1 l7 [(aL 0)] 1 [(aL 3)])) skip)
def ajg(p:aU)(c:aG)(l:List Str)(i:Nat)(z:Str×Str)(h:a4 p c)(aC:Wp p)(aw:∀x,x∈l <-> x∈c.bU)(e:p.bM[i]?=some z)(aR:c.told.length<big):
  z5 (cO p c l [some (.ab (.int (i:Nat))),some (.ab (.str z.1)),some (.ab (.str z.2))]) =
   some (.bY (cO p (bN p (jB c [z]) c) l [some (.ab (.int (i:Nat))),some (.ab (.str z.1)),some (.ab (.str z.2))])):=by
 have aq:=ko e;have p9:=h.zn z aq;have aO:dj false (.str z.2) (.tuple [.str "way",.str "inner"])=some (.bool (decide (z.2∈(["inner","way"]:List Str)))):=by
  have:=qB false (n:=z.2) (ns:=["way","inner"]) p9.2 (by
   intro k aH;simp at aH;rcases aH with rfl|rfl
   ·exact a6 "way"
   ·exact a6 "inner")
  simp only[dk,jS,jU,if_false] at this;rw[this];congr 2;simp only[cZ,kp,or_false];exact decide_eq_decide.mpr Or.comm
 have bb:=Rj h aC e;have cQ:=ly (h.rm z.1) (a6 "shut");have gI:dj true (.str z.1) (.list (l.map .str))=some (.bool (!decide (z.1∈c.bU))):=by
  rw[pA true p9.1 λx hx=>h.oT x ((aw x).mp hx)];simp[aw]
 have dy:=J1 p c l z.1 h p9.1 aR;have c':jB c [z]=if (decide (z.2∈(["inner","way"]:List Str)) && (!decide (dn c z.1="shut") && !decide (z.1∈c.bU)))=true then [z.1] else []:=by
  unfold jB;by_cases af:z.2∈(["inner","way"]:List Str)
  ·rw[List.filter_cons,if_pos (decide_eq_true af),decide_eq_true af,List.filter_nil,dk,jS,List.filter_cons,List.filter_nil];by_cases ak:dn c z.1="shut" <;> by_cases bA:z.1∈c.bU <;> simp[ak,bA]
  ·rw[List.filter_cons,if_neg (by simpa using af),decide_eq_false af,List.filter_nil];rfl
 rw[c'];clear c';generalize decide (z.2∈(["inner","way"]:List Str))=bW at aO ⊢;generalize decide (dn c z.1="shut")=b6 at cQ ⊢;generalize decide (z.1∈c.bU)=hz at gI ⊢;cases bW <;> cases b6 <;> cases hz <;> simp! [il,z5,i_,aO,bb,cQ,gI,dy,bN]
def aeP(c:aG)(z:Str×Str)(zs:List (Str×Str)):jB c (z::zs)=jB c [z]++jB c zs:=by
 unfold jB;rw[<- List.filter_append,<- List.map_append,<- List.filter_append];rfl
def ad2(p:aU)(c:aG)(xs:List Str)(zs:List (Str×Str)):jB (bN p xs c) zs=jB c zs:=by
 obtain⟨_,_,_,kZ,j7,_⟩:=yL p xs c;unfold jB dn;rw[kZ,j7]
def adJ(p:aU)(xs ys:List Str)(c:aG):bN p (xs++ys) c=bN p ys (bN p xs c):=by simp[bN]
def afE{c:aG}{zs:List (Str×Str)}{x:Str}(h:x∈jB c zs):x∈zs.map (·.1):=by
 unfold jB at h;obtain⟨y,bL,rfl⟩:=dm.mp (List.mem_filter.mp h).1;exact dm.mpr ⟨y,(List.mem_filter.mp bL).1,rfl⟩
def afF(c:aG)(zs:List (Str×Str)):(jB c zs).length<=zs.length:=by
 unfold jB;have af:=ajU (λz=>decide (dn c z≠"shut") && !decide (z∈c.bU)) ((zs.filter λz=>decide (z.2∈(["inner","way"]:List Str))).map (·.1));have ak:=ajU (λz:Str×Str=>decide (z.2∈(["inner","way"]:List Str))) zs;rw[gk] at af;omega
theorem Rc(p:aU)(l:List Str)(aC:Wp p):∀(zs:List (Str×Str)) (i:Nat) (c:aG) (s2 s3 s4:Option aM),a4 p c->(∀j,zs[j]?=p.bM[i+j]?)->(∀x,x∈l <-> x∈c.bU)->c.told.length+zs.length<big ->
  ∃jQ t3 nh,forL (di [(bH 2),(di [(bH 3),(bH 4)])]) z5 (((zs.map dD).zipIdx i).map λq=>.tuple [.int q.2,q.1]) (cO p c l [s2,s3,s4])=some (.bY (cO p (bN p (jB c zs) c) l [jQ,t3,nh]))
| [],i,c,s2,s3,s4,_,_,_,_=>⟨s2,s3,s4,rfl⟩
|z::zs,i,c,s2,s3,s4,h,aq,aw,aR=>by
  have e:p.bM[i]?=some z:=by
   have:=aq 0;simpa using this.symm
  have Yk:∀x∈jB c [z],x∈p.bM.map (·.1):=λx hx=>by
   have:=afE hx;simp at this;exact dm.mpr ⟨z,ko e,this.symm⟩
  have af:=ajg p c l i z h aC aw e (by simp at aR;omega);have k:=yL p (jB c [z]) c;have jR:=a4.bN h Yk;have t1:=JY p (jB c [z]) c;have bW:=afF c [z];obtain⟨jQ,t3,nh,b2⟩:=Rc p l aC zs (i+1) (bN p (jB c [z]) c) (some (.ab (.int (i:Nat)))) (some (.ab (.str z.1))) (some (.ab (.str z.2))) jR (λj=>by
   have:=aq (j+1);rw[oh] at this;rw[this];congr 1;omega) (λx=>by rw[k.2.2.2.2.1];exact aw x) (by simp at aR bW;omega)
  refine⟨jQ,t3,nh,?_⟩
  rw[aeP,adJ];rw[ad2] at b2;rw[dk,List.zipIdx_cons,dk,forL];show Option.bind (some ((cO p c l [some (.ab (.int (i:Nat))),some (.ab (.str z.1)),some (.ab (.str z.2))]):Ev)) _=_;rw[dh,af,dh];exact b2
def Rf(p:aU)(c:aG)(l:List Str)(h:a4 p c)(aC:Wp p)(h0:c.left=0)(aw:∀x,x∈l <-> x∈c.bU)(aR:c.told.length+50<big):tZ [.ab (b8 p),.obj .cN 1 (bP c l)]=some (.none,bP (fY p c) l):=by
 have jR:=(h.on 0).tell "on" none;have g0:({c with mode:="on" }:aG)={c with mode:="on",left:=0}:=by rw[<- h0]
 have bp:=C5 {c with mode:="on",left:=0} l "on" (by show c.told.length<big;omega);have aq:=h.fE;obtain⟨jQ,t3,nh,n5⟩:=Rc p l aC p.bM 0 (tell "on" none {c with mode:="on",left:=0}) none none none jR (λj=>by rw[Nat.zero_add]) aw (by
  have:(tell "on" none {c with mode:="on",left:=0}:aG).told.length=c.told.length+1:=by simp[tell]
  omega)
 have s1:(cy 1 1 0 (aa (.str "on"))) (cO p c l [none,none,none])=some (.bY (cO p {c with mode:="on",left:=0} l [none,none,none])):=by
  rw[<- g0];rfl
 have s2:(cq (dz 1 e2 [] 1 [(aa (.str "on")),(aa .none)])) (cO p {c with mode:="on",left:=0} l [none,none,none])=some (.bY (cO p (tell "on" none {c with mode:="on",left:=0}) l [none,none,none])):=by
  simp! [il,bp]
 have s3:(g4 (jY (j0 (ag aN (nm 0) (aa (.int 0))))) (di [(bH 2),(di [(bH 3),(bH 4)])]) z5) (cO p (tell "on" none {c with mode:="on",left:=0}) l [none,none,none])=some (.bY (cO p (fY p c) l [jQ,t3,nh])):=by
  unfold g4;rw[show jY (j0 (ag aN (nm 0) (aa (.int 0)))) (cO p (tell "on" none {c with mode:="on",left:=0}) l [none,none,none])=some (((p.bM.map dD).zipIdx 0).map λq=>.tuple [.int q.2,q.1]) from rfl,dh];exact n5
 have gR:Ln (cO p c l [none,none,none])=some (.bY (cO p (fY p c) l [jQ,t3,nh])):=by
  show (seq _ (seq _ _)) _=_
  simp only[seq,s1,dh,s2];exact s3
 show (Ln (cO p c l [none,none,none])).bind _=_
 rw[gR];rfl
def Vm{c:aG}(af:0<=c.locked)(ak:0<=c.c6)(bA:0<=c.left):eC 0 c=c:=by
 have e:∀x:Int,0<=x->less x 0=x:=λx hx=>by
  rw[rS];omega
 unfold eC;rw[e _ af,e _ ak,e _ bA,Int.add_zero]
def agd(x:Int):lS [.int 0,.int (x - 1)]=some (.int (less x 1)):=by
 unfold less;by_cases h:0 > x - 1
 ·rw[if_pos h];simp[lS];omega
 ·rw[if_neg h];simp[lS];omega
def aeZ(p:aU)(c:aG)(l:List Str)(k:bu):(seq (cy 1 1 10 (ag cV (fld 1 1 10) (aa (.int 1))))
  (seq (cy 1 1 8 (bV lS [(aa (.int 0)),(ag ke (fld 1 1 8) (aa (.int 1)))]))
  (seq (cy 1 1 5 (bV lS [(aa (.int 0)),(ag ke (fld 1 1 5) (aa (.int 1)))])) k))) (cO p c l [none])=k (cO p {c with past:=c.past+1,locked:=less c.locked 1,c6:=less c.c6 1} l [none]):=by
 simp! [il,cV,ke,agd]
noncomputable def um:bu:=(iff (a0 (ag oEq (fld 1 1 1) (aa (.int 0)))) (seq (asg 2 (eR 1 1 2)) (iff (a0 (ag oEq (fld 1 1 0) (aa (.str "leaving")))) (cq (dz 1 tZ [(aL 0)] 1 [])) (seq (cy 1 1 0 (aa (.str "on"))) (seq (cy 1 1 2 (aa .none)) (cq (dz 1 l7 [(aL 0)] 1 [(aL 2)])))))) skip)
def iV(a b:Int):oEq (.int a) (.int b)=some (.bool (decide (a=b))):=by
 unfold oEq;rw[rU,rU];by_cases e:a=b <;> simp[hG,e]
def aho(p:aU)(c:aG)(l:List Str)(h:c.left≠0):um (cO p c l [none])=some (.bY (cO p c l [none])):=by
 simp! [il,um,iV,h]
def aiv(p:aU)(c:aG)(l:List Str)(h:a4 p c)(aC:Wp p)(h0:c.left=0)(aR:c.mode="leaving"\/c.mode="coming")(aw:∀x,x∈l <-> x∈c.bU)(ae:c.told.length+50<big):
  ∃s2,um (cO p c l [none])=some (.bY (cO p (eH p c) l [s2])):=by
 rcases aR with hm|hm
 ·have cC:=Rf p c l h aC h0 aw ae;refine⟨some (.ab (dQ c.eM)),?_⟩;have q:=cL (a6 "leaving") (a6 "leaving");simp only[um,eI,seq,iff,a0,ip,eb,eY,jn,er,ofT,fo,ag,bV,args,aa,nm,aL,cX,skip,asg,jg,hh,par,b1,eU,hR,jc,bH,di,f3,dv,comp,hH,runM,iQ,jz,l8,cq,dS,kR,g7,mO,ij,cy,ha,mf,jI,f6,fh,fld,eR,k2,kE,k1,ajQ,nB,mP,never,pU,mu,jZ,aj7,x0,aJ,bq,d0,lX,mC,BY,kJ,lY,o5,BW,BX,BZ,uU,o8,B6,x',B7,B8,ajS,B9,B',B_,Ca,Cb,yd,B0,B2,B1,dz,iV,h0,hm,eH];simp! [il,iV,h0,hm,q,cC,eH]
 ·obtain⟨z,aq⟩:=Option.ne_none_iff_exists'.mp (h.iE hm);have dy:=J1 p {c with mode:="on",eM:=none} l z h.IJ (h.ca z aq).1 (by show c.told.length<big;omega);refine⟨some (.ab (.str z)),?_⟩;rw[h0] at dy;have q:=cL (a6 "coming") (a6 "leaving");simp! [il,um,iV,h0,hm,q,aq,dQ,dy,eH,j9,vb]
def afl(p:aU)(c:aG)(l:List Str)(h:a4 p c)(aC:Wp p)(a5:cT c)(aw:∀x,x∈l <-> x∈c.bU)(ae:c.told.length+50<big):zg [.ab (b8 p),.obj .cN 1 (bP c l)]=some (.none,bP (cE p 1 c) l):=by
 have q:dj false (.str c.mode) (.tuple [.str "leaving",.str "coming"])=some (.bool (decide (c.mode="leaving"\/c.mode="coming"))):=by
  have:=qB false (n:=c.mode) (ns:=["leaving","coming"]) h.mo (by
   intro k aH;simp at aH;rcases aH with rfl|rfl
   ·exact a6 "leaving"
   ·exact a6 "coming")
  simpa using this
 have main:∃s2,C' (cO p c l [none])=some (.bY (cO p (cE p 1 c) l [s2])):=by
  unfold C';rw[aeZ];show ∃s2,(iff (a0 (ag (dj false) (fld 1 1 0) (b1 [(aa (.str "leaving")),(aa (.str "coming"))]))) (seq (cy 1 1 1 (ag ke (fld 1 1 1) (aa (.int 1)))) um) skip) _=_;by_cases aR:c.mode="leaving"\/c.mode="coming"
  ·have nW:=(a5.t1 aR).1;rw[decide_eq_true aR] at q;have fX:less c.left 1=c.left - 1:=by
    rw[rS];omega
   have st:∀k:bu,(iff (a0 (ag (dj false) (fld 1 1 0) (b1 [(aa (.str "leaving")),(aa (.str "coming"))]))) (seq (cy 1 1 1 (ag ke (fld 1 1 1) (aa (.int 1)))) k) skip) (cO p {c with past:=c.past+1,locked:=less c.locked 1,c6:=less c.c6 1} l [none])=k (cO p (eC 1 c) l [none]):=λk=>by
    simp! [il,ke,i_,q,eC,fX]
   rw[st];by_cases af:c.left<=1
   ·have cC:c.left=1:=by omega
    have Ab:(eC 1 c).left=0:=by
     show less c.left 1=0
     rw[fX,cC];rfl
    obtain⟨s2,c'⟩:=aiv p (eC 1 c) l (h.cd 1) aC Ab aR aw ae;refine⟨s2,?_⟩;rw[c'];have bp:cE p 1 c=eH p (eC 1 c):=by
     unfold cE;rw[if_neg (by omega),if_pos ⟨aR,af⟩,cC];obtain⟨a1,a2,iC,kZ,j7,k0,mU,nM,kA⟩:=aj' p (eC 1 c);have e7:=vJ (x:=c.locked) (n:=1) (by omega) a5.lo;have ec:=vJ (x:=c.c6) (n:=1) (by omega) a5.kH;refine Vm ?_ ?_ ?_
     ·rw[k0];exact e7.1
     ·rcases kA with kA|kA
      ·rw[kA];exact aC.od.2.2
      ·rw[kA];exact ec.1
     ·rw[a2 Ab];exact Int.le_refl 0
    rw[bp]
   ·have Ab:(eC 1 c).left≠0:=by
     show less c.left 1≠0
     rw[fX];omega
    refine⟨none,?_⟩
    rw[aho p _ l Ab];have bp:cE p 1 c=eC 1 c:=by
     unfold cE;rw[if_neg (by omega),if_neg λz=>af z.2]
    rw[bp]
  ·have h0:=a5.t0 aR;rw[decide_eq_false aR] at q;refine⟨none,?_⟩;have bp:cE p 1 c={c with past:=c.past+1,locked:=less c.locked 1,c6:=less c.c6 1}:=by
    unfold cE;rw[if_neg (by omega),if_neg λz=>aR z.1];unfold eC;have:less c.left 1=c.left:=by
     rw[h0];rfl
    rw[this]
   rw[bp];simp! [il,i_,q]
 obtain⟨s2,e⟩:=main;show (C' (cO p c l [none])).bind _=_;rw[e];rfl
theorem vC:∀(zs:List (Str×Str)) (z:Str),z∈zs.map (·.1)->zs[(zs.map (·.1)).idxOf z]?=some (z,(((zs.find? λx=>decide (x.1=z)).map (·.2)).getD ("":Str):Str))
| [],z,h=>by simp at h
|x::zs,z,h=>by
  by_cases e:x.1=z
  ·subst e;simp[List.idxOf_cons]
  ·have h':z∈zs.map (·.1):=by
    rcases cZ.mp (show z∈x.1::zs.map (·.1) from h) with q|q
    ·exact absurd q.symm e
    ·exact q
   have ae:(x.1==z)=false:=beq_eq_false_iff_ne.mpr e;rw[dk,List.idxOf_cons,ae,l1,decide_eq_false e];simpa using vC zs z h'
theorem PQ:∀{l:List (Str×Str)} {z w:Str},z∉l.map (·.1)->fb l z w=l
| [],_,_,_=>rfl
|x::l,z,w,h=>by
  have af:x.1≠z:=λq=>h (by simp[q]);have ak:z∉l.map (·.1):=λq=>h (by simp[dm] at q ⊢;exact .inr q);show (if x.1=z then (z,w) else x)::fb l z w=_;rw[if_neg af,PQ ak]
theorem KS:∀{l:List (Str×Str)} {i:Nat} {z w o:Str},(l.map (·.1)).Nodup->l[i]?=some (z,o)->fb l z w=l.set i (z,w)
| [],_,_,_,_,_,e=>by simp at e
|x::l,0,z,w,o,aW,e=>by
  simp at e;subst e;have gG:(z::l.map (·.1)).Nodup:=aW;show (if z=z then (z,w) else (z,o))::fb l z w=_;rw[if_pos rfl,PQ (dX.mp gG).1];rfl
|x::l,i+1,z,w,o,aW,e=>by
  have gG:(x.1::l.map (·.1)).Nodup:=aW;have ne:x.1≠z:=λq=>by
   have:(z,o)∈l:=ko (by simpa using e);exact (dX.mp gG).1 (dm.mpr ⟨_,this,q.symm⟩)
  show (if x.1=z then (z,w) else x)::fb l z w=_
  rw[if_neg ne,KS (dX.mp gG).2 (show l[i]?=some (z,o) by simpa using e)];rfl
def adO(zs:List (Str×Str)):strsOf (zs.map λz=>.str z.1)=some (zs.map (·.1)):=by
 have:=vn (zs.map (·.1));rw[mF] at this;exact this
def afj(p:aU)(c:aG)(l:List Str)(z w:Str)(k:bu)(h:a4 p c)(aC:Wp p)(aq:z∈p.bM.map (·.1)):∃k9 i,(seq (asg 4 (comp 1 [] (dv (ag aN (nm 0) (aa (.int 0)))) (bH 0) (er true) (ag aN (nm 0) (aa (.int 0)))))
  (seq (asg 5 (ag v3 (nm 4) (nm 2)))
  (seq (asg 6 (ag aN (fld 1 1 3) (nm 5)))
  (seq (qM 1 1 3 (aL 5) (aL 3))
  (seq (asg 7 (ag aN (ag aN (ag aN (nm 0) (aa (.int 0))) (nm 5)) (aa (.int 1))))
  (seq (asg 8 (eR 1 1 0)) k)))))) (cO p c l [some (.ab (.str z)),some (.ab (.str w)),none,none,none,none,none,none]) =
   k (cO p {c with lines:=fb c.lines z w} l [some (.ab (.str z)),some (.ab (.str w)),k9,i,some (.ab (.str (dn c z))),some (.ab (.str (kindOf p z))),some (.ab (.str c.mode)),none]):=by
 have AZ:=h.fE;have e:p.bM[(p.bM.map (·.1)).idxOf z]?=some (z,kindOf p z):=vC p.bM z aq;generalize aS:(p.bM.map (·.1)).idxOf z=i at e;have cC:=Dm h aC e;have eh:=Rj h aC e;have XJ:i<p.bM.length:=(fC.mp e).1;have hlen:c.lines.length=p.bM.length:=by
  have:=congrArg List.length h.ln;simpa using this
 have aW:(c.lines.map (·.1)).Nodup:=by rw[h.ln];exact aC.vR
 have ff:=KS (w:=w) aW cC;refine⟨some (.ab (.list (p.bM.map λz=>.str z.1))),some (.ab (.int (i:Nat))),?_⟩;refine mL (t:=.list (p.bM.map λz=>.str z.1)) ?_ (mL (t:=.int (i:Nat)) ?_ (mL (t:=.str (dn c z)) ?_ (tS (ε':=(cO p {c with lines:=fb c.lines z w} l [some (.ab (.str z)),some (.ab (.str w)),some (.ab (.list (p.bM.map λz=>.str z.1))),some (.ab (.int (i:Nat))),some (.ab (.str (dn c z))),none,none,none])) ?_ (mL (t:=.str (kindOf p z)) ?_ (mL (t:=.str c.mode) ?_ ?_)))))
 ·have c3:=KH dD (λz=>.str z.1) [] p.bM none λz aq=>by simp! [jP,dD]
  have bW:p.bM.length<=big:=by unfold big;omega
  simp! [jP,b8,c3,bW]
 ·simp only[ag,nm,lq,kO];show v3 (.list (p.bM.map λz=>.str z.1)) (.str z)=_;unfold v3;simp only[adO,dh];rw[if_pos aq,aS]
 ·simp only[lq,kO];show aN (.list (c.lines.map λz=>.str z.2)) (.int (i:Nat))=_;exact eh
 ·simp only[lq,kO];have q:(0:Int)<=(i:Int)/\((i:Int)).toNat<(c.lines.map λz=>(iU z.2:T)).length:=by
   simp;omega
  have lK:(c.lines.map λz=>(iU z.2:T)).set i (.str w)=(fb c.lines z w).map λz=>.str z.2:=by
   rw[ff,List.map_set]
  simp only[qM,aL,nm,kE,fh,dh,oh,o_,if_true,d0,q,and_self,Int.toNat_natCast,lK];simp[f6,fh,aj7,x'];omega
 ·have mZ:aN (.tuple (p.bM.map dD)) (.int (i:Nat))=some (dD (z,kindOf p z)):=by
   have bA:fP (p.bM.map dD).length (i:Int)=some i:=by
    have q:(i:Int)<((p.bM.map dD).length:Nat):=by simp;omega
    rw[fP,if_pos (by omega),if_pos q];simp
   show (fP (p.bM.map dD).length (i:Int)).bind (λj=>(p.bM.map dD)[j]?)=_
   rw[bA,dh,hq,e];rfl
  have m1:aN (b8 p) (.int 0)=some (.tuple (p.bM.map dD)):=rfl;simp only[ag,nm,aa,oh,o_,dh,m1,mZ];rfl
 ·rfl
 ·rfl
def gz{f:bD}{ε:Ev}{b:Bool}(h:f ε=some (.bool b)):a0 f ε=some b:=by simp[a0,h]
noncomputable def LZ:bu:=(seq (asg 9 (i3 (ag oEq (nm 3) (aa (.str "cut"))) (i3 (ag oEq (nm 7) (aa (.str "once"))) (jf (ag oEq (nm 8) (aa (.str "on"))) (i3 (ag oEq (nm 7) (aa (.str "inner"))) (ag oEq (ag aN (ag aN (nm 0) (aa (.int 2))) (aa (.int 1))) (aa (.int 0)))))))) (iff (eY (a0 (ag oEq (nm 7) (aa (.str "day")))) (eb (a0 (ag fQ (nm 8) (aa (.str "off")))) (a0 (nm 9)))) (cq (dz 1 l7 [(aL 0)] 1 [(aL 2)])) (iff (eb (a0 (ag oEq (nm 8) (aa (.str "off")))) (a0 (ag oEq (nm 3) (aa (.str "cut"))))) (cq (dz 1 e2 [] 1 [(aa (.str "fault")),(aL 2)])) (iff (a0 (ag oEq (nm 8) (aa (.str "on")))) (seq (cy 1 1 0 (aa (.str "coming"))) (seq (cy 1 1 1 (ag aN (ag aN (nm 0) (aa (.int 2))) (aa (.int 1)))) (seq (cy 1 1 2 (aL 2)) (cq (dz 1 e2 [] 1 [(aa (.str "coming")),(aL 2)]))))) skip))))
def kinds:List Str:=["day","inner","once","way"]
def ajf(p:aU)(c:aG)(l:List Str)(z w:Str)(s4 s5 dK dV:Option aM)(h:a4 p c)(aC:Wp p)(aq:z∈p.bM.map (·.1))(hw:cz w)(aH:kindOf p z∈kinds)(aR:c.told.length<big):
  ∃hl,LZ (cO p c l [some (.ab (.str z)),some (.ab (.str w)),s4,s5,dK,some (.ab (.str (kindOf p z))),some (.ab (.str c.mode)),dV]) =
   some (.bY (cO p (gB p z w c) l [some (.ab (.str z)),some (.ab (.str w)),s4,s5,dK,some (.ab (.str (kindOf p z))),some (.ab (.str c.mode)),hl])):=by
 have sO:cz (kindOf p z):=h.NR z;have dy:=J1 p c l z h (h.i2 aq) aR;have Ag:=oq c l "fault" z aR;have g0:=oq {c with mode:="coming",left:=p.gb,eM:=some z} l "coming" z aR;have aO:=cL sO (a6 "day");have bb:=cL h.mo (a6 "off");have abd:=ly h.mo (a6 "off");have cQ:=cL hw (a6 "cut");have gI:=cL sO (a6 "once");have nd:=cL h.mo (a6 "on");have oU:=cL sO (a6 "inner");have oV:=iV p.gb 0;have ci:aN (.tuple [.int p.leave,.int p.gb,.int p.loud]) (.int 1)=some (.int p.gb):=rfl;have pi:aN (b8 p) (.int 2)=some (.tuple [.int p.leave,.int p.gb,.int p.loud]):=rfl;refine⟨some (.ab (.bool (decide (w="cut") || (decide (kindOf p z="once") || (decide (c.mode="on") && (decide (kindOf p z="inner") || decide (p.gb=0))))))),?_⟩;refine mL (t:=.bool (decide (w="cut") || (decide (kindOf p z="once") || (decide (c.mode="on") && (decide (kindOf p z="inner") || decide (p.gb=0)))))) (cv.xG cQ λ_=>cv.xG gI λ_=>cv.EE nd λ_=>cv.xG oU λ_=>?_) ?_
 ·simp only[ag,nm,aa,oh,o_,dh,pi,ci,oV]
 simp only[lq,kO];have c3:∀hl,(eY (a0 (ag oEq (nm 7) (aa (.str "day")))) (eb (a0 (ag fQ (nm 8) (aa (.str "off")))) (a0 (nm 9)))) (cO p c l [some (.ab (.str z)),some (.ab (.str w)),s4,s5,dK,some (.ab (.str (kindOf p z))),some (.ab (.str c.mode)),some (.ab (.bool hl))])=some (decide (kindOf p z="day") || (!decide (c.mode="off") && hl)):=λhl=>
  cv.IM (gz aO) λ_=>cv.wB (gz abd) λ_=>gz rfl
 have dF:∀hl,(eb (a0 (ag oEq (nm 8) (aa (.str "off")))) (a0 (ag oEq (nm 3) (aa (.str "cut"))))) (cO p c l [some (.ab (.str z)),some (.ab (.str w)),s4,s5,dK,some (.ab (.str (kindOf p z))),some (.ab (.str c.mode)),some (.ab (.bool hl))])=some (decide (c.mode="off") && decide (w="cut")):=λhl=>cv.wB (gz bb) λ_=>gz cQ;have fx:∀hl,(a0 (ag oEq (nm 8) (aa (.str "on")))) (cO p c l [some (.ab (.str z)),some (.ab (.str w)),s4,s5,dK,some (.ab (.str (kindOf p z))),some (.ab (.str c.mode)),some (.ab (.bool hl))])=some (decide (c.mode="on")):=λhl=>gz nd;have WW:∀hl:T,(cq (dz 1 l7 [(aL 0)] 1 [(aL 2)])) (cO p c l [some (.ab (.str z)),some (.ab (.str w)),s4,s5,dK,some (.ab (.str (kindOf p z))),some (.ab (.str c.mode)),some (.ab hl)])=some (.bY (cO p (dd p z c) l [some (.ab (.str z)),some (.ab (.str w)),s4,s5,dK,some (.ab (.str (kindOf p z))),some (.ab (.str c.mode)),some (.ab hl)])):=λhl=>by
  simp! [il,dy]
 have WY:∀hl:T,(cq (dz 1 e2 [] 1 [(aa (.str "fault")),(aL 2)])) (cO p c l [some (.ab (.str z)),some (.ab (.str w)),s4,s5,dK,some (.ab (.str (kindOf p z))),some (.ab (.str c.mode)),some (.ab hl)])=some (.bY (cO p (tell "fault" (some z) c) l [some (.ab (.str z)),some (.ab (.str w)),s4,s5,dK,some (.ab (.str (kindOf p z))),some (.ab (.str c.mode)),some (.ab hl)])):=λhl=>by
  simp! [il,Ag]
 have WX:∀hl:T,(seq (cy 1 1 0 (aa (.str "coming")))
  (seq (cy 1 1 1 (ag aN (ag aN (nm 0) (aa (.int 2))) (aa (.int 1))))
  (seq (cy 1 1 2 (aL 2))
  (cq (dz 1 e2 [] 1 [(aa (.str "coming")),(aL 2)]))))) (cO p c l [some (.ab (.str z)),some (.ab (.str w)),s4,s5,dK,some (.ab (.str (kindOf p z))),some (.ab (.str c.mode)),some (.ab hl)])=some (.bY (cO p (tell "coming" (some z) {c with mode:="coming",left:=p.gb,eM:=some z}) l [some (.ab (.str z)),some (.ab (.str w)),s4,s5,dK,some (.ab (.str (kindOf p z))),some (.ab (.str c.mode)),some (.ab hl)])):=λhl=>by
  simp! [il,pi,ci,g0]
 rw[iff_eq (c3 _),iff_eq (dF _),iff_eq (fx _),WW,WY,WX];have aD:=aC.od.2.1;unfold gB gA;by_cases af:kindOf p z="day"
 ·simp[af]
 ·by_cases ak:c.mode="off"
  ·by_cases bA:w="cut" <;> simp[af,ak,bA,skip,vy]
  ·by_cases bA:w="cut"
   ·simp[af,ak,bA]
   ·by_cases cP:kindOf p z="once"
    ·simp[af,ak,bA,cP,vq]
    ·by_cases gC:c.mode="on"
     ·by_cases sE:kindOf p z="inner"
      ·simp[af,ak,bA,cP,gC,sE,rR,aj5,vh,vj]
      ·have F0:kindOf p z="way":=by
        simp[kinds] at aH;rcases aH with q|q|q|q
        ·exact absurd q af
        ·exact absurd q sE
        ·exact absurd q cP
        ·exact q
       by_cases M1:p.gb=0
       ·simp[af,ak,bA,cP,gC,sE,F0,M1,rR,tK,tH,tF]
       ·have Xf:¬p.gb<=0:=by omega
        simp[af,ak,bA,cP,gC,sE,F0,M1,Xf,rR,tK,tH,tF]
     ·simp[af,ak,bA,cP,gC,skip]
def ae4{p:aU}{c:aG}(h:a4 p c)(aC:Wp p){z:Str}(aq:z∈p.bM.map (·.1)):fb c.lines z (dn c z)=c.lines:=by
 have e:p.bM[(p.bM.map (·.1)).idxOf z]?=some (z,kindOf p z):=vC p.bM z aq;have cC:=Dm h aC e;have aW:(c.lines.map (·.1)).Nodup:=by rw[h.ln];exact aC.vR
 rw[KS (w:=dn c z) aW cC];obtain⟨aw,q⟩:=fC.mp cC;rw[show (z,dn c z)=c.lines[(p.bM.map (·.1)).idxOf z] from q.symm];exact List.set_getElem_self aw
noncomputable def I':bu:=(seq (iff (a0 (ag oEq (nm 3) (nm 6))) (g7 (aa .none)) skip) (seq (iff (a0 (ag oEq (nm 3) (aa (.str "shut")))) (iff (a0 (ag oEq (nm 6) (aa (.str "cut")))) (cq (dz 1 e2 [] 1 [(aa (.str "mended")),(aL 2)])) skip) (iff (a0 (ag (dj true) (nm 2) (fld 1 1 4))) LZ skip)) (g7 (aa .none))))
def afm(p:aU)(c:aG)(l:List Str)(z w:Str)(h:a4 p c)(aC:Wp p)(aq:z∈p.bM.map (·.1))(hw:cz w)(aH:kindOf p z∈kinds)(aw:∀x,x∈l <-> x∈c.bU)(aR:c.told.length<big):
  zh [.ab (b8 p),.obj .cN 1 (bP c l),.ab (.str z),.ab (.str w)]=some (.none,bP (line p z w c) l):=by
 have main:∃s4 s5 dK cG cY dV,Dc (cO p c l [some (.ab (.str z)),some (.ab (.str w)),none,none,none,none,none,none])=some (.gh .none (cO p (line p z w c) l [some (.ab (.str z)),some (.ab (.str w)),s4,s5,dK,cG,cY,dV])):=by
  obtain⟨k9,i,da⟩:=afj p c l z w I' h aC aq;have jR:=h.I7 z hw;have aE:=h.rm z;have aO:=cL hw aE;have bb:=cL hw (a6 "shut");have cQ:=cL aE (a6 "cut");have gI:dj true (.str z) (.list (l.map .str))=some (.bool (!decide (z∈c.bU))):=by
   rw[pA true (h.i2 aq) λx hx=>h.oT x ((aw x).mp hx)];simp[aw]
  obtain⟨hl,eq⟩:=ajf p {c with lines:=fb c.lines z w} l z w k9 i (some (.ab (.str (dn c z)))) none jR aC aq hw aH aR;have em:=oq {c with lines:=fb c.lines z w} l "mended" z aR;have iY:(a0 (ag oEq (nm 3) (nm 6))) (cO p {c with lines:=fb c.lines z w} l [some (.ab (.str z)),some (.ab (.str w)),k9,i,some (.ab (.str (dn c z))),some (.ab (.str (kindOf p z))),some (.ab (.str c.mode)),none])=some (decide (w=dn c z)):=gz aO;have z6:(a0 (ag oEq (nm 3) (aa (.str "shut")))) (cO p {c with lines:=fb c.lines z w} l [some (.ab (.str z)),some (.ab (.str w)),k9,i,some (.ab (.str (dn c z))),some (.ab (.str (kindOf p z))),some (.ab (.str c.mode)),none])=some (decide (w="shut")):=gz bb;have L1:(a0 (ag oEq (nm 6) (aa (.str "cut")))) (cO p {c with lines:=fb c.lines z w} l [some (.ab (.str z)),some (.ab (.str w)),k9,i,some (.ab (.str (dn c z))),some (.ab (.str (kindOf p z))),some (.ab (.str c.mode)),none])=some (decide (dn c z="cut")):=gz cQ;have L2:(a0 (ag (dj true) (nm 2) (fld 1 1 4))) (cO p {c with lines:=fb c.lines z w} l [some (.ab (.str z)),some (.ab (.str w)),k9,i,some (.ab (.str (dn c z))),some (.ab (.str (kindOf p z))),some (.ab (.str c.mode)),none])=some (!decide (z∈c.bU)):=gz gI;have WZ:(cq (dz 1 e2 [] 1 [(aa (.str "mended")),(aL 2)])) (cO p {c with lines:=fb c.lines z w} l [some (.ab (.str z)),some (.ab (.str w)),k9,i,some (.ab (.str (dn c z))),some (.ab (.str (kindOf p z))),some (.ab (.str c.mode)),none])=some (.bY (cO p (tell "mended" (some z) {c with lines:=fb c.lines z w}) l [some (.ab (.str z)),some (.ab (.str w)),k9,i,some (.ab (.str (dn c z))),some (.ab (.str (kindOf p z))),some (.ab (.str c.mode)),none])):=by
   simp! [il,em]
  have ae:Dc (cO p c l [some (.ab (.str z)),some (.ab (.str w)),none,none,none,none,none,none])=I' (cO p {c with lines:=fb c.lines z w} l [some (.ab (.str z)),some (.ab (.str w)),k9,i,some (.ab (.str (dn c z))),some (.ab (.str (kindOf p z))),some (.ab (.str c.mode)),none]):=da;rw[ae];unfold I' line;by_cases af:w=dn c z
  ·refine⟨k9,i,some (.ab (.str (dn c z))),some (.ab (.str (kindOf p z))),some (.ab (.str c.mode)),none,?_⟩
   rw[if_pos af];have es:({c with lines:=fb c.lines z w}:aG)=c:=by
    rw[af,ae4 h aC aq]
   simp only[seq,iff,iY,decide_eq_true af,dh,if_true,g7,aa,jT];rw[es]
  ·rw[if_neg af];by_cases ak:w="shut"
   ·rw[if_pos ak];by_cases bA:dn c z="cut"
    ·rw[if_pos bA];refine⟨k9,i,some (.ab (.str (dn c z))),some (.ab (.str (kindOf p z))),some (.ab (.str c.mode)),none,?_⟩;simp only[seq,iff,skip,iY,z6,L1,decide_eq_false af,decide_eq_true ak,decide_eq_true bA,dh,if_true,jU,if_false,WZ,g7,aa,jT]
    ·rw[if_neg bA];refine⟨k9,i,some (.ab (.str (dn c z))),some (.ab (.str (kindOf p z))),some (.ab (.str c.mode)),none,?_⟩;simp only[seq,iff,skip,iY,z6,L1,decide_eq_false af,decide_eq_true ak,decide_eq_false bA,dh,if_true,jU,if_false,g7,aa,jT]
   ·rw[if_neg ak];by_cases cP:z∈c.bU
    ·rw[if_pos cP];refine⟨k9,i,some (.ab (.str (dn c z))),some (.ab (.str (kindOf p z))),some (.ab (.str c.mode)),none,?_⟩;simp only[seq,iff,skip,iY,z6,L2,decide_eq_false af,decide_eq_false ak,decide_eq_true cP,dh,Bool.not_true,jU,if_false,g7,aa,jT]
    ·rw[if_neg cP];refine⟨k9,i,some (.ab (.str (dn c z))),some (.ab (.str (kindOf p z))),some (.ab (.str c.mode)),hl,?_⟩;simp only[seq,iff,skip,iY,z6,L2,decide_eq_false af,decide_eq_false ak,decide_eq_false cP,dh,Bool.not_false,jU,if_true,if_false,g7,aa,jT];rw[eq];rfl
 obtain⟨s4,s5,dK,cG,cY,dV,e⟩:=main;show (Dc (cO p c l [some (.ab (.str z)),some (.ab (.str w)),none,none,none,none,none,none])).bind _=_;rw[e];rfl
noncomputable def oR(d:Str)(z:Option Str)(l:List Str):List Str:=if d="set" then l else if d="unset" then [] else if d="shunt" then l++[z.getD ""] else l.erase (z.getD "")
def CL{l m:List Str}(h:eD l=m)(x:Str):x∈l <-> x∈m:=by
 rw[<- h];exact (@om t0 l).mem_iff.symm
def Fv(p:aU)(c:aG)(l:List Str)(w d:Str)(z:Option Str)(h:eD l=c.bU):eD (oR d z l)=(d2 p w d z c).bU:=by
 unfold oR d2;split
 ·unfold jh;simp only[];split
  ·obtain⟨_,_,_,_,j7,_⟩:=yL p (bare p ["inner","way"] (tell "on" none {tell "set" (some w) {c with bN:=[],c6:=0,mode:="leaving",left:=p.leave} with mode:="on",left:=0})) (tell "on" none {tell "set" (some w) {c with bN:=[],c6:=0,mode:="leaving",left:=p.leave} with mode:="on",left:=0});exact h.trans j7.symm
  ·exact h
 ·split
  ·rfl
  ·split
   ·show eD (l++[z.getD ""])=eD (c.bU++[z.getD ""])
    rw[<- h];exact @O_ t0 _ _ ((@om t0 l).symm.append_right _)
   ·show eD (l.erase (z.getD ""))=c.bU.erase (z.getD "")
    rw[<- h];exact (@Ks t0 _ _ ((@om t0 l).erase _) ((@C4 t0 l).sublist List.erase_sublist)).symm
def yS:oEq (.str "set") (.str "shunt")=some (.bool false):=by
 rw[cL (a6 "set") (a6 "shunt")];simp[rK]
def y1:oEq (.str "set") (.str "free")=some (.bool false):=by
 rw[cL (a6 "set") (a6 "free")];simp[qx]
def yR:oEq (.str "set") (.str "unset")=some (.bool false):=by
 rw[cL (a6 "set") (a6 "unset")];simp[vi]
def yv:oEq (.str "unset") (.str "shunt")=some (.bool false):=by
 rw[cL (a6 "unset") (a6 "shunt")];simp[rG]
def yH:oEq (.str "unset") (.str "free")=some (.bool false):=by
 rw[cL (a6 "unset") (a6 "free")];simp[qv]
def yu:oEq (.str "unset") (.str "unset")=some (.bool true):=by
 rw[cL (a6 "unset") (a6 "unset")];simp
def yx:oEq (.str "shunt") (.str "shunt")=some (.bool true):=by
 rw[cL (a6 "shunt") (a6 "shunt")];simp
def yI:oEq (.str "shunt") (.str "free")=some (.bool false):=by
 rw[cL (a6 "shunt") (a6 "free")];simp[vf]
def yw:oEq (.str "shunt") (.str "unset")=some (.bool false):=by
 rw[cL (a6 "shunt") (a6 "unset")];simp[pk]
def yK:oEq (.str "free") (.str "shunt")=some (.bool false):=by
 rw[cL (a6 "free") (a6 "shunt")];simp[oj]
def yT:oEq (.str "free") (.str "free")=some (.bool true):=by
 rw[cL (a6 "free") (a6 "free")];simp
def yJ:oEq (.str "free") (.str "unset")=some (.bool false):=by
 rw[cL (a6 "free") (a6 "unset")];simp[oi]
def ac3(c:aG)(l:List Str)(x:Str):(bP c l).set 4 (.own (l.map .str++[.str x]))=bP c (l++[x]):=by simp[bP]
def aha(p:aU)(c:aG)(l:List Str)(w d:Str)(z:Option Str)(h:a4 p c)(aC:Wp p)(aq:qc p d z c)(av:eD l=c.bU)(aR:c.told.length+60<big):
  ow [.ab (b8 p),.obj .cN 1 (bP c l),.ab (.str d),.ab (dQ z),.ab (.str w)]=some (.none,bP (d2 p w d z c) (oR d z l)):=by
 have aw:=CL av;have ll:l.length<=40:=by
  have:=h.BL;rw[<- av,(@om t0 l).length_eq] at this;exact this
 have nc:∀d:Str,cz d->dj false (.str d) (.tuple [.str "shunt",.str "free"])=some (.bool (decide (d="shunt"\/d="free"))):=λd hd=>by
  have:=qB false (n:=d) (ns:=["shunt","free"]) hd (by
   intro k aH;simp at aH;rcases aH with rfl|rfl
   ·exact a6 "shunt"
   ·exact a6 "free")
  simpa using this
 rcases aq with rfl|rfl|⟨rfl,x,rfl,hx⟩|⟨rfl,x,rfl,hx⟩
 ·have m8:=nc "set" (a6 "set");simp only[rK,qx,or_self,decide_false] at m8;have cC:=oq {c with c6:=0} l "set" w (by show c.told.length<big;omega);have jR:a4 p (tell "set" (some w) {c with bN:=[],c6:=0,mode:="leaving",left:=p.leave}):=(h.xS p.leave).tell _ _;have e7:bP {tell "set" (some w) {c with c6:=0} with bN:=[],mode:="leaving",left:=p.leave} l=bP (tell "set" (some w) {c with bN:=[],c6:=0,mode:="leaving",left:=p.leave}) l:=rfl;by_cases h0:p.leave=0
  ·have eh:=Rf p (tell "set" (some w) {c with bN:=[],c6:=0,mode:="leaving",left:=p.leave}) l jR aC h0 aw (by simp[tell];omega);simp! [xV,ow,v8,b8,aN,fW,fP,i_,yS,y1,yR,yv,yH,yu,yx,yI,yw,yK,yT,yJ,m8,cC,iV,h0,d2,jh,oR];simp[b8,h0,tell] at eh ⊢;simp! [N_,eh]
  ·have af:¬p.leave<=0:=by
    have:=aC.od.1;omega
   simp! [xV,ow,v8,b8,aN,fW,fP,i_,yS,y1,yR,yv,yH,yu,yx,yI,yw,yK,yT,yJ,m8,cC,iV,h0,af,d2,jh,oR,tell]
 ·have m8:=nc "unset" (a6 "unset");simp only[rG,qv,or_self,decide_false] at m8;have cC:=oq {c with c6:=0} l "unset" w (by show c.told.length<big;omega);simp! [xV,ow,v8,i_,yS,y1,yR,yv,yH,yu,yx,yI,yw,yK,yT,yJ,m8,cC,d2,mY,oR,tell];rfl
 ·have m8:=nc "shunt" (a6 "shunt");simp only[true_or,decide_true] at m8;have cC:=oq c (l++[x]) "shunt" x (by omega);have bW:l.length<16777216:=by omega
  simp! [xV,ow,v8,i_,big,yS,y1,yR,yv,yH,yu,yx,yI,yw,yK,yT,yJ,m8,dQ,bW,ac3,cC,d2,oR];rfl
 ·have m8:=nc "free" (a6 "free");simp only[or_true,decide_true] at m8;have kb:x∈l:=(aw x).mpr hx;have cC:=oq c (l.erase x) "free" x (by omega);simp! [xV,ow,v8,i_,yS,y1,yR,yv,yH,yu,yx,yI,yw,yK,yT,yJ,m8,dQ,rp,vn,kb,cC,d2,oR];rfl
def aeo{l:List Str}(h:l.length<64):zr [.list (l.map .str)]=some (.list ((eD l).map .str)):=by
 cases l with
|nil=>rfl
|cons x l=>
  have e:=vn (x::l);rw[dk] at e;have aS:intsOf (.str x::l.map .str)=none:=rfl;simp only[dk,zr,aS,e];rw[if_pos (by simpa using h)];rfl
def aeA(c:aG)(l:List Str)(av:eD l=c.bU)(aw:l.length<64):rO [.obj .fR 1 (bP c l)]=some (fH c):=by
 have e:=aeo aw;rw[av] at e;simp! [il,rO,Qh,gy,cV,big,e,fH]
theorem Sy{α:Type}(a:α):∀n:Nat,(dW n [a]).flatten=dW n a
|0=>rfl
|n+1=>by rw[qo,ajX,Sy a n,qo];rfl
def QC{x:T}{n:Nat}(h:n<=40):n7 (.list [x]) (.int (n:Nat))=some (.list (dW n x)):=by
 unfold n7;have q:(0:Int)<=(n:Int)/\(n:Int)<1000/\[x].length*((n:Int)).toNat<=big:=by
  simp[big];omega
 show (if (0:Int)<=(n:Int)/\(n:Int)<1000/\[x].length*((n:Int)).toNat<=big then some (.list (dW ((n:Int)).toNat [x]).flatten) else none:Option T)=_
 rw[if_pos q,Int.toNat_natCast,Sy]
def aeB(p:aU)(aq:p.bM.length<=40)(aC:Wp p):vw [b8 p]=some (.obj .own 1 (bP (ja p) [])):=by
 have aD:=aC.cl;have bg:=QC (x:=.str "shut") aq;have b7:=QC (x:=.int 0) aD;have jN:(p.bM.map λz=>(iU ("shut":Str):T))=dW p.bM.length (.str "shut"):=List.map_const' ..;have lP:(p.codes.map λz=>(PyData.int 0:T))=dW p.codes.length (.int 0):=List.map_const' ..;have e7:bP (ja p) []=[.ab (.str "off"),.ab (.int 0),.ab .none,.own (dW p.bM.length (.str "shut")),.own [],.ab (.int 0),.own [],.ab (.int 0),.ab (.int 0),.own (dW p.codes.length (.int 0)),.ab (.int 0),.own []]:=by
  simp[bP,ja,dQ,lp,jN,lP]
 rw[e7];simp! [n',vw,Ko,oY,pT,xC,tV,th,xH,hS,big,b8,bg,b7]
def tk(p:aU):Nat->aG->aG
|0,c=>c
|n+1,c=>tk p n (cE p 1 c)
theorem Sm(p:aU):∀(n:Nat) (c:aG),(ny c->1<=c.left)->tk p (n+1) c=cE p ((n+1:Nat):Int) c
|0,c,_=>rfl
|n+1,c,h=>by
  show tk p (n+1) (cE p 1 c)=_
  rw[Sm p n (cE p 1 c) (ad3 p c h 1),aeY p c h (by omega) (by omega)];congr 1;omega
def O2(p:aU)(n:Int)(c:aG):(cE p n c).bU=c.bU:=by
 unfold cE;split
 ·rfl
 ·split
  ·exact (aj' p (eC c.left c)).2.2.2.1
  ·rfl
def z4:bu:=(cq (dz 1 zg [(aL 0)] 1 []))
theorem PM(p:aU)(l:List Str)(aC:Wp p)(hd:eA p)(e:Option aM):∀(ts:List T) (c:aG) (s3:Option aM),a4 p c->cT c->(∀x,x∈l <-> x∈c.bU)->c.told.length+50*ts.length+50<big ->
  ∃t3,forL (bH 3) z4 ts (cO p c l [e,s3])=some (.bY (cO p (tk p ts.length c) l [e,t3]))
| [],c,s3,_,_,_,_=>⟨s3,rfl⟩
|t::ts,c,s3,h,a5,aw,aR=>by
  have cC:=afl p c l h aC a5 aw (by omega);have tt:=Pk h 1;obtain⟨t3,b2⟩:=PM p l aC hd e ts (cE p 1 c) (some (.ab t)) (h.cE 1) (a5.cE hd 1) (λx=>by rw[O2];exact aw x) (by simp at aR;omega);refine⟨t3,?_⟩;rw[forL];have s1:z4 (cO p c l [e,some (.ab t)])=some (.bY (cO p (cE p 1 c) l [e,some (.ab t)])):=by
   simp! [il,z4,cC]
  show Option.bind (z4 (cO p c l [e,some (.ab t)])) _=_
  rw[s1,dh];exact b2
theorem QL{f:Str}:∀(bc:List eP) (n:Nat),(bc.map (·.cS)).Nodup->(bc.find? (λk=>decide (k.cS=f))=none/\(bc.zipIdx n).filter (λq=>decide (q.1.cS=f))=[])\/∃k i,bc.find? (λk=>decide (k.cS=f))=some k/\bc[i]?=some k/\(bc.zipIdx n).filter (λq=>decide (q.1.cS=f))=[(k,n+i)]
| [],n,_=>.inl ⟨rfl,rfl⟩
|x::bc,n,aW=>by
  have gG:(x.cS::bc.map (·.cS)).Nodup:=aW;obtain⟨gQ,gF⟩:=dX.mp gG;by_cases e:x.cS=f
  ·refine .inr ⟨x,0,by rw[l1,decide_eq_true e],rfl,?_⟩
   have h0:(bc.zipIdx (n+1)).filter (λq=>decide (q.1.cS=f))=[]:=by
    rw[List.filter_eq_nil_iff];intro q bt;simp only[decide_eq_true_eq];intro z;obtain⟨k,i⟩:=q;have:=List.mem_zipIdx bt;have aH:k∈bc:=by
     rw[this.2.2];exact List.getElem_mem _
    exact gQ (dm.mpr ⟨k,aH,z.trans e.symm⟩)
   rw[List.zipIdx_cons,List.filter_cons,if_pos (decide_eq_true e),h0];rfl
  ·rcases QL bc (n+1) gF with ⟨af,ak⟩|⟨k,i,af,ak,bA⟩
   ·refine .inl ⟨by rw[l1,decide_eq_false e];exact af,?_⟩
    rw[List.zipIdx_cons,List.filter_cons,if_neg (by simpa using e),ak]
   ·refine .inr ⟨k,i+1,by rw[l1,decide_eq_false e];exact af,by simpa using ak,?_⟩
    rw[List.zipIdx_cons,List.filter_cons,if_neg (by simpa using e),bA];congr 2;omega
def places_eq(p:aU)(c:aG)(f:Str)(s1 s3 s4 s5 dK cG cY dV ej ek eT:Option aM)(h:a4 p c)(aC:Wp p)(hf:cz f):
  (comp 2 [2] (jY (j0 (ag aN (nm 0) (aa (.int 1))))) (di [(bH 0),(bH 1)]) (a0 (ag oEq (ag aN (nm 1) (aa (.int 0))) (nm 2))) (aL 0)) [some (.ab (b8 p)),s1,some (.ab (.str f)),s3,s4,s5,dK,cG,cY,dV,ej,ek,eT]=some (.list (((p.codes.zipIdx 0).filter (λq=>decide (q.1.cS=f))).map λq=>.int (q.2:Nat))):=by
 have aD:=aC.cl;have cC:((p.codes.map dC).zipIdx 0).map (λq=>(PyData.tuple [.int q.2,q.1]:T))=(p.codes.zipIdx 0).map λq=>.tuple [.int (q.2:Nat),dC q.1]:=by
  rw[List.zipIdx_map,mF];rfl
 have eh:=Rp (enc:=λq:eP×Nat=>.tuple [.int (q.2:Nat),dC q.1]) (x:=λq=>.int (q.2:Nat)) (y:=λq=>dC q.1) (g:=λq=>.int (q.2:Nat)) (q:=λq=>decide (q.1.cS=f)) (cc:=a0 (ag oEq (ag aN (nm 1) (aa (.int 0))) (nm 2))) (fl:=aL 0) (caps:=[some (.ab (.str f))]) (λ_=>rfl) (p.codes.zipIdx 0) none none (by
  intro a ax;have aH:a.1∈p.codes:=by
   have:=List.mem_zipIdx (x:=a.1) (i:=a.2) ax;rw[this.2.2];exact List.getElem_mem _
  exact⟨gz (cL (h.eg a.1 aH).1 hf),λ_=>rfl⟩)
 unfold comp;rw[show jY (j0 (ag aN (nm 0) (aa (.int 1)))) [some (.ab (b8 p)),s1,some (.ab (.str f)),s3,s4,s5,dK,cG,cY,dV,ej,ek,eT]=some (((p.codes.map dC).zipIdx 0).map λq=>(PyData.tuple [.int q.2,q.1]:T)) from rfl,dh,if_pos (by simp[big];omega),cC];show (fS _ _ _ _ [none,none,some (.ab (.str f))]).map _=_;rw[eh];rfl
theorem Pz:∀{l:List (Str×Int)} {i:Nat} {z:Str} {w:Int},(l.map (·.1)).Nodup->l[i]?=some (z,w)->l.lookup z=some w
| [],_,_,_,_,e=>by simp at e
|x::l,0,z,w,_,e=>by
  simp at e;subst e;simp[iT]
|x::l,i+1,z,w,aW,e=>by
  have gG:(x.1::l.map (·.1)).Nodup:=aW;have ne:z≠x.1:=λq=>by
   have:(z,w)∈l:=ko (by simpa using e);exact (dX.mp gG).1 (dm.mpr ⟨_,this,q⟩)
  obtain⟨a,b⟩:=x;have ae:(z==a)=false:=beq_eq_false_iff_ne.mpr ne;simp only[iT,ae];exact Pz (i:=i) (dX.mp gG).2 (by simpa using e)
def QV{p:aU}{c:aG}(h:a4 p c)(aC:Wp p){i:Nat}{k:eP}(e:p.codes[i]?=some k):c.used[i]?=some (k.cS,qG c k.cS):=by
 have af:(c.used.map (·.1))[i]?=some k.cS:=by rw[h.us,hq,e];rfl
 rw[hq] at af;cases a9:c.used[i]? with
|none=>rw[a9] at af;cases af
|some y=>
  rw[a9] at af;obtain⟨a,b⟩:=y;have ax:a=k.cS:=by simpa using af
  subst ax;have aW:(c.used.map (·.1)).Nodup:=by rw[h.us];exact aC.cd
  unfold qG;rw[Pz aW a9];rfl
def R8{xs:List T}{i:Nat}{t:T}(e:xs[i]?=some t):fW xs (i:Nat)=some t:=by
 have aw:i<xs.length:=(fC.mp e).1;unfold fW;rw[fP,if_pos (by omega),if_pos (by omega),dh,Int.toNat_natCast];exact e
def Ri{p:aU}{c:aG}(h:a4 p c)(aC:Wp p){i:Nat}{k:eP}(e:p.codes[i]?=some k):aN (.list (c.used.map λu=>.int u.2)) (.int (i:Nat))=some (.int (qG c k.cS)):=
 R8 (by rw[hq,QV h aC e];rfl)
def Rk{p:aU}{i:Nat}{k:eP}(e:p.codes[i]?=some k):aN (.tuple (p.codes.map dC)) (.int (i:Nat))=some (dC k):=R8 (by rw[hq,e];rfl)
noncomputable def z7:e_:=(eY (a0 (ag oEq (ag aN (ag aN (ag aN (nm 2) (aa (.int 1))) (nm 0)) (aa (.int 3))) (aa (.int 0)))) (a0 (ag oLt (ag aN (fld 1 1 9) (nm 0)) (ag aN (ag aN (ag aN (nm 2) (aa (.int 1))) (nm 0)) (aa (.int 3))))))
def ajc(p:aU)(c:aG)(l:List Str)(m:hg)(h:a4 p c)(aC:Wp p){i:Nat}{k:eP}(e:p.codes[i]?=some k):z7 [some (.ab (.int (i:Nat))),some (.obj m 1 (bP c l)),some (.ab (b8 p))]=some (!ks k c):=by
 have cC:aN (b8 p) (.int 1)=some (.tuple (p.codes.map dC)):=rfl;have eh:=Rk e;have ff:aN (dC k) (.int 3)=some (.int k.uses):=rfl;have lJ:=Ri h aC e;have c3:(ag aN (ag aN (ag aN (nm 2) (aa (.int 1))) (nm 0)) (aa (.int 3))) [some (.ab (.int (i:Nat))),some (.obj m 1 (bP c l)),some (.ab (b8 p))]=some (.int k.uses):=by
  simp only[ag,nm,aa,oh,o_,dh,cC,eh,ff]
 have dF:(ag aN (fld 1 1 9) (nm 0)) [some (.ab (.int (i:Nat))),some (.obj m 1 (bP c l)),some (.ab (b8 p))]=some (.int (qG c k.cS)):=by
  simp only[ag,nm,fld,fh,oh,o_,dh,if_true,o5,lJ]
 have oG:(a0 (ag oEq (ag aN (ag aN (ag aN (nm 2) (aa (.int 1))) (nm 0)) (aa (.int 3))) (aa (.int 0)))) [some (.ab (.int (i:Nat))),some (.obj m 1 (bP c l)),some (.ab (b8 p))]=some (decide (k.uses=0)):=by
  refine gz ?_
  unfold ag;unfold ag at c3;rw[c3];exact iV _ _
 have Ft:(a0 (ag oLt (ag aN (fld 1 1 9) (nm 0)) (ag aN (ag aN (ag aN (nm 2) (aa (.int 1))) (nm 0)) (aa (.int 3))))) [some (.ab (.int (i:Nat))),some (.obj m 1 (bP c l)),some (.ab (b8 p))]=some (decide (qG c k.cS<k.uses)):=by
  refine gz ?_
  show (Option.bind _ λx=>Option.bind _ λy=>oLt x y)=_
  rw[dF,c3];rfl
 rw[z7,cv.IM oG λ_=>Ft];unfold ks;by_cases af:k.uses=0
 ·simp[af]
 ·by_cases ak:qG c k.cS<k.uses
  ·simp[af,ak]
   try omega
  ·simp[af,ak]
   try omega
def agX(p:aU)(c:aG)(l:List Str)(h:a4 p c)(aC:Wp p)(is:List (eP×Nat))(aS:∀q∈is,p.codes[q.2]?=some q.1)(s2 s3 s4 dK cG cY dV ej ek eT:Option aM)(aw:is.length<=40):
  (comp 1 [1,0] (dv (aL 5)) (bH 0) z7 (aL 0)) (cO p c l [s2,s3,s4,some (.ab (.list (is.map λq=>.int (q.2:Nat)))),dK,cG,cY,dV,ej,ek,eT])=some (.list ((is.filter λq=>!ks q.1 c).map λq=>.int (q.2:Nat))):=by
 have eh:=t2 (cc:=z7) (fl:=aL 0) (caps:=[some (.obj .cN 1 (bP c l)),some (.ab (b8 p))]) (λq:eP×Nat=>.int (q.2:Nat)) (λq=>!ks q.1 c) (λq=>.int (q.2:Nat)) is none λa ax=>⟨ajc p c l .cN h aC (aS a ax),λ_=>rfl⟩;unfold comp;rw[show dv (aL 5) (cO p c l [s2,s3,s4,some (.ab (.list (is.map λq=>.int (q.2:Nat)))),dK,cG,cY,dV,ej,ek,eT])=some (is.map λq=>.int (q.2:Nat)) from rfl,dh,if_pos (by simp[big];omega)];show (fS _ _ _ _ [none,some (.obj .cN 1 (bP c l)),some (.ab (b8 p))]).map _=_;rw[eh];rfl
noncomputable def zP(c:aG)(zs:List (Str×Str)):List Str:=((zs.filter λz=>decide (z.2∈(["day","once"]:List Str))).map (·.1)).filter λz=>decide (dn c z≠"shut") && !decide (z∈c.bU)
noncomputable def wH:e_:=(eb (a0 (ag (dj false) (nm 11) (b1 [(aa (.str "once")),(aa (.str "day"))]))) (eb (a0 (ag fQ (nm 12) (aa (.str "shut")))) (a0 (ag (dj true) (nm 10) (fld 1 1 4)))))
def ajd(p:aU)(c:aG)(l:List Str)(h:a4 p c)(aw:∀x,x∈l <-> x∈c.bU){z:Str×Str}(aq:z∈p.bM)(s0 s2 s3 s4 s5 dK cG cY dV:Option aM):
  wH [s0,some (.obj .cN 1 (bP c l)),s2,s3,s4,s5,dK,cG,cY,dV,some (.ab (.str z.1)),some (.ab (.str z.2)),some (.ab (.str (dn c z.1)))]=some (decide (z.2∈(["day","once"]:List Str)) && (!decide (dn c z.1="shut") && !decide (z.1∈c.bU))):=by
 have p9:=h.zn z aq;have aO:dj false (.str z.2) (.tuple [.str "once",.str "day"])=some (.bool (decide (z.2∈(["day","once"]:List Str)))):=by
  have:=qB false (n:=z.2) (ns:=["once","day"]) p9.2 (by
   intro k aH;simp at aH;rcases aH with rfl|rfl
   ·exact a6 "once"
   ·exact a6 "day")
  simp only[dk,jS,jU,if_false] at this;rw[this];congr 2;simp only[cZ,kp,or_false];exact decide_eq_decide.mpr Or.comm
 have gI:dj true (.str z.1) (.list (l.map .str))=some (.bool (!decide (z.1∈c.bU))):=by
  rw[pA true p9.1 λx hx=>h.oT x ((aw x).mp hx)];simp[aw]
 exact cv.wB (gz aO) λ_=>cv.wB (gz (ly (h.rm z.1) (a6 "shut"))) λ_=>gz gI
def aeQ(c:aG)(z:Str×Str)(zs:List (Str×Str)):zP c (z::zs)=(if (decide (z.2∈(["day","once"]:List Str)) && (!decide (dn c z.1="shut") && !decide (z.1∈c.bU)))=true then [z.1] else [])++zP c zs:=by
 unfold zP;by_cases af:z.2∈(["day","once"]:List Str)
 ·rw[List.filter_cons,if_pos (decide_eq_true af),decide_eq_true af,dk,List.filter_cons];by_cases ak:dn c z.1="shut" <;> by_cases bA:z.1∈c.bU <;> simp[ak,bA]
 ·rw[List.filter_cons,if_neg (by simpa using af),decide_eq_false af];rfl
def uk:bu:=(ij (dz 1 e2 [] 1 [(aa (.str "open")),(aL 10)]))
theorem PU(p:aU)(c:aG)(l:List Str)(h:a4 p c)(aw:∀x,x∈l <-> x∈c.bU)(aR:c.told.length<big)(s0 s2 s3 s4 s5 dK cG cY dV:Option aM):∀(zs:List (Str×Str)) (ej ek eT:Option aM),(∀z∈zs,z∈p.bM) ->
  ∃xZ oZ ru,qJ (di [(di [(bH 10),(bH 11)]),(bH 12)]) wH uk (zs.map λz=>.tuple [dD z,.str (dn c z.1)]) [s0,some (.obj .cN 1 (bP c l)),s2,s3,s4,s5,dK,cG,cY,dV,ej,ek,eT] =
   (match zP c zs with
    | []=>some (.bY [s0,some (.obj .cN 1 (bP c l)),s2,s3,s4,s5,dK,cG,cY,dV,xZ,oZ,ru])
    |x::_=>some (.gh .none [s0,some (.obj .cN 1 (bP (tell "open" (some x) c) l)),s2,s3,s4,s5,dK,cG,cY,dV,xZ,oZ,ru]))
| [],ej,ek,eT,_=>⟨ej,ek,eT,rfl⟩
|z::zs,ej,ek,eT,aq=>by
  have cC:=ajd p c l h aw (aq z e8) s0 s2 s3 s4 s5 dK cG cY dV;have bp:=oq c l "open" z.1 aR;obtain⟨xZ,oZ,ru,b2⟩:=PU p c l h aw aR s0 s2 s3 s4 s5 dK cG cY dV zs (some (.ab (.str z.1))) (some (.ab (.str z.2))) (some (.ab (.str (dn c z.1)))) λy bL=>aq y (dM _ bL);have n_:di [(di [(bH 10),(bH 11)]),(bH 12)] (.tuple [dD z,.str (dn c z.1)]) [s0,some (.obj .cN 1 (bP c l)),s2,s3,s4,s5,dK,cG,cY,dV,ej,ek,eT]=some [s0,some (.obj .cN 1 (bP c l)),s2,s3,s4,s5,dK,cG,cY,dV,some (.ab (.str z.1)),some (.ab (.str z.2)),some (.ab (.str (dn c z.1)))]:=rfl;have gR:uk [s0,some (.obj .cN 1 (bP c l)),s2,s3,s4,s5,dK,cG,cY,dV,some (.ab (.str z.1)),some (.ab (.str z.2)),some (.ab (.str (dn c z.1)))]=some (.gh .none [s0,some (.obj .cN 1 (bP (tell "open" (some z.1) c) l)),s2,s3,s4,s5,dK,cG,cY,dV,some (.ab (.str z.1)),some (.ab (.str z.2)),some (.ab (.str (dn c z.1)))]):=by
   simp! [il,uk,bp]
  rw[aeQ];cases ae:(decide (z.2∈(["day","once"]:List Str)) && (!decide (dn c z.1="shut") && !decide (z.1∈c.bU))) with
  |true=>
   rw[ae] at cC;refine⟨some (.ab (.str z.1)),some (.ab (.str z.2)),some (.ab (.str (dn c z.1))),?_⟩;rw[dk,qJ,n_,dh,cC,dh,if_pos rfl,gR,dh,if_pos rfl];rfl
  |false=>
   rw[ae] at cC;refine⟨xZ,oZ,ru,?_⟩;rw[dk,qJ,n_,dh,cC,dh,if_neg l2,if_neg l2,x_];exact b2
def aeT{p:aU}{c:aG}(h:a4 p c)(aC:Wp p):List.zipWith (λx y=>(PyData.tuple [x,y]:T)) (p.bM.map dD) (c.lines.map λz=>.str z.2)=p.bM.map λz=>.tuple [dD z,.str (dn c z.1)]:=by
 have hlen:c.lines.length=p.bM.length:=by
  have:=congrArg List.length h.ln;simpa using this
 apply List.ext_getElem?;intro i;rw[List.getElem?_zipWith,hq,hq,hq];cases e:p.bM[i]? with
|none=>rfl
|some z=>
  rw[Dm h aC e];rfl
theorem QY:∀{l:List (Str×Int)} {i:Nat} {f:Str} {n:Int},(l.map (·.1)).Nodup->l[i]?=some (f,n)->gZ l f=l.set i (f,n+1)
| [],_,_,_,_,e=>by simp at e
|x::l,0,f,n,aW,e=>by
  simp at e;subst e;have gG:(f::l.map (·.1)).Nodup:=aW;have a8:∀{l:List (Str×Int)},f∉l.map (·.1)->gZ l f=l:=by
   intro l
   induction l with
   |nil=>intro _;rfl
   |cons x l b2=>
    intro h;have af:x.1≠f:=λq=>h (by simp[q]);have ak:f∉l.map (·.1):=λq=>h (by simp[dm] at q ⊢;exact .inr q);show (if x.1=f then (f,x.2+1) else x)::gZ l f=_;rw[if_neg af,b2 ak]
  show (if f=f then (f,n+1) else (f,n))::gZ l f=_
  rw[if_pos rfl,a8 (dX.mp gG).1];rfl
|x::l,i+1,f,n,aW,e=>by
  have gG:(x.1::l.map (·.1)).Nodup:=aW;have ne:x.1≠f:=λq=>by
   have:(f,n)∈l:=ko (by simpa using e);exact (dX.mp gG).1 (dm.mpr ⟨_,this,q.symm⟩)
  show (if x.1=f then (f,x.2+1) else x)::gZ l f=_
  rw[if_neg ne,QY (dX.mp gG).2 (show l[i]?=some (f,n) by simpa using e)];rfl
noncomputable def uo:bu:=(seq (cq (dz 1 e2 [] 1 [(aa (.str "wrong")),(aa .none)])) (seq (cy 1 1 7 (ag cV (fld 1 1 7) (aa (.int 1)))) (seq (iff (a0 (ag oEq (fld 1 1 7) (aa (.int 3)))) (seq (cy 1 1 7 (aa (.int 0))) (seq (cy 1 1 8 (aa (.int 90))) (seq (cy 1 1 5 (ag aN (ag aN (nm 0) (aa (.int 2))) (aa (.int 2)))) (cq (dz 1 e2 [] 1 [(aa (.str "attack")),(aa .none)]))))) skip) (g7 (aa .none)))))
def aje(p:aU)(c:aG)(l:List Str)(a5:cT c)(aR:c.told.length+2<big)(r:Ev):uo (some (.ab (b8 p))::some (.obj .cN 1 (bP c l))::r)=some (.gh .none (some (.ab (b8 p))::some (.obj .cN 1 (bP (fc p c) l))::r)):=by
 have cC:=C5 c l "wrong" (by omega);have aS:aN (b8 p) (.int 2)=some (.tuple [.int p.leave,.int p.gb,.int p.loud]):=rfl;have bw:aN (.tuple [.int p.leave,.int p.gb,.int p.loud]) (.int 2)=some (.int p.loud):=rfl;have e7:bP {tell "wrong" none c with tries:=(tell "wrong" none c).tries+1} l=bP (iS c) l:=rfl;have hU:=a5.hU;unfold fc;by_cases bA:c.tries+1=3
 ·have ff:=C5 (hA p {iS c with tries:=0,locked:=90}) l "attack" (by simp[hA,iS,tell];omega);rw[if_pos (by omega)];have t3:(tell "wrong" none c).tries+1=3:=bA;have ec:bP (hA p {iS c with tries:=0,locked:=90}) l=bP {tell "wrong" none c with tries:=0,locked:=90,c6:=p.loud} l:=rfl;rw[ec] at ff;simp! [il,uo,cV,cC,iV,t3,aS,bw];simp[ff]
  try rfl
 ·rw[if_neg (by omega)];have t3:¬(tell "wrong" none c).tries+1=3:=bA;simp! [il,uo,cV,cC,iV,t3]
  try rfl
def ady(p:aU)(c:aG)(l:List Str)(n:Int)(h:a4 p c)(aC:Wp p)(hd:eA p)(a5:cT c)(aw:∀x,x∈l <-> x∈c.bU)(af:1<=n)(ak:n<=1000)(aR:c.told.length+60000<big):aj6 [.ab (b8 p),.obj .cN 1 (bP c l),.ab (.tuple [.str "ticks",.int n])]=some (.none,bP (cE p n c) l):=by
 have aO:oEq (.str "ticks") (.str "line")=some (.bool false):=by
  rw[cL (a6 "ticks") (a6 "line")];simp[vd]
 have bb:oEq (.str "ticks") (.str "code")=some (.bool false):=by
  rw[cL (a6 "ticks") (a6 "code")];simp[ve]
 have ar:(jo 0 n).length=n.toNat:=by simp[jo]
 obtain⟨t3,n5⟩:=PM p l aC hd (some (.ab (.tuple [.str "ticks",.int n]))) (jo 0 n) c none h a5 aw (by rw[ar];omega);have bp:tk p (jo 0 n).length c=cE p n c:=by
  rw[ar];obtain⟨m,hm⟩:∃m:Nat,n.toNat=m+1:=⟨n.toNat - 1,by omega⟩;rw[hm,Sm p m c λt=>(a5.t1 t).1];congr 1;omega
 rw[bp] at n5;have AW:qC n=true:=by simp[qC];omega
 have it:l9 (ag aN (nm 2) (aa (.int 1))) (cO p c l [some (.ab (.tuple [.str "ticks",.int n])),none])=some (jo 0 n):=by
  show (if qC n=true then some (jo 0 n) else none)=_
  rw[if_pos AW]
 have c3:(a0 (ag oEq (ag aN (nm 2) (aa (.int 0))) (aa (.str "line")))) (cO p c l [some (.ab (.tuple [.str "ticks",.int n])),none])=some false:=gz aO;have dF:(a0 (ag oEq (ag aN (nm 2) (aa (.int 0))) (aa (.str "code")))) (cO p c l [some (.ab (.tuple [.str "ticks",.int n])),none])=some false:=gz bb;have gR:pn (cO p c l [some (.ab (.tuple [.str "ticks",.int n])),none])=some (.bY (cO p (cE p n c) l [some (.ab (.tuple [.str "ticks",.int n])),t3])):=by
  unfold pn;rw[iff_eq c3,if_neg l2,iff_eq dF,if_neg l2];unfold g4;rw[it,dh];exact n5
 show (pn (cO p c l [some (.ab (.tuple [.str "ticks",.int n])),none])).bind _=_
 rw[gR];rfl
end je
section
namespace je
open D a'
open PySem hiding run fresh code
abbrev ev(p:aU)(c:aG)(l:List Str)(f d:Str)(z:Option Str)(r:Ev):Ev:=some (.ab (b8 p))::some (.obj .cN 1 (bP c l))::some (.ab (.str f))::some (.ab (.str d))::some (.ab (dQ z))::r
abbrev dZ(i:Nat)(k:eP)(r:Ev):Ev:=some (.ab (.list [.int (i:Nat)]))::some (.ab (.str k.ft))::r
noncomputable def Ends(p:aU)(c:aG)(o:Option Out):Prop:=∃eX r,o=some (.gh .none (some (.ab (b8 p))::some (.obj .cN 1 (bP c eX))::r))/\eD eX=c.bU
def Ends.of{p:aU}{c:aG}{l:List Str}{r:Ev}{o:Option Out}(h:o=some (.gh .none (some (.ab (b8 p))::some (.obj .cN 1 (bP c l))::r)))(av:eD l=c.bU):Ends p c o:=⟨l,r,h,av⟩
def QZ{a b:bu}{ε ε':Ev}{t:T}(h:a ε=some (.gh t ε')):seq a b ε=some (.gh t ε'):=by
 unfold seq;rw[h];rfl
def Dn{a b:bu}{q:e_}{ε ε':Ev}{t:T}(bt:q ε=some true)(h:a ε=some (.gh t ε')):seq (iff q a skip) b ε=some (.gh t ε'):=QZ (by rw[iff_eq bt,if_pos rfl,h])
noncomputable def Oi:bu:=(seq (qM 1 1 9 (ag aN (nm 5) (aa (.int 0))) (ag cV (ag aN (fld 1 1 9) (ag aN (nm 5) (aa (.int 0)))) (aa (.int 1)))) (seq (cq (dz 1 ow [(aL 0)] 1 [(aL 3),(aL 4),(aL 6)])) (g7 (aa .none))))
def RD(p:aU)(c:aG)(l:List Str)(k:eP)(i:Nat)(f d:Str)(z:Option Str)(h:a4 p c)(aC:Wp p)(e:p.codes[i]?=some k)(aq:qc p d z c)(av:eD l=c.bU)(aR:c.told.length+60<big)(r:Ev):
  Ends p (d2 p k.ft d z {c with used:=gZ c.used k.cS}) (Oi (ev p c l f d z (dZ i k r))):=by
 have u:=QV h aC e;have e4:=Ri h aC e;have aW:(c.used.map (·.1)).Nodup:=by rw[h.us];exact aC.cd
 have ff:=QY aW u;have XJ:i<c.used.length:=(fC.mp u).1;have jR:=h.add k.cS;have e3:=aha p {c with used:=gZ c.used k.cS} l k.ft d z jR aC aq av aR;have xk:aN (.list [.int (i:Nat)]) (.int 0)=some (.int (i:Nat)):=rfl;have q:(0:Int)<=(i:Int)/\((i:Int)).toNat<(c.used.map λu=>(PyData.int u.2:T)).length:=by
  simp;omega
 have lK:(c.used.map λu=>(PyData.int u.2:T)).set i (.int (qG c k.cS+1))=(gZ c.used k.cS).map λu=>.int u.2:=by
  rw[ff,List.map_set]
 have s1:(qM 1 1 9 (ag aN (nm 5) (aa (.int 0))) (ag cV (ag aN (fld 1 1 9) (ag aN (nm 5) (aa (.int 0)))) (aa (.int 1)))) (ev p c l f d z (dZ i k r))=some (.bY (ev p {c with used:=gZ c.used k.cS} l f d z (dZ i k r))):=by
  simp only[qM,ag,aa,aL,nm,fld,kE,fh,dh,oh,o_,if_true,o5,xk,e4,cV,q,and_self,Int.toNat_natCast,lK];simp[f6,fh,aj7,yd];omega
 have s2:(cq (dz 1 ow [(aL 0)] 1 [(aL 3),(aL 4),(aL 6)])) (ev p {c with used:=gZ c.used k.cS} l f d z (dZ i k r))=some (.bY (ev p (d2 p k.ft d z {c with used:=gZ c.used k.cS}) (oR d z l) f d z (dZ i k r))):=by
  simp! [il,e3]
 refine⟨oR d z l,_,tS s1 (tS s2 rfl),?_⟩
 exact je.Fv p {c with used:=gZ c.used k.cS} l k.ft d z av
noncomputable def ru:bu:=(seq (iff (a0 (ag oEq (nm 3) (aa (.str "set")))) (wh (wg (dv (ag aN (nm 0) (aa (.int 0)))) (dv (fld 1 1 3))) (di [(di [(bH 10),(bH 11)]),(bH 12)]) wH uk) skip) Oi)
def ah8{p:aU}{c:aG}{d:Str}{z:Option Str}(hd:d="set"\/d="unset"\/d="shunt"\/d="free")(aq:k' p d z)(bj:h1 p d z c=false):qc p d z c:=by
 rcases hd with rfl|rfl|rfl|rfl
 ·exact .inl rfl
 ·exact .inr (.inl rfl)
 ·exact .inr (.inr (.inl ⟨rfl,aq (.inl rfl)⟩))
 ·refine .inr (.inr (.inr ⟨rfl,?_⟩))
  obtain⟨x,rfl,hx⟩:=aq (.inr rfl);refine⟨x,rfl,Classical.byContradiction λa8=>?_⟩;have:h1 p "free" (some x) c=true:=by
   by_cases hm:c.mode="off" <;> simp[h1,oi,oj,a8,hm]
  rw[this] at bj;cases bj
def zd{d:Str}(hd:d="set"\/d="unset"\/d="shunt"\/d="free"):cz d:=by
 rcases hd with rfl|rfl|rfl|rfl
 ·exact a6 "set"
 ·exact a6 "unset"
 ·exact a6 "shunt"
 ·exact a6 "free"
def ahA(p:aU)(c:aG)(l:List Str)(k:eP)(i:Nat)(f d:Str)(z:Option Str)(h:a4 p c)(aC:Wp p)(e:p.codes[i]?=some k)(hd:d="set"\/d="unset"\/d="shunt"\/d="free")(aq:qc p d z c)(av:eD l=c.bU)(aR:c.told.length+60<big)(cG cY dV ej ek eT:Option aM):
  Ends p (if d="set"/\bare p ["day","once"] c≠[] then tell "open" (some ((bare p ["day","once"] c).headD "")) c else d2 p k.ft d z {c with used:=gZ c.used k.cS}) (ru (ev p c l f d z (dZ i k [cG,cY,dV,ej,ek,eT]))):=by
 have aw:=CL av;have iY:(a0 (ag oEq (nm 3) (aa (.str "set")))) (ev p c l f d z (dZ i k [cG,cY,dV,ej,ek,eT]))=some (decide (d="set")):=gz (cL (zd hd) (a6 "set"));unfold ru;by_cases af:d="set"
 ·rw[decide_eq_true af] at iY;obtain⟨xZ,oZ,ajG,n5⟩:=PU p c l h aw (by omega) (some (.ab (b8 p))) (some (.ab (.str f))) (some (.ab (.str d))) (some (.ab (dQ z))) (some (.ab (.list [.int (i:Nat)]))) (some (.ab (.str k.ft))) cG cY dV p.bM ej ek eT λz aq=>aq;have ae:zP c p.bM=bare p ["day","once"] c:=rfl;rw[ae] at n5;have it:(wg (dv (ag aN (nm 0) (aa (.int 0)))) (dv (fld 1 1 3))) (ev p c l f d z (dZ i k [cG,cY,dV,ej,ek,eT]))=some (p.bM.map λz=>.tuple [dD z,.str (dn c z.1)]):=by
   rw[<- aeT h aC];rfl
  have xv:(iff (a0 (ag oEq (nm 3) (aa (.str "set")))) (wh (wg (dv (ag aN (nm 0) (aa (.int 0)))) (dv (fld 1 1 3))) (di [(di [(bH 10),(bH 11)]),(bH 12)]) wH uk) skip) (ev p c l f d z (dZ i k [cG,cY,dV,ej,ek,eT]))=qJ (di [(di [(bH 10),(bH 11)]),(bH 12)]) wH uk (p.bM.map λz=>.tuple [dD z,.str (dn c z.1)]) (ev p c l f d z (dZ i k [cG,cY,dV,ej,ek,eT])):=by
   rw[iff_eq iY,if_pos rfl];unfold wh;rw[it,dh]
  rw[n5] at xv;cases c':bare p ["day","once"] c with
  |nil=>
   rw[c'] at xv;rw[if_neg λq=>q.2 rfl];rw[ajO xv];exact RD p c l k i f d z h aC e aq av aR _
  |cons x xs=>
   rw[c'] at xv;rw[if_pos ⟨af,by simp⟩];exact Ends.of (QZ xv) av
 ·rw[decide_eq_false af] at iY;rw[if_neg λq=>af q.1];exact vz iY rfl▸RD p c l k i f d z h aC e aq av aR _
noncomputable def nC(z:Option Str)(c:aG):Bool:=match z with
|none=>false
|some x=>decide (x∈c.bU)
def ah9{p:aU}{c:aG}{d:Str}{z:Option Str}(hd:d="set"\/d="unset"\/d="shunt"\/d="free")(aq:k' p d z):
  (((!decide (d="unset")) && !decide (c.mode="off")) || ((decide (d="shunt") && (nC z c || decide (kindOf p (z.getD "")="day"))) || (decide (d="free") && !nC z c)))=h1 p d z c:=by
 unfold h1;rcases hd with rfl|rfl|rfl|rfl
 ·by_cases hm:c.mode="off" <;> simp! [xW,hm]
 ·simp! [xW]
 ·obtain⟨x,rfl,hx⟩:=aq (.inl rfl);by_cases hm:c.mode="off" <;> simp! [xW,hm,nC,Bool.or_comm]
 ·obtain⟨x,rfl,hx⟩:=aq (.inr rfl);by_cases hm:c.mode="off" <;> simp! [xW,hm,nC]
noncomputable def odd(p:aU)(c:aG)(d:Str)(z:Option Str):Bool:=(decide (d="shunt") && (nC z c || decide (kindOf p (z.getD "")="day"))) || (decide (d="free") && !nC z c)
noncomputable def oZ:bu:=(seq (iff (eY (eb (a0 (ag fQ (nm 3) (aa (.str "unset")))) (a0 (ag fQ (fld 1 1 0) (aa (.str "off"))))) (a0 (nm 9))) (ij (dz 1 e2 [] 1 [(aa (.str "no")),(aL 6)])) skip) ru)
def ahB(p:aU)(c:aG)(l:List Str)(k:eP)(i:Nat)(f d:Str)(z:Option Str)(h:a4 p c)(aC:Wp p)(e:p.codes[i]?=some k)(hd:d="set"\/d="unset"\/d="shunt"\/d="free")(aq:k' p d z)(av:eD l=c.bU)(aR:c.told.length+60<big)(cG cY ej ek eT:Option aM):
  Ends p (if h1 p d z c then tell "no" (some k.ft) c else if d="set"/\bare p ["day","once"] c≠[] then tell "open" (some ((bare p ["day","once"] c).headD "")) c else d2 p k.ft d z {c with used:=gZ c.used k.cS}) (oZ (ev p c l f d z (dZ i k [cG,cY,some (.ab (.bool (odd p c d z))),ej,ek,eT]))):=by
 have iY:(eY (eb (a0 (ag fQ (nm 3) (aa (.str "unset")))) (a0 (ag fQ (fld 1 1 0) (aa (.str "off"))))) (a0 (nm 9))) (ev p c l f d z (dZ i k [cG,cY,some (.ab (.bool (odd p c d z))),ej,ek,eT]))=some (h1 p d z c):=by
  rw[<- ah9 hd aq];exact cv.IM (cv.wB (gz (ly (zd hd) (a6 "unset"))) λ_=>gz (ly h.mo (a6 "off"))) λ_=>gz rfl
 have es:=oq c l "no" k.ft (by omega);unfold oZ;cases bj:h1 p d z c with
|true=>
  rw[bj] at iY;have s1:(ij (dz 1 e2 [] 1 [(aa (.str "no")),(aL 6)])) (ev p c l f d z (dZ i k [cG,cY,some (.ab (.bool (odd p c d z))),ej,ek,eT]))=some (.gh .none (ev p (tell "no" (some k.ft) c) l f d z (dZ i k [cG,cY,some (.ab (.bool (odd p c d z))),ej,ek,eT]))):=by
   simp! [il,es]
  exact Ends.of (Dn iY s1) av
|false=>
  rw[bj] at iY;rw[if_neg l2];exact vz iY rfl▸ahA p c l k i f d z h aC e hd (ah8 hd aq bj) av aR _ _ _ _ _ _
def aht{p:aU}{c:aG}{l:List Str}{z:Option Str}(h:a4 p c)(aw:∀x,x∈l <-> x∈c.bU)(aE:∀x,z=some x->cz x):dj false (dQ z) (.list (l.map .str))=some (.bool (nC z c)):=by
 have b':∀x∈l,cz x:=λx hx=>h.oT x ((aw x).mp hx);cases z with
|some x=>
  show dj false (.str x) (.list (l.map .str))=_
  rw[pA false (aE x rfl) b'];simp[nC,aw]
|none=>
  have a8:mn .none (l.map .str)=false:=by
   unfold mn;rw[List.any_map];simp[hG]
  simp only[dQ,dj,(QF 1).hj,Kc l b',a8];rfl
def aiq{p:aU}{c:aG}{x:Str}(h:a4 p c)(aC:Wp p)(hx:x∈p.bM.map (·.1)):dj false (.tuple [.str x,.str "day"]) (.tuple (p.bM.map dD))=some (.bool (decide (kindOf p x="day"))):=by
 have dT:hj (.tuple [.str x,.str "day"])=true:=(qz (d:=1) λt aR=>by
  simp at aR;rcases aR with rfl|rfl
  ·exact pB _ (h.i2 hx)
  ·exact pB _ (a6 "day")).hj
 have fA:n8 (p.bM.map dD)=true:=by
  have:=zq (d:=2) (ts:=p.bM.map dD) λt aR=>by
   obtain⟨y,bL,rfl⟩:=dm.mp aR;refine qz λt aR=>?_;simp at aR;rcases aR with rfl|rfl
   ·exact pB _ (h.zn y bL).1
   ·exact pB _ (h.zn y bL).2
  unfold n8;rw[this.1,Bool.true_and,decide_eq_true_eq];omega
 have e:=vC p.bM x hx;have hm:mn (.tuple [.str x,.str "day"]) (p.bM.map dD)=decide (kindOf p x="day"):=by
  rw[Bool.eq_iff_iff];unfold mn;rw[List.any_map,List.any_eq_true,decide_eq_true_eq];constructor
  ·rintro⟨y,bL,eQ⟩;have a9:y=(x,("day":Str)):=by
    obtain⟨a,b⟩:=y;simpa [dD,hG,PyData.eqvAll] using eQ
   subst a9;obtain⟨j,bw,pZ⟩:=List.getElem_of_mem bL;have cb:=lookup_at aC.vR (i:=j) (fC.mpr ⟨bw,pZ⟩);have b_:=lookup_at aC.vR e;rw[cb] at b_;exact (en b_).symm
  ·intro fG;refine⟨(x,kindOf p x),ko e,?_⟩;rw[fG];simp[dD,hG,PyData.eqvAll]
 simp only[dj,dT,fA,hm];rfl
noncomputable def x1:bu:=(seq (asg 8 (ag (dj false) (nm 4) (fld 1 1 4))) (seq (asg 9 (i3 (jf (ag oEq (nm 3) (aa (.str "shunt"))) (i3 (aL 8) (ag (dj false) (b1 [(aL 4),(aa (.str "day"))]) (ag aN (nm 0) (aa (.int 0)))))) (jf (ag oEq (nm 3) (aa (.str "free"))) (tc (aL 8))))) oZ))
def aiL(p:aU)(c:aG)(l:List Str)(k:eP)(i:Nat)(f d:Str)(z:Option Str)(h:a4 p c)(aC:Wp p)(e:p.codes[i]?=some k)(hd:d="set"\/d="unset"\/d="shunt"\/d="free")(aq:k' p d z)(aE:∀x,z=some x->cz x)(av:eD l=c.bU)(aR:c.told.length+60<big)(cG cY dV ej ek eT:Option aM):
  Ends p (if h1 p d z c then tell "no" (some k.ft) c else if d="set"/\bare p ["day","once"] c≠[] then tell "open" (some ((bare p ["day","once"] c).headD "")) c else d2 p k.ft d z {c with used:=gZ c.used k.cS}) (x1 (ev p c l f d z (dZ i k [cG,cY,dV,ej,ek,eT]))):=by
 have aw:=CL av;have bg:=ahB p c l k i f d z h aC e hd aq av aR cG (some (.ab (.bool (nC z c)))) ej ek eT;have a1:(ag (dj false) (nm 4) (fld 1 1 4)) (ev p c l f d z (dZ i k [cG,cY,dV,ej,ek,eT]))=some (.bool (nC z c)):=aht h aw aE;have a2:(i3 (jf (ag oEq (nm 3) (aa (.str "shunt"))) (i3 (aL 8) (ag (dj false) (b1 [(aL 4),(aa (.str "day"))]) (ag aN (nm 0) (aa (.int 0)))))) (jf (ag oEq (nm 3) (aa (.str "free"))) (tc (aL 8)))) (ev p c l f d z (dZ i k [cG,some (.ab (.bool (nC z c))),dV,ej,ek,eT]))=some (.bool (odd p c d z)):=by
  refine cv.xG (cv.EE (cL (zd hd) (a6 "shunt")) λq=>cv.xG rfl λ_=>?_) λ_=>cv.EE (cL (zd hd) (a6 "free")) λ_=>cv.Zz rfl
  obtain⟨x,rfl,hx⟩:=aq (.inl (of_decide_eq_true q));have:=aiq h aC hx;simp only[ag,nm,aa,b1,args,aL,dQ,oh,o_,dh,xp];exact this
 have st:x1 (ev p c l f d z (dZ i k [cG,cY,dV,ej,ek,eT]))=oZ (ev p c l f d z (dZ i k [cG,some (.ab (.bool (nC z c))),some (.ab (.bool (odd p c d z))),ej,ek,eT])):=mL a1 (mL a2 rfl);rw[st];exact bg
noncomputable def rv:bu:=(seq (cy 1 1 7 (aa (.int 0))) (seq (hh (di [(bH 6),(bH 7)]) (slice (ag aN (ag aN (nm 0) (aa (.int 1))) (ag aN (nm 5) (aa (.int 0)))) (opt (aa (.int 1))) (opt (aa (.int 3))))) (seq (iff (a0 (ag (dj true) (vK "free" "shunt" (nm 3) (aL 3)) (nm 7))) (ij (dz 1 e2 [] 1 [(aa (.str "denied")),(aL 6)])) skip) x1)))
def aiM(p:aU)(c:aG)(l:List Str)(k:eP)(i:Nat)(f d:Str)(z:Option Str)(h:a4 p c)(aC:Wp p)(e:p.codes[i]?=some k)(hd:d="set"\/d="unset"\/d="shunt"\/d="free")(aq:k' p d z)(aE:∀x,z=some x->cz x)(av:eD l=c.bU)(aR:c.told.length+60<big)(dK cG cY dV ej ek eT:Option aM):
  Ends p (takeRight p k d z {c with tries:=0}) (rv (ev p c l f d z [some (.ab (.list [.int (i:Nat)])),dK,cG,cY,dV,ej,ek,eT])):=by
 have aH:k∈p.codes:=ko e;have XW:=h.eg k aH;have bg:=aiL p {c with tries:=0} l k i f d z (h.uQ 0) aC e hd aq aE av aR (some (.ab (.tuple (k.ih.map .str)))) cY dV ej ek eT;have a1:(cy 1 1 7 (aa (.int 0))) (ev p c l f d z [some (.ab (.list [.int (i:Nat)])),dK,cG,cY,dV,ej,ek,eT])=some (.bY (ev p {c with tries:=0} l f d z [some (.ab (.list [.int (i:Nat)])),dK,cG,cY,dV,ej,ek,eT])):=rfl;have a2:(hh (di [(bH 6),(bH 7)]) (slice (ag aN (ag aN (nm 0) (aa (.int 1))) (ag aN (nm 5) (aa (.int 0)))) (opt (aa (.int 1))) (opt (aa (.int 3))))) (ev p {c with tries:=0} l f d z [some (.ab (.list [.int (i:Nat)])),dK,cG,cY,dV,ej,ek,eT])=some (.bY (ev p {c with tries:=0} l f d z (dZ i k [some (.ab (.tuple (k.ih.map .str))),cY,dV,ej,ek,eT]))):=by
  have xk:aN (.list [.int (i:Nat)]) (.int 0)=some (.int (i:Nat)):=rfl;have bZ:=Rk e;have b3:xF (dC k) (some 1) (some 3)=some (.tuple [.str k.ft,.tuple (k.ih.map .str)]):=rfl;simp only[hh,slice,opt,ag,nm,aa,oh,o_,dh,Nr,xk,bZ,b3];rfl
 have aap:cz (if d="free" then ("shunt":Str) else d):=by
  split
  ·exact a6 "shunt"
  ·exact zd hd
 have g1:vK "free" "shunt" (nm 3) (aL 3) (ev p {c with tries:=0} l f d z (dZ i k [some (.ab (.tuple (k.ih.map .str))),cY,dV,ej,ek,eT]))=some (.str (if d="free" then ("shunt":Str) else d)):=by
  show some (if (Sum.inr d:D.Key)=.inr "free" then (iU "shunt":T) else .str d)=_
  by_cases q:d="free"
  ·subst q;rw[if_pos rfl,if_pos rfl]
  ·rw[if_neg q,if_neg λz=>q (Sum.inr.inj z)]
 have iY:(a0 (ag (dj true) (vK "free" "shunt" (nm 3) (aL 3)) (nm 7))) (ev p {c with tries:=0} l f d z (dZ i k [some (.ab (.tuple (k.ih.map .str))),cY,dV,ej,ek,eT]))=some (!decide ((if d="free" then ("shunt":Str) else d)∈k.ih)):=by
  refine gz ?_
  rw[cv.IK g1 rfl];exact qB true aap XW.2.2
 have es:=oq {c with tries:=0} l "denied" k.ft (by show c.told.length<big;omega);unfold rv;rw[ajO a1,ajO a2];unfold takeRight jH;by_cases ar:(if d="free" then ("shunt":Str) else d)∈k.ih
 ·rw[if_neg λq=>q ar];rw[decide_eq_true ar] at iY;rw[vz iY rfl];by_cases bj:h1 p d z {c with tries:=0}=true
  ·rw[if_pos bj] at bg ⊢;exact bg
  ·rw[if_neg bj] at bg ⊢;by_cases ae:d="set"/\bare p ["day","once"] {c with tries:=0}≠[]
   ·rw[if_pos ae] at bg ⊢;exact bg
   ·rw[if_neg ae] at bg ⊢;exact bg
 ·rw[if_pos ar];rw[decide_eq_false ar] at iY;have s1:(ij (dz 1 e2 [] 1 [(aa (.str "denied")),(aL 6)])) (ev p {c with tries:=0} l f d z (dZ i k [some (.ab (.tuple (k.ih.map .str))),cY,dV,ej,ek,eT]))=some (.gh .none (ev p (tell "denied" (some k.ft) {c with tries:=0}) l f d z (dZ i k [some (.ab (.tuple (k.ih.map .str))),cY,dV,ej,ek,eT]))):=by
   simp! [il,es]
  exact Ends.of (Dn iY s1) av
noncomputable def t3:bu:=(seq (iff (a0 (ag hD (fld 1 1 8) (aa (.int 0)))) (ij (dz 1 e2 [] 1 [(aa (.str "locked")),(aa .none)])) skip) (seq (iff (a0 (ag oEq (nm 5) (eU []))) uo skip) rv))
def eq_nil(ns:List Int)(a8:ns.length<=40):oEq (.list (ns.map .int)) (.list [])=some (.bool (decide (ns=[]))):=by
 have dT:hj (.list (ns.map .int))=true:=(af9 (d:=1) λt aR=>by
  obtain⟨n,_,rfl⟩:=dm.mp aR;exact vI _ n).hj
 have fA:hj (.list [])=true:=rfl;unfold oEq;rw[dT,fA];cases ns with
|nil=>simp[hG,PyData.eqvAll]
|cons n ns=>simp[hG,PyData.eqvAll]
def afn(p:aU)(c:aG)(l:List Str)(f d:Str)(z:Option Str)(h:a4 p c)(aC:Wp p)(a5:cT c)(hf:cz f)(hd:d="set"\/d="unset"\/d="shunt"\/d="free")(aq:k' p d z)(aE:∀x,z=some x->cz x)(av:eD l=c.bU)(aR:c.told.length+60<big):
  ∃eX,zi [.ab (b8 p),.obj .cN 1 (bP c l),.ab (.str f),.ab (.str d),.ab (dQ z)]=some (.none,bP (code p f d z c) eX)/\eD eX=(code p f d z c).bU:=by
 have main:Ends p (code p f d z c) (Dd (ev p c l f d z [none,none,none,none,none,none,none,none])):=by
  have cC:=places_eq p c f (some (.obj .cN 1 (bP c l))) (some (.ab (.str d))) (some (.ab (dQ z))) none none none none none none none none h aC hf;have AZ:=aC.cl;have eh:=agX p c l h aC ((p.codes.zipIdx 0).filter (λq=>decide (q.1.cS=f))) (λq bt=>by
   have:=List.mem_zipIdx (x:=q.1) (i:=q.2) (List.mem_filter.mp bt).1;have bA:=this.2.2;have ak:q.2<p.codes.length:=by omega
   rw[fC];exact⟨ak,by simpa using bA.symm⟩) (some (.ab (.str f))) (some (.ab (.str d))) (some (.ab (dQ z))) none none none none none none none (by
    have:=ajU (λq:eP×Nat=>decide (q.1.cS=f)) (p.codes.zipIdx 0);rw[List.length_zipIdx] at this;omega)
  have st:Dd (ev p c l f d z [none,none,none,none,none,none,none,none])=t3 (ev p c l f d z [some (.ab (.list ((((p.codes.zipIdx 0).filter (λq=>decide (q.1.cS=f))).filter (λq=>!ks q.1 c)).map λq=>.int (q.2:Nat)))),none,none,none,none,none,none,none]):=mL cC (mL eh rfl);have L3:∀r,(a0 (ag hD (fld 1 1 8) (aa (.int 0)))) (ev p c l f d z r)=some (decide (0<c.locked)):=λr=>by
   refine gz ?_
   show hD (.int c.locked) (.int 0)=_
   simp[hD]
  rw[st];generalize hm:(((p.codes.zipIdx 0).filter (λq=>decide (q.1.cS=f))).filter (λq=>!ks q.1 c))=ms;have hlen:ms.length<=40:=by
   rw[<- hm];have af:=ajU (λq:eP×Nat=>!ks q.1 c) ((p.codes.zipIdx 0).filter (λq=>decide (q.1.cS=f)));have ak:=ajU (λq:eP×Nat=>decide (q.1.cS=f)) (p.codes.zipIdx 0);rw[List.length_zipIdx] at ak;omega
  unfold t3 code;by_cases AQ:0<c.locked
  ·rw[if_pos AQ];have es:=C5 c l "locked" (by omega);have wG:=L3 [some (.ab (.list (ms.map λq=>.int (q.2:Nat)))),none,none,none,none,none,none,none];rw[decide_eq_true AQ] at wG;have s1:∀r,(ij (dz 1 e2 [] 1 [(aa (.str "locked")),(aa .none)])) (ev p c l f d z r)=some (.gh .none (ev p (tell "locked" none c) l f d z r)):=λr=>by
    simp! [il,es]
   exact Ends.of (Dn wG (s1 _)) av
  ·rw[if_neg AQ];have wG:=L3 [some (.ab (.list (ms.map λq=>.int (q.2:Nat)))),none,none,none,none,none,none,none];rw[decide_eq_false AQ] at wG;rw[vz wG rfl];have Fo:(a0 (ag oEq (nm 5) (eU []))) (ev p c l f d z [some (.ab (.list (ms.map λq=>.int (q.2:Nat)))),none,none,none,none,none,none,none])=some (decide (ms=[])):=by
    refine gz ?_
    have:=eq_nil (ms.map λq=>((q.2:Nat):Int)) (by simpa using hlen);rw[mF] at this;show oEq (.list (ms.map λq=>.int (q.2:Nat))) (.list [])=_;simpa [lp] using this
   have Ox:ms=[]->Ends p (fc p c) (seq (iff (a0 (ag oEq (nm 5) (eU []))) uo skip) rv (ev p c l f d z [some (.ab (.list (ms.map λq=>.int (q.2:Nat)))),none,none,none,none,none,none,none])):=λem=>by
    rw[decide_eq_true em] at Fo;refine Ends.of (Dn Fo (aje p c l a5 (by omega) _)) ?_;rw[av];unfold fc;split <;> rfl
   have XI:=QL (f:=f) p.codes 0 aC.cd;unfold codeOf;rcases XI with ⟨af,ak⟩|⟨k,i,af,ak,bA⟩
   ·rw[af];rw[ak] at hm;exact Ox hm.symm
   ·rw[af];rw[bA,Nat.zero_add] at hm;cases bj:ks k c with
    |true=>
     have:ms=[]:=by
      rw[<- hm];simp[bj]
     show Ends p (if ks k c=true then fc p c else takeRight p k d z {c with tries:=0}) _
     rw[bj,if_pos rfl];exact Ox this
    |false=>
     have em:ms=[(k,i)]:=by
      rw[<- hm];simp[bj]
     subst em;have Vj:(a0 (ag oEq (nm 5) (eU []))) (ev p c l f d z [some (.ab (.list ([(k,i)].map λq=>.int (q.2:Nat)))),none,none,none,none,none,none,none])=some false:=by
      rw[Fo];simp
     rw[vz Vj rfl];show Ends p (if ks k c=true then fc p c else takeRight p k d z {c with tries:=0}) _;rw[bj,if_neg l2];exact aiM p c l k i f d z h aC ak hd aq aE av aR none none none none none none none
 obtain⟨eX,r,e,ic⟩:=main;refine⟨eX,?_,ic⟩;show (Dd (ev p c l f d z [none,none,none,none,none,none,none,none])).bind _=_;rw[e];rfl
end je
end
section
namespace a'
open D PySem
def Tk:gX->Prop
|.cE n=>n<=200
|_=>True
def ago{p:aU}(h:eA p)(n:Int):∃e,(mR p e/\Tk e)/\rP [b8 p,.int n]=some (fg e):=by
 obtain⟨aO,_,cC⟩:=divQ n 8;obtain⟨i,xk,bZ,eh⟩:=NH (l:=p.bM.map dD) aO (by simpa using h.u4);obtain⟨t,aR,ff⟩:=A2 xk bZ;obtain⟨z,aq,rfl⟩:=dm.mp aR;have sY:z.1∈p.bM.map (·.1):=dm.mpr ⟨z,aq,rfl⟩;obtain⟨k,_,_,_,lJ⟩:=modQ n 10;obtain⟨bb,_,lK⟩:=divQ n 512;obtain⟨b7,_,Nt,A3,mZ⟩:=modQ bb 4;obtain⟨w,hw,m1⟩:=xo ["shut","open","open","cut"] Nt A3;obtain⟨W_,Nb,nP⟩:=xo ["0001","1111","9999","0000"] Nt A3;obtain⟨cQ,_,mi⟩:=divQ n 64;obtain⟨gI,_,nO⟩:=divQ n 4096;obtain⟨lT,_,oQ,e7,Fw⟩:=modQ gI 3;obtain⟨u,bj,ur⟩:=xn [3,40,200] oQ e7;have sU:0<u/\u<=200:=by
  simp at bj;omega
 obtain⟨hE,_,n4,cb,W3⟩:=modQ cQ u sU.1;obtain⟨GC,Yp,Yq,MS⟩:=NH (l:=p.codes.map dC) cQ (by simpa using h.wF);obtain⟨t',Yd,W4⟩:=A2 Yp Yq;obtain⟨c,aD,rfl⟩:=dm.mp Yd;have Xw:c.cS∈aj2:=by
  have:=h.cs.subset (dm.mpr ⟨c,aD,rfl⟩);simp[q5,aj2] at this ⊢;rcases this with q|q|q|q|q|q <;> simp[q]
 obtain⟨nd,_,MT⟩:=divQ n 65536;obtain⟨tg,_,_,_,MU⟩:=modQ nd 4;obtain⟨oW,_,m0,jN,MV⟩:=modQ gI 6;obtain⟨d,hd,Fx⟩:=xo ["set","set","unset","shunt","free","shunt"] m0 jN;simp only[dk,jS] at m1 nP ur Fx;simp only[gk] at eh MS;have zY:hS [.tuple (p.bM.map dD)]=some (.int p.bM.length):=by simp[hS]
 have bo:hS [.tuple (p.codes.map dC)]=some (.int p.codes.length):=by simp[hS]
 simp only[rP,Qi,eI,dk,jS,hF,tq,dW,List.cons_append,x_];by_cases af:k<5
 ·exact⟨.line z.1 w,⟨⟨sY,hw⟩,trivial⟩,by simp! [fJ,xp,DH,cC,zY,eh,ff,lJ,oLt,af,lK,mZ,m1,tU,pz,fg]⟩
 ·by_cases ak:k<7
  ·exact⟨.cE (1+hE),⟨⟨by omega,by omega⟩,by show 1+hE<=200;omega⟩,by simp! [fJ,xp,DH,cC,zY,eh,ff,lJ,oLt,af,ak,mi,nO,Fw,ur,W3,ku,pz,i_,fg]⟩
  ·have f5:cz d:=rQ (l:=["set","set","unset","shunt","free","shunt"]) (hx:=hd);have IU:=qB false (n:=d) (ns:=["set","unset"]) f5 (by
    intro k aH;exact rQ (l:=["set","unset"]) (hx:=aH))
   simp only[dk,jS] at IU;obtain⟨f,hf,Ag⟩:∃f∈aj2,(iff (a0 (ag oEq (ag oMod (ag oDiv (nm 1) (aa (.int 65536))) (aa (.int 4))) (aa (.int 0)))) (asg 4 (ag aN (b1 [(aa (.str "0001")),(aa (.str "1111")),(aa (.str "9999")),(aa (.str "0000"))]) (ag oMod (ag oDiv (nm 1) (aa (.int 512))) (aa (.int 4))))) skip) [some (.ab (b8 p)),some (.ab (.int n)),some (.ab (.str z.1)),some (.ab (.int k)),some (.ab (.str c.cS)),none]=some (.bY [some (.ab (b8 p)),some (.ab (.int n)),some (.ab (.str z.1)),some (.ab (.int k)),some (.ab (.str f)),none]):=by
    by_cases bA:tg=0
    ·refine⟨W_,?_,by simp! [fJ,MT,MU,iV,bA,lK,mZ,nP,tU]⟩
     simp[aj2] at Nb ⊢;rcases Nb with q|q|q|q <;> simp[q]
    ·exact⟨c.cS,Xw,by simp! [fJ,MT,MU,iV,bA]⟩
   have N5:∀X:bu,iff (a0 (ag oLt (nm 3) (aa (.int 5)))) X skip [some (.ab (b8 p)),some (.ab (.int n)),some (.ab (.str z.1)),some (.ab (.int k)),none,none]=some (.bY [some (.ab (b8 p)),some (.ab (.int n)),some (.ab (.str z.1)),some (.ab (.int k)),none,none]):=λX=>by simp! [fJ,oLt,af]
   have sB:∀X:bu,iff (a0 (ag oLt (nm 3) (aa (.int 7)))) X skip [some (.ab (b8 p)),some (.ab (.int n)),some (.ab (.str z.1)),some (.ab (.int k)),none,none]=some (.bY [some (.ab (b8 p)),some (.ab (.int n)),some (.ab (.str z.1)),some (.ab (.int k)),none,none]):=λX=>by simp! [fJ,oLt,ak]
   have N6:asg 4 (ag aN (ag aN (ag aN (nm 0) (aa (.int 1))) (ag oMod (ag oDiv (nm 1) (aa (.int 64))) (bV hS [(ag aN (nm 0) (aa (.int 1)))]))) (aa (.int 0))) [some (.ab (b8 p)),some (.ab (.int n)),some (.ab (.str z.1)),some (.ab (.int k)),none,none]=some (.bY [some (.ab (b8 p)),some (.ab (.int n)),some (.ab (.str z.1)),some (.ab (.int k)),some (.ab (.str c.cS)),none]):=by simp! [fJ,Nr,bo,mi,MS,W4,ai8]
   by_cases cP:d="set"\/d="unset"
   ·refine⟨.code f d none,⟨⟨hf,.inl ⟨cP,rfl⟩⟩,trivial⟩,?_⟩
    have IV:dj false (.str d) (.tuple [.str "set",.str "unset"])=some (.bool true):=by
     rw[IU];simp[cP]
    have pre:∀B:bu,(seq (asg 2 (ag aN (ag aN (ag aN (nm 0) (aa (.int 0))) (ag oMod (ag oDiv (nm 1) (aa (.int 8))) (bV hS [(ag aN (nm 0) (aa (.int 0)))]))) (aa (.int 0)))) (seq (asg 3 (ag oMod (nm 1) (aa (.int 10)))) B)) [some (.ab (b8 p)),some (.ab (.int n)),none,none,none,none]=B [some (.ab (b8 p)),some (.ab (.int n)),some (.ab (.str z.1)),some (.ab (.int k)),none,none]:=by
     intro B;simp! [fJ,xp,DH,cC,zY,eh,ff,lJ]
    rw[pre];rw[ajO (N5 _),ajO (sB _),ajO N6,ajO Ag];simp! [fJ,nO,MV,Fx,La,i_,IV,tU,fg,dQ]
   ·refine⟨.code f d (some z.1),⟨⟨hf,.inr ⟨?_,z.1,rfl,sY⟩⟩,trivial⟩,?_⟩
    ·simp at hd;rcases hd with q|q|q|q|q
     ·exact absurd (.inl q) cP
     ·exact absurd (.inr q) cP
     ·exact .inl q
     ·exact .inr q
     ·exact .inl q
    have IV:dj false (.str d) (.tuple [.str "set",.str "unset"])=some (.bool false):=by
     rw[IU];simp at cP;simp[cP]
    have pre:∀B:bu,(seq (asg 2 (ag aN (ag aN (ag aN (nm 0) (aa (.int 0))) (ag oMod (ag oDiv (nm 1) (aa (.int 8))) (bV hS [(ag aN (nm 0) (aa (.int 0)))]))) (aa (.int 0)))) (seq (asg 3 (ag oMod (nm 1) (aa (.int 10)))) B)) [some (.ab (b8 p)),some (.ab (.int n)),none,none,none,none]=B [some (.ab (b8 p)),some (.ab (.int n)),some (.ab (.str z.1)),some (.ab (.int k)),none,none]:=by
     intro B;simp! [fJ,xp,DH,cC,zY,eh,ff,lJ]
    rw[pre];rw[ajO (N5 _),ajO (sB _),ajO N6,ajO Ag];simp! [fJ,nO,MV,Fx,La,i_,IV,tU,fg,dQ]
theorem Q2{p:aU}(h:eA p)(n:Int):∀(bc:List Int) (s0:Option aM),(∀k∈bc,0<=k/\k<1000)->∃es:List gX,(∀e∈es,mR p e/\Tk e)/\es.length=bc.length/\fS (bH 0) (er true) (bV rP [(aL 1),(ag oDiv (bV jW [(aL 2),(ag cV (aa (.int 30)) (nm 0))]) (aa (.int 4)))]) (bc.map .int) [s0,some (.ab (b8 p)),some (.ab (.int n))]=some (es.map fg)
| [],s0,_=>⟨[],by simp,rfl,rfl⟩
|k::bc,s0,aH=>by
  obtain⟨m,_,cC⟩:=zf n (30+k) (by have:=aH k e8;omega);obtain⟨q,_,eh⟩:=divQ m 4;obtain⟨e,he,ff⟩:=ago h q;obtain⟨es,bZ,b3,n3⟩:=Q2 h n bc (some (.ab (.int k))) λy bL=>aH y (dM _ bL);refine⟨e::es,λx hx=>?_,by simp[b3],?_⟩
  ·rcases cZ.mp hx with rfl|hx
   ·exact he
   ·exact bZ x hx
  ·have aD:bV rP [(aL 1),(ag oDiv (bV jW [(aL 2),(ag cV (aa (.int 30)) (nm 0))]) (aa (.int 4)))] [some (.ab (.int k)),some (.ab (b8 p)),some (.ab (.int n))]=some (fg e):=by
    simp! [fJ,ku,cC,eh,ff]
   rw[dk];simp only[fS,bH,kO,dh,er,if_true,aD];rw[n3];rfl
def ahG{p:aU}(h:eA p)(n m:Int)(a8:0<=n)(hm:0<=m/\m<900):∃es:List gX,(∀e∈es,mR p e/\Tk e)/\(es.length:Int)<=m/\tW [b8 p,.int n,.int m]=some (.tuple (es.map fg)):=by
 obtain⟨r,_,kg,bg,cC⟩:=modQ n (m+1) (by omega);have XX:jo 0 r=((List.range r.toNat).map λ(k:Nat)=>(k:Int)).map .int:=by
  simp[jo,lp]
 obtain⟨es,bZ,b3,n3⟩:=Q2 h n ((List.range r.toNat).map λ(k:Nat)=>(k:Int)) none (by
  intro k aH;obtain⟨j,bw,rfl⟩:=dm.mp aH;have:=List.mem_range.mp bw;omega)
 have aw:(es.length:Int)=r:=by
  simp at b3;omega
 obtain⟨q,_,eh⟩:=divQ n 64;obtain⟨cw,_,_,_,ff⟩:=modQ q 5;have abp:qC r=true:=by
  unfold qC;simp;omega
 have s1:asg 3 (bV gy [(comp 1 [0,1] (l9 (ag oMod (nm 1) (ag cV (nm 2) (aa (.int 1))))) (bH 0) (er true) (bV rP [(aL 1),(ag oDiv (bV jW [(aL 2),(ag cV (aa (.int 30)) (nm 0))]) (aa (.int 4)))]))]) [some (.ab (b8 p)),some (.ab (.int n)),some (.ab (.int m)),none]=some (.bY [some (.ab (b8 p)),some (.ab (.int n)),some (.ab (.int m)),some (.ab (.tuple (es.map fg)))]):=by
  have bW:((((List.range r.toNat).map λ(k:Nat)=>(k:Int)).map PyData.int).length<=big)=True:=by
   simp;unfold big;omega
  have it:(l9 (ag oMod (nm 1) (ag cV (nm 2) (aa (.int 1))))) [some (.ab (b8 p)),some (.ab (.int n)),some (.ab (.int m)),none]=some (((List.range r.toNat).map λ(k:Nat)=>(k:Int)).map .int):=by
   rw[<- XX];simp[l9,ag,nm,aa,ku,cC,abp]
  simp only[asg,bV,args,comp,it,dh,bW,if_true];show Option.map _ ((Option.bind (Option.map _ (fS _ _ _ _ [none,some (.ab (b8 p)),some (.ab (.int n))])) _).bind _)=_;rw[n3];simp[gy]
 have eB:tW [b8 p,.int n,.int m]=(Dp [some (.ab (b8 p)),some (.ab (.int n)),some (.ab (.int m)),none]).bind λo=>match o with|.fa t=>some t|.bY _=>some .none|_=>none:=rfl
 by_cases aD:cw=0/\2<(es.length:Int)
 ·refine⟨es.take (es.length - 3)++vS,?_,?_,?_⟩
  ·intro e he;rcases ju.mp he with q|q
   ·exact bZ e (List.mem_of_mem_take q)
   ·simp[vS] at q;subst q;exact⟨⟨by simp[aj2],.inl ⟨.inr rfl,rfl⟩⟩,trivial⟩
  ·simp[vS];omega
  ·rw[eB];unfold Dp;rw[ajO s1];have bW:(es.length - 3+3<=big)=True:=by
    simp only[eq_iff_iff,iff_true];unfold big;omega
   have b6:(max (-3+(es.length:Int)) 0).toNat=es.length - 3:=by omega
   have hz:min (es.length - 3) es.length=es.length - 3:=by omega
   have mV:n7 (.tuple [fg (.code "5555" "unset" none)]) (.int 3)=some (.tuple (vS.map fg)):=by
    simp[n7,vS,dW,pz]
   simp only[fg,dQ] at mV;simp! [fJ,eh,ff,iV,aD.1,aD.2,hS,hD,slice,optN,opt,qb,xF,wJ,c5,b6,hz,mV,tU,one_le,cV,vS];rw[if_pos (bW▸trivial)];simp! [fJ]
 ·refine⟨es,bZ,by omega,?_⟩
  rw[eB];unfold Dp;rw[ajO s1];by_cases af:cw=0
  ·have ak:¬2<(es.length:Int):=λz=>aD ⟨af,z⟩;simp! [fJ,eh,ff,iV,af,hS,hD];rw[if_neg ak];simp! [fJ]
  ·simp! [fJ,eh,ff,iV,af]
end a'
end
section
namespace je
open D a' LA
open PySem hiding run fresh code
def ad'(p:aU)(z w:Str)(c:aG):(line p z w c).bU=c.bU:=by
 have ax:∀c:aG,(dd p z c).bU=c.bU:=λc=>(CH p z c).2.2.2.2.1;unfold line gB gA;split
 ·rfl
 ·split
  ·split <;> rfl
  ·split
   ·rfl
   ·split
    ·rw[ax]
    ·split
     ·split <;> rfl
     ·split
      ·rw[ax]
      ·split
       ·split
        ·rw[ax]
        ·rfl
       ·rfl
def ahb{p:aU}(hd:eA p){z:Str}(aq:z∈p.bM.map (·.1)):kindOf p z∈je.kinds:=by
 have e:=vC p.bM z aq;have:=hd.Qn _ (ko e);simp only[a'.kinds,je.kinds,cZ,kp,or_false] at this ⊢;show _\/_;unfold kindOf;rcases this with q|q|q|q|q <;> simp[q]
def aec(p:aU)(c:aG)(l:List Str)(e:gX)(h:a4 p c)(hd:eA p)(a5:cT c)(he:mR p e)(ae:Tk e)(av:eD l=c.bU)(aR:c.told.length+60000<big):
  ∃eX,aj6 [.ab (b8 p),.obj .cN 1 (bP c l),.ab (fg e)]=some (.none,bP (d5 p c e) eX)/\eD eX=(d5 p c e).bU:=by
 have aC:=hd.wp;have aw:=CL av;cases e with
|cE n=>
  refine⟨l,ady p c l n h aC hd a5 aw he.1 (by have:n<=200:=ae;omega) aR,?_⟩
  rw[av];exact (O2 p n c).symm
|line z w=>
  have ok:=mR.ok he;refine⟨l,?_,by rw[av];exact (ad' p z w c).symm⟩;have cC:=afm p c l z w h aC ok.1 (Su ok) (ahb hd ok.1) aw (by omega);have c3:(a0 (ag oEq (ag aN (nm 2) (aa (.int 0))) (aa (.str "line")))) (cO p c l [some (.ab (.tuple [.str "line",.str z,.str w])),none])=some true:=gz (by
   show oEq (.str "line") (.str "line")=_
   rw[cL (a6 "line") (a6 "line")];simp)
  have s1:(cq (dz 1 zh [(aL 0)] 1 [(ag aN (nm 2) (aa (.int 1))),(ag aN (nm 2) (aa (.int 2)))])) (cO p c l [some (.ab (.tuple [.str "line",.str z,.str w])),none])=some (.bY (cO p (line p z w c) l [some (.ab (.tuple [.str "line",.str z,.str w])),none])):=by
   simp! [xU,cC]
  have gR:pn (cO p c l [some (.ab (.tuple [.str "line",.str z,.str w])),none])=some (.bY (cO p (line p z w c) l [some (.ab (.tuple [.str "line",.str z,.str w])),none])):=by
   unfold pn;rw[iff_eq c3,if_pos rfl,s1]
  show (pn (cO p c l [some (.ab (.tuple [.str "line",.str z,.str w])),none])).bind _=_
  rw[gR];rfl
|code f d z=>
  have ok:=mR.ok he;have aE:∀x,z=some x->cz x:=λx hx=>by
   rcases he.2 with ⟨_,q⟩|⟨_,y,q,bL⟩
   ·rw[q] at hx;cases hx
   ·rw[q] at hx;cases hx;exact h.i2 bL
  obtain⟨eX,cC,ic⟩:=afn p c l f d z h aC a5 ok.1 ok.2.1 ok.2.2 aE av (by omega);refine⟨eX,?_,ic⟩;have c3:(a0 (ag oEq (ag aN (nm 2) (aa (.int 0))) (aa (.str "line")))) (cO p c l [some (.ab (.tuple [.str "code",.str f,.str d,dQ z])),none])=some false:=gz (by
   show oEq (.str "code") (.str "line")=_
   rw[cL (a6 "code") (a6 "line")];simp[vl])
  have dF:(a0 (ag oEq (ag aN (nm 2) (aa (.int 0))) (aa (.str "code")))) (cO p c l [some (.ab (.tuple [.str "code",.str f,.str d,dQ z])),none])=some true:=gz (by
   show oEq (.str "code") (.str "code")=_
   rw[cL (a6 "code") (a6 "code")];simp)
  have s1:(cq (dz 1 zi [(aL 0)] 1 [(ag aN (nm 2) (aa (.int 1))),(ag aN (nm 2) (aa (.int 2))),(ag aN (nm 2) (aa (.int 3)))])) (cO p c l [some (.ab (.tuple [.str "code",.str f,.str d,dQ z])),none])=some (.bY (cO p (code p f d z c) eX [some (.ab (.tuple [.str "code",.str f,.str d,dQ z])),none])):=by
   simp! [xU,cC]
  have gR:pn (cO p c l [some (.ab (.tuple [.str "code",.str f,.str d,dQ z])),none])=some (.bY (cO p (code p f d z c) eX [some (.ab (.tuple [.str "code",.str f,.str d,dQ z])),none])):=by
   unfold pn;rw[iff_eq c3,if_neg l2,iff_eq dF,if_pos rfl,s1]
  show (pn (cO p c l [some (.ab (.tuple [.str "code",.str f,.str d,dQ z])),none])).bind _=_
  rw[gR];rfl
def ht(c:aG):aG:={c with told:=[]}
def agu(c:aG):ht c=b4 c.past [] (fresh c):=by simp[ht,b4,fresh]
def rep1{f:bD}{ε:Ev}{ts:List T}{d B:Nat}(hf:f ε=some (.tuple ts))(h:cv.lH B (.tuple ts))(M3:B<=1000000)(g:okN d (.tuple ts))(hd:d<=60):bV qN [f] ε=some (.str (PyData.tuple ts).shown):=by
 rw[cv.NT hf];simp only[qN];have:=h.le;have ajr:=g.2;rw[if_pos (by
  simp only[hZ,Bool.not_eq_true',decide_eq_true_eq];exact⟨⟨⟨h.b4,h.aW⟩,by omega⟩,by omega⟩)]
noncomputable def wD:bu:=(seq (ha 1 2 11 (eU [])) (seq (cq (dz 1 aj6 [(aL 1)] 2 [(aL 4)])) (seq (iff (a0 (ag fQ (bV vO [(aL 1),(aL 3),(aL 4)]) (bV gy [(comp 1 [] (dv (fld 1 2 11)) (bH 0) (er true) (slice (nm 0) (opt (aa (.int 1))) optN))]))) (cX (aa (.bool false))) skip) (seq (asg 3 (bV v7 [(aL 1),(aL 3),(aL 4)])) (iff (a0 (ag fQ (bV qN [(nm 3)]) (bV qN [(zO rO [.o 2])]))) (cX (aa (.bool false))) skip)))))
def ai7{p:aU}{c:aG}{l:List Str}(h:a4 p c)(av:eD l=c.bU):l.length<64:=by
 have:=h.BL;rw[<- av,(@om t0 l).length_eq] at this;omega
def ajh(s:T)(p:aU)(c:aG)(l:List Str)(e:gX)(b:Int)(h:a4 p c)(hd:eA p)(a5:cT c)(he:mR p e)(ae:Tk e)(av:eD l=c.bU)(n_:cK b c)(F':b+1<=1000):
  ∃eX,wD [some (.ab s),some (.ab (b8 p)),some (.obj .own 1 (bP c l)),some (.ab (fH c)),some (.ab (fg e))]=some (.bY [some (.ab s),some (.ab (b8 p)),some (.obj .own 1 (bP (d5 p (ht c) e) eX)),some (.ab (fH (d5 p (ht c) e))),some (.ab (fg e))])/\eD eX=(d5 p (ht c) e).bU:=by
 have aC:=hd.wp;have iR:a4 p (ht c):=⟨h.zn,h.eg,h.fE,h.mo,h.ca,h.iE,h.ln,h.lo,h.us,h.b4,h.al⟩;have v0:cT (ht c):=⟨a5.gd,a5.t1,a5.t0,a5.kH,a5.lo,a5.hU⟩;have lL:cK b (ht c):=⟨n_.mx,λw hw=>(by cases hw),n_.ln,n_.us⟩;have ok:=mR.ok he;obtain⟨eX,cC,ic⟩:=aec p (ht c) l e iR hd v0 he ae av (by show 0+60000<big;decide);have h7:d5 p (ht c) e=b4 c.past [] (d5 p (fresh c) e):=by rw[agu,afv]
 have jR:a4 p (d5 p (ht c) e):=iR.d5 ok;have v1:cT (d5 p (ht c) e):=v0.d5 hd e;have g1:=lL.d5 (Lr hd) iR v0 ok;have kD:=afJ p c e h aC ok;have kC:=ahg p c e h aC ok;have es:fH (d5 p (fresh c) e)=fH (d5 p (ht c) e):=by rw[h7];rfl
 rw[es] at kC;have bp:(d5 p (ht c) e).told.map pH=(d5 p (fresh c) e).told.map pH:=by
  rw[h7];simp[b4,lp,xT,pH]
 rw[<- bp] at kD;have kj:=JV iR e;have Ot:dw (d5 p (ht c) e):=dw.d5 (λw hw=>by cases hw) iR ok;refine⟨eX,?_,ic⟩;unfold wD;refine tS (ε':=[some (.ab s),some (.ab (b8 p)),some (.obj .own 1 (bP (ht c) l)),some (.ab (fH c)),some (.ab (fg e))]) ?_ (tS (ε':=[some (.ab s),some (.ab (b8 p)),some (.obj .own 1 (bP (d5 p (ht c) e) eX)),some (.ab (fH c)),some (.ab (fg e))]) ?_ (vz ?_ (mL (t:=fH (d5 p (ht c) e)) ?_ ?_)))
 ·rfl
 ·simp! [il,cC]
 ·generalize d5 p (ht c) e=dY at *;have iE:(comp 1 [] (dv (fld 1 2 11)) (bH 0) (er true) (slice (nm 0) (opt (aa (.int 1))) optN)) [some (.ab s),some (.ab (b8 p)),some (.obj .own 1 (bP dY eX)),some (.ab (fH c)),some (.ab (fg e))]=some (.list (dY.told.map pH)):=by
   have:=cv.Vo (it:=dv (fld 1 2 11)) (caps:=[]) (e:=slice (nm 0) (opt (aa (.int 1))) optN) (ε:=[some (.ab s),some (.ab (b8 p)),some (.obj .own 1 (bP dY eX)),some (.ab (fH c)),some (.ab (fg e))]) (ts:=dY.told.map m2) (f:=λt=>(xF t (some 1) none).getD .none) rfl (by
    have:(ht c).told.length=0:=rfl;simp[big];omega) λt aR=>by
     obtain⟨w,hw,rfl⟩:=dm.mp aR;rfl
   rw[this,mF];rfl
  have tp:(bV gy [(comp 1 [] (dv (fld 1 2 11)) (bH 0) (er true) (slice (nm 0) (opt (aa (.int 1))) optN))]) [some (.ab s),some (.ab (b8 p)),some (.obj .own 1 (bP dY eX)),some (.ab (fH c)),some (.ab (fg e))]=some (.tuple (dY.told.map pH)):=by
   rw[cv.NT iE];rfl
  refine gz ?_
  rw[cv.IK (t:=.tuple (dY.told.map pH)) (by simp[bV,args,aL,nm,kD]) tp];exact NP (d:=2) (qz λt aR=>by
   obtain⟨w,hw,rfl⟩:=dm.mp aR;exact af8 0 (Ot w hw).1 (Ot w hw).2)
 ·simp[bV,args,aL,nm,kC]
 ·simp only[lq,kO];generalize d5 p (ht c) e=dY at *;have sw:=afM hd jR v1 g1 F';have NQ:=af_ jR;have bg:=rep1 (f:=nm 3) (ε:=[some (.ab s),some (.ab (b8 p)),some (.obj .own 1 (bP dY eX)),some (.ab (fH dY)),some (.ab (fg e))]) rfl sw (by decide) NQ (by decide);have ls:=aeA dY eX ic (ai7 jR ic);have b7:=rep1 (f:=zO rO [.o 2]) (ε:=[some (.ab s),some (.ab (b8 p)),some (.obj .own 1 (bP dY eX)),some (.ab (fH dY)),some (.ab (fg e))]) (show rO [.obj .fR 1 (bP dY eX)]=some (fH dY) from ls) sw (by decide) NQ (by decide);rw[iff_eq (b:=false)]
  ·rfl
  ·exact cv.ne_self (d:=0) bg b7 (cv.Xc sw.as (kn sw.le (by decide)))
theorem QI(s:T)(p:aU)(hd:eA p):∀(es:List gX) (c:aG) (l:List Str) (b:Int) (s4:Option aM),a4 p c->cT c->cK b c->eD l=c.bU->(∀e∈es,mR p e/\Tk e)->b+es.length<=1000 ->
  ∃ε,forL (bH 4) wD (es.map fg) [some (.ab s),some (.ab (b8 p)),some (.obj .own 1 (bP c l)),some (.ab (fH c)),s4]=some (.bY ε)
| [],c,l,b,s4,_,_,_,_,_,_=>⟨_,rfl⟩
|e::es,c,l,b,s4,h,a5,n_,av,he,ae=>by
  have af:=he e e8;have i0:b+1+(es.length:Int)<=1000:=by
   simp at ae;omega
  obtain⟨eX,cC,ic⟩:=ajh s p c l e b h hd a5 af.1 af.2 av n_ (by omega);have iR:a4 p (ht c):=⟨h.zn,h.eg,h.fE,h.mo,h.ca,h.iE,h.ln,h.lo,h.us,h.b4,h.al⟩;have v0:cT (ht c):=⟨a5.gd,a5.t1,a5.t0,a5.kH,a5.lo,a5.hU⟩;have lL:cK b (ht c):=⟨n_.mx,λw hw=>(by cases hw),n_.ln,n_.us⟩;have ok:=mR.ok af.1;obtain⟨ε,b2⟩:=QI s p hd es (d5 p (ht c) e) eX (b+1) (some (.ab (fg e))) (iR.d5 ok) (v0.d5 hd e) (lL.d5 (Lr hd) iR v0 ok) ic (λx hx=>he x (dM _ hx)) i0;refine⟨ε,?_⟩;rw[dk,forL];show Option.bind (wD [some (.ab s),some (.ab (b8 p)),some (.obj .own 1 (bP c l)),some (.ab (fH c)),some (.ab (fg e))]) _=_;rw[cC,dh];exact b2
def agh(ns:List Int)(h:ns.length<=63):wj [fe ns]=some (.bool true):=by
 obtain⟨m0,ajx,x0⟩:=Kz ns 0;obtain⟨jN,X3,aJ⟩:=Kz ns 1;obtain⟨p,aC,tm⟩:=agW m0;have wp:=aC.wp;have wb:=aC.begun;have aq:p.bM.length<=40:=by have:=aC.fE;omega
 have c':=agt p aq wp;have fX:=aeB p aq wp;obtain⟨es,XF,aw,Oz⟩:=ahG aC jN 24 X3 (by omega);obtain⟨ε,n5⟩:=QI (fe ns) p aC es (ja p) [] 0 none wb (cT.begun p) (cK.begun p) rfl XF (by omega);suffices av:SE [some (.ab (fe ns)),none,none,none,none]=some (.fa (.bool true)) by
  unfold wj eI;simp only[dk,jS,hF,tq,List.cons_append,x_];exact congrArg (λo=>Option.bind o _) av
 show (seq _ (seq _ (seq _ (seq (g4 (dv (bV tW [(aL 1),(bV oo [(aL 0),(aa (.int 1))]),(aa (.int 24))])) (bH 4) wD) (cX (aa (.bool true))))))) _=_
 refine mL (t:=b8 p) (by
  simp! [fJ] at x0 ⊢;simp[x0,tm]) ?_
 simp only[lq,kO];refine tS (ε':=[some (.ab (fe ns)),some (.ab (b8 p)),some (.obj .own 1 (bP (ja p) [])),none,none]) (by simp[pT,r6,args,aL,nm,fX]) ?_;refine mL (t:=fH (ja p)) (by simp! [fJ,c']) ?_;simp only[lq,kO];refine tS (ε':=ε) ?_ rfl;unfold g4;have it:(dv (bV tW [(aL 1),(bV oo [(aL 0),(aa (.int 1))]),(aa (.int 24))])) [some (.ab (fe ns)),some (.ab (b8 p)),some (.obj .own 1 (bP (ja p) [])),some (.ab (fH (ja p))),none]=some (es.map fg):=by
  simp! [fJ] at aJ ⊢;simp[aJ,Oz]
 rw[it,dh];exact n5
end je
end
end
end
section
namespace je
open PySem PySem.Spec PyProof.Rows bo D a'
set_option hygiene false in
local macro_rules | `(unop% lk ($f, $kf, $f5, $n, $q, $s, $a, $b, $c, $d, $e, $g, $h)) => `(K.lookup $f = some ⟨$kf, $f5, .func (ry $n $q (vN $s) (jx $s) (cp $s) .none $a $b $c $d $e $g), $h⟩)
set_option hygiene false in
local macro_rules | `(binop% cd $c $q) => `(PySem.W.codeIn K $c $q = true)
set_option hygiene false in
local macro_rules | `(unop% az $c) => `(ni K (.ref $c) = true)
set_option hygiene false in
local macro_rules | `(unop% hB $c) => `(PySem.W.isFn K (.ref $c) = true)
set_option hygiene false in
local macro_rules | `(binop% ns $q $c) => `(PySem.W.nsIn K ajP $q = some (some (.ref $c)))
set_option hygiene false in
local macro_rules | `(unop% zn $q) => `(PySem.W.nsIn K ajP $q = some none)
set_option hygiene false in
local macro_rules | `(unop% fn ($C, $q, $c)) => `(nj K (.ref $C) $q = some (some (.ref $c)))
set_option hygiene false in
local macro_rules | `(binop% mj $C $q) => `(nj K (.ref $C) $q = some none)
local macro_rules | `(unop% mo $x) => `(($x).mono (by decide))
set_option hygiene false in
local macro_rules | `(unop% bQ ($f $n $as*)) => `($f (P := l.prog) (w := w) (mg := mg) (base := base) (k := $n) $as*)
def all_mk{l:PySem.W.OpenLaw}{w:cu}{K:bl}{h:b0}{mg:Str->Option ao}{cA bJ f1 f2 h8 f4 h9 FX FY f8 FZ FG FH FI FJ FK FL FN Ai Aj Ak FO Al Am An Ao Ap FP Aq Ar As Au Av Aw Ax Ay Az AA AB FQ AD AE AF AG AH FR FT FU FV FW uh ug:aj}{_p Uq _A UB _L UN _W UZ aag U8 aah U9 aai U_ aaj U' aak Va _q Ur _r Us _s Ut _t Uu _u Uv _v Uw _w Ux _x Uy _y Uz _z UA _B UC _C UD _D UE _E UG _F UH _G UI _H UJ _I UK _J UL _K UM _M UO _N UP _O UQ _P UR _Q US _R UT _S UU _T UW _U UX _V UY _X U0 _Y U1 _Z U2 aaa U3 aab U4 aac U5 aad U6 aae U7 aaf LW aam aal:Option aj}{abv lW abQ ab1 ab' aca acb acd ace abw abx aby abz abA abB abC abD abE abF abG abH abI abJ abK abL abM abN abO abP abR abS abT abU abV abW abX abY abZ ab0 ab2 ab3 ab4 ab5 ab6 ab7 ab8 ab9 ab_ acg acf:Array (Option ao)}{ZE YB V_ aat L4 Vp ZP YM Wj aaE Md VA Z0 YX Wv aaP Mo VL Z' Y8 WH aa0 Mz VW _k Zf WR aa9 MI V5 _l Zg WS aa_ MJ V6 _m Zh WT aa' MK V7 _n Zi WU aba ML V8 _o Zj WV abb MM V9 ZF YC V' aau L5 Vq ZG YD Wa aav L6 Vr ZH YE Wb aaw L7 Vs ZI YF Wc aax L8 Vt ZJ YG Wd aay L9 Vu ZK YH We aaz L_ Vv ZL YI Wf aaA L' Vw ZM YJ Wg aaB Ma Vx ZN YK Wh aaC Mb Vy ZO YL Wi aaD Mc Vz ZQ YN Wk aaF Me VB ZR YO Wl aaG Mf VC ZS YP Wm aaH Mg VD ZT YQ Wn aaI Mh VE ZU YR Wo aaJ Mi VF ZV YS Wq aaK Mj VG ZW YT Wr aaL Mk VH ZX YU Ws aaM Ml VI ZY YV Wt aaN Mm VJ ZZ YW Wu aaO Mn VK Z1 YY Ww aaQ Mp VM Z2 YZ Wx aaR Mq VN Z3 Y0 Wy aaS Mr VO Z4 Y1 Wz aaT Ms VP Z5 Y2 WA aaU Mt VQ Z6 Y3 WB aaV Mu VR Z7 Y4 WC aaW Mv VS Z8 Y5 WD aaX Mw VT Z9 Y6 WE aaY Mx VU Z_ Y7 WG aaZ My VV _a Y9 WI aa1 MA VX _b Y_ WJ aa2 MB VY _c Y' WK aa3 MC VZ _d Za WL aa4 MD V0 _e Zb WM aa5 ME V1 _g Zc WN aa6 MF V2 _h Zd WO aa7 MG V3 _i Ze WQ aa8 MH V4 _j Nw MR NX Fp MQ:ao}{Je Jd acM acN acJ acK:Tok}{Zt Zs:Nat}(X:K.In h)(G:h.Ns ajP mg)(XG:mg "law"=some (.ref cA))(EC:binop%ns "Course" bJ)(IP:PySem.W.plainGet K bJ Str.empty=true)(Gf:PySem.W.hasDictIn K bJ=true)(IQ:PySem.W.plainOver K bJ=true)(I6:nj K (.ref bJ) "__setattr__"=some (some (.builtin "object.__setattr__")))(Ia:PySem.W.makesIn K bJ=true)(Hp:unop%az bJ)(Ii:binop%mj bJ "plan")(Ij:binop%mj bJ "mode")(Io:binop%mj bJ "left")(Ip:binop%mj bJ "came")(Iq:binop%mj bJ "lines")(Ir:binop%mj bJ "shunts")(It:binop%mj bJ "siren")(Iu:binop%mj bJ "alarms")(Iv:binop%mj bJ "tries")(Iw:binop%mj bJ "locked")(Ik:binop%mj bJ "used")(Il:binop%mj bJ "past")(Im:binop%mj bJ "told")(a1:binop%ns "_law_drawn" f1)(cb:unop%lk (f1,ZE,_p,"_law_drawn","_law_drawn",CR,YB,V_,aat,Uq,L4,Vp,abv))(c3:binop%cd L4 "_law_drawn")(e7:unop%az f1)(a2:binop%ns "_law_plan" f2)(b_:unop%lk (f2,ZP,_A,"_law_plan","_law_plan",za,YM,Wj,aaE,UB,Md,VA,lW))(dF:binop%cd Md "_law_plan")(ec:unop%az f2)(iC:binop%ns "_law_begun" h8)(Bp:unop%lk (h8,Z0,_L,"_law_begun","_law_begun",CS,YX,Wv,aaP,UN,Mo,VL,abQ))(fx:binop%cd Mo "_law_begun")(jm:unop%az h8)(kZ:binop%ns "begun" f4)(Bq:unop%lk (f4,Z',_W,"begun","begun",vD,Y8,WH,aa0,UZ,Mz,VW,ab1))(c4:binop%cd Mz "begun")(mv:unop%az f4)(j7:binop%ns "_law_event" h9)(H4:unop%lk (h9,_k,aag,"_law_event","_law_event",CQ,Zf,WR,aa9,U8,MI,V5,ab'))(jJ:binop%cd MI "_law_event")(Hi:unop%az h9)(k0:binop%ns "_law_row" FX)(H5:unop%lk (FX,_l,aah,"_law_row","_law_row",zk,Zg,WS,aa_,U9,MJ,V6,aca))(Fj:binop%cd MJ "_law_row")(Hj:unop%az FX)(mU:binop%ns "_law_cell_at" FY)(H6:unop%lk (FY,_m,aai,"_law_cell_at","_law_cell_at",CF,Zh,WT,aa',U_,MK,V7,acb))(Fl:binop%cd MK "_law_cell_at")(Hk:unop%az FY)(nM:binop%ns "_law_mixed" f8)(H7:unop%lk (f8,_n,aaj,"_law_mixed","_law_mixed",CP,Zi,WU,aba,U',ML,V8,acd))(Fm:binop%cd ML "_law_mixed")(Hl:unop%az f8)(kA:binop%ns "_law_say" FZ)(H8:unop%lk (FZ,_o,aak,"_law_say","_law_say",Dh,Zj,WV,abb,Va,MM,V9,ace))(Fn:binop%cd MM "_law_say")(Hm:unop%az FZ)(nL:binop%ns "_law_alarm" FG)(Hq:unop%lk (FG,ZF,_q,"_law_alarm","_law_alarm",CT,YC,V',aau,Ur,L5,Vq,abw))(EG:binop%cd L5 "_law_alarm")(G4:unop%az FG)(D0:binop%ns "_law_line" FH)(Hr:unop%lk (FH,ZG,_r,"_law_line","_law_line",zb,YD,Wa,aav,Us,L6,Vr,abx))(EH:binop%cd L6 "_law_line")(G5:unop%az FH)(D1:binop%ns "_law_on" FI)(Hs:unop%lk (FI,ZH,_s,"_law_on","_law_on",Dt,YE,Wb,aaw,Ut,L7,Vs,aby))(EI:binop%cd L7 "_law_on")(G6:unop%az FI)(D2:binop%ns "_law_do" FJ)(Ht:unop%lk (FJ,ZI,_t,"_law_do","_law_do",Du,YF,Wc,aax,Uu,L8,Vt,abz))(EJ:binop%cd L8 "_law_do")(G7:unop%az FJ)(D3:binop%ns "_law_code" FK)(Hu:unop%lk (FK,ZJ,_u,"_law_code","_law_code",vx,YG,Wd,aay,Uv,L9,Vu,abA))(EK:binop%cd L9 "_law_code")(G8:unop%az FK)(D4:binop%ns "_law_tick" FL)(Hv:unop%lk (FL,ZK,_v,"_law_tick","_law_tick",C6,YH,We,aaz,Uw,L_,Vv,abB))(EL:binop%cd L_ "_law_tick")(G9:unop%az FL)(D5:binop%ns "_law_happen" FN)(Hw:unop%lk (FN,ZL,_w,"_law_happen","_law_happen",CK,YI,Wf,aaA,Ux,L',Vw,abC))(EM:binop%cd L' "_law_happen")(G_:unop%az FN)(D6:unop%fn (bJ,"state",Ai))(GD:unop%hB Ai)(Hx:unop%lk (Ai,ZM,_x,"state","Course.state",Cx,YJ,Wg,aaB,Uy,Ma,Vx,abD))(EN:binop%cd Ma "Course.state")(A4:unop%az Ai)(D7:unop%fn (bJ,"__init__",Aj))(GF:unop%hB Aj)(Hy:unop%lk (Aj,ZN,_y,"__init__","Course.__init__",u_,YK,Wh,aaC,Uz,Mb,Vy,abE))(EO:binop%cd Mb "Course.__init__")(G':unop%az Aj)(D8:unop%fn (bJ,"tell",Ak))(GG:unop%hB Ak)(Hz:unop%lk (Ak,ZO,_z,"tell","Course.tell",Cz,YL,Wi,aaD,UA,Mc,Vz,abF))(EP:binop%cd Mc "Course.tell")(A5:unop%az Ak)(D9:binop%ns "kind_of" FO)(HA:unop%lk (FO,ZQ,_B,"kind_of","kind_of",CU,YN,Wk,aaF,UC,Me,VB,abG))(ER:binop%cd Me "kind_of")(Ha:unop%az FO)(D_:unop%fn (bJ,"be_loud",Al))(GH:unop%hB Al)(HB:unop%lk (Al,ZR,_C,"be_loud","Course.be_loud",Cr,YO,Wl,aaG,UD,Mf,VC,abH))(ES:binop%cd Mf "Course.be_loud")(A6:unop%az Al)(D':unop%fn (bJ,"alarm",Am))(GI:unop%hB Am)(HC:unop%lk (Am,ZS,_D,"alarm","Course.alarm",Cy,YP,Wm,aaH,UE,Mg,VD,abI))(ET:binop%cd Mg "Course.alarm")(A7:unop%az Am)(Ea:unop%fn (bJ,"come_in",An))(GJ:unop%hB An)(HD:unop%lk (An,ZT,_E,"come_in","Course.come_in",Cq,YQ,Wn,aaI,UG,Mh,VE,abJ))(EU:binop%cd Mh "Course.come_in")(A8:unop%az An)(Eb:unop%fn (bJ,"disturb",Ao))(GK:unop%hB Ao)(HE:unop%lk (Ao,ZU,_F,"disturb","Course.disturb",Cp,YR,Wo,aaJ,UH,Mi,VF,abK))(EV:binop%cd Mi "Course.disturb")(A9:unop%az Ao)(Ec:unop%fn (bJ,"line",Ap))(GL:unop%hB Ap)(HF:unop%lk (Ap,ZV,_G,"line","Course.line",CA,YS,Wq,aaK,UI,Mj,VG,abL))(EW:binop%cd Mj "Course.line")(A_:unop%az Ap)(Ed:binop%ns "code_of" FP)(HG:unop%lk (FP,ZW,_H,"code_of","code_of",CV,YT,Wr,aaL,UJ,Mk,VH,abM))(EX:binop%cd Mk "code_of")(Hb:unop%az FP)(Ee:unop%fn (bJ,"is_used_up",Aq))(GN:unop%hB Aq)(HH:unop%lk (Aq,ZX,_I,"is_used_up","Course.is_used_up",Ci,YU,Ws,aaM,UK,Ml,VI,abN))(EY:binop%cd Ml "Course.is_used_up")(A':unop%az Aq)(Ef:unop%fn (bJ,"take_wrong",Ar))(GO:unop%hB Ar)(HI:unop%lk (Ar,ZY,_J,"take_wrong","Course.take_wrong",Cf,YV,Wt,aaN,UL,Mm,VJ,abO))(EZ:binop%cd Mm "Course.take_wrong")(Ba:unop%az Ar)(Eg:unop%fn (bJ,"is_untimely",As))(GP:unop%hB As)(HJ:unop%lk (As,ZZ,_K,"is_untimely","Course.is_untimely",Cd,YW,Wu,aaO,UM,Mn,VK,abP))(E0:binop%cd Mn "Course.is_untimely")(Bb:unop%az As)(Eh:unop%fn (bJ,"bare_zones",Au))(GQ:unop%hB Au)(HK:unop%lk (Au,Z1,_M,"bare_zones","Course.bare_zones",u5,YY,Ww,aaQ,UO,Mp,VM,abR))(E1:binop%cd Mp "Course.bare_zones")(Bc:unop%az Au)(Ei:unop%fn (bJ,"what_is_against",Av))(GR:unop%hB Av)(HL:unop%lk (Av,Z2,_N,"what_is_against","Course.what_is_against",Cc,YZ,Wx,aaR,UP,Mq,VN,abS))(E2:binop%cd Mq "Course.what_is_against")(Bd:unop%az Av)(Ej:unop%fn (bJ,"end_leaving",Aw))(GS:unop%hB Aw)(HM:unop%lk (Aw,Z3,_O,"end_leaving","Course.end_leaving",Ce,Y0,Wy,aaS,UQ,Mr,VO,abT))(E3:binop%cd Mr "Course.end_leaving")(Be:unop%az Aw)(Ek:unop%fn (bJ,"do_set",Ax))(GU:unop%hB Ax)(HN:unop%lk (Ax,Z4,_P,"do_set","Course.do_set",Cu,Y1,Wz,aaT,UR,Ms,VP,abU))(E4:binop%cd Ms "Course.do_set")(Bf:unop%az Ax)(El:unop%fn (bJ,"do_unset",Ay))(GV:unop%hB Ay)(HO:unop%lk (Ay,Z5,_Q,"do_unset","Course.do_unset",Cn,Y2,WA,aaU,US,Mt,VQ,abV))(E5:binop%cd Mt "Course.do_unset")(Bg:unop%az Ay)(Em:unop%fn (bJ,"do_deed",Az))(GW:unop%hB Az)(HP:unop%lk (Az,Z6,_R,"do_deed","Course.do_deed",Co,Y3,WB,aaV,UT,Mu,VR,abW))(E6:binop%cd Mu "Course.do_deed")(Bh:unop%az Az)(En:unop%fn (bJ,"take_right",AA))(GX:unop%hB AA)(HQ:unop%lk (AA,Z7,_S,"take_right","Course.take_right",Cg,Y4,WC,aaW,UU,Mv,VS,abX))(E7:binop%cd Mv "Course.take_right")(Bi:unop%az AA)(Eo:unop%fn (bJ,"code",AB))(GY:unop%hB AB)(HR:unop%lk (AB,Z8,_T,"code","Course.code",CB,Y5,WD,aaX,UW,Mw,VT,abY))(E8:binop%cd Mw "Course.code")(Bj:unop%az AB)(Ep:binop%ns "lessened" FQ)(HS:unop%lk (FQ,Z9,_U,"lessened","lessened",CJ,Y6,WE,aaY,UX,Mx,VU,abZ))(E9:binop%cd Mx "lessened")(Hc:unop%az FQ)(Er:unop%fn (bJ,"count_down",AD))(GZ:unop%hB AD)(HT:unop%lk (AD,Z_,_V,"count_down","Course.count_down",Ck,Y7,WG,aaZ,UY,My,VV,ab0))(E_:binop%cd My "Course.count_down")(Bk:unop%az AD)(Es:unop%fn (bJ,"end_coming",AE))(G0:unop%hB AE)(HU:unop%lk (AE,_a,_X,"end_coming","Course.end_coming",Cj,Y9,WI,aa1,U0,MA,VX,ab2))(E':binop%cd MA "Course.end_coming")(Bl:unop%az AE)(Et:unop%fn (bJ,"end_time",AF))(G1:unop%hB AF)(HV:unop%lk (AF,_b,_Y,"end_time","Course.end_time",Cm,Y_,WJ,aa2,U1,MB,VY,ab3))(Fb:binop%cd MB "Course.end_time")(Bm:unop%az AF)(Eu:unop%fn (bJ,"ticks",AG))(G2:unop%hB AG)(HW:unop%lk (AG,_c,_Z,"ticks","Course.ticks",Cw,Y',WK,aa3,U2,MC,VZ,ab4))(Fc:binop%cd MC "Course.ticks")(Bn:unop%az AG)(Ew:unop%fn (bJ,"happen",AH))(G3:unop%hB AH)(HX:unop%lk (AH,_d,aaa,"happen","Course.happen",Ct,Za,WL,aa4,U3,MD,V0,ab5))(Fd:binop%cd MD "Course.happen")(Bo:unop%az AH)(Ex:binop%ns "course_of" FR)(HY:unop%lk (FR,_e,aab,"course_of","course_of",CG,Zb,WM,aa5,U4,ME,V1,ab6))(Fe:binop%cd ME "course_of")(Hd:unop%az FR)(Ey:binop%ns "gone" FT)(HZ:unop%lk (FT,_g,aac,"gone","gone",Dv,Zc,WN,aa6,U5,MF,V2,ab7))(Ff:binop%cd MF "gone")(He:unop%az FT)(Ez:binop%ns "words" FU)(H0:unop%lk (FU,_h,aad,"words","words",zj,Zd,WO,aa7,U6,MG,V3,ab8))(Fg:binop%cd MG "words")(Hf:unop%az FU)(EA:binop%ns "_law_state" FV)(H2:unop%lk (FV,_i,aae,"_law_state","_law_state",CO,Ze,WQ,aa8,U7,MH,V4,ab9))(Fh:binop%cd MH "_law_state")(Hg:unop%az FV)(EB:binop%ns "law" FW)(H3:unop%lk (FW,_j,aaf,"law","law",r3,Nw,MR,NX,LW,Fp,MQ,ab_))(Fi:binop%cd Fp "law")(Hh:unop%az FW)(l':unop%zn "enumerate")(fT:unop%zn "tuple")(mN:unop%zn "range")(j1:unop%zn "len")(oy:unop%zn "zip")(ox:unop%zn "max")(rW:unop%zn "dict")(rX:unop%zn "list")(pE:unop%zn "sorted")(rY:unop%zn "repr")(sD:PySem.W.nsIn K ajP "WRONG_IN_A_ROW"=some (some (.int 3 Je)))(sC:PySem.W.nsIn K ajP "TICKS_LOCKED"=some (some (.int 90 Jd)))(wV:binop%ns "KINDS_SHUT_TO_SET" uh)(IT:K.lookup uh=some ⟨.type "tuple",aam,.seq #[.str "day" acM,.str "once" acN] Zt,acg⟩)(wU:binop%ns "KINDS_LEFT_BY" ug)(IS:K.lookup ug=some ⟨.type "tuple",aal,.seq #[.str "inner" acJ,.str "way" acK] Zs,acf⟩):
  ∃fd:gj,(∀(s:aP) (v:ao),BindsTo s fd ⟨[v],[]⟩ [("_law_script",v)])/\∀base:b0,K.In base->base.Ns ajP mg->fw l.prog w K mg base ajN 12 cA fd ["_law_script"] (@spT t0 K 1 wj):=by
 have e:=XG.symm.trans (gu X G EB);cases e;refine⟨ry "law" "law" (vN r3) (jx r3) (cp r3) .none Nw MR NX LW Fp MQ,λs v=>.of_eq rfl,λbase _ _=>?_⟩;letI tt:c2:=⟨[],λc=>match c with|1=>["mode","left","came","lines","shunts","siren","alarms","tries","locked","used","went","story"]|0=>["plan","mode","left","came","lines","shunts","siren","alarms","tries","locked","used","past","told"]|_=>[],λc=>match c with|0=>some bJ|_=>none⟩;have cm:hu 1 ["mode","left","came","lines","shunts","siren","alarms","tries","locked","used","went","story"]:=⟨rfl,rfl,by decide +kernel,by decide⟩;have a_:hb K 0 bJ ["plan","mode","left","came","lines","shunts","siren","alarms","tries","locked","used","past","told"]:=⟨rfl,rfl,⟨IP,Gf,IQ,I6⟩,by decide +kernel,λf hf=>by
  simp only[cZ,kp,or_false] at hf;rcases hf with rfl|rfl|rfl|rfl|rfl|rfl|rfl|rfl|rfl|rfl|rfl|rfl|rfl
  ·exact Ii
  ·exact Ij
  ·exact Io
  ·exact Ip
  ·exact Iq
  ·exact Ir
  ·exact It
  ·exact Iu
  ·exact Iv
  ·exact Iw
  ·exact Ik
  ·exact Il
  ·exact Im,by decide⟩
 replace l':=o6 X G l';replace fT:=o6 X G fT;replace mN:=o6 X G mN;replace j1:=o6 X G j1;replace oy:=o6 X G oy;replace ox:=o6 X G ox;replace rW:=o6 X G rW;replace rX:=o6 X G rX;replace pE:=o6 X G pE;replace rY:=o6 X G rY;replace sD:=gu X G sD;replace sC:=gu X G sC;replace wV:=gu X G wV;have acR:∃(o:Obj) (its:Array ao) (n:Nat),K.lookup uh=some o/\o.cls=.type "tuple"/\o.data=.seq its n/\its.size<=cF/\Vals ((["day","once"]:List Str).map V.str) its.toList:=⟨_,_,_,IT,rfl,rfl,by show 2<=cF;decide,(.cons ⟨_,rfl⟩ (.cons ⟨_,rfl⟩ .nil))⟩;replace wU:=gu X G wU;have acQ:∃(o:Obj) (its:Array ao) (n:Nat),K.lookup ug=some o/\o.cls=.type "tuple"/\o.data=.seq its n/\its.size<=cF/\Vals ((["inner","way"]:List Str).map V.str) its.toList:=⟨_,_,_,IS,rfl,rfl,by show 2<=cF;decide,(.cons ⟨_,rfl⟩ (.cons ⟨_,rfl⟩ .nil))⟩;have aX:=ea (st:=CR) cb c3 e7;have LI:=unop%bQ (tN 0 aX (gu X G a1));have c0:=ea (st:=za) b_ dF ec;have Te:=unop%bQ (KJ 1 c0 (gu X G a2) l' (unop%mo LI) fT mN);have hK:=ea (st:=CS) Bp fx jm;have S8:=unop%bQ (Km 0 hK (gu X G iC) cm j1);have kU:=ea (st:=vD) Bq c4 mv;have S5:=unop%bQ (K9 0 kU (gu X G kZ) fT);have iW:=ea (st:=CQ) H4 jJ Hi;have Ta:=unop%bQ (Kl 0 iW (gu X G j7) j1);have T7:=ea (st:=zk) H5 Fj Hj;have Tf:=unop%bQ (K8 1 T7 (gu X G k0) fT (unop%mo Ta) j1 mN (unop%mo LI));have j4:=ea (st:=CF) H6 Fl Hk;have S9:=unop%bQ (JW 0 j4 (gu X G mU) j1);have j5:=ea (st:=CP) H7 Fm Hl;have Td:=unop%bQ (C3 1 j5 (gu X G nM) (unop%mo S9));have T8:=ea (st:=Dh) H8 Fn Hm;have wm:=unop%bQ (jy 0 T8 (gu X G kA) cm);have Tn:=ea (st:=CT) Hq EG G4;have DM:=unop%bQ (aj0 1 Tn (gu X G nL) cm (unop%mo wm));have To:=ea (st:=zb) Hr EH G5;have Tc:=unop%bQ (KL 2 To (gu X G D0) cm (unop%mo wm) (unop%mo DM));have Tp:=ea (st:=Dt) Hs EI G6;have LJ:=unop%bQ (zD 2 Tp (gu X G D1) cm (unop%mo wm) l' (unop%mo DM));have Tq:=ea (st:=Du) Ht EJ G7;have S':=unop%bQ (Ll 3 Tq (gu X G D2) cm (unop%mo wm) (unop%mo LJ));have Tr:=ea (st:=vx) Hu EK G8;have S_:=unop%bQ (KN 4 Tr (gu X G D3) cm (unop%mo S') (unop%mo wm) oy l');have Ts:=ea (st:=C6) Hv EL G9;have Th:=unop%bQ (KI 3 Ts (gu X G D4) cm ox (unop%mo LJ) (unop%mo DM));have Tt:=ea (st:=CK) Hw EM G_;have Tb:=unop%bQ (J6 5 Tt (gu X G D5) cm (unop%mo Tc) (unop%mo S_) mN (unop%mo Th));have Tu:=ea (st:=Cx) Hx EN A4;have S0:=unop%bQ (JL 0 Tu (⟨D6,GD,A4⟩) a_ fT);have Tv:=ea (st:=u_) Hy EO G';have SJ:=unop%bQ (adl 0 Tv ⟨Ia,D7,GF,Hp⟩ (gu X G EC) a_ rW rX oy);have Tw:=ea (st:=Cz) Hz EP A5;have nD:=unop%bQ (hr 0 Tw (⟨D8,GG,A5⟩) a_);have Tx:=ea (st:=CU) HA ER Ha;have LH:=unop%bQ (y_ 0 Tx (gu X G D9));have Tz:=ea (st:=Cr) HB ES A6;have LD:=unop%bQ (ym 0 Tz (⟨D_,GH,A6⟩) a_);have TA:=ea (st:=Cy) HC ET A7;have zS:=unop%bQ (pj 1 TA (⟨D',GI,A7⟩) a_ (unop%mo LD) (unop%mo nD));have TB:=ea (st:=Cq) HD EU A8;have SM:=unop%bQ (JG 2 TB (⟨Ea,GJ,A8⟩) a_ (unop%mo nD) (unop%mo zS));have TC:=ea (st:=Cp) HE EV A9;have SO:=unop%bQ (JF 3 TC (⟨Eb,GK,A9⟩) a_ (unop%mo LH) (unop%mo zS) (unop%mo nD) (unop%mo SM))
 have TF:=ea (st:=CA) HF EW A_;have SY:=unop%bQ (JP 4 TF (⟨Ec,GL,A_⟩) a_ (unop%mo nD) (unop%mo SO));have TG:=ea (st:=CV) HG EX Hb;have S6:=unop%bQ (Kn 0 TG (gu X G Ed));have TH:=ea (st:=Ci) HH EY A';have SX:=unop%bQ (Ju 0 TH (⟨Ee,GN,A'⟩) a_);have TJ:=ea (st:=Cf) HI EZ Ba;have S2:=unop%bQ (Js 1 TJ (⟨Ef,GO,Ba⟩) a_ (unop%mo nD) (unop%mo LD) sD sC);have TK:=ea (st:=Cd) HJ E0 Bb;have SW:=unop%bQ (Jr 1 TK (⟨Eg,GP,Bb⟩) a_ (unop%mo LH));have TL:=ea (st:=u5) HK E1 Bc;have LC:=unop%bQ (yi 0 TL (⟨Eh,GQ,Bc⟩) a_);have TM:=ea (st:=Cc) HL E2 Bd;have S4:=unop%bQ (Jp 2 TM (⟨Ei,GR,Bd⟩) a_ (unop%mo SW) (unop%mo LC) wV acR);have TN:=ea (st:=Ce) HM E3 Be;have LF:=unop%bQ (yf 2 TN (⟨Ej,GS,Be⟩) a_ (unop%mo nD) (unop%mo LC) (unop%mo zS) wU acQ);have TO:=ea (st:=Cu) HN E4 Bf;have SQ:=unop%bQ (JI 3 TO (⟨Ek,GU,Bf⟩) a_ (unop%mo nD) (unop%mo LF));have TP:=ea (st:=Cn) HO E5 Bg;have SR:=unop%bQ (JC 1 TP (⟨El,GV,Bg⟩) a_ (unop%mo nD));have TQ:=ea (st:=Co) HP E6 Bh;have SP:=unop%bQ (JE 4 TQ (⟨Em,GW,Bh⟩) a_ (unop%mo SQ) (unop%mo SR) pE (unop%mo nD));have TR:=ea (st:=Cg) HQ E7 Bi;have S1:=unop%bQ (Jt 5 TR (⟨En,GX,Bi⟩) a_ (unop%mo S4) (unop%mo SP) (unop%mo nD));have TS:=ea (st:=CB) HR E8 Bj;have SK:=unop%bQ (JQ 6 TS (⟨Eo,GY,Bj⟩) a_ (unop%mo S6) (unop%mo nD) (unop%mo SX) (unop%mo S2) (unop%mo S1));have TU:=ea (st:=CJ) HS E9 Hc;have Ti:=unop%bQ (y2 0 TU (gu X G Ep) ox);have TV:=ea (st:=Ck) HT E_ Bk;have SN:=unop%bQ (yh 1 TV (⟨Er,GZ,Bk⟩) a_ (unop%mo Ti));have TX:=ea (st:=Cj) HU E' Bl;have SS:=unop%bQ (Jv 2 TX (⟨Es,G0,Bl⟩) a_ (unop%mo zS));have TY:=ea (st:=Cm) HV Fb Bm;have SU:=unop%bQ (JB 3 TY (⟨Et,G1,Bm⟩) a_ (unop%mo LF) (unop%mo SS));have TZ:=ea (st:=Cw) HW Fc Bn;have S3:=unop%bQ (JK 4 TZ (⟨Eu,G2,Bn⟩) a_ (unop%mo SN) (unop%mo SU));have T1:=ea (st:=Ct) HX Fd Bo;have SV:=unop%bQ (JH 7 T1 (⟨Ew,G3,Bo⟩) a_ (unop%mo SY) (unop%mo SK) (unop%mo S3));have T2:=ea (st:=CG) HY Fe Hd;have LG:=unop%bQ (yU 8 T2 (gu X G Ex) a_ (unop%mo SJ) (unop%mo SV));have T3:=ea (st:=Dv) HZ Ff He;have S7:=unop%bQ (Lm 10 T3 (gu X G Ey) a_ (unop%mo S0) (unop%mo LG));have T4:=ea (st:=zj) H0 Fg Hf;have Tj:=unop%bQ (K7 10 T4 (gu X G Ez) a_ fT (unop%mo LG));have T5:=ea (st:=CO) H2 Fh Hg;have Tg:=unop%bQ (Kk 0 T5 (gu X G EA) cm fT pE);have T6:=ea (st:=r3) H3 Fi Hh;exact ahj rfl (aja (k:=11) T6 cm (unop%mo Te) (unop%mo S8) (unop%mo S5) (unop%mo Tf) (unop%mo Td) (unop%mo Tb) (unop%mo S7) (unop%mo Tj) fT rY (unop%mo Tg))
def walk{l:PySem.W.OpenLaw}{q:cR}{loose:List Str}{uf:(Str->Option ao)->b0->Prop}{q0:cu->b0->Prop}{d:DefRec}{K:Params->bl}(a8:l.most=some 63)(w3:d.params.defaults=[])(ia:∀w:cu,NN (K w.params)=true)(F8:∀(w:cu) (h:b0),q0 w h->(K w.params).In h)(F:∀(w:cu) (mg:Str->Option ao) (cA:aj) (h:b0),(K w.params).In h->h.Ns ajP mg->mg d.name=some (.ref cA) ->
   ∃fd:gj,(∀(s:aP) (u:ao),BindsTo s fd ⟨[u],[]⟩ [("_law_script",u)])/\∀base:b0,(K w.params).In base->base.Ns ajP mg->fw l.prog w (K w.params) mg base ajN 12 cA fd ["_law_script"] (@spT t0 (K w.params) 1 wj)):
  PySem.W.WalkO q loose uf q0 l.row.toRowW d [] (λf vs=>PySem.call f vs):=
 bo.ac2 (n:=63) (k:=12) (x:="_law_script") (eF:=λ_=>ajN) (sp:=λw=>@spT t0 (K w.params) 1 wj) a8 (by decide) w3 ⟨rfl,by decide,by decide,rfl⟩ F8 F (λw _ _ ns aw _ fz=>ae1 (ia w) (agh ns aw) fz) λ_ _ _ _ _ z=>z
end je
open PySem PySem.W PyProof.Rows
set_option maxRecDepth 100000 in
set_option maxHeartbeats 0 in
theorem PySem.Challenge.cw_doorwatch_k10_what_happens_holds : PySem.Challenge.rw_doorwatch_k10_what_happens.Holds := by
 w_on;o_law;k_head;(case hw=>w_witness2)
 k_fill
 refine je.walk (l:=PySem.Challenge.rw_doorwatch_k10_what_happens) rfl rfl ?L (λw h Y=>PySem.W.kIn_of Y) ?F
 case L=>
  intro w
  first|rfl|(with_unfolding_all rfl)|kernel_rfl
 case F=>
  intro w mg cA h oA G w9;refine' je.all_mk oA G w9 ?EC ?IP ?Gf ?IQ ?I6 ?Ia ?Hp ?Ii ?Ij ?Io ?Ip ?Iq ?Ir ?It ?Iu ?Iv ?Iw ?Ik ?Il ?Im ?a1 ?cb ?c3 ?e7 ?a2 ?b_ ?dF ?ec ?iC ?Bp ?fx ?jm ?kZ ?Bq ?c4 ?mv ?j7 ?H4 ?jJ ?Hi ?k0 ?H5 ?Fj ?Hj ?mU ?H6 ?Fl ?Hk ?nM ?H7 ?Fm ?Hl ?kA ?H8 ?Fn ?Hm ?nL ?Hq ?EG ?G4 ?D0 ?Hr ?EH ?G5 ?D1 ?Hs ?EI ?G6 ?D2 ?Ht ?EJ ?G7 ?D3 ?Hu ?EK ?G8 ?D4 ?Hv ?EL ?G9 ?D5 ?Hw ?EM ?G_ ?D6 ?GD ?Hx ?EN ?A4 ?D7 ?GF ?Hy ?EO ?G' ?D8 ?GG ?Hz ?EP ?A5 ?D9 ?HA ?ER ?Ha ?D_ ?GH ?HB ?ES ?A6 ?D' ?GI ?HC ?ET ?A7 ?Ea ?GJ ?HD ?EU ?A8 ?Eb ?GK ?HE ?EV ?A9 ?Ec ?GL ?HF ?EW ?A_ ?Ed ?HG ?EX ?Hb ?Ee ?GN ?HH ?EY ?A' ?Ef ?GO ?HI ?EZ ?Ba ?Eg ?GP ?HJ ?E0 ?Bb ?Eh ?GQ ?HK ?E1 ?Bc ?Ei ?GR ?HL ?E2 ?Bd ?Ej ?GS ?HM ?E3 ?Be ?Ek ?GU ?HN ?E4 ?Bf ?El ?GV ?HO ?E5 ?Bg ?Em ?GW ?HP ?E6 ?Bh ?En ?GX ?HQ ?E7 ?Bi ?Eo ?GY ?HR ?E8 ?Bj ?Ep ?HS ?E9 ?Hc ?Er ?GZ ?HT ?E_ ?Bk ?Es ?G0 ?HU ?E' ?Bl ?Et ?G1 ?HV ?Fb ?Bm ?Eu ?G2 ?HW ?Fc ?Bn ?Ew ?G3 ?HX ?Fd ?Bo ?Ex ?HY ?Fe ?Hd ?Ey ?HZ ?Ff ?He ?Ez ?H0 ?Fg ?Hf ?EA ?H2 ?Fh ?Hg ?EB ?H3 ?Fi ?Hh ?l' ?fT ?mN ?j1 ?oy ?ox ?rW ?rX ?pE ?rY ?sD ?sC ?wV ?IT ?wU ?IS
  (case EC|IP|Gf|IQ|I6|Ia|Hp|Ii|Ij|Io|Ip|Iq|Ir|It|Iu|Iv|Iw|Ik|Il|Im|a1|cb|c3|e7|a2|b_|dF|ec|iC|Bp|fx|jm|kZ|Bq=>k_is)
  (case c4|mv|j7|H4|jJ|Hi|k0|H5|Fj|Hj|mU|H6|Fl|Hk|nM|H7|Fm|Hl|kA|H8|Fn|Hm|nL|Hq|EG|G4|D0|Hr|EH|G5|D1|Hs|EI|G6|D2|Ht|EJ|G7|D3|Hu|EK|G8|D4|Hv|EL|G9|D5|Hw|EM|G_|D6|GD|Hx|EN|A4=>k_is)
  (case D7|GF|Hy|EO|G'|D8|GG|Hz|EP|A5|D9|HA|ER|Ha|D_|GH|HB|ES|A6|D'|GI|HC|ET|A7|Ea|GJ|HD|EU|A8|Eb|GK|HE|EV|A9|Ec|GL|HF|EW|A_|Ed|HG|EX|Hb|Ee|GN|HH|EY|A'|Ef|GO|HI=>k_is)
  (case EZ|Ba|Eg|GP|HJ|E0|Bb|Eh|GQ|HK|E1|Bc|Ei|GR|HL|E2|Bd|Ej|GS|HM|E3|Be|Ek|GU|HN|E4|Bf|El|GV|HO|E5|Bg|Em|GW|HP|E6|Bh|En|GX|HQ|E7|Bi|Eo|GY|HR|E8|Bj|Ep|HS|E9|Hc=>k_is)
  (case Er|GZ|HT|E_|Bk|Es|G0|HU|E'|Bl|Et|G1|HV|Fb|Bm|Eu|G2|HW|Fc|Bn|Ew|G3|HX|Fd|Bo|Ex|HY|Fe|Hd|Ey|HZ|Ff|He|Ez|H0|Fg|Hf|EA|H2|Fh|Hg|EB|H3|Fi|Hh|l'|fT|mN=>k_is)
  (case j1|oy|ox|rW|rX|pE|rY|sD|sC|wV|IT|wU|IS=>k_is)
end
end
