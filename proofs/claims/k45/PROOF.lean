import PyProof.Rows.All
import Wide.All
import OpenK.AllK
import Wide.FinOn
import Lean
import PyProof.EqAt
import PyProof.EqKinds
import PyProof.TupleCall
import PyProof.P3Statements
import KE.KSortTup
import PyProof.AttrMissHeap
import PyProof.ZipIter
import PyProof.Draws
import PyProof.ListMulRoad
import Wide.Seal
import KE.KLam
import KE.KNest
import KE.KNestM
import KE.KIsAll
import PyProof.ExcArgs
import PyProof.ReprStr
import PyProof.FString
import PyProof.FitsInt
import KE.KMinKey
import PySem.Challenge.RW_doorwatch_k45_whole_boxes_side_by_side
set_option Elab.async false
set_option linter.all false
set_option compiler.extract_closed false
set_option genSizeOfSpec false
set_option maxRecDepth 100000
set_option maxHeartbeats 0
open PySem renaming Value → aj, Addr → ah, Around → cY, World → cv, Heap → bT, Expr → bz
open PySem.W renaming Frag → a_, keepIn → mI, findIn → k1, fnOf → p1, mg_of → gL, mg_none_of → oH, emptyDict → oI, instObj → p5
open Option renaming bind_eq_some_iff → cg, map_eq_some_iff → dX, bind_some → de, map_some → gd
open PySem renaming wpAny_bind → aV, Shared → aK, wpAny_pure → cw, starEach → bS, FuncData → fU, sizeLine → cp, mainGlobals → j2, Program → cF, wpAny → bp, wpAny_mono → fL, mem_of_lookup → vJ, keywordEach → nI, wpAny_holding → k4, backTo → ee, wpAny_Call_Name_kw → th, wpAny_field → ha, attributeBase → jJ, wpAny_callSpecial?_slot → p9, sizeLine_eq → mM, wpAny_seqItems → nJ, wpAny_pyIter_tuple → vM, compareOp → iz, codeAny_builtin → ti, wpAny_newObj_type → oP, wpAny_call_entry → oQ, wpAny_setField_rec → rA, swapsWith → iS, behindInMarks → oR, wpAny_truthy_bool → tj, assignEach → k5, binaryOp → k6, NameKind → k7, model → bL, foldedSetIterable → oS
open PySem.Heap renaming get?_push_of_some → c2, lt_size → cP, get?_push_size → g9, size_push → jF, get?_update_other → vN
open List renaming mem_cons_of_mem → d6, mem_cons → cM, map_cons → dC, mem_cons_self → fA, replicate → dU, size_toArray → er, getElem?_eq_some_iff → ed, mem_map → et, nodup_cons → gb, getElem?_eq_getElem → h6, length_cons → gK, mem_singleton → j3, mem_append → j4, length_map → gc, getElem?_map → ho, pairwise_cons → lU, map_nil → hO, mem_append_right → kr, lookup_cons → j5, set_cons_zero → je, lookup → iR, set_cons_succ → jI, getElem?_append_right → lV, nodup_append → oJ, getElem?_append_left → h7, find?_cons → oK, replicate_succ → rx, mem_of_getElem? → p4, append_nil → mJ, zip_cons_cons → p7, length_append → oL, length_filter_le → zt, getElem?_set → rz, flatten_cons → tf, not_mem_nil → mL, getElem?_cons_zero → nG, getElem?_cons_succ → oO, length_nil → p8, append_assoc → vK, nil_append → vL, map_map → nH
open Nat renaming le_refl → dD, lt_of_lt_of_le → jd, ne_of_lt → eL, ne_of_gt → g_, le_trans → lW, zero_le → ku, le_succ → gu
open PySem.Builtin.SmallTypes renaming nextOf → kq, ownedTupleIsFree → p2
open PySem.Builtin.Tuple renaming tupleExact → rv
open Function renaming comp_def → nF
open Bool renaming and_eq_true → jG, false_eq_true → p3, false_ne_true → ry
open PySem.PyData renaming depthAll → jH, canLayAll0 → ks, str → k2, eqv → mK, depth → oM
open PyProof.Rows renaming slot_tuple_getitem → aiw, callWith_type1 → tc
open PySem.Builtin.Slice renaming slicePlaces → zr
open Array renaming getElem?_eq_getElem → tb, length_toList → p6
open PySem.Around renaming under_plainId → td
open False renaming elim → k3
open PySem.PassesOwn renaming never → oN
open PySem.F renaming slot_tuple_iterator_next → zu
open Option.some renaming inj → eB
open Int renaming emod_nonneg → tg, emod_lt_of_pos → zv
namespace PySem.W.Fast
def tw15429385971363666271:=0
def tw12376439186903215620:=0
def tw18149983419541712720:=0
def tw7526466218362008161:=0
def tw3666721025003158478:=0
def tw6406085604864314714:=0
def tw13381117725619230568:=0
def tw1101299556793546756:=0
def tw5359978625821299488:=0
def tw8301127695467301247:=0
def tw16478626181663473535:=0
def tw3643211753136111833:=0
def tw16388723925942211614:=0
def tw17469012456282777031:=0
def tw1407576836763026542:=0
def tw6387740611804709309:=0
def tw15385819053866026467:=0
def tw1269708767032134010:=0
def tw4973466044351807733:=0
def tw16121412729135741570:=0
def tw1250797171103402323:=0
def tw3344808529644495995:=0
def tw2192269641367663098:=0
def tw10436280121389946984:=0
def tw9942528872687723996:=0
def tw6263669492115962509:=0
def tw16052689853611763792:=0
def tw4614881120634051201:=0
def tw15686057375795196899:=0
def tw10660219874068458902:=0
def tw9001448501605518223:=0
def tw10499289188147997714:=0
def tw4703350186074804697:=0
def tw3329744159637028479:=0
def tw8063974571466088207:=0
def tw113699554725147942:=0
def tw3598849714938211964:=0
def tw1093387585915383071:=0
def tw9461629098282430200:=0
def tw9197872558960518522:=0
def tw8680386820749993689:=0
def tw7510759740331827384:=0
def tw4331432061293301133:=0
def tw9209859272005951470:=0
def tw3524369769240274801:=0
def tw17414888639195876364:=0
def tw11723200592097489484:=0
def tw11079656487594583000:=0
def tw14091312161326879253:=0
def tw1596646850028078881:=0
def tw11264758924325459757:=0
def tw2956199141448004127:=0
def tw115157248594800622:=0
def tw8868127775039352179:=0
def tw11818627687414218599:=0
def tw5770706236551857050:=0
def tw12490663582264675567:=0
def tw13014624783409849266:=0
def tw11192284820233877097:=0
def tw9345879471793209124:=0
def tw876331862619316359:=0
def tw4600809933045612836:=0
def tw23857391706733830:=0
def tw14863982132115416798:=0
def tw1239627592419794000:=0
def tw5213524804615396274:=0
def tw9471610551293517149:=0
def tw10717865902116391053:=0
def tw10011716512741497425:=0
def tw5981785989011054425:=0
def tw9033362635357911382:=0
def tw16774635401428488156:=0
def tw1798219692904442443:=0
def tw7895349750719904840:=0
def tw3232498172631873012:=0
def tw15342911966305877941:=0
def tw8589225388296815974:=0
def tw3775642406496466371:=0
def tw9488523223305400254:=0
def tw14150249793488965033:=0
def tw7383137326587671768:=0
def tw619572675731129466:=0
def tw1664272796921139427:=0
def tw17724433207245194822:=0
def tw14214150522715122754:=0
def tw980602803762538405:=0
def tw1520455042115317433:=0
def tw17628490988094365547:=0
def tw16603108416348008396:=0
def tw9149857771926867048:=0
def tw15776052724333421506:=0
def tw9291957152616803144:=0
def tw14880066800773238181:=0
def tw17870171567079639054:=0
def tw5572881094037223506:=0
def tw8298091632266729480:=0
def tw3334272010726589242:=0
def tw14378627806686811955:=0
def tw5621462335227098108:=0
def tw2148133840792179421:=0
def tw16182526686887790054:=0
def tw11538057139875957672:=0
def tw10054302216313899114:=0
def tw9906217110482721640:=0
def tw281126615555425978:=0
def tw9895555003943328767:=0
def tw17393230157568835811:=0
def tw4784092675485913162:=0
def tw17534851560358867353:=0
def tw6874188880499278525:=0
def tw18192057078559269306:=0
def tw1066683745135012981:=0
def tw17998493048733319263:=0
def tw1776493731722777401:=0
def tw5998183170750721051:=0
def tw15776278272895102199:=0
def tw13126207227008870413:=0
def tw811423880201704493:=0
def tw250335876184325166:=0
def tw11467086199297076514:=0
def tw12773182008048562929:=0
def tw7930068497703769564:=0
def tw1642766117083960585:=0
def tw363887108320092930:=0
def tw2378392270080467546:=0
def tw7347532498410207623:=0
def tw17450801471324170502:=0
def tw15397597490889552186:=0
def tw16151560757036257931:=0
def tw6588135602461499950:=0
def tw10181368048063866436:=0
def tw6071580289681635931:=0
def tw7346695507918559594:=0
def tw13768922533314358479:=0
def tw15589647409272556036:=0
def tw6729162309165372872:=0
def tw3777331396517572908:=0
def tw12600923545813155042:=0
def tw9124374987539732954:=0
def tw11233291209759045722:=0
def tw5881198115494257530:=0
def tw2197055690671043764:=0
def tw2369431929390791080:=0
def tw13982371294377727811:=0
def tw14791196137797633465:=0
def tw11685258968163986289:=0
def tw12984140604030806190:=0
def tw14273945863019704079:=0
def tw17698776665763459549:=0
def tw9291031545991354018:=0
def tw14614415220203598777:=0
def tw7808544712730629281:=0
def tw1383036623366370677:=0
def tw11222881892396176364:=0
def tw11336855777400863332:=0
def tw9106627024124945575:=0
def tw419698208284959836:=0
def tw4476426338415139078:=0
def tw12810207249005950302:=0
def tw18015277941813680516:=0
def tw4575422986965953775:=0
def tw16706487862326956863:=0
def tw15620875126005735282:=0
def tw18268876555292902569:=0
def tw18370276684241597655:=0
def tw1042717276150676905:=0
def tw8227814674394837875:=0
def tw15489336214537376269:=0
def tw9112527395736709695:=0
def tw1131172481658879854:=0
def tw15857068425081762850:=0
def tw1677685434245090922:=0
def tw8249859045123964318:=0
def tw15963857851910691338:=0
def tw1933756855427075178:=0
def tw278818440344648225:=0
def tw9424514031737133268:=0
def tw159732917512264932:=0
def tw13474493523702727242:=0
def tw1577600904244579641:=0
def tw5598137997852081070:=0
def tw18203640012454353559:=0
def tw8847890474596563881:=0
def tw4452064627626131550:=0
def tw11956984019430146035:=0
def tw12790334439355891033:=0
def tw4474204137082217619:=0
def tw17796461880454245358:=0
def tw2986779037319214795:=0
def tw4635200619077536095:=0
def tw13789756299750017641:=0
def tw7722139730638675100:=0
def tw692930579313160694:=0
def tw14627250521704794771:=0
def tw11029994319852159342:=0
def tw4561192247335810930:=0
def tw13799226905695025059:=0
def tw14184976854674154283:=0
def tw4517555166613995087:=0
def tw4200634559585347632:=0
def tw14228098750215067919:=0
def tw385213847636236584:=0
def tw8637600300984784316:=0
def tw16940806076849320317:=0
def tw7016909741729635423:=0
def tw5606137636785843294:=0
def tw12586556380404397042:=0
def tw3765785443187105055:=0
def tw4990026565801862644:=0
def tw17824176209879724084:=0
def tw4475284555452830417:=0
def tw2002282223657501782:=0
def tw5290188564101774550:=0
def tw2458681039817976957:=0
def tw14394689606075783523:=0
def tw18185597193597782127:=0
def tw17272388614495209869:=0
def tw14448222155648459219:=0
def tw3606905416389266057:=0
def tw6151197797756425810:=0
def tw7101199422529273955:=0
def tw5316544697006272016:=0
def tw17004998398451869424:=0
def tw1909692430887293169:=0
def tw16003629889330370493:=0
def tw11164047989142883759:=0
def tw14296710925631984424:=0
def tw3196917436976686563:=0
def tw16355468135577006254:=0
def tw8582026732999792024:=0
def tw13127820652660624942:=0
def tw6313272418018044299:=0
def tw13592453315734467880:=0
def tw8847000737804497430:=0
def tw4565724660500121954:=0
def tw11542438281479783302:=0
def tw6685715739563424681:=0
def tw14009252009957483534:=0
def tw4838877499099913746:=0
def tw7559394850127196544:=0
def tw5911722239439891579:=0
def tw7396975808688342500:=0
def tw3603742751414407753:=0
def tw6430997991346934698:=0
def tw11802813633819132809:=0
def tw12189507381738355137:=0
def tw13431942990998343637:=0
def tw16307690880877683591:=0
def tw5721700949592779420:=0
def tw2075005557744254328:=0
def tw13778281531550056241:=0
def tw15849250011765849348:=0
def tw540043823879689169:=0
def tw12714401659446713725:=0
def tw11982103609337378254:=0
end PySem.W.Fast
noncomputable section
section
namespace bc
open PySem PySem.Spec PyProof.Rows
abbrev Key:=Sum Int Str
def qs:Key->aj->Bool
|.inl k,v=>Value.isInt k v
|.inr x,v=>Value.isStrOf x v
def XM(w:cv):Key->Int
|.inl k=>hashInt k
|.inr x=>hashStr w x
def mN:∀{k:Key} {v:aj},qs k v=true->(∃i t,k=Sum.inl i/\v=Value.int i t)\/(∃x t,k=Sum.inr x/\v=Value.str x t)
|.inl i,v,h=>by
  obtain⟨t,e⟩:=Value.isInt_shape (k:=i) (v:=v) h;exact .inl ⟨i,t,rfl,e⟩
|.inr x,v,h=>by
  obtain⟨t,e⟩:=Value.isStrOf_shape (x:=x) (v:=v) h;exact .inr ⟨x,t,rfl,e⟩
def ad_(i:Int)(t:Tok):qs (.inl i) (.int i t)=true:=by simp[qs,Value.isInt]
def ad9(x:Str)(t:Tok):qs (.inr x) (.str x t)=true:=by simp[qs,Value.isStrOf]
def agP(a b:Int):decide ((Sum.inl a:Key)=Sum.inl b)=(a==b):=by
 by_cases e:a=b
 ·subst e;simp
 ·have h:¬(Sum.inl a:Key)=Sum.inl b:=λq=>e (Sum.inl.inj q);rw[decide_eq_false h];exact (beq_eq_false_iff_ne.mpr e).symm
def agM(a b:Str):decide ((Sum.inr a:Key)=Sum.inr b)=decide (a=b):=by
 by_cases e:a=b
 ·subst e;simp
 ·have h:¬(Sum.inr a:Key)=Sum.inr b:=λq=>e (Sum.inr.inj q);rw[decide_eq_false h,decide_eq_false e]
def agO(a:Int)(b:Str):decide ((Sum.inl a:Key)=Sum.inr b)=false:=decide_eq_false (λq=>nomatch q)
def agN(a:Str)(b:Int):decide ((Sum.inr a:Key)=Sum.inl b)=false:=decide_eq_false (λq=>nomatch q)
noncomputable def gM(prog:cF)(w:cv):PySem.KeyKind prog w Key where
 is:=qs
 hash:=XM w
 inj:=λv a b ax aa=>by
  rcases mN ax with ⟨i,t,rfl,rfl⟩|⟨x,t,rfl,rfl⟩
  ·rcases mN aa with ⟨j,u,rfl,e⟩|⟨y,u,rfl,e⟩
   ·injection e with aH _;rw[aH]
   ·exact nomatch e
  ·rcases mN aa with ⟨j,u,rfl,e⟩|⟨y,u,rfl,e⟩
   ·exact nomatch e
   ·injection e with aH _;rw[aH]
 byValue:=λk v h=>by
  rcases mN h with ⟨i,t,rfl,rfl⟩|⟨x,t,rfl,rfl⟩ <;> rfl
 pyHash:=λbq h=>by
  rcases mN bq with ⟨i,t,rfl,rfl⟩|⟨x,t,rfl,rfl⟩
  ·exact wpAny_pyHash_int h
  ·exact wpAny_pyHash_str h
 eqBool:=λb7 bq h=>by
  rcases mN b7 with ⟨i,t,rfl,rfl⟩|⟨x,t,rfl,rfl⟩
  ·rcases mN bq with ⟨j,u,rfl,rfl⟩|⟨y,u,rfl,rfl⟩
   ·rw[agP] at h;exact wpAny_eqBool_int h
   ·rw[agO] at h;exact SeqAt.EqAt.int_str i t y u _ _ _ _ h
  ·rcases mN bq with ⟨j,u,rfl,rfl⟩|⟨y,u,rfl,rfl⟩
   ·rw[agN] at h;exact SeqAt.EqAt.str_int x t j u _ _ _ _ h
   ·rw[agM] at h;exact wpAny_eqBool_str h
 «strs»:=λk x t v h=>by
  rcases mN h with ⟨i,u,rfl,e⟩|⟨y,u,rfl,e⟩
  ·exact nomatch e
  ·injection e with aH _
   subst aH;cases v <;> rfl
def N9(prog:cF)(w:cv)(k:Key)(v:aj):(gM prog w).is k v=qs k v:=rfl
def NJ(prog:cF)(w:cv)(i:Int)(t:Tok):(gM prog w).is (.inl i) (.int i t)=true:=ad_ i t
def NI(prog:cF)(w:cv)(x:Str)(t:Tok):(gM prog w).is (.inr x) (.str x t)=true:=ad9 x t
end bc
namespace bc
open PySem PySem.Spec PyProof.Rows
inductive V where
|fz|c0 (b:Bool)|int (i:Int)|str (x:Str)|qM (b:Array UInt8)|uG (b:UInt64)|ref (a:ah)|ty (n:String)
 deriving DecidableEq
noncomputable def RelV:V->aj->Prop
|.fz,u=>u=Value.none
|.c0 b,u=>u=Value.bool b
|.int i,u=>∃t,u=Value.int i t
|.str x,u=>∃t,u=Value.str x t
|.qM b,u=>∃t,u=Value.bytes b t
|.uG b,u=>∃t,u=Value.float b t
|.ref a,u=>u=Value.ref a
|.ty n,u=>u=Value.type n
abbrev Vals:List V->List aj->Prop:=Paired RelV
theorem Vals.length{xs:List V}{us:List aj}(r:Vals xs us):xs.length=us.length:=Paired.length r
theorem Vals.get:∀{xs:List V} {us:List aj} {i:Nat} {x:V},Vals xs us->xs[i]?=some x->∃u,us[i]?=some u/\RelV x u
|_,_,_,_,.nil,e=>by simp at e
|_,_,0,_,.cons r _,e=>by simp at e;subst e;exact⟨_,rfl,r⟩
|_,_,i+1,x,.cons _ t,e=>by
  obtain⟨u,ab,ak⟩:=Vals.get (i:=i) (x:=x) t (by simpa using e);exact⟨u,by simpa using ab,ak⟩
theorem Vals.set{x:V}{u:aj}(r:RelV x u):∀{xs:List V} {us:List aj} (i:Nat),Vals xs us->Vals (xs.set i x) (us.set i u)
|_,_,_,.nil=>.nil
|_,_,0,.cons _ t=>.cons r t
|_,_,i+1,.cons q t=>.cons q (Vals.set r i t)
theorem Vals.append:∀{xs ys:List V} {us ws:List aj},Vals xs us->Vals ys ws->Vals (xs++ys) (us++ws)
|_,_,_,_,.nil,s=>s
|_,_,_,_,.cons r t,s=>.cons r (Vals.append t s)
theorem Vals.take:∀{xs:List V} {us:List aj} (n:Nat),Vals xs us->Vals (xs.take n) (us.take n)
|_,_,0,_=>.nil
|_,_,_+1,.nil=>.nil
|_,_,n+1,.cons r t=>.cons r (Vals.take n t)
theorem Vals.drop:∀{xs:List V} {us:List aj} (n:Nat),Vals xs us->Vals (xs.drop n) (us.drop n)
|_,_,0,r=>r
|_,_,_+1,.nil=>.nil
|_,_,n+1,.cons _ t=>Vals.drop n t
noncomputable def jt:Option V->Option aj->Prop
|some v,some u=>RelV v u
|none,none=>True
|_,_=>False
noncomputable def gz{ej:Type}:List (ej×V)->List (ej×aj)->Prop:=Paired λ(p:ej×V) (q:ej×aj)=>p.1=q.1/\RelV p.2 q.2
def d9:Key->V
|.inl i=>.int i
|.inr x=>.str x
inductive dZ where
|lst (xs:List V)
|tup (xs:List V)
|e6 (kvs:List (Key×V))|mb (kvs:List (List Key×V))
|set (S:Int->Bool) (n:Nat)
|ins (C bb:ah) (ar:List (Str×V))
|own (x:ah)
|G3 (ar:List (Str×V))
|met (f x:ah)
|km (lo aJ:Int)
|nh (o:Obj) (u:dZ)
|jZ (aT:Array aj)
|ext (nW:bT->Prop)
abbrev aw:=ah->Option dZ
def upd(H:aw)(a:ah)(o:dZ):aw:=λb=>if b=a then some o else H b
def dY{H:aw}{a:ah}{o:dZ}:upd H a o a=some o:=by unfold upd;rw[if_pos rfl]
def cQ{H:aw}{a b:ah}{o:dZ}(h:b≠a):upd H a o b=H b:=by unfold upd;rw[if_neg h]
def ahy{H:aw}{a b:ah}{o u:dZ}(h:H a=some o)(h':H b=some u)(d:o≠u):a≠b:=by
 intro e;subst e;rw[h] at h';exact d (eB h')
def jK{H:aw}{a b:ah}{o:dZ}(h:H a=some o)(h':H b=none):a≠b:=by
 intro e;subst e;rw[h] at h';cases h'
section
variable (P:cF)(w:cv)
noncomputable def hr(H:aw)(h:bT)(a:ah):dZ->Prop
|.lst xs=>xs.length<=cp/\∃(its:List aj) (n:Nat),Vals xs its/\h.get? a=some {cls:=.type "list",data:=.seq its.toArray n}
|.tup xs=>xs.length<=cp/\∃its:List aj,Vals xs its/\IsTup h a its.toArray
|.e6 kvs=>kvs.length<=cp/\(a==sysModules)=false/\∃vs,gz kvs vs/\h.DictOf (gM P w) a vs
|.mb kvs=>kvs.length<=cp/\(a==sysModules)=false/\∃xs:List (List Key×ah×aj),
   Paired (λ(p:List Key×V) (q:List Key×ah×aj)=>p.1=q.1/\H q.2.1=some (.tup (p.1.map d9))/\RelV p.2 q.2.2) kvs xs /\
   ∃o es ep,h.get? a=some o/\o.ExactDict/\o.data=.dict es ep/\es.toList=xs.map (entryOfKey (tupleKind (gM P w)))/\(xs.map (·.1)).Nodup
|.set S n=>h.SetOf (intKind P w) a S n
|.ins C bb ar=>H bb=some (.own a)/\ar.length<=1000/\bb≠a/\h.get? a=some (p5 C bb) /\
   ∃ea,h.Ns1 bb ea/\(∀f,jt (ar.lookup f) (ea f))/\PySem.Within ea (ar.map (·.1))
|.own _=>∃o,h.get? a=some o
|.G3 ar=>∃ea,h.Ns1 a ea/\∀f,jt (ar.lookup f) (ea f)
|.km lo aJ=>∃t u v,h.get? a=some {cls:=.type "range",data:=.fields #[.int lo t,.int aJ u,.int 1 v]}
|.nh o u=>h.get? a=some o/\hr H h a u
|.jZ aT=>h.get? a=some {cls:=.none,data:=.fields aT}
|.met f x=>h.get? a=some (PySem.W.methodObj (.ref f) (.ref x))
|.ext nW=>nW h/\(∃o,h.get? a=some o)/\∀ab ak:bT,nW ab->(∀o,ab.get? a=some o->ak.get? a=some o)->nW ak
def e2(H:aw)(h:bT):Prop:=∀a o,H a=some o->hr P w H h a o
end
section
variable {P:cF}{w:cv}{H af:aw}{h h':bT}{a:ah}{o:dZ}
theorem hr.lt(x:hr P w H h a o):a<h.objs.size:=by
 cases o with
|lst xs=>obtain⟨_,_,_,_,e⟩:=x;exact cP e
|tup xs=>obtain⟨_,_,_,p⟩:=x;exact p.lt
|e6 kvs=>obtain⟨_,_,_,_,o,_,_,e,_⟩:=x;exact cP e
|mb kvs=>obtain⟨_,_,_,_,o,_,_,e,_⟩:=x;exact cP e
|set S n=>obtain⟨o,_,_,_,e,_⟩:=x;exact cP e
|ins C bb ar=>obtain⟨_,_,_,e,_⟩:=x;exact cP e
|own y=>obtain⟨_,e⟩:=x;exact cP e
|G3 ar=>obtain⟨_,⟨_,_,_,e,_⟩,_⟩:=x;exact cP e
|km lo aJ=>obtain⟨_,_,_,e⟩:=x;exact cP e
|nh dF u=>obtain⟨e,_⟩:=x;exact cP e
|jZ aT=>exact cP (show h.get? a=some _ from x)
|met f y=>exact cP (show h.get? a=some _ from x)
|ext nW=>obtain⟨_,⟨_,e⟩,_⟩:=x;exact cP e
theorem Paired.FN{α β:Type}{F G:α->β->Prop}:∀{LJ:List α} {LK:List β},Paired F LJ LK->(∀a b,F a b->G a b)->Paired G LJ LK
|_,_,.nil,_=>.nil
|_,_,.cons r t,f=>.cons (f _ _ r) (Paired.FN t f)
def hr.jD(x:hr P w H h a o)(k:∀b u,(b=a\/H b=some (.own a))->h.get? b=some u->h'.get? b=some u)
  (aF:∀b,H b=some (.own a)->af b=some (.own a)) (bg:∀b xs,H b=some (.tup xs)->af b=some (.tup xs)):hr P w af h' a o:=by
 induction o with
|lst xs=>obtain⟨z,its,n,r,e⟩:=x;exact⟨z,its,n,r,k _ _ (.inl rfl) e⟩
|tup xs=>obtain⟨z,its,r,dF,e,c⟩:=x;exact⟨z,its,r,dF,k _ _ (.inl rfl) e,c⟩
|e6 kvs=>obtain⟨z,y,vs,r,dF,es,ep,e,c⟩:=x;exact⟨z,y,vs,r,dF,es,ep,k _ _ (.inl rfl) e,c⟩
|mb kvs=>
  obtain⟨z,y,xs,r,dF,es,ep,e,c⟩:=x;exact⟨z,y,xs,Paired.FN r λp q z=>⟨z.1,bg _ _ z.2.1,z.2.2⟩,dF,es,ep,k _ _ (.inl rfl) e,c⟩
|set S n=>obtain⟨dF,es,ep,t,e,c⟩:=x;exact⟨dF,es,ep,t,k _ _ (.inl rfl) e,c⟩
|ins C bb ar=>
  obtain⟨d,z,ne,e,ea,⟨eZ,es,ep,aS,c⟩,r⟩:=x;exact⟨aF _ d,z,ne,k _ _ (.inl rfl) e,ea,⟨eZ,es,ep,k _ _ (.inr d) aS,c⟩,r⟩
|own y=>obtain⟨dF,e⟩:=x;exact⟨dF,k _ _ (.inl rfl) e⟩
|G3 ar=>obtain⟨ea,⟨eZ,es,ep,e,c⟩,r⟩:=x;exact⟨ea,⟨eZ,es,ep,k _ _ (.inl rfl) e,c⟩,r⟩
|km lo aJ=>obtain⟨t,u,v,e⟩:=x;exact⟨t,u,v,k _ _ (.inl rfl) e⟩
|nh dF u b9=>obtain⟨e,q⟩:=x;exact⟨k _ _ (.inl rfl) e,b9 q⟩
|jZ aT=>
  have e:h.get? a=some {cls:=.none,data:=.fields aT}:=x;show h'.get? a=some {cls:=.none,data:=.fields aT};exact k a _ (.inl rfl) e
|met f y=>
  have e:h.get? a=some (PySem.W.methodObj (.ref f) (.ref y)):=x;show h'.get? a=some (PySem.W.methodObj (.ref f) (.ref y));exact k a _ (.inl rfl) e
|ext nW=>obtain⟨p,⟨o,e⟩,st⟩:=x;exact⟨st _ _ p λo q=>k _ _ (.inl rfl) q,⟨o,k _ _ (.inl rfl) e⟩,st⟩
theorem e2.lt(x:e2 P w H h)(e:H a=some o):a<h.objs.size:=(x a o e).lt
def e2.fresh(x:e2 P w H h)(e:h.objs.size<=a):H a=none:=by
 cases q:H a with
|none=>rfl
|some u=>exact absurd (jd (x.lt q) e) (Nat.lt_irrefl _)
def e2.kept(x:e2 P w H h)(k:∀b u,h.get? b=some u->h'.get? b=some u):e2 P w H h':=λa o e=>
 (x a o e).jD (λb u _ q=>k b u q) (λ_ q=>q) λ_ _ q=>q
def e2.laid(x:e2 P w H h)(k:∀b u,h.get? b=some u->h'.get? b=some u)(aL:h.objs.size<=a)(new:hr P w (upd H a o) h' a o):e2 P w (upd H a o) h':=λb u e=>by
 have a7:=x.fresh aL;by_cases aa:b=a
 ·subst aa;rw[dY] at e;cases e;exact new
 ·rw[cQ aa] at e;exact (x b u e).jD (λc v _ q=>k c v q) (λc q=>by rw[cQ (jK q a7)];exact q) λc xs q=>by rw[cQ (jK q a7)];exact q
end
def fw(H:aw)(a:ah)(u:dZ):Prop:=H a=some u\/∃o,H a=some (.nh o u)
def fw.ok{P:cF}{w:cv}{H:aw}{h:bT}{a:ah}{u:dZ}(r:fw H a u)(x:e2 P w H h):hr P w H h a u:=by
 rcases r with r|⟨o,r⟩
 ·exact x a u r
 ·obtain⟨_,q⟩:=x a _ r;exact q
noncomputable def uc:Option dZ->Prop
|some (.lst _)=>True
|some (.e6 _)=>True
|some (.mb _)=>True
|some (.set _ _)=>True
|some (.ins _ _ _)=>True
|some (.ext _)=>True
|_=>False
section
variable {P:cF}{w:cv}{H:aw}{h h':bT}{x e:ah}{o':dZ}
def e2.write(ok:e2 P w H h)(ki:uc (H x))(he:e=x\/H e=some (.own x))(k:∀b u,b≠e->h.get? b=some u->h'.get? b=some u)(sC:∃u,h'.get? e=some u)
  (new:hr P w (upd H x o') h' x o'):e2 P w (upd H x o') h':=λb u q=>by
 have LY:∀c y,H c=some (.own y)->c≠x:=λc y r z=>by subst z;rw[r] at ki;exact ki
 have Yd:∀c xs,H c=some (.tup xs)->c≠x:=λc xs r z=>by subst z;rw[r] at ki;exact ki
 by_cases aa:b=x
 ·subst aa;rw[dY] at q;cases q;exact new
 ·rw[cQ aa] at q;by_cases qZ:b=e
  ·have eb:H b=some (.own x):=by
    rcases he with z|z
    ·exact absurd (qZ.trans z) aa
    ·rw[qZ];exact z
   rw[q] at eb;cases eb;obtain⟨v,bq⟩:=sC;exact⟨v,by rw[qZ];exact bq⟩
  ·refine (ok b u q).jD (λc v ay r=>k c v ?_ r) (λc r=>by rw[cQ (LY c b r)];exact r) λc xs r=>by rw[cQ (Yd c xs r)];exact r
   rcases ay with rfl|ay
   ·exact qZ
   ·rintro rfl;rcases he with z|z
    ·exact LY c b ay z
    ·rw[ay] at z;cases z;exact aa rfl
end
structure gB(ar ex:List ah)(H af:aw)(h h':bT):Prop where
 keep:∀b o,h.get? b=some o->H b=none->b∉ar->b∉ex->h'.get? b=some o
 slot:∀b o,h.get? b=some o->H b=none->b∈ar->b∉ex->∃cI,h'.get? b=some {o with slots:=cI}
 free:∀b o,h.get? b=some o->H b=none->b∉ex->af b=none
 there:∀b o,h.get? b=some o->b∉ex->∃o',h'.get? b=some o'
 ah9:∀b xs,H b=some (.tup xs)->af b=some (.tup xs)
 ni:∀b o u,H b=some (.nh o u)->af b=some (.nh o u)
 oC:∀b aT,H b=some (.jZ aT)->∃more,af b=some (.jZ (aT++more))
section
variable {ar fs' ex ahN:List ah}{H H1 a':aw}{h ab ak h':bT}{a x e:ah}{o:dZ}
def gB.any(u:gB ar ex H H1 h ab){b:ah}{dF:Obj}(q:h.get? b=some dF)(n:H b=none)(hx:b∉ex):∃cI,ab.get? b=some {dF with slots:=cI}:=by
 by_cases aa:b∈ar
 ·exact u.slot b dF q n aa hx
 ·exact⟨dF.slots,u.keep b dF q n aa hx⟩
def gB.kept(k:∀b u,h.get? b=some u->h'.get? b=some u):gB ar ex H H h h':=
 ⟨λb dF q _ _ _=>k b dF q,λb dF q _ _ _=>⟨dF.slots,k b dF q⟩,λ_ _ _ n _=>n,λb dF q _=>⟨dF,k b dF q⟩,λ_ _ q=>q,λ_ _ _ q=>q,λ_ aT q=>⟨#[],by rw[q];simp⟩⟩
def gB.refl:gB ar ex H H h h:=gB.kept λ_ _ q=>q
def gB.laid(k:∀b u,h.get? b=some u->h'.get? b=some u)(aL:h.objs.size<=a)(a7:H a=none):gB ar ex H (upd H a o) h h' where
 keep:=λb u q _ _ _=>k b u q
 slot:=λb u q _ _ _=>⟨u.slots,k b u q⟩
 free:=λb u q n _=>by rw[cQ (eL (jd (cP q) aL))];exact n
 there:=λb u q _=>⟨u,k b u q⟩
 ah9:=λb xs q=>by rw[cQ (jK q a7)];exact q
 ni:=λb u xs q=>by rw[cQ (jK q a7)];exact q
 oC:=λb aT q=>⟨#[],by rw[cQ (jK q a7),q];simp⟩
def gB.write(ki:uc (H x))(he:e=x\/H e=some (.own x))(k:∀b u,b≠e->h.get? b=some u->h'.get? b=some u)(sC:∃u,h'.get? e=some u):gB ar ex H (upd H x o) h h':=by
 have hx:∀b,H b=none->b≠x:=λb n z=>by subst z;rw[n] at ki;exact ki
 have aa:∀b,H b=none->b≠e:=λb n z=>by
  subst z;rcases he with r|r
  ·exact hx b n r
  ·rw[n] at r;cases r
 have hm:∀b u,H b=some u->¬uc (some u)->b≠x:=λb u q nm z=>by subst z;rw[q] at ki;exact nm ki
 refine⟨λb u q n _ _=>k b u (aa b n) q,λb u q n _ _=>⟨u.slots,k b u (aa b n) q⟩,λb u q n _=>by rw[cQ (hx b n)];exact n,λb u q _=>?_,
  λb xs q=>by rw[cQ (hm b _ q λz=>z)];exact q,λb u xs q=>by rw[cQ (hm b _ q λz=>z)];exact q,λb aT q=>⟨#[],by rw[cQ (hm b _ q λz=>z),q];simp⟩⟩
 by_cases qZ:b=e
 ·subst qZ;exact sC
 ·exact⟨u,k b u qZ q⟩
end
def zl(h:bT)(H:aw):List ah:=(List.range h.objs.size).filter λa=>(H a).isSome
def oe(h:bT)(H:aw):bT:=PySem.W.hideAll h (zl h H)
def aec(h:bT)(H:aw):(oe h H).objs.size=h.objs.size:=PySem.W.hideAll_size _ _
def ae7{h:bT}{H:aw}{b:ah}{o:Obj}(e:h.get? b=some o)(n:H b=none):(oe h H).get? b=some o:=
 PySem.W.hideAll_get _ e λhm=>by
  have q:(H b).isSome=true:=(List.mem_filter.mp hm).2;rw[n] at q;simp at q
def afM{h:bT}{H:aw}{b:ah}{o:Obj}(e:(oe h H).get? b=some o):h.get? b=some o/\H b=none:=by
 have a9:h.get? b=some o:=PySem.W.of_hideAll (zl h H) e;refine⟨a9,?_⟩;cases q:H b with
|none=>rfl
|some x=>
  have hm:b∈zl h H:=List.mem_filter.mpr ⟨List.mem_range.mpr (cP a9),by simp[q]⟩;have z:(oe h H).get? b=none:=PySem.W.hideAll_none (zl h H) hm;rw[z] at e;cases e
noncomputable def aga(g h:bT)(L:ah):List (ah×Obj):=(List.range h.objs.size).filterMap λa=>if a=L\/(g.get? a).isSome=true then none else (h.get? a).map λo=>(a,o)
noncomputable def rest(g h:bT)(L d:ah):List (ah×Obj):=(aga g h L).filter λp=>decide (p.1≠d)
end bc
namespace bc
open PySem PySem.Spec PyProof.Rows
structure Mod(K:a_)(mg:Str->Option aj)(base:bT):Prop where
 va:K.In base
 glob:base.Ns j2 mg
 blt:∃lN,base.Ns builtinsNs lN/\∀x:Str,x≠"__name__"->lN x=bootBuiltins x
 nolimit:base.NoLimit
structure bj where
 prog:cF
 w:cv
 K:a_
 mg:Str->Option aj
 base:bT
 A:cY
 N:List Str
 dq:aK
 aQ:aw
 env:Env
 outer:List Env
 stack:List Env
 ex:List ah
 fn:Str->Bool
 calm:Bool
 dI:List (ah×Obj)
 dG:aj->aK->Prop
def mr(l:List Env):List ah:=l.filterMap (·.frame)
abbrev bj.ar(X:bj):List ah:=mr X.outer
noncomputable def lu(sc:Scope)(x:Str):Prop:=sc.names.lookup x=some .local\/sc.names.lookup x=some .cell\/sc.names.lookup x=some .free
noncomputable def Loc(sc:Scope)(x:Str):Prop:=sc.names.lookup x=some .local\/sc.names.lookup x=some .cell
noncomputable def Look(env:Env)(h:bT)(m:Str->Option aj)(x:Str)(u:aj):Prop:=
 (env.kindOf x=some .local/\m x=some u)\/((env.kindOf x=some .cell\/env.kindOf x=some .free)/\∃c,env.cells.lookup x=some c/\h.IsCell c (some u))
structure bj.Ok(X:bj):Prop where
 mod:Mod X.K X.mg X.base
 kind:X.env.scope.kind=.function
 glob:X.env.globals=j2
 blt:X.env.builtins=builtinsNs
 above:X.dq.heap.objs.size<=X.env.locals
 inj:∀x y c,X.env.cells.lookup x=some c->X.env.cells.lookup y=some c->x=y
 has:∀x,(X.env.kindOf x=some .cell\/X.env.kindOf x=some .free)->∃c,X.env.cells.lookup x=some c
 uy:∀x c,X.fn x=true->X.env.cells.lookup x=some c->X.dq.heap.objs.size<=c
 hd:X.calm=true->X.A.handled=none
 frames:X.A.frames=some X.stack
 aiu:X.stack=X.outer\/(X.stack=X.env::X.outer/\X.env.frame=some X.env.locals)
 sv:∀b∈X.ex,b≠X.env.locals/\∀x c,X.env.cells.lookup x=some c->c≠b
 bs:∀b o,X.base.get? b=some o->X.dq.heap.get? b=some o/\X.aQ b=none
 pq:X.base.objs.size<=X.dq.heap.objs.size
 vi:∀b o,X.base.get? b=some o->b∉X.ex
 sx:∀b∈X.ex,b∉X.ar
 lD:X.dq.heap.FunFrames X.base X.outer
 qQ:∀b∈X.ar,X.aQ b=none
structure Inv(X:bj)(ag:List (ah×Obj))(σ:List (Option V))(H:aw)(s:aK):Prop where
 ok:X.Ok
 os:s.os=X.dq.os
 bare:AllBare s.gens
 base:gB X.ar X.ex X.aQ H X.dq.heap s.heap
 loc:∃m,s.heap.Ns X.env.locals m/\∀(i:Nat) (x:Str) (v:V),X.N[i]?=some x->σ[i]?=some (some v)->lu X.env.scope x->∃u,RelV v u/\Look X.env s.heap m x u
 cell:∀x c,X.env.cells.lookup x=some c->∃v,s.heap.IsCell c v
 free:H X.env.locals=none
 mq:∀x c,X.env.cells.lookup x=some c->H c=none
 pin:∀p∈X.dI++ag,s.heap.get? p.1=some p.2/\H p.1=none/\p.1≠X.env.locals/\p.1∉X.ar/\∀v,p.2.data≠.cell v
 b8:e2 X.prog X.w H s.heap
 len:σ.length=X.N.length
section
variable {X:bj}{ag:List (ah×Obj)}{σ:List (Option V)}{H af:aw}{s:aK}{h':bT}
def bj.Ok.X_(ok:X.Ok){b:ah}{o:Obj}(e:X.base.get? b=some o):b∉X.ar:=λaa=>by
 have:=(ok.lD.mem aa).1;rw[e] at this;cases this
theorem Inv.bs(I:Inv X ag σ H s):∀b o,X.base.get? b=some o->s.heap.get? b=some o/\H b=none:=λb o e=>
 ⟨I.base.keep b o (I.ok.bs b o e).1 (I.ok.bs b o e).2 (I.ok.X_ e) (I.ok.vi b o e),I.base.free b o (I.ok.bs b o e).1 (I.ok.bs b o e).2 (I.ok.vi b o e)⟩
def Inv.gT(I:Inv X ag σ H s):∀b o,X.base.get? b=some o->s.heap.get? b=some o:=λb o e=>(I.bs b o e).1
theorem Inv.mod(I:Inv X ag σ H s):Mod X.K X.mg X.base:=I.ok.mod
def Inv.kh(I:Inv X ag σ H s):X.K.In s.heap:=I.ok.mod.va.keeps I.gT
theorem Inv.lt(I:Inv X ag σ H s):X.env.locals<s.heap.objs.size:=let ⟨_,a7,_⟩:=I.loc;a7.lt
def Inv.h3(I:Inv X ag σ H s):X.dq.heap.objs.size<=s.heap.objs.size:=lW I.ok.above (Nat.le_of_lt I.lt)
def Inv.Yb(I:Inv X ag σ H s){a:ah}(h:s.heap.objs.size<=a):a∉X.ar:=λaa=>by
 obtain⟨_,o,aF,_⟩:=I.ok.lD.mem aa;exact absurd (jd (cP aF) (lW I.h3 h)) (Nat.lt_irrefl _)
def Inv.qO(I:Inv X ag σ H s):∀x c,X.env.cells.lookup x=some c->c≠X.env.locals:=λx c e z=>by
 obtain⟨v,o,aF,hd⟩:=I.cell x c e;obtain⟨m,⟨o',es,ep,jx,od,_⟩,_⟩:=I.loc;rw[z,jx] at aF;cases aF;rw[od] at hd;cases hd
theorem Inv.lD(I:Inv X ag σ H s):s.heap.FunFrames X.base X.outer:=by
 have all:∀(l:List Env),(∀b∈mr l,b∈X.ar)->X.dq.heap.FunFrames X.base l->s.heap.FunFrames X.base l:=by
  intro l
  induction l with
  |nil=>intro _ _;trivial
  |cons env r b9=>
   intro az av;obtain⟨aI,⟨L,o,hf,a7,aF,hd⟩,aC⟩:=av;have hg:L∈X.ar:=az L (by unfold mr;rw[List.filterMap_cons,hf];exact fA);obtain⟨cI,e⟩:=I.base.slot L o aF (I.ok.qQ L hg) hg λz=>I.ok.sx L z hg;exact⟨aI,⟨L,_,hf,a7,e,hd⟩,b9 (λb aa=>az b (by unfold mr;rw[List.filterMap_cons,hf];exact d6 _ aa)) aC⟩
 exact all X.outer (λ_ aa=>aa) I.ok.lD
theorem Inv.stack(I:Inv X ag σ H s):s.heap.FunFrames X.base X.stack:=by
 rcases I.ok.aiu with e|⟨e,hf⟩
 ·rw[e];exact I.lD
 ·rw[e];obtain⟨m,a7,_⟩:=I.loc;refine .cons (by rw[I.ok.kind];decide) hf a7 ?_ I.lD;exact Heap.get?_none_of_le (lW I.ok.pq I.ok.above)
def Inv.vy(I:Inv X ag σ H s):∀b∈mr X.stack,b∈X.env.locals::X.ar:=λb aa=>by
 rcases I.ok.aiu with e|⟨e,hf⟩
 ·rw[e] at aa;exact d6 _ aa
 ·rw[e] at aa;unfold mr at aa;rw[List.filterMap_cons,hf] at aa;exact aa
def Inv.Ms(I:Inv X ag σ H s):∀b∈mr X.stack,H b=none:=λb aa=>by
 rcases cM.mp (I.vy b aa) with e|aa
 ·rw[e];exact I.free
 ·obtain⟨_,o,aF,_⟩:=I.ok.lD.mem aa;exact I.base.free b o aF (I.ok.qQ b aa) λz=>I.ok.sx b z aa
def Inv.step{g':Array GenState}{t':Nat}{d':Drawn}{ch:List ah}(I:Inv X ag σ H s)
  (pF:∀b∈ch,(b∈X.ex\/X.dq.heap.objs.size<=b)/\b≠X.env.locals/\(∀x c,X.env.cells.lookup x=some c->c≠b)/\∀p∈X.dI++ag,p.1≠b)
  (keep:∀b o,b≠X.env.locals->b∉X.ar->b∉ch->s.heap.get? b=some o->H b=none->h'.get? b=some o)
  (slot:∀b o,b≠X.env.locals->b∈X.ar->b∉ch->s.heap.get? b=some o->H b=none->∃cI,h'.get? b=some {o with slots:=cI}) (free:∀b o,b∉ch->s.heap.get? b=some o->H b=none->af b=none)
  (there:∀b o,b∉ch->s.heap.get? b=some o->∃o',h'.get? b=some o')
  (ah9:∀b xs,H b=some (.tup xs)->af b=some (.tup xs)) (ni:∀b o u,H b=some (.nh o u)->af b=some (.nh o u)) (oC:∀b aT,H b=some (.jZ aT)->∃more,af b=some (.jZ (aT++more)))
  (ns:∀m,s.heap.Ns X.env.locals m->h'.Ns X.env.locals m) (b8:e2 X.prog X.w af h') (bG:AllBare g'):
  Inv X ag σ af {s with heap:=h',gens:=g',drawn:=d',toks:=t'}:=by
 have LP:∀b o,X.dq.heap.get? b=some o->b≠X.env.locals:=λb o e=>eL (jd (cP e) I.ok.above);have yW:∀b o,X.dq.heap.get? b=some o->b∉X.ex->b∉ch:=λb o e hx aa=>by
  rcases (pF b aa).1 with z|z
  ·exact hx z
  ·exact absurd (jd (cP e) z) (Nat.lt_irrefl _)
 have cellK:∀x c,X.env.cells.lookup x=some c->∀v,s.heap.IsCell c v->h'.IsCell c v:=λx c e v ⟨o,aF,hd⟩=>by
  have vg:c∉ch:=λz=>(pF c z).2.2.1 x c e rfl;by_cases ay:c∈X.ar
  ·obtain⟨cI,q⟩:=slot c o (I.qO x c e) ay vg aF (I.mq x c e);exact⟨_,q,hd⟩
  ·exact⟨o,keep c o (I.qO x c e) ay vg aF (I.mq x c e),hd⟩
 refine⟨I.ok,I.os,bG,⟨λb o e n aa hx=>?_,λb o e n aa hx=>?_,λb o e n hx=>?_,λb o e hx=>?_,λb xs e=>ah9 b xs (I.base.ah9 b xs e),λb o xs e=>ni b o xs (I.base.ni b o xs e),λb aT e=>?_⟩,?_,λx c e=>?_,?_,λx c e=>?_,λp aL=>?_,b8,I.len⟩
 ·exact keep b o (LP b o e) aa (yW b o e hx) (I.base.keep b o e n aa hx) (I.base.free b o e n hx)
 ·obtain⟨cI,aH⟩:=I.base.slot b o e n aa hx;obtain⟨aal,aS⟩:=slot b _ (LP b o e) aa (yW b o e hx) aH (I.base.free b o e n hx);exact⟨aal,aS⟩
 ·obtain⟨o',aH⟩:=I.base.there b o e hx;exact free b o' (yW b o e hx) aH (I.base.free b o e n hx)
 ·obtain⟨o',aH⟩:=I.base.there b o e hx;exact there b o' (yW b o e hx) aH
 ·obtain⟨lM,aH⟩:=I.base.oC b aT e;obtain⟨kV,aS⟩:=oC b _ aH;exact⟨lM++kV,by rw[aS,Array.append_assoc]⟩
 ·obtain⟨m,a7,av⟩:=I.loc;refine⟨m,ns m a7,λi x v aH aS fJ=>?_⟩;obtain⟨u,r,l⟩:=av i x v aH aS fJ;refine⟨u,r,?_⟩;rcases l with l|⟨k,c,e,z⟩
  ·exact .inl l
  ·exact .inr ⟨k,c,e,cellK x c e _ z⟩
 ·obtain⟨v,z⟩:=I.cell x c e;exact⟨v,cellK x c e v z⟩
 ·obtain⟨m,⟨o,_,_,aF,_⟩,_⟩:=I.loc;exact free _ o (λz=>(pF _ z).2.1 rfl) aF I.free
 ·obtain⟨v,o,aF,hd⟩:=I.cell x c e;exact free c o (λz=>(pF c z).2.2.1 x c e rfl) aF (I.mq x c e)
 ·obtain⟨e,n,ne,gZ,d⟩:=I.pin p aL;have vg:p.1∉ch:=λz=>(pF p.1 z).2.2.2 p aL rfl;exact⟨keep p.1 p.2 ne gZ vg e n,free p.1 p.2 vg e n,ne,gZ,d⟩
def Inv.un{t':Nat}(I:Inv X ag σ H s)(u:gB X.ar [] H af s.heap h')(b8:e2 X.prog X.w af h'):Inv X ag σ af {s with heap:=h',toks:=t'}:=by
 obtain⟨m,⟨o,es,ep,aF,r⟩,_⟩:=id I.loc;obtain⟨cI,hg⟩:=u.any aF I.free (by simp);exact I.step (g':=s.gens) (d':=s.drawn) (ch:=[]) (λ_ z=>nomatch z) (λb o _ aa _ e n=>u.keep b o e n aa (by simp)) (λb o _ aa _ e n=>u.slot b o e n aa (by simp)) (λb o _ e n=>u.free b o e n (by simp)) (λb o _ e=>u.there b o e (by simp)) u.ah9 u.ni u.oC (λjA hm=>by
  obtain⟨o',ie,C_,jx,bR⟩:=hm;rw[aF] at jx;cases jx;exact⟨_,ie,C_,hg,bR⟩) b8 I.bare
def Inv.call{g':Array GenState}{t':Nat}{d':Drawn}{ch:List ah}(I:Inv X ag σ H s)(u:gB (mr X.stack) ch H af s.heap h')(b8:e2 X.prog X.w af h')(bG:AllBare g')
  (pF:∀b∈ch,(b∈X.ex\/X.dq.heap.objs.size<=b)/\b≠X.env.locals/\(∀x c,X.env.cells.lookup x=some c->c≠b)/\∀p∈X.dI++ag,p.1≠b):
  Inv X ag σ af {s with heap:=h',gens:=g',drawn:=d',toks:=t'}:=by
 obtain⟨m,⟨o,es,ep,aF,r⟩,_⟩:=id I.loc;obtain⟨cI,hg⟩:=u.any aF I.free λz=>(pF _ z).2.1 rfl;exact I.step (ch:=ch) pF (λb o hg aa ay e n=>u.keep b o e n (λz=>(cM.mp (I.vy b z)).elim hg aa) ay) (λb o _ _ ay e n=>u.any e n ay) (λb o ay e n=>u.free b o e n ay) (λb o ay e=>u.there b o e ay) u.ah9 u.ni u.oC (λjA hm=>by
  obtain⟨o',ie,C_,jx,bR⟩:=hm;rw[aF] at jx;cases jx;exact⟨_,ie,C_,hg,bR⟩) b8 bG
def Inv.turned{t':Nat}{it:ah}(I:Inv X ag σ H s)(k:∀b o,b≠it->s.heap.get? b=some o->h'.get? b=some o)(a7:H it=none)(hg:it≠X.env.locals)
  (ab:it∈X.ex\/X.dq.heap.objs.size<=it) (ak:∀x c,X.env.cells.lookup x=some c->c≠it) (bF:∀p∈X.dI++ag,p.1≠it):Inv X ag σ H {s with heap:=h',toks:=t'}:=by
 have LS:∀b u,H b=some u->b≠it:=λb u e z=>by rw[z,a7] at e;cases e
 refine I.step (g':=s.gens) (d':=s.drawn) (ch:=[it]) (λb aa=>?_) (λb o _ _ ay e _=>k b o (λz=>ay (by simp[z])) e) (λb o _ _ ay e _=>⟨o.slots,k b o (λz=>ay (by simp[z])) e⟩) (λ_ _ _ _ n=>n)
  (λb o ay e=>⟨o,k b o (λz=>ay (by simp[z])) e⟩) (λ_ _ e=>e) (λ_ _ _ e=>e) (λb aT e=>⟨#[],by rw[e];simp⟩) (λm hm=>?_) (λb u e=>?_) I.bare
 ·have e:b=it:=by simpa using aa
  subst e;exact⟨ab,hg,ak,bF⟩
 ·obtain⟨o,es,ep,aF,r⟩:=hm;exact⟨o,es,ep,k _ o (Ne.symm hg) aF,r⟩
 ·refine (I.b8 b u e).jD (λc v ay q=>k c v ?_ q) (λ_ q=>q) λ_ _ q=>q
  rcases ay with z|z
  ·rw[z];exact LS b u e
  ·exact LS c _ z
def Inv.tok(I:Inv X ag σ H s)(t:Nat):Inv X ag σ H {s with toks:=t}:=I.un (h':=s.heap) (t':=t) gB.refl I.b8
theorem Inv.kept{t':Nat}(I:Inv X ag σ H s)(k:∀b u,s.heap.get? b=some u->h'.get? b=some u):Inv X ag σ H {s with heap:=h',toks:=t'}:=I.un (gB.kept k) (I.b8.kept k)
theorem Inv.laid{a:ah}{o:dZ}{t':Nat}(I:Inv X ag σ H s)(k:∀b u,s.heap.get? b=some u->h'.get? b=some u)(aL:s.heap.objs.size<=a)(new:hr X.prog X.w (upd H a o) h' a o):
  Inv X ag σ (upd H a o) {s with heap:=h',toks:=t'}:=I.un (gB.laid k aL (I.b8.fresh aL)) (I.b8.laid k aL new)
theorem Inv.write{x e:ah}{o:dZ}{t':Nat}(I:Inv X ag σ H s)(ki:uc (H x))(he:e=x\/H e=some (.own x))(k:∀b u,b≠e->s.heap.get? b=some u->h'.get? b=some u)(sC:∃u,h'.get? e=some u)
  (new:hr X.prog X.w (upd H x o) h' x o):Inv X ag σ (upd H x o) {s with heap:=h',toks:=t'}:=I.un (gB.write ki he k sC) (I.b8.write ki he k sC new)
def Inv.L_{L9:List (ah×Obj)}(I:Inv X ag σ H s)(h:∀p∈L9,s.heap.get? p.1=some p.2/\H p.1=none/\p.1≠X.env.locals/\p.1∉X.ar/\∀v,p.2.data≠.cell v):Inv X L9 σ H s:=
 ⟨I.ok,I.os,I.bare,I.base,I.loc,I.cell,I.free,I.mq,λp aL=>(j4.mp aL).elim (λz=>I.pin p (List.mem_append_left _ z)) (h p),I.b8,I.len⟩
def Pa{N:List Str}(dk:N.Nodup){i j:Nat}{x:Str}(a:N[i]?=some x)(b:N[j]?=some x):i=j:=by
 obtain⟨ab,aH⟩:=ed.mp a;obtain⟨ak,aS⟩:=ed.mp b;exact (List.getElem_inj dk).mp (aH.trans aS.symm)
def Ap{M:Model}{A:cY}{E:aj->aK->Prop}{i:Nat}{x:Str}{v:V}{u:aj}{Q:Unit->aK->Prop}(I:Inv X ag σ H s)(dk:X.N.Nodup)(aJ:X.N[i]?=some x)(hx:Loc X.env.scope x)(r:RelV v u)
  (h:∀s',Inv X ag (σ.set i (some v)) H s'->(∃a,Heap.SameBut a s.heap s'.heap/\(a=X.env.locals\/X.env.cells.lookup x=some a))->Q () s') (hf:X.fn x=true\/X.env.scope.names.lookup x=some .local:=by first|exact .inl rfl|exact .inr rfl|assumption):bp M A (storeName X.env x u) Q E s:=by
 obtain⟨m,a7,av⟩:=id I.loc;have VK:(X.env.scope.kind==.class || (X.env.scope.kind==.module && X.env.locals != X.env.globals))=false:=by rw[I.ok.kind];rfl
 have K4:i<σ.length:=by rw[I.len];exact (ed.mp aJ).1
 have qO:=I.qO;have tracked:∀{a:ah} {h':bT},(∃o,s.heap.get? a=some o/\H a=none)->Heap.SameBut a s.heap h'->e2 X.prog X.w H h':=λ{a h'} ax az b dF e=>by
  obtain⟨_,_,yb⟩:=ax;refine (I.b8 b dF e).jD (λc fe ay q=>(az.2 c ?_).trans q) (λ_ q=>q) λ_ _ q=>q;rintro rfl;rcases ay with rfl|ay
  ·rw[yb] at e;cases e
  ·rw[yb] at ay;cases ay
 rcases hx with aI|aI
 ·refine wpAny_storeName_local aI a7 (λh' Wd az=>?_) VK
  obtain⟨Ye,_,_,uY,_⟩:=id a7;refine h _ ⟨I.ok,I.os,I.bare,⟨λb o e n aa hx=>?_,λb o e n aa hx=>?_,I.base.free,λb o e hx=>?_,I.base.ah9,I.base.ni,I.base.oC⟩,⟨_,Wd,λj y h5 aH aS fJ=>?_⟩,λy c e=>?_,I.free,I.mq,λp aL=>?_,tracked ⟨Ye,uY,I.free⟩ az,by simpa using I.len⟩ ⟨_,az,.inl rfl⟩
  ·exact (az.2 b (eL (jd (cP e) I.ok.above))).trans (I.base.keep b o e n aa hx)
  ·obtain⟨cI,aH⟩:=I.base.slot b o e n aa hx;exact⟨cI,(az.2 b (eL (jd (cP e) I.ok.above))).trans aH⟩
  ·obtain⟨o',aH⟩:=I.base.there b o e hx;exact⟨o',(az.2 b (eL (jd (cP e) I.ok.above))).trans aH⟩
  ·by_cases bC:j=i
   ·subst bC;rw[aJ] at aH;cases aH;rw[List.getElem?_set_self K4] at aS;cases aS;exact⟨u,r,.inl ⟨aI,by simp⟩⟩
   ·rw[List.getElem?_set_ne (Ne.symm bC)] at aS;obtain⟨vB,bR,q⟩:=av j y h5 aH aS fJ;refine⟨vB,bR,?_⟩;rcases q with ⟨k,e⟩|⟨k,c,e,z⟩
    ·refine .inl ⟨k,?_⟩
     have:y≠x:=λe=>bC (Pa dk aH (e▸aJ));simp[this,e]
    ·exact .inr ⟨k,c,e,z.sameBut az (qO y c e)⟩
  ·obtain⟨fe,z⟩:=I.cell y c e;exact⟨fe,z.sameBut az (qO y c e)⟩
  ·obtain⟨e,n,ne,gZ,d⟩:=I.pin p aL;exact⟨(az.2 p.1 ne).trans e,n,ne,gZ,d⟩
 ·have DL:X.fn x=true:=by
   rcases hf with z|z
   ·exact z
   ·rw[z] at aI;cases aI
  obtain⟨c,ay⟩:=I.ok.has x (.inl aI);obtain⟨fe,z⟩:=I.cell x c ay;refine wpAny_storeName_cell I.ok.kind aI ay z (λh' dh az=>?_);obtain⟨hH,K',Wi⟩:=id z;refine h {s with heap:=h'} ⟨I.ok,I.os,I.bare,⟨λb o e n aa hx=>?_,λb o e n aa hx=>?_,I.base.free,λb o e hx=>?_,I.base.ah9,I.base.ni,I.base.oC⟩,⟨m,a7.sameBut az (Ne.symm (qO x c ay)),λj y h5 aH aS fJ=>?_⟩,λy d0 e=>?_,I.free,I.mq,λp aL=>?_,tracked ⟨hH,K',I.mq x c ay⟩ az,by simpa using I.len⟩ ⟨c,az,.inr ay⟩
  ·exact (az.2 b (eL (jd (cP e) (I.ok.uy x c DL ay)))).trans (I.base.keep b o e n aa hx)
  ·obtain⟨cI,aH⟩:=I.base.slot b o e n aa hx;exact⟨cI,(az.2 b (eL (jd (cP e) (I.ok.uy x c DL ay)))).trans aH⟩
  ·obtain⟨o',aH⟩:=I.base.there b o e hx;exact⟨o',(az.2 b (eL (jd (cP e) (I.ok.uy x c DL ay)))).trans aH⟩
  ·by_cases bC:j=i
   ·subst bC;rw[aJ] at aH;cases aH;rw[List.getElem?_set_self K4] at aS;cases aS;exact⟨u,r,.inr ⟨.inl aI,c,ay,dh⟩⟩
   ·rw[List.getElem?_set_ne (Ne.symm bC)] at aS;obtain⟨vB,bR,q⟩:=av j y h5 aH aS fJ;refine⟨vB,bR,?_⟩;rcases q with q|⟨k,d0,e,jf⟩
    ·exact .inl q
    ·refine .inr ⟨k,d0,e,jf.sameBut az ?_⟩
     rintro rfl;exact bC (Pa dk aH (I.ok.inj _ _ _ e ay▸aJ))
  ·by_cases x_:d0=c
   ·subst x_;exact⟨_,dh⟩
   ·obtain⟨vE,h8⟩:=I.cell y d0 e;exact⟨vE,h8.sameBut az x_⟩
  ·obtain⟨e,n,ne,gZ,d⟩:=I.pin p aL;refine⟨(az.2 p.1 ?_).trans e,n,ne,gZ,d⟩;intro q;rw[q,K'] at e;have eb:hH=p.2:=eB e;exact d fe (by rw[<- eb];exact Wi)
def O1{M:Model}{A:cY}{E:aj->aK->Prop}{i:Nat}{x:Str}{v:V}{u:aj}{Q:Unit->aK->Prop}(I:Inv X ag σ H s)(dk:X.N.Nodup)(aJ:X.N[i]?=some x)(hx:Loc X.env.scope x)(r:RelV v u)
  (h:∀s',Inv X ag (σ.set i (some v)) H s'->Q () s') (hf:X.fn x=true\/X.env.scope.names.lookup x=some .local:=by first|exact .inl rfl|exact .inr rfl|assumption):bp M A (storeName X.env x u) Q E s:=
 Ap I dk aJ hx r (λs' pa _=>h s' pa) hf
end
abbrev gC:=aj->Option ah->aw->Prop
abbrev St:=List (Option V)
abbrev c6:=V->aw->Prop
abbrev TE:=St->aw->c6->Prop
abbrev TT:=St->aw->(Bool->aw->Prop)->Prop
abbrev fY:=St->aw->(List V->aw->Prop)->Prop
structure Ends where
 bQ:St->aw->Prop
 dj:c6
 gT:St->aw->Prop:=λ_ _=>False
 d_:St->aw->Prop:=λ_ _=>False
abbrev fZ:=Ends->St->aw->Prop
noncomputable def ht(X:bj)(ag:List (ah×Obj))(σ:St)(Q:c6)(u:aj)(s':aK):Prop:=∃v af,Inv X ag σ af s'/\RelV v u/\Q v af
noncomputable def xb(X:bj)(ag:List (ah×Obj))(σ:St)(Q:Bool->aw->Prop)(b:Bool)(s':aK):Prop:=∃af,Inv X ag σ af s'/\Q b af
noncomputable def QP(X:bj)(ag:List (ah×Obj))(σ:St)(Q:List V->aw->Prop)(us:List aj)(s':aK):Prop:=∃vs af,Inv X ag σ af s'/\Vals vs us/\Q vs af
noncomputable def pe(X:bj)(ag:List (ah×Obj))(D:Ends)(f:Flow)(s':aK):Prop:=
 match f with
|.next=>∃bD af,Inv X ag bD af s'/\D.bQ bD af
|.brk=>∃bD af,Inv X ag bD af s'/\D.gT bD af
|.cont=>∃bD af,Inv X ag bD af s'/\D.d_ bD af
|.ret u=>∃v bD af,Inv X ag bD af s'/\RelV v u/\D.dj v af
noncomputable def bU(X:bj)(e:bz)(t:TE):Prop:=
 ∀(ag:List (ah×Obj)) (s:aK) (σ:St) (H:aw) (Q:c6),Inv X ag σ H s->t σ H Q->bp (bL X.prog X.w) X.A (eval e X.env) (ht X ag σ Q) X.dG s
noncomputable def kc(X:bj)(e:bz)(t:TT):Prop:=
 ∀(ag:List (ah×Obj)) (s:aK) (σ:St) (H:aw) (Q:Bool->aw->Prop),Inv X ag σ H s->t σ H Q->bp (bL X.prog X.w) X.A (isTrue e X.env (eval e X.env)) (xb X ag σ Q) X.dG s
noncomputable def l9(X:bj)(e:bz)(t:TT):Prop:=
 ∀(whole:Sem aj) (ag:List (ah×Obj)) (s:aK) (σ:St) (H:aw) (Q:Bool->aw->Prop),Inv X ag σ H s->t σ H Q->bp (bL X.prog X.w) X.A (isTrue e X.env whole) (xb X ag σ Q) X.dG s
def l9.pt{X:bj}{e:bz}{t:TT}(h:l9 X e t):kc X e t:=h _
noncomputable def ia(X:bj)(es:List bz)(t:fY):Prop:=
 ∀(pos:Pos) (ag:List (ah×Obj)) (s:aK) (σ:St) (H:aw) (Q:List V->aw->Prop),Inv X ag σ H s->t σ H Q->bp (bL X.prog X.w) X.A (spliced (ee pos (bS es X.env))) (QP X ag σ Q) X.dG s
noncomputable def hQ(X:bj)(st:Stmt)(t:fZ):Prop:=
 ∀(ag:List (ah×Obj)) (s:aK) (σ:St) (H:aw) (D:Ends),Inv X ag σ H s->t D σ H->bp (bL X.prog X.w) X.A (exec st X.env) (pe X ag D) X.dG s
noncomputable def i1(X:bj)(st:List Stmt)(t:fZ):Prop:=
 ∀(ag:List (ah×Obj)) (s:aK) (σ:St) (H:aw) (D:Ends),Inv X ag σ H s->t D σ H->bp (bL X.prog X.w) X.A (execs st X.env) (pe X ag D) X.dG s
def ct{α:Type}{t:Sem α}{Q JF:α->aK->Prop}{M:Model}{A:cY}{E:aj->aK->Prop}{s:aK}(h:bp M A t Q E s)(ij:∀a s,Q a s->JF a s):bp M A t JF E s:=fL h ij λ_ _ x=>x
end bc
namespace bc
open PySem PySem.Spec PyProof.Rows
section
variable {X:bj}
def hJ(i:Nat):TE:=λσ H Q=>∃v,σ[i]?=some (some v)/\Q v H
def s6(v:V):TE:=λ_ H Q=>Q v H
def Qa{i:Nat}{x:Str}{pos:Pos}(dk:X.N[i]?=some x)(bq:lu X.env.scope x)(hd:(x==("__debug__":Str))=false:=by decide)(ik:(x==("__classdict__":Str))=false:=by decide):bU X (.Name x pos) (hJ i):=by
 intro ag s σ H Q I h;obtain⟨v,e,h⟩:=h;obtain⟨m,a7,av⟩:=I.loc;obtain⟨u,r,l⟩:=av i x v dk e bq;have fin:ht X ag σ Q u s:=⟨v,H,I,r,h⟩;rcases l with ⟨aI,hm⟩|⟨aI,c,ay,pE⟩
 ·exact wpAny_Name (wpAny_loadName_local I.ok.kind aI a7 hm fin) hd
 ·rcases aI with aI|aI
  ·exact wpAny_Name (wpAny_loadName_cell I.ok.kind aI ay pE fin) hd
  ·exact wpAny_Name (wpAny_loadName_free I.ok.kind aI ay pE fin ik) hd
def agB{i j pos}:bU X (.Constant (.int i) j pos) (s6 (.int i)):=λ_ _ _ H _ I h=>wpAny_Constant_int ⟨.int i,H,I.tok _,⟨_,rfl⟩,h⟩
def ahw{b j pos}:bU X (.Constant (.bool b) j pos) (s6 (.c0 b)):=λ_ _ _ H _ I h=>Constant_bool ⟨.c0 b,H,I,rfl,h⟩
def agz{j pos}:bU X (.Constant .none j pos) (s6 .fz):=λ_ _ _ H _ I h=>Constant_none ⟨.fz,H,I,rfl,h⟩
def agy{x j pos}:bU X (.Constant (.str x) j pos) (s6 (.str x)):=λ_ _ _ H _ I h=>Calls.Constant_str ⟨.str x,H,I.tok _,⟨_,rfl⟩,h⟩
def fo(X:bj)(x:Str):Prop:=X.env.kindOf x=some .globalImplicit
def IC{E:aj->aK->Prop}{ag:List (ah×Obj)}{s:aK}{σ:St}{H:aw}{x:Str}{u:aj}{pos:Pos}{Q:aj->aK->Prop}(I:Inv X ag σ H s)(bG:fo X x)(hm:X.mg x=some u)(h:Q u s)
  (hd:(x==("__debug__":Str))=false:=by decide):bp (bL X.prog X.w) X.A (eval (.Name x pos) X.env) Q E s:=
 Calls.Name_function_global I.ok.kind bG (Calls.loadGlobal_global (by rw[I.ok.glob];exact I.mod.glob.keeps I.gT) hm h) hd
def r1{E:aj->aK->Prop}{ag:List (ah×Obj)}{s:aK}{σ:St}{H:aw}{x:Str}{u:aj}{pos:Pos}{Q:aj->aK->Prop}(I:Inv X ag σ H s)(bG:fo X x)(hm:X.mg x=none)(bq:bootBuiltins x=some u)(h:Q u s)
  (a7:x≠"__name__":=by decide) (hd:(x==("__debug__":Str))=false:=by decide):bp (bL X.prog X.w) X.A (eval (.Name x pos) X.env) Q E s:=by
 obtain⟨lN,ab,ak⟩:=I.mod.blt;exact Calls.Name_function_global I.ok.kind bG (Calls.loadGlobal_builtin (by rw[I.ok.glob];exact I.mod.glob.keeps I.gT) hm (by rw[I.ok.blt];exact ab.keeps I.gT) ((ak x a7).trans bq) h) hd
def PC{x:Str}{v:V}{u:aj}{pos:Pos}(bG:fo X x)(hm:X.mg x=some u)(r:RelV v u)(hd:(x==("__debug__":Str))=false:=by decide):bU X (.Name x pos) (s6 v):=
 λ_ _ _ H _ I h=>IC I bG hm ⟨v,H,I,r,h⟩ hd
variable {a b:bz}{cq eJ:TE}{pos:Pos}
noncomputable def By(X:bj)(op:CmpOp)(a b:bz)(t:TE):Prop:=
 ∀(ag:List (ah×Obj)) (s:aK) (σ:St) (H:aw) (Q:c6),Inv X ag σ H s->t σ H Q ->
  bp (bL X.prog X.w) X.A (eval a X.env) (λv dd=>bp (bL X.prog X.w) X.A (eval b X.env) (λu lR=>bp (bL X.prog X.w) X.A (iz op v u) (ht X ag σ Q) X.dG lR) X.dG dd) X.dG s
def aeW(b:bz){op:CmpOp}(h:op≠.In)(ak:op≠.NotIn):oR op b=false:=by
 have aH:(op==CmpOp.In)=false:=by cases op <;> first|rfl|exact absurd rfl h
 have aS:(op==CmpOp.NotIn)=false:=by cases op <;> first|rfl|exact absurd rfl ak
 cases b <;> simp[oR,aH,aS]
def abn(cq:TE):TE:=λσ H Q=>cq σ H λx H1=>Q (.c0 (decide (x=.fz))) H1
def ag_(cq:TE):TE:=λσ H Q=>cq σ H λx H1=>Q (.c0 (!decide (x=.fz))) H1
def RelV.LW{x:V}{v:aj}(r:RelV x v):(v==Value.none)=decide (x=.fz):=by
 cases x with
|fz=>cases r;rfl
|c0 _=>cases r;rfl
|int _=>obtain⟨t,rfl⟩:=r;rfl
|str _=>obtain⟨t,rfl⟩:=r;rfl
|qM _=>obtain⟨t,rfl⟩:=r;rfl
|uG _=>obtain⟨t,rfl⟩:=r;rfl
|ref _=>cases r;rfl
|ty _=>cases r;rfl
def agE{j pos'}(ax:bU X a cq):By X .Is a (.Constant .none j pos') (abn cq):=by
 intro ag s σ H Q I h;refine ct (ax ag s σ H _ I h) λv s1 ⟨x,H1,bk,aO,aP⟩=>?_;exact Constant_none (is_none_gen ⟨.c0 _,H1,bk,by rw[aO.LW];rfl,aP⟩)
def afI{j pos'}(ax:bU X a cq):By X .IsNot a (.Constant .none j pos') (ag_ cq):=by
 intro ag s σ H Q I h;refine ct (ax ag s σ H _ I h) λv s1 ⟨x,H1,bk,aO,aP⟩=>?_;exact Constant_none (isnot_none_gen ⟨.c0 _,H1,bk,by rw[aO.LW];rfl,aP⟩)
def vA(t:TE):TT:=λσ H Q=>t σ H λx H1=>∃c,x=.c0 c/\Q c H1
def P_{op:CmpOp}{t:TE}(h:By X op a b t)(ab:oR op b=false:=by first|exact aeW _ (by decide) (by decide)|rfl):kc X (.Compare a [op] [b] pos) (vA t):=by
 intro ag s σ H Q I hw;refine wpAny_isTrue_Compare1 (ct (h ag s σ H _ I hw) λv s1 ab=>ct ab λu s2 ak=>ct ak λc s3 ⟨x,H1,bk,aO,aP⟩=>?_) ab;obtain⟨d,rfl,q⟩:=aP;cases aO;exact tj ⟨H1,bk,q⟩
def agu{e:bz}{t:TE}(h:bU X e t)(he:∀whole,isTrue e X.env whole=(do let v <- whole;standAt e.pos;holding [v] (truthy v)):=by intro _;rfl):kc X e (vA t):=by
 intro ag s σ H Q I hw;refine isTrue_plain (ct (h ag s σ H _ I hw) λv s1 ⟨x,H1,bk,aO,aP⟩=>?_) (he _);obtain⟨d,rfl,q⟩:=aP;cases aO;exact tj ⟨H1,bk,q⟩
variable {nD zf:TT}{rest:List bz}
def abf(t u:TT):TT:=λσ H Q=>t σ H λc H1=>if c=true then u σ H1 Q else Q false H1
def abp(t u:TT):TT:=λσ H Q=>t σ H λc H1=>if c=true then Q true H1 else u σ H1 Q
def afx(ax:kc X a nD):l9 X (.BoolOp .And [a] pos) nD:=by
 intro vF ag s σ H Q I h;refine isTrue_and (ct (ax ag s σ H Q I h) λc s1 e=>?_);cases c with
|true=>exact isTrue_and_nil e
|false=>exact e
def agq(ax:kc X a nD):l9 X (.BoolOp .Or [a] pos) nD:=by
 intro vF ag s σ H Q I h;refine isTrue_or (ct (ax ag s σ H Q I h) λc s1 e=>?_);cases c with
|false=>exact isTrue_or_nil e
|true=>exact e
def agr(ax:kc X a nD)(aa:l9 X (.BoolOp .And (b::rest) pos) zf):l9 X (.BoolOp .And (a::b::rest) pos) (abf nD zf):=by
 intro vF ag s σ H Q I h;refine isTrue_and (ct (ax ag s σ H _ I h) λc s1 ⟨H1,bk,aP⟩=>?_);cases c with
|true=>exact aa vF ag s1 σ H1 Q bk aP
|false=>exact⟨H1,bk,aP⟩
def ahr(ax:kc X a nD)(aa:l9 X (.BoolOp .Or (b::rest) pos) zf):l9 X (.BoolOp .Or (a::b::rest) pos) (abp nD zf):=by
 intro vF ag s σ H Q I h;refine isTrue_or (ct (ax ag s σ H _ I h) λc s1 ⟨H1,bk,aP⟩=>?_);cases c with
|true=>exact⟨H1,bk,aP⟩
|false=>exact aa vF ag s1 σ H1 Q bk aP
noncomputable def ahf(cq eJ:TE):TE:=λσ H Q=>cq σ H λx H1=>∃c,x=.c0 c/\if c=true then eJ σ H1 Q else Q (.c0 false) H1
noncomputable def abq(cq eJ:TE):TE:=λσ H Q=>cq σ H λx H1=>∃c,x=.c0 c/\if c=true then Q (.c0 true) H1 else eJ σ H1 Q
def Qb{op}{t:TE}(h:bU X a t):bU X (.BoolOp op [a] pos) t:=λag s σ H Q I hw=>BoolOp_one (h ag s σ H Q I hw)
def agD(ax:bU X a cq)(aa:bU X (.BoolOp .And (b::rest) pos) eJ):bU X (.BoolOp .And (a::b::rest) pos) (ahf cq eJ):=by
 intro ag s σ H Q I h;refine BoolOp_and (ct (ax ag s σ H _ I h) λv s1 ⟨x,H1,bk,aO,aP⟩=>?_);obtain⟨c,rfl,aP⟩:=aP;cases aO;refine tj ?_;cases c with
|true=>exact aa ag s1 σ H1 Q bk aP
|false=>exact⟨.c0 false,H1,bk,rfl,aP⟩
def ahu(ax:bU X a cq)(aa:bU X (.BoolOp .Or (b::rest) pos) eJ):bU X (.BoolOp .Or (a::b::rest) pos) (abq cq eJ):=by
 intro ag s σ H Q I h;refine BoolOp_or (ct (ax ag s σ H _ I h) λv s1 ⟨x,H1,bk,aO,aP⟩=>?_);obtain⟨c,rfl,aP⟩:=aP;cases aO;refine tj ?_;cases c with
|false=>exact aa ag s1 σ H1 Q bk aP
|true=>exact⟨.c0 true,H1,bk,rfl,aP⟩
noncomputable def abl(t:TT)(cq eJ:TE):TE:=λσ H Q=>t σ H λc H1=>if c=true then cq σ H1 Q else eJ σ H1 Q
def aeO{c:bz}(ay:kc X c nD)(ax:bU X a cq)(aa:bU X b eJ):bU X (.IfExp c a b pos) (abl nD cq eJ):=by
 intro ag s σ H Q I h;refine wpAny_IfExp (ct (ay ag s σ H _ I h) λd s1 ⟨H1,bk,aP⟩=>?_);cases d with
|true=>exact ax ag s1 σ H1 Q bk aP
|false=>exact aa ag s1 σ H1 Q bk aP
end
end bc
namespace bc
open PySem PySem.Spec PyProof.Rows
noncomputable def eU(K:a_)(H:aw)(a:ah)(xs:List V):Prop:=
 fw H a (.lst xs) \/
  ∃(o:Obj) (its:Array aj) (n:Nat),K.lookup a=some o/\o.cls=.type "list"/\o.dict=none/\o.data=.seq its n/\its.size<=cp/\Vals xs its.toList
noncomputable def df(K:a_)(H:aw)(a:ah)(xs:List V):Prop:=
 fw H a (.tup xs) \/
  ∃(o:Obj) (its:Array aj) (n:Nat),K.lookup a=some o/\o.cls=.type "tuple"/\o.data=.seq its n/\its.size<=cp/\Vals xs its.toList
noncomputable def Sg:aj->Option V
|.none=>some .fz
|.bool b=>some (.c0 b)
|.int i _=>some (.int i)
|.str x _=>some (.str x)
|.bytes b _=>some (.qM b)
|.float b _=>some (.uG b)
|.ref a=>some (.ref a)
|.type n=>some (.ty n)
|_=>none
def RelV.abs{x:V}{u:aj}(r:RelV x u):Sg u=some x:=by
 cases x with
|fz=>cases r;rfl
|c0 _=>cases r;rfl
|int _=>obtain⟨t,rfl⟩:=r;rfl
|str _=>obtain⟨t,rfl⟩:=r;rfl
|qM _=>obtain⟨t,rfl⟩:=r;rfl
|uG _=>obtain⟨t,rfl⟩:=r;rfl
|ref _=>cases r;rfl
|ty _=>cases r;rfl
def RelV.inj{x y:V}{u:aj}(r:RelV x u)(q:RelV y u):x=y:=eB (r.abs.symm.trans q.abs)
theorem Vals.inj:∀{xs ys:List V} {us:List aj},Vals xs us->Vals ys us->xs=ys
|_,_,_,.nil,.nil=>rfl
|_,_,_,.cons r t,.cons bR t'=>by rw[r.inj bR,Vals.inj t t']
section
variable {X:bj}{ag:List (ah×Obj)}{σ:St}{H:aw}{s:aK}{a:ah}{xs ys:List V}
def eU.of{K:a_}(h:H a=some (.lst xs)):eU K H a xs:=.inl (.inl h)
def df.of{K:a_}(h:H a=some (.tup xs)):df K H a xs:=.inl (.inl h)
def Inv.list(I:Inv X ag σ H s)(h:eU X.K H a xs):∃its:List aj,Vals xs its/\PlainL s.heap a its.toArray/\xs.length<=cp:=by
 rcases h with h|⟨o,its,n,aI,ay,hd,az,aq,r⟩
 ·obtain⟨z,its,n,r,e⟩:=h.ok I.b8;exact⟨its,r,⟨_,n,e,rfl,rfl,rfl⟩,z⟩
 ·refine⟨its.toList,r,⟨o,n,I.kh a o aI,ay,hd,by simpa using az⟩,?_⟩
  have e:=r.length;simp only[p6] at e;omega
def Inv.tuple(I:Inv X ag σ H s)(h:df X.K H a xs):∃its:List aj,Vals xs its/\IsTup s.heap a its.toArray/\xs.length<=cp:=by
 rcases h with h|⟨o,its,n,aI,ay,az,aq,r⟩
 ·obtain⟨z,its,r,p⟩:=h.ok I.b8;exact⟨its,r,p,z⟩
 ·refine⟨its.toList,r,⟨o,I.kh a o aI,ay,n,by simpa using az⟩,?_⟩
  have e:=r.length;simp only[p6] at e;omega
def Inv.LF(I:Inv X ag σ H s)(h:eU X.K H a xs)(h':eU X.K H a ys):xs=ys:=by
 obtain⟨its,r,⟨o,n,e,_,_,d⟩,_⟩:=I.list h;obtain⟨its',bR,⟨o',ot,a9,_,_,d'⟩,_⟩:=I.list h';rw[e] at a9;cases a9;rw[d] at d';injection d' with uB _;have:its=its':=by simpa using congrArg Array.toList uB
 subst this;exact r.inj bR
def Inv.ME(I:Inv X ag σ H s)(h:df X.K H a xs)(h':df X.K H a ys):xs=ys:=by
 obtain⟨its,r,⟨o,e,_,n,d⟩,_⟩:=I.tuple h;obtain⟨its',bR,⟨o',a9,_,ot,d'⟩,_⟩:=I.tuple h';rw[e] at a9;cases a9;rw[d] at d';injection d' with uB _;have:its=its':=by simpa using congrArg Array.toList uB
 subst this;exact r.inj bR
end
abbrev bj.nE(X:bj)(E:aj->aK->Prop):bj:={X with dG:=E}
abbrev bj.kj(X:bj):bj:=X.nE λ_ _=>False
theorem bj.Ok.nE{X:bj}(ok:X.Ok)(E:aj->aK->Prop):(X.nE E).Ok:=
 ⟨ok.mod,ok.kind,ok.glob,ok.blt,ok.above,ok.inj,ok.has,ok.uy,ok.hd,ok.frames,ok.aiu,ok.sv,ok.bs,ok.pq,ok.vi,ok.sx,ok.lD,ok.qQ⟩
def bj.Ok.pY{X:bj}{E:aj->aK->Prop}(ok:(X.nE E).Ok):X.Ok:=
 ⟨ok.mod,ok.kind,ok.glob,ok.blt,ok.above,ok.inj,ok.has,ok.uy,ok.hd,ok.frames,ok.aiu,ok.sv,ok.bs,ok.pq,ok.vi,ok.sx,ok.lD,ok.qQ⟩
section
variable {X:bj}{ag:List (ah×Obj)}{σ:St}{H:aw}{s:aK}{E:aj->aK->Prop}
theorem Inv.nE(I:Inv X ag σ H s)(E:aj->aK->Prop):Inv (X.nE E) ag σ H s:=⟨I.ok.nE E,I.os,I.bare,I.base,I.loc,I.cell,I.free,I.mq,I.pin,I.b8,I.len⟩
theorem Inv.pY(I:Inv (X.nE E) ag σ H s):Inv X ag σ H s:=⟨I.ok.pY,I.os,I.bare,I.base,I.loc,I.cell,I.free,I.mq,I.pin,I.b8,I.len⟩
theorem pe.pY{D:Ends}{f:Flow}{s':aK}(h:pe (X.nE E) ag D f s'):pe X ag D f s':=by
 cases f with
|next=>obtain⟨bD,af,I,q⟩:=h;exact⟨bD,af,I.pY,q⟩
|brk=>obtain⟨bD,af,I,q⟩:=h;exact⟨bD,af,I.pY,q⟩
|cont=>obtain⟨bD,af,I,q⟩:=h;exact⟨bD,af,I.pY,q⟩
|ret u=>obtain⟨v,bD,af,I,r,q⟩:=h;exact⟨v,bD,af,I.pY,r,q⟩
theorem i1.kj{st:List Stmt}{t:fZ}(h:i1 X.kj st t):i1 X st t:=λag s σ H D I hw=>
 fL (h ag s σ H D (I.nE _) hw) (λ_ _ q=>q.pY) λ_ _ z=>k3 z
end
section
variable {X:bj}{st:Stmt}{rest:List Stmt}{t u:fZ}{e:bz}{f':TE}{pos:Pos}
def ag':fZ:=λD σ H=>D.bQ σ H
def abt(t u:fZ):fZ:=λD σ H=>t {D with bQ:=u D} σ H
def Px:i1 X [] ag':=λ_ _ σ H _ I h=>wpAny_execs_nil ⟨σ,H,I,h⟩
def AG(ab:hQ X st t)(ak:i1 X rest u):i1 X (st::rest) (abt t u):=by
 intro ag s σ H D I h;refine wpAny_execs_cons (ct (ab ag s σ H {D with bQ:=u D} I h) λf s1 q=>?_);cases f with
|next=>
  obtain⟨bD,af,pa,q⟩:=q;exact ak ag s1 bD af D pa q
|ret v=>exact q
|brk=>exact q
|cont=>exact q
def AS(ab:hQ X st t):i1 X [st] t:=by
 intro ag s σ H D I h;refine wpAny_execs_cons (ct (ab ag s σ H D I h) λf s1 q=>?_);cases f with
|next=>exact wpAny_execs_nil q
|ret v=>exact q
|brk=>exact q
|cont=>exact q
def Inv.quiet{ag:List (ah×Obj)}{σ:St}{H:aw}{s:aK}(I:Inv X ag σ H s):interactive X.env=false:=by simp[interactive,I.ok.kind]
def ahb(f':TE):fZ:=λD σ H=>f' σ H λ_ H1=>D.bQ σ H1
def AU(he:bU X e f')(az:iS e none pos.line X.env=pure false:=by rfl):hQ X (.Expr e pos) (ahb f'):=by
 intro ag s σ H D I h;exact wpAny_Expr_any (ct (he ag s σ H _ I h) λv s1 ⟨x,H1,bk,aO,aP⟩=>⟨σ,H1,bk,aP⟩) I.quiet az
def abr(f':TE):fZ:=λD σ H=>f' σ H D.dj
def rX(he:bU X e f'):hQ X (.Return (some e) pos) (abr f'):=by
 intro ag s σ H D I h;exact wpAny_Return_some (ct (he ag s σ H _ I h) λv s1 ⟨x,H1,bk,aO,aP⟩=>⟨x,σ,H1,bk,aO,aP⟩)
def ag8:fZ:=λD _ H=>D.dj .fz H
def afz:hQ X (.Return none pos) ag8:=λ_ _ σ H _ I h=>wpAny_Return_none ⟨.fz,σ,H,I,rfl,h⟩
noncomputable def abm(c:TT)(t u:fZ):fZ:=λD σ H=>c σ H λb H1=>if b=true then t D σ H1 else u D σ H1
def QH{c:bz}{a b:List Stmt}{s8:TT}(ay:kc X c s8)(ax:i1 X a t)(aa:i1 X b u):hQ X (.If c a b pos) (abm s8 t u):=by
 intro ag s σ H D I h;refine wpAny_If (ct (ay ag s σ H _ I h) λd s1 ⟨H1,bk,aP⟩=>?_);cases d with
|true=>exact ax ag s1 σ H1 D bk aP
|false=>exact aa ag s1 σ H1 D bk aP
end
abbrev lr:=V->St->aw->(St->aw->Prop)->Prop
abbrev n4:=List V->St->aw->(St->aw->Prop)->Prop
noncomputable def n2(X:bj)(target:bz)(t:lr):Prop:=
 ∀(ag:List (ah×Obj)) (s:aK) (σ:St) (H:aw) (v:V) (u:aj) (Q:St->aw->Prop),Inv X ag σ H s->RelV v u->t v σ H Q ->
  bp (bL X.prog X.w) X.A (assign target X.env u) (λ_ s'=>∃bD af,Inv X ag bD af s'/\Q bD af) X.dG s
noncomputable def qH(X:bj)(ts:List bz)(t:n4):Prop:=
 ∀(ag:List (ah×Obj)) (s:aK) (σ:St) (H:aw) (vs:List V) (us:List aj) (Q:St->aw->Prop),Inv X ag σ H s->Vals vs us->t vs σ H Q ->
  bp (bL X.prog X.w) X.A (assignInOrder ((k5 ts X.env).map (·.2)) us) (λ_ s'=>∃bD af,Inv X ag bD af s'/\Q bD af) X.dG s
abbrev Bz:=V->V->V->aw->(aw->Prop)->Prop
noncomputable def JE(X:bj)(t:Bz):Prop:=
 ∀(ag:List (ah×Obj)) (s:aK) (σ:St) (H:aw) (o i v:V) (di e_ u:aj) (Q:aw->Prop),Inv X ag σ H s->RelV o di->RelV i e_->RelV v u->t o i v H Q ->
  bp (bL X.prog X.w) X.A (setItem di e_ u) (λ_ s'=>∃af,Inv X ag σ af s'/\Q af) X.dG s
section
variable {X:bj}{pos:Pos}
def QN(i:Nat):lr:=λv σ H Q=>Q (σ.set i (some v)) H
def AV{i:Nat}{x:Str}(dk:X.N.Nodup)(aJ:X.N[i]?=some x)(hx:Loc X.env.scope x)(hf:X.fn x=true\/X.env.scope.names.lookup x=some .local:=by first|exact .inl rfl|exact .inr rfl|assumption):n2 X (.Name x pos) (QN i):=by
 intro ag s σ H v u Q I r h;exact wpAny_assign_Name (O1 I dk aJ hx r (λs' pa=>⟨_,H,pa,h⟩) hf)
def Vi:n4:=λvs σ H Q=>vs=[]/\Q σ H
noncomputable def ahB(t:lr)(u:n4):n4:=λvs σ H Q=>∃v r,vs=v::r/\t v σ H λbD af=>u r bD af Q
def PA:qH X [] Vi:=by
 intro ag s σ H vs us Q I r h;obtain⟨e,h⟩:=h;subst e;cases r;exact assignInOrder_nil ⟨σ,H,I,h⟩
def Ig{e:bz}{es:List bz}{t:lr}{u:n4}(ab:n2 X e t)(ak:qH X es u)
  (az:(k5 (e::es) X.env).map (·.2)=assign e X.env::(k5 es X.env).map (·.2):=by rfl):qH X (e::es) (ahB t u):=by
 intro ag s σ H vs us Q I r h;obtain⟨v,GZ,aH,h⟩:=h;subst aH;cases r with
|cons r rp=>
  rw[az];refine assignInOrder_cons (ct (ab ag s σ H _ _ _ I r h) λ_ s1 ⟨wZ,H1,bk,aP⟩=>?_);exact ak ag s1 wZ H1 _ _ Q bk rp aP
noncomputable def Vk(K:a_)(n:Nat)(t:n4):lr:=λv σ H Q=>∃a xs,v=.ref a/\df K H a xs/\xs.length=n/\t xs σ H Q
def P'{es:List bz}{k:Nat}{t:n4}{n:Nat}(ay:X.calm=true)(h:qH X es t)
  (a7:(k5 es X.env).length=n:=by rfl) (jW:(k5 es X.env).findIdx? (·.1)=none:=by rfl):n2 X (.Tuple es k pos) (Vk X.K n t):=by
 intro ag s σ H v u Q I r hw;obtain⟨a,xs,aH,bK,av,hw⟩:=hw;subst aH;cases r;obtain⟨its,bZ,bg,aq⟩:=I.tuple bK;refine assign_Tuple_tuple (I.ok.hd ay) bg (by simp[a7,<- av,bZ.length]) jW λh' hx=>?_;have bk:Inv X ag σ H {s with heap:=h'}:=I.kept (t':=s.toks) λb o e=>hx b o (eL (cP e)) e;exact h ag _ σ H xs _ Q bk (by simpa using bZ) hw
noncomputable def Vj(to pX:TE)(t:Bz):lr:=λv σ H Q=>to σ H λo H1=>pX σ H1 λi a'=>t o i v a' λdn=>Q σ dn
def agw{o i:bz}{to pX:TE}{t:Bz}(aF:bU X o to)(aJ:bU X i pX)(az:JE X t)
  (ax:∀v,assign (.Subscript o i pos) X.env v=(do
   let di <- holding [v] (eval o X.env)
   let e_ <- holding [v,di] (eval i X.env)
   standAt pos
   holding [v,di,e_] (setItem di e_ v)
   release [v,di,e_] []):=by intro _;rfl):n2 X (.Subscript o i pos) (Vj to pX t):=by
 intro ag s σ H v u Q I r h;rw[ax];refine aV (k4 (ct (aF ag s σ H _ I h) λdi s1 ⟨x,H1,bk,aO,aP⟩=>?_));refine aV (k4 (ct (aJ ag s1 σ H1 _ bk aP) λe_ s2 ⟨y,a',b0,a4,ba⟩=>?_));refine aV (wpAny_standAt (aV (k4 (ct (az ag s2 σ a' x y v di e_ u _ b0 aO a4 r ba) λ_ s3 ⟨dn,dx,c9⟩=>?_))));exact wpAny_release ⟨σ,dn,dx,c9⟩
def Mz(f':TE)(g:lr):fZ:=λD σ H=>f' σ H λx H1=>g x σ H1 D.bQ
def agv{cX e:bz}{f':TE}{g:lr}(he:bU X e f')(bG:n2 X cX g)(az:swapsWithSole [cX] e pos.line X.env=pure false:=by rfl)(hw:swappedStores [cX] e X.env=pure none:=by rfl)
  (ab:(k5 [cX] X.env).map (·.2)=[assign cX X.env]:=by rfl):hQ X (.Assign [cX] e pos) (Mz f' g):=by
 intro ag s σ H D I h;refine wpAny_Assign_stores (ct (he ag s σ H _ I h) λv s1 ⟨x,H1,bk,aO,aP⟩=>?_) az hw;rw[ab];exact ct (bG ag s1 σ H1 x v _ bk aO aP) λ_ s2 q=>q
def A2{i:Nat}{x:Str}{e:bz}{f':TE}{pos':Pos}(dk:X.N.Nodup)(aJ:X.N[i]?=some x)(hx:Loc X.env.scope x)(he:bU X e f')(az:iS e (some (.Name x pos')) pos.line X.env=pure false:=by rfl)(hf:X.fn x=true\/X.env.scope.names.lookup x=some .local:=by first|exact .inl rfl|exact .inr rfl|assumption):
  hQ X (.Assign [.Name x pos'] e pos) (Mz f' (QN i)):=by
 intro ag s σ H D I h;refine wpAny_Assign_Name (ct (he ag s σ H _ I h) λv s1 ⟨y,H1,bk,aO,aP⟩=>?_) az;exact O1 bk dk aJ hx aO (λs2 b0=>⟨_,H1,b0,aP⟩) hf
end
structure kb where
 go:Nat->aw->Prop
 lX:Nat->aw->V->aw->Prop
 stop:Nat->aw->Prop
noncomputable def kI(X:bj)(ag:List (ah×Obj))(H:aw)(b:ah):Prop:=
 H b=none/\b≠X.env.locals/\b∉X.ar/\(b∈X.ex\/X.dq.heap.objs.size<=b)/\(∀x c,X.env.cells.lookup x=some c->c≠b)/\∀p∈X.dI++ag,p.1≠b
def Inv.uH{X:bj}{ag:List (ah×Obj)}{σ:St}{H af:aw}{s:aK}{b:ah}(I:Inv X ag σ H s)(aa:s.heap.objs.size<=b)(a7:af b=none):kI X ag af b:=by
 refine⟨a7,g_ (jd I.lt aa),I.Yb aa,.inr (lW I.h3 aa),λx c e z=>?_,λp aL z=>?_⟩
 ·obtain⟨v,q⟩:=I.cell x c e;exact absurd (jd q.lt (by rw[z];exact aa)) (Nat.lt_irrefl _)
 ·exact absurd (jd (cP (I.pin p aL).1) (by rw[z];exact aa)) (Nat.lt_irrefl _)
structure Turn(P:cF)(w:cv)(K:a_)(cX:bz)(J:kb)(bW:List ah)(it:ah)(gs:Nat->bT->Prop):Prop where
 mem:it∈bW
 obj:∀i h,gs i h->∀b∈bW,∃o,h.get? b=some o/\∀v,o.data≠.cell v
 keep:∀i h h',gs i h->(∀b∈bW,∀o,h.get? b=some o->h'.get? b=some o)->gs i h'
 item:∀(X:bj),X.prog=P->X.w=w->X.K=K->X.calm=true->∀(i:Nat) (ag:List (ah×Obj)) (s:aK) (σ:St) (H:aw) (E:aj->aK->Prop),Inv X ag σ H s->(∀b∈bW,kI X ag H b)->gs i s.heap->J.go i H ->
  bp (bL P w) X.A (pyNext (.ref it)) (λr s1=>∃u,r=some u /\
   bp (bL P w) X.A (letOwnedTupleGo cX (.ref it) u) (λ_ s2=>∃x af,Inv X ag σ af s2/\RelV x u/\J.lX i H x af/\gs (i+1) s2.heap/\∀b∈bW,af b=none) E s1) E s
 done:∀(X:bj),X.prog=P->X.w=w->X.K=K->X.calm=true->∀(i:Nat) (ag:List (ah×Obj)) (s:aK) (σ:St) (H:aw) (E:aj->aK->Prop),Inv X ag σ H s->(∀b∈bW,kI X ag H b)->gs i s.heap->J.stop i H ->
  bp (bL P w) X.A (pyNext (.ref it)) (λr s1=>r=none/\Inv X ag σ H s1) E s
 self:∀(A:cY) (i:Nat) (s:aK) (Q:aj->aK->Prop) (E:aj->aK->Prop),gs i s.heap->Q (.ref it) s->bp (bL P w) A (pyIter (.ref it)) Q E s
abbrev TI:=St->aw->(kb->aw->Prop)->Prop
noncomputable def JD(X:bj)(ag:List (ah×Obj))(σ:St)(cX:bz)(R:kb->aw->Prop)(yj:aj)(s2:aK):Prop:=
 ∃(it:ah) (bW:List ah) (gs:Nat->bT->Prop) (J:kb) (af:aw),yj=.ref it/\Inv X ag σ af s2/\Turn X.prog X.w X.K cX J bW it gs/\gs 0 s2.heap/\(∀b∈bW,kI X ag af b)/\R J af
noncomputable def pd(X:bj)(cX iter:bz)(oE:TI):Prop:=
 ∀(ag:List (ah×Obj)) (s:aK) (σ:St) (H:aw) (R:kb->aw->Prop),Inv X ag σ H s->oE σ H R ->
  bp (bL X.prog X.w) X.A (eval iter X.env) (λv s1=>bp (bL X.prog X.w) X.A (pyIter v) (JD X ag σ cX R) X.dG s1) X.dG s
def Jd{M:Model}{A:cY}{E:aj->aK->Prop}{s:aK}{cX:bz}{it:ah}{u:aj}{o:Obj}{n:String}{vs:Array aj}{Q:Unit->aK->Prop}(aF:s.heap.get? it=some o)(ay:o.cls=.type n)(hd:o.data=.fields vs)
    (a7:["enumerate","zip","dict_itemiterator","dict_reverseitemiterator","odict_iterator","itertools.zip_longest","itertools.pairwise"].contains n=false) (ij:Q () s):bp M A (letOwnedTupleGo cX (.ref it) u) Q E s:=by
  unfold letOwnedTupleGo;cases cX <;> first
    |exact cw ij
    | (cases u <;> first
        |exact cw ij
        | (refine aV (wpAny_load aF ?_)
           rw[ay,hd];show bp M A (if (["enumerate","zip","dict_itemiterator","dict_reverseitemiterator","odict_iterator","itertools.zip_longest","itertools.pairwise"].contains n && vs[0]?==some (rawInt _))=true then _ else _) Q E s;rw[if_neg (by intro h;rw[a7,Bool.false_and] at h;cases h)];exact cw ij))
noncomputable def Bt(K:a_)(a:ah):kb:=
 ⟨λi H=>∃xs x,eU K H a xs/\xs[i]?=some x,λi H x af=>af=H/\∀xs,eU K H a xs->xs[i]?=some x,λi H=>∃xs,eU K H a xs/\xs.length<=i⟩
noncomputable def Bu(K:a_)(a:ah):kb:=
 ⟨λi H=>∃xs x,df K H a xs/\xs[i]?=some x,λi H x af=>af=H/\∀xs,df K H a xs->xs[i]?=some x,λi H=>∃xs,df K H a xs/\xs.length<=i⟩
noncomputable def w9(lo:Int)(n:Nat):kb:=⟨λi _=>i<n,λi H x af=>af=H/\x=.int (lo+i),λi _=>n<=i⟩
def adR{P:cF}{w:cv}{K:a_}{cX:bz}(a it:ah):Turn P w K cX (Bt K a) [it] it (λi h=>h.IsListIter it a i) where
 mem:=by simp
 obj:=λi h st b aa=>by
  have e:b=it:=by simpa using aa
  subst e;obtain⟨o,e,c,d⟩:=st;exact⟨o,e,λv z=>by rw[d] at z;cases z⟩
 keep:=λi h h' st k=>st.at λo e=>k it (by simp) o e
 item:=by
  intro X hh hw hC ay i ag s σ H E I hf st bG;subst hh hw hC;obtain⟨xs,x,bK,hx⟩:=bG;obtain⟨its,bZ,p,aq⟩:=I.list bK;obtain⟨u,b7,dm⟩:=bZ.get hx;obtain⟨f0,f1,f2,hW,f4,hX⟩:=hf it (by simp);refine wpAny_pyNext_list_item st p.isList (x:=u) (by simpa using b7) λh' mC jb=>?_;have bk:Inv X ag σ H {s with heap:=h'}:=I.turned (t':=s.toks) (λb o aa e=>(jb.2 b aa).trans e) f0 f1 hW f4 hX;obtain⟨o,e,c,d⟩:=id mC;exact⟨u,rfl,Jd (s:={s with heap:=h'}) e c d (by decide) ⟨x,H,bk,dm,⟨rfl,λys bI=>by rw[I.LF bI bK];exact hx⟩,mC,λb aa=>(hf b aa).1⟩⟩
 done:=by
  intro X hh hw hC ay i ag s σ H E I hf st bG;subst hh hw hC;obtain⟨xs,bK,hx⟩:=bG;obtain⟨its,bZ,p,aq⟩:=I.list bK;obtain⟨f0,f1,f2,hW,f4,hX⟩:=hf it (by simp);have av:=bZ.length;exact wpAny_pyNext_list_end (I.ok.hd ay) st p.isList (by simp;omega) λh' dv=>⟨rfl,I.turned (t':=s.toks) (λb o aa e=>dv b o aa e) f0 f1 hW f4 hX⟩
 self:=λ_ _ _ _ _ st h=>wpAny_pyIter_listiter st h
def adl{P:cF}{w:cv}{K:a_}{cX:bz}(a it:ah):Turn P w K cX (Bu K a) [it] it (λi h=>h.IsTupleIter it a i) where
 mem:=by simp
 obj:=λi h st b aa=>by
  have e:b=it:=by simpa using aa
  subst e;obtain⟨o,e,c,d⟩:=st;exact⟨o,e,λv z=>by rw[d] at z;cases z⟩
 keep:=λi h h' st k=>st.at λo e=>k it (by simp) o e
 item:=by
  intro X hh hw hC ay i ag s σ H E I hf st bG;subst hh hw hC;obtain⟨xs,x,bK,hx⟩:=bG;obtain⟨its,bZ,p,aq⟩:=I.tuple bK;obtain⟨u,b7,dm⟩:=bZ.get hx;obtain⟨f0,f1,f2,hW,f4,hX⟩:=hf it (by simp);refine wpAny_pyNext_tuple_item st (show s.heap.IsTuple a its.toArray from p) (x:=u) (by simpa using b7) λh' mC jb=>?_;have bk:Inv X ag σ H {s with heap:=h'}:=I.turned (t':=s.toks) (λb o aa e=>(jb.2 b aa).trans e) f0 f1 hW f4 hX;obtain⟨o,e,c,d⟩:=id mC;exact⟨u,rfl,Jd (s:={s with heap:=h'}) e c d (by decide) ⟨x,H,bk,dm,⟨rfl,λys bI=>by rw[I.ME bI bK];exact hx⟩,mC,λb aa=>(hf b aa).1⟩⟩
 done:=by
  intro X hh hw hC ay i ag s σ H E I hf st bG;subst hh hw hC;obtain⟨xs,bK,hx⟩:=bG;obtain⟨its,bZ,p,aq⟩:=I.tuple bK;obtain⟨f0,f1,f2,hW,f4,hX⟩:=hf it (by simp);have av:=bZ.length;exact wpAny_pyNext_tuple_end (I.ok.hd ay) st (show s.heap.IsTuple a its.toArray from p) (by simp;omega) λh' dv=>⟨rfl,I.turned (t':=s.toks) (λb o aa e=>dv b o aa e) f0 f1 hW f4 hX⟩
 self:=λ_ _ _ _ _ st h=>wpAny_pyIter_tupleiter st h
def adm{P:cF}{w:cv}{K:a_}{cX:bz}(it:ah)(lo:Int)(n:Nat):Turn P w K cX (w9 lo n) [it] it (λi h=>IsRangeIter h it (lo+(i:Nat)*1) ((n:Int) - (i:Nat)) 1) where
 mem:=by simp
 obj:=λi h st b aa=>by
  have e:b=it:=by simpa using aa
  subst e;exact⟨_,st,λv z=>by
   have jf:Data.fields _=Data.cell v:=z;cases jf⟩
 keep:=λi h h' st k=>k it (by simp) _ st
 item:=by
  intro X hh hw hC ay i ag s σ H E I hf st bG;subst hh hw hC;obtain⟨f0,f1,f2,hW,f4,hX⟩:=hf it (by simp);have W:=Walks.range (prog:=X.prog) (w:=X.w) (I.ok.hd ay) it lo 1 n;refine W.item i s _ _ bG st λv h' tk bq mC bJ=>?_;obtain⟨t,rfl⟩:=bq;have bk:Inv X ag σ H {s with heap:=h',toks:=tk}:=I.turned (λb o aa e=>bJ b o (by simpa using aa) e) f0 f1 hW f4 hX;refine⟨_,rfl,Jd (s:={s with heap:=h',toks:=tk}) (n:="range_iterator") mC rfl rfl (by decide) ⟨.int (lo+i),H,bk,⟨t,?_⟩,⟨rfl,rfl⟩,mC,λb aa=>(hf b aa).1⟩⟩;rw[Int.mul_one]
 done:=by
  intro X hh hw hC ay i ag s σ H E I hf st bG;subst hh hw hC;obtain⟨f0,f1,f2,hW,f4,hX⟩:=hf it (by simp);exact wpAny_pyNext_range_end (I.ok.hd ay) st (by have:n<=i:=bG;omega) λh' dv=>⟨rfl,I.turned (t':=s.toks) (λb o aa e=>dv b o aa e) f0 f1 hW f4 hX⟩
 self:=λ_ _ _ _ _ st h=>wpAny_pyIter_rangeiter st h
end bc
namespace bc
open PySem PySem.Spec PyProof.Rows
section
variable {X:bj}{cX:bz}
def aeJ{ag:List (ah×Obj)}{σ:St}{H:aw}{s:aK}{R:kb->aw->Prop}{E:aj->aK->Prop}{lo aJ:Int}{t u v:Tok}{tk:Nat}(I:Inv X ag σ H s)(ab:-(2 ^ 62)<=lo)(ak:lo<2 ^ 62)(bF:-(2 ^ 62)<=aJ)(cT:aJ<2 ^ 62)
  (q:R (w9 lo (aJ - lo).toNat) H):bp (bL X.prog X.w) X.A (pyIter (.ref s.heap.objs.size)) (JD X ag σ cX R) E {s with heap:=s.heap.push {cls:=.type "range",data:=.fields #[.int lo t,.int aJ u,.int 1 v]},toks:=tk}:=by
 refine wpAny_pyIter_range (IsRange.new ..) (small_one ab ak bF cT) ?_
 have bk:Inv X ag σ H {s with heap:=s.heap.push {cls:=.type "range",data:=.fields #[.int lo t,.int aJ u,.int 1 v]},toks:=tk}:=I.kept λb o e=>c2 _ e;refine⟨(s.heap.push {cls:=.type "range",data:=.fields #[.int lo t,.int aJ u,.int 1 v]}).objs.size,[(s.heap.push {cls:=.type "range",data:=.fields #[.int lo t,.int aJ u,.int 1 v]}).objs.size],_,_,H,rfl,
  bk.kept (t':=tk) λb o e=>c2 _ e,adm _ lo (aJ - lo).toNat,?_,λb aa=>?_,q⟩
 ·have aH:lo+((0:Nat):Int)*1=lo:=by simp
  have aS:(((aJ - lo).toNat:Nat):Int) - ((0:Nat):Int)=Builtin.Range.rangeSize lo aJ 1:=by rw[rangeSize_one];split <;> omega
  show IsRangeIter _ _ (lo+((0:Nat):Int)*1) ((((aJ - lo).toNat:Nat):Int) - ((0:Nat):Int)) 1
  rw[aH,aS];exact g9 _ rfl
 ·have e:b=(s.heap.push {cls:=.type "range",data:=.fields #[.int lo t,.int aJ u,.int 1 v]}).objs.size:=by simpa using aa
  subst e;exact bk.uH (dD _) (bk.b8.fresh (dD _))
noncomputable def ahA(cq:fY):TI:=λσ H R=>cq σ H λvs H1=>∃j:Int,vs=[.int j]/\-(2 ^ 62)<=j/\j<2 ^ 62/\R (w9 0 j.toNat) H1
def ad2{a:bz}{cq:fY}{p pos:Pos}(bG:fo X "range")(hm:X.mg "range"=none)(ax:ia X [a] cq)(az:bS [a] X.env=[(false,eval a X.env)]:=by rfl):pd X cX (.Call (.Name "range" p) [a] [] pos) (ahA cq):=by
 intro ag s σ H R I h;refine Call_ (r1 I bG hm boot_range (tc (ct (ax pos ag s σ H _ I h) λus s1 ⟨vs,H1,bk,aO,aP⟩=>?_) az rfl));obtain⟨j,e,aP,ba,q⟩:=aP;subst e;cases aO with
|cons r rp=>
  cases rp
  obtain⟨t,rfl⟩:=r;exact call_range_1 (aeJ bk (by omega) (by omega) aP ba (by simpa using q))
noncomputable def abj(oE:TI)(g:lr)(eJ:fZ):fZ:=λD σ H=>oE σ H λJ H1=>∃W:Nat->Nat->St->aw->Prop,(∃m,W 0 m σ H1)/\∀i m σ H,W i m σ H ->
 (J.stop i H/\D.bQ σ H)\/(J.go i H/\∃N:St->aw->Prop,(∀bD af,N bD af->∃jA,jA<m/\W (i+1) jA bD af)/\∀x af,J.lX i H x af->g x σ af λr8 a'=>eJ {D with bQ:=N,d_:=N,gT:=D.bQ} r8 a')
noncomputable def rY(bW:List ah)(h:bT):List (ah×Obj):=bW.filterMap λb=>(h.get? b).map λo=>(b,o)
def tC{bW:List ah}{h:bT}{b:ah}{o:Obj}(aa:b∈bW)(e:h.get? b=some o):(b,o)∈rY bW h:=List.mem_filterMap.mpr ⟨b,aa,by rw[e];rfl⟩
def ad4{bW:List ah}{h:bT}{p:ah×Obj}(aL:p∈rY bW h):p.1∈bW/\h.get? p.1=some p.2:=by
 obtain⟨b,aa,e⟩:=List.mem_filterMap.mp aL;cases q:h.get? b with
|none=>rw[q] at e;cases e
|some o=>
  rw[q] at e;have a9:(b,o)=p:=eB e;subst a9;exact⟨aa,q⟩
def Inv.pinned{ag:List (ah×Obj)}{σ:St}{H:aw}{s:aK}{bW:List ah}(I:Inv X ag σ H s)(hf:∀b∈bW,kI X ag H b)(aF:∀b∈bW,∃o,s.heap.get? b=some o/\∀v,o.data≠.cell v):Inv X (ag++rY bW s.heap) σ H s:=
 I.L_ λp aL=>(j4.mp aL).elim (λz=>I.pin p (kr _ z)) λz=>by
  obtain⟨aa,e⟩:=ad4 z;obtain⟨f0,f1,f2,_⟩:=hf p.1 aa;obtain⟨o,a9,d⟩:=aF p.1 aa;rw[e] at a9;cases a9;exact⟨e,f0,f1,f2,d⟩
def Inv.vC{ag pl:List (ah×Obj)}{σ:St}{H:aw}{s:aK}(I:Inv X (ag++pl) σ H s):Inv X ag σ H s:=I.L_ λp aL=>I.pin p (kr _ (List.mem_append_left _ aL))
def IW{iter:bz}{body:List Stmt}{oE:TI}{g:lr}{eJ:fZ}{pos:Pos}(aL:PassesOwn (bL X.prog X.w) X.A X.env X.dG)(ay:X.calm=true)(aJ:pd X cX iter oE)(bG:n2 X cX g)(aa:i1 X body eJ)
  (az:∀x,oS iter X.env x=pure x:=by intro _;rfl):hQ X (.For cX iter body [] pos) (abj oE g eJ):=by
 intro ag s σ H D I h;refine wpAny_For (ct (aJ ag s σ H _ I h) λv s1 ab=>ct ab λyj s2 ak=>?_) az;obtain⟨it,bW,gs,J,a',e,b0,T,hI,f2,W,⟨m0,ru⟩,turn⟩:=ak;subst e;have mE:∀{af:aw},(∀b∈bW,af b=none)->∀b∈bW,kI X ag af b:=λa7 b aa=>⟨a7 b aa,(f2 b aa).2⟩;refine codeAny_forLoop_any (λn s'=>∃i bD af,Inv X ag bD af s'/\gs i s'.heap/\(∀b∈bW,af b=none)/\W i n bD af) ?_ m0 ⟨0,σ,a',b0,hI,λb aa=>(f2 b aa).1,ru⟩;rintro n s3 ⟨i,j_,dn,dx,pV,pC,pZ⟩;rcases turn i n j_ dn pZ with ⟨stop,_O⟩|⟨go,N,dk,step⟩
 ·refine wpAny_passesOwn aL (ct (T.done X rfl rfl rfl ay i ag s3 j_ dn X.dG dx (mE pC) pV stop) λr s4 ⟨aC,i0⟩=>?_)
  subst aC;exact wpAny_execs_nil ⟨j_,dn,i0,_O⟩
 ·refine wpAny_passesOwn aL (ct (T.item X rfl rfl rfl ay i ag s3 j_ dn X.dG dx (mE pC) pV go) λr s4 ⟨u,aC,cT⟩=>?_)
  subst aC;refine wpAny_passesOwn aL (ct cT λ_ s5 ⟨x,gx,l7,rm,vO,mD,uI⟩=>?_);have ub:=l7.pinned (mE uI) (T.obj _ _ mD);refine wpAny_passesOwn aL (ct (bG _ s5 j_ gx x u _ ub rm (step x gx vO)) λ_ ja ⟨nV,r9,pb,pQ⟩=>?_);refine wpAny_passesOwn aL (ct (aa _ ja nV r9 _ pb pQ) λf cW pR=>?_);have again:∀{iC:St} {eD:aw},Inv X (ag++rY bW s5.heap) iC eD cW->N iC eD->∃m,m<n/\∃i bD af,Inv X ag bD af cW/\gs i cW.heap/\(∀b∈bW,af b=none)/\W i m bD af:=λ{iC eD} gy vf=>by
   obtain⟨jA,hm,w7⟩:=dk iC eD vf;refine⟨jA,hm,i+1,iC,eD,gy.vC,T.keep _ _ _ mD λb aa o e=>(gy.pin (b,o) (kr _ (kr _ (tC aa e)))).1,λb aa=>?_,w7⟩;obtain⟨o,e,d⟩:=T.obj _ _ mD b aa;exact (gy.pin (b,o) (kr _ (kr _ (tC aa e)))).2.1
  cases f with
  |next=>obtain⟨iC,eD,gy,vf⟩:=pR;exact again gy vf
  |cont=>obtain⟨iC,eD,gy,vf⟩:=pR;exact again gy vf
  |brk=>obtain⟨iC,eD,gy,pR⟩:=pR;exact⟨iC,eD,gy.vC,pR⟩
  |ret v=>obtain⟨lT,iC,eD,gy,rn,pR⟩:=pR;exact⟨lT,iC,eD,gy.vC,rn,pR⟩
end
end bc
namespace bc
open PySem PySem.Spec PyProof.Rows
abbrev gj:=V->V->aw->c6->Prop
noncomputable def eE(X:bj)(f:aj->aj->Sem aj)(r:gj):Prop:=
 ∀(ag:List (ah×Obj)) (s:aK) (σ:St) (H:aw) (x y:V) (v u:aj) (Q:c6),Inv X ag σ H s->RelV x v->RelV y u->r x y H Q ->
  bp (bL X.prog X.w) X.A (f v u) (ht X ag σ Q) X.dG s
noncomputable def BA(X:bj)(f:aj->Sem aj)(r:V->aw->c6->Prop):Prop:=
 ∀(ag:List (ah×Obj)) (s:aK) (σ:St) (H:aw) (x:V) (v:aj) (Q:c6),Inv X ag σ H s->RelV x v->r x H Q ->
  bp (bL X.prog X.w) X.A (f v) (ht X ag σ Q) X.dG s
noncomputable def lj(X:bj)(f:aj)(r:List V->aw->c6->Prop):Prop:=
 ∀(ag:List (ah×Obj)) (s:aK) (σ:St) (H:aw) (xs:List V) (us:List aj) (Q:c6),Inv X ag σ H s->Vals xs us->r xs H Q ->
  bp (bL X.prog X.w) X.A (call f us) (ht X ag σ Q) X.dG s
noncomputable def Sf(X:bj)(r:V->aw->(Bool->aw->Prop)->Prop):Prop:=
 ∀(ag:List (ah×Obj)) (s:aK) (σ:St) (H:aw) (x:V) (v:aj) (Q:Bool->aw->Prop),Inv X ag σ H s->RelV x v->r x H Q ->
  bp (bL X.prog X.w) X.A (truthy v) (xb X ag σ Q) X.dG s
def s7(r:gj)(cq eJ:TE):TE:=λσ H Q=>cq σ H λx H1=>eJ σ H1 λy a'=>r x y a' Q
def abw(r:V->aw->c6->Prop)(cq:TE):TE:=λσ H Q=>cq σ H λx H1=>r x H1 Q
noncomputable def y3(C:Int->Int->Prop)(g:Int->Int->V):gj:=λx y H Q=>∃i j,x=.int i/\y=.int j/\C i j/\Q (g i j) H
def lP(g:Int->Int->V):gj:=λx y H Q=>∃i j,x=.int i/\y=.int j/\Q (g i j) H
def Me(g:Int->V):V->aw->c6->Prop:=λx H Q=>∃i,x=.int i/\Q (g i) H
section
variable {X:bj}{a b c:bz}{cq eJ s8:TE}{pos:Pos}
def Ck(ax:bU X a cq)(aa:bU X b eJ){ag:List (ah×Obj)}{s:aK}{σ:St}{H:aw}{R:V->V->aw->Prop}(I:Inv X ag σ H s)
  (h:cq σ H λx H1=>eJ σ H1 λy a'=>R x y a') {Q:aj->aK->Prop} {f:aj->aj->Sem aj}
  (hf:∀v u s2 x y a',Inv X ag σ a' s2->RelV x v->RelV y u->R x y a'->bp (bL X.prog X.w) X.A (f v u) Q X.dG s2):
  bp (bL X.prog X.w) X.A (eval a X.env) (λv dd=>bp (bL X.prog X.w) X.A (eval b X.env) (λu lR=>bp (bL X.prog X.w) X.A (f v u) Q X.dG lR) X.dG dd) X.dG s:=by
 refine ct (ax ag s σ H _ I h) λv s1 ⟨x,H1,bk,aO,aP⟩=>?_
 refine ct (aa ag s1 σ H1 _ bk aP) λu s2 ⟨y,a',b0,a4,ba⟩=>?_
 exact hf v u s2 x y a' b0 aO a4 ba
def r4{op:Operator}{r:gj}(aF:eE X (k6 op) r)(ax:bU X a cq)(aa:bU X b eJ):bU X (.BinOp a op b pos) (s7 r cq eJ):=by
 intro ag s σ H Q I h;exact wpAny_BinOp (Ck ax aa I h λv u s2 x y a' b0 aU bw q=>aF ag s2 σ a' x y v u Q b0 aU bw q)
def aht{op:UnaryOp}{r:V->aw->c6->Prop}(aF:BA X (unaryOp op) r)(ax:bU X a cq):bU X (.UnaryOp op a pos) (abw r cq):=by
 intro ag s σ H Q I h;exact UnaryOp_ (ct (ax ag s σ H _ I h) λv s1 ⟨x,H1,bk,aO,aP⟩=>aF ag s1 σ H1 x v Q bk aO aP)
def Gg{f:aj->aj->Sem aj}{C:Int->Int->Prop}{g:Int->Int->Int}
  (rule:∀(i j:Int) (t u:Tok) (s:aK) (Q:aj->aK->Prop) (E:aj->aK->Prop),C i j->Q (.int (g i j) s.toks) {s with toks:=s.toks+1}->bp (bL X.prog X.w) X.A (f (.int i t) (.int j u)) Q E s):
  eE X f (y3 C λi j=>.int (g i j)):=by
 intro ag s σ H x y v u Q I aU bw h;obtain⟨i,j,rfl,rfl,ay,q⟩:=h;obtain⟨t,rfl⟩:=aU;obtain⟨t',rfl⟩:=bw;exact rule i j t t' s _ _ ay ⟨.int (g i j),H,I.tok _,⟨_,rfl⟩,q⟩
def L5{f:aj->aj->Sem aj}{g:Int->Int->Int}
  (rule:∀(i j:Int) (t u:Tok) (s:aK) (Q:aj->aK->Prop) (E:aj->aK->Prop),Q (.int (g i j) s.toks) {s with toks:=s.toks+1}->bp (bL X.prog X.w) X.A (f (.int i t) (.int j u)) Q E s):
  eE X f (lP λi j=>.int (g i j)):=by
 intro ag s σ H x y v u Q I aU bw h;obtain⟨i,j,rfl,rfl,q⟩:=h;obtain⟨t,rfl⟩:=aU;obtain⟨t',rfl⟩:=bw;exact rule i j t t' s _ _ ⟨.int (g i j),H,I.tok _,⟨_,rfl⟩,q⟩
def y1{f:aj->aj->Sem aj}{g:Int->Int->Bool}
  (rule:∀(i j:Int) (t u:Tok) (s:aK) (Q:aj->aK->Prop) (E:aj->aK->Prop),Q (.bool (g i j)) s->bp (bL X.prog X.w) X.A (f (.int i t) (.int j u)) Q E s):
  eE X f (lP λi j=>.c0 (g i j)):=by
 intro ag s σ H x y v u Q I aU bw h;obtain⟨i,j,rfl,rfl,q⟩:=h;obtain⟨t,rfl⟩:=aU;obtain⟨t',rfl⟩:=bw;exact rule i j t t' s _ _ ⟨.c0 (g i j),H,I,rfl,q⟩
def QS(i j:Int):Prop:=0<j/\j<1073741824
def w1(i j:Int):Prop:=(-(2 ^ 64)<i/\i<2 ^ 64)\/(-(2 ^ 64)<j/\j<2 ^ 64)
def w1.ok{i j:Int}(h:w1 i j):IntMulOk i j:=by
 rcases h with ⟨ab,ak⟩|⟨ab,ak⟩
 ·exact .of_left (intBits_le_64 ab ak)
 ·exact .of_right (intBits_le_64 ab ak)
def Qe:eE X (k6 .Add) (lP λi j=>.int (i+j)):=L5 λ_ _ _ _ _ _ _ q=>add_int q
def agF:eE X (k6 .Sub) (lP λi j=>.int (i - j)):=L5 λ_ _ _ _ _ _ _ q=>sub_int q
def agG:eE X (k6 .Mult) (y3 w1 λi j=>.int (i*j)):=Gg λ_ _ _ _ _ _ _ ay q=>mul_int q ay.ok
def afL:eE X (k6 .FloorDiv) (y3 QS λi j=>.int (i / j)):=Gg λi j _ _ _ _ _ ay q=>by
 have ab:(0:Int)<j:=ay.1;have ak:j<1073741824:=ay.2;exact floordiv_int (by omega) (by rw[Int.fdiv_eq_ediv_of_nonneg i (by omega)];exact q) (.inl (PyProof.noPylong_small (by omega)))
def agH:eE X (k6 .Mod) (y3 (λ_ j=>0<j) λi j=>.int (i % j)):=Gg λi j _ _ _ _ _ ay q=>by
 have ab:(0:Int)<j:=ay;exact mod_int' (by omega) (by rw[Int.fmod_eq_emod_of_nonneg i (by omega)];exact q)
def abS{f:aj->Sem aj}{g:Int->Int}
  (rule:∀(i:Int) (t:Tok) (s:aK) (Q:aj->aK->Prop) (E:aj->aK->Prop),Q (.int (g i) s.toks) {s with toks:=s.toks+1}->bp (bL X.prog X.w) X.A (f (.int i t)) Q E s):
  BA X f (Me λi=>.int (g i)):=by
 intro ag s σ H x v Q I aU h;obtain⟨i,rfl,q⟩:=h;obtain⟨t,rfl⟩:=aU;exact rule i t s _ _ ⟨.int (g i),H,I.tok _,⟨_,rfl⟩,q⟩
def agb:BA X (unaryOp .USub) (Me λi=>.int (-i)):=abS λ_ _ _ _ _ q=>neg_int q
end
section
variable {X:bj}{a b c:bz}{cq eJ s8:TE}{pos:Pos}
def A_{ag:List (ah×Obj)}{σ:St}{H:aw}{s:aK}{Q:c6}{k h1:Bool}(I:Inv X ag σ H s)(q:Q (.c0 k) H)(e:k=h1):ht X ag σ Q (.bool h1) s:=by
 subst e;exact⟨.c0 k,H,I,rfl,q⟩
def t4:eE X (iz .Lt) (lP λi j=>.c0 (decide (i<j))):=y1 λ_ _ _ _ _ _ _ q=>lt_int q
def Jc:eE X (iz .LtE) (lP λi j=>.c0 (decide (i<=j))):=y1 λ_ _ _ _ _ _ _ q=>le_int q
def Bf:eE X (iz .Gt) (lP λi j=>.c0 (decide (j<i))):=y1 λ_ _ _ _ _ _ _ q=>gt_int q
def QK:eE X (iz .GtE) (lP λi j=>.c0 (decide (j<=i))):=y1 λ_ _ _ _ _ _ _ q=>ge_int q
def tD:eE X (iz .Lt) (λx y H Q=>∃i j,x=.str i/\y=.str j/\Q (.c0 (decide (i.cps.toList<j.cps.toList))) H):=by
 intro ag s σ H x y v u Q I aU bw h;obtain⟨i,j,rfl,rfl,q⟩:=h;obtain⟨t,rfl⟩:=aU;obtain⟨t',rfl⟩:=bw;exact lt_str (A_ I q rfl)
def eE.or{f:aj->aj->Sem aj}{r bR:gj}(h:eE X f r)(h':eE X f bR):eE X f (λx y H Q=>r x y H Q\/bR x y H Q):=by
 intro ag s σ H x y v u Q I aU bw q;rcases q with q|q
 ·exact h ag s σ H x y v u Q I aU bw q
 ·exact h' ag s σ H x y v u Q I aU bw q
def Qi(b:bz){op:CmpOp}(h:op≠.In:=by decide)(ak:op≠.NotIn:=by decide):oR op b=false:=by
 have aH:(op==CmpOp.In)=false:=by cases op <;> first|rfl|exact absurd rfl h
 have aS:(op==CmpOp.NotIn)=false:=by cases op <;> first|rfl|exact absurd rfl ak
 cases b <;> simp[oR,aH,aS]
def afH{op:CmpOp}{r:gj}(aF:eE X (iz op) r)(ax:bU X a cq)(aa:bU X b eJ)(hm:oR op b=false):bU X (.Compare a [op] [b] pos) (s7 r cq eJ):=by
 intro ag s σ H Q I h;exact wpAny_Compare1 (Ck ax aa I h λv u s2 x y a' b0 aU bw q=>aF ag s2 σ a' x y v u Q b0 aU bw q) hm
def ag7(t:TE):TT:=λσ H Q=>t σ H λx af=>∃k,x=.c0 k/\Q k af
def afy{op:CmpOp}{r:gj}(aF:eE X (iz op) r)(ax:bU X a cq)(aa:bU X b eJ)(hm:oR op b=false):kc X (.Compare a [op] [b] pos) (ag7 (s7 r cq eJ)):=by
 intro ag s σ H Q I h;refine wpAny_isTrue_Compare1 (ct (ax ag s σ H _ I h) λv s1 ⟨x,H1,bk,aO,aP⟩=>ct (aa ag s1 σ H1 _ bk aP) λu s2 ⟨y,a',b0,a4,ba⟩=>
  ct (aF ag s2 σ a' x y v u _ b0 aO a4 ba) λc s3 ⟨z,dn,dx,b5,k,e,c9⟩=>?_) hm
 subst e;cases b5;exact tj ⟨dn,dx,c9⟩
noncomputable def JG(K:a_)(x:V)(H:aw)(k:Bool):Prop:=
 match x with
|.fz=>k=false
|.c0 b=>k=b
|.int i=>k=(i != 0)
|.str y=>y.length<=cp/\k=((y.length:Int) != 0)
|.qM y=>y.size<=cp/\k=((y.size:Int) != 0)
|.ref p=>(∃xs,eU K H p xs/\k=!xs.isEmpty)\/(∃xs,df K H p xs/\k=!xs.isEmpty)\/∃kvs,H p=some (.e6 kvs)/\k=!kvs.isEmpty
|_=>False
def adB{ej:Type}{kvs:List (ej×V)}{vs:List (ej×aj)}(r:gz kvs vs):(!vs.isEmpty)=!kvs.isEmpty:=by
 cases r <;> rfl
def N_{xs:List V}{its:List aj}(r:Vals xs its):(!its.toArray.isEmpty)=!xs.isEmpty:=by
 cases r <;> simp
def r0:(cp:Nat)<2 ^ 63:=by rw[mM];decide
def agc:Sf X (λx H Q=>∃k,JG X.K x H k/\Q k H):=by
 intro ag s σ H x v Q I aU h;obtain⟨k,e,q⟩:=h;have av:=r0;have az:cp=16777216:=mM;cases x with
|fz=>
  cases aU
  have a9:k=false:=e;subst a9;exact truthy_none ⟨H,I,q⟩
|c0 b=>
  cases aU
  have a9:k=b:=e;subst a9;exact tj ⟨H,I,q⟩
|int i=>
  obtain⟨t,rfl⟩:=aU;have a9:k=(i != 0):=e;subst a9;exact PySem.P.truthy_int ⟨H,I,q⟩
|str y=>
  obtain⟨t,rfl⟩:=aU;obtain⟨bI,a9⟩:y.length<=cp/\k=((y.length:Int) != 0):=e;subst a9;exact PySem.P.truthy_str (by omega) ⟨H,I.tok _,q⟩
|qM y=>
  obtain⟨t,rfl⟩:=aU;obtain⟨bI,a9⟩:y.size<=cp/\k=((y.size:Int) != 0):=e;subst a9;exact PySem.W.truthy_bytes (by omega) ⟨H,I.tok _,q⟩
|ref p=>
  cases aU
  have a9:(∃xs,eU X.K H p xs/\k=!xs.isEmpty)\/(∃xs,df X.K H p xs/\k=!xs.isEmpty)\/∃kvs,H p=some (.e6 kvs)/\k=!kvs.isEmpty:=e;rcases a9 with ⟨xs,hx,a9⟩|⟨xs,hx,a9⟩|⟨kvs,hx,a9⟩
  ·subst a9;obtain⟨its,r,pl,aq⟩:=I.list hx;have hlen:=r.length;exact wpAny_truthy_list pl.isList (by simp only[er];omega) ⟨H,I.tok _,by rw[N_ r];exact q⟩
  ·subst a9;obtain⟨its,r,pl,aq⟩:=I.tuple hx;have hlen:=r.length;exact truthy_tuple pl (by simp only[er];omega) ⟨H,I.tok _,by rw[N_ r];exact q⟩
  ·subst a9;obtain⟨aq,eP,vs,r,m⟩:kvs.length<=cp/\(p==sysModules)=false/\∃vs,gz kvs vs/\s.heap.DictOf (gM X.prog X.w) p vs:=I.b8 p _ hx;have hlen:kvs.length=vs.length:=Paired.length r;exact wpAny_truthy_dict eP m (by omega) ⟨H,I.tok _,by rw[adB r];exact q⟩
|_=>exact (show False from e).elim
def aeK(ax:bU X a cq)(he:∀whole,isTrue a X.env whole=(do let v <- whole;standAt a.pos;holding [v] (truthy v))):
  kc X a (λσ H Q=>cq σ H λx af=>∃k,JG X.K x af k/\Q k af):=by
 intro ag s σ H Q I h;exact isTrue_plain (ct (ax ag s σ H _ I h) λv s1 ⟨x,H1,bk,aO,aP⟩=>agc ag s1 σ H1 x v Q bk aO aP) (he _)
def N0:eE X (k6 .Add) (λx y H Q=>∃i j,x=.str i/\y=.str j/\i.length+j.length<=cp/\Q (.str (i++j)) H):=by
 intro ag s σ H x y v u Q I aU bw h;obtain⟨i,j,rfl,rfl,aq,q⟩:=h;obtain⟨t,rfl⟩:=aU;obtain⟨t',rfl⟩:=bw;exact add_str (λt' tk=>⟨.str (i++j),H,I.tok _,⟨_,rfl⟩,q⟩) aq
def vals1{x:V}{us:List aj}(r:Vals [x] us):∃u,us=[u]/\RelV x u:=by
 cases r with
|cons aO a4=>cases a4;exact⟨_,rfl,aO⟩
def vals2{x y:V}{us:List aj}(r:Vals [x,y] us):∃u fe,us=[u,fe]/\RelV x u/\RelV y fe:=by
 cases r with
|cons aO a4=>
  cases a4 with
  |cons b5 kl=>cases kl;exact⟨_,_,rfl,aO,b5⟩
def aen(ay:X.calm=true):lj X (.builtin "max") (λxs H Q=>∃i j,xs=[.int i,.int j]/\Q (.int (if j > i then j else i)) H):=by
 intro ag s σ H xs us Q I r h;obtain⟨i,j,rfl,q⟩:=h;obtain⟨u,fe,rfl,⟨t,rfl⟩,⟨t',rfl⟩⟩:=vals2 r;refine max_two_ints (I.ok.hd ay) λh' tk k=>⟨_,H,I.kept k,?_,q⟩;by_cases bC:j > i
 ·rw[if_pos bC,if_pos bC];exact⟨_,rfl⟩
 ·rw[if_neg bC,if_neg bC];exact⟨_,rfl⟩
end
end bc
namespace bc
open PySem PySem.Spec PyProof.Rows
structure qC(h:bT)(x bb C:ah)(ea:Str->Option aj):Prop where
 obj:h.get? x=some (p5 C bb)
 ns:h.Ns1 bb ea
 ne:bb≠x
def ad7{h:bT}{bb:ah}{ea:Str->Option aj}(n:h.Ns1 bb ea):∃eZ,h.get? bb=some eZ/\∀name,PySem.W.lookIn name eZ=some (ea name):=by
 obtain⟨o,es,ep,aF,hd,aI,_,hm⟩:=n;refine⟨o,aF,λname=>?_⟩;have e:=hm name;unfold nsFind findBy at e;rw[<- Array.find?_toList] at e;unfold PySem.W.lookIn;rw[hd];dsimp only;split
 ·rename_i y q
  rw[q] at e;exact congrArg some e
 ·rename_i q
  rw[q] at e;have a:es.toList.any (·.refKey)=false:=by
   rw[List.any_eq_false];intro y bI;obtain⟨z,t,V7⟩:=aI y (Array.mem_toList_iff.mp bI);simp[DictEntry.refKey,V7]
  have kK:¬es.toList.any (·.refKey)=true:=by rw[a];exact ry
  rw[if_neg kK];exact congrArg some e
def qC.look{h:bT}{x bb C:ah}{ea:Str->Option aj}(I:qC h x bb C ea):∃eZ,PySem.W.InstAt h x (p5 C bb) C (some eZ)/\∀name,PySem.W.lookIn name eZ=some (ea name):=
 let ⟨eZ,aF,av⟩:=ad7 I.ns
 ⟨eZ,⟨I.obj,rfl,rfl,aF⟩,av⟩
section
variable {prog:cF}{w:cv}{A:cY}{E:aj->aK->Prop}{s:aK}{K:a_}{x bb C f:ah}{ea:Str->Option aj}{name:Str}{v:aj}
def get_map{expr:Bool}{Q:aj->aK->Prop}(X:K.In s.heap)(I:qC s.heap x bb C ea)(bG:PySem.W.plainGet K C name=true)(c4:PySem.W.hasDictIn K C=true)
  (ax:k1 K (.ref C) name=some none) (bq:ea name=some v) (q5:PySem.W.handedIn v=true) (h:Q v {s with toks:=s.toks+1}):
  bp (bL prog w) A (getAttr (.ref x) name expr) Q E s:=by
 obtain⟨eZ,J,av⟩:=I.look;exact PySem.W.get_value X J (PySem.W.plainGet_of bG).1 (PySem.W.findObj_own c4 ax rfl (by rw[av,bq])) q5 h
def ae9{pl:Sem Bool}{Q:aj×List aj->aK->Prop}(X:K.In s.heap)(I:qC s.heap x bb C ea)(bG:PySem.W.plainGet K C name=true)
  (hf:k1 K (.ref C) name=some (some (.ref f))) (bg:PySem.W.isFn K (.ref f)=true) (bq:ea name=none) (h:Q (.ref f,[.ref x]) s):
  bp (bL prog w) A (getMethod (.ref x) name pl) Q E s:=by
 obtain⟨eZ,J,av⟩:=I.look;exact PySem.W.method_fn X J (PySem.W.plainGet_of bG).1 (PySem.W.plainGet_of bG).2 hf (beq_iff_eq.mp bg) (by show (PySem.W.lookIn name eZ).map (·.isSome)=some false;rw[av,bq];rfl) h
def afo{ns:List Str}{Q:Unit->aK->Prop}(X:K.In s.heap)(I:qC s.heap x bb C ea)
  (az:k1 K (.ref C) "__setattr__"=some (some (.builtin "object.__setattr__"))) (aL:PySem.W.plainOver K C=true) (bg:PySem.W.takerIn K C name=some none) (c4:PySem.W.hasDictIn K C=true)
  (hw:PySem.Within ea ns) (hsz:ns.length<=cp)
  (h:∀h',qC h' x bb C (λy=>if y=name then some v else ea y)->Heap.SameBut bb s.heap h'->Q () {s with heap:=h',toks:=s.toks+2}):
  bp (bL prog w) A (setAttr (.ref x) name v) Q E s:=by
 obtain⟨eZ,J,av⟩:=I.look;refine PySem.W.set_plain X J az (PySem.W.osa_open (s:={s with toks:=s.toks+1}) (r:=none) X J aL bg λb=>?_);obtain⟨cd,ay,od⟩:=PySem.W.any_some c4;have hx:s.heap.get? x=some ⟨.ref C,some bb,.plain,#[]⟩:=I.obj;refine aV (cw (aV (aV (wpAny_loadPart hx (aV (PySem.W.Looks.here (s:={s with toks:=s.toks+1}) (PySem.W.looks_clsIn X ay) ?_))))));rw[od];refine cw (a:=some bb) (aV (cw (aV ?_)));refine wpAny_nsSet1 (s:={s with toks:=s.toks+1}) I.ns λh' ye jy=>?_;obtain⟨oD,ahM,ahL,Wh,VN,VH⟩:=ye.count (PySem.Within.cons name v hw);refine aV (wpAny_lookBehind Wh (by rw[VN];exact pastItsLine_dict (lW VH (by rw[gK];omega))) ?_);exact cw (h _ ⟨(jy.2 _ (Ne.symm I.ne)).trans I.obj,ye,I.ne⟩ jy)
def aeY{R:Result->aK->Prop}{vs:List aj}{kw:List (Str×aj)}(X:K.In s.heap)(hm:PySem.W.makesIn K C=true)
  (aJ:k1 K (.ref C) "__init__"=some (some (.ref f))) (hf:PySem.W.typeIn K (.ref f)=some (.type "function"))
  (h:codeAny (bL prog w) (A.under (.builtin "type.__call__" ⟨.ref C::vs,kw⟩)) (.call (.ref f) ⟨.ref (s.heap.objs.size+1)::vs,kw⟩) (PySem.W.InitBack (s.heap.objs.size+1) R)
   {s with heap:=(s.heap.push oI).push (p5 C s.heap.objs.size)}):
  codeAny (bL prog w) A (.call (.ref C) ⟨vs,kw⟩) R s:=by
 obtain⟨c4,g,d,t,os⟩:=s;exact PySem.W.make_core (PySem.W.makes_of X hm) (PySem.W.looks_findIn X aJ) (λself=>PySem.W.bind_fn X self hf) (.inl rfl) h
end
noncomputable def gq(f:Str)(v:V):List (Str×V)->List (Str×V)
  | []=>[(f,v)]
  | (g,x)::r=>if g=f then (g,v)::r else (g,x)::gq f v r
theorem NK(f g:Str)(v:V):∀ar:List (Str×V),(gq f v ar).lookup g=if g=f then some v else ar.lookup g
  | []=>by
    show iR g [(f,v)]=_
    by_cases h:g=f
    · have aa:(g==f)=true:=beq_iff_eq.mpr h
      simp only[iR,aa,if_pos h]
    · have aa:(g==f)=false:=beq_eq_false_iff_ne.mpr h
      simp only[iR,aa,if_neg h]
  | (k,x)::r=>by
    have b9:=NK f g v r;rw[show gq f v ((k,x)::r)=(if k=f then (k,v)::r else (k,x)::gq f v r) from rfl];by_cases aI:k=f
    · rw[if_pos aI]
      by_cases h:g=k
      · have aa:(g==k)=true:=beq_iff_eq.mpr h
        simp only[iR,aa,if_pos (h.trans aI)]
      · have aa:(g==k)=false:=beq_eq_false_iff_ne.mpr h
        simp only[iR,aa,if_neg (λe:g=f=>h (e.trans aI.symm))]
    · rw[if_neg aI]
      by_cases h:g=k
      · have aa:(g==k)=true:=beq_iff_eq.mpr h
        simp only[iR,aa,if_neg (λe:g=f=>aI (h.symm.trans e))]
      · have aa:(g==k)=false:=beq_eq_false_iff_ne.mpr h
        simp only[iR,aa];exact b9
theorem HX(f:Str)(v:V):∀ar:List (Str×V),f∈(gq f v ar).map (·.1)/\∀g,g∈ar.map (·.1)->g∈(gq f v ar).map (·.1)
  | []=>⟨by simp[gq],λg h=>by simp at h⟩
  | (k,x)::r=>by
    obtain⟨cj,cu⟩:=HX f v r;rw[show gq f v ((k,x)::r)=(if k=f then (k,v)::r else (k,x)::gq f v r) from rfl];by_cases aI:k=f
    · rw[if_pos aI]
      subst aI;exact⟨by simp,λg h=>by simpa using h⟩
    · rw[if_neg aI]
      refine⟨?_,λg h=>?_⟩
      · rw[dC]
        exact d6 _ cj
      · rw[dC] at h ⊢
        rcases cM.mp h with e|e
        · exact cM.mpr (.inl e)
        · exact d6 _ (cu g e)
theorem NN(f:Str)(v:V):∀ar:List (Str×V),(gq f v ar).length<=ar.length+1
  | []=>by simp[gq]
  | (k,x)::r=>by
    have b9:=NN f v r;rw[show gq f v ((k,x)::r)=(if k=f then (k,v)::r else (k,x)::gq f v r) from rfl];by_cases aI:k=f
    · rw[if_pos aI,gK,gK];omega
    · rw[if_neg aI,gK,gK];omega
def jt.some_of{v:V}{o:Option aj}(r:jt (some v) o):∃u,o=some u/\RelV v u:=by
 cases o with
|none=>exact (show False from r).elim
|some u=>exact⟨u,rfl,r⟩
def jt.none_of{o:Option aj}(r:jt none o):o=none:=by
 cases o with
|none=>rfl
|some u=>exact (show False from r).elim
def aef{v:V}{u:aj}(r:RelV v u):PySem.W.handedIn u=true:=by
 cases v with
|fz=>cases (show u=Value.none from r);rfl
|c0 b=>cases (show u=Value.bool b from r);rfl
|int i=>obtain⟨t,e⟩:=(show ∃t,u=Value.int i t from r);cases e;rfl
|str x=>obtain⟨t,e⟩:=(show ∃t,u=Value.str x t from r);cases e;rfl
|qM b=>obtain⟨t,e⟩:=(show ∃t,u=Value.bytes b t from r);cases e;rfl
|uG b=>obtain⟨t,e⟩:=(show ∃t,u=Value.float b t from r);cases e;rfl
|ref a=>cases (show u=Value.ref a from r);rfl
|ty n=>cases (show u=Value.type n from r);rfl
section
variable {P:cF}{w:cv}{H af:aw}{h h':bT}{a C bb:ah}{ar fs':List (Str×V)}
def ID(b8:e2 P w H h)(e:H a=some (.ins C bb ar)):∃ea,qC h a bb C ea/\(∀f,jt (ar.lookup f) (ea f))/\PySem.Within ea (ar.map (·.1))/\ar.length<=1000/\H bb=some (.own a):=by
 obtain⟨d,z,ne,dF,ea,n,r,q⟩:=(show hr P w H h a (.ins C bb ar) from b8 a _ e);exact⟨ea,⟨dF,n,ne⟩,r,q,z,d⟩
end
structure l6(K:a_)(C:ah):Prop where
 ZY:PySem.W.plainGet K C Str.empty=true
 hd:PySem.W.hasDictIn K C=true
 po:PySem.W.plainOver K C=true
 sa:k1 K (.ref C) "__setattr__"=some (some (.builtin "object.__setattr__"))
def l6.get{K:a_}{C:ah}(c:l6 K C)(f:Str):PySem.W.plainGet K C f=true:=c.ZY
def o5(K:a_)(C:ah)(f:Str):Prop:=k1 K (.ref C) f=some none
def o5.abG{K:a_}{C:ah}{f:Str}(n:o5 K C f):PySem.W.takerIn K C f=some none:=by
 unfold PySem.W.takerIn;rw[show k1 K (.ref C) f=some none from n];rfl
structure Meth(K:a_)(C:ah)(m:Str)(f:ah):Prop where
 at_:k1 K (.ref C) m=some (some (.ref f))
 fn:PySem.W.isFn K (.ref f)=true
 aD:mI K (.ref f)=true
section
variable {X:bj}{ag:List (ah×Obj)}{σ:St}{H:aw}{s:aK}{a C bb:ah}{ar:List (Str×V)}{f:Str}{v:V}{A:cY}{E:aj->aK->Prop}
def Oa{b:Bool}{Q:aj->aK->Prop}(I:Inv X ag σ H s)(e:H a=some (.ins C bb ar))(c:l6 X.K C)(n:o5 X.K C f)(l:ar.lookup f=some v)
  (h:∀u s',Inv X ag σ H s'->RelV v u->Q u s'):bp (bL X.prog X.w) A (getAttr (.ref a) f b) Q E s:=by
 obtain⟨ea,O,r,_,_,_⟩:=ID I.b8 e;obtain⟨u,b7,dm⟩:=jt.some_of (v:=v) (o:=ea f) (by rw[<- l];exact r f);exact get_map I.kh O (c.get f) c.hd n b7 (aef dm) (h u _ (I.tok _) dm)
def N'{m:Str}{g:ah}{pl:Sem Bool}{Q:aj×List aj->aK->Prop}(I:Inv X ag σ H s)(e:H a=some (.ins C bb ar))(c:l6 X.K C)(k:Meth X.K C m g)(l:ar.lookup m=none)
  (h:Q (.ref g,[.ref a]) s):bp (bL X.prog X.w) A (getMethod (.ref a) m pl) Q E s:=by
 obtain⟨ea,O,r,_,_,_⟩:=ID I.b8 e;have a7:ea m=none:=jt.none_of (by rw[<- l];exact r m);exact ae9 I.kh O (c.get m) k.at_ k.fn a7 h
def NS{y:V}{u:aj}{Q:Unit->aK->Prop}(I:Inv X ag σ H s)(e:H a=some (.ins C bb ar))(c:l6 X.K C)(n:o5 X.K C f)(av:ar.length<1000)(bw:RelV y u)
  (h:∀s',Inv X ag σ (upd H a (.ins C bb (gq f y ar))) s'->Q () s'):bp (bL X.prog X.w) A (setAttr (.ref a) f u) Q E s:=by
 obtain⟨ea,O,r,oE,_,aF⟩:=ID I.b8 e;have aq:(ar.map (·.1)).length<=cp:=by rw[gc,mM];omega
 refine afo I.kh O c.sa c.po n.abG c.hd oE aq λh' iE jb=>h _ ?_
 have hd:∃o,h'.get? bb=some o:=let ⟨o,_,_,a9,_⟩:=iE.ns;⟨o,a9⟩;refine I.write (x:=a) (e:=bb) (by rw[e];exact True.intro) (.inr aF) (λb q aa z=>(jb.2 b aa).trans z) hd ?_;refine⟨by rw[cQ O.ne];exact aF,?_,O.ne,iE.obj,_,iE.ns,λg=>?_,λg bG=>?_⟩
 ·have:=NN f y ar;omega
 ·show jt ((gq f y ar).lookup g) (if g=f then some u else ea g)
  rw[NK];by_cases q:g=f
  ·rw[if_pos q,if_pos q];exact bw
  ·rw[if_neg q,if_neg q];exact r g
 ·by_cases q:g=f
  ·rw[q];exact (HX f y ar).1
  ·refine (HX f y ar).2 g (oE g λz=>bG ?_)
   show (if g=f then some u else ea g)=none
   rw[if_neg q];exact z
def Inv.made(I:Inv X ag σ H s):Inv X ag σ (upd (upd H s.heap.objs.size (.own (s.heap.objs.size+1))) (s.heap.objs.size+1) (.ins C s.heap.objs.size []))
  {s with heap:=(s.heap.push oI).push (p5 C s.heap.objs.size)}:=by
 have aH:(s.heap.push oI).get? s.heap.objs.size=some oI:=g9 s.heap rfl;have aS:((s.heap.push oI).push (p5 C s.heap.objs.size)).get? (s.heap.objs.size+1)=some (p5 C s.heap.objs.size):=by
  have:=g9 (s.heap.push oI) (o:=p5 C s.heap.objs.size) rfl
  rwa [jF] at this
 have fJ:(s.heap.push oI).Ns s.heap.objs.size (λ_=>none):=⟨oI,#[],_,aH,rfl,(λe he=>absurd he (by simp)),λ_=>rfl⟩;have bk:=I.laid (a:=s.heap.objs.size) (o:=.own (s.heap.objs.size+1)) (h':=s.heap.push oI) (t':=s.toks) (λb u q=>c2 _ q) (dD _) ⟨_,aH⟩;refine bk.laid (a:=s.heap.objs.size+1) (o:=.ins C s.heap.objs.size []) (t':=s.toks) (λb u q=>c2 _ q) (Nat.le_of_eq (jF _ _)) ?_;have ne:s.heap.objs.size≠s.heap.objs.size+1:=eL (Nat.lt_succ_self _);refine⟨by rw[cQ ne,dY],ku _,ne,aS,λ_=>none,(Heap.Ns1.of_empty fJ).at λo q=>c2 _ q,λ_=>True.intro,λy bI=>absurd rfl bI⟩
def af'{prog:cF}{w:cv}{env:Env}{e:bz}{f:Str}{pos:Pos}{s:aK}{Q:aj->aK->Prop}(aa:jJ e f env (eval e env)=eval e env)
  (h:bp (bL prog w) A (eval e env) (λo dd=>bp (bL prog w) A (getAttr o f true) Q E dd) E s):bp (bL prog w) A (eval (.Attribute e f pos) env) Q E s:=
 Attribute_any_ h (by rw[arm_eval_Attribute,aa])
end
noncomputable def abi(K:a_)(cq:TE)(f:Str):TE:=λσ H Q=>cq σ H λx H1=>∃a C bb ar v,x=.ref a/\H1 a=some (.ins C bb ar)/\l6 K C/\o5 K C f/\ar.lookup f=some v/\Q v H1
noncomputable def aak(K:a_)(cq h4:TE)(f:Str):fZ:=λD σ H=>h4 σ H λy H1=>cq σ H1 λx a'=>∃a C bb ar,x=.ref a/\a' a=some (.ins C bb ar)/\l6 K C/\o5 K C f/\ar.length<1000 /\
 D.bQ σ (upd a' a (.ins C bb (gq f y ar)))
noncomputable def Bs(X:bj)(op:Operator)(iO:V->V->aw->c6->Prop):Prop:=
 ∀(ag:List (ah×Obj)) (s:aK) (σ:St) (H:aw) (x y:V) (u v:aj) (Q:c6),Inv X ag σ H s->RelV x u->RelV y v->iO x y H Q->bp (bL X.prog X.w) X.A (inplaceOp op u v) (ht X ag σ Q) X.dG s
noncomputable def afs(K:a_)(cq h4:TE)(iO:V->V->aw->c6->Prop)(f:Str):fZ:=λD σ H=>cq σ H λx H1=>∃a C bb ar v,x=.ref a/\H1 a=some (.ins C bb ar)/\l6 K C/\o5 K C f/\ar.lookup f=some v /\
 h4 σ H1 λy a'=>iO v y a' λz dn=>∃sl fs',dn a=some (.ins C sl fs')/\fs'.length<1000/\D.bQ σ (upd dn a (.ins C sl (gq f z fs')))
section
variable {X:bj}{o e value:bz}{f:Str}{pos pos' GV:Pos}{cq h4:TE}
def o3(he:bU X e cq)(aa:jJ e f X.env (eval e X.env)=eval e X.env):bU X (.Attribute e f pos) (abi X.K cq f):=by
 intro ag s σ H Q I h;refine af' aa (ct (he ag s σ H _ I h) λu s1 ⟨x,H1,bk,aU,a,C,bb,ar,v,ex,cK,c,n,l,q⟩=>?_);subst ex;obtain rfl:u=Value.ref a:=aU;exact Oa bk cK c n l λvB s2 b0 dm=>⟨v,H1,b0,dm,q⟩
def IX(ax:bU X o cq)(bq:bU X value h4)(az:iS value (some (.Attribute o f pos')) pos.line X.env=pure false):hQ X (.Assign [.Attribute o f pos'] value pos) (aak X.K cq h4 f):=by
 intro ag s σ H D I h;refine plainObj_wpAny_Assign_Attribute (ct (bq ag s σ H _ I h) λu s1 ⟨y,H1,bk,bw,q⟩=>ct (ax ag s1 σ H1 _ bk q) λdi s2 ⟨x,a',b0,aU,a,C,bb,ar,ex,cK,c,n,l,ba⟩=>?_) az;subst ex;obtain rfl:di=Value.ref a:=aU;exact NS b0 cK c n l bw λs3 dx=>⟨σ,_,dx,ba⟩
def ad0{op:Operator}{iO:V->V->aw->c6->Prop}(ax:bU X o cq)(bq:bU X value h4)(DZ:Bs X op iO):hQ X (.AugAssign (.Attribute o f GV) op value pos) (afs X.K cq h4 iO f):=by
 intro ag s σ H D I h;refine wpAny_AugAssign_AttributeAny (ct (ax ag s σ H _ I h) λdi s1 ⟨x,H1,bk,aU,a,C,bb,ar,v,ex,cK,c,n,l,q⟩=>?_);subst ex;obtain rfl:di=Value.ref a:=aU;refine Oa bk cK c n l λu s2 b0 dm=>ct (bq ag s2 σ H1 _ b0 q) λpZ s3 ⟨y,a',dx,bw,c9⟩=>ct (DZ ag s3 σ a' v y u pZ _ dx dm bw c9) λw4 s4 ⟨z,dn,i0,GD,sl,fs',U_,nu,i'⟩=>?_;exact NS i0 U_ c n nu GD λs5 l7=>⟨σ,_,l7,i'⟩
noncomputable def _S:V->V->aw->c6->Prop:=λx y H Q=>∃i j,x=.int i/\y=.int j/\Q (.int (i+j)) H
def Qo:Bs X .Add _S:=by
 rintro ag s σ H x y u v Q I aU bw ⟨i,j,rfl,rfl,q⟩;obtain⟨t,rfl⟩:=(show ∃t,u=Value.int i t from aU);obtain⟨t',rfl⟩:=(show ∃t',v=Value.int j t' from bw);exact PyProof.Rows.iadd_int ⟨.int (i+j),H,I.tok _,⟨_,rfl⟩,q⟩
end
end bc
namespace bc
open PySem PySem.Spec PyProof.Rows
structure dO(k:Nat)(A:cY):Prop where
 hd:A.handled=none
 xk:A.depth+3*k+5<recursionLimit
 un:A.units+16*k+200<cLine
 Ds:A.guards=some []
def dO.mono{j k:Nat}{A:cY}(r:dO k A)(h:j<=k):dO j A:=⟨r.hd,by have:=r.xk;omega,by have:=r.un;omega,r.Ds⟩
theorem dO.deeper{k:Nat}{A:cY}(r:dO (k+1) A)(env:Env):dO k (A.deeper env):=
 ⟨r.hd,by have:=r.xk;show A.depth+1+3*k+5<_;omega,by have:=r.un;show A.units+3+16*k+200<_;omega,r.Ds⟩
def adz{A:cY}{C:ah}{us:List aj}{kw:List (Str×aj)}:(A.under (.builtin "type.__call__" ⟨.ref C::us,kw⟩)).depth=A.depth+1:=by
 first|rfl|simp[Around.under,Code.weight,Code.isCreation,Code.isGuard,Code.isCaller,Code.frames,Code.isFrame,guardIds]
def ady{A:cY}{C:ah}{us:List aj}{kw:List (Str×aj)}:(A.under (.builtin "type.__call__" ⟨.ref C::us,kw⟩)).units=A.units+1:=by
 first|rfl|simp[Around.under,Code.cUnits,Code.frames,Code.isFrame]
def ac7{A:cY}{C:ah}{us:List aj}{kw:List (Str×aj)}:(A.under (.builtin "type.__call__" ⟨.ref C::us,kw⟩)).guards=A.guards:=by
 first|rfl|simp[Around.under,Code.weight,Code.isCreation,Code.isGuard,Code.isCaller,Code.frames,Code.isFrame,guardIds,Code.guards]
def dO.make{k:Nat}{A:cY}(r:dO (k+1) A)(C:ah)(us:List aj)(kw:List (Str×aj)):dO k (A.under (.builtin "type.__call__" ⟨.ref C::us,kw⟩)):=
 ⟨r.hd,by have:=r.xk;rw[adz];omega,by have:=r.un;rw[ady];omega,ac7.trans r.Ds⟩
theorem dO.depth{k:Nat}{A:cY}(r:dO k A):A.depth<recursionLimit:=by have:=r.xk;omega
theorem dO.units{k:Nat}{A:cY}(r:dO k A):A.units+64<cLine:=by have:=r.un;omega
def MB:fY:=λ_ H Q=>Q [] H
noncomputable def ahd(cq:TE)(tr:fY):fY:=λσ H Q=>cq σ H λx H1=>tr σ H1 λxs a'=>Q (x::xs) a'
section
variable {X:bj}{e:bz}{es:List bz}{f':TE}{t:fY}{pos:Pos}
def mT:ia X [] MB:=λ_ _ _ _ H Q I h=>Calls.spliced_nil ⟨[],H,I,.nil,h⟩
def k'(ax:bU X e f')(aC:ia X es t)(az:bS (e::es) X.env=(false,eval e X.env)::bS es X.env:=by rfl):ia X (e::es) (ahd f' t):=by
 intro pos ag s σ H Q I h;rw[az];show bp _ _ (spliced ((false,eval e X.env)::ee pos (bS es X.env))) _ _ s;refine Calls.spliced_cons (ct (ax ag s σ H _ I h) λu s1 ⟨x,H1,bk,aO,aP⟩=>?_);exact ct (aC pos ag s1 σ H1 _ bk aP) λus s2 ⟨xs,a',b0,a4,ba⟩=>⟨x::xs,a',b0,.cons aO a4,ba⟩
noncomputable def abv(t:fY):TE:=λσ H Q=>t σ H λxs H1=>xs.length<=cp/\∀p,H1 p=none->Q (.ref p) (upd H1 p (.tup xs))
noncomputable def abo(t:fY):TE:=λσ H Q=>t σ H λxs H1=>xs.length<=cp/\∀p,H1 p=none->Q (.ref p) (upd H1 p (.lst xs))
def agx{aR}(h:ia X es t):bU X (.Tuple es aR pos) (abv t):=by
 intro ag s σ H Q I bK;refine wpAny_Tuple_spliced (ct (h pos ag s σ H _ I bK) λus s1 ⟨xs,H1,bk,r,z,q⟩=>⟨by rw[<- r.length];exact z,?_⟩);have hf:H1 s1.heap.objs.size=none:=bk.b8.fresh (dD _);refine⟨.ref s1.heap.objs.size,upd H1 s1.heap.objs.size (.tup xs),bk.laid (t':=s1.toks) (λb u e=>c2 _ e) (dD _) ?_,rfl,q _ hf⟩;exact⟨z,us,r,⟨_,g9 _ rfl,rfl,_,rfl⟩⟩
def agA(h:ia X es t):bU X (.List es pos) (abo t):=by
 intro ag s σ H Q I bK;refine wpAny_List_spliced (ct (h pos ag s σ H _ I bK) λus s1 ⟨xs,H1,bk,r,z,q⟩=>⟨by rw[<- r.length];exact z,?_⟩);have hf:H1 s1.heap.objs.size=none:=bk.b8.fresh (dD _);refine⟨.ref s1.heap.objs.size,upd H1 s1.heap.objs.size (.lst xs),bk.laid (t':=s1.toks) (λb u e=>c2 _ e) (dD _) ?_,rfl,q _ hf⟩;exact⟨z,us,0,r,g9 _ rfl⟩
end
abbrev jR:=List V->aw->c6->gC->Prop
abbrev ll:=List Env->aw->aK->gC->aj->aK->Prop
structure qz(P:cF)(w:cv)(K:a_)(mg:Str->Option aj)(base:bT)(A:cY)(outer:List Env)(s:aK)(H:aw):Prop where
 frames:A.frames=some outer
 mod:Mod K mg base
 bs:∀b o,base.get? b=some o->s.heap.get? b=some o/\H b=none
 pq:base.objs.size<=s.heap.objs.size
 lD:s.heap.FunFrames base outer
 qQ:∀b∈mr outer,H b=none
 b8:e2 P w H s.heap
 bare:AllBare s.gens
noncomputable def Bl(outer:List Env)(P:cF)(w:cv)(H:aw)(s:aK)(Q:c6)(u:aj)(s':aK):Prop:=
 ∃v af,s'.os=s.os/\AllBare s'.gens/\gB (mr outer) [] H af s.heap s'.heap/\e2 P w af s'.heap/\RelV v u/\Q v af
noncomputable def QT(dV:ll)(outer:List Env)(P:cF)(w:cv)(H:aw)(s:aK)(Q:c6)(E:gC)(r:Result)(s':aK):Prop:=
 match r with
|.ok (.ret u)=>Bl outer P w H s Q u s'
|.ok _=>False
|.error e=>dV outer H s E e s'
structure eT(P:cF)(w:cv)(K:a_)(mg:Str->Option aj)(base:bT)(dV:ll)(k:Nat)(f:ah)(fd:fU)(aT:List Str)(sp:jR):Prop where
 len:∀vs H Q E,sp vs H Q E->vs.length=aT.length
 run:∀(A:cY) (outer:List Env) (s:aK) (H:aw) (args:Args) (us:List aj) (vs:List V) (Q:c6) (E:gC),dO k A->qz P w K mg base A outer s H->BindsTo s fd args (aT.zip us)->Vals vs us->sp vs H Q E ->
  codeAny (bL P w) A (.call (.ref f) args) (QT dV outer P w H s Q E) s
theorem eT.mono{P:cF}{w:cv}{K:a_}{mg:Str->Option aj}{base:bT}{dV:ll}{j k:Nat}{f:ah}{fd:fU}{aT:List Str}{sp:jR}(F:eT P w K mg base dV j f fd aT sp)(h:j<=k):
  eT P w K mg base dV k f fd aT sp:=⟨F.len,λA outer s H args us vs Q E aC=>F.run A outer s H args us vs Q E (aC.mono h)⟩
def eT.imp{P:cF}{w:cv}{K:a_}{mg:Str->Option aj}{base:bT}{dV:ll}{k:Nat}{f:ah}{fd:fU}{aT:List Str}{sp Mo:jR}(F:eT P w K mg base dV k f fd aT sp)
  (h:∀vs H Q E,Mo vs H Q E->sp vs H Q E):eT P w K mg base dV k f fd aT Mo:=
 ⟨λvs H Q E q=>F.len vs H Q E (h _ _ _ _ q),λA outer s H args us vs Q E aC he aa bq az=>F.run A outer s H args us vs Q E aC he aa bq (h _ _ _ _ az)⟩
def qz.make{P:cF}{w:cv}{K:a_}{mg:Str->Option aj}{base:bT}{A:cY}{outer:List Env}{s:aK}{H:aw}(e:qz P w K mg base A outer s H)(C:ah)(us:List aj)(kw:List (Str×aj)):
  qz P w K mg base (A.under (.builtin "type.__call__" ⟨.ref C::us,kw⟩)) outer s H:=⟨by first|exact e.frames|(simpa [Around.under,Code.envs,Code.isFrame,pushEnvs] using e.frames),e.mod,e.bs,e.pq,e.lD,e.qQ,e.b8,e.bare⟩
section
variable {X:bj}{ag:List (ah×Obj)}{σ:St}{H:aw}{s s':aK}
def Inv.KP(I:Inv X ag σ H s):qz X.prog X.w X.K X.mg X.base X.A X.stack s H:=
 ⟨I.ok.frames,I.ok.mod,I.bs,lW I.ok.pq I.h3,I.stack,I.Ms,I.b8,I.bare⟩
def Inv.after{Q:c6}{u:aj}(I:Inv X ag σ H s)(h:Bl X.stack X.prog X.w H s Q u s'):ht X ag σ Q u s':=by
 obtain⟨v,af,os,bare,un,b8,r,q⟩:=h;obtain⟨c4,g,d,t,ZW⟩:=s';obtain rfl:ZW=s.os:=os;exact⟨v,af,I.call (h':=c4) (g':=g) (d':=d) (t':=t) (ch:=[]) un b8 bare (λb z=>absurd z (by simp)),r,q⟩
end
noncomputable def ahe(sp:jR)(hy:List V)(E:gC)(t:fY):TE:=λσ H Q=>t σ H λvs H1=>sp (vs++hy) H1 Q E
noncomputable def QB(C:ah)(m:Str)(sp:jR)(hy:List V)(E:gC)(cq:TE)(t:fY):TE:=λσ H Q=>cq σ H λx H1=>∃a bb ar,x=.ref a/\H1 a=some (.ins C bb ar)/\ar.lookup m=none /\
 t σ H1 λvs a'=>sp (x::(vs++hy)) a' Q E
noncomputable def aha(C:ah)(sp:jR)(hy:List V)(E:gC)(t:fY):TE:=λσ H Q=>t σ H λvs H1=>∀x bb,H1 x=none->H1 bb=none->bb≠x ->
 sp (.ref x::(vs++hy)) (upd (upd H1 bb (.own x)) x (.ins C bb [])) (λv a'=>v=.fz/\Q (.ref x) a') E
noncomputable def Binds(K:a_)(fd:fU)(aT:List Str)(ds:List aj):Prop:=
 ∀(s:aK) (us:List aj),K.In s.heap->(us++ds).length=aT.length->BindsTo s fd ⟨us,[]⟩ (aT.zip (us++ds))
def Binds.all{K:a_}{fd:fU}{aT:List Str}(h:∀us:List aj,us.length=aT.length->bindArgs fd ⟨us,[]⟩=pure (aT.zip us)):Binds K fd aT []:=λs us _ av=>by
 rw[mJ] at av ⊢;exact .of_eq (h us av)
noncomputable def Passes(dV:ll)(X:bj)(E:gC):Prop:=∀(ag:List (ah×Obj)) (σ:St) (H:aw) (s:aK) (e:aj) (s':aK),Inv X ag σ H s->dV X.stack H s E e s'->X.dG e s'
section
variable {X:bj}{dV:ll}{k:Nat}{f C:ah}{fd:fU}{aT:List Str}{sp:jR}{hy:List V}{ds:List aj}{E:gC}{x m:Str}{p pos apos:Pos}{e o:bz}{es:List bz}{cq:TE}{t:fY}
def IT{ag:List (ah×Obj)}{σ:St}{H:aw}{s:aK}{Q:c6}{us:List aj}{vs:List V}(F:eT X.prog X.w X.K X.mg X.base dV k f fd aT sp)(aC:dO k X.A)(aa:Binds X.K fd aT ds)(hd:Vals hy ds)(hx:Passes dV X E)
  (I:Inv X ag σ H s) (r:Vals vs us) (h:sp (vs++hy) H Q E):bp (bL X.prog X.w) X.A (call (.ref f) us) (ht X ag σ Q) X.dG s:=by
 have a4:Vals (vs++hy) (us++ds):=r.append hd;have av:(us++ds).length=aT.length:=by rw[<- a4.length];exact F.len _ _ _ _ h
 refine wpAny_call (codeAny_mono (F.run X.A X.stack s H ⟨us,[]⟩ (us++ds) (vs++hy) Q E aC I.KP (aa s us I.kh av) a4 h) λr s' bK=>?_)
 cases r with
|error e=>exact hx ag σ H s e s' I bK
|ok ng=>
  cases ng with
  |ret u=>exact I.after bK
  |next=>exact k3 bK
  |brk=>exact k3 bK
  |cont=>exact k3 bK
def Iy(F:eT X.prog X.w X.K X.mg X.base dV k f fd aT sp)(aC:dO k X.A)(bG:fo X x)(hm:X.mg x=some (.ref f))(aI:mI X.K (.ref f)=true)(aa:Binds X.K fd aT ds)(hd:Vals hy ds)(hx:Passes dV X E)
  (ax:ia X (e::es) t) (i6:(x==("__debug__":Str))=false:=by decide) (he:bS (e::es) X.env=(false,eval e X.env)::bS es X.env:=by rfl) (hpl:(ee pos (bS es X.env)).any (·.1)=false:=by rfl):
  bU X (.Call (.Name x p) (e::es) [] pos) (ahe sp hy E t):=by
 intro ag s σ H Q I h;refine th (IC I bG hm ?_ i6);refine PySem.W.callWith_K (h₀:=X.base) I.ok.mod.va aI (ct (ax pos ag s σ H _ I h) λus s1 ⟨vs,H1,bk,r,q⟩=>⟨bk.kh,?_⟩) he hpl;exact IT F aC aa hd hx bk r q
def PB{pl:Sem Bool}(he:bU X o cq)(c:l6 X.K C)(hm:Meth X.K C m f)(F:eT X.prog X.w X.K X.mg X.base dV k f fd aT sp)(aC:dO k X.A)(aa:Binds X.K fd aT ds)(hd:Vals hy ds)(hx:Passes dV X E)(ax:ia X (e::es) t)
  (jW:bS (e::es) X.env=(false,eval e X.env)::bS es X.env:=by rfl) (hpl:(ee pos (bS es X.env)).any (·.1)=false:=by rfl)
  (bg:eval (.Call (.Attribute o m apos) (e::es) [] pos) X.env=(do
   let di <- eval o X.env
   standAt apos.atName
   let (f,first) <- holding [di] (getMethod di m pl)
   callWith pos f first (ee pos (bS (e::es) X.env)) (backToKw pos (nI [] X.env))):=by rfl):
  bU X (.Call (.Attribute o m apos) (e::es) [] pos) (QB C m sp hy E cq t):=by
 intro ag s σ H Q I h;refine PySem.W.methodCall_KW (pl:=pl) (ct (he ag s σ H _ I h) λu s1 ⟨x,H1,bk,aU,a,bb,ar,ex,cK,l,q⟩=>?_) bg;subst ex;obtain rfl:u=Value.ref a:=aU;refine N' bk cK c hm l ?_;refine PySem.W.callWith_K (first:=[.ref a]) (h₀:=X.base) I.ok.mod.va hm.aD (ct (ax pos ag s1 σ H1 _ bk q) λus s2 ⟨vs,a',b0,r,ba⟩=>⟨b0.kh,?_⟩) jW hpl;exact IT (us:=.ref a::us) (vs:=.ref a::vs) F aC aa hd hx b0 (.cons rfl r) ba
def Ih{pl:Sem Bool}(he:bU X o cq)(c:l6 X.K C)(hm:Meth X.K C m f)(F:eT X.prog X.w X.K X.mg X.base dV k f fd aT sp)(aC:dO k X.A)(aa:Binds X.K fd aT ds)(hd:Vals hy ds)(hx:Passes dV X E)
  (bg:eval (.Call (.Attribute o m apos) [] [] pos) X.env=(do
   let di <- eval o X.env
   standAt apos.atName
   let (f,first) <- holding [di] (getMethod di m pl)
   callWith pos f first (ee pos (bS [] X.env)) (backToKw pos (nI [] X.env))):=by rfl):
  bU X (.Call (.Attribute o m apos) [] [] pos) (QB C m sp hy E cq MB):=by
 intro ag s σ H Q I h;refine PySem.W.methodCall_KW (pl:=pl) (ct (he ag s σ H _ I h) λu s1 ⟨x,H1,bk,aU,a,bb,ar,ex,cK,l,q⟩=>?_) bg;subst ex;obtain rfl:u=Value.ref a:=aU;refine N' bk cK c hm l ?_;exact PySem.W.callWith_K0 (first:=[.ref a]) bk.kh hm.aD (IT (us:=[.ref a]) (vs:=[.ref a]) F aC aa hd hx bk (.cons rfl .nil) q)
structure r'(K:a_)(C f:ah):Prop where
 makes:PySem.W.makesIn K C=true
 init:k1 K (.ref C) "__init__"=some (some (.ref f))
 fn:PySem.W.isFn K (.ref f)=true
 aD:mI K (.ref C)=true
def aeG{ag:List (ah×Obj)}{σ:St}{H:aw}{s:aK}{Q:c6}{us:List aj}{vs:List V}(M:r' X.K C f)(F:eT X.prog X.w X.K X.mg X.base dV k f fd aT sp)(aC:dO (k+1) X.A)(aa:Binds X.K fd aT ds)(hd:Vals hy ds)
  (hx:Passes dV X E) (I:Inv X ag σ H s) (r:Vals vs us)
  (h:∀x bb,H x=none->H bb=none->bb≠x->sp (.ref x::(vs++hy)) (upd (upd H bb (.own x)) x (.ins C bb [])) (λv a'=>v=.fz/\Q (.ref x) a') E):
  bp (bL X.prog X.w) X.A (call (.ref C) us) (ht X ag σ Q) X.dG s:=by
 have bK:=h (s.heap.objs.size+1) s.heap.objs.size (I.b8.fresh (gu _)) (I.b8.fresh (dD _)) (eL (Nat.lt_succ_self _));have b0:=Inv.made (C:=C) I;have a4:Vals (V.ref (s.heap.objs.size+1)::(vs++hy)) (Value.ref (s.heap.objs.size+1)::(us++ds)):=.cons rfl (r.append hd);have av:(Value.ref (s.heap.objs.size+1)::us++ds).length=aT.length:=by
  have e:=a4.length;rw[F.len _ _ _ _ bK] at e;exact e.symm
 refine wpAny_call (aeY (f:=f) I.kh M.makes M.init (beq_iff_eq.mp M.fn) (codeAny_mono (F.run _ X.stack _ _ ⟨Value.ref (s.heap.objs.size+1)::us,[]⟩ (Value.ref (s.heap.objs.size+1)::(us++ds)) _ _ E (aC.make C us [])
  (b0.KP.make C us []) (aa _ (Value.ref (s.heap.objs.size+1)::us) b0.kh av) a4 bK) λr s' u1=>?_))
 cases r with
|error e=>exact hx ag σ _ _ e s' b0 u1
|ok ng=>
  cases ng with
  |ret u=>
   obtain⟨v,af,dx,bZ,ev,c9⟩:=b0.after u1;subst ev;exact⟨bZ,⟨V.ref (s.heap.objs.size+1),af,dx,rfl,c9⟩⟩
  |next=>exact k3 u1
  |brk=>exact k3 u1
  |cont=>exact k3 u1
def afF(M:r' X.K C f)(F:eT X.prog X.w X.K X.mg X.base dV k f fd aT sp)(aC:dO (k+1) X.A)(bG:fo X x)(hm:X.mg x=some (.ref C))(aa:Binds X.K fd aT ds)(hd:Vals hy ds)(hx:Passes dV X E)
  (ax:ia X (e::es) t) (i6:(x==("__debug__":Str))=false:=by decide) (he:bS (e::es) X.env=(false,eval e X.env)::bS es X.env:=by rfl) (hpl:(ee pos (bS es X.env)).any (·.1)=false:=by rfl):
  bU X (.Call (.Name x p) (e::es) [] pos) (aha C sp hy E t):=by
 intro ag s σ H Q I h;refine th (IC I bG hm ?_ i6);refine PySem.W.callWith_K (h₀:=X.base) I.ok.mod.va M.aD (ct (ax pos ag s σ H _ I h) λus s1 ⟨vs,H1,bk,r,q⟩=>⟨bk.kh,?_⟩) he hpl;exact aeG M F aC aa hd hx bk r q
end
structure cR(N P:List Str)(sc:Scope):Prop where
 kind:sc.kind=.function
 co:sc.isCoroutine=false
 gen:sc.isGenerator=false
 a8:N.Nodup
 pre:N.take P.length=P
 par:∀x∈P,sc.names.lookup x=some .local\/sc.names.lookup x=some .cell
 Ya:∀y∈sc.names,y.2≠.free
theorem OL{kindOf:Str->Option k7}{x:Str}:∀{binds:List (Str×aj)} {m:Str->Option aj},(∀v,(x,v)∉binds)->bindL kindOf binds m x=m x
  | [],_,_=>rfl
  | (n,v)::r,m,h=>by
    unfold bindL;rw[OL λw hw=>h w (d6 _ hw)];split
    · have:x≠n:=by rintro rfl;exact h v fA
      simp[this]
    · rfl
theorem ON{kindOf:Str->Option k7}{x:Str}:∀{binds:List (Str×aj)} {m:Str->Option aj},(∀v,(x,v)∉binds)->bindC kindOf binds m x=m x
  | [],_,_=>rfl
  | (n,v)::r,m,h=>by
    unfold bindC;rw[ON λw hw=>h w (d6 _ hw)];split
    · rfl
    · have:x≠n:=by rintro rfl;exact h v fA
      simp[this]
theorem OM{kindOf:Str->Option k7}{x:Str}{v:aj}:∀{P:List Str} {vs:List aj} {i:Nat} {m:Str->Option aj},P.Nodup->P[i]?=some x->vs[i]?=some v->kindOf x=some .local ->
  bindL kindOf (P.zip vs) m x=some v
| [],_,_,_,_,h,_,_=>by simp at h
|_::_,[],_,_,_,_,h,_=>by simp at h
|p::P,w::vs,0,m,a8,ab,ak,aI=>by
  simp at ab ak;subst ab;subst ak;show bindL kindOf ((p,w)::P.zip vs) m p=_;unfold bindL;rw[OL λv bq=>(gb.mp a8).1 (List.of_mem_zip bq).1,if_pos aI];simp
|p::P,w::vs,i+1,m,a8,ab,ak,aI=>by
  show bindL kindOf ((p,w)::P.zip vs) m x=_
  unfold bindL;exact OM (i:=i) (gb.mp a8).2 (by simpa using ab) (by simpa using ak) aI
theorem OO{kindOf:Str->Option k7}{x:Str}{v:aj}:∀{P:List Str} {vs:List aj} {i:Nat} {m:Str->Option aj},P.Nodup->P[i]?=some x->vs[i]?=some v->kindOf x≠some .local ->
  bindC kindOf (P.zip vs) m x=some v
| [],_,_,_,_,h,_,_=>by simp at h
|_::_,[],_,_,_,_,h,_=>by simp at h
|p::P,w::vs,0,m,a8,ab,ak,aI=>by
  simp at ab ak;subst ab;subst ak;show bindC kindOf ((p,w)::P.zip vs) m p=_;unfold bindC;rw[ON λv bq=>(gb.mp a8).1 (List.of_mem_zip bq).1,if_neg aI];simp
|p::P,w::vs,i+1,m,a8,ab,ak,aI=>by
  show bindC kindOf ((p,w)::P.zip vs) m x=_
  unfold bindC;exact OO (i:=i) (gb.mp a8).2 (by simpa using ab) (by simpa using ak) aI
def start(N:List Str)(vs:List V):St:=vs.map some++dU (N.length - vs.length) none
noncomputable def jv(dV:ll)(P:cF)(w:cv)(K:a_)(mg:Str->Option aj)(base:bT)(N:List Str)(qual:Str)(scope:Scope)(f:ah)(cd:aj)(A:cY)(outer:List Env)(s:aK)(H:aw)(E:gC):bj where
 prog:=P
 w:=w
 K:=K
 mg:=mg
 base:=base
 A:=A.deeper (envOfC qual scope s.heap.objs.size f cd)
 N:=N
 dq:=s
 aQ:=H
 env:=envOfC qual scope s.heap.objs.size f cd
 outer:=outer
 stack:=envOfC qual scope s.heap.objs.size f cd::outer
 ex:=[]
 calm:=true
 fn:=λ_=>true
 dI:=[]
 dG:=λe s'=>bp (bL P w) (A.deeper (envOfC qual scope s.heap.objs.size f cd)) (leaving (envOfC qual scope s.heap.objs.size f cd) e) (λ_ GF=>dV outer H s E e GF) (λa9 GF=>dV outer H s E a9 GF) s'
def Pl{sc:Scope}{n:Nat}{x:Str}(h:sc.names.lookup x=some .cell):∃c,(cellsFrom n sc.names []).lookup x=some c:=by
 have q:=PySem.W.cellsFrom_some sc.names n [] (.inl h);exact Option.isSome_iff_exists.mp q
def aeb{dV:ll}{P:cF}{w:cv}{K:a_}{mg:Str->Option aj}{base:bT}{N aT:List Str}{qual:Str}{scope:Scope}{f:ah}{cd:aj}{A:cY}{outer:List Env}{s s1:aK}{H:aw}{E:gC}{us:List aj}{vs:List V}
  (S:cR N aT scope) (hd:A.handled=none) (ef:qz P w K mg base A outer s H) (av:vs.length=aT.length) (r:Vals vs us)
  (x:InCallC s s.heap.objs.size (bindL (envOfC qual scope s.heap.objs.size f cd).kindOf (aT.zip us) λ_=>none) (cellsFrom (s.heap.objs.size+1) scope.names []) (bindC (envOfC qual scope s.heap.objs.size f cd).kindOf (aT.zip us) λ_=>none) s1):
  Inv (jv dV P w K mg base N qual scope f cd A outer s H E) [] (start N vs) H s1:=by
 have hpl:aT.length<=N.length:=by have:=congrArg List.length S.pre;rw[List.length_take] at this;omega
 obtain⟨ab,tk,rfl,aI⟩:=x.done;have vh:∀b:ah,b∉(jv dV P w K mg base N qual scope f cd A outer s H E).ex:=λb z=>absurd (show b∈([]:List ah) from z) (by simp);refine⟨⟨ef.mod,S.kind,rfl,rfl,dD _,λy z c ab ak=>?_,λy bI=>?_,λy c _ h=>?_,λ_=>hd,Around.frames_deeper ef.frames,.inr ⟨rfl,rfl⟩,λb z=>absurd z (vh b),ef.bs,ef.pq,λb _ _=>vh b,λb z=>absurd z (vh b),ef.lD,ef.qQ⟩,
  rfl,ef.bare,gB.kept aI,⟨_,x.toInCall.ns,λi y v ab ak bF=>?_⟩,λy c h=>⟨_,x.cell y c h⟩,ef.b8.fresh (dD _),λy c h=>?_,λp aL=>absurd (show p∈([]:List (ah×Obj)) from aL) (by simp),ef.b8.kept aI,?_⟩
 ·exact name_of_addr x.apart (vJ ab) (vJ ak)
 ·have bI:scope.names.lookup y=some .cell\/scope.names.lookup y=some .free:=bI;rcases bI with bI|bI
  ·exact Pl bI
  ·exact absurd rfl (S.Ya _ (vJ bI))
 ·exact Nat.le_of_lt (x.above y c (vJ h))
 ·have aJ:i<vs.length:=by
   unfold start at ak;by_cases aJ:i<vs.length
   ·exact aJ
   ·rw[lV (by simpa using aJ)] at ak;rw[List.getElem?_replicate] at ak;split at ak <;> cases ak
  have ax:vs[i]?=some v:=by
   unfold start at ak;rw[h7 (by simpa using aJ),ho] at ak;cases e:vs[i]? with
   |none=>rw[e] at ak;cases ak
   |some a=>rw[e] at ak;cases ak;rfl
  obtain⟨u,b7,bZ⟩:=r.get ax;have aL:aT[i]?=some y:=by
   rw[<- S.pre,List.getElem?_take_of_lt (by omega)];exact ab
  have LO:aT.Nodup:=by rw[<- S.pre];exact S.a8.sublist (List.take_sublist _ _)
  refine⟨u,bZ,?_⟩
  rcases S.par y (p4 aL) with k|k
  ·exact .inl ⟨k,OM LO aL b7 k⟩
  ·obtain⟨c,e⟩:=Pl (n:=s.heap.objs.size+1) k;refine .inr ⟨.inl k,c,e,?_⟩;have q:=x.cell y c e;rw[OO LO aL b7 (by show scope.names.lookup y≠_;rw[k];decide)] at q;exact q
 ·exact ef.b8.fresh (Nat.le_of_lt (x.above y c (vJ h)))
 ·unfold start;show _=N.length;rw[oL,gc,List.length_replicate];omega
def ahC{dV:ll}{P:cF}{w:cv}{K:a_}{mg:Str->Option aj}{base:bT}{k:Nat}{f:ah}{name qual:Str}{params:Arguments}{body:List Stmt}{scope:Scope}{aip d9 doc pm cS d_ hH:aj}{an eZ:Option ah}
  {pO:Array (Option aj)} {N aT:List Str} {sp:jR} (lk:K.lookup f=some ⟨hH,eZ,.func (p1 name qual params body scope aip d9 doc pm an cS d_),pO⟩) (ik:PySem.W.codeIn K cS qual=true) (S:cR N aT scope)
  (len:∀vs H Q E,sp vs H Q E->vs.length=aT.length)
  (DE:∀(A:cY) (outer:List Env) (s:aK) (H:aw) (vs:List V) (Q:c6) (E:gC),dO k (A.deeper (envOfC qual scope s.heap.objs.size f cS))->sp vs H Q E ->
   ∃t,i1 (jv dV P w K mg base N qual scope f cS A outer s H E) body t/\t {bQ:=λ_ af=>Q .fz af,dj:=Q} (start N vs) H):
  eT P w K mg base dV (k+1) f (p1 name qual params body scope aip d9 doc pm an cS d_) aT sp:=by
 refine⟨len,λA outer s H args us vs Q E aC ef aa r pI=>?_⟩
 have av:=len _ _ _ _ pI;have m2:K.In s.heap:=ef.mod.va.keeps λb o e=>(ef.bs b o e).1;have lim:s.heap.NoLimit:=ef.mod.nolimit.keeps λb o e=>(ef.bs b o e).1;have V8:∀y∈aT.zip us,scope.names.lookup y.1=some .local\/(scope.names.lookup y.1=some .cell/\((cellsFrom (s.heap.objs.size+1) scope.names []).lookup y.1).isSome=true):=λ⟨n,v⟩ bI=>by
  rcases S.par n (List.of_mem_zip bI).1 with q|q
  ·exact .inl q
  ·exact .inr ⟨q,PySem.W.cellsFrom_some _ _ _ (.inl q)⟩
 refine codeAny_call_function aC.depth (m2 _ _ lk) rfl S.co S.gen rfl (PySem.W.codeRec_of m2 ik) (aa _ _ _ _ ?_)
 refine wpAny_newFunctionEnv_cells S.kind V8 λenv he s1 x=>?_
 subst he;refine⟨lim.keeps x.toInCall.keep,codeAny_func ?_⟩;obtain⟨t,bg,bK⟩:=DE A outer s H vs Q E (aC.deeper _) pI;have I:Inv (jv dV P w K mg base N qual scope f cS A outer s H E) [] (start N vs) H s1:=aeb S aC.hd ef av r x;refine fL (bg [] s1 (start N vs) H _ I bK) (λng s' az=>?_) λe s' az=>az;have fin:∀{bD:St} {af:aw} {v:V} {u:aj},Inv (jv dV P w K mg base N qual scope f cS A outer s H E) [] bD af s'->RelV v u->Q v af->Bl outer P w H s Q u s':=
  λ{bD af v u} J bZ q=>⟨v,af,J.os,J.bare,J.base,J.b8,bZ,q⟩
 cases ng with
|ret u=>
  obtain⟨v,bD,af,J,bZ,q⟩:=az;exact fin J bZ q
|next=>
  obtain⟨bD,af,J,q⟩:=az;exact fin (v:=V.fz) (u:=Value.none) J rfl q
|brk=>
  obtain⟨_,_,_,q⟩:=az;exact k3 q
|cont=>
  obtain⟨_,_,_,q⟩:=az;exact k3 q
end bc
namespace bc
open PySem PySem.Spec PyProof.Rows
section
variable {X:bj}{x:Str}{p pos:Pos}{e:bz}{es:List bz}{t:fY}{id T:String}{r:List V->aw->c6->Prop}
def GO(r:List V->aw->c6->Prop)(t:fY):TE:=λσ H Q=>t σ H λvs H1=>r vs H1 Q
def Ii(ay:lj X (.builtin id) r)(bG:fo X x)(hm:X.mg x=none)(bq:bootBuiltins x=some (.builtin id))(ax:ia X (e::es) t)(a7:x≠"__name__":=by decide)(i6:(x==("__debug__":Str))=false:=by decide)
  (he:bS (e::es) X.env=(false,eval e X.env)::bS es X.env:=by rfl) (hpl:(ee pos (bS es X.env)).any (·.1)=false:=by rfl):bU X (.Call (.Name x p) (e::es) [] pos) (GO r t):=by
 intro ag s σ H Q I h;refine th (r1 I bG hm bq ?_ a7 i6);exact PyProof.Rows.callWith_builtin1 (ct (ax pos ag s σ H _ I h) λus s1 ⟨vs,H1,bk,aO,aP⟩=>ay ag s1 σ H1 vs us Q bk aO aP) he hpl
def HT(ay:lj X (.type T) r)(bG:fo X x)(hm:X.mg x=none)(bq:bootBuiltins x=some (.type T))(ax:ia X (e::es) t)(a7:x≠"__name__":=by decide)(i6:(x==("__debug__":Str))=false:=by decide)
  (he:bS (e::es) X.env=(false,eval e X.env)::bS es X.env:=by rfl) (hpl:(ee pos (bS es X.env)).any (·.1)=false:=by rfl):bU X (.Call (.Name x p) (e::es) [] pos) (GO r t):=by
 intro ag s σ H Q I h;refine th (r1 I bG hm bq ?_ a7 i6);exact tc (ct (ax pos ag s σ H _ I h) λus s1 ⟨vs,H1,bk,aO,aP⟩=>ay ag s1 σ H1 vs us Q bk aO aP) he hpl
end
end bc
namespace e3
open PySem PyProof.Rows
section
variable {prog:cF}{w:cv}{A:cY}{E:aj->aK->Prop}{s:aK}
def Te{t b:ah}{vs ws:List aj}{Q:aj->aK->Prop}(bg:IsTup s.heap t vs.toArray)(aa:IsTup s.heap b ws.toArray)(bq:vs≠[])
  (ab:ws=[]->Q (.ref t) s) (ak:ws≠[]->Q (.ref s.heap.objs.size) {s with heap:=s.heap.push {cls:=.type "tuple",data:=.seq (vs++ws).toArray} })
  (hsz:vs.length+ws.length<=cp):bp (bL prog w) A (k6 .Add (.ref t) (.ref b)) Q E s:=by
 obtain⟨⟨cls,eW,data,cI⟩,aF,ay,n,hd⟩:=id bg;obtain⟨⟨C3,lz,data2,ko⟩,q2,uO,f9,hd2⟩:=id aa;simp only at ay hd uO hd2;subst ay hd uO hd2;have e:vs.toArray++ws.toArray=(vs++ws).toArray:=by simp
 by_cases hw:ws=[]
 ·exact concat_meets ⟨_,aF,rfl⟩ ⟨_,q2,rfl⟩ noFill_tuple_add seq_tuple_add PySem.F.slot_tuple_add PySem.F.entry_tuple_add (PySem.F.args_tuple_add_2 _ _)
   (tuple_addW1 t b vs.toArray ws.toArray n f9 eW lz cI ko (by simpa using bq) (by simp[hw])) ⟨aF,q2,ab hw⟩
 ·refine concat_meets ⟨_,aF,rfl⟩ ⟨_,q2,rfl⟩ noFill_tuple_add seq_tuple_add PySem.F.slot_tuple_add PySem.F.entry_tuple_add (PySem.F.args_tuple_add_2 _ _)
   (tuple_addW2 t b vs.toArray ws.toArray n f9 eW lz cI ko (by simpa using bq) (by simpa using hw) (by rw[er,er];exact hsz)) ⟨aF,q2,?_⟩
  rw[e];exact ak hw
noncomputable def cL(n d:Nat):Option Int->Nat
|none=>d
|some v=>if v<0 then (v+(n:Int)).toNat else min v.toNat n
def agk(n d:Nat)(hd:d<=n)(o:Option Int):cL n d o<=n:=by
 cases o with
|none=>exact hd
|some v=>
  show (if v<0 then (v+(n:Int)).toNat else min v.toNat n)<=n
  by_cases bq:v<0
  ·rw[if_pos bq];omega
  ·rw[if_neg bq];exact Nat.min_le_right _ _
def PO(v:Int)(n d:Nat):(if v<0 then max (v+(n:Int)) 0 else min v (n:Int))=((cL n d (some v):Nat):Int):=by
 show (if v<0 then max (v+(n:Int)) 0 else min v (n:Int))=(((if v<0 then (v+(n:Int)).toNat else min v.toNat n):Nat):Int)
 by_cases bq:v<0
 ·simp only[if_pos bq];omega
 ·simp only[if_neg bq];omega
def adP(lo aJ:Option Int)(n:Nat):Builtin.Slice.sliceAdjust lo aJ 1 (n:Int)=(((cL n 0 lo:Nat):Int),((cL n n aJ:Nat):Int)):=by
 have ab:¬((1:Int)<0):=by omega
 unfold Builtin.Slice.sliceAdjust;simp only[ab,if_false];refine Prod.ext ?_ ?_
 ·cases lo with
  |none=>rfl
  |some v=>exact PO v n 0
 ·cases aJ with
  |none=>rfl
  |some v=>exact PO v n n
def adt(i j:Nat):zr (i:Int) (j:Int) 1=j - i:=by
 unfold zr;have ab:(1:Int) > 0:=by omega
 simp only[ab,if_true,Int.ediv_one];split <;> omega
def NR{v:aj}{o:Option Int}{Q:Option Int->aK->Prop}(p:IsPart v o)(h:Q o s):bp (bL prog w) A (Builtin.Slice.slicePartIndex v) Q E s:=by
 cases p with
|none=>exact slicePart_none h
|int i t=>exact slicePart_int h
def Mn{cI:ah}{g8 eK:aj}{lo aJ:Option Int}{n:Nat}{Q:Int×Int×Nat->aK->Prop}(az:s.heap.IsSliceOf cI g8 eK .none)(pl:IsPart g8 lo)(pu:IsPart eK aJ)
  (h:Q (((cL n 0 lo:Nat):Int),1,cL n n aJ - cL n 0 lo) s):bp (bL prog w) A (Builtin.Slice.sliceApplied (.ref cI) (pure (n:Int))) Q E s:=by
 obtain⟨os,oi,ya,uR⟩:=id az;unfold Builtin.Slice.sliceApplied Builtin.Slice.sliceFields;refine aV (aV (ha oi uR (x:=g8) rfl (aV (ha oi uR (x:=eK) rfl (aV (ha oi uR (x:=.none) rfl (cw ?_)))))));refine aV (slicePart_none ?_);show bp _ _ (if ((1:Int)==0)=true then _ else _) _ _ s;rw[if_neg (by decide)];refine aV (NR pl (aV (NR pu (aV (cw ?_)))));show bp _ _ (match Builtin.Slice.sliceAdjust lo aJ 1 (n:Int) with|(lo,aJ)=>pure (lo,(1:Int),zr lo aJ 1)) _ _ s;rw[adP lo aJ n];show bp _ _ (pure (((cL n 0 lo:Nat):Int),(1:Int),zr ((cL n 0 lo:Nat):Int) ((cL n n aJ:Nat):Int) 1)) _ _ s;rw[adt];exact cw h
def aeL(xs:Array aj)(i k:Nat):((List.range k).filterMap λ(m:Nat)=>xs[((i:Int)+(m:Int)*1).toNat]?).toArray=((xs.toList.drop i).take k).toArray:=by
 have e:(λ(m:Nat)=>xs[((i:Int)+(m:Int)*1).toNat]?)=λm=>xs[i+m]?:=by
  funext m;have:((i:Int)+(m:Int)*1).toNat=i+m:=by omega
  rw[this]
 rw[e];have:=pick_run xs i k;rw[List.filterMap_map] at this;have aS:((λx=>xs[x]?) ∘ λx=>i+x)=λm=>xs[i+m]?:=rfl;rw[aS] at this;rw[this]
def Vl{t cI:ah}{items:Array aj}{g8 eK:aj}{lo aJ:Option Int}{Q:aj->aK->Prop}(bg:IsTup s.heap t items)(az:s.heap.IsSliceOf cI g8 eK .none)(pl:IsPart g8 lo)(pu:IsPart eK aJ)
  (hw:¬(cL items.size 0 lo=0/\cL items.size items.size aJ=items.size))
  (h:Q (.ref s.heap.objs.size) {s with heap:=s.heap.push {cls:=.type "tuple",data:=.seq ((items.toList.drop (cL items.size 0 lo)).take (cL items.size items.size aJ - cL items.size 0 lo)).toArray} })
  (hsz:items.size<=cp):bp (bL prog w) A (getItem (.ref t) (.ref cI)) Q E s:=by
 have yh:sizeOk (.seq ((items.toList.drop (cL items.size 0 lo)).take (cL items.size items.size aJ - cL items.size 0 lo)).toArray):=by
  show ((items.toList.drop (cL items.size 0 lo)).take (cL items.size items.size aJ - cL items.size 0 lo)).toArray.size<=cp
  rw[er,List.length_take,List.length_drop,p6];omega
 have bC:cL items.size items.size aJ<=items.size:=agk _ _ (dD _) aJ;obtain⟨os,oi,ya,uR⟩:=id az;have Dz:s.TypeIs (.ref cI) "slice":=⟨os,oi,ya⟩;unfold getItem
 try with_reducible refine k4 ?_
 first|refine aV (cw ?_)|skip
 refine aV (wpAny_sequenceKey bg.typeIs (by decide) ?_)
 refine aV (p9 (name:=Str.ofString "__getitem__") bg.typeIs aiw
  (oQ aiw bg.typeIs entry_tuple_getitem ?_ (args_tuple_getitem _ _)))
 show bp _ _ (Builtin.Tuple.tupleItemsOf (.ref t) >>= _) _ _ s
 refine aV (tupleItemsOf_ bg ?_)
 refine aV (wpAny_typeOf Dz ?_)
 rw[if_pos (by decide)];refine aV (Mn az pl pu ?_);have sF:¬((((cL items.size 0 lo:Nat):Int)==0 && (1:Int)==1 && (cL items.size items.size aJ - cL items.size 0 lo)==items.size)=true):=by
  intro q;rw[jG,jG] at q;have aP:((cL items.size 0 lo:Nat):Int)=0:=eq_of_beq q.1.1;have ba:cL items.size items.size aJ - cL items.size 0 lo=items.size:=eq_of_beq q.2;exact hw ⟨by omega,by omega⟩
 show bp _ _ (if (((cL items.size 0 lo:Nat):Int)==0 && (1:Int)==1 && (cL items.size items.size aJ - cL items.size 0 lo)==items.size)=true then _ else _) _ _ s
 rw[if_neg sF,aeL]
 first
  |exact aV (m:=rv _) (oP (cw ⟨_,rfl,cw h⟩) yh)
  |exact aV (m:=rv _) (oP (aV (cw (cw ⟨_,rfl,cw h⟩))) yh)
  |exact aV (aV (m:=rv _) (oP (cw (cw ⟨_,rfl,cw h⟩)) yh))
  |exact aV (aV (m:=rv _) (oP (cw ⟨_,rfl,cw h⟩) yh))
end
end e3
namespace bc
open PySem PySem.Spec PyProof.Rows
abbrev cx:=St->aw->(Option Int->aw->Prop)->Prop
noncomputable def m5(X:bj)(e:Option bz)(t:cx):Prop:=
 ∀(ag:List (ah×Obj)) (s:aK) (σ:St) (H:aw) (Q:Option Int->aw->Prop),Inv X ag σ H s->t σ H Q ->
  bp (bL X.prog X.w) X.A (evalPart e X.env) (λu s'=>∃o af,Inv X ag σ af s'/\IsPart u o/\Q o af) X.dG s
def afk:cx:=λ_ H Q=>Q none H
def ag9(t:TE):cx:=λσ H Q=>t σ H λx H1=>∃i,x=.int i/\Q (some i) H1
section
variable {X:bj}{e:bz}{f':TE}{lo aJ:Option bz}{j0 zi:cx}{pos fK:Pos}
def afD:m5 X none afk:=by
 intro ag s σ H Q I h;rw[evalPart_none];exact cw ⟨none,H,I,.none,h⟩
def afC(h:bU X e f'):m5 X (some e) (ag9 f'):=by
 intro ag s σ H Q I hw;rw[evalPart_some];refine ct (h ag s σ H _ I hw) λu s1 ⟨x,H1,bk,aO,aP⟩=>?_;obtain⟨i,rfl,q⟩:=aP;obtain⟨t,rfl⟩:=aO;exact⟨some i,H1,bk,.int i t,q⟩
noncomputable def pf(X:bj)(r:V->Option Int->Option Int->aw->c6->Prop):Prop:=
 ∀(ag:List (ah×Obj)) (s:aK) (σ:St) (H:aw) (x:V) (v g8 eK:aj) (lo aJ:Option Int) (cI:ah) (Q:c6),Inv X ag σ H s->RelV x v->s.heap.IsSliceOf cI g8 eK .none->IsPart g8 lo->IsPart eK aJ->r x lo aJ H Q ->
  ∃T id,typeLookup (.type T) "__getitem__"=pure (some (.builtin id))/\s.TypeIs v T/\bp (bL X.prog X.w) X.A (getItem v (.ref cI)) (ht X ag σ Q) X.dG s
def pf.or{r bR:V->Option Int->Option Int->aw->c6->Prop}(h:pf X r)(h':pf X bR):pf X (λx lo aJ H Q=>r x lo aJ H Q\/bR x lo aJ H Q):=by
 intro ag s σ H x v g8 eK lo aJ cI Q I aU az pl pu q;rcases q with q|q
 ·exact h ag s σ H x v g8 eK lo aJ cI Q I aU az pl pu q
 ·exact h' ag s σ H x v g8 eK lo aJ cI Q I aU az pl pu q
noncomputable def abu(r:V->Option Int->Option Int->aw->c6->Prop)(f':TE)(j0 zi:cx):TE:=λσ H Q=>f' σ H λx H1=>j0 σ H1 λl a'=>zi σ a' λu dn=>r x l u dn Q
def aeN{r:V->Option Int->Option Int->aw->c6->Prop}(aC:pf X r)(he:bU X e f')(av:m5 X lo j0)(b7:m5 X aJ zi):bU X (.Subscript e (.Slice lo aJ none fK) pos) (abu r f' j0 zi):=by
 intro ag s σ H Q I h;refine Subscript_ (ct (he ag s σ H _ I h) λv s1 ⟨x,H1,bk,aO,aP⟩=>?_);refine wpAny_Slice (ct (av ag s1 σ H1 _ bk aP) λg8 s2 ⟨l,a',b0,pl,ba⟩=>ct (b7 ag s2 σ a' _ b0 ba) λeK s3 ⟨u,dn,dx,pu,c9⟩=>?_);rw[evalPart_none];refine cw ?_;have i0:Inv X ag σ dn {s3 with heap:=s3.heap.push {cls:=.type "slice",data:=.fields #[g8,eK,.none]} }:=dx.kept (t':=s3.toks) λb dF q=>c2 _ q;obtain⟨T,id,eo,bg,bG⟩:=aC ag {s3 with heap:=s3.heap.push {cls:=.type "slice",data:=.fields #[g8,eK,.none]} } σ dn x v g8 eK l u s3.heap.objs.size Q i0 aO (Heap.IsSliceOf.new ..) pl pu c9;show bp (bL X.prog X.w) X.A (subscriptTail e (.Slice lo aJ none fK) v (.ref s3.heap.objs.size)) (ht X ag σ Q) X.dG {s3 with heap:=s3.heap.push {cls:=.type "slice",data:=.fields #[g8,eK,.none]} };exact tail_any (ops:=[.ref s3.heap.objs.size,v]) bg eo bG (by with_unfolding_all rfl)
noncomputable def ma(xs:List V)(lo aJ:Option Int):List V:=(xs.drop (e3.cL xs.length 0 lo)).take (e3.cL xs.length xs.length aJ - e3.cL xs.length 0 lo)
def NP(xs:List V)(lo aJ:Option Int):(ma xs lo aJ).length<=xs.length:=by
 unfold ma;rw[List.length_take,List.length_drop];omega
noncomputable def _W(K:a_):V->Option Int->Option Int->aw->c6->Prop:=λx lo aJ H Q=>∃a xs,x=.ref a/\df K H a xs /\
 ¬(e3.cL xs.length 0 lo=0/\e3.cL xs.length xs.length aJ=xs.length)/\∀p,H p=none->Q (.ref p) (upd H p (.tup (ma xs lo aJ)))
def agf:pf X (_W X.K):=by
 intro ag s σ H x v g8 eK lo aJ cI Q I aU az pl pu h;obtain⟨a,xs,rfl,hx,hw,q⟩:=h;cases aU;obtain⟨its,r,bg,aq⟩:=I.tuple hx;have hlen:its.toArray.size=xs.length:=by rw[er];exact r.length.symm
 refine⟨"tuple",_,PyProof.Rows.slot_tuple_getitem.lookup,bg.typeIs,?_⟩
 refine e3.Vl bg az pl pu (by rw[hlen];exact hw) ?_ (by rw[hlen];exact aq)
 rw[hlen];refine⟨.ref s.heap.objs.size,_,I.laid (t':=s.toks) (o:=.tup (ma xs lo aJ)) (λb dF q=>c2 _ q) (dD _) ?_,rfl,q _ (I.b8.fresh (dD _))⟩;exact⟨lW (NP xs lo aJ) aq,_,(r.drop (e3.cL xs.length 0 lo)).take (e3.cL xs.length xs.length aJ - e3.cL xs.length 0 lo),IsTup.new _ _⟩
noncomputable def ahl(K:a_):gj:=λx y H Q=>∃a b xs ys,x=.ref a/\y=.ref b/\df K H a xs/\df K H b ys/\xs≠[]/\xs.length+ys.length<=cp /\
 (ys=[]->Q (.ref a) H)/\(ys≠[]->∀p,H p=none->Q (.ref p) (upd H p (.tup (xs++ys))))
def Vals.yX{xs:List V}{us:List aj}(r:Vals xs us):us=[] <-> xs=[]:=by
 cases r with
|nil=>simp
|cons _ _=>simp
def PD:eE X (k6 .Add) (ahl X.K):=by
 intro ag s σ H x y v u Q I aU bw h;obtain⟨a,b,xs,ys,rfl,rfl,ax,aa,hx,aq,aP,ba⟩:=h;cases aU;cases bw;obtain⟨its,aO,nA,_⟩:=I.tuple ax;obtain⟨lK,a4,fK,_⟩:=I.tuple aa;refine e3.Te nA fK (λz=>hx (aO.yX.mp z)) (λz=>⟨.ref a,H,I,rfl,aP (a4.yX.mp z)⟩) (λz=>?_) (by rw[<- aO.length,<- a4.length];exact aq);refine⟨.ref s.heap.objs.size,_,I.laid (t':=s.toks) (o:=.tup (xs++ys)) (λb dF q=>c2 _ q) (dD _) ?_,rfl,ba (λw=>z (a4.yX.mpr w)) _ (I.b8.fresh (dD _))⟩;exact⟨by rw[oL];exact aq,_,aO.append a4,IsTup.new _ _⟩
end
end bc
namespace bc
open PySem PySem.Spec PyProof.Rows
noncomputable def nr(n:Nat)(i:Int):Option Nat:=if 0<=i then (if i<n then some i.toNat else none) else if -(n:Int)<=i then some (i+n).toNat else none
def ur{α:Type}(xs:List α)(i:Int):Option α:=(nr xs.length i).bind λj=>xs[j]?
def PJ{n:Nat}{i:Int}{j:Nat}(h:nr n i=some j):seqIndex? i n=some j/\j<n/\-(n:Int)<=i/\i<n:=by
 unfold nr at h;by_cases h0:0<=i
 ·rw[if_pos h0] at h;by_cases ab:i<n
  ·rw[if_pos ab] at h;have e:i.toNat=j:=eB h;exact⟨by rw[seqIndex_of h0 ab,e],by omega,by omega,ab⟩
  ·rw[if_neg ab] at h;cases h
 ·rw[if_neg h0] at h;by_cases ab:-(n:Int)<=i
  ·rw[if_pos ab] at h;have e:(i+n).toNat=j:=eB h;exact⟨by rw[seqIndex_neg (by omega) ab,e],by omega,ab,by omega⟩
  ·rw[if_neg ab] at h;cases h
def IL{α:Type}{xs:List α}{i:Int}{v:α}(h:ur xs i=some v):∃j,seqIndex? i xs.length=some j/\xs[j]?=some v/\j<xs.length/\-(xs.length:Int)<=i/\i<xs.length:=by
 unfold ur at h;cases e:nr xs.length i with
|none=>rw[e] at h;cases h
|some j=>
  rw[e] at h;obtain⟨ab,ak,bF,cT⟩:=PJ e;exact⟨j,ab,h,ak,bF,cT⟩
def PW(b:bz):Prop:=∀o i,subscripted b false o i=operate [o,i] (getItem o i)
noncomputable def n0(X:bj)(r:gj):Prop:=
 ∀(value slice:bz) (ag:List (ah×Obj)) (s:aK) (σ:St) (H:aw) (x y:V) (v u:aj) (Q:c6),Inv X ag σ H s->RelV x v->RelV y u->r x y H Q ->
  subscripted slice false v u=operate [v,u] (getItem v u)->bp (bL X.prog X.w) X.A (subscriptTail value slice v u) (ht X ag σ Q) X.dG s
noncomputable def JC(X:bj)(id:String)(r:V->List V->aw->c6->Prop):Prop:=
 ∀(ag:List (ah×Obj)) (s:aK) (σ:St) (H:aw) (x:V) (xs:List V) (v:aj) (us:List aj) (Q:c6),Inv X ag σ H s->RelV x v->Vals xs us->r x xs H Q ->
  bp (bL X.prog X.w) X.A (call (.builtin id) (v::us)) (ht X ag σ Q) X.dG s
section
variable {X:bj}{a b:bz}{cq eJ:TE}{pos:Pos}
def n0.or{r bR:gj}(h:n0 X r)(h':n0 X bR):n0 X (λx y H Q=>r x y H Q\/bR x y H Q):=by
 intro value slice ag s σ H x y v u Q I aU bw q az;rcases q with q|q
 ·exact h value slice ag s σ H x y v u Q I aU bw q az
 ·exact h' value slice ag s σ H x y v u Q I aU bw q az
def ahv{r:gj}(aC:n0 X r)(ax:bU X a cq)(aa:bU X b eJ)(az:PW b):bU X (.Subscript a b pos) (s7 r cq eJ):=by
 intro ag s σ H Q I h;exact Subscript_ (Ck ax aa I h λv u s2 x y a' b0 aU bw q=>aC a b ag s2 σ a' x y v u Q b0 aU bw q (az _ _))
noncomputable def Mb(K:a_):gj:=λx y H Q=>∃p xs i v,x=.ref p/\y=.int i/\eU K H p xs/\ur xs i=some v/\Q v H
noncomputable def Md(K:a_):gj:=λx y H Q=>∃p xs i v,x=.ref p/\y=.int i/\df K H p xs/\ur xs i=some v/\Q v H
noncomputable def Mc:gj:=λx y H Q=>∃z i c,x=.str z/\y=.int i/\z.length<=cp/\ur z.cps.toList i=some c/\Q (.str ⟨#[c]⟩) H
def afT:n0 X (Mb X.K):=by
 intro value slice ag s σ H x y v u Q I aU bw h az;obtain⟨p,xs,i,z,rfl,rfl,bK,he,q⟩:=h;cases aU;obtain⟨t,rfl⟩:=bw;obtain⟨its,r,pl,aq⟩:=I.list bK;obtain⟨j,ab,ak,bF,cT,gG⟩:=IL he;obtain⟨w,mj,jY⟩:=r.get ak;have av:=r.length;have a7:=r0;have fin:ht X ag σ Q w s:=⟨z,H,I,jY,q⟩;by_cases h0:0<=i
 ·have bC:i.toNat=j:=by
   rw[seqIndex_of h0 gG] at ab;exact eB ab
  exact item_listR pl.isList h0 (by omega) (by rw[bC];simpa using mj) fin az
 ·have bC:(i+(its.toArray.size:Int)).toNat=j:=by
   rw[seqIndex_neg (by omega) cT] at ab;rw[er,<- av];exact eB ab
  exact subscriptTail_builtinR (x:=w) pl.isList.typeIs slot_list_getitem.lookup
   (wpAny_getItem_list_neg (Q:=λr s'=>r=w/\ht X ag σ Q r s') pl.isList (by omega) (by rw[er] <;> omega) (by omega) (by rw[bC];simpa using mj) ⟨rfl,fin⟩) az
def agQ:n0 X (Md X.K):=by
 intro value slice ag s σ H x y v u Q I aU bw h az;obtain⟨p,xs,i,z,rfl,rfl,bK,he,q⟩:=h;cases aU;obtain⟨t,rfl⟩:=bw;obtain⟨its,r,pl,aq⟩:=I.tuple bK;obtain⟨j,ab,ak,bF,cT,gG⟩:=IL he;obtain⟨w,mj,jY⟩:=r.get ak;have av:=r.length;have a7:=r0;have fin:ht X ag σ Q w s:=⟨z,H,I,jY,q⟩;exact subscriptTail_builtinR (x:=w) pl.typeIs slot_tuple_getitem.lookup
  (getItem_tuple (j:=j) (Q:=λr s'=>r=w/\ht X ag σ Q r s') pl (by omega) (by omega) (by rw[er,<- av];exact ab) (by simpa using mj) ⟨rfl,fin⟩) az
def agR:n0 X Mc:=by
 intro value slice ag s σ H x y v u Q I aU bw h az;obtain⟨z,i,c,rfl,rfl,aq,he,q⟩:=h;obtain⟨t,rfl⟩:=aU;obtain⟨t',rfl⟩:=bw;obtain⟨j,ab,ak,bF,cT,gG⟩:=IL he;have av:z.cps.toList.length=z.length:=by simp[Str.length]
 rw[av] at ab cT gG;have a7:=r0;exact tail_any (typeIs_str s z t) slot_str_getitem.lookup (getItem_str (c:=c) (by
  have aH:decide (i < -(2 ^ 63:Int))=false:=decide_eq_false (by omega);have aS:decide (i >= 2 ^ 63)=false:=decide_eq_false (by omega);rw[aH,aS,Bool.or_false]) (by rw[ab];simpa using ak) ⟨.str ⟨#[c]⟩,H,I.tok _,⟨_,rfl⟩,q⟩) az
def _U(K:a_):gj:=λx y H Q=>Mb K x y H Q\/Md K x y H Q\/Mc x y H Q
def agS:n0 X (_U X.K):=afT.or (agQ.or agR)
def adx(its:List aj)(n j:Nat)(u:aj):Obj.mapSeq (·.setIfInBounds j u) {cls:=.type "list",data:=.seq its.toArray n}={cls:=.type "list",data:=.seq (its.set j u).toArray n}:=by
 simp[Obj.mapSeq]
theorem Inv.lst{ag:List (ah×Obj)}{σ:St}{H:aw}{s:aK}{p:ah}{xs:List V}(I:Inv X ag σ H s)(h:H p=some (.lst xs)):
  ∃(its:List aj) (n:Nat),Vals xs its/\s.heap.get? p=some {cls:=.type "list",data:=.seq its.toArray n}/\xs.length<=cp:=by
 obtain⟨z,its,n,r,e⟩:=I.b8 p _ h;exact⟨its,n,r,e,z⟩
def Inv.XT{ag:List (ah×Obj)}{σ:St}{H:aw}{s:aK}{p:ah}{xs ys:List V}{its its':List aj}{n ot:Nat}{f:Obj->Obj}(I:Inv X ag σ H s)(h:H p=some (.lst xs))
  (aF:s.heap.get? p=some {cls:=.type "list",data:=.seq its.toArray n}) (hf:f {cls:=.type "list",data:=.seq its.toArray n}={cls:=.type "list",data:=.seq its'.toArray ot}) (r:Vals ys its') (aq:ys.length<=cp) (t:Nat):
  Inv X ag σ (upd H p (.lst ys)) {s with heap:=s.heap.update p f,toks:=t}:=by
 have e:(s.heap.update p f).get? p=some {cls:=.type "list",data:=.seq its'.toArray ot}:=by
  rw[Heap.get?_update_self f aF (by rw[hf] <;> rfl),hf]
 refine I.write (x:=p) (e:=p) (by rw[h];trivial) (.inl rfl) (λb u aa q=>(vN _ _ (Ne.symm aa)).trans q) ⟨_,e⟩ ?_
 exact⟨aq,its',ot,r,e⟩
noncomputable def ahk:V->V->V->aw->(aw->Prop)->Prop:=λo i v H Q=>∃p xs k j,o=.ref p/\i=.int k/\H p=some (.lst xs)/\nr xs.length k=some j/\Q (upd H p (.lst (xs.set j v)))
def set_list:JE X ahk:=by
 intro ag s σ H o i v di e_ u Q I dp ri bZ h;obtain⟨p,xs,k,j,rfl,rfl,aL,bC,q⟩:=h;cases dp;obtain⟨t,rfl⟩:=ri;obtain⟨its,n,r,aF,aq⟩:=I.lst aL;obtain⟨ab,ak,bF,cT⟩:=PJ bC;have av:=r.length;have a7:=r0;have pa:Inv X ag σ (upd H p (.lst (xs.set j v))) {s with heap:=s.heap.update p (Obj.mapSeq (·.setIfInBounds j u))}:=
  I.XT aL aF (adx its n j u) (r.set bZ j) (by rw[List.length_set];exact aq) s.toks
 by_cases h0:0<=k
 ·have aI:k.toNat=j:=by
   rw[seqIndex_of h0 cT] at ab;exact eB ab
  exact PySem.W.ki_setAt aF h0 (by omega) (by rw[er,<- av];exact cT) (by rw[aI];exact⟨_,pa,q⟩)
 ·have aI:(k+(its.toArray.size:Int)).toNat=j:=by
   rw[seqIndex_neg (by omega) bF] at ab;rw[er,<- av];exact eB ab
  exact PySem.W.ki_setBack aF (by omega) (by rw[er,<- av];exact bF) (by omega) (by rw[aI];exact⟨_,pa,q⟩)
def acG(lo aJ:Option Int)(n:Nat):(sliceBounds lo aJ none n).1=((e3.cL n 0 lo:Nat):Int)/\(sliceBounds lo aJ none n).2.1=((e3.cL n n aJ:Nat):Int)/\(sliceBounds lo aJ none n).2.2=1:=by
 refine⟨?_,?_,rfl⟩
 ·cases lo with
  |none=>simp[sliceBounds,e3.cL]
  |some i=>
   simp only[sliceBounds,e3.cL,Option.getD_none,show (1:Int) > 0 by decide,if_true];by_cases h:i<0
   ·simp only[h,if_true] <;> omega
   ·simp only[h,if_false] <;> omega
 ·cases aJ with
  |none=>simp[sliceBounds,e3.cL]
  |some i=>
   simp only[sliceBounds,e3.cL,Option.getD_none,show (1:Int) > 0 by decide,if_true];by_cases h:i<0
   ·simp only[h,if_true] <;> omega
   ·simp only[h,if_false] <;> omega
def acx(its:List aj)(lo aJ:Option Int):slicePick its.toArray lo aJ none=((its.drop (e3.cL its.length 0 lo)).take (e3.cL its.length its.length aJ - e3.cL its.length 0 lo)).toArray:=by
 obtain⟨ab,ak,bF⟩:=acG lo aJ its.toArray.size;unfold slicePick;rw[ab,ak,bF];simp only[sliceRange_one,pick_run,er] <;> rfl
noncomputable def _V(K:a_):V->Option Int->Option Int->aw->c6->Prop:=λx lo aJ H Q=>∃a xs,x=.ref a/\eU K H a xs/\∀p,H p=none->Q (.ref p) (upd H p (.lst (ma xs lo aJ)))
def afn:pf X (_V X.K):=by
 intro ag s σ H x v g8 eK lo aJ cI Q I aU az pl pu h;obtain⟨a,xs,rfl,hx,q⟩:=h;cases aU;obtain⟨its,r,bg,aq⟩:=I.list hx;have hlen:=r.length;refine⟨"list",_,slot_list_getitem.lookup,bg.isList.typeIs,?_⟩;refine wpAny_getItem_list_slice bg.isList az pl pu .none (by simp) ?_ (by rw[er] <;> omega);rw[acx,<- hlen];refine⟨.ref s.heap.objs.size,_,I.laid (t':=s.toks) (o:=.lst (ma xs lo aJ)) (λb dF q=>c2 _ q) (dD _) ?_,rfl,q _ (I.b8.fresh (dD _))⟩;exact⟨lW (NP xs lo aJ) aq,_,0,(r.drop (e3.cL xs.length 0 lo)).take (e3.cL xs.length xs.length aJ - e3.cL xs.length 0 lo),g9 _ rfl⟩
def acV:lj X (.builtin "len") (λxs H Q=>∃p ys,xs=[.ref p]/\(eU X.K H p ys\/df X.K H p ys)/\Q (.int ys.length) H):=by
 intro ag s σ H xs us Q I r h;obtain⟨p,ys,rfl,bK,q⟩:=h;obtain⟨u,rfl,aU⟩:=vals1 r;cases aU;have a7:=r0;rcases bK with bK|bK
 ·obtain⟨its,bR,pl,aq⟩:=I.list bK;have hlen:=bR.length;exact Calls.call_len_list pl.isList (by simp only[er] <;> omega) ⟨.int ys.length,H,I.tok _,⟨s.toks+1,by rw[er,hlen]⟩,q⟩
 ·obtain⟨its,bR,pl,aq⟩:=I.tuple bK;have hlen:=bR.length;exact len_tuple pl (by simp only[er] <;> omega) ⟨.int ys.length,H,I.tok _,⟨s.toks+1,by rw[er,hlen]⟩,q⟩
def acU:lj X (.builtin "len") (λxs H Q=>∃z,xs=[.str z]/\z.length<=cp/\Q (.int z.length) H):=by
 intro ag s σ H xs us Q I r h;obtain⟨z,rfl,aq,q⟩:=h;obtain⟨u,rfl,t,rfl⟩:=vals1 r;have a7:=r0;exact len_str (by omega) ⟨.int z.length,H,I.tok _,⟨_,rfl⟩,q⟩
def lj.or{f:aj}{r bR:List V->aw->c6->Prop}(h:lj X f r)(h':lj X f bR):lj X f (λxs H Q=>r xs H Q\/bR xs H Q):=by
 intro ag s σ H xs us Q I rs q;rcases q with q|q
 ·exact h ag s σ H xs us Q I rs q
 ·exact h' ag s σ H xs us Q I rs q
def acT:lj X (.type "list") (λxs H Q=>∃p ys,xs=[.ref p]/\(eU X.K H p ys\/df X.K H p ys)/\∀l,H l=none->Q (.ref l) (upd H l (.lst ys))):=by
 intro ag s σ H xs us Q I r h;obtain⟨p,ys,rfl,bK,q⟩:=h;obtain⟨u,rfl,aU⟩:=vals1 r;cases aU;have fin:∀(its:List aj),Vals ys its->ys.length<=cp->∀(h':bT) (d0:Nat),(∀b o',s.heap.get? b=some o'->h'.get? b=some o') ->
   h'.get? s.heap.objs.size=some {cls:=.type "list",dict:=none,data:=.seq its.toArray d0,slots:=#[]}->ht X ag σ Q (.ref s.heap.objs.size) {s with heap:=h'}:=λits bR aq h' d0 aD e=>
  ⟨.ref s.heap.objs.size,_,I.laid (t':=s.toks) aD (dD _) (show hr X.prog X.w _ h' _ (.lst ys) from ⟨aq,its,d0,bR,e⟩),rfl,q _ (I.b8.fresh (dD _))⟩
 rcases bK with bK|bK
 ·obtain⟨its,bR,pl,aq⟩:=I.list bK;have hlen:=bR.length;obtain⟨o,aF,ay,n,hd⟩:=pl.isList;exact call_list_seq p (.inl rfl) aF ay hd (λh' d0 aD e=>fin its bR aq h' d0 aD e) (by simp only[er] <;> omega)
 ·obtain⟨its,bR,pl,aq⟩:=I.tuple bK;have hlen:=bR.length;obtain⟨o,aF,ay,n,hd⟩:=pl;exact call_list_seq p (.inr rfl) aF ay hd (λh' d0 aD e=>fin its bR aq h' d0 aD e) (by simp only[er] <;> omega)
def acB:lj X (.type "tuple") (λxs H Q=>∃p ys,xs=[.ref p]/\((eU X.K H p ys/\∀l,H l=none->Q (.ref l) (upd H l (.tup ys)))\/(df X.K H p ys/\Q (.ref p) H))):=by
 intro ag s σ H xs us Q I r h;obtain⟨p,ys,rfl,h⟩:=h;obtain⟨u,rfl,aU⟩:=vals1 r;cases aU;rcases h with ⟨bK,q⟩|⟨bK,q⟩
 ·obtain⟨its,bR,pl,aq⟩:=I.list bK;have hlen:=bR.length;refine call_tuple_list pl.isList (λh' aD=>?_) (by simp only[er] <;> omega);have bk:Inv X ag σ H {s with heap:=h'}:=I.kept (t':=s.toks) aD;have b0:Inv X ag σ (upd H h'.objs.size (.tup ys)) {s with heap:=h'.push {cls:=.type "tuple",data:=.seq its.toArray} }:=
   bk.laid (t':=s.toks) (λb o e=>c2 _ e) (dD _) (show hr X.prog X.w _ _ _ (.tup ys) from ⟨aq,its,bR,IsTup.new _ _⟩)
  exact⟨.ref h'.objs.size,_,b0,rfl,q _ (bk.b8.fresh (dD _))⟩
 ·obtain⟨its,bR,pl,aq⟩:=I.tuple bK;exact call_tuple_same pl ⟨.ref p,H,I,rfl,q⟩
noncomputable def GX(K:a_)(T:String)(x:V)(H:aw):Prop:=match x with
|.str _=>T="str"
|.int _=>T="int"
|.ref p=>(T="list"/\∃xs,eU K H p xs)\/(T="tuple"/\∃o,K.lookup p=some o/\o.cls=.type "tuple"/\o.dict=none) \/
   (T="dict"/\((∃kvs,H p=some (.e6 kvs))\/∃kvs,H p=some (.mb kvs)))\/(T="set"/\∃S n,H p=some (.set S n))
|_=>False
def P1{ag:List (ah×Obj)}{σ:St}{H:aw}{s:aK}{T:String}{x:V}{v:aj}(I:Inv X ag σ H s)(r:RelV x v)(ty:GX X.K T x H):
  s.TypeIs v T/\∀a,v=.ref a->∃dF,s.heap.get? a=some dF/\dF.dict=none:=by
 cases x with
|str z=>
  obtain⟨t,rfl⟩:=r;cases (show T="str" from ty);exact⟨typeIs_str s z t,λ_ e=>nomatch e⟩
|int i=>
  obtain⟨t,rfl⟩:=r;cases (show T="int" from ty);exact⟨typeIs_int s i t,λ_ e=>nomatch e⟩
|ref p=>
  cases r
  rcases ty with ⟨rfl,xs,bK⟩|⟨rfl,o,aI,ay,hd⟩|⟨rfl,aI⟩|⟨rfl,S,n,aI⟩
  ·obtain⟨its,_,pl,_⟩:=I.list bK;refine⟨pl.isList.typeIs,λa e=>?_⟩;cases e;obtain⟨o,n,e,c,hd,_⟩:=pl;exact⟨o,e,hd⟩
  ·refine⟨⟨o,I.kh p o aI,ay⟩,λa e=>?_⟩
   cases e
   exact⟨o,I.kh _ o aI,hd⟩
  ·have z:∃o,s.heap.get? p=some o/\o.ExactDict:=by
    rcases aI with ⟨kvs,aI⟩|⟨kvs,aI⟩
    ·obtain⟨_,_,_,_,o,_,_,e,ex,_⟩:=I.b8 p _ aI;exact⟨o,e,ex⟩
    ·obtain⟨_,_,_,_,o,_,_,e,ex,_⟩:=I.b8 p _ aI;exact⟨o,e,ex⟩
   obtain⟨o,e,ex⟩:=z;refine⟨⟨o,e,ex.1⟩,λa aS=>?_⟩;cases aS;exact⟨o,e,ex.2.1⟩
  ·obtain⟨o,_,_,_,e,ex,_⟩:=I.b8 p _ aI;refine⟨⟨o,e,ex.1⟩,λa aS=>?_⟩;cases aS;exact⟨o,e,ex.2.1⟩
|_=>exact k3 ty
noncomputable def abh(K:a_)(T:String)(r:V->List V->aw->c6->Prop)(to:TE):TE:=λσ H Q=>to σ H λx H1=>GX K T x H1/\r x [] H1 Q
noncomputable def abg(K:a_)(T:String)(r:V->List V->aw->c6->Prop)(to:TE)(t:fY):TE:=λσ H Q=>to σ H λx H1=>GX K T x H1/\t σ H1 λxs a'=>r x xs a' Q
variable {o e:bz}{es:List bz}{to:TE}{t:fY}{name:Str}{apos fI:Pos}{T id:String}{r:V->List V->aw->c6->Prop}
def agC(Gi:PlainAttrs T)(slot:Slot T name id)(D5:typeOf (.builtin id)=pure (.type "method_descriptor"))(hm:JC X id r)(aF:bU X o to)
  (oc:jJ o name X.env (eval o X.env)=eval o X.env:=by rfl) (og:(apos.endLine==fI.line)=true:=by rfl):bU X (.Call (.Attribute o name apos) [] [] fI) (abh X.K T r to):=by
 intro ag s σ H Q I h;refine wpAny_Call_method0_late oc og (ct (aF ag s σ H _ I h) λv s1 ⟨x,H1,bk,aO,ty,aP⟩=>?_);obtain⟨ab,ak⟩:=P1 bk aO ty;exact⟨T,id,Gi,slot,D5,ab,ak,Calls.callWith_builtin rfl (PySem.evalArgs_none (hm ag s1 σ H1 x [] v [] Q bk aO .nil aP))⟩
def QI(Gi:PlainAttrs T)(slot:Slot T name id)(D5:typeOf (.builtin id)=pure (.type "method_descriptor"))(hm:JC X id r)(aF:bU X o to)(ax:ia X (e::es) t)
  (oc:jJ o name X.env (eval o X.env)=eval o X.env:=by rfl)
  (uT:((ee fI (bS (e::es) X.env)).all (λx=>!x.1) && (backToKw fI (nI [] X.env)).all (λx=>x.1.isSome)
   && decide ((e::es).length+([]:List Keyword).length+(if ([]:List Keyword).isEmpty then 0 else 1)<30))=true:=by rfl)
  (og:(apos.endLine==fI.line)=true:=by rfl) (az:bS (e::es) X.env=(false,eval e X.env)::bS es X.env:=by rfl) (u0:(ee fI (bS es X.env)).any (·.1)=false:=by rfl):
  bU X (.Call (.Attribute o name apos) (e::es) [] fI) (abg X.K T r to t):=by
 intro ag s σ H Q I h;refine wpAny_Call_method_late oc uT og rfl (ct (aF ag s σ H _ I h) λv s1 ⟨x,H1,bk,aO,ty,aP⟩=>?_);obtain⟨ab,ak⟩:=P1 bk aO ty;refine⟨T,id,Gi,slot,D5,ab,ak,?_⟩;have n':=ax fI ag s1 σ H1 _ bk aP;rw[az] at n' ⊢;refine Calls.callWith_builtin (by show (false || (ee fI (bS es X.env)).any (·.1))=false;rw[u0] <;> rfl) (Calls.evalArgs_plain ?_);exact ct n' λus s2 ⟨vs,a',b0,a4,ba⟩=>hm ag s2 σ a' x vs v us Q b0 aO a4 ba
end
end bc
namespace bc
open PySem PySem.Spec PyProof.Rows
noncomputable def Bv(X:bj)(id:String)(r:V->List V->aw->c6->Prop):Prop:=
 ∀(ag:List (ah×Obj)) (s:aK) (σ:St) (H:aw) (x:V) (xs:List V) (v:aj) (us:List aj) (Q:c6),Inv X ag σ H s->RelV x v->Vals xs us->r x xs H Q ->
  bp (bL X.prog X.w) X.A (call (.builtin id) (v::us)) (ht X ag σ Q) X.dG s
def Vals.one:∀{x:V} {us:List aj},Vals [x] us->∃u,us=[u]/\RelV x u
|_,_,.cons r .nil=>⟨_,rfl,r⟩
def Vals.two:∀{x y:V} {us:List aj},Vals [x,y] us->∃u v,us=[u,v]/\RelV x u/\RelV y v
|_,_,_,.cons r (.cons q .nil)=>⟨_,_,rfl,r,q⟩
theorem Vals.eraseIdx:∀{xs:List V} {us:List aj} (i:Nat),Vals xs us->Vals (xs.eraseIdx i) (us.eraseIdx i)
|_,_,_,.nil=>.nil
|_,_,0,.cons _ t=>t
|_,_,i+1,.cons r t=>.cons r (Vals.eraseIdx i t)
theorem Vals.rep{xs:List V}{us:List aj}(h:Vals xs us):∀k:Nat,Vals (dU k xs).flatten (dU k us).flatten
|0=>.nil
|k+1=>by
  rw[rx,rx,tf,tf];exact Vals.append h (Vals.rep h k)
theorem Oy{α:Type}:∀(l:List α) (i:Nat),(l.eraseIdx i).length<=l.length
| [],_=>dD _
|_::_,0=>gu _
|_::r,i+1=>Nat.succ_le_succ (Oy r i)
theorem foldl_rep(its:List aj):∀(k:Nat) (acc:List aj),
  List.foldl (λaR b4=>aR++b4) acc.toArray (dU k its.toArray)=(acc++(dU k its).flatten).toArray
|0,acc=>by simp
|k+1,acc=>by
  have e:acc.toArray++its.toArray=(acc++its).toArray:=by simp
  have aS:(acc++its)++(dU k its).flatten=acc++(dU (k+1) its).flatten:=by
   rw[rx,tf,vK]
  rw[<- aS,<- foldl_rep its k (acc++its),<- e,rx,List.foldl_cons]
section
variable {X:bj}{ag:List (ah×Obj)}{σ:St}{H:aw}{s:aK}{l b:ah}{xs ys zs:List V}
def Inv.LH{its its':List aj}{n:Nat}{f:Array aj->Array aj}{t':Nat}(I:Inv X ag σ H s)(ig:H l=some (.lst xs))
  (e:s.heap.get? l=some {cls:=.type "list",data:=.seq its.toArray n}) (hf:f its.toArray=its'.toArray) (bq:Vals ys its') (aq:ys.length<=cp):
  Inv X ag σ (upd H l (.lst ys)) {s with heap:=s.heap.update l (Obj.mapSeq f),toks:=t'}:=by
 have q:=PySem.IsL.update e f;rw[hf] at q;refine I.write (x:=l) (e:=l) (by rw[ig];exact trivial) (.inl rfl) (λm7 u aa b7=>(vN s.heap (Obj.mapSeq f) (Ne.symm aa)).trans b7) ⟨_,q⟩ ?_;exact⟨aq,its',_,bq,q⟩
def Inv.sL{its:List aj}{t':Nat}(I:Inv X ag σ H s)(bq:Vals ys its)(aq:ys.length<=cp):
  Inv X ag σ (upd H s.heap.objs.size (.lst ys)) {s with heap:=s.heap.push {cls:=.type "list",data:=.seq its.toArray},toks:=t'}:=
 I.laid (λ_ _ q=>c2 _ q) (dD _) ⟨aq,its,0,bq,g9 _ rfl⟩
theorem Inv.fresh(I:Inv X ag σ H s):H s.heap.objs.size=none:=I.b8.fresh (dD _)
def Inv.LI(I:Inv X ag σ H s)(ig:H l=some (.lst xs)):xs.length<=cp/\∃(its:List aj) (n:Nat),Vals xs its/\xs.length=its.length/\s.heap.get? l=some {cls:=.type "list",data:=.seq its.toArray n}:=by
 obtain⟨z,its,n,r,e⟩:=I.b8 l _ ig;exact⟨z,its,n,r,r.length,e⟩
def aeV{n:Nat}(h:n<=cp):Builtin.List.listTooLong n=false:=by
 unfold Builtin.List.listTooLong;exact decide_eq_false (by omega)
end
section
variable {X:bj}
noncomputable def afv:V->List V->aw->c6->Prop:=λx vs H Q=>∃l xs y,x=.ref l/\vs=[y]/\H l=some (.lst xs)/\xs.length<cp/\Q .fz (upd H l (.lst (xs++[y])))
def HV:Bv X "list.append" afv:=by
 intro ag s σ H x vs v us Q I aU bZ h;obtain⟨l,xs,y,rfl,rfl,ig,aq,q⟩:=h;cases aU;obtain⟨u,rfl,dm⟩:=bZ.one;obtain⟨z,its,n,r,av,e⟩:=I.LI ig;refine call_meets F.slot_list_append ⟨_,e,rfl⟩ F.entry_list_append (F.args_list_append_2 _ _) (PySem.list_append l its.toArray n u (by rw[er];omega)) ⟨e,?_⟩;refine⟨.fz,_,I.LH (its':=its++[u]) ig e (by simp) (r.append (.cons dm .nil)) ?_,rfl,q⟩;rw[oL,List.length_singleton];omega
def len_rep{α:Type}(xs:List α)(k:Nat):(dU k xs).flatten.length=k*xs.length:=by
 induction k with
|zero=>simp
|succ k b9=>rw[rx,tf,oL,b9,Nat.succ_mul,Nat.add_comm]
end
end bc
namespace Jm
open PySem PySem.W PySem.Calls PyProof.Rows
def ach{P:Params}{h:bT}:∀(ns:List Int) (vs:List aj),WellAll P h vs (ns.map WData.int)->IntsAre vs ns:=by
 intro ns
 induction ns with
|nil=>
  intro vs w;rw[hO] at w;cases w;exact .nil
|cons n ns b9=>
  intro vs w;rw[dC] at w;cases w with
  |cons a b=>
   cases a
   exact .cons _ _ (b9 _ b)
def adW{l:OpenLaw}{n:Nat}(a7:l.most=some n){P:Params}{h:bT}{args:List WData}{vals:List aj}
    (yf:l.row.toRowW.claim.pre args=true) (D6:WellAll P h vals args):
    ∃a vs ns,vals=[Value.ref a]/\args=[WData.list (ns.map WData.int)]/\h.get? a=some {cls:=.type "list",data:=.seq vs.toArray}/\IntsAre vs ns/\ns.length<=n:=by
  have Wq:WShape.hasAll [] args [.list .int]=true:=(pre_splitW yf).1;have ay:l.pre.holds [] {args:=args}=true:=(pre_splitW yf).2;obtain⟨d,r,rfl,ab,ak⟩:=hasAllW_cons Wq;obtain rfl:=hasAllW_nil ak;obtain⟨xs,rfl,bF⟩:=hasW_list ab;obtain⟨ns,rfl⟩:=items_int bF;have hlen:ns.length<=n:=by
    unfold OpenLaw.pre at ay;have cT:(WTm.not (.lt (.lit (.int (n:Int))) (.len (.arg 0)))).holds [] {args:=[.list (ns.map .int)]}=true:=by
      have cT:=(holds_andW ay).1;rw[a7] at cT;exact cT
    have gG:=condW_of cT (w_not (w_lt w_lit (w_len_list (w_arg rfl))));rw[gc] at gG;refine Nat.le_of_not_lt λq=>?_;have eb:(n:Int)<((ns.length:Nat):Int):=by omega
    first
      | (rw[decide_eq_true eb] at gG;exact absurd gG (by decide))
      | (simp at gG;omega)
  cases D6 with
  |cons s_ vE=>
    cases vE
    cases s_ with
    |list aF Vz=>exact⟨_,_,ns,rfl,rfl,aF,ach ns _ Vz,hlen⟩
def ad1(l:OpenLaw)(args:List WData):l.row.toRowW.claim.post args (.bool true) args=true:=
 postW_of (r:=l.row.toRowW) (X:=(true==true))
  (show WShape.has [] (.bool true) .bool=true by first|rfl|decide|simp[WShape.has,WShape.arms,WShape.armsAll])
  (show (WTm.eq .res (.lit (.bool true))).value [] {args:=args,res:=some (.bool true),after:=args}=some (.bool (true==true)) from w_eq_bool (w_res rfl) w_lit) rfl
def Ta{l:OpenLaw}{n:Nat}{q:cF}{loose:List Str}{sf:(Str->Option aj)->bT->Prop}{pg:cv->bT->Prop}{d:DefRec}
  (a7:l.most=some n) (uQ:d.params.defaults=[])
  (call:∀(w:cv) (dq dd:aK) (mg lN:Str->Option aj) (cy:ah) (o:Obj) (pm cd doc:aj) (a:ah) (vs:List aj) (ns:List Int),
   Ground q loose [] sf w dq mg lN dd.heap->pg w dd.heap ->
   dd.heap.get? cy=some o->o.data=.func (docDef d.name d.params d.body d.scope pm cd doc)->dd.heap.CodeRec cd d.name->mg d.name=some (.ref cy) ->
   dd.heap.get? a=some {cls:=.type "list",data:=.seq vs.toArray}->IntsAre vs ns->ns.length<=n->dd.gens=#[] ->
   codeAny (bL l.prog w) callerA (.call (.ref cy) ⟨[.ref a],[]⟩) (λr s'=>r=.ok (.ret (.bool true))/\OldK dd.heap s'.heap/\s'.os=dd.os/\AllBare s'.gens) dd):
  WalkO q loose sf pg l.row.toRowW d [] (λf vs=>PySem.call f vs):=by
 intro w dq dd mg lN G Y cy o pm cd doc aip d9 aF hd ik hZ uX bG args vals as yf ahU ah2 D6 ahW;obtain rfl:aip=.none:=Dflts.none hZ uQ;obtain rfl:d9=.none:=Dflts.noKw hZ;obtain⟨a,vs,ns,rfl,rfl,DW,hints,hlen⟩:=adW a7 yf D6;refine enter_call (codeAny_mono (call w dq dd mg lN cy o pm cd doc a vs ns G Y aF (fd_plain hd) ik uX DW hints hlen bG) λr s' bK=>?_);obtain⟨rfl,ak,bF,cT⟩:=bK;exact⟨.inl ⟨.bool true,.bool true,[],rfl,λ_=>rfl,.bool true,ad1 l _,λ_=>⟨List.Pairwise.nil,λ_ hm=>(nomatch hm)⟩⟩,ak,bF,cT⟩
end Jm
namespace bc
open PySem PySem.Spec PyProof.Rows
theorem Of:∀{vs:List aj} {ns:List Int},IntsAre vs ns->Vals (ns.map V.int) vs
|_,_,.nil=>.nil
|_,_,.cons n t h=>.cons ⟨t,rfl⟩ (Of h)
def Bx(H:aw):Prop:=∀b,H b=none\/∃o xs,H b=some (.nh o (.lst xs))
def ae2{P:cF}{w:cv}{K:a_}{mg lN:Str->Option aj}{dV:ll}{k:Nat}{cy a:ah}{fd:fU}{x:Str}{sp:jR}{dd:aK}{vs:List aj}{ns:List Int}
  (m2:K.In dd.heap) (sG:dd.heap.Ns j2 mg) (aa:dd.heap.Ns builtinsNs lN) (VD:∀x:Str,x≠"__name__"->lN x=bootBuiltins x) (V_:dd.heap.NoLimit) (bG:dd.gens=#[])
  (ax:dd.heap.get? a=some {cls:=.type "list",data:=.seq vs.toArray}) (aJ:IntsAre vs ns) (av:ns.length<=cp) (aC:dO k callerA)
  (F:∀base:bT,K.In base->base.Ns j2 mg->eT P w K mg base dV k cy fd [x] sp) (VE:∀(s:aK) (u:aj),BindsTo s fd ⟨[u],[]⟩ [(x,u)])
  (pI:∀H:aw,Bx H->eU K H a (ns.map V.int)->sp [.ref a] H (λv _=>v=.c0 true) λ_ _ _=>False)
  (Dt:∀H e s',dV [] H dd (λ_ _ _=>False) e s'->False):
  codeAny (bL P w) callerA (.call (.ref cy) ⟨[.ref a],[]⟩) (λr s'=>r=.ok (.ret (.bool true))/\OldK dd.heap s'.heap/\s'.os=dd.os/\AllBare s'.gens) dd:=by
 have bZ:=Of aJ;have XQ:=aJ.length;have core:∀H:aw,Bx H->eU K H a (ns.map V.int)->e2 P w H dd.heap->(∀b,H b≠none->b=a)->(H a≠none->K.lookup a=none) ->
   codeAny (bL P w) callerA (.call (.ref cy) ⟨[.ref a],[]⟩) (λr s'=>r=.ok (.ret (.bool true))/\OldK dd.heap s'.heap/\s'.os=dd.os/\AllBare s'.gens) dd:=by
  intro H ih eP b8 n' hC;have JL:∀{b:ah} {o:Obj},dd.heap.get? b=some o->H b=none->(oe dd.heap H).get? b=some o:=λe n=>ae7 e n;have vh:∀{b:ah} {o:Obj} {es:Array DictEntry} {ep:Nat},dd.heap.get? b=some o->o.data=.dict es ep->H b=none:=λ{b o es ep} e d=>by
   cases q:H b with
   |none=>rfl
   |some u=>
    have a9:b=a:=n' b (by rw[q];simp);subst a9;rw[ax] at e;cases e;have d':Data.seq vs.toArray _=Data.dict es ep:=d;cases d'
  have yZ:∀{b:ah} {m:Str->Option aj},dd.heap.Ns b m->(oe dd.heap H).Ns b m:=λ{b m} ⟨o,es,ep,e,d,r⟩=>⟨o,es,ep,JL e (vh e d),d,r⟩;have KW:K.In (oe dd.heap H):=λb o e=>JL (m2 b o e) (by
   cases q:H b with
   |none=>rfl
   |some u=>
    have a9:b=a:=n' b (by rw[q];simp);subst a9;rw[hC (by rw[q];simp)] at e;cases e)
  have Vs:Mod K mg (oe dd.heap H):=⟨KW,yZ sG,⟨lN,yZ aa,VD⟩,let ⟨XZ,ab,ak⟩:=V_;⟨XZ,yZ ab,ak⟩⟩;have ef:qz P w K mg (oe dd.heap H) callerA [] dd H:=⟨rfl,Vs,λb o e=>afM e,Nat.le_of_eq (aec _ _),trivial,λb aa=>absurd (show b∈([]:List ah) from aa) (by simp),b8,.of_eq bG⟩;refine codeAny_mono ((F _ KW (yZ sG)).run callerA [] dd H ⟨[.ref a],[]⟩ [.ref a] [.ref a] _ _ aC ef (VE dd (.ref a)) (.cons rfl .nil) (pI H ih eP)) λr s' h=>?_;cases r with
  |error e=>exact (Dt H e s' h).elim
  |ok ng=>
   cases ng with
   |next=>exact k3 h
   |brk=>exact k3 h
   |cont=>exact k3 h
   |ret u=>
    obtain⟨v,af,os,bare,un,Wj,bR,q⟩:=h;have eb:v=.c0 true:=q;subst eb;obtain rfl:u=Value.bool true:=bR;refine⟨rfl,OldK.of_keep λb o e=>?_,os,bare⟩;cases q:H b with
    |none=>exact un.keep b o e q (by intro z;exact absurd (show b∈([]:List ah) from z) (by simp)) (by simp)
    |some u=>
     rcases ih b with z|⟨dF,xs,z⟩
     ·rw[q] at z;cases z
     ·have h8:=un.ni b dF _ z;obtain⟨aH,_⟩:=b8 b _ z;obtain⟨aS,_⟩:=Wj b _ h8;rw[e] at aH;cases aH;exact aS
 cases aI:K.lookup a with
|some o=>
  have e:=m2 a o aI;rw[ax] at e;cases e;refine core (λ_=>none) (λ_=>.inl rfl) (.inr ⟨_,vs.toArray,_,aI,rfl,rfl,rfl,by rw[er,XQ];exact av,by simpa using bZ⟩) (λb u z=>by have jf:(none:Option dZ)=some u:=z;cases jf) (λb z=>absurd rfl z) λz=>absurd rfl z
|none=>
  refine core (λb=>if b=a then some (.nh {cls:=.type "list",data:=.seq vs.toArray} (.lst (ns.map V.int))) else none) (λb=>?_) (.inl (.inr ⟨{cls:=.type "list",data:=.seq vs.toArray},if_pos rfl⟩)) (λb u z=>?_) (λb z=>?_) λ_=>aI
  ·by_cases aa:b=a
   ·exact .inr ⟨_,_,if_pos aa⟩
   ·exact .inl (if_neg aa)
  ·by_cases aa:b=a
   ·have jf:=(if_pos aa).symm.trans z;cases jf;subst aa;exact⟨ax,by rw[gc];exact av,vs,_,bZ,ax⟩
   ·have jf:=(if_neg aa).symm.trans z;cases jf
  ·by_cases aa:b=a
   ·exact aa
   ·exact absurd (if_neg aa) z
end bc
namespace bc
open PySem PySem.Spec PyProof.Rows
def abV{l:PySem.W.OpenLaw}{n k:Nat}{q:cF}{loose:List Str}{sf:(Str->Option aj)->bT->Prop}{pg:cv->bT->Prop}{d:DefRec}{K:Params->a_}{dV:cv->ll}{sp:cv->jR}{x:Str}
  (a7:l.most=some n) (ye:n<=cp) (uQ:d.params.defaults=[]) (aC:dO k callerA)
  (DA:∀(w:cv) (h:bT),pg w h->(K w.params).In h)
  (F:∀(w:cv) (mg:Str->Option aj) (cy:ah) (h:bT),(K w.params).In h->h.Ns j2 mg->mg d.name=some (.ref cy) ->
   ∃fd:fU,(∀(s:aK) (u:aj),BindsTo s fd ⟨[u],[]⟩ [(x,u)]) /\
    ∀base:bT,(K w.params).In base->base.Ns j2 mg->eT l.prog w (K w.params) mg base (dV w) k cy fd [x] (sp w))
  (pI:∀(w:cv) (H:aw) (a:ah) (ns:List Int),ns.length<=n->Bx H->eU (K w.params) H a (ns.map V.int)->sp w [.ref a] H (λv _=>v=.c0 true) λ_ _ _=>False)
  (Dt:∀(w:cv) (H:aw) (s:aK) (e:aj) (s':aK),dV w [] H s (λ_ _ _=>False) e s'->False):
  PySem.W.WalkO q loose sf pg l.row.toRowW d [] (λf vs=>PySem.call f vs):=by
 refine Jm.Ta a7 uQ λw dq dd mg lN cy o pm cd doc a vs ns G Y aF hd ik uX DW hints hlen bG=>?_
 have m2:=DA w _ Y;obtain⟨fd,aa,Dv⟩:=F w mg cy _ m2 G.T.g uX;exact ae2 m2 G.T.g G.T.b G.T.builtins G.T.nolimit bG DW hints (lW hlen ye) aC Dv aa (λH ih eP=>pI w H a ns hlen ih eP) λH e s'=>Dt w H dd e s'
end bc
namespace bc
open PySem PySem.Spec PyProof.Rows
noncomputable def inClass(s:Stmt)(j:Nat):Stmt:=match s with
|.ClassDef _ _ _ body _ _ _ _ _ _ _=>body.getD j (.Pass ⟨0,0,0,0⟩)
|_=>.Pass ⟨0,0,0,0⟩
noncomputable def tM(s:Stmt):Arguments:=match s with
|.FunctionDef _ a _ _ _ _ _ _ _ _=>a
|_=>{posonlyargs:=[],args:=[],vararg:=none,kwonlyargs:=[],kw_defaults:=[],kwarg:=none,defaults:=[]}
noncomputable def jg(s:Stmt):List Stmt:=match s with
|.FunctionDef _ _ b _ _ _ _ _ _ _=>b
|_=>[]
noncomputable def cb(s:Stmt):Scope:=match s with
|.FunctionDef _ _ _ _ _ _ sc _ _ _=>sc
|_=>{kind:=.function,names:=[],isGenerator:=false,isCoroutine:=false}
abbrev fh:ll:=λ_ _ _ _ _ _=>False
abbrev aio:gC:=λ_ _ _=>False
def o7{X:bj}:Passes fh X aio:=λ_ _ _ _ _ _ _ h=>h.elim
structure cE(K:a_)(x qual:Str)(st:Stmt)(f:ah)(fd:fU):Prop where
 ex:∃(hH:aj) (eZ:Option ah) (d9 doc pm:aj) (an:Option ah) (cS d_:aj) (pO:Array (Option aj)),
  fd=p1 x qual (tM st) (jg st) (cb st) .none d9 doc pm an cS d_/\K.lookup f=some ⟨hH,eZ,.func fd,pO⟩/\PySem.W.codeIn K cS qual=true
 aD:mI K (.ref f)=true
section
variable {P:cF}{w:cv}{K:a_}{mg:Str->Option aj}{base:bT}
def cE.ok{x qual:Str}{st:Stmt}{f:ah}{fd:fU}{N aT:List Str}{k:Nat}{sp:jR}(F:cE K x qual st f fd)(S:cR N aT (cb st))(len:∀vs H Q E,sp vs H Q E->vs.length=aT.length)
  (DE:∀(cS:aj) (A:cY) (outer:List Env) (s:aK) (H:aw) (vs:List V) (Q:c6) (E:gC),dO k (A.deeper (envOfC qual (cb st) s.heap.objs.size f cS))->sp vs H Q E ->
   ∃t,i1 (jv fh P w K mg base N qual (cb st) f cS A outer s H E).kj (jg st) t/\t {bQ:=λ_ af=>Q .fz af,dj:=Q} (start N vs) H):eT P w K mg base fh (k+1) f fd aT sp:=by
 obtain⟨hH,eZ,d9,doc,pm,an,cS,d_,pO,rfl,lk,ik⟩:=F.ex;refine ahC lk ik S len λA outer s H vs Q E aC pI=>?_;obtain⟨t,h,q⟩:=DE cS A outer s H vs Q E aC pI;exact⟨t,h.kj,q⟩
def cE.binds{x qual:Str}{st:Stmt}{f:ah}{fd:fU}{aT:List Str}(F:cE K x qual st f fd)
  (h:∀(d9 doc pm:aj) (an:Option ah) (cS d_:aj) (us:List aj),us.length=aT.length->bindArgs (p1 x qual (tM st) (jg st) (cb st) .none d9 doc pm an cS d_) ⟨us,[]⟩=pure (aT.zip us)):Binds K fd aT []:=by
 obtain⟨hH,eZ,d9,doc,pm,an,cS,d_,pO,rfl,lk,ik⟩:=F.ex;exact .all (h d9 doc pm an cS d_)
def dB{x qual:Str}{st:Stmt}{f:ah}{hH:aj}{eZ an:Option ah}{pO:Array (Option aj)}{d9 doc pm cS d_:aj}(l:K.lookup f=some ⟨hH,eZ,.func (p1 x qual (tM st) (jg st) (cb st) .none d9 doc pm an cS d_),pO⟩)
  (c:PySem.W.codeIn K cS qual=true) (k:mI K (.ref f)=true):cE K x qual st f (p1 x qual (tM st) (jg st) (cb st) .none d9 doc pm an cS d_):=⟨⟨hH,eZ,d9,doc,pm,an,cS,d_,pO,rfl,l,c⟩,k⟩
end
def wV{A:cY}{k:Nat}(aC:dO k A):A.units+1<cLine:=Nat.lt_of_le_of_lt (Nat.add_le_add_left (by decide:1<=64) _) aC.units
section
variable {X:bj}
def a6(i:Nat){x:Str}{pos:Pos}(dk:X.N[i]?=some x:=by rfl)(bq:lu X.env.scope x:=by first|exact Or.inl rfl|exact Or.inr (Or.inl rfl)|exact Or.inr (Or.inr rfl))(hd:(x==("__debug__":Str))=false:=by decide)
  (ik:(x==("__classdict__":Str))=false:=by decide):bU X (.Name x pos) (hJ i):=Qa dk bq hd ik
end
def u7{A B:Prop}(h:B):if false=true then A else B:=by
 rw[if_neg ry];exact h
def aik{A B:Prop}(h:A):if true=true then A else B:=by
 rw[if_pos rfl];exact h
def Sb(H af:aw):Prop:=∀b o,H b=some o->af b=some o
end bc
end
section
namespace D
open PySem
abbrev T:=PyData
def iu(a:T):Bool:=a.canLay0 && decide (a.depth<=60)
def rh(as:List T):Bool:=ks as && decide (jH as<=60)
abbrev Key:=Sum Int Str
inductive gi where
|dp|own|ck
 deriving DecidableEq
inductive aG where
|ae (t:T)|own (ts:List T)|f3 (kvs:List (Key×T))|obj (m:gi) (c:Nat) (ar:List aG)
abbrev Ev:=List (Option aG)
inductive Out where
|bQ (ε:Ev)|dj (t:T)|gT (ε:Ev)|d_ (ε:Ev)|hk (t:T) (ε:Ev)|jB (s:aG)
abbrev bE:=Ev->Option T
abbrev fm:=Ev->Option Bool
abbrev bB:=Ev->Option Out
abbrev iY:=Ev->Option (List T)
abbrev h_:=T->Ev->Option Ev
def big:Nat:=16777216
noncomputable def da:T->T->Option T
|.int i,.int j=>some (.int (i+j))
|.str x,.str y=>if x.length+y.length<=big then some (.str (x++y)) else none
|.tuple xs,.tuple ys=>if xs.length+ys.length<=big then some (.tuple (xs++ys)) else none
|.list xs,.list ys=>if xs.length+ys.length<=big then some (.list (xs++ys)) else none
|_,_=>none
def sR:T->T->Option T
|.int i,.int j=>some (.int (i - j))
|_,_=>none
noncomputable def Bg(i j:Int):Bool:=(decide (-(2 ^ 64)<i) && decide (i<2 ^ 64)) || (decide (-(2 ^ 64)<j) && decide (j<2 ^ 64))
noncomputable def gp:T->T->Option T
|.int i,.int j=>if Bg i j then some (.int (i*j)) else none
|_,_=>none
noncomputable def oDiv:T->T->Option T
|.int i,.int j=>if 0<j/\j<1073741824 then some (.int (i / j)) else none
|_,_=>none
noncomputable def oMod:T->T->Option T
|.int i,.int j=>if 0<j then some (.int (i % j)) else none
|_,_=>none
def pN:T->Option T
|.int i=>some (.int (-i))
|_=>none
noncomputable def gY(n:Nat)(i:Int):Option Nat:=if 0<=i then (if i<n then some i.toNat else none) else if -(n:Int)<=i then some (i+n).toNat else none
def fG{α:Type}(xs:List α)(i:Int):Option α:=(gY xs.length i).bind λj=>xs[j]?
noncomputable def a0:T->T->Option T
|.tuple xs,.int i=>fG xs i
|.list xs,.int i=>fG xs i
|.str x,.int i=>if x.length<=big then (fG x.cps.toList i).map λc=>.str ⟨#[c]⟩ else none
|_,_=>none
def oEq(a b:T):Option T:=if iu a && iu b then some (.bool (mK a b)) else none
def g0(a b:T):Option T:=if iu a && iu b then some (.bool (!PyData.eqv a b)) else none
def i9(a:T):Option T:=some (.bool (match a with|.none=>true|_=>false))
def iV(a:T):Option T:=some (.bool (match a with|.none=>false|_=>true))
def strLt(x y:Str):Bool:=decide (x.cps.toList<y.cps.toList)
noncomputable def oLt:T->T->Option T
|.int i,.int j=>some (.bool (decide (i<j)))
|.str x,.str y=>some (.bool (strLt x y))
|_,_=>none
noncomputable def oLe:T->T->Option T
|.int i,.int j=>some (.bool (decide (i<=j)))
|.str x,.str y=>some (.bool (!strLt y x))
|_,_=>none
noncomputable def i8:T->T->Option T
|.int i,.int j=>some (.bool (decide (j<i)))
|.str x,.str y=>some (.bool (strLt y x))
|_,_=>none
noncomputable def sQ:T->T->Option T
|.int i,.int j=>some (.bool (decide (j<=i)))
|.str x,.str y=>some (.bool (!strLt x y))
|_,_=>none
def ob(x:T)(ts:List T):Bool:=ts.any λy=>mK y x
noncomputable def f_(neg:Bool):T->T->Option T
|x,.tuple ys=>if iu x && rh ys then some (.bool (if neg then !ob x ys else ob x ys)) else none
|x,.list ys=>if iu x && rh ys then some (.bool (if neg then !ob x ys else ob x ys)) else none
|_,_=>none
noncomputable def hj:List T->Option T
| [.tuple xs]=>some (.int xs.length)
| [.list xs]=>some (.int xs.length)
| [.str x]=>if x.length<=big then some (.int x.length) else none
|_=>none
noncomputable def L0:List T->Option T
| [.int i,.int j]=>some (.int (if j<i then j else i))
|_=>none
noncomputable def vj:List T->Option T
| [.int i,.int j]=>some (.int (if j > i then j else i))
|_=>none
noncomputable def fM:List T->Option T
| [.tuple xs]=>some (.tuple xs)
| [.list xs]=>some (.tuple xs)
|_=>none
noncomputable def QM:List T->Option T
| [.tuple xs]=>some (.list xs)
| [.list xs]=>some (.list xs)
|_=>none
noncomputable def LZ:List T->Option T
| [.int i]=>some (.int i)
| [.bool b]=>some (.int (if b then 1 else 0))
|_=>none
noncomputable def cL(n d:Nat):Option Int->Nat
|none=>d
|some v=>(if v<0 then max (v+n) 0 else min v n).toNat
noncomputable def uA{α:Type}(xs:List α)(lo aJ:Option Int):List α:=(xs.drop (cL xs.length 0 lo)).take (cL xs.length xs.length aJ - cL xs.length 0 lo)
noncomputable def Gb(t:T)(lo aJ:Option Int):Option T:=match t with
|.tuple xs=>some (.tuple (uA xs lo aJ))
|.list xs=>some (.list (uA xs lo aJ))
|_=>none
noncomputable def strsOf:List T->Option (List Str)
| []=>some []
|.str x::ts=>(strsOf ts).map λr=>x::r
|_::_=>none
noncomputable def insI(x:Int):List Int->List Int
| []=>[x]
|y::ys=>if x<=y then x::y::ys else y::insI x ys
def sortI:List Int->List Int
| []=>[]
|x::xs=>insI x (sortI xs)
noncomputable def q9(x:Str):List Str->List Str
| []=>[x]
|y::ys=>if !strLt y x then x::y::ys else y::q9 x ys
def jk:List Str->List Str
| []=>[]
|x::xs=>q9 x (jk xs)
def keyOf:T->Option Key
|.int i=>some (.inl i)
|.str x=>some (.inr x)
|_=>none
noncomputable def putD(kvs:List (Key×T))(k:Key)(v:T):List (Key×T):=if kvs.any (λp=>decide (p.1=k)) then kvs.map λp=>if p.1=k then (k,v) else p else kvs++[(k,v)]
noncomputable def getD(kvs:List (Key×T))(k:Key):Option T:=(kvs.find? λp=>decide (p.1=k)).map (·.2)
def ai(t:T):bE:=λ_=>some t
noncomputable def nm(i:Nat):bE:=λε=>match ε[i]? with
|some (some (.ae t))=>some t
|some (some (.own ts))=>some (.list ts)
|_=>none
def aN(i:Nat):bE:=λε=>match ε[i]? with
|some (some (.ae t))=>some t
|_=>none
def eH(o:T->Option T)(f:bE):bE:=λε=>(f ε).bind o
noncomputable def ao(o:T->T->Option T)(f g:bE):bE:=λε=>(f ε).bind λx=>(g ε).bind λy=>o x y
noncomputable def args:List bE->Ev->Option (List T)
| [],_=>some []
|f::ar,ε=>(f ε).bind λt=>(args ar ε).map λts=>t::ts
def bH(o:List T->Option T)(ar:List bE):bE:=λε=>(args ar ε).bind o
noncomputable def bV(ar:List bE):bE:=λε=>(args ar ε).bind λts=>if ts.length<=big then some (.tuple ts) else none
noncomputable def fO(ar:List bE):bE:=λε=>(args ar ε).bind λts=>if ts.length<=big then some (.list ts) else none
noncomputable def opt(f:bE):Ev->Option (Option Int):=λε=>(f ε).bind λt=>match t with|.int i=>some (some i)|_=>none
def optN:Ev->Option (Option Int):=λ_=>some none
noncomputable def slice(f:bE)(lo aJ:Ev->Option (Option Int)):bE:=λε=>(f ε).bind λt=>(lo ε).bind λl=>(aJ ε).bind λh=>Gb t l h
noncomputable def pj(f g:bE):bE:=λε=>(f ε).bind λt=>match t with|.bool true=>g ε|.bool false=>some (.bool false)|_=>none
noncomputable def vn(f g:bE):bE:=λε=>(f ε).bind λt=>match t with|.bool false=>g ε|.bool true=>some (.bool true)|_=>none
noncomputable def chain(o p:T->T->Option T)(f g h:bE):bE:=λε=>(f ε).bind λx=>(g ε).bind λy=>(o x y).bind λr=>match r with
|.bool true=>(h ε).bind λz=>p y z
|.bool false=>some (.bool false)
|_=>none
def bO(f:bE):fm:=λε=>(f ε).bind λt=>match t with|.bool b=>some b|_=>none
noncomputable def jE(f:bE):fm:=λε=>(f ε).bind λt=>match t with|.list ts=>some (!ts.isEmpty)|.tuple ts=>some (!ts.isEmpty)|_=>none
def hS(f g:fm):fm:=λε=>(f ε).bind λb=>if b then g ε else some false
def e0(f g:fm):fm:=λε=>(f ε).bind λb=>if b then some true else g ε
def kW(f:fm):fm:=λε=>(f ε).map λb=>!b
def om(c:fm)(f g:bE):bE:=λε=>(c ε).bind λb=>if b then f ε else g ε
def en(b:Bool):fm:=λ_=>some b
def ofT(c:fm):bE:=λε=>(c ε).map .bool
noncomputable def eN(f:bE):iY:=λε=>(f ε).bind λt=>match t with|.tuple ts=>some ts|.list ts=>some ts|_=>none
noncomputable def kA(f:bE):iY:=λε=>(f ε).bind λt=>match t with|.tuple ts=>some ts|_=>none
noncomputable def km(lo aJ:Int):List T:=(List.range (aJ - lo).toNat).map λ(k:Nat)=>.int (lo+(k:Int))
def qj(i:Int):Bool:=decide (-(2 ^ 62)<=i) && decide (i<2 ^ 62)
noncomputable def ji(f:bE):iY:=λε=>(f ε).bind λt=>match t with|.int j=>if qj j then some (km 0 j) else none|_=>none
def enum(ts:List T):List T:=ts.zipIdx.map λp=>.tuple [.int p.2,p.1]
def ky(f:iY):iY:=λε=>(f ε).map enum
def b2(i:Nat):h_:=λt ε=>some (ε.set i (some (.ae t)))
noncomputable def gm:List h_->List T->Ev->Option Ev
| [],[],ε=>some ε
|g::fj,t::ts,ε=>(g t ε).bind λε'=>gm fj ts ε'
|_,_,_=>none
def eg(fj:List h_):h_:=λt ε=>match t with|.tuple ts=>gm fj ts ε|_=>none
noncomputable def fW(g:h_)(c:fm)(e:bE):List T->Ev->Option (List T)
| [],_=>some []
|t::ts,ε=>(g t ε).bind λfE=>(c fE).bind λb=>if b then (e fE).bind λy=>(fW g c e ts fE).map λys=>y::ys else fW g c e ts fE
noncomputable def jj(own:Nat)(caps:List Nat)(ε:Ev):Ev:=dU own none++caps.map λi=>(ε[i]?).join
noncomputable def comp(own:Nat)(caps:List Nat)(it:iY)(g:h_)(c:fm)(e:bE):bE:=λε=>(it ε).bind λts=>if ts.length<=big then (fW g c e ts (jj own caps ε)).map .list else none
def skip:bB:=λε=>some (.bQ ε)
def seq(a b:bB):bB:=λε=>(a ε).bind λo=>match o with|.bQ ε'=>b ε'|o=>some o
def asg(i:Nat)(f:bE):bB:=λε=>(f ε).map λt=>.bQ (ε.set i (some (.ae t)))
noncomputable def kM(i:Nat)(f:bE):bB:=λε=>(f ε).bind λt=>match t with|.list ts=>some (.bQ (ε.set i (some (.own ts))))|_=>none
def kN(g:h_)(f:bE):bB:=λε=>(f ε).bind λt=>(g t ε).map .bQ
def cU(f:bE):bB:=λε=>(f ε).map .dj
def iff(c:fm)(a b:bB):bB:=λε=>(c ε).bind λx=>if x then a ε else b ε
def brk:bB:=λε=>some (.gT ε)
noncomputable def forL(g:h_)(b:bB):List T->Ev->Option Out
| [],ε=>some (.bQ ε)
|t::ts,ε=>(g t ε).bind λfE=>(b fE).bind λo=>match o with
  |.bQ gP=>forL g b ts gP
  |.d_ gP=>forL g b ts gP
  |.gT gP=>some (.bQ gP)
  |.dj t=>some (.dj t)
  |.hk t gP=>some (.hk t gP)
  |.jB s=>some (.jB s)
def iK(it:iY)(g:h_)(b:bB):bB:=λε=>(it ε).bind λts=>forL g b ts ε
noncomputable def ext(i:Nat)(f:bE):bB:=λε=>match ε[i]? with
|some (some (.own ts))=>(f ε).bind λt=>match t with
  |.list us=>if ts.length+us.length<=big then some (.bQ (ε.set i (some (.own (ts++us))))) else none
  |_=>none
|_=>none
noncomputable def par(i j:Nat)(own:Bool)(f g:bE):bB:=λε=>(f ε).bind λt=>(g ε).bind λu=>if own then (match u with|.list us=>some (.bQ ((ε.set i (some (.ae t))).set j (some (.own us))))|_=>none) else some (.bQ ((ε.set i (some (.ae t))).set j (some (.ae u))))
noncomputable def eI(b:bB)(n:Nat)(as:List T):Option T:=(b ((as.map λt=>some (.ae t))++dU (n - as.length) none)).bind λo=>match o with
|.dj t=>some t
|.bQ _=>some .none
|_=>none
end D
end
section
namespace D
open PySem PySem.Spec PyProof.Rows bc
section
mutual
noncomputable def Rep(K:a_)(F:ah->Prop)(H:aw):T->V->Prop
|.none,v=>v=.fz
|.bool b,v=>v=.c0 b
|.int i,v=>v=.int i
|.str x,v=>v=.str x
|.dict _,_=>False
|.tuple ts,v=>∃a vs,v=.ref a/\df K H a vs/\bh K F H ts vs
|.list ts,v=>∃a vs,v=.ref a/\F a/\fw H a (.lst vs)/\bh K F H ts vs
noncomputable def bh(K:a_)(F:ah->Prop)(H:aw):List T->List V->Prop
| [],vs=>vs=[]
|t::ts,vs=>∃v r,vs=v::r/\Rep K F H t v/\bh K F H ts r
end
section
variable {K:a_}{F aB:ah->Prop}{H af:aw}
mutual
theorem Rep.keep(ab:∀b xs,df K H b xs->df K af b xs)(ak:∀b xs,F b->fw H b (.lst xs)->aB b/\fw af b (.lst xs)):∀{t:T} {v:V},Rep K F H t v->Rep K aB af t v
|.none,v,h=>by simpa [Rep] using h
|.bool _,v,h=>by simpa [Rep] using h
|.dict _,v,h=>by simp[Rep] at h
|.int _,v,h=>by simpa [Rep] using h
|.str _,v,h=>by simpa [Rep] using h
|.tuple ts,v,h=>by
  simp only[Rep] at h ⊢;obtain⟨a,vs,e,q,r⟩:=h;exact⟨a,vs,e,ab _ _ q,bh.keep ab ak r⟩
|.list ts,v,h=>by
  simp only[Rep] at h ⊢;obtain⟨a,vs,e,f,q,r⟩:=h;exact⟨a,vs,e,(ak _ _ f q).1,(ak _ _ f q).2,bh.keep ab ak r⟩
theorem bh.keep(ab:∀b xs,df K H b xs->df K af b xs)(ak:∀b xs,F b->fw H b (.lst xs)->aB b/\fw af b (.lst xs)):∀{ts:List T} {vs:List V},bh K F H ts vs->bh K aB af ts vs
| [],vs,h=>by simpa [bh] using h
|t::ts,vs,h=>by
  simp only[bh] at h ⊢;obtain⟨v,r,e,q,z⟩:=h;exact⟨v,r,e,Rep.keep ab ak q,bh.keep ab ak z⟩
end
def bh.nil:bh K F H [] []:=by simp[bh]
def bh.cons{t:T}{v:V}{ts:List T}{vs:List V}(h:Rep K F H t v)(r:bh K F H ts vs):bh K F H (t::ts) (v::vs):=by
 simp only[bh];exact⟨v,vs,rfl,h,r⟩
theorem bh.length:∀{ts:List T} {vs:List V},bh K F H ts vs->ts.length=vs.length
| [],vs,h=>by
  simp only[bh] at h;subst h;rfl
|t::ts,vs,h=>by
  simp only[bh] at h;obtain⟨v,r,e,q,z⟩:=h;subst e;simp[bh.length z]
theorem bh.get:∀{ts:List T} {vs:List V} {i:Nat} {t:T},bh K F H ts vs->ts[i]?=some t->∃v,vs[i]?=some v/\Rep K F H t v
| [],vs,i,t,h,e=>by simp at e
|x::ts,vs,0,t,h,e=>by
  simp only[bh] at h;obtain⟨v,r,rfl,q,z⟩:=h;simp at e;subst e;exact⟨v,rfl,q⟩
|x::ts,vs,i+1,t,h,e=>by
  simp only[bh] at h;obtain⟨v,r,rfl,q,z⟩:=h;obtain⟨u,ab,ak⟩:=bh.get (i:=i) (t:=t) z (by simpa using e);exact⟨u,by simpa using ab,ak⟩
theorem bh.append:∀{ts us:List T} {vs ws:List V},bh K F H ts vs->bh K F H us ws->bh K F H (ts++us) (vs++ws)
| [],us,vs,ws,h,r=>by
  simp only[bh] at h;subst h;exact r
|t::ts,us,vs,ws,h,r=>by
  simp only[bh] at h;obtain⟨v,z,rfl,q,y⟩:=h;exact bh.cons q (bh.append y r)
theorem bh.take:∀{ts:List T} {vs:List V} (n:Nat),bh K F H ts vs->bh K F H (ts.take n) (vs.take n)
| [],vs,n,h=>by
  simp only[bh] at h;subst h;simpa using bh.nil
|t::ts,vs,0,h=>by simpa using bh.nil
|t::ts,vs,n+1,h=>by
  simp only[bh] at h;obtain⟨v,z,rfl,q,y⟩:=h;simpa using bh.cons q (bh.take n y)
theorem bh.drop:∀{ts:List T} {vs:List V} (n:Nat),bh K F H ts vs->bh K F H (ts.drop n) (vs.drop n)
| [],vs,n,h=>by
  simp only[bh] at h;subst h;simpa using bh.nil
|t::ts,vs,0,h=>by simpa using h
|t::ts,vs,n+1,h=>by
  simp only[bh] at h;obtain⟨v,z,rfl,q,y⟩:=h;simpa using bh.drop n y
end
class cV where
 eJ:List (ah×Str)
 eV:Nat->List Str
 l':Nat->Option ah
noncomputable def xc(H:aw)(b:ah)(q:Str):Prop:=∃aT:Array aj,H b=some (.jZ aT)/\TriplesOk aT.toList/\∀pos xf,codeAmong pos aT.toList=some xf->∃c,xf=.ref c/\H c=some (.ext λh=>h.CodeRec (.ref c) q)
def m6 [t:cV](H:aw):Prop:=∀p∈t.eJ,xc H p.1 p.2
def xc.keep{H af:aw}{b:ah}{q:Str}(h:xc H b q)(eQ:∀a aT,H a=some (.jZ aT)->af a=some (.jZ aT))(dN:∀a nW,H a=some (.ext nW)->af a=some (.ext nW)):xc af b q:=by
 obtain⟨aT,ab,ak,bF⟩:=h;refine⟨aT,eQ _ _ ab,ak,λpos xf e=>?_⟩;obtain⟨c,aH,aS⟩:=bF pos xf e;exact⟨c,aH,dN _ _ aS⟩
variable [cV]
def lq(u:dZ):Prop:=(∃xs,u=.lst xs)\/(∃xs,u=.e6 xs)\/∃C bb ar,u=.ins C bb ar
def lq.cases{P:Prop}{u:dZ}(h:lq u)(ab:∀xs,u=.lst xs->P)(ak:∀xs,u=.e6 xs->P)(bF:∀C bb ar,u=.ins C bb ar->P):P:=by
 rcases h with ⟨xs,e⟩|⟨xs,e⟩|⟨C,bb,ar,e⟩
 ·exact ab xs e
 ·exact ak xs e
 ·exact bF C bb ar e
def m6.MH{H:aw}(h:m6 H){p:ah}{o:dZ}(aL:∀u,H p=some u->lq u):m6 (upd H p o):=λb aa=>
 (h b aa).keep (λa aT e=>by
  have nb:a≠p:=by
   rintro rfl;exact (aL _ e).cases (λ_ z=>by cases z) (λ_ z=>by cases z) (λ_ _ _ z=>by cases z)
  rw[cQ nb];exact e) λa nW e=>by
  have nb:a≠p:=by
   rintro rfl;exact (aL _ e).cases (λ_ z=>by cases z) (λ_ z=>by cases z) (λ_ _ _ z=>by cases z)
  rw[cQ nb];exact e
theorem m6.upd{H:aw}(h:m6 H){p:ah}{o:dZ}(aL:∀u,H p=some u->(∃xs,u=.lst xs)\/∃xs,u=.e6 xs):m6 (upd H p o):=h.MH λu e=>by
 rcases aL u e with z|z
 ·exact .inl z
 ·exact .inr (.inl z)
def m6.new{H:aw}(h:m6 H){p:ah}{o:dZ}(aL:H p=none):m6 (bc.upd H p o):=h.upd λu e=>by rw[aL] at e;cases e
structure fX(F:ah->Prop)(H:aw):Prop where
 C5:∀a,F a->∃o,H a=some o
 pW:m6 H
instance {F:ah->Prop}{H:aw}:CoeFun (fX F H) λ_=>∀a,F a->∃o,H a=some o:=⟨fX.C5⟩
noncomputable def jN(H af:aw):Prop:=∀b o,H b=some o->af b=some o\/∃aT ox,o=.jZ aT/\af b=some (.jZ ox)
def jN.refl(H:aw):jN H H:=λ_ _ h=>.inl h
def jN.ne{H af:aw}(s:jN H af){b:ah}{o:dZ}(e:H b=some o):∃u,af b=some u:=by
 rcases s b o e with h|⟨_,_,_,h⟩
 ·exact⟨_,h⟩
 ·exact⟨_,h⟩
theorem jN.none{H af:aw}(s:jN H af){b:ah}(e:af b=none):H b=none:=by
 cases z:H b with
|none=>rfl
|some o=>
  obtain⟨u,q⟩:=s.ne z;rw[e] at q;cases q
def jN.get{H af:aw}(s:jN H af){b:ah}{o:dZ}(e:H b=some o)(n:∀aT,o≠.jZ aT:=by intro _ z;cases z):af b=some o:=by
 rcases s b o e with h|⟨_,_,z,_⟩
 ·exact h
 ·exact absurd z (n _)
def jN.trans{H H1 a':aw}(a:jN H H1)(b:jN H1 a'):jN H a':=λc o h=>by
 rcases a c o h with q|⟨aT,_M,z,q⟩
 ·exact b c o q
 ·rcases b c _ q with ba|⟨_,oy,h8,ba⟩
  ·exact .inr ⟨aT,_M,z,ba⟩
  ·exact .inr ⟨aT,oy,z,ba⟩
structure Ext(F:ah->Prop)(H:aw)(aB:ah->Prop)(af:aw):Prop where
 same:jN H af
 sub:∀a,F a->aB a
 new:∀a,aB a->F a\/H a=none
 cf:fX aB af
section
variable {K:a_}{F aX dR:ah->Prop}{H H1 a':aw}
theorem Ext.refl(d:fX F H):Ext F H F H:=⟨jN.refl H,λ_ h=>h,λ_ h=>.inl h,d⟩
theorem Ext.trans(a:Ext F H aX H1)(b:Ext aX H1 dR a'):Ext F H dR a':=
 ⟨a.same.trans b.same,λx h=>b.sub x (a.sub x h),λx h=>(b.new x h).elim (λz=>a.new x z) λz=>.inr (a.same.none z),b.cf⟩
def fw.same{a:ah}{u:dZ}(s:jN H H1)(r:fw H a u)(n:∀aT,u≠.jZ aT:=by intro _ z;cases z):fw H1 a u:=by
 rcases r with r|⟨o,r⟩
 ·exact .inl (s.get r n)
 ·exact .inr ⟨o,s.get r⟩
theorem df.same{a:ah}{xs:List V}(s:jN H H1)(r:df K H a xs):df K H1 a xs:=by
 rcases r with r|r
 ·exact .inl (fw.same s r)
 ·exact .inr r
def Rep.ext{t:T}{v:V}(r:Rep K F H t v)(x:Ext F H aX H1):Rep K aX H1 t v:=r.keep (λ_ _ q=>df.same x.same q) λb _ f q=>⟨x.sub b f,fw.same x.same q⟩
def bh.ext{t:List T}{v:List V}(r:bh K F H t v)(x:Ext F H aX H1):bh K aX H1 t v:=r.keep (λ_ _ q=>df.same x.same q) λb _ f q=>⟨x.sub b f,fw.same x.same q⟩
def Ext.laid{p:ah}{o:dZ}(d:fX F H)(aL:H p=none):Ext F H F (upd H p o):=
 ⟨λb u q=>.inl (za aL o b u q),λ_ h=>h,λ_ h=>.inl h,⟨λa h=>by
  obtain⟨u,e⟩:=d a h;exact⟨u,za aL o a u e⟩,d.pW.new aL⟩⟩
where za {H:aw} {p:ah} (h:H p=none) (o:dZ):Sb H (upd H p o):=λb u q=>by rw[cQ (jK q h)];exact q
def Ext.yT{p:ah}{o:dZ}(d:fX F H)(aL:H p=none):Ext F H (λa=>F a\/a=p) (upd H p o):=
 ⟨λb u q=>.inl (Ext.laid.za aL o b u q),λ_ h=>.inl h,λa h=>by
  rcases h with h|rfl
  ·exact .inl h
  ·exact .inr aL,⟨λa h=>by
  rcases h with h|rfl
  ·obtain⟨u,e⟩:=d a h;exact⟨u,Ext.laid.za aL o a u e⟩
  ·exact⟨o,dY⟩,d.pW.new aL⟩⟩
end
structure c'(K:a_)(F:ah->Prop)(H:aw)(aB:ah->Prop)(af:aw):Prop where
 tup:∀b xs,df K H b xs->df K af b xs
 lst:∀b xs,F b->fw H b (.lst xs)->aB b/\fw af b (.lst xs)
section
variable {K:a_}{F aX dR:ah->Prop}{H H1 a':aw}
def c'.refl:c' K F H F H:=⟨λ_ _ h=>h,λ_ _ f h=>⟨f,h⟩⟩
def c'.trans(a:c' K F H aX H1)(b:c' K aX H1 dR a'):c' K F H dR a':=⟨λx xs h=>b.tup x xs (a.tup x xs h),λx xs f h=>b.lst x xs (a.lst x xs f h).1 (a.lst x xs f h).2⟩
def Ext.aD(x:Ext F H aX H1):c' K F H aX H1:=⟨λ_ _ q=>df.same x.same q,λb _ f q=>⟨x.sub b f,fw.same x.same q⟩⟩
def Rep.aD{t:T}{v:V}(r:Rep K F H t v)(x:c' K F H aX H1):Rep K aX H1 t v:=r.keep x.tup x.lst
def bh.aD{t:List T}{v:List V}(r:bh K F H t v)(x:c' K F H aX H1):bh K aX H1 t v:=r.keep x.tup x.lst
end
noncomputable def fP(K:a_)(O F:ah->Prop)(H:aw)(t:T)(v:V):Prop:=
 Rep K F H t v\/∃ts a vs,t=.list ts/\v=.ref a/\H a=some (.lst vs)/\bh K F H ts vs
section
variable {K:a_}{O F aX:ah->Prop}{H H1:aw}{v:V}
theorem fP.ext{t:T}(r:fP K O F H t v)(x:Ext F H aX H1):fP K O aX H1 t v:=by
 rcases r with r|⟨ts,a,vs,aH,aS,hT,r⟩
 ·exact .inl (r.ext x)
 ·exact .inr ⟨ts,a,vs,aH,aS,x.same.get hT,r.ext x⟩
theorem fP.fz(r:fP K O F H .none v):v=.fz:=by
 rcases r with r|⟨ts,a,vs,aH,_⟩
 ·simpa [Rep] using r
 ·cases aH
theorem fP.c0{b:Bool}(r:fP K O F H (.bool b) v):v=.c0 b:=by
 rcases r with r|⟨ts,a,vs,aH,_⟩
 ·simpa [Rep] using r
 ·cases aH
theorem fP.int{i:Int}(r:fP K O F H (.int i) v):v=.int i:=by
 rcases r with r|⟨ts,a,vs,aH,_⟩
 ·simpa [Rep] using r
 ·cases aH
theorem fP.str{x:Str}(r:fP K O F H (.str x) v):v=.str x:=by
 rcases r with r|⟨ts,a,vs,aH,_⟩
 ·simpa [Rep] using r
 ·cases aH
def fP.tup{ts:List T}(r:fP K O F H (.tuple ts) v):∃a vs,v=.ref a/\df K H a vs/\bh K F H ts vs:=by
 rcases r with r|⟨ts,a,vs,aH,_⟩
 ·simpa [Rep] using r
 ·cases aH
theorem fP.lst{ts:List T}(r:fP K O F H (.list ts) v):∃a vs,v=.ref a/\fw H a (.lst vs)/\bh K F H ts vs:=by
 rcases r with r|⟨us,a,vs,aH,aS,hT,r⟩
 ·simp only[Rep] at r;obtain⟨a,vs,e,_,q,z⟩:=r;exact⟨a,vs,e,q,z⟩
 ·cases aH
  exact⟨a,vs,aS,.inl hT,r⟩
end
noncomputable def dW(K:a_)(F:ah->Prop)(H:aw):List (D.Key×T)->List (D.Key×V)->Prop
| [],vs=>vs=[]
|p::ts,vs=>∃v r,vs=(p.1,v)::r/\Rep K F H p.2 v/\dW K F H ts r
theorem dW.aD{K:a_}{F aB:ah->Prop}{H af:aw}(x:c' K F H aB af):∀{ts:List (D.Key×T)} {vs:List (D.Key×V)},dW K F H ts vs->dW K aB af ts vs
| [],vs,h=>h
|p::ts,vs,h=>by
  obtain⟨v,r,e,q,z⟩:=h;exact⟨v,r,e,q.aD x,dW.aD x z⟩
structure ey where
 h:aw
 hi:ah
def g5:V->List ah
|.ref a=>[a]
|_=>[]
def dM:aG->V->List ah
|.ae _,_=>[]
|_,v=>g5 v
def c7:List aG->List V->List ah
|s::ss,v::vs=>dM s v++c7 ss vs
|_,_=>[]
noncomputable def AZ(H:aw):V->List V
|.ref a=>(match H a with
  |some (.ins _ _ kvs)=>kvs.map (·.2)
  |some (.e6 kvs)=>kvs.map (·.2)
  |_=>[])
|_=>[]
noncomputable def cB(H:aw):aG->V->List ah
|.ae _,_=>[]
|.own _,v=>g5 v
|.f3 _,v=>g5 v
|.obj _ _ ar,v=>g5 v++c7 ar (AZ H v)
noncomputable def hs(H:aw)(a:ah)(c:Nat)(vs:List V):Prop:=vs.length<=(cV.eV c).length/\match cV.l' c with
|some C=>∃bb,H a=some (.ins C bb ((cV.eV c).zip vs))
|none=>H a=some (.e6 (((cV.eV c).zip vs).map λp=>(.inr p.1,p.2)))
noncomputable def kC(K:a_)(F:ah->Prop)(H:aw):aG->V->Prop
|.ae t,v=>Rep K F H t v
|.own ts,v=>∃b us,v=.ref b/\H b=some (.lst us)/\bh K F H ts us
|.f3 kvs,v=>∃b us,v=.ref b/\H b=some (.e6 us)/\dW K F H kvs us
|.obj _ _ _,_=>False
noncomputable def fF(K:a_)(F:ah->Prop)(H:aw):List aG->List V->Prop
| [],vs=>vs=[]
|s::ss,vs=>∃v r,vs=v::r/\kC K F H s v/\fF K F H ss r
noncomputable def uf(E:ey)(O F:ah->Prop)(m:gi)(b:ah):Prop:=¬F b/\match m with
|.dp=>E.h b≠none
|_=>O b
noncomputable def du(K:a_)(E:ey)(O F:ah->Prop)(H:aw):aG->V->Prop
|.ae t,v=>Rep K F H t v
|.own ts,v=>∃a vs,v=.ref a/\¬F a/\O a/\H a=some (.lst vs)/\bh K F H ts vs
|.f3 kvs,v=>∃a vs,v=.ref a/\¬F a/\O a/\H a=some (.e6 vs)/\dW K F H kvs vs
|.obj m c ar,v=>∃a vs,v=.ref a/\hs H a c vs/\fF K F H ar vs/\(a::c7 ar vs).Nodup/\(∀b∈a::c7 ar vs,uf E O F m b)/\(m=.ck->a=E.hi)
def aG.gn:aG->Bool
|.ae _=>false
|.obj .dp _ _=>false
|_=>true
section
variable {K:a_}{F aB O iE:ah->Prop}{H af:aw}{E:ey}
theorem Ip{α β:Type}:∀{xs:List α} {ys:List β},ys.length<=xs.length->(xs.zip ys).map (·.2)=ys
|xs,[],_=>by simp
| [],y::ys,h=>by simp at h
|x::xs,y::ys,h=>by simp[Ip (xs:=xs) (ys:=ys) (by simpa using h)]
def hs.vals{a:ah}{c:Nat}{vs:List V}(h:hs H a c vs):AZ H (.ref a)=vs:=by
 obtain⟨av,h⟩:=h;unfold AZ;split at h
 ·obtain⟨bb,e⟩:=h;simp only[e];exact Ip av
 ·simp only[h,nH];exact Ip av
def hs.mem{a:ah}{c:Nat}{vs:List V}(h:hs H a c vs):∃o,H a=some o/\lq o:=by
 obtain⟨av,h⟩:=h;split at h
 ·obtain⟨bb,e⟩:=h;exact⟨_,e,.inr (.inr ⟨_,_,_,rfl⟩)⟩
 ·exact⟨_,h,.inr (.inl ⟨_,rfl⟩)⟩
def hs.keep{a:ah}{c:Nat}{vs:List V}(h:hs H a c vs)(e:af a=H a):hs af a c vs:=by
 obtain⟨av,h⟩:=h;refine⟨av,?_⟩;rw[e];exact h
def tS{v:V}{b:ah}(h:b∈g5 v):v=.ref b:=by
 unfold g5 at h;split at h
 ·simp at h;rw[h]
 ·simp at h
theorem kC.at{s:aG}{v:V}{b:ah}(r:kC K F H s v)(h:b∈dM s v):∃o,H b=some o/\lq o:=by
 cases s with
|ae t=>simp[dM] at h
|own ts=>
  obtain⟨m7,us,e,gU,_⟩:=r;have:=tS h;rw[e] at this;cases this;exact⟨_,gU,.inl ⟨_,rfl⟩⟩
|f3 ts=>
  obtain⟨m7,us,e,gU,_⟩:=r;have:=tS h;rw[e] at this;cases this;exact⟨_,gU,.inr (.inl ⟨_,rfl⟩)⟩
|obj m c ar=>exact r.elim
theorem fF.at:∀{ar:List aG} {vs:List V} {b:ah},fF K F H ar vs->b∈c7 ar vs->∃o,H b=some o/\lq o
| [],vs,b,r,h=>by simp[c7] at h
|s::ss,vs,b,r,h=>by
  obtain⟨v,z,rfl,aO,a4⟩:=r;rw[show c7 (s::ss) (v::z)=dM s v++c7 ss z from rfl] at h;rcases j4.mp h with h|h
  ·exact aO.at h
  ·exact fF.at a4 h
def iA{m:gi}{c:Nat}{ar:List aG}{a:ah}{vs:List V}(h:hs H a c vs):cB H (.obj m c ar) (.ref a)=a::c7 ar vs:=by
 show g5 (.ref a)++c7 ar (AZ H (.ref a))=_
 rw[h.vals];rfl
theorem du.at{s:aG}{v:V}{b:ah}(r:du K E O F H s v)(h:b∈cB H s v):∃o,H b=some o/\lq o:=by
 cases s with
|ae t=>simp[cB] at h
|own ts=>
  obtain⟨m7,us,e,_,_,gU,_⟩:=r;have:=tS h;rw[e] at this;cases this;exact⟨_,gU,.inl ⟨_,rfl⟩⟩
|f3 ts=>
  obtain⟨m7,us,e,_,_,gU,_⟩:=r;have:=tS h;rw[e] at this;cases this;exact⟨_,gU,.inr (.inl ⟨_,rfl⟩)⟩
|obj m c ar=>
  obtain⟨a,vs,rfl,ax,hf,_⟩:=r;rw[iA ax] at h;rcases cM.mp h with rfl|h
  ·exact ax.mem
  ·exact hf.at h
def du.held{s:aG}{v:V}{b:ah}(r:du K E O F H s v)(h:b∈cB H s v):¬F b/\(s.gn=true->O b)/\(s.gn=false->E.h b≠none):=by
 cases s with
|ae t=>simp[cB] at h
|own ts=>
  obtain⟨m7,us,e,n,o,gU,_⟩:=r;have:=tS h;rw[e] at this;cases this;exact⟨n,λ_=>o,λz=>by cases z⟩
|f3 ts=>
  obtain⟨m7,us,e,n,o,gU,_⟩:=r;have:=tS h;rw[e] at this;cases this;exact⟨n,λ_=>o,λz=>by cases z⟩
|obj m c ar=>
  obtain⟨a,vs,rfl,ax,hf,a8,eR,_⟩:=r;rw[iA ax] at h;obtain⟨n,q⟩:=eR b h;refine⟨n,λz=>?_,λz=>?_⟩
  ·cases m with
   |dp=>cases z
   |own=>exact q
   |ck=>exact q
  ·cases m with
   |dp=>exact q
   |own=>cases z
   |ck=>cases z
def kC.keep{s:aG}{v:V}(r:kC K F H s v)(aD:c' K F H aB af)(c4:∀b∈dM s v,af b=H b):kC K aB af s v:=by
 cases s with
|ae t=>exact Rep.aD r aD
|own ts=>
  obtain⟨b,us,rfl,gU,z⟩:=r;exact⟨b,us,rfl,by rw[c4 b (by simp[dM,g5])];exact gU,z.aD aD⟩
|f3 ts=>
  obtain⟨b,us,rfl,gU,z⟩:=r;exact⟨b,us,rfl,by rw[c4 b (by simp[dM,g5])];exact gU,dW.aD aD z⟩
|obj m c ar=>exact r.elim
theorem fF.keep:∀{ar:List aG} {vs:List V},fF K F H ar vs->c' K F H aB af->(∀b∈c7 ar vs,af b=H b)->fF K aB af ar vs
| [],vs,r,_,_=>r
|s::ss,vs,r,aD,c4=>by
  obtain⟨v,z,rfl,aO,a4⟩:=r;rw[show c7 (s::ss) (v::z)=dM s v++c7 ss z from rfl] at c4;exact⟨v,z,rfl,aO.keep aD λb h=>c4 b (j4.mpr (.inl h)),fF.keep a4 aD λb h=>c4 b (j4.mpr (.inr h))⟩
theorem du.keep{s:aG}{v:V}(r:du K E O F H s v)(aD:c' K F H aB af)(c4:∀b∈cB H s v,af b=H b)(hf:∀b∈cB H s v,aB b->F b)(aF:∀b∈cB H s v,O b->iE b):
  du K E iE aB af s v/\cB af s v=cB H s v:=by
 cases s with
|ae t=>exact⟨Rep.aD r aD,rfl⟩
|own ts=>
  obtain⟨a,vs,rfl,n,o,gU,z⟩:=r;have m:a∈cB H (.own ts) (.ref a):=by simp[cB,g5]
  exact⟨⟨a,vs,rfl,λf=>n (hf a m f),aF a m o,by rw[c4 a m];exact gU,z.aD aD⟩,rfl⟩
|f3 ts=>
  obtain⟨a,vs,rfl,n,o,gU,z⟩:=r;have m:a∈cB H (.f3 ts) (.ref a):=by simp[cB,g5]
  exact⟨⟨a,vs,rfl,λf=>n (hf a m f),aF a m o,by rw[c4 a m];exact gU,dW.aD aD z⟩,rfl⟩
|obj m c ar=>
  obtain⟨a,vs,rfl,ax,aC,a8,eR,hi⟩:=r;rw[iA ax] at c4 hf aF;have lG:hs af a c vs:=ax.keep (c4 a (by simp));refine⟨⟨a,vs,rfl,lG,aC.keep aD λb h=>c4 b (d6 _ h),a8,λb h=>?_,hi⟩,by rw[iA ax,iA lG]⟩;obtain⟨n,q⟩:=eR b h;refine⟨λf=>n (hf b h f),?_⟩;cases m with
  |dp=>exact q
  |own=>exact aF b h q
  |ck=>exact aF b h q
def du.uE{s:aG}{v:V}(r:du K E O F H s v)(x:Ext F H aB af):du K E O aB af s v/\cB af s v=cB H s v:=
 r.keep x.aD (λb h=>by
  obtain⟨o,e,m⟩:=r.at h;rw[e];exact x.same.get e λaT z=>by subst z;exact m.cases (λ_ z=>by cases z) (λ_ z=>by cases z) (λ_ _ _ z=>by cases z)) (λb h f=>by
  rcases x.new b f with z|z
  ·exact z
  ·obtain⟨o,e,_⟩:=r.at h;rw[z] at e;cases e) λ_ _ o=>o
def du.ext{s:aG}{v:V}(r:du K E O F H s v)(x:Ext F H aB af):du K E O aB af s v:=(r.uE x).1
end
structure bN(K:a_)(au:ah->Prop)(E:ey)(O F:ah->Prop)(H:aw)(ε:Ev)(σ:bc.St):Prop where
 len:ε.length=σ.length
 val:∀(i:Nat) (s:aG),ε[i]?=some (some s)->∃v,σ[i]?=some (some v)/\du K E O F H s v
 ne:∀(i j:Nat) (s u:aG) (v w:V),i≠j->ε[i]?=some (some s)->ε[j]?=some (some u)->s.gn=true->u.gn=true->σ[i]?=some (some v)->σ[j]?=some (some w)->∀a∈cB H s v,a∉cB H u w
 ent:Ext au E.h F H
 o0:∀a,O a->E.h a=none
 fr:∀a,H a=none->O a
section
variable {K:a_}{au O F aX:ah->Prop}{E:ey}{H H1:aw}{ε:Ev}{σ:bc.St}
theorem bN.cf(r:bN K au E O F H ε σ):fX F H:=r.ent.cf
theorem bN.ext(r:bN K au E O F H ε σ)(x:Ext F H aX H1):bN K au E O aX H1 ε σ:=
 ⟨r.len,λi s e=>by
  obtain⟨v,ab,ak⟩:=r.val i s e;exact⟨v,ab,ak.ext x⟩,λi j s u v w fk aH aS cD dQ ab ak=>by
  obtain⟨h5,c3,aO⟩:=r.val i s aH;obtain⟨fe,iL,a4⟩:=r.val j u aS;rw[ab] at c3;rw[ak] at iL;cases c3;cases iL;rw[(aO.uE x).2,(a4.uE x).2];exact r.ne i j s u v w fk aH aS cD dQ ab ak,r.ent.trans x,r.o0,λa e=>r.fr a (x.same.none e)⟩
def get_set{α:Type}{l:List (Option α)}{i j:Nat}{x:Option α}{y:α}(h:(l.set i x)[j]?=some (some y)):(i=j/\x=some y/\j<l.length)\/(i≠j/\l[j]?=some (some y)):=by
 rw[rz] at h;by_cases e:i=j
 ·subst e;rw[if_pos rfl] at h;split at h
  next av=>exact .inl ⟨rfl,eB h,av⟩
  next=>cases h
 ·rw[if_neg e] at h;exact .inr ⟨e,h⟩
def It{α:Type}{l:List (Option α)}{i:Nat}{x:Option α}(h:i<l.length):(l.set i x)[i]?=some x:=by
 rw[rz,if_pos rfl,if_pos h]
def Ad{α:Type}{l:List (Option α)}{i j:Nat}{x:Option α}(h:i≠j):(l.set i x)[j]?=l[j]?:=by
 rw[rz,if_neg h]
def bN.setG{s:aG}{v:V}(r:bN K au E O F H ε σ)(i:Nat)(h:du K E O F H s v)(fr:s.gn=true->∀(j:Nat) (u:aG) (w:V),i≠j->ε[j]?=some (some u)->u.gn=true->σ[j]?=some (some w)->∀a∈cB H s v,a∉cB H u w):
  bN K au E O F H (ε.set i (some s)) (σ.set i (some v)):=by
 refine⟨by simp[r.len],λj u e=>?_,λj k u w eK k0 kg aH aS cD dQ ab ak=>?_,r.ent,r.o0,r.fr⟩
 ·rcases get_set e with ⟨rfl,a9,av⟩|⟨ne,a9⟩
  ·cases a9
   exact⟨_,It (by rw[<- r.len];exact av),h⟩
  ·obtain⟨w,ab,ak⟩:=r.val j u a9;exact⟨w,by rw[Ad ne];exact ab,ak⟩
 ·rcases get_set aH with ⟨rfl,a9,av⟩|⟨ne1,f6⟩
  ·rcases get_set aS with ⟨rfl,_,_⟩|⟨ne2,eO⟩
   ·exact absurd rfl kg
   ·rw[It (by rw[<- r.len];exact av)] at ab;rw[Ad ne2] at ak;cases ab;cases a9;exact fr cD k w k0 ne2 eO dQ ak
  ·rw[Ad ne1] at ab;rcases get_set aS with ⟨rfl,a9,av⟩|⟨ne2,eO⟩
   ·rw[It (by rw[<- r.len];exact av)] at ak;cases ak;cases a9;intro a ax aa;exact fr dQ j u eK ne1 f6 cD ab a aa ax
   ·rw[Ad ne2] at ak;exact r.ne j k u w eK k0 kg f6 eO cD dQ ab ak
theorem bN.set{t:T}{v:V}(r:bN K au E O F H ε σ)(i:Nat)(h:Rep K F H t v):bN K au E O F H (ε.set i (some (.ae t))) (σ.set i (some v)):=r.setG (s:=.ae t) i h λz=>by cases z
def bN.GJ{s:aG}{v:V}(r:bN K au E O F H ε σ)(i:Nat)(x:Ext F H aX H1)(h:du K E O aX H1 s v)(a7:∀a∈cB H1 s v,H a=none):bN K au E O aX H1 (ε.set i (some s)) (σ.set i (some v)):=
 (r.ext x).setG i h λ_ j u w _ qP _ bC a ax aa=>by
  obtain⟨fe,ab,ak⟩:=r.val j u qP;rw[bC] at ab;cases ab;rw[(ak.uE x).2] at aa;obtain⟨o,e,_⟩:=ak.at aa;rw[a7 a ax] at e;cases e
def bN.drop(r:bN K au E O F H ε σ)(i:Nat):bN K au E O F H (ε.set i none) σ:=
 ⟨by simp[r.len],λj s e=>by
  rcases get_set e with ⟨_,a9,_⟩|⟨_,a9⟩
  ·cases a9
  ·exact r.val j s a9,λj k s u v w kg aH aS=>by
  rcases get_set aH with ⟨_,a9,_⟩|⟨_,f6⟩
  ·cases a9
  ·rcases get_set aS with ⟨_,a9,_⟩|⟨_,eO⟩
   ·cases a9
   ·exact r.ne j k s u v w kg f6 eO,r.ent,r.o0,r.fr⟩
def PH{x:ah}{o o':dZ}(a7:¬F x)(hx:H x=some o)(hm:lq o):c' K F H F (upd H x o'):=by
 refine⟨λb xs q=>?_,λb xs f q=>⟨f,?_⟩⟩
 ·rcases q with q|q
  ·refine .inl ?_
   have nb:b≠x:=by
    rintro rfl;rcases q with q|⟨_,q⟩ <;> (rw[hx] at q;cases q;exact hm.cases (λ_ z=>by cases z) (λ_ z=>by cases z) (λ_ _ _ z=>by cases z))
   rcases q with q|⟨u,q⟩
   ·exact .inl (by rw[cQ nb];exact q)
   ·exact .inr ⟨u,by rw[cQ nb];exact q⟩
  ·exact .inr q
 ·have nb:b≠x:=by
   rintro rfl;exact a7 f
  rcases q with q|⟨u,q⟩
  ·exact .inl (by rw[cQ nb];exact q)
  ·exact .inr ⟨u,by rw[cQ nb];exact q⟩
def Pg{x:ah}{o o':dZ}{h0:aw}(e:Ext au h0 F H)(Vm:h0 x=none)(a7:¬F x)(hx:H x=some o)(hm:lq o):Ext au h0 F (upd H x o'):=by
 refine⟨λb u q=>?_,e.sub,e.new,⟨λb f=>?_,e.cf.pW.MH λu z=>by rw[hx] at z;cases z;exact hm⟩⟩
 ·have nb:b≠x:=by
   rintro rfl;rw[Vm] at q;cases q
  rw[cQ nb];exact e.same b u q
 ·have nb:b≠x:=by
   rintro rfl;exact a7 f
  rw[cQ nb];exact e.cf b f
def bN.yV{s s':aG}{v:V}{x:ah}{o':dZ}(r:bN K au E O F H ε σ){i:Nat}(e:ε[i]?=some (some s))(aF:s.gn=true)(bq:σ[i]?=some (some v))(hx:x∈cB H s v)
  (h:c' K F H F (upd H x o')->du K E O F (upd H x o') s' v)
  (aL:∀b∈cB (upd H x o') s' v,b∈cB H s v\/∀(j:Nat) (u:aG) (w:V),i≠j->ε[j]?=some (some u)->u.gn=true->σ[j]?=some (some w)->b∉cB H u w):
  c' K F H F (upd H x o')/\bN K au E O F (upd H x o') (ε.set i (some s')) σ:=by
 obtain⟨h5,q5,rs⟩:=r.val i s e;rw[bq] at q5;cases q5;obtain⟨o,eF,hm⟩:=rs.at hx;obtain⟨ny,ih,_⟩:=rs.held hx;have Vt:=ih aF;have aD:c' K F H F (upd H x o'):=PH ny eF hm;have h0:=r.o0 x Vt;have keep:∀(j:Nat) (u:aG) (w:V),i≠j->ε[j]?=some (some u)->σ[j]?=some (some w)->du K E O F H u w->du K E O F (upd H x o') u w/\cB (upd H x o') u w=cB H u w:=by
  intro j u w fk qP bC dm;refine dm.keep aD (λb aa=>cQ ?_) (λ_ _ f=>f) λ_ _ o=>o;rintro rfl;cases pP:u.gn with
  |true=>exact r.ne i j s u v w fk e qP aF pP bq bC b hx aa
  |false=>exact (dm.held aa).2.2 pP h0
 refine⟨aD,⟨by simp[r.len],λj u a9=>?_,λj k u w eK k0 kg aH aS cD dQ ab ak=>?_,Pg r.ent h0 ny eF hm,r.o0,λb a9=>r.fr b ?_⟩⟩
 ·rcases get_set a9 with ⟨rfl,n9,av⟩|⟨ne,n9⟩
  ·cases n9
   exact⟨_,bq,h aD⟩
  ·obtain⟨w,ab,ak⟩:=r.val j u n9;exact⟨w,ab,(keep j u w ne n9 ab ak).1⟩
 ·rcases get_set aH with ⟨rfl,a9,av⟩|⟨ne1,f6⟩
  ·rcases get_set aS with ⟨rfl,_,_⟩|⟨ne2,eO⟩
   ·exact absurd rfl kg
   ·cases a9
    rw[bq] at ab;cases ab;obtain⟨fe,iL,a4⟩:=r.val k w eO;rw[ak] at iL;cases iL;rw[(keep k w k0 ne2 eO ak a4).2];intro a ax aa;rcases aL a ax with z|z
    ·exact r.ne i k s w v k0 ne2 e eO aF dQ bq ak a z aa
    ·exact z k w k0 ne2 eO dQ ak aa
  ·obtain⟨v1,c3,aO⟩:=r.val j u f6;rw[ab] at c3;cases c3;rw[(keep j u eK ne1 f6 ab aO).2];rcases get_set aS with ⟨rfl,a9,av⟩|⟨ne2,eO⟩
   ·cases a9
    rw[bq] at ak;cases ak;intro a ax aa;rcases aL a aa with z|z
    ·exact r.ne i j s u v eK ne1 e f6 aF cD bq ab a z ax
    ·exact z j u eK ne1 f6 cD ab ax
   ·obtain⟨fe,iL,a4⟩:=r.val k w eO;rw[ak] at iL;cases iL;rw[(keep k w k0 ne2 eO ak a4).2];exact r.ne j k u w eK k0 kg f6 eO cD dQ ab ak
 ·by_cases nb:b=x
  ·subst nb;rw[dY] at a9;cases a9
  ·rwa [cQ nb] at a9
def bN.mut{s s':aG}{a:ah}{o o':dZ}(r:bN K au E O F H ε σ){i:Nat}(e:ε[i]?=some (some s))(aF:s.gn=true)(bq:σ[i]?=some (some (.ref a)))(a7:¬F a)(jx:O a)(ax:H a=some o)
  (aI:(∃xs,o=.lst xs)\/∃xs,o=.e6 xs) (h:c' K F H F (upd H a o')->du K E O F (upd H a o') s' (.ref a)) (f1:∀H:aw,cB H s (.ref a)=[a]:=by intro _;rfl) (f2:∀H:aw,cB H s' (.ref a)=[a]:=by intro _;rfl):
  c' K F H F (upd H a o')/\bN K au E O F (upd H a o') (ε.set i (some s')) σ:=
 r.yV e aF bq (by rw[f1];simp) h λb aa=>by
  rw[f2] at aa;rw[f1];exact .inl aa
end
noncomputable def GP(K:a_)(f:bE):TE:=λσ H Q=>∃au aQ O F ε t,bN K au aQ O F H ε σ/\f ε=some t/\∀v aB af,Ext F H aB af->fP K O aB af t v->Q v af
noncomputable def GQ(K:a_)(f:bE):TE:=λσ H Q=>∃au aQ O F ε t,bN K au aQ O F H ε σ/\f ε=some t/\∀v aB af,Ext F H aB af->Rep K aB af t v->Q v af
noncomputable def tN(K:a_)(f:bE):TE:=λσ H Q=>∃au aQ O F ε ts,bN K au aQ O F H ε σ/\f ε=some (.list ts)/\∀a vs aB af,Ext F H aB af->H a=none->¬aB a->af a=some (.lst vs)->bh K aB af ts vs->Q (.ref a) af
noncomputable def jc(K:a_)(f:fm):TT:=λσ H Q=>∃au aQ O F ε b,bN K au aQ O F H ε σ/\f ε=some b/\∀aB af,Ext F H aB af->Q b af
noncomputable def My(K:a_)(ar:List bE):fY:=λσ H Q=>∃au aQ O F ε ts,bN K au aQ O F H ε σ/\args ar ε=some ts/\∀vs aB af,Ext F H aB af->Paired (fP K O aB af) ts vs->Q vs af
noncomputable def abe(K:a_)(ar:List bE):fY:=λσ H Q=>∃au aQ O F ε ts,bN K au aQ O F H ε σ/\args ar ε=some ts/\∀vs aB af,Ext F H aB af->bh K aB af ts vs->Q vs af
abbrev ek(X:bj)(e:bz)(f:bE):Prop:=bU X e (GP X.K f)
abbrev cC(X:bj)(e:bz)(f:bE):Prop:=bU X e (GQ X.K f)
abbrev qF(X:bj)(e:bz)(f:bE):Prop:=bU X e (tN X.K f)
abbrev kd(X:bj)(e:bz)(f:fm):Prop:=kc X e (jc X.K f)
abbrev qK(X:bj)(e:bz)(f:fm):Prop:=l9 X e (jc X.K f)
abbrev sd(X:bj)(es:List bz)(ar:List bE):Prop:=ia X es (My X.K ar)
abbrev kJ(X:bj)(es:List bz)(ar:List bE):Prop:=ia X es (abe X.K ar)
def d7{X:bj}{e:bz}{t t':TE}(h:bU X e t)(k:∀σ H Q,t' σ H Q->t σ H Q):bU X e t':=λag s σ H Q I q=>h ag s σ H Q I (k σ H Q q)
def wO{X:bj}{e:bz}{t t':TT}(h:kc X e t)(k:∀σ H Q,t' σ H Q->t σ H Q):kc X e t':=λag s σ H Q I q=>h ag s σ H Q I (k σ H Q q)
def Qx{X:bj}{e:bz}{t t':TT}(h:l9 X e t)(k:∀σ H Q,t' σ H Q->t σ H Q):l9 X e t':=λw ag s σ H Q I q=>h w ag s σ H Q I (k σ H Q q)
def Ba{X:bj}{e:List bz}{t t':fY}(h:ia X e t)(k:∀σ H Q,t' σ H Q->t σ H Q):ia X e t':=λpos ag s σ H Q I q=>h pos ag s σ H Q I (k σ H Q q)
def fN{X:bj}{e:Stmt}{t t':fZ}(h:hQ X e t)(k:∀D σ H,t' D σ H->t D σ H):hQ X e t':=λag s σ H D I q=>h ag s σ H D I (k D σ H q)
def tP{X:bj}{e:List Stmt}{t t':fZ}(h:i1 X e t)(k:∀D σ H,t' D σ H->t D σ H):i1 X e t':=λag s σ H D I q=>h ag s σ H D I (k D σ H q)
section
variable {X:bj}{e:bz}{f:bE}
def aA(h:cC X e f):ek X e f:=d7 h λσ H Q ⟨au,aQ,O,F,ε,t,r,e,k⟩=>⟨au,aQ,O,F,ε,t,r,e,λv aB af x q=>k v aB af x (.inl q)⟩
def LM(h:qF X e f)(hf:∀ε t,f ε=some t->∃ts,t=.list ts):cC X e f:=d7 h λσ H Q ⟨au,aQ,O,F,ε,t,r,e,k⟩=>by
 obtain⟨ts,rfl⟩:=hf _ _ e;refine⟨au,aQ,O,F,ε,ts,r,e,λa vs aB af x a7 gZ ax q=>?_⟩;have y:Ext F H (λb=>aB b\/b=a) af:=⟨x.same,λb z=>.inl (x.sub b z),λb z=>by
  rcases z with z|rfl
  ·exact x.new b z
  ·exact .inr a7,⟨λb z=>by
  rcases z with z|rfl
  ·exact x.cf b z
  ·exact⟨_,ax⟩,x.cf.pW⟩⟩
 refine k (.ref a) _ af y ?_
 simp only[Rep];exact⟨a,vs,rfl,.inr rfl,.inl ax,q.keep (λ_ _ z=>z) λb _ z w=>⟨.inl z,w⟩⟩
end
end
section
variable [cV]
section
variable {X:bj}{a b c e:bz}{f g h:bE}{pos:Pos}
def tY{t:T}{v:V}(he:bU X e (s6 v))(aC:∀F H,Rep X.K F H t v):cC X e (ai t):=d7 he λσ H Q ⟨au,aQ,O,F,ε,t',r,e,k⟩=>by
 cases e
 exact k v F H (Ext.refl r.cf) (aC _ _)
def aZ{i j}:cC X (.Constant (.int i) j pos) (ai (.int i)):=tY agB λ_ _=>by simp[Rep]
def vp{i j}:cC X (.Constant (.bool i) j pos) (ai (.bool i)):=tY ahw λ_ _=>by simp[Rep]
def bX{i j}:cC X (.Constant (.str i) j pos) (ai (.str i)):=tY agy λ_ _=>by simp[Rep]
def mX{j}:cC X (.Constant .none j pos) (ai .none):=tY agz λ_ _=>by simp[Rep]
def a5(i:Nat){x:Str}(dk:X.N[i]?=some x:=by rfl)(bq:lu X.env.scope x:=by first|exact Or.inl rfl|exact Or.inr (Or.inl rfl)|exact Or.inr (Or.inr rfl))(hd:(x==("__debug__":Str))=false:=by decide)
  (ik:(x==("__classdict__":Str))=false:=by decide):ek X (.Name x pos) (nm i):=d7 (a6 i dk bq hd ik) λσ H Q ⟨au,aQ,O,F,ε,t,r,e,k⟩=>by
 unfold nm at e;split at e
 next t' he=>
  cases e
  obtain⟨v,ab,ak⟩:=r.val _ _ he;exact⟨v,ab,k v F H (Ext.refl r.cf) (.inl ak)⟩
 next ts he=>
  cases e
  obtain⟨v,ab,a,vs,rfl,n,h0,c4,aC⟩:=r.val _ _ he;exact⟨_,ab,k _ F H (Ext.refl r.cf) (.inr ⟨ts,a,vs,rfl,rfl,c4,aC⟩)⟩
 next=>cases e
def bA(i:Nat){x:Str}(dk:X.N[i]?=some x:=by rfl)(bq:lu X.env.scope x:=by first|exact Or.inl rfl|exact Or.inr (Or.inl rfl)|exact Or.inr (Or.inr rfl))(hd:(x==("__debug__":Str))=false:=by decide)
  (ik:(x==("__classdict__":Str))=false:=by decide):cC X (.Name x pos) (aN i):=d7 (a6 i dk bq hd ik) λσ H Q ⟨au,aQ,O,F,ε,t,r,e,k⟩=>by
 unfold aN at e;split at e
 next t' he=>
  cases e
  obtain⟨v,ab,ak⟩:=r.val _ _ he;exact⟨v,ab,k v F H (Ext.refl r.cf) ak⟩
 next=>cases e
noncomputable def l8(K:a_)(o:T->T->Option T)(R:gj):Prop:=
 ∀(O F:ah->Prop) (H:aw) (x y t:T) (hL hM:V) (Q:c6),fX F H->fP K O F H x hL->fP K O F H y hM->o x y=some t ->
  (∀v aB af,Ext F H aB af->Rep K aB af t v->Q v af)->R hL hM H Q
def oX{o:T->T->Option T}{R:gj}(h:l8 X.K o R):∀σ H Q,GQ X.K (ao o f g) σ H Q->s7 R (GP X.K f) (GP X.K g) σ H Q:=by
 rintro σ H Q ⟨au,aQ,O,F,ε,t,r,e,k⟩;simp only[ao,cg] at e;obtain⟨x,ex,y,fy,eF⟩:=e;refine⟨au,aQ,O,F,ε,x,r,ex,λhL aX H1 aR aU=>⟨au,aQ,O,aX,ε,y,r.ext aR,fy,λhM dR a' b4 bw=>?_⟩⟩;exact h O dR a' x y t hL hM Q b4.cf (aU.ext b4) bw eF λv aB af d5 c9=>k v aB af ((aR.trans b4).trans d5) c9
def Inv.ve{ag:List (ah×Obj)}{σ:bc.St}{H:aw}{s:aK}{l:ah}{xs:List V}(I:Inv X ag σ H s)(ig:fw H l (.lst xs)):
  xs.length<=cp/\∃(its:List aj) (n:Nat),Vals xs its/\xs.length=its.length/\s.heap.get? l=some {cls:=.type "list",data:=.seq its.toArray n}:=by
 obtain⟨z,its,n,r,e⟩:=ig.ok I.b8;exact⟨z,its,n,r,r.length,e⟩
noncomputable def ahm:gj:=λx y H Q=>∃l b xs zs,x=.ref l/\y=.ref b/\fw H l (.lst xs)/\fw H b (.lst zs)/\xs.length+zs.length<=cp/\∀p,H p=none->Q (.ref p) (upd H p (.lst (xs++zs)))
def PE:eE X (k6 .Add) ahm:=by
 intro ag s σ H x y v u Q I aU bw h;obtain⟨l,b,xs,zs,rfl,rfl,ig,Vn,aq,q⟩:=h;cases aU;cases bw;obtain⟨z,its,n,r,av,e⟩:=Inv.ve I ig;obtain⟨h8,lK,f9,a4,yd,aS⟩:=Inv.ve I Vn;refine PySem.P.add_list e aS ?_ (by rw[er,er];omega);have cK:its.toArray++lK.toArray=(its++lK).toArray:=by simp
 rw[cK];exact⟨.ref _,_,I.sL (t':=s.toks) (r.append a4) (by rw[oL];omega),rfl,q _ I.fresh⟩
noncomputable def agm(K:a_):gj:=λx y H Q=>∃a b ys,x=.ref a/\y=.ref b/\df K H a []/\df K H b ys/\Q (.ref b) H
def O':eE X (k6 .Add) (agm X.K):=by
 intro ag s σ H x y v u Q I aU bw h;obtain⟨a,b,ys,rfl,rfl,ax,aa,q⟩:=h;cases aU;cases bw;obtain⟨its,aO,nA,_⟩:=I.tuple ax;obtain⟨lK,a4,fK,_⟩:=I.tuple aa;have uC:its=[]:=aO.yX.mpr rfl;subst uC;obtain⟨⟨cls,eW,data,cI⟩,aF,ay,n,hd⟩:=id nA;obtain⟨⟨C3,lz,data2,ko⟩,q2,uO,f9,hd2⟩:=id fK;simp only at ay hd uO hd2;subst ay hd uO hd2;exact concat_meets ⟨_,aF,rfl⟩ ⟨_,q2,rfl⟩ noFill_tuple_add seq_tuple_add PySem.F.slot_tuple_add PySem.F.entry_tuple_add (PySem.F.args_tuple_add_2 _ _)
   (tuple_addW0 a b ([]:List aj).toArray lK.toArray n f9 eW lz cI ko (by simp)) ⟨aF,q2,⟨.ref b,H,I,rfl,q⟩⟩
def jl:cp=big:=by rw[mM];rfl
def iU(ax:ek X a f)(aa:ek X b g):cC X (.BinOp a .Add b pos) (ao da f g):=
 d7 (r4 (Qe.or (N0.or (O'.or (PD.or PE)))) ax aa) (oX (by
  intro O F H x y t hL hM Q d aU bw e k;unfold da at e;split at e
  ·cases e
   rw[aU.int,bw.int];exact .inl ⟨_,_,rfl,rfl,k _ F H (Ext.refl d) (by simp[Rep])⟩
  ·split at e
   next aq=>
    cases e
    rw[aU.str,bw.str];exact .inr (.inl ⟨_,_,rfl,rfl,by rw[jl];exact aq,k _ F H (Ext.refl d) (by simp[Rep])⟩)
   next=>cases e
  ·split at e
   next xs ys aq=>
    cases e
    obtain⟨n7,vs,rfl,az,aC⟩:=aU.tup;obtain⟨Cj,ws,rfl,iN,jV⟩:=bw.tup;cases xs with
    |nil=>
     simp only[bh] at aC;subst aC;refine .inr (.inr (.inl ⟨_,_,_,rfl,rfl,az,iN,k _ F H (Ext.refl d) ?_⟩));simp only[Rep];exact⟨_,_,rfl,iN,by simpa using jV⟩
    |cons x0 G4=>
     refine .inr (.inr (.inr (.inl ⟨_,_,_,_,rfl,rfl,az,iN,?_,?_,λef=>?_,λef p aL=>?_⟩)))
     ·intro z;subst z;have:=aC.length;simp at this
     ·rw[jl,<- aC.length,<- jV.length];exact aq
     ·refine k _ F H (Ext.refl d) ?_
      subst ef;have aH:ys=[]:=List.eq_nil_of_length_eq_zero (by rw[jV.length];rfl);subst aH;simp only[Rep];exact⟨_,_,rfl,az,by simpa using aC⟩
     ·have aR:=Ext.laid (o:=.tup (vs++ws)) d aL;refine k _ F _ aR ?_;simp only[Rep];exact⟨p,_,rfl,df.of dY,(aC.append jV).ext aR⟩
   next=>cases e
  ·split at e
   next xs ys aq=>
    cases e
    obtain⟨n7,vs,rfl,az,aC⟩:=aU.lst;obtain⟨Cj,ws,rfl,iN,jV⟩:=bw.lst;refine .inr (.inr (.inr (.inr ⟨_,_,_,_,rfl,rfl,az,iN,by rw[jl,<- aC.length,<- jV.length];exact aq,λp aL=>?_⟩)));have aR:=Ext.yT (o:=.lst (vs++ws)) d aL;refine k _ _ _ aR ?_;simp only[Rep];exact⟨p,_,rfl,.inr rfl,.inl dY,(aC.append jV).ext aR⟩
   next=>cases e
  ·cases e))
def QD(ax:ek X a f)(aa:ek X b g):cC X (.BinOp a .Sub b pos) (ao sR f g):=
 d7 (r4 agF ax aa) (oX (by
  intro O F H x y t hL hM Q d aU bw e k;unfold sR at e;split at e
  ·cases e
   rw[aU.int,bw.int];exact⟨_,_,rfl,rfl,k _ F H (Ext.refl d) (by simp[Rep])⟩
  ·cases e))
def qq(ax:ek X a f)(aa:ek X b g):cC X (.BinOp a .Mult b pos) (ao gp f g):=
 d7 (r4 agG ax aa) (oX (by
  intro O F H x y t hL hM Q d aU bw e k;unfold gp at e;split at e
  ·split at e
   next hm=>
    cases e
    rw[aU.int,bw.int];refine⟨_,_,rfl,rfl,?_,k _ F H (Ext.refl d) (by simp[Rep])⟩;simpa [Bg,w1] using hm
   next=>cases e
  ·cases e))
def h9(ax:ek X a f)(aa:ek X b g):cC X (.BinOp a .FloorDiv b pos) (ao oDiv f g):=
 d7 (r4 afL ax aa) (oX (by
  intro O F H x y t hL hM Q d aU bw e k;unfold oDiv at e;split at e
  ·split at e
   next hm=>
    cases e
    rw[aU.int,bw.int];exact⟨_,_,rfl,rfl,hm,k _ F H (Ext.refl d) (by simp[Rep])⟩
   next=>cases e
  ·cases e))
def gf(ax:ek X a f)(aa:ek X b g):cC X (.BinOp a .Mod b pos) (ao oMod f g):=
 d7 (r4 agH ax aa) (oX (by
  intro O F H x y t hL hM Q d aU bw e k;unfold oMod at e;split at e
  ·split at e
   next hm=>
    cases e
    rw[aU.int,bw.int];exact⟨_,_,rfl,rfl,hm,k _ F H (Ext.refl d) (by simp[Rep])⟩
   next=>cases e
  ·cases e))
def b'(ax:ek X a f)(aa:ek X b g)(az:PW b:=by intro _ _;rfl):cC X (.Subscript a b pos) (ao a0 f g):=
 d7 (ahv agS ax aa az) (oX (by
  intro O F H x y t hL hM Q d aU bw e k;unfold a0 at e;split at e
  ·obtain⟨n7,vs,rfl,az,aC⟩:=aU.tup;rw[bw.int];simp only[fG,cg] at e;obtain⟨j,bC,bx⟩:=e;obtain⟨v,bq,bZ⟩:=aC.get bx;refine .inr (.inl ⟨_,_,_,v,rfl,rfl,az,?_,k _ F H (Ext.refl d) bZ⟩);rw[aC.length] at bC;show (nr _ _).bind _=_;rw[show nr vs.length _=some j from bC];exact bq
  ·obtain⟨n7,vs,rfl,az,aC⟩:=aU.lst;rw[bw.int];simp only[fG,cg] at e;obtain⟨j,bC,bx⟩:=e;obtain⟨v,bq,bZ⟩:=aC.get bx;refine .inl ⟨_,_,_,v,rfl,rfl,.inl az,?_,k _ F H (Ext.refl d) bZ⟩;rw[aC.length] at bC;show (nr _ _).bind _=_;rw[show nr vs.length _=some j from bC];exact bq
  ·split at e
   next aq=>
    rw[aU.str,bw.int];simp only[dX] at e;obtain⟨c,ay,rfl⟩:=e;exact .inr (.inr ⟨_,_,c,rfl,rfl,by rw[jl];exact aq,ay,k _ F H (Ext.refl d) (by simp[Rep])⟩)
   next=>cases e
  ·cases e))
end
end
section
variable [cV]
noncomputable def ain(K:a_)(au:ah->Prop)(aQ:ey)(O F:ah->Prop)(H:aw)(D:Ends):Out->Prop
|.bQ ε'=>∀bD aB af,c' K F H aB af->bN K au aQ O aB af ε' bD->D.bQ bD af
|.dj t=>∀v aB af,Ext au aQ.h aB af->Rep K aB af t v->D.dj v af
|.hk t ε'=>∀v bD aB af,bN K au aQ O aB af ε' bD->Rep K aB af t v->D.dj v af
|.jB s=>∀a aB af,Ext au aQ.h aB af->du K aQ O aB af s (.ref a)->D.dj (.ref a) af
|.gT ε'=>∀bD aB af,c' K F H aB af->bN K au aQ O aB af ε' bD->D.gT bD af
|.d_ ε'=>∀bD aB af,c' K F H aB af->bN K au aQ O aB af ε' bD->D.d_ bD af
noncomputable def MC(K:a_)(g:bB):fZ:=λD σ H=>∃au aQ O F ε o,bN K au aQ O F H ε σ/\g ε=some o/\ain K au aQ O F H D o
abbrev gA(X:bj)(s:Stmt)(g:bB):Prop:=hQ X s (MC X.K g)
abbrev iF(X:bj)(s:List Stmt)(g:bB):Prop:=i1 X s (MC X.K g)
def ain.aD{K:a_}{au O F aX:ah->Prop}{aQ:ey}{H H1:aw}{D:Ends}{o:Out}(h:ain K au aQ O F H D o)(x:c' K F H aX H1):ain K au aQ O aX H1 D o:=by
 cases o with
|bQ ε=>exact λbD aB af k r=>h bD aB af (x.trans k) r
|dj t=>exact h
|gT ε=>exact λbD aB af k r=>h bD aB af (x.trans k) r
|d_ ε=>exact λbD aB af k r=>h bD aB af (x.trans k) r
|hk t ε=>exact h
|jB s=>exact h
section
variable {X:bj}{e a b c:bz}{f:bE}{g g':bB}{hY:fm}{st:Stmt}{rest:List Stmt}{pos:Pos}
def fD:iF X [] skip:=tP Px λD σ H ⟨au,aQ,O,F,ε,o,r,e,k⟩=>by
 cases e
 exact k σ F H c'.refl r
def bP(h:gA X st g):iF X [st] g:=AS h
def bM(ab:gA X st g)(ak:iF X rest g'):iF X (st::rest) (seq g g'):=tP (AG ab ak) λD σ H ⟨au,aQ,O,F,ε,o,r,e,k⟩=>by
 simp only[seq,cg] at e;obtain⟨cD,aH,aS⟩:=e;refine⟨au,aQ,O,F,ε,cD,r,aH,?_⟩;cases cD with
|bQ ε'=>exact λbD aB af x bR=>⟨au,aQ,O,aB,ε',o,bR,aS,k.aD x⟩
|dj t=>
  cases aS
  exact k
|gT ε'=>
  cases aS
  exact k
|d_ ε'=>
  cases aS
  exact k
|hk t ε'=>
  cases aS
  exact k
|jB s=>
  cases aS
  exact k
def fl(h:cC X e f):gA X (.Return (some e) pos) (cU f):=fN (rX h) λD σ H ⟨au,aQ,O,F,ε,o,r,e,k⟩=>by
 simp only[cU,dX] at e;obtain⟨t,bx,rfl⟩:=e;exact⟨au,aQ,O,F,ε,t,r,bx,λv aB af x q=>k v aB af (r.ent.trans x) q⟩
def P6(i:Nat){x:Str}{Yc:Pos}(dk:X.N[i]?=some x:=by rfl)(bq:lu X.env.scope x:=by first|exact Or.inl rfl|exact Or.inr (Or.inl rfl)|exact Or.inr (Or.inr rfl))(hd:(x==("__debug__":Str))=false:=by decide)
  (ik:(x==("__classdict__":Str))=false:=by decide):gA X (.Return (some (.Name x Yc)) pos) (cU (nm i)):=fN (rX (a6 i dk bq hd ik)) λD σ H ⟨au,aQ,O,F,ε,o,r,e,k⟩=>by
 simp only[cU,dX] at e;obtain⟨t,bx,rfl⟩:=e;unfold nm at bx;split at bx
 next t' he=>
  cases bx
  obtain⟨v,ab,ak⟩:=r.val _ _ he;exact⟨v,ab,k v F H r.ent ak⟩
 next ts he=>
  cases bx
  obtain⟨v,ab,a,vs,rfl,n,h0,ax,q⟩:=r.val _ _ he;have b4:=r.ent;have y:Ext au aQ.h (λb=>F b\/b=a) H:=⟨b4.same,λb z=>.inl (b4.sub b z),λb z=>by
   rcases z with z|rfl
   ·exact b4.new b z
   ·exact .inr (r.o0 _ h0),⟨λb z=>by
   rcases z with z|rfl
   ·exact b4.cf b z
   ·exact⟨_,ax⟩,b4.cf.pW⟩⟩
  refine⟨_,ab,k _ _ H y ?_⟩
  simp only[Rep];exact⟨a,vs,rfl,.inr rfl,.inl ax,q.keep (λ_ _ z=>z) λb _ z w=>⟨.inl z,w⟩⟩
 next=>cases bx
def dT(ay:kd X c hY)(ax:iF X rest g){uD:List Stmt}(aa:iF X uD g'):gA X (.If c rest uD pos) (iff hY g g'):=fN (QH ay ax aa) λD σ H ⟨au,aQ,O,F,ε,o,r,e,k⟩=>by
 simp only[iff,cg] at e;obtain⟨b,dv,e⟩:=e;refine⟨au,aQ,O,F,ε,b,r,dv,λaB af x=>?_⟩;cases b with
|true=>exact aik ⟨au,aQ,O,aB,ε,o,r.ext x,by simpa using e,k.aD x.aD⟩
|false=>exact u7 ⟨au,aQ,O,aB,ε,o,r.ext x,by simpa using e,k.aD x.aD⟩
def ei(i:Nat){x:Str}{pos':Pos}(dk:X.N.Nodup)(he:cC X e f)(aJ:X.N[i]?=some x:=by rfl)(hx:Loc X.env.scope x:=by first|exact Or.inl rfl|exact Or.inr rfl)
  (az:iS e (some (.Name x pos')) pos.line X.env=pure false:=by rfl) (hf:X.fn x=true\/X.env.scope.names.lookup x=some .local:=by first|exact .inl rfl|exact .inr rfl):
  gA X (.Assign [.Name x pos'] e pos) (asg i f):=fN (A2 dk aJ hx he az hf) λD σ H ⟨au,aQ,O,F,ε,o,r,e,k⟩=>by
 simp only[asg,dX] at e;obtain⟨t,bx,rfl⟩:=e;refine⟨au,aQ,O,F,ε,t,r,bx,λv aB af x q=>?_⟩;exact k _ aB af x.aD ((r.ext x).set i q)
noncomputable def tG(K:a_)(g:h_):lr:=λv σ H Q=>∃au aQ O F ε t ε',bN K au aQ O F H ε σ/\Rep K F H t v/\g t ε=some ε'/\∀bD,bN K au aQ O F H ε' bD->Q bD H
noncomputable def abk(K:a_)(fj:List h_):n4:=λvs σ H Q=>∃au aQ O F ε ts ε',bN K au aQ O F H ε σ/\bh K F H ts vs/\gm fj ts ε=some ε'/\∀bD,bN K au aQ O F H ε' bD->Q bD H
abbrev n3(X:bj)(e:bz)(g:h_):Prop:=n2 X e (tG X.K g)
abbrev xa(X:bj)(es:List bz)(fj:List h_):Prop:=qH X es (abk X.K fj)
def Qz{X:bj}{e:bz}{t t':lr}(h:n2 X e t)(k:∀v σ H Q,t' v σ H Q->t v σ H Q):n2 X e t':=λag s σ H v u Q I r q=>h ag s σ H v u Q I r (k v σ H Q q)
def PX{X:bj}{e:List bz}{t t':n4}(h:qH X e t)(k:∀v σ H Q,t' v σ H Q->t v σ H Q):qH X e t':=λag s σ H v u Q I r q=>h ag s σ H v u Q I r (k v σ H Q q)
def gF(i:Nat){x:Str}(dk:X.N.Nodup)(aJ:X.N[i]?=some x:=by rfl)(hx:Loc X.env.scope x:=by first|exact Or.inl rfl|exact Or.inr rfl)
  (hf:X.fn x=true\/X.env.scope.names.lookup x=some .local:=by first|exact .inl rfl|exact .inr rfl):n3 X (.Name x pos) (b2 i):=Qz (AV dk aJ hx hf) λv σ H Q ⟨au,aQ,O,F,ε,t,ε',r,q,e,k⟩=>by
 cases e
 exact k _ (r.set i q)
def wX:xa X [] []:=PX PA λvs σ H Q ⟨au,aQ,O,F,ε,ts,ε',r,q,e,k⟩=>by
 cases ts with
|nil=>
  cases e
  simp only[bh] at q;exact⟨q,k σ r⟩
|cons t ts=>cases e
def l2{es:List bz}{g:h_}{fj:List h_}(ab:n3 X e g)(ak:xa X es fj)(az:(k5 (e::es) X.env).map (·.2)=assign e X.env::(k5 es X.env).map (·.2):=by rfl):xa X (e::es) (g::fj):=
 PX (Ig ab ak az) λvs σ H Q ⟨au,aQ,O,F,ε,ts,ε',r,q,e,k⟩=>by
 cases ts with
|nil=>cases e
|cons t ts=>
  simp only[gm,cg] at e;obtain⟨fE,aH,aS⟩:=e;simp only[bh] at q;obtain⟨v,GZ,rfl,aP,ba⟩:=q;exact⟨v,GZ,rfl,au,aQ,O,F,ε,t,fE,r,aP,aH,λwZ aO=>⟨au,aQ,O,F,fE,ts,ε',aO,ba,aS,k⟩⟩
theorem Pf:∀{fj:List h_} {ts:List T} {ε ε':Ev},gm fj ts ε=some ε'->ts.length=fj.length
| [],[],_,_,_=>rfl
| [],_::_,_,_,h=>by cases h
|_::_,[],_,_,h=>by cases h
|g::fj,t::ts,ε,ε',h=>by
  simp only[gm,cg] at h;obtain⟨fE,_,h⟩:=h;simp[Pf h]
def wW{es:List bz}{k:Nat}{fj:List h_}(h:xa X es fj)(ay:X.calm=true:=by rfl)(a7:(k5 es X.env).length=fj.length:=by rfl)(jW:(k5 es X.env).findIdx? (·.1)=none:=by rfl):
  n3 X (.Tuple es k pos) (eg fj):=Qz (P' ay h a7 jW) λv σ H Q ⟨au,aQ,O,F,ε,t,ε',r,q,e,k⟩=>by
 unfold eg at e;split at e
 next ts=>
  simp only[Rep] at q;obtain⟨a,vs,rfl,az,aC⟩:=q;exact⟨a,vs,rfl,az,by rw[<- aC.length];exact Pf e,au,aQ,O,F,ε,ts,ε',r,aC,e,k⟩
 next=>cases e
structure nZ(K:a_)(J:kb)(aX:ah->Prop)(H1:aw)(ts:List T):Prop where
 go:∀i F H t,c' K aX H1 F H->fX F H->ts[i]?=some t->J.go i H
 lX:∀i F H t x af,c' K aX H1 F H->fX F H->ts[i]?=some t->J.lX i H x af->∃aB,Ext F H aB af/\Rep K aB af t x
 stop:∀i F H,c' K aX H1 F H->ts.length<=i->J.stop i H
noncomputable def tI(K:a_)(f:iY):TI:=λσ H R=>∃au aQ O F ε ts,bN K au aQ O F H ε σ/\f ε=some ts/\∀J aB af,Ext F H aB af->nZ K J aB af ts->R J af
abbrev m4(X:bj)(cX e:bz)(f:iY):Prop:=pd X cX e (tI X.K f)
def I_{X:bj}{cX e:bz}{t t':TI}(h:pd X cX e t)(k:∀σ H R,t' σ H R->t σ H R):pd X cX e t':=λag s σ H R I q=>h ag s σ H R I (k σ H R q)
def ad'{K:a_}{a:ah}{aX:ah->Prop}{H1:aw}{ts:List T}{vs:List V}(cy:aX a)(aC:fw H1 a (.lst vs))(q:bh K aX H1 ts vs):nZ K (Bt K a) aX H1 ts where
 go:=λi F H t aD d e=>by
  obtain⟨v,ab,_⟩:=q.get e;exact⟨vs,v,.inl (aD.lst _ _ cy aC).2,ab⟩
 lX:=λi F H t x af aD d e y=>by
  obtain⟨rfl,y⟩:=y;obtain⟨v,ab,ak⟩:=(q.aD aD).get e;have:=y vs (.inl (aD.lst _ _ cy aC).2);rw[ab] at this;cases this;exact⟨F,Ext.refl d,ak⟩
 stop:=λi F H aD av=>⟨vs,.inl (aD.lst _ _ cy aC).2,by rw[<- q.length];exact av⟩
def ae3{K:a_}{a:ah}{aX:ah->Prop}{H1:aw}{ts:List T}{vs:List V}(aC:df K H1 a vs)(q:bh K aX H1 ts vs):nZ K (Bu K a) aX H1 ts where
 go:=λi F H t aD d e=>by
  obtain⟨v,ab,_⟩:=q.get e;exact⟨vs,v,aD.tup _ _ aC,ab⟩
 lX:=λi F H t x af aD d e y=>by
  obtain⟨rfl,y⟩:=y;obtain⟨v,ab,ak⟩:=(q.aD aD).get e;have:=y vs (aD.tup _ _ aC);rw[ab] at this;cases this;exact⟨F,Ext.refl d,ak⟩
 stop:=λi F H aD av=>⟨vs,aD.tup _ _ aC,by rw[<- q.length];exact av⟩
def Iv(lo aJ:Int):(km lo aJ).length=(aJ - lo).toNat:=by simp[km]
def ae4{K:a_}{aX:ah->Prop}{H1:aw}(lo aJ:Int):nZ K (w9 lo (aJ - lo).toNat) aX H1 (km lo aJ) where
 go:=λi F H t aD d e=>by
  have h:=(ed.mp e).1;rw[Iv] at h;exact h
 lX:=λi F H t x af aD d e y=>by
  obtain⟨rfl,rfl⟩:=y;refine⟨F,Ext.refl d,?_⟩;have h:=(ed.mp e).1;rw[Iv] at h;unfold km at e;rw[ho,List.getElem?_range h] at e;simp at e;subst e;simp[Rep]
 stop:=λi F H aD av=>by
  rw[Iv] at av;exact av
noncomputable def WT(K:a_)(j0:TE):TI:=λσ H R=>j0 σ H λx H1=>∃a,x=.ref a/\(((∃xs,eU K H1 a xs)/\R (Bt K a) H1)\/((∃xs,df K H1 a xs)/\R (Bu K a) H1))
def ahs{cX l:bz}{j0:TE}(av:bU X l j0):pd X cX l (WT X.K j0):=by
 intro ag s σ H R I h;refine ct (av ag s σ H _ I h) λv s1 ⟨x,H1,bk,aO,a,aH,q⟩=>?_;subst aH;cases aO;have bW:∀b∈[s1.heap.objs.size],kI X ag H1 b:=λb aa=>by
  have e:b=s1.heap.objs.size:=by simpa using aa
  subst e;exact bk.uH (dD _) (bk.b8.fresh (dD _))
 rcases q with ⟨⟨xs,bK⟩,q⟩|⟨⟨xs,bK⟩,q⟩
 ·obtain⟨its,bZ,p,aq⟩:=bk.list bK;refine wpAny_pyIter_list p.isList ?_;exact⟨s1.heap.objs.size,[s1.heap.objs.size],_,_,H1,rfl,bk.kept (t':=s1.toks) λb o e=>c2 _ e,adR a _,⟨_,g9 _ rfl,rfl,rfl⟩,bW,q⟩
 ·obtain⟨its,bZ,p,aq⟩:=bk.tuple bK;refine vM (show s1.heap.IsTuple a its.toArray from p) ?_;exact⟨s1.heap.objs.size,[s1.heap.objs.size],_,_,H1,rfl,bk.kept (t':=s1.toks) λb o e=>c2 _ e,adl a _,⟨_,g9 _ rfl,rfl,rfl⟩,bW,q⟩
def lh{cX l:bz}{f:bE}(av:cC X l f):m4 X cX l (eN f):=I_ (ahs av) λσ H R ⟨au,aQ,O,F,ε,ts,r,e,k⟩=>by
 simp only[eN,cg] at e;obtain⟨t,bx,e⟩:=e;split at e
 ·cases e
  refine⟨au,aQ,O,F,ε,_,r,bx,λv aB af x q=>?_⟩
  simp only[Rep] at q;obtain⟨a,vs,rfl,az,aC⟩:=q;exact⟨a,rfl,.inr ⟨⟨vs,az⟩,k _ aB af x (ae3 az aC)⟩⟩
 ·cases e
  refine⟨au,aQ,O,F,ε,_,r,bx,λv aB af x q=>?_⟩
  simp only[Rep] at q;obtain⟨a,vs,rfl,cy,az,aC⟩:=q;exact⟨a,rfl,.inl ⟨⟨vs,.inl az⟩,k _ aB af x (ad' cy az aC)⟩⟩
 ·cases e
def I4{cX a:bz}{f:bE}{p pos:Pos}(hm:X.mg "range"=none)(ax:ek X a f)(bG:fo X "range":=by rfl)(az:bS [a] X.env=[(false,eval a X.env)]:=by rfl)(jy:bS [a] X.env=(false,eval a X.env)::bS [] X.env:=by rfl):
  m4 X cX (.Call (.Name "range" p) [a] [] pos) (ji f):=I_ (ad2 bG hm (k' ax mT jy) az) λσ H R ⟨au,aQ,O,F,ε,ts,r,e,k⟩=>by
 simp only[ji,cg] at e;obtain⟨t,bx,e⟩:=e;split at e
 next j=>
  split at e
  next aq=>
   cases e
   refine⟨au,aQ,O,F,ε,_,r,bx,λv aB af x q=>⟨j,by rw[q.int],?_,?_,k _ aB af x (by simpa using ae4 0 j)⟩⟩
   ·simp[qj] at aq;omega
   ·simp[qj] at aq;omega
  next=>cases e
 next=>cases e
def tX{cX iter:bz}{body:List Stmt}{it:iY}{i4:h_}{xe:bB}(aL:PassesOwn (bL X.prog X.w) X.A X.env X.dG)(aJ:m4 X cX iter it)(bG:n3 X cX i4)(aa:iF X body xe)(ay:X.calm=true:=by rfl)
  (az:∀x,oS iter X.env x=pure x:=by intro _;rfl):gA X (.For cX iter body [] pos) (iK it i4 xe):=fN (IW aL ay aJ bG aa az) λD σ H ⟨au,aQ,O,F,ε,o,r,e,k⟩=>by
 simp only[iK,cg] at e;obtain⟨ts,bx,e⟩:=e;refine⟨au,aQ,O,F,ε,ts,r,bx,λJ aX H1 aR ok=>?_⟩;refine⟨λi m bD af=>m=ts.length - i/\i<=ts.length/\∃aB ε' ,c' X.K aX H1 aB af/\bN X.K au aQ O aB af ε' bD/\forL i4 xe (ts.drop i) ε'=some o,⟨_,rfl,ku _,aX,ε,c'.refl,r.ext aR,by simpa using e⟩,?_⟩;rintro i m bD af ⟨rfl,uU,aB,ε',aD,bR,a9⟩;by_cases d2:i<ts.length
 ·have hd:ts.drop i=ts[i]::ts.drop (i+1):=List.drop_eq_getElem_cons d2;have mw:ts[i]?=some ts[i]:=h6 d2;rw[hd] at a9;simp only[forL,cg] at a9;obtain⟨fE,mi,cD,dv,a9⟩:=a9;refine .inr ⟨ok.go i aB af _ aD bR.cf mw,λr8 a'=>∃jA,jA<ts.length - i/\(jA=ts.length - (i+1)/\i+1<=ts.length/\∃dR gP,c' X.K aX H1 dR a'/\bN X.K au aQ O dR a' gP r8/\forL i4 xe (ts.drop (i+1)) gP=some o),λ_ _ z=>z,λx a' y=>?_⟩;obtain⟨dR,b4,aU⟩:=ok.lX i aB af _ x a' aD bR.cf mw y;refine⟨au,aQ,O,dR,ε',_,fE,bR.ext b4,aU,mi,λj_ b5=>⟨au,aQ,O,dR,fE,cD,b5,dv,?_⟩⟩;have pK:c' X.K aX H1 dR a':=aD.trans b4.aD;cases cD with
  |bQ gP=>exact λJl kH iZ kU kl=>⟨_,by omega,rfl,d2,kH,gP,pK.trans kU,kl,a9⟩
  |d_ gP=>exact λJl kH iZ kU kl=>⟨_,by omega,rfl,d2,kH,gP,pK.trans kU,kl,a9⟩
  |gT gP=>
   cases a9
   exact λJl kH iZ kU kl=>k Jl kH iZ ((aR.aD.trans pK).trans kU) kl
  |dj t=>
   cases a9
   exact k
  |hk t gP=>
   cases a9
   exact k
  |jB s=>
   cases a9
   exact k
 ·have hd:ts.drop i=[]:=List.drop_eq_nil_of_le (by omega);rw[hd] at a9;cases a9;exact .inl ⟨ok.stop i aB af aD (by omega),k bD aB af (aR.aD.trans aD) bR⟩
end
end
section
variable [cV]
section
variable {X:bj}{a b c e:bz}{es:List bz}{f g h:bE}{ar:List bE}{hY gt:fm}{pos p:Pos}
def jM:sd X [] []:=Ba mT λσ H Q ⟨au,aQ,O,F,ε,ts,r,e,k⟩=>by
 cases e
 exact k [] F H (Ext.refl r.cf) .nil
def jh(ax:ek X e f)(aC:sd X es ar)(az:bS (e::es) X.env=(false,eval e X.env)::bS es X.env:=by rfl):sd X (e::es) (f::ar):=Ba (k' ax aC az) λσ H Q ⟨au,aQ,O,F,ε,ts,r,e,k⟩=>by
 simp only[args,cg,dX] at e;obtain⟨t,bx,us,hz,rfl⟩:=e;refine⟨au,aQ,O,F,ε,t,r,bx,λv aX H1 aR aP=>⟨au,aQ,O,aX,ε,us,r.ext aR,hz,λvs dR a' b4 ba=>?_⟩⟩;exact k _ dR a' (aR.trans b4) (.cons (aP.ext b4) ba)
def br:kJ X [] []:=Ba mT λσ H Q ⟨au,aQ,O,F,ε,ts,r,e,k⟩=>by
 cases e
 exact k [] F H (Ext.refl r.cf) bh.nil
def aE(ax:cC X e f)(aC:kJ X es ar)(az:bS (e::es) X.env=(false,eval e X.env)::bS es X.env:=by rfl):kJ X (e::es) (f::ar):=Ba (k' ax aC az) λσ H Q ⟨au,aQ,O,F,ε,ts,r,e,k⟩=>by
 simp only[args,cg,dX] at e;obtain⟨t,bx,us,hz,rfl⟩:=e;refine⟨au,aQ,O,F,ε,t,r,bx,λv aX H1 aR aP=>⟨au,aQ,O,aX,ε,us,r.ext aR,hz,λvs dR a' b4 ba=>?_⟩⟩;exact k _ dR a' (aR.trans b4) (bh.cons (aP.ext b4) ba)
def dE{aR}(h:kJ X es ar):cC X (.Tuple es aR pos) (bV ar):=d7 (agx h) λσ H Q ⟨au,aQ,O,F,ε,t,r,e,k⟩=>by
 simp only[bV,cg] at e;obtain⟨ts,bx,e⟩:=e;split at e
 next aq=>
  cases e
  refine⟨au,aQ,O,F,ε,ts,r,bx,λvs aX H1 aR aP=>⟨by rw[jl,<- aP.length];exact aq,λp aL=>?_⟩⟩
  have b4:=Ext.laid (o:=.tup vs) aR.cf aL;refine k _ aX _ (aR.trans b4) ?_;simp only[Rep];exact⟨p,vs,rfl,df.of dY,aP.ext b4⟩
 next=>cases e
def r3(h:kJ X es ar):qF X (.List es pos) (fO ar):=d7 (agA h) λσ H Q ⟨au,aQ,O,F,ε,us,r,e,k⟩=>by
 simp only[fO,cg] at e;obtain⟨ts,bx,e⟩:=e;split at e
 next aq=>
  cases e
  refine⟨au,aQ,O,F,ε,_,r,bx,λvs aX H1 aR aP=>⟨by rw[jl,<- aP.length];exact aq,λp aL=>?_⟩⟩
  have b4:=Ext.laid (o:=.lst vs) aR.cf aL;refine k p vs aX _ (aR.trans b4) ?_ ?_ dY (aP.ext b4)
  ·exact aR.same.none aL
  ·intro bW;obtain⟨o,eF⟩:=aR.cf p bW;rw[aL] at eF;cases eF
 next=>cases e
def agn(h:kJ X es ar):cC X (.List es pos) (fO ar):=LM (r3 h) λε t e=>by
 simp only[fO,cg] at e;obtain⟨ts,bx,e⟩:=e;split at e
 ·cases e
  exact⟨_,rfl⟩
 ·cases e
mutual
theorem O_{F:ah->Prop}{ag:List (ah×Obj)}{σ:bc.St}{H:aw}{s:aK}(I:Inv X ag σ H s):∀{t:T} {v:V} {u:aj},Rep X.K F H t v->RelV v u->∃as,Reads s.heap u t as
|.none,v,u,h,r=>by
  simp only[Rep] at h;subst h;cases r;exact⟨_,.none⟩
|.bool b,v,u,h,r=>by
  simp only[Rep] at h;subst h;cases r;exact⟨_,.bool b⟩
|.int i,v,u,h,r=>by
  simp only[Rep] at h;subst h;obtain⟨t,rfl⟩:=r;exact⟨_,.int i t⟩
|.str x,v,u,h,r=>by
  simp only[Rep] at h;subst h;obtain⟨t,rfl⟩:=r;exact⟨_,.str x t⟩
|.dict _,v,u,h,r=>by simp[Rep] at h
|.tuple ts,v,u,h,r=>by
  simp only[Rep] at h;obtain⟨a,vs,rfl,az,aC⟩:=h;cases r;obtain⟨its,bZ,⟨o,ab,ak,n,bF⟩,aq⟩:=I.tuple az;obtain⟨as,jX⟩:=Ay I aC bZ;exact⟨_,.tuple ab ak bF (by simpa using jX)⟩
|.list ts,v,u,h,r=>by
  simp only[Rep] at h;obtain⟨a,vs,rfl,cy,az,aC⟩:=h;cases r;obtain⟨z,its,n,bZ,av,e⟩:=Inv.ve I az;obtain⟨as,jX⟩:=Ay I aC bZ;exact⟨_,.list e rfl rfl (by simpa using jX)⟩
theorem Ay{F:ah->Prop}{ag:List (ah×Obj)}{σ:bc.St}{H:aw}{s:aK}(I:Inv X ag σ H s):∀{ts:List T} {vs:List V} {us:List aj},bh X.K F H ts vs->Vals vs us->∃as,ReadsAll s.heap us ts as
| [],vs,us,h,r=>by
  simp only[bh] at h;subst h;cases r;exact⟨_,.nil⟩
|t::ts,vs,us,h,r=>by
  simp only[bh] at h;obtain⟨v,GZ,rfl,ab,ak⟩:=h;cases r with
  |cons aO a4=>
   obtain⟨as,aP⟩:=O_ I ab aO;obtain⟨bs,ba⟩:=Ay I ak a4;exact⟨_,.cons aP ba⟩
end
def nN{O F:ah->Prop}{ag:List (ah×Obj)}{σ:bc.St}{H:aw}{s:aK}(I:Inv X ag σ H s){t:T}{v:V}{u:aj}(h:fP X.K O F H t v)(r:RelV v u):∃as,Reads s.heap u t as:=by
 rcases h with h|⟨ts,a,vs,rfl,rfl,ax,h⟩
 ·exact O_ I h r
 ·cases r
  obtain⟨z,its,n,bZ,av,e⟩:=Inv.ve I (.inl ax);obtain⟨as,jX⟩:=Ay I h bZ;exact⟨_,.list e rfl rfl (by simpa using jX)⟩
def tU{t:T}(h:iu t=true):t.canLay0=true/\t.depth<=60:=by
 simp only[iu,jG,decide_eq_true_eq] at h;exact h
def Qh{t:List T}(h:rh t=true):ks t=true/\jH t<=60:=by
 simp only[rh,jG,decide_eq_true_eq] at h;exact h
noncomputable def Be(K:a_)(n:Bool):gj:=λx y H Q=>∃(O F:ah->Prop) (s t:T),fP K O F H s x/\fP K O F H t y/\iu s=true/\iu t=true/\Q (.c0 (if n then !PyData.eqv s t else mK s t)) H
def IZ(b7:X.A.units+64<cLine):eE X (iz .Eq) (Be X.K false):=by
 intro ag s σ H x y v u Q I aU bw ⟨O,F,d,t,ab,ak,cD,dQ,q⟩;obtain⟨as,jX⟩:=nN I ab aU;obtain⟨bs,e'⟩:=nN I ak bw;obtain⟨dc,b1⟩:=tU cD;obtain⟨dP,b_⟩:=tU dQ;refine SeqAt.compareEq_reads jX e' dc dP (by have:=Nat.min_le_left d.depth t.depth;omega) ?_;exact⟨.c0 _,H,I,rfl,q⟩
def Qd(b7:X.A.units+64<cLine):eE X (iz .NotEq) (Be X.K true):=by
 intro ag s σ H x y v u Q I aU bw ⟨O,F,d,t,ab,ak,cD,dQ,q⟩;obtain⟨as,jX⟩:=nN I ab aU;obtain⟨bs,e'⟩:=nN I ak bw;obtain⟨dc,b1⟩:=tU cD;obtain⟨dP,b_⟩:=tU dQ;refine SeqAt.compareNe_reads jX e' dc dP (by have:=Nat.min_le_left d.depth t.depth;omega) ?_;exact⟨.c0 _,H,I,rfl,q⟩
def tZ{op:CmpOp}{R:gj}{o:T->T->Option T}(aF:eE X (iz op) R)(ak:l8 X.K o R)(ax:ek X a f)(aa:ek X b g)(hm:oR op b=false:=by first|exact Qi _|rfl):cC X (.Compare a [op] [b] pos) (ao o f g):=d7 (afH aF ax aa hm) (oX ak)
def gO{op:CmpOp}{R:gj}{o:T->T->Option T}(aF:eE X (iz op) R)(ak:l8 X.K o R)(ax:ek X a f)(aa:ek X b g)(hm:oR op b=false:=by first|exact Qi _|rfl):kd X (.Compare a [op] [b] pos) (bO (ao o f g)):=
 wO (afy aF ax aa hm) λσ H Q ⟨au,aQ,O,F,ε,b,r,e,k⟩=>by
 simp only[bO,cg] at e;obtain⟨t,bx,e⟩:=e;split at e
 ·cases e
  refine oX ak σ H _ ⟨au,aQ,O,F,ε,_,r,bx,λv aB af x q=>?_⟩
  simp only[Rep] at q;exact⟨_,q,k aB af x⟩
 ·cases e
def I1:l8 X.K oEq (Be X.K false):=by
  intro O F H x y t hL hM Q d aU bw e k;unfold oEq at e;split at e
  next aq=>
   cases e
   rw[jG] at aq;exact⟨O,F,x,y,aU,bw,aq.1,aq.2,k _ F H (Ext.refl d) (by simp[Rep])⟩
  next=>cases e
def Qf:l8 X.K g0 (Be X.K true):=by
  intro O F H x y t hL hM Q d aU bw e k;unfold g0 at e;split at e
  next aq=>
   cases e
   rw[jG] at aq;exact⟨O,F,x,y,aU,bw,aq.1,aq.2,k _ F H (Ext.refl d) (by simp[Rep])⟩
  next=>cases e
noncomputable def Gx(K:a_)(n:Bool):gj:=λx y H Q=>∃(O F:ah->Prop) (s:T) (ts:List T),fP K O F H s x/\(fP K O F H (.tuple ts) y\/fP K O F H (.list ts) y)/\iu s=true/\rh ts=true/\Q (.c0 (if n then !ob s ts else ob s ts)) H
def wL(b7:X.A.units+64<cLine):eE X (iz .In) (Gx X.K false):=by
 intro ag s σ H x y v u Q I aU bw ⟨O,F,d,ts,ab,ak,cD,dQ,q⟩;obtain⟨as,jX⟩:=nN I ab aU;obtain⟨dc,b1⟩:=tU cD;obtain⟨dP,b_⟩:=Qh dQ;have hm:=Nat.min_le_left (jH ts) d.depth;rcases ak with ak|ak
 ·obtain⟨bs,e'⟩:=nN I ak bw;exact SeqAt.in_tuple_reads e' jX dP dc (by omega) ⟨.c0 _,H,I,rfl,q⟩
 ·obtain⟨bs,e'⟩:=nN I ak bw;exact SeqAt.in_list_reads e' jX dP dc (by omega) ⟨.c0 _,H,I,rfl,q⟩
def wj(b7:X.A.units+64<cLine):eE X (iz .NotIn) (Gx X.K true):=by
 intro ag s σ H x y v u Q I aU bw ⟨O,F,d,ts,ab,ak,cD,dQ,q⟩;obtain⟨as,jX⟩:=nN I ab aU;obtain⟨dc,b1⟩:=tU cD;obtain⟨dP,b_⟩:=Qh dQ;have hm:=Nat.min_le_left (jH ts) d.depth;rcases ak with ak|ak
 ·obtain⟨bs,e'⟩:=nN I ak bw;exact SeqAt.notIn_tuple_reads e' jX dP dc (by omega) ⟨.c0 _,H,I,rfl,q⟩
 ·obtain⟨bs,e'⟩:=nN I ak bw;exact SeqAt.notIn_list_reads e' jX dP dc (by omega) ⟨.c0 _,H,I,rfl,q⟩
def nR{n:Bool}:l8 X.K (f_ n) (Gx X.K n):=by
 intro O F H x y t hL hM Q d aU bw e k;unfold f_ at e;split at e
 ·split at e
  next aq=>
   cases e
   rw[jG] at aq;exact⟨O,F,x,_,aU,.inl bw,aq.1,aq.2,k _ F H (Ext.refl d) (by simp[Rep])⟩
  next=>cases e
 ·split at e
  next aq=>
   cases e
   rw[jG] at aq;exact⟨O,F,x,_,aU,.inr bw,aq.1,aq.2,k _ F H (Ext.refl d) (by simp[Rep])⟩
  next=>cases e
 ·cases e
def tT:l8 X.K oLt (λx y H Q=>lP (λi j=>.c0 (decide (i<j))) x y H Q\/∃i j,x=.str i/\y=.str j/\Q (.c0 (decide (i.cps.toList<j.cps.toList))) H):=by
  intro O F H x y t hL hM Q d aU bw e k;unfold oLt at e;split at e
  ·cases e
   rw[aU.int,bw.int];exact .inl ⟨_,_,rfl,rfl,k _ F H (Ext.refl d) (by simp[Rep])⟩
  ·cases e
   rw[aU.str,bw.str];exact .inr ⟨_,_,rfl,rfl,k _ F H (Ext.refl d) (by simp[Rep,strLt])⟩
  ·cases e
def HU:eE X (iz .LtE) (λx y H Q=>∃i j,x=.str i/\y=.str j/\Q (.c0 (!strLt j i)) H):=by
 intro ag s σ H x y v u Q I aU bw ⟨i,j,aH,aS,q⟩;subst aH aS;obtain⟨t,rfl⟩:=aU;obtain⟨t',rfl⟩:=bw;exact PySem.P.le_str (A_ I q (by simp[strLt]))
def Oq:eE X (iz .GtE) (λx y H Q=>∃i j,x=.str i/\y=.str j/\Q (.c0 (!strLt i j)) H):=by
 intro ag s σ H x y v u Q I aU bw ⟨i,j,aH,aS,q⟩;subst aH aS;obtain⟨t,rfl⟩:=aU;obtain⟨t',rfl⟩:=bw;exact PySem.P.ge_str (A_ I q (by simp[strLt]))
def AB:eE X (iz .Gt) (λx y H Q=>∃i j,x=.str i/\y=.str j/\Q (.c0 (strLt j i)) H):=by
 intro ag s σ H x y v u Q I aU bw ⟨i,j,aH,aS,q⟩;subst aH aS;obtain⟨t,rfl⟩:=aU;obtain⟨t',rfl⟩:=bw;exact PySem.P.gt_str (A_ I q (by simp[strLt]))
def I0:l8 X.K oLe (λx y H Q=>lP (λi j=>.c0 (decide (i<=j))) x y H Q\/∃i j,x=.str i/\y=.str j/\Q (.c0 (!strLt j i)) H):=by
 intro O F H x y t hL hM Q d aU bw e k;unfold oLe at e;split at e
 ·cases e
  rw[aU.int,bw.int];exact .inl ⟨_,_,rfl,rfl,k _ F H (Ext.refl d) (by simp[Rep])⟩
 ·cases e
  rw[aU.str,bw.str];exact .inr ⟨_,_,rfl,rfl,k _ F H (Ext.refl d) (by simp[Rep])⟩
 ·cases e
def A4:l8 X.K i8 (λx y H Q=>lP (λi j=>.c0 (decide (j<i))) x y H Q\/∃i j,x=.str i/\y=.str j/\Q (.c0 (strLt j i)) H):=by
 intro O F H x y t hL hM Q d aU bw e k;unfold i8 at e;split at e
 ·cases e
  rw[aU.int,bw.int];exact .inl ⟨_,_,rfl,rfl,k _ F H (Ext.refl d) (by simp[Rep])⟩
 ·cases e
  rw[aU.str,bw.str];exact .inr ⟨_,_,rfl,rfl,k _ F H (Ext.refl d) (by simp[Rep])⟩
 ·cases e
def Qg:l8 X.K sQ (λx y H Q=>lP (λi j=>.c0 (decide (j<=i))) x y H Q\/∃i j,x=.str i/\y=.str j/\Q (.c0 (!strLt i j)) H):=by
 intro O F H x y t hL hM Q d aU bw e k;unfold sQ at e;split at e
 ·cases e
  rw[aU.int,bw.int];exact .inl ⟨_,_,rfl,rfl,k _ F H (Ext.refl d) (by simp[Rep])⟩
 ·cases e
  rw[aU.str,bw.str];exact .inr ⟨_,_,rfl,rfl,k _ F H (Ext.refl d) (by simp[Rep])⟩
 ·cases e
def QF(ax:ek X a f):cC X (.UnaryOp .USub a pos) (eH pN f):=d7 (aht agb ax) λσ H Q ⟨au,aQ,O,F,ε,t,r,e,k⟩=>by
 simp only[eH,cg] at e;obtain⟨x,ex,e⟩:=e;unfold pN at e;split at e
 ·cases e
  exact⟨au,aQ,O,F,ε,_,r,ex,λv aX H1 aR aU=>⟨_,aU.int,k _ aX H1 aR (by simp[Rep])⟩⟩
 ·cases e
noncomputable def R'(K:a_)(o:List T->Option T)(R:List V->aw->c6->Prop):Prop:=
 ∀(O F:ah->Prop) (H:aw) (ts:List T) (t:T) (vs:List V) (Q:c6),fX F H->Paired (fP K O F H) ts vs->o ts=some t ->
  (∀v aB af,Ext F H aB af->Rep K aB af t v->Q v af)->R vs H Q
def Iz{o:List T->Option T}{R:List V->aw->c6->Prop}(qW:R' X.K o R):∀σ H Q,GQ X.K (bH o ar) σ H Q->GO R (My X.K ar) σ H Q:=by
 rintro σ H Q ⟨au,aQ,O,F,ε,t,r,e,k⟩;simp only[bH,cg] at e;obtain⟨ts,bx,eF⟩:=e;exact⟨au,aQ,O,F,ε,ts,r,bx,λvs aX H1 aR q=>qW O aX H1 ts t vs Q aR.cf q eF λv aB af d5 c9=>k v aB af (aR.trans d5) c9⟩
def wR(hm:X.mg "len"=none)(ax:sd X (e::es) ar)(bG:fo X "len":=by rfl)(he:bS (e::es) X.env=(false,eval e X.env)::bS es X.env:=by rfl)(hpl:(ee pos (bS es X.env)).any (·.1)=false:=by rfl):
  cC X (.Call (.Name "len" p) (e::es) [] pos) (bH hj ar):=d7 (Ii (acV.or acU) bG hm PySem.boot_len ax (he:=he) (hpl:=hpl)) (Iz (by
 intro O F H ts t vs Q d q e k;unfold hj at e;split at e
 ·cases e
  cases q with
  |cons aP ba=>
   cases ba
   obtain⟨a,ws,rfl,az,aC⟩:=aP.tup;exact .inl ⟨a,ws,rfl,.inr az,k _ F H (Ext.refl d) (by simp[Rep,aC.length])⟩
 ·cases e
  cases q with
  |cons aP ba=>
   cases ba
   obtain⟨a,ws,rfl,az,aC⟩:=aP.lst;exact .inl ⟨a,ws,rfl,.inl (.inl az),k _ F H (Ext.refl d) (by simp[Rep,aC.length])⟩
 ·split at e
  next aq=>
   cases e
   cases q with
   |cons aP ba=>
    cases ba
    exact .inr ⟨_,by rw[aP.str],by rw[jl];exact aq,k _ F H (Ext.refl d) (by simp[Rep])⟩
  next=>cases e
 ·cases e))
def ahp(hm:X.mg "max"=none)(ax:sd X (e::es) ar)(ay:X.calm=true:=by rfl)(bG:fo X "max":=by rfl)(he:bS (e::es) X.env=(false,eval e X.env)::bS es X.env:=by rfl)(hpl:(ee pos (bS es X.env)).any (·.1)=false:=by rfl):
  cC X (.Call (.Name "max" p) (e::es) [] pos) (bH vj ar):=d7 (Ii (aen ay) bG hm (by decide +kernel) ax (he:=he) (hpl:=hpl)) (Iz (by
 intro O F H ts t vs Q d q e k;unfold vj at e;split at e
 ·cases e
  cases q with
  |cons aP ba=>
   cases ba with
   |cons ba c9=>
    cases c9
    exact⟨_,_,by rw[aP.int,ba.int],k _ F H (Ext.refl d) (by simp[Rep])⟩
 ·cases e))
def nP(hm:X.mg "tuple"=none)(ax:sd X (e::es) ar)(bG:fo X "tuple":=by rfl)(he:bS (e::es) X.env=(false,eval e X.env)::bS es X.env:=by rfl)(hpl:(ee pos (bS es X.env)).any (·.1)=false:=by rfl):
  cC X (.Call (.Name "tuple" p) (e::es) [] pos) (bH fM ar):=d7 (HT acB bG hm (by decide +kernel) ax (he:=he) (hpl:=hpl)) (Iz (by
 intro O F H ts t vs Q d q e k;unfold fM at e;split at e
 ·cases e
  cases q with
  |cons aP ba=>
   cases ba
   obtain⟨a,ws,rfl,az,aC⟩:=aP.tup;refine⟨a,ws,rfl,.inr ⟨az,k _ F H (Ext.refl d) ?_⟩⟩;simp only[Rep];exact⟨a,ws,rfl,az,aC⟩
 ·cases e
  cases q with
  |cons aP ba=>
   cases ba
   obtain⟨a,ws,rfl,az,aC⟩:=aP.lst;refine⟨a,ws,rfl,.inl ⟨.inl az,λl av=>?_⟩⟩;have aR:=Ext.laid (o:=.tup ws) d av;refine k _ F _ aR ?_;simp only[Rep];exact⟨l,ws,rfl,df.of dY,aC.ext aR⟩
 ·cases e))
def P2(h:ek X e f)(he:∀whole,isTrue e X.env whole=(do let v <- whole;standAt e.pos;holding [v] (truthy v)):=by intro _;rfl):kd X e (bO f):=wO (agu h he) λσ H Q ⟨au,aQ,O,F,ε,b,r,e,k⟩=>by
 simp only[bO,cg] at e;obtain⟨t,bx,e⟩:=e;split at e
 ·cases e
  exact⟨au,aQ,O,F,ε,_,r,bx,λv aX H1 aR aU=>⟨_,aU.c0,k aX H1 aR⟩⟩
 ·cases e
def QA{j pos'}(ax:ek X a f):kd X (.Compare a [.Is] [.Constant .none j pos'] pos) (bO (eH i9 f)):=wO (P_ (agE ax)) λσ H Q ⟨au,aQ,O,F,ε,t,r,e,k⟩=>by
 simp only[bO,eH,i9,cg] at e;obtain⟨_,⟨x,ex,aH⟩,e⟩:=e;cases aH;cases e;refine⟨au,aQ,O,F,ε,x,r,ex,λv aX H1 aR aU=>⟨_,?_,k aX H1 aR⟩⟩;cases x with
|none=>rw[aU.fz];simp
|bool b=>rw[aU.c0];simp
|int b=>rw[aU.int];simp
|str b=>rw[aU.str];simp
|tuple b=>obtain⟨_,_,e,_⟩:=aU.tup;rw[e];simp
|list b=>obtain⟨_,_,e,_⟩:=aU.lst;rw[e];simp
|dict b=>rcases aU with aU|⟨_,_,_,z,_⟩;simp[Rep] at aU;cases z
def agd{j pos'}(ax:ek X a f):kd X (.Compare a [.IsNot] [.Constant .none j pos'] pos) (bO (eH iV f)):=wO (P_ (afI ax)) λσ H Q ⟨au,aQ,O,F,ε,t,r,e,k⟩=>by
 simp only[bO,eH,iV,cg] at e;obtain⟨_,⟨x,ex,aH⟩,e⟩:=e;cases aH;cases e;refine⟨au,aQ,O,F,ε,x,r,ex,λv aX H1 aR aU=>⟨_,?_,k aX H1 aR⟩⟩;cases x with
|none=>rw[aU.fz];simp
|bool b=>rw[aU.c0];simp
|int b=>rw[aU.int];simp
|str b=>rw[aU.str];simp
|tuple b=>obtain⟨_,_,e,_⟩:=aU.tup;rw[e];simp
|list b=>obtain⟨_,_,e,_⟩:=aU.lst;rw[e];simp
|dict b=>rcases aU with aU|⟨_,_,_,z,_⟩;simp[Rep] at aU;cases z
def age(h:ek X e f)(he:∀whole,isTrue e X.env whole=(do let v <- whole;standAt e.pos;holding [v] (truthy v)):=by intro _;rfl):kd X e (jE f):=wO (aeK h he) λσ H Q ⟨au,aQ,O,F,ε,b,r,e,k⟩=>by
 simp only[jE,cg] at e;obtain⟨t,bx,e⟩:=e;have emp:∀{ts:List T} {vs:List V} {aX:ah->Prop} {H1:aw},bh X.K aX H1 ts vs->ts.isEmpty=vs.isEmpty:=λ{ts vs aX H1} q=>by
  have:=q.length;cases ts <;> cases vs <;> simp_all
 split at e
 ·cases e
  refine⟨au,aQ,O,F,ε,_,r,bx,λv aX H1 aR aU=>?_⟩
  obtain⟨a,vs,rfl,az,aC⟩:=aU.lst;exact⟨_,.inl ⟨vs,.inl az,by rw[emp aC]⟩,k aX H1 aR⟩
 ·cases e
  refine⟨au,aQ,O,F,ε,_,r,bx,λv aX H1 aR aU=>?_⟩
  obtain⟨a,vs,rfl,az,aC⟩:=aU.tup;exact⟨_,.inr (.inl ⟨vs,az,by rw[emp aC]⟩),k aX H1 aR⟩
 ·cases e
def AY(h:kd X e hY):qK X (.BoolOp .And [e] pos) hY:=afx h
def r2(h:kd X e hY):qK X (.BoolOp .Or [e] pos) hY:=agq h
def w_and(h:kd X a hY)(ak:qK X (.BoolOp .And (b::es) pos) gt):qK X (.BoolOp .And (a::b::es) pos) (hS hY gt):=Qx (agr h ak) λσ H Q ⟨au,aQ,O,F,ε,b,r,e,k⟩=>by
 simp only[hS,cg] at e;obtain⟨c,hU,e⟩:=e;refine⟨au,aQ,O,F,ε,c,r,hU,λaX H1 aR=>?_⟩;cases c with
|true=>exact aik ⟨au,aQ,O,aX,ε,b,r.ext aR,by simpa using e,λdR a' b4=>k dR a' (aR.trans b4)⟩
|false=>
  have:b=false:=by simpa using e.symm
  subst this;exact u7 (k aX H1 aR)
def w_or(h:kd X a hY)(ak:qK X (.BoolOp .Or (b::es) pos) gt):qK X (.BoolOp .Or (a::b::es) pos) (e0 hY gt):=Qx (ahr h ak) λσ H Q ⟨au,aQ,O,F,ε,b,r,e,k⟩=>by
 simp only[e0,cg] at e;obtain⟨c,hU,e⟩:=e;refine⟨au,aQ,O,F,ε,c,r,hU,λaX H1 aR=>?_⟩;cases c with
|true=>
  have:b=true:=by simpa using e.symm
  subst this;exact aik (k aX H1 aR)
|false=>exact u7 ⟨au,aQ,O,aX,ε,b,r.ext aR,by simpa using e,λdR a' b4=>k dR a' (aR.trans b4)⟩
def mG(h:qK X e hY):kd X e hY:=h.pt
end
end
section
variable [cV]
noncomputable def spT(K:a_)(n:Nat)(d:List T->Option T):jR:=λvs H Q _=>vs.length=n/\∃F ts t,fX F H/\bh K F H ts vs/\d ts=some t/\∀v aB af,Ext F H aB af->Rep K aB af t v->Q v af
section
variable {X:bj}{k n:Nat}{cy:ah}{fd:fU}{aT:List Str}{d:List T->Option T}{x:Str}{p pos:Pos}{e:bz}{es:List bz}{ar:List bE}
def agp(F:eT X.prog X.w X.K X.mg X.base fh k cy fd aT (spT X.K n d))(aC:dO k X.A)(bG:fo X x)(hm:X.mg x=some (.ref cy))(aI:mI X.K (.ref cy)=true)(aa:Binds X.K fd aT [])
  (ax:kJ X (e::es) ar) (a7:ar.length=n:=by rfl) (i6:(x==("__debug__":Str))=false:=by decide) (he:bS (e::es) X.env=(false,eval e X.env)::bS es X.env:=by rfl) (hpl:(ee pos (bS es X.env)).any (·.1)=false:=by rfl):
  cC X (.Call (.Name x p) (e::es) [] pos) (bH d ar):=d7 (Iy F aC bG hm aI aa .nil o7 ax i6 he hpl) λσ H Q ⟨au,aQ,O,F,ε,t,r,e,k⟩=>by
 simp only[bH,cg] at e;obtain⟨ts,bx,e7⟩:=e;have av:∀(fj:List bE) (us:List T),args fj ε=some us->us.length=fj.length:=by
  intro fj
  induction fj with
  |nil=>intro us e;cases e;rfl
  |cons g fj b9=>
   intro us e;simp only[args,cg,dX] at e;obtain⟨t,_,vs,ev,rfl⟩:=e;simp[b9 vs ev]
 refine⟨au,aQ,O,F,ε,ts,r,bx,λvs aX H1 aR q=>⟨?_,aX,ts,t,aR.cf,by simpa using q,e7,λv aB af b4 ba=>k v aB af (aR.trans b4) ba⟩⟩
 rw[mJ,<- q.length,av ar ts bx,a7]
end
section
variable {P:cF}{w:cv}{K:a_}{mg:Str->Option aj}{base:bT}
def NY{F:ah->Prop}{H:aw}{ts:List T}{vs:List V}{N:List Str}(cf:fX F H)(q:bh K F H ts vs)(n:Nat):
  bN K F ⟨H,0⟩ (λa=>H a=none) F H ((ts.map λt=>some (.ae t))++dU n none) (vs.map some++dU n none):=by
 have ae:∀(i:Nat) (s:aG),((ts.map λt=>some (aG.ae t))++dU n none)[i]?=some (some s)->∃t,s=.ae t/\ts[i]?=some t:=by
  intro i s e;by_cases aJ:i<ts.length
  ·rw[h7 (by simpa using aJ),ho] at e;rw[h6 aJ] at e ⊢;simp at e;exact⟨_,e.symm,rfl⟩
  ·rw[lV (by simpa using aJ),List.getElem?_replicate] at e;split at e <;> cases e
 refine⟨by simp[q.length],λi s e=>?_,λi j s u v w fk aH aS cD=>?_,Ext.refl cf,λ_ h=>h,λ_ h=>h⟩
 ·obtain⟨t,rfl,bg⟩:=ae i s e;obtain⟨v,bq,bZ⟩:=q.get bg;refine⟨v,?_,bZ⟩;rw[h7 (by have:=(ed.mp bq).1;simpa using this),ho,bq];rfl
 ·obtain⟨t,rfl,_⟩:=ae i s aH;cases cD
def Qq{x qual:Str}{st:Stmt}{f:ah}{fd:fU}{N aT:List Str}{k:Nat}{b:bB}(F:cE K x qual st f fd)(S:cR N aT (cb st))
  (aa:∀(cS:aj) (A:cY) (outer:List Env) (s:aK) (H:aw) (E:gC),dO k (A.deeper (envOfC qual (cb st) s.heap.objs.size f cS)) ->
   iF (jv fh P w K mg base N qual (cb st) f cS A outer s H E).kj (jg st) b):
  eT P w K mg base fh (k+1) f fd aT (spT K aT.length (eI b N.length)):=by
 refine F.ok S (λvs H Q E h=>h.1) λcS A outer s H vs Q E aC h=>⟨_,aa cS A outer s H E aC,?_⟩
 obtain⟨av,F,ts,t,cf,q,e,lL⟩:=h;simp only[eI,cg] at e;obtain⟨o,eF,e⟩:=e;refine⟨F,⟨H,0⟩,λa=>H a=none,F,_,o,?_,eF,?_⟩
 ·have:=NY (N:=N) cf q (N.length - ts.length);unfold bc.start;rw[q.length] at this ⊢;exact this
 ·cases o with
  |dj t'=>
   cases e
   exact λv aB af x q=>lL v aB af x q
  |bQ ε'=>
   cases e
   exact λbD aB af _ r=>lL _ aB af r.ent (by simp[Rep])
  |gT _=>cases e
  |d_ _=>cases e
  |hk _ _=>cases e
  |jB _=>cases e
end
end
section
variable [cV]
noncomputable def ic(env:Env):List (Str×k7)->List (Str×ah)->List (Str×ah)
| [],cs=>cs
|x::r,cs=>if x.2==.free then ic env r ((x.1,(env.cells.lookup x.1).getD 0)::cs) else ic env r cs
def Nc{scope:Scope}{env:Env}(h:∀x∈scope.names,x.2=.free->∃c,env.cells.lookup x.1=some c):closureFor scope env=pure (ic env scope.names []):=by
 have go:∀(l:List (Str×k7)) (cs:List (Str×ah)),(∀x∈l,x.2=.free->∃c,env.cells.lookup x.1=some c) ->
   (forIn l cs (λx r=>(if (x.2==NameKind.free)=true then do let a <- cellOf env x.1;pure (ForInStep.yield ((x.1,a)::r)) else pure (ForInStep.yield r)):_->_->Sem (ForInStep (List (Str×ah)))):Sem (List (Str×ah)))=pure (ic env l cs):=by
  intro l
  induction l with
  |nil=>intro cs _;rfl
  |cons x r b9=>
   intro cs av;rw[List.forIn_cons];have aC:=λy bI=>av y (d6 _ bI);by_cases k:x.2=.free
   ·obtain⟨c,ay⟩:=av x fA k;have aH:(x.2==NameKind.free)=true:=by simp[k]
    simp only[aH,if_true,cellOf,ay,ic,Option.getD_some];exact b9 _ aC
   ·have aH:(x.2==NameKind.free)=false:=by simpa using k
    simp only[aH,p3,if_false,ic];exact b9 _ aC
 have:=go scope.names [] h;simp only[closureFor];exact congrArg (λm=>m >>= λcs=>pure cs) this
theorem wm{env:Env}:∀{l:List (Str×k7)} {cs:List (Str×ah)},(∀x∈l,x.2=.free->∃c,env.cells.lookup x.1=some c)->(∀x c,cs.lookup x=some c->env.cells.lookup x=some c)->∀x c,(ic env l cs).lookup x=some c->env.cells.lookup x=some c
| [],cs,_,h,x,c,e=>h x c e
|y::r,cs,av,h,x,c,e=>by
  unfold ic at e;have aC:=λz aq=>av z (d6 _ aq);split at e
  next k=>
   refine wm aC (λx c e=>?_) x c e
   rw[j5] at e;split at e
   next aa=>
    obtain⟨d0,ay⟩:=av y fA (by simpa using k);have:x=y.1:=by simpa using aa
    subst this;rw[ay] at e ⊢;simpa using e
   next=>exact h x c e
  next=>exact wm aC h x c e
theorem wC{env:Env}:∀{l:List (Str×k7)} {cs:List (Str×ah)} {x:Str},((∃y∈l,y.2=.free/\y.1=x)\/∃c,cs.lookup x=some c)->∃c,(ic env l cs).lookup x=some c
| [],cs,x,h=>by
  rcases h with ⟨y,bI,_⟩|h
  ·cases bI
  ·exact h
|y::r,cs,x,h=>by
  unfold ic;split
  next k=>
   refine wC ?_
   rcases h with ⟨z,aq,h1,e⟩|⟨c,h⟩
   ·rcases cM.mp aq with rfl|aq
    ·refine .inr ?_
     subst e;rw[j5];simp
    ·exact .inl ⟨z,aq,h1,e⟩
   ·refine .inr ?_
    rw[j5];split
    ·exact⟨_,rfl⟩
    ·exact⟨c,h⟩
  next k=>
   refine wC ?_
   rcases h with ⟨z,aq,h1,e⟩|h
   ·rcases cM.mp aq with rfl|aq
    ·exact absurd (by simpa using h1) k
    ·exact .inl ⟨z,aq,h1,e⟩
   ·exact .inr h
noncomputable def gN(X:bj)(ud:List Str)(scope:Scope)(cl:List (Str×ah))(C:ah)(dq:aK)(aQ:aw)(bW:List ah)(dI:List (ah×Obj)):bj where
 prog:=X.prog
 w:=X.w
 K:=X.K
 mg:=X.mg
 base:=X.base
 A:=X.A
 N:=ud
 dq:=dq
 aQ:=aQ
 env:=compEnvC scope cl C X.env
 outer:=X.stack
 stack:=X.stack
 ex:=bW
 fn:=λ_=>false
 calm:=X.calm
 dI:=dI
 dG:=λ_ _=>False
noncomputable def qJ(X:bj)(ifs:List bz)(cc:fm):Prop:=∀(ag:List (ah×Obj)) (s:aK) (σ:bc.St) (H:aw) (Q:Bool->aw->Prop),bc.Inv X ag σ H s->jc X.K cc σ H Q ->
 bp (bL X.prog X.w) X.A (forIn ifs true λc r=>if r=true then do let ok <- isTrue c X.env (eval c X.env);pure (ForInStep.yield ok) else pure (ForInStep.yield r)) (xb X ag σ Q) X.dG s
def o2{X:bj}:qJ X [] (en true):=λag s σ H Q I ⟨au,aQ,O,F,ε,b,r,e,k⟩=>by
 cases e
 exact wpAny_tests_nil ⟨H,I,k F H (Ext.refl r.cf)⟩
def IM{X:bj}{c:bz}{cc:fm}(h:kd X c cc):qJ X [c] cc:=λag s σ H Q I q=>wpAny_tests_one (h ag s σ H Q I q)
section
variable {prog:cF}{w:cv}{A:cY}{R:Result->aK->Prop}{s:aK}
def Nu{elt target iter:bz}{ifs:List bz}{scope:Scope}{pos:Pos}{it acc:aj}{env:Env}(I:Nat->aK->Prop)
  (turn:∀n s,I n s->bp (bL prog w) A (pyNext it) (λr dd=>match r with
   |none=>R (.ok .next) dd
   |some v=>bp (bL prog w) A (letOwnedTupleGo target it v) (λ_ Mv=>bp (bL prog w) A (assign target env v) (λ_ lR=>
     bp (bL prog w) A (forIn ifs true λc r=>if r=true then do let ok <- isTrue c env (eval c env);pure (ForInStep.yield ok) else pure (ForInStep.yield r)) (λok sZ=>
      if ok=true then bp (bL prog w) A (eval elt env) (λx Mw=>
       bp (bL prog w) A (call (.builtin "list.append") [acc,x]) (λ_ Mx=>∃m,m<n/\I m Mx) (λ_ _=>False) Mw) (λ_ _=>False) sZ
      else ∃m,m<n/\I m sZ) (λ_ _=>False) lR) (λ_ _=>False) Mv) (λ_ _=>False) dd) (λ_ _=>False) s)
  (n:Nat) (h:I n s):codeAny (bL prog w) A (.compLoop (.ListComp elt [⟨target,iter,ifs,0⟩] scope pos) 0 it acc env) R s:=by
 refine codeAny_loop rfl I (λn s pD=>?_) n h
 show bp _ A ((compTurn (.ListComp elt [⟨target,iter,ifs,0⟩] scope pos) 0 it acc env).onRaise (λx=>do noteFrame x env;theTreesLotGoes x)) _ _ s
 refine wpAny_noted ?_
 rw[compTurn_list];refine aV (wpAny_standAt (aV (fL (turn n s pD) (λr dd e9=>?_) λ_ _ h'=>h'.elim)));cases r with
|none=>exact cw e9
|some v=>
  refine aV (fL e9 (λ_ Mv WL=>?_) λ_ _ h'=>h'.elim)
  refine aV (fL WL (λ_ lR i7=>aV (fL i7 (λok sZ hE=>?_) λ_ _ h'=>h'.elim)) λ_ _ h'=>h'.elim)
  cases ok with
  |false=>exact cw ⟨rfl,hE⟩
  |true=>
   exact aV (aV (fL hE (λx Mw u5=>aV (fL u5 (λ_ Mx ip=>cw (cw ⟨rfl,ip⟩)) λ_ _ h'=>h'.elim)) λ_ _ h'=>h'.elim))
end
end
section
variable [cV]
theorem v5{env:Env}{k:k7}:∀{names:List (Str×k7)} {x:Str},names.lookup x=some k->∃h1,(names.map λ(n,k)=>if (k==NameKind.free && env.scope.kind==.function && env.kindOf n==some .cell) then (n,NameKind.cell) else (n,k)).lookup x=some h1/\(h1=k\/(k=.free/\h1=.cell))
  | [],x,h=>by simp at h
  | (n,j)::r,x,h=>by
    have b9:=@v5 env k r x;show ∃h1,iR x ((if (j==NameKind.free && env.scope.kind==.function && env.kindOf n==some .cell)=true then (n,NameKind.cell) else (n,j))::_)=some h1/\_;cases hx:x==n with
    |true=>
      simp only[j5,hx] at h;cases h;by_cases ay:(k==NameKind.free && env.scope.kind==.function && env.kindOf n==some .cell)=true
      · rw[if_pos ay]
        refine⟨.cell,by simp[j5,hx],.inr ⟨?_,rfl⟩⟩
        simp only[jG] at ay;simpa using ay.1.1
      · rw[if_neg ay]
        exact⟨k,by simp[j5,hx],.inl rfl⟩
    |false=>
      simp only[j5,hx] at h;obtain⟨h1,ab,ak⟩:=b9 h;refine⟨h1,?_,ak⟩;by_cases ay:(j==NameKind.free && env.scope.kind==.function && env.kindOf n==some .cell)=true
      · rw[if_pos ay];simp only[j5,hx];exact ab
      · rw[if_neg ay];simp only[j5,hx];exact ab
def mem_lookup{names:List (Str×k7)}{x:Str}{k:k7}(h:names.lookup x=some k):∃y∈names,y.2=k/\y.1=x:=by
 induction names with
|nil=>simp at h
|cons y r b9=>
  rw[j5] at h;split at h
  next aa=>
   cases h
   exact⟨y,fA,rfl,by simpa using (beq_iff_eq.mp aa).symm⟩
  next=>
   obtain⟨z,aq,ab,ak⟩:=b9 h;exact⟨z,d6 _ aq,ab,ak⟩
def acL{scope:Scope}{env:Env}(pE:∀y∈scope.names,y.2≠.cell){x:Str}(h:(relabel scope env).names.lookup x=some .cell\/(relabel scope env).names.lookup x=some .free):∃y∈scope.names,y.2=.free/\y.1=x:=by
 have go:∀{k:k7},(relabel scope env).names.lookup x=some k->(k=.cell\/k=.free)->∃y∈scope.names,y.2=.free/\y.1=x:=λ{k} e aI=>by
  obtain⟨y,bI,ab,ak⟩:=mem_lookup e;obtain⟨⟨n,j⟩,aq,aS⟩:=et.mp (show y∈scope.names.map _ from bI);by_cases ay:(j==NameKind.free && env.scope.kind==.function && env.kindOf n==some .cell)=true
  ·have fJ:(n,NameKind.cell)=y:=by
    have hT:(if (j==NameKind.free && env.scope.kind==.function && env.kindOf n==some .cell)=true then (n,NameKind.cell) else (n,j))=y:=aS
    rwa [if_pos ay] at hT
   subst fJ;simp only[jG] at ay;exact⟨(n,j),aq,by simpa using ay.1.1,ak⟩
  ·have fJ:(n,j)=y:=by
    have hT:(if (j==NameKind.free && env.scope.kind==.function && env.kindOf n==some .cell)=true then (n,NameKind.cell) else (n,j))=y:=aS
    rwa [if_neg ay] at hT
   subst fJ;rcases aI with rfl|rfl
   ·exact absurd ab (pE _ aq)
   ·exact⟨(n,j),aq,ab,ak⟩
 rcases h with h|h
 ·exact go h (.inl rfl)
 ·exact go h (.inr rfl)
def bN.other{K:a_}{au O F:ah->Prop}{E:ey}{H:aw}{ε:Ev}{σ:bc.St}{a:ah}{xs ys:List V}(r:bN K au E O F H ε σ)(a7:¬F a)(aF:¬O a)(h0:E.h a=none)(ax:H a=some (.lst xs)):
  c' K F H F (upd H a (.lst ys))/\bN K au E O F (upd H a (.lst ys)) ε σ:=by
 have hm:lq (.lst xs):=.inl ⟨_,rfl⟩;have aD:c' K F H F (upd H a (.lst ys)):=PH a7 ax hm;have keep:∀(u:aG) (w:V),du K E O F H u w->du K E O F (upd H a (.lst ys)) u w/\cB (upd H a (.lst ys)) u w=cB H u w:=by
  intro u w dm;refine dm.keep aD (λb aa=>cQ ?_) (λ_ _ f=>f) λ_ _ o=>o;rintro rfl;cases pP:u.gn with
  |true=>exact aF ((dm.held aa).2.1 pP)
  |false=>exact (dm.held aa).2.2 pP h0
 refine⟨aD,⟨r.len,λj u e=>?_,λi j s u v w fk aH aS cD dQ ab ak=>?_,Pg r.ent h0 a7 ax hm,r.o0,λb e=>r.fr b ?_⟩⟩
 ·obtain⟨v,ab,ak⟩:=r.val j u e;exact⟨v,ab,(keep u v ak).1⟩
 ·obtain⟨h5,c3,aO⟩:=r.val i s aH;obtain⟨fe,iL,a4⟩:=r.val j u aS;rw[ab] at c3;rw[ak] at iL;cases c3;cases iL;rw[(keep s v aO).2,(keep u w a4).2];exact r.ne i j s u v w fk aH aS cD dQ ab ak
 ·by_cases nb:b=a
  ·subst nb;rw[dY] at e;cases e
  ·rwa [cQ nb] at e
noncomputable def Bk(n:Nat)(caps:List Nat)(σ:bc.St):bc.St:=dU n none++caps.map λi=>(σ[i]?).join
def join_some{α:Type}{o:Option (Option α)}{x:α}(h:o.join=some x):o=some (some x):=by
 cases o with
|none=>cases h
|some o=>exact congrArg some h
def aie{α:Type}{n:Nat}{caps:List Nat}{l:List (Option α)}{i:Nat}{x:α}(h:(dU n none++caps.map λi=>(l[i]?).join)[i]?=some (some x)):∃j,n<=i/\caps[i - n]?=some j/\l[j]?=some (some x):=by
 by_cases aJ:i<n
 ·rw[h7 (by simpa using aJ),List.getElem?_replicate] at h;rw[if_pos aJ] at h;cases h
 ·rw[lV (by simpa using aJ),List.length_replicate,ho] at h;cases e:caps[i - n]? with
  |none=>
   rw[e] at h;cases h
  |some j=>
   rw[e] at h;exact⟨j,by omega,rfl,join_some (eB h)⟩
def afX{α:Type}{n:Nat}{caps:List Nat}{l:List (Option α)}{i j:Nat}{x:α}(aJ:n<=i)(ay:caps[i - n]?=some j)(h:l[j]?=some (some x)):(dU n none++caps.map λi=>(l[i]?).join)[i]?=some (some x):=by
 rw[lV (by simpa using aJ),List.length_replicate,ho,ay];simp[h]
def bN.uz{K:a_}{au O F:ah->Prop}{E:ey}{H:aw}{ε:Ev}{σ:bc.St}{D:ah}(r:bN K au E O F H ε σ)(n:Nat){caps:List Nat}(a8:caps.Nodup)(hZ:H D=none):
  bN K au E (λa=>O a/\a≠D) F (upd H D (.lst [])) (jj n caps ε) (Bk n caps σ):=by
 have x:=Ext.laid (o:=.lst []) r.cf hZ;have keep:∀(u:aG) (w:V),du K E O F H u w->du K E (λa=>O a/\a≠D) F (upd H D (.lst [])) u w/\cB (upd H D (.lst [])) u w=cB H u w:=by
  intro u w dm;have nb:∀b∈cB H u w,b≠D:=λb aa z=>by
   obtain⟨o,e,_⟩:=dm.at aa;rw[z,hZ] at e;cases e
  exact dm.keep x.aD (λb aa=>cQ (nb b aa)) (λ_ _ f=>f) λb aa o=>⟨o,nb b aa⟩
 refine⟨by simp[jj,Bk],λi s e=>?_,λi j s u v w fk aH aS cD dQ ab ak=>?_,r.ent.trans x,λa h=>r.o0 a h.1,λa h=>?_⟩
 ·obtain⟨j,a7,ay,a9⟩:=aie e;obtain⟨v,ab,ak⟩:=r.val j s a9;exact⟨v,afX a7 ay ab,(keep s v ak).1⟩
 ·obtain⟨D',aJ,ci,f6⟩:=aie aH;obtain⟨pJ,bC,Kz,eO⟩:=aie aS;obtain⟨cu,_,Ky,c3⟩:=aie (l:=σ) ab;obtain⟨Lv,_,KA,iL⟩:=aie (l:=σ) ak;rw[ci] at Ky;rw[Kz] at KA;cases Ky;cases KA;obtain⟨h5,aP,aO⟩:=r.val D' s f6;obtain⟨fe,ba,a4⟩:=r.val pJ u eO;rw[c3] at aP;rw[iL] at ba;cases aP;cases ba;rw[(keep s v aO).2,(keep u w a4).2];refine r.ne D' pJ s u v w (λz=>?_) f6 eO cD dQ c3 iL;subst z;obtain⟨b1,lM⟩:=ed.mp ci;obtain⟨b_,kV⟩:=ed.mp Kz;have ne:i - n≠j - n:=by omega
  rcases Nat.lt_or_gt_of_ne ne with q|q
  ·exact (List.pairwise_iff_getElem.mp a8 _ _ b1 b_ q) (lM.trans kV.symm)
  ·exact (List.pairwise_iff_getElem.mp a8 _ _ b_ b1 q) (kV.trans lM.symm)
 ·have a8:a≠D:=by
   rintro rfl;rw[dY] at h;cases h
  rw[cQ a8] at h;exact⟨r.fr a h,a8⟩
end
section
variable [cV]
structure o9(X:bj)(scope:Scope)(own:List Str)(caps:List (Nat×Str)):Prop where
 kind:scope.kind=.function
 names:∀y∈scope.names,y.2=.local->scope.names.lookup y.1=some .local
 cell:∀y∈scope.names,y.2≠.cell
 free:∀y∈scope.names,y.2=.free->X.env.kindOf y.1=some .cell\/X.env.kindOf y.1=some .free
 uz:∀p∈caps,X.N[p.1]?=some p.2/\scope.names.lookup p.2=some .free
 a8:(caps.map (·.1)).Nodup
 calm:X.calm=true
section
variable {X:bj}{cX iter elt:bz}{ifs:List bz}{scope:Scope}{it:iY}{i4:h_}{cc:fm}{hV:bE}{pos:Pos}{own:List Str}{caps:List (Nat×Str)}
def AW{ag:List (ah×Obj)}{σ:bc.St}{a':aw}{s2:aK}{bW:List ah}(S:o9 X scope own caps)(b0:bc.Inv X ag σ a' s2)(f2:∀b∈bW,kI X ag a' b)(gI:∀b∈bW,b<s2.heap.objs.size)(ud:List Str):
  (gN X ud scope (ic X.env scope.names []) (s2.heap.push {cls:=.type "list",data:=.seq ([]:List aj).toArray}).objs.size {s2 with heap:=s2.heap.push {cls:=.type "list",data:=.seq ([]:List aj).toArray} } (upd a' s2.heap.objs.size (.lst [])) bW (X.dI++ag)).Ok:=by
 have mv:∀x∈scope.names,x.2=.free->∃c,X.env.cells.lookup x.1=some c:=λx hx aI=>b0.ok.has x.1 (S.free x hx aI);have l_:∀x c,(ic X.env scope.names []).lookup x=some c->X.env.cells.lookup x=some c:=wm mv (λx c e=>by simp at e);have dx:=b0.sL (its:=[]) (ys:=[]) (t':=s2.toks) .nil (ku _);have h3:(s2.heap.push {cls:=.type "list",data:=.seq ([]:List aj).toArray}).objs.size=s2.heap.objs.size+1:=jF ..;refine⟨b0.ok.mod,S.kind,b0.ok.glob,b0.ok.blt,dD _,λx y c aH aS=>b0.ok.inj x y c (l_ x c aH) (l_ y c aS),λx hx=>?_,λx c h=>(by cases h),b0.ok.hd,b0.ok.frames,.inl rfl,λb aa=>⟨?_,λx c e=>(f2 b aa).2.2.2.2.1 x c (l_ x c e)⟩,λb o e=>?_,?_,λb o e aa=>?_,λb aa hf=>?_,dx.stack,dx.Ms⟩
 ·exact wC (.inl (acL S.cell hx))
 ·show b≠(s2.heap.push {cls:=.type "list",data:=.seq ([]:List aj).toArray}).objs.size
  have h:=gI b aa;rw[h3];exact eL (Nat.lt_succ_of_lt h)
 ·obtain⟨ab,ak⟩:=dx.bs b o e;exact⟨ab,ak⟩
 ·have ab:=lW b0.ok.pq b0.h3;show X.base.objs.size<=(s2.heap.push {cls:=.type "list",data:=.seq ([]:List aj).toArray}).objs.size;omega
 ·rcases (f2 b aa).2.2.2.1 with q|q
  ·exact b0.ok.vi b o e q
  ·exact absurd (jd (cP (b0.ok.bs b o e).1) q) (Nat.lt_irrefl _)
 ·rcases cM.mp (b0.vy b hf) with q|q
  ·exact (f2 b aa).2.1 q
  ·exact (f2 b aa).2.2.1 q
def afb{ag:List (ah×Obj)}{σ:bc.St}{a':aw}{s2:aK}{bW:List ah}(S:o9 X scope own caps)(b0:bc.Inv X ag σ a' s2)(f2:∀b∈bW,kI X ag a' b)(gI:∀b∈bW,b<s2.heap.objs.size){e9:bT}{m:Str->Option aj}{tk:Nat}
  (sG:e9.Ns (s2.heap.push {cls:=.type "list",data:=.seq ([]:List aj).toArray}).objs.size m) (keep:∀b u,(s2.heap.push {cls:=.type "list",data:=.seq ([]:List aj).toArray}).get? b=some u->e9.get? b=some u):
  bc.Inv (gN X (own++caps.map (·.2)) scope (ic X.env scope.names []) (s2.heap.push {cls:=.type "list",data:=.seq ([]:List aj).toArray}).objs.size {s2 with heap:=s2.heap.push {cls:=.type "list",data:=.seq ([]:List aj).toArray} } (upd a' s2.heap.objs.size (.lst [])) bW (X.dI++ag)) []
   (Bk own.length (caps.map (·.1)) σ) (upd a' s2.heap.objs.size (.lst [])) {s2 with heap:=e9,toks:=tk}:=by
 have mv:∀x∈scope.names,x.2=.free->∃c,X.env.cells.lookup x.1=some c:=λx hx aI=>b0.ok.has x.1 (S.free x hx aI);have l_:∀x c,(ic X.env scope.names []).lookup x=some c->X.env.cells.lookup x=some c:=wm mv (λx c e=>by simp at e);have dx:=b0.sL (its:=[]) (ys:=[]) (t':=s2.toks) .nil (ku _);refine⟨AW S b0 f2 gI _,rfl,b0.bare,gB.kept keep,⟨m,sG,λi x v ab ak bq=>?_⟩,λx c e=>?_,?_,λx c e=>dx.mq x c (l_ x c e),λp aL=>?_,dx.b8.kept keep,by simp[Bk,gN]⟩
 ·obtain⟨j,a7,ay,bC⟩:=aie (l:=σ) ak;have hx:(caps.map (·.2))[i - own.length]?=some x:=by
   have:(own++caps.map (·.2))[i]?=some x:=ab
   rwa [lV a7] at this
  rw[ho] at ay hx;cases ep:caps[i - own.length]? with
  |none=>rw[ep] at ay;cases ay
  |some p=>
   rw[ep] at ay hx;cases ay;cases hx;obtain⟨dk,hf⟩:=S.uz p (p4 ep);obtain⟨y,bI,eQ,dN⟩:=mem_lookup hf;have aI:=S.free y bI eQ;rw[dN] at aI;obtain⟨rd,We,uV⟩:=dx.loc;have GY:lu X.env.scope p.2:=by
    rcases aI with aI|aI
    ·exact .inr (.inl aI)
    ·exact .inr (.inr aI)
   obtain⟨u,dm,FL⟩:=uV p.1 p.2 v dk bC GY;refine⟨u,dm,.inr ⟨?_,?_⟩⟩
   ·obtain⟨h1,aH,aS⟩:=v5 (env:=X.env) hf;rcases aS with rfl|⟨_,rfl⟩
    ·exact .inr aH
    ·exact .inl aH
   ·rcases FL with ⟨q,_⟩|⟨_,c,ay,pE⟩
    ·rcases aI with aI|aI
     ·rw[aI] at q;cases q
     ·rw[aI] at q;cases q
    ·obtain⟨d0,dh⟩:=wC (env:=X.env) (l:=scope.names) (cs:=[]) (x:=p.2) (.inl ⟨y,bI,eQ,dN⟩);have:=l_ _ _ dh;rw[ay] at this;cases this;obtain⟨hH,aF,hd⟩:=pE;exact⟨c,dh,hH,keep _ _ aF,hd⟩
 ·obtain⟨v,hH,aF,hd⟩:=dx.cell x c (l_ x c e);exact⟨v,hH,keep _ _ aF,hd⟩
 ·exact dx.b8.fresh (dD _)
 ·have kS:p∈X.dI++ag:=by simpa [gN] using aL
  obtain⟨ab,ak,bF,cT,gG⟩:=dx.pin p kS;refine⟨keep _ _ ab,ak,eL (cP ab),λz=>?_,gG⟩;rcases cM.mp (b0.vy p.1 z) with q|q
  ·exact bF q
  ·exact cT q
def Ob{ag:List (ah×Obj)}{σ bD:bc.St}{a' af:aw}{s2 s':aK}{bW:List ah}{ud:List Str}(b0:bc.Inv X ag σ a' s2)(f2:∀b∈bW,kI X ag a' b)
  (J:bc.Inv (gN X ud scope (ic X.env scope.names []) (s2.heap.push {cls:=.type "list",data:=.seq ([]:List aj).toArray}).objs.size {s2 with heap:=s2.heap.push {cls:=.type "list",data:=.seq ([]:List aj).toArray} } (upd a' s2.heap.objs.size (.lst [])) bW (X.dI++ag)) [] bD af s')
  {h':bT} (jb:Heap.SameBut (s2.heap.push {cls:=.type "list",data:=.seq ([]:List aj).toArray}).objs.size s'.heap h'):bc.Inv X ag σ af {s' with heap:=h'}:=by
 have dx:=b0.sL (its:=[]) (ys:=[]) (t':=s2.toks) .nil (ku _);have u:=J.base;have free:af (s2.heap.push {cls:=.type "list",data:=.seq ([]:List aj).toArray}).objs.size=none:=J.free;have old:∀b o,(s2.heap.push {cls:=.type "list",data:=.seq ([]:List aj).toArray}).get? b=some o->b≠(s2.heap.push {cls:=.type "list",data:=.seq ([]:List aj).toArray}).objs.size:=λb o e=>eL (cP e);have aiq:∀b,b≠(s2.heap.push {cls:=.type "list",data:=.seq ([]:List aj).toArray}).objs.size->∀o,s'.heap.get? b=some o->h'.get? b=some o:=λb aa o e=>jb.extBut b o aa e;have zm:gB (mr X.stack) bW (upd a' s2.heap.objs.size (.lst [])) af (s2.heap.push {cls:=.type "list",data:=.seq ([]:List aj).toArray}) h':=by
  refine⟨λb o e n hf hx=>aiq b (old b o e) _ (u.keep b o e n hf hx),λb o e n hf hx=>?_,u.free,λb o e hx=>?_,u.ah9,u.ni,u.oC⟩
  ·obtain⟨cI,q⟩:=u.slot b o e n hf hx;exact⟨cI,aiq b (old b o e) _ q⟩
  ·obtain⟨o',q⟩:=u.there b o e hx;exact⟨o',aiq b (old b o e) _ q⟩
 have b8:e2 X.prog X.w af h':=λb o e=>by
  refine (J.b8 b o e).jD (λc v ay q=>aiq c (λz=>?_) v q) (λ_ q=>q) λ_ _ q=>q
  rcases ay with rfl|ay
  ·rw[z,free] at e;cases e
  ·rw[z,free] at ay;cases ay
 have oi:=J.os;have VC:=J.bare;obtain⟨c4,g,d,t,os⟩:=s';obtain rfl:os=s2.os:=oi;have fin:=dx.call (h':=h') (g':=g) (d':=d) (t':=t) (ch:=bW) zm b8 VC λb aa=>⟨(f2 b aa).2.2.2.1,(f2 b aa).2.1,(f2 b aa).2.2.2.2.1,(f2 b aa).2.2.2.2.2⟩;exact fin
def aei{X':bj}{R:Result->aK->Prop}{J:kb}{bW:List ah}{q_ D:ah}{gs:Nat->bT->Prop}{au O aX:ah->Prop}{aQ:ey}{a':aw}{ts ys:List T}(hx:X'.dG=λ_ _=>False)(ay:X'.calm=true)(bG:n3 X' cX i4)(bg:qJ X' ifs cc)(he:cC X' elt hV)
  (T:Turn X'.prog X'.w X'.K cX J bW q_ gs) (mE:∀af:aw,(∀b∈bW,af b=none)->∀b∈bW,kI X' [] af b) (ok:nZ X'.K J aX a' ts) (uN:ts.length<=big) (lF:a' D=none) (ih:¬O D) (Vq:aQ.h D=none)
  (fin:∀bD af aB s1 vs,bc.Inv X' [] bD af s1->Ext aX a' aB af->af D=some (.lst vs)->¬aB D->bh X'.K aB af ys vs->R (.ok .next) s1)
  {s:aK} {σ:bc.St} {H:aw} {F:ah->Prop} {ε:Ev} (I:bc.Inv X' [] σ H s) (st:gs 0 s.heap) (fr:∀b∈bW,H b=none) (x:Ext aX a' F H) (r:bN X'.K au aQ O F H ε σ) (hZ:H D=some (.lst [])) (FR:¬F D) (fy:fW i4 cc hV ts ε=some ys):
  codeAny (bL X'.prog X'.w) X'.A (.compLoop (.ListComp elt [⟨cX,iter,ifs,0⟩] scope pos) 0 (.ref q_) (.ref D) X'.env) R s:=by
 refine Nu (λn s'=>∃i bD af aB ε' ez vs,n=ts.length - i/\i<=ts.length/\bc.Inv X' [] bD af s'/\gs i s'.heap/\(∀b∈bW,af b=none)/\Ext aX a' aB af/\bN X'.K au aQ O aB af ε' bD/\af D=some (.lst vs)/\¬aB D/\bh X'.K aB af ez vs/\ez.length<=i /\
  ∃rest,fW i4 cc hV (ts.drop i) ε'=some rest/\ys=ez++rest) ?_ ts.length ⟨0,σ,H,F,ε,[],[],rfl,ku _,I,st,fr,x,r,hZ,FR,bh.nil,dD _,ys,by simpa using fy,by simp⟩
 rintro n s3 ⟨i,j_,dn,gw,Jk,ez,vs,rfl,aJ,dx,pV,pC,d5,b5,oa,sM,c9,uV,rest,fs,es⟩;have gZ:∀{kH:ah->Prop} {iZ:aw} {jq:ah->Prop} {gx:aw} {o:dZ},Ext kH iZ jq gx->iZ D=some o->¬kH D->¬jq D:=λy e n z=>by
  rcases y.new D z with q|q
  ·exact n q
  ·rw[e] at q;cases q
 by_cases d2:i<ts.length
 ·have hd:ts.drop i=ts[i]::ts.drop (i+1):=List.drop_eq_getElem_cons d2;have mw:ts[i]?=some ts[i]:=h6 d2;rw[hd] at fs;simp only[fW,cg] at fs;obtain⟨t9,mi,b,dv,fs⟩:=fs;refine fL (T.item X' rfl rfl rfl ay i [] s3 j_ dn (λ_ _=>False) dx (mE dn pC) pV (ok.go i gw dn _ d5.aD b5.cf mw)) (λbZ s4 ⟨u,aC,cT⟩=>?_) λ_ _ z=>z;subst aC;refine fL cT (λ_ s5 ⟨hN,gx,l7,rm,vO,mD,uI⟩=>?_) λ_ _ z=>z;obtain⟨jq,vI,aU⟩:=ok.lX i gw dn _ hN gx d5.aD b5.cf mw vO;have ub:=l7.pinned (mE gx uI) (T.obj _ _ mD);have K2:=bG _ s5 j_ gx hN u (λnV r9=>r9=gx/\bN X'.K au aQ O jq gx t9 nV) ub rm ⟨au,aQ,O,jq,Jk,_,t9,b5.ext vI,aU,mi,λnV oz=>⟨rfl,oz⟩⟩;rw[hx] at K2;refine fL K2 (λ_ ja ⟨nV,r9,pb,pv,oz⟩=>?_) λ_ _ z=>z;subst pv;have again:∀{iC:bc.St} {eD:aw} {cW:aK},bc.Inv X' ([]++rY bW s5.heap) iC eD cW->gs (i+1) cW.heap/\(∀b∈bW,eD b=none)/\bc.Inv X' [] iC eD cW:=λ{iC eD cW} gy=>by
   refine⟨T.keep _ _ _ mD λb aa o e=>(gy.pin (b,o) (kr _ (kr _ (tC aa e)))).1,λb aa=>?_,gy.vC⟩
   obtain⟨o,e,d⟩:=T.obj _ _ mD b aa;exact (gy.pin (b,o) (kr _ (kr _ (tC aa e)))).2.1
  have u3:=bg _ ja nV r9 (λm7 eD=>m7=b/\∃jr,Ext jq r9 jr eD) pb ⟨au,aQ,O,jq,t9,b,oz,dv,λjr eD lT=>⟨rfl,jr,lT⟩⟩;rw[hx] at u3;refine fL u3 (λL2 cW ⟨eD,gy,pw,jr,lT⟩=>?_) λ_ _ z=>z;subst pw;have vH:=vI.trans lT;have rn:=oz.ext lT;cases L2 with
  |false=>
   simp only[p3,if_false] at fs ⊢;obtain⟨a1,a2,i2⟩:=again gy;exact⟨_,by omega,i+1,nV,eD,jr,t9,ez,vs,rfl,d2,i2,a1,a2,d5.trans vH,rn,vH.same.get oa,gZ vH oa sM,c9.ext vH,by omega,rest,fs,es⟩
  |true=>
   simp only[if_true,cg,dX] at fs ⊢;obtain⟨y,Ve,GA,C',rfl⟩:=fs;have kf:=he _ cW nV eD (λv jQ=>∃js,Ext jr eD js jQ/\Rep X'.K js jQ y v) gy ⟨au,aQ,O,jr,t9,y,rn,Ve,λv js jQ mH Gn=>⟨js,mH,Gn⟩⟩;rw[hx] at kf;refine fL kf (λu8 eS ⟨rt,jQ,Bp,_Q,js,mH,Gn⟩=>?_) λ_ _ z=>z;have zo:=vH.trans mH;have sz:=zo.same.get oa;have sN:=gZ zo oa sM;obtain⟨EY,Gw⟩:=(rn.ext mH).other (ys:=vs++[rt]) sN ih Vq sz;have ax:=HV (X:=X') _ eS nV jQ (.ref D) [rt] (.ref D) [u8] (λ_ ua=>ua=upd jQ D (.lst (vs++[rt]))) Bp rfl (.cons _Q .nil) ⟨D,vs,rt,rfl,rfl,sz,by rw[jl,<- c9.length];omega,rfl⟩;rw[hx] at ax;refine fL ax (λu9 pU ⟨v9,ua,Bq,_R,px⟩=>?_) λ_ _ z=>z;subst px;obtain⟨a1,a2,i2⟩:=again Bq;have x9:Ext aX a' js (upd jQ D (.lst (vs++[rt]))):=by
    have y:=d5.trans zo;refine⟨λb o e=>?_,y.sub,y.new,⟨λb f=>?_,y.cf.pW.upd λu e=>.inl ⟨_,eB (e.symm.trans sz)⟩⟩⟩
    ·have nb:b≠D:=by
      rintro rfl;rw[lF] at e;cases e
     rw[cQ nb];exact y.same b o e
    ·have nb:b≠D:=by
      rintro rfl;exact sN f
     rw[cQ nb];exact y.cf b f
   refine⟨_,by omega,i+1,nV,_,js,t9,ez++[y],vs++[rt],rfl,d2,i2,a1,a2,x9,Gw,dY,sN,((c9.ext zo).append (bh.cons Gn bh.nil)).aD EY,by simp;omega,GA,C',by rw[es];simp⟩
 ·have hd:ts.drop i=[]:=List.drop_eq_nil_of_le (by omega);rw[hd] at fs;cases fs;refine fL (T.done X' rfl rfl rfl ay i [] s3 j_ dn (λ_ _=>False) dx (mE dn pC) pV (ok.stop i gw dn d5.aD (by omega))) (λbZ s4 ⟨aC,i0⟩=>?_) λ_ _ z=>z;subst aC;exact fin j_ dn gw s4 vs i0 d5 oa sM (by rw[es,mJ];exact c9)
structure After(X:bj)(ag:List (ah×Obj))(σ:bc.St)(F:ah->Prop)(H:aw)(ys:List T)(D C:ah)(af:aw)(aB:ah->Prop)(s1:aK)(vs:List V):Prop where
 inv:∀h',Heap.SameBut C s1.heap h'->bc.Inv X ag σ af {s1 with heap:=h'}
 ns:∃m,s1.heap.Ns C m
 free:af C=none
 above:X.dq.heap.objs.size<=C
 cells:∀x c,X.env.cells.lookup x=some c->c≠C
 pin:∀p∈X.dI++ag,p.1≠C
 loc:C≠X.env.locals
 new:H D=none
 ext:Ext F H aB af
 gZ:¬aB D
 lst:af D=some (.lst vs)
 rep:bh X.K aB af ys vs
def Pj{use:Option (aj->Sem Unit)}{Q:aj->aK->Prop}{fK:Pos}(S:o9 X scope own caps)(aJ:m4 X cX iter it)
  (bG:∀cl C dq aQ bW dI,n3 (gN X (own++caps.map (·.2)) scope cl C dq aQ bW dI) cX i4)
  (bg:∀cl C dq aQ bW dI,qJ (gN X (own++caps.map (·.2)) scope cl C dq aQ bW dI) ifs cc)
  (he:∀cl C dq aQ bW dI,cC (gN X (own++caps.map (·.2)) scope cl C dq aQ bW dI) elt hV)
  (az:∀x,oS iter X.env x=pure x) {ag:List (ah×Obj)} {s:aK} {σ:bc.St} {H:aw} {au O F:ah->Prop} {aQ:ey} {ε:Ev} {ys:List T} (I:bc.Inv X ag σ H s) (r:bN X.K au aQ O F H ε σ)
  (e:comp own.length (caps.map (·.1)) it i4 cc hV ε=some (.list ys)) (fin:∀D C af aB s1 vs,After X ag σ F H ys D C af aB s1 vs->compPost (bL X.prog X.w) X.A X.dG use Q (.ref D) C (.ok .next) s1):
  bp (bL X.prog X.w) X.A (comprehension (.ListComp elt [⟨cX,iter,ifs,0⟩] scope pos) scope X.env fK (newList []) false (eval iter X.env) use) Q X.dG s:=by
 simp only[comp,cg] at e;obtain⟨ts,bx,e⟩:=e;split at e
 case isFalse=>cases e
 next uN=>
 simp only[dX] at e;obtain⟨ah8,fy,e⟩:=e;cases e;have mv:∀x∈scope.names,x.2=.free->∃c,X.env.cells.lookup x.1=some c:=λx hx aI=>I.ok.has x.1 (S.free x hx aI);refine wpAny_comprehension_free rfl az (Nc mv) S.kind S.names (ct (aJ ag s σ H (λJ H1=>∃aX,Ext F H aX H1/\nZ X.K J aX H1 ts) I ⟨au,aQ,O,F,ε,ts,r,bx,λJ aX H1 aR ok=>⟨aX,aR,ok⟩⟩) λv s1 ab=>ct ab λyj s2 ak=>?_);obtain⟨q_,bW,gs,J,a',rfl,b0,T,hI,f2,aX,aR,ok⟩:=ak;have gI:∀b∈bW,b<s2.heap.objs.size:=λb aa=>by
  obtain⟨o,aF,_⟩:=T.obj 0 _ hI b aa;exact cP aF
 have lF:a' s2.heap.objs.size=none:=b0.fresh;have hZ:H s2.heap.objs.size=none:=aR.same.none lF;have h3:(s2.heap.push {cls:=.type "list",data:=.seq ([]:List aj).toArray}).objs.size=s2.heap.objs.size+1:=jF ..;refine wpAny_newList ?_ (ku _);refine wpAny_newFunctionEnv S.cell (by intro y bI;simp at bI) (λe9 DV D2=>?_) S.kind;have keep:∀b u,(s2.heap.push {cls:=.type "list",data:=.seq ([]:List aj).toArray}).get? b=some u->e9.get? b=some u:=λb u e=>D2.extBut b u (eL (cP e)) (c2 _ e);have i0:=afb (tk:=s2.toks+0) S b0 f2 gI DV keep;have kl:=(r.ext aR).uz (D:=s2.heap.objs.size) own.length S.a8 lF;refine codeAny_compStart_list ?loop (T.self _ 0 _ _ _ (T.keep 0 _ _ hI λb aa o e=>keep b o (c2 _ e)) ?loop);refine aei (X':=gN X (own++caps.map (·.2)) scope (ic X.env scope.names []) (s2.heap.push {cls:=.type "list",data:=.seq ([]:List aj).toArray}).objs.size {s2 with heap:=s2.heap.push {cls:=.type "list",data:=.seq ([]:List aj).toArray} } (upd a' s2.heap.objs.size (.lst [])) bW (X.dI++ag))
  rfl S.calm (bG _ _ _ _ _ _) (bg _ _ _ _ _ _) (he _ _ _ _ _ _) T (λaf a7 b aa=>?_) ok uN lF (λz=>z.2 rfl) (r.o0 _ (r.fr _ hZ)) (λbD af aB s1 vs qA hN Du FT eb=>?_) i0 (T.keep 0 _ _ hI λb aa o e=>keep b o (c2 _ e)) (λb aa=>?_) (Ext.laid aR.cf lF) kl dY ?_ fy
 ·have ah_:=AW S b0 f2 gI (own++caps.map (·.2));refine⟨a7 b aa,(ah_.sv b aa).1,ah_.sx b aa,.inl aa,λx c e=>(ah_.sv b aa).2 x c e,λp aL=>?_⟩;have kS:p∈X.dI++ag:=by simpa [gN] using aL
  exact (f2 b aa).2.2.2.2.2 p kS
 ·obtain⟨m,a7,_⟩:=id qA.loc;refine fin s2.heap.objs.size _ af aB s1 vs ⟨λh' jb=>Ob b0 f2 qA jb,⟨m,a7⟩,qA.free,?_,λx c e z=>?_,λp aL z=>?_,?_,hZ,aR.trans hN,FT,Du,eb⟩
  ·rw[h3];exact Nat.le_succ_of_le b0.h3
  ·obtain⟨v,q⟩:=b0.cell x c e;have:=q.lt;rw[z,h3] at this;exact absurd this (Nat.not_lt.mpr (gu _))
  ·have:=cP (b0.pin p aL).1;rw[z,h3] at this;exact absurd this (Nat.not_lt.mpr (gu _))
  ·have:=b0.lt;rw[h3];exact g_ (Nat.lt_succ_of_lt this)
 ·have:=(f2 b aa).1;rw[cQ (eL (gI b aa))];exact this
 ·intro z;obtain⟨o,e⟩:=aR.cf _ z;rw[lF] at e;cases e
def ago(S:o9 X scope own caps)(aJ:m4 X cX iter it)
  (bG:∀cl C dq aQ bW dI,n3 (gN X (own++caps.map (·.2)) scope cl C dq aQ bW dI) cX i4)
  (bg:∀cl C dq aQ bW dI,qJ (gN X (own++caps.map (·.2)) scope cl C dq aQ bW dI) ifs cc)
  (he:∀cl C dq aQ bW dI,cC (gN X (own++caps.map (·.2)) scope cl C dq aQ bW dI) elt hV)
  (az:∀x,oS iter X.env x=pure x:=by intro _;rfl):qF X (.ListComp elt [⟨cX,iter,ifs,0⟩] scope pos) (comp own.length (caps.map (·.1)) it i4 cc hV):=by
 intro ag s σ H Q I ⟨au,aQ,O,F,ε,ys,r,e,k⟩;rw[eval_ListComp];refine Pj S aJ bG bg he az I r e λD C af aB s1 vs a=>?_;obtain⟨m,a7⟩:=a.ns;exact⟨m,a7,λh' jb=>⟨.ref D,af,a.inv h' jb,rfl,k D vs aB af a.ext a.new a.gZ a.lst a.rep⟩⟩
def OI{ε:Ev}{n:Nat}{cs:List Nat}{t:T}(e:comp n cs it i4 cc hV ε=some t):∃ts,t=.list ts:=by
 simp only[comp,cg] at e;obtain⟨ts,_,e⟩:=e;split at e
 ·simp only[dX] at e;obtain⟨ys,_,e⟩:=e;exact⟨ys,e.symm⟩
 ·cases e
def oW(S:o9 X scope own caps)(aJ:m4 X cX iter it)
  (bG:∀cl C dq aQ bW dI,n3 (gN X (own++caps.map (·.2)) scope cl C dq aQ bW dI) cX i4)
  (bg:∀cl C dq aQ bW dI,qJ (gN X (own++caps.map (·.2)) scope cl C dq aQ bW dI) ifs cc)
  (he:∀cl C dq aQ bW dI,cC (gN X (own++caps.map (·.2)) scope cl C dq aQ bW dI) elt hV)
  (az:∀x,oS iter X.env x=pure x:=by intro _;rfl):cC X (.ListComp elt [⟨cX,iter,ifs,0⟩] scope pos) (comp own.length (caps.map (·.1)) it i4 cc hV):=
 LM (ago S aJ bG bg he az) λε t e=>OI e
def P8(i:Nat){x:Str}{h2 iP:Pos}(dk:X.N.Nodup)(S:o9 X scope own caps)(hit:m4 X cX iter it)
  (bG:∀cl C dq aQ bW dI,n3 (gN X (own++caps.map (·.2)) scope cl C dq aQ bW dI) cX i4)
  (bg:∀cl C dq aQ bW dI,qJ (gN X (own++caps.map (·.2)) scope cl C dq aQ bW dI) ifs cc)
  (he:∀cl C dq aQ bW dI,cC (gN X (own++caps.map (·.2)) scope cl C dq aQ bW dI) elt hV)
  (aJ:X.N[i]?=some x:=by rfl) (hx:Loc X.env.scope x:=by first|exact Or.inl rfl|exact Or.inr rfl)
  (mx:iS (.ListComp elt [⟨cX,iter,ifs,0⟩] scope pos) (some (.Name x h2)) iP.line X.env=pure true:=by rfl)
  (hf:X.fn x=true\/X.env.scope.names.lookup x=some .local:=by first|exact .inl rfl|exact .inr rfl)
  (az:∀x,oS iter X.env x=pure x:=by intro _;rfl):
  gA X (.Assign [.Name x h2] (.ListComp elt [⟨cX,iter,ifs,0⟩] scope pos) iP) (asg i (comp own.length (caps.map (·.1)) it i4 cc hV)):=by
 intro ag s σ H D I ⟨au,aQ,O,F,ε,o,r,e,k⟩;simp only[asg,dX] at e;obtain⟨t,bx,rfl⟩:=e;obtain⟨ys,rfl⟩:=OI bx;rw[exec_Assign_Name_used _ _ _ _ mx];refine aV (wpAny_standAt (aV ?_));show bp _ X.A (do let _ <- comprehension (.ListComp elt [⟨cX,iter,ifs,0⟩] scope pos) scope X.env _ (newList []) false (eval iter X.env) (some (assign (.Name x h2) X.env))) _ _ s;refine aV (ct (Pj (use:=some (assign (.Name x h2) X.env)) (Q:=λ_ s'=>pe X ag D .next s') S hit bG bg he az I r bx λt_ C af aB s1 vs a=>?_) λ_ s' bK=>cw (cw bK));have R_:=a.inv s1.heap (Heap.SameBut.refl ..);have Br:bc.Inv X ag σ af s1:=R_;show bp _ X.A (assign (.Name x h2) X.env (.ref t_)) _ _ _;refine wpAny_assign_Name (Ap (v:=.ref t_) Br dk aJ hx rfl (λs2 b0 ⟨b,jb,aa⟩=>?_) hf);obtain⟨m,a7⟩:=a.ns;have nb:C≠b:=by
  rcases aa with rfl|aa
  ·exact a.loc
  ·exact (a.cells x b aa).symm
 refine⟨m,a7.sameBut jb nb,λh' GI=>?_⟩
 have dx:bc.Inv X ag (σ.set i (some (.ref t_))) af {s2 with heap:=h'}:=b0.turned (t':=s2.toks) (it:=C) (λb o aa e=>GI.extBut b o aa e) a.free a.loc (.inr a.above) a.cells a.pin;refine⟨_,af,dx,?_⟩;have y:Ext F H (λb=>aB b\/b=t_) af:=⟨a.ext.same,λb z=>.inl (a.ext.sub b z),λb z=>by
  rcases z with z|rfl
  ·exact a.ext.new b z
  ·exact .inr a.new,⟨λb z=>by
  rcases z with z|rfl
  ·exact a.ext.cf b z
  ·exact⟨_,a.lst⟩,a.ext.cf.pW⟩⟩
 refine k _ _ af y.aD ((r.ext y).set i ?_)
 simp only[Rep];exact⟨t_,vs,rfl,.inr rfl,.inl a.lst,a.rep.keep (λ_ _ z=>z) λb _ z w=>⟨.inl z,w⟩⟩
end
end
section
variable [cV]
open AutoSeq1 (wpAny_loadPart')
def ab0(l:ah)(items:Array aj)(n:Nat)(xh:Option ah)(cI:Array (Option aj)):
  Meets (Builtin.«enumerate.__new__» ⟨[.type "enumerate",.ref l],[]⟩) (λ_ R s=>s.heap.get? l=some {cls:=.type "tuple",dict:=xh,data:=.seq items n,slots:=cI} /\
   R (.ok (.ret (.ref (s.heap.push {cls:=.type "tuple_iterator",data:=.fields #[.ref l,.int 0 0]}).objs.size)))
    {s with heap:=(s.heap.push {cls:=.type "tuple_iterator",data:=.fields #[.ref l,.int 0 0]}).push {cls:=.type "enumerate",data:=.fields #[.none,.bool false,.ref s.heap.objs.size,rawInt 0,.none,.none]} }):=
 .of_wp λprog w A R s h=>by
  obtain⟨aL,g,d,tk,os⟩:=s;obtain⟨av,h⟩:=h;have Le:=sub_enumerate;have hg:Heap.IsTuple (Shared.heap ⟨aL,g,d,tk,os⟩) l items:=⟨_,av,rfl,n,rfl⟩
  wp_walk using wpAny_loadPart' av
  refine wpAny_stack_any λst=>cw ?_
  split
  ·rename_i c _ _ _ _ _
   cases (c==Value.type "enumerate")
   ·wp_walk using wpAny_loadPart' av,vM hg
    exact⟨_,rfl,h⟩
   ·wp_walk using wpAny_loadPart' av,vM hg
    exact⟨_,rfl,h⟩
  ·wp_walk using wpAny_loadPart' av,vM hg
   exact⟨_,rfl,h⟩
section
variable {prog:cF}{w:cv}{A:cY}{E:aj->aK->Prop}{s:aK}
def MR{l:ah}{items:Array aj}{Q:aj->aK->Prop}(hg:s.heap.IsTuple l items)
  (h:∀h',IsEnum h' (s.heap.objs.size+1) s.heap.objs.size 0 .none->h'.IsTupleIter s.heap.objs.size l 0->h'.objs.size=s.heap.objs.size+2 ->
   (∀b o,s.heap.get? b=some o->h'.get? b=some o)->Q (.ref (s.heap.objs.size+1)) {s with heap:=h'}):
  bp (bL prog w) A (call (.type "enumerate") [.ref l]) Q E s:=by
 obtain⟨⟨c,xh,U7,cI⟩,av,ay,n,hd⟩:=hg;replace ay:c=.type "tuple":=ay;replace hd:U7=.seq items n:=hd;subst ay hd;refine callType_new F.called_enumerate (by decide) (F.typeCall_enumerate_1 _) (F.newCall_enumerate_1 _) (λobj=>F.args_object_init_2 obj _) F.entry_enumerate_new
  (ab0 l items n xh cI) ⟨av,?_⟩
 have aq:(s.heap.push {cls:=.type "tuple_iterator",data:=.fields #[.ref l,.int 0 0]}).objs.size=s.heap.objs.size+1:=jF ..;show _/\_;rw[aq];have he:IsEnum ((s.heap.push {cls:=.type "tuple_iterator",data:=.fields #[.ref l,.int 0 0]}).push
   {cls:=.type "enumerate",data:=.fields #[.none,.bool false,.ref s.heap.objs.size,rawInt 0,.none,.none]}) (s.heap.objs.size+1) s.heap.objs.size 0 .none:=by
  have:=g9 (s.heap.push {cls:=.type "tuple_iterator",data:=.fields #[.ref l,.int 0 0]})
   (o:={cls:=.type "enumerate",data:=.fields #[.none,.bool false,.ref s.heap.objs.size,rawInt 0,.none,.none]}) rfl
  rw[aq] at this;exact this
 refine⟨⟨_,he,rfl⟩,h _ he ⟨_,c2 _ (g9 _ rfl),rfl,rfl⟩ (by rw[jF,aq]) λb o x=>c2 _ (c2 _ x)⟩
def ab_{it l:ah}{i:Nat}{items}{x:aj}{Q:aj->aK->Prop}(hit:s.heap.IsTupleIter it l i)
  (av:s.heap.IsTuple l items) (hx:items[i]?=some x)
  (ij:∀h',h'.IsTupleIter it l (i+1)->Heap.SameBut it s.heap h'->Q x {s with heap:=h'}):
  bp (bL prog w) A (kq (.ref it)) Q E s:=by
 obtain⟨o,aF,ay,hd⟩:=id hit;obtain⟨ol,DY,_,nl,DI⟩:=av;unfold kq;refine aV (p9 (name:=Str.ofString "__next__") hit.typeIs zu
  (oQ zu hit.typeIs F.entry_tuple_iterator_next ?_ (F.args_tuple_iterator_next_1 _)))
 show bp _ _ (field (.ref it) 0 >>= _) _ _ s
 refine aV (ha aF hd (x:=.ref l) rfl ?_)
 show bp _ _ (if (Value.ref l==Value.none)=true then _ else _) _ _ s
 rw[if_neg (show ¬((Value.ref l==Value.none)=true) from ry)];show bp _ _ (field (.ref it) 1 >>= _) _ _ s;refine aV (ha aF hd (x:=.int i 0) rfl ?_);show bp _ _ (seqItems? (.ref l) >>= _) _ _ s;refine aV (nJ DY DI ?_);simp only[Int.toNat_natCast,hx];refine aV (wpAny_setField aF hd (by simp) (cw ⟨x,rfl,cw (ij _ ?_ (Heap.SameBut.update ..))⟩));exact⟨_,Heap.get?_update_self _ aF (Obj.isFreed_of_fields (Obj.data_mapFields hd _)),(Obj.cls_mapFields ..).trans ay,by
  rw[Obj.data_mapFields hd];simp[rawInt]⟩
def MZ{it l:ah}{i:Nat}{items}{Q:aj->aK->Prop}(c4:A.handled=none)
  (hit:s.heap.IsTupleIter it l i) (av:s.heap.IsTuple l items) (hx:items[i]?=none)
  (mu:∀h' e,Heap.ExtBut it s.heap h'->(∃o,h'.get? e=some o/\o.cls=.type "StopIteration")->E (.ref e) {s with heap:=h'}):
  bp (bL prog w) A (kq (.ref it)) Q E s:=by
 obtain⟨o,aF,ay,hd⟩:=id hit;obtain⟨ol,DY,_,nl,DI⟩:=av;unfold kq;refine aV (p9 (name:=Str.ofString "__next__") hit.typeIs zu
  (oQ zu hit.typeIs F.entry_tuple_iterator_next ?_ (F.args_tuple_iterator_next_1 _)))
 show bp _ _ (field (.ref it) 0 >>= _) _ _ s
 refine aV (ha aF hd (x:=.ref l) rfl ?_)
 show bp _ _ (if (Value.ref l==Value.none)=true then _ else _) _ _ s
 rw[if_neg (show ¬((Value.ref l==Value.none)=true) from ry)];show bp _ _ (field (.ref it) 1 >>= _) _ _ s;refine aV (ha aF hd (x:=.int i 0) rfl ?_);show bp _ _ (seqItems? (.ref l) >>= _) _ _ s;refine aV (nJ DY DI ?_);simp only[Int.toNat_natCast,hx];refine aV (wpAny_rule (aV (wpAny_setField aF hd (by simp) ?_)));show bp _ _ (newExc (.type "StopIteration") [] >>= _) _ _ _;refine aV ?_;simp only[newExc,newTuple];refine aV (oP ?_ (by size_fits));refine aV (m:=firstArgMember _ _) (wpAny_of_eq (a:=Value.none) (by first|rfl|(simp only[firstArgMember];rfl)) ?_);refine oP ?_ (by size_fits);simp only[raiseNew];refine aV (wpAny_handled ?_)
 first|rw[show A.in1.handled=none from c4]|rw[c4]
 refine aV (cw (wpAny_throw ?_))
 exact mu _ _ (((Heap.SameBut.update ..).extBut.push _).push _) ⟨_,g9 _ rfl,rfl⟩
end
def NO{prog:cF}{w:cv}{A:cY}(c4:A.handled=none)(it l:ah)(il:l≠it)(items:Array aj):
  Draws prog w A it [it,l] items.size (λi v=>items[i]?=some v) (λi h=>h.IsTupleIter it l i/\h.IsTuple l items) where
 live:=λ_ _ st=>let ⟨o,aF,_⟩:=st.1;⟨o,aF⟩
 frame:=λ_ _ _ st aI=>⟨st.1.at λo e=>aI it (by simp) o e,let ⟨o,aF,r⟩:=st.2;⟨o,aI l (by simp) o aF,r⟩⟩
 item:=λi s Q E aJ st ij=>by
  refine ab_ st.1 st.2 (x:=items[i]) (by simp[aJ]) λh' V3 iN=>?_
  exact ij _ h' s.toks (by simp[aJ]) ⟨V3,st.2.extBut iN.extBut il⟩ iN
 done:=λs Q E st mu=>MZ c4 st.1 st.2 (by simp) mu
noncomputable def w8(K:a_)(a:ah):kb:=
 ⟨λi H=>∃xs x,df K H a xs/\xs[i]?=some x,λi H x af=>∃p v,H p=none/\x=.ref p/\af=upd H p (.tup [.int i,v])/\∀xs,df K H a xs->xs[i]?=some v,λi H=>∃xs,df K H a xs/\xs.length<=i⟩
def Og{P:cF}{w:cv}{K:a_}{es:List bz}{k:Nat}{pos:Pos}(a it e:ah)(il:e≠it)(nq:a≠it)(DC:a≠e):Turn P w K (.Tuple es k pos) (w8 K a) [e,it] e (λi h=>(∃old,IsEnum h e it i old)/\h.IsTupleIter it a i) where
 mem:=by simp
 obj:=λi h st b aa=>by
  obtain⟨⟨old,he⟩,o,aF,ay,hd⟩:=st;rcases cM.mp aa with rfl|aa
  ·exact⟨_,he,λv z=>by
    have jf:Data.fields _=Data.cell v:=z;cases jf⟩
  ·have aH:b=it:=by simpa using aa
   subst aH;exact⟨o,aF,λv z=>by rw[hd] at z;cases z⟩
 keep:=λi h h' st bJ=>by
  obtain⟨⟨old,he⟩,hI⟩:=st;exact⟨⟨old,bJ e (by simp) _ he⟩,hI.at λo q=>bJ it (by simp) o q⟩
 item:=by
  intro X hh hw hC ay i ag s σ H E I hf st bG;subst hh hw hC;obtain⟨xs,x,bK,hx⟩:=bG;obtain⟨its,bZ,p,aq⟩:=I.tuple bK;obtain⟨u,b7,dm⟩:=bZ.get hx;obtain⟨⟨old,he⟩,hit⟩:=st;obtain⟨f0,f1,f2,hW,f4,hX⟩:=hf e (by simp);obtain⟨nk,g1,g2,g3,qR,lE⟩:=hf it (by simp);have aJ:i<its.toArray.size:=by
   rw[er];exact (ed.mp b7).1
  have DU:e∉[it,a]:=by
   intro z;rcases cM.mp z with z|z
   ·exact il z
   ·have jf:e=a:=by simpa using z
    exact DC jf.symm
  refine wpAny_pyNext_enum_itemD (NO (A:=X.A.in1) (I.ok.hd ay) it a nq its.toArray) he ⟨hit,p⟩ aJ il DU λhN h' tk Dw aF iN eo hsz aI=>?_
  have ex:hN=u:=by
   have:=Dw;rw[<- Array.getElem?_toList] at this;rw[show (its.toArray).toList=its from rfl,b7] at this;exact (eB this).symm
  subst ex;refine⟨_,rfl,wpAny_letOwnedTupleGo_enum aF λak kf jy=>?_⟩;have uS:e<s.heap.objs.size:=cP he;have DP:it<s.heap.objs.size:=by obtain⟨o,jx,_⟩:=hit;exact cP jx
  have dN:∀b o,b≠e->b≠it->s.heap.get? b=some o->ak.get? b=some o:=λb o ab bF q=>jy.extBut b o ab (aI b o ab bF q);have fr:H s.heap.objs.size=none:=I.b8.fresh (dD _);have Dy:ak.get? s.heap.objs.size=some {cls:=.type "tuple",data:=.seq #[.int i tk,hN]}:=jy.extBut _ _ (g_ uS) eo;have mz:∀b o,H b=some o->b≠e/\b≠it:=λb o q=>⟨λz=>(by rw[z,f0] at q;cases q),λz=>(by rw[z,nk] at q;cases q)⟩;have DX:e2 X.prog X.w (upd H s.heap.objs.size (.tup [.int i,x])) ak:=by
   intro b o q;by_cases aa:b=s.heap.objs.size
   ·subst aa;rw[dY] at q;cases q;exact⟨by show 2<=cp;decide,[.int i tk,hN],.cons ⟨tk,rfl⟩ (.cons dm .nil),⟨_,Dy,rfl,_,rfl⟩⟩
   ·rw[cQ aa] at q;refine (I.b8 b o q).jD (λc v dh eb=>dN c v ?_ ?_ eb) (λc eb=>?_) λc ys eb=>?_
    ·rcases dh with rfl|dh
     ·exact (mz _ _ q).1
     ·exact (mz _ _ dh).1
    ·rcases dh with rfl|dh
     ·exact (mz _ _ q).2
     ·exact (mz _ _ dh).2
    ·rw[cQ (jK eb fr)];exact eb
    ·rw[cQ (jK eb fr)];exact eb
  have b0:bc.Inv X ag σ (upd H s.heap.objs.size (.tup [.int i,x])) {s with heap:=ak,toks:=tk+1}:=by
   refine I.step (g':=s.gens) (d':=s.drawn) (ch:=[e,it]) (λb aa=>?_) (λb o _ _ dh q _=>dN b o (λz=>dh (by simp[z])) (λz=>dh (by simp[z])) q) (λb o _ _ dh q _=>⟨o.slots,dN b o (λz=>dh (by simp[z])) (λz=>dh (by simp[z])) q⟩) (λb o _ q n=>?_)
    (λb o dh q=>⟨o,dN b o (λz=>dh (by simp[z])) (λz=>dh (by simp[z])) q⟩) (λb ys q=>by rw[cQ (jK q fr)];exact q) (λb o u q=>by rw[cQ (jK q fr)];exact q) (λb aT q=>⟨#[],by rw[cQ (jK q fr),q];simp⟩) (λm hm=>?_) DX I.bare
   ·rcases cM.mp aa with rfl|aa
    ·exact⟨hW,f1,f4,hX⟩
    ·have:b=it:=by simpa using aa
     subst this;exact⟨g3,g1,qR,lE⟩
   ·rw[cQ (eL (cP q))];exact n
   ·obtain⟨o,ie,ep,jx,r⟩:=hm;exact⟨o,ie,ep,dN _ o (Ne.symm f1) (Ne.symm g1) jx,r⟩
  refine⟨.ref s.heap.objs.size,_,b0,rfl,⟨s.heap.objs.size,x,fr,rfl,rfl,λys bI=>by rw[I.ME bI bK];exact hx⟩,⟨⟨_,by simpa using kf⟩,iN.1.at λo q=>(jy.2 it il.symm).trans q⟩,λb aa=>?_⟩
  rcases cM.mp aa with rfl|aa
  ·rw[cQ (eL uS)];exact f0
  ·have:b=it:=by simpa using aa
   subst this;rw[cQ (eL DP)];exact nk
 done:=by
  intro X hh hw hC ay i ag s σ H E I hf st bG;subst hh hw hC;obtain⟨xs,bK,hx⟩:=bG;obtain⟨its,bZ,p,aq⟩:=I.tuple bK;obtain⟨⟨old,he⟩,hit⟩:=st;obtain⟨nk,g1,g2,g3,qR,lE⟩:=hf it (by simp);have eo:s.TypeIs (.ref e) "enumerate":=⟨_,he,rfl⟩;have av:=bZ.length;unfold pyNext;refine aV (wpAny_attempt (p9 (name:=Str.ofString "__next__") eo F.slot_enumerate_next
   (oQ F.slot_enumerate_next eo F.entry_enumerate_next ?_ (F.args_enumerate_next_1 _))))
  show bp _ _ (field (.ref e) 2 >>= _) _ _ _
  refine aV (ha he rfl (x:=.ref it) rfl ?_)
  refine aV (MZ (I.ok.hd ay) hit (show s.heap.IsTuple a its.toArray from p) (by simp;omega) λh' x DJ jz=>?_)
  obtain⟨o,aF,dh⟩:=jz;refine aV (wpAny_isInstance (T:="StopIteration") (b:=true) ⟨o,aF,dh⟩ isSubtype_stop ?_);exact cw ⟨rfl,I.turned (t':=s.toks) (λb o aa q=>DJ b o aa q) nk g1 g3 qR lE⟩
 self:=λ_ _ _ _ _ st h=>by
  obtain⟨⟨old,he⟩,_⟩:=st;exact wpAny_pyIter_enum he h
noncomputable def WR(K:a_)(cq:fY):TI:=λσ H R=>cq σ H λvs H1=>∃a xs,vs=[.ref a]/\df K H1 a xs/\R (w8 K a) H1
section
variable {X:bj}{es:List bz}{k:Nat}{p pos fK:Pos}{a:bz}{f:bE}
def afE{cq:fY}(bG:fo X "enumerate")(hm:X.mg "enumerate"=none)(ax:ia X [a] cq)(az:bS [a] X.env=[(false,eval a X.env)]:=by rfl):pd X (.Tuple es k fK) (.Call (.Name "enumerate" p) [a] [] pos) (WR X.K cq):=by
 intro ag s σ H R I h;refine Call_ (r1 I bG hm PyProof.Rows.boot_enumerate (tc (ct (ax pos ag s σ H _ I h) λus s1 ⟨vs,H1,bk,aO,aP⟩=>?_) az rfl));obtain⟨a,xs,rfl,bK,q⟩:=aP;cases aO with
|cons r rp=>
  cases rp
  cases r
  obtain⟨its,bZ,pl,aq⟩:=bk.tuple bK;have lH:a<s1.heap.objs.size:=by obtain⟨o,aF,_⟩:=pl;exact cP aF
  refine MR (show s1.heap.IsTuple a its.toArray from pl) λh' he hit hsz aI=>wpAny_pyIter_enum he ?_
  refine⟨s1.heap.objs.size+1,[s1.heap.objs.size+1,s1.heap.objs.size],_,_,H1,rfl,bk.kept (t':=s1.toks) aI,Og a s1.heap.objs.size (s1.heap.objs.size+1) (Nat.succ_ne_self _) (eL lH) (eL (Nat.lt_succ_of_lt lH)),⟨⟨_,he⟩,hit⟩,λb aa=>?_,q⟩
  have c8:s1.heap.objs.size<=b:=by
   rcases cM.mp aa with rfl|aa
   ·exact gu _
   ·have:b=s1.heap.objs.size:=by simpa using aa
    rw[this];exact dD _
  exact bk.uH c8 (bk.b8.fresh c8)
def aea{K:a_}{a:ah}{aX:ah->Prop}{H1:aw}{ts:List T}{vs:List V}(aC:df K H1 a vs)(q:bh K aX H1 ts vs):nZ K (w8 K a) aX H1 (enum ts) where
 go:=λi F H t aD d e=>by
  have aJ:=(ed.mp e).1;simp only[enum,gc,List.length_zipIdx] at aJ;obtain⟨v,ab,_⟩:=q.get (h6 aJ);exact⟨vs,v,aD.tup _ _ aC,ab⟩
 lX:=λi F H t x af aD d e y=>by
  obtain⟨p,v,aL,rfl,rfl,y⟩:=y;have aJ:=(ed.mp e).1;simp only[enum,gc,List.length_zipIdx] at aJ;obtain⟨h5,ab,ak⟩:=(q.aD aD).get (h6 aJ);have bF:=y vs (aD.tup _ _ aC);rw[ab] at bF;cases bF;have aR:=Ext.laid (o:=.tup [.int i,v]) d aL;refine⟨F,aR,?_⟩;have bx:t=.tuple [.int i,ts[i]]:=by
   simp only[enum,ho,List.getElem?_zipIdx,h6 aJ] at e;simpa using e.symm
  subst bx;simp only[Rep];exact⟨p,_,rfl,df.of dY,bh.cons (by simp[Rep]) (bh.cons (ak.ext aR) bh.nil)⟩
 stop:=λi F H aD av=>⟨vs,aD.tup _ _ aC,by
  simp only[enum,gc,List.length_zipIdx] at av;rw[<- q.length];exact av⟩
def I5(hm:X.mg "enumerate"=none)(ax:cC X a f)(bG:fo X "enumerate":=by rfl)(az:bS [a] X.env=[(false,eval a X.env)]:=by rfl)(jy:bS [a] X.env=(false,eval a X.env)::bS [] X.env:=by rfl):
  m4 X (.Tuple es k fK) (.Call (.Name "enumerate" p) [a] [] pos) (ky (kA f)):=I_ (afE bG hm (k' ax mT jy) az) λσ H R ⟨au,aQ,O,F,ε,ts,r,e,k⟩=>by
 simp only[ky,kA,dX,cg] at e;obtain⟨us,⟨t,bx,e⟩,rfl⟩:=e;split at e
 ·cases e
  refine⟨au,aQ,O,F,ε,_,r,bx,λv aB af x q=>?_⟩
  simp only[Rep] at q;obtain⟨a,vs,rfl,az,aC⟩:=q;exact⟨a,vs,rfl,az,k _ aB af x (aea az aC)⟩
 ·cases e
end
end
section
variable [cV]
structure Cl(P:cF)(w:cv)(K:a_)(mg:Str->Option aj)(base:bT)(x:Str)(k n:Nat)(d:List T->Option T):Prop where
 ex:∃cy fd aT,eT P w K mg base fh k cy fd aT (spT K n d)/\mg x=some (.ref cy)/\mI K (.ref cy)=true/\Binds K fd aT []
section
variable {P:cF}{w:cv}{K:a_}{mg:Str->Option aj}{base:bT}{x:Str}{k n:Nat}{d:List T->Option T}
theorem Cl.mono{j:Nat}(c:Cl P w K mg base x j n d)(h:j<=k):Cl P w K mg base x k n d:=by
 obtain⟨cy,fd,aT,F,r⟩:=c.ex;exact⟨cy,fd,aT,F.mono h,r⟩
def Cl.mk'{cy:ah}{fd:fU}{aT:List Str}(F:eT P w K mg base fh k cy fd aT (spT K n d))(m:mg x=some (.ref cy))(aD:mI K (.ref cy)=true)(b:Binds K fd aT []):Cl P w K mg base x k n d:=⟨cy,fd,aT,F,m,aD,b⟩
end
section
variable {X:bj}{k n:Nat}{d:List T->Option T}{x:Str}{p pos:Pos}{e:bz}{es:List bz}{ar:List bE}
def fV(C:Cl X.prog X.w X.K X.mg X.base x k n d)(aC:dO k X.A)(ax:kJ X (e::es) ar)(bG:fo X x:=by rfl)(a7:ar.length=n:=by rfl)(i6:(x==("__debug__":Str))=false:=by decide)
  (he:bS (e::es) X.env=(false,eval e X.env)::bS es X.env:=by rfl) (hpl:(ee pos (bS es X.env)).any (·.1)=false:=by rfl):cC X (.Call (.Name x p) (e::es) [] pos) (bH d ar):=by
 obtain⟨cy,fd,aT,F,m,aD,b⟩:=C.ex;exact agp F aC bG m aD b ax a7 i6 he hpl
def Ma{i:Int}{t:Tok}(hm:X.mg x=some (.int i t))(bG:fo X x:=by rfl)(hd:(x==("__debug__":Str))=false:=by decide):cC X (.Name x pos) (ai (.int i)):=tY (v:=.int i) (PC (v:=.int i) bG hm ⟨t,rfl⟩ hd) λ_ _=>by simp[Rep]
noncomputable def Jg(scope sc:Scope)(N:List Str)(caps:List (Nat×Str)):Bool:=
 decide (scope.kind=.function) && scope.names.all (λy=>(decide (y.2≠.local) || decide (scope.names.lookup y.1=some .local)) && decide (y.2≠.cell) && (decide (y.2≠.free) || decide (sc.names.lookup y.1=some .cell) || decide (sc.names.lookup y.1=some .free)))
  && caps.all (λq=>decide (N[q.1]?=some q.2) && decide (scope.names.lookup q.2=some .free)) && decide ((caps.map (·.1)).Nodup)
def Qt{scope sc:Scope}{own:List Str}{caps:List (Nat×Str)}(N:List Str)(D3:X.env.scope=sc)(dk:X.N=N)(ay:X.calm=true)(h:Jg scope sc N caps=true):o9 X scope own caps:=by
 simp only[Jg,jG,List.all_eq_true,decide_eq_true_eq,Bool.or_eq_true] at h;obtain⟨⟨⟨ab,ak⟩,bF⟩,cT⟩:=h;refine⟨ab,λy bI av=>?_,λy bI=>(ak y bI).1.2,λy bI hf=>?_,λq bK=>by rw[dk];exact bF q bK,cT,ay⟩
 ·rcases (ak y bI).1.1 with z|z
  ·exact absurd av z
  ·exact z
 ·have aI:X.env.kindOf y.1=sc.names.lookup y.1:=by rw[<- D3];rfl
  rw[aI];rcases (ak y bI).2 with (z|z)|z
  ·exact absurd hf z
  ·exact .inl z
  ·exact .inr z
end
def kB{P:cF}{w:cv}{K:a_}{mg:Str->Option aj}{base:bT}{x:Str}{st:Stmt}{f:ah}{fd:fU}{N aT:List Str}{k:Nat}{b:bB}(F:cE K x x st f fd)(S:cR N aT (cb st))(bd:Binds K fd aT [])(m:mg x=some (.ref f))
  (aa:∀(cS:aj) (A:cY) (outer:List Env) (s:aK) (H:aw) (E:gC),dO k (A.deeper (envOfC x (cb st) s.heap.objs.size f cS)) ->
   iF (jv fh P w K mg base N x (cb st) f cS A outer s H E).kj (jg st) b):Cl P w K mg base x (k+1) aT.length (eI b N.length):=.mk' (Qq F S aa) m F.aD bd
end
end D
end
section
namespace bc
open PySem PySem.Spec PyProof.Rows
section
variable {ej:Type}[DecidableEq ej]
noncomputable def kp(kvs:List (ej×V))(k:ej):Option V:=(kvs.find? λdz=>decide (dz.1=k)).map (·.2)
noncomputable def putK(kvs:List (ej×V))(k:ej)(v:V):List (ej×V):=
 if (kvs.any λdz=>decide (dz.1=k))=true then kvs.map (λdz=>if dz.1=k then (dz.1,v) else dz) else kvs++[(k,v)]
def H8{p:ej×V}{r:List (ej×V)}{k:ej}(e:p.1=k):kp (p::r) k=some p.2:=by simp[kp,oK,e]
def H9{p:ej×V}{r:List (ej×V)}{k:ej}(e:¬p.1=k):kp (p::r) k=kp r k:=by simp[kp,oK,e]
theorem OW(k:ej):∀kvs:List (ej×V),(kvs.any λdz=>decide (dz.1=k))=(kp kvs k).isSome
| []=>rfl
|p::r=>by
  rw[List.any_cons];by_cases e:p.1=k
  ·simp only[H8 e,decide_eq_true e,Bool.true_or,Option.isSome_some]
  ·rw[H9 e,decide_eq_false e,Bool.false_or];exact OW k r
def NM(kvs:List (ej×V))(k:ej)(v:V):(putK kvs k v).length<=kvs.length+1:=by
 unfold putK;split
 ·rw[gc];omega
 ·rw[oL,gK,p8];omega
def jt.WU{o:Option V}{u:Option aj}(r:jt o u):o.isSome=u.isSome:=by
 cases o with
|none=>cases u with
  |none=>rfl
  |some _=>exact (show False from r).elim
|some _=>cases u with
  |none=>exact (show False from r).elim
  |some _=>rfl
def gz.val{kvs:List (ej×V)}{vs:List (ej×aj)}(r:gz kvs vs)(k:ej):jt (kp kvs k) (valueAt vs k):=by
 unfold gz at r
 induction r with
|nil=>exact True.intro
| @cons p q aT nB h t b9=>
  obtain⟨ab,ak⟩:=h;by_cases e:p.1=k
  ·have a9:q.1=k:=ab.symm.trans e;have b:valueAt (q::nB) k=some q.2:=by simp[valueAt,oK,a9]
   rw[H8 e,b];exact ak
  ·have a9:¬q.1=k:=λz=>e (ab.trans z);have b:valueAt (q::nB) k=valueAt nB k:=by simp[valueAt,oK,a9]
   rw[H9 e,b];exact b9
theorem gz.any{kvs:List (ej×V)}{vs:List (ej×aj)}(r:gz kvs vs)(k:ej):(kvs.any λdz=>decide (dz.1=k))=vs.any λdz=>decide (dz.1=k):=by
 unfold gz at r
 induction r with
|nil=>rfl
|cons h t b9=>rw[List.any_cons,List.any_cons,b9,h.1]
def gz.Gz{kvs:List (ej×V)}{vs:List (ej×aj)}(r:gz kvs vs)(k:ej){y:V}{u:aj}(bw:RelV y u):
  gz (kvs.map λdz=>if dz.1=k then (dz.1,y) else dz) (vs.map λdz=>if dz.1=k then (dz.1,u) else dz):=by
 unfold gz at r ⊢
 induction r with
|nil=>exact .nil
| @cons p q aT nB h t b9=>
  rw[dC,dC];refine .cons ?_ b9;obtain⟨ab,ak⟩:=h;by_cases e:p.1=k
  ·rw[if_pos e,if_pos (ab.symm.trans e)];exact⟨ab,bw⟩
  ·rw[if_neg e,if_neg (λz=>e (ab.trans z))];exact⟨ab,ak⟩
def gz.put{kvs:List (ej×V)}{vs:List (ej×aj)}(r:gz kvs vs)(k:ej){y:V}{u:aj}(bw:RelV y u):gz (putK kvs k y) (stored vs k u):=by
 unfold putK stored;rw[r.any k];by_cases e:(vs.any λdz=>decide (dz.1=k))=true
 ·rw[if_pos e,if_pos e];exact r.Gz k bw
 ·rw[if_neg e,if_neg e];exact Paired.snoc r ⟨rfl,bw⟩
theorem gz.length{kvs:List (ej×V)}{vs:List (ej×aj)}(r:gz kvs vs):kvs.length=vs.length:=Paired.length r
end
def Bh{P:cF}{w:cv}{k:Key}{u:aj}(r:RelV (d9 k) u):(gM P w).is k u=true:=by
 cases k with
|inl i=>obtain⟨t,e⟩:=(show ∃t,u=Value.int i t from r);subst e;exact NJ P w i t
|inr x=>obtain⟨t,e⟩:=(show ∃t,u=Value.str x t from r);subst e;exact NI P w x t
theorem OA{P:cF}{w:cv}:∀{bf:List Key} {us:List aj},Vals (bf.map d9) us->ItemsAre (gM P w) bf us
| [],_,r=>by rw[hO] at r;cases r;exact .nil
|k::bf,_,r=>by
  rw[dC] at r;cases r with
  |cons h t=>exact .cons (Bh h) (OA t)
abbrev KT(H:aw):List (List Key×V)->List (List Key×ah×aj)->Prop:=Paired λp q=>p.1=q.1/\H q.2.1=some (.tup (p.1.map d9))/\RelV p.2 q.2.2
def KT.val{H:aw}{kvs:List (List Key×V)}{xs:List (List Key×ah×aj)}(r:KT H kvs xs)(k:List Key):jt (kp kvs k) ((atKey xs k).map (·.2)):=by
 induction r with
|nil=>exact True.intro
| @cons p q aT nB h t b9=>
  obtain⟨ab,_,ak⟩:=h;by_cases e:p.1=k
  ·have a9:q.1=k:=ab.symm.trans e;have b:atKey (q::nB) k=some q.2:=by simp[atKey,oK,a9]
   rw[H8 e,b];exact ak
  ·have a9:¬q.1=k:=λz=>e (ab.trans z);have b:atKey (q::nB) k=atKey nB k:=by simp[atKey,oK,a9]
   rw[H9 e,b];exact b9
def KT.Gz{H:aw}{kvs:List (List Key×V)}{xs:List (List Key×ah×aj)}(r:KT H kvs xs)(k:List Key){y:V}{u:aj}(bw:RelV y u):
  KT H (kvs.map λdz=>if dz.1=k then (dz.1,y) else dz) (xs.map (putAt k u)):=by
 induction r with
|nil=>exact .nil
| @cons p q aT nB h t b9=>
  rw[dC,dC];refine .cons ?_ b9;obtain⟨ab,ak,bF⟩:=h;unfold putAt;by_cases e:p.1=k
  ·rw[if_pos e,if_pos (ab.symm.trans e)];exact⟨ab,ak,bw⟩
  ·rw[if_neg e,if_neg (λz=>e (ab.trans z))];exact⟨ab,ak,bF⟩
def KT.put{H:aw}{kvs:List (List Key×V)}{xs:List (List Key×ah×aj)}(r:KT H kvs xs)(k:List Key){b:ah}{y:V}{u:aj}(aa:H b=some (.tup (k.map d9)))(bw:RelV y u):
  KT H (putK kvs k y) (storedH xs k b u):=by
 have e:(kvs.any λdz=>decide (dz.1=k))=(atKey xs k).isSome:=by
  rw[OW,(r.val k).WU,Option.isSome_map]
 unfold putK storedH;rw[e];by_cases q:(atKey xs k).isSome=true
 ·rw[if_pos q,if_pos q];exact r.Gz k bw
 ·rw[if_neg q,if_neg q];exact Paired.snoc r ⟨rfl,aa,bw⟩
def KT.keeps{H af:aw}{kvs:List (List Key×V)}{xs:List (List Key×ah×aj)}(r:KT H kvs xs)(bg:∀b ys,H b=some (.tup ys)->af b=some (.tup ys)):KT af kvs xs:=
 Paired.FN r λ_ _ z=>⟨z.1,bg _ _ z.2.1,z.2.2⟩
section
variable {P:cF}{w:cv}{H:aw}{h:bT}{a:ah}
def QC{u:dZ}(ok:e2 P w H h)(e:fw H a u):hr P w H h a u:=e.ok ok
def Jf{kvs:List (Key×V)}(ok:e2 P w H h)(e:fw H a (.e6 kvs)):kvs.length<=cp/\(a==sysModules)=false/\∃vs,gz kvs vs/\h.DictOf (gM P w) a vs:=
 show hr P w H h a (.e6 kvs) from QC ok e
def ahF{kvs:List (Key×V)}(ok:e2 P w H h)(e:H a=some (.e6 kvs)):kvs.length<=cp/\(a==sysModules)=false/\∃vs,gz kvs vs/\h.DictOf (gM P w) a vs:=Jf ok (.inl e)
def I3{bf:List Key}(ok:e2 P w H h)(e:H a=some (.tup (bf.map d9))):(tupleKind (gM P w)).is h bf a:=by
 obtain⟨_,its,r,o,ab,ak,n,bF⟩:=(show hr P w H h a (.tup (bf.map d9)) from ok a _ e);exact⟨o,its.toArray,n,ab,ak,bF,by simpa using OA r⟩
def Je{kvs:List (List Key×V)}(ok:e2 P w H h)(e:fw H a (.mb kvs)):kvs.length<=cp/\(a==sysModules)=false /\
  ∃xs,KT H kvs xs/\h.DictOfH (tupleKind (gM P w)) a xs:=by
 obtain⟨z,y,xs,r,o,es,ep,ab,ak,bF,cT,gG⟩:=(show hr P w H h a (.mb kvs) from QC ok e);refine⟨z,y,xs,r,o,es,ep,ab,ak,bF,cT,λx hx=>?_,gG⟩;have all:∀{l:List (List Key×V)} {m:List (List Key×ah×aj)},KT H l m->∀x∈m,(tupleKind (gM P w)).is h x.1 x.2.1:=by
  intro l m q
  induction q with
  |nil=>intro x hx;exact nomatch hx
  | @cons p q aT nB bK t b9=>
   intro x hx;rcases cM.mp hx with e|hx
   ·subst e;exact I3 ok (by rw[<- bK.1];exact bK.2.1)
   ·exact b9 x hx
 exact all r x hx
def ahE{kvs:List (List Key×V)}(ok:e2 P w H h)(e:H a=some (.mb kvs)):kvs.length<=cp/\(a==sysModules)=false /\
  ∃xs,KT H kvs xs/\h.DictOfH (tupleKind (gM P w)) a xs:=Je ok (.inl e)
end
noncomputable def o_(H:aw)(a:ah)(y:V)(r:Option V):Prop:=
 (∃kvs k,fw H a (.e6 kvs)/\y=d9 k/\r=kp kvs k)\/∃kvs k b,fw H a (.mb kvs)/\y=.ref b/\H b=some (.tup (k.map d9))/\r=kp kvs k
noncomputable def qy(H:aw)(a:ah)(y v:V)(af:aw):Prop:=
 (∃kvs k,H a=some (.e6 kvs)/\y=d9 k/\kvs.length<cp/\af=upd H a (.e6 (putK kvs k v))) \/
 ∃kvs k b,H a=some (.mb kvs)/\y=.ref b/\H b=some (.tup (k.map d9))/\kvs.length<cp/\af=upd H a (.mb (putK kvs k v))
theorem o_.k{H:aw}{a:ah}{kvs:List (Key×V)}{k:Key}(e:H a=some (.e6 kvs)):o_ H a (d9 k) (kp kvs k):=.inl ⟨kvs,k,.inl e,rfl,rfl⟩
theorem qy.k{H:aw}{a:ah}{kvs:List (Key×V)}{k:Key}{v:V}(e:H a=some (.e6 kvs))(av:kvs.length<cp):qy H a (d9 k) v (upd H a (.e6 (putK kvs k v))):=.inl ⟨kvs,k,e,rfl,av,rfl⟩
section
variable {X:bj}{ag:List (ah×Obj)}{σ:St}{H:aw}{s:aK}{a:ah}{y v:V}{u r:aj}{o:Option V}{A:cY}{E:aj->aK->Prop}
def Inv.big(I:Inv X ag σ H s):sysModules<s.heap.objs.size:=by
 have h:j2<s.heap.objs.size:=(I.mod.glob.keeps I.gT).lt;exact Nat.lt_trans (by decide) h
def OH{Q:aj->aK->Prop}(b7:A.units+1<cLine)(I:Inv X ag σ H s)(g:o_ H a y (some v))(bw:RelV y u)(h:∀fe s',Inv X ag σ H s'->RelV v fe->Q fe s'):
  bp (bL X.prog X.w) A (getItem (.ref a) u) Q E s:=by
 rcases g with ⟨kvs,k,e,fy,l⟩|⟨kvs,k,b,e,fy,dv,l⟩
 ·subst fy;obtain⟨z,hd,vs,rel,eW⟩:=Jf I.b8 e;obtain⟨fe,hw,jY⟩:=jt.some_of (v:=v) (o:=valueAt vs k) (by rw[l];exact rel.val k);exact wpAny_getItem_of (Bh bw) eW.mapOf hw (h fe _ (I.tok _) jY)
 ·subst fy;cases (show u=Value.ref b from bw);obtain⟨z,hd,xs,rel,eW⟩:=Je I.b8 e;obtain⟨fe,hw,jY⟩:=jt.some_of (v:=v) (o:=(atKey xs k).map (·.2)) (by rw[l];exact rel.val k);obtain⟨p,aL,Wk⟩:=dX.mp hw;refine wpAny_getItem_heap (tupleKind_room_in1 b7) (I3 I.b8 dv) eW aL ?_;rw[Wk];exact h fe _ (I.tok _) jY
def PN{h':bT}{t':Nat}{dF:dZ}(I:Inv X ag σ H s)(ki:uc (H a))(az:Heap.SameBut a s.heap h')(he:∃q,h'.get? a=some q)(new:hr X.prog X.w (upd H a dF) h' a dF):
  Inv X ag σ (upd H a dF) {s with heap:=h',toks:=t'}:=
 I.write (x:=a) (e:=a) ki (.inl rfl) (λb q aa z=>(az.2 b aa).trans z) he new
def agV{P:cF}{w:cv}{af:aw}{h':bT}{kvs:List (Key×V)}{vs:List (Key×aj)}(z:kvs.length<=cp)(hd:(a==sysModules)=false)(rel:gz kvs vs)(eW:h'.DictOf (gM P w) a vs):
  hr P w af h' a (.e6 kvs):=⟨z,hd,vs,rel,eW⟩
def OG{af:aw}{Q:Unit->aK->Prop}(b7:A.units+1<cLine)(I:Inv X ag σ H s)(g:qy H a y v af)(bw:RelV y u)(bZ:RelV v r)(h:∀s',Inv X ag σ af s'->Q () s'):
  bp (bL X.prog X.w) A (setItem (.ref a) u r) Q E s:=by
 rcases g with ⟨kvs,k,e,fy,l,C9⟩|⟨kvs,k,b,e,fy,dv,l,C9⟩
 ·subst fy C9;obtain⟨z,hd,vs,rel,eW⟩:=ahF I.b8 e;have aq:vs.length<=cp:=by rw[<- rel.length];exact z
  have av:(putK kvs k v).length<=cp:=by have:=NM kvs k v;omega
  refine wpAny_setItem_pairs (hsz:=aq) (Bh bw) eW λh' xi az=>h _ ?_
  have he:∃q,h'.get? a=some q:=let ⟨q,_,_,bK,_⟩:=xi;⟨q,bK⟩;exact PN I (by rw[e];exact True.intro) az he (agV av hd (rel.put k bZ) xi)
 ·subst fy C9;cases (show u=Value.ref b from bw);obtain⟨z,hd,xs,rel,eW⟩:=ahE I.b8 e;have aq:xs.length<=cp:=by rw[<- Paired.length rel];exact z
  have av:(putK kvs k v).length<=cp:=by have:=NM kvs k v;omega
  refine wpAny_setItem_heap (hsz:=aq) (tupleKind_room_in1 b7) (I3 I.b8 dv) eW λh' xi az=>h _ ?_
  obtain⟨q,es,ep,bK,ak,bF,cT,_,gG⟩:=xi;refine PN I (by rw[e];exact True.intro) az ⟨q,bK⟩ ⟨av,hd,_,(rel.put k dv bZ).keeps λc ys hU=>?_,q,es,ep,bK,ak,bF,cT,gG⟩;rw[cQ (ahy hU e (λz=>nomatch z))];exact hU
end
def Bw(i:bz):Prop:=∀di e_,subscripted i false di e_=operate [di,e_] (getItem di e_)
def afm{prog:cF}{w:cv}{A:cY}{E:aj->aK->Prop}{s:aK}{env:Env}{value slice:bz}{pos:Pos}{T id:String}{Q:aj->aK->Prop}
  (av:typeLookup (.type T) "__getitem__"=pure (some (.builtin id))) (az:Bw slice)
  (h:bp (bL prog w) A (eval value env) (λo dd=>bp (bL prog w) A (eval slice env) (λi lR=>lR.TypeIs o T/\bp (bL prog w) A (getItem o i) Q E lR) E dd) E s):
  bp (bL prog w) A (eval (.Subscript value slice pos) env) Q E s:=by
 refine Subscript_ (fL h (λo dd e9=>fL e9 (λi lR i7=>?_) λ_ _ x=>x) λ_ _ x=>x)
 obtain⟨eo,i7⟩:=i7;unfold subscriptTail;refine aV ?_;rw[getitemInPython_of_ne eo.not_modules];refine aV (wpAny_specialOf eo av ?_);have fin:bp (bL prog w) A (subscripted slice false o i) (λr sZ=>bp (bL prog w) A (letTemporaryGo value o r >>= λ_=>pure r) Q E sZ) E lR:=by
  rw[az o i];exact wpAny_operating (fL i7 (λr sZ hE=>aV (wpAny_letTemporaryGo (cw hE))) λ_ _ x=>x)
 first
  |exact cw (aV fin)
  |exact aV (cw (aV fin))
  |exact aV fin
def ade{X:bj}{ag:List (ah×Obj)}{σ:St}{H:aw}{s:aK}{a:ah}{y:V}{o:Option V}(I:Inv X ag σ H s)(g:o_ H a y o):s.TypeIs (.ref a) "dict":=by
 rcases g with ⟨kvs,k,e,_,_⟩|⟨kvs,k,b,e,_,_,_⟩
 ·obtain⟨_,_,vs,_,eW⟩:=Jf I.b8 e;exact eW.typeIs
 ·obtain⟨_,_,xs,_,eW⟩:=Je I.b8 e;exact eW.typeIs
noncomputable def ahc(lS ty:TE):TE:=λσ H Q=>lS σ H λx H1=>ty σ H1 λy a'=>∃a v,x=.ref a/\o_ a' a y (some v)/\Q v a'
noncomputable def ahi(lS ty h4:TE):fZ:=λD σ H=>h4 σ H λv H1=>lS σ H1 λx a'=>ty σ a' λy dn=>∃a iZ,x=.ref a/\qy dn a y v iZ/\D.bQ σ iZ
noncomputable def ahj(lS ty h4:TE)(iO:V->V->aw->c6->Prop):fZ:=λD σ H=>lS σ H λx H1=>ty σ H1 λy a'=>∃a v,x=.ref a/\o_ a' a y (some v) /\
 h4 σ a' λte dn=>iO v te dn λz iZ=>∃gx,qy iZ a y z gx/\D.bQ σ gx
section
variable {X:bj}{o i e value:bz}{pos pos' GV:Pos}{lS ty h4:TE}
def afG(b7:X.A.units+1<cLine)(aF:bU X o lS)(aJ:bU X i ty)(az:Bw i):bU X (.Subscript o i pos) (ahc lS ty):=by
 intro ag s σ H Q I h;refine afm PySem.F.slot_dict_getitem.lookup az (ct (aF ag s σ H _ I h) λu s1 ⟨x,H1,bk,aU,aP⟩=>ct (aJ ag s1 σ H1 _ bk aP) λe_ s2 ⟨y,a',b0,bw,a,v,ex,g,ba⟩=>?_);subst ex;obtain rfl:u=Value.ref a:=aU;exact⟨ade b0 g,OH b7 b0 g bw λfe s3 dx jY=>⟨v,a',dx,jY,ba⟩⟩
def afA(b7:X.A.units+1<cLine)(aF:bU X o lS)(aJ:bU X i ty)(bq:bU X value h4)(az:iS value (some (.Subscript o i pos')) pos.line X.env=pure false):
  hQ X (.Assign [.Subscript o i pos'] value pos) (ahi lS ty h4):=by
 intro ag s σ H D I h;refine wpAny_Assign_Subscript (ct (bq ag s σ H _ I h) λr s1 ⟨v,H1,bk,bZ,aP⟩=>ct (aF ag s1 σ H1 _ bk aP) λu s2 ⟨x,a',b0,aU,ba⟩=>ct (aJ ag s2 σ a' _ b0 ba) λe_ s3 ⟨y,dn,dx,bw,a,iZ,ex,g,c9⟩=>?_) az;subst ex;obtain rfl:u=Value.ref a:=aU;exact OG b7 dx g bw bZ λs4 i0=>⟨σ,iZ,i0,c9⟩
def afB{op:Operator}{iO:V->V->aw->c6->Prop}(b7:X.A.units+1<cLine)(aF:bU X o lS)(aJ:bU X i ty)(bq:bU X value h4)(DZ:Bs X op iO)
  (ax:∀di e_ new,augStore i di e_ new=(do holding [new,di,e_] (setItem di e_ new);release [new,di,e_] [];pure .next)):hQ X (.AugAssign (.Subscript o i GV) op value pos) (ahj lS ty h4 iO):=by
 intro ag s σ H D I h;refine wpAny_AugAssign_SubscriptAny (ct (aF ag s σ H _ I h) λu s1 ⟨x,H1,bk,aU,aP⟩=>ct (aJ ag s1 σ H1 _ bk aP) λe_ s2 ⟨y,a',b0,bw,a,v,ex,g,ba⟩=>?_) ax;subst ex;obtain rfl:u=Value.ref a:=aU;refine OH b7 b0 g bw λfe s3 dx jY=>ct (bq ag s3 σ a' _ dx ba) λvE s4 ⟨te,dn,i0,aai,c9⟩=>ct (DZ ag s4 σ dn v te fe vE _ i0 jY aai c9) λpZ s5 ⟨z,iZ,l7,GD,gx,lE,i'⟩=>?_;exact OG b7 l7 lE bw GD λja pb=>⟨σ,gx,pb,i'⟩
end
end bc
end
section
namespace D
open PySem PySem.Spec PyProof.Rows bc
variable [cV]
section
variable {K:a_}{F:ah->Prop}{H:aw}
theorem dW.get{k:D.Key}{t:T}:∀{kvs:List (D.Key×T)} {vs:List (D.Key×V)},dW K F H kvs vs->D.getD kvs k=some t->∃v,kp vs k=some v/\Rep K F H t v
| [],vs,h,e=>by cases e
|p::r,vs,h,e=>by
  obtain⟨v,w,rfl,q,z⟩:=h;simp only[D.getD,kp,oK] at e ⊢;by_cases a9:p.1=k
  ·simp[a9] at e ⊢;subst e;exact q
  ·simp[a9] at e ⊢;have:=dW.get (k:=k) (t:=t) z (by simpa [D.getD] using e);simpa [kp] using this
theorem dW.length:∀{kvs:List (D.Key×T)} {vs:List (D.Key×V)},dW K F H kvs vs->kvs.length=vs.length
| [],vs,h=>by
  have:vs=[]:=h;subst this;rfl
|p::r,vs,h=>by
  obtain⟨v,w,rfl,q,z⟩:=h;simp[dW.length z]
theorem dW.append:∀{kvs us:List (D.Key×T)} {vs ws:List (D.Key×V)},dW K F H kvs vs->dW K F H us ws->dW K F H (kvs++us) (vs++ws)
| [],us,vs,ws,h,r=>by
  have:vs=[]:=h;subst this;exact r
|p::q,us,vs,ws,h,r=>by
  obtain⟨v,w,rfl,eb,z⟩:=h;exact⟨v,w++ws,rfl,eb,dW.append z r⟩
theorem dW.FO{k:D.Key}{t:T}{v:V}:∀{kvs:List (D.Key×T)} {vs:List (D.Key×V)},dW K F H kvs vs->Rep K F H t v->dW K F H (kvs.map λp=>if p.1=k then (k,t) else p) (vs.map λdz=>if dz.1=k then (dz.1,v) else dz)
| [],vs,h,q=>by
  have:vs=[]:=h;subst this;rfl
|p::r,vs,h,q=>by
  obtain⟨h5,w,rfl,eb,z⟩:=h;simp only[dC];by_cases e:p.1=k
  ·rw[if_pos e,if_pos e];exact⟨v,_,by rw[e],q,dW.FO z q⟩
  ·rw[if_neg e,if_neg e];exact⟨h5,_,rfl,eb,dW.FO z q⟩
def dW.put{k:D.Key}{t:T}{v:V}{kvs:List (D.Key×T)}{vs:List (D.Key×V)}(h:dW K F H kvs vs)(q:Rep K F H t v):dW K F H (putD kvs k t) (putK vs k v):=by
 have ax:(kvs.any λp=>decide (p.1=k))=(vs.any λdz=>decide (dz.1=k)):=by
  clear q
  induction kvs generalizing vs with
  |nil=>
   have:vs=[]:=h;subst this;rfl
  |cons p r b9=>
   obtain⟨v,w,rfl,eb,z⟩:=h;simp only[List.any_cons,b9 z]
 unfold putD putK;rw[ax];split
 ·exact dW.FO h q
 ·exact h.append ⟨v,[],rfl,q,rfl⟩
def rR{t:T}{k:D.Key}{v:V}{O:ah->Prop}(e:keyOf t=some k)(r:fP K O F H t v):v=d9 k:=by
 unfold keyOf at e;split at e
 ·cases e
  exact r.int
 ·cases e
  exact r.str
 ·cases e
end
end D
end
section
namespace D
open PySem
variable [cV]
end D
end
section
namespace D
open PySem PySem.Spec PyProof.Rows bc
section
variable [cV]
theorem Qc{α β:Type}{R:α->β->Prop}:∀{l:List α} {bf:List β},Paired R l bf->l.length=bf.length
|_,_,.nil=>rfl
|_,_,.cons a b=>by simp[Qc b]
section
variable {prog:cF}{w:cv}{K:Type}[DecidableEq K](knd:PySem.KeyKind prog w K)
variable {knd}{A:cY}{E:aj->aK->Prop}{s:aK}
noncomputable def r_(knd:PySem.KeyKind prog w K)(v:aj)(k:K):Prop:=knd.is k v=true/\v.scannable=true
end
end
section
variable [cV]
section
variable {prog:cF}{w:cv}{K:Type}[DecidableEq K]{knd:PySem.KeyKind prog w K}{A:cY}{E:aj->aK->Prop}{s:aK}{a:ah}{bf:List K}
def adg{R:List aj->aK->Prop}{T:String}{r d:ah}{n:Nat}{P:Nat->aj->Prop}{qB:bT->Prop}(W:PySem.W.KdlSrc prog w T r d n P qB)(c4:A.handled=none)(b8:qB s.heap)(a7:n<=cp)
  (h:∀(h':bT) (tk:Nat) (acc:Array aj),(∀b o,s.heap.get? b=some o->h'.get? b=some o)->s.heap.objs.size<=h'.objs.size->ItemsOf P acc n->R acc.toList {s with heap:=h',toks:=tk}):
  bp (bL prog w) A (collect (.ref r)) R E s:=by
 have d2:=W.there _ b8;unfold collect;refine aV (wpAny_runValue (ti entry_proto_collect' ?_));rw[td PySem.F.plain_proto_collect _];show bp _ A.in1 (newList [] >>= λl=>again (.builtin "list.__iadd__" ⟨[l,.ref r],[]⟩)) _ _ s;refine aV (oP ?_);refine cw ⟨plainId_quiet PySem.F.plain_list_iadd _,ti entry_list_iadd' ?_⟩;rw[td PySem.F.plain_list_iadd _];have Vv:(s.heap.push {cls:=.type "list",data:=.seq ([]:List aj).toArray}).get? s.heap.objs.size=some {cls:=.type "list",data:=.seq #[]}:=g9 _ rfl;show bp _ A.in1 (Builtin.List.listExtendWith (.ref s.heap.objs.size) (.ref r) (.ref s.heap.objs.size)) _ _ _;have key:=PySem.W.kdl_extend (A:=A) (s:={s with heap:=s.heap.push {cls:=.type "list",data:=.seq ([]:List aj).toArray} })
  (R:=λ(q:Result) (s':aK)=>∃(h':bT) (tk:Nat) (ph:Array aj) (d0:Nat),q=.ok (.ret (.ref s.heap.objs.size))/\s'={s with heap:=h',toks:=tk} /\
   (∀b o,s.heap.get? b=some o->h'.get? b=some o)/\h'.get? s.heap.objs.size=some {cls:=.type "list",dict:=none,data:=.seq ph d0,slots:=#[]}/\ItemsOf P ph n)
  W c4 (W.keep _ _ b8 λb _ o e=>c2 _ e) s.heap.objs.size (g_ d2.1) (g_ d2.2) (.ref s.heap.objs.size) 0 Vv
  (λh' tk ph d0 aI qX kR=>⟨h',tk,ph,d0,rfl,rfl,λb o e=>aI b o (eL (cP e)) (c2 _ e),qX,kR⟩) a7
 refine fL key (λfin s' x=>?_) λe s' x=>?_
 ·cases fin with
  |done f=>
   obtain⟨h',tk,ph,d0,e,rfl,aI,qX,kR⟩:=x;cases e;show bp _ A (load s.heap.objs.size >>= _) _ _ _;refine aV (wpAny_load qX ?_);exact cw (h h' tk ph aI (Nat.le_of_lt (cP qX)) kR)
  |again c₁=>
   refine⟨x.1,codeAny_mono x.2 λq lR y=>?_⟩
   obtain⟨h',tk,ph,d0,rfl,rfl,aI,qX,kR⟩:=y;show bp _ A (load s.heap.objs.size >>= _) _ _ _;refine aV (wpAny_load qX ?_);exact cw (h h' tk ph aI (Nat.le_of_lt (cP qX)) kR)
 ·obtain⟨_,_,_,_,a9,_⟩:=x;cases a9
end
end
section
variable [cV]
theorem Ht{α:Type}{r:α->α->Prop}(JK:∀a b,r a b->r b a->a=b):∀{l m:List α},l.Perm m->l.Pairwise r->m.Pairwise r->l=m
| [],m,p,_,_=>(List.Perm.nil_eq p)
|a::l,m,p,ab,ak=>by
  cases m with
  |nil=>exact absurd p.length_eq (by simp)
  |cons b m=>
   have Vx:a=b:=by
    have ax:a∈b::m:=p.mem_iff.mp (by simp);have aa:b∈a::l:=p.mem_iff.mpr (by simp);rcases cM.mp ax with q|q
    ·exact q
    ·rcases cM.mp aa with z|z
     ·exact z.symm
     ·exact JK a b ((lU.mp ab).1 b z) ((lU.mp ak).1 a q)
   subst Vx;rw[Ht JK (List.perm_cons a |>.mp p) (lU.mp ab).2 (lU.mp ak).2]
theorem insI_perm(x:Int):∀l:List Int,(insI x l).Perm (x::l)
| []=>.rfl
|y::ys=>by
  unfold insI;split
  ·exact .rfl
  ·exact ((insI_perm x ys).cons y).trans (.swap _ _ _)
theorem sortI_perm:∀l:List Int,(sortI l).Perm l
| []=>.rfl
|x::xs=>(insI_perm x _).trans ((sortI_perm xs).cons x)
theorem PL(x:Int):∀{l:List Int},l.Pairwise (·<=·)->(insI x l).Pairwise (·<=·)
| [],_=>by simp[insI]
|y::ys,h=>by
  unfold insI;have h':=lU.mp h;split
  next q=>exact lU.mpr ⟨λz aq=>by
   rcases cM.mp aq with rfl|aq
   ·exact q
   ·exact Int.le_trans q (h'.1 z aq),h⟩
  next q=>exact lU.mpr ⟨λz aq=>by
   rcases cM.mp ((insI_perm x ys).mem_iff.mp aq) with rfl|aq
   ·omega
   ·exact h'.1 z aq,PL x h'.2⟩
theorem H':∀l:List Int,(sortI l).Pairwise (·<=·)
| []=>.nil
|x::xs=>PL x (H' xs)
def O6{l m:List Int}(p:l.Perm m)(h:l.Pairwise (·<=·)):l=sortI m:=Ht (λa b ab ak=>Int.le_antisymm ab ak) (p.trans (sortI_perm m).symm) h (H' m)
def ac0{l m:List Int}(p:l.Perm m):sortI l=sortI m:=O6 ((sortI_perm l).trans p) (H' l)
abbrev iw(x y:Str):Prop:=strLt y x=false
def aex(x y:Str):strLt x y=ltCps x.cps.toList y.cps.toList:=(ltCps_eq _ _).symm
def adX{x y:Str}(h:strLt x y=true):iw x y:=by
 unfold iw strLt at *;simp only[decide_eq_true_eq,decide_eq_false_iff_not] at *;exact List.lt_asymm h
def Oj{x y z:Str}(ab:iw x y)(ak:iw y z):iw x z:=by
 unfold iw strLt at *;simp only[decide_eq_false_iff_not] at *;exact List.not_lt.mpr (List.le_trans (List.not_lt.mp ab) (List.not_lt.mp ak))
def aeF{x y:Str}(ab:iw x y)(ak:iw y x):x=y:=by
 unfold iw strLt at *;simp only[decide_eq_false_iff_not] at *;have e:x.cps.toList=y.cps.toList:=List.le_antisymm (List.not_lt.mp ab) (List.not_lt.mp ak);cases x;cases y;simp only[Array.toList_inj] at e;exact congrArg _ e
theorem H2(x:Str):∀l:List Str,(q9 x l).Perm (x::l)
| []=>.rfl
|y::ys=>by
  unfold q9;split
  ·exact .rfl
  ·exact ((H2 x ys).cons y).trans (.swap _ _ _)
theorem tA:∀l:List Str,(jk l).Perm l
| []=>.rfl
|x::xs=>(H2 x _).trans ((tA xs).cons x)
theorem PK(x:Str):∀{l:List Str},l.Pairwise iw->(q9 x l).Pairwise iw
| [],_=>by simp[q9]
|y::ys,h=>by
  unfold q9;have h':=lU.mp h;split
  next q=>
   have eb:iw x y:=by simpa [iw] using q
   exact lU.mpr ⟨λz aq=>by
    rcases cM.mp aq with rfl|aq
    ·exact eb
    ·exact Oj eb (h'.1 z aq),h⟩
  next q=>
   have eb:strLt y x=true:=by simpa using q
   exact lU.mpr ⟨λz aq=>by
    rcases cM.mp ((H2 x ys).mem_iff.mp aq) with rfl|aq
    ·exact adX eb
    ·exact h'.1 z aq,PK x h'.2⟩
theorem H_:∀l:List Str,(jk l).Pairwise iw
| []=>.nil
|x::xs=>PK x (H_ xs)
def O3{l m:List Str}(p:l.Perm m)(h:l.Pairwise iw):l=jk m:=Ht (λa b ab ak=>aeF ab ak) (p.trans (tA m).symm) h (H_ m)
def acZ{l m:List Str}(p:l.Perm m):jk l=jk m:=O3 ((tA l).trans p) (H_ l)
theorem NX:∀(l:List Str) (p:Str),risingS p l=true->(p::l).Pairwise iw
| [],p,_=>by simp
|x::r,p,h=>by
  simp only[risingS,jG,Bool.not_eq_true'] at h;have b9:=NX r x h.2;have La:iw p x:=by
   unfold iw;rw[aex];exact h.1
  refine lU.mpr ⟨λz aq=>?_,b9⟩
  rcases cM.mp aq with rfl|aq
  ·exact La
  ·exact Oj La ((lU.mp b9).1 z aq)
def adp{l:List Str}(h:sortedS l=true):l.Pairwise iw:=by
 cases l with
|nil=>exact .nil
|cons x r=>exact NX r x h
end
section
variable [cV]
section
variable {prog:cF}{w:cv}{A:cY}{E:aj->aK->Prop}{s:aK}
inductive ug:List aj->List aj->Prop where
|Ge {vs out:List aj} {ns:List Int}:IntsAre vs ns->IntsAre out (sortI ns)->ug vs out
|Gf {vs out:List aj} {ss:List Str}:StrsAre vs ss->StrsAre out (jk ss)->ug vs out
noncomputable def Io(vs:List aj):Prop:=vs.length<64/\((∃ns,IntsAre vs ns)\/∃ss,StrsAre vs ss)
def sortedHeap_at{h:bT}{a:ah}{vs:List aj}{n:Nat}{out:Array aj}(aF:h.get? a=some (seqObj "list" vs.toArray n)):
  (∃e,(sortedHeap h a vs out).get? a=some (seqObj "list" out e))/\∀b o,b≠a->h.get? b=some o->(sortedHeap h a vs out).get? b=some o:=by
 have d2:=cP aF;unfold sortedHeap;refine⟨?_,λb o aa e=>?_⟩
 ·have ab:=get?_update_seq aF (λ_=>(#[]:Array aj));have ak:=c2 (seqObj "tuple" vs.toArray 0) ab;have bF:=c2 (seqObj "list" #[] 0) ak;exact⟨_,get?_update_seq bF (λ_=>out)⟩
 ·rw[vN _ _ (Ne.symm aa)];exact c2 _ (c2 _ ((vN _ _ (Ne.symm aa)).trans e))
def adT{a:ah}{vs:List aj}{n:Nat}{P:Fin->aK->Prop}(aF:s.heap.get? a=some (seqObj "list" vs.toArray n))(az:Io vs)
  (h:∀out:Array aj,ug vs out.toList->P (.done (.ret .none)) {s with heap:=sortedHeap s.heap a vs out}):bp (bL prog w) A (Builtin.«list.sort» ⟨[.ref a],[]⟩) P E s:=by
 obtain⟨KS,⟨ns,pD⟩|⟨ss,eP⟩⟩:=az
 ·refine list_sort_tree aF pD KS λout Ga a1 a2 i2=>h out (.Ge pD ?_)
  rw[<- O6 a2 i2];exact a1
 ·refine list_sort_treeK strKind_oneLt aF eP.keysOf (λah6 ah7 rest e=>keyKind_strs (by rw[<- e];exact eP)) KS λmC aL az=>?_
  obtain⟨GL,ab,ak,bF⟩:=sorted_out_str eP aL az;refine h _ (.Gf eP ?_);rw[<- O3 ak (adp bF)];exact ab
def acY{r:ah}{C:List aj->Prop}{Q:aj->aK->Prop}
  (VL:∀(m1:aj->aK->Prop) (R:List aj->aK->Prop),(∀h' tk d vs,(∀b o,s.heap.get? b=some o->h'.get? b=some o)->s.heap.objs.size<=h'.objs.size->C vs->R vs {s with heap:=h',toks:=tk,drawn:=d})->bp (bL prog w) A.in1 (collect (.ref r)) R m1 s)
  (Vo:∀vs,C vs->Io vs)
  (h:∀h' tk d D e vs out,C vs->ug vs out->(∀b o,s.heap.get? b=some o->h'.get? b=some o)->s.heap.objs.size<=D->h'.get? D=some (seqObj "list" out.toArray e)->Q (.ref D) {s with heap:=h',toks:=tk,drawn:=d}):
  bp (bL prog w) A (call (.builtin "sorted") [.ref r]) Q E s:=by
 refine Calls.call_function_entry kind_sorted plain_sorted entry_sorted (args_sorted1 _) ?_
 unfold Builtin.«sorted»;refine aV (m:=checkCount "sorted" 1 1 _) (cw ?_);refine aV (VL _ _ λh' tk d vs aD hsz c=>?_);have az:=Vo vs c;have aq:vs.length<=cp:=by
  have:=az.1;rw[mM];omega
 refine aV (wpAny_newList ?_ aq)
 have uY:(h'.push (seqObj "list" vs.toArray 0)).get? h'.objs.size=some (seqObj "list" vs.toArray 0):=g9 _ rfl;refine aV (k4 (oQ slot_list_sort ⟨_,uY,rfl⟩ entry_list_sort (adT uY az λout sY=>⟨_,rfl,?_⟩) (args_list_sort _)));obtain⟨⟨e,he⟩,aI⟩:=sortedHeap_at (out:=out) uY;refine cw ⟨_,rfl,?_⟩;exact h _ tk d h'.objs.size e vs out.toList c sY (λb o q=>aI b o (eL (cP (aD b o q))) (c2 _ (aD b o q))) hsz he
end
section
variable {X:bj}{ag:List (ah×Obj)}{σ:bc.St}{H:aw}{s:aK}
def HZ{a:ah}{o:dZ}{t':Nat}{d':Drawn}{h':bT}(I:Inv X ag σ H s)(k:∀b u,s.heap.get? b=some u->h'.get? b=some u)(aL:s.heap.objs.size<=a)(new:hr X.prog X.w (upd H a o) h' a o):
  Inv X ag σ (upd H a o) {s with heap:=h',toks:=t',drawn:=d'}:=
 I.call (ch:=[]) (g':=s.gens) (gB.laid k aL (I.b8.fresh aL)) (I.b8.laid k aL new) I.bare λ_ z=>nomatch z
theorem H0:∀{us:List aj} {ns:List Int},IntsAre us ns->Vals (ns.map V.int) us
|_,_,.nil=>.nil
|_,_,.cons n t r=>.cons ⟨t,rfl⟩ (H0 r)
theorem HQ:∀{us:List aj} {ss:List Str},StrsAre us ss->Vals (ss.map V.str) us
|_,_,.nil=>.nil
|_,_,.cons n t r=>.cons ⟨t,rfl⟩ (HQ r)
theorem HP:∀{us:List aj} {bf:List bc.Key},Vals (bf.map d9) us->Paired (r_ (gM X.prog X.w)) us bf
| [],[],_=>.nil
|_,.inl i::bf,.cons r rs=>by
  obtain⟨t,rfl⟩:=r;exact .cons ⟨NJ _ _ i t,rfl⟩ (HP rs)
|_,.inr x::bf,.cons r rs=>by
  obtain⟨t,rfl⟩:=r;exact .cons ⟨NI _ _ x t,rfl⟩ (HP rs)
theorem HY:∀{us:List aj} {bf:List bc.Key} {ns:List Int},Paired (r_ (gM X.prog X.w)) us bf->bf=ns.map Sum.inl->IntsAre us ns
|_,_,[],.nil,_=>.nil
|_,_,n::ns,.cons a b,e=>by
  cases e
  have a1:=a.1;rw[N9] at a1;rcases mN a1 with ⟨i,t,aH,rfl⟩|⟨x,t,aH,rfl⟩
  ·cases aH
   exact .cons _ t (HY b rfl)
  ·cases aH
theorem HW:∀{us:List aj} {bf:List bc.Key} {ss:List Str},Paired (r_ (gM X.prog X.w)) us bf->bf=ss.map Sum.inr->StrsAre us ss
|_,_,[],.nil,_=>.nil
|_,_,n::ns,.cons a b,e=>by
  cases e
  have a1:=a.1;rw[N9] at a1;rcases mN a1 with ⟨i,t,aH,rfl⟩|⟨x,t,aH,rfl⟩
  ·cases aH
  ·cases aH
   exact .cons _ t (HW b rfl)
def zZ{α β:Type}(f:α->β):∀{l:List α} {m:List β},m.Perm (l.map f)->∃nu:List α,m=nu.map f/\nu.Perm l:=by
 intro l m p;generalize hx:l.map f=lf at p
 induction p generalizing l with
|nil=>
  rw[List.map_eq_nil_iff] at hx;subst hx;exact⟨[],rfl,.rfl⟩
|cons x _ b9=>
  cases l with
  |nil=>cases hx
  |cons a r=>
   simp only[dC,List.cons.injEq] at hx;obtain⟨nu,e,q⟩:=b9 hx.2;exact⟨a::nu,by rw[dC,hx.1,e],q.cons a⟩
|swap x y r=>
  match l,hx with
  |a::b::bR,hx=>
   simp only[dC,List.cons.injEq] at hx;exact⟨b::a::bR,by rw[dC,dC,hx.1,hx.2.1,hx.2.2],.swap _ _ _⟩
|trans _ _ cj cu=>
  obtain⟨b1,aH,aP⟩:=cu hx;obtain⟨b_,aS,ba⟩:=cj aH.symm;exact⟨b_,aS,ba.trans aP⟩
noncomputable def Bd(bf:List bc.Key)(ys:List V):Prop:=(∃ns:List Int,bf=ns.map Sum.inl/\ys=(sortI ns).map V.int)\/∃ss:List Str,bf=ss.map Sum.inr/\ys=(jk ss).map V.str
def aey{vs out:List aj}{bf vb:List bc.Key}{ys:List V}(bq:Paired (r_ (gM X.prog X.w)) vs vb)(aL:vb.Perm bf)(sY:ug vs out)(aI:Bd bf ys):Vals ys out:=by
 rcases aI with ⟨ns,rfl,rfl⟩|⟨ss,rfl,rfl⟩
 ·obtain⟨Ga,rfl,kS⟩:=zZ Sum.inl aL;have pD:=HY bq rfl;cases sY with
  |Ge a b=>
   rename_i ms
   rw[<- ac0 kS,show Ga=ms from ?_]
   ·exact H0 b
   ·rw[<- IntsAre.numsOf pD,<- IntsAre.numsOf a]
  |Gf a b=>
   cases a with
   |nil=>
    cases pD
    have:ns=[]:=List.Perm.eq_nil kS.symm;subst this;exact HQ b
   |cons x t _=>cases pD
 ·obtain⟨GL,rfl,kS⟩:=zZ Sum.inr aL;have eP:=HW bq rfl;cases sY with
  |Gf a b=>
   rename_i ms
   rw[<- acZ kS,show GL=ms from ?_]
   ·exact HQ b
   ·rw[<- StrsAre.strs eP,<- StrsAre.strs a]
  |Ge a b=>
   cases a with
   |nil=>
    cases eP
    have:ss=[]:=List.Perm.eq_nil kS.symm;subst this;exact H0 b
   |cons x t _=>cases eP
def acz{vs:List aj}{bf vb:List bc.Key}{ys:List V}(aq:bf.length<64)(bq:Paired (r_ (gM X.prog X.w)) vs vb)(aL:vb.Perm bf)(aI:Bd bf ys):Io vs:=by
 refine⟨by rw[Qc bq,aL.length_eq];exact aq,?_⟩
 rcases aI with ⟨ns,rfl,_⟩|⟨ss,rfl,_⟩
 ·obtain⟨Ga,rfl,_⟩:=zZ Sum.inl aL;exact .inl ⟨_,HY bq rfl⟩
 ·obtain⟨GL,rfl,_⟩:=zZ Sum.inr aL;exact .inr ⟨_,HW bq rfl⟩
def adU{bf:List bc.Key}{ys:List V}(h:Bd bf ys):ys.length=bf.length:=by
 rcases h with ⟨ns,rfl,rfl⟩|⟨ss,rfl,rfl⟩
 ·simp[(sortI_perm ns).length_eq]
 ·simp[(tA ss).length_eq]
theorem PG:∀{kvs:List (bc.Key×V)} {vs:List (bc.Key×aj)},gz kvs vs->kvs.map (·.1)=vs.map (·.1)
|_,_,.nil=>rfl
|_,_,.cons a b=>by simp[a.1,PG b]
def acS(ay:X.calm=true):lj X (.builtin "sorted") (λxs H Q=>∃p bf ys,xs=[.ref p]/\eU X.K H p (bf.map d9)/\bf.length<64/\Bd bf ys/\∀l,H l=none->Q (.ref l) (upd H l (.lst ys))):=by
 intro ag s σ H xs us Q I r h;obtain⟨p,bf,ys,rfl,bK,aq,aI,q⟩:=h;obtain⟨u,rfl,aU⟩:=vals1 r;cases aU;obtain⟨its,bR,pl,q6⟩:=I.list bK;have hlen:=bR.length;rw[gc] at hlen;have hit:Paired (r_ (gM X.prog X.w)) its bf:=HP (by simpa using bR);refine acY (C:=λus=>us=its) (λm1 R qW=>collect_list pl.isList (qW _ s.toks s.drawn its (λb o e=>?_) ?_ rfl) (by rw[mM];omega)) (λus b7=>by subst b7;exact acz aq hit .rfl aI) λh' tk d D e us out b7 sY aD hZ he=>?_
 ·exact (vN _ _ (g_ (cP e))).trans (c2 _ e)
 ·rw[Heap.size_update,jF];exact gu _
 ·subst b7;exact⟨.ref D,_,HZ I (o:=.lst ys) aD hZ ⟨by rw[adU aI,mM];omega,out,e,aey hit .rfl sY aI,he⟩,rfl,q _ (I.b8.fresh hZ)⟩
end
end
section
variable [cV]
theorem HR:∀{ts:List T} {ss:List Str},strsOf ts=some ss->ts=ss.map .str
| [],ns,e=>by
  cases e
  rfl
|t::ts,ns,e=>by
  unfold strsOf at e;split at e
  ·rename_i h
   cases h
  ·rename_i h
   cases h
   simp only[dX] at e;obtain⟨r,aH,rfl⟩:=e;rw[HR aH];rfl
  ·cases e
section
variable {K:a_}{F:ah->Prop}{H:aw}
theorem Ol:∀(ns:List Int),bh K F H (ns.map .int) (ns.map V.int)
| []=>bh.nil
|n::ns=>bh.cons (by simp[Rep]) (Ol ns)
theorem HS:∀(ns:List Str),bh K F H (ns.map .str) (ns.map V.str)
| []=>bh.nil
|n::ns=>bh.cons (by simp[Rep]) (HS ns)
theorem HH:∀{ns:List Str} {vs:List V},bh K F H (ns.map .str) vs->vs=ns.map V.str
| [],vs,h=>by simpa [bh] using h
|n::ns,vs,h=>by
  simp only[dC,bh,Rep] at h;obtain⟨v,r,rfl,rfl,z⟩:=h;rw[HH z];rfl
end
end
section
variable [cV]
section
variable {X:bj}{a b e:bz}{es rest:List bz}{f g:bE}{ar:List bE}{p fK pos lO:Pos}
def P9{op:BoolOp}(h:cC X a f):cC X (.BoolOp op [a] pos) f:=Qb h
def aho{op:BoolOp}(h:cC X a f):cC X (.BoolOp op [a] pos) f:=Qb h
def QG(ax:cC X a f)(aa:cC X (.BoolOp .And (b::rest) pos) g):cC X (.BoolOp .And (a::b::rest) pos) (pj f g):=d7 (agD ax aa) λσ H Q ⟨au,aQ,O,F,ε,t,r,e,k⟩=>by
 simp only[pj,cg] at e;obtain⟨x,ex,e⟩:=e;refine⟨au,aQ,O,F,ε,x,r,ex,λv aX H1 aR aU=>?_⟩;split at e
 ·simp only[Rep] at aU;refine⟨true,aU,?_⟩;rw[if_pos rfl];exact⟨au,aQ,O,aX,ε,t,r.ext aR,e,λv aB af b4 q=>k v aB af (aR.trans b4) q⟩
 ·cases e
  simp only[Rep] at aU;refine⟨false,aU,?_⟩;rw[if_neg (by decide)];exact k _ aX H1 aR (by simp[Rep])
 ·cases e
def _N(ax:cC X a f)(aa:cC X (.BoolOp .Or (b::rest) pos) g):cC X (.BoolOp .Or (a::b::rest) pos) (vn f g):=d7 (ahu ax aa) λσ H Q ⟨au,aQ,O,F,ε,t,r,e,k⟩=>by
 simp only[vn,cg] at e;obtain⟨x,ex,e⟩:=e;refine⟨au,aQ,O,F,ε,x,r,ex,λv aX H1 aR aU=>?_⟩;split at e
 ·simp only[Rep] at aU;refine⟨false,aU,?_⟩;rw[if_neg (by decide)];exact⟨au,aQ,O,aX,ε,t,r.ext aR,e,λv aB af b4 q=>k v aB af (aR.trans b4) q⟩
 ·cases e
  simp only[Rep] at aU;refine⟨true,aU,?_⟩;rw[if_pos rfl];exact k _ aX H1 aR (by simp[Rep])
 ·cases e
noncomputable def zg(K:a_)(f:Ev->Option (Option Int)):cx:=λσ H Q=>∃au aQ O F ε i,bN K au aQ O F H ε σ/\f ε=some i/\∀aB af,Ext F H aB af->Q i af
def Qy{x:Option bz}{t t':cx}(h:m5 X x t)(k:∀σ H Q,t' σ H Q->t σ H Q):m5 X x t':=λag s σ H Q I q=>h ag s σ H Q I (k σ H Q q)
def agK:m5 X none (zg X.K optN):=Qy afD λσ H Q ⟨au,aQ,O,F,ε,i,r,e,k⟩=>by
 cases e
 exact k F H (Ext.refl r.cf)
def agJ(h:ek X a f):m5 X (some a) (zg X.K (opt f)):=Qy (afC h) λσ H Q ⟨au,aQ,O,F,ε,i,r,e,k⟩=>by
 simp only[opt,cg] at e;obtain⟨x,ex,e⟩:=e;refine⟨au,aQ,O,F,ε,x,r,ex,λv aX H1 aR aU=>?_⟩;split at e
 ·cases e
  exact⟨_,aU.int,k aX H1 aR⟩
 ·cases e
noncomputable def _X(K:a_):V->Option Int->Option Int->aw->c6->Prop:=λx lo aJ H Q=>∃a xs,x=.ref a/\df K H a xs/\(e3.cL xs.length 0 lo=0/\e3.cL xs.length xs.length aJ=xs.length)/\Q (.ref a) H
def ab1{prog:cF}{w:cv}{A:cY}{E:aj->aK->Prop}{s:aK}{t cI:ah}{items:Array aj}{g8 eK:aj}{lo aJ:Option Int}{Q:aj->aK->Prop}(bg:IsTup s.heap t items)(az:s.heap.IsSliceOf cI g8 eK .none)(pl:IsPart g8 lo)(pu:IsPart eK aJ)
  (hw:e3.cL items.size 0 lo=0/\e3.cL items.size items.size aJ=items.size) (h:Q (.ref t) s):bp (bL prog w) A (getItem (.ref t) (.ref cI)) Q E s:=by
 obtain⟨os,oi,ya,uR⟩:=id az;have Dz:s.TypeIs (.ref cI) "slice":=⟨os,oi,ya⟩;unfold getItem
 try with_reducible refine k4 ?_
 first|refine aV (cw ?_)|skip
 refine aV (wpAny_sequenceKey bg.typeIs (by decide) ?_)
 refine aV (p9 (name:=Str.ofString "__getitem__") bg.typeIs aiw
  (oQ aiw bg.typeIs entry_tuple_getitem ?_ (args_tuple_getitem _ _)))
 show bp _ _ (Builtin.Tuple.tupleItemsOf (.ref t) >>= _) _ _ s
 refine aV (tupleItemsOf_ bg ?_)
 refine aV (wpAny_typeOf Dz ?_)
 rw[if_pos (by decide)];refine aV (e3.Mn az pl pu ?_);rw[hw.1,hw.2];show bp _ _ (if (((0:Nat):Int)==0 && (1:Int)==1 && (items.size - 0)==items.size)=true then _ else _) _ _ s;rw[if_pos (by simp)];unfold Builtin.Tuple.tupleIsExact;refine aV (aV (wpAny_typeOf bg.typeIs (cw ?_)));rw[if_pos (by decide)];refine aV (wpAny_rule ?_);exact cw ⟨_,rfl,cw h⟩
def aeA:pf X (_X X.K):=by
 intro ag s σ H x v g8 eK lo aJ cI Q I aU az pl pu h;obtain⟨a,xs,rfl,hx,hw,q⟩:=h;cases aU;obtain⟨its,r,bg,aq⟩:=I.tuple hx;have hlen:its.toArray.size=xs.length:=by rw[er];exact r.length.symm
 refine⟨"tuple",_,PyProof.Rows.slot_tuple_getitem.lookup,bg.typeIs,?_⟩
 exact ab1 bg az pl pu (by rw[hlen];exact hw) ⟨.ref a,H,I,rfl,q⟩
def agl(n d:Nat)(o:Option Int):D.cL n d o=e3.cL n d o:=by
 cases o with
|none=>rfl
|some v=>
  unfold D.cL e3.cL;dsimp only;split <;> omega
def Ie{K:a_}{F:ah->Prop}{H:aw}{ts:List T}{vs:List V}(h:bh K F H ts vs)(lo aJ:Option Int):bh K F H (uA ts lo aJ) (ma vs lo aJ):=by
 unfold uA ma;simp only[agl,h.length];exact (h.drop _).take _
def afw{lo aJ:Option bz}{ng KQ:Ev->Option (Option Int)}(ax:ek X e f)(av:m5 X lo (zg X.K ng))(b7:m5 X aJ (zg X.K KQ)):cC X (.Subscript e (.Slice lo aJ none fK) pos) (slice f ng KQ):=d7 (aeN ((agf.or aeA).or afn) ax av b7) λσ H Q ⟨au,aQ,O,F,ε,t,r,e,k⟩=>by
 simp only[slice,cg] at e;obtain⟨x,ex,l,gk,h,gU,e⟩:=e;refine⟨au,aQ,O,F,ε,x,r,ex,λv aX H1 aR aU=>⟨au,aQ,O,aX,ε,l,r.ext aR,gk,λdR a' b4=>⟨au,aQ,O,dR,ε,h,(r.ext aR).ext b4,gU,λgw dn d5=>?_⟩⟩⟩;have G0:=b4.trans d5;have oG:=aR.trans G0;unfold Gb at e;split at e
 ·cases e
  obtain⟨a,vs,rfl,az,aC⟩:=(aU.ext G0).tup;by_cases hw:e3.cL vs.length 0 l=0/\e3.cL vs.length vs.length h=vs.length
  ·refine .inl (.inr ⟨a,vs,rfl,az,hw,k _ gw dn oG ?_⟩)
   simp only[Rep];refine⟨a,vs,rfl,az,?_⟩;have:=Ie aC l h;unfold ma at this;rw[hw.1,hw.2,List.drop_zero,Nat.sub_zero,List.take_length] at this;exact this
  ·refine .inl (.inl ⟨a,vs,rfl,az,hw,λq bK=>?_⟩)
   have p0:=Ext.laid (o:=.tup (ma vs l h)) oG.cf bK;refine k _ gw _ (oG.trans p0) ?_;simp only[Rep];exact⟨q,_,rfl,df.of dY,(Ie aC l h).ext p0⟩
 ·cases e
  obtain⟨a,vs,rfl,az,aC⟩:=(aU.ext G0).lst;refine .inr ⟨a,vs,rfl,.inl az,λq bK=>?_⟩;have p0:=Ext.yT (o:=.lst (ma vs l h)) oG.cf bK;refine k _ _ _ (oG.trans p0) ?_;simp only[Rep];exact⟨q,_,rfl,.inr rfl,.inl dY,(Ie aC l h).ext p0⟩
 ·cases e
end
end
end D
end
section
namespace D
open PySem PySem.W PyProof.Rows
structure Sa(n:Nat)(lt:Nat->Nat->Bool):Prop where
 ahJ:∀i j,lt i j=true->lt j i=false
 trans:∀i j k,lt i j=true->lt j k=true->lt i k=true
 ah5:∀i j,i<n->j<n->i≠j->lt i j=true\/lt j i=true
noncomputable def pe(lt:Nat->Nat->Bool)(p:Array Nat)(m:Nat):Prop:=∀i j,i<j->j<m->lt (p.getD i 0) (p.getD j 0)=true
noncomputable def gR(lt:Nat->Nat->Bool)(p:Array Nat)(m:Nat):Prop:=∀i j,i<j->j<m->lt (p.getD j 0) (p.getD i 0)=true
section
variable {n:Nat}{lt:Nat->Nat->Bool}(O:Sa n lt)
include O
end
end D
end
section
namespace D
open PySem
variable [cV]
end D
end
section
namespace D
open PySem PySem.Spec PyProof.Rows bc
section
variable [cV]
def OF:entryFor table "dict.update.loop"=some Builtin.«dict.update.loop»:=entryFor_of_tree (by kernel_rfl)
def AA:plainId "dict.update.loop"=true:=by decide +kernel
section
variable {prog:cF}{w:cv}{K:Type}[DecidableEq K]{knd:PySem.KeyKind prog w K}{A:cY}
def pair_items{E:aj->aK->Prop}{s:aK}{p:ah}{o:Obj}{n:Nat}{xs:Array aj}{Q:List aj->aK->Prop}(ab:s.heap.get? p=some o)(ak:o.cls=.type "tuple")(bF:o.data=.seq xs n)(h:Q xs.toList s):bp (bL prog w) A (Builtin.Dict.pairItems (.ref p)) Q E s:=by
 obtain⟨c,xh,dat,cI⟩:=o;simp only at ak bF;subst ak bF;obtain⟨aL,g,d,tk,os⟩:=s;have eo:(⟨aL,g,d,tk,os⟩:aK).TypeIs (.ref p) "tuple":=⟨_,ab,rfl⟩;unfold Builtin.Dict.pairItems
 repeat (any_goals (first|assumption|wp_step))
def stored_new{kvs:List (K×aj)}{k:K}{v:aj}(h:k∉kvs.map (·.1)):stored kvs k v=kvs++[(k,v)]:=by
 unfold stored;rw[if_neg];intro q;obtain⟨x,hx,e⟩:=List.any_eq_true.mp q;exact h (et.mpr ⟨x,hx,by simpa using e⟩)
variable {R:Result->aK->Prop}{I:ah}{bW wr:List ah}{G:Array GenState->Array GenState->Prop}{St:Nat->aK->Prop}{items:Array aj}
variable {E:aj->aK->Prop}{s:aK}
end
end
section
variable [cV]
open AutoSeq1 (wpAny_loadPart')
noncomputable def JA(K:a_)(a:ah):kb:=
 ⟨λi H=>∃xs x,eU K H a xs/\xs[i]?=some x,λi H x af=>∃p v,H p=none/\x=.ref p/\af=upd H p (.tup [.int i,v])/\∀xs,eU K H a xs->xs[i]?=some v,λi H=>∃xs,eU K H a xs/\xs.length<=i⟩
def adn{P:cF}{w:cv}{K:a_}{es:List bz}{k:Nat}{pos:Pos}(a it e:ah)(il:e≠it)(nq:a≠it)(DC:a≠e):Turn P w K (.Tuple es k pos) (JA K a) [e,it] e (λi h=>(∃old,IsEnum h e it i old)/\h.IsListIter it a i) where
 mem:=by simp
 obj:=λi h st b aa=>by
  obtain⟨⟨old,he⟩,o,aF,ay,hd⟩:=st;rcases cM.mp aa with rfl|aa
  ·exact⟨_,he,λv z=>by
    have jf:Data.fields _=Data.cell v:=z;cases jf⟩
  ·have aH:b=it:=by simpa using aa
   subst aH;exact⟨o,aF,λv z=>by rw[hd] at z;cases z⟩
 keep:=λi h h' st bJ=>by
  obtain⟨⟨old,he⟩,hI⟩:=st;exact⟨⟨old,bJ e (by simp) _ he⟩,hI.at λo q=>bJ it (by simp) o q⟩
 item:=by
  intro X hh hw hC ay i ag s σ H E I hf st bG;subst hh hw hC;obtain⟨xs,x,bK,hx⟩:=bG;obtain⟨its,bZ,p,aq⟩:=I.list bK;obtain⟨u,b7,dm⟩:=bZ.get hx;obtain⟨⟨old,he⟩,hit⟩:=st;obtain⟨f0,f1,f2,hW,f4,hX⟩:=hf e (by simp);obtain⟨nk,g1,g2,g3,qR,lE⟩:=hf it (by simp);have aJ:i<its.toArray.size:=by
   rw[er];exact (ed.mp b7).1
  have DU:e∉[it,a]:=by
   intro z;rcases cM.mp z with z|z
   ·exact il z
   ·have jf:e=a:=by simpa using z
    exact DC jf.symm
  refine wpAny_pyNext_enum_itemD (Draws.list (A:=X.A.in1) (I.ok.hd ay) it a nq its.toArray) he ⟨hit,p.isList⟩ aJ il DU λhN h' tk Dw aF iN eo hsz aI=>?_
  have ex:hN=u:=by
   have:=Dw;rw[<- Array.getElem?_toList] at this;rw[show (its.toArray).toList=its from rfl,b7] at this;exact (eB this).symm
  subst ex;refine⟨_,rfl,wpAny_letOwnedTupleGo_enum aF λak kf jy=>?_⟩;have uS:e<s.heap.objs.size:=cP he;have DP:it<s.heap.objs.size:=by obtain⟨o,jx,_⟩:=hit;exact cP jx
  have dN:∀b o,b≠e->b≠it->s.heap.get? b=some o->ak.get? b=some o:=λb o ab bF q=>jy.extBut b o ab (aI b o ab bF q);have fr:H s.heap.objs.size=none:=I.b8.fresh (dD _);have Dy:ak.get? s.heap.objs.size=some {cls:=.type "tuple",data:=.seq #[.int i tk,hN]}:=jy.extBut _ _ (g_ uS) eo;have mz:∀b o,H b=some o->b≠e/\b≠it:=λb o q=>⟨λz=>(by rw[z,f0] at q;cases q),λz=>(by rw[z,nk] at q;cases q)⟩;have DX:e2 X.prog X.w (upd H s.heap.objs.size (.tup [.int i,x])) ak:=by
   intro b o q;by_cases aa:b=s.heap.objs.size
   ·subst aa;rw[dY] at q;cases q;exact⟨by show 2<=cp;decide,[.int i tk,hN],.cons ⟨tk,rfl⟩ (.cons dm .nil),⟨_,Dy,rfl,_,rfl⟩⟩
   ·rw[cQ aa] at q;refine (I.b8 b o q).jD (λc v dh eb=>dN c v ?_ ?_ eb) (λc eb=>?_) λc ys eb=>?_
    ·rcases dh with rfl|dh
     ·exact (mz _ _ q).1
     ·exact (mz _ _ dh).1
    ·rcases dh with rfl|dh
     ·exact (mz _ _ q).2
     ·exact (mz _ _ dh).2
    ·rw[cQ (jK eb fr)];exact eb
    ·rw[cQ (jK eb fr)];exact eb
  have b0:bc.Inv X ag σ (upd H s.heap.objs.size (.tup [.int i,x])) {s with heap:=ak,toks:=tk+1}:=by
   refine I.step (g':=s.gens) (d':=s.drawn) (ch:=[e,it]) (λb aa=>?_) (λb o _ _ dh q _=>dN b o (λz=>dh (by simp[z])) (λz=>dh (by simp[z])) q) (λb o _ _ dh q _=>⟨o.slots,dN b o (λz=>dh (by simp[z])) (λz=>dh (by simp[z])) q⟩) (λb o _ q n=>?_)
    (λb o dh q=>⟨o,dN b o (λz=>dh (by simp[z])) (λz=>dh (by simp[z])) q⟩) (λb ys q=>by rw[cQ (jK q fr)];exact q) (λb o u q=>by rw[cQ (jK q fr)];exact q) (λb aT q=>⟨#[],by rw[cQ (jK q fr),q];simp⟩) (λm hm=>?_) DX I.bare
   ·rcases cM.mp aa with rfl|aa
    ·exact⟨hW,f1,f4,hX⟩
    ·have:b=it:=by simpa using aa
     subst this;exact⟨g3,g1,qR,lE⟩
   ·rw[cQ (eL (cP q))];exact n
   ·obtain⟨o,ie,ep,jx,r⟩:=hm;exact⟨o,ie,ep,dN _ o (Ne.symm f1) (Ne.symm g1) jx,r⟩
  refine⟨.ref s.heap.objs.size,_,b0,rfl,⟨s.heap.objs.size,x,fr,rfl,rfl,λys bI=>by rw[I.LF bI bK];exact hx⟩,⟨⟨_,by simpa using kf⟩,iN.1.at λo q=>(jy.2 it il.symm).trans q⟩,λb aa=>?_⟩
  rcases cM.mp aa with rfl|aa
  ·rw[cQ (eL uS)];exact f0
  ·have:b=it:=by simpa using aa
   subst this;rw[cQ (eL DP)];exact nk
 done:=by
  intro X hh hw hC ay i ag s σ H E I hf st bG;subst hh hw hC;obtain⟨xs,bK,hx⟩:=bG;obtain⟨its,bZ,p,aq⟩:=I.list bK;obtain⟨⟨old,he⟩,hit⟩:=st;obtain⟨nk,g1,g2,g3,qR,lE⟩:=hf it (by simp);have eo:s.TypeIs (.ref e) "enumerate":=⟨_,he,rfl⟩;have av:=bZ.length;unfold pyNext;refine aV (wpAny_attempt (p9 (name:=Str.ofString "__next__") eo F.slot_enumerate_next
   (oQ F.slot_enumerate_next eo F.entry_enumerate_next ?_ (F.args_enumerate_next_1 _))))
  show bp _ _ (field (.ref e) 2 >>= _) _ _ _
  refine aV (ha he rfl (x:=.ref it) rfl ?_)
  refine aV (wpAny_nextOf_list_end (I.ok.hd ay) hit p.isList (by simp;omega) λh' x DJ jz=>?_)
  obtain⟨o,aF,dh⟩:=jz;refine aV (wpAny_isInstance (T:="StopIteration") (b:=true) ⟨o,aF,dh⟩ isSubtype_stop ?_);exact cw ⟨rfl,I.turned (t':=s.toks) (λb o aa q=>DJ b o aa q) nk g1 g3 qR lE⟩
 self:=λ_ _ _ _ _ st h=>by
  obtain⟨⟨old,he⟩,_⟩:=st;exact wpAny_pyIter_enum he h
noncomputable def WS(K:a_)(cq:fY):TI:=λσ H R=>cq σ H λvs H1=>∃a xs,vs=[.ref a]/\((df K H1 a xs/\R (w8 K a) H1)\/(eU K H1 a xs/\R (JA K a) H1))
section
variable {X:bj}{es:List bz}{k:Nat}{p pos fK:Pos}{a:bz}{f:bE}
def aeM{cq:fY}(bG:fo X "enumerate")(hm:X.mg "enumerate"=none)(ax:ia X [a] cq)(az:bS [a] X.env=[(false,eval a X.env)]:=by rfl):pd X (.Tuple es k fK) (.Call (.Name "enumerate" p) [a] [] pos) (WS X.K cq):=by
 intro ag s σ H R I h;refine Call_ (r1 I bG hm PyProof.Rows.boot_enumerate (tc (ct (ax pos ag s σ H _ I h) λus s1 ⟨vs,H1,bk,aO,aP⟩=>?_) az rfl));obtain⟨a,xs,rfl,aP⟩:=aP;cases aO with
|cons r rp=>
  cases rp
  cases r
  have x3:∀b∈[s1.heap.objs.size+1,s1.heap.objs.size],s1.heap.objs.size<=b:=λb aa=>by
   rcases cM.mp aa with rfl|aa
   ·exact gu _
   ·have:b=s1.heap.objs.size:=by simpa using aa
    rw[this];exact dD _
  rcases aP with ⟨bK,q⟩|⟨bK,q⟩
  ·obtain⟨its,bZ,pl,aq⟩:=bk.tuple bK;have lH:a<s1.heap.objs.size:=by obtain⟨o,aF,_⟩:=pl;exact cP aF
   refine MR (show s1.heap.IsTuple a its.toArray from pl) λh' he hit hsz aI=>wpAny_pyIter_enum he ?_
   exact⟨s1.heap.objs.size+1,[s1.heap.objs.size+1,s1.heap.objs.size],_,_,H1,rfl,bk.kept (t':=s1.toks) aI,Og a s1.heap.objs.size (s1.heap.objs.size+1) (Nat.succ_ne_self _) (eL lH) (eL (Nat.lt_succ_of_lt lH)),⟨⟨_,he⟩,hit⟩,λb aa=>bk.uH (x3 b aa) (bk.b8.fresh (x3 b aa)),q⟩
  ·obtain⟨its,bZ,pl,aq⟩:=bk.list bK;have lH:a<s1.heap.objs.size:=by obtain⟨o,n,aF,_⟩:=pl;exact cP aF
   refine call_enumerate_list pl.isList λh' he hit hsz aI=>wpAny_pyIter_enum he ?_
   exact⟨s1.heap.objs.size+1,[s1.heap.objs.size+1,s1.heap.objs.size],_,_,H1,rfl,bk.kept (t':=s1.toks) aI,adn a s1.heap.objs.size (s1.heap.objs.size+1) (Nat.succ_ne_self _) (eL lH) (eL (Nat.lt_succ_of_lt lH)),⟨⟨_,he⟩,hit⟩,λb aa=>bk.uH (x3 b aa) (bk.b8.fresh (x3 b aa)),q⟩
end
end
section
variable [cV]
mutual
noncomputable def hF:T->T->Option Bool
|.int a,.int b=>some (decide (a<b))
|.tuple xs,.tuple ys=>ra xs ys
|_,_=>none
noncomputable def ra:List T->List T->Option Bool
| [],[]=>some false
| [],_::_=>some true
|_::_,[]=>some false
|x::xs,y::ys=>if mK x y then ra xs ys else hF x y
end
noncomputable def JB(A:cY)(s:aK)(y x:aj)(b:Bool):Prop:=
 ∀(prog:cF) (w:cv) (E:aj->aK->Prop) (Q:aj->aK->Prop),Q (.bool b) s->bp (bL prog w) A (richCompare .Lt y x) Q E s
inductive nY(A:cY)(s:aK)(fin:Bool):List (aj×aj)->Bool->Prop
|nil:nY A s fin [] fin
|eq {y x:aj} {r:List (aj×aj)} {b:Bool}:SeqAt.EqAt A s y x true->nY A s fin r b->nY A s fin ((y,x)::r) b
|lt {y x:aj} {r:List (aj×aj)} {b:Bool}:SeqAt.EqAt A s y x false->JB A s y x b->nY A s fin ((y,x)::r) b
section
open PySem.SeqAt
open PySem.AutoSeq1 (wpAny_loadPart')
open PySem.MeetsSeq PySem.MeetsSeq2 PySem.MeetsSeq3
def acD(l b:ah)(items oo:Array aj)(n f9:Nat)(eW lz:Option ah)(cI ko:Array (Option aj))(z:Bool):
  Meets (Builtin.«tuple.__lt__» ⟨[.ref l,.ref b],[]⟩)
   (λA R s=>s.heap.get? l=some {cls:=.type "tuple",dict:=eW,data:=.seq items n,slots:=cI}/\s.heap.get? b=some {cls:=.type "tuple",dict:=lz,data:=.seq oo f9,slots:=ko} /\
    nY A.in1 s (decide (items.size<oo.size)) (items.toList.zip oo.toList) z/\R (.ok (.ret (.bool z))) s):=
 .of_wp λprog w A R s h=>by
  obtain⟨aL,g,d,tk,os⟩:=s;obtain⟨av,aa,bG,h⟩:=h;have f2:=AutoSeq1.sub_tuple_tuple
  wp_walk using wpAny_loadPart' av,wpAny_loadPart' aa,wpAny_forIn_list _ (λrest b s'=>b.1=none/\s'=⟨aL,g,d,tk,os⟩/\nY A.in1 ⟨aL,g,d,tk,os⟩ (decide (items.size<oo.size)) rest z) _
  case turn=>
   rintro⟨y,x⟩ rest b s' ⟨c8,rfl,i5⟩;cases i5 with
   |eq he i5=>
    refine aV (he prog w _ _ ?_)
    wp_walk
    exact⟨rfl,rfl,i5⟩
   |lt he d2=>
    refine aV (he prog w _ _ ?_)
    have D1:=d2 prog w
    wp_walk using D1
    exact⟨_,rfl,h⟩
  case fin=>
   rintro⟨b6,cm⟩ s' ⟨c8,rfl,i5⟩;simp only at c8;subst c8;cases i5
   wp_walk
   exact⟨_,rfl,by simpa [Builtin.Tuple.tupleCompareSizes] using h⟩
  case h=>
   exact⟨rfl,rfl,bG⟩
mutual
theorem aeZ:∀(n8 db:T) (A:cY) (s:aK) (a b:aj) (as bs:List ah) (r:Bool),Reads s.heap a n8 as->Reads s.heap b db bs->n8.canLay0=true->db.canLay0=true->A.units+min n8.depth db.depth<cLine->hF n8 db=some r->JB A s a b r
|.int i,.int j,A,s,_,_,_,_,r,.int _ t,.int _ u,_,_,_,e=>by
  unfold hF at e;cases e;exact λprog w E Q q=>(PyProof.Rows.lt_int q:bp (bL prog w) A (iz .Lt (.int i t) (.int j u)) Q E s)
|.tuple xs,.tuple ys,A,s,_,_,_,_,r,.tuple (a:=l) (o:=o) (vs:=vs) (n:=n) ab ak bF cT,.tuple (a:=nu) (o:=o') (vs:=fc) (n:=ot) eQ dN oq kU,ax,aa,b7,e=>by
  unfold hF at e;simp only[PyData.canLay0] at ax aa;simp only[oM] at b7;have i5:=good_reads xs ys A.in1 s vs.toList fc.toList _ _ r cT kU ax aa (room_in b7) e;obtain⟨cls,eW,data,cI⟩:=o;obtain⟨C3,lz,data2,ko⟩:=o';simp only at ak bF dN oq;subst ak bF dN oq;rw[p6,p6] at i5;exact λprog w E Q q=>richCompare_meets_room (op:=.Lt) ⟨_,ab,rfl⟩ ⟨_,eQ,rfl⟩ PySem.F.slot_tuple_lt PySem.F.entry_tuple_lt (PySem.F.args_tuple_lt_2 _ _) (acD l nu vs fc n ot eW lz cI ko r)
   ⟨ab,eQ,i5,show Value.bool r≠Value.notImplemented/\Q (.bool r) s from ⟨(λx=>nomatch x),q⟩⟩ (by omega)
|.none,_,_,_,_,_,_,_,_,_,_,_,_,_,e=>by simp[hF] at e
|.bool _,_,_,_,_,_,_,_,_,_,_,_,_,_,e=>by simp[hF] at e
|.str _,_,_,_,_,_,_,_,_,_,_,_,_,_,e=>by simp[hF] at e
|.list _,_,_,_,_,_,_,_,_,_,_,_,_,_,e=>by simp[hF] at e
|.dict _,_,_,_,_,_,_,_,_,_,_,_,_,_,e=>by simp[hF] at e
|.int _,.none,_,_,_,_,_,_,_,_,_,_,_,_,e=>by simp[hF] at e
|.int _,.bool _,_,_,_,_,_,_,_,_,_,_,_,_,e=>by simp[hF] at e
|.int _,.str _,_,_,_,_,_,_,_,_,_,_,_,_,e=>by simp[hF] at e
|.int _,.list _,_,_,_,_,_,_,_,_,_,_,_,_,e=>by simp[hF] at e
|.int _,.dict _,_,_,_,_,_,_,_,_,_,_,_,_,e=>by simp[hF] at e
|.int _,.tuple _,_,_,_,_,_,_,_,_,_,_,_,_,e=>by simp[hF] at e
|.tuple _,.none,_,_,_,_,_,_,_,_,_,_,_,_,e=>by simp[hF] at e
|.tuple _,.bool _,_,_,_,_,_,_,_,_,_,_,_,_,e=>by simp[hF] at e
|.tuple _,.str _,_,_,_,_,_,_,_,_,_,_,_,_,e=>by simp[hF] at e
|.tuple _,.list _,_,_,_,_,_,_,_,_,_,_,_,_,e=>by simp[hF] at e
|.tuple _,.dict _,_,_,_,_,_,_,_,_,_,_,_,_,e=>by simp[hF] at e
|.tuple _,.int _,_,_,_,_,_,_,_,_,_,_,_,_,e=>by simp[hF] at e
theorem good_reads:∀(xs ys:List T) (A:cY) (s:aK) (vs ws:List aj) (as bs:List ah) (r:Bool),ReadsAll s.heap vs xs as->ReadsAll s.heap ws ys bs->ks xs=true->ks ys=true->A.units+min (jH xs) (jH ys)<cLine->ra xs ys=some r->nY A s (decide (vs.length<ws.length)) (vs.zip ws) r
| [],[],A,s,_,_,_,_,r,.nil,.nil,_,_,_,e=>by
  unfold ra at e;cases e;exact .nil
| [],_::_,A,s,_,_,_,_,r,.nil,.cons _ _,_,_,_,e=>by
  unfold ra at e;cases e;exact nY.nil
|_::_,[],A,s,_,_,_,_,r,.cons _ _,.nil,_,_,_,e=>by
  unfold ra at e;cases e;exact nY.nil
|x::xs,y::ys,A,s,_,_,_,_,r,.cons aO a4,.cons aP ba,ax,aa,b7,e=>by
  simp only[ks,jG] at ax aa;simp only[jH] at b7;unfold ra at e;have he:=eqAt_reads x y A s _ _ _ _ aO aP ax.1 aa.1 (room_head b7);split at e
  next h=>
   rw[h] at he;have b9:=good_reads xs ys A s _ _ _ _ r a4 ba ax.2 aa.2 (room_tail b7) e;rw[p7];simp only[gK,Nat.add_lt_add_iff_right];exact .eq he b9
  next h=>
   rw[Bool.not_eq_true] at h;rw[h] at he;rw[p7];exact .lt he (aeZ x y A s _ _ _ _ r aO aP ax.1 aa.1 (room_head b7) e)
end
end
end
end D
end
section
namespace D
open PySem
inductive QQ where
|v (f:bE)|o (i:Nat)
abbrev jP:=Ev->Option (T×Ev)
abbrev lp:=Ev->Option aG
noncomputable def dS(c i:Nat)(ε:Ev):Option (gi×List aG):=match ε[i]? with
|some (some (.obj m d0 ar))=>if d0=c then some (m,ar) else none
|_=>none
noncomputable def fld(c i j:Nat):bE:=λε=>(dS c i ε).bind λo=>match o.2[j]? with
|some (.ae t)=>some t
|some (.own ts)=>some (.list ts)
|_=>none
noncomputable def ft(c i j:Nat):bE:=λε=>(dS c i ε).bind λo=>match o.2[j]? with
|some (.ae t)=>some t
|_=>none
noncomputable def mm(c i j:Nat):Ev->Option (List (Key×T)):=λε=>(dS c i ε).bind λo=>match o.2[j]? with
|some (.f3 kvs)=>some kvs
|_=>none
noncomputable def mn(c i j:Nat):Ev->Option (List T):=λε=>(dS c i ε).bind λo=>match o.2[j]? with
|some (.own ts)=>some ts
|_=>none
noncomputable def ml(c i j:Nat)(k:bE):bE:=λε=>(k ε).bind λt=>(keyOf t).bind λk=>(mm c i j ε).bind λkvs=>getD kvs k
def wY(c i j:Nat):bE:=λε=>(mm c i j ε).map λkvs=>.tuple (kvs.map (·.2))
noncomputable def gJ(c i j:Nat)(s:aG)(ε:Ev):Option Ev:=(dS c i ε).bind λo=>if o.1=.dp then none else
 if j<o.2.length then some (ε.set i (some (.obj o.1 c (o.2.set j s)))) else if j=o.2.length then some (ε.set i (some (.obj o.1 c (o.2++[s])))) else none
def el(c i j:Nat)(f:bE):bB:=λε=>(f ε).bind λt=>(gJ c i j (.ae t) ε).map .bQ
noncomputable def jm(c i j:Nat)(f:bE):bB:=λε=>(f ε).bind λt=>match t with
|.list ts=>(gJ c i j (.own ts) ε).map .bQ
|_=>none
def o8:T->T->Option Int
|.int i,.int j=>some (i+j)
|_,_=>none
noncomputable def n6(c i j:Nat)(f:bE):bB:=λε=>(ft c i j ε).bind λx=>(f ε).bind λy=>(o8 x y).bind λz=>(gJ c i j (.ae (.int z)) ε).map .bQ
noncomputable def kL(c i j:Nat)(f:bE):bB:=λε=>(f ε).bind λt=>(mn c i j ε).bind λts=>if ts.length<big then (gJ c i j (.own (ts++[t])) ε).map .bQ else none
noncomputable def y6(c i j:Nat)(f:bE):bB:=λε=>(f ε).bind λt=>(mn c i j ε).bind λts=>match t,strsOf ts with
|.str x,some ss=>if x∈ss then (gJ c i j (.own ((ss.erase x).map .str)) ε).map .bQ else none
|_,_=>none
noncomputable def tV:T->Option T
|.tuple xs=>some (.list xs)
|.list xs=>some (.list xs)
|_=>none
noncomputable def AH:T->Option T
|.list xs=>if xs.length<64 then (strsOf xs).map λss=>.list ((jk ss).map .str) else none
|_=>none
noncomputable def qr(c i j:Nat)(k v:bE):bB:=λε=>(v ε).bind λv=>(k ε).bind λt=>(keyOf t).bind λk=>(mm c i j ε).bind λkvs=>if kvs.length<big then (gJ c i j (.f3 (putD kvs k v)) ε).map .bQ else none
noncomputable def qu(c i j:Nat)(k v:bE):bB:=λε=>(k ε).bind λt=>(keyOf t).bind λk=>(mm c i j ε).bind λkvs=>(getD kvs k).bind λx=>(v ε).bind λy=>(o8 x y).bind λz=>if kvs.length<big then (gJ c i j (.f3 (putD kvs k (.int z))) ε).map .bQ else none
noncomputable def qw:List T->List T->Option (List (Key×T))
| [],_=>some []
|_::_,[]=>some []
|k::bf,v::vs=>(keyOf k).bind λk=>(qw bf vs).map λr=>(k,v)::r
noncomputable def aii(c i j:Nat)(bf vs:bE):bB:=λε=>(bf ε).bind λtk=>(vs ε).bind λh4=>match tk,h4 with
|.list lk,.tuple lv=>(qw lk lv).bind λkvs=>if (kvs.map (·.1)).Nodup/\kvs.length<=1000/\(∀t∈lk,(keyOf t).isSome=true) then (gJ c i j (.f3 kvs) ε).map .bQ else none
|_,_=>none
noncomputable def eM(c:Nat)(d:List aG->Option T)(i:Nat)(ar:List bE):bE:=λε=>(dS c i ε).bind λo=>(args ar ε).bind λts=>d (.obj .dp c o.2::ts.map .ae)
noncomputable def cZ(c:Nat)(d:List aG->Option (T×List aG))(i:Nat)(ar:List bE):jP:=λε=>(dS c i ε).bind λo=>if o.1=.dp then none else (args ar ε).bind λts=>
 (d (.obj .ck c o.2::ts.map .ae)).map λr=>(r.1,ε.set i (some (.obj o.1 c r.2)))
noncomputable def r6(c:Nat)(d:List aG->Option (T×List aG))(ar:List bE)(i:Nat)(fj:List bE):jP:=λε=>(dS c i ε).bind λo=>if o.1=.dp then none else (args ar ε).bind λts=>(args fj ε).bind λus=>
 (d (ts.map .ae++.obj .ck c o.2::us.map .ae)).map λr=>(r.1,ε.set i (some (.obj o.1 c r.2)))
noncomputable def ou(c:Nat)(d:List aG->Option (T×List aG))(ar:List bE):lp:=λε=>(args ar ε).bind λts=>(d (.obj .ck c []::ts.map .ae)).bind λr=>match r.1 with
|.none=>some (.obj .own c r.2)
|_=>none
def nU(d:List T->Option aG)(ar:List bE):lp:=λε=>(args ar ε).bind d
noncomputable def ql(c:Nat):aG->Option (List aG)
|.obj .own d0 ar=>if d0=c then some ar else none
|_=>none
noncomputable def sS(c:Nat)(d:List aG->Option T)(o:lp)(ar:List bE):bE:=λε=>(o ε).bind λs=>(ql c s).bind λos=>(args ar ε).bind λts=>d (.obj .dp c os::ts.map .ae)
noncomputable def tJ(c j:Nat)(o:lp):bE:=λε=>(o ε).bind λs=>(ql c s).bind λos=>match os[j]? with
|some (.own ts)=>some (.list ts)
|_=>none
def dH(f:jP):bB:=λε=>(f ε).map λr=>.bQ r.2
def iv(f:jP):bB:=λε=>(f ε).map λr=>.hk r.1 r.2
def pS(f:bE):bB:=λε=>(f ε).map λt=>.hk t ε
def uq(i:Nat)(f:jP):bB:=λε=>(f ε).map λr=>.bQ (r.2.set i (some (.ae r.1)))
def xd(i:Nat)(f:lp):bB:=λε=>(f ε).map λs=>.bQ (ε.set i (some s))
noncomputable def vr(i:Nat):bB:=λε=>match ε[i]? with
|some (some (.obj .own c ar))=>some (.jB (.obj .own c ar))
|_=>none
def o6:bB:=λε=>some (.hk .none ε)
def never:bB:=λ_=>none
def j9(n:Nat)(ss:List aG):Ev:=ss.map some++dU (n - ss.length) none
noncomputable def g6(b:bB)(n:Nat)(ss:List aG):Option T:=(b (j9 n ss)).bind λo=>match o with
|.dj t=>some t
|.bQ _=>some .none
|_=>none
noncomputable def jL(c p:Nat)(ε:Ev):Option (List aG):=match ε[p]? with
|some (some (.obj .ck d0 ar))=>if d0=c then some ar else none
|_=>none
noncomputable def runM(c p:Nat)(b:bB)(n:Nat)(ss:List aG):Option (T×List aG):=(b (j9 n ss)).bind λo=>match o with
|.hk t ε=>(jL c p ε).map λar=>(t,ar)
|.bQ ε=>(jL c p ε).map λar=>(.none,ar)
|_=>none
def rk:aG->Option aG
|.obj .own c ar=>some (.obj .own c ar)
|_=>none
noncomputable def rq(b:bB)(n:Nat)(ts:List T):Option aG:=(b ((ts.map λt=>some (.ae t))++dU (n - ts.length) none)).bind λo=>match o with
|.jB s=>rk s
|_=>none
end D
end
section
namespace D
open PySem PySem.Spec PyProof.Rows bc
section
variable [cV]
section
variable {K:a_}{F aB O:ah->Prop}{H af:aw}{E:ey}
theorem fF.length:∀{ar:List aG} {vs:List V},fF K F H ar vs->ar.length=vs.length
| [],vs,r=>by
  have e:vs=[]:=r;rw[e];rfl
|s::ss,vs,r=>by
  obtain⟨v,z,rfl,_,a4⟩:=r;simp[fF.length a4]
theorem fF.get:∀{ar:List aG} {vs:List V} {j:Nat} {s:aG},fF K F H ar vs->ar[j]?=some s->∃v,vs[j]?=some v/\kC K F H s v
| [],vs,j,s,r,e=>by simp at e
|s::ss,vs,0,u,r,e=>by
  obtain⟨v,z,rfl,aO,_⟩:=r;simp at e;subst e;exact⟨v,rfl,aO⟩
|s::ss,vs,j+1,u,r,e=>by
  obtain⟨v,z,rfl,_,a4⟩:=r;obtain⟨w,ab,ak⟩:=fF.get (j:=j) (s:=u) a4 (by simpa using e);exact⟨w,by simpa using ab,ak⟩
theorem fF.set:∀{ar:List aG} {vs:List V} {j:Nat} {s:aG} {v:V},fF K F H ar vs->c' K F H aB af->(∀(k:Nat) (u:aG) (w:V),k≠j->ar[k]?=some u->vs[k]?=some w->∀b∈dM u w,af b=H b)->kC K aB af s v->fF K aB af (ar.set j s) (vs.set j v)
| [],vs,j,s,v,r,_,_,_=>by
  have e:vs=[]:=r;subst e;exact rfl
|u::ss,vs,0,s,v,r,aD,aI,h=>by
  obtain⟨w,z,rfl,aO,a4⟩:=r;refine⟨v,z,rfl,h,a4.keep aD λb aa=>?_⟩;have:∀{ss:List aG} {z:List V} (n:Nat),(∀(k:Nat) (u:aG) (w:V),ss[k]?=some u->z[k]?=some w->∀b∈dM u w,af b=H b)->b∈c7 ss z->af b=H b:=by
   intro ss
   induction ss with
   |nil=>intro z n _ aa;simp[c7] at aa
   |cons s1 ss b9=>
    intro z n aI aa;cases z with
    |nil=>simp[c7] at aa
    |cons v1 z=>
     rw[show c7 (s1::ss) (v1::z)=dM s1 v1++c7 ss z from rfl] at aa;rcases j4.mp aa with q|q
     ·exact aI 0 s1 v1 rfl rfl b q
     ·exact b9 n (λk u w aH aS=>aI (k+1) u w (by simpa using aH) (by simpa using aS)) q
  exact this 0 (λk u w aH aS=>aI (k+1) u w (by omega) (by simpa using aH) (by simpa using aS)) aa
|u::ss,vs,j+1,s,v,r,aD,aI,h=>by
  obtain⟨w,z,rfl,aO,a4⟩:=r;exact⟨w,z.set j v,rfl,aO.keep aD λb aa=>aI 0 u w (by omega) rfl rfl b aa,fF.set a4 aD (λk u w K7 aH aS=>aI (k+1) u w (by omega) (by simpa using aH) (by simpa using aS)) h⟩
theorem fF.snoc:∀{ar:List aG} {vs:List V} {s:aG} {v:V},fF K F H ar vs->kC K F H s v->fF K F H (ar++[s]) (vs++[v])
| [],vs,s,v,r,h=>by
  have e:vs=[]:=r;subst e;exact⟨v,[],rfl,h,rfl⟩
|u::ss,vs,s,v,r,h=>by
  obtain⟨w,z,rfl,aO,a4⟩:=r;exact⟨w,z++[v],rfl,aO,fF.snoc a4 h⟩
theorem Im:∀{ar:List aG} {vs:List V} {s:aG} {v:V},ar.length=vs.length->c7 (ar++[s]) (vs++[v])=c7 ar vs++dM s v
| [],[],s,v,_=>by simp[c7]
|u::ss,w::z,s,v,h=>by
  show dM u w++c7 (ss++[s]) (z++[v])=(dM u w++c7 ss z)++dM s v
  rw[Im (by simpa using h),vK]
| [],w::z,_,_,h=>by simp at h
|u::ss,[],_,_,h=>by simp at h
theorem nS:∀{ar:List aG} {vs:List V} {j:Nat} {s:aG} {v:V} {b:ah},ar[j]?=some s->vs[j]?=some v->b∈dM s v->b∈c7 ar vs
| [],vs,j,s,v,b,e,_,_=>by simp at e
|u::ss,[],j,s,v,b,_,e,_=>by simp at e
|u::ss,w::z,0,s,v,b,aH,aS,h=>by
  simp at aH aS;subst aH aS;exact j4.mpr (.inl h)
|u::ss,w::z,j+1,s,v,b,aH,aS,h=>j4.mpr (.inr (nS (j:=j) (by simpa using aH) (by simpa using aS) h))
theorem I7:∀{ar:List aG} {vs:List V} {b:ah},b∈c7 ar vs->∃(j:Nat) (s:aG) (v:V),ar[j]?=some s/\vs[j]?=some v/\b∈dM s v
| [],vs,b,h=>by simp[c7] at h
|u::ss,[],b,h=>by simp[c7] at h
|u::ss,w::z,b,h=>by
  rcases j4.mp (show b∈dM u w++c7 ss z from h) with q|q
  ·exact⟨0,u,w,rfl,rfl,q⟩
  ·obtain⟨j,s,v,aH,aS,h⟩:=I7 q;exact⟨j+1,s,v,by simpa using aH,by simpa using aS,h⟩
theorem Il:∀{ar:List aG} {vs:List V} {j k:Nat} {s u:aG} {v w:V} {b:ah},(c7 ar vs).Nodup->j≠k->ar[j]?=some s->vs[j]?=some v->ar[k]?=some u->vs[k]?=some w->b∈dM s v->b∈dM u w->False
| [],vs,j,k,s,u,v,w,b,_,_,e,_,_,_,_,_=>by simp at e
|x::ss,[],j,k,s,u,v,w,b,_,_,_,e,_,_,_,_=>by simp at e
|x::ss,y::z,j,k,s,u,v,w,b,a8,kg,aH,aS,fJ,hT,ab,ak=>by
  have nz:(dM x y++c7 ss z).Nodup:=a8;rw[oJ] at nz;obtain⟨hG,f9,LN⟩:=nz;cases j with
  |zero=>
   cases k with
   |zero=>exact kg rfl
   |succ k=>
    simp at aH aS;subst aH aS;exact LN b ab b (nS (j:=k) (by simpa using fJ) (by simpa using hT) ak) rfl
  |succ j=>
   cases k with
   |zero=>
    simp at fJ hT;subst fJ hT;exact LN b ak b (nS (j:=j) (by simpa using aH) (by simpa using aS) ab) rfl
   |succ k=>exact Il (j:=j) (k:=k) f9 (by omega) (by simpa using aH) (by simpa using aS) (by simpa using fJ) (by simpa using hT) ab ak
def Aa{ar:List aG}{vs:List V}{j:Nat}{s:aG}{v:V}{b:ah}(h:b∈c7 (ar.set j s) (vs.set j v)):b∈c7 ar vs\/b∈dM s v:=by
 obtain⟨k,u,w,aH,aS,h⟩:=I7 h;by_cases aI:j=k
 ·subst aI;have b1:=(ed.mp aH).1;have b_:=(ed.mp aS).1;simp at b1 b_;rw[rz,if_pos rfl,if_pos b1] at aH;rw[rz,if_pos rfl,if_pos b_] at aS;cases aH;cases aS;exact .inr h
 ·rw[rz,if_neg aI] at aH aS;exact .inl (nS aH aS h)
theorem Hs:∀{ar:List aG} {vs:List V} {j:Nat} {s:aG} {v:V},(c7 ar vs).Nodup->(dM s v).Nodup->(∀b∈dM s v,∀(k:Nat) (u:aG) (w:V),k≠j->ar[k]?=some u->vs[k]?=some w->b∉dM u w)->(c7 (ar.set j s) (vs.set j v)).Nodup
| [],vs,j,s,v,_,_,_=>by simp[c7]
|x::ss,[],j,s,v,_,_,_=>by cases j <;> simp[c7]
|x::ss,y::z,0,s,v,a8,rf,ax=>by
  have nz:(dM x y++c7 ss z).Nodup:=a8;rw[oJ] at nz;show (dM s v++c7 ss z).Nodup;rw[oJ];refine⟨rf,nz.2.1,λb aa c ay e=>?_⟩;subst e;obtain⟨k,u,w,aH,aS,h⟩:=I7 ay;exact ax b aa (k+1) u w (by omega) (by simpa using aH) (by simpa using aS) h
|x::ss,y::z,j+1,s,v,a8,rf,ax=>by
  have nz:(dM x y++c7 ss z).Nodup:=a8;rw[oJ] at nz;show (dM x y++c7 (ss.set j s) (z.set j v)).Nodup;rw[oJ];refine⟨nz.1,Hs nz.2.1 rf λb aa k u w aI aH aS=>ax b aa (k+1) u w (by omega) (by simpa using aH) (by simpa using aS),λb aa c ay e=>?_⟩;subst e;rcases Aa ay with q|q
  ·exact nz.2.2 b aa b q rfl
  ·exact ax b q 0 x y (by omega) rfl rfl aa
def aeI(v:V):(g5 v).Nodup:=by
 unfold g5;split <;> simp
def OC(s:aG)(v:V):(dM s v).Nodup:=by
 cases s <;> first|exact aeI v|simp[dM]
theorem HF:∀{ns:List Str} {vs:List V} {j:Nat} {f:Str} {v:V},ns.Nodup->ns[j]?=some f->vs[j]?=some v->(ns.zip vs).lookup f=some v
| [],_,_,_,_,_,e,_=>by simp at e
|_::_,[],_,_,_,_,_,e=>by simp at e
|n::ns,w::vs,0,f,v,_,aH,aS=>by
  simp at aH aS;subst aH aS;simp[iR]
|n::ns,w::vs,j+1,f,v,a8,aH,aS=>by
  have ne:f≠n:=by
   rintro rfl;exact (gb.mp a8).1 (p4 (by simpa using aH))
  have aa:(f==n)=false:=beq_eq_false_iff_ne.mpr ne;simp only[p7,iR,aa];exact HF (j:=j) (gb.mp a8).2 (by simpa using aH) (by simpa using aS)
theorem tv:∀{ns:List Str} {vs:List V} {f:Str},f∉ns->(ns.zip vs).lookup f=none
| [],_,_,_=>by simp
|_::_,[],_,_=>by simp
|n::ns,w::vs,f,h=>by
  have ne:f≠n:=λe=>h (by simp[e]);have aa:(f==n)=false:=beq_eq_false_iff_ne.mpr ne;simp only[p7,iR,aa];exact tv λz=>h (d6 _ z)
theorem Po:∀{ns:List Str} {vs:List V} {j:Nat} {f:Str} {v:V},ns.Nodup->ns[j]?=some f->j<vs.length->bc.gq f v (ns.zip vs)=ns.zip (vs.set j v)
| [],_,_,_,_,_,e,_=>by simp at e
|_::_,[],_,_,_,_,_,h=>by simp at h
|n::ns,w::vs,0,f,v,_,aH,h=>by
  simp at aH;subst aH;simp[bc.gq]
|n::ns,w::vs,j+1,f,v,a8,aH,h=>by
  have ne:n≠f:=by
   rintro rfl;exact (gb.mp a8).1 (p4 (by simpa using aH))
  simp only[p7,jI,bc.gq,if_neg ne];rw[Po (j:=j) (gb.mp a8).2 (by simpa using aH) (by simpa using h)]
theorem Nw:∀{ns:List Str} {vs:List V} {f:Str} {v:V},ns.Nodup->ns[vs.length]?=some f->bc.gq f v (ns.zip vs)=ns.zip (vs++[v])
| [],_,_,_,_,e=>by simp at e
|n::ns,[],f,v,_,aH=>by
  simp at aH;subst aH;simp[bc.gq]
|n::ns,w::vs,f,v,a8,aH=>by
  have ne:n≠f:=by
   rintro rfl;exact (gb.mp a8).1 (p4 (by simpa using aH))
  simp only[p7,List.cons_append,bc.gq,if_neg ne];rw[Nw (gb.mp a8).2 (by simpa using aH)]
end
structure fv(K:a_)(c:Nat)(C:ah)(ns:List Str):Prop where
 l':cV.l' c=some C
 eV:cV.eV c=ns
 cls:l6 K C
 a8:ns.Nodup
 na:∀f∈ns,o5 K C f
 x2:ns.length<1000
section
variable {K:a_}{au F aX O:ah->Prop}{H H1:aw}{E:ey}{ε ε':Ev}{σ:bc.St}{c C i j:Nat}{ns:List Str}
def mP{m:gi}{ar:List aG}(h:dS c i ε=some (m,ar)):ε[i]?=some (some (.obj m c ar)):=by
 unfold dS at h;split at h
 next jA d0 fs' e=>
  split at h
  next ay=>
   cases h
   rw[e,ay]
  next=>cases h
 next=>cases h
def mU{m:gi}{ar:List aG}(k:fv K c C ns)(r:bN K au E O F H ε σ)(h:dS c i ε=some (m,ar)):
  ∃a vs bb,σ[i]?=some (some (.ref a))/\H a=some (.ins C bb (ns.zip vs))/\vs.length<=ns.length/\hs H a c vs/\fF K F H ar vs/\(a::c7 ar vs).Nodup/\(∀b∈a::c7 ar vs,uf E O F m b)/\(m=.ck->a=E.hi):=by
 obtain⟨v,ab,a,vs,rfl,ax,hf,a8,eR,hi⟩:=r.val i _ (mP h);obtain⟨av,hx⟩:=id ax;rw[k.l'] at hx;obtain⟨bb,hx⟩:=hx;rw[k.eV] at av hx;exact⟨a,vs,bb,ab,hx,av,ax,hf,a8,eR,hi⟩
def A3{m:gi}(hm:m≠.dp){ar:List aG}:(aG.obj m c ar).gn=true:=by
 cases m with
|dp=>exact absurd rfl hm
|own=>rfl
|ck=>rfl
def bN.zc{s:aG}{v:V}{a bb:ah}{vs:List V}(k:fv K c C ns)(r:bN K au E O F H ε σ){m:gi}{ar:List aG}(aF:dS c i ε=some (m,ar))(ab:σ[i]?=some (some (.ref a)))(ax:hs H a c vs)(he:gJ c i j s ε=some ε')
  (rs:kC K F H s v) (own:∀b∈dM s v,¬F b/\O b/\b∉cB H (.obj m c ar) (.ref a)/\∀(k:Nat) (u:aG) (w:V),i≠k->ε[k]?=some (some u)->u.gn=true->σ[k]?=some (some w)->b∉cB H u w) (hx:H a=some (.ins C bb (ns.zip vs)))
  {f:Str} (bC:ns[j]?=some f):c' K F H F (upd H a (.ins C bb (bc.gq f v (ns.zip vs))))/\bN K au E O F (upd H a (.ins C bb (bc.gq f v (ns.zip vs)))) ε' σ:=by
 obtain⟨kK,fc,sl,c3,jz,av,lG,hf,a8,eR,hi⟩:=mU k r aF;rw[ab] at c3;cases c3;have ev:fc=vs:=by rw[<- ax.vals,<- lG.vals]
 subst ev;have gI:cB H (.obj m c ar) (.ref a)=a::c7 ar fc:=iA ax;rw[gI] at own;unfold gJ at he;rw[aF] at he;simp only[de] at he;split at he
 next=>cases he
 next hm=>
 have hlen:=hf.length;have uZ:(aG.obj m c ar).gn=true:=A3 hm;have K_:∀b,uf E O F m b <-> ¬F b/\O b:=λb=>by
  cases m with
  |dp=>exact absurd rfl hm
  |own=>exact Iff.rfl
  |ck=>exact Iff.rfl
 have na:∀b∈c7 ar fc,b≠a:=λb aa z=>(gb.mp a8).1 (z▸aa);split at he
 next pG=>
  cases he
  have DR:j<fc.length:=by omega
  rw[Po k.a8 bC DR];have q1:∀b∈a::c7 (ar.set j s) (fc.set j v),b∈a::c7 ar fc\/b∈dM s v:=λb aa=>by
   rcases cM.mp aa with rfl|aa
   ·exact .inl fA
   ·rcases Aa aa with q|q
    ·exact .inl (d6 _ q)
    ·exact .inr q
  have lI:∀o':aw,o' a=some (.ins C bb (ns.zip (fc.set j v)))->hs o' a c (fc.set j v):=λo' e=>by
   refine⟨by rw[k.eV];simpa using av,?_⟩
   rw[k.l',k.eV];exact⟨bb,e⟩
  refine r.yV (mP aF) uZ ab (by rw[gI];exact fA) (λaD=>⟨a,fc.set j v,rfl,lI _ dY,?_,?_,λb aa=>?_,hi⟩) λb aa=>?_
  ·refine fF.set hf aD (λk u w _ aH aS b aa=>cQ (na b (nS aH aS aa))) (rs.keep aD λb aa=>cQ λz=>(own b aa).2.2.1 (z▸fA))
  ·refine gb.mpr ⟨λz=>?_,Hs (gb.mp a8).2 (OC s v) λb aa k u w _ aH aS q=>(own b aa).2.2.1 (d6 _ (nS aH aS q))⟩
   rcases Aa z with q|q
   ·exact (gb.mp a8).1 q
   ·exact (own a q).2.2.1 fA
  ·rcases q1 b aa with q|q
   ·exact eR b q
   ·exact (K_ b).mpr ⟨(own b q).1,(own b q).2.1⟩
  ·rw[iA (lI _ dY)] at aa;rcases q1 b aa with q|q
   ·exact .inl (by rw[gI];exact q)
   ·exact .inr (own b q).2.2.2
 next pG=>
  split at he
  next ahR=>
   cases he
   have DR:j=fc.length:=by omega
   rw[Nw k.a8 (by rw[<- DR];exact bC)];have ahS:j<ns.length:=(ed.mp bC).1;have q1:∀b∈a::c7 (ar++[s]) (fc++[v]),b∈a::c7 ar fc\/b∈dM s v:=λb aa=>by
    rw[Im hlen] at aa;rcases cM.mp aa with rfl|aa
    ·exact .inl fA
    ·rcases j4.mp aa with q|q
     ·exact .inl (d6 _ q)
     ·exact .inr q
   have lI:∀o':aw,o' a=some (.ins C bb (ns.zip (fc++[v])))->hs o' a c (fc++[v]):=λo' e=>by
    refine⟨by rw[k.eV];simp;omega,?_⟩
    rw[k.l',k.eV];exact⟨bb,e⟩
   refine r.yV (mP aF) uZ ab (by rw[gI];exact fA) (λaD=>⟨a,fc++[v],rfl,lI _ dY,?_,?_,λb aa=>?_,hi⟩) λb aa=>?_
   ·exact fF.snoc (hf.keep aD λb aa=>cQ (na b aa)) (rs.keep aD λb aa=>cQ λz=>(own b aa).2.2.1 (z▸fA))
   ·rw[Im hlen];refine gb.mpr ⟨λz=>?_,oJ.mpr ⟨(gb.mp a8).2,OC s v,λb aa d hd e=>?_⟩⟩
    ·rcases j4.mp z with q|q
     ·exact (gb.mp a8).1 q
     ·exact (own a q).2.2.1 fA
    ·subst e;exact (own b hd).2.2.1 (d6 _ aa)
   ·rcases q1 b aa with q|q
    ·exact eR b q
    ·exact (K_ b).mpr ⟨(own b q).1,(own b q).2.1⟩
   ·rw[iA (lI _ dY)] at aa;rcases q1 b aa with q|q
    ·exact .inl (by rw[gI];exact q)
    ·exact .inr (own b q).2.2.2
  next=>cases he
def bN.yU{s s':aG}{a b:ah}{vs:List V}{o':dZ}(r:bN K au E O F H ε σ){m:gi}{ar:List aG}(aF:dS c i ε=some (m,ar))(ab:σ[i]?=some (some (.ref a)))(ax:hs H a c vs)(he:gJ c i j s' ε=some ε')
  (az:ar[j]?=some s) (bq:vs[j]?=some (.ref b)) (aJ:b∈dM s (.ref b)) (uU:dM s' (.ref b)=[b]) (rs:c' K F H F (upd H b o')->kC K F (upd H b o') s' (.ref b)):c' K F H F (upd H b o')/\bN K au E O F (upd H b o') ε' σ:=by
 obtain⟨v,c3,kK,fc,ev,lG,hf,a8,eR,hi⟩:=r.val i _ (mP aF);rw[ab] at c3;cases c3;cases ev;have ev:fc=vs:=by rw[<- ax.vals,<- lG.vals]
 subst ev;have gI:cB H (.obj m c ar) (.ref a)=a::c7 ar fc:=iA ax;unfold gJ at he;rw[aF] at he;simp only[de] at he;split at he
 next=>cases he
 next hm=>
 have pG:j<ar.length:=(ed.mp az).1;rw[if_pos pG] at he;cases he;have DD:b∈c7 ar fc:=nS az bq aJ;have VB:a≠b:=λz=>(gb.mp a8).1 (z▸DD);have lI:hs (upd H b o') a c fc:=ax.keep (cQ VB);have Dc:fc.set j (.ref b)=fc:=by
  obtain⟨av,e⟩:=ed.mp bq;rw[<- e];exact List.set_getElem_self av
 have DK:∀x∈c7 (ar.set j s') fc,x∈c7 ar fc:=λx hx=>by
  rw[<- Dc] at hx;rcases Aa hx with q|q
  ·exact q
  ·rw[uU] at q;rw[j3.mp q];exact DD
 refine r.yV (mP aF) (A3 hm) ab (by rw[gI];exact d6 _ DD) (λaD=>⟨a,fc,rfl,lI,?_,?_,λx hx=>?_,hi⟩) λx hx=>?_
 ·rw[<- Dc];exact fF.set hf aD (λk u w aI aH aS x hx=>cQ λz=>Il (gb.mp a8).2 (Ne.symm aI) az bq aH aS aJ (z▸hx)) (rs aD)
 ·refine gb.mpr ⟨λz=>(gb.mp a8).1 (DK a z),?_⟩
  rw[<- Dc];refine Hs (gb.mp a8).2 (by rw[uU];simp) λx hx k u w aI aH aS q=>?_;rw[uU] at hx;rw[j3.mp hx] at q;exact Il (gb.mp a8).2 (Ne.symm aI) az bq aH aS aJ q
 ·rcases cM.mp hx with rfl|hx
  ·exact eR _ fA
  ·exact eR x (d6 _ (DK x hx))
 ·rw[iA lI] at hx;rw[gI];rcases cM.mp hx with rfl|hx
  ·exact .inl fA
  ·exact .inl (d6 _ (DK x hx))
end
end
section
variable [cV]
section
variable {K:a_}{au F O:ah->Prop}{H:aw}{E:ey}{ε:Ev}{σ:bc.St}{c C i j:Nat}{ns:List Str}{f:Str}
def mV{m:gi}{ar:List aG}{s:aG}(k:fv K c C ns)(r:bN K au E O F H ε σ)(h:dS c i ε=some (m,ar))(az:ar[j]?=some s)(bC:ns[j]?=some f):
  ∃a vs bb v,σ[i]?=some (some (.ref a))/\H a=some (.ins C bb (ns.zip vs))/\(ns.zip vs).lookup f=some v/\hs H a c vs/\vs[j]?=some v/\kC K F H s v/\(∀b∈dM s v,uf E O F m b/\b≠a):=by
 obtain⟨a,vs,bb,ab,hx,av,ax,hf,a8,eR,hi⟩:=mU k r h;obtain⟨v,bq,bZ⟩:=hf.get az;refine⟨a,vs,bb,v,ab,hx,HF k.a8 bC bq,ax,bq,bZ,λb aa=>⟨eR b (d6 _ (nS az bq aa)),λz=>(gb.mp a8).1 (z▸nS az bq aa)⟩⟩
def kz(k:fv K c C ns)(bC:ns[j]?=some f):o5 K C f:=k.na f (p4 bC)
end
section
variable {X:bj}{c C i j:Nat}{ns:List Str}{f:Str}{o e a:bz}{g h:bE}{pos apos:Pos}
def gg(k:fv X.K c C ns)(a7:bU X o (hJ i))(bC:ns[j]?=some f:=by rfl)(aa:jJ o f X.env (eval o X.env)=eval o X.env:=by rfl):ek X (.Attribute o f pos) (fld c i j):=
 d7 (o3 a7 aa) λσ H Q ⟨au,aQ,O,F,ε,t,r,e,bJ⟩=>by
 simp only[fld,cg] at e;obtain⟨⟨m,ar⟩,aF,e⟩:=e;split at e
 next t' az=>
  cases e
  obtain⟨a,vs,bb,v,ab,hx,av,ax,bq,bZ,_⟩:=mV k r aF az bC;exact⟨_,ab,a,C,bb,_,v,rfl,hx,k.cls,kz k bC,av,bJ v F H (Ext.refl r.cf) (.inl bZ)⟩
 next ts az=>
  cases e
  obtain⟨a,vs,bb,v,ab,hx,av,ax,bq,⟨b,us,dv,aa,e'⟩,_⟩:=mV k r aF az bC;subst dv;exact⟨_,ab,a,C,bb,_,_,rfl,hx,k.cls,kz k bC,av,bJ _ F H (Ext.refl r.cf) (.inr ⟨ts,b,us,rfl,rfl,aa,e'⟩)⟩
 next=>cases e
def iB(k:fv X.K c C ns)(a7:bU X o (hJ i))(bC:ns[j]?=some f:=by rfl)(aa:jJ o f X.env (eval o X.env)=eval o X.env:=by rfl):cC X (.Attribute o f pos) (ft c i j):=
 d7 (o3 a7 aa) λσ H Q ⟨au,aQ,O,F,ε,t,r,e,bJ⟩=>by
 simp only[ft,cg] at e;obtain⟨⟨m,ar⟩,aF,e⟩:=e;split at e
 next t' az=>
  cases e
  obtain⟨a,vs,bb,v,ab,hx,av,ax,bq,bZ,_⟩:=mV k r aF az bC;exact⟨_,ab,a,C,bb,_,v,rfl,hx,k.cls,kz k bC,av,bJ v F H (Ext.refl r.cf) bZ⟩
 next=>cases e
def AD{ε:Ev}{kvs:List (D.Key×T)}(e:mm c i j ε=some kvs):∃m ar,dS c i ε=some (m,ar)/\ar[j]?=some (.f3 kvs):=by
 simp only[mm,cg] at e;obtain⟨⟨m,ar⟩,aF,e⟩:=e;split at e
 ·cases e
  exact⟨m,ar,aF,by assumption⟩
 ·cases e
def OD{ε:Ev}{ts:List T}(e:mn c i j ε=some ts):∃m ar,dS c i ε=some (m,ar)/\ar[j]?=some (.own ts):=by
 simp only[mn,cg] at e;obtain⟨⟨m,ar⟩,aF,e⟩:=e;split at e
 ·cases e
  exact⟨m,ar,aF,by assumption⟩
 ·cases e
def IV(k:fv X.K c C ns)(b7:X.A.units+1<cLine)(a7:bU X o (hJ i))(ax:ek X a g)(bC:ns[j]?=some f:=by rfl)(aa:jJ o f X.env (eval o X.env)=eval o X.env:=by rfl)(az:Bw a:=by intro _ _;rfl):
  cC X (.Subscript (.Attribute o f apos) a pos) (ml c i j g):=d7 (afG b7 (o3 a7 aa) ax az) λσ H Q ⟨au,aQ,O,F,ε,t,r,e,bJ⟩=>by
 simp only[ml,cg] at e;obtain⟨t',bx,key,fQ,kvs,e7,mi⟩:=e;obtain⟨m,ar,aF,az⟩:=AD e7;obtain⟨a,vs,bb,v,ab,hx,av,ax,bq,⟨b,us,dv,aa,e'⟩,_⟩:=mV k r aF az bC;subst dv;refine⟨_,ab,a,C,bb,_,_,rfl,hx,k.cls,kz k bC,av,au,aQ,O,F,ε,t',r,bx,λv aX H1 aR aP=>?_⟩;have qY:=aR.same.get aa;have sW:=dW.aD (aR.aD (K:=X.K)) e';obtain⟨w,hw,jY⟩:=sW.get mi;refine⟨b,w,rfl,?_,bJ w aX H1 aR jY⟩;rw[rR fQ aP,<- hw];exact o_.k qY
def Pd{K:a_}{au F O aX:ah->Prop}{H H1:aw}{E:ey}{ε:Ev}{σ:bc.St}{b:ah}(r:bN K au E O F H ε σ)(x:Ext F H aX H1)(a7:H b=none):
  ∀(k:Nat) (u:aG) (w:V),ε[k]?=some (some u)->σ[k]?=some (some w)->b∉cB H1 u w:=λk u w fQ aI aa=>by
 obtain⟨fe,ab,ak⟩:=r.val k u fQ;rw[aI] at ab;cases ab;rw[(ak.uE x).2] at aa;obtain⟨o,e,_⟩:=ak.at aa;rw[a7] at e;cases e
def fu(k:fv X.K c C ns)(a7:bU X o (hJ i))(he:cC X e g)(bC:ns[j]?=some f:=by rfl)(az:iS e (some (.Attribute o f apos)) pos.line X.env=pure false:=by rfl):
  gA X (.Assign [.Attribute o f apos] e pos) (el c i j g):=fN (IX a7 he az) λD σ H ⟨au,aQ,O,F,ε,o,r,e,bJ⟩=>by
 simp only[el,cg,dX] at e;obtain⟨t,bx,ε',es,rfl⟩:=e;refine⟨au,aQ,O,F,ε,t,r,bx,λv aX H1 aR aP=>?_⟩;have aO:=r.ext aR;have ie:=es;unfold gJ at ie;simp only[cg] at ie;obtain⟨⟨m,ar⟩,aF,_⟩:=ie;obtain⟨a,vs,bb,ab,hx,av,ax,_⟩:=mU k aO aF;obtain⟨aD,a4⟩:=aO.zc (s:=.ae t) (v:=v) k aF ab ax es aP (λb aa=>by simp[dM] at aa) hx bC;refine⟨_,ab,a,C,bb,_,rfl,hx,k.cls,kz k bC,?_,bJ σ aX _ (aR.aD.trans aD) a4⟩;have:=k.x2;simp only[List.length_zip];omega
def qk(k:fv X.K c C ns)(a7:bU X o (hJ i))(he:qF X e g)(bC:ns[j]?=some f:=by rfl)(az:iS e (some (.Attribute o f apos)) pos.line X.env=pure false:=by rfl):
  gA X (.Assign [.Attribute o f apos] e pos) (jm c i j g):=fN (IX a7 he az) λD σ H ⟨au,aQ,O,F,ε,o,r,e,bJ⟩=>by
 simp only[jm,cg] at e;obtain⟨t,bx,e⟩:=e;split at e
 next ts=>
  simp only[dX] at e;obtain⟨ε',es,rfl⟩:=e;refine⟨au,aQ,O,F,ε,ts,r,bx,λb us aX H1 aR oh gZ aa aP=>?_⟩;have aO:=r.ext aR;have ie:=es;unfold gJ at ie;simp only[cg] at ie;obtain⟨⟨m,ar⟩,aF,_⟩:=ie;obtain⟨a,vs,bb,ab,hx,av,ax,_⟩:=mU k aO aF;have hold:=Pd r aR oh;obtain⟨aD,a4⟩:=aO.zc (s:=.own ts) (v:=.ref b) k aF ab ax es ⟨b,us,rfl,aa,aP⟩ (λd hd=>by
   have:d=b:=by simpa [dM,g5] using hd
   subst this;exact⟨gZ,r.fr _ oh,hold i _ _ (mP aF) ab,λk u w _ fQ _ aI=>hold k u w fQ aI⟩) hx bC
  refine⟨_,ab,a,C,bb,_,rfl,hx,k.cls,kz k bC,?_,bJ σ aX _ (aR.aD.trans aD) a4⟩
  have:=k.x2;simp only[List.length_zip];omega
 next=>cases e
def OT{x y:T}{z:Int}(h:o8 x y=some z):∃p q,x=.int p/\y=.int q/\z=p+q:=by
 unfold o8 at h;split at h
 ·cases h
  exact⟨_,_,rfl,rfl,rfl⟩
 ·cases h
def P7(k:fv X.K c C ns)(a7:bU X o (hJ i))(he:cC X e g)(bC:ns[j]?=some f:=by rfl):gA X (.AugAssign (.Attribute o f apos) .Add e pos) (n6 c i j g):=
 fN (ad0 a7 he Qo) λD σ H ⟨au,aQ,O,F,ε,o,r,e,bJ⟩=>by
 simp only[n6,cg,dX] at e;obtain⟨x,ex,y,fy,z,uF,ε',es,rfl⟩:=e;simp only[ft,cg] at ex;obtain⟨⟨m,ar⟩,aF,ex⟩:=ex;split at ex
 next t' az=>
  cases ex
  obtain⟨p,q,rfl,rfl,rfl⟩:=OT uF;obtain⟨a,vs,bb,v,ab,hx,av,ax,bq,bZ,_⟩:=mV k r aF az bC;refine⟨_,ab,a,C,bb,_,v,rfl,hx,k.cls,kz k bC,av,au,aQ,O,F,ε,_,r,fy,λw aX H1 aR aP=>?_⟩;have aO:=r.ext aR;have ev:v=.int p:=by simpa [kC,Rep] using bZ
  have mj:w=.int q:=by simpa [Rep] using aP
  obtain⟨kK,fc,sl,c3,jz,ahT,lG,_⟩:=mU k aO aF;rw[ab] at c3;cases c3;obtain⟨aD,a4⟩:=aO.zc (s:=.ae (.int (p+q))) (v:=.int (p+q)) k aF ab lG es (by simp[kC,Rep]) (λb aa=>by simp[dM] at aa) jz bC;refine⟨p,q,ev,mj,sl,_,jz,?_,bJ σ aX _ (aR.aD.trans aD) a4⟩;have:=k.x2;simp only[List.length_zip];omega
 next=>cases ex
def A1(k:fv X.K c C ns)(a7:bU X o (hJ i)){lx fI:Pos}(he:cC X e g)(bC:ns[j]?=some f:=by rfl)(aa:jJ o f X.env (eval o X.env)=eval o X.env:=by rfl)
  (q4:bS [e] X.env=(false,eval e X.env)::bS [] X.env:=by rfl)
  (oc:jJ (.Attribute o f apos) "append" X.env (eval (.Attribute o f apos) X.env)=eval (.Attribute o f apos) X.env:=by rfl)
  (uT:((ee fI (bS [e] X.env)).all (λx=>!x.1) && (backToKw fI (nI [] X.env)).all (λx=>x.1.isSome)
   && decide (([e]:List bz).length+([]:List Keyword).length+(if ([]:List Keyword).isEmpty then 0 else 1)<30))=true:=by rfl)
  (og:(lx.endLine==fI.line)=true:=by rfl) (u0:(ee fI (bS [] X.env)).any (·.1)=false:=by rfl)
  (mx:iS (.Call (.Attribute (.Attribute o f apos) "append" lx) [e] [] fI) none pos.line X.env=pure false:=by rfl):
  gA X (.Expr (.Call (.Attribute (.Attribute o f apos) "append" lx) [e] [] fI) pos) (kL c i j g):=
 fN (AU (QI PySem.F.plainAttrs_list PySem.F.slot_list_append PySem.F.type_list_append HV (o3 a7 aa) (k' he mT q4) oc uT og q4 u0) mx) λD σ H ⟨au,aQ,O,F,ε,o,r,e,bJ⟩=>by
 simp only[kL,cg] at e;obtain⟨t,bx,ts,gk,e⟩:=e;split at e
 next aq=>
  simp only[dX] at e;obtain⟨ε',es,rfl⟩:=e;obtain⟨m,ar,aF,az⟩:=OD gk;obtain⟨a,vs,bb,v,ab,hx,av,ax,bq,⟨b,us,dv,aa,e'⟩,_⟩:=mV k r aF az bC;subst dv;refine⟨_,ab,a,C,bb,_,_,rfl,hx,k.cls,kz k bC,av,.inl ⟨rfl,_,eU.of aa⟩,au,aQ,O,F,ε,t,r,bx,λv aX H1 aR aP=>?_⟩;have aO:=r.ext aR;obtain⟨a1,abU,ahK,v1,KR,ah3,pH,x8,Lh,⟨b6,MJ,U',qY,sW⟩,_⟩:=mV k aO aF az bC;rw[ab] at KR;cases KR;have ev:abU=vs:=by rw[<- x8.vals,<- (ax.keep ((aR.same.get hx).trans hx.symm)).vals]
  subst ev;rw[bq] at Lh;cases Lh;cases U';obtain⟨aD,a4⟩:=aO.yU (s':=.own (ts++[t])) (o':=.lst (MJ++[v])) aF ab x8 es az bq (by simp[dM,g5]) rfl λaD=>⟨b,_,rfl,dY,(sW.aD aD).append (bh.cons (aP.aD aD) bh.nil)⟩;exact⟨b,MJ,v,rfl,rfl,qY,by rw[jl,<- sW.length];exact aq,bJ σ aX _ (aR.aD.trans aD) a4⟩
 next=>cases e
def agi(k:fv X.K c C ns)(b7:X.A.units+1<cLine)(a7:bU X o (hJ i)){iP:Pos}(ax:ek X a h)(he:cC X e g)(bC:ns[j]?=some f:=by rfl)(aa:jJ o f X.env (eval o X.env)=eval o X.env:=by rfl)
  (az:iS e (some (.Subscript (.Attribute o f apos) a iP)) pos.line X.env=pure false:=by rfl):
  gA X (.Assign [.Subscript (.Attribute o f apos) a iP] e pos) (qr c i j h g):=fN (afA b7 (o3 a7 aa) ax he az) λD σ H ⟨au,aQ,O,F,ε,o,r,e,bJ⟩=>by
 simp only[qr,cg] at e;obtain⟨v,ev,t,bx,key,fQ,kvs,e7,e⟩:=e;split at e
 next aq=>
  simp only[dX] at e;obtain⟨ε',es,rfl⟩:=e;obtain⟨m,ar,aF,az⟩:=AD e7;refine⟨au,aQ,O,F,ε,v,r,ev,λvD aX H1 aR aP=>?_⟩;have aO:=r.ext aR;obtain⟨a,vs,bb,w,ab,hx,av,ax,bq,⟨b,us,dv,aa,e'⟩,_⟩:=mV k aO aF az bC;subst dv;refine⟨_,ab,a,C,bb,_,_,rfl,hx,k.cls,kz k bC,av,au,aQ,O,aX,ε,t,aO,bx,λvt dR a' b4 ba=>?_⟩;have a4:=aO.ext b4;have DB:hs a' a c vs:=ax.keep ((b4.same.get hx).trans hx.symm);have Gy:=dW.aD (b4.aD (K:=X.K)) e';obtain⟨aD,b5⟩:=a4.yU (s':=.f3 (putD kvs key v)) (o':=.e6 (putK us key vD)) aF ab DB es az bq (by simp[dM,g5]) rfl λaD=>⟨b,_,rfl,dY,dW.put (dW.aD aD Gy) ((aP.ext b4).aD aD)⟩;refine⟨b,_,rfl,?_,bJ σ dR _ ((aR.trans b4).aD.trans aD) b5⟩;rw[rR fQ ba];exact qy.k (b4.same.get aa) (by rw[jl,<- e'.length];exact aq)
 next=>cases e
def afr(k:fv X.K c C ns)(b7:X.A.units+1<cLine)(a7:bU X o (hJ i)){iP:Pos}(ax:ek X a h)(he:cC X e g)(bC:ns[j]?=some f:=by rfl)(aa:jJ o f X.env (eval o X.env)=eval o X.env:=by rfl)
  (Vy:∀di e_ new,augStore a di e_ new=(do holding [new,di,e_] (setItem di e_ new);release [new,di,e_] [];pure .next):=by intros;rfl):
  gA X (.AugAssign (.Subscript (.Attribute o f apos) a iP) .Add e pos) (qu c i j h g):=fN (afB b7 (o3 a7 aa) ax he Qo Vy) λD σ H ⟨au,aQ,O,F,ε,o,r,e,bJ⟩=>by
 simp only[qu,cg] at e;obtain⟨t,bx,key,fQ,kvs,e7,x,mi,y,fy,z,uF,e⟩:=e;split at e
 next aq=>
  simp only[dX] at e;obtain⟨ε',es,rfl⟩:=e;obtain⟨p,q,rfl,rfl,rfl⟩:=OT uF;obtain⟨m,ar,aF,az⟩:=AD e7;obtain⟨a,vs,bb,w,ab,hx,av,ax,bq,⟨b,us,dv,aa,e'⟩,_⟩:=mV k r aF az bC;subst dv;refine⟨_,ab,a,C,bb,_,_,rfl,hx,k.cls,kz k bC,av,au,aQ,O,F,ε,t,r,bx,λvt aX H1 aR aP=>?_⟩;have aO:=r.ext aR;have sW:=dW.aD (aR.aD (K:=X.K)) e';have qY:=aR.same.get aa;obtain⟨w,hw,jY⟩:=sW.get mi;have mj:w=.int p:=by simpa [Rep] using jY
  subst mj;refine⟨b,_,rfl,by rw[rR fQ aP,<- hw];exact o_.k qY,au,aQ,O,aX,ε,_,aO,fy,λvD dR a' b4 ba=>?_⟩;have ev:vD=.int q:=by simpa [Rep] using ba
  subst ev;refine⟨p,q,rfl,rfl,?_⟩;have a4:=aO.ext b4;have oF:=aR.trans b4;have DB:hs a' a c vs:=ax.keep ((oF.same.get hx).trans hx.symm);have Gy:=dW.aD (oF.aD (K:=X.K)) e';obtain⟨aD,b5⟩:=a4.yU (s':=.f3 (putD kvs key (.int (p+q)))) (o':=.e6 (putK us key (.int (p+q)))) aF ab DB es az bq (by simp[dM,g5]) rfl λaD=>⟨b,_,rfl,dY,dW.put (dW.aD aD Gy) (by simp[Rep])⟩;refine⟨_,?_,bJ σ dR _ (oF.aD.trans aD) b5⟩;rw[rR fQ aP];exact qy.k (oF.same.get aa) (by rw[jl,<- e'.length];exact aq)
 next=>cases e
end
end
section
variable [cV]
noncomputable def Jj(K:a_)(F:ah->Prop)(H:aw)(ss:List aG)(vs:List V):Prop:=Paired (λs v=>s.gn=false/\du K ⟨H,0⟩ (λa=>H a=none) F H s v) ss vs
noncomputable def Mr(K:a_)(n:Nat)(d:List aG->Option T):jR:=λvs H Q _=>vs.length=n/\∃F ss t,fX F H/\Jj K F H ss vs/\d ss=some t/\∀v aB af,Ext F H aB af->Rep K aB af t v->Q v af
section
variable {K:a_}{F aB au O:ah->Prop}{H af:aw}{E m1:ey}
theorem Paired.get{α β:Type}{R:α->β->Prop}:∀{xs:List α} {ys:List β} {i:Nat} {x:α},Paired R xs ys->xs[i]?=some x->∃y,ys[i]?=some y/\R x y
|_,_,i,x,.nil,e=>by simp at e
|_,_,0,x,.cons r _,e=>by
  simp at e;subst e;exact⟨_,rfl,r⟩
|_,_,i+1,x,.cons _ t,e=>by
  obtain⟨y,ab,ak⟩:=Paired.get (i:=i) (x:=x) t (by simpa using e);exact⟨y,by simpa using ab,ak⟩
def wi{ss:List aG}{n i:Nat}{s:aG}(h:(j9 n ss)[i]?=some (some s)):ss[i]?=some s:=by
 unfold j9 at h;by_cases aJ:i<ss.length
 ·rw[h7 (by simpa using aJ),ho,h6 aJ] at h;rw[h6 aJ];simpa using h
 ·rw[lV (by simpa using aJ),List.getElem?_replicate] at h;split at h <;> cases h
def Oh{vs:List V}{n i:Nat}{v:V}(h:vs[i]?=some v):(vs.map some++dU n none)[i]?=some (some v):=by
 have aJ:=(ed.mp h).1;rw[h7 (by simpa using aJ),ho,h];rfl
def Jb{m:gi}{c:Nat}{ar:List aG}{v:V}(r:du K E O F H (.obj m c ar) v)(m1:ey)(iE:ah->Prop)(he:∀b∈cB H (.obj m c ar) v,m1.h b≠none):du K m1 iE F H (.obj .dp c ar) v:=by
 have bR:=r;obtain⟨a,vs,rfl,ax,hf,a8,eR,hi⟩:=r;rw[iA ax] at he;exact⟨a,vs,rfl,ax,hf,a8,λb aa=>⟨(eR b aa).1,he b aa⟩,λz=>by cases z⟩
def ac6{ss:List aG}{vs:List V}(cf:fX F H)(q:Jj K F H ss vs)(n:Nat):bN K F ⟨H,0⟩ (λa=>H a=none) F H (j9 n ss) (vs.map some++dU (n - vs.length) none):=by
 have av:ss.length=vs.length:=Paired.length q;refine⟨by simp[j9,av],λi s e=>?_,λi j s u v w fk aH aS cD=>?_,Ext.refl cf,λ_ h=>h,λ_ h=>h⟩
 ·obtain⟨v,bq,_,bZ⟩:=Paired.get q (wi e);exact⟨v,Oh bq,bZ⟩
 ·obtain⟨_,_,z,_⟩:=Paired.get q (wi aH);rw[z] at cD;cases cD
theorem Pr:∀{ts:List T} {vs:List V},bh K F H ts vs->Jj K F H (ts.map .ae) vs
| [],vs,h=>by
  simp only[bh] at h;subst h;exact .nil
|t::ts,vs,h=>by
  simp only[bh] at h;obtain⟨v,z,rfl,q,h⟩:=h;exact .cons ⟨rfl,q⟩ (Pr h)
end
section
variable {P:cF}{w:cv}{K:a_}{mg:Str->Option aj}{base:bT}
def af0{x qual:Str}{st:Stmt}{f:ah}{fd:fU}{N aT:List Str}{k:Nat}{b:bB}(F:cE K x qual st f fd)(S:cR N aT (cb st))
  (aa:∀(cS:aj) (A:cY) (outer:List Env) (s:aK) (H:aw) (E:gC),dO k (A.deeper (envOfC qual (cb st) s.heap.objs.size f cS)) ->
   iF (jv fh P w K mg base N qual (cb st) f cS A outer s H E).kj (jg st) b):
  eT P w K mg base fh (k+1) f fd aT (Mr K aT.length (g6 b N.length)):=by
 refine F.ok S (λvs H Q E h=>h.1) λcS A outer s H vs Q E aC h=>⟨_,aa cS A outer s H E aC,?_⟩
 obtain⟨av,F,ss,t,cf,q,e,lL⟩:=h;simp only[g6,cg] at e;obtain⟨o,eF,e⟩:=e;refine⟨F,⟨H,0⟩,λa=>H a=none,F,_,o,?_,eF,?_⟩
 ·unfold bc.start;exact ac6 cf q N.length
 ·cases o with
  |dj t'=>
   cases e
   exact λv aB af x q=>lL v aB af x q
  |bQ ε'=>
   cases e
   exact λbD aB af _ r=>lL _ aB af r.ent (by simp[Rep])
  |gT _=>cases e
  |d_ _=>cases e
  |hk _ _=>cases e
  |jB _=>cases e
structure fp(P:cF)(w:cv)(K:a_)(mg:Str->Option aj)(base:bT)(C:ah)(m:Str)(k n:Nat)(d:List aG->Option T):Prop where
 ex:∃cy fd aT,eT P w K mg base fh k cy fd aT (Mr K n d)/\Meth K C m cy/\Binds K fd aT []
theorem fp.mono{C:ah}{m:Str}{k n j:Nat}{d:List aG->Option T}(c:fp P w K mg base C m j n d)(h:j<=k):fp P w K mg base C m k n d:=by
 obtain⟨cy,fd,aT,F,r⟩:=c.ex;exact⟨cy,fd,aT,F.mono h,r⟩
def o4{C:ah}{m qual:Str}{st:Stmt}{f:ah}{fd:fU}{N aT:List Str}{k:Nat}{b:bB}(F:cE K m qual st f fd)(S:cR N aT (cb st))(bd:Binds K fd aT [])(ir:Meth K C m f)
  (aa:∀(cS:aj) (A:cY) (outer:List Env) (s:aK) (H:aw) (E:gC),dO k (A.deeper (envOfC qual (cb st) s.heap.objs.size f cS)) ->
   iF (jv fh P w K mg base N qual (cb st) f cS A outer s H E).kj (jg st) b):fp P w K mg base C m (k+1) aT.length (g6 b N.length):=⟨f,fd,aT,af0 F S aa,ir,bd⟩
end
theorem aic:∀{fj:List bE} {ε:Ev} {us:List T},args fj ε=some us->us.length=fj.length
| [],ε,us,e=>by
  cases e
  rfl
|g::fj,ε,us,e=>by
  simp only[args,cg,dX] at e;obtain⟨t,_,vs,ev,rfl⟩:=e;simp[aic ev]
section
variable {X:bj}{k n c C i:Nat}{ns:List Str}{d:List aG->Option T}{x m:Str}{p pos apos:Pos}{o e:bz}{es:List bz}{as:List QQ}{ar:List bE}
def rP(f7:fv X.K c C ns)(jO:fp X.prog X.w X.K X.mg X.base C m k n d)(aC:dO k X.A)(a7:bU X o (hJ i))(ax:kJ X (e::es) ar){pl:Sem Bool}(hm:m∉ns:=by decide +kernel)(av:ar.length+1=n:=by rfl)
  (jW:bS (e::es) X.env=(false,eval e X.env)::bS es X.env:=by rfl) (hpl:(ee pos (bS es X.env)).any (·.1)=false:=by rfl)
  (bg:eval (.Call (.Attribute o m apos) (e::es) [] pos) X.env=(do
   let di <- eval o X.env
   standAt apos.atName
   let (f,first) <- holding [di] (getMethod di m pl)
   callWith pos f first (ee pos (bS (e::es) X.env)) (backToKw pos (nI [] X.env))):=by rfl):cC X (.Call (.Attribute o m apos) (e::es) [] pos) (eM c d i ar):=by
 obtain⟨cy,fd,aT,F,ir,b⟩:=jO.ex;refine d7 (PB a7 f7.cls ir F aC b .nil o7 ax jW hpl bg) λσ H Q ⟨au,E,O,F,ε,t,r,e,k⟩=>?_;simp only[eM,cg] at e;obtain⟨⟨md,os⟩,aF,ts,bx,e7⟩:=e;obtain⟨a,vs,bb,ab,hx,_⟩:=mU f7 r aF;refine⟨_,ab,a,bb,_,rfl,hx,tv hm,au,E,O,F,ε,ts,r,bx,λws aX H1 aR q=>⟨?_,aX,_,t,aR.cf,?_,e7,λv aB af b4 ba=>k v aB af (aR.trans b4) ba⟩⟩
 ·rw[mJ,gK,<- q.length,aic bx,av]
 ·rw[mJ];have aO:=r.ext aR;obtain⟨h5,c3,rs⟩:=aO.val i _ (mP aF);rw[ab] at c3;cases c3;refine .cons ⟨rfl,Jb rs _ _ λb aa=>?_⟩ (Pr q);obtain⟨o,e,_⟩:=rs.at aa;show H1 b≠none;rw[e];exact λz=>by cases z
def tF(f7:fv X.K c C ns)(jO:fp X.prog X.w X.K X.mg X.base C m k n d)(aC:dO k X.A)(a7:bU X o (hJ i)){pl:Sem Bool}(hm:m∉ns:=by decide +kernel)(av:1=n:=by rfl)
  (bg:eval (.Call (.Attribute o m apos) [] [] pos) X.env=(do
   let di <- eval o X.env
   standAt apos.atName
   let (f,first) <- holding [di] (getMethod di m pl)
   callWith pos f first (ee pos (bS [] X.env)) (backToKw pos (nI [] X.env))):=by rfl):cC X (.Call (.Attribute o m apos) [] [] pos) (eM c d i []):=by
 obtain⟨cy,fd,aT,F,ir,b⟩:=jO.ex;refine d7 (Ih a7 f7.cls ir F aC b .nil o7 bg) λσ H Q ⟨au,E,O,F,ε,t,r,e,k⟩=>?_;simp only[eM,cg] at e;obtain⟨⟨md,os⟩,aF,ts,bx,e7⟩:=e;cases bx;obtain⟨a,vs,bb,ab,hx,_⟩:=mU f7 r aF;refine⟨_,ab,a,bb,_,rfl,hx,tv hm,⟨?_,F,_,t,r.cf,?_,e7,λv aB af b4 ba=>k v aB af b4 ba⟩⟩
 ·simp[av]
 ·obtain⟨h5,c3,rs⟩:=r.val i _ (mP aF);rw[ab] at c3;cases c3;refine .cons ⟨rfl,Jb rs _ _ λb aa=>?_⟩ .nil;obtain⟨o,e,_⟩:=rs.at aa;show H b≠none;rw[e];exact λz=>by cases z
end
end
section
variable [cV]
open Classical in
noncomputable def hb(H:aw)(P:List ah)(a:ah):ey:=⟨λb=>if b∈P then none else H b,a⟩
section
variable {K:a_}{F aB au O:ah->Prop}{H af:aw}{E:ey}{P:List ah}{a b:ah}{o:dZ}{ε:Ev}{σ:bc.St}{c i:Nat}{m:gi}{ar fs':List aG}
def AJ(h:b∈P):(hb H P a).h b=none:=if_pos h
def rL(h:b∉P):(hb H P a).h b=H b:=if_neg h
def Ak(h:(hb H P a).h b=none):b∈P\/H b=none:=by
 by_cases z:b∈P
 ·exact .inl z
 ·rw[rL z] at h;exact .inr h
def adA(h:(hb H P a).h b=some o):b∉P/\H b=some o:=by
 by_cases z:b∈P
 ·rw[AJ z] at h;cases h
 ·exact⟨z,by rw[rL z] at h;exact h⟩
def ae0(d:fX F H):Ext F (hb H P a).h F H:=⟨λ_ _ q=>.inl (adA q).2,λ_ h=>h,λ_ h=>.inl h,d⟩
def afQ{v:V}(r:du K E O F H (.obj m c ar) (.ref a)):du K (hb H (cB H (.obj m c ar) (.ref a)) a) (λb=>(hb H (cB H (.obj m c ar) (.ref a)) a).h b=none) F H (.obj .ck c ar) (.ref a):=by
 obtain⟨kK,vs,e,ax,hf,a8,eR,hi⟩:=r;cases e;rw[iA ax];exact⟨a,vs,rfl,ax,hf,a8,λb aa=>⟨(eR b aa).1,AJ aa⟩,λ_=>rfl⟩
def bN.back(r:bN K au E O F H ε σ)(e:ε[i]?=some (some (.obj m c ar)))(hm:m≠.dp)(ab:σ[i]?=some (some (.ref a)))(hh:P=cB H (.obj m c ar) (.ref a))(x:Ext F (hb H P a).h aB af)
  (rs:du K (hb H P a) (λb=>(hb H P a).h b=none) aB af (.obj .ck c fs') (.ref a)):c' K F H aB af/\bN K au E O aB af (ε.set i (some (.obj m c fs'))) σ:=by
 obtain⟨v,c3,kX⟩:=r.val i _ e;rw[ab] at c3;cases c3;have uZ:(aG.obj m c ar).gn=true:=A3 hm;have q8:∀b∈P,(∃o,H b=some o/\lq o)/\¬F b/\O b:=λb aa=>by
  rw[hh] at aa;exact⟨kX.at aa,(kX.held aa).1,(kX.held aa).2.1 uZ⟩
 have jD:∀b o,b∉P->H b=some o->(∀aT,o≠.jZ aT)->af b=some o:=λb o aa e n=>x.same.get (by rw[rL aa];exact e) n;have aD:c' K F H aB af:=by
  refine⟨λb xs q=>?_,λb xs f q=>⟨x.sub b f,?_⟩⟩
  ·rcases q with q|q
   ·refine .inl ?_
    have nb:b∉P:=λz=>by
     obtain⟨⟨o,eF,aF⟩,_⟩:=q8 b z;rcases q with q|⟨_,q⟩ <;> (rw[eF] at q;cases q;exact aF.cases (λ_ z=>by cases z) (λ_ z=>by cases z) (λ_ _ _ z=>by cases z))
    rcases q with q|⟨u,q⟩
    ·exact .inl (jD b _ nb q λ_ z=>by cases z)
    ·exact .inr ⟨u,jD b _ nb q λ_ z=>by cases z⟩
   ·exact .inr q
  ·have nb:b∉P:=λz=>(q8 b z).2.1 f;rcases q with q|⟨u,q⟩
   ·exact .inl (jD b _ nb q λ_ z=>by cases z)
   ·exact .inr ⟨u,jD b _ nb q λ_ z=>by cases z⟩
 have LQ:∀b,aB b->F b\/b∈P\/H b=none:=λb f=>by
  rcases x.new b f with z|z
  ·exact .inl z
  ·exact .inr (Ak z)
 have keep:∀(j:Nat) (u:aG) (w:V),i≠j->ε[j]?=some (some u)->σ[j]?=some (some w)->du K E O F H u w->(∀b∈cB H u w,b∉P)/\du K E O aB af u w/\cB af u w=cB H u w:=by
  intro j u w fk qP bC dm;have FU:∀b∈cB H u w,b∉P:=λb aa z=>by
   cases pP:u.gn with
   |true=>exact r.ne i j _ u _ w fk e qP uZ pP ab bC b (hh▸z) aa
   |false=>exact (dm.held aa).2.2 pP (r.o0 b (q8 b z).2.2)
  refine⟨FU,dm.keep aD (λb aa=>?_) (λb aa f=>?_) λ_ _ o=>o⟩
  ·obtain⟨o,eF,aF⟩:=dm.at aa;rw[eF];exact jD b o (FU b aa) eF λaT z=>by subst z;exact aF.cases (λ_ z=>by cases z) (λ_ z=>by cases z) (λ_ _ _ z=>by cases z)
  ·rcases LQ b f with z|z|z
   ·exact z
   ·exact absurd z (FU b aa)
   ·obtain⟨o,eF,_⟩:=dm.at aa;rw[z] at eF;cases eF
 obtain⟨kK,vs,cK,ax,hf,a8,eR,_⟩:=rs;cases cK;have ih:∀b∈a::c7 fs' vs,¬aB b/\(b∈P\/H b=none):=λb aa=>by
  obtain⟨n,q⟩:=eR b aa;exact⟨n,Ak q⟩
 have ah1:(aG.obj m c fs').gn=true:=A3 hm;have LB:m=.ck->a=E.hi:=by
  obtain⟨_,_,ef,_,_,_,_,hi⟩:=kX;cases ef;exact hi
 have ZX:∀b,¬aB b/\O b->uf E O aB m b:=λb h=>by
  cases m with
  |dp=>exact absurd rfl hm
  |own=>exact h
  |ck=>exact h
 have vq:du K E O aB af (.obj m c fs') (.ref a):=⟨a,vs,rfl,ax,hf,a8,λb aa=>ZX b ⟨(ih b aa).1,by
  rcases (ih b aa).2 with z|z
  ·exact (q8 b z).2.2
  ·exact r.fr b z⟩,LB⟩
 have gI:cB af (.obj m c fs') (.ref a)=a::c7 fs' vs:=iA ax;have apart:∀(j:Nat) (u:aG) (w:V),i≠j->ε[j]?=some (some u)->σ[j]?=some (some w)->du K E O F H u w->∀b∈cB af (.obj m c fs') (.ref a),b∉cB H u w:=λj u w fk qP bC dm b aa c8=>by
  rw[gI] at aa;rcases (ih b aa).2 with z|z
  ·exact (keep j u w fk qP bC dm).1 b c8 z
  ·obtain⟨o,eF,_⟩:=dm.at c8;rw[z] at eF;cases eF
 refine⟨aD,⟨by simp[r.len],λj u a9=>?_,λj k u w eK k0 kg aH aS cD dQ aP ba=>?_,⟨λb o q=>?_,λb f=>x.sub b (r.ent.sub b f),λb f=>?_,x.cf⟩,r.o0,λb a9=>?_⟩⟩
 ·rcases get_set a9 with ⟨rfl,n9,av⟩|⟨ne,n9⟩
  ·cases n9
   exact⟨_,ab,vq⟩
  ·obtain⟨w,ak,dm⟩:=r.val j u n9;exact⟨w,ak,(keep j u w ne n9 ak dm).2.1⟩
 ·rcases get_set aH with ⟨rfl,a9,av⟩|⟨ne1,f6⟩
  ·rcases get_set aS with ⟨rfl,_,_⟩|⟨ne2,eO⟩
   ·exact absurd rfl kg
   ·cases a9
    rw[ab] at aP;cases aP;obtain⟨fe,ak,dm⟩:=r.val k w eO;rw[ba] at ak;cases ak;rw[(keep k w k0 ne2 eO ba dm).2.2];exact apart k w k0 ne2 eO ba dm
  ·obtain⟨v1,ak,aO⟩:=r.val j u f6;rw[aP] at ak;cases ak;rw[(keep j u eK ne1 f6 aP aO).2.2];rcases get_set aS with ⟨rfl,a9,av⟩|⟨ne2,eO⟩
   ·cases a9
    rw[ab] at ba;cases ba;intro b aa c8;exact apart j u eK ne1 f6 aP aO b c8 aa
   ·obtain⟨fe,bF,a4⟩:=r.val k w eO;rw[ba] at bF;cases bF;rw[(keep k w k0 ne2 eO ba a4).2.2];exact r.ne j k u w eK k0 kg f6 eO cD dQ aP ba
 ·have nb:b∉P:=λz=>by
   rw[r.o0 b (q8 b z).2.2] at q;cases q
  rcases r.ent.same b o q with z|⟨aT,ox,aH,z⟩
  ·exact x.same b o (by rw[rL nb];exact z)
  ·rcases x.same b _ (by rw[rL nb];exact z) with h8|⟨_,oy,_,h8⟩
   ·exact .inr ⟨aT,ox,aH,h8⟩
   ·exact .inr ⟨aT,oy,aH,h8⟩
 ·rcases LQ b f with z|z|z
  ·exact r.ent.new b z
  ·exact .inr (r.o0 b (q8 b z).2.2)
  ·exact .inr (r.o0 b (r.fr b z))
 ·rcases Ak (x.same.none a9) with z|z
  ·exact (q8 b z).2.2
  ·exact r.fr b z
end
noncomputable def rr(K:a_)(n c p:Nat)(d:List aG->Option (T×List aG)):jR:=λvs H Q _=>vs.length=n/\∃(F:ah->Prop) (ss:List aG) (a:ah) (P:List ah) (ar:List aG) (r:T×List aG),fX F H/\vs[p]?=some (.ref a)/\ss[p]?=some (.obj .ck c ar) /\
 Paired (λs v=>du K (hb H P a) (λb=>(hb H P a).h b=none) F H s v) ss vs/\(∀q s,q≠p->ss[q]?=some s->s.gn=false)/\d ss=some r /\
 ∀v aB af,Ext F (hb H P a).h aB af->Rep K aB af r.1 v->du K (hb H P a) (λb=>(hb H P a).h b=none) aB af (.obj .ck c r.2) (.ref a)->Q v af
section
variable {P:cF}{w:cv}{K:a_}{mg:Str->Option aj}{base:bT}
def ac_{c p:Nat}{ε:Ev}{ar:List aG}(h:jL c p ε=some ar):ε[p]?=some (some (.obj .ck c ar)):=by
 unfold jL at h;split at h
 next d0 fs' e=>
  split at h
  next ay=>
   cases h
   rw[e,ay]
  next=>cases h
 next=>cases h
def IF{x qual:Str}{st:Stmt}{f:ah}{fd:fU}{N aT:List Str}{k c p:Nat}{b:bB}(F:cE K x qual st f fd)(S:cR N aT (cb st))
  (aa:∀(cS:aj) (A:cY) (outer:List Env) (s:aK) (H:aw) (E:gC),dO k (A.deeper (envOfC qual (cb st) s.heap.objs.size f cS)) ->
   iF (jv fh P w K mg base N qual (cb st) f cS A outer s H E).kj (jg st) b):
  eT P w K mg base fh (k+1) f fd aT (rr K aT.length c p (runM c p b N.length)):=by
 refine F.ok S (λvs H Q E h=>h.1) λcS A outer s H vs Q E aC h=>⟨_,aa cS A outer s H E aC,?_⟩
 obtain⟨av,F,ss,a,qD,ar,r,cf,bq,az,q,aF,e,lL⟩:=h;simp only[runM,cg] at e;obtain⟨o,eF,e⟩:=e;have hlen:ss.length=vs.length:=Paired.length q;refine⟨F,hb H qD a,λb=>(hb H qD a).h b=none,F,_,o,?_,eF,?_⟩
 ·unfold bc.start;refine⟨by simp[j9,hlen],λi s e=>?_,λi j s u v w fk aH aS cD dQ=>?_,ae0 cf,λ_ h=>h,λb aa=>?_⟩
  ·obtain⟨v,bq,bZ⟩:=Paired.get q (wi e);exact⟨v,Oh bq,bZ⟩
  ·by_cases aJ:i=p
   ·subst aJ;rw[aF j u (Ne.symm fk) (wi aS)] at dQ;cases dQ
   ·rw[aF i s aJ (wi aH)] at cD;cases cD
  ·by_cases z:b∈qD
   ·exact AJ z
   ·exact (rL z).trans aa
 ·have fin:∀{ε':Ev} {bD:bc.St} {aB:ah->Prop} {af:aw} {fs':List aG},bN K F (hb H qD a) (λb=>(hb H qD a).h b=none) aB af ε' bD->jL c p ε'=some fs'->du K (hb H qD a) (λb=>(hb H qD a).h b=none) aB af (.obj .ck c fs') (.ref a):=λbR gk=>by
   obtain⟨h5,_,rs⟩:=bR.val p _ (ac_ gk);have vq:=rs;obtain⟨kK,_,rfl,_,_,_,_,hi⟩:=rs;have:kK=a:=hi rfl;subst this;exact vq
  cases o with
  |dj t'=>cases e
  |bQ ε'=>
   simp only[dX] at e;obtain⟨fs',gk,rfl⟩:=e;exact λbD aB af _ bR=>lL _ aB af bR.ent (by simp[Rep]) (fin bR gk)
  |gT _=>cases e
  |d_ _=>cases e
  |hk t ε'=>
   simp only[dX] at e;obtain⟨fs',gk,rfl⟩:=e;exact λv bD aB af bR bZ=>lL v aB af bR.ent bZ (fin bR gk)
  |jB _=>cases e
structure cG(P:cF)(w:cv)(K:a_)(mg:Str->Option aj)(base:bT)(C:ah)(c:Nat)(m:Str)(k n:Nat)(d:List aG->Option (T×List aG)):Prop where
 ex:∃cy fd aT,eT P w K mg base fh k cy fd aT (rr K n c 0 d)/\Meth K C m cy/\Binds K fd aT []
theorem cG.mono{C:ah}{c:Nat}{m:Str}{k n j:Nat}{d:List aG->Option (T×List aG)}(h:cG P w K mg base C c m j n d)(bC:j<=k):cG P w K mg base C c m k n d:=by
 obtain⟨cy,fd,aT,F,r⟩:=h.ex;exact⟨cy,fd,aT,F.mono bC,r⟩
def hp{C:ah}{m qual:Str}{st:Stmt}{f:ah}{fd:fU}{N aT:List Str}{k c:Nat}{b:bB}(F:cE K m qual st f fd)(S:cR N aT (cb st))(bd:Binds K fd aT [])(ir:Meth K C m f)
  (aa:∀(cS:aj) (A:cY) (outer:List Env) (s:aK) (H:aw) (E:gC),dO k (A.deeper (envOfC qual (cb st) s.heap.objs.size f cS)) ->
   iF (jv fh P w K mg base N qual (cb st) f cS A outer s H E).kj (jg st) b):cG P w K mg base C c m (k+1) aT.length (runM c 0 b N.length):=⟨f,fd,aT,IF F S aa,ir,bd⟩
structure qx(P:cF)(w:cv)(K:a_)(mg:Str->Option aj)(base:bT)(x:Str)(c p k n:Nat)(d:List aG->Option (T×List aG)):Prop where
 ex:∃cy fd aT,eT P w K mg base fh k cy fd aT (rr K n c p d)/\mg x=some (.ref cy)/\mI K (.ref cy)=true/\Binds K fd aT []
theorem qx.mono{x:Str}{c p k n j:Nat}{d:List aG->Option (T×List aG)}(h:qx P w K mg base x c p j n d)(bC:j<=k):qx P w K mg base x c p k n d:=by
 obtain⟨cy,fd,aT,F,r⟩:=h.ex;exact⟨cy,fd,aT,F.mono bC,r⟩
def agY{x:Str}{st:Stmt}{f:ah}{fd:fU}{N aT:List Str}{k c p:Nat}{b:bB}(F:cE K x x st f fd)(S:cR N aT (cb st))(bd:Binds K fd aT [])(m:mg x=some (.ref f))
  (aa:∀(cS:aj) (A:cY) (outer:List Env) (s:aK) (H:aw) (E:gC),dO k (A.deeper (envOfC x (cb st) s.heap.objs.size f cS)) ->
   iF (jv fh P w K mg base N x (cb st) f cS A outer s H E).kj (jg st) b):qx P w K mg base x c p (k+1) aT.length (runM c p b N.length):=⟨f,fd,aT,IF F S aa,m,F.aD,bd⟩
end
noncomputable def zh(K:a_)(f:jP):TE:=λσ H Q=>∃au E O F ε t ε',bN K au E O F H ε σ/\f ε=some (t,ε')/\∀v aB af,c' K F H aB af->bN K au E O aB af ε' σ->Rep K aB af t v->Q v af
abbrev m3(X:bj)(e:bz)(f:jP):Prop:=bU X e (zh X.K f)
section
variable {X:bj}{k n c C i:Nat}{ns:List Str}{d:List aG->Option (T×List aG)}{x m:Str}{p pos apos:Pos}{o e:bz}{es:List bz}{ar fj:List bE}{nj:jP}
theorem Iw{K:a_}{E:ey}{O F:ah->Prop}{H:aw}:∀{ts:List T} {vs:List V},bh K F H ts vs->Paired (λs v=>du K E O F H s v) (ts.map .ae) vs
| [],vs,h=>by
  simp only[bh] at h;subst h;exact .nil
|t::ts,vs,h=>by
  simp only[bh] at h;obtain⟨v,z,rfl,q,h⟩:=h;exact .cons q (Iw h)
def PM{ts:List T}{q:Nat}{s:aG}(h:(ts.map aG.ae)[q]?=some s):s.gn=false:=by
 rw[ho] at h;cases e:ts[q]? with
|none=>rw[e] at h;cases h
|some t=>rw[e] at h;cases h;rfl
def zev{σ:bc.St}{H H1:aw}{au O F aX:ah->Prop}{E:ey}{ε:Ev}{md:gi}{os:List aG}{a:ah}{Q:c6}{ws:List V}{ts:List T}{r:T×List aG}(_T:bN X.K au E O F H ε σ)(aF:dS c i ε=some (md,os))(hm:md≠.dp)(ab:σ[i]?=some (some (.ref a)))
  (aR:Ext F H aX H1) (q:bh X.K aX H1 ts ws) (e7:d (.obj .ck c os::ts.map .ae)=some r) (av:ts.length+1=n)
  (bJ:∀v aB af,c' X.K F H aB af->bN X.K au E O aB af (ε.set i (some (.obj md c r.2))) σ->Rep X.K aB af r.1 v->Q v af):rr X.K n c 0 d (.ref a::ws) H1 Q aio:=by
 have aO:=_T.ext aR;obtain⟨h5,c3,rs⟩:=aO.val i _ (mP aF);rw[ab] at c3;cases c3;refine⟨by simp[<- q.length,av],aX,_,a,cB H1 (.obj md c os) (.ref a),os,r,aR.cf,rfl,rfl,.cons (afQ (v:=.ref a) rs) (Iw q),λj s bC az=>?_,e7,λv aB af b4 bZ aac=>?_⟩
 ·cases j with
  |zero=>exact absurd rfl bC
  |succ j=>exact PM (q:=j) (by simpa using az)
 ·obtain⟨aD,a4⟩:=aO.back (mP aF) hm ab rfl b4 aac;exact bJ v aB af (aR.aD.trans aD) a4 bZ
def eu(f7:fv X.K c C ns)(jO:cG X.prog X.w X.K X.mg X.base C c m k n d)(aC:dO k X.A)(a7:bU X o (hJ i))(ax:kJ X (e::es) ar){pl:Sem Bool}(hm:m∉ns:=by decide +kernel)(av:ar.length+1=n:=by rfl)
  (jW:bS (e::es) X.env=(false,eval e X.env)::bS es X.env:=by rfl) (hpl:(ee pos (bS es X.env)).any (·.1)=false:=by rfl)
  (bg:eval (.Call (.Attribute o m apos) (e::es) [] pos) X.env=(do
   let di <- eval o X.env
   standAt apos.atName
   let (f,first) <- holding [di] (getMethod di m pl)
   callWith pos f first (ee pos (bS (e::es) X.env)) (backToKw pos (nI [] X.env))):=by rfl):m3 X (.Call (.Attribute o m apos) (e::es) [] pos) (cZ c d i ar):=by
 obtain⟨cy,fd,aT,F,ir,b⟩:=jO.ex;refine d7 (PB a7 f7.cls ir F aC b .nil o7 ax jW hpl bg) λσ H Q ⟨au,E,O,F,ε,t,ε',r,e,bJ⟩=>?_;simp only[cZ,cg] at e;obtain⟨⟨md,os⟩,aF,e⟩:=e;split at e
 next=>cases e
 next uW=>
  simp only[cg,dX] at e;obtain⟨ts,bx,bR,e7,e⟩:=e;cases e;obtain⟨a,vs,bb,ab,hx,_⟩:=mU f7 r aF;refine⟨_,ab,a,bb,_,rfl,hx,tv hm,au,E,O,F,ε,ts,r,bx,λws aX H1 aR q=>?_⟩;show rr X.K n c 0 d (V.ref a::(ws++[])) H1 Q aio;rw[mJ];exact zev r aF uW ab aR q e7 (by rw[aic bx,av]) bJ
def rO(f7:fv X.K c C ns)(jO:cG X.prog X.w X.K X.mg X.base C c m k n d)(aC:dO k X.A)(a7:bU X o (hJ i)){pl:Sem Bool}(hm:m∉ns:=by decide +kernel)(av:1=n:=by rfl)
  (bg:eval (.Call (.Attribute o m apos) [] [] pos) X.env=(do
   let di <- eval o X.env
   standAt apos.atName
   let (f,first) <- holding [di] (getMethod di m pl)
   callWith pos f first (ee pos (bS [] X.env)) (backToKw pos (nI [] X.env))):=by rfl):m3 X (.Call (.Attribute o m apos) [] [] pos) (cZ c d i []):=by
 obtain⟨cy,fd,aT,F,ir,b⟩:=jO.ex;refine d7 (Ih a7 f7.cls ir F aC b .nil o7 bg) λσ H Q ⟨au,E,O,F,ε,t,ε',r,e,bJ⟩=>?_;simp only[cZ,cg] at e;obtain⟨⟨md,os⟩,aF,e⟩:=e;split at e
 next=>cases e
 next uW=>
  simp only[cg,dX] at e;obtain⟨ts,bx,bR,e7,e⟩:=e;cases e;cases bx;obtain⟨a,vs,bb,ab,hx,_⟩:=mU f7 r aF;refine⟨_,ab,a,bb,_,rfl,hx,tv hm,?_⟩;exact zev r aF uW ab (Ext.refl r.cf) bh.nil e7 (by simpa using av) bJ
def eh(h:m3 X e nj)(mx:iS e none pos.line X.env=pure false:=by rfl):gA X (.Expr e pos) (dH nj):=fN (AU h mx) λD σ H ⟨au,E,O,F,ε,o,r,e,k⟩=>by
 simp only[dH,dX] at e;obtain⟨⟨t,ε'⟩,bx,rfl⟩:=e;exact⟨au,E,O,F,ε,t,ε',r,bx,λv aB af aD bR _=>k σ aB af aD bR⟩
def tR(h:m3 X e nj):gA X (.Return (some e) pos) (iv nj):=fN (rX h) λD σ H ⟨au,E,O,F,ε,o,r,e,k⟩=>by
 simp only[iv,dX] at e;obtain⟨⟨t,ε'⟩,bx,rfl⟩:=e;exact⟨au,E,O,F,ε,t,ε',r,bx,λv aB af aD bR bZ=>k v σ aB af bR bZ⟩
def agh{f:bE}(h:cC X e f):gA X (.Return (some e) pos) (pS f):=fN (rX h) λD σ H ⟨au,E,O,F,ε,o,r,e,k⟩=>by
 simp only[pS,dX] at e;obtain⟨t,bx,rfl⟩:=e;exact⟨au,E,O,F,ε,t,r,bx,λv aB af x bZ=>k v σ aB af (r.ext x) bZ⟩
def Iu:gA X (.Return none pos) o6:=fN afz λD σ H ⟨au,E,O,F,ε,o,r,e,k⟩=>by
 cases e
 exact k .fz σ F H r (by simp[Rep])
def afq{st:Stmt}:gA X st never:=λag s σ H D I ⟨au,E,O,F,ε,o,r,e,k⟩=>by cases e
end
end
section
variable [cV]
noncomputable def tO(K:a_)(f:lp):TE:=λσ H Q=>∃au E O F ε s,bN K au E O F H ε σ/\f ε=some s/\∀a aB af,Ext F H aB af->du K E O aB af s (.ref a)->(∀b∈cB af s (.ref a),H b=none)->Q (.ref a) af
abbrev qG(X:bj)(e:bz)(f:lp):Prop:=bU X e (tO X.K f)
noncomputable def Mq(K:a_)(n:Nat)(d:List T->Option aG):jR:=λvs H Q _=>vs.length=n/\∃F ts s,fX F H/\bh K F H ts vs/\d ts=some s/\∀a aB af,Ext F H aB af->du K ⟨H,0⟩ (λb=>H b=none) aB af s (.ref a)->Q (.ref a) af
def Oo{s t:aG}(h:rk s=some t):∃c os,s=.obj .own c os/\t=.obj .own c os:=by
 unfold rk at h;split at h
 ·cases h
  exact⟨_,_,rfl,rfl⟩
 ·cases h
section
variable {P:cF}{w:cv}{K:a_}{mg:Str->Option aj}{base:bT}
def af1{x qual:Str}{st:Stmt}{f:ah}{fd:fU}{N aT:List Str}{k:Nat}{b:bB}(F:cE K x qual st f fd)(S:cR N aT (cb st))
  (aa:∀(cS:aj) (A:cY) (outer:List Env) (s:aK) (H:aw) (E:gC),dO k (A.deeper (envOfC qual (cb st) s.heap.objs.size f cS)) ->
   iF (jv fh P w K mg base N qual (cb st) f cS A outer s H E).kj (jg st) b):
  eT P w K mg base fh (k+1) f fd aT (Mq K aT.length (rq b N.length)):=by
 refine F.ok S (λvs H Q E h=>h.1) λcS A outer s H vs Q E aC h=>⟨_,aa cS A outer s H E aC,?_⟩
 obtain⟨av,F,ts,t,cf,q,e,lL⟩:=h;simp only[rq,cg] at e;obtain⟨o,eF,e⟩:=e;refine⟨F,⟨H,0⟩,λa=>H a=none,F,_,o,?_,eF,?_⟩
 ·have:=NY (N:=N) cf q (N.length - ts.length);unfold bc.start;rw[q.length] at this ⊢;exact this
 ·cases o with
  |jB s=>
   obtain⟨c,os,rfl,rfl⟩:=Oo e;exact λa aB af x rs=>lL a aB af x rs
  |bQ ε'=>cases e
  |gT _=>cases e
  |d_ _=>cases e
  |hk _ _=>cases e
  |dj _=>cases e
structure mZ(P:cF)(w:cv)(K:a_)(mg:Str->Option aj)(base:bT)(x:Str)(k n:Nat)(d:List T->Option aG):Prop where
 ex:∃cy fd aT,eT P w K mg base fh k cy fd aT (Mq K n d)/\mg x=some (.ref cy)/\mI K (.ref cy)=true/\Binds K fd aT []
theorem mZ.mono{x:Str}{k n j:Nat}{d:List T->Option aG}(c:mZ P w K mg base x j n d)(h:j<=k):mZ P w K mg base x k n d:=by
 obtain⟨cy,fd,aT,F,r⟩:=c.ex;exact⟨cy,fd,aT,F.mono h,r⟩
def agX{x:Str}{st:Stmt}{f:ah}{fd:fU}{N aT:List Str}{k:Nat}{b:bB}(F:cE K x x st f fd)(S:cR N aT (cb st))(bd:Binds K fd aT [])(m:mg x=some (.ref f))
  (aa:∀(cS:aj) (A:cY) (outer:List Env) (s:aK) (H:aw) (E:gC),dO k (A.deeper (envOfC x (cb st) s.heap.objs.size f cS)) ->
   iF (jv fh P w K mg base N x (cb st) f cS A outer s H E).kj (jg st) b):mZ P w K mg base x (k+1) aT.length (rq b N.length):=⟨f,fd,aT,af1 F S aa,m,F.aD,bd⟩
structure nX(P:cF)(w:cv)(K:a_)(mg:Str->Option aj)(base:bT)(x:Str)(C:ah)(c k n:Nat)(d:List aG->Option (T×List aG)):Prop where
 ex:∃cy fd aT,eT P w K mg base fh k cy fd aT (rr K n c 0 d)/\r' K C cy/\mg x=some (.ref C)/\Binds K fd aT []
theorem nX.mono{x:Str}{C:ah}{c k n j:Nat}{d:List aG->Option (T×List aG)}(h:nX P w K mg base x C c j n d)(bC:j<=k):nX P w K mg base x C c k n d:=by
 obtain⟨cy,fd,aT,F,r⟩:=h.ex;exact⟨cy,fd,aT,F.mono bC,r⟩
def Qj{x:Str}{C:ah}{qual:Str}{st:Stmt}{f:ah}{fd:fU}{N aT:List Str}{k c:Nat}{b:bB}(F:cE K "__init__" qual st f fd)(S:cR N aT (cb st))(bd:Binds K fd aT [])(ir:r' K C f)(m:mg x=some (.ref C))
  (aa:∀(cS:aj) (A:cY) (outer:List Env) (s:aK) (H:aw) (E:gC),dO k (A.deeper (envOfC qual (cb st) s.heap.objs.size f cS)) ->
   iF (jv fh P w K mg base N qual (cb st) f cS A outer s H E).kj (jg st) b):nX P w K mg base x C c (k+1) aT.length (runM c 0 b N.length):=⟨f,fd,aT,IF F S aa,ir,m,bd⟩
end
section
variable {X:bj}{k n c C i j:Nat}{ns:List Str}{x m f:Str}{p pos apos:Pos}{o e:bz}{es:List bz}{ar:List bE}{hA:lp}
def Pt{K:a_}{E m1:ey}{O iE aB:ah->Prop}{af:aw}{m:gi}{c:Nat}{os:List aG}{a:ah}(rs:du K m1 iE aB af (.obj m c os) (.ref a))(hm:m≠.dp)(h:∀b,iE b->O b):du K E O aB af (.obj .own c os) (.ref a):=by
 obtain⟨kK,vs,e,ax,hf,a8,eR,_⟩:=rs;refine⟨kK,vs,e,ax,hf,a8,λb aa=>⟨(eR b aa).1,h b ?_⟩,λz=>by cases z⟩;have q:=(eR b aa).2;cases m with
|dp=>exact absurd rfl hm
|own=>exact q
|ck=>exact q
def QL{d:List aG->Option (T×List aG)}(f7:fv X.K c C ns)(jO:nX X.prog X.w X.K X.mg X.base x C c k n d)(aC:dO (k+1) X.A)(ax:kJ X (e::es) ar)(bG:fo X x:=by rfl)(av:ar.length+1=n:=by rfl)(i6:(x==("__debug__":Str))=false:=by decide)
  (he:bS (e::es) X.env=(false,eval e X.env)::bS es X.env:=by rfl) (hpl:(ee pos (bS es X.env)).any (·.1)=false:=by rfl):qG X (.Call (.Name x p) (e::es) [] pos) (ou c d ar):=by
 obtain⟨cy,fd,aT,F,M,hm,b⟩:=jO.ex;refine d7 (afF M F aC bG hm b .nil o7 ax i6 he hpl) λσ H Q ⟨au,E,O,F,ε,s,r,e,bJ⟩=>?_;simp only[ou,cg] at e;obtain⟨ts,bx,bR,e7,e⟩:=e;refine⟨au,E,O,F,ε,ts,r,bx,λws aX H1 aR q=>λy bb bI KZ il=>?_⟩;rw[mJ];have WG:upd (upd H1 bb (.own y)) y (.ins C bb []) y=some (.ins C bb []):=dY;have lI:∀a':aw,a' y=some (.ins C bb [])->hs a' y c []:=λa' e=>by
  refine⟨ku _,?_⟩
  rw[f7.l'];exact⟨bb,by simpa using e⟩
 have mz:∀b,b≠y->b≠bb->upd (upd H1 bb (.own y)) y (.ins C bb []) b=H1 b:=λb ab ak=>by rw[cQ ab,cQ ak]
 have aiv:Ext aX H1 aX (upd H1 bb (.own y)):=Ext.laid aR.cf KZ;have WE:upd H1 bb (.own y) y=none:=by rw[cQ (Ne.symm il)];exact bI
 have G2:Ext aX H1 aX (upd (upd H1 bb (.own y)) y (.ins C bb [])):=aiv.trans (Ext.laid aiv.cf WE);have ny:¬aX y:=λz=>by
  obtain⟨o,e⟩:=aR.cf y z;rw[bI] at e;cases e
 split at e
 next sH=>
  cases e
  refine⟨by simp[<- q.length,aic bx,av],aX,.obj .ck c []::ts.map .ae,y,[y],[],bR,G2.cf,rfl,rfl,.cons ⟨y,[],rfl,lI _ WG,rfl,by simp[c7],λb aa=>?_,λ_=>rfl⟩ (Iw (q.ext G2)),λj s bC az=>?_,e7,λv aB af b4 bZ rs=>?_⟩
  ·have:b=y:=by simpa [c7] using aa
   subst this;exact⟨ny,AJ (by simp)⟩
  ·cases j with
   |zero=>exact absurd rfl bC
   |succ j=>exact PM (q:=j) (by simpa using az)
  ·rw[sH] at bZ;refine⟨by simpa [Rep] using bZ,?_⟩;have F':∀b,(hb (upd (upd H1 bb (.own y)) y (.ins C bb [])) [y] y).h b=none->H b=none:=λb aa=>by
    rcases Ak aa with z|z
    ·have:b=y:=by simpa using z
     rw[this];exact aR.same.none bI
    ·exact aR.same.none (G2.same.none z)
   have dG:Ext F H aB af:=by
    refine⟨λb o q=>?_,λb z=>b4.sub b (aR.sub b z),λb z=>?_,b4.cf⟩
    ·have step:∀u,H1 b=some u->(hb (upd (upd H1 bb (.own y)) y (.ins C bb [])) [y] y).h b=some u:=λu aH=>by
      have hG:b≠y:=λz=>by rw[z,bI] at aH;cases aH
      have f9:b≠bb:=λz=>by rw[z,KZ] at aH;cases aH
      rw[rL (by simpa using hG),mz b hG f9];exact aH
     rcases aR.same b o q with z|⟨aT,ox,aH,z⟩
     ·exact b4.same b o (step _ z)
     ·rcases b4.same b _ (step _ z) with h8|⟨_,oy,_,h8⟩
      ·exact .inr ⟨aT,ox,aH,h8⟩
      ·exact .inr ⟨aT,oy,aH,h8⟩
    ·rcases b4.new b z with z|z
     ·exact aR.new b z
     ·exact .inr (F' b z)
   refine bJ y aB af dG (Pt rs (by decide) λb aa=>r.fr b (F' b aa)) λb aa=>?_
   obtain⟨kK,vs,cK,lG,hf,a8,eR,_⟩:=rs;cases cK;rw[iA lG] at aa;exact F' b (eR b aa).2
 next=>cases e
def A6{d:List T->Option aG}(jO:mZ X.prog X.w X.K X.mg X.base x k n d)(hd:∀ts s,d ts=some s->∃c os,s=.obj .own c os)(aC:dO k X.A)(ax:kJ X (e::es) ar)(bG:fo X x:=by rfl)(av:ar.length=n:=by rfl)(i6:(x==("__debug__":Str))=false:=by decide)
  (he:bS (e::es) X.env=(false,eval e X.env)::bS es X.env:=by rfl) (hpl:(ee pos (bS es X.env)).any (·.1)=false:=by rfl):qG X (.Call (.Name x p) (e::es) [] pos) (nU d ar):=by
 obtain⟨cy,fd,aT,F,hm,aD,b⟩:=jO.ex;refine d7 (Iy F aC bG hm aD b .nil o7 ax i6 he hpl) λσ H Q ⟨au,E,O,F,ε,s,r,e,bJ⟩=>?_;simp only[nU,cg] at e;obtain⟨ts,bx,e7⟩:=e;obtain⟨c,os,rfl⟩:=hd _ _ e7;refine⟨au,E,O,F,ε,ts,r,bx,λws aX H1 aR q=>⟨?_,aX,ts,_,aR.cf,by simpa using q,e7,λa aB af b4 rs=>?_⟩⟩
 ·rw[mJ,<- q.length,aic bx,av]
 ·refine bJ a aB af (aR.trans b4) (Pt rs (by decide) λb aa=>r.fr b (aR.same.none aa)) λb aa=>?_
  obtain⟨kK,vs,cK,lG,hf,a8,eR,_⟩:=rs;cases cK;rw[iA lG] at aa;exact aR.same.none (eR b aa).2
def aeH{b:bB}{n:Nat}{ts:List T}{s:aG}(h:rq b n ts=some s):∃c os,s=.obj .own c os:=by
 simp only[rq,cg] at h;obtain⟨o,eF,e⟩:=h;cases o with
|jB s'=>
  obtain⟨c,os,_,rfl⟩:=Oo e;exact⟨c,os,rfl⟩
|_=>cases e
def agj(j:Nat){y:Str}{pos':Pos}(dk:X.N.Nodup)(h:qG X e hA)(aJ:X.N[j]?=some y:=by rfl)(hx:Loc X.env.scope y:=by first|exact Or.inl rfl|exact Or.inr rfl)
  (az:iS e (some (.Name y pos')) pos.line X.env=pure false:=by rfl) (hf:X.fn y=true\/X.env.scope.names.lookup y=some .local:=by first|exact .inl rfl|exact .inr rfl):
  gA X (.Assign [.Name y pos'] e pos) (xd j hA):=fN (A2 dk aJ hx h az hf) λD σ H ⟨au,E,O,F,ε,o,r,e,k⟩=>by
 simp only[xd,dX] at e;obtain⟨s,es,rfl⟩:=e;exact⟨au,E,O,F,ε,s,r,es,λa aB af x rs a7=>k _ aB af x.aD (r.GJ j x rs a7)⟩
def agg(a7:bU X e (hJ i)):gA X (.Return (some e) pos) (vr i):=fN (rX a7) λD σ H ⟨au,E,O,F,ε,o,r,e,k⟩=>by
 unfold vr at e;split at e
 next c ar he=>
  cases e
  obtain⟨v,ab,rs⟩:=r.val i _ he;have vq:=rs;obtain⟨a,vs,rfl,_⟩:=rs;exact⟨_,ab,k a F H r.ent vq⟩
 next=>cases e
def Nt{s:aG}{os:List aG}(h:ql c s=some os):s=.obj .own c os:=by
 unfold ql at h;split at h
 next d0 ar=>
  split at h
  next ay=>
   cases h
   rw[ay]
  next=>cases h
 next=>cases h
def Qk{K:a_}{E:ey}{O F:ah->Prop}{H:aw}{os:List aG}{a:ah}(f7:fv K c C ns)(rs:du K E O F H (.obj .own c os) (.ref a)):∃bb vs,H a=some (.ins C bb (ns.zip vs))/\hs H a c vs/\fF K F H os vs:=by
 obtain⟨kK,vs,cK,ax,hf,_⟩:=rs;cases cK;obtain⟨av,hx⟩:=id ax;rw[f7.l'] at hx;obtain⟨bb,hx⟩:=hx;rw[f7.eV] at hx;exact⟨bb,vs,hx,ax,hf⟩
def QE{d:List aG->Option T}(f7:fv X.K c C ns)(jO:fp X.prog X.w X.K X.mg X.base C m k n d)(aC:dO k X.A)(aF:qG X o hA){pl:Sem Bool}(hm:m∉ns:=by decide +kernel)(av:1=n:=by rfl)
  (bg:eval (.Call (.Attribute o m apos) [] [] pos) X.env=(do
   let di <- eval o X.env
   standAt apos.atName
   let (f,first) <- holding [di] (getMethod di m pl)
   callWith pos f first (ee pos (bS [] X.env)) (backToKw pos (nI [] X.env))):=by rfl):cC X (.Call (.Attribute o m apos) [] [] pos) (sS c d hA []):=by
 obtain⟨cy,fd,aT,F,ir,b⟩:=jO.ex;refine d7 (Ih aF f7.cls ir F aC b .nil o7 bg) λσ H Q ⟨au,E,O,F,ε,t,r,e,k⟩=>?_;simp only[sS,cg] at e;obtain⟨s,es,os,eF,ts,bx,e7⟩:=e;cases bx;have:=Nt eF;subst this;refine⟨au,E,O,F,ε,_,r,es,λa aX H1 aR rs a7=>?_⟩;obtain⟨bb,vs,hx,ax,hf⟩:=Qk f7 rs;refine⟨a,bb,_,rfl,hx,tv hm,⟨by simp[av],aX,_,t,aR.cf,.cons ⟨rfl,Jb rs _ _ λb aa=>?_⟩ .nil,e7,λv aB af b4 ba=>k v aB af (aR.trans b4) ba⟩⟩;obtain⟨o,e,_⟩:=rs.at aa;show H1 b≠none;rw[e];exact λz=>by cases z
def Om(f7:fv X.K c C ns)(aF:qG X o hA)(bC:ns[j]?=some f:=by rfl)(aa:jJ o f X.env (eval o X.env)=eval o X.env:=by rfl):cC X (.Attribute o f pos) (tJ c j hA):=
 d7 (o3 aF aa) λσ H Q ⟨au,E,O,F,ε,t,r,e,k⟩=>by
 simp only[tJ,cg] at e;obtain⟨s,es,os,eF,e⟩:=e;have:=Nt eF;subst this;split at e
 next ts az=>
  cases e
  refine⟨au,E,O,F,ε,_,r,es,λa aX H1 aR rs a7=>?_⟩
  obtain⟨bb,vs,hx,ax,hf⟩:=Qk f7 rs;obtain⟨v,bq,b,us,rfl,aa,e'⟩:=hf.get az;have VF:H b=none:=a7 b (by rw[iA ax];exact d6 _ (nS az bq (by simp[dM,g5])));refine⟨a,C,bb,_,_,rfl,hx,f7.cls,kz f7 bC,HF f7.a8 bC bq,?_⟩;have y:Ext F H (λd=>aX d\/d=b) H1:=⟨aR.same,λd z=>.inl (aR.sub d z),λd z=>by
   rcases z with z|rfl
   ·exact aR.new d z
   ·exact .inr VF,⟨λd z=>by
   rcases z with z|rfl
   ·exact aR.cf d z
   ·exact⟨_,aa⟩,aR.cf.pW⟩⟩
  refine k _ _ H1 y ?_
  simp only[Rep];exact⟨b,us,rfl,.inr rfl,.inl aa,e'.keep (λ_ _ z=>z) λ_ _ z w=>⟨.inl z,w⟩⟩
 next=>cases e
def ahq{d_ a b:bz}{hY:fm}{g h:bE}(ay:kd X d_ hY)(ax:cC X a g)(aa:cC X b h):cC X (.IfExp d_ a b pos) (om hY g h):=d7 (aeO ay ax aa) λσ H Q ⟨au,E,O,F,ε,t,r,e,k⟩=>by
 simp only[om,cg] at e;obtain⟨v,ev,e⟩:=e;refine⟨au,E,O,F,ε,v,r,ev,λaX H1 aR=>?_⟩;cases v with
|true=>exact aik ⟨au,E,O,aX,ε,t,r.ext aR,by simpa using e,λv aB af b4 q=>k v aB af (aR.trans b4) q⟩
|false=>exact u7 ⟨au,E,O,aX,ε,t,r.ext aR,by simpa using e,λv aB af b4 q=>k v aB af (aR.trans b4) q⟩
def iT(xs:List Str):List T:=xs.map .str
def Gs{xs:List Str}{a:ah}(hm:X.mg x=some (.ref a))(aI:∃(o:Obj) (its:Array aj) (n:Nat),X.K.lookup a=some o/\o.cls=.type "tuple"/\o.data=.seq its n/\its.size<=cp/\Vals (xs.map V.str) its.toList)(bG:fo X x:=by rfl)(hd:(x==("__debug__":Str))=false:=by decide):cC X (.Name x pos) (ai (.tuple (iT xs))):=
 tY (v:=.ref a) (PC (v:=.ref a) bG hm rfl hd) λF H=>by
  simp only[Rep];refine⟨a,xs.map V.str,rfl,.inr aI,?_⟩;unfold iT;clear hm aI bG hd
  induction xs with
  |nil=>exact bh.nil
  |cons y ys b9=>exact bh.cons (by simp[Rep]) b9
end
end
section
variable [cV]
open AutoSeq1 (wpAny_loadPart')
section
variable {X:bj}{a e o:bz}{f g:bE}{p pos apos:Pos}
def Pu(hm:X.mg "list"=none)(ax:ek X a f)(bG:fo X "list":=by rfl)(he:bS [a] X.env=(false,eval a X.env)::bS [] X.env:=by rfl)(hpl:(ee pos (bS [] X.env)).any (·.1)=false:=by rfl):
  qF X (.Call (.Name "list" p) [a] [] pos) (eH tV f):=d7 (HT acT bG hm (by decide +kernel) (k' ax mT he) (he:=he) (hpl:=hpl)) λσ H Q ⟨au,E,O,F,ε,ts,r,e,k⟩=>by
 simp only[eH,cg] at e;obtain⟨t,bx,e⟩:=e;refine⟨au,E,O,F,ε,t,r,bx,λv aX H1 aR aP=>?_⟩;have fin:∀(ws:List V),bh X.K aX H1 ts ws->∀l,H1 l=none->Q (.ref l) (upd H1 l (.lst ws)):=λws aC l av=>by
  have b4:=Ext.laid (o:=.lst ws) aR.cf av;refine k l ws aX _ (aR.trans b4) (aR.same.none av) (λz=>?_) dY (aC.ext b4);obtain⟨o,e⟩:=aR.cf l z;rw[av] at e;cases e
 unfold tV at e;split at e
 ·cases e
  obtain⟨nv,ws,rfl,av,aC⟩:=aP.tup;exact⟨nv,ws,rfl,.inr av,fin ws aC⟩
 ·cases e
  obtain⟨nv,ws,rfl,av,aC⟩:=aP.lst;exact⟨nv,ws,rfl,.inl (.inl av),fin ws aC⟩
 ·cases e
def adZ(ay:X.calm=true)(hm:X.mg "sorted"=none)(ax:ek X a f)(bG:fo X "sorted":=by rfl)(he:bS [a] X.env=(false,eval a X.env)::bS [] X.env:=by rfl)(hpl:(ee pos (bS [] X.env)).any (·.1)=false:=by rfl):
  qF X (.Call (.Name "sorted" p) [a] [] pos) (eH AH f):=d7 (Ii (acS ay) bG hm (by decide +kernel) (k' ax mT he) (he:=he) (hpl:=hpl)) λσ H Q ⟨au,E,O,F,ε,ts,r,e,k⟩=>by
 simp only[eH,cg] at e;obtain⟨t,bx,e⟩:=e;refine⟨au,E,O,F,ε,t,r,bx,λv aX H1 aR aP=>?_⟩;unfold AH at e;split at e
 next xs=>
  split at e
  next aq=>
   simp only[dX] at e;obtain⟨ss,D4,e⟩:=e;cases e;have WB:=HR D4;subst WB;obtain⟨nv,ws,rfl,av,aC⟩:=aP.lst;refine⟨nv,ss.map .inr,(jk ss).map V.str,rfl,?_,by simpa using aq,.inr ⟨ss,rfl,rfl⟩,λl pH=>?_⟩
   ·have aH:ws=(ss.map (Sum.inr:Str->bc.Key)).map d9:=by rw[HH aC];simp[d9,nF]
    rw[<- aH];exact .inl av
   ·have b4:=Ext.laid (o:=.lst ((jk ss).map V.str)) aR.cf pH;refine k l _ aX _ (aR.trans b4) (aR.same.none pH) (λz=>?_) dY (HS _);obtain⟨o,e⟩:=aR.cf l z;rw[pH] at e;cases e
  next=>cases e
 next=>cases e
end
def OE:entryFor table "list.remove.loop"=some Builtin.«list.remove.loop»:=entryFor_of_tree (by kernel_rfl)
def Az:plainId "list.remove.loop"=true:=by decide +kernel
def aft(l:ah)(its:Array aj)(n:Nat)(x:Str)(t:Tok)(j:Nat)(aq:its.size<=cp)(bC:j<its.size)(hit:∃u,its[j]=.str x u)(k:Nat):
  ∀i:Nat,j - i=k->i<=j->(∀(m:Nat) (hm:m<its.size),i<=m->m<j->∃y u,its[m]=.str y u/\y≠x)->Meets (Builtin.«list.remove.loop» ⟨[.ref l,.str x t,rawInt i],[]⟩)
   (λ_ R s=>s.heap.get? l=some {cls:=.type "list",data:=.seq its n}/\R (.ok (.ret .none)) {s with heap:=s.heap.update l (Obj.mapSeq λa=>a.eraseIdxIfInBounds j)}):=by
 induction k with
|zero=>
  intro i aI fk _ prog w A R s h;obtain⟨aL,g,d,tk,os⟩:=s;obtain⟨av,h⟩:=h;obtain rfl:i=j:=by omega
  obtain⟨u,b7⟩:=hit
  wp_walk using wpAny_loadPart' av
  rw[show its[((i:Nat):Int).toNat]?=some (.str x u) by simp[bC,b7]];refine aV (wpAny_eqBool_str ?_);rw[decide_eq_true rfl]
  wp_walk using wpAny_loadPart' av
  rw[show ((Obj.mapSeq (λz=>z.eraseIdxIfInBounds ((i:Nat):Int).toNat) {cls:=.type "list",data:=.seq its n}:Obj).data.pastItsLine)=none from
   pastItsLine_seq (by
    have:(its.eraseIdxIfInBounds ((i:Nat):Int).toNat).size<=its.size:=by
     unfold Array.eraseIdxIfInBounds;split
     ·rw[Array.size_eraseIdx];omega
     ·omega
    show (its.eraseIdxIfInBounds ((i:Nat):Int).toNat).size<=_
    omega)]
  wp_walk
  exact h
|succ k b9=>
  intro i aI fk sF prog w A R s h;obtain⟨aL,g,d,tk,os⟩:=s;obtain⟨av,h⟩:=h;have d2:i<its.size:=by omega
  obtain⟨y,u,bI,ne⟩:=sF i d2 (dD _) (by omega)
  wp_walk using wpAny_loadPart' av
  rw[show its[((i:Nat):Int).toNat]?=some (.str y u) by simp[d2,bI]];refine aV (wpAny_eqBool_str ?_);rw[decide_eq_false ne]
  wp_walk
  rw[show ((i:Int)+1)=((i+1:Nat):Int) by push_cast;rfl];exact⟨plainId_quiet Az _,ti OE (by
   rw[td Az _];exact b9 (i+1) (by omega) (by omega) (λm hm ab ak=>sF m hm (by omega) ak) prog w A R _ ⟨av,h⟩)⟩
def acM(l:ah)(its:Array aj)(n:Nat)(x:Str)(t:Tok)(j:Nat)(aq:its.size<=cp)(bC:j<its.size)(hit:∃u,its[j]=.str x u)(sF:∀(m:Nat) (hm:m<its.size),m<j->∃y u,its[m]=.str y u/\y≠x):
  Meets (Builtin.«list.remove» ⟨[.ref l,.str x t],[]⟩) (λ_ R s=>s.heap.get? l=some {cls:=.type "list",data:=.seq its n}/\R (.ok (.ret .none)) {s with heap:=s.heap.update l (Obj.mapSeq λa=>a.eraseIdxIfInBounds j)}):=by
 intro prog w A R s h;obtain⟨aL,g,d,tk,os⟩:=s;obtain⟨av,h⟩:=h
 wp_walk using wpAny_loadPart' av
 exact⟨plainId_quiet Az _,ti OE (by
  rw[td Az _];exact aft l its n x t j aq bC hit _ 0 rfl (ku _) (λm hm _ ak=>sF m hm ak) prog w A R _ ⟨av,h⟩)⟩
noncomputable def afu:V->List V->aw->c6->Prop:=λx vs H Q=>∃(l:ah) (ss:List Str) (y:Str),x=.ref l/\vs=[.str y]/\H l=some (.lst (ss.map V.str))/\y∈ss/\Q .fz (upd H l (.lst ((ss.erase y).map V.str)))
def OZ{ss:List Str}{its:List aj}(r:Vals (ss.map V.str) its){m:Nat}{y:Str}(h:ss[m]?=some y):∃u,its[m]?=some (.str y u):=by
 obtain⟨v,bq,bZ⟩:=r.get (i:=m) (x:=.str y) (by rw[ho,h];rfl);obtain⟨u,rfl⟩:=bZ;exact⟨u,bq⟩
theorem Ph{α:Type}[BEq α][LawfulBEq α]:∀{ss:List α} {y:α},y∈ss->∃j,ss[j]?=some y/\(∀m z,m<j->ss[m]?=some z->z≠y)/\ss.erase y=ss.eraseIdx j
| [],y,h=>by simp at h
|x::ss,y,h=>by
  by_cases e:x=y
  ·subst e;exact⟨0,rfl,λm z hm=>by omega,by simp⟩
  ·have h':y∈ss:=by
    rcases cM.mp h with z|z
    ·exact absurd z.symm e
    ·exact z
   obtain⟨j,ab,ak,bF⟩:=Ph h';refine⟨j+1,by simpa using ab,λm z hm aq=>?_,?_⟩
   ·cases m with
    |zero=>
     simp at aq;exact aq▸e
    |succ m=>exact ak m z (by omega) (by simpa using aq)
   ·rw[List.erase_cons_tail (by simpa using e),bF];rfl
theorem Na{α β:Type}(f:α->β):∀(l:List α) (j:Nat),(l.eraseIdx j).map f=(l.map f).eraseIdx j
| [],_=>rfl
|_::_,0=>rfl
|a::l,j+1=>by simp[Na f l j]
def ad6{X:bj}:Bv X "list.remove" afu:=by
 intro ag s σ H x vs v us Q I aU bZ h;obtain⟨l,ss,y,rfl,rfl,ig,bI,q⟩:=h;cases aU;obtain⟨u,rfl,dm⟩:=bZ.one;obtain⟨t,rfl⟩:=dm;obtain⟨z,its,n,r,av,e⟩:=I.LI ig;obtain⟨j,ab,ak,bF⟩:=Ph bI;obtain⟨w,hw⟩:=OZ r ab;have bC:j<its.length:=(ed.mp hw).1;refine call_meets F.slot_list_remove ⟨_,e,rfl⟩ F.entry_list_remove (F.args_list_remove_2 _ _) (acM l its.toArray n y t j (by rw[er];omega) (by rw[er];exact bC) ⟨w,?_⟩ λm hm Wc=>?_) ⟨e,?_⟩
 ·rw[h6 bC] at hw;simpa using hw
 ·rw[er] at hm;have K8:m<ss.length:=by rw[gc] at av;omega
  obtain⟨u,b7⟩:=OZ r (h6 K8);rw[h6 hm] at b7;exact⟨_,u,by simpa using b7,ak m _ Wc (h6 K8)⟩
 ·rw[bF] at q;have aS:(ss.eraseIdx j).map V.str=(ss.map V.str).eraseIdx j:=Na _ _ _;rw[aS] at q;refine⟨.fz,_,I.LH (t':=s.toks) (its':=its.eraseIdx j) ig e ?_ (r.eraseIdx j) (lW (Oy _ _) z),rfl,q⟩;unfold Array.eraseIdxIfInBounds;rw[dif_pos (by rw[er];exact bC)];simp
section
variable {X:bj}{c C i j:Nat}{ns:List Str}{f:Str}{o e:bz}{g:bE}{pos apos:Pos}
def ahg(k:fv X.K c C ns)(a7:bU X o (hJ i)){lx fI:Pos}(he:cC X e g)(bC:ns[j]?=some f:=by rfl)(aa:jJ o f X.env (eval o X.env)=eval o X.env:=by rfl)
  (q4:bS [e] X.env=(false,eval e X.env)::bS [] X.env:=by rfl)
  (oc:jJ (.Attribute o f apos) "remove" X.env (eval (.Attribute o f apos) X.env)=eval (.Attribute o f apos) X.env:=by rfl)
  (uT:((ee fI (bS [e] X.env)).all (λx=>!x.1) && (backToKw fI (nI [] X.env)).all (λx=>x.1.isSome)
   && decide (([e]:List bz).length+([]:List Keyword).length+(if ([]:List Keyword).isEmpty then 0 else 1)<30))=true:=by rfl)
  (og:(lx.endLine==fI.line)=true:=by rfl) (u0:(ee fI (bS [] X.env)).any (·.1)=false:=by rfl)
  (mx:iS (.Call (.Attribute (.Attribute o f apos) "remove" lx) [e] [] fI) none pos.line X.env=pure false:=by rfl):
  gA X (.Expr (.Call (.Attribute (.Attribute o f apos) "remove" lx) [e] [] fI) pos) (y6 c i j g):=
 fN (AU (QI PySem.F.plainAttrs_list PySem.F.slot_list_remove PySem.F.type_list_remove ad6 (o3 a7 aa) (k' he mT q4) oc uT og q4 u0) mx) λD σ H ⟨au,aQ,O,F,ε,o,r,e,bJ⟩=>by
 simp only[y6,cg] at e;obtain⟨t,bx,ts,gk,e⟩:=e;split at e
 next x ss D4=>
  split at e
  next hx=>
   simp only[dX] at e;obtain⟨ε',es,rfl⟩:=e;have Wu:=HR D4;subst Wu;obtain⟨m,ar,aF,az⟩:=OD gk;obtain⟨a,vs,bb,v,ab,D7,av,ax,bq,⟨b,us,dv,aa,e'⟩,_⟩:=mV k r aF az bC;subst dv;refine⟨_,ab,a,C,bb,_,_,rfl,D7,k.cls,kz k bC,av,.inl ⟨rfl,_,eU.of aa⟩,au,aQ,O,F,ε,_,r,bx,λv aX H1 aR aP=>?_⟩;have aO:=r.ext aR;have x8:hs H1 a c vs:=ax.keep ((aR.same.get D7).trans D7.symm);have ev:v=.str x:=by simpa [Rep] using aP
   subst ev;have hz:=HH e';subst hz;obtain⟨aD,a4⟩:=aO.yU (s':=.own ((ss.erase x).map .str)) (o':=.lst ((ss.erase x).map V.str)) aF ab x8 es az bq (by simp[dM,g5]) rfl λaD=>⟨b,_,rfl,dY,HS _⟩;exact⟨b,ss,x,rfl,rfl,aR.same.get aa,hx,bJ σ aX _ (aR.aD.trans aD) a4⟩
  next=>cases e
 next=>cases e
end
end
section
variable [cV]
open AutoSeq1 (wpAny_loadPart')
section
variable {prog:cF}{w:cv}{A:cY}{E:aj->aK->Prop}{s:aK}{T:String}{r d:ah}{n:Nat}{P:Nat->aj->Prop}{qB:bT->Prop}
def acg(W:PySem.W.KdlSrc prog w T r d n P qB)(a7:n<=cp)(o:Obj)(ay:o.cls=.type T):
  MeetsIn prog w (Builtin.«tuple.__new__» ⟨[.type "tuple",.ref r],[]⟩)
   (λA R s=>A.handled=none/\qB s.heap/\s.heap.get? r=some o/\∀(h':bT) (tk:Nat) (acc:Array aj),(∀b o,s.heap.get? b=some o->h'.get? b=some o)->s.heap.objs.size<=h'.objs.size->ItemsOf P acc n->R (.ok (.ret (.ref h'.objs.size))) {s with heap:=h'.push {cls:=.type "tuple",data:=.seq acc},toks:=tk}):=
 .of_wp λA R s h=>by
  obtain⟨aL,g,U6,tk,os⟩:=s;obtain⟨c4,b8,aF,h⟩:=h;have Le:=sub_tuple_self;have ahQ:=init_tuple_lookup;have ahZ:=madeHere_tuple;have eo:Shared.TypeIs ⟨aL,g,U6,tk,os⟩ (.ref r) T:=W.type _ b8;have hG:=W.notList;have f9:=W.notTuple
  wp_walk using wpAny_loadPart' aF,wpAny_typeOf eo,adg W (by simpa using c4) b8 a7
  intro h' zj acc aI hsz kR;show bp _ _ (rv acc.toList.toArray >>= λv=>ret v) _ _ _;unfold rv;have aq:acc.size<=cp:=by rw[kR.1];exact a7
  refine aV (oP ?_ (by show acc.toList.toArray.size<=cp;simpa using aq))
  refine cw ⟨_,rfl,?_⟩
  rw[show acc.toList.toArray=acc by simp];exact h h' zj acc aI hsz kR
def acr{Q:aj->aK->Prop}(W:PySem.W.KdlSrc prog w T r d n P qB)(a7:n<=cp){o:Obj}(ay:o.cls=.type T)(c4:A.handled=none)(b8:qB s.heap)(aF:s.heap.get? r=some o)
  (h:∀(h':bT) (tk:Nat) (acc:Array aj),(∀b o,s.heap.get? b=some o->h'.get? b=some o)->s.heap.objs.size<=h'.objs.size->ItemsOf P acc n->Q (.ref h'.objs.size) {s with heap:=h'.push {cls:=.type "tuple",data:=.seq acc},toks:=tk}):
  bp (bL prog w) A (call (.type "tuple") [.ref r]) Q E s:=
 callType_newIn F.called_tuple (by decide) (F.typeCall_tuple_1 _) (F.newCall_tuple_1 _) (λobj=>F.args_object_init_2 obj _) F.entry_tuple_new
  (acg W a7 o ay) ⟨by simpa using c4,b8,aF,λh' tk acc aI hsz kR=>⟨⟨_,g9 _ rfl,rfl⟩,h h' tk acc aI hsz kR⟩⟩
end
def Bc(p d:ah):dZ:=.ext λh=>h.IsValuesView p d
section
variable {X:bj}
def ad5:Bv X "dict.values" (λx vs H Q=>∃d kvs,x=.ref d/\vs=[]/\H d=some (.e6 kvs)/\∀p,H p=none->Q (.ref p) (upd H p (Bc p d))):=by
 intro ag s σ H x vs v us Q I aU bZ h;obtain⟨d,kvs,rfl,rfl,ig,q⟩:=h;cases aU;cases bZ;obtain⟨aq,Ld,ws,q0,hd⟩:=I.b8 d _ ig;refine call_meetsIn PySem.F.slot_dict_values hd.typeIs PySem.F.entry_dict_values (PySem.F.args_dict_values_1 _) (meets_dict_values (gM X.prog X.w) d Ld) ⟨⟨ws,hd⟩,?_⟩;have bq:(s.heap.push {cls:=.type "dict_values",data:=.fields #[.ref d]}).IsValuesView s.heap.objs.size d:=⟨_,g9 _ rfl,rfl,rfl⟩;refine⟨.ref s.heap.objs.size,upd H s.heap.objs.size (Bc s.heap.objs.size d),I.laid (t':=s.toks) (λb u e=>c2 _ e) (dD _) ⟨bq,⟨_,g9 _ rfl⟩,λab ak p k=>?_⟩,rfl,q _ I.fresh⟩;obtain⟨o,aF,r⟩:=p;exact⟨o,k o aF,r⟩
theorem Qm:∀{kvs:List (bc.Key×V)} {vs:List (bc.Key×aj)},gz kvs vs->Vals (kvs.map (·.2)) (vs.map (·.2))
|_,_,.nil=>.nil
|_,_,.cons a b=>.cons a.2 (Qm b)
def aci(ay:X.calm=true):lj X (.type "tuple") (λxs H Q=>∃p d kvs,xs=[.ref p]/\H p=some (Bc p d)/\H d=some (.e6 kvs)/\∀t,H t=none->Q (.ref t) (upd H t (.tup (kvs.map (·.2))))):=by
 intro ag s σ H xs us Q I r h;obtain⟨p,d,kvs,rfl,aL,bK,q⟩:=h;obtain⟨u,rfl,aU⟩:=vals1 r;cases aU;obtain⟨q6,Ld,vs,q0,hd⟩:=I.b8 d _ bK;obtain⟨ep,lI⟩:=hd.dictAt;have av:vs.length=kvs.length:=(Paired.length q0).symm;have bq:s.heap.IsValuesView p d:=(I.b8 p _ aL).1;obtain⟨o,aF,mv,ahP⟩:=id bq;refine acr (PySem.W.kdl_values (knd:=gM X.prog X.w) (kvs:=vs) (ep:=ep)) (by rw[av];exact q6) mv (I.ok.hd ay) ⟨bq,lI⟩ aF λh' tk acc aI hsz kR=>?_;have sI:(kvs.map (·.2)).length<=cp:=by rw[gc];exact q6
 have cK:acc.toList=vs.map (·.2):=by
  refine List.ext_getElem? λi=>?_
  rw[ho];by_cases aJ:i<acc.size
  ·obtain⟨k,aI⟩:=kR.2 i acc[i] (by simp[aJ]);rw[aI];simp[aJ]
  ·rw[List.getElem?_eq_none (by simpa using aJ),List.getElem?_eq_none (by rw[kR.1] at aJ;omega)];rfl
 have eo:(h'.push {cls:=.type "tuple",data:=.seq acc}).get? h'.objs.size=some {cls:=.type "tuple",data:=.seq acc}:=g9 _ rfl;refine⟨.ref h'.objs.size,_,HZ I (o:=.tup (kvs.map (·.2))) (d':=s.drawn) (λb u e=>c2 _ (aI b u e)) hsz ⟨sI,vs.map (·.2),Qm q0,⟨_,eo,rfl,0,by rw[<- cK]⟩⟩,rfl,q _ (I.b8.fresh hsz)⟩
variable {c C i j:Nat}{ns:List Str}{f:Str}{o:bz}{p pos apos lx fI:Pos}
theorem dW.snd{K:a_}{F:ah->Prop}{H:aw}:∀{ts:List (D.Key×T)} {vs:List (D.Key×V)},dW K F H ts vs->bh K F H (ts.map (·.2)) (vs.map (·.2))
| [],vs,h=>by
  have e:vs=[]:=h;subst e;exact bh.nil
|t::ts,vs,h=>by
  obtain⟨v,r,rfl,q,z⟩:=h;exact bh.cons q (dW.snd z)
def Pw(k:fv X.K c C ns)(ay:X.calm=true)(bg:X.mg "tuple"=none)(a7:bU X o (hJ i))(bC:ns[j]?=some f:=by rfl)(aa:jJ o f X.env (eval o X.env)=eval o X.env:=by rfl)
  (oc:jJ (.Attribute o f apos) "values" X.env (eval (.Attribute o f apos) X.env)=eval (.Attribute o f apos) X.env:=by rfl) (og:(lx.endLine==fI.line)=true:=by rfl) (bG:fo X "tuple":=by rfl)
  (he:bS [.Call (.Attribute (.Attribute o f apos) "values" lx) [] [] fI] X.env=(false,eval (.Call (.Attribute (.Attribute o f apos) "values" lx) [] [] fI) X.env)::bS [] X.env:=by rfl)
  (hpl:(ee pos (bS [] X.env)).any (·.1)=false:=by rfl):
  cC X (.Call (.Name "tuple" p) [.Call (.Attribute (.Attribute o f apos) "values" lx) [] [] fI] [] pos) (wY c i j):=
 d7 (HT (aci ay) bG bg (by decide +kernel) (k' (agC PySem.F.plainAttrs_dict PySem.F.slot_dict_values PySem.F.type_dict_values ad5 (o3 a7 aa) oc og) mT he) (he:=he) (hpl:=hpl)) λσ H Q ⟨au,E,O,F,ε,t,r,e,bJ⟩=>by
 simp only[wY,dX] at e;obtain⟨kvs,e7,rfl⟩:=e;obtain⟨m,ar,aF,az⟩:=AD e7;obtain⟨a,vs,bb,v,ab,hx,av,ax,bq,⟨b,us,dv,aa,e'⟩,_⟩:=mV k r aF az bC;subst dv;refine⟨_,ab,a,C,bb,_,_,rfl,hx,k.cls,kz k bC,av,.inr (.inr (.inl ⟨rfl,.inl ⟨_,aa⟩⟩)),b,us,rfl,rfl,aa,λp aL=>?_⟩;have aR:=Ext.laid (o:=Bc p b) r.cf aL;refine⟨p,b,us,rfl,dY,aR.same.get aa,λt bg=>?_⟩;have b4:=aR.trans (Ext.laid (o:=.tup (us.map (·.2))) aR.cf bg);refine bJ _ F _ b4 ?_;simp only[Rep];exact⟨t,_,rfl,df.of dY,(e'.snd).ext b4⟩
end
end
section
variable [cV]
open AutoSeq1 (wpAny_loadPart')
noncomputable def fq(h:bT)(z TI cx:ah)(f0 f1:aj):Prop:=h.get? z=some {cls:=.type "zip",dict:=none,data:=.fields #[f0,f1,.bool false,.ref TI,.ref cx],slots:=#[]}
section
variable {prog:cF}{w:cv}{A:cY}{E:aj->aK->Prop}{s:aK}{z TI cx cj cu b1 b_:ah}{k hG f9:Nat}{ah' sb:Nat->aj->Prop}{hR ib:Nat->bT->Prop}{a b f1:aj}
def aet{Q:aj->aK->Prop}(D:ZipApart z TI cx cj cu b1 b_)(iX:Draws prog w A cj [cj,b1] hG ah' hR)(ka:Draws prog w A cu [cu,b_] f9 sb ib)(aq:fq s.heap z TI cx .none f1)(hD:IsPair s.heap TI (.ref cj) (.ref cu))(jU:IsPair s.heap cx a b)
  (s1:hR k s.heap) (s2:ib k s.heap) (ab:k<hG) (ak:k<f9)
  (ij:∀h' x y tk,ah' k x->sb k y->fq h' z TI cx (rawInt s.heap.objs.size) (.bool false)->IsPair h' cx x y->hR (k+1) h'->ib (k+1) h'->IsPair h' s.heap.objs.size x y->h'.objs.size=s.heap.objs.size+1 ->
   (∀c o,c≠z->c≠cx->c≠cj->c≠cu->s.heap.get? c=some o->h'.get? c=some o)->Q (.ref s.heap.objs.size) {s with heap:=h',toks:=tk}):
  bp (bL prog w) A (Builtin.«zip.__next__» ⟨[.ref z],[]⟩) (λfin s'=>∃v,fin=.done (.ret v)/\Q v s') E s:=by
 unfold fq at aq;refine aV (m:=field (.ref z) 2) (ha aq rfl (x:=.bool false) rfl (aV (m:=field (.ref z) 3) (ha aq rfl (x:=.ref TI) rfl (aV (nJ hD rfl ?_)))));refine aV (m:=p2 (.ref z)) ?_;unfold p2;refine aV (ha aq rfl (x:=.none) rfl (cw ?_));simp only[if_true];refine aV (wpAny_rule (aV (ha aq rfl (x:=.ref cx) rfl (aV (rA aq (by simp) λe9 kT fi=>?_)))));replace kT:fq e9 z TI cx .ellipsis f1:=kT;refine aV ?_;simp only[List.zipIdx_cons,List.zipIdx_nil,List.forIn_cons,List.forIn_nil];have oB:hR k e9:=iX.frame k _ _ s1 λc ay o e=>by
  rcases cM.mp ay with rfl|ay
  ·exact fi.extBut _ _ D.i1z e
  ·rw[j3.mp ay] at e ⊢;exact fi.extBut _ _ D.l1z e
 refine aV (aV (wpAny_onRaise (aV (m:=kq (.ref cj)) (iX.item k _ _ _ ab oB λx i7 tk h2 t1 fS=>cw ?_))))
 have uM:IsPair i7 cx a b:=fS.extBut _ _ D.TOi1 (fi.extBut _ _ D.TOz jU);refine aV (nJ uM rfl (aV (wpAny_updateSeq_pair uM λhE x5 gW=>?_)));replace x5:IsPair hE cx x b:=x5;refine aV (wpAny_letGo (cw ?_));have hI:ib k hE:=ka.frame k _ _ s2 λc ay o e=>by
  rcases cM.mp ay with rfl|ay
  ·exact gW.extBut _ _ D.TOi2.symm (fS.extBut _ _ D.i12.symm (fi.extBut _ _ D.i2z e))
  ·rw[j3.mp ay] at e ⊢;exact gW.extBut _ _ D.l2TO (fS.extBut _ _ D.l2i1 (fi.extBut _ _ D.l2z e))
 refine aV (aV (wpAny_onRaise (aV (m:=kq (.ref cu)) (ka.item k _ _ _ ak hI λy u5 GU py mF n_=>cw ?_))))
 have KX:IsPair u5 cx x b:=n_.extBut _ _ D.TOi2 x5;refine aV (nJ KX rfl (aV (wpAny_updateSeq_pair KX λip x6 nf=>?_)));replace x6:IsPair ip cx x y:=x6;refine aV (wpAny_letGo (cw (cw (aV (nJ x6 rfl (aV (wpAny_newTuple ?_)))))));have ze:ip.objs.size=s.heap.objs.size:=by rw[nf.1,n_.1,gW.1,fS.1,fi.1]
 have Lp:fq ip z TI cx .ellipsis f1:=nf.extBut _ _ D.TOz.symm (n_.extBut _ _ D.i2z.symm (gW.extBut _ _ D.TOz.symm (fS.extBut _ _ D.i1z.symm kT)));have XP:∀c o,c≠z->c≠cx->c≠cj->c≠cu->s.heap.get? c=some o->ip.get? c=some o:=λc o dc dP e5 fH e=>nf.extBut _ _ dP (n_.extBut _ _ fH (gW.extBut _ _ dP (fS.extBut _ _ e5 (fi.extBut _ _ dc e))));have MG:hR (k+1) ip:=iX.frame _ _ _ t1 λc ay o e=>by
  rcases cM.mp ay with rfl|ay
  ·exact nf.extBut _ _ D.TOi1.symm (n_.extBut _ _ D.i12 (gW.extBut _ _ D.TOi1.symm e))
  ·rw[j3.mp ay] at e ⊢;exact nf.extBut _ _ D.l1TO (n_.extBut _ _ D.l1i2 (gW.extBut _ _ D.l1TO e))
 have zm:ib (k+1) ip:=ka.frame _ _ _ mF λc ay o e=>by
  rcases cM.mp ay with rfl|ay
  ·exact nf.extBut _ _ D.TOi2.symm e
  ·rw[j3.mp ay] at e ⊢;exact nf.extBut _ _ D.l2TO e
 have aij:z<ip.objs.size:=cP Lp;refine aV (m:=Builtin.SmallTypes.ownedTupleHandOut (.ref z) (.ref ip.objs.size)) ?_;unfold Builtin.SmallTypes.ownedTupleHandOut;have WK:fq (ip.push {cls:=.type "tuple",data:=.seq #[x,y]}) z TI cx .ellipsis f1:=c2 _ Lp;refine aV (rA WK (by simp) λWM D_ Dd=>?_);replace D_:fq WM z TI cx (rawInt ip.objs.size) f1:=D_;refine rA D_ (by simp) λu6 yi De=>?_;replace yi:fq u6 z TI cx (rawInt ip.objs.size) (.bool false):=yi;have up:∀c o,c≠z->ip.get? c=some o->u6.get? c=some o:=λc o dc e=>De.extBut _ _ dc (Dd.extBut _ _ dc (c2 _ e));have eo:IsPair u6 ip.objs.size x y:=De.extBut _ _ (g_ aij) (Dd.extBut _ _ (g_ aij) (g9 _ rfl));have Mu:u6.objs.size=ip.objs.size+1:=by rw[De.1,Dd.1,jF]
 rw[ze] at yi eo Mu;refine cw ⟨_,rfl,?_⟩;show Q (.ref ip.objs.size) _;rw[ze];refine ij u6 x y _ h2 py yi (up _ _ D.TOz x6) (iX.frame _ _ _ MG λc ay o e=>?_) (ka.frame _ _ _ zm λc ay o e=>?_) eo Mu λc o dc dP e5 fH e=>up c o dc (XP c o dc dP e5 fH e)
 ·refine up c o ?_ e
  rcases cM.mp ay with rfl|ay
  ·exact D.i1z
  ·rw[j3.mp ay];exact D.l1z
 ·refine up c o ?_ e
  rcases cM.mp ay with rfl|ay
  ·exact D.i2z
  ·rw[j3.mp ay];exact D.l2z
def aer{Q:Fin->aK->Prop}(D:ZipApart z TI cx cj cu b1 b_)(iX:Draws prog w A cj [cj,b1] hG ah' hR)(ka:Draws prog w A cu [cu,b_] f9 sb ib)(aq:fq s.heap z TI cx .none f1)(hD:IsPair s.heap TI (.ref cj) (.ref cu))(jU:IsPair s.heap cx a b)
  (s1:hR k s.heap) (s2:ib k s.heap) (aI:k=hG\/(k<hG/\k=f9))
  (mu:∀h' e tk,(∀c o,c≠z->c≠cx->c≠cj->c≠cu->s.heap.get? c=some o->h'.get? c=some o)->(∃o,h'.get? e=some o/\o.cls=.type "StopIteration")->E (.ref e) {s with heap:=h',toks:=tk}):
  bp (bL prog w) A (Builtin.«zip.__next__» ⟨[.ref z],[]⟩) Q E s:=by
 unfold fq at aq;refine aV (m:=field (.ref z) 2) (ha aq rfl (x:=.bool false) rfl (aV (m:=field (.ref z) 3) (ha aq rfl (x:=.ref TI) rfl (aV (nJ hD rfl ?_)))));refine aV (m:=p2 (.ref z)) ?_;unfold p2;refine aV (ha aq rfl (x:=.none) rfl (cw ?_));simp only[if_true];refine aV (wpAny_rule (aV (ha aq rfl (x:=.ref cx) rfl (aV (rA aq (by simp) λe9 kT fi=>?_)))));replace kT:fq e9 z TI cx .ellipsis f1:=kT;refine aV ?_;simp only[List.zipIdx_cons,List.zipIdx_nil,List.forIn_cons,List.forIn_nil];have oB:hR k e9:=iX.frame k _ _ s1 λc ay o e=>by
  rcases cM.mp ay with rfl|ay
  ·exact fi.extBut _ _ D.i1z e
  ·rw[j3.mp ay] at e ⊢;exact fi.extBut _ _ D.l1z e
 rcases aI with rfl|⟨ab,rfl⟩
 ·refine aV (aV (wpAny_onRaise (aV (m:=kq (.ref cj)) (iX.done _ _ _ oB λi7 e fS he=>?_))))
  obtain⟨Gd,q3,uP⟩:=he;have D8:fq i7 z TI cx .ellipsis f1:=fS _ _ D.i1z.symm kT;have ne:e≠z:=λq=>by
   subst q;unfold fq at D8;rw[D8] at q3;cases q3;simp at uP
  exact rA D8 (by simp) λhE _ gW=>mu hE e _ (λc o dc _ e5 _ q=>gW.extBut _ _ dc (fS _ _ e5 (fi.extBut _ _ dc q))) ⟨Gd,gW.extBut _ _ ne q3,uP⟩
 ·refine aV (aV (wpAny_onRaise (aV (m:=kq (.ref cj)) (iX.item k _ _ _ ab oB λx i7 tk h2 t1 fS=>cw ?_))))
  have uM:IsPair i7 cx a b:=fS.extBut _ _ D.TOi1 (fi.extBut _ _ D.TOz jU);refine aV (nJ uM rfl (aV (wpAny_updateSeq_pair uM λhE x5 gW=>?_)));refine aV (wpAny_letGo (cw ?_));have hI:ib k hE:=ka.frame k _ _ s2 λc ay o e=>by
   rcases cM.mp ay with rfl|ay
   ·exact gW.extBut _ _ D.TOi2.symm (fS.extBut _ _ D.i12.symm (fi.extBut _ _ D.i2z e))
   ·rw[j3.mp ay] at e ⊢;exact gW.extBut _ _ D.l2TO (fS.extBut _ _ D.l2i1 (fi.extBut _ _ D.l2z e))
  refine aV (aV (wpAny_onRaise (aV (m:=kq (.ref cu)) (ka.done _ _ _ hI λu5 e n_ he=>?_))))
  obtain⟨Gd,q3,uP⟩:=he;have D9:fq u5 z TI cx .ellipsis f1:=n_ _ _ D.i2z.symm (gW.extBut _ _ D.TOz.symm (fS.extBut _ _ D.i1z.symm kT));have ne:e≠z:=λq=>by
   subst q;unfold fq at D9;rw[D9] at q3;cases q3;simp at uP
  exact rA D9 (by simp) λip _ nf=>mu ip e _ (λc o dc dP e5 fH q=>nf.extBut _ _ dc (n_ _ _ fH (gW.extBut _ _ dP (fS.extBut _ _ e5 (fi.extBut _ _ dc q))))) ⟨Gd,nf.extBut _ _ ne q3,uP⟩
def afg{c:ah}{Q:Option Obj->aK->Prop}(h:Q (s.heap.get? c) s):bp (bL prog w) A (loadIfAlive c) Q E s:=λΓ p _=>by
 unfold loadIfAlive;rw[Sem.wp_loadIfAlive];simpa using h
def NZ{T:ah}{kk:Obj}{f:Bool}(aq:fq s.heap z TI cx (rawInt T) (.bool f))(eo:s.heap.get? T=some kk):
  bp (bL prog w) A (p2 (.ref z)) (λc s'=>c=false/\∃e9,s'={s with heap:=e9}/\fq e9 z TI cx (rawInt T) (.bool true)/\Heap.SameBut z s.heap e9) E s:=by
 unfold fq at aq;unfold p2;refine aV (ha aq rfl (x:=rawInt T) rfl ?_);refine aV (m:=loadIfAlive ((T:Nat):Int).toNat) (afg ?_);rw[Int.toNat_natCast,eo];simp only[Option.isNone_some,p3,if_false];refine aV (ha aq rfl (x:=.bool f) rfl ?_);cases f with
|true=>
  simp only[bne_self_eq_false,p3,if_false];exact cw ⟨rfl,s.heap,rfl,aq,Heap.SameBut.refl ..⟩
|false=>
  rw[if_pos (by decide)];exact aV (rA aq (by simp) λe9 kT fi=>cw ⟨rfl,e9,rfl,kT,fi⟩)
def aes{Q:aj->aK->Prop}{T:ah}{kk:Obj}{f:Bool}(D:ZipApart z TI cx cj cu b1 b_)(iX:Draws prog w A cj [cj,b1] hG ah' hR)(ka:Draws prog w A cu [cu,b_] f9 sb ib)(aq:fq s.heap z TI cx (rawInt T) (.bool f))(eo:s.heap.get? T=some kk)(hD:IsPair s.heap TI (.ref cj) (.ref cu))
  (s1:hR k s.heap) (s2:ib k s.heap) (ab:k<hG) (ak:k<f9)
  (ij:∀h' x y tk,ah' k x->sb k y->fq h' z TI cx (rawInt T) (.bool true)->hR (k+1) h'->ib (k+1) h'->IsPair h' s.heap.objs.size x y->h'.objs.size=s.heap.objs.size+1 ->
   (∀c o,c≠z->c≠cj->c≠cu->s.heap.get? c=some o->h'.get? c=some o)->Q (.ref s.heap.objs.size) {s with heap:=h',toks:=tk}):
  bp (bL prog w) A (Builtin.«zip.__next__» ⟨[.ref z],[]⟩) (λfin s'=>∃v,fin=.done (.ret v)/\Q v s') E s:=by
 have u4:=aq;unfold fq at aq;refine aV (m:=field (.ref z) 2) (ha aq rfl (x:=.bool false) rfl (aV (m:=field (.ref z) 3) (ha aq rfl (x:=.ref TI) rfl (aV (nJ hD rfl ?_)))));refine aV (m:=p2 (.ref z)) (fL (NZ u4 eo) (λc s' ⟨hU,e9,es,kT,fi⟩=>?_) λ_ _ q=>q);subst hU es;simp only[p3,if_false];refine aV ?_;rw[<- Array.forIn_toList];simp only[List.forIn_cons,List.forIn_nil];have oB:hR k e9:=iX.frame k _ _ s1 λc ay o e=>by
  rcases cM.mp ay with rfl|ay
  ·exact fi.extBut _ _ D.i1z e
  ·rw[j3.mp ay] at e ⊢;exact fi.extBut _ _ D.l1z e
 refine aV (aV (k4 (aV (m:=kq (.ref cj)) (iX.item k _ _ _ ab oB λx i7 tk h2 t1 fS=>cw (cw ?_)))))
 have hI:ib k i7:=ka.frame k _ _ s2 λc ay o e=>by
  rcases cM.mp ay with rfl|ay
  ·exact fS.extBut _ _ D.i12.symm (fi.extBut _ _ D.i2z e)
  ·rw[j3.mp ay] at e ⊢;exact fS.extBut _ _ D.l2i1 (fi.extBut _ _ D.l2z e)
 refine aV (aV (k4 (aV (m:=kq (.ref cu)) (ka.item k _ _ _ ak hI λy hE GU py mF gW=>cw (cw (cw ?_))))))
 refine aV (wpAny_newTuple (cw ⟨_,rfl,?_⟩) (by show 2<=cp;decide))
 have Mt:hE.objs.size=s.heap.objs.size:=by rw[gW.1,fS.1,fi.1]
 have abd:hR (k+1) hE:=iX.frame _ _ _ t1 λc ay o e=>by
  rcases cM.mp ay with rfl|ay
  ·exact gW.extBut _ _ D.i12 e
  ·rw[j3.mp ay] at e ⊢;exact gW.extBut _ _ D.l1i2 e
 have WJ:fq hE z TI cx (rawInt T) (.bool true):=gW.extBut _ _ D.i2z.symm (fS.extBut _ _ D.i1z.symm kT);have aL:(hE.push {cls:=.type "tuple",data:=.seq #[x,y]}).get? hE.objs.size=some _:=g9 _ rfl;show Q (.ref hE.objs.size) _;rw[Mt] at aL ⊢;refine ij (hE.push {cls:=.type "tuple",data:=.seq #[x,y]}) x y _ h2 py (c2 _ WJ) (iX.frame _ _ _ abd λc _ o e=>c2 _ e) (ka.frame _ _ _ mF λc _ o e=>c2 _ e) aL (by rw[jF,Mt])
  λc o dc e5 fH e=>c2 _ (gW.extBut _ _ fH (fS.extBut _ _ e5 (fi.extBut _ _ dc e)))
def acu{Q:Fin->aK->Prop}{T:ah}{kk:Obj}{f:Bool}(D:ZipApart z TI cx cj cu b1 b_)(iX:Draws prog w A cj [cj,b1] hG ah' hR)(ka:Draws prog w A cu [cu,b_] f9 sb ib)(aq:fq s.heap z TI cx (rawInt T) (.bool f))(eo:s.heap.get? T=some kk)(hD:IsPair s.heap TI (.ref cj) (.ref cu))
  (s1:hR k s.heap) (s2:ib k s.heap) (aI:k=hG\/(k<hG/\k=f9))
  (mu:∀h' e tk,(∀c o,c≠z->c≠cj->c≠cu->s.heap.get? c=some o->h'.get? c=some o)->(∃o,h'.get? e=some o/\o.cls=.type "StopIteration")->E (.ref e) {s with heap:=h',toks:=tk}):
  bp (bL prog w) A (Builtin.«zip.__next__» ⟨[.ref z],[]⟩) Q E s:=by
 have u4:=aq;unfold fq at aq;refine aV (m:=field (.ref z) 2) (ha aq rfl (x:=.bool false) rfl (aV (m:=field (.ref z) 3) (ha aq rfl (x:=.ref TI) rfl (aV (nJ hD rfl ?_)))));refine aV (m:=p2 (.ref z)) (fL (NZ u4 eo) (λc s' ⟨hU,e9,es,kT,fi⟩=>?_) λ_ _ q=>q);subst hU es;simp only[p3,if_false];refine aV ?_;rw[<- Array.forIn_toList];simp only[List.forIn_cons,List.forIn_nil];have oB:hR k e9:=iX.frame k _ _ s1 λc ay o e=>by
  rcases cM.mp ay with rfl|ay
  ·exact fi.extBut _ _ D.i1z e
  ·rw[j3.mp ay] at e ⊢;exact fi.extBut _ _ D.l1z e
 rcases aI with rfl|⟨ab,rfl⟩
 ·refine aV (aV (k4 (aV (m:=kq (.ref cj)) (iX.done _ _ _ oB λi7 e fS he=>?_))))
  exact mu i7 e _ (λc o dc e5 _ q=>fS _ _ e5 (fi.extBut _ _ dc q)) he
 ·refine aV (aV (k4 (aV (m:=kq (.ref cj)) (iX.item k _ _ _ ab oB λx i7 tk h2 t1 fS=>cw (cw ?_)))))
  have hI:ib k i7:=ka.frame k _ _ s2 λc ay o e=>by
   rcases cM.mp ay with rfl|ay
   ·exact fS.extBut _ _ D.i12.symm (fi.extBut _ _ D.i2z e)
   ·rw[j3.mp ay] at e ⊢;exact fS.extBut _ _ D.l2i1 (fi.extBut _ _ D.l2z e)
  refine aV (aV (k4 (aV (m:=kq (.ref cu)) (ka.done _ _ _ hI λhE e gW he=>?_))))
  exact mu hE e _ (λc o dc e5 fH q=>gW _ _ fH (fS.extBut _ _ e5 (fi.extBut _ _ dc q))) he
end
end
section
variable [cV]
open AutoSeq1 (wpAny_loadPart')
def WV(b:Bool):String:=if b then "list_iterator" else "tuple_iterator"
noncomputable def iq(b:Bool)(h:bT)(it l:ah)(i:Nat):Prop:=match b with
|true=>h.IsListIter it l i
|false=>h.IsTupleIter it l i
noncomputable def gr(b:Bool)(h:bT)(l:ah)(xs:Array aj):Prop:=match b with
|true=>h.IsList l xs
|false=>h.IsTuple l xs
theorem iq.at{b:Bool}{h h':bT}{it l:ah}{i:Nat}(x:iq b h it l i)(k:∀o,h.get? it=some o->h'.get? it=some o):iq b h' it l i:=by
 cases b with
|true=>exact Heap.IsListIter.at x k
|false=>
  obtain⟨o,aF,r⟩:=x;exact⟨o,k o aF,r⟩
def iq.obj{b:Bool}{h:bT}{it l:ah}{i:Nat}(x:iq b h it l i):∃o,h.get? it=some o/\∀v,o.data≠.cell v:=by
 cases b with
|true=>
  obtain⟨o,aF,ay,hd⟩:=x;exact⟨o,aF,λv z=>by rw[hd] at z;cases z⟩
|false=>
  obtain⟨o,aF,ay,hd⟩:=x;exact⟨o,aF,λv z=>by rw[hd] at z;cases z⟩
def gr.at{b:Bool}{h h':bT}{l:ah}{xs:Array aj}(x:gr b h l xs)(k:∀o,h.get? l=some o->h'.get? l=some o):gr b h' l xs:=by
 cases b with
|true=>
  obtain⟨o,aF,r⟩:=x;exact⟨o,k o aF,r⟩
|false=>
  obtain⟨o,aF,r⟩:=x;exact⟨o,k o aF,r⟩
def gr.lt{b:Bool}{h:bT}{l:ah}{xs:Array aj}(x:gr b h l xs):l<h.objs.size:=by
 cases b with
|true=>
  obtain⟨o,aF,r⟩:=x;exact cP aF
|false=>
  obtain⟨o,aF,r⟩:=x;exact cP aF
def qm{prog:cF}{w:cv}{A:cY}(b:Bool)(c4:A.handled=none)(it l:ah)(il:l≠it)(xs:Array aj):
  Draws prog w A it [it,l] xs.size (λi v=>xs[i]?=some v) (λi h=>iq b h it l i/\gr b h l xs):=by
 cases b with
|true=>exact Draws.list c4 it l il xs
|false=>exact NO c4 it l il xs
abbrev wU(b:Bool)(l:ah):Obj:={cls:=.type (WV b),data:=.fields #[.ref l,.int 0 0]}
abbrev adh(b6 cm:Bool)(h:bT)(b1 b_:ah):bT:=((h.push (wU b6 b1)).push (wU cm b_)).push {cls:=.type "tuple",data:=.seq #[.ref h.objs.size,.ref (h.objs.size+1)]}
abbrev O4(b6 cm:Bool)(h:bT)(b1 b_:ah):bT:=(adh b6 cm h b1 b_).push {cls:=.type "tuple",data:=.seq #[.none,.none]}
abbrev O5(b6 cm:Bool)(h:bT)(b1 b_:ah):bT:=(O4 b6 cm h b1 b_).push {cls:=.type "zip",data:=.fields #[.none,.bool false,.bool false,.ref (h.objs.size+2),.ref (h.objs.size+3)]}
section
variable {prog:cF}{w:cv}{A:cY}{E:aj->aK->Prop}{s:aK}
def Qn{b:Bool}{l:ah}{xs:Array aj}{Q:aj->aK->Prop}(av:gr b s.heap l xs)(h:Q (.ref s.heap.objs.size) {s with heap:=s.heap.push (wU b l)}):bp (bL prog w) A (pyIter (.ref l)) Q E s:=by
 cases b with
|true=>exact wpAny_pyIter_list av h
|false=>exact vM av h
def adw(b6 cm:Bool)(b1 b_:ah)(xs ys:Array aj):
  Meets (Builtin.«zip.__new__» ⟨[.type "zip",.ref b1,.ref b_],[]⟩) (λ_ R s=>gr b6 s.heap b1 xs/\gr cm s.heap b_ ys /\
   R (.ok (.ret (.ref (s.heap.objs.size+4)))) {s with heap:=O5 b6 cm s.heap b1 b_}):=
 .of_wp λprog w A R s h=>by
  obtain⟨aL,g,d,tk,os⟩:=s;obtain⟨ab,ak,h⟩:=h;have Le:=sub_zip;have c3:gr b6 (Shared.heap ⟨aL,g,d,tk,os⟩) b1 xs:=ab;have iL:gr cm (Shared.heap ⟨aL.push (wU b6 b1),g,d,tk,os⟩) b_ ys:=ak.at λo e=>c2 _ e
  wp_walk using Qn c3,Qn iL
  refine⟨_,rfl,?_⟩
  simp only[jF] at h ⊢;exact h
def aem{b6 cm:Bool}{b1 b_:ah}{xs ys:Array aj}{Q:aj->aK->Prop}(ab:gr b6 s.heap b1 xs)(ak:gr cm s.heap b_ ys)
  (h:∀h',fq h' (s.heap.objs.size+4) (s.heap.objs.size+2) (s.heap.objs.size+3) .none (.bool false)->IsPair h' (s.heap.objs.size+2) (.ref s.heap.objs.size) (.ref (s.heap.objs.size+1))->IsPair h' (s.heap.objs.size+3) .none .none ->
   iq b6 h' s.heap.objs.size b1 0->iq cm h' (s.heap.objs.size+1) b_ 0->h'.objs.size=s.heap.objs.size+5->(∀c o,s.heap.get? c=some o->h'.get? c=some o)->Q (.ref (s.heap.objs.size+4)) {s with heap:=h'}):
  bp (bL prog w) A (call (.type "zip") [.ref b1,.ref b_]) Q E s:=by
 have aJ:∀(b:Bool) (h':bT) (it l:ah),h'.get? it=some (wU b l)->iq b h' it l 0:=λb h' it l e=>by
  cases b with
  |true=>exact⟨_,e,rfl,rfl⟩
  |false=>exact⟨_,e,rfl,rfl⟩
 refine callType_new F.called_zip (by decide) (F.typeCall_zip_2 _ _) (F.newCall_zip_2 _ _) (λobj=>F.args_object_init_3 obj _ _) F.entry_zip_new (adw b6 cm b1 b_ xs ys) ⟨ab,ak,?_⟩
 have at_:∀(c4:bT) (n:Nat) (o o':Obj),c4.objs.size=n->o.isFreed=false->(c4.push o).get? n=some o:=λc4 n o o' e f=>by
  rw[<- e];exact g9 _ f
 have lE:(O5 b6 cm s.heap b1 b_).get? (s.heap.objs.size+4)=some _:=at_ (O4 b6 cm s.heap b1 b_) (s.heap.objs.size+4) _ default (by simp only[jF]) rfl;refine⟨⟨_,lE,rfl⟩,h _ lE ?_ ?_ ?_ ?_ (by simp only[jF]) λc o e=>c2 _ (c2 _ (c2 _ (c2 _ (c2 _ e))))⟩
 ·exact c2 _ (c2 _ (at_ _ _ _ default (by simp only[jF]) rfl))
 ·exact c2 _ (at_ _ _ _ default (by simp only[jF]) rfl)
 ·exact aJ b6 _ _ _ (c2 _ (c2 _ (c2 _ (c2 _ (g9 _ rfl)))))
 ·exact aJ cm _ _ _ (c2 _ (c2 _ (c2 _ (at_ _ _ _ default (by simp only[jF]) rfl))))
end
end
section
variable [cV]
def ac8:typeLookup (.type "zip") "keys"=pure none:=by rw[typeLookup_type,builtinLookup_eq_fast];kernel_rfl
def aco:typeLookup (.type "zip") "__getattr__"=pure none:=by rw[typeLookup_type,builtinLookup_eq_fast];kernel_rfl
def acN:entryFor table "zip.__getattribute__"=some Builtin.«object.__getattribute__»:=entryFor_alias (id':="object.__getattribute__") (by kernel_rfl) (by decide +kernel) (by decide +kernel) (by kernel_rfl)
def acn(a:ah)(vs:Array aj)(name:Str)(u:Tok)(ah0:typeLookup (.type "zip") name=pure none)(Wg:(["__module__","__name__","__qualname__","__doc__","__annotations__"]:List Str).contains name=false)(hsz:name.length+100<=cp):
  Meets (Builtin.«object.__getattribute__» ⟨[.ref a,.str name u],[]⟩) (λA R s=>s.heap.get? a=some {cls:=.type "zip",dict:=none,data:=.fields vs,slots:=#[]}/\raisesAttr (.ref a) name A R s):=
 Meets.of_wp λprog w A R s az=>by
  obtain⟨aL,g,d,tk,os⟩:=s;obtain⟨hx,az⟩:=az;have ty:(⟨aL,g,d,tk,os⟩:aK).TypeIs (.ref a) "zip":=⟨_,hx,rfl⟩;unfold Builtin.«object.__getattribute__»
  repeat (any_goals (first|assumption|wp_step))
  simp only[Wg,p3,if_false]
  repeat (any_goals (first|assumption|wp_step))
  exact wpAny_raiseAttrError az.1 az.2 (attrMsg_fits (by decide +kernel) hsz)
def aeX{prog:cF}{w:cv}{A:cY}{E:aj->aK->Prop}{s:aK}{a:ah}{vs:Array aj}{Q:Option aj->aK->Prop}
  (hx:s.heap.get? a=some {cls:=.type "zip",dict:=none,data:=.fields vs,slots:=#[]}) (n':A.handled=none)
  (h:∀h' tk,(∀b o,s.heap.get? b=some o->h'.get? b=some o)->Q none {s with heap:=h',toks:=tk}):
  bp (bL prog w) A (getAttr? (.ref a) "keys") Q E s:=by
 obtain⟨aL,g,d,tk,os⟩:=s;have ty:∀zj,(⟨aL,g,d,zj,os⟩:aK).TypeIs (.ref a) "zip":=λ_=>⟨_,hx,rfl⟩;have f1:=sub_AttributeError;have hW:=F.slot_zip_getattribute.lookup;have f4:=F.slot_zip_getattribute.bind (.ref a);have hX:=aco;have nm:(["__module__","__name__","__qualname__","__doc__","__annotations__"]:List Str).contains ("keys":Str)=false:=by decide +kernel
 have h3:("keys":Str).length+100<=cp:=by rw[mM];decide
 unfold getAttr? getAttrBy? getAttrBy
 repeat (any_goals (first|assumption|exact ty _|((with_reducible show bp _ _ (call (Value.builtin "zip.__getattribute__") _ _) _ _ _);refine call_meets F.slot_zip_getattribute (ty _) acN (F.args_zip_getattribute_2 _ _) (acn a vs "keys" _ ac8 nm h3) ⟨hx,n',λh' zj e jz=>?_⟩)|wp_step))
 obtain⟨t',vB,he⟩:=jz.there;show bp _ _ (getattributeRaised _ _ _ _ _ _ _) _ _ _;unfold getattributeRaised
 repeat (any_goals (first|assumption|wp_step))
 exact h _ _ jz.keeps
section
variable {prog:cF}{w:cv}{K:Type}[DecidableEq K]{knd:PySem.KeyKind prog w K}{A:cY}{E:aj->aK->Prop}{s:aK}{R:Result->aK->Prop}{z TI cx cj cu b1 b_:ah}{b6 cm:Bool}{xs ys:Array aj}
noncomputable def qv(S z TI cx cj cu b1 b_:ah)(b6 cm:Bool)(xs ys:Array aj)(i:Nat)(h:bT):Prop:=IsPair h TI (.ref cj) (.ref cu)/\(∃a b,IsPair h cx a b)/\(iq b6 h cj b1 i/\gr b6 h b1 xs)/\(iq cm h cu b_ i/\gr cm h b_ ys) /\
 (fq h z TI cx .none (.bool false)\/∃(T:Nat) (kk:Obj) (f:Bool),fq h z TI cx (rawInt T) (.bool f)/\h.get? T=some kk/\T≠S/\T≠z/\T≠cx/\T≠cj/\T≠cu)
noncomputable def Kept(S z cx cj cu:ah)(h h':bT):Prop:=∀c o,c≠S->c≠z->c≠cx->c≠cj->c≠cu->h.get? c=some o->h'.get? c=some o
def adi{S:ah}{i:Nat}{Q:Option aj->aK->Prop}(c4:A.handled=none)(D:ZipApart z TI cx cj cu b1 b_)(st:qv S z TI cx cj cu b1 b_ b6 cm xs ys i s.heap)(eP:∃o,s.heap.get? S=some o)(iM:S≠z/\S≠cx/\S≠cj/\S≠cu)
  (hx:i<xs.size) (bI:i<ys.size)
  (ij:∀h' tk,IsPair h' s.heap.objs.size xs[i] ys[i]->qv S z TI cx cj cu b1 b_ b6 cm xs ys (i+1) h'->(∀o,s.heap.get? S=some o->h'.get? S=some o)->Kept S z cx cj cu s.heap h'->s.heap.objs.size<=h'.objs.size->Q (some (.ref s.heap.objs.size)) {s with heap:=h',toks:=tk}):
  bp (bL prog w) A (pyNext (.ref z)) Q E s:=by
 obtain⟨hD,⟨a,b,jU⟩,aP,ba,aq⟩:=st;have aij:∀{f0 f1:aj},fq s.heap z TI cx f0 f1->z<s.heap.objs.size:=λh=>cP h;have eo:s.TypeIs (.ref z) "zip":=by
  rcases aq with h|⟨T,kk,f,h,_⟩
  ·exact⟨_,h,rfl⟩
  ·exact⟨_,h,rfl⟩
 have Lq:cj<s.heap.objs.size/\cu<s.heap.objs.size:=by
  obtain⟨cD,aH,_⟩:=aP.1.obj;obtain⟨dQ,aS,_⟩:=ba.1.obj;exact⟨cP aH,cP aS⟩
 have Sd:S<s.heap.objs.size:=by
  obtain⟨o,e⟩:=eP;exact cP e
 have Se:cx<s.heap.objs.size:=cP jU;unfold pyNext;refine aV (wpAny_attempt (p9 (name:=Str.ofString "__next__") eo F.slot_zip_next (oQ F.slot_zip_next eo F.entry_zip_next ?_ (F.args_zip_next_1 _))));rcases aq with aq|⟨T,kk,f,aq,x7,t1,mF,t3,vz,GN⟩
 ·refine aet (hR:=λi h=>iq b6 h cj b1 i/\gr b6 h b1 xs) (ib:=λi h=>iq cm h cu b_ i/\gr cm h b_ ys) D (qm (A:=A.in1) b6 c4 cj b1 D.l1i1 xs) (qm (A:=A.in1) cm c4 cu b_ D.l2i2 ys) aq hD jU aP ba hx bI λh' x y tk h2 py q6 Vw s1 s2 aL hsz aD=>cw ?_
  have ex:xs[i]=x:=eB ((tb hx).symm.trans h2);have fy:ys[i]=y:=eB ((tb bI).symm.trans py);subst ex fy;refine ij h' tk aL ⟨aD _ _ D.TIz D.TITO D.TIi1 D.TIi2 hD,⟨_,_,Vw⟩,s1,s2,.inr ⟨_,_,false,q6,aL,?_⟩⟩ (λo e=>aD _ _ iM.1 iM.2.1 iM.2.2.1 iM.2.2.2 e) (λc o _ dP e5 fH iG e=>aD c o dP e5 fH iG e) (by omega);exact⟨g_ Sd,g_ (aij aq),g_ Se,g_ Lq.1,g_ Lq.2⟩
 ·refine aes (hR:=λi h=>iq b6 h cj b1 i/\gr b6 h b1 xs) (ib:=λi h=>iq cm h cu b_ i/\gr cm h b_ ys) D (qm (A:=A.in1) b6 c4 cj b1 D.l1i1 xs) (qm (A:=A.in1) cm c4 cu b_ D.l2i2 ys) aq x7 hD aP ba hx bI λh' x y tk h2 py q6 s1 s2 aL hsz aD=>cw ?_
  have ex:xs[i]=x:=eB ((tb hx).symm.trans h2);have fy:ys[i]=y:=eB ((tb bI).symm.trans py);subst ex fy;exact ij h' tk aL ⟨aD _ _ D.TIz D.TIi1 D.TIi2 hD,⟨a,b,aD _ _ D.TOz D.TOi1 D.TOi2 jU⟩,s1,s2,.inr ⟨T,kk,true,q6,aD _ _ mF vz GN x7,t1,mF,t3,vz,GN⟩⟩ (λo e=>aD _ _ iM.1 iM.2.2.1 iM.2.2.2 e) (λc o _ dP e5 fH iG e=>aD c o dP fH iG e) (by omega)
def adj{S:ah}{i:Nat}{Q:Option aj->aK->Prop}(c4:A.handled=none)(D:ZipApart z TI cx cj cu b1 b_)(st:qv S z TI cx cj cu b1 b_ b6 cm xs ys i s.heap)(iM:S≠z/\S≠cx/\S≠cj/\S≠cu)(aJ:i=xs.size\/(i<xs.size/\i=ys.size))
  (ij:∀h' tk,(∀o,s.heap.get? S=some o->h'.get? S=some o)->Kept S z cx cj cu s.heap h'->Q none {s with heap:=h',toks:=tk}):
  bp (bL prog w) A (pyNext (.ref z)) Q E s:=by
 obtain⟨hD,⟨a,b,jU⟩,aP,ba,aq⟩:=st;have eo:s.TypeIs (.ref z) "zip":=by
  rcases aq with h|⟨T,kk,f,h,_⟩
  ·exact⟨_,h,rfl⟩
  ·exact⟨_,h,rfl⟩
 unfold pyNext;refine aV (wpAny_attempt (p9 (name:=Str.ofString "__next__") eo F.slot_zip_next (oQ F.slot_zip_next eo F.entry_zip_next ?_ (F.args_zip_next_1 _))));rcases aq with aq|⟨T,kk,f,aq,x7,t1,mF,t3,vz,GN⟩
 ·refine aer (hR:=λi h=>iq b6 h cj b1 i/\gr b6 h b1 xs) (ib:=λi h=>iq cm h cu b_ i/\gr cm h b_ ys) D (qm (A:=A.in1) b6 c4 cj b1 D.l1i1 xs) (qm (A:=A.in1) cm c4 cu b_ D.l2i2 ys) aq hD jU aP ba aJ λh' e tk aD he=>?_
  obtain⟨o,aF,ay⟩:=he;refine aV (wpAny_isInstance (T:="StopIteration") (b:=true) ⟨o,aF,ay⟩ isSubtype_stop (cw ?_));exact ij h' tk (λo e=>aD _ _ iM.1 iM.2.1 iM.2.2.1 iM.2.2.2 e) λc o _ dP e5 fH iG e=>aD c o dP e5 fH iG e
 ·refine acu (hR:=λi h=>iq b6 h cj b1 i/\gr b6 h b1 xs) (ib:=λi h=>iq cm h cu b_ i/\gr cm h b_ ys) D (qm (A:=A.in1) b6 c4 cj b1 D.l1i1 xs) (qm (A:=A.in1) cm c4 cu b_ D.l2i2 ys) aq x7 hD aP ba aJ λh' e tk aD he=>?_
  obtain⟨o,aF,ay⟩:=he;refine aV (wpAny_isInstance (T:="StopIteration") (b:=true) ⟨o,aF,ay⟩ isSubtype_stop (cw ?_));exact ij h' tk (λo e=>aD _ _ iM.1 iM.2.2.1 iM.2.2.2 e) λc o _ dP e5 fH iG e=>aD c o dP fH iG e
def qv.frame{S:ah}{i:Nat}{h h':bT}(st:qv S z TI cx cj cu b1 b_ b6 cm xs ys i h)(eP:∀c∈[z,TI,cx,cj,cu,b1,b_],S≠c)(k:∀c o,c≠S->h.get? c=some o->h'.get? c=some o):qv S z TI cx cj cu b1 b_ b6 cm xs ys i h':=by
 obtain⟨hD,⟨a,b,jU⟩,aP,ba,aq⟩:=st;have ne:∀c∈[z,TI,cx,cj,cu,b1,b_],c≠S:=λc ay=>(eP c ay).symm;refine⟨k _ _ (ne _ (by simp)) hD,⟨a,b,k _ _ (ne _ (by simp)) jU⟩,⟨aP.1.at λo e=>k _ _ (ne _ (by simp)) e,aP.2.at λo e=>k _ _ (ne _ (by simp)) e⟩,⟨ba.1.at λo e=>k _ _ (ne _ (by simp)) e,ba.2.at λo e=>k _ _ (ne _ (by simp)) e⟩,?_⟩;rcases aq with aq|⟨T,kk,f,aq,eo,t⟩
 ·exact .inl (k _ _ (ne z (by simp)) aq)
 ·exact .inr ⟨T,kk,f,k _ _ (ne z (by simp)) aq,k _ _ t.1 eo,t⟩
def acR(c4:A.handled=none)(D:ZipApart z TI cx cj cu b1 b_)(S:ah)(eP:∀c∈[z,TI,cx,cj,cu,b1,b_],S≠c)(kvs:List (K×aj))(sE:(kvs.map (·.1)).Nodup)(hlen:kvs.length=min xs.size ys.size)(aq:kvs.length<=cp)
  (q0:∀(j:Nat) (dz:K×aj),kvs[j]?=some dz->∃key,xs[j]?=some key/\knd.is dz.1 key=true/\ys[j]?=some dz.2):
  ∀(k i:Nat) (s:aK) (c:Int) (d_:Tok),kvs.length - i=k->i<=kvs.length->qv S z TI cx cj cu b1 b_ b6 cm xs ys i s.heap->s.heap.DictOf knd S (kvs.take i) ->
   (∀h' tk,Kept S z cx cj cu s.heap h'->h'.DictOf knd S kvs->R (.ok (.ret .none)) {s with heap:=h',toks:=tk}) ->
   codeAny (bL prog w) A (.builtin "dict.update.loop" ⟨[.ref S,.ref z,.int c d_,.none],[]⟩) R s:=by
 have iM:S≠z/\S≠cx/\S≠cj/\S≠cu:=⟨eP _ (by simp),eP _ (by simp),eP _ (by simp),eP _ (by simp)⟩;intro k
 induction k with
|zero=>
  intro i s c d_ aI aJ jW hd qW;have yc:i=kvs.length:=by omega
  subst yc;refine ti OF ?_;rw[td AA _];refine aV (m:=pyNext (.ref z)) (adj (A:=A.in1) c4 D jW iM (by omega) λh' tk Dx aD=>?_);refine aV (m:=Builtin.Dict.addKeywords S []) (cw ?_);rw[List.take_of_length_le (dD _)] at hd;exact cw (qW h' tk aD (hd.at λo e=>Dx o e))
|succ k b9=>
  intro i s c d_ aI aJ jW hd qW;have d2:i<kvs.length:=by omega
  have hx:i<xs.size:=by omega
  have bI:i<ys.size:=by omega
  have Vu:∃o,s.heap.get? S=some o:=by
   obtain⟨o,_,_,e,_⟩:=hd;exact⟨o,e⟩
  refine ti OF ?_
  rw[td AA _];refine aV (m:=pyNext (.ref z)) (adi (A:=A.in1) c4 D jW Vu iM hx bI λh' tk aL mC Dx aD hsz=>?_);have K3:kvs[i]?=some kvs[i]:=h6 d2;obtain⟨key,aH,aS,fJ⟩:=q0 i _ K3;have ex:xs[i]=key:=eB ((tb hx).symm.trans aH);have fy:ys[i]=kvs[i].2:=eB ((tb bI).symm.trans fJ);rw[ex,fy] at aL;refine aV (k4 (aV (wpAny_tryCatch (pair_items (s:={s with heap:=h',toks:=tk}) aL rfl rfl ?_))));have VM:h'.DictOf knd S (kvs.take i):=hd.at λo e=>Dx o e;refine k4 (wpAny_dictSet_pairs (s:={s with heap:=h',toks:=tk}) aS VM (λak hd2 Lc=>?_) (by rw[List.length_take];omega));have oh:kvs[i].1∉(kvs.take i).map (·.1):=λq=>by
   rw[<- List.take_append_drop i kvs,List.map_append,oJ] at sE;refine sE.2.2 _ q _ (et.mpr ⟨kvs[i],?_,rfl⟩) rfl;rw[List.drop_eq_getElem_cons d2];exact fA
  rw[stored_new oh,show kvs.take i++[(kvs[i].1,kvs[i].2)]=kvs.take (i+1) by rw[List.take_succ,K3];rfl] at hd2;refine cw ⟨plainId_quiet AA _,b9 (i+1) _ _ _ (by omega) d2 (mC.frame eP λc o ay e=>?_) hd2 λbF abI pL DF=>qW bF abI (λc o dc dP e5 fH iG e=>pL c o dc dP e5 fH iG ?_) DF⟩
  ·exact (Lc.2 c ay).trans e
  ·exact (Lc.2 c dc).trans (aD c o dc dP e5 fH iG e)
def adM{kvs:List (K×aj)}{Q:aj->aK->Prop}(c4:A.handled=none)(D:ZipApart z TI cx cj cu b1 b_)(st:qv s.heap.objs.size z TI cx cj cu b1 b_ b6 cm xs ys 0 s.heap)(aq:fq s.heap z TI cx .none (.bool false))(sE:(kvs.map (·.1)).Nodup)(hlen:kvs.length=min xs.size ys.size)(hsz:kvs.length<=cp)
  (q0:∀(j:Nat) (dz:K×aj),kvs[j]?=some dz->∃key,xs[j]?=some key/\knd.is dz.1 key=true/\ys[j]?=some dz.2)
  (h:∀(h':bT) (tk:Nat),h'.DictOf knd s.heap.objs.size kvs->(∀c o,c≠z->c≠cx->c≠cj->c≠cu->s.heap.get? c=some o->h'.get? c=some o)->Q (.ref s.heap.objs.size) {s with heap:=h',toks:=tk}):
  bp (bL prog w) A (call (.type "dict") [.ref z]) Q E s:=by
 obtain⟨hD,⟨a,b,jU⟩,aP,ba,_⟩:=id st;have aij:z<s.heap.objs.size:=cP aq;have eP:∀c∈[z,TI,cx,cj,cu,b1,b_],s.heap.objs.size≠c:=by
  obtain⟨cD,aH,_⟩:=aP.1.obj;obtain⟨dQ,aS,_⟩:=ba.1.obj;have a1:=cP hD;have a2:=cP jU;have i2:=cP aH;have uj:=cP aS;have uk:=aP.2.lt;have um:=ba.2.lt;intro c ay;simp only[cM,mL,or_false] at ay;rcases ay with rfl|rfl|rfl|rfl|rfl|rfl|rfl
  ·exact g_ aij
  ·exact g_ a1
  ·exact g_ a2
  ·exact g_ i2
  ·exact g_ uj
  ·exact g_ uk
  ·exact g_ um
 refine callType_codes (Q₁:=λobj dd=>obj=.ref s.heap.objs.size/\dd={s with heap:=s.heap.push {cls:=.type "dict",data:=.dict #[]} }) F.kt_called_dict (F.kt_typeCall_dict_1 _) F.entry_dict_init (kt_code_dict_new _ ⟨rfl,rfl⟩) ?_
 rintro obj dd ⟨rfl,rfl⟩;have C4:(s.heap.push {cls:=.type "dict",data:=.dict #[]}).DictOf knd s.heap.objs.size []:=Heap.DictOf.new s.heap;have q7:fq (s.heap.push {cls:=.type "dict",data:=.dict #[]}) z TI cx .none (.bool false):=c2 _ aq;refine⟨C4.typeIs,F.args_dict_init_2 _ _,?_⟩;unfold Builtin.«dict.__init__»;refine aV ?_;unfold Builtin.Dict.selfAndRest;refine aV (wpAny_notOrdered_dict C4.typeIs ?_);show bp _ _ (pure (s.heap.objs.size,[Value.ref z])) _ _ _;refine cw ?_;show bp _ _ (Builtin.Dict.updateFrom "dict.__init__" s.heap.objs.size (.ref z) [] .none) _ _ _;unfold Builtin.Dict.updateFrom;refine aV (wpAny_typeOf (show Shared.TypeIs _ (.ref z) "zip" from ⟨_,q7,rfl⟩) ?_);rw[if_pos (by decide)];refine aV (aeX q7 (by simp[c4]) λak GU dN=>?_);have sI:IsZip ak z TI cx .none:=dN _ _ q7;simp only[Option.isNone_none,if_true];refine aV (wpAny_rule (aV (wpAny_pyIter_zip (s:={s with heap:=ak,toks:=GU}) sI (cw ⟨plainId_quiet AA _,?_⟩))));have aD:∀c o,s.heap.get? c=some o->ak.get? c=some o:=λc o e=>dN _ _ (c2 _ e);refine acR (knd:=knd) (by simp[c4]) D s.heap.objs.size eP kvs sE hlen hsz q0 (kvs.length - 0) 0 _ 0 _ (by omega) (ku _) (st.frame eP λc o _ e=>aD c o e) (by simpa using C4.at λo e=>dN _ _ e) λh' tk pL DF=>⟨rfl,h h' tk DF λc o dP e5 fH iG e=>?_⟩;exact pL c o (eL (cP e)) dP e5 fH iG (aD c o e)
end
end
section
variable [cV]
def acW{n b1 b_:Nat}(ab:b1<n)(ak:b_<n):ZipApart (n+4) (n+2) (n+3) n (n+1) b1 b_:=by constructor <;> (show (_:Nat)≠_) <;> omega
section
variable {X:bj}{a b:bz}{f g:bE}{p fK pos lO:Pos}
noncomputable def jo:List bc.Key->List V->List (bc.Key×V)
|k::bf,v::vs=>(k,v)::jo bf vs
|_,_=>[]
theorem OU:∀(bf:List bc.Key) (vs:List V),(jo bf vs).length=min bf.length vs.length
| [],vs=>by simp[jo]
|k::bf,[]=>by simp[jo]
|k::bf,v::vs=>by simp only[jo,gK,OU bf vs];omega
theorem Iq:∀{bf:List bc.Key} {vs:List V} {us:List aj},Vals vs us->gz (jo bf vs) ((bf.zip us))
| [],vs,us,_=>by
  rw[show jo [] vs=[] from rfl,List.zip_nil_left];exact .nil
|k::bf,_,_,.nil=>.nil
|k::bf,_,_,.cons r t=>.cons ⟨rfl,r⟩ (Iq t)
def adQ(X:bj){bf:List bc.Key}{us:List aj}{xs:List aj}(hx:Vals (bf.map d9) xs)(j:Nat)(dz:bc.Key×aj)(h:(bf.zip us)[j]?=some dz):∃key,xs.toArray[j]?=some key/\qs dz.1 key=true/\us.toArray[j]?=some dz.2:=by
 rw[List.getElem?_zip_eq_some] at h;obtain⟨ab,ak⟩:=h;obtain⟨u,b7,dm⟩:=hx.get (i:=j) (x:=d9 dz.1) (by rw[ho,ab];rfl);refine⟨u,by simpa using b7,Bh (P:=X.prog) (w:=X.w) dm,by simpa using ak⟩
noncomputable def ag6(K:a_)(cq:fY):TE:=λσ H Q=>cq σ H λvs H1=>∃b1 b_ bf ys,vs=[.ref b1,.ref b_]/\eU K H1 b1 (bf.map d9)/\df K H1 b_ ys/\((jo bf ys).map (·.1)).Nodup/\(jo bf ys).length<=1000/\∀q,H1 q=none->Q (.ref q) (upd H1 q (.e6 (jo bf ys)))
def adu{cq:fY}(ay:X.calm=true)(hd:X.mg "dict"=none)(aq:X.mg "zip"=none)(ax:ia X [a,b] cq)(bG:fo X "dict")(DM:fo X "zip")(kf:bS [a,b] X.env=(false,eval a X.env)::bS [b] X.env)(D0:(ee lO (bS [b] X.env)).any (·.1)=false)
  (he:bS [.Call (.Name "zip" fK) [a,b] [] lO] X.env=(false,eval (.Call (.Name "zip" fK) [a,b] [] lO) X.env)::bS [] X.env) (hpl:(ee pos (bS [] X.env)).any (·.1)=false):
  bU X (.Call (.Name "dict" p) [.Call (.Name "zip" fK) [a,b] [] lO] [] pos) (ag6 X.K cq):=by
 intro ag s σ H Q I h;refine th (r1 I bG hd PyProof.Rows.boot_dict ?_);refine tc ?_ he hpl;rw[he];show bp _ _ (spliced ((false,eval (.Call (.Name "zip" fK) [a,b] [] lO) X.env)::ee pos (bS [] X.env))) _ _ s;refine Calls.spliced_cons (th (r1 I DM aq PyProof.Rows.boot_zip (tc (ct (ax lO ag s σ H _ I h) λus s1 ⟨vs,H1,bk,aO,aP⟩=>?_) kf D0)));obtain⟨b1,b_,bf,ys,rfl,u2,yg,sE,hle,q⟩:=aP;obtain⟨MG,zm,rfl,aH,aS⟩:=aO.two;cases aH;cases aS;obtain⟨its,bZ,pl,q7⟩:=bk.list u2;obtain⟨lK,GC,ZZ,sI⟩:=bk.tuple yg;have eQ:gr true s1.heap b1 its.toArray:=pl.isList;have dN:gr false s1.heap b_ lK.toArray:=ZZ;refine aem eQ dN λh' Ln hD jU DN sD hsz aI=>Calls.spliced_nil ?_;have pH:bf.length=its.length:=by have:=bZ.length;simpa using this
 have yd:ys.length=lK.length:=GC.length;have hlen:(bf.zip lK).length=(jo bf ys).length:=by rw[OU,List.length_zip,yd]
 have V6:(bf.zip lK).map (·.1)=(jo bf ys).map (·.1):=(PG (Iq GC)).symm;have big:=bk.big;have ze:h'.objs.size=s1.heap.objs.size+5:=hsz;refine adM (knd:=gM X.prog X.w) (kvs:=bf.zip lK) (s:={s1 with heap:=h'}) (bk.ok.hd ay) (acW eQ.lt dN.lt) ⟨hD,⟨_,_,jU⟩,⟨DN,eQ.at λo e=>aI _ o e⟩,⟨sD,dN.at λo e=>aI _ o e⟩,.inl Ln⟩ Ln (by rw[V6];exact sE) (by rw[List.length_zip,er,er,pH]) (by rw[hlen,mM];omega) (λj dz e=>adQ X bZ j dz e) λak tk hd2 pK=>?_;have keep:∀c o,s1.heap.get? c=some o->ak.get? c=some o:=λc o e=>by
  have ay:c<s1.heap.objs.size:=cP e;have ne:∀m:Nat,c≠s1.heap.objs.size+m:=λm=>eL (jd ay (Nat.le_add_right _ m));exact pK c o (ne 4) (ne 3) (ne 0) (ne 1) (aI c o e)
 have FK:s1.heap.objs.size<=h'.objs.size:=by rw[ze];exact Nat.le_add_right _ _
 refine⟨.ref h'.objs.size,_,HZ (s:=s1) bk (o:=.e6 (jo bf ys)) (d':=s1.drawn) (t':=tk) keep FK ⟨by rw[mM];omega,?_,bf.zip lK,Iq GC,hd2⟩,rfl,q _ (bk.b8.fresh FK)⟩
 rw[beq_eq_false_iff_ne];exact g_ (jd big FK)
variable {c C i j:Nat}{ns:List Str}{fn:Str}{o:bz}{apos:Pos}
theorem OV{K:a_}{F:ah->Prop}{H:aw}:∀{lk lv:List T} {kvs:List (D.Key×T)} {ws ys:List V},qw lk lv=some kvs->bh K F H lk ws->bh K F H lv ys->(∀t∈lk,∃k,keyOf t=some k)->∃bf:List bc.Key,ws=bf.map d9/\dW K F H kvs (jo bf ys)/\(jo bf ys).map (·.1)=kvs.map (·.1)
| [],lv,kvs,ws,ys,e,ab,ak,_=>by
  cases e
  simp only[bh] at ab;subst ab;exact⟨[],rfl,rfl,rfl⟩
|t::lk,[],kvs,ws,ys,e,ab,ak,ax=>by
  cases e
  simp only[bh] at ab ak;subst ak;obtain⟨v,r,rfl,q,z⟩:=ab;obtain⟨k,aI⟩:=ax t (by simp);have bq:v=d9 k:=rR (O:=λ_=>False) aI (.inl q);have key:∀{lk:List T} {r:List V},bh K F H lk r->(∀t∈lk,∃k,keyOf t=some k)->∃bf:List bc.Key,r=bf.map d9:=by
   intro lk
   induction lk with
   |nil=>
    intro r h _;simp only[bh] at h;exact⟨[],h⟩
   |cons t lk b9=>
    intro r h ax;simp only[bh] at h;obtain⟨v,bR,rfl,q,z⟩:=h;obtain⟨k,aI⟩:=ax t (by simp);obtain⟨bf,rfl⟩:=b9 z λu b7=>ax u (d6 _ b7);exact⟨k::bf,by rw[rR (O:=λ_=>False) aI (.inl q)];rfl⟩
  obtain⟨bf,rfl⟩:=key z λu b7=>ax u (d6 _ b7);exact⟨k::bf,by rw[bq];rfl,rfl,rfl⟩
|t::lk,u::lv,kvs,ws,ys,e,ab,ak,ax=>by
  simp only[qw,cg,dX] at e;obtain⟨k,aI,r,fs,rfl⟩:=e;simp only[bh] at ab ak;obtain⟨v,aO,rfl,aP,tq⟩:=ab;obtain⟨w,a4,rfl,ba,h8⟩:=ak;obtain⟨bf,rfl,iO,y5⟩:=OV fs tq h8 λu b7=>ax u (d6 _ b7);exact⟨k::bf,by rw[rR (O:=λ_=>False) aI (.inl aP)];rfl,⟨w,_,rfl,ba,iO⟩,by simp[jo,y5]⟩
def Pq(k:fv X.K c C ns)(ay:X.calm=true)(hd:X.mg "dict"=none)(aq:X.mg "zip"=none)(a7:bU X o (hJ i))(ax:ek X a f)(aa:ek X b g){C6:Pos}(bC:ns[j]?=some fn:=by rfl)(bG:fo X "dict":=by rfl)(DM:fo X "zip":=by rfl)
  (kf:bS [a,b] X.env=(false,eval a X.env)::bS [b] X.env:=by rfl) (VO:bS [b] X.env=(false,eval b X.env)::bS [] X.env:=by rfl) (D0:(ee lO (bS [b] X.env)).any (·.1)=false:=by rfl)
  (he:bS [.Call (.Name "zip" fK) [a,b] [] lO] X.env=(false,eval (.Call (.Name "zip" fK) [a,b] [] lO) X.env)::bS [] X.env:=by rfl) (hpl:(ee C6 (bS [] X.env)).any (·.1)=false:=by rfl)
  (az:iS (.Call (.Name "dict" p) [.Call (.Name "zip" fK) [a,b] [] lO] [] C6) (some (.Attribute o fn apos)) pos.line X.env=pure false:=by rfl):
  gA X (.Assign [.Attribute o fn apos] (.Call (.Name "dict" p) [.Call (.Name "zip" fK) [a,b] [] lO] [] C6) pos) (aii c i j f g):=
 fN (IX a7 (adu ay hd aq (k' ax (k' aa mT VO) kf) bG DM kf D0 he hpl) az) λD σ H ⟨au,E,O,F,ε,o,r,e,bJ⟩=>by
 simp only[aii,cg] at e;obtain⟨tk,Va,h4,Vb,e⟩:=e;split at e
 next lk lv=>
  simp only[cg] at e;obtain⟨kvs,uF,e⟩:=e;split at e
  next x'=>
   simp only[dX] at e;obtain⟨ε',es,rfl⟩:=e;refine⟨au,E,O,F,ε,_,r,Va,λv1 aX H1 aR aP=>⟨au,E,O,aX,ε,_,r.ext aR,Vb,λv2 dR a' b4 ba=>?_⟩⟩;obtain⟨b1,ws,rfl,pH,sH⟩:=(aP.ext b4).lst;obtain⟨b_,ys,rfl,yd,Wn⟩:=ba.tup;obtain⟨bf,rfl,iO,y5⟩:=OV uF sH Wn λt bg=>Option.isSome_iff_exists.mp (x'.2.2 t bg);have oF:=aR.trans b4;refine⟨b1,b_,bf,ys,rfl,.inl pH,yd,by rw[y5];exact x'.1,by have:=congrArg List.length y5;simp only[gc] at this;omega,λq bK=>?_⟩;have d5:=Ext.laid (o:=.e6 (jo bf ys)) oF.cf bK;have oG:=oF.trans d5;have aO:=r.ext oG;have oh:H q=none:=oF.same.none bK;have gZ:¬dR q:=λz=>by
    obtain⟨o,e⟩:=oF.cf q z;rw[bK] at e;cases e
   have ie:=es;unfold gJ at ie;simp only[cg] at ie;obtain⟨⟨m,ar⟩,aF,_⟩:=ie;obtain⟨S',vs,bb,ab,hx,av,ax,_⟩:=mU k aO aF;have hold:=Pd r oG oh;obtain⟨aD,a4⟩:=aO.zc (s:=.f3 kvs) (v:=.ref q) k aF ab ax es ⟨q,_,rfl,dY,dW.aD d5.aD iO⟩ (λd hd=>by
    have:d=q:=by simpa [dM,g5] using hd
    subst this;exact⟨gZ,r.fr _ oh,hold i _ _ (mP aF) ab,λk u w _ fQ _ aI=>hold k u w fQ aI⟩) hx bC
   refine⟨_,ab,S',C,bb,_,rfl,hx,k.cls,kz k bC,?_,bJ σ dR _ (oG.aD.trans aD) a4⟩
   have:=k.x2;simp only[List.length_zip];omega
  next=>cases e
 next=>cases e
end
end
section
variable [cV]
open AutoSeq1 (wpAny_loadPart')
noncomputable def vk:T->T->Option T
|.tuple xs,.int k=>if 2<=k/\k<1000/\xs≠[]/\xs.length*k.toNat<=big then some (.tuple (dU k.toNat xs).flatten) else none
|.list xs,.int k=>if 0<=k/\k<1000/\xs.length*k.toNat<=big then some (.list (dU k.toNat xs).flatten) else none
|_,_=>none
def ab9:fillsNumberSlot (.type "tuple") "mul"=pure false:=
 PySem.fillsNumberSlot_seq (id:="tuple.__mul__") (r:=some (.builtin "tuple.__rmul__")) F.slot_tuple_mul.lookup (by decide +kernel) F.slot_tuple_rmul.lookup (by decide +kernel)
def acy:seqRepeat? (.type "tuple")=pure (some (.builtin "tuple.__mul__")):=by
 unfold seqRepeat?;rw[PySem.seqSlot_of (T:="tuple") (name:="__mul__") (id:="tuple.__mul__") F.slot_tuple_mul.lookup (by decide +kernel),PySem.seqSlot_of (T:="tuple") (name:="__rmul__") (id:="tuple.__rmul__") F.slot_tuple_rmul.lookup (by decide +kernel)];rfl
def ac5(a:Int)(t:Tok)(l:ah)(its:Array aj)(n:Nat)(eW:Option ah)(cI:Array (Option aj)):Meets (Builtin.«int.__rmul__» ⟨[.int a t,.ref l],[]⟩) (λ_ R s=>s.heap.get? l=some {cls:=.type "tuple",dict:=eW,data:=.seq its n,slots:=cI}/\R (.ok (.ret Value.notImplemented)) s):=
 .of_wp λprog w A R s h=>by
  obtain⟨aL,g,d,tk,os⟩:=s;obtain⟨av,h⟩:=h
  wp_walk
  exact⟨_,rfl,h⟩
def adv(l:ah)(its:Array aj)(n:Nat)(eW:Option ah)(cI:Array (Option aj))(k:Int)(t:Tok)(ab:2<=k)(ak:k<1000)(il:its.isEmpty=false)(aq:its.size*k.toNat<=cp):
  Meets (Builtin.«tuple.__mul__» ⟨[.ref l,.int k t],[]⟩) (λ_ R s=>s.heap.get? l=some {cls:=.type "tuple",dict:=eW,data:=.seq its n,slots:=cI} /\
   R (.ok (.ret (.ref s.heap.objs.size))) {s with heap:=s.heap.push {cls:=.type "tuple",data:=.seq ((dU k.toNat its).foldl (·++·) #[])} }):=
 .of_wp λprog w A R s h=>by
  obtain⟨aL,g,d,tk,os⟩:=s;obtain⟨av,h⟩:=h;have dc:¬(decide (k < -(2 ^ 63)) || decide (k >= 2 ^ 63))=true:=by simp;omega
  have dP:¬(its.isEmpty || k==1)=true:=by simp[il];omega
  have e5:¬(decide (k<=0) || its.isEmpty)=true:=by simp[il];omega
  wp_walk using wpAny_loadPart' av
  have Lk:(its.size:Int)*k=((its.size*k.toNat:Nat):Int):=by
   have:(k.toNat:Int)=k:=Int.toNat_of_nonneg (by omega);rw[<- this]
   push_cast
   simp
  have fH:¬((its.size:Int)*k > (2 ^ 63 - 1) / 8):=by
   rw[Lk];rw[mM] at aq;omega
  have iG:¬Builtin.Tuple.tupleTooMany ((its.size:Int)*k)=true:=by
   unfold Builtin.Tuple.tupleTooMany;rw[Lk,decide_eq_true_iff];omega
  rw[if_neg dc]
  wp_walk using wpAny_loadPart' av
  rw[if_neg dP,if_neg e5,if_neg fH,if_neg iG];unfold rv;refine aV (oP (cw ⟨_,rfl,h⟩) ?_);have e:=foldl_rep its.toList k.toNat [];rw[vL] at e;show (List.foldl _ #[] (dU k.toNat its)).size<=cp;have a9:List.foldl (λaR b4=>aR++b4) #[] (dU k.toNat its)=(dU k.toNat its.toList).flatten.toArray:=by simpa using e
  rw[a9,er,len_rep,p6,Nat.mul_comm];exact aq
section
variable {X:bj}{a b:bz}{f g:bE}{pos:Pos}
def afJ:eE X (k6 .Mult) (λx y H Q=>∃a k xs,x=.ref a/\y=.int k/\df X.K H a xs/\xs≠[]/\2<=k/\k<1000/\xs.length*k.toNat<=cp/\∀p,H p=none->Q (.ref p) (upd H p (.tup (dU k.toNat xs).flatten))):=by
 intro ag s σ H x y v u Q I aU bw h;obtain⟨l,k,xs,rfl,rfl,ig,il,ab,ak,aq,q⟩:=h;cases aU;obtain⟨t,rfl⟩:=bw;obtain⟨its,r,pl,_⟩:=I.tuple ig;have av:=r.length;obtain⟨⟨cls,eW,data,cI⟩,aF,ay,n,hd⟩:=id pl;simp only at ay hd;subst ay hd;have VP:its.toArray.isEmpty=false:=by
  cases its with
  |nil=>
   cases xs with
   |nil=>exact absurd rfl il
   |cons x xs=>simp at av
  |cons=>rfl
 refine wpAny_binaryOp_repeat_ref (T:="tuple") (U:="int") (by decide) ⟨_,aF,rfl⟩ (λs'=>typeIs_int s' k t) ab9 F.fills_int_mul F.slot_int_rmul acy F.slot_int_index.lookup
  (call_meets F.slot_int_rmul (typeIs_int s k t) F.entry_int_rmul (F.args_int_rmul_2 _ _) (ac5 k t l its.toArray n eW cI)
   ⟨aF,rfl,⟨_,aF,rfl⟩,call_meets F.slot_tuple_mul ⟨_,aF,rfl⟩ F.entry_tuple_mul (F.args_tuple_mul_2 _ _) (adv l its.toArray n eW cI k t ab ak VP (by rw[er,<- av];exact aq)) ⟨aF,?_⟩⟩)
 have e:List.foldl (λaR b4=>aR++b4) #[] (dU k.toNat its.toArray)=(dU k.toNat its).flatten.toArray:=by simpa using foldl_rep its k.toNat []
 have sI:(dU k.toNat xs).flatten.length<=cp:=by rw[len_rep,Nat.mul_comm];exact aq
 refine⟨.ref s.heap.objs.size,upd H s.heap.objs.size (.tup (dU k.toNat xs).flatten),I.laid (t':=s.toks) (λb u e=>c2 _ e) (dD _) ⟨sI,_,r.rep k.toNat,⟨_,g9 _ rfl,rfl,0,?_⟩⟩,rfl,q _ I.fresh⟩
 exact congrArg (λz=>Data.seq z 0) e
def afK:eE X (k6 .Mult) (λx y H Q=>∃l k xs,x=.ref l/\y=.int k/\fw H l (.lst xs)/\0<=k/\k<1000/\xs.length*k.toNat<=cp/\∀p,H p=none->Q (.ref p) (upd H p (.lst (dU k.toNat xs).flatten))):=by
 intro ag s σ H x y v u Q I aU bw h;obtain⟨l,k,xs,rfl,rfl,ig,ab,ak,aq,q⟩:=h;cases aU;obtain⟨t,rfl⟩:=bw;obtain⟨z,its,n,r,av,e⟩:=Inv.ve I ig;have hlen:its.toArray.size*k.toNat<=cp:=by rw[er,<- av];exact aq
 have VI:¬its.toArray.size*k.toNat > (2 ^ 63 - 1) / 8:=by
  have:(cp:Nat)<=(2 ^ 63 - 1) / 8:=by decide
  omega
 have VT:¬(!Builtin.List.listFitsIndex k)=true:=by rw[fitsIndex_both (by omega) (by omega)];exact ry
 have V':¬Builtin.List.listTooLong (its.toArray.size*k.toNat)=true:=by rw[aeV hlen];exact ry
 have f0:∀m:Nat,List.foldl (λaR b4=>aR++b4) #[] (dU m its.toArray)=(dU m its).flatten.toArray:=λm=>by simpa using foldl_rep its m []
 have oh:List.foldl (λaR b4=>aR++b4) #[] (dU (if its.toArray.isEmpty=true then 0 else k.toNat) its.toArray)=(dU k.toNat its).flatten.toArray:=by
  rw[f0];cases its with
  |nil=>simp
  |cons a bR=>rw[if_neg (by simp)]
 refine wpAny_binaryOp_repeat_ref (T:="list") (U:="int") (by decide) ⟨_,e,rfl⟩ (λs'=>typeIs_int s' k t) noFill_list_mul F.fills_int_mul F.slot_int_rmul repeat_list F.slot_int_index.lookup
  (call_meets F.slot_int_rmul (typeIs_int s k t) F.entry_int_rmul (F.args_int_rmul_2 _ _) (int___rmul___int_list k t l its.toArray n) ⟨e,rfl,⟨_,e,rfl⟩,call_meets F.slot_list_mul ⟨_,e,rfl⟩ F.entry_list_mul (F.args_list_mul_2 _ _) (AutoListH.list___mul___list_int_3 l its.toArray n k t VT VI V') ⟨e,?_⟩⟩)
 rw[oh];exact⟨.ref _,_,I.sL (t':=s.toks) (r.rep k.toNat) (by rw[len_rep,Nat.mul_comm];exact aq),rfl,q _ I.fresh⟩
theorem bh.rep{K:a_}{F:ah->Prop}{H:aw}{ts:List T}{vs:List V}(h:bh K F H ts vs):∀k:Nat,bh K F H (dU k ts).flatten (dU k vs).flatten
|0=>bh.nil
|k+1=>by
  rw[rx,rx,tf,tf];exact h.append (bh.rep h k)
def ahn(ax:ek X a f)(aa:ek X b g):cC X (.BinOp a .Mult b pos) (ao vk f g):=d7 (r4 (afJ.or afK) ax aa) (oX (by
 intro O F H x y t hL hM Q d aU bw e k;unfold vk at e;split at e
 next xs n=>
  split at e
  next aq=>
   cases e
   obtain⟨n7,vs,rfl,az,aC⟩:=aU.tup;rw[bw.int];refine .inl ⟨n7,_,vs,rfl,rfl,az,λz=>?_,aq.1,aq.2.1,by rw[jl,<- aC.length];exact aq.2.2.2,λp aL=>?_⟩
   ·subst z;exact aq.2.2.1 (List.eq_nil_of_length_eq_zero (by rw[aC.length];rfl))
   ·have aR:=Ext.laid (o:=.tup (dU n.toNat vs).flatten) d aL;refine k _ F _ aR ?_;simp only[Rep];exact⟨p,_,rfl,df.of dY,(aC.rep _).ext aR⟩
  next=>cases e
 next xs n=>
  split at e
  next aq=>
   cases e
   obtain⟨n7,vs,rfl,az,aC⟩:=aU.lst;rw[bw.int];refine .inr ⟨n7,_,vs,rfl,rfl,az,aq.1,aq.2.1,by rw[jl,<- aC.length];exact aq.2.2,λp aL=>?_⟩;have aR:=Ext.yT (o:=.lst (dU n.toNat vs).flatten) d aL;refine k _ _ _ aR ?_;simp only[Rep];exact⟨p,_,rfl,.inr rfl,.inl dY,(aC.rep _).ext aR⟩
  next=>cases e
 ·cases e))
end
end
section
abbrev t0:cV:=⟨[],λ_=>[],λ_=>none⟩
def fC(ns:List Int):T:=.list (ns.map .int)
def LV(K:a_):Bool:=K.all λp=>match p.2.cls with
|.type t=>t != "list"
|_=>true
theorem NL{α β:Type}[BEq α][LawfulBEq α]{a:α}{b:β}:∀{l:List (α×β)},l.lookup a=some b->(a,b)∈l
  | [],h=>by cases h
  | (x,y)::l,h=>by
    rw[j5] at h;split at h
    next q=>
      cases h
      have:a=x:=by simpa using q
      subst this;simp
    next=>exact d6 _ (NL h)
def adS{K:a_}{H:aw}{a:ah}{ns:List Int}{d:List T->Option T}(hg:LV K=true)(hd:d [fC ns]=some (.bool true))(eP:eU K H a (ns.map V.int)):@spT t0 K 1 d [.ref a] H (λv _=>v=.c0 true) λ_ _ _=>False:=by
 letI:=t0;rcases eP with eP|⟨o,its,n,aI,ay,_⟩
 ·refine⟨rfl,λb=>b=a,[fC ns],.bool true,⟨?_,λp aL=>by cases aL⟩,bh.cons ?_ bh.nil,hd,λv aB af x r=>by simpa [Rep] using r⟩
  ·rintro b rfl;rcases eP with q|⟨u,q⟩
   ·exact⟨_,q⟩
   ·exact⟨_,q⟩
  ·simp only[fC,Rep];exact⟨a,_,rfl,rfl,eP,Ol ns⟩
 ·have:=List.all_eq_true.mp hg _ (NL aI);simp[ay] at this
def af3{t:cV}(bg:t.eJ=[]){P:cF}{w:cv}{K:a_}{mg:Str->Option aj}{base:bT}{k n:Nat}{f:ah}{fd:fU}{aT:List Str}{d:List T->Option T}(F:eT P w K mg base fh k f fd aT (@spT t K n d)):eT P w K mg base fh k f fd aT (@spT t0 K n d):=by
 have uB:∀{F:ah->Prop} {H:aw},@fX t0 F H->@fX t F H:=λ{F H} h=>@fX.mk t F H (@fX.C5 t0 F H h) (λp aL=>by rw[bg] at aL;cases aL);have Ue:∀{F:ah->Prop} {H:aw},@fX t F H->@fX t0 F H:=λ{F H} h=>@fX.mk t0 F H (@fX.C5 t F H h) (λp aL=>by cases aL);refine F.imp λvs H Q E h=>?_;obtain⟨av,F,ts,r,cf,q,e,lL⟩:=h;exact⟨av,F,ts,r,uB cf,q,e,λv aB af x bZ=>lL v aB af (@Ext.mk t0 F H aB af (@Ext.same t F H aB af x) (@Ext.sub t F H aB af x) (@Ext.new t F H aB af x) (Ue (@Ext.cf t F H aB af x))) bZ⟩
end
section
variable [cV]
open PySem.W (kas_ask kas_sort kat_run kat_snds kat_lt kat_kind KatTups KatLex KatGo kas_item KasT)
def eo(x:Str×List T):T:=.tuple (.str x.1::x.2)
end
section
variable [cV]
def pB(f:bE):bB:=λε=>(f ε).map λ_=>.bQ ε
section
variable {X:bj}{k n c C i:Nat}{ns:List Str}{d:List aG->Option (T×List aG)}{x:Str}{p pos:Pos}{o e:bz}{es:List bz}{ar:List bE}{f:bE}
def afi(f7:fv X.K c C ns)(jO:qx X.prog X.w X.K X.mg X.base x c 0 k n d)(aC:dO k X.A)(a7:bU X o (hJ i))(ax:kJ X es ar)(bG:fo X x:=by rfl)(av:ar.length+1=n:=by rfl)(i6:(x==("__debug__":Str))=false:=by decide)
  (he:bS (o::es) X.env=(false,eval o X.env)::bS es X.env:=by rfl) (hpl:(ee pos (bS es X.env)).any (·.1)=false:=by rfl):m3 X (.Call (.Name x p) (o::es) [] pos) (r6 c d [] i ar):=by
 obtain⟨cy,fd,aT,F,m,aD,b⟩:=jO.ex;refine d7 (Iy F aC bG m aD b .nil o7 (k' a7 ax he) i6 he hpl) λσ H Q ⟨au,E,O,F,ε,t,ε',r,e,bJ⟩=>?_;simp only[r6,cg] at e;obtain⟨⟨md,os⟩,aF,e⟩:=e;split at e
 next=>cases e
 next uW=>
  simp only[args,cg,dX,Option.some.injEq,exists_eq_left'] at e;obtain⟨ts,bx,bR,e7,e⟩:=e;cases e;obtain⟨a,vs,bb,ab,hx,_⟩:=mU f7 r aF;refine⟨_,ab,au,E,O,F,ε,ts,r,bx,λws aX H1 aR q=>?_⟩;show rr X.K n c 0 d (V.ref a::ws++[]) H1 Q aio;rw[mJ];exact zev r aF uW ab aR q e7 (by rw[aic bx,av]) bJ
def Ja(h:cC X e f)(mx:iS e none pos.line X.env=pure false:=by rfl):gA X (.Expr e pos) (pB f):=fN (AU h mx) λD σ H ⟨au,E,O,F,ε,o,r,e,k⟩=>by
 simp only[pB,dX] at e;obtain⟨t,bx,rfl⟩:=e;exact⟨au,E,O,F,ε,t,r,bx,λv aB af x _=>k σ aB af x.aD (r.ext x)⟩
end
end
section

end
section
variable [cV]
def t2(f:bE):jP:=λε=>(f ε).map λt=>(t,ε)
noncomputable def rj(o:T->T->Option T)(f g:jP):jP:=λε=>(f ε).bind λr=>(g r.2).bind λs=>(o r.1 s.1).map λz=>(z,s.2)
abbrev Jy:=Ev->Option (Bool×Ev)
section
variable {X:bj}{a b e:bz}{es:List bz}{f g:jP}{x1:bE}{hY:fm}{c d:Jy}{pos:Pos}
def x_pure(h:cC X e x1):m3 X e (t2 x1):=d7 h λσ H Q ⟨au,E,O,F,ε,t,ε',r,e,k⟩=>by
 simp only[t2,dX] at e;obtain⟨t',bx,e⟩:=e;cases e;exact⟨au,E,O,F,ε,t,r,bx,λv aB af x bZ=>k v aB af x.aD (r.ext x) bZ⟩
def aeP{o:T->T->Option T}{R:gj}(h:l8 X.K o R):∀σ H Q,zh X.K (rj o f g) σ H Q->s7 R (zh X.K f) (zh X.K g) σ H Q:=by
 rintro σ H Q ⟨au,E,O,F,ε,t,ε',r,e,k⟩;simp only[rj,cg,dX] at e;obtain⟨⟨x,fE⟩,ex,⟨y,gP⟩,fy,z,eF,e⟩:=e;cases e;refine⟨au,E,O,F,ε,x,fE,r,ex,λhL aX H1 XO aO aU=>⟨au,E,O,aX,fE,y,gP,aO,fy,λhM dR a' pK a4 bw=>?_⟩⟩;exact h O dR a' x y t hL hM Q a4.cf (.inl (aU.aD pK)) (.inl bw) eF λv aB af d5 c9=>k v aB af ((XO.trans pK).trans d5.aD) (a4.ext d5) c9
def ag4(ax:m3 X a f)(aa:m3 X b g):m3 X (.BinOp a .Add b pos) (rj da f g):=
 d7 (r4 (Qe.or (N0.or (O'.or (PD.or PE)))) ax aa) (aeP (by
  intro O F H x y t hL hM Q d aU bw e k;unfold da at e;split at e
  ·cases e
   rw[aU.int,bw.int];exact .inl ⟨_,_,rfl,rfl,k _ F H (Ext.refl d) (by simp[Rep])⟩
  ·split at e
   next aq=>
    cases e
    rw[aU.str,bw.str];exact .inr (.inl ⟨_,_,rfl,rfl,by rw[jl];exact aq,k _ F H (Ext.refl d) (by simp[Rep])⟩)
   next=>cases e
  ·split at e
   next xs ys aq=>
    cases e
    obtain⟨n7,vs,rfl,az,aC⟩:=aU.tup;obtain⟨Cj,ws,rfl,iN,jV⟩:=bw.tup;cases xs with
    |nil=>
     simp only[bh] at aC;subst aC;refine .inr (.inr (.inl ⟨_,_,_,rfl,rfl,az,iN,k _ F H (Ext.refl d) ?_⟩));simp only[Rep];exact⟨_,_,rfl,iN,by simpa using jV⟩
    |cons x0 G4=>
     refine .inr (.inr (.inr (.inl ⟨_,_,_,_,rfl,rfl,az,iN,?_,?_,λef=>?_,λef p aL=>?_⟩)))
     ·intro z;subst z;have:=aC.length;simp at this
     ·rw[jl,<- aC.length,<- jV.length];exact aq
     ·refine k _ F H (Ext.refl d) ?_
      subst ef;have aH:ys=[]:=List.eq_nil_of_length_eq_zero (by rw[jV.length];rfl);subst aH;simp only[Rep];exact⟨_,_,rfl,az,by simpa using aC⟩
     ·have aR:=Ext.laid (o:=.tup (vs++ws)) d aL;refine k _ F _ aR ?_;simp only[Rep];exact⟨p,_,rfl,df.of dY,(aC.append jV).ext aR⟩
   next=>cases e
  ·split at e
   next xs ys aq=>
    cases e
    obtain⟨n7,vs,rfl,az,aC⟩:=aU.lst;obtain⟨Cj,ws,rfl,iN,jV⟩:=bw.lst;refine .inr (.inr (.inr (.inr ⟨_,_,_,_,rfl,rfl,az,iN,by rw[jl,<- aC.length,<- jV.length];exact aq,λp aL=>?_⟩)));have aR:=Ext.yT (o:=.lst (vs++ws)) d aL;refine k _ _ _ aR ?_;simp only[Rep];exact⟨p,_,rfl,.inr rfl,.inl dY,(aC.append jV).ext aR⟩
   next=>cases e
  ·cases e))
end
end
section

end
end D
end
section
namespace D
open PySem PySem.Spec PySem.Calls PySem.W PyProof.Rows PySem.Builtin PySem.Builtin.ObjectAttr PySem.Builtin.Getset_descriptor
end D
end
section
namespace D
open PySem PySem.Spec PyProof.Rows bc
section
variable [cV]
abbrev R9:=Ev->Bool
def ow(f:bE):R9:=λε=>(f ε).isSome
end
section

end
section
variable [cV]
mutual
noncomputable def hB:T->T->Option Bool
|.int a,.int b=>some (decide (b<a))
|.tuple xs,.tuple ys=>rb xs ys
|_,_=>none
noncomputable def rb:List T->List T->Option Bool
| [],[]=>some false
| [],_::_=>some false
|_::_,[]=>some true
|x::xs,y::ys=>if mK x y then rb xs ys else hB x y
end
noncomputable def Jz(A:cY)(s:aK)(y x:aj)(b:Bool):Prop:=
 ∀(prog:cF) (w:cv) (E:aj->aK->Prop) (Q:aj->aK->Prop),Q (.bool b) s->bp (bL prog w) A (richCompare .Gt y x) Q E s
inductive GoodG(A:cY)(s:aK)(fin:Bool):List (aj×aj)->Bool->Prop
|nil:GoodG A s fin [] fin
|eq {y x:aj} {r:List (aj×aj)} {b:Bool}:SeqAt.EqAt A s y x true->GoodG A s fin r b->GoodG A s fin ((y,x)::r) b
|lt {y x:aj} {r:List (aj×aj)} {b:Bool}:SeqAt.EqAt A s y x false->Jz A s y x b->GoodG A s fin ((y,x)::r) b
section
open PySem.SeqAt
open PySem.AutoSeq1 (wpAny_loadPart')
open PySem.MeetsSeq PySem.MeetsSeq2 PySem.MeetsSeq3
def acE(l b:ah)(items oo:Array aj)(n f9:Nat)(eW lz:Option ah)(cI ko:Array (Option aj))(z:Bool):
  Meets (Builtin.«tuple.__gt__» ⟨[.ref l,.ref b],[]⟩)
   (λA R s=>s.heap.get? l=some {cls:=.type "tuple",dict:=eW,data:=.seq items n,slots:=cI}/\s.heap.get? b=some {cls:=.type "tuple",dict:=lz,data:=.seq oo f9,slots:=ko} /\
    GoodG A.in1 s (decide (oo.size<items.size)) (items.toList.zip oo.toList) z/\R (.ok (.ret (.bool z))) s):=
 .of_wp λprog w A R s h=>by
  obtain⟨aL,g,d,tk,os⟩:=s;obtain⟨av,aa,bG,h⟩:=h;have f2:=AutoSeq1.sub_tuple_tuple
  wp_walk using wpAny_loadPart' av,wpAny_loadPart' aa,wpAny_forIn_list _ (λrest b s'=>b.1=none/\s'=⟨aL,g,d,tk,os⟩/\GoodG A.in1 ⟨aL,g,d,tk,os⟩ (decide (oo.size<items.size)) rest z) _
  case turn=>
   rintro⟨y,x⟩ rest b s' ⟨c8,rfl,i5⟩;cases i5 with
   |eq he i5=>
    refine aV (he prog w _ _ ?_)
    wp_walk
    exact⟨rfl,rfl,i5⟩
   |lt he d2=>
    refine aV (he prog w _ _ ?_)
    have D1:=d2 prog w
    wp_walk using D1
    exact⟨_,rfl,h⟩
  case fin=>
   rintro⟨b6,cm⟩ s' ⟨c8,rfl,i5⟩;simp only at c8;subst c8;cases i5
   wp_walk
   exact⟨_,rfl,by simpa [Builtin.Tuple.tupleCompareSizes] using h⟩
  case h=>
   exact⟨rfl,rfl,bG⟩
mutual
theorem ae8:∀(n8 db:T) (A:cY) (s:aK) (a b:aj) (as bs:List ah) (r:Bool),Reads s.heap a n8 as->Reads s.heap b db bs->n8.canLay0=true->db.canLay0=true->A.units+min n8.depth db.depth<cLine->hB n8 db=some r->Jz A s a b r
|.int i,.int j,A,s,_,_,_,_,r,.int _ t,.int _ u,_,_,_,e=>by
  unfold hB at e;cases e;exact λprog w E Q q=>(PyProof.Rows.gt_int q:bp (bL prog w) A (iz .Gt (.int i t) (.int j u)) Q E s)
|.tuple xs,.tuple ys,A,s,_,_,_,_,r,.tuple (a:=l) (o:=o) (vs:=vs) (n:=n) ab ak bF cT,.tuple (a:=nu) (o:=o') (vs:=fc) (n:=ot) eQ dN oq kU,ax,aa,b7,e=>by
  unfold hB at e;simp only[PyData.canLay0] at ax aa;simp only[oM] at b7;have i5:=goodG_reads xs ys A.in1 s vs.toList fc.toList _ _ r cT kU ax aa (room_in b7) e;obtain⟨cls,eW,data,cI⟩:=o;obtain⟨C3,lz,data2,ko⟩:=o';simp only at ak bF dN oq;subst ak bF dN oq;rw[p6,p6] at i5;exact λprog w E Q q=>richCompare_meets_room (op:=.Gt) ⟨_,ab,rfl⟩ ⟨_,eQ,rfl⟩ PySem.F.slot_tuple_gt PySem.F.entry_tuple_gt (PySem.F.args_tuple_gt_2 _ _) (acE l nu vs fc n ot eW lz cI ko r)
   ⟨ab,eQ,i5,show Value.bool r≠Value.notImplemented/\Q (.bool r) s from ⟨(λx=>nomatch x),q⟩⟩ (by omega)
|.none,_,_,_,_,_,_,_,_,_,_,_,_,_,e=>by simp[hB] at e
|.bool _,_,_,_,_,_,_,_,_,_,_,_,_,_,e=>by simp[hB] at e
|.str _,_,_,_,_,_,_,_,_,_,_,_,_,_,e=>by simp[hB] at e
|.list _,_,_,_,_,_,_,_,_,_,_,_,_,_,e=>by simp[hB] at e
|.dict _,_,_,_,_,_,_,_,_,_,_,_,_,_,e=>by simp[hB] at e
|.int _,.none,_,_,_,_,_,_,_,_,_,_,_,_,e=>by simp[hB] at e
|.int _,.bool _,_,_,_,_,_,_,_,_,_,_,_,_,e=>by simp[hB] at e
|.int _,.str _,_,_,_,_,_,_,_,_,_,_,_,_,e=>by simp[hB] at e
|.int _,.list _,_,_,_,_,_,_,_,_,_,_,_,_,e=>by simp[hB] at e
|.int _,.dict _,_,_,_,_,_,_,_,_,_,_,_,_,e=>by simp[hB] at e
|.int _,.tuple _,_,_,_,_,_,_,_,_,_,_,_,_,e=>by simp[hB] at e
|.tuple _,.none,_,_,_,_,_,_,_,_,_,_,_,_,e=>by simp[hB] at e
|.tuple _,.bool _,_,_,_,_,_,_,_,_,_,_,_,_,e=>by simp[hB] at e
|.tuple _,.str _,_,_,_,_,_,_,_,_,_,_,_,_,e=>by simp[hB] at e
|.tuple _,.list _,_,_,_,_,_,_,_,_,_,_,_,_,e=>by simp[hB] at e
|.tuple _,.dict _,_,_,_,_,_,_,_,_,_,_,_,_,e=>by simp[hB] at e
|.tuple _,.int _,_,_,_,_,_,_,_,_,_,_,_,_,e=>by simp[hB] at e
theorem goodG_reads:∀(xs ys:List T) (A:cY) (s:aK) (vs ws:List aj) (as bs:List ah) (r:Bool),ReadsAll s.heap vs xs as->ReadsAll s.heap ws ys bs->ks xs=true->ks ys=true->A.units+min (jH xs) (jH ys)<cLine->rb xs ys=some r->GoodG A s (decide (ws.length<vs.length)) (vs.zip ws) r
| [],[],A,s,_,_,_,_,r,.nil,.nil,_,_,_,e=>by
  unfold rb at e;cases e;exact .nil
| [],_::_,A,s,_,_,_,_,r,.nil,.cons _ _,_,_,_,e=>by
  unfold rb at e;cases e;exact GoodG.nil
|_::_,[],A,s,_,_,_,_,r,.cons _ _,.nil,_,_,_,e=>by
  unfold rb at e;cases e;exact GoodG.nil
|x::xs,y::ys,A,s,_,_,_,_,r,.cons aO a4,.cons aP ba,ax,aa,b7,e=>by
  simp only[ks,jG] at ax aa;simp only[jH] at b7;unfold rb at e;have he:=eqAt_reads x y A s _ _ _ _ aO aP ax.1 aa.1 (room_head b7);split at e
  next h=>
   rw[h] at he;have b9:=goodG_reads xs ys A s _ _ _ _ r a4 ba ax.2 aa.2 (room_tail b7) e;rw[p7];simp only[gK,Nat.add_lt_add_iff_right];exact .eq he b9
  next h=>
   rw[Bool.not_eq_true] at h;rw[h] at he;rw[p7];exact .lt he (ae8 x y A s _ _ _ _ r aO aP ax.1 aa.1 (room_head b7) e)
end
end
end
section
variable [cV]
def acK{scope:Scope}{env:Env}{x:Str}(h:scope.names.lookup x=none):(relabel scope env).names.lookup x=none:=by
 show (scope.names.map _).lookup x=none
 generalize scope.names=l at h
 induction l with
|nil=>rfl
|cons p l b9=>
  obtain⟨n,j⟩:=p;rw[j5] at h;split at h
  next=>cases h
  next aa=>
   have:=b9 h;show iR x ((if (j==NameKind.free && env.scope.kind==.function && env.kindOf n==some .cell)=true then (n,NameKind.cell) else (n,j))::_)=none;by_cases ay:(j==NameKind.free && env.scope.kind==.function && env.kindOf n==some .cell)=true
   ·rw[if_pos ay,j5,aa];exact this
   ·rw[if_neg ay,j5,aa];exact this
def bN.KC{K:a_}{au O F:ah->Prop}{E:ey}{H:aw}{ε:Ev}{σ:bc.St}{w:Option V}(r:bN K au E O F H ε σ):bN K au E O F H (none::ε) (w::σ):=by
 refine⟨by simp[r.len],λi s e=>?_,λi j s u v1 s_ fk aH aS cD dQ ab ak=>?_,r.ent,r.o0,r.fr⟩
 ·cases i with
  |zero=>simp at e
  |succ i=>exact r.val i s (by simpa using e)
 ·cases i with
  |zero=>simp at aH
  |succ i=>
   cases j with
   |zero=>simp at aS
   |succ j=>exact r.ne i j s u v1 s_ (by omega) (by simpa using aH) (by simpa using aS) cD dQ (by simpa using ab) (by simpa using ak)
structure Bo(X:bj)(scope:Scope)(y:Str)(gS:List Str):Prop where
 ok:o9 X scope [y] []
 len:gS.length=X.N.length
 a8:(y::("":Str)::gS).Nodup
 V1:scope.names.lookup ("":Str)=none
 own:scope.names.lookup y=some .local
 uz:∀(i:Nat) (x:Str),gS[i]?=some x->scope.names.lookup x=none\/(scope.names.lookup x=some .free/\X.N[i]?=some x)
section
variable {X:bj}{iter elt:bz}{scope:Scope}{it:iY}{nj:jP}{pos py:Pos}{y:Str}{gS:List Str}
def aej{ag:List (ah×Obj)}{σ:bc.St}{a':aw}{s2:aK}{bW:List ah}(S:Bo X scope y gS)(b0:bc.Inv X ag σ a' s2)(f2:∀b∈bW,kI X ag a' b)(gI:∀b∈bW,b<s2.heap.objs.size){e9:bT}{m:Str->Option aj}{tk:Nat}
  (sG:e9.Ns (s2.heap.push {cls:=.type "list",data:=.seq ([]:List aj).toArray}).objs.size m) (keep:∀b u,(s2.heap.push {cls:=.type "list",data:=.seq ([]:List aj).toArray}).get? b=some u->e9.get? b=some u):
  bc.Inv (gN X (y::""::gS) scope (ic X.env scope.names []) (s2.heap.push {cls:=.type "list",data:=.seq ([]:List aj).toArray}).objs.size {s2 with heap:=s2.heap.push {cls:=.type "list",data:=.seq ([]:List aj).toArray} } (upd a' s2.heap.objs.size (.lst [])) bW (X.dI++ag)) []
   (none::some (.ref s2.heap.objs.size)::σ) (upd a' s2.heap.objs.size (.lst [])) {s2 with heap:=e9,toks:=tk}:=by
 have mv:∀x∈scope.names,x.2=.free->∃c,X.env.cells.lookup x.1=some c:=λx hx aI=>b0.ok.has x.1 (S.ok.free x hx aI);have l_:∀x c,(ic X.env scope.names []).lookup x=some c->X.env.cells.lookup x=some c:=wm mv (λx c e=>by simp at e);have dx:=b0.sL (its:=[]) (ys:=[]) (t':=s2.toks) .nil (ku _);refine⟨AW S.ok b0 f2 gI _,rfl,b0.bare,gB.kept keep,⟨m,sG,λi x v ab ak bq=>?_⟩,λx c e=>?_,?_,λx c e=>dx.mq x c (l_ x c e),λp aL=>?_,dx.b8.kept keep,by
  show (none::some (V.ref s2.heap.objs.size)::σ).length=(y::""::gS).length
  simp[S.len,b0.len]⟩
 ·have LX:∀z:Str,scope.names.lookup z=none->¬lu (relabel scope X.env) z:=λz aq q=>by
   have:=acK (env:=X.env) aq;unfold lu at q;rw[this] at q;rcases q with q|q|q <;> cases q
  have q5:lu (relabel scope X.env) x:=bq;have c3:(y::""::gS)[i]?=some x:=ab
  match i,c3,ak with
  |0,_,ak=>simp at ak
  |1,c3,ak=>
   have:("":Str)=x:=by simpa using c3
   subst this;exact absurd q5 (LX _ S.V1)
  |i+2,c3,ak=>
   have hx:gS[i]?=some x:=by simpa using c3
   have bC:σ[i]?=some (some v):=by simpa using ak
   rcases S.uz i x hx with q|⟨hf,dk⟩
   ·exact absurd q5 (LX _ q)
   obtain⟨z,bI,eQ,dN⟩:=mem_lookup hf;have aI:=S.ok.free z bI eQ;rw[dN] at aI;obtain⟨rd,We,uV⟩:=dx.loc;have GY:lu X.env.scope x:=by
    rcases aI with aI|aI
    ·exact .inr (.inl aI)
    ·exact .inr (.inr aI)
   obtain⟨u,dm,FL⟩:=uV i x v dk bC GY;refine⟨u,dm,.inr ⟨?_,?_⟩⟩
   ·obtain⟨h1,aH,aS⟩:=v5 (env:=X.env) hf;rcases aS with rfl|⟨_,rfl⟩
    ·exact .inr aH
    ·exact .inl aH
   ·rcases FL with ⟨q,_⟩|⟨_,c,ay,pE⟩
    ·rcases aI with aI|aI
     ·rw[aI] at q;cases q
     ·rw[aI] at q;cases q
    ·obtain⟨d0,dh⟩:=wC (env:=X.env) (l:=scope.names) (cs:=[]) (x:=x) (.inl ⟨z,bI,eQ,dN⟩);have:=l_ _ _ dh;rw[ay] at this;cases this;obtain⟨hH,aF,hd⟩:=pE;exact⟨c,dh,hH,keep _ _ aF,hd⟩
 ·obtain⟨v,hH,aF,hd⟩:=dx.cell x c (l_ x c e);exact⟨v,hH,keep _ _ aF,hd⟩
 ·exact dx.b8.fresh (dD _)
 ·have kS:p∈X.dI++ag:=by simpa [gN] using aL
  obtain⟨ab,ak,bF,cT,gG⟩:=dx.pin p kS;refine⟨keep _ _ ab,ak,eL (cP ab),λz=>?_,gG⟩;rcases cM.mp (b0.vy p.1 z) with q|q
  ·exact bF q
  ·exact cT q
end
noncomputable def Qu(scope:Scope)(N:List Str)(y:Str)(gS:List Str):Bool:=
 decide (gS.length=N.length) && decide ((y::("":Str)::gS).Nodup) && decide (scope.names.lookup ("":Str)=none) && decide (scope.names.lookup y=some .local) &&
  (gS.zip N).all λp=>decide (scope.names.lookup p.1=none) || (decide (scope.names.lookup p.1=some .free) && decide (p.1=p.2))
def af4{X:bj}{scope sc:Scope}{y:Str}{gS:List Str}(N:List Str)(D3:X.env.scope=sc)(dk:X.N=N)(ay:X.calm=true)(h:Jg scope sc N []=true)(ak:Qu scope N y gS=true):Bo X scope y gS:=by
 simp only[Qu,jG,decide_eq_true_eq] at ak;obtain⟨⟨⟨⟨ab,ak⟩,bF⟩,cT⟩,gG⟩:=ak;refine⟨Qt N D3 dk ay h,by rw[dk];exact ab,ak,bF,cT,λi x hx=>?_⟩;have aJ:=(ed.mp hx).1;have sD:i<N.length:=by rw[<- ab];exact aJ
 have aq:(gS.zip N)[i]?=some (x,N[i]):=by
  rw[List.getElem?_zip_eq_some];exact⟨hx,h6 sD⟩
 have:=List.all_eq_true.mp gG _ (p4 aq);simp only[Bool.or_eq_true,jG,decide_eq_true_eq] at this;rcases this with q|⟨aP,ba⟩
 ·exact .inl q
 ·refine .inr ⟨aP,?_⟩
  rw[dk,h6 sD,<- ba]
end
section
variable [cV]
def fT(c:Nat)(bs:List (List aG)):Ev:=bs.map λar=>some (.obj .own c ar)
def gX(as:List ah):bc.St:=as.map λa=>some (.ref a)
def afZ(c:Nat)(bs:List (List aG))(ar:List aG):fT c (bs++[ar])=fT c bs++[some (.obj .own c ar)]:=by simp[fT]
def afY(as:List ah)(a:ah):gX (as++[a])=gX as++[some (.ref a)]:=by simp[gX]
section
variable {K:a_}{au O F aX:ah->Prop}{E:ey}{H H1:aw}{ε:Ev}{σ:bc.St}
def bN.KH{g:Ev}{v:bc.St}(r:bN K au E O F H (ε++g) (σ++v))(av:ε.length=σ.length):bN K au E O F H ε σ:=by
 have up:∀{i:Nat} {s:aG},ε[i]?=some (some s)->(ε++g)[i]?=some (some s):=λ{i s} e=>by
  rw[h7 (ed.mp e).1];exact e
 have us:∀{i:Nat} {w:V},σ[i]?=some (some w)->(σ++v)[i]?=some (some w):=λ{i s} e=>by
  rw[h7 (ed.mp e).1];exact e
 refine⟨av,λi s e=>?_,λi j s u w x fk aH aS cD dQ ab ak=>r.ne i j s u w x fk (up aH) (up aS) cD dQ (us ab) (us ak),r.ent,r.o0,r.fr⟩
 obtain⟨w,ab,ak⟩:=r.val i s (up e);have aJ:i<σ.length:=by rw[<- av];exact (ed.mp e).1
 rw[h7 aJ] at ab;exact⟨w,ab,ak⟩
def bN.aba{w:Option V}(r:bN K au E O F H ε σ):bN K au E O F H (ε++[none]) (σ++[w]):=by
 have ez:∀{i:Nat} {s:aG},(ε++[none])[i]?=some (some s)->i<ε.length/\ε[i]?=some (some s):=λ{i s} e=>by
  by_cases aJ:i<ε.length
  ·rw[h7 aJ] at e;exact⟨aJ,e⟩
  ·rw[lV (by omega)] at e;cases aI:i - ε.length with
   |zero=>rw[aI] at e;simp at e
   |succ n=>rw[aI] at e;simp at e
 have cI:∀{i:Nat},i<ε.length->(σ++[w])[i]?=σ[i]?:=λ{i} h=>h7 (by rw[<- r.len];exact h);refine⟨by simp[r.len],λi s e=>?_,λi j s u x y fk aH aS cD dQ ab ak=>?_,r.ent,r.o0,r.fr⟩
 ·obtain⟨aJ,a9⟩:=ez e;rw[cI aJ];exact r.val i s a9
 ·obtain⟨aJ,f6⟩:=ez aH;obtain⟨bC,eO⟩:=ez aS;rw[cI aJ] at ab;rw[cI bC] at ak;exact r.ne i j s u x y fk f6 eO cD dQ ab ak
def bN.Sh{c:Nat}{bs:List (List aG)}{as:List ah}{ar:List aG}{a:ah}(r:bN K au E O F H (ε++fT c bs) (σ++gX as))(x:Ext F H aX H1)(h:du K E O aX H1 (.obj .own c ar) (.ref a))(a7:∀b∈cB H1 (.obj .own c ar) (.ref a),H b=none):
  bN K au E O aX H1 (ε++fT c (bs++[ar])) (σ++gX (as++[a])):=by
 have aO:=(bN.aba (w:=none) r).GJ (s:=.obj .own c ar) (v:=.ref a) (ε++fT c bs).length x h a7;have aH:((ε++fT c bs)++[none]).set (ε++fT c bs).length (some (.obj .own c ar))=ε++fT c (bs++[ar]):=by
  rw[List.set_append_right _ _ (dD _),Nat.sub_self,afZ,vK];rfl
 have aS:((σ++gX as)++[none]).set (ε++fT c bs).length (some (.ref a))=σ++gX (as++[a]):=by
  rw[r.len,List.set_append_right _ _ (dD _),Nat.sub_self,afY,vK];rfl
 rw[aH,aS] at aO;exact aO
def bN.less{D:ah}(r:bN K au E O F H ε σ)(hZ:H D=none):bN K au E (λa=>O a/\a≠D) F (upd H D (.lst [])) ε σ:=by
 have x:=Ext.laid (o:=.lst []) r.cf hZ;have keep:∀(u:aG) (w:V),du K E O F H u w->du K E (λa=>O a/\a≠D) F (upd H D (.lst [])) u w/\cB (upd H D (.lst [])) u w=cB H u w:=by
  intro u w dm;have nb:∀b∈cB H u w,b≠D:=λb aa z=>by
   obtain⟨o,e,_⟩:=dm.at aa;rw[z,hZ] at e;cases e
  exact dm.keep x.aD (λb aa=>cQ (nb b aa)) (λ_ _ f=>f) λb aa o=>⟨o,nb b aa⟩
 refine⟨r.len,λi s e=>?_,λi j s u v w fk aH aS cD dQ ab ak=>?_,r.ent.trans x,λa h=>r.o0 a h.1,λa h=>?_⟩
 ·obtain⟨v,ab,ak⟩:=r.val i s e;exact⟨v,ab,(keep s v ak).1⟩
 ·obtain⟨h5,aP,aO⟩:=r.val i s aH;obtain⟨fe,ba,a4⟩:=r.val j u aS;rw[ab] at aP;rw[ak] at ba;cases aP;cases ba;rw[(keep s v aO).2,(keep u w a4).2];exact r.ne i j s u v w fk aH aS cD dQ ab ak
 ·have a8:a≠D:=by
   rintro rfl;rw[dY] at h;cases h
  rw[cQ a8] at h;exact⟨r.fr a h,a8⟩
end
def y2:aG->Bool
|.obj .own _ _=>true
|.obj _ _ _=>false
|_=>true
def mB(ε:Ev):Bool:=ε.all λo=>match o with
|some s=>y2 s
|none=>true
def IY{ε:Ev}{i:Nat}{s:aG}(h:mB ε=true)(e:ε[i]?=some (some s)):y2 s=true:=List.all_eq_true.mp h _ (p4 e)
noncomputable def Hid(H:aw)(ε:Ev)(σ:bc.St)(s0:aG)(v0:V)(b:ah):Prop:=(∃(j:Nat) (s:aG) (v:V),ε[j]?=some (some s)/\s.gn=true/\σ[j]?=some (some v)/\b∈cB H s v)\/b∈cB H s0 v0
open Classical in
noncomputable def lJ(H:aw)(S:ah->Prop)(a:ah):ey:=⟨λb=>if S b then none else H b,a⟩
section
variable {K:a_}{au O F aB:ah->Prop}{E:ey}{H af:aw}{ε ε':Ev}{σ bD:bc.St}{c k d3:Nat}{bs:List (List aG)}{as:List ah}{ar fs':List aG}{a:ah}
def ae6{S:ah->Prop}{b:ah}{o:dZ}(h:(lJ H S a).h b=some o):¬S b/\H b=some o:=by
 classical
 by_cases az:S b
 ·simp[lJ,az] at h
 ·simp[lJ,az] at h;exact⟨az,h⟩
def tK{S:ah->Prop}{b:ah}(h:¬S b):(lJ H S a).h b=H b:=by
 classical
 simp[lJ,h]
def wA{S:ah->Prop}{b:ah}(h:(lJ H S a).h b=none):S b\/H b=none:=by
 classical
 by_cases az:S b
 ·exact .inl az
 ·exact .inr (by simpa [lJ,az] using h)
def agU{S:ah->Prop}{b:ah}(h:S b\/H b=none):(lJ H S a).h b=none:=by
 classical
 by_cases az:S b
 ·simp[lJ,az]
 ·rcases h with h|h
  ·exact absurd h az
  ·simpa [lJ,az] using h
def mY(aa:bs[k]?=some ar):(ε++fT c bs)[ε.length+k]?=some (some (.obj .own c ar)):=by
 rw[lV (by omega),Nat.add_sub_cancel_left,fT,ho,aa];rfl
def l4(aI:as[k]?=some a)(av:ε.length=σ.length):(σ++gX as)[ε.length+k]?=some (some (.ref a)):=by
 rw[av,lV (by omega),Nat.add_sub_cancel_left,gX,ho,aI];rfl
def qS{i:Nat}{s:aG}(e:ε[i]?=some (some s)):(ε++fT c bs)[i]?=some (some s):=by
 rw[h7 (ed.mp e).1];exact e
def qT{i:Nat}{v:V}(e:σ[i]?=some (some v)):(σ++gX as)[i]?=some (some v):=by
 rw[h7 (ed.mp e).1];exact e
def A9{i:Nat}{s:aG}(e:(ε++fT c bs)[i]?=some (some s)):(i<ε.length/\ε[i]?=some (some s))\/∃m ar,i=ε.length+m/\bs[m]?=some ar/\s=.obj .own c ar:=by
 by_cases aJ:i<ε.length
 ·rw[h7 aJ] at e;exact .inl ⟨aJ,e⟩
 ·rw[lV (by omega),fT,ho] at e;cases q:bs[i - ε.length]? with
  |none=>rw[q] at e;cases e
  |some ar=>
   rw[q] at e;exact .inr ⟨i - ε.length,ar,by omega,q,(eB (eB e)).symm⟩
def A8{m:Nat}{v:V}(av:ε.length=σ.length)(e:(σ++gX as)[ε.length+m]?=some (some v)):∃a,as[m]?=some a/\v=.ref a:=by
 rw[av,lV (by omega),Nat.add_sub_cancel_left,gX,ho] at e;cases q:as[m]? with
|none=>rw[q] at e;cases e
|some a=>
  rw[q] at e;exact⟨a,rfl,(eB (eB e)).symm⟩
def du.marks{m1:ey}{iE:ah->Prop}{s:aG}{v:V}(r:du K E O F H s v)(aL:y2 s=true)(aF:∀b∈cB H s v,iE b):du K m1 iE F H s v:=by
 cases s with
|ae t=>exact r
|own ts=>
  obtain⟨b,us,rfl,n,o,gU,z⟩:=r;exact⟨b,us,rfl,n,aF b (by simp[cB,g5]),gU,z⟩
|f3 ts=>
  obtain⟨b,us,rfl,n,o,gU,z⟩:=r;exact⟨b,us,rfl,n,aF b (by simp[cB,g5]),gU,z⟩
|obj m c ar=>
  obtain⟨b,us,rfl,ax,hf,a8,eR,hi⟩:=r;rw[iA ax] at aF;cases m with
  |own=>exact⟨b,us,rfl,ax,hf,a8,λd hd=>⟨(eR d hd).1,aF d hd⟩,λz=>by cases z⟩
  |dp=>cases aL
  |ck=>cases aL
def IE(r:bN K au E O F H (ε++fT c bs) (σ++gX as))(av:ε.length=σ.length)(aI:as[k]?=some a)(aa:bs[k]?=some ar){b:ah}(h:Hid H ε σ (.obj .own c ar) (.ref a) b):O b/\¬F b/\H b≠none:=by
 have go:∀{i:Nat} {s:aG} {v:V},(ε++fT c bs)[i]?=some (some s)->s.gn=true->(σ++gX as)[i]?=some (some v)->b∈cB H s v->O b/\¬F b/\H b≠none:=λ{i s v} e o ab hm=>by
  obtain⟨h5,c3,rs⟩:=r.val i s e;rw[ab] at c3;cases c3;obtain⟨o',a9,_⟩:=rs.at hm;exact⟨(rs.held hm).2.1 o,(rs.held hm).1,by rw[a9];exact λz=>by cases z⟩
 rcases h with ⟨j,s,v,e,o,ab,hm⟩|hm
 ·exact go (qS e) o (qT ab) hm
 ·exact go (mY aa) rfl (l4 aI av) hm
def bN.hide(r:bN K au E O F H (ε++fT c bs) (σ++gX as))(av:ε.length=σ.length)(aL:mB ε=true)(aI:as[k]?=some a)(aa:bs[k]?=some ar)(aJ:ε[d3]?=some none)(bq:σ[d3]?=some (some (.ref a))):
  bN K F (lJ H (Hid H ε σ (.obj .own c ar) (.ref a)) a) (λb=>Hid H ε σ (.obj .own c ar) (.ref a) b\/H b=none) F H (ε.set d3 (some (.obj .own c ar))) σ:=by
 have V2:d3<ε.length:=(ed.mp aJ).1;refine⟨by simp[av],λi s e=>?_,λi j s u v w fk aH aS cD dQ ab ak=>?_,⟨λb o e=>.inl (ae6 e).2,λ_ z=>z,λ_ z=>.inl z,r.cf⟩,λb c8=>agU c8,λb e=>.inr e⟩
 ·rcases get_set e with ⟨rfl,a9,_⟩|⟨ne,a9⟩
  ·cases a9
   obtain⟨h5,c3,b,us,ev,ax,hf,a8,eR,_⟩:=r.val _ _ (mY aa);rw[l4 aI av] at c3;cases c3;cases ev;refine⟨_,bq,a,us,rfl,ax,hf,a8,λd hd=>⟨(eR d hd).1,.inl (Or.inr (by rw[iA ax];exact hd))⟩,λz=>by cases z⟩
  ·obtain⟨v,ab,rs⟩:=r.val i s (qS a9);have sD:i<σ.length:=by rw[<- av];exact (ed.mp a9).1
   rw[h7 sD] at ab;refine⟨v,ab,?_⟩;have pl:=IY aL a9;cases aF:s.gn with
   |true=>exact rs.marks pl λb c8=>.inl (Or.inl ⟨i,s,v,a9,aF,ab,c8⟩)
   |false=>
    refine rs.marks pl λb c8=>?_
    cases s with
    |ae t=>simp[cB] at c8
    |own _=>cases aF
    |f3 _=>cases aF
    |obj m d0 Vh=>
     cases m with
     |dp=>cases pl
     |own=>cases aF
     |ck=>cases pl
 ·rcases get_set aH with ⟨rfl,f6,_⟩|⟨ne1,f6⟩
  ·rcases get_set aS with ⟨rfl,_,_⟩|⟨ne2,eO⟩
   ·exact absurd rfl fk
   ·cases f6
    rw[bq] at ab;cases ab;exact r.ne (ε.length+k) j _ u _ w (by have:=(ed.mp eO).1;omega) (mY aa) (qS eO) rfl dQ (l4 aI av) (qT ak)
  ·rcases get_set aS with ⟨rfl,eO,_⟩|⟨ne2,eO⟩
   ·cases eO
    rw[bq] at ak;cases ak;exact r.ne i (ε.length+k) s _ v _ (by have:=(ed.mp f6).1;omega) (qS f6) (mY aa) cD rfl (qT ab) (l4 aI av)
   ·exact r.ne i j s u v w fk (qS f6) (qS eO) cD dQ (qT ab) (qT ak)
def bN.abT(r:bN K au E O F H (ε++fT c bs) (σ++gX as))(av:ε.length=σ.length)(aI:as[k]?=some a)(aa:bs[k]?=some ar)
  (bR:bN K F (lJ H (Hid H ε σ (.obj .own c ar) (.ref a)) a) (λb=>Hid H ε σ (.obj .own c ar) (.ref a) b\/H b=none) aB af ε' bD) (aD:c' K F H aB af) (aJ:ε'[d3]?=some (some (.obj .own c fs'))) (bq:bD[d3]?=some (some (.ref a))) (aL:mB (ε'.set d3 none)=true):
  bN K au E O aB af (ε'.set d3 none++fT c (bs.set k fs')) (bD++gX as):=by
 have V2:d3<ε'.length:=(ed.mp aJ).1;have own:=λ{b:ah} h=>IE (b:=b) r av aI aa h;have ih:∀b,(Hid H ε σ (.obj .own c ar) (.ref a) b\/H b=none)->O b:=λb h=>h.elim (λz=>(own z).1) λz=>r.fr b z;have jD:∀b o,¬Hid H ε σ (.obj .own c ar) (.ref a) b->H b=some o->lq o->af b=some o:=λb o a7 e hm=>bR.ent.same.get (by rw[tK a7];exact e) λaT z=>by subst z;exact hm.cases (λ_ z=>by cases z) (λ_ z=>by cases z) (λ_ _ _ z=>by cases z)
 have Dv:∀b,¬Hid H ε σ (.obj .own c ar) (.ref a) b->H b≠none->aB b->F b:=λb a7 e f=>by
  rcases bR.ent.new b f with z|z
  ·exact z
  ·rcases wA z with q|q
   ·exact absurd q a7
   ·exact absurd q e
 have hlen:(ε'.set d3 none).length=bD.length:=by rw[List.length_set,bR.len]
 obtain⟨v0,Lg,aab⟩:=bR.val d3 _ aJ;obtain⟨JH,MI,Vc,KY,VQ,X8,Gh,LB⟩:=aab;rw[bq] at Lg;cases Lg;cases Vc;have mA:∀{m:Nat} {ke:List aG} {am:ah},m≠k->bs[m]?=some ke->as[m]?=some am->(du K E O aB af (.obj .own c ke) (.ref am)/\cB af (.obj .own c ke) (.ref am)=cB H (.obj .own c ke) (.ref am))/\∀b∈cB H (.obj .own c ke) (.ref am),¬(Hid H ε σ (.obj .own c ar) (.ref a) b\/H b=none):=λ{m ke am} hm aH aS=>by
  obtain⟨h5,c3,rs⟩:=r.val _ _ (mY (ε:=ε) (c:=c) aH);rw[l4 aS av] at c3;cases c3;have ov:∀b∈cB H (.obj .own c ke) (.ref am),¬Hid H ε σ (.obj .own c ar) (.ref a) b:=λb c8 z=>by
   rcases z with ⟨j,s,v,e,o,ab,q⟩|q
   ·exact r.ne (ε.length+m) j _ s _ v (by have:=(ed.mp e).1;omega) (mY aH) (qS e) rfl o (l4 aS av) (qT ab) b c8 q
   ·exact r.ne (ε.length+m) (ε.length+k) _ _ _ _ (by omega) (mY aH) (mY aa) rfl rfl (l4 aS av) (l4 aI av) b c8 q
  refine⟨rs.keep aD (λb c8=>?_) (λb c8 f=>?_) λ_ _ o=>o,λb c8 z=>?_⟩
  ·obtain⟨o,e,hm⟩:=rs.at c8;rw[e];exact jD b o (ov b c8) e hm
  ·obtain⟨o,e,hm⟩:=rs.at c8;exact Dv b (ov b c8) (by rw[e];exact λz=>by cases z) f
  ·obtain⟨o,e,hm⟩:=rs.at c8;rcases z with z|z
   ·exact ov b c8 z
   ·rw[z] at e;cases e
 have sk:∀{m:Nat} {ke:List aG},(bs.set k fs')[m]?=some ke->(m=k/\ke=fs')\/(m≠k/\bs[m]?=some ke):=λ{m ke} e=>by
  rw[rz] at e;by_cases q:k=m
  ·rw[if_pos q] at e;split at e
   ·cases e
    exact .inl ⟨q.symm,rfl⟩
   ·cases e
  ·rw[if_neg q] at e;exact .inr ⟨λz=>q z.symm,e⟩
 have VV:cB af (.obj .own c fs') (.ref a)=a::c7 fs' MI:=iA KY;have L6:∀b∈cB af (.obj .own c fs') (.ref a),(Hid H ε σ (.obj .own c ar) (.ref a) b\/H b=none):=λb c8=>by
  rw[VV] at c8;exact (Gh b c8).2
 have slot:∀{i:Nat} {s:aG},(ε'.set d3 none)[i]?=some (some s)->i≠d3/\ε'[i]?=some (some s):=λ{i s} e=>by
  rcases get_set e with ⟨_,a9,_⟩|⟨ne,a9⟩
  ·cases a9
  ·exact⟨λz=>ne z.symm,a9⟩
 have rk:∀{i:Nat} {s:aG} {v:V},ε'[i]?=some (some s)->s.gn=true->bD[i]?=some (some v)->∀b∈cB af s v,(Hid H ε σ (.obj .own c ar) (.ref a) b\/H b=none):=λ{i s v} e o ab b c8=>by
  obtain⟨h5,c3,rs⟩:=bR.val i s e;rw[ab] at c3;cases c3;exact (rs.held c8).2.1 o
 refine⟨?_,λi s e=>?_,λi j s u v w fk aH aS cD dQ ab ak=>?_,⟨λb o e=>?_,λb z=>bR.ent.sub b (r.ent.sub b z),λb z=>?_,bR.cf⟩,r.o0,λb e=>ih b (wA (bR.ent.same.none e))⟩
 ·have:=r.len;simp[fT,gX] at this ⊢;rw[bR.len];omega
 ·rcases A9 e with ⟨_,a9⟩|⟨m,ke,rfl,em,rfl⟩
  ·obtain⟨sP,aS⟩:=slot a9;obtain⟨v,ab,rs⟩:=bR.val i s aS;refine⟨v,qT ab,rs.marks (IY aL a9) λb c8=>?_⟩;cases aF:s.gn with
   |true=>exact ih b ((rs.held c8).2.1 aF)
   |false=>
    have pl:=IY aL a9;cases s with
    |ae t=>simp[cB] at c8
    |own _=>cases aF
    |f3 _=>cases aF
    |obj m d0 Vh=>
     cases m with
     |dp=>cases pl
     |own=>cases aF
     |ck=>cases pl
  ·rcases sk em with ⟨rfl,rfl⟩|⟨nm,nc⟩
   ·refine⟨_,l4 aI hlen,a,MI,rfl,KY,VQ,X8,λb c8=>⟨(Gh b c8).1,ih b (Gh b c8).2⟩,λz=>by cases z⟩
   ·obtain⟨h5,c3,rs⟩:=r.val _ _ (mY (ε:=ε) (c:=c) nc);obtain⟨am,cK,rfl⟩:=A8 av c3;exact⟨_,l4 cK hlen,(mA nm nc cK).1.1⟩
 ·rcases A9 aH with ⟨_,f1⟩|⟨m,ke,rfl,em,rfl⟩
  ·obtain⟨sP,air⟩:=slot f1;have DN:i<bD.length:=by rw[<- bR.len];exact (ed.mp air).1
   rw[h7 DN] at ab;rcases A9 aS with ⟨_,f2⟩|⟨kV,Vg,rfl,xo,rfl⟩
   ·obtain⟨LU,sy⟩:=slot f2;have DQ:j<bD.length:=by rw[<- bR.len];exact (ed.mp sy).1
    rw[h7 DQ] at ak;exact bR.ne i j s u v w fk air sy cD dQ ab ak
   ·obtain⟨am,cK,rfl⟩:=A8 hlen ak;rcases sk xo with ⟨rfl,rfl⟩|⟨nm,pz⟩
    ·rw[aI] at cK;cases cK;exact bR.ne i d3 s _ v _ sP air aJ cD rfl ab bq
    ·intro b c8 z;rw[(mA nm pz cK).1.2] at z;exact (mA nm pz cK).2 b z (rk air cD ab b c8)
  ·obtain⟨am,cK,rfl⟩:=A8 hlen ab;rcases A9 aS with ⟨_,f2⟩|⟨kV,Vg,rfl,xo,rfl⟩
   ·obtain⟨LU,sy⟩:=slot f2;have DQ:j<bD.length:=by rw[<- bR.len];exact (ed.mp sy).1
    rw[h7 DQ] at ak;rcases sk em with ⟨rfl,rfl⟩|⟨nm,nc⟩
    ·rw[aI] at cK;cases cK;exact bR.ne d3 j _ u _ w (λz=>LU z.symm) aJ sy rfl dQ bq ak
    ·intro b c8 z;rw[(mA nm nc cK).1.2] at c8;exact (mA nm nc cK).2 b c8 (rk sy dQ ak b z)
   ·obtain⟨ahI,sr,rfl⟩:=A8 hlen ak;rcases sk em with ⟨rfl,rfl⟩|⟨nm,nc⟩
    ·rcases sk xo with ⟨rfl,rfl⟩|⟨yY,pz⟩
     ·exact absurd rfl fk
     ·rw[aI] at cK;cases cK;intro b c8 z;rw[(mA yY pz sr).1.2] at z;exact (mA yY pz sr).2 b z (L6 b c8)
    ·rcases sk xo with ⟨rfl,rfl⟩|⟨yY,pz⟩
     ·rw[aI] at sr;cases sr;intro b c8 z;rw[(mA nm nc cK).1.2] at c8;exact (mA nm nc cK).2 b c8 (L6 b z)
     ·intro b c8 z;rw[(mA nm nc cK).1.2] at c8;rw[(mA yY pz sr).1.2] at z;exact r.ne (ε.length+m) (ε.length+kV) _ _ _ _ (by omega) (mY nc) (mY pz) rfl rfl (l4 cK av) (l4 sr av) b c8 z
 ·have ov:¬Hid H ε σ (.obj .own c ar) (.ref a) b:=λz=>by
   have:=r.o0 b (own z).1;rw[this] at e;cases e
  rcases r.ent.same b o e with q|⟨aT,ox,aH,q⟩
  ·exact bR.ent.same b o (by rw[tK ov];exact q)
  ·rcases bR.ent.same b _ (by rw[tK ov];exact q) with ba|⟨_,oy,_,ba⟩
   ·exact .inr ⟨aT,ox,aH,ba⟩
   ·exact .inr ⟨aT,oy,aH,ba⟩
 ·rcases bR.ent.new b z with q|q
  ·exact r.ent.new b q
  ·exact .inr (r.o0 b (ih b (wA q)))
end
end
section
variable [cV]
noncomputable def w6(K:a_)(A:List Nat)(σ:bc.St)(au:ah->Prop)(aQ:ey)(O F:ah->Prop)(H:aw)(D:Ends):Out->Prop
|.bQ ε'=>∀bD aB af,(∀i,i∉A->bD[i]?=σ[i]?)->c' K F H aB af->bN K au aQ O aB af ε' bD->D.bQ bD af
|.dj t=>∀v aB af,Ext au aQ.h aB af->Rep K aB af t v->D.dj v af
|_=>False
noncomputable def MD(K:a_)(A:List Nat)(g:bB):fZ:=λD σ H=>∃au aQ O F ε o,bN K au aQ O F H ε σ/\g ε=some o/\w6 K A σ au aQ O F H D o
abbrev se(X:bj)(A:List Nat)(s:Stmt)(g:bB):Prop:=hQ X s (MD X.K A g)
abbrev qE(X:bj)(A:List Nat)(s:List Stmt)(g:bB):Prop:=i1 X s (MD X.K A g)
def w6.aD{K:a_}{A:List Nat}{σ wZ:bc.St}{au O F aX:ah->Prop}{aQ:ey}{H H1:aw}{D:Ends}{o:Out}(h:w6 K A σ au aQ O F H D o)(az:∀i,i∉A->wZ[i]?=σ[i]?)(x:c' K F H aX H1):w6 K A wZ au aQ O aX H1 D o:=by
 cases o with
|bQ ε=>exact λbD aB af q k r=>h bD aB af (λi aJ=>(q i aJ).trans (az i aJ)) (x.trans k) r
|dj t=>exact h
|gT ε=>exact h
|d_ ε=>exact h
|hk t ε=>exact h
|jB s=>exact h
section
variable {X:bj}{A:List Nat}{e a b c:bz}{f:bE}{nj:jP}{g g':bB}{hY:fm}{ahO:Jy}{st:Stmt}{rest uD:List Stmt}{pos:Pos}
def IP:qE X A [] skip:=tP Px λD σ H ⟨au,aQ,O,F,ε,o,r,e,k⟩=>by
 cases e
 exact k σ F H (λ_ _=>rfl) c'.refl r
def wK(h:se X A st g):qE X A [st] g:=AS h
def Ir(ab:se X A st g)(ak:qE X A rest g'):qE X A (st::rest) (seq g g'):=tP (AG ab ak) λD σ H ⟨au,aQ,O,F,ε,o,r,e,k⟩=>by
 simp only[seq,cg] at e;obtain⟨cD,aH,aS⟩:=e;refine⟨au,aQ,O,F,ε,cD,r,aH,?_⟩;cases cD with
|bQ ε'=>exact λbD aB af az x bR=>⟨au,aQ,O,aB,ε',o,bR,aS,k.aD az x⟩
|dj t=>
  cases aS
  exact k
|gT ε'=>
  cases aS
  exact k
|d_ ε'=>
  cases aS
  exact k
|hk t ε'=>
  cases aS
  exact k
|jB s=>
  cases aS
  exact k
def P4(h:cC X e f):se X A (.Return (some e) pos) (cU f):=fN (rX h) λD σ H ⟨au,aQ,O,F,ε,o,r,e,k⟩=>by
 simp only[cU,dX] at e;obtain⟨t,bx,rfl⟩:=e;exact⟨au,aQ,O,F,ε,t,r,bx,λv aB af x q=>k v aB af (r.ent.trans x) q⟩
def I'(ay:kd X c hY)(ax:qE X A rest g)(aa:qE X A uD g'):se X A (.If c rest uD pos) (iff hY g g'):=fN (QH ay ax aa) λD σ H ⟨au,aQ,O,F,ε,o,r,e,k⟩=>by
 simp only[iff,cg] at e;obtain⟨b,dv,e⟩:=e;refine⟨au,aQ,O,F,ε,b,r,dv,λaB af x=>?_⟩;cases b with
|true=>exact aik ⟨au,aQ,O,aB,ε,o,r.ext x,by simpa using e,k.aD (λ_ _=>rfl) x.aD⟩
|false=>exact u7 ⟨au,aQ,O,aB,ε,o,r.ext x,by simpa using e,k.aD (λ_ _=>rfl) x.aD⟩
def P5(i:Nat){x:Str}{pos':Pos}(dk:X.N.Nodup)(he:cC X e f)(n':i∈A:=by decide)(aJ:X.N[i]?=some x:=by rfl)(hx:Loc X.env.scope x:=by first|exact Or.inl rfl|exact Or.inr rfl)
  (az:iS e (some (.Name x pos')) pos.line X.env=pure false:=by rfl) (hf:X.fn x=true\/X.env.scope.names.lookup x=some .local:=by first|exact .inl rfl|exact .inr rfl):
  se X A (.Assign [.Name x pos'] e pos) (asg i f):=fN (A2 dk aJ hx he az hf) λD σ H ⟨au,aQ,O,F,ε,o,r,e,k⟩=>by
 simp only[asg,dX] at e;obtain⟨t,bx,rfl⟩:=e;refine⟨au,aQ,O,F,ε,t,r,bx,λv aB af x q=>?_⟩;refine k _ aB af (λj bC=>?_) x.aD ((r.ext x).set i q);have:i≠j:=λz=>bC (z▸n');exact List.getElem?_set_ne this
noncomputable def vo(i:Nat)(XN:bE)(nj:jP):bB:=λε=>(nj ε).bind λr=>(XN r.2).bind λt=>match (r.2[i]?:Option (Option aG)),t with
|some (some (.own ts)),.int n=>if 0<=n/\n.toNat<ts.length then some (.bQ (r.2.set i (some (.own (ts.set n.toNat r.1))))) else none
|_,_=>none
theorem bh.Ml{K:a_}{F:ah->Prop}{H:aw}{t:T}{v:V}:∀{ts:List T} {vs:List V} (n:Nat),bh K F H ts vs->Rep K F H t v->bh K F H (ts.set n t) (vs.set n v)
| [],vs,n,h,q=>by
  simp only[bh] at h;subst h;simpa using bh.nil
|x::ts,vs,0,h,q=>by
  simp only[bh] at h;obtain⟨w,z,rfl,eb,y⟩:=h;exact bh.cons q y
|x::ts,vs,n+1,h,q=>by
  simp only[bh] at h;obtain⟨w,z,rfl,eb,y⟩:=h;exact bh.cons eb (bh.Ml n y q)
def afl{i:Nat}{o:bz}{iP:Pos}(a7:bU X o (hJ i))(ax:cC X a f)(he:m3 X e nj)
    (bG:∀v,assign (.Subscript o a iP) X.env v=(do
      let di <- holding [v] (eval o X.env)
      let e_ <- holding [v,di] (eval a X.env)
      standAt iP
      holding [v,di,e_] (setItem di e_ v)
      release [v,di,e_] []):=by intro _;rfl)
    (Wy:swapsWithSole [.Subscript o a iP] e pos.line X.env=pure false:=by rfl) (hw:swappedStores [.Subscript o a iP] e X.env=pure none:=by rfl)
    (ab:(k5 [.Subscript o a iP] X.env).map (·.2)=[assign (.Subscript o a iP) X.env]:=by rfl):
    se X A (.Assign [.Subscript o a iP] e pos) (vo i f nj):=
  fN (agv he (agw a7 ax set_list bG) Wy hw ab) λD σ H ⟨au,aQ,O,F,ε,o,r,e,bJ⟩=>by
  simp only[vo,cg] at e;obtain⟨⟨v,fE⟩,ev,t,bx,e⟩:=e;dsimp only at e bx;split at e
  next ts n gk=>
    split at e
    next aq=>
      cases e
      refine⟨au,aQ,O,F,ε,v,fE,r,ev,λvD aX H1 eQ aO aP=>?_⟩
      obtain⟨u,ab,b,us,rfl,gZ,aF,aa,e'⟩:=aO.val i _ gk;refine⟨_,ab,au,aQ,O,aX,fE,_,aO,bx,λe_ gw dn d5 c9=>?_⟩;have b5:=aO.ext d5;have uC:e_=.int n:=by simpa [Rep] using c9
      subst uC;have hlen:=e'.length;have LR:¬gw b:=λz=>by
        rcases d5.new b z with q|q
        · exact gZ q
        · rw[aa] at q
          cases q
      obtain⟨aD,kl⟩:=b5.mut (s':=.own (ts.set n.toNat v)) (o':=.lst (us.set n.toNat vD)) gk rfl ab LR aF (d5.same.get aa) (.inl ⟨_,rfl⟩) λaD=>⟨b,_,rfl,LR,aF,dY,((e'.ext d5).aD aD).Ml _ ((aP.ext d5).aD aD)⟩;refine⟨b,us,n,n.toNat,rfl,rfl,d5.same.get aa,?_,bJ σ gw _ (λ_ _=>rfl) ((eQ.trans d5.aD).trans aD) kl⟩;unfold nr
      first
        | (rw[if_pos aq.1,if_pos (by omega)])
        | (simp only[aq.1,if_true];split <;> first|rfl|omega)
        | (simp;omega)
    next=>cases e
  next=>cases e
end
structure iD(K:a_)(au:ah->Prop)(E:ey)(O F:ah->Prop)(H:aw)(ε:Ev)(σ:bc.St)(c1 c:Nat)(L:ah)(as:List ah)(bs:List (List aG)):Prop where
 rel:bN K au E O F H (ε++fT c bs) (σ++gX as)
 len:ε.length=σ.length
 pl:mB ε=true
 lst:H L=some (.lst (as.map .ref))
 ny:¬F L
 sO:¬O L
 h0:E.h L=none
 s9:σ[c1]?=some (some (.ref L))
 al:as.length=bs.length
inductive ue where
|bQ (bs:List (List aG)) (ε:Ev)
|dj (t:T)
abbrev FB:=List (List aG)->Ev->Option ue
noncomputable def w5(K:a_)(au:ah->Prop)(E:ey)(O F:ah->Prop)(H:aw)(D:Ends)(c1 c:Nat)(L:ah)(as:List ah):ue->Prop
|.bQ ly ε'=>∀bD aB af,c' K F H aB af->iD K au E O aB af ε' bD c1 c L as ly->D.bQ bD af
|.dj t=>∀v aB af,Ext au E.h aB af->Rep K aB af t v->D.dj v af
noncomputable def vA(K:a_)(c1 c:Nat)(g:FB):fZ:=λD σ H=>∃au E O F ε L as bs o,iD K au E O F H ε σ c1 c L as bs/\g bs ε=some o/\w5 K au E O F H D c1 c L as o
abbrev qI(X:bj)(c1 c:Nat)(s:Stmt)(g:FB):Prop:=hQ X s (vA X.K c1 c g)
abbrev w'(X:bj)(c1 c:Nat)(s:List Stmt)(g:FB):Prop:=i1 X s (vA X.K c1 c g)
def w5.aD{K:a_}{au O F aX:ah->Prop}{E:ey}{H H1:aw}{D:Ends}{c1 c:Nat}{L:ah}{as:List ah}{o:ue}(h:w5 K au E O F H D c1 c L as o)(x:c' K F H aX H1):w5 K au E O aX H1 D c1 c L as o:=by
 cases o with
|bQ bs ε=>exact λbD aB af k r=>h bD aB af (x.trans k) r
|dj t=>exact h
def Pz{ε:Ev}{i:Nat}{o:Option aG}(h:mB ε=true)(aF:∀s,o=some s->y2 s=true):mB (ε.set i o)=true:=by
 unfold mB at *;rw[List.all_eq_true] at *;intro x hx;rcases List.mem_or_eq_of_mem_set hx with q|q
 ·exact h x q
 ·subst q;cases x with
  |none=>rfl
  |some s=>exact aF s rfl
def bN.x4{K:a_}{au O F:ah->Prop}{E:ey}{H:aw}{ε:Ev}{σ:bc.St}{i:Nat}{w:Option V}(r:bN K au E O F H ε σ)(h:ε[i]?=some none):bN K au E O F H ε (σ.set i w):=by
 have sP:∀{j:Nat} {s:aG},ε[j]?=some (some s)->(σ.set i w)[j]?=σ[j]?:=λ{j s} e=>by
  refine List.getElem?_set_ne λz=>?_
  subst z;rw[h] at e;cases e
 refine⟨by simp[r.len],λj s e=>?_,λj k s u v fe kg aH aS cD dQ ab ak=>?_,r.ent,r.o0,r.fr⟩
 ·rw[sP e];exact r.val j s e
 ·rw[sP aH] at ab;rw[sP aS] at ak;exact r.ne j k s u v fe kg aH aS cD dQ ab ak
section
variable {K:a_}{au O F aX:ah->Prop}{E:ey}{H H1:aw}{ε:Ev}{σ:bc.St}{c1 c:Nat}{L:ah}{as:List ah}{bs:List (List aG)}
def iD.y4(B:iD K au E O F H ε σ c1 c L as bs):bN K au E O F H ε σ:=B.rel.KH B.len
theorem iD.ext(B:iD K au E O F H ε σ c1 c L as bs)(x:Ext F H aX H1):iD K au E O aX H1 ε σ c1 c L as bs:=
 ⟨B.rel.ext x,B.len,B.pl,x.same.get B.lst,(by
  intro z;rcases x.new L z with q|q
  ·exact B.ny q
  ·rw[B.lst] at q;cases q),B.sO,B.h0,B.s9,B.al⟩
theorem iD.set{t:T}{v:V}{i:Nat}(B:iD K au E O F H ε σ c1 c L as bs)(aJ:i<ε.length)(bC:i≠c1)(h:Rep K F H t v):iD K au E O F H (ε.set i (some (.ae t))) (σ.set i (some v)) c1 c L as bs:=by
 have r:=B.rel.set i h;rw[List.set_append_left _ _ aJ,List.set_append_left _ _ (by rw[<- B.len];exact aJ)] at r;exact⟨r,by simp[B.len],Pz B.pl λs e=>by cases e;rfl,B.lst,B.ny,B.sO,B.h0,by rw[List.getElem?_set_ne bC];exact B.s9,B.al⟩
theorem iD.x4{i:Nat}{w:Option V}(B:iD K au E O F H ε σ c1 c L as bs)(aJ:ε[i]?=some none)(bC:i≠c1):iD K au E O F H ε (σ.set i w) c1 c L as bs:=by
 have av:=(ed.mp aJ).1;have r:=bN.x4 (w:=w) B.rel (i:=i) (by rw[h7 av];exact aJ);rw[List.set_append_left _ _ (by rw[<- B.len];exact av)] at r;exact⟨r,by simp[B.len],B.pl,B.lst,B.ny,B.sO,B.h0,by rw[List.getElem?_set_ne bC];exact B.s9,B.al⟩
end
noncomputable def oA(g g':FB):FB:=λbs ε=>(g bs ε).bind λo=>match o with
|.bQ ly ε'=>g' ly ε'
|.dj t=>some (.dj t)
section
variable {X:bj}{c1 c:Nat}{st:Stmt}{rest:List Stmt}{g g':FB}{e:bz}{f:bE}{pos:Pos}
def ag2(h:qI X c1 c st g):w' X c1 c [st] g:=AS h
def IK(ab:qI X c1 c st g)(ak:w' X c1 c rest g'):w' X c1 c (st::rest) (oA g g'):=tP (AG ab ak) λD σ H ⟨au,E,O,F,ε,L,as,bs,o,r,e,k⟩=>by
 simp only[oA,cg] at e;obtain⟨cD,aH,aS⟩:=e;refine⟨au,E,O,F,ε,L,as,bs,cD,r,aH,?_⟩;cases cD with
|bQ ly ε'=>exact λbD aB af x bR=>⟨au,E,O,aB,ε',L,as,ly,o,bR,aS,k.aD x⟩
|dj t=>
  cases aS
  exact k
def ag0(h:cC X e f):qI X c1 c (.Return (some e) pos) (λ_ ε=>(f ε).map .dj):=fN (rX h) λD σ H ⟨au,E,O,F,ε,L,as,bs,o,r,e,k⟩=>by
 simp only[dX] at e;obtain⟨t,bx,rfl⟩:=e;exact⟨au,E,O,F,ε,t,r.y4,bx,λv aB af x q=>k v aB af (r.y4.ent.trans x) q⟩
noncomputable def uo(i:Nat)(f:bE):FB:=λbs ε=>(f ε).bind λt=>match t with
|.list ts=>if i<ε.length then some (.bQ bs (ε.set i (some (.own ts)))) else none
|_=>none
def af9(i:Nat){x:Str}{pos':Pos}(dk:X.N.Nodup)(he:qF X e f)(bC:i≠c1:=by decide)(aJ:X.N[i]?=some x:=by rfl)(hx:Loc X.env.scope x:=by first|exact Or.inl rfl|exact Or.inr rfl)
  (az:iS e (some (.Name x pos')) pos.line X.env=pure false:=by rfl) (hf:X.fn x=true\/X.env.scope.names.lookup x=some .local:=by first|exact .inl rfl|exact .inr rfl):
  qI X c1 c (.Assign [.Name x pos'] e pos) (uo i f):=fN (A2 dk aJ hx he az hf) λD σ H ⟨au,E,O,F,ε,L,as,bs,o,B,e,k⟩=>by
 simp only[uo,cg] at e;obtain⟨t,bx,e⟩:=e;split at e
 next ts=>
  split at e
  next av=>
   cases e
   refine⟨au,E,O,F,ε,ts,B.y4,bx,λa vs aB af x a7 gZ ax q=>?_⟩
   have r:=B.rel.GJ (s:=.own ts) (v:=.ref a) i x ⟨a,vs,rfl,gZ,B.rel.fr a a7,ax,q⟩ λb aa=>by
    have:b=a:=by simpa [cB,g5] using aa
    rw[this];exact a7
   rw[List.set_append_left _ _ av,List.set_append_left _ _ (by rw[<- B.len];exact av)] at r;have w0:=B.ext x;exact k _ aB af x.aD ⟨r,by simp[B.len],Pz B.pl λs e=>by cases e;rfl,w0.lst,w0.ny,w0.sO,w0.h0,by rw[List.getElem?_set_ne bC];exact B.s9,B.al⟩
  next=>cases e
 next=>cases e
noncomputable def isFree(ε:Ev)(i:Nat):Bool:=match (ε[i]?:Option (Option aG)) with
|some none=>true
|_=>false
def af2{ε:Ev}{i:Nat}(h:isFree ε i=true):ε[i]?=some none:=by
 unfold isFree at h;split at h
 next e=>exact e
 next=>cases h
noncomputable def qt(bJ d3 c:Nat)(b:bB):List (List aG)->List (List aG)->Ev->Option ue
|ez,[],ε=>some (.bQ ez ε)
|ez,ar::rest,ε=>if isFree ε d3=true/\bJ<ε.length then (b ((ε.set bJ (some (.ae (.int ez.length)))).set d3 (some (.obj .own c ar)))).bind λo=>match o with
  |.bQ fE=>(match (fE[d3]?:Option (Option aG)) with
   |some (some (.obj .own d0 fs'))=>if d0=c/\mB (fE.set d3 none)=true then qt bJ d3 c b (ez++[fs']) rest (fE.set d3 none) else none
   |_=>none)
  |.dj t=>some (.dj t)
  |_=>none else none
def lC(bJ d3 c:Nat)(b:bB):FB:=λbs ε=>qt bJ d3 c b [] bs ε
def Qv{body:List Stmt}{b:bB}{A:List Nat}{x y z:Str}(bJ d3:Nat){nA fK L7 sU L8 pt:Pos}{n:Nat}(aL:PassesOwn (bL X.prog X.w) X.A X.env X.dG)(dk:X.N.Nodup)(hm:X.mg "enumerate"=none)(aa:qE X A body b)
  (K7:bJ≠c1:=by decide) (fk:d3≠c1:=by decide) (K6:bJ≠d3:=by decide) (VX:d3∉A:=by decide) (V4:c1∉A:=by decide)
  (aI:X.N[bJ]?=some x:=by rfl) (aJ:X.N[d3]?=some y:=by rfl) (bC:X.N[c1]?=some z:=by rfl)
  (WA:Loc X.env.scope x:=by first|exact Or.inl rfl|exact Or.inr rfl) (Wz:Loc X.env.scope y:=by first|exact Or.inl rfl|exact Or.inr rfl)
  (VU:X.fn x=true\/X.env.scope.names.lookup x=some .local:=by first|exact .inl rfl|exact .inr rfl) (VS:X.fn y=true\/X.env.scope.names.lookup y=some .local:=by first|exact .inl rfl|exact .inr rfl)
  (bq:lu X.env.scope z:=by first|exact Or.inl rfl|exact Or.inr (Or.inl rfl)|exact Or.inr (Or.inr rfl)) (hd:(z==("__debug__":Str))=false:=by decide) (ik:(z==("__classdict__":Str))=false:=by decide)
  (bG:fo X "enumerate":=by rfl) (q4:bS [.Name z sU] X.env=[(false,eval (.Name z sU) X.env)]:=by rfl) (jy:bS [.Name z sU] X.env=(false,eval (.Name z sU) X.env)::bS [] X.env:=by rfl)
  (a7:(k5 [.Name x nA,.Name y fK] X.env).length=2:=by rfl) (jW:(k5 [.Name x nA,.Name y fK] X.env).findIdx? (·.1)=none:=by rfl)
  (ay:X.calm=true:=by rfl) (az:∀w,oS (.Call (.Name "enumerate" L7) [.Name z sU] [] L8) X.env w=pure w:=by intro _;rfl):
  qI X c1 c (.For (.Tuple [.Name x nA,.Name y fK] n pt) (.Call (.Name "enumerate" L7) [.Name z sU] [] L8) body [] pos) (lC bJ d3 c b):=by
 refine fN (IW aL ay (aeM bG hm (k' (Qa bC bq hd ik) mT jy) q4) (P' ay (Ig (AV dk aI WA VU) (Ig (AV dk aJ Wz VS) PA)) a7 jW) aa az) λD σ H ⟨au,E,O,F,ε,L,as,bs,o,B,e,k⟩=>?_
 refine⟨_,B.s9,L,as.map .ref,rfl,.inr ⟨eU.of B.lst,?_⟩⟩
 refine⟨λi m bD af=>m=bs.length - i/\∃aB ε' ez rest,iD X.K au E O aB af ε' bD c1 c L as (ez++rest)/\ez.length=i/\(ez++rest).length=bs.length/\c' X.K F H aB af/\qt bJ d3 c b ez rest ε'=some o,⟨_,rfl,F,ε,[],bs,B,rfl,rfl,c'.refl,e⟩,?_⟩
 rintro i m bD af ⟨rfl,aB,ε',ez,rest,j',od,av,aD,a9⟩;have lH:=j'.al;cases rest with
|nil=>
  cases a9
  refine .inl ⟨⟨as.map .ref,eU.of j'.lst,?_⟩,?_⟩
  ·rw[gc,lH];simp[od]
  ·rw[mJ] at j';exact k bD aB af aD j'
|cons ar rest=>
  simp only[qt] at a9;split at a9
  case isFalse=>cases a9
  next x'=>
  obtain⟨VY,DT⟩:=x';have DO:=af2 VY;simp only[cg] at a9;obtain⟨cD,dv,a9⟩:=a9;have d2:i<as.length:=by
   rw[lH];simp;omega
  have nq:as[i]?=some as[i]:=h6 d2;have ait:(ez++ar::rest)[i]?=some ar:=by
   rw[<- od,lV (dD _),Nat.sub_self];rfl
  have ahV:(ez++ar::rest).length=ez.length+1+rest.length:=by simp;omega
  refine .inr ⟨⟨as.map .ref,.ref as[i],eU.of j'.lst,by rw[ho,nq];rfl⟩,λr8 a'=>∃jA,jA<bs.length - i/\(jA=bs.length - (i+1)/\∃dR gP xj GB,iD X.K au E O dR a' gP r8 c1 c L as (xj++GB)/\xj.length=i+1/\(xj++GB).length=bs.length/\c' X.K F H dR a'/\qt bJ d3 c b xj GB gP=some o),λ_ _ z=>z,λb4 a' G5=>?_⟩
  obtain⟨p,v,Wm,rfl,rfl,WI⟩:=G5;have ev:v=.ref as[i]:=by
   have:=WI _ (eU.of j'.lst);rw[ho,nq] at this;exact (eB this).symm
  subst ev;have aR:=Ext.laid (o:=.tup [.int i,.ref as[i]]) j'.rel.cf Wm;refine⟨p,[.int i,.ref as[i]],rfl,df.of dY,rfl,_,_,rfl,_,_,rfl,rfl,?_⟩;have gh:=((j'.ext aR).set (t:=.int i) (v:=.int i) DT K7 (by simp[Rep])).x4 (i:=d3) (w:=some (.ref as[i])) (by rw[List.getElem?_set_ne K6];exact DO) fk;have VZ:(ε'.set bJ (some (.ae (.int i))))[d3]?=some none:=by rw[List.getElem?_set_ne K6];exact DO
  have V0:d3<ε'.length:=(ed.mp DO).1;have Li:((bD.set bJ (some (.int i))).set d3 (some (.ref as[i])))[d3]?=some (some (.ref as[i])):=by
   rw[List.getElem?_set_self];rw[List.length_set,<- j'.len];exact V0
  have _Z:=gh.rel.hide gh.len gh.pl nq ait VZ Li;rw[od] at dv;refine⟨_,_,_,_,_,cD,_Z,dv,?_⟩;cases cD with
  |bQ fE=>
   dsimp only at a9;split at a9
   next d0 fs' ab=>
    split at a9
    next dh=>
     obtain⟨rfl,hpl⟩:=dh;intro j_ gw dn Lb pL b5;have Ww:j_[d3]?=some (some (.ref as[i])):=(Lb d3 VX).trans Li;have dm:=gh.rel.abT gh.len nq ait b5 pL ab Ww hpl;have VG:(ez++ar::rest).set i fs'=(ez++[fs'])++rest:=by
      rw[<- od,List.set_append_right _ _ (dD _),Nat.sub_self];simp
     rw[VG] at dm;have K9:¬(Hid (upd af p (.tup [.int i,.ref as[i]])) (ε'.set bJ (some (.ae (.int i)))) ((bD.set bJ (some (.int i))).set d3 (some (.ref as[i]))) (.obj .own d0 ar) (.ref as[i])) L:=λz=>gh.sO (IE gh.rel gh.len nq ait z).1;have Vr:dn L=some (.lst (as.map .ref)):=b5.ent.same.get (by rw[tK K9];exact gh.lst);have Vp:¬gw L:=λz=>by
      rcases b5.ent.new L z with q|q
      ·exact gh.ny q
      ·rcases wA q with q|q
       ·exact K9 q
       ·rw[gh.lst] at q;cases q
     have Wx:j_[c1]?=some (some (.ref L)):=(Lb c1 V4).trans gh.s9;refine⟨_,?_,rfl,gw,_,ez++[fs'],rest,⟨dm,by rw[List.length_set,b5.len],hpl,Vr,Vp,gh.sO,gh.h0,Wx,?_⟩,by simp[od],?_,(aD.trans aR.aD).trans pL,a9⟩
     ·simp at av;omega
     ·rw[lH];simp
     ·simp at av ⊢;omega
    next=>cases a9
   next=>cases a9
  |dj t=>
   cases a9
   intro v gw dn d5 q;refine k v gw dn ?_ q;have own:=λ{b:ah} h=>IE (b:=b) gh.rel gh.len nq ait h;refine⟨λb o' aS=>?_,λb z=>d5.sub b (gh.rel.ent.sub b z),λb z=>?_,d5.cf⟩
   ·have ov:¬(Hid (upd af p (.tup [.int i,.ref as[i]])) (ε'.set bJ (some (.ae (.int i)))) ((bD.set bJ (some (.int i))).set d3 (some (.ref as[i]))) (.obj .own c ar) (.ref as[i])) b:=λz=>by
     have:=gh.rel.o0 b (own z).1;rw[this] at aS;cases aS
    rcases gh.rel.ent.same b o' aS with q|⟨aT,ox,aH,q⟩
    ·exact d5.same b o' (by rw[tK ov];exact q)
    ·rcases d5.same b _ (by rw[tK ov];exact q) with ba|⟨_,oy,_,ba⟩
     ·exact .inr ⟨aT,ox,aH,ba⟩
     ·exact .inr ⟨aT,oy,aH,ba⟩
   ·rcases d5.new b z with q|q
    ·exact gh.rel.ent.new b q
    ·rcases wA q with q|q
     ·exact .inr (gh.rel.o0 b (own q).1)
     ·exact .inr (gh.rel.o0 b (gh.rel.fr b q))
  |gT _=>cases a9
  |d_ _=>cases a9
  |hk _ _=>cases a9
  |jB _=>cases a9
noncomputable def ro(tt:Nat)(g:FB):List T->List (List aG)->Ev->Option ue
| [],bs,ε=>some (.bQ bs ε)
|t::ts,bs,ε=>if tt<ε.length then (g bs (ε.set tt (some (.ae t)))).bind λo=>match o with
  |.bQ ly ε'=>ro tt g ts ly ε'
  |.dj t=>some (.dj t) else none
def sX(tt:Nat)(it:iY)(g:FB):FB:=λbs ε=>(it ε).bind λts=>ro tt g ts bs ε
def agZ{iter:bz}{it:iY}{x:Str}(tt:Nat){nA:Pos}(aL:PassesOwn (bL X.prog X.w) X.A X.env X.dG)(dk:X.N.Nodup)(aJ:m4 X (.Name x nA) iter it)(aa:qI X c1 c st g)
  (Ws:tt≠c1:=by decide) (bg:X.N[tt]?=some x:=by rfl) (WC:Loc X.env.scope x:=by first|exact Or.inl rfl|exact Or.inr rfl) (VW:X.fn x=true\/X.env.scope.names.lookup x=some .local:=by first|exact .inl rfl|exact .inr rfl)
  (ay:X.calm=true:=by rfl) (az:∀w,oS iter X.env w=pure w:=by intro _;rfl):qI X c1 c (.For (.Name x nA) iter [st] [] pos) (sX tt it g):=by
 refine fN (IW aL ay aJ (AV dk bg WC VW) (AS aa) az) λD σ H ⟨au,E,O,F,ε,L,as,bs,o,B,e,k⟩=>?_
 simp only[sX,cg] at e;obtain⟨ts,bx,e⟩:=e;refine⟨au,E,O,F,ε,ts,B.y4,bx,λJ aX H1 aR ok=>?_⟩;refine⟨λi m bD af=>m=ts.length - i/\i<=ts.length/\∃aB ε' ly,iD X.K au E O aB af ε' bD c1 c L as ly/\c' X.K aX H1 aB af/\ro tt g (ts.drop i) ly ε'=some o,⟨_,rfl,ku _,aX,ε,bs,B.ext aR,c'.refl,by simpa using e⟩,?_⟩;rintro i m bD af ⟨rfl,uU,aB,ε',ly,j',aD,a9⟩;by_cases d2:i<ts.length
 ·have hd:ts.drop i=ts[i]::ts.drop (i+1):=List.drop_eq_getElem_cons d2;have mw:ts[i]?=some ts[i]:=h6 d2;rw[hd] at a9;simp only[ro] at a9;split at a9
  case isFalse=>cases a9
  next Wt=>
  simp only[cg] at a9;obtain⟨cD,mi,a9⟩:=a9;refine .inr ⟨ok.go i aB af _ aD j'.rel.cf mw,λr8 a'=>∃jA,jA<ts.length - i/\(jA=ts.length - (i+1)/\i+1<=ts.length/\∃dR gP JM,iD X.K au E O dR a' gP r8 c1 c L as JM/\c' X.K aX H1 dR a'/\ro tt g (ts.drop (i+1)) JM gP=some o),λ_ _ z=>z,λy a' G5=>?_⟩;obtain⟨dR,b4,aU⟩:=ok.lX i aB af _ y a' aD j'.rel.cf mw G5;have gh:=(j'.ext b4).set Wt Ws aU;refine⟨au,E,O,dR,_,L,as,ly,cD,gh,mi,?_⟩;cases cD with
  |bQ Tb Jk=>exact λj_ gw dn pL QR=>⟨_,by omega,rfl,d2,gw,Jk,Tb,QR,(aD.trans b4.aD).trans pL,a9⟩
  |dj t=>
   cases a9
   exact k
 ·have hd:ts.drop i=[]:=List.drop_eq_nil_of_le (by omega);rw[hd] at a9;cases a9;exact .inl ⟨ok.stop i aB af aD (by omega),k bD aB af (aR.aD.trans aD) j'⟩
end
end
section
variable [cV]
noncomputable def pM(c:Nat)(hA:lp):List T->Ev->Option (List (List aG))
| [],_=>some []
|t::ts,ε=>(hA (some (.ae t)::none::ε)).bind λs=>match s with
  |.obj .own d0 ar=>if d0=c then (pM c hA ts ε).map (ar::·) else none
  |_=>none
noncomputable def MA(K:a_)(c1 c:Nat)(it:iY)(hA:lp):fZ:=λD σ H=>∃au E O F ε ts bs,bN K au E O F H ε σ/\it ε=some ts/\ts.length<=big/\pM c hA ts ε=some bs/\mB (ε.set c1 none)=true/\c1<ε.length/\∀L as iE bD aB af,iD K au E iE aB af (ε.set c1 none) bD c1 c L as bs->D.bQ bD af
section
variable {X:bj}{iter elt:bz}{scope:Scope}{it:iY}{hA:lp}{pos py:Pos}{y:Str}{gS:List Str}
def adJ{X':bj}{R:Result->aK->Prop}{J:kb}{bW:List ah}{q_ D:ah}{gs:Nat->bT->Prop}{au O aX:ah->Prop}{E:ey}{a':aw}{ts:List T}{c:Nat}{bs:List (List aG)}{r7:Ev}{kE:bc.St}(hx:X'.dG=λ_ _=>False)(ay:X'.calm=true)
  (dk:X'.N.Nodup) (h0:X'.N[0]?=some y) (bI:Loc X'.env.scope y) (WH:X'.fn y=true\/X'.env.scope.names.lookup y=some .local) (he:qG X' elt hA)
  (T:Turn X'.prog X'.w X'.K (.Name y py) J bW q_ gs) (mE:∀af:aw,(∀b∈bW,af b=none)->∀b∈bW,kI X' [] af b) (ok:nZ X'.K J aX a' ts) (uN:ts.length<=big) (ih:¬O D) (mu:E.h D=none) (hlen:r7.length=kE.length)
  (fin:∀ru af aB s1 as,bc.Inv X' [] (ru::some (.ref D)::kE) af s1->c' X'.K aX a' aB af->bN X'.K au E O aB af (r7++fT c bs) (kE++gX as)->af D=some (.lst (as.map .ref))->¬aB D->R (.ok .next) s1)
  {s:aK} {w:Option V} {H:aw} {F:ah->Prop} (I:bc.Inv X' [] (w::some (.ref D)::kE) H s) (st:gs 0 s.heap) (fr:∀b∈bW,H b=none) (x:c' X'.K aX a' F H) (r:bN X'.K au E O F H r7 kE) (hZ:H D=some (.lst [])) (FR:¬F D) (fy:pM c hA ts r7=some bs):
  codeAny (bL X'.prog X'.w) X'.A (.compLoop (.ListComp elt [⟨.Name y py,iter,[],0⟩] scope pos) 0 (.ref q_) (.ref D) X'.env) R s:=by
 refine Nu (λn s'=>∃i fe af aB ez as rest,n=ts.length - i/\i<=ts.length/\bc.Inv X' [] (fe::some (.ref D)::kE) af s'/\gs i s'.heap/\(∀b∈bW,af b=none)/\c' X'.K aX a' aB af/\bN X'.K au E O aB af (r7++fT c ez) (kE++gX as)/\af D=some (.lst (as.map .ref))/\¬aB D/\as.length<=i/\pM c hA (ts.drop i) r7=some rest/\bs=ez++rest) ?_ ts.length
  ⟨0,w,H,F,[],[],bs,rfl,ku _,I,st,fr,x,by simpa [fT,gX] using r,by simpa using hZ,FR,dD _,by simpa using fy,rfl⟩
 rintro n s3 ⟨i,pZ,dn,gw,ez,as,rest,rfl,aJ,dx,pV,pC,d5,b5,oa,sM,uV,fs,es⟩;have gZ:∀{kH:ah->Prop} {iZ:aw} {jq:ah->Prop} {gx:aw} {o:dZ},Ext kH iZ jq gx->iZ D=some o->¬kH D->¬jq D:=λy e n z=>by
  rcases y.new D z with q|q
  ·exact n q
  ·rw[e] at q;cases q
 by_cases d2:i<ts.length
 ·have hd:ts.drop i=ts[i]::ts.drop (i+1):=List.drop_eq_getElem_cons d2;have mw:ts[i]?=some ts[i]:=h6 d2;rw[hd] at fs;simp only[pM,cg] at fs;obtain⟨cI,ex,fs⟩:=fs;split at fs
  case h_2=>cases fs
  next d0 ar=>
  split at fs
  case isFalse=>cases fs
  next x_=>
  subst x_;simp only[dX] at fs;obtain⟨GA,C',rfl⟩:=fs;refine fL (T.item X' rfl rfl rfl ay i [] s3 (pZ::some (.ref D)::kE) dn (λ_ _=>False) dx (mE dn pC) pV (ok.go i gw dn _ d5 b5.cf mw)) (λbZ s4 ⟨u,aC,cT⟩=>?_) λ_ _ z=>z;subst aC;refine fL cT (λ_ s5 ⟨hN,gx,l7,rm,vO,mD,uI⟩=>?_) λ_ _ z=>z;obtain⟨jq,vI,aU⟩:=ok.lX i gw dn _ hN gx d5 b5.cf mw vO;have ub:=l7.pinned (mE gx uI) (T.obj _ _ mD);refine wpAny_assign_Name (Ap ub dk h0 bI rm (λja pb _=>?_) WH);have Mg:=b5.ext vI;have oz:=(bN.KC (w:=none) (bN.KC (w:=some (.ref D)) (Mg.KH hlen))).set 0 aU;change bc.Inv X' ([]++rY bW s5.heap) (some hN::some (.ref D)::kE) gx ja at pb;change bN X'.K au E O jq gx (some (.ae ts[i])::none::r7) (some hN::some (.ref D)::kE) at oz;have again:∀{iC:bc.St} {eD:aw} {cW:aK},bc.Inv X' ([]++rY bW s5.heap) iC eD cW->gs (i+1) cW.heap/\(∀b∈bW,eD b=none)/\bc.Inv X' [] iC eD cW:=λ{iC eD cW} gy=>by
   refine⟨T.keep _ _ _ mD λb aa o e=>(gy.pin (b,o) (kr _ (kr _ (tC aa e)))).1,λb aa=>?_,gy.vC⟩
   obtain⟨o,e,d⟩:=T.obj _ _ mD b aa;exact (gy.pin (b,o) (kr _ (kr _ (tC aa e)))).2.1
  have u3:=o2 (X:=X') _ ja (some hN::some (.ref D)::kE) gx (λm7 eD=>m7=true/\∃jr,Ext jq gx jr eD) pb ⟨au,E,O,jq,_,true,oz,rfl,λjr eD lT=>⟨rfl,jr,lT⟩⟩;rw[hx] at u3;refine fL u3 (λL2 cW ⟨eD,gy,pw,jr,lT⟩=>?_) λ_ _ z=>z;subst pw;have rn:=oz.ext lT;simp only[if_true];have kf:=he _ cW (some hN::some (.ref D)::kE) eD (λv jQ=>∃a js,v=.ref a/\Ext jr eD js jQ/\du X'.K E O js jQ (.obj .own d0 ar) (.ref a)/\∀b∈cB jQ (.obj .own d0 ar) (.ref a),eD b=none) gy ⟨au,E,O,jr,_,_,rn,ex,λa js jQ mH rs a7=>⟨a,js,rfl,mH,rs,a7⟩⟩;rw[hx] at kf;refine fL kf (λu8 eS ⟨rt,jQ,Bp,aae,a,js,Vd,mH,aad,Wf⟩=>?_) λ_ _ z=>z;subst Vd;have G1:=vI.trans lT;have _Y:=(Mg.ext lT).Sh mH aad Wf;have KU:=G1.same.get oa;have X3:=gZ G1 oa sM;have sz:=mH.same.get KU;have sN:=gZ mH KU X3;obtain⟨EY,Gw⟩:=_Y.other (ys:=as.map .ref++[.ref a]) sN ih mu sz;have ax:=HV (X:=X') _ eS (some hN::some (.ref D)::kE) jQ (.ref D) [.ref a] (.ref D) [u8] (λ_ ua=>ua=upd jQ D (.lst (as.map .ref++[.ref a]))) Bp rfl (.cons aae .nil) ⟨D,as.map .ref,.ref a,rfl,rfl,sz,by rw[jl,gc];omega,rfl⟩;rw[hx] at ax;refine fL ax (λu9 pU ⟨v9,ua,Bq,_R,px⟩=>?_) λ_ _ z=>z;subst px;obtain⟨a1,a2,i2⟩:=again Bq;exact⟨_,by omega,i+1,some hN,_,js,ez++[ar],as++[a],GA,rfl,d2,i2,a1,a2,((d5.trans G1.aD).trans mH.aD).trans EY,Gw,by rw[dY];simp,sN,by simp;omega,C',by rw[es];simp⟩
 ·have hd:ts.drop i=[]:=List.drop_eq_nil_of_le (by omega);rw[hd] at fs;cases fs;refine fL (T.done X' rfl rfl rfl ay i [] s3 (pZ::some (.ref D)::kE) dn (λ_ _=>False) dx (mE dn pC) pV (ok.stop i gw dn d5 (by omega))) (λbZ s4 ⟨aC,i0⟩=>?_) λ_ _ z=>z;subst aC;rw[mJ] at es;subst es;exact fin pZ dn gw s4 as i0 d5 b5 oa sM
def ahh(j c:Nat){x:Str}{h2 iP:Pos}(dk:X.N.Nodup)(S:Bo X scope y gS)(hit:m4 X (.Name y py) iter it)
  (he:∀cl C dq aQ bW dI,qG (gN X (y::("":Str)::gS) scope cl C dq aQ bW dI) elt hA)
  (aJ:X.N[j]?=some x:=by rfl) (hx:Loc X.env.scope x:=by first|exact Or.inl rfl|exact Or.inr rfl)
  (mx:iS (.ListComp elt [⟨.Name y py,iter,[],0⟩] scope pos) (some (.Name x h2)) iP.line X.env=pure true:=by rfl)
  (hf:X.fn x=true\/X.env.scope.names.lookup x=some .local:=by first|exact .inl rfl|exact .inr rfl)
  (az:∀x,oS iter X.env x=pure x:=by intro _;rfl):
  hQ X (.Assign [.Name x h2] (.ListComp elt [⟨.Name y py,iter,[],0⟩] scope pos) iP) (MA X.K j c it hA):=by
 intro ag s σ H D I ⟨au,E,O,F,ε,ts,bs,r,bx,uN,fy,hpl,pG,k⟩;rw[exec_Assign_Name_used _ _ _ _ mx];refine aV (wpAny_standAt (aV ?_));show bp _ X.A (do let _ <- comprehension (.ListComp elt [⟨.Name y py,iter,[],0⟩] scope pos) scope X.env _ (newList []) false (eval iter X.env) (some (assign (.Name x h2) X.env))) _ _ s;have mv:∀z∈scope.names,z.2=.free->∃c,X.env.cells.lookup z.1=some c:=λz aq aI=>I.ok.has z.1 (S.ok.free z aq aI);refine aV (ct (Q:=λ_ s'=>bc.pe X ag D .next s') ?_ λ_ s' bK=>cw (cw bK));refine wpAny_comprehension_free rfl az (Nc mv) S.ok.kind S.ok.names (ct (hit ag s σ H (λJ H1=>∃aX,Ext F H aX H1/\nZ X.K J aX H1 ts) I ⟨au,E,O,F,ε,ts,r,bx,λJ aX H1 aR ok=>⟨aX,aR,ok⟩⟩) λv s1 ab=>ct ab λyj s2 ak=>?_);obtain⟨q_,bW,gs,J,a',rfl,b0,T,hI,f2,aX,aR,ok⟩:=ak;have gI:∀b∈bW,b<s2.heap.objs.size:=λb aa=>by
  obtain⟨o,aF,_⟩:=T.obj 0 _ hI b aa;exact cP aF
 have lF:a' s2.heap.objs.size=none:=b0.fresh;have X4:¬aX s2.heap.objs.size:=λz=>by
  obtain⟨o,e⟩:=aR.cf _ z;rw[lF] at e;cases e
 have h3:(s2.heap.push {cls:=.type "list",data:=.seq ([]:List aj).toArray}).objs.size=s2.heap.objs.size+1:=jF ..;refine wpAny_newList ?_ (ku _);refine wpAny_newFunctionEnv S.ok.cell (by intro y bI;simp at bI) (λe9 DV D2=>?_) S.ok.kind;have keep:∀b u,(s2.heap.push {cls:=.type "list",data:=.seq ([]:List aj).toArray}).get? b=some u->e9.get? b=some u:=λb u e=>D2.extBut b u (eL (cP e)) (c2 _ e);have i0:=aej (tk:=s2.toks+0) S b0 f2 gI DV keep;have a4:=r.ext aR;have lay:Ext aX a' aX (upd a' s2.heap.objs.size (.lst [])):=Ext.laid aR.cf lF;have kl:=a4.less lF;have KV:E.h s2.heap.objs.size=none:=r.o0 _ (r.fr _ (aR.same.none lF));have loc:Loc (relabel scope X.env) y:=by
  obtain⟨h1,aH,aS⟩:=v5 (env:=X.env) S.own;rcases aS with rfl|⟨q,_⟩
  ·exact .inl aH
  ·cases q
 have XR:(relabel scope X.env).names.lookup y=some .local:=by
  obtain⟨h1,aH,aS⟩:=v5 (env:=X.env) S.own;rcases aS with rfl|⟨q,_⟩
  ·exact aH
  ·cases q
 refine codeAny_compStart_list ?loop (T.self _ 0 _ _ _ (T.keep 0 _ _ hI λb aa o e=>keep b o (c2 _ e)) ?loop)
 refine adJ (X':=gN X (y::("":Str)::gS) scope (ic X.env scope.names []) (s2.heap.push {cls:=.type "list",data:=.seq ([]:List aj).toArray}).objs.size {s2 with heap:=s2.heap.push {cls:=.type "list",data:=.seq ([]:List aj).toArray} } (upd a' s2.heap.objs.size (.lst [])) bW (X.dI++ag))
  rfl S.ok.calm S.a8 rfl loc (.inr XR) (he _ _ _ _ _ _) T (λaf a7 b aa=>?_) ok uN (λz=>z.2 rfl) KV r.len (λru af aB s1 as qA hN bR Du FT=>?_) i0 (T.keep 0 _ _ hI λb aa o e=>keep b o (c2 _ e)) (λb aa=>?_) lay.aD kl dY X4 fy
 ·have ah_:=AW S.ok b0 f2 gI (y::("":Str)::gS);refine⟨a7 b aa,(ah_.sv b aa).1,ah_.sx b aa,.inl aa,λx c e=>(ah_.sv b aa).2 x c e,λp aL=>?_⟩;have kS:p∈X.dI++ag:=by simpa [gN] using aL
  exact (f2 b aa).2.2.2.2.2 p kS
 ·obtain⟨m,a7,_⟩:=id qA.loc;have inv:∀h',Heap.SameBut (s2.heap.push {cls:=.type "list",data:=.seq ([]:List aj).toArray}).objs.size s1.heap h'->bc.Inv X ag σ af {s1 with heap:=h'}:=λh' jb=>Ob b0 f2 qA jb;have above:X.dq.heap.objs.size<=(s2.heap.push {cls:=.type "list",data:=.seq ([]:List aj).toArray}).objs.size:=by
   rw[h3];exact Nat.le_succ_of_le b0.h3
  have cells:∀x c,X.env.cells.lookup x=some c->c≠(s2.heap.push {cls:=.type "list",data:=.seq ([]:List aj).toArray}).objs.size:=λx c e z=>by
   obtain⟨v,q⟩:=b0.cell x c e;have:=q.lt;rw[z,h3] at this;exact absurd this (Nat.not_lt.mpr (gu _))
  have pin:∀p∈X.dI++ag,p.1≠(s2.heap.push {cls:=.type "list",data:=.seq ([]:List aj).toArray}).objs.size:=λp aL z=>by
   have:=cP (b0.pin p aL).1;rw[z,h3] at this;exact absurd this (Nat.not_lt.mpr (gu _))
  have LG:(s2.heap.push {cls:=.type "list",data:=.seq ([]:List aj).toArray}).objs.size≠X.env.locals:=by
   have:=b0.lt;rw[h3];exact g_ (Nat.lt_succ_of_lt this)
  have free:af (s2.heap.push {cls:=.type "list",data:=.seq ([]:List aj).toArray}).objs.size=none:=qA.free;have Br:bc.Inv X ag σ af s1:=inv s1.heap (Heap.SameBut.refl ..);generalize (s2.heap.push {cls:=.type "list",data:=.seq ([]:List aj).toArray}).objs.size=C at *;show bp _ X.A (assign (.Name x h2) X.env (.ref s2.heap.objs.size)) _ _ _;refine wpAny_assign_Name (Ap (v:=.ref s2.heap.objs.size) Br dk aJ hx rfl (λs3 dx ⟨b,jb,aa⟩=>?_) hf);have nb:C≠b:=by
   rcases aa with rfl|aa
   ·exact LG
   ·exact (cells x b aa).symm
  refine⟨m,a7.sameBut jb nb,λh' GI=>?_⟩
  have l7:bc.Inv X ag (σ.set j (some (.ref s2.heap.objs.size))) af {s3 with heap:=h'}:=dx.turned (t':=s3.toks) (it:=C) (λb o aa e=>GI.extBut b o aa e) free LG (.inr above) cells pin;refine⟨_,af,l7,?_⟩;have iO:=bR.drop j;have K5:j<σ.length:=by rw[<- r.len];exact pG
  have yb:(ε.set j none++fT c bs)[j]?=some none:=by
   rw[h7 (by rw[List.length_set];exact pG),List.getElem?_set_self pG]
  rw[List.set_append_left _ _ pG] at iO;have bZ:=bN.x4 (w:=some (.ref s2.heap.objs.size)) iO yb;rw[List.set_append_left _ _ K5] at bZ;refine k s2.heap.objs.size as _ _ aB af ⟨bZ,by simp[r.len],hpl,Du,FT,λz=>z.2 rfl,KV,List.getElem?_set_self K5,?_⟩;have:=bR.len;have ak:=r.len;simp[fT,gX] at this;omega
 ·have:=(f2 b aa).1;rw[cQ (eL (gI b aa))];exact this
noncomputable def wQ(c1 c:Nat)(it:iY)(hA:lp)(g:FB):bB:=λε=>(it ε).bind λts=>(pM c hA ts ε).bind λbs=>if ts.length<=big/\mB (ε.set c1 none)=true/\c1<ε.length then (g bs (ε.set c1 none)).bind λo=>match o with
|.dj t=>some (.dj t)
|_=>none else none
def ag3{c1 c:Nat}{st:Stmt}{rest:List Stmt}{g:FB}(ab:hQ X st (MA X.K c1 c it hA))(ak:w' X c1 c rest g):iF X (st::rest) (wQ c1 c it hA g):=tP (AG ab ak) λD σ H ⟨au,E,O,F,ε,o,r,e,k⟩=>by
 simp only[wQ,cg] at e;obtain⟨ts,bx,bs,dv,e⟩:=e;split at e
 case isFalse=>cases e
 next ay=>
 simp only[cg] at e;obtain⟨cD,mi,e⟩:=e;refine⟨au,E,O,F,ε,ts,bs,r,bx,ay.1,dv,ay.2.1,ay.2.2,λL as iE bD aB af B=>⟨au,E,iE,aB,_,L,as,bs,cD,B,mi,?_⟩⟩;cases cD with
|bQ _ _=>cases e
|dj t=>
  cases e
  exact k
end
end
end D
end
section
namespace bY
open D
noncomputable def OQ:bB:=
  (seq (iK (eN (ao a0 (nm 0) (ai (.int 0)))) (b2 2) (iff (bO (ao oEq (ao a0 (nm 2) (ai (.int 0))) (nm 1))) (cU (ao a0 (nm 2) (ai (.int 1)))) skip))
  never)
def oV:List T->Option T:=eI OQ 3
noncomputable def PU:bB:=
  (seq (asg 1 (bH fM [(comp 1 [] (eN (ao a0 (nm 0) (ai (.int 0)))) (b2 0) (en true) (ai (.str "shut")))])) (seq (asg 2 (bH fM [(comp 1 [] (eN (ao a0 (nm 0) (ai (.int 1)))) (b2 0) (en true) (ai (.int 0)))])) (cU (bV [(ai (.str "off")),(ai (.int 0)),(ai .none),(aN 1),(bV []),(ai (.int 0)),(bV []),(ai (.int 0)),(ai (.int 0)),(aN 2)]))))
def j8:List T->Option T:=eI PU 3
noncomputable def OR:bB:=
  (seq (iK (eN (ao a0 (nm 0) (ai (.int 1)))) (b2 2) (iff (bO (ao oEq (ao a0 (nm 2) (ai (.int 0))) (nm 1))) (cU (nm 2)) skip)) (cU (ai .none)))
def wk:List T->Option T:=eI OR 3
def Od:bB:=
  (cU (bH vj [(ao sR (nm 0) (nm 1)),(ai (.int 0))]))
def rK:List T->Option T:=eI Od 2
noncomputable def MY:bB:=
  (seq (el 0 0 0 (aN 1)) (seq (el 0 0 1 (ao a0 (nm 2) (ai (.int 0)))) (seq (el 0 0 2 (ao a0 (nm 2) (ai (.int 1)))) (seq (el 0 0 3 (ao a0 (nm 2) (ai (.int 2)))) (seq (aii 0 0 4 (comp 1 [] (eN (ao a0 (nm 1) (ai (.int 0)))) (b2 0) (en true) (ao a0 (nm 0) (ai (.int 0)))) (ao a0 (nm 2) (ai (.int 3)))) (seq (jm 0 0 5 (eH tV (ao a0 (nm 2) (ai (.int 4))))) (seq (el 0 0 6 (ao a0 (nm 2) (ai (.int 5)))) (seq (jm 0 0 7 (eH tV (ao a0 (nm 2) (ai (.int 6))))) (seq (el 0 0 8 (ao a0 (nm 2) (ai (.int 7)))) (seq (el 0 0 9 (ao a0 (nm 2) (ai (.int 8)))) (seq (aii 0 0 10 (comp 1 [] (eN (ao a0 (nm 1) (ai (.int 1)))) (b2 0) (en true) (ao a0 (nm 0) (ai (.int 0)))) (ao a0 (nm 2) (ai (.int 9)))) (seq (el 0 0 11 (ai (.int 0))) (jm 0 0 12 (fO []))))))))))))))
def vV:List aG->Option (T×List aG):=runM 0 0 MY 3
noncomputable def M9:bB:=
  (seq (asg 1 (wY 0 0 4)) (seq (asg 2 (bH fM [(fld 0 0 5)])) (seq (asg 3 (bH fM [(fld 0 0 7)])) (seq (asg 4 (wY 0 0 10)) (cU (bV [(ft 0 0 1),(ft 0 0 2),(ft 0 0 3),(aN 1),(aN 2),(ft 0 0 6),(aN 3),(ft 0 0 8),(ft 0 0 9),(aN 4)]))))))
def rH:List aG->Option T:=g6 M9 5
def Nd:bB:=
  (kL 0 0 12 (bV [(ft 0 0 11),(aN 1),(aN 2)]))
def fB:List aG->Option (T×List aG):=runM 0 0 Nd 3
noncomputable def M3:bB:=
  (el 0 0 6 (ao a0 (ao a0 (fld 0 0 0) (ai (.int 2))) (ai (.int 2))))
def rG:List aG->Option (T×List aG):=runM 0 0 M3 1
noncomputable def Hp:bB:=
  (seq (dH (cZ 0 rG 0 [])) (iff (bO (ao (f_ true) (nm 1) (fld 0 0 7))) (seq (kL 0 0 7 (aN 1)) (dH (cZ 0 fB 0 [(ai (.str "alarm")),(aN 1)]))) skip))
def kv:List aG->Option (T×List aG):=runM 0 0 Hp 2
noncomputable def zK:bB:=
  (seq (iff (e0 (bO (ao g0 (nm 2) (ai (.str "way")))) (bO (ao oLe (ao a0 (ao a0 (fld 0 0 0) (ai (.int 2))) (ai (.int 1))) (ai (.int 0))))) (seq (dH (cZ 0 kv 0 [(aN 1)]))
  o6) skip) (seq (el 0 0 1 (ai (.str "coming"))) (seq (el 0 0 2 (ao a0 (ao a0 (fld 0 0 0) (ai (.int 2))) (ai (.int 1)))) (seq (el 0 0 3 (aN 1)) (dH (cZ 0 fB 0 [(ai (.str "coming")),(aN 1)]))))))
def rF:List aG->Option (T×List aG):=runM 0 0 zK 3
noncomputable def M1:bB:=
  (seq (asg 3 (bH oV [(ft 0 0 0),(aN 1)])) (iff (bO (ao oEq (nm 3) (ai (.str "day")))) (dH (cZ 0 kv 0 [(aN 1)])) (iff (bO (ao oEq (fld 0 0 1) (ai (.str "off")))) (iff (bO (ao oEq (nm 2) (ai (.str "cut")))) (dH (cZ 0 fB 0 [(ai (.str "fault")),(aN 1)])) skip) (iff (e0 (bO (ao oEq (nm 2) (ai (.str "cut")))) (bO (ao oEq (nm 3) (ai (.str "once"))))) (dH (cZ 0 kv 0 [(aN 1)])) (iff (bO (ao oEq (fld 0 0 1) (ai (.str "on")))) (dH (cZ 0 rF 0 [(aN 1),(aN 3)])) skip)))))
def vW:List aG->Option (T×List aG):=runM 0 0 M1 4
noncomputable def Nf:bB:=
  (seq (asg 3 (ml 0 0 4 (nm 1))) (seq (iff (bO (ao oEq (nm 2) (nm 3))) o6 skip) (seq (qr 0 0 4 (nm 1) (aN 2)) (iff (bO (ao oEq (nm 2) (ai (.str "shut")))) (iff (bO (ao oEq (nm 3) (ai (.str "cut")))) (dH (cZ 0 fB 0 [(ai (.str "mended")),(aN 1)])) skip) (iff (bO (ao (f_ true) (nm 1) (fld 0 0 5))) (dH (cZ 0 vW 0 [(aN 1),(aN 2)])) skip)))))
def v_:List aG->Option (T×List aG):=runM 0 0 Nf 4
noncomputable def Hd:bB:=
  (cU (pj (ao g0 (ao a0 (nm 1) (ai (.int 3))) (ai (.int 0))) (ao sQ (ml 0 0 10 (ao a0 (nm 1) (ai (.int 0)))) (ao a0 (nm 1) (ai (.int 3))))))
def aia:List aG->Option T:=g6 Hd 2
noncomputable def Hb:bB:=
  (seq (dH (cZ 0 fB 0 [(ai (.str "wrong")),(ai .none)])) (seq (n6 0 0 8 (ai (.int 1))) (iff (bO (ao sQ (fld 0 0 8) (ai (.int 3)))) (seq (el 0 0 8 (ai (.int 0))) (seq (el 0 0 9 (ai (.int 90))) (seq (dH (cZ 0 rG 0 [])) (dH (cZ 0 fB 0 [(ai (.str "attack")),(ai .none)]))))) skip)))
def tm:List aG->Option (T×List aG):=runM 0 0 Hb 1
noncomputable def rC:bB:=
  (seq (iff (bO (ao oEq (nm 1) (ai (.str "unset")))) (cU (ai (.bool false))) skip) (seq (iff (bO (ao g0 (fld 0 0 1) (ai (.str "off")))) (cU (ai (.bool true))) skip) (seq (iff (bO (ao oEq (nm 1) (ai (.str "shunt")))) (cU (vn (ao oEq (bH oV [(ft 0 0 0),(aN 2)]) (ai (.str "day"))) (ao (f_ false) (nm 2) (fld 0 0 5)))) skip) (cU (pj (ao oEq (nm 1) (ai (.str "free"))) (ao (f_ true) (nm 2) (fld 0 0 5)))))))
def nK:List aG->Option T:=g6 rC 3
noncomputable def MV:bB:=
  (seq (asg 2 (comp 1 [1] (eN (ao a0 (fld 0 0 0) (ai (.int 0)))) (b2 0) (bO (ao (f_ false) (ao a0 (nm 0) (ai (.int 1))) (nm 1))) (ao a0 (nm 0) (ai (.int 0))))) (cU (comp 1 [0] (eN (aN 2)) (b2 0) (hS (bO (ao g0 (ml 0 1 4 (nm 0)) (ai (.str "shut")))) (bO (ao (f_ true) (nm 0) (fld 0 1 5)))) (aN 0))))
def rE:List aG->Option T:=g6 MV 3
noncomputable def MM:bB:=
  (seq (asg 4 (om (bO (ao oEq (nm 2) (ai (.str "free")))) (ai (.str "shunt")) (aN 2))) (seq (iff (bO (ao (f_ true) (nm 4) (ao a0 (nm 1) (ai (.int 2))))) (cU (bV [(ai (.str "denied")),(ao a0 (nm 1) (ai (.int 1)))])) skip) (seq (iff (bO (eM 0 nK 0 [(aN 2),(aN 3)])) (cU (bV [(ai (.str "no")),(ao a0 (nm 1) (ai (.int 1)))])) skip) (seq (asg 5 (eM 0 rE 0 [(ai (.tuple (iT ["day","once"])))])) (seq (iff (hS (bO (ao oEq (nm 2) (ai (.str "set")))) (jE (nm 5))) (cU (bV [(ai (.str "open")),(ao a0 (nm 5) (ai (.int 0)))])) skip) (cU (ai .none)))))))
def vP:List aG->Option T:=g6 MM 6
noncomputable def MS:bB:=
  (seq (el 0 0 1 (ai (.str "on"))) (seq (el 0 0 2 (ai (.int 0))) (seq (dH (cZ 0 fB 0 [(ai (.str "on")),(ai .none)])) (iK (eN (eM 0 rE 0 [(ai (.tuple (iT ["inner","way"])))])) (b2 1) (dH (cZ 0 kv 0 [(aN 1)]))))))
def rB:List aG->Option (T×List aG):=runM 0 0 MS 2
noncomputable def Hn:bB:=
  (seq (jm 0 0 7 (fO [])) (seq (el 0 0 6 (ai (.int 0))) (seq (el 0 0 1 (ai (.str "leaving"))) (seq (el 0 0 2 (ao a0 (ao a0 (fld 0 0 0) (ai (.int 2))) (ai (.int 0)))) (seq (dH (cZ 0 fB 0 [(ai (.str "set")),(aN 1)])) (iff (bO (ao oLe (fld 0 0 2) (ai (.int 0)))) (dH (cZ 0 rB 0 [])) skip))))))
def tw:List aG->Option (T×List aG):=runM 0 0 Hn 2
noncomputable def MX:bB:=
  (seq (el 0 0 1 (ai (.str "off"))) (seq (el 0 0 2 (ai (.int 0))) (seq (el 0 0 6 (ai (.int 0))) (seq (el 0 0 3 (ai .none)) (seq (jm 0 0 5 (fO [])) (dH (cZ 0 fB 0 [(ai (.str "unset")),(aN 1)])))))))
def vU:List aG->Option (T×List aG):=runM 0 0 MX 2
noncomputable def vY:bB:=
  (iff (bO (ao oEq (nm 2) (ai (.str "set")))) (dH (cZ 0 tw 0 [(aN 1)])) (iff (bO (ao oEq (nm 2) (ai (.str "unset")))) (dH (cZ 0 vU 0 [(aN 1)])) (iff (bO (ao oEq (nm 2) (ai (.str "shunt")))) (seq (jm 0 0 5 (eH AH (ao da (fld 0 0 5) (fO [(aN 3)])))) (dH (cZ 0 fB 0 [(ai (.str "shunt")),(aN 3)]))) (seq (y6 0 0 5 (aN 3)) (dH (cZ 0 fB 0 [(ai (.str "free")),(aN 3)]))))))
def p_:List aG->Option (T×List aG):=runM 0 0 vY 4
noncomputable def Hc:bB:=
  (seq (asg 4 (eM 0 vP 0 [(aN 1),(aN 2),(aN 3)])) (iff (bO (eH i9 (nm 4))) (seq (qu 0 0 10 (ao a0 (nm 1) (ai (.int 0))) (ai (.int 1))) (dH (cZ 0 p_ 0 [(ao a0 (nm 1) (ai (.int 1))),(aN 2),(aN 3)]))) (dH (cZ 0 fB 0 [(ao a0 (nm 4) (ai (.int 0))),(ao a0 (nm 4) (ai (.int 1)))]))))
def tn:List aG->Option (T×List aG):=runM 0 0 Hc 5
noncomputable def v':bB:=
  (seq (asg 4 (bH wk [(ft 0 0 0),(aN 1)])) (iff (bO (ao i8 (fld 0 0 9) (ai (.int 0)))) (dH (cZ 0 fB 0 [(ai (.str "locked")),(ai .none)])) (iff (e0 (bO (eH i9 (nm 4))) (bO (eM 0 aia 0 [(aN 4)]))) (dH (cZ 0 tm 0 [])) (seq (el 0 0 8 (ai (.int 0))) (dH (cZ 0 tn 0 [(aN 4),(aN 2),(aN 3)]))))))
def qd:List aG->Option (T×List aG):=runM 0 0 v' 5
noncomputable def MU:bB:=
  (seq (n6 0 0 11 (aN 1)) (seq (el 0 0 9 (bH rK [(ft 0 0 9),(aN 1)])) (seq (el 0 0 6 (bH rK [(ft 0 0 6),(aN 1)])) (el 0 0 2 (bH rK [(ft 0 0 2),(aN 1)])))))
def rD:List aG->Option (T×List aG):=runM 0 0 MU 2
noncomputable def MT:bB:=
  (seq (asg 1 (ft 0 0 3)) (seq (el 0 0 1 (ai (.str "on"))) (seq (el 0 0 3 (ai .none)) (dH (cZ 0 kv 0 [(aN 1)])))))
def vR:List aG->Option (T×List aG):=runM 0 0 MT 2
noncomputable def Hg:bB:=
  (iff (bO (ao oEq (fld 0 0 1) (ai (.str "leaving")))) (dH (cZ 0 rB 0 [])) (dH (cZ 0 vR 0 [])))
def tu:List aG->Option (T×List aG):=runM 0 0 Hg 1
noncomputable def v8:bB:=
  (seq (iff (bO (ao oLt (nm 1) (ai (.int 1)))) o6 skip) (iff (hS (bO (ao (f_ false) (fld 0 0 1) (bV [(ai (.str "leaving")),(ai (.str "coming"))]))) (bO (ao oLe (fld 0 0 2) (nm 1)))) (seq (asg 2 (ao sR (nm 1) (fld 0 0 2))) (seq (dH (cZ 0 rD 0 [(ft 0 0 2)])) (seq (dH (cZ 0 tu 0 [])) (dH (cZ 0 rD 0 [(aN 2)]))))) (dH (cZ 0 rD 0 [(aN 1)]))))
def qb:List aG->Option (T×List aG):=runM 0 0 v8 3
noncomputable def zO:bB:=
  (iff (bO (ao oEq (ao a0 (nm 1) (ai (.int 0))) (ai (.str "line")))) (dH (cZ 0 v_ 0 [(ao a0 (nm 1) (ai (.int 1))),(ao a0 (nm 1) (ai (.int 2)))])) (iff (bO (ao oEq (ao a0 (nm 1) (ai (.int 0))) (ai (.str "code")))) (dH (cZ 0 qd 0 [(ao a0 (nm 1) (ai (.int 1))),(ao a0 (nm 1) (ai (.int 2))),(ao a0 (nm 1) (ai (.int 3)))])) (dH (cZ 0 qb 0 [(ao a0 (nm 1) (ai (.int 1)))]))))
def p':List aG->Option (T×List aG):=runM 0 0 zO 2
noncomputable def HE:bB:=
  (seq (xd 3 (ou 0 vV [(aN 0),(aN 1)])) (seq (iK (eN (aN 2)) (b2 4) (dH (cZ 0 p' 3 [(aN 4)]))) (vr 3)))
def lY:List T->Option aG:=rq HE 5
noncomputable def PV:bB:=
  (cU (sS 0 rH (nU lY [(aN 0),(aN 1),(aN 2)]) []))
def rT:List T->Option T:=eI PV 3
noncomputable def PT:bB:=
  (cU (bH fM [(tJ 0 12 (nU lY [(aN 0),(aN 1),(aN 2)]))]))
def oZ:List T->Option T:=eI PT 3
end bY
end
section
namespace bY
open D bY
noncomputable def Qw:bB:=
  (cU (sS 0 rH (nU lY [(aN 0),(aN 1),(bV [(aN 2)])]) []))
def wN:List T->Option T:=eI Qw 3
noncomputable def PS:bB:=
  (cU (bH fM [(comp 3 [] (eN (tJ 0 12 (nU lY [(aN 0),(aN 1),(bV [(aN 2)])]))) (eg [(b2 0),(b2 1),(b2 2)]) (en true) (bV [(aN 1),(aN 2)]))]))
def wH:List T->Option T:=eI PS 3
noncomputable def HD:bB:=
  (seq (iff (bO (ao oLt (nm 1) (bH hj [(nm 0)]))) (cU (ao a0 (nm 0) (nm 1))) skip) (cU (ai (.int 0))))
def rJ:List T->Option T:=eI HD 2
noncomputable def H6:bB:=
  (seq (asg 2 (ao oMod (ao gp (ao da (ao da (bH rJ [(aN 0),(aN 1)]) (ao gp (ai (.int 7919)) (nm 1))) (ai (.int 1))) (ai (.int 48271))) (ai (.int 2147483647)))) (cU (ao oMod (ao da (ao da (ao gp (nm 2) (nm 2)) (ao gp (ai (.int 7)) (nm 2))) (nm 1)) (ai (.int 2147483629)))))
def mQ:List T->Option T:=eI H6 3
noncomputable def H7:bB:=
  (seq (asg 2 (ao oMod (ao gp (ao da (ao da (nm 0) (ao gp (ai (.int 104729)) (nm 1))) (ai (.int 17))) (ai (.int 69621))) (ai (.int 2147483647)))) (cU (ao oMod (ao da (ao da (ao gp (nm 2) (nm 2)) (ao gp (ai (.int 3)) (nm 2))) (nm 1)) (ai (.int 2147483629)))))
def j7:List T->Option T:=eI H7 3
noncomputable def aff:bB:=
  (seq (asg 1 (bV [])) (seq (iK (ky (kA (bV [(ai (.str "a")),(ai (.str "b")),(ai (.str "back")),(ai (.str "d")),(ai (.str "hall")),(ai (.str "r")),(ai (.str "win")),(ai (.str "z"))]))) (eg [(b2 2),(b2 3)]) (seq (asg 4 (ao oDiv (bH j7 [(aN 0),(aN 2)]) (ai (.int 4)))) (iff (e0 (bO (ao oLt (ao oMod (nm 4) (ai (.int 8))) (ao da (ai (.int 3)) (ao oMod (nm 0) (ai (.int 5)))))) (bO (ao oEq (nm 2) (ao oMod (ao oDiv (nm 0) (ai (.int 8))) (ai (.int 8)))))) (asg 1 (ao da (nm 1) (bV [(bV [(aN 3),(ao a0 (bV [(ai (.str "day")),(ai (.str "inner")),(ai (.str "once")),(ai (.str "way")),(ai (.str "way"))]) (ao oMod (ao oDiv (nm 4) (ai (.int 8))) (ai (.int 5))))])]))) skip))) (seq (asg 5 (bV [])) (seq (iK (ky (kA (bV [(ai (.str "0000")),(ai (.str "1234")),(ai (.str "4321")),(ai (.str "7777")),(ai (.str "9990")),(ai (.str "9999"))]))) (eg [(b2 2),(b2 6)]) (seq (asg 4 (ao oDiv (bH j7 [(aN 0),(ao da (ai (.int 10)) (nm 2))]) (ai (.int 4)))) (iff (e0 (bO (ao i8 (ao oMod (nm 4) (ai (.int 3))) (ai (.int 0)))) (bO (ao oEq (nm 2) (ai (.int 1))))) (seq (asg 7 (bH fM [(comp 1 [4] (ji (ai (.int 3))) (b2 0) (bO (ao i8 (ao oMod (ao oDiv (nm 1) (ao a0 (bV [(ai (.int 4)),(ai (.int 16)),(ai (.int 64))]) (nm 0))) (ai (.int 4))) (ai (.int 0)))) (ao a0 (bV [(ai (.str "set")),(ai (.str "shunt")),(ai (.str "unset"))]) (nm 0)))])) (seq (asg 8 (ao a0 (bV [(ai (.str "ann")),(ai (.str "bo")),(ai (.str "cy"))]) (ao oMod (ao oDiv (nm 4) (ai (.int 256))) (ai (.int 3))))) (asg 5 (ao da (nm 5) (bV [(bV [(aN 6),(aN 8),(aN 7),(ao a0 (bV [(ai (.int 0)),(ai (.int 0)),(ai (.int 1)),(ai (.int 2)),(ai (.int 9))]) (ao oMod (ao oDiv (nm 4) (ai (.int 1024))) (ai (.int 5))))])]))))) skip))) (seq (asg 4 (ao oDiv (bH j7 [(aN 0),(ai (.int 20))]) (ai (.int 4)))) (seq (asg 9 (bV [(ao a0 (bV [(ai (.int 0)),(ai (.int 5)),(ai (.int 30)),(ai (.int 60))]) (ao oMod (nm 4) (ai (.int 4)))),(ao a0 (bV [(ai (.int 0)),(ai (.int 4)),(ai (.int 20)),(ai (.int 60))]) (ao oMod (ao oDiv (nm 4) (ai (.int 4))) (ai (.int 4)))),(ao a0 (bV [(ai (.int 1)),(ai (.int 9)),(ai (.int 120)),(ai (.int 300))]) (ao oMod (ao oDiv (nm 4) (ai (.int 16))) (ai (.int 4))))])) (cU (bV [(aN 1),(aN 5),(aN 9)]))))))))
def wB:List T->Option T:=eI aff 10
noncomputable def OP:bB:=
  (seq (asg 2 (ao a0 (ao a0 (ao a0 (nm 0) (ai (.int 0))) (ao oMod (ao oDiv (nm 1) (ai (.int 8))) (bH hj [(ao a0 (nm 0) (ai (.int 0)))]))) (ai (.int 0)))) (seq (asg 3 (ao oMod (nm 1) (ai (.int 10)))) (seq (iff (bO (ao oLt (nm 3) (ai (.int 5)))) (cU (bV [(ai (.str "line")),(aN 2),(ao a0 (bV [(ai (.str "shut")),(ai (.str "open")),(ai (.str "open")),(ai (.str "cut"))]) (ao oMod (ao oDiv (nm 1) (ai (.int 512))) (ai (.int 4))))])) skip) (seq (iff (bO (ao oLt (nm 3) (ai (.int 7)))) (cU (bV [(ai (.str "ticks")),(ao da (ai (.int 1)) (ao oMod (ao oDiv (nm 1) (ai (.int 64))) (ao a0 (bV [(ai (.int 3)),(ai (.int 40)),(ai (.int 200))]) (ao oMod (ao oDiv (nm 1) (ai (.int 4096))) (ai (.int 3))))))])) skip) (seq (asg 4 (ao a0 (ao a0 (ao a0 (nm 0) (ai (.int 1))) (ao oMod (ao oDiv (nm 1) (ai (.int 64))) (bH hj [(ao a0 (nm 0) (ai (.int 1)))]))) (ai (.int 0)))) (seq (iff (bO (ao oEq (ao oMod (ao oDiv (nm 1) (ai (.int 65536))) (ai (.int 4))) (ai (.int 0)))) (asg 4 (ao a0 (bV [(ai (.str "0001")),(ai (.str "1111")),(ai (.str "9999")),(ai (.str "0000"))]) (ao oMod (ao oDiv (nm 1) (ai (.int 512))) (ai (.int 4))))) skip) (seq (asg 5 (ao a0 (bV [(ai (.str "set")),(ai (.str "set")),(ai (.str "unset")),(ai (.str "shunt")),(ai (.str "free")),(ai (.str "shunt"))]) (ao oMod (ao oDiv (nm 1) (ai (.int 4096))) (ai (.int 6))))) (seq (iff (bO (ao (f_ false) (nm 5) (bV [(ai (.str "set")),(ai (.str "unset"))]))) (cU (bV [(ai (.str "code")),(aN 4),(aN 5),(ai .none)])) skip) (cU (bV [(ai (.str "code")),(aN 4),(aN 5),(aN 2)]))))))))))
def qf:List T->Option T:=eI OP 6
noncomputable def AX:bB:=
  (seq (asg 3 (bH fM [(comp 1 [0,1] (ji (ao oMod (nm 1) (ao da (nm 2) (ai (.int 1))))) (b2 0) (en true) (bH qf [(aN 1),(ao oDiv (bH j7 [(aN 2),(ao da (ai (.int 30)) (nm 0))]) (ai (.int 4)))]))])) (seq (iff (hS (bO (ao oEq (ao oMod (ao oDiv (nm 1) (ai (.int 64))) (ai (.int 5))) (ai (.int 0)))) (bO (ao i8 (bH hj [(nm 3)]) (ai (.int 2))))) (asg 3 (ao da (slice (nm 3) optN (opt (eH pN (ai (.int 3))))) (ao vk (bV [(bV [(ai (.str "code")),(ai (.str "5555")),(ai (.str "unset")),(ai .none)])]) (ai (.int 3))))) skip) (cU (nm 3))))
def o1:List T->Option T:=eI AX 4
end bY
end
section
namespace iW
open D bY
noncomputable def zU:bB:=
  (seq (el 1 0 0 (aN 1)) (seq (jm 1 0 1 (fO [])) (jm 1 0 2 (fO [(bH j8 [(aN 1)])]))))
def qc:List aG->Option (T×List aG):=runM 1 0 zU 2
def Ac:bB:=
  (cU (ao a0 (fld 1 0 2) (eH pN (ai (.int 1)))))
def mO:List aG->Option T:=g6 Ac 1
noncomputable def z3:bB:=
  (seq (asg 2 (bH wH [(ft 1 0 0),(eM 1 mO 0 []),(aN 1)])) (seq (asg 3 (bH wN [(ft 1 0 0),(eM 1 mO 0 []),(aN 1)])) (seq (kL 1 0 1 (aN 1)) (seq (kL 1 0 2 (aN 3)) (pS (aN 2))))))
def nM:List aG->Option (T×List aG):=runM 1 0 z3 4
def zP:bB:=
  (pB (bH oV [(ft 1 0 0),(aN 1)]))
def qa:List aG->Option T:=g6 zP 2
noncomputable def Am:bB:=
  (seq (pB (eM 1 qa 0 [(aN 1)])) (iv (cZ 1 nM 0 [(bV [(ai (.str "line")),(aN 1),(aN 2)])])))
def wd:List aG->Option (T×List aG):=runM 1 0 Am 3
noncomputable def An:bB:=
  (seq (iff (e0 (bO (eH iV (nm 3))) (bO (ao (f_ false) (nm 2) (ai (.tuple (iT ["shunt","free"])))))) (pB (eM 1 qa 0 [(aN 3)])) skip) (iv (cZ 1 nM 0 [(bV [(ai (.str "code")),(aN 1),(aN 2),(aN 3)])])))
def we:List aG->Option (T×List aG):=runM 1 0 An 4
def Ab:bB:=
  (iv (cZ 1 nM 0 [(bV [(ai (.str "ticks")),(aN 1)])]))
def wc:List aG->Option (T×List aG):=runM 1 0 Ab 2
def AE:bB:=
  (cU (bH fM [(fld 1 0 1)]))
def nO:List aG->Option T:=g6 AE 1
noncomputable def AF:bB:=
  (cU (bH oZ [(ft 1 0 0),(ao a0 (fld 1 0 2) (ai (.int 0))),(eM 1 nO 0 [])]))
def qg:List aG->Option T:=g6 AF 1
noncomputable def Al:bB:=
  (seq (iff (bO (ao oEq (ao a0 (nm 1) (ai (.int 0))) (ai (.str "line")))) (iv (cZ 1 wd 0 [(ao a0 (nm 1) (ai (.int 1))),(ao a0 (nm 1) (ai (.int 2)))])) skip) (seq (iff (bO (ao oEq (ao a0 (nm 1) (ai (.int 0))) (ai (.str "code")))) (iv (cZ 1 we 0 [(ao a0 (nm 1) (ai (.int 1))),(ao a0 (nm 1) (ai (.int 2))),(ao a0 (nm 1) (ai (.int 3)))])) skip) (iv (cZ 1 wc 0 [(ao a0 (nm 1) (ai (.int 1)))]))))
def qe:List aG->Option (T×List aG):=runM 1 0 Al 2
end iW
end
section
namespace n1
open D bY iW
noncomputable def QO:bB:=
  (seq (asg 1 (bH wB [(bH mQ [(aN 0),(ai (.int 0))])])) (seq (asg 2 (bH wB [(bH mQ [(aN 0),(ai (.int 1))])])) (seq (asg 3 (bV [(aN 1),(aN 2),(aN 1)])) (seq (asg 4 (comp 2 [0] (ky (kA (aN 3))) (eg [(b2 0),(b2 1)]) (en true) (bH o1 [(aN 1),(bH mQ [(aN 2),(ao da (ai (.int 2)) (nm 0))]),(ai (.int 12))]))) (wQ 5 1 (eN (aN 3)) (ou 1 qc [(aN 0)]) (oA (uo 6 (fO [(bV []),(bV []),(bV [])])) (oA (sX 7 (ji (ai (.int 12))) (lC 8 9 1 (iff (bO (ao oLt (nm 7) (bH hj [(ao a0 (nm 4) (nm 8))]))) (vo 6 (aN 8) (rj da (t2 (ao a0 (nm 6) (nm 8))) (r6 1 qe [] 9 [(ao a0 (ao a0 (nm 4) (nm 8)) (nm 7))]))) skip))) (oA (lC 8 9 1 (seq (asg 10 (ao a0 (nm 3) (nm 8))) (seq (asg 11 (bH oZ [(aN 10),(bH j8 [(aN 10)]),(ao a0 (nm 4) (nm 8))])) (seq (iff (e0 (bO (ao g0 (eM 1 mO 9 []) (bH rT [(aN 10),(bH j8 [(aN 10)]),(ao a0 (nm 4) (nm 8))]))) (e0 (bO (ao g0 (eM 1 qg 9 []) (nm 11))) (bO (ao g0 (eM 1 nO 9 []) (ao a0 (nm 4) (nm 8)))))) (cU (ai (.bool false))) skip) (iff (bO (ao g0 (ao a0 (nm 6) (nm 8)) (bH fM [(comp 3 [] (eN (aN 11)) (eg [(b2 0),(b2 1),(b2 2)]) (en true) (bV [(aN 1),(aN 2)]))]))) (cU (ai (.bool false))) skip))))) (λ_ ε=>((ai (.bool true)) ε).map .dj)))))))))
def aih:List T->Option T:=eI QO 12
end n1
end
section
namespace n1
open PySem PySem.Spec PyProof.Rows bc D bY iW
variable [cV]
noncomputable def top(i:Nat):Stmt:=PySem.Challenge.pw_doorwatch_k45_whole_boxes_side_by_side.main.body.getD i (.Pass ⟨0,0,0,0⟩)
section
variable {P:cF}{w:cv}{K:a_}{mg:Str->Option aj}{base:bT}{bo c_:ah}{k:Nat}{f:ah}{fd:fU}
def abO{α:Type}{us:List α}(h:us.length=1):∃a,us=[a]:=match us,h with|[a],_=>⟨_,rfl⟩
def abP{α:Type}{us:List α}(h:us.length=2):∃a b,us=[a,b]:=match us,h with|[a,b],_=>⟨_,_,rfl⟩
def abQ{α:Type}{us:List α}(h:us.length=3):∃a b c,us=[a,b,c]:=match us,h with|[a,b,c],_=>⟨_,_,_,rfl⟩
def abR{α:Type}{us:List α}(h:us.length=4):∃a b c d,us=[a,b,c,d]:=match us,h with|[a,b,c,d],_=>⟨_,_,_,_,rfl⟩
set_option hygiene false in
local macro_rules | `(unop% b6 $F) => `(cE.binds $F λ_ _ _ _ _ _ us av => by obtain ⟨_, rfl⟩ := abO av; rfl)
set_option hygiene false in
local macro_rules | `(unop% cm $F) => `(cE.binds $F λ_ _ _ _ _ _ us av => by obtain ⟨_, _, rfl⟩ := abP av; rfl)
set_option hygiene false in
local macro_rules | `(unop% gD $F) => `(cE.binds $F λ_ _ _ _ _ _ us av => by obtain ⟨_, _, _, rfl⟩ := abQ av; rfl)
set_option hygiene false in
local macro_rules | `(unop% pk $F) => `(cE.binds $F λ_ _ _ _ _ _ us av => by obtain ⟨_, _, _, _, rfl⟩ := abR av; rfl)
local macro_rules | `(unop% dA 0) => `(⟨rfl, rfl, rfl, by decide +kernel, rfl, by decide +kernel, by decide +kernel⟩)
set_option hygiene false in
local macro_rules | `(unop% d4 1) => `(fv K 1 c_ ["plan", "events", "states"])
set_option hygiene false in
local macro_rules | `(unop% d4 0) => `(fv K 0 bo ["plan", "mode", "left", "came", "lines", "shunts", "siren", "alarms", "tries", "locked", "used", "past", "told"])
set_option hygiene false in
local macro_rules | `(unop% lm $t) => `(λcS A outer s H E aC => $t)
local macro_rules | `(unop% e1 $t) => `(λ_ _ _ _ _ _ => $t)
local macro_rules | `(unop% a8 $l) => `(show List.Nodup ($l : List Str) by decide +kernel)
local macro_rules | `(binop% co $s $l) => `(Qt (sc := cb $s) $l rfl rfl rfl (by decide +kernel))
set_option hygiene false in
local macro_rules | `(binop% fR $a $b) => `(gO (IZ (by exact aC.units)) I1 $a $b)
set_option hygiene false in
local macro_rules | `(binop% rg $a $b) => `(gO (Qd (by exact aC.units)) Qf $a $b)
abbrev As:Stmt:=top 27
def NU:cR ["_law_number","_law_k","_law_drawn_here"] ["_law_number","_law_k"] (cb As):=unop%dA 0
def rM(F:cE K "_law_drawn" "_law_drawn" As f fd)(m:mg "_law_drawn"=some (.ref f)) :Cl P w K mg base "_law_drawn" (k+1) 2 j7:=
 kB F NU (unop%cm F) m unop%lm
  (bM (ei 2 NU.a8 (gf (aA (qq (aA (iU (aA (iU (a5 0) (aA (qq (aA aZ) (a5 1))))) (aA aZ))) (aA aZ))) (aA aZ))) (bP (fl (gf (aA (iU (aA (iU (aA (qq (a5 2) (a5 2))) (aA (qq (aA aZ) (a5 2))))) (a5 1))) (aA aZ)))))
abbrev wt:Stmt:=top 28
def j6:cR ["_law_number","_law_zones","_law_k","_law_name","_law_drawn_here","_law_codes","_law_figures","_law_rights","_law_who","_law_times"] ["_law_number"] (cb wt):=unop%dA 0
def AL(F:cE K "_law_plan" "_law_plan" wt f fd)(m:mg "_law_plan"=some (.ref f))(lb:mg "enumerate"=none)(rM:Cl P w K mg base "_law_drawn" k 2 j7)(ff:mg "tuple"=none)(lg:mg "range"=none):Cl P w K mg base "_law_plan" (k+1) 1 wB:=
 kB F j6 (unop%b6 F) m unop%lm
  (bM (ei 1 j6.a8 (dE br)) (bM (tX oN (I5 lb (dE (aE bX (aE bX (aE bX (aE bX (aE bX (aE bX (aE bX (aE bX br)))))))))) (wW (l2 (gF 2 j6.a8) (l2 (gF 3 j6.a8) wX))) (bM (ei 4 j6.a8 (h9 (aA (fV rM aC (aE (bA 0) (aE (bA 2) br)))) (aA aZ))) (bP (dT (mG (w_or (gO (t4.or tD) tT (aA (gf (a5 4) (aA aZ))) (aA (iU (aA aZ) (aA (gf (a5 0) (aA aZ)))))) (r2 (binop%fR (a5 2) (aA (gf (aA (h9 (a5 0) (aA aZ))) (aA aZ))))))) (bP (ei 1 j6.a8 (iU (a5 1) (aA (dE (aE (dE (aE (bA 3) (aE (b' (aA (dE (aE bX (aE bX (aE bX (aE bX (aE bX br))))))) (aA (gf (aA (h9 (a5 4) (aA aZ))) (aA aZ)))) br))) br)))))) fD)))) (bM (ei 5 j6.a8 (dE br)) (bM (tX oN (I5 lb (dE (aE bX (aE bX (aE bX (aE bX (aE bX (aE bX br)))))))) (wW (l2 (gF 2 j6.a8) (l2 (gF 6 j6.a8) wX))) (bM (ei 4 j6.a8 (h9 (aA (fV rM aC (aE (bA 0) (aE (iU (aA aZ) (a5 2)) br)))) (aA aZ))) (bP (dT (mG (w_or (gO (Bf.or AB) A4 (aA (gf (a5 4) (aA aZ))) (aA aZ)) (r2 (binop%fR (a5 2) (aA aZ))))) (bM (ei 7 j6.a8 (nP ff (jh (aA (oW (own:=["_law_j"]) (caps:=[(4,"_law_drawn_here")]) (binop%co wt ["_law_number","_law_zones","_law_k","_law_name","_law_drawn_here","_law_codes","_law_figures","_law_rights","_law_who","_law_times"]) (I4 lg (aA aZ)) (unop%e1 (gF 0 (unop%a8 ["_law_j","_law_drawn_here"]))) (unop%e1 (IM (gO (Bf.or AB) A4 (aA (gf (aA (h9 (a5 1) (aA (b' (aA (dE (aE aZ (aE aZ (aE aZ br))))) (a5 0))))) (aA aZ))) (aA aZ)))) (unop%e1 (b' (aA (dE (aE bX (aE bX (aE bX br))))) (a5 0))))) jM))) (bM (ei 8 j6.a8 (b' (aA (dE (aE bX (aE bX (aE bX br))))) (aA (gf (aA (h9 (a5 4) (aA aZ))) (aA aZ))))) (bP (ei 5 j6.a8 (iU (a5 5) (aA (dE (aE (dE (aE (bA 6) (aE (bA 8) (aE (bA 7) (aE (b' (aA (dE (aE aZ (aE aZ (aE aZ (aE aZ (aE aZ br))))))) (aA (gf (aA (h9 (a5 4) (aA aZ))) (aA aZ)))) br))))) br)))))))) fD)))) (bM (ei 4 j6.a8 (h9 (aA (fV rM aC (aE (bA 0) (aE aZ br)))) (aA aZ))) (bM (ei 9 j6.a8 (dE (aE (b' (aA (dE (aE aZ (aE aZ (aE aZ (aE aZ br)))))) (aA (gf (a5 4) (aA aZ)))) (aE (b' (aA (dE (aE aZ (aE aZ (aE aZ (aE aZ br)))))) (aA (gf (aA (h9 (a5 4) (aA aZ))) (aA aZ)))) (aE (b' (aA (dE (aE aZ (aE aZ (aE aZ (aE aZ br)))))) (aA (gf (aA (h9 (a5 4) (aA aZ))) (aA aZ)))) br))))) (bP (fl (dE (aE (bA 1) (aE (bA 5) (aE (bA 9) br))))))))))))
abbrev z4:Stmt:=top 25
def acH:cR ["_law_script","_law_k"] ["_law_script","_law_k"] (cb z4):=unop%dA 0
def HB(F:cE K "_law_cell_at" "_law_cell_at" z4 f fd)(m:mg "_law_cell_at"=some (.ref f))(jn:mg "len"=none):Cl P w K mg base "_law_cell_at" (k+1) 2 rJ:=
 kB F acH (unop%cm F) m unop%lm
  (bM (dT (gO (t4.or tD) tT (a5 1) (aA (wR (by exact jn) (jh (a5 0) jM)))) (bP (fl (b' (a5 0) (a5 1)))) fD) (bP (fl aZ)))
abbrev Aq:Stmt:=top 26
def NT:cR ["_law_script","_law_k","_law_drawn_here"] ["_law_script","_law_k"] (cb Aq):=unop%dA 0
def wo(F:cE K "_law_mixed" "_law_mixed" Aq f fd)(m:mg "_law_mixed"=some (.ref f))(HB:Cl P w K mg base "_law_cell_at" k 2 rJ):Cl P w K mg base "_law_mixed" (k+1) 2 mQ:=
 kB F NT (unop%cm F) m unop%lm
  (bM (ei 2 NT.a8 (gf (aA (qq (aA (iU (aA (iU (aA (fV HB aC (aE (bA 0) (aE (bA 1) br)))) (aA (qq (aA aZ) (a5 1))))) (aA aZ))) (aA aZ))) (aA aZ))) (bP (fl (gf (aA (iU (aA (iU (aA (qq (a5 2) (a5 2))) (aA (qq (aA aZ) (a5 2))))) (a5 1))) (aA aZ)))))
abbrev Ar:Stmt:=top 29
def tB:cR ["_law_plan_here","_law_number","_law_zone","_law_kind","_law_figures","_law_deed"] ["_law_plan_here","_law_number"] (cb Ar):=unop%dA 0
def H3(F:cE K "_law_event" "_law_event" Ar f fd)(m:mg "_law_event"=some (.ref f))(jn:mg "len"=none):Cl P w K mg base "_law_event" (k+1) 2 qf:=
 kB F tB (unop%cm F) m unop%lm
  (bM (ei 2 tB.a8 (b' (aA (b' (aA (b' (a5 0) (aA aZ))) (aA (gf (aA (h9 (a5 1) (aA aZ))) (aA (wR (by exact jn) (jh (aA (b' (a5 0) (aA aZ))) jM))))))) (aA aZ))) (bM (ei 3 tB.a8 (gf (a5 1) (aA aZ))) (bM (dT (gO (t4.or tD) tT (a5 3) (aA aZ)) (bP (fl (dE (aE bX (aE (bA 2) (aE (b' (aA (dE (aE bX (aE bX (aE bX (aE bX br)))))) (aA (gf (aA (h9 (a5 1) (aA aZ))) (aA aZ)))) br)))))) fD) (bM (dT (gO (t4.or tD) tT (a5 3) (aA aZ)) (bP (fl (dE (aE bX (aE (iU (aA aZ) (aA (gf (aA (h9 (a5 1) (aA aZ))) (aA (b' (aA (dE (aE aZ (aE aZ (aE aZ br))))) (aA (gf (aA (h9 (a5 1) (aA aZ))) (aA aZ)))))))) br))))) fD) (bM (ei 4 tB.a8 (b' (aA (b' (aA (b' (a5 0) (aA aZ))) (aA (gf (aA (h9 (a5 1) (aA aZ))) (aA (wR (by exact jn) (jh (aA (b' (a5 0) (aA aZ))) jM))))))) (aA aZ))) (bM (dT (binop%fR (aA (gf (aA (h9 (a5 1) (aA aZ))) (aA aZ))) (aA aZ)) (bP (ei 4 tB.a8 (b' (aA (dE (aE bX (aE bX (aE bX (aE bX br)))))) (aA (gf (aA (h9 (a5 1) (aA aZ))) (aA aZ)))))) fD) (bM (ei 5 tB.a8 (b' (aA (dE (aE bX (aE bX (aE bX (aE bX (aE bX (aE bX br)))))))) (aA (gf (aA (h9 (a5 1) (aA aZ))) (aA aZ))))) (bM (dT (gO (wL (by exact aC.units)) nR (a5 5) (aA (dE (aE bX (aE bX br))))) (bP (fl (dE (aE bX (aE (bA 4) (aE (bA 5) (aE mX br))))))) fD) (bP (fl (dE (aE bX (aE (bA 4) (aE (bA 5) (aE (bA 2) br)))))))))))))))
abbrev wF:Stmt:=top 30
def Ia:cR ["_law_plan_here","_law_number","_law_most","_law_row_here"] ["_law_plan_here","_law_number","_law_most"] (cb wF):=unop%dA 0
def II(F:cE K "_law_row" "_law_row" wF f fd)(m:mg "_law_row"=some (.ref f))(ff:mg "tuple"=none)(H3:Cl P w K mg base "_law_event" k 2 qf)(jn:mg "len"=none)(lg:mg "range"=none)(rM:Cl P w K mg base "_law_drawn" k 2 j7):Cl P w K mg base "_law_row" (k+1) 3 o1:=
 kB F Ia (unop%gD F) m unop%lm
  (bM (ei 3 Ia.a8 (nP ff (jh (aA (oW (own:=["_law_k"]) (caps:=[(0,"_law_plan_here"),(1,"_law_number")]) (binop%co wF ["_law_plan_here","_law_number","_law_most","_law_row_here"]) (I4 lg (aA (gf (a5 1) (aA (iU (a5 2) (aA aZ)))))) (unop%e1 (gF 0 (unop%a8 ["_law_k","_law_plan_here","_law_number"]))) (unop%e1 o2) (unop%e1 (fV (by exact H3) (by exact aC) (aE (bA 1) (aE (h9 (aA (fV (by exact rM) (by exact aC) (aE (bA 2) (aE (iU (aA aZ) (a5 0)) br)))) (aA aZ)) br)))))) jM))) (bM (dT (mG (w_and (binop%fR (aA (gf (aA (h9 (a5 1) (aA aZ))) (aA aZ))) (aA aZ)) (AY (gO (Bf.or AB) A4 (aA (wR (by exact jn) (jh (a5 3) jM))) (aA aZ))))) (bP (ei 3 Ia.a8 (iU (aA (afw (a5 3) agK (agJ (aA (QF (aA aZ)))))) (aA (ahn (aA (dE (aE (dE (aE bX (aE bX (aE bX (aE mX br))))) br))) (aA aZ)))))) fD) (bP (P6 3))))
abbrev tH:Stmt:=top 7
def Ib:cR ["plan","lines","used"] ["plan"] (cb tH):=unop%dA 0
def aif(F:cE K "begun" "begun" tH f fd)(m:mg "begun"=some (.ref f))(ff:mg "tuple"=none):Cl P w K mg base "begun" (k+1) 1 j8:=
 kB F Ib (unop%b6 F) m unop%lm
  (bM (ei 1 Ib.a8 (nP ff (jh (aA (oW (own:=["zone"]) (caps:=[]) (binop%co tH ["plan","lines","used"]) (lh (b' (a5 0) (aA aZ))) (unop%e1 (gF 0 (unop%a8 ["zone"]))) (unop%e1 o2) (unop%e1 bX))) jM))) (bM (ei 2 Ib.a8 (nP ff (jh (aA (oW (own:=["code"]) (caps:=[]) (binop%co tH ["plan","lines","used"]) (lh (b' (a5 0) (aA aZ))) (unop%e1 (gF 0 (unop%a8 ["code"]))) (unop%e1 o2) (unop%e1 aZ))) jM))) (bP (fl (dE (aE bX (aE aZ (aE mX (aE (bA 1) (aE (dE br) (aE aZ (aE (dE br) (aE aZ (aE aZ (aE (bA 2) br)))))))))))))))
abbrev zT:Stmt:=inClass (top 23) 0
def acf:cR ["self","plan"] ["self","plan"] (cb zT):=unop%dA 0
def acs(F:cE K "__init__" "Box.__init__" zT f fd)(ir:r' K c_ f)(m:mg "Box"=some (.ref c_))(dy:unop%d4 1)(aif:Cl P w K mg base "begun" k 1 j8):nX P w K mg base "Box" c_ 1 (k+1) 2 qc:=
 Qj F acf (unop%cm F) ir m unop%lm
  (bM (fu (j:=0) dy (a6 0) (bA 1)) (bM (qk (j:=1) dy (a6 0) (r3 br)) (bP (qk (j:=2) dy (a6 0) (r3 (aE (fV aif aC (aE (bA 1) br)) br))))))
abbrev aib:Stmt:=inClass (top 15) 0
def ab5:cR ["self","plan","state"] ["self","plan","state"] (cb aib):=unop%dA 0
def ab'(F:cE K "__init__" "Course.__init__" aib f fd)(ir:r' K bo f)(m:mg "Course"=some (.ref bo))(aW:unop%d4 0)(qn:mg "dict"=none)(qo:mg "list"=none)(qp:mg "zip"=none):nX P w K mg base "Course" bo 0 (k+1) 3 vV:=
 Qj F ab5 (unop%gD F) ir m unop%lm
  (bM (fu (j:=0) aW (a6 0) (bA 1)) (bM (fu (j:=1) aW (a6 0) (b' (a5 2) (aA aZ))) (bM (fu (j:=2) aW (a6 0) (b' (a5 2) (aA aZ))) (bM (fu (j:=3) aW (a6 0) (b' (a5 2) (aA aZ))) (bM (Pq (j:=4) aW rfl qn qp (a6 0) (aA (oW (own:=["zone"]) (caps:=[]) (binop%co aib ["self","plan","state"]) (lh (b' (a5 1) (aA aZ))) (unop%e1 (gF 0 (unop%a8 ["zone"]))) (unop%e1 o2) (unop%e1 (b' (a5 0) (aA aZ))))) (aA (b' (a5 2) (aA aZ)))) (bM (qk (j:=5) aW (a6 0) (Pu qo (aA (b' (a5 2) (aA aZ))))) (bM (fu (j:=6) aW (a6 0) (b' (a5 2) (aA aZ))) (bM (qk (j:=7) aW (a6 0) (Pu qo (aA (b' (a5 2) (aA aZ))))) (bM (fu (j:=8) aW (a6 0) (b' (a5 2) (aA aZ))) (bM (fu (j:=9) aW (a6 0) (b' (a5 2) (aA aZ))) (bM (Pq (j:=10) aW rfl qn qp (a6 0) (aA (oW (own:=["code"]) (caps:=[]) (binop%co aib ["self","plan","state"]) (lh (b' (a5 1) (aA aZ))) (unop%e1 (gF 0 (unop%a8 ["code"]))) (unop%e1 o2) (unop%e1 (b' (a5 0) (aA aZ))))) (aA (b' (a5 2) (aA aZ)))) (bM (fu (j:=11) aW (a6 0) aZ) (bP (qk (j:=12) aW (a6 0) (r3 br)))))))))))))))
abbrev zV:Stmt:=inClass (top 15) 3
def acm:cR ["self","word","name"] ["self","word","name"] (cb zV):=unop%dA 0
def gv(F:cE K "tell" "Course.tell" zV f fd)(m:Meth K bo "tell" f)(aW:unop%d4 0):cG P w K mg base bo 0 "tell" (k+1) 3 fB:=
 hp F acm (unop%gD F) m unop%lm
  (bP (A1 (j:=12) aW (a6 0) (dE (aE (iB (j:=11) aW (a6 0)) (aE (bA 1) (aE (bA 2) br))))))
abbrev Au:Stmt:=top 6
def NV:cR ["plan","name","zone"] ["plan","name"] (cb Au):=unop%dA 0
def rN(F:cE K "kind_of" "kind_of" Au f fd)(m:mg "kind_of"=some (.ref f)) :Cl P w K mg base "kind_of" (k+1) 2 oV:=
 kB F NV (unop%cm F) m unop%lm
  (bM (tX oN (lh (b' (a5 0) (aA aZ))) (gF 2 NV.a8) (bP (dT (binop%fR (aA (b' (a5 2) (aA aZ))) (a5 1)) (bP (fl (b' (a5 2) (aA aZ)))) fD))) (bP afq))
abbrev zJ:Stmt:=inClass (top 15) 4
def ab8:cR ["self"] ["self"] (cb zJ):=unop%dA 0
def vX(F:cE K "be_loud" "Course.be_loud" zJ f fd)(m:Meth K bo "be_loud" f)(aW:unop%d4 0):cG P w K mg base bo 0 "be_loud" (k+1) 1 rG:=
 hp F ab8 (unop%b6 F) m unop%lm
  (bP (fu (j:=6) aW (a6 0) (b' (aA (b' (gg (j:=0) aW (a6 0)) (aA aZ))) (aA aZ))))
abbrev zS:Stmt:=inClass (top 15) 5
def ace:cR ["self","zone"] ["self","zone"] (cb zS):=unop%dA 0
def nL(F:cE K "alarm" "Course.alarm" zS f fd)(m:Meth K bo "alarm" f)(aW:unop%d4 0)(vX:cG P w K mg base bo 0 "be_loud" k 1 rG)(gv:cG P w K mg base bo 0 "tell" k 3 fB):cG P w K mg base bo 0 "alarm" (k+1) 2 kv:=
 hp F ace (unop%cm F) m unop%lm
  (bM (eh (rO aW vX aC (a6 0))) (bP (dT (gO (wj (by exact aC.units)) nR (a5 1) (gg (j:=7) aW (a6 0))) (bM (A1 (j:=7) aW (a6 0) (bA 1)) (bP (eh (eu aW gv aC (a6 0) (aE bX (aE (bA 1) br)))))) fD)))
abbrev zI:Stmt:=inClass (top 15) 9
def ab7:cR ["self","zone","kind"] ["self","zone","kind"] (cb zI):=unop%dA 0
def Hk(F:cE K "come_in" "Course.come_in" zI f fd)(m:Meth K bo "come_in" f)(aW:unop%d4 0)(gv:cG P w K mg base bo 0 "tell" k 3 fB)(nL:cG P w K mg base bo 0 "alarm" k 2 kv):cG P w K mg base bo 0 "come_in" (k+1) 3 rF:=
 hp F ab7 (unop%gD F) m unop%lm
  (bM (dT (mG (w_or (binop%rg (a5 2) (aA bX)) (r2 (gO (Jc.or HU) I0 (aA (b' (aA (b' (gg (j:=0) aW (a6 0)) (aA aZ))) (aA aZ))) (aA aZ))))) (bM (eh (eu aW nL aC (a6 0) (aE (bA 1) br))) (bP Iu)) fD) (bM (fu (j:=1) aW (a6 0) bX) (bM (fu (j:=2) aW (a6 0) (b' (aA (b' (gg (j:=0) aW (a6 0)) (aA aZ))) (aA aZ))) (bM (fu (j:=3) aW (a6 0) (bA 1)) (bP (eh (eu aW gv aC (a6 0) (aE bX (aE (bA 1) br)))))))))
abbrev zH:Stmt:=inClass (top 15) 8
def MW:cR ["self","zone","what","kind"] ["self","zone","what"] (cb zH):=unop%dA 0
def Hj(F:cE K "disturb" "Course.disturb" zH f fd)(m:Meth K bo "disturb" f)(aW:unop%d4 0)(rN:Cl P w K mg base "kind_of" k 2 oV)(nL:cG P w K mg base bo 0 "alarm" k 2 kv)(gv:cG P w K mg base bo 0 "tell" k 3 fB)(Hk:cG P w K mg base bo 0 "come_in" k 3 rF):cG P w K mg base bo 0 "disturb" (k+1) 3 vW:=
 hp F MW (unop%gD F) m unop%lm
  (bM (ei 3 MW.a8 (fV rN aC (aE (iB (j:=0) aW (a6 0)) (aE (bA 1) br)))) (bP (dT (binop%fR (a5 3) (aA bX)) (bP (eh (eu aW nL aC (a6 0) (aE (bA 1) br)))) (bP (dT (binop%fR (gg (j:=1) aW (a6 0)) (aA bX)) (bP (dT (binop%fR (a5 2) (aA bX)) (bP (eh (eu aW gv aC (a6 0) (aE bX (aE (bA 1) br))))) fD)) (bP (dT (mG (w_or (binop%fR (a5 2) (aA bX)) (r2 (binop%fR (a5 3) (aA bX))))) (bP (eh (eu aW nL aC (a6 0) (aE (bA 1) br)))) (bP (dT (binop%fR (gg (j:=1) aW (a6 0)) (aA bX)) (bP (eh (eu aW Hk aC (a6 0) (aE (bA 1) (aE (bA 3) br))))) fD)))))))))
abbrev zW:Stmt:=inClass (top 15) 7
def M6:cR ["self","zone","what","before"] ["self","zone","what"] (cb zW):=unop%dA 0
def Hv(F:cE K "line" "Course.line" zW f fd)(m:Meth K bo "line" f)(aW:unop%d4 0)(gv:cG P w K mg base bo 0 "tell" k 3 fB)(Hj:cG P w K mg base bo 0 "disturb" k 3 vW):cG P w K mg base bo 0 "line" (k+1) 3 v_:=
 hp F M6 (unop%gD F) m unop%lm
  (bM (ei 3 M6.a8 (IV (j:=4) aW (wV aC) (a6 0) (a5 1))) (bM (dT (binop%fR (a5 2) (a5 3)) (bP Iu) fD) (bM (agi (j:=4) aW (wV aC) (a6 0) (a5 1) (bA 2)) (bP (dT (binop%fR (a5 2) (aA bX)) (bP (dT (binop%fR (a5 3) (aA bX)) (bP (eh (eu aW gv aC (a6 0) (aE bX (aE (bA 1) br))))) fD)) (bP (dT (gO (wj (by exact aC.units)) nR (a5 1) (gg (j:=5) aW (a6 0))) (bP (eh (eu aW Hj aC (a6 0) (aE (bA 1) (aE (bA 2) br))))) fD)))))))
abbrev Av:Stmt:=top 13
def NW:cR ["plan","figures","code"] ["plan","figures"] (cb Av):=unop%dA 0
def H4(F:cE K "code_of" "code_of" Av f fd)(m:mg "code_of"=some (.ref f)) :Cl P w K mg base "code_of" (k+1) 2 wk:=
 kB F NW (unop%cm F) m unop%lm
  (bM (tX oN (lh (b' (a5 0) (aA aZ))) (gF 2 NW.a8) (bP (dT (binop%fR (aA (b' (a5 2) (aA aZ))) (a5 1)) (bP (P6 2)) fD))) (bP (fl mX)))
abbrev zB:Stmt:=inClass (top 15) 16
def abY:cR ["self","code"] ["self","code"] (cb zB):=unop%dA 0
def G'(F:cE K "is_used_up" "Course.is_used_up" zB f fd)(m:Meth K bo "is_used_up" f)(aW:unop%d4 0):fp P w K mg base bo "is_used_up" (k+1) 2 aia:=
 o4 F abY (unop%cm F) m unop%lm
  (bP (fl (QG (tZ (Qd (by exact aC.units)) Qf (aA (b' (a5 1) (aA aZ))) (aA aZ)) (P9 (tZ (QK.or Oq) Qg (aA (IV (j:=10) aW (wV aC) (a6 0) (aA (b' (a5 1) (aA aZ))))) (aA (b' (a5 1) (aA aZ))))))))
abbrev zz:Stmt:=inClass (top 15) 17
def abX:cR ["self"] ["self"] (cb zz):=unop%dA 0
def G9(F:cE K "take_wrong" "Course.take_wrong" zz f fd)(m:Meth K bo "take_wrong" f)(aW:unop%d4 0)(gv:cG P w K mg base bo 0 "tell" k 3 fB)(vX:cG P w K mg base bo 0 "be_loud" k 1 rG){GS:Tok}(qV:mg "WRONG_IN_A_ROW"=some (.int 3 GS)){GR:Tok}(qU:mg "TICKS_LOCKED"=some (.int 90 GR)):cG P w K mg base bo 0 "take_wrong" (k+1) 1 tm:=
 hp F abX (unop%b6 F) m unop%lm
  (bM (eh (eu aW gv aC (a6 0) (aE bX (aE mX br)))) (bM (P7 (j:=8) aW (a6 0) aZ) (bP (dT (gO (QK.or Oq) Qg (gg (j:=8) aW (a6 0)) (aA (Ma qV))) (bM (fu (j:=8) aW (a6 0) aZ) (bM (fu (j:=9) aW (a6 0) (Ma qU)) (bM (eh (rO aW vX aC (a6 0))) (bP (eh (eu aW gv aC (a6 0) (aE bX (aE mX br)))))))) fD))))
abbrev zx:Stmt:=inClass (top 15) 20
def abW:cR ["self","deed","zone"] ["self","deed","zone"] (cb zx):=unop%dA 0
def G8(F:cE K "is_untimely" "Course.is_untimely" zx f fd)(m:Meth K bo "is_untimely" f)(aW:unop%d4 0)(rN:Cl P w K mg base "kind_of" k 2 oV):fp P w K mg base bo "is_untimely" (k+1) 3 nK:=
 o4 F abW (unop%gD F) m unop%lm
  (bM (dT (binop%fR (a5 1) (aA bX)) (bP (fl vp)) fD) (bM (dT (binop%rg (gg (j:=1) aW (a6 0)) (aA bX)) (bP (fl vp)) fD) (bM (dT (binop%fR (a5 1) (aA bX)) (bP (fl (_N (tZ (IZ (by exact aC.units)) I1 (aA (fV rN aC (aE (iB (j:=0) aW (a6 0)) (aE (bA 2) br)))) (aA bX)) (aho (tZ (wL (by exact aC.units)) nR (a5 2) (gg (j:=5) aW (a6 0))))))) fD) (bP (fl (QG (tZ (IZ (by exact aC.units)) I1 (a5 1) (aA bX)) (P9 (tZ (wj (by exact aC.units)) nR (a5 2) (gg (j:=5) aW (a6 0))))))))))
abbrev tl:Stmt:=inClass (top 15) 6
def MQ:cR ["self","kinds","zones"] ["self","kinds"] (cb tl):=unop%dA 0
def vT(F:cE K "bare_zones" "Course.bare_zones" tl f fd)(m:Meth K bo "bare_zones" f)(aW:unop%d4 0):fp P w K mg base bo "bare_zones" (k+1) 2 rE:=
 o4 F MQ (unop%cm F) m unop%lm
  (bM (P8 2 MQ.a8 (own:=["zone"]) (caps:=[(1,"kinds")]) (binop%co tl ["self","kinds","zones"]) (lh (b' (gg (j:=0) aW (a6 0)) (aA aZ))) (unop%e1 (gF 0 (unop%a8 ["zone","kinds"]))) (unop%e1 (IM (gO (wL (by exact aC.units)) nR (aA (b' (a5 0) (aA aZ))) (a5 1)))) (unop%e1 (b' (a5 0) (aA aZ)))) (bP (fl (oW (own:=["zone"]) (caps:=[(0,"self")]) (binop%co tl ["self","kinds","zones"]) (lh (bA 2)) (unop%e1 (gF 0 (unop%a8 ["zone","self"]))) (unop%e1 (IM (mG (w_and (binop%rg (aA (IV (j:=4) (by exact aW) (by exact wV aC) (a6 1) (a5 0))) (aA bX)) (AY (gO (wj (by exact aC.units)) nR (a5 0) (gg (j:=5) (by exact aW) (a6 1)))))))) (unop%e1 (bA 0))))))
abbrev zw:Stmt:=inClass (top 15) 19
def G6:cR ["self","code","deed","zone","right","bare"] ["self","code","deed","zone"] (cb zw):=unop%dA 0
def G7(F:cE K "what_is_against" "Course.what_is_against" zw f fd)(m:Meth K bo "what_is_against" f)(aW:unop%d4 0)(G8:fp P w K mg base bo "is_untimely" k 3 nK)(vT:fp P w K mg base bo "bare_zones" k 2 rE){si:ah}(XY:mg "KINDS_SHUT_TO_SET"=some (.ref si))(abD:∃(o:Obj) (its:Array aj) (n:Nat),K.lookup si=some o/\o.cls=.type "tuple"/\o.data=.seq its n/\its.size<=cp/\Vals ((["day","once"]:List Str).map V.str) its.toList):fp P w K mg base bo "what_is_against" (k+1) 4 vP:=
 o4 F G6 (unop%pk F) m unop%lm
  (bM (ei 4 G6.a8 (ahq (binop%fR (a5 2) (aA bX)) bX (bA 2))) (bM (dT (gO (wj (by exact aC.units)) nR (a5 4) (aA (b' (a5 1) (aA aZ)))) (bP (fl (dE (aE bX (aE (b' (a5 1) (aA aZ)) br))))) fD) (bM (dT (P2 (aA (rP aW G8 aC (a6 0) (aE (bA 2) (aE (bA 3) br))))) (bP (fl (dE (aE bX (aE (b' (a5 1) (aA aZ)) br))))) fD) (bM (ei 5 G6.a8 (rP aW vT aC (a6 0) (aE (Gs XY abD) br))) (bM (dT (mG (w_and (binop%fR (a5 2) (aA bX)) (AY (age (a5 5))))) (bP (fl (dE (aE bX (aE (b' (a5 5) (aA aZ)) br))))) fD) (bP (fl mX)))))))
abbrev zy:Stmt:=inClass (top 15) 13
def MN:cR ["self","zone"] ["self"] (cb zy):=unop%dA 0
def vQ(F:cE K "end_leaving" "Course.end_leaving" zy f fd)(m:Meth K bo "end_leaving" f)(aW:unop%d4 0)(gv:cG P w K mg base bo 0 "tell" k 3 fB)(vT:fp P w K mg base bo "bare_zones" k 2 rE)(nL:cG P w K mg base bo 0 "alarm" k 2 kv){sh:ah}(XX:mg "KINDS_LEFT_BY"=some (.ref sh))(abA:∃(o:Obj) (its:Array aj) (n:Nat),K.lookup sh=some o/\o.cls=.type "tuple"/\o.data=.seq its n/\its.size<=cp/\Vals ((["inner","way"]:List Str).map V.str) its.toList):cG P w K mg base bo 0 "end_leaving" (k+1) 1 rB:=
 hp F MN (unop%b6 F) m unop%lm
  (bM (fu (j:=1) aW (a6 0) bX) (bM (fu (j:=2) aW (a6 0) aZ) (bM (eh (eu aW gv aC (a6 0) (aE bX (aE mX br)))) (bP (tX oN (lh (rP aW vT aC (a6 0) (aE (Gs XX abA) br))) (gF 1 MN.a8) (bP (eh (eu aW nL aC (a6 0) (aE (bA 1) br)))))))))
abbrev zM:Stmt:=inClass (top 15) 22
def acb:cR ["self","who"] ["self","who"] (cb zM):=unop%dA 0
def Hm(F:cE K "do_set" "Course.do_set" zM f fd)(m:Meth K bo "do_set" f)(aW:unop%d4 0)(gv:cG P w K mg base bo 0 "tell" k 3 fB)(vQ:cG P w K mg base bo 0 "end_leaving" k 1 rB):cG P w K mg base bo 0 "do_set" (k+1) 2 tw:=
 hp F acb (unop%cm F) m unop%lm
  (bM (qk (j:=7) aW (a6 0) (r3 br)) (bM (fu (j:=6) aW (a6 0) aZ) (bM (fu (j:=1) aW (a6 0) bX) (bM (fu (j:=2) aW (a6 0) (b' (aA (b' (gg (j:=0) aW (a6 0)) (aA aZ))) (aA aZ))) (bM (eh (eu aW gv aC (a6 0) (aE bX (aE (bA 1) br)))) (bP (dT (gO (Jc.or HU) I0 (gg (j:=2) aW (a6 0)) (aA aZ)) (bP (eh (rO aW vQ aC (a6 0)))) fD)))))))
abbrev zF:Stmt:=inClass (top 15) 23
def ab4:cR ["self","who"] ["self","who"] (cb zF):=unop%dA 0
def Hf(F:cE K "do_unset" "Course.do_unset" zF f fd)(m:Meth K bo "do_unset" f)(aW:unop%d4 0)(gv:cG P w K mg base bo 0 "tell" k 3 fB):cG P w K mg base bo 0 "do_unset" (k+1) 2 vU:=
 hp F ab4 (unop%cm F) m unop%lm
  (bM (fu (j:=1) aW (a6 0) bX) (bM (fu (j:=2) aW (a6 0) aZ) (bM (fu (j:=6) aW (a6 0) aZ) (bM (fu (j:=3) aW (a6 0) mX) (bM (qk (j:=5) aW (a6 0) (r3 br)) (bP (eh (eu aW gv aC (a6 0) (aE bX (aE (bA 1) br))))))))))
abbrev zG:Stmt:=inClass (top 15) 21
def ab6:cR ["self","who","deed","zone"] ["self","who","deed","zone"] (cb zG):=unop%dA 0
def Hi(F:cE K "do_deed" "Course.do_deed" zG f fd)(m:Meth K bo "do_deed" f)(aW:unop%d4 0)(Hm:cG P w K mg base bo 0 "do_set" k 2 tw)(Hf:cG P w K mg base bo 0 "do_unset" k 2 vU)(rV:mg "sorted"=none)(gv:cG P w K mg base bo 0 "tell" k 3 fB):cG P w K mg base bo 0 "do_deed" (k+1) 4 p_:=
 hp F ab6 (unop%pk F) m unop%lm
  (bP (dT (binop%fR (a5 2) (aA bX)) (bP (eh (eu aW Hm aC (a6 0) (aE (bA 1) br)))) (bP (dT (binop%fR (a5 2) (aA bX)) (bP (eh (eu aW Hf aC (a6 0) (aE (bA 1) br)))) (bP (dT (binop%fR (a5 2) (aA bX)) (bM (qk (j:=5) aW (a6 0) (adZ rfl rV (aA (iU (gg (j:=5) aW (a6 0)) (aA (agn (aE (bA 3) br))))))) (bP (eh (eu aW gv aC (a6 0) (aE bX (aE (bA 3) br)))))) (bM (ahg (j:=5) aW (a6 0) (bA 3)) (bP (eh (eu aW gv aC (a6 0) (aE bX (aE (bA 3) br))))))))))))
abbrev zA:Stmt:=inClass (top 15) 18
def MO:cR ["self","code","deed","zone","against"] ["self","code","deed","zone"] (cb zA):=unop%dA 0
def G_(F:cE K "take_right" "Course.take_right" zA f fd)(m:Meth K bo "take_right" f)(aW:unop%d4 0)(G7:fp P w K mg base bo "what_is_against" k 4 vP)(Hi:cG P w K mg base bo 0 "do_deed" k 4 p_)(gv:cG P w K mg base bo 0 "tell" k 3 fB):cG P w K mg base bo 0 "take_right" (k+1) 4 tn:=
 hp F MO (unop%pk F) m unop%lm
  (bM (ei 4 MO.a8 (rP aW G7 aC (a6 0) (aE (bA 1) (aE (bA 2) (aE (bA 3) br))))) (bP (dT (QA (a5 4)) (bM (afr (j:=10) aW (wV aC) (a6 0) (aA (b' (a5 1) (aA aZ))) aZ) (bP (eh (eu aW Hi aC (a6 0) (aE (b' (a5 1) (aA aZ)) (aE (bA 2) (aE (bA 3) br))))))) (bP (eh (eu aW gv aC (a6 0) (aE (b' (a5 4) (aA aZ)) (aE (b' (a5 4) (aA aZ)) br))))))))
abbrev zX:Stmt:=inClass (top 15) 15
def M7:cR ["self","figures","deed","zone","code"] ["self","figures","deed","zone"] (cb zX):=unop%dA 0
def Hw(F:cE K "code" "Course.code" zX f fd)(m:Meth K bo "code" f)(aW:unop%d4 0)(H4:Cl P w K mg base "code_of" k 2 wk)(gv:cG P w K mg base bo 0 "tell" k 3 fB)(G':fp P w K mg base bo "is_used_up" k 2 aia)(G9:cG P w K mg base bo 0 "take_wrong" k 1 tm)(G_:cG P w K mg base bo 0 "take_right" k 4 tn):cG P w K mg base bo 0 "code" (k+1) 4 qd:=
 hp F M7 (unop%pk F) m unop%lm
  (bM (ei 4 M7.a8 (fV H4 aC (aE (iB (j:=0) aW (a6 0)) (aE (bA 1) br)))) (bP (dT (gO (Bf.or AB) A4 (gg (j:=9) aW (a6 0)) (aA aZ)) (bP (eh (eu aW gv aC (a6 0) (aE bX (aE mX br))))) (bP (dT (mG (w_or (QA (a5 4)) (r2 (P2 (aA (rP aW G' aC (a6 0) (aE (bA 4) br))))))) (bP (eh (rO aW G9 aC (a6 0)))) (bM (fu (j:=8) aW (a6 0) aZ) (bP (eh (eu aW G_ aC (a6 0) (aE (bA 4) (aE (bA 2) (aE (bA 3) br))))))))))))
abbrev Ae:Stmt:=top 14
def ac1:cR ["ticks","many"] ["ticks","many"] (cb Ae):=unop%dA 0
def wg(F:cE K "lessened" "lessened" Ae f fd)(m:mg "lessened"=some (.ref f))(rU:mg "max"=none):Cl P w K mg base "lessened" (k+1) 2 rK:=
 kB F ac1 (unop%cm F) m unop%lm
  (bP (fl (ahp rU (jh (aA (QD (a5 0) (a5 1))) (jh (aA aZ) jM)))))
abbrev zD:Stmt:=inClass (top 15) 11
def abZ:cR ["self","many"] ["self","many"] (cb zD):=unop%dA 0
def vS(F:cE K "count_down" "Course.count_down" zD f fd)(m:Meth K bo "count_down" f)(aW:unop%d4 0)(wg:Cl P w K mg base "lessened" k 2 rK):cG P w K mg base bo 0 "count_down" (k+1) 2 rD:=
 hp F abZ (unop%cm F) m unop%lm
  (bM (P7 (j:=11) aW (a6 0) (bA 1)) (bM (fu (j:=9) aW (a6 0) (fV wg aC (aE (iB (j:=9) aW (a6 0)) (aE (bA 1) br)))) (bM (fu (j:=6) aW (a6 0) (fV wg aC (aE (iB (j:=6) aW (a6 0)) (aE (bA 1) br)))) (bP (fu (j:=2) aW (a6 0) (fV wg aC (aE (iB (j:=2) aW (a6 0)) (aE (bA 1) br))))))))
abbrev zC:Stmt:=inClass (top 15) 14
def MP:cR ["self","zone"] ["self"] (cb zC):=unop%dA 0
def Ha(F:cE K "end_coming" "Course.end_coming" zC f fd)(m:Meth K bo "end_coming" f)(aW:unop%d4 0)(nL:cG P w K mg base bo 0 "alarm" k 2 kv):cG P w K mg base bo 0 "end_coming" (k+1) 1 vR:=
 hp F MP (unop%b6 F) m unop%lm
  (bM (ei 1 MP.a8 (iB (j:=3) aW (a6 0))) (bM (fu (j:=1) aW (a6 0) bX) (bM (fu (j:=3) aW (a6 0) mX) (bP (eh (eu aW nL aC (a6 0) (aE (bA 1) br)))))))
abbrev zE:Stmt:=inClass (top 15) 12
def ab3:cR ["self"] ["self"] (cb zE):=unop%dA 0
def He(F:cE K "end_time" "Course.end_time" zE f fd)(m:Meth K bo "end_time" f)(aW:unop%d4 0)(vQ:cG P w K mg base bo 0 "end_leaving" k 1 rB)(Ha:cG P w K mg base bo 0 "end_coming" k 1 vR):cG P w K mg base bo 0 "end_time" (k+1) 1 tu:=
 hp F ab3 (unop%b6 F) m unop%lm
  (bP (dT (binop%fR (gg (j:=1) aW (a6 0)) (aA bX)) (bP (eh (rO aW vQ aC (a6 0)))) (bP (eh (rO aW Ha aC (a6 0))))))
abbrev zQ:Stmt:=inClass (top 15) 10
def M4:cR ["self","many","rest"] ["self","many"] (cb zQ):=unop%dA 0
def Ho(F:cE K "ticks" "Course.ticks" zQ f fd)(m:Meth K bo "ticks" f)(aW:unop%d4 0)(vS:cG P w K mg base bo 0 "count_down" k 2 rD)(He:cG P w K mg base bo 0 "end_time" k 1 tu):cG P w K mg base bo 0 "ticks" (k+1) 2 qb:=
 hp F M4 (unop%cm F) m unop%lm
  (bM (dT (gO (t4.or tD) tT (a5 1) (aA aZ)) (bP Iu) fD) (bP (dT (mG (w_and (gO (wL (by exact aC.units)) nR (gg (j:=1) aW (a6 0)) (aA (dE (aE bX (aE bX br))))) (AY (gO (Jc.or HU) I0 (gg (j:=2) aW (a6 0)) (a5 1))))) (bM (ei 2 M4.a8 (QD (a5 1) (gg (j:=2) aW (a6 0)))) (bM (eh (eu aW vS aC (a6 0) (aE (iB (j:=2) aW (a6 0)) br))) (bM (eh (rO aW He aC (a6 0))) (bP (eh (eu aW vS aC (a6 0) (aE (bA 2) br))))))) (bP (eh (eu aW vS aC (a6 0) (aE (bA 1) br)))))))
abbrev zL:Stmt:=inClass (top 15) 2
def aca:cR ["self","event"] ["self","event"] (cb zL):=unop%dA 0
def Hl(F:cE K "happen" "Course.happen" zL f fd)(m:Meth K bo "happen" f)(aW:unop%d4 0)(Hv:cG P w K mg base bo 0 "line" k 3 v_)(Hw:cG P w K mg base bo 0 "code" k 4 qd)(Ho:cG P w K mg base bo 0 "ticks" k 2 qb):cG P w K mg base bo 0 "happen" (k+1) 2 p':=
 hp F aca (unop%cm F) m unop%lm
  (bP (dT (binop%fR (aA (b' (a5 1) (aA aZ))) (aA bX)) (bP (eh (eu aW Hv aC (a6 0) (aE (b' (a5 1) (aA aZ)) (aE (b' (a5 1) (aA aZ)) br))))) (bP (dT (binop%fR (aA (b' (a5 1) (aA aZ))) (aA bX)) (bP (eh (eu aW Hw aC (a6 0) (aE (b' (a5 1) (aA aZ)) (aE (b' (a5 1) (aA aZ)) (aE (b' (a5 1) (aA aZ)) br)))))) (bP (eh (eu aW Ho aC (a6 0) (aE (b' (a5 1) (aA aZ)) br))))))))
abbrev z5:Stmt:=top 16
def Hx:cR ["plan","state","row","course","event"] ["plan","state","row"] (cb z5):=unop%dA 0
def z8(ts:List T)(s:aG)(h:lY ts=some s):∃c os,s=.obj .own c os:=aeH (b:=HE) h
def oT(F:cE K "course_of" "course_of" z5 f fd)(m:mg "course_of"=some (.ref f))(aW:unop%d4 0)(Td:nX P w K mg base "Course" bo 0 k 3 vV)(Hl:cG P w K mg base bo 0 "happen" k 2 p'):mZ P w K mg base "course_of" (k+2) 3 lY:=
 agX F Hx (unop%gD F) m unop%lm
  (bM (agj 3 Hx.a8 (QL aW Td aC (aE (bA 0) (aE (bA 1) br)))) (bM (tX oN (lh (bA 2)) (gF 4 Hx.a8) (bP (eh (eu aW Hl (aC.mono (gu _)) (a6 3) (aE (bA 4) br))))) (bP (agg (a6 3)))))
abbrev AP:Stmt:=top 21
def aeC:cR ["plan","state","row"] ["plan","state","row"] (cb AP):=unop%dA 0
def wI(F:cE K "story" "story" AP f fd)(m:mg "story"=some (.ref f))(aW:unop%d4 0)(ff:mg "tuple"=none)(oT:mZ P w K mg base "course_of" k 3 lY):Cl P w K mg base "story" (k+1) 3 oZ:=
 kB F aeC (unop%gD F) m unop%lm
  (bP (fl (nP ff (jh (aA (Om (j:=12) aW (A6 oT z8 aC (aE (bA 0) (aE (bA 1) (aE (bA 2) br)))))) jM))))
abbrev z7:Stmt:=inClass (top 23) 6
def acJ:cR ["self"] ["self"] (cb z7):=unop%dA 0
def tx(F:cE K "state" "Box.state" z7 f fd)(m:Meth K c_ "state" f)(dy:unop%d4 1):fp P w K mg base c_ "state" (k+1) 1 mO:=
 o4 F acJ (unop%b6 F) m unop%lm
  (bP (fl (b' (gg (j:=2) dy (a6 0)) (aA (QF (aA aZ))))))
abbrev zR:Stmt:=inClass (top 15) 1
def vZ:cR ["self","lines","shunts","alarms","used"] ["self"] (cb zR):=unop%dA 0
def v7(F:cE K "state" "Course.state" zR f fd)(m:Meth K bo "state" f)(aW:unop%d4 0)(ff:mg "tuple"=none):fp P w K mg base bo "state" (k+1) 1 rH:=
 o4 F vZ (unop%b6 F) m unop%lm
  (bM (ei 1 vZ.a8 (Pw (j:=4) aW rfl ff (a6 0))) (bM (ei 2 vZ.a8 (nP ff (jh (gg (j:=5) aW (a6 0)) jM))) (bM (ei 3 vZ.a8 (nP ff (jh (gg (j:=7) aW (a6 0)) jM))) (bM (ei 4 vZ.a8 (Pw (j:=10) aW rfl ff (a6 0))) (bP (fl (dE (aE (iB (j:=1) aW (a6 0)) (aE (iB (j:=2) aW (a6 0)) (aE (iB (j:=3) aW (a6 0)) (aE (bA 1) (aE (bA 2) (aE (iB (j:=6) aW (a6 0)) (aE (bA 3) (aE (iB (j:=8) aW (a6 0)) (aE (iB (j:=9) aW (a6 0)) (aE (bA 4) br)))))))))))))))))
abbrev AQ:Stmt:=top 20
def aeD:cR ["plan","state","row"] ["plan","state","row"] (cb AQ):=unop%dA 0
def IJ(F:cE K "after" "after" AQ f fd)(m:mg "after"=some (.ref f))(aW:unop%d4 0)(v7:fp P w K mg base bo "state" k 1 rH)(oT:mZ P w K mg base "course_of" k 3 lY):Cl P w K mg base "after" (k+1) 3 rT:=
 kB F aeD (unop%gD F) m unop%lm
  (bP (fl (QE aW v7 aC (A6 oT z8 aC (aE (bA 0) (aE (bA 1) (aE (bA 2) br)))))))
abbrev Aw:Stmt:=inClass (top 23) 10
def adq:cR ["self"] ["self"] (cb Aw):=unop%dA 0
def wq(F:cE K "row" "Box.row" Aw f fd)(m:Meth K c_ "row" f)(dy:unop%d4 1)(ff:mg "tuple"=none):fp P w K mg base c_ "row" (k+1) 1 nO:=
 o4 F adq (unop%b6 F) m unop%lm
  (bP (fl (nP ff (jh (gg (j:=1) dy (a6 0)) jM))))
abbrev Ax:Stmt:=inClass (top 23) 8
def ads:cR ["self"] ["self"] (cb Ax):=unop%dA 0
def H5(F:cE K "log" "Box.log" Ax f fd)(m:Meth K c_ "log" f)(dy:unop%d4 1)(wI:Cl P w K mg base "story" k 3 oZ)(wq:fp P w K mg base c_ "row" k 1 nO):fp P w K mg base c_ "log" (k+1) 1 qg:=
 o4 F ads (unop%b6 F) m unop%lm
  (bP (fl (fV wI aC (aE (iB (j:=0) dy (a6 0)) (aE (b' (gg (j:=2) dy (a6 0)) (aA aZ)) (aE (tF dy wq aC (a6 0)) br))))))
abbrev wD:Stmt:=top 18
def aeB:cR ["plan","state","event"] ["plan","state","event"] (cb wD):=unop%dA 0
def IH(F:cE K "words" "words" wD f fd)(m:mg "words"=some (.ref f))(aW:unop%d4 0)(ff:mg "tuple"=none)(oT:mZ P w K mg base "course_of" k 3 lY):Cl P w K mg base "words" (k+1) 3 wH:=
 kB F aeB (unop%gD F) m unop%lm
  (bP (fl (nP ff (jh (aA (oW (own:=["past","word","name"]) (caps:=[]) (binop%co wD ["plan","state","event"]) (lh (Om (j:=12) aW (A6 oT z8 aC (aE (bA 0) (aE (bA 1) (aE (dE (aE (bA 2) br)) br)))))) (unop%e1 (wW (l2 (gF 0 (unop%a8 ["past","word","name"])) (l2 (gF 1 (unop%a8 ["past","word","name"])) (l2 (gF 2 (unop%a8 ["past","word","name"])) wX))))) (unop%e1 o2) (unop%e1 (dE (aE (bA 1) (aE (bA 2) br)))))) jM))))
abbrev A0:Stmt:=top 17
def afp:cR ["plan","state","event"] ["plan","state","event"] (cb A0):=unop%dA 0
def I9(F:cE K "gone" "gone" A0 f fd)(m:mg "gone"=some (.ref f))(aW:unop%d4 0)(v7:fp P w K mg base bo "state" k 1 rH)(oT:mZ P w K mg base "course_of" k 3 lY):Cl P w K mg base "gone" (k+1) 3 wN:=
 kB F afp (unop%gD F) m unop%lm
  (bP (fl (QE aW v7 aC (A6 oT z8 aC (aE (bA 0) (aE (bA 1) (aE (dE (aE (bA 2) br)) br)))))))
abbrev zY:Stmt:=inClass (top 23) 1
def Hq:cR ["self","event","told","behind"] ["self","event"] (cb zY):=unop%dA 0
def rI(F:cE K "happen" "Box.happen" zY f fd)(m:Meth K c_ "happen" f)(dy:unop%d4 1)(IH:Cl P w K mg base "words" k 3 wH)(I9:Cl P w K mg base "gone" k 3 wN)(tx:fp P w K mg base c_ "state" k 1 mO):cG P w K mg base c_ 1 "happen" (k+1) 2 nM:=
 hp F Hq (unop%cm F) m unop%lm
  (bM (ei 2 Hq.a8 (fV IH aC (aE (iB (j:=0) dy (a6 0)) (aE (tF dy tx aC (a6 0)) (aE (bA 1) br))))) (bM (ei 3 Hq.a8 (fV I9 aC (aE (iB (j:=0) dy (a6 0)) (aE (tF dy tx aC (a6 0)) (aE (bA 1) br))))) (bM (A1 (j:=1) dy (a6 0) (bA 1)) (bM (A1 (j:=2) dy (a6 0) (bA 3)) (bP (agh (bA 2)))))))
abbrev z6:Stmt:=inClass (top 23) 4
def acI:cR ["self","many"] ["self","many"] (cb z6):=unop%dA 0
def HC(F:cE K "ticks" "Box.ticks" z6 f fd)(m:Meth K c_ "ticks" f)(dy:unop%d4 1)(rI:cG P w K mg base c_ 1 "happen" k 2 nM):cG P w K mg base c_ 1 "ticks" (k+1) 2 wc:=
 hp F acI (unop%cm F) m unop%lm
  (bP (tR (eu dy rI aC (a6 0) (aE (dE (aE bX (aE (bA 1) br))) br))))
abbrev zN:Stmt:=inClass (top 23) 5
def acd:cR ["self","zone"] ["self","zone"] (cb zN):=unop%dA 0
def v3(F:cE K "need_zone" "Box.need_zone" zN f fd)(m:Meth K c_ "need_zone" f)(dy:unop%d4 1)(rN:Cl P w K mg base "kind_of" k 2 oV):fp P w K mg base c_ "need_zone" (k+1) 2 qa:=
 o4 F acd (unop%cm F) m unop%lm
  (bP (Ja (fV rN aC (aE (iB (j:=0) dy (a6 0)) (aE (bA 1) br)))))
abbrev Ag:Stmt:=inClass (top 23) 2
def ac3:cR ["self","zone","what"] ["self","zone","what"] (cb Ag):=unop%dA 0
def HL(F:cE K "line" "Box.line" Ag f fd)(m:Meth K c_ "line" f)(dy:unop%d4 1)(v3:fp P w K mg base c_ "need_zone" k 2 qa)(rI:cG P w K mg base c_ 1 "happen" k 2 nM):cG P w K mg base c_ 1 "line" (k+1) 3 wd:=
 hp F ac3 (unop%gD F) m unop%lm
  (bM (Ja (rP dy v3 aC (a6 0) (aE (bA 1) br))) (bP (tR (eu dy rI aC (a6 0) (aE (dE (aE bX (aE (bA 1) (aE (bA 2) br)))) br)))))
abbrev Ah:Stmt:=inClass (top 23) 3
def ac4:cR ["self","figures","deed","zone"] ["self","figures","deed","zone"] (cb Ah):=unop%dA 0
def HM(F:cE K "code" "Box.code" Ah f fd)(m:Meth K c_ "code" f)(dy:unop%d4 1)(rI:cG P w K mg base c_ 1 "happen" k 2 nM)(v3:fp P w K mg base c_ "need_zone" k 2 qa){sg:ah}(XW:mg "DEEDS_OF_ZONES"=some (.ref sg))(abx:∃(o:Obj) (its:Array aj) (n:Nat),K.lookup sg=some o/\o.cls=.type "tuple"/\o.data=.seq its n/\its.size<=cp/\Vals ((["shunt","free"]:List Str).map V.str) its.toList):cG P w K mg base c_ 1 "code" (k+1) 4 we:=
 hp F ac4 (unop%pk F) m unop%lm
  (bM (dT (mG (w_or (agd (a5 3)) (r2 (gO (wL (by exact aC.units)) nR (a5 2) (aA (Gs XW abx)))))) (bP (Ja (rP dy v3 aC (a6 0) (aE (bA 3) br)))) fD) (bP (tR (eu dy rI aC (a6 0) (aE (dE (aE bX (aE (bA 1) (aE (bA 2) (aE (bA 3) br))))) br)))))
abbrev Af:Stmt:=top 31
def ac2:cR ["_law_box","_law_event_here"] ["_law_box","_law_event_here"] (cb Af):=unop%dA 0
def HK(F:cE K "_law_box_do" "_law_box_do" Af f fd)(m:mg "_law_box_do"=some (.ref f))(dy:unop%d4 1)(HC:cG P w K mg base c_ 1 "ticks" k 2 wc)(HL:cG P w K mg base c_ 1 "line" k 3 wd)(HM:cG P w K mg base c_ 1 "code" k 4 we):qx P w K mg base "_law_box_do" 1 0 (k+1) 2 qe:=
 agY F ac2 (unop%cm F) m unop%lm
  (bM (dT (binop%fR (aA (b' (a5 1) (aA aZ))) (aA bX)) (bP (tR (eu dy HL aC (a6 0) (aE (b' (a5 1) (aA aZ)) (aE (b' (a5 1) (aA aZ)) br))))) fD) (bM (dT (binop%fR (aA (b' (a5 1) (aA aZ))) (aA bX)) (bP (tR (eu dy HM aC (a6 0) (aE (b' (a5 1) (aA aZ)) (aE (b' (a5 1) (aA aZ)) (aE (b' (a5 1) (aA aZ)) br)))))) fD) (bP (tR (eu dy HC aC (a6 0) (aE (b' (a5 1) (aA aZ)) br))))))
abbrev nT:Stmt:=top 32
def l1:cR ["_law_script","_law_ones","_law_others","_law_plans","_law_rows","_law_boxes","_law_told","_law_turn","_law_k","_law_box","_law_plan_here","_law_tale"] ["_law_script"] (cb nT):=unop%dA 0
def ahD(F:cE K "law" "law" nT f fd)(dy:unop%d4 1)(AL:Cl P w K mg base "_law_plan" k 1 wB)(lg:mg "range"=none)(lb:mg "enumerate"=none)(wo:Cl P w K mg base "_law_mixed" k 2 mQ)(II:Cl P w K mg base "_law_row" k 3 o1)(Tc:nX P w K mg base "Box" c_ 1 k 2 qc)(wI:Cl P w K mg base "story" k 3 oZ)(aif:Cl P w K mg base "begun" k 1 j8)(ff:mg "tuple"=none)(jn:mg "len"=none)(tx:fp P w K mg base c_ "state" k 1 mO)(IJ:Cl P w K mg base "after" k 3 rT)(H5:fp P w K mg base c_ "log" k 1 qg)(wq:fp P w K mg base c_ "row" k 1 nO)(HK:qx P w K mg base "_law_box_do" 1 0 k 2 qe):eT P w K mg base fh (k+2) f fd ["_law_script"] (spT K 1 aih):=
 Qq F l1 unop%lm
  (bM (ei 1 l1.a8 (fV AL (aC.mono (gu _)) (aE (fV wo (aC.mono (gu _)) (aE (bA 0) (aE aZ br))) br))) (bM (ei 2 l1.a8 (fV AL (aC.mono (gu _)) (aE (fV wo (aC.mono (gu _)) (aE (bA 0) (aE aZ br))) br))) (bM (ei 3 l1.a8 (dE (aE (bA 1) (aE (bA 2) (aE (bA 1) br))))) (bM (P8 4 l1.a8 (own:=["_law_k","_law_plan_here"]) (caps:=[(0,"_law_script")]) (binop%co nT ["_law_script","_law_ones","_law_others","_law_plans","_law_rows","_law_boxes","_law_told","_law_turn","_law_k","_law_box","_law_plan_here","_law_tale"]) (I5 lb (bA 3)) (unop%e1 (wW (l2 (gF 0 (unop%a8 ["_law_k","_law_plan_here","_law_script"])) (l2 (gF 1 (unop%a8 ["_law_k","_law_plan_here","_law_script"])) wX)))) (unop%e1 o2) (unop%e1 (fV (by exact II) (by exact (aC.mono (gu _))) (aE (bA 1) (aE (fV (by exact wo) (by exact (aC.mono (gu _))) (aE (bA 2) (aE (iU (aA aZ) (a5 0)) br))) (aE aZ br)))))) (ag3 (ahh 5 1 l1.a8 (af4 (y:="_law_plan_here") (gS:=["_law_script","_law_ones","_law_others","_law_plans","_law_rows","_law_boxes","_law_told","_law_turn","_law_k","_law_box","._law_plan_here","_law_tale"]) (sc:=cb nT) ["_law_script","_law_ones","_law_others","_law_plans","_law_rows","_law_boxes","_law_told","_law_turn","_law_k","_law_box","_law_plan_here","_law_tale"] rfl rfl rfl (by decide +kernel) (by decide +kernel)) (lh (bA 3)) (λ_ _ _ _ _ _=>by exact (QL dy Tc aC (aE (bA 0) br)))) (IK (af9 6 l1.a8 (r3 (aE (dE br) (aE (dE br) (aE (dE br) br))))) (IK (agZ 7 oN l1.a8 (I4 lg (aA aZ)) (Qv (A:=[]) 8 9 oN l1.a8 lb (wK (I' (gO (t4.or tD) tT (a5 7) (aA (wR (by exact jn) (jh (aA (b' (a5 4) (a5 8))) jM)))) (wK (afl (a6 6) (bA 8) (ag4 (x_pure (b' (a5 6) (a5 8))) (afi dy HK (aC.mono (gu _)) (a6 9) (aE (b' (aA (b' (a5 4) (a5 8))) (a5 7)) br))))) IP)))) (IK (Qv (A:=[10,11]) 8 9 oN l1.a8 lb (Ir (P5 10 l1.a8 (b' (a5 3) (a5 8))) (Ir (P5 11 l1.a8 (fV wI (aC.mono (gu _)) (aE (bA 10) (aE (fV aif (aC.mono (gu _)) (aE (bA 10) br)) (aE (b' (a5 4) (a5 8)) br))))) (Ir (I' (mG (w_or (binop%rg (aA (tF dy tx (aC.mono (gu _)) (a6 9))) (aA (fV IJ (aC.mono (gu _)) (aE (bA 10) (aE (fV aif (aC.mono (gu _)) (aE (bA 10) br)) (aE (b' (a5 4) (a5 8)) br)))))) (w_or (binop%rg (aA (tF dy H5 (aC.mono (gu _)) (a6 9))) (a5 11)) (r2 (binop%rg (aA (tF dy wq (aC.mono (gu _)) (a6 9))) (aA (b' (a5 4) (a5 8)))))))) (wK (P4 vp)) IP) (wK (I' (binop%rg (aA (b' (a5 6) (a5 8))) (aA (nP ff (jh (aA (oW (own:=["_law_ticks","_law_word","_law_name"]) (caps:=[]) (binop%co nT ["_law_script","_law_ones","_law_others","_law_plans","_law_rows","_law_boxes","_law_told","_law_turn","_law_k","_law_box","_law_plan_here","_law_tale"]) (lh (bA 11)) (unop%e1 (wW (l2 (gF 0 (unop%a8 ["_law_ticks","_law_word","_law_name"])) (l2 (gF 1 (unop%a8 ["_law_ticks","_law_word","_law_name"])) (l2 (gF 2 (unop%a8 ["_law_ticks","_law_word","_law_name"])) wX))))) (unop%e1 o2) (unop%e1 (dE (aE (bA 1) (aE (bA 2) br)))))) jM)))) (wK (P4 vp)) IP)))))) (ag2 (ag0 vp))))))))))
end
end n1
end
section
namespace D
open PySem
def aeU(ss:List Str)(h:∀x∈ss,(k2 x).canLay0=true):ks (ss.map .str)=true/\jH (ss.map .str)<=1:=by
 induction ss with
|nil=>simp[ks,jH]
|cons n ns b9=>
  have ab:=h n (by simp);have ak:=b9 λx hx=>h x (by simp[hx]);simp[ks,jH,oM,ab,ak]
theorem Ij(n:Str):∀ns:List Str,ob (.str n) (ns.map .str)=decide (n∈ns)
| []=>by simp[ob]
|m::ns=>by
  have b9:=Ij n ns;unfold ob at b9 ⊢;rw[dC,List.any_cons,b9];simp[mK,Bool.beq_eq_decide_eq,eq_comm]
def wG(n:Int):iu (.int n)=true:=by simp[iu,PyData.canLay0,oM]
def aid{x:Str}(h:(k2 x).canLay0=true):iu (.str x)=true:=by simp[iu,oM,h]
def Ot(ss:List Str)(h:∀x∈ss,(k2 x).canLay0=true):rh (ss.map .str)=true:=by
 have:=aeU ss h;simp[rh,this.1];omega
def afN(neg:Bool)(n:Str)(ns:List Str)(h0:(k2 n).canLay0=true)(h:∀x∈ns,(k2 x).canLay0=true):f_ neg (.str n) (.tuple (ns.map .str))=some (.bool (if neg then !decide (n∈ns) else decide (n∈ns))):=by
 simp only[f_,aid h0,Ot ns h,Ij,Bool.and_self,if_true]
end D
end
section
namespace bY
open D PySem
structure gQ where
 e8:Str
 iQ:Str
 lQ:List Str
 uses:Int
structure aY where
 cA:List (Str×Str)
 codes:List gQ
 leave:Int
 m8:Int
 loud:Int
structure aM where
 mode:Str
 left:Int
 gE:Option Str
 lines:List (Str×Str)
 dw:List Str
 fb:Int
 cO:List Str
 tries:Int
 locked:Int
 used:List (Str×Int)
 past:Int
 told:List (Int×Str×Option Str)
def eG:Option Str->T
|none=>.none
|some x=>.str x
def eX(z:Str×Str):T:=.tuple [.str z.1,.str z.2]
def dJ(c:gQ):T:=.tuple [.str c.e8,.str c.iQ,.tuple (c.lQ.map .str),.int c.uses]
noncomputable def bu(p:aY):T:=.tuple [.tuple (p.cA.map eX),.tuple (p.codes.map dJ),.tuple [.int p.leave,.int p.m8,.int p.loud]]
def gV(w:Int×Str×Option Str):T:=.tuple [.int w.1,.str w.2.1,eG w.2.2]
def hv(l:List (Str×Str)):List (D.Key×T):=l.map λp=>(.inr p.1,.str p.2)
def hu(l:List (Str×Int)):List (D.Key×T):=l.map λp=>(.inr p.1,.int p.2)
noncomputable def encC(p:aY)(c:aM):List aG:=[.ae (bu p),.ae (.str c.mode),.ae (.int c.left),.ae (eG c.gE),.f3 (hv c.lines),.own (c.dw.map .str),.ae (.int c.fb),.own (c.cO.map .str),.ae (.int c.tries),.ae (.int c.locked),.f3 (hu c.used),.ae (.int c.past),.own (c.told.map gV)]
def M_:¬(("off":Str)="leaving"):=by decide +kernel
def Pc:¬(("off":Str)="on"):=by decide +kernel
def z1:¬(("off":Str)="coming"):=by decide +kernel
def M':¬(("leaving":Str)="off"):=by decide +kernel
def Nn:¬(("leaving":Str)="on"):=by decide +kernel
def Hh:¬(("leaving":Str)="coming"):=by decide +kernel
def Pb:¬(("on":Str)="off"):=by decide +kernel
def Nl:¬(("on":Str)="leaving"):=by decide +kernel
def z':¬(("on":Str)="coming"):=by decide +kernel
def Nq:¬(("coming":Str)="off"):=by decide +kernel
def M0:¬(("coming":Str)="leaving"):=by decide +kernel
def NG:¬(("coming":Str)="on"):=by decide +kernel
def Ny:¬(("shut":Str)="open"):=by decide +kernel
def N2:¬(("shut":Str)="cut"):=by decide +kernel
def NA:¬(("open":Str)="shut"):=by decide +kernel
def N3:¬(("open":Str)="cut"):=by decide +kernel
def N7:¬(("cut":Str)="shut"):=by decide +kernel
def N8:¬(("cut":Str)="open"):=by decide +kernel
def NF:¬(("day":Str)="inner"):=by decide +kernel
def N6:¬(("day":Str)="once"):=by decide +kernel
def Ox:¬(("day":Str)="way"):=by decide +kernel
def ND:¬(("inner":Str)="day"):=by decide +kernel
def Np:¬(("inner":Str)="once"):=by decide +kernel
def NC:¬(("inner":Str)="way"):=by decide +kernel
def N5:¬(("once":Str)="day"):=by decide +kernel
def Nk:¬(("once":Str)="inner"):=by decide +kernel
def N4:¬(("once":Str)="way"):=by decide +kernel
def Ow:¬(("way":Str)="day"):=by decide +kernel
def Nx:¬(("way":Str)="inner"):=by decide +kernel
def N1:¬(("way":Str)="once"):=by decide +kernel
def Nz:¬(("set":Str)="unset"):=by decide +kernel
def Hz:¬(("set":Str)="shunt"):=by decide +kernel
def Ai:¬(("set":Str)="free"):=by decide +kernel
def z9:¬(("unset":Str)="set"):=by decide +kernel
def Hr:¬(("unset":Str)="shunt"):=by decide +kernel
def aix:¬(("unset":Str)="free"):=by decide +kernel
def z_:¬(("shunt":Str)="set"):=by decide +kernel
def aim:¬(("shunt":Str)="unset"):=by decide +kernel
def Nj:¬(("shunt":Str)="free"):=by decide +kernel
def Aj:¬(("free":Str)="set"):=by decide +kernel
def wa:¬(("free":Str)="unset"):=by decide +kernel
def wb:¬(("free":Str)="shunt"):=by decide +kernel
def NB:¬(("line":Str)="code"):=by decide +kernel
def Nm:¬(("line":Str)="ticks"):=by decide +kernel
def NH:¬(("code":Str)="line"):=by decide +kernel
def Nr:¬(("code":Str)="ticks"):=by decide +kernel
def Nh:¬(("ticks":Str)="line"):=by decide +kernel
def Ni:¬(("ticks":Str)="code"):=by decide +kernel
def tell(w:Str)(n:Option Str)(c:aM):aM:={c with told:=c.told++[(c.past,w,n)]}
def ju(p:aY)(c:aM):aM:={c with fb:=p.loud}
noncomputable def e4(p:aY)(z:Str)(c:aM):aM:=if z∈c.cO then ju p c else tell "alarm" (some z) {ju p c with cO:=c.cO++[z]}
section
variable (p:aY)(c:aM)
def Bj:(encC p c).length=13:=rfl
def ef:(encC p c)[0]?=some (.ae (bu p)):=rfl
def aH:(encC p c)[1]?=some (.ae (.str c.mode)):=rfl
def aS:(encC p c)[2]?=some (.ae (.int c.left)):=rfl
def fJ:(encC p c)[3]?=some (.ae (eG c.gE)):=rfl
def hT:(encC p c)[4]?=some (.f3 (hv c.lines)):=rfl
def sq:(encC p c)[5]?=some (.own (c.dw.map .str)):=rfl
def pv:(encC p c)[6]?=some (.ae (.int c.fb)):=rfl
def pw:(encC p c)[7]?=some (.own (c.cO.map .str)):=rfl
def xn:(encC p c)[8]?=some (.ae (.int c.tries)):=rfl
def px:(encC p c)[9]?=some (.ae (.int c.locked)):=rfl
def xl:(encC p c)[10]?=some (.f3 (hu c.used)):=rfl
def xm:(encC p c)[11]?=some (.ae (.int c.past)):=rfl
def sm:(encC p c)[12]?=some (.own (c.told.map gV)):=rfl
def s1(x:Str):(encC p c).set 1 (.ae (.str x))=encC p {c with mode:=x}:=rfl
def s2(x:Int):(encC p c).set 2 (.ae (.int x))=encC p {c with left:=x}:=rfl
def s3(x:Str):(encC p c).set 3 (.ae (.str x))=encC p {c with gE:=some x}:=rfl
def y8:(encC p c).set 3 (.ae .none)=encC p {c with gE:=none}:=rfl
def s4(l:List (Str×Str)):(encC p c).set 4 (.f3 (hv l))=encC p {c with lines:=l}:=rfl
def s5(l:List Str):(encC p c).set 5 (.own (l.map .str))=encC p {c with dw:=l}:=rfl
def y9:(encC p c).set 5 (.own [])=encC p {c with dw:=[]}:=rfl
def ja(x:Int):(encC p c).set 6 (.ae (.int x))=encC p {c with fb:=x}:=rfl
def cW(l:List Str):(encC p c).set 7 (.own (l.map .str))=encC p {c with cO:=l}:=rfl
def y':(encC p c).set 7 (.own [])=encC p {c with cO:=[]}:=rfl
def y_(l:List Str)(z:Str):(encC p c).set 7 (.own (l.map .str++[.str z]))=encC p {c with cO:=l++[z]}:=by simp[encC]
def eS(x:Int):(encC p c).set 8 (.ae (.int x))=encC p {c with tries:=x}:=rfl
def pU(x:Int):(encC p c).set 9 (.ae (.int x))=encC p {c with locked:=x}:=rfl
def hl(l:List (Str×Int)):(encC p c).set 10 (.f3 (hu l))=encC p {c with used:=l}:=rfl
def fa(x:Int):(encC p c).set 11 (.ae (.int x))=encC p {c with past:=x}:=rfl
def y7(l:List (Int×Str×Option Str))(i:Int)(w:Str)(n:Option Str):(encC p c).set 12 (.own (l.map gV++[.tuple [.int i,.str w,eG n]]))=encC p {c with told:=l++[(i,w,n)]}:=by simp[encC,gV]
end
end bY
open D bY
open PySem hiding run fresh code
local macro_rules
| `(tactic| simp! [hn,$xs,*] $[$l]?)=>`(tactic| simp[Bj,ef,aH,aS,fJ,hT,sq,pv,pw,xn,px,xl,xm,sm,s1,s2,s3,y8,s4,s5,y9,ja,cW,y',y_,eS,pU,hl,fa,y7,runM,g6,j9,jL,dH,cZ,eM,pS,o6,iv,el,jm,n6,kL,gJ,dS,fld,ft,mm,mn,ml,qr,qu,o8,never,uq,om,iT,eI,seq,iff,bO,jE,hS,e0,kW,en,ofT,eH,ao,bH,args,ai,nm,aN,cU,skip,asg,kM,kN,par,bV,fO,i9,iV,a0,fG,gY,b2,eg,gm,eN,comp,jj,$xs,*] $[$l]?)
local macro_rules
| `(tactic| simp! [ix,$xs,*] $[$l]?)=>`(tactic| simp[eI,seq,iff,bO,jE,hS,e0,kW,en,ofT,eH,ao,bH,args,ai,nm,aN,cU,skip,asg,kM,kN,par,bV,fO,i9,iV,a0,fG,gY,b2,eg,gm,eN,comp,jj,$xs,*] $[$l]?)
| `(tactic| simp! [ix] $[$l]?)=>`(tactic| simp[eI,seq,iff,bO,jE,hS,e0,kW,en,ofT,eH,ao,bH,args,ai,nm,aN,cU,skip,asg,kM,kN,par,bV,fO,i9,iV,a0,fG,gY,b2,eg,gm,eN,comp,jj] $[$l]?)
local macro_rules
| `(tactic| simp! [iy,$xs,*] $[$l]?)=>`(tactic| simp[da,sR,gp,oDiv,oMod,pN,hj,L0,vj,fM,QM,LZ,oLt,oLe,i8,sQ,big,Bj,ef,aH,aS,fJ,hT,sq,pv,pw,xn,px,xl,xm,sm,s1,s2,s3,y8,s4,s5,y9,ja,cW,y',y_,eS,pU,hl,fa,y7,runM,g6,j9,jL,dH,cZ,eM,pS,o6,iv,el,jm,n6,kL,gJ,dS,fld,ft,mm,mn,ml,qr,qu,o8,never,uq,om,iT,eI,seq,iff,bO,jE,hS,e0,kW,en,ofT,eH,ao,bH,args,ai,nm,aN,cU,skip,asg,kM,kN,par,bV,fO,i9,iV,a0,fG,gY,b2,eg,gm,eN,comp,jj,$xs,*] $[$l]?)
local macro_rules
| `(tactic| simp! [nC,$xs,*] $[$l]?)=>`(tactic| simp[runM,g6,j9,jL,dH,cZ,eM,pS,o6,iv,el,jm,n6,kL,gJ,dS,fld,ft,mm,mn,ml,qr,qu,o8,never,uq,om,iT,eI,seq,iff,bO,jE,hS,e0,kW,en,ofT,eH,ao,bH,args,ai,nm,aN,cU,skip,asg,kM,kN,par,bV,fO,i9,iV,a0,fG,gY,b2,eg,gm,eN,comp,jj,$xs,*] $[$l]?)
local macro_rules
| `(tactic| simp! [g7,$xs,*] $[$l]?)=>`(tactic| simp[Bj,ef,aH,aS,fJ,hT,sq,pv,pw,xn,px,xl,xm,sm,s1,s2,s3,y8,s4,s5,y9,ja,cW,y',y_,eS,pU,hl,fa,y7,runM,g6,j9,jL,dH,cZ,eM,pS,o6,iv,el,jm,n6,kL,gJ,dS,fld,ft,mm,mn,ml,qr,qu,o8,never,uq,om,iT,M_,Pc,z1,M',Nn,Hh,Pb,Nl,z',Nq,M0,NG,Ny,N2,NA,N3,N7,N8,NF,N6,Ox,ND,Np,NC,N5,Nk,N4,Ow,Nx,N1,Nz,Hz,Ai,z9,Hr,aix,z_,aim,Nj,Aj,wa,wb,NB,Nm,NH,Nr,Nh,Ni,eI,seq,iff,bO,jE,hS,e0,kW,en,ofT,eH,ao,bH,args,ai,nm,aN,cU,skip,asg,kM,kN,par,bV,fO,i9,iV,a0,fG,gY,b2,eg,gm,eN,comp,jj,$xs,*] $[$l]?)
local macro_rules
| `(tactic| simp! [GK,$xs,*] $[$l]?)=>`(tactic| simp[da,sR,gp,oDiv,oMod,pN,hj,L0,vj,fM,QM,LZ,oLt,oLe,i8,sQ,big,eI,seq,iff,bO,jE,hS,e0,kW,en,ofT,eH,ao,bH,args,ai,nm,aN,cU,skip,asg,kM,kN,par,bV,fO,i9,iV,a0,fG,gY,b2,eg,gm,eN,comp,jj,$xs,*] $[$l]?)
local macro_rules
| `(tactic| simp! [abb,$xs,*] $[$l]?)=>`(tactic| simp[runM,g6,j9,jL,dH,cZ,eM,pS,o6,iv,el,jm,n6,kL,gJ,dS,fld,ft,mm,mn,ml,qr,qu,o8,never,uq,om,iT,$xs,*] $[$l]?)
local macro_rules
| `(tactic| simp! [abc,$xs,*] $[$l]?)=>`(tactic| simp[Bj,ef,aH,aS,fJ,hT,sq,pv,pw,xn,px,xl,xm,sm,s1,s2,s3,y8,s4,s5,y9,ja,cW,y',y_,eS,pU,hl,fa,y7,$xs,*] $[$l]?)
local macro_rules
| `(tactic| simp! [eA,$xs,*] $[$l]?)=>`(tactic| simp[eI,seq,iff,bO,jE,hS,e0,kW,en,ofT,eH,ao,bH,args,ai,nm,aN,cU,skip,asg,kM,kN,par,bV,fO,i9,iV,b2,eg,gm,eN,comp,jj,$xs,*] $[$l]?)
| `(tactic| simp! [eA] $[$l]?)=>`(tactic| simp[eI,seq,iff,bO,jE,hS,e0,kW,en,ofT,eH,ao,bH,args,ai,nm,aN,cU,skip,asg,kM,kN,par,bV,fO,i9,iV,b2,eg,gm,eN,comp,jj] $[$l]?)
local macro_rules
| `(tactic| simp! [Mp,$xs,*] $[$l]?)=>`(tactic| simp[M_,Pc,z1,M',Nn,Hh,Pb,Nl,z',Nq,M0,NG,Ny,N2,NA,N3,N7,N8,NF,N6,Ox,ND,Np,NC,N5,Nk,N4,Ow,Nx,N1,Nz,Hz,Ai,z9,Hr,aix,z_,aim,Nj,Aj,wa,wb,NB,Nm,NH,Nr,Nh,Ni,eI,seq,iff,bO,jE,hS,e0,kW,en,ofT,eH,ao,bH,args,ai,nm,aN,cU,skip,asg,kM,kN,par,bV,fO,i9,iV,a0,fG,gY,b2,eg,gm,eN,comp,jj,$xs,*] $[$l]?)
namespace bY
open D PySem
def cn(x:Str):Prop:=(k2 x).canLay0=true
def dr{x y:Str}(ab:cn x)(ak:cn y):oEq (.str x) (.str y)=some (.bool (decide (x=y))):=by
 unfold oEq;rw[aid ab,aid ak];by_cases e:x=y <;> simp[mK,e]
def nQ{x y:Str}(ab:cn x)(ak:cn y):g0 (.str x) (.str y)=some (.bool (!decide (x=y))):=by
 unfold g0;rw[aid ab,aid ak];by_cases e:x=y <;> simp[mK,e]
def wy(neg:Bool){n:Str}{ns:List Str}(h0:cn n)(h:∀x∈ns,cn x):f_ neg (.str n) (.list (ns.map .str))=some (.bool (if neg then !decide (n∈ns) else decide (n∈ns))):=by
 simp only[f_,aid h0,Ot ns h,Ij];rfl
def wx(neg:Bool){n:Str}{ns:List Str}(h0:cn n)(h:∀x∈ns,cn x):f_ neg (.str n) (.tuple (ns.map .str))=some (.bool (if neg then !decide (n∈ns) else decide (n∈ns))):=afN neg n ns h0 h
def Pp(p:aY)(c:aM)(w:Str)(n:Option Str)(h:c.told.length<big):fB [.obj .ck 0 (encC p c),.ae (.str w),.ae (eG n)]=some (.none,encC p (tell w n c)):=by
 have h':c.told.length<16777216:=h;simp! [hn,fB,Nd,tell,big,h']
def Ao(p:aY)(c:aM)(w:Str)(h:c.told.length<big):fB [.obj .ck 0 (encC p c),.ae (.str w),.ae .none]=some (.none,encC p (tell w none c)):=Pp p c w none h
def oU(p:aY)(c:aM)(w z:Str)(h:c.told.length<big):fB [.obj .ck 0 (encC p c),.ae (.str w),.ae (.str z)]=some (.none,encC p (tell w (some z) c)):=Pp p c w (some z) h
def HN(p:aY)(c:aM):rG [.obj .ck 0 (encC p c)]=some (.none,encC p (ju p c)):=by
 simp! [hn,rG,M3,ju,bu]
structure a3(p:aY)(c:aM):Prop where
 zn:∀z∈p.cA,cn z.1/\cn z.2
 eV:∀k∈p.codes,cn k.e8/\cn k.iQ/\∀r∈k.lQ,cn r
 fg:p.cA.length<=40
 mo:cn c.mode
 ca:∀z,c.gE=some z->cn z/\z∈p.cA.map (·.1)
 jT:c.mode="coming"->c.gE≠none
 ln:c.lines.map (·.1)=p.cA.map (·.1)
 lo:∀l∈c.lines,cn l.2
 us:c.used.map (·.1)=p.codes.map (·.e8)
 b3:c.dw.Nodup/\∀z∈c.dw,z∈p.cA.map (·.1)
 al:c.cO.Nodup/\∀z∈c.cO,z∈p.cA.map (·.1)
def a3.i_{p:aY}{c:aM}(h:a3 p c){z:Str}(aq:z∈p.cA.map (·.1)):cn z:=by
 obtain⟨x,hx,rfl⟩:=et.mp aq;exact (h.zn x hx).1
def a3.sT{p:aY}{c:aM}(h:a3 p c):∀z∈c.dw,cn z:=λz aq=>h.i_ (h.b3.2 z aq)
def a3.L3{p:aY}{c:aM}(h:a3 p c):∀z∈c.cO,cn z:=λz aq=>h.i_ (h.al.2 z aq)
def Ou{α:Type}[BEq α][LawfulBEq α]{l m:List α}(h:l.Nodup)(az:∀x∈l,x∈m):l.length<=m.length:=by
 induction l generalizing m with
|nil=>simp
|cons x l b9=>
  obtain⟨ab,ak⟩:=gb.mp h;have hx:=az x fA;have:=b9 (m:=m.erase x) ak λy bI=>(List.mem_erase_of_ne (λe:y=x=>ab (e▸bI))).mpr (az y (d6 _ bI));have av:=List.length_erase_of_mem hx;have:=List.length_pos_of_mem hx;simp only[gK];omega
def a3.JI{p:aY}{c:aM}(h:a3 p c):c.cO.length<=40:=by
 have:=Ou h.al.1 h.al.2;have:=h.fg;simp at *;omega
def a3.Mm{p:aY}{c:aM}(h:a3 p c):c.dw.length<=40:=by
 have:=Ou h.b3.1 h.b3.2;have:=h.fg;simp at *;omega
def AO(p:aY)(c:aM)(z:Str)(h:a3 p c)(aq:cn z)(bg:c.told.length<big):kv [.obj .ck 0 (encC p c),.ae (.str z)]=some (.none,encC p (e4 p z c)):=by
 have ax:=h.JI;have yc:f_ true (.str z) (.list (c.cO.map .str))=some (.bool (!decide (z∈c.cO))):=by rw[wy true aq h.L3];rfl
 have aa:(ju p c).cO=c.cO:=rfl;have d2:c.cO.length<16777216:=by omega
 by_cases hm:z∈c.cO
 ·simp! [hn,kv,Hp,HN,aa,yc,hm,e4]
 ·have j0:({ju p c with cO:=c.cO++[z]}:aM).told.length<big:=bg;simp! [hn,kv,Hp,HN,aa,yc,hm,e4,big,d2,oU p _ "alarm" z j0]
def kindOf(p:aY)(z:Str):Str:=((p.cA.find? λx=>decide (x.1=z)).map (·.2)).getD ""
def codeOf(p:aY)(f:Str):Option gQ:=p.codes.find? λk=>decide (k.e8=f)
theorem Oz{z:Str}(aq:cn z)(s0:Option aG):∀(zs:List (Str×Str)) (t0:Option aG),(∀x∈zs,cn x.1)->z∈zs.map (·.1)->forL (b2 2) (iff (bO (ao oEq (ao a0 (nm 2) (ai (.int 0))) (nm 1))) (cU (ao a0 (nm 2) (ai (.int 1)))) skip) (zs.map eX) [s0,some (.ae (.str z)),t0]=some (.dj (.str (((zs.find? λx=>decide (x.1=z)).map (·.2)).getD "")))
| [],t0,_,h=>by simp at h
|x::zs,t0,aF,h=>by
  have e:=dr (aF x (by simp)) aq;by_cases hx:x.1=z
  ·simp! [ix,forL,eX,hx,dr aq aq]
  ·have h':z∈zs.map (·.1):=by
    rw[dC] at h;rcases cM.mp h with q|q
    ·exact absurd q.symm hx
    ·exact q
   have b9:=Oz aq s0 zs (some (.ae (eX x))) (λy bI=>aF y (d6 _ bI)) h';simp[eX] at b9;simp! [ix,forL,eX,hx,e];simpa [eI,seq,iff,bO,jE,hS,e0,kW,en,ofT,eH,ao,bH,args,ai,nm,aN,cU,skip,asg,kM,kN,par,bV,fO,i9,iV,a0,fG,gY,b2,eg,gm,eN,comp,jj] using b9
def HI{p:aY}{z:Str}(aF:∀x∈p.cA,cn x.1/\cn x.2)(aq:z∈p.cA.map (·.1)):oV [bu p,.str z]=some (.str (kindOf p z)):=by
 obtain⟨x,hx,rfl⟩:=et.mp aq;have:=Oz (aF x hx).1 (some (.ae (bu p))) p.cA none (λy bI=>(aF y bI).1) aq;simp! [ix,oV,OQ,iK,bu] at this ⊢;simp[this,kindOf]
def su:Option gQ->T
|none=>.none
|some k=>dJ k
theorem OJ{f:Str}(hf:cn f)(s0:Option aG):∀(bf:List gQ) (t0:Option aG),(∀k∈bf,cn k.e8)->forL (b2 2) (iff (bO (ao oEq (ao a0 (nm 2) (ai (.int 0))) (nm 1))) (cU (nm 2)) skip) (bf.map dJ) [s0,some (.ae (.str f)),t0] =
   match bf.find? λk=>decide (k.e8=f) with
   |some k=>some (.dj (dJ k))
   |none=>some (.bQ [s0,some (.ae (.str f)),(bf.getLast?.map λk=>aG.ae (dJ k)).elim t0 some])
| [],t0,_=>by simp[forL]
|k::bf,t0,aF=>by
  have e:=dr (aF k (by simp)) hf;by_cases hx:k.e8=f
  ·simp! [ix,forL,dJ,hx,dr hf hf]
  ·have b9:=OJ hf s0 bf (some (.ae (dJ k))) (λy bI=>aF y (d6 _ bI));simp only[dC,forL];simp! [ix,dJ,hx,e] at b9 ⊢;rw[b9];cases bf with
   |nil=>simp
   |cons h1 bf=>simp[List.getLast?_cons]
def adL{p:aY}{f:Str}(aF:∀k∈p.codes,cn k.e8)(hf:cn f):wk [bu p,.str f]=some (su (codeOf p f)):=by
 have:=OJ hf (some (.ae (bu p))) p.codes none aF;simp! [ix,wk,OR,iK,bu] at this ⊢;rw[this];unfold codeOf;cases e:p.codes.find? λk=>decide (k.e8=f) with
|none=>simp[su]
|some k=>simp[su]
def la(c:aM)(z:Str):Str:=(c.lines.lookup z).getD ""
noncomputable def jC(l:List (Str×Str))(z w:Str):List (Str×Str):=l.map λp=>if p.1=z then (z,w) else p
def P0(c:aM)(f:Str):Int:=(c.used.lookup f).getD 0
noncomputable def n5(l:List (Str×Int))(f:Str):List (Str×Int):=l.map λp=>if p.1=f then (f,p.2+1) else p
theorem Qp{z:Str}:∀{l:List (Str×Str)},z∈l.map (·.1)->getD (hv l) (.inr z)=some (.str ((l.lookup z).getD ""))
  | [],h=>by simp at h
  | (k,v)::l,h=>by
    by_cases e:k=z
    · subst e
      simp[getD,hv,iR]
    · have h':z∈l.map (·.1):=by
        rw[dC] at h;rcases cM.mp h with q|q
        · exact absurd q.symm e
        · exact q
      have b9:=Qp h';have ne:(z==k)=false:=beq_eq_false_iff_ne.mpr (Ne.symm e);simp only[getD,hv,dC,oK] at b9 ⊢;rw[decide_eq_false (λq=>e (Sum.inr.inj q))];simp only[iR,ne];exact b9
theorem I6{z:Str}:∀{l:List (Str×Int)},z∈l.map (·.1)->getD (hu l) (.inr z)=some (.int ((l.lookup z).getD 0))
  | [],h=>by simp at h
  | (k,v)::l,h=>by
    by_cases e:k=z
    · subst e
      simp[getD,hu,iR]
    · have h':z∈l.map (·.1):=by
        rw[dC] at h;rcases cM.mp h with q|q
        · exact absurd q.symm e
        · exact q
      have b9:=I6 h';have ne:(z==k)=false:=beq_eq_false_iff_ne.mpr (Ne.symm e);simp only[getD,hu,dC,oK] at b9 ⊢;rw[decide_eq_false (λq=>e (Sum.inr.inj q))];simp only[iR,ne];exact b9
def ahG{z:Str}{l:List (Str×Str)}(h:z∈l.map (·.1)):(hv l).any (λp=>decide (p.1=(Sum.inr z:D.Key)))=true:=by
 obtain⟨x,hx,rfl⟩:=et.mp h;rw[List.any_eq_true];exact⟨(.inr x.1,.str x.2),et.mpr ⟨x,hx,rfl⟩,by simp⟩
def ahH{z:Str}{l:List (Str×Int)}(h:z∈l.map (·.1)):(hu l).any (λp=>decide (p.1=(Sum.inr z:D.Key)))=true:=by
 obtain⟨x,hx,rfl⟩:=et.mp h;rw[List.any_eq_true];exact⟨(.inr x.1,.int x.2),et.mpr ⟨x,hx,rfl⟩,by simp⟩
def ags{z w:Str}{l:List (Str×Str)}(h:z∈l.map (·.1)):putD (hv l) (.inr z) (.str w)=hv (jC l z w):=by
 unfold putD;rw[ahG h,if_pos rfl];simp only[hv,jC,nH];refine List.map_congr_left λx _=>?_;by_cases e:x.1=z
 ·simp[e]
 ·have:¬(Sum.inr x.1:D.Key)=Sum.inr z:=λq=>e (Sum.inr.inj q);simp[e,this]
def agt{z:Str}{l:List (Str×Int)}(h:z∈l.map (·.1))(a8:(l.map (·.1)).Nodup):putD (hu l) (.inr z) (.int ((l.lookup z).getD 0+1))=hu (n5 l z):=by
 unfold putD;rw[ahH h,if_pos rfl];simp only[hu,n5,nH];refine List.map_congr_left λx hx=>?_;by_cases e:x.1=z
 ·have:∀{l:List (Str×Int)},x∈l->(l.map (·.1)).Nodup->l.lookup x.1=some x.2:=by
   intro l
   induction l with
   |nil=>intro h;simp at h
   |cons y l b9=>
    intro h a8;rcases cM.mp h with rfl|h
    ·simp[iR]
    ·rw[dC,gb] at a8;have ne:(x.1==y.1)=false:=beq_eq_false_iff_ne.mpr λq=>a8.1 (q▸et.mpr ⟨x,h,rfl⟩);simp only[iR,ne];exact b9 h a8.2
  have av:=this hx a8;subst e;simp[av]
 ·have:¬(Sum.inr x.1:D.Key)=Sum.inr z:=λq=>e (Sum.inr.inj q);simp[e,this]
theorem tW{α:Type}{cc:fm}{hV:bE}{caps:Ev}(enc:α->T)(q:α->Bool)(f:α->T):∀(ts:List α) (s0:Option aG),(∀a∈ts,cc (some (.ae (enc a))::caps)=some (q a)/\(q a=true->hV (some (.ae (enc a))::caps)=some (f a)))->fW (b2 0) cc hV (ts.map enc) (s0::caps)=some ((ts.filter q).map f)
| [],_,_=>rfl
|a::ts,s0,h=>by
  obtain⟨ab,ak⟩:=h a (by simp);have b9:=tW enc q f ts (some (.ae (enc a))) λb aa=>h b (d6 _ aa);simp only[dC,fW,b2,je,de,ab];cases bK:q a with
  |false=>simp[b9,bK]
  |true=>simp[b9,bK,ak bK]
noncomputable def bare(p:aY)(kinds:List Str)(c:aM):List Str:=((p.cA.filter λz=>decide (z.2∈kinds)).map (·.1)).filter λz=>decide (la c z≠"shut") && !decide (z∈c.dw)
def bl(x:Str)(h:(k2 x).canLay0=true:=by decide +kernel):cn x:=h
theorem lookup_mem{α:Type}{z:Str}:∀{l:List (Str×α)} {v:α},l.lookup z=some v->(z,v)∈l
  | [],v,h=>by cases h
  | (k,x)::l,v,h=>by
    rw[j5] at h;split at h
    next q=>
      cases h
      have:z=k:=by simpa using q
      subst this;simp
    next=>exact d6 _ (lookup_mem h)
def a3.vm{p:aY}{c:aM}(h:a3 p c)(z:Str):cn (la c z):=by
 unfold la;cases e:c.lines.lookup z with
|none=>exact bl ""
|some v=>exact h.lo _ (lookup_mem e)
def a3.LD{p:aY}{c:aM}(h:a3 p c){z:Str}(aq:z∈p.cA.map (·.1)):getD (hv c.lines) (.inr z)=some (.str (la c z)):=Qp (by rw[h.ln];exact aq)
def PR(p:aY)(c:aM)(bf:List Str)(m:gi)(h:a3 p c)(aI:∀k∈bf,cn k):rE [.obj m 0 (encC p c),.ae (.tuple (iT bf))]=some (.list ((bare p bf c).map .str)):=by
 have Ll:=h.fg;have dc:=tW (cc:=bO (ao (f_ false) (ao a0 (nm 0) (ai (.int 1))) (nm 1))) (hV:=ao a0 (nm 0) (ai (.int 0))) (caps:=[some (.ae (.tuple (iT bf)))]) eX (λz=>decide (z.2∈bf)) (λz=>.str z.1) p.cA none λz aq=>by
  have:=wx false (h.zn z aq).2 aI;simp at this;constructor
  ·simp! [ix,eX,iT,this]
  ·intro _;simp! [ix,eX]
 have dP:=tW (cc:=hS (bO (ao g0 (ml 0 1 4 (nm 0)) (ai (.str "shut")))) (bO (ao (f_ true) (nm 0) (fld 0 1 5)))) (hV:=aN 0) (caps:=[some (.obj m 0 (encC p c))]) k2 (λz=>decide (la c z≠"shut") && !decide (z∈c.dw)) k2 ((p.cA.filter λz=>decide (z.2∈bf)).map (·.1)) none λz aq=>by
  have Lm:z∈p.cA.map (·.1):=by
   obtain⟨x,hx,rfl⟩:=et.mp aq;exact et.mpr ⟨x,(List.mem_filter.mp hx).1,rfl⟩
  have aH:=h.LD Lm;have aS:=nQ (h.vm z) (bl "shut");have fJ:=wy true (h.i_ Lm) h.sT;simp at fJ;constructor
  ·by_cases az:la c z="shut"
   ·simp! [hn,keyOf,aH,aS,az,nQ (bl "shut") (bl "shut")]
   ·simp! [hn,keyOf,aH,aS,fJ,az]
  ·intro _;simp! [ix]
 have b1:(p.cA.map eX).length<=16777216:=by simp;omega
 have b_:(((p.cA.filter λz=>decide (z.2∈bf)).map λz=>k2 z.1)).length<=16777216:=by
  rw[gc];have:=zt (λz:Str×Str=>decide (z.2∈bf)) p.cA;omega
 simp only[nH,nF] at dP;simp only[rE,MV,g6,j9];simp! [hn,bu] at dc dP ⊢;have qY:p.cA.length<=big:=by unfold big;omega
 have VA:(p.cA.filter λz=>decide (z.2∈bf)).length<=big:=by
  have:=zt (λz:Str×Str=>decide (z.2∈bf)) p.cA;omega
 rw[if_pos qY,dc];simp only[gd,de,oO,nG,Function.comp_apply,gc,VA,if_true,Option.join_some];rw[dP];simp[bare]
noncomputable def iH(p:aY)(z k:Str)(c:aM):aM:=if k≠"way"\/p.m8<=0 then e4 p z c else tell "coming" (some z) {c with mode:="coming",left:=p.m8,gE:=some z}
noncomputable def i3(p:aY)(z w:Str)(c:aM):aM:=
 if kindOf p z="day" then e4 p z c
 else if c.mode="off" then (if w="cut" then tell "fault" (some z) c else c)
 else if w="cut"\/kindOf p z="once" then e4 p z c
 else if c.mode="on" then iH p z (kindOf p z) c else c
noncomputable def line(p:aY)(z w:Str)(c:aM):aM:=
 if w=la c z then c
 else if w="shut" then (if la c z="cut" then tell "mended" (some z) {c with lines:=jC c.lines z w} else {c with lines:=jC c.lines z w})
 else if z∈c.dw then {c with lines:=jC c.lines z w} else i3 p z w {c with lines:=jC c.lines z w}
def adK(p:aY)(c:aM)(z k:Str)(h:a3 p c)(aq:cn z)(aI:cn k)(bg:c.told.length<big):rF [.obj .ck 0 (encC p c),.ae (.str z),.ae (.str k)]=some (.none,encC p (iH p z k c)):=by
 have e:=nQ aI (bl "way");have cK:=AO p c z h aq bg;by_cases ab:k="way"
 ·by_cases ak:p.m8<=0
  ·simp! [iy,rF,zK,bu,e,ab,ak,cK,iH];simp! [nC,nQ (bl "way") (bl "way"),cK,ak]
  ·have bx:=oU p {c with mode:="coming",left:=p.m8,gE:=some z} "coming" z bg;simp! [iy,rF,zK,bu,ab,ak,iH];simp! [iy,nQ (bl "way") (bl "way"),bx,ak,bu]
 ·simp! [iy,rF,zK,bu,e,ab,cK,iH]
def adI(p:aY)(c:aM)(z w:Str)(h:a3 p c)(aq:z∈p.cA.map (·.1))(hw:cn w)(bg:c.told.length<big):vW [.obj .ck 0 (encC p c),.ae (.str z),.ae (.str w)]=some (.none,encC p (i3 p z w c)):=by
 have fQ:=HI h.zn aq;have DS:cn (kindOf p z):=by
  unfold kindOf;cases e:p.cA.find? λx=>decide (x.1=z) with
  |none=>exact bl ""
  |some x=>exact (h.zn x (List.mem_of_find?_eq_some e)).2
 have cK:=AO p c z h (h.i_ aq) bg;have bx:=oU p c "fault" z bg;have hU:=adK p c z (kindOf p z) h (h.i_ aq) DS bg;have aP:=dr DS (bl "day");have ba:=dr h.mo (bl "off");have c9:=dr hw (bl "cut");have i':=dr DS (bl "once");have rl:=dr h.mo (bl "on");simp only[vW,M1,i3];by_cases ab:kindOf p z="day"
 ·simp! [g7,fQ,aP,ab,cK];simp! [nC,dr (bl "day") (bl "day"),cK]
 ·by_cases ak:c.mode="off"
  ·by_cases bF:w="cut"
   ·simp! [g7,fQ,aP,ab,ba,ak,c9,bF,bx,dr (bl "off") (bl "off"),dr (bl "cut") (bl "cut")]
   ·simp! [g7,fQ,aP,ab,ba,ak,c9,bF,bx,dr (bl "off") (bl "off")]
  ·by_cases bF:w="cut"
   ·simp! [g7,fQ,aP,ab,ba,ak,c9,bF,cK,dr (bl "cut") (bl "cut")]
   ·by_cases cT:kindOf p z="once"
    ·simp! [g7,fQ,aP,ab,ba,ak,c9,bF,i',cT,cK,dr (bl "once") (bl "once"),dr (bl "once") (bl "day")]
    ·by_cases gG:c.mode="on"
     ·simp! [g7,fQ,aP,ab,ba,ak,c9,bF,i',cT,rl,gG,hU,dr (bl "on") (bl "on"),dr (bl "on") (bl "off")]
     ·simp! [g7,fQ,aP,ab,ba,ak,c9,bF,i',cT,rl,gG,hU]
def adV(l:List (Str×Str))(z w:Str):(jC l z w).map (·.1)=l.map (·.1):=by
 unfold jC;rw[nH];refine List.map_congr_left λx _=>?_;by_cases e:x.1=z <;> simp[e]
def aeq(l:List (Str×Int))(z:Str):(n5 l z).map (·.1)=l.map (·.1):=by
 unfold n5;rw[nH];refine List.map_congr_left λx _=>?_;by_cases e:x.1=z <;> simp[e]
def a3.Mk{p:aY}{c:aM}(h:a3 p c)(z:Str){w:Str}(hw:cn w):a3 p {c with lines:=jC c.lines z w}:=
 ⟨h.zn,h.eV,h.fg,h.mo,h.ca,h.jT,(adV _ _ _).trans h.ln,λl av=>by
  obtain⟨x,hx,rfl⟩:=et.mp av;by_cases e:x.1=z
  ·rw[if_pos e];exact hw
  ·rw[if_neg e];exact h.lo x hx,h.us,h.b3,h.al⟩
theorem a3.tell{p:aY}{c:aM}(h:a3 p c)(w:Str)(n:Option Str):a3 p (bY.tell w n c):=⟨h.zn,h.eV,h.fg,h.mo,h.ca,h.jT,h.ln,h.lo,h.us,h.b3,h.al⟩
def a3.loud{p:aY}{c:aM}(h:a3 p c):a3 p (ju p c):=⟨h.zn,h.eV,h.fg,h.mo,h.ca,h.jT,h.ln,h.lo,h.us,h.b3,h.al⟩
theorem a3.e4{p:aY}{c:aM}(h:a3 p c){z:Str}(aq:z∈p.cA.map (·.1)):a3 p (bY.e4 p z c):=by
 unfold bY.e4;split
 ·exact h.loud
 next hm=>
  refine a3.tell (c:={ju p c with cO:=c.cO++[z]}) ⟨h.zn,h.eV,h.fg,h.mo,h.ca,h.jT,h.ln,h.lo,h.us,h.b3,?_,?_⟩ _ _
  ·show (c.cO++[z]).Nodup
   rw[oJ];exact⟨h.al.1,by simp,λa ax b aa e=>hm (by simp at aa;subst aa;exact e▸ax)⟩
  ·intro y bI;rcases j4.mp bI with q|q
   ·exact h.al.2 y q
   ·simp at q;exact q▸aq
def wh(p:aY)(z:Str)(c:aM):(e4 p z c).told.length<=c.told.length+1:=by
 unfold e4 tell ju;split <;> simp
def afP(p:aY)(c:aM)(z w:Str)(h:a3 p c)(aq:z∈p.cA.map (·.1))(hw:cn w)(bg:c.told.length<big):v_ [.obj .ck 0 (encC p c),.ae (.str z),.ae (.str w)]=some (.none,encC p (line p z w c)):=by
 have aH:=h.LD aq;have Ll:z∈c.lines.map (·.1):=by rw[h.ln];exact aq
 have aS:=ags (w:=w) Ll;have aP:=dr hw (h.vm z);have ba:=dr hw (bl "shut");have c9:=dr (h.vm z) (bl "cut");have i':=wy true (h.i_ aq) h.sT;simp at i';have hlen:(hv c.lines).length<16777216:=by
  have:=congrArg List.length h.ln;have:=h.fg;simp[hv] at *;omega
 have hd:=adI p _ z w (h.Mk z hw) aq hw bg;have bx:=oU p {c with lines:=jC c.lines z w} "mended" z bg;simp only[v_,Nf,line];by_cases ab:w=la c z
 ·simp! [g7,keyOf,aH,aP,ab,dr (h.vm z) (h.vm z)]
 ·by_cases ak:w="shut"
  ·subst ak;by_cases bF:la c z="cut"
   ·simp! [g7,big,keyOf,aH,aS,aP,ab,ba,c9,bF,hlen,bx,dr (bl "cut") (bl "cut"),dr (bl "shut") (bl "shut"),dr (bl "shut") (bl "cut")]
   ·simp! [g7,big,keyOf,aH,aS,aP,ab,ba,c9,bF,hlen,dr (bl "shut") (bl "shut")]
  ·by_cases cT:z∈c.dw
   ·simp! [g7,big,keyOf,aH,aS,aP,ab,ba,ak,i',cT,hlen]
   ·simp! [g7,big,keyOf,aH,aS,aP,ab,ba,ak,i',cT,hlen,hd]
def less(a n:Int):Int:=if 0 > a - n then 0 else a - n
noncomputable def lZ(n:Int)(c:aM):aM:={c with past:=c.past+n,locked:=less c.locked n,fb:=less c.fb n,left:=less c.left n}
def ac9(a n:Int):rK [.int a,.int n]=some (.int (less a n)):=by
 simp! [GK,rK,Od,less]
def Hu(p:aY)(c:aM)(n:Int):rD [.obj .ck 0 (encC p c),.ae (.int n)]=some (.none,encC p (lZ n c)):=by
 simp! [hn,rD,MU,ac9,lZ]
def cO(p:aY)(zs:List Str)(c:aM):aM:=zs.foldl (λc z=>e4 p z c) c
noncomputable def iI(p:aY)(c:aM):aM:=cO p (bare p ["inner","way"] (tell "on" none {c with mode:="on",left:=0})) (tell "on" none {c with mode:="on",left:=0})
noncomputable def lB(p:aY)(c:aM):aM:=e4 p (c.gE.getD "") {c with mode:="on",gE:=none}
def iJ(p:aY)(c:aM):aM:=if c.mode="leaving" then iI p c else lB p c
noncomputable def ec(p:aY)(n:Int)(c:aM):aM:=
 if n<1 then c else if (c.mode="leaving"\/c.mode="coming")/\c.left<=n then lZ (n - c.left) (iJ p (lZ c.left c)) else lZ n c
theorem Oe(p:aY):∀(zs:List Str) (c:aM) (s1:Option aG),a3 p c->(∀z∈zs,z∈p.cA.map (·.1))->c.told.length+zs.length<big->∃pT,forL (b2 1) (dH (cZ 0 kv 0 [(aN 1)])) (zs.map .str) [some (.obj .ck 0 (encC p c)),s1]=some (.bQ [some (.obj .ck 0 (encC p (cO p zs c))),pT])
| [],c,s1,_,_,_=>⟨s1,by simp[forL,cO]⟩
|z::zs,c,s1,h,aq,bg=>by
  have Lo:=aq z (by simp);have cK:=AO p c z h (h.i_ Lo) (by simp at bg;omega);have:=wh p z c;obtain⟨pT,b9⟩:=Oe p zs (e4 p z c) (some (.ae (.str z))) (h.e4 Lo) (λy bI=>aq y (d6 _ bI)) (by simp at bg;omega);refine⟨pT,?_⟩;rw[dC,forL];simp! [nC,cK];simpa [eI,seq,iff,bO,jE,hS,e0,kW,en,ofT,eH,ao,bH,args,ai,nm,aN,cU,skip,asg,kM,kN,par,bV,fO,i9,iV,a0,fG,gY,b2,eg,gm,eN,comp,jj,cO] using b9
def AM{p:aY}{bf:List Str}{c:aM}{z:Str}(h:z∈bare p bf c):z∈p.cA.map (·.1):=by
 unfold bare at h;obtain⟨x,hx,rfl⟩:=et.mp (List.mem_filter.mp h).1;exact et.mpr ⟨x,(List.mem_filter.mp hx).1,rfl⟩
def Pn(p:aY)(bf:List Str)(c:aM):(bare p bf c).length<=p.cA.length:=by
 unfold bare;have ab:=zt (λz=>decide (la c z≠"shut") && !decide (z∈c.dw)) ((p.cA.filter λz=>decide (z.2∈bf)).map (·.1));have ak:=zt (λz:Str×Str=>decide (z.2∈bf)) p.cA;rw[gc] at ab;omega
theorem a3.on{p:aY}{c:aM}(h:a3 p c)(x:Int):a3 p {c with mode:="on",left:=x}:=⟨h.zn,h.eV,h.fg,bl "on",h.ca,λe=>absurd e z',h.ln,h.lo,h.us,h.b3,h.al⟩
def M8(p:aY)(c:aM)(h:a3 p c)(bg:c.told.length+50<big):rB [.obj .ck 0 (encC p c)]=some (.none,encC p (iI p c)):=by
 have s_:=(h.on 0).tell "on" none;have bx:=Ao p {c with mode:="on",left:=0} "on" (by show c.told.length<big;omega);have dv:=PR p (tell "on" none {c with mode:="on",left:=0}) ["inner","way"] .dp s_ (by
  intro k aI;simp at aI;rcases aI with rfl|rfl
  ·exact bl "inner"
  ·exact bl "way")
 have av:=Pn p ["inner","way"] (tell "on" none {c with mode:="on",left:=0});have aq:=h.fg;obtain⟨pT,XS⟩:=Oe p (bare p ["inner","way"] (tell "on" none {c with mode:="on",left:=0})) (tell "on" none {c with mode:="on",left:=0}) none s_ (λz aq=>AM aq) (by
  have:(tell "on" none {c with mode:="on",left:=0}:aM).told.length=c.told.length+1:=by simp[tell]
  omega)
 simp only[iT,dC,hO] at dv;simp! [hn,rB,MS,bx,dv,iK];rw[XS];simp! [abb,iI]
def a3.L4{p:aY}{c:aM}(h:a3 p c):a3 p {c with mode:="on",gE:=none}:=⟨h.zn,h.eV,h.fg,bl "on",λz e=>(nomatch e),λe=>absurd e z',h.ln,h.lo,h.us,h.b3,h.al⟩
def acA(p:aY)(c:aM)(h:a3 p c)(ay:c.gE≠none)(bg:c.told.length<big):vR [.obj .ck 0 (encC p c)]=some (.none,encC p (lB p c)):=by
 obtain⟨z,aq⟩:=Option.ne_none_iff_exists'.mp ay;have cK:=AO p {c with mode:="on",gE:=none} z h.L4 (h.ca z aq).1 bg;simp! [hn,vR,MT,aq,eG,cK,lB]
def a3.cd{p:aY}{c:aM}(h:a3 p c)(n:Int):a3 p (lZ n c):=⟨h.zn,h.eV,h.fg,h.mo,h.ca,h.jT,h.ln,h.lo,h.us,h.b3,h.al⟩
def ac'(p:aY)(c:aM)(h:a3 p c)(hm:c.mode="leaving"\/c.mode="coming")(bg:c.told.length+50<big):tu [.obj .ck 0 (encC p c)]=some (.none,encC p (iJ p c)):=by
 have dg:=M8 p c h bg;have q:=dr h.mo (bl "leaving");rcases hm with hm|hm
 ·simp! [g7,tu,Hg,hm,dg,iJ,dr (bl "leaving") (bl "leaving")]
 ·have d1:=acA p c h (h.jT hm) (by omega);simp! [g7,tu,Hg,hm,d1,iJ,dr (bl "coming") (bl "leaving")]
def aew(p:aY)(c:aM)(n:Int)(h:a3 p c)(bg:c.told.length+50<big):qb [.obj .ck 0 (encC p c),.ae (.int n)]=some (.none,encC p (ec p n c)):=by
 have q:f_ false (.str c.mode) (.tuple [.str "leaving",.str "coming"])=some (.bool (decide (c.mode="leaving"\/c.mode="coming"))):=by
  have:=wx false (n:=c.mode) (ns:=["leaving","coming"]) h.mo (by
   intro k aI;simp at aI;rcases aI with rfl|rfl
   ·exact bl "leaving"
   ·exact bl "coming")
  simpa using this
 have dg:=Hu p c c.left;have fx:=Hu p c n;by_cases ab:n<1
 ·simp! [iy,qb,v8,ab,ec]
 ·by_cases ak:c.mode="leaving"\/c.mode="coming"
  ·by_cases bF:c.left<=n
   ·have d1:=ac' p (lZ c.left c) (h.cd _) ak bg;have lA:=Hu p (iJ p (lZ c.left c)) (n - c.left);rw[decide_eq_true ak] at q;simp only[ec,if_neg ab,if_pos (And.intro ak bF)];simp! [iy,qb,v8,ab,q,bF,dg,d1,lA]
   ·rw[decide_eq_true ak] at q;simp only[ec,if_neg ab,if_neg (λz:(c.mode="leaving"\/c.mode="coming")/\c.left<=n=>bF z.2)];simp! [iy,qb,v8,ab,q,bF,fx]
  ·rw[decide_eq_false ak] at q;simp only[ec,if_neg ab,if_neg (λz:(c.mode="leaving"\/c.mode="coming")/\c.left<=n=>ak z.1)];simp! [iy,qb,v8,ab,q,fx]
def rW(k:gQ)(c:aM):Bool:=decide (k.uses≠0) && decide (k.uses<=P0 c k.e8)
def j1(c:aM):aM:={tell "wrong" none c with tries:=c.tries+1}
noncomputable def hK(p:aY)(c:aM):aM:=if 3<=c.tries+1 then tell "attack" none (ju p {j1 c with tries:=0,locked:=90}) else j1 c
noncomputable def k_(p:aY)(d:Str)(z:Option Str)(c:aM):Bool:=
 if d="unset" then false else if c.mode≠"off" then true
 else if d="shunt" then decide (kindOf p (z.getD "")="day") || decide (z.getD ""∈c.dw)
 else decide (d="free") && !decide (z.getD ""∈c.dw)
noncomputable def jS(p:aY)(k:gQ)(d:Str)(z:Option Str)(c:aM):Option (Str×Str):=
 if (if d="free" then ("shunt":Str) else d)∉k.lQ then some ("denied",k.iQ)
 else if k_ p d z c then some ("no",k.iQ)
 else if d="set"/\bare p ["day","once"] c≠[] then some ("open",(bare p ["day","once"] c).headD "") else none
noncomputable def kP(p:aY)(iQ:Str)(c:aM):aM:=
 let dc:=tell "set" (some iQ) {c with cO:=[],fb:=0,mode:="leaving",left:=p.leave}
 if p.leave<=0 then iI p dc else dc
noncomputable def mc(iQ:Str)(c:aM):aM:=tell "unset" (some iQ) {c with mode:="off",left:=0,fb:=0,gE:=none,dw:=[]}
noncomputable def f5(p:aY)(iQ d:Str)(z:Option Str)(c:aM):aM:=
 if d="set" then kP p iQ c else if d="unset" then mc iQ c
 else if d="shunt" then tell "shunt" z {c with dw:=jk (c.dw++[z.getD ""])}
 else tell "free" z {c with dw:=c.dw.erase (z.getD "")}
noncomputable def takeRight(p:aY)(k:gQ)(d:Str)(z:Option Str)(c:aM):aM:=match jS p k d z c with
|none=>f5 p k.iQ d z {c with used:=n5 c.used k.e8}
|some (w,n)=>tell w (some n) c
noncomputable def code(p:aY)(f d:Str)(z:Option Str)(c:aM):aM:=
 if 0<c.locked then tell "locked" none c else match codeOf p f with
  |none=>hK p c
  |some k=>if rW k c then hK p c else takeRight p k d z {c with tries:=0}
def adk(p:aY)(c:aM)(k:gQ)(h:a3 p c)(aI:k∈p.codes)(m:gi):aia [.obj m 0 (encC p c),.ae (dJ k)]=some (.bool (rW k c)):=by
 have e:getD (hu c.used) (.inr k.e8)=some (.int (P0 c k.e8)):=I6 (by rw[h.us];exact et.mpr ⟨k,aI,rfl⟩);have q:g0 (.int k.uses) (.int 0)=some (.bool (!decide (k.uses=0))):=by
  unfold g0;rw[wG,wG];by_cases e:k.uses=0 <;> simp[mK,e]
 by_cases ab:k.uses=0
 ·simp! [iy,aia,Hd,dJ,q,ab,pj,rW];simp[g0,wG,mK]
 ·simp! [iy,aia,Hd,dJ,q,ab,pj,rW,keyOf,e]
def acv(p:aY)(c:aM)(bg:c.told.length+2<big):tm [.obj .ck 0 (encC p c)]=some (.none,encC p (hK p c)):=by
 have dg:=Ao p c "wrong" (by omega);have d1:=HN p {j1 c with tries:=0,locked:=90};have fx:=Ao p (ju p {j1 c with tries:=0,locked:=90}) "attack" (by simp[ju,j1,tell];omega);have w:({mode:=(tell "wrong" none c).mode,left:=(tell "wrong" none c).left,gE:=(tell "wrong" none c).gE,lines:=(tell "wrong" none c).lines,dw:=(tell "wrong" none c).dw,fb:=(tell "wrong" none c).fb,cO:=(tell "wrong" none c).cO,tries:=c.tries+1,locked:=(tell "wrong" none c).locked,used:=(tell "wrong" none c).used,past:=(tell "wrong" none c).past,told:=(tell "wrong" none c).told}:aM)=j1 c:=rfl;have pX:(tell "wrong" none c).tries=c.tries:=rfl;by_cases bF:3<=c.tries+1
 ·simp! [iy,tm,Hb,dg,pX,bF,hK];simp[j1] at d1 fx ⊢;simp[d1,fx]
 ·simp! [iy,tm,Hb,dg,pX,bF,hK,j1]
end bY
section
namespace bY
open D PySem
def a3.ZV{p:aY}{c:aM}(h:a3 p c)(z:Str):cn (kindOf p z):=by
 unfold kindOf;cases e:p.cA.find? λx=>decide (x.1=z) with
|none=>exact bl ""
|some x=>exact (h.zn x (List.mem_of_find?_eq_some e)).2
def l0:(2<=big)=True:=by simp[big]
def OX:(10<=big)=True:=by simp[big]
noncomputable def ow(p:aY)(d:Str)(z:Option Str):Prop:=(d="shunt"\/d="free")->∃x,z=some x/\x∈p.cA.map (·.1)
def acp(p:aY)(c:aM)(d:Str)(z:Option Str)(m:gi)(h:a3 p c)(hd:cn d)(aq:ow p d z):nK [.obj m 0 (encC p c),.ae (.str d),.ae (eG z)]=some (.bool (k_ p d z c)):=by
 have aP:=dr hd (bl "unset");have ba:=nQ h.mo (bl "off");have c9:=dr hd (bl "shunt");have i':=dr hd (bl "free");by_cases ab:d="unset"
 ·simp! [hn,nK,rC,aP,ab,k_];simp[dr (bl "unset") (bl "unset")]
 ·by_cases ak:c.mode="off"
  ·by_cases bF:d="shunt"
   ·obtain⟨x,rfl,hx⟩:=aq (.inl bF);subst bF;have fQ:=HI h.zn hx;have rl:=dr (h.ZV x) (bl "day");have pQ:=wy false (h.i_ hx) h.sT;simp at pQ;by_cases cT:kindOf p x="day"
    ·simp! [g7,nK,rC,aP,ab,ak,nQ (bl "off") (bl "off"),c9,vn,eG,fQ,rl,pQ,cT,k_];simp[dr (bl "day") (bl "day")]
    ·simp! [g7,nK,rC,aP,ab,ak,nQ (bl "off") (bl "off"),c9,vn,eG,fQ,rl,pQ,cT,k_]
   ·by_cases cT:d="free"
    ·obtain⟨x,rfl,hx⟩:=aq (.inr cT);subst cT;have pQ:=wy true (h.i_ hx) h.sT;simp at pQ;simp! [g7,nK,rC,aP,ak,nQ (bl "off") (bl "off"),c9,i',pj,eG,pQ,k_]
    ·simp! [g7,nK,rC,aP,ab,ak,nQ (bl "off") (bl "off"),c9,bF,i',cT,pj,k_]
  ·simp! [hn,nK,rC,aP,ab,ba,ak,k_]
def pA:Option (Str×Str)->T
|none=>.none
|some (w,n)=>.tuple [.str w,.str n]
def ab2(p:aY)(c:aM)(k:gQ)(d:Str)(z:Option Str)(m:gi)(h:a3 p c)(aI:k∈p.codes)(hd:cn d)(aq:ow p d z):vP [.obj m 0 (encC p c),.ae (dJ k),.ae (.str d),.ae (eG z)]=some (pA (jS p k d z c)):=by
 have aP:=dr hd (bl "free");have ba:=dr hd (bl "set");have hz:=acp p c d z .dp h hd aq;have dv:=PR p c ["day","once"] .dp h (by
  intro k aI;simp at aI;rcases aI with rfl|rfl
  ·exact bl "day"
  ·exact bl "once")
 simp only[iT,dC,hO] at dv;have c9:=wx true (n:=if d="free" then ("shunt":Str) else d) (ns:=k.lQ) (by
  split
  ·exact bl "shunt"
  ·exact hd) (h.eV k aI).2.2
 simp at c9;have _P:(om (bO (ao oEq (nm 2) (ai (.str "free")))) (ai (.str "shunt")) (aN 2)) [some (.obj m 0 (encC p c)),some (.ae (dJ k)),some (.ae (.str d)),some (.ae (eG z)),none,none]=some (.str (if d="free" then ("shunt":Str) else d)):=by
  by_cases h0:d="free"
  ·simp! [nC,aP,h0,dr (bl "free") (bl "free")]
  ·simp! [nC,aP,h0]
 simp only[vP,MM,g6,j9,seq,asg,dC,hO,gK,p8,dU,List.cons_append,vL,_P,gd,de,jI,je];generalize aC:(if d="free" then ("shunt":Str) else d)=r at c9 ⊢;unfold jS;rw[aC];by_cases ab:r∈k.lQ
 ·by_cases ak:k_ p d z c=true
  ·simp! [hn,dJ,l0,c9,ab,hz,ak,pA]
  ·simp at ak;by_cases bF:d="set"
   ·subst bF;cases e:bare p ["day","once"] c with
    |nil=>
     rw[e] at dv;simp! [hn,dJ,l0,c9,ab,hz,ak,dv,ba,pA]
    |cons b bs=>
     rw[e] at dv;simp! [hn,dJ,l0,c9,ab,hz,ak,dv,ba,pA]
   ·simp! [hn,dJ,l0,c9,ab,hz,ak,dv,ba,bF,pA]
 ·simp! [hn,dJ,l0,c9,ab,pA]
def a3.zb{p:aY}{c:aM}(h:a3 p c)(x:Int):a3 p {c with cO:=[],fb:=0,mode:="leaving",left:=x}:=⟨h.zn,h.eV,h.fg,bl "leaving",h.ca,λe=>absurd e Hh,h.ln,h.lo,h.us,h.b3,by simp⟩
def aeg(p:aY)(c:aM)(w:Str)(h:a3 p c)(bg:c.told.length+60<big):tw [.obj .ck 0 (encC p c),.ae (.str w)]=some (.none,encC p (kP p w c)):=by
 have dg:=oU p {c with cO:=[],fb:=0,mode:="leaving",left:=p.leave} "set" w (by show c.told.length<big;omega);have d1:=M8 p (tell "set" (some w) {c with cO:=[],fb:=0,mode:="leaving",left:=p.leave}) ((h.zb p.leave).tell _ _) (by
  have:(tell "set" (some w) {c with cO:=[],fb:=0,mode:="leaving",left:=p.leave}:aM).told.length=c.told.length+1:=by simp[tell]
  omega)
 have lf:(tell "set" (some w) {c with cO:=[],fb:=0,mode:="leaving",left:=p.leave}:aM).left=p.leave:=rfl;by_cases ab:p.leave<=0
 ·simp! [iy,tw,Hn,bu,dg,lf,ab,d1,kP]
 ·simp! [iy,tw,Hn,bu,dg,lf,ab,kP]
def ada(p:aY)(c:aM)(w:Str)(bg:c.told.length<big):vU [.obj .ck 0 (encC p c),.ae (.str w)]=some (.none,encC p (mc w c)):=by
 have dg:=oU p {c with mode:="off",left:=0,fb:=0,gE:=none,dw:=[]} "unset" w bg;simp! [iy,vU,MX,dg,mc]
theorem HG:∀l:List Str,strsOf (l.map .str)=some l
| []=>rfl
|x::l=>by simp[strsOf,HG l]
noncomputable def y0(p:aY)(d:Str)(z:Option Str)(c:aM):Prop:=d="set"\/d="unset"\/(d="shunt"/\∃x,z=some x/\x∈p.cA.map (·.1))\/(d="free"/\∃x,z=some x/\x∈c.dw)
def adE(p:aY)(c:aM)(w d:Str)(z:Option Str)(h:a3 p c)(hd:cn d)(aq:y0 p d z c)(bg:c.told.length+60<big):p_ [.obj .ck 0 (encC p c),.ae (.str w),.ae (.str d),.ae (eG z)]=some (.none,encC p (f5 p w d z c)):=by
 have aP:=dr hd (bl "set");have ba:=dr hd (bl "unset");have c9:=dr hd (bl "shunt");have es:=aeg p c w h bg;have hz:=ada p c w (by omega);rcases aq with rfl|rfl|⟨rfl,x,rfl,hx⟩|⟨rfl,x,rfl,hx⟩
 ·simp! [hn,p_,vY,aP,es,f5]
 ·simp! [g7,p_,vY,aP,ba,hz,f5]
 ·have av:=h.Mm;have dg:=oU p {c with dw:=jk (c.dw++[x])} "shunt" x (by show c.told.length<big;omega);have b6:c.dw.length+1<=big:=by unfold big;omega
  have cm:c.dw.length+1<64:=by omega
  have sj:1<=big:=by decide
  have gD:=HG (c.dw++[x]);simp at gD;simp! [g7,p_,vY,aP,ba,c9,eG,da,sj,b6,cm,AH,gD,dg,f5]
 ·have dg:=oU p {c with dw:=c.dw.erase x} "free" x (by show c.told.length<big;omega);simp! [g7,p_,vY,aP,ba,c9,eG,y6,HG,hx,dg,f5]
structure Wp(p:aY):Prop where
 cd:(p.codes.map (·.e8)).Nodup
 zd:(p.cA.map (·.1)).Nodup
 cl:p.codes.length<=40
 pX:0<=p.leave/\0<=p.m8/\0<=p.loud
def a3.add{p:aY}{c:aM}(h:a3 p c)(f:Str):a3 p {c with used:=n5 c.used f}:=⟨h.zn,h.eV,h.fg,h.mo,h.ca,h.jT,h.ln,h.lo,(aeq _ _).trans h.us,h.b3,h.al⟩
def a3.zk{p:aY}{c:aM}(h:a3 p c)(n:Int):a3 p {c with tries:=n}:=⟨h.zn,h.eV,h.fg,h.mo,h.ca,h.jT,h.ln,h.lo,h.us,h.b3,h.al⟩
def I2{p:aY}{c:aM}{k:gQ}{d:Str}{z:Option Str}(hd:d="set"\/d="unset"\/d="shunt"\/d="free")(aq:ow p d z)(ax:jS p k d z c=none):y0 p d z c:=by
 rcases hd with rfl|rfl|rfl|rfl
 ·exact .inl rfl
 ·exact .inr (.inl rfl)
 ·exact .inr (.inr (.inl ⟨rfl,aq (.inl rfl)⟩))
 ·refine .inr (.inr (.inr ⟨rfl,?_⟩))
  obtain⟨x,rfl,hx⟩:=aq (.inr rfl);refine⟨x,rfl,?_⟩;refine Classical.byContradiction λb7=>?_;have:k_ p "free" (some x) c=true:=by
   by_cases hm:c.mode="off" <;> simp[k_,wa,wb,b7,hm]
  unfold jS at ax;rw[this] at ax;by_cases aC:(if ("free":Str)="free" then ("shunt":Str) else "free")∈k.lQ
  ·rw[if_neg (λq=>q aC),if_pos rfl] at ax;cases ax
  ·rw[if_pos aC] at ax;cases ax
def acw(p:aY)(c:aM)(k:gQ)(d:Str)(z:Option Str)(h:a3 p c)(aL:Wp p)(aI:k∈p.codes)(hd:d="set"\/d="unset"\/d="shunt"\/d="free")(aq:ow p d z)(bg:c.told.length+60<big):tn [.obj .ck 0 (encC p c),.ae (dJ k),.ae (.str d),.ae (eG z)]=some (.none,encC p (takeRight p k d z c)):=by
 have eZ:cn d:=by
  rcases hd with rfl|rfl|rfl|rfl
  ·exact bl "set"
  ·exact bl "unset"
  ·exact bl "shunt"
  ·exact bl "free"
 have cK:=ab2 p c k d z .dp h aI eZ aq;have Lx:k.e8∈c.used.map (·.1):=by rw[h.us];exact et.mpr ⟨k,aI,rfl⟩
 cases e:jS p k d z c with
|none=>
  have hZ:=I2 hd aq e;have g1:=I6 Lx;have g2:=agt Lx (by rw[h.us];exact aL.cd);have av:(hu c.used).length<big:=by
   have:=congrArg List.length h.us;have:=aL.cl;simp[hu] at *;unfold big;omega
  have e7:=adE p {c with used:=n5 c.used k.e8} k.iQ d z (h.add _) eZ hZ bg;rw[e] at cK;simp only[dJ] at cK;simp! [hn,tn,Hc,cK,pA,dJ,keyOf,g1,g2,av,e7,takeRight,e]
|some wn=>
  obtain⟨w,n⟩:=wn;have bx:=oU p c w n (by omega);rw[e] at cK;simp only[dJ] at cK;simp! [hn,tn,Hc,cK,pA,dJ,bx,takeRight,e]
def Oc{p:aY}{f:Str}{k:gQ}(h:codeOf p f=some k):k∈p.codes:=List.mem_of_find?_eq_some h
def af6(p:aY)(c:aM)(f d:Str)(z:Option Str)(h:a3 p c)(aL:Wp p)(hf:cn f)(hd:d="set"\/d="unset"\/d="shunt"\/d="free")(aq:ow p d z)(bg:c.told.length+60<big):qd [.obj .ck 0 (encC p c),.ae (.str f),.ae (.str d),.ae (eG z)]=some (.none,encC p (code p f d z c)):=by
 have hU:=adL (λk aI=>(h.eV k aI).1) hf;have bx:=Ao p c "locked" (by omega);have mj:=acv p c (by omega);by_cases ab:0<c.locked
 ·simp! [iy,qd,v',hU,ab,bx,code]
 ·cases e:codeOf p f with
  |none=>
   rw[e] at hU;simp! [iy,qd,v',hU,su,ab,mj,code,e]
  |some k=>
   rw[e] at hU;have aI:=Oc e;have hz:=adk p c k h aI .dp;have fs:=acw p {c with tries:=0} k d z (h.zk 0) aL aI hd aq bg;cases ak:rW k c with
   |true=>
    rw[ak] at hz;simp! [iy,qd,v',hU,su,ab,hz,dJ] at hz ⊢;simp[hz,mj,code,e,ab,ak]
   |false=>
    rw[ak] at hz;simp! [iy,qd,v',hU,su,ab,hz,dJ] at hz fs ⊢;simp! [abc,hz,fs,code,e,ab,ak]
inductive cJ where
|line (z w:Str)
|code (f d:Str) (z:Option Str)
|ec (n:Int)
noncomputable def cH:cJ->T
|.line z w=>.tuple [.str "line",.str z,.str w]
|.code f d z=>.tuple [.str "code",.str f,.str d,eG z]
|.ec n=>.tuple [.str "ticks",.int n]
noncomputable def g4(p:aY):cJ->Prop
|.line z w=>z∈p.cA.map (·.1)/\(w="shut"\/w="open"\/w="cut")
|.code f d z=>cn f/\(d="set"\/d="unset"\/d="shunt"\/d="free")/\ow p d z
|.ec n=>1<=n
noncomputable def gH(p:aY)(c:aM):cJ->aM
|.line z w=>line p z w c
|.code f d z=>code p f d z c
|.ec n=>ec p n c
def aee(p:aY)(c:aM)(e:cJ)(h:a3 p c)(aL:Wp p)(he:g4 p e)(bg:c.told.length+60<big):p' [.obj .ck 0 (encC p c),.ae (cH e)]=some (.none,encC p (gH p c e)):=by
 have q (x y:Str) (hx:cn x) (bI:cn y):=dr hx bI;cases e with
|line z w=>
  have eR:cn w:=by
   rcases he.2 with rfl|rfl|rfl
   ·exact bl "shut"
   ·exact bl "open"
   ·exact bl "cut"
  have gk:=afP p c z w h he.1 eR (by omega);simp! [hn,p',zO,cH,dr (bl "line") (bl "line"),gk,gH]
|code f d z=>
  have gk:=af6 p c f d z h aL he.1 he.2.1 he.2.2 bg;simp! [g7,p',zO,cH,dr (bl "code") (bl "line"),dr (bl "code") (bl "code"),gk,gH]
|ec n=>
  have gk:=aew p c n h (by omega);simp! [g7,p',zO,cH,dr (bl "ticks") (bl "line"),dr (bl "ticks") (bl "code"),gk,gH]
end bY
end
section
namespace bY
open D PySem
local instance:cV:=⟨[],λ_=>[],λ_=>none⟩
def k8(w:Str)(n:Option Str)(c:aM):(tell w n c).told.length=c.told.length+1:=by simp[tell]
theorem a3.Tf{p:aY}{c:aM}(h:a3 p c)(x:Int){z:Str}(aq:z∈p.cA.map (·.1)):a3 p {c with mode:="coming",left:=x,gE:=some z}:=
 ⟨h.zn,h.eV,h.fg,bl "coming",λy e=>eB e▸⟨h.i_ aq,aq⟩,λ_ e=>(nomatch e),h.ln,h.lo,h.us,h.b3,h.al⟩
theorem a3.iH{p:aY}{c:aM}(h:a3 p c){z:Str}(k:Str)(aq:z∈p.cA.map (·.1)):a3 p (iH p z k c):=by
 unfold bY.iH;split
 ·exact h.e4 aq
 ·exact (h.Tf p.m8 aq).tell _ _
def adf(p:aY)(z k:Str)(c:aM):(iH p z k c).told.length<=c.told.length+1:=by
 unfold bY.iH;split
 ·exact wh p z c
 ·rw[k8];exact dD _
theorem a3.i3{p:aY}{c:aM}(h:a3 p c){z:Str}(w:Str)(aq:z∈p.cA.map (·.1)):a3 p (i3 p z w c):=by
 unfold bY.i3
 repeat' split
 all_goals first|exact h.e4 aq|exact h.tell _ _|exact h.iH _ aq|exact h
def acQ(p:aY)(z w:Str)(c:aM):(i3 p z w c).told.length<=c.told.length+1:=by
 unfold bY.i3
 repeat' split
 all_goals first|exact wh p z c|exact adf p z _ c|(rw[k8];exact dD _)|omega
theorem a3.line{p:aY}{c:aM}(h:a3 p c){z w:Str}(aq:z∈p.cA.map (·.1))(hw:cn w):a3 p (line p z w c):=by
 have h':=h.Mk z hw;unfold bY.line
 repeat' split
 all_goals first|exact h|exact h'|exact h'.tell _ _|exact h'.i3 _ aq
def ad8(p:aY)(z w:Str)(c:aM):(line p z w c).told.length<=c.told.length+1:=by
 unfold bY.line
 repeat' split
 all_goals first|omega|(rw[k8];exact dD _)|exact acQ p z w {c with lines:=jC c.lines z w}|exact gu _
theorem a3.cO{p:aY}:∀{zs:List Str} {c:aM},a3 p c->(∀z∈zs,z∈p.cA.map (·.1))->a3 p (bY.cO p zs c)
| [],_,h,_=>h
|z::zs,c,h,aq=>a3.cO (zs:=zs) (h.e4 (aq z fA)) λy bI=>aq y (d6 _ bI)
theorem NQ(p:aY):∀(zs:List Str) (c:aM),(bY.cO p zs c).told.length<=c.told.length+zs.length
| [],c=>dD _
|z::zs,c=>by
  have ab:=NQ p zs (e4 p z c);have ak:=wh p z c;simp only[gK];show (bY.cO p zs (e4 p z c)).told.length<=_;omega
theorem a3.iI{p:aY}{c:aM}(h:a3 p c):a3 p (iI p c):=a3.cO ((h.on 0).tell _ _) λz aq=>AM aq
def M5{p:aY}{c:aM}(h:a3 p c):(iI p c).told.length<=c.told.length+41:=by
 have ab:=NQ p (bare p ["inner","way"] (tell "on" none {c with mode:="on",left:=0})) (tell "on" none {c with mode:="on",left:=0});have ak:=Pn p ["inner","way"] (tell "on" none {c with mode:="on",left:=0});have bF:=h.fg;rw[k8] at ab;show (bY.cO p _ _).told.length<=_;have cT:({c with mode:="on",left:=0}:aM).told.length=c.told.length:=rfl;omega
theorem a3.lB{p:aY}{c:aM}(h:a3 p c)(ay:c.gE≠none):a3 p (lB p c):=by
 obtain⟨z,aq⟩:=Option.ne_none_iff_exists'.mp ay;unfold bY.lB;rw[aq];exact h.L4.e4 (h.ca z aq).2
def acq(p:aY)(c:aM):(lB p c).told.length<=c.told.length+1:=wh _ _ _
theorem a3.iJ{p:aY}{c:aM}(h:a3 p c)(hm:c.mode="leaving"\/c.mode="coming"):a3 p (iJ p c):=by
 unfold bY.iJ;split
 ·exact h.iI
 next q=>exact h.lB (h.jT (hm.resolve_left q))
def acO{p:aY}{c:aM}(h:a3 p c):(iJ p c).told.length<=c.told.length+41:=by
 unfold bY.iJ;split
 ·exact M5 h
 ·have:=acq p c;omega
theorem a3.ec{p:aY}{c:aM}(h:a3 p c)(n:Int):a3 p (ec p n c):=by
 unfold bY.ec;split
 ·exact h
 ·split
  next q=>exact ((h.cd _).iJ q.1).cd _
  ·exact h.cd _
def ado{p:aY}{c:aM}(h:a3 p c)(n:Int):(ec p n c).told.length<=c.told.length+41:=by
 unfold bY.ec;split
 ·omega
 ·split
  ·exact acO (h.cd c.left)
  ·exact Nat.le_add_right _ _
theorem a3.hK{p:aY}{c:aM}(h:a3 p c):a3 p (hK p c):=by
 unfold bY.hK;split
 ·exact a3.tell (a3.loud (c:={j1 c with tries:=0,locked:=90}) ⟨h.zn,h.eV,h.fg,h.mo,h.ca,h.jT,h.ln,h.lo,h.us,h.b3,h.al⟩) _ _
 ·exact⟨h.zn,h.eV,h.fg,h.mo,h.ca,h.jT,h.ln,h.lo,h.us,h.b3,h.al⟩
def acj(p:aY)(c:aM):(hK p c).told.length<=c.told.length+2:=by
 unfold bY.hK;split
 ·rw[k8];show (tell _ _ c).told.length+1<=_;rw[k8];exact dD _
 ·show (tell _ _ c).told.length<=_
  rw[k8];omega
theorem a3.kP{p:aY}{c:aM}(h:a3 p c)(w:Str):a3 p (kP p w c):=by
 unfold bY.kP;have h':=(h.zb p.leave).tell "set" (some w);show a3 p (if p.leave<=0 then _ else _);split
 ·exact h'.iI
 ·exact h'
def adG{p:aY}{c:aM}(h:a3 p c)(w:Str):(kP p w c).told.length<=c.told.length+42:=by
 unfold bY.kP;have h':=(h.zb p.leave).tell "set" (some w);have e:=k8 "set" (some w) {c with cO:=[],fb:=0,mode:="leaving",left:=p.leave};have a9:({c with cO:=[],fb:=0,mode:="leaving",left:=p.leave}:aM).told.length=c.told.length:=rfl;show (if p.leave<=0 then iI p _ else _:aM).told.length<=_;split
 ·have:=M5 h';omega
 ·omega
theorem a3.mc{p:aY}{c:aM}(h:a3 p c)(w:Str):a3 p (mc w c):=
 ⟨h.zn,h.eV,h.fg,bl "off",λz e=>(nomatch e),λe=>absurd e z1,h.ln,h.lo,h.us,by simp[bY.mc,bY.tell],h.al⟩
theorem a3.f5{p:aY}{c:aM}(h:a3 p c)(w:Str){d:Str}{z:Option Str}(aq:y0 p d z c)(a7:d="shunt"->z.getD ""∉c.dw):a3 p (f5 p w d z c):=by
 rcases aq with rfl|rfl|⟨rfl,x,rfl,hx⟩|⟨rfl,x,rfl,hx⟩
 ·simp only[bY.f5,if_true];exact h.kP w
 ·simp only[bY.f5,if_neg z9,if_true];exact h.mc w
 ·simp only[bY.f5,if_neg z_,if_neg aim,if_true];refine a3.tell (c:={c with dw:=jk (c.dw++[x])}) ⟨h.zn,h.eV,h.fg,h.mo,h.ca,h.jT,h.ln,h.lo,h.us,⟨?_,?_⟩,h.al⟩ _ _
  ·show (jk (c.dw++[x])).Nodup
   rw[(tA _).nodup_iff,oJ];refine⟨h.b3.1,by simp,λa ax b aa e=>?_⟩;simp at aa;exact a7 rfl (by show x∈_;exact aa▸e▸ax)
  ·intro y bI;have WD:=(tA _).mem_iff.mp bI;rcases j4.mp WD with q|q
   ·exact h.b3.2 y q
   ·simp at q;exact q▸hx
 ·simp only[bY.f5,if_neg Aj,if_neg wa,if_neg wb];refine a3.tell (c:={c with dw:=c.dw.erase x}) ⟨h.zn,h.eV,h.fg,h.mo,h.ca,h.jT,h.ln,h.lo,h.us,⟨?_,?_⟩,h.al⟩ _ _
  ·exact h.b3.1.erase x
  ·exact λy bI=>h.b3.2 y (List.mem_of_mem_erase bI)
def adb{p:aY}{c:aM}(h:a3 p c)(w d:Str)(z:Option Str):(f5 p w d z c).told.length<=c.told.length+42:=by
 unfold bY.f5;split
 ·exact adG h w
 ·split
  ·show (tell _ _ _).told.length<=_
   rw[k8];show c.told.length+1<=_;omega
  ·split
   ·rw[k8];show c.told.length+1<=_;omega
   ·rw[k8];show c.told.length+1<=_;omega
def acC{p:aY}{c:aM}{k:gQ}{z:Option Str}(ax:jS p k "shunt" z c=none):z.getD ""∉c.dw/\c.mode="off"/\kindOf p (z.getD "")≠"day":=by
 have b7:k_ p "shunt" z c≠true:=by
  intro q;unfold jS at ax;rw[q] at ax;by_cases aC:(if ("shunt":Str)="free" then ("shunt":Str) else "shunt")∈k.lQ
  ·rw[if_neg (λq=>q aC),if_pos rfl] at ax;cases ax
  ·rw[if_pos aC] at ax;cases ax
 unfold k_ at b7;rw[if_neg aim] at b7;by_cases hm:c.mode="off"
 ·rw[if_neg (λq=>q hm),if_pos rfl] at b7;simp at b7;exact⟨b7.2,hm,b7.1⟩
 ·rw[if_pos hm] at b7;exact absurd rfl b7
theorem a3.takeRight{p:aY}{c:aM}(h:a3 p c)(k:gQ){d:Str}{z:Option Str}(hd:d="set"\/d="unset"\/d="shunt"\/d="free")(aq:ow p d z):a3 p (takeRight p k d z c):=by
 unfold bY.takeRight;split
 next e=>
  refine (h.add _).f5 _ (I2 hd aq e) λq=>?_
  subst q;exact (acC e).1
 ·exact h.tell _ _
def ack{p:aY}{c:aM}(h:a3 p c)(k:gQ)(d:Str)(z:Option Str):(takeRight p k d z c).told.length<=c.told.length+42:=by
 unfold bY.takeRight;split
 ·exact adb (h.add k.e8) _ _ _
 ·rw[k8];omega
theorem a3.code{p:aY}{c:aM}(h:a3 p c)(f:Str){d:Str}{z:Option Str}(hd:d="set"\/d="unset"\/d="shunt"\/d="free")(aq:ow p d z):a3 p (code p f d z c):=by
 unfold bY.code;split
 ·exact h.tell _ _
 ·split
  ·exact h.hK
  ·split
   ·exact h.hK
   ·exact (h.zk 0).takeRight _ hd aq
def ael{p:aY}{c:aM}(h:a3 p c)(f d:Str)(z:Option Str):(code p f d z c).told.length<=c.told.length+42:=by
 have:=acj p c;unfold bY.code;split
 ·rw[k8];omega
 ·split
  ·omega
  ·split
   ·omega
   ·exact ack (h.zk 0) _ _ _
def ahx{p:aY}{z w:Str}(he:g4 p (.line z w)):cn w:=by
 rcases he.2 with rfl|rfl|rfl
 ·exact bl "shut"
 ·exact bl "open"
 ·exact bl "cut"
theorem a3.gH{p:aY}{c:aM}(h:a3 p c){e:cJ}(he:g4 p e):a3 p (gH p c e):=by
 cases e with
|line z w=>exact h.line he.1 (ahx he)
|code f d z=>exact h.code f he.2.1 he.2.2
|ec n=>exact h.ec n
def HA{p:aY}{c:aM}(h:a3 p c)(e:cJ):(gH p c e).told.length<=c.told.length+50:=by
 cases e with
|line z w=>have:=ad8 p z w c;show (line p z w c).told.length<=_;omega
|code f d z=>have:=ael h f d z;show (code p f d z c).told.length<=_;omega
|ec n=>have:=ado h n;show (ec p n c).told.length<=_;omega
def run(p:aY)(c:aM)(es:List cJ):aM:=es.foldl (gH p) c
def fresh(c:aM):aM:={c with past:=0,told:=[]}
theorem a3.fresh{p:aY}{c:aM}(h:a3 p c):a3 p (fresh c):=⟨h.zn,h.eV,h.fg,h.mo,h.ca,h.jT,h.ln,h.lo,h.us,h.b3,h.al⟩
theorem a3.run{p:aY}:∀{es:List cJ} {c:aM},a3 p c->(∀e∈es,g4 p e)->a3 p (run p c es)
| [],_,h,_=>h
|e::es,c,h,he=>a3.run (es:=es) (h.gH (he e fA)) λy bI=>he y (d6 _ bI)
theorem wu{p:aY}:∀{es:List cJ} {c:aM},a3 p c->(∀e∈es,g4 p e)->(run p c es).told.length<=c.told.length+50*es.length
| [],_,_,_=>dD _
|e::es,c,h,he=>by
  have ab:=wu (es:=es) (h.gH (he e fA)) λy bI=>he y (d6 _ bI);have ak:=HA h e;show (run p (gH p c e) es).told.length<=_;simp only[gK];omega
noncomputable def d8(c:aM):T:=.tuple [.str c.mode,.int c.left,eG c.gE,.tuple (c.lines.map λl=>.str l.2),.tuple (c.dw.map .str),.int c.fb,.tuple (c.cO.map .str),.int c.tries,.int c.locked,.tuple (c.used.map λu=>.int u.2)]
theorem PY:∀(bf:List Str) (l:List (Str×Str)),l.map (·.1)=bf->qw (bf.map .str) (l.map λl=>.str l.2)=some (hv l)
| [],[],_=>rfl
| [],_::_,h=>by cases h
|_::_,[],h=>by cases h
|k::bf,x::l,h=>by
  simp at h;simp[qw,keyOf,PY bf l h.2,hv,h.1]
theorem PZ:∀(bf:List Str) (l:List (Str×Int)),l.map (·.1)=bf->qw (bf.map .str) (l.map λl=>.int l.2)=some (hu l)
| [],[],_=>rfl
| [],_::_,h=>by cases h
|_::_,[],h=>by cases h
|k::bf,x::l,h=>by
  simp at h;simp[qw,keyOf,PZ bf l h.2,hu,h.1]
def Ov{l:List Str}(h:l.Nodup):(l.map (Sum.inr:Str->D.Key)).Nodup:=by
 rw[List.nodup_iff_pairwise_ne,List.pairwise_map];exact (List.nodup_iff_pairwise_ne.mp h).imp λq e=>q (Sum.inr.inj e)
def afR(l:List (Str×Str)):(hv l).map (·.1)=(l.map (·.1)).map Sum.inr:=by simp[hv,nF]
def afS(l:List (Str×Int)):(hu l).map (·.1)=(l.map (·.1)).map Sum.inr:=by simp[hu,nF]
def Pk{α:Type}(enc:α->T)(g:α->T)(caps:Ev)(ts:List α)(s0:Option aG)(h:∀a∈ts,(ao a0 (nm 0) (ai (.int 0))) (some (.ae (enc a))::caps)=some (g a)):fW (b2 0) (en true) (ao a0 (nm 0) (ai (.int 0))) (ts.map enc) (s0::caps)=some (ts.map g):=by
 have:=tW (cc:=en true) (hV:=ao a0 (nm 0) (ai (.int 0))) (caps:=caps) enc (λ_=>true) g ts s0 λa ax=>⟨rfl,λ_=>h a ax⟩;rw[List.filter_eq_self.mpr (λ_ _=>rfl)] at this;exact this
def afV(p:aY)(c:aM)(h:a3 p c)(aL:Wp p):vV [.obj .ck 0 [],.ae (bu p),.ae (d8 c)]=some (.none,encC p (fresh c)):=by
 have aq:=h.fg;have ay:=aL.cl;have dc:=Pk eX (λz=>.str z.1) [] p.cA none λz aq=>by simp! [ix,eX]
 have dP:=Pk dJ (λz=>.str z.e8) [] p.codes none λz aq=>by simp! [ix,dJ]
 have tq:=PY (p.cA.map (·.1)) c.lines h.ln;have h8:=PZ (p.codes.map (·.e8)) c.used h.us;rw[nH] at tq h8;have b6:p.cA.length<=big:=by unfold big;omega
 have cm:p.codes.length<=big:=by unfold big;omega
 have hG:((hv c.lines).map (·.1)).Nodup/\(hv c.lines).length<=1000/\∀t∈(p.cA.map λz=>k2 z.1),(keyOf t).isSome=true:=by
  refine⟨?_,?_,?_⟩
  ·rw[afR,h.ln];exact Ov aL.zd
  ·have:=congrArg List.length h.ln;simp[hv] at *;omega
  ·intro t bg;obtain⟨z,_,rfl⟩:=et.mp bg;rfl
 have f9:((hu c.used).map (·.1)).Nodup/\(hu c.used).length<=1000/\∀t∈(p.codes.map λz=>k2 z.e8),(keyOf t).isSome=true:=by
  refine⟨?_,?_,?_⟩
  ·rw[afS,h.us];exact Ov aL.cd
  ·have:=congrArg List.length h.us;simp[hu] at *;omega
  ·intro t bg;obtain⟨z,_,rfl⟩:=et.mp bg;rfl
 have sj:(0<=big)=True:=by simp
 simp only[nF] at tq h8;simp only[vV,MY,runM,j9];simp! [nC,bu,d8,aii,tV,dc,dP,b6,cm,tq,h8];rw[if_pos hG];simp! [nC,tV,aii,dc,dP,b6,cm,tq,h8];rw[if_pos ⟨f9.1,f9.2.1,λa ax=>rfl⟩];simp! [nC,encC,fresh,bu]
def O2(p:aY)(c:aM)(m:gi)(h:a3 p c):rH [.obj m 0 (encC p c)]=some (d8 c):=by
 have ab:=h.Mm;have ak:=h.JI;have b6:c.dw.length<=big:=by unfold big;omega
 have cm:c.cO.length<=big:=by unfold big;omega
 simp! [hn,rH,M9,wY,fM,b6,cm,OX,d8,hv,hu,nF]
theorem O8(p:aY)(aL:Wp p):∀(es:List cJ) (c:aM) (s0 s1 s2 s4:Option aG),a3 p c->(∀e∈es,g4 p e)->c.told.length+50*es.length+60<big->∃kn,forL (b2 4) (dH (cZ 0 p' 3 [(aN 4)])) (es.map cH) [s0,s1,s2,some (.obj .own 0 (encC p c)),s4]=some (.bQ [s0,s1,s2,some (.obj .own 0 (encC p (run p c es))),kn])
| [],c,s0,s1,s2,s4,_,_,_=>⟨s4,by simp[forL,run]⟩
|e::es,c,s0,s1,s2,s4,h,he,bg=>by
  have K0:=he e fA;simp only[gK] at bg;have cK:=aee p c e h aL K0 (by omega);have:=HA h e;obtain⟨pT,b9⟩:=O8 p aL es (gH p c e) s0 s1 s2 (some (.ae (cH e))) (h.gH K0) (λy bI=>he y (d6 _ bI)) (by omega);refine⟨pT,?_⟩;rw[dC,forL];simp! [nC,cK];simpa [eI,seq,iff,bO,jE,hS,e0,kW,en,ofT,eH,ao,bH,args,ai,nm,aN,cU,skip,asg,kM,kN,par,bV,fO,i9,iV,a0,fG,gY,b2,eg,gm,eN,comp,jj,run] using b9
def z2(p:aY)(c:aM)(es:List cJ)(h:a3 p c)(aL:Wp p)(he:∀e∈es,g4 p e)(av:es.length<=1000):lY [bu p,d8 c,.tuple (es.map cH)]=some (.obj .own 0 (encC p (run p (fresh c) es))):=by
 have uC:=afV p c h aL;have aa:(fresh c).told.length=0:=rfl;have cm:(60000<big):=by decide
 obtain⟨kn,gk⟩:=O8 p aL es (fresh c) (some (.ae (bu p))) (some (.ae (d8 c))) (some (.ae (.tuple (es.map cH)))) none h.fresh he (by omega);simp only[lY,HE,rq];simp! [nC,xd,ou,uC,iK,vr];rw[gk];simp[vr,rk]
def afh(p:aY)(c:aM)(es:List cJ)(h:a3 p c)(aL:Wp p)(he:∀e∈es,g4 p e)(av:es.length<=1000):rT [bu p,d8 c,.tuple (es.map cH)]=some (d8 (run p (fresh c) es)):=by
 have dg:=z2 p c es h aL he av;have d1:=O2 p (run p (fresh c) es) .dp (h.fresh.run he);simp! [ix,rT,PV,nU,sS,dg,ql,d1]
def O0(p:aY)(c:aM)(es:List cJ)(h:a3 p c)(aL:Wp p)(he:∀e∈es,g4 p e)(av:es.length<=1000):oZ [bu p,d8 c,.tuple (es.map cH)]=some (.tuple ((run p (fresh c) es).told.map gV)):=by
 have dg:=z2 p c es h aL he av;have aa:=wu h.fresh he;have cm:(60000<big):=by decide
 have h0:(fresh c).told.length=0:=rfl;have b6:(run p (fresh c) es).told.length<=big:=by omega
 simp! [ix,oZ,PT,nU,tJ,dg,ql,sm,fM,b6]
noncomputable def dt(p:aY):aM:={mode:="off",left:=0,gE:=none,lines:=p.cA.map λz=>(z.1,"shut"),dw:=[],fb:=0,cO:=[],tries:=0,locked:=0,used:=p.codes.map λk=>(k.e8,0),past:=0,told:=[]}
def Pm(p:aY)(aq:p.cA.length<=40)(aL:Wp p):j8 [bu p]=some (d8 (dt p)):=by
 have ay:=aL.cl;have b6:p.cA.length<=big:=by unfold big;omega
 have cm:p.codes.length<=big:=by unfold big;omega
 have dc:=tW (cc:=en true) (hV:=ai (.str "shut")) (caps:=[]) eX (λ_=>true) (λ_=>.str "shut") p.cA none λa ax=>⟨rfl,λ_=>rfl⟩;have dP:=tW (cc:=en true) (hV:=ai (.int 0)) (caps:=[]) dJ (λ_=>true) (λ_=>.int 0) p.codes none λa ax=>⟨rfl,λ_=>rfl⟩;rw[List.filter_eq_self.mpr (λ_ _=>rfl)] at dc dP;simp! [ix,j8,PU,bu,fM,b6,cm,dc,dP,OX,d8,dt,eG,nF]
end bY
end
section
namespace bY
open D PySem
local instance:cV:=⟨[],λ_=>[],λ_=>none⟩
def af7(ns:List Int)(k:Nat):rJ [fC ns,.int k]=some (.int (ns.getD k 0)):=by
 by_cases h:k<ns.length
 ·have h':(k:Int)<(ns.length:Int):=by omega
  simp! [GK,rJ,HD,fC,h,h',List.getD]
 ·have h':¬(k:Int)<(ns.length:Int):=by omega
  simp! [GK,rJ,HD,fC,h,h',List.getD]
def rZ{i j:Int}(h:-(2 ^ 64)<j/\j<2 ^ 64):gp (.int i) (.int j)=some (.int (i*j)):=by
 unfold gp Bg;simp only[decide_eq_true h.1,decide_eq_true h.2,Bool.and_self,Bool.or_true,if_true]
def wM{i j:Int}(h:0<j):oMod (.int i) (.int j)=some (.int (i % j)):=if_pos h
def agW{i j:Int}(h:0<j/\j<1073741824):oDiv (.int i) (.int j)=some (.int (i / j)):=if_pos h
def l3{i j:Int}:da (.int i) (.int j)=some (.int (i+j)):=rfl
def hP{a b:bB}{ε ε':Ev}(h:a ε=some (.bQ ε')):seq a b ε=b ε':=by
 unfold seq;rw[h];rfl
def wz(ns:List Int)(k:Nat):∃m:Int,0<=m/\mQ [fC ns,.int k]=some (.int m):=by
 have ay:=af7 ns k;have hd:0<=(ns.getD k 0+7919*(k:Int)+1)*48271 % 2147483647/\(ns.getD k 0+7919*(k:Int)+1)*48271 % 2147483647<2147483647:=⟨tg _ (by decide),zv _ (by decide)⟩;generalize hx:(ns.getD k 0+7919*(k:Int)+1)*48271 % 2147483647=d at hd;refine⟨(d*d+7*d+k) % 2147483629,tg _ (by decide),?_⟩;have ef:mQ [fC ns,.int k]=(H6 [some (.ae (fC ns)),some (.ae (.int k)),none]).bind λo=>match o with|.dj t=>some t|.bQ _=>some .none|_=>none:=rfl
 have lM:gp (.int 7919) (.int k)=some (.int (7919*k)):=by
  unfold gp Bg;simp
 have rf:aN 0 [some (.ae (fC ns)),some (.ae (.int k)),none]=some (fC ns):=rfl;have hG:aN 1 [some (.ae (fC ns)),some (.ae (.int k)),none]=some (.int k):=rfl;have X2:nm 1 [some (.ae (fC ns)),some (.ae (.int k)),none]=some (.int k):=rfl;have s1:asg 2 (ao oMod (ao gp (ao da (ao da (bH rJ [(aN 0),(aN 1)]) (ao gp (ai (.int 7919)) (nm 1))) (ai (.int 1))) (ai (.int 48271))) (ai (.int 2147483647))) [some (.ae (fC ns)),some (.ae (.int k)),none]=some (.bQ [some (.ae (fC ns)),some (.ae (.int k)),some (.ae (.int d))]):=by
  simp only[asg,ao,bH,args,rf,hG,X2,de,gd,ay,ai,lM,l3,rZ (i:=ns.getD k 0+7919*(k:Int)+1) (j:=48271) (by decide),wM (j:=2147483647) (by decide),hx];rfl
 have kV:gp (.int d) (.int d)=some (.int (d*d)):=rZ (by omega);have rd:gp (.int 7) (.int d)=some (.int (7*d)):=rZ (by omega);rw[ef];unfold H6;rw[hP s1];have ba:nm 2 [some (.ae (fC ns)),some (.ae (.int k)),some (.ae (.int d))]=some (.int d):=rfl;have aP:nm 1 [some (.ae (fC ns)),some (.ae (.int k)),some (.ae (.int d))]=some (.int k):=rfl;simp only[cU,ao,ba,aP,de,gd,ai,kV,rd,l3,wM (j:=2147483629) (by decide)]
def AK(n k:Int)(aI:-(2 ^ 64)<k/\k<2 ^ 64):∃m:Int,0<=m/\j7 [.int n,.int k]=some (.int m):=by
 have hd:0<=(n+104729*k+17)*69621 % 2147483647/\(n+104729*k+17)*69621 % 2147483647<2147483647:=⟨tg _ (by decide),zv _ (by decide)⟩;generalize hx:(n+104729*k+17)*69621 % 2147483647=d at hd;refine⟨(d*d+3*d+k) % 2147483629,tg _ (by decide),?_⟩;have ef:j7 [.int n,.int k]=(H7 [some (.ae (.int n)),some (.ae (.int k)),none]).bind λo=>match o with|.dj t=>some t|.bQ _=>some .none|_=>none:=rfl
 have lM:gp (.int 104729) (.int k)=some (.int (104729*k)):=rZ aI;have rf:nm 0 [some (.ae (.int n)),some (.ae (.int k)),none]=some (.int n):=rfl;have hG:nm 1 [some (.ae (.int n)),some (.ae (.int k)),none]=some (.int k):=rfl;have s1:asg 2 (ao oMod (ao gp (ao da (ao da (nm 0) (ao gp (ai (.int 104729)) (nm 1))) (ai (.int 17))) (ai (.int 69621))) (ai (.int 2147483647))) [some (.ae (.int n)),some (.ae (.int k)),none]=some (.bQ [some (.ae (.int n)),some (.ae (.int k)),some (.ae (.int d))]):=by
  simp only[asg,ao,rf,hG,de,gd,ai,lM,l3,rZ (i:=n+104729*k+17) (j:=69621) (by decide),wM (j:=2147483647) (by decide),hx];rfl
 have kV:gp (.int d) (.int d)=some (.int (d*d)):=rZ (by omega);have rd:gp (.int 3) (.int d)=some (.int (3*d)):=rZ (by omega);rw[ef];unfold H7;rw[hP s1];have ba:nm 2 [some (.ae (.int n)),some (.ae (.int k)),some (.ae (.int d))]=some (.int d):=rfl;have aP:nm 1 [some (.ae (.int n)),some (.ae (.int k)),some (.ae (.int d))]=some (.int k):=rfl;simp only[cU,ao,ba,aP,de,gd,ai,kV,rd,l3,wM (j:=2147483629) (by decide)]
def oY(a b:Int):oEq (.int a) (.int b)=some (.bool (decide (a=b))):=by
 unfold oEq;rw[wG,wG];by_cases e:a=b <;> simp[mK,e]
def divQ(m:Int)(j:Int)(h:0<j/\j<1073741824:=by decide):∃q,q=m / j/\oDiv (.int m) (.int j)=some (.int q):=⟨_,rfl,agW h⟩
def modQ(m:Int)(j:Int)(h:0<j:=by decide):∃q,q=m % j/\0<=q/\q<j/\oMod (.int m) (.int j)=some (.int q):=⟨_,rfl,tg _ (by omega),zv _ h,wM h⟩
def yk{ts:List T}{j:Int}(h0:0<=j)(ab:j<ts.length):∃t∈ts,a0 (.tuple ts) (.int j)=some t:=by
 have bC:j.toNat<ts.length:=by omega
 refine⟨ts[j.toNat],List.getElem_mem bC,?_⟩
 simp only[a0,fG,gY,if_pos h0,if_pos ab,de];exact h6 bC
def u'(ss:List Str){j:Int}(h0:0<=j)(ab:j<ss.length):∃s∈ss,a0 (.tuple (ss.map .str)) (.int j)=some (.str s):=by
 obtain⟨t,bg,e⟩:=yk (ts:=ss.map .str) h0 (by simpa using ab);obtain⟨s,az,rfl⟩:=et.mp bg;exact⟨s,az,e⟩
def u_(ss:List Int){j:Int}(h0:0<=j)(ab:j<ss.length):∃s∈ss,a0 (.tuple (ss.map .int)) (.int j)=some (.int s):=by
 obtain⟨t,bg,e⟩:=yk (ts:=ss.map .int) h0 (by simpa using ab);obtain⟨s,az,rfl⟩:=et.mp bg;exact⟨s,az,e⟩
def IG:(5<=big)=True:=by simp[big]
def rS:(4<=big)=True:=by simp[big]
def mR:(3<=big)=True:=by simp[big]
def IQ:(6<=big)=True:=by simp[big]
def ae':(8<=big)=True:=by simp[big]
def one_le:(1<=big)=True:=by simp[big]
noncomputable def pn:bB:=(seq (asg 4 (ao oDiv (bH j7 [(aN 0),(aN 2)]) (ai (.int 4)))) (iff (e0 (bO (ao oLt (ao oMod (nm 4) (ai (.int 8))) (ao da (ai (.int 3)) (ao oMod (nm 0) (ai (.int 5)))))) (bO (ao oEq (nm 2) (ao oMod (ao oDiv (nm 0) (ai (.int 8))) (ai (.int 8)))))) (asg 1 (ao da (nm 1) (bV [(bV [(aN 3),(ao a0 (bV [(ai (.str "day")),(ai (.str "inner")),(ai (.str "once")),(ai (.str "way")),(ai (.str "way"))]) (ao oMod (ao oDiv (nm 4) (ai (.int 8))) (ai (.int 5))))])]))) skip))
def nd(x:Int×Str):T:=.tuple [.int x.1,.str x.2]
def kinds:List Str:=["day","inner","once","way","way"]
theorem HO(n:Int):∀(l:List (Int×Str)) (acc:List (Str×Str)) (s2 s3 s4:Option aG),(∀x∈l,0<=x.1/\x.1<100)->acc.length+l.length<=20->∃zs kY ail kn,(zs.map (·.1)).Sublist (l.map (·.2))/\(∀z∈zs,z.2∈kinds)/\((∃x∈l,x.1=n / 8 % 8)->zs≠[]) /\
  forL (eg [(b2 2),(b2 3)]) pn (l.map nd) [some (.ae (.int n)),some (.ae (.tuple (acc.map eX))),s2,s3,s4,none,none,none,none,none]=some (.bQ [some (.ae (.int n)),some (.ae (.tuple ((acc++zs).map eX))),kY,ail,kn,none,none,none,none,none])
| [],acc,s2,s3,s4,_,_=>⟨[],s2,s3,s4,.refl _,by simp,by simp,by simp[forL]⟩
|x::l,acc,s2,s3,s4,hx,av=>by
  obtain⟨m,hm,dg⟩:=AK n x.1 (by have:=hx x fA;omega);obtain⟨q,bK,d1⟩:=divQ m 4;obtain⟨r,_,_,_,fx⟩:=modQ q 8;obtain⟨bR,_,_,_,lA⟩:=modQ n 5;obtain⟨aP,u2,m9⟩:=divQ n 8;obtain⟨aO,sH,_,_,m_⟩:=modQ aP 8;obtain⟨ba,yg,m'⟩:=divQ q 8;obtain⟨a4,_,h0,ab,mf⟩:=modQ ba 5;obtain⟨s,az,kQ⟩:=u' kinds h0 ab;simp only[kinds,dC,hO] at kQ;simp only[gK] at av;have b6:acc.length+1<=big:=by unfold big;omega
  have jz:∀y∈l,0<=y.1/\y.1<100:=λy bI=>hx y (d6 _ bI);by_cases ay:r<3+bR\/x.1=aO
  ·obtain⟨zs,kY,ail,kn,cj,cu,my,oj⟩:=HO n l (acc++[(x.2,s)]) (some (.ae (.int x.1))) (some (.ae (.str x.2))) (some (.ae (.int q))) jz (by simp;omega);refine⟨(x.2,s)::zs,kY,ail,kn,by simpa using cj,λz aq=>?_,λ_=>by simp,?_⟩
   ·rcases cM.mp aq with rfl|aq
    ·exact az
    ·exact cu z aq
   ·rw[dC,forL];have:pn [some (.ae (.int n)),some (.ae (.tuple (acc.map eX))),some (.ae (.int x.1)),some (.ae (.str x.2)),s4,none,none,none,none,none]=some (.bQ [some (.ae (.int n)),some (.ae (.tuple ((acc++[(x.2,s)]).map eX))),some (.ae (.int x.1)),some (.ae (.str x.2)),some (.ae (.int q)),none,none,none,none,none]):=by
     by_cases dh:r<3+bR
     ·simp! [eA,pn,dg,d1,fx,lA,m9,m_,m',mf,kQ,l3,oLt,dh,da,b6,IG,l0,one_le,eX]
     ·have me:oEq (.int x.1) (.int aO)=some (.bool true):=by rw[oY,decide_eq_true (ay.resolve_left dh)]
      simp! [eA,pn,dg,d1,fx,lA,m9,m_,m',mf,kQ,l3,oLt,dh,me,da,b6,IG,l0,one_le,eX]
    simp only[nd,eg,gm,b2,de,jI,je,this];simpa using oj
  ·obtain⟨zs,kY,ail,kn,cj,cu,my,oj⟩:=HO n l acc (some (.ae (.int x.1))) (some (.ae (.str x.2))) (some (.ae (.int q))) jz (by omega);refine⟨zs,kY,ail,kn,cj.cons _,cu,λ⟨y,bI,e⟩=>my ?_,?_⟩
   ·rcases cM.mp bI with rfl|bI
    ·exact absurd (.inr (by rw[e,sH,u2])) ay
    ·exact⟨y,bI,e⟩
   ·rw[dC,forL];have:pn [some (.ae (.int n)),some (.ae (.tuple (acc.map eX))),some (.ae (.int x.1)),some (.ae (.str x.2)),s4,none,none,none,none,none]=some (.bQ [some (.ae (.int n)),some (.ae (.tuple (acc.map eX))),some (.ae (.int x.1)),some (.ae (.str x.2)),some (.ae (.int q)),none,none,none,none,none]):=by
     have c3:¬r<3+bR:=λz=>ay (.inl z);have iL:¬x.1=aO:=λz=>ay (.inr z);simp! [eA,pn,dg,d1,fx,lA,m9,m_,m',mf,kQ,l3,oLt,c3,iL,oY]
    simp only[nd,eg,gm,b2,de,jI,je,this];exact oj
def aaa:km 0 3=[.int 0,.int 1,.int 2]:=by simp[km,List.range_succ]
noncomputable def qN:fm:=bO (ao i8 (ao oMod (ao oDiv (nm 1) (ao a0 (bV [(ai (.int 4)),(ai (.int 16)),(ai (.int 64))]) (nm 0))) (ai (.int 4))) (ai (.int 0)))
noncomputable def mh:bE:=ao a0 (bV [(ai (.str "set")),(ai (.str "shunt")),(ai (.str "unset"))]) (nm 0)
def AR:List Str:=["set","shunt","unset"]
def adY(q:Int)(ε:Ev)(h:(ε[4]?).join=some (.ae (.int q))):∃rs:List Str,rs.Sublist AR/\comp 1 [4] (ji (ai (.int 3))) (b2 0) qN mh ε=some (.list (rs.map .str)):=by
 have key:∀j pJ:Int,a0 (.tuple [.int 4,.int 16,.int 64]) (.int j)=some (.int pJ)->0<pJ->pJ<1073741824->∃b,qN [some (.ae (.int j)),some (.ae (.int q))]=some b:=by
  intro j pJ ab ak bF;obtain⟨aP,_,dg⟩:=divQ q pJ ⟨ak,bF⟩;obtain⟨aO,_,_,_,d1⟩:=modQ aP 4;exact⟨decide (0<aO),by simp! [eA,qN,ab,dg,d1,i8,mR]⟩
 obtain⟨sj,nt⟩:=key 0 4 (by simp[a0,fG,gY]) (by decide) (by decide);obtain⟨b6,eQ⟩:=key 1 16 (by simp[a0,fG,gY]) (by decide) (by decide);obtain⟨cm,dN⟩:=key 2 64 (by simp[a0,fG,gY]) (by decide) (by decide);have kX:mh [some (.ae (.int 0)),some (.ae (.int q))]=some (.str "set"):=by simp! [ix,mh,mR]
 have aO:mh [some (.ae (.int 1)),some (.ae (.int q))]=some (.str "shunt"):=by simp! [ix,mh,mR]
 have a4:mh [some (.ae (.int 2)),some (.ae (.int q))]=some (.str "unset"):=by simp! [ix,mh,mR]
 have uu:comp 1 [4] (ji (ai (.int 3))) (b2 0) qN mh ε=(fW (b2 0) qN mh [.int 0,.int 1,.int 2] [none,some (.ae (.int q))]).map .list:=by
  have s3:qj 3=true:=by decide
  simp[comp,ji,ai,s3,aaa,jj,h,mR]
 rw[uu];cases sj <;> cases b6 <;> cases cm
 ·exact⟨[],by simp,by simp[fW,b2,nt,eQ,dN]⟩
 ·exact⟨["unset"],by decide,by simp[fW,b2,nt,eQ,dN,kX,aO,a4]⟩
 ·exact⟨["shunt"],by decide,by simp[fW,b2,nt,eQ,dN,kX,aO,a4]⟩
 ·exact⟨["shunt","unset"],by decide,by simp[fW,b2,nt,eQ,dN,kX,aO,a4]⟩
 ·exact⟨["set"],by decide,by simp[fW,b2,nt,eQ,dN,kX,aO,a4]⟩
 ·exact⟨["set","unset"],by decide,by simp[fW,b2,nt,eQ,dN,kX,aO,a4]⟩
 ·exact⟨["set","shunt"],by decide,by simp[fW,b2,nt,eQ,dN,kX,aO,a4]⟩
 ·exact⟨["set","shunt","unset"],by decide,by simp[fW,b2,nt,eQ,dN,kX,aO,a4]⟩
noncomputable def qL:bB:=(seq (asg 4 (ao oDiv (bH j7 [(aN 0),(ao da (ai (.int 10)) (nm 2))]) (ai (.int 4)))) (iff (e0 (bO (ao i8 (ao oMod (nm 4) (ai (.int 3))) (ai (.int 0)))) (bO (ao oEq (nm 2) (ai (.int 1))))) (seq (asg 7 (bH fM [(comp 1 [4] (ji (ai (.int 3))) (b2 0) qN mh)])) (seq (asg 8 (ao a0 (bV [(ai (.str "ann")),(ai (.str "bo")),(ai (.str "cy"))]) (ao oMod (ao oDiv (nm 4) (ai (.int 256))) (ai (.int 3))))) (asg 5 (ao da (nm 5) (bV [(bV [(aN 6),(aN 8),(aN 7),(ao a0 (bV [(ai (.int 0)),(ai (.int 0)),(ai (.int 1)),(ai (.int 2)),(ai (.int 9))]) (ao oMod (ao oDiv (nm 4) (ai (.int 1024))) (ai (.int 5))))])]))))) skip))
def vG:List Str:=["ann","bo","cy"]
theorem HJ(n:Int)(s1 s3:Option aG):∀(l:List (Int×Str)) (acc:List gQ) (s2 s4 ja cW eS:Option aG),(∀x∈l,0<=x.1/\x.1<100)->acc.length+l.length<=20->∃bf kY kn vu vv vw,(bf.map (·.e8)).Sublist (l.map (·.2))/\(∀k∈bf,k.iQ∈vG/\k.lQ.Sublist AR/\k.uses∈([0,0,1,2,9]:List Int))/\((∃x∈l,x.1=1)->bf≠[]) /\
  forL (eg [(b2 2),(b2 6)]) qL (l.map nd) [some (.ae (.int n)),s1,s2,s3,s4,some (.ae (.tuple (acc.map dJ))),ja,cW,eS,none]=some (.bQ [some (.ae (.int n)),s1,kY,s3,kn,some (.ae (.tuple ((acc++bf).map dJ))),vu,vv,vw,none])
| [],acc,s2,s4,ja,cW,eS,_,_=>⟨[],s2,s4,ja,cW,eS,.refl _,by simp,by simp,by simp[forL]⟩
|x::l,acc,s2,s4,ja,cW,eS,hx,av=>by
  obtain⟨m,hm,dg⟩:=AK n (10+x.1) (by have:=hx x fA;omega);obtain⟨q,bK,d1⟩:=divQ m 4;obtain⟨r,_,_,_,fx⟩:=modQ q 3;obtain⟨aP,u2,m9⟩:=divQ q 256;obtain⟨aO,sH,h0,ab,m_⟩:=modQ aP 3;obtain⟨ba,yg,m'⟩:=divQ q 1024;obtain⟨a4,_,ak,bF,mf⟩:=modQ ba 5;obtain⟨s,az,kQ⟩:=u' vG h0 ab;obtain⟨u,b7,me⟩:=u_ [0,0,1,2,9] ak bF;simp only[vG,dC,hO] at kQ me;simp only[gK] at av;have b6:acc.length+1<=big:=by unfold big;omega
  have jz:∀y∈l,0<=y.1/\y.1<100:=λy bI=>hx y (d6 _ bI);obtain⟨rs,Wo,C7⟩:=adY q [some (.ae (.int n)),s1,some (.ae (.int x.1)),s3,some (.ae (.int q)),some (.ae (.tuple (acc.map dJ))),some (.ae (.str x.2)),cW,eS,none] rfl;by_cases ay:0<r\/x.1=1
  ·obtain⟨bf,kY,kn,vu,vv,vw,cj,cu,my,oj⟩:=HJ n s1 s3 l (acc++[(⟨x.2,s,rs,u⟩:gQ)]) (some (.ae (.int x.1))) (some (.ae (.int q))) (some (.ae (.str x.2))) (some (.ae (.tuple (rs.map .str)))) (some (.ae (.str s))) jz (by simp;omega);refine⟨⟨x.2,s,rs,u⟩::bf,kY,kn,vu,vv,vw,by simpa using cj,λz aq=>?_,λ_=>by simp,?_⟩
   ·rcases cM.mp aq with rfl|aq
    ·exact⟨az,Wo,b7⟩
    ·exact cu z aq
   ·rw[dC,forL];have:qL [some (.ae (.int n)),s1,some (.ae (.int x.1)),s3,s4,some (.ae (.tuple (acc.map dJ))),some (.ae (.str x.2)),cW,eS,none]=some (.bQ [some (.ae (.int n)),s1,some (.ae (.int x.1)),s3,some (.ae (.int q)),some (.ae (.tuple ((acc++[(⟨x.2,s,rs,u⟩:gQ)]).map dJ))),some (.ae (.str x.2)),some (.ae (.tuple (rs.map .str))),some (.ae (.str s)),none]):=by
     have pT:asg 4 (ao oDiv (bH j7 [(aN 0),(ao da (ai (.int 10)) (nm 2))]) (ai (.int 4))) [some (.ae (.int n)),s1,some (.ae (.int x.1)),s3,s4,some (.ae (.tuple (acc.map dJ))),some (.ae (.str x.2)),cW,eS,none]=some (.bQ [some (.ae (.int n)),s1,some (.ae (.int x.1)),s3,some (.ae (.int q)),some (.ae (.tuple (acc.map dJ))),some (.ae (.str x.2)),cW,eS,none]):=by
      simp! [eA,l3,dg,d1]
     have kY:asg 7 (bH fM [(comp 1 [4] (ji (ai (.int 3))) (b2 0) qN mh)]) [some (.ae (.int n)),s1,some (.ae (.int x.1)),s3,some (.ae (.int q)),some (.ae (.tuple (acc.map dJ))),some (.ae (.str x.2)),cW,eS,none]=some (.bQ [some (.ae (.int n)),s1,some (.ae (.int x.1)),s3,some (.ae (.int q)),some (.ae (.tuple (acc.map dJ))),some (.ae (.str x.2)),some (.ae (.tuple (rs.map .str))),eS,none]):=by
      simp only[asg,bH,args,C7,de,gd,fM];rfl
     unfold qL;rw[hP pT];have d_:e0 (bO (ao i8 (ao oMod (nm 4) (ai (.int 3))) (ai (.int 0)))) (bO (ao oEq (nm 2) (ai (.int 1)))) [some (.ae (.int n)),s1,some (.ae (.int x.1)),s3,some (.ae (.int q)),some (.ae (.tuple (acc.map dJ))),some (.ae (.str x.2)),cW,eS,none]=some true:=by
      by_cases dh:0<r
      ·simp! [eA,fx,i8,dh]
      ·have so:oEq (.int x.1) (.int 1)=some (.bool true):=by rw[oY,decide_eq_true (ay.resolve_left dh)]
       simp! [eA,fx,i8,dh,so]
     simp only[iff,d_,de,if_true];rw[hP kY];simp! [eA,fx,m9,m_,m',mf,kQ,me,da,b6,IG,rS,mR,one_le,dJ]
    simp only[nd,eg,gm,b2,de,jI,je,this];simpa using oj
  ·obtain⟨bf,kY,kn,vu,vv,vw,cj,cu,my,oj⟩:=HJ n s1 s3 l acc (some (.ae (.int x.1))) (some (.ae (.int q))) (some (.ae (.str x.2))) cW eS jz (by omega);refine⟨bf,kY,kn,vu,vv,vw,cj.cons _,cu,λ⟨y,bI,e⟩=>my ?_,?_⟩
   ·rcases cM.mp bI with rfl|bI
    ·exact absurd (.inr e) ay
    ·exact⟨y,bI,e⟩
   ·rw[dC,forL];have:qL [some (.ae (.int n)),s1,some (.ae (.int x.1)),s3,s4,some (.ae (.tuple (acc.map dJ))),some (.ae (.str x.2)),cW,eS,none]=some (.bQ [some (.ae (.int n)),s1,some (.ae (.int x.1)),s3,some (.ae (.int q)),some (.ae (.tuple (acc.map dJ))),some (.ae (.str x.2)),cW,eS,none]):=by
     have c3:¬0<r:=λz=>ay (.inl z);have so:oEq (.int x.1) (.int 1)=some (.bool false):=by rw[oY,decide_eq_false λz=>ay (.inr z)]
     simp! [eA,qL,dg,d1,fx,l3,i8,c3,so]
    simp only[nd,eg,gm,b2,de,jI,je,this];exact oj
noncomputable def kD:List (Int×Str):=[(0,"a"),(1,"b"),(2,"back"),(3,"d"),(4,"hall"),(5,"r"),(6,"win"),(7,"z")]
noncomputable def ps:List (Int×Str):=[(0,"0000"),(1,"1234"),(2,"4321"),(3,"7777"),(4,"9990"),(5,"9999")]
structure gR(p:aY):Prop where
 zs:(p.cA.map (·.1)).Sublist (kD.map (·.2))
 Bb:∀z∈p.cA,z.2∈kinds
 z0:p.cA≠[]
 cs:(p.codes.map (·.e8)).Sublist (ps.map (·.2))
 l':∀k∈p.codes,k.iQ∈vG/\k.lQ.Sublist AR/\k.uses∈([0,0,1,2,9]:List Int)
 uu:p.codes≠[]
 j0:p.leave∈([0,5,30,60]:List Int)
 s8:p.m8∈([0,4,20,60]:List Int)
 to:p.loud∈([1,9,120,300]:List Int)
def Py(n:Int):∃p,gR p/\wB [.int n]=some (bu p):=by
 obtain⟨zs,s2,s3,s4,cj,cu,my,oj⟩:=HO n kD [] none none none (by decide) (by decide);have u4:zs≠[]:=my (by
  have ab:0<=n / 8 % 8:=tg _ (by decide);have ak:n / 8 % 8<8:=zv _ (by decide);generalize n / 8 % 8=r at ab ak;have:r=0\/r=1\/r=2\/r=3\/r=4\/r=5\/r=6\/r=7:=by omega
  rcases this with rfl|rfl|rfl|rfl|rfl|rfl|rfl|rfl
  ·exact⟨(0,"a"),by simp[kD],rfl⟩
  ·exact⟨(1,"b"),by simp[kD],rfl⟩
  ·exact⟨(2,"back"),by simp[kD],rfl⟩
  ·exact⟨(3,"d"),by simp[kD],rfl⟩
  ·exact⟨(4,"hall"),by simp[kD],rfl⟩
  ·exact⟨(5,"r"),by simp[kD],rfl⟩
  ·exact⟨(6,"win"),by simp[kD],rfl⟩
  ·exact⟨(7,"z"),by simp[kD],rfl⟩)
 obtain⟨bf,mF,vz,t6,t7,t8,ym,Lv,WX,WY⟩:=HJ n (some (.ae (.tuple (zs.map eX)))) s3 ps [] s2 s4 none none none (by decide) (by decide);have V5:bf≠[]:=WX ⟨(1,"1234"),by simp[ps],rfl⟩;obtain⟨m,hm,dg⟩:=AK n 20 (by decide);obtain⟨q,bK,d1⟩:=divQ m 4;obtain⟨r,_,JH,a1,fx⟩:=modQ q 4;obtain⟨aP,u2,lA⟩:=divQ q 4;obtain⟨aO,_,sj,b6,m9⟩:=modQ aP 4;obtain⟨ba,yg,m_⟩:=divQ q 16;obtain⟨a4,_,uu,dc,m'⟩:=modQ ba 4;obtain⟨u,b7,mf⟩:=u_ [0,5,30,60] JH a1;obtain⟨v,bq,kQ⟩:=u_ [0,4,20,60] sj b6;obtain⟨w,hw,me⟩:=u_ [1,9,120,300] uu dc;simp only[dC,hO] at mf kQ me;refine⟨⟨zs,bf,u,v,w⟩,⟨cj,cu,u4,ym,Lv,V5,b7,bq,hw⟩,?_⟩;have f1:iK (ky (kA (bV [(ai (.str "a")),(ai (.str "b")),(ai (.str "back")),(ai (.str "d")),(ai (.str "hall")),(ai (.str "r")),(ai (.str "win")),(ai (.str "z"))]))) (eg [(b2 2),(b2 3)]) pn [some (.ae (.int n)),some (.ae (.tuple [])),none,none,none,none,none,none,none,none]=some (.bQ [some (.ae (.int n)),some (.ae (.tuple (zs.map eX))),s2,s3,s4,none,none,none,none,none]):=by
  have:(ky (kA (bV [(ai (.str "a")),(ai (.str "b")),(ai (.str "back")),(ai (.str "d")),(ai (.str "hall")),(ai (.str "r")),(ai (.str "win")),(ai (.str "z"))]))) [some (.ae (.int n)),some (.ae (.tuple [])),none,none,none,none,none,none,none,none]=some (kD.map nd):=by
   simp[ky,kA,bV,args,ai,ae',enum,kD,nd,List.zipIdx]
  unfold iK;rw[this];exact oj
 have f2:iK (ky (kA (bV [(ai (.str "0000")),(ai (.str "1234")),(ai (.str "4321")),(ai (.str "7777")),(ai (.str "9990")),(ai (.str "9999"))]))) (eg [(b2 2),(b2 6)]) qL [some (.ae (.int n)),some (.ae (.tuple (zs.map eX))),s2,s3,s4,some (.ae (.tuple [])),none,none,none,none]=some (.bQ [some (.ae (.int n)),some (.ae (.tuple (zs.map eX))),mF,s3,vz,some (.ae (.tuple (bf.map dJ))),t6,t7,t8,none]):=by
  have:(ky (kA (bV [(ai (.str "0000")),(ai (.str "1234")),(ai (.str "4321")),(ai (.str "7777")),(ai (.str "9990")),(ai (.str "9999"))]))) [some (.ae (.int n)),some (.ae (.tuple (zs.map eX))),s2,s3,s4,some (.ae (.tuple [])),none,none,none,none]=some (ps.map nd):=by
   simp[ky,kA,bV,args,ai,IQ,enum,ps,nd,List.zipIdx]
  unfold iK;rw[this];exact WY
 show eI (seq (asg 1 (bV [])) (seq (iK (ky (kA (bV [(ai (.str "a")),(ai (.str "b")),(ai (.str "back")),(ai (.str "d")),(ai (.str "hall")),(ai (.str "r")),(ai (.str "win")),(ai (.str "z"))]))) (eg [(b2 2),(b2 3)]) pn)
  (seq (asg 5 (bV [])) (seq (iK (ky (kA (bV [(ai (.str "0000")),(ai (.str "1234")),(ai (.str "4321")),(ai (.str "7777")),(ai (.str "9990")),(ai (.str "9999"))]))) (eg [(b2 2),(b2 6)]) qL) _)))) 10 [.int n]=_
 unfold eI;have nk:seq (asg 1 (bV []))=λb=>seq (asg 1 (bV [])) b:=rfl;have ab:asg 1 (bV []) [some (.ae (.int n)),none,none,none,none,none,none,none,none,none]=some (.bQ [some (.ae (.int n)),some (.ae (.tuple [])),none,none,none,none,none,none,none,none]):=by simp[asg,bV,args]
 have gG:asg 5 (bV []) [some (.ae (.int n)),some (.ae (.tuple (zs.map eX))),s2,s3,s4,none,none,none,none,none]=some (.bQ [some (.ae (.int n)),some (.ae (.tuple (zs.map eX))),s2,s3,s4,some (.ae (.tuple [])),none,none,none,none]):=by simp[asg,bV,args]
 show (seq _ _ [some (.ae (.int n)),none,none,none,none,none,none,none,none,none]).bind _=_
 rw[hP ab,hP f1,hP gG,hP f2];simp! [eA,dg,d1,fx,lA,m9,m_,m',mf,kQ,me,rS,mR,bu]
def gR.fg{p:aY}(h:gR p):p.cA.length<=8:=by simpa [kD] using h.zs.length_le
def gR.cl{p:aY}(h:gR p):p.codes.length<=6:=by simpa [ps] using h.cs.length_le
def qh{l:List Str}(h:l.all (λx=>(k2 x).canLay0)=true:=by decide +kernel){x:Str}(hx:x∈l):cn x:=List.all_eq_true.mp h x hx
def gR.wp{p:aY}(h:gR p):Wp p:=by
 refine⟨?_,?_,?_,?_⟩
 ·exact h.cs.nodup (by decide +kernel)
 ·exact h.zs.nodup (by decide +kernel)
 ·have:=h.cl;omega
 ·have ab:=h.j0;have ak:=h.s8;have bF:=h.to;simp at ab ak bF;omega
def gR.i_{p:aY}(h:gR p):∀z∈p.cA,cn z.1/\cn z.2:=λz aq=>⟨qh (l:=kD.map (·.2)) (hx:=h.zs.subset (et.mpr ⟨z,aq,rfl⟩)),qh (l:=kinds) (hx:=h.Bb z aq)⟩
def gR.ZU{p:aY}(h:gR p):∀k∈p.codes,cn k.e8/\cn k.iQ/\∀r∈k.lQ,cn r:=λk aI=>⟨qh (l:=ps.map (·.2)) (hx:=h.cs.subset (et.mpr ⟨k,aI,rfl⟩)),qh (l:=vG) (hx:=(h.l' k aI).1),λr aC=>qh (l:=AR) (hx:=(h.l' k aI).2.1.subset aC)⟩
def gR.begun{p:aY}(h:gR p):a3 p (dt p):=by
 refine⟨h.i_,h.ZU,?_,bl "off",λz e=>(nomatch e),λe=>absurd e z1,?_,?_,?_,by simp[dt],by simp[dt]⟩
 ·have:=h.fg;omega
 ·simp[dt,nF]
 ·intro l av;obtain⟨z,_,rfl⟩:=et.mp av;exact bl "shut"
 ·simp[dt,nF]
end bY
end
section
namespace bY
open D PySem
def yl(p:aY):a0 (bu p) (.int 0)=some (.tuple (p.cA.map eX)):=by simp[a0,fG,gY,bu]
def WW(p:aY):a0 (bu p) (.int 1)=some (.tuple (p.codes.map dJ)):=by simp[a0,fG,gY,bu]
def Bi(z:Str×Str):a0 (eX z) (.int 0)=some (.str z.1):=by simp[a0,fG,gY,eX]
def ahz(k:gQ):a0 (dJ k) (.int 0)=some (.str k.e8):=by simp[a0,fG,gY,dJ]
def LL(m:Int){l:List T}(h:l≠[]):∃q:Int,0<=q/\q<l.length/\oMod (.int m) (.int l.length)=some (.int q):=by
 have av:0<(l.length:Int):=by
  have:=List.length_pos_iff.mpr h;omega
 obtain⟨q,_,ab,ak,e⟩:=modQ m l.length av;exact⟨q,ab,ak,e⟩
def r5:List Str:=["0000","1234","4321","7777","9990","9999","0001","1111","5555"]
noncomputable def kF(p:aY):cJ->Prop
|.line z w=>z∈p.cA.map (·.1)/\w∈(["shut","open","open","cut"]:List Str)
|.code f d z=>f∈r5/\(((d="set"\/d="unset")/\z=none)\/((d="shunt"\/d="free")/\∃x,z=some x/\x∈p.cA.map (·.1)))
|.ec n=>1<=n/\n<=1000000000
def kF.ok{p:aY}{e:cJ}(h:kF p e):g4 p e:=by
 cases e with
|line z w=>
  obtain⟨ab,ak⟩:=h;simp at ak;exact⟨ab,ak⟩
|ec n=>exact h.1
|code f d z=>
  obtain⟨ab,ak⟩:=h;refine⟨qh (l:=r5) (hx:=ab),?_,?_⟩
  ·rcases ak with ⟨ak|ak,_⟩|⟨ak|ak,_⟩
   ·exact .inl ak
   ·exact .inr (.inl ak)
   ·exact .inr (.inr (.inl ak))
   ·exact .inr (.inr (.inr ak))
  ·intro hd;rcases ak with ⟨ak|ak,_⟩|⟨_,bF⟩
   ·rcases hd with hd|hd
    ·exact absurd (ak.symm.trans hd) Hz
    ·exact absurd (ak.symm.trans hd) Ai
   ·rcases hd with hd|hd
    ·exact absurd (ak.symm.trans hd) Hr
    ·exact absurd (ak.symm.trans hd) aix
   ·exact bF
def ae_{p:aY}(h:gR p)(n:Int):∃e,kF p e/\qf [bu p,.int n]=some (cH e):=by
 obtain⟨aP,_,dg⟩:=divQ n 8;obtain⟨i,WN,cj,d1⟩:=LL (l:=p.cA.map eX) aP (by simpa using h.z0);obtain⟨t,bg,fx⟩:=yk WN cj;obtain⟨z,aq,rfl⟩:=et.mp bg;have q7:z.1∈p.cA.map (·.1):=et.mpr ⟨z,aq,rfl⟩;obtain⟨k,_,_,_,lA⟩:=modQ n 10;obtain⟨ba,_,m9⟩:=divQ n 512;obtain⟨a4,_,Lu,ym,m_⟩:=modQ ba 4;obtain⟨w,hw,m'⟩:=u' ["shut","open","open","cut"] Lu ym;obtain⟨Vf,K1,mf⟩:=u' ["0001","1111","9999","0000"] Lu ym;obtain⟨c9,_,kQ⟩:=divQ n 64;obtain⟨i',_,me⟩:=divQ n 4096;obtain⟨kl,_,nt,eQ,C7⟩:=modQ i' 3;obtain⟨u,b7,so⟩:=u_ [3,40,200] nt eQ;have Wv:0<u/\u<=200:=by
  simp at b7;omega
 obtain⟨b5,_,nv,b1,U8⟩:=modQ c9 u Wv.1;obtain⟨D',WO,WQ,KI⟩:=LL (l:=p.codes.map dJ) c9 (by simpa using h.uu);obtain⟨t',Wr,U9⟩:=yk WO WQ;obtain⟨c,ay,rfl⟩:=et.mp Wr;have VJ:c.e8∈r5:=by
  have:=h.cs.subset (et.mpr ⟨c,ay,rfl⟩);simp[ps,r5] at this ⊢;rcases this with q|q|q|q|q|q <;> simp[q]
 obtain⟨rl,_,KJ⟩:=divQ n 65536;obtain⟨rm,_,_,_,KL⟩:=modQ rl 4;obtain⟨oz,_,m0,lM,KN⟩:=modQ i' 6;obtain⟨d,hd,C8⟩:=u' ["set","set","unset","shunt","free","shunt"] m0 lM;simp only[dC,hO] at m' mf so C8;simp only[gc] at d1 KI;have w_:hj [.tuple (p.cA.map eX)]=some (.int p.cA.length):=by simp[hj]
 have bc:hj [.tuple (p.codes.map dJ)]=some (.int p.codes.length):=by simp[hj]
 simp only[qf,OP,eI,dC,hO,gK,p8,dU,List.cons_append,vL];by_cases ab:k<5
 ·exact⟨.line z.1 w,⟨q7,hw⟩,by simp! [eA,yl,Bi,dg,w_,d1,fx,lA,oLt,ab,m9,m_,m',rS,mR,cH]⟩
 ·by_cases ak:k<7
  ·exact⟨.ec (1+b5),⟨by omega,by omega⟩,by simp! [eA,yl,Bi,dg,w_,d1,fx,lA,oLt,ab,ak,kQ,me,C7,so,U8,l3,mR,l0,cH]⟩
  ·have eZ:cn d:=qh (l:=["set","set","unset","shunt","free","shunt"]) (hx:=hd);have Gu:=wx false (n:=d) (ns:=["set","unset"]) eZ (by
    intro k aI;exact qh (l:=["set","unset"]) (hx:=aI))
   simp only[dC,hO] at Gu;obtain⟨f,hf,KO⟩:∃f∈r5,(iff (bO (ao oEq (ao oMod (ao oDiv (nm 1) (ai (.int 65536))) (ai (.int 4))) (ai (.int 0)))) (asg 4 (ao a0 (bV [(ai (.str "0001")),(ai (.str "1111")),(ai (.str "9999")),(ai (.str "0000"))]) (ao oMod (ao oDiv (nm 1) (ai (.int 512))) (ai (.int 4))))) skip) [some (.ae (bu p)),some (.ae (.int n)),some (.ae (.str z.1)),some (.ae (.int k)),some (.ae (.str c.e8)),none]=some (.bQ [some (.ae (bu p)),some (.ae (.int n)),some (.ae (.str z.1)),some (.ae (.int k)),some (.ae (.str f)),none]):=by
    by_cases bF:rm=0
    ·refine⟨Vf,?_,by simp! [eA,KJ,KL,oY,bF,m9,m_,mf,rS]⟩
     simp[r5] at K1 ⊢;rcases K1 with q|q|q|q <;> simp[q]
    ·exact⟨c.e8,VJ,by simp! [eA,KJ,KL,oY,bF]⟩
   have Mh:∀X:bB,iff (bO (ao oLt (nm 3) (ai (.int 5)))) X skip [some (.ae (bu p)),some (.ae (.int n)),some (.ae (.str z.1)),some (.ae (.int k)),none,none]=some (.bQ [some (.ae (bu p)),some (.ae (.int n)),some (.ae (.str z.1)),some (.ae (.int k)),none,none]):=λX=>by simp! [eA,oLt,ab]
   have sB:∀X:bB,iff (bO (ao oLt (nm 3) (ai (.int 7)))) X skip [some (.ae (bu p)),some (.ae (.int n)),some (.ae (.str z.1)),some (.ae (.int k)),none,none]=some (.bQ [some (.ae (bu p)),some (.ae (.int n)),some (.ae (.str z.1)),some (.ae (.int k)),none,none]):=λX=>by simp! [eA,oLt,ak]
   have Mi:asg 4 (ao a0 (ao a0 (ao a0 (nm 0) (ai (.int 1))) (ao oMod (ao oDiv (nm 1) (ai (.int 64))) (bH hj [(ao a0 (nm 0) (ai (.int 1)))]))) (ai (.int 0))) [some (.ae (bu p)),some (.ae (.int n)),some (.ae (.str z.1)),some (.ae (.int k)),none,none]=some (.bQ [some (.ae (bu p)),some (.ae (.int n)),some (.ae (.str z.1)),some (.ae (.int k)),some (.ae (.str c.e8)),none]):=by simp! [eA,WW,bc,kQ,KI,U9,ahz]
   by_cases cT:d="set"\/d="unset"
   ·refine⟨.code f d none,⟨hf,.inl ⟨cT,rfl⟩⟩,?_⟩
    have Gv:f_ false (.str d) (.tuple [.str "set",.str "unset"])=some (.bool true):=by
     rw[Gu];simp[cT]
    have pre:∀B:bB,(seq (asg 2 (ao a0 (ao a0 (ao a0 (nm 0) (ai (.int 0))) (ao oMod (ao oDiv (nm 1) (ai (.int 8))) (bH hj [(ao a0 (nm 0) (ai (.int 0)))]))) (ai (.int 0)))) (seq (asg 3 (ao oMod (nm 1) (ai (.int 10)))) B)) [some (.ae (bu p)),some (.ae (.int n)),none,none,none,none]=B [some (.ae (bu p)),some (.ae (.int n)),some (.ae (.str z.1)),some (.ae (.int k)),none,none]:=by
     intro B;simp! [eA,yl,Bi,dg,w_,d1,fx,lA]
    rw[pre];rw[hP (Mh _),hP (sB _),hP Mi,hP KO];simp! [eA,me,KN,C8,IQ,l0,Gv,rS,cH,eG]
   ·refine⟨.code f d (some z.1),⟨hf,.inr ⟨?_,z.1,rfl,q7⟩⟩,?_⟩
    ·simp at hd;rcases hd with q|q|q|q|q
     ·exact absurd (.inl q) cT
     ·exact absurd (.inr q) cT
     ·exact .inl q
     ·exact .inr q
     ·exact .inl q
    have Gv:f_ false (.str d) (.tuple [.str "set",.str "unset"])=some (.bool false):=by
     rw[Gu];simp at cT;simp[cT]
    have pre:∀B:bB,(seq (asg 2 (ao a0 (ao a0 (ao a0 (nm 0) (ai (.int 0))) (ao oMod (ao oDiv (nm 1) (ai (.int 8))) (bH hj [(ao a0 (nm 0) (ai (.int 0)))]))) (ai (.int 0)))) (seq (asg 3 (ao oMod (nm 1) (ai (.int 10)))) B)) [some (.ae (bu p)),some (.ae (.int n)),none,none,none,none]=B [some (.ae (bu p)),some (.ae (.int n)),some (.ae (.str z.1)),some (.ae (.int k)),none,none]:=by
     intro B;simp! [eA,yl,Bi,dg,w_,d1,fx,lA]
    rw[pre];rw[hP (Mh _),hP (sB _),hP Mi,hP KO];simp! [eA,me,KN,C8,IQ,l0,Gv,rS,cH,eG]
noncomputable def tQ:List cJ:=[.code "5555" "unset" none,.code "5555" "unset" none,.code "5555" "unset" none]
theorem O9{p:aY}(h:gR p)(n:Int):∀(bf:List Int) (s0:Option aG),(∀k∈bf,0<=k/\k<1000)->∃es:List cJ,(∀e∈es,kF p e)/\es.length=bf.length/\fW (b2 0) (en true) (bH qf [(aN 1),(ao oDiv (bH j7 [(aN 2),(ao da (ai (.int 30)) (nm 0))]) (ai (.int 4)))]) (bf.map .int) [s0,some (.ae (bu p)),some (.ae (.int n))]=some (es.map cH)
| [],s0,_=>⟨[],by simp,rfl,rfl⟩
|k::bf,s0,aI=>by
  obtain⟨m,_,dg⟩:=AK n (30+k) (by have:=aI k fA;omega);obtain⟨q,_,d1⟩:=divQ m 4;obtain⟨e,he,fx⟩:=ae_ h q;obtain⟨es,cj,cu,my⟩:=O9 h n bf (some (.ae (.int k))) λy bI=>aI y (d6 _ bI);refine⟨e::es,λx hx=>?_,by simp[cu],?_⟩
  ·rcases cM.mp hx with rfl|hx
   ·exact he
   ·exact cj x hx
  ·have ay:bH qf [(aN 1),(ao oDiv (bH j7 [(aN 2),(ao da (ai (.int 30)) (nm 0))]) (ai (.int 4)))] [some (.ae (.int k)),some (.ae (bu p)),some (.ae (.int n))]=some (cH e):=by
    simp! [eA,l3,dg,d1,fx]
   rw[dC];simp only[fW,b2,je,de,en,if_true,ay];rw[my];rfl
def IU{p:aY}(h:gR p)(n m:Int)(a7:0<=n)(hm:0<=m/\m<900):∃es:List cJ,(∀e∈es,kF p e)/\(es.length:Int)<=m/\o1 [bu p,.int n,.int m]=some (.tuple (es.map cH)):=by
 obtain⟨r,_,kX,aO,dg⟩:=modQ n (m+1) (by omega);have V9:km 0 r=((List.range r.toNat).map λ(k:Nat)=>(k:Int)).map .int:=by
  simp[km,nF]
 obtain⟨es,cj,cu,my⟩:=O9 h n ((List.range r.toNat).map λ(k:Nat)=>(k:Int)) none (by
  intro k aI;obtain⟨j,bC,rfl⟩:=et.mp aI;have:=List.mem_range.mp bC;omega)
 have av:(es.length:Int)=r:=by
  simp at cu;omega
 obtain⟨q,_,d1⟩:=divQ n 64;obtain⟨bR,_,_,_,fx⟩:=modQ q 5;have aaj:qj r=true:=by
  unfold qj;simp;omega
 have s1:asg 3 (bH fM [(comp 1 [0,1] (ji (ao oMod (nm 1) (ao da (nm 2) (ai (.int 1))))) (b2 0) (en true) (bH qf [(aN 1),(ao oDiv (bH j7 [(aN 2),(ao da (ai (.int 30)) (nm 0))]) (ai (.int 4)))]))]) [some (.ae (bu p)),some (.ae (.int n)),some (.ae (.int m)),none]=some (.bQ [some (.ae (bu p)),some (.ae (.int n)),some (.ae (.int m)),some (.ae (.tuple (es.map cH)))]):=by
  have b6:((((List.range r.toNat).map λ(k:Nat)=>(k:Int)).map PyData.int).length<=big)=True:=by
   simp;unfold big;omega
  have it:(ji (ao oMod (nm 1) (ao da (nm 2) (ai (.int 1))))) [some (.ae (bu p)),some (.ae (.int n)),some (.ae (.int m)),none]=some (((List.range r.toNat).map λ(k:Nat)=>(k:Int)).map .int):=by
   rw[<- V9];simp[ji,ao,nm,ai,l3,dg,aaj]
  simp only[asg,bH,args,comp,it,de,b6,if_true];show Option.map _ ((Option.bind (Option.map _ (fW _ _ _ _ [none,some (.ae (bu p)),some (.ae (.int n))])) _).bind _)=_;rw[my];simp[fM]
 have ef:o1 [bu p,.int n,.int m]=(AX [some (.ae (bu p)),some (.ae (.int n)),some (.ae (.int m)),none]).bind λo=>match o with|.dj t=>some t|.bQ _=>some .none|_=>none:=rfl
 by_cases ay:bR=0/\2<(es.length:Int)
 ·refine⟨es.take (es.length - 3)++tQ,?_,?_,?_⟩
  ·intro e he;rcases j4.mp he with q|q
   ·exact cj e (List.mem_of_mem_take q)
   ·simp[tQ] at q;subst q;exact⟨by simp[r5],.inl ⟨.inr rfl,rfl⟩⟩
  ·simp[tQ];omega
  ·rw[ef];unfold AX;rw[hP s1];have b6:(es.length - 3+3<=big)=True:=by
    simp only[eq_iff_iff,iff_true];unfold big;omega
   have cm:(max (-3+(es.length:Int)) 0).toNat=es.length - 3:=by omega
   have gD:min (es.length - 3) es.length=es.length - 3:=by omega
   have pk:vk (.tuple [cH (.code "5555" "unset" none)]) (.int 3)=some (.tuple (tQ.map cH)):=by
    simp[vk,tQ,dU,mR]
   simp only[cH,eG] at pk;simp! [eA,d1,fx,oY,ay.1,ay.2,hj,i8,slice,optN,opt,pN,Gb,uA,cL,cm,gD,pk,rS,one_le,da,tQ];rw[if_pos (b6▸trivial)];simp! [eA]
 ·refine⟨es,cj,by omega,?_⟩
  rw[ef];unfold AX;rw[hP s1];by_cases ab:bR=0
  ·have ak:¬2<(es.length:Int):=λz=>ay ⟨ab,z⟩;simp! [eA,d1,fx,oY,ab,hj,i8];rw[if_neg ak];simp! [eA]
  ·simp! [eA,d1,fx,oY,ab]
end bY
end
section
namespace bY
open D PySem
def vx(k:Int)(w:Int×Str×Option Str):Int×Str×Option Str:=(k+w.1,w.2)
noncomputable def b3(k:Int)(pre:List (Int×Str×Option Str))(c:aM):aM:={c with past:=k+c.past,told:=pre++c.told.map (vx k)}
section
variable (k:Int)(pre:List (Int×Str×Option Str))(p:aY)
def mS(w:Str)(n:Option Str)(c:aM):tell w n (b3 k pre c)=b3 k pre (tell w n c):=by simp[tell,b3,vx]
def AN(z:Str)(c:aM):e4 p z (b3 k pre c)=b3 k pre (e4 p z c):=by
 by_cases h:z∈c.cO <;> simp[e4,b3,h,tell,ju,vx]
theorem OS:∀(zs:List Str) (c:aM),cO p zs (b3 k pre c)=b3 k pre (cO p zs c)
| [],c=>rfl
|z::zs,c=>by
  show cO p zs (e4 p z (b3 k pre c))=_
  rw[AN,OS zs];rfl
def aek(z x:Str)(c:aM):iH p z x (b3 k pre c)=b3 k pre (iH p z x c):=by
 unfold iH;by_cases h:x≠"way"\/p.m8<=0
 ·rw[if_pos h,if_pos h,AN]
 ·rw[if_neg h,if_neg h,<- mS];rfl
def adH(z w:Str)(c:aM):i3 p z w (b3 k pre c)=b3 k pre (i3 p z w c):=by
 have hm:(b3 k pre c).mode=c.mode:=rfl;unfold i3;rw[hm,AN,mS,aek]
 repeat' split
 all_goals rfl
def afO(z w:Str)(c:aM):line p z w (b3 k pre c)=b3 k pre (line p z w c):=by
 show (if w=la c z then b3 k pre c else if w="shut" then (if la c z="cut" then tell "mended" (some z) (b3 k pre {c with lines:=jC c.lines z w}) else b3 k pre {c with lines:=jC c.lines z w})
  else if z∈c.dw then b3 k pre {c with lines:=jC c.lines z w} else i3 p z w (b3 k pre {c with lines:=jC c.lines z w}))=b3 k pre (line p z w c)
 unfold line;rw[mS,adH]
 repeat' split
 all_goals rfl
def Hy(n:Int)(c:aM):lZ n (b3 k pre c)=b3 k pre (lZ n c):=by simp[lZ,b3,Int.add_assoc]
def Nb(c:aM):iI p (b3 k pre c)=b3 k pre (iI p c):=by
 show cO p (bare p ["inner","way"] (tell "on" none {c with mode:="on",left:=0})) (tell "on" none (b3 k pre {c with mode:="on",left:=0}))=_
 rw[mS,OS];rfl
def acP(c:aM):lB p (b3 k pre c)=b3 k pre (lB p c):=by
 unfold lB;rw[<- AN];rfl
def adD(c:aM):iJ p (b3 k pre c)=b3 k pre (iJ p c):=by
 have hm:(b3 k pre c).mode=c.mode:=rfl;unfold iJ;rw[hm,Nb,acP];split <;> rfl
def aev(n:Int)(c:aM):ec p n (b3 k pre c)=b3 k pre (ec p n c):=by
 have hm:(b3 k pre c).mode=c.mode:=rfl;have av:(b3 k pre c).left=c.left:=rfl;unfold ec;rw[hm,av,Hy,adD,Hy,Hy]
 repeat' split
 all_goals rfl
def Ng(c:aM):hK p (b3 k pre c)=b3 k pre (hK p c):=by
 have bg:(b3 k pre c).tries=c.tries:=rfl;have ab:j1 (b3 k pre c)=b3 k pre (j1 c):=by simp[j1,tell,b3,vx]
 unfold hK;rw[bg,ab];split
 ·exact mS k pre "attack" none (ju p {j1 c with tries:=0,locked:=90})
 ·rfl
def afa(w:Str)(c:aM):kP p w (b3 k pre c)=b3 k pre (kP p w c):=by
 show (if p.leave<=0 then iI p (tell "set" (some w) (b3 k pre {c with cO:=[],fb:=0,mode:="leaving",left:=p.leave})) else tell "set" (some w) (b3 k pre {c with cO:=[],fb:=0,mode:="leaving",left:=p.leave}))=b3 k pre (if p.leave<=0 then _ else _)
 rw[mS,Nb];split <;> rfl
def adF(w:Str)(c:aM):mc w (b3 k pre c)=b3 k pre (mc w c):=by
 unfold mc;rw[<- mS];rfl
def aeh(w d:Str)(z:Option Str)(c:aM):f5 p w d z (b3 k pre c)=b3 k pre (f5 p w d z c):=by
 show (if d="set" then kP p w (b3 k pre c) else if d="unset" then mc w (b3 k pre c) else if d="shunt" then tell "shunt" z (b3 k pre {c with dw:=jk (c.dw++[z.getD ""])}) else tell "free" z (b3 k pre {c with dw:=c.dw.erase (z.getD "")}))=b3 k pre (f5 p w d z c)
 unfold f5;rw[mS,mS,afa,adF]
 repeat' split
 all_goals rfl
def acF(x:gQ)(d:Str)(z:Option Str)(c:aM):takeRight p x d z (b3 k pre c)=b3 k pre (takeRight p x d z c):=by
 have h0:jS p x d z (b3 k pre c)=jS p x d z c:=rfl;unfold takeRight;rw[h0];cases jS p x d z c with
|none=>exact aeh k pre p _ _ _ {c with used:=n5 c.used x.e8}
|some wn=>exact mS k pre _ _ _
def af5(f d:Str)(z:Option Str)(c:aM):code p f d z (b3 k pre c)=b3 k pre (code p f d z c):=by
 have h0:(b3 k pre c).locked=c.locked:=rfl;unfold code;rw[h0,mS];split
 ·rfl
 ·cases codeOf p f with
  |none=>exact Ng k pre p c
  |some x=>
   show (if rW x c=true then hK p (b3 k pre c) else takeRight p x d z (b3 k pre {c with tries:=0}))=b3 k pre (if rW x c=true then _ else _)
   rw[Ng,acF];split <;> rfl
def aed(e:cJ)(c:aM):gH p (b3 k pre c) e=b3 k pre (gH p c e):=by
 cases e with
|line z w=>exact afO k pre p z w c
|code f d z=>exact af5 k pre p f d z c
|ec n=>exact aev k pre p n c
theorem IS:∀(es:List cJ) (c:aM),run p (b3 k pre c) es=b3 k pre (run p c es)
| [],c=>rfl
|e::es,c=>by
  show run p (gH p (b3 k pre c) e) es=_
  rw[aed,IS es];rfl
end
def O7(c:aM):c=b3 c.past c.told (fresh c):=by simp[b3,fresh]
def ag5(c:aM):Prop:=c.mode="leaving"\/c.mode="coming"
end bY
end
section
namespace bY
open D PySem
def okN(d:Nat)(t:T):Prop:=t.canLay0=true/\t.depth<=d
theorem okN.iu{d:Nat}{t:T}(h:okN d t)(hd:d<=60:=by decide):iu t=true:=by
 unfold D.iu;rw[h.1,decide_eq_true (lW h.2 hd)];rfl
theorem PF{d:Nat}:∀{ts:List T},(∀t∈ts,okN d t)->ks ts=true/\jH ts<=d
| [],_=>by simp[ks,jH]
|t::ts,h=>by
  obtain⟨ab,ak⟩:=PF λx hx=>h x (d6 _ hx);obtain⟨bF,cT⟩:=h t fA;constructor
  ·rw[ks,bF,ab];rfl
  ·rw[jH];omega
def k9{d:Nat}{ts:List T}(h:∀t∈ts,okN d t):okN (d+1) (.tuple ts):=by
 obtain⟨ab,ak⟩:=PF h;constructor
 ·rw[PyData.canLay0];exact ab
 ·rw[oM];omega
def rQ(d:Nat)(n:Int):okN d (.int n):=⟨rfl,by rw[oM];omega⟩
def aeS(d:Nat):okN d .none:=⟨rfl,by rw[oM];omega⟩
def kx(d:Nat){x:Str}(h:cn x):okN d (.str x):=⟨h,by rw[oM];omega⟩
def A5(d:Nat){x:Option Str}(h:∀z,x=some z->cn z):okN d (eG x):=by
 cases x with
|none=>exact aeS d
|some z=>exact kx d (h z rfl)
def AI{d:Nat}{t:T}(h:okN d t)(hd:d<=60:=by decide):g0 t t=some (.bool false):=by
 unfold g0;rw[h.iu hd,PySem.SeqAt.eqv_refl t h.1];rfl
def aeT{p:aY}{c:aM}(h:a3 p c):okN 2 (d8 c):=by
 refine k9 λt bg=>?_
 simp only[cM,mL,or_false] at bg;rcases bg with rfl|rfl|rfl|rfl|rfl|rfl|rfl|rfl|rfl|rfl
 ·exact kx _ h.mo
 ·exact rQ _ _
 ·exact A5 _ λz aq=>(h.ca z aq).1
 ·refine k9 (d:=0) λt bg=>?_
  obtain⟨l,av,rfl⟩:=et.mp bg;exact kx _ (h.lo l av)
 ·refine k9 (d:=0) λt bg=>?_
  obtain⟨l,av,rfl⟩:=et.mp bg;exact kx _ (h.sT l av)
 ·exact rQ _ _
 ·refine k9 (d:=0) λt bg=>?_
  obtain⟨l,av,rfl⟩:=et.mp bg;exact kx _ (h.L3 l av)
 ·exact rQ _ _
 ·exact rQ _ _
 ·refine k9 (d:=0) λt bg=>?_
  obtain⟨l,av,rfl⟩:=et.mp bg;exact rQ _ _
def cN(c:aM):Prop:=∀w∈c.told,cn w.2.1/\∀n,w.2.2=some n->cn n
theorem cN.tell{c:aM}(h:cN c){w:Str}{n:Option Str}(hw:cn w)(a7:∀x,n=some x->cn x):cN (bY.tell w n c):=by
 intro x hx;rcases j4.mp hx with q|q
 ·exact h x q
 ·simp at q;subst q;exact⟨hw,a7⟩
theorem cN.e4{p:aY}{c:aM}(h:cN c){z:Str}(aq:cn z):cN (bY.e4 p z c):=by
 unfold bY.e4;split
 ·exact h
 ·exact cN.tell (c:={ju p c with cO:=c.cO++[z]}) h (bl "alarm") λx e=>eB e▸aq
theorem cN.cO{p:aY}:∀{zs:List Str} {c:aM},cN c->(∀z∈zs,cn z)->cN (bY.cO p zs c)
| [],_,h,_=>h
|z::zs,c,h,aq=>cN.cO (zs:=zs) (h.e4 (aq z fA)) λy bI=>aq y (d6 _ bI)
theorem cN.iH{p:aY}{c:aM}(h:cN c){z k:Str}(aq:cn z):cN (bY.iH p z k c):=by
 unfold bY.iH;split
 ·exact h.e4 aq
 ·exact cN.tell (c:={c with mode:="coming",left:=p.m8,gE:=some z}) h (bl "coming") λx e=>eB e▸aq
theorem cN.i3{p:aY}{c:aM}(h:cN c){z w:Str}(aq:cn z):cN (bY.i3 p z w c):=by
 unfold bY.i3
 repeat' split
 all_goals first|exact h.e4 aq|exact h.tell (bl "fault") λx e=>eB e▸aq|exact h.iH aq|exact h
theorem cN.line{p:aY}{c:aM}(h:cN c){z w:Str}(aq:cn z):cN (bY.line p z w c):=by
 have h':cN {c with lines:=jC c.lines z w}:=h;unfold bY.line
 repeat' split
 all_goals first|exact h|exact h'|exact h'.tell (bl "mended") λx e=>eB e▸aq|exact h'.i3 aq
theorem cN.iI{p:aY}{c:aM}(h:cN c)(hw:a3 p c):cN (bY.iI p c):=
 cN.cO (cN.tell (c:={c with mode:="on",left:=0}) h (bl "on") λx e=>(nomatch e)) λz aq=>hw.i_ (AM aq)
theorem cN.iJ{p:aY}{c:aM}(h:cN c)(hw:a3 p c)(hm:ag5 c):cN (bY.iJ p c):=by
 unfold bY.iJ;split
 ·exact h.iI hw
 next q=>
  obtain⟨z,aq⟩:=Option.ne_none_iff_exists'.mp (hw.jT (hm.resolve_left q));unfold bY.lB;rw[aq];exact cN.e4 (c:={c with mode:="on",gE:=none}) h (hw.ca z aq).1
theorem cN.ec{p:aY}{c:aM}(h:cN c)(hw:a3 p c)(n:Int):cN (bY.ec p n c):=by
 unfold bY.ec;split
 ·exact h
 ·split
  next q=>exact cN.iJ (c:=lZ c.left c) h (hw.cd _) q.1
  ·exact h
theorem cN.hK{p:aY}{c:aM}(h:cN c):cN (bY.hK p c):=by
 have ab:cN (j1 c):=cN.tell h (bl "wrong") λx e=>(nomatch e);unfold bY.hK;split
 ·exact cN.tell (c:=ju p {j1 c with tries:=0,locked:=90}) ab (bl "attack") λx e=>(nomatch e)
 ·exact ab
def adO{p:aY}{c:aM}(hw:a3 p c){k:gQ}(aI:k∈p.codes){d:Str}{z:Option Str}{x:Str×Str}(h:jS p k d z c=some x):cn x.1/\cn x.2:=by
 have Lj:=(hw.eV k aI).2.1;unfold jS at h;by_cases ab:(if d="free" then ("shunt":Str) else d)∈k.lQ
 ·rw[if_neg (λq=>q ab)] at h;split at h
  ·cases h
   exact⟨bl "no",Lj⟩
  ·split at h
   next q=>
    cases h
    refine⟨bl "open",?_⟩
    have aa:=q.2;cases e:bare p ["day","once"] c with
    |nil=>exact absurd e aa
    |cons b bs=>
     have:b∈bare p ["day","once"] c:=by rw[e];simp
     simpa using hw.i_ (AM this)
   ·cases h
 ·rw[if_pos ab] at h;cases h;exact⟨bl "denied",Lj⟩
theorem cN.f5{p:aY}{c:aM}(h:cN c)(hw:a3 p c){w d:Str}{z:Option Str}(how:cn w)(aq:y0 p d z c):cN (bY.f5 p w d z c):=by
 rcases aq with rfl|rfl|⟨rfl,x,rfl,hx⟩|⟨rfl,x,rfl,hx⟩
 ·simp only[bY.f5,if_true];have h':cN (bY.tell "set" (some w) {c with cO:=[],fb:=0,mode:="leaving",left:=p.leave}):=cN.tell (c:={c with cO:=[],fb:=0,mode:="leaving",left:=p.leave}) h (bl "set") λx e=>eB e▸how;show cN (if p.leave<=0 then bY.iI p (bY.tell "set" (some w) {c with cO:=[],fb:=0,mode:="leaving",left:=p.leave}) else bY.tell "set" (some w) {c with cO:=[],fb:=0,mode:="leaving",left:=p.leave});split
  ·exact h'.iI ((hw.zb p.leave).tell _ _)
  ·exact h'
 ·simp only[bY.f5,if_neg z9,if_true];exact cN.tell (c:={c with mode:="off",left:=0,fb:=0,gE:=none,dw:=[]}) h (bl "unset") λx e=>eB e▸how
 ·simp only[bY.f5,if_neg z_,if_neg aim,if_true];exact cN.tell (c:={c with dw:=jk (c.dw++[x])}) h (bl "shunt") λy e=>eB e▸hw.i_ hx
 ·simp only[bY.f5,if_neg Aj,if_neg wa,if_neg wb];exact cN.tell (c:={c with dw:=c.dw.erase x}) h (bl "free") λy e=>eB e▸hw.sT x hx
theorem cN.gH{p:aY}{c:aM}(h:cN c)(hw:a3 p c){e:cJ}(he:g4 p e):cN (bY.gH p c e):=by
 cases e with
|line z w=>exact h.line (hw.i_ he.1)
|ec n=>exact h.ec hw n
|code f d z=>
  show cN (bY.code p f d z c)
  unfold bY.code;split
  ·exact h.tell (bl "locked") λx e=>(nomatch e)
  ·split
   ·exact h.hK
   next k fQ=>
    have aI:=Oc fQ;split
    ·exact h.hK
    ·have ru:=hw.zk 0;have h0:cN {c with tries:=0}:=h;unfold bY.takeRight;split
     next cK=>exact cN.f5 (c:={c with tries:=0,used:=n5 c.used k.e8}) h (ru.add k.e8) (hw.eV k aI).2.1 (I2 he.2.1 he.2.2 cK)
     next cK=>
      have:=adO ru aI cK;exact h0.tell this.1 λx e=>eB e▸this.2
theorem cN.run{p:aY}:∀{es:List cJ} {c:aM},cN c->a3 p c->(∀e∈es,g4 p e)->cN (bY.run p c es)
| [],_,h,_,_=>h
|e::es,c,h,hw,he=>cN.run (es:=es) (h.gH hw (he e fA)) (hw.gH (he e fA)) λy bI=>he y (d6 _ bI)
theorem cN.fresh(c:aM):cN (bY.fresh c):=λw hw=>by cases hw
def aeR{c:aM}(h:cN c):okN 2 (.tuple (c.told.map gV)):=by
 refine k9 λt bg=>?_
 obtain⟨w,hw,rfl⟩:=et.mp bg;refine k9 λt bg=>?_;simp only[cM,mL,or_false] at bg;rcases bg with rfl|rfl|rfl
 ·exact rQ _ _
 ·exact kx _ (h w hw).1
 ·exact A5 _ (h w hw).2
def afW(p:aY)(c:aM)(e:cJ)(h:a3 p c)(aL:Wp p)(he:g4 p e):wN [bu p,d8 c,cH e]=some (d8 (gH p (fresh c) e)):=by
 have dg:=z2 p c [e] h aL (by simpa using he) (by simp);have d1:=O2 p (run p (fresh c) [e]) .dp (h.fresh.run (by simpa using he));simp only[dC,hO] at dg;simp! [eA,wN,Qw,nU,sS,one_le,dg,ql,d1];rfl
def hq(w:Int×Str×Option Str):T:=.tuple [.str w.2.1,eG w.2.2]
theorem I8(caps:Ev):∀(ws:List (Int×Str×Option Str)) (s0 s1 s2:Option aG),fW (eg [(b2 0),(b2 1),(b2 2)]) (en true) (bV [(aN 1),(aN 2)]) (ws.map gV) (s0::s1::s2::caps)=some (ws.map hq)
| [],_,_,_=>rfl
|w::ws,s0,s1,s2=>by
  have b9:=I8 caps ws (some (.ae (.int w.1))) (some (.ae (.str w.2.1))) (some (.ae (eG w.2.2)));simp only[dC,fW,gV,eg,gm,b2,de,je,jI,en,if_true] at b9 ⊢;simp only[bV,args,aN,oO,nG,de,gd,gK,p8,l0,if_true] at b9 ⊢;simp[l0,hq];simpa [gV,hq] using b9
def aeu(p:aY)(c:aM)(e:cJ)(h:a3 p c)(aL:Wp p)(he:g4 p e):wH [bu p,d8 c,cH e]=some (.tuple ((gH p (fresh c) e).told.map hq)):=by
 have dg:=z2 p c [e] h aL (by simpa using he) (by simp);have aa:=wu (es:=[e]) h.fresh (by simpa using he);have cm:(60000<big):=by decide
 have h0:(fresh c).told.length=0:=rfl;have b6:(run p (fresh c) [e]).told.length<=big:=by simp at aa;omega
 have e5:=I8 [] (run p (fresh c) [e]).told none none none;simp only[dC,hO] at dg;simp! [eA,wH,PS,nU,tJ,one_le,dg,ql,sm,b6];rw[e5];simp[fM];rfl
end bY
end
section
namespace bY
open D PySem
def qi{i:Nat}{f:bE}{b:bB}{ε:Ev}{t:T}{r:Option Out}(h:f ε=some t)(ak:b (ε.set i (some (.ae t)))=r):seq (asg i f) b ε=r:=by
 rw[hP (ε':=ε.set i (some (.ae t))),ak];unfold asg;rw[h];rfl
def ae5{c:fm}{a b:bB}{ε:Ev}{r:Option Out}(h:c ε=some false)(ak:b ε=r):seq (iff c a skip) b ε=r:=by
 rw[hP (ε':=ε),ak];unfold iff;rw[h];rfl
def tE{a b:bB}{ε ε':Ev}{r:Option Out}(h:a ε=some (.bQ ε'))(ak:b ε'=r):seq a b ε=r:=by rw[hP h,ak]
theorem denied{p:aY}{c:aM}{k:gQ}{d:Str}(hd:d="set"\/d="unset")(aC:d∉k.lQ):takeRight p k d none c=tell "denied" (some k.iQ) c:=by
 have:jS p k d none c=some (("denied":Str),k.iQ):=by
  rcases hd with rfl|rfl <;> simp[jS,Ai,aix,aC]
 unfold takeRight;rw[this]
def aeQ(d:Nat){w:Str}{n:Option Str}(hw:cn w)(a7:∀x,n=some x->cn x):okN (d+1) (.tuple [.str w,eG n]):=k9 λx hx=>by
 simp only[cM,mL,or_false] at hx;rcases hx with rfl|rfl
 ·exact kx _ hw
 ·exact A5 _ a7
def iff_eq{c:fm}{x y:bB}{ε:Ev}{b:Bool}(h:c ε=some b):iff c x y ε=if b then x ε else y ε:=by
 unfold iff;rw[h];rfl
end bY
end
section
namespace bY
open D PySem
noncomputable def IA(p:aY)(c:aM):List Str:=((p.cA.zip c.lines).filter λx=>!decide (x.2.2=("shut":Str))).map λx=>x.1.1
end bY
end
section
namespace iW
open D bY
open PySem hiding run fresh code
local instance:cV:=⟨[],λ_=>[],λ_=>none⟩
def c5(p:aY)(c:aM)(e:cJ):aM:=gH p (fresh c) e
noncomputable def cz(p:aY)(es:List cJ)(pre:List aM)(c:aM):List aG:=[.ae (bu p),.own (es.map cH),.own ((pre++[c]).map d8)]
noncomputable def vl(p:aY)(e:cJ):Prop:=g4 p e/\match e with
|.code _ _ z=>∀x,z=some x->x∈p.cA.map (·.1)
|_=>True
section
variable {p:aY}{es:List cJ}{pre:List aM}{c:aM}{md:gi}
def afU(xs:List T)(x:T):a0 (.list (xs++[x])) (.int (-1))=some x:=by
 have ab:¬((0:Int)<=-1):=by omega
 have ak:-(((xs++[x]).length:Nat):Int)<=-1:=by simp only[oL,gK,p8];omega
 have bF:(-1+(((xs++[x]).length:Nat):Int)).toNat=xs.length:=by simp only[oL,gK,p8];omega
 simp only[a0,fG,gY];rw[if_neg ab,if_pos ak,bF];simp
def aep:mO [.obj md 1 (cz p es pre c)]=some (d8 c):=by
 have az:Ac [some (.obj md 1 (cz p es pre c))]=some (.dj (d8 c)):=by
  have dg:fld 1 0 2 [some (.obj md 1 (cz p es pre c))]=some (.list (pre.map d8++[d8 c])):=by
   simp[fld,dS,cz]
  have d1:eH pN (ai (.int 1)) [some (.obj md 1 (cz p es pre c))]=some (.int (-1)):=rfl;unfold Ac cU ao;rw[dg,d1];simp only[de,afU];rfl
 unfold mO g6;show Option.bind (Ac [some (.obj md 1 (cz p es pre c))]) _=_;rw[az];rfl
def IB{ε:Ev}{i:Nat}(h:ε[i]?=some (some (.obj md 1 (cz p es pre c)))):eM 1 mO i [] ε=some (d8 c):=by
 have:dS 1 i ε=some (md,cz p es pre c):=by simp[dS,h]
 simp only[eM,this,de,args,hO,aep]
def A'{ε:Ev}{i:Nat}(h:ε[i]?=some (some (.obj md 1 (cz p es pre c)))):ft 1 i 0 ε=some (bu p):=by
 have:dS 1 i ε=some (md,cz p es pre c):=by simp[dS,h]
 simp only[ft,this,de];rfl
def adN(wp:Wp p)(hw:a3 p c){e:cJ}(he:g4 p e)(av:es.length<10000)(aL:pre.length<10000):
  nM [.obj .ck 1 (cz p es pre c),.ae (cH e)]=some (.tuple ((c5 p c e).told.map hq),cz p (es++[e]) (pre++[c]) (c5 p c e)):=by
 have xw:=aeu p c e hw wp he;have xg:=afW p c e hw wp he;have b6:(es.map cH).length<big:=by rw[gc];unfold big;omega
 have cm:((pre++[c]).map d8).length<big:=by simp only[gc,oL,gK,p8];unfold big;omega
 have az:z3 [some (.obj .ck 1 (cz p es pre c)),some (.ae (cH e)),none,none]=some (.hk (.tuple ((c5 p c e).told.map hq)) [some (.obj .ck 1 (cz p (es++[e]) (pre++[c]) (c5 p c e))),some (.ae (cH e)),some (.ae (.tuple ((c5 p c e).told.map hq))),some (.ae (d8 (c5 p c e)))]):=by
  unfold z3;refine qi (t:=.tuple ((c5 p c e).told.map hq)) (by
   simp only[bH,args,A' (i:=0) (ε:=[some (.obj .ck 1 (cz p es pre c)),some (.ae (cH e)),none,none]) rfl,IB (i:=0) (ε:=[some (.obj .ck 1 (cz p es pre c)),some (.ae (cH e)),none,none]) rfl,aN,oO,nG,de,gd,xw];rfl) ?_
  simp only[jI,je];refine qi (t:=d8 (c5 p c e)) (by
   simp only[bH,args,A' (i:=0) (ε:=[some (.obj .ck 1 (cz p es pre c)),some (.ae (cH e)),some (.ae (.tuple ((c5 p c e).told.map hq))),none]) rfl,IB (i:=0) (ε:=[some (.obj .ck 1 (cz p es pre c)),some (.ae (cH e)),some (.ae (.tuple ((c5 p c e).told.map hq))),none]) rfl,aN,oO,nG,de,gd,xg];rfl) ?_
  simp only[jI,je];refine tE (ε':=[some (.obj .ck 1 [.ae (bu p),.own ((es++[e]).map cH),.own ((pre++[c]).map d8)]),some (.ae (cH e)),some (.ae (.tuple ((c5 p c e).told.map hq))),some (.ae (d8 (c5 p c e)))]) ?_ ?_
  ·simp only[kL,mn,gJ,dS,cz,aN,oO,nG,de,gd,if_true,if_pos b6];have em:(es++[e]).map cH=es.map cH++[cH e]:=by simp
   rw[em];rfl
  refine tE (ε':=[some (.obj .ck 1 (cz p (es++[e]) (pre++[c]) (c5 p c e))),some (.ae (cH e)),some (.ae (.tuple ((c5 p c e).told.map hq))),some (.ae (d8 (c5 p c e)))]) ?_ rfl
  simp only[kL,mn,gJ,dS,cz,aN,oO,nG,de,gd,if_true,if_pos cm];have em:((pre++[c])++[c5 p c e]).map d8=(pre++[c]).map d8++[d8 (c5 p c e)]:=by simp
  rw[em];rfl
 unfold nM runM;show Option.bind (z3 [some (.obj .ck 1 (cz p es pre c)),some (.ae (cH e)),none,none]) _=_;rw[az];simp[jL]
def Ik(wp:Wp p)(hw:a3 p c){e:cJ}(he:g4 p e)(av:es.length<10000)(aL:pre.length<10000){ε:Ev}{i:Nat}{md:gi}(hm:md≠.dp)(h:ε[i]?=some (some (.obj md 1 (cz p es pre c)))){f:bE}(hf:f ε=some (cH e)):
  cZ 1 nM i [f] ε=some (.tuple ((c5 p c e).told.map hq),ε.set i (some (.obj md 1 (cz p (es++[e]) (pre++[c]) (c5 p c e))))):=by
 have ab:dS 1 i ε=some (md,cz p es pre c):=by simp[dS,h]
 simp only[cZ,ab,de,if_neg hm,args,hf,gd,dC,hO,adN wp hw he av aL]
def X9(aq:∀x∈p.cA,cn x.1/\cn x.2){z:Str}(h:z∈p.cA.map (·.1)):qa [.obj .dp 1 (cz p es pre c),.ae (.str z)]=some .none:=by
 have fQ:=HI aq h;have az:zP [some (.obj .dp 1 (cz p es pre c)),some (.ae (.str z))]=some (.bQ [some (.obj .dp 1 (cz p es pre c)),some (.ae (.str z))]):=by
  unfold zP;simp only[pB,bH,args,A' (i:=0) (ε:=[some (.obj .dp 1 (cz p es pre c)),some (.ae (.str z))]) rfl,aN,oO,nG,de,gd,fQ]
 unfold qa g6;show Option.bind (zP [some (.obj .dp 1 (cz p es pre c)),some (.ae (.str z))]) _=_;rw[az];rfl
def Ql(aq:∀x∈p.cA,cn x.1/\cn x.2){z:Str}(h:z∈p.cA.map (·.1)){ε:Ev}{i:Nat}(aJ:ε[i]?=some (some (.obj md 1 (cz p es pre c)))){f:bE}(hf:f ε=some (.str z)):pB (eM 1 qa i [f]) ε=some (.bQ ε):=by
 have ab:dS 1 i ε=some (md,cz p es pre c):=by simp[dS,aJ]
 simp only[pB,eM,ab,de,args,hf,gd,dC,hO,X9 aq h]
noncomputable def kG(p:aY)(es:List cJ)(pre:List aM)(c:aM)(e:cJ):T×List aG:=(.tuple ((c5 p c e).told.map hq),cz p (es++[e]) (pre++[c]) (c5 p c e))
def afc(wp:Wp p)(hw:a3 p c){z w:Str}(he:g4 p (.line z w))(av:es.length<10000)(aL:pre.length<10000):
  wd [.obj .ck 1 (cz p es pre c),.ae (.str z),.ae (.str w)]=some (kG p es pre c (.line z w)):=by
 have gD:(3:Nat)<=big:=by unfold big;omega
 have az:Am [some (.obj .ck 1 (cz p es pre c)),some (.ae (.str z)),some (.ae (.str w))]=some (.hk (kG p es pre c (.line z w)).1 [some (.obj .ck 1 (kG p es pre c (.line z w)).2),some (.ae (.str z)),some (.ae (.str w))]):=by
  unfold Am;refine tE (Ql hw.zn he.1 (i:=0) rfl rfl) ?_;unfold iv;rw[Ik wp hw he av aL (by decide) (i:=0) rfl (by simp[bV,args,ai,aN,gD,cH])];rfl
 unfold wd runM;show Option.bind (Am [some (.obj .ck 1 (cz p es pre c)),some (.ae (.str z)),some (.ae (.str w))]) _=_;rw[az];simp[jL]
def aeo(wp:Wp p)(hw:a3 p c){n:Int}(he:g4 p (.ec n))(av:es.length<10000)(aL:pre.length<10000):
  wc [.obj .ck 1 (cz p es pre c),.ae (.int n)]=some (kG p es pre c (.ec n)):=by
 have gD:(2:Nat)<=big:=by unfold big;omega
 have az:Ab [some (.obj .ck 1 (cz p es pre c)),some (.ae (.int n))]=some (.hk (kG p es pre c (.ec n)).1 [some (.obj .ck 1 (kG p es pre c (.ec n)).2),some (.ae (.int n))]):=by
  unfold Ab iv;rw[Ik wp hw he av aL (by decide) (i:=0) rfl (by simp[bV,args,ai,aN,gD,cH])];rfl
 unfold wc runM;show Option.bind (Ab [some (.obj .ck 1 (cz p es pre c)),some (.ae (.int n))]) _=_;rw[az];simp[jL]
def afe(wp:Wp p)(hw:a3 p c){f d:Str}{z:Option Str}(he:vl p (.code f d z))(av:es.length<10000)(aL:pre.length<10000):
  we [.obj .ck 1 (cz p es pre c),.ae (.str f),.ae (.str d),.ae (eG z)]=some (kG p es pre c (.code f d z)):=by
 have gD:(4:Nat)<=big:=by unfold big;omega
 have hd:cn d:=by
  rcases he.1.2.1 with h|h|h|h <;> (rw[h];exact bl _)
 have L1:=wx false (n:=d) (ns:=["shunt","free"]) hd (λx hx=>by
  simp only[cM,mL,or_false] at hx;rcases hx with h|h <;> (rw[h];exact bl _))
 have az:An [some (.obj .ck 1 (cz p es pre c)),some (.ae (.str f)),some (.ae (.str d)),some (.ae (eG z))]=some (.hk (kG p es pre c (.code f d z)).1 [some (.obj .ck 1 (kG p es pre c (.code f d z)).2),some (.ae (.str f)),some (.ae (.str d)),some (.ae (eG z))]):=by
  unfold An;refine tE (ε':=[some (.obj .ck 1 (cz p es pre c)),some (.ae (.str f)),some (.ae (.str d)),some (.ae (eG z))]) ?_ ?_
  ·cases z with
   |some x=>
    have hx:x∈p.cA.map (·.1):=he.2 x rfl;unfold iff;have t:e0 (bO (eH iV (nm 3))) (bO (ao (f_ false) (nm 2) (ai (.tuple (iT ["shunt","free"]))))) [some (.obj .ck 1 (cz p es pre c)),some (.ae (.str f)),some (.ae (.str d)),some (.ae (eG (some x)))]=some true:=rfl;rw[t];exact Ql hw.zn hx (i:=0) rfl rfl
   |none=>
    have a8:¬(d∈(["shunt","free"]:List Str)):=λhm=>by
     simp only[cM,mL,or_false] at hm;obtain⟨x,hx,_⟩:=he.1.2.2 hm;cases hx
    simp only[p3,if_false,decide_eq_false a8] at L1;have ZT:f_ false (.str d) (.tuple (iT ["shunt","free"]))=some (.bool false):=L1;unfold iff;have t:e0 (bO (eH iV (nm 3))) (bO (ao (f_ false) (nm 2) (ai (.tuple (iT ["shunt","free"]))))) [some (.obj .ck 1 (cz p es pre c)),some (.ae (.str f)),some (.ae (.str d)),some (.ae (eG none))]=some false:=by
     simp only[e0,bO,eH,ao,nm,ai,oO,nG,de,ZT];rfl
    rw[t];rfl
  unfold iv;rw[Ik (e:=.code f d z) wp hw he.1 av aL (by decide) (i:=0) rfl (by simp[bV,args,ai,aN,gD,cH])];rfl
 unfold we runM;show Option.bind (An [some (.obj .ck 1 (cz p es pre c)),some (.ae (.str f)),some (.ae (.str d)),some (.ae (eG z))]) _=_;rw[az];simp[jL]
def ag1(wp:Wp p)(hw:a3 p c){e:cJ}(he:vl p e)(av:es.length<10000)(aL:pre.length<10000):
  qe [.obj .ck 1 (cz p es pre c),.ae (cH e)]=some (kG p es pre c e):=by
 have fin:Al [some (.obj .ck 1 (cz p es pre c)),some (.ae (cH e))]=some (.hk (kG p es pre c e).1 [some (.obj .ck 1 (kG p es pre c e).2),some (.ae (cH e))]):=by
  have hm:¬(gi.ck=gi.dp):=by decide
  have dF:∀s:Option aG,dS 1 0 [some (.obj .ck 1 (cz p es pre c)),s]=some (.ck,cz p es pre c):=λs=>rfl;unfold Al;cases e with
  |line z w=>
   have x:=afc wp hw he.1 av aL;have q:=dr (bl "line") (bl "line");simp! [ix,cH,q,iv,cZ,dF,x]
  |code f d z=>
   have x:=afe wp hw he av aL;have aP:=dr (bl "code") (bl "line");have ba:=dr (bl "code") (bl "code");simp! [Mp,cH,aP,ba,iv,cZ,dF,x]
  |ec n=>
   have x:=aeo wp hw he.1 av aL;have aP:=dr (bl "ticks") (bl "line");have ba:=dr (bl "ticks") (bl "code");simp! [Mp,cH,aP,ba,iv,cZ,dF,x]
 unfold qe runM;show Option.bind (Al [some (.obj .ck 1 (cz p es pre c)),some (.ae (cH e))]) _=_;rw[fin];simp[jL,kG]
def U5(wp:Wp p)(hw:a3 p c){e:cJ}(he:vl p e)(av:es.length<10000)(aL:pre.length<10000){ε:Ev}{i:Nat}{md:gi}(hm:md≠.dp)(h:ε[i]?=some (some (.obj md 1 (cz p es pre c)))){f:bE}(hf:f ε=some (cH e)):
  r6 1 qe [] i [f] ε=some (.tuple ((c5 p c e).told.map hq),ε.set i (some (.obj md 1 (cz p (es++[e]) (pre++[c]) (c5 p c e))))):=by
 have ab:dS 1 i ε=some (md,cz p es pre c):=by simp[dS,h]
 simp only[r6,ab,de,if_neg hm,args,hf,gd,dC,hO,vL,ag1 wp hw he av aL];rfl
def sA(pre:List aM)(c:aM):aM:=(pre++[c]).headD c
def PQ(av:es.length<10000):nO [.obj .dp 1 (cz p es pre c)]=some (.tuple (es.map cH)):=by
 have b6:es.length<=big:=by unfold big;omega
 have az:AE [some (.obj .dp 1 (cz p es pre c))]=some (.dj (.tuple (es.map cH))):=by
  unfold AE;simp[cU,bH,args,fld,dS,cz,fM,b6]
 unfold nO g6;show Option.bind (AE [some (.obj .dp 1 (cz p es pre c))]) _=_;rw[az];rfl
def PI(x:T)(xs:List T):a0 (.list (x::xs)) (.int 0)=some x:=by
 have h:(0:Int)<(((x::xs).length:Nat):Int):=by simp only[gK];omega
 simp only[a0,fG,gY,Int.le_refl,if_true,if_pos h];rfl
def af_(wp:Wp p)(c4:a3 p (sA pre c))(he:∀e∈es,g4 p e)(av:es.length<=1000):qg [.obj .dp 1 (cz p es pre c)]=some (.tuple ((run p (fresh (sA pre c)) es).told.map gV)):=by
 have xs:=O0 p (sA pre c) es c4 wp he av;have G4:=PQ (p:=p) (pre:=pre) (c:=c) (es:=es) (by omega);have dg:ao a0 (fld 1 0 2) (ai (.int 0)) [some (.obj .dp 1 (cz p es pre c))]=some (d8 (sA pre c)):=by
  have d1:fld 1 0 2 [some (.obj .dp 1 (cz p es pre c))]=some (.list ((pre++[c]).map d8)):=by
   simp[fld,dS,cz]
  unfold ao;rw[d1];have fx:ai (.int 0) [some (.obj .dp 1 (cz p es pre c))]=some (.int 0):=rfl;rw[fx];simp only[de];cases pre with
  |nil=>exact PI _ _
  |cons x pre=>exact PI _ _
 have az:AF [some (.obj .dp 1 (cz p es pre c))]=some (.dj (.tuple ((run p (fresh (sA pre c)) es).told.map gV))):=by
  have dF:dS 1 0 [some (.obj .dp 1 (cz p es pre c))]=some (.dp,cz p es pre c):=rfl;unfold AF;simp only[cU,bH,args,A' (i:=0) (ε:=[some (.obj .dp 1 (cz p es pre c))]) rfl,dg,eM,dF,de,gd,hO,G4,xs]
 unfold qg g6;show Option.bind (AF [some (.obj .dp 1 (cz p es pre c))]) _=_;rw[az];rfl
end
end iW
end
section
namespace iW
open D bY
open PySem hiding run fresh code
local instance:cV:=⟨[],λ_=>[],λ_=>none⟩
noncomputable def chain(p:aY):aM->List cJ->List aM
|_,[]=>[]
|c,e::es=>c::chain p (c5 p c e) es
def hc(p:aY)(c:aM)(es:List cJ):aM:=es.foldl (c5 p) c
noncomputable def mW(p:aY):aM->List cJ->List (Int×Str×Option Str)
|_,[]=>[]
|c,e::es=>(c5 p c e).told++mW p (c5 p c e) es
def agL{p:aY}{c:aM}(hw:a3 p c){e:cJ}(he:g4 p e):a3 p (c5 p c e):=hw.fresh.gH he
theorem Qr{p:aY}:∀{es:List cJ} {c:aM},a3 p c->(∀e∈es,g4 p e)->a3 p (hc p c es)
| [],_,h,_=>h
|e::es,c,h,he=>Qr (es:=es) (agL h (he e (by simp))) λy bI=>he y (d6 _ bI)
theorem Nv(p:aY):∀(xs ys:List cJ) (c:aM),chain p c (xs++ys)=chain p c xs++chain p (hc p c xs) ys
| [],ys,c=>rfl
|x::xs,ys,c=>by
  show c::chain p (c5 p c x) (xs++ys)=c::(chain p (c5 p c x) xs++chain p (hc p (c5 p c x) xs) ys)
  rw[Nv p xs ys]
def adC(p:aY)(xs ys:List cJ)(c:aM):hc p c (xs++ys)=hc p (hc p c xs) ys:=by simp[hc]
theorem OK(p:aY):∀(xs:List cJ) (c:aM),(chain p c xs).length=xs.length
| [],c=>rfl
|x::xs,c=>by simp[chain,OK p xs]
def Pe(p:aY):∀(xs:List cJ) (c:aM),sA (chain p c xs) (hc p c xs)=c
| [],c=>rfl
|x::xs,c=>rfl
theorem OB(p:aY):∀(es:List cJ) (c:aM),fresh (hc p c es)=fresh (run p (fresh c) es)
| [],c=>rfl
|e::es,c=>by
  have b9:=OB p es (c5 p c e);have h:=IS (c5 p c e).past (c5 p c e).told p es (fresh (c5 p c e));rw[<- O7] at h;show fresh (hc p (c5 p c e) es)=fresh (run p (c5 p c e) es);rw[b9,h];rfl
theorem Ic(p:aY):∀(es:List cJ) (c:aM),(mW p c es).map (·.2)=((run p (fresh c) es).told).map (·.2)
| [],c=>rfl
|e::es,c=>by
  have b9:=Ic p es (c5 p c e);have h:=IS (c5 p c e).past (c5 p c e).told p es (fresh (c5 p c e));rw[<- O7] at h;show (((c5 p c e).told++mW p (c5 p c e) es).map (·.2))=((run p (c5 p c e) es).told).map (·.2);rw[h,List.map_append,b9];show _=(((c5 p c e).told++(run p (fresh (c5 p c e)) es).told.map (vx (c5 p c e).past))).map (·.2);rw[List.map_append,nH];rfl
end iW
end
section
namespace Jn
open D bY iW
end Jn
end
section
namespace iW
open D bY Jn
open PySem hiding run fresh code
local instance:cV:=⟨[],λ_=>[],λ_=>none⟩
def Qs{p:aY}{e:cJ}(h:kF p e):vl p e:=by
 refine⟨h.ok,?_⟩
 cases e with
|line _ _=>trivial
|ec _=>trivial
|code f d z=>
  intro x hx;rcases h.2 with ⟨_,q⟩|⟨_,y,q,bI⟩
  ·rw[q] at hx;cases hx
  ·rw[q] at hx;cases hx;exact bI
def ad3{ws:List (Int×Str×Option Str)}(h:∀w∈ws,cn w.2.1/\∀n,w.2.2=some n->cn n):okN 2 (.tuple (ws.map hq)):=k9 λx hx=>by
 obtain⟨w,hw,rfl⟩:=et.mp hx;exact aeQ 0 (h w hw).1 (h w hw).2
def acX{p:aY}{c d:aM}(h:fresh c=fresh d):c.mode=d.mode/\c.left=d.left/\c.fb=d.fb/\c.lines=d.lines/\d8 c=d8 d/\IA p c=IA p d:=by
 have aH:(fresh c).mode=(fresh d).mode:=congrArg aM.mode h;have aS:(fresh c).left=(fresh d).left:=congrArg aM.left h;have fJ:(fresh c).fb=(fresh d).fb:=congrArg aM.fb h;have hT:(fresh c).lines=(fresh d).lines:=congrArg aM.lines h;have sq:d8 (fresh c)=d8 (fresh d):=congrArg d8 h;have pv:c.lines=d.lines:=hT;exact⟨aH,aS,fJ,hT,sq,by unfold IA;rw[pv]⟩
def afd{p:aY}(wp:Wp p)(fg:p.cA.length<=40):qc [.obj .ck 1 [],.ae (bu p)]=some (.none,cz p [] [] (dt p)):=by
 have dv:=Pm p fg wp;have abH:(1:Nat)<=big:=by unfold big;omega
 have az:zU [some (.obj .ck 1 []),some (.ae (bu p))]=some (.bQ [some (.obj .ck 1 (cz p [] [] (dt p))),some (.ae (bu p))]):=by
  unfold zU;refine tE (ε':=[some (.obj .ck 1 [.ae (bu p)]),some (.ae (bu p))]) rfl ?_;refine tE (ε':=[some (.obj .ck 1 [.ae (bu p),.own []]),some (.ae (bu p))]) ?_ ?_
  ·simp[jm,fO,args,gJ,dS]
  ·simp[jm,fO,args,gJ,dS,bH,aN,dv,abH,cz]
 unfold qc runM;show Option.bind (zU [some (.obj .ck 1 []),some (.ae (bu p))]) _=_;rw[az];simp[jL]
def aez{j:Int}(h0:0<=j)(ab:j<=1000):qj j=true:=by
 unfold qj;simp;omega
def agT{f:bE}{ε:Ev}{j:Int}(h:f ε=some (.int j))(h0:0<=j)(ab:j<=1000):ji f ε=some (km 0 j):=by
 unfold ji;rw[h];simp only[de];rw[if_pos (aez h0 ab)]
def wJ{a:bE}{ε:Ev}{v:Bool}(h:a ε=some (.bool v)):bO a ε=some v:=by
 unfold bO;rw[h];rfl
def t5{o:T->T->Option T}{a b:bE}{ε:Ev}{x y z:T}(ax:a ε=some x)(aa:b ε=some y)(h:o x y=some z):ao o a b ε=some z:=by
 unfold ao;rw[ax,aa];exact h
section
variable {p:aY}{es:List cJ}{pre:List aM}{c:aM}{ε:Ev}{i:Nat}{md:gi}
def Mf(d:List aG->Option T)(h:ε[i]?=some (some (.obj md 1 (cz p es pre c)))):eM 1 d i [] ε=d [.obj .dp 1 (cz p es pre c)]:=by
 have ab:dS 1 i ε=some (md,cz p es pre c):=by simp[dS,h]
 simp only[eM,ab,de,args,hO]
end
def agI{p:aY}{e:cJ}(aq:∀z∈p.cA,cn z.1/\cn z.2)(h:vl p e):okN 1 (cH e):=by
 have Bb:∀z,z∈p.cA.map (·.1)->cn z:=λz hm=>by
  obtain⟨x,hx,rfl⟩:=et.mp hm;exact (aq x hx).1
 cases e with
|line z w=>
  have eR:cn w:=by rcases h.1.2 with q|q|q <;> (rw[q];exact bl _)
  exact k9 λx hx=>by
   simp only[cM,mL,or_false] at hx;rcases hx with rfl|rfl|rfl
   ·exact kx 0 (bl "line")
   ·exact kx 0 (Bb z h.1.1)
   ·exact kx 0 eR
|code f d z=>
  have eZ:cn d:=by rcases h.1.2.1 with q|q|q|q <;> (rw[q];exact bl _)
  exact k9 λx hx=>by
   simp only[cM,mL,or_false] at hx;rcases hx with rfl|rfl|rfl|rfl
   ·exact kx 0 (bl "code")
   ·exact kx 0 h.1.1
   ·exact kx 0 eZ
   ·exact A5 0 λy bI=>Bb y (h.2 y bI)
|ec n=>
  exact k9 λx hx=>by
   simp only[cM,mL,or_false] at hx;rcases hx with rfl|rfl
   ·exact kx 0 (bl "ticks")
   ·exact rQ 0 n
end iW
end
section
namespace n1
open D bY iW
open PySem hiding run fresh code
local instance:cV:=⟨[],λ_=>[],λ_=>none⟩
abbrev dK(p:aY)(xs:List cJ):List aG:=cz p xs (iW.chain p (dt p) xs) (hc p (dt p) xs)
def af8(p:aY)(xs:List cJ)(e:cJ):cz p (xs++[e]) (iW.chain p (dt p) xs++[hc p (dt p) xs]) (c5 p (hc p (dt p) xs) e)=dK p (xs++[e]):=by
 unfold dK;rw[Nv,adC];rfl
def ew(p:aY)(xs:List cJ):T:=.tuple ((mW p (dt p) xs).map hq)
theorem Oi(p:aY)(e:cJ):∀(xs:List cJ) (c:aM),mW p c (xs++[e])=mW p c xs++(c5 p (hc p c xs) e).told
| [],c=>by simp[mW,hc]
|x::xs,c=>by
  show (c5 p c x).told++mW p (c5 p c x) (xs++[e])=((c5 p c x).told++mW p (c5 p c x) xs)++(c5 p (hc p (c5 p c x) xs) e).told
  rw[Oi p e xs,vK]
def aeE{p:aY}(aL:gR p){xs:List cJ}(h:∀e∈xs,kF p e):(mW p (dt p) xs).length<=50*xs.length:=by
 have ab:=congrArg List.length (Ic p xs (dt p));rw[gc,gc] at ab;have ak:=wu aL.begun.fresh λe he=>(h e he).ok;have bF:(fresh (dt p)).told.length=0:=rfl;omega
def A7{xs:List T}{i:Nat}{t:T}(e:xs[i]?=some t):fG xs (i:Nat)=some t:=by
 have av:i<xs.length:=(ed.mp e).1;unfold fG;rw[gY,if_pos (by omega),if_pos (by omega),de,Int.toNat_natCast];exact e
def sV(rs:List (List cJ)):T:=.list (rs.map λr=>.tuple (r.map cH))
abbrev eC(ns:List Int)(p q:aY)(rs:List (List cJ))(ts:List T)(cW eS pU hl fa:Option aG):Ev:=[some (.ae (fC ns)),some (.ae (bu p)),some (.ae (bu q)),some (.ae (.tuple [bu p,bu q,bu p])),some (.ae (sV rs)),none,some (.own ts),cW,eS,pU,hl,fa]
def Ls{rs:List (List cJ)}{k:Nat}{r:List cJ}(h:rs[k]?=some r):a0 (sV rs) (.int (k:Nat))=some (.tuple (r.map cH)):=A7 (by rw[ho,h];rfl)
noncomputable def b6:bB:=(iff (bO (ao oLt (nm 7) (bH hj [(ao a0 (nm 4) (nm 8))]))) (vo 6 (aN 8) (rj da (t2 (ao a0 (nm 6) (nm 8))) (r6 1 qe [] 9 [(ao a0 (ao a0 (nm 4) (nm 8)) (nm 7))]))) skip)
def Ji(ns:List Int)(p q:aY)(rs:List (List cJ))(ts:List T)(t k:Nat)(bt:aY)(r:List cJ)(hl fa:Option aG)(aI:rs[k]?=some r)(bg:ts[k]?=some (ew bt (r.take t)))(aL:gR bt)(he:∀e∈r,kF bt e)(av:r.length<=12):
  b6 (eC ns p q rs ts (some (.ae (.int (t:Nat)))) (some (.ae (.int (k:Nat)))) (some (.obj .own 1 (dK bt (r.take t)))) hl fa)=some (.bQ (eC ns p q rs (ts.set k (ew bt (r.take (t+1)))) (some (.ae (.int (t:Nat)))) (some (.ae (.int (k:Nat)))) (some (.obj .own 1 (dK bt (r.take (t+1))))) hl fa)):=by
 have DT:k<ts.length:=(ed.mp bg).1;have b1:(ao a0 (nm 4) (nm 8)) (eC ns p q rs ts (some (.ae (.int (t:Nat)))) (some (.ae (.int (k:Nat)))) (some (.obj .own 1 (dK bt (r.take t)))) hl fa)=some (.tuple (r.map cH)):=Ls aI;have b_:(bH hj [(ao a0 (nm 4) (nm 8))]) (eC ns p q rs ts (some (.ae (.int (t:Nat)))) (some (.ae (.int (k:Nat)))) (some (.obj .own 1 (dK bt (r.take t)))) hl fa)=some (.int (r.length:Nat)):=by
  simp only[bH,args,b1,de,gd,hj,gc]
 have dc:(bO (ao oLt (nm 7) (bH hj [(ao a0 (nm 4) (nm 8))]))) (eC ns p q rs ts (some (.ae (.int (t:Nat)))) (some (.ae (.int (k:Nat)))) (some (.obj .own 1 (dK bt (r.take t)))) hl fa)=some (decide (t<r.length)):=wJ (t5 (x:=.int (t:Nat)) rfl b_ (by
  show some (PyData.bool (decide ((t:Int)<(r.length:Int))))=_
  simp))
 unfold b6;rw[iff_eq dc];by_cases d2:t<r.length
 ·rw[decide_eq_true d2,if_pos rfl];have dg:r[t]?=some r[t]:=h6 d2;have e7:=he r[t] (List.getElem_mem d2);have hx:∀e∈r.take t,kF bt e:=λe h=>he e (List.mem_of_mem_take h);have Lf:r.take (t+1)=r.take t++[r[t]]:=by rw[List.take_succ,dg];rfl
  have j0:(r.take t).length<=12:=by rw[List.length_take];omega
  have nx:(ao a0 (ao a0 (nm 4) (nm 8)) (nm 7)) (eC ns p q rs ts (some (.ae (.int (t:Nat)))) (some (.ae (.int (k:Nat)))) (some (.obj .own 1 (dK bt (r.take t)))) hl fa)=some (cH r[t]):=t5 (y:=.int (t:Nat)) b1 rfl (A7 (by rw[ho,dg];rfl));have hw:a3 bt (hc bt (dt bt) (r.take t)):=Qr aL.begun λe h=>(hx e h).ok;have cl:=OK bt (r.take t) (dt bt);have sJ:=U5 aL.wp hw (Qs e7) (es:=r.take t) (pre:=iW.chain bt (dt bt) (r.take t)) (by omega) (by omega) (i:=9) (md:=.own) (by decide) rfl nx;rw[af8,<- Lf] at sJ;have cI:=aeE aL hx;have ah4:=HA hw.fresh r[t];have t0:(fresh (hc bt (dt bt) (r.take t))).told.length=0:=rfl;have q':(ao a0 (nm 6) (nm 8)) (eC ns p q rs ts (some (.ae (.int (t:Nat)))) (some (.ae (.int (k:Nat)))) (some (.obj .own 1 (dK bt (r.take t)))) hl fa)=some (ew bt (r.take t)):=A7 bg;have vc:da (ew bt (r.take t)) (.tuple ((c5 bt (hc bt (dt bt) (r.take t)) r[t]).told.map hq))=some (ew bt (r.take (t+1))):=by
   have b:((mW bt (dt bt) (r.take t)).map hq).length+((c5 bt (hc bt (dt bt) (r.take t)) r[t]).told.map hq).length<=big:=by
    rw[gc,gc];unfold c5 big;omega
   unfold ew;simp only[da];rw[if_pos b,Lf,Oi,List.map_append]
  have vd:(rj da (t2 (ao a0 (nm 6) (nm 8))) (r6 1 qe [] 9 [(ao a0 (ao a0 (nm 4) (nm 8)) (nm 7))])) (eC ns p q rs ts (some (.ae (.int (t:Nat)))) (some (.ae (.int (k:Nat)))) (some (.obj .own 1 (dK bt (r.take t)))) hl fa)=some (ew bt (r.take (t+1)),eC ns p q rs ts (some (.ae (.int (t:Nat)))) (some (.ae (.int (k:Nat)))) (some (.obj .own 1 (dK bt (r.take (t+1))))) hl fa):=by
   simp only[rj,t2,q',gd,de,sJ,vc];rfl
  unfold vo;rw[vd,de];show (if (0:Int)<=(k:Int)/\((k:Int)).toNat<ts.length then _ else _)=_;rw[if_pos ⟨by omega,by rw[Int.toNat_natCast];exact DT⟩,Int.toNat_natCast];rfl
 ·rw[decide_eq_false d2,if_neg ry];have t1:r.take t=r:=List.take_of_length_le (by omega);have mF:r.take (t+1)=r:=List.take_of_length_le (by omega);rw[t1] at bg ⊢;rw[mF];have az:ts.set k (ew bt r)=ts:=by
   obtain⟨ab,ak⟩:=ed.mp bg;rw[<- ak];exact List.set_getElem_self ab
  rw[az];rfl
def tL{b:bB}{ez rest:List (List aG)}{ar fs':List aG}{ε fE:Ev}(ab:isFree ε 9=true)(ak:8<ε.length)(aa:b ((ε.set 8 (some (.ae (.int ez.length)))).set 9 (some (.obj .own 1 ar)))=some (.bQ fE))(aJ:fE[9]?=some (some (.obj .own 1 fs')))(aL:mB (fE.set 9 none)=true):
  qt 8 9 1 b ez (ar::rest) ε=qt 8 9 1 b (ez++[fs']) rest (fE.set 9 none):=by
 rw[qt,if_pos ⟨ab,ak⟩,aa,de];simp only[aJ];rw[if_pos ⟨trivial,aL⟩]
noncomputable def kO(p q:aY)(aO a4 b5:List cJ)(t:Nat):List (List aG):=[dK p (aO.take t),dK q (a4.take t),dK p (b5.take t)]
noncomputable def jc(p q:aY)(aO a4 b5:List cJ)(t:Nat):List T:=[ew p (aO.take t),ew q (a4.take t),ew p (b5.take t)]
section
variable {ns:List Int}{p q:aY}{aO a4 b5:List cJ}(aL:gR p)(bK:gR q)(ab:∀e∈aO,kF p e)(ak:∀e∈a4,kF q e)(bF:∀e∈b5,kF p e)(b1:aO.length<=12)(b_:a4.length<=12)(nx:b5.length<=12)
include aL bK ab ak bF b1 b_ nx
def afj(t:Nat)(eS:Option aG):lC 8 9 1 b6 (kO p q aO a4 b5 t) (eC ns p q [aO,a4,b5] (jc p q aO a4 b5 t) (some (.ae (.int (t:Nat)))) eS none none none)=some (.bQ (kO p q aO a4 b5 (t+1)) (eC ns p q [aO,a4,b5] (jc p q aO a4 b5 (t+1)) (some (.ae (.int (t:Nat)))) (some (.ae (.int (2:Nat)))) none none none)):=by
 have a1:=Ji ns p q [aO,a4,b5] (jc p q aO a4 b5 t) t 0 p aO none none rfl rfl aL ab b1;have a2:=Ji ns p q [aO,a4,b5] ((jc p q aO a4 b5 t).set 0 (ew p (aO.take (t+1)))) t 1 q a4 none none rfl rfl bK ak b_;have i2:=Ji ns p q [aO,a4,b5] (((jc p q aO a4 b5 t).set 0 (ew p (aO.take (t+1)))).set 1 (ew q (a4.take (t+1)))) t 2 p b5 none none rfl rfl aL bF nx;unfold lC kO;rw[tL (fs':=dK p (aO.take (t+1))) rfl (by simp) a1 rfl rfl];rw[tL (fs':=dK q (a4.take (t+1))) rfl (by simp) a2 rfl rfl];rw[tL (fs':=dK p (b5.take (t+1))) rfl (by simp) i2 rfl rfl];rfl
theorem OY:∀(m t:Nat) (cW eS:Option T),∃kZ u8:Option T,ro 7 (lC 8 9 1 b6) ((List.range' t m).map λi=>.int (i:Nat)) (kO p q aO a4 b5 t) (eC ns p q [aO,a4,b5] (jc p q aO a4 b5 t) (cW.map .ae) (eS.map .ae) none none none)=some (.bQ (kO p q aO a4 b5 (t+m)) (eC ns p q [aO,a4,b5] (jc p q aO a4 b5 (t+m)) (kZ.map .ae) (u8.map .ae) none none none))
|0,t,cW,eS=>⟨cW,eS,rfl⟩
|m+1,t,cW,eS=>by
  obtain⟨kZ,u8,b9⟩:=OY m (t+1) (some (.int (t:Nat))) (some (.int (2:Nat)));refine⟨kZ,u8,?_⟩;rw[List.range'_succ,dC,ro,if_pos (by simp)];have GW:=afj (ns:=ns) aL bK ab ak bF b1 b_ nx t (eS.map .ae);show Option.bind (lC 8 9 1 b6 (kO p q aO a4 b5 t) (eC ns p q [aO,a4,b5] (jc p q aO a4 b5 t) (some (.ae (.int (t:Nat)))) (eS.map .ae) none none none)) _=_;rw[GW,de];have:t+(m+1)=t+1+m:=by omega
  rw[this];exact b9
end
noncomputable def cm:bB:=(seq (asg 10 (ao a0 (nm 3) (nm 8))) (seq (asg 11 (bH oZ [(aN 10),(bH j8 [(aN 10)]),(ao a0 (nm 4) (nm 8))])) (seq (iff (e0 (bO (ao g0 (eM 1 mO 9 []) (bH rT [(aN 10),(bH j8 [(aN 10)]),(ao a0 (nm 4) (nm 8))]))) (e0 (bO (ao g0 (eM 1 qg 9 []) (nm 11))) (bO (ao g0 (eM 1 nO 9 []) (ao a0 (nm 4) (nm 8)))))) (cU (ai (.bool false))) skip) (iff (bO (ao g0 (ao a0 (nm 6) (nm 8)) (bH fM [(comp 3 [] (eN (aN 11)) (eg [(b2 0),(b2 1),(b2 2)]) (en true) (bV [(aN 1),(aN 2)]))]))) (cU (ai (.bool false))) skip))))
def QJ{a b:fm}{ε:Ev}(h:a ε=some false)(ak:b ε=some false):e0 a b ε=some false:=by simp[e0,h,ak]
def Jh(ns:List Int)(p q:aY)(rs:List (List cJ))(ts:List T)(k:Nat)(bt:aY)(r:List cJ)(cW hl fa:Option aG)(aI:rs[k]?=some r)(Wl:a0 (.tuple [bu p,bu q,bu p]) (.int (k:Nat))=some (bu bt))(bg:ts[k]?=some (ew bt r))(aL:gR bt)(he:∀e∈r,kF bt e)(av:r.length<=12):
  ∃abM abN,cm (eC ns p q rs ts cW (some (.ae (.int (k:Nat)))) (some (.obj .own 1 (dK bt r))) hl fa)=some (.bQ (eC ns p q rs ts cW (some (.ae (.int (k:Nat)))) (some (.obj .own 1 (dK bt r))) (some (.ae abM)) (some (.ae abN)))):=by
 have ok:∀e∈r,g4 bt e:=λe h=>(he e h).ok;have wp:=aL.wp;have ta:=aL.begun;have aq:bt.cA.length<=40:=by have:=aL.fg;omega
 have dv:=Pm bt aq wp;have xs:=O0 bt (dt bt) r ta wp ok (by omega);have aiv:=afh bt (dt bt) r ta wp ok (by omega);have MF:=cN.run (cN.fresh (dt bt)) ta.fresh ok;have wr:=ta.fresh.run ok;have x1:=acX (p:=bt) (OB bt r (dt bt));have j0:=wu ta.fresh ok;have t0:(fresh (dt bt)).told.length=0:=rfl;have gk:=af_ (p:=bt) (es:=r) (pre:=iW.chain bt (dt bt) r) (c:=hc bt (dt bt) r) wp (by rw[Pe];exact ta) ok (by omega);rw[Pe] at gk;have fs:=PQ (p:=bt) (es:=r) (pre:=iW.chain bt (dt bt) r) (c:=hc bt (dt bt) r) (by omega);have b1:∀hl fa,(ao a0 (nm 4) (nm 8)) (eC ns p q rs ts cW (some (.ae (.int (k:Nat)))) (some (.obj .own 1 (dK bt r))) hl fa)=some (.tuple (r.map cH)):=λ_ _=>Ls aI;have q':∀hl fa,(ao a0 (nm 6) (nm 8)) (eC ns p q rs ts cW (some (.ae (.int (k:Nat)))) (some (.obj .own 1 (dK bt r))) hl fa)=some (ew bt r):=λ_ _=>A7 bg;have LC:∀fa,(bH j8 [(aN 10)]) (eC ns p q rs ts cW (some (.ae (.int (k:Nat)))) (some (.obj .own 1 (dK bt r))) (some (.ae (bu bt))) fa)=some (d8 (dt bt)):=λ_=>by
  simp only[bH,args,aN,oO,nG,de,gd,dv]
 have ls:∀fa,(bH oZ [(aN 10),(bH j8 [(aN 10)]),(ao a0 (nm 4) (nm 8))]) (eC ns p q rs ts cW (some (.ae (.int (k:Nat)))) (some (.obj .own 1 (dK bt r))) (some (.ae (bu bt))) fa)=some (.tuple ((run bt (fresh (dt bt)) r).told.map gV)):=λfa=>by
  have nv:aN 10 (eC ns p q rs ts cW (some (.ae (.int (k:Nat)))) (some (.obj .own 1 (dK bt r))) (some (.ae (bu bt))) fa)=some (bu bt):=rfl;show Option.bind (args [(aN 10),(bH j8 [(aN 10)]),(ao a0 (nm 4) (nm 8))] _) _=_;simp only[args,nv,LC,b1,de,gd,xs]
 have hi:∀fa,(bH rT [(aN 10),(bH j8 [(aN 10)]),(ao a0 (nm 4) (nm 8))]) (eC ns p q rs ts cW (some (.ae (.int (k:Nat)))) (some (.obj .own 1 (dK bt r))) (some (.ae (bu bt))) fa)=some (d8 (run bt (fresh (dt bt)) r)):=λfa=>by
  have nv:aN 10 (eC ns p q rs ts cW (some (.ae (.int (k:Nat)))) (some (.obj .own 1 (dK bt r))) (some (.ae (bu bt))) fa)=some (bu bt):=rfl;show Option.bind (args [(aN 10),(bH j8 [(aN 10)]),(ao a0 (nm 4) (nm 8))] _) _=_;simp only[args,nv,LC,b1,de,gd,aiv]
 refine⟨bu bt,.tuple ((run bt (fresh (dt bt)) r).told.map gV),?_⟩
 unfold cm;refine qi (t:=bu bt) Wl ?_;simp only[jI,je];refine qi (t:=.tuple ((run bt (fresh (dt bt)) r).told.map gV)) (ls _) ?_;simp only[jI,je];have ms:eM 1 mO 9 [] (eC ns p q rs ts cW (some (.ae (.int (k:Nat)))) (some (.obj .own 1 (dK bt r))) (some (.ae (bu bt))) (some (.ae (.tuple ((run bt (fresh (dt bt)) r).told.map gV)))))=some (d8 (run bt (fresh (dt bt)) r)):=by
  rw[IB (i:=9) rfl,x1.2.2.2.2.1]
 have X0:eM 1 qg 9 [] (eC ns p q rs ts cW (some (.ae (.int (k:Nat)))) (some (.obj .own 1 (dK bt r))) (some (.ae (bu bt))) (some (.ae (.tuple ((run bt (fresh (dt bt)) r).told.map gV)))))=some (.tuple ((run bt (fresh (dt bt)) r).told.map gV)):=by
  rw[Mf qg (i:=9) rfl,gk]
 have X1:eM 1 nO 9 [] (eC ns p q rs ts cW (some (.ae (.int (k:Nat)))) (some (.obj .own 1 (dK bt r))) (some (.ae (bu bt))) (some (.ae (.tuple ((run bt (fresh (dt bt)) r).told.map gV)))))=some (.tuple (r.map cH)):=by
  rw[Mf nO (i:=9) rfl,fs]
 refine ae5 (QJ (wJ (t5 ms (hi _) (AI (aeT wr)))) (QJ (wJ (t5 X0 rfl (AI (aeR MF)))) (wJ (t5 X1 (b1 _ _) (AI (d:=2) (k9 λt bg=>by
  obtain⟨e,hm,rfl⟩:=et.mp bg;exact agI aL.i_ (Qs (he e hm)))))))) ?_
 have Tg:(comp 3 [] (eN (aN 11)) (eg [(b2 0),(b2 1),(b2 2)]) (en true) (bV [(aN 1),(aN 2)])) (eC ns p q rs ts cW (some (.ae (.int (k:Nat)))) (some (.obj .own 1 (dK bt r))) (some (.ae (bu bt))) (some (.ae (.tuple ((run bt (fresh (dt bt)) r).told.map gV)))))=some (.list ((run bt (fresh (dt bt)) r).told.map hq)):=by
  unfold comp;rw[show eN (aN 11) (eC ns p q rs ts cW (some (.ae (.int (k:Nat)))) (some (.obj .own 1 (dK bt r))) (some (.ae (bu bt))) (some (.ae (.tuple ((run bt (fresh (dt bt)) r).told.map gV)))))=some ((run bt (fresh (dt bt)) r).told.map gV) from rfl,de,if_pos (by rw[gc];unfold big;omega)];show (fW _ _ _ _ [none,none,none]).map _=_;rw[I8];rfl
 have Mj:ew bt r=.tuple ((run bt (fresh (dt bt)) r).told.map hq):=by
  have h:=Ic bt r (dt bt);have ak:=congrArg (List.map λx:Str×Option Str=>(PyData.tuple [.str x.1,eG x.2]:T)) h;rw[nH,nH] at ak;unfold ew;exact congrArg PyData.tuple ak
 have tp:(bH fM [(comp 3 [] (eN (aN 11)) (eg [(b2 0),(b2 1),(b2 2)]) (en true) (bV [(aN 1),(aN 2)]))]) (eC ns p q rs ts cW (some (.ae (.int (k:Nat)))) (some (.obj .own 1 (dK bt r))) (some (.ae (bu bt))) (some (.ae (.tuple ((run bt (fresh (dt bt)) r).told.map gV)))))=some (ew bt r):=by
  rw[Mj];simp only[bH,args,Tg,de,gd,fM]
 have ux:(bO (ao g0 (ao a0 (nm 6) (nm 8)) (bH fM [(comp 3 [] (eN (aN 11)) (eg [(b2 0),(b2 1),(b2 2)]) (en true) (bV [(aN 1),(aN 2)]))]))) (eC ns p q rs ts cW (some (.ae (.int (k:Nat)))) (some (.obj .own 1 (dK bt r))) (some (.ae (bu bt))) (some (.ae (.tuple ((run bt (fresh (dt bt)) r).told.map gV)))))=some false:=by
  refine wJ (t5 (q' _ _) tp ?_)
  rw[Mj];exact AI (ad3 λw hw=>MF w hw)
 rw[iff_eq ux];rfl
def ae1(ns:List Int)(h:ns.length<=63):aih [fC ns]=some (.bool true):=by
 obtain⟨m0,ahX,x0⟩:=wz ns 0;obtain⟨lM,ahY,aR⟩:=wz ns 1;obtain⟨kV,q1,b4⟩:=wz ns 2;obtain⟨rd,Wa,d5⟩:=wz ns 3;obtain⟨XU,Wb,p0⟩:=wz ns 4;obtain⟨p,aL,xp⟩:=Py m0;obtain⟨q,bK,xq⟩:=Py lM;obtain⟨aO,ab,b1,MK⟩:=IU aL kV 12 q1 (by omega);obtain⟨a4,ak,b_,te⟩:=IU bK rd 12 Wa (by omega);obtain⟨b5,bF,nx,ML⟩:=IU aL XU 12 Wb (by omega);have Ly:aO.length<=12:=by omega
 have Lz:a4.length<=12:=by omega
 have LA:b5.length<=12:=by omega
 have zp:p.cA.length<=40:=by have:=aL.fg;omega
 have zq:q.cA.length<=40:=by have:=bK.fg;omega
 suffices az:QO [some (.ae (fC ns)),none,none,none,none,none,none,none,none,none,none,none]=some (.dj (.bool true)) by
  unfold aih eI;simp only[dC,hO,gK,p8,List.cons_append,vL];exact congrArg (λo=>Option.bind o _) az
 show (seq _ (seq _ (seq _ (seq _ (wQ 5 1 (eN (aN 3)) (ou 1 qc [(aN 0)])
  (oA (uo 6 (fO [(bV []),(bV []),(bV [])]))
  (oA (sX 7 (ji (ai (.int 12))) (lC 8 9 1 b6)) (oA (lC 8 9 1 cm) (λ_ ε=>((ai (.bool true)) ε).map .dj)))))))) ) _=_
 refine qi (t:=bu p) (by
  simp! [eA] at x0 ⊢;simp[x0,xp]) ?_
 simp only[jI,je];refine qi (t:=bu q) (by
  simp! [eA] at aR ⊢;simp[aR,xq]) ?_
 simp only[jI,je];refine qi (t:=.tuple [bu p,bu q,bu p]) (by simp! [eA,mR]) ?_;simp only[jI,je];refine qi (t:=sV [aO,a4,b5]) ?_ ?_
 ·have aaf:(bH o1 [(aN 1),(bH mQ [(aN 2),(ao da (ai (.int 2)) (nm 0))]),(ai (.int 12))]) [some (.ae (.int (0:Nat))),some (.ae (bu p)),some (.ae (fC ns))]=some (.tuple (aO.map cH)):=by
   simp! [eA,da] at b4 MK ⊢;simp[b4,MK]
  have aag:(bH o1 [(aN 1),(bH mQ [(aN 2),(ao da (ai (.int 2)) (nm 0))]),(ai (.int 12))]) [some (.ae (.int (1:Nat))),some (.ae (bu q)),some (.ae (fC ns))]=some (.tuple (a4.map cH)):=by
   simp! [eA,da] at d5 te ⊢;simp[d5,te]
  have aah:(bH o1 [(aN 1),(bH mQ [(aN 2),(ao da (ai (.int 2)) (nm 0))]),(ai (.int 12))]) [some (.ae (.int (2:Nat))),some (.ae (bu p)),some (.ae (fC ns))]=some (.tuple (b5.map cH)):=by
   simp! [eA,da] at p0 ML ⊢;simp[p0,ML]
  unfold comp;rw[show ky (kA (aN 3)) [some (.ae (fC ns)),some (.ae (bu p)),some (.ae (bu q)),some (.ae (.tuple [bu p,bu q,bu p])),none,none,none,none,none,none,none,none]=some [.tuple [.int (0:Nat),bu p],.tuple [.int (1:Nat),bu q],.tuple [.int (2:Nat),bu p]] from rfl,de,if_pos (by simp[big])];show (fW _ _ _ _ [none,none,some (.ae (fC ns))]).map _=_;have cl:fW (eg [(b2 0),(b2 1)]) (en true) (bH o1 [(aN 1),(bH mQ [(aN 2),(ao da (ai (.int 2)) (nm 0))]),(ai (.int 12))]) [.tuple [.int (0:Nat),bu p],.tuple [.int (1:Nat),bu q],.tuple [.int (2:Nat),bu p]] [none,none,some (.ae (fC ns))]=some [.tuple (aO.map cH),.tuple (a4.map cH),.tuple (b5.map cH)]:=by
   simp only[fW,eg,gm,b2,en,de,je,jI,if_true,aaf,aag,aah,gd]
  rw[cl];rfl
 simp only[jI,je];unfold wQ;rw[show eN (aN 3) [some (.ae (fC ns)),some (.ae (bu p)),some (.ae (bu q)),some (.ae (.tuple [bu p,bu q,bu p])),some (.ae (sV [aO,a4,b5])),none,none,none,none,none,none,none]=some [bu p,bu q,bu p] from rfl,de];have Lr:∀{p:aY} (ε:Ev),gR p->ou 1 qc [(aN 0)] (some (.ae (bu p))::none::ε)=some (.obj .own 1 (dK p [])):=λ{p} ε h=>by
  have:=afd h.wp (by have:=h.fg;omega);simp only[ou,args,aN,nG,de,gd,dC,hO,this];rfl
 have mk:pM 1 (ou 1 qc [(aN 0)]) [bu p,bu q,bu p] [some (.ae (fC ns)),some (.ae (bu p)),some (.ae (bu q)),some (.ae (.tuple [bu p,bu q,bu p])),some (.ae (sV [aO,a4,b5])),none,none,none,none,none,none,none]=some (kO p q aO a4 b5 0):=by
  simp only[pM,Lr _ aL,Lr _ bK,de,if_true,gd];rfl
 rw[mk,de,if_pos ⟨by simp[big],rfl,by simp⟩];have s1:uo 6 (fO [(bV []),(bV []),(bV [])]) (kO p q aO a4 b5 0) ([some (.ae (fC ns)),some (.ae (bu p)),some (.ae (bu q)),some (.ae (.tuple [bu p,bu q,bu p])),some (.ae (sV [aO,a4,b5])),none,none,none,none,none,none,none].set 5 none)=some (.bQ (kO p q aO a4 b5 0) (eC ns p q [aO,a4,b5] (jc p q aO a4 b5 0) none none none none none)):=rfl;obtain⟨kZ,u8,GW⟩:=OY (ns:=ns) aL bK ab ak bF Ly Lz LA 12 0 none none;have s2:sX 7 (ji (ai (.int 12))) (lC 8 9 1 b6) (kO p q aO a4 b5 0) (eC ns p q [aO,a4,b5] (jc p q aO a4 b5 0) none none none none none)=some (.bQ (kO p q aO a4 b5 (0+12)) (eC ns p q [aO,a4,b5] (jc p q aO a4 b5 (0+12)) (kZ.map .ae) (u8.map .ae) none none none)):=by
  unfold sX;rw[agT (j:=12) rfl (by omega) (by omega),de];exact GW
 have dg:kO p q aO a4 b5 (0+12)=[dK p aO,dK q a4,dK p b5]:=by
  unfold kO;rw[List.take_of_length_le (by omega),List.take_of_length_le (by omega),List.take_of_length_le (by omega)]
 have d1:jc p q aO a4 b5 (0+12)=[ew p aO,ew q a4,ew p b5]:=by
  unfold jc;rw[List.take_of_length_le (by omega),List.take_of_length_le (by omega),List.take_of_length_le (by omega)]
 rw[dg,d1] at s2;obtain⟨uh,ui,a1⟩:=Jh ns p q [aO,a4,b5] [ew p aO,ew q a4,ew p b5] 0 p aO (kZ.map .ae) none none rfl rfl rfl aL ab Ly;obtain⟨uv,uw,a2⟩:=Jh ns p q [aO,a4,b5] [ew p aO,ew q a4,ew p b5] 1 q a4 (kZ.map .ae) (some (.ae uh)) (some (.ae ui)) rfl rfl rfl bK ak Lz;obtain⟨Uc,Ud,i2⟩:=Jh ns p q [aO,a4,b5] [ew p aO,ew q a4,ew p b5] 2 p b5 (kZ.map .ae) (some (.ae uv)) (some (.ae uw)) rfl rfl rfl aL bF LA;have s3:lC 8 9 1 cm [dK p aO,dK q a4,dK p b5] (eC ns p q [aO,a4,b5] [ew p aO,ew q a4,ew p b5] (kZ.map .ae) (u8.map .ae) none none none)=some (.bQ [dK p aO,dK q a4,dK p b5] (eC ns p q [aO,a4,b5] [ew p aO,ew q a4,ew p b5] (kZ.map .ae) (some (.ae (.int (2:Nat)))) none (some (.ae Uc)) (some (.ae Ud)))):=by
  unfold lC;rw[tL (fs':=dK p aO) rfl (by simp) a1 rfl (by cases kZ <;> rfl)];rw[tL (fs':=dK q a4) rfl (by simp) a2 rfl (by cases kZ <;> rfl)];rw[tL (fs':=dK p b5) rfl (by simp) i2 rfl (by cases kZ <;> rfl)];rfl
 simp only[oA,s1,s2,s3,de];rfl
end n1
end
end
section
namespace n1
open PySem PySem.Spec PyProof.Rows bc D bY iW
set_option hygiene false in
local macro_rules | `(unop% lk ($f, $hH, $eZ, $n, $q, $s, $a, $b, $c, $d, $e, $g, $h)) => `(K.lookup $f = some ⟨$hH, $eZ, .func (p1 $n $q (tM $s) (jg $s) (cb $s) .none $a $b $c $d $e $g), $h⟩)
set_option hygiene false in
local macro_rules | `(binop% cd $c $q) => `(PySem.W.codeIn K $c $q = true)
set_option hygiene false in
local macro_rules | `(unop% aD $c) => `(mI K (.ref $c) = true)
set_option hygiene false in
local macro_rules | `(unop% eY $c) => `(PySem.W.isFn K (.ref $c) = true)
set_option hygiene false in
local macro_rules | `(binop% ns $q $c) => `(PySem.W.nsIn K j2 $q = some (some (.ref $c)))
set_option hygiene false in
local macro_rules | `(unop% zn $q) => `(PySem.W.nsIn K j2 $q = some none)
set_option hygiene false in
local macro_rules | `(unop% fn ($C, $q, $c)) => `(k1 K (.ref $C) $q = some (some (.ref $c)))
set_option hygiene false in
local macro_rules | `(binop% jw $C $q) => `(k1 K (.ref $C) $q = some none)
local macro_rules | `(unop% mo $x) => `(($x).mono (by decide))
set_option hygiene false in
local macro_rules | `(unop% bJ ($f $n $as*)) => `($f (P := l.prog) (w := w) (mg := mg) (base := base) (k := $n) $as*)
def all_mk{l:PySem.W.OpenLaw}{w:cv}{K:a_}{h:bT}{mg:Str->Option aj}{cy bo c_ f1 f2 hW f4 hX Dq Dr f8 xZ xr Df xt xu xv ais xx Dg xy xA xB xC xD xE xF xG xH xI xJ Dh xK xM xN xO xP Di Dj xQ xR Dk xS xT Dl Dm xU xV xW xX xY Dn Dp si sh sg:ah}{Y3 Si Zc Su Zn SH Zy SU ZK S6 ZM S7 ZN S8 ZO S9 ZP S_ Y4 Sj Y5 Sk Y6 Sl Y7 Sm Y8 Sn Y9 So Y_ Sp Y' Sq Za Sr Zb Ss Zd Sv Ze Sw Zf Sx Zg Sy Zh Sz Zi SA Zj SD Zk SE Zl SF Zm SG Zo SI Zp SJ Zq SK Zr SM Zs SN Zt SO Zu SP Zv SQ Zw SR Zx SS Zz SV ZA SW ZC SX ZD SY ZE S0 ZF S1 ZG S2 ZH S3 ZI S4 ZJ S5 ZL JJ ZS ZR ZQ:Option ah}{aam ko aaH aaS aa3 aa5 aa6 aa7 aa8 aan aao aap aaq aar aas aat aau aav aaw aax aay aaz aaA aaB aaC aaD aaE aaF aaG aaI aaJ aaK aaL aaM aaN aaO aaP aaQ aaR aaT aaU aaV aaW aaX aaY aaZ aa0 aa1 aa2 aa4 aa' aa_ aa9:Array (Option aj)}{Yf WZ Ug Z0 JN Th Yq W' Ur Z' JY Tv YB Xk UC _l J9 TK YM Xv UO _w Ki TX YX XG U0 _H Kt T9 YZ XH U1 _I Ku T_ Y0 XI U2 _J Kv T' Y1 XJ U3 _K Kw Ua Y2 XK U4 _L Kx Ub Yg W0 Uh Z1 JO Ti Yh W2 Ui Z2 JP Tj Yi W3 Uj Z3 JQ Tn Yj W4 Uk Z4 JR To Yk W5 Ul Z5 JS Tp Yl W6 Um Z6 JT Tq Ym W7 Un Z7 JU Tr Yn W8 Uo Z8 JV Ts Yo W9 Up Z9 JW Tt Yp W_ Uq Z_ JX Tu Yr Xa Us _a JZ Tw Ys Xb Ut _b J0 Tx Yt Xc Uu _c J1 Tz Yu Xd Uv _d J2 TA Yv Xe Uw _e J3 TB Yw Xf Ux _g J4 TC Yx Xg Uy _h J5 TF Yy Xh Uz _i J6 TG Yz Xi UA _j J7 TH YA Xj UB _k J8 TJ YC Xl UD _m J_ TL YD Xm UE _n J' TM YE Xn UG _o Ka TN YF Xo UH _p Kb TO YG Xp UI _q Kc TP YH Xq UJ _r Kd TQ YI Xr UK _s Ke TR YJ Xs UL _t Kf TS YK Xt UM _u Kg TU YL Xu UN _v Kh TV YN Xw UP _x Kj TY YO Xx UQ _y Kk TZ YP Xy UR _z Kl T1 YQ Xz US _A Km T2 YR XA UT _B Kn T3 YS XB UU _C Ko T4 YT XC UW _D Kp T5 YU XD UX _E Kq T6 YV XE UY _F Kr T7 YW XF UZ _G Ks T8 YY Lw KG L' C2 KD:aj}{GS GR abE abF abB abC aby abz:Tok}{X7 X6 X5:Nat}(X:K.In h)(G:h.Ns j2 mg)(VR:mg "law"=some (.ref cy))(Ci:binop%ns "Course" bo)(Gk:PySem.W.plainGet K bo Str.empty=true)(DH:PySem.W.hasDictIn K bo=true)(Gm:PySem.W.plainOver K bo=true)(GH:k1 K (.ref bo) "__setattr__"=some (some (.builtin "object.__setattr__")))(FQ:PySem.W.makesIn K bo=true)(E0:unop%aD bo)(FY:binop%jw bo "plan")(FZ:binop%jw bo "mode")(F3:binop%jw bo "left")(F4:binop%jw bo "came")(F5:binop%jw bo "lines")(F6:binop%jw bo "shunts")(F7:binop%jw bo "siren")(F8:binop%jw bo "alarms")(F9:binop%jw bo "tries")(F_:binop%jw bo "locked")(F0:binop%jw bo "used")(F1:binop%jw bo "past")(F2:binop%jw bo "told")(Cg:binop%ns "Box" c_)(Gj:PySem.W.plainGet K c_ Str.empty=true)(DG:PySem.W.hasDictIn K c_=true)(Gl:PySem.W.plainOver K c_=true)(GG:k1 K (.ref c_) "__setattr__"=some (some (.builtin "object.__setattr__")))(FP:PySem.W.makesIn K c_=true)(EZ:unop%aD c_)(FV:binop%jw c_ "plan")(FW:binop%jw c_ "events")(FX:binop%jw c_ "states")(a1:binop%ns "_law_drawn" f1)(b1:unop%lk (f1,Yf,Y3,"_law_drawn","_law_drawn",As,WZ,Ug,Z0,Si,JN,Th,aam))(dc:binop%cd JN "_law_drawn")(eQ:unop%aD f1)(a2:binop%ns "_law_plan" f2)(b_:unop%lk (f2,Yq,Zc,"_law_plan","_law_plan",wt,W',Ur,Z',Su,JY,Tv,ko))(dP:binop%cd JY "_law_plan")(dN:unop%aD f2)(i2:binop%ns "_law_cell_at" hW)(nx:unop%lk (hW,YB,Zn,"_law_cell_at","_law_cell_at",z4,Xk,UC,_l,SH,J9,TK,aaH))(e5:binop%cd J9 "_law_cell_at")(oq:unop%aD hW)(uj:binop%ns "_law_mixed" f4)(sJ:unop%lk (f4,YM,Zy,"_law_mixed","_law_mixed",Aq,Xv,UO,_w,SU,Ki,TX,aaS))(fH:binop%cd Ki "_law_mixed")(kU:unop%aD f4)(uk:binop%ns "_law_event" hX)(q':unop%lk (hX,YX,ZK,"_law_event","_law_event",Ar,XG,U0,_H,S6,Kt,T9,aa3))(iG:binop%cd Kt "_law_event")(ES:unop%aD hX)(um:binop%ns "_law_row" Dq)(vc:unop%lk (Dq,YZ,ZM,"_law_row","_law_row",wF,XH,U1,_I,S7,Ku,T_,aa5))(CZ:binop%cd Ku "_law_row")(EU:unop%aD Dq)(Cd:binop%ns "begun" Dr)(vd:unop%lk (Dr,Y0,ZN,"begun","begun",tH,XI,U2,_J,S8,Kv,T',aa6))(C0:binop%cd Kv "begun")(EV:unop%aD Dr)(Ce:unop%fn (c_,"__init__",f8))(EG:unop%eY f8)(FI:unop%lk (f8,Y1,ZO,"__init__","Box.__init__",zT,XJ,U3,_K,S9,Kw,Ua,aa7))(C1:binop%cd Kw "Box.__init__")(EW:unop%aD f8)(Cf:unop%fn (bo,"__init__",xZ))(EH:unop%eY xZ)(FJ:unop%lk (xZ,Y2,ZP,"__init__","Course.__init__",aib,XK,U4,_L,S_,Kx,Ub,aa8))(ux:binop%cd Kx "Course.__init__")(EX:unop%aD xZ)(uh:unop%fn (bo,"tell",xr))(Ea:unop%eY xr)(E1:unop%lk (xr,Yg,Y4,"tell","Course.tell",zV,W0,Uh,Z1,Sj,JO,Ti,aan))(uv:binop%cd JO "Course.tell")(yn:unop%aD xr)(ui:binop%ns "kind_of" Df)(E2:unop%lk (Df,Yh,Y5,"kind_of","kind_of",Au,W2,Ui,Z2,Sk,JP,Tj,aao))(uw:binop%cd JP "kind_of")(EI:unop%aD Df)(BB:unop%fn (bo,"be_loud",xt))(i12:unop%eY xt)(E3:unop%lk (xt,Yi,Y6,"be_loud","Course.be_loud",zJ,W3,Uj,Z3,Sl,JQ,Tn,aap))(Cm:binop%cd JQ "Course.be_loud")(yo:unop%aD xt)(BC:unop%fn (bo,"alarm",xu))(Eb:unop%eY xu)(E4:unop%lk (xu,Yj,Y7,"alarm","Course.alarm",zS,W4,Uk,Z4,Sm,JR,To,aaq))(Cn:binop%cd JR "Course.alarm")(yp:unop%aD xu)(BD:unop%fn (bo,"come_in",xv))(Ec:unop%eY xv)(E5:unop%lk (xv,Yk,Y8,"come_in","Course.come_in",zI,W5,Ul,Z5,Sn,JS,Tp,aar))(Co:binop%cd JS "Course.come_in")(yq:unop%aD xv)(BE:unop%fn (bo,"disturb",ais))(Ed:unop%eY ais)(E6:unop%lk (ais,Yl,Y9,"disturb","Course.disturb",zH,W6,Um,Z6,So,JT,Tq,aas))(Cp:binop%cd JT "Course.disturb")(yr:unop%aD ais)(BF:unop%fn (bo,"line",xx))(Ee:unop%eY xx)(E7:unop%lk (xx,Ym,Y_,"line","Course.line",zW,W7,Un,Z7,Sp,JU,Tr,aat))(Cq:binop%cd JU "Course.line")(yt:unop%aD xx)(BG:binop%ns "code_of" Dg)(E8:unop%lk (Dg,Yn,Y',"code_of","code_of",Av,W8,Uo,Z8,Sq,JV,Ts,aau))(Cr:binop%cd JV "code_of")(EJ:unop%aD Dg)(BH:unop%fn (bo,"is_used_up",xy))(Ef:unop%eY xy)(E9:unop%lk (xy,Yo,Za,"is_used_up","Course.is_used_up",zB,W9,Up,Z9,Sr,JW,Tt,aav))(Cs:binop%cd JW "Course.is_used_up")(yu:unop%aD xy)(BI:unop%fn (bo,"take_wrong",xA))(Eg:unop%eY xA)(E_:unop%lk (xA,Yp,Zb,"take_wrong","Course.take_wrong",zz,W_,Uq,Z_,Ss,JX,Tu,aaw))(Ct:binop%cd JX "Course.take_wrong")(yv:unop%aD xA)(BJ:unop%fn (bo,"is_untimely",xB))(Eh:unop%eY xB)(E':unop%lk (xB,Yr,Zd,"is_untimely","Course.is_untimely",zx,Xa,Us,_a,Sv,JZ,Tw,aax))(Cu:binop%cd JZ "Course.is_untimely")(yw:unop%aD xB)(BK:unop%fn (bo,"bare_zones",xC))(Ei:unop%eY xC)(Fb:unop%lk (xC,Ys,Ze,"bare_zones","Course.bare_zones",tl,Xb,Ut,_b,Sw,J0,Tx,aay))(Cv:binop%cd J0 "Course.bare_zones")(yx:unop%aD xC)(BL:unop%fn (bo,"what_is_against",xD))(Ej:unop%eY xD)(Fc:unop%lk (xD,Yt,Zf,"what_is_against","Course.what_is_against",zw,Xc,Uu,_c,Sx,J1,Tz,aaz))(Cw:binop%cd J1 "Course.what_is_against")(yy:unop%aD xD)(BM:unop%fn (bo,"end_leaving",xE))(Ek:unop%eY xE)(Fd:unop%lk (xE,Yu,Zg,"end_leaving","Course.end_leaving",zy,Xd,Uv,_d,Sy,J2,TA,aaA))(Cx:binop%cd J2 "Course.end_leaving")(yz:unop%aD xE)(BN:unop%fn (bo,"do_set",xF))(El:unop%eY xF)(Fe:unop%lk (xF,Yv,Zh,"do_set","Course.do_set",zM,Xe,Uw,_e,Sz,J3,TB,aaB))(Cy:binop%cd J3 "Course.do_set")(yA:unop%aD xF)(BO:unop%fn (bo,"do_unset",xG))(Em:unop%eY xG)(Ff:unop%lk (xG,Yw,Zi,"do_unset","Course.do_unset",zF,Xf,Ux,_g,SA,J4,TC,aaC))(Cz:binop%cd J4 "Course.do_unset")(yB:unop%aD xG)(BP:unop%fn (bo,"do_deed",xH))(En:unop%eY xH)(Fg:unop%lk (xH,Yx,Zj,"do_deed","Course.do_deed",zG,Xg,Uy,_h,SD,J5,TF,aaD))(CA:binop%cd J5 "Course.do_deed")(yC:unop%aD xH)(BQ:unop%fn (bo,"take_right",xI))(Eo:unop%eY xI)(Fh:unop%lk (xI,Yy,Zk,"take_right","Course.take_right",zA,Xh,Uz,_i,SE,J6,TG,aaE))(CB:binop%cd J6 "Course.take_right")(yD:unop%aD xI)(BR:unop%fn (bo,"code",xJ))(Ep:unop%eY xJ)(Fi:unop%lk (xJ,Yz,Zl,"code","Course.code",zX,Xi,UA,_j,SF,J7,TH,aaF))(CC:binop%cd J7 "Course.code")(yE:unop%aD xJ)(BS:binop%ns "lessened" Dh)(Fj:unop%lk (Dh,YA,Zm,"lessened","lessened",Ae,Xj,UB,_k,SG,J8,TJ,aaG))(CD:binop%cd J8 "lessened")(EK:unop%aD Dh)(BU:unop%fn (bo,"count_down",xK))(Er:unop%eY xK)(Fl:unop%lk (xK,YC,Zo,"count_down","Course.count_down",zD,Xl,UD,_m,SI,J_,TL,aaI))(CE:binop%cd J_ "Course.count_down")(yF:unop%aD xK)(BV:unop%fn (bo,"end_coming",xM))(Es:unop%eY xM)(Fm:unop%lk (xM,YD,Zp,"end_coming","Course.end_coming",zC,Xm,UE,_n,SJ,J',TM,aaJ))(CF:binop%cd J' "Course.end_coming")(yG:unop%aD xM)(BW:unop%fn (bo,"end_time",xN))(Et:unop%eY xN)(Fn:unop%lk (xN,YE,Zq,"end_time","Course.end_time",zE,Xn,UG,_o,SK,Ka,TN,aaK))(CG:binop%cd Ka "Course.end_time")(yH:unop%aD xN)(BX:unop%fn (bo,"ticks",xO))(Eu:unop%eY xO)(Fo:unop%lk (xO,YF,Zr,"ticks","Course.ticks",zQ,Xo,UH,_p,SM,Kb,TO,aaL))(CH:binop%cd Kb "Course.ticks")(yI:unop%aD xO)(BY:unop%fn (bo,"happen",xP))(Ew:unop%eY xP)(Fp:unop%lk (xP,YG,Zs,"happen","Course.happen",zL,Xp,UI,_q,SN,Kc,TP,aaM))(CI:binop%cd Kc "Course.happen")(yJ:unop%aD xP)(BZ:binop%ns "course_of" Di)(Fq:unop%lk (Di,YH,Zt,"course_of","course_of",z5,Xq,UJ,_r,SO,Kd,TQ,aaN))(CJ:binop%cd Kd "course_of")(EL:unop%aD Di)(B0:binop%ns "story" Dj)(Fs:unop%lk (Dj,YI,Zu,"story","story",AP,Xr,UK,_s,SP,Ke,TR,aaO))(CK:binop%cd Ke "story")(EM:unop%aD Dj)(B1:unop%fn (c_,"state",xQ))(Ex:unop%eY xQ)(Ft:unop%lk (xQ,YJ,Zv,"state","Box.state",z7,Xs,UL,_t,SQ,Kf,TS,aaP))(CL:binop%cd Kf "Box.state")(yK:unop%aD xQ)(B2:unop%fn (bo,"state",xR))(Ey:unop%eY xR)(Fu:unop%lk (xR,YK,Zw,"state","Course.state",zR,Xt,UM,_u,SR,Kg,TU,aaQ))(CM:binop%cd Kg "Course.state")(yL:unop%aD xR)(B3:binop%ns "after" Dk)(Fv:unop%lk (Dk,YL,Zx,"after","after",AQ,Xu,UN,_v,SS,Kh,TV,aaR))(CN:binop%cd Kh "after")(EN:unop%aD Dk)(B4:unop%fn (c_,"row",xS))(Ez:unop%eY xS)(Fw:unop%lk (xS,YN,Zz,"row","Box.row",Aw,Xw,UP,_x,SV,Kj,TY,aaT))(CO:binop%cd Kj "Box.row")(yM:unop%aD xS)(B5:unop%fn (c_,"log",xT))(EA:unop%eY xT)(Fx:unop%lk (xT,YO,ZA,"log","Box.log",Ax,Xx,UQ,_y,SW,Kk,TZ,aaU))(CP:binop%cd Kk "Box.log")(yN:unop%aD xT)(B6:binop%ns "words" Dl)(Fy:unop%lk (Dl,YP,ZC,"words","words",wD,Xy,UR,_z,SX,Kl,T1,aaV))(CQ:binop%cd Kl "words")(EO:unop%aD Dl)(B7:binop%ns "gone" Dm)(Fz:unop%lk (Dm,YQ,ZD,"gone","gone",A0,Xz,US,_A,SY,Km,T2,aaW))(CR:binop%cd Km "gone")(EP:unop%aD Dm)(B8:unop%fn (c_,"happen",xU))(EB:unop%eY xU)(FA:unop%lk (xU,YR,ZE,"happen","Box.happen",zY,XA,UT,_B,S0,Kn,T3,aaX))(CS:binop%cd Kn "Box.happen")(yO:unop%aD xU)(B9:unop%fn (c_,"ticks",xV))(EC:unop%eY xV)(FC:unop%lk (xV,YS,ZF,"ticks","Box.ticks",z6,XB,UU,_C,S1,Ko,T4,aaY))(CT:binop%cd Ko "Box.ticks")(yP:unop%aD xV)(B_:unop%fn (c_,"need_zone",xW))(ED:unop%eY xW)(FD:unop%lk (xW,YT,ZG,"need_zone","Box.need_zone",zN,XC,UW,_D,S2,Kp,T5,aaZ))(CU:binop%cd Kp "Box.need_zone")(yQ:unop%aD xW)(B':unop%fn (c_,"line",xX))(EE:unop%eY xX)(FE:unop%lk (xX,YU,ZH,"line","Box.line",Ag,XD,UX,_E,S3,Kq,T6,aa0))(CV:binop%cd Kq "Box.line")(yR:unop%aD xX)(Ca:unop%fn (c_,"code",xY))(EF:unop%eY xY)(FF:unop%lk (xY,YV,ZI,"code","Box.code",Ah,XE,UY,_F,S4,Kr,T7,aa1))(CW:binop%cd Kr "Box.code")(yS:unop%aD xY)(Cb:binop%ns "_law_box_do" Dn)(FG:unop%lk (Dn,YW,ZJ,"_law_box_do","_law_box_do",Af,XF,UZ,_G,S5,Ks,T8,aa2))(CX:binop%cd Ks "_law_box_do")(ER:unop%aD Dn)(Cc:binop%ns "law" Dp)(FH:unop%lk (Dp,YY,ZL,"law","law",nT,Lw,KG,L',JJ,C2,KD,aa4))(CY:binop%cd C2 "law")(ET:unop%aD Dp)(lb:unop%zn "enumerate")(ff:unop%zn "tuple")(lg:unop%zn "range")(jn:unop%zn "len")(qn:unop%zn "dict")(qo:unop%zn "list")(qp:unop%zn "zip")(rV:unop%zn "sorted")(rU:unop%zn "max")(qV:PySem.W.nsIn K j2 "WRONG_IN_A_ROW"=some (some (.int 3 GS)))(qU:PySem.W.nsIn K j2 "TICKS_LOCKED"=some (some (.int 90 GR)))(uL:binop%ns "KINDS_SHUT_TO_SET" si)(Gr:K.lookup si=some ⟨.type "tuple",ZS,.seq #[.str "day" abE,.str "once" abF] X7,aa'⟩)(uK:binop%ns "KINDS_LEFT_BY" sh)(Gq:K.lookup sh=some ⟨.type "tuple",ZR,.seq #[.str "inner" abB,.str "way" abC] X6,aa_⟩)(uJ:binop%ns "DEEDS_OF_ZONES" sg)(Gp:K.lookup sg=some ⟨.type "tuple",ZQ,.seq #[.str "shunt" aby,.str "free" abz] X5,aa9⟩):
  ∃fd:fU,(∀(s:aK) (v:aj),BindsTo s fd ⟨[v],[]⟩ [("_law_script",v)])/\∀base:bT,K.In base->base.Ns j2 mg->eT l.prog w K mg base fh 16 cy fd ["_law_script"] (@spT t0 K 1 aih):=by
 have e:=VR.symm.trans (gL X G Cc);cases e;refine⟨p1 "law" "law" (tM nT) (jg nT) (cb nT) .none Lw KG L' JJ C2 KD,λs v=>.of_eq rfl,λbase _ _=>?_⟩;letI tt:cV:=⟨[],λc=>match c with|0=>["plan","mode","left","came","lines","shunts","siren","alarms","tries","locked","used","past","told"]|1=>["plan","events","states"]|_=>[],λc=>match c with|0=>some bo|1=>some c_|_=>none⟩;have aW:fv K 0 bo ["plan","mode","left","came","lines","shunts","siren","alarms","tries","locked","used","past","told"]:=⟨rfl,rfl,⟨Gk,DH,Gm,GH⟩,by decide +kernel,λf hf=>by
  simp only[cM,mL,or_false] at hf;rcases hf with rfl|rfl|rfl|rfl|rfl|rfl|rfl|rfl|rfl|rfl|rfl|rfl|rfl
  ·exact FY
  ·exact FZ
  ·exact F3
  ·exact F4
  ·exact F5
  ·exact F6
  ·exact F7
  ·exact F8
  ·exact F9
  ·exact F_
  ·exact F0
  ·exact F1
  ·exact F2,by decide⟩
 have dy:fv K 1 c_ ["plan","events","states"]:=⟨rfl,rfl,⟨Gj,DG,Gl,GG⟩,by decide +kernel,λf hf=>by
  simp only[cM,mL,or_false] at hf;rcases hf with rfl|rfl|rfl
  ·exact FV
  ·exact FW
  ·exact FX,by decide⟩
 replace lb:=oH X G lb;replace ff:=oH X G ff;replace lg:=oH X G lg;replace jn:=oH X G jn;replace qn:=oH X G qn;replace qo:=oH X G qo;replace qp:=oH X G qp;replace rV:=oH X G rV;replace rU:=oH X G rU;replace qV:=gL X G qV;replace qU:=gL X G qU;replace uL:=gL X G uL;have abL:∃(o:Obj) (its:Array aj) (n:Nat),K.lookup si=some o/\o.cls=.type "tuple"/\o.data=.seq its n/\its.size<=cp/\Vals ((["day","once"]:List Str).map V.str) its.toList:=⟨_,_,_,Gr,rfl,rfl,by show 2<=cp;decide,(.cons ⟨_,rfl⟩ (.cons ⟨_,rfl⟩ .nil))⟩;replace uK:=gL X G uK;have abK:∃(o:Obj) (its:Array aj) (n:Nat),K.lookup sh=some o/\o.cls=.type "tuple"/\o.data=.seq its n/\its.size<=cp/\Vals ((["inner","way"]:List Str).map V.str) its.toList:=⟨_,_,_,Gq,rfl,rfl,by show 2<=cp;decide,(.cons ⟨_,rfl⟩ (.cons ⟨_,rfl⟩ .nil))⟩;replace uJ:=gL X G uJ;have abJ:∃(o:Obj) (its:Array aj) (n:Nat),K.lookup sg=some o/\o.cls=.type "tuple"/\o.data=.seq its n/\its.size<=cp/\Vals ((["shunt","free"]:List Str).map V.str) its.toList:=⟨_,_,_,Gp,rfl,rfl,by show 2<=cp;decide,(.cons ⟨_,rfl⟩ (.cons ⟨_,rfl⟩ .nil))⟩;have aX:=dB (st:=As) b1 dc eQ;have Jw:=unop%bJ (rM 0 aX (gL X G a1));have dR:=dB (st:=wt) b_ dP dN;have Rn:=unop%bJ (AL 1 dR (gL X G a2) lb (unop%mo Jw) ff lg);have gw:=dB (st:=z4) nx e5 oq;have Rk:=unop%bJ (HB 0 gw (gL X G i2) jn);have kH:=dB (st:=Aq) sJ fH kU;have Rm:=unop%bJ (wo 1 kH (gL X G uj) (unop%mo Rk));have jq:=dB (st:=Ar) q' iG ES;have Rl:=unop%bJ (H3 0 jq (gL X G uk) jn);have R7:=dB (st:=wF) vc CZ EU;have Ro:=unop%bJ (II 1 R7 (gL X G um) ff (unop%mo Rl) jn lg (unop%mo Jw));have jr:=dB (st:=tH) vd C0 EV;have Jv:=unop%bJ (aif 0 jr (gL X G Cd) ff);have js:=dB (st:=zT) FI C1 EW;have QU:=unop%bJ (acs 1 js ⟨FP,Ce,EG,EZ⟩ (gL X G Cg) dy (unop%mo Jv));have R8:=dB (st:=aib) FJ ux EX;have QZ:=unop%bJ (ab' 0 R8 ⟨FQ,Cf,EH,E0⟩ (gL X G Ci) aW qn qo qp);have Rr:=dB (st:=zV) E1 uv yn;have l5:=unop%bJ (gv 0 Rr (⟨uh,Ea,yn⟩) aW);have Rt:=dB (st:=Au) E2 uw EI;have Bn:=unop%bJ (rN 0 Rt (gL X G ui));have Ru:=dB (st:=zJ) E3 Cm yo;have Js:=unop%bJ (vX 0 Ru (⟨BB,i12,yo⟩) aW);have Rv:=dB (st:=zS) E4 Cn yp;have w2:=unop%bJ (nL 1 Rv (⟨BC,Eb,yp⟩) aW (unop%mo Js) (unop%mo l5));have Rw:=dB (st:=zI) E5 Co yq;have Q1:=unop%bJ (Hk 2 Rw (⟨BD,Ec,yq⟩) aW (unop%mo l5) (unop%mo w2));have Rx:=dB (st:=zH) E6 Cp yr;have Q3:=unop%bJ (Hj 3 Rx (⟨BE,Ed,yr⟩) aW (unop%mo Bn) (unop%mo w2) (unop%mo l5) (unop%mo Q1));have Ry:=dB (st:=zW) E7 Cq yt;have Ra:=unop%bJ (Hv 4 Ry (⟨BF,Ee,yt⟩) aW (unop%mo l5) (unop%mo Q3));have Rz:=dB (st:=Av) E8 Cr EJ;have Rh:=unop%bJ (H4 0 Rz (gL X G BG));have RA:=dB (st:=zB) E9 Cs yu;have Q':=unop%bJ (G' 0 RA (⟨BH,Ef,yu⟩) aW);have RB:=dB (st:=zz) E_ Ct yv;have Rc:=unop%bJ (G9 1 RB (⟨BI,Eg,yv⟩) aW (unop%mo l5) (unop%mo Js) qV qU);have RC:=dB (st:=zx) E' Cu yw;have Q_:=unop%bJ (G8 1 RC (⟨BJ,Eh,yw⟩) aW (unop%mo Bn));have RD:=dB (st:=tl) Fb Cv yx;have Jr:=unop%bJ (vT 0 RD (⟨BK,Ei,yx⟩) aW)
 have RE:=dB (st:=zw) Fc Cw yy;have Rf:=unop%bJ (G7 2 RE (⟨BL,Ej,yy⟩) aW (unop%mo Q_) (unop%mo Jr) uL abL);have RF:=dB (st:=zy) Fd Cx yz;have Jt:=unop%bJ (vQ 2 RF (⟨BM,Ek,yz⟩) aW (unop%mo l5) (unop%mo Jr) (unop%mo w2) uK abK);have RG:=dB (st:=zM) Fe Cy yA;have Q5:=unop%bJ (Hm 3 RG (⟨BN,El,yA⟩) aW (unop%mo l5) (unop%mo Jt));have RH:=dB (st:=zF) Ff Cz yB;have Q6:=unop%bJ (Hf 1 RH (⟨BO,Em,yB⟩) aW (unop%mo l5));have RI:=dB (st:=zG) Fg CA yC;have Q4:=unop%bJ (Hi 4 RI (⟨BP,En,yC⟩) aW (unop%mo Q5) (unop%mo Q6) rV (unop%mo l5));have RJ:=dB (st:=zA) Fh CB yD;have Rb:=unop%bJ (G_ 5 RJ (⟨BQ,Eo,yD⟩) aW (unop%mo Rf) (unop%mo Q4) (unop%mo l5));have RK:=dB (st:=zX) Fi CC yE;have Q0:=unop%bJ (Hw 6 RK (⟨BR,Ep,yE⟩) aW (unop%mo Rh) (unop%mo l5) (unop%mo Q') (unop%mo Rc) (unop%mo Rb));have RL:=dB (st:=Ae) Fj CD EK;have Rp:=unop%bJ (wg 0 RL (gL X G BS) rU);have RM:=dB (st:=zD) Fl CE yF;have Q2:=unop%bJ (vS 1 RM (⟨BU,Er,yF⟩) aW (unop%mo Rp));have RN:=dB (st:=zC) Fm CF yG;have Q7:=unop%bJ (Ha 2 RN (⟨BV,Es,yG⟩) aW (unop%mo w2));have RO:=dB (st:=zE) Fn CG yH;have Q8:=unop%bJ (He 3 RO (⟨BW,Et,yH⟩) aW (unop%mo Jt) (unop%mo Q7));have RP:=dB (st:=zQ) Fo CH yI;have Rd:=unop%bJ (Ho 4 RP (⟨BX,Eu,yI⟩) aW (unop%mo Q2) (unop%mo Q8));have RQ:=dB (st:=zL) Fp CI yJ;have Q9:=unop%bJ (Hl 7 RQ (⟨BY,Ew,yJ⟩) aW (unop%mo Ra) (unop%mo Q0) (unop%mo Rd));have RR:=dB (st:=z5) Fq CJ EL;have w3:=unop%bJ (oT 8 RR (gL X G BZ) aW (unop%mo QZ) (unop%mo Q9));have RS:=dB (st:=AP) Fs CK EM;have Jx:=unop%bJ (wI 10 RS (gL X G B0) aW ff (unop%mo w3));have RT:=dB (st:=z7) Ft CL yK;have Jq:=unop%bJ (tx 0 RT (⟨B1,Ex,yK⟩) dy);have RU:=dB (st:=zR) Fu CM yL;have Ju:=unop%bJ (v7 0 RU (⟨B2,Ey,yL⟩) aW ff);have RV:=dB (st:=AQ) Fv CN EN;have Rg:=unop%bJ (IJ 10 RV (gL X G B3) aW (unop%mo Ju) (unop%mo w3));have RW:=dB (st:=Aw) Fw CO yM;have Jp:=unop%bJ (wq 0 RW (⟨B4,Ez,yM⟩) dy ff);have RX:=dB (st:=Ax) Fx CP yN;have QX:=unop%bJ (H5 11 RX (⟨B5,EA,yN⟩) dy (unop%mo Jx) (unop%mo Jp));have RY:=dB (st:=wD) Fy CQ EO;have Rq:=unop%bJ (IH 10 RY (gL X G B6) aW ff (unop%mo w3));have RZ:=dB (st:=A0) Fz CR EP;have Ri:=unop%bJ (I9 10 RZ (gL X G B7) aW (unop%mo Ju) (unop%mo w3));have R0:=dB (st:=zY) FA CS yO;have Bm:=unop%bJ (rI 11 R0 (⟨B8,EB,yO⟩) dy (unop%mo Rq) (unop%mo Ri) (unop%mo Jq));have R1:=dB (st:=z6) FC CT yP;have QY:=unop%bJ (HC 12 R1 (⟨B9,EC,yP⟩) dy (unop%mo Bm));have R2:=dB (st:=zN) FD CU yQ;have Jo:=unop%bJ (v3 1 R2 (⟨B_,ED,yQ⟩) dy (unop%mo Bn));have R3:=dB (st:=Ag) FE CV yR;have QW:=unop%bJ (HL 12 R3 (⟨B',EE,yR⟩) dy (unop%mo Jo) (unop%mo Bm));have R4:=dB (st:=Ah) FF CW yS;have QV:=unop%bJ (HM 12 R4 (⟨Ca,EF,yS⟩) dy (unop%mo Bm) (unop%mo Jo) uJ abJ)
 have R5:=dB (st:=Af) FG CX ER;have Rj:=unop%bJ (HK 13 R5 (gL X G Cb) dy (unop%mo QY) (unop%mo QW) (unop%mo QV));have R6:=dB (st:=nT) FH CY ET;exact af3 rfl (ahD (k:=14) R6 dy (unop%mo Rn) lg lb (unop%mo Rm) (unop%mo Ro) (unop%mo QU) (unop%mo Jx) (unop%mo Jv) ff jn (unop%mo Jq) (unop%mo Rg) (unop%mo QX) (unop%mo Jp) (unop%mo Rj))
def walk{l:PySem.W.OpenLaw}{q:cF}{loose:List Str}{sf:(Str->Option aj)->bT->Prop}{pg:cv->bT->Prop}{d:DefRec}{K:Params->a_}(a7:l.most=some 63)(uQ:d.params.defaults=[])(hg:∀w:cv,LV (K w.params)=true)(DA:∀(w:cv) (h:bT),pg w h->(K w.params).In h)(F:∀(w:cv) (mg:Str->Option aj) (cy:ah) (h:bT),(K w.params).In h->h.Ns j2 mg->mg d.name=some (.ref cy) ->
   ∃fd:fU,(∀(s:aK) (u:aj),BindsTo s fd ⟨[u],[]⟩ [("_law_script",u)])/\∀base:bT,(K w.params).In base->base.Ns j2 mg->eT l.prog w (K w.params) mg base fh 16 cy fd ["_law_script"] (@spT t0 (K w.params) 1 aih)):
  PySem.W.WalkO q loose sf pg l.row.toRowW d [] (λf vs=>PySem.call f vs):=
 bc.abV (n:=63) (k:=16) (x:="_law_script") (dV:=λ_=>fh) (sp:=λw=>@spT t0 (K w.params) 1 aih) a7 (by decide) uQ ⟨rfl,by decide,by decide,rfl⟩ DA F (λw _ _ ns av _ eP=>adS (hg w) (ae1 ns av) eP) λ_ _ _ _ _ z=>z
end n1
open PySem PySem.W PyProof.Rows
set_option maxRecDepth 100000 in
set_option maxHeartbeats 0 in
theorem PySem.Challenge.cw_doorwatch_k45_whole_boxes_side_by_side_holds : PySem.Challenge.rw_doorwatch_k45_whole_boxes_side_by_side.Holds := by
 w_on;o_law;k_head;(case hw=>w_witness2)
 k_fill
 refine n1.walk (l:=PySem.Challenge.rw_doorwatch_k45_whole_boxes_side_by_side) rfl rfl ?L (λw h Y=>PySem.W.kIn_of Y) ?F
 case L=>
  intro w
  first|rfl|(with_unfolding_all rfl)|kernel_rfl
 case F=>
  intro w mg cy h m2 G uX;refine' n1.all_mk m2 G uX ?Ci ?Gk ?DH ?Gm ?GH ?FQ ?E0 ?FY ?FZ ?F3 ?F4 ?F5 ?F6 ?F7 ?F8 ?F9 ?F_ ?F0 ?F1 ?F2 ?Cg ?Gj ?DG ?Gl ?GG ?FP ?EZ ?FV ?FW ?FX ?a1 ?b1 ?dc ?eQ ?a2 ?b_ ?dP ?dN ?i2 ?nx ?e5 ?oq ?uj ?sJ ?fH ?kU ?uk ?q' ?iG ?ES ?um ?vc ?CZ ?EU ?Cd ?vd ?C0 ?EV ?Ce ?EG ?FI ?C1 ?EW ?Cf ?EH ?FJ ?ux ?EX ?uh ?Ea ?E1 ?uv ?yn ?ui ?E2 ?uw ?EI ?BB ?i12 ?E3 ?Cm ?yo ?BC ?Eb ?E4 ?Cn ?yp ?BD ?Ec ?E5 ?Co ?yq ?BE ?Ed ?E6 ?Cp ?yr ?BF ?Ee ?E7 ?Cq ?yt ?BG ?E8 ?Cr ?EJ ?BH ?Ef ?E9 ?Cs ?yu ?BI ?Eg ?E_ ?Ct ?yv ?BJ ?Eh ?E' ?Cu ?yw ?BK ?Ei ?Fb ?Cv ?yx ?BL ?Ej ?Fc ?Cw ?yy ?BM ?Ek ?Fd ?Cx ?yz ?BN ?El ?Fe ?Cy ?yA ?BO ?Em ?Ff ?Cz ?yB ?BP ?En ?Fg ?CA ?yC ?BQ ?Eo ?Fh ?CB ?yD ?BR ?Ep ?Fi ?CC ?yE ?BS ?Fj ?CD ?EK ?BU ?Er ?Fl ?CE ?yF ?BV ?Es ?Fm ?CF ?yG ?BW ?Et ?Fn ?CG ?yH ?BX ?Eu ?Fo ?CH ?yI ?BY ?Ew ?Fp ?CI ?yJ ?BZ ?Fq ?CJ ?EL ?B0 ?Fs ?CK ?EM ?B1 ?Ex ?Ft ?CL ?yK ?B2 ?Ey ?Fu ?CM ?yL ?B3 ?Fv ?CN ?EN ?B4 ?Ez ?Fw ?CO ?yM ?B5 ?EA ?Fx ?CP ?yN ?B6 ?Fy ?CQ ?EO ?B7 ?Fz ?CR ?EP ?B8 ?EB ?FA ?CS ?yO ?B9 ?EC ?FC ?CT ?yP ?B_ ?ED ?FD ?CU ?yQ ?B' ?EE ?FE ?CV ?yR ?Ca ?EF ?FF ?CW ?yS ?Cb ?FG ?CX ?ER ?Cc ?FH ?CY ?ET ?lb ?ff ?lg ?jn ?qn ?qo ?qp ?rV ?rU ?qV ?qU ?uL ?Gr ?uK ?Gq ?uJ ?Gp
  (case Ci|Gk|DH|Gm|GH|FQ|E0|FY|FZ|F3|F4|F5|F6|F7|F8|F9|F_|F0|F1|F2|Cg|Gj|DG|Gl|GG|FP|EZ|FV|FW=>k_is)
  (case FX|a1|b1|dc|eQ|a2|b_|dP|dN|i2|nx|e5|oq|uj|sJ|fH|kU|uk|q'|iG|ES|um|vc|CZ|EU|Cd|vd|C0|EV|Ce|EG|FI|C1|EW|Cf|EH|FJ|ux|EX|uh|Ea|E1|uv|yn|ui|E2|uw|EI|BB|i12|E3|Cm|yo|BC|Eb|E4|Cn=>k_is)
  (case yp|BD|Ec|E5|Co|yq|BE|Ed|E6|Cp|yr|BF|Ee|E7|Cq|yt|BG|E8|Cr|EJ|BH|Ef|E9|Cs|yu|BI|Eg|E_|Ct|yv|BJ|Eh|E'|Cu|yw|BK|Ei|Fb|Cv|yx|BL|Ej|Fc|Cw|yy|BM|Ek|Fd|Cx|yz|BN=>k_is)
  (case El|Fe|Cy|yA|BO|Em|Ff|Cz|yB|BP|En|Fg|CA|yC|BQ|Eo|Fh|CB|yD|BR|Ep|Fi|CC|yE|BS|Fj|CD|EK|BU|Er|Fl|CE|yF|BV|Es|Fm|CF|yG|BW|Et|Fn|CG|yH|BX|Eu|Fo|CH|yI|BY|Ew|Fp=>k_is)
  (case CI|yJ|BZ|Fq|CJ|EL|B0|Fs|CK|EM|B1|Ex|Ft|CL|yK|B2|Ey|Fu|CM|yL|B3|Fv|CN|EN|B4|Ez|Fw|CO|yM|B5|EA|Fx|CP|yN|B6|Fy|CQ|EO|B7|Fz|CR|EP|B8|EB|FA|CS|yO|B9|EC|FC|CT=>k_is)
  (case yP|B_|ED|FD|CU|yQ|B'|EE|FE|CV|yR|Ca|EF|FF|CW|yS|Cb|FG|CX|ER|Cc|FH|CY|ET|lb|ff|lg|jn|qn|qo|qp|rV|rU|qV|qU|uL|Gr=>k_is)
  (case uK|Gq|uJ|Gp=>k_is)
end
end
