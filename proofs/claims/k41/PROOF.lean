import PyProof.Rows.All
import Wide.All
import OpenK.AllK
import Wide.FinOn
import Lean
import PyProof.EqAt
import PyProof.EqKinds
import PyProof.TupleCall
import PyProof.P3Statements
import KE.KSortTup
import PyProof.AttrMissHeap
import PyProof.ZipIter
import PyProof.Draws
import PyProof.ListMulRoad
import Wide.Seal
import KE.KLam
import KE.KNest
import KE.KNestM
import KE.KIsAll
import PyProof.ExcArgs
import PyProof.ReprStr
import PyProof.FString
import PyProof.FitsInt
import KE.KMinKey
import KE.KIntText
import KE.IntTextText
import PySem.Challenge.RW_doorwatch_k41_whole_rows_done_anew
set_option Elab.async false
set_option linter.all false
set_option compiler.extract_closed false
set_option genSizeOfSpec false
set_option maxRecDepth 100000
set_option maxHeartbeats 0
open PySem renaming Value → ak, Addr → asq, Around → c3, World → cB, Heap → bX, Expr → bx
open PySem.W renaming Frag → bb, keepIn → mQ, findIn → lY, fnOf → qX, mg_of → d1, mg_none_of → kS, emptyDict → pT, instObj → q0, kitOne → u2
open Option renaming bind_eq_some_iff → b7, map_eq_some_iff → d7, bind_some → cv, map_some → et
open PySem renaming wpAny_bind → a3, Shared → aP, wpAny_pure → cG, starEach → bo, FuncData → fX, sizeLine → b8, mainGlobals → kP, Program → cJ, wpAny → bD, wpAny_mono → hT, mem_of_lookup → xv, keywordEach → l6, wpAny_holding → ov, backTo → dp, wpAny_Call_Name_kw → sS, wpAny_field → hU, attributeBase → ij, wpAny_callSpecial?_slot → pW, backToKw → l7, sizeLine_eq → mT, wpAny_seqItems → ow, wpAny_pyIter_tuple → uZ, compareOp → hE, codeAny_builtin → u0, wpAny_newObj_type → pX, wpAny_call_entry → ox, wpAny_setField_rec → sT, swapsWith → kh, behindInMarks → oy, wpAny_truthy_bool → nE, assignEach → pY, call_meets → l8, binaryOp → kT, NameKind → l9, model → bV, foldedSetIterable → u1
open PySem.Heap renaming get?_push_of_some → c8, lt_size → c0, get?_push_size → gA, size_push → kR, get?_update_other → Bx
open List renaming mem_cons_of_mem → di, mem_cons → asu, map_cons → c9, mem_cons_self → fY, replicate → dS, size_toArray → d0, getElem?_eq_some_iff → hj, mem_map → cN, nodup_cons → gO, getElem?_eq_getElem → iB, length_cons → d_, mem_singleton → jl, mem_append → hD, length_map → eT, getElem?_map → kQ, pairwise_cons → l0, map_nil → g6, mem_append_right → ot, lookup_cons → mR, set_cons_zero → jL, lookup → jM, set_cons_succ → kf, getElem?_append_right → uS, nodup_append → pU, getElem?_append_left → uT, find?_cons → pV, replicate_succ → qZ, mem_of_getElem? → uV, append_nil → jN, zip_cons_cons → q2, length_append → jo, length_filter_le → Bv, getElem?_set → uX, flatten_cons → sQ, not_mem_nil → eu, getElem?_cons_zero → iC, getElem?_cons_succ → l4, length_nil → l5, append_assoc → as_, nil_append → q3, cons_append → uY, map_map → gB
open Nat renaming le_refl → dT, lt_of_lt_of_le → jK, ne_of_lt → fh, ne_of_gt → hS, le_trans → mS, zero_le → asH, le_succ → fj, le_add_right → sU
open PySem.Builtin.SmallTypes renaming nextOf → lr, ownedTupleIsFree → qY
open PySem.Builtin.Tuple renaming tupleExact → sO
open Function renaming comp_def → lZ
open Bool renaming and_eq_true → fi, false_eq_true → l1, false_ne_true → ou
open PySem.PyData renaming depthAll → jm, canLayAll0 → ke, str → kg, eqv → jn, depth → jq
open PyProof.Rows renaming slot_tuple_getitem → Bt, callWith_type1 → uU
open PySem.Builtin.Slice renaming slicePlaces → Bu
open Array renaming getElem?_eq_getElem → sP, length_toList → q1
open PySem.Around renaming under_plainId → uW
open False renaming elim → l2
open PySem.PassesOwn renaming never → l3
open PySem.F renaming slot_tuple_iterator_next → Bw
open Option.some renaming inj → fq
open Int renaming emod_nonneg → asK, emod_lt_of_pos → sR
namespace PySem.W.Fast
def tw1934800861879796634:=0
def tw5177080399581963435:=0
def tw7454965292563614080:=0
def tw10913733315712793614:=0
def tw5433116951023576062:=0
def tw1991301561775247566:=0
def tw13056814124314433926:=0
def tw11074291905671254271:=0
def tw13408515646008138407:=0
def tw2520373909783449725:=0
def tw9022555815942818415:=0
def tw10248344201120654446:=0
def tw11983035673033254592:=0
def tw6009446222379188998:=0
def tw15655071670438754962:=0
def tw1119620740012989190:=0
def tw17739653419089594783:=0
def tw477501031586947509:=0
def tw268861358980695156:=0
def tw6615087600147284075:=0
def tw9414018179438370143:=0
def tw336435139815693620:=0
def tw14057869283500237545:=0
def tw15071360691991761122:=0
def tw2257082787483556595:=0
def tw5010533895206475908:=0
def tw6181033224641551577:=0
def tw18435398940417358898:=0
def tw2395518722888627360:=0
def tw9742023867930140797:=0
def tw10365840871272906280:=0
def tw16177831015174395767:=0
def tw5743928101042084821:=0
def tw11851323499037940972:=0
def tw4802009927653219093:=0
def tw7509259479692443123:=0
def tw1909957429084086172:=0
def tw4445366465612948021:=0
def tw3896130870297860722:=0
def tw3203664222544011388:=0
def tw3206664565924498048:=0
def tw8504671529471326525:=0
def tw15491328174864424627:=0
def tw13825357689485373780:=0
def tw11234117973987513760:=0
def tw9084282204796336594:=0
def tw8531005570512042817:=0
def tw8832866960601049282:=0
def tw10686153430682062400:=0
def tw16824079540004779755:=0
def tw6955697174508941562:=0
def tw5273874741574616687:=0
def tw8330833404571065639:=0
def tw9290734006438592540:=0
def tw8927182076289774379:=0
def tw807730362771641051:=0
def tw15616237550867999184:=0
def tw9423634429544853590:=0
def tw7969278310456268825:=0
def tw4248820861344010065:=0
def tw15618995784934404255:=0
def tw520751267553162821:=0
def tw10714124675375058185:=0
def tw1236778991388131982:=0
def tw10613962498014877253:=0
def tw11049150649723139089:=0
def tw4320182187705156009:=0
def tw6065207826839661553:=0
def tw1185451338665870724:=0
def tw311624241609915330:=0
def tw3675605642365329080:=0
def tw3613435523696571804:=0
def tw7211377410477787329:=0
def tw14664921721927412840:=0
def tw10660500508357274692:=0
def tw10982366557546801228:=0
def tw14658278125413802570:=0
def tw7639348020009705813:=0
def tw10620155092910760369:=0
def tw10326450251686242859:=0
def tw6445655942240835489:=0
def tw7745867078252075721:=0
def tw18165209222603347556:=0
def tw7866720118990790714:=0
def tw13684463900368404242:=0
def tw3194049830934778799:=0
def tw15911074372885702319:=0
def tw5079514740760366912:=0
def tw9600316724378966205:=0
def tw16407827961960789938:=0
def tw7935776886401423010:=0
def tw1214674258184263395:=0
def tw14400953992355568874:=0
def tw14788671209205544875:=0
def tw17962052437207181709:=0
def tw12780609329223003148:=0
def tw10417327866093298124:=0
def tw8541287142905538699:=0
def tw7249643875411579799:=0
def tw5531714305627052983:=0
def tw10721788515497567698:=0
def tw5432362466696021729:=0
def tw10016253242632643438:=0
def tw17574159029183722652:=0
def tw6548494824236351124:=0
def tw10414800098779141894:=0
def tw2937186611562222790:=0
def tw14422916702293587013:=0
def tw17562953532317866728:=0
def tw14991192210546003904:=0
def tw15640557071239387727:=0
def tw4365969798184366576:=0
def tw12695880355413383698:=0
def tw16283661958288045697:=0
def tw11710498382401961536:=0
def tw11174701037640172522:=0
def tw15396630347985067403:=0
def tw9595603851267204867:=0
def tw8008544575209206930:=0
def tw11659802541790582378:=0
def tw17964183733616322735:=0
def tw14346316959401732066:=0
def tw12834421109464058068:=0
def tw11522613939379576259:=0
def tw10682079767198763112:=0
def tw12998312806881834062:=0
def tw5952589641924539459:=0
def tw2981019917147170026:=0
def tw9725924882208485839:=0
def tw4185943953709213852:=0
def tw14846658306781678331:=0
def tw4147779934346668147:=0
def tw16844629709251115758:=0
def tw14972005658026199042:=0
def tw15881667554529370441:=0
def tw12382391061680008890:=0
def tw4937013793233842173:=0
def tw4028902512473355734:=0
def tw14209915329309812958:=0
def tw8415730913162309981:=0
def tw2664177024227873451:=0
def tw14832596347399879333:=0
def tw2551682751410355290:=0
def tw15343709305413946443:=0
def tw11601082732028775772:=0
def tw11330203936679186025:=0
def tw7655033283651018523:=0
def tw4380029772038002952:=0
def tw5597556066447547012:=0
def tw971625082698323496:=0
def tw15926100397913691604:=0
def tw15391790295661089719:=0
def tw16050216915307304116:=0
def tw12696345086725998122:=0
def tw9773096197073711014:=0
def tw6149911993424779906:=0
def tw7381924281526621088:=0
def tw17315562500199669492:=0
def tw7316598472247719816:=0
def tw9946283322877416099:=0
def tw953958067545420079:=0
def tw3269543331463022657:=0
def tw15504502344958960655:=0
def tw15624050900088177326:=0
def tw5711224970391571809:=0
def tw10593836097656736275:=0
def tw6941274586315807562:=0
def tw2746740167521616485:=0
def tw10103915829913460173:=0
def tw6760130246930323598:=0
def tw17709065149888972797:=0
def tw13192109632674126359:=0
def tw1771700599222920511:=0
def tw15304379479073882027:=0
def tw12239481951738430381:=0
def tw933908777638994447:=0
def tw16337341218964401203:=0
def tw17896849881144538019:=0
def tw3047321632665728049:=0
def tw17929103741526222443:=0
def tw1868698086022289990:=0
def tw8100690439718068916:=0
def tw487340761761393986:=0
def tw12256997334624098095:=0
def tw2509790813119064269:=0
def tw10982461146929330448:=0
def tw18345875892114652168:=0
def tw10284336360668037422:=0
def tw5161072752040660054:=0
def tw9805297979684996737:=0
def tw18129339972497563489:=0
def tw15640155030971547892:=0
def tw15078821994086317717:=0
def tw12285590001982089618:=0
def tw15347164068699881866:=0
def tw5961534686761911217:=0
def tw12429847493172003889:=0
def tw7063731000360488582:=0
def tw2959619495391864735:=0
def tw9042427170392601634:=0
def tw8831755511624726183:=0
def tw12871887161835319594:=0
def tw7843976911422410743:=0
def tw12168389963050058103:=0
def tw15283830421455558755:=0
def tw1718938104313879766:=0
def tw6174790519527773718:=0
def tw15041882346546340220:=0
end PySem.W.Fast
noncomputable section
section
namespace bG
open PySem PySem.Spec PyProof.Rows
abbrev Key:=Sum Int Str
def ry:Key->ak->Bool
|.inl k,v=>Value.isInt k v
|.inr x,v=>Value.isStrOf x v
def afH(w:cB):Key->Int
|.inl k=>hashInt k
|.inr x=>hashStr w x
def nG:∀{k:Key} {v:ak},ry k v=true->(∃i t,k=Sum.inl i/\v=Value.int i t)\/(∃x t,k=Sum.inr x/\v=Value.str x t)
|.inl i,v,h=>by
  obtain⟨t,e⟩:=Value.isInt_shape (k:=i) (v:=v) h;exact .inl ⟨i,t,rfl,e⟩
|.inr x,v,h=>by
  obtain⟨t,e⟩:=Value.isStrOf_shape (x:=x) (v:=v) h;exact .inr ⟨x,t,rfl,e⟩
def aoL(i:Int)(t:Tok):ry (.inl i) (.int i t)=true:=by simp[ry,Value.isInt]
def aoK(x:Str)(t:Tok):ry (.inr x) (.str x t)=true:=by simp[ry,Value.isStrOf]
def Y8(a b:Int):decide ((Sum.inl a:Key)=Sum.inl b)=(a==b):=by
 by_cases e:a=b
 ·subst e;simp
 ·have h:¬(Sum.inl a:Key)=Sum.inl b:=λq=>e (Sum.inl.inj q);rw[decide_eq_false h];exact (beq_eq_false_iff_ne.mpr e).symm
def Y5(a b:Str):decide ((Sum.inr a:Key)=Sum.inr b)=decide (a=b):=by
 by_cases e:a=b
 ·subst e;simp
 ·have h:¬(Sum.inr a:Key)=Sum.inr b:=λq=>e (Sum.inr.inj q);rw[decide_eq_false h,decide_eq_false e]
def Y7(a:Int)(b:Str):decide ((Sum.inl a:Key)=Sum.inr b)=false:=decide_eq_false (λq=>nomatch q)
def Y6(a:Str)(b:Int):decide ((Sum.inr a:Key)=Sum.inl b)=false:=decide_eq_false (λq=>nomatch q)
noncomputable def hl(prog:cJ)(w:cB):PySem.KeyKind prog w Key where
 is:=ry
 hash:=afH w
 inj:=λv a b au ab=>by
  rcases nG au with ⟨i,t,rfl,rfl⟩|⟨x,t,rfl,rfl⟩
  ·rcases nG ab with ⟨j,u,rfl,e⟩|⟨y,u,rfl,e⟩
   ·injection e with aG _;rw[aG]
   ·exact nomatch e
  ·rcases nG ab with ⟨j,u,rfl,e⟩|⟨y,u,rfl,e⟩
   ·exact nomatch e
   ·injection e with aG _;rw[aG]
 byValue:=λk v h=>by
  rcases nG h with ⟨i,t,rfl,rfl⟩|⟨x,t,rfl,rfl⟩ <;> rfl
 pyHash:=λbq h=>by
  rcases nG bq with ⟨i,t,rfl,rfl⟩|⟨x,t,rfl,rfl⟩
  ·exact wpAny_pyHash_int h
  ·exact wpAny_pyHash_str h
 eqBool:=λb4 bq h=>by
  rcases nG b4 with ⟨i,t,rfl,rfl⟩|⟨x,t,rfl,rfl⟩
  ·rcases nG bq with ⟨j,u,rfl,rfl⟩|⟨y,u,rfl,rfl⟩
   ·rw[Y8] at h;exact wpAny_eqBool_int h
   ·rw[Y7] at h;exact SeqAt.EqAt.int_str i t y u _ _ _ _ h
  ·rcases nG bq with ⟨j,u,rfl,rfl⟩|⟨y,u,rfl,rfl⟩
   ·rw[Y6] at h;exact SeqAt.EqAt.str_int x t j u _ _ _ _ h
   ·rw[Y5] at h;exact wpAny_eqBool_str h
 «strs»:=λk x t v h=>by
  rcases nG h with ⟨i,u,rfl,e⟩|⟨y,u,rfl,e⟩
  ·exact nomatch e
  ·injection e with aG _
   subst aG;cases v <;> rfl
def Tf(prog:cJ)(w:cB)(k:Key)(v:ak):(hl prog w).is k v=ry k v:=rfl
def SN(prog:cJ)(w:cB)(i:Int)(t:Tok):(hl prog w).is (.inl i) (.int i t)=true:=aoL i t
def SM(prog:cJ)(w:cB)(x:Str)(t:Tok):(hl prog w).is (.inr x) (.str x t)=true:=aoK x t
end bG
namespace bG
open PySem PySem.Spec PyProof.Rows
inductive V where
|fC|cC (b:Bool)|int (i:Int)|str (x:Str)|rX (b:Array UInt8)|wm (b:UInt64)|ref (a:asq)|ty (n:String)
 deriving DecidableEq
noncomputable def RelV:V->ak->Prop
|.fC,u=>u=Value.none
|.cC b,u=>u=Value.bool b
|.int i,u=>∃t,u=Value.int i t
|.str x,u=>∃t,u=Value.str x t
|.rX b,u=>∃t,u=Value.bytes b t
|.wm b,u=>∃t,u=Value.float b t
|.ref a,u=>u=Value.ref a
|.ty n,u=>u=Value.type n
abbrev Vals:List V->List ak->Prop:=Paired RelV
theorem Vals.length{xs:List V}{us:List ak}(r:Vals xs us):xs.length=us.length:=Paired.length r
theorem Vals.get:∀{xs:List V} {us:List ak} {i:Nat} {x:V},Vals xs us->xs[i]?=some x->∃u,us[i]?=some u/\RelV x u
|_,_,_,_,.nil,e=>by simp at e
|_,_,0,_,.cons r _,e=>by simp at e;subst e;exact⟨_,rfl,r⟩
|_,_,i+1,x,.cons _ t,e=>by
  obtain⟨u,af,ai⟩:=Vals.get (i:=i) (x:=x) t (by simpa using e);exact⟨u,by simpa using af,ai⟩
theorem Vals.append:∀{xs ys:List V} {us ws:List ak},Vals xs us->Vals ys ws->Vals (xs++ys) (us++ws)
|_,_,_,_,.nil,s=>s
|_,_,_,_,.cons r t,s=>.cons r (Vals.append t s)
theorem Vals.take:∀{xs:List V} {us:List ak} (n:Nat),Vals xs us->Vals (xs.take n) (us.take n)
|_,_,0,_=>.nil
|_,_,_+1,.nil=>.nil
|_,_,n+1,.cons r t=>.cons r (Vals.take n t)
theorem Vals.drop:∀{xs:List V} {us:List ak} (n:Nat),Vals xs us->Vals (xs.drop n) (us.drop n)
|_,_,0,r=>r
|_,_,_+1,.nil=>.nil
|_,_,n+1,.cons _ t=>Vals.drop n t
def j0:Option V->Option ak->Prop
|some v,some u=>RelV v u
|none,none=>True
|_,_=>False
def g9{eI:Type}:List (eI×V)->List (eI×ak)->Prop:=Paired λ(p:eI×V) (q:eI×ak)=>p.1=q.1/\RelV p.2 q.2
def eo:Key->V
|.inl i=>.int i
|.inr x=>.str x
inductive eD where
|lst (xs:List V)
|tup (xs:List V)
|fx (kvs:List (Key×V))|m' (kvs:List (List Key×V))
|set (S:Int->Bool) (n:Nat)
|ins (C bj:asq) (aA:List (Str×V))
|own (x:asq)
|Lr (aA:List (Str×V))
|met (f x:asq)
|lW (lo hi:Int)
|nq (o:Obj) (u:eD)
|kM (av:Array ak)
|ext (oQ:bX->Prop)
abbrev aE:=asq->Option eD
def upd(H:aE)(a:asq)(o:eD):aE:=λb=>if b=a then some o else H b
def ew{H:aE}{a:asq}{o:eD}:upd H a o a=some o:=by unfold upd;rw[if_pos rfl]
def cZ{H:aE}{a b:asq}{o:eD}(h:b≠a):upd H a o b=H b:=by unfold upd;rw[if_neg h]
def Z2{H:aE}{a b:asq}{o u:eD}(h:H a=some o)(h':H b=some u)(d:o≠u):a≠b:=by
 intro e;subst e;rw[h] at h';exact d (fq h')
def kj{H:aE}{a b:asq}{o:eD}(h:H a=some o)(h':H b=none):a≠b:=by
 intro e;subst e;rw[h] at h';cases h'
section
variable (P:cJ)(w:cB)
noncomputable def hX(H:aE)(h:bX)(a:asq):eD->Prop
|.lst xs=>xs.length<=b8/\∃(its:List ak) (n:Nat),Vals xs its/\h.get? a=some {cls:=.type "list",data:=.seq its.toArray n}
|.tup xs=>xs.length<=b8/\∃its:List ak,Vals xs its/\IsTup h a its.toArray
|.fx kvs=>kvs.length<=b8/\(a==sysModules)=false/\∃vs,g9 kvs vs/\h.DictOf (hl P w) a vs
|.m' kvs=>kvs.length<=b8/\(a==sysModules)=false/\∃xs:List (List Key×asq×ak),
   Paired (λ(p:List Key×V) (q:List Key×asq×ak)=>p.1=q.1/\H q.2.1=some (.tup (p.1.map eo))/\RelV p.2 q.2.2) kvs xs /\
   ∃o es ep,h.get? a=some o/\o.ExactDict/\o.data=.dict es ep/\es.toList=xs.map (entryOfKey (tupleKind (hl P w)))/\(xs.map (·.1)).Nodup
|.set S n=>h.SetOf (intKind P w) a S n
|.ins C bj aA=>H bj=some (.own a)/\aA.length<=1000/\bj≠a/\h.get? a=some (q0 C bj) /\
   ∃eB,h.Ns1 bj eB/\(∀f,j0 (aA.lookup f) (eB f))/\PySem.Within eB (aA.map (·.1))
|.own _=>∃o,h.get? a=some o
|.Lr aA=>∃eB,h.Ns1 a eB/\∀f,j0 (aA.lookup f) (eB f)
|.lW lo hi=>∃t u v,h.get? a=some {cls:=.type "range",data:=.fields #[.int lo t,.int hi u,.int 1 v]}
|.nq o u=>h.get? a=some o/\hX H h a u
|.kM av=>h.get? a=some {cls:=.none,data:=.fields av}
|.met f x=>h.get? a=some (PySem.W.methodObj (.ref f) (.ref x))
|.ext oQ=>oQ h/\(∃o,h.get? a=some o)/\∀af ai:bX,oQ af->(∀o,af.get? a=some o->ai.get? a=some o)->oQ ai
def e8(H:aE)(h:bX):Prop:=∀a o,H a=some o->hX P w H h a o
end
section
variable {P:cJ}{w:cB}{H aj:aE}{h h':bX}{a:asq}{o:eD}
theorem hX.lt(x:hX P w H h a o):a<h.objs.size:=by
 cases o with
|lst xs=>obtain⟨_,_,_,_,e⟩:=x;exact c0 e
|tup xs=>obtain⟨_,_,_,p⟩:=x;exact p.lt
|fx kvs=>obtain⟨_,_,_,_,o,_,_,e,_⟩:=x;exact c0 e
|m' kvs=>obtain⟨_,_,_,_,o,_,_,e,_⟩:=x;exact c0 e
|set S n=>obtain⟨o,_,_,_,e,_⟩:=x;exact c0 e
|ins C bj aA=>obtain⟨_,_,_,e,_⟩:=x;exact c0 e
|own y=>obtain⟨_,e⟩:=x;exact c0 e
|Lr aA=>obtain⟨_,⟨_,_,_,e,_⟩,_⟩:=x;exact c0 e
|lW lo hi=>obtain⟨_,_,_,e⟩:=x;exact c0 e
|nq dQ u=>obtain⟨e,_⟩:=x;exact c0 e
|kM av=>exact c0 (show h.get? a=some _ from x)
|met f y=>exact c0 (show h.get? a=some _ from x)
|ext oQ=>obtain⟨_,⟨_,e⟩,_⟩:=x;exact c0 e
theorem Paired.J7{α β:Type}{F G:α->β->Prop}:∀{Q3:List α} {Q4:List β},Paired F Q3 Q4->(∀a b,F a b->G a b)->Paired G Q3 Q4
|_,_,.nil,_=>.nil
|_,_,.cons r t,f=>.cons (f _ _ r) (Paired.J7 t f)
def hX.kL(x:hX P w H h a o)(k:∀b u,(b=a\/H b=some (.own a))->h.get? b=some u->h'.get? b=some u)
  (aH:∀b,H b=some (.own a)->aj b=some (.own a)) (aZ:∀b xs,H b=some (.tup xs)->aj b=some (.tup xs)):hX P w aj h' a o:=by
 induction o with
|lst xs=>obtain⟨z,its,n,r,e⟩:=x;exact⟨z,its,n,r,k _ _ (.inl rfl) e⟩
|tup xs=>obtain⟨z,its,r,dQ,e,c⟩:=x;exact⟨z,its,r,dQ,k _ _ (.inl rfl) e,c⟩
|fx kvs=>obtain⟨z,y,vs,r,dQ,es,ep,e,c⟩:=x;exact⟨z,y,vs,r,dQ,es,ep,k _ _ (.inl rfl) e,c⟩
|m' kvs=>
  obtain⟨z,y,xs,r,dQ,es,ep,e,c⟩:=x;exact⟨z,y,xs,Paired.J7 r λp q z=>⟨z.1,aZ _ _ z.2.1,z.2.2⟩,dQ,es,ep,k _ _ (.inl rfl) e,c⟩
|set S n=>obtain⟨dQ,es,ep,t,e,c⟩:=x;exact⟨dQ,es,ep,t,k _ _ (.inl rfl) e,c⟩
|ins C bj aA=>
  obtain⟨d,z,ne,e,eB,⟨fe,es,ep,aS,c⟩,r⟩:=x;exact⟨aH _ d,z,ne,k _ _ (.inl rfl) e,eB,⟨fe,es,ep,k _ _ (.inr d) aS,c⟩,r⟩
|own y=>obtain⟨dQ,e⟩:=x;exact⟨dQ,k _ _ (.inl rfl) e⟩
|Lr aA=>obtain⟨eB,⟨fe,es,ep,e,c⟩,r⟩:=x;exact⟨eB,⟨fe,es,ep,k _ _ (.inl rfl) e,c⟩,r⟩
|lW lo hi=>obtain⟨t,u,v,e⟩:=x;exact⟨t,u,v,k _ _ (.inl rfl) e⟩
|nq dQ u bY=>obtain⟨e,q⟩:=x;exact⟨k _ _ (.inl rfl) e,bY q⟩
|kM av=>
  have e:h.get? a=some {cls:=.none,data:=.fields av}:=x;show h'.get? a=some {cls:=.none,data:=.fields av};exact k a _ (.inl rfl) e
|met f y=>
  have e:h.get? a=some (PySem.W.methodObj (.ref f) (.ref y)):=x;show h'.get? a=some (PySem.W.methodObj (.ref f) (.ref y));exact k a _ (.inl rfl) e
|ext oQ=>obtain⟨p,⟨o,e⟩,st⟩:=x;exact⟨st _ _ p λo q=>k _ _ (.inl rfl) q,⟨o,k _ _ (.inl rfl) e⟩,st⟩
theorem e8.lt(x:e8 P w H h)(e:H a=some o):a<h.objs.size:=(x a o e).lt
def e8.fresh(x:e8 P w H h)(e:h.objs.size<=a):H a=none:=by
 cases q:H a with
|none=>rfl
|some u=>exact absurd (jK (x.lt q) e) (Nat.lt_irrefl _)
def e8.kept(x:e8 P w H h)(k:∀b u,h.get? b=some u->h'.get? b=some u):e8 P w H h':=λa o e=>
 (x a o e).kL (λb u _ q=>k b u q) (λ_ q=>q) λ_ _ q=>q
def e8.laid(x:e8 P w H h)(k:∀b u,h.get? b=some u->h'.get? b=some u)(aF:h.objs.size<=a)(new:hX P w (upd H a o) h' a o):e8 P w (upd H a o) h':=λb u e=>by
 have a9:=x.fresh aF;by_cases ab:b=a
 ·subst ab;rw[ew] at e;cases e;exact new
 ·rw[cZ ab] at e;exact (x b u e).kL (λc v _ q=>k c v q) (λc q=>by rw[cZ (kj q a9)];exact q) λc xs q=>by rw[cZ (kj q a9)];exact q
end
def fN(H:aE)(a:asq)(u:eD):Prop:=H a=some u\/∃o,H a=some (.nq o u)
def fN.ok{P:cJ}{w:cB}{H:aE}{h:bX}{a:asq}{u:eD}(r:fN H a u)(x:e8 P w H h):hX P w H h a u:=by
 rcases r with r|⟨o,r⟩
 ·exact x a u r
 ·obtain⟨_,q⟩:=x a _ r;exact q
def v8:Option eD->Prop
|some (.lst _)=>True
|some (.fx _)=>True
|some (.m' _)=>True
|some (.set _ _)=>True
|some (.ins _ _ _)=>True
|some (.ext _)=>True
|_=>False
section
variable {P:cJ}{w:cB}{H:aE}{h h':bX}{x e:asq}{o':eD}
def e8.write(ok:e8 P w H h)(la:v8 (H x))(he:e=x\/H e=some (.own x))(k:∀b u,b≠e->h.get? b=some u->h'.get? b=some u)(uk:∃u,h'.get? e=some u)
  (new:hX P w (upd H x o') h' x o'):e8 P w (upd H x o') h':=λb u q=>by
 have Rc:∀c y,H c=some (.own y)->c≠x:=λc y r z=>by subst z;rw[r] at la;exact la
 have af_:∀c xs,H c=some (.tup xs)->c≠x:=λc xs r z=>by subst z;rw[r] at la;exact la
 by_cases ab:b=x
 ·subst ab;rw[ew] at q;cases q;exact new
 ·rw[cZ ab] at q;by_cases sd:b=e
  ·have d6:H b=some (.own x):=by
    rcases he with z|z
    ·exact absurd (sd.trans z) ab
    ·rw[sd];exact z
   rw[q] at d6;cases d6;obtain⟨v,bq⟩:=uk;exact⟨v,by rw[sd];exact bq⟩
  ·refine (ok b u q).kL (λc v ax r=>k c v ?_ r) (λc r=>by rw[cZ (Rc c b r)];exact r) λc xs r=>by rw[cZ (af_ c xs r)];exact r
   rcases ax with rfl|ax
   ·exact sd
   ·rintro rfl;rcases he with z|z
    ·exact Rc c b ax z
    ·rw[ax] at z;cases z;exact ab rfl
end
structure hs(aA ex:List asq)(H aj:aE)(h h':bX):Prop where
 keep:∀b o,h.get? b=some o->H b=none->b∉aA->b∉ex->h'.get? b=some o
 slot:∀b o,h.get? b=some o->H b=none->b∈aA->b∉ex->∃c5,h'.get? b=some {o with slots:=c5}
 free:∀b o,h.get? b=some o->H b=none->b∉ex->aj b=none
 there:∀b o,h.get? b=some o->b∉ex->∃o',h'.get? b=some o'
 pQ:∀b xs,H b=some (.tup xs)->aj b=some (.tup xs)
 n9:∀b o u,H b=some (.nq o u)->aj b=some (.nq o u)
 pP:∀b av,H b=some (.kM av)->∃more,aj b=some (.kM (av++more))
section
variable {aA asB ex ar2:List asq}{H H1 bk:aE}{h af ai h':bX}{a x e:asq}{o:eD}
def hs.any(u:hs aA ex H H1 h af){b:asq}{dQ:Obj}(q:h.get? b=some dQ)(n:H b=none)(hx:b∉ex):∃c5,af.get? b=some {dQ with slots:=c5}:=by
 by_cases ab:b∈aA
 ·exact u.slot b dQ q n ab hx
 ·exact⟨dQ.slots,u.keep b dQ q n ab hx⟩
def hs.kept(k:∀b u,h.get? b=some u->h'.get? b=some u):hs aA ex H H h h':=
 ⟨λb dQ q _ _ _=>k b dQ q,λb dQ q _ _ _=>⟨dQ.slots,k b dQ q⟩,λ_ _ _ n _=>n,λb dQ q _=>⟨dQ,k b dQ q⟩,λ_ _ q=>q,λ_ _ _ q=>q,λ_ av q=>⟨#[],by rw[q];simp⟩⟩
def hs.refl:hs aA ex H H h h:=hs.kept λ_ _ q=>q
def hs.laid(k:∀b u,h.get? b=some u->h'.get? b=some u)(aF:h.objs.size<=a)(a9:H a=none):hs aA ex H (upd H a o) h h' where
 keep:=λb u q _ _ _=>k b u q
 slot:=λb u q _ _ _=>⟨u.slots,k b u q⟩
 free:=λb u q n _=>by rw[cZ (fh (jK (c0 q) aF))];exact n
 there:=λb u q _=>⟨u,k b u q⟩
 pQ:=λb xs q=>by rw[cZ (kj q a9)];exact q
 n9:=λb u xs q=>by rw[cZ (kj q a9)];exact q
 pP:=λb av q=>⟨#[],by rw[cZ (kj q a9),q];simp⟩
def hs.write(la:v8 (H x))(he:e=x\/H e=some (.own x))(k:∀b u,b≠e->h.get? b=some u->h'.get? b=some u)(uk:∃u,h'.get? e=some u):hs aA ex H (upd H x o) h h':=by
 have hx:∀b,H b=none->b≠x:=λb n z=>by subst z;rw[n] at la;exact la
 have ab:∀b,H b=none->b≠e:=λb n z=>by
  subst z;rcases he with r|r
  ·exact hx b n r
  ·rw[n] at r;cases r
 have hm:∀b u,H b=some u->¬v8 (some u)->b≠x:=λb u q nm z=>by subst z;rw[q] at la;exact nm la
 refine⟨λb u q n _ _=>k b u (ab b n) q,λb u q n _ _=>⟨u.slots,k b u (ab b n) q⟩,λb u q n _=>by rw[cZ (hx b n)];exact n,λb u q _=>?_,
  λb xs q=>by rw[cZ (hm b _ q λz=>z)];exact q,λb u xs q=>by rw[cZ (hm b _ q λz=>z)];exact q,λb av q=>⟨#[],by rw[cZ (hm b _ q λz=>z),q];simp⟩⟩
 by_cases sd:b=e
 ·subst sd;exact uk
 ·exact⟨u,k b u sd q⟩
end
def Bm(h:bX)(H:aE):List asq:=(List.range h.objs.size).filter λa=>(H a).isSome
def pv(h:bX)(H:aE):bX:=PySem.W.hideAll h (Bm h H)
def aoO(h:bX)(H:aE):(pv h H).objs.size=h.objs.size:=PySem.W.hideAll_size _ _
def ap7{h:bX}{H:aE}{b:asq}{o:Obj}(e:h.get? b=some o)(n:H b=none):(pv h H).get? b=some o:=
 PySem.W.hideAll_get _ e λhm=>by
  have q:(H b).isSome=true:=(List.mem_filter.mp hm).2;rw[n] at q;simp at q
def aq8{h:bX}{H:aE}{b:asq}{o:Obj}(e:(pv h H).get? b=some o):h.get? b=some o/\H b=none:=by
 have bN:h.get? b=some o:=PySem.W.of_hideAll (Bm h H) e;refine⟨bN,?_⟩;cases q:H b with
|none=>rfl
|some x=>
  have hm:b∈Bm h H:=List.mem_filter.mpr ⟨List.mem_range.mpr (c0 bN),by simp[q]⟩;have z:(pv h H).get? b=none:=PySem.W.hideAll_none (Bm h H) hm;rw[z] at e;cases e
def arA(g h:bX)(L:asq):List (asq×Obj):=(List.range h.objs.size).filterMap λa=>if a=L\/(g.get? a).isSome=true then none else (h.get? a).map λo=>(a,o)
def rest(g h:bX)(L d:asq):List (asq×Obj):=(arA g h L).filter λp=>decide (p.1≠d)
end bG
namespace bG
open PySem PySem.Spec PyProof.Rows
structure Mod(K:bb)(mg:Str->Option ak)(base:bX):Prop where
 wX:K.In base
 glob:base.Ns kP mg
 blt:∃mE,base.Ns builtinsNs mE/\∀x:Str,x≠"__name__"->mE x=bootBuiltins x
 nolimit:base.NoLimit
structure bu where
 prog:cJ
 w:cB
 K:bb
 mg:Str->Option ak
 base:bX
 A:c3
 N:List Str
 dI:aP
 aO:aE
 env:Env
 outer:List Env
 stack:List Env
 ex:List asq
 fn:Str->Bool
 calm:Bool
 er:List (asq×Obj)
 dR:ak->aP->Prop
def nk(l:List Env):List asq:=l.filterMap (·.frame)
abbrev bu.aA(X:bu):List asq:=nk X.outer
def rR(sc:Scope)(x:Str):Prop:=sc.names.lookup x=some .local\/sc.names.lookup x=some .cell\/sc.names.lookup x=some .free
def Loc(sc:Scope)(x:Str):Prop:=sc.names.lookup x=some .local\/sc.names.lookup x=some .cell
noncomputable def Look(env:Env)(h:bX)(m:Str->Option ak)(x:Str)(u:ak):Prop:=
 (env.kindOf x=some .local/\m x=some u)\/((env.kindOf x=some .cell\/env.kindOf x=some .free)/\∃c,env.cells.lookup x=some c/\h.IsCell c (some u))
structure bu.Ok(X:bu):Prop where
 mod:Mod X.K X.mg X.base
 kind:X.env.scope.kind=.function
 glob:X.env.globals=kP
 blt:X.env.builtins=builtinsNs
 above:X.dI.heap.objs.size<=X.env.locals
 inj:∀x y c,X.env.cells.lookup x=some c->X.env.cells.lookup y=some c->x=y
 has:∀x,(X.env.kindOf x=some .cell\/X.env.kindOf x=some .free)->∃c,X.env.cells.lookup x=some c
 wh:∀x c,X.fn x=true->X.env.cells.lookup x=some c->X.dI.heap.objs.size<=c
 hd:X.calm=true->X.A.handled=none
 frames:X.A.frames=some X.stack
 Be:X.stack=X.outer\/(X.stack=X.env::X.outer/\X.env.frame=some X.env.locals)
 zp:∀b∈X.ex,b≠X.env.locals/\∀x c,X.env.cells.lookup x=some c->c≠b
 bs:∀b o,X.base.get? b=some o->X.dI.heap.get? b=some o/\X.aO b=none
 asP:X.base.objs.size<=X.dI.heap.objs.size
 w6:∀b o,X.base.get? b=some o->b∉X.ex
 wi:∀b∈X.ex,b∉X.aA
 mw:X.dI.heap.FunFrames X.base X.outer
 r6:∀b∈X.aA,X.aO b=none
structure Inv(X:bu)(ah:List (asq×Obj))(σ:List (Option V))(H:aE)(s:aP):Prop where
 ok:X.Ok
 os:s.os=X.dI.os
 bare:AllBare s.gens
 base:hs X.aA X.ex X.aO H X.dI.heap s.heap
 loc:∃m,s.heap.Ns X.env.locals m/\∀(i:Nat) (x:Str) (v:V),X.N[i]?=some x->σ[i]?=some (some v)->rR X.env.scope x->∃u,RelV v u/\Look X.env s.heap m x u
 cell:∀x c,X.env.cells.lookup x=some c->∃v,s.heap.IsCell c v
 free:H X.env.locals=none
 n8:∀x c,X.env.cells.lookup x=some c->H c=none
 pin:∀p∈X.er++ah,s.heap.get? p.1=some p.2/\H p.1=none/\p.1≠X.env.locals/\p.1∉X.aA/\∀v,p.2.data≠.cell v
 ck:e8 X.prog X.w H s.heap
 len:σ.length=X.N.length
section
variable {X:bu}{ah:List (asq×Obj)}{σ:List (Option V)}{H aj:aE}{s:aP}{h':bX}
def bu.Ok.af6(ok:X.Ok){b:asq}{o:Obj}(e:X.base.get? b=some o):b∉X.aA:=λab=>by
 have:=(ok.mw.mem ab).1;rw[e] at this;cases this
theorem Inv.bs(I:Inv X ah σ H s):∀b o,X.base.get? b=some o->s.heap.get? b=some o/\H b=none:=λb o e=>
 ⟨I.base.keep b o (I.ok.bs b o e).1 (I.ok.bs b o e).2 (I.ok.af6 e) (I.ok.w6 b o e),I.base.free b o (I.ok.bs b o e).1 (I.ok.bs b o e).2 (I.ok.w6 b o e)⟩
def Inv.ht(I:Inv X ah σ H s):∀b o,X.base.get? b=some o->s.heap.get? b=some o:=λb o e=>(I.bs b o e).1
theorem Inv.mod(I:Inv X ah σ H s):Mod X.K X.mg X.base:=I.ok.mod
def Inv.iv(I:Inv X ah σ H s):X.K.In s.heap:=I.ok.mod.wX.keeps I.ht
theorem Inv.lt(I:Inv X ah σ H s):X.env.locals<s.heap.objs.size:=let ⟨_,a9,_⟩:=I.loc;a9.lt
def Inv.ll(I:Inv X ah σ H s):X.dI.heap.objs.size<=s.heap.objs.size:=mS I.ok.above (Nat.le_of_lt I.lt)
def Inv.af8(I:Inv X ah σ H s){a:asq}(h:s.heap.objs.size<=a):a∉X.aA:=λab=>by
 obtain⟨_,o,aH,_⟩:=I.ok.mw.mem ab;exact absurd (jK (c0 aH) (mS I.ll h)) (Nat.lt_irrefl _)
def Inv.r0(I:Inv X ah σ H s):∀x c,X.env.cells.lookup x=some c->c≠X.env.locals:=λx c e z=>by
 obtain⟨v,o,aH,hd⟩:=I.cell x c e;obtain⟨m,⟨o',es,ep,iO,Hj,_⟩,_⟩:=I.loc;rw[z,iO] at aH;cases aH;rw[Hj] at hd;cases hd
theorem Inv.mw(I:Inv X ah σ H s):s.heap.FunFrames X.base X.outer:=by
 have all:∀(l:List Env),(∀b∈nk l,b∈X.aA)->X.dI.heap.FunFrames X.base l->s.heap.FunFrames X.base l:=by
  intro l
  induction l with
  |nil=>intro _ _;trivial
  |cons env r bY=>
   intro asr aB;obtain⟨aR,⟨L,o,hf,a9,aH,hd⟩,aw⟩:=aB;have hN:L∈X.aA:=asr L (by unfold nk;rw[List.filterMap_cons,hf];exact fY);obtain⟨c5,e⟩:=I.base.slot L o aH (I.ok.r6 L hN) hN λz=>I.ok.wi L z hN;exact⟨aR,⟨L,_,hf,a9,e,hd⟩,bY (λb ab=>asr b (by unfold nk;rw[List.filterMap_cons,hf];exact di _ ab)) aw⟩
 exact all X.outer (λ_ ab=>ab) I.ok.mw
theorem Inv.stack(I:Inv X ah σ H s):s.heap.FunFrames X.base X.stack:=by
 rcases I.ok.Be with e|⟨e,hf⟩
 ·rw[e];exact I.mw
 ·rw[e];obtain⟨m,a9,_⟩:=I.loc;refine .cons (by rw[I.ok.kind];decide) hf a9 ?_ I.mw;exact Heap.get?_none_of_le (mS I.ok.asP I.ok.above)
def Inv.Bf(I:Inv X ah σ H s):∀b∈nk X.stack,b∈X.env.locals::X.aA:=λb ab=>by
 rcases I.ok.Be with e|⟨e,hf⟩
 ·rw[e] at ab;exact di _ ab
 ·rw[e] at ab;unfold nk at ab;rw[List.filterMap_cons,hf] at ab;exact ab
def Inv.RB(I:Inv X ah σ H s):∀b∈nk X.stack,H b=none:=λb ab=>by
 rcases asu.mp (I.Bf b ab) with e|ab
 ·rw[e];exact I.free
 ·obtain⟨_,o,aH,_⟩:=I.ok.mw.mem ab;exact I.base.free b o aH (I.ok.r6 b ab) λz=>I.ok.wi b z ab
def Inv.step{g':Array GenState}{t':Nat}{d':Drawn}{ch:List asq}(I:Inv X ah σ H s)
  (qy:∀b∈ch,(b∈X.ex\/X.dI.heap.objs.size<=b)/\b≠X.env.locals/\(∀x c,X.env.cells.lookup x=some c->c≠b)/\∀p∈X.er++ah,p.1≠b)
  (keep:∀b o,b≠X.env.locals->b∉X.aA->b∉ch->s.heap.get? b=some o->H b=none->h'.get? b=some o)
  (slot:∀b o,b≠X.env.locals->b∈X.aA->b∉ch->s.heap.get? b=some o->H b=none->∃c5,h'.get? b=some {o with slots:=c5}) (free:∀b o,b∉ch->s.heap.get? b=some o->H b=none->aj b=none)
  (there:∀b o,b∉ch->s.heap.get? b=some o->∃o',h'.get? b=some o')
  (pQ:∀b xs,H b=some (.tup xs)->aj b=some (.tup xs)) (n9:∀b o u,H b=some (.nq o u)->aj b=some (.nq o u)) (pP:∀b av,H b=some (.kM av)->∃more,aj b=some (.kM (av++more)))
  (ns:∀m,s.heap.Ns X.env.locals m->h'.Ns X.env.locals m) (ck:e8 X.prog X.w aj h') (bf:AllBare g'):
  Inv X ah σ aj {s with heap:=h',gens:=g',drawn:=d',toks:=t'}:=by
 have Q9:∀b o,X.dI.heap.get? b=some o->b≠X.env.locals:=λb o e=>fh (jK (c0 e) I.ok.above);have AS:∀b o,X.dI.heap.get? b=some o->b∉X.ex->b∉ch:=λb o e hx ab=>by
  rcases (qy b ab).1 with z|z
  ·exact hx z
  ·exact absurd (jK (c0 e) z) (Nat.lt_irrefl _)
 have cellK:∀x c,X.env.cells.lookup x=some c->∀v,s.heap.IsCell c v->h'.IsCell c v:=λx c e v ⟨o,aH,hd⟩=>by
  have as4:c∉ch:=λz=>(qy c z).2.2.1 x c e rfl;by_cases ax:c∈X.aA
  ·obtain⟨c5,q⟩:=slot c o (I.r0 x c e) ax as4 aH (I.n8 x c e);exact⟨_,q,hd⟩
  ·exact⟨o,keep c o (I.r0 x c e) ax as4 aH (I.n8 x c e),hd⟩
 refine⟨I.ok,I.os,bf,⟨λb o e n ab hx=>?_,λb o e n ab hx=>?_,λb o e n hx=>?_,λb o e hx=>?_,λb xs e=>pQ b xs (I.base.pQ b xs e),λb o xs e=>n9 b o xs (I.base.n9 b o xs e),λb av e=>?_⟩,?_,λx c e=>?_,?_,λx c e=>?_,λp aF=>?_,ck,I.len⟩
 ·exact keep b o (Q9 b o e) ab (AS b o e hx) (I.base.keep b o e n ab hx) (I.base.free b o e n hx)
 ·obtain⟨c5,aG⟩:=I.base.slot b o e n ab hx;obtain⟨aj0,aS⟩:=slot b _ (Q9 b o e) ab (AS b o e hx) aG (I.base.free b o e n hx);exact⟨aj0,aS⟩
 ·obtain⟨o',aG⟩:=I.base.there b o e hx;exact free b o' (AS b o e hx) aG (I.base.free b o e n hx)
 ·obtain⟨o',aG⟩:=I.base.there b o e hx;exact there b o' (AS b o e hx) aG
 ·obtain⟨iV,aG⟩:=I.base.pP b av e;obtain⟨mD,aS⟩:=pP b _ aG;exact⟨iV++mD,by rw[aS,Array.append_assoc]⟩
 ·obtain⟨m,a9,aB⟩:=I.loc;refine⟨m,ns m a9,λi x v aG aS d5=>?_⟩;obtain⟨u,r,l⟩:=aB i x v aG aS d5;refine⟨u,r,?_⟩;rcases l with l|⟨k,c,e,z⟩
  ·exact .inl l
  ·exact .inr ⟨k,c,e,cellK x c e _ z⟩
 ·obtain⟨v,z⟩:=I.cell x c e;exact⟨v,cellK x c e v z⟩
 ·obtain⟨m,⟨o,_,_,aH,_⟩,_⟩:=I.loc;exact free _ o (λz=>(qy _ z).2.1 rfl) aH I.free
 ·obtain⟨v,o,aH,hd⟩:=I.cell x c e;exact free c o (λz=>(qy c z).2.2.1 x c e rfl) aH (I.n8 x c e)
 ·obtain⟨e,n,ne,j8,d⟩:=I.pin p aF;have as4:p.1∉ch:=λz=>(qy p.1 z).2.2.2 p aF rfl;exact⟨keep p.1 p.2 ne j8 as4 e n,free p.1 p.2 as4 e n,ne,j8,d⟩
def Inv.un{t':Nat}(I:Inv X ah σ H s)(u:hs X.aA [] H aj s.heap h')(ck:e8 X.prog X.w aj h'):Inv X ah σ aj {s with heap:=h',toks:=t'}:=by
 obtain⟨m,⟨o,es,ep,aH,r⟩,_⟩:=id I.loc;obtain⟨c5,hN⟩:=u.any aH I.free (by simp);exact I.step (g':=s.gens) (d':=s.drawn) (ch:=[]) (λ_ z=>nomatch z) (λb o _ ab _ e n=>u.keep b o e n ab (by simp)) (λb o _ ab _ e n=>u.slot b o e n ab (by simp)) (λb o _ e n=>u.free b o e n (by simp)) (λb o _ e=>u.there b o e (by simp)) u.pQ u.n9 u.pP (λiw hm=>by
  obtain⟨o',hy,GA,iO,b_⟩:=hm;rw[aH] at iO;cases iO;exact⟨_,hy,GA,hN,b_⟩) ck I.bare
def Inv.call{g':Array GenState}{t':Nat}{d':Drawn}{ch:List asq}(I:Inv X ah σ H s)(u:hs (nk X.stack) ch H aj s.heap h')(ck:e8 X.prog X.w aj h')(bf:AllBare g')
  (qy:∀b∈ch,(b∈X.ex\/X.dI.heap.objs.size<=b)/\b≠X.env.locals/\(∀x c,X.env.cells.lookup x=some c->c≠b)/\∀p∈X.er++ah,p.1≠b):
  Inv X ah σ aj {s with heap:=h',gens:=g',drawn:=d',toks:=t'}:=by
 obtain⟨m,⟨o,es,ep,aH,r⟩,_⟩:=id I.loc;obtain⟨c5,hN⟩:=u.any aH I.free λz=>(qy _ z).2.1 rfl;exact I.step (ch:=ch) qy (λb o hN ab ax e n=>u.keep b o e n (λz=>(asu.mp (I.Bf b z)).elim hN ab) ax) (λb o _ _ ax e n=>u.any e n ax) (λb o ax e n=>u.free b o e n ax) (λb o ax e=>u.there b o e ax) u.pQ u.n9 u.pP (λiw hm=>by
  obtain⟨o',hy,GA,iO,b_⟩:=hm;rw[aH] at iO;cases iO;exact⟨_,hy,GA,hN,b_⟩) ck bf
def Inv.turned{t':Nat}{it:asq}(I:Inv X ah σ H s)(k:∀b o,b≠it->s.heap.get? b=some o->h'.get? b=some o)(a9:H it=none)(hN:it≠X.env.locals)
  (af:it∈X.ex\/X.dI.heap.objs.size<=it) (ai:∀x c,X.env.cells.lookup x=some c->c≠it) (bE:∀p∈X.er++ah,p.1≠it):Inv X ah σ H {s with heap:=h',toks:=t'}:=by
 have Q':∀b u,H b=some u->b≠it:=λb u e z=>by rw[z,a9] at e;cases e
 refine I.step (g':=s.gens) (d':=s.drawn) (ch:=[it]) (λb ab=>?_) (λb o _ _ ax e _=>k b o (λz=>ax (by simp[z])) e) (λb o _ _ ax e _=>⟨o.slots,k b o (λz=>ax (by simp[z])) e⟩) (λ_ _ _ _ n=>n)
  (λb o ax e=>⟨o,k b o (λz=>ax (by simp[z])) e⟩) (λ_ _ e=>e) (λ_ _ _ e=>e) (λb av e=>⟨#[],by rw[e];simp⟩) (λm hm=>?_) (λb u e=>?_) I.bare
 ·have e:b=it:=by simpa using ab
  subst e;exact⟨af,hN,ai,bE⟩
 ·obtain⟨o,es,ep,aH,r⟩:=hm;exact⟨o,es,ep,k _ o (Ne.symm hN) aH,r⟩
 ·refine (I.ck b u e).kL (λc v ax q=>k c v ?_ q) (λ_ q=>q) λ_ _ q=>q
  rcases ax with z|z
  ·rw[z];exact Q' b u e
  ·exact Q' c _ z
def Inv.tok(I:Inv X ah σ H s)(t:Nat):Inv X ah σ H {s with toks:=t}:=I.un (h':=s.heap) (t':=t) hs.refl I.ck
theorem Inv.kept{t':Nat}(I:Inv X ah σ H s)(k:∀b u,s.heap.get? b=some u->h'.get? b=some u):Inv X ah σ H {s with heap:=h',toks:=t'}:=I.un (hs.kept k) (I.ck.kept k)
theorem Inv.laid{a:asq}{o:eD}{t':Nat}(I:Inv X ah σ H s)(k:∀b u,s.heap.get? b=some u->h'.get? b=some u)(aF:s.heap.objs.size<=a)(new:hX X.prog X.w (upd H a o) h' a o):
  Inv X ah σ (upd H a o) {s with heap:=h',toks:=t'}:=I.un (hs.laid k aF (I.ck.fresh aF)) (I.ck.laid k aF new)
theorem Inv.write{x e:asq}{o:eD}{t':Nat}(I:Inv X ah σ H s)(la:v8 (H x))(he:e=x\/H e=some (.own x))(k:∀b u,b≠e->s.heap.get? b=some u->h'.get? b=some u)(uk:∃u,h'.get? e=some u)
  (new:hX X.prog X.w (upd H x o) h' x o):Inv X ah σ (upd H x o) {s with heap:=h',toks:=t'}:=I.un (hs.write la he k uk) (I.ck.write la he k uk new)
def Inv.Rj{Ri:List (asq×Obj)}(I:Inv X ah σ H s)(h:∀p∈Ri,s.heap.get? p.1=some p.2/\H p.1=none/\p.1≠X.env.locals/\p.1∉X.aA/\∀v,p.2.data≠.cell v):Inv X Ri σ H s:=
 ⟨I.ok,I.os,I.bare,I.base,I.loc,I.cell,I.free,I.n8,λp aF=>(hD.mp aF).elim (λz=>I.pin p (List.mem_append_left _ z)) (h p),I.ck,I.len⟩
def UC{N:List Str}(eL:N.Nodup){i j:Nat}{x:Str}(a:N[i]?=some x)(b:N[j]?=some x):i=j:=by
 obtain⟨af,aG⟩:=hj.mp a;obtain⟨ai,aS⟩:=hj.mp b;exact (List.getElem_inj eL).mp (aG.trans aS.symm)
def Tu{M:Model}{A:c3}{E:ak->aP->Prop}{i:Nat}{x:Str}{v:V}{u:ak}{Q:Unit->aP->Prop}(I:Inv X ah σ H s)(eL:X.N.Nodup)(hi:X.N[i]?=some x)(hx:Loc X.env.scope x)(r:RelV v u)
  (h:∀s',Inv X ah (σ.set i (some v)) H s'->(∃a,Heap.SameBut a s.heap s'.heap/\(a=X.env.locals\/X.env.cells.lookup x=some a))->Q () s') (hf:X.fn x=true\/X.env.scope.names.lookup x=some .local:=by first|exact .inl rfl|exact .inr rfl|assumption):bD M A (storeName X.env x u) Q E s:=by
 obtain⟨m,a9,aB⟩:=id I.loc;have adD:(X.env.scope.kind==.class || (X.env.scope.kind==.module && X.env.locals != X.env.globals))=false:=by rw[I.ok.kind];rfl
 have Qz:i<σ.length:=by rw[I.len];exact (hj.mp hi).1
 have r0:=I.r0;have tracked:∀{a:asq} {h':bX},(∃o,s.heap.get? a=some o/\H a=none)->Heap.SameBut a s.heap h'->e8 X.prog X.w H h':=λ{a h'} au asr b dQ e=>by
  obtain⟨_,_,Qx⟩:=au;refine (I.ck b dQ e).kL (λc fg ax q=>(asr.2 c ?_).trans q) (λ_ q=>q) λ_ _ q=>q;rintro rfl;rcases ax with rfl|ax
  ·rw[Qx] at e;cases e
  ·rw[Qx] at ax;cases ax
 rcases hx with aR|aR
 ·refine wpAny_storeName_local aR a9 (λh' QE asr=>?_) adD
  obtain⟨oL,_,_,wJ,_⟩:=id a9;refine h _ ⟨I.ok,I.os,I.bare,⟨λb o e n ab hx=>?_,λb o e n ab hx=>?_,I.base.free,λb o e hx=>?_,I.base.pQ,I.base.n9,I.base.pP⟩,⟨_,QE,λj y kc aG aS d5=>?_⟩,λy c e=>?_,I.free,I.n8,λp aF=>?_,tracked ⟨oL,wJ,I.free⟩ asr,by simpa using I.len⟩ ⟨_,asr,.inl rfl⟩
  ·exact (asr.2 b (fh (jK (c0 e) I.ok.above))).trans (I.base.keep b o e n ab hx)
  ·obtain⟨c5,aG⟩:=I.base.slot b o e n ab hx;exact⟨c5,(asr.2 b (fh (jK (c0 e) I.ok.above))).trans aG⟩
  ·obtain⟨o',aG⟩:=I.base.there b o e hx;exact⟨o',(asr.2 b (fh (jK (c0 e) I.ok.above))).trans aG⟩
  ·by_cases bJ:j=i
   ·subst bJ;rw[hi] at aG;cases aG;rw[List.getElem?_set_self Qz] at aS;cases aS;exact⟨u,r,.inl ⟨aR,by simp⟩⟩
   ·rw[List.getElem?_set_ne (Ne.symm bJ)] at aS;obtain⟨uK,b_,q⟩:=aB j y kc aG aS d5;refine⟨uK,b_,?_⟩;rcases q with ⟨k,e⟩|⟨k,c,e,z⟩
    ·refine .inl ⟨k,?_⟩
     have:y≠x:=λe=>bJ (UC eL aG (e▸hi));simp[this,e]
    ·exact .inr ⟨k,c,e,z.sameBut asr (r0 y c e)⟩
  ·obtain⟨fg,z⟩:=I.cell y c e;exact⟨fg,z.sameBut asr (r0 y c e)⟩
  ·obtain⟨e,n,ne,j8,d⟩:=I.pin p aF;exact⟨(asr.2 p.1 ne).trans e,n,ne,j8,d⟩
 ·have Ho:X.fn x=true:=by
   rcases hf with z|z
   ·exact z
   ·rw[z] at aR;cases aR
  obtain⟨c,ax⟩:=I.ok.has x (.inl aR);obtain⟨fg,z⟩:=I.cell x c ax;refine wpAny_storeName_cell I.ok.kind aR ax z (λh' dg asr=>?_);obtain⟨jF,QG,ad6⟩:=id z;refine h {s with heap:=h'} ⟨I.ok,I.os,I.bare,⟨λb o e n ab hx=>?_,λb o e n ab hx=>?_,I.base.free,λb o e hx=>?_,I.base.pQ,I.base.n9,I.base.pP⟩,⟨m,a9.sameBut asr (Ne.symm (r0 x c ax)),λj y kc aG aS d5=>?_⟩,λy el e=>?_,I.free,I.n8,λp aF=>?_,tracked ⟨jF,QG,I.n8 x c ax⟩ asr,by simpa using I.len⟩ ⟨c,asr,.inr ax⟩
  ·exact (asr.2 b (fh (jK (c0 e) (I.ok.wh x c Ho ax)))).trans (I.base.keep b o e n ab hx)
  ·obtain⟨c5,aG⟩:=I.base.slot b o e n ab hx;exact⟨c5,(asr.2 b (fh (jK (c0 e) (I.ok.wh x c Ho ax)))).trans aG⟩
  ·obtain⟨o',aG⟩:=I.base.there b o e hx;exact⟨o',(asr.2 b (fh (jK (c0 e) (I.ok.wh x c Ho ax)))).trans aG⟩
  ·by_cases bJ:j=i
   ·subst bJ;rw[hi] at aG;cases aG;rw[List.getElem?_set_self Qz] at aS;cases aS;exact⟨u,r,.inr ⟨.inl aR,c,ax,dg⟩⟩
   ·rw[List.getElem?_set_ne (Ne.symm bJ)] at aS;obtain⟨uK,b_,q⟩:=aB j y kc aG aS d5;refine⟨uK,b_,?_⟩;rcases q with q|⟨k,el,e,jO⟩
    ·exact .inl q
    ·refine .inr ⟨k,el,e,jO.sameBut asr ?_⟩
     rintro rfl;exact bJ (UC eL aG (I.ok.inj _ _ _ e ax▸hi))
  ·by_cases Qr:el=c
   ·subst Qr;exact⟨_,dg⟩
   ·obtain⟨uN,gP⟩:=I.cell y el e;exact⟨uN,gP.sameBut asr Qr⟩
  ·obtain⟨e,n,ne,j8,d⟩:=I.pin p aF;refine⟨(asr.2 p.1 ?_).trans e,n,ne,j8,d⟩;intro q;rw[q,QG] at e;have d6:jF=p.2:=fq e;exact d fg (by rw[<- d6];exact ad6)
def Uq{M:Model}{A:c3}{E:ak->aP->Prop}{i:Nat}{x:Str}{v:V}{u:ak}{Q:Unit->aP->Prop}(I:Inv X ah σ H s)(eL:X.N.Nodup)(hi:X.N[i]?=some x)(hx:Loc X.env.scope x)(r:RelV v u)
  (h:∀s',Inv X ah (σ.set i (some v)) H s'->Q () s') (hf:X.fn x=true\/X.env.scope.names.lookup x=some .local:=by first|exact .inl rfl|exact .inr rfl|assumption):bD M A (storeName X.env x u) Q E s:=
 Tu I eL hi hx r (λs' v3 _=>h s' v3) hf
end
abbrev gH:=ak->Option asq->aE->Prop
abbrev St:=List (Option V)
abbrev c2:=V->aE->Prop
abbrev TE:=St->aE->c2->Prop
abbrev TT:=St->aE->(Bool->aE->Prop)->Prop
abbrev f7:=St->aE->(List V->aE->Prop)->Prop
structure Ends where
 bP:St->aE->Prop
 d9:c2
 ht:St->aE->Prop:=λ_ _=>False
 cH:St->aE->Prop:=λ_ _=>False
abbrev gG:=Ends->St->aE->Prop
def hp(X:bu)(ah:List (asq×Obj))(σ:St)(Q:c2)(u:ak)(s':aP):Prop:=∃v aj,Inv X ah σ aj s'/\RelV v u/\Q v aj
def za(X:bu)(ah:List (asq×Obj))(σ:St)(Q:Bool->aE->Prop)(b:Bool)(s':aP):Prop:=∃aj,Inv X ah σ aj s'/\Q b aj
def Wj(X:bu)(ah:List (asq×Obj))(σ:St)(Q:List V->aE->Prop)(us:List ak)(s':aP):Prop:=∃vs aj,Inv X ah σ aj s'/\Vals vs us/\Q vs aj
noncomputable def rQ(X:bu)(ah:List (asq×Obj))(D:Ends)(f:Flow)(s':aP):Prop:=
 match f with
|.next=>∃cf aj,Inv X ah cf aj s'/\D.bP cf aj
|.brk=>∃cf aj,Inv X ah cf aj s'/\D.ht cf aj
|.cont=>∃cf aj,Inv X ah cf aj s'/\D.cH cf aj
|.ret u=>∃v cf aj,Inv X ah cf aj s'/\RelV v u/\D.d9 v aj
noncomputable def bR(X:bu)(e:bx)(t:TE):Prop:=
 ∀(ah:List (asq×Obj)) (s:aP) (σ:St) (H:aE) (Q:c2),Inv X ah σ H s->t σ H Q->bD (bV X.prog X.w) X.A (eval e X.env) (hp X ah σ Q) X.dR s
noncomputable def jc(X:bu)(e:bx)(t:TT):Prop:=
 ∀(ah:List (asq×Obj)) (s:aP) (σ:St) (H:aE) (Q:Bool->aE->Prop),Inv X ah σ H s->t σ H Q->bD (bV X.prog X.w) X.A (isTrue e X.env (eval e X.env)) (za X ah σ Q) X.dR s
noncomputable def m8(X:bu)(e:bx)(t:TT):Prop:=
 ∀(whole:Sem ak) (ah:List (asq×Obj)) (s:aP) (σ:St) (H:aE) (Q:Bool->aE->Prop),Inv X ah σ H s->t σ H Q->bD (bV X.prog X.w) X.A (isTrue e X.env whole) (za X ah σ Q) X.dR s
def m8.pt{X:bu}{e:bx}{t:TT}(h:m8 X e t):jc X e t:=h _
noncomputable def hJ(X:bu)(es:List bx)(t:f7):Prop:=
 ∀(pos:Pos) (ah:List (asq×Obj)) (s:aP) (σ:St) (H:aE) (Q:List V->aE->Prop),Inv X ah σ H s->t σ H Q->bD (bV X.prog X.w) X.A (spliced (dp pos (bo es X.env))) (Wj X ah σ Q) X.dR s
noncomputable def jY(X:bu)(st:Stmt)(t:gG):Prop:=
 ∀(ah:List (asq×Obj)) (s:aP) (σ:St) (H:aE) (D:Ends),Inv X ah σ H s->t D σ H->bD (bV X.prog X.w) X.A (exec st X.env) (rQ X ah D) X.dR s
noncomputable def jZ(X:bu)(st:List Stmt)(t:gG):Prop:=
 ∀(ah:List (asq×Obj)) (s:aP) (σ:St) (H:aE) (D:Ends),Inv X ah σ H s->t D σ H->bD (bV X.prog X.w) X.A (execs st X.env) (rQ X ah D) X.dR s
def cq{α:Type}{t:Sem α}{Q D4:α->aP->Prop}{M:Model}{A:c3}{E:ak->aP->Prop}{s:aP}(h:bD M A t Q E s)(iN:∀a s,Q a s->D4 a s):bD M A t D4 E s:=hT h iN λ_ _ x=>x
end bG
namespace bG
open PySem PySem.Spec PyProof.Rows
section
variable {X:bu}
def hR(i:Nat):TE:=λσ H Q=>∃v,σ[i]?=some (some v)/\Q v H
def uI(v:V):TE:=λ_ H Q=>Q v H
def YJ{i:Nat}{x:Str}{pos:Pos}(eL:X.N[i]?=some x)(bq:rR X.env.scope x)(hd:(x==("__debug__":Str))=false:=by decide)(jB:(x==("__classdict__":Str))=false:=by decide):bR X (.Name x pos) (hR i):=by
 intro ah s σ H Q I h;obtain⟨v,e,h⟩:=h;obtain⟨m,a9,aB⟩:=I.loc;obtain⟨u,r,l⟩:=aB i x v eL e bq;have fin:hp X ah σ Q u s:=⟨v,H,I,r,h⟩;rcases l with ⟨aR,hm⟩|⟨aR,c,ax,ui⟩
 ·exact wpAny_Name (wpAny_loadName_local I.ok.kind aR a9 hm fin) hd
 ·rcases aR with aR|aR
  ·exact wpAny_Name (wpAny_loadName_cell I.ok.kind aR ax ui fin) hd
  ·exact wpAny_Name (wpAny_loadName_free I.ok.kind aR ax ui fin jB) hd
def YQ{i j pos}:bR X (.Constant (.int i) j pos) (uI (.int i)):=λ_ _ _ H _ I h=>wpAny_Constant_int ⟨.int i,H,I.tok _,⟨_,rfl⟩,h⟩
def ZZ{b j pos}:bR X (.Constant (.bool b) j pos) (uI (.cC b)):=λ_ _ _ H _ I h=>Constant_bool ⟨.cC b,H,I,rfl,h⟩
def YN{j pos}:bR X (.Constant .none j pos) (uI .fC):=λ_ _ _ H _ I h=>Constant_none ⟨.fC,H,I,rfl,h⟩
def YL{x j pos}:bR X (.Constant (.str x) j pos) (uI (.str x)):=λ_ _ _ H _ I h=>Calls.Constant_str ⟨.str x,H,I.tok _,⟨_,rfl⟩,h⟩
def ez(X:bu)(x:Str):Prop:=X.env.kindOf x=some .globalImplicit
def Nk{E:ak->aP->Prop}{ah:List (asq×Obj)}{s:aP}{σ:St}{H:aE}{x:Str}{u:ak}{pos:Pos}{Q:ak->aP->Prop}(I:Inv X ah σ H s)(bf:ez X x)(hm:X.mg x=some u)(h:Q u s)
  (hd:(x==("__debug__":Str))=false:=by decide):bD (bV X.prog X.w) X.A (eval (.Name x pos) X.env) Q E s:=
 Calls.Name_function_global I.ok.kind bf (Calls.loadGlobal_global (by rw[I.ok.glob];exact I.mod.glob.keeps I.ht) hm h) hd
def p7{E:ak->aP->Prop}{ah:List (asq×Obj)}{s:aP}{σ:St}{H:aE}{x:Str}{u:ak}{pos:Pos}{Q:ak->aP->Prop}(I:Inv X ah σ H s)(bf:ez X x)(hm:X.mg x=none)(bq:bootBuiltins x=some u)(h:Q u s)
  (a9:x≠"__name__":=by decide) (hd:(x==("__debug__":Str))=false:=by decide):bD (bV X.prog X.w) X.A (eval (.Name x pos) X.env) Q E s:=by
 obtain⟨mE,af,ai⟩:=I.mod.blt;exact Calls.Name_function_global I.ok.kind bf (Calls.loadGlobal_builtin (by rw[I.ok.glob];exact I.mod.glob.keeps I.ht) hm (by rw[I.ok.blt];exact af.keeps I.ht) ((ai x a9).trans bq) h) hd
def U8{x:Str}{v:V}{u:ak}{pos:Pos}(bf:ez X x)(hm:X.mg x=some u)(r:RelV v u)(hd:(x==("__debug__":Str))=false:=by decide):bR X (.Name x pos) (uI v):=
 λ_ _ _ H _ I h=>Nk I bf hm ⟨v,H,I,r,h⟩ hd
variable {a b:bx}{cj dZ:TE}{pos:Pos}
noncomputable def y9(X:bu)(op:CmpOp)(a b:bx)(t:TE):Prop:=
 ∀(ah:List (asq×Obj)) (s:aP) (σ:St) (H:aE) (Q:c2),Inv X ah σ H s->t σ H Q ->
  bD (bV X.prog X.w) X.A (eval a X.env) (λv dk=>bD (bV X.prog X.w) X.A (eval b X.env) (λu mL=>bD (bV X.prog X.w) X.A (hE op v u) (hp X ah σ Q) X.dR mL) X.dR dk) X.dR s
def UD(b:bx){op:CmpOp}(h:op≠.In)(ai:op≠.NotIn):oy op b=false:=by
 have aG:(op==CmpOp.In)=false:=by cases op <;> first|rfl|exact absurd rfl h
 have aS:(op==CmpOp.NotIn)=false:=by cases op <;> first|rfl|exact absurd rfl ai
 cases b <;> simp[oy,aG,aS]
def alp(cj:TE):TE:=λσ H Q=>cj σ H λx H1=>Q (.cC (decide (x=.fC))) H1
def Zz(cj:TE):TE:=λσ H Q=>cj σ H λx H1=>Q (.cC (!decide (x=.fC))) H1
def RelV.Rb{x:V}{v:ak}(r:RelV x v):(v==Value.none)=decide (x=.fC):=by
 cases x with
|fC=>cases r;rfl
|cC _=>cases r;rfl
|int _=>obtain⟨t,rfl⟩:=r;rfl
|str _=>obtain⟨t,rfl⟩:=r;rfl
|rX _=>obtain⟨t,rfl⟩:=r;rfl
|wm _=>obtain⟨t,rfl⟩:=r;rfl
|ref _=>cases r;rfl
|ty _=>cases r;rfl
def VO{j pos'}(au:bR X a cj):y9 X .Is a (.Constant .none j pos') (alp cj):=by
 intro ah s σ H Q I h;refine cq (au ah s σ H _ I h) λv s1 ⟨x,H1,a8,a6,aQ⟩=>?_;exact Constant_none (is_none_gen ⟨.cC _,H1,a8,by rw[a6.Rb];rfl,aQ⟩)
def aq0{j pos'}(au:bR X a cj):y9 X .IsNot a (.Constant .none j pos') (Zz cj):=by
 intro ah s σ H Q I h;refine cq (au ah s σ H _ I h) λv s1 ⟨x,H1,a8,a6,aQ⟩=>?_;exact Constant_none (isnot_none_gen ⟨.cC _,H1,a8,by rw[a6.Rb];rfl,aQ⟩)
def La(t:TE):TT:=λσ H Q=>t σ H λx H1=>∃c,x=.cC c/\Q c H1
def YR{op:CmpOp}{t:TE}(h:y9 X op a b t)(af:oy op b=false:=by first|exact UD _ (by decide) (by decide)|rfl):bR X (.Compare a [op] [b] pos) t:=λah s σ H Q I hw=>wpAny_Compare1 (h ah s σ H Q I hw) af
def VJ{op:CmpOp}{t:TE}(h:y9 X op a b t)(af:oy op b=false:=by first|exact UD _ (by decide) (by decide)|rfl):jc X (.Compare a [op] [b] pos) (La t):=by
 intro ah s σ H Q I hw;refine wpAny_isTrue_Compare1 (cq (h ah s σ H _ I hw) λv s1 af=>cq af λu s2 ai=>cq ai λc s3 ⟨x,H1,a8,a6,aQ⟩=>?_) af;obtain⟨d,rfl,q⟩:=aQ;cases a6;exact nE ⟨H1,a8,q⟩
def YE{e:bx}{t:TE}(h:bR X e t)(he:∀whole,isTrue e X.env whole=(do let v <- whole;standAt e.pos;holding [v] (truthy v)):=by intro _;rfl):jc X e (La t):=by
 intro ah s σ H Q I hw;refine isTrue_plain (cq (h ah s σ H _ I hw) λv s1 ⟨x,H1,a8,a6,aQ⟩=>?_) (he _);obtain⟨d,rfl,q⟩:=aQ;cases a6;exact nE ⟨H1,a8,q⟩
variable {mM Bh:TT}{rest:List bx}
def alf(t u:TT):TT:=λσ H Q=>t σ H λc H1=>if c=true then u σ H1 Q else Q false H1
def als(t u:TT):TT:=λσ H Q=>t σ H λc H1=>if c=true then Q true H1 else u σ H1 Q
def alr(t:TT):TT:=λσ H Q=>t σ H λc H1=>Q (!c) H1
def aqK(au:jc X a mM):m8 X (.BoolOp .And [a] pos) mM:=by
 intro xr ah s σ H Q I h;refine isTrue_and (cq (au ah s σ H Q I h) λc s1 e=>?_);cases c with
|true=>exact isTrue_and_nil e
|false=>exact e
def YA(au:jc X a mM):m8 X (.BoolOp .Or [a] pos) mM:=by
 intro xr ah s σ H Q I h;refine isTrue_or (cq (au ah s σ H Q I h) λc s1 e=>?_);cases c with
|false=>exact isTrue_or_nil e
|true=>exact e
def YB(au:jc X a mM)(ab:m8 X (.BoolOp .And (b::rest) pos) Bh):m8 X (.BoolOp .And (a::b::rest) pos) (alf mM Bh):=by
 intro xr ah s σ H Q I h;refine isTrue_and (cq (au ah s σ H _ I h) λc s1 ⟨H1,a8,aQ⟩=>?_);cases c with
|true=>exact ab xr ah s1 σ H1 Q a8 aQ
|false=>exact⟨H1,a8,aQ⟩
def ZT(au:jc X a mM)(ab:m8 X (.BoolOp .Or (b::rest) pos) Bh):m8 X (.BoolOp .Or (a::b::rest) pos) (als mM Bh):=by
 intro xr ah s σ H Q I h;refine isTrue_or (cq (au ah s σ H _ I h) λc s1 ⟨H1,a8,aQ⟩=>?_);cases c with
|true=>exact⟨H1,a8,aQ⟩
|false=>exact ab xr ah s1 σ H1 Q a8 aQ
def YF(au:jc X a mM):jc X (.UnaryOp .Not a pos) (alr mM):=by
 intro ah s σ H Q I h;exact isTrue_not (au ah s σ H (λc H1=>Q (!c) H1) I h)
def ZG(cj dZ:TE):TE:=λσ H Q=>cj σ H λx H1=>∃c,x=.cC c/\if c=true then dZ σ H1 Q else Q (.cC false) H1
def alu(cj dZ:TE):TE:=λσ H Q=>cj σ H λx H1=>∃c,x=.cC c/\if c=true then Q (.cC true) H1 else dZ σ H1 Q
def Zy(cj:TE):TE:=λσ H Q=>cj σ H λx H1=>∃c,x=.cC c/\Q (.cC (!c)) H1
def VL{op}{t:TE}(h:bR X a t):bR X (.BoolOp op [a] pos) t:=λah s σ H Q I hw=>BoolOp_one (h ah s σ H Q I hw)
def YS(au:bR X a cj)(ab:bR X (.BoolOp .And (b::rest) pos) dZ):bR X (.BoolOp .And (a::b::rest) pos) (ZG cj dZ):=by
 intro ah s σ H Q I h;refine BoolOp_and (cq (au ah s σ H _ I h) λv s1 ⟨x,H1,a8,a6,aQ⟩=>?_);obtain⟨c,rfl,aQ⟩:=aQ;cases a6;refine nE ?_;cases c with
|true=>exact ab ah s1 σ H1 Q a8 aQ
|false=>exact⟨.cC false,H1,a8,rfl,aQ⟩
def ZX(au:bR X a cj)(ab:bR X (.BoolOp .Or (b::rest) pos) dZ):bR X (.BoolOp .Or (a::b::rest) pos) (alu cj dZ):=by
 intro ah s σ H Q I h;refine BoolOp_or (cq (au ah s σ H _ I h) λv s1 ⟨x,H1,a8,a6,aQ⟩=>?_);obtain⟨c,rfl,aQ⟩:=aQ;cases a6;refine nE ?_;cases c with
|false=>exact ab ah s1 σ H1 Q a8 aQ
|true=>exact⟨.cC true,H1,a8,rfl,aQ⟩
def YM(au:bR X a cj):bR X (.UnaryOp .Not a pos) (Zy cj):=by
 intro ah s σ H Q I h;refine UnaryOp_ (cq (au ah s σ H _ I h) λv s1 ⟨x,H1,a8,a6,aQ⟩=>?_);obtain⟨c,rfl,aQ⟩:=aQ;cases a6;exact not_of (nE ⟨.cC (!c),H1,a8,rfl,aQ⟩)
def alm(t:TT)(cj dZ:TE):TE:=λσ H Q=>t σ H λc H1=>if c=true then cj σ H1 Q else dZ σ H1 Q
def apF{c:bx}(ax:jc X c mM)(au:bR X a cj)(ab:bR X b dZ):bR X (.IfExp c a b pos) (alm mM cj dZ):=by
 intro ah s σ H Q I h;refine wpAny_IfExp (cq (ax ah s σ H _ I h) λd s1 ⟨H1,a8,aQ⟩=>?_);cases d with
|true=>exact au ah s1 σ H1 Q a8 aQ
|false=>exact ab ah s1 σ H1 Q a8 aQ
end
end bG
namespace bG
open PySem PySem.Spec PyProof.Rows
noncomputable def fP(K:bb)(H:aE)(a:asq)(xs:List V):Prop:=
 fN H a (.lst xs) \/
  ∃(o:Obj) (its:Array ak) (n:Nat),K.lookup a=some o/\o.cls=.type "list"/\o.dict=none/\o.data=.seq its n/\its.size<=b8/\Vals xs its.toList
noncomputable def cX(K:bb)(H:aE)(a:asq)(xs:List V):Prop:=
 fN H a (.tup xs) \/
  ∃(o:Obj) (its:Array ak) (n:Nat),K.lookup a=some o/\o.cls=.type "tuple"/\o.data=.seq its n/\its.size<=b8/\Vals xs its.toList
noncomputable def _j:ak->Option V
|.none=>some .fC
|.bool b=>some (.cC b)
|.int i _=>some (.int i)
|.str x _=>some (.str x)
|.bytes b _=>some (.rX b)
|.float b _=>some (.wm b)
|.ref a=>some (.ref a)
|.type n=>some (.ty n)
|_=>none
def RelV.abs{x:V}{u:ak}(r:RelV x u):_j u=some x:=by
 cases x with
|fC=>cases r;rfl
|cC _=>cases r;rfl
|int _=>obtain⟨t,rfl⟩:=r;rfl
|str _=>obtain⟨t,rfl⟩:=r;rfl
|rX _=>obtain⟨t,rfl⟩:=r;rfl
|wm _=>obtain⟨t,rfl⟩:=r;rfl
|ref _=>cases r;rfl
|ty _=>cases r;rfl
def RelV.inj{x y:V}{u:ak}(r:RelV x u)(q:RelV y u):x=y:=fq (r.abs.symm.trans q.abs)
theorem Vals.inj:∀{xs ys:List V} {us:List ak},Vals xs us->Vals ys us->xs=ys
|_,_,_,.nil,.nil=>rfl
|_,_,_,.cons r t,.cons b_ t'=>by rw[r.inj b_,Vals.inj t t']
section
variable {X:bu}{ah:List (asq×Obj)}{σ:St}{H:aE}{s:aP}{a:asq}{xs ys:List V}
def fP.of{K:bb}(h:H a=some (.lst xs)):fP K H a xs:=.inl (.inl h)
def cX.of{K:bb}(h:H a=some (.tup xs)):cX K H a xs:=.inl (.inl h)
def Inv.list(I:Inv X ah σ H s)(h:fP X.K H a xs):∃its:List ak,Vals xs its/\PlainL s.heap a its.toArray/\xs.length<=b8:=by
 rcases h with h|⟨o,its,n,aR,ax,hd,asr,ar,r⟩
 ·obtain⟨z,its,n,r,e⟩:=h.ok I.ck;exact⟨its,r,⟨_,n,e,rfl,rfl,rfl⟩,z⟩
 ·refine⟨its.toList,r,⟨o,n,I.iv a o aR,ax,hd,by simpa using asr⟩,?_⟩
  have e:=r.length;simp only[q1] at e;omega
def Inv.tuple(I:Inv X ah σ H s)(h:cX X.K H a xs):∃its:List ak,Vals xs its/\IsTup s.heap a its.toArray/\xs.length<=b8:=by
 rcases h with h|⟨o,its,n,aR,ax,asr,ar,r⟩
 ·obtain⟨z,its,r,p⟩:=h.ok I.ck;exact⟨its,r,p,z⟩
 ·refine⟨its.toList,r,⟨o,I.iv a o aR,ax,n,by simpa using asr⟩,?_⟩
  have e:=r.length;simp only[q1] at e;omega
def Inv.afM(I:Inv X ah σ H s)(h:fP X.K H a xs)(h':fP X.K H a ys):xs=ys:=by
 obtain⟨its,r,⟨o,n,e,_,_,d⟩,_⟩:=I.list h;obtain⟨its',b_,⟨o',w1,bN,_,_,d'⟩,_⟩:=I.list h';rw[e] at bN;cases bN;rw[d] at d';injection d' with r1 _;have:its=its':=by simpa using congrArg Array.toList r1
 subst this;exact r.inj b_
def Inv.Bn(I:Inv X ah σ H s)(h:cX X.K H a xs)(h':cX X.K H a ys):xs=ys:=by
 obtain⟨its,r,⟨o,e,_,n,d⟩,_⟩:=I.tuple h;obtain⟨its',b_,⟨o',bN,_,w1,d'⟩,_⟩:=I.tuple h';rw[e] at bN;cases bN;rw[d] at d';injection d' with r1 _;have:its=its':=by simpa using congrArg Array.toList r1
 subst this;exact r.inj b_
end
abbrev bu.oq(X:bu)(E:ak->aP->Prop):bu:={X with dR:=E}
abbrev bu.j9(X:bu):bu:=X.oq λ_ _=>False
theorem bu.Ok.oq{X:bu}(ok:X.Ok)(E:ak->aP->Prop):(X.oq E).Ok:=
 ⟨ok.mod,ok.kind,ok.glob,ok.blt,ok.above,ok.inj,ok.has,ok.wh,ok.hd,ok.frames,ok.Be,ok.zp,ok.bs,ok.asP,ok.w6,ok.wi,ok.mw,ok.r6⟩
def bu.Ok.qU{X:bu}{E:ak->aP->Prop}(ok:(X.oq E).Ok):X.Ok:=
 ⟨ok.mod,ok.kind,ok.glob,ok.blt,ok.above,ok.inj,ok.has,ok.wh,ok.hd,ok.frames,ok.Be,ok.zp,ok.bs,ok.asP,ok.w6,ok.wi,ok.mw,ok.r6⟩
section
variable {X:bu}{ah:List (asq×Obj)}{σ:St}{H:aE}{s:aP}{E:ak->aP->Prop}
theorem Inv.oq(I:Inv X ah σ H s)(E:ak->aP->Prop):Inv (X.oq E) ah σ H s:=⟨I.ok.oq E,I.os,I.bare,I.base,I.loc,I.cell,I.free,I.n8,I.pin,I.ck,I.len⟩
theorem Inv.qU(I:Inv (X.oq E) ah σ H s):Inv X ah σ H s:=⟨I.ok.qU,I.os,I.bare,I.base,I.loc,I.cell,I.free,I.n8,I.pin,I.ck,I.len⟩
theorem rQ.qU{D:Ends}{f:Flow}{s':aP}(h:rQ (X.oq E) ah D f s'):rQ X ah D f s':=by
 cases f with
|next=>obtain⟨cf,aj,I,q⟩:=h;exact⟨cf,aj,I.qU,q⟩
|brk=>obtain⟨cf,aj,I,q⟩:=h;exact⟨cf,aj,I.qU,q⟩
|cont=>obtain⟨cf,aj,I,q⟩:=h;exact⟨cf,aj,I.qU,q⟩
|ret u=>obtain⟨v,cf,aj,I,r,q⟩:=h;exact⟨v,cf,aj,I.qU,r,q⟩
theorem jZ.j9{st:List Stmt}{t:gG}(h:jZ X.j9 st t):jZ X st t:=λah s σ H D I hw=>
 hT (h ah s σ H D (I.oq _) hw) (λ_ _ q=>q.qU) λ_ _ z=>l2 z
end
section
variable {X:bu}{st:Stmt}{rest:List Stmt}{t u:gG}{e:bx}{gi:TE}{pos:Pos}
def ZA:gG:=λD σ H=>D.bP σ H
def alw(t u:gG):gG:=λD σ H=>t {D with bP:=u D} σ H
def aqN:jZ X [] ZA:=λ_ _ σ H _ I h=>wpAny_execs_nil ⟨σ,H,I,h⟩
def apB(af:jY X st t)(ai:jZ X rest u):jZ X (st::rest) (alw t u):=by
 intro ah s σ H D I h;refine wpAny_execs_cons (cq (af ah s σ H {D with bP:=u D} I h) λf s1 q=>?_);cases f with
|next=>
  obtain⟨cf,aj,v3,q⟩:=q;exact ai ah s1 cf aj D v3 q
|ret v=>exact q
|brk=>exact q
|cont=>exact q
def aqM(af:jY X st t):jZ X [st] t:=by
 intro ah s σ H D I h;refine wpAny_execs_cons (cq (af ah s σ H D I h) λf s1 q=>?_);cases f with
|next=>exact wpAny_execs_nil q
|ret v=>exact q
|brk=>exact q
|cont=>exact q
def Inv.quiet{ah:List (asq×Obj)}{σ:St}{H:aE}{s:aP}(I:Inv X ah σ H s):interactive X.env=false:=by simp[interactive,I.ok.kind]
def ZD(gi:TE):gG:=λD σ H=>gi σ H λ_ H1=>D.bP σ H1
def yq(he:bR X e gi)(asr:kh e none pos.line X.env=pure false:=by rfl):jY X (.Expr e pos) (ZD gi):=by
 intro ah s σ H D I h;exact wpAny_Expr_any (cq (he ah s σ H _ I h) λv s1 ⟨x,H1,a8,a6,aQ⟩=>⟨σ,H1,a8,aQ⟩) I.quiet asr
def alv(gi:TE):gG:=λD σ H=>gi σ H D.d9
def yD(he:bR X e gi):jY X (.Return (some e) pos) (alv gi):=by
 intro ah s σ H D I h;exact wpAny_Return_some (cq (he ah s σ H _ I h) λv s1 ⟨x,H1,a8,a6,aQ⟩=>⟨x,σ,H1,a8,a6,aQ⟩)
def Zw:gG:=λD _ H=>D.d9 .fC H
def aqO:jY X (.Return none pos) Zw:=λ_ _ σ H _ I h=>wpAny_Return_none ⟨.fC,σ,H,I,rfl,h⟩
def aln(c:TT)(t u:gG):gG:=λD σ H=>c σ H λb H1=>if b=true then t D σ H1 else u D σ H1
def ZU{c:bx}{a b:List Stmt}{kb:TT}(ax:jc X c kb)(au:jZ X a t)(ab:jZ X b u):jY X (.If c a b pos) (aln kb t u):=by
 intro ah s σ H D I h;refine wpAny_If (cq (ax ah s σ H _ I h) λd s1 ⟨H1,a8,aQ⟩=>?_);cases d with
|true=>exact au ah s1 σ H1 D a8 aQ
|false=>exact ab ah s1 σ H1 D a8 aQ
end
abbrev nX:=V->St->aE->(St->aE->Prop)->Prop
abbrev o8:=List V->St->aE->(St->aE->Prop)->Prop
noncomputable def rM(X:bu)(target:bx)(t:nX):Prop:=
 ∀(ah:List (asq×Obj)) (s:aP) (σ:St) (H:aE) (v:V) (u:ak) (Q:St->aE->Prop),Inv X ah σ H s->RelV v u->t v σ H Q ->
  bD (bV X.prog X.w) X.A (assign target X.env u) (λ_ s'=>∃cf aj,Inv X ah cf aj s'/\Q cf aj) X.dR s
noncomputable def rN(X:bu)(ts:List bx)(t:o8):Prop:=
 ∀(ah:List (asq×Obj)) (s:aP) (σ:St) (H:aE) (vs:List V) (us:List ak) (Q:St->aE->Prop),Inv X ah σ H s->Vals vs us->t vs σ H Q ->
  bD (bV X.prog X.w) X.A (assignInOrder ((pY ts X.env).map (·.2)) us) (λ_ s'=>∃cf aj,Inv X ah cf aj s'/\Q cf aj) X.dR s
section
variable {X:bu}{pos:Pos}
def OH(i:Nat):nX:=λv σ H Q=>Q (σ.set i (some v)) H
def aqW{i:Nat}{x:Str}(eL:X.N.Nodup)(hi:X.N[i]?=some x)(hx:Loc X.env.scope x)(hf:X.fn x=true\/X.env.scope.names.lookup x=some .local:=by first|exact .inl rfl|exact .inr rfl|assumption):rM X (.Name x pos) (OH i):=by
 intro ah s σ H v u Q I r h;exact wpAny_assign_Name (Uq I eL hi hx r (λs' v3=>⟨_,H,v3,h⟩) hf)
def ade:o8:=λvs σ H Q=>vs=[]/\Q σ H
def Z8(t:nX)(u:o8):o8:=λvs σ H Q=>∃v r,vs=v::r/\t v σ H λcf aj=>u r cf aj Q
def aqV:rN X [] ade:=by
 intro ah s σ H vs us Q I r h;obtain⟨e,h⟩:=h;subst e;cases r;exact assignInOrder_nil ⟨σ,H,I,h⟩
def apE{e:bx}{es:List bx}{t:nX}{u:o8}(af:rM X e t)(ai:rN X es u)
  (asr:(pY (e::es) X.env).map (·.2)=assign e X.env::(pY es X.env).map (·.2):=by rfl):rN X (e::es) (Z8 t u):=by
 intro ah s σ H vs us Q I r h;obtain⟨v,Lo,aG,h⟩:=h;subst aG;cases r with
|cons r xe=>
  rw[asr];refine assignInOrder_cons (cq (af ah s σ H _ _ _ I r h) λ_ s1 ⟨tR,H1,a8,aQ⟩=>?_);exact ai ah s1 tR H1 _ _ Q a8 xe aQ
def adf(K:bb)(n:Nat)(t:o8):nX:=λv σ H Q=>∃a xs,v=.ref a/\cX K H a xs/\xs.length=n/\t xs σ H Q
def YI{es:List bx}{k:Nat}{t:o8}{n:Nat}(ax:X.calm=true)(h:rN X es t)
  (a9:(pY es X.env).length=n:=by rfl) (lS:(pY es X.env).findIdx? (·.1)=none:=by rfl):rM X (.Tuple es k pos) (adf X.K n t):=by
 intro ah s σ H v u Q I r hw;obtain⟨a,xs,aG,bg,aB,hw⟩:=hw;subst aG;cases r;obtain⟨its,b0,aZ,ar⟩:=I.tuple bg;refine assign_Tuple_tuple (I.ok.hd ax) aZ (by simp[a9,<- aB,b0.length]) lS λh' hx=>?_;have a8:Inv X ah σ H {s with heap:=h'}:=I.kept (t':=s.toks) λb o e=>hx b o (fh (c0 e)) e;exact h ah _ σ H xs _ Q a8 (by simpa using b0) hw
def alg(gi:TE)(g:nX):gG:=λD σ H=>gi σ H λx H1=>g x σ H1 D.bP
def VK{i:Nat}{x:Str}{e:bx}{gi:TE}{pos':Pos}(eL:X.N.Nodup)(hi:X.N[i]?=some x)(hx:Loc X.env.scope x)(he:bR X e gi)(asr:kh e (some (.Name x pos')) pos.line X.env=pure false:=by rfl)(hf:X.fn x=true\/X.env.scope.names.lookup x=some .local:=by first|exact .inl rfl|exact .inr rfl|assumption):
  jY X (.Assign [.Name x pos'] e pos) (alg gi (OH i)):=by
 intro ah s σ H D I h;refine wpAny_Assign_Name (cq (he ah s σ H _ I h) λv s1 ⟨y,H1,a8,a6,aQ⟩=>?_) asr;exact Uq a8 eL hi hx a6 (λs2 cx=>⟨_,H1,cx,aQ⟩) hf
end
section
variable {X:bu}{pos:Pos}
noncomputable def arK(c:TT)(dZ:gG):gG:=λD σ H=>∃W:Nat->St->aE->Prop,(∃m,W m σ H)/\∀m σ H,W m σ H ->
 c σ H λb H1=>if b=true then ∃N:St->aE->Prop,(∀cf aj,N cf aj->∃iw,iw<m/\W iw cf aj)/\dZ {D with bP:=N,cH:=N,ht:=D.bP} σ H1 else D.bP σ H1
def apC{c:bx}{body:List Stmt}{kb:TT}{dZ:gG}(aF:PassesOwn (bV X.prog X.w) X.A X.env X.dR)(ax:jc X c kb)(ab:jZ X body dZ):jY X (.While c body [] pos) (arK kb dZ):=by
 intro ah s σ H D I h;obtain⟨W,⟨m0,uM⟩,turn⟩:=h;refine wpAny_While (codeAny_whileLoop (λn s'=>∃cf aj,Inv X ah cf aj s'/\W n cf aj) ?_ m0 ⟨σ,H,I,uM⟩);rintro n s1 ⟨tR,H1,a8,sN⟩;refine wpAny_passesOwn aF (cq (ax ah s1 tR H1 _ a8 (turn n tR H1 sN)) λb s2 ⟨bk,cx,a7⟩=>?_);cases b with
|true=>
  obtain⟨N,eL,a7⟩:=a7;rw[if_pos rfl];refine wpAny_passesOwn aF (cq (ab ah s2 tR bk _ cx a7) λf s3 cL=>?_);cases f with
  |next=>
   obtain⟨jV,dj,dW,uz⟩:=cL;obtain⟨iw,hm,qV⟩:=eL jV dj uz;exact⟨iw,hm,jV,dj,dW,qV⟩
  |cont=>
   obtain⟨jV,dj,dW,uz⟩:=cL;obtain⟨iw,hm,qV⟩:=eL jV dj uz;exact⟨iw,hm,jV,dj,dW,qV⟩
  |brk=>exact cL
  |ret v=>exact cL
|false=>
  rw[if_neg ou];exact wpAny_execs_nil ⟨tR,bk,cx,a7⟩
end
structure k4 where
 go:Nat->aE->Prop
 mU:Nat->aE->V->aE->Prop
 stop:Nat->aE->Prop
noncomputable def mi(X:bu)(ah:List (asq×Obj))(H:aE)(b:asq):Prop:=
 H b=none/\b≠X.env.locals/\b∉X.aA/\(b∈X.ex\/X.dI.heap.objs.size<=b)/\(∀x c,X.env.cells.lookup x=some c->c≠b)/\∀p∈X.er++ah,p.1≠b
def Inv.wo{X:bu}{ah:List (asq×Obj)}{σ:St}{H aj:aE}{s:aP}{b:asq}(I:Inv X ah σ H s)(ab:s.heap.objs.size<=b)(a9:aj b=none):mi X ah aj b:=by
 refine⟨a9,hS (jK I.lt ab),I.af8 ab,.inr (mS I.ll ab),λx c e z=>?_,λp aF z=>?_⟩
 ·obtain⟨v,q⟩:=I.cell x c e;exact absurd (jK q.lt (by rw[z];exact ab)) (Nat.lt_irrefl _)
 ·exact absurd (jK (c0 (I.pin p aF).1) (by rw[z];exact ab)) (Nat.lt_irrefl _)
structure Turn(P:cJ)(w:cB)(K:bb)(da:bx)(J:k4)(ct:List asq)(it:asq)(i7:Nat->bX->Prop):Prop where
 mem:it∈ct
 obj:∀i h,i7 i h->∀b∈ct,∃o,h.get? b=some o/\∀v,o.data≠.cell v
 keep:∀i h h',i7 i h->(∀b∈ct,∀o,h.get? b=some o->h'.get? b=some o)->i7 i h'
 item:∀(X:bu),X.prog=P->X.w=w->X.K=K->X.calm=true->∀(i:Nat) (ah:List (asq×Obj)) (s:aP) (σ:St) (H:aE) (E:ak->aP->Prop),Inv X ah σ H s->(∀b∈ct,mi X ah H b)->i7 i s.heap->J.go i H ->
  bD (bV P w) X.A (pyNext (.ref it)) (λr s1=>∃u,r=some u /\
   bD (bV P w) X.A (letOwnedTupleGo da (.ref it) u) (λ_ s2=>∃x aj,Inv X ah σ aj s2/\RelV x u/\J.mU i H x aj/\i7 (i+1) s2.heap/\∀b∈ct,aj b=none) E s1) E s
 done:∀(X:bu),X.prog=P->X.w=w->X.K=K->X.calm=true->∀(i:Nat) (ah:List (asq×Obj)) (s:aP) (σ:St) (H:aE) (E:ak->aP->Prop),Inv X ah σ H s->(∀b∈ct,mi X ah H b)->i7 i s.heap->J.stop i H ->
  bD (bV P w) X.A (pyNext (.ref it)) (λr s1=>r=none/\Inv X ah σ H s1) E s
 self:∀(A:c3) (i:Nat) (s:aP) (Q:ak->aP->Prop) (E:ak->aP->Prop),i7 i s.heap->Q (.ref it) s->bD (bV P w) A (pyIter (.ref it)) Q E s
abbrev TI:=St->aE->(k4->aE->Prop)->Prop
noncomputable def Ox(X:bu)(ah:List (asq×Obj))(σ:St)(da:bx)(R:k4->aE->Prop)(Ii:ak)(s2:aP):Prop:=
 ∃(it:asq) (ct:List asq) (i7:Nat->bX->Prop) (J:k4) (aj:aE),Ii=.ref it/\Inv X ah σ aj s2/\Turn X.prog X.w X.K da J ct it i7/\i7 0 s2.heap/\(∀b∈ct,mi X ah aj b)/\R J aj
noncomputable def o6(X:bu)(da iter:bx)(pR:TI):Prop:=
 ∀(ah:List (asq×Obj)) (s:aP) (σ:St) (H:aE) (R:k4->aE->Prop),Inv X ah σ H s->pR σ H R ->
  bD (bV X.prog X.w) X.A (eval iter X.env) (λv s1=>bD (bV X.prog X.w) X.A (pyIter v) (Ox X ah σ da R) X.dR s1) X.dR s
def DN{M:Model}{A:c3}{E:ak->aP->Prop}{s:aP}{da:bx}{it:asq}{u:ak}{o:Obj}{n:String}{vs:Array ak}{Q:Unit->aP->Prop}(aH:s.heap.get? it=some o)(ax:o.cls=.type n)(hd:o.data=.fields vs)
    (a9:["enumerate","zip","dict_itemiterator","dict_reverseitemiterator","odict_iterator","itertools.zip_longest","itertools.pairwise"].contains n=false) (iN:Q () s):bD M A (letOwnedTupleGo da (.ref it) u) Q E s:=by
  unfold letOwnedTupleGo;cases da <;> first
    |exact cG iN
    | (cases u <;> first
        |exact cG iN
        | (refine a3 (wpAny_load aH ?_)
           rw[ax,hd];show bD M A (if (["enumerate","zip","dict_itemiterator","dict_reverseitemiterator","odict_iterator","itertools.zip_longest","itertools.pairwise"].contains n && vs[0]?==some (rawInt _))=true then _ else _) Q E s;rw[if_neg (by intro h;rw[a9,Bool.false_and] at h;cases h)];exact cG iN))
noncomputable def y4(K:bb)(a:asq):k4:=
 ⟨λi H=>∃xs x,fP K H a xs/\xs[i]?=some x,λi H x aj=>aj=H/\∀xs,fP K H a xs->xs[i]?=some x,λi H=>∃xs,fP K H a xs/\xs.length<=i⟩
noncomputable def y6(K:bb)(a:asq):k4:=
 ⟨λi H=>∃xs x,cX K H a xs/\xs[i]?=some x,λi H x aj=>aj=H/\∀xs,cX K H a xs->xs[i]?=some x,λi H=>∃xs,cX K H a xs/\xs.length<=i⟩
def y5(lo:Int)(n:Nat):k4:=⟨λi _=>i<n,λi H x aj=>aj=H/\x=.int (lo+i),λi _=>n<=i⟩
def Tt{P:cJ}{w:cB}{K:bb}{da:bx}(a it:asq):Turn P w K da (y4 K a) [it] it (λi h=>h.IsListIter it a i) where
 mem:=by simp
 obj:=λi h st b ab=>by
  have e:b=it:=by simpa using ab
  subst e;obtain⟨o,e,c,d⟩:=st;exact⟨o,e,λv z=>by rw[d] at z;cases z⟩
 keep:=λi h h' st k=>st.at λo e=>k it (by simp) o e
 item:=by
  intro X gb hw gX ax i ah s σ H E I hf st bf;subst gb hw gX;obtain⟨xs,x,bg,hx⟩:=bf;obtain⟨its,b0,p,ar⟩:=I.list bg;obtain⟨u,b4,dH⟩:=b0.get hx;obtain⟨f0,f1,f2,gJ,f4,gK⟩:=hf it (by simp);refine wpAny_pyNext_list_item st p.isList (x:=u) (by simpa using b4) λh' jj kJ=>?_;have a8:Inv X ah σ H {s with heap:=h'}:=I.turned (t':=s.toks) (λb o ab e=>(kJ.2 b ab).trans e) f0 f1 gJ f4 gK;obtain⟨o,e,c,d⟩:=id jj;exact⟨u,rfl,DN (s:={s with heap:=h'}) e c d (by decide) ⟨x,H,a8,dH,⟨rfl,λys bw=>by rw[I.afM bw bg];exact hx⟩,jj,λb ab=>(hf b ab).1⟩⟩
 done:=by
  intro X gb hw gX ax i ah s σ H E I hf st bf;subst gb hw gX;obtain⟨xs,bg,hx⟩:=bf;obtain⟨its,b0,p,ar⟩:=I.list bg;obtain⟨f0,f1,f2,gJ,f4,gK⟩:=hf it (by simp);have aB:=b0.length;exact wpAny_pyNext_list_end (I.ok.hd ax) st p.isList (by simp;omega) λh' dz=>⟨rfl,I.turned (t':=s.toks) (λb o ab e=>dz b o ab e) f0 f1 gJ f4 gK⟩
 self:=λ_ _ _ _ _ st h=>wpAny_pyIter_listiter st h
def SX{P:cJ}{w:cB}{K:bb}{da:bx}(a it:asq):Turn P w K da (y6 K a) [it] it (λi h=>h.IsTupleIter it a i) where
 mem:=by simp
 obj:=λi h st b ab=>by
  have e:b=it:=by simpa using ab
  subst e;obtain⟨o,e,c,d⟩:=st;exact⟨o,e,λv z=>by rw[d] at z;cases z⟩
 keep:=λi h h' st k=>st.at λo e=>k it (by simp) o e
 item:=by
  intro X gb hw gX ax i ah s σ H E I hf st bf;subst gb hw gX;obtain⟨xs,x,bg,hx⟩:=bf;obtain⟨its,b0,p,ar⟩:=I.tuple bg;obtain⟨u,b4,dH⟩:=b0.get hx;obtain⟨f0,f1,f2,gJ,f4,gK⟩:=hf it (by simp);refine wpAny_pyNext_tuple_item st (show s.heap.IsTuple a its.toArray from p) (x:=u) (by simpa using b4) λh' jj kJ=>?_;have a8:Inv X ah σ H {s with heap:=h'}:=I.turned (t':=s.toks) (λb o ab e=>(kJ.2 b ab).trans e) f0 f1 gJ f4 gK;obtain⟨o,e,c,d⟩:=id jj;exact⟨u,rfl,DN (s:={s with heap:=h'}) e c d (by decide) ⟨x,H,a8,dH,⟨rfl,λys bw=>by rw[I.Bn bw bg];exact hx⟩,jj,λb ab=>(hf b ab).1⟩⟩
 done:=by
  intro X gb hw gX ax i ah s σ H E I hf st bf;subst gb hw gX;obtain⟨xs,bg,hx⟩:=bf;obtain⟨its,b0,p,ar⟩:=I.tuple bg;obtain⟨f0,f1,f2,gJ,f4,gK⟩:=hf it (by simp);have aB:=b0.length;exact wpAny_pyNext_tuple_end (I.ok.hd ax) st (show s.heap.IsTuple a its.toArray from p) (by simp;omega) λh' dz=>⟨rfl,I.turned (t':=s.toks) (λb o ab e=>dz b o ab e) f0 f1 gJ f4 gK⟩
 self:=λ_ _ _ _ _ st h=>wpAny_pyIter_tupleiter st h
def anM{P:cJ}{w:cB}{K:bb}{da:bx}(it:asq)(lo:Int)(n:Nat):Turn P w K da (y5 lo n) [it] it (λi h=>IsRangeIter h it (lo+(i:Nat)*1) ((n:Int) - (i:Nat)) 1) where
 mem:=by simp
 obj:=λi h st b ab=>by
  have e:b=it:=by simpa using ab
  subst e;exact⟨_,st,λv z=>by
   have jO:Data.fields _=Data.cell v:=z;cases jO⟩
 keep:=λi h h' st k=>k it (by simp) _ st
 item:=by
  intro X gb hw gX ax i ah s σ H E I hf st bf;subst gb hw gX;obtain⟨f0,f1,f2,gJ,f4,gK⟩:=hf it (by simp);have W:=Walks.range (prog:=X.prog) (w:=X.w) (I.ok.hd ax) it lo 1 n;refine W.item i s _ _ bf st λv h' tk bq jj bL=>?_;obtain⟨t,rfl⟩:=bq;have a8:Inv X ah σ H {s with heap:=h',toks:=tk}:=I.turned (λb o ab e=>bL b o (by simpa using ab) e) f0 f1 gJ f4 gK;refine⟨_,rfl,DN (s:={s with heap:=h',toks:=tk}) (n:="range_iterator") jj rfl rfl (by decide) ⟨.int (lo+i),H,a8,⟨t,?_⟩,⟨rfl,rfl⟩,jj,λb ab=>(hf b ab).1⟩⟩;rw[Int.mul_one]
 done:=by
  intro X gb hw gX ax i ah s σ H E I hf st bf;subst gb hw gX;obtain⟨f0,f1,f2,gJ,f4,gK⟩:=hf it (by simp);exact wpAny_pyNext_range_end (I.ok.hd ax) st (by have:n<=i:=bf;omega) λh' dz=>⟨rfl,I.turned (t':=s.toks) (λb o ab e=>dz b o ab e) f0 f1 gJ f4 gK⟩
 self:=λ_ _ _ _ _ st h=>wpAny_pyIter_rangeiter st h
end bG
namespace bG
open PySem PySem.Spec PyProof.Rows
section
variable {X:bu}{da:bx}
def apx{ah:List (asq×Obj)}{σ:St}{H:aE}{s:aP}{R:k4->aE->Prop}{E:ak->aP->Prop}{lo hi:Int}{t u v:Tok}{tk:Nat}(I:Inv X ah σ H s)(af:-(2 ^ 62)<=lo)(ai:lo<2 ^ 62)(bE:-(2 ^ 62)<=hi)(c':hi<2 ^ 62)
  (q:R (y5 lo (hi - lo).toNat) H):bD (bV X.prog X.w) X.A (pyIter (.ref s.heap.objs.size)) (Ox X ah σ da R) E {s with heap:=s.heap.push {cls:=.type "range",data:=.fields #[.int lo t,.int hi u,.int 1 v]},toks:=tk}:=by
 refine wpAny_pyIter_range (IsRange.new ..) (small_one af ai bE c') ?_
 have a8:Inv X ah σ H {s with heap:=s.heap.push {cls:=.type "range",data:=.fields #[.int lo t,.int hi u,.int 1 v]},toks:=tk}:=I.kept λb o e=>c8 _ e;refine⟨(s.heap.push {cls:=.type "range",data:=.fields #[.int lo t,.int hi u,.int 1 v]}).objs.size,[(s.heap.push {cls:=.type "range",data:=.fields #[.int lo t,.int hi u,.int 1 v]}).objs.size],_,_,H,rfl,
  a8.kept (t':=tk) λb o e=>c8 _ e,anM _ lo (hi - lo).toNat,?_,λb ab=>?_,q⟩
 ·have aG:lo+((0:Nat):Int)*1=lo:=by simp
  have aS:(((hi - lo).toNat:Nat):Int) - ((0:Nat):Int)=Builtin.Range.rangeSize lo hi 1:=by rw[rangeSize_one];split <;> omega
  show IsRangeIter _ _ (lo+((0:Nat):Int)*1) ((((hi - lo).toNat:Nat):Int) - ((0:Nat):Int)) 1
  rw[aG,aS];exact gA _ rfl
 ·have e:b=(s.heap.push {cls:=.type "range",data:=.fields #[.int lo t,.int hi u,.int 1 v]}).objs.size:=by simpa using ab
  subst e;exact a8.wo (dT _) (a8.ck.fresh (dT _))
def Z7(cj:f7):TI:=λσ H R=>cj σ H λvs H1=>∃j:Int,vs=[.int j]/\-(2 ^ 62)<=j/\j<2 ^ 62/\R (y5 0 j.toNat) H1
def aoC{a:bx}{cj:f7}{p pos:Pos}(bf:ez X "range")(hm:X.mg "range"=none)(au:hJ X [a] cj)(asr:bo [a] X.env=[(false,eval a X.env)]:=by rfl):o6 X da (.Call (.Name "range" p) [a] [] pos) (Z7 cj):=by
 intro ah s σ H R I h;refine Call_ (p7 I bf hm boot_range (uU (cq (au pos ah s σ H _ I h) λus s1 ⟨vs,H1,a8,a6,aQ⟩=>?_) asr rfl));obtain⟨j,e,aQ,a7,q⟩:=aQ;subst e;cases a6 with
|cons r xe=>
  cases xe
  obtain⟨t,rfl⟩:=r;exact call_range_1 (apx a8 (by omega) (by omega) aQ a7 (by simpa using q))
noncomputable def alj(pR:TI)(g:nX)(dZ:gG):gG:=λD σ H=>pR σ H λJ H1=>∃W:Nat->Nat->St->aE->Prop,(∃m,W 0 m σ H1)/\∀i m σ H,W i m σ H ->
 (J.stop i H/\D.bP σ H)\/(J.go i H/\∃N:St->aE->Prop,(∀cf aj,N cf aj->∃iw,iw<m/\W (i+1) iw cf aj)/\∀x aj,J.mU i H x aj->g x σ aj λyY bk=>dZ {D with bP:=N,cH:=N,ht:=D.bP} yY bk)
def yF(ct:List asq)(h:bX):List (asq×Obj):=ct.filterMap λb=>(h.get? b).map λo=>(b,o)
def CE{ct:List asq}{h:bX}{b:asq}{o:Obj}(ab:b∈ct)(e:h.get? b=some o):(b,o)∈yF ct h:=List.mem_filterMap.mpr ⟨b,ab,by rw[e];rfl⟩
def aoE{ct:List asq}{h:bX}{p:asq×Obj}(aF:p∈yF ct h):p.1∈ct/\h.get? p.1=some p.2:=by
 obtain⟨b,ab,e⟩:=List.mem_filterMap.mp aF;cases q:h.get? b with
|none=>rw[q] at e;cases e
|some o=>
  rw[q] at e;have bN:(b,o)=p:=fq e;subst bN;exact⟨ab,q⟩
def Inv.pinned{ah:List (asq×Obj)}{σ:St}{H:aE}{s:aP}{ct:List asq}(I:Inv X ah σ H s)(hf:∀b∈ct,mi X ah H b)(aH:∀b∈ct,∃o,s.heap.get? b=some o/\∀v,o.data≠.cell v):Inv X (ah++yF ct s.heap) σ H s:=
 I.Rj λp aF=>(hD.mp aF).elim (λz=>I.pin p (ot _ z)) λz=>by
  obtain⟨ab,e⟩:=aoE z;obtain⟨f0,f1,f2,_⟩:=hf p.1 ab;obtain⟨o,bN,d⟩:=aH p.1 ab;rw[e] at bN;cases bN;exact⟨e,f0,f1,f2,d⟩
def Inv.Bq{ah pl:List (asq×Obj)}{σ:St}{H:aE}{s:aP}(I:Inv X (ah++pl) σ H s):Inv X ah σ H s:=I.Rj λp aF=>I.pin p (ot _ (List.mem_append_left _ aF))
def YG{iter:bx}{body:List Stmt}{pR:TI}{g:nX}{dZ:gG}{pos:Pos}(aF:PassesOwn (bV X.prog X.w) X.A X.env X.dR)(ax:X.calm=true)(hi:o6 X da iter pR)(bf:rM X da g)(ab:jZ X body dZ)
  (asr:∀x,u1 iter X.env x=pure x:=by intro _;rfl):jY X (.For da iter body [] pos) (alj pR g dZ):=by
 intro ah s σ H D I h;refine wpAny_For (cq (hi ah s σ H _ I h) λv s1 af=>cq af λIi s2 ai=>?_) asr;obtain⟨it,ct,i7,J,bk,e,cx,T,kK,f2,W,⟨m0,uM⟩,turn⟩:=ai;subst e;have sM:∀{aj:aE},(∀b∈ct,aj b=none)->∀b∈ct,mi X ah aj b:=λa9 b ab=>⟨a9 b ab,(f2 b ab).2⟩;refine codeAny_forLoop_any (λn s'=>∃i cf aj,Inv X ah cf aj s'/\i7 i s'.heap/\(∀b∈ct,aj b=none)/\W i n cf aj) ?_ m0 ⟨0,σ,bk,cx,kK,λb ab=>(f2 b ab).1,uM⟩;rintro n s3 ⟨i,jV,dj,dW,xl,wq,qV⟩;rcases turn i n jV dj qV with ⟨stop,qn⟩|⟨go,N,eL,step⟩
 ·refine wpAny_passesOwn aF (cq (T.done X rfl rfl rfl ax i ah s3 jV dj X.dR dW (sM wq) xl stop) λr s4 ⟨aw,jt⟩=>?_)
  subst aw;exact wpAny_execs_nil ⟨jV,dj,jt,qn⟩
 ·refine wpAny_passesOwn aF (cq (T.item X rfl rfl rfl ax i ah s3 jV dj X.dR dW (sM wq) xl go) λr s4 ⟨u,aw,c'⟩=>?_)
  subst aw;refine wpAny_passesOwn aF (cq c' λ_ s5 ⟨x,hZ,oZ,sG,Lu,sL,G_⟩=>?_);have DX:=oZ.pinned (sM G_) (T.obj _ _ sL);refine wpAny_passesOwn aF (cq (bf _ s5 jV hZ x u _ DX sG (step x hZ Lu)) λ_ g4 ⟨oP,tT,v5,qO⟩=>?_);refine wpAny_passesOwn aF (cq (ab _ g4 oP tT _ v5 qO) λf dX qP=>?_);have again:∀{k2:St} {hr:aE},Inv X (ah++yF ct s5.heap) k2 hr dX->N k2 hr->∃m,m<n/\∃i cf aj,Inv X ah cf aj dX/\i7 i dX.heap/\(∀b∈ct,aj b=none)/\W i m cf aj:=λ{k2 hr} jb w2=>by
   obtain⟨iw,hm,w7⟩:=eL k2 hr w2;refine⟨iw,hm,i+1,k2,hr,jb.Bq,T.keep _ _ _ sL λb ab o e=>(jb.pin (b,o) (ot _ (ot _ (CE ab e)))).1,λb ab=>?_,w7⟩;obtain⟨o,e,d⟩:=T.obj _ _ sL b ab;exact (jb.pin (b,o) (ot _ (ot _ (CE ab e)))).2.1
  cases f with
  |next=>obtain⟨k2,hr,jb,w2⟩:=qP;exact again jb w2
  |cont=>obtain⟨k2,hr,jb,w2⟩:=qP;exact again jb w2
  |brk=>obtain⟨k2,hr,jb,qP⟩:=qP;exact⟨k2,hr,jb.Bq,qP⟩
  |ret v=>obtain⟨uQ,k2,hr,jb,uD,qP⟩:=qP;exact⟨uQ,k2,hr,jb.Bq,uD,qP⟩
end
end bG
namespace bG
open PySem PySem.Spec PyProof.Rows
abbrev gp:=V->V->aE->c2->Prop
noncomputable def eg(X:bu)(f:ak->ak->Sem ak)(r:gp):Prop:=
 ∀(ah:List (asq×Obj)) (s:aP) (σ:St) (H:aE) (x y:V) (v u:ak) (Q:c2),Inv X ah σ H s->RelV x v->RelV y u->r x y H Q ->
  bD (bV X.prog X.w) X.A (f v u) (hp X ah σ Q) X.dR s
noncomputable def D6(X:bu)(f:ak->Sem ak)(r:V->aE->c2->Prop):Prop:=
 ∀(ah:List (asq×Obj)) (s:aP) (σ:St) (H:aE) (x:V) (v:ak) (Q:c2),Inv X ah σ H s->RelV x v->r x H Q ->
  bD (bV X.prog X.w) X.A (f v) (hp X ah σ Q) X.dR s
noncomputable def kr(X:bu)(f:ak)(r:List V->aE->c2->Prop):Prop:=
 ∀(ah:List (asq×Obj)) (s:aP) (σ:St) (H:aE) (xs:List V) (us:List ak) (Q:c2),Inv X ah σ H s->Vals xs us->r xs H Q ->
  bD (bV X.prog X.w) X.A (call f us) (hp X ah σ Q) X.dR s
noncomputable def Yu(X:bu)(r:V->aE->(Bool->aE->Prop)->Prop):Prop:=
 ∀(ah:List (asq×Obj)) (s:aP) (σ:St) (H:aE) (x:V) (v:ak) (Q:Bool->aE->Prop),Inv X ah σ H s->RelV x v->r x H Q ->
  bD (bV X.prog X.w) X.A (truthy v) (za X ah σ Q) X.dR s
def xn(r:gp)(cj dZ:TE):TE:=λσ H Q=>cj σ H λx H1=>dZ σ H1 λy bk=>r x y bk Q
def alz(r:V->aE->c2->Prop)(cj:TE):TE:=λσ H Q=>cj σ H λx H1=>r x H1 Q
def uE(C:Int->Int->Prop)(g:Int->Int->V):gp:=λx y H Q=>∃i j,x=.int i/\y=.int j/\C i j/\Q (g i j) H
def lg(g:Int->Int->V):gp:=λx y H Q=>∃i j,x=.int i/\y=.int j/\Q (g i j) H
def Rq(g:Int->V):V->aE->c2->Prop:=λx H Q=>∃i,x=.int i/\Q (g i) H
section
variable {X:bu}{a b c:bx}{cj dZ kb:TE}{pos:Pos}
def Fe(au:bR X a cj)(ab:bR X b dZ){ah:List (asq×Obj)}{s:aP}{σ:St}{H:aE}{R:V->V->aE->Prop}(I:Inv X ah σ H s)
  (h:cj σ H λx H1=>dZ σ H1 λy bk=>R x y bk) {Q:ak->aP->Prop} {f:ak->ak->Sem ak}
  (hf:∀v u s2 x y bk,Inv X ah σ bk s2->RelV x v->RelV y u->R x y bk->bD (bV X.prog X.w) X.A (f v u) Q X.dR s2):
  bD (bV X.prog X.w) X.A (eval a X.env) (λv dk=>bD (bV X.prog X.w) X.A (eval b X.env) (λu mL=>bD (bV X.prog X.w) X.A (f v u) Q X.dR mL) X.dR dk) X.dR s:=by
 refine cq (au ah s σ H _ I h) λv s1 ⟨x,H1,a8,a6,aQ⟩=>?_
 refine cq (ab ah s1 σ H1 _ a8 aQ) λu s2 ⟨y,bk,cx,b',a7⟩=>?_
 exact hf v u s2 x y bk cx a6 b' a7
def rv{op:Operator}{r:gp}(aH:eg X (kT op) r)(au:bR X a cj)(ab:bR X b dZ):bR X (.BinOp a op b pos) (xn r cj dZ):=by
 intro ah s σ H Q I h;exact wpAny_BinOp (Fe au ab I h λv u s2 x y bk cx aL bt q=>aH ah s2 σ bk x y v u Q cx aL bt q)
def ZW{op:UnaryOp}{r:V->aE->c2->Prop}(aH:D6 X (unaryOp op) r)(au:bR X a cj):bR X (.UnaryOp op a pos) (alz r cj):=by
 intro ah s σ H Q I h;exact UnaryOp_ (cq (au ah s σ H _ I h) λv s1 ⟨x,H1,a8,a6,aQ⟩=>aH ah s1 σ H1 x v Q a8 a6 aQ)
def xa{f:ak->ak->Sem ak}{C:Int->Int->Prop}{g:Int->Int->Int}
  (rule:∀(i j:Int) (t u:Tok) (s:aP) (Q:ak->aP->Prop) (E:ak->aP->Prop),C i j->Q (.int (g i j) s.toks) {s with toks:=s.toks+1}->bD (bV X.prog X.w) X.A (f (.int i t) (.int j u)) Q E s):
  eg X f (uE C λi j=>.int (g i j)):=by
 intro ah s σ H x y v u Q I aL bt h;obtain⟨i,j,rfl,rfl,ax,q⟩:=h;obtain⟨t,rfl⟩:=aL;obtain⟨t',rfl⟩:=bt;exact rule i j t t' s _ _ ax ⟨.int (g i j),H,I.tok _,⟨_,rfl⟩,q⟩
def Rh{f:ak->ak->Sem ak}{g:Int->Int->Int}
  (rule:∀(i j:Int) (t u:Tok) (s:aP) (Q:ak->aP->Prop) (E:ak->aP->Prop),Q (.int (g i j) s.toks) {s with toks:=s.toks+1}->bD (bV X.prog X.w) X.A (f (.int i t) (.int j u)) Q E s):
  eg X f (lg λi j=>.int (g i j)):=by
 intro ah s σ H x y v u Q I aL bt h;obtain⟨i,j,rfl,rfl,q⟩:=h;obtain⟨t,rfl⟩:=aL;obtain⟨t',rfl⟩:=bt;exact rule i j t t' s _ _ ⟨.int (g i j),H,I.tok _,⟨_,rfl⟩,q⟩
def A0{f:ak->ak->Sem ak}{g:Int->Int->Bool}
  (rule:∀(i j:Int) (t u:Tok) (s:aP) (Q:ak->aP->Prop) (E:ak->aP->Prop),Q (.bool (g i j)) s->bD (bV X.prog X.w) X.A (f (.int i t) (.int j u)) Q E s):
  eg X f (lg λi j=>.cC (g i j)):=by
 intro ah s σ H x y v u Q I aL bt h;obtain⟨i,j,rfl,rfl,q⟩:=h;obtain⟨t,rfl⟩:=aL;obtain⟨t',rfl⟩:=bt;exact rule i j t t' s _ _ ⟨.cC (g i j),H,I,rfl,q⟩
def Wk(i j:Int):Prop:=0<j/\j<1073741824
def Wl(i j:Int):Prop:=0<=j/\j<=1000000/\i.natAbs<2 ^ 64
def yZ(i j:Int):Prop:=(-(2 ^ 64)<i/\i<2 ^ 64)\/(-(2 ^ 64)<j/\j<2 ^ 64)
def yZ.ok{i j:Int}(h:yZ i j):IntMulOk i j:=by
 rcases h with ⟨af,ai⟩|⟨af,ai⟩
 ·exact .of_left (intBits_le_64 af ai)
 ·exact .of_right (intBits_le_64 af ai)
def YY:eg X (kT .Add) (lg λi j=>.int (i+j)):=Rh λ_ _ _ _ _ _ _ q=>add_int q
def YU:eg X (kT .Sub) (lg λi j=>.int (i - j)):=Rh λ_ _ _ _ _ _ _ q=>sub_int q
def YW:eg X (kT .Mult) (uE yZ λi j=>.int (i*j)):=xa λ_ _ _ _ _ _ _ ax q=>mul_int q ax.ok
def aq3:eg X (kT .FloorDiv) (uE Wk λi j=>.int (i / j)):=xa λi j _ _ _ _ _ ax q=>by
 have af:(0:Int)<j:=ax.1;have ai:j<1073741824:=ax.2;exact floordiv_int (by omega) (by rw[Int.fdiv_eq_ediv_of_nonneg i (by omega)];exact q) (.inl (PyProof.noPylong_small (by omega)))
def YX:eg X (kT .Mod) (uE (λ_ j=>0<j) λi j=>.int (i % j)):=xa λi j _ _ _ _ _ ax q=>by
 have af:(0:Int)<j:=ax;exact mod_int' (by omega) (by rw[Int.fmod_eq_emod_of_nonneg i (by omega)];exact q)
def YV:eg X (kT .Pow) (uE Wl λi j=>.int (i ^ j.toNat)):=xa λ_ _ _ _ _ _ _ ax q=>pow_int_small ax.1 ax.2.1 ax.2.2 q
def al1{f:ak->Sem ak}{g:Int->Int}
  (rule:∀(i:Int) (t:Tok) (s:aP) (Q:ak->aP->Prop) (E:ak->aP->Prop),Q (.int (g i) s.toks) {s with toks:=s.toks+1}->bD (bV X.prog X.w) X.A (f (.int i t)) Q E s):
  D6 X f (Rq λi=>.int (g i)):=by
 intro ah s σ H x v Q I aL h;obtain⟨i,rfl,q⟩:=h;obtain⟨t,rfl⟩:=aL;exact rule i t s _ _ ⟨.int (g i),H,I.tok _,⟨_,rfl⟩,q⟩
def arE:D6 X (unaryOp .USub) (Rq λi=>.int (-i)):=al1 λ_ _ _ _ _ q=>neg_int q
end
section
variable {X:bu}{a b c:bx}{cj dZ kb:TE}{pos:Pos}
def Dx{ah:List (asq×Obj)}{σ:St}{H:aE}{s:aP}{Q:c2}{k ji:Bool}(I:Inv X ah σ H s)(q:Q (.cC k) H)(e:k=ji):hp X ah σ Q (.bool ji) s:=by
 subst e;exact⟨.cC k,H,I,rfl,q⟩
def yQ:eg X (hE .Lt) (lg λi j=>.cC (decide (i<j))):=A0 λ_ _ _ _ _ _ _ q=>lt_int q
def asY:eg X (hE .LtE) (lg λi j=>.cC (decide (i<=j))):=A0 λ_ _ _ _ _ _ _ q=>le_int q
def vP:eg X (hE .Gt) (lg λi j=>.cC (decide (j<i))):=A0 λ_ _ _ _ _ _ _ q=>gt_int q
def DH:eg X (hE .GtE) (lg λi j=>.cC (decide (j<=i))):=A0 λ_ _ _ _ _ _ _ q=>ge_int q
def yd:eg X (hE .Lt) (λx y H Q=>∃i j,x=.str i/\y=.str j/\Q (.cC (decide (i.cps.toList<j.cps.toList))) H):=by
 intro ah s σ H x y v u Q I aL bt h;obtain⟨i,j,rfl,rfl,q⟩:=h;obtain⟨t,rfl⟩:=aL;obtain⟨t',rfl⟩:=bt;exact lt_str (Dx I q rfl)
def eg.or{f:ak->ak->Sem ak}{r b_:gp}(h:eg X f r)(h':eg X f b_):eg X f (λx y H Q=>r x y H Q\/b_ x y H Q):=by
 intro ah s σ H x y v u Q I aL bt q;rcases q with q|q
 ·exact h ah s σ H x y v u Q I aL bt q
 ·exact h' ah s σ H x y v u Q I aL bt q
def VU(b:bx){op:CmpOp}(h:op≠.In:=by decide)(ai:op≠.NotIn:=by decide):oy op b=false:=by
 have aG:(op==CmpOp.In)=false:=by cases op <;> first|rfl|exact absurd rfl h
 have aS:(op==CmpOp.NotIn)=false:=by cases op <;> first|rfl|exact absurd rfl ai
 cases b <;> simp[oy,aG,aS]
def aqZ{op:CmpOp}{r:gp}(aH:eg X (hE op) r)(au:bR X a cj)(ab:bR X b dZ)(hm:oy op b=false):bR X (.Compare a [op] [b] pos) (xn r cj dZ):=by
 intro ah s σ H Q I h;exact wpAny_Compare1 (Fe au ab I h λv u s2 x y bk cx aL bt q=>aH ah s2 σ bk x y v u Q cx aL bt q) hm
def Wf(t:TE):TT:=λσ H Q=>t σ H λx aj=>∃k,x=.cC k/\Q k aj
def aqL{op:CmpOp}{r:gp}(aH:eg X (hE op) r)(au:bR X a cj)(ab:bR X b dZ)(hm:oy op b=false):jc X (.Compare a [op] [b] pos) (Wf (xn r cj dZ)):=by
 intro ah s σ H Q I h;refine wpAny_isTrue_Compare1 (cq (au ah s σ H _ I h) λv s1 ⟨x,H1,a8,a6,aQ⟩=>cq (ab ah s1 σ H1 _ a8 aQ) λu s2 ⟨y,bk,cx,b',a7⟩=>
  cq (aH ah s2 σ bk x y v u _ cx a6 b' a7) λc s3 ⟨z,dj,dW,iY,k,e,cL⟩=>?_) hm
 subst e;cases iY;exact nE ⟨dj,dW,cL⟩
noncomputable def NB(r b_:gp)(cj dZ kb:TE):TE:=λσ H Q=>cj σ H λx H1=>dZ σ H1 λy bk=>r x y bk λz dj=>∃k,z=.cC k /\
 (if k=true then kb σ dj λfg f3=>b_ y fg f3 Q else Q (.cC false) dj)
def apG{op sC:CmpOp}{r b_:gp}(aH:eg X (hE op) r)(iO:eg X (hE sC) b_)(au:bR X a cj)(ab:bR X b dZ)(ax:bR X c kb)
  (hm:lastMarks [op,sC] [b,c]=false:=by with_unfolding_all rfl):bR X (.Compare a [op,sC] [b,c] pos) (NB r b_ cj dZ kb):=by
 intro ah s σ H Q I h;refine Compare_chain (cq (au ah s σ H _ I h) λv s1 ⟨x,H1,a8,a6,aQ⟩=>chain_link (cq (ab ah s1 σ H1 _ a8 aQ) λu s2 ⟨y,bk,cx,b',a7⟩=>
  cq (aH ah s2 σ bk x y v u _ cx a6 b' a7) λd s3 ⟨z,dj,dW,iY,k,e,cL⟩=>?_)) hm
 subst e;cases iY;refine nE ?_;cases k with
|false=>exact ite_ff ⟨.cC false,dj,dW,rfl,cL⟩
|true=>exact ite_tt (chain_last (cq (ax ah s3 σ dj _ dW cL) λfg s4 ⟨jO,f3,jt,ix,ib⟩=>iO ah s4 σ f3 y jO u fg Q jt b' ix ib))
def apA{op sC:CmpOp}{r b_:gp}(aH:eg X (hE op) r)(iO:eg X (hE sC) b_)(au:bR X a cj)(ab:bR X b dZ)(ax:bR X c kb)
  (hm:lastMarks [op,sC] [b,c]=false:=by with_unfolding_all rfl):jc X (.Compare a [op,sC] [b,c] pos) (Wf (NB r b_ cj dZ kb)):=by
 intro ah s σ H Q I h;refine isTrue_chain (cq (au ah s σ H _ I h) λv s1 ⟨x,H1,a8,a6,aQ⟩=>test_link (cq (ab ah s1 σ H1 _ a8 aQ) λu s2 ⟨y,bk,cx,b',a7⟩=>
  cq (aH ah s2 σ bk x y v u _ cx a6 b' a7) λd s3 ⟨z,dj,dW,iY,k,e,cL⟩=>?_)) hm
 subst e;cases iY;refine nE ?_;cases k with
|false=>
  obtain⟨ji,bN,d6⟩:=cL;cases bN;exact ite_ff ⟨dj,dW,d6⟩
|true=>
  refine ite_tt (test_last (cq (ax ah s3 σ dj _ dW cL) λfg s4 ⟨jO,f3,jt,ix,ib⟩=>cq (iO ah s4 σ f3 y jO u fg _ jt b' ix ib) λd' s5 ⟨gP,hZ,oZ,sG,dB,aS,lV⟩=>?_))
  subst aS;cases sG;exact nE ⟨hZ,oZ,lV⟩
noncomputable def Oy(K:bb)(x:V)(H:aE)(k:Bool):Prop:=
 match x with
|.fC=>k=false
|.cC b=>k=b
|.int i=>k=(i != 0)
|.str y=>y.length<=b8/\k=((y.length:Int) != 0)
|.rX y=>y.size<=b8/\k=((y.size:Int) != 0)
|.ref p=>(∃xs,fP K H p xs/\k=!xs.isEmpty)\/(∃xs,cX K H p xs/\k=!xs.isEmpty)\/∃kvs,H p=some (.fx kvs)/\k=!kvs.isEmpty
|_=>False
def an7{eI:Type}{kvs:List (eI×V)}{vs:List (eI×ak)}(r:g9 kvs vs):(!vs.isEmpty)=!kvs.isEmpty:=by
 cases r <;> rfl
def Tg{xs:List V}{its:List ak}(r:Vals xs its):(!its.toArray.isEmpty)=!xs.isEmpty:=by
 cases r <;> simp
def vF:(b8:Nat)<2 ^ 63:=by rw[mT];decide
def arH:Yu X (λx H Q=>∃k,Oy X.K x H k/\Q k H):=by
 intro ah s σ H x v Q I aL h;obtain⟨k,e,q⟩:=h;have aB:=vF;have asr:b8=16777216:=mT;cases x with
|fC=>
  cases aL
  have bN:k=false:=e;subst bN;exact truthy_none ⟨H,I,q⟩
|cC b=>
  cases aL
  have bN:k=b:=e;subst bN;exact nE ⟨H,I,q⟩
|int i=>
  obtain⟨t,rfl⟩:=aL;have bN:k=(i != 0):=e;subst bN;exact PySem.P.truthy_int ⟨H,I,q⟩
|str y=>
  obtain⟨t,rfl⟩:=aL;obtain⟨bw,bN⟩:y.length<=b8/\k=((y.length:Int) != 0):=e;subst bN;exact PySem.P.truthy_str (by omega) ⟨H,I.tok _,q⟩
|rX y=>
  obtain⟨t,rfl⟩:=aL;obtain⟨bw,bN⟩:y.size<=b8/\k=((y.size:Int) != 0):=e;subst bN;exact PySem.W.truthy_bytes (by omega) ⟨H,I.tok _,q⟩
|ref p=>
  cases aL
  have bN:(∃xs,fP X.K H p xs/\k=!xs.isEmpty)\/(∃xs,cX X.K H p xs/\k=!xs.isEmpty)\/∃kvs,H p=some (.fx kvs)/\k=!kvs.isEmpty:=e;rcases bN with ⟨xs,hx,bN⟩|⟨xs,hx,bN⟩|⟨kvs,hx,bN⟩
  ·subst bN;obtain⟨its,r,pl,ar⟩:=I.list hx;have hlen:=r.length;exact wpAny_truthy_list pl.isList (by simp only[d0];omega) ⟨H,I.tok _,by rw[Tg r];exact q⟩
  ·subst bN;obtain⟨its,r,pl,ar⟩:=I.tuple hx;have hlen:=r.length;exact truthy_tuple pl (by simp only[d0];omega) ⟨H,I.tok _,by rw[Tg r];exact q⟩
  ·subst bN;obtain⟨ar,e3,vs,r,m⟩:kvs.length<=b8/\(p==sysModules)=false/\∃vs,g9 kvs vs/\s.heap.DictOf (hl X.prog X.w) p vs:=I.ck p _ hx;have hlen:kvs.length=vs.length:=Paired.length r;exact wpAny_truthy_dict e3 m (by omega) ⟨H,I.tok _,by rw[an7 r];exact q⟩
|_=>exact (show False from e).elim
def apz(au:bR X a cj)(he:∀whole,isTrue a X.env whole=(do let v <- whole;standAt a.pos;holding [v] (truthy v))):
  jc X a (λσ H Q=>cj σ H λx aj=>∃k,Oy X.K x aj k/\Q k aj):=by
 intro ah s σ H Q I h;exact isTrue_plain (cq (au ah s σ H _ I h) λv s1 ⟨x,H1,a8,a6,aQ⟩=>arH ah s1 σ H1 x v Q a8 a6 aQ) (he _)
def anZ:eg X (kT .Add) (λx y H Q=>∃i j,x=.str i/\y=.str j/\i.length+j.length<=b8/\Q (.str (i++j)) H):=by
 intro ah s σ H x y v u Q I aL bt h;obtain⟨i,j,rfl,rfl,ar,q⟩:=h;obtain⟨t,rfl⟩:=aL;obtain⟨t',rfl⟩:=bt;exact add_str (λt' tk=>⟨.str (i++j),H,I.tok _,⟨_,rfl⟩,q⟩) ar
def vals1{x:V}{us:List ak}(r:Vals [x] us):∃u,us=[u]/\RelV x u:=by
 cases r with
|cons a6 b'=>cases b';exact⟨_,rfl,a6⟩
def vals2{x y:V}{us:List ak}(r:Vals [x,y] us):∃u fg,us=[u,fg]/\RelV x u/\RelV y fg:=by
 cases r with
|cons a6 b'=>
  cases b' with
  |cons iY ix=>cases ix;exact⟨_,_,rfl,a6,iY⟩
def ao0(ax:X.calm=true):kr X (.builtin "max") (λxs H Q=>∃i j,xs=[.int i,.int j]/\Q (.int (if j > i then j else i)) H):=by
 intro ah s σ H xs us Q I r h;obtain⟨i,j,rfl,q⟩:=h;obtain⟨u,fg,rfl,⟨t,rfl⟩,⟨t',rfl⟩⟩:=vals2 r;refine max_two_ints (I.ok.hd ax) λh' tk k=>⟨_,H,I.kept k,?_,q⟩;by_cases bJ:j > i
 ·rw[if_pos bJ,if_pos bJ];exact⟨_,rfl⟩
 ·rw[if_neg bJ,if_neg bJ];exact⟨_,rfl⟩
def aqe:kr X (.builtin "ord") (λxs H Q=>∃x,xs=[.str x]/\x.length=1/\Q (.int (x.cps.getD 0 0:Nat)) H):=by
 intro ah s σ H xs us Q I r h;obtain⟨x,rfl,ar,q⟩:=h;obtain⟨u,rfl,t,rfl⟩:=vals1 r;exact ord_of_one ar ⟨.int _,H,I.tok _,⟨_,rfl⟩,q⟩
end
end bG
namespace bG
open PySem PySem.Spec PyProof.Rows
structure rK(h:bX)(x bj C:asq)(eB:Str->Option ak):Prop where
 obj:h.get? x=some (q0 C bj)
 ns:h.Ns1 bj eB
 ne:bj≠x
def aoI{h:bX}{bj:asq}{eB:Str->Option ak}(n:h.Ns1 bj eB):∃fe,h.get? bj=some fe/\∀name,PySem.W.lookIn name fe=some (eB name):=by
 obtain⟨o,es,ep,aH,hd,aR,_,hm⟩:=n;refine⟨o,aH,λname=>?_⟩;have e:=hm name;unfold nsFind findBy at e;rw[<- Array.find?_toList] at e;unfold PySem.W.lookIn;rw[hd];dsimp only;split
 ·rename_i y q
  rw[q] at e;exact congrArg some e
 ·rename_i q
  rw[q] at e;have a:es.toList.any (·.refKey)=false:=by
   rw[List.any_eq_false];intro y bw;obtain⟨z,t,adT⟩:=aR y (Array.mem_toList_iff.mp bw);simp[DictEntry.refKey,adT]
  have fF:¬es.toList.any (·.refKey)=true:=by rw[a];exact ou
  rw[if_neg fF];exact congrArg some e
def rK.look{h:bX}{x bj C:asq}{eB:Str->Option ak}(I:rK h x bj C eB):∃fe,PySem.W.InstAt h x (q0 C bj) C (some fe)/\∀name,PySem.W.lookIn name fe=some (eB name):=
 let ⟨fe,aH,aB⟩:=aoI I.ns
 ⟨fe,⟨I.obj,rfl,rfl,aH⟩,aB⟩
section
variable {prog:cJ}{w:cB}{A:c3}{E:ak->aP->Prop}{s:aP}{K:bb}{x bj C f:asq}{eB:Str->Option ak}{name:Str}{v:ak}
def get_map{expr:Bool}{Q:ak->aP->Prop}(X:K.In s.heap)(I:rK s.heap x bj C eB)(bf:PySem.W.plainGet K C name=true)(cK:PySem.W.hasDictIn K C=true)
  (au:lY K (.ref C) name=some none) (bq:eB name=some v) (pA:PySem.W.handedIn v=true) (h:Q v {s with toks:=s.toks+1}):
  bD (bV prog w) A (getAttr (.ref x) name expr) Q E s:=by
 obtain⟨fe,J,aB⟩:=I.look;exact PySem.W.get_value X J (PySem.W.plainGet_of bf).1 (PySem.W.findObj_own cK au rfl (by rw[aB,bq])) pA h
def ap_{pl:Sem Bool}{Q:ak×List ak->aP->Prop}(X:K.In s.heap)(I:rK s.heap x bj C eB)(bf:PySem.W.plainGet K C name=true)
  (hf:lY K (.ref C) name=some (some (.ref f))) (aZ:PySem.W.isFn K (.ref f)=true) (bq:eB name=none) (h:Q (.ref f,[.ref x]) s):
  bD (bV prog w) A (getMethod (.ref x) name pl) Q E s:=by
 obtain⟨fe,J,aB⟩:=I.look;exact PySem.W.method_fn X J (PySem.W.plainGet_of bf).1 (PySem.W.plainGet_of bf).2 hf (beq_iff_eq.mp aZ) (by show (PySem.W.lookIn name fe).map (·.isSome)=some false;rw[aB,bq];rfl) h
def aqs{ns:List Str}{Q:Unit->aP->Prop}(X:K.In s.heap)(I:rK s.heap x bj C eB)
  (asr:lY K (.ref C) "__setattr__"=some (some (.builtin "object.__setattr__"))) (aF:PySem.W.plainOver K C=true) (aZ:PySem.W.takerIn K C name=some none) (cK:PySem.W.hasDictIn K C=true)
  (hw:PySem.Within eB ns) (hsz:ns.length<=b8)
  (h:∀h',rK h' x bj C (λy=>if y=name then some v else eB y)->Heap.SameBut bj s.heap h'->Q () {s with heap:=h',toks:=s.toks+2}):
  bD (bV prog w) A (setAttr (.ref x) name v) Q E s:=by
 obtain⟨fe,J,aB⟩:=I.look;refine PySem.W.set_plain X J asr (PySem.W.osa_open (s:={s with toks:=s.toks+1}) (r:=none) X J aF aZ λb=>?_);obtain⟨cd,ax,Hj⟩:=PySem.W.any_some cK;have hx:s.heap.get? x=some ⟨.ref C,some bj,.plain,#[]⟩:=I.obj;refine a3 (cG (a3 (a3 (wpAny_loadPart hx (a3 (PySem.W.Looks.here (s:={s with toks:=s.toks+1}) (PySem.W.looks_clsIn X ax) ?_))))));rw[Hj];refine cG (a:=some bj) (a3 (cG (a3 ?_)));refine wpAny_nsSet1 (s:={s with toks:=s.toks+1}) I.ns λh' z9 hO=>?_;obtain⟨oD,ar1,ar0,ad5,adG,adA⟩:=z9.count (PySem.Within.cons name v hw);refine a3 (wpAny_lookBehind ad5 (by rw[adG];exact pastItsLine_dict (mS adA (by rw[d_];omega))) ?_);exact cG (h _ ⟨(hO.2 _ (Ne.symm I.ne)).trans I.obj,z9,I.ne⟩ hO)
def apX{R:Result->aP->Prop}{vs:List ak}{kw:List (Str×ak)}(X:K.In s.heap)(hm:PySem.W.makesIn K C=true)
  (hi:lY K (.ref C) "__init__"=some (some (.ref f))) (hf:PySem.W.typeIn K (.ref f)=some (.type "function"))
  (h:codeAny (bV prog w) (A.under (.builtin "type.__call__" ⟨.ref C::vs,kw⟩)) (.call (.ref f) ⟨.ref (s.heap.objs.size+1)::vs,kw⟩) (PySem.W.InitBack (s.heap.objs.size+1) R)
   {s with heap:=(s.heap.push pT).push (q0 C s.heap.objs.size)}):
  codeAny (bV prog w) A (.call (.ref C) ⟨vs,kw⟩) R s:=by
 obtain⟨cK,g,d,t,os⟩:=s;exact PySem.W.make_core (PySem.W.makes_of X hm) (PySem.W.looks_findIn X hi) (λself=>PySem.W.bind_fn X self hf) (.inl rfl) h
end
def g0(f:Str)(v:V):List (Str×V)->List (Str×V)
  | []=>[(f,v)]
  | (g,x)::r=>if g=f then (g,v)::r else (g,x)::g0 f v r
theorem SO(f g:Str)(v:V):∀aA:List (Str×V),(g0 f v aA).lookup g=if g=f then some v else aA.lookup g
  | []=>by
    show jM g [(f,v)]=_
    by_cases h:g=f
    · have ab:(g==f)=true:=beq_iff_eq.mpr h
      simp only[jM,ab,if_pos h]
    · have ab:(g==f)=false:=beq_eq_false_iff_ne.mpr h
      simp only[jM,ab,if_neg h]
  | (k,x)::r=>by
    have bY:=SO f g v r;rw[show g0 f v ((k,x)::r)=(if k=f then (k,v)::r else (k,x)::g0 f v r) from rfl];by_cases aR:k=f
    · rw[if_pos aR]
      by_cases h:g=k
      · have ab:(g==k)=true:=beq_iff_eq.mpr h
        simp only[jM,ab,if_pos (h.trans aR)]
      · have ab:(g==k)=false:=beq_eq_false_iff_ne.mpr h
        simp only[jM,ab,if_neg (λe:g=f=>h (e.trans aR.symm))]
    · rw[if_neg aR]
      by_cases h:g=k
      · have ab:(g==k)=true:=beq_iff_eq.mpr h
        simp only[jM,ab,if_neg (λe:g=f=>aR (h.symm.trans e))]
      · have ab:(g==k)=false:=beq_eq_false_iff_ne.mpr h
        simp only[jM,ab];exact bY
theorem MC(f:Str)(v:V):∀aA:List (Str×V),f∈(g0 f v aA).map (·.1)/\∀g,g∈aA.map (·.1)->g∈(g0 f v aA).map (·.1)
  | []=>⟨by simp[g0],λg h=>by simp at h⟩
  | (k,x)::r=>by
    obtain⟨bT,bW⟩:=MC f v r;rw[show g0 f v ((k,x)::r)=(if k=f then (k,v)::r else (k,x)::g0 f v r) from rfl];by_cases aR:k=f
    · rw[if_pos aR]
      subst aR;exact⟨by simp,λg h=>by simpa using h⟩
    · rw[if_neg aR]
      refine⟨?_,λg h=>?_⟩
      · rw[c9]
        exact di _ bT
      · rw[c9] at h ⊢
        rcases asu.mp h with e|e
        · exact asu.mpr (.inl e)
        · exact di _ (bW g e)
theorem SR(f:Str)(v:V):∀aA:List (Str×V),(g0 f v aA).length<=aA.length+1
  | []=>by simp[g0]
  | (k,x)::r=>by
    have bY:=SR f v r;rw[show g0 f v ((k,x)::r)=(if k=f then (k,v)::r else (k,x)::g0 f v r) from rfl];by_cases aR:k=f
    · rw[if_pos aR,d_,d_];omega
    · rw[if_neg aR,d_,d_];omega
def j0.some_of{v:V}{o:Option ak}(r:j0 (some v) o):∃u,o=some u/\RelV v u:=by
 cases o with
|none=>exact (show False from r).elim
|some u=>exact⟨u,rfl,r⟩
def j0.none_of{o:Option ak}(r:j0 none o):o=none:=by
 cases o with
|none=>rfl
|some u=>exact (show False from r).elim
def aoQ{v:V}{u:ak}(r:RelV v u):PySem.W.handedIn u=true:=by
 cases v with
|fC=>cases (show u=Value.none from r);rfl
|cC b=>cases (show u=Value.bool b from r);rfl
|int i=>obtain⟨t,e⟩:=(show ∃t,u=Value.int i t from r);cases e;rfl
|str x=>obtain⟨t,e⟩:=(show ∃t,u=Value.str x t from r);cases e;rfl
|rX b=>obtain⟨t,e⟩:=(show ∃t,u=Value.bytes b t from r);cases e;rfl
|wm b=>obtain⟨t,e⟩:=(show ∃t,u=Value.float b t from r);cases e;rfl
|ref a=>cases (show u=Value.ref a from r);rfl
|ty n=>cases (show u=Value.type n from r);rfl
section
variable {P:cJ}{w:cB}{H aj:aE}{h h':bX}{a C bj:asq}{aA asB:List (Str×V)}
def Nl(ck:e8 P w H h)(e:H a=some (.ins C bj aA)):∃eB,rK h a bj C eB/\(∀f,j0 (aA.lookup f) (eB f))/\PySem.Within eB (aA.map (·.1))/\aA.length<=1000/\H bj=some (.own a):=by
 obtain⟨d,z,ne,dQ,eB,n,r,q⟩:=(show hX P w H h a (.ins C bj aA) from ck a _ e);exact⟨eB,⟨dQ,n,ne⟩,r,q,z,d⟩
end
structure m5(K:bb)(C:asq):Prop where
 pg:PySem.W.plainGet K C Str.empty=true
 hd:PySem.W.hasDictIn K C=true
 po:PySem.W.plainOver K C=true
 sa:lY K (.ref C) "__setattr__"=some (some (.builtin "object.__setattr__"))
def m5.get{K:bb}{C:asq}(c:m5 K C)(f:Str):PySem.W.plainGet K C f=true:=c.pg
def p9(K:bb)(C:asq)(f:Str):Prop:=lY K (.ref C) f=some none
def p9.alP{K:bb}{C:asq}{f:Str}(n:p9 K C f):PySem.W.takerIn K C f=some none:=by
 unfold PySem.W.takerIn;rw[show lY K (.ref C) f=some none from n];rfl
structure Meth(K:bb)(C:asq)(m:Str)(f:asq):Prop where
 at_:lY K (.ref C) m=some (some (.ref f))
 fn:PySem.W.isFn K (.ref f)=true
 aC:mQ K (.ref f)=true
section
variable {X:bu}{ah:List (asq×Obj)}{σ:St}{H:aE}{s:aP}{a C bj:asq}{aA:List (Str×V)}{f:Str}{v:V}{A:c3}{E:ak->aP->Prop}
def Ti{b:Bool}{Q:ak->aP->Prop}(I:Inv X ah σ H s)(e:H a=some (.ins C bj aA))(c:m5 X.K C)(n:p9 X.K C f)(l:aA.lookup f=some v)
  (h:∀u s',Inv X ah σ H s'->RelV v u->Q u s'):bD (bV X.prog X.w) A (getAttr (.ref a) f b) Q E s:=by
 obtain⟨eB,O,r,_,_,_⟩:=Nl I.ck e;obtain⟨u,b4,dH⟩:=j0.some_of (v:=v) (o:=eB f) (by rw[<- l];exact r f);exact get_map I.iv O (c.get f) c.hd n b4 (aoQ dH) (h u _ (I.tok _) dH)
def Th{m:Str}{g:asq}{pl:Sem Bool}{Q:ak×List ak->aP->Prop}(I:Inv X ah σ H s)(e:H a=some (.ins C bj aA))(c:m5 X.K C)(k:Meth X.K C m g)(l:aA.lookup m=none)
  (h:Q (.ref g,[.ref a]) s):bD (bV X.prog X.w) A (getMethod (.ref a) m pl) Q E s:=by
 obtain⟨eB,O,r,_,_,_⟩:=Nl I.ck e;have a9:eB m=none:=j0.none_of (by rw[<- l];exact r m);exact ap_ I.iv O (c.get m) k.at_ k.fn a9 h
def S0{y:V}{u:ak}{Q:Unit->aP->Prop}(I:Inv X ah σ H s)(e:H a=some (.ins C bj aA))(c:m5 X.K C)(n:p9 X.K C f)(aB:aA.length<1000)(bt:RelV y u)
  (h:∀s',Inv X ah σ (upd H a (.ins C bj (g0 f y aA))) s'->Q () s'):bD (bV X.prog X.w) A (setAttr (.ref a) f u) Q E s:=by
 obtain⟨eB,O,r,pR,_,aH⟩:=Nl I.ck e;have ar:(aA.map (·.1)).length<=b8:=by rw[eT,mT];omega
 refine aqs I.iv O c.sa c.po n.alP c.hd pR ar λh' m7 kJ=>h _ ?_
 have hd:∃o,h'.get? bj=some o:=let ⟨o,_,_,bN,_⟩:=m7.ns;⟨o,bN⟩;refine I.write (x:=a) (e:=bj) (by rw[e];exact True.intro) (.inr aH) (λb q ab z=>(kJ.2 b ab).trans z) hd ?_;refine⟨by rw[cZ O.ne];exact aH,?_,O.ne,m7.obj,_,m7.ns,λg=>?_,λg bf=>?_⟩
 ·have:=SR f y aA;omega
 ·show j0 ((g0 f y aA).lookup g) (if g=f then some u else eB g)
  rw[SO];by_cases q:g=f
  ·rw[if_pos q,if_pos q];exact bt
  ·rw[if_neg q,if_neg q];exact r g
 ·by_cases q:g=f
  ·rw[q];exact (MC f y aA).1
  ·refine (MC f y aA).2 g (pR g λz=>bf ?_)
   show (if g=f then some u else eB g)=none
   rw[if_neg q];exact z
def Inv.made(I:Inv X ah σ H s):Inv X ah σ (upd (upd H s.heap.objs.size (.own (s.heap.objs.size+1))) (s.heap.objs.size+1) (.ins C s.heap.objs.size []))
  {s with heap:=(s.heap.push pT).push (q0 C s.heap.objs.size)}:=by
 have aG:(s.heap.push pT).get? s.heap.objs.size=some pT:=gA s.heap rfl;have aS:((s.heap.push pT).push (q0 C s.heap.objs.size)).get? (s.heap.objs.size+1)=some (q0 C s.heap.objs.size):=by
  have:=gA (s.heap.push pT) (o:=q0 C s.heap.objs.size) rfl
  rwa [kR] at this
 have d5:(s.heap.push pT).Ns s.heap.objs.size (λ_=>none):=⟨pT,#[],_,aG,rfl,(λe he=>absurd he (by simp)),λ_=>rfl⟩;have a8:=I.laid (a:=s.heap.objs.size) (o:=.own (s.heap.objs.size+1)) (h':=s.heap.push pT) (t':=s.toks) (λb u q=>c8 _ q) (dT _) ⟨_,aG⟩;refine a8.laid (a:=s.heap.objs.size+1) (o:=.ins C s.heap.objs.size []) (t':=s.toks) (λb u q=>c8 _ q) (Nat.le_of_eq (kR _ _)) ?_;have ne:s.heap.objs.size≠s.heap.objs.size+1:=fh (Nat.lt_succ_self _);refine⟨by rw[cZ ne,ew],asH _,ne,aS,λ_=>none,(Heap.Ns1.of_empty d5).at λo q=>c8 _ q,λ_=>True.intro,λy bw=>absurd rfl bw⟩
def arz{prog:cJ}{w:cB}{env:Env}{e:bx}{f:Str}{pos:Pos}{s:aP}{Q:ak->aP->Prop}(ab:ij e f env (eval e env)=eval e env)
  (h:bD (bV prog w) A (eval e env) (λo dk=>bD (bV prog w) A (getAttr o f true) Q E dk) E s):bD (bV prog w) A (eval (.Attribute e f pos) env) Q E s:=
 Attribute_any_ h (by rw[arm_eval_Attribute,ab])
end
def ali(K:bb)(cj:TE)(f:Str):TE:=λσ H Q=>cj σ H λx H1=>∃a C bj aA v,x=.ref a/\H1 a=some (.ins C bj aA)/\m5 K C/\p9 K C f/\aA.lookup f=some v/\Q v H1
noncomputable def ajW(K:bb)(cj asC:TE)(f:Str):gG:=λD σ H=>asC σ H λy H1=>cj σ H1 λx bk=>∃a C bj aA,x=.ref a/\bk a=some (.ins C bj aA)/\m5 K C/\p9 K C f/\aA.length<1000 /\
 D.bP σ (upd bk a (.ins C bj (g0 f y aA)))
noncomputable def DY(X:bu)(op:Operator)(kH:V->V->aE->c2->Prop):Prop:=
 ∀(ah:List (asq×Obj)) (s:aP) (σ:St) (H:aE) (x y:V) (u v:ak) (Q:c2),Inv X ah σ H s->RelV x u->RelV y v->kH x y H Q->bD (bV X.prog X.w) X.A (inplaceOp op u v) (hp X ah σ Q) X.dR s
noncomputable def aqy(K:bb)(cj asC:TE)(kH:V->V->aE->c2->Prop)(f:Str):gG:=λD σ H=>cj σ H λx H1=>∃a C bj aA v,x=.ref a/\H1 a=some (.ins C bj aA)/\m5 K C/\p9 K C f/\aA.lookup f=some v /\
 asC σ H1 λy bk=>kH v y bk λz dj=>∃ub asB,dj a=some (.ins C ub asB)/\asB.length<1000/\D.bP σ (upd dj a (.ins C ub (g0 f z asB)))
section
variable {X:bu}{o e value:bx}{f:Str}{pos pos' Lk:Pos}{cj asC:TE}
def asM(he:bR X e cj)(ab:ij e f X.env (eval e X.env)=eval e X.env):bR X (.Attribute e f pos) (ali X.K cj f):=by
 intro ah s σ H Q I h;refine arz ab (cq (he ah s σ H _ I h) λu s1 ⟨x,H1,a8,aL,a,C,bj,aA,v,ex,dG,c,n,l,q⟩=>?_);subst ex;obtain rfl:u=Value.ref a:=aL;exact Ti a8 dG c n l λuK s2 cx dH=>⟨v,H1,cx,dH,q⟩
def NK(au:bR X o cj)(bq:bR X value asC)(asr:kh value (some (.Attribute o f pos')) pos.line X.env=pure false):jY X (.Assign [.Attribute o f pos'] value pos) (ajW X.K cj asC f):=by
 intro ah s σ H D I h;refine plainObj_wpAny_Assign_Attribute (cq (bq ah s σ H _ I h) λu s1 ⟨y,H1,a8,bt,q⟩=>cq (au ah s1 σ H1 _ a8 q) λeG s2 ⟨x,bk,cx,aL,a,C,bj,aA,ex,dG,c,n,l,a7⟩=>?_) asr;subst ex;obtain rfl:eG=Value.ref a:=aL;exact S0 cx dG c n l bt λs3 dW=>⟨σ,_,dW,a7⟩
def aoA{op:Operator}{kH:V->V->aE->c2->Prop}(au:bR X o cj)(bq:bR X value asC)(Hv:DY X op kH):jY X (.AugAssign (.Attribute o f Lk) op value pos) (aqy X.K cj asC kH f):=by
 intro ah s σ H D I h;refine wpAny_AugAssign_AttributeAny (cq (au ah s σ H _ I h) λeG s1 ⟨x,H1,a8,aL,a,C,bj,aA,v,ex,dG,c,n,l,q⟩=>?_);subst ex;obtain rfl:eG=Value.ref a:=aL;refine Ti a8 dG c n l λu s2 cx dH=>cq (bq ah s2 σ H1 _ cx q) λqV s3 ⟨y,bk,dW,bt,cL⟩=>cq (Hv ah s3 σ bk v y u qV _ dW dH bt cL) λw4 s4 ⟨z,dj,jt,K4,ub,asB,ac2,oe,ib⟩=>?_;exact S0 jt ac2 c n oe K4 λs5 oZ=>⟨σ,_,oZ,ib⟩
def ajI:V->V->aE->c2->Prop:=λx y H Q=>∃i j,x=.int i/\y=.int j/\Q (.int (i+j)) H
def V4:DY X .Add ajI:=by
 rintro ah s σ H x y u v Q I aL bt ⟨i,j,rfl,rfl,q⟩;obtain⟨t,rfl⟩:=(show ∃t,u=Value.int i t from aL);obtain⟨t',rfl⟩:=(show ∃t',v=Value.int j t' from bt);exact PyProof.Rows.iadd_int ⟨.int (i+j),H,I.tok _,⟨_,rfl⟩,q⟩
end
end bG
namespace bG
open PySem PySem.Spec PyProof.Rows
structure dD(k:Nat)(A:c3):Prop where
 hd:A.handled=none
 zk:A.depth+3*k+5<recursionLimit
 un:A.units+16*k+200<cLine
 gV:A.guards=some []
def dD.mono{j k:Nat}{A:c3}(r:dD k A)(h:j<=k):dD j A:=⟨r.hd,by have:=r.zk;omega,by have:=r.un;omega,r.gV⟩
theorem dD.deeper{k:Nat}{A:c3}(r:dD (k+1) A)(env:Env):dD k (A.deeper env):=
 ⟨r.hd,by have:=r.zk;show A.depth+1+3*k+5<_;omega,by have:=r.un;show A.units+3+16*k+200<_;omega,r.gV⟩
def an5{A:c3}{C:asq}{us:List ak}{kw:List (Str×ak)}:(A.under (.builtin "type.__call__" ⟨.ref C::us,kw⟩)).depth=A.depth+1:=by
 first|rfl|simp[Around.under,Code.weight,Code.isCreation,Code.isGuard,Code.isCaller,Code.frames,Code.isFrame,guardIds]
def an4{A:c3}{C:asq}{us:List ak}{kw:List (Str×ak)}:(A.under (.builtin "type.__call__" ⟨.ref C::us,kw⟩)).units=A.units+1:=by
 first|rfl|simp[Around.under,Code.cUnits,Code.frames,Code.isFrame]
def anz{A:c3}{C:asq}{us:List ak}{kw:List (Str×ak)}:(A.under (.builtin "type.__call__" ⟨.ref C::us,kw⟩)).guards=A.guards:=by
 first|rfl|simp[Around.under,Code.weight,Code.isCreation,Code.isGuard,Code.isCaller,Code.frames,Code.isFrame,guardIds,Code.guards]
def dD.make{k:Nat}{A:c3}(r:dD (k+1) A)(C:asq)(us:List ak)(kw:List (Str×ak)):dD k (A.under (.builtin "type.__call__" ⟨.ref C::us,kw⟩)):=
 ⟨r.hd,by have:=r.zk;rw[an5];omega,by have:=r.un;rw[an4];omega,anz.trans r.gV⟩
theorem dD.depth{k:Nat}{A:c3}(r:dD k A):A.depth<recursionLimit:=by have:=r.zk;omega
theorem dD.units{k:Nat}{A:c3}(r:dD k A):A.units+64<cLine:=by have:=r.un;omega
def Lc:f7:=λ_ H Q=>Q [] H
def RJ(cj:TE)(tr:f7):f7:=λσ H Q=>cj σ H λx H1=>tr σ H1 λxs bk=>Q (x::xs) bk
section
variable {X:bu}{e:bx}{es:List bx}{gi:TE}{t:f7}{pos:Pos}
def km:hJ X [] Lc:=λ_ _ _ _ H Q I h=>Calls.spliced_nil ⟨[],H,I,.nil,h⟩
def i_(au:bR X e gi)(aw:hJ X es t)(asr:bo (e::es) X.env=(false,eval e X.env)::bo es X.env:=by rfl):hJ X (e::es) (RJ gi t):=by
 intro pos ah s σ H Q I h;rw[asr];show bD _ _ (spliced ((false,eval e X.env)::dp pos (bo es X.env))) _ _ s;refine Calls.spliced_cons (cq (au ah s σ H _ I h) λu s1 ⟨x,H1,a8,a6,aQ⟩=>?_);exact cq (aw pos ah s1 σ H1 _ a8 aQ) λus s2 ⟨xs,bk,cx,b',a7⟩=>⟨x::xs,bk,cx,.cons a6 b',a7⟩
def aly(t:f7):TE:=λσ H Q=>t σ H λxs H1=>xs.length<=b8/\∀p,H1 p=none->Q (.ref p) (upd H1 p (.tup xs))
def alq(t:f7):TE:=λσ H Q=>t σ H λxs H1=>xs.length<=b8/\∀p,H1 p=none->Q (.ref p) (upd H1 p (.lst xs))
def YK{aM}(h:hJ X es t):bR X (.Tuple es aM pos) (aly t):=by
 intro ah s σ H Q I bg;refine wpAny_Tuple_spliced (cq (h pos ah s σ H _ I bg) λus s1 ⟨xs,H1,a8,r,z,q⟩=>⟨by rw[<- r.length];exact z,?_⟩);have hf:H1 s1.heap.objs.size=none:=a8.ck.fresh (dT _);refine⟨.ref s1.heap.objs.size,upd H1 s1.heap.objs.size (.tup xs),a8.laid (t':=s1.toks) (λb u e=>c8 _ e) (dT _) ?_,rfl,q _ hf⟩;exact⟨z,us,r,⟨_,gA _ rfl,rfl,_,rfl⟩⟩
def YO(h:hJ X es t):bR X (.List es pos) (alq t):=by
 intro ah s σ H Q I bg;refine wpAny_List_spliced (cq (h pos ah s σ H _ I bg) λus s1 ⟨xs,H1,a8,r,z,q⟩=>⟨by rw[<- r.length];exact z,?_⟩);have hf:H1 s1.heap.objs.size=none:=a8.ck.fresh (dT _);refine⟨.ref s1.heap.objs.size,upd H1 s1.heap.objs.size (.lst xs),a8.laid (t':=s1.toks) (λb u e=>c8 _ e) (dT _) ?_,rfl,q _ hf⟩;exact⟨z,us,0,r,gA _ rfl⟩
end
abbrev ks:=List V->aE->c2->gH->Prop
abbrev mh:=List Env->aE->aP->gH->ak->aP->Prop
structure rH(P:cJ)(w:cB)(K:bb)(mg:Str->Option ak)(base:bX)(A:c3)(outer:List Env)(s:aP)(H:aE):Prop where
 frames:A.frames=some outer
 mod:Mod K mg base
 bs:∀b o,base.get? b=some o->s.heap.get? b=some o/\H b=none
 asP:base.objs.size<=s.heap.objs.size
 mw:s.heap.FunFrames base outer
 r6:∀b∈nk outer,H b=none
 ck:e8 P w H s.heap
 bare:AllBare s.gens
noncomputable def DR(outer:List Env)(P:cJ)(w:cB)(H:aE)(s:aP)(Q:c2)(u:ak)(s':aP):Prop:=
 ∃v aj,s'.os=s.os/\AllBare s'.gens/\hs (nk outer) [] H aj s.heap s'.heap/\e8 P w aj s'.heap/\RelV v u/\Q v aj
noncomputable def Wm(eb:mh)(outer:List Env)(P:cJ)(w:cB)(H:aE)(s:aP)(Q:c2)(E:gH)(r:Result)(s':aP):Prop:=
 match r with
|.ok (.ret u)=>DR outer P w H s Q u s'
|.ok _=>False
|.error e=>eb outer H s E e s'
structure eY(P:cJ)(w:cB)(K:bb)(mg:Str->Option ak)(base:bX)(eb:mh)(k:Nat)(f:asq)(fd:fX)(av:List Str)(sp:ks):Prop where
 len:∀vs H Q E,sp vs H Q E->vs.length=av.length
 run:∀(A:c3) (outer:List Env) (s:aP) (H:aE) (args:Args) (us:List ak) (vs:List V) (Q:c2) (E:gH),dD k A->rH P w K mg base A outer s H->BindsTo s fd args (av.zip us)->Vals vs us->sp vs H Q E ->
  codeAny (bV P w) A (.call (.ref f) args) (Wm eb outer P w H s Q E) s
theorem eY.mono{P:cJ}{w:cB}{K:bb}{mg:Str->Option ak}{base:bX}{eb:mh}{j k:Nat}{f:asq}{fd:fX}{av:List Str}{sp:ks}(F:eY P w K mg base eb j f fd av sp)(h:j<=k):
  eY P w K mg base eb k f fd av sp:=⟨F.len,λA outer s H args us vs Q E aw=>F.run A outer s H args us vs Q E (aw.mono h)⟩
def eY.imp{P:cJ}{w:cB}{K:bb}{mg:Str->Option ak}{base:bX}{eb:mh}{k:Nat}{f:asq}{fd:fX}{av:List Str}{sp atg:ks}(F:eY P w K mg base eb k f fd av sp)
  (h:∀vs H Q E,atg vs H Q E->sp vs H Q E):eY P w K mg base eb k f fd av atg:=
 ⟨λvs H Q E q=>F.len vs H Q E (h _ _ _ _ q),λA outer s H args us vs Q E aw he ab bq asr=>F.run A outer s H args us vs Q E aw he ab bq (h _ _ _ _ asr)⟩
def rH.make{P:cJ}{w:cB}{K:bb}{mg:Str->Option ak}{base:bX}{A:c3}{outer:List Env}{s:aP}{H:aE}(e:rH P w K mg base A outer s H)(C:asq)(us:List ak)(kw:List (Str×ak)):
  rH P w K mg base (A.under (.builtin "type.__call__" ⟨.ref C::us,kw⟩)) outer s H:=⟨by first|exact e.frames|(simpa [Around.under,Code.envs,Code.isFrame,pushEnvs] using e.frames),e.mod,e.bs,e.asP,e.mw,e.r6,e.ck,e.bare⟩
section
variable {X:bu}{ah:List (asq×Obj)}{σ:St}{H:aE}{s s':aP}
def Inv.Qg(I:Inv X ah σ H s):rH X.prog X.w X.K X.mg X.base X.A X.stack s H:=
 ⟨I.ok.frames,I.ok.mod,I.bs,mS I.ok.asP I.ll,I.stack,I.RB,I.ck,I.bare⟩
def Inv.after{Q:c2}{u:ak}(I:Inv X ah σ H s)(h:DR X.stack X.prog X.w H s Q u s'):hp X ah σ Q u s':=by
 obtain⟨v,aj,os,bare,un,ck,r,q⟩:=h;obtain⟨cK,g,d,t,A1⟩:=s';obtain rfl:A1=s.os:=os;exact⟨v,aj,I.call (h':=cK) (g':=g) (d':=d) (t':=t) (ch:=[]) un ck bare (λb z=>absurd z (by simp)),r,q⟩
end
def ZF(sp:ks)(h5:List V)(E:gH)(t:f7):TE:=λσ H Q=>t σ H λvs H1=>sp (vs++h5) H1 Q E
noncomputable def Wg(C:asq)(m:Str)(sp:ks)(h5:List V)(E:gH)(cj:TE)(t:f7):TE:=λσ H Q=>cj σ H λx H1=>∃a bj aA,x=.ref a/\H1 a=some (.ins C bj aA)/\aA.lookup m=none /\
 t σ H1 λvs bk=>sp (x::(vs++h5)) bk Q E
noncomputable def ZC(C:asq)(sp:ks)(h5:List V)(E:gH)(t:f7):TE:=λσ H Q=>t σ H λvs H1=>∀x bj,H1 x=none->H1 bj=none->bj≠x ->
 sp (.ref x::(vs++h5)) (upd (upd H1 bj (.own x)) x (.ins C bj [])) (λv bk=>v=.fC/\Q (.ref x) bk) E
def Binds(K:bb)(fd:fX)(av:List Str)(ds:List ak):Prop:=
 ∀(s:aP) (us:List ak),K.In s.heap->(us++ds).length=av.length->BindsTo s fd ⟨us,[]⟩ (av.zip (us++ds))
def Binds.all{K:bb}{fd:fX}{av:List Str}(h:∀us:List ak,us.length=av.length->bindArgs fd ⟨us,[]⟩=pure (av.zip us)):Binds K fd av []:=λs us _ aB=>by
 rw[jN] at aB ⊢;exact .of_eq (h us aB)
def Passes(eb:mh)(X:bu)(E:gH):Prop:=∀(ah:List (asq×Obj)) (σ:St) (H:aE) (s:aP) (e:ak) (s':aP),Inv X ah σ H s->eb X.stack H s E e s'->X.dR e s'
section
variable {X:bu}{eb:mh}{k:Nat}{f C:asq}{fd:fX}{av:List Str}{sp:ks}{h5:List V}{ds:List ak}{E:gH}{x m:Str}{p pos apos:Pos}{e o:bx}{es:List bx}{cj:TE}{t:f7}
def NH{ah:List (asq×Obj)}{σ:St}{H:aE}{s:aP}{Q:c2}{us:List ak}{vs:List V}(F:eY X.prog X.w X.K X.mg X.base eb k f fd av sp)(aw:dD k X.A)(ab:Binds X.K fd av ds)(hd:Vals h5 ds)(hx:Passes eb X E)
  (I:Inv X ah σ H s) (r:Vals vs us) (h:sp (vs++h5) H Q E):bD (bV X.prog X.w) X.A (call (.ref f) us) (hp X ah σ Q) X.dR s:=by
 have b':Vals (vs++h5) (us++ds):=r.append hd;have aB:(us++ds).length=av.length:=by rw[<- b'.length];exact F.len _ _ _ _ h
 refine wpAny_call (codeAny_mono (F.run X.A X.stack s H ⟨us,[]⟩ (us++ds) (vs++h5) Q E aw I.Qg (ab s us I.iv aB) b' h) λr s' bg=>?_)
 cases r with
|error e=>exact hx ah σ H s e s' I bg
|ok lQ=>
  cases lQ with
  |ret u=>exact I.after bg
  |next=>exact l2 bg
  |brk=>exact l2 bg
  |cont=>exact l2 bg
def yr(F:eY X.prog X.w X.K X.mg X.base eb k f fd av sp)(aw:dD k X.A)(bf:ez X x)(hm:X.mg x=some (.ref f))(aR:mQ X.K (.ref f)=true)(ab:Binds X.K fd av ds)(hd:Vals h5 ds)(hx:Passes eb X E)
  (au:hJ X (e::es) t) (gY:(x==("__debug__":Str))=false:=by decide) (he:bo (e::es) X.env=(false,eval e X.env)::bo es X.env:=by rfl) (hpl:(dp pos (bo es X.env)).any (·.1)=false:=by rfl):
  bR X (.Call (.Name x p) (e::es) [] pos) (ZF sp h5 E t):=by
 intro ah s σ H Q I h;refine sS (Nk I bf hm ?_ gY);refine PySem.W.callWith_K (h₀:=X.base) I.ok.mod.wX aR (cq (au pos ah s σ H _ I h) λus s1 ⟨vs,H1,a8,r,q⟩=>⟨a8.iv,?_⟩) he hpl;exact NH F aw ab hd hx a8 r q
def U7{pl:Sem Bool}(he:bR X o cj)(c:m5 X.K C)(hm:Meth X.K C m f)(F:eY X.prog X.w X.K X.mg X.base eb k f fd av sp)(aw:dD k X.A)(ab:Binds X.K fd av ds)(hd:Vals h5 ds)(hx:Passes eb X E)(au:hJ X (e::es) t)
  (lS:bo (e::es) X.env=(false,eval e X.env)::bo es X.env:=by rfl) (hpl:(dp pos (bo es X.env)).any (·.1)=false:=by rfl)
  (aZ:eval (.Call (.Attribute o m apos) (e::es) [] pos) X.env=(do
   let eG <- eval o X.env
   standAt apos.atName
   let (f,first) <- holding [eG] (getMethod eG m pl)
   callWith pos f first (dp pos (bo (e::es) X.env)) (l7 pos (l6 [] X.env))):=by rfl):
  bR X (.Call (.Attribute o m apos) (e::es) [] pos) (Wg C m sp h5 E cj t):=by
 intro ah s σ H Q I h;refine PySem.W.methodCall_KW (pl:=pl) (cq (he ah s σ H _ I h) λu s1 ⟨x,H1,a8,aL,a,bj,aA,ex,dG,l,q⟩=>?_) aZ;subst ex;obtain rfl:u=Value.ref a:=aL;refine Th a8 dG c hm l ?_;refine PySem.W.callWith_K (first:=[.ref a]) (h₀:=X.base) I.ok.mod.wX hm.aC (cq (au pos ah s1 σ H1 _ a8 q) λus s2 ⟨vs,bk,cx,r,a7⟩=>⟨cx.iv,?_⟩) lS hpl;exact NH (us:=.ref a::us) (vs:=.ref a::vs) F aw ab hd hx cx (.cons rfl r) a7
def MZ{pl:Sem Bool}(he:bR X o cj)(c:m5 X.K C)(hm:Meth X.K C m f)(F:eY X.prog X.w X.K X.mg X.base eb k f fd av sp)(aw:dD k X.A)(ab:Binds X.K fd av ds)(hd:Vals h5 ds)(hx:Passes eb X E)
  (aZ:eval (.Call (.Attribute o m apos) [] [] pos) X.env=(do
   let eG <- eval o X.env
   standAt apos.atName
   let (f,first) <- holding [eG] (getMethod eG m pl)
   callWith pos f first (dp pos (bo [] X.env)) (l7 pos (l6 [] X.env))):=by rfl):
  bR X (.Call (.Attribute o m apos) [] [] pos) (Wg C m sp h5 E cj Lc):=by
 intro ah s σ H Q I h;refine PySem.W.methodCall_KW (pl:=pl) (cq (he ah s σ H _ I h) λu s1 ⟨x,H1,a8,aL,a,bj,aA,ex,dG,l,q⟩=>?_) aZ;subst ex;obtain rfl:u=Value.ref a:=aL;refine Th a8 dG c hm l ?_;exact PySem.W.callWith_K0 (first:=[.ref a]) a8.iv hm.aC (NH (us:=[.ref a]) (vs:=[.ref a]) F aw ab hd hx a8 (.cons rfl .nil) q)
structure tW(K:bb)(C f:asq):Prop where
 makes:PySem.W.makesIn K C=true
 init:lY K (.ref C) "__init__"=some (some (.ref f))
 fn:PySem.W.isFn K (.ref f)=true
 aC:mQ K (.ref C)=true
def apr{ah:List (asq×Obj)}{σ:St}{H:aE}{s:aP}{Q:c2}{us:List ak}{vs:List V}(M:tW X.K C f)(F:eY X.prog X.w X.K X.mg X.base eb k f fd av sp)(aw:dD (k+1) X.A)(ab:Binds X.K fd av ds)(hd:Vals h5 ds)
  (hx:Passes eb X E) (I:Inv X ah σ H s) (r:Vals vs us)
  (h:∀x bj,H x=none->H bj=none->bj≠x->sp (.ref x::(vs++h5)) (upd (upd H bj (.own x)) x (.ins C bj [])) (λv bk=>v=.fC/\Q (.ref x) bk) E):
  bD (bV X.prog X.w) X.A (call (.ref C) us) (hp X ah σ Q) X.dR s:=by
 have bg:=h (s.heap.objs.size+1) s.heap.objs.size (I.ck.fresh (fj _)) (I.ck.fresh (dT _)) (fh (Nat.lt_succ_self _));have cx:=Inv.made (C:=C) I;have b':Vals (V.ref (s.heap.objs.size+1)::(vs++h5)) (Value.ref (s.heap.objs.size+1)::(us++ds)):=.cons rfl (r.append hd);have aB:(Value.ref (s.heap.objs.size+1)::us++ds).length=av.length:=by
  have e:=b'.length;rw[F.len _ _ _ _ bg] at e;exact e.symm
 refine wpAny_call (apX (f:=f) I.iv M.makes M.init (beq_iff_eq.mp M.fn) (codeAny_mono (F.run _ X.stack _ _ ⟨Value.ref (s.heap.objs.size+1)::us,[]⟩ (Value.ref (s.heap.objs.size+1)::(us++ds)) _ _ E (aw.make C us [])
  (cx.Qg.make C us []) (ab _ (Value.ref (s.heap.objs.size+1)::us) cx.iv aB) b' bg) λr s' qB=>?_))
 cases r with
|error e=>exact hx ah σ _ _ e s' cx qB
|ok lQ=>
  cases lQ with
  |ret u=>
   obtain⟨v,aj,dW,b0,ev,cL⟩:=cx.after qB;subst ev;exact⟨b0,⟨V.ref (s.heap.objs.size+1),aj,dW,rfl,cL⟩⟩
  |next=>exact l2 qB
  |brk=>exact l2 qB
  |cont=>exact l2 qB
def aqX(M:tW X.K C f)(F:eY X.prog X.w X.K X.mg X.base eb k f fd av sp)(aw:dD (k+1) X.A)(bf:ez X x)(hm:X.mg x=some (.ref C))(ab:Binds X.K fd av ds)(hd:Vals h5 ds)(hx:Passes eb X E)
  (au:hJ X (e::es) t) (gY:(x==("__debug__":Str))=false:=by decide) (he:bo (e::es) X.env=(false,eval e X.env)::bo es X.env:=by rfl) (hpl:(dp pos (bo es X.env)).any (·.1)=false:=by rfl):
  bR X (.Call (.Name x p) (e::es) [] pos) (ZC C sp h5 E t):=by
 intro ah s σ H Q I h;refine sS (Nk I bf hm ?_ gY);refine PySem.W.callWith_K (h₀:=X.base) I.ok.mod.wX M.aC (cq (au pos ah s σ H _ I h) λus s1 ⟨vs,H1,a8,r,q⟩=>⟨a8.iv,?_⟩) he hpl;exact apr M F aw ab hd hx a8 r q
end
structure cw(N P:List Str)(sc:Scope):Prop where
 kind:sc.kind=.function
 co:sc.isCoroutine=false
 gen:sc.isGenerator=false
 a_:N.Nodup
 pre:N.take P.length=P
 par:∀x∈P,sc.names.lookup x=some .local\/sc.names.lookup x=some .cell
 af7:∀y∈sc.names,y.2≠.free
theorem T7{kindOf:Str->Option l9}{x:Str}:∀{binds:List (Str×ak)} {m:Str->Option ak},(∀v,(x,v)∉binds)->bindL kindOf binds m x=m x
  | [],_,_=>rfl
  | (n,v)::r,m,h=>by
    unfold bindL;rw[T7 λw hw=>h w (di _ hw)];split
    · have:x≠n:=by rintro rfl;exact h v fY
      simp[this]
    · rfl
theorem T9{kindOf:Str->Option l9}{x:Str}:∀{binds:List (Str×ak)} {m:Str->Option ak},(∀v,(x,v)∉binds)->bindC kindOf binds m x=m x
  | [],_,_=>rfl
  | (n,v)::r,m,h=>by
    unfold bindC;rw[T9 λw hw=>h w (di _ hw)];split
    · rfl
    · have:x≠n:=by rintro rfl;exact h v fY
      simp[this]
theorem T8{kindOf:Str->Option l9}{x:Str}{v:ak}:∀{P:List Str} {vs:List ak} {i:Nat} {m:Str->Option ak},P.Nodup->P[i]?=some x->vs[i]?=some v->kindOf x=some .local ->
  bindL kindOf (P.zip vs) m x=some v
| [],_,_,_,_,h,_,_=>by simp at h
|_::_,[],_,_,_,_,h,_=>by simp at h
|p::P,w::vs,0,m,a_,af,ai,aR=>by
  simp at af ai;subst af;subst ai;show bindL kindOf ((p,w)::P.zip vs) m p=_;unfold bindL;rw[T7 λv bq=>(gO.mp a_).1 (List.of_mem_zip bq).1,if_pos aR];simp
|p::P,w::vs,i+1,m,a_,af,ai,aR=>by
  show bindL kindOf ((p,w)::P.zip vs) m x=_
  unfold bindL;exact T8 (i:=i) (gO.mp a_).2 (by simpa using af) (by simpa using ai) aR
theorem T_{kindOf:Str->Option l9}{x:Str}{v:ak}:∀{P:List Str} {vs:List ak} {i:Nat} {m:Str->Option ak},P.Nodup->P[i]?=some x->vs[i]?=some v->kindOf x≠some .local ->
  bindC kindOf (P.zip vs) m x=some v
| [],_,_,_,_,h,_,_=>by simp at h
|_::_,[],_,_,_,_,h,_=>by simp at h
|p::P,w::vs,0,m,a_,af,ai,aR=>by
  simp at af ai;subst af;subst ai;show bindC kindOf ((p,w)::P.zip vs) m p=_;unfold bindC;rw[T9 λv bq=>(gO.mp a_).1 (List.of_mem_zip bq).1,if_neg aR];simp
|p::P,w::vs,i+1,m,a_,af,ai,aR=>by
  show bindC kindOf ((p,w)::P.zip vs) m x=_
  unfold bindC;exact T_ (i:=i) (gO.mp a_).2 (by simpa using af) (by simpa using ai) aR
def start(N:List Str)(vs:List V):St:=vs.map some++dS (N.length - vs.length) none
noncomputable def je(eb:mh)(P:cJ)(w:cB)(K:bb)(mg:Str->Option ak)(base:bX)(N:List Str)(qual:Str)(scope:Scope)(f:asq)(cd:ak)(A:c3)(outer:List Env)(s:aP)(H:aE)(E:gH):bu where
 prog:=P
 w:=w
 K:=K
 mg:=mg
 base:=base
 A:=A.deeper (envOfC qual scope s.heap.objs.size f cd)
 N:=N
 dI:=s
 aO:=H
 env:=envOfC qual scope s.heap.objs.size f cd
 outer:=outer
 stack:=envOfC qual scope s.heap.objs.size f cd::outer
 ex:=[]
 calm:=true
 fn:=λ_=>true
 er:=[]
 dR:=λe s'=>bD (bV P w) (A.deeper (envOfC qual scope s.heap.objs.size f cd)) (leaving (envOfC qual scope s.heap.objs.size f cd) e) (λ_ K5=>eb outer H s E e K5) (λbN K5=>eb outer H s E bN K5) s'
def UQ{sc:Scope}{n:Nat}{x:Str}(h:sc.names.lookup x=some .cell):∃c,(cellsFrom n sc.names []).lookup x=some c:=by
 have q:=PySem.W.cellsFrom_some sc.names n [] (.inl h);exact Option.isSome_iff_exists.mp q
def aoN{eb:mh}{P:cJ}{w:cB}{K:bb}{mg:Str->Option ak}{base:bX}{N av:List Str}{qual:Str}{scope:Scope}{f:asq}{cd:ak}{A:c3}{outer:List Env}{s s1:aP}{H:aE}{E:gH}{us:List ak}{vs:List V}
  (S:cw N av scope) (hd:A.handled=none) (de:rH P w K mg base A outer s H) (aB:vs.length=av.length) (r:Vals vs us)
  (x:InCallC s s.heap.objs.size (bindL (envOfC qual scope s.heap.objs.size f cd).kindOf (av.zip us) λ_=>none) (cellsFrom (s.heap.objs.size+1) scope.names []) (bindC (envOfC qual scope s.heap.objs.size f cd).kindOf (av.zip us) λ_=>none) s1):
  Inv (je eb P w K mg base N qual scope f cd A outer s H E) [] (start N vs) H s1:=by
 have hpl:av.length<=N.length:=by have:=congrArg List.length S.pre;rw[List.length_take] at this;omega
 obtain⟨af,tk,rfl,aR⟩:=x.done;have w5:∀b:asq,b∉(je eb P w K mg base N qual scope f cd A outer s H E).ex:=λb z=>absurd (show b∈([]:List asq) from z) (by simp);refine⟨⟨de.mod,S.kind,rfl,rfl,dT _,λy z c af ai=>?_,λy bw=>?_,λy c _ h=>?_,λ_=>hd,Around.frames_deeper de.frames,.inr ⟨rfl,rfl⟩,λb z=>absurd z (w5 b),de.bs,de.asP,λb _ _=>w5 b,λb z=>absurd z (w5 b),de.mw,de.r6⟩,
  rfl,de.bare,hs.kept aR,⟨_,x.toInCall.ns,λi y v af ai bE=>?_⟩,λy c h=>⟨_,x.cell y c h⟩,de.ck.fresh (dT _),λy c h=>?_,λp aF=>absurd (show p∈([]:List (asq×Obj)) from aF) (by simp),de.ck.kept aR,?_⟩
 ·exact name_of_addr x.apart (xv af) (xv ai)
 ·have bw:scope.names.lookup y=some .cell\/scope.names.lookup y=some .free:=bw;rcases bw with bw|bw
  ·exact UQ bw
  ·exact absurd rfl (S.af7 _ (xv bw))
 ·exact Nat.le_of_lt (x.above y c (xv h))
 ·have hi:i<vs.length:=by
   unfold start at ai;by_cases hi:i<vs.length
   ·exact hi
   ·rw[uS (by simpa using hi)] at ai;rw[List.getElem?_replicate] at ai;split at ai <;> cases ai
  have au:vs[i]?=some v:=by
   unfold start at ai;rw[uT (by simpa using hi),kQ] at ai;cases e:vs[i]? with
   |none=>rw[e] at ai;cases ai
   |some a=>rw[e] at ai;cases ai;rfl
  obtain⟨u,b4,b0⟩:=r.get au;have aF:av[i]?=some y:=by
   rw[<- S.pre,List.getElem?_take_of_lt (by omega)];exact af
  have Q8:av.Nodup:=by rw[<- S.pre];exact S.a_.sublist (List.take_sublist _ _)
  refine⟨u,b0,?_⟩
  rcases S.par y (uV aF) with k|k
  ·exact .inl ⟨k,T8 Q8 aF b4 k⟩
  ·obtain⟨c,e⟩:=UQ (n:=s.heap.objs.size+1) k;refine .inr ⟨.inl k,c,e,?_⟩;have q:=x.cell y c e;rw[T_ Q8 aF b4 (by show scope.names.lookup y≠_;rw[k];decide)] at q;exact q
 ·exact de.ck.fresh (Nat.le_of_lt (x.above y c (xv h)))
 ·unfold start;show _=N.length;rw[jo,eT,List.length_replicate];omega
def Z9{eb:mh}{P:cJ}{w:cB}{K:bb}{mg:Str->Option ak}{base:bX}{k:Nat}{f:asq}{name qual:Str}{params:Arguments}{body:List Stmt}{scope:Scope}{zh eo doc pm cR cH jF:ak}{an fe:Option asq}
  {qM:Array (Option ak)} {N av:List Str} {sp:ks} (lk:K.lookup f=some ⟨jF,fe,.func (qX name qual params body scope zh eo doc pm an cR cH),qM⟩) (jB:PySem.W.codeIn K cR qual=true) (S:cw N av scope)
  (len:∀vs H Q E,sp vs H Q E->vs.length=av.length)
  (Hi:∀(A:c3) (outer:List Env) (s:aP) (H:aE) (vs:List V) (Q:c2) (E:gH),dD k (A.deeper (envOfC qual scope s.heap.objs.size f cR))->sp vs H Q E ->
   ∃t,jZ (je eb P w K mg base N qual scope f cR A outer s H E) body t/\t {bP:=λ_ aj=>Q .fC aj,d9:=Q} (start N vs) H):
  eY P w K mg base eb (k+1) f (qX name qual params body scope zh eo doc pm an cR cH) av sp:=by
 refine⟨len,λA outer s H args us vs Q E aw de ab r qD=>?_⟩
 have aB:=len _ _ _ _ qD;have nU:K.In s.heap:=de.mod.wX.keeps λb o e=>(de.bs b o e).1;have lim:s.heap.NoLimit:=de.mod.nolimit.keeps λb o e=>(de.bs b o e).1;have adU:∀y∈av.zip us,scope.names.lookup y.1=some .local\/(scope.names.lookup y.1=some .cell/\((cellsFrom (s.heap.objs.size+1) scope.names []).lookup y.1).isSome=true):=λ⟨n,v⟩ bw=>by
  rcases S.par n (List.of_mem_zip bw).1 with q|q
  ·exact .inl q
  ·exact .inr ⟨q,PySem.W.cellsFrom_some _ _ _ (.inl q)⟩
 refine codeAny_call_function aw.depth (nU _ _ lk) rfl S.co S.gen rfl (PySem.W.codeRec_of nU jB) (ab _ _ _ _ ?_)
 refine wpAny_newFunctionEnv_cells S.kind adU λenv he s1 x=>?_
 subst he;refine⟨lim.keeps x.toInCall.keep,codeAny_func ?_⟩;obtain⟨t,aZ,bg⟩:=Hi A outer s H vs Q E (aw.deeper _) qD;have I:Inv (je eb P w K mg base N qual scope f cR A outer s H E) [] (start N vs) H s1:=aoN S aw.hd de aB r x;refine hT (aZ [] s1 (start N vs) H _ I bg) (λlQ s' asr=>?_) λe s' asr=>asr;have fin:∀{cf:St} {aj:aE} {v:V} {u:ak},Inv (je eb P w K mg base N qual scope f cR A outer s H E) [] cf aj s'->RelV v u->Q v aj->DR outer P w H s Q u s':=
  λ{cf aj v u} J b0 q=>⟨v,aj,J.os,J.bare,J.base,J.ck,b0,q⟩
 cases lQ with
|ret u=>
  obtain⟨v,cf,aj,J,b0,q⟩:=asr;exact fin J b0 q
|next=>
  obtain⟨cf,aj,J,q⟩:=asr;exact fin (v:=V.fC) (u:=Value.none) J rfl q
|brk=>
  obtain⟨_,_,_,q⟩:=asr;exact l2 q
|cont=>
  obtain⟨_,_,_,q⟩:=asr;exact l2 q
end bG
namespace bG
open PySem PySem.Spec PyProof.Rows
section
variable {X:bu}{x:Str}{p pos:Pos}{e:bx}{es:List bx}{t:f7}{id T:String}{r:List V->aE->c2->Prop}
def Lb(r:List V->aE->c2->Prop)(t:f7):TE:=λσ H Q=>t σ H λvs H1=>r vs H1 Q
def yk(ax:kr X (.builtin id) r)(bf:ez X x)(hm:X.mg x=none)(bq:bootBuiltins x=some (.builtin id))(au:hJ X (e::es) t)(a9:x≠"__name__":=by decide)(gY:(x==("__debug__":Str))=false:=by decide)
  (he:bo (e::es) X.env=(false,eval e X.env)::bo es X.env:=by rfl) (hpl:(dp pos (bo es X.env)).any (·.1)=false:=by rfl):bR X (.Call (.Name x p) (e::es) [] pos) (Lb r t):=by
 intro ah s σ H Q I h;refine sS (p7 I bf hm bq ?_ a9 gY);exact PyProof.Rows.callWith_builtin1 (cq (au pos ah s σ H _ I h) λus s1 ⟨vs,H1,a8,a6,aQ⟩=>ax ah s1 σ H1 vs us Q a8 a6 aQ) he hpl
def C0(ax:kr X (.type T) r)(bf:ez X x)(hm:X.mg x=none)(bq:bootBuiltins x=some (.type T))(au:hJ X (e::es) t)(a9:x≠"__name__":=by decide)(gY:(x==("__debug__":Str))=false:=by decide)
  (he:bo (e::es) X.env=(false,eval e X.env)::bo es X.env:=by rfl) (hpl:(dp pos (bo es X.env)).any (·.1)=false:=by rfl):bR X (.Call (.Name x p) (e::es) [] pos) (Lb r t):=by
 intro ah s σ H Q I h;refine sS (p7 I bf hm bq ?_ a9 gY);exact uU (cq (au pos ah s σ H _ I h) λus s1 ⟨vs,H1,a8,a6,aQ⟩=>ax ah s1 σ H1 vs us Q a8 a6 aQ) he hpl
end
end bG
namespace eZ
open PySem PyProof.Rows
section
variable {prog:cJ}{w:cB}{A:c3}{E:ak->aP->Prop}{s:aP}
def aaG{t b:asq}{vs ws:List ak}{Q:ak->aP->Prop}(aZ:IsTup s.heap t vs.toArray)(ab:IsTup s.heap b ws.toArray)(bq:vs≠[])
  (af:ws=[]->Q (.ref t) s) (ai:ws≠[]->Q (.ref s.heap.objs.size) {s with heap:=s.heap.push {cls:=.type "tuple",data:=.seq (vs++ws).toArray} })
  (hsz:vs.length+ws.length<=b8):bD (bV prog w) A (kT .Add (.ref t) (.ref b)) Q E s:=by
 obtain⟨⟨cls,e_,data,c5⟩,aH,ax,n,hd⟩:=id aZ;obtain⟨⟨Gp,mq,data2,lj⟩,sh,wB,gf,hd2⟩:=id ab;simp only at ax hd wB hd2;subst ax hd wB hd2;have e:vs.toArray++ws.toArray=(vs++ws).toArray:=by simp
 by_cases hw:ws=[]
 ·exact concat_meets ⟨_,aH,rfl⟩ ⟨_,sh,rfl⟩ noFill_tuple_add seq_tuple_add PySem.F.slot_tuple_add PySem.F.entry_tuple_add (PySem.F.args_tuple_add_2 _ _)
   (tuple_addW1 t b vs.toArray ws.toArray n gf e_ mq c5 lj (by simpa using bq) (by simp[hw])) ⟨aH,sh,af hw⟩
 ·refine concat_meets ⟨_,aH,rfl⟩ ⟨_,sh,rfl⟩ noFill_tuple_add seq_tuple_add PySem.F.slot_tuple_add PySem.F.entry_tuple_add (PySem.F.args_tuple_add_2 _ _)
   (tuple_addW2 t b vs.toArray ws.toArray n gf e_ mq c5 lj (by simpa using bq) (by simpa using hw) (by rw[d0,d0];exact hsz)) ⟨aH,sh,?_⟩
  rw[e];exact ai hw
def cu(n d:Nat):Option Int->Nat
|none=>d
|some v=>if v<0 then (v+(n:Int)).toNat else min v.toNat n
def yC(n d:Nat)(hd:d<=n)(o:Option Int):cu n d o<=n:=by
 cases o with
|none=>exact hd
|some v=>
  show (if v<0 then (v+(n:Int)).toNat else min v.toNat n)<=n
  by_cases bq:v<0
  ·rw[if_pos bq];omega
  ·rw[if_neg bq];exact Nat.min_le_right _ _
def Vl(v:Int)(n d:Nat):(if v<0 then max (v+(n:Int)) 0 else min v (n:Int))=((cu n d (some v):Nat):Int):=by
 show (if v<0 then max (v+(n:Int)) 0 else min v (n:Int))=(((if v<0 then (v+(n:Int)).toNat else min v.toNat n):Nat):Int)
 by_cases bq:v<0
 ·simp only[if_pos bq];omega
 ·simp only[if_neg bq];omega
def aom(lo hi:Option Int)(n:Nat):Builtin.Slice.sliceAdjust lo hi 1 (n:Int)=(((cu n 0 lo:Nat):Int),((cu n n hi:Nat):Int)):=by
 have af:¬((1:Int)<0):=by omega
 unfold Builtin.Slice.sliceAdjust;simp only[af,if_false];refine Prod.ext ?_ ?_
 ·cases lo with
  |none=>rfl
  |some v=>exact Vl v n 0
 ·cases hi with
  |none=>rfl
  |some v=>exact Vl v n n
def anW(i j:Nat):Bu (i:Int) (j:Int) 1=j - i:=by
 unfold Bu;have af:(1:Int) > 0:=by omega
 simp only[af,if_true,Int.ediv_one];split <;> omega
def SY{v:ak}{o:Option Int}{Q:Option Int->aP->Prop}(p:IsPart v o)(h:Q o s):bD (bV prog w) A (Builtin.Slice.slicePartIndex v) Q E s:=by
 cases p with
|none=>exact slicePart_none h
|int i t=>exact slicePart_int h
def Ry{c5:asq}{hh eS:ak}{lo hi:Option Int}{n:Nat}{Q:Int×Int×Nat->aP->Prop}(asr:s.heap.IsSliceOf c5 hh eS .none)(pl:IsPart hh lo)(pu:IsPart eS hi)
  (h:Q (((cu n 0 lo:Nat):Int),1,cu n n hi - cu n 0 lo) s):bD (bV prog w) A (Builtin.Slice.sliceApplied (.ref c5) (pure (n:Int))) Q E s:=by
 obtain⟨os,pz,ate,wF⟩:=id asr;unfold Builtin.Slice.sliceApplied Builtin.Slice.sliceFields;refine a3 (a3 (hU pz wF (x:=hh) rfl (a3 (hU pz wF (x:=eS) rfl (a3 (hU pz wF (x:=.none) rfl (cG ?_)))))));refine a3 (slicePart_none ?_);show bD _ _ (if ((1:Int)==0)=true then _ else _) _ _ s;rw[if_neg (by decide)];refine a3 (SY pl (a3 (SY pu (a3 (cG ?_)))));show bD _ _ (match Builtin.Slice.sliceAdjust lo hi 1 (n:Int) with|(lo,hi)=>pure (lo,(1:Int),Bu lo hi 1)) _ _ s;rw[aom lo hi n];show bD _ _ (pure (((cu n 0 lo:Nat):Int),(1:Int),Bu ((cu n 0 lo:Nat):Int) ((cu n n hi:Nat):Int) 1)) _ _ s;rw[anW];exact cG h
def apD(xs:Array ak)(i k:Nat):((List.range k).filterMap λ(m:Nat)=>xs[((i:Int)+(m:Int)*1).toNat]?).toArray=((xs.toList.drop i).take k).toArray:=by
 have e:(λ(m:Nat)=>xs[((i:Int)+(m:Int)*1).toNat]?)=λm=>xs[i+m]?:=by
  funext m;have:((i:Int)+(m:Int)*1).toNat=i+m:=by omega
  rw[this]
 rw[e];have:=pick_run xs i k;rw[List.filterMap_map] at this;have aS:((λx=>xs[x]?) ∘ λx=>i+x)=λm=>xs[i+m]?:=rfl;rw[aS] at this;rw[this]
def adg{t c5:asq}{items:Array ak}{hh eS:ak}{lo hi:Option Int}{Q:ak->aP->Prop}(aZ:IsTup s.heap t items)(asr:s.heap.IsSliceOf c5 hh eS .none)(pl:IsPart hh lo)(pu:IsPart eS hi)
  (hw:¬(cu items.size 0 lo=0/\cu items.size items.size hi=items.size))
  (h:Q (.ref s.heap.objs.size) {s with heap:=s.heap.push {cls:=.type "tuple",data:=.seq ((items.toList.drop (cu items.size 0 lo)).take (cu items.size items.size hi - cu items.size 0 lo)).toArray} })
  (hsz:items.size<=b8):bD (bV prog w) A (getItem (.ref t) (.ref c5)) Q E s:=by
 have Aa:sizeOk (.seq ((items.toList.drop (cu items.size 0 lo)).take (cu items.size items.size hi - cu items.size 0 lo)).toArray):=by
  show ((items.toList.drop (cu items.size 0 lo)).take (cu items.size items.size hi - cu items.size 0 lo)).toArray.size<=b8
  rw[d0,List.length_take,List.length_drop,q1];omega
 have bJ:cu items.size items.size hi<=items.size:=yC _ _ (dT _) hi;obtain⟨os,pz,ate,wF⟩:=id asr;have He:s.TypeIs (.ref c5) "slice":=⟨os,pz,ate⟩;unfold getItem
 try with_reducible refine ov ?_
 first|refine a3 (cG ?_)|skip
 refine a3 (wpAny_sequenceKey aZ.typeIs (by decide) ?_)
 refine a3 (pW (name:=Str.ofString "__getitem__") aZ.typeIs Bt
  (ox Bt aZ.typeIs entry_tuple_getitem ?_ (args_tuple_getitem _ _)))
 show bD _ _ (Builtin.Tuple.tupleItemsOf (.ref t) >>= _) _ _ s
 refine a3 (tupleItemsOf_ aZ ?_)
 refine a3 (wpAny_typeOf He ?_)
 rw[if_pos (by decide)];refine a3 (Ry asr pl pu ?_);have uw:¬((((cu items.size 0 lo:Nat):Int)==0 && (1:Int)==1 && (cu items.size items.size hi - cu items.size 0 lo)==items.size)=true):=by
  intro q;rw[fi,fi] at q;have aQ:((cu items.size 0 lo:Nat):Int)=0:=eq_of_beq q.1.1;have a7:cu items.size items.size hi - cu items.size 0 lo=items.size:=eq_of_beq q.2;exact hw ⟨by omega,by omega⟩
 show bD _ _ (if (((cu items.size 0 lo:Nat):Int)==0 && (1:Int)==1 && (cu items.size items.size hi - cu items.size 0 lo)==items.size)=true then _ else _) _ _ s
 rw[if_neg uw,apD]
 first
  |exact a3 (m:=sO _) (pX (cG ⟨_,rfl,cG h⟩) Aa)
  |exact a3 (m:=sO _) (pX (a3 (cG (cG ⟨_,rfl,cG h⟩))) Aa)
  |exact a3 (a3 (m:=sO _) (pX (cG (cG ⟨_,rfl,cG h⟩)) Aa))
  |exact a3 (a3 (m:=sO _) (pX (cG ⟨_,rfl,cG h⟩) Aa))
end
end eZ
namespace bG
open PySem PySem.Spec PyProof.Rows
abbrev b9:=St->aE->(Option Int->aE->Prop)->Prop
noncomputable def mj(X:bu)(e:Option bx)(t:b9):Prop:=
 ∀(ah:List (asq×Obj)) (s:aP) (σ:St) (H:aE) (Q:Option Int->aE->Prop),Inv X ah σ H s->t σ H Q ->
  bD (bV X.prog X.w) X.A (evalPart e X.env) (λu s'=>∃o aj,Inv X ah σ aj s'/\IsPart u o/\Q o aj) X.dR s
def aqo:b9:=λ_ H Q=>Q none H
def Zx(t:TE):b9:=λσ H Q=>t σ H λx H1=>∃i,x=.int i/\Q (some i) H1
section
variable {X:bu}{e:bx}{gi:TE}{lo hi:Option bx}{i6 Bj:b9}{pos ej:Pos}
def aqS:mj X none aqo:=by
 intro ah s σ H Q I h;rw[evalPart_none];exact cG ⟨none,H,I,.none,h⟩
def aqR(h:bR X e gi):mj X (some e) (Zx gi):=by
 intro ah s σ H Q I hw;rw[evalPart_some];refine cq (h ah s σ H _ I hw) λu s1 ⟨x,H1,a8,a6,aQ⟩=>?_;obtain⟨i,rfl,q⟩:=aQ;obtain⟨t,rfl⟩:=a6;exact⟨some i,H1,a8,.int i t,q⟩
noncomputable def o7(X:bu)(r:V->Option Int->Option Int->aE->c2->Prop):Prop:=
 ∀(ah:List (asq×Obj)) (s:aP) (σ:St) (H:aE) (x:V) (v hh eS:ak) (lo hi:Option Int) (c5:asq) (Q:c2),Inv X ah σ H s->RelV x v->s.heap.IsSliceOf c5 hh eS .none->IsPart hh lo->IsPart eS hi->r x lo hi H Q ->
  ∃T id,typeLookup (.type T) "__getitem__"=pure (some (.builtin id))/\s.TypeIs v T/\bD (bV X.prog X.w) X.A (getItem v (.ref c5)) (hp X ah σ Q) X.dR s
def o7.or{r b_:V->Option Int->Option Int->aE->c2->Prop}(h:o7 X r)(h':o7 X b_):o7 X (λx lo hi H Q=>r x lo hi H Q\/b_ x lo hi H Q):=by
 intro ah s σ H x v hh eS lo hi c5 Q I aL asr pl pu q;rcases q with q|q
 ·exact h ah s σ H x v hh eS lo hi c5 Q I aL asr pl pu q
 ·exact h' ah s σ H x v hh eS lo hi c5 Q I aL asr pl pu q
def alx(r:V->Option Int->Option Int->aE->c2->Prop)(gi:TE)(i6 Bj:b9):TE:=λσ H Q=>gi σ H λx H1=>i6 σ H1 λl bk=>Bj σ bk λu dj=>r x l u dj Q
def Uz{r:V->Option Int->Option Int->aE->c2->Prop}(aw:o7 X r)(he:bR X e gi)(aB:mj X lo i6)(b4:mj X hi Bj):bR X (.Subscript e (.Slice lo hi none ej) pos) (alx r gi i6 Bj):=by
 intro ah s σ H Q I h;refine Subscript_ (cq (he ah s σ H _ I h) λv s1 ⟨x,H1,a8,a6,aQ⟩=>?_);refine wpAny_Slice (cq (aB ah s1 σ H1 _ a8 aQ) λhh s2 ⟨l,bk,cx,pl,a7⟩=>cq (b4 ah s2 σ bk _ cx a7) λeS s3 ⟨u,dj,dW,pu,cL⟩=>?_);rw[evalPart_none];refine cG ?_;have jt:Inv X ah σ dj {s3 with heap:=s3.heap.push {cls:=.type "slice",data:=.fields #[hh,eS,.none]} }:=dW.kept (t':=s3.toks) λb dQ q=>c8 _ q;obtain⟨T,id,eF,aZ,bf⟩:=aw ah {s3 with heap:=s3.heap.push {cls:=.type "slice",data:=.fields #[hh,eS,.none]} } σ dj x v hh eS l u s3.heap.objs.size Q jt a6 (Heap.IsSliceOf.new ..) pl pu cL;show bD (bV X.prog X.w) X.A (subscriptTail e (.Slice lo hi none ej) v (.ref s3.heap.objs.size)) (hp X ah σ Q) X.dR {s3 with heap:=s3.heap.push {cls:=.type "slice",data:=.fields #[hh,eS,.none]} };exact tail_any (ops:=[.ref s3.heap.objs.size,v]) aZ eF bf (by with_unfolding_all rfl)
def k6(xs:List V)(lo hi:Option Int):List V:=(xs.drop (eZ.cu xs.length 0 lo)).take (eZ.cu xs.length xs.length hi - eZ.cu xs.length 0 lo)
def SU(xs:List V)(lo hi:Option Int):(k6 xs lo hi).length<=xs.length:=by
 unfold k6;rw[List.length_take,List.length_drop];omega
noncomputable def ajM(K:bb):V->Option Int->Option Int->aE->c2->Prop:=λx lo hi H Q=>∃a xs,x=.ref a/\cX K H a xs /\
 ¬(eZ.cu xs.length 0 lo=0/\eZ.cu xs.length xs.length hi=xs.length)/\∀p,H p=none->Q (.ref p) (upd H p (.tup (k6 xs lo hi)))
def VC:o7 X (ajM X.K):=by
 intro ah s σ H x v hh eS lo hi c5 Q I aL asr pl pu h;obtain⟨a,xs,rfl,hx,hw,q⟩:=h;cases aL;obtain⟨its,r,aZ,ar⟩:=I.tuple hx;have hlen:its.toArray.size=xs.length:=by rw[d0];exact r.length.symm
 refine⟨"tuple",_,PyProof.Rows.slot_tuple_getitem.lookup,aZ.typeIs,?_⟩
 refine eZ.adg aZ asr pl pu (by rw[hlen];exact hw) ?_ (by rw[hlen];exact ar)
 rw[hlen];refine⟨.ref s.heap.objs.size,_,I.laid (t':=s.toks) (o:=.tup (k6 xs lo hi)) (λb dQ q=>c8 _ q) (dT _) ?_,rfl,q _ (I.ck.fresh (dT _))⟩;exact⟨mS (SU xs lo hi) ar,_,(r.drop (eZ.cu xs.length 0 lo)).take (eZ.cu xs.length xs.length hi - eZ.cu xs.length 0 lo),IsTup.new _ _⟩
noncomputable def ZL(K:bb):gp:=λx y H Q=>∃a b xs ys,x=.ref a/\y=.ref b/\cX K H a xs/\cX K H b ys/\xs≠[]/\xs.length+ys.length<=b8 /\
 (ys=[]->Q (.ref a) H)/\(ys≠[]->∀p,H p=none->Q (.ref p) (upd H p (.tup (xs++ys))))
def Vals.AU{xs:List V}{us:List ak}(r:Vals xs us):us=[] <-> xs=[]:=by
 cases r with
|nil=>simp
|cons _ _=>simp
def aq4:eg X (kT .Add) (ZL X.K):=by
 intro ah s σ H x y v u Q I aL bt h;obtain⟨a,b,xs,ys,rfl,rfl,au,ab,hx,ar,aQ,a7⟩:=h;cases aL;cases bt;obtain⟨its,a6,sE,_⟩:=I.tuple au;obtain⟨hc,b',ej,_⟩:=I.tuple ab;refine eZ.aaG sE ej (λz=>hx (a6.AU.mp z)) (λz=>⟨.ref a,H,I,rfl,aQ (b'.AU.mp z)⟩) (λz=>?_) (by rw[<- a6.length,<- b'.length];exact ar);refine⟨.ref s.heap.objs.size,_,I.laid (t':=s.toks) (o:=.tup (xs++ys)) (λb dQ q=>c8 _ q) (dT _) ?_,rfl,a7 (λw=>z (b'.AU.mpr w)) _ (I.ck.fresh (dT _))⟩;exact⟨by rw[jo];exact ar,_,a6.append b',IsTup.new _ _⟩
end
end bG
namespace bG
open PySem PySem.Spec PyProof.Rows
def qF(n:Nat)(i:Int):Option Nat:=if 0<=i then (if i<n then some i.toNat else none) else if -(n:Int)<=i then some (i+n).toNat else none
def wg{α:Type}(xs:List α)(i:Int):Option α:=(qF xs.length i).bind λj=>xs[j]?
def arl{n:Nat}{i:Int}{j:Nat}(h:qF n i=some j):seqIndex? i n=some j/\j<n/\-(n:Int)<=i/\i<n:=by
 unfold qF at h;by_cases h0:0<=i
 ·rw[if_pos h0] at h;by_cases af:i<n
  ·rw[if_pos af] at h;have e:i.toNat=j:=fq h;exact⟨by rw[seqIndex_of h0 af,e],by omega,by omega,af⟩
  ·rw[if_neg af] at h;cases h
 ·rw[if_neg h0] at h;by_cases af:-(n:Int)<=i
  ·rw[if_pos af] at h;have e:(i+n).toNat=j:=fq h;exact⟨by rw[seqIndex_neg (by omega) af,e],by omega,af,by omega⟩
  ·rw[if_neg af] at h;cases h
def Nx{α:Type}{xs:List α}{i:Int}{v:α}(h:wg xs i=some v):∃j,seqIndex? i xs.length=some j/\xs[j]?=some v/\j<xs.length/\-(xs.length:Int)<=i/\i<xs.length:=by
 unfold wg at h;cases e:qF xs.length i with
|none=>rw[e] at h;cases h
|some j=>
  rw[e] at h;obtain⟨af,ai,bE,c'⟩:=arl e;exact⟨j,af,h,ai,bE,c'⟩
def Vs(b:bx):Prop:=∀o i,subscripted b false o i=operate [o,i] (getItem o i)
noncomputable def o2(X:bu)(r:gp):Prop:=
 ∀(value slice:bx) (ah:List (asq×Obj)) (s:aP) (σ:St) (H:aE) (x y:V) (v u:ak) (Q:c2),Inv X ah σ H s->RelV x v->RelV y u->r x y H Q ->
  subscripted slice false v u=operate [v,u] (getItem v u)->bD (bV X.prog X.w) X.A (subscriptTail value slice v u) (hp X ah σ Q) X.dR s
noncomputable def atf(X:bu)(id:String)(r:V->List V->aE->c2->Prop):Prop:=
 ∀(ah:List (asq×Obj)) (s:aP) (σ:St) (H:aE) (x:V) (xs:List V) (v:ak) (us:List ak) (Q:c2),Inv X ah σ H s->RelV x v->Vals xs us->r x xs H Q ->
  bD (bV X.prog X.w) X.A (call (.builtin id) (v::us)) (hp X ah σ Q) X.dR s
section
variable {X:bu}{a b:bx}{cj dZ:TE}{pos:Pos}
def o2.or{r b_:gp}(h:o2 X r)(h':o2 X b_):o2 X (λx y H Q=>r x y H Q\/b_ x y H Q):=by
 intro value slice ah s σ H x y v u Q I aL bt q asr;rcases q with q|q
 ·exact h value slice ah s σ H x y v u Q I aL bt q asr
 ·exact h' value slice ah s σ H x y v u Q I aL bt q asr
def ZY{r:gp}(aw:o2 X r)(au:bR X a cj)(ab:bR X b dZ)(asr:Vs b):bR X (.Subscript a b pos) (xn r cj dZ):=by
 intro ah s σ H Q I h;exact Subscript_ (Fe au ab I h λv u s2 x y bk cx aL bt q=>aw a b ah s2 σ bk x y v u Q cx aL bt q (asr _ _))
def Rn(K:bb):gp:=λx y H Q=>∃p xs i v,x=.ref p/\y=.int i/\fP K H p xs/\wg xs i=some v/\Q v H
def Rp(K:bb):gp:=λx y H Q=>∃p xs i v,x=.ref p/\y=.int i/\cX K H p xs/\wg xs i=some v/\Q v H
def Ro:gp:=λx y H Q=>∃z i c,x=.str z/\y=.int i/\z.length<=b8/\wg z.cps.toList i=some c/\Q (.str ⟨#[c]⟩) H
def arj:o2 X (Rn X.K):=by
 intro value slice ah s σ H x y v u Q I aL bt h asr;obtain⟨p,xs,i,z,rfl,rfl,bg,he,q⟩:=h;cases aL;obtain⟨t,rfl⟩:=bt;obtain⟨its,r,pl,ar⟩:=I.list bg;obtain⟨j,af,ai,bE,c',hA⟩:=Nx he;obtain⟨w,jx,iz⟩:=r.get ai;have aB:=r.length;have a9:=vF;have fin:hp X ah σ Q w s:=⟨z,H,I,iz,q⟩;by_cases h0:0<=i
 ·have bJ:i.toNat=j:=by
   rw[seqIndex_of h0 hA] at af;exact fq af
  exact item_listR pl.isList h0 (by omega) (by rw[bJ];simpa using jx) fin asr
 ·have bJ:(i+(its.toArray.size:Int)).toNat=j:=by
   rw[seqIndex_neg (by omega) c'] at af;rw[d0,<- aB];exact fq af
  exact subscriptTail_builtinR (x:=w) pl.isList.typeIs slot_list_getitem.lookup
   (wpAny_getItem_list_neg (Q:=λr s'=>r=w/\hp X ah σ Q r s') pl.isList (by omega) (by rw[d0] <;> omega) (by omega) (by rw[bJ];simpa using jx) ⟨rfl,fin⟩) asr
def Y9:o2 X (Rp X.K):=by
 intro value slice ah s σ H x y v u Q I aL bt h asr;obtain⟨p,xs,i,z,rfl,rfl,bg,he,q⟩:=h;cases aL;obtain⟨t,rfl⟩:=bt;obtain⟨its,r,pl,ar⟩:=I.tuple bg;obtain⟨j,af,ai,bE,c',hA⟩:=Nx he;obtain⟨w,jx,iz⟩:=r.get ai;have aB:=r.length;have a9:=vF;have fin:hp X ah σ Q w s:=⟨z,H,I,iz,q⟩;exact subscriptTail_builtinR (x:=w) pl.typeIs slot_tuple_getitem.lookup
  (getItem_tuple (j:=j) (Q:=λr s'=>r=w/\hp X ah σ Q r s') pl (by omega) (by omega) (by rw[d0,<- aB];exact af) (by simpa using jx) ⟨rfl,fin⟩) asr
def Y_:o2 X Ro:=by
 intro value slice ah s σ H x y v u Q I aL bt h asr;obtain⟨z,i,c,rfl,rfl,ar,he,q⟩:=h;obtain⟨t,rfl⟩:=aL;obtain⟨t',rfl⟩:=bt;obtain⟨j,af,ai,bE,c',hA⟩:=Nx he;have aB:z.cps.toList.length=z.length:=by simp[Str.length]
 rw[aB] at af c' hA;have a9:=vF;exact tail_any (typeIs_str s z t) slot_str_getitem.lookup (getItem_str (c:=c) (by
  have aG:decide (i < -(2 ^ 63:Int))=false:=decide_eq_false (by omega);have aS:decide (i >= 2 ^ 63)=false:=decide_eq_false (by omega);rw[aG,aS,Bool.or_false]) (by rw[af];simpa using ai) ⟨.str ⟨#[c]⟩,H,I.tok _,⟨_,rfl⟩,q⟩) asr
def ajJ(K:bb):gp:=λx y H Q=>Rn K x y H Q\/Rp K x y H Q\/Ro x y H Q
def Y':o2 X (ajJ X.K):=arj.or (Y9.or Y_)
def am1(lo hi:Option Int)(n:Nat):(sliceBounds lo hi none n).1=((eZ.cu n 0 lo:Nat):Int)/\(sliceBounds lo hi none n).2.1=((eZ.cu n n hi:Nat):Int)/\(sliceBounds lo hi none n).2.2=1:=by
 refine⟨?_,?_,rfl⟩
 ·cases lo with
  |none=>simp[sliceBounds,eZ.cu]
  |some i=>
   simp only[sliceBounds,eZ.cu,Option.getD_none,show (1:Int) > 0 by decide,if_true];by_cases h:i<0
   ·simp only[h,if_true] <;> omega
   ·simp only[h,if_false] <;> omega
 ·cases hi with
  |none=>simp[sliceBounds,eZ.cu]
  |some i=>
   simp only[sliceBounds,eZ.cu,Option.getD_none,show (1:Int) > 0 by decide,if_true];by_cases h:i<0
   ·simp only[h,if_true] <;> omega
   ·simp only[h,if_false] <;> omega
def amN(its:List ak)(lo hi:Option Int):slicePick its.toArray lo hi none=((its.drop (eZ.cu its.length 0 lo)).take (eZ.cu its.length its.length hi - eZ.cu its.length 0 lo)).toArray:=by
 obtain⟨af,ai,bE⟩:=am1 lo hi its.toArray.size;unfold slicePick;rw[af,ai,bE];simp only[sliceRange_one,pick_run,d0] <;> rfl
def ajK(K:bb):V->Option Int->Option Int->aE->c2->Prop:=λx lo hi H Q=>∃a xs,x=.ref a/\fP K H a xs/\∀p,H p=none->Q (.ref p) (upd H p (.lst (k6 xs lo hi)))
def UZ:o7 X (ajK X.K):=by
 intro ah s σ H x v hh eS lo hi c5 Q I aL asr pl pu h;obtain⟨a,xs,rfl,hx,q⟩:=h;cases aL;obtain⟨its,r,aZ,ar⟩:=I.list hx;have hlen:=r.length;refine⟨"list",_,slot_list_getitem.lookup,aZ.isList.typeIs,?_⟩;refine wpAny_getItem_list_slice aZ.isList asr pl pu .none (by simp) ?_ (by rw[d0] <;> omega);rw[amN,<- hlen];refine⟨.ref s.heap.objs.size,_,I.laid (t':=s.toks) (o:=.lst (k6 xs lo hi)) (λb dQ q=>c8 _ q) (dT _) ?_,rfl,q _ (I.ck.fresh (dT _))⟩;exact⟨mS (SU xs lo hi) ar,_,0,(r.drop (eZ.cu xs.length 0 lo)).take (eZ.cu xs.length xs.length hi - eZ.cu xs.length 0 lo),gA _ rfl⟩
def anf:kr X (.builtin "len") (λxs H Q=>∃p ys,xs=[.ref p]/\(fP X.K H p ys\/cX X.K H p ys)/\Q (.int ys.length) H):=by
 intro ah s σ H xs us Q I r h;obtain⟨p,ys,rfl,bg,q⟩:=h;obtain⟨u,rfl,aL⟩:=vals1 r;cases aL;have a9:=vF;rcases bg with bg|bg
 ·obtain⟨its,b_,pl,ar⟩:=I.list bg;have hlen:=b_.length;exact Calls.call_len_list pl.isList (by simp only[d0] <;> omega) ⟨.int ys.length,H,I.tok _,⟨s.toks+1,by rw[d0,hlen]⟩,q⟩
 ·obtain⟨its,b_,pl,ar⟩:=I.tuple bg;have hlen:=b_.length;exact len_tuple pl (by simp only[d0] <;> omega) ⟨.int ys.length,H,I.tok _,⟨s.toks+1,by rw[d0,hlen]⟩,q⟩
def ane:kr X (.builtin "len") (λxs H Q=>∃z,xs=[.str z]/\z.length<=b8/\Q (.int z.length) H):=by
 intro ah s σ H xs us Q I r h;obtain⟨z,rfl,ar,q⟩:=h;obtain⟨u,rfl,t,rfl⟩:=vals1 r;have a9:=vF;exact len_str (by omega) ⟨.int z.length,H,I.tok _,⟨_,rfl⟩,q⟩
def kr.or{f:ak}{r b_:List V->aE->c2->Prop}(h:kr X f r)(h':kr X f b_):kr X f (λxs H Q=>r xs H Q\/b_ xs H Q):=by
 intro ah s σ H xs us Q I rs q;rcases q with q|q
 ·exact h ah s σ H xs us Q I rs q
 ·exact h' ah s σ H xs us Q I rs q
def anc:kr X (.type "list") (λxs H Q=>∃p ys,xs=[.ref p]/\(fP X.K H p ys\/cX X.K H p ys)/\∀l,H l=none->Q (.ref l) (upd H l (.lst ys))):=by
 intro ah s σ H xs us Q I r h;obtain⟨p,ys,rfl,bg,q⟩:=h;obtain⟨u,rfl,aL⟩:=vals1 r;cases aL;have fin:∀(its:List ak),Vals ys its->ys.length<=b8->∀(h':bX) (el:Nat),(∀b o',s.heap.get? b=some o'->h'.get? b=some o') ->
   h'.get? s.heap.objs.size=some {cls:=.type "list",dict:=none,data:=.seq its.toArray el,slots:=#[]}->hp X ah σ Q (.ref s.heap.objs.size) {s with heap:=h'}:=λits b_ ar h' el aC e=>
  ⟨.ref s.heap.objs.size,_,I.laid (t':=s.toks) aC (dT _) (show hX X.prog X.w _ h' _ (.lst ys) from ⟨ar,its,el,b_,e⟩),rfl,q _ (I.ck.fresh (dT _))⟩
 rcases bg with bg|bg
 ·obtain⟨its,b_,pl,ar⟩:=I.list bg;have hlen:=b_.length;obtain⟨o,aH,ax,n,hd⟩:=pl.isList;exact call_list_seq p (.inl rfl) aH ax hd (λh' el aC e=>fin its b_ ar h' el aC e) (by simp only[d0] <;> omega)
 ·obtain⟨its,b_,pl,ar⟩:=I.tuple bg;have hlen:=b_.length;obtain⟨o,aH,ax,n,hd⟩:=pl;exact call_list_seq p (.inr rfl) aH ax hd (λh' el aC e=>fin its b_ ar h' el aC e) (by simp only[d0] <;> omega)
def amW:kr X (.type "tuple") (λxs H Q=>∃p ys,xs=[.ref p]/\((fP X.K H p ys/\∀l,H l=none->Q (.ref l) (upd H l (.tup ys)))\/(cX X.K H p ys/\Q (.ref p) H))):=by
 intro ah s σ H xs us Q I r h;obtain⟨p,ys,rfl,h⟩:=h;obtain⟨u,rfl,aL⟩:=vals1 r;cases aL;rcases h with ⟨bg,q⟩|⟨bg,q⟩
 ·obtain⟨its,b_,pl,ar⟩:=I.list bg;have hlen:=b_.length;refine call_tuple_list pl.isList (λh' aC=>?_) (by simp only[d0] <;> omega);have a8:Inv X ah σ H {s with heap:=h'}:=I.kept (t':=s.toks) aC;have cx:Inv X ah σ (upd H h'.objs.size (.tup ys)) {s with heap:=h'.push {cls:=.type "tuple",data:=.seq its.toArray} }:=
   a8.laid (t':=s.toks) (λb o e=>c8 _ e) (dT _) (show hX X.prog X.w _ _ _ (.tup ys) from ⟨ar,its,b_,IsTup.new _ _⟩)
  exact⟨.ref h'.objs.size,_,cx,rfl,q _ (a8.ck.fresh (dT _))⟩
 ·obtain⟨its,b_,pl,ar⟩:=I.tuple bg;exact call_tuple_same pl ⟨.ref p,H,I,rfl,q⟩
noncomputable def Ll(K:bb)(T:String)(x:V)(H:aE):Prop:=match x with
|.str _=>T="str"
|.int _=>T="int"
|.ref p=>(T="list"/\∃xs,fP K H p xs)\/(T="tuple"/\∃o,K.lookup p=some o/\o.cls=.type "tuple"/\o.dict=none) \/
   (T="dict"/\((∃kvs,H p=some (.fx kvs))\/∃kvs,H p=some (.m' kvs)))\/(T="set"/\∃S n,H p=some (.set S n))
|_=>False
def Vy{ah:List (asq×Obj)}{σ:St}{H:aE}{s:aP}{T:String}{x:V}{v:ak}(I:Inv X ah σ H s)(r:RelV x v)(ty:Ll X.K T x H):
  s.TypeIs v T/\∀a,v=.ref a->∃dQ,s.heap.get? a=some dQ/\dQ.dict=none:=by
 cases x with
|str z=>
  obtain⟨t,rfl⟩:=r;cases (show T="str" from ty);exact⟨typeIs_str s z t,λ_ e=>nomatch e⟩
|int i=>
  obtain⟨t,rfl⟩:=r;cases (show T="int" from ty);exact⟨typeIs_int s i t,λ_ e=>nomatch e⟩
|ref p=>
  cases r
  rcases ty with ⟨rfl,xs,bg⟩|⟨rfl,o,aR,ax,hd⟩|⟨rfl,aR⟩|⟨rfl,S,n,aR⟩
  ·obtain⟨its,_,pl,_⟩:=I.list bg;refine⟨pl.isList.typeIs,λa e=>?_⟩;cases e;obtain⟨o,n,e,c,hd,_⟩:=pl;exact⟨o,e,hd⟩
  ·refine⟨⟨o,I.iv p o aR,ax⟩,λa e=>?_⟩
   cases e
   exact⟨o,I.iv _ o aR,hd⟩
  ·have z:∃o,s.heap.get? p=some o/\o.ExactDict:=by
    rcases aR with ⟨kvs,aR⟩|⟨kvs,aR⟩
    ·obtain⟨_,_,_,_,o,_,_,e,ex,_⟩:=I.ck p _ aR;exact⟨o,e,ex⟩
    ·obtain⟨_,_,_,_,o,_,_,e,ex,_⟩:=I.ck p _ aR;exact⟨o,e,ex⟩
   obtain⟨o,e,ex⟩:=z;refine⟨⟨o,e,ex.1⟩,λa aS=>?_⟩;cases aS;exact⟨o,e,ex.2.1⟩
  ·obtain⟨o,_,_,_,e,ex,_⟩:=I.ck p _ aR;refine⟨⟨o,e,ex.1⟩,λa aS=>?_⟩;cases aS;exact⟨o,e,ex.2.1⟩
|_=>exact l2 ty
def alh(K:bb)(T:String)(r:V->List V->aE->c2->Prop)(to:TE):TE:=λσ H Q=>to σ H λx H1=>Ll K T x H1/\r x [] H1 Q
def RI(K:bb)(T:String)(r:V->List V->aE->c2->Prop)(to:TE)(t:f7):TE:=λσ H Q=>to σ H λx H1=>Ll K T x H1/\t σ H1 λxs bk=>r x xs bk Q
variable {o e:bx}{es:List bx}{to:TE}{t:f7}{name:Str}{apos dE:Pos}{T id:String}{r:V->List V->aE->c2->Prop}
def VM(KH:PlainAttrs T)(slot:Slot T name id)(Hz:typeOf (.builtin id)=pure (.type "method_descriptor"))(hm:atf X id r)(aH:bR X o to)
  (jA:ij o name X.env (eval o X.env)=eval o X.env:=by rfl) (jC:(apos.endLine==dE.line)=true:=by rfl):bR X (.Call (.Attribute o name apos) [] [] dE) (alh X.K T r to):=by
 intro ah s σ H Q I h;refine wpAny_Call_method0_late jA jC (cq (aH ah s σ H _ I h) λv s1 ⟨x,H1,a8,a6,ty,aQ⟩=>?_);obtain⟨af,ai⟩:=Vy a8 a6 ty;exact⟨T,id,KH,slot,Hz,af,ai,Calls.callWith_builtin rfl (PySem.evalArgs_none (hm ah s1 σ H1 x [] v [] Q a8 a6 .nil aQ))⟩
def yP(KH:PlainAttrs T)(slot:Slot T name id)(Hz:typeOf (.builtin id)=pure (.type "method_descriptor"))(hm:atf X id r)(aH:bR X o to)(au:hJ X (e::es) t)
  (jA:ij o name X.env (eval o X.env)=eval o X.env:=by rfl)
  (nt:((dp dE (bo (e::es) X.env)).all (λx=>!x.1) && (l7 dE (l6 [] X.env)).all (λx=>x.1.isSome)
   && decide ((e::es).length+([]:List Keyword).length+(if ([]:List Keyword).isEmpty then 0 else 1)<30))=true:=by rfl)
  (jC:(apos.endLine==dE.line)=true:=by rfl) (asr:bo (e::es) X.env=(false,eval e X.env)::bo es X.env:=by rfl) (nv:(dp dE (bo es X.env)).any (·.1)=false:=by rfl):
  bR X (.Call (.Attribute o name apos) (e::es) [] dE) (RI X.K T r to t):=by
 intro ah s σ H Q I h;refine wpAny_Call_method_late jA nt jC rfl (cq (aH ah s σ H _ I h) λv s1 ⟨x,H1,a8,a6,ty,aQ⟩=>?_);obtain⟨af,ai⟩:=Vy a8 a6 ty;refine⟨T,id,KH,slot,Hz,af,ai,?_⟩;have r_:=au dE ah s1 σ H1 _ a8 aQ;rw[asr] at r_ ⊢;refine Calls.callWith_builtin (by show (false || (dp dE (bo es X.env)).any (·.1))=false;rw[nv] <;> rfl) (Calls.evalArgs_plain ?_);exact cq r_ λus s2 ⟨vs,bk,cx,b',a7⟩=>hm ah s2 σ bk x vs v us Q cx a6 b' a7
end
end bG
namespace bG
open PySem PySem.Spec PyProof.Rows
noncomputable def qi(X:bu)(id:String)(r:V->List V->aE->c2->Prop):Prop:=
 ∀(ah:List (asq×Obj)) (s:aP) (σ:St) (H:aE) (x:V) (xs:List V) (v:ak) (us:List ak) (Q:c2),Inv X ah σ H s->RelV x v->Vals xs us->r x xs H Q ->
  bD (bV X.prog X.w) X.A (call (.builtin id) (v::us)) (hp X ah σ Q) X.dR s
def Vals.one:∀{x:V} {us:List ak},Vals [x] us->∃u,us=[u]/\RelV x u
|_,_,.cons r .nil=>⟨_,rfl,r⟩
def Vals.two:∀{x y:V} {us:List ak},Vals [x,y] us->∃u v,us=[u,v]/\RelV x u/\RelV y v
|_,_,_,.cons r (.cons q .nil)=>⟨_,_,rfl,r,q⟩
def Vals.zero:∀{us:List ak},Vals [] us->us=[]
|_,.nil=>rfl
theorem Vals.dropLast{xs:List V}{us:List ak}(h:Vals xs us):Vals xs.dropLast us.dropLast:=by
 induction h with
|nil=>exact .nil
|cons r t bY=>
  cases t with
  |nil=>exact .nil
  |cons q t'=>exact .cons r bY
theorem Vals.eraseIdx:∀{xs:List V} {us:List ak} (i:Nat),Vals xs us->Vals (xs.eraseIdx i) (us.eraseIdx i)
|_,_,_,.nil=>.nil
|_,_,0,.cons _ t=>t
|_,_,i+1,.cons r t=>.cons r (Vals.eraseIdx i t)
theorem Vals.rep{xs:List V}{us:List ak}(h:Vals xs us):∀k:Nat,Vals (dS k xs).flatten (dS k us).flatten
|0=>.nil
|k+1=>by
  rw[qZ,qZ,sQ,sQ];exact Vals.append h (Vals.rep h k)
def an9{α:Type}(l:List α):l.eraseIdx (l.length - 1)=l.dropLast:=by
 induction l with
|nil=>rfl
|cons a r bY=>
  cases r with
  |nil=>rfl
  |cons b r=>
   have e:(a::b::r).length - 1=((b::r).length - 1)+1:=by
    have af:(a::b::r).length=r.length+2:=rfl;have ai:(b::r).length=r.length+1:=rfl;omega
   rw[e,List.eraseIdx_cons_succ,bY]
   all_goals rfl
theorem TL{α:Type}:∀(l:List α) (i:Nat),(l.eraseIdx i).length<=l.length
| [],_=>dT _
|_::_,0=>fj _
|_::r,i+1=>Nat.succ_le_succ (TL r i)
theorem foldl_rep(its:List ak):∀(k:Nat) (acc:List ak),
  List.foldl (λaM bK=>aM++bK) acc.toArray (dS k its.toArray)=(acc++(dS k its).flatten).toArray
|0,acc=>by simp
|k+1,acc=>by
  have e:acc.toArray++its.toArray=(acc++its).toArray:=by simp
  have aS:(acc++its)++(dS k its).flatten=acc++(dS (k+1) its).flatten:=by
   rw[qZ,sQ,as_]
  rw[<- aS,<- foldl_rep its k (acc++its),<- e,qZ,List.foldl_cons]
section
variable {X:bu}{ah:List (asq×Obj)}{σ:St}{H:aE}{s:aP}{l b:asq}{xs ys zs:List V}
def Inv.AP{its its':List ak}{n:Nat}{f:Array ak->Array ak}{t':Nat}(I:Inv X ah σ H s)(gW:H l=some (.lst xs))
  (e:s.heap.get? l=some {cls:=.type "list",data:=.seq its.toArray n}) (hf:f its.toArray=its'.toArray) (bq:Vals ys its') (ar:ys.length<=b8):
  Inv X ah σ (upd H l (.lst ys)) {s with heap:=s.heap.update l (Obj.mapSeq f),toks:=t'}:=by
 have q:=PySem.IsL.update e f;rw[hf] at q;refine I.write (x:=l) (e:=l) (by rw[gW];exact trivial) (.inl rfl) (λgR u ab b4=>(Bx s.heap (Obj.mapSeq f) (Ne.symm ab)).trans b4) ⟨_,q⟩ ?_;exact⟨ar,its',_,bq,q⟩
def Inv.sx{its:List ak}{t':Nat}(I:Inv X ah σ H s)(bq:Vals ys its)(ar:ys.length<=b8):
  Inv X ah σ (upd H s.heap.objs.size (.lst ys)) {s with heap:=s.heap.push {cls:=.type "list",data:=.seq its.toArray},toks:=t'}:=
 I.laid (λ_ _ q=>c8 _ q) (dT _) ⟨ar,its,0,bq,gA _ rfl⟩
theorem Inv.fresh(I:Inv X ah σ H s):H s.heap.objs.size=none:=I.ck.fresh (dT _)
def Inv.AQ(I:Inv X ah σ H s)(gW:H l=some (.lst xs)):xs.length<=b8/\∃(its:List ak) (n:Nat),Vals xs its/\xs.length=its.length/\s.heap.get? l=some {cls:=.type "list",data:=.seq its.toArray n}:=by
 obtain⟨z,its,n,r,e⟩:=I.ck l _ gW;exact⟨z,its,n,r,r.length,e⟩
def apS{n:Nat}(h:n<=b8):Builtin.List.listTooLong n=false:=by
 unfold Builtin.List.listTooLong;exact decide_eq_false (by omega)
end
section
variable {X:bu}
def aqH:V->List V->aE->c2->Prop:=λx vs H Q=>∃l xs y,x=.ref l/\vs=[y]/\H l=some (.lst xs)/\xs.length<b8/\Q .fC (upd H l (.lst (xs++[y])))
def TK:qi X "list.append" aqH:=by
 intro ah s σ H x vs v us Q I aL b0 h;obtain⟨l,xs,y,rfl,rfl,gW,ar,q⟩:=h;cases aL;obtain⟨u,rfl,dH⟩:=b0.one;obtain⟨z,its,n,r,aB,e⟩:=I.AQ gW;refine l8 F.slot_list_append ⟨_,e,rfl⟩ F.entry_list_append (F.args_list_append_2 _ _) (PySem.list_append l its.toArray n u (by rw[d0];omega)) ⟨e,?_⟩;refine⟨.fC,_,I.AP (its':=its++[u]) gW e (by simp) (r.append (.cons dH .nil)) ?_,rfl,q⟩;rw[jo,List.length_singleton];omega
def K1:V->List V->aE->c2->Prop:=λx vs H Q=>∃l xs y,x=.ref l/\vs=[]/\H l=some (.lst xs)/\xs[xs.length - 1]?=some y/\Q y (upd H l (.lst xs.dropLast))
def VY:qi X "list.pop" K1:=by
 intro ah s σ H x vs v us Q I aL b0 h;obtain⟨l,xs,y,rfl,rfl,gW,bw,q⟩:=h;cases aL;have aeg:=b0.zero;subst aeg;obtain⟨z,its,n,r,aB,e⟩:=I.AQ gW;obtain⟨u,b4,dH⟩:=r.get bw;have HC:its.toArray[its.toArray.size - 1]?=some u:=by
  show its.toArray[its.length - 1]?=some u
  rw[<- Array.getElem?_toList,<- aB];exact b4
 refine l8 F.slot_list_pop ⟨_,e,rfl⟩ F.entry_list_pop (F.args_list_pop_1 _) (MeetsSeq.list_pop_last l its.toArray n u HC (by rw[d0];omega)) ⟨e,?_⟩
 refine⟨y,_,I.AP (its':=its.dropLast) gW e ?_ r.dropLast ?_,dH,q⟩
 ·show its.toArray.eraseIdxIfInBounds (its.toArray.size - 1)=its.dropLast.toArray
  rw[d0,List.eraseIdxIfInBounds_toArray,an9]
 ·rw[List.length_dropLast];omega
def len_rep{α:Type}(xs:List α)(k:Nat):(dS k xs).flatten.length=k*xs.length:=by
 induction k with
|zero=>simp
|succ k bY=>rw[qZ,sQ,jo,bY,Nat.succ_mul,Nat.add_comm]
end
end bG
namespace Ob
open PySem PySem.W PySem.Calls PyProof.Rows
def amx{P:Params}{h:bX}:∀(ns:List Int) (vs:List ak),WellAll P h vs (ns.map WData.int)->IntsAre vs ns:=by
 intro ns
 induction ns with
|nil=>
  intro vs w;rw[g6] at w;cases w;exact .nil
|cons n ns bY=>
  intro vs w;rw[c9] at w;cases w with
  |cons a b=>
   cases a
   exact .cons _ _ (bY _ b)
def aow{l:OpenLaw}{n:Nat}(a9:l.most=some n){P:Params}{h:bX}{args:List WData}{vals:List ak}
    (z':l.row.toRowW.claim.pre args=true) (HA:WellAll P h vals args):
    ∃a vs ns,vals=[Value.ref a]/\args=[WData.list (ns.map WData.int)]/\h.get? a=some {cls:=.type "list",data:=.seq vs.toArray}/\IntsAre vs ns/\ns.length<=n:=by
  have aeb:WShape.hasAll [] args [.list .int]=true:=(pre_splitW z').1;have ax:l.pre.holds [] {args:=args}=true:=(pre_splitW z').2;obtain⟨d,r,rfl,af,ai⟩:=hasAllW_cons aeb;obtain rfl:=hasAllW_nil ai;obtain⟨xs,rfl,bE⟩:=hasW_list af;obtain⟨ns,rfl⟩:=items_int bE;have hlen:ns.length<=n:=by
    unfold OpenLaw.pre at ax;have c':(WTm.not (.lt (.lit (.int (n:Int))) (.len (.arg 0)))).holds [] {args:=[.list (ns.map .int)]}=true:=by
      have c':=(holds_andW ax).1;rw[a9] at c';exact c'
    have hA:=condW_of c' (w_not (w_lt w_lit (w_len_list (w_arg rfl))));rw[eT] at hA;refine Nat.le_of_not_lt λq=>?_;have d6:(n:Int)<((ns.length:Nat):Int):=by omega
    first
      | (rw[decide_eq_true d6] at hA;exact absurd hA (by decide))
      | (simp at hA;omega)
  cases HA with
  |cons sN uN=>
    cases uN
    cases sN with
    |list aH n'=>exact⟨_,_,ns,rfl,rfl,aH,amx ns _ n',hlen⟩
def aoB(l:OpenLaw)(args:List WData):l.row.toRowW.claim.post args (.bool true) args=true:=
 postW_of (r:=l.row.toRowW) (X:=(true==true))
  (show WShape.has [] (.bool true) .bool=true by first|rfl|decide|simp[WShape.has,WShape.arms,WShape.armsAll])
  (show (WTm.eq .res (.lit (.bool true))).value [] {args:=args,res:=some (.bool true),after:=args}=some (.bool (true==true)) from w_eq_bool (w_res rfl) w_lit) rfl
def aaE{l:OpenLaw}{n:Nat}{q:cJ}{loose:List Str}{t4:(Str->Option ak)->bX->Prop}{qj:cB->bX->Prop}{d:DefRec}
  (a9:l.most=some n) (wD:d.params.defaults=[])
  (call:∀(w:cB) (dI dk:aP) (mg mE:Str->Option ak) (cp:asq) (o:Obj) (pm cd doc:ak) (a:asq) (vs:List ak) (ns:List Int),
   Ground q loose [] t4 w dI mg mE dk.heap->qj w dk.heap ->
   dk.heap.get? cp=some o->o.data=.func (docDef d.name d.params d.body d.scope pm cd doc)->dk.heap.CodeRec cd d.name->mg d.name=some (.ref cp) ->
   dk.heap.get? a=some {cls:=.type "list",data:=.seq vs.toArray}->IntsAre vs ns->ns.length<=n->dk.gens=#[] ->
   codeAny (bV l.prog w) callerA (.call (.ref cp) ⟨[.ref a],[]⟩) (λr s'=>r=.ok (.ret (.bool true))/\OldK dk.heap s'.heap/\s'.os=dk.os/\AllBare s'.gens) dk):
  WalkO q loose t4 qj l.row.toRowW d [] (λf vs=>PySem.call f vs):=by
 intro w dI dk mg mE G Y cp o pm cd doc zh eo aH hd jB kC wI bf args vals as z' ar_ ux HA ar';obtain rfl:zh=.none:=Dflts.none kC wD;obtain rfl:eo=.none:=Dflts.noKw kC;obtain⟨a,vs,ns,rfl,rfl,Ht,hints,hlen⟩:=aow a9 z' HA;refine enter_call (codeAny_mono (call w dI dk mg mE cp o pm cd doc a vs ns G Y aH (fd_plain hd) jB wI Ht hints hlen bf) λr s' bg=>?_);obtain⟨rfl,ai,bE,c'⟩:=bg;exact⟨.inl ⟨.bool true,.bool true,[],rfl,λ_=>rfl,.bool true,aoB l _,λ_=>⟨List.Pairwise.nil,λ_ hm=>(nomatch hm)⟩⟩,ai,bE,c'⟩
end Ob
namespace bG
open PySem PySem.Spec PyProof.Rows
theorem Tq:∀{vs:List ak} {ns:List Int},IntsAre vs ns->Vals (ns.map V.int) vs
|_,_,.nil=>.nil
|_,_,.cons n t h=>.cons ⟨t,rfl⟩ (Tq h)
def D3(H:aE):Prop:=∀b,H b=none\/∃o xs,H b=some (.nq o (.lst xs))
def ap2{P:cJ}{w:cB}{K:bb}{mg mE:Str->Option ak}{eb:mh}{k:Nat}{cp a:asq}{fd:fX}{x:Str}{sp:ks}{dk:aP}{vs:List ak}{ns:List Int}
  (nU:K.In dk.heap) (z_:dk.heap.Ns kP mg) (ab:dk.heap.Ns builtinsNs mE) (adx:∀x:Str,x≠"__name__"->mE x=bootBuiltins x) (adW:dk.heap.NoLimit) (bf:dk.gens=#[])
  (au:dk.heap.get? a=some {cls:=.type "list",data:=.seq vs.toArray}) (hi:IntsAre vs ns) (aB:ns.length<=b8) (aw:dD k callerA)
  (F:∀base:bX,K.In base->base.Ns kP mg->eY P w K mg base eb k cp fd [x] sp) (ady:∀(s:aP) (u:ak),BindsTo s fd ⟨[u],[]⟩ [(x,u)])
  (qD:∀H:aE,D3 H->fP K H a (ns.map V.int)->sp [.ref a] H (λv _=>v=.cC true) λ_ _ _=>False)
  (G':∀H e s',eb [] H dk (λ_ _ _=>False) e s'->False):
  codeAny (bV P w) callerA (.call (.ref cp) ⟨[.ref a],[]⟩) (λr s'=>r=.ok (.ret (.bool true))/\OldK dk.heap s'.heap/\s'.os=dk.os/\AllBare s'.gens) dk:=by
 have b0:=Tq hi;have afL:=hi.length;have core:∀H:aE,D3 H->fP K H a (ns.map V.int)->e8 P w H dk.heap->(∀b,H b≠none->b=a)->(H a≠none->K.lookup a=none) ->
   codeAny (bV P w) callerA (.call (.ref cp) ⟨[.ref a],[]⟩) (λr s'=>r=.ok (.ret (.bool true))/\OldK dk.heap s'.heap/\s'.os=dk.os/\AllBare s'.gens) dk:=by
  intro H my e3 ck r_ gX;have OU:∀{b:asq} {o:Obj},dk.heap.get? b=some o->H b=none->(pv dk.heap H).get? b=some o:=λe n=>ap7 e n;have w5:∀{b:asq} {o:Obj} {es:Array DictEntry} {ep:Nat},dk.heap.get? b=some o->o.data=.dict es ep->H b=none:=λ{b o es ep} e d=>by
   cases q:H b with
   |none=>rfl
   |some u=>
    have bN:b=a:=r_ b (by rw[q];simp);subst bN;rw[au] at e;cases e;have d':Data.seq vs.toArray _=Data.dict es ep:=d;cases d'
  have AV:∀{b:asq} {m:Str->Option ak},dk.heap.Ns b m->(pv dk.heap H).Ns b m:=λ{b m} ⟨o,es,ep,e,d,r⟩=>⟨o,es,ep,OU e (w5 e d),d,r⟩;have Ql:K.In (pv dk.heap H):=λb o e=>OU (nU b o e) (by
   cases q:H b with
   |none=>rfl
   |some u=>
    have bN:b=a:=r_ b (by rw[q];simp);subst bN;rw[gX (by rw[q];simp)] at e;cases e)
  have hM:Mod K mg (pv dk.heap H):=⟨Ql,AV z_,⟨mE,AV ab,adx⟩,let ⟨mc,af,ai⟩:=adW;⟨mc,AV af,ai⟩⟩;have de:rH P w K mg (pv dk.heap H) callerA [] dk H:=⟨rfl,hM,λb o e=>aq8 e,Nat.le_of_eq (aoO _ _),trivial,λb ab=>absurd (show b∈([]:List asq) from ab) (by simp),ck,.of_eq bf⟩;refine codeAny_mono ((F _ Ql (AV z_)).run callerA [] dk H ⟨[.ref a],[]⟩ [.ref a] [.ref a] _ _ aw de (ady dk (.ref a)) (.cons rfl .nil) (qD H my e3)) λr s' h=>?_;cases r with
  |error e=>exact (G' H e s' h).elim
  |ok lQ=>
   cases lQ with
   |next=>exact l2 h
   |brk=>exact l2 h
   |cont=>exact l2 h
   |ret u=>
    obtain⟨v,aj,os,bare,un,ad7,b_,q⟩:=h;have d6:v=.cC true:=q;subst d6;obtain rfl:u=Value.bool true:=b_;refine⟨rfl,OldK.of_keep λb o e=>?_,os,bare⟩;cases q:H b with
    |none=>exact un.keep b o e q (by intro z;exact absurd (show b∈([]:List asq) from z) (by simp)) (by simp)
    |some u=>
     rcases my b with z|⟨dQ,xs,z⟩
     ·rw[q] at z;cases z
     ·have gP:=un.n9 b dQ _ z;obtain⟨aG,_⟩:=ck b _ z;obtain⟨aS,_⟩:=ad7 b _ gP;rw[e] at aG;cases aG;exact aS
 cases aR:K.lookup a with
|some o=>
  have e:=nU a o aR;rw[au] at e;cases e;refine core (λ_=>none) (λ_=>.inl rfl) (.inr ⟨_,vs.toArray,_,aR,rfl,rfl,rfl,by rw[d0,afL];exact aB,by simpa using b0⟩) (λb u z=>by have jO:(none:Option eD)=some u:=z;cases jO) (λb z=>absurd rfl z) λz=>absurd rfl z
|none=>
  refine core (λb=>if b=a then some (.nq {cls:=.type "list",data:=.seq vs.toArray} (.lst (ns.map V.int))) else none) (λb=>?_) (.inl (.inr ⟨{cls:=.type "list",data:=.seq vs.toArray},if_pos rfl⟩)) (λb u z=>?_) (λb z=>?_) λ_=>aR
  ·by_cases ab:b=a
   ·exact .inr ⟨_,_,if_pos ab⟩
   ·exact .inl (if_neg ab)
  ·by_cases ab:b=a
   ·have jO:=(if_pos ab).symm.trans z;cases jO;subst ab;exact⟨au,by rw[eT];exact aB,vs,_,b0,au⟩
   ·have jO:=(if_neg ab).symm.trans z;cases jO
  ·by_cases ab:b=a
   ·exact ab
   ·exact absurd (if_neg ab) z
end bG
namespace bG
open PySem PySem.Spec PyProof.Rows
def al4{l:PySem.W.OpenLaw}{n k:Nat}{q:cJ}{loose:List Str}{t4:(Str->Option ak)->bX->Prop}{qj:cB->bX->Prop}{d:DefRec}{K:Params->bb}{eb:cB->mh}{sp:cB->ks}{x:Str}
  (a9:l.most=some n) (z9:n<=b8) (wD:d.params.defaults=[]) (aw:dD k callerA)
  (Hf:∀(w:cB) (h:bX),qj w h->(K w.params).In h)
  (F:∀(w:cB) (mg:Str->Option ak) (cp:asq) (h:bX),(K w.params).In h->h.Ns kP mg->mg d.name=some (.ref cp) ->
   ∃fd:fX,(∀(s:aP) (u:ak),BindsTo s fd ⟨[u],[]⟩ [(x,u)]) /\
    ∀base:bX,(K w.params).In base->base.Ns kP mg->eY l.prog w (K w.params) mg base (eb w) k cp fd [x] (sp w))
  (qD:∀(w:cB) (H:aE) (a:asq) (ns:List Int),ns.length<=n->D3 H->fP (K w.params) H a (ns.map V.int)->sp w [.ref a] H (λv _=>v=.cC true) λ_ _ _=>False)
  (G':∀(w:cB) (H:aE) (s:aP) (e:ak) (s':aP),eb w [] H s (λ_ _ _=>False) e s'->False):
  PySem.W.WalkO q loose t4 qj l.row.toRowW d [] (λf vs=>PySem.call f vs):=by
 refine Ob.aaE a9 wD λw dI dk mg mE cp o pm cd doc a vs ns G Y aH hd jB wI Ht hints hlen bf=>?_
 have nU:=Hf w _ Y;obtain⟨fd,ab,hF⟩:=F w mg cp _ nU G.T.g wI;exact ap2 nU G.T.g G.T.b G.T.builtins G.T.nolimit bf Ht hints (mS hlen z9) aw hF ab (λH my e3=>qD w H a ns hlen my e3) λH e s'=>G' w H dk e s'
end bG
namespace bG
open PySem PySem.Spec PyProof.Rows
def inClass(s:Stmt)(j:Nat):Stmt:=match s with
|.ClassDef _ _ _ body _ _ _ _ _ _ _=>body.getD j (.Pass ⟨0,0,0,0⟩)
|_=>.Pass ⟨0,0,0,0⟩
noncomputable def as3(s:Stmt):Arguments:=match s with
|.FunctionDef _ a _ _ _ _ _ _ _ _=>a
|_=>{posonlyargs:=[],args:=[],vararg:=none,kwonlyargs:=[],kw_defaults:=[],kwarg:=none,defaults:=[]}
def i'(s:Stmt):List Stmt:=match s with
|.FunctionDef _ _ b _ _ _ _ _ _ _=>b
|_=>[]
def bQ(s:Stmt):Scope:=match s with
|.FunctionDef _ _ _ _ _ _ sc _ _ _=>sc
|_=>{kind:=.function,names:=[],isGenerator:=false,isCoroutine:=false}
abbrev eX:mh:=λ_ _ _ _ _ _=>False
abbrev y3:gH:=λ_ _ _=>False
def nS{X:bu}:Passes eX X y3:=λ_ _ _ _ _ _ _ h=>h.elim
structure cb(K:bb)(x qual:Str)(st:Stmt)(f:asq)(fd:fX):Prop where
 ex:∃(jF:ak) (fe:Option asq) (eo doc pm:ak) (an:Option asq) (cR cH:ak) (qM:Array (Option ak)),
  fd=qX x qual (as3 st) (i' st) (bQ st) .none eo doc pm an cR cH/\K.lookup f=some ⟨jF,fe,.func fd,qM⟩/\PySem.W.codeIn K cR qual=true
 aC:mQ K (.ref f)=true
section
variable {P:cJ}{w:cB}{K:bb}{mg:Str->Option ak}{base:bX}
def cb.ok{x qual:Str}{st:Stmt}{f:asq}{fd:fX}{N av:List Str}{k:Nat}{sp:ks}(F:cb K x qual st f fd)(S:cw N av (bQ st))(len:∀vs H Q E,sp vs H Q E->vs.length=av.length)
  (Hi:∀(cR:ak) (A:c3) (outer:List Env) (s:aP) (H:aE) (vs:List V) (Q:c2) (E:gH),dD k (A.deeper (envOfC qual (bQ st) s.heap.objs.size f cR))->sp vs H Q E ->
   ∃t,jZ (je eX P w K mg base N qual (bQ st) f cR A outer s H E).j9 (i' st) t/\t {bP:=λ_ aj=>Q .fC aj,d9:=Q} (start N vs) H):eY P w K mg base eX (k+1) f fd av sp:=by
 obtain⟨jF,fe,eo,doc,pm,an,cR,cH,qM,rfl,lk,jB⟩:=F.ex;refine Z9 lk jB S len λA outer s H vs Q E aw qD=>?_;obtain⟨t,h,q⟩:=Hi cR A outer s H vs Q E aw qD;exact⟨t,h.j9,q⟩
def cb.binds{x qual:Str}{st:Stmt}{f:asq}{fd:fX}{av:List Str}(F:cb K x qual st f fd)
  (h:∀(eo doc pm:ak) (an:Option asq) (cR cH:ak) (us:List ak),us.length=av.length->bindArgs (qX x qual (as3 st) (i' st) (bQ st) .none eo doc pm an cR cH) ⟨us,[]⟩=pure (av.zip us)):Binds K fd av []:=by
 obtain⟨jF,fe,eo,doc,pm,an,cR,cH,qM,rfl,lk,jB⟩:=F.ex;exact .all (h eo doc pm an cR cH)
def cO{x qual:Str}{st:Stmt}{f:asq}{jF:ak}{fe an:Option asq}{qM:Array (Option ak)}{eo doc pm cR cH:ak}(l:K.lookup f=some ⟨jF,fe,.func (qX x qual (as3 st) (i' st) (bQ st) .none eo doc pm an cR cH),qM⟩)
  (c:PySem.W.codeIn K cR qual=true) (k:mQ K (.ref f)=true):cb K x qual st f (qX x qual (as3 st) (i' st) (bQ st) .none eo doc pm an cR cH):=⟨⟨jF,fe,eo,doc,pm,an,cR,cH,qM,rfl,l,c⟩,k⟩
end
def yW{A:c3}{k:Nat}(aw:dD k A):A.units+1<cLine:=Nat.lt_of_le_of_lt (Nat.add_le_add_left (by decide:1<=64) _) aw.units
section
variable {X:bu}
def a4(i:Nat){x:Str}{pos:Pos}(eL:X.N[i]?=some x:=by rfl)(bq:rR X.env.scope x:=by first|exact Or.inl rfl|exact Or.inr (Or.inl rfl)|exact Or.inr (Or.inr rfl))(hd:(x==("__debug__":Str))=false:=by decide)
  (jB:(x==("__classdict__":Str))=false:=by decide):bR X (.Name x pos) (hR i):=YJ eL bq hd jB
end
def sq{A B:Prop}(h:B):if false=true then A else B:=by
 rw[if_neg ou];exact h
def sr{A B:Prop}(h:A):if true=true then A else B:=by
 rw[if_pos rfl];exact h
def Yq(H aj:aE):Prop:=∀b o,H b=some o->aj b=some o
end bG
end
section
namespace D
open PySem
abbrev T:=PyData
def ff(a:T):Bool:=a.canLay0 && decide (a.depth<=60)
def pK(as:List T):Bool:=ke as && decide (jm as<=60)
abbrev Key:=Sum Int Str
inductive gn where
|c4|own|cg
 deriving DecidableEq
inductive aI where
|ae (t:T)|own (ts:List T)|hu (kvs:List (Key×T))|obj (m:gn) (c:Nat) (aA:List aI)
abbrev Ev:=List (Option aI)
inductive Out where
|bP (ε:Ev)|d9 (t:T)|ht (ε:Ev)|cH (ε:Ev)|ig (t:T) (ε:Ev)|ka (s:aI)
abbrev bl:=Ev->Option T
abbrev e7:=Ev->Option Bool
abbrev bc:=Ev->Option Out
abbrev jX:=Ev->Option (List T)
abbrev iM:=T->Ev->Option Ev
def big:Nat:=16777216
noncomputable def cD:T->T->Option T
|.int i,.int j=>some (.int (i+j))
|.str x,.str y=>if x.length+y.length<=big then some (.str (x++y)) else none
|.tuple xs,.tuple ys=>if xs.length+ys.length<=big then some (.tuple (xs++ys)) else none
|.list xs,.list ys=>if xs.length+ys.length<=big then some (.list (xs++ys)) else none
|_,_=>none
def oi:T->T->Option T
|.int i,.int j=>some (.int (i - j))
|_,_=>none
def vR(i j:Int):Bool:=(decide (-(2 ^ 64)<i) && decide (i<2 ^ 64)) || (decide (-(2 ^ 64)<j) && decide (j<2 ^ 64))
def du:T->T->Option T
|.int i,.int j=>if vR i j then some (.int (i*j)) else none
|_,_=>none
def oDiv:T->T->Option T
|.int i,.int j=>if 0<j/\j<1073741824 then some (.int (i / j)) else none
|_,_=>none
def oMod:T->T->Option T
|.int i,.int j=>if 0<j then some (.int (i % j)) else none
|_,_=>none
def mH:T->Option T
|.int i=>some (.int (-i))
|_=>none
def fS(n:Nat)(i:Int):Option Nat:=if 0<=i then (if i<n then some i.toNat else none) else if -(n:Int)<=i then some (i+n).toNat else none
def e9{α:Type}(xs:List α)(i:Int):Option α:=(fS xs.length i).bind λj=>xs[j]?
noncomputable def aW:T->T->Option T
|.tuple xs,.int i=>e9 xs i
|.list xs,.int i=>e9 xs i
|.str x,.int i=>if x.length<=big then (e9 x.cps.toList i).map λc=>.str ⟨#[c]⟩ else none
|_,_=>none
def oEq(a b:T):Option T:=if ff a && ff b then some (.bool (jn a b)) else none
def fV(a b:T):Option T:=if ff a && ff b then some (.bool (!PyData.eqv a b)) else none
def hg(a:T):Option T:=some (.bool (match a with|.none=>true|_=>false))
def iI(a:T):Option T:=some (.bool (match a with|.none=>false|_=>true))
def strLt(x y:Str):Bool:=decide (x.cps.toList<y.cps.toList)
def oLt:T->T->Option T
|.int i,.int j=>some (.bool (decide (i<j)))
|.str x,.str y=>some (.bool (strLt x y))
|_,_=>none
def oLe:T->T->Option T
|.int i,.int j=>some (.bool (decide (i<=j)))
|.str x,.str y=>some (.bool (!strLt y x))
|_,_=>none
def ia:T->T->Option T
|.int i,.int j=>some (.bool (decide (j<i)))
|.str x,.str y=>some (.bool (strLt y x))
|_,_=>none
def lb:T->T->Option T
|.int i,.int j=>some (.bool (decide (j<=i)))
|.str x,.str y=>some (.bool (!strLt x y))
|_,_=>none
def nr(x:T)(ts:List T):Bool:=ts.any λy=>jn y x
noncomputable def eP(neg:Bool):T->T->Option T
|x,.tuple ys=>if ff x && pK ys then some (.bool (if neg then !nr x ys else nr x ys)) else none
|x,.list ys=>if ff x && pK ys then some (.bool (if neg then !nr x ys else nr x ys)) else none
|_,_=>none
def fo:List T->Option T
| [.tuple xs]=>some (.int xs.length)
| [.list xs]=>some (.int xs.length)
| [.str x]=>if x.length<=big then some (.int x.length) else none
|_=>none
def AX:List T->Option T
| [.int i,.int j]=>some (.int (if j<i then j else i))
|_=>none
def sz:List T->Option T
| [.int i,.int j]=>some (.int (if j > i then j else i))
|_=>none
def e6:List T->Option T
| [.tuple xs]=>some (.tuple xs)
| [.list xs]=>some (.tuple xs)
|_=>none
def DI:List T->Option T
| [.tuple xs]=>some (.list xs)
| [.list xs]=>some (.list xs)
|_=>none
def AW:List T->Option T
| [.int i]=>some (.int i)
| [.bool b]=>some (.int (if b then 1 else 0))
|_=>none
def cu(n d:Nat):Option Int->Nat
|none=>d
|some v=>(if v<0 then max (v+n) 0 else min v n).toNat
def gS{α:Type}(xs:List α)(lo hi:Option Int):List α:=(xs.drop (cu xs.length 0 lo)).take (cu xs.length xs.length hi - cu xs.length 0 lo)
def qL(t:T)(lo hi:Option Int):Option T:=match t with
|.tuple xs=>some (.tuple (gS xs lo hi))
|.list xs=>some (.list (gS xs lo hi))
|_=>none
def strsOf:List T->Option (List Str)
| []=>some []
|.str x::ts=>(strsOf ts).map λr=>x::r
|_::_=>none
def insI(x:Int):List Int->List Int
| []=>[x]
|y::ys=>if x<=y then x::y::ys else y::insI x ys
def sortI:List Int->List Int
| []=>[]
|x::xs=>insI x (sortI xs)
def so(x:Str):List Str->List Str
| []=>[x]
|y::ys=>if !strLt y x then x::y::ys else y::so x ys
def kn:List Str->List Str
| []=>[]
|x::xs=>so x (kn xs)
def keyOf:T->Option Key
|.int i=>some (.inl i)
|.str x=>some (.inr x)
|_=>none
def putD(kvs:List (Key×T))(k:Key)(v:T):List (Key×T):=if kvs.any (λp=>decide (p.1=k)) then kvs.map λp=>if p.1=k then (k,v) else p else kvs++[(k,v)]
def getD(kvs:List (Key×T))(k:Key):Option T:=(kvs.find? λp=>decide (p.1=k)).map (·.2)
def aa(t:T):bl:=λ_=>some t
def nm(i:Nat):bl:=λε=>match ε[i]? with
|some (some (.ae t))=>some t
|some (some (.own ts))=>some (.list ts)
|_=>none
def aJ(i:Nat):bl:=λε=>match ε[i]? with
|some (some (.ae t))=>some t
|_=>none
def dm(o:T->Option T)(f:bl):bl:=λε=>(f ε).bind o
def ag(o:T->T->Option T)(f g:bl):bl:=λε=>(f ε).bind λx=>(g ε).bind λy=>o x y
def args:List bl->Ev->Option (List T)
| [],_=>some []
|f::aA,ε=>(f ε).bind λt=>(args aA ε).map λts=>t::ts
def aX(o:List T->Option T)(aA:List bl):bl:=λε=>(args aA ε).bind o
def b6(aA:List bl):bl:=λε=>(args aA ε).bind λts=>if ts.length<=big then some (.tuple ts) else none
def gD(aA:List bl):bl:=λε=>(args aA ε).bind λts=>if ts.length<=big then some (.list ts) else none
def opt(f:bl):Ev->Option (Option Int):=λε=>(f ε).bind λt=>match t with|.int i=>some (some i)|_=>none
def optN:Ev->Option (Option Int):=λ_=>some none
def slice(f:bl)(lo hi:Ev->Option (Option Int)):bl:=λε=>(f ε).bind λt=>(lo ε).bind λl=>(hi ε).bind λh=>qL t l h
def h2(f g:bl):bl:=λε=>(f ε).bind λt=>match t with|.bool true=>g ε|.bool false=>some (.bool false)|_=>none
def oj(f g:bl):bl:=λε=>(f ε).bind λt=>match t with|.bool false=>g ε|.bool true=>some (.bool true)|_=>none
def as5(f:bl):bl:=λε=>(f ε).bind λt=>match t with|.bool b=>some (.bool (!b))|_=>none
noncomputable def chain(o p:T->T->Option T)(f g h:bl):bl:=λε=>(f ε).bind λx=>(g ε).bind λy=>(o x y).bind λr=>match r with
|.bool true=>(h ε).bind λz=>p y z
|.bool false=>some (.bool false)
|_=>none
def bB(f:bl):e7:=λε=>(f ε).bind λt=>match t with|.bool b=>some b|_=>none
def ih(f:bl):e7:=λε=>(f ε).bind λt=>match t with|.list ts=>some (!ts.isEmpty)|.tuple ts=>some (!ts.isEmpty)|_=>none
def f_(f g:e7):e7:=λε=>(f ε).bind λb=>if b then g ε else some false
def eM(f g:e7):e7:=λε=>(f ε).bind λb=>if b then some true else g ε
def fU(f:e7):e7:=λε=>(f ε).map λb=>!b
def pE(c:e7)(f g:bl):bl:=λε=>(c ε).bind λb=>if b then f ε else g ε
def dy(b:Bool):e7:=λ_=>some b
def ofT(c:e7):bl:=λε=>(c ε).map .bool
def eO(f:bl):jX:=λε=>(f ε).bind λt=>match t with|.tuple ts=>some ts|.list ts=>some ts|_=>none
def ik(f:bl):jX:=λε=>(f ε).bind λt=>match t with|.tuple ts=>some ts|_=>none
def lW(lo hi:Int):List T:=(List.range (hi - lo).toNat).map λ(k:Nat)=>.int (lo+(k:Int))
def vl(i:Int):Bool:=decide (-(2 ^ 62)<=i) && decide (i<2 ^ 62)
def mY(f:bl):jX:=λε=>(f ε).bind λt=>match t with|.int j=>if vl j then some (lW 0 j) else none|_=>none
def enum(ts:List T):List T:=ts.zipIdx.map λp=>.tuple [.int p.2,p.1]
def lD(f:jX):jX:=λε=>(f ε).map enum
def bH(i:Nat):iM:=λt ε=>some (ε.set i (some (.ae t)))
def gr:List iM->List T->Ev->Option Ev
| [],[],ε=>some ε
|g::fB,t::ts,ε=>(g t ε).bind λε'=>gr fB ts ε'
|_,_,_=>none
def eA(fB:List iM):iM:=λt ε=>match t with|.tuple ts=>gr fB ts ε|_=>none
noncomputable def gk(g:iM)(c:e7)(e:bl):List T->Ev->Option (List T)
| [],_=>some []
|t::ts,ε=>(g t ε).bind λmf=>(c mf).bind λb=>if b then (e mf).bind λy=>(gk g c e ts mf).map λys=>y::ys else gk g c e ts mf
def iF(own:Nat)(caps:List Nat)(ε:Ev):Ev:=dS own none++caps.map λi=>(ε[i]?).join
def comp(own:Nat)(caps:List Nat)(it:jX)(g:iM)(c:e7)(e:bl):bl:=λε=>(it ε).bind λts=>if ts.length<=big then (gk g c e ts (iF own caps ε)).map .list else none
def skip:bc:=λε=>some (.bP ε)
def seq(a b:bc):bc:=λε=>(a ε).bind λo=>match o with|.bP ε'=>b ε'|o=>some o
def asg(i:Nat)(f:bl):bc:=λε=>(f ε).map λt=>.bP (ε.set i (some (.ae t)))
def ku(i:Nat)(f:bl):bc:=λε=>(f ε).bind λt=>match t with|.list ts=>some (.bP (ε.set i (some (.own ts))))|_=>none
def kv(g:iM)(f:bl):bc:=λε=>(f ε).bind λt=>(g t ε).map .bP
def bO(f:bl):bc:=λε=>(f ε).map .d9
def iff(c:e7)(a b:bc):bc:=λε=>(c ε).bind λx=>if x then a ε else b ε
def brk:bc:=λε=>some (.ht ε)
noncomputable def forL(g:iM)(b:bc):List T->Ev->Option Out
| [],ε=>some (.bP ε)
|t::ts,ε=>(g t ε).bind λmf=>(b mf).bind λo=>match o with
  |.bP fk=>forL g b ts fk
  |.cH fk=>forL g b ts fk
  |.ht fk=>some (.bP fk)
  |.d9 t=>some (.d9 t)
  |.ig t fk=>some (.ig t fk)
  |.ka s=>some (.ka s)
def fb(it:jX)(g:iM)(b:bc):bc:=λε=>(it ε).bind λts=>forL g b ts ε
noncomputable def kO(c:e7)(b:bc):Nat->bc
|0,_=>none
|n+1,ε=>(c ε).bind λx=>if x then (b ε).bind λo=>(match o with
   |.bP fk=>kO c b n fk
   |.cH fk=>kO c b n fk
   |.ht fk=>some (.bP fk)
   |.d9 t=>some (.d9 t)
   |.ig t fk=>some (.ig t fk)
   |.ka s=>some (.ka s)) else some (.bP ε)
noncomputable def ext(i:Nat)(f:bl):bc:=λε=>match ε[i]? with
|some (some (.own ts))=>(f ε).bind λt=>match t with
  |.list us=>if ts.length+us.length<=big then some (.bP (ε.set i (some (.own (ts++us))))) else none
  |_=>none
|_=>none
noncomputable def pop(i j:Nat):bc:=λε=>match ε[j]? with
|some (some (.own ts))=>(ts.getLast?).bind λt=>if i=j then none else some (.bP ((ε.set j (some (.own ts.dropLast))).set i (some (.ae t))))
|_=>none
noncomputable def par(i j:Nat)(own:Bool)(f g:bl):bc:=λε=>(f ε).bind λt=>(g ε).bind λu=>if own then (match u with|.list us=>some (.bP ((ε.set i (some (.ae t))).set j (some (.own us))))|_=>none) else some (.bP ((ε.set i (some (.ae t))).set j (some (.ae u))))
noncomputable def cT(b:bc)(n:Nat)(as:List T):Option T:=(b ((as.map λt=>some (.ae t))++dS (n - as.length) none)).bind λo=>match o with
|.d9 t=>some t
|.bP _=>some .none
|_=>none
end D
end
section
namespace D
open PySem PySem.Spec PyProof.Rows bG
section
mutual
noncomputable def Rep(K:bb)(F:asq->Prop)(H:aE):T->V->Prop
|.none,v=>v=.fC
|.bool b,v=>v=.cC b
|.int i,v=>v=.int i
|.str x,v=>v=.str x
|.dict _,_=>False
|.tuple ts,v=>∃a vs,v=.ref a/\cX K H a vs/\bz K F H ts vs
|.list ts,v=>∃a vs,v=.ref a/\F a/\fN H a (.lst vs)/\bz K F H ts vs
noncomputable def bz(K:bb)(F:asq->Prop)(H:aE):List T->List V->Prop
| [],vs=>vs=[]
|t::ts,vs=>∃v r,vs=v::r/\Rep K F H t v/\bz K F H ts r
end
section
variable {K:bb}{F aK:asq->Prop}{H aj:aE}
mutual
theorem Rep.keep(af:∀b xs,cX K H b xs->cX K aj b xs)(ai:∀b xs,F b->fN H b (.lst xs)->aK b/\fN aj b (.lst xs)):∀{t:T} {v:V},Rep K F H t v->Rep K aK aj t v
|.none,v,h=>by simpa [Rep] using h
|.bool _,v,h=>by simpa [Rep] using h
|.dict _,v,h=>by simp[Rep] at h
|.int _,v,h=>by simpa [Rep] using h
|.str _,v,h=>by simpa [Rep] using h
|.tuple ts,v,h=>by
  simp only[Rep] at h ⊢;obtain⟨a,vs,e,q,r⟩:=h;exact⟨a,vs,e,af _ _ q,bz.keep af ai r⟩
|.list ts,v,h=>by
  simp only[Rep] at h ⊢;obtain⟨a,vs,e,f,q,r⟩:=h;exact⟨a,vs,e,(ai _ _ f q).1,(ai _ _ f q).2,bz.keep af ai r⟩
theorem bz.keep(af:∀b xs,cX K H b xs->cX K aj b xs)(ai:∀b xs,F b->fN H b (.lst xs)->aK b/\fN aj b (.lst xs)):∀{ts:List T} {vs:List V},bz K F H ts vs->bz K aK aj ts vs
| [],vs,h=>by simpa [bz] using h
|t::ts,vs,h=>by
  simp only[bz] at h ⊢;obtain⟨v,r,e,q,z⟩:=h;exact⟨v,r,e,Rep.keep af ai q,bz.keep af ai z⟩
end
def bz.nil:bz K F H [] []:=by simp[bz]
def bz.cons{t:T}{v:V}{ts:List T}{vs:List V}(h:Rep K F H t v)(r:bz K F H ts vs):bz K F H (t::ts) (v::vs):=by
 simp only[bz];exact⟨v,vs,rfl,h,r⟩
theorem bz.length:∀{ts:List T} {vs:List V},bz K F H ts vs->ts.length=vs.length
| [],vs,h=>by
  simp only[bz] at h;subst h;rfl
|t::ts,vs,h=>by
  simp only[bz] at h;obtain⟨v,r,e,q,z⟩:=h;subst e;simp[bz.length z]
theorem bz.get:∀{ts:List T} {vs:List V} {i:Nat} {t:T},bz K F H ts vs->ts[i]?=some t->∃v,vs[i]?=some v/\Rep K F H t v
| [],vs,i,t,h,e=>by simp at e
|x::ts,vs,0,t,h,e=>by
  simp only[bz] at h;obtain⟨v,r,rfl,q,z⟩:=h;simp at e;subst e;exact⟨v,rfl,q⟩
|x::ts,vs,i+1,t,h,e=>by
  simp only[bz] at h;obtain⟨v,r,rfl,q,z⟩:=h;obtain⟨u,af,ai⟩:=bz.get (i:=i) (t:=t) z (by simpa using e);exact⟨u,by simpa using af,ai⟩
theorem bz.append:∀{ts us:List T} {vs ws:List V},bz K F H ts vs->bz K F H us ws->bz K F H (ts++us) (vs++ws)
| [],us,vs,ws,h,r=>by
  simp only[bz] at h;subst h;exact r
|t::ts,us,vs,ws,h,r=>by
  simp only[bz] at h;obtain⟨v,z,rfl,q,y⟩:=h;exact bz.cons q (bz.append y r)
theorem bz.take:∀{ts:List T} {vs:List V} (n:Nat),bz K F H ts vs->bz K F H (ts.take n) (vs.take n)
| [],vs,n,h=>by
  simp only[bz] at h;subst h;simpa using bz.nil
|t::ts,vs,0,h=>by simpa using bz.nil
|t::ts,vs,n+1,h=>by
  simp only[bz] at h;obtain⟨v,z,rfl,q,y⟩:=h;simpa using bz.cons q (bz.take n y)
theorem bz.drop:∀{ts:List T} {vs:List V} (n:Nat),bz K F H ts vs->bz K F H (ts.drop n) (vs.drop n)
| [],vs,n,h=>by
  simp only[bz] at h;subst h;simpa using bz.nil
|t::ts,vs,0,h=>by simpa using h
|t::ts,vs,n+1,h=>by
  simp only[bz] at h;obtain⟨v,z,rfl,q,y⟩:=h;simpa using bz.drop n y
end
class cV where
 dZ:List (asq×Str)
 asw:Nat->List Str
 mn:Nat->Option asq
noncomputable def zb(H:aE)(b:asq)(q:Str):Prop:=∃av:Array ak,H b=some (.kM av)/\TriplesOk av.toList/\∀pos zg,codeAmong pos av.toList=some zg->∃c,zg=.ref c/\H c=some (.ext λh=>h.CodeRec (.ref c) q)
def nY [t:cV](H:aE):Prop:=∀p∈t.dZ,zb H p.1 p.2
def zb.keep{H aj:aE}{b:asq}{q:Str}(h:zb H b q)(ei:∀a av,H a=some (.kM av)->aj a=some (.kM av))(dB:∀a oQ,H a=some (.ext oQ)->aj a=some (.ext oQ)):zb aj b q:=by
 obtain⟨av,af,ai,bE⟩:=h;refine⟨av,ei _ _ af,ai,λpos zg e=>?_⟩;obtain⟨c,aG,aS⟩:=bE pos zg e;exact⟨c,aG,dB _ _ aS⟩
variable [cV]
def m6(u:eD):Prop:=(∃xs,u=.lst xs)\/(∃xs,u=.fx xs)\/∃C bj aA,u=.ins C bj aA
def m6.cases{P:Prop}{u:eD}(h:m6 u)(af:∀xs,u=.lst xs->P)(ai:∀xs,u=.fx xs->P)(bE:∀C bj aA,u=.ins C bj aA->P):P:=by
 rcases h with ⟨xs,e⟩|⟨xs,e⟩|⟨C,bj,aA,e⟩
 ·exact af xs e
 ·exact ai xs e
 ·exact bE C bj aA e
def nY.RM{H:aE}(h:nY H){p:asq}{o:eD}(aF:∀u,H p=some u->m6 u):nY (upd H p o):=λb ab=>
 (h b ab).keep (λa av e=>by
  have nb:a≠p:=by
   rintro rfl;exact (aF _ e).cases (λ_ z=>by cases z) (λ_ z=>by cases z) (λ_ _ _ z=>by cases z)
  rw[cZ nb];exact e) λa oQ e=>by
  have nb:a≠p:=by
   rintro rfl;exact (aF _ e).cases (λ_ z=>by cases z) (λ_ z=>by cases z) (λ_ _ _ z=>by cases z)
  rw[cZ nb];exact e
theorem nY.upd{H:aE}(h:nY H){p:asq}{o:eD}(aF:∀u,H p=some u->(∃xs,u=.lst xs)\/∃xs,u=.fx xs):nY (upd H p o):=h.RM λu e=>by
 rcases aF u e with z|z
 ·exact .inl z
 ·exact .inr (.inl z)
def nY.new{H:aE}(h:nY H){p:asq}{o:eD}(aF:H p=none):nY (bG.upd H p o):=h.upd λu e=>by rw[aF] at e;cases e
structure gE(F:asq->Prop)(H:aE):Prop where
 Gr:∀a,F a->∃o,H a=some o
 qT:nY H
instance {F:asq->Prop}{H:aE}:CoeFun (gE F H) λ_=>∀a,F a->∃o,H a=some o:=⟨gE.Gr⟩
def kq(H aj:aE):Prop:=∀b o,H b=some o->aj b=some o\/∃av xb,o=.kM av/\aj b=some (.kM xb)
def kq.refl(H:aE):kq H H:=λ_ _ h=>.inl h
def kq.ne{H aj:aE}(s:kq H aj){b:asq}{o:eD}(e:H b=some o):∃u,aj b=some u:=by
 rcases s b o e with h|⟨_,_,_,h⟩
 ·exact⟨_,h⟩
 ·exact⟨_,h⟩
theorem kq.none{H aj:aE}(s:kq H aj){b:asq}(e:aj b=none):H b=none:=by
 cases z:H b with
|none=>rfl
|some o=>
  obtain⟨u,q⟩:=s.ne z;rw[e] at q;cases q
def kq.get{H aj:aE}(s:kq H aj){b:asq}{o:eD}(e:H b=some o)(n:∀av,o≠.kM av:=by intro _ z;cases z):aj b=some o:=by
 rcases s b o e with h|⟨_,_,z,_⟩
 ·exact h
 ·exact absurd z (n _)
def kq.trans{H H1 bk:aE}(a:kq H H1)(b:kq H1 bk):kq H bk:=λc o h=>by
 rcases a c o h with q|⟨av,ajG,z,q⟩
 ·exact b c o q
 ·rcases b c _ q with a7|⟨_,xc,gP,a7⟩
  ·exact .inr ⟨av,ajG,z,a7⟩
  ·exact .inr ⟨av,xc,z,a7⟩
structure Ext(F:asq->Prop)(H:aE)(aK:asq->Prop)(aj:aE):Prop where
 same:kq H aj
 sub:∀a,F a->aK a
 new:∀a,aK a->F a\/H a=none
 cy:gE aK aj
section
variable {K:bb}{F aY dq:asq->Prop}{H H1 bk:aE}
theorem Ext.refl(d:gE F H):Ext F H F H:=⟨kq.refl H,λ_ h=>h,λ_ h=>.inl h,d⟩
theorem Ext.trans(a:Ext F H aY H1)(b:Ext aY H1 dq bk):Ext F H dq bk:=
 ⟨a.same.trans b.same,λx h=>b.sub x (a.sub x h),λx h=>(b.new x h).elim (λz=>a.new x z) λz=>.inr (a.same.none z),b.cy⟩
def fN.same{a:asq}{u:eD}(s:kq H H1)(r:fN H a u)(n:∀av,u≠.kM av:=by intro _ z;cases z):fN H1 a u:=by
 rcases r with r|⟨o,r⟩
 ·exact .inl (s.get r n)
 ·exact .inr ⟨o,s.get r⟩
theorem cX.same{a:asq}{xs:List V}(s:kq H H1)(r:cX K H a xs):cX K H1 a xs:=by
 rcases r with r|r
 ·exact .inl (fN.same s r)
 ·exact .inr r
def Rep.ext{t:T}{v:V}(r:Rep K F H t v)(x:Ext F H aY H1):Rep K aY H1 t v:=r.keep (λ_ _ q=>cX.same x.same q) λb _ f q=>⟨x.sub b f,fN.same x.same q⟩
def bz.ext{t:List T}{v:List V}(r:bz K F H t v)(x:Ext F H aY H1):bz K aY H1 t v:=r.keep (λ_ _ q=>cX.same x.same q) λb _ f q=>⟨x.sub b f,fN.same x.same q⟩
def Ext.laid{p:asq}{o:eD}(d:gE F H)(aF:H p=none):Ext F H F (upd H p o):=
 ⟨λb u q=>.inl (Bb aF o b u q),λ_ h=>h,λ_ h=>.inl h,⟨λa h=>by
  obtain⟨u,e⟩:=d a h;exact⟨u,Bb aF o a u e⟩,d.qT.new aF⟩⟩
where Bb {H:aE} {p:asq} (h:H p=none) (o:eD):Yq H (upd H p o):=λb u q=>by rw[cZ (kj q h)];exact q
def Ext.wZ{p:asq}{o:eD}(d:gE F H)(aF:H p=none):Ext F H (λa=>F a\/a=p) (upd H p o):=
 ⟨λb u q=>.inl (Ext.laid.Bb aF o b u q),λ_ h=>.inl h,λa h=>by
  rcases h with h|rfl
  ·exact .inl h
  ·exact .inr aF,⟨λa h=>by
  rcases h with h|rfl
  ·obtain⟨u,e⟩:=d a h;exact⟨u,Ext.laid.Bb aF o a u e⟩
  ·exact⟨o,ew⟩,d.qT.new aF⟩⟩
end
structure ec(K:bb)(F:asq->Prop)(H:aE)(aK:asq->Prop)(aj:aE):Prop where
 tup:∀b xs,cX K H b xs->cX K aj b xs
 lst:∀b xs,F b->fN H b (.lst xs)->aK b/\fN aj b (.lst xs)
section
variable {K:bb}{F aY dq:asq->Prop}{H H1 bk:aE}
def ec.refl:ec K F H F H:=⟨λ_ _ h=>h,λ_ _ f h=>⟨f,h⟩⟩
def ec.trans(a:ec K F H aY H1)(b:ec K aY H1 dq bk):ec K F H dq bk:=⟨λx xs h=>b.tup x xs (a.tup x xs h),λx xs f h=>b.lst x xs (a.lst x xs f h).1 (a.lst x xs f h).2⟩
def Ext.aC(x:Ext F H aY H1):ec K F H aY H1:=⟨λ_ _ q=>cX.same x.same q,λb _ f q=>⟨x.sub b f,fN.same x.same q⟩⟩
def Rep.aC{t:T}{v:V}(r:Rep K F H t v)(x:ec K F H aY H1):Rep K aY H1 t v:=r.keep x.tup x.lst
def bz.aC{t:List T}{v:List V}(r:bz K F H t v)(x:ec K F H aY H1):bz K aY H1 t v:=r.keep x.tup x.lst
end
def f6(K:bb)(O F:asq->Prop)(H:aE)(t:T)(v:V):Prop:=
 Rep K F H t v\/∃ts a vs,t=.list ts/\v=.ref a/\H a=some (.lst vs)/\bz K F H ts vs
section
variable {K:bb}{O F aY:asq->Prop}{H H1:aE}{v:V}
theorem f6.ext{t:T}(r:f6 K O F H t v)(x:Ext F H aY H1):f6 K O aY H1 t v:=by
 rcases r with r|⟨ts,a,vs,aG,aS,gU,r⟩
 ·exact .inl (r.ext x)
 ·exact .inr ⟨ts,a,vs,aG,aS,x.same.get gU,r.ext x⟩
theorem f6.fC(r:f6 K O F H .none v):v=.fC:=by
 rcases r with r|⟨ts,a,vs,aG,_⟩
 ·simpa [Rep] using r
 ·cases aG
theorem f6.cC{b:Bool}(r:f6 K O F H (.bool b) v):v=.cC b:=by
 rcases r with r|⟨ts,a,vs,aG,_⟩
 ·simpa [Rep] using r
 ·cases aG
theorem f6.int{i:Int}(r:f6 K O F H (.int i) v):v=.int i:=by
 rcases r with r|⟨ts,a,vs,aG,_⟩
 ·simpa [Rep] using r
 ·cases aG
theorem f6.str{x:Str}(r:f6 K O F H (.str x) v):v=.str x:=by
 rcases r with r|⟨ts,a,vs,aG,_⟩
 ·simpa [Rep] using r
 ·cases aG
def f6.tup{ts:List T}(r:f6 K O F H (.tuple ts) v):∃a vs,v=.ref a/\cX K H a vs/\bz K F H ts vs:=by
 rcases r with r|⟨ts,a,vs,aG,_⟩
 ·simpa [Rep] using r
 ·cases aG
theorem f6.lst{ts:List T}(r:f6 K O F H (.list ts) v):∃a vs,v=.ref a/\fN H a (.lst vs)/\bz K F H ts vs:=by
 rcases r with r|⟨us,a,vs,aG,aS,gU,r⟩
 ·simp only[Rep] at r;obtain⟨a,vs,e,_,q,z⟩:=r;exact⟨a,vs,e,q,z⟩
 ·cases aG
  exact⟨a,vs,aS,.inl gU,r⟩
end
def ed(K:bb)(F:asq->Prop)(H:aE):List (D.Key×T)->List (D.Key×V)->Prop
| [],vs=>vs=[]
|p::ts,vs=>∃v r,vs=(p.1,v)::r/\Rep K F H p.2 v/\ed K F H ts r
theorem ed.aC{K:bb}{F aK:asq->Prop}{H aj:aE}(x:ec K F H aK aj):∀{ts:List (D.Key×T)} {vs:List (D.Key×V)},ed K F H ts vs->ed K aK aj ts vs
| [],vs,h=>h
|p::ts,vs,h=>by
  obtain⟨v,r,e,q,z⟩:=h;exact⟨v,r,e,q.aC x,ed.aC x z⟩
structure hq where
 h:aE
 iU:asq
def ie:V->List asq
|.ref a=>[a]
|_=>[]
def dP:aI->V->List asq
|.ae _,_=>[]
|_,v=>ie v
def df:List aI->List V->List asq
|s::ss,v::vs=>dP s v++df ss vs
|_,_=>[]
def Dn(H:aE):V->List V
|.ref a=>(match H a with
  |some (.ins _ _ kvs)=>kvs.map (·.2)
  |some (.fx kvs)=>kvs.map (·.2)
  |_=>[])
|_=>[]
def dA(H:aE):aI->V->List asq
|.ae _,_=>[]
|.own _,v=>ie v
|.hu _,v=>ie v
|.obj _ _ aA,v=>ie v++df aA (Dn H v)
noncomputable def hY(H:aE)(a:asq)(c:Nat)(vs:List V):Prop:=vs.length<=(cV.asw c).length/\match cV.mn c with
|some C=>∃bj,H a=some (.ins C bj ((cV.asw c).zip vs))
|none=>H a=some (.fx (((cV.asw c).zip vs).map λp=>(.inr p.1,p.2)))
noncomputable def lJ(K:bb)(F:asq->Prop)(H:aE):aI->V->Prop
|.ae t,v=>Rep K F H t v
|.own ts,v=>∃b us,v=.ref b/\H b=some (.lst us)/\bz K F H ts us
|.hu kvs,v=>∃b us,v=.ref b/\H b=some (.fx us)/\ed K F H kvs us
|.obj _ _ _,_=>False
def f5(K:bb)(F:asq->Prop)(H:aE):List aI->List V->Prop
| [],vs=>vs=[]
|s::ss,vs=>∃v r,vs=v::r/\lJ K F H s v/\f5 K F H ss r
def v_(E:hq)(O F:asq->Prop)(m:gn)(b:asq):Prop:=¬F b/\match m with
|.c4=>E.h b≠none
|_=>O b
noncomputable def ea(K:bb)(E:hq)(O F:asq->Prop)(H:aE):aI->V->Prop
|.ae t,v=>Rep K F H t v
|.own ts,v=>∃a vs,v=.ref a/\¬F a/\O a/\H a=some (.lst vs)/\bz K F H ts vs
|.hu kvs,v=>∃a vs,v=.ref a/\¬F a/\O a/\H a=some (.fx vs)/\ed K F H kvs vs
|.obj m c aA,v=>∃a vs,v=.ref a/\hY H a c vs/\f5 K F H aA vs/\(a::df aA vs).Nodup/\(∀b∈a::df aA vs,v_ E O F m b)/\(m=.cg->a=E.iU)
def aI.iQ:aI->Bool
|.ae _=>false
|.obj .c4 _ _=>false
|_=>true
section
variable {K:bb}{F aK O m7:asq->Prop}{H aj:aE}{E:hq}
theorem Na{α β:Type}:∀{xs:List α} {ys:List β},ys.length<=xs.length->(xs.zip ys).map (·.2)=ys
|xs,[],_=>by simp
| [],y::ys,h=>by simp at h
|x::xs,y::ys,h=>by simp[Na (xs:=xs) (ys:=ys) (by simpa using h)]
def hY.vals{a:asq}{c:Nat}{vs:List V}(h:hY H a c vs):Dn H (.ref a)=vs:=by
 obtain⟨aB,h⟩:=h;unfold Dn;split at h
 ·obtain⟨bj,e⟩:=h;simp only[e];exact Na aB
 ·simp only[h,gB];exact Na aB
def hY.mem{a:asq}{c:Nat}{vs:List V}(h:hY H a c vs):∃o,H a=some o/\m6 o:=by
 obtain⟨aB,h⟩:=h;split at h
 ·obtain⟨bj,e⟩:=h;exact⟨_,e,.inr (.inr ⟨_,_,_,rfl⟩)⟩
 ·exact⟨_,h,.inr (.inl ⟨_,rfl⟩)⟩
def hY.keep{a:asq}{c:Nat}{vs:List V}(h:hY H a c vs)(e:aj a=H a):hY aj a c vs:=by
 obtain⟨aB,h⟩:=h;refine⟨aB,?_⟩;rw[e];exact h
def vA{v:V}{b:asq}(h:b∈ie v):v=.ref b:=by
 unfold ie at h;split at h
 ·simp at h;rw[h]
 ·simp at h
theorem lJ.at{s:aI}{v:V}{b:asq}(r:lJ K F H s v)(h:b∈dP s v):∃o,H b=some o/\m6 o:=by
 cases s with
|ae t=>simp[dP] at h
|own ts=>
  obtain⟨gR,us,e,h6,_⟩:=r;have:=vA h;rw[e] at this;cases this;exact⟨_,h6,.inl ⟨_,rfl⟩⟩
|hu ts=>
  obtain⟨gR,us,e,h6,_⟩:=r;have:=vA h;rw[e] at this;cases this;exact⟨_,h6,.inr (.inl ⟨_,rfl⟩)⟩
|obj m c aA=>exact r.elim
theorem f5.at:∀{aA:List aI} {vs:List V} {b:asq},f5 K F H aA vs->b∈df aA vs->∃o,H b=some o/\m6 o
| [],vs,b,r,h=>by simp[df] at h
|s::ss,vs,b,r,h=>by
  obtain⟨v,z,rfl,a6,b'⟩:=r;rw[show df (s::ss) (v::z)=dP s v++df ss z from rfl] at h;rcases hD.mp h with h|h
  ·exact a6.at h
  ·exact f5.at b' h
def kl{m:gn}{c:Nat}{aA:List aI}{a:asq}{vs:List V}(h:hY H a c vs):dA H (.obj m c aA) (.ref a)=a::df aA vs:=by
 show ie (.ref a)++df aA (Dn H (.ref a))=_
 rw[h.vals];rfl
theorem ea.at{s:aI}{v:V}{b:asq}(r:ea K E O F H s v)(h:b∈dA H s v):∃o,H b=some o/\m6 o:=by
 cases s with
|ae t=>simp[dA] at h
|own ts=>
  obtain⟨gR,us,e,_,_,h6,_⟩:=r;have:=vA h;rw[e] at this;cases this;exact⟨_,h6,.inl ⟨_,rfl⟩⟩
|hu ts=>
  obtain⟨gR,us,e,_,_,h6,_⟩:=r;have:=vA h;rw[e] at this;cases this;exact⟨_,h6,.inr (.inl ⟨_,rfl⟩)⟩
|obj m c aA=>
  obtain⟨a,vs,rfl,au,hf,_⟩:=r;rw[kl au] at h;rcases asu.mp h with rfl|h
  ·exact au.mem
  ·exact hf.at h
def ea.held{s:aI}{v:V}{b:asq}(r:ea K E O F H s v)(h:b∈dA H s v):¬F b/\(s.iQ=true->O b)/\(s.iQ=false->E.h b≠none):=by
 cases s with
|ae t=>simp[dA] at h
|own ts=>
  obtain⟨gR,us,e,n,o,h6,_⟩:=r;have:=vA h;rw[e] at this;cases this;exact⟨n,λ_=>o,λz=>by cases z⟩
|hu ts=>
  obtain⟨gR,us,e,n,o,h6,_⟩:=r;have:=vA h;rw[e] at this;cases this;exact⟨n,λ_=>o,λz=>by cases z⟩
|obj m c aA=>
  obtain⟨a,vs,rfl,au,hf,a_,fI,_⟩:=r;rw[kl au] at h;obtain⟨n,q⟩:=fI b h;refine⟨n,λz=>?_,λz=>?_⟩
  ·cases m with
   |c4=>cases z
   |own=>exact q
   |cg=>exact q
  ·cases m with
   |c4=>exact q
   |own=>cases z
   |cg=>cases z
def lJ.keep{s:aI}{v:V}(r:lJ K F H s v)(aC:ec K F H aK aj)(cK:∀b∈dP s v,aj b=H b):lJ K aK aj s v:=by
 cases s with
|ae t=>exact Rep.aC r aC
|own ts=>
  obtain⟨b,us,rfl,h6,z⟩:=r;exact⟨b,us,rfl,by rw[cK b (by simp[dP,ie])];exact h6,z.aC aC⟩
|hu ts=>
  obtain⟨b,us,rfl,h6,z⟩:=r;exact⟨b,us,rfl,by rw[cK b (by simp[dP,ie])];exact h6,ed.aC aC z⟩
|obj m c aA=>exact r.elim
theorem f5.keep:∀{aA:List aI} {vs:List V},f5 K F H aA vs->ec K F H aK aj->(∀b∈df aA vs,aj b=H b)->f5 K aK aj aA vs
| [],vs,r,_,_=>r
|s::ss,vs,r,aC,cK=>by
  obtain⟨v,z,rfl,a6,b'⟩:=r;rw[show df (s::ss) (v::z)=dP s v++df ss z from rfl] at cK;exact⟨v,z,rfl,a6.keep aC λb h=>cK b (hD.mpr (.inl h)),f5.keep b' aC λb h=>cK b (hD.mpr (.inr h))⟩
theorem ea.keep{s:aI}{v:V}(r:ea K E O F H s v)(aC:ec K F H aK aj)(cK:∀b∈dA H s v,aj b=H b)(hf:∀b∈dA H s v,aK b->F b)(aH:∀b∈dA H s v,O b->m7 b):
  ea K E m7 aK aj s v/\dA aj s v=dA H s v:=by
 cases s with
|ae t=>exact⟨Rep.aC r aC,rfl⟩
|own ts=>
  obtain⟨a,vs,rfl,n,o,h6,z⟩:=r;have m:a∈dA H (.own ts) (.ref a):=by simp[dA,ie]
  exact⟨⟨a,vs,rfl,λf=>n (hf a m f),aH a m o,by rw[cK a m];exact h6,z.aC aC⟩,rfl⟩
|hu ts=>
  obtain⟨a,vs,rfl,n,o,h6,z⟩:=r;have m:a∈dA H (.hu ts) (.ref a):=by simp[dA,ie]
  exact⟨⟨a,vs,rfl,λf=>n (hf a m f),aH a m o,by rw[cK a m];exact h6,ed.aC aC z⟩,rfl⟩
|obj m c aA=>
  obtain⟨a,vs,rfl,au,aw,a_,fI,iU⟩:=r;rw[kl au] at cK hf aH;have mz:hY aj a c vs:=au.keep (cK a (by simp));refine⟨⟨a,vs,rfl,mz,aw.keep aC λb h=>cK b (di _ h),a_,λb h=>?_,iU⟩,by rw[kl au,kl mz]⟩;obtain⟨n,q⟩:=fI b h;refine⟨λf=>n (hf b h f),?_⟩;cases m with
  |c4=>exact q
  |own=>exact aH b h q
  |cg=>exact aH b h q
def ea.wj{s:aI}{v:V}(r:ea K E O F H s v)(x:Ext F H aK aj):ea K E O aK aj s v/\dA aj s v=dA H s v:=
 r.keep x.aC (λb h=>by
  obtain⟨o,e,m⟩:=r.at h;rw[e];exact x.same.get e λav z=>by subst z;exact m.cases (λ_ z=>by cases z) (λ_ z=>by cases z) (λ_ _ _ z=>by cases z)) (λb h f=>by
  rcases x.new b f with z|z
  ·exact z
  ·obtain⟨o,e,_⟩:=r.at h;rw[z] at e;cases e) λ_ _ o=>o
def ea.ext{s:aI}{v:V}(r:ea K E O F H s v)(x:Ext F H aK aj):ea K E O aK aj s v:=(r.wj x).1
end
structure cP(K:bb)(aD:asq->Prop)(E:hq)(O F:asq->Prop)(H:aE)(ε:Ev)(σ:bG.St):Prop where
 len:ε.length=σ.length
 val:∀(i:Nat) (s:aI),ε[i]?=some (some s)->∃v,σ[i]?=some (some v)/\ea K E O F H s v
 ne:∀(i j:Nat) (s u:aI) (v w:V),i≠j->ε[i]?=some (some s)->ε[j]?=some (some u)->s.iQ=true->u.iQ=true->σ[i]?=some (some v)->σ[j]?=some (some w)->∀a∈dA H s v,a∉dA H u w
 ent:Ext aD E.h F H
 o0:∀a,O a->E.h a=none
 fr:∀a,H a=none->O a
section
variable {K:bb}{aD O F aY:asq->Prop}{E:hq}{H H1:aE}{ε:Ev}{σ:bG.St}
theorem cP.cy(r:cP K aD E O F H ε σ):gE F H:=r.ent.cy
theorem cP.ext(r:cP K aD E O F H ε σ)(x:Ext F H aY H1):cP K aD E O aY H1 ε σ:=
 ⟨r.len,λi s e=>by
  obtain⟨v,af,ai⟩:=r.val i s e;exact⟨v,af,ai.ext x⟩,λi j s u v w j5 aG aS dK fH af ai=>by
  obtain⟨kc,en,a6⟩:=r.val i s aG;obtain⟨fg,hb,b'⟩:=r.val j u aS;rw[af] at en;rw[ai] at hb;cases en;cases hb;rw[(a6.wj x).2,(b'.wj x).2];exact r.ne i j s u v w j5 aG aS dK fH af ai,r.ent.trans x,r.o0,λa e=>r.fr a (x.same.none e)⟩
def get_set{α:Type}{l:List (Option α)}{i j:Nat}{x:Option α}{y:α}(h:(l.set i x)[j]?=some (some y)):(i=j/\x=some y/\j<l.length)\/(i≠j/\l[j]?=some (some y)):=by
 rw[uX] at h;by_cases e:i=j
 ·subst e;rw[if_pos rfl] at h;split at h
  next aB=>exact .inl ⟨rfl,fq h,aB⟩
  next=>cases h
 ·rw[if_neg e] at h;exact .inr ⟨e,h⟩
def Nc{α:Type}{l:List (Option α)}{i:Nat}{x:Option α}(h:i<l.length):(l.set i x)[i]?=some x:=by
 rw[uX,if_pos rfl,if_pos h]
def Cu{α:Type}{l:List (Option α)}{i j:Nat}{x:Option α}(h:i≠j):(l.set i x)[j]?=l[j]?:=by
 rw[uX,if_neg h]
def cP.setG{s:aI}{v:V}(r:cP K aD E O F H ε σ)(i:Nat)(h:ea K E O F H s v)(fr:s.iQ=true->∀(j:Nat) (u:aI) (w:V),i≠j->ε[j]?=some (some u)->u.iQ=true->σ[j]?=some (some w)->∀a∈dA H s v,a∉dA H u w):
  cP K aD E O F H (ε.set i (some s)) (σ.set i (some v)):=by
 refine⟨by simp[r.len],λj u e=>?_,λj k u w eS jJ ob aG aS dK fH af ai=>?_,r.ent,r.o0,r.fr⟩
 ·rcases get_set e with ⟨rfl,bN,aB⟩|⟨ne,bN⟩
  ·cases bN
   exact⟨_,Nc (by rw[<- r.len];exact aB),h⟩
  ·obtain⟨w,af,ai⟩:=r.val j u bN;exact⟨w,by rw[Cu ne];exact af,ai⟩
 ·rcases get_set aG with ⟨rfl,bN,aB⟩|⟨ne1,asE⟩
  ·rcases get_set aS with ⟨rfl,_,_⟩|⟨ne2,gT⟩
   ·exact absurd rfl ob
   ·rw[Nc (by rw[<- r.len];exact aB)] at af;rw[Cu ne2] at ai;cases af;cases bN;exact fr dK k w jJ ne2 gT fH ai
  ·rw[Cu ne1] at af;rcases get_set aS with ⟨rfl,bN,aB⟩|⟨ne2,gT⟩
   ·rw[Nc (by rw[<- r.len];exact aB)] at ai;cases ai;cases bN;intro a au ab;exact fr fH j u eS ne1 asE dK af a ab au
   ·rw[Cu ne2] at ai;exact r.ne j k u w eS jJ ob asE gT dK fH af ai
theorem cP.set{t:T}{v:V}(r:cP K aD E O F H ε σ)(i:Nat)(h:Rep K F H t v):cP K aD E O F H (ε.set i (some (.ae t))) (σ.set i (some v)):=r.setG (s:=.ae t) i h λz=>by cases z
def cP.ajY{s:aI}{v:V}(r:cP K aD E O F H ε σ)(i:Nat)(x:Ext F H aY H1)(h:ea K E O aY H1 s v)(a9:∀a∈dA H1 s v,H a=none):cP K aD E O aY H1 (ε.set i (some s)) (σ.set i (some v)):=
 (r.ext x).setG i h λ_ j u w _ r5 _ bJ a au ab=>by
  obtain⟨fg,af,ai⟩:=r.val j u r5;rw[bJ] at af;cases af;rw[(ai.wj x).2] at ab;obtain⟨o,e,_⟩:=ai.at ab;rw[a9 a au] at e;cases e
def Va{x:asq}{o o':eD}(a9:¬F x)(hx:H x=some o)(hm:m6 o):ec K F H F (upd H x o'):=by
 refine⟨λb xs q=>?_,λb xs f q=>⟨f,?_⟩⟩
 ·rcases q with q|q
  ·refine .inl ?_
   have nb:b≠x:=by
    rintro rfl;rcases q with q|⟨_,q⟩ <;> (rw[hx] at q;cases q;exact hm.cases (λ_ z=>by cases z) (λ_ z=>by cases z) (λ_ _ _ z=>by cases z))
   rcases q with q|⟨u,q⟩
   ·exact .inl (by rw[cZ nb];exact q)
   ·exact .inr ⟨u,by rw[cZ nb];exact q⟩
  ·exact .inr q
 ·have nb:b≠x:=by
   rintro rfl;exact a9 f
  rcases q with q|⟨u,q⟩
  ·exact .inl (by rw[cZ nb];exact q)
  ·exact .inr ⟨u,by rw[cZ nb];exact q⟩
def UL{x:asq}{o o':eD}{h0:aE}(e:Ext aD h0 F H)(adh:h0 x=none)(a9:¬F x)(hx:H x=some o)(hm:m6 o):Ext aD h0 F (upd H x o'):=by
 refine⟨λb u q=>?_,e.sub,e.new,⟨λb f=>?_,e.cy.qT.RM λu z=>by rw[hx] at z;cases z;exact hm⟩⟩
 ·have nb:b≠x:=by
   rintro rfl;rw[adh] at q;cases q
  rw[cZ nb];exact e.same b u q
 ·have nb:b≠x:=by
   rintro rfl;exact a9 f
  rw[cZ nb];exact e.cy b f
def cP.Ka{s s':aI}{v:V}{x:asq}{o':eD}(r:cP K aD E O F H ε σ){i:Nat}(e:ε[i]?=some (some s))(aH:s.iQ=true)(bq:σ[i]?=some (some v))(hx:x∈dA H s v)
  (h:ec K F H F (upd H x o')->ea K E O F (upd H x o') s' v)
  (aF:∀b∈dA (upd H x o') s' v,b∈dA H s v\/∀(j:Nat) (u:aI) (w:V),i≠j->ε[j]?=some (some u)->u.iQ=true->σ[j]?=some (some w)->b∉dA H u w):
  ec K F H F (upd H x o')/\cP K aD E O F (upd H x o') (ε.set i (some s')) σ:=by
 obtain⟨kc,pA,rs⟩:=r.val i s e;rw[bq] at pA;cases pA;obtain⟨o,eU,hm⟩:=rs.at hx;obtain⟨AR,my,_⟩:=rs.held hx;have adl:=my aH;have aC:ec K F H F (upd H x o'):=Va AR eU hm;have h0:=r.o0 x adl;have keep:∀(j:Nat) (u:aI) (w:V),i≠j->ε[j]?=some (some u)->σ[j]?=some (some w)->ea K E O F H u w->ea K E O F (upd H x o') u w/\dA (upd H x o') u w=dA H u w:=by
  intro j u w j5 r5 bJ dH;refine dH.keep aC (λb ab=>cZ ?_) (λ_ _ f=>f) λ_ _ o=>o;rintro rfl;cases qN:u.iQ with
  |true=>exact r.ne i j s u v w j5 e r5 aH qN bq bJ b hx ab
  |false=>exact (dH.held ab).2.2 qN h0
 refine⟨aC,⟨by simp[r.len],λj u bN=>?_,λj k u w eS jJ ob aG aS dK fH af ai=>?_,UL r.ent h0 AR eU hm,r.o0,λb bN=>r.fr b ?_⟩⟩
 ·rcases get_set bN with ⟨rfl,asN,aB⟩|⟨ne,asN⟩
  ·cases asN
   exact⟨_,bq,h aC⟩
  ·obtain⟨w,af,ai⟩:=r.val j u asN;exact⟨w,af,(keep j u w ne asN af ai).1⟩
 ·rcases get_set aG with ⟨rfl,bN,aB⟩|⟨ne1,asE⟩
  ·rcases get_set aS with ⟨rfl,_,_⟩|⟨ne2,gT⟩
   ·exact absurd rfl ob
   ·cases bN
    rw[bq] at af;cases af;obtain⟨fg,hb,b'⟩:=r.val k w gT;rw[ai] at hb;cases hb;rw[(keep k w jJ ne2 gT ai b').2];intro a au ab;rcases aF a au with z|z
    ·exact r.ne i k s w v jJ ne2 e gT aH fH bq ai a z ab
    ·exact z k w jJ ne2 gT fH ai ab
  ·obtain⟨v1,en,a6⟩:=r.val j u asE;rw[af] at en;cases en;rw[(keep j u eS ne1 asE af a6).2];rcases get_set aS with ⟨rfl,bN,aB⟩|⟨ne2,gT⟩
   ·cases bN
    rw[bq] at ai;cases ai;intro a au ab;rcases aF a ab with z|z
    ·exact r.ne i j s u v eS ne1 e asE aH dK bq af a z au
    ·exact z j u eS ne1 asE dK af au
   ·obtain⟨fg,hb,b'⟩:=r.val k w gT;rw[ai] at hb;cases hb;rw[(keep k w jJ ne2 gT ai b').2];exact r.ne j k u w eS jJ ob asE gT dK fH af ai
 ·by_cases nb:b=x
  ·subst nb;rw[ew] at bN;cases bN
  ·rwa [cZ nb] at bN
end
def qS(K:bb)(f:bl):TE:=λσ H Q=>∃aD aO O F ε t,cP K aD aO O F H ε σ/\f ε=some t/\∀v aK aj,Ext F H aK aj->f6 K O aK aj t v->Q v aj
def xo(K:bb)(f:bl):TE:=λσ H Q=>∃aD aO O F ε t,cP K aD aO O F H ε σ/\f ε=some t/\∀v aK aj,Ext F H aK aj->Rep K aK aj t v->Q v aj
noncomputable def tN(K:bb)(f:bl):TE:=λσ H Q=>∃aD aO O F ε ts,cP K aD aO O F H ε σ/\f ε=some (.list ts)/\∀a vs aK aj,Ext F H aK aj->H a=none->¬aK a->aj a=some (.lst vs)->bz K aK aj ts vs->Q (.ref a) aj
def Bi(K:bb)(f:e7):TT:=λσ H Q=>∃aD aO O F ε b,cP K aD aO O F H ε σ/\f ε=some b/\∀aK aj,Ext F H aK aj->Q b aj
def RH(K:bb)(aA:List bl):f7:=λσ H Q=>∃aD aO O F ε ts,cP K aD aO O F H ε σ/\args aA ε=some ts/\∀vs aK aj,Ext F H aK aj->Paired (f6 K O aK aj) ts vs->Q vs aj
def ale(K:bb)(aA:List bl):f7:=λσ H Q=>∃aD aO O F ε ts,cP K aD aO O F H ε σ/\args aA ε=some ts/\∀vs aK aj,Ext F H aK aj->bz K aK aj ts vs->Q vs aj
abbrev dd(X:bu)(e:bx)(f:bl):Prop:=bR X e (qS X.K f)
abbrev cA(X:bu)(e:bx)(f:bl):Prop:=bR X e (xo X.K f)
abbrev tZ(X:bu)(e:bx)(f:bl):Prop:=bR X e (tN X.K f)
abbrev ju(X:bu)(e:bx)(f:e7):Prop:=jc X e (Bi X.K f)
abbrev rP(X:bu)(e:bx)(f:e7):Prop:=m8 X e (Bi X.K f)
abbrev o4(X:bu)(es:List bx)(aA:List bl):Prop:=hJ X es (RH X.K aA)
abbrev lL(X:bu)(es:List bx)(aA:List bl):Prop:=hJ X es (ale X.K aA)
def dn{X:bu}{e:bx}{t t':TE}(h:bR X e t)(k:∀σ H Q,t' σ H Q->t σ H Q):bR X e t':=λah s σ H Q I q=>h ah s σ H Q I (k σ H Q q)
def tK{X:bu}{e:bx}{t t':TT}(h:jc X e t)(k:∀σ H Q,t' σ H Q->t σ H Q):jc X e t':=λah s σ H Q I q=>h ah s σ H Q I (k σ H Q q)
def Wc{X:bu}{e:bx}{t t':TT}(h:m8 X e t)(k:∀σ H Q,t' σ H Q->t σ H Q):m8 X e t':=λw ah s σ H Q I q=>h w ah s σ H Q I (k σ H Q q)
def yN{X:bu}{e:List bx}{t t':f7}(h:hJ X e t)(k:∀σ H Q,t' σ H Q->t σ H Q):hJ X e t':=λpos ah s σ H Q I q=>h pos ah s σ H Q I (k σ H Q q)
def hV{X:bu}{e:Stmt}{t t':gG}(h:jY X e t)(k:∀D σ H,t' D σ H->t D σ H):jY X e t':=λah s σ H D I q=>h ah s σ H D I (k D σ H q)
def Vt{X:bu}{e:List Stmt}{t t':gG}(h:jZ X e t)(k:∀D σ H,t' D σ H->t D σ H):jZ X e t':=λah s σ H D I q=>h ah s σ H D I (k D σ H q)
section
variable {X:bu}{e:bx}{f:bl}
def aq(h:cA X e f):dd X e f:=dn h λσ H Q ⟨aD,aO,O,F,ε,t,r,e,k⟩=>⟨aD,aO,O,F,ε,t,r,e,λv aK aj x q=>k v aK aj x (.inl q)⟩
def Q6(h:tZ X e f)(hf:∀ε t,f ε=some t->∃ts,t=.list ts):cA X e f:=dn h λσ H Q ⟨aD,aO,O,F,ε,t,r,e,k⟩=>by
 obtain⟨ts,rfl⟩:=hf _ _ e;refine⟨aD,aO,O,F,ε,ts,r,e,λa vs aK aj x a9 j8 au q=>?_⟩;have y:Ext F H (λb=>aK b\/b=a) aj:=⟨x.same,λb z=>.inl (x.sub b z),λb z=>by
  rcases z with z|rfl
  ·exact x.new b z
  ·exact .inr a9,⟨λb z=>by
  rcases z with z|rfl
  ·exact x.cy b z
  ·exact⟨_,au⟩,x.cy.qT⟩⟩
 refine k (.ref a) _ aj y ?_
 simp only[Rep];exact⟨a,vs,rfl,.inr rfl,.inl au,q.keep (λ_ _ z=>z) λb _ z w=>⟨.inl z,w⟩⟩
end
end
section
variable [cV]
section
variable {X:bu}{a b c e:bx}{f g h:bl}{pos:Pos}
def vN{t:T}{v:V}(he:bR X e (uI v))(aw:∀F H,Rep X.K F H t v):cA X e (aa t):=dn he λσ H Q ⟨aD,aO,O,F,ε,t',r,e,k⟩=>by
 cases e
 exact k v F H (Ext.refl r.cy) (aw _ _)
def aN{i j}:cA X (.Constant (.int i) j pos) (aa (.int i)):=vN YQ λ_ _=>by simp[Rep]
def sF{i j}:cA X (.Constant (.bool i) j pos) (aa (.bool i)):=vN ZZ λ_ _=>by simp[Rep]
def bM{i j}:cA X (.Constant (.str i) j pos) (aa (.str i)):=vN YL λ_ _=>by simp[Rep]
def me{j}:cA X (.Constant .none j pos) (aa .none):=vN YN λ_ _=>by simp[Rep]
def aT(i:Nat){x:Str}(eL:X.N[i]?=some x:=by rfl)(bq:rR X.env.scope x:=by first|exact Or.inl rfl|exact Or.inr (Or.inl rfl)|exact Or.inr (Or.inr rfl))(hd:(x==("__debug__":Str))=false:=by decide)
  (jB:(x==("__classdict__":Str))=false:=by decide):dd X (.Name x pos) (nm i):=dn (a4 i eL bq hd jB) λσ H Q ⟨aD,aO,O,F,ε,t,r,e,k⟩=>by
 unfold nm at e;split at e
 next t' he=>
  cases e
  obtain⟨v,af,ai⟩:=r.val _ _ he;exact⟨v,af,k v F H (Ext.refl r.cy) (.inl ai)⟩
 next ts he=>
  cases e
  obtain⟨v,af,a,vs,rfl,n,h0,cK,aw⟩:=r.val _ _ he;exact⟨_,af,k _ F H (Ext.refl r.cy) (.inr ⟨ts,a,vs,rfl,rfl,cK,aw⟩)⟩
 next=>cases e
def bh(i:Nat){x:Str}(eL:X.N[i]?=some x:=by rfl)(bq:rR X.env.scope x:=by first|exact Or.inl rfl|exact Or.inr (Or.inl rfl)|exact Or.inr (Or.inr rfl))(hd:(x==("__debug__":Str))=false:=by decide)
  (jB:(x==("__classdict__":Str))=false:=by decide):cA X (.Name x pos) (aJ i):=dn (a4 i eL bq hd jB) λσ H Q ⟨aD,aO,O,F,ε,t,r,e,k⟩=>by
 unfold aJ at e;split at e
 next t' he=>
  cases e
  obtain⟨v,af,ai⟩:=r.val _ _ he;exact⟨v,af,k v F H (Ext.refl r.cy) ai⟩
 next=>cases e
noncomputable def nV(K:bb)(o:T->T->Option T)(R:gp):Prop:=
 ∀(O F:asq->Prop) (H:aE) (x y t:T) (gy fW:V) (Q:c2),gE F H->f6 K O F H x gy->f6 K O F H y fW->o x y=some t ->
  (∀v aK aj,Ext F H aK aj->Rep K aK aj t v->Q v aj)->R gy fW H Q
def nK{o:T->T->Option T}{R:gp}(h:nV X.K o R):∀σ H Q,xo X.K (ag o f g) σ H Q->xn R (qS X.K f) (qS X.K g) σ H Q:=by
 rintro σ H Q ⟨aD,aO,O,F,ε,t,r,e,k⟩;simp only[ag,b7] at e;obtain⟨x,ex,y,eV,eU⟩:=e;refine⟨aD,aO,O,F,ε,x,r,ex,λgy aY H1 aM aL=>⟨aD,aO,O,aY,ε,y,r.ext aM,eV,λfW dq bk bK bt=>?_⟩⟩;exact h O dq bk x y t gy fW Q bK.cy (aL.ext bK) bt eU λv aK aj gz cL=>k v aK aj ((aM.trans bK).trans gz) cL
def Inv.uy{ah:List (asq×Obj)}{σ:bG.St}{H:aE}{s:aP}{l:asq}{xs:List V}(I:Inv X ah σ H s)(gW:fN H l (.lst xs)):
  xs.length<=b8/\∃(its:List ak) (n:Nat),Vals xs its/\xs.length=its.length/\s.heap.get? l=some {cls:=.type "list",data:=.seq its.toArray n}:=by
 obtain⟨z,its,n,r,e⟩:=gW.ok I.ck;exact⟨z,its,n,r,r.length,e⟩
noncomputable def ZM:gp:=λx y H Q=>∃l b xs zs,x=.ref l/\y=.ref b/\fN H l (.lst xs)/\fN H b (.lst zs)/\xs.length+zs.length<=b8/\∀p,H p=none->Q (.ref p) (upd H p (.lst (xs++zs)))
def aq5:eg X (kT .Add) ZM:=by
 intro ah s σ H x y v u Q I aL bt h;obtain⟨l,b,xs,zs,rfl,rfl,gW,qw,ar,q⟩:=h;cases aL;cases bt;obtain⟨z,its,n,r,aB,e⟩:=Inv.uy I gW;obtain⟨gP,hc,gf,b',uu,aS⟩:=Inv.uy I qw;refine PySem.P.add_list e aS ?_ (by rw[d0,d0];omega);have dG:its.toArray++hc.toArray=(its++hc).toArray:=by simp
 rw[dG];exact⟨.ref _,_,I.sx (t':=s.toks) (r.append b') (by rw[jo];omega),rfl,q _ I.fresh⟩
def Yv(K:bb):gp:=λx y H Q=>∃a b ys,x=.ref a/\y=.ref b/\cX K H a []/\cX K H b ys/\Q (.ref b) H
def apI:eg X (kT .Add) (Yv X.K):=by
 intro ah s σ H x y v u Q I aL bt h;obtain⟨a,b,ys,rfl,rfl,au,ab,q⟩:=h;cases aL;cases bt;obtain⟨its,a6,sE,_⟩:=I.tuple au;obtain⟨hc,b',ej,_⟩:=I.tuple ab;have Gy:its=[]:=a6.AU.mpr rfl;subst Gy;obtain⟨⟨cls,e_,data,c5⟩,aH,ax,n,hd⟩:=id sE;obtain⟨⟨Gp,mq,data2,lj⟩,sh,wB,gf,hd2⟩:=id ej;simp only at ax hd wB hd2;subst ax hd wB hd2;exact concat_meets ⟨_,aH,rfl⟩ ⟨_,sh,rfl⟩ noFill_tuple_add seq_tuple_add PySem.F.slot_tuple_add PySem.F.entry_tuple_add (PySem.F.args_tuple_add_2 _ _)
   (tuple_addW0 a b ([]:List ak).toArray hc.toArray n gf e_ mq c5 lj (by simp)) ⟨aH,sh,⟨.ref b,H,I,rfl,q⟩⟩
def ko:b8=big:=by rw[mT];rfl
def ho(au:dd X a f)(ab:dd X b g):cA X (.BinOp a .Add b pos) (ag cD f g):=
 dn (rv (YY.or (anZ.or (apI.or (aq4.or aq5)))) au ab) (nK (by
  intro O F H x y t gy fW Q d aL bt e k;unfold cD at e;split at e
  ·cases e
   rw[aL.int,bt.int];exact .inl ⟨_,_,rfl,rfl,k _ F H (Ext.refl d) (by simp[Rep])⟩
  ·split at e
   next ar=>
    cases e
    rw[aL.str,bt.str];exact .inr (.inl ⟨_,_,rfl,rfl,by rw[ko];exact ar,k _ F H (Ext.refl d) (by simp[Rep])⟩)
   next=>cases e
  ·split at e
   next xs ys ar=>
    cases e
    obtain⟨rT,vs,rfl,asr,aw⟩:=aL.tup;obtain⟨ay,ws,rfl,oc,sj⟩:=bt.tup;cases xs with
    |nil=>
     simp only[bz] at aw;subst aw;refine .inr (.inr (.inl ⟨_,_,_,rfl,rfl,asr,oc,k _ F H (Ext.refl d) ?_⟩));simp only[Rep];exact⟨_,_,rfl,oc,by simpa using sj⟩
    |cons x0 uR=>
     refine .inr (.inr (.inr (.inl ⟨_,_,_,_,rfl,rfl,asr,oc,?_,?_,λde=>?_,λde p aF=>?_⟩)))
     ·intro z;subst z;have:=aw.length;simp at this
     ·rw[ko,<- aw.length,<- sj.length];exact ar
     ·refine k _ F H (Ext.refl d) ?_
      subst de;have aG:ys=[]:=List.eq_nil_of_length_eq_zero (by rw[sj.length];rfl);subst aG;simp only[Rep];exact⟨_,_,rfl,asr,by simpa using aw⟩
     ·have aM:=Ext.laid (o:=.tup (vs++ws)) d aF;refine k _ F _ aM ?_;simp only[Rep];exact⟨p,_,rfl,cX.of ew,(aw.append sj).ext aM⟩
   next=>cases e
  ·split at e
   next xs ys ar=>
    cases e
    obtain⟨rT,vs,rfl,asr,aw⟩:=aL.lst;obtain⟨ay,ws,rfl,oc,sj⟩:=bt.lst;refine .inr (.inr (.inr (.inr ⟨_,_,_,_,rfl,rfl,asr,oc,by rw[ko,<- aw.length,<- sj.length];exact ar,λp aF=>?_⟩)));have aM:=Ext.wZ (o:=.lst (vs++ws)) d aF;refine k _ _ _ aM ?_;simp only[Rep];exact⟨p,_,rfl,.inr rfl,.inl ew,(aw.append sj).ext aM⟩
   next=>cases e
  ·cases e))
def N4(au:dd X a f)(ab:dd X b g):cA X (.BinOp a .Sub b pos) (ag oi f g):=
 dn (rv YU au ab) (nK (by
  intro O F H x y t gy fW Q d aL bt e k;unfold oi at e;split at e
  ·cases e
   rw[aL.int,bt.int];exact⟨_,_,rfl,rfl,k _ F H (Ext.refl d) (by simp[Rep])⟩
  ·cases e))
def qa(au:dd X a f)(ab:dd X b g):cA X (.BinOp a .Mult b pos) (ag du f g):=
 dn (rv YW au ab) (nK (by
  intro O F H x y t gy fW Q d aL bt e k;unfold du at e;split at e
  ·split at e
   next hm=>
    cases e
    rw[aL.int,bt.int];refine⟨_,_,rfl,rfl,?_,k _ F H (Ext.refl d) (by simp[Rep])⟩;simpa [vR,yZ] using hm
   next=>cases e
  ·cases e))
def iH(au:dd X a f)(ab:dd X b g):cA X (.BinOp a .FloorDiv b pos) (ag oDiv f g):=
 dn (rv aq3 au ab) (nK (by
  intro O F H x y t gy fW Q d aL bt e k;unfold oDiv at e;split at e
  ·split at e
   next hm=>
    cases e
    rw[aL.int,bt.int];exact⟨_,_,rfl,rfl,hm,k _ F H (Ext.refl d) (by simp[Rep])⟩
   next=>cases e
  ·cases e))
def gj(au:dd X a f)(ab:dd X b g):cA X (.BinOp a .Mod b pos) (ag oMod f g):=
 dn (rv YX au ab) (nK (by
  intro O F H x y t gy fW Q d aL bt e k;unfold oMod at e;split at e
  ·split at e
   next hm=>
    cases e
    rw[aL.int,bt.int];exact⟨_,_,rfl,rfl,hm,k _ F H (Ext.refl d) (by simp[Rep])⟩
   next=>cases e
  ·cases e))
def bU(au:dd X a f)(ab:dd X b g)(asr:Vs b:=by intro _ _;rfl):cA X (.Subscript a b pos) (ag aW f g):=
 dn (ZY Y' au ab asr) (nK (by
  intro O F H x y t gy fW Q d aL bt e k;unfold aW at e;split at e
  ·obtain⟨rT,vs,rfl,asr,aw⟩:=aL.tup;rw[bt.int];simp only[e9,b7] at e;obtain⟨j,bJ,bF⟩:=e;obtain⟨v,bq,b0⟩:=aw.get bF;refine .inr (.inl ⟨_,_,_,v,rfl,rfl,asr,?_,k _ F H (Ext.refl d) b0⟩);rw[aw.length] at bJ;show (qF _ _).bind _=_;rw[show qF vs.length _=some j from bJ];exact bq
  ·obtain⟨rT,vs,rfl,asr,aw⟩:=aL.lst;rw[bt.int];simp only[e9,b7] at e;obtain⟨j,bJ,bF⟩:=e;obtain⟨v,bq,b0⟩:=aw.get bF;refine .inl ⟨_,_,_,v,rfl,rfl,.inl asr,?_,k _ F H (Ext.refl d) b0⟩;rw[aw.length] at bJ;show (qF _ _).bind _=_;rw[show qF vs.length _=some j from bJ];exact bq
  ·split at e
   next ar=>
    rw[aL.str,bt.int];simp only[d7] at e;obtain⟨c,ax,rfl⟩:=e;exact .inr (.inr ⟨_,_,c,rfl,rfl,by rw[ko];exact ar,ax,k _ F H (Ext.refl d) (by simp[Rep])⟩)
   next=>cases e
  ·cases e))
end
end
section
variable [cV]
noncomputable def y2(K:bb)(aD:asq->Prop)(aO:hq)(O F:asq->Prop)(H:aE)(D:Ends):Out->Prop
|.bP ε'=>∀cf aK aj,ec K F H aK aj->cP K aD aO O aK aj ε' cf->D.bP cf aj
|.d9 t=>∀v aK aj,Ext aD aO.h aK aj->Rep K aK aj t v->D.d9 v aj
|.ig t ε'=>∀v cf aK aj,cP K aD aO O aK aj ε' cf->Rep K aK aj t v->D.d9 v aj
|.ka s=>∀a aK aj,Ext aD aO.h aK aj->ea K aO O aK aj s (.ref a)->D.d9 (.ref a) aj
|.ht ε'=>∀cf aK aj,ec K F H aK aj->cP K aD aO O aK aj ε' cf->D.ht cf aj
|.cH ε'=>∀cf aK aj,ec K F H aK aj->cP K aD aO O aK aj ε' cf->D.cH cf aj
def RK(K:bb)(g:bc):gG:=λD σ H=>∃aD aO O F ε o,cP K aD aO O F H ε σ/\g ε=some o/\y2 K aD aO O F H D o
abbrev gF(X:bu)(s:Stmt)(g:bc):Prop:=jY X s (RK X.K g)
abbrev ip(X:bu)(s:List Stmt)(g:bc):Prop:=jZ X s (RK X.K g)
def y2.aC{K:bb}{aD O F aY:asq->Prop}{aO:hq}{H H1:aE}{D:Ends}{o:Out}(h:y2 K aD aO O F H D o)(x:ec K F H aY H1):y2 K aD aO O aY H1 D o:=by
 cases o with
|bP ε=>exact λcf aK aj k r=>h cf aK aj (x.trans k) r
|d9 t=>exact h
|ht ε=>exact λcf aK aj k r=>h cf aK aj (x.trans k) r
|cH ε=>exact λcf aK aj k r=>h cf aK aj (x.trans k) r
|ig t ε=>exact h
|ka s=>exact h
section
variable {X:bu}{e a b c:bx}{f:bl}{g g':bc}{e2:e7}{st:Stmt}{rest:List Stmt}{pos:Pos}
def ey:ip X [] skip:=Vt aqN λD σ H ⟨aD,aO,O,F,ε,o,r,e,k⟩=>by
 cases e
 exact k σ F H ec.refl r
def ba(h:gF X st g):ip X [st] g:=aqM h
def ass(af:gF X st g)(ai:ip X rest g'):ip X (st::rest) (seq g g'):=Vt (apB af ai) λD σ H ⟨aD,aO,O,F,ε,o,r,e,k⟩=>by
 simp only[seq,b7] at e;obtain⟨dK,aG,aS⟩:=e;refine⟨aD,aO,O,F,ε,dK,r,aG,?_⟩;cases dK with
|bP ε'=>exact λcf aK aj x b_=>⟨aD,aO,O,aK,ε',o,b_,aS,k.aC x⟩
|d9 t=>
  cases aS
  exact k
|ht ε'=>
  cases aS
  exact k
|cH ε'=>
  cases aS
  exact k
|ig t ε'=>
  cases aS
  exact k
|ka s=>
  cases aS
  exact k
def c7(h:cA X e f):gF X (.Return (some e) pos) (bO f):=hV (yD h) λD σ H ⟨aD,aO,O,F,ε,o,r,e,k⟩=>by
 simp only[bO,d7] at e;obtain⟨t,bF,rfl⟩:=e;exact⟨aD,aO,O,F,ε,t,r,bF,λv aK aj x q=>k v aK aj (r.ent.trans x) q⟩
def yB(i:Nat){x:Str}{af9:Pos}(eL:X.N[i]?=some x:=by rfl)(bq:rR X.env.scope x:=by first|exact Or.inl rfl|exact Or.inr (Or.inl rfl)|exact Or.inr (Or.inr rfl))(hd:(x==("__debug__":Str))=false:=by decide)
  (jB:(x==("__classdict__":Str))=false:=by decide):gF X (.Return (some (.Name x af9)) pos) (bO (nm i)):=hV (yD (a4 i eL bq hd jB)) λD σ H ⟨aD,aO,O,F,ε,o,r,e,k⟩=>by
 simp only[bO,d7] at e;obtain⟨t,bF,rfl⟩:=e;unfold nm at bF;split at bF
 next t' he=>
  cases bF
  obtain⟨v,af,ai⟩:=r.val _ _ he;exact⟨v,af,k v F H r.ent ai⟩
 next ts he=>
  cases bF
  obtain⟨v,af,a,vs,rfl,n,h0,au,q⟩:=r.val _ _ he;have bK:=r.ent;have y:Ext aD aO.h (λb=>F b\/b=a) H:=⟨bK.same,λb z=>.inl (bK.sub b z),λb z=>by
   rcases z with z|rfl
   ·exact bK.new b z
   ·exact .inr (r.o0 _ h0),⟨λb z=>by
   rcases z with z|rfl
   ·exact bK.cy b z
   ·exact⟨_,au⟩,bK.cy.qT⟩⟩
  refine⟨_,af,k _ _ H y ?_⟩
  simp only[Rep];exact⟨a,vs,rfl,.inr rfl,.inl au,q.keep (λ_ _ z=>z) λb _ z w=>⟨.inl z,w⟩⟩
 next=>cases bF
def dh(ax:ju X c e2)(au:ip X rest g){Qf:List Stmt}(ab:ip X Qf g'):gF X (.If c rest Qf pos) (iff e2 g g'):=hV (ZU ax au ab) λD σ H ⟨aD,aO,O,F,ε,o,r,e,k⟩=>by
 simp only[iff,b7] at e;obtain⟨b,dz,e⟩:=e;refine⟨aD,aO,O,F,ε,b,r,dz,λaK aj x=>?_⟩;cases b with
|true=>exact sr ⟨aD,aO,O,aK,ε,o,r.ext x,by simpa using e,k.aC x.aC⟩
|false=>exact sq ⟨aD,aO,O,aK,ε,o,r.ext x,by simpa using e,k.aC x.aC⟩
def asx(i:Nat){x:Str}{pos':Pos}(eL:X.N.Nodup)(he:cA X e f)(hi:X.N[i]?=some x:=by rfl)(hx:Loc X.env.scope x:=by first|exact Or.inl rfl|exact Or.inr rfl)
  (asr:kh e (some (.Name x pos')) pos.line X.env=pure false:=by rfl) (hf:X.fn x=true\/X.env.scope.names.lookup x=some .local:=by first|exact .inl rfl|exact .inr rfl):
  gF X (.Assign [.Name x pos'] e pos) (asg i f):=hV (VK eL hi hx he asr hf) λD σ H ⟨aD,aO,O,F,ε,o,r,e,k⟩=>by
 simp only[asg,d7] at e;obtain⟨t,bF,rfl⟩:=e;refine⟨aD,aO,O,F,ε,t,r,bF,λv aK aj x q=>?_⟩;exact k _ aK aj x.aC ((r.ext x).set i q)
def tG(K:bb)(g:iM):nX:=λv σ H Q=>∃aD aO O F ε t ε',cP K aD aO O F H ε σ/\Rep K F H t v/\g t ε=some ε'/\∀cf,cP K aD aO O F H ε' cf->Q cf H
def alk(K:bb)(fB:List iM):o8:=λvs σ H Q=>∃aD aO O F ε ts ε',cP K aD aO O F H ε σ/\bz K F H ts vs/\gr fB ts ε=some ε'/\∀cf,cP K aD aO O F H ε' cf->Q cf H
abbrev o5(X:bu)(e:bx)(g:iM):Prop:=rM X e (tG X.K g)
abbrev y_(X:bu)(es:List bx)(fB:List iM):Prop:=rN X es (alk X.K fB)
def We{X:bu}{e:bx}{t t':nX}(h:rM X e t)(k:∀v σ H Q,t' v σ H Q->t v σ H Q):rM X e t':=λah s σ H v u Q I r q=>h ah s σ H v u Q I r (k v σ H Q q)
def Vu{X:bu}{e:List bx}{t t':o8}(h:rN X e t)(k:∀v σ H Q,t' v σ H Q->t v σ H Q):rN X e t':=λah s σ H v u Q I r q=>h ah s σ H v u Q I r (k v σ H Q q)
def eE(i:Nat){x:Str}(eL:X.N.Nodup)(hi:X.N[i]?=some x:=by rfl)(hx:Loc X.env.scope x:=by first|exact Or.inl rfl|exact Or.inr rfl)
  (hf:X.fn x=true\/X.env.scope.names.lookup x=some .local:=by first|exact .inl rfl|exact .inr rfl):o5 X (.Name x pos) (bH i):=We (aqW eL hi hx hf) λv σ H Q ⟨aD,aO,O,F,ε,t,ε',r,q,e,k⟩=>by
 cases e
 exact k _ (r.set i q)
def vU:y_ X [] []:=Vu aqV λvs σ H Q ⟨aD,aO,O,F,ε,ts,ε',r,q,e,k⟩=>by
 cases ts with
|nil=>
  cases e
  simp only[bz] at q;exact⟨q,k σ r⟩
|cons t ts=>cases e
def asJ{es:List bx}{g:iM}{fB:List iM}(af:o5 X e g)(ai:y_ X es fB)(asr:(pY (e::es) X.env).map (·.2)=assign e X.env::(pY es X.env).map (·.2):=by rfl):y_ X (e::es) (g::fB):=
 Vu (apE af ai asr) λvs σ H Q ⟨aD,aO,O,F,ε,ts,ε',r,q,e,k⟩=>by
 cases ts with
|nil=>cases e
|cons t ts=>
  simp only[gr,b7] at e;obtain⟨mf,aG,aS⟩:=e;simp only[bz] at q;obtain⟨v,Lo,rfl,aQ,a7⟩:=q;exact⟨v,Lo,rfl,aD,aO,O,F,ε,t,mf,r,aQ,aG,λtR a6=>⟨aD,aO,O,F,mf,ts,ε',a6,a7,aS,k⟩⟩
theorem UK:∀{fB:List iM} {ts:List T} {ε ε':Ev},gr fB ts ε=some ε'->ts.length=fB.length
| [],[],_,_,_=>rfl
| [],_::_,_,_,h=>by cases h
|_::_,[],_,_,h=>by cases h
|g::fB,t::ts,ε,ε',h=>by
  simp only[gr,b7] at h;obtain⟨mf,_,h⟩:=h;simp[UK h]
def vT{es:List bx}{k:Nat}{fB:List iM}(h:y_ X es fB)(ax:X.calm=true:=by rfl)(a9:(pY es X.env).length=fB.length:=by rfl)(lS:(pY es X.env).findIdx? (·.1)=none:=by rfl):
  o5 X (.Tuple es k pos) (eA fB):=We (YI ax h a9 lS) λv σ H Q ⟨aD,aO,O,F,ε,t,ε',r,q,e,k⟩=>by
 unfold eA at e;split at e
 next ts=>
  simp only[Rep] at q;obtain⟨a,vs,rfl,asr,aw⟩:=q;exact⟨a,vs,rfl,asr,by rw[<- aw.length];exact UK e,aD,aO,O,F,ε,ts,ε',r,aw,e,k⟩
 next=>cases e
structure o1(K:bb)(J:k4)(aY:asq->Prop)(H1:aE)(ts:List T):Prop where
 go:∀i F H t,ec K aY H1 F H->gE F H->ts[i]?=some t->J.go i H
 mU:∀i F H t x aj,ec K aY H1 F H->gE F H->ts[i]?=some t->J.mU i H x aj->∃aK,Ext F H aK aj/\Rep K aK aj t x
 stop:∀i F H,ec K aY H1 F H->ts.length<=i->J.stop i H
def tI(K:bb)(f:jX):TI:=λσ H R=>∃aD aO O F ε ts,cP K aD aO O F H ε σ/\f ε=some ts/\∀J aK aj,Ext F H aK aj->o1 K J aK aj ts->R J aj
abbrev nW(X:bu)(da e:bx)(f:jX):Prop:=o6 X da e (tI X.K f)
def yM{X:bu}{da e:bx}{t t':TI}(h:o6 X da e t)(k:∀σ H R,t' σ H R->t σ H R):o6 X da e t':=λah s σ H R I q=>h ah s σ H R I (k σ H R q)
def TO{K:bb}{a:asq}{aY:asq->Prop}{H1:aE}{ts:List T}{vs:List V}(cp:aY a)(aw:fN H1 a (.lst vs))(q:bz K aY H1 ts vs):o1 K (y4 K a) aY H1 ts where
 go:=λi F H t aC d e=>by
  obtain⟨v,af,_⟩:=q.get e;exact⟨vs,v,.inl (aC.lst _ _ cp aw).2,af⟩
 mU:=λi F H t x aj aC d e y=>by
  obtain⟨rfl,y⟩:=y;obtain⟨v,af,ai⟩:=(q.aC aC).get e;have:=y vs (.inl (aC.lst _ _ cp aw).2);rw[af] at this;cases this;exact⟨F,Ext.refl d,ai⟩
 stop:=λi F H aC aB=>⟨vs,.inl (aC.lst _ _ cp aw).2,by rw[<- q.length];exact aB⟩
def UI{K:bb}{a:asq}{aY:asq->Prop}{H1:aE}{ts:List T}{vs:List V}(aw:cX K H1 a vs)(q:bz K aY H1 ts vs):o1 K (y6 K a) aY H1 ts where
 go:=λi F H t aC d e=>by
  obtain⟨v,af,_⟩:=q.get e;exact⟨vs,v,aC.tup _ _ aw,af⟩
 mU:=λi F H t x aj aC d e y=>by
  obtain⟨rfl,y⟩:=y;obtain⟨v,af,ai⟩:=(q.aC aC).get e;have:=y vs (aC.tup _ _ aw);rw[af] at this;cases this;exact⟨F,Ext.refl d,ai⟩
 stop:=λi F H aC aB=>⟨vs,aC.tup _ _ aw,by rw[<- q.length];exact aB⟩
def Ng(lo hi:Int):(lW lo hi).length=(hi - lo).toNat:=by simp[lW]
def ap6{K:bb}{aY:asq->Prop}{H1:aE}(lo hi:Int):o1 K (y5 lo (hi - lo).toNat) aY H1 (lW lo hi) where
 go:=λi F H t aC d e=>by
  have h:=(hj.mp e).1;rw[Ng] at h;exact h
 mU:=λi F H t x aj aC d e y=>by
  obtain⟨rfl,rfl⟩:=y;refine⟨F,Ext.refl d,?_⟩;have h:=(hj.mp e).1;rw[Ng] at h;unfold lW at e;rw[kQ,List.getElem?_range h] at e;simp at e;subst e;simp[Rep]
 stop:=λi F H aC aB=>by
  rw[Ng] at aB;exact aB
def aev(K:bb)(i6:TE):TI:=λσ H R=>i6 σ H λx H1=>∃a,x=.ref a/\(((∃xs,fP K H1 a xs)/\R (y4 K a) H1)\/((∃xs,cX K H1 a xs)/\R (y6 K a) H1))
def ZV{da l:bx}{i6:TE}(aB:bR X l i6):o6 X da l (aev X.K i6):=by
 intro ah s σ H R I h;refine cq (aB ah s σ H _ I h) λv s1 ⟨x,H1,a8,a6,a,aG,q⟩=>?_;subst aG;cases a6;have ct:∀b∈[s1.heap.objs.size],mi X ah H1 b:=λb ab=>by
  have e:b=s1.heap.objs.size:=by simpa using ab
  subst e;exact a8.wo (dT _) (a8.ck.fresh (dT _))
 rcases q with ⟨⟨xs,bg⟩,q⟩|⟨⟨xs,bg⟩,q⟩
 ·obtain⟨its,b0,p,ar⟩:=a8.list bg;refine wpAny_pyIter_list p.isList ?_;exact⟨s1.heap.objs.size,[s1.heap.objs.size],_,_,H1,rfl,a8.kept (t':=s1.toks) λb o e=>c8 _ e,Tt a _,⟨_,gA _ rfl,rfl,rfl⟩,ct,q⟩
 ·obtain⟨its,b0,p,ar⟩:=a8.tuple bg;refine uZ (show s1.heap.IsTuple a its.toArray from p) ?_;exact⟨s1.heap.objs.size,[s1.heap.objs.size],_,_,H1,rfl,a8.kept (t':=s1.toks) λb o e=>c8 _ e,SX a _,⟨_,gA _ rfl,rfl,rfl⟩,ct,q⟩
def k1{da l:bx}{f:bl}(aB:cA X l f):nW X da l (eO f):=yM (ZV aB) λσ H R ⟨aD,aO,O,F,ε,ts,r,e,k⟩=>by
 simp only[eO,b7] at e;obtain⟨t,bF,e⟩:=e;split at e
 ·cases e
  refine⟨aD,aO,O,F,ε,_,r,bF,λv aK aj x q=>?_⟩
  simp only[Rep] at q;obtain⟨a,vs,rfl,asr,aw⟩:=q;exact⟨a,rfl,.inr ⟨⟨vs,asr⟩,k _ aK aj x (UI asr aw)⟩⟩
 ·cases e
  refine⟨aD,aO,O,F,ε,_,r,bF,λv aK aj x q=>?_⟩
  simp only[Rep] at q;obtain⟨a,vs,rfl,cp,asr,aw⟩:=q;exact⟨a,rfl,.inl ⟨⟨vs,.inl asr⟩,k _ aK aj x (TO cp asr aw)⟩⟩
 ·cases e
def V5{da a:bx}{f:bl}{p pos:Pos}(hm:X.mg "range"=none)(au:dd X a f)(bf:ez X "range":=by rfl)(asr:bo [a] X.env=[(false,eval a X.env)]:=by rfl)(hO:bo [a] X.env=(false,eval a X.env)::bo [] X.env:=by rfl):
  nW X da (.Call (.Name "range" p) [a] [] pos) (mY f):=yM (aoC bf hm (i_ au km hO) asr) λσ H R ⟨aD,aO,O,F,ε,ts,r,e,k⟩=>by
 simp only[mY,b7] at e;obtain⟨t,bF,e⟩:=e;split at e
 next j=>
  split at e
  next ar=>
   cases e
   refine⟨aD,aO,O,F,ε,_,r,bF,λv aK aj x q=>⟨j,by rw[q.int],?_,?_,k _ aK aj x (by simpa using ap6 0 j)⟩⟩
   ·simp[vl] at ar;omega
   ·simp[vl] at ar;omega
  next=>cases e
 next=>cases e
def m1{da iter:bx}{body:List Stmt}{it:jX}{jy:iM}{pe:bc}(aF:PassesOwn (bV X.prog X.w) X.A X.env X.dR)(hi:nW X da iter it)(bf:o5 X da jy)(ab:ip X body pe)(ax:X.calm=true:=by rfl)
  (asr:∀x,u1 iter X.env x=pure x:=by intro _;rfl):gF X (.For da iter body [] pos) (fb it jy pe):=hV (YG aF ax hi bf ab asr) λD σ H ⟨aD,aO,O,F,ε,o,r,e,k⟩=>by
 simp only[fb,b7] at e;obtain⟨ts,bF,e⟩:=e;refine⟨aD,aO,O,F,ε,ts,r,bF,λJ aY H1 aM ok=>?_⟩;refine⟨λi m cf aj=>m=ts.length - i/\i<=ts.length/\∃aK ε' ,ec X.K aY H1 aK aj/\cP X.K aD aO O aK aj ε' cf/\forL jy pe (ts.drop i) ε'=some o,⟨_,rfl,asH _,aY,ε,ec.refl,r.ext aM,by simpa using e⟩,?_⟩;rintro i m cf aj ⟨rfl,sf,aK,ε',aC,b_,bN⟩;by_cases gc:i<ts.length
 ·have hd:ts.drop i=ts[i]::ts.drop (i+1):=List.drop_eq_getElem_cons gc;have wG:ts[i]?=some ts[i]:=iB gc;rw[hd] at bN;simp only[forL,b7] at bN;obtain⟨mf,r4,dK,dz,bN⟩:=bN;refine .inr ⟨ok.go i aK aj _ aC b_.cy wG,λyY bk=>∃iw,iw<ts.length - i/\(iw=ts.length - (i+1)/\i+1<=ts.length/\∃dq fk,ec X.K aY H1 dq bk/\cP X.K aD aO O dq bk fk yY/\forL jy pe (ts.drop (i+1)) fk=some o),λ_ _ z=>z,λx bk y=>?_⟩;obtain⟨dq,bK,aL⟩:=ok.mU i aK aj _ x bk aC b_.cy wG y;refine⟨aD,aO,O,dq,ε',_,mf,b_.ext bK,aL,r4,λjV iY=>⟨aD,aO,O,dq,mf,dK,iY,dz,?_⟩⟩;have pH:ec X.K aY H1 dq bk:=aC.trans bK.aC;cases dK with
  |bP fk=>exact λtS il f3 iT ix=>⟨_,by omega,rfl,gc,il,fk,pH.trans iT,ix,bN⟩
  |cH fk=>exact λtS il f3 iT ix=>⟨_,by omega,rfl,gc,il,fk,pH.trans iT,ix,bN⟩
  |ht fk=>
   cases bN
   exact λtS il f3 iT ix=>k tS il f3 ((aM.aC.trans pH).trans iT) ix
  |d9 t=>
   cases bN
   exact k
  |ig t fk=>
   cases bN
   exact k
  |ka s=>
   cases bN
   exact k
 ·have hd:ts.drop i=[]:=List.drop_eq_nil_of_le (by omega);rw[hd] at bN;cases bN;exact .inl ⟨ok.stop i aK aj aC (by omega),k cf aK aj (aM.aC.trans aC) b_⟩
def aqw{body:List Stmt}{pe:bc}(n:Nat)(aF:PassesOwn (bV X.prog X.w) X.A X.env X.dR)(ax:ju X c e2)(ab:ip X body pe):gF X (.While c body [] pos) (kO e2 pe n):=hV (apC aF ax ab) λD σ H ⟨aD,aO,O,F,ε,o,r,e,k⟩=>by
 refine⟨λm cf aj=>∃aK ε',ec X.K F H aK aj/\cP X.K aD aO O aK aj ε' cf/\kO e2 pe m ε'=some o,⟨n,F,ε,ec.refl,r,e⟩,?_⟩
 rintro m cf aj ⟨aK,ε',aC,b_,bN⟩;cases m with
|zero=>cases bN
|succ m=>
  simp only[kO,b7] at bN;obtain⟨x,ex,bN⟩:=bN;refine⟨aD,aO,O,aK,ε',x,b_,ex,λaY H1 aM=>?_⟩;cases x with
  |false=>
   simp only[l1,if_false] at bN;cases bN;exact sq (k cf aY H1 (aC.trans aM.aC) (b_.ext aM))
  |true=>
   simp only[if_true,b7] at bN;obtain⟨dK,dz,bN⟩:=bN;refine sr ⟨λyY bk=>∃iw,iw<m+1/\∃dq fk,ec X.K F H dq bk/\cP X.K aD aO O dq bk fk yY/\kO e2 pe iw fk=some o,λ_ _ z=>z,aD,aO,O,aY,ε',dK,b_.ext aM,dz,?_⟩;have pH:=aC.trans (aM.aC (K:=X.K));cases dK with
   |bP fk=>exact λtS il f3 iT ix=>⟨m,by omega,il,fk,pH.trans iT,ix,bN⟩
   |cH fk=>exact λtS il f3 iT ix=>⟨m,by omega,il,fk,pH.trans iT,ix,bN⟩
   |ht fk=>
    cases bN
    exact λtS il f3 iT ix=>k tS il f3 (pH.trans iT) ix
   |d9 t=>
    cases bN
    exact k
   |ig t fk=>
    cases bN
    exact k
   |ka s=>
    cases bN
    exact k
end
end
section
variable [cV]
section
variable {X:bu}{a b c e:bx}{es:List bx}{f g h:bl}{aA:List bl}{e2 gt:e7}{pos p:Pos}
def fL:o4 X [] []:=yN km λσ H Q ⟨aD,aO,O,F,ε,ts,r,e,k⟩=>by
 cases e
 exact k [] F H (Ext.refl r.cy) .nil
def fE(au:dd X e f)(aw:o4 X es aA)(asr:bo (e::es) X.env=(false,eval e X.env)::bo es X.env:=by rfl):o4 X (e::es) (f::aA):=yN (i_ au aw asr) λσ H Q ⟨aD,aO,O,F,ε,ts,r,e,k⟩=>by
 simp only[args,b7,d7] at e;obtain⟨t,bF,us,fy,rfl⟩:=e;refine⟨aD,aO,O,F,ε,t,r,bF,λv aY H1 aM aQ=>⟨aD,aO,O,aY,ε,us,r.ext aM,fy,λvs dq bk bK a7=>?_⟩⟩;exact k _ dq bk (aM.trans bK) (.cons (aQ.ext bK) a7)
def a':lL X [] []:=yN km λσ H Q ⟨aD,aO,O,F,ε,ts,r,e,k⟩=>by
 cases e
 exact k [] F H (Ext.refl r.cy) bz.nil
def az(au:cA X e f)(aw:lL X es aA)(asr:bo (e::es) X.env=(false,eval e X.env)::bo es X.env:=by rfl):lL X (e::es) (f::aA):=yN (i_ au aw asr) λσ H Q ⟨aD,aO,O,F,ε,ts,r,e,k⟩=>by
 simp only[args,b7,d7] at e;obtain⟨t,bF,us,fy,rfl⟩:=e;refine⟨aD,aO,O,F,ε,t,r,bF,λv aY H1 aM aQ=>⟨aD,aO,O,aY,ε,us,r.ext aM,fy,λvs dq bk bK a7=>?_⟩⟩;exact k _ dq bk (aM.trans bK) (bz.cons (aQ.ext bK) a7)
def dC{aM}(h:lL X es aA):cA X (.Tuple es aM pos) (b6 aA):=dn (YK h) λσ H Q ⟨aD,aO,O,F,ε,t,r,e,k⟩=>by
 simp only[b6,b7] at e;obtain⟨ts,bF,e⟩:=e;split at e
 next ar=>
  cases e
  refine⟨aD,aO,O,F,ε,ts,r,bF,λvs aY H1 aM aQ=>⟨by rw[ko,<- aQ.length];exact ar,λp aF=>?_⟩⟩
  have bK:=Ext.laid (o:=.tup vs) aM.cy aF;refine k _ aY _ (aM.trans bK) ?_;simp only[Rep];exact⟨p,vs,rfl,cX.of ew,aQ.ext bK⟩
 next=>cases e
def vM(h:lL X es aA):tZ X (.List es pos) (gD aA):=dn (YO h) λσ H Q ⟨aD,aO,O,F,ε,us,r,e,k⟩=>by
 simp only[gD,b7] at e;obtain⟨ts,bF,e⟩:=e;split at e
 next ar=>
  cases e
  refine⟨aD,aO,O,F,ε,_,r,bF,λvs aY H1 aM aQ=>⟨by rw[ko,<- aQ.length];exact ar,λp aF=>?_⟩⟩
  have bK:=Ext.laid (o:=.lst vs) aM.cy aF;refine k p vs aY _ (aM.trans bK) ?_ ?_ ew (aQ.ext bK)
  ·exact aM.same.none aF
  ·intro ct;obtain⟨o,eU⟩:=aM.cy p ct;rw[aF] at eU;cases eU
 next=>cases e
def Yw(h:lL X es aA):cA X (.List es pos) (gD aA):=Q6 (vM h) λε t e=>by
 simp only[gD,b7] at e;obtain⟨ts,bF,e⟩:=e;split at e
 ·cases e
  exact⟨_,rfl⟩
 ·cases e
mutual
theorem Uy{F:asq->Prop}{ah:List (asq×Obj)}{σ:bG.St}{H:aE}{s:aP}(I:Inv X ah σ H s):∀{t:T} {v:V} {u:ak},Rep X.K F H t v->RelV v u->∃as,Reads s.heap u t as
|.none,v,u,h,r=>by
  simp only[Rep] at h;subst h;cases r;exact⟨_,.none⟩
|.bool b,v,u,h,r=>by
  simp only[Rep] at h;subst h;cases r;exact⟨_,.bool b⟩
|.int i,v,u,h,r=>by
  simp only[Rep] at h;subst h;obtain⟨t,rfl⟩:=r;exact⟨_,.int i t⟩
|.str x,v,u,h,r=>by
  simp only[Rep] at h;subst h;obtain⟨t,rfl⟩:=r;exact⟨_,.str x t⟩
|.dict _,v,u,h,r=>by simp[Rep] at h
|.tuple ts,v,u,h,r=>by
  simp only[Rep] at h;obtain⟨a,vs,rfl,asr,aw⟩:=h;cases r;obtain⟨its,b0,⟨o,af,ai,n,bE⟩,ar⟩:=I.tuple asr;obtain⟨as,kG⟩:=CX I aw b0;exact⟨_,.tuple af ai bE (by simpa using kG)⟩
|.list ts,v,u,h,r=>by
  simp only[Rep] at h;obtain⟨a,vs,rfl,cp,asr,aw⟩:=h;cases r;obtain⟨z,its,n,b0,aB,e⟩:=Inv.uy I asr;obtain⟨as,kG⟩:=CX I aw b0;exact⟨_,.list e rfl rfl (by simpa using kG)⟩
theorem CX{F:asq->Prop}{ah:List (asq×Obj)}{σ:bG.St}{H:aE}{s:aP}(I:Inv X ah σ H s):∀{ts:List T} {vs:List V} {us:List ak},bz X.K F H ts vs->Vals vs us->∃as,ReadsAll s.heap us ts as
| [],vs,us,h,r=>by
  simp only[bz] at h;subst h;cases r;exact⟨_,.nil⟩
|t::ts,vs,us,h,r=>by
  simp only[bz] at h;obtain⟨v,Lo,rfl,af,ai⟩:=h;cases r with
  |cons a6 b'=>
   obtain⟨as,aQ⟩:=Uy I af a6;obtain⟨bs,a7⟩:=CX I ai b';exact⟨_,.cons aQ a7⟩
end
def oF{O F:asq->Prop}{ah:List (asq×Obj)}{σ:bG.St}{H:aE}{s:aP}(I:Inv X ah σ H s){t:T}{v:V}{u:ak}(h:f6 X.K O F H t v)(r:RelV v u):∃as,Reads s.heap u t as:=by
 rcases h with h|⟨ts,a,vs,rfl,rfl,au,h⟩
 ·exact Uy I h r
 ·cases r
  obtain⟨z,its,n,b0,aB,e⟩:=Inv.uy I (.inl au);obtain⟨as,kG⟩:=CX I h b0;exact⟨_,.list e rfl rfl (by simpa using kG)⟩
def vC{t:T}(h:ff t=true):t.canLay0=true/\t.depth<=60:=by
 simp only[ff,fi,decide_eq_true_eq] at h;exact h
def VT{t:List T}(h:pK t=true):ke t=true/\jm t<=60:=by
 simp only[pK,fi,decide_eq_true_eq] at h;exact h
noncomputable def DF(K:bb)(n:Bool):gp:=λx y H Q=>∃(O F:asq->Prop) (s t:T),f6 K O F H s x/\f6 K O F H t y/\ff s=true/\ff t=true/\Q (.cC (if n then !PyData.eqv s t else jn s t)) H
def VQ(b4:X.A.units+64<cLine):eg X (hE .Eq) (DF X.K false):=by
 intro ah s σ H x y v u Q I aL bt ⟨O,F,d,t,af,ai,dK,fH,q⟩;obtain⟨as,kG⟩:=oF I af aL;obtain⟨bs,eR⟩:=oF I ai bt;obtain⟨c6,bZ⟩:=vC dK;obtain⟨dv,b1⟩:=vC fH;refine SeqAt.compareEq_reads kG eR c6 dv (by have:=Nat.min_le_left d.depth t.depth;omega) ?_;exact⟨.cC _,H,I,rfl,q⟩
def VP(b4:X.A.units+64<cLine):eg X (hE .NotEq) (DF X.K true):=by
 intro ah s σ H x y v u Q I aL bt ⟨O,F,d,t,af,ai,dK,fH,q⟩;obtain⟨as,kG⟩:=oF I af aL;obtain⟨bs,eR⟩:=oF I ai bt;obtain⟨c6,bZ⟩:=vC dK;obtain⟨dv,b1⟩:=vC fH;refine SeqAt.compareNe_reads kG eR c6 dv (by have:=Nat.min_le_left d.depth t.depth;omega) ?_;exact⟨.cC _,H,I,rfl,q⟩
def nR{op:CmpOp}{R:gp}{o:T->T->Option T}(aH:eg X (hE op) R)(ai:nV X.K o R)(au:dd X a f)(ab:dd X b g)(hm:oy op b=false:=by first|exact VU _|rfl):cA X (.Compare a [op] [b] pos) (ag o f g):=dn (aqZ aH au ab hm) (nK ai)
def g8{op:CmpOp}{R:gp}{o:T->T->Option T}(aH:eg X (hE op) R)(ai:nV X.K o R)(au:dd X a f)(ab:dd X b g)(hm:oy op b=false:=by first|exact VU _|rfl):ju X (.Compare a [op] [b] pos) (bB (ag o f g)):=
 tK (aqL aH au ab hm) λσ H Q ⟨aD,aO,O,F,ε,b,r,e,k⟩=>by
 simp only[bB,b7] at e;obtain⟨t,bF,e⟩:=e;split at e
 ·cases e
  refine nK ai σ H _ ⟨aD,aO,O,F,ε,_,r,bF,λv aK aj x q=>?_⟩
  simp only[Rep] at q;exact⟨_,q,k aK aj x⟩
 ·cases e
def VS:nV X.K oEq (DF X.K false):=by
  intro O F H x y t gy fW Q d aL bt e k;unfold oEq at e;split at e
  next ar=>
   cases e
   rw[fi] at ar;exact⟨O,F,x,y,aL,bt,ar.1,ar.2,k _ F H (Ext.refl d) (by simp[Rep])⟩
  next=>cases e
def VR:nV X.K fV (DF X.K true):=by
  intro O F H x y t gy fW Q d aL bt e k;unfold fV at e;split at e
  next ar=>
   cases e
   rw[fi] at ar;exact⟨O,F,x,y,aL,bt,ar.1,ar.2,k _ F H (Ext.refl d) (by simp[Rep])⟩
  next=>cases e
noncomputable def K0(K:bb)(n:Bool):gp:=λx y H Q=>∃(O F:asq->Prop) (s:T) (ts:List T),f6 K O F H s x/\(f6 K O F H (.tuple ts) y\/f6 K O F H (.list ts) y)/\ff s=true/\pK ts=true/\Q (.cC (if n then !nr s ts else nr s ts)) H
def p6(b4:X.A.units+64<cLine):eg X (hE .In) (K0 X.K false):=by
 intro ah s σ H x y v u Q I aL bt ⟨O,F,d,ts,af,ai,dK,fH,q⟩;obtain⟨as,kG⟩:=oF I af aL;obtain⟨c6,bZ⟩:=vC dK;obtain⟨dv,b1⟩:=VT fH;have hm:=Nat.min_le_left (jm ts) d.depth;rcases ai with ai|ai
 ·obtain⟨bs,eR⟩:=oF I ai bt;exact SeqAt.in_tuple_reads eR kG dv c6 (by omega) ⟨.cC _,H,I,rfl,q⟩
 ·obtain⟨bs,eR⟩:=oF I ai bt;exact SeqAt.in_list_reads eR kG dv c6 (by omega) ⟨.cC _,H,I,rfl,q⟩
def yc(b4:X.A.units+64<cLine):eg X (hE .NotIn) (K0 X.K true):=by
 intro ah s σ H x y v u Q I aL bt ⟨O,F,d,ts,af,ai,dK,fH,q⟩;obtain⟨as,kG⟩:=oF I af aL;obtain⟨c6,bZ⟩:=vC dK;obtain⟨dv,b1⟩:=VT fH;have hm:=Nat.min_le_left (jm ts) d.depth;rcases ai with ai|ai
 ·obtain⟨bs,eR⟩:=oF I ai bt;exact SeqAt.notIn_tuple_reads eR kG dv c6 (by omega) ⟨.cC _,H,I,rfl,q⟩
 ·obtain⟨bs,eR⟩:=oF I ai bt;exact SeqAt.notIn_list_reads eR kG dv c6 (by omega) ⟨.cC _,H,I,rfl,q⟩
def lC{n:Bool}:nV X.K (eP n) (K0 X.K n):=by
 intro O F H x y t gy fW Q d aL bt e k;unfold eP at e;split at e
 ·split at e
  next ar=>
   cases e
   rw[fi] at ar;exact⟨O,F,x,_,aL,.inl bt,ar.1,ar.2,k _ F H (Ext.refl d) (by simp[Rep])⟩
  next=>cases e
 ·split at e
  next ar=>
   cases e
   rw[fi] at ar;exact⟨O,F,x,_,aL,.inr bt,ar.1,ar.2,k _ F H (Ext.refl d) (by simp[Rep])⟩
  next=>cases e
 ·cases e
def yG:nV X.K oLt (λx y H Q=>lg (λi j=>.cC (decide (i<j))) x y H Q\/∃i j,x=.str i/\y=.str j/\Q (.cC (decide (i.cps.toList<j.cps.toList))) H):=by
  intro O F H x y t gy fW Q d aL bt e k;unfold oLt at e;split at e
  ·cases e
   rw[aL.int,bt.int];exact .inl ⟨_,_,rfl,rfl,k _ F H (Ext.refl d) (by simp[Rep])⟩
  ·cases e
   rw[aL.str,bt.str];exact .inr ⟨_,_,rfl,rfl,k _ F H (Ext.refl d) (by simp[Rep,strLt])⟩
  ·cases e
def td:eg X (hE .LtE) (λx y H Q=>∃i j,x=.str i/\y=.str j/\Q (.cC (!strLt j i)) H):=by
 intro ah s σ H x y v u Q I aL bt ⟨i,j,aG,aS,q⟩;subst aG aS;obtain⟨t,rfl⟩:=aL;obtain⟨t',rfl⟩:=bt;exact PySem.P.le_str (Dx I q (by simp[strLt]))
def C1:eg X (hE .GtE) (λx y H Q=>∃i j,x=.str i/\y=.str j/\Q (.cC (!strLt i j)) H):=by
 intro ah s σ H x y v u Q I aL bt ⟨i,j,aG,aS,q⟩;subst aG aS;obtain⟨t,rfl⟩:=aL;obtain⟨t',rfl⟩:=bt;exact PySem.P.ge_str (Dx I q (by simp[strLt]))
def vg:eg X (hE .Gt) (λx y H Q=>∃i j,x=.str i/\y=.str j/\Q (.cC (strLt j i)) H):=by
 intro ah s σ H x y v u Q I aL bt ⟨i,j,aG,aS,q⟩;subst aG aS;obtain⟨t,rfl⟩:=aL;obtain⟨t',rfl⟩:=bt;exact PySem.P.gt_str (Dx I q (by simp[strLt]))
def asW:nV X.K oLe (λx y H Q=>lg (λi j=>.cC (decide (i<=j))) x y H Q\/∃i j,x=.str i/\y=.str j/\Q (.cC (!strLt j i)) H):=by
 intro O F H x y t gy fW Q d aL bt e k;unfold oLe at e;split at e
 ·cases e
  rw[aL.int,bt.int];exact .inl ⟨_,_,rfl,rfl,k _ F H (Ext.refl d) (by simp[Rep])⟩
 ·cases e
  rw[aL.str,bt.str];exact .inr ⟨_,_,rfl,rfl,k _ F H (Ext.refl d) (by simp[Rep])⟩
 ·cases e
def vB:nV X.K ia (λx y H Q=>lg (λi j=>.cC (decide (j<i))) x y H Q\/∃i j,x=.str i/\y=.str j/\Q (.cC (strLt j i)) H):=by
 intro O F H x y t gy fW Q d aL bt e k;unfold ia at e;split at e
 ·cases e
  rw[aL.int,bt.int];exact .inl ⟨_,_,rfl,rfl,k _ F H (Ext.refl d) (by simp[Rep])⟩
 ·cases e
  rw[aL.str,bt.str];exact .inr ⟨_,_,rfl,rfl,k _ F H (Ext.refl d) (by simp[Rep])⟩
 ·cases e
def Du:nV X.K lb (λx y H Q=>lg (λi j=>.cC (decide (j<=i))) x y H Q\/∃i j,x=.str i/\y=.str j/\Q (.cC (!strLt i j)) H):=by
 intro O F H x y t gy fW Q d aL bt e k;unfold lb at e;split at e
 ·cases e
  rw[aL.int,bt.int];exact .inl ⟨_,_,rfl,rfl,k _ F H (Ext.refl d) (by simp[Rep])⟩
 ·cases e
  rw[aL.str,bt.str];exact .inr ⟨_,_,rfl,rfl,k _ F H (Ext.refl d) (by simp[Rep])⟩
 ·cases e
def VH(au:dd X a f)(ab:dd X b g)(ax:dd X c h)(hm:lastMarks [.LtE,.LtE] [b,c]=false:=by with_unfolding_all rfl):cA X (.Compare a [.LtE,.LtE] [b,c] pos) (chain oLe oLe f g h):=
 dn (apG (asY.or td) (asY.or td) au ab ax hm) λσ H Q ⟨aD,aO,O,F,ε,t,r,e,k⟩=>by
 simp only[chain,b7] at e;obtain⟨x,ex,y,eV,z,lP,e⟩:=e;refine⟨aD,aO,O,F,ε,x,r,ex,λgy aY H1 aM aL=>⟨aD,aO,O,aY,ε,y,r.ext aM,eV,λfW dq bk bK bt=>?_⟩⟩;refine asW (X:=X) O dq bk x y z gy fW _ bK.cy (aL.ext bK) bt lP λv iL dj gz cL=>?_;split at e
 ·simp only[Rep] at cL;subst cL;simp only[b7] at e;obtain⟨w,jx,ep⟩:=e;refine⟨true,rfl,sr ⟨aD,aO,O,iL,ε,w,((r.ext aM).ext bK).ext gz,jx,λjJ il f3 i9 iz=>?_⟩⟩;exact asW (X:=X) O il f3 y w t fW jJ _ i9.cy ((bt.ext gz).ext i9) iz ep λv lK hZ uP lV=>k v lK hZ ((((aM.trans bK).trans gz).trans i9).trans uP) lV
 ·simp only[Rep] at cL;subst cL;cases e;exact⟨false,rfl,sq (k _ iL dj ((aM.trans bK).trans gz) (by simp[Rep]))⟩
 ·cases e
def ZR{j pos'}(au:dd X a f):cA X (.Compare a [.Is] [.Constant .none j pos'] pos) (dm hg f):=dn (YR (VO au)) λσ H Q ⟨aD,aO,O,F,ε,t,r,e,k⟩=>by
 simp only[dm,b7] at e;obtain⟨x,ex,e⟩:=e;cases e;refine⟨aD,aO,O,F,ε,x,r,ex,λv aY H1 aM aL=>k _ aY H1 aM ?_⟩;cases x with
|none=>rw[aL.fC];simp[Rep]
|bool b=>rw[aL.cC];simp[Rep]
|int b=>rw[aL.int];simp[Rep]
|str b=>rw[aL.str];simp[Rep]
|tuple b=>obtain⟨_,_,e,_⟩:=aL.tup;rw[e];simp[Rep]
|list b=>obtain⟨_,_,e,_⟩:=aL.lst;rw[e];simp[Rep]
|dict b=>rcases aL with aL|⟨_,_,_,z,_⟩;simp[Rep] at aL;cases z
def N5(au:dd X a f):cA X (.UnaryOp .USub a pos) (dm mH f):=dn (ZW arE au) λσ H Q ⟨aD,aO,O,F,ε,t,r,e,k⟩=>by
 simp only[dm,b7] at e;obtain⟨x,ex,e⟩:=e;unfold mH at e;split at e
 ·cases e
  exact⟨aD,aO,O,F,ε,_,r,ex,λv aY H1 aM aL=>⟨_,aL.int,k _ aY H1 aM (by simp[Rep])⟩⟩
 ·cases e
noncomputable def Yn(K:bb)(o:List T->Option T)(R:List V->aE->c2->Prop):Prop:=
 ∀(O F:asq->Prop) (H:aE) (ts:List T) (t:T) (vs:List V) (Q:c2),gE F H->Paired (f6 K O F H) ts vs->o ts=some t ->
  (∀v aK aj,Ext F H aK aj->Rep K aK aj t v->Q v aj)->R vs H Q
def vo{o:List T->Option T}{R:List V->aE->c2->Prop}(k9:Yn X.K o R):∀σ H Q,xo X.K (aX o aA) σ H Q->Lb R (RH X.K aA) σ H Q:=by
 rintro σ H Q ⟨aD,aO,O,F,ε,t,r,e,k⟩;simp only[aX,b7] at e;obtain⟨ts,bF,eU⟩:=e;exact⟨aD,aO,O,F,ε,ts,r,bF,λvs aY H1 aM q=>k9 O aY H1 ts t vs Q aM.cy q eU λv aK aj gz cL=>k v aK aj (aM.trans gz) cL⟩
def rt(hm:X.mg "len"=none)(au:o4 X (e::es) aA)(bf:ez X "len":=by rfl)(he:bo (e::es) X.env=(false,eval e X.env)::bo es X.env:=by rfl)(hpl:(dp pos (bo es X.env)).any (·.1)=false:=by rfl):
  cA X (.Call (.Name "len" p) (e::es) [] pos) (aX fo aA):=dn (yk (anf.or ane) bf hm PySem.boot_len au (he:=he) (hpl:=hpl)) (vo (by
 intro O F H ts t vs Q d q e k;unfold fo at e;split at e
 ·cases e
  cases q with
  |cons aQ a7=>
   cases a7
   obtain⟨a,ws,rfl,asr,aw⟩:=aQ.tup;exact .inl ⟨a,ws,rfl,.inr asr,k _ F H (Ext.refl d) (by simp[Rep,aw.length])⟩
 ·cases e
  cases q with
  |cons aQ a7=>
   cases a7
   obtain⟨a,ws,rfl,asr,aw⟩:=aQ.lst;exact .inl ⟨a,ws,rfl,.inl (.inl asr),k _ F H (Ext.refl d) (by simp[Rep,aw.length])⟩
 ·split at e
  next ar=>
   cases e
   cases q with
   |cons aQ a7=>
    cases a7
    exact .inr ⟨_,by rw[aQ.str],by rw[ko];exact ar,k _ F H (Ext.refl d) (by simp[Rep])⟩
  next=>cases e
 ·cases e))
def ZQ(hm:X.mg "max"=none)(au:o4 X (e::es) aA)(ax:X.calm=true:=by rfl)(bf:ez X "max":=by rfl)(he:bo (e::es) X.env=(false,eval e X.env)::bo es X.env:=by rfl)(hpl:(dp pos (bo es X.env)).any (·.1)=false:=by rfl):
  cA X (.Call (.Name "max" p) (e::es) [] pos) (aX sz aA):=dn (yk (ao0 ax) bf hm (by decide +kernel) au (he:=he) (hpl:=hpl)) (vo (by
 intro O F H ts t vs Q d q e k;unfold sz at e;split at e
 ·cases e
  cases q with
  |cons aQ a7=>
   cases a7 with
   |cons a7 cL=>
    cases cL
    exact⟨_,_,by rw[aQ.int,a7.int],k _ F H (Ext.refl d) (by simp[Rep])⟩
 ·cases e))
def kX(hm:X.mg "tuple"=none)(au:o4 X (e::es) aA)(bf:ez X "tuple":=by rfl)(he:bo (e::es) X.env=(false,eval e X.env)::bo es X.env:=by rfl)(hpl:(dp pos (bo es X.env)).any (·.1)=false:=by rfl):
  cA X (.Call (.Name "tuple" p) (e::es) [] pos) (aX e6 aA):=dn (C0 amW bf hm (by decide +kernel) au (he:=he) (hpl:=hpl)) (vo (by
 intro O F H ts t vs Q d q e k;unfold e6 at e;split at e
 ·cases e
  cases q with
  |cons aQ a7=>
   cases a7
   obtain⟨a,ws,rfl,asr,aw⟩:=aQ.tup;refine⟨a,ws,rfl,.inr ⟨asr,k _ F H (Ext.refl d) ?_⟩⟩;simp only[Rep];exact⟨a,ws,rfl,asr,aw⟩
 ·cases e
  cases q with
  |cons aQ a7=>
   cases a7
   obtain⟨a,ws,rfl,asr,aw⟩:=aQ.lst;refine⟨a,ws,rfl,.inl ⟨.inl asr,λl aB=>?_⟩⟩;have aM:=Ext.laid (o:=.tup ws) d aB;refine k _ F _ aM ?_;simp only[Rep];exact⟨l,ws,rfl,cX.of ew,aw.ext aM⟩
 ·cases e))
def tF(h:dd X e f)(he:∀whole,isTrue e X.env whole=(do let v <- whole;standAt e.pos;holding [v] (truthy v)):=by intro _;rfl):ju X e (bB f):=tK (YE h he) λσ H Q ⟨aD,aO,O,F,ε,b,r,e,k⟩=>by
 simp only[bB,b7] at e;obtain⟨t,bF,e⟩:=e;split at e
 ·cases e
  exact⟨aD,aO,O,F,ε,_,r,bF,λv aY H1 aM aL=>⟨_,aL.cC,k aY H1 aM⟩⟩
 ·cases e
def N2{j pos'}(au:dd X a f):ju X (.Compare a [.Is] [.Constant .none j pos'] pos) (bB (dm hg f)):=tK (VJ (VO au)) λσ H Q ⟨aD,aO,O,F,ε,t,r,e,k⟩=>by
 simp only[bB,dm,hg,b7] at e;obtain⟨_,⟨x,ex,aG⟩,e⟩:=e;cases aG;cases e;refine⟨aD,aO,O,F,ε,x,r,ex,λv aY H1 aM aL=>⟨_,?_,k aY H1 aM⟩⟩;cases x with
|none=>rw[aL.fC];simp
|bool b=>rw[aL.cC];simp
|int b=>rw[aL.int];simp
|str b=>rw[aL.str];simp
|tuple b=>obtain⟨_,_,e,_⟩:=aL.tup;rw[e];simp
|list b=>obtain⟨_,_,e,_⟩:=aL.lst;rw[e];simp
|dict b=>rcases aL with aL|⟨_,_,_,z,_⟩;simp[Rep] at aL;cases z
def arI{j pos'}(au:dd X a f):ju X (.Compare a [.IsNot] [.Constant .none j pos'] pos) (bB (dm iI f)):=tK (VJ (aq0 au)) λσ H Q ⟨aD,aO,O,F,ε,t,r,e,k⟩=>by
 simp only[bB,dm,iI,b7] at e;obtain⟨_,⟨x,ex,aG⟩,e⟩:=e;cases aG;cases e;refine⟨aD,aO,O,F,ε,x,r,ex,λv aY H1 aM aL=>⟨_,?_,k aY H1 aM⟩⟩;cases x with
|none=>rw[aL.fC];simp
|bool b=>rw[aL.cC];simp
|int b=>rw[aL.int];simp
|str b=>rw[aL.str];simp
|tuple b=>obtain⟨_,_,e,_⟩:=aL.tup;rw[e];simp
|list b=>obtain⟨_,_,e,_⟩:=aL.lst;rw[e];simp
|dict b=>rcases aL with aL|⟨_,_,_,z,_⟩;simp[Rep] at aL;cases z
def VA(h:dd X e f)(he:∀whole,isTrue e X.env whole=(do let v <- whole;standAt e.pos;holding [v] (truthy v)):=by intro _;rfl):ju X e (ih f):=tK (apz h he) λσ H Q ⟨aD,aO,O,F,ε,b,r,e,k⟩=>by
 simp only[ih,b7] at e;obtain⟨t,bF,e⟩:=e;have emp:∀{ts:List T} {vs:List V} {aY:asq->Prop} {H1:aE},bz X.K aY H1 ts vs->ts.isEmpty=vs.isEmpty:=λ{ts vs aY H1} q=>by
  have:=q.length;cases ts <;> cases vs <;> simp_all
 split at e
 ·cases e
  refine⟨aD,aO,O,F,ε,_,r,bF,λv aY H1 aM aL=>?_⟩
  obtain⟨a,vs,rfl,asr,aw⟩:=aL.lst;exact⟨_,.inl ⟨vs,.inl asr,by rw[emp aw]⟩,k aY H1 aM⟩
 ·cases e
  refine⟨aD,aO,O,F,ε,_,r,bF,λv aY H1 aM aL=>?_⟩
  obtain⟨a,vs,rfl,asr,aw⟩:=aL.tup;exact⟨_,.inr (.inl ⟨vs,asr,by rw[emp aw]⟩),k aY H1 aM⟩
 ·cases e
def tL(h:ju X e e2):ju X (.UnaryOp .Not e pos) (fU e2):=tK (YF h) λσ H Q ⟨aD,aO,O,F,ε,b,r,e,k⟩=>by
 simp only[fU,d7] at e;obtain⟨c,ha,rfl⟩:=e;exact⟨aD,aO,O,F,ε,c,r,ha,λaY H1 aM=>k aY H1 aM⟩
def vw(h:ju X e e2):rP X (.BoolOp .And [e] pos) e2:=aqK h
def p_(h:ju X e e2):rP X (.BoolOp .Or [e] pos) e2:=YA h
def w_and(h:ju X a e2)(ai:rP X (.BoolOp .And (b::es) pos) gt):rP X (.BoolOp .And (a::b::es) pos) (f_ e2 gt):=Wc (YB h ai) λσ H Q ⟨aD,aO,O,F,ε,b,r,e,k⟩=>by
 simp only[f_,b7] at e;obtain⟨c,ha,e⟩:=e;refine⟨aD,aO,O,F,ε,c,r,ha,λaY H1 aM=>?_⟩;cases c with
|true=>exact sr ⟨aD,aO,O,aY,ε,b,r.ext aM,by simpa using e,λdq bk bK=>k dq bk (aM.trans bK)⟩
|false=>
  have:b=false:=by simpa using e.symm
  subst this;exact sq (k aY H1 aM)
def w_or(h:ju X a e2)(ai:rP X (.BoolOp .Or (b::es) pos) gt):rP X (.BoolOp .Or (a::b::es) pos) (eM e2 gt):=Wc (ZT h ai) λσ H Q ⟨aD,aO,O,F,ε,b,r,e,k⟩=>by
 simp only[eM,b7] at e;obtain⟨c,ha,e⟩:=e;refine⟨aD,aO,O,F,ε,c,r,ha,λaY H1 aM=>?_⟩;cases c with
|true=>
  have:b=true:=by simpa using e.symm
  subst this;exact sr (k aY H1 aM)
|false=>exact sq ⟨aD,aO,O,aY,ε,b,r.ext aM,by simpa using e,λdq bk bK=>k dq bk (aM.trans bK)⟩
def kN(h:rP X e e2):ju X e e2:=h.pt
end
end
section
variable [cV]
noncomputable def spT(K:bb)(n:Nat)(d:List T->Option T):ks:=λvs H Q _=>vs.length=n/\∃F ts t,gE F H/\bz K F H ts vs/\d ts=some t/\∀v aK aj,Ext F H aK aj->Rep K aK aj t v->Q v aj
section
variable {X:bu}{k n:Nat}{cp:asq}{fd:fX}{av:List Str}{d:List T->Option T}{x:Str}{p pos:Pos}{e:bx}{es:List bx}{aA:List bl}
def Yz(F:eY X.prog X.w X.K X.mg X.base eX k cp fd av (spT X.K n d))(aw:dD k X.A)(bf:ez X x)(hm:X.mg x=some (.ref cp))(aR:mQ X.K (.ref cp)=true)(ab:Binds X.K fd av [])
  (au:lL X (e::es) aA) (a9:aA.length=n:=by rfl) (gY:(x==("__debug__":Str))=false:=by decide) (he:bo (e::es) X.env=(false,eval e X.env)::bo es X.env:=by rfl) (hpl:(dp pos (bo es X.env)).any (·.1)=false:=by rfl):
  cA X (.Call (.Name x p) (e::es) [] pos) (aX d aA):=dn (yr F aw bf hm aR ab .nil nS au gY he hpl) λσ H Q ⟨aD,aO,O,F,ε,t,r,e,k⟩=>by
 simp only[aX,b7] at e;obtain⟨ts,bF,e1⟩:=e;have aB:∀(fB:List bl) (us:List T),args fB ε=some us->us.length=fB.length:=by
  intro fB
  induction fB with
  |nil=>intro us e;cases e;rfl
  |cons g fB bY=>
   intro us e;simp only[args,b7,d7] at e;obtain⟨t,_,vs,ev,rfl⟩:=e;simp[bY vs ev]
 refine⟨aD,aO,O,F,ε,ts,r,bF,λvs aY H1 aM q=>⟨?_,aY,ts,t,aM.cy,by simpa using q,e1,λv aK aj bK a7=>k v aK aj (aM.trans bK) a7⟩⟩
 rw[jN,<- q.length,aB aA ts bF,a9]
end
section
variable {P:cJ}{w:cB}{K:bb}{mg:Str->Option ak}{base:bX}
def S7{F:asq->Prop}{H:aE}{ts:List T}{vs:List V}{N:List Str}(cy:gE F H)(q:bz K F H ts vs)(n:Nat):
  cP K F ⟨H,0⟩ (λa=>H a=none) F H ((ts.map λt=>some (.ae t))++dS n none) (vs.map some++dS n none):=by
 have ae:∀(i:Nat) (s:aI),((ts.map λt=>some (aI.ae t))++dS n none)[i]?=some (some s)->∃t,s=.ae t/\ts[i]?=some t:=by
  intro i s e;by_cases hi:i<ts.length
  ·rw[uT (by simpa using hi),kQ] at e;rw[iB hi] at e ⊢;simp at e;exact⟨_,e.symm,rfl⟩
  ·rw[uS (by simpa using hi),List.getElem?_replicate] at e;split at e <;> cases e
 refine⟨by simp[q.length],λi s e=>?_,λi j s u v w j5 aG aS dK=>?_,Ext.refl cy,λ_ h=>h,λ_ h=>h⟩
 ·obtain⟨t,rfl,aZ⟩:=ae i s e;obtain⟨v,bq,b0⟩:=q.get aZ;refine⟨v,?_,b0⟩;rw[uT (by have:=(hj.mp bq).1;simpa using this),kQ,bq];rfl
 ·obtain⟨t,rfl,_⟩:=ae i s aG;cases dK
def NV{x qual:Str}{st:Stmt}{f:asq}{fd:fX}{N av:List Str}{k:Nat}{b:bc}(F:cb K x qual st f fd)(S:cw N av (bQ st))
  (ab:∀(cR:ak) (A:c3) (outer:List Env) (s:aP) (H:aE) (E:gH),dD k (A.deeper (envOfC qual (bQ st) s.heap.objs.size f cR)) ->
   ip (je eX P w K mg base N qual (bQ st) f cR A outer s H E).j9 (i' st) b):
  eY P w K mg base eX (k+1) f fd av (spT K av.length (cT b N.length)):=by
 refine F.ok S (λvs H Q E h=>h.1) λcR A outer s H vs Q E aw h=>⟨_,ab cR A outer s H E aw,?_⟩
 obtain⟨aB,F,ts,t,cy,q,e,mC⟩:=h;simp only[cT,b7] at e;obtain⟨o,eU,e⟩:=e;refine⟨F,⟨H,0⟩,λa=>H a=none,F,_,o,?_,eU,?_⟩
 ·have:=S7 (N:=N) cy q (N.length - ts.length);unfold bG.start;rw[q.length] at this ⊢;exact this
 ·cases o with
  |d9 t'=>
   cases e
   exact λv aK aj x q=>mC v aK aj x q
  |bP ε'=>
   cases e
   exact λcf aK aj _ r=>mC _ aK aj r.ent (by simp[Rep])
  |ht _=>cases e
  |cH _=>cases e
  |ig _ _=>cases e
  |ka _=>cases e
end
end
section
variable [cV]
noncomputable def j2(env:Env):List (Str×l9)->List (Str×asq)->List (Str×asq)
| [],cs=>cs
|x::r,cs=>if x.2==.free then j2 env r ((x.1,(env.cells.lookup x.1).getD 0)::cs) else j2 env r cs
def amV{scope:Scope}{env:Env}(h:∀x∈scope.names,x.2=.free->∃c,env.cells.lookup x.1=some c):closureFor scope env=pure (j2 env scope.names []):=by
 have go:∀(l:List (Str×l9)) (cs:List (Str×asq)),(∀x∈l,x.2=.free->∃c,env.cells.lookup x.1=some c) ->
   (forIn l cs (λx r=>(if (x.2==NameKind.free)=true then do let a <- cellOf env x.1;pure (ForInStep.yield ((x.1,a)::r)) else pure (ForInStep.yield r)):_->_->Sem (ForInStep (List (Str×asq)))):Sem (List (Str×asq)))=pure (j2 env l cs):=by
  intro l
  induction l with
  |nil=>intro cs _;rfl
  |cons x r bY=>
   intro cs aB;rw[List.forIn_cons];have aw:=λy bw=>aB y (di _ bw);by_cases k:x.2=.free
   ·obtain⟨c,ax⟩:=aB x fY k;have aG:(x.2==NameKind.free)=true:=by simp[k]
    simp only[aG,if_true,cellOf,ax,j2,Option.getD_some];exact bY _ aw
   ·have aG:(x.2==NameKind.free)=false:=by simpa using k
    simp only[aG,l1,if_false,j2];exact bY _ aw
 have:=go scope.names [] h;simp only[closureFor];exact congrArg (λm=>m >>= λcs=>pure cs) this
theorem C3{env:Env}:∀{l:List (Str×l9)} {cs:List (Str×asq)},(∀x∈l,x.2=.free->∃c,env.cells.lookup x.1=some c)->(∀x c,cs.lookup x=some c->env.cells.lookup x=some c)->∀x c,(j2 env l cs).lookup x=some c->env.cells.lookup x=some c
| [],cs,_,h,x,c,e=>h x c e
|y::r,cs,aB,h,x,c,e=>by
  unfold j2 at e;have aw:=λz ar=>aB z (di _ ar);split at e
  next k=>
   refine C3 aw (λx c e=>?_) x c e
   rw[mR] at e;split at e
   next ab=>
    obtain⟨el,ax⟩:=aB y fY (by simpa using k);have:x=y.1:=by simpa using ab
    subst this;rw[ax] at e ⊢;simpa using e
   next=>exact h x c e
  next=>exact C3 aw h x c e
theorem Dd{env:Env}:∀{l:List (Str×l9)} {cs:List (Str×asq)} {x:Str},((∃y∈l,y.2=.free/\y.1=x)\/∃c,cs.lookup x=some c)->∃c,(j2 env l cs).lookup x=some c
| [],cs,x,h=>by
  rcases h with ⟨y,bw,_⟩|h
  ·cases bw
  ·exact h
|y::r,cs,x,h=>by
  unfold j2;split
  next k=>
   refine Dd ?_
   rcases h with ⟨z,ar,ji,e⟩|⟨c,h⟩
   ·rcases asu.mp ar with rfl|ar
    ·refine .inr ?_
     subst e;rw[mR];simp
    ·exact .inl ⟨z,ar,ji,e⟩
   ·refine .inr ?_
    rw[mR];split
    ·exact⟨_,rfl⟩
    ·exact⟨c,h⟩
  next k=>
   refine Dd ?_
   rcases h with ⟨z,ar,ji,e⟩|h
   ·rcases asu.mp ar with rfl|ar
    ·exact absurd (by simpa using ji) k
    ·exact .inl ⟨z,ar,ji,e⟩
   ·exact .inr h
noncomputable def ja(X:bu)(v9:List Str)(scope:Scope)(cl:List (Str×asq))(C:asq)(dI:aP)(aO:aE)(ct:List asq)(er:List (asq×Obj)):bu where
 prog:=X.prog
 w:=X.w
 K:=X.K
 mg:=X.mg
 base:=X.base
 A:=X.A
 N:=v9
 dI:=dI
 aO:=aO
 env:=compEnvC scope cl C X.env
 outer:=X.stack
 stack:=X.stack
 ex:=ct
 fn:=λ_=>false
 calm:=X.calm
 er:=er
 dR:=λ_ _=>False
noncomputable def rO(X:bu)(ifs:List bx)(cc:e7):Prop:=∀(ah:List (asq×Obj)) (s:aP) (σ:bG.St) (H:aE) (Q:Bool->aE->Prop),bG.Inv X ah σ H s->Bi X.K cc σ H Q ->
 bD (bV X.prog X.w) X.A (forIn ifs true λc r=>if r=true then do let ok <- isTrue c X.env (eval c X.env);pure (ForInStep.yield ok) else pure (ForInStep.yield r)) (za X ah σ Q) X.dR s
def lz{X:bu}:rO X [] (dy true):=λah s σ H Q I ⟨aD,aO,O,F,ε,b,r,e,k⟩=>by
 cases e
 exact wpAny_tests_nil ⟨H,I,k F H (Ext.refl r.cy)⟩
def yz{X:bu}{c:bx}{cc:e7}(h:ju X c cc):rO X [c] cc:=λah s σ H Q I q=>wpAny_tests_one (h ah s σ H Q I q)
section
variable {prog:cJ}{w:cB}{A:c3}{R:Result->aP->Prop}{s:aP}
def ana{elt target iter:bx}{ifs:List bx}{scope:Scope}{pos:Pos}{it acc:ak}{env:Env}(I:Nat->aP->Prop)
  (turn:∀n s,I n s->bD (bV prog w) A (pyNext it) (λr dk=>match r with
   |none=>R (.ok .next) dk
   |some v=>bD (bV prog w) A (letOwnedTupleGo target it v) (λ_ RE=>bD (bV prog w) A (assign target env v) (λ_ mL=>
     bD (bV prog w) A (forIn ifs true λc r=>if r=true then do let ok <- isTrue c env (eval c env);pure (ForInStep.yield ok) else pure (ForInStep.yield r)) (λok uH=>
      if ok=true then bD (bV prog w) A (eval elt env) (λx RF=>
       bD (bV prog w) A (call (.builtin "list.append") [acc,x]) (λ_ RG=>∃m,m<n/\I m RG) (λ_ _=>False) RF) (λ_ _=>False) uH
      else ∃m,m<n/\I m uH) (λ_ _=>False) mL) (λ_ _=>False) RE) (λ_ _=>False) dk) (λ_ _=>False) s)
  (n:Nat) (h:I n s):codeAny (bV prog w) A (.compLoop (.ListComp elt [⟨target,iter,ifs,0⟩] scope pos) 0 it acc env) R s:=by
 refine codeAny_loop rfl I (λn s qx=>?_) n h
 show bD _ A ((compTurn (.ListComp elt [⟨target,iter,ifs,0⟩] scope pos) 0 it acc env).onRaise (λx=>do noteFrame x env;theTreesLotGoes x)) _ _ s
 refine wpAny_noted ?_
 rw[compTurn_list];refine a3 (wpAny_standAt (a3 (hT (turn n s qx) (λr dk gM=>?_) λ_ _ h'=>h'.elim)));cases r with
|none=>exact cG gM
|some v=>
  refine a3 (hT gM (λ_ RE aeo=>?_) λ_ _ h'=>h'.elim)
  refine a3 (hT aeo (λ_ mL jE=>a3 (hT jE (λok uH h9=>?_) λ_ _ h'=>h'.elim)) λ_ _ h'=>h'.elim)
  cases ok with
  |false=>exact cG ⟨rfl,h9⟩
  |true=>
   exact a3 (a3 (hT h9 (λx RF wQ=>a3 (hT wQ (λ_ RG iP=>cG (cG ⟨rfl,iP⟩)) λ_ _ h'=>h'.elim)) λ_ _ h'=>h'.elim))
end
end
section
variable [cV]
theorem R_{env:Env}{k:l9}:∀{names:List (Str×l9)} {x:Str},names.lookup x=some k->∃ji,(names.map λ(n,k)=>if (k==NameKind.free && env.scope.kind==.function && env.kindOf n==some .cell) then (n,NameKind.cell) else (n,k)).lookup x=some ji/\(ji=k\/(k=.free/\ji=.cell))
  | [],x,h=>by simp at h
  | (n,j)::r,x,h=>by
    have bY:=@R_ env k r x;show ∃ji,jM x ((if (j==NameKind.free && env.scope.kind==.function && env.kindOf n==some .cell)=true then (n,NameKind.cell) else (n,j))::_)=some ji/\_;cases hx:x==n with
    |true=>
      simp only[mR,hx] at h;cases h;by_cases ax:(k==NameKind.free && env.scope.kind==.function && env.kindOf n==some .cell)=true
      · rw[if_pos ax]
        refine⟨.cell,by simp[mR,hx],.inr ⟨?_,rfl⟩⟩
        simp only[fi] at ax;simpa using ax.1.1
      · rw[if_neg ax]
        exact⟨k,by simp[mR,hx],.inl rfl⟩
    |false=>
      simp only[mR,hx] at h;obtain⟨ji,af,ai⟩:=bY h;refine⟨ji,?_,ai⟩;by_cases ax:(j==NameKind.free && env.scope.kind==.function && env.kindOf n==some .cell)=true
      · rw[if_pos ax];simp only[mR,hx];exact af
      · rw[if_neg ax];simp only[mR,hx];exact af
def mem_lookup{names:List (Str×l9)}{x:Str}{k:l9}(h:names.lookup x=some k):∃y∈names,y.2=k/\y.1=x:=by
 induction names with
|nil=>simp at h
|cons y r bY=>
  rw[mR] at h;split at h
  next ab=>
   cases h
   exact⟨y,fY,rfl,by simpa using (beq_iff_eq.mp ab).symm⟩
  next=>
   obtain⟨z,ar,af,ai⟩:=bY h;exact⟨z,di _ ar,af,ai⟩
def am6{scope:Scope}{env:Env}(ui:∀y∈scope.names,y.2≠.cell){x:Str}(h:(relabel scope env).names.lookup x=some .cell\/(relabel scope env).names.lookup x=some .free):∃y∈scope.names,y.2=.free/\y.1=x:=by
 have go:∀{k:l9},(relabel scope env).names.lookup x=some k->(k=.cell\/k=.free)->∃y∈scope.names,y.2=.free/\y.1=x:=λ{k} e aR=>by
  obtain⟨y,bw,af,ai⟩:=mem_lookup e;obtain⟨⟨n,j⟩,ar,aS⟩:=cN.mp (show y∈scope.names.map _ from bw);by_cases ax:(j==NameKind.free && env.scope.kind==.function && env.kindOf n==some .cell)=true
  ·have d5:(n,NameKind.cell)=y:=by
    have gU:(if (j==NameKind.free && env.scope.kind==.function && env.kindOf n==some .cell)=true then (n,NameKind.cell) else (n,j))=y:=aS
    rwa [if_pos ax] at gU
   subst d5;simp only[fi] at ax;exact⟨(n,j),ar,by simpa using ax.1.1,ai⟩
  ·have d5:(n,j)=y:=by
    have gU:(if (j==NameKind.free && env.scope.kind==.function && env.kindOf n==some .cell)=true then (n,NameKind.cell) else (n,j))=y:=aS
    rwa [if_neg ax] at gU
   subst d5;rcases aR with rfl|rfl
   ·exact absurd af (ui _ ar)
   ·exact⟨(n,j),ar,af,ai⟩
 rcases h with h|h
 ·exact go h (.inl rfl)
 ·exact go h (.inr rfl)
def cP.other{K:bb}{aD O F:asq->Prop}{E:hq}{H:aE}{ε:Ev}{σ:bG.St}{a:asq}{xs ys:List V}(r:cP K aD E O F H ε σ)(a9:¬F a)(aH:¬O a)(h0:E.h a=none)(au:H a=some (.lst xs)):
  ec K F H F (upd H a (.lst ys))/\cP K aD E O F (upd H a (.lst ys)) ε σ:=by
 have hm:m6 (.lst xs):=.inl ⟨_,rfl⟩;have aC:ec K F H F (upd H a (.lst ys)):=Va a9 au hm;have keep:∀(u:aI) (w:V),ea K E O F H u w->ea K E O F (upd H a (.lst ys)) u w/\dA (upd H a (.lst ys)) u w=dA H u w:=by
  intro u w dH;refine dH.keep aC (λb ab=>cZ ?_) (λ_ _ f=>f) λ_ _ o=>o;rintro rfl;cases qN:u.iQ with
  |true=>exact aH ((dH.held ab).2.1 qN)
  |false=>exact (dH.held ab).2.2 qN h0
 refine⟨aC,⟨r.len,λj u e=>?_,λi j s u v w j5 aG aS dK fH af ai=>?_,UL r.ent h0 a9 au hm,r.o0,λb e=>r.fr b ?_⟩⟩
 ·obtain⟨v,af,ai⟩:=r.val j u e;exact⟨v,af,(keep u v ai).1⟩
 ·obtain⟨kc,en,a6⟩:=r.val i s aG;obtain⟨fg,hb,b'⟩:=r.val j u aS;rw[af] at en;rw[ai] at hb;cases en;cases hb;rw[(keep s v a6).2,(keep u w b').2];exact r.ne i j s u v w j5 aG aS dK fH af ai
 ·by_cases nb:b=a
  ·subst nb;rw[ew] at e;cases e
  ·rwa [cZ nb] at e
def DP(n:Nat)(caps:List Nat)(σ:bG.St):bG.St:=dS n none++caps.map λi=>(σ[i]?).join
def join_some{α:Type}{o:Option (Option α)}{x:α}(h:o.join=some x):o=some (some x):=by
 cases o with
|none=>cases h
|some o=>exact congrArg some h
def vv{α:Type}{n:Nat}{caps:List Nat}{l:List (Option α)}{i:Nat}{x:α}(h:(dS n none++caps.map λi=>(l[i]?).join)[i]?=some (some x)):∃j,n<=i/\caps[i - n]?=some j/\l[j]?=some (some x):=by
 by_cases hi:i<n
 ·rw[uT (by simpa using hi),List.getElem?_replicate] at h;rw[if_pos hi] at h;cases h
 ·rw[uS (by simpa using hi),List.length_replicate,kQ] at h;cases e:caps[i - n]? with
  |none=>
   rw[e] at h;cases h
  |some j=>
   rw[e] at h;exact⟨j,by omega,rfl,join_some (fq h)⟩
def arp{α:Type}{n:Nat}{caps:List Nat}{l:List (Option α)}{i j:Nat}{x:α}(hi:n<=i)(ax:caps[i - n]?=some j)(h:l[j]?=some (some x)):(dS n none++caps.map λi=>(l[i]?).join)[i]?=some (some x):=by
 rw[uS (by simpa using hi),List.length_replicate,kQ,ax];simp[h]
def cP.Gm{K:bb}{aD O F:asq->Prop}{E:hq}{H:aE}{ε:Ev}{σ:bG.St}{D:asq}(r:cP K aD E O F H ε σ)(n:Nat){caps:List Nat}(a_:caps.Nodup)(kC:H D=none):
  cP K aD E (λa=>O a/\a≠D) F (upd H D (.lst [])) (iF n caps ε) (DP n caps σ):=by
 have x:=Ext.laid (o:=.lst []) r.cy kC;have keep:∀(u:aI) (w:V),ea K E O F H u w->ea K E (λa=>O a/\a≠D) F (upd H D (.lst [])) u w/\dA (upd H D (.lst [])) u w=dA H u w:=by
  intro u w dH;have nb:∀b∈dA H u w,b≠D:=λb ab z=>by
   obtain⟨o,e,_⟩:=dH.at ab;rw[z,kC] at e;cases e
  exact dH.keep x.aC (λb ab=>cZ (nb b ab)) (λ_ _ f=>f) λb ab o=>⟨o,nb b ab⟩
 refine⟨by simp[iF,DP],λi s e=>?_,λi j s u v w j5 aG aS dK fH af ai=>?_,r.ent.trans x,λa h=>r.o0 a h.1,λa h=>?_⟩
 ·obtain⟨j,a9,ax,bN⟩:=vv e;obtain⟨v,af,ai⟩:=r.val j s bN;exact⟨v,arp a9 ax af,(keep s v ai).1⟩
 ·obtain⟨HG,hi,ci,asE⟩:=vv aG;obtain⟨qG,bJ,P8,gT⟩:=vv aS;obtain⟨bW,_,P7,en⟩:=vv (l:=σ) af;obtain⟨QZ,_,P9,hb⟩:=vv (l:=σ) ai;rw[ci] at P7;rw[P8] at P9;cases P7;cases P9;obtain⟨kc,aQ,a6⟩:=r.val HG s asE;obtain⟨fg,a7,b'⟩:=r.val qG u gT;rw[en] at aQ;rw[hb] at a7;cases aQ;cases a7;rw[(keep s v a6).2,(keep u w b').2];refine r.ne HG qG s u v w (λz=>?_) asE gT dK fH en hb;subst z;obtain⟨bZ,iV⟩:=hj.mp ci;obtain⟨b1,mD⟩:=hj.mp P8;have ne:i - n≠j - n:=by omega
  rcases Nat.lt_or_gt_of_ne ne with q|q
  ·exact (List.pairwise_iff_getElem.mp a_ _ _ bZ b1 q) (iV.trans mD.symm)
  ·exact (List.pairwise_iff_getElem.mp a_ _ _ b1 bZ q) (mD.trans iV.symm)
 ·have a_:a≠D:=by
   rintro rfl;rw[ew] at h;cases h
  rw[cZ a_] at h;exact⟨r.fr a h,a_⟩
end
section
variable [cV]
structure rF(X:bu)(scope:Scope)(own:List Str)(caps:List (Nat×Str)):Prop where
 kind:scope.kind=.function
 names:∀y∈scope.names,y.2=.local->scope.names.lookup y.1=some .local
 cell:∀y∈scope.names,y.2≠.cell
 free:∀y∈scope.names,y.2=.free->X.env.kindOf y.1=some .cell\/X.env.kindOf y.1=some .free
 Gm:∀p∈caps,X.N[p.1]?=some p.2/\scope.names.lookup p.2=some .free
 a_:(caps.map (·.1)).Nodup
 calm:X.calm=true
section
variable {X:bu}{da iter elt:bx}{ifs:List bx}{scope:Scope}{it:jX}{jy:iM}{cc:e7}{fR:bl}{pos:Pos}{own:List Str}{caps:List (Nat×Str)}
def Vj{ah:List (asq×Obj)}{σ:bG.St}{bk:aE}{s2:aP}{ct:List asq}(S:rF X scope own caps)(cx:bG.Inv X ah σ bk s2)(f2:∀b∈ct,mi X ah bk b)(jg:∀b∈ct,b<s2.heap.objs.size)(v9:List Str):
  (ja X v9 scope (j2 X.env scope.names []) (s2.heap.push {cls:=.type "list",data:=.seq ([]:List ak).toArray}).objs.size {s2 with heap:=s2.heap.push {cls:=.type "list",data:=.seq ([]:List ak).toArray} } (upd bk s2.heap.objs.size (.lst [])) ct (X.er++ah)).Ok:=by
 have se:∀x∈scope.names,x.2=.free->∃c,X.env.cells.lookup x.1=some c:=λx hx aR=>cx.ok.has x.1 (S.free x hx aR);have rZ:∀x c,(j2 X.env scope.names []).lookup x=some c->X.env.cells.lookup x=some c:=C3 se (λx c e=>by simp at e);have dW:=cx.sx (its:=[]) (ys:=[]) (t':=s2.toks) .nil (asH _);have ll:(s2.heap.push {cls:=.type "list",data:=.seq ([]:List ak).toArray}).objs.size=s2.heap.objs.size+1:=kR ..;refine⟨cx.ok.mod,S.kind,cx.ok.glob,cx.ok.blt,dT _,λx y c aG aS=>cx.ok.inj x y c (rZ x c aG) (rZ y c aS),λx hx=>?_,λx c h=>(by cases h),cx.ok.hd,cx.ok.frames,.inl rfl,λb ab=>⟨?_,λx c e=>(f2 b ab).2.2.2.2.1 x c (rZ x c e)⟩,λb o e=>?_,?_,λb o e ab=>?_,λb ab hf=>?_,dW.stack,dW.RB⟩
 ·exact Dd (.inl (am6 S.cell hx))
 ·show b≠(s2.heap.push {cls:=.type "list",data:=.seq ([]:List ak).toArray}).objs.size
  have h:=jg b ab;rw[ll];exact fh (Nat.lt_succ_of_lt h)
 ·obtain⟨af,ai⟩:=dW.bs b o e;exact⟨af,ai⟩
 ·have af:=mS cx.ok.asP cx.ll;show X.base.objs.size<=(s2.heap.push {cls:=.type "list",data:=.seq ([]:List ak).toArray}).objs.size;omega
 ·rcases (f2 b ab).2.2.2.1 with q|q
  ·exact cx.ok.w6 b o e q
  ·exact absurd (jK (c0 (cx.ok.bs b o e).1) q) (Nat.lt_irrefl _)
 ·rcases asu.mp (cx.Bf b hf) with q|q
  ·exact (f2 b ab).2.1 q
  ·exact (f2 b ab).2.2.1 q
def aqc{ah:List (asq×Obj)}{σ:bG.St}{bk:aE}{s2:aP}{ct:List asq}(S:rF X scope own caps)(cx:bG.Inv X ah σ bk s2)(f2:∀b∈ct,mi X ah bk b)(jg:∀b∈ct,b<s2.heap.objs.size){gM:bX}{m:Str->Option ak}{tk:Nat}
  (z_:gM.Ns (s2.heap.push {cls:=.type "list",data:=.seq ([]:List ak).toArray}).objs.size m) (keep:∀b u,(s2.heap.push {cls:=.type "list",data:=.seq ([]:List ak).toArray}).get? b=some u->gM.get? b=some u):
  bG.Inv (ja X (own++caps.map (·.2)) scope (j2 X.env scope.names []) (s2.heap.push {cls:=.type "list",data:=.seq ([]:List ak).toArray}).objs.size {s2 with heap:=s2.heap.push {cls:=.type "list",data:=.seq ([]:List ak).toArray} } (upd bk s2.heap.objs.size (.lst [])) ct (X.er++ah)) []
   (DP own.length (caps.map (·.1)) σ) (upd bk s2.heap.objs.size (.lst [])) {s2 with heap:=gM,toks:=tk}:=by
 have se:∀x∈scope.names,x.2=.free->∃c,X.env.cells.lookup x.1=some c:=λx hx aR=>cx.ok.has x.1 (S.free x hx aR);have rZ:∀x c,(j2 X.env scope.names []).lookup x=some c->X.env.cells.lookup x=some c:=C3 se (λx c e=>by simp at e);have dW:=cx.sx (its:=[]) (ys:=[]) (t':=s2.toks) .nil (asH _);refine⟨Vj S cx f2 jg _,rfl,cx.bare,hs.kept keep,⟨m,z_,λi x v af ai bq=>?_⟩,λx c e=>?_,?_,λx c e=>dW.n8 x c (rZ x c e),λp aF=>?_,dW.ck.kept keep,by simp[DP,ja]⟩
 ·obtain⟨j,a9,ax,bJ⟩:=vv (l:=σ) ai;have hx:(caps.map (·.2))[i - own.length]?=some x:=by
   have:(own++caps.map (·.2))[i]?=some x:=af
   rwa [uS a9] at this
  rw[kQ] at ax hx;cases ep:caps[i - own.length]? with
  |none=>rw[ep] at ax;cases ax
  |some p=>
   rw[ep] at ax hx;cases ax;cases hx;obtain⟨eL,hf⟩:=S.Gm p (uV ep);obtain⟨y,bw,ei,dB⟩:=mem_lookup hf;have aR:=S.free y bw ei;rw[dB] at aR;obtain⟨qJ,ase,QB⟩:=dW.loc;have al2:rR X.env.scope p.2:=by
    rcases aR with aR|aR
    ·exact .inr (.inl aR)
    ·exact .inr (.inr aR)
   obtain⟨u,dH,lu⟩:=QB p.1 p.2 v eL bJ al2;refine⟨u,dH,.inr ⟨?_,?_⟩⟩
   ·obtain⟨ji,aG,aS⟩:=R_ (env:=X.env) hf;rcases aS with rfl|⟨_,rfl⟩
    ·exact .inr aG
    ·exact .inl aG
   ·rcases lu with ⟨q,_⟩|⟨_,c,ax,ui⟩
    ·rcases aR with aR|aR
     ·rw[aR] at q;cases q
     ·rw[aR] at q;cases q
    ·obtain⟨el,dg⟩:=Dd (env:=X.env) (l:=scope.names) (cs:=[]) (x:=p.2) (.inl ⟨y,bw,ei,dB⟩);have:=rZ _ _ dg;rw[ax] at this;cases this;obtain⟨jF,aH,hd⟩:=ui;exact⟨c,dg,jF,keep _ _ aH,hd⟩
 ·obtain⟨v,jF,aH,hd⟩:=dW.cell x c (rZ x c e);exact⟨v,jF,keep _ _ aH,hd⟩
 ·exact dW.ck.fresh (dT _)
 ·have nu:p∈X.er++ah:=by simpa [ja] using aF
  obtain⟨af,ai,bE,c',hA⟩:=dW.pin p nu;refine⟨keep _ _ af,ai,fh (c0 af),λz=>?_,hA⟩;rcases asu.mp (cx.Bf p.1 z) with q|q
  ·exact bE q
  ·exact c' q
def aob{ah:List (asq×Obj)}{σ cf:bG.St}{bk aj:aE}{s2 s':aP}{ct:List asq}{v9:List Str}(cx:bG.Inv X ah σ bk s2)(f2:∀b∈ct,mi X ah bk b)
  (J:bG.Inv (ja X v9 scope (j2 X.env scope.names []) (s2.heap.push {cls:=.type "list",data:=.seq ([]:List ak).toArray}).objs.size {s2 with heap:=s2.heap.push {cls:=.type "list",data:=.seq ([]:List ak).toArray} } (upd bk s2.heap.objs.size (.lst [])) ct (X.er++ah)) [] cf aj s')
  {h':bX} (kJ:Heap.SameBut (s2.heap.push {cls:=.type "list",data:=.seq ([]:List ak).toArray}).objs.size s'.heap h'):bG.Inv X ah σ aj {s' with heap:=h'}:=by
 have dW:=cx.sx (its:=[]) (ys:=[]) (t':=s2.toks) .nil (asH _);have u:=J.base;have free:aj (s2.heap.push {cls:=.type "list",data:=.seq ([]:List ak).toArray}).objs.size=none:=J.free;have old:∀b o,(s2.heap.push {cls:=.type "list",data:=.seq ([]:List ak).toArray}).get? b=some o->b≠(s2.heap.push {cls:=.type "list",data:=.seq ([]:List ak).toArray}).objs.size:=λb o e=>fh (c0 e);have zo:∀b,b≠(s2.heap.push {cls:=.type "list",data:=.seq ([]:List ak).toArray}).objs.size->∀o,s'.heap.get? b=some o->h'.get? b=some o:=λb ab o e=>kJ.extBut b o ab e;have as9:hs (nk X.stack) ct (upd bk s2.heap.objs.size (.lst [])) aj (s2.heap.push {cls:=.type "list",data:=.seq ([]:List ak).toArray}) h':=by
  refine⟨λb o e n hf hx=>zo b (old b o e) _ (u.keep b o e n hf hx),λb o e n hf hx=>?_,u.free,λb o e hx=>?_,u.pQ,u.n9,u.pP⟩
  ·obtain⟨c5,q⟩:=u.slot b o e n hf hx;exact⟨c5,zo b (old b o e) _ q⟩
  ·obtain⟨o',q⟩:=u.there b o e hx;exact⟨o',zo b (old b o e) _ q⟩
 have ck:e8 X.prog X.w aj h':=λb o e=>by
  refine (J.ck b o e).kL (λc v ax q=>zo c (λz=>?_) v q) (λ_ q=>q) λ_ _ q=>q
  rcases ax with rfl|ax
  ·rw[z,free] at e;cases e
  ·rw[z,free] at ax;cases ax
 have pz:=J.os;have adw:=J.bare;obtain⟨cK,g,d,t,os⟩:=s';obtain rfl:os=s2.os:=pz;have fin:=dW.call (h':=h') (g':=g) (d':=d) (t':=t) (ch:=ct) as9 ck adw λb ab=>⟨(f2 b ab).2.2.2.1,(f2 b ab).2.1,(f2 b ab).2.2.2.2.1,(f2 b ab).2.2.2.2.2⟩;exact fin
def aoV{X':bu}{R:Result->aP->Prop}{J:k4}{ct:List asq}{Ih D:asq}{i7:Nat->bX->Prop}{aD O aY:asq->Prop}{aO:hq}{bk:aE}{ts ys:List T}(hx:X'.dR=λ_ _=>False)(ax:X'.calm=true)(bf:o5 X' da jy)(aZ:rO X' ifs cc)(he:cA X' elt fR)
  (T:Turn X'.prog X'.w X'.K da J ct Ih i7) (sM:∀aj:aE,(∀b∈ct,aj b=none)->∀b∈ct,mi X' [] aj b) (ok:o1 X'.K J aY bk ts) (Qp:ts.length<=big) (r':bk D=none) (my:¬O D) (adk:aO.h D=none)
  (fin:∀cf aj aK s1 vs,bG.Inv X' [] cf aj s1->Ext aY bk aK aj->aj D=some (.lst vs)->¬aK D->bz X'.K aK aj ys vs->R (.ok .next) s1)
  {s:aP} {σ:bG.St} {H:aE} {F:asq->Prop} {ε:Ev} (I:bG.Inv X' [] σ H s) (st:i7 0 s.heap) (fr:∀b∈ct,H b=none) (x:Ext aY bk F H) (r:cP X'.K aD aO O F H ε σ) (kC:H D=some (.lst [])) (nD:¬F D) (eV:gk jy cc fR ts ε=some ys):
  codeAny (bV X'.prog X'.w) X'.A (.compLoop (.ListComp elt [⟨da,iter,ifs,0⟩] scope pos) 0 (.ref Ih) (.ref D) X'.env) R s:=by
 refine ana (λn s'=>∃i cf aj aK ε' ua vs,n=ts.length - i/\i<=ts.length/\bG.Inv X' [] cf aj s'/\i7 i s'.heap/\(∀b∈ct,aj b=none)/\Ext aY bk aK aj/\cP X'.K aD aO O aK aj ε' cf/\aj D=some (.lst vs)/\¬aK D/\bz X'.K aK aj ua vs/\ua.length<=i /\
  ∃rest,gk jy cc fR (ts.drop i) ε'=some rest/\ys=ua++rest) ?_ ts.length ⟨0,σ,H,F,ε,[],[],rfl,asH _,I,st,fr,x,r,kC,nD,bz.nil,dT _,ys,by simpa using eV,by simp⟩
 rintro n s3 ⟨i,jV,dj,iL,arU,ua,vs,rfl,hi,dW,xl,wq,gz,iY,wz,Kc,cL,QB,rest,jw,es⟩;have j8:∀{il:asq->Prop} {f3:aE} {lK:asq->Prop} {hZ:aE} {o:eD},Ext il f3 lK hZ->f3 D=some o->¬il D->¬lK D:=λy e n z=>by
  rcases y.new D z with q|q
  ·exact n q
  ·rw[e] at q;cases q
 by_cases gc:i<ts.length
 ·have hd:ts.drop i=ts[i]::ts.drop (i+1):=List.drop_eq_getElem_cons gc;have wG:ts[i]?=some ts[i]:=iB gc;rw[hd] at jw;simp only[gk,b7] at jw;obtain⟨vX,r4,b,dz,jw⟩:=jw;refine hT (T.item X' rfl rfl rfl ax i [] s3 jV dj (λ_ _=>False) dW (sM dj wq) xl (ok.go i iL dj _ gz.aC iY.cy wG)) (λb0 s4 ⟨u,aw,c'⟩=>?_) λ_ _ z=>z;subst aw;refine hT c' (λ_ s5 ⟨mP,hZ,oZ,sG,Lu,sL,G_⟩=>?_) λ_ _ z=>z;obtain⟨lK,uP,aL⟩:=ok.mU i iL dj _ mP hZ gz.aC iY.cy wG Lu;have DX:=oZ.pinned (sM hZ G_) (T.obj _ _ sL);have um:=bf _ s5 jV hZ mP u (λoP tT=>tT=hZ/\cP X'.K aD aO O lK hZ vX oP) DX sG ⟨aD,aO,O,lK,arU,_,vX,iY.ext uP,aL,r4,λoP xd=>⟨rfl,xd⟩⟩;rw[hx] at um;refine hT um (λ_ g4 ⟨oP,tT,v5,k7,xd⟩=>?_) λ_ _ z=>z;subst k7;have again:∀{k2:bG.St} {hr:aE} {dX:aP},bG.Inv X' ([]++yF ct s5.heap) k2 hr dX->i7 (i+1) dX.heap/\(∀b∈ct,hr b=none)/\bG.Inv X' [] k2 hr dX:=λ{k2 hr dX} jb=>by
   refine⟨T.keep _ _ _ sL λb ab o e=>(jb.pin (b,o) (ot _ (ot _ (CE ab e)))).1,λb ab=>?_,jb.Bq⟩
   obtain⟨o,e,d⟩:=T.obj _ _ sL b ab;exact (jb.pin (b,o) (ot _ (ot _ (CE ab e)))).2.1
  have QN:=aZ _ g4 oP tT (λgR hr=>gR=b/\∃oW,Ext lK tT oW hr) v5 ⟨aD,aO,O,lK,vX,b,xd,dz,λoW hr uQ=>⟨rfl,oW,uQ⟩⟩;rw[hx] at QN;refine hT QN (λaiu dX ⟨hr,jb,n4,oW,uQ⟩=>?_) λ_ _ z=>z;subst n4;have xt:=uP.trans uQ;have uD:=xd.ext uQ;cases aiu with
  |false=>
   simp only[l1,if_false] at jw ⊢;obtain⟨a1,a2,m9⟩:=again jb;exact⟨_,by omega,i+1,oP,hr,oW,vX,ua,vs,rfl,gc,m9,a1,a2,gz.trans xt,uD,xt.same.get wz,j8 xt wz Kc,cL.ext xt,by omega,rest,jw,es⟩
  |true=>
   simp only[if_true,b7,d7] at jw ⊢;obtain⟨y,ac',ajQ,ac6,rfl⟩:=jw;have ps:=he _ dX oP hr (λv rI=>∃oX,Ext oW hr oX rI/\Rep X'.K oX rI y v) jb ⟨aD,aO,O,oW,vX,y,uD,ac',λv oX rI Bs KQ=>⟨oX,Bs,KQ⟩⟩;rw[hx] at ps;refine hT ps (λu8 eC ⟨uL,rI,Yj,r8,oX,Bs,KQ⟩=>?_) λ_ _ z=>z;have Br:=xt.trans Bs;have Ha:=Br.same.get wz;have Kd:=j8 Br wz Kc;obtain⟨afJ,r9⟩:=(uD.ext Bs).other (ys:=vs++[uL]) Kd my adk Ha;have au:=TK (X:=X') _ eC oP rI (.ref D) [uL] (.ref D) [u8] (λ_ Ot=>Ot=upd rI D (.lst (vs++[uL]))) Yj rfl (.cons r8 .nil) ⟨D,vs,uL,rfl,rfl,Ha,by rw[ko,<- cL.length];omega,rfl⟩;rw[hx] at au;refine hT au (λBp g5 ⟨Ln,Ot,Yk,asi,qs⟩=>?_) λ_ _ z=>z;subst qs;obtain⟨a1,a2,m9⟩:=again Yk;have x9:Ext aY bk oX (upd rI D (.lst (vs++[uL]))):=by
    have y:=gz.trans Br;refine⟨λb o e=>?_,y.sub,y.new,⟨λb f=>?_,y.cy.qT.upd λu e=>.inl ⟨_,fq (e.symm.trans Ha)⟩⟩⟩
    ·have nb:b≠D:=by
      rintro rfl;rw[r'] at e;cases e
     rw[cZ nb];exact y.same b o e
    ·have nb:b≠D:=by
      rintro rfl;exact Kd f
     rw[cZ nb];exact y.cy b f
   refine⟨_,by omega,i+1,oP,_,oX,vX,ua++[y],vs++[uL],rfl,gc,m9,a1,a2,x9,r9,ew,Kd,((cL.ext Br).append (bz.cons KQ bz.nil)).aC afJ,by simp;omega,ajQ,ac6,by rw[es];simp⟩
 ·have hd:ts.drop i=[]:=List.drop_eq_nil_of_le (by omega);rw[hd] at jw;cases jw;refine hT (T.done X' rfl rfl rfl ax i [] s3 jV dj (λ_ _=>False) dW (sM dj wq) xl (ok.stop i iL dj gz.aC (by omega))) (λb0 s4 ⟨aw,jt⟩=>?_) λ_ _ z=>z;subst aw;exact fin jV dj iL s4 vs jt gz wz Kc (by rw[es,jN];exact cL)
structure After(X:bu)(ah:List (asq×Obj))(σ:bG.St)(F:asq->Prop)(H:aE)(ys:List T)(D C:asq)(aj:aE)(aK:asq->Prop)(s1:aP)(vs:List V):Prop where
 inv:∀h',Heap.SameBut C s1.heap h'->bG.Inv X ah σ aj {s1 with heap:=h'}
 ns:∃m,s1.heap.Ns C m
 free:aj C=none
 above:X.dI.heap.objs.size<=C
 cells:∀x c,X.env.cells.lookup x=some c->c≠C
 pin:∀p∈X.er++ah,p.1≠C
 loc:C≠X.env.locals
 new:H D=none
 ext:Ext F H aK aj
 j8:¬aK D
 lst:aj D=some (.lst vs)
 rep:bz X.K aK aj ys vs
def UN{use:Option (ak->Sem Unit)}{Q:ak->aP->Prop}{ej:Pos}(S:rF X scope own caps)(hi:nW X da iter it)
  (bf:∀cl C dI aO ct er,o5 (ja X (own++caps.map (·.2)) scope cl C dI aO ct er) da jy)
  (aZ:∀cl C dI aO ct er,rO (ja X (own++caps.map (·.2)) scope cl C dI aO ct er) ifs cc)
  (he:∀cl C dI aO ct er,cA (ja X (own++caps.map (·.2)) scope cl C dI aO ct er) elt fR)
  (asr:∀x,u1 iter X.env x=pure x) {ah:List (asq×Obj)} {s:aP} {σ:bG.St} {H:aE} {aD O F:asq->Prop} {aO:hq} {ε:Ev} {ys:List T} (I:bG.Inv X ah σ H s) (r:cP X.K aD aO O F H ε σ)
  (e:comp own.length (caps.map (·.1)) it jy cc fR ε=some (.list ys)) (fin:∀D C aj aK s1 vs,After X ah σ F H ys D C aj aK s1 vs->compPost (bV X.prog X.w) X.A X.dR use Q (.ref D) C (.ok .next) s1):
  bD (bV X.prog X.w) X.A (comprehension (.ListComp elt [⟨da,iter,ifs,0⟩] scope pos) scope X.env ej (newList []) false (eval iter X.env) use) Q X.dR s:=by
 simp only[comp,b7] at e;obtain⟨ts,bF,e⟩:=e;split at e
 case isFalse=>cases e
 next Qp=>
 simp only[d7] at e;obtain⟨asp,eV,e⟩:=e;cases e;have se:∀x∈scope.names,x.2=.free->∃c,X.env.cells.lookup x.1=some c:=λx hx aR=>I.ok.has x.1 (S.free x hx aR);refine wpAny_comprehension_free rfl asr (amV se) S.kind S.names (cq (hi ah s σ H (λJ H1=>∃aY,Ext F H aY H1/\o1 X.K J aY H1 ts) I ⟨aD,aO,O,F,ε,ts,r,bF,λJ aY H1 aM ok=>⟨aY,aM,ok⟩⟩) λv s1 af=>cq af λIi s2 ai=>?_);obtain⟨Ih,ct,i7,J,bk,rfl,cx,T,kK,f2,aY,aM,ok⟩:=ai;have jg:∀b∈ct,b<s2.heap.objs.size:=λb ab=>by
  obtain⟨o,aH,_⟩:=T.obj 0 _ kK b ab;exact c0 aH
 have r':bk s2.heap.objs.size=none:=cx.fresh;have kC:H s2.heap.objs.size=none:=aM.same.none r';have ll:(s2.heap.push {cls:=.type "list",data:=.seq ([]:List ak).toArray}).objs.size=s2.heap.objs.size+1:=kR ..;refine wpAny_newList ?_ (asH _);refine wpAny_newFunctionEnv S.cell (by intro y bw;simp at bw) (λgM ad4 ad'=>?_) S.kind;have keep:∀b u,(s2.heap.push {cls:=.type "list",data:=.seq ([]:List ak).toArray}).get? b=some u->gM.get? b=some u:=λb u e=>ad'.extBut b u (fh (c0 e)) (c8 _ e);have jt:=aqc (tk:=s2.toks+0) S cx f2 jg ad4 keep;have ix:=(r.ext aM).Gm (D:=s2.heap.objs.size) own.length S.a_ r';refine codeAny_compStart_list ?loop (T.self _ 0 _ _ _ (T.keep 0 _ _ kK λb ab o e=>keep b o (c8 _ e)) ?loop);refine aoV (X':=ja X (own++caps.map (·.2)) scope (j2 X.env scope.names []) (s2.heap.push {cls:=.type "list",data:=.seq ([]:List ak).toArray}).objs.size {s2 with heap:=s2.heap.push {cls:=.type "list",data:=.seq ([]:List ak).toArray} } (upd bk s2.heap.objs.size (.lst [])) ct (X.er++ah))
  rfl S.calm (bf _ _ _ _ _ _) (aZ _ _ _ _ _ _) (he _ _ _ _ _ _) T (λaj a9 b ab=>?_) ok Qp r' (λz=>z.2 rfl) (r.o0 _ (r.fr _ kC)) (λcf aj aK s1 vs D1 mP adj afS d6=>?_) jt (T.keep 0 _ _ kK λb ab o e=>keep b o (c8 _ e)) (λb ab=>?_) (Ext.laid aM.cy r') ix ew ?_ eV
 ·have KG:=Vj S cx f2 jg (own++caps.map (·.2));refine⟨a9 b ab,(KG.zp b ab).1,KG.wi b ab,.inl ab,λx c e=>(KG.zp b ab).2 x c e,λp aF=>?_⟩;have nu:p∈X.er++ah:=by simpa [ja] using aF
  exact (f2 b ab).2.2.2.2.2 p nu
 ·obtain⟨m,a9,_⟩:=id D1.loc;refine fin s2.heap.objs.size _ aj aK s1 vs ⟨λh' kJ=>aob cx f2 D1 kJ,⟨m,a9⟩,D1.free,?_,λx c e z=>?_,λp aF z=>?_,?_,kC,aM.trans mP,afS,adj,d6⟩
  ·rw[ll];exact Nat.le_succ_of_le cx.ll
  ·obtain⟨v,q⟩:=cx.cell x c e;have:=q.lt;rw[z,ll] at this;exact absurd this (Nat.not_lt.mpr (fj _))
  ·have:=c0 (cx.pin p aF).1;rw[z,ll] at this;exact absurd this (Nat.not_lt.mpr (fj _))
  ·have:=cx.lt;rw[ll];exact hS (Nat.lt_succ_of_lt this)
 ·have:=(f2 b ab).1;rw[cZ (fh (jg b ab))];exact this
 ·intro z;obtain⟨o,e⟩:=aM.cy _ z;rw[r'] at e;cases e
def Yy(S:rF X scope own caps)(hi:nW X da iter it)
  (bf:∀cl C dI aO ct er,o5 (ja X (own++caps.map (·.2)) scope cl C dI aO ct er) da jy)
  (aZ:∀cl C dI aO ct er,rO (ja X (own++caps.map (·.2)) scope cl C dI aO ct er) ifs cc)
  (he:∀cl C dI aO ct er,cA (ja X (own++caps.map (·.2)) scope cl C dI aO ct er) elt fR)
  (asr:∀x,u1 iter X.env x=pure x:=by intro _;rfl):tZ X (.ListComp elt [⟨da,iter,ifs,0⟩] scope pos) (comp own.length (caps.map (·.1)) it jy cc fR):=by
 intro ah s σ H Q I ⟨aD,aO,O,F,ε,ys,r,e,k⟩;rw[eval_ListComp];refine UN S hi bf aZ he asr I r e λD C aj aK s1 vs a=>?_;obtain⟨m,a9⟩:=a.ns;exact⟨m,a9,λh' kJ=>⟨.ref D,aj,a.inv h' kJ,rfl,k D vs aK aj a.ext a.new a.j8 a.lst a.rep⟩⟩
def TZ{ε:Ev}{n:Nat}{cs:List Nat}{t:T}(e:comp n cs it jy cc fR ε=some t):∃ts,t=.list ts:=by
 simp only[comp,b7] at e;obtain⟨ts,_,e⟩:=e;split at e
 ·simp only[d7] at e;obtain⟨ys,_,e⟩:=e;exact⟨ys,e.symm⟩
 ·cases e
def kk(S:rF X scope own caps)(hi:nW X da iter it)
  (bf:∀cl C dI aO ct er,o5 (ja X (own++caps.map (·.2)) scope cl C dI aO ct er) da jy)
  (aZ:∀cl C dI aO ct er,rO (ja X (own++caps.map (·.2)) scope cl C dI aO ct er) ifs cc)
  (he:∀cl C dI aO ct er,cA (ja X (own++caps.map (·.2)) scope cl C dI aO ct er) elt fR)
  (asr:∀x,u1 iter X.env x=pure x:=by intro _;rfl):cA X (.ListComp elt [⟨da,iter,ifs,0⟩] scope pos) (comp own.length (caps.map (·.1)) it jy cc fR):=
 Q6 (Yy S hi bf aZ he asr) λε t e=>TZ e
def NG(i:Nat){x:Str}{iX sJ:Pos}(eL:X.N.Nodup)(S:rF X scope own caps)(hit:nW X da iter it)
  (bf:∀cl C dI aO ct er,o5 (ja X (own++caps.map (·.2)) scope cl C dI aO ct er) da jy)
  (aZ:∀cl C dI aO ct er,rO (ja X (own++caps.map (·.2)) scope cl C dI aO ct er) ifs cc)
  (he:∀cl C dI aO ct er,cA (ja X (own++caps.map (·.2)) scope cl C dI aO ct er) elt fR)
  (hi:X.N[i]?=some x:=by rfl) (hx:Loc X.env.scope x:=by first|exact Or.inl rfl|exact Or.inr rfl)
  (ny:kh (.ListComp elt [⟨da,iter,ifs,0⟩] scope pos) (some (.Name x iX)) sJ.line X.env=pure true:=by rfl)
  (hf:X.fn x=true\/X.env.scope.names.lookup x=some .local:=by first|exact .inl rfl|exact .inr rfl)
  (asr:∀x,u1 iter X.env x=pure x:=by intro _;rfl):
  gF X (.Assign [.Name x iX] (.ListComp elt [⟨da,iter,ifs,0⟩] scope pos) sJ) (asg i (comp own.length (caps.map (·.1)) it jy cc fR)):=by
 intro ah s σ H D I ⟨aD,aO,O,F,ε,o,r,e,k⟩;simp only[asg,d7] at e;obtain⟨t,bF,rfl⟩:=e;obtain⟨ys,rfl⟩:=TZ bF;rw[exec_Assign_Name_used _ _ _ _ ny];refine a3 (wpAny_standAt (a3 ?_));show bD _ X.A (do let _ <- comprehension (.ListComp elt [⟨da,iter,ifs,0⟩] scope pos) scope X.env _ (newList []) false (eval iter X.env) (some (assign (.Name x iX) X.env))) _ _ s;refine a3 (cq (UN (use:=some (assign (.Name x iX) X.env)) (Q:=λ_ s'=>rQ X ah D .next s') S hit bf aZ he asr I r bF λvY C aj aK s1 vs a=>?_) λ_ s' bg=>cG (cG bg));have Yl:=a.inv s1.heap (Heap.SameBut.refl ..);have Ym:bG.Inv X ah σ aj s1:=Yl;show bD _ X.A (assign (.Name x iX) X.env (.ref vY)) _ _ _;refine wpAny_assign_Name (Tu (v:=.ref vY) Ym eL hi hx rfl (λs2 cx ⟨b,kJ,ab⟩=>?_) hf);obtain⟨m,a9⟩:=a.ns;have nb:C≠b:=by
  rcases ab with rfl|ab
  ·exact a.loc
  ·exact (a.cells x b ab).symm
 refine⟨m,a9.sameBut kJ nb,λh' ajX=>?_⟩
 have dW:bG.Inv X ah (σ.set i (some (.ref vY))) aj {s2 with heap:=h'}:=cx.turned (t':=s2.toks) (it:=C) (λb o ab e=>ajX.extBut b o ab e) a.free a.loc (.inr a.above) a.cells a.pin;refine⟨_,aj,dW,?_⟩;have y:Ext F H (λb=>aK b\/b=vY) aj:=⟨a.ext.same,λb z=>.inl (a.ext.sub b z),λb z=>by
  rcases z with z|rfl
  ·exact a.ext.new b z
  ·exact .inr a.new,⟨λb z=>by
  rcases z with z|rfl
  ·exact a.ext.cy b z
  ·exact⟨_,a.lst⟩,a.ext.cy.qT⟩⟩
 refine k _ _ aj y.aC ((r.ext y).set i ?_)
 simp only[Rep];exact⟨vY,vs,rfl,.inr rfl,.inl a.lst,a.rep.keep (λ_ _ z=>z) λb _ z w=>⟨.inl z,w⟩⟩
end
end
section
variable [cV]
open AutoSeq1 (wpAny_loadPart')
def al'(l:asq)(items:Array ak)(n:Nat)(zi:Option asq)(c5:Array (Option ak)):
  Meets (Builtin.«enumerate.__new__» ⟨[.type "enumerate",.ref l],[]⟩) (λ_ R s=>s.heap.get? l=some {cls:=.type "tuple",dict:=zi,data:=.seq items n,slots:=c5} /\
   R (.ok (.ret (.ref (s.heap.push {cls:=.type "tuple_iterator",data:=.fields #[.ref l,.int 0 0]}).objs.size)))
    {s with heap:=(s.heap.push {cls:=.type "tuple_iterator",data:=.fields #[.ref l,.int 0 0]}).push {cls:=.type "enumerate",data:=.fields #[.none,.bool false,.ref s.heap.objs.size,rawInt 0,.none,.none]} }):=
 .of_wp λprog w A R s h=>by
  obtain⟨aF,g,d,tk,os⟩:=s;obtain⟨aB,h⟩:=h;have QM:=sub_enumerate;have hN:Heap.IsTuple (Shared.heap ⟨aF,g,d,tk,os⟩) l items:=⟨_,aB,rfl,n,rfl⟩
  wp_walk using wpAny_loadPart' aB
  refine wpAny_stack_any λst=>cG ?_
  split
  ·rename_i c _ _ _ _ _
   cases (c==Value.type "enumerate")
   ·wp_walk using wpAny_loadPart' aB,uZ hN
    exact⟨_,rfl,h⟩
   ·wp_walk using wpAny_loadPart' aB,uZ hN
    exact⟨_,rfl,h⟩
  ·wp_walk using wpAny_loadPart' aB,uZ hN
   exact⟨_,rfl,h⟩
section
variable {prog:cJ}{w:cB}{A:c3}{E:ak->aP->Prop}{s:aP}
def ama{l:asq}{items:Array ak}{Q:ak->aP->Prop}(hN:s.heap.IsTuple l items)
  (h:∀h',IsEnum h' (s.heap.objs.size+1) s.heap.objs.size 0 .none->h'.IsTupleIter s.heap.objs.size l 0->h'.objs.size=s.heap.objs.size+2 ->
   (∀b o,s.heap.get? b=some o->h'.get? b=some o)->Q (.ref (s.heap.objs.size+1)) {s with heap:=h'}):
  bD (bV prog w) A (call (.type "enumerate") [.ref l]) Q E s:=by
 obtain⟨⟨c,zi,dt,c5⟩,aB,ax,n,hd⟩:=hN;replace ax:c=.type "tuple":=ax;replace hd:dt=.seq items n:=hd;subst ax hd;refine callType_new F.called_enumerate (by decide) (F.typeCall_enumerate_1 _) (F.newCall_enumerate_1 _) (λobj=>F.args_object_init_2 obj _) F.entry_enumerate_new
  (al' l items n zi c5) ⟨aB,?_⟩
 have ar:(s.heap.push {cls:=.type "tuple_iterator",data:=.fields #[.ref l,.int 0 0]}).objs.size=s.heap.objs.size+1:=kR ..;show _/\_;rw[ar];have he:IsEnum ((s.heap.push {cls:=.type "tuple_iterator",data:=.fields #[.ref l,.int 0 0]}).push
   {cls:=.type "enumerate",data:=.fields #[.none,.bool false,.ref s.heap.objs.size,rawInt 0,.none,.none]}) (s.heap.objs.size+1) s.heap.objs.size 0 .none:=by
  have:=gA (s.heap.push {cls:=.type "tuple_iterator",data:=.fields #[.ref l,.int 0 0]})
   (o:={cls:=.type "enumerate",data:=.fields #[.none,.bool false,.ref s.heap.objs.size,rawInt 0,.none,.none]}) rfl
  rw[ar] at this;exact this
 refine⟨⟨_,he,rfl⟩,h _ he ⟨_,c8 _ (gA _ rfl),rfl,rfl⟩ (by rw[kR,ar]) λb o x=>c8 _ (c8 _ x)⟩
def aml{it l:asq}{i:Nat}{items}{x:ak}{Q:ak->aP->Prop}(hit:s.heap.IsTupleIter it l i)
  (aB:s.heap.IsTuple l items) (hx:items[i]?=some x)
  (iN:∀h',h'.IsTupleIter it l (i+1)->Heap.SameBut it s.heap h'->Q x {s with heap:=h'}):
  bD (bV prog w) A (lr (.ref it)) Q E s:=by
 obtain⟨o,aH,ax,hd⟩:=id hit;obtain⟨ol,Hu,_,nl,uj⟩:=aB;unfold lr;refine a3 (pW (name:=Str.ofString "__next__") hit.typeIs Bw
  (ox Bw hit.typeIs F.entry_tuple_iterator_next ?_ (F.args_tuple_iterator_next_1 _)))
 show bD _ _ (field (.ref it) 0 >>= _) _ _ s
 refine a3 (hU aH hd (x:=.ref l) rfl ?_)
 show bD _ _ (if (Value.ref l==Value.none)=true then _ else _) _ _ s
 rw[if_neg (show ¬((Value.ref l==Value.none)=true) from ou)];show bD _ _ (field (.ref it) 1 >>= _) _ _ s;refine a3 (hU aH hd (x:=.int i 0) rfl ?_);show bD _ _ (seqItems? (.ref l) >>= _) _ _ s;refine a3 (ow Hu uj ?_);simp only[Int.toNat_natCast,hx];refine a3 (wpAny_setField aH hd (by simp) (cG ⟨x,rfl,cG (iN _ ?_ (Heap.SameBut.update ..))⟩));exact⟨_,Heap.get?_update_self _ aH (Obj.isFreed_of_fields (Obj.data_mapFields hd _)),(Obj.cls_mapFields ..).trans ax,by
  rw[Obj.data_mapFields hd];simp[rawInt]⟩
def R1{it l:asq}{i:Nat}{items}{Q:ak->aP->Prop}(cK:A.handled=none)
  (hit:s.heap.IsTupleIter it l i) (aB:s.heap.IsTuple l items) (hx:items[i]?=none)
  (pq:∀h' e,Heap.ExtBut it s.heap h'->(∃o,h'.get? e=some o/\o.cls=.type "StopIteration")->E (.ref e) {s with heap:=h'}):
  bD (bV prog w) A (lr (.ref it)) Q E s:=by
 obtain⟨o,aH,ax,hd⟩:=id hit;obtain⟨ol,Hu,_,nl,uj⟩:=aB;unfold lr;refine a3 (pW (name:=Str.ofString "__next__") hit.typeIs Bw
  (ox Bw hit.typeIs F.entry_tuple_iterator_next ?_ (F.args_tuple_iterator_next_1 _)))
 show bD _ _ (field (.ref it) 0 >>= _) _ _ s
 refine a3 (hU aH hd (x:=.ref l) rfl ?_)
 show bD _ _ (if (Value.ref l==Value.none)=true then _ else _) _ _ s
 rw[if_neg (show ¬((Value.ref l==Value.none)=true) from ou)];show bD _ _ (field (.ref it) 1 >>= _) _ _ s;refine a3 (hU aH hd (x:=.int i 0) rfl ?_);show bD _ _ (seqItems? (.ref l) >>= _) _ _ s;refine a3 (ow Hu uj ?_);simp only[Int.toNat_natCast,hx];refine a3 (wpAny_rule (a3 (wpAny_setField aH hd (by simp) ?_)));show bD _ _ (newExc (.type "StopIteration") [] >>= _) _ _ _;refine a3 ?_;simp only[newExc,newTuple];refine a3 (pX ?_ (by size_fits));refine a3 (m:=firstArgMember _ _) (wpAny_of_eq (a:=Value.none) (by first|rfl|(simp only[firstArgMember];rfl)) ?_);refine pX ?_ (by size_fits);simp only[raiseNew];refine a3 (wpAny_handled ?_)
 first|rw[show A.in1.handled=none from cK]|rw[cK]
 refine a3 (cG (wpAny_throw ?_))
 exact pq _ _ (((Heap.SameBut.update ..).extBut.push _).push _) ⟨_,gA _ rfl,rfl⟩
end
def va{prog:cJ}{w:cB}{A:c3}(cK:A.handled=none)(it l:asq)(kD:l≠it)(items:Array ak):
  Draws prog w A it [it,l] items.size (λi v=>items[i]?=some v) (λi h=>h.IsTupleIter it l i/\h.IsTuple l items) where
 live:=λ_ _ st=>let ⟨o,aH,_⟩:=st.1;⟨o,aH⟩
 frame:=λ_ _ _ st aR=>⟨st.1.at λo e=>aR it (by simp) o e,let ⟨o,aH,r⟩:=st.2;⟨o,aR l (by simp) o aH,r⟩⟩
 item:=λi s Q E hi st iN=>by
  refine aml st.1 st.2 (x:=items[i]) (by simp[hi]) λh' adQ oc=>?_
  exact iN _ h' s.toks (by simp[hi]) ⟨adQ,st.2.extBut oc.extBut kD⟩ oc
 done:=λs Q E st pq=>R1 cK st.1 st.2 (by simp) pq
noncomputable def DZ(K:bb)(a:asq):k4:=
 ⟨λi H=>∃xs x,cX K H a xs/\xs[i]?=some x,λi H x aj=>∃p v,H p=none/\x=.ref p/\aj=upd H p (.tup [.int i,v])/\∀xs,cX K H a xs->xs[i]?=some v,λi H=>∃xs,cX K H a xs/\xs.length<=i⟩
def aop{P:cJ}{w:cB}{K:bb}{es:List bx}{k:Nat}{pos:Pos}(a it e:asq)(kD:e≠it)(adt:a≠it)(adq:a≠e):Turn P w K (.Tuple es k pos) (DZ K a) [e,it] e (λi h=>(∃old,IsEnum h e it i old)/\h.IsTupleIter it a i) where
 mem:=by simp
 obj:=λi h st b ab=>by
  obtain⟨⟨old,he⟩,o,aH,ax,hd⟩:=st;rcases asu.mp ab with rfl|ab
  ·exact⟨_,he,λv z=>by
    have jO:Data.fields _=Data.cell v:=z;cases jO⟩
  ·have aG:b=it:=by simpa using ab
   subst aG;exact⟨o,aH,λv z=>by rw[hd] at z;cases z⟩
 keep:=λi h h' st bL=>by
  obtain⟨⟨old,he⟩,kK⟩:=st;exact⟨⟨old,bL e (by simp) _ he⟩,kK.at λo q=>bL it (by simp) o q⟩
 item:=by
  intro X gb hw gX ax i ah s σ H E I hf st bf;subst gb hw gX;obtain⟨xs,x,bg,hx⟩:=bf;obtain⟨its,b0,p,ar⟩:=I.tuple bg;obtain⟨u,b4,dH⟩:=b0.get hx;obtain⟨⟨old,he⟩,hit⟩:=st;obtain⟨f0,f1,f2,gJ,f4,gK⟩:=hf e (by simp);obtain⟨n_,g1,g2,g3,r7,mx⟩:=hf it (by simp);have hi:i<its.toArray.size:=by
   rw[d0];exact (hj.mp b4).1
  have ad3:e∉[it,a]:=by
   intro z;rcases asu.mp z with z|z
   ·exact kD z
   ·have jO:e=a:=by simpa using z
    exact adq jO.symm
  refine wpAny_pyNext_enum_itemD (va (A:=X.A.in1) (I.ok.hd ax) it a adt its.toArray) he ⟨hit,p⟩ hi kD ad3 λmP h' tk adm aH oc eF hsz aR=>?_
  have ex:mP=u:=by
   have:=adm;rw[<- Array.getElem?_toList] at this;rw[show (its.toArray).toList=its from rfl,b4] at this;exact (fq this).symm
  subst ex;refine⟨_,rfl,wpAny_letOwnedTupleGo_enum aH λai ps hO=>?_⟩;have Qv:e<s.heap.objs.size:=c0 he;have adO:it<s.heap.objs.size:=by obtain⟨o,iO,_⟩:=hit;exact c0 iO
  have dB:∀b o,b≠e->b≠it->s.heap.get? b=some o->ai.get? b=some o:=λb o af bE q=>hO.extBut b o af (aR b o af bE q);have fr:H s.heap.objs.size=none:=I.ck.fresh (dT _);have Hc:ai.get? s.heap.objs.size=some {cls:=.type "tuple",data:=.seq #[.int i tk,mP]}:=hO.extBut _ _ (hS Qv) eF;have qK:∀b o,H b=some o->b≠e/\b≠it:=λb o q=>⟨λz=>(by rw[z,f0] at q;cases q),λz=>(by rw[z,n_] at q;cases q)⟩;have wK:e8 X.prog X.w (upd H s.heap.objs.size (.tup [.int i,x])) ai:=by
   intro b o q;by_cases ab:b=s.heap.objs.size
   ·subst ab;rw[ew] at q;cases q;exact⟨by show 2<=b8;decide,[.int i tk,mP],.cons ⟨tk,rfl⟩ (.cons dH .nil),⟨_,Hc,rfl,_,rfl⟩⟩
   ·rw[cZ ab] at q;refine (I.ck b o q).kL (λc v dg d6=>dB c v ?_ ?_ d6) (λc d6=>?_) λc ys d6=>?_
    ·rcases dg with rfl|dg
     ·exact (qK _ _ q).1
     ·exact (qK _ _ dg).1
    ·rcases dg with rfl|dg
     ·exact (qK _ _ q).2
     ·exact (qK _ _ dg).2
    ·rw[cZ (kj d6 fr)];exact d6
    ·rw[cZ (kj d6 fr)];exact d6
  have cx:bG.Inv X ah σ (upd H s.heap.objs.size (.tup [.int i,x])) {s with heap:=ai,toks:=tk+1}:=by
   refine I.step (g':=s.gens) (d':=s.drawn) (ch:=[e,it]) (λb ab=>?_) (λb o _ _ dg q _=>dB b o (λz=>dg (by simp[z])) (λz=>dg (by simp[z])) q) (λb o _ _ dg q _=>⟨o.slots,dB b o (λz=>dg (by simp[z])) (λz=>dg (by simp[z])) q⟩) (λb o _ q n=>?_)
    (λb o dg q=>⟨o,dB b o (λz=>dg (by simp[z])) (λz=>dg (by simp[z])) q⟩) (λb ys q=>by rw[cZ (kj q fr)];exact q) (λb o u q=>by rw[cZ (kj q fr)];exact q) (λb av q=>⟨#[],by rw[cZ (kj q fr),q];simp⟩) (λm hm=>?_) wK I.bare
   ·rcases asu.mp ab with rfl|ab
    ·exact⟨gJ,f1,f4,gK⟩
    ·have:b=it:=by simpa using ab
     subst this;exact⟨g3,g1,r7,mx⟩
   ·rw[cZ (fh (c0 q))];exact n
   ·obtain⟨o,hy,ep,iO,r⟩:=hm;exact⟨o,hy,ep,dB _ o (Ne.symm f1) (Ne.symm g1) iO,r⟩
  refine⟨.ref s.heap.objs.size,_,cx,rfl,⟨s.heap.objs.size,x,fr,rfl,rfl,λys bw=>by rw[I.Bn bw bg];exact hx⟩,⟨⟨_,by simpa using ps⟩,oc.1.at λo q=>(hO.2 it kD.symm).trans q⟩,λb ab=>?_⟩
  rcases asu.mp ab with rfl|ab
  ·rw[cZ (fh Qv)];exact f0
  ·have:b=it:=by simpa using ab
   subst this;rw[cZ (fh adO)];exact n_
 done:=by
  intro X gb hw gX ax i ah s σ H E I hf st bf;subst gb hw gX;obtain⟨xs,bg,hx⟩:=bf;obtain⟨its,b0,p,ar⟩:=I.tuple bg;obtain⟨⟨old,he⟩,hit⟩:=st;obtain⟨n_,g1,g2,g3,r7,mx⟩:=hf it (by simp);have eF:s.TypeIs (.ref e) "enumerate":=⟨_,he,rfl⟩;have aB:=b0.length;unfold pyNext;refine a3 (wpAny_attempt (pW (name:=Str.ofString "__next__") eF F.slot_enumerate_next
   (ox F.slot_enumerate_next eF F.entry_enumerate_next ?_ (F.args_enumerate_next_1 _))))
  show bD _ _ (field (.ref e) 2 >>= _) _ _ _
  refine a3 (hU he rfl (x:=.ref it) rfl ?_)
  refine a3 (R1 (I.ok.hd ax) hit (show s.heap.IsTuple a its.toArray from p) (by simp;omega) λh' x adI k_=>?_)
  obtain⟨o,aH,dg⟩:=k_;refine a3 (wpAny_isInstance (T:="StopIteration") (b:=true) ⟨o,aH,dg⟩ isSubtype_stop ?_);exact cG ⟨rfl,I.turned (t':=s.toks) (λb o ab q=>adI b o ab q) n_ g1 g3 r7 mx⟩
 self:=λ_ _ _ _ _ st h=>by
  obtain⟨⟨old,he⟩,_⟩:=st;exact wpAny_pyIter_enum he h
def aeu(K:bb)(cj:f7):TI:=λσ H R=>cj σ H λvs H1=>∃a xs,vs=[.ref a]/\cX K H1 a xs/\R (DZ K a) H1
section
variable {X:bu}{es:List bx}{k:Nat}{p pos ej:Pos}{a:bx}{f:bl}
def aqU{cj:f7}(bf:ez X "enumerate")(hm:X.mg "enumerate"=none)(au:hJ X [a] cj)(asr:bo [a] X.env=[(false,eval a X.env)]:=by rfl):o6 X (.Tuple es k ej) (.Call (.Name "enumerate" p) [a] [] pos) (aeu X.K cj):=by
 intro ah s σ H R I h;refine Call_ (p7 I bf hm PyProof.Rows.boot_enumerate (uU (cq (au pos ah s σ H _ I h) λus s1 ⟨vs,H1,a8,a6,aQ⟩=>?_) asr rfl));obtain⟨a,xs,rfl,bg,q⟩:=aQ;cases a6 with
|cons r xe=>
  cases xe
  cases r
  obtain⟨its,b0,pl,ar⟩:=a8.tuple bg;have Qo:a<s1.heap.objs.size:=by obtain⟨o,aH,_⟩:=pl;exact c0 aH
  refine ama (show s1.heap.IsTuple a its.toArray from pl) λh' he hit hsz aR=>wpAny_pyIter_enum he ?_
  refine⟨s1.heap.objs.size+1,[s1.heap.objs.size+1,s1.heap.objs.size],_,_,H1,rfl,a8.kept (t':=s1.toks) aR,aop a s1.heap.objs.size (s1.heap.objs.size+1) (Nat.succ_ne_self _) (fh Qo) (fh (Nat.lt_succ_of_lt Qo)),⟨⟨_,he⟩,hit⟩,λb ab=>?_,q⟩
  have iu:s1.heap.objs.size<=b:=by
   rcases asu.mp ab with rfl|ab
   ·exact fj _
   ·have:b=s1.heap.objs.size:=by simpa using ab
    rw[this];exact dT _
  exact a8.wo iu (a8.ck.fresh iu)
def aoM{K:bb}{a:asq}{aY:asq->Prop}{H1:aE}{ts:List T}{vs:List V}(aw:cX K H1 a vs)(q:bz K aY H1 ts vs):o1 K (DZ K a) aY H1 (enum ts) where
 go:=λi F H t aC d e=>by
  have hi:=(hj.mp e).1;simp only[enum,eT,List.length_zipIdx] at hi;obtain⟨v,af,_⟩:=q.get (iB hi);exact⟨vs,v,aC.tup _ _ aw,af⟩
 mU:=λi F H t x aj aC d e y=>by
  obtain⟨p,v,aF,rfl,rfl,y⟩:=y;have hi:=(hj.mp e).1;simp only[enum,eT,List.length_zipIdx] at hi;obtain⟨kc,af,ai⟩:=(q.aC aC).get (iB hi);have bE:=y vs (aC.tup _ _ aw);rw[af] at bE;cases bE;have aM:=Ext.laid (o:=.tup [.int i,v]) d aF;refine⟨F,aM,?_⟩;have bF:t=.tuple [.int i,ts[i]]:=by
   simp only[enum,kQ,List.getElem?_zipIdx,iB hi] at e;simpa using e.symm
  subst bF;simp only[Rep];exact⟨p,_,rfl,cX.of ew,bz.cons (by simp[Rep]) (bz.cons (ai.ext aM) bz.nil)⟩
 stop:=λi F H aC aB=>⟨vs,aC.tup _ _ aw,by
  simp only[enum,eT,List.length_zipIdx] at aB;rw[<- q.length];exact aB⟩
def NT(hm:X.mg "enumerate"=none)(au:cA X a f)(bf:ez X "enumerate":=by rfl)(asr:bo [a] X.env=[(false,eval a X.env)]:=by rfl)(hO:bo [a] X.env=(false,eval a X.env)::bo [] X.env:=by rfl):
  nW X (.Tuple es k ej) (.Call (.Name "enumerate" p) [a] [] pos) (lD (ik f)):=yM (aqU bf hm (i_ au km hO) asr) λσ H R ⟨aD,aO,O,F,ε,ts,r,e,k⟩=>by
 simp only[lD,ik,d7,b7] at e;obtain⟨us,⟨t,bF,e⟩,rfl⟩:=e;split at e
 ·cases e
  refine⟨aD,aO,O,F,ε,_,r,bF,λv aK aj x q=>?_⟩
  simp only[Rep] at q;obtain⟨a,vs,rfl,asr,aw⟩:=q;exact⟨a,vs,rfl,asr,k _ aK aj x (aoM asr aw)⟩
 ·cases e
end
end
section
variable [cV]
structure Cl(P:cJ)(w:cB)(K:bb)(mg:Str->Option ak)(base:bX)(x:Str)(k n:Nat)(d:List T->Option T):Prop where
 ex:∃cp fd av,eY P w K mg base eX k cp fd av (spT K n d)/\mg x=some (.ref cp)/\mQ K (.ref cp)=true/\Binds K fd av []
section
variable {P:cJ}{w:cB}{K:bb}{mg:Str->Option ak}{base:bX}{x:Str}{k n:Nat}{d:List T->Option T}
theorem Cl.mono{j:Nat}(c:Cl P w K mg base x j n d)(h:j<=k):Cl P w K mg base x k n d:=by
 obtain⟨cp,fd,av,F,r⟩:=c.ex;exact⟨cp,fd,av,F.mono h,r⟩
def Cl.mk'{cp:asq}{fd:fX}{av:List Str}(F:eY P w K mg base eX k cp fd av (spT K n d))(m:mg x=some (.ref cp))(aC:mQ K (.ref cp)=true)(b:Binds K fd av []):Cl P w K mg base x k n d:=⟨cp,fd,av,F,m,aC,b⟩
end
section
variable {X:bu}{k n:Nat}{d:List T->Option T}{x:Str}{p pos:Pos}{e:bx}{es:List bx}{aA:List bl}
def dM(C:Cl X.prog X.w X.K X.mg X.base x k n d)(aw:dD k X.A)(au:lL X (e::es) aA)(bf:ez X x:=by rfl)(a9:aA.length=n:=by rfl)(gY:(x==("__debug__":Str))=false:=by decide)
  (he:bo (e::es) X.env=(false,eval e X.env)::bo es X.env:=by rfl) (hpl:(dp pos (bo es X.env)).any (·.1)=false:=by rfl):cA X (.Call (.Name x p) (e::es) [] pos) (aX d aA):=by
 obtain⟨cp,fd,av,F,m,aC,b⟩:=C.ex;exact Yz F aw bf m aC b au a9 gY he hpl
def Rm{i:Int}{t:Tok}(hm:X.mg x=some (.int i t))(bf:ez X x:=by rfl)(hd:(x==("__debug__":Str))=false:=by decide):cA X (.Name x pos) (aa (.int i)):=vN (v:=.int i) (U8 (v:=.int i) bf hm ⟨t,rfl⟩ hd) λ_ _=>by simp[Rep]
noncomputable def OK(scope sc:Scope)(N:List Str)(caps:List (Nat×Str)):Bool:=
 decide (scope.kind=.function) && scope.names.all (λy=>(decide (y.2≠.local) || decide (scope.names.lookup y.1=some .local)) && decide (y.2≠.cell) && (decide (y.2≠.free) || decide (sc.names.lookup y.1=some .cell) || decide (sc.names.lookup y.1=some .free)))
  && caps.all (λq=>decide (N[q.1]?=some q.2) && decide (scope.names.lookup q.2=some .free)) && decide ((caps.map (·.1)).Nodup)
def Zg{scope sc:Scope}{own:List Str}{caps:List (Nat×Str)}(N:List Str)(aea:X.env.scope=sc)(eL:X.N=N)(ax:X.calm=true)(h:OK scope sc N caps=true):rF X scope own caps:=by
 simp only[OK,fi,List.all_eq_true,decide_eq_true_eq,Bool.or_eq_true] at h;obtain⟨⟨⟨af,ai⟩,bE⟩,c'⟩:=h;refine⟨af,λy bw aB=>?_,λy bw=>(ai y bw).1.2,λy bw hf=>?_,λq bg=>by rw[eL];exact bE q bg,c',ax⟩
 ·rcases (ai y bw).1.1 with z|z
  ·exact absurd aB z
  ·exact z
 ·have aR:X.env.kindOf y.1=sc.names.lookup y.1:=by rw[<- aea];rfl
  rw[aR];rcases (ai y bw).2 with (z|z)|z
  ·exact absurd hf z
  ·exact .inl z
  ·exact .inr z
end
def fs{P:cJ}{w:cB}{K:bb}{mg:Str->Option ak}{base:bX}{x:Str}{st:Stmt}{f:asq}{fd:fX}{N av:List Str}{k:Nat}{b:bc}(F:cb K x x st f fd)(S:cw N av (bQ st))(bd:Binds K fd av [])(m:mg x=some (.ref f))
  (ab:∀(cR:ak) (A:c3) (outer:List Env) (s:aP) (H:aE) (E:gH),dD k (A.deeper (envOfC x (bQ st) s.heap.objs.size f cR)) ->
   ip (je eX P w K mg base N x (bQ st) f cR A outer s H E).j9 (i' st) b):Cl P w K mg base x (k+1) av.length (cT b N.length):=.mk' (NV F S ab) m F.aC bd
end
end D
end
section
namespace bG
open PySem PySem.Spec PyProof.Rows
section
variable {eI:Type}[DecidableEq eI]
def lq(kvs:List (eI×V))(k:eI):Option V:=(kvs.find? λdw=>decide (dw.1=k)).map (·.2)
def putK(kvs:List (eI×V))(k:eI)(v:V):List (eI×V):=
 if (kvs.any λdw=>decide (dw.1=k))=true then kvs.map (λdw=>if dw.1=k then (dw.1,v) else dw) else kvs++[(k,v)]
def MO{p:eI×V}{r:List (eI×V)}{k:eI}(e:p.1=k):lq (p::r) k=some p.2:=by simp[lq,pV,e]
def MP{p:eI×V}{r:List (eI×V)}{k:eI}(e:¬p.1=k):lq (p::r) k=lq r k:=by simp[lq,pV,e]
theorem Uk(k:eI):∀kvs:List (eI×V),(kvs.any λdw=>decide (dw.1=k))=(lq kvs k).isSome
| []=>rfl
|p::r=>by
  rw[List.any_cons];by_cases e:p.1=k
  ·simp only[MO e,decide_eq_true e,Bool.true_or,Option.isSome_some]
  ·rw[MP e,decide_eq_false e,Bool.false_or];exact Uk k r
def SQ(kvs:List (eI×V))(k:eI)(v:V):(putK kvs k v).length<=kvs.length+1:=by
 unfold putK;split
 ·rw[eT];omega
 ·rw[jo,d_,l5];omega
def j0.aex{o:Option V}{u:Option ak}(r:j0 o u):o.isSome=u.isSome:=by
 cases o with
|none=>cases u with
  |none=>rfl
  |some _=>exact (show False from r).elim
|some _=>cases u with
  |none=>exact (show False from r).elim
  |some _=>rfl
def g9.val{kvs:List (eI×V)}{vs:List (eI×ak)}(r:g9 kvs vs)(k:eI):j0 (lq kvs k) (valueAt vs k):=by
 unfold g9 at r
 induction r with
|nil=>exact True.intro
| @cons p q av om h t bY=>
  obtain⟨af,ai⟩:=h;by_cases e:p.1=k
  ·have bN:q.1=k:=af.symm.trans e;have b:valueAt (q::om) k=some q.2:=by simp[valueAt,pV,bN]
   rw[MO e,b];exact ai
  ·have bN:¬q.1=k:=λz=>e (af.trans z);have b:valueAt (q::om) k=valueAt om k:=by simp[valueAt,pV,bN]
   rw[MP e,b];exact bY
theorem g9.any{kvs:List (eI×V)}{vs:List (eI×ak)}(r:g9 kvs vs)(k:eI):(kvs.any λdw=>decide (dw.1=k))=vs.any λdw=>decide (dw.1=k):=by
 unfold g9 at r
 induction r with
|nil=>rfl
|cons h t bY=>rw[List.any_cons,List.any_cons,bY,h.1]
def g9.K3{kvs:List (eI×V)}{vs:List (eI×ak)}(r:g9 kvs vs)(k:eI){y:V}{u:ak}(bt:RelV y u):
  g9 (kvs.map λdw=>if dw.1=k then (dw.1,y) else dw) (vs.map λdw=>if dw.1=k then (dw.1,u) else dw):=by
 unfold g9 at r ⊢
 induction r with
|nil=>exact .nil
| @cons p q av om h t bY=>
  rw[c9,c9];refine .cons ?_ bY;obtain⟨af,ai⟩:=h;by_cases e:p.1=k
  ·rw[if_pos e,if_pos (af.symm.trans e)];exact⟨af,bt⟩
  ·rw[if_neg e,if_neg (λz=>e (af.trans z))];exact⟨af,ai⟩
def g9.put{kvs:List (eI×V)}{vs:List (eI×ak)}(r:g9 kvs vs)(k:eI){y:V}{u:ak}(bt:RelV y u):g9 (putK kvs k y) (stored vs k u):=by
 unfold putK stored;rw[r.any k];by_cases e:(vs.any λdw=>decide (dw.1=k))=true
 ·rw[if_pos e,if_pos e];exact r.K3 k bt
 ·rw[if_neg e,if_neg e];exact Paired.snoc r ⟨rfl,bt⟩
theorem g9.length{kvs:List (eI×V)}{vs:List (eI×ak)}(r:g9 kvs vs):kvs.length=vs.length:=Paired.length r
end
def DK{P:cJ}{w:cB}{k:Key}{u:ak}(r:RelV (eo k) u):(hl P w).is k u=true:=by
 cases k with
|inl i=>obtain⟨t,e⟩:=(show ∃t,u=Value.int i t from r);subst e;exact SN P w i t
|inr x=>obtain⟨t,e⟩:=(show ∃t,u=Value.str x t from r);subst e;exact SM P w x t
theorem TN{P:cJ}{w:cB}:∀{bp:List Key} {us:List ak},Vals (bp.map eo) us->ItemsAre (hl P w) bp us
| [],_,r=>by rw[g6] at r;cases r;exact .nil
|k::bp,_,r=>by
  rw[c9] at r;cases r with
  |cons h t=>exact .cons (DK h) (TN t)
abbrev KT(H:aE):List (List Key×V)->List (List Key×asq×ak)->Prop:=Paired λp q=>p.1=q.1/\H q.2.1=some (.tup (p.1.map eo))/\RelV p.2 q.2.2
def KT.val{H:aE}{kvs:List (List Key×V)}{xs:List (List Key×asq×ak)}(r:KT H kvs xs)(k:List Key):j0 (lq kvs k) ((atKey xs k).map (·.2)):=by
 induction r with
|nil=>exact True.intro
| @cons p q av om h t bY=>
  obtain⟨af,_,ai⟩:=h;by_cases e:p.1=k
  ·have bN:q.1=k:=af.symm.trans e;have b:atKey (q::om) k=some q.2:=by simp[atKey,pV,bN]
   rw[MO e,b];exact ai
  ·have bN:¬q.1=k:=λz=>e (af.trans z);have b:atKey (q::om) k=atKey om k:=by simp[atKey,pV,bN]
   rw[MP e,b];exact bY
def KT.K3{H:aE}{kvs:List (List Key×V)}{xs:List (List Key×asq×ak)}(r:KT H kvs xs)(k:List Key){y:V}{u:ak}(bt:RelV y u):
  KT H (kvs.map λdw=>if dw.1=k then (dw.1,y) else dw) (xs.map (putAt k u)):=by
 induction r with
|nil=>exact .nil
| @cons p q av om h t bY=>
  rw[c9,c9];refine .cons ?_ bY;obtain⟨af,ai,bE⟩:=h;unfold putAt;by_cases e:p.1=k
  ·rw[if_pos e,if_pos (af.symm.trans e)];exact⟨af,ai,bt⟩
  ·rw[if_neg e,if_neg (λz=>e (af.trans z))];exact⟨af,ai,bE⟩
def KT.put{H:aE}{kvs:List (List Key×V)}{xs:List (List Key×asq×ak)}(r:KT H kvs xs)(k:List Key){b:asq}{y:V}{u:ak}(ab:H b=some (.tup (k.map eo)))(bt:RelV y u):
  KT H (putK kvs k y) (storedH xs k b u):=by
 have e:(kvs.any λdw=>decide (dw.1=k))=(atKey xs k).isSome:=by
  rw[Uk,(r.val k).aex,Option.isSome_map]
 unfold putK storedH;rw[e];by_cases q:(atKey xs k).isSome=true
 ·rw[if_pos q,if_pos q];exact r.K3 k bt
 ·rw[if_neg q,if_neg q];exact Paired.snoc r ⟨rfl,ab,bt⟩
def KT.keeps{H aj:aE}{kvs:List (List Key×V)}{xs:List (List Key×asq×ak)}(r:KT H kvs xs)(aZ:∀b ys,H b=some (.tup ys)->aj b=some (.tup ys)):KT aj kvs xs:=
 Paired.J7 r λ_ _ z=>⟨z.1,aZ _ _ z.2.1,z.2.2⟩
section
variable {P:cJ}{w:cB}{H:aE}{h:bX}{a:asq}
def Wi{u:eD}(ok:e8 P w H h)(e:fN H a u):hX P w H h a u:=e.ok ok
def N9{kvs:List (Key×V)}(ok:e8 P w H h)(e:fN H a (.fx kvs)):kvs.length<=b8/\(a==sysModules)=false/\∃vs,g9 kvs vs/\h.DictOf (hl P w) a vs:=
 show hX P w H h a (.fx kvs) from Wi ok e
def _c{kvs:List (Key×V)}(ok:e8 P w H h)(e:H a=some (.fx kvs)):kvs.length<=b8/\(a==sysModules)=false/\∃vs,g9 kvs vs/\h.DictOf (hl P w) a vs:=N9 ok (.inl e)
def NR{bp:List Key}(ok:e8 P w H h)(e:H a=some (.tup (bp.map eo))):(tupleKind (hl P w)).is h bp a:=by
 obtain⟨_,its,r,o,af,ai,n,bE⟩:=(show hX P w H h a (.tup (bp.map eo)) from ok a _ e);exact⟨o,its.toArray,n,af,ai,bE,by simpa using TN r⟩
def N8{kvs:List (List Key×V)}(ok:e8 P w H h)(e:fN H a (.m' kvs)):kvs.length<=b8/\(a==sysModules)=false /\
  ∃xs,KT H kvs xs/\h.DictOfH (tupleKind (hl P w)) a xs:=by
 obtain⟨z,y,xs,r,o,es,ep,af,ai,bE,c',hA⟩:=(show hX P w H h a (.m' kvs) from Wi ok e);refine⟨z,y,xs,r,o,es,ep,af,ai,bE,c',λx hx=>?_,hA⟩;have all:∀{l:List (List Key×V)} {m:List (List Key×asq×ak)},KT H l m->∀x∈m,(tupleKind (hl P w)).is h x.1 x.2.1:=by
  intro l m q
  induction q with
  |nil=>intro x hx;exact nomatch hx
  | @cons p q av om bg t bY=>
   intro x hx;rcases asu.mp hx with e|hx
   ·subst e;exact NR ok (by rw[<- bg.1];exact bg.2.1)
   ·exact bY x hx
 exact all r x hx
def _a{kvs:List (List Key×V)}(ok:e8 P w H h)(e:H a=some (.m' kvs)):kvs.length<=b8/\(a==sysModules)=false /\
  ∃xs,KT H kvs xs/\h.DictOfH (tupleKind (hl P w)) a xs:=N8 ok (.inl e)
end
noncomputable def qe(H:aE)(a:asq)(y:V)(r:Option V):Prop:=
 (∃kvs k,fN H a (.fx kvs)/\y=eo k/\r=lq kvs k)\/∃kvs k b,fN H a (.m' kvs)/\y=.ref b/\H b=some (.tup (k.map eo))/\r=lq kvs k
noncomputable def rG(H:aE)(a:asq)(y v:V)(aj:aE):Prop:=
 (∃kvs k,H a=some (.fx kvs)/\y=eo k/\kvs.length<b8/\aj=upd H a (.fx (putK kvs k v))) \/
 ∃kvs k b,H a=some (.m' kvs)/\y=.ref b/\H b=some (.tup (k.map eo))/\kvs.length<b8/\aj=upd H a (.m' (putK kvs k v))
theorem qe.k{H:aE}{a:asq}{kvs:List (Key×V)}{k:Key}(e:H a=some (.fx kvs)):qe H a (eo k) (lq kvs k):=.inl ⟨kvs,k,.inl e,rfl,rfl⟩
theorem rG.k{H:aE}{a:asq}{kvs:List (Key×V)}{k:Key}{v:V}(e:H a=some (.fx kvs))(aB:kvs.length<b8):rG H a (eo k) v (upd H a (.fx (putK kvs k v))):=.inl ⟨kvs,k,e,rfl,aB,rfl⟩
section
variable {X:bu}{ah:List (asq×Obj)}{σ:St}{H:aE}{s:aP}{a:asq}{y v:V}{u r:ak}{o:Option V}{A:c3}{E:ak->aP->Prop}
def Inv.big(I:Inv X ah σ H s):sysModules<s.heap.objs.size:=by
 have h:kP<s.heap.objs.size:=(I.mod.glob.keeps I.ht).lt;exact Nat.lt_trans (by decide) h
def TY{Q:ak->aP->Prop}(b4:A.units+1<cLine)(I:Inv X ah σ H s)(g:qe H a y (some v))(bt:RelV y u)(h:∀fg s',Inv X ah σ H s'->RelV v fg->Q fg s'):
  bD (bV X.prog X.w) A (getItem (.ref a) u) Q E s:=by
 rcases g with ⟨kvs,k,e,eV,l⟩|⟨kvs,k,b,e,eV,dz,l⟩
 ·subst eV;obtain⟨z,hd,vs,rel,e_⟩:=N9 I.ck e;obtain⟨fg,hw,iz⟩:=j0.some_of (v:=v) (o:=valueAt vs k) (by rw[l];exact rel.val k);exact wpAny_getItem_of (DK bt) e_.mapOf hw (h fg _ (I.tok _) iz)
 ·subst eV;cases (show u=Value.ref b from bt);obtain⟨z,hd,xs,rel,e_⟩:=N8 I.ck e;obtain⟨fg,hw,iz⟩:=j0.some_of (v:=v) (o:=(atKey xs k).map (·.2)) (by rw[l];exact rel.val k);obtain⟨p,aF,ad8⟩:=d7.mp hw;refine wpAny_getItem_heap (tupleKind_room_in1 b4) (NR I.ck dz) e_ aF ?_;rw[ad8];exact h fg _ (I.tok _) iz
def Vi{h':bX}{t':Nat}{dQ:eD}(I:Inv X ah σ H s)(la:v8 (H a))(asr:Heap.SameBut a s.heap h')(he:∃q,h'.get? a=some q)(new:hX X.prog X.w (upd H a dQ) h' a dQ):
  Inv X ah σ (upd H a dQ) {s with heap:=h',toks:=t'}:=
 I.write (x:=a) (e:=a) la (.inl rfl) (λb q ab z=>(asr.2 b ab).trans z) he new
def Zf{P:cJ}{w:cB}{aj:aE}{h':bX}{kvs:List (Key×V)}{vs:List (Key×ak)}(z:kvs.length<=b8)(hd:(a==sysModules)=false)(rel:g9 kvs vs)(e_:h'.DictOf (hl P w) a vs):
  hX P w aj h' a (.fx kvs):=⟨z,hd,vs,rel,e_⟩
def TX{aj:aE}{Q:Unit->aP->Prop}(b4:A.units+1<cLine)(I:Inv X ah σ H s)(g:rG H a y v aj)(bt:RelV y u)(b0:RelV v r)(h:∀s',Inv X ah σ aj s'->Q () s'):
  bD (bV X.prog X.w) A (setItem (.ref a) u r) Q E s:=by
 rcases g with ⟨kvs,k,e,eV,l,Gx⟩|⟨kvs,k,b,e,eV,dz,l,Gx⟩
 ·subst eV Gx;obtain⟨z,hd,vs,rel,e_⟩:=_c I.ck e;have ar:vs.length<=b8:=by rw[<- rel.length];exact z
  have aB:(putK kvs k v).length<=b8:=by have:=SQ kvs k v;omega
  refine wpAny_setItem_pairs (hsz:=ar) (DK bt) e_ λh' zj asr=>h _ ?_
  have he:∃q,h'.get? a=some q:=let ⟨q,_,_,bg,_⟩:=zj;⟨q,bg⟩;exact Vi I (by rw[e];exact True.intro) asr he (Zf aB hd (rel.put k b0) zj)
 ·subst eV Gx;cases (show u=Value.ref b from bt);obtain⟨z,hd,xs,rel,e_⟩:=_a I.ck e;have ar:xs.length<=b8:=by rw[<- Paired.length rel];exact z
  have aB:(putK kvs k v).length<=b8:=by have:=SQ kvs k v;omega
  refine wpAny_setItem_heap (hsz:=ar) (tupleKind_room_in1 b4) (NR I.ck dz) e_ λh' zj asr=>h _ ?_
  obtain⟨q,es,ep,bg,ai,bE,c',_,hA⟩:=zj;refine Vi I (by rw[e];exact True.intro) asr ⟨q,bg⟩ ⟨aB,hd,_,(rel.put k dz b0).keeps λc ys ha=>?_,q,es,ep,bg,ai,bE,c',hA⟩;rw[cZ (Z2 ha e (λz=>nomatch z))];exact ha
end
def D2(i:bx):Prop:=∀eG j6,subscripted i false eG j6=operate [eG,j6] (getItem eG j6)
def aqp{prog:cJ}{w:cB}{A:c3}{E:ak->aP->Prop}{s:aP}{env:Env}{value slice:bx}{pos:Pos}{T id:String}{Q:ak->aP->Prop}
  (aB:typeLookup (.type T) "__getitem__"=pure (some (.builtin id))) (asr:D2 slice)
  (h:bD (bV prog w) A (eval value env) (λo dk=>bD (bV prog w) A (eval slice env) (λi mL=>mL.TypeIs o T/\bD (bV prog w) A (getItem o i) Q E mL) E dk) E s):
  bD (bV prog w) A (eval (.Subscript value slice pos) env) Q E s:=by
 refine Subscript_ (hT h (λo dk gM=>hT gM (λi mL jE=>?_) λ_ _ x=>x) λ_ _ x=>x)
 obtain⟨eF,jE⟩:=jE;unfold subscriptTail;refine a3 ?_;rw[getitemInPython_of_ne eF.not_modules];refine a3 (wpAny_specialOf eF aB ?_);have fin:bD (bV prog w) A (subscripted slice false o i) (λr uH=>bD (bV prog w) A (letTemporaryGo value o r >>= λ_=>pure r) Q E uH) E mL:=by
  rw[asr o i];exact wpAny_operating (hT jE (λr uH h9=>a3 (wpAny_letTemporaryGo (cG h9))) λ_ _ x=>x)
 first
  |exact cG (a3 fin)
  |exact a3 (cG (a3 fin))
  |exact a3 fin
def anG{X:bu}{ah:List (asq×Obj)}{σ:St}{H:aE}{s:aP}{a:asq}{y:V}{o:Option V}(I:Inv X ah σ H s)(g:qe H a y o):s.TypeIs (.ref a) "dict":=by
 rcases g with ⟨kvs,k,e,_,_⟩|⟨kvs,k,b,e,_,_,_⟩
 ·obtain⟨_,_,vs,_,e_⟩:=N9 I.ck e;exact e_.typeIs
 ·obtain⟨_,_,xs,_,e_⟩:=N8 I.ck e;exact e_.typeIs
def ZE(mN ty:TE):TE:=λσ H Q=>mN σ H λx H1=>ty σ H1 λy bk=>∃a v,x=.ref a/\qe bk a y (some v)/\Q v bk
def ZI(mN ty asC:TE):gG:=λD σ H=>asC σ H λv H1=>mN σ H1 λx bk=>ty σ bk λy dj=>∃a f3,x=.ref a/\rG dj a y v f3/\D.bP σ f3
noncomputable def ZJ(mN ty asC:TE)(kH:V->V->aE->c2->Prop):gG:=λD σ H=>mN σ H λx H1=>ty σ H1 λy bk=>∃a v,x=.ref a/\qe bk a y (some v) /\
 asC σ bk λxu dj=>kH v xu dj λz f3=>∃hZ,rG f3 a y z hZ/\D.bP σ hZ
section
variable {X:bu}{o i e value:bx}{pos pos' Lk:Pos}{mN ty asC:TE}
def aqY(b4:X.A.units+1<cLine)(aH:bR X o mN)(hi:bR X i ty)(asr:D2 i):bR X (.Subscript o i pos) (ZE mN ty):=by
 intro ah s σ H Q I h;refine aqp PySem.F.slot_dict_getitem.lookup asr (cq (aH ah s σ H _ I h) λu s1 ⟨x,H1,a8,aL,aQ⟩=>cq (hi ah s1 σ H1 _ a8 aQ) λj6 s2 ⟨y,bk,cx,bt,a,v,ex,g,a7⟩=>?_);subst ex;obtain rfl:u=Value.ref a:=aL;exact⟨anG cx g,TY b4 cx g bt λfg s3 dW iz=>⟨v,bk,dW,iz,a7⟩⟩
def aqP(b4:X.A.units+1<cLine)(aH:bR X o mN)(hi:bR X i ty)(bq:bR X value asC)(asr:kh value (some (.Subscript o i pos')) pos.line X.env=pure false):
  jY X (.Assign [.Subscript o i pos'] value pos) (ZI mN ty asC):=by
 intro ah s σ H D I h;refine wpAny_Assign_Subscript (cq (bq ah s σ H _ I h) λr s1 ⟨v,H1,a8,b0,aQ⟩=>cq (aH ah s1 σ H1 _ a8 aQ) λu s2 ⟨x,bk,cx,aL,a7⟩=>cq (hi ah s2 σ bk _ cx a7) λj6 s3 ⟨y,dj,dW,bt,a,f3,ex,g,cL⟩=>?_) asr;subst ex;obtain rfl:u=Value.ref a:=aL;exact TX b4 dW g bt b0 λs4 jt=>⟨σ,f3,jt,cL⟩
def aqQ{op:Operator}{kH:V->V->aE->c2->Prop}(b4:X.A.units+1<cLine)(aH:bR X o mN)(hi:bR X i ty)(bq:bR X value asC)(Hv:DY X op kH)
  (au:∀eG j6 new,augStore i eG j6 new=(do holding [new,eG,j6] (setItem eG j6 new);release [new,eG,j6] [];pure .next)):jY X (.AugAssign (.Subscript o i Lk) op value pos) (ZJ mN ty asC kH):=by
 intro ah s σ H D I h;refine wpAny_AugAssign_SubscriptAny (cq (aH ah s σ H _ I h) λu s1 ⟨x,H1,a8,aL,aQ⟩=>cq (hi ah s1 σ H1 _ a8 aQ) λj6 s2 ⟨y,bk,cx,bt,a,v,ex,g,a7⟩=>?_) au;subst ex;obtain rfl:u=Value.ref a:=aL;refine TY b4 cx g bt λfg s3 dW iz=>cq (bq ah s3 σ bk _ dW a7) λuN s4 ⟨xu,dj,jt,ajU,cL⟩=>cq (Hv ah s4 σ dj v xu fg uN _ jt iz ajU cL) λqV s5 ⟨z,f3,oZ,K4,hZ,mx,ib⟩=>?_;exact TX b4 oZ mx bt K4 λg4 v5=>⟨σ,hZ,v5,ib⟩
end
end bG
end
section
namespace D
open PySem PySem.Spec PyProof.Rows bG
variable [cV]
section
variable {K:bb}{F:asq->Prop}{H:aE}
theorem ed.get{k:D.Key}{t:T}:∀{kvs:List (D.Key×T)} {vs:List (D.Key×V)},ed K F H kvs vs->D.getD kvs k=some t->∃v,lq vs k=some v/\Rep K F H t v
| [],vs,h,e=>by cases e
|p::r,vs,h,e=>by
  obtain⟨v,w,rfl,q,z⟩:=h;simp only[D.getD,lq,pV] at e ⊢;by_cases bN:p.1=k
  ·simp[bN] at e ⊢;subst e;exact q
  ·simp[bN] at e ⊢;have:=ed.get (k:=k) (t:=t) z (by simpa [D.getD] using e);simpa [lq] using this
theorem ed.length:∀{kvs:List (D.Key×T)} {vs:List (D.Key×V)},ed K F H kvs vs->kvs.length=vs.length
| [],vs,h=>by
  have:vs=[]:=h;subst this;rfl
|p::r,vs,h=>by
  obtain⟨v,w,rfl,q,z⟩:=h;simp[ed.length z]
theorem ed.append:∀{kvs us:List (D.Key×T)} {vs ws:List (D.Key×V)},ed K F H kvs vs->ed K F H us ws->ed K F H (kvs++us) (vs++ws)
| [],us,vs,ws,h,r=>by
  have:vs=[]:=h;subst this;exact r
|p::q,us,vs,ws,h,r=>by
  obtain⟨v,w,rfl,d6,z⟩:=h;exact⟨v,w++ws,rfl,d6,ed.append z r⟩
theorem ed.J8{k:D.Key}{t:T}{v:V}:∀{kvs:List (D.Key×T)} {vs:List (D.Key×V)},ed K F H kvs vs->Rep K F H t v->ed K F H (kvs.map λp=>if p.1=k then (k,t) else p) (vs.map λdw=>if dw.1=k then (dw.1,v) else dw)
| [],vs,h,q=>by
  have:vs=[]:=h;subst this;rfl
|p::r,vs,h,q=>by
  obtain⟨kc,w,rfl,d6,z⟩:=h;simp only[c9];by_cases e:p.1=k
  ·rw[if_pos e,if_pos e];exact⟨v,_,by rw[e],q,ed.J8 z q⟩
  ·rw[if_neg e,if_neg e];exact⟨kc,_,rfl,d6,ed.J8 z q⟩
def ed.put{k:D.Key}{t:T}{v:V}{kvs:List (D.Key×T)}{vs:List (D.Key×V)}(h:ed K F H kvs vs)(q:Rep K F H t v):ed K F H (putD kvs k t) (putK vs k v):=by
 have au:(kvs.any λp=>decide (p.1=k))=(vs.any λdw=>decide (dw.1=k)):=by
  clear q
  induction kvs generalizing vs with
  |nil=>
   have:vs=[]:=h;subst this;rfl
  |cons p r bY=>
   obtain⟨v,w,rfl,d6,z⟩:=h;simp only[List.any_cons,bY z]
 unfold putD putK;rw[au];split
 ·exact ed.J8 h q
 ·exact h.append ⟨v,[],rfl,q,rfl⟩
def tB{t:T}{k:D.Key}{v:V}{O:asq->Prop}(e:keyOf t=some k)(r:f6 K O F H t v):v=eo k:=by
 unfold keyOf at e;split at e
 ·cases e
  exact r.int
 ·cases e
  exact r.str
 ·cases e
end
section
variable {X:bu}{a b e:bx}{f g:bl}{pos:Pos}
variable {x:Str}{iX:Pos}
def Zv{R:TE}{h:bl}(k:∀σ H Q,xo X.K h σ H Q->R σ H Q):∀σ H Q,Bi X.K (bB h) σ H Q->bG.La R σ H Q:=λσ H Q ⟨aD,aO,O,F,ε,b,r,e,bL⟩=>by
 simp only[bB,b7] at e;obtain⟨t,bF,e⟩:=e;split at e
 ·cases e
  refine k σ H _ ⟨aD,aO,O,F,ε,_,r,bF,λv aK aj x q=>?_⟩
  simp only[Rep] at q;exact⟨_,q,bL aK aj x⟩
 ·cases e
end
end D
end
section
namespace D
open PySem
variable [cV]
end D
end
section
namespace D
open PySem PySem.Spec PyProof.Rows bG
section
variable [cV]
theorem VN{α β:Type}{R:α->β->Prop}:∀{l:List α} {bp:List β},Paired R l bp->l.length=bp.length
|_,_,.nil=>rfl
|_,_,.cons a b=>by simp[VN b]
section
variable {prog:cJ}{w:cB}{K:Type}[DecidableEq K](knd:PySem.KeyKind prog w K)
variable {knd}{A:c3}{E:ak->aP->Prop}{s:aP}
def tU(knd:PySem.KeyKind prog w K)(v:ak)(k:K):Prop:=knd.is k v=true/\v.scannable=true
end
end
section
variable [cV]
section
variable {prog:cJ}{w:cB}{K:Type}[DecidableEq K]{knd:PySem.KeyKind prog w K}{A:c3}{E:ak->aP->Prop}{s:aP}{a:asq}{bp:List K}
def anI{R:List ak->aP->Prop}{T:String}{r d:asq}{n:Nat}{P:Nat->ak->Prop}{rJ:bX->Prop}(W:PySem.W.KdlSrc prog w T r d n P rJ)(cK:A.handled=none)(ck:rJ s.heap)(a9:n<=b8)
  (h:∀(h':bX) (tk:Nat) (acc:Array ak),(∀b o,s.heap.get? b=some o->h'.get? b=some o)->s.heap.objs.size<=h'.objs.size->ItemsOf P acc n->R acc.toList {s with heap:=h',toks:=tk}):
  bD (bV prog w) A (collect (.ref r)) R E s:=by
 have gc:=W.there _ ck;unfold collect;refine a3 (wpAny_runValue (u0 entry_proto_collect' ?_));rw[uW PySem.F.plain_proto_collect _];show bD _ A.in1 (newList [] >>= λl=>again (.builtin "list.__iadd__" ⟨[l,.ref r],[]⟩)) _ _ s;refine a3 (pX ?_);refine cG ⟨plainId_quiet PySem.F.plain_list_iadd _,u0 entry_list_iadd' ?_⟩;rw[uW PySem.F.plain_list_iadd _];have adp:(s.heap.push {cls:=.type "list",data:=.seq ([]:List ak).toArray}).get? s.heap.objs.size=some {cls:=.type "list",data:=.seq #[]}:=gA _ rfl;show bD _ A.in1 (Builtin.List.listExtendWith (.ref s.heap.objs.size) (.ref r) (.ref s.heap.objs.size)) _ _ _;have key:=PySem.W.kdl_extend (A:=A) (s:={s with heap:=s.heap.push {cls:=.type "list",data:=.seq ([]:List ak).toArray} })
  (R:=λ(q:Result) (s':aP)=>∃(h':bX) (tk:Nat) (qk:Array ak) (el:Nat),q=.ok (.ret (.ref s.heap.objs.size))/\s'={s with heap:=h',toks:=tk} /\
   (∀b o,s.heap.get? b=some o->h'.get? b=some o)/\h'.get? s.heap.objs.size=some {cls:=.type "list",dict:=none,data:=.seq qk el,slots:=#[]}/\ItemsOf P qk n)
  W cK (W.keep _ _ ck λb _ o e=>c8 _ e) s.heap.objs.size (hS gc.1) (hS gc.2) (.ref s.heap.objs.size) 0 adp
  (λh' tk qk el aR asU lR=>⟨h',tk,qk,el,rfl,rfl,λb o e=>aR b o (fh (c0 e)) (c8 _ e),asU,lR⟩) a9
 refine hT key (λfin s' x=>?_) λe s' x=>?_
 ·cases fin with
  |done f=>
   obtain⟨h',tk,qk,el,e,rfl,aR,asU,lR⟩:=x;cases e;show bD _ A (load s.heap.objs.size >>= _) _ _ _;refine a3 (wpAny_load asU ?_);exact cG (h h' tk qk aR (Nat.le_of_lt (c0 asU)) lR)
  |again c₁=>
   refine⟨x.1,codeAny_mono x.2 λq mL y=>?_⟩
   obtain⟨h',tk,qk,el,rfl,rfl,aR,asU,lR⟩:=y;show bD _ A (load s.heap.objs.size >>= _) _ _ _;refine a3 (wpAny_load asU ?_);exact cG (h h' tk qk aR (Nat.le_of_lt (c0 asU)) lR)
 ·obtain⟨_,_,_,_,bN,_⟩:=x;cases bN
end
end
section
variable [cV]
theorem L3{α:Type}{r:α->α->Prop}(OS:∀a b,r a b->r b a->a=b):∀{l m:List α},l.Perm m->l.Pairwise r->m.Pairwise r->l=m
| [],m,p,_,_=>(List.Perm.nil_eq p)
|a::l,m,p,af,ai=>by
  cases m with
  |nil=>exact absurd p.length_eq (by simp)
  |cons b m=>
   have Qn:a=b:=by
    have au:a∈b::m:=p.mem_iff.mp (by simp);have ab:b∈a::l:=p.mem_iff.mpr (by simp);rcases asu.mp au with q|q
    ·exact q
    ·rcases asu.mp ab with z|z
     ·exact z.symm
     ·exact OS a b ((l0.mp af).1 b z) ((l0.mp ai).1 a q)
   subst Qn;rw[L3 OS (List.perm_cons a |>.mp p) (l0.mp af).2 (l0.mp ai).2]
theorem insI_perm(x:Int):∀l:List Int,(insI x l).Perm (x::l)
| []=>.rfl
|y::ys=>by
  unfold insI;split
  ·exact .rfl
  ·exact ((insI_perm x ys).cons y).trans (.swap _ _ _)
theorem sortI_perm:∀l:List Int,(sortI l).Perm l
| []=>.rfl
|x::xs=>(insI_perm x _).trans ((sortI_perm xs).cons x)
theorem Vd(x:Int):∀{l:List Int},l.Pairwise (·<=·)->(insI x l).Pairwise (·<=·)
| [],_=>by simp[insI]
|y::ys,h=>by
  unfold insI;have h':=l0.mp h;split
  next q=>exact l0.mpr ⟨λz ar=>by
   rcases asu.mp ar with rfl|ar
   ·exact q
   ·exact Int.le_trans q (h'.1 z ar),h⟩
  next q=>exact l0.mpr ⟨λz ar=>by
   rcases asu.mp ((insI_perm x ys).mem_iff.mp ar) with rfl|ar
   ·omega
   ·exact h'.1 z ar,Vd x h'.2⟩
theorem MU:∀l:List Int,(sortI l).Pairwise (·<=·)
| []=>.nil
|x::xs=>Vd x (MU xs)
def Ut{l m:List Int}(p:l.Perm m)(h:l.Pairwise (·<=·)):l=sortI m:=L3 (λa b af ai=>Int.le_antisymm af ai) (p.trans (sortI_perm m).symm) h (MU m)
def ank{l m:List Int}(p:l.Perm m):sortI l=sortI m:=Ut ((sortI_perm l).trans p) (MU l)
abbrev asD(x y:Str):Prop:=strLt y x=false
def apd(x y:Str):strLt x y=ltCps x.cps.toList y.cps.toList:=(ltCps_eq _ _).symm
def aox{x y:Str}(h:strLt x y=true):asD x y:=by
 unfold asD strLt at *;simp only[decide_eq_true_eq,decide_eq_false_iff_not] at *;exact List.lt_asymm h
def Tw{x y z:Str}(af:asD x y)(ai:asD y z):asD x z:=by
 unfold asD strLt at *;simp only[decide_eq_false_iff_not] at *;exact List.not_lt.mpr (List.le_trans (List.not_lt.mp af) (List.not_lt.mp ai))
def apq{x y:Str}(af:asD x y)(ai:asD y x):x=y:=by
 unfold asD strLt at *;simp only[decide_eq_false_iff_not] at *;have e:x.cps.toList=y.cps.toList:=List.le_antisymm (List.not_lt.mp af) (List.not_lt.mp ai);cases x;cases y;simp only[Array.toList_inj] at e;exact congrArg _ e
theorem MH(x:Str):∀l:List Str,(so x l).Perm (x::l)
| []=>.rfl
|y::ys=>by
  unfold so;split
  ·exact .rfl
  ·exact ((MH x ys).cons y).trans (.swap _ _ _)
theorem vb:∀l:List Str,(kn l).Perm l
| []=>.rfl
|x::xs=>(MH x _).trans ((vb xs).cons x)
theorem Vc(x:Str):∀{l:List Str},l.Pairwise asD->(so x l).Pairwise asD
| [],_=>by simp[so]
|y::ys,h=>by
  unfold so;have h':=l0.mp h;split
  next q=>
   have d6:asD x y:=by simpa [asD] using q
   exact l0.mpr ⟨λz ar=>by
    rcases asu.mp ar with rfl|ar
    ·exact d6
    ·exact Tw d6 (h'.1 z ar),h⟩
  next q=>
   have d6:strLt y x=true:=by simpa using q
   exact l0.mpr ⟨λz ar=>by
    rcases asu.mp ((MH x ys).mem_iff.mp ar) with rfl|ar
    ·exact aox d6
    ·exact h'.1 z ar,Vc x h'.2⟩
theorem MT:∀l:List Str,(kn l).Pairwise asD
| []=>.nil
|x::xs=>Vc x (MT xs)
def Us{l m:List Str}(p:l.Perm m)(h:l.Pairwise asD):l=kn m:=L3 (λa b af ai=>apq af ai) (p.trans (vb m).symm) h (MT m)
def anj{l m:List Str}(p:l.Perm m):kn l=kn m:=Us ((vb l).trans p) (MT l)
theorem S5:∀(l:List Str) (p:Str),risingS p l=true->(p::l).Pairwise asD
| [],p,_=>by simp
|x::r,p,h=>by
  simp only[risingS,fi,Bool.not_eq_true'] at h;have bY:=S5 r x h.2;have QH:asD p x:=by
   unfold asD;rw[apd];exact h.1
  refine l0.mpr ⟨λz ar=>?_,bY⟩
  rcases asu.mp ar with rfl|ar
  ·exact QH
  ·exact Tw QH ((l0.mp bY).1 z ar)
def anP{l:List Str}(h:sortedS l=true):l.Pairwise asD:=by
 cases l with
|nil=>exact .nil
|cons x r=>exact S5 r x h
end
section
variable [cV]
section
variable {prog:cJ}{w:cB}{A:c3}{E:ak->aP->Prop}{s:aP}
inductive wb:List ak->List ak->Prop where
|KC {vs out:List ak} {ns:List Int}:IntsAre vs ns->IntsAre out (sortI ns)->wb vs out
|KD {vs out:List ak} {ss:List Str}:StrsAre vs ss->StrsAre out (kn ss)->wb vs out
def M'(vs:List ak):Prop:=vs.length<64/\((∃ns,IntsAre vs ns)\/∃ss,StrsAre vs ss)
def sortedHeap_at{h:bX}{a:asq}{vs:List ak}{n:Nat}{out:Array ak}(aH:h.get? a=some (seqObj "list" vs.toArray n)):
  (∃e,(sortedHeap h a vs out).get? a=some (seqObj "list" out e))/\∀b o,b≠a->h.get? b=some o->(sortedHeap h a vs out).get? b=some o:=by
 have gc:=c0 aH;unfold sortedHeap;refine⟨?_,λb o ab e=>?_⟩
 ·have af:=get?_update_seq aH (λ_=>(#[]:Array ak));have ai:=c8 (seqObj "tuple" vs.toArray 0) af;have bE:=c8 (seqObj "list" #[] 0) ai;exact⟨_,get?_update_seq bE (λ_=>out)⟩
 ·rw[Bx _ _ (Ne.symm ab)];exact c8 _ (c8 _ ((Bx _ _ (Ne.symm ab)).trans e))
def aot{a:asq}{vs:List ak}{n:Nat}{P:Fin->aP->Prop}(aH:s.heap.get? a=some (seqObj "list" vs.toArray n))(asr:M' vs)
  (h:∀out:Array ak,wb vs out.toList->P (.done (.ret .none)) {s with heap:=sortedHeap s.heap a vs out}):bD (bV prog w) A (Builtin.«list.sort» ⟨[.ref a],[]⟩) P E s:=by
 obtain⟨z3,⟨ns,qx⟩|⟨ss,e3⟩⟩:=asr
 ·refine list_sort_tree aH qx z3 λout Kw a1 a2 m9=>h out (.KC qx ?_)
  rw[<- Ut a2 m9];exact a1
 ·refine list_sort_treeK strKind_oneLt aH e3.keysOf (λasn aso rest e=>keyKind_strs (by rw[<- e];exact e3)) z3 λjj aF asr=>?_
  obtain⟨K',af,ai,bE⟩:=sorted_out_str e3 aF asr;refine h _ (.KD e3 ?_);rw[<- Us ai (anP bE)];exact af
def ani{r:asq}{C:List ak->Prop}{Q:ak->aP->Prop}
  (adE:∀(oV:ak->aP->Prop) (R:List ak->aP->Prop),(∀h' tk d vs,(∀b o,s.heap.get? b=some o->h'.get? b=some o)->s.heap.objs.size<=h'.objs.size->C vs->R vs {s with heap:=h',toks:=tk,drawn:=d})->bD (bV prog w) A.in1 (collect (.ref r)) R oV s)
  (hC:∀vs,C vs->M' vs)
  (h:∀h' tk d D e vs out,C vs->wb vs out->(∀b o,s.heap.get? b=some o->h'.get? b=some o)->s.heap.objs.size<=D->h'.get? D=some (seqObj "list" out.toArray e)->Q (.ref D) {s with heap:=h',toks:=tk,drawn:=d}):
  bD (bV prog w) A (call (.builtin "sorted") [.ref r]) Q E s:=by
 refine Calls.call_function_entry kind_sorted plain_sorted entry_sorted (args_sorted1 _) ?_
 unfold Builtin.«sorted»;refine a3 (m:=checkCount "sorted" 1 1 _) (cG ?_);refine a3 (adE _ _ λh' tk d vs aC hsz c=>?_);have asr:=hC vs c;have ar:vs.length<=b8:=by
  have:=asr.1;rw[mT];omega
 refine a3 (wpAny_newList ?_ ar)
 have wJ:(h'.push (seqObj "list" vs.toArray 0)).get? h'.objs.size=some (seqObj "list" vs.toArray 0):=gA _ rfl;refine a3 (ov (ox slot_list_sort ⟨_,wJ,rfl⟩ entry_list_sort (aot wJ asr λout uG=>⟨_,rfl,?_⟩) (args_list_sort _)));obtain⟨⟨e,he⟩,aR⟩:=sortedHeap_at (out:=out) wJ;refine cG ⟨_,rfl,?_⟩;exact h _ tk d h'.objs.size e vs out.toList c uG (λb o q=>aR b o (fh (c0 (aC b o q))) (c8 _ (aC b o q))) hsz he
end
section
variable {X:bu}{ah:List (asq×Obj)}{σ:bG.St}{H:aE}{s:aP}
def MF{a:asq}{o:eD}{t':Nat}{d':Drawn}{h':bX}(I:Inv X ah σ H s)(k:∀b u,s.heap.get? b=some u->h'.get? b=some u)(aF:s.heap.objs.size<=a)(new:hX X.prog X.w (upd H a o) h' a o):
  Inv X ah σ (upd H a o) {s with heap:=h',toks:=t',drawn:=d'}:=
 I.call (ch:=[]) (g':=s.gens) (hs.laid k aF (I.ck.fresh aF)) (I.ck.laid k aF new) I.bare λ_ z=>nomatch z
theorem MG:∀{us:List ak} {ns:List Int},IntsAre us ns->Vals (ns.map V.int) us
|_,_,.nil=>.nil
|_,_,.cons n t r=>.cons ⟨t,rfl⟩ (MG r)
theorem MA:∀{us:List ak} {ss:List Str},StrsAre us ss->Vals (ss.map V.str) us
|_,_,.nil=>.nil
|_,_,.cons n t r=>.cons ⟨t,rfl⟩ (MA r)
theorem Mz:∀{us:List ak} {bp:List bG.Key},Vals (bp.map eo) us->Paired (tU (hl X.prog X.w)) us bp
| [],[],_=>.nil
|_,.inl i::bp,.cons r rs=>by
  obtain⟨t,rfl⟩:=r;exact .cons ⟨SN _ _ i t,rfl⟩ (Mz rs)
|_,.inr x::bp,.cons r rs=>by
  obtain⟨t,rfl⟩:=r;exact .cons ⟨SM _ _ x t,rfl⟩ (Mz rs)
theorem MD:∀{us:List ak} {bp:List bG.Key} {ns:List Int},Paired (tU (hl X.prog X.w)) us bp->bp=ns.map Sum.inl->IntsAre us ns
|_,_,[],.nil,_=>.nil
|_,_,n::ns,.cons a b,e=>by
  cases e
  have a1:=a.1;rw[Tf] at a1;rcases nG a1 with ⟨i,t,aG,rfl⟩|⟨x,t,aG,rfl⟩
  ·cases aG
   exact .cons _ t (MD b rfl)
  ·cases aG
theorem MB:∀{us:List ak} {bp:List bG.Key} {ss:List Str},Paired (tU (hl X.prog X.w)) us bp->bp=ss.map Sum.inr->StrsAre us ss
|_,_,[],.nil,_=>.nil
|_,_,n::ns,.cons a b,e=>by
  cases e
  have a1:=a.1;rw[Tf] at a1;rcases nG a1 with ⟨i,t,aG,rfl⟩|⟨x,t,aG,rfl⟩
  ·cases aG
  ·cases aG
   exact .cons _ t (MB b rfl)
def Ca{α β:Type}(f:α->β):∀{l:List α} {m:List β},m.Perm (l.map f)->∃oe:List α,m=oe.map f/\oe.Perm l:=by
 intro l m p;generalize hx:l.map f=lf at p
 induction p generalizing l with
|nil=>
  rw[List.map_eq_nil_iff] at hx;subst hx;exact⟨[],rfl,.rfl⟩
|cons x _ bY=>
  cases l with
  |nil=>cases hx
  |cons a r=>
   simp only[c9,List.cons.injEq] at hx;obtain⟨oe,e,q⟩:=bY hx.2;exact⟨a::oe,by rw[c9,hx.1,e],q.cons a⟩
|swap x y r=>
  match l,hx with
  |a::b::b_,hx=>
   simp only[c9,List.cons.injEq] at hx;exact⟨b::a::b_,by rw[c9,c9,hx.1,hx.2.1,hx.2.2],.swap _ _ _⟩
|trans _ _ bT bW=>
  obtain⟨bZ,aG,aQ⟩:=bW hx;obtain⟨b1,aS,a7⟩:=bT aG.symm;exact⟨b1,aS,a7.trans aQ⟩
def DE(bp:List bG.Key)(ys:List V):Prop:=(∃ns:List Int,bp=ns.map Sum.inl/\ys=(sortI ns).map V.int)\/∃ss:List Str,bp=ss.map Sum.inr/\ys=(kn ss).map V.str
def apj{vs out:List ak}{bp wY:List bG.Key}{ys:List V}(bq:Paired (tU (hl X.prog X.w)) vs wY)(aF:wY.Perm bp)(uG:wb vs out)(aR:DE bp ys):Vals ys out:=by
 rcases aR with ⟨ns,rfl,rfl⟩|⟨ss,rfl,rfl⟩
 ·obtain⟨Kw,rfl,nu⟩:=Ca Sum.inl aF;have qx:=MD bq rfl;cases uG with
  |KC a b=>
   rename_i ms
   rw[<- ank nu,show Kw=ms from ?_]
   ·exact MG b
   ·rw[<- IntsAre.numsOf qx,<- IntsAre.numsOf a]
  |KD a b=>
   cases a with
   |nil=>
    cases qx
    have:ns=[]:=List.Perm.eq_nil nu.symm;subst this;exact MA b
   |cons x t _=>cases qx
 ·obtain⟨K',rfl,nu⟩:=Ca Sum.inr aF;have e3:=MB bq rfl;cases uG with
  |KD a b=>
   rename_i ms
   rw[<- anj nu,show K'=ms from ?_]
   ·exact MA b
   ·rw[<- StrsAre.strs e3,<- StrsAre.strs a]
  |KC a b=>
   cases a with
   |nil=>
    cases e3
    have:ss=[]:=List.Perm.eq_nil nu.symm;subst this;exact MG b
   |cons x t _=>cases e3
def amS{vs:List ak}{bp wY:List bG.Key}{ys:List V}(ar:bp.length<64)(bq:Paired (tU (hl X.prog X.w)) vs wY)(aF:wY.Perm bp)(aR:DE bp ys):M' vs:=by
 refine⟨by rw[VN bq,aF.length_eq];exact ar,?_⟩
 rcases aR with ⟨ns,rfl,_⟩|⟨ss,rfl,_⟩
 ·obtain⟨Kw,rfl,_⟩:=Ca Sum.inl aF;exact .inl ⟨_,MD bq rfl⟩
 ·obtain⟨K',rfl,_⟩:=Ca Sum.inr aF;exact .inr ⟨_,MB bq rfl⟩
def aou{bp:List bG.Key}{ys:List V}(h:DE bp ys):ys.length=bp.length:=by
 rcases h with ⟨ns,rfl,rfl⟩|⟨ss,rfl,rfl⟩
 ·simp[(sortI_perm ns).length_eq]
 ·simp[(vb ss).length_eq]
theorem U':∀{kvs:List (bG.Key×V)} {vs:List (bG.Key×ak)},g9 kvs vs->kvs.map (·.1)=vs.map (·.1)
|_,_,.nil=>rfl
|_,_,.cons a b=>by simp[a.1,U' b]
def anb(ax:X.calm=true):kr X (.builtin "sorted") (λxs H Q=>∃p bp ys,xs=[.ref p]/\fP X.K H p (bp.map eo)/\bp.length<64/\DE bp ys/\∀l,H l=none->Q (.ref l) (upd H l (.lst ys))):=by
 intro ah s σ H xs us Q I r h;obtain⟨p,bp,ys,rfl,bg,ar,aR,q⟩:=h;obtain⟨u,rfl,aL⟩:=vals1 r;cases aL;obtain⟨its,b_,pl,pB⟩:=I.list bg;have hlen:=b_.length;rw[eT] at hlen;have hit:Paired (tU (hl X.prog X.w)) its bp:=Mz (by simpa using b_);refine ani (C:=λus=>us=its) (λoV R k9=>collect_list pl.isList (k9 _ s.toks s.drawn its (λb o e=>?_) ?_ rfl) (by rw[mT];omega)) (λus b4=>by subst b4;exact amS ar hit .rfl aR) λh' tk d D e us out b4 uG aC kC he=>?_
 ·exact (Bx _ _ (hS (c0 e))).trans (c8 _ e)
 ·rw[Heap.size_update,kR];exact fj _
 ·subst b4;exact⟨.ref D,_,MF I (o:=.lst ys) aC kC ⟨by rw[aou aR,mT];omega,out,e,apj hit .rfl uG aR,he⟩,rfl,q _ (I.ck.fresh kC)⟩
end
end
section
variable [cV]
theorem CM:∀{ts:List T} {ss:List Str},strsOf ts=some ss->ts=ss.map .str
| [],ns,e=>by
  cases e
  rfl
|t::ts,ns,e=>by
  unfold strsOf at e;split at e
  ·rename_i h
   cases h
  ·rename_i h
   cases h
   simp only[d7] at e;obtain⟨r,aG,rfl⟩:=e;rw[CM aG];rfl
  ·cases e
section
variable {K:bb}{F:asq->Prop}{H:aE}
theorem Tx:∀(ns:List Int),bz K F H (ns.map .int) (ns.map V.int)
| []=>bz.nil
|n::ns=>bz.cons (by simp[Rep]) (Tx ns)
theorem CW:∀(ns:List Str),bz K F H (ns.map .str) (ns.map V.str)
| []=>bz.nil
|n::ns=>bz.cons (by simp[Rep]) (CW ns)
theorem x2:∀{ns:List Str} {vs:List V},bz K F H (ns.map .str) vs->vs=ns.map V.str
| [],vs,h=>by simpa [bz] using h
|n::ns,vs,h=>by
  simp only[c9,bz,Rep] at h;obtain⟨v,r,rfl,rfl,z⟩:=h;rw[x2 z];rfl
end
end
section
variable [cV]
section
variable {X:bu}{a b e:bx}{es rest:List bx}{f g:bl}{aA:List bl}{p ej pos mI:Pos}
def rm{op:BoolOp}(h:cA X a f):cA X (.BoolOp op [a] pos) f:=VL h
def OA{op:BoolOp}(h:cA X a f):cA X (.BoolOp op [a] pos) f:=VL h
def m2(au:cA X a f)(ab:cA X (.BoolOp .And (b::rest) pos) g):cA X (.BoolOp .And (a::b::rest) pos) (h2 f g):=dn (YS au ab) λσ H Q ⟨aD,aO,O,F,ε,t,r,e,k⟩=>by
 simp only[h2,b7] at e;obtain⟨x,ex,e⟩:=e;refine⟨aD,aO,O,F,ε,x,r,ex,λv aY H1 aM aL=>?_⟩;split at e
 ·simp only[Rep] at aL;refine⟨true,aL,?_⟩;rw[if_pos rfl];exact⟨aD,aO,O,aY,ε,t,r.ext aM,e,λv aK aj bK q=>k v aK aj (aM.trans bK) q⟩
 ·cases e
  simp only[Rep] at aL;refine⟨false,aL,?_⟩;rw[if_neg (by decide)];exact k _ aY H1 aM (by simp[Rep])
 ·cases e
def KX(au:cA X a f)(ab:cA X (.BoolOp .Or (b::rest) pos) g):cA X (.BoolOp .Or (a::b::rest) pos) (oj f g):=dn (ZX au ab) λσ H Q ⟨aD,aO,O,F,ε,t,r,e,k⟩=>by
 simp only[oj,b7] at e;obtain⟨x,ex,e⟩:=e;refine⟨aD,aO,O,F,ε,x,r,ex,λv aY H1 aM aL=>?_⟩;split at e
 ·simp only[Rep] at aL;refine⟨false,aL,?_⟩;rw[if_neg (by decide)];exact⟨aD,aO,O,aY,ε,t,r.ext aM,e,λv aK aj bK q=>k v aK aj (aM.trans bK) q⟩
 ·cases e
  simp only[Rep] at aL;refine⟨true,aL,?_⟩;rw[if_pos rfl];exact k _ aY H1 aM (by simp[Rep])
 ·cases e
def ZP(au:cA X a f):cA X (.UnaryOp .Not a pos) (as5 f):=dn (YM au) λσ H Q ⟨aD,aO,O,F,ε,t,r,e,k⟩=>by
 simp only[as5,b7] at e;obtain⟨x,ex,e⟩:=e;refine⟨aD,aO,O,F,ε,x,r,ex,λv aY H1 aM aL=>?_⟩;split at e
 ·cases e
  simp only[Rep] at aL;exact⟨_,aL,k _ aY H1 aM (by simp[Rep])⟩
 ·cases e
def uJ(K:bb)(f:Ev->Option (Option Int)):b9:=λσ H Q=>∃aD aO O F ε i,cP K aD aO O F H ε σ/\f ε=some i/\∀aK aj,Ext F H aK aj->Q i aj
def Wd{x:Option bx}{t t':b9}(h:mj X x t)(k:∀σ H Q,t' σ H Q->t σ H Q):mj X x t':=λah s σ H Q I q=>h ah s σ H Q I (k σ H Q q)
def Dw:mj X none (uJ X.K optN):=Wd aqS λσ H Q ⟨aD,aO,O,F,ε,i,r,e,k⟩=>by
 cases e
 exact k F H (Ext.refl r.cy)
def Dv(h:dd X a f):mj X (some a) (uJ X.K (opt f)):=Wd (aqR h) λσ H Q ⟨aD,aO,O,F,ε,i,r,e,k⟩=>by
 simp only[opt,b7] at e;obtain⟨x,ex,e⟩:=e;refine⟨aD,aO,O,F,ε,x,r,ex,λv aY H1 aM aL=>?_⟩;split at e
 ·cases e
  exact⟨_,aL.int,k aY H1 aM⟩
 ·cases e
noncomputable def ajN(K:bb):V->Option Int->Option Int->aE->c2->Prop:=λx lo hi H Q=>∃a xs,x=.ref a/\cX K H a xs/\(eZ.cu xs.length 0 lo=0/\eZ.cu xs.length xs.length hi=xs.length)/\Q (.ref a) H
def amb{prog:cJ}{w:cB}{A:c3}{E:ak->aP->Prop}{s:aP}{t c5:asq}{items:Array ak}{hh eS:ak}{lo hi:Option Int}{Q:ak->aP->Prop}(aZ:IsTup s.heap t items)(asr:s.heap.IsSliceOf c5 hh eS .none)(pl:IsPart hh lo)(pu:IsPart eS hi)
  (hw:eZ.cu items.size 0 lo=0/\eZ.cu items.size items.size hi=items.size) (h:Q (.ref t) s):bD (bV prog w) A (getItem (.ref t) (.ref c5)) Q E s:=by
 obtain⟨os,pz,ate,wF⟩:=id asr;have He:s.TypeIs (.ref c5) "slice":=⟨os,pz,ate⟩;unfold getItem
 try with_reducible refine ov ?_
 first|refine a3 (cG ?_)|skip
 refine a3 (wpAny_sequenceKey aZ.typeIs (by decide) ?_)
 refine a3 (pW (name:=Str.ofString "__getitem__") aZ.typeIs Bt
  (ox Bt aZ.typeIs entry_tuple_getitem ?_ (args_tuple_getitem _ _)))
 show bD _ _ (Builtin.Tuple.tupleItemsOf (.ref t) >>= _) _ _ s
 refine a3 (tupleItemsOf_ aZ ?_)
 refine a3 (wpAny_typeOf He ?_)
 rw[if_pos (by decide)];refine a3 (eZ.Ry asr pl pu ?_);rw[hw.1,hw.2];show bD _ _ (if (((0:Nat):Int)==0 && (1:Int)==1 && (items.size - 0)==items.size)=true then _ else _) _ _ s;rw[if_pos (by simp)];unfold Builtin.Tuple.tupleIsExact;refine a3 (a3 (wpAny_typeOf aZ.typeIs (cG ?_)));rw[if_pos (by decide)];refine a3 (wpAny_rule ?_);exact cG ⟨_,rfl,cG h⟩
def Uu:o7 X (ajN X.K):=by
 intro ah s σ H x v hh eS lo hi c5 Q I aL asr pl pu h;obtain⟨a,xs,rfl,hx,hw,q⟩:=h;cases aL;obtain⟨its,r,aZ,ar⟩:=I.tuple hx;have hlen:its.toArray.size=xs.length:=by rw[d0];exact r.length.symm
 refine⟨"tuple",_,PyProof.Rows.slot_tuple_getitem.lookup,aZ.typeIs,?_⟩
 exact amb aZ asr pl pu (by rw[hlen];exact hw) ⟨.ref a,H,I,rfl,q⟩
def arR(n d:Nat)(o:Option Int):D.cu n d o=eZ.cu n d o:=by
 cases o with
|none=>rfl
|some v=>
  unfold D.cu eZ.cu;dsimp only;split <;> omega
def vh{K:bb}{F:asq->Prop}{H:aE}{ts:List T}{vs:List V}(h:bz K F H ts vs)(lo hi:Option Int):bz K F H (gS ts lo hi) (k6 vs lo hi):=by
 unfold gS k6;simp only[arR,h.length];exact (h.drop _).take _
def aqJ{lo hi:Option bx}{lQ wk:Ev->Option (Option Int)}(au:dd X e f)(aB:mj X lo (uJ X.K lQ))(b4:mj X hi (uJ X.K wk)):cA X (.Subscript e (.Slice lo hi none ej) pos) (slice f lQ wk):=dn (Uz ((VC.or Uu).or UZ) au aB b4) λσ H Q ⟨aD,aO,O,F,ε,t,r,e,k⟩=>by
 simp only[slice,b7] at e;obtain⟨x,ex,l,fG,h,h6,e⟩:=e;refine⟨aD,aO,O,F,ε,x,r,ex,λv aY H1 aM aL=>⟨aD,aO,O,aY,ε,l,r.ext aM,fG,λdq bk bK=>⟨aD,aO,O,dq,ε,h,(r.ext aM).ext bK,h6,λiL dj gz=>?_⟩⟩⟩;have qW:=bK.trans gz;have kd:=aM.trans qW;unfold qL at e;split at e
 ·cases e
  obtain⟨a,vs,rfl,asr,aw⟩:=(aL.ext qW).tup;by_cases hw:eZ.cu vs.length 0 l=0/\eZ.cu vs.length vs.length h=vs.length
  ·refine .inl (.inr ⟨a,vs,rfl,asr,hw,k _ iL dj kd ?_⟩)
   simp only[Rep];refine⟨a,vs,rfl,asr,?_⟩;have:=vh aw l h;unfold k6 at this;rw[hw.1,hw.2,List.drop_zero,Nat.sub_zero,List.take_length] at this;exact this
  ·refine .inl (.inl ⟨a,vs,rfl,asr,hw,λq bg=>?_⟩)
   have i9:=Ext.laid (o:=.tup (k6 vs l h)) kd.cy bg;refine k _ iL _ (kd.trans i9) ?_;simp only[Rep];exact⟨q,_,rfl,cX.of ew,(vh aw l h).ext i9⟩
 ·cases e
  obtain⟨a,vs,rfl,asr,aw⟩:=(aL.ext qW).lst;refine .inr ⟨a,vs,rfl,.inl asr,λq bg=>?_⟩;have i9:=Ext.wZ (o:=.lst (k6 vs l h)) kd.cy bg;refine k _ _ _ (kd.trans i9) ?_;simp only[Rep];exact⟨q,_,rfl,.inr rfl,.inl ew,(vh aw l h).ext i9⟩
 ·cases e
end
end
end D
end
section
namespace D
open PySem PySem.W PyProof.Rows
structure Yp(n:Nat)(lt:Nat->Nat->Bool):Prop where
 arX:∀i j,lt i j=true->lt j i=false
 trans:∀i j k,lt i j=true->lt j k=true->lt i k=true
 asl:∀i j,i<n->j<n->i≠j->lt i j=true\/lt j i=true
def rQ(lt:Nat->Nat->Bool)(p:Array Nat)(m:Nat):Prop:=∀i j,i<j->j<m->lt (p.getD i 0) (p.getD j 0)=true
def gm(lt:Nat->Nat->Bool)(p:Array Nat)(m:Nat):Prop:=∀i j,i<j->j<m->lt (p.getD j 0) (p.getD i 0)=true
section
variable {n:Nat}{lt:Nat->Nat->Bool}(O:Yp n lt)
include O
end
end D
end
section
namespace D
open PySem
variable [cV]
end D
end
section
namespace D
open PySem PySem.Spec PyProof.Rows bG
section
variable [cV]
def TU:entryFor table "dict.update.loop"=some Builtin.«dict.update.loop»:=entryFor_of_tree (by kernel_rfl)
def CZ:plainId "dict.update.loop"=true:=by decide +kernel
section
variable {prog:cJ}{w:cB}{K:Type}[DecidableEq K]{knd:PySem.KeyKind prog w K}{A:c3}
def pair_items{E:ak->aP->Prop}{s:aP}{p:asq}{o:Obj}{n:Nat}{xs:Array ak}{Q:List ak->aP->Prop}(af:s.heap.get? p=some o)(ai:o.cls=.type "tuple")(bE:o.data=.seq xs n)(h:Q xs.toList s):bD (bV prog w) A (Builtin.Dict.pairItems (.ref p)) Q E s:=by
 obtain⟨c,zi,dat,c5⟩:=o;simp only at ai bE;subst ai bE;obtain⟨aF,g,d,tk,os⟩:=s;have eF:(⟨aF,g,d,tk,os⟩:aP).TypeIs (.ref p) "tuple":=⟨_,af,rfl⟩;unfold Builtin.Dict.pairItems
 repeat (any_goals (first|assumption|wp_step))
def stored_new{kvs:List (K×ak)}{k:K}{v:ak}(h:k∉kvs.map (·.1)):stored kvs k v=kvs++[(k,v)]:=by
 unfold stored;rw[if_neg];intro q;obtain⟨x,hx,e⟩:=List.any_eq_true.mp q;exact h (cN.mpr ⟨x,hx,by simpa using e⟩)
variable {R:Result->aP->Prop}{I:asq}{ct wr:List asq}{G:Array GenState->Array GenState->Prop}{St:Nat->aP->Prop}{items:Array ak}
variable {E:ak->aP->Prop}{s:aP}
end
end
section
variable [cV]
section
variable {K:bb}{F:asq->Prop}{H:aE}
theorem S6:∀{bs:List Bool} {vs:List V},bz K F H (bs.map .bool) vs->vs=bs.map V.cC
| [],vs,h=>by simpa [bz] using h
|n::ns,vs,h=>by
  simp only[c9,bz,Rep] at h;obtain⟨v,r,rfl,rfl,z⟩:=h;rw[S6 z];rfl
end
end
section
variable [cV]
mutual
noncomputable def h_:T->T->Option Bool
|.int a,.int b=>some (decide (a<b))
|.tuple xs,.tuple ys=>su xs ys
|_,_=>none
noncomputable def su:List T->List T->Option Bool
| [],[]=>some false
| [],_::_=>some true
|_::_,[]=>some false
|x::xs,y::ys=>if jn x y then su xs ys else h_ x y
end
noncomputable def Ov(A:c3)(s:aP)(y x:ak)(b:Bool):Prop:=
 ∀(prog:cJ) (w:cB) (E:ak->aP->Prop) (Q:ak->aP->Prop),Q (.bool b) s->bD (bV prog w) A (richCompare .Lt y x) Q E s
inductive oY(A:c3)(s:aP)(fin:Bool):List (ak×ak)->Bool->Prop
|nil:oY A s fin [] fin
|eq {y x:ak} {r:List (ak×ak)} {b:Bool}:SeqAt.EqAt A s y x true->oY A s fin r b->oY A s fin ((y,x)::r) b
|lt {y x:ak} {r:List (ak×ak)} {b:Bool}:SeqAt.EqAt A s y x false->Ov A s y x b->oY A s fin ((y,x)::r) b
section
open PySem.SeqAt
open PySem.AutoSeq1 (wpAny_loadPart')
open PySem.MeetsSeq PySem.MeetsSeq2 PySem.MeetsSeq3
def amZ(l b:asq)(items pF:Array ak)(n gf:Nat)(e_ mq:Option asq)(c5 lj:Array (Option ak))(z:Bool):
  Meets (Builtin.«tuple.__lt__» ⟨[.ref l,.ref b],[]⟩)
   (λA R s=>s.heap.get? l=some {cls:=.type "tuple",dict:=e_,data:=.seq items n,slots:=c5}/\s.heap.get? b=some {cls:=.type "tuple",dict:=mq,data:=.seq pF gf,slots:=lj} /\
    oY A.in1 s (decide (items.size<pF.size)) (items.toList.zip pF.toList) z/\R (.ok (.ret (.bool z))) s):=
 .of_wp λprog w A R s h=>by
  obtain⟨aF,g,d,tk,os⟩:=s;obtain⟨aB,ab,bf,h⟩:=h;have f2:=AutoSeq1.sub_tuple_tuple
  wp_walk using wpAny_loadPart' aB,wpAny_loadPart' ab,wpAny_forIn_list _ (λrest b s'=>b.1=none/\s'=⟨aF,g,d,tk,os⟩/\oY A.in1 ⟨aF,g,d,tk,os⟩ (decide (items.size<pF.size)) rest z) _
  case turn=>
   rintro⟨y,x⟩ rest b s' ⟨iu,rfl,jz⟩;cases jz with
   |eq he jz=>
    refine a3 (he prog w _ _ ?_)
    wp_walk
    exact⟨rfl,rfl,jz⟩
   |lt he gc=>
    refine a3 (he prog w _ _ ?_)
    have Hx:=gc prog w
    wp_walk using Hx
    exact⟨_,rfl,h⟩
  case fin=>
   rintro⟨b2,cm⟩ s' ⟨iu,rfl,jz⟩;simp only at iu;subst iu;cases jz
   wp_walk
   exact⟨_,rfl,by simpa [Builtin.Tuple.tupleCompareSizes] using h⟩
  case h=>
   exact⟨rfl,rfl,bf⟩
mutual
theorem apY:∀(pf db:T) (A:c3) (s:aP) (a b:ak) (as bs:List asq) (r:Bool),Reads s.heap a pf as->Reads s.heap b db bs->pf.canLay0=true->db.canLay0=true->A.units+min pf.depth db.depth<cLine->h_ pf db=some r->Ov A s a b r
|.int i,.int j,A,s,_,_,_,_,r,.int _ t,.int _ u,_,_,_,e=>by
  unfold h_ at e;cases e;exact λprog w E Q q=>(PyProof.Rows.lt_int q:bD (bV prog w) A (hE .Lt (.int i t) (.int j u)) Q E s)
|.tuple xs,.tuple ys,A,s,_,_,_,_,r,.tuple (a:=l) (o:=o) (vs:=vs) (n:=n) af ai bE c',.tuple (a:=oe) (o:=o') (vs:=fp) (n:=w1) ei dB iS iT,au,ab,b4,e=>by
  unfold h_ at e;simp only[PyData.canLay0] at au ab;simp only[jq] at b4;have jz:=good_reads xs ys A.in1 s vs.toList fp.toList _ _ r c' iT au ab (room_in b4) e;obtain⟨cls,e_,data,c5⟩:=o;obtain⟨Gp,mq,data2,lj⟩:=o';simp only at ai bE dB iS;subst ai bE dB iS;rw[q1,q1] at jz;exact λprog w E Q q=>richCompare_meets_room (op:=.Lt) ⟨_,af,rfl⟩ ⟨_,ei,rfl⟩ PySem.F.slot_tuple_lt PySem.F.entry_tuple_lt (PySem.F.args_tuple_lt_2 _ _) (amZ l oe vs fp n w1 e_ mq c5 lj r)
   ⟨af,ei,jz,show Value.bool r≠Value.notImplemented/\Q (.bool r) s from ⟨(λx=>nomatch x),q⟩⟩ (by omega)
|.none,_,_,_,_,_,_,_,_,_,_,_,_,_,e=>by simp[h_] at e
|.bool _,_,_,_,_,_,_,_,_,_,_,_,_,_,e=>by simp[h_] at e
|.str _,_,_,_,_,_,_,_,_,_,_,_,_,_,e=>by simp[h_] at e
|.list _,_,_,_,_,_,_,_,_,_,_,_,_,_,e=>by simp[h_] at e
|.dict _,_,_,_,_,_,_,_,_,_,_,_,_,_,e=>by simp[h_] at e
|.int _,.none,_,_,_,_,_,_,_,_,_,_,_,_,e=>by simp[h_] at e
|.int _,.bool _,_,_,_,_,_,_,_,_,_,_,_,_,e=>by simp[h_] at e
|.int _,.str _,_,_,_,_,_,_,_,_,_,_,_,_,e=>by simp[h_] at e
|.int _,.list _,_,_,_,_,_,_,_,_,_,_,_,_,e=>by simp[h_] at e
|.int _,.dict _,_,_,_,_,_,_,_,_,_,_,_,_,e=>by simp[h_] at e
|.int _,.tuple _,_,_,_,_,_,_,_,_,_,_,_,_,e=>by simp[h_] at e
|.tuple _,.none,_,_,_,_,_,_,_,_,_,_,_,_,e=>by simp[h_] at e
|.tuple _,.bool _,_,_,_,_,_,_,_,_,_,_,_,_,e=>by simp[h_] at e
|.tuple _,.str _,_,_,_,_,_,_,_,_,_,_,_,_,e=>by simp[h_] at e
|.tuple _,.list _,_,_,_,_,_,_,_,_,_,_,_,_,e=>by simp[h_] at e
|.tuple _,.dict _,_,_,_,_,_,_,_,_,_,_,_,_,e=>by simp[h_] at e
|.tuple _,.int _,_,_,_,_,_,_,_,_,_,_,_,_,e=>by simp[h_] at e
theorem good_reads:∀(xs ys:List T) (A:c3) (s:aP) (vs ws:List ak) (as bs:List asq) (r:Bool),ReadsAll s.heap vs xs as->ReadsAll s.heap ws ys bs->ke xs=true->ke ys=true->A.units+min (jm xs) (jm ys)<cLine->su xs ys=some r->oY A s (decide (vs.length<ws.length)) (vs.zip ws) r
| [],[],A,s,_,_,_,_,r,.nil,.nil,_,_,_,e=>by
  unfold su at e;cases e;exact .nil
| [],_::_,A,s,_,_,_,_,r,.nil,.cons _ _,_,_,_,e=>by
  unfold su at e;cases e;exact oY.nil
|_::_,[],A,s,_,_,_,_,r,.cons _ _,.nil,_,_,_,e=>by
  unfold su at e;cases e;exact oY.nil
|x::xs,y::ys,A,s,_,_,_,_,r,.cons a6 b',.cons aQ a7,au,ab,b4,e=>by
  simp only[ke,fi] at au ab;simp only[jm] at b4;unfold su at e;have he:=eqAt_reads x y A s _ _ _ _ a6 aQ au.1 ab.1 (room_head b4);split at e
  next h=>
   rw[h] at he;have bY:=good_reads xs ys A s _ _ _ _ r b' a7 au.2 ab.2 (room_tail b4) e;rw[q2];simp only[d_,Nat.add_lt_add_iff_right];exact .eq he bY
  next h=>
   rw[Bool.not_eq_true] at h;rw[h] at he;rw[q2];exact .lt he (apY x y A s _ _ _ _ r a6 aQ au.1 ab.1 (room_head b4) e)
end
end
end
end D
end
section
namespace D
open PySem
inductive oR where
|v (f:bl)|o (i:Nat)
abbrev qg:=Ev->Option (T×Ev)
abbrev c1:=Ev->Option aI
def AY(i:Nat)(ε:Ev):Option aI:=match ε[i]? with
|some (some (.obj m c aA))=>some (.obj m c aA)
|_=>none
noncomputable def pa:List oR->Ev->Option (List aI)
| [],_=>some []
|.v f::as,ε=>(f ε).bind λt=>(pa as ε).map λss=>.ae t::ss
|.o i::as,ε=>(AY i ε).bind λs=>(pa as ε).map λss=>s::ss
def A6:aI->aI
|.obj _ c aA=>.obj .c4 c aA
|s=>s
def dx(c i:Nat)(ε:Ev):Option (gn×List aI):=match ε[i]? with
|some (some (.obj m el aA))=>if el=c then some (m,aA) else none
|_=>none
def fld(c i j:Nat):bl:=λε=>(dx c i ε).bind λo=>match o.2[j]? with
|some (.ae t)=>some t
|some (.own ts)=>some (.list ts)
|_=>none
def fA(c i j:Nat):bl:=λε=>(dx c i ε).bind λo=>match o.2[j]? with
|some (.ae t)=>some t
|_=>none
def nj(c i j:Nat):Ev->Option (List (Key×T)):=λε=>(dx c i ε).bind λo=>match o.2[j]? with
|some (.hu kvs)=>some kvs
|_=>none
def k8(c i j:Nat):Ev->Option (List T):=λε=>(dx c i ε).bind λo=>match o.2[j]? with
|some (.own ts)=>some ts
|_=>none
def ni(c i j:Nat)(k:bl):bl:=λε=>(k ε).bind λt=>(keyOf t).bind λk=>(nj c i j ε).bind λkvs=>getD kvs k
def yX(c i j:Nat):bl:=λε=>(nj c i j ε).map λkvs=>.tuple (kvs.map (·.2))
noncomputable def gw(c i j:Nat)(s:aI)(ε:Ev):Option Ev:=(dx c i ε).bind λo=>if o.1=.c4 then none else
 if j<o.2.length then some (ε.set i (some (.obj o.1 c (o.2.set j s)))) else if j=o.2.length then some (ε.set i (some (.obj o.1 c (o.2++[s])))) else none
def eJ(c i j:Nat)(f:bl):bc:=λε=>(f ε).bind λt=>(gw c i j (.ae t) ε).map .bP
def jT(c i j:Nat)(f:bl):bc:=λε=>(f ε).bind λt=>match t with
|.list ts=>(gw c i j (.own ts) ε).map .bP
|_=>none
def qb:T->T->Option Int
|.int i,.int j=>some (i+j)
|_,_=>none
def pd(c i j:Nat)(f:bl):bc:=λε=>(fA c i j ε).bind λx=>(f ε).bind λy=>(qb x y).bind λz=>(gw c i j (.ae (.int z)) ε).map .bP
def lM(c i j:Nat)(f:bl):bc:=λε=>(f ε).bind λt=>(k8 c i j ε).bind λts=>if ts.length<big then (gw c i j (.own (ts++[t])) ε).map .bP else none
noncomputable def A4(c i j:Nat)(f:bl):bc:=λε=>(f ε).bind λt=>(k8 c i j ε).bind λts=>match t,strsOf ts with
|.str x,some ss=>if x∈ss then (gw c i j (.own ((ss.erase x).map .str)) ε).map .bP else none
|_,_=>none
def vE:T->Option T
|.tuple xs=>some (.list xs)
|.list xs=>some (.list xs)
|_=>none
def C9:T->Option T
|.list xs=>if xs.length<64 then (strsOf xs).map λss=>.list ((kn ss).map .str) else none
|_=>none
def uB(c i j:Nat):bc:=λε=>(k8 c i j ε).bind λts=>(ts.getLast?).bind λ_=>(gw c i j (.own ts.dropLast) ε).map .bP
noncomputable def ru(c i j:Nat)(k v:bl):bc:=λε=>(v ε).bind λv=>(k ε).bind λt=>(keyOf t).bind λk=>(nj c i j ε).bind λkvs=>if kvs.length<big then (gw c i j (.hu (putD kvs k v)) ε).map .bP else none
noncomputable def rB(c i j:Nat)(k v:bl):bc:=λε=>(k ε).bind λt=>(keyOf t).bind λk=>(nj c i j ε).bind λkvs=>(getD kvs k).bind λx=>(v ε).bind λy=>(qb x y).bind λz=>if kvs.length<big then (gw c i j (.hu (putD kvs k (.int z))) ε).map .bP else none
def rq:List T->List T->Option (List (Key×T))
| [],_=>some []
|_::_,[]=>some []
|k::bp,v::vs=>(keyOf k).bind λk=>(rq bp vs).map λr=>(k,v)::r
noncomputable def vW(c i j:Nat)(bp vs:bl):bc:=λε=>(bp ε).bind λtk=>(vs ε).bind λasC=>match tk,asC with
|.list lk,.tuple lv=>(rq lk lv).bind λkvs=>if (kvs.map (·.1)).Nodup/\kvs.length<=1000/\(∀t∈lk,(keyOf t).isSome=true) then (gw c i j (.hu kvs) ε).map .bP else none
|_,_=>none
def DM(f g:jX):jX:=λε=>(f ε).bind λa=>(g ε).map λb=>List.zipWith (λx y=>.tuple [x,y]) a b
def jS(d:List aI->Option T)(as:List oR):bl:=λε=>(pa as ε).bind λss=>d (ss.map A6)
def d3(c:Nat)(d:List aI->Option T)(i:Nat)(aA:List bl):bl:=λε=>(dx c i ε).bind λo=>(args aA ε).bind λts=>d (.obj .c4 c o.2::ts.map .ae)
noncomputable def cW(c:Nat)(d:List aI->Option (T×List aI))(i:Nat)(aA:List bl):qg:=λε=>(dx c i ε).bind λo=>if o.1=.c4 then none else (args aA ε).bind λts=>
 (d (.obj .cg c o.2::ts.map .ae)).map λr=>(r.1,ε.set i (some (.obj o.1 c r.2)))
noncomputable def m3(c:Nat)(d:List aI->Option (T×List aI))(aA:List bl)(i:Nat)(fB:List bl):qg:=λε=>(dx c i ε).bind λo=>if o.1=.c4 then none else (args aA ε).bind λts=>(args fB ε).bind λus=>
 (d (ts.map .ae++.obj .cg c o.2::us.map .ae)).map λr=>(r.1,ε.set i (some (.obj o.1 c r.2)))
noncomputable def mF(c:Nat)(d:List aI->Option (T×List aI))(aA:List bl):c1:=λε=>(args aA ε).bind λts=>(d (.obj .cg c []::ts.map .ae)).bind λr=>match r.1 with
|.none=>some (.obj .own c r.2)
|_=>none
def rA(d:List T->Option aI)(aA:List bl):c1:=λε=>(args aA ε).bind d
def tD(c:Nat):aI->Option (List aI)
|.obj .own el aA=>if el=c then some aA else none
|_=>none
def pJ(c:Nat)(d:List aI->Option T)(o:c1)(aA:List bl):bl:=λε=>(o ε).bind λs=>(tD c s).bind λos=>(args aA ε).bind λts=>d (.obj .c4 c os::ts.map .ae)
def vr(c j:Nat)(o:c1):bl:=λε=>(o ε).bind λs=>(tD c s).bind λos=>match os[j]? with
|some (.own ts)=>some (.list ts)
|_=>none
def cS(f:qg):bc:=λε=>(f ε).map λr=>.bP r.2
def lX(f:qg):bc:=λε=>(f ε).map λr=>.ig r.1 r.2
def qQ(f:bl):bc:=λε=>(f ε).map λt=>.ig t ε
def we(i:Nat)(f:qg):bc:=λε=>(f ε).map λr=>.bP (r.2.set i (some (.ae r.1)))
def pb(i:Nat)(f:c1):bc:=λε=>(f ε).map λs=>.bP (ε.set i (some s))
def as6(i:Nat):bc:=λε=>match ε[i]? with
|some (some (.obj .own c aA))=>some (.ka (.obj .own c aA))
|_=>none
def p':bc:=λε=>some (.ig .none ε)
def never:bc:=λ_=>none
def kZ(n:Nat)(ss:List aI):Ev:=ss.map some++dS (n - ss.length) none
def gu(b:bc)(n:Nat)(ss:List aI):Option T:=(b (kZ n ss)).bind λo=>match o with
|.d9 t=>some t
|.bP _=>some .none
|_=>none
def jQ(c p:Nat)(ε:Ev):Option (List aI):=match ε[p]? with
|some (some (.obj .cg el aA))=>if el=c then some aA else none
|_=>none
noncomputable def runM(c p:Nat)(b:bc)(n:Nat)(ss:List aI):Option (T×List aI):=(b (kZ n ss)).bind λo=>match o with
|.ig t ε=>(jQ c p ε).map λaA=>(t,aA)
|.bP ε=>(jQ c p ε).map λaA=>(.none,aA)
|_=>none
def A2:aI->Option aI
|.obj .own c aA=>some (.obj .own c aA)
|_=>none
def sH(b:bc)(n:Nat)(ts:List T):Option aI:=(b ((ts.map λt=>some (.ae t))++dS (n - ts.length) none)).bind λo=>match o with
|.ka s=>A2 s
|_=>none
end D
end
section
namespace D
open PySem PySem.Spec PyProof.Rows bG
section
variable [cV]
section
variable {K:bb}{F aK O:asq->Prop}{H aj:aE}{E:hq}
theorem f5.length:∀{aA:List aI} {vs:List V},f5 K F H aA vs->aA.length=vs.length
| [],vs,r=>by
  have e:vs=[]:=r;rw[e];rfl
|s::ss,vs,r=>by
  obtain⟨v,z,rfl,_,b'⟩:=r;simp[f5.length b']
theorem f5.get:∀{aA:List aI} {vs:List V} {j:Nat} {s:aI},f5 K F H aA vs->aA[j]?=some s->∃v,vs[j]?=some v/\lJ K F H s v
| [],vs,j,s,r,e=>by simp at e
|s::ss,vs,0,u,r,e=>by
  obtain⟨v,z,rfl,a6,_⟩:=r;simp at e;subst e;exact⟨v,rfl,a6⟩
|s::ss,vs,j+1,u,r,e=>by
  obtain⟨v,z,rfl,_,b'⟩:=r;obtain⟨w,af,ai⟩:=f5.get (j:=j) (s:=u) b' (by simpa using e);exact⟨w,by simpa using af,ai⟩
theorem f5.set:∀{aA:List aI} {vs:List V} {j:Nat} {s:aI} {v:V},f5 K F H aA vs->ec K F H aK aj->(∀(k:Nat) (u:aI) (w:V),k≠j->aA[k]?=some u->vs[k]?=some w->∀b∈dP u w,aj b=H b)->lJ K aK aj s v->f5 K aK aj (aA.set j s) (vs.set j v)
| [],vs,j,s,v,r,_,_,_=>by
  have e:vs=[]:=r;subst e;exact rfl
|u::ss,vs,0,s,v,r,aC,aR,h=>by
  obtain⟨w,z,rfl,a6,b'⟩:=r;refine⟨v,z,rfl,h,b'.keep aC λb ab=>?_⟩;have:∀{ss:List aI} {z:List V} (n:Nat),(∀(k:Nat) (u:aI) (w:V),ss[k]?=some u->z[k]?=some w->∀b∈dP u w,aj b=H b)->b∈df ss z->aj b=H b:=by
   intro ss
   induction ss with
   |nil=>intro z n _ ab;simp[df] at ab
   |cons s1 ss bY=>
    intro z n aR ab;cases z with
    |nil=>simp[df] at ab
    |cons v1 z=>
     rw[show df (s1::ss) (v1::z)=dP s1 v1++df ss z from rfl] at ab;rcases hD.mp ab with q|q
     ·exact aR 0 s1 v1 rfl rfl b q
     ·exact bY n (λk u w aG aS=>aR (k+1) u w (by simpa using aG) (by simpa using aS)) q
  exact this 0 (λk u w aG aS=>aR (k+1) u w (by omega) (by simpa using aG) (by simpa using aS)) ab
|u::ss,vs,j+1,s,v,r,aC,aR,h=>by
  obtain⟨w,z,rfl,a6,b'⟩:=r;exact⟨w,z.set j v,rfl,a6.keep aC λb ab=>aR 0 u w (by omega) rfl rfl b ab,f5.set b' aC (λk u w ar8 aG aS=>aR (k+1) u w (by omega) (by simpa using aG) (by simpa using aS)) h⟩
theorem f5.snoc:∀{aA:List aI} {vs:List V} {s:aI} {v:V},f5 K F H aA vs->lJ K F H s v->f5 K F H (aA++[s]) (vs++[v])
| [],vs,s,v,r,h=>by
  have e:vs=[]:=r;subst e;exact⟨v,[],rfl,h,rfl⟩
|u::ss,vs,s,v,r,h=>by
  obtain⟨w,z,rfl,a6,b'⟩:=r;exact⟨w,z++[v],rfl,a6,f5.snoc b' h⟩
theorem M7:∀{aA:List aI} {vs:List V} {s:aI} {v:V},aA.length=vs.length->df (aA++[s]) (vs++[v])=df aA vs++dP s v
| [],[],s,v,_=>by simp[df]
|u::ss,w::z,s,v,h=>by
  show dP u w++df (ss++[s]) (z++[v])=(dP u w++df ss z)++dP s v
  rw[M7 (by simpa using h),as_]
| [],w::z,_,_,h=>by simp at h
|u::ss,[],_,_,h=>by simp at h
theorem oO:∀{aA:List aI} {vs:List V} {j:Nat} {s:aI} {v:V} {b:asq},aA[j]?=some s->vs[j]?=some v->b∈dP s v->b∈df aA vs
| [],vs,j,s,v,b,e,_,_=>by simp at e
|u::ss,[],j,s,v,b,_,e,_=>by simp at e
|u::ss,w::z,0,s,v,b,aG,aS,h=>by
  simp at aG aS;subst aG aS;exact hD.mpr (.inl h)
|u::ss,w::z,j+1,s,v,b,aG,aS,h=>hD.mpr (.inr (oO (j:=j) (by simpa using aG) (by simpa using aS) h))
theorem NW:∀{aA:List aI} {vs:List V} {b:asq},b∈df aA vs->∃(j:Nat) (s:aI) (v:V),aA[j]?=some s/\vs[j]?=some v/\b∈dP s v
| [],vs,b,h=>by simp[df] at h
|u::ss,[],b,h=>by simp[df] at h
|u::ss,w::z,b,h=>by
  rcases hD.mp (show b∈dP u w++df ss z from h) with q|q
  ·exact⟨0,u,w,rfl,rfl,q⟩
  ·obtain⟨j,s,v,aG,aS,h⟩:=NW q;exact⟨j+1,s,v,by simpa using aG,by simpa using aS,h⟩
theorem M6:∀{aA:List aI} {vs:List V} {j k:Nat} {s u:aI} {v w:V} {b:asq},(df aA vs).Nodup->j≠k->aA[j]?=some s->vs[j]?=some v->aA[k]?=some u->vs[k]?=some w->b∈dP s v->b∈dP u w->False
| [],vs,j,k,s,u,v,w,b,_,_,e,_,_,_,_,_=>by simp at e
|x::ss,[],j,k,s,u,v,w,b,_,_,_,e,_,_,_,_=>by simp at e
|x::ss,y::z,j,k,s,u,v,w,b,a_,ob,aG,aS,d5,gU,af,ai=>by
  have og:(dP x y++df ss z).Nodup:=a_;rw[pU] at og;obtain⟨fT,gf,uz⟩:=og;cases j with
  |zero=>
   cases k with
   |zero=>exact ob rfl
   |succ k=>
    simp at aG aS;subst aG aS;exact uz b af b (oO (j:=k) (by simpa using d5) (by simpa using gU) ai) rfl
  |succ j=>
   cases k with
   |zero=>
    simp at d5 gU;subst d5 gU;exact uz b ai b (oO (j:=j) (by simpa using aG) (by simpa using aS) af) rfl
   |succ k=>exact M6 (j:=j) (k:=k) gf (by omega) (by simpa using aG) (by simpa using aS) (by simpa using d5) (by simpa using gU) af ai
def Cq{aA:List aI}{vs:List V}{j:Nat}{s:aI}{v:V}{b:asq}(h:b∈df (aA.set j s) (vs.set j v)):b∈df aA vs\/b∈dP s v:=by
 obtain⟨k,u,w,aG,aS,h⟩:=NW h;by_cases aR:j=k
 ·subst aR;have bZ:=(hj.mp aG).1;have b1:=(hj.mp aS).1;simp at bZ b1;rw[uX,if_pos rfl,if_pos bZ] at aG;rw[uX,if_pos rfl,if_pos b1] at aS;cases aG;cases aS;exact .inr h
 ·rw[uX,if_neg aR] at aG aS;exact .inl (oO aG aS h)
theorem L2:∀{aA:List aI} {vs:List V} {j:Nat} {s:aI} {v:V},(df aA vs).Nodup->(dP s v).Nodup->(∀b∈dP s v,∀(k:Nat) (u:aI) (w:V),k≠j->aA[k]?=some u->vs[k]?=some w->b∉dP u w)->(df (aA.set j s) (vs.set j v)).Nodup
| [],vs,j,s,v,_,_,_=>by simp[df]
|x::ss,[],j,s,v,_,_,_=>by cases j <;> simp[df]
|x::ss,y::z,0,s,v,a_,lU,au=>by
  have og:(dP x y++df ss z).Nodup:=a_;rw[pU] at og;show (dP s v++df ss z).Nodup;rw[pU];refine⟨lU,og.2.1,λb ab c ax e=>?_⟩;subst e;obtain⟨k,u,w,aG,aS,h⟩:=NW ax;exact au b ab (k+1) u w (by omega) (by simpa using aG) (by simpa using aS) h
|x::ss,y::z,j+1,s,v,a_,lU,au=>by
  have og:(dP x y++df ss z).Nodup:=a_;rw[pU] at og;show (dP x y++df (ss.set j s) (z.set j v)).Nodup;rw[pU];refine⟨og.1,L2 og.2.1 lU λb ab k u w aR aG aS=>au b ab (k+1) u w (by omega) (by simpa using aG) (by simpa using aS),λb ab c ax e=>?_⟩;subst e;rcases Cq ax with q|q
  ·exact og.2.2 b ab b q rfl
  ·exact au b q 0 x y (by omega) rfl rfl ab
def apw(v:V):(ie v).Nodup:=by
 unfold ie;split <;> simp
def TR(s:aI)(v:V):(dP s v).Nodup:=by
 cases s <;> first|exact apw v|simp[dP]
theorem Ml:∀{ns:List Str} {vs:List V} {j:Nat} {f:Str} {v:V},ns.Nodup->ns[j]?=some f->vs[j]?=some v->(ns.zip vs).lookup f=some v
| [],_,_,_,_,_,e,_=>by simp at e
|_::_,[],_,_,_,_,_,e=>by simp at e
|n::ns,w::vs,0,f,v,_,aG,aS=>by
  simp at aG aS;subst aG aS;simp[jM]
|n::ns,w::vs,j+1,f,v,a_,aG,aS=>by
  have ne:f≠n:=by
   rintro rfl;exact (gO.mp a_).1 (uV (by simpa using aG))
  have ab:(f==n)=false:=beq_eq_false_iff_ne.mpr ne;simp only[q2,jM,ab];exact Ml (j:=j) (gO.mp a_).2 (by simpa using aG) (by simpa using aS)
theorem u_:∀{ns:List Str} {vs:List V} {f:Str},f∉ns->(ns.zip vs).lookup f=none
| [],_,_,_=>by simp
|_::_,[],_,_=>by simp
|n::ns,w::vs,f,h=>by
  have ne:f≠n:=λe=>h (by simp[e]);have ab:(f==n)=false:=beq_eq_false_iff_ne.mpr ne;simp only[q2,jM,ab];exact u_ λz=>h (di _ z)
theorem UU:∀{ns:List Str} {vs:List V} {j:Nat} {f:Str} {v:V},ns.Nodup->ns[j]?=some f->j<vs.length->bG.g0 f v (ns.zip vs)=ns.zip (vs.set j v)
| [],_,_,_,_,_,e,_=>by simp at e
|_::_,[],_,_,_,_,_,h=>by simp at h
|n::ns,w::vs,0,f,v,_,aG,h=>by
  simp at aG;subst aG;simp[bG.g0]
|n::ns,w::vs,j+1,f,v,a_,aG,h=>by
  have ne:n≠f:=by
   rintro rfl;exact (gO.mp a_).1 (uV (by simpa using aG))
  simp only[q2,kf,bG.g0,if_neg ne];rw[UU (j:=j) (gO.mp a_).2 (by simpa using aG) (by simpa using h)]
theorem Sx:∀{ns:List Str} {vs:List V} {f:Str} {v:V},ns.Nodup->ns[vs.length]?=some f->bG.g0 f v (ns.zip vs)=ns.zip (vs++[v])
| [],_,_,_,_,e=>by simp at e
|n::ns,[],f,v,_,aG=>by
  simp at aG;subst aG;simp[bG.g0]
|n::ns,w::vs,f,v,a_,aG=>by
  have ne:n≠f:=by
   rintro rfl;exact (gO.mp a_).1 (uV (by simpa using aG))
  simp only[q2,uY,bG.g0,if_neg ne];rw[Sx (gO.mp a_).2 (by simpa using aG)]
end
structure fu(K:bb)(c:Nat)(C:asq)(ns:List Str):Prop where
 mn:cV.mn c=some C
 asw:cV.asw c=ns
 cls:m5 K C
 a_:ns.Nodup
 na:∀f∈ns,p9 K C f
 z1:ns.length<1000
section
variable {K:bb}{aD F aY O:asq->Prop}{H H1:aE}{E:hq}{ε ε':Ev}{σ:bG.St}{c C i j:Nat}{ns:List Str}
def nI{m:gn}{aA:List aI}(h:dx c i ε=some (m,aA)):ε[i]?=some (some (.obj m c aA)):=by
 unfold dx at h;split at h
 next iw el asB e=>
  split at h
  next ax=>
   cases h
   rw[e,ax]
  next=>cases h
 next=>cases h
def nM{m:gn}{aA:List aI}(k:fu K c C ns)(r:cP K aD E O F H ε σ)(h:dx c i ε=some (m,aA)):
  ∃a vs bj,σ[i]?=some (some (.ref a))/\H a=some (.ins C bj (ns.zip vs))/\vs.length<=ns.length/\hY H a c vs/\f5 K F H aA vs/\(a::df aA vs).Nodup/\(∀b∈a::df aA vs,v_ E O F m b)/\(m=.cg->a=E.iU):=by
 obtain⟨v,af,a,vs,rfl,au,hf,a_,fI,iU⟩:=r.val i _ (nI h);obtain⟨aB,hx⟩:=id au;rw[k.mn] at hx;obtain⟨bj,hx⟩:=hx;rw[k.asw] at aB hx;exact⟨a,vs,bj,af,hx,aB,au,hf,a_,fI,iU⟩
def Dt{m:gn}(hm:m≠.c4){aA:List aI}:(aI.obj m c aA).iQ=true:=by
 cases m with
|c4=>exact absurd rfl hm
|own=>rfl
|cg=>rfl
def cP.Bd{s:aI}{v:V}{a bj:asq}{vs:List V}(k:fu K c C ns)(r:cP K aD E O F H ε σ){m:gn}{aA:List aI}(aH:dx c i ε=some (m,aA))(af:σ[i]?=some (some (.ref a)))(au:hY H a c vs)(he:gw c i j s ε=some ε')
  (rs:lJ K F H s v) (own:∀b∈dP s v,¬F b/\O b/\b∉dA H (.obj m c aA) (.ref a)/\∀(k:Nat) (u:aI) (w:V),i≠k->ε[k]?=some (some u)->u.iQ=true->σ[k]?=some (some w)->b∉dA H u w) (hx:H a=some (.ins C bj (ns.zip vs)))
  {f:Str} (bJ:ns[j]?=some f):ec K F H F (upd H a (.ins C bj (bG.g0 f v (ns.zip vs))))/\cP K aD E O F (upd H a (.ins C bj (bG.g0 f v (ns.zip vs)))) ε' σ:=by
 obtain⟨fF,fp,ub,en,k_,aB,mz,hf,a_,fI,iU⟩:=nM k r aH;rw[af] at en;cases en;have ev:fp=vs:=by rw[<- au.vals,<- mz.vals]
 subst ev;have jg:dA H (.obj m c aA) (.ref a)=a::df aA fp:=kl au;rw[jg] at own;unfold gw at he;rw[aH] at he;simp only[cv] at he;split at he
 next=>cases he
 next hm=>
 have hlen:=hf.length;have wL:(aI.obj m c aA).iQ=true:=Dt hm;have QF:∀b,v_ E O F m b <-> ¬F b/\O b:=λb=>by
  cases m with
  |c4=>exact absurd rfl hm
  |own=>exact Iff.rfl
  |cg=>exact Iff.rfl
 have na:∀b∈df aA fp,b≠a:=λb ab z=>(gO.mp a_).1 (z▸ab);split at he
 next Hq=>
  cases he
  have Hr:j<fp.length:=by omega
  rw[UU k.a_ bJ Hr];have pw:∀b∈a::df (aA.set j s) (fp.set j v),b∈a::df aA fp\/b∈dP s v:=λb ab=>by
   rcases asu.mp ab with rfl|ab
   ·exact .inl fY
   ·rcases Cq ab with q|q
    ·exact .inl (di _ q)
    ·exact .inr q
  have mA:∀o':aE,o' a=some (.ins C bj (ns.zip (fp.set j v)))->hY o' a c (fp.set j v):=λo' e=>by
   refine⟨by rw[k.asw];simpa using aB,?_⟩
   rw[k.mn,k.asw];exact⟨bj,e⟩
  refine r.Ka (nI aH) wL af (by rw[jg];exact fY) (λaC=>⟨a,fp.set j v,rfl,mA _ ew,?_,?_,λb ab=>?_,iU⟩) λb ab=>?_
  ·refine f5.set hf aC (λk u w _ aG aS b ab=>cZ (na b (oO aG aS ab))) (rs.keep aC λb ab=>cZ λz=>(own b ab).2.2.1 (z▸fY))
  ·refine gO.mpr ⟨λz=>?_,L2 (gO.mp a_).2 (TR s v) λb ab k u w _ aG aS q=>(own b ab).2.2.1 (di _ (oO aG aS q))⟩
   rcases Cq z with q|q
   ·exact (gO.mp a_).1 q
   ·exact (own a q).2.2.1 fY
  ·rcases pw b ab with q|q
   ·exact fI b q
   ·exact (QF b).mpr ⟨(own b q).1,(own b q).2.1⟩
  ·rw[kl (mA _ ew)] at ab;rcases pw b ab with q|q
   ·exact .inl (by rw[jg];exact q)
   ·exact .inr (own b q).2.2.2
 next Hq=>
  split at he
  next ar6=>
   cases he
   have Hr:j=fp.length:=by omega
   rw[Sx k.a_ (by rw[<- Hr];exact bJ)];have ar7:j<ns.length:=(hj.mp bJ).1;have pw:∀b∈a::df (aA++[s]) (fp++[v]),b∈a::df aA fp\/b∈dP s v:=λb ab=>by
    rw[M7 hlen] at ab;rcases asu.mp ab with rfl|ab
    ·exact .inl fY
    ·rcases hD.mp ab with q|q
     ·exact .inl (di _ q)
     ·exact .inr q
   have mA:∀o':aE,o' a=some (.ins C bj (ns.zip (fp++[v])))->hY o' a c (fp++[v]):=λo' e=>by
    refine⟨by rw[k.asw];simp;omega,?_⟩
    rw[k.mn,k.asw];exact⟨bj,e⟩
   refine r.Ka (nI aH) wL af (by rw[jg];exact fY) (λaC=>⟨a,fp++[v],rfl,mA _ ew,?_,?_,λb ab=>?_,iU⟩) λb ab=>?_
   ·exact f5.snoc (hf.keep aC λb ab=>cZ (na b ab)) (rs.keep aC λb ab=>cZ λz=>(own b ab).2.2.1 (z▸fY))
   ·rw[M7 hlen];refine gO.mpr ⟨λz=>?_,pU.mpr ⟨(gO.mp a_).2,TR s v,λb ab d hd e=>?_⟩⟩
    ·rcases hD.mp z with q|q
     ·exact (gO.mp a_).1 q
     ·exact (own a q).2.2.1 fY
    ·subst e;exact (own b hd).2.2.1 (di _ ab)
   ·rcases pw b ab with q|q
    ·exact fI b q
    ·exact (QF b).mpr ⟨(own b q).1,(own b q).2.1⟩
   ·rw[kl (mA _ ew)] at ab;rcases pw b ab with q|q
    ·exact .inl (by rw[jg];exact q)
    ·exact .inr (own b q).2.2.2
  next=>cases he
def cP.w0{s s':aI}{a b:asq}{vs:List V}{o':eD}(r:cP K aD E O F H ε σ){m:gn}{aA:List aI}(aH:dx c i ε=some (m,aA))(af:σ[i]?=some (some (.ref a)))(au:hY H a c vs)(he:gw c i j s' ε=some ε')
  (asr:aA[j]?=some s) (bq:vs[j]?=some (.ref b)) (hi:b∈dP s (.ref b)) (sf:dP s' (.ref b)=[b]) (rs:ec K F H F (upd H b o')->lJ K F (upd H b o') s' (.ref b)):ec K F H F (upd H b o')/\cP K aD E O F (upd H b o') ε' σ:=by
 obtain⟨v,en,fF,fp,ev,mz,hf,a_,fI,iU⟩:=r.val i _ (nI aH);rw[af] at en;cases en;cases ev;have ev:fp=vs:=by rw[<- au.vals,<- mz.vals]
 subst ev;have jg:dA H (.obj m c aA) (.ref a)=a::df aA fp:=kl au;unfold gw at he;rw[aH] at he;simp only[cv] at he;split at he
 next=>cases he
 next hm=>
 have Hq:j<aA.length:=(hj.mp asr).1;rw[if_pos Hq] at he;cases he;have Hh:b∈df aA fp:=oO asr bq hi;have adv:a≠b:=λz=>(gO.mp a_).1 (z▸Hh);have mA:hY (upd H b o') a c fp:=au.keep (cZ adv);have GB:fp.set j (.ref b)=fp:=by
  obtain⟨aB,e⟩:=hj.mp bq;rw[<- e];exact List.set_getElem_self aB
 have Hn:∀x∈df (aA.set j s') fp,x∈df aA fp:=λx hx=>by
  rw[<- GB] at hx;rcases Cq hx with q|q
  ·exact q
  ·rw[sf] at q;rw[jl.mp q];exact Hh
 refine r.Ka (nI aH) (Dt hm) af (by rw[jg];exact di _ Hh) (λaC=>⟨a,fp,rfl,mA,?_,?_,λx hx=>?_,iU⟩) λx hx=>?_
 ·rw[<- GB];exact f5.set hf aC (λk u w aR aG aS x hx=>cZ λz=>M6 (gO.mp a_).2 (Ne.symm aR) asr bq aG aS hi (z▸hx)) (rs aC)
 ·refine gO.mpr ⟨λz=>(gO.mp a_).1 (Hn a z),?_⟩
  rw[<- GB];refine L2 (gO.mp a_).2 (by rw[sf];simp) λx hx k u w aR aG aS q=>?_;rw[sf] at hx;rw[jl.mp hx] at q;exact M6 (gO.mp a_).2 (Ne.symm aR) asr bq aG aS hi q
 ·rcases asu.mp hx with rfl|hx
  ·exact fI _ fY
  ·exact fI x (di _ (Hn x hx))
 ·rw[kl mA] at hx;rw[jg];rcases asu.mp hx with rfl|hx
  ·exact .inl fY
  ·exact .inl (di _ (Hn x hx))
end
end
section
variable [cV]
section
variable {K:bb}{aD F O:asq->Prop}{H:aE}{E:hq}{ε:Ev}{σ:bG.St}{c C i j:Nat}{ns:List Str}{f:Str}
def mZ{m:gn}{aA:List aI}{s:aI}(k:fu K c C ns)(r:cP K aD E O F H ε σ)(h:dx c i ε=some (m,aA))(asr:aA[j]?=some s)(bJ:ns[j]?=some f):
  ∃a vs bj v,σ[i]?=some (some (.ref a))/\H a=some (.ins C bj (ns.zip vs))/\(ns.zip vs).lookup f=some v/\hY H a c vs/\vs[j]?=some v/\lJ K F H s v/\(∀b∈dP s v,v_ E O F m b/\b≠a):=by
 obtain⟨a,vs,bj,af,hx,aB,au,hf,a_,fI,iU⟩:=nM k r h;obtain⟨v,bq,b0⟩:=hf.get asr;refine⟨a,vs,bj,v,af,hx,Ml k.a_ bJ bq,au,bq,b0,λb ab=>⟨fI b (di _ (oO asr bq ab)),λz=>(gO.mp a_).1 (z▸oO asr bq ab)⟩⟩
def k0(k:fu K c C ns)(bJ:ns[j]?=some f):p9 K C f:=k.na f (uV bJ)
end
section
variable {X:bu}{c C i j:Nat}{ns:List Str}{f:Str}{o e a:bx}{g h:bl}{pos apos:Pos}
def gC(k:fu X.K c C ns)(a9:bR X o (hR i))(bJ:ns[j]?=some f:=by rfl)(ab:ij o f X.env (eval o X.env)=eval o X.env:=by rfl):dd X (.Attribute o f pos) (fld c i j):=
 dn (asM a9 ab) λσ H Q ⟨aD,aO,O,F,ε,t,r,e,bL⟩=>by
 simp only[fld,b7] at e;obtain⟨⟨m,aA⟩,aH,e⟩:=e;split at e
 next t' asr=>
  cases e
  obtain⟨a,vs,bj,v,af,hx,aB,au,bq,b0,_⟩:=mZ k r aH asr bJ;exact⟨_,af,a,C,bj,_,v,rfl,hx,k.cls,k0 k bJ,aB,bL v F H (Ext.refl r.cy) (.inl b0)⟩
 next ts asr=>
  cases e
  obtain⟨a,vs,bj,v,af,hx,aB,au,bq,⟨b,us,dz,ab,eR⟩,_⟩:=mZ k r aH asr bJ;subst dz;exact⟨_,af,a,C,bj,_,_,rfl,hx,k.cls,k0 k bJ,aB,bL _ F H (Ext.refl r.cy) (.inr ⟨ts,b,us,rfl,rfl,ab,eR⟩)⟩
 next=>cases e
def iD(k:fu X.K c C ns)(a9:bR X o (hR i))(bJ:ns[j]?=some f:=by rfl)(ab:ij o f X.env (eval o X.env)=eval o X.env:=by rfl):cA X (.Attribute o f pos) (fA c i j):=
 dn (asM a9 ab) λσ H Q ⟨aD,aO,O,F,ε,t,r,e,bL⟩=>by
 simp only[fA,b7] at e;obtain⟨⟨m,aA⟩,aH,e⟩:=e;split at e
 next t' asr=>
  cases e
  obtain⟨a,vs,bj,v,af,hx,aB,au,bq,b0,_⟩:=mZ k r aH asr bJ;exact⟨_,af,a,C,bj,_,v,rfl,hx,k.cls,k0 k bJ,aB,bL v F H (Ext.refl r.cy) b0⟩
 next=>cases e
def C2{ε:Ev}{kvs:List (D.Key×T)}(e:nj c i j ε=some kvs):∃m aA,dx c i ε=some (m,aA)/\aA[j]?=some (.hu kvs):=by
 simp only[nj,b7] at e;obtain⟨⟨m,aA⟩,aH,e⟩:=e;split at e
 ·cases e
  exact⟨m,aA,aH,by assumption⟩
 ·cases e
def MI{ε:Ev}{ts:List T}(e:k8 c i j ε=some ts):∃m aA,dx c i ε=some (m,aA)/\aA[j]?=some (.own ts):=by
 simp only[k8,b7] at e;obtain⟨⟨m,aA⟩,aH,e⟩:=e;split at e
 ·cases e
  exact⟨m,aA,aH,by assumption⟩
 ·cases e
def NJ(k:fu X.K c C ns)(b4:X.A.units+1<cLine)(a9:bR X o (hR i))(au:dd X a g)(bJ:ns[j]?=some f:=by rfl)(ab:ij o f X.env (eval o X.env)=eval o X.env:=by rfl)(asr:D2 a:=by intro _ _;rfl):
  cA X (.Subscript (.Attribute o f apos) a pos) (ni c i j g):=dn (aqY b4 (asM a9 ab) au asr) λσ H Q ⟨aD,aO,O,F,ε,t,r,e,bL⟩=>by
 simp only[ni,b7] at e;obtain⟨t',bF,key,e',kvs,e1,r4⟩:=e;obtain⟨m,aA,aH,asr⟩:=C2 e1;obtain⟨a,vs,bj,v,af,hx,aB,au,bq,⟨b,us,dz,ab,eR⟩,_⟩:=mZ k r aH asr bJ;subst dz;refine⟨_,af,a,C,bj,_,_,rfl,hx,k.cls,k0 k bJ,aB,aD,aO,O,F,ε,t',r,bF,λv aY H1 aM aQ=>?_⟩;have sb:=aM.same.get ab;have uF:=ed.aC (aM.aC (K:=X.K)) eR;obtain⟨w,hw,iz⟩:=uF.get r4;refine⟨b,w,rfl,?_,bL w aY H1 aM iz⟩;rw[tB e' aQ,<- hw];exact qe.k sb
def UJ{K:bb}{aD F O aY:asq->Prop}{H H1:aE}{E:hq}{ε:Ev}{σ:bG.St}{b:asq}(r:cP K aD E O F H ε σ)(x:Ext F H aY H1)(a9:H b=none):
  ∀(k:Nat) (u:aI) (w:V),ε[k]?=some (some u)->σ[k]?=some (some w)->b∉dA H1 u w:=λk u w e' aR ab=>by
 obtain⟨fg,af,ai⟩:=r.val k u e';rw[aR] at af;cases af;rw[(ai.wj x).2] at ab;obtain⟨o,e,_⟩:=ai.at ab;rw[a9] at e;cases e
def fK(k:fu X.K c C ns)(a9:bR X o (hR i))(he:cA X e g)(bJ:ns[j]?=some f:=by rfl)(asr:kh e (some (.Attribute o f apos)) pos.line X.env=pure false:=by rfl):
  gF X (.Assign [.Attribute o f apos] e pos) (eJ c i j g):=hV (NK a9 he asr) λD σ H ⟨aD,aO,O,F,ε,o,r,e,bL⟩=>by
 simp only[eJ,b7,d7] at e;obtain⟨t,bF,ε',es,rfl⟩:=e;refine⟨aD,aO,O,F,ε,t,r,bF,λv aY H1 aM aQ=>?_⟩;have a6:=r.ext aM;have hy:=es;unfold gw at hy;simp only[b7] at hy;obtain⟨⟨m,aA⟩,aH,_⟩:=hy;obtain⟨a,vs,bj,af,hx,aB,au,_⟩:=nM k a6 aH;obtain⟨aC,b'⟩:=a6.Bd (s:=.ae t) (v:=v) k aH af au es aQ (λb ab=>by simp[dP] at ab) hx bJ;refine⟨_,af,a,C,bj,_,rfl,hx,k.cls,k0 k bJ,?_,bL σ aY _ (aM.aC.trans aC) b'⟩;have:=k.z1;simp only[List.length_zip];omega
def rd(k:fu X.K c C ns)(a9:bR X o (hR i))(he:tZ X e g)(bJ:ns[j]?=some f:=by rfl)(asr:kh e (some (.Attribute o f apos)) pos.line X.env=pure false:=by rfl):
  gF X (.Assign [.Attribute o f apos] e pos) (jT c i j g):=hV (NK a9 he asr) λD σ H ⟨aD,aO,O,F,ε,o,r,e,bL⟩=>by
 simp only[jT,b7] at e;obtain⟨t,bF,e⟩:=e;split at e
 next ts=>
  simp only[d7] at e;obtain⟨ε',es,rfl⟩:=e;refine⟨aD,aO,O,F,ε,ts,r,bF,λb us aY H1 aM px j8 ab aQ=>?_⟩;have a6:=r.ext aM;have hy:=es;unfold gw at hy;simp only[b7] at hy;obtain⟨⟨m,aA⟩,aH,_⟩:=hy;obtain⟨a,vs,bj,af,hx,aB,au,_⟩:=nM k a6 aH;have hold:=UJ r aM px;obtain⟨aC,b'⟩:=a6.Bd (s:=.own ts) (v:=.ref b) k aH af au es ⟨b,us,rfl,ab,aQ⟩ (λd hd=>by
   have:d=b:=by simpa [dP,ie] using hd
   subst this;exact⟨j8,r.fr _ px,hold i _ _ (nI aH) af,λk u w _ e' _ aR=>hold k u w e' aR⟩) hx bJ
  refine⟨_,af,a,C,bj,_,rfl,hx,k.cls,k0 k bJ,?_,bL σ aY _ (aM.aC.trans aC) b'⟩
  have:=k.z1;simp only[List.length_zip];omega
 next=>cases e
def Ud{x y:T}{z:Int}(h:qb x y=some z):∃p q,x=.int p/\y=.int q/\z=p+q:=by
 unfold qb at h;split at h
 ·cases h
  exact⟨_,_,rfl,rfl,rfl⟩
 ·cases h
def VE(k:fu X.K c C ns)(a9:bR X o (hR i))(he:cA X e g)(bJ:ns[j]?=some f:=by rfl):gF X (.AugAssign (.Attribute o f apos) .Add e pos) (pd c i j g):=
 hV (aoA a9 he V4) λD σ H ⟨aD,aO,O,F,ε,o,r,e,bL⟩=>by
 simp only[pd,b7,d7] at e;obtain⟨x,ex,y,eV,z,lP,ε',es,rfl⟩:=e;simp only[fA,b7] at ex;obtain⟨⟨m,aA⟩,aH,ex⟩:=ex;split at ex
 next t' asr=>
  cases ex
  obtain⟨p,q,rfl,rfl,rfl⟩:=Ud lP;obtain⟨a,vs,bj,v,af,hx,aB,au,bq,b0,_⟩:=mZ k r aH asr bJ;refine⟨_,af,a,C,bj,_,v,rfl,hx,k.cls,k0 k bJ,aB,aD,aO,O,F,ε,_,r,eV,λw aY H1 aM aQ=>?_⟩;have a6:=r.ext aM;have ev:v=.int p:=by simpa [lJ,Rep] using b0
  have jx:w=.int q:=by simpa [Rep] using aQ
  obtain⟨fF,fp,ub,en,k_,ar9,mz,_⟩:=nM k a6 aH;rw[af] at en;cases en;obtain⟨aC,b'⟩:=a6.Bd (s:=.ae (.int (p+q))) (v:=.int (p+q)) k aH af mz es (by simp[lJ,Rep]) (λb ab=>by simp[dP] at ab) k_ bJ;refine⟨p,q,ev,jx,ub,_,k_,?_,bL σ aY _ (aM.aC.trans aC) b'⟩;have:=k.z1;simp only[List.length_zip];omega
 next=>cases ex
def Ds(k:fu X.K c C ns)(a9:bR X o (hR i)){j1 dE:Pos}(he:cA X e g)(bJ:ns[j]?=some f:=by rfl)(ab:ij o f X.env (eval o X.env)=eval o X.env:=by rfl)
  (jD:bo [e] X.env=(false,eval e X.env)::bo [] X.env:=by rfl)
  (jA:ij (.Attribute o f apos) "append" X.env (eval (.Attribute o f apos) X.env)=eval (.Attribute o f apos) X.env:=by rfl)
  (nt:((dp dE (bo [e] X.env)).all (λx=>!x.1) && (l7 dE (l6 [] X.env)).all (λx=>x.1.isSome)
   && decide (([e]:List bx).length+([]:List Keyword).length+(if ([]:List Keyword).isEmpty then 0 else 1)<30))=true:=by rfl)
  (jC:(j1.endLine==dE.line)=true:=by rfl) (nv:(dp dE (bo [] X.env)).any (·.1)=false:=by rfl)
  (ny:kh (.Call (.Attribute (.Attribute o f apos) "append" j1) [e] [] dE) none pos.line X.env=pure false:=by rfl):
  gF X (.Expr (.Call (.Attribute (.Attribute o f apos) "append" j1) [e] [] dE) pos) (lM c i j g):=
 hV (yq (yP PySem.F.plainAttrs_list PySem.F.slot_list_append PySem.F.type_list_append TK (asM a9 ab) (i_ he km jD) jA nt jC jD nv) ny) λD σ H ⟨aD,aO,O,F,ε,o,r,e,bL⟩=>by
 simp only[lM,b7] at e;obtain⟨t,bF,ts,fG,e⟩:=e;split at e
 next ar=>
  simp only[d7] at e;obtain⟨ε',es,rfl⟩:=e;obtain⟨m,aA,aH,asr⟩:=MI fG;obtain⟨a,vs,bj,v,af,hx,aB,au,bq,⟨b,us,dz,ab,eR⟩,_⟩:=mZ k r aH asr bJ;subst dz;refine⟨_,af,a,C,bj,_,_,rfl,hx,k.cls,k0 k bJ,aB,.inl ⟨rfl,_,fP.of ab⟩,aD,aO,O,F,ε,t,r,bF,λv aY H1 aM aQ=>?_⟩;have a6:=r.ext aM;obtain⟨a1,al3,arY,v1,Qj,ash,qA,z7,QO,⟨b2,RN,ac3,sb,uF⟩,_⟩:=mZ k a6 aH asr bJ;rw[af] at Qj;cases Qj;have ev:al3=vs:=by rw[<- z7.vals,<- (au.keep ((aM.same.get hx).trans hx.symm)).vals]
  subst ev;rw[bq] at QO;cases QO;cases ac3;obtain⟨aC,b'⟩:=a6.w0 (s':=.own (ts++[t])) (o':=.lst (RN++[v])) aH af z7 es asr bq (by simp[dP,ie]) rfl λaC=>⟨b,_,rfl,ew,(uF.aC aC).append (bz.cons (aQ.aC aC) bz.nil)⟩;exact⟨b,RN,v,rfl,rfl,sb,by rw[ko,<- uF.length];exact ar,bL σ aY _ (aM.aC.trans aC) b'⟩
 next=>cases e
def arQ(k:fu X.K c C ns)(b4:X.A.units+1<cLine)(a9:bR X o (hR i)){sJ:Pos}(au:dd X a h)(he:cA X e g)(bJ:ns[j]?=some f:=by rfl)(ab:ij o f X.env (eval o X.env)=eval o X.env:=by rfl)
  (asr:kh e (some (.Subscript (.Attribute o f apos) a sJ)) pos.line X.env=pure false:=by rfl):
  gF X (.Assign [.Subscript (.Attribute o f apos) a sJ] e pos) (ru c i j h g):=hV (aqP b4 (asM a9 ab) au he asr) λD σ H ⟨aD,aO,O,F,ε,o,r,e,bL⟩=>by
 simp only[ru,b7] at e;obtain⟨v,ev,t,bF,key,e',kvs,e1,e⟩:=e;split at e
 next ar=>
  simp only[d7] at e;obtain⟨ε',es,rfl⟩:=e;obtain⟨m,aA,aH,asr⟩:=C2 e1;refine⟨aD,aO,O,F,ε,v,r,ev,λLp aY H1 aM aQ=>?_⟩;have a6:=r.ext aM;obtain⟨a,vs,bj,w,af,hx,aB,au,bq,⟨b,us,dz,ab,eR⟩,_⟩:=mZ k a6 aH asr bJ;subst dz;refine⟨_,af,a,C,bj,_,_,rfl,hx,k.cls,k0 k bJ,aB,aD,aO,O,aY,ε,t,a6,bF,λvt dq bk bK a7=>?_⟩;have b':=a6.ext bK;have Hg:hY bk a c vs:=au.keep ((bK.same.get hx).trans hx.symm);have K2:=ed.aC (bK.aC (K:=X.K)) eR;obtain⟨aC,iY⟩:=b'.w0 (s':=.hu (putD kvs key v)) (o':=.fx (putK us key Lp)) aH af Hg es asr bq (by simp[dP,ie]) rfl λaC=>⟨b,_,rfl,ew,ed.put (ed.aC aC K2) ((aQ.ext bK).aC aC)⟩;refine⟨b,_,rfl,?_,bL σ dq _ ((aM.trans bK).aC.trans aC) iY⟩;rw[tB e' a7];exact rG.k (bK.same.get ab) (by rw[ko,<- eR.length];exact ar)
 next=>cases e
def aqx(k:fu X.K c C ns)(b4:X.A.units+1<cLine)(a9:bR X o (hR i)){sJ:Pos}(au:dd X a h)(he:cA X e g)(bJ:ns[j]?=some f:=by rfl)(ab:ij o f X.env (eval o X.env)=eval o X.env:=by rfl)
  (ads:∀eG j6 new,augStore a eG j6 new=(do holding [new,eG,j6] (setItem eG j6 new);release [new,eG,j6] [];pure .next):=by intros;rfl):
  gF X (.AugAssign (.Subscript (.Attribute o f apos) a sJ) .Add e pos) (rB c i j h g):=hV (aqQ b4 (asM a9 ab) au he V4 ads) λD σ H ⟨aD,aO,O,F,ε,o,r,e,bL⟩=>by
 simp only[rB,b7] at e;obtain⟨t,bF,key,e',kvs,e1,x,r4,y,eV,z,lP,e⟩:=e;split at e
 next ar=>
  simp only[d7] at e;obtain⟨ε',es,rfl⟩:=e;obtain⟨p,q,rfl,rfl,rfl⟩:=Ud lP;obtain⟨m,aA,aH,asr⟩:=C2 e1;obtain⟨a,vs,bj,w,af,hx,aB,au,bq,⟨b,us,dz,ab,eR⟩,_⟩:=mZ k r aH asr bJ;subst dz;refine⟨_,af,a,C,bj,_,_,rfl,hx,k.cls,k0 k bJ,aB,aD,aO,O,F,ε,t,r,bF,λvt aY H1 aM aQ=>?_⟩;have a6:=r.ext aM;have uF:=ed.aC (aM.aC (K:=X.K)) eR;have sb:=aM.same.get ab;obtain⟨w,hw,iz⟩:=uF.get r4;have jx:w=.int p:=by simpa [Rep] using iz
  subst jx;refine⟨b,_,rfl,by rw[tB e' aQ,<- hw];exact qe.k sb,aD,aO,O,aY,ε,_,a6,eV,λLp dq bk bK a7=>?_⟩;have ev:Lp=.int q:=by simpa [Rep] using a7
  subst ev;refine⟨p,q,rfl,rfl,?_⟩;have b':=a6.ext bK;have pS:=aM.trans bK;have Hg:hY bk a c vs:=au.keep ((pS.same.get hx).trans hx.symm);have K2:=ed.aC (pS.aC (K:=X.K)) eR;obtain⟨aC,iY⟩:=b'.w0 (s':=.hu (putD kvs key (.int (p+q)))) (o':=.fx (putK us key (.int (p+q)))) aH af Hg es asr bq (by simp[dP,ie]) rfl λaC=>⟨b,_,rfl,ew,ed.put (ed.aC aC K2) (by simp[Rep])⟩;refine⟨_,?_,bL σ dq _ (pS.aC.trans aC) iY⟩;rw[tB e' aQ];exact rG.k (pS.same.get ab) (by rw[ko,<- eR.length];exact ar)
 next=>cases e
end
end
section
variable [cV]
noncomputable def rD(K:bb)(F:asq->Prop)(H:aE)(σ:bG.St):List oR->List aI->List V->Prop
| [],[],[]=>True
|.v _::as,s::ss,v::vs=>(∃t,s=.ae t/\Rep K F H t v)/\rD K F H σ as ss vs
|.o i::as,s::ss,v::vs=>σ[i]?=some (some v)/\rD K F H σ as ss vs
|_,_,_=>False
def ald(K:bb)(as:List oR):f7:=λσ H Q=>∃aD E O F ε ss,cP K aD E O F H ε σ/\pa as ε=some ss/\∀vs aK aj,Ext F H aK aj->rD K aK aj σ as ss vs->Q vs aj
abbrev y8(X:bu)(es:List bx)(as:List oR):Prop:=hJ X es (ald X.K as)
def ON{X:bu}{e:List bx}{t t':f7}(h:hJ X e t)(k:∀σ H Q,t' σ H Q->t σ H Q):hJ X e t':=yN h k
section
variable {X:bu}{e:bx}{es:List bx}{as:List oR}{f:bl}{i:Nat}
def tJ:y8 X [] []:=ON km λσ H Q ⟨aD,E,O,F,ε,ss,r,e,k⟩=>by
 cases e
 exact k [] F H (Ext.refl r.cy) trivial
def TC{ε:Ev}{s:aI}(h:AY i ε=some s):∃m c aA,s=.obj m c aA/\ε[i]?=some (some s):=by
 unfold AY at h;split at h
 next m c aA e=>
  cases h
  exact⟨m,c,aA,rfl,e⟩
 next=>cases h
def rS(af:bR X e (hR i))(ai:y8 X es as)(asr:bo (e::es) X.env=(false,eval e X.env)::bo es X.env:=by rfl):y8 X (e::es) (.o i::as):=ON (i_ af ai asr) λσ H Q ⟨aD,E,O,F,ε,ss,r,e,k⟩=>by
 simp only[pa,b7,d7] at e;obtain⟨s,hy,us,fy,rfl⟩:=e;obtain⟨m,c,aA,_,asr⟩:=TC hy;obtain⟨v,af,_⟩:=r.val i s asr;exact⟨v,af,aD,E,O,F,ε,us,r,fy,λvs dq bk bK a7=>k _ dq bk bK ⟨af,a7⟩⟩
end
def DQ(K:bb)(F:asq->Prop)(H:aE)(ss:List aI)(vs:List V):Prop:=Paired (λs v=>s.iQ=false/\ea K ⟨H,0⟩ (λa=>H a=none) F H s v) ss vs
noncomputable def K_(K:bb)(n:Nat)(d:List aI->Option T):ks:=λvs H Q _=>vs.length=n/\∃F ss t,gE F H/\DQ K F H ss vs/\d ss=some t/\∀v aK aj,Ext F H aK aj->Rep K aK aj t v->Q v aj
section
variable {K:bb}{F aK aD O:asq->Prop}{H aj:aE}{E oV:hq}
theorem Paired.get{α β:Type}{R:α->β->Prop}:∀{xs:List α} {ys:List β} {i:Nat} {x:α},Paired R xs ys->xs[i]?=some x->∃y,ys[i]?=some y/\R x y
|_,_,i,x,.nil,e=>by simp at e
|_,_,0,x,.cons r _,e=>by
  simp at e;subst e;exact⟨_,rfl,r⟩
|_,_,i+1,x,.cons _ t,e=>by
  obtain⟨y,af,ai⟩:=Paired.get (i:=i) (x:=x) t (by simpa using e);exact⟨y,by simpa using af,ai⟩
def x_{ss:List aI}{n i:Nat}{s:aI}(h:(kZ n ss)[i]?=some (some s)):ss[i]?=some s:=by
 unfold kZ at h;by_cases hi:i<ss.length
 ·rw[uT (by simpa using hi),kQ,iB hi] at h;rw[iB hi];simpa using h
 ·rw[uS (by simpa using hi),List.getElem?_replicate] at h;split at h <;> cases h
def Tv{vs:List V}{n i:Nat}{v:V}(h:vs[i]?=some v):(vs.map some++dS n none)[i]?=some (some v):=by
 have hi:=(hj.mp h).1;rw[uT (by simpa using hi),kQ,h];rfl
def yO{m:gn}{c:Nat}{aA:List aI}{v:V}(r:ea K E O F H (.obj m c aA) v)(oV:hq)(m7:asq->Prop)(he:∀b∈dA H (.obj m c aA) v,oV.h b≠none):ea K oV m7 F H (.obj .c4 c aA) v:=by
 have b_:=r;obtain⟨a,vs,rfl,au,hf,a_,fI,iU⟩:=r;rw[kl au] at he;exact⟨a,vs,rfl,au,hf,a_,λb ab=>⟨(fI b ab).1,he b ab⟩,λz=>by cases z⟩
def anw{ss:List aI}{vs:List V}(cy:gE F H)(q:DQ K F H ss vs)(n:Nat):cP K F ⟨H,0⟩ (λa=>H a=none) F H (kZ n ss) (vs.map some++dS (n - vs.length) none):=by
 have aB:ss.length=vs.length:=Paired.length q;refine⟨by simp[kZ,aB],λi s e=>?_,λi j s u v w j5 aG aS dK=>?_,Ext.refl cy,λ_ h=>h,λ_ h=>h⟩
 ·obtain⟨v,bq,_,b0⟩:=Paired.get q (x_ e);exact⟨v,Tv bq,b0⟩
 ·obtain⟨_,_,z,_⟩:=Paired.get q (x_ aG);rw[z] at dK;cases dK
theorem N0{ε:Ev}{σ:bG.St}(r:cP K aD E O F H ε σ):∀{as:List oR} {ss:List aI} {vs:List V},pa as ε=some ss->rD K F H σ as ss vs->DQ K F H (ss.map A6) vs
| [],ss,vs,e,h=>by
  cases e
  cases vs with
  |nil=>exact .nil
  |cons v vs=>exact h.elim
|.v f::as,ss,vs,e,h=>by
  simp only[pa,b7,d7] at e;obtain⟨t,bF,us,fy,rfl⟩:=e;cases vs with
  |nil=>exact h.elim
  |cons v vs=>
   obtain⟨⟨t',bN,d9⟩,h⟩:=h;cases bN;exact .cons ⟨rfl,d9⟩ (N0 r fy h)
|.o i::as,ss,vs,e,h=>by
  simp only[pa,b7,d7] at e;obtain⟨s,es,us,fy,rfl⟩:=e;cases vs with
  |nil=>exact h.elim
  |cons v vs=>
   obtain⟨bq,h⟩:=h;obtain⟨m,c,aA,rfl,asr⟩:=TC es;obtain⟨kc,pA,rs⟩:=r.val i _ asr;rw[bq] at pA;cases pA;refine .cons ⟨rfl,yO rs _ _ λb ab=>?_⟩ (N0 r fy h);obtain⟨o,e,_⟩:=rs.at ab;show H b≠none;rw[e];exact λz=>by cases z
theorem U2:∀{ts:List T} {vs:List V},bz K F H ts vs->DQ K F H (ts.map .ae) vs
| [],vs,h=>by
  simp only[bz] at h;subst h;exact .nil
|t::ts,vs,h=>by
  simp only[bz] at h;obtain⟨v,z,rfl,q,h⟩:=h;exact .cons ⟨rfl,q⟩ (U2 h)
end
section
variable {P:cJ}{w:cB}{K:bb}{mg:Str->Option ak}{base:bX}
def Vg{x qual:Str}{st:Stmt}{f:asq}{fd:fX}{N av:List Str}{k:Nat}{b:bc}(F:cb K x qual st f fd)(S:cw N av (bQ st))
  (ab:∀(cR:ak) (A:c3) (outer:List Env) (s:aP) (H:aE) (E:gH),dD k (A.deeper (envOfC qual (bQ st) s.heap.objs.size f cR)) ->
   ip (je eX P w K mg base N qual (bQ st) f cR A outer s H E).j9 (i' st) b):
  eY P w K mg base eX (k+1) f fd av (K_ K av.length (gu b N.length)):=by
 refine F.ok S (λvs H Q E h=>h.1) λcR A outer s H vs Q E aw h=>⟨_,ab cR A outer s H E aw,?_⟩
 obtain⟨aB,F,ss,t,cy,q,e,mC⟩:=h;simp only[gu,b7] at e;obtain⟨o,eU,e⟩:=e;refine⟨F,⟨H,0⟩,λa=>H a=none,F,_,o,?_,eU,?_⟩
 ·unfold bG.start;exact anw cy q N.length
 ·cases o with
  |d9 t'=>
   cases e
   exact λv aK aj x q=>mC v aK aj x q
  |bP ε'=>
   cases e
   exact λcf aK aj _ r=>mC _ aK aj r.ent (by simp[Rep])
  |ht _=>cases e
  |cH _=>cases e
  |ig _ _=>cases e
  |ka _=>cases e
structure qd(P:cJ)(w:cB)(K:bb)(mg:Str->Option ak)(base:bX)(x:Str)(k n:Nat)(d:List aI->Option T):Prop where
 ex:∃cp fd av,eY P w K mg base eX k cp fd av (K_ K n d)/\mg x=some (.ref cp)/\mQ K (.ref cp)=true/\Binds K fd av []
theorem qd.mono{x:Str}{k n j:Nat}{d:List aI->Option T}(c:qd P w K mg base x j n d)(h:j<=k):qd P w K mg base x k n d:=by
 obtain⟨cp,fd,av,F,r⟩:=c.ex;exact⟨cp,fd,av,F.mono h,r⟩
def Zj{x:Str}{st:Stmt}{f:asq}{fd:fX}{N av:List Str}{k:Nat}{b:bc}(F:cb K x x st f fd)(S:cw N av (bQ st))(bd:Binds K fd av [])(m:mg x=some (.ref f))
  (ab:∀(cR:ak) (A:c3) (outer:List Env) (s:aP) (H:aE) (E:gH),dD k (A.deeper (envOfC x (bQ st) s.heap.objs.size f cR)) ->
   ip (je eX P w K mg base N x (bQ st) f cR A outer s H E).j9 (i' st) b):qd P w K mg base x (k+1) av.length (gu b N.length):=⟨f,fd,av,Vg F S ab,m,F.aC,bd⟩
structure e0(P:cJ)(w:cB)(K:bb)(mg:Str->Option ak)(base:bX)(C:asq)(m:Str)(k n:Nat)(d:List aI->Option T):Prop where
 ex:∃cp fd av,eY P w K mg base eX k cp fd av (K_ K n d)/\Meth K C m cp/\Binds K fd av []
theorem e0.mono{C:asq}{m:Str}{k n j:Nat}{d:List aI->Option T}(c:e0 P w K mg base C m j n d)(h:j<=k):e0 P w K mg base C m k n d:=by
 obtain⟨cp,fd,av,F,r⟩:=c.ex;exact⟨cp,fd,av,F.mono h,r⟩
def oM{C:asq}{m qual:Str}{st:Stmt}{f:asq}{fd:fX}{N av:List Str}{k:Nat}{b:bc}(F:cb K m qual st f fd)(S:cw N av (bQ st))(bd:Binds K fd av [])(iW:Meth K C m f)
  (ab:∀(cR:ak) (A:c3) (outer:List Env) (s:aP) (H:aE) (E:gH),dD k (A.deeper (envOfC qual (bQ st) s.heap.objs.size f cR)) ->
   ip (je eX P w K mg base N qual (bQ st) f cR A outer s H E).j9 (i' st) b):e0 P w K mg base C m (k+1) av.length (gu b N.length):=⟨f,fd,av,Vg F S ab,iW,bd⟩
end
theorem vi:∀{fB:List bl} {ε:Ev} {us:List T},args fB ε=some us->us.length=fB.length
| [],ε,us,e=>by
  cases e
  rfl
|g::fB,ε,us,e=>by
  simp only[args,b7,d7] at e;obtain⟨t,_,vs,ev,rfl⟩:=e;simp[vi ev]
theorem rD.len{K:bb}{F:asq->Prop}{H:aE}{σ:bG.St}:∀{as:List oR} {ss:List aI} {vs:List V},rD K F H σ as ss vs->vs.length=as.length
| [],[],[],_=>rfl
|.v _::as,s::ss,v::vs,h=>by simp[rD.len h.2]
|.o i::as,s::ss,v::vs,h=>by simp[rD.len h.2]
| [],[],_::_,h=>h.elim
| [],_::_,_,h=>h.elim
|.v _::_,[],_,h=>h.elim
|.v _::_,_::_,[],h=>h.elim
|.o _::_,[],_,h=>h.elim
|.o _::_,_::_,[],h=>h.elim
section
variable {X:bu}{k n c C i:Nat}{ns:List Str}{d:List aI->Option T}{x m:Str}{p pos apos:Pos}{o e:bx}{es:List bx}{as:List oR}{aA:List bl}
def tx(iK:qd X.prog X.w X.K X.mg X.base x k n d)(aw:dD k X.A)(au:y8 X (e::es) as)(bf:ez X x:=by rfl)(a9:as.length=n:=by rfl)(gY:(x==("__debug__":Str))=false:=by decide)
  (he:bo (e::es) X.env=(false,eval e X.env)::bo es X.env:=by rfl) (hpl:(dp pos (bo es X.env)).any (·.1)=false:=by rfl):cA X (.Call (.Name x p) (e::es) [] pos) (jS d as):=by
 obtain⟨cp,fd,av,F,hm,aC,b⟩:=iK.ex;refine dn (yr F aw bf hm aC b .nil nS au gY he hpl) λσ H Q ⟨aD,E,O,F,ε,t,r,e,k⟩=>?_;simp only[jS,b7] at e;obtain⟨ss,es,e1⟩:=e;refine⟨aD,E,O,F,ε,ss,r,es,λvs aY H1 aM q=>⟨?_,aY,ss.map A6,t,aM.cy,?_,e1,λv aK aj bK a7=>k v aK aj (aM.trans bK) a7⟩⟩
 ·rw[jN,q.len,a9]
 ·rw[jN];exact N0 (r.ext aM) es q
def tw(gs:fu X.K c C ns)(iK:e0 X.prog X.w X.K X.mg X.base C m k n d)(aw:dD k X.A)(a9:bR X o (hR i))(au:lL X (e::es) aA){pl:Sem Bool}(hm:m∉ns:=by decide +kernel)(aB:aA.length+1=n:=by rfl)
  (lS:bo (e::es) X.env=(false,eval e X.env)::bo es X.env:=by rfl) (hpl:(dp pos (bo es X.env)).any (·.1)=false:=by rfl)
  (aZ:eval (.Call (.Attribute o m apos) (e::es) [] pos) X.env=(do
   let eG <- eval o X.env
   standAt apos.atName
   let (f,first) <- holding [eG] (getMethod eG m pl)
   callWith pos f first (dp pos (bo (e::es) X.env)) (l7 pos (l6 [] X.env))):=by rfl):cA X (.Call (.Attribute o m apos) (e::es) [] pos) (d3 c d i aA):=by
 obtain⟨cp,fd,av,F,iW,b⟩:=iK.ex;refine dn (U7 a9 gs.cls iW F aw b .nil nS au lS hpl aZ) λσ H Q ⟨aD,E,O,F,ε,t,r,e,k⟩=>?_;simp only[d3,b7] at e;obtain⟨⟨md,os⟩,aH,ts,bF,e1⟩:=e;obtain⟨a,vs,bj,af,hx,_⟩:=nM gs r aH;refine⟨_,af,a,bj,_,rfl,hx,u_ hm,aD,E,O,F,ε,ts,r,bF,λws aY H1 aM q=>⟨?_,aY,_,t,aM.cy,?_,e1,λv aK aj bK a7=>k v aK aj (aM.trans bK) a7⟩⟩
 ·rw[jN,d_,<- q.length,vi bF,aB]
 ·rw[jN];have a6:=r.ext aM;obtain⟨kc,en,rs⟩:=a6.val i _ (nI aH);rw[af] at en;cases en;refine .cons ⟨rfl,yO rs _ _ λb ab=>?_⟩ (U2 q);obtain⟨o,e,_⟩:=rs.at ab;show H1 b≠none;rw[e];exact λz=>by cases z
def oH(gs:fu X.K c C ns)(iK:e0 X.prog X.w X.K X.mg X.base C m k n d)(aw:dD k X.A)(a9:bR X o (hR i)){pl:Sem Bool}(hm:m∉ns:=by decide +kernel)(aB:1=n:=by rfl)
  (aZ:eval (.Call (.Attribute o m apos) [] [] pos) X.env=(do
   let eG <- eval o X.env
   standAt apos.atName
   let (f,first) <- holding [eG] (getMethod eG m pl)
   callWith pos f first (dp pos (bo [] X.env)) (l7 pos (l6 [] X.env))):=by rfl):cA X (.Call (.Attribute o m apos) [] [] pos) (d3 c d i []):=by
 obtain⟨cp,fd,av,F,iW,b⟩:=iK.ex;refine dn (MZ a9 gs.cls iW F aw b .nil nS aZ) λσ H Q ⟨aD,E,O,F,ε,t,r,e,k⟩=>?_;simp only[d3,b7] at e;obtain⟨⟨md,os⟩,aH,ts,bF,e1⟩:=e;cases bF;obtain⟨a,vs,bj,af,hx,_⟩:=nM gs r aH;refine⟨_,af,a,bj,_,rfl,hx,u_ hm,⟨?_,F,_,t,r.cy,?_,e1,λv aK aj bK a7=>k v aK aj bK a7⟩⟩
 ·simp[aB]
 ·obtain⟨kc,en,rs⟩:=r.val i _ (nI aH);rw[af] at en;cases en;refine .cons ⟨rfl,yO rs _ _ λb ab=>?_⟩ .nil;obtain⟨o,e,_⟩:=rs.at ab;show H b≠none;rw[e];exact λz=>by cases z
end
end
section
variable [cV]
open Classical in
noncomputable def hH(H:aE)(P:List asq)(a:asq):hq:=⟨λb=>if b∈P then none else H b,a⟩
section
variable {K:bb}{F aK aD O:asq->Prop}{H aj:aE}{E:hq}{P:List asq}{a b:asq}{o:eD}{ε:Ev}{σ:bG.St}{c i:Nat}{m:gn}{aA asB:List aI}
def C'(h:b∈P):(hH H P a).h b=none:=if_pos h
def te(h:b∉P):(hH H P a).h b=H b:=if_neg h
def CF(h:(hH H P a).h b=none):b∈P\/H b=none:=by
 by_cases z:b∈P
 ·exact .inl z
 ·rw[te z] at h;exact .inr h
def an6(h:(hH H P a).h b=some o):b∉P/\H b=some o:=by
 by_cases z:b∈P
 ·rw[C' z] at h;cases h
 ·exact⟨z,by rw[te z] at h;exact h⟩
def ap0(d:gE F H):Ext F (hH H P a).h F H:=⟨λ_ _ q=>.inl (an6 q).2,λ_ h=>h,λ_ h=>.inl h,d⟩
def arb{v:V}(r:ea K E O F H (.obj m c aA) (.ref a)):ea K (hH H (dA H (.obj m c aA) (.ref a)) a) (λb=>(hH H (dA H (.obj m c aA) (.ref a)) a).h b=none) F H (.obj .cg c aA) (.ref a):=by
 obtain⟨fF,vs,e,au,hf,a_,fI,iU⟩:=r;cases e;rw[kl au];exact⟨a,vs,rfl,au,hf,a_,λb ab=>⟨(fI b ab).1,C' ab⟩,λ_=>rfl⟩
def cP.back(r:cP K aD E O F H ε σ)(e:ε[i]?=some (some (.obj m c aA)))(hm:m≠.c4)(af:σ[i]?=some (some (.ref a)))(gb:P=dA H (.obj m c aA) (.ref a))(x:Ext F (hH H P a).h aK aj)
  (rs:ea K (hH H P a) (λb=>(hH H P a).h b=none) aK aj (.obj .cg c asB) (.ref a)):ec K F H aK aj/\cP K aD E O aK aj (ε.set i (some (.obj m c asB))) σ:=by
 obtain⟨v,en,ic⟩:=r.val i _ e;rw[af] at en;cases en;have wL:(aI.obj m c aA).iQ=true:=Dt hm;have sm:∀b∈P,(∃o,H b=some o/\m6 o)/\¬F b/\O b:=λb ab=>by
  rw[gb] at ab;exact⟨ic.at ab,(ic.held ab).1,(ic.held ab).2.1 wL⟩
 have kL:∀b o,b∉P->H b=some o->(∀av,o≠.kM av)->aj b=some o:=λb o ab e n=>x.same.get (by rw[te ab];exact e) n;have aC:ec K F H aK aj:=by
  refine⟨λb xs q=>?_,λb xs f q=>⟨x.sub b f,?_⟩⟩
  ·rcases q with q|q
   ·refine .inl ?_
    have nb:b∉P:=λz=>by
     obtain⟨⟨o,eU,aH⟩,_⟩:=sm b z;rcases q with q|⟨_,q⟩ <;> (rw[eU] at q;cases q;exact aH.cases (λ_ z=>by cases z) (λ_ z=>by cases z) (λ_ _ _ z=>by cases z))
    rcases q with q|⟨u,q⟩
    ·exact .inl (kL b _ nb q λ_ z=>by cases z)
    ·exact .inr ⟨u,kL b _ nb q λ_ z=>by cases z⟩
   ·exact .inr q
  ·have nb:b∉P:=λz=>(sm b z).2.1 f;rcases q with q|⟨u,q⟩
   ·exact .inl (kL b _ nb q λ_ z=>by cases z)
   ·exact .inr ⟨u,kL b _ nb q λ_ z=>by cases z⟩
 have Q_:∀b,aK b->F b\/b∈P\/H b=none:=λb f=>by
  rcases x.new b f with z|z
  ·exact .inl z
  ·exact .inr (CF z)
 have keep:∀(j:Nat) (u:aI) (w:V),i≠j->ε[j]?=some (some u)->σ[j]?=some (some w)->ea K E O F H u w->(∀b∈dA H u w,b∉P)/\ea K E O aK aj u w/\dA aj u w=dA H u w:=by
  intro j u w j5 r5 bJ dH;have Ke:∀b∈dA H u w,b∉P:=λb ab z=>by
   cases qN:u.iQ with
   |true=>exact r.ne i j _ u _ w j5 e r5 wL qN af bJ b (gb▸z) ab
   |false=>exact (dH.held ab).2.2 qN (r.o0 b (sm b z).2.2)
  refine⟨Ke,dH.keep aC (λb ab=>?_) (λb ab f=>?_) λ_ _ o=>o⟩
  ·obtain⟨o,eU,aH⟩:=dH.at ab;rw[eU];exact kL b o (Ke b ab) eU λav z=>by subst z;exact aH.cases (λ_ z=>by cases z) (λ_ z=>by cases z) (λ_ _ _ z=>by cases z)
  ·rcases Q_ b f with z|z|z
   ·exact z
   ·exact absurd z (Ke b ab)
   ·obtain⟨o,eU,_⟩:=dH.at ab;rw[z] at eU;cases eU
 obtain⟨fF,vs,dG,au,hf,a_,fI,_⟩:=rs;cases dG;have my:∀b∈a::df asB vs,¬aK b/\(b∈P\/H b=none):=λb ab=>by
  obtain⟨n,q⟩:=fI b ab;exact⟨n,CF q⟩
 have asf:(aI.obj m c asB).iQ=true:=Dt hm;have afK:m=.cg->a=E.iU:=by
  obtain⟨_,_,de,_,_,_,_,iU⟩:=ic;cases de;exact iU
 have aiy:∀b,¬aK b/\O b->v_ E O aK m b:=λb h=>by
  cases m with
  |c4=>exact absurd rfl hm
  |own=>exact h
  |cg=>exact h
 have xf:ea K E O aK aj (.obj m c asB) (.ref a):=⟨a,vs,rfl,au,hf,a_,λb ab=>aiy b ⟨(my b ab).1,by
  rcases (my b ab).2 with z|z
  ·exact (sm b z).2.2
  ·exact r.fr b z⟩,afK⟩
 have jg:dA aj (.obj m c asB) (.ref a)=a::df asB vs:=kl au;have apart:∀(j:Nat) (u:aI) (w:V),i≠j->ε[j]?=some (some u)->σ[j]?=some (some w)->ea K E O F H u w->∀b∈dA aj (.obj m c asB) (.ref a),b∉dA H u w:=λj u w j5 r5 bJ dH b ab iu=>by
  rw[jg] at ab;rcases (my b ab).2 with z|z
  ·exact (keep j u w j5 r5 bJ dH).1 b iu z
  ·obtain⟨o,eU,_⟩:=dH.at iu;rw[z] at eU;cases eU
 refine⟨aC,⟨by simp[r.len],λj u bN=>?_,λj k u w eS jJ ob aG aS dK fH aQ a7=>?_,⟨λb o q=>?_,λb f=>x.sub b (r.ent.sub b f),λb f=>?_,x.cy⟩,r.o0,λb bN=>?_⟩⟩
 ·rcases get_set bN with ⟨rfl,asN,aB⟩|⟨ne,asN⟩
  ·cases asN
   exact⟨_,af,xf⟩
  ·obtain⟨w,ai,dH⟩:=r.val j u asN;exact⟨w,ai,(keep j u w ne asN ai dH).2.1⟩
 ·rcases get_set aG with ⟨rfl,bN,aB⟩|⟨ne1,asE⟩
  ·rcases get_set aS with ⟨rfl,_,_⟩|⟨ne2,gT⟩
   ·exact absurd rfl ob
   ·cases bN
    rw[af] at aQ;cases aQ;obtain⟨fg,ai,dH⟩:=r.val k w gT;rw[a7] at ai;cases ai;rw[(keep k w jJ ne2 gT a7 dH).2.2];exact apart k w jJ ne2 gT a7 dH
  ·obtain⟨v1,ai,a6⟩:=r.val j u asE;rw[aQ] at ai;cases ai;rw[(keep j u eS ne1 asE aQ a6).2.2];rcases get_set aS with ⟨rfl,bN,aB⟩|⟨ne2,gT⟩
   ·cases bN
    rw[af] at a7;cases a7;intro b ab iu;exact apart j u eS ne1 asE aQ a6 b iu ab
   ·obtain⟨fg,bE,b'⟩:=r.val k w gT;rw[a7] at bE;cases bE;rw[(keep k w jJ ne2 gT a7 b').2.2];exact r.ne j k u w eS jJ ob asE gT dK fH aQ a7
 ·have nb:b∉P:=λz=>by
   rw[r.o0 b (sm b z).2.2] at q;cases q
  rcases r.ent.same b o q with z|⟨av,xb,aG,z⟩
  ·exact x.same b o (by rw[te nb];exact z)
  ·rcases x.same b _ (by rw[te nb];exact z) with gP|⟨_,xc,_,gP⟩
   ·exact .inr ⟨av,xb,aG,gP⟩
   ·exact .inr ⟨av,xc,aG,gP⟩
 ·rcases Q_ b f with z|z|z
  ·exact r.ent.new b z
  ·exact .inr (r.o0 b (sm b z).2.2)
  ·exact .inr (r.o0 b (r.fr b z))
 ·rcases CF (x.same.none bN) with z|z
  ·exact (sm b z).2.2
  ·exact r.fr b z
end
noncomputable def sI(K:bb)(n c p:Nat)(d:List aI->Option (T×List aI)):ks:=λvs H Q _=>vs.length=n/\∃(F:asq->Prop) (ss:List aI) (a:asq) (P:List asq) (aA:List aI) (r:T×List aI),gE F H/\vs[p]?=some (.ref a)/\ss[p]?=some (.obj .cg c aA) /\
 Paired (λs v=>ea K (hH H P a) (λb=>(hH H P a).h b=none) F H s v) ss vs/\(∀q s,q≠p->ss[q]?=some s->s.iQ=false)/\d ss=some r /\
 ∀v aK aj,Ext F (hH H P a).h aK aj->Rep K aK aj r.1 v->ea K (hH H P a) (λb=>(hH H P a).h b=none) aK aj (.obj .cg c r.2) (.ref a)->Q v aj
section
variable {P:cJ}{w:cB}{K:bb}{mg:Str->Option ak}{base:bX}
def anC{c p:Nat}{ε:Ev}{aA:List aI}(h:jQ c p ε=some aA):ε[p]?=some (some (.obj .cg c aA)):=by
 unfold jQ at h;split at h
 next el asB e=>
  split at h
  next ax=>
   cases h
   rw[e,ax]
  next=>cases h
 next=>cases h
def Nn{x qual:Str}{st:Stmt}{f:asq}{fd:fX}{N av:List Str}{k c p:Nat}{b:bc}(F:cb K x qual st f fd)(S:cw N av (bQ st))
  (ab:∀(cR:ak) (A:c3) (outer:List Env) (s:aP) (H:aE) (E:gH),dD k (A.deeper (envOfC qual (bQ st) s.heap.objs.size f cR)) ->
   ip (je eX P w K mg base N qual (bQ st) f cR A outer s H E).j9 (i' st) b):
  eY P w K mg base eX (k+1) f fd av (sI K av.length c p (runM c p b N.length)):=by
 refine F.ok S (λvs H Q E h=>h.1) λcR A outer s H vs Q E aw h=>⟨_,ab cR A outer s H E aw,?_⟩
 obtain⟨aB,F,ss,a,rL,aA,r,cy,bq,asr,q,aH,e,mC⟩:=h;simp only[runM,b7] at e;obtain⟨o,eU,e⟩:=e;have hlen:ss.length=vs.length:=Paired.length q;refine⟨F,hH H rL a,λb=>(hH H rL a).h b=none,F,_,o,?_,eU,?_⟩
 ·unfold bG.start;refine⟨by simp[kZ,hlen],λi s e=>?_,λi j s u v w j5 aG aS dK fH=>?_,ap0 cy,λ_ h=>h,λb ab=>?_⟩
  ·obtain⟨v,bq,b0⟩:=Paired.get q (x_ e);exact⟨v,Tv bq,b0⟩
  ·by_cases hi:i=p
   ·subst hi;rw[aH j u (Ne.symm j5) (x_ aS)] at fH;cases fH
   ·rw[aH i s hi (x_ aG)] at dK;cases dK
  ·by_cases z:b∈rL
   ·exact C' z
   ·exact (te z).trans ab
 ·have fin:∀{ε':Ev} {cf:bG.St} {aK:asq->Prop} {aj:aE} {asB:List aI},cP K F (hH H rL a) (λb=>(hH H rL a).h b=none) aK aj ε' cf->jQ c p ε'=some asB->ea K (hH H rL a) (λb=>(hH H rL a).h b=none) aK aj (.obj .cg c asB) (.ref a):=λb_ fG=>by
   obtain⟨kc,_,rs⟩:=b_.val p _ (anC fG);have xf:=rs;obtain⟨fF,_,rfl,_,_,_,_,iU⟩:=rs;have:fF=a:=iU rfl;subst this;exact xf
  cases o with
  |d9 t'=>cases e
  |bP ε'=>
   simp only[d7] at e;obtain⟨asB,fG,rfl⟩:=e;exact λcf aK aj _ b_=>mC _ aK aj b_.ent (by simp[Rep]) (fin b_ fG)
  |ht _=>cases e
  |cH _=>cases e
  |ig t ε'=>
   simp only[d7] at e;obtain⟨asB,fG,rfl⟩:=e;exact λv cf aK aj b_ b0=>mC v aK aj b_.ent b0 (fin b_ fG)
  |ka _=>cases e
structure cQ(P:cJ)(w:cB)(K:bb)(mg:Str->Option ak)(base:bX)(C:asq)(c:Nat)(m:Str)(k n:Nat)(d:List aI->Option (T×List aI)):Prop where
 ex:∃cp fd av,eY P w K mg base eX k cp fd av (sI K n c 0 d)/\Meth K C m cp/\Binds K fd av []
theorem cQ.mono{C:asq}{c:Nat}{m:Str}{k n j:Nat}{d:List aI->Option (T×List aI)}(h:cQ P w K mg base C c m j n d)(bJ:j<=k):cQ P w K mg base C c m k n d:=by
 obtain⟨cp,fd,av,F,r⟩:=h.ex;exact⟨cp,fd,av,F.mono bJ,r⟩
def hG{C:asq}{m qual:Str}{st:Stmt}{f:asq}{fd:fX}{N av:List Str}{k c:Nat}{b:bc}(F:cb K m qual st f fd)(S:cw N av (bQ st))(bd:Binds K fd av [])(iW:Meth K C m f)
  (ab:∀(cR:ak) (A:c3) (outer:List Env) (s:aP) (H:aE) (E:gH),dD k (A.deeper (envOfC qual (bQ st) s.heap.objs.size f cR)) ->
   ip (je eX P w K mg base N qual (bQ st) f cR A outer s H E).j9 (i' st) b):cQ P w K mg base C c m (k+1) av.length (runM c 0 b N.length):=⟨f,fd,av,Nn F S ab,iW,bd⟩
structure asR(P:cJ)(w:cB)(K:bb)(mg:Str->Option ak)(base:bX)(x:Str)(c p k n:Nat)(d:List aI->Option (T×List aI)):Prop where
 ex:∃cp fd av,eY P w K mg base eX k cp fd av (sI K n c p d)/\mg x=some (.ref cp)/\mQ K (.ref cp)=true/\Binds K fd av []
theorem asR.mono{x:Str}{c p k n j:Nat}{d:List aI->Option (T×List aI)}(h:asR P w K mg base x c p j n d)(bJ:j<=k):asR P w K mg base x c p k n d:=by
 obtain⟨cp,fd,av,F,r⟩:=h.ex;exact⟨cp,fd,av,F.mono bJ,r⟩
def Zl{x:Str}{st:Stmt}{f:asq}{fd:fX}{N av:List Str}{k c p:Nat}{b:bc}(F:cb K x x st f fd)(S:cw N av (bQ st))(bd:Binds K fd av [])(m:mg x=some (.ref f))
  (ab:∀(cR:ak) (A:c3) (outer:List Env) (s:aP) (H:aE) (E:gH),dD k (A.deeper (envOfC x (bQ st) s.heap.objs.size f cR)) ->
   ip (je eX P w K mg base N x (bQ st) f cR A outer s H E).j9 (i' st) b):asR P w K mg base x c p (k+1) av.length (runM c p b N.length):=⟨f,fd,av,Nn F S ab,m,F.aC,bd⟩
end
def tX(K:bb)(f:qg):TE:=λσ H Q=>∃aD E O F ε t ε',cP K aD E O F H ε σ/\f ε=some (t,ε')/\∀v aK aj,ec K F H aK aj->cP K aD E O aK aj ε' σ->Rep K aK aj t v->Q v aj
abbrev v'(X:bu)(e:bx)(f:qg):Prop:=bR X e (tX X.K f)
section
variable {X:bu}{k n c C i:Nat}{ns:List Str}{d:List aI->Option (T×List aI)}{x m:Str}{p pos apos:Pos}{o e:bx}{es:List bx}{aA fB:List bl}{z2:qg}
theorem Nh{K:bb}{E:hq}{O F:asq->Prop}{H:aE}:∀{ts:List T} {vs:List V},bz K F H ts vs->Paired (λs v=>ea K E O F H s v) (ts.map .ae) vs
| [],vs,h=>by
  simp only[bz] at h;subst h;exact .nil
|t::ts,vs,h=>by
  simp only[bz] at h;obtain⟨v,z,rfl,q,h⟩:=h;exact .cons q (Nh h)
def Ve{ts:List T}{q:Nat}{s:aI}(h:(ts.map aI.ae)[q]?=some s):s.iQ=false:=by
 rw[kQ] at h;cases e:ts[q]? with
|none=>rw[e] at h;cases h
|some t=>rw[e] at h;cases h;rfl
def M1{σ:bG.St}{H H1:aE}{aD O F aY:asq->Prop}{E:hq}{ε:Ev}{md:gn}{os:List aI}{a:asq}{Q:c2}{ws:List V}{ts:List T}{r:T×List aI}(rE:cP X.K aD E O F H ε σ)(aH:dx c i ε=some (md,os))(hm:md≠.c4)(af:σ[i]?=some (some (.ref a)))
  (aM:Ext F H aY H1) (q:bz X.K aY H1 ts ws) (e1:d (.obj .cg c os::ts.map .ae)=some r) (aB:ts.length+1=n)
  (bL:∀v aK aj,ec X.K F H aK aj->cP X.K aD E O aK aj (ε.set i (some (.obj md c r.2))) σ->Rep X.K aK aj r.1 v->Q v aj):sI X.K n c 0 d (.ref a::ws) H1 Q y3:=by
 have a6:=rE.ext aM;obtain⟨kc,en,rs⟩:=a6.val i _ (nI aH);rw[af] at en;cases en;refine⟨by simp[<- q.length,aB],aY,_,a,dA H1 (.obj md c os) (.ref a),os,r,aM.cy,rfl,rfl,.cons (arb (v:=.ref a) rs) (Nh q),λj s bJ asr=>?_,e1,λv aK aj bK b0 ajS=>?_⟩
 ·cases j with
  |zero=>exact absurd rfl bJ
  |succ j=>exact Ve (q:=j) (by simpa using asr)
 ·obtain⟨aC,b'⟩:=a6.back (nI aH) hm af rfl bK ajS;exact bL v aK aj (aM.aC.trans aC) b' b0
def eN(gs:fu X.K c C ns)(iK:cQ X.prog X.w X.K X.mg X.base C c m k n d)(aw:dD k X.A)(a9:bR X o (hR i))(au:lL X (e::es) aA){pl:Sem Bool}(hm:m∉ns:=by decide +kernel)(aB:aA.length+1=n:=by rfl)
  (lS:bo (e::es) X.env=(false,eval e X.env)::bo es X.env:=by rfl) (hpl:(dp pos (bo es X.env)).any (·.1)=false:=by rfl)
  (aZ:eval (.Call (.Attribute o m apos) (e::es) [] pos) X.env=(do
   let eG <- eval o X.env
   standAt apos.atName
   let (f,first) <- holding [eG] (getMethod eG m pl)
   callWith pos f first (dp pos (bo (e::es) X.env)) (l7 pos (l6 [] X.env))):=by rfl):v' X (.Call (.Attribute o m apos) (e::es) [] pos) (cW c d i aA):=by
 obtain⟨cp,fd,av,F,iW,b⟩:=iK.ex;refine dn (U7 a9 gs.cls iW F aw b .nil nS au lS hpl aZ) λσ H Q ⟨aD,E,O,F,ε,t,ε',r,e,bL⟩=>?_;simp only[cW,b7] at e;obtain⟨⟨md,os⟩,aH,e⟩:=e;split at e
 next=>cases e
 next wH=>
  simp only[b7,d7] at e;obtain⟨ts,bF,b_,e1,e⟩:=e;cases e;obtain⟨a,vs,bj,af,hx,_⟩:=nM gs r aH;refine⟨_,af,a,bj,_,rfl,hx,u_ hm,aD,E,O,F,ε,ts,r,bF,λws aY H1 aM q=>?_⟩;show sI X.K n c 0 d (V.ref a::(ws++[])) H1 Q y3;rw[jN];exact M1 r aH wH af aM q e1 (by rw[vi bF,aB]) bL
def asO(gs:fu X.K c C ns)(iK:cQ X.prog X.w X.K X.mg X.base C c m k n d)(aw:dD k X.A)(a9:bR X o (hR i)){pl:Sem Bool}(hm:m∉ns:=by decide +kernel)(aB:1=n:=by rfl)
  (aZ:eval (.Call (.Attribute o m apos) [] [] pos) X.env=(do
   let eG <- eval o X.env
   standAt apos.atName
   let (f,first) <- holding [eG] (getMethod eG m pl)
   callWith pos f first (dp pos (bo [] X.env)) (l7 pos (l6 [] X.env))):=by rfl):v' X (.Call (.Attribute o m apos) [] [] pos) (cW c d i []):=by
 obtain⟨cp,fd,av,F,iW,b⟩:=iK.ex;refine dn (MZ a9 gs.cls iW F aw b .nil nS aZ) λσ H Q ⟨aD,E,O,F,ε,t,ε',r,e,bL⟩=>?_;simp only[cW,b7] at e;obtain⟨⟨md,os⟩,aH,e⟩:=e;split at e
 next=>cases e
 next wH=>
  simp only[b7,d7] at e;obtain⟨ts,bF,b_,e1,e⟩:=e;cases e;cases bF;obtain⟨a,vs,bj,af,hx,_⟩:=nM gs r aH;refine⟨_,af,a,bj,_,rfl,hx,u_ hm,?_⟩;exact M1 r aH wH af (Ext.refl r.cy) bz.nil e1 (by simpa using aB) bL
def dU(h:v' X e z2)(ny:kh e none pos.line X.env=pure false:=by rfl):gF X (.Expr e pos) (cS z2):=hV (yq h ny) λD σ H ⟨aD,E,O,F,ε,o,r,e,k⟩=>by
 simp only[cS,d7] at e;obtain⟨⟨t,ε'⟩,bF,rfl⟩:=e;exact⟨aD,E,O,F,ε,t,ε',r,bF,λv aK aj aC b_ _=>k σ aK aj aC b_⟩
def NF(h:v' X e z2):gF X (.Return (some e) pos) (lX z2):=hV (yD h) λD σ H ⟨aD,E,O,F,ε,o,r,e,k⟩=>by
 simp only[lX,d7] at e;obtain⟨⟨t,ε'⟩,bF,rfl⟩:=e;exact⟨aD,E,O,F,ε,t,ε',r,bF,λv aK aj aC b_ b0=>k v σ aK aj b_ b0⟩
def arP{f:bl}(h:cA X e f):gF X (.Return (some e) pos) (qQ f):=hV (yD h) λD σ H ⟨aD,E,O,F,ε,o,r,e,k⟩=>by
 simp only[qQ,d7] at e;obtain⟨t,bF,rfl⟩:=e;exact⟨aD,E,O,F,ε,t,r,bF,λv aK aj x b0=>k v σ aK aj (r.ext x) b0⟩
def Nd:gF X (.Return none pos) p':=hV aqO λD σ H ⟨aD,E,O,F,ε,o,r,e,k⟩=>by
 cases e
 exact k .fC σ F H r (by simp[Rep])
def Nf{st:Stmt}:gF X st never:=λah s σ H D I ⟨aD,E,O,F,ε,o,r,e,k⟩=>by cases e
end
end
section
variable [cV]
noncomputable def tO(K:bb)(f:c1):TE:=λσ H Q=>∃aD E O F ε s,cP K aD E O F H ε σ/\f ε=some s/\∀a aK aj,Ext F H aK aj->ea K E O aK aj s (.ref a)->(∀b∈dA aj s (.ref a),H b=none)->Q (.ref a) aj
abbrev t2(X:bu)(e:bx)(f:c1):Prop:=bR X e (tO X.K f)
noncomputable def RA(K:bb)(n:Nat)(d:List T->Option aI):ks:=λvs H Q _=>vs.length=n/\∃F ts s,gE F H/\bz K F H ts vs/\d ts=some s/\∀a aK aj,Ext F H aK aj->ea K ⟨H,0⟩ (λb=>H b=none) aK aj s (.ref a)->Q (.ref a) aj
def TA{s t:aI}(h:A2 s=some t):∃c os,s=.obj .own c os/\t=.obj .own c os:=by
 unfold A2 at h;split at h
 ·cases h
  exact⟨_,_,rfl,rfl⟩
 ·cases h
section
variable {P:cJ}{w:cB}{K:bb}{mg:Str->Option ak}{base:bX}
def arq{x qual:Str}{st:Stmt}{f:asq}{fd:fX}{N av:List Str}{k:Nat}{b:bc}(F:cb K x qual st f fd)(S:cw N av (bQ st))
  (ab:∀(cR:ak) (A:c3) (outer:List Env) (s:aP) (H:aE) (E:gH),dD k (A.deeper (envOfC qual (bQ st) s.heap.objs.size f cR)) ->
   ip (je eX P w K mg base N qual (bQ st) f cR A outer s H E).j9 (i' st) b):
  eY P w K mg base eX (k+1) f fd av (RA K av.length (sH b N.length)):=by
 refine F.ok S (λvs H Q E h=>h.1) λcR A outer s H vs Q E aw h=>⟨_,ab cR A outer s H E aw,?_⟩
 obtain⟨aB,F,ts,t,cy,q,e,mC⟩:=h;simp only[sH,b7] at e;obtain⟨o,eU,e⟩:=e;refine⟨F,⟨H,0⟩,λa=>H a=none,F,_,o,?_,eU,?_⟩
 ·have:=S7 (N:=N) cy q (N.length - ts.length);unfold bG.start;rw[q.length] at this ⊢;exact this
 ·cases o with
  |ka s=>
   obtain⟨c,os,rfl,rfl⟩:=TA e;exact λa aK aj x rs=>mC a aK aj x rs
  |bP ε'=>cases e
  |ht _=>cases e
  |cH _=>cases e
  |ig _ _=>cases e
  |d9 _=>cases e
structure oT(P:cJ)(w:cB)(K:bb)(mg:Str->Option ak)(base:bX)(x:Str)(k n:Nat)(d:List T->Option aI):Prop where
 ex:∃cp fd av,eY P w K mg base eX k cp fd av (RA K n d)/\mg x=some (.ref cp)/\mQ K (.ref cp)=true/\Binds K fd av []
theorem oT.mono{x:Str}{k n j:Nat}{d:List T->Option aI}(c:oT P w K mg base x j n d)(h:j<=k):oT P w K mg base x k n d:=by
 obtain⟨cp,fd,av,F,r⟩:=c.ex;exact⟨cp,fd,av,F.mono h,r⟩
def Zk{x:Str}{st:Stmt}{f:asq}{fd:fX}{N av:List Str}{k:Nat}{b:bc}(F:cb K x x st f fd)(S:cw N av (bQ st))(bd:Binds K fd av [])(m:mg x=some (.ref f))
  (ab:∀(cR:ak) (A:c3) (outer:List Env) (s:aP) (H:aE) (E:gH),dD k (A.deeper (envOfC x (bQ st) s.heap.objs.size f cR)) ->
   ip (je eX P w K mg base N x (bQ st) f cR A outer s H E).j9 (i' st) b):oT P w K mg base x (k+1) av.length (sH b N.length):=⟨f,fd,av,arq F S ab,m,F.aC,bd⟩
structure oS(P:cJ)(w:cB)(K:bb)(mg:Str->Option ak)(base:bX)(x:Str)(C:asq)(c k n:Nat)(d:List aI->Option (T×List aI)):Prop where
 ex:∃cp fd av,eY P w K mg base eX k cp fd av (sI K n c 0 d)/\tW K C cp/\mg x=some (.ref C)/\Binds K fd av []
theorem oS.mono{x:Str}{C:asq}{c k n j:Nat}{d:List aI->Option (T×List aI)}(h:oS P w K mg base x C c j n d)(bJ:j<=k):oS P w K mg base x C c k n d:=by
 obtain⟨cp,fd,av,F,r⟩:=h.ex;exact⟨cp,fd,av,F.mono bJ,r⟩
def VV{x:Str}{C:asq}{qual:Str}{st:Stmt}{f:asq}{fd:fX}{N av:List Str}{k c:Nat}{b:bc}(F:cb K "__init__" qual st f fd)(S:cw N av (bQ st))(bd:Binds K fd av [])(iW:tW K C f)(m:mg x=some (.ref C))
  (ab:∀(cR:ak) (A:c3) (outer:List Env) (s:aP) (H:aE) (E:gH),dD k (A.deeper (envOfC qual (bQ st) s.heap.objs.size f cR)) ->
   ip (je eX P w K mg base N qual (bQ st) f cR A outer s H E).j9 (i' st) b):oS P w K mg base x C c (k+1) av.length (runM c 0 b N.length):=⟨f,fd,av,Nn F S ab,iW,m,bd⟩
end
section
variable {X:bu}{k n c C i j:Nat}{ns:List Str}{x m f:Str}{p pos apos:Pos}{o e:bx}{es:List bx}{aA:List bl}{pn:c1}
def U3{K:bb}{E oV:hq}{O m7 aK:asq->Prop}{aj:aE}{m:gn}{c:Nat}{os:List aI}{a:asq}(rs:ea K oV m7 aK aj (.obj m c os) (.ref a))(hm:m≠.c4)(h:∀b,m7 b->O b):ea K E O aK aj (.obj .own c os) (.ref a):=by
 obtain⟨fF,vs,e,au,hf,a_,fI,_⟩:=rs;refine⟨fF,vs,e,au,hf,a_,λb ab=>⟨(fI b ab).1,h b ?_⟩,λz=>by cases z⟩;have q:=(fI b ab).2;cases m with
|c4=>exact absurd rfl hm
|own=>exact q
|cg=>exact q
def yS{d:List aI->Option (T×List aI)}(gs:fu X.K c C ns)(iK:oS X.prog X.w X.K X.mg X.base x C c k n d)(aw:dD (k+1) X.A)(au:lL X (e::es) aA)(bf:ez X x:=by rfl)(aB:aA.length+1=n:=by rfl)(gY:(x==("__debug__":Str))=false:=by decide)
  (he:bo (e::es) X.env=(false,eval e X.env)::bo es X.env:=by rfl) (hpl:(dp pos (bo es X.env)).any (·.1)=false:=by rfl):t2 X (.Call (.Name x p) (e::es) [] pos) (mF c d aA):=by
 obtain⟨cp,fd,av,F,M,hm,b⟩:=iK.ex;refine dn (aqX M F aw bf hm b .nil nS au gY he hpl) λσ H Q ⟨aD,E,O,F,ε,s,r,e,bL⟩=>?_;simp only[mF,b7] at e;obtain⟨ts,bF,b_,e1,e⟩:=e;refine⟨aD,E,O,F,ε,ts,r,bF,λws aY H1 aM q=>λy bj bw Qt kD=>?_⟩;rw[jN];have ael:upd (upd H1 bj (.own y)) y (.ins C bj []) y=some (.ins C bj []):=ew;have mA:∀bk:aE,bk y=some (.ins C bj [])->hY bk y c []:=λbk e=>by
  refine⟨asH _,?_⟩
  rw[gs.mn];exact⟨bj,by simpa using e⟩
 have qK:∀b,b≠y->b≠bj->upd (upd H1 bj (.own y)) y (.ins C bj []) b=H1 b:=λb af ai=>by rw[cZ af,cZ ai]
 have RO:Ext aY H1 aY (upd H1 bj (.own y)):=Ext.laid aM.cy Qt;have aek:upd H1 bj (.own y) y=none:=by rw[cZ (Ne.symm kD)];exact bw
 have Lq:Ext aY H1 aY (upd (upd H1 bj (.own y)) y (.ins C bj [])):=RO.trans (Ext.laid RO.cy aek);have AR:¬aY y:=λz=>by
  obtain⟨o,e⟩:=aM.cy y z;rw[bw] at e;cases e
 split at e
 next qC=>
  cases e
  refine⟨by simp[<- q.length,vi bF,aB],aY,.obj .cg c []::ts.map .ae,y,[y],[],b_,Lq.cy,rfl,rfl,.cons ⟨y,[],rfl,mA _ ael,rfl,by simp[df],λb ab=>?_,λ_=>rfl⟩ (Nh (q.ext Lq)),λj s bJ asr=>?_,e1,λv aK aj bK b0 rs=>?_⟩
  ·have:b=y:=by simpa [df] using ab
   subst this;exact⟨AR,C' (by simp)⟩
  ·cases j with
   |zero=>exact absurd rfl bJ
   |succ j=>exact Ve (q:=j) (by simpa using asr)
  ·rw[qC] at b0;refine⟨by simpa [Rep] using b0,?_⟩;have Kv:∀b,(hH (upd (upd H1 bj (.own y)) y (.ins C bj [])) [y] y).h b=none->H b=none:=λb ab=>by
    rcases CF ab with z|z
    ·have:b=y:=by simpa using z
     rw[this];exact aM.same.none bw
    ·exact aM.same.none (Lq.same.none z)
   have dR:Ext F H aK aj:=by
    refine⟨λb o q=>?_,λb z=>bK.sub b (aM.sub b z),λb z=>?_,bK.cy⟩
    ·have step:∀u,H1 b=some u->(hH (upd (upd H1 bj (.own y)) y (.ins C bj [])) [y] y).h b=some u:=λu aG=>by
      have fT:b≠y:=λz=>by rw[z,bw] at aG;cases aG
      have gf:b≠bj:=λz=>by rw[z,Qt] at aG;cases aG
      rw[te (by simpa using fT),qK b fT gf];exact aG
     rcases aM.same b o q with z|⟨av,xb,aG,z⟩
     ·exact bK.same b o (step _ z)
     ·rcases bK.same b _ (step _ z) with gP|⟨_,xc,_,gP⟩
      ·exact .inr ⟨av,xb,aG,gP⟩
      ·exact .inr ⟨av,xc,aG,gP⟩
    ·rcases bK.new b z with z|z
     ·exact aM.new b z
     ·exact .inr (Kv b z)
   refine bL y aK aj dR (U3 rs (by decide) λb ab=>r.fr b (Kv b ab)) λb ab=>?_
   obtain⟨fF,vs,dG,mz,hf,a_,fI,_⟩:=rs;cases dG;rw[kl mz] at ab;exact Kv b (fI b ab).2
 next=>cases e
def NO{d:List T->Option aI}(iK:oT X.prog X.w X.K X.mg X.base x k n d)(hd:∀ts s,d ts=some s->∃c os,s=.obj .own c os)(aw:dD k X.A)(au:lL X (e::es) aA)(bf:ez X x:=by rfl)(aB:aA.length=n:=by rfl)(gY:(x==("__debug__":Str))=false:=by decide)
  (he:bo (e::es) X.env=(false,eval e X.env)::bo es X.env:=by rfl) (hpl:(dp pos (bo es X.env)).any (·.1)=false:=by rfl):t2 X (.Call (.Name x p) (e::es) [] pos) (rA d aA):=by
 obtain⟨cp,fd,av,F,hm,aC,b⟩:=iK.ex;refine dn (yr F aw bf hm aC b .nil nS au gY he hpl) λσ H Q ⟨aD,E,O,F,ε,s,r,e,bL⟩=>?_;simp only[rA,b7] at e;obtain⟨ts,bF,e1⟩:=e;obtain⟨c,os,rfl⟩:=hd _ _ e1;refine⟨aD,E,O,F,ε,ts,r,bF,λws aY H1 aM q=>⟨?_,aY,ts,_,aM.cy,by simpa using q,e1,λa aK aj bK rs=>?_⟩⟩
 ·rw[jN,<- q.length,vi bF,aB]
 ·refine bL a aK aj (aM.trans bK) (U3 rs (by decide) λb ab=>r.fr b (aM.same.none ab)) λb ab=>?_
  obtain⟨fF,vs,dG,mz,hf,a_,fI,_⟩:=rs;cases dG;rw[kl mz] at ab;exact aM.same.none (fI b ab).2
def aps{b:bc}{n:Nat}{ts:List T}{s:aI}(h:sH b n ts=some s):∃c os,s=.obj .own c os:=by
 simp only[sH,b7] at h;obtain⟨o,eU,e⟩:=h;cases o with
|ka s'=>
  obtain⟨c,os,_,rfl⟩:=TA e;exact⟨c,os,rfl⟩
|_=>cases e
def Dr(j:Nat){y:Str}{pos':Pos}(eL:X.N.Nodup)(h:t2 X e pn)(hi:X.N[j]?=some y:=by rfl)(hx:Loc X.env.scope y:=by first|exact Or.inl rfl|exact Or.inr rfl)
  (asr:kh e (some (.Name y pos')) pos.line X.env=pure false:=by rfl) (hf:X.fn y=true\/X.env.scope.names.lookup y=some .local:=by first|exact .inl rfl|exact .inr rfl):
  gF X (.Assign [.Name y pos'] e pos) (pb j pn):=hV (VK eL hi hx h asr hf) λD σ H ⟨aD,E,O,F,ε,o,r,e,k⟩=>by
 simp only[pb,d7] at e;obtain⟨s,es,rfl⟩:=e;exact⟨aD,E,O,F,ε,s,r,es,λa aK aj x rs a9=>k _ aK aj x.aC (r.ajY j x rs a9)⟩
def arO(a9:bR X e (hR i)):gF X (.Return (some e) pos) (as6 i):=hV (yD a9) λD σ H ⟨aD,E,O,F,ε,o,r,e,k⟩=>by
 unfold as6 at e;split at e
 next c aA he=>
  cases e
  obtain⟨v,af,rs⟩:=r.val i _ he;have xf:=rs;obtain⟨a,vs,rfl,_⟩:=rs;exact⟨_,af,k a F H r.ent xf⟩
 next=>cases e
def L_{s:aI}{os:List aI}(h:tD c s=some os):s=.obj .own c os:=by
 unfold tD at h;split at h
 next el aA=>
  split at h
  next ax=>
   cases h
   rw[ax]
  next=>cases h
 next=>cases h
def VW{K:bb}{E:hq}{O F:asq->Prop}{H:aE}{os:List aI}{a:asq}(gs:fu K c C ns)(rs:ea K E O F H (.obj .own c os) (.ref a)):∃bj vs,H a=some (.ins C bj (ns.zip vs))/\hY H a c vs/\f5 K F H os vs:=by
 obtain⟨fF,vs,dG,au,hf,_⟩:=rs;cases dG;obtain⟨aB,hx⟩:=id au;rw[gs.mn] at hx;obtain⟨bj,hx⟩:=hx;rw[gs.asw] at hx;exact⟨bj,vs,hx,au,hf⟩
def ZO{d:List aI->Option T}(gs:fu X.K c C ns)(iK:e0 X.prog X.w X.K X.mg X.base C m k n d)(aw:dD k X.A)(aH:t2 X o pn){pl:Sem Bool}(hm:m∉ns:=by decide +kernel)(aB:1=n:=by rfl)
  (aZ:eval (.Call (.Attribute o m apos) [] [] pos) X.env=(do
   let eG <- eval o X.env
   standAt apos.atName
   let (f,first) <- holding [eG] (getMethod eG m pl)
   callWith pos f first (dp pos (bo [] X.env)) (l7 pos (l6 [] X.env))):=by rfl):cA X (.Call (.Attribute o m apos) [] [] pos) (pJ c d pn []):=by
 obtain⟨cp,fd,av,F,iW,b⟩:=iK.ex;refine dn (MZ aH gs.cls iW F aw b .nil nS aZ) λσ H Q ⟨aD,E,O,F,ε,t,r,e,k⟩=>?_;simp only[pJ,b7] at e;obtain⟨s,es,os,eU,ts,bF,e1⟩:=e;cases bF;have:=L_ eU;subst this;refine⟨aD,E,O,F,ε,_,r,es,λa aY H1 aM rs a9=>?_⟩;obtain⟨bj,vs,hx,au,hf⟩:=VW gs rs;refine⟨a,bj,_,rfl,hx,u_ hm,⟨by simp[aB],aY,_,t,aM.cy,.cons ⟨rfl,yO rs _ _ λb ab=>?_⟩ .nil,e1,λv aK aj bK a7=>k v aK aj (aM.trans bK) a7⟩⟩;obtain⟨o,e,_⟩:=rs.at ab;show H1 b≠none;rw[e];exact λz=>by cases z
def Tz(gs:fu X.K c C ns)(aH:t2 X o pn)(bJ:ns[j]?=some f:=by rfl)(ab:ij o f X.env (eval o X.env)=eval o X.env:=by rfl):cA X (.Attribute o f pos) (vr c j pn):=
 dn (asM aH ab) λσ H Q ⟨aD,E,O,F,ε,t,r,e,k⟩=>by
 simp only[vr,b7] at e;obtain⟨s,es,os,eU,e⟩:=e;have:=L_ eU;subst this;split at e
 next ts asr=>
  cases e
  refine⟨aD,E,O,F,ε,_,r,es,λa aY H1 aM rs a9=>?_⟩
  obtain⟨bj,vs,hx,au,hf⟩:=VW gs rs;obtain⟨v,bq,b,us,rfl,ab,eR⟩:=hf.get asr;have adz:H b=none:=a9 b (by rw[kl au];exact di _ (oO asr bq (by simp[dP,ie])));refine⟨a,C,bj,_,_,rfl,hx,gs.cls,k0 gs bJ,Ml gs.a_ bJ bq,?_⟩;have y:Ext F H (λd=>aY d\/d=b) H1:=⟨aM.same,λd z=>.inl (aM.sub d z),λd z=>by
   rcases z with z|rfl
   ·exact aM.new d z
   ·exact .inr adz,⟨λd z=>by
   rcases z with z|rfl
   ·exact aM.cy d z
   ·exact⟨_,ab⟩,aM.cy.qT⟩⟩
  refine k _ _ H1 y ?_
  simp only[Rep];exact⟨b,us,rfl,.inr rfl,.inl ab,eR.keep (λ_ _ z=>z) λ_ _ z w=>⟨.inl z,w⟩⟩
 next=>cases e
def ZS{cH a b:bx}{e2:e7}{g h:bl}(ax:ju X cH e2)(au:cA X a g)(ab:cA X b h):cA X (.IfExp cH a b pos) (pE e2 g h):=dn (apF ax au ab) λσ H Q ⟨aD,E,O,F,ε,t,r,e,k⟩=>by
 simp only[pE,b7] at e;obtain⟨v,ev,e⟩:=e;refine⟨aD,E,O,F,ε,v,r,ev,λaY H1 aM=>?_⟩;cases v with
|true=>exact sr ⟨aD,E,O,aY,ε,t,r.ext aM,by simpa using e,λv aK aj bK q=>k v aK aj (aM.trans bK) q⟩
|false=>exact sq ⟨aD,E,O,aY,ε,t,r.ext aM,by simpa using e,λv aK aj bK q=>k v aK aj (aM.trans bK) q⟩
def hW(xs:List Str):List T:=xs.map .str
def uC{xs:List Str}{a:asq}(hm:X.mg x=some (.ref a))(aR:∃(o:Obj) (its:Array ak) (n:Nat),X.K.lookup a=some o/\o.cls=.type "tuple"/\o.data=.seq its n/\its.size<=b8/\Vals (xs.map V.str) its.toList)(bf:ez X x:=by rfl)(hd:(x==("__debug__":Str))=false:=by decide):cA X (.Name x pos) (aa (.tuple (hW xs))):=
 vN (v:=.ref a) (U8 (v:=.ref a) bf hm rfl hd) λF H=>by
  simp only[Rep];refine⟨a,xs.map V.str,rfl,.inr aR,?_⟩;unfold hW;clear hm aR bf hd
  induction xs with
  |nil=>exact bz.nil
  |cons y ys bY=>exact bz.cons (by simp[Rep]) bY
end
end
section
variable [cV]
open AutoSeq1 (wpAny_loadPart')
section
variable {X:bu}{a e o:bx}{f g:bl}{p pos apos:Pos}
def U5(hm:X.mg "list"=none)(au:dd X a f)(bf:ez X "list":=by rfl)(he:bo [a] X.env=(false,eval a X.env)::bo [] X.env:=by rfl)(hpl:(dp pos (bo [] X.env)).any (·.1)=false:=by rfl):
  tZ X (.Call (.Name "list" p) [a] [] pos) (dm vE f):=dn (C0 anc bf hm (by decide +kernel) (i_ au km he) (he:=he) (hpl:=hpl)) λσ H Q ⟨aD,E,O,F,ε,ts,r,e,k⟩=>by
 simp only[dm,b7] at e;obtain⟨t,bF,e⟩:=e;refine⟨aD,E,O,F,ε,t,r,bF,λv aY H1 aM aQ=>?_⟩;have fin:∀(ws:List V),bz X.K aY H1 ts ws->∀l,H1 l=none->Q (.ref l) (upd H1 l (.lst ws)):=λws aw l aB=>by
  have bK:=Ext.laid (o:=.lst ws) aM.cy aB;refine k l ws aY _ (aM.trans bK) (aM.same.none aB) (λz=>?_) ew (aw.ext bK);obtain⟨o,e⟩:=aM.cy l z;rw[aB] at e;cases e
 unfold vE at e;split at e
 ·cases e
  obtain⟨qI,ws,rfl,aB,aw⟩:=aQ.tup;exact⟨qI,ws,rfl,.inr aB,fin ws aw⟩
 ·cases e
  obtain⟨qI,ws,rfl,aB,aw⟩:=aQ.lst;exact⟨qI,ws,rfl,.inl (.inl aB),fin ws aw⟩
 ·cases e
def aoz(ax:X.calm=true)(hm:X.mg "sorted"=none)(au:dd X a f)(bf:ez X "sorted":=by rfl)(he:bo [a] X.env=(false,eval a X.env)::bo [] X.env:=by rfl)(hpl:(dp pos (bo [] X.env)).any (·.1)=false:=by rfl):
  tZ X (.Call (.Name "sorted" p) [a] [] pos) (dm C9 f):=dn (yk (anb ax) bf hm (by decide +kernel) (i_ au km he) (he:=he) (hpl:=hpl)) λσ H Q ⟨aD,E,O,F,ε,ts,r,e,k⟩=>by
 simp only[dm,b7] at e;obtain⟨t,bF,e⟩:=e;refine⟨aD,E,O,F,ε,t,r,bF,λv aY H1 aM aQ=>?_⟩;unfold C9 at e;split at e
 next xs=>
  split at e
  next ar=>
   simp only[d7] at e;obtain⟨ss,Hy,e⟩:=e;cases e;have aej:=CM Hy;subst aej;obtain⟨qI,ws,rfl,aB,aw⟩:=aQ.lst;refine⟨qI,ss.map .inr,(kn ss).map V.str,rfl,?_,by simpa using ar,.inr ⟨ss,rfl,rfl⟩,λl qA=>?_⟩
   ·have aG:ws=(ss.map (Sum.inr:Str->bG.Key)).map eo:=by rw[x2 aw];simp[eo,lZ]
    rw[<- aG];exact .inl aB
   ·have bK:=Ext.laid (o:=.lst ((kn ss).map V.str)) aM.cy qA;refine k l _ aY _ (aM.trans bK) (aM.same.none qA) (λz=>?_) ew (CW _);obtain⟨o,e⟩:=aM.cy l z;rw[qA] at e;cases e
  next=>cases e
 next=>cases e
end
def TS:entryFor table "list.remove.loop"=some Builtin.«list.remove.loop»:=entryFor_of_tree (by kernel_rfl)
def CY:plainId "list.remove.loop"=true:=by decide +kernel
def aqF(l:asq)(its:Array ak)(n:Nat)(x:Str)(t:Tok)(j:Nat)(ar:its.size<=b8)(bJ:j<its.size)(hit:∃u,its[j]=.str x u)(k:Nat):
  ∀i:Nat,j - i=k->i<=j->(∀(m:Nat) (hm:m<its.size),i<=m->m<j->∃y u,its[m]=.str y u/\y≠x)->Meets (Builtin.«list.remove.loop» ⟨[.ref l,.str x t,rawInt i],[]⟩)
   (λ_ R s=>s.heap.get? l=some {cls:=.type "list",data:=.seq its n}/\R (.ok (.ret .none)) {s with heap:=s.heap.update l (Obj.mapSeq λa=>a.eraseIdxIfInBounds j)}):=by
 induction k with
|zero=>
  intro i aR j5 _ prog w A R s h;obtain⟨aF,g,d,tk,os⟩:=s;obtain⟨aB,h⟩:=h;obtain rfl:i=j:=by omega
  obtain⟨u,b4⟩:=hit
  wp_walk using wpAny_loadPart' aB
  rw[show its[((i:Nat):Int).toNat]?=some (.str x u) by simp[bJ,b4]];refine a3 (wpAny_eqBool_str ?_);rw[decide_eq_true rfl]
  wp_walk using wpAny_loadPart' aB
  rw[show ((Obj.mapSeq (λz=>z.eraseIdxIfInBounds ((i:Nat):Int).toNat) {cls:=.type "list",data:=.seq its n}:Obj).data.pastItsLine)=none from
   pastItsLine_seq (by
    have:(its.eraseIdxIfInBounds ((i:Nat):Int).toNat).size<=its.size:=by
     unfold Array.eraseIdxIfInBounds;split
     ·rw[Array.size_eraseIdx];omega
     ·omega
    show (its.eraseIdxIfInBounds ((i:Nat):Int).toNat).size<=_
    omega)]
  wp_walk
  exact h
|succ k bY=>
  intro i aR j5 uw prog w A R s h;obtain⟨aF,g,d,tk,os⟩:=s;obtain⟨aB,h⟩:=h;have gc:i<its.size:=by omega
  obtain⟨y,u,bw,ne⟩:=uw i gc (dT _) (by omega)
  wp_walk using wpAny_loadPart' aB
  rw[show its[((i:Nat):Int).toNat]?=some (.str y u) by simp[gc,bw]];refine a3 (wpAny_eqBool_str ?_);rw[decide_eq_false ne]
  wp_walk
  rw[show ((i:Int)+1)=((i+1:Nat):Int) by push_cast;rfl];exact⟨plainId_quiet CY _,u0 TS (by
   rw[uW CY _];exact bY (i+1) (by omega) (by omega) (λm hm af ai=>uw m hm (by omega) ai) prog w A R _ ⟨aB,h⟩)⟩
def am7(l:asq)(its:Array ak)(n:Nat)(x:Str)(t:Tok)(j:Nat)(ar:its.size<=b8)(bJ:j<its.size)(hit:∃u,its[j]=.str x u)(uw:∀(m:Nat) (hm:m<its.size),m<j->∃y u,its[m]=.str y u/\y≠x):
  Meets (Builtin.«list.remove» ⟨[.ref l,.str x t],[]⟩) (λ_ R s=>s.heap.get? l=some {cls:=.type "list",data:=.seq its n}/\R (.ok (.ret .none)) {s with heap:=s.heap.update l (Obj.mapSeq λa=>a.eraseIdxIfInBounds j)}):=by
 intro prog w A R s h;obtain⟨aF,g,d,tk,os⟩:=s;obtain⟨aB,h⟩:=h
 wp_walk using wpAny_loadPart' aB
 exact⟨plainId_quiet CY _,u0 TS (by
  rw[uW CY _];exact aqF l its n x t j ar bJ hit _ 0 rfl (asH _) (λm hm _ ai=>uw m hm ai) prog w A R _ ⟨aB,h⟩)⟩
noncomputable def aqG:V->List V->aE->c2->Prop:=λx vs H Q=>∃(l:asq) (ss:List Str) (y:Str),x=.ref l/\vs=[.str y]/\H l=some (.lst (ss.map V.str))/\y∈ss/\Q .fC (upd H l (.lst ((ss.erase y).map V.str)))
def Un{ss:List Str}{its:List ak}(r:Vals (ss.map V.str) its){m:Nat}{y:Str}(h:ss[m]?=some y):∃u,its[m]?=some (.str y u):=by
 obtain⟨v,bq,b0⟩:=r.get (i:=m) (x:=.str y) (by rw[kQ,h];rfl);obtain⟨u,rfl⟩:=b0;exact⟨u,bq⟩
theorem UM{α:Type}[BEq α][LawfulBEq α]:∀{ss:List α} {y:α},y∈ss->∃j,ss[j]?=some y/\(∀m z,m<j->ss[m]?=some z->z≠y)/\ss.erase y=ss.eraseIdx j
| [],y,h=>by simp at h
|x::ss,y,h=>by
  by_cases e:x=y
  ·subst e;exact⟨0,rfl,λm z hm=>by omega,by simp⟩
  ·have h':y∈ss:=by
    rcases asu.mp h with z|z
    ·exact absurd z.symm e
    ·exact z
   obtain⟨j,af,ai,bE⟩:=UM h';refine⟨j+1,by simpa using af,λm z hm ar=>?_,?_⟩
   ·cases m with
    |zero=>
     simp at ar;exact ar▸e
    |succ m=>exact ai m z (by omega) (by simpa using ar)
   ·rw[List.erase_cons_tail (by simpa using e),bE];rfl
theorem Sg{α β:Type}(f:α->β):∀(l:List α) (j:Nat),(l.eraseIdx j).map f=(l.map f).eraseIdx j
| [],_=>rfl
|_::_,0=>rfl
|a::l,j+1=>by simp[Sg f l j]
def aoH{X:bu}:qi X "list.remove" aqG:=by
 intro ah s σ H x vs v us Q I aL b0 h;obtain⟨l,ss,y,rfl,rfl,gW,bw,q⟩:=h;cases aL;obtain⟨u,rfl,dH⟩:=b0.one;obtain⟨t,rfl⟩:=dH;obtain⟨z,its,n,r,aB,e⟩:=I.AQ gW;obtain⟨j,af,ai,bE⟩:=UM bw;obtain⟨w,hw⟩:=Un r af;have bJ:j<its.length:=(hj.mp hw).1;refine l8 F.slot_list_remove ⟨_,e,rfl⟩ F.entry_list_remove (F.args_list_remove_2 _ _) (am7 l its.toArray n y t j (by rw[d0];omega) (by rw[d0];exact bJ) ⟨w,?_⟩ λm hm ad1=>?_) ⟨e,?_⟩
 ·rw[iB bJ] at hw;simpa using hw
 ·rw[d0] at hm;have QD:m<ss.length:=by rw[eT] at aB;omega
  obtain⟨u,b4⟩:=Un r (iB QD);rw[iB hm] at b4;exact⟨_,u,by simpa using b4,ai m _ ad1 (iB QD)⟩
 ·rw[bE] at q;have aS:(ss.eraseIdx j).map V.str=(ss.map V.str).eraseIdx j:=Sg _ _ _;rw[aS] at q;refine⟨.fC,_,I.AP (t':=s.toks) (its':=its.eraseIdx j) gW e ?_ (r.eraseIdx j) (mS (TL _ _) z),rfl,q⟩;unfold Array.eraseIdxIfInBounds;rw[dif_pos (by rw[d0];exact bJ)];simp
section
variable {X:bu}{c C i j:Nat}{ns:List Str}{f:Str}{o e:bx}{g:bl}{pos apos:Pos}
def ZH(k:fu X.K c C ns)(a9:bR X o (hR i)){j1 dE:Pos}(he:cA X e g)(bJ:ns[j]?=some f:=by rfl)(ab:ij o f X.env (eval o X.env)=eval o X.env:=by rfl)
  (jD:bo [e] X.env=(false,eval e X.env)::bo [] X.env:=by rfl)
  (jA:ij (.Attribute o f apos) "remove" X.env (eval (.Attribute o f apos) X.env)=eval (.Attribute o f apos) X.env:=by rfl)
  (nt:((dp dE (bo [e] X.env)).all (λx=>!x.1) && (l7 dE (l6 [] X.env)).all (λx=>x.1.isSome)
   && decide (([e]:List bx).length+([]:List Keyword).length+(if ([]:List Keyword).isEmpty then 0 else 1)<30))=true:=by rfl)
  (jC:(j1.endLine==dE.line)=true:=by rfl) (nv:(dp dE (bo [] X.env)).any (·.1)=false:=by rfl)
  (ny:kh (.Call (.Attribute (.Attribute o f apos) "remove" j1) [e] [] dE) none pos.line X.env=pure false:=by rfl):
  gF X (.Expr (.Call (.Attribute (.Attribute o f apos) "remove" j1) [e] [] dE) pos) (A4 c i j g):=
 hV (yq (yP PySem.F.plainAttrs_list PySem.F.slot_list_remove PySem.F.type_list_remove aoH (asM a9 ab) (i_ he km jD) jA nt jC jD nv) ny) λD σ H ⟨aD,aO,O,F,ε,o,r,e,bL⟩=>by
 simp only[A4,b7] at e;obtain⟨t,bF,ts,fG,e⟩:=e;split at e
 next x ss Hy=>
  split at e
  next hx=>
   simp only[d7] at e;obtain⟨ε',es,rfl⟩:=e;have aee:=CM Hy;subst aee;obtain⟨m,aA,aH,asr⟩:=MI fG;obtain⟨a,vs,bj,v,af,HB,aB,au,bq,⟨b,us,dz,ab,eR⟩,_⟩:=mZ k r aH asr bJ;subst dz;refine⟨_,af,a,C,bj,_,_,rfl,HB,k.cls,k0 k bJ,aB,.inl ⟨rfl,_,fP.of ab⟩,aD,aO,O,F,ε,_,r,bF,λv aY H1 aM aQ=>?_⟩;have a6:=r.ext aM;have z7:hY H1 a c vs:=au.keep ((aM.same.get HB).trans HB.symm);have ev:v=.str x:=by simpa [Rep] using aQ
   subst ev;have fy:=x2 eR;subst fy;obtain⟨aC,b'⟩:=a6.w0 (s':=.own ((ss.erase x).map .str)) (o':=.lst ((ss.erase x).map V.str)) aH af z7 es asr bq (by simp[dP,ie]) rfl λaC=>⟨b,_,rfl,ew,CW _⟩;exact⟨b,ss,x,rfl,rfl,aM.same.get ab,hx,bL σ aY _ (aM.aC.trans aC) b'⟩
  next=>cases e
 next=>cases e
end
end
section
variable [cV]
open AutoSeq1 (wpAny_loadPart')
section
variable {prog:cJ}{w:cB}{A:c3}{E:ak->aP->Prop}{s:aP}{T:String}{r d:asq}{n:Nat}{P:Nat->ak->Prop}{rJ:bX->Prop}
def amw(W:PySem.W.KdlSrc prog w T r d n P rJ)(a9:n<=b8)(o:Obj)(ax:o.cls=.type T):
  MeetsIn prog w (Builtin.«tuple.__new__» ⟨[.type "tuple",.ref r],[]⟩)
   (λA R s=>A.handled=none/\rJ s.heap/\s.heap.get? r=some o/\∀(h':bX) (tk:Nat) (acc:Array ak),(∀b o,s.heap.get? b=some o->h'.get? b=some o)->s.heap.objs.size<=h'.objs.size->ItemsOf P acc n->R (.ok (.ret (.ref h'.objs.size))) {s with heap:=h'.push {cls:=.type "tuple",data:=.seq acc},toks:=tk}):=
 .of_wp λA R s h=>by
  obtain⟨aF,g,dr,tk,os⟩:=s;obtain⟨cK,ck,aH,h⟩:=h;have QM:=sub_tuple_self;have ar5:=init_tuple_lookup;have asb:=madeHere_tuple;have eF:Shared.TypeIs ⟨aF,g,dr,tk,os⟩ (.ref r) T:=W.type _ ck;have fT:=W.notList;have gf:=W.notTuple
  wp_walk using wpAny_loadPart' aH,wpAny_typeOf eF,anI W (by simpa using cK) ck a9
  intro h' Bk acc aR hsz lR;show bD _ _ (sO acc.toList.toArray >>= λv=>ret v) _ _ _;unfold sO;have ar:acc.size<=b8:=by rw[lR.1];exact a9
  refine a3 (pX ?_ (by show acc.toList.toArray.size<=b8;simpa using ar))
  refine cG ⟨_,rfl,?_⟩
  rw[show acc.toList.toArray=acc by simp];exact h h' Bk acc aR hsz lR
def amI{Q:ak->aP->Prop}(W:PySem.W.KdlSrc prog w T r d n P rJ)(a9:n<=b8){o:Obj}(ax:o.cls=.type T)(cK:A.handled=none)(ck:rJ s.heap)(aH:s.heap.get? r=some o)
  (h:∀(h':bX) (tk:Nat) (acc:Array ak),(∀b o,s.heap.get? b=some o->h'.get? b=some o)->s.heap.objs.size<=h'.objs.size->ItemsOf P acc n->Q (.ref h'.objs.size) {s with heap:=h'.push {cls:=.type "tuple",data:=.seq acc},toks:=tk}):
  bD (bV prog w) A (call (.type "tuple") [.ref r]) Q E s:=
 callType_newIn F.called_tuple (by decide) (F.typeCall_tuple_1 _) (F.newCall_tuple_1 _) (λobj=>F.args_object_init_2 obj _) F.entry_tuple_new
  (amw W a9 o ax) ⟨by simpa using cK,ck,aH,λh' tk acc aR hsz lR=>⟨⟨_,gA _ rfl,rfl⟩,h h' tk acc aR hsz lR⟩⟩
end
def DC(p d:asq):eD:=.ext λh=>h.IsValuesView p d
section
variable {X:bu}
def aoG:qi X "dict.values" (λx vs H Q=>∃d kvs,x=.ref d/\vs=[]/\H d=some (.fx kvs)/\∀p,H p=none->Q (.ref p) (upd H p (DC p d))):=by
 intro ah s σ H x vs v us Q I aL b0 h;obtain⟨d,kvs,rfl,rfl,gW,q⟩:=h;cases aL;cases b0;obtain⟨ar,QL,ws,sg,hd⟩:=I.ck d _ gW;refine call_meetsIn PySem.F.slot_dict_values hd.typeIs PySem.F.entry_dict_values (PySem.F.args_dict_values_1 _) (meets_dict_values (hl X.prog X.w) d QL) ⟨⟨ws,hd⟩,?_⟩;have bq:(s.heap.push {cls:=.type "dict_values",data:=.fields #[.ref d]}).IsValuesView s.heap.objs.size d:=⟨_,gA _ rfl,rfl,rfl⟩;refine⟨.ref s.heap.objs.size,upd H s.heap.objs.size (DC s.heap.objs.size d),I.laid (t':=s.toks) (λb u e=>c8 _ e) (dT _) ⟨bq,⟨_,gA _ rfl⟩,λaf ai p k=>?_⟩,rfl,q _ I.fresh⟩;obtain⟨o,aH,r⟩:=p;exact⟨o,k o aH,r⟩
theorem V0:∀{kvs:List (bG.Key×V)} {vs:List (bG.Key×ak)},g9 kvs vs->Vals (kvs.map (·.2)) (vs.map (·.2))
|_,_,.nil=>.nil
|_,_,.cons a b=>.cons a.2 (V0 b)
def amy(ax:X.calm=true):kr X (.type "tuple") (λxs H Q=>∃p d kvs,xs=[.ref p]/\H p=some (DC p d)/\H d=some (.fx kvs)/\∀t,H t=none->Q (.ref t) (upd H t (.tup (kvs.map (·.2))))):=by
 intro ah s σ H xs us Q I r h;obtain⟨p,d,kvs,rfl,aF,bg,q⟩:=h;obtain⟨u,rfl,aL⟩:=vals1 r;cases aL;obtain⟨pB,QL,vs,sg,hd⟩:=I.ck d _ bg;obtain⟨ep,mA⟩:=hd.dictAt;have aB:vs.length=kvs.length:=(Paired.length sg).symm;have bq:s.heap.IsValuesView p d:=(I.ck p _ aF).1;obtain⟨o,aH,se,ar4⟩:=id bq;refine amI (PySem.W.kdl_values (knd:=hl X.prog X.w) (kvs:=vs) (ep:=ep)) (by rw[aB];exact pB) se (I.ok.hd ax) ⟨bq,mA⟩ aH λh' tk acc aR hsz lR=>?_;have qE:(kvs.map (·.2)).length<=b8:=by rw[eT];exact pB
 have dG:acc.toList=vs.map (·.2):=by
  refine List.ext_getElem? λi=>?_
  rw[kQ];by_cases hi:i<acc.size
  ·obtain⟨k,aR⟩:=lR.2 i acc[i] (by simp[hi]);rw[aR];simp[hi]
  ·rw[List.getElem?_eq_none (by simpa using hi),List.getElem?_eq_none (by rw[lR.1] at hi;omega)];rfl
 have eF:(h'.push {cls:=.type "tuple",data:=.seq acc}).get? h'.objs.size=some {cls:=.type "tuple",data:=.seq acc}:=gA _ rfl;refine⟨.ref h'.objs.size,_,MF I (o:=.tup (kvs.map (·.2))) (d':=s.drawn) (λb u e=>c8 _ (aR b u e)) hsz ⟨qE,vs.map (·.2),V0 sg,⟨_,eF,rfl,0,by rw[<- dG]⟩⟩,rfl,q _ (I.ck.fresh hsz)⟩
variable {c C i j:Nat}{ns:List Str}{f:Str}{o:bx}{p pos apos j1 dE:Pos}
theorem ed.snd{K:bb}{F:asq->Prop}{H:aE}:∀{ts:List (D.Key×T)} {vs:List (D.Key×V)},ed K F H ts vs->bz K F H (ts.map (·.2)) (vs.map (·.2))
| [],vs,h=>by
  have e:vs=[]:=h;subst e;exact bz.nil
|t::ts,vs,h=>by
  obtain⟨v,r,rfl,q,z⟩:=h;exact bz.cons q (ed.snd z)
def U6(k:fu X.K c C ns)(ax:X.calm=true)(aZ:X.mg "tuple"=none)(a9:bR X o (hR i))(bJ:ns[j]?=some f:=by rfl)(ab:ij o f X.env (eval o X.env)=eval o X.env:=by rfl)
  (jA:ij (.Attribute o f apos) "values" X.env (eval (.Attribute o f apos) X.env)=eval (.Attribute o f apos) X.env:=by rfl) (jC:(j1.endLine==dE.line)=true:=by rfl) (bf:ez X "tuple":=by rfl)
  (he:bo [.Call (.Attribute (.Attribute o f apos) "values" j1) [] [] dE] X.env=(false,eval (.Call (.Attribute (.Attribute o f apos) "values" j1) [] [] dE) X.env)::bo [] X.env:=by rfl)
  (hpl:(dp pos (bo [] X.env)).any (·.1)=false:=by rfl):
  cA X (.Call (.Name "tuple" p) [.Call (.Attribute (.Attribute o f apos) "values" j1) [] [] dE] [] pos) (yX c i j):=
 dn (C0 (amy ax) bf aZ (by decide +kernel) (i_ (VM PySem.F.plainAttrs_dict PySem.F.slot_dict_values PySem.F.type_dict_values aoG (asM a9 ab) jA jC) km he) (he:=he) (hpl:=hpl)) λσ H Q ⟨aD,E,O,F,ε,t,r,e,bL⟩=>by
 simp only[yX,d7] at e;obtain⟨kvs,e1,rfl⟩:=e;obtain⟨m,aA,aH,asr⟩:=C2 e1;obtain⟨a,vs,bj,v,af,hx,aB,au,bq,⟨b,us,dz,ab,eR⟩,_⟩:=mZ k r aH asr bJ;subst dz;refine⟨_,af,a,C,bj,_,_,rfl,hx,k.cls,k0 k bJ,aB,.inr (.inr (.inl ⟨rfl,.inl ⟨_,ab⟩⟩)),b,us,rfl,rfl,ab,λp aF=>?_⟩;have aM:=Ext.laid (o:=DC p b) r.cy aF;refine⟨p,b,us,rfl,ew,aM.same.get ab,λt aZ=>?_⟩;have bK:=aM.trans (Ext.laid (o:=.tup (us.map (·.2))) aM.cy aZ);refine bL _ F _ bK ?_;simp only[Rep];exact⟨t,_,rfl,cX.of ew,(eR.snd).ext bK⟩
end
end
section
variable [cV]
open AutoSeq1 (wpAny_loadPart')
def fv(h:bX)(z TI b9:asq)(f0 f1:ak):Prop:=h.get? z=some {cls:=.type "zip",dict:=none,data:=.fields #[f0,f1,.bool false,.ref TI,.ref b9],slots:=#[]}
section
variable {prog:cJ}{w:cB}{A:c3}{E:ak->aP->Prop}{s:aP}{z TI b9 bT bW bZ b1:asq}{k fT gf:Nat}{as0 tY:Nat->ak->Prop}{hK h1:Nat->bX->Prop}{a b f1:ak}
def Uh{Q:ak->aP->Prop}(D:ZipApart z TI b9 bT bW bZ b1)(js:Draws prog w A bT [bT,bZ] fT as0 hK)(k3:Draws prog w A bW [bW,b1] gf tY h1)(ar:fv s.heap z TI b9 .none f1)(fc:IsPair s.heap TI (.ref bT) (.ref bW))(gL:IsPair s.heap b9 a b)
  (s1:hK k s.heap) (s2:h1 k s.heap) (af:k<fT) (ai:k<gf)
  (iN:∀h' x y tk,as0 k x->tY k y->fv h' z TI b9 (rawInt s.heap.objs.size) (.bool false)->IsPair h' b9 x y->hK (k+1) h'->h1 (k+1) h'->IsPair h' s.heap.objs.size x y->h'.objs.size=s.heap.objs.size+1 ->
   (∀c o,c≠z->c≠b9->c≠bT->c≠bW->s.heap.get? c=some o->h'.get? c=some o)->Q (.ref s.heap.objs.size) {s with heap:=h',toks:=tk}):
  bD (bV prog w) A (Builtin.«zip.__next__» ⟨[.ref z],[]⟩) (λfin s'=>∃v,fin=.done (.ret v)/\Q v s') E s:=by
 unfold fv at ar;refine a3 (m:=field (.ref z) 2) (hU ar rfl (x:=.bool false) rfl (a3 (m:=field (.ref z) 3) (hU ar rfl (x:=.ref TI) rfl (a3 (ow fc rfl ?_)))));refine a3 (m:=qY (.ref z)) ?_;unfold qY;refine a3 (hU ar rfl (x:=.none) rfl (cG ?_));simp only[if_true];refine a3 (wpAny_rule (a3 (hU ar rfl (x:=.ref b9) rfl (a3 (sT ar (by simp) λgM lT fz=>?_)))));replace lT:fv gM z TI b9 .ellipsis f1:=lT;refine a3 ?_;simp only[List.zipIdx_cons,List.zipIdx_nil,List.forIn_cons,List.forIn_nil];have pN:hK k gM:=js.frame k _ _ s1 λc ax o e=>by
  rcases asu.mp ax with rfl|ax
  ·exact fz.extBut _ _ D.i1z e
  ·rw[jl.mp ax] at e ⊢;exact fz.extBut _ _ D.l1z e
 refine a3 (a3 (wpAny_onRaise (a3 (m:=lr (.ref bT)) (js.item k _ _ _ af pN λx jE tk iX t1 gq=>cG ?_))))
 have wA:IsPair jE b9 a b:=gq.extBut _ _ D.TOi1 (fz.extBut _ _ D.TOz gL);refine a3 (ow wA rfl (a3 (wpAny_updateSeq_pair wA λh9 z4 hz=>?_)));replace z4:IsPair h9 b9 x b:=z4;refine a3 (wpAny_letGo (cG ?_));have kK:h1 k h9:=k3.frame k _ _ s2 λc ax o e=>by
  rcases asu.mp ax with rfl|ax
  ·exact hz.extBut _ _ D.TOi2.symm (gq.extBut _ _ D.i12.symm (fz.extBut _ _ D.i2z e))
  ·rw[jl.mp ax] at e ⊢;exact hz.extBut _ _ D.l2TO (gq.extBut _ _ D.l2i1 (fz.extBut _ _ D.l2z e))
 refine a3 (a3 (wpAny_onRaise (a3 (m:=lr (.ref bW)) (k3.item k _ _ _ ai kK λy wQ Li py i3 pk=>cG ?_))))
 have Qm:IsPair wQ b9 x b:=pk.extBut _ _ D.TOi2 z4;refine a3 (ow Qm rfl (a3 (wpAny_updateSeq_pair Qm λiP z5 n7=>?_)));replace z5:IsPair iP b9 x y:=z5;refine a3 (wpAny_letGo (cG (cG (a3 (ow z5 rfl (a3 (wpAny_newTuple ?_)))))));have Bg:iP.objs.size=s.heap.objs.size:=by rw[n7.1,pk.1,hz.1,gq.1,fz.1]
 have QU:fv iP z TI b9 .ellipsis f1:=n7.extBut _ _ D.TOz.symm (pk.extBut _ _ D.i2z.symm (hz.extBut _ _ D.TOz.symm (gq.extBut _ _ D.i1z.symm lT)));have afI:∀c o,c≠z->c≠b9->c≠bT->c≠bW->s.heap.get? c=some o->iP.get? c=some o:=λc o c6 dv fl asy e=>n7.extBut _ _ dv (pk.extBut _ _ asy (hz.extBut _ _ dv (gq.extBut _ _ fl (fz.extBut _ _ c6 e))));have Lm:hK (k+1) iP:=js.frame _ _ _ t1 λc ax o e=>by
  rcases asu.mp ax with rfl|ax
  ·exact n7.extBut _ _ D.TOi1.symm (pk.extBut _ _ D.i12 (hz.extBut _ _ D.TOi1.symm e))
  ·rw[jl.mp ax] at e ⊢;exact n7.extBut _ _ D.l1TO (pk.extBut _ _ D.l1i2 (hz.extBut _ _ D.l1TO e))
 have as9:h1 (k+1) iP:=k3.frame _ _ _ i3 λc ax o e=>by
  rcases asu.mp ax with rfl|ax
  ·exact n7.extBut _ _ D.TOi2.symm e
  ·rw[jl.mp ax] at e ⊢;exact n7.extBut _ _ D.l2TO e
 have qc:z<iP.objs.size:=c0 QU;refine a3 (m:=Builtin.SmallTypes.ownedTupleHandOut (.ref z) (.ref iP.objs.size)) ?_;unfold Builtin.SmallTypes.ownedTupleHandOut;have aen:fv (iP.push {cls:=.type "tuple",data:=.seq #[x,y]}) z TI b9 .ellipsis f1:=c8 _ QU;refine a3 (sT aen (by simp) λaep HF GC=>?_);replace HF:fv aep z TI b9 (rawInt iP.objs.size) f1:=HF;refine sT HF (by simp) λwR Ab GD=>?_;replace Ab:fv wR z TI b9 (rawInt iP.objs.size) (.bool false):=Ab;have up:∀c o,c≠z->iP.get? c=some o->wR.get? c=some o:=λc o c6 e=>GD.extBut _ _ c6 (GC.extBut _ _ c6 (c8 _ e));have eF:IsPair wR iP.objs.size x y:=GD.extBut _ _ (hS qc) (GC.extBut _ _ (hS qc) (gA _ rfl));have RD:wR.objs.size=iP.objs.size+1:=by rw[GD.1,GC.1,kR]
 rw[Bg] at Ab eF RD;refine cG ⟨_,rfl,?_⟩;show Q (.ref iP.objs.size) _;rw[Bg];refine iN wR x y _ iX py Ab (up _ _ D.TOz z5) (js.frame _ _ _ Lm λc ax o e=>?_) (k3.frame _ _ _ as9 λc ax o e=>?_) eF RD λc o c6 dv fl asy e=>up c o c6 (afI c o c6 dv fl asy e)
 ·refine up c o ?_ e
  rcases asu.mp ax with rfl|ax
  ·exact D.i1z
  ·rw[jl.mp ax];exact D.l1z
 ·refine up c o ?_ e
  rcases asu.mp ax with rfl|ax
  ·exact D.i2z
  ·rw[jl.mp ax];exact D.l2z
def Ug{Q:Fin->aP->Prop}(D:ZipApart z TI b9 bT bW bZ b1)(js:Draws prog w A bT [bT,bZ] fT as0 hK)(k3:Draws prog w A bW [bW,b1] gf tY h1)(ar:fv s.heap z TI b9 .none f1)(fc:IsPair s.heap TI (.ref bT) (.ref bW))(gL:IsPair s.heap b9 a b)
  (s1:hK k s.heap) (s2:h1 k s.heap) (aR:k=fT\/(k<fT/\k=gf))
  (pq:∀h' e tk,(∀c o,c≠z->c≠b9->c≠bT->c≠bW->s.heap.get? c=some o->h'.get? c=some o)->(∃o,h'.get? e=some o/\o.cls=.type "StopIteration")->E (.ref e) {s with heap:=h',toks:=tk}):
  bD (bV prog w) A (Builtin.«zip.__next__» ⟨[.ref z],[]⟩) Q E s:=by
 unfold fv at ar;refine a3 (m:=field (.ref z) 2) (hU ar rfl (x:=.bool false) rfl (a3 (m:=field (.ref z) 3) (hU ar rfl (x:=.ref TI) rfl (a3 (ow fc rfl ?_)))));refine a3 (m:=qY (.ref z)) ?_;unfold qY;refine a3 (hU ar rfl (x:=.none) rfl (cG ?_));simp only[if_true];refine a3 (wpAny_rule (a3 (hU ar rfl (x:=.ref b9) rfl (a3 (sT ar (by simp) λgM lT fz=>?_)))));replace lT:fv gM z TI b9 .ellipsis f1:=lT;refine a3 ?_;simp only[List.zipIdx_cons,List.zipIdx_nil,List.forIn_cons,List.forIn_nil];have pN:hK k gM:=js.frame k _ _ s1 λc ax o e=>by
  rcases asu.mp ax with rfl|ax
  ·exact fz.extBut _ _ D.i1z e
  ·rw[jl.mp ax] at e ⊢;exact fz.extBut _ _ D.l1z e
 rcases aR with rfl|⟨af,rfl⟩
 ·refine a3 (a3 (wpAny_onRaise (a3 (m:=lr (.ref bT)) (js.done _ _ _ pN λjE e gq he=>?_))))
  obtain⟨KA,si,wC⟩:=he;have HD:fv jE z TI b9 .ellipsis f1:=gq _ _ D.i1z.symm lT;have ne:e≠z:=λq=>by
   subst q;unfold fv at HD;rw[HD] at si;cases si;simp at wC
  exact sT HD (by simp) λh9 _ hz=>pq h9 e _ (λc o c6 _ fl _ q=>hz.extBut _ _ c6 (gq _ _ fl (fz.extBut _ _ c6 q))) ⟨KA,hz.extBut _ _ ne si,wC⟩
 ·refine a3 (a3 (wpAny_onRaise (a3 (m:=lr (.ref bT)) (js.item k _ _ _ af pN λx jE tk iX t1 gq=>cG ?_))))
  have wA:IsPair jE b9 a b:=gq.extBut _ _ D.TOi1 (fz.extBut _ _ D.TOz gL);refine a3 (ow wA rfl (a3 (wpAny_updateSeq_pair wA λh9 z4 hz=>?_)));refine a3 (wpAny_letGo (cG ?_));have kK:h1 k h9:=k3.frame k _ _ s2 λc ax o e=>by
   rcases asu.mp ax with rfl|ax
   ·exact hz.extBut _ _ D.TOi2.symm (gq.extBut _ _ D.i12.symm (fz.extBut _ _ D.i2z e))
   ·rw[jl.mp ax] at e ⊢;exact hz.extBut _ _ D.l2TO (gq.extBut _ _ D.l2i1 (fz.extBut _ _ D.l2z e))
  refine a3 (a3 (wpAny_onRaise (a3 (m:=lr (.ref bW)) (k3.done _ _ _ kK λwQ e pk he=>?_))))
  obtain⟨KA,si,wC⟩:=he;have HE:fv wQ z TI b9 .ellipsis f1:=pk _ _ D.i2z.symm (hz.extBut _ _ D.TOz.symm (gq.extBut _ _ D.i1z.symm lT));have ne:e≠z:=λq=>by
   subst q;unfold fv at HE;rw[HE] at si;cases si;simp at wC
  exact sT HE (by simp) λiP _ n7=>pq iP e _ (λc o c6 dv fl asy q=>n7.extBut _ _ c6 (pk _ _ asy (hz.extBut _ _ dv (gq.extBut _ _ fl (fz.extBut _ _ c6 q))))) ⟨KA,n7.extBut _ _ ne si,wC⟩
def aqn{c:asq}{Q:Option Obj->aP->Prop}(h:Q (s.heap.get? c) s):bD (bV prog w) A (loadIfAlive c) Q E s:=λΓ p _=>by
 unfold loadIfAlive;rw[Sem.wp_loadIfAlive];simpa using h
def S8{T:asq}{kF:Obj}{f:Bool}(ar:fv s.heap z TI b9 (rawInt T) (.bool f))(eF:s.heap.get? T=some kF):
  bD (bV prog w) A (qY (.ref z)) (λc s'=>c=false/\∃gM,s'={s with heap:=gM}/\fv gM z TI b9 (rawInt T) (.bool true)/\Heap.SameBut z s.heap gM) E s:=by
 unfold fv at ar;unfold qY;refine a3 (hU ar rfl (x:=rawInt T) rfl ?_);refine a3 (m:=loadIfAlive ((T:Nat):Int).toNat) (aqn ?_);rw[Int.toNat_natCast,eF];simp only[Option.isNone_some,l1,if_false];refine a3 (hU ar rfl (x:=.bool f) rfl ?_);cases f with
|true=>
  simp only[bne_self_eq_false,l1,if_false];exact cG ⟨rfl,s.heap,rfl,ar,Heap.SameBut.refl ..⟩
|false=>
  rw[if_pos (by decide)];exact a3 (sT ar (by simp) λgM lT fz=>cG ⟨rfl,gM,rfl,lT,fz⟩)
def ao8{Q:ak->aP->Prop}{T:asq}{kF:Obj}{f:Bool}(D:ZipApart z TI b9 bT bW bZ b1)(js:Draws prog w A bT [bT,bZ] fT as0 hK)(k3:Draws prog w A bW [bW,b1] gf tY h1)(ar:fv s.heap z TI b9 (rawInt T) (.bool f))(eF:s.heap.get? T=some kF)(fc:IsPair s.heap TI (.ref bT) (.ref bW))
  (s1:hK k s.heap) (s2:h1 k s.heap) (af:k<fT) (ai:k<gf)
  (iN:∀h' x y tk,as0 k x->tY k y->fv h' z TI b9 (rawInt T) (.bool true)->hK (k+1) h'->h1 (k+1) h'->IsPair h' s.heap.objs.size x y->h'.objs.size=s.heap.objs.size+1 ->
   (∀c o,c≠z->c≠bT->c≠bW->s.heap.get? c=some o->h'.get? c=some o)->Q (.ref s.heap.objs.size) {s with heap:=h',toks:=tk}):
  bD (bV prog w) A (Builtin.«zip.__next__» ⟨[.ref z],[]⟩) (λfin s'=>∃v,fin=.done (.ret v)/\Q v s') E s:=by
 have wM:=ar;unfold fv at ar;refine a3 (m:=field (.ref z) 2) (hU ar rfl (x:=.bool false) rfl (a3 (m:=field (.ref z) 3) (hU ar rfl (x:=.ref TI) rfl (a3 (ow fc rfl ?_)))));refine a3 (m:=qY (.ref z)) (hT (S8 wM eF) (λc s' ⟨ha,gM,es,lT,fz⟩=>?_) λ_ _ q=>q);subst ha es;simp only[l1,if_false];refine a3 ?_;rw[<- Array.forIn_toList];simp only[List.forIn_cons,List.forIn_nil];have pN:hK k gM:=js.frame k _ _ s1 λc ax o e=>by
  rcases asu.mp ax with rfl|ax
  ·exact fz.extBut _ _ D.i1z e
  ·rw[jl.mp ax] at e ⊢;exact fz.extBut _ _ D.l1z e
 refine a3 (a3 (ov (a3 (m:=lr (.ref bT)) (js.item k _ _ _ af pN λx jE tk iX t1 gq=>cG (cG ?_)))))
 have kK:h1 k jE:=k3.frame k _ _ s2 λc ax o e=>by
  rcases asu.mp ax with rfl|ax
  ·exact gq.extBut _ _ D.i12.symm (fz.extBut _ _ D.i2z e)
  ·rw[jl.mp ax] at e ⊢;exact gq.extBut _ _ D.l2i1 (fz.extBut _ _ D.l2z e)
 refine a3 (a3 (ov (a3 (m:=lr (.ref bW)) (k3.item k _ _ _ ai kK λy h9 Li py i3 hz=>cG (cG (cG ?_))))))
 refine a3 (wpAny_newTuple (cG ⟨_,rfl,?_⟩) (by show 2<=b8;decide))
 have RC:h9.objs.size=s.heap.objs.size:=by rw[hz.1,gq.1,fz.1]
 have alc:hK (k+1) h9:=js.frame _ _ _ t1 λc ax o e=>by
  rcases asu.mp ax with rfl|ax
  ·exact hz.extBut _ _ D.i12 e
  ·rw[jl.mp ax] at e ⊢;exact hz.extBut _ _ D.l1i2 e
 have aem:fv h9 z TI b9 (rawInt T) (.bool true):=hz.extBut _ _ D.i2z.symm (gq.extBut _ _ D.i1z.symm lT);have aF:(h9.push {cls:=.type "tuple",data:=.seq #[x,y]}).get? h9.objs.size=some _:=gA _ rfl;show Q (.ref h9.objs.size) _;rw[RC] at aF ⊢;refine iN (h9.push {cls:=.type "tuple",data:=.seq #[x,y]}) x y _ iX py (c8 _ aem) (js.frame _ _ _ alc λc _ o e=>c8 _ e) (k3.frame _ _ _ i3 λc _ o e=>c8 _ e) aF (by rw[kR,RC])
  λc o c6 fl asy e=>c8 _ (hz.extBut _ _ asy (gq.extBut _ _ fl (fz.extBut _ _ c6 e)))
def amK{Q:Fin->aP->Prop}{T:asq}{kF:Obj}{f:Bool}(D:ZipApart z TI b9 bT bW bZ b1)(js:Draws prog w A bT [bT,bZ] fT as0 hK)(k3:Draws prog w A bW [bW,b1] gf tY h1)(ar:fv s.heap z TI b9 (rawInt T) (.bool f))(eF:s.heap.get? T=some kF)(fc:IsPair s.heap TI (.ref bT) (.ref bW))
  (s1:hK k s.heap) (s2:h1 k s.heap) (aR:k=fT\/(k<fT/\k=gf))
  (pq:∀h' e tk,(∀c o,c≠z->c≠bT->c≠bW->s.heap.get? c=some o->h'.get? c=some o)->(∃o,h'.get? e=some o/\o.cls=.type "StopIteration")->E (.ref e) {s with heap:=h',toks:=tk}):
  bD (bV prog w) A (Builtin.«zip.__next__» ⟨[.ref z],[]⟩) Q E s:=by
 have wM:=ar;unfold fv at ar;refine a3 (m:=field (.ref z) 2) (hU ar rfl (x:=.bool false) rfl (a3 (m:=field (.ref z) 3) (hU ar rfl (x:=.ref TI) rfl (a3 (ow fc rfl ?_)))));refine a3 (m:=qY (.ref z)) (hT (S8 wM eF) (λc s' ⟨ha,gM,es,lT,fz⟩=>?_) λ_ _ q=>q);subst ha es;simp only[l1,if_false];refine a3 ?_;rw[<- Array.forIn_toList];simp only[List.forIn_cons,List.forIn_nil];have pN:hK k gM:=js.frame k _ _ s1 λc ax o e=>by
  rcases asu.mp ax with rfl|ax
  ·exact fz.extBut _ _ D.i1z e
  ·rw[jl.mp ax] at e ⊢;exact fz.extBut _ _ D.l1z e
 rcases aR with rfl|⟨af,rfl⟩
 ·refine a3 (a3 (ov (a3 (m:=lr (.ref bT)) (js.done _ _ _ pN λjE e gq he=>?_))))
  exact pq jE e _ (λc o c6 fl _ q=>gq _ _ fl (fz.extBut _ _ c6 q)) he
 ·refine a3 (a3 (ov (a3 (m:=lr (.ref bT)) (js.item k _ _ _ af pN λx jE tk iX t1 gq=>cG (cG ?_)))))
  have kK:h1 k jE:=k3.frame k _ _ s2 λc ax o e=>by
   rcases asu.mp ax with rfl|ax
   ·exact gq.extBut _ _ D.i12.symm (fz.extBut _ _ D.i2z e)
   ·rw[jl.mp ax] at e ⊢;exact gq.extBut _ _ D.l2i1 (fz.extBut _ _ D.l2z e)
  refine a3 (a3 (ov (a3 (m:=lr (.ref bW)) (k3.done _ _ _ kK λh9 e hz he=>?_))))
  exact pq h9 e _ (λc o c6 fl asy q=>hz _ _ asy (gq.extBut _ _ fl (fz.extBut _ _ c6 q))) he
end
end
section
variable [cV]
open AutoSeq1 (wpAny_loadPart')
def aey(b:Bool):String:=if b then "list_iterator" else "tuple_iterator"
def iR(b:Bool)(h:bX)(it l:asq)(i:Nat):Prop:=match b with
|true=>h.IsListIter it l i
|false=>h.IsTupleIter it l i
def gx(b:Bool)(h:bX)(l:asq)(xs:Array ak):Prop:=match b with
|true=>h.IsList l xs
|false=>h.IsTuple l xs
theorem iR.at{b:Bool}{h h':bX}{it l:asq}{i:Nat}(x:iR b h it l i)(k:∀o,h.get? it=some o->h'.get? it=some o):iR b h' it l i:=by
 cases b with
|true=>exact Heap.IsListIter.at x k
|false=>
  obtain⟨o,aH,r⟩:=x;exact⟨o,k o aH,r⟩
def iR.obj{b:Bool}{h:bX}{it l:asq}{i:Nat}(x:iR b h it l i):∃o,h.get? it=some o/\∀v,o.data≠.cell v:=by
 cases b with
|true=>
  obtain⟨o,aH,ax,hd⟩:=x;exact⟨o,aH,λv z=>by rw[hd] at z;cases z⟩
|false=>
  obtain⟨o,aH,ax,hd⟩:=x;exact⟨o,aH,λv z=>by rw[hd] at z;cases z⟩
def gx.at{b:Bool}{h h':bX}{l:asq}{xs:Array ak}(x:gx b h l xs)(k:∀o,h.get? l=some o->h'.get? l=some o):gx b h' l xs:=by
 cases b with
|true=>
  obtain⟨o,aH,r⟩:=x;exact⟨o,k o aH,r⟩
|false=>
  obtain⟨o,aH,r⟩:=x;exact⟨o,k o aH,r⟩
def gx.lt{b:Bool}{h:bX}{l:asq}{xs:Array ak}(x:gx b h l xs):l<h.objs.size:=by
 cases b with
|true=>
  obtain⟨o,aH,r⟩:=x;exact c0 aH
|false=>
  obtain⟨o,aH,r⟩:=x;exact c0 aH
def rg{prog:cJ}{w:cB}{A:c3}(b:Bool)(cK:A.handled=none)(it l:asq)(kD:l≠it)(xs:Array ak):
  Draws prog w A it [it,l] xs.size (λi v=>xs[i]?=some v) (λi h=>iR b h it l i/\gx b h l xs):=by
 cases b with
|true=>exact Draws.list cK it l kD xs
|false=>exact va cK it l kD xs
abbrev yU(b:Bool)(l:asq):Obj:={cls:=.type (aey b),data:=.fields #[.ref l,.int 0 0]}
abbrev amY(b2 cm:Bool)(h:bX)(bZ b1:asq):bX:=((h.push (yU b2 bZ)).push (yU cm b1)).push {cls:=.type "tuple",data:=.seq #[.ref h.objs.size,.ref (h.objs.size+1)]}
abbrev Tr(b2 cm:Bool)(h:bX)(bZ b1:asq):bX:=(amY b2 cm h bZ b1).push {cls:=.type "tuple",data:=.seq #[.none,.none]}
abbrev Ts(b2 cm:Bool)(h:bX)(bZ b1:asq):bX:=(Tr b2 cm h bZ b1).push {cls:=.type "zip",data:=.fields #[.none,.bool false,.bool false,.ref (h.objs.size+2),.ref (h.objs.size+3)]}
section
variable {prog:cJ}{w:cB}{A:c3}{E:ak->aP->Prop}{s:aP}
def V3{b:Bool}{l:asq}{xs:Array ak}{Q:ak->aP->Prop}(aB:gx b s.heap l xs)(h:Q (.ref s.heap.objs.size) {s with heap:=s.heap.push (yU b l)}):bD (bV prog w) A (pyIter (.ref l)) Q E s:=by
 cases b with
|true=>exact wpAny_pyIter_list aB h
|false=>exact uZ aB h
def an3(b2 cm:Bool)(bZ b1:asq)(xs ys:Array ak):
  Meets (Builtin.«zip.__new__» ⟨[.type "zip",.ref bZ,.ref b1],[]⟩) (λ_ R s=>gx b2 s.heap bZ xs/\gx cm s.heap b1 ys /\
   R (.ok (.ret (.ref (s.heap.objs.size+4)))) {s with heap:=Ts b2 cm s.heap bZ b1}):=
 .of_wp λprog w A R s h=>by
  obtain⟨aF,g,d,tk,os⟩:=s;obtain⟨af,ai,h⟩:=h;have QM:=sub_zip;have en:gx b2 (Shared.heap ⟨aF,g,d,tk,os⟩) bZ xs:=af;have hb:gx cm (Shared.heap ⟨aF.push (yU b2 bZ),g,d,tk,os⟩) b1 ys:=ai.at λo e=>c8 _ e
  wp_walk using V3 en,V3 hb
  refine⟨_,rfl,?_⟩
  simp only[kR] at h ⊢;exact h
def T4{b2 cm:Bool}{bZ b1:asq}{xs ys:Array ak}{Q:ak->aP->Prop}(af:gx b2 s.heap bZ xs)(ai:gx cm s.heap b1 ys)
  (h:∀h',fv h' (s.heap.objs.size+4) (s.heap.objs.size+2) (s.heap.objs.size+3) .none (.bool false)->IsPair h' (s.heap.objs.size+2) (.ref s.heap.objs.size) (.ref (s.heap.objs.size+1))->IsPair h' (s.heap.objs.size+3) .none .none ->
   iR b2 h' s.heap.objs.size bZ 0->iR cm h' (s.heap.objs.size+1) b1 0->h'.objs.size=s.heap.objs.size+5->(∀c o,s.heap.get? c=some o->h'.get? c=some o)->Q (.ref (s.heap.objs.size+4)) {s with heap:=h'}):
  bD (bV prog w) A (call (.type "zip") [.ref bZ,.ref b1]) Q E s:=by
 have hi:∀(b:Bool) (h':bX) (it l:asq),h'.get? it=some (yU b l)->iR b h' it l 0:=λb h' it l e=>by
  cases b with
  |true=>exact⟨_,e,rfl,rfl⟩
  |false=>exact⟨_,e,rfl,rfl⟩
 refine callType_new F.called_zip (by decide) (F.typeCall_zip_2 _ _) (F.newCall_zip_2 _ _) (λobj=>F.args_object_init_3 obj _ _) F.entry_zip_new (an3 b2 cm bZ b1 xs ys) ⟨af,ai,?_⟩
 have at_:∀(cK:bX) (n:Nat) (o o':Obj),cK.objs.size=n->o.isFreed=false->(cK.push o).get? n=some o:=λcK n o o' e f=>by
  rw[<- e];exact gA _ f
 have mx:(Ts b2 cm s.heap bZ b1).get? (s.heap.objs.size+4)=some _:=at_ (Tr b2 cm s.heap bZ b1) (s.heap.objs.size+4) _ default (by simp only[kR]) rfl;refine⟨⟨_,mx,rfl⟩,h _ mx ?_ ?_ ?_ ?_ (by simp only[kR]) λc o e=>c8 _ (c8 _ (c8 _ (c8 _ (c8 _ e))))⟩
 ·exact c8 _ (c8 _ (at_ _ _ _ default (by simp only[kR]) rfl))
 ·exact c8 _ (at_ _ _ _ default (by simp only[kR]) rfl)
 ·exact hi b2 _ _ _ (c8 _ (c8 _ (c8 _ (c8 _ (gA _ rfl)))))
 ·exact hi cm _ _ _ (c8 _ (c8 _ (c8 _ (at_ _ _ _ default (by simp only[kR]) rfl))))
end
end
section
variable [cV]
def anA:typeLookup (.type "zip") "keys"=pure none:=by rw[typeLookup_type,builtinLookup_eq_fast];kernel_rfl
def amF:typeLookup (.type "zip") "__getattr__"=pure none:=by rw[typeLookup_type,builtinLookup_eq_fast];kernel_rfl
def am8:entryFor table "zip.__getattribute__"=some Builtin.«object.__getattribute__»:=entryFor_alias (id':="object.__getattribute__") (by kernel_rfl) (by decide +kernel) (by decide +kernel) (by kernel_rfl)
def amE(a:asq)(vs:Array ak)(name:Str)(u:Tok)(asd:typeLookup (.type "zip") name=pure none)(ad2:(["__module__","__name__","__qualname__","__doc__","__annotations__"]:List Str).contains name=false)(hsz:name.length+100<=b8):
  Meets (Builtin.«object.__getattribute__» ⟨[.ref a,.str name u],[]⟩) (λA R s=>s.heap.get? a=some {cls:=.type "zip",dict:=none,data:=.fields vs,slots:=#[]}/\raisesAttr (.ref a) name A R s):=
 Meets.of_wp λprog w A R s asr=>by
  obtain⟨aF,g,d,tk,os⟩:=s;obtain⟨hx,asr⟩:=asr;have ty:(⟨aF,g,d,tk,os⟩:aP).TypeIs (.ref a) "zip":=⟨_,hx,rfl⟩;unfold Builtin.«object.__getattribute__»
  repeat (any_goals (first|assumption|wp_step))
  simp only[ad2,l1,if_false]
  repeat (any_goals (first|assumption|wp_step))
  exact wpAny_raiseAttrError asr.1 asr.2 (attrMsg_fits (by decide +kernel) hsz)
def apT{prog:cJ}{w:cB}{A:c3}{E:ak->aP->Prop}{s:aP}{a:asq}{vs:Array ak}{Q:Option ak->aP->Prop}
  (hx:s.heap.get? a=some {cls:=.type "zip",dict:=none,data:=.fields vs,slots:=#[]}) (r_:A.handled=none)
  (h:∀h' tk,(∀b o,s.heap.get? b=some o->h'.get? b=some o)->Q none {s with heap:=h',toks:=tk}):
  bD (bV prog w) A (getAttr? (.ref a) "keys") Q E s:=by
 obtain⟨aF,g,d,tk,os⟩:=s;have ty:∀Bk,(⟨aF,g,d,Bk,os⟩:aP).TypeIs (.ref a) "zip":=λ_=>⟨_,hx,rfl⟩;have f1:=sub_AttributeError;have gJ:=F.slot_zip_getattribute.lookup;have f4:=F.slot_zip_getattribute.bind (.ref a);have gK:=amF;have nm:(["__module__","__name__","__qualname__","__doc__","__annotations__"]:List Str).contains ("keys":Str)=false:=by decide +kernel
 have ll:("keys":Str).length+100<=b8:=by rw[mT];decide
 unfold getAttr? getAttrBy? getAttrBy
 repeat (any_goals (first|assumption|exact ty _|((with_reducible show bD _ _ (call (Value.builtin "zip.__getattribute__") _ _) _ _ _);refine l8 F.slot_zip_getattribute (ty _) am8 (F.args_zip_getattribute_2 _ _) (amE a vs "keys" _ anA nm ll) ⟨hx,r_,λh' Bk e k_=>?_⟩)|wp_step))
 obtain⟨t',uK,he⟩:=k_.there;show bD _ _ (getattributeRaised _ _ _ _ _ _ _) _ _ _;unfold getattributeRaised
 repeat (any_goals (first|assumption|wp_step))
 exact h _ _ k_.keeps
section
variable {prog:cJ}{w:cB}{K:Type}[DecidableEq K]{knd:PySem.KeyKind prog w K}{A:c3}{E:ak->aP->Prop}{s:aP}{R:Result->aP->Prop}{z TI b9 bT bW bZ b1:asq}{b2 cm:Bool}{xs ys:Array ak}
noncomputable def rC(S z TI b9 bT bW bZ b1:asq)(b2 cm:Bool)(xs ys:Array ak)(i:Nat)(h:bX):Prop:=IsPair h TI (.ref bT) (.ref bW)/\(∃a b,IsPair h b9 a b)/\(iR b2 h bT bZ i/\gx b2 h bZ xs)/\(iR cm h bW b1 i/\gx cm h b1 ys) /\
 (fv h z TI b9 .none (.bool false)\/∃(T:Nat) (kF:Obj) (f:Bool),fv h z TI b9 (rawInt T) (.bool f)/\h.get? T=some kF/\T≠S/\T≠z/\T≠b9/\T≠bT/\T≠bW)
def Kept(S z b9 bT bW:asq)(h h':bX):Prop:=∀c o,c≠S->c≠z->c≠b9->c≠bT->c≠bW->h.get? c=some o->h'.get? c=some o
def anJ{S:asq}{i:Nat}{Q:Option ak->aP->Prop}(cK:A.handled=none)(D:ZipApart z TI b9 bT bW bZ b1)(st:rC S z TI b9 bT bW bZ b1 b2 cm xs ys i s.heap)(e3:∃o,s.heap.get? S=some o)(jf:S≠z/\S≠b9/\S≠bT/\S≠bW)
  (hx:i<xs.size) (bw:i<ys.size)
  (iN:∀h' tk,IsPair h' s.heap.objs.size xs[i] ys[i]->rC S z TI b9 bT bW bZ b1 b2 cm xs ys (i+1) h'->(∀o,s.heap.get? S=some o->h'.get? S=some o)->Kept S z b9 bT bW s.heap h'->s.heap.objs.size<=h'.objs.size->Q (some (.ref s.heap.objs.size)) {s with heap:=h',toks:=tk}):
  bD (bV prog w) A (pyNext (.ref z)) Q E s:=by
 obtain⟨fc,⟨a,b,gL⟩,aQ,a7,ar⟩:=st;have qc:∀{f0 f1:ak},fv s.heap z TI b9 f0 f1->z<s.heap.objs.size:=λh=>c0 h;have eF:s.TypeIs (.ref z) "zip":=by
  rcases ar with h|⟨T,kF,f,h,_⟩
  ·exact⟨_,h,rfl⟩
  ·exact⟨_,h,rfl⟩
 have QV:bT<s.heap.objs.size/\bW<s.heap.objs.size:=by
  obtain⟨dK,aG,_⟩:=aQ.1.obj;obtain⟨fH,aS,_⟩:=a7.1.obj;exact⟨c0 aG,c0 aS⟩
 have Yr:S<s.heap.objs.size:=by
  obtain⟨o,e⟩:=e3;exact c0 e
 have D5:b9<s.heap.objs.size:=c0 gL;unfold pyNext;refine a3 (wpAny_attempt (pW (name:=Str.ofString "__next__") eF F.slot_zip_next (ox F.slot_zip_next eF F.entry_zip_next ?_ (F.args_zip_next_1 _))));rcases ar with ar|⟨T,kF,f,ar,z6,t1,i3,t3,as8,jG⟩
 ·refine Uh (hK:=λi h=>iR b2 h bT bZ i/\gx b2 h bZ xs) (h1:=λi h=>iR cm h bW b1 i/\gx cm h b1 ys) D (rg (A:=A.in1) b2 cK bT bZ D.l1i1 xs) (rg (A:=A.in1) cm cK bW b1 D.l2i2 ys) ar fc gL aQ a7 hx bw λh' x y tk iX py pB Hd s1 s2 aF hsz aC=>cG ?_
  have ex:xs[i]=x:=fq ((sP hx).symm.trans iX);have eV:ys[i]=y:=fq ((sP bw).symm.trans py);subst ex eV;refine iN h' tk aF ⟨aC _ _ D.TIz D.TITO D.TIi1 D.TIi2 fc,⟨_,_,Hd⟩,s1,s2,.inr ⟨_,_,false,pB,aF,?_⟩⟩ (λo e=>aC _ _ jf.1 jf.2.1 jf.2.2.1 jf.2.2.2 e) (λc o _ dv fl asy jd e=>aC c o dv fl asy jd e) (by omega);exact⟨hS Yr,hS (qc ar),hS D5,hS QV.1,hS QV.2⟩
 ·refine ao8 (hK:=λi h=>iR b2 h bT bZ i/\gx b2 h bZ xs) (h1:=λi h=>iR cm h bW b1 i/\gx cm h b1 ys) D (rg (A:=A.in1) b2 cK bT bZ D.l1i1 xs) (rg (A:=A.in1) cm cK bW b1 D.l2i2 ys) ar z6 fc aQ a7 hx bw λh' x y tk iX py pB s1 s2 aF hsz aC=>cG ?_
  have ex:xs[i]=x:=fq ((sP hx).symm.trans iX);have eV:ys[i]=y:=fq ((sP bw).symm.trans py);subst ex eV;exact iN h' tk aF ⟨aC _ _ D.TIz D.TIi1 D.TIi2 fc,⟨a,b,aC _ _ D.TOz D.TOi1 D.TOi2 gL⟩,s1,s2,.inr ⟨T,kF,true,pB,aC _ _ i3 as8 jG z6,t1,i3,t3,as8,jG⟩⟩ (λo e=>aC _ _ jf.1 jf.2.2.1 jf.2.2.2 e) (λc o _ dv fl asy jd e=>aC c o dv asy jd e) (by omega)
def anK{S:asq}{i:Nat}{Q:Option ak->aP->Prop}(cK:A.handled=none)(D:ZipApart z TI b9 bT bW bZ b1)(st:rC S z TI b9 bT bW bZ b1 b2 cm xs ys i s.heap)(jf:S≠z/\S≠b9/\S≠bT/\S≠bW)(hi:i=xs.size\/(i<xs.size/\i=ys.size))
  (iN:∀h' tk,(∀o,s.heap.get? S=some o->h'.get? S=some o)->Kept S z b9 bT bW s.heap h'->Q none {s with heap:=h',toks:=tk}):
  bD (bV prog w) A (pyNext (.ref z)) Q E s:=by
 obtain⟨fc,⟨a,b,gL⟩,aQ,a7,ar⟩:=st;have eF:s.TypeIs (.ref z) "zip":=by
  rcases ar with h|⟨T,kF,f,h,_⟩
  ·exact⟨_,h,rfl⟩
  ·exact⟨_,h,rfl⟩
 unfold pyNext;refine a3 (wpAny_attempt (pW (name:=Str.ofString "__next__") eF F.slot_zip_next (ox F.slot_zip_next eF F.entry_zip_next ?_ (F.args_zip_next_1 _))));rcases ar with ar|⟨T,kF,f,ar,z6,t1,i3,t3,as8,jG⟩
 ·refine Ug (hK:=λi h=>iR b2 h bT bZ i/\gx b2 h bZ xs) (h1:=λi h=>iR cm h bW b1 i/\gx cm h b1 ys) D (rg (A:=A.in1) b2 cK bT bZ D.l1i1 xs) (rg (A:=A.in1) cm cK bW b1 D.l2i2 ys) ar fc gL aQ a7 hi λh' e tk aC he=>?_
  obtain⟨o,aH,ax⟩:=he;refine a3 (wpAny_isInstance (T:="StopIteration") (b:=true) ⟨o,aH,ax⟩ isSubtype_stop (cG ?_));exact iN h' tk (λo e=>aC _ _ jf.1 jf.2.1 jf.2.2.1 jf.2.2.2 e) λc o _ dv fl asy jd e=>aC c o dv fl asy jd e
 ·refine amK (hK:=λi h=>iR b2 h bT bZ i/\gx b2 h bZ xs) (h1:=λi h=>iR cm h bW b1 i/\gx cm h b1 ys) D (rg (A:=A.in1) b2 cK bT bZ D.l1i1 xs) (rg (A:=A.in1) cm cK bW b1 D.l2i2 ys) ar z6 fc aQ a7 hi λh' e tk aC he=>?_
  obtain⟨o,aH,ax⟩:=he;refine a3 (wpAny_isInstance (T:="StopIteration") (b:=true) ⟨o,aH,ax⟩ isSubtype_stop (cG ?_));exact iN h' tk (λo e=>aC _ _ jf.1 jf.2.2.1 jf.2.2.2 e) λc o _ dv fl asy jd e=>aC c o dv asy jd e
def rC.frame{S:asq}{i:Nat}{h h':bX}(st:rC S z TI b9 bT bW bZ b1 b2 cm xs ys i h)(e3:∀c∈[z,TI,b9,bT,bW,bZ,b1],S≠c)(k:∀c o,c≠S->h.get? c=some o->h'.get? c=some o):rC S z TI b9 bT bW bZ b1 b2 cm xs ys i h':=by
 obtain⟨fc,⟨a,b,gL⟩,aQ,a7,ar⟩:=st;have ne:∀c∈[z,TI,b9,bT,bW,bZ,b1],c≠S:=λc ax=>(e3 c ax).symm;refine⟨k _ _ (ne _ (by simp)) fc,⟨a,b,k _ _ (ne _ (by simp)) gL⟩,⟨aQ.1.at λo e=>k _ _ (ne _ (by simp)) e,aQ.2.at λo e=>k _ _ (ne _ (by simp)) e⟩,⟨a7.1.at λo e=>k _ _ (ne _ (by simp)) e,a7.2.at λo e=>k _ _ (ne _ (by simp)) e⟩,?_⟩;rcases ar with ar|⟨T,kF,f,ar,eF,t⟩
 ·exact .inl (k _ _ (ne z (by simp)) ar)
 ·exact .inr ⟨T,kF,f,k _ _ (ne z (by simp)) ar,k _ _ t.1 eF,t⟩
def am'(cK:A.handled=none)(D:ZipApart z TI b9 bT bW bZ b1)(S:asq)(e3:∀c∈[z,TI,b9,bT,bW,bZ,b1],S≠c)(kvs:List (K×ak))(uv:(kvs.map (·.1)).Nodup)(hlen:kvs.length=min xs.size ys.size)(ar:kvs.length<=b8)
  (sg:∀(j:Nat) (dw:K×ak),kvs[j]?=some dw->∃key,xs[j]?=some key/\knd.is dw.1 key=true/\ys[j]?=some dw.2):
  ∀(k i:Nat) (s:aP) (c:Int) (cH:Tok),kvs.length - i=k->i<=kvs.length->rC S z TI b9 bT bW bZ b1 b2 cm xs ys i s.heap->s.heap.DictOf knd S (kvs.take i) ->
   (∀h' tk,Kept S z b9 bT bW s.heap h'->h'.DictOf knd S kvs->R (.ok (.ret .none)) {s with heap:=h',toks:=tk}) ->
   codeAny (bV prog w) A (.builtin "dict.update.loop" ⟨[.ref S,.ref z,.int c cH,.none],[]⟩) R s:=by
 have jf:S≠z/\S≠b9/\S≠bT/\S≠bW:=⟨e3 _ (by simp),e3 _ (by simp),e3 _ (by simp),e3 _ (by simp)⟩;intro k
 induction k with
|zero=>
  intro i s c cH aR hi lS hd k9;have ur:i=kvs.length:=by omega
  subst ur;refine u0 TU ?_;rw[uW CZ _];refine a3 (m:=pyNext (.ref z)) (anK (A:=A.in1) cK D lS jf (by omega) λh' tk Hb aC=>?_);refine a3 (m:=Builtin.Dict.addKeywords S []) (cG ?_);rw[List.take_of_length_le (dT _)] at hd;exact cG (k9 h' tk aC (hd.at λo e=>Hb o e))
|succ k bY=>
  intro i s c cH aR hi lS hd k9;have gc:i<kvs.length:=by omega
  have hx:i<xs.size:=by omega
  have bw:i<ys.size:=by omega
  have ado:∃o,s.heap.get? S=some o:=by
   obtain⟨o,_,_,e,_⟩:=hd;exact⟨o,e⟩
  refine u0 TU ?_
  rw[uW CZ _];refine a3 (m:=pyNext (.ref z)) (anJ (A:=A.in1) cK D lS ado jf hx bw λh' tk aF jj Hb aC hsz=>?_);have Qy:kvs[i]?=some kvs[i]:=iB gc;obtain⟨key,aG,aS,d5⟩:=sg i _ Qy;have ex:xs[i]=key:=fq ((sP hx).symm.trans aG);have eV:ys[i]=kvs[i].2:=fq ((sP bw).symm.trans d5);rw[ex,eV] at aF;refine a3 (ov (a3 (wpAny_tryCatch (pair_items (s:={s with heap:=h',toks:=tk}) aF rfl rfl ?_))));have adF:h'.DictOf knd S (kvs.take i):=hd.at λo e=>Hb o e;refine ov (wpAny_dictSet_pairs (s:={s with heap:=h',toks:=tk}) aS adF (λai hd2 QK=>?_) (by rw[List.length_take];omega));have px:kvs[i].1∉(kvs.take i).map (·.1):=λq=>by
   rw[<- List.take_append_drop i kvs,List.map_append,pU] at uv;refine uv.2.2 _ q _ (cN.mpr ⟨kvs[i],?_,rfl⟩) rfl;rw[List.drop_eq_getElem_cons gc];exact fY
  rw[stored_new px,show kvs.take i++[(kvs[i].1,kvs[i].2)]=kvs.take (i+1) by rw[List.take_succ,Qy];rfl] at hd2;refine cG ⟨plainId_quiet CZ _,bY (i+1) _ _ _ (by omega) gc (jj.frame e3 λc o ax e=>?_) hd2 λbE alR IX Hk=>k9 bE alR (λc o c6 dv fl asy jd e=>IX c o c6 dv fl asy jd ?_) Hk⟩
  ·exact (QK.2 c ax).trans e
  ·exact (QK.2 c c6).trans (aC c o c6 dv fl asy jd e)
def aoe{kvs:List (K×ak)}{Q:ak->aP->Prop}(cK:A.handled=none)(D:ZipApart z TI b9 bT bW bZ b1)(st:rC s.heap.objs.size z TI b9 bT bW bZ b1 b2 cm xs ys 0 s.heap)(ar:fv s.heap z TI b9 .none (.bool false))(uv:(kvs.map (·.1)).Nodup)(hlen:kvs.length=min xs.size ys.size)(hsz:kvs.length<=b8)
  (sg:∀(j:Nat) (dw:K×ak),kvs[j]?=some dw->∃key,xs[j]?=some key/\knd.is dw.1 key=true/\ys[j]?=some dw.2)
  (h:∀(h':bX) (tk:Nat),h'.DictOf knd s.heap.objs.size kvs->(∀c o,c≠z->c≠b9->c≠bT->c≠bW->s.heap.get? c=some o->h'.get? c=some o)->Q (.ref s.heap.objs.size) {s with heap:=h',toks:=tk}):
  bD (bV prog w) A (call (.type "dict") [.ref z]) Q E s:=by
 obtain⟨fc,⟨a,b,gL⟩,aQ,a7,_⟩:=id st;have qc:z<s.heap.objs.size:=c0 ar;have e3:∀c∈[z,TI,b9,bT,bW,bZ,b1],s.heap.objs.size≠c:=by
  obtain⟨dK,aG,_⟩:=aQ.1.obj;obtain⟨fH,aS,_⟩:=a7.1.obj;have a1:=c0 fc;have a2:=c0 gL;have m9:=c0 aG;have o9:=c0 aS;have wc:=aQ.2.lt;have wd:=a7.2.lt;intro c ax;simp only[asu,eu,or_false] at ax;rcases ax with rfl|rfl|rfl|rfl|rfl|rfl|rfl
  ·exact hS qc
  ·exact hS a1
  ·exact hS a2
  ·exact hS m9
  ·exact hS o9
  ·exact hS wc
  ·exact hS wd
 refine callType_codes (Q₁:=λobj dk=>obj=.ref s.heap.objs.size/\dk={s with heap:=s.heap.push {cls:=.type "dict",data:=.dict #[]} }) F.kt_called_dict (F.kt_typeCall_dict_1 _) F.entry_dict_init (kt_code_dict_new _ ⟨rfl,rfl⟩) ?_
 rintro obj dk ⟨rfl,rfl⟩;have Gq:(s.heap.push {cls:=.type "dict",data:=.dict #[]}).DictOf knd s.heap.objs.size []:=Heap.DictOf.new s.heap;have sl:fv (s.heap.push {cls:=.type "dict",data:=.dict #[]}) z TI b9 .none (.bool false):=c8 _ ar;refine⟨Gq.typeIs,F.args_dict_init_2 _ _,?_⟩;unfold Builtin.«dict.__init__»;refine a3 ?_;unfold Builtin.Dict.selfAndRest;refine a3 (wpAny_notOrdered_dict Gq.typeIs ?_);show bD _ _ (pure (s.heap.objs.size,[Value.ref z])) _ _ _;refine cG ?_;show bD _ _ (Builtin.Dict.updateFrom "dict.__init__" s.heap.objs.size (.ref z) [] .none) _ _ _;unfold Builtin.Dict.updateFrom;refine a3 (wpAny_typeOf (show Shared.TypeIs _ (.ref z) "zip" from ⟨_,sl,rfl⟩) ?_);rw[if_pos (by decide)];refine a3 (apT sl (by simp[cK]) λai Li dB=>?_);have qE:IsZip ai z TI b9 .none:=dB _ _ sl;simp only[Option.isNone_none,if_true];refine a3 (wpAny_rule (a3 (wpAny_pyIter_zip (s:={s with heap:=ai,toks:=Li}) qE (cG ⟨plainId_quiet CZ _,?_⟩))));have aC:∀c o,s.heap.get? c=some o->ai.get? c=some o:=λc o e=>dB _ _ (c8 _ e);refine am' (knd:=knd) (by simp[cK]) D s.heap.objs.size e3 kvs uv hlen hsz sg (kvs.length - 0) 0 _ 0 _ (by omega) (asH _) (st.frame e3 λc o _ e=>aC c o e) (by simpa using Gq.at λo e=>dB _ _ e) λh' tk IX Hk=>⟨rfl,h h' tk Hk λc o dv fl asy jd e=>?_⟩;exact IX c o (fh (c0 e)) dv fl asy jd (aC c o e)
end
end
section
variable [cV]
def Sy{n bZ b1:Nat}(af:bZ<n)(ai:b1<n):ZipApart (n+4) (n+2) (n+3) n (n+1) bZ b1:=by constructor <;> (show (_:Nat)≠_) <;> omega
section
variable {X:bu}{a b:bx}{f g:bl}{p ej pos mI:Pos}
def jU:List bG.Key->List V->List (bG.Key×V)
|k::bp,v::vs=>(k,v)::jU bp vs
|_,_=>[]
theorem Ui:∀(bp:List bG.Key) (vs:List V),(jU bp vs).length=min bp.length vs.length
| [],vs=>by simp[jU]
|k::bp,[]=>by simp[jU]
|k::bp,v::vs=>by simp only[jU,d_,Ui bp vs];omega
theorem Nb:∀{bp:List bG.Key} {vs:List V} {us:List ak},Vals vs us->g9 (jU bp vs) ((bp.zip us))
| [],vs,us,_=>by
  rw[show jU [] vs=[] from rfl,List.zip_nil_left];exact .nil
|k::bp,_,_,.nil=>.nil
|k::bp,_,_,.cons r t=>.cons ⟨rfl,r⟩ (Nb t)
def aon(X:bu){bp:List bG.Key}{us:List ak}{xs:List ak}(hx:Vals (bp.map eo) xs)(j:Nat)(dw:bG.Key×ak)(h:(bp.zip us)[j]?=some dw):∃key,xs.toArray[j]?=some key/\ry dw.1 key=true/\us.toArray[j]?=some dw.2:=by
 rw[List.getElem?_zip_eq_some] at h;obtain⟨af,ai⟩:=h;obtain⟨u,b4,dH⟩:=hx.get (i:=j) (x:=eo dw.1) (by rw[kQ,af];rfl);refine⟨u,by simpa using b4,DK (P:=X.prog) (w:=X.w) dH,by simpa using ai⟩
noncomputable def Zu(K:bb)(cj:f7):TE:=λσ H Q=>cj σ H λvs H1=>∃bZ b1 bp ys,vs=[.ref bZ,.ref b1]/\fP K H1 bZ (bp.map eo)/\cX K H1 b1 ys/\((jU bp ys).map (·.1)).Nodup/\(jU bp ys).length<=1000/\∀q,H1 q=none->Q (.ref q) (upd H1 q (.fx (jU bp ys)))
def anY{cj:f7}(ax:X.calm=true)(hd:X.mg "dict"=none)(ar:X.mg "zip"=none)(au:hJ X [a,b] cj)(bf:ez X "dict")(Hp:ez X "zip")(ps:bo [a,b] X.env=(false,eval a X.env)::bo [b] X.env)(Hw:(dp mI (bo [b] X.env)).any (·.1)=false)
  (he:bo [.Call (.Name "zip" ej) [a,b] [] mI] X.env=(false,eval (.Call (.Name "zip" ej) [a,b] [] mI) X.env)::bo [] X.env) (hpl:(dp pos (bo [] X.env)).any (·.1)=false):
  bR X (.Call (.Name "dict" p) [.Call (.Name "zip" ej) [a,b] [] mI] [] pos) (Zu X.K cj):=by
 intro ah s σ H Q I h;refine sS (p7 I bf hd PyProof.Rows.boot_dict ?_);refine uU ?_ he hpl;rw[he];show bD _ _ (spliced ((false,eval (.Call (.Name "zip" ej) [a,b] [] mI) X.env)::dp pos (bo [] X.env))) _ _ s;refine Calls.spliced_cons (sS (p7 I Hp ar PyProof.Rows.boot_zip (uU (cq (au mI ah s σ H _ I h) λus s1 ⟨vs,H1,a8,a6,aQ⟩=>?_) ps Hw)));obtain⟨bZ,b1,bp,ys,rfl,mB,nx,uv,hle,q⟩:=aQ;obtain⟨Lm,as9,rfl,aG,aS⟩:=a6.two;cases aG;cases aS;obtain⟨its,b0,pl,sl⟩:=a8.list mB;obtain⟨hc,pM,KL,qE⟩:=a8.tuple nx;have ei:gx true s1.heap bZ its.toArray:=pl.isList;have dB:gx false s1.heap b1 hc.toArray:=KL;refine T4 ei dB λh' wO fc gL uo uq hsz aR=>Calls.spliced_nil ?_;have qA:bp.length=its.length:=by have:=b0.length;simpa using this
 have uu:ys.length=hc.length:=pM.length;have hlen:(bp.zip hc).length=(jU bp ys).length:=by rw[Ui,List.length_zip,uu]
 have adS:(bp.zip hc).map (·.1)=(jU bp ys).map (·.1):=(U' (Nb pM)).symm;have big:=a8.big;have Bg:h'.objs.size=s1.heap.objs.size+5:=hsz;refine aoe (knd:=hl X.prog X.w) (kvs:=bp.zip hc) (s:={s1 with heap:=h'}) (a8.ok.hd ax) (Sy ei.lt dB.lt) ⟨fc,⟨_,_,gL⟩,⟨uo,ei.at λo e=>aR _ o e⟩,⟨uq,dB.at λo e=>aR _ o e⟩,.inl wO⟩ wO (by rw[adS];exact uv) (by rw[List.length_zip,d0,d0,qA]) (by rw[hlen,mT];omega) (λj dw e=>aon X b0 j dw e) λai tk hd2 pH=>?_;have keep:∀c o,s1.heap.get? c=some o->ai.get? c=some o:=λc o e=>by
  have ax:c<s1.heap.objs.size:=c0 e;have ne:∀m:Nat,c≠s1.heap.objs.size+m:=λm=>fh (jK ax (sU _ m));exact pH c o (ne 4) (ne 3) (ne 0) (ne 1) (aR c o e)
 have J4:s1.heap.objs.size<=h'.objs.size:=by rw[Bg];exact sU _ _
 refine⟨.ref h'.objs.size,_,MF (s:=s1) a8 (o:=.fx (jU bp ys)) (d':=s1.drawn) (t':=tk) keep J4 ⟨by rw[mT];omega,?_,bp.zip hc,Nb pM,hd2⟩,rfl,q _ (a8.ck.fresh J4)⟩
 rw[beq_eq_false_iff_ne];exact hS (jK big J4)
variable {c C i j:Nat}{ns:List Str}{fn:Str}{o:bx}{apos:Pos}
theorem Uj{K:bb}{F:asq->Prop}{H:aE}:∀{lk lv:List T} {kvs:List (D.Key×T)} {ws ys:List V},rq lk lv=some kvs->bz K F H lk ws->bz K F H lv ys->(∀t∈lk,∃k,keyOf t=some k)->∃bp:List bG.Key,ws=bp.map eo/\ed K F H kvs (jU bp ys)/\(jU bp ys).map (·.1)=kvs.map (·.1)
| [],lv,kvs,ws,ys,e,af,ai,_=>by
  cases e
  simp only[bz] at af;subst af;exact⟨[],rfl,rfl,rfl⟩
|t::lk,[],kvs,ws,ys,e,af,ai,au=>by
  cases e
  simp only[bz] at af ai;subst ai;obtain⟨v,r,rfl,q,z⟩:=af;obtain⟨k,aR⟩:=au t (by simp);have bq:v=eo k:=tB (O:=λ_=>False) aR (.inl q);have key:∀{lk:List T} {r:List V},bz K F H lk r->(∀t∈lk,∃k,keyOf t=some k)->∃bp:List bG.Key,r=bp.map eo:=by
   intro lk
   induction lk with
   |nil=>
    intro r h _;simp only[bz] at h;exact⟨[],h⟩
   |cons t lk bY=>
    intro r h au;simp only[bz] at h;obtain⟨v,b_,rfl,q,z⟩:=h;obtain⟨k,aR⟩:=au t (by simp);obtain⟨bp,rfl⟩:=bY z λu b4=>au u (di _ b4);exact⟨k::bp,by rw[tB (O:=λ_=>False) aR (.inl q)];rfl⟩
  obtain⟨bp,rfl⟩:=key z λu b4=>au u (di _ b4);exact⟨k::bp,by rw[bq];rfl,rfl,rfl⟩
|t::lk,u::lv,kvs,ws,ys,e,af,ai,au=>by
  simp only[rq,b7,d7] at e;obtain⟨k,aR,r,jw,rfl⟩:=e;simp only[bz] at af ai;obtain⟨v,a6,rfl,aQ,kU⟩:=af;obtain⟨w,b',rfl,a7,gP⟩:=ai;obtain⟨bp,rfl,kH,A3⟩:=Uj jw kU gP λu b4=>au u (di _ b4);exact⟨k::bp,by rw[tB (O:=λ_=>False) aR (.inl aQ)];rfl,⟨w,_,rfl,a7,kH⟩,by simp[jU,A3]⟩
def U0(k:fu X.K c C ns)(ax:X.calm=true)(hd:X.mg "dict"=none)(ar:X.mg "zip"=none)(a9:bR X o (hR i))(au:dd X a f)(ab:dd X b g){Gu:Pos}(bJ:ns[j]?=some fn:=by rfl)(bf:ez X "dict":=by rfl)(Hp:ez X "zip":=by rfl)
  (ps:bo [a,b] X.env=(false,eval a X.env)::bo [b] X.env:=by rfl) (adJ:bo [b] X.env=(false,eval b X.env)::bo [] X.env:=by rfl) (Hw:(dp mI (bo [b] X.env)).any (·.1)=false:=by rfl)
  (he:bo [.Call (.Name "zip" ej) [a,b] [] mI] X.env=(false,eval (.Call (.Name "zip" ej) [a,b] [] mI) X.env)::bo [] X.env:=by rfl) (hpl:(dp Gu (bo [] X.env)).any (·.1)=false:=by rfl)
  (asr:kh (.Call (.Name "dict" p) [.Call (.Name "zip" ej) [a,b] [] mI] [] Gu) (some (.Attribute o fn apos)) pos.line X.env=pure false:=by rfl):
  gF X (.Assign [.Attribute o fn apos] (.Call (.Name "dict" p) [.Call (.Name "zip" ej) [a,b] [] mI] [] Gu) pos) (vW c i j f g):=
 hV (NK a9 (anY ax hd ar (i_ au (i_ ab km adJ) ps) bf Hp ps Hw he hpl) asr) λD σ H ⟨aD,E,O,F,ε,o,r,e,bL⟩=>by
 simp only[vW,b7] at e;obtain⟨tk,ac7,asC,ac8,e⟩:=e;split at e
 next lk lv=>
  simp only[b7] at e;obtain⟨kvs,lP,e⟩:=e;split at e
  next Qs=>
   simp only[d7] at e;obtain⟨ε',es,rfl⟩:=e;refine⟨aD,E,O,F,ε,_,r,ac7,λv1 aY H1 aM aQ=>⟨aD,E,O,aY,ε,_,r.ext aM,ac8,λv2 dq bk bK a7=>?_⟩⟩;obtain⟨bZ,ws,rfl,qA,qC⟩:=(aQ.ext bK).lst;obtain⟨b1,ys,rfl,uu,sk⟩:=a7.tup;obtain⟨bp,rfl,kH,A3⟩:=Uj lP qC sk λt aZ=>Option.isSome_iff_exists.mp (Qs.2.2 t aZ);have pS:=aM.trans bK;refine⟨bZ,b1,bp,ys,rfl,.inl qA,uu,by rw[A3];exact Qs.1,by have:=congrArg List.length A3;simp only[eT] at this;omega,λq bg=>?_⟩;have gz:=Ext.laid (o:=.fx (jU bp ys)) pS.cy bg;have kd:=pS.trans gz;have a6:=r.ext kd;have px:H q=none:=pS.same.none bg;have j8:¬dq q:=λz=>by
    obtain⟨o,e⟩:=pS.cy q z;rw[bg] at e;cases e
   have hy:=es;unfold gw at hy;simp only[b7] at hy;obtain⟨⟨m,aA⟩,aH,_⟩:=hy;obtain⟨ao,vs,bj,af,hx,aB,au,_⟩:=nM k a6 aH;have hold:=UJ r kd px;obtain⟨aC,b'⟩:=a6.Bd (s:=.hu kvs) (v:=.ref q) k aH af au es ⟨q,_,rfl,ew,ed.aC gz.aC kH⟩ (λd hd=>by
    have:d=q:=by simpa [dP,ie] using hd
    subst this;exact⟨j8,r.fr _ px,hold i _ _ (nI aH) af,λk u w _ e' _ aR=>hold k u w e' aR⟩) hx bJ
   refine⟨_,af,ao,C,bj,_,rfl,hx,k.cls,k0 k bJ,?_,bL σ dq _ (kd.aC.trans aC) b'⟩
   have:=k.z1;simp only[List.length_zip];omega
  next=>cases e
 next=>cases e
end
end
section
variable [cV]
open AutoSeq1 (wpAny_loadPart')
noncomputable def w8:T->T->Option T
|.tuple xs,.int k=>if 2<=k/\k<1000/\xs≠[]/\xs.length*k.toNat<=big then some (.tuple (dS k.toNat xs).flatten) else none
|.list xs,.int k=>if 0<=k/\k<1000/\xs.length*k.toNat<=big then some (.list (dS k.toNat xs).flatten) else none
|_,_=>none
def amk:fillsNumberSlot (.type "tuple") "mul"=pure false:=
 PySem.fillsNumberSlot_seq (id:="tuple.__mul__") (r:=some (.builtin "tuple.__rmul__")) F.slot_tuple_mul.lookup (by decide +kernel) F.slot_tuple_rmul.lookup (by decide +kernel)
def amR:seqRepeat? (.type "tuple")=pure (some (.builtin "tuple.__mul__")):=by
 unfold seqRepeat?;rw[PySem.seqSlot_of (T:="tuple") (name:="__mul__") (id:="tuple.__mul__") F.slot_tuple_mul.lookup (by decide +kernel),PySem.seqSlot_of (T:="tuple") (name:="__rmul__") (id:="tuple.__rmul__") F.slot_tuple_rmul.lookup (by decide +kernel)];rfl
def anv(a:Int)(t:Tok)(l:asq)(its:Array ak)(n:Nat)(e_:Option asq)(c5:Array (Option ak)):Meets (Builtin.«int.__rmul__» ⟨[.int a t,.ref l],[]⟩) (λ_ R s=>s.heap.get? l=some {cls:=.type "tuple",dict:=e_,data:=.seq its n,slots:=c5}/\R (.ok (.ret Value.notImplemented)) s):=
 .of_wp λprog w A R s h=>by
  obtain⟨aF,g,d,tk,os⟩:=s;obtain⟨aB,h⟩:=h
  wp_walk
  exact⟨_,rfl,h⟩
def an2(l:asq)(its:Array ak)(n:Nat)(e_:Option asq)(c5:Array (Option ak))(k:Int)(t:Tok)(af:2<=k)(ai:k<1000)(kD:its.isEmpty=false)(ar:its.size*k.toNat<=b8):
  Meets (Builtin.«tuple.__mul__» ⟨[.ref l,.int k t],[]⟩) (λ_ R s=>s.heap.get? l=some {cls:=.type "tuple",dict:=e_,data:=.seq its n,slots:=c5} /\
   R (.ok (.ret (.ref s.heap.objs.size))) {s with heap:=s.heap.push {cls:=.type "tuple",data:=.seq ((dS k.toNat its).foldl (·++·) #[])} }):=
 .of_wp λprog w A R s h=>by
  obtain⟨aF,g,d,tk,os⟩:=s;obtain⟨aB,h⟩:=h;have c6:¬(decide (k < -(2 ^ 63)) || decide (k >= 2 ^ 63))=true:=by simp;omega
  have dv:¬(its.isEmpty || k==1)=true:=by simp[kD];omega
  have fl:¬(decide (k<=0) || its.isEmpty)=true:=by simp[kD];omega
  wp_walk using wpAny_loadPart' aB
  have QR:(its.size:Int)*k=((its.size*k.toNat:Nat):Int):=by
   have:(k.toNat:Int)=k:=Int.toNat_of_nonneg (by omega);rw[<- this]
   push_cast
   simp
  have asy:¬((its.size:Int)*k > (2 ^ 63 - 1) / 8):=by
   rw[QR];rw[mT] at ar;omega
  have jd:¬Builtin.Tuple.tupleTooMany ((its.size:Int)*k)=true:=by
   unfold Builtin.Tuple.tupleTooMany;rw[QR,decide_eq_true_iff];omega
  rw[if_neg c6]
  wp_walk using wpAny_loadPart' aB
  rw[if_neg dv,if_neg fl,if_neg asy,if_neg jd];unfold sO;refine a3 (pX (cG ⟨_,rfl,h⟩) ?_);have e:=foldl_rep its.toList k.toNat [];rw[q3] at e;show (List.foldl _ #[] (dS k.toNat its)).size<=b8;have bN:List.foldl (λaM bK=>aM++bK) #[] (dS k.toNat its)=(dS k.toNat its.toList).flatten.toArray:=by simpa using e
  rw[bN,d0,len_rep,q1,Nat.mul_comm];exact ar
section
variable {X:bu}{a b:bx}{f g:bl}{pos:Pos}
def aq1:eg X (kT .Mult) (λx y H Q=>∃a k xs,x=.ref a/\y=.int k/\cX X.K H a xs/\xs≠[]/\2<=k/\k<1000/\xs.length*k.toNat<=b8/\∀p,H p=none->Q (.ref p) (upd H p (.tup (dS k.toNat xs).flatten))):=by
 intro ah s σ H x y v u Q I aL bt h;obtain⟨l,k,xs,rfl,rfl,gW,kD,af,ai,ar,q⟩:=h;cases aL;obtain⟨t,rfl⟩:=bt;obtain⟨its,r,pl,_⟩:=I.tuple gW;have aB:=r.length;obtain⟨⟨cls,e_,data,c5⟩,aH,ax,n,hd⟩:=id pl;simp only at ax hd;subst ax hd;have adK:its.toArray.isEmpty=false:=by
  cases its with
  |nil=>
   cases xs with
   |nil=>exact absurd rfl kD
   |cons x xs=>simp at aB
  |cons=>rfl
 refine wpAny_binaryOp_repeat_ref (T:="tuple") (U:="int") (by decide) ⟨_,aH,rfl⟩ (λs'=>typeIs_int s' k t) amk F.fills_int_mul F.slot_int_rmul amR F.slot_int_index.lookup
  (l8 F.slot_int_rmul (typeIs_int s k t) F.entry_int_rmul (F.args_int_rmul_2 _ _) (anv k t l its.toArray n e_ c5)
   ⟨aH,rfl,⟨_,aH,rfl⟩,l8 F.slot_tuple_mul ⟨_,aH,rfl⟩ F.entry_tuple_mul (F.args_tuple_mul_2 _ _) (an2 l its.toArray n e_ c5 k t af ai adK (by rw[d0,<- aB];exact ar)) ⟨aH,?_⟩⟩)
 have e:List.foldl (λaM bK=>aM++bK) #[] (dS k.toNat its.toArray)=(dS k.toNat its).flatten.toArray:=by simpa using foldl_rep its k.toNat []
 have qE:(dS k.toNat xs).flatten.length<=b8:=by rw[len_rep,Nat.mul_comm];exact ar
 refine⟨.ref s.heap.objs.size,upd H s.heap.objs.size (.tup (dS k.toNat xs).flatten),I.laid (t':=s.toks) (λb u e=>c8 _ e) (dT _) ⟨qE,_,r.rep k.toNat,⟨_,gA _ rfl,rfl,0,?_⟩⟩,rfl,q _ I.fresh⟩
 exact congrArg (λz=>Data.seq z 0) e
def aq2:eg X (kT .Mult) (λx y H Q=>∃l k xs,x=.ref l/\y=.int k/\fN H l (.lst xs)/\0<=k/\k<1000/\xs.length*k.toNat<=b8/\∀p,H p=none->Q (.ref p) (upd H p (.lst (dS k.toNat xs).flatten))):=by
 intro ah s σ H x y v u Q I aL bt h;obtain⟨l,k,xs,rfl,rfl,gW,af,ai,ar,q⟩:=h;cases aL;obtain⟨t,rfl⟩:=bt;obtain⟨z,its,n,r,aB,e⟩:=Inv.uy I gW;have hlen:its.toArray.size*k.toNat<=b8:=by rw[d0,<- aB];exact ar
 have adB:¬its.toArray.size*k.toNat > (2 ^ 63 - 1) / 8:=by
  have:(b8:Nat)<=(2 ^ 63 - 1) / 8:=by decide
  omega
 have adN:¬(!Builtin.List.listFitsIndex k)=true:=by rw[fitsIndex_both (by omega) (by omega)];exact ou
 have adX:¬Builtin.List.listTooLong (its.toArray.size*k.toNat)=true:=by rw[apS hlen];exact ou
 have f0:∀m:Nat,List.foldl (λaM bK=>aM++bK) #[] (dS m its.toArray)=(dS m its).flatten.toArray:=λm=>by simpa using foldl_rep its m []
 have px:List.foldl (λaM bK=>aM++bK) #[] (dS (if its.toArray.isEmpty=true then 0 else k.toNat) its.toArray)=(dS k.toNat its).flatten.toArray:=by
  rw[f0];cases its with
  |nil=>simp
  |cons a b_=>rw[if_neg (by simp)]
 refine wpAny_binaryOp_repeat_ref (T:="list") (U:="int") (by decide) ⟨_,e,rfl⟩ (λs'=>typeIs_int s' k t) noFill_list_mul F.fills_int_mul F.slot_int_rmul repeat_list F.slot_int_index.lookup
  (l8 F.slot_int_rmul (typeIs_int s k t) F.entry_int_rmul (F.args_int_rmul_2 _ _) (int___rmul___int_list k t l its.toArray n) ⟨e,rfl,⟨_,e,rfl⟩,l8 F.slot_list_mul ⟨_,e,rfl⟩ F.entry_list_mul (F.args_list_mul_2 _ _) (AutoListH.list___mul___list_int_3 l its.toArray n k t adN adB adX) ⟨e,?_⟩⟩)
 rw[px];exact⟨.ref _,_,I.sx (t':=s.toks) (r.rep k.toNat) (by rw[len_rep,Nat.mul_comm];exact ar),rfl,q _ I.fresh⟩
theorem bz.rep{K:bb}{F:asq->Prop}{H:aE}{ts:List T}{vs:List V}(h:bz K F H ts vs):∀k:Nat,bz K F H (dS k ts).flatten (dS k vs).flatten
|0=>bz.nil
|k+1=>by
  rw[qZ,qZ,sQ,sQ];exact h.append (bz.rep h k)
def ZN(au:dd X a f)(ab:dd X b g):cA X (.BinOp a .Mult b pos) (ag w8 f g):=dn (rv (aq1.or aq2) au ab) (nK (by
 intro O F H x y t gy fW Q d aL bt e k;unfold w8 at e;split at e
 next xs n=>
  split at e
  next ar=>
   cases e
   obtain⟨rT,vs,rfl,asr,aw⟩:=aL.tup;rw[bt.int];refine .inl ⟨rT,_,vs,rfl,rfl,asr,λz=>?_,ar.1,ar.2.1,by rw[ko,<- aw.length];exact ar.2.2.2,λp aF=>?_⟩
   ·subst z;exact ar.2.2.1 (List.eq_nil_of_length_eq_zero (by rw[aw.length];rfl))
   ·have aM:=Ext.laid (o:=.tup (dS n.toNat vs).flatten) d aF;refine k _ F _ aM ?_;simp only[Rep];exact⟨p,_,rfl,cX.of ew,(aw.rep _).ext aM⟩
  next=>cases e
 next xs n=>
  split at e
  next ar=>
   cases e
   obtain⟨rT,vs,rfl,asr,aw⟩:=aL.lst;rw[bt.int];refine .inr ⟨rT,_,vs,rfl,rfl,asr,ar.1,ar.2.1,by rw[ko,<- aw.length];exact ar.2.2,λp aF=>?_⟩;have aM:=Ext.wZ (o:=.lst (dS n.toNat vs).flatten) d aF;refine k _ _ _ aM ?_;simp only[Rep];exact⟨p,_,rfl,.inr rfl,.inl ew,(aw.rep _).ext aM⟩
  next=>cases e
 ·cases e))
end
end
section
variable [cV]
section
variable {X:bu}{a b c:bx}{f g h:bl}{pos:Pos}
def aoY:∀σ H Q,xo X.K (chain oLe oLe f g h) σ H Q->NB (λx y H Q=>lg (λi j=>.cC (decide (i<=j))) x y H Q\/∃i j,x=.str i/\y=.str j/\Q (.cC (!strLt j i)) H) (λx y H Q=>lg (λi j=>.cC (decide (i<=j))) x y H Q\/∃i j,x=.str i/\y=.str j/\Q (.cC (!strLt j i)) H) (qS X.K f) (qS X.K g) (qS X.K h) σ H Q:=
 λσ H Q ⟨aD,aO,O,F,ε,t,r,e,k⟩=>by
 simp only[chain,b7] at e;obtain⟨x,ex,y,eV,z,lP,e⟩:=e;refine⟨aD,aO,O,F,ε,x,r,ex,λgy aY H1 aM aL=>⟨aD,aO,O,aY,ε,y,r.ext aM,eV,λfW dq bk bK bt=>?_⟩⟩;refine asW (X:=X) O dq bk x y z gy fW _ bK.cy (aL.ext bK) bt lP λv iL dj gz cL=>?_;split at e
 ·simp only[Rep] at cL;subst cL;simp only[b7] at e;obtain⟨w,jx,ep⟩:=e;refine⟨true,rfl,sr ⟨aD,aO,O,iL,ε,w,((r.ext aM).ext bK).ext gz,jx,λjJ il f3 i9 iz=>?_⟩⟩;exact asW (X:=X) O il f3 y w t fW jJ _ i9.cy ((bt.ext gz).ext i9) iz ep λv lK hZ uP lV=>k v lK hZ ((((aM.trans bK).trans gz).trans i9).trans uP) lV
 ·simp only[Rep] at cL;subst cL;cases e;exact⟨false,rfl,sq (k _ iL dj ((aM.trans bK).trans gz) (by simp[Rep]))⟩
 ·cases e
def arJ(au:dd X a f)(ab:dd X b g)(ax:dd X c h)(hm:lastMarks [.LtE,.LtE] [b,c]=false:=by with_unfolding_all rfl):ju X (.Compare a [.LtE,.LtE] [b,c] pos) (bB (chain oLe oLe f g h)):=
 tK (apA (asY.or td) (asY.or td) au ab ax hm) (Zv aoY)
end
section
variable {X:bu}{c C i j:Nat}{ns:List Str}{f:Str}{o:bx}{pos apos:Pos}
def VD(k:fu X.K c C ns)(a9:bR X o (hR i)){j1 dE:Pos}(bJ:ns[j]?=some f:=by rfl)(ab:ij o f X.env (eval o X.env)=eval o X.env:=by rfl)
  (jA:ij (.Attribute o f apos) "pop" X.env (eval (.Attribute o f apos) X.env)=eval (.Attribute o f apos) X.env:=by rfl) (jC:(j1.endLine==dE.line)=true:=by rfl)
  (ny:kh (.Call (.Attribute (.Attribute o f apos) "pop" j1) [] [] dE) none pos.line X.env=pure false:=by rfl):
  gF X (.Expr (.Call (.Attribute (.Attribute o f apos) "pop" j1) [] [] dE) pos) (uB c i j):=
 hV (yq (VM PySem.F.plainAttrs_list PySem.F.slot_list_pop PySem.F.type_list_pop VY (asM a9 ab) jA jC) ny) λD σ H ⟨aD,aO,O,F,ε,o,r,e,bL⟩=>by
 simp only[uB,b7,d7] at e;obtain⟨ts,fG,t,bF,ε',es,rfl⟩:=e;obtain⟨m,aA,aH,asr⟩:=MI fG;obtain⟨a,vs,bj,v,af,hx,aB,au,bq,⟨b,us,dz,ab,eR⟩,_⟩:=mZ k r aH asr bJ;subst dz;rw[List.getLast?_eq_getElem?] at bF;obtain⟨w,hw,iz⟩:=eR.get bF;refine⟨_,af,a,C,bj,_,_,rfl,hx,k.cls,k0 k bJ,aB,.inl ⟨rfl,_,fP.of ab⟩,b,us,w,rfl,rfl,ab,by rw[<- eR.length];exact hw,?_⟩;obtain⟨aC,b'⟩:=r.w0 (s':=.own ts.dropLast) (o':=.lst us.dropLast) aH af au es asr bq (by simp[dP,ie]) rfl λaC=>⟨b,_,rfl,ew,by
  have:=(eR.aC aC).take (ts.length - 1);rw[<- List.dropLast_eq_take,eR.length,<- List.dropLast_eq_take] at this;exact this⟩
 exact bL σ F _ aC b'
end
end
section
abbrev t0:cV:=⟨[],λ_=>[],λ_=>none⟩
def eH(ns:List Int):T:=.list (ns.map .int)
def Ra(K:bb):Bool:=K.all λp=>match p.2.cls with
|.type t=>t != "list"
|_=>true
theorem SP{α β:Type}[BEq α][LawfulBEq α]{a:α}{b:β}:∀{l:List (α×β)},l.lookup a=some b->(a,b)∈l
  | [],h=>by cases h
  | (x,y)::l,h=>by
    rw[mR] at h;split at h
    next q=>
      cases h
      have:a=x:=by simpa using q
      subst this;simp
    next=>exact di _ (SP h)
def aos{K:bb}{H:aE}{a:asq}{ns:List Int}{d:List T->Option T}(hN:Ra K=true)(hd:d [eH ns]=some (.bool true))(e3:fP K H a (ns.map V.int)):@spT t0 K 1 d [.ref a] H (λv _=>v=.cC true) λ_ _ _=>False:=by
 letI:=t0;rcases e3 with e3|⟨o,its,n,aR,ax,_⟩
 ·refine⟨rfl,λb=>b=a,[eH ns],.bool true,⟨?_,λp aF=>by cases aF⟩,bz.cons ?_ bz.nil,hd,λv aK aj x r=>by simpa [Rep] using r⟩
  ·rintro b rfl;rcases e3 with q|⟨u,q⟩
   ·exact⟨_,q⟩
   ·exact⟨_,q⟩
  ·simp only[eH,Rep];exact⟨a,_,rfl,rfl,e3,Tx ns⟩
 ·have:=List.all_eq_true.mp hN _ (SP aR);simp[ax] at this
def ars{t:cV}(aZ:t.dZ=[]){P:cJ}{w:cB}{K:bb}{mg:Str->Option ak}{base:bX}{k n:Nat}{f:asq}{fd:fX}{av:List Str}{d:List T->Option T}(F:eY P w K mg base eX k f fd av (@spT t K n d)):eY P w K mg base eX k f fd av (@spT t0 K n d):=by
 have r1:∀{F:asq->Prop} {H:aE},@gE t0 F H->@gE t F H:=λ{F H} h=>@gE.mk t F H (@gE.Gr t0 F H h) (λp aF=>by rw[aZ] at aF;cases aF);have d2:∀{F:asq->Prop} {H:aE},@gE t F H->@gE t0 F H:=λ{F H} h=>@gE.mk t0 F H (@gE.Gr t F H h) (λp aF=>by cases aF);refine F.imp λvs H Q E h=>?_;obtain⟨aB,F,ts,r,cy,q,e,mC⟩:=h;exact⟨aB,F,ts,r,r1 cy,q,e,λv aK aj x b0=>mC v aK aj (@Ext.mk t0 F H aK aj (@Ext.same t F H aK aj x) (@Ext.sub t F H aK aj x) (@Ext.new t F H aK aj x) (d2 (@Ext.cy t F H aK aj x))) b0⟩
end
section
variable [cV]
noncomputable def D0(K:bb)(a b:asq)(n m:Nat):k4:=
 ⟨λi H=>∃xs x ys y,cX K H a xs/\xs[i]?=some x/\cX K H b ys/\ys[i]?=some y/\xs.length=n/\ys.length=m,
  λi H x aj=>∃p u v,H p=none/\x=.ref p/\aj=upd H p (.tup [u,v])/\(∀xs,cX K H a xs->xs[i]?=some u)/\∀ys,cX K H b ys->ys[i]?=some v,
  λi H=>∃xs ys,cX K H a xs/\cX K H b ys/\xs.length=n/\ys.length=m/\(n<=i\/m<=i)⟩
noncomputable def Yt(z TI b9 bT bW bZ b1:asq)(n m i:Nat)(h:bX):Prop:=fv h z TI b9 .none (.bool false)/\IsPair h TI (.ref bT) (.ref bW)/\(∃a b,IsPair h b9 a b)/\h.IsTupleIter bT bZ i/\h.IsTupleIter bW b1 i/\i<=n/\i<=m
def apa{P:cJ}{w:cB}{K:bb}{es:List bx}{k:Nat}{pos:Pos}{z TI b9 bT bW bZ b1:asq}{n m:Nat}(D:ZipApart z TI b9 bT bW bZ b1):Turn P w K (.Tuple es k pos) (D0 K bZ b1 n m) [z,TI,b9,bT,bW] z (Yt z TI b9 bT bW bZ b1 n m) where
 mem:=by simp
 obj:=λi h st b ab=>by
  obtain⟨ar,fc,⟨a,c,gL⟩,af,ai,_⟩:=st;simp only[asu,eu,or_false] at ab;rcases ab with rfl|rfl|rfl|rfl|rfl
  ·exact⟨_,ar,λv q=>by cases (show Data.fields _=Data.cell v from q)⟩
  ·exact⟨_,fc,λv q=>by cases (show Data.seq _ _=Data.cell v from q)⟩
  ·exact⟨_,gL,λv q=>by cases (show Data.seq _ _=Data.cell v from q)⟩
  ·obtain⟨o,aH,_,hd⟩:=af;exact⟨o,aH,λv q=>by rw[hd] at q;cases q⟩
  ·obtain⟨o,aH,_,hd⟩:=ai;exact⟨o,aH,λv q=>by rw[hd] at q;cases q⟩
 keep:=λi h h' st bL=>by
  obtain⟨ar,fc,⟨a,c,gL⟩,af,ai,a9⟩:=st;exact⟨bL z (by simp) _ ar,bL TI (by simp) _ fc,⟨a,c,bL b9 (by simp) _ gL⟩,af.at λo q=>bL bT (by simp) o q,ai.at λo q=>bL bW (by simp) o q,a9⟩
 item:=by
  intro X gb hw gX ax i ah s σ H E I hf st bf;subst gb hw gX;obtain⟨xs,x,ys,y,mB,hx,nx,bw,a9,hm⟩:=bf;obtain⟨its,b0,sE,_⟩:=I.tuple mB;obtain⟨hc,pM,ej,_⟩:=I.tuple nx;obtain⟨u,b4,dH⟩:=b0.get hx;obtain⟨v,bq,ajT⟩:=pM.get bw;obtain⟨ar,fc,⟨a,c,gL⟩,af,ai,ur,adP⟩:=st;have hi:i<its.toArray.size:=by
   rw[d0];exact (hj.mp b4).1
  have bJ:i<hc.toArray.size:=by
   rw[d0];exact (hj.mp bq).1
  have adY:=b0.length;have adZ:=pM.length;have eF:s.TypeIs (.ref z) "zip":=⟨_,ar,rfl⟩;have qc:z<s.heap.objs.size:=c0 ar;have D5:b9<s.heap.objs.size:=c0 gL;have Ys:TI<s.heap.objs.size:=c0 fc;have aes:bT<s.heap.objs.size:=by obtain⟨o,e,_⟩:=af;exact c0 e
  have aet:bW<s.heap.objs.size:=by obtain⟨o,e,_⟩:=ai;exact c0 e
  have cK:=I.ok.hd ax;unfold pyNext;refine a3 (wpAny_attempt (pW (name:=Str.ofString "__next__") eF F.slot_zip_next (ox F.slot_zip_next eF F.entry_zip_next ?_ (F.args_zip_next_1 _))));refine Uh (hK:=λi h=>h.IsTupleIter bT bZ i/\h.IsTuple bZ its.toArray) (h1:=λi h=>h.IsTupleIter bW b1 i/\h.IsTuple b1 hc.toArray) D (va (A:=X.A.in1) cK bT bZ D.l1i1 its.toArray) (va (A:=X.A.in1) cK bW b1 D.l2i2 hc.toArray) ar fc gL ⟨af,sE⟩ ⟨ai,ej⟩ hi bJ λh' mP Ls tk iX py pB Hd s1 s2 aF hsz aC=>cG ?_;have ex:mP=u:=by
   rw[<- Array.getElem?_toList,show (its.toArray).toList=its from rfl,b4] at iX;exact (fq iX).symm
  have eV:Ls=v:=by
   rw[<- Array.getElem?_toList,show (hc.toArray).toList=hc from rfl,bq] at py;exact (fq py).symm
  subst ex eV;refine⟨_,rfl,wpAny_letOwnedTupleGo_zip pB λhb qE hO=>?_⟩;have dB:∀b o,b≠z->b≠b9->b≠bT->b≠bW->s.heap.get? b=some o->hb.get? b=some o:=λb o b2 cm gI nZ q=>hO.extBut b o b2 (aC b o b2 cm gI nZ q);have fr:H s.heap.objs.size=none:=I.ck.fresh (dT _);have Hc:hb.get? s.heap.objs.size=some {cls:=.type "tuple",data:=.seq #[mP,Ls]}:=hO.extBut _ _ (hS qc) aF;obtain⟨sV,kU,gP,Lx,LH,LL⟩:=hf z (by simp);obtain⟨o0,dK,fH,Kx,Ky,Kz⟩:=hf b9 (by simp);obtain⟨f0,f1,f2,gJ,f4,gK⟩:=hf bT (by simp);obtain⟨n_,g1,g2,g3,r7,mx⟩:=hf bW (by simp);obtain⟨t0,_⟩:=hf TI (by simp);have qK:∀b o,H b=some o->b≠z/\b≠b9/\b≠bT/\b≠bW:=λb o q=>⟨λe=>(by rw[e,sV] at q;cases q),λe=>(by rw[e,o0] at q;cases q),λe=>(by rw[e,f0] at q;cases q),λe=>(by rw[e,n_] at q;cases q)⟩;have iS:∀b o,b∉[z,b9,bT,bW]->s.heap.get? b=some o->hb.get? b=some o:=λb o ab q=>by
   simp only[asu,eu,or_false,not_or] at ab;exact dB b o ab.1 ab.2.1 ab.2.2.1 ab.2.2.2 q
  have w3:∀b o,H b=some o->b∉[z,b9,bT,bW]:=λb o q=>by
   simp only[asu,eu,or_false,not_or];exact qK b o q
  have wK:e8 X.prog X.w (upd H s.heap.objs.size (.tup [x,y])) hb:=by
   intro b o q;by_cases ab:b=s.heap.objs.size
   ·subst ab;rw[ew] at q;cases q;exact⟨by show 2<=b8;decide,[mP,Ls],.cons dH (.cons ajT .nil),⟨_,Hc,rfl,_,rfl⟩⟩
   ·rw[cZ ab] at q;refine (I.ck b o q).kL (λc v dg d6=>iS c v ?_ d6) (λc d6=>?_) λc ys d6=>?_
    ·rcases dg with rfl|dg
     ·exact w3 _ _ q
     ·exact w3 _ _ dg
    ·rw[cZ (kj d6 fr)];exact d6
    ·rw[cZ (kj d6 fr)];exact d6
  have cx:bG.Inv X ah σ (upd H s.heap.objs.size (.tup [x,y])) {s with heap:=hb,toks:=tk}:=by
   refine I.step (g':=s.gens) (d':=s.drawn) (ch:=[z,b9,bT,bW]) (λb ab=>?_) (λb o _ _ dg q _=>iS b o dg q) (λb o _ _ dg q _=>⟨o.slots,iS b o dg q⟩) (λb o _ q n=>?_)
    (λb o dg q=>⟨o,iS b o dg q⟩) (λb ys q=>by rw[cZ (kj q fr)];exact q) (λb o u q=>by rw[cZ (kj q fr)];exact q) (λb av q=>⟨#[],by rw[cZ (kj q fr),q];simp⟩) (λm hm=>?_) wK I.bare
   ·simp only[asu,eu,or_false] at ab;rcases ab with rfl|rfl|rfl|rfl
    ·exact⟨Lx,kU,LH,LL⟩
    ·exact⟨Kx,dK,Ky,Kz⟩
    ·exact⟨gJ,f1,f4,gK⟩
    ·exact⟨g3,g1,r7,mx⟩
   ·rw[cZ (fh (c0 q))];exact n
   ·obtain⟨o,hy,ep,iO,r⟩:=hm;exact⟨o,hy,ep,dB _ o (Ne.symm kU) (Ne.symm dK) (Ne.symm f1) (Ne.symm g1) iO,r⟩
  refine⟨.ref s.heap.objs.size,_,cx,rfl,⟨s.heap.objs.size,x,y,fr,rfl,rfl,λws hw=>by rw[I.Bn hw mB];exact hx,λws hw=>by rw[I.Bn hw nx];exact bw⟩,⟨qE,hO.extBut _ _ D.TIz (aC _ _ D.TIz D.TITO D.TIi1 D.TIi2 fc),⟨_,_,hO.extBut _ _ D.TOz Hd⟩,s1.1.at λo q=>hO.extBut _ _ D.i1z q,s2.1.at λo q=>hO.extBut _ _ D.i2z q,?_,?_⟩,λb ab=>?_⟩
  ·rw[d0] at hi;omega
  ·rw[d0] at bJ;omega
  ·simp only[asu,eu,or_false] at ab;rcases ab with rfl|rfl|rfl|rfl|rfl
   ·rw[cZ (fh qc)];exact sV
   ·rw[cZ (fh Ys)];exact t0
   ·rw[cZ (fh D5)];exact o0
   ·rw[cZ (fh aes)];exact f0
   ·rw[cZ (fh aet)];exact n_
 done:=by
  intro X gb hw gX ax i ah s σ H E I hf st bf;subst gb hw gX;obtain⟨xs,ys,mB,nx,a9,hm,asr⟩:=bf;obtain⟨its,b0,sE,_⟩:=I.tuple mB;obtain⟨hc,pM,ej,_⟩:=I.tuple nx;obtain⟨ar,fc,⟨a,c,gL⟩,af,ai,ur,adP⟩:=st;have adY:=b0.length;have adZ:=pM.length;have eF:s.TypeIs (.ref z) "zip":=⟨_,ar,rfl⟩;have cK:=I.ok.hd ax;have aR:i=its.toArray.size\/(i<its.toArray.size/\i=hc.toArray.size):=by
   rw[d0,d0];omega
  unfold pyNext;refine a3 (wpAny_attempt (pW (name:=Str.ofString "__next__") eF F.slot_zip_next (ox F.slot_zip_next eF F.entry_zip_next ?_ (F.args_zip_next_1 _))));refine Ug (hK:=λi h=>h.IsTupleIter bT bZ i/\h.IsTuple bZ its.toArray) (h1:=λi h=>h.IsTupleIter bW b1 i/\h.IsTuple b1 hc.toArray) D (va (A:=X.A.in1) cK bT bZ D.l1i1 its.toArray) (va (A:=X.A.in1) cK bW b1 D.l2i2 hc.toArray) ar fc gL ⟨af,sE⟩ ⟨ai,ej⟩ aR λh' e tk aC he=>?_;obtain⟨o,aH,dg⟩:=he;refine a3 (wpAny_isInstance (T:="StopIteration") (b:=true) ⟨o,aH,dg⟩ isSubtype_stop (cG ⟨rfl,?_⟩));obtain⟨sV,kU,gP,Lx,LH,LL⟩:=hf z (by simp);obtain⟨o0,dK,fH,Kx,Ky,Kz⟩:=hf b9 (by simp);obtain⟨f0,f1,f2,gJ,f4,gK⟩:=hf bT (by simp);obtain⟨n_,g1,g2,g3,r7,mx⟩:=hf bW (by simp);have iS:∀b o,b∉[z,b9,bT,bW]->s.heap.get? b=some o->h'.get? b=some o:=λb o ab q=>by
   simp only[asu,eu,or_false,not_or] at ab;exact aC b o ab.1 ab.2.1 ab.2.2.1 ab.2.2.2 q
  have w3:∀b o,H b=some o->b∉[z,b9,bT,bW]:=λb o q=>by
   simp only[asu,eu,or_false,not_or];exact⟨λe=>(by rw[e,sV] at q;cases q),λe=>(by rw[e,o0] at q;cases q),λe=>(by rw[e,f0] at q;cases q),λe=>(by rw[e,n_] at q;cases q)⟩
  have wK:e8 X.prog X.w H h':=by
   intro b o q;refine (I.ck b o q).kL (λc v dg d6=>iS c v ?_ d6) (λc d6=>d6) λc ys d6=>d6;rcases dg with rfl|dg
   ·exact w3 _ _ q
   ·exact w3 _ _ dg
  refine I.step (g':=s.gens) (d':=s.drawn) (ch:=[z,b9,bT,bW]) (λb ab=>?_) (λb o _ _ dg q _=>iS b o dg q) (λb o _ _ dg q _=>⟨o.slots,iS b o dg q⟩) (λb o _ q n=>n)
    (λb o dg q=>⟨o,iS b o dg q⟩) (λb ys q=>q) (λb o u q=>q) (λb av q=>⟨#[],by rw[q];simp⟩) (λm hm=>?_) wK I.bare
  ·simp only[asu,eu,or_false] at ab;rcases ab with rfl|rfl|rfl|rfl
   ·exact⟨Lx,kU,LH,LL⟩
   ·exact⟨Kx,dK,Ky,Kz⟩
   ·exact⟨gJ,f1,f4,gK⟩
   ·exact⟨g3,g1,r7,mx⟩
  ·obtain⟨o,hy,ep,iO,r⟩:=hm;exact⟨o,hy,ep,aC _ o (Ne.symm kU) (Ne.symm dK) (Ne.symm f1) (Ne.symm g1) iO,r⟩
 self:=λ_ _ _ _ _ st h=>wpAny_pyIter_zip (f0:=.none) st.1 h
def aew(K:bb)(cj:f7):TI:=λσ H R=>cj σ H λvs H1=>∃a b xs ys,vs=[.ref a,.ref b]/\cX K H1 a xs/\cX K H1 b ys/\R (D0 K a b xs.length ys.length) H1
section
variable {X:bu}{es:List bx}{k:Nat}{p pos ej:Pos}{a b:bx}{f g:bl}
def YH{cj:f7}(bf:ez X "zip")(hm:X.mg "zip"=none)(au:hJ X [a,b] cj)(asr:bo [a,b] X.env=(false,eval a X.env)::bo [b] X.env)(hpl:(dp pos (bo [b] X.env)).any (·.1)=false):o6 X (.Tuple es k ej) (.Call (.Name "zip" p) [a,b] [] pos) (aew X.K cj):=by
 intro ah s σ H R I h;refine Call_ (p7 I bf hm PyProof.Rows.boot_zip (uU (cq (au pos ah s σ H _ I h) λus s1 ⟨vs,H1,a8,a6,aQ⟩=>?_) asr hpl));obtain⟨bZ,b1,xs,ys,rfl,mB,nx,q⟩:=aQ;obtain⟨Lm,as9,rfl,aG,aS⟩:=a6.two;cases aG;cases aS;obtain⟨its,b0,pl,_⟩:=a8.tuple mB;obtain⟨hc,pM,KL,_⟩:=a8.tuple nx;have ei:gx false s1.heap bZ its.toArray:=pl;have dB:gx false s1.heap b1 hc.toArray:=KL;refine T4 ei dB λh' wO fc gL uo uq hsz aR=>wpAny_pyIter_zip (f0:=.none) wO ?_;refine⟨s1.heap.objs.size+4,[s1.heap.objs.size+4,s1.heap.objs.size+2,s1.heap.objs.size+3,s1.heap.objs.size,s1.heap.objs.size+1],_,_,H1,rfl,a8.kept (t':=s1.toks) aR,apa (Sy ei.lt dB.lt),⟨wO,fc,⟨_,_,gL⟩,uo,uq,asH _,asH _⟩,λb ab=>?_,q⟩;have iu:s1.heap.objs.size<=b:=by
  simp only[asu,eu,or_false] at ab;rcases ab with rfl|rfl|rfl|rfl|rfl
  ·exact sU _ _
  ·exact sU _ _
  ·exact sU _ _
  ·exact dT _
  ·exact sU _ _
 exact a8.wo iu (a8.ck.fresh iu)
def yy(ts us:List T):List T:=List.zipWith (λx y=>.tuple [x,y]) ts us
def ap4{K:bb}{a b:asq}{aY:asq->Prop}{H1:aE}{ts us:List T}{vs ws:List V}(aw:cX K H1 a vs)(q:bz K aY H1 ts vs)(sk:cX K H1 b ws)(a7:bz K aY H1 us ws):o1 K (D0 K a b vs.length ws.length) aY H1 (yy ts us) where
 go:=λi F H t aC d e=>by
  have hi:=(hj.mp e).1;simp only[yy,List.length_zipWith] at hi;obtain⟨v,af,_⟩:=q.get (iB (show i<ts.length by omega));obtain⟨v2,ai,_⟩:=a7.get (iB (show i<us.length by omega));exact⟨vs,v,ws,v2,aC.tup _ _ aw,af,aC.tup _ _ sk,ai,rfl,rfl⟩
 mU:=λi F H t x aj aC d e y=>by
  obtain⟨p,v,v2,aF,rfl,rfl,y1,xu⟩:=y;have hi:=(hj.mp e).1;simp only[yy,List.length_zipWith] at hi;have uo:i<ts.length:=by omega
  have uq:i<us.length:=by omega
  obtain⟨kc,af,ai⟩:=(q.aC aC).get (iB uo);obtain⟨asm,bE,c'⟩:=(a7.aC aC).get (iB uq);have hA:=y1 vs (aC.tup _ _ aw);rw[af] at hA;cases hA;have Qk:=xu ws (aC.tup _ _ sk);rw[bE] at Qk;cases Qk;have aM:=Ext.laid (o:=.tup [v,v2]) d aF;refine⟨F,aM,?_⟩;have bF:t=.tuple [ts[i],us[i]]:=by
   rw[yy,List.getElem?_zipWith,iB uo,iB uq] at e;exact (fq e).symm
  subst bF;simp only[Rep];exact⟨p,_,rfl,cX.of ew,bz.cons (ai.ext aM) (bz.cons (c'.ext aM) bz.nil)⟩
 stop:=λi F H aC aB=>⟨vs,ws,aC.tup _ _ aw,aC.tup _ _ sk,rfl,rfl,by
  simp only[yy,List.length_zipWith] at aB;rw[<- q.length,<- a7.length];omega⟩
def OG(hm:X.mg "zip"=none)(au:cA X a f)(ab:cA X b g)(bf:ez X "zip":=by rfl)(asr:bo [a,b] X.env=(false,eval a X.env)::bo [b] X.env:=by rfl)(hO:bo [b] X.env=(false,eval b X.env)::bo [] X.env:=by rfl)(hpl:(dp pos (bo [b] X.env)).any (·.1)=false:=by rfl):
  nW X (.Tuple es k ej) (.Call (.Name "zip" p) [a,b] [] pos) (DM (ik f) (ik g)):=yM (YH bf hm (i_ au (i_ ab km hO) asr) asr hpl) λσ H R ⟨aD,aO,O,F,ε,ts,r,e,k⟩=>by
 simp only[DM,ik,d7,b7] at e;obtain⟨xs,⟨t,bF,aG⟩,ys,⟨u,fy,aS⟩,rfl⟩:=e;split at aG
 ·cases aG
  split at aS
  ·cases aS
   refine⟨aD,aO,O,F,ε,_,r,bF,λv aY H1 aM aQ=>⟨aD,aO,O,aY,ε,_,r.ext aM,fy,λw dq bk bK a7=>?_⟩⟩
   have Rl:=aQ.ext bK;simp only[Rep] at Rl a7;obtain⟨a1,vs,rfl,jD,qC⟩:=Rl;obtain⟨a2,ws,rfl,hO,sk⟩:=a7;exact⟨a1,a2,vs,ws,rfl,jD,hO,k _ dq bk (aM.trans bK) (ap4 jD qC hO sk)⟩
  ·cases aS
 ·cases aG
end
end
section
variable [cV]
open PySem.W (kas_ask kas_sort kat_run kat_snds kat_lt kat_kind KatTups KatLex KatGo kas_item KasT)
def eF(x:Str×List T):T:=.tuple (.str x.1::x.2)
end
section
section
variable {prog:cJ}{w:cB}{A:c3}{E:ak->aP->Prop}{s:aP}{OT:Array Keyed}
def Rz(OT:Array Keyed)(st jj:SortSt):Prop:=arrOf jj=arrOf st/\failedOf jj=none/\pendingOf jj=#[(0,OT.size,0)]
end
variable [cV]
end
section
variable [cV]
def qu(f:bl):bc:=λε=>(f ε).map λ_=>.bP ε
def Zi{P:cJ}{w:cB}{K:bb}{mg:Str->Option ak}{base:bX}{x y:Str}{st:Stmt}{f:asq}{fd:fX}{N av:List Str}{k:Nat}{b:bc}(F:cb K x x st f fd)(S:cw N av (bQ st))(bd:Binds K fd av [])(m:mg y=some (.ref f))
  (ab:∀(cR:ak) (A:c3) (outer:List Env) (s:aP) (H:aE) (E:gH),dD k (A.deeper (envOfC x (bQ st) s.heap.objs.size f cR)) ->
   ip (je eX P w K mg base N x (bQ st) f cR A outer s H E).j9 (i' st) b):Cl P w K mg base y (k+1) av.length (cT b N.length):=.mk' (NV F S ab) m F.aC bd
section
variable {X:bu}{k n c C i:Nat}{ns:List Str}{d:List aI->Option (T×List aI)}{x:Str}{p pos:Pos}{o e:bx}{es:List bx}{aA:List bl}{f:bl}
def Dg(gs:fu X.K c C ns)(iK:asR X.prog X.w X.K X.mg X.base x c 0 k n d)(aw:dD k X.A)(a9:bR X o (hR i))(au:lL X es aA)(bf:ez X x:=by rfl)(aB:aA.length+1=n:=by rfl)(gY:(x==("__debug__":Str))=false:=by decide)
  (he:bo (o::es) X.env=(false,eval o X.env)::bo es X.env:=by rfl) (hpl:(dp pos (bo es X.env)).any (·.1)=false:=by rfl):v' X (.Call (.Name x p) (o::es) [] pos) (m3 c d [] i aA):=by
 obtain⟨cp,fd,av,F,m,aC,b⟩:=iK.ex;refine dn (yr F aw bf m aC b .nil nS (i_ a9 au he) gY he hpl) λσ H Q ⟨aD,E,O,F,ε,t,ε',r,e,bL⟩=>?_;simp only[m3,b7] at e;obtain⟨⟨md,os⟩,aH,e⟩:=e;split at e
 next=>cases e
 next wH=>
  simp only[args,b7,d7,Option.some.injEq,exists_eq_left'] at e;obtain⟨ts,bF,b_,e1,e⟩:=e;cases e;obtain⟨a,vs,bj,af,hx,_⟩:=nM gs r aH;refine⟨_,af,aD,E,O,F,ε,ts,r,bF,λws aY H1 aM q=>?_⟩;show sI X.K n c 0 d (V.ref a::ws++[]) H1 Q y3;rw[jN];exact M1 r aH wH af aM q e1 (by rw[vi bF,aB]) bL
def N3(h:cA X e f)(ny:kh e none pos.line X.env=pure false:=by rfl):gF X (.Expr e pos) (qu f):=hV (yq h ny) λD σ H ⟨aD,E,O,F,ε,o,r,e,k⟩=>by
 simp only[qu,d7] at e;obtain⟨t,bF,rfl⟩:=e;exact⟨aD,E,O,F,ε,t,r,bF,λv aK aj x _=>k σ aK aj x.aC (r.ext x)⟩
end
end
section

end
section
variable [cV]
abbrev arW:=Ev->Option (Bool×Ev)
end
section

end
end D
end
section
namespace D
open PySem PySem.Spec PySem.Calls PySem.W PyProof.Rows PySem.Builtin PySem.Builtin.ObjectAttr PySem.Builtin.Getset_descriptor
end D
end
section
namespace D
open PySem PySem.Spec PyProof.Rows bG
section
variable [cV]
abbrev vZ:=Ev->Bool
def K8(b:bc)(r:vZ):vZ:=λε=>match b ε with
|some (.bP ε')=>r ε'
|_=>false
def pL(f:bl):vZ:=λε=>(f ε).isSome
end
section

end
section
variable [cV]
mutual
noncomputable def h7:T->T->Option Bool
|.int a,.int b=>some (decide (b<a))
|.tuple xs,.tuple ys=>sv xs ys
|_,_=>none
noncomputable def sv:List T->List T->Option Bool
| [],[]=>some false
| [],_::_=>some false
|_::_,[]=>some true
|x::xs,y::ys=>if jn x y then sv xs ys else h7 x y
end
noncomputable def Oq(A:c3)(s:aP)(y x:ak)(b:Bool):Prop:=
 ∀(prog:cJ) (w:cB) (E:ak->aP->Prop) (Q:ak->aP->Prop),Q (.bool b) s->bD (bV prog w) A (richCompare .Gt y x) Q E s
inductive GoodG(A:c3)(s:aP)(fin:Bool):List (ak×ak)->Bool->Prop
|nil:GoodG A s fin [] fin
|eq {y x:ak} {r:List (ak×ak)} {b:Bool}:SeqAt.EqAt A s y x true->GoodG A s fin r b->GoodG A s fin ((y,x)::r) b
|lt {y x:ak} {r:List (ak×ak)} {b:Bool}:SeqAt.EqAt A s y x false->Oq A s y x b->GoodG A s fin ((y,x)::r) b
section
open PySem.SeqAt
open PySem.AutoSeq1 (wpAny_loadPart')
open PySem.MeetsSeq PySem.MeetsSeq2 PySem.MeetsSeq3
def am0(l b:asq)(items pF:Array ak)(n gf:Nat)(e_ mq:Option asq)(c5 lj:Array (Option ak))(z:Bool):
  Meets (Builtin.«tuple.__gt__» ⟨[.ref l,.ref b],[]⟩)
   (λA R s=>s.heap.get? l=some {cls:=.type "tuple",dict:=e_,data:=.seq items n,slots:=c5}/\s.heap.get? b=some {cls:=.type "tuple",dict:=mq,data:=.seq pF gf,slots:=lj} /\
    GoodG A.in1 s (decide (pF.size<items.size)) (items.toList.zip pF.toList) z/\R (.ok (.ret (.bool z))) s):=
 .of_wp λprog w A R s h=>by
  obtain⟨aF,g,d,tk,os⟩:=s;obtain⟨aB,ab,bf,h⟩:=h;have f2:=AutoSeq1.sub_tuple_tuple
  wp_walk using wpAny_loadPart' aB,wpAny_loadPart' ab,wpAny_forIn_list _ (λrest b s'=>b.1=none/\s'=⟨aF,g,d,tk,os⟩/\GoodG A.in1 ⟨aF,g,d,tk,os⟩ (decide (pF.size<items.size)) rest z) _
  case turn=>
   rintro⟨y,x⟩ rest b s' ⟨iu,rfl,jz⟩;cases jz with
   |eq he jz=>
    refine a3 (he prog w _ _ ?_)
    wp_walk
    exact⟨rfl,rfl,jz⟩
   |lt he gc=>
    refine a3 (he prog w _ _ ?_)
    have Hx:=gc prog w
    wp_walk using Hx
    exact⟨_,rfl,h⟩
  case fin=>
   rintro⟨b2,cm⟩ s' ⟨iu,rfl,jz⟩;simp only at iu;subst iu;cases jz
   wp_walk
   exact⟨_,rfl,by simpa [Builtin.Tuple.tupleCompareSizes] using h⟩
  case h=>
   exact⟨rfl,rfl,bf⟩
mutual
theorem ap9:∀(pf db:T) (A:c3) (s:aP) (a b:ak) (as bs:List asq) (r:Bool),Reads s.heap a pf as->Reads s.heap b db bs->pf.canLay0=true->db.canLay0=true->A.units+min pf.depth db.depth<cLine->h7 pf db=some r->Oq A s a b r
|.int i,.int j,A,s,_,_,_,_,r,.int _ t,.int _ u,_,_,_,e=>by
  unfold h7 at e;cases e;exact λprog w E Q q=>(PyProof.Rows.gt_int q:bD (bV prog w) A (hE .Gt (.int i t) (.int j u)) Q E s)
|.tuple xs,.tuple ys,A,s,_,_,_,_,r,.tuple (a:=l) (o:=o) (vs:=vs) (n:=n) af ai bE c',.tuple (a:=oe) (o:=o') (vs:=fp) (n:=w1) ei dB iS iT,au,ab,b4,e=>by
  unfold h7 at e;simp only[PyData.canLay0] at au ab;simp only[jq] at b4;have jz:=goodG_reads xs ys A.in1 s vs.toList fp.toList _ _ r c' iT au ab (room_in b4) e;obtain⟨cls,e_,data,c5⟩:=o;obtain⟨Gp,mq,data2,lj⟩:=o';simp only at ai bE dB iS;subst ai bE dB iS;rw[q1,q1] at jz;exact λprog w E Q q=>richCompare_meets_room (op:=.Gt) ⟨_,af,rfl⟩ ⟨_,ei,rfl⟩ PySem.F.slot_tuple_gt PySem.F.entry_tuple_gt (PySem.F.args_tuple_gt_2 _ _) (am0 l oe vs fp n w1 e_ mq c5 lj r)
   ⟨af,ei,jz,show Value.bool r≠Value.notImplemented/\Q (.bool r) s from ⟨(λx=>nomatch x),q⟩⟩ (by omega)
|.none,_,_,_,_,_,_,_,_,_,_,_,_,_,e=>by simp[h7] at e
|.bool _,_,_,_,_,_,_,_,_,_,_,_,_,_,e=>by simp[h7] at e
|.str _,_,_,_,_,_,_,_,_,_,_,_,_,_,e=>by simp[h7] at e
|.list _,_,_,_,_,_,_,_,_,_,_,_,_,_,e=>by simp[h7] at e
|.dict _,_,_,_,_,_,_,_,_,_,_,_,_,_,e=>by simp[h7] at e
|.int _,.none,_,_,_,_,_,_,_,_,_,_,_,_,e=>by simp[h7] at e
|.int _,.bool _,_,_,_,_,_,_,_,_,_,_,_,_,e=>by simp[h7] at e
|.int _,.str _,_,_,_,_,_,_,_,_,_,_,_,_,e=>by simp[h7] at e
|.int _,.list _,_,_,_,_,_,_,_,_,_,_,_,_,e=>by simp[h7] at e
|.int _,.dict _,_,_,_,_,_,_,_,_,_,_,_,_,e=>by simp[h7] at e
|.int _,.tuple _,_,_,_,_,_,_,_,_,_,_,_,_,e=>by simp[h7] at e
|.tuple _,.none,_,_,_,_,_,_,_,_,_,_,_,_,e=>by simp[h7] at e
|.tuple _,.bool _,_,_,_,_,_,_,_,_,_,_,_,_,e=>by simp[h7] at e
|.tuple _,.str _,_,_,_,_,_,_,_,_,_,_,_,_,e=>by simp[h7] at e
|.tuple _,.list _,_,_,_,_,_,_,_,_,_,_,_,_,e=>by simp[h7] at e
|.tuple _,.dict _,_,_,_,_,_,_,_,_,_,_,_,_,e=>by simp[h7] at e
|.tuple _,.int _,_,_,_,_,_,_,_,_,_,_,_,_,e=>by simp[h7] at e
theorem goodG_reads:∀(xs ys:List T) (A:c3) (s:aP) (vs ws:List ak) (as bs:List asq) (r:Bool),ReadsAll s.heap vs xs as->ReadsAll s.heap ws ys bs->ke xs=true->ke ys=true->A.units+min (jm xs) (jm ys)<cLine->sv xs ys=some r->GoodG A s (decide (ws.length<vs.length)) (vs.zip ws) r
| [],[],A,s,_,_,_,_,r,.nil,.nil,_,_,_,e=>by
  unfold sv at e;cases e;exact .nil
| [],_::_,A,s,_,_,_,_,r,.nil,.cons _ _,_,_,_,e=>by
  unfold sv at e;cases e;exact GoodG.nil
|_::_,[],A,s,_,_,_,_,r,.cons _ _,.nil,_,_,_,e=>by
  unfold sv at e;cases e;exact GoodG.nil
|x::xs,y::ys,A,s,_,_,_,_,r,.cons a6 b',.cons aQ a7,au,ab,b4,e=>by
  simp only[ke,fi] at au ab;simp only[jm] at b4;unfold sv at e;have he:=eqAt_reads x y A s _ _ _ _ a6 aQ au.1 ab.1 (room_head b4);split at e
  next h=>
   rw[h] at he;have bY:=goodG_reads xs ys A s _ _ _ _ r b' a7 au.2 ab.2 (room_tail b4) e;rw[q2];simp only[d_,Nat.add_lt_add_iff_right];exact .eq he bY
  next h=>
   rw[Bool.not_eq_true] at h;rw[h] at he;rw[q2];exact .lt he (ap9 x y A s _ _ _ _ r a6 aQ au.1 ab.1 (room_head b4) e)
end
end
end
section
variable [cV]
def K1:V->List V->aE->c2->Prop:=λx vs H Q=>∃(l:asq) (ws:List V) (y:V),x=.ref l/\vs=[]/\H l=some (.lst (ws++[y]))/\Q y (upd H l (.lst ws))
def VY{X:bu}:qi X "list.pop" K1:=by
 intro ah s σ H x vs v us Q I aL b0 h;obtain⟨l,ws,y,rfl,rfl,gW,q⟩:=h;cases aL;cases b0;obtain⟨z,its,n,r,aB,e⟩:=I.AQ gW;have ar:its.length=ws.length+1:=by
  have:=r.length;simp only[jo,d_,l5] at this;omega
 obtain⟨u,b4,dH⟩:=r.get (i:=ws.length) (x:=y) (by simp);have lP:(ws++[y]).eraseIdx ws.length=ws:=by
  rw[List.eraseIdx_append_of_length_le (dT _)];simp
 refine l8 PySem.F.slot_list_pop ⟨_,e,rfl⟩ PySem.F.entry_list_pop (PySem.F.args_list_pop_1 _) (PySem.MeetsSeq.list_pop_last l its.toArray n u (by
  rw[d0,ar,Nat.add_sub_cancel];simpa using b4) (by rw[d0,<- aB];exact z)) ⟨e,?_⟩
 have b0:=r.eraseIdx ws.length;rw[lP] at b0;refine⟨y,_,I.AP (t':=s.toks) (its':=its.eraseIdx ws.length) gW e ?_ b0 (by
  have:=r.length;simp only[jo,d_,l5] at this z;omega),dH,q⟩
 unfold Array.eraseIdxIfInBounds;rw[dif_pos (by rw[d0];omega)];simp[ar]
end
section
variable [cV]
section
variable {X:bu}{k n c C:Nat}{ns:List Str}{d:List aI->Option T}{x:Str}{p pos:Pos}{o:bx}{pn:c1}
def apy(gs:fu X.K c C ns)(iK:qd X.prog X.w X.K X.mg X.base x k n d)(aw:dD k X.A)(aH:t2 X o pn)(bf:ez X x:=by rfl)(a9:1=n:=by rfl)(gY:(x==("__debug__":Str))=false:=by decide)
  (he:bo [o] X.env=(false,eval o X.env)::bo [] X.env:=by rfl) (hpl:(dp pos (bo [] X.env)).any (·.1)=false:=by rfl):cA X (.Call (.Name x p) [o] [] pos) (pJ c d pn []):=by
 obtain⟨cp,fd,av,F,hm,aC,b⟩:=iK.ex;refine dn (yr F aw bf hm aC b .nil nS (i_ aH km he) gY he hpl) λσ H Q ⟨aD,E,O,F,ε,t,r,e,k⟩=>?_;simp only[pJ,b7] at e;obtain⟨s,es,os,eU,ts,bF,e1⟩:=e;cases bF;have:=L_ eU;subst this;refine⟨aD,E,O,F,ε,_,r,es,λa aY H1 aM rs QE=>?_⟩;refine⟨by simp[a9],aY,_,t,aM.cy,.cons ⟨rfl,yO rs _ _ λb ab=>?_⟩ .nil,e1,λv aK aj bK a7=>k v aK aj (aM.trans bK) a7⟩;obtain⟨o,e,_⟩:=rs.at ab;show H1 b≠none;rw[e];exact λz=>by cases z
end
end
end D
end
section
namespace D
open PySem
def k'(cH:String):T->Bool
|.int _=>cH=="int"
|.bool _=>cH=="int" || cH=="bool"
|.str _=>cH=="str"
|.tuple _=>cH=="tuple"
|.list _=>cH=="list"
|_=>false
def sy(cH:String):T->Option T
|.dict _=>none
|t=>some (.bool (k' cH t))
def vK(x:Str):Bool:=x.cps.toList.all λc=>decide (c<128)
def fw(c:Nat):T:=.str ⟨#[c]⟩
def gd(f:bl):jX:=λε=>(f ε).bind λt=>match t with
|.tuple ts=>some ts
|.list ts=>some ts
|.str x=>if vK x then some (x.cps.toList.map fw) else none
|_=>none
def w9(t:T)(lo hi:Option Int):Option T:=match t with
|.str x=>if x.length<=big then some (.str ⟨(gS x.cps.toList lo hi).toArray⟩) else none
|t=>qL t lo hi
def oK(f:bl)(lo hi:Ev->Option (Option Int)):bl:=λε=>(f ε).bind λt=>(lo ε).bind λl=>(hi ε).bind λh=>w9 t l h
def vD:T->T->Option T
|.str x,.str y=>if y.length=1/\x.length+2<=big then some (.list ((Txt.split x y).map .str)) else none
|_,_=>none
noncomputable def nT:T->T->Option T
|.str x,.list ts=>(strsOf ts).bind λss=>if JoinOk x ss then some (.str (Txt.join x ss)) else none
|.str x,.tuple ts=>(strsOf ts).bind λss=>if JoinOk x ss then some (.str (Txt.join x ss)) else none
|_,_=>none
def DJ(i:Int):Bool:=decide (i.natAbs.log2<1920)
def e5(i:Int):Str:=Str.ofString (toString i)
def j_:List T->Option T
| [.str x]=>some (.str x)
| [.int i]=>if DJ i then some (.str (e5 i)) else none
|_=>none
def pI:List T->Option T
| [.str x]=>if x.length=1 then some (.int (x.cps.getD 0 0:Nat)) else none
|_=>none
def tH:T->T->Option T
|.str x,.int i=>if 0<=i/\i<=1000 then some (.str (Txt.zfill x i)) else none
|_,_=>none
def lH:T->T->Option T
|.int i,.int j=>if i=10/\0<=j/\j<=1000 then some (.int (10 ^ j.toNat)) else none
|_,_=>none
def N_(j:Int):Bool:=decide (0<j) && decide (j.natAbs.log2<8000)
def yT:T->T->Option T
|.int i,.int j=>if N_ j then some (.int (i / j)) else none
|_,_=>none
def bools:List T->Option (List Bool)
| []=>some []
|.bool b::ts=>(bools ts).map λr=>b::r
|_::_=>none
def asZ:List T->Option T
| [.list xs]=>(bools xs).map λbs=>.bool (bs.all id)
|_=>none
end D
end
section
namespace D
open PySem PySem.Spec PyProof.Rows bG
section
variable [cV]
structure tV(cH:String):Prop where
 n:∀K:bb,u2 K (.type "NoneType") (.type cH)=some false
 b:∀(K:bb) (b:Bool),u2 K (.type "bool") (.type cH)=some (k' cH (.bool b))
 i:∀(K:bb) (i:Int),u2 K (.type "int") (.type cH)=some (k' cH (.int i))
 s:∀(K:bb) (i:Str),u2 K (.type "str") (.type cH)=some (k' cH (.str i))
 t:∀(K:bb) (i:List T),u2 K (.type "tuple") (.type cH)=some (k' cH (.tuple i))
 l:∀(K:bb) (i:List T),u2 K (.type "list") (.type cH)=some (k' cH (.list i))
def Y4:tV "int":=⟨λ_=>rfl,λ_ _=>rfl,λ_ _=>rfl,λ_ _=>rfl,λ_ _=>rfl,λ_ _=>rfl⟩
def arc:tV "bool":=⟨λ_=>rfl,λ_ _=>rfl,λ_ _=>rfl,λ_ _=>rfl,λ_ _=>rfl,λ_ _=>rfl⟩
def Y3:tV "str":=⟨λ_=>rfl,λ_ _=>rfl,λ_ _=>rfl,λ_ _=>rfl,λ_ _=>rfl,λ_ _=>rfl⟩
def ap3:tV "tuple":=⟨λ_=>rfl,λ_ _=>rfl,λ_ _=>rfl,λ_ _=>rfl,λ_ _=>rfl,λ_ _=>rfl⟩
section
variable {X:bu}{e:bx}{f:bl}{gi:TE}{pos p ej p3:Pos}{asw:Str}{cH:String}
def alo(K:bb)(cH:String)(gi:TE):TE:=λσ H Q=>gi σ H λx H1=>∃(O F:asq->Prop) (t:T),f6 K O F H1 t x/\Q (.cC (k' cH t)) H1
def YP(qH:tV cH)(ab:bootBuiltins asw=some (.type cH))(hm:X.mg "isinstance"=none)(pw:X.mg asw=none)(he:bR X e gi)(bf:ez X "isinstance":=by rfl)(um:ez X asw:=by rfl)(a9:asw≠"__name__":=by decide)(gY:(asw==("__debug__":Str))=false:=by decide)
  (asr:bo [e,.Name asw ej] X.env=(false,eval e X.env)::bo [.Name asw ej] X.env:=by rfl):
  bR X (.Call (.Name "isinstance" p) [e,.Name asw ej] [] pos) (alo X.K cH gi):=by
 intro ah s σ H Q I h;refine sS (p7 I bf hm (u:=.builtin "isinstance") (by decide +kernel) ?_);refine PyProof.Rows.callWith_builtin1 ?_ asr rfl;rw[asr];show bD _ _ (spliced ((false,eval e X.env)::dp pos (bo [.Name asw ej] X.env))) _ _ s;refine Calls.spliced_cons (cq (he ah s σ H _ I h) λu s1 ⟨x,H1,a8,a6,aQ⟩=>?_);show bD _ _ (spliced ((false,eval (.Name asw ej) X.env)::[])) _ _ s1;refine Calls.spliced_cons (p7 a8 um pw ab (Calls.spliced_nil ?_) a9 gY);obtain⟨O,F,t,aL,q⟩:=aQ;cases t with
|none=>
  rw[aL.fC] at a6;cases a6;exact PySem.W.kia_one PySem.W.kitx_none a8.iv trivial (qH.n _) (λz=>nomatch z) λtk=>⟨.cC _,H1,a8.kept (t':=tk) λ_ _ z=>z,rfl,q⟩
|bool b=>
  rw[aL.cC] at a6;cases a6;exact PySem.W.kia_one PySem.W.kitx_bool a8.iv trivial (qH.b _ b) (λz=>nomatch z) λtk=>⟨.cC _,H1,a8.kept (t':=tk) λ_ _ z=>z,rfl,q⟩
|int i=>
  rw[aL.int] at a6;obtain⟨alQ,rfl⟩:=a6;exact PySem.W.kia_one PySem.W.kitx_int a8.iv trivial (qH.i _ i) (λz=>nomatch z) λtk=>⟨.cC _,H1,a8.kept (t':=tk) λ_ _ z=>z,rfl,q⟩
|str i=>
  rw[aL.str] at a6;obtain⟨alQ,rfl⟩:=a6;exact PySem.W.kia_one PySem.W.kitx_str a8.iv trivial (qH.s _ i) (λz=>nomatch z) λtk=>⟨.cC _,H1,a8.kept (t':=tk) λ_ _ z=>z,rfl,q⟩
|tuple ts=>
  obtain⟨a,vs,rfl,asr,aw⟩:=aL.tup;cases a6;obtain⟨its,r,aZ,ar⟩:=a8.tuple asr;obtain⟨o,af,ai,_⟩:=aZ;exact PySem.W.kia_one PySem.W.kitx_tuple a8.iv ⟨o,af,ai⟩ (qH.t _ ts) (λz=>nomatch z) λtk=>⟨.cC _,H1,a8.kept (t':=tk) λ_ _ z=>z,rfl,q⟩
|list ts=>
  obtain⟨a,vs,rfl,asr,aw⟩:=aL.lst;cases a6;obtain⟨_,its,n,r,aB,aG⟩:=Inv.uy a8 asr;exact PySem.W.kia_one PySem.W.kitx_list a8.iv ⟨_,aG,rfl⟩ (qH.l _ ts) (λz=>nomatch z) λtk=>⟨.cC _,H1,a8.kept (t':=tk) λ_ _ z=>z,rfl,q⟩
|dict d=>rcases aL with aL|⟨_,_,_,z,_⟩;simp[Rep] at aL;cases z
def DG(qH:tV cH)(ab:bootBuiltins asw=some (.type cH))(hm:X.mg "isinstance"=none)(pw:X.mg asw=none)(au:dd X e f)(bf:ez X "isinstance":=by rfl)(um:ez X asw:=by rfl)(a9:asw≠"__name__":=by decide)(gY:(asw==("__debug__":Str))=false:=by decide)
  (asr:bo [e,.Name asw ej] X.env=(false,eval e X.env)::bo [.Name asw ej] X.env:=by rfl):
  cA X (.Call (.Name "isinstance" p) [e,.Name asw ej] [] pos) (dm (sy cH) f):=dn (YP qH ab hm pw au bf um a9 gY asr) λσ H Q ⟨aD,aO,O,F,ε,t,r,e,k⟩=>by
 simp only[dm,b7] at e;obtain⟨x,ex,e⟩:=e;have bN:t=.bool (k' cH x):=by
  cases x <;> first|exact (fq e).symm|cases e
 subst bN;exact⟨aD,aO,O,F,ε,_,r,ex,λv aY H1 aM aL=>⟨O,aY,x,aL,k _ aY H1 aM (by simp[Rep])⟩⟩
def Zn:bootBuiltins "int"=some (.type "int"):=by decide +kernel
def arx:bootBuiltins "bool"=some (.type "bool"):=by decide +kernel
def Zm:bootBuiltins "str"=some (.type "str"):=by decide +kernel
def aqf:bootBuiltins "tuple"=some (.type "tuple"):=by decide +kernel
end
def v7(x:Str):k4:=⟨λi _=>i<x.cps.size,λi H v aj=>aj=H/\∃c,x.cps[i]?=some c/\v=.str ⟨#[c]⟩,λi _=>x.cps.size<=i⟩
def apb{P:cJ}{w:cB}{K:bb}{da:bx}(x:Str)(t:Tok)(it:asq):Turn P w K da (v7 x) [it] it (λi h=>h.IsStrIter it "str_ascii_iterator" x t i) where
 mem:=by simp
 obj:=λi h st b ab=>by
  have e:b=it:=by simpa using ab
  subst e;obtain⟨o,e,c,d⟩:=st;exact⟨o,e,λv z=>by rw[d] at z;cases z⟩
 keep:=λi h h' st k=>by
  obtain⟨o,e,c,d⟩:=st;exact⟨o,k it (by simp) o e,c,d⟩
 item:=by
  intro X gb hw gX ax i ah s σ H E I hf st bf;subst gb hw gX;obtain⟨f0,f1,f2,gJ,f4,gK⟩:=hf it (by simp);have hx:x.cps[i]?=some (x.cps[i]'bf):=sP bf;refine wpAny_pyNext_ascii_item st hx λh' jj kJ=>?_;have a8:Inv X ah σ H {s with heap:=h',toks:=s.toks+1}:=I.turned (t':=s.toks+1) (λb o ab e=>(kJ.2 b ab).trans e) f0 f1 gJ f4 gK;obtain⟨o,e,c,d⟩:=id jj;exact⟨_,rfl,DN (s:={s with heap:=h',toks:=s.toks+1}) e c d (by decide) ⟨.str _,H,a8,⟨_,rfl⟩,⟨rfl,_,hx,rfl⟩,jj,λb ab=>(hf b ab).1⟩⟩
 done:=by
  intro X gb hw gX ax i ah s σ H E I hf st bf;subst gb hw gX;obtain⟨f0,f1,f2,gJ,f4,gK⟩:=hf it (by simp);exact wpAny_pyNext_ascii_end (I.ok.hd ax) st (Array.getElem?_eq_none bf) λh' dz=>⟨rfl,I.turned (t':=s.toks) (λb o ab e=>dz b o ab e) f0 f1 gJ f4 gK⟩
 self:=λ_ _ _ _ _ st h=>wpAny_pyIter_striter_ascii st h
def aql{x:Str}(h:vK x=true):strIterType x="str_ascii_iterator":=by
 unfold strIterType;rw[if_pos];rw[<- Array.all_toList];exact h
noncomputable def iA(K:bb)(i6:TE):TI:=λσ H R=>i6 σ H λx H1=>(∃a,x=.ref a/\(((∃xs,fP K H1 a xs)/\R (y4 K a) H1)\/((∃xs,cX K H1 a xs)/\R (y6 K a) H1)))\/∃z,x=.str z/\vK z=true/\R (v7 z) H1
section
variable {X:bu}{da l:bx}{i6:TE}{f:bl}
def aiz(aB:bR X l i6):o6 X da l (iA X.K i6):=by
 intro ah s σ H R I h;refine cq (aB ah s σ H _ I h) λv s1 ⟨x,H1,a8,a6,q⟩=>?_;have ct:∀b∈[s1.heap.objs.size],mi X ah H1 b:=λb ab=>by
  have e:b=s1.heap.objs.size:=by simpa using ab
  subst e;exact a8.wo (dT _) (a8.ck.fresh (dT _))
 rcases q with ⟨a,aG,q⟩|⟨z,aG,au,q⟩
 ·subst aG;cases a6;rcases q with ⟨⟨xs,bg⟩,q⟩|⟨⟨xs,bg⟩,q⟩
  ·obtain⟨its,b0,p,ar⟩:=a8.list bg;refine wpAny_pyIter_list p.isList ?_;exact⟨s1.heap.objs.size,[s1.heap.objs.size],_,_,H1,rfl,a8.kept (t':=s1.toks) λb o e=>c8 _ e,Tt a _,⟨_,gA _ rfl,rfl,rfl⟩,ct,q⟩
  ·obtain⟨its,b0,p,ar⟩:=a8.tuple bg;refine uZ (show s1.heap.IsTuple a its.toArray from p) ?_;exact⟨s1.heap.objs.size,[s1.heap.objs.size],_,_,H1,rfl,a8.kept (t':=s1.toks) λb o e=>c8 _ e,SX a _,⟨_,gA _ rfl,rfl,rfl⟩,ct,q⟩
 ·subst aG;obtain⟨t,rfl⟩:=a6;refine wpAny_pyIter_strU ?_;rw[aql au];exact⟨s1.heap.objs.size,[s1.heap.objs.size],_,_,H1,rfl,a8.kept (t':=s1.toks) λb o e=>c8 _ e,apb z t _,⟨_,gA _ rfl,rfl,rfl⟩,ct,q⟩
def ap5{K:bb}{aY:asq->Prop}{H1:aE}(x:Str):o1 K (v7 x) aY H1 (x.cps.toList.map fw) where
 go:=λi F H t aC d e=>by
  have h:=(hj.mp e).1;simpa [v7] using h
 mU:=λi F H t v aj aC d e y=>by
  obtain⟨rfl,c,ax,rfl⟩:=y;refine⟨F,Ext.refl d,?_⟩;rw[kQ,Array.getElem?_toList,ax] at e;cases e;simp[Rep,fw]
 stop:=λi F H aC aB=>by
  simpa [v7] using aB
def pD(aB:cA X l f):nW X da l (gd f):=yM (aiz aB) λσ H R ⟨aD,aO,O,F,ε,ts,r,e,k⟩=>by
 simp only[gd,b7] at e;obtain⟨t,bF,e⟩:=e;split at e
 ·cases e
  refine⟨aD,aO,O,F,ε,_,r,bF,λv aK aj x q=>?_⟩
  simp only[Rep] at q;obtain⟨a,vs,rfl,asr,aw⟩:=q;exact .inl ⟨a,rfl,.inr ⟨⟨vs,asr⟩,k _ aK aj x (UI asr aw)⟩⟩
 ·cases e
  refine⟨aD,aO,O,F,ε,_,r,bF,λv aK aj x q=>?_⟩
  simp only[Rep] at q;obtain⟨a,vs,rfl,cp,asr,aw⟩:=q;exact .inl ⟨a,rfl,.inl ⟨⟨vs,.inl asr⟩,k _ aK aj x (TO cp asr aw)⟩⟩
 ·split at e
  next au=>
   cases e
   refine⟨aD,aO,O,F,ε,_,r,bF,λv aK aj x q=>?_⟩
   simp only[Rep] at q;subst q;exact .inr ⟨_,rfl,au,k _ aK aj x (ap5 _)⟩
  next=>cases e
 ·cases e
end
end
section
variable [cV]
def yC(n d:Nat)(hd:d<=n)(o:Option Int):D.cu n d o<=n:=by
 cases o with
|none=>exact hd
|some v=>
  simp only[D.cu];split <;> omega
def arL(lo hi:Option Int)(n:Nat):Builtin.Str.strSliceIndices lo hi 1 n=sliceRange ((D.cu n 0 lo:Nat):Int) ((D.cu n n hi:Nat):Int) 1:=by
 unfold Builtin.Str.strSliceIndices;have af:∀(o:Option Int) (d:Nat),(match o with|none=>(d:Int)|some i=>(if (1:Int) > 0 then max 0 (min (if i<0 then i+(n:Int) else i) n) else max (-1) (min (if i<0 then i+(n:Int) else i) ((n:Int) - 1))))=((D.cu n d o:Nat):Int):=by
  intro o d;cases o with
  |none=>rfl
  |some v=>
   simp only[D.cu];rw[if_pos (by decide)];split <;> omega
 have aG:=af lo 0;have aS:=af hi n;dsimp only;rw[if_pos (show (1:Int) > 0 by decide)] at *;rw[if_pos (show (1:Int) > 0 by decide)];exact congrFun (congr (congrArg sliceRange aG) aS) 1
def api{α:Type}(l:List α)(lo hi:Option Int):(Builtin.Str.strSliceIndices lo hi 1 l.length).filterMap (λk=>l[k]?)=gS l lo hi/\(Builtin.Str.strSliceIndices lo hi 1 l.length).length=(gS l lo hi).length:=by
 rw[arL];have au:=yC l.length 0 (asH _) lo;have ab:=yC l.length l.length (dT _) hi;unfold gS;generalize D.cu l.length 0 lo=a at *;generalize D.cu l.length l.length hi=b at *;have e:sliceRange (a:Int) (b:Int) 1=(List.range (b - a)).map λk=>a+k:=by
  unfold sliceRange;have ha:((if (1:Int) > 0 then (if (a:Int)<(b:Int) then ((b:Int) - (a:Int)+1 - 1) / 1 else 0) else (if (a:Int) > (b:Int) then ((a:Int) - (b:Int) - 1 - 1) / (-1) else 0)):Int).toNat=b - a:=by
   rw[if_pos (by decide)];split <;> omega
  dsimp only;rw[ha];congr 1;funext k;omega
 rw[e];by_cases Qn:a<=b
 ·exact⟨StrLaws.picks l (b - a) a (by omega),by simp;omega⟩
 ·have z:b - a=0:=by omega
  rw[z];simp
def ajL:V->Option Int->Option Int->aE->c2->Prop:=λx lo hi H Q=>∃z,x=.str z/\z.length<=b8/\Q (.str ⟨(gS z.cps.toList lo hi).toArray⟩) H
section
variable {X:bu}{a b e:bx}{es:List bx}{f g h:bl}{aA:List bl}{pos p ej apos dE:Pos}
def aoU{α:Type}(l:List α)(lo hi:Option Int)(h:(gS l lo hi).length=l.length):gS l lo hi=l:=by
 unfold gS at h ⊢;have au:=yC l.length 0 (asH _) lo;generalize D.cu l.length 0 lo=a at *;generalize D.cu l.length l.length hi=b at *;rw[List.length_take,List.length_drop] at h;cases l with
|nil=>simp
|cons c r=>
  have:a=0:=by simp only[d_] at *;omega
  subst this;rw[List.drop_zero,List.take_of_length_le (by simp only[d_] at *;omega)]
def arN:o7 X ajL:=by
 intro ah s σ H x v hh eS lo hi c5 Q I aL asr pl pu h;obtain⟨z,rfl,wN,q⟩:=h;obtain⟨t,rfl⟩:=aL;refine⟨"str",_,slot_str_getitem.lookup,typeIs_str s z t,?_⟩;obtain⟨af,ai⟩:=api z.cps.toList lo hi;have hlen:z.length=z.cps.toList.length:=by simp[Str.length]
 have key:∀l u:Option (Int×Tok),l.map (·.1)=lo->u.map (·.1)=hi->Made.post (sliceMade z t l u none) (hp X ah σ Q) s:=by
  intro l u fG fy;unfold sliceMade slicePicked;rw[fG,fy];dsimp only[Option.map_none,Option.getD_none];rw[hlen];split
  next hw=>
   have aeh:(gS z.cps.toList lo hi).length=z.cps.toList.length:=by
    rw[<- ai];simpa using hw
   refine⟨.str z,H,I,⟨t,rfl⟩,?_⟩
   have:=aoU _ _ _ aeh;rw[this] at q;simpa using q
  next=>
   have e:(List.filterMap (λk=>z.cps[k]?) (Builtin.Str.strSliceIndices lo hi 1 z.cps.toList.length))=gS z.cps.toList lo hi:=by
    rw[<- af];congr 1;funext k;simp
   rw[e];refine⟨?_,⟨.str _,H,I.tok _,⟨_,rfl⟩,q⟩⟩;show (gS z.cps.toList lo hi).toArray.size<=b8;have:(gS z.cps.toList lo hi).length<=z.cps.toList.length:=by
    unfold gS;rw[List.length_take,List.length_drop];omega
   rw[d0];omega
 obtain⟨o,aH,ax,hd⟩:=asr;cases pl with
|none=>
  cases pu with
  |none=>exact wpAny_getItem_str_slice (l:=none) (u:=none) (st:=none) ⟨o,aH,ax,hd⟩ rfl (key _ _ rfl rfl)
  |int bW i3=>exact wpAny_getItem_str_slice (l:=none) (u:=some (bW,i3)) (st:=none) ⟨o,aH,ax,hd⟩ rfl (key _ _ rfl rfl)
|int bT t1=>
  cases pu with
  |none=>exact wpAny_getItem_str_slice (l:=some (bT,t1)) (u:=none) (st:=none) ⟨o,aH,ax,hd⟩ rfl (key _ _ rfl rfl)
  |int bW i3=>exact wpAny_getItem_str_slice (l:=some (bT,t1)) (u:=some (bW,i3)) (st:=none) ⟨o,aH,ax,hd⟩ rfl (key _ _ rfl rfl)
def MY{lo hi:Option bx}{lQ wk:Ev->Option (Option Int)}(au:dd X e f)(aB:mj X lo (uJ X.K lQ))(b4:mj X hi (uJ X.K wk)):cA X (.Subscript e (.Slice lo hi none ej) pos) (oK f lQ wk):=dn (Uz (((VC.or Uu).or UZ).or arN) au aB b4) λσ H Q ⟨aD,aO,O,F,ε,t,r,e,k⟩=>by
 simp only[oK,b7] at e;obtain⟨x,ex,l,fG,h,h6,e⟩:=e;refine⟨aD,aO,O,F,ε,x,r,ex,λv aY H1 aM aL=>⟨aD,aO,O,aY,ε,l,r.ext aM,fG,λdq bk bK=>⟨aD,aO,O,dq,ε,h,(r.ext aM).ext bK,h6,λiL dj gz=>?_⟩⟩⟩;have qW:=bK.trans gz;have kd:=aM.trans qW;unfold w9 at e;split at e
 ·split at e
  next ar=>
   cases e
   rw[(aL.ext qW).str];exact .inr ⟨_,rfl,by rw[ko];exact ar,k _ iL dj kd (by simp[Rep])⟩
  next=>cases e
 unfold qL at e;split at e
 ·cases e
  obtain⟨a,vs,rfl,asr,aw⟩:=(aL.ext qW).tup;by_cases hw:eZ.cu vs.length 0 l=0/\eZ.cu vs.length vs.length h=vs.length
  ·refine .inl (.inl (.inr ⟨a,vs,rfl,asr,hw,k _ iL dj kd ?_⟩))
   simp only[Rep];refine⟨a,vs,rfl,asr,?_⟩;have:=vh aw l h;unfold k6 at this;rw[hw.1,hw.2,List.drop_zero,Nat.sub_zero,List.take_length] at this;exact this
  ·refine .inl (.inl (.inl ⟨a,vs,rfl,asr,hw,λq bg=>?_⟩))
   have i9:=Ext.laid (o:=.tup (k6 vs l h)) kd.cy bg;refine k _ iL _ (kd.trans i9) ?_;simp only[Rep];exact⟨q,_,rfl,cX.of ew,(vh aw l h).ext i9⟩
 ·cases e
  obtain⟨a,vs,rfl,asr,aw⟩:=(aL.ext qW).lst;refine .inl (.inr ⟨a,vs,rfl,.inl asr,λq bg=>?_⟩);have i9:=Ext.wZ (o:=.lst (k6 vs l h)) kd.cy bg;refine k _ _ _ (kd.trans i9) ?_;simp only[Rep];exact⟨q,_,rfl,.inr rfl,.inl ew,(vh aw l h).ext i9⟩
 ·cases e
end
end
section
variable [cV]
theorem Sd:∀(tk:Nat) (av:List Str),Vals (av.map V.str) (strsFrom tk av)
|_,[]=>.nil
|tk,p::av=>.cons ⟨tk,rfl⟩ (Sd (tk+1) av)
theorem My:∀{ss:List Str} {us:List ak},Vals (ss.map V.str) us->∃l:List (Str×Tok),us=strValues l/\l.map (·.1)=ss
| [],_,.nil=>⟨[],rfl,rfl⟩
|x::ss,_,.cons ⟨t,e⟩ r=>by
  obtain⟨l,aG,aS⟩:=My r;subst aG aS e;exact⟨(x,t)::l,rfl,rfl⟩
section
variable {X:bu}{a b e:bx}{es:List bx}{f g h:bl}{aA:List bl}{pos p ej apos dE:Pos}
noncomputable def arT:V->List V->aE->c2->Prop:=λx vs H Q=>∃z y,x=.str z/\vs=[.str y]/\y.length=1/\z.length+2<=b8/\∀p,H p=none->Q (.ref p) (upd H p (.lst ((Txt.split z y).map V.str)))
def apW:qi X "str.split" arT:=by
 intro ah s σ H x vs v us Q I aL b0 h;obtain⟨z,y,rfl,rfl,bw,ar,q⟩:=h;obtain⟨t,rfl⟩:=aL;obtain⟨w,rfl,i3,rfl⟩:=b0.one;have QQ:(y.length==0)=false:=by rw[bw];rfl
 have aec:(Txt.split z y).length<=z.length+2:=PyProof.Rows.split_le z y;have Rv:∀(e:Txt.split z y=[z]),listOfItself z t X.A (wants (hp X ah σ Q) X.dR) s:=λe=>by
  refine⟨.ref _,_,I.sx (t':=s.toks) (ys:=[V.str z]) (its:=[.str z t]) (.cons ⟨t,rfl⟩ .nil) (by show 1<=b8;decide),rfl,?_⟩
  have:=q _ I.fresh;rw[e] at this;exact this
 cases c6:(decide (z.length<y.length) || decide (Builtin.Str.strKind z<Builtin.Str.strKind y)) with
|true=>exact l8 F.slot_str_split (typeIs_str s z t) F.entry_str_split (F.args_str_split_2 _ _) (meets_str_split_cannot_occur z y t i3 c6) (Rv (by unfold Txt.split;rw[if_pos c6]))
|false=>
  cases dv:(Builtin.Str.occurrences z y 0 z.length (z.length+1)).isEmpty with
  |true=>exact l8 F.slot_str_split (typeIs_str s z t) F.entry_str_split (F.args_str_split_2 _ _) (meets_str_split_not_found z y t i3 c6 QQ dv) (Rv (by unfold Txt.split;rw[if_neg (by rw[c6];exact ou),if_pos dv]))
  |false=>
   have es:Txt.split z y=Builtin.Str.partsBetween z (Builtin.Str.occurrences z y 0 z.length (z.length+1)) y.length:=by
    unfold Txt.split;rw[if_neg (by rw[c6];exact ou),if_neg (by rw[dv];exact ou)]
   rw[es] at q aec;refine l8 F.slot_str_split (typeIs_str s z t) F.entry_str_split (F.args_str_split_2 _ _) (meets_str_split_sep z y t i3 c6 QQ dv (by omega) (by omega)) ?_;exact⟨.ref _,_,I.sx (Sd _ _) (by rw[eT];omega),rfl,q _ I.fresh⟩
def U4(au:dd X a f)(ab:dd X b g)(jD:bo [b] X.env=(false,eval b X.env)::bo [] X.env:=by rfl)
  (jA:ij a "split" X.env (eval a X.env)=eval a X.env:=by rfl)
  (nt:((dp dE (bo [b] X.env)).all (λx=>!x.1) && (l7 dE (l6 [] X.env)).all (λx=>x.1.isSome)
   && decide (([b]:List bx).length+([]:List Keyword).length+(if ([]:List Keyword).isEmpty then 0 else 1)<30))=true:=by rfl)
  (jC:(apos.endLine==dE.line)=true:=by rfl) (nv:(dp dE (bo [] X.env)).any (·.1)=false:=by rfl):
  cA X (.Call (.Attribute a "split" apos) [b] [] dE) (ag vD f g):=
 dn (yP PySem.F.plainAttrs_str PySem.F.slot_str_split PySem.F.type_str_split apW au (i_ ab km jD) jA nt jC jD nv) λσ H Q ⟨aD,aO,O,F,ε,t,r,e,k⟩=>by
 simp only[ag,b7] at e;obtain⟨x,ex,y,eV,e⟩:=e;unfold vD at e;split at e
 ·split at e
  next ax=>
   cases e
   refine⟨aD,aO,O,F,ε,_,r,ex,λgy aY H1 aM aL=>?_⟩
   rw[aL.str];refine⟨rfl,aD,aO,O,aY,ε,_,r.ext aM,eV,λfW dq bk bK bt=>?_⟩;rw[bt.str];refine⟨_,_,rfl,rfl,ax.1,by rw[ko];exact ax.2,λq bg=>?_⟩;refine k _ _ _ ((aM.trans bK).trans (Ext.wZ bK.cy bg)) ?_;simp only[Rep];exact⟨q,_,rfl,.inr rfl,.inl ew,CW _⟩
  next=>cases e
 ·cases e
noncomputable def rJoin(K:bb):V->List V->aE->c2->Prop:=λx vs H Q=>∃z p ss,x=.str z/\vs=[.ref p]/\(fP K H p (ss.map V.str)\/cX K H p (ss.map V.str))/\JoinOk z ss=true/\Q (.str (Txt.join z ss)) H
def ari{z:Str}{l:List Str}(h:Builtin.Str.tooLong (Array.foldl (λaM bK=>aM+Str.length bK+Str.length z) 0 (List.toArray l))=false):(Builtin.Str.glued z l).length<=b8:=by
 rw[StrLaws.glued_eq_join];rw[StrLaws.joinTotal] at h;have ai:=StrLaws.join_length_le z l;have bE:¬(_ > b8):=of_decide_eq_false h;omega
def aq':qi X "str.join" (rJoin X.K):=by
 intro ah s σ H x vs v us Q I aL b0 h;obtain⟨z,p,ss,rfl,rfl,asr,bJ,q⟩:=h;obtain⟨t,rfl⟩:=aL;obtain⟨w,rfl,jx⟩:=b0.one;cases jx;rcases asr with asr|asr
 ·obtain⟨its,r,pl,ar⟩:=I.list asr;obtain⟨l,rfl,fG⟩:=My r;exact SC.join pl.isList fG bJ λt' k=>⟨.str _,H,I.tok k,⟨_,rfl⟩,q⟩
 ·obtain⟨its,r,pl,ar⟩:=I.tuple asr;obtain⟨l,rfl,fG⟩:=My r;obtain⟨o,aH,ax,n,hd⟩:=pl;have QA:Builtin.Str.tooLong (Array.foldl (λaM bK=>aM+Str.length bK+Str.length z) 0 (List.toArray (List.map (λx=>Prod.fst x) l)))=false:=by
   rw[fG];simpa [JoinOk] using bJ
  refine l8 F.slot_str_join (typeIs_str s z t) F.entry_str_join (F.args_str_join_2 _ _) (meets_str_join_tuple z t p l QA) ⟨⟨o,n,aH,ax,hd⟩,?_⟩
  subst fG;unfold joinMade;split
  next pr=>exact⟨.str _,H,I,⟨_,rfl⟩,by simpa [Txt.join,StrLaws.glued_eq_join,Str.join] using q⟩
  next=>exact⟨ari QA,.str _,H,I.tok _,⟨_,rfl⟩,q⟩
def VI(au:dd X a f)(ab:dd X b g)(jD:bo [b] X.env=(false,eval b X.env)::bo [] X.env:=by rfl)
  (jA:ij a "join" X.env (eval a X.env)=eval a X.env:=by rfl)
  (nt:((dp dE (bo [b] X.env)).all (λx=>!x.1) && (l7 dE (l6 [] X.env)).all (λx=>x.1.isSome)
   && decide (([b]:List bx).length+([]:List Keyword).length+(if ([]:List Keyword).isEmpty then 0 else 1)<30))=true:=by rfl)
  (jC:(apos.endLine==dE.line)=true:=by rfl) (nv:(dp dE (bo [] X.env)).any (·.1)=false:=by rfl):
  cA X (.Call (.Attribute a "join" apos) [b] [] dE) (ag nT f g):=
 dn (yP PySem.F.plainAttrs_str PySem.F.slot_str_join PySem.F.type_str_join aq' au (i_ ab km jD) jA nt jC jD nv) λσ H Q ⟨aD,aO,O,F,ε,t,r,e,k⟩=>by
 simp only[ag,b7] at e;obtain⟨x,ex,y,eV,e⟩:=e;have key:∀z ts,x=.str z->(∃ss,strsOf ts=some ss/\JoinOk z ss=true/\t=.str (Txt.join z ss))->(y=.list ts\/y=.tuple ts)->RI X.K "str" (rJoin X.K) (qS X.K f) (bG.RJ (qS X.K g) bG.Lc) σ H Q:=by
  intro z ts ac_ ⟨ss,es,bJ,bF⟩ bw;subst ac_ bF;refine⟨aD,aO,O,F,ε,_,r,ex,λgy aY H1 aM aL=>?_⟩;rw[aL.str];refine⟨rfl,aD,aO,O,aY,ε,_,r.ext aM,eV,λfW dq bk bK bt=>?_⟩;have aG:=CM es;rcases bw with rfl|rfl
  ·obtain⟨p,vs,rfl,asr,aw⟩:=bt.lst;rw[aG] at aw;rw[x2 aw] at asr;exact⟨_,_,ss,rfl,rfl,.inl (.inl asr),bJ,k _ dq bk (aM.trans bK) (by simp[Rep])⟩
  ·obtain⟨p,vs,rfl,asr,aw⟩:=bt.tup;rw[aG] at aw;rw[x2 aw] at asr;exact⟨_,_,ss,rfl,rfl,.inr asr,bJ,k _ dq bk (aM.trans bK) (by simp[Rep])⟩
 unfold nT at e;split at e
 ·simp only[b7] at e;obtain⟨ss,es,e⟩:=e;split at e
  next bJ=>cases e;exact key _ _ rfl ⟨ss,es,bJ,rfl⟩ (.inl rfl)
  next=>cases e
 ·simp only[b7] at e;obtain⟨ss,es,e⟩:=e;split at e
  next bJ=>cases e;exact key _ _ rfl ⟨ss,es,bJ,rfl⟩ (.inr rfl)
  next=>cases e
 ·cases e
def aoZ:kr X (.type "str") (λxs H Q=>(∃x,xs=[.str x]/\Q (.str x) H)\/∃i,xs=[.int i]/\DJ i=true/\Q (.str (e5 i)) H):=by
 intro ah s σ H xs us Q I r h;rcases h with ⟨x,rfl,q⟩|⟨i,rfl,ar,q⟩
 ·obtain⟨u,rfl,t,rfl⟩:=vals1 r;exact PySem.P.str_of_str ⟨.str x,H,I,⟨t,rfl⟩,q⟩
 ·obtain⟨u,rfl,t,rfl⟩:=vals1 r;exact PySem.P.str_of_int (of_decide_eq_true ar) ⟨.str _,H,I.tok _,⟨_,rfl⟩,q⟩
def VG(hm:X.mg "str"=none)(au:o4 X (e::es) aA)(bf:ez X "str":=by rfl)(he:bo (e::es) X.env=(false,eval e X.env)::bo es X.env:=by rfl)(hpl:(dp pos (bo es X.env)).any (·.1)=false:=by rfl):
  cA X (.Call (.Name "str" p) (e::es) [] pos) (aX j_ aA):=dn (C0 aoZ bf hm (by decide +kernel) au (he:=he) (hpl:=hpl)) (vo (by
 intro O F H ts t vs Q d q e k;unfold j_ at e;split at e
 ·cases e
  cases q with
  |cons aQ a7=>
   cases a7
   exact .inl ⟨_,by rw[aQ.str],k _ F H (Ext.refl d) (by simp[Rep])⟩
 ·split at e
  next ar=>
   cases e
   cases q with
   |cons aQ a7=>
    cases a7
    exact .inr ⟨_,by rw[aQ.int],ar,k _ F H (Ext.refl d) (by simp[Rep])⟩
  next=>cases e
 ·cases e))
def Oz(hm:X.mg "ord"=none)(au:o4 X (e::es) aA)(bf:ez X "ord":=by rfl)(he:bo (e::es) X.env=(false,eval e X.env)::bo es X.env:=by rfl)(hpl:(dp pos (bo es X.env)).any (·.1)=false:=by rfl):
  cA X (.Call (.Name "ord" p) (e::es) [] pos) (aX pI aA):=dn (yk aqe bf hm (by decide +kernel) au (he:=he) (hpl:=hpl)) (vo (by
 intro O F H ts t vs Q d q e k;unfold pI at e;split at e
 ·split at e
  next ar=>
   cases e
   cases q with
   |cons aQ a7=>
    cases a7
    exact⟨_,by rw[aQ.str],ar,k _ F H (Ext.refl d) (by simp[Rep])⟩
  next=>cases e
 ·cases e))
def arS:V->List V->aE->c2->Prop:=λx vs H Q=>∃z i,x=.str z/\vs=[.int i]/\PadOk i=true/\Q (.str (Txt.zfill z i)) H
def apV:qi X "str.zfill" arS:=by
 intro ah s σ H x vs v us Q I aL b0 h;obtain⟨z,i,rfl,rfl,aF,q⟩:=h;obtain⟨t,rfl⟩:=aL;obtain⟨w,rfl,i3,rfl⟩:=b0.one;exact SC.zfill aF λt' k=>⟨.str _,H,I.tok k,⟨_,rfl⟩,q⟩
def YT{i:Int}(h:0<=i/\i<=1000):PadOk i=true:=by
 unfold PadOk fitsSsize Builtin.Str.tooLong;rw[fi];have:b8=big:=ko;unfold big at this;constructor
 ·simp;omega
 ·simp;omega
def aqI(au:dd X a f)(ab:dd X b g)(jD:bo [b] X.env=(false,eval b X.env)::bo [] X.env:=by rfl)
  (jA:ij a "zfill" X.env (eval a X.env)=eval a X.env:=by rfl)
  (nt:((dp dE (bo [b] X.env)).all (λx=>!x.1) && (l7 dE (l6 [] X.env)).all (λx=>x.1.isSome)
   && decide (([b]:List bx).length+([]:List Keyword).length+(if ([]:List Keyword).isEmpty then 0 else 1)<30))=true:=by rfl)
  (jC:(apos.endLine==dE.line)=true:=by rfl) (nv:(dp dE (bo [] X.env)).any (·.1)=false:=by rfl):
  cA X (.Call (.Attribute a "zfill" apos) [b] [] dE) (ag tH f g):=
 dn (yP PySem.F.plainAttrs_str PySem.F.slot_str_zfill PySem.F.type_str_zfill apV au (i_ ab km jD) jA nt jC jD nv) λσ H Q ⟨aD,aO,O,F,ε,t,r,e,k⟩=>by
 simp only[ag,b7] at e;obtain⟨x,ex,y,eV,e⟩:=e;unfold tH at e;split at e
 ·split at e
  next ax=>
   cases e
   refine⟨aD,aO,O,F,ε,_,r,ex,λgy aY H1 aM aL=>?_⟩
   rw[aL.str];refine⟨rfl,aD,aO,O,aY,ε,_,r.ext aM,eV,λfW dq bk bK bt=>?_⟩;rw[bt.int];exact⟨_,_,rfl,rfl,YT ax,k _ dq bk (aM.trans bK) (by simp[Rep])⟩
  next=>cases e
 ·cases e
def NI(au:dd X a f)(ab:dd X b g):cA X (.BinOp a .Pow b pos) (ag lH f g):=
 dn (rv YV au ab) (nK (by
  intro O F H x y t gy fW Q d aL bt e k;unfold lH at e;split at e
  ·split at e
   next hm=>
    cases e
    rw[aL.int,bt.int];obtain⟨rfl,af,ai⟩:=hm;exact⟨10,_,rfl,rfl,⟨af,by omega,by decide⟩,k _ F _ (Ext.refl d) (by simp[Rep])⟩
   next=>cases e
  ·cases e))
def an1{x y:Int}(h:y.natAbs.log2<8000):Builtin.divisionGoesByPylong x y=false:=by
 unfold Builtin.divisionGoesByPylong;rw[Bool.and_eq_false_iff];refine .inl (decide_eq_false ?_);dsimp only;split <;> omega
def apH:eg X (kT .FloorDiv) (uE (λ_ j=>N_ j=true) λi j=>.int (i / j)):=xa λi j _ _ _ _ _ ax q=>by
 have dg:=(fi _ _).mp ax;have af:(0:Int)<j:=of_decide_eq_true dg.1;exact floordiv_int (by omega) (by rw[Int.fdiv_eq_ediv_of_nonneg i (by omega)];exact q) (.inl (an1 (of_decide_eq_true dg.2)))
def Yx(au:dd X a f)(ab:dd X b g):cA X (.BinOp a .FloorDiv b pos) (ag yT f g):=
 dn (rv apH au ab) (nK (by
  intro O F H x y t gy fW Q d aL bt e k;unfold yT at e;split at e
  ·split at e
   next hm=>
    cases e
    rw[aL.int,bt.int];exact⟨_,_,rfl,rfl,hm,k _ F H (Ext.refl d) (by simp[Rep])⟩
   next=>cases e
  ·cases e))
end
end
section
variable [cV]
theorem UR:∀{ts:List T} {bs:List Bool},bools ts=some bs->ts=bs.map .bool
| [],bs,e=>by
  cases e
  rfl
|t::ts,bs,e=>by
  unfold bools at e;split at e
  ·rename_i h
   cases h
  ·rename_i h
   cases h
   simp only[d7] at e;obtain⟨r,aG,rfl⟩:=e;rw[UR aG];rfl
  ·cases e
section
variable {X:bu}{e:bx}{es:List bx}{aA:List bl}{pos p:Pos}
def ao1(ax:X.calm=true):kr X (.builtin "all") (λxs H Q=>∃(p:asq) (bs:List Bool),xs=[.ref p]/\fP X.K H p (bs.map V.cC)/\Q (.cC (bs.all id)) H):=by
 intro ah s σ H xs us Q I r h;obtain⟨p,bs,rfl,bg,q⟩:=h;obtain⟨u,rfl,aL⟩:=vals1 r;cases aL;obtain⟨its,b_,pl,ar⟩:=I.list bg;have gc:p<s.heap.objs.size:=by obtain⟨o,n,aH,_⟩:=pl;exact c0 aH
 have hlen:its.length=bs.length:=by have:=b_.length;simpa using this.symm
 refine PySem.call_all_walk (wpAny_pyIter_list (items:=its.toArray) pl.isList ?_)
 refine⟨_,[s.heap.objs.size,p],[s.heap.objs.size],_,_,_,(λi=>bs.getD i true),rfl,Walks.list (A:=X.A.in1) (I.ok.hd ax) _ p (fh gc) its.toArray,⟨⟨_,gA _ rfl,rfl,rfl⟩,pl.isList.push _⟩,λi v s' D4 oV gb adn=>?_,λh' tk aR=>?_⟩
 ·have hi:its[i]?=some v:=by simpa using gb
  have QC:i<bs.length:=by rw[<- hlen];exact (hj.mp hi).1
  obtain⟨uK,aG,aS⟩:=b_.get (i:=i) (x:=V.cC bs[i]) (by simp[QC]);rw[hi] at aG;cases aG;have gT:v=.bool bs[i]:=aS;subst gT;refine nE ?_;have:bs.getD i true=bs[i]:=by simp[QC]
  exact this▸adn
 ·have e:((List.range its.toArray.size).all λi=>bs.getD i true)=bs.all id:=by
   rw[d0,hlen,Bool.eq_iff_iff,List.all_eq_true,List.all_eq_true];constructor
   ·intro h b ab;obtain⟨i,hi,rfl⟩:=List.getElem_of_mem ab;have:=h i (List.mem_range.mpr hi);have aS:bs.getD i true=bs[i]:=by simp[hi]
    rw[aS] at this;exact this
   ·intro h i hi;have sf:=List.mem_range.mp hi;have aS:bs.getD i true=bs[i]:=by simp[sf]
    rw[aS];exact h _ (List.getElem_mem sf)
  rw[e];exact⟨.cC (bs.all id),H,I.kept (t':=tk) λb o e=>aR b o (by simp only[jl];exact fh (c0 e)) (c8 _ e),rfl,q⟩
def OB(ax:X.calm=true)(hm:X.mg "all"=none)(au:o4 X (e::es) aA)(bf:ez X "all":=by rfl)(he:bo (e::es) X.env=(false,eval e X.env)::bo es X.env:=by rfl)(hpl:(dp pos (bo es X.env)).any (·.1)=false:=by rfl):
  cA X (.Call (.Name "all" p) (e::es) [] pos) (aX asZ aA):=dn (yk (ao1 ax) bf hm (by decide +kernel) au (he:=he) (hpl:=hpl)) (vo (by
 intro O F H ts t vs Q d q e k;unfold asZ at e;split at e
 ·simp only[d7] at e;obtain⟨bs,Gz,rfl⟩:=e;have:=UR Gz;subst this;cases q with
  |cons aQ a7=>
   cases a7
   obtain⟨qI,ws,rfl,aB,aw⟩:=aQ.lst;have:=S6 aw;subst this;exact⟨qI,bs,rfl,.inl aB,k _ F H (Ext.refl d) (by simp[Rep])⟩
 ·cases e))
end
end
section
variable [cV]
def nq(i:Nat):bc:=λε=>match ε[i]? with
|some (some (.own ts))=>some (.bP (ε.set i (some (.ae (.list ts)))))
|_=>none
end
end D
end
section
namespace bI
open D
def Ua:bc:=
  (seq (fb (eO (ag aW (nm 0) (aa (.int 0)))) (bH 2) (iff (bB (ag oEq (ag aW (nm 2) (aa (.int 0))) (nm 1))) (bO (ag aW (nm 2) (aa (.int 1)))) skip))
  never)
def p0:List T->Option T:=cT Ua 3
noncomputable def Vp:bc:=
  (seq (asg 1 (aX e6 [(comp 1 [] (eO (ag aW (nm 0) (aa (.int 0)))) (bH 0) (dy true) (aa (.str "shut")))])) (seq (asg 2 (aX e6 [(comp 1 [] (eO (ag aW (nm 0) (aa (.int 1)))) (bH 0) (dy true) (aa (.int 0)))])) (bO (b6 [(aa (.str "off")),(aa (.int 0)),(aa .none),(aJ 1),(b6 []),(aa (.int 0)),(b6 []),(aa (.int 0)),(aa (.int 0)),(aJ 2)]))))
def rh:List T->Option T:=cT Vp 3
def Uc:bc:=
  (seq (fb (eO (ag aW (nm 0) (aa (.int 1)))) (bH 2) (iff (bB (ag oEq (ag aW (nm 2) (aa (.int 0))) (nm 1))) (bO (nm 2)) skip)) (bO (aa .none)))
def yf:List T->Option T:=cT Uc 3
def To:bc:=
  (bO (aX sz [(ag oi (nm 0) (nm 1)),(aa (.int 0))]))
def tb:List T->Option T:=cT To 2
noncomputable def R0:bc:=
  (seq (eJ 0 0 0 (aJ 1)) (seq (eJ 0 0 1 (ag aW (nm 2) (aa (.int 0)))) (seq (eJ 0 0 2 (ag aW (nm 2) (aa (.int 1)))) (seq (eJ 0 0 3 (ag aW (nm 2) (aa (.int 2)))) (seq (vW 0 0 4 (comp 1 [] (eO (ag aW (nm 1) (aa (.int 0)))) (bH 0) (dy true) (ag aW (nm 0) (aa (.int 0)))) (ag aW (nm 2) (aa (.int 3)))) (seq (jT 0 0 5 (dm vE (ag aW (nm 2) (aa (.int 4))))) (seq (eJ 0 0 6 (ag aW (nm 2) (aa (.int 5)))) (seq (jT 0 0 7 (dm vE (ag aW (nm 2) (aa (.int 6))))) (seq (eJ 0 0 8 (ag aW (nm 2) (aa (.int 7)))) (seq (eJ 0 0 9 (ag aW (nm 2) (aa (.int 8)))) (seq (vW 0 0 10 (comp 1 [] (eO (ag aW (nm 1) (aa (.int 1)))) (bH 0) (dy true) (ag aW (nm 0) (aa (.int 0)))) (ag aW (nm 2) (aa (.int 9)))) (seq (eJ 0 0 11 (aa (.int 0))) (jT 0 0 12 (gD []))))))))))))))
def xE:List aI->Option (T×List aI):=runM 0 0 R0 3
noncomputable def Sb:bc:=
  (seq (asg 1 (yX 0 0 4)) (seq (asg 2 (aX e6 [(fld 0 0 5)])) (seq (asg 3 (aX e6 [(fld 0 0 7)])) (seq (asg 4 (yX 0 0 10)) (bO (b6 [(fA 0 0 1),(fA 0 0 2),(fA 0 0 3),(aJ 1),(aJ 2),(fA 0 0 6),(aJ 3),(fA 0 0 8),(fA 0 0 9),(aJ 4)]))))))
def xN:List aI->Option T:=gu Sb 5
def Sj:bc:=
  (lM 0 0 12 (b6 [(fA 0 0 11),(aJ 1),(aJ 2)]))
def fZ:List aI->Option (T×List aI):=runM 0 0 Sj 3
def R4:bc:=
  (eJ 0 0 6 (ag aW (ag aW (fld 0 0 0) (aa (.int 2))) (aa (.int 2))))
def s7:List aI->Option (T×List aI):=runM 0 0 R4 1
noncomputable def LZ:bc:=
  (seq (cS (cW 0 s7 0 [])) (iff (bB (ag (eP true) (nm 1) (fld 0 0 7))) (seq (lM 0 0 7 (aJ 1)) (cS (cW 0 fZ 0 [(aa (.str "alarm")),(aJ 1)]))) skip))
def asI:List aI->Option (T×List aI):=runM 0 0 LZ 2
noncomputable def BO:bc:=
  (seq (iff (eM (bB (ag fV (nm 2) (aa (.str "way")))) (bB (ag oLe (ag aW (ag aW (fld 0 0 0) (aa (.int 2))) (aa (.int 1))) (aa (.int 0))))) (seq (cS (cW 0 asI 0 [(aJ 1)]))
  p') skip) (seq (eJ 0 0 1 (aa (.str "coming"))) (seq (eJ 0 0 2 (ag aW (ag aW (fld 0 0 0) (aa (.int 2))) (aa (.int 1)))) (seq (eJ 0 0 3 (aJ 1)) (cS (cW 0 fZ 0 [(aa (.str "coming")),(aJ 1)]))))))
def s6:List aI->Option (T×List aI):=runM 0 0 BO 3
noncomputable def R3:bc:=
  (seq (asg 3 (aX p0 [(fA 0 0 0),(aJ 1)])) (iff (bB (ag oEq (nm 3) (aa (.str "day")))) (cS (cW 0 asI 0 [(aJ 1)])) (iff (bB (ag oEq (fld 0 0 1) (aa (.str "off")))) (iff (bB (ag oEq (nm 2) (aa (.str "cut")))) (cS (cW 0 fZ 0 [(aa (.str "fault")),(aJ 1)])) skip) (iff (eM (bB (ag oEq (nm 2) (aa (.str "cut")))) (bB (ag oEq (nm 3) (aa (.str "once"))))) (cS (cW 0 asI 0 [(aJ 1)])) (iff (bB (ag oEq (fld 0 0 1) (aa (.str "on")))) (cS (cW 0 s6 0 [(aJ 1),(aJ 3)])) skip)))))
def xF:List aI->Option (T×List aI):=runM 0 0 R3 4
noncomputable def Sk:bc:=
  (seq (asg 3 (ni 0 0 4 (nm 1))) (seq (iff (bB (ag oEq (nm 2) (nm 3))) p' skip) (seq (ru 0 0 4 (nm 1) (aJ 2)) (iff (bB (ag oEq (nm 2) (aa (.str "shut")))) (iff (bB (ag oEq (nm 3) (aa (.str "cut")))) (cS (cW 0 fZ 0 [(aa (.str "mended")),(aJ 1)])) skip) (iff (bB (ag (eP true) (nm 1) (fld 0 0 5))) (cS (cW 0 xF 0 [(aJ 1),(aJ 2)])) skip)))))
def xR:List aI->Option (T×List aI):=runM 0 0 Sk 4
def LG:bc:=
  (bO (h2 (ag fV (ag aW (nm 1) (aa (.int 3))) (aa (.int 0))) (ag lb (ni 0 0 10 (ag aW (nm 1) (aa (.int 0)))) (ag aW (nm 1) (aa (.int 3))))))
def u6:List aI->Option T:=gu LG 2
noncomputable def LD:bc:=
  (seq (cS (cW 0 fZ 0 [(aa (.str "wrong")),(aa .none)])) (seq (pd 0 0 8 (aa (.int 1))) (iff (bB (ag lb (fld 0 0 8) (aa (.int 3)))) (seq (eJ 0 0 8 (aa (.int 0))) (seq (eJ 0 0 9 (aa (.int 90))) (seq (cS (cW 0 s7 0 [])) (cS (cW 0 fZ 0 [(aa (.str "attack")),(aa .none)]))))) skip)))
def u4:List aI->Option (T×List aI):=runM 0 0 LD 1
noncomputable def sX:bc:=
  (seq (iff (bB (ag oEq (nm 1) (aa (.str "unset")))) (bO (aa (.bool false))) skip) (seq (iff (bB (ag fV (fld 0 0 1) (aa (.str "off")))) (bO (aa (.bool true))) skip) (seq (iff (bB (ag oEq (nm 1) (aa (.str "shunt")))) (bO (oj (ag oEq (aX p0 [(fA 0 0 0),(aJ 2)]) (aa (.str "day"))) (ag (eP false) (nm 2) (fld 0 0 5)))) skip) (bO (h2 (ag oEq (nm 1) (aa (.str "free"))) (ag (eP true) (nm 2) (fld 0 0 5)))))))
def oz:List aI->Option T:=gu sX 3
noncomputable def RX:bc:=
  (seq (asg 2 (comp 1 [1] (eO (ag aW (fld 0 0 0) (aa (.int 0)))) (bH 0) (bB (ag (eP false) (ag aW (nm 0) (aa (.int 1))) (nm 1))) (ag aW (nm 0) (aa (.int 0))))) (bO (comp 1 [0] (eO (aJ 2)) (bH 0) (f_ (bB (ag fV (ni 0 1 4 (nm 0)) (aa (.str "shut")))) (bB (ag (eP true) (nm 0) (fld 0 1 5)))) (aJ 0))))
def sZ:List aI->Option T:=gu RX 3
noncomputable def RP:bc:=
  (seq (asg 4 (pE (bB (ag oEq (nm 2) (aa (.str "free")))) (aa (.str "shunt")) (aJ 2))) (seq (iff (bB (ag (eP true) (nm 4) (ag aW (nm 1) (aa (.int 2))))) (bO (b6 [(aa (.str "denied")),(ag aW (nm 1) (aa (.int 1)))])) skip) (seq (iff (bB (d3 0 oz 0 [(aJ 2),(aJ 3)])) (bO (b6 [(aa (.str "no")),(ag aW (nm 1) (aa (.int 1)))])) skip) (seq (asg 5 (d3 0 sZ 0 [(aa (.tuple (hW ["day","once"])))])) (seq (iff (f_ (bB (ag oEq (nm 2) (aa (.str "set")))) (ih (nm 5))) (bO (b6 [(aa (.str "open")),(ag aW (nm 5) (aa (.int 0)))])) skip) (bO (aa .none)))))))
def xx:List aI->Option T:=gu RP 6
noncomputable def RU:bc:=
  (seq (eJ 0 0 1 (aa (.str "on"))) (seq (eJ 0 0 2 (aa (.int 0))) (seq (cS (cW 0 fZ 0 [(aa (.str "on")),(aa .none)])) (fb (eO (d3 0 sZ 0 [(aa (.tuple (hW ["inner","way"])))])) (bH 1) (cS (cW 0 asI 0 [(aJ 1)]))))))
def sW:List aI->Option (T×List aI):=runM 0 0 RU 2
noncomputable def LW:bc:=
  (seq (jT 0 0 7 (gD [])) (seq (eJ 0 0 6 (aa (.int 0))) (seq (eJ 0 0 1 (aa (.str "leaving"))) (seq (eJ 0 0 2 (ag aW (ag aW (fld 0 0 0) (aa (.int 2))) (aa (.int 0)))) (seq (cS (cW 0 fZ 0 [(aa (.str "set")),(aJ 1)])) (iff (bB (ag oLe (fld 0 0 2) (aa (.int 0)))) (cS (cW 0 sW 0 [])) skip))))))
def u':List aI->Option (T×List aI):=runM 0 0 LW 2
noncomputable def RZ:bc:=
  (seq (eJ 0 0 1 (aa (.str "off"))) (seq (eJ 0 0 2 (aa (.int 0))) (seq (eJ 0 0 6 (aa (.int 0))) (seq (eJ 0 0 3 (aa .none)) (seq (jT 0 0 5 (gD [])) (cS (cW 0 fZ 0 [(aa (.str "unset")),(aJ 1)])))))))
def xD:List aI->Option (T×List aI):=runM 0 0 RZ 2
noncomputable def xH:bc:=
  (iff (bB (ag oEq (nm 2) (aa (.str "set")))) (cS (cW 0 u' 0 [(aJ 1)])) (iff (bB (ag oEq (nm 2) (aa (.str "unset")))) (cS (cW 0 xD 0 [(aJ 1)])) (iff (bB (ag oEq (nm 2) (aa (.str "shunt")))) (seq (jT 0 0 5 (dm C9 (ag cD (fld 0 0 5) (gD [(aJ 3)])))) (cS (cW 0 fZ 0 [(aa (.str "shunt")),(aJ 3)]))) (seq (A4 0 0 5 (aJ 3)) (cS (cW 0 fZ 0 [(aa (.str "free")),(aJ 3)]))))))
def q4:List aI->Option (T×List aI):=runM 0 0 xH 4
noncomputable def LF:bc:=
  (seq (asg 4 (d3 0 xx 0 [(aJ 1),(aJ 2),(aJ 3)])) (iff (bB (dm hg (nm 4))) (seq (rB 0 0 10 (ag aW (nm 1) (aa (.int 0))) (aa (.int 1))) (cS (cW 0 q4 0 [(ag aW (nm 1) (aa (.int 1))),(aJ 2),(aJ 3)]))) (cS (cW 0 fZ 0 [(ag aW (nm 4) (aa (.int 0))),(ag aW (nm 4) (aa (.int 1)))]))))
def as1:List aI->Option (T×List aI):=runM 0 0 LF 5
noncomputable def xS:bc:=
  (seq (asg 4 (aX yf [(fA 0 0 0),(aJ 1)])) (iff (bB (ag ia (fld 0 0 9) (aa (.int 0)))) (cS (cW 0 fZ 0 [(aa (.str "locked")),(aa .none)])) (iff (eM (bB (dm hg (nm 4))) (bB (d3 0 u6 0 [(aJ 4)]))) (cS (cW 0 u4 0 [])) (seq (eJ 0 0 8 (aa (.int 0))) (cS (cW 0 as1 0 [(aJ 4),(aJ 2),(aJ 3)]))))))
def q9:List aI->Option (T×List aI):=runM 0 0 xS 5
noncomputable def RW:bc:=
  (seq (pd 0 0 11 (aJ 1)) (seq (eJ 0 0 9 (aX tb [(fA 0 0 9),(aJ 1)])) (seq (eJ 0 0 6 (aX tb [(fA 0 0 6),(aJ 1)])) (eJ 0 0 2 (aX tb [(fA 0 0 2),(aJ 1)])))))
def sY:List aI->Option (T×List aI):=runM 0 0 RW 2
def RV:bc:=
  (seq (asg 1 (fA 0 0 3)) (seq (eJ 0 0 1 (aa (.str "on"))) (seq (eJ 0 0 3 (aa .none)) (cS (cW 0 asI 0 [(aJ 1)])))))
def xA:List aI->Option (T×List aI):=runM 0 0 RV 2
def LK:bc:=
  (iff (bB (ag oEq (fld 0 0 1) (aa (.str "leaving")))) (cS (cW 0 sW 0 [])) (cS (cW 0 xA 0 [])))
def u9:List aI->Option (T×List aI):=runM 0 0 LK 1
noncomputable def xO:bc:=
  (seq (iff (bB (ag oLt (nm 1) (aa (.int 1)))) p' skip) (iff (f_ (bB (ag (eP false) (fld 0 0 1) (b6 [(aa (.str "leaving")),(aa (.str "coming"))]))) (bB (ag oLe (fld 0 0 2) (nm 1)))) (seq (asg 2 (ag oi (nm 1) (fld 0 0 2))) (seq (cS (cW 0 sY 0 [(fA 0 0 2)])) (seq (cS (cW 0 u9 0 [])) (cS (cW 0 sY 0 [(aJ 2)]))))) (cS (cW 0 sY 0 [(aJ 1)]))))
def q7:List aI->Option (T×List aI):=runM 0 0 xO 3
noncomputable def BW:bc:=
  (iff (bB (ag oEq (ag aW (nm 1) (aa (.int 0))) (aa (.str "line")))) (cS (cW 0 xR 0 [(ag aW (nm 1) (aa (.int 1))),(ag aW (nm 1) (aa (.int 2)))])) (iff (bB (ag oEq (ag aW (nm 1) (aa (.int 0))) (aa (.str "code")))) (cS (cW 0 q9 0 [(ag aW (nm 1) (aa (.int 1))),(ag aW (nm 1) (aa (.int 2))),(ag aW (nm 1) (aa (.int 3)))])) (cS (cW 0 q7 0 [(ag aW (nm 1) (aa (.int 1)))]))))
def q5:List aI->Option (T×List aI):=runM 0 0 BW 2
def Mk:bc:=
  (seq (pb 3 (mF 0 xE [(aJ 0),(aJ 1)])) (seq (fb (eO (aJ 2)) (bH 4) (cS (cW 0 q5 3 [(aJ 4)]))) (as6 3)))
def oC:List T->Option aI:=sH Mk 5
def Vo:bc:=
  (bO (aX e6 [(vr 0 12 (rA oC [(aJ 0),(aJ 1),(aJ 2)]))]))
def yu:List T->Option T:=cT Vo 3
noncomputable def Nw:bc:=
  (seq (asg 2 (comp 2 [] (DM (ik (ag aW (nm 0) (aa (.int 0)))) (ik (ag aW (nm 1) (aa (.int 3))))) (eA [(bH 0),(bH 1)]) (bB (ag fV (nm 1) (aa (.str "shut")))) (ag aW (nm 0) (aa (.int 0))))) (bO (b6 [(ag aW (nm 1) (aa (.int 0))),(ag ia (ag aW (nm 1) (aa (.int 5))) (aa (.int 0))),(aX e6 [(nm 2)])])))
def vu:List T->Option T:=cT Nw 3
end bI
end
section
namespace bI
open D bI
def Wa:bc:=
  (bO (pJ 0 xN (rA oC [(aJ 0),(aJ 1),(b6 [(aJ 2)])]) []))
def yK:List T->Option T:=cT Wa 3
noncomputable def Vn:bc:=
  (bO (aX e6 [(comp 3 [] (eO (vr 0 12 (rA oC [(aJ 0),(aJ 1),(b6 [(aJ 2)])]))) (eA [(bH 0),(bH 1),(bH 2)]) (dy true) (b6 [(aJ 1),(aJ 2)]))]))
def yt:List T->Option T:=cT Vn 3
def ta:bc:=
  (seq (iff (bB (ag oLt (nm 1) (aX fo [(nm 0)]))) (bO (ag aW (nm 0) (nm 1))) skip) (bO (aa (.int 0))))
def l_:List T->Option T:=cT ta 2
noncomputable def tj:bc:=
  (seq (asg 2 (ag oMod (ag du (ag cD (ag cD (aX l_ [(aJ 0),(aJ 1)]) (ag du (aa (.int 7919)) (nm 1))) (aa (.int 1))) (aa (.int 48271))) (aa (.int 2147483647)))) (bO (ag oMod (ag cD (ag cD (ag du (nm 2) (nm 2)) (ag du (aa (.int 7)) (nm 2))) (nm 1)) (aa (.int 2147483629)))))
def ly:List T->Option T:=cT tj 3
noncomputable def tl:bc:=
  (seq (asg 2 (ag oMod (ag du (ag cD (ag cD (nm 0) (ag du (aa (.int 104729)) (nm 1))) (aa (.int 17))) (aa (.int 69621))) (aa (.int 2147483647)))) (bO (ag oMod (ag cD (ag cD (ag du (nm 2) (nm 2)) (ag du (aa (.int 3)) (nm 2))) (nm 1)) (aa (.int 2147483629)))))
def jr:List T->Option T:=cT tl 3
noncomputable def aqk:bc:=
  (seq (asg 1 (b6 [])) (seq (fb (lD (ik (b6 [(aa (.str "a")),(aa (.str "b")),(aa (.str "back")),(aa (.str "d")),(aa (.str "hall")),(aa (.str "r")),(aa (.str "win")),(aa (.str "z"))]))) (eA [(bH 2),(bH 3)]) (seq (asg 4 (ag oDiv (aX jr [(aJ 0),(aJ 2)]) (aa (.int 4)))) (iff (eM (bB (ag oLt (ag oMod (nm 4) (aa (.int 8))) (ag cD (aa (.int 3)) (ag oMod (nm 0) (aa (.int 5)))))) (bB (ag oEq (nm 2) (ag oMod (ag oDiv (nm 0) (aa (.int 8))) (aa (.int 8)))))) (asg 1 (ag cD (nm 1) (b6 [(b6 [(aJ 3),(ag aW (b6 [(aa (.str "day")),(aa (.str "inner")),(aa (.str "once")),(aa (.str "way")),(aa (.str "way"))]) (ag oMod (ag oDiv (nm 4) (aa (.int 8))) (aa (.int 5))))])]))) skip))) (seq (asg 5 (b6 [])) (seq (fb (lD (ik (b6 [(aa (.str "0000")),(aa (.str "1234")),(aa (.str "4321")),(aa (.str "7777")),(aa (.str "9990")),(aa (.str "9999"))]))) (eA [(bH 2),(bH 6)]) (seq (asg 4 (ag oDiv (aX jr [(aJ 0),(ag cD (aa (.int 10)) (nm 2))]) (aa (.int 4)))) (iff (eM (bB (ag ia (ag oMod (nm 4) (aa (.int 3))) (aa (.int 0)))) (bB (ag oEq (nm 2) (aa (.int 1))))) (seq (asg 7 (aX e6 [(comp 1 [4] (mY (aa (.int 3))) (bH 0) (bB (ag ia (ag oMod (ag oDiv (nm 1) (ag aW (b6 [(aa (.int 4)),(aa (.int 16)),(aa (.int 64))]) (nm 0))) (aa (.int 4))) (aa (.int 0)))) (ag aW (b6 [(aa (.str "set")),(aa (.str "shunt")),(aa (.str "unset"))]) (nm 0)))])) (seq (asg 8 (ag aW (b6 [(aa (.str "ann")),(aa (.str "bo")),(aa (.str "cy"))]) (ag oMod (ag oDiv (nm 4) (aa (.int 256))) (aa (.int 3))))) (asg 5 (ag cD (nm 5) (b6 [(b6 [(aJ 6),(aJ 8),(aJ 7),(ag aW (b6 [(aa (.int 0)),(aa (.int 0)),(aa (.int 1)),(aa (.int 2)),(aa (.int 9))]) (ag oMod (ag oDiv (nm 4) (aa (.int 1024))) (aa (.int 5))))])]))))) skip))) (seq (asg 4 (ag oDiv (aX jr [(aJ 0),(aa (.int 20))]) (aa (.int 4)))) (seq (asg 9 (b6 [(ag aW (b6 [(aa (.int 0)),(aa (.int 5)),(aa (.int 30)),(aa (.int 60))]) (ag oMod (nm 4) (aa (.int 4)))),(ag aW (b6 [(aa (.int 0)),(aa (.int 4)),(aa (.int 20)),(aa (.int 60))]) (ag oMod (ag oDiv (nm 4) (aa (.int 4))) (aa (.int 4)))),(ag aW (b6 [(aa (.int 1)),(aa (.int 9)),(aa (.int 120)),(aa (.int 300))]) (ag oMod (ag oDiv (nm 4) (aa (.int 16))) (aa (.int 4))))])) (bO (b6 [(aJ 1),(aJ 5),(aJ 9)]))))))))
def Dc:List T->Option T:=cT aqk 10
noncomputable def T':bc:=
  (seq (asg 2 (ag aW (ag aW (ag aW (nm 0) (aa (.int 0))) (ag oMod (ag oDiv (nm 1) (aa (.int 8))) (aX fo [(ag aW (nm 0) (aa (.int 0)))]))) (aa (.int 0)))) (seq (asg 3 (ag oMod (nm 1) (aa (.int 10)))) (seq (iff (bB (ag oLt (nm 3) (aa (.int 5)))) (bO (b6 [(aa (.str "line")),(aJ 2),(ag aW (b6 [(aa (.str "shut")),(aa (.str "open")),(aa (.str "open")),(aa (.str "cut"))]) (ag oMod (ag oDiv (nm 1) (aa (.int 512))) (aa (.int 4))))])) skip) (seq (iff (bB (ag oLt (nm 3) (aa (.int 7)))) (bO (b6 [(aa (.str "ticks")),(ag cD (aa (.int 1)) (ag oMod (ag oDiv (nm 1) (aa (.int 64))) (ag aW (b6 [(aa (.int 3)),(aa (.int 40)),(aa (.int 200))]) (ag oMod (ag oDiv (nm 1) (aa (.int 4096))) (aa (.int 3))))))])) skip) (seq (asg 4 (ag aW (ag aW (ag aW (nm 0) (aa (.int 1))) (ag oMod (ag oDiv (nm 1) (aa (.int 64))) (aX fo [(ag aW (nm 0) (aa (.int 1)))]))) (aa (.int 0)))) (seq (iff (bB (ag oEq (ag oMod (ag oDiv (nm 1) (aa (.int 65536))) (aa (.int 4))) (aa (.int 0)))) (asg 4 (ag aW (b6 [(aa (.str "0001")),(aa (.str "1111")),(aa (.str "9999")),(aa (.str "0000"))]) (ag oMod (ag oDiv (nm 1) (aa (.int 512))) (aa (.int 4))))) skip) (seq (asg 5 (ag aW (b6 [(aa (.str "set")),(aa (.str "set")),(aa (.str "unset")),(aa (.str "shunt")),(aa (.str "free")),(aa (.str "shunt"))]) (ag oMod (ag oDiv (nm 1) (aa (.int 4096))) (aa (.int 6))))) (seq (iff (bB (ag (eP false) (nm 5) (b6 [(aa (.str "set")),(aa (.str "unset"))]))) (bO (b6 [(aa (.str "code")),(aJ 4),(aJ 5),(aa .none)])) skip) (bO (b6 [(aa (.str "code")),(aJ 4),(aJ 5),(aJ 2)]))))))))))
def ra:List T->Option T:=cT T' 6
noncomputable def Dm:bc:=
  (seq (asg 3 (aX e6 [(comp 1 [0,1] (mY (ag oMod (nm 1) (ag cD (nm 2) (aa (.int 1))))) (bH 0) (dy true) (aX ra [(aJ 1),(ag oDiv (aX jr [(aJ 2),(ag cD (aa (.int 30)) (nm 0))]) (aa (.int 4)))]))])) (seq (iff (f_ (bB (ag oEq (ag oMod (ag oDiv (nm 1) (aa (.int 64))) (aa (.int 5))) (aa (.int 0)))) (bB (ag ia (aX fo [(nm 3)]) (aa (.int 2))))) (asg 3 (ag cD (slice (nm 3) optN (opt (dm mH (aa (.int 3))))) (ag w8 (b6 [(b6 [(aa (.str "code")),(aa (.str "5555")),(aa (.str "unset")),(aa .none)])]) (aa (.int 3))))) skip) (bO (nm 3))))
def tE:List T->Option T:=cT Dm 4
end bI
end
section
namespace c1
open D bI
def ao4:bc:=
  (bO (ag nT (aa (.str "")) (comp 1 [] (gd (aJ 0)) (bH 0) (dy true) (ag cD (ag nT (aa (.str " ")) (nm 0)) (aa (.str "\n"))))))
def ye:List T->Option T:=cT ao4 1
noncomputable def Sh:bc:=
  (seq (asg 1 (aJ 0)) (seq (asg 2 (aa (.str ""))) (seq (kO (bB (ag lb (nm 1) (ag lH (aa (.int 10)) (aa (.int 64))))) (seq (asg 2 (ag cD (ag tH (aX j_ [(ag oMod (nm 1) (ag lH (aa (.int 10)) (aa (.int 64))))]) (aa (.int 64))) (nm 2))) (asg 1 (ag yT (nm 1) (ag lH (aa (.int 10)) (aa (.int 64)))))) 1000) (bO (ag cD (aX j_ [(nm 1)]) (nm 2))))))
def xQ:List T->Option T:=cT Sh 3
noncomputable def Si:bc:=
  (seq (iff (bB (ag oEq (ag aW (nm 0) (aa (.int 0))) (aa (.str "ticks")))) (bO (b6 [(aa (.str "ticks")),(aX xQ [(ag aW (nm 0) (aa (.int 1)))])])) skip) (seq (iff (f_ (bB (ag oEq (ag aW (nm 0) (aa (.int 0))) (aa (.str "code")))) (bB (dm hg (ag aW (nm 0) (aa (.int 3)))))) (bO (oK (nm 0) optN (opt (aa (.int 3))))) skip) (bO (nm 0))))
def q8:List T->Option T:=cT Si 1
def aog:bc:=
  (bO (aX ye [(comp 1 [] (gd (aJ 0)) (bH 0) (dy true) (aX q8 [(aJ 0)]))]))
def qp:List T->Option T:=cT aog 1
def aoi:bc:=
  (bO (h2 (dm (sy "tuple") (nm 0)) (chain oLe oLe (nm 1) (aX fo [(nm 0)]) (nm 2))))
def nH:List T->Option T:=cT aoi 3
noncomputable def Ub:bc:=
  (seq (iff (eM (fU (bB (dm (sy "str") (nm 0)))) (fU (bB (chain oLe oLe (nm 1) (aX fo [(nm 0)]) (nm 2))))) (bO (aa (.bool false))) skip) (bO (aX asZ [(comp 1 [3,4] (gd (aJ 0)) (bH 0) (dy true) (chain oLe oLe (nm 1) (nm 0) (nm 2)))])))
def p1:List T->Option T:=cT Ub 5
def anh:bc:=
  (bO (aX p1 [(aJ 0),(aa (.int 4)),(aa (.int 4)),(aa (.str "0")),(aa (.str "9"))]))
def xW:List T->Option T:=cT anh 1
def aoh:bc:=
  (bO (h2 (dm (sy "int") (nm 0)) (as5 (dm (sy "bool") (nm 0)))))
def CG:List T->Option T:=cT aoh 1
def aok:bc:=
  (bO (ag (eP false) (nm 1) (comp 1 [] (gd (ag aW (nm 0) (aa (.int 0)))) (bH 0) (dy true) (ag aW (nm 0) (aa (.int 0))))))
def ve:List T->Option T:=cT aok 2
noncomputable def amz:bc:=
  (bO (h2 (aX nH [(aJ 1),(aa (.int 3)),(aa (.int 3))]) (h2 (ag oEq (ag aW (nm 1) (aa (.int 0))) (aa (.str "line"))) (h2 (aX ve [(aJ 0),(ag aW (nm 1) (aa (.int 1)))]) (ag (eP false) (ag aW (nm 1) (aa (.int 2))) (aa (.tuple (hW ["shut","open","cut"]))))))))
def BV:List T->Option T:=cT amz 2
noncomputable def R7:bc:=
  (seq (iff (eM (fU (bB (aX nH [(aJ 1),(aa (.int 4)),(aa (.int 4))]))) (eM (bB (ag fV (ag aW (nm 1) (aa (.int 0))) (aa (.str "code")))) (fU (bB (aX xW [(ag aW (nm 1) (aa (.int 1)))]))))) (bO (aa (.bool false))) skip) (seq (iff (bB (ag (eP false) (ag aW (nm 1) (aa (.int 2))) (aa (.tuple (hW ["set","unset"]))))) (bO (dm hg (ag aW (nm 1) (aa (.int 3))))) skip) (bO (h2 (ag (eP false) (ag aW (nm 1) (aa (.int 2))) (aa (.tuple (hW ["shunt","free"])))) (aX ve [(aJ 0),(ag aW (nm 1) (aa (.int 3)))])))))
def xJ:List T->Option T:=cT R7 2
noncomputable def amt:bc:=
  (bO (h2 (aX nH [(aJ 0),(aa (.int 2)),(aa (.int 2))]) (h2 (ag oEq (ag aW (nm 0) (aa (.int 0))) (aa (.str "ticks"))) (h2 (aX CG [(ag aW (nm 0) (aa (.int 1)))]) (ag lb (ag aW (nm 0) (aa (.int 1))) (aa (.int 1)))))))
def BN:List T->Option T:=cT amt 1
def aoj:bc:=
  (bO (oj (aX BV [(aJ 0),(aJ 1)]) (oj (aX xJ [(aJ 0),(aJ 1)]) (aX BN [(aJ 1)]))))
def x3:List T->Option T:=cT aoj 2
noncomputable def SV:bc:=
  (seq (iff (fU (bB (aX p1 [(aJ 0),(aa (.int 1)),(aX fo [(nm 0)]),(aa (.str "0")),(aa (.str "9"))]))) (bO (aa .none)) skip) (seq (asg 1 (aa (.int 0))) (seq (fb (gd (aJ 0)) (bH 2) (asg 1 (ag oi (ag cD (ag du (nm 1) (aa (.int 10))) (aX pI [(nm 2)])) (aX pI [(aa (.str "0"))])))) (bO (nm 1)))))
def xX:List T->Option T:=cT SV 3
def ang:bc:=
  (bO (aX e6 [(comp 1 [] (gd (aJ 0)) (bH 0) (dy true) (aX xX [(aJ 0)]))]))
def Cd:List T->Option T:=cT ang 1
noncomputable def Sw:bc:=
  (seq (iff (bB (ag oEq (ag aW (nm 0) (aa (.int 0))) (aa (.str "ticks")))) (bO (ag cD (b6 [(aa (.str "ticks"))]) (aX Cd [(oK (nm 0) (opt (aa (.int 1))) optN)]))) skip) (seq (iff (f_ (bB (ag oEq (ag aW (nm 0) (aa (.int 0))) (aa (.str "code")))) (bB (ag oEq (aX fo [(nm 0)]) (aa (.int 3))))) (bO (ag cD (aX e6 [(nm 0)]) (b6 [(aa .none)]))) skip) (bO (aX e6 [(nm 0)]))))
def q_:List T->Option T:=cT Sw 1
def ao5:bc:=
  (bO (comp 1 [] (gd (oK (ag vD (nm 0) (aa (.str "\n"))) optN (opt (dm mH (aa (.int 1)))))) (bH 0) (dy true) (ag vD (nm 0) (aa (.str " ")))))
def q':List T->Option T:=cT ao5 1
noncomputable def Tn:bc:=
  (seq (asg 2 (aX e6 [(comp 1 [] (gd (aX q' [(aJ 1)])) (bH 0) (dy true) (aX q_ [(aJ 0)]))])) (seq (iff (eM (fU (bB (aX asZ [(comp 1 [0] (gd (aJ 2)) (bH 0) (dy true) (aX x3 [(aJ 1),(aJ 0)]))]))) (bB (ag fV (aX qp [(aJ 2)]) (nm 1)))) never skip) (bO (nm 2))))
def r2:List T->Option T:=cT Tn 3
end c1
end
section
namespace iJ
open D bI
def B2:bc:=
  (seq (eJ 1 0 0 (aJ 1)) (seq (jT 1 0 1 (gD [])) (jT 1 0 2 (gD [(aX rh [(aJ 1)])]))))
def nF:List aI->Option (T×List aI):=runM 1 0 B2 2
def Cs:bc:=
  (bO (ag aW (fld 1 0 2) (dm mH (aa (.int 1)))))
def ki:List aI->Option T:=gu Cs 1
noncomputable def Ce:bc:=
  (seq (asg 2 (aX yt [(fA 1 0 0),(d3 1 ki 0 []),(aJ 1)])) (seq (asg 3 (aX yK [(fA 1 0 0),(d3 1 ki 0 []),(aJ 1)])) (seq (lM 1 0 1 (aJ 1)) (seq (lM 1 0 2 (aJ 3)) (qQ (aJ 2))))))
def oB:List aI->Option (T×List aI):=runM 1 0 Ce 4
def BX:bc:=
  (qu (aX p0 [(fA 1 0 0),(aJ 1)]))
def q6:List aI->Option T:=gu BX 2
def CJ:bc:=
  (seq (qu (d3 1 q6 0 [(aJ 1)])) (lX (cW 1 oB 0 [(b6 [(aa (.str "line")),(aJ 1),(aJ 2)])])))
def x4:List aI->Option (T×List aI):=runM 1 0 CJ 3
noncomputable def CK:bc:=
  (seq (iff (eM (bB (dm iI (nm 3))) (bB (ag (eP false) (nm 2) (aa (.tuple (hW ["shunt","free"])))))) (qu (d3 1 q6 0 [(aJ 3)])) skip) (lX (cW 1 oB 0 [(b6 [(aa (.str "code")),(aJ 1),(aJ 2),(aJ 3)])])))
def x5:List aI->Option (T×List aI):=runM 1 0 CK 4
def Cr:bc:=
  (lX (cW 1 oB 0 [(b6 [(aa (.str "ticks")),(aJ 1)])]))
def xY:List aI->Option (T×List aI):=runM 1 0 Cr 2
def Ct:bc:=
  (bO (aX vu [(fA 1 0 0),(d3 1 ki 0 [])]))
def s9:List aI->Option T:=gu Ct 1
def C4:bc:=
  (bO (aX e6 [(fld 1 0 1)]))
def ma:List aI->Option T:=gu C4 1
def C5:bc:=
  (bO (aX yu [(fA 1 0 0),(ag aW (fld 1 0 2) (aa (.int 0))),(d3 1 ma 0 [])]))
def tf:List aI->Option T:=gu C5 1
def CI:bc:=
  (seq (iff (fU (ih (fld 1 0 1))) never skip) (seq (uB 1 0 1) (uB 1 0 2)))
def oE:List aI->Option (T×List aI):=runM 1 0 CI 1
end iJ
end
section
namespace o3
open D bI c1 iJ
def ao6:bc:=
  (bO (b6 [(d3 1 ki 0 []),(d3 1 s9 0 []),(d3 1 tf 0 []),(d3 1 ma 0 [])]))
def hk:List aI->Option T:=gu ao6 1
noncomputable def Dz:bc:=
  (iff (bB (ag oEq (ag aW (nm 1) (aa (.int 0))) (aa (.str "line")))) (cS (cW 1 x4 0 [(ag aW (nm 1) (aa (.int 1))),(ag aW (nm 1) (aa (.int 2)))])) (iff (bB (ag oEq (ag aW (nm 1) (aa (.int 0))) (aa (.str "code")))) (cS (cW 1 x5 0 [(ag aW (nm 1) (aa (.int 1))),(ag aW (nm 1) (aa (.int 2))),(ag aW (nm 1) (aa (.int 3)))])) (cS (cW 1 xY 0 [(ag aW (nm 1) (aa (.int 1)))]))))
def lE:List aI->Option (T×List aI):=runM 1 0 Dz 2
noncomputable def N':bc:=
  (seq (asg 1 (aX Dc [(aX ly [(aJ 0),(aa (.int 0))])])) (seq (asg 2 (aX tE [(aJ 1),(aX ly [(aJ 0),(aa (.int 1))]),(aa (.int 16))])) (seq (pb 3 (mF 1 nF [(aJ 1)])) (seq (pb 4 (mF 1 nF [(aJ 1)])) (seq (fb (lD (ik (aJ 2))) (eA [(bH 5),(bH 6)]) (seq (asg 7 (aX tE [(aJ 1),(aX ly [(aJ 0),(ag cD (aa (.int 2)) (ag oMod (nm 5) (aa (.int 5))))]),(aa (.int 2))])) (seq (asg 8 (jS hk [.o 4])) (seq (fb (eO (aJ 7)) (bH 9) (cS (m3 1 lE [] 4 [(aJ 9)]))) (seq (fb (eO (aJ 7)) (bH 9) (cS (cW 1 oE 4 []))) (seq (iff (bB (ag fV (jS hk [.o 4]) (nm 8))) (bO (aa (.bool false))) skip) (seq (cS (m3 1 lE [] 4 [(aJ 6)])) (seq (cS (m3 1 lE [] 3 [(aJ 6)])) (iff (bB (ag fV (jS hk [.o 4]) (jS hk [.o 3]))) (bO (aa (.bool false))) skip))))))))) (seq (pb 10 (mF 1 nF [(aJ 1)])) (seq (fb (eO (aX r2 [(aJ 1),(aX qp [(d3 1 ma 4 [])])])) (bH 6) (cS (m3 1 lE [] 10 [(aJ 6)]))) (seq (iff (bB (ag fV (jS hk [.o 10]) (jS hk [.o 4]))) (bO (aa (.bool false))) skip) (seq (fb (eO (aJ 2)) (bH 6) (cS (cW 1 oE 4 []))) (bO (h2 (ag oEq (jS hk [.o 4]) (pJ 1 hk (mF 1 nF [(aJ 1)]) [])) (ag oEq (d3 1 ki 4 []) (aX rh [(aJ 1)])))))))))))))
def vV:List T->Option T:=cT N' 11
end o3
end
section
namespace o3
open PySem PySem.Spec PyProof.Rows bG D bI c1 iJ
variable [cV]
def top(i:Nat):Stmt:=PySem.Challenge.pw_doorwatch_k41_whole_rows_done_anew.main.body.getD i (.Pass ⟨0,0,0,0⟩)
section
variable {P:cJ}{w:cB}{K:bb}{mg:Str->Option ak}{base:bX}{bC cU:asq}{k:Nat}{f:asq}{fd:fX}
def alW{α:Type}{us:List α}(h:us.length=1):∃a,us=[a]:=match us,h with|[a],_=>⟨_,rfl⟩
def alX{α:Type}{us:List α}(h:us.length=2):∃a b,us=[a,b]:=match us,h with|[a,b],_=>⟨_,_,rfl⟩
def alY{α:Type}{us:List α}(h:us.length=3):∃a b c,us=[a,b,c]:=match us,h with|[a,b,c],_=>⟨_,_,_,rfl⟩
def alZ{α:Type}{us:List α}(h:us.length=4):∃a b c d,us=[a,b,c,d]:=match us,h with|[a,b,c,d],_=>⟨_,_,_,_,rfl⟩
def al0{α:Type}{us:List α}(h:us.length=5):∃a b c d e,us=[a,b,c,d,e]:=match us,h with|[a,b,c,d,e],_=>⟨_,_,_,_,_,rfl⟩
set_option hygiene false in
local macro_rules | `(unop% b2 $F) => `(cb.binds $F λ_ _ _ _ _ _ us aB => by obtain ⟨_, rfl⟩ := alW aB; rfl)
set_option hygiene false in
local macro_rules | `(unop% cm $F) => `(cb.binds $F λ_ _ _ _ _ _ us aB => by obtain ⟨_, _, rfl⟩ := alX aB; rfl)
set_option hygiene false in
local macro_rules | `(unop% gI $F) => `(cb.binds $F λ_ _ _ _ _ _ us aB => by obtain ⟨_, _, _, rfl⟩ := alY aB; rfl)
set_option hygiene false in
local macro_rules | `(unop% nZ $F) => `(cb.binds $F λ_ _ _ _ _ _ us aB => by obtain ⟨_, _, _, _, rfl⟩ := alZ aB; rfl)
set_option hygiene false in
local macro_rules | `(unop% b5 $F) => `(cb.binds $F λ_ _ _ _ _ _ us aB => by obtain ⟨_, _, _, _, _, rfl⟩ := al0 aB; rfl)
local macro_rules | `(unop% cM 0) => `(⟨rfl, rfl, rfl, by decide +kernel, rfl, by decide +kernel, by decide +kernel⟩)
set_option hygiene false in
local macro_rules | `(unop% d8 1) => `(fu K 1 cU ["plan", "events", "states"])
set_option hygiene false in
local macro_rules | `(unop% d8 0) => `(fu K 0 bC ["plan", "mode", "left", "came", "lines", "shunts", "siren", "alarms", "tries", "locked", "used", "past", "told"])
set_option hygiene false in
local macro_rules | `(unop% lm $t) => `(λcR A outer s H E aw => $t)
local macro_rules | `(unop% dc $t) => `(λ_ _ _ _ _ _ => $t)
local macro_rules | `(unop% a_ $l) => `(show List.Nodup ($l : List Str) by decide +kernel)
local macro_rules | `(binop% co $s $l) => `(Zg (sc := bQ $s) $l rfl rfl rfl (by decide +kernel))
set_option hygiene false in
local macro_rules | `(binop% fm $a $b) => `(g8 (VQ (by exact aw.units)) VS $a $b)
set_option hygiene false in
local macro_rules | `(binop% uf $a $b) => `(nR (VQ (by exact aw.units)) VS $a $b)
set_option hygiene false in
local macro_rules | `(binop% oh $a $b) => `(g8 (VP (by exact aw.units)) VR $a $b)
abbrev CQ:Stmt:=top 52
def S2:cw ["_law_number","_law_k","_law_drawn_here"] ["_law_number","_law_k"] (bQ CQ):=unop%cM 0
def tg(F:cb K "_law_drawn" "_law_drawn" CQ f fd)(m:mg "_law_drawn"=some (.ref f)) :Cl P w K mg base "_law_drawn" (k+1) 2 jr:=
 fs F S2 (unop%cm F) m unop%lm
  (ass (asx 2 S2.a_ (gj (aq (qa (aq (ho (aq (ho (aT 0) (aq (qa (aq aN) (aT 1))))) (aq aN))) (aq aN))) (aq aN))) (ba (c7 (gj (aq (ho (aq (ho (aq (qa (aT 2) (aT 2))) (aq (qa (aq aN) (aT 2))))) (aT 1))) (aq aN)))))
abbrev yj:Stmt:=top 53
def kV:cw ["_law_number","_law_zones","_law_k","_law_name","_law_drawn_here","_law_codes","_law_figures","_law_rights","_law_who","_law_times"] ["_law_number"] (bQ yj):=unop%cM 0
def M_(F:cb K "_law_plan" "_law_plan" yj f fd)(m:mg "_law_plan"=some (.ref f))(nO:mg "enumerate"=none)(tg:Cl P w K mg base "_law_drawn" k 2 jr)(dO:mg "tuple"=none)(oJ:mg "range"=none):Cl P w K mg base "_law_plan" (k+1) 1 Dc:=
 fs F kV (unop%b2 F) m unop%lm
  (ass (asx 1 kV.a_ (dC a')) (ass (m1 l3 (NT nO (dC (az bM (az bM (az bM (az bM (az bM (az bM (az bM (az bM a')))))))))) (vT (asJ (eE 2 kV.a_) (asJ (eE 3 kV.a_) vU))) (ass (asx 4 kV.a_ (iH (aq (dM tg aw (az (bh 0) (az (bh 2) a')))) (aq aN))) (ba (dh (kN (w_or (g8 (yQ.or yd) yG (aq (gj (aT 4) (aq aN))) (aq (ho (aq aN) (aq (gj (aT 0) (aq aN)))))) (p_ (binop%fm (aT 2) (aq (gj (aq (iH (aT 0) (aq aN))) (aq aN))))))) (ba (asx 1 kV.a_ (ho (aT 1) (aq (dC (az (dC (az (bh 3) (az (bU (aq (dC (az bM (az bM (az bM (az bM (az bM a'))))))) (aq (gj (aq (iH (aT 4) (aq aN))) (aq aN)))) a'))) a')))))) ey)))) (ass (asx 5 kV.a_ (dC a')) (ass (m1 l3 (NT nO (dC (az bM (az bM (az bM (az bM (az bM (az bM a')))))))) (vT (asJ (eE 2 kV.a_) (asJ (eE 6 kV.a_) vU))) (ass (asx 4 kV.a_ (iH (aq (dM tg aw (az (bh 0) (az (ho (aq aN) (aT 2)) a')))) (aq aN))) (ba (dh (kN (w_or (g8 (vP.or vg) vB (aq (gj (aT 4) (aq aN))) (aq aN)) (p_ (binop%fm (aT 2) (aq aN))))) (ass (asx 7 kV.a_ (kX dO (fE (aq (kk (own:=["_law_j"]) (caps:=[(4,"_law_drawn_here")]) (binop%co yj ["_law_number","_law_zones","_law_k","_law_name","_law_drawn_here","_law_codes","_law_figures","_law_rights","_law_who","_law_times"]) (V5 oJ (aq aN)) (unop%dc (eE 0 (unop%a_ ["_law_j","_law_drawn_here"]))) (unop%dc (yz (g8 (vP.or vg) vB (aq (gj (aq (iH (aT 1) (aq (bU (aq (dC (az aN (az aN (az aN a'))))) (aT 0))))) (aq aN))) (aq aN)))) (unop%dc (bU (aq (dC (az bM (az bM (az bM a'))))) (aT 0))))) fL))) (ass (asx 8 kV.a_ (bU (aq (dC (az bM (az bM (az bM a'))))) (aq (gj (aq (iH (aT 4) (aq aN))) (aq aN))))) (ba (asx 5 kV.a_ (ho (aT 5) (aq (dC (az (dC (az (bh 6) (az (bh 8) (az (bh 7) (az (bU (aq (dC (az aN (az aN (az aN (az aN (az aN a'))))))) (aq (gj (aq (iH (aT 4) (aq aN))) (aq aN)))) a'))))) a')))))))) ey)))) (ass (asx 4 kV.a_ (iH (aq (dM tg aw (az (bh 0) (az aN a')))) (aq aN))) (ass (asx 9 kV.a_ (dC (az (bU (aq (dC (az aN (az aN (az aN (az aN a')))))) (aq (gj (aT 4) (aq aN)))) (az (bU (aq (dC (az aN (az aN (az aN (az aN a')))))) (aq (gj (aq (iH (aT 4) (aq aN))) (aq aN)))) (az (bU (aq (dC (az aN (az aN (az aN (az aN a')))))) (aq (gj (aq (iH (aT 4) (aq aN))) (aq aN)))) a'))))) (ba (c7 (dC (az (bh 1) (az (bh 5) (az (bh 9) a'))))))))))))
abbrev CP:Stmt:=top 54
def vc:cw ["_law_plan_here","_law_number","_law_zone","_law_kind","_law_figures","_law_deed"] ["_law_plan_here","_law_number"] (bQ CP):=unop%cM 0
def ML(F:cb K "_law_event" "_law_event" CP f fd)(m:mg "_law_event"=some (.ref f))(gQ:mg "len"=none):Cl P w K mg base "_law_event" (k+1) 2 ra:=
 fs F vc (unop%cm F) m unop%lm
  (ass (asx 2 vc.a_ (bU (aq (bU (aq (bU (aT 0) (aq aN))) (aq (gj (aq (iH (aT 1) (aq aN))) (aq (rt (by exact gQ) (fE (aq (bU (aT 0) (aq aN))) fL))))))) (aq aN))) (ass (asx 3 vc.a_ (gj (aT 1) (aq aN))) (ass (dh (g8 (yQ.or yd) yG (aT 3) (aq aN)) (ba (c7 (dC (az bM (az (bh 2) (az (bU (aq (dC (az bM (az bM (az bM (az bM a')))))) (aq (gj (aq (iH (aT 1) (aq aN))) (aq aN)))) a')))))) ey) (ass (dh (g8 (yQ.or yd) yG (aT 3) (aq aN)) (ba (c7 (dC (az bM (az (ho (aq aN) (aq (gj (aq (iH (aT 1) (aq aN))) (aq (bU (aq (dC (az aN (az aN (az aN a'))))) (aq (gj (aq (iH (aT 1) (aq aN))) (aq aN)))))))) a'))))) ey) (ass (asx 4 vc.a_ (bU (aq (bU (aq (bU (aT 0) (aq aN))) (aq (gj (aq (iH (aT 1) (aq aN))) (aq (rt (by exact gQ) (fE (aq (bU (aT 0) (aq aN))) fL))))))) (aq aN))) (ass (dh (binop%fm (aq (gj (aq (iH (aT 1) (aq aN))) (aq aN))) (aq aN)) (ba (asx 4 vc.a_ (bU (aq (dC (az bM (az bM (az bM (az bM a')))))) (aq (gj (aq (iH (aT 1) (aq aN))) (aq aN)))))) ey) (ass (asx 5 vc.a_ (bU (aq (dC (az bM (az bM (az bM (az bM (az bM (az bM a')))))))) (aq (gj (aq (iH (aT 1) (aq aN))) (aq aN))))) (ass (dh (g8 (p6 (by exact aw.units)) lC (aT 5) (aq (dC (az bM (az bM a'))))) (ba (c7 (dC (az bM (az (bh 4) (az (bh 5) (az me a'))))))) ey) (ba (c7 (dC (az bM (az (bh 4) (az (bh 5) (az (bh 2) a')))))))))))))))
abbrev yp:Stmt:=top 55
def MV:cw ["_law_plan_here","_law_number","_law_most","_law_row_here"] ["_law_plan_here","_law_number","_law_most"] (bQ yp):=unop%cM 0
def Dk(F:cb K "_law_row" "_law_row" yp f fd)(m:mg "_law_row"=some (.ref f))(dO:mg "tuple"=none)(ML:Cl P w K mg base "_law_event" k 2 ra)(gQ:mg "len"=none)(oJ:mg "range"=none)(tg:Cl P w K mg base "_law_drawn" k 2 jr):Cl P w K mg base "_law_row" (k+1) 3 tE:=
 fs F MV (unop%gI F) m unop%lm
  (ass (asx 3 MV.a_ (kX dO (fE (aq (kk (own:=["_law_k"]) (caps:=[(0,"_law_plan_here"),(1,"_law_number")]) (binop%co yp ["_law_plan_here","_law_number","_law_most","_law_row_here"]) (V5 oJ (aq (gj (aT 1) (aq (ho (aT 2) (aq aN)))))) (unop%dc (eE 0 (unop%a_ ["_law_k","_law_plan_here","_law_number"]))) (unop%dc lz) (unop%dc (dM (by exact ML) (by exact aw) (az (bh 1) (az (iH (aq (dM (by exact tg) (by exact aw) (az (bh 2) (az (ho (aq aN) (aT 0)) a')))) (aq aN)) a')))))) fL))) (ass (dh (kN (w_and (binop%fm (aq (gj (aq (iH (aT 1) (aq aN))) (aq aN))) (aq aN)) (vw (g8 (vP.or vg) vB (aq (rt (by exact gQ) (fE (aT 3) fL))) (aq aN))))) (ba (asx 3 MV.a_ (ho (aq (aqJ (aT 3) Dw (Dv (aq (N5 (aq aN)))))) (aq (ZN (aq (dC (az (dC (az bM (az bM (az bM (az me a'))))) a'))) (aq aN)))))) ey) (ba (yB 3))))
abbrev vm:Stmt:=top 20
def MW:cw ["plan","lines","used"] ["plan"] (bQ vm):=unop%cM 0
def yv(F:cb K "begun" "begun" vm f fd)(m:mg "begun"=some (.ref f))(dO:mg "tuple"=none):Cl P w K mg base "begun" (k+1) 1 rh:=
 fs F MW (unop%b2 F) m unop%lm
  (ass (asx 1 MW.a_ (kX dO (fE (aq (kk (own:=["zone"]) (caps:=[]) (binop%co vm ["plan","lines","used"]) (k1 (bU (aT 0) (aq aN))) (unop%dc (eE 0 (unop%a_ ["zone"]))) (unop%dc lz) (unop%dc bM))) fL))) (ass (asx 2 MW.a_ (kX dO (fE (aq (kk (own:=["code"]) (caps:=[]) (binop%co vm ["plan","lines","used"]) (k1 (bU (aT 0) (aq aN))) (unop%dc (eE 0 (unop%a_ ["code"]))) (unop%dc lz) (unop%dc aN))) fL))) (ba (c7 (dC (az bM (az aN (az me (az (bh 1) (az (dC a') (az aN (az (dC a') (az aN (az aN (az (bh 2) a')))))))))))))))
abbrev B1:Stmt:=inClass (top 37) 0
def amv:cw ["self","plan"] ["self","plan"] (bQ B1):=unop%cM 0
def amJ(F:cb K "__init__" "Box.__init__" B1 f fd)(iW:tW K cU f)(m:mg "Box"=some (.ref cU))(cI:unop%d8 1)(yv:Cl P w K mg base "begun" k 1 rh):oS P w K mg base "Box" cU 1 (k+1) 2 nF:=
 VV F amv (unop%cm F) iW m unop%lm
  (ass (fK (j:=0) cI (a4 0) (bh 1)) (ass (rd (j:=1) cI (a4 0) (vM a')) (ba (rd (j:=2) cI (a4 0) (vM (az (dM yv aw (az (bh 1) a')) a'))))))
abbrev yb:Stmt:=top 8
def anT:cw ["thing","least","most","first","last"] ["thing","least","most","first","last"] (bQ yb):=unop%cM 0
def yh(F:cb K "is_text" "is_text" yb f fd)(m:mg "is_text"=some (.ref f))(oI:mg "all"=none)(lF:mg "isinstance"=none)(gQ:mg "len"=none)(nP:mg "str"=none):Cl P w K mg base "is_text" (k+1) 5 p1:=
 fs F anT (unop%b5 F) m unop%lm
  (ass (dh (kN (w_or (tL (tF (aq (DG Y3 Zm lF nP (aT 0))))) (p_ (tL (arJ (aT 1) (aq (rt (by exact gQ) (fE (aT 0) fL))) (aT 2)))))) (ba (c7 sF)) ey) (ba (c7 (OB rfl oI (fE (aq (kk (own:=["sign"]) (caps:=[(3,"first"),(4,"last")]) (binop%co yb ["thing","least","most","first","last"]) (pD (bh 0)) (unop%dc (eE 0 (unop%a_ ["sign","first","last"]))) (unop%dc lz) (unop%dc (VH (aT 1) (aT 0) (aT 2))))) fL)))))
abbrev Cf:Stmt:=top 45
def B8:cw ["part","number","figure"] ["part"] (bQ Cf):=unop%cM 0
def Mg(F:cb K "number_of" "number_of" Cf f fd)(m:mg "number_of"=some (.ref f))(yh:Cl P w K mg base "is_text" k 5 p1)(gQ:mg "len"=none)(rl:mg "ord"=none):Cl P w K mg base "number_of" (k+1) 1 xX:=
 fs F B8 (unop%b2 F) m unop%lm
  (ass (dh (tL (tF (aq (dM yh aw (az (bh 0) (az aN (az (rt (by exact gQ) (fE (aT 0) fL)) (az bM (az bM a'))))))))) (ba (c7 me)) ey) (ass (asx 1 B8.a_ aN) (ass (m1 l3 (pD (bh 0)) (eE 2 B8.a_) (ba (asx 1 B8.a_ (N4 (aq (ho (aq (qa (aT 1) (aq aN))) (aq (Oz rl (fE (aT 2) fL))))) (aq (Oz rl (fE (aq bM) fL))))))) (ba (yB 1)))))
abbrev xT:Stmt:=top 46
def amO:cw ["parts"] ["parts"] (bQ xT):=unop%cM 0
def Mb(F:cb K "numbers_of" "numbers_of" xT f fd)(m:mg "numbers_of"=some (.ref f))(dO:mg "tuple"=none)(Mg:Cl P w K mg base "number_of" k 1 xX):Cl P w K mg base "numbers_of" (k+1) 1 Cd:=
 fs F amO (unop%b2 F) m unop%lm
  (ba (c7 (kX dO (fE (aq (kk (own:=["part"]) (caps:=[]) (binop%co xT ["parts"]) (pD (bh 0)) (unop%dc (eE 0 (unop%a_ ["part"]))) (unop%dc lz) (unop%dc (dM (by exact Mg) (by exact aw) (az (bh 0) a'))))) fL))))
abbrev B_:Stmt:=top 47
def amQ:cw ["parts"] ["parts"] (bQ B_):=unop%cM 0
def Md(F:cb K "event_from" "event_from" B_ f fd)(m:mg "event_from"=some (.ref f))(dO:mg "tuple"=none)(Mb:Cl P w K mg base "numbers_of" k 1 Cd)(gQ:mg "len"=none):Cl P w K mg base "event_from" (k+1) 1 q_:=
 fs F amQ (unop%b2 F) m unop%lm
  (ass (dh (binop%fm (aq (bU (aT 0) (aq aN))) (aq bM)) (ba (c7 (ho (aq (dC (az bM a'))) (aq (dM Mb aw (az (MY (aT 0) (Dv (aq aN)) Dw) a')))))) ey) (ass (dh (kN (w_and (binop%fm (aq (bU (aT 0) (aq aN))) (aq bM)) (vw (binop%fm (aq (rt (by exact gQ) (fE (aT 0) fL))) (aq aN))))) (ba (c7 (ho (aq (kX dO (fE (aT 0) fL))) (aq (dC (az me a')))))) ey) (ba (c7 (kX dO (fE (aT 0) fL))))))
abbrev x':Stmt:=top 40
def anQ:cw ["rows"] ["rows"] (bQ x'):=unop%cM 0
def MJ(F:cb K "text_of" "text_of" x' f fd)(m:mg "text_of"=some (.ref f)) :Cl P w K mg base "text_of" (k+1) 1 ye:=
 fs F anQ (unop%b2 F) m unop%lm
  (ba (c7 (VI (aq bM) (aq (kk (own:=["parts"]) (caps:=[]) (binop%co x' ["rows"]) (pD (bh 0)) (unop%dc (eE 0 (unop%a_ ["parts"]))) (unop%dc lz) (unop%dc (ho (aq (VI (aq bM) (aT 0))) (aq bM))))))))
abbrev B3:Stmt:=top 39
def xM:cw ["number","ahead","behind"] ["number"] (bQ B3):=unop%cM 0
def L5(F:cb K "number_text" "number_text" B3 f fd)(m:mg "number_text"=some (.ref f))(nP:mg "str"=none):Cl P w K mg base "number_text" (k+1) 1 xQ:=
 fs F xM (unop%b2 F) m unop%lm
  (ass (asx 1 xM.a_ (bh 0)) (ass (asx 2 xM.a_ bM) (ass (aqw 1000 l3 (g8 (DH.or C1) Du (aT 1) (aq (NI (aq aN) (aq aN)))) (ass (asx 2 xM.a_ (ho (aq (aqI (aq (VG nP (fE (aq (gj (aT 1) (aq (NI (aq aN) (aq aN))))) fL))) (aq aN))) (aT 2))) (ba (asx 1 xM.a_ (Yx (aT 1) (aq (NI (aq aN) (aq aN)))))))) (ba (c7 (ho (aq (VG nP (fE (aT 1) fL))) (aT 2)))))))
abbrev B4:Stmt:=top 41
def amC:cw ["event"] ["event"] (bQ B4):=unop%cM 0
def L6(F:cb K "event_parts" "event_parts" B4 f fd)(m:mg "event_parts"=some (.ref f))(L5:Cl P w K mg base "number_text" k 1 xQ):Cl P w K mg base "event_parts" (k+1) 1 q8:=
 fs F amC (unop%b2 F) m unop%lm
  (ass (dh (binop%fm (aq (bU (aT 0) (aq aN))) (aq bM)) (ba (c7 (dC (az bM (az (dM L5 aw (az (bU (aT 0) (aq aN)) a')) a'))))) ey) (ass (dh (kN (w_and (binop%fm (aq (bU (aT 0) (aq aN))) (aq bM)) (vw (N2 (aq (bU (aT 0) (aq aN))))))) (ba (c7 (MY (aT 0) Dw (Dv (aq aN))))) ey) (ba (yB 0))))
abbrev xZ:Stmt:=top 42
def anl:cw ["row"] ["row"] (bQ xZ):=unop%cM 0
def x6(F:cb K "row_text" "row_text" xZ f fd)(m:mg "row_text"=some (.ref f))(MJ:Cl P w K mg base "text_of" k 1 ye)(L6:Cl P w K mg base "event_parts" k 1 q8):Cl P w K mg base "row_text" (k+1) 1 qp:=
 fs F anl (unop%b2 F) m unop%lm
  (ba (c7 (dM MJ aw (az (kk (own:=["event"]) (caps:=[]) (binop%co xZ ["row"]) (pD (bh 0)) (unop%dc (eE 0 (unop%a_ ["event"]))) (unop%dc lz) (unop%dc (dM (by exact L6) (by exact aw) (az (bh 0) a')))) a'))))
abbrev ya:Stmt:=top 44
def anR:cw ["text"] ["text"] (bQ ya):=unop%cM 0
def MK(F:cb K "rows_of" "rows_of" ya f fd)(m:mg "rows_of"=some (.ref f)) :Cl P w K mg base "rows_of" (k+1) 1 q':=
 fs F anR (unop%b2 F) m unop%lm
  (ba (c7 (kk (own:=["row"]) (caps:=[]) (binop%co ya ["text"]) (pD (MY (aq (U4 (aT 0) (aq bM))) Dw (Dv (aq (N5 (aq aN)))))) (unop%dc (eE 0 (unop%a_ ["row"]))) (unop%dc lz) (unop%dc (U4 (aT 0) (aq bM))))))
abbrev Cx:Stmt:=top 7
def anp:cw ["thing","least","most"] ["thing","least","most"] (bQ Cx):=unop%cM 0
def tc(F:cb K "is_tuple" "is_tuple" Cx f fd)(m:mg "is_tuple"=some (.ref f))(lF:mg "isinstance"=none)(dO:mg "tuple"=none)(gQ:mg "len"=none):Cl P w K mg base "is_tuple" (k+1) 3 nH:=
 fs F anp (unop%gI F) m unop%lm
  (ba (c7 (m2 (DG ap3 aqf lF dO (aT 0)) (rm (VH (aT 1) (aq (rt (by exact gQ) (fE (aT 0) fL))) (aT 2))))))
abbrev x1:Stmt:=top 14
def anr:cw ["plan","name"] ["plan","name"] (bQ x1):=unop%cM 0
def x8(F:cb K "has_zone" "has_zone" x1 f fd)(m:mg "has_zone"=some (.ref f)) :Cl P w K mg base "has_zone" (k+1) 2 ve:=
 fs F anr (unop%cm F) m unop%lm
  (ba (c7 (nR (p6 (by exact aw.units)) lC (aT 1) (aq (kk (own:=["zone"]) (caps:=[]) (binop%co x1 ["plan","name"]) (pD (bU (aT 0) (aq aN))) (unop%dc (eE 0 (unop%a_ ["zone"]))) (unop%dc lz) (unop%dc (bU (aT 0) (aq aN))))))))
abbrev BP:Stmt:=top 15
def amn:cw ["plan","thing"] ["plan","thing"] (bQ BP):=unop%cM 0
def LR(F:cb K "is_line_event" "is_line_event" BP f fd)(m:mg "is_line_event"=some (.ref f))(tc:Cl P w K mg base "is_tuple" k 3 nH)(x8:Cl P w K mg base "has_zone" k 2 ve){t8:asq}(afQ:mg "LINES"=some (.ref t8))(alL:∃(o:Obj) (its:Array ak) (n:Nat),K.lookup t8=some o/\o.cls=.type "tuple"/\o.data=.seq its n/\its.size<=b8/\Vals ((["shut","open","cut"]:List Str).map V.str) its.toList):Cl P w K mg base "is_line_event" (k+1) 2 BV:=
 fs F amn (unop%cm F) m unop%lm
  (ba (c7 (m2 (dM tc aw (az (bh 1) (az aN (az aN a')))) (m2 (binop%uf (aq (bU (aT 1) (aq aN))) (aq bM)) (m2 (dM x8 aw (az (bh 0) (az (bU (aT 1) (aq aN)) a'))) (rm (nR (p6 (by exact aw.units)) lC (aq (bU (aT 1) (aq aN))) (aq (uC afQ alL)))))))))
abbrev B9:Stmt:=top 9
def amP:cw ["thing"] ["thing"] (bQ B9):=unop%cM 0
def Mc(F:cb K "is_figures" "is_figures" B9 f fd)(m:mg "is_figures"=some (.ref f))(yh:Cl P w K mg base "is_text" k 5 p1):Cl P w K mg base "is_figures" (k+1) 1 xW:=
 fs F amP (unop%b2 F) m unop%lm
  (ba (c7 (dM yh aw (az (bh 0) (az aN (az aN (az bM (az bM a'))))))))
abbrev BQ:Stmt:=top 16
def amo:cw ["plan","thing"] ["plan","thing"] (bQ BQ):=unop%cM 0
def LS(F:cb K "is_code_event" "is_code_event" BQ f fd)(m:mg "is_code_event"=some (.ref f))(x8:Cl P w K mg base "has_zone" k 2 ve)(tc:Cl P w K mg base "is_tuple" k 3 nH)(Mc:Cl P w K mg base "is_figures" k 1 xW){t5:asq}(afN:mg "DEEDS_ALONE"=some (.ref t5))(alA:∃(o:Obj) (its:Array ak) (n:Nat),K.lookup t5=some o/\o.cls=.type "tuple"/\o.data=.seq its n/\its.size<=b8/\Vals ((["set","unset"]:List Str).map V.str) its.toList){o_:asq}(J5:mg "DEEDS_OF_ZONES"=some (.ref o_))(Ld:∃(o:Obj) (its:Array ak) (n:Nat),K.lookup o_=some o/\o.cls=.type "tuple"/\o.data=.seq its n/\its.size<=b8/\Vals ((["shunt","free"]:List Str).map V.str) its.toList):Cl P w K mg base "is_code_event" (k+1) 2 xJ:=
 fs F amo (unop%cm F) m unop%lm
  (ass (dh (kN (w_or (tL (tF (aq (dM tc aw (az (bh 1) (az aN (az aN a'))))))) (w_or (binop%oh (aq (bU (aT 1) (aq aN))) (aq bM)) (p_ (tL (tF (aq (dM Mc aw (az (bU (aT 1) (aq aN)) a'))))))))) (ba (c7 sF)) ey) (ass (dh (g8 (p6 (by exact aw.units)) lC (aq (bU (aT 1) (aq aN))) (aq (uC afN alA))) (ba (c7 (ZR (aq (bU (aT 1) (aq aN)))))) ey) (ba (c7 (m2 (nR (p6 (by exact aw.units)) lC (aq (bU (aT 1) (aq aN))) (aq (uC J5 Ld))) (rm (dM x8 aw (az (bh 0) (az (bU (aT 1) (aq aN)) a')))))))))
abbrev Cw:Stmt:=top 6
def ano:cw ["thing"] ["thing"] (bQ Cw):=unop%cM 0
def Mr(F:cb K "is_whole" "is_whole" Cw f fd)(m:mg "is_whole"=some (.ref f))(lF:mg "isinstance"=none)(tp:mg "int"=none)(tn:mg "bool"=none):Cl P w K mg base "is_whole" (k+1) 1 CG:=
 fs F ano (unop%b2 F) m unop%lm
  (ba (c7 (m2 (DG Y4 Zn lF tp (aT 0)) (rm (ZP (DG arc arx lF tn (aT 0)))))))
abbrev BI:Stmt:=top 17
def amg:cw ["thing"] ["thing"] (bQ BI):=unop%cM 0
def LN(F:cb K "is_ticks_event" "is_ticks_event" BI f fd)(m:mg "is_ticks_event"=some (.ref f))(tc:Cl P w K mg base "is_tuple" k 3 nH)(Mr:Cl P w K mg base "is_whole" k 1 CG):Cl P w K mg base "is_ticks_event" (k+1) 1 BN:=
 fs F amg (unop%b2 F) m unop%lm
  (ba (c7 (m2 (dM tc aw (az (bh 0) (az aN (az aN a')))) (m2 (binop%uf (aq (bU (aT 0) (aq aN))) (aq bM)) (m2 (dM Mr aw (az (bU (aT 0) (aq aN)) a')) (rm (nR (DH.or C1) Du (aq (bU (aT 0) (aq aN))) (aq aN))))))))
abbrev Cy:Stmt:=top 18
def anq:cw ["plan","thing"] ["plan","thing"] (bQ Cy):=unop%cM 0
def Ms(F:cb K "is_event" "is_event" Cy f fd)(m:mg "is_event"=some (.ref f))(LR:Cl P w K mg base "is_line_event" k 2 BV)(LS:Cl P w K mg base "is_code_event" k 2 xJ)(LN:Cl P w K mg base "is_ticks_event" k 1 BN):Cl P w K mg base "is_event" (k+1) 2 x3:=
 fs F anq (unop%cm F) m unop%lm
  (ba (c7 (KX (dM LR aw (az (bh 0) (az (bh 1) a'))) (KX (dM LS aw (az (bh 0) (az (bh 1) a'))) (OA (dM LN aw (az (bh 1) a')))))))
abbrev vd:Stmt:=top 48
def Sz:cw ["plan","text","row"] ["plan","text"] (bQ vd):=unop%cM 0
def Mq(F:cb K "read_row" "read_row" vd f fd)(m:mg "read_row"=some (.ref f))(dO:mg "tuple"=none)(Md:Cl P w K mg base "event_from" k 1 q_)(oI:mg "all"=none)(x6:Cl P w K mg base "row_text" k 1 qp)(MK:Cl P w K mg base "rows_of" k 1 q')(Ms:Cl P w K mg base "is_event" k 2 x3):Cl P w K mg base "read_row" (k+1) 2 r2:=
 fs F Sz (unop%cm F) m unop%lm
  (ass (asx 2 Sz.a_ (kX dO (fE (aq (kk (own:=["parts"]) (caps:=[]) (binop%co vd ["plan","text","row"]) (pD (dM MK aw (az (bh 1) a'))) (unop%dc (eE 0 (unop%a_ ["parts"]))) (unop%dc lz) (unop%dc (dM (by exact Md) (by exact aw) (az (bh 0) a'))))) fL))) (ass (dh (kN (w_or (tL (tF (aq (OB rfl oI (fE (aq (kk (own:=["event"]) (caps:=[(0,"plan")]) (binop%co vd ["plan","text","row"]) (pD (bh 2)) (unop%dc (eE 0 (unop%a_ ["event","plan"]))) (unop%dc lz) (unop%dc (dM (by exact Ms) (by exact aw) (az (bh 1) (az (bh 0) a')))))) fL))))) (p_ (binop%oh (aq (dM x6 aw (az (bh 2) a'))) (aT 1))))) (ba Nf) ey) (ba (yB 2))))
abbrev Cg:Stmt:=top 50
def am2:cw ["_law_script","_law_k"] ["_law_script","_law_k"] (bQ Cg):=unop%cM 0
def Mh(F:cb K "_law_cell_at" "_law_cell_at" Cg f fd)(m:mg "_law_cell_at"=some (.ref f))(gQ:mg "len"=none):Cl P w K mg base "_law_cell_at" (k+1) 2 l_:=
 fs F am2 (unop%cm F) m unop%lm
  (ass (dh (g8 (yQ.or yd) yG (aT 1) (aq (rt (by exact gQ) (fE (aT 0) fL)))) (ba (c7 (bU (aT 0) (aT 1)))) ey) (ba (c7 aN)))
abbrev CO:Stmt:=top 51
def S1:cw ["_law_script","_law_k","_law_drawn_here"] ["_law_script","_law_k"] (bQ CO):=unop%cM 0
def yg(F:cb K "_law_mixed" "_law_mixed" CO f fd)(m:mg "_law_mixed"=some (.ref f))(Mh:Cl P w K mg base "_law_cell_at" k 2 l_):Cl P w K mg base "_law_mixed" (k+1) 2 ly:=
 fs F S1 (unop%cm F) m unop%lm
  (ass (asx 2 S1.a_ (gj (aq (qa (aq (ho (aq (ho (aq (dM Mh aw (az (bh 0) (az (bh 1) a')))) (aq (qa (aq aN) (aT 1))))) (aq aN))) (aq aN))) (aq aN))) (ba (c7 (gj (aq (ho (aq (ho (aq (qa (aT 2) (aT 2))) (aq (qa (aq aN) (aT 2))))) (aT 1))) (aq aN)))))
abbrev Ck:Stmt:=inClass (top 37) 6
def am4:cw ["self"] ["self"] (bQ Ck):=unop%cM 0
def asL(F:cb K "state" "Box.state" Ck f fd)(m:Meth K cU "state" f)(cI:unop%d8 1):e0 P w K mg base cU "state" (k+1) 1 ki:=
 oM F am4 (unop%b2 F) m unop%lm
  (ba (c7 (bU (gC (j:=2) cI (a4 0)) (aq (N5 (aq aN))))))
abbrev tv:Stmt:=top 34
def C6:cw ["plan","state","not_shut"] ["plan","state"] (bQ tv):=unop%cM 0
def arw(F:cb K "shown" "shown" tv f fd)(m:mg "shown"=some (.ref f))(dO:mg "tuple"=none)(lG:mg "zip"=none):Cl P w K mg base "shown" (k+1) 2 vu:=
 fs F C6 (unop%cm F) m unop%lm
  (ass (NG 2 C6.a_ (own:=["zone","line"]) (caps:=[]) (binop%co tv ["plan","state","not_shut"]) (OG lG (bU (aT 0) (aq aN)) (bU (aT 1) (aq aN))) (unop%dc (vT (asJ (eE 0 (unop%a_ ["zone","line"])) (asJ (eE 1 (unop%a_ ["zone","line"])) vU)))) (unop%dc (yz (binop%oh (aT 1) (aq bM)))) (unop%dc (bU (aT 0) (aq aN)))) (ba (c7 (dC (az (bU (aT 1) (aq aN)) (az (nR (vP.or vg) vB (aq (bU (aT 1) (aq aN))) (aq aN)) (az (kX dO (fE (aT 2) fL)) a')))))))
def Ma(F:cb K "shown" "shown" tv f fd)(m:mg "shown_rows"=some (.ref f))(dO:mg "tuple"=none)(lG:mg "zip"=none):Cl P w K mg base "shown_rows" (k+1) 2 vu:=
 Zi F C6 (unop%cm F) m unop%lm
  (ass (NG 2 C6.a_ (own:=["zone","line"]) (caps:=[]) (binop%co tv ["plan","state","not_shut"]) (OG lG (bU (aT 0) (aq aN)) (bU (aT 1) (aq aN))) (unop%dc (vT (asJ (eE 0 (unop%a_ ["zone","line"])) (asJ (eE 1 (unop%a_ ["zone","line"])) vU)))) (unop%dc (yz (binop%oh (aT 1) (aq bM)))) (unop%dc (bU (aT 0) (aq aN)))) (ba (c7 (dC (az (bU (aT 1) (aq aN)) (az (nR (vP.or vg) vB (aq (bU (aT 1) (aq aN))) (aq aN)) (az (kX dO (fE (aT 2) fL)) a')))))))
abbrev Cm:Stmt:=inClass (top 37) 7
def am5:cw ["self"] ["self"] (bQ Cm):=unop%cM 0
def Mj(F:cb K "shown" "Box.shown" Cm f fd)(m:Meth K cU "shown" f)(cI:unop%d8 1)(Ma:Cl P w K mg base "shown_rows" k 2 vu)(asL:e0 P w K mg base cU "state" k 1 ki):e0 P w K mg base cU "shown" (k+1) 1 s9:=
 oM F am5 (unop%b2 F) m unop%lm
  (ba (c7 (dM Ma aw (az (iD (j:=0) cI (a4 0)) (az (oH cI asL aw (a4 0)) a')))))
abbrev as2:Stmt:=inClass (top 28) 0
def amf:cw ["self","plan","state"] ["self","plan","state"] (bQ as2):=unop%cM 0
def amm(F:cb K "__init__" "Course.__init__" as2 f fd)(iW:tW K bC f)(m:mg "Course"=some (.ref bC))(a0:unop%d8 0)(rj:mg "dict"=none)(rk:mg "list"=none)(lG:mg "zip"=none):oS P w K mg base "Course" bC 0 (k+1) 3 xE:=
 VV F amf (unop%gI F) iW m unop%lm
  (ass (fK (j:=0) a0 (a4 0) (bh 1)) (ass (fK (j:=1) a0 (a4 0) (bU (aT 2) (aq aN))) (ass (fK (j:=2) a0 (a4 0) (bU (aT 2) (aq aN))) (ass (fK (j:=3) a0 (a4 0) (bU (aT 2) (aq aN))) (ass (U0 (j:=4) a0 rfl rj lG (a4 0) (aq (kk (own:=["zone"]) (caps:=[]) (binop%co as2 ["self","plan","state"]) (k1 (bU (aT 1) (aq aN))) (unop%dc (eE 0 (unop%a_ ["zone"]))) (unop%dc lz) (unop%dc (bU (aT 0) (aq aN))))) (aq (bU (aT 2) (aq aN)))) (ass (rd (j:=5) a0 (a4 0) (U5 rk (aq (bU (aT 2) (aq aN))))) (ass (fK (j:=6) a0 (a4 0) (bU (aT 2) (aq aN))) (ass (rd (j:=7) a0 (a4 0) (U5 rk (aq (bU (aT 2) (aq aN))))) (ass (fK (j:=8) a0 (a4 0) (bU (aT 2) (aq aN))) (ass (fK (j:=9) a0 (a4 0) (bU (aT 2) (aq aN))) (ass (U0 (j:=10) a0 rfl rj lG (a4 0) (aq (kk (own:=["code"]) (caps:=[]) (binop%co as2 ["self","plan","state"]) (k1 (bU (aT 1) (aq aN))) (unop%dc (eE 0 (unop%a_ ["code"]))) (unop%dc lz) (unop%dc (bU (aT 0) (aq aN))))) (aq (bU (aT 2) (aq aN)))) (ass (fK (j:=11) a0 (a4 0) aN) (ba (rd (j:=12) a0 (a4 0) (vM a')))))))))))))))
abbrev B5:Stmt:=inClass (top 28) 3
def amD:cw ["self","word","name"] ["self","word","name"] (bQ B5):=unop%cM 0
def g7(F:cb K "tell" "Course.tell" B5 f fd)(m:Meth K bC "tell" f)(a0:unop%d8 0):cQ P w K mg base bC 0 "tell" (k+1) 3 fZ:=
 hG F amD (unop%gI F) m unop%lm
  (ba (Ds (j:=12) a0 (a4 0) (dC (az (iD (j:=11) a0 (a4 0)) (az (bh 1) (az (bh 2) a'))))))
abbrev CS:Stmt:=top 19
def S3:cw ["plan","name","zone"] ["plan","name"] (bQ CS):=unop%cM 0
def th(F:cb K "kind_of" "kind_of" CS f fd)(m:mg "kind_of"=some (.ref f)) :Cl P w K mg base "kind_of" (k+1) 2 p0:=
 fs F S3 (unop%cm F) m unop%lm
  (ass (m1 l3 (k1 (bU (aT 0) (aq aN))) (eE 2 S3.a_) (ba (dh (binop%fm (aq (bU (aT 2) (aq aN))) (aT 1)) (ba (c7 (bU (aT 2) (aq aN)))) ey))) (ba Nf))
abbrev BM:Stmt:=inClass (top 28) 4
def amj:cw ["self"] ["self"] (bQ BM):=unop%cM 0
def xG(F:cb K "be_loud" "Course.be_loud" BM f fd)(m:Meth K bC "be_loud" f)(a0:unop%d8 0):cQ P w K mg base bC 0 "be_loud" (k+1) 1 s7:=
 hG F amj (unop%b2 F) m unop%lm
  (ba (fK (j:=6) a0 (a4 0) (bU (aq (bU (gC (j:=0) a0 (a4 0)) (aq aN))) (aq aN))))
abbrev B0:Stmt:=inClass (top 28) 5
def amu:cw ["self","zone"] ["self","zone"] (bQ B0):=unop%cM 0
def oA(F:cb K "alarm" "Course.alarm" B0 f fd)(m:Meth K bC "alarm" f)(a0:unop%d8 0)(xG:cQ P w K mg base bC 0 "be_loud" k 1 s7)(g7:cQ P w K mg base bC 0 "tell" k 3 fZ):cQ P w K mg base bC 0 "alarm" (k+1) 2 asI:=
 hG F amu (unop%cm F) m unop%lm
  (ass (dU (asO a0 xG aw (a4 0))) (ba (dh (g8 (yc (by exact aw.units)) lC (aT 1) (gC (j:=7) a0 (a4 0))) (ass (Ds (j:=7) a0 (a4 0) (bh 1)) (ba (dU (eN a0 g7 aw (a4 0) (az bM (az (bh 1) a')))))) ey)))
abbrev BL:Stmt:=inClass (top 28) 9
def ami:cw ["self","zone","kind"] ["self","zone","kind"] (bQ BL):=unop%cM 0
def LQ(F:cb K "come_in" "Course.come_in" BL f fd)(m:Meth K bC "come_in" f)(a0:unop%d8 0)(g7:cQ P w K mg base bC 0 "tell" k 3 fZ)(oA:cQ P w K mg base bC 0 "alarm" k 2 asI):cQ P w K mg base bC 0 "come_in" (k+1) 3 s6:=
 hG F ami (unop%gI F) m unop%lm
  (ass (dh (kN (w_or (binop%oh (aT 2) (aq bM)) (p_ (g8 (asY.or td) asW (aq (bU (aq (bU (gC (j:=0) a0 (a4 0)) (aq aN))) (aq aN))) (aq aN))))) (ass (dU (eN a0 oA aw (a4 0) (az (bh 1) a'))) (ba Nd)) ey) (ass (fK (j:=1) a0 (a4 0) bM) (ass (fK (j:=2) a0 (a4 0) (bU (aq (bU (gC (j:=0) a0 (a4 0)) (aq aN))) (aq aN))) (ass (fK (j:=3) a0 (a4 0) (bh 1)) (ba (dU (eN a0 g7 aw (a4 0) (az bM (az (bh 1) a')))))))))
abbrev BK:Stmt:=inClass (top 28) 8
def RY:cw ["self","zone","what","kind"] ["self","zone","what"] (bQ BK):=unop%cM 0
def LP(F:cb K "disturb" "Course.disturb" BK f fd)(m:Meth K bC "disturb" f)(a0:unop%d8 0)(th:Cl P w K mg base "kind_of" k 2 p0)(oA:cQ P w K mg base bC 0 "alarm" k 2 asI)(g7:cQ P w K mg base bC 0 "tell" k 3 fZ)(LQ:cQ P w K mg base bC 0 "come_in" k 3 s6):cQ P w K mg base bC 0 "disturb" (k+1) 3 xF:=
 hG F RY (unop%gI F) m unop%lm
  (ass (asx 3 RY.a_ (dM th aw (az (iD (j:=0) a0 (a4 0)) (az (bh 1) a')))) (ba (dh (binop%fm (aT 3) (aq bM)) (ba (dU (eN a0 oA aw (a4 0) (az (bh 1) a')))) (ba (dh (binop%fm (gC (j:=1) a0 (a4 0)) (aq bM)) (ba (dh (binop%fm (aT 2) (aq bM)) (ba (dU (eN a0 g7 aw (a4 0) (az bM (az (bh 1) a'))))) ey)) (ba (dh (kN (w_or (binop%fm (aT 2) (aq bM)) (p_ (binop%fm (aT 3) (aq bM))))) (ba (dU (eN a0 oA aw (a4 0) (az (bh 1) a')))) (ba (dh (binop%fm (gC (j:=1) a0 (a4 0)) (aq bM)) (ba (dU (eN a0 LQ aw (a4 0) (az (bh 1) (az (bh 3) a'))))) ey)))))))))
abbrev B6:Stmt:=inClass (top 28) 7
def R8:cw ["self","zone","what","before"] ["self","zone","what"] (bQ B6):=unop%cM 0
def L7(F:cb K "line" "Course.line" B6 f fd)(m:Meth K bC "line" f)(a0:unop%d8 0)(g7:cQ P w K mg base bC 0 "tell" k 3 fZ)(LP:cQ P w K mg base bC 0 "disturb" k 3 xF):cQ P w K mg base bC 0 "line" (k+1) 3 xR:=
 hG F R8 (unop%gI F) m unop%lm
  (ass (asx 3 R8.a_ (NJ (j:=4) a0 (yW aw) (a4 0) (aT 1))) (ass (dh (binop%fm (aT 2) (aT 3)) (ba Nd) ey) (ass (arQ (j:=4) a0 (yW aw) (a4 0) (aT 1) (bh 2)) (ba (dh (binop%fm (aT 2) (aq bM)) (ba (dh (binop%fm (aT 3) (aq bM)) (ba (dU (eN a0 g7 aw (a4 0) (az bM (az (bh 1) a'))))) ey)) (ba (dh (g8 (yc (by exact aw.units)) lC (aT 1) (gC (j:=5) a0 (a4 0))) (ba (dU (eN a0 LP aw (a4 0) (az (bh 1) (az (bh 2) a'))))) ey)))))))
abbrev CT:Stmt:=top 26
def S4:cw ["plan","figures","code"] ["plan","figures"] (bQ CT):=unop%cM 0
def MM(F:cb K "code_of" "code_of" CT f fd)(m:mg "code_of"=some (.ref f)) :Cl P w K mg base "code_of" (k+1) 2 yf:=
 fs F S4 (unop%cm F) m unop%lm
  (ass (m1 l3 (k1 (bU (aT 0) (aq aN))) (eE 2 S4.a_) (ba (dh (binop%fm (aq (bU (aT 2) (aq aN))) (aT 1)) (ba (yB 2)) ey))) (ba (c7 me)))
abbrev BD:Stmt:=inClass (top 28) 16
def al9:cw ["self","code"] ["self","code"] (bQ BD):=unop%cM 0
def LB(F:cb K "is_used_up" "Course.is_used_up" BD f fd)(m:Meth K bC "is_used_up" f)(a0:unop%d8 0):e0 P w K mg base bC "is_used_up" (k+1) 2 u6:=
 oM F al9 (unop%cm F) m unop%lm
  (ba (c7 (m2 (nR (VP (by exact aw.units)) VR (aq (bU (aT 1) (aq aN))) (aq aN)) (rm (nR (DH.or C1) Du (aq (NJ (j:=10) a0 (yW aw) (a4 0) (aq (bU (aT 1) (aq aN))))) (aq (bU (aT 1) (aq aN))))))))
abbrev BB:Stmt:=inClass (top 28) 17
def al8:cw ["self"] ["self"] (bQ BB):=unop%cM 0
def Lz(F:cb K "take_wrong" "Course.take_wrong" BB f fd)(m:Meth K bC "take_wrong" f)(a0:unop%d8 0)(g7:cQ P w K mg base bC 0 "tell" k 3 fZ)(xG:cQ P w K mg base bC 0 "be_loud" k 1 s7){Lf:Tok}(asT:mg "WRONG_IN_A_ROW"=some (.int 3 Lf)){Le:Tok}(asS:mg "TICKS_LOCKED"=some (.int 90 Le)):cQ P w K mg base bC 0 "take_wrong" (k+1) 1 u4:=
 hG F al8 (unop%b2 F) m unop%lm
  (ass (dU (eN a0 g7 aw (a4 0) (az bM (az me a')))) (ass (VE (j:=8) a0 (a4 0) aN) (ba (dh (g8 (DH.or C1) Du (gC (j:=8) a0 (a4 0)) (aq (Rm asT))) (ass (fK (j:=8) a0 (a4 0) aN) (ass (fK (j:=9) a0 (a4 0) (Rm asS)) (ass (dU (asO a0 xG aw (a4 0))) (ba (dU (eN a0 g7 aw (a4 0) (az bM (az me a')))))))) ey))))
abbrev Bz:Stmt:=inClass (top 28) 20
def al7:cw ["self","deed","zone"] ["self","deed","zone"] (bQ Bz):=unop%cM 0
def Ly(F:cb K "is_untimely" "Course.is_untimely" Bz f fd)(m:Meth K bC "is_untimely" f)(a0:unop%d8 0)(th:Cl P w K mg base "kind_of" k 2 p0):e0 P w K mg base bC "is_untimely" (k+1) 3 oz:=
 oM F al7 (unop%gI F) m unop%lm
  (ass (dh (binop%fm (aT 1) (aq bM)) (ba (c7 sF)) ey) (ass (dh (binop%oh (gC (j:=1) a0 (a4 0)) (aq bM)) (ba (c7 sF)) ey) (ass (dh (binop%fm (aT 1) (aq bM)) (ba (c7 (KX (binop%uf (aq (dM th aw (az (iD (j:=0) a0 (a4 0)) (az (bh 2) a')))) (aq bM)) (OA (nR (p6 (by exact aw.units)) lC (aT 2) (gC (j:=5) a0 (a4 0))))))) ey) (ba (c7 (m2 (binop%uf (aT 1) (aq bM)) (rm (nR (yc (by exact aw.units)) lC (aT 2) (gC (j:=5) a0 (a4 0))))))))))
abbrev u3:Stmt:=inClass (top 28) 6
def RT:cw ["self","kinds","zones"] ["self","kinds"] (bQ u3):=unop%cM 0
def xC(F:cb K "bare_zones" "Course.bare_zones" u3 f fd)(m:Meth K bC "bare_zones" f)(a0:unop%d8 0):e0 P w K mg base bC "bare_zones" (k+1) 2 sZ:=
 oM F RT (unop%cm F) m unop%lm
  (ass (NG 2 RT.a_ (own:=["zone"]) (caps:=[(1,"kinds")]) (binop%co u3 ["self","kinds","zones"]) (k1 (bU (gC (j:=0) a0 (a4 0)) (aq aN))) (unop%dc (eE 0 (unop%a_ ["zone","kinds"]))) (unop%dc (yz (g8 (p6 (by exact aw.units)) lC (aq (bU (aT 0) (aq aN))) (aT 1)))) (unop%dc (bU (aT 0) (aq aN)))) (ba (c7 (kk (own:=["zone"]) (caps:=[(0,"self")]) (binop%co u3 ["self","kinds","zones"]) (k1 (bh 2)) (unop%dc (eE 0 (unop%a_ ["zone","self"]))) (unop%dc (yz (kN (w_and (binop%oh (aq (NJ (j:=4) (by exact a0) (by exact yW aw) (a4 1) (aT 0))) (aq bM)) (vw (g8 (yc (by exact aw.units)) lC (aT 0) (gC (j:=5) (by exact a0) (a4 1)))))))) (unop%dc (bh 0))))))
abbrev By:Stmt:=inClass (top 28) 19
def Lv:cw ["self","code","deed","zone","right","bare"] ["self","code","deed","zone"] (bQ By):=unop%cM 0
def Lw(F:cb K "what_is_against" "Course.what_is_against" By f fd)(m:Meth K bC "what_is_against" f)(a0:unop%d8 0)(Ly:e0 P w K mg base bC "is_untimely" k 3 oz)(xC:e0 P w K mg base bC "bare_zones" k 2 sZ){t7:asq}(afP:mg "KINDS_SHUT_TO_SET"=some (.ref t7))(alI:∃(o:Obj) (its:Array ak) (n:Nat),K.lookup t7=some o/\o.cls=.type "tuple"/\o.data=.seq its n/\its.size<=b8/\Vals ((["day","once"]:List Str).map V.str) its.toList):e0 P w K mg base bC "what_is_against" (k+1) 4 xx:=
 oM F Lv (unop%nZ F) m unop%lm
  (ass (asx 4 Lv.a_ (ZS (binop%fm (aT 2) (aq bM)) bM (bh 2))) (ass (dh (g8 (yc (by exact aw.units)) lC (aT 4) (aq (bU (aT 1) (aq aN)))) (ba (c7 (dC (az bM (az (bU (aT 1) (aq aN)) a'))))) ey) (ass (dh (tF (aq (tw a0 Ly aw (a4 0) (az (bh 2) (az (bh 3) a'))))) (ba (c7 (dC (az bM (az (bU (aT 1) (aq aN)) a'))))) ey) (ass (asx 5 Lv.a_ (tw a0 xC aw (a4 0) (az (uC afP alI) a'))) (ass (dh (kN (w_and (binop%fm (aT 2) (aq bM)) (vw (VA (aT 5))))) (ba (c7 (dC (az bM (az (bU (aT 5) (aq aN)) a'))))) ey) (ba (c7 me)))))))
abbrev BA:Stmt:=inClass (top 28) 13
def RQ:cw ["self","zone"] ["self"] (bQ BA):=unop%cM 0
def xy(F:cb K "end_leaving" "Course.end_leaving" BA f fd)(m:Meth K bC "end_leaving" f)(a0:unop%d8 0)(g7:cQ P w K mg base bC 0 "tell" k 3 fZ)(xC:e0 P w K mg base bC "bare_zones" k 2 sZ)(oA:cQ P w K mg base bC 0 "alarm" k 2 asI){t6:asq}(afO:mg "KINDS_LEFT_BY"=some (.ref t6))(alF:∃(o:Obj) (its:Array ak) (n:Nat),K.lookup t6=some o/\o.cls=.type "tuple"/\o.data=.seq its n/\its.size<=b8/\Vals ((["inner","way"]:List Str).map V.str) its.toList):cQ P w K mg base bC 0 "end_leaving" (k+1) 1 sW:=
 hG F RQ (unop%b2 F) m unop%lm
  (ass (fK (j:=1) a0 (a4 0) bM) (ass (fK (j:=2) a0 (a4 0) aN) (ass (dU (eN a0 g7 aw (a4 0) (az bM (az me a')))) (ba (m1 l3 (k1 (tw a0 xC aw (a4 0) (az (uC afO alF) a'))) (eE 1 RQ.a_) (ba (dU (eN a0 oA aw (a4 0) (az (bh 1) a')))))))))
abbrev BS:Stmt:=inClass (top 28) 22
def amr:cw ["self","who"] ["self","who"] (bQ BS):=unop%cM 0
def LV(F:cb K "do_set" "Course.do_set" BS f fd)(m:Meth K bC "do_set" f)(a0:unop%d8 0)(g7:cQ P w K mg base bC 0 "tell" k 3 fZ)(xy:cQ P w K mg base bC 0 "end_leaving" k 1 sW):cQ P w K mg base bC 0 "do_set" (k+1) 2 u':=
 hG F amr (unop%cm F) m unop%lm
  (ass (rd (j:=7) a0 (a4 0) (vM a')) (ass (fK (j:=6) a0 (a4 0) aN) (ass (fK (j:=1) a0 (a4 0) bM) (ass (fK (j:=2) a0 (a4 0) (bU (aq (bU (gC (j:=0) a0 (a4 0)) (aq aN))) (aq aN))) (ass (dU (eN a0 g7 aw (a4 0) (az bM (az (bh 1) a')))) (ba (dh (g8 (asY.or td) asW (gC (j:=2) a0 (a4 0)) (aq aN)) (ba (dU (asO a0 xy aw (a4 0)))) ey)))))))
abbrev BH:Stmt:=inClass (top 28) 23
def ame:cw ["self","who"] ["self","who"] (bQ BH):=unop%cM 0
def LJ(F:cb K "do_unset" "Course.do_unset" BH f fd)(m:Meth K bC "do_unset" f)(a0:unop%d8 0)(g7:cQ P w K mg base bC 0 "tell" k 3 fZ):cQ P w K mg base bC 0 "do_unset" (k+1) 2 xD:=
 hG F ame (unop%cm F) m unop%lm
  (ass (fK (j:=1) a0 (a4 0) bM) (ass (fK (j:=2) a0 (a4 0) aN) (ass (fK (j:=6) a0 (a4 0) aN) (ass (fK (j:=3) a0 (a4 0) me) (ass (rd (j:=5) a0 (a4 0) (vM a')) (ba (dU (eN a0 g7 aw (a4 0) (az bM (az (bh 1) a'))))))))))
abbrev BJ:Stmt:=inClass (top 28) 21
def amh:cw ["self","who","deed","zone"] ["self","who","deed","zone"] (bQ BJ):=unop%cM 0
def LO(F:cb K "do_deed" "Course.do_deed" BJ f fd)(m:Meth K bC "do_deed" f)(a0:unop%d8 0)(LV:cQ P w K mg base bC 0 "do_set" k 2 u')(LJ:cQ P w K mg base bC 0 "do_unset" k 2 xD)(asV:mg "sorted"=none)(g7:cQ P w K mg base bC 0 "tell" k 3 fZ):cQ P w K mg base bC 0 "do_deed" (k+1) 4 q4:=
 hG F amh (unop%nZ F) m unop%lm
  (ba (dh (binop%fm (aT 2) (aq bM)) (ba (dU (eN a0 LV aw (a4 0) (az (bh 1) a')))) (ba (dh (binop%fm (aT 2) (aq bM)) (ba (dU (eN a0 LJ aw (a4 0) (az (bh 1) a')))) (ba (dh (binop%fm (aT 2) (aq bM)) (ass (rd (j:=5) a0 (a4 0) (aoz rfl asV (aq (ho (gC (j:=5) a0 (a4 0)) (aq (Yw (az (bh 3) a'))))))) (ba (dU (eN a0 g7 aw (a4 0) (az bM (az (bh 3) a')))))) (ass (ZH (j:=5) a0 (a4 0) (bh 3)) (ba (dU (eN a0 g7 aw (a4 0) (az bM (az (bh 3) a'))))))))))))
abbrev BC:Stmt:=inClass (top 28) 18
def RR:cw ["self","code","deed","zone","against"] ["self","code","deed","zone"] (bQ BC):=unop%cM 0
def LA(F:cb K "take_right" "Course.take_right" BC f fd)(m:Meth K bC "take_right" f)(a0:unop%d8 0)(Lw:e0 P w K mg base bC "what_is_against" k 4 xx)(LO:cQ P w K mg base bC 0 "do_deed" k 4 q4)(g7:cQ P w K mg base bC 0 "tell" k 3 fZ):cQ P w K mg base bC 0 "take_right" (k+1) 4 as1:=
 hG F RR (unop%nZ F) m unop%lm
  (ass (asx 4 RR.a_ (tw a0 Lw aw (a4 0) (az (bh 1) (az (bh 2) (az (bh 3) a'))))) (ba (dh (N2 (aT 4)) (ass (aqx (j:=10) a0 (yW aw) (a4 0) (aq (bU (aT 1) (aq aN))) aN) (ba (dU (eN a0 LO aw (a4 0) (az (bU (aT 1) (aq aN)) (az (bh 2) (az (bh 3) a'))))))) (ba (dU (eN a0 g7 aw (a4 0) (az (bU (aT 4) (aq aN)) (az (bU (aT 4) (aq aN)) a'))))))))
abbrev B7:Stmt:=inClass (top 28) 15
def R9:cw ["self","figures","deed","zone","code"] ["self","figures","deed","zone"] (bQ B7):=unop%cM 0
def L8(F:cb K "code" "Course.code" B7 f fd)(m:Meth K bC "code" f)(a0:unop%d8 0)(MM:Cl P w K mg base "code_of" k 2 yf)(g7:cQ P w K mg base bC 0 "tell" k 3 fZ)(LB:e0 P w K mg base bC "is_used_up" k 2 u6)(Lz:cQ P w K mg base bC 0 "take_wrong" k 1 u4)(LA:cQ P w K mg base bC 0 "take_right" k 4 as1):cQ P w K mg base bC 0 "code" (k+1) 4 q9:=
 hG F R9 (unop%nZ F) m unop%lm
  (ass (asx 4 R9.a_ (dM MM aw (az (iD (j:=0) a0 (a4 0)) (az (bh 1) a')))) (ba (dh (g8 (vP.or vg) vB (gC (j:=9) a0 (a4 0)) (aq aN)) (ba (dU (eN a0 g7 aw (a4 0) (az bM (az me a'))))) (ba (dh (kN (w_or (N2 (aT 4)) (p_ (tF (aq (tw a0 LB aw (a4 0) (az (bh 4) a'))))))) (ba (dU (asO a0 Lz aw (a4 0)))) (ass (fK (j:=8) a0 (a4 0) aN) (ba (dU (eN a0 LA aw (a4 0) (az (bh 4) (az (bh 2) (az (bh 3) a'))))))))))))
abbrev Cv:Stmt:=top 27
def anm:cw ["ticks","many"] ["ticks","many"] (bQ Cv):=unop%cM 0
def x7(F:cb K "lessened" "lessened" Cv f fd)(m:mg "lessened"=some (.ref f))(tq:mg "max"=none):Cl P w K mg base "lessened" (k+1) 2 tb:=
 fs F anm (unop%cm F) m unop%lm
  (ba (c7 (ZQ tq (fE (aq (N4 (aT 0) (aT 1))) (fE (aq aN) fL)))))
abbrev BF:Stmt:=inClass (top 28) 11
def al_:cw ["self","many"] ["self","many"] (bQ BF):=unop%cM 0
def xB(F:cb K "count_down" "Course.count_down" BF f fd)(m:Meth K bC "count_down" f)(a0:unop%d8 0)(x7:Cl P w K mg base "lessened" k 2 tb):cQ P w K mg base bC 0 "count_down" (k+1) 2 sY:=
 hG F al_ (unop%cm F) m unop%lm
  (ass (VE (j:=11) a0 (a4 0) (bh 1)) (ass (fK (j:=9) a0 (a4 0) (dM x7 aw (az (iD (j:=9) a0 (a4 0)) (az (bh 1) a')))) (ass (fK (j:=6) a0 (a4 0) (dM x7 aw (az (iD (j:=6) a0 (a4 0)) (az (bh 1) a')))) (ba (fK (j:=2) a0 (a4 0) (dM x7 aw (az (iD (j:=2) a0 (a4 0)) (az (bh 1) a'))))))))
abbrev BE:Stmt:=inClass (top 28) 14
def RS:cw ["self","zone"] ["self"] (bQ BE):=unop%cM 0
def LC(F:cb K "end_coming" "Course.end_coming" BE f fd)(m:Meth K bC "end_coming" f)(a0:unop%d8 0)(oA:cQ P w K mg base bC 0 "alarm" k 2 asI):cQ P w K mg base bC 0 "end_coming" (k+1) 1 xA:=
 hG F RS (unop%b2 F) m unop%lm
  (ass (asx 1 RS.a_ (iD (j:=3) a0 (a4 0))) (ass (fK (j:=1) a0 (a4 0) bM) (ass (fK (j:=3) a0 (a4 0) me) (ba (dU (eN a0 oA aw (a4 0) (az (bh 1) a')))))))
abbrev BG:Stmt:=inClass (top 28) 12
def amd:cw ["self"] ["self"] (bQ BG):=unop%cM 0
def LI(F:cb K "end_time" "Course.end_time" BG f fd)(m:Meth K bC "end_time" f)(a0:unop%d8 0)(xy:cQ P w K mg base bC 0 "end_leaving" k 1 sW)(LC:cQ P w K mg base bC 0 "end_coming" k 1 xA):cQ P w K mg base bC 0 "end_time" (k+1) 1 u9:=
 hG F amd (unop%b2 F) m unop%lm
  (ba (dh (binop%fm (gC (j:=1) a0 (a4 0)) (aq bM)) (ba (dU (asO a0 xy aw (a4 0)))) (ba (dU (asO a0 LC aw (a4 0))))))
abbrev BY:Stmt:=inClass (top 28) 10
def R5:cw ["self","many","rest"] ["self","many"] (bQ BY):=unop%cM 0
def LX(F:cb K "ticks" "Course.ticks" BY f fd)(m:Meth K bC "ticks" f)(a0:unop%d8 0)(xB:cQ P w K mg base bC 0 "count_down" k 2 sY)(LI:cQ P w K mg base bC 0 "end_time" k 1 u9):cQ P w K mg base bC 0 "ticks" (k+1) 2 q7:=
 hG F R5 (unop%cm F) m unop%lm
  (ass (dh (g8 (yQ.or yd) yG (aT 1) (aq aN)) (ba Nd) ey) (ba (dh (kN (w_and (g8 (p6 (by exact aw.units)) lC (gC (j:=1) a0 (a4 0)) (aq (dC (az bM (az bM a'))))) (vw (g8 (asY.or td) asW (gC (j:=2) a0 (a4 0)) (aT 1))))) (ass (asx 2 R5.a_ (N4 (aT 1) (gC (j:=2) a0 (a4 0)))) (ass (dU (eN a0 xB aw (a4 0) (az (iD (j:=2) a0 (a4 0)) a'))) (ass (dU (asO a0 LI aw (a4 0))) (ba (dU (eN a0 xB aw (a4 0) (az (bh 2) a'))))))) (ba (dU (eN a0 xB aw (a4 0) (az (bh 1) a')))))))
abbrev BR:Stmt:=inClass (top 28) 2
def amq:cw ["self","event"] ["self","event"] (bQ BR):=unop%cM 0
def LU(F:cb K "happen" "Course.happen" BR f fd)(m:Meth K bC "happen" f)(a0:unop%d8 0)(L7:cQ P w K mg base bC 0 "line" k 3 xR)(L8:cQ P w K mg base bC 0 "code" k 4 q9)(LX:cQ P w K mg base bC 0 "ticks" k 2 q7):cQ P w K mg base bC 0 "happen" (k+1) 2 q5:=
 hG F amq (unop%cm F) m unop%lm
  (ba (dh (binop%fm (aq (bU (aT 1) (aq aN))) (aq bM)) (ba (dU (eN a0 L7 aw (a4 0) (az (bU (aT 1) (aq aN)) (az (bU (aT 1) (aq aN)) a'))))) (ba (dh (binop%fm (aq (bU (aT 1) (aq aN))) (aq bM)) (ba (dU (eN a0 L8 aw (a4 0) (az (bU (aT 1) (aq aN)) (az (bU (aT 1) (aq aN)) (az (bU (aT 1) (aq aN)) a')))))) (ba (dU (eN a0 LX aw (a4 0) (az (bU (aT 1) (aq aN)) a'))))))))
abbrev Ci:Stmt:=top 29
def L9:cw ["plan","state","row","course","event"] ["plan","state","row"] (bQ Ci):=unop%cM 0
def Me(ts:List T)(s:aI)(h:oC ts=some s):∃c os,s=.obj .own c os:=aps (b:=Mk) h
def s_(F:cb K "course_of" "course_of" Ci f fd)(m:mg "course_of"=some (.ref f))(a0:unop%d8 0)(aaF:oS P w K mg base "Course" bC 0 k 3 xE)(LU:cQ P w K mg base bC 0 "happen" k 2 q5):oT P w K mg base "course_of" (k+2) 3 oC:=
 Zk F L9 (unop%gI F) m unop%lm
  (ass (Dr 3 L9.a_ (yS a0 aaF aw (az (bh 0) (az (bh 1) a')))) (ass (m1 l3 (k1 (bh 2)) (eE 4 L9.a_) (ba (dU (eN a0 LU (aw.mono (fj _)) (a4 3) (az (bh 4) a'))))) (ba (arO (a4 3)))))
abbrev Dh:Stmt:=top 33
def apo:cw ["plan","state","row"] ["plan","state","row"] (bQ Dh):=unop%cM 0
def Nu(F:cb K "story" "story" Dh f fd)(m:mg "story"=some (.ref f))(a0:unop%d8 0)(dO:mg "tuple"=none)(s_:oT P w K mg base "course_of" k 3 oC):Cl P w K mg base "story" (k+1) 3 yu:=
 fs F apo (unop%gI F) m unop%lm
  (ba (c7 (kX dO (fE (aq (Tz (j:=12) a0 (NO s_ Me aw (az (bh 0) (az (bh 1) (az (bh 2) a')))))) fL))))
abbrev CU:Stmt:=inClass (top 37) 10
def anU:cw ["self"] ["self"] (bQ CU):=unop%cM 0
def ti(F:cb K "row" "Box.row" CU f fd)(m:Meth K cU "row" f)(cI:unop%d8 1)(dO:mg "tuple"=none):e0 P w K mg base cU "row" (k+1) 1 ma:=
 oM F anU (unop%b2 F) m unop%lm
  (ba (c7 (kX dO (fE (gC (j:=1) cI (a4 0)) fL))))
abbrev CV:Stmt:=inClass (top 37) 8
def anV:cw ["self"] ["self"] (bQ CV):=unop%cM 0
def MN(F:cb K "log" "Box.log" CV f fd)(m:Meth K cU "log" f)(cI:unop%d8 1)(Nu:Cl P w K mg base "story" k 3 yu)(ti:e0 P w K mg base cU "row" k 1 ma):e0 P w K mg base cU "log" (k+1) 1 tf:=
 oM F anV (unop%b2 F) m unop%lm
  (ba (c7 (dM Nu aw (az (iD (j:=0) cI (a4 0)) (az (bU (gC (j:=2) cI (a4 0)) (aq aN)) (az (oH cI ti aw (a4 0)) a'))))))
abbrev CR:Stmt:=top 57
def anS:cw ["_law_box"] ["_law_box"] (bQ CR):=unop%cM 0
def oG(F:cb K "_law_asked" "_law_asked" CR f fd)(m:mg "_law_asked"=some (.ref f))(cI:unop%d8 1)(asL:e0 P w K mg base cU "state" k 1 ki)(Mj:e0 P w K mg base cU "shown" k 1 s9)(MN:e0 P w K mg base cU "log" k 1 tf)(ti:e0 P w K mg base cU "row" k 1 ma):qd P w K mg base "_law_asked" (k+1) 1 hk:=
 Zj F anS (unop%b2 F) m unop%lm
  (ba (c7 (dC (az (oH cI asL aw (a4 0)) (az (oH cI Mj aw (a4 0)) (az (oH cI MN aw (a4 0)) (az (oH cI ti aw (a4 0)) a')))))))
abbrev BU:Stmt:=inClass (top 37) 5
def ams:cw ["self","zone"] ["self","zone"] (bQ BU):=unop%cM 0
def xK(F:cb K "need_zone" "Box.need_zone" BU f fd)(m:Meth K cU "need_zone" f)(cI:unop%d8 1)(th:Cl P w K mg base "kind_of" k 2 p0):e0 P w K mg base cU "need_zone" (k+1) 2 q6:=
 oM F ams (unop%cm F) m unop%lm
  (ba (N3 (dM th aw (az (iD (j:=0) cI (a4 0)) (az (bh 1) a')))))
abbrev yo:Stmt:=top 31
def apn:cw ["plan","state","event"] ["plan","state","event"] (bQ yo):=unop%cM 0
def Nt(F:cb K "words" "words" yo f fd)(m:mg "words"=some (.ref f))(a0:unop%d8 0)(dO:mg "tuple"=none)(s_:oT P w K mg base "course_of" k 3 oC):Cl P w K mg base "words" (k+1) 3 yt:=
 fs F apn (unop%gI F) m unop%lm
  (ba (c7 (kX dO (fE (aq (kk (own:=["past","word","name"]) (caps:=[]) (binop%co yo ["plan","state","event"]) (k1 (Tz (j:=12) a0 (NO s_ Me aw (az (bh 0) (az (bh 1) (az (dC (az (bh 2) a')) a')))))) (unop%dc (vT (asJ (eE 0 (unop%a_ ["past","word","name"])) (asJ (eE 1 (unop%a_ ["past","word","name"])) (asJ (eE 2 (unop%a_ ["past","word","name"])) vU))))) (unop%dc lz) (unop%dc (dC (az (bh 1) (az (bh 2) a')))))) fL))))
abbrev BZ:Stmt:=inClass (top 28) 1
def xI:cw ["self","lines","shunts","alarms","used"] ["self"] (bQ BZ):=unop%cM 0
def LY(F:cb K "state" "Course.state" BZ f fd)(m:Meth K bC "state" f)(a0:unop%d8 0)(dO:mg "tuple"=none):e0 P w K mg base bC "state" (k+1) 1 xN:=
 oM F xI (unop%b2 F) m unop%lm
  (ass (asx 1 xI.a_ (U6 (j:=4) a0 rfl dO (a4 0))) (ass (asx 2 xI.a_ (kX dO (fE (gC (j:=5) a0 (a4 0)) fL))) (ass (asx 3 xI.a_ (kX dO (fE (gC (j:=7) a0 (a4 0)) fL))) (ass (asx 4 xI.a_ (U6 (j:=10) a0 rfl dO (a4 0))) (ba (c7 (dC (az (iD (j:=1) a0 (a4 0)) (az (iD (j:=2) a0 (a4 0)) (az (iD (j:=3) a0 (a4 0)) (az (bh 1) (az (bh 2) (az (iD (j:=6) a0 (a4 0)) (az (bh 3) (az (iD (j:=8) a0 (a4 0)) (az (iD (j:=9) a0 (a4 0)) (az (bh 4) a')))))))))))))))))
abbrev Dq:Stmt:=top 30
def aqv:cw ["plan","state","event"] ["plan","state","event"] (bQ Dq):=unop%cM 0
def NY(F:cb K "gone" "gone" Dq f fd)(m:mg "gone"=some (.ref f))(a0:unop%d8 0)(LY:e0 P w K mg base bC "state" k 1 xN)(s_:oT P w K mg base "course_of" k 3 oC):Cl P w K mg base "gone" (k+1) 3 yK:=
 fs F aqv (unop%gI F) m unop%lm
  (ba (c7 (ZO a0 LY aw (NO s_ Me aw (az (bh 0) (az (bh 1) (az (dC (az (bh 2) a')) a')))))))
abbrev B':Stmt:=inClass (top 37) 1
def L0:cw ["self","event","told","behind"] ["self","event"] (bQ B'):=unop%cM 0
def s8(F:cb K "happen" "Box.happen" B' f fd)(m:Meth K cU "happen" f)(cI:unop%d8 1)(Nt:Cl P w K mg base "words" k 3 yt)(NY:Cl P w K mg base "gone" k 3 yK)(asL:e0 P w K mg base cU "state" k 1 ki):cQ P w K mg base cU 1 "happen" (k+1) 2 oB:=
 hG F L0 (unop%cm F) m unop%lm
  (ass (asx 2 L0.a_ (dM Nt aw (az (iD (j:=0) cI (a4 0)) (az (oH cI asL aw (a4 0)) (az (bh 1) a'))))) (ass (asx 3 L0.a_ (dM NY aw (az (iD (j:=0) cI (a4 0)) (az (oH cI asL aw (a4 0)) (az (bh 1) a'))))) (ass (Ds (j:=1) cI (a4 0) (bh 1)) (ass (Ds (j:=2) cI (a4 0) (bh 3)) (ba (arP (bh 2)))))))
abbrev CA:Stmt:=inClass (top 37) 2
def ant:cw ["self","zone","what"] ["self","zone","what"] (bQ CA):=unop%cM 0
def Mt(F:cb K "line" "Box.line" CA f fd)(m:Meth K cU "line" f)(cI:unop%d8 1)(xK:e0 P w K mg base cU "need_zone" k 2 q6)(s8:cQ P w K mg base cU 1 "happen" k 2 oB):cQ P w K mg base cU 1 "line" (k+1) 3 x4:=
 hG F ant (unop%gI F) m unop%lm
  (ass (N3 (tw cI xK aw (a4 0) (az (bh 1) a'))) (ba (NF (eN cI s8 aw (a4 0) (az (dC (az bM (az (bh 1) (az (bh 2) a')))) a')))))
abbrev CB:Stmt:=inClass (top 37) 3
def anu:cw ["self","figures","deed","zone"] ["self","figures","deed","zone"] (bQ CB):=unop%cM 0
def Mu(F:cb K "code" "Box.code" CB f fd)(m:Meth K cU "code" f)(cI:unop%d8 1)(s8:cQ P w K mg base cU 1 "happen" k 2 oB)(xK:e0 P w K mg base cU "need_zone" k 2 q6){o_:asq}(J5:mg "DEEDS_OF_ZONES"=some (.ref o_))(Ld:∃(o:Obj) (its:Array ak) (n:Nat),K.lookup o_=some o/\o.cls=.type "tuple"/\o.data=.seq its n/\its.size<=b8/\Vals ((["shunt","free"]:List Str).map V.str) its.toList):cQ P w K mg base cU 1 "code" (k+1) 4 x5:=
 hG F anu (unop%nZ F) m unop%lm
  (ass (dh (kN (w_or (arI (aT 3)) (p_ (g8 (p6 (by exact aw.units)) lC (aT 2) (aq (uC J5 Ld)))))) (ba (N3 (tw cI xK aw (a4 0) (az (bh 3) a')))) ey) (ba (NF (eN cI s8 aw (a4 0) (az (dC (az bM (az (bh 1) (az (bh 2) (az (bh 3) a'))))) a')))))
abbrev Cj:Stmt:=inClass (top 37) 4
def am3:cw ["self","many"] ["self","many"] (bQ Cj):=unop%cM 0
def Mi(F:cb K "ticks" "Box.ticks" Cj f fd)(m:Meth K cU "ticks" f)(cI:unop%d8 1)(s8:cQ P w K mg base cU 1 "happen" k 2 oB):cQ P w K mg base cU 1 "ticks" (k+1) 2 xY:=
 hG F am3 (unop%cm F) m unop%lm
  (ba (NF (eN cI s8 aw (a4 0) (az (dC (az bM (az (bh 1) a'))) a'))))
abbrev Dp:Stmt:=top 56
def aqu:cw ["_law_box","_law_event_here"] ["_law_box","_law_event_here"] (bQ Dp):=unop%cM 0
def vI(F:cb K "_law_do" "_law_do" Dp f fd)(m:mg "_law_do"=some (.ref f))(cI:unop%d8 1)(Mt:cQ P w K mg base cU 1 "line" k 3 x4)(Mu:cQ P w K mg base cU 1 "code" k 4 x5)(Mi:cQ P w K mg base cU 1 "ticks" k 2 xY):asR P w K mg base "_law_do" 1 0 (k+1) 2 lE:=
 Zl F aqu (unop%cm F) m unop%lm
  (ba (dh (binop%fm (aq (bU (aT 1) (aq aN))) (aq bM)) (ba (dU (eN cI Mt aw (a4 0) (az (bU (aT 1) (aq aN)) (az (bU (aT 1) (aq aN)) a'))))) (ba (dh (binop%fm (aq (bU (aT 1) (aq aN))) (aq bM)) (ba (dU (eN cI Mu aw (a4 0) (az (bU (aT 1) (aq aN)) (az (bU (aT 1) (aq aN)) (az (bU (aT 1) (aq aN)) a')))))) (ba (dU (eN cI Mi aw (a4 0) (az (bU (aT 1) (aq aN)) a'))))))))
abbrev Cz:Stmt:=inClass (top 37) 9
def ans:cw ["self"] ["self"] (bQ Cz):=unop%cM 0
def CH(F:cb K "undo" "Box.undo" Cz f fd)(m:Meth K cU "undo" f)(cI:unop%d8 1):cQ P w K mg base cU 1 "undo" (k+1) 1 oE:=
 hG F ans (unop%b2 F) m unop%lm
  (ass (dh (tL (VA (gC (j:=1) cI (a4 0)))) (ba Nf) ey) (ass (VD (j:=1) cI (a4 0)) (ba (VD (j:=2) cI (a4 0)))))
abbrev tM:Stmt:=top 58
def lB:cw ["_law_script","_law_plan_here","_law_row_here","_law_plain","_law_box","_law_k","_law_event_here","_law_extra","_law_before","_law_one","_law_third"] ["_law_script"] (bQ tM):=unop%cM 0
def Z_(F:cb K "law" "law" tM f fd)(cI:unop%d8 1)(M_:Cl P w K mg base "_law_plan" k 1 Dc)(Dk:Cl P w K mg base "_law_row" k 3 tE)(zf:oS P w K mg base "Box" cU 1 k 2 nF)(nO:mg "enumerate"=none)(Mq:Cl P w K mg base "read_row" k 2 r2)(yg:Cl P w K mg base "_law_mixed" k 2 ly)(oG:qd P w K mg base "_law_asked" k 1 hk)(vI:asR P w K mg base "_law_do" 1 0 k 2 lE)(x6:Cl P w K mg base "row_text" k 1 qp)(CH:cQ P w K mg base cU 1 "undo" k 1 oE)(ti:e0 P w K mg base cU "row" k 1 ma)(asL:e0 P w K mg base cU "state" k 1 ki)(yv:Cl P w K mg base "begun" k 1 rh):eY P w K mg base eX (k+2) f fd ["_law_script"] (spT K 1 vV):=
 NV F lB unop%lm
  (ass (asx 1 lB.a_ (dM M_ (aw.mono (fj _)) (az (dM yg (aw.mono (fj _)) (az (bh 0) (az aN a'))) a'))) (ass (asx 2 lB.a_ (dM Dk (aw.mono (fj _)) (az (bh 1) (az (dM yg (aw.mono (fj _)) (az (bh 0) (az aN a'))) (az aN a'))))) (ass (Dr 3 lB.a_ (yS cI zf aw (az (bh 1) a'))) (ass (Dr 4 lB.a_ (yS cI zf aw (az (bh 1) a'))) (ass (m1 l3 (NT nO (bh 2)) (vT (asJ (eE 5 lB.a_) (asJ (eE 6 lB.a_) vU))) (ass (asx 7 lB.a_ (dM Dk (aw.mono (fj _)) (az (bh 1) (az (dM yg (aw.mono (fj _)) (az (bh 0) (az (ho (aq aN) (aq (gj (aT 5) (aq aN)))) a'))) (az aN a'))))) (ass (asx 8 lB.a_ (tx oG (aw.mono (fj _)) (rS (a4 4) tJ))) (ass (m1 l3 (k1 (bh 7)) (eE 9 lB.a_) (ba (dU (Dg cI vI (aw.mono (fj _)) (a4 4) (az (bh 9) a'))))) (ass (m1 l3 (k1 (bh 7)) (eE 9 lB.a_) (ba (dU (asO cI CH (aw.mono (fj _)) (a4 4))))) (ass (dh (binop%oh (aq (tx oG (aw.mono (fj _)) (rS (a4 4) tJ))) (aT 8)) (ba (c7 sF)) ey) (ass (dU (Dg cI vI (aw.mono (fj _)) (a4 4) (az (bh 6) a'))) (ass (dU (Dg cI vI (aw.mono (fj _)) (a4 3) (az (bh 6) a'))) (ba (dh (binop%oh (aq (tx oG (aw.mono (fj _)) (rS (a4 4) tJ))) (aq (tx oG (aw.mono (fj _)) (rS (a4 3) tJ)))) (ba (c7 sF)) ey)))))))))) (ass (Dr 10 lB.a_ (yS cI zf aw (az (bh 1) a'))) (ass (m1 l3 (k1 (dM Mq (aw.mono (fj _)) (az (bh 1) (az (dM x6 (aw.mono (fj _)) (az (oH cI ti (aw.mono (fj _)) (a4 4)) a')) a')))) (eE 6 lB.a_) (ba (dU (Dg cI vI (aw.mono (fj _)) (a4 10) (az (bh 6) a'))))) (ass (dh (binop%oh (aq (tx oG (aw.mono (fj _)) (rS (a4 10) tJ))) (aq (tx oG (aw.mono (fj _)) (rS (a4 4) tJ)))) (ba (c7 sF)) ey) (ass (m1 l3 (k1 (bh 2)) (eE 6 lB.a_) (ba (dU (asO cI CH (aw.mono (fj _)) (a4 4))))) (ba (c7 (m2 (binop%uf (aq (tx oG (aw.mono (fj _)) (rS (a4 4) tJ))) (aq (apy cI oG (aw.mono (fj _)) (yS cI zf aw (az (bh 1) a'))))) (rm (binop%uf (aq (oH cI asL (aw.mono (fj _)) (a4 4))) (aq (dM yv (aw.mono (fj _)) (az (bh 1) a')))))))))))))))))
end
end o3
end
section
namespace D
open PySem
def C8(ss:List Str)(h:∀x∈ss,(kg x).canLay0=true):ke (ss.map .str)=true/\jm (ss.map .str)<=1:=by
 induction ss with
|nil=>simp[ke,jm]
|cons n ns bY=>
  have af:=h n (by simp);have ai:=bY λx hx=>h x (by simp[hx]);simp[ke,jm,jq,af,ai]
theorem M4(n:Str):∀ns:List Str,nr (.str n) (ns.map .str)=decide (n∈ns)
| []=>by simp[nr]
|m::ns=>by
  have bY:=M4 n ns;unfold nr at bY ⊢;rw[c9,List.any_cons,bY];simp[jn,Bool.beq_eq_decide_eq,eq_comm]
def vq(n:Int):ff (.int n)=true:=by simp[ff,PyData.canLay0,jq]
def vp{x:Str}(h:(kg x).canLay0=true):ff (.str x)=true:=by simp[ff,jq,h]
def TB(ss:List Str)(h:∀x∈ss,(kg x).canLay0=true):pK (ss.map .str)=true:=by
 have:=C8 ss h;simp[pK,this.1];omega
def aq9(neg:Bool)(n:Str)(ns:List Str)(h0:(kg n).canLay0=true)(h:∀x∈ns,(kg x).canLay0=true):eP neg (.str n) (.tuple (ns.map .str))=some (.bool (if neg then !decide (n∈ns) else decide (n∈ns))):=by
 simp only[eP,vp h0,TB ns h,M4,Bool.and_self,if_true]
end D
end
section
namespace bI
open D PySem
structure hI where
 fa:Str
 i8:Str
 kI:List Str
 uses:Int
structure aV where
 cz:List (Str×Str)
 codes:List hI
 leave:Int
 m_:Int
 loud:Int
structure aU where
 mode:Str
 left:Int
 g_:Option Str
 lines:List (Str×Str)
 dY:List Str
 fJ:Int
 c_:List Str
 tries:Int
 locked:Int
 used:List (Str×Int)
 past:Int
 told:List (Int×Str×Option Str)
def eQ:Option Str->T
|none=>.none
|some x=>.str x
def eh(z:Str×Str):T:=.tuple [.str z.1,.str z.2]
def dV(c:hI):T:=.tuple [.str c.fa,.str c.i8,.tuple (c.kI.map .str),.int c.uses]
def b3(p:aV):T:=.tuple [.tuple (p.cz.map eh),.tuple (p.codes.map dV),.tuple [.int p.leave,.int p.m_,.int p.loud]]
def mu(w:Int×Str×Option Str):T:=.tuple [.int w.1,.str w.2.1,eQ w.2.2]
def h4(l:List (Str×Str)):List (D.Key×T):=l.map λp=>(.inr p.1,.str p.2)
def h3(l:List (Str×Int)):List (D.Key×T):=l.map λp=>(.inr p.1,.int p.2)
noncomputable def encC(p:aV)(c:aU):List aI:=[.ae (b3 p),.ae (.str c.mode),.ae (.int c.left),.ae (eQ c.g_),.hu (h4 c.lines),.own (c.dY.map .str),.ae (.int c.fJ),.own (c.c_.map .str),.ae (.int c.tries),.ae (.int c.locked),.hu (h3 c.used),.ae (.int c.past),.own (c.told.map mu)]
def Se:¬(("off":Str)="leaving"):=by decide +kernel
def UG:¬(("off":Str)="on"):=by decide +kernel
def Cc:¬(("off":Str)="coming"):=by decide +kernel
def Sf:¬(("leaving":Str)="off"):=by decide +kernel
def Sr:¬(("leaving":Str)="on"):=by decide +kernel
def LM:¬(("leaving":Str)="coming"):=by decide +kernel
def UE:¬(("on":Str)="off"):=by decide +kernel
def Sp:¬(("on":Str)="leaving"):=by decide +kernel
def Cp:¬(("on":Str)="coming"):=by decide +kernel
def Su:¬(("coming":Str)="off"):=by decide +kernel
def R2:¬(("coming":Str)="leaving"):=by decide +kernel
def zev:¬(("coming":Str)="on"):=by decide +kernel
def SD:¬(("shut":Str)="open"):=by decide +kernel
def S_:¬(("shut":Str)="cut"):=by decide +kernel
def SF:¬(("open":Str)="shut"):=by decide +kernel
def S':¬(("open":Str)="cut"):=by decide +kernel
def Td:¬(("cut":Str)="shut"):=by decide +kernel
def Te:¬(("cut":Str)="open"):=by decide +kernel
def SJ:¬(("day":Str)="inner"):=by decide +kernel
def Tc:¬(("day":Str)="once"):=by decide +kernel
def TJ:¬(("day":Str)="way"):=by decide +kernel
def SI:¬(("inner":Str)="day"):=by decide +kernel
def Ss:¬(("inner":Str)="once"):=by decide +kernel
def SH:¬(("inner":Str)="way"):=by decide +kernel
def Tb:¬(("once":Str)="day"):=by decide +kernel
def So:¬(("once":Str)="inner"):=by decide +kernel
def Ta:¬(("once":Str)="way"):=by decide +kernel
def TH:¬(("way":Str)="day"):=by decide +kernel
def SA:¬(("way":Str)="inner"):=by decide +kernel
def S9:¬(("way":Str)="once"):=by decide +kernel
def SE:¬(("set":Str)="unset"):=by decide +kernel
def Mf:¬(("set":Str)="shunt"):=by decide +kernel
def CC:¬(("set":Str)="free"):=by decide +kernel
def Cn:¬(("unset":Str)="set"):=by decide +kernel
def L1:¬(("unset":Str)="shunt"):=by decide +kernel
def Cb:¬(("unset":Str)="free"):=by decide +kernel
def Co:¬(("shunt":Str)="set"):=by decide +kernel
def xP:¬(("shunt":Str)="unset"):=by decide +kernel
def Sn:¬(("shunt":Str)="free"):=by decide +kernel
def CD:¬(("free":Str)="set"):=by decide +kernel
def xU:¬(("free":Str)="unset"):=by decide +kernel
def xV:¬(("free":Str)="shunt"):=by decide +kernel
def SG:¬(("line":Str)="code"):=by decide +kernel
def Sq:¬(("line":Str)="ticks"):=by decide +kernel
def SK:¬(("code":Str)="line"):=by decide +kernel
def Sv:¬(("code":Str)="ticks"):=by decide +kernel
def Sl:¬(("ticks":Str)="line"):=by decide +kernel
def Sm:¬(("ticks":Str)="code"):=by decide +kernel
def tell(w:Str)(n:Option Str)(c:aU):aU:={c with told:=c.told++[(c.past,w,n)]}
def k5(p:aV)(c:aU):aU:={c with fJ:=p.loud}
def f9(p:aV)(z:Str)(c:aU):aU:=if z∈c.c_ then k5 p c else tell "alarm" (some z) {k5 p c with c_:=c.c_++[z]}
section
variable (p:aV)(c:aU)
def DO:(encC p c).length=13:=rfl
def de:(encC p c)[0]?=some (.ae (b3 p)):=rfl
def aG:(encC p c)[1]?=some (.ae (.str c.mode)):=rfl
def aS:(encC p c)[2]?=some (.ae (.int c.left)):=rfl
def d5:(encC p c)[3]?=some (.ae (eQ c.g_)):=rfl
def gU:(encC p c)[4]?=some (.hu (h4 c.lines)):=rfl
def nf:(encC p c)[5]?=some (.own (c.dY.map .str)):=rfl
def k7:(encC p c)[6]?=some (.ae (.int c.fJ)):=rfl
def n4:(encC p c)[7]?=some (.own (c.c_.map .str)):=rfl
def asQ:(encC p c)[8]?=some (.ae (.int c.tries)):=rfl
def qs:(encC p c)[9]?=some (.ae (.int c.locked)):=rfl
def zl:(encC p c)[10]?=some (.hu (h3 c.used)):=rfl
def zm:(encC p c)[11]?=some (.ae (.int c.past)):=rfl
def uc:(encC p c)[12]?=some (.own (c.told.map mu)):=rfl
def s1(x:Str):(encC p c).set 1 (.ae (.str x))=encC p {c with mode:=x}:=rfl
def s2(x:Int):(encC p c).set 2 (.ae (.int x))=encC p {c with left:=x}:=rfl
def s3(x:Str):(encC p c).set 3 (.ae (.str x))=encC p {c with g_:=some x}:=rfl
def A9:(encC p c).set 3 (.ae .none)=encC p {c with g_:=none}:=rfl
def s4(l:List (Str×Str)):(encC p c).set 4 (.hu (h4 l))=encC p {c with lines:=l}:=rfl
def s5(l:List Str):(encC p c).set 5 (.own (l.map .str))=encC p {c with dY:=l}:=rfl
def A_:(encC p c).set 5 (.own [])=encC p {c with dY:=[]}:=rfl
def g4(x:Int):(encC p c).set 6 (.ae (.int x))=encC p {c with fJ:=x}:=rfl
def dX(l:List Str):(encC p c).set 7 (.own (l.map .str))=encC p {c with c_:=l}:=rfl
def Ba:(encC p c).set 7 (.own [])=encC p {c with c_:=[]}:=rfl
def A'(l:List Str)(z:Str):(encC p c).set 7 (.own (l.map .str++[.str z]))=encC p {c with c_:=l++[z]}:=by simp[encC]
def eC(x:Int):(encC p c).set 8 (.ae (.int x))=encC p {c with tries:=x}:=rfl
def g5(x:Int):(encC p c).set 9 (.ae (.int x))=encC p {c with locked:=x}:=rfl
def gh(l:List (Str×Int)):(encC p c).set 10 (.hu (h3 l))=encC p {c with used:=l}:=rfl
def A7(x:Int):(encC p c).set 11 (.ae (.int x))=encC p {c with past:=x}:=rfl
def A8(l:List (Int×Str×Option Str))(i:Int)(w:Str)(n:Option Str):(encC p c).set 12 (.own (l.map mu++[.tuple [.int i,.str w,eQ n]]))=encC p {c with told:=l++[(i,w,n)]}:=by simp[encC,mu]
end
end bI
open D bI
open PySem hiding run fresh code
local macro_rules
| `(tactic| simp! [hQ,$xs,*] $[$l]?)=>`(tactic| simp[DO,de,aG,aS,d5,gU,nf,k7,n4,asQ,qs,zl,zm,uc,s1,s2,s3,A9,s4,s5,A_,g4,dX,Ba,A',eC,g5,gh,A7,A8,runM,gu,kZ,jQ,cS,cW,d3,qQ,p',lX,eJ,jT,pd,lM,gw,dx,fld,fA,nj,k8,ni,ru,rB,qb,never,we,pE,hW,cT,seq,iff,bB,ih,f_,eM,fU,dy,ofT,dm,ag,aX,args,aa,nm,aJ,bO,skip,asg,ku,kv,par,b6,gD,hg,iI,aW,e9,fS,bH,eA,gr,eO,comp,iF,$xs,*] $[$l]?)
local macro_rules
| `(tactic| simp! [i1,$xs,*] $[$l]?)=>`(tactic| simp[cT,seq,iff,bB,ih,f_,eM,fU,dy,ofT,dm,ag,aX,args,aa,nm,aJ,bO,skip,asg,ku,kv,par,b6,gD,hg,iI,aW,e9,fS,bH,eA,gr,eO,comp,iF,$xs,*] $[$l]?)
| `(tactic| simp! [i1] $[$l]?)=>`(tactic| simp[cT,seq,iff,bB,ih,f_,eM,fU,dy,ofT,dm,ag,aX,args,aa,nm,aJ,bO,skip,asg,ku,kv,par,b6,gD,hg,iI,aW,e9,fS,bH,eA,gr,eO,comp,iF] $[$l]?)
local macro_rules
| `(tactic| simp! [i2,$xs,*] $[$l]?)=>`(tactic| simp[cD,oi,du,oDiv,oMod,mH,fo,AX,sz,e6,DI,AW,oLt,oLe,ia,lb,big,DO,de,aG,aS,d5,gU,nf,k7,n4,asQ,qs,zl,zm,uc,s1,s2,s3,A9,s4,s5,A_,g4,dX,Ba,A',eC,g5,gh,A7,A8,runM,gu,kZ,jQ,cS,cW,d3,qQ,p',lX,eJ,jT,pd,lM,gw,dx,fld,fA,nj,k8,ni,ru,rB,qb,never,we,pE,hW,cT,seq,iff,bB,ih,f_,eM,fU,dy,ofT,dm,ag,aX,args,aa,nm,aJ,bO,skip,asg,ku,kv,par,b6,gD,hg,iI,aW,e9,fS,bH,eA,gr,eO,comp,iF,$xs,*] $[$l]?)
local macro_rules
| `(tactic| simp! [oo,$xs,*] $[$l]?)=>`(tactic| simp[runM,gu,kZ,jQ,cS,cW,d3,qQ,p',lX,eJ,jT,pd,lM,gw,dx,fld,fA,nj,k8,ni,ru,rB,qb,never,we,pE,hW,cT,seq,iff,bB,ih,f_,eM,fU,dy,ofT,dm,ag,aX,args,aa,nm,aJ,bO,skip,asg,ku,kv,par,b6,gD,hg,iI,aW,e9,fS,bH,eA,gr,eO,comp,iF,$xs,*] $[$l]?)
local macro_rules
| `(tactic| simp! [asz,$xs,*] $[$l]?)=>`(tactic| simp[DO,de,aG,aS,d5,gU,nf,k7,n4,asQ,qs,zl,zm,uc,s1,s2,s3,A9,s4,s5,A_,g4,dX,Ba,A',eC,g5,gh,A7,A8,runM,gu,kZ,jQ,cS,cW,d3,qQ,p',lX,eJ,jT,pd,lM,gw,dx,fld,fA,nj,k8,ni,ru,rB,qb,never,we,pE,hW,Se,UG,Cc,Sf,Sr,LM,UE,Sp,Cp,Su,R2,zev,SD,S_,SF,S',Td,Te,SJ,Tc,TJ,SI,Ss,SH,Tb,So,Ta,TH,SA,S9,SE,Mf,CC,Cn,L1,Cb,Co,xP,Sn,CD,xU,xV,SG,Sq,SK,Sv,Sl,Sm,cT,seq,iff,bB,ih,f_,eM,fU,dy,ofT,dm,ag,aX,args,aa,nm,aJ,bO,skip,asg,ku,kv,par,b6,gD,hg,iI,aW,e9,fS,bH,eA,gr,eO,comp,iF,$xs,*] $[$l]?)
local macro_rules
| `(tactic| simp! [K9,$xs,*] $[$l]?)=>`(tactic| simp[cD,oi,du,oDiv,oMod,mH,fo,AX,sz,e6,DI,AW,oLt,oLe,ia,lb,big,cT,seq,iff,bB,ih,f_,eM,fU,dy,ofT,dm,ag,aX,args,aa,nm,aJ,bO,skip,asg,ku,kv,par,b6,gD,hg,iI,aW,e9,fS,bH,eA,gr,eO,comp,iF,$xs,*] $[$l]?)
local macro_rules
| `(tactic| simp! [ala,$xs,*] $[$l]?)=>`(tactic| simp[runM,gu,kZ,jQ,cS,cW,d3,qQ,p',lX,eJ,jT,pd,lM,gw,dx,fld,fA,nj,k8,ni,ru,rB,qb,never,we,pE,hW,$xs,*] $[$l]?)
local macro_rules
| `(tactic| simp! [alb,$xs,*] $[$l]?)=>`(tactic| simp[DO,de,aG,aS,d5,gU,nf,k7,n4,asQ,qs,zl,zm,uc,s1,s2,s3,A9,s4,s5,A_,g4,dX,Ba,A',eC,g5,gh,A7,A8,$xs,*] $[$l]?)
local macro_rules
| `(tactic| simp! [fD,$xs,*] $[$l]?)=>`(tactic| simp[cT,seq,iff,bB,ih,f_,eM,fU,dy,ofT,dm,ag,aX,args,aa,nm,aJ,bO,skip,asg,ku,kv,par,b6,gD,hg,iI,bH,eA,gr,eO,comp,iF,$xs,*] $[$l]?)
| `(tactic| simp! [fD] $[$l]?)=>`(tactic| simp[cT,seq,iff,bB,ih,f_,eM,fU,dy,ofT,dm,ag,aX,args,aa,nm,aJ,bO,skip,asg,ku,kv,par,b6,gD,hg,iI,bH,eA,gr,eO,comp,iF] $[$l]?)
local macro_rules
| `(tactic| simp! [asj,$xs,*] $[$l]?)=>`(tactic| simp[Se,UG,Cc,Sf,Sr,LM,UE,Sp,Cp,Su,R2,zev,SD,S_,SF,S',Td,Te,SJ,Tc,TJ,SI,Ss,SH,Tb,So,Ta,TH,SA,S9,SE,Mf,CC,Cn,L1,Cb,Co,xP,Sn,CD,xU,xV,SG,Sq,SK,Sv,Sl,Sm,cT,seq,iff,bB,ih,f_,eM,fU,dy,ofT,dm,ag,aX,args,aa,nm,aJ,bO,skip,asg,ku,kv,par,b6,gD,hg,iI,aW,e9,fS,bH,eA,gr,eO,comp,iF,$xs,*] $[$l]?)
namespace bI
open D PySem
def cF(x:Str):Prop:=(kg x).canLay0=true
def dN{x y:Str}(af:cF x)(ai:cF y):oEq (.str x) (.str y)=some (.bool (decide (x=y))):=by
 unfold oEq;rw[vp af,vp ai];by_cases e:x=y <;> simp[jn,e]
def nL{x y:Str}(af:cF x)(ai:cF y):fV (.str x) (.str y)=some (.bool (!decide (x=y))):=by
 unfold fV;rw[vp af,vp ai];by_cases e:x=y <;> simp[jn,e]
def ym(neg:Bool){n:Str}{ns:List Str}(h0:cF n)(h:∀x∈ns,cF x):eP neg (.str n) (.list (ns.map .str))=some (.bool (if neg then !decide (n∈ns) else decide (n∈ns))):=by
 simp only[eP,vp h0,TB ns h,M4];rfl
def yl(neg:Bool){n:Str}{ns:List Str}(h0:cF n)(h:∀x∈ns,cF x):eP neg (.str n) (.tuple (ns.map .str))=some (.bool (if neg then !decide (n∈ns) else decide (n∈ns))):=aq9 neg n ns h0 h
def UX(p:aV)(c:aU)(w:Str)(n:Option Str)(h:c.told.length<big):fZ [.obj .cg 0 (encC p c),.ae (.str w),.ae (eQ n)]=some (.none,encC p (tell w n c)):=by
 have h':c.told.length<16777216:=h;simp! [hQ,fZ,Sj,tell,big,h']
def CL(p:aV)(c:aU)(w:Str)(h:c.told.length<big):fZ [.obj .cg 0 (encC p c),.ae (.str w),.ae .none]=some (.none,encC p (tell w none c)):=UX p c w none h
def pZ(p:aV)(c:aU)(w z:Str)(h:c.told.length<big):fZ [.obj .cg 0 (encC p c),.ae (.str w),.ae (.str z)]=some (.none,encC p (tell w (some z) c)):=UX p c w (some z) h
def Mv(p:aV)(c:aU):s7 [.obj .cg 0 (encC p c)]=some (.none,encC p (k5 p c)):=by
 simp! [hQ,s7,R4,k5,b3]
structure a5(p:aV)(c:aU):Prop where
 zn:∀z∈p.cz,cF z.1/\cF z.2
 asw:∀k∈p.codes,cF k.fa/\cF k.i8/\∀r∈k.kI,cF r
 ft:p.cz.length<=40
 mo:cF c.mode
 ca:∀z,c.g_=some z->cF z/\z∈p.cz.map (·.1)
 kx:c.mode="coming"->c.g_≠none
 ln:c.lines.map (·.1)=p.cz.map (·.1)
 lo:∀l∈c.lines,cF l.2
 us:c.used.map (·.1)=p.codes.map (·.fa)
 hP:c.dY.Nodup/\∀z∈c.dY,z∈p.cz.map (·.1)
 al:c.c_.Nodup/\∀z∈c.c_,z∈p.cz.map (·.1)
def a5.j'{p:aV}{c:aU}(h:a5 p c){z:Str}(ar:z∈p.cz.map (·.1)):cF z:=by
 obtain⟨x,hx,rfl⟩:=cN.mp ar;exact (h.zn x hx).1
def a5.uA{p:aV}{c:aU}(h:a5 p c):∀z∈c.dY,cF z:=λz ar=>h.j' (h.hP.2 z ar)
def a5.Rf{p:aV}{c:aU}(h:a5 p c):∀z∈c.c_,cF z:=λz ar=>h.j' (h.al.2 z ar)
def TF{α:Type}[BEq α][LawfulBEq α]{l m:List α}(h:l.Nodup)(asr:∀x∈l,x∈m):l.length<=m.length:=by
 induction l generalizing m with
|nil=>simp
|cons x l bY=>
  obtain⟨af,ai⟩:=gO.mp h;have hx:=asr x fY;have:=bY (m:=m.erase x) ai λy bw=>(List.mem_erase_of_ne (λe:y=x=>af (e▸bw))).mpr (asr y (di _ bw));have aB:=List.length_erase_of_mem hx;have:=List.length_pos_of_mem hx;simp only[d_];omega
def a5.OQ{p:aV}{c:aU}(h:a5 p c):c.c_.length<=40:=by
 have:=TF h.al.1 h.al.2;have:=h.ft;simp at *;omega
def a5.Rx{p:aV}{c:aU}(h:a5 p c):c.dY.length<=40:=by
 have:=TF h.hP.1 h.hP.2;have:=h.ft;simp at *;omega
def Df(p:aV)(c:aU)(z:Str)(h:a5 p c)(ar:cF z)(aZ:c.told.length<big):asI [.obj .cg 0 (encC p c),.ae (.str z)]=some (.none,encC p (f9 p z c)):=by
 have au:=h.OQ;have ur:eP true (.str z) (.list (c.c_.map .str))=some (.bool (!decide (z∈c.c_))):=by rw[ym true ar h.Rf];rfl
 have ab:(k5 p c).c_=c.c_:=rfl;have gc:c.c_.length<16777216:=by omega
 by_cases hm:z∈c.c_
 ·simp! [hQ,asI,LZ,Mv,ab,ur,hm,f9]
 ·have i6:({k5 p c with c_:=c.c_++[z]}:aU).told.length<big:=aZ;simp! [hQ,asI,LZ,Mv,ab,ur,hm,f9,big,gc,pZ p _ "alarm" z i6]
def kindOf(p:aV)(z:Str):Str:=((p.cz.find? λx=>decide (x.1=z)).map (·.2)).getD ""
def codeOf(p:aV)(f:Str):Option hI:=p.codes.find? λk=>decide (k.fa=f)
theorem TM{z:Str}(ar:cF z)(s0:Option aI):∀(zs:List (Str×Str)) (t0:Option aI),(∀x∈zs,cF x.1)->z∈zs.map (·.1)->forL (bH 2) (iff (bB (ag oEq (ag aW (nm 2) (aa (.int 0))) (nm 1))) (bO (ag aW (nm 2) (aa (.int 1)))) skip) (zs.map eh) [s0,some (.ae (.str z)),t0]=some (.d9 (.str (((zs.find? λx=>decide (x.1=z)).map (·.2)).getD "")))
| [],t0,_,h=>by simp at h
|x::zs,t0,aH,h=>by
  have e:=dN (aH x (by simp)) ar;by_cases hx:x.1=z
  ·simp! [i1,forL,eh,hx,dN ar ar]
  ·have h':z∈zs.map (·.1):=by
    rw[c9] at h;rcases asu.mp h with q|q
    ·exact absurd q.symm hx
    ·exact q
   have bY:=TM ar s0 zs (some (.ae (eh x))) (λy bw=>aH y (di _ bw)) h';simp[eh] at bY;simp! [i1,forL,eh,hx,e];simpa [cT,seq,iff,bB,ih,f_,eM,fU,dy,ofT,dm,ag,aX,args,aa,nm,aJ,bO,skip,asg,ku,kv,par,b6,gD,hg,iI,aW,e9,fS,bH,eA,gr,eO,comp,iF] using bY
def Mn{p:aV}{z:Str}(aH:∀x∈p.cz,cF x.1/\cF x.2)(ar:z∈p.cz.map (·.1)):p0 [b3 p,.str z]=some (.str (kindOf p z)):=by
 obtain⟨x,hx,rfl⟩:=cN.mp ar;have:=TM (aH x hx).1 (some (.ae (b3 p))) p.cz none (λy bw=>(aH y bw).1) ar;simp! [i1,p0,Ua,fb,b3] at this ⊢;simp[this,kindOf]
def ue:Option hI->T
|none=>.none
|some k=>dV k
theorem T1{f:Str}(hf:cF f)(s0:Option aI):∀(bp:List hI) (t0:Option aI),(∀k∈bp,cF k.fa)->forL (bH 2) (iff (bB (ag oEq (ag aW (nm 2) (aa (.int 0))) (nm 1))) (bO (nm 2)) skip) (bp.map dV) [s0,some (.ae (.str f)),t0] =
   match bp.find? λk=>decide (k.fa=f) with
   |some k=>some (.d9 (dV k))
   |none=>some (.bP [s0,some (.ae (.str f)),(bp.getLast?.map λk=>aI.ae (dV k)).elim t0 some])
| [],t0,_=>by simp[forL]
|k::bp,t0,aH=>by
  have e:=dN (aH k (by simp)) hf;by_cases hx:k.fa=f
  ·simp! [i1,forL,dV,hx,dN hf hf]
  ·have bY:=T1 hf s0 bp (some (.ae (dV k))) (λy bw=>aH y (di _ bw));simp only[c9,forL];simp! [i1,dV,hx,e] at bY ⊢;rw[bY];cases bp with
   |nil=>simp
   |cons ji bp=>simp[List.getLast?_cons]
def aod{p:aV}{f:Str}(aH:∀k∈p.codes,cF k.fa)(hf:cF f):yf [b3 p,.str f]=some (ue (codeOf p f)):=by
 have:=T1 hf (some (.ae (b3 p))) p.codes none aH;simp! [i1,yf,Uc,fb,b3] at this ⊢;rw[this];unfold codeOf;cases e:p.codes.find? λk=>decide (k.fa=f) with
|none=>simp[ue]
|some k=>simp[ue]
def nN(c:aU)(z:Str):Str:=(c.lines.lookup z).getD ""
def mK(l:List (Str×Str))(z w:Str):List (Str×Str):=l.map λp=>if p.1=z then (z,w) else p
def Vx(c:aU)(f:Str):Int:=(c.used.lookup f).getD 0
def ql(l:List (Str×Int))(f:Str):List (Str×Int):=l.map λp=>if p.1=f then (f,p.2+1) else p
theorem V6{z:Str}:∀{l:List (Str×Str)},z∈l.map (·.1)->getD (h4 l) (.inr z)=some (.str ((l.lookup z).getD ""))
  | [],h=>by simp at h
  | (k,v)::l,h=>by
    by_cases e:k=z
    · subst e
      simp[getD,h4,jM]
    · have h':z∈l.map (·.1):=by
        rw[c9] at h;rcases asu.mp h with q|q
        · exact absurd q.symm e
        · exact q
      have bY:=V6 h';have ne:(z==k)=false:=beq_eq_false_iff_ne.mpr (Ne.symm e);simp only[getD,h4,c9,pV] at bY ⊢;rw[decide_eq_false (λq=>e (Sum.inr.inj q))];simp only[jM,ne];exact bY
theorem NU{z:Str}:∀{l:List (Str×Int)},z∈l.map (·.1)->getD (h3 l) (.inr z)=some (.int ((l.lookup z).getD 0))
  | [],h=>by simp at h
  | (k,v)::l,h=>by
    by_cases e:k=z
    · subst e
      simp[getD,h3,jM]
    · have h':z∈l.map (·.1):=by
        rw[c9] at h;rcases asu.mp h with q|q
        · exact absurd q.symm e
        · exact q
      have bY:=NU h';have ne:(z==k)=false:=beq_eq_false_iff_ne.mpr (Ne.symm e);simp only[getD,h3,c9,pV] at bY ⊢;rw[decide_eq_false (λq=>e (Sum.inr.inj q))];simp only[jM,ne];exact bY
def _e{z:Str}{l:List (Str×Str)}(h:z∈l.map (·.1)):(h4 l).any (λp=>decide (p.1=(Sum.inr z:D.Key)))=true:=by
 obtain⟨x,hx,rfl⟩:=cN.mp h;rw[List.any_eq_true];exact⟨(.inr x.1,.str x.2),cN.mpr ⟨x,hx,rfl⟩,by simp⟩
def _g{z:Str}{l:List (Str×Int)}(h:z∈l.map (·.1)):(h3 l).any (λp=>decide (p.1=(Sum.inr z:D.Key)))=true:=by
 obtain⟨x,hx,rfl⟩:=cN.mp h;rw[List.any_eq_true];exact⟨(.inr x.1,.int x.2),cN.mpr ⟨x,hx,rfl⟩,by simp⟩
def YC{z w:Str}{l:List (Str×Str)}(h:z∈l.map (·.1)):putD (h4 l) (.inr z) (.str w)=h4 (mK l z w):=by
 unfold putD;rw[_e h,if_pos rfl];simp only[h4,mK,gB];refine List.map_congr_left λx _=>?_;by_cases e:x.1=z
 ·simp[e]
 ·have:¬(Sum.inr x.1:D.Key)=Sum.inr z:=λq=>e (Sum.inr.inj q);simp[e,this]
def YD{z:Str}{l:List (Str×Int)}(h:z∈l.map (·.1))(a_:(l.map (·.1)).Nodup):putD (h3 l) (.inr z) (.int ((l.lookup z).getD 0+1))=h3 (ql l z):=by
 unfold putD;rw[_g h,if_pos rfl];simp only[h3,ql,gB];refine List.map_congr_left λx hx=>?_;by_cases e:x.1=z
 ·have:∀{l:List (Str×Int)},x∈l->(l.map (·.1)).Nodup->l.lookup x.1=some x.2:=by
   intro l
   induction l with
   |nil=>intro h;simp at h
   |cons y l bY=>
    intro h a_;rcases asu.mp h with rfl|h
    ·simp[jM]
    ·rw[c9,gO] at a_;have ne:(x.1==y.1)=false:=beq_eq_false_iff_ne.mpr λq=>a_.1 (q▸cN.mpr ⟨x,h,rfl⟩);simp only[jM,ne];exact bY h a_.2
  have aB:=this hx a_;subst e;simp[aB]
 ·have:¬(Sum.inr x.1:D.Key)=Sum.inr z:=λq=>e (Sum.inr.inj q);simp[e,this]
theorem vH{α:Type}{cc:e7}{fR:bl}{caps:Ev}(enc:α->T)(q:α->Bool)(f:α->T):∀(ts:List α) (s0:Option aI),(∀a∈ts,cc (some (.ae (enc a))::caps)=some (q a)/\(q a=true->fR (some (.ae (enc a))::caps)=some (f a)))->gk (bH 0) cc fR (ts.map enc) (s0::caps)=some ((ts.filter q).map f)
| [],_,_=>rfl
|a::ts,s0,h=>by
  obtain⟨af,ai⟩:=h a (by simp);have bY:=vH enc q f ts (some (.ae (enc a))) λb ab=>h b (di _ ab);simp only[c9,gk,bH,jL,cv,af];cases bg:q a with
  |false=>simp[bY,bg]
  |true=>simp[bY,bg,ai bg]
def bare(p:aV)(kinds:List Str)(c:aU):List Str:=((p.cz.filter λz=>decide (z.2∈kinds)).map (·.1)).filter λz=>decide (nN c z≠"shut") && !decide (z∈c.dY)
def bA(x:Str)(h:(kg x).canLay0=true:=by decide +kernel):cF x:=h
theorem lookup_mem{α:Type}{z:Str}:∀{l:List (Str×α)} {v:α},l.lookup z=some v->(z,v)∈l
  | [],v,h=>by cases h
  | (k,x)::l,v,h=>by
    rw[mR] at h;split at h
    next q=>
      cases h
      have:z=k:=by simpa using q
      subst this;simp
    next=>exact di _ (lookup_mem h)
def a5.w'{p:aV}{c:aU}(h:a5 p c)(z:Str):cF (nN c z):=by
 unfold nN;cases e:c.lines.lookup z with
|none=>exact bA ""
|some v=>exact h.lo _ (lookup_mem e)
def a5.Q2{p:aV}{c:aU}(h:a5 p c){z:Str}(ar:z∈p.cz.map (·.1)):getD (h4 c.lines) (.inr z)=some (.str (nN c z)):=V6 (by rw[h.ln];exact ar)
def Vm(p:aV)(c:aU)(bp:List Str)(m:gn)(h:a5 p c)(aR:∀k∈bp,cF k):sZ [.obj m 0 (encC p c),.ae (.tuple (hW bp))]=some (.list ((bare p bp c).map .str)):=by
 have wN:=h.ft;have c6:=vH (cc:=bB (ag (eP false) (ag aW (nm 0) (aa (.int 1))) (nm 1))) (fR:=ag aW (nm 0) (aa (.int 0))) (caps:=[some (.ae (.tuple (hW bp)))]) eh (λz=>decide (z.2∈bp)) (λz=>.str z.1) p.cz none λz ar=>by
  have:=yl false (h.zn z ar).2 aR;simp at this;constructor
  ·simp! [i1,eh,hW,this]
  ·intro _;simp! [i1,eh]
 have dv:=vH (cc:=f_ (bB (ag fV (ni 0 1 4 (nm 0)) (aa (.str "shut")))) (bB (ag (eP true) (nm 0) (fld 0 1 5)))) (fR:=aJ 0) (caps:=[some (.obj m 0 (encC p c))]) kg (λz=>decide (nN c z≠"shut") && !decide (z∈c.dY)) kg ((p.cz.filter λz=>decide (z.2∈bp)).map (·.1)) none λz ar=>by
  have QS:z∈p.cz.map (·.1):=by
   obtain⟨x,hx,rfl⟩:=cN.mp ar;exact cN.mpr ⟨x,(List.mem_filter.mp hx).1,rfl⟩
  have aG:=h.Q2 QS;have aS:=nL (h.w' z) (bA "shut");have d5:=ym true (h.j' QS) h.uA;simp at d5;constructor
  ·by_cases asr:nN c z="shut"
   ·simp! [hQ,keyOf,aG,aS,asr,nL (bA "shut") (bA "shut")]
   ·simp! [hQ,keyOf,aG,aS,d5,asr]
  ·intro _;simp! [i1]
 have bZ:(p.cz.map eh).length<=16777216:=by simp;omega
 have b1:(((p.cz.filter λz=>decide (z.2∈bp)).map λz=>kg z.1)).length<=16777216:=by
  rw[eT];have:=Bv (λz:Str×Str=>decide (z.2∈bp)) p.cz;omega
 simp only[gB,lZ] at dv;simp only[sZ,RX,gu,kZ];simp! [hQ,b3] at c6 dv ⊢;have sb:p.cz.length<=big:=by unfold big;omega
 have adu:(p.cz.filter λz=>decide (z.2∈bp)).length<=big:=by
  have:=Bv (λz:Str×Str=>decide (z.2∈bp)) p.cz;omega
 rw[if_pos sb,c6];simp only[et,cv,l4,iC,Function.comp_apply,eT,adu,if_true,Option.join_some];rw[dv];simp[bare]
def ky(p:aV)(z k:Str)(c:aU):aU:=if k≠"way"\/p.m_<=0 then f9 p z c else tell "coming" (some z) {c with mode:="coming",left:=p.m_,g_:=some z}
noncomputable def lN(p:aV)(z w:Str)(c:aU):aU:=
 if kindOf p z="day" then f9 p z c
 else if c.mode="off" then (if w="cut" then tell "fault" (some z) c else c)
 else if w="cut"\/kindOf p z="once" then f9 p z c
 else if c.mode="on" then ky p z (kindOf p z) c else c
noncomputable def line(p:aV)(z w:Str)(c:aU):aU:=
 if w=nN c z then c
 else if w="shut" then (if nN c z="cut" then tell "mended" (some z) {c with lines:=mK c.lines z w} else {c with lines:=mK c.lines z w})
 else if z∈c.dY then {c with lines:=mK c.lines z w} else lN p z w {c with lines:=mK c.lines z w}
def aoc(p:aV)(c:aU)(z k:Str)(h:a5 p c)(ar:cF z)(aR:cF k)(aZ:c.told.length<big):s6 [.obj .cg 0 (encC p c),.ae (.str z),.ae (.str k)]=some (.none,encC p (ky p z k c)):=by
 have e:=nL aR (bA "way");have dG:=Df p c z h ar aZ;by_cases af:k="way"
 ·by_cases ai:p.m_<=0
  ·simp! [i2,s6,BO,b3,e,af,ai,dG,ky];simp! [oo,nL (bA "way") (bA "way"),dG,ai]
  ·have bF:=pZ p {c with mode:="coming",left:=p.m_,g_:=some z} "coming" z aZ;simp! [i2,s6,BO,b3,af,ai,ky];simp! [i2,nL (bA "way") (bA "way"),bF,ai,b3]
 ·simp! [i2,s6,BO,b3,e,af,dG,ky]
def aoa(p:aV)(c:aU)(z w:Str)(h:a5 p c)(ar:z∈p.cz.map (·.1))(hw:cF w)(aZ:c.told.length<big):xF [.obj .cg 0 (encC p c),.ae (.str z),.ae (.str w)]=some (.none,encC p (lN p z w c)):=by
 have e':=Mn h.zn ar;have Hs:cF (kindOf p z):=by
  unfold kindOf;cases e:p.cz.find? λx=>decide (x.1=z) with
  |none=>exact bA ""
  |some x=>exact (h.zn x (List.mem_of_find?_eq_some e)).2
 have dG:=Df p c z h (h.j' ar) aZ;have bF:=pZ p c "fault" z aZ;have ha:=aoc p c z (kindOf p z) h (h.j' ar) Hs aZ;have aQ:=dN Hs (bA "day");have a7:=dN h.mo (bA "off");have cL:=dN hw (bA "cut");have ib:=dN Hs (bA "once");have lV:=dN h.mo (bA "on");simp only[xF,R3,lN];by_cases af:kindOf p z="day"
 ·simp! [asz,e',aQ,af,dG];simp! [oo,dN (bA "day") (bA "day"),dG]
 ·by_cases ai:c.mode="off"
  ·by_cases bE:w="cut"
   ·simp! [asz,e',aQ,af,a7,ai,cL,bE,bF,dN (bA "off") (bA "off"),dN (bA "cut") (bA "cut")]
   ·simp! [asz,e',aQ,af,a7,ai,cL,bE,bF,dN (bA "off") (bA "off")]
  ·by_cases bE:w="cut"
   ·simp! [asz,e',aQ,af,a7,ai,cL,bE,dG,dN (bA "cut") (bA "cut")]
   ·by_cases c':kindOf p z="once"
    ·simp! [asz,e',aQ,af,a7,ai,cL,bE,ib,c',dG,dN (bA "once") (bA "once"),dN (bA "once") (bA "day")]
    ·by_cases hA:c.mode="on"
     ·simp! [asz,e',aQ,af,a7,ai,cL,bE,ib,c',lV,hA,ha,dN (bA "on") (bA "on"),dN (bA "on") (bA "off")]
     ·simp! [asz,e',aQ,af,a7,ai,cL,bE,ib,c',lV,hA,ha]
def aov(l:List (Str×Str))(z w:Str):(mK l z w).map (·.1)=l.map (·.1):=by
 unfold mK;rw[gB];refine List.map_congr_left λx _=>?_;by_cases e:x.1=z <;> simp[e]
def ao7(l:List (Str×Int))(z:Str):(ql l z).map (·.1)=l.map (·.1):=by
 unfold ql;rw[gB];refine List.map_congr_left λx _=>?_;by_cases e:x.1=z <;> simp[e]
def a5.Rw{p:aV}{c:aU}(h:a5 p c)(z:Str){w:Str}(hw:cF w):a5 p {c with lines:=mK c.lines z w}:=
 ⟨h.zn,h.asw,h.ft,h.mo,h.ca,h.kx,(aov _ _ _).trans h.ln,λl aB=>by
  obtain⟨x,hx,rfl⟩:=cN.mp aB;by_cases e:x.1=z
  ·rw[if_pos e];exact hw
  ·rw[if_neg e];exact h.lo x hx,h.us,h.hP,h.al⟩
theorem a5.tell{p:aV}{c:aU}(h:a5 p c)(w:Str)(n:Option Str):a5 p (bI.tell w n c):=⟨h.zn,h.asw,h.ft,h.mo,h.ca,h.kx,h.ln,h.lo,h.us,h.hP,h.al⟩
def a5.loud{p:aV}{c:aU}(h:a5 p c):a5 p (k5 p c):=⟨h.zn,h.asw,h.ft,h.mo,h.ca,h.kx,h.ln,h.lo,h.us,h.hP,h.al⟩
theorem a5.f9{p:aV}{c:aU}(h:a5 p c){z:Str}(ar:z∈p.cz.map (·.1)):a5 p (bI.f9 p z c):=by
 unfold bI.f9;split
 ·exact h.loud
 next hm=>
  refine a5.tell (c:={k5 p c with c_:=c.c_++[z]}) ⟨h.zn,h.asw,h.ft,h.mo,h.ca,h.kx,h.ln,h.lo,h.us,h.hP,?_,?_⟩ _ _
  ·show (c.c_++[z]).Nodup
   rw[pU];exact⟨h.al.1,by simp,λa au b ab e=>hm (by simp at ab;subst ab;exact e▸au)⟩
  ·intro y bw;rcases hD.mp bw with q|q
   ·exact h.al.2 y q
   ·simp at q;exact q▸ar
def as'(p:aV)(z:Str)(c:aU):(f9 p z c).told.length<=c.told.length+1:=by
 unfold f9 tell k5;split <;> simp
def ara(p:aV)(c:aU)(z w:Str)(h:a5 p c)(ar:z∈p.cz.map (·.1))(hw:cF w)(aZ:c.told.length<big):xR [.obj .cg 0 (encC p c),.ae (.str z),.ae (.str w)]=some (.none,encC p (line p z w c)):=by
 have aG:=h.Q2 ar;have wN:z∈c.lines.map (·.1):=by rw[h.ln];exact ar
 have aS:=YC (w:=w) wN;have aQ:=dN hw (h.w' z);have a7:=dN hw (bA "shut");have cL:=dN (h.w' z) (bA "cut");have ib:=ym true (h.j' ar) h.uA;simp at ib;have hlen:(h4 c.lines).length<16777216:=by
  have:=congrArg List.length h.ln;have:=h.ft;simp[h4] at *;omega
 have hd:=aoa p _ z w (h.Rw z hw) ar hw aZ;have bF:=pZ p {c with lines:=mK c.lines z w} "mended" z aZ;simp only[xR,Sk,line];by_cases af:w=nN c z
 ·simp! [asz,keyOf,aG,aQ,af,dN (h.w' z) (h.w' z)]
 ·by_cases ai:w="shut"
  ·subst ai;by_cases bE:nN c z="cut"
   ·simp! [asz,big,keyOf,aG,aS,aQ,af,a7,cL,bE,hlen,bF,dN (bA "cut") (bA "cut"),dN (bA "shut") (bA "shut"),dN (bA "shut") (bA "cut")]
   ·simp! [asz,big,keyOf,aG,aS,aQ,af,a7,cL,bE,hlen,dN (bA "shut") (bA "shut")]
  ·by_cases c':z∈c.dY
   ·simp! [asz,big,keyOf,aG,aS,aQ,af,a7,ai,ib,c',hlen]
   ·simp! [asz,big,keyOf,aG,aS,aQ,af,a7,ai,ib,c',hlen,hd]
def less(a n:Int):Int:=if 0 > a - n then 0 else a - n
def p2(n:Int)(c:aU):aU:={c with past:=c.past+n,locked:=less c.locked n,fJ:=less c.fJ n,left:=less c.left n}
def anB(a n:Int):tb [.int a,.int n]=some (.int (less a n)):=by
 simp! [K9,tb,To,less]
def L4(p:aV)(c:aU)(n:Int):sY [.obj .cg 0 (encC p c),.ae (.int n)]=some (.none,encC p (p2 n c)):=by
 simp! [hQ,sY,RW,anB,p2]
def c_(p:aV)(zs:List Str)(c:aU):aU:=zs.foldl (λc z=>f9 p z c) c
def kz(p:aV)(c:aU):aU:=c_ p (bare p ["inner","way"] (tell "on" none {c with mode:="on",left:=0})) (tell "on" none {c with mode:="on",left:=0})
def ph(p:aV)(c:aU):aU:=f9 p (c.g_.getD "") {c with mode:="on",g_:=none}
def kB(p:aV)(c:aU):aU:=if c.mode="leaving" then kz p c else ph p c
noncomputable def dJ(p:aV)(n:Int)(c:aU):aU:=
 if n<1 then c else if (c.mode="leaving"\/c.mode="coming")/\c.left<=n then p2 (n - c.left) (kB p (p2 c.left c)) else p2 n c
theorem Tp(p:aV):∀(zs:List Str) (c:aU) (s1:Option aI),a5 p c->(∀z∈zs,z∈p.cz.map (·.1))->c.told.length+zs.length<big->∃qR,forL (bH 1) (cS (cW 0 asI 0 [(aJ 1)])) (zs.map .str) [some (.obj .cg 0 (encC p c)),s1]=some (.bP [some (.obj .cg 0 (encC p (c_ p zs c))),qR])
| [],c,s1,_,_,_=>⟨s1,by simp[forL,c_]⟩
|z::zs,c,s1,h,ar,aZ=>by
  have QT:=ar z (by simp);have dG:=Df p c z h (h.j' QT) (by simp at aZ;omega);have:=as' p z c;obtain⟨qR,bY⟩:=Tp p zs (f9 p z c) (some (.ae (.str z))) (h.f9 QT) (λy bw=>ar y (di _ bw)) (by simp at aZ;omega);refine⟨qR,?_⟩;rw[c9,forL];simp! [oo,dG];simpa [cT,seq,iff,bB,ih,f_,eM,fU,dy,ofT,dm,ag,aX,args,aa,nm,aJ,bO,skip,asg,ku,kv,par,b6,gD,hg,iI,aW,e9,fS,bH,eA,gr,eO,comp,iF,c_] using bY
def De{p:aV}{bp:List Str}{c:aU}{z:Str}(h:z∈bare p bp c):z∈p.cz.map (·.1):=by
 unfold bare at h;obtain⟨x,hx,rfl⟩:=cN.mp (List.mem_filter.mp h).1;exact cN.mpr ⟨x,(List.mem_filter.mp hx).1,rfl⟩
def UT(p:aV)(bp:List Str)(c:aU):(bare p bp c).length<=p.cz.length:=by
 unfold bare;have af:=Bv (λz=>decide (nN c z≠"shut") && !decide (z∈c.dY)) ((p.cz.filter λz=>decide (z.2∈bp)).map (·.1));have ai:=Bv (λz:Str×Str=>decide (z.2∈bp)) p.cz;rw[eT] at af;omega
theorem a5.on{p:aV}{c:aU}(h:a5 p c)(x:Int):a5 p {c with mode:="on",left:=x}:=⟨h.zn,h.asw,h.ft,bA "on",h.ca,λe=>absurd e Cp,h.ln,h.lo,h.us,h.hP,h.al⟩
def Sa(p:aV)(c:aU)(h:a5 p c)(aZ:c.told.length+50<big):sW [.obj .cg 0 (encC p c)]=some (.none,encC p (kz p c)):=by
 have sN:=(h.on 0).tell "on" none;have bF:=CL p {c with mode:="on",left:=0} "on" (by show c.told.length<big;omega);have dz:=Vm p (tell "on" none {c with mode:="on",left:=0}) ["inner","way"] .c4 sN (by
  intro k aR;simp at aR;rcases aR with rfl|rfl
  ·exact bA "inner"
  ·exact bA "way")
 have aB:=UT p ["inner","way"] (tell "on" none {c with mode:="on",left:=0});have ar:=h.ft;obtain⟨qR,lp⟩:=Tp p (bare p ["inner","way"] (tell "on" none {c with mode:="on",left:=0})) (tell "on" none {c with mode:="on",left:=0}) none sN (λz ar=>De ar) (by
  have:(tell "on" none {c with mode:="on",left:=0}:aU).told.length=c.told.length+1:=by simp[tell]
  omega)
 simp only[hW,c9,g6] at dz;simp! [hQ,sW,RU,bF,dz,fb];rw[lp];simp! [ala,kz]
def a5.Rg{p:aV}{c:aU}(h:a5 p c):a5 p {c with mode:="on",g_:=none}:=⟨h.zn,h.asw,h.ft,bA "on",λz e=>(nomatch e),λe=>absurd e Cp,h.ln,h.lo,h.us,h.hP,h.al⟩
def amU(p:aV)(c:aU)(h:a5 p c)(ax:c.g_≠none)(aZ:c.told.length<big):xA [.obj .cg 0 (encC p c)]=some (.none,encC p (ph p c)):=by
 obtain⟨z,ar⟩:=Option.ne_none_iff_exists'.mp ax;have dG:=Df p {c with mode:="on",g_:=none} z h.Rg (h.ca z ar).1 aZ;simp! [hQ,xA,RV,ar,eQ,dG,ph]
def a5.cd{p:aV}{c:aU}(h:a5 p c)(n:Int):a5 p (p2 n c):=⟨h.zn,h.asw,h.ft,h.mo,h.ca,h.kx,h.ln,h.lo,h.us,h.hP,h.al⟩
def anD(p:aV)(c:aU)(h:a5 p c)(hm:c.mode="leaving"\/c.mode="coming")(aZ:c.told.length+50<big):u9 [.obj .cg 0 (encC p c)]=some (.none,encC p (kB p c)):=by
 have dF:=Sa p c h aZ;have q:=dN h.mo (bA "leaving");rcases hm with hm|hm
 ·simp! [asz,u9,LK,hm,dF,kB,dN (bA "leaving") (bA "leaving")]
 ·have eK:=amU p c h (h.kx hm) (by omega);simp! [asz,u9,LK,hm,eK,kB,dN (bA "coming") (bA "leaving")]
def apc(p:aV)(c:aU)(n:Int)(h:a5 p c)(aZ:c.told.length+50<big):q7 [.obj .cg 0 (encC p c),.ae (.int n)]=some (.none,encC p (dJ p n c)):=by
 have q:eP false (.str c.mode) (.tuple [.str "leaving",.str "coming"])=some (.bool (decide (c.mode="leaving"\/c.mode="coming"))):=by
  have:=yl false (n:=c.mode) (ns:=["leaving","coming"]) h.mo (by
   intro k aR;simp at aR;rcases aR with rfl|rfl
   ·exact bA "leaving"
   ·exact bA "coming")
  simpa using this
 have dF:=L4 p c c.left;have fQ:=L4 p c n;by_cases af:n<1
 ·simp! [i2,q7,xO,af,dJ]
 ·by_cases ai:c.mode="leaving"\/c.mode="coming"
  ·by_cases bE:c.left<=n
   ·have eK:=anD p (p2 c.left c) (h.cd _) ai aZ;have mr:=L4 p (kB p (p2 c.left c)) (n - c.left);rw[decide_eq_true ai] at q;simp only[dJ,if_neg af,if_pos (And.intro ai bE)];simp! [i2,q7,xO,af,q,bE,dF,eK,mr]
   ·rw[decide_eq_true ai] at q;simp only[dJ,if_neg af,if_neg (λz:(c.mode="leaving"\/c.mode="coming")/\c.left<=n=>bE z.2)];simp! [i2,q7,xO,af,q,bE,fQ]
  ·rw[decide_eq_false ai] at q;simp only[dJ,if_neg af,if_neg (λz:(c.mode="leaving"\/c.mode="coming")/\c.left<=n=>ai z.1)];simp! [i2,q7,xO,af,q,fQ]
def yx(k:hI)(c:aU):Bool:=decide (k.uses≠0) && decide (k.uses<=Vx c k.fa)
def nC(c:aU):aU:={tell "wrong" none c with tries:=c.tries+1}
def jI(p:aV)(c:aU):aU:=if 3<=c.tries+1 then tell "attack" none (k5 p {nC c with tries:=0,locked:=90}) else nC c
noncomputable def mb(p:aV)(d:Str)(z:Option Str)(c:aU):Bool:=
 if d="unset" then false else if c.mode≠"off" then true
 else if d="shunt" then decide (kindOf p (z.getD "")="day") || decide (z.getD ""∈c.dY)
 else decide (d="free") && !decide (z.getD ""∈c.dY)
noncomputable def ml(p:aV)(k:hI)(d:Str)(z:Option Str)(c:aU):Option (Str×Str):=
 if (if d="free" then ("shunt":Str) else d)∉k.kI then some ("denied",k.i8)
 else if mb p d z c then some ("no",k.i8)
 else if d="set"/\bare p ["day","once"] c≠[] then some ("open",(bare p ["day","once"] c).headD "") else none
def n1(p:aV)(i8:Str)(c:aU):aU:=
 let c6:=tell "set" (some i8) {c with c_:=[],fJ:=0,mode:="leaving",left:=p.leave}
 if p.leave<=0 then kz p c6 else c6
def r3(i8:Str)(c:aU):aU:=tell "unset" (some i8) {c with mode:="off",left:=0,fJ:=0,g_:=none,dY:=[]}
noncomputable def hL(p:aV)(i8 d:Str)(z:Option Str)(c:aU):aU:=
 if d="set" then n1 p i8 c else if d="unset" then r3 i8 c
 else if d="shunt" then tell "shunt" z {c with dY:=kn (c.dY++[z.getD ""])}
 else tell "free" z {c with dY:=c.dY.erase (z.getD "")}
noncomputable def takeRight(p:aV)(k:hI)(d:Str)(z:Option Str)(c:aU):aU:=match ml p k d z c with
|none=>hL p k.i8 d z {c with used:=ql c.used k.fa}
|some (w,n)=>tell w (some n) c
noncomputable def code(p:aV)(f d:Str)(z:Option Str)(c:aU):aU:=
 if 0<c.locked then tell "locked" none c else match codeOf p f with
  |none=>jI p c
  |some k=>if yx k c then jI p c else takeRight p k d z {c with tries:=0}
def anL(p:aV)(c:aU)(k:hI)(h:a5 p c)(aR:k∈p.codes)(m:gn):u6 [.obj m 0 (encC p c),.ae (dV k)]=some (.bool (yx k c)):=by
 have e:getD (h3 c.used) (.inr k.fa)=some (.int (Vx c k.fa)):=NU (by rw[h.us];exact cN.mpr ⟨k,aR,rfl⟩);have q:fV (.int k.uses) (.int 0)=some (.bool (!decide (k.uses=0))):=by
  unfold fV;rw[vq,vq];by_cases e:k.uses=0 <;> simp[jn,e]
 by_cases af:k.uses=0
 ·simp! [i2,u6,LG,dV,q,af,h2,yx];simp[fV,vq,jn]
 ·simp! [i2,u6,LG,dV,q,af,h2,yx,keyOf,e]
def amL(p:aV)(c:aU)(aZ:c.told.length+2<big):u4 [.obj .cg 0 (encC p c)]=some (.none,encC p (jI p c)):=by
 have dF:=CL p c "wrong" (by omega);have eK:=Mv p {nC c with tries:=0,locked:=90};have fQ:=CL p (k5 p {nC c with tries:=0,locked:=90}) "attack" (by simp[k5,nC,tell];omega);have w:({mode:=(tell "wrong" none c).mode,left:=(tell "wrong" none c).left,g_:=(tell "wrong" none c).g_,lines:=(tell "wrong" none c).lines,dY:=(tell "wrong" none c).dY,fJ:=(tell "wrong" none c).fJ,c_:=(tell "wrong" none c).c_,tries:=c.tries+1,locked:=(tell "wrong" none c).locked,used:=(tell "wrong" none c).used,past:=(tell "wrong" none c).past,told:=(tell "wrong" none c).told}:aU)=nC c:=rfl;have Lh:(tell "wrong" none c).tries=c.tries:=rfl;by_cases bE:3<=c.tries+1
 ·simp! [i2,u4,LD,dF,Lh,bE,jI];simp[nC] at eK fQ ⊢;simp[eK,fQ]
 ·simp! [i2,u4,LD,dF,Lh,bE,jI,nC]
end bI
section
namespace bI
open D PySem
def a5.aiw{p:aV}{c:aU}(h:a5 p c)(z:Str):cF (kindOf p z):=by
 unfold kindOf;cases e:p.cz.find? λx=>decide (x.1=z) with
|none=>exact bA ""
|some x=>exact (h.zn x (List.mem_of_find?_eq_some e)).2
def mV:(2<=big)=True:=by simp[big]
def Um:(10<=big)=True:=by simp[big]
def pL(p:aV)(d:Str)(z:Option Str):Prop:=(d="shunt"\/d="free")->∃x,z=some x/\x∈p.cz.map (·.1)
def amG(p:aV)(c:aU)(d:Str)(z:Option Str)(m:gn)(h:a5 p c)(hd:cF d)(ar:pL p d z):oz [.obj m 0 (encC p c),.ae (.str d),.ae (eQ z)]=some (.bool (mb p d z c)):=by
 have aQ:=dN hd (bA "unset");have a7:=nL h.mo (bA "off");have cL:=dN hd (bA "shunt");have ib:=dN hd (bA "free");by_cases af:d="unset"
 ·simp! [hQ,oz,sX,aQ,af,mb];simp[dN (bA "unset") (bA "unset")]
 ·by_cases ai:c.mode="off"
  ·by_cases bE:d="shunt"
   ·obtain⟨x,rfl,hx⟩:=ar (.inl bE);subst bE;have e':=Mn h.zn hx;have lV:=dN (h.aiw x) (bA "day");have qO:=ym false (h.j' hx) h.uA;simp at qO;by_cases c':kindOf p x="day"
    ·simp! [asz,oz,sX,aQ,af,ai,nL (bA "off") (bA "off"),cL,oj,eQ,e',lV,qO,c',mb];simp[dN (bA "day") (bA "day")]
    ·simp! [asz,oz,sX,aQ,af,ai,nL (bA "off") (bA "off"),cL,oj,eQ,e',lV,qO,c',mb]
   ·by_cases c':d="free"
    ·obtain⟨x,rfl,hx⟩:=ar (.inr c');subst c';have qO:=ym true (h.j' hx) h.uA;simp at qO;simp! [asz,oz,sX,aQ,ai,nL (bA "off") (bA "off"),cL,ib,h2,eQ,qO,mb]
    ·simp! [asz,oz,sX,aQ,af,ai,nL (bA "off") (bA "off"),cL,bE,ib,c',h2,mb]
  ·simp! [hQ,oz,sX,aQ,af,a7,ai,mb]
def qt:Option (Str×Str)->T
|none=>.none
|some (w,n)=>.tuple [.str w,.str n]
def amc(p:aV)(c:aU)(k:hI)(d:Str)(z:Option Str)(m:gn)(h:a5 p c)(aR:k∈p.codes)(hd:cF d)(ar:pL p d z):xx [.obj m 0 (encC p c),.ae (dV k),.ae (.str d),.ae (eQ z)]=some (qt (ml p k d z c)):=by
 have aQ:=dN hd (bA "free");have a7:=dN hd (bA "set");have fy:=amG p c d z .c4 h hd ar;have dz:=Vm p c ["day","once"] .c4 h (by
  intro k aR;simp at aR;rcases aR with rfl|rfl
  ·exact bA "day"
  ·exact bA "once")
 simp only[hW,c9,g6] at dz;have cL:=yl true (n:=if d="free" then ("shunt":Str) else d) (ns:=k.kI) (by
  split
  ·exact bA "shunt"
  ·exact hd) (h.asw k aR).2.2
 simp at cL;have qr:(pE (bB (ag oEq (nm 2) (aa (.str "free")))) (aa (.str "shunt")) (aJ 2)) [some (.obj m 0 (encC p c)),some (.ae (dV k)),some (.ae (.str d)),some (.ae (eQ z)),none,none]=some (.str (if d="free" then ("shunt":Str) else d)):=by
  by_cases h0:d="free"
  ·simp! [oo,aQ,h0,dN (bA "free") (bA "free")]
  ·simp! [oo,aQ,h0]
 simp only[xx,RP,gu,kZ,seq,asg,c9,g6,d_,l5,dS,uY,q3,qr,et,cv,kf,jL];generalize aw:(if d="free" then ("shunt":Str) else d)=r at cL ⊢;unfold ml;rw[aw];by_cases af:r∈k.kI
 ·by_cases ai:mb p d z c=true
  ·simp! [hQ,dV,mV,cL,af,fy,ai,qt]
  ·simp at ai;by_cases bE:d="set"
   ·subst bE;cases e:bare p ["day","once"] c with
    |nil=>
     rw[e] at dz;simp! [hQ,dV,mV,cL,af,fy,ai,dz,a7,qt]
    |cons b bs=>
     rw[e] at dz;simp! [hQ,dV,mV,cL,af,fy,ai,dz,a7,qt]
   ·simp! [hQ,dV,mV,cL,af,fy,ai,dz,a7,bE,qt]
 ·simp! [hQ,dV,mV,cL,af,qt]
def a5.Bc{p:aV}{c:aU}(h:a5 p c)(x:Int):a5 p {c with c_:=[],fJ:=0,mode:="leaving",left:=x}:=⟨h.zn,h.asw,h.ft,bA "leaving",h.ca,λe=>absurd e LM,h.ln,h.lo,h.us,h.hP,by simp⟩
def aoT(p:aV)(c:aU)(w:Str)(h:a5 p c)(aZ:c.told.length+60<big):u' [.obj .cg 0 (encC p c),.ae (.str w)]=some (.none,encC p (n1 p w c)):=by
 have dF:=pZ p {c with c_:=[],fJ:=0,mode:="leaving",left:=p.leave} "set" w (by show c.told.length<big;omega);have eK:=Sa p (tell "set" (some w) {c with c_:=[],fJ:=0,mode:="leaving",left:=p.leave}) ((h.Bc p.leave).tell _ _) (by
  have:(tell "set" (some w) {c with c_:=[],fJ:=0,mode:="leaving",left:=p.leave}:aU).told.length=c.told.length+1:=by simp[tell]
  omega)
 have lf:(tell "set" (some w) {c with c_:=[],fJ:=0,mode:="leaving",left:=p.leave}:aU).left=p.leave:=rfl;by_cases af:p.leave<=0
 ·simp! [i2,u',LW,b3,dF,lf,af,eK,n1]
 ·simp! [i2,u',LW,b3,dF,lf,af,n1]
def anE(p:aV)(c:aU)(w:Str)(aZ:c.told.length<big):xD [.obj .cg 0 (encC p c),.ae (.str w)]=some (.none,encC p (r3 w c)):=by
 have dF:=pZ p {c with mode:="off",left:=0,fJ:=0,g_:=none,dY:=[]} "unset" w aZ;simp! [i2,xD,RZ,dF,r3]
theorem Mm:∀l:List Str,strsOf (l.map .str)=some l
| []=>rfl
|x::l=>by simp[strsOf,Mm l]
def AZ(p:aV)(d:Str)(z:Option Str)(c:aU):Prop:=d="set"\/d="unset"\/(d="shunt"/\∃x,z=some x/\x∈p.cz.map (·.1))\/(d="free"/\∃x,z=some x/\x∈c.dY)
def an_(p:aV)(c:aU)(w d:Str)(z:Option Str)(h:a5 p c)(hd:cF d)(ar:AZ p d z c)(aZ:c.told.length+60<big):q4 [.obj .cg 0 (encC p c),.ae (.str w),.ae (.str d),.ae (eQ z)]=some (.none,encC p (hL p w d z c)):=by
 have aQ:=dN hd (bA "set");have a7:=dN hd (bA "unset");have cL:=dN hd (bA "shunt");have es:=aoT p c w h aZ;have fy:=anE p c w (by omega);rcases ar with rfl|rfl|⟨rfl,x,rfl,hx⟩|⟨rfl,x,rfl,hx⟩
 ·simp! [hQ,q4,xH,aQ,es,hL]
 ·simp! [asz,q4,xH,aQ,a7,fy,hL]
 ·have aB:=h.Rx;have dF:=pZ p {c with dY:=kn (c.dY++[x])} "shunt" x (by show c.told.length<big;omega);have b2:c.dY.length+1<=big:=by unfold big;omega
  have cm:c.dY.length+1<64:=by omega
  have t9:1<=big:=by decide
  have gI:=Mm (c.dY++[x]);simp at gI;simp! [asz,q4,xH,aQ,a7,cL,eQ,cD,t9,b2,cm,C9,gI,dF,hL]
 ·have dF:=pZ p {c with dY:=c.dY.erase x} "free" x (by show c.told.length<big;omega);simp! [asz,q4,xH,aQ,a7,cL,eQ,A4,Mm,hx,dF,hL]
structure Wp(p:aV):Prop where
 cd:(p.codes.map (·.fa)).Nodup
 zd:(p.cz.map (·.1)).Nodup
 cl:p.codes.length<=40
 Lh:0<=p.leave/\0<=p.m_/\0<=p.loud
def a5.add{p:aV}{c:aU}(h:a5 p c)(f:Str):a5 p {c with used:=ql c.used f}:=⟨h.zn,h.asw,h.ft,h.mo,h.ca,h.kx,h.ln,h.lo,(ao7 _ _).trans h.us,h.hP,h.al⟩
def a5.Bl{p:aV}{c:aU}(h:a5 p c)(n:Int):a5 p {c with tries:=n}:=⟨h.zn,h.asw,h.ft,h.mo,h.ca,h.kx,h.ln,h.lo,h.us,h.hP,h.al⟩
def NN{p:aV}{c:aU}{k:hI}{d:Str}{z:Option Str}(hd:d="set"\/d="unset"\/d="shunt"\/d="free")(ar:pL p d z)(au:ml p k d z c=none):AZ p d z c:=by
 rcases hd with rfl|rfl|rfl|rfl
 ·exact .inl rfl
 ·exact .inr (.inl rfl)
 ·exact .inr (.inr (.inl ⟨rfl,ar (.inl rfl)⟩))
 ·refine .inr (.inr (.inr ⟨rfl,?_⟩))
  obtain⟨x,rfl,hx⟩:=ar (.inr rfl);refine⟨x,rfl,?_⟩;refine Classical.byContradiction λb4=>?_;have:mb p "free" (some x) c=true:=by
   by_cases hm:c.mode="off" <;> simp[mb,xU,xV,b4,hm]
  unfold ml at au;rw[this] at au;by_cases aw:(if ("free":Str)="free" then ("shunt":Str) else "free")∈k.kI
  ·rw[if_neg (λq=>q aw),if_pos rfl] at au;cases au
  ·rw[if_pos aw] at au;cases au
def amM(p:aV)(c:aU)(k:hI)(d:Str)(z:Option Str)(h:a5 p c)(aF:Wp p)(aR:k∈p.codes)(hd:d="set"\/d="unset"\/d="shunt"\/d="free")(ar:pL p d z)(aZ:c.told.length+60<big):as1 [.obj .cg 0 (encC p c),.ae (dV k),.ae (.str d),.ae (eQ z)]=some (.none,encC p (takeRight p k d z c)):=by
 have fe:cF d:=by
  rcases hd with rfl|rfl|rfl|rfl
  ·exact bA "set"
  ·exact bA "unset"
  ·exact bA "shunt"
  ·exact bA "free"
 have dG:=amc p c k d z .c4 h aR fe ar;have Q1:k.fa∈c.used.map (·.1):=by rw[h.us];exact cN.mpr ⟨k,aR,rfl⟩
 cases e:ml p k d z c with
|none=>
  have kC:=NN hd ar e;have g1:=NU Q1;have g2:=YD Q1 (by rw[h.us];exact aF.cd);have aB:(h3 c.used).length<big:=by
   have:=congrArg List.length h.us;have:=aF.cl;simp[h3] at *;unfold big;omega
  have e1:=an_ p {c with used:=ql c.used k.fa} k.i8 d z (h.add _) fe kC aZ;rw[e] at dG;simp only[dV] at dG;simp! [hQ,as1,LF,dG,qt,dV,keyOf,g1,g2,aB,e1,takeRight,e]
|some wn=>
  obtain⟨w,n⟩:=wn;have bF:=pZ p c w n (by omega);rw[e] at dG;simp only[dV] at dG;simp! [hQ,as1,LF,dG,qt,dV,bF,takeRight,e]
def Tj{p:aV}{f:Str}{k:hI}(h:codeOf p f=some k):k∈p.codes:=List.mem_of_find?_eq_some h
def arv(p:aV)(c:aU)(f d:Str)(z:Option Str)(h:a5 p c)(aF:Wp p)(hf:cF f)(hd:d="set"\/d="unset"\/d="shunt"\/d="free")(ar:pL p d z)(aZ:c.told.length+60<big):q9 [.obj .cg 0 (encC p c),.ae (.str f),.ae (.str d),.ae (eQ z)]=some (.none,encC p (code p f d z c)):=by
 have ha:=aod (λk aR=>(h.asw k aR).1) hf;have bF:=CL p c "locked" (by omega);have jx:=amL p c (by omega);by_cases af:0<c.locked
 ·simp! [i2,q9,xS,ha,af,bF,code]
 ·cases e:codeOf p f with
  |none=>
   rw[e] at ha;simp! [i2,q9,xS,ha,ue,af,jx,code,e]
  |some k=>
   rw[e] at ha;have aR:=Tj e;have fy:=anL p c k h aR .c4;have jw:=amM p {c with tries:=0} k d z (h.Bl 0) aF aR hd ar aZ;cases ai:yx k c with
   |true=>
    rw[ai] at fy;simp! [i2,q9,xS,ha,ue,af,fy,dV] at fy ⊢;simp[fy,jx,code,e,af,ai]
   |false=>
    rw[ai] at fy;simp! [i2,q9,xS,ha,ue,af,fy,dV] at fy jw ⊢;simp! [alb,fy,jw,code,e,af,ai]
inductive cE where
|line (z w:Str)
|code (f d:Str) (z:Option Str)
|dJ (n:Int)
def bS:cE->T
|.line z w=>.tuple [.str "line",.str z,.str w]
|.code f d z=>.tuple [.str "code",.str f,.str d,eQ z]
|.dJ n=>.tuple [.str "ticks",.int n]
noncomputable def hB(p:aV):cE->Prop
|.line z w=>z∈p.cz.map (·.1)/\(w="shut"\/w="open"\/w="cut")
|.code f d z=>cF f/\(d="set"\/d="unset"\/d="shunt"\/d="free")/\pL p d z
|.dJ n=>1<=n
def h8(p:aV)(c:aU):cE->aU
|.line z w=>line p z w c
|.code f d z=>code p f d z c
|.dJ n=>dJ p n c
def aoP(p:aV)(c:aU)(e:cE)(h:a5 p c)(aF:Wp p)(he:hB p e)(aZ:c.told.length+60<big):q5 [.obj .cg 0 (encC p c),.ae (bS e)]=some (.none,encC p (h8 p c e)):=by
 have q (x y:Str) (hx:cF x) (bw:cF y):=dN hx bw;cases e with
|line z w=>
  have fI:cF w:=by
   rcases he.2 with rfl|rfl|rfl
   ·exact bA "shut"
   ·exact bA "open"
   ·exact bA "cut"
  have fG:=ara p c z w h he.1 fI (by omega);simp! [hQ,q5,BW,bS,dN (bA "line") (bA "line"),fG,h8]
|code f d z=>
  have fG:=arv p c f d z h aF he.1 he.2.1 he.2.2 aZ;simp! [asz,q5,BW,bS,dN (bA "code") (bA "line"),dN (bA "code") (bA "code"),fG,h8]
|dJ n=>
  have fG:=apc p c n h (by omega);simp! [asz,q5,BW,bS,dN (bA "ticks") (bA "line"),dN (bA "ticks") (bA "code"),fG,h8]
end bI
end
section
namespace bI
open D PySem
local instance:cV:=⟨[],λ_=>[],λ_=>none⟩
def l'(w:Str)(n:Option Str)(c:aU):(tell w n c).told.length=c.told.length+1:=by simp[tell]
theorem a5.aaH{p:aV}{c:aU}(h:a5 p c)(x:Int){z:Str}(ar:z∈p.cz.map (·.1)):a5 p {c with mode:="coming",left:=x,g_:=some z}:=
 ⟨h.zn,h.asw,h.ft,bA "coming",λy e=>fq e▸⟨h.j' ar,ar⟩,λ_ e=>(nomatch e),h.ln,h.lo,h.us,h.hP,h.al⟩
theorem a5.ky{p:aV}{c:aU}(h:a5 p c){z:Str}(k:Str)(ar:z∈p.cz.map (·.1)):a5 p (ky p z k c):=by
 unfold bI.ky;split
 ·exact h.f9 ar
 ·exact (h.aaH p.m_ ar).tell _ _
def anH(p:aV)(z k:Str)(c:aU):(ky p z k c).told.length<=c.told.length+1:=by
 unfold bI.ky;split
 ·exact as' p z c
 ·rw[l'];exact dT _
theorem a5.lN{p:aV}{c:aU}(h:a5 p c){z:Str}(w:Str)(ar:z∈p.cz.map (·.1)):a5 p (lN p z w c):=by
 unfold bI.lN
 repeat' split
 all_goals first|exact h.f9 ar|exact h.tell _ _|exact h.ky _ ar|exact h
def am_(p:aV)(z w:Str)(c:aU):(lN p z w c).told.length<=c.told.length+1:=by
 unfold bI.lN
 repeat' split
 all_goals first|exact as' p z c|exact anH p z _ c|(rw[l'];exact dT _)|omega
theorem a5.line{p:aV}{c:aU}(h:a5 p c){z w:Str}(ar:z∈p.cz.map (·.1))(hw:cF w):a5 p (line p z w c):=by
 have h':=h.Rw z hw;unfold bI.line
 repeat' split
 all_goals first|exact h|exact h'|exact h'.tell _ _|exact h'.lN _ ar
def aoJ(p:aV)(z w:Str)(c:aU):(line p z w c).told.length<=c.told.length+1:=by
 unfold bI.line
 repeat' split
 all_goals first|omega|(rw[l'];exact dT _)|exact am_ p z w {c with lines:=mK c.lines z w}|exact fj _
theorem a5.c_{p:aV}:∀{zs:List Str} {c:aU},a5 p c->(∀z∈zs,z∈p.cz.map (·.1))->a5 p (bI.c_ p zs c)
| [],_,h,_=>h
|z::zs,c,h,ar=>a5.c_ (zs:=zs) (h.f9 (ar z fY)) λy bw=>ar y (di _ bw)
theorem SW(p:aV):∀(zs:List Str) (c:aU),(bI.c_ p zs c).told.length<=c.told.length+zs.length
| [],c=>dT _
|z::zs,c=>by
  have af:=SW p zs (f9 p z c);have ai:=as' p z c;simp only[d_];show (bI.c_ p zs (f9 p z c)).told.length<=_;omega
theorem a5.kz{p:aV}{c:aU}(h:a5 p c):a5 p (kz p c):=a5.c_ ((h.on 0).tell _ _) λz ar=>De ar
def R6{p:aV}{c:aU}(h:a5 p c):(kz p c).told.length<=c.told.length+41:=by
 have af:=SW p (bare p ["inner","way"] (tell "on" none {c with mode:="on",left:=0})) (tell "on" none {c with mode:="on",left:=0});have ai:=UT p ["inner","way"] (tell "on" none {c with mode:="on",left:=0});have bE:=h.ft;rw[l'] at af;show (bI.c_ p _ _).told.length<=_;have c':({c with mode:="on",left:=0}:aU).told.length=c.told.length:=rfl;omega
theorem a5.ph{p:aV}{c:aU}(h:a5 p c)(ax:c.g_≠none):a5 p (ph p c):=by
 obtain⟨z,ar⟩:=Option.ne_none_iff_exists'.mp ax;unfold bI.ph;rw[ar];exact h.Rg.f9 (h.ca z ar).2
def amH(p:aV)(c:aU):(ph p c).told.length<=c.told.length+1:=as' _ _ _
theorem a5.kB{p:aV}{c:aU}(h:a5 p c)(hm:c.mode="leaving"\/c.mode="coming"):a5 p (kB p c):=by
 unfold bI.kB;split
 ·exact h.kz
 next q=>exact h.ph (h.kx (hm.resolve_left q))
def am9{p:aV}{c:aU}(h:a5 p c):(kB p c).told.length<=c.told.length+41:=by
 unfold bI.kB;split
 ·exact R6 h
 ·have:=amH p c;omega
theorem a5.dJ{p:aV}{c:aU}(h:a5 p c)(n:Int):a5 p (dJ p n c):=by
 unfold bI.dJ;split
 ·exact h
 ·split
  next q=>exact ((h.cd _).kB q.1).cd _
  ·exact h.cd _
def anN{p:aV}{c:aU}(h:a5 p c)(n:Int):(dJ p n c).told.length<=c.told.length+41:=by
 unfold bI.dJ;split
 ·omega
 ·split
  ·exact am9 (h.cd c.left)
  ·exact sU _ _
theorem a5.jI{p:aV}{c:aU}(h:a5 p c):a5 p (jI p c):=by
 unfold bI.jI;split
 ·exact a5.tell (a5.loud (c:={nC c with tries:=0,locked:=90}) ⟨h.zn,h.asw,h.ft,h.mo,h.ca,h.kx,h.ln,h.lo,h.us,h.hP,h.al⟩) _ _
 ·exact⟨h.zn,h.asw,h.ft,h.mo,h.ca,h.kx,h.ln,h.lo,h.us,h.hP,h.al⟩
def amA(p:aV)(c:aU):(jI p c).told.length<=c.told.length+2:=by
 unfold bI.jI;split
 ·rw[l'];show (tell _ _ c).told.length+1<=_;rw[l'];exact dT _
 ·show (tell _ _ c).told.length<=_
  rw[l'];omega
theorem a5.n1{p:aV}{c:aU}(h:a5 p c)(w:Str):a5 p (n1 p w c):=by
 unfold bI.n1;have h':=(h.Bc p.leave).tell "set" (some w);show a5 p (if p.leave<=0 then _ else _);split
 ·exact h'.kz
 ·exact h'
def an'{p:aV}{c:aU}(h:a5 p c)(w:Str):(n1 p w c).told.length<=c.told.length+42:=by
 unfold bI.n1;have h':=(h.Bc p.leave).tell "set" (some w);have e:=l' "set" (some w) {c with c_:=[],fJ:=0,mode:="leaving",left:=p.leave};have bN:({c with c_:=[],fJ:=0,mode:="leaving",left:=p.leave}:aU).told.length=c.told.length:=rfl;show (if p.leave<=0 then kz p _ else _:aU).told.length<=_;split
 ·have:=R6 h';omega
 ·omega
theorem a5.r3{p:aV}{c:aU}(h:a5 p c)(w:Str):a5 p (r3 w c):=
 ⟨h.zn,h.asw,h.ft,bA "off",λz e=>(nomatch e),λe=>absurd e Cc,h.ln,h.lo,h.us,by simp[bI.r3,bI.tell],h.al⟩
theorem a5.hL{p:aV}{c:aU}(h:a5 p c)(w:Str){d:Str}{z:Option Str}(ar:AZ p d z c)(a9:d="shunt"->z.getD ""∉c.dY):a5 p (hL p w d z c):=by
 rcases ar with rfl|rfl|⟨rfl,x,rfl,hx⟩|⟨rfl,x,rfl,hx⟩
 ·simp only[bI.hL,if_true];exact h.n1 w
 ·simp only[bI.hL,if_neg Cn,if_true];exact h.r3 w
 ·simp only[bI.hL,if_neg Co,if_neg xP,if_true];refine a5.tell (c:={c with dY:=kn (c.dY++[x])}) ⟨h.zn,h.asw,h.ft,h.mo,h.ca,h.kx,h.ln,h.lo,h.us,⟨?_,?_⟩,h.al⟩ _ _
  ·show (kn (c.dY++[x])).Nodup
   rw[(vb _).nodup_iff,pU];refine⟨h.hP.1,by simp,λa au b ab e=>?_⟩;simp at ab;exact a9 rfl (by show x∈_;exact ab▸e▸au)
  ·intro y bw;have HC:=(vb _).mem_iff.mp bw;rcases hD.mp HC with q|q
   ·exact h.hP.2 y q
   ·simp at q;exact q▸hx
 ·simp only[bI.hL,if_neg CD,if_neg xU,if_neg xV];refine a5.tell (c:={c with dY:=c.dY.erase x}) ⟨h.zn,h.asw,h.ft,h.mo,h.ca,h.kx,h.ln,h.lo,h.us,⟨?_,?_⟩,h.al⟩ _ _
  ·exact h.hP.1.erase x
  ·exact λy bw=>h.hP.2 y (List.mem_of_mem_erase bw)
def anF{p:aV}{c:aU}(h:a5 p c)(w d:Str)(z:Option Str):(hL p w d z c).told.length<=c.told.length+42:=by
 unfold bI.hL;split
 ·exact an' h w
 ·split
  ·show (tell _ _ _).told.length<=_
   rw[l'];show c.told.length+1<=_;omega
  ·split
   ·rw[l'];show c.told.length+1<=_;omega
   ·rw[l'];show c.told.length+1<=_;omega
def amX{p:aV}{c:aU}{k:hI}{z:Option Str}(au:ml p k "shunt" z c=none):z.getD ""∉c.dY/\c.mode="off"/\kindOf p (z.getD "")≠"day":=by
 have b4:mb p "shunt" z c≠true:=by
  intro q;unfold ml at au;rw[q] at au;by_cases aw:(if ("shunt":Str)="free" then ("shunt":Str) else "shunt")∈k.kI
  ·rw[if_neg (λq=>q aw),if_pos rfl] at au;cases au
  ·rw[if_pos aw] at au;cases au
 unfold mb at b4;rw[if_neg xP] at b4;by_cases hm:c.mode="off"
 ·rw[if_neg (λq=>q hm),if_pos rfl] at b4;simp at b4;exact⟨b4.2,hm,b4.1⟩
 ·rw[if_pos hm] at b4;exact absurd rfl b4
theorem a5.takeRight{p:aV}{c:aU}(h:a5 p c)(k:hI){d:Str}{z:Option Str}(hd:d="set"\/d="unset"\/d="shunt"\/d="free")(ar:pL p d z):a5 p (takeRight p k d z c):=by
 unfold bI.takeRight;split
 next e=>
  refine (h.add _).hL _ (NN hd ar e) λq=>?_
  subst q;exact (amX e).1
 ·exact h.tell _ _
def amB{p:aV}{c:aU}(h:a5 p c)(k:hI)(d:Str)(z:Option Str):(takeRight p k d z c).told.length<=c.told.length+42:=by
 unfold bI.takeRight;split
 ·exact anF (h.add k.fa) _ _ _
 ·rw[l'];omega
theorem a5.code{p:aV}{c:aU}(h:a5 p c)(f:Str){d:Str}{z:Option Str}(hd:d="set"\/d="unset"\/d="shunt"\/d="free")(ar:pL p d z):a5 p (code p f d z c):=by
 unfold bI.code;split
 ·exact h.tell _ _
 ·split
  ·exact h.jI
  ·split
   ·exact h.jI
   ·exact (h.Bl 0).takeRight _ hd ar
def aoW{p:aV}{c:aU}(h:a5 p c)(f d:Str)(z:Option Str):(code p f d z c).told.length<=c.told.length+42:=by
 have:=amA p c;unfold bI.code;split
 ·rw[l'];omega
 ·split
  ·omega
  ·split
   ·omega
   ·exact amB (h.Bl 0) _ _ _
def Z0{p:aV}{z w:Str}(he:hB p (.line z w)):cF w:=by
 rcases he.2 with rfl|rfl|rfl
 ·exact bA "shut"
 ·exact bA "open"
 ·exact bA "cut"
theorem a5.h8{p:aV}{c:aU}(h:a5 p c){e:cE}(he:hB p e):a5 p (h8 p c e):=by
 cases e with
|line z w=>exact h.line he.1 (Z0 he)
|code f d z=>exact h.code f he.2.1 he.2.2
|dJ n=>exact h.dJ n
def SS{p:aV}{c:aU}(h:a5 p c)(e:cE):(h8 p c e).told.length<=c.told.length+50:=by
 cases e with
|line z w=>have:=aoJ p z w c;show (line p z w c).told.length<=_;omega
|code f d z=>have:=aoW h f d z;show (code p f d z c).told.length<=_;omega
|dJ n=>have:=anN h n;show (dJ p n c).told.length<=_;omega
def run(p:aV)(c:aU)(es:List cE):aU:=es.foldl (h8 p) c
def fresh(c:aU):aU:={c with past:=0,told:=[]}
theorem a5.fresh{p:aV}{c:aU}(h:a5 p c):a5 p (fresh c):=⟨h.zn,h.asw,h.ft,h.mo,h.ca,h.kx,h.ln,h.lo,h.us,h.hP,h.al⟩
theorem a5.run{p:aV}:∀{es:List cE} {c:aU},a5 p c->(∀e∈es,hB p e)->a5 p (run p c es)
| [],_,h,_=>h
|e::es,c,h,he=>a5.run (es:=es) (h.h8 (he e fY)) λy bw=>he y (di _ bw)
theorem MX{p:aV}:∀{es:List cE} {c:aU},a5 p c->(∀e∈es,hB p e)->(run p c es).told.length<=c.told.length+50*es.length
| [],_,_,_=>dT _
|e::es,c,h,he=>by
  have af:=MX (es:=es) (h.h8 (he e fY)) λy bw=>he y (di _ bw);have ai:=SS h e;show (run p (h8 p c e) es).told.length<=_;simp only[d_];omega
noncomputable def ee(c:aU):T:=.tuple [.str c.mode,.int c.left,eQ c.g_,.tuple (c.lines.map λl=>.str l.2),.tuple (c.dY.map .str),.int c.fJ,.tuple (c.c_.map .str),.int c.tries,.int c.locked,.tuple (c.used.map λu=>.int u.2)]
theorem Vv:∀(bp:List Str) (l:List (Str×Str)),l.map (·.1)=bp->rq (bp.map .str) (l.map λl=>.str l.2)=some (h4 l)
| [],[],_=>rfl
| [],_::_,h=>by cases h
|_::_,[],h=>by cases h
|k::bp,x::l,h=>by
  simp at h;simp[rq,keyOf,Vv bp l h.2,h4,h.1]
theorem Vw:∀(bp:List Str) (l:List (Str×Int)),l.map (·.1)=bp->rq (bp.map .str) (l.map λl=>.int l.2)=some (h3 l)
| [],[],_=>rfl
| [],_::_,h=>by cases h
|_::_,[],h=>by cases h
|k::bp,x::l,h=>by
  simp at h;simp[rq,keyOf,Vw bp l h.2,h3,h.1]
def TG{l:List Str}(h:l.Nodup):(l.map (Sum.inr:Str->D.Key)).Nodup:=by
 rw[List.nodup_iff_pairwise_ne,List.pairwise_map];exact (List.nodup_iff_pairwise_ne.mp h).imp λq e=>q (Sum.inr.inj e)
def ard(l:List (Str×Str)):(h4 l).map (·.1)=(l.map (·.1)).map Sum.inr:=by simp[h4,lZ]
def arf(l:List (Str×Int)):(h3 l).map (·.1)=(l.map (·.1)).map Sum.inr:=by simp[h3,lZ]
def UO{α:Type}(enc:α->T)(g:α->T)(caps:Ev)(ts:List α)(s0:Option aI)(h:∀a∈ts,(ag aW (nm 0) (aa (.int 0))) (some (.ae (enc a))::caps)=some (g a)):gk (bH 0) (dy true) (ag aW (nm 0) (aa (.int 0))) (ts.map enc) (s0::caps)=some (ts.map g):=by
 have:=vH (cc:=dy true) (fR:=ag aW (nm 0) (aa (.int 0))) (caps:=caps) enc (λ_=>true) g ts s0 λa au=>⟨rfl,λ_=>h a au⟩;rw[List.filter_eq_self.mpr (λ_ _=>rfl)] at this;exact this
def arn(p:aV)(c:aU)(h:a5 p c)(aF:Wp p):xE [.obj .cg 0 [],.ae (b3 p),.ae (ee c)]=some (.none,encC p (fresh c)):=by
 have ar:=h.ft;have ax:=aF.cl;have c6:=UO eh (λz=>.str z.1) [] p.cz none λz ar=>by simp! [i1,eh]
 have dv:=UO dV (λz=>.str z.fa) [] p.codes none λz ar=>by simp! [i1,dV]
 have kU:=Vv (p.cz.map (·.1)) c.lines h.ln;have gP:=Vw (p.codes.map (·.fa)) c.used h.us;rw[gB] at kU gP;have b2:p.cz.length<=big:=by unfold big;omega
 have cm:p.codes.length<=big:=by unfold big;omega
 have fT:((h4 c.lines).map (·.1)).Nodup/\(h4 c.lines).length<=1000/\∀t∈(p.cz.map λz=>kg z.1),(keyOf t).isSome=true:=by
  refine⟨?_,?_,?_⟩
  ·rw[ard,h.ln];exact TG aF.zd
  ·have:=congrArg List.length h.ln;simp[h4] at *;omega
  ·intro t aZ;obtain⟨z,_,rfl⟩:=cN.mp aZ;rfl
 have gf:((h3 c.used).map (·.1)).Nodup/\(h3 c.used).length<=1000/\∀t∈(p.codes.map λz=>kg z.fa),(keyOf t).isSome=true:=by
  refine⟨?_,?_,?_⟩
  ·rw[arf,h.us];exact TG aF.cd
  ·have:=congrArg List.length h.us;simp[h3] at *;omega
  ·intro t aZ;obtain⟨z,_,rfl⟩:=cN.mp aZ;rfl
 have t9:(0<=big)=True:=by simp
 simp only[lZ] at kU gP;simp only[xE,R0,runM,kZ];simp! [oo,b3,ee,vW,vE,c6,dv,b2,cm,kU,gP];rw[if_pos fT];simp! [oo,vE,vW,c6,dv,b2,cm,kU,gP];rw[if_pos ⟨gf.1,gf.2.1,λa au=>rfl⟩];simp! [oo,encC,fresh,b3]
def aph(p:aV)(c:aU)(m:gn)(h:a5 p c):xN [.obj m 0 (encC p c)]=some (ee c):=by
 have af:=h.Rx;have ai:=h.OQ;have b2:c.dY.length<=big:=by unfold big;omega
 have cm:c.c_.length<=big:=by unfold big;omega
 simp! [hQ,xN,Sb,yX,e6,b2,cm,Um,ee,h4,h3,lZ]
theorem Uw(p:aV)(aF:Wp p):∀(es:List cE) (c:aU) (s0 s1 s2 s4:Option aI),a5 p c->(∀e∈es,hB p e)->c.told.length+50*es.length+60<big->∃lh,forL (bH 4) (cS (cW 0 q5 3 [(aJ 4)])) (es.map bS) [s0,s1,s2,some (.obj .own 0 (encC p c)),s4]=some (.bP [s0,s1,s2,some (.obj .own 0 (encC p (run p c es))),lh])
| [],c,s0,s1,s2,s4,_,_,_=>⟨s4,by simp[forL,run]⟩
|e::es,c,s0,s1,s2,s4,h,he,aZ=>by
  have Qu:=he e fY;simp only[d_] at aZ;have dG:=aoP p c e h aF Qu (by omega);have:=SS h e;obtain⟨qR,bY⟩:=Uw p aF es (h8 p c e) s0 s1 s2 (some (.ae (bS e))) (h.h8 Qu) (λy bw=>he y (di _ bw)) (by omega);refine⟨qR,?_⟩;rw[c9,forL];simp! [oo,dG];simpa [cT,seq,iff,bB,ih,f_,eM,fU,dy,ofT,dm,ag,aX,args,aa,nm,aJ,bO,skip,asg,ku,kv,par,b6,gD,hg,iI,aW,e9,fS,bH,eA,gr,eO,comp,iF,run] using bY
def L'(p:aV)(c:aU)(es:List cE)(h:a5 p c)(aF:Wp p)(he:∀e∈es,hB p e)(aB:es.length<=1000):oC [b3 p,ee c,.tuple (es.map bS)]=some (.obj .own 0 (encC p (run p (fresh c) es))):=by
 have Gy:=arn p c h aF;have ab:(fresh c).told.length=0:=rfl;have cm:(60000<big):=by decide
 obtain⟨lh,fG⟩:=Uw p aF es (fresh c) (some (.ae (b3 p))) (some (.ae (ee c))) (some (.ae (.tuple (es.map bS)))) none h.fresh he (by omega);simp only[oC,Mk,sH];simp! [oo,pb,mF,Gy,fb,as6];rw[fG];simp[as6,A2]
def apg(p:aV)(c:aU)(es:List cE)(h:a5 p c)(aF:Wp p)(he:∀e∈es,hB p e)(aB:es.length<=1000):yu [b3 p,ee c,.tuple (es.map bS)]=some (.tuple ((run p (fresh c) es).told.map mu)):=by
 have dF:=L' p c es h aF he aB;have ab:=MX h.fresh he;have cm:(60000<big):=by decide
 have h0:(fresh c).told.length=0:=rfl;have b2:(run p (fresh c) es).told.length<=big:=by omega
 simp! [i1,yu,Vo,rA,vr,dF,tD,uc,e6,b2]
noncomputable def hn(p:aV):aU:={mode:="off",left:=0,g_:=none,lines:=p.cz.map λz=>(z.1,"shut"),dY:=[],fJ:=0,c_:=[],tries:=0,locked:=0,used:=p.codes.map λk=>(k.fa,0),past:=0,told:=[]}
def US(p:aV)(ar:p.cz.length<=40)(aF:Wp p):rh [b3 p]=some (ee (hn p)):=by
 have ax:=aF.cl;have b2:p.cz.length<=big:=by unfold big;omega
 have cm:p.codes.length<=big:=by unfold big;omega
 have c6:=vH (cc:=dy true) (fR:=aa (.str "shut")) (caps:=[]) eh (λ_=>true) (λ_=>.str "shut") p.cz none λa au=>⟨rfl,λ_=>rfl⟩;have dv:=vH (cc:=dy true) (fR:=aa (.int 0)) (caps:=[]) dV (λ_=>true) (λ_=>.int 0) p.codes none λa au=>⟨rfl,λ_=>rfl⟩;rw[List.filter_eq_self.mpr (λ_ _=>rfl)] at c6 dv;simp! [i1,rh,Vp,b3,e6,b2,cm,c6,dv,Um,ee,hn,eQ,lZ]
end bI
end
section
namespace bI
open D PySem
local instance:cV:=⟨[],λ_=>[],λ_=>none⟩
def Nr(ns:List Int)(k:Nat):l_ [eH ns,.int k]=some (.int (ns.getD k 0)):=by
 by_cases h:k<ns.length
 ·have h':(k:Int)<(ns.length:Int):=by omega
  simp! [K9,l_,ta,eH,h,h',List.getD]
 ·have h':¬(k:Int)<(ns.length:Int):=by omega
  simp! [K9,l_,ta,eH,h,h',List.getD]
def j7{i j:Int}(h:-(2 ^ 64)<j/\j<2 ^ 64):du (.int i) (.int j)=some (.int (i*j)):=by
 unfold du vR;simp only[decide_eq_true h.1,decide_eq_true h.2,Bool.and_self,Bool.or_true,if_true]
def oN{i j:Int}(h:0<j):oMod (.int i) (.int j)=some (.int (i % j)):=if_pos h
def V9{i j:Int}(h:0<j/\j<1073741824):oDiv (.int i) (.int j)=some (.int (i / j)):=if_pos h
def jR{i j:Int}:cD (.int i) (.int j)=some (.int (i+j)):=rfl
def gv{a b:bc}{ε ε':Ev}(h:a ε=some (.bP ε')):seq a b ε=b ε':=by
 unfold seq;rw[h];rfl
def C_(ns:List Int)(k:Nat):∃m:Int,0<=m/\ly [eH ns,.int k]=some (.int m):=by
 have ax:=Nr ns k;have hd:0<=(ns.getD k 0+7919*(k:Int)+1)*48271 % 2147483647/\(ns.getD k 0+7919*(k:Int)+1)*48271 % 2147483647<2147483647:=⟨asK _ (by decide),sR _ (by decide)⟩;generalize hx:(ns.getD k 0+7919*(k:Int)+1)*48271 % 2147483647=d at hd;refine⟨(d*d+7*d+k) % 2147483629,asK _ (by decide),?_⟩;have de:ly [eH ns,.int k]=(tj [some (.ae (eH ns)),some (.ae (.int k)),none]).bind λo=>match o with|.d9 t=>some t|.bP _=>some .none|_=>none:=rfl
 have iV:du (.int 7919) (.int k)=some (.int (7919*k)):=by
  unfold du vR;simp
 have lU:aJ 0 [some (.ae (eH ns)),some (.ae (.int k)),none]=some (eH ns):=rfl;have fT:aJ 1 [some (.ae (eH ns)),some (.ae (.int k)),none]=some (.int k):=rfl;have Kb:nm 1 [some (.ae (eH ns)),some (.ae (.int k)),none]=some (.int k):=rfl;have s1:asg 2 (ag oMod (ag du (ag cD (ag cD (aX l_ [(aJ 0),(aJ 1)]) (ag du (aa (.int 7919)) (nm 1))) (aa (.int 1))) (aa (.int 48271))) (aa (.int 2147483647))) [some (.ae (eH ns)),some (.ae (.int k)),none]=some (.bP [some (.ae (eH ns)),some (.ae (.int k)),some (.ae (.int d))]):=by
  simp only[asg,ag,aX,args,lU,fT,Kb,cv,et,ax,aa,iV,jR,j7 (i:=ns.getD k 0+7919*(k:Int)+1) (j:=48271) (by decide),oN (j:=2147483647) (by decide),hx];rfl
 have mD:du (.int d) (.int d)=some (.int (d*d)):=j7 (by omega);have qJ:du (.int 7) (.int d)=some (.int (7*d)):=j7 (by omega);rw[de];unfold tj;rw[gv s1];have a7:nm 2 [some (.ae (eH ns)),some (.ae (.int k)),some (.ae (.int d))]=some (.int d):=rfl;have aQ:nm 1 [some (.ae (eH ns)),some (.ae (.int k)),some (.ae (.int d))]=some (.int k):=rfl;simp only[bO,ag,a7,aQ,cv,et,aa,mD,qJ,jR,oN (j:=2147483629) (by decide)]
def yn(n k:Int)(aR:-(2 ^ 64)<k/\k<2 ^ 64):∃m:Int,0<=m/\jr [.int n,.int k]=some (.int m):=by
 have hd:0<=(n+104729*k+17)*69621 % 2147483647/\(n+104729*k+17)*69621 % 2147483647<2147483647:=⟨asK _ (by decide),sR _ (by decide)⟩;generalize hx:(n+104729*k+17)*69621 % 2147483647=d at hd;refine⟨(d*d+3*d+k) % 2147483629,asK _ (by decide),?_⟩;have de:jr [.int n,.int k]=(tl [some (.ae (.int n)),some (.ae (.int k)),none]).bind λo=>match o with|.d9 t=>some t|.bP _=>some .none|_=>none:=rfl
 have iV:du (.int 104729) (.int k)=some (.int (104729*k)):=j7 aR;have lU:nm 0 [some (.ae (.int n)),some (.ae (.int k)),none]=some (.int n):=rfl;have fT:nm 1 [some (.ae (.int n)),some (.ae (.int k)),none]=some (.int k):=rfl;have s1:asg 2 (ag oMod (ag du (ag cD (ag cD (nm 0) (ag du (aa (.int 104729)) (nm 1))) (aa (.int 17))) (aa (.int 69621))) (aa (.int 2147483647))) [some (.ae (.int n)),some (.ae (.int k)),none]=some (.bP [some (.ae (.int n)),some (.ae (.int k)),some (.ae (.int d))]):=by
  simp only[asg,ag,lU,fT,cv,et,aa,iV,jR,j7 (i:=n+104729*k+17) (j:=69621) (by decide),oN (j:=2147483647) (by decide),hx];rfl
 have mD:du (.int d) (.int d)=some (.int (d*d)):=j7 (by omega);have qJ:du (.int 3) (.int d)=some (.int (3*d)):=j7 (by omega);rw[de];unfold tl;rw[gv s1];have a7:nm 2 [some (.ae (.int n)),some (.ae (.int k)),some (.ae (.int d))]=some (.int d):=rfl;have aQ:nm 1 [some (.ae (.int n)),some (.ae (.int k)),some (.ae (.int d))]=some (.int k):=rfl;simp only[bO,ag,a7,aQ,cv,et,aa,mD,qJ,jR,oN (j:=2147483629) (by decide)]
def nB(a b:Int):oEq (.int a) (.int b)=some (.bool (decide (a=b))):=by
 unfold oEq;rw[vq,vq];by_cases e:a=b <;> simp[jn,e]
def divQ(m:Int)(j:Int)(h:0<j/\j<1073741824:=by decide):∃q,q=m / j/\oDiv (.int m) (.int j)=some (.int q):=⟨_,rfl,V9 h⟩
def modQ(m:Int)(j:Int)(h:0<j:=by decide):∃q,q=m % j/\0<=q/\q<j/\oMod (.int m) (.int j)=some (.int q):=⟨_,rfl,asK _ (by omega),sR _ h,oN h⟩
def Ac{ts:List T}{j:Int}(h0:0<=j)(af:j<ts.length):∃t∈ts,aW (.tuple ts) (.int j)=some t:=by
 have bJ:j.toNat<ts.length:=by omega
 refine⟨ts[j.toNat],List.getElem_mem bJ,?_⟩
 simp only[aW,e9,fS,if_pos h0,if_pos af,cv];exact iB bJ
def wV(ss:List Str){j:Int}(h0:0<=j)(af:j<ss.length):∃s∈ss,aW (.tuple (ss.map .str)) (.int j)=some (.str s):=by
 obtain⟨t,aZ,e⟩:=Ac (ts:=ss.map .str) h0 (by simpa using af);obtain⟨s,asr,rfl⟩:=cN.mp aZ;exact⟨s,asr,e⟩
def wU(ss:List Int){j:Int}(h0:0<=j)(af:j<ss.length):∃s∈ss,aW (.tuple (ss.map .int)) (.int j)=some (.int s):=by
 obtain⟨t,aZ,e⟩:=Ac (ts:=ss.map .int) h0 (by simpa using af);obtain⟨s,asr,rfl⟩:=cN.mp aZ;exact⟨s,asr,e⟩
def Np:(5<=big)=True:=by simp[big]
def tC:(4<=big)=True:=by simp[big]
def nJ:(3<=big)=True:=by simp[big]
def ND:(6<=big)=True:=by simp[big]
def aqa:(8<=big)=True:=by simp[big]
def one_le:(1<=big)=True:=by simp[big]
noncomputable def qm:bc:=(seq (asg 4 (ag oDiv (aX jr [(aJ 0),(aJ 2)]) (aa (.int 4)))) (iff (eM (bB (ag oLt (ag oMod (nm 4) (aa (.int 8))) (ag cD (aa (.int 3)) (ag oMod (nm 0) (aa (.int 5)))))) (bB (ag oEq (nm 2) (ag oMod (ag oDiv (nm 0) (aa (.int 8))) (aa (.int 8)))))) (asg 1 (ag cD (nm 1) (b6 [(b6 [(aJ 3),(ag aW (b6 [(aa (.str "day")),(aa (.str "inner")),(aa (.str "once")),(aa (.str "way")),(aa (.str "way"))]) (ag oMod (ag oDiv (nm 4) (aa (.int 8))) (aa (.int 5))))])]))) skip))
def n6(x:Int×Str):T:=.tuple [.int x.1,.str x.2]
def kinds:List Str:=["day","inner","once","way","way"]
theorem Mx(n:Int):∀(l:List (Int×Str)) (acc:List (Str×Str)) (s2 s3 s4:Option aI),(∀x∈l,0<=x.1/\x.1<100)->acc.length+l.length<=20->∃zs iZ xh lh,(zs.map (·.1)).Sublist (l.map (·.2))/\(∀z∈zs,z.2∈kinds)/\((∃x∈l,x.1=n / 8 % 8)->zs≠[]) /\
  forL (eA [(bH 2),(bH 3)]) qm (l.map n6) [some (.ae (.int n)),some (.ae (.tuple (acc.map eh))),s2,s3,s4,none,none,none,none,none]=some (.bP [some (.ae (.int n)),some (.ae (.tuple ((acc++zs).map eh))),iZ,xh,lh,none,none,none,none,none])
| [],acc,s2,s3,s4,_,_=>⟨[],s2,s3,s4,.refl _,by simp,by simp,by simp[forL]⟩
|x::l,acc,s2,s3,s4,hx,aB=>by
  obtain⟨m,hm,dF⟩:=yn n x.1 (by have:=hx x fY;omega);obtain⟨q,bg,eK⟩:=divQ m 4;obtain⟨r,_,_,_,fQ⟩:=modQ q 8;obtain⟨b_,_,_,_,mr⟩:=modQ n 5;obtain⟨aQ,mB,n2⟩:=divQ n 8;obtain⟨a6,qC,_,_,n3⟩:=modQ aQ 8;obtain⟨a7,nx,n5⟩:=divQ q 8;obtain⟨b',_,h0,af,ng⟩:=modQ a7 5;obtain⟨s,asr,lO⟩:=wV kinds h0 af;simp only[kinds,c9,g6] at lO;simp only[d_] at aB;have b2:acc.length+1<=big:=by unfold big;omega
  have k_:∀y∈l,0<=y.1/\y.1<100:=λy bw=>hx y (di _ bw);by_cases ax:r<3+b_\/x.1=a6
  ·obtain⟨zs,iZ,xh,lh,bT,bW,nA,pC⟩:=Mx n l (acc++[(x.2,s)]) (some (.ae (.int x.1))) (some (.ae (.str x.2))) (some (.ae (.int q))) k_ (by simp;omega);refine⟨(x.2,s)::zs,iZ,xh,lh,by simpa using bT,λz ar=>?_,λ_=>by simp,?_⟩
   ·rcases asu.mp ar with rfl|ar
    ·exact asr
    ·exact bW z ar
   ·rw[c9,forL];have:qm [some (.ae (.int n)),some (.ae (.tuple (acc.map eh))),some (.ae (.int x.1)),some (.ae (.str x.2)),s4,none,none,none,none,none]=some (.bP [some (.ae (.int n)),some (.ae (.tuple ((acc++[(x.2,s)]).map eh))),some (.ae (.int x.1)),some (.ae (.str x.2)),some (.ae (.int q)),none,none,none,none,none]):=by
     by_cases dg:r<3+b_
     ·simp! [fD,qm,dF,eK,fQ,mr,n2,n3,n5,ng,lO,jR,oLt,dg,cD,b2,Np,mV,one_le,eh]
     ·have nd:oEq (.int x.1) (.int a6)=some (.bool true):=by rw[nB,decide_eq_true (ax.resolve_left dg)]
      simp! [fD,qm,dF,eK,fQ,mr,n2,n3,n5,ng,lO,jR,oLt,dg,nd,cD,b2,Np,mV,one_le,eh]
    simp only[n6,eA,gr,bH,cv,kf,jL,this];simpa using pC
  ·obtain⟨zs,iZ,xh,lh,bT,bW,nA,pC⟩:=Mx n l acc (some (.ae (.int x.1))) (some (.ae (.str x.2))) (some (.ae (.int q))) k_ (by omega);refine⟨zs,iZ,xh,lh,bT.cons _,bW,λ⟨y,bw,e⟩=>nA ?_,?_⟩
   ·rcases asu.mp bw with rfl|bw
    ·exact absurd (.inr (by rw[e,qC,mB])) ax
    ·exact⟨y,bw,e⟩
   ·rw[c9,forL];have:qm [some (.ae (.int n)),some (.ae (.tuple (acc.map eh))),some (.ae (.int x.1)),some (.ae (.str x.2)),s4,none,none,none,none,none]=some (.bP [some (.ae (.int n)),some (.ae (.tuple (acc.map eh))),some (.ae (.int x.1)),some (.ae (.str x.2)),some (.ae (.int q)),none,none,none,none,none]):=by
     have en:¬r<3+b_:=λz=>ax (.inl z);have hb:¬x.1=a6:=λz=>ax (.inr z);simp! [fD,qm,dF,eK,fQ,mr,n2,n3,n5,ng,lO,jR,oLt,en,hb,nB]
    simp only[n6,eA,gr,bH,cv,kf,jL,this];exact pC
def ajR:lW 0 3=[.int 0,.int 1,.int 2]:=by simp[lW,List.range_succ]
def rY:e7:=bB (ag ia (ag oMod (ag oDiv (nm 1) (ag aW (b6 [(aa (.int 4)),(aa (.int 16)),(aa (.int 64))]) (nm 0))) (aa (.int 4))) (aa (.int 0)))
def nh:bl:=ag aW (b6 [(aa (.str "set")),(aa (.str "shunt")),(aa (.str "unset"))]) (nm 0)
def vn:List Str:=["set","shunt","unset"]
def aoy(q:Int)(ε:Ev)(h:(ε[4]?).join=some (.ae (.int q))):∃rs:List Str,rs.Sublist vn/\comp 1 [4] (mY (aa (.int 3))) (bH 0) rY nh ε=some (.list (rs.map .str)):=by
 have key:∀j qG:Int,aW (.tuple [.int 4,.int 16,.int 64]) (.int j)=some (.int qG)->0<qG->qG<1073741824->∃b,rY [some (.ae (.int j)),some (.ae (.int q))]=some b:=by
  intro j qG af ai bE;obtain⟨aQ,_,dF⟩:=divQ q qG ⟨ai,bE⟩;obtain⟨a6,_,_,_,eK⟩:=modQ aQ 4;exact⟨decide (0<a6),by simp! [fD,rY,af,dF,eK,ia,nJ]⟩
 obtain⟨t9,od⟩:=key 0 4 (by simp[aW,e9,fS]) (by decide) (by decide);obtain⟨b2,ei⟩:=key 1 16 (by simp[aW,e9,fS]) (by decide) (by decide);obtain⟨cm,dB⟩:=key 2 64 (by simp[aW,e9,fS]) (by decide) (by decide);have ic:nh [some (.ae (.int 0)),some (.ae (.int q))]=some (.str "set"):=by simp! [i1,nh,nJ]
 have a6:nh [some (.ae (.int 1)),some (.ae (.int q))]=some (.str "shunt"):=by simp! [i1,nh,nJ]
 have b':nh [some (.ae (.int 2)),some (.ae (.int q))]=some (.str "unset"):=by simp! [i1,nh,nJ]
 have t_:comp 1 [4] (mY (aa (.int 3))) (bH 0) rY nh ε=(gk (bH 0) rY nh [.int 0,.int 1,.int 2] [none,some (.ae (.int q))]).map .list:=by
  have s3:vl 3=true:=by decide
  simp[comp,mY,aa,s3,ajR,iF,h,nJ]
 rw[t_];cases t9 <;> cases b2 <;> cases cm
 ·exact⟨[],by simp,by simp[gk,bH,od,ei,dB]⟩
 ·exact⟨["unset"],by decide,by simp[gk,bH,od,ei,dB,ic,a6,b']⟩
 ·exact⟨["shunt"],by decide,by simp[gk,bH,od,ei,dB,ic,a6,b']⟩
 ·exact⟨["shunt","unset"],by decide,by simp[gk,bH,od,ei,dB,ic,a6,b']⟩
 ·exact⟨["set"],by decide,by simp[gk,bH,od,ei,dB,ic,a6,b']⟩
 ·exact⟨["set","unset"],by decide,by simp[gk,bH,od,ei,dB,ic,a6,b']⟩
 ·exact⟨["set","shunt"],by decide,by simp[gk,bH,od,ei,dB,ic,a6,b']⟩
 ·exact⟨["set","shunt","unset"],by decide,by simp[gk,bH,od,ei,dB,ic,a6,b']⟩
noncomputable def rU:bc:=(seq (asg 4 (ag oDiv (aX jr [(aJ 0),(ag cD (aa (.int 10)) (nm 2))]) (aa (.int 4)))) (iff (eM (bB (ag ia (ag oMod (nm 4) (aa (.int 3))) (aa (.int 0)))) (bB (ag oEq (nm 2) (aa (.int 1))))) (seq (asg 7 (aX e6 [(comp 1 [4] (mY (aa (.int 3))) (bH 0) rY nh)])) (seq (asg 8 (ag aW (b6 [(aa (.str "ann")),(aa (.str "bo")),(aa (.str "cy"))]) (ag oMod (ag oDiv (nm 4) (aa (.int 256))) (aa (.int 3))))) (asg 5 (ag cD (nm 5) (b6 [(b6 [(aJ 6),(aJ 8),(aJ 7),(ag aW (b6 [(aa (.int 0)),(aa (.int 0)),(aa (.int 1)),(aa (.int 2)),(aa (.int 9))]) (ag oMod (ag oDiv (nm 4) (aa (.int 1024))) (aa (.int 5))))])]))))) skip))
def uO:List Str:=["ann","bo","cy"]
theorem Mo(n:Int)(s1 s3:Option aI):∀(l:List (Int×Str)) (acc:List hI) (s2 s4 g4 dX eC:Option aI),(∀x∈l,0<=x.1/\x.1<100)->acc.length+l.length<=20->∃bp iZ lh as7 xj xk,(bp.map (·.fa)).Sublist (l.map (·.2))/\(∀k∈bp,k.i8∈uO/\k.kI.Sublist vn/\k.uses∈([0,0,1,2,9]:List Int))/\((∃x∈l,x.1=1)->bp≠[]) /\
  forL (eA [(bH 2),(bH 6)]) rU (l.map n6) [some (.ae (.int n)),s1,s2,s3,s4,some (.ae (.tuple (acc.map dV))),g4,dX,eC,none]=some (.bP [some (.ae (.int n)),s1,iZ,s3,lh,some (.ae (.tuple ((acc++bp).map dV))),as7,xj,xk,none])
| [],acc,s2,s4,g4,dX,eC,_,_=>⟨[],s2,s4,g4,dX,eC,.refl _,by simp,by simp,by simp[forL]⟩
|x::l,acc,s2,s4,g4,dX,eC,hx,aB=>by
  obtain⟨m,hm,dF⟩:=yn n (10+x.1) (by have:=hx x fY;omega);obtain⟨q,bg,eK⟩:=divQ m 4;obtain⟨r,_,_,_,fQ⟩:=modQ q 3;obtain⟨aQ,mB,n2⟩:=divQ q 256;obtain⟨a6,qC,h0,af,n3⟩:=modQ aQ 3;obtain⟨a7,nx,n5⟩:=divQ q 1024;obtain⟨b',_,ai,bE,ng⟩:=modQ a7 5;obtain⟨s,asr,lO⟩:=wV uO h0 af;obtain⟨u,b4,nd⟩:=wU [0,0,1,2,9] ai bE;simp only[uO,c9,g6] at lO nd;simp only[d_] at aB;have b2:acc.length+1<=big:=by unfold big;omega
  have k_:∀y∈l,0<=y.1/\y.1<100:=λy bw=>hx y (di _ bw);obtain⟨rs,ad_,Gv⟩:=aoy q [some (.ae (.int n)),s1,some (.ae (.int x.1)),s3,some (.ae (.int q)),some (.ae (.tuple (acc.map dV))),some (.ae (.str x.2)),dX,eC,none] rfl;by_cases ax:0<r\/x.1=1
  ·obtain⟨bp,iZ,lh,as7,xj,xk,bT,bW,nA,pC⟩:=Mo n s1 s3 l (acc++[(⟨x.2,s,rs,u⟩:hI)]) (some (.ae (.int x.1))) (some (.ae (.int q))) (some (.ae (.str x.2))) (some (.ae (.tuple (rs.map .str)))) (some (.ae (.str s))) k_ (by simp;omega);refine⟨⟨x.2,s,rs,u⟩::bp,iZ,lh,as7,xj,xk,by simpa using bT,λz ar=>?_,λ_=>by simp,?_⟩
   ·rcases asu.mp ar with rfl|ar
    ·exact⟨asr,ad_,b4⟩
    ·exact bW z ar
   ·rw[c9,forL];have:rU [some (.ae (.int n)),s1,some (.ae (.int x.1)),s3,s4,some (.ae (.tuple (acc.map dV))),some (.ae (.str x.2)),dX,eC,none]=some (.bP [some (.ae (.int n)),s1,some (.ae (.int x.1)),s3,some (.ae (.int q)),some (.ae (.tuple ((acc++[(⟨x.2,s,rs,u⟩:hI)]).map dV))),some (.ae (.str x.2)),some (.ae (.tuple (rs.map .str))),some (.ae (.str s)),none]):=by
     have qR:asg 4 (ag oDiv (aX jr [(aJ 0),(ag cD (aa (.int 10)) (nm 2))]) (aa (.int 4))) [some (.ae (.int n)),s1,some (.ae (.int x.1)),s3,s4,some (.ae (.tuple (acc.map dV))),some (.ae (.str x.2)),dX,eC,none]=some (.bP [some (.ae (.int n)),s1,some (.ae (.int x.1)),s3,some (.ae (.int q)),some (.ae (.tuple (acc.map dV))),some (.ae (.str x.2)),dX,eC,none]):=by
      simp! [fD,jR,dF,eK]
     have iZ:asg 7 (aX e6 [(comp 1 [4] (mY (aa (.int 3))) (bH 0) rY nh)]) [some (.ae (.int n)),s1,some (.ae (.int x.1)),s3,some (.ae (.int q)),some (.ae (.tuple (acc.map dV))),some (.ae (.str x.2)),dX,eC,none]=some (.bP [some (.ae (.int n)),s1,some (.ae (.int x.1)),s3,some (.ae (.int q)),some (.ae (.tuple (acc.map dV))),some (.ae (.str x.2)),some (.ae (.tuple (rs.map .str))),eC,none]):=by
      simp only[asg,aX,args,Gv,cv,et,e6];rfl
     unfold rU;rw[gv qR];have cH:eM (bB (ag ia (ag oMod (nm 4) (aa (.int 3))) (aa (.int 0)))) (bB (ag oEq (nm 2) (aa (.int 1)))) [some (.ae (.int n)),s1,some (.ae (.int x.1)),s3,some (.ae (.int q)),some (.ae (.tuple (acc.map dV))),some (.ae (.str x.2)),dX,eC,none]=some true:=by
      by_cases dg:0<r
      ·simp! [fD,fQ,ia,dg]
      ·have ud:oEq (.int x.1) (.int 1)=some (.bool true):=by rw[nB,decide_eq_true (ax.resolve_left dg)]
       simp! [fD,fQ,ia,dg,ud]
     simp only[iff,cH,cv,if_true];rw[gv iZ];simp! [fD,fQ,n2,n3,n5,ng,lO,nd,cD,b2,Np,tC,nJ,one_le,dV]
    simp only[n6,eA,gr,bH,cv,kf,jL,this];simpa using pC
  ·obtain⟨bp,iZ,lh,as7,xj,xk,bT,bW,nA,pC⟩:=Mo n s1 s3 l acc (some (.ae (.int x.1))) (some (.ae (.int q))) (some (.ae (.str x.2))) dX eC k_ (by omega);refine⟨bp,iZ,lh,as7,xj,xk,bT.cons _,bW,λ⟨y,bw,e⟩=>nA ?_,?_⟩
   ·rcases asu.mp bw with rfl|bw
    ·exact absurd (.inr e) ax
    ·exact⟨y,bw,e⟩
   ·rw[c9,forL];have:rU [some (.ae (.int n)),s1,some (.ae (.int x.1)),s3,s4,some (.ae (.tuple (acc.map dV))),some (.ae (.str x.2)),dX,eC,none]=some (.bP [some (.ae (.int n)),s1,some (.ae (.int x.1)),s3,some (.ae (.int q)),some (.ae (.tuple (acc.map dV))),some (.ae (.str x.2)),dX,eC,none]):=by
     have en:¬0<r:=λz=>ax (.inl z);have ud:oEq (.int x.1) (.int 1)=some (.bool false):=by rw[nB,decide_eq_false λz=>ax (.inr z)]
     simp! [fD,rU,dF,eK,fQ,jR,ia,en,ud]
    simp only[n6,eA,gr,bH,cv,kf,jL,this];exact pC
def kp:List (Int×Str):=[(0,"a"),(1,"b"),(2,"back"),(3,"d"),(4,"hall"),(5,"r"),(6,"win"),(7,"z")]
def n0:List (Int×Str):=[(0,"0000"),(1,"1234"),(2,"4321"),(3,"7777"),(4,"9990"),(5,"9999")]
structure gm(p:aV):Prop where
 zs:(p.cz.map (·.1)).Sublist (kp.map (·.2))
 yI:∀z∈p.cz,z.2∈kinds
 sV:p.cz≠[]
 cs:(p.codes.map (·.fa)).Sublist (n0.map (·.2))
 mn:∀k∈p.codes,k.i8∈uO/\k.kI.Sublist vn/\k.uses∈([0,0,1,2,9]:List Int)
 t_:p.codes≠[]
 i6:p.leave∈([0,5,30,60]:List Int)
 kb:p.m_∈([0,4,20,60]:List Int)
 to:p.loud∈([1,9,120,300]:List Int)
def aqT(n:Int):∃p,gm p/\Dc [.int n]=some (b3 p):=by
 obtain⟨zs,s2,s3,s4,bT,bW,nA,pC⟩:=Mx n kp [] none none none (by decide) (by decide);have wM:zs≠[]:=nA (by
  have af:0<=n / 8 % 8:=asK _ (by decide);have ai:n / 8 % 8<8:=sR _ (by decide);generalize n / 8 % 8=r at af ai;have:r=0\/r=1\/r=2\/r=3\/r=4\/r=5\/r=6\/r=7:=by omega
  rcases this with rfl|rfl|rfl|rfl|rfl|rfl|rfl|rfl
  ·exact⟨(0,"a"),by simp[kp],rfl⟩
  ·exact⟨(1,"b"),by simp[kp],rfl⟩
  ·exact⟨(2,"back"),by simp[kp],rfl⟩
  ·exact⟨(3,"d"),by simp[kp],rfl⟩
  ·exact⟨(4,"hall"),by simp[kp],rfl⟩
  ·exact⟨(5,"r"),by simp[kp],rfl⟩
  ·exact⟨(6,"win"),by simp[kp],rfl⟩
  ·exact⟨(7,"z"),by simp[kp],rfl⟩)
 obtain⟨bp,i3,as8,pO,i4,i5,Ae,QZ,j3,j4⟩:=Mo n (some (.ae (.tuple (zs.map eh)))) s3 n0 [] s2 s4 none none none (by decide) (by decide);have adR:bp≠[]:=j3 ⟨(1,"1234"),by simp[n0],rfl⟩;obtain⟨m,hm,dF⟩:=yn n 20 (by decide);obtain⟨q,bg,eK⟩:=divQ m 4;obtain⟨r,_,_i,a1,fQ⟩:=modQ q 4;obtain⟨aQ,mB,mr⟩:=divQ q 4;obtain⟨a6,_,t9,b2,n2⟩:=modQ aQ 4;obtain⟨a7,nx,n3⟩:=divQ q 16;obtain⟨b',_,t_,c6,n5⟩:=modQ a7 4;obtain⟨u,b4,ng⟩:=wU [0,5,30,60] _i a1;obtain⟨v,bq,lO⟩:=wU [0,4,20,60] t9 b2;obtain⟨w,hw,nd⟩:=wU [1,9,120,300] t_ c6;simp only[c9,g6] at ng lO nd;refine⟨⟨zs,bp,u,v,w⟩,⟨bT,bW,wM,Ae,QZ,adR,b4,bq,hw⟩,?_⟩;have f1:fb (lD (ik (b6 [(aa (.str "a")),(aa (.str "b")),(aa (.str "back")),(aa (.str "d")),(aa (.str "hall")),(aa (.str "r")),(aa (.str "win")),(aa (.str "z"))]))) (eA [(bH 2),(bH 3)]) qm [some (.ae (.int n)),some (.ae (.tuple [])),none,none,none,none,none,none,none,none]=some (.bP [some (.ae (.int n)),some (.ae (.tuple (zs.map eh))),s2,s3,s4,none,none,none,none,none]):=by
  have:(lD (ik (b6 [(aa (.str "a")),(aa (.str "b")),(aa (.str "back")),(aa (.str "d")),(aa (.str "hall")),(aa (.str "r")),(aa (.str "win")),(aa (.str "z"))]))) [some (.ae (.int n)),some (.ae (.tuple [])),none,none,none,none,none,none,none,none]=some (kp.map n6):=by
   simp[lD,ik,b6,args,aa,aqa,enum,kp,n6,List.zipIdx]
  unfold fb;rw[this];exact pC
 have f2:fb (lD (ik (b6 [(aa (.str "0000")),(aa (.str "1234")),(aa (.str "4321")),(aa (.str "7777")),(aa (.str "9990")),(aa (.str "9999"))]))) (eA [(bH 2),(bH 6)]) rU [some (.ae (.int n)),some (.ae (.tuple (zs.map eh))),s2,s3,s4,some (.ae (.tuple [])),none,none,none,none]=some (.bP [some (.ae (.int n)),some (.ae (.tuple (zs.map eh))),i3,s3,as8,some (.ae (.tuple (bp.map dV))),pO,i4,i5,none]):=by
  have:(lD (ik (b6 [(aa (.str "0000")),(aa (.str "1234")),(aa (.str "4321")),(aa (.str "7777")),(aa (.str "9990")),(aa (.str "9999"))]))) [some (.ae (.int n)),some (.ae (.tuple (zs.map eh))),s2,s3,s4,some (.ae (.tuple [])),none,none,none,none]=some (n0.map n6):=by
   simp[lD,ik,b6,args,aa,ND,enum,n0,n6,List.zipIdx]
  unfold fb;rw[this];exact j4
 show cT (seq (asg 1 (b6 [])) (seq (fb (lD (ik (b6 [(aa (.str "a")),(aa (.str "b")),(aa (.str "back")),(aa (.str "d")),(aa (.str "hall")),(aa (.str "r")),(aa (.str "win")),(aa (.str "z"))]))) (eA [(bH 2),(bH 3)]) qm)
  (seq (asg 5 (b6 [])) (seq (fb (lD (ik (b6 [(aa (.str "0000")),(aa (.str "1234")),(aa (.str "4321")),(aa (.str "7777")),(aa (.str "9990")),(aa (.str "9999"))]))) (eA [(bH 2),(bH 6)]) rU) _)))) 10 [.int n]=_
 unfold cT;have n_:seq (asg 1 (b6 []))=λb=>seq (asg 1 (b6 [])) b:=rfl;have af:asg 1 (b6 []) [some (.ae (.int n)),none,none,none,none,none,none,none,none,none]=some (.bP [some (.ae (.int n)),some (.ae (.tuple [])),none,none,none,none,none,none,none,none]):=by simp[asg,b6,args]
 have hA:asg 5 (b6 []) [some (.ae (.int n)),some (.ae (.tuple (zs.map eh))),s2,s3,s4,none,none,none,none,none]=some (.bP [some (.ae (.int n)),some (.ae (.tuple (zs.map eh))),s2,s3,s4,some (.ae (.tuple [])),none,none,none,none]):=by simp[asg,b6,args]
 show (seq _ _ [some (.ae (.int n)),none,none,none,none,none,none,none,none,none]).bind _=_
 rw[gv af,gv f1,gv hA,gv f2];simp! [fD,dF,eK,fQ,mr,n2,n3,n5,ng,lO,nd,tC,nJ,b3]
def gm.ft{p:aV}(h:gm p):p.cz.length<=8:=by simpa [kp] using h.zs.length_le
def gm.cl{p:aV}(h:gm p):p.codes.length<=6:=by simpa [n0] using h.cs.length_le
def rb{l:List Str}(h:l.all (λx=>(kg x).canLay0)=true:=by decide +kernel){x:Str}(hx:x∈l):cF x:=List.all_eq_true.mp h x hx
def gm.wp{p:aV}(h:gm p):Wp p:=by
 refine⟨?_,?_,?_,?_⟩
 ·exact h.cs.nodup (by decide +kernel)
 ·exact h.zs.nodup (by decide +kernel)
 ·have:=h.cl;omega
 ·have af:=h.i6;have ai:=h.kb;have bE:=h.to;simp at af ai bE;omega
def gm.j'{p:aV}(h:gm p):∀z∈p.cz,cF z.1/\cF z.2:=λz ar=>⟨rb (l:=kp.map (·.2)) (hx:=h.zs.subset (cN.mpr ⟨z,ar,rfl⟩)),rb (l:=kinds) (hx:=h.yI z ar)⟩
def gm.aiv{p:aV}(h:gm p):∀k∈p.codes,cF k.fa/\cF k.i8/\∀r∈k.kI,cF r:=λk aR=>⟨rb (l:=n0.map (·.2)) (hx:=h.cs.subset (cN.mpr ⟨k,aR,rfl⟩)),rb (l:=uO) (hx:=(h.mn k aR).1),λr aw=>rb (l:=vn) (hx:=(h.mn k aR).2.1.subset aw)⟩
def gm.begun{p:aV}(h:gm p):a5 p (hn p):=by
 refine⟨h.j',h.aiv,?_,bA "off",λz e=>(nomatch e),λe=>absurd e Cc,?_,?_,?_,by simp[hn],by simp[hn]⟩
 ·have:=h.ft;omega
 ·simp[hn,lZ]
 ·intro l aB;obtain⟨z,_,rfl⟩:=cN.mp aB;exact bA "shut"
 ·simp[hn,lZ]
end bI
end
section
namespace bI
open D PySem
def Ad(p:aV):aW (b3 p) (.int 0)=some (.tuple (p.cz.map eh)):=by simp[aW,e9,fS,b3]
def aez(p:aV):aW (b3 p) (.int 1)=some (.tuple (p.codes.map dV)):=by simp[aW,e9,fS,b3]
def DL(z:Str×Str):aW (eh z) (.int 0)=some (.str z.1):=by simp[aW,e9,fS,eh]
def Z6(k:hI):aW (dV k) (.int 0)=some (.str k.fa):=by simp[aW,e9,fS,dV]
def Q5(m:Int){l:List T}(h:l≠[]):∃q:Int,0<=q/\q<l.length/\oMod (.int m) (.int l.length)=some (.int q):=by
 have aB:0<(l.length:Int):=by
  have:=List.length_pos_iff.mpr h;omega
 obtain⟨q,_,af,ai,e⟩:=modQ m l.length aB;exact⟨q,af,ai,e⟩
def rz:List Str:=["0000","1234","4321","7777","9990","9999","0001","1111","5555"]
noncomputable def jW(p:aV):cE->Prop
|.line z w=>z∈p.cz.map (·.1)/\w∈(["shut","open","open","cut"]:List Str)
|.code f d z=>f∈rz/\(((d="set"\/d="unset")/\z=none)\/((d="shunt"\/d="free")/\∃x,z=some x/\x∈p.cz.map (·.1)))
|.dJ n=>1<=n/\n<=1000000000
def jW.ok{p:aV}{e:cE}(h:jW p e):hB p e:=by
 cases e with
|line z w=>
  obtain⟨af,ai⟩:=h;simp at ai;exact⟨af,ai⟩
|dJ n=>exact h.1
|code f d z=>
  obtain⟨af,ai⟩:=h;refine⟨rb (l:=rz) (hx:=af),?_,?_⟩
  ·rcases ai with ⟨ai|ai,_⟩|⟨ai|ai,_⟩
   ·exact .inl ai
   ·exact .inr (.inl ai)
   ·exact .inr (.inr (.inl ai))
   ·exact .inr (.inr (.inr ai))
  ·intro hd;rcases ai with ⟨ai|ai,_⟩|⟨_,bE⟩
   ·rcases hd with hd|hd
    ·exact absurd (ai.symm.trans hd) Mf
    ·exact absurd (ai.symm.trans hd) CC
   ·rcases hd with hd|hd
    ·exact absurd (ai.symm.trans hd) L1
    ·exact absurd (ai.symm.trans hd) Cb
   ·exact bE
def ap'{p:aV}(h:gm p)(n:Int):∃e,jW p e/\ra [b3 p,.int n]=some (bS e):=by
 obtain⟨aQ,_,dF⟩:=divQ n 8;obtain⟨i,i0,bT,eK⟩:=Q5 (l:=p.cz.map eh) aQ (by simpa using h.sV);obtain⟨t,aZ,fQ⟩:=Ac i0 bT;obtain⟨z,ar,rfl⟩:=cN.mp aZ;have sl:z.1∈p.cz.map (·.1):=cN.mpr ⟨z,ar,rfl⟩;obtain⟨k,_,_,_,mr⟩:=modQ n 10;obtain⟨a7,_,n2⟩:=divQ n 512;obtain⟨b',_,QY,Ae,n3⟩:=modQ a7 4;obtain⟨w,hw,n5⟩:=wV ["shut","open","open","cut"] QY Ae;obtain⟨f',Qw,ng⟩:=wV ["0001","1111","9999","0000"] QY Ae;obtain⟨cL,_,lO⟩:=divQ n 64;obtain⟨ib,_,nd⟩:=divQ n 4096;obtain⟨ix,_,od,ei,Gv⟩:=modQ ib 3;obtain⟨u,b4,ud⟩:=wU [3,40,200] od ei;have aef:0<u/\u<=200:=by
  simp at b4;omega
 obtain⟨iY,_,qI,bZ,ac0⟩:=modQ cL u aef.1;obtain⟨HG,aeq,aer,Qa⟩:=Q5 (l:=p.codes.map dV) cL (by simpa using h.t_);obtain⟨t',aed,ac1⟩:=Ac aeq aer;obtain⟨c,ax,rfl⟩:=cN.mp aed;have adC:c.fa∈rz:=by
  have:=h.cs.subset (cN.mpr ⟨c,ax,rfl⟩);simp[n0,rz] at this ⊢;rcases this with q|q|q|q|q|q <;> simp[q]
 obtain⟨lV,_,Qb⟩:=divQ n 65536;obtain⟨sG,_,_,_,Qc⟩:=modQ lV 4;obtain⟨xd,_,m0,iV,Qd⟩:=modQ ib 6;obtain⟨d,hd,Gw⟩:=wV ["set","set","unset","shunt","free","shunt"] m0 iV;simp only[c9,g6] at n5 ng ud Gw;simp only[eT] at eK Qa;have y7:fo [.tuple (p.cz.map eh)]=some (.int p.cz.length):=by simp[fo]
 have bG:fo [.tuple (p.codes.map dV)]=some (.int p.codes.length):=by simp[fo]
 simp only[ra,T',cT,c9,g6,d_,l5,dS,uY,q3];by_cases af:k<5
 ·exact⟨.line z.1 w,⟨sl,hw⟩,by simp! [fD,Ad,DL,dF,y7,eK,fQ,mr,oLt,af,n2,n3,n5,tC,nJ,bS]⟩
 ·by_cases ai:k<7
  ·exact⟨.dJ (1+iY),⟨by omega,by omega⟩,by simp! [fD,Ad,DL,dF,y7,eK,fQ,mr,oLt,af,ai,lO,nd,Gv,ud,ac0,jR,nJ,mV,bS]⟩
  ·have fe:cF d:=rb (l:=["set","set","unset","shunt","free","shunt"]) (hx:=hd);have KY:=yl false (n:=d) (ns:=["set","unset"]) fe (by
    intro k aR;exact rb (l:=["set","unset"]) (hx:=aR))
   simp only[c9,g6] at KY;obtain⟨f,hf,Qe⟩:∃f∈rz,(iff (bB (ag oEq (ag oMod (ag oDiv (nm 1) (aa (.int 65536))) (aa (.int 4))) (aa (.int 0)))) (asg 4 (ag aW (b6 [(aa (.str "0001")),(aa (.str "1111")),(aa (.str "9999")),(aa (.str "0000"))]) (ag oMod (ag oDiv (nm 1) (aa (.int 512))) (aa (.int 4))))) skip) [some (.ae (b3 p)),some (.ae (.int n)),some (.ae (.str z.1)),some (.ae (.int k)),some (.ae (.str c.fa)),none]=some (.bP [some (.ae (b3 p)),some (.ae (.int n)),some (.ae (.str z.1)),some (.ae (.int k)),some (.ae (.str f)),none]):=by
    by_cases bE:sG=0
    ·refine⟨f',?_,by simp! [fD,Qb,Qc,nB,bE,n2,n3,ng,tC]⟩
     simp[rz] at Qw ⊢;rcases Qw with q|q|q|q <;> simp[q]
    ·exact⟨c.fa,adC,by simp! [fD,Qb,Qc,nB,bE]⟩
   have Rt:∀X:bc,iff (bB (ag oLt (nm 3) (aa (.int 5)))) X skip [some (.ae (b3 p)),some (.ae (.int n)),some (.ae (.str z.1)),some (.ae (.int k)),none,none]=some (.bP [some (.ae (b3 p)),some (.ae (.int n)),some (.ae (.str z.1)),some (.ae (.int k)),none,none]):=λX=>by simp! [fD,oLt,af]
   have sB:∀X:bc,iff (bB (ag oLt (nm 3) (aa (.int 7)))) X skip [some (.ae (b3 p)),some (.ae (.int n)),some (.ae (.str z.1)),some (.ae (.int k)),none,none]=some (.bP [some (.ae (b3 p)),some (.ae (.int n)),some (.ae (.str z.1)),some (.ae (.int k)),none,none]):=λX=>by simp! [fD,oLt,ai]
   have Ru:asg 4 (ag aW (ag aW (ag aW (nm 0) (aa (.int 1))) (ag oMod (ag oDiv (nm 1) (aa (.int 64))) (aX fo [(ag aW (nm 0) (aa (.int 1)))]))) (aa (.int 0))) [some (.ae (b3 p)),some (.ae (.int n)),some (.ae (.str z.1)),some (.ae (.int k)),none,none]=some (.bP [some (.ae (b3 p)),some (.ae (.int n)),some (.ae (.str z.1)),some (.ae (.int k)),some (.ae (.str c.fa)),none]):=by simp! [fD,aez,bG,lO,Qa,ac1,Z6]
   by_cases c':d="set"\/d="unset"
   ·refine⟨.code f d none,⟨hf,.inl ⟨c',rfl⟩⟩,?_⟩
    have KZ:eP false (.str d) (.tuple [.str "set",.str "unset"])=some (.bool true):=by
     rw[KY];simp[c']
    have pre:∀B:bc,(seq (asg 2 (ag aW (ag aW (ag aW (nm 0) (aa (.int 0))) (ag oMod (ag oDiv (nm 1) (aa (.int 8))) (aX fo [(ag aW (nm 0) (aa (.int 0)))]))) (aa (.int 0)))) (seq (asg 3 (ag oMod (nm 1) (aa (.int 10)))) B)) [some (.ae (b3 p)),some (.ae (.int n)),none,none,none,none]=B [some (.ae (b3 p)),some (.ae (.int n)),some (.ae (.str z.1)),some (.ae (.int k)),none,none]:=by
     intro B;simp! [fD,Ad,DL,dF,y7,eK,fQ,mr]
    rw[pre];rw[gv (Rt _),gv (sB _),gv Ru,gv Qe];simp! [fD,nd,Qd,Gw,ND,mV,KZ,tC,bS,eQ]
   ·refine⟨.code f d (some z.1),⟨hf,.inr ⟨?_,z.1,rfl,sl⟩⟩,?_⟩
    ·simp at hd;rcases hd with q|q|q|q|q
     ·exact absurd (.inl q) c'
     ·exact absurd (.inr q) c'
     ·exact .inl q
     ·exact .inr q
     ·exact .inl q
    have KZ:eP false (.str d) (.tuple [.str "set",.str "unset"])=some (.bool false):=by
     rw[KY];simp at c';simp[c']
    have pre:∀B:bc,(seq (asg 2 (ag aW (ag aW (ag aW (nm 0) (aa (.int 0))) (ag oMod (ag oDiv (nm 1) (aa (.int 8))) (aX fo [(ag aW (nm 0) (aa (.int 0)))]))) (aa (.int 0)))) (seq (asg 3 (ag oMod (nm 1) (aa (.int 10)))) B)) [some (.ae (b3 p)),some (.ae (.int n)),none,none,none,none]=B [some (.ae (b3 p)),some (.ae (.int n)),some (.ae (.str z.1)),some (.ae (.int k)),none,none]:=by
     intro B;simp! [fD,Ad,DL,dF,y7,eK,fQ,mr]
    rw[pre];rw[gv (Rt _),gv (sB _),gv Ru,gv Qe];simp! [fD,nd,Qd,Gw,ND,mV,KZ,tC,bS,eQ]
def vy:List cE:=[.code "5555" "unset" none,.code "5555" "unset" none,.code "5555" "unset" none]
theorem Ux{p:aV}(h:gm p)(n:Int):∀(bp:List Int) (s0:Option aI),(∀k∈bp,0<=k/\k<1000)->∃es:List cE,(∀e∈es,jW p e)/\es.length=bp.length/\gk (bH 0) (dy true) (aX ra [(aJ 1),(ag oDiv (aX jr [(aJ 2),(ag cD (aa (.int 30)) (nm 0))]) (aa (.int 4)))]) (bp.map .int) [s0,some (.ae (b3 p)),some (.ae (.int n))]=some (es.map bS)
| [],s0,_=>⟨[],by simp,rfl,rfl⟩
|k::bp,s0,aR=>by
  obtain⟨m,_,dF⟩:=yn n (30+k) (by have:=aR k fY;omega);obtain⟨q,_,eK⟩:=divQ m 4;obtain⟨e,he,fQ⟩:=ap' h q;obtain⟨es,bT,bW,nA⟩:=Ux h n bp (some (.ae (.int k))) λy bw=>aR y (di _ bw);refine⟨e::es,λx hx=>?_,by simp[bW],?_⟩
  ·rcases asu.mp hx with rfl|hx
   ·exact he
   ·exact bT x hx
  ·have ax:aX ra [(aJ 1),(ag oDiv (aX jr [(aJ 2),(ag cD (aa (.int 30)) (nm 0))]) (aa (.int 4)))] [some (.ae (.int k)),some (.ae (b3 p)),some (.ae (.int n))]=some (bS e):=by
    simp! [fD,jR,dF,eK,fQ]
   rw[c9];simp only[gk,bH,jL,cv,dy,if_true,ax];rw[nA];rfl
def VF{p:aV}(h:gm p)(n m:Int)(a9:0<=n)(hm:0<=m/\m<900):∃es:List cE,(∀e∈es,jW p e)/\(es.length:Int)<=m/\tE [b3 p,.int n,.int m]=some (.tuple (es.map bS)):=by
 obtain⟨r,_,ic,a6,dF⟩:=modQ n (m+1) (by omega);have adV:lW 0 r=((List.range r.toNat).map λ(k:Nat)=>(k:Int)).map .int:=by
  simp[lW,lZ]
 obtain⟨es,bT,bW,nA⟩:=Ux h n ((List.range r.toNat).map λ(k:Nat)=>(k:Int)) none (by
  intro k aR;obtain⟨j,bJ,rfl⟩:=cN.mp aR;have:=List.mem_range.mp bJ;omega)
 have aB:(es.length:Int)=r:=by
  simp at bW;omega
 obtain⟨q,_,eK⟩:=divQ n 64;obtain⟨b_,_,_,_,fQ⟩:=modQ q 5;have ajV:vl r=true:=by
  unfold vl;simp;omega
 have s1:asg 3 (aX e6 [(comp 1 [0,1] (mY (ag oMod (nm 1) (ag cD (nm 2) (aa (.int 1))))) (bH 0) (dy true) (aX ra [(aJ 1),(ag oDiv (aX jr [(aJ 2),(ag cD (aa (.int 30)) (nm 0))]) (aa (.int 4)))]))]) [some (.ae (b3 p)),some (.ae (.int n)),some (.ae (.int m)),none]=some (.bP [some (.ae (b3 p)),some (.ae (.int n)),some (.ae (.int m)),some (.ae (.tuple (es.map bS)))]):=by
  have b2:((((List.range r.toNat).map λ(k:Nat)=>(k:Int)).map PyData.int).length<=big)=True:=by
   simp;unfold big;omega
  have it:(mY (ag oMod (nm 1) (ag cD (nm 2) (aa (.int 1))))) [some (.ae (b3 p)),some (.ae (.int n)),some (.ae (.int m)),none]=some (((List.range r.toNat).map λ(k:Nat)=>(k:Int)).map .int):=by
   rw[<- adV];simp[mY,ag,nm,aa,jR,dF,ajV]
  simp only[asg,aX,args,comp,it,cv,b2,if_true];show Option.map _ ((Option.bind (Option.map _ (gk _ _ _ _ [none,some (.ae (b3 p)),some (.ae (.int n))])) _).bind _)=_;rw[nA];simp[e6]
 have de:tE [b3 p,.int n,.int m]=(Dm [some (.ae (b3 p)),some (.ae (.int n)),some (.ae (.int m)),none]).bind λo=>match o with|.d9 t=>some t|.bP _=>some .none|_=>none:=rfl
 by_cases ax:b_=0/\2<(es.length:Int)
 ·refine⟨es.take (es.length - 3)++vy,?_,?_,?_⟩
  ·intro e he;rcases hD.mp he with q|q
   ·exact bT e (List.mem_of_mem_take q)
   ·simp[vy] at q;subst q;exact⟨by simp[rz],.inl ⟨.inr rfl,rfl⟩⟩
  ·simp[vy];omega
  ·rw[de];unfold Dm;rw[gv s1];have b2:(es.length - 3+3<=big)=True:=by
    simp only[eq_iff_iff,iff_true];unfold big;omega
   have cm:(max (-3+(es.length:Int)) 0).toNat=es.length - 3:=by omega
   have gI:min (es.length - 3) es.length=es.length - 3:=by omega
   have nZ:w8 (.tuple [bS (.code "5555" "unset" none)]) (.int 3)=some (.tuple (vy.map bS)):=by
    simp[w8,vy,dS,nJ]
   simp only[bS,eQ] at nZ;simp! [fD,eK,fQ,nB,ax.1,ax.2,fo,ia,slice,optN,opt,mH,qL,gS,cu,cm,gI,nZ,tC,one_le,cD,vy];rw[if_pos (b2▸trivial)];simp! [fD]
 ·refine⟨es,bT,by omega,?_⟩
  rw[de];unfold Dm;rw[gv s1];by_cases af:b_=0
  ·have ai:¬2<(es.length:Int):=λz=>ax ⟨af,z⟩;simp! [fD,eK,fQ,nB,af,fo,ia];rw[if_neg ai];simp! [fD]
  ·simp! [fD,eK,fQ,nB,af]
end bI
end
section
namespace bI
open D PySem
def ajZ(k:Int)(w:Int×Str×Option Str):Int×Str×Option Str:=(k+w.1,w.2)
def hP(k:Int)(pre:List (Int×Str×Option Str))(c:aU):aU:={c with past:=k+c.past,told:=pre++c.told.map (ajZ k)}
def Zt(c:aU):Prop:=c.mode="leaving"\/c.mode="coming"
end bI
end
section
namespace bI
open D PySem
def okN(d:Nat)(t:T):Prop:=t.canLay0=true/\t.depth<=d
theorem okN.ff{d:Nat}{t:T}(h:okN d t)(hd:d<=60:=by decide):ff t=true:=by
 unfold D.ff;rw[h.1,decide_eq_true (mS h.2 hd)];rfl
theorem Ni{d:Nat}:∀{ts:List T},(∀t∈ts,okN d t)->ke ts=true/\jm ts<=d
| [],_=>by simp[ke,jm]
|t::ts,h=>by
  obtain⟨af,ai⟩:=Ni λx hx=>h x (di _ hx);obtain⟨bE,c'⟩:=h t fY;constructor
  ·rw[ke,bE,af];rfl
  ·rw[jm];omega
def kW{d:Nat}{ts:List T}(h:∀t∈ts,okN d t):okN (d+1) (.tuple ts):=by
 obtain⟨af,ai⟩:=Ni h;constructor
 ·rw[PyData.canLay0];exact af
 ·rw[jq];omega
def tA(d:Nat)(n:Int):okN d (.int n):=⟨rfl,by rw[jq];omega⟩
def apL(d:Nat):okN d .none:=⟨rfl,by rw[jq];omega⟩
def apM(d:Nat)(b:Bool):okN d (.bool b):=⟨rfl,by rw[jq];omega⟩
def kY(d:Nat){x:Str}(h:cF x):okN d (.str x):=⟨h,by rw[jq];omega⟩
def NM(d:Nat){x:Option Str}(h:∀z,x=some z->cF z):okN d (eQ x):=by
 cases x with
|none=>exact apL d
|some z=>exact kY d (h z rfl)
def apN{d:Nat}{t:T}(h:okN d t)(hd:d<=60:=by decide):fV t t=some (.bool false):=by
 unfold fV;rw[h.ff hd,PySem.SeqAt.eqv_refl t h.1];rfl
def UB{d:Nat}{t:T}(h:okN d t)(hd:d<=60:=by decide):oEq t t=some (.bool true):=by
 unfold oEq;rw[h.ff hd,PySem.SeqAt.eqv_refl t h.1];rfl
def UA{p:aV}{c:aU}(h:a5 p c):okN 2 (ee c):=by
 refine kW λt aZ=>?_
 simp only[asu,eu,or_false] at aZ;rcases aZ with rfl|rfl|rfl|rfl|rfl|rfl|rfl|rfl|rfl|rfl
 ·exact kY _ h.mo
 ·exact tA _ _
 ·exact NM _ λz ar=>(h.ca z ar).1
 ·refine kW (d:=0) λt aZ=>?_
  obtain⟨l,aB,rfl⟩:=cN.mp aZ;exact kY _ (h.lo l aB)
 ·refine kW (d:=0) λt aZ=>?_
  obtain⟨l,aB,rfl⟩:=cN.mp aZ;exact kY _ (h.uA l aB)
 ·exact tA _ _
 ·refine kW (d:=0) λt aZ=>?_
  obtain⟨l,aB,rfl⟩:=cN.mp aZ;exact kY _ (h.Rf l aB)
 ·exact tA _ _
 ·exact tA _ _
 ·refine kW (d:=0) λt aZ=>?_
  obtain⟨l,aB,rfl⟩:=cN.mp aZ;exact tA _ _
def cY(c:aU):Prop:=∀w∈c.told,cF w.2.1/\∀n,w.2.2=some n->cF n
theorem cY.tell{c:aU}(h:cY c){w:Str}{n:Option Str}(hw:cF w)(a9:∀x,n=some x->cF x):cY (bI.tell w n c):=by
 intro x hx;rcases hD.mp hx with q|q
 ·exact h x q
 ·simp at q;subst q;exact⟨hw,a9⟩
theorem cY.f9{p:aV}{c:aU}(h:cY c){z:Str}(ar:cF z):cY (bI.f9 p z c):=by
 unfold bI.f9;split
 ·exact h
 ·exact cY.tell (c:={k5 p c with c_:=c.c_++[z]}) h (bA "alarm") λx e=>fq e▸ar
theorem cY.c_{p:aV}:∀{zs:List Str} {c:aU},cY c->(∀z∈zs,cF z)->cY (bI.c_ p zs c)
| [],_,h,_=>h
|z::zs,c,h,ar=>cY.c_ (zs:=zs) (h.f9 (ar z fY)) λy bw=>ar y (di _ bw)
theorem cY.ky{p:aV}{c:aU}(h:cY c){z k:Str}(ar:cF z):cY (bI.ky p z k c):=by
 unfold bI.ky;split
 ·exact h.f9 ar
 ·exact cY.tell (c:={c with mode:="coming",left:=p.m_,g_:=some z}) h (bA "coming") λx e=>fq e▸ar
theorem cY.lN{p:aV}{c:aU}(h:cY c){z w:Str}(ar:cF z):cY (bI.lN p z w c):=by
 unfold bI.lN
 repeat' split
 all_goals first|exact h.f9 ar|exact h.tell (bA "fault") λx e=>fq e▸ar|exact h.ky ar|exact h
theorem cY.line{p:aV}{c:aU}(h:cY c){z w:Str}(ar:cF z):cY (bI.line p z w c):=by
 have h':cY {c with lines:=mK c.lines z w}:=h;unfold bI.line
 repeat' split
 all_goals first|exact h|exact h'|exact h'.tell (bA "mended") λx e=>fq e▸ar|exact h'.lN ar
theorem cY.kz{p:aV}{c:aU}(h:cY c)(hw:a5 p c):cY (bI.kz p c):=
 cY.c_ (cY.tell (c:={c with mode:="on",left:=0}) h (bA "on") λx e=>(nomatch e)) λz ar=>hw.j' (De ar)
theorem cY.kB{p:aV}{c:aU}(h:cY c)(hw:a5 p c)(hm:Zt c):cY (bI.kB p c):=by
 unfold bI.kB;split
 ·exact h.kz hw
 next q=>
  obtain⟨z,ar⟩:=Option.ne_none_iff_exists'.mp (hw.kx (hm.resolve_left q));unfold bI.ph;rw[ar];exact cY.f9 (c:={c with mode:="on",g_:=none}) h (hw.ca z ar).1
theorem cY.dJ{p:aV}{c:aU}(h:cY c)(hw:a5 p c)(n:Int):cY (bI.dJ p n c):=by
 unfold bI.dJ;split
 ·exact h
 ·split
  next q=>exact cY.kB (c:=p2 c.left c) h (hw.cd _) q.1
  ·exact h
theorem cY.jI{p:aV}{c:aU}(h:cY c):cY (bI.jI p c):=by
 have af:cY (nC c):=cY.tell h (bA "wrong") λx e=>(nomatch e);unfold bI.jI;split
 ·exact cY.tell (c:=k5 p {nC c with tries:=0,locked:=90}) af (bA "attack") λx e=>(nomatch e)
 ·exact af
def aol{p:aV}{c:aU}(hw:a5 p c){k:hI}(aR:k∈p.codes){d:Str}{z:Option Str}{x:Str×Str}(h:ml p k d z c=some x):cF x.1/\cF x.2:=by
 have QP:=(hw.asw k aR).2.1;unfold ml at h;by_cases af:(if d="free" then ("shunt":Str) else d)∈k.kI
 ·rw[if_neg (λq=>q af)] at h;split at h
  ·cases h
   exact⟨bA "no",QP⟩
  ·split at h
   next q=>
    cases h
    refine⟨bA "open",?_⟩
    have ab:=q.2;cases e:bare p ["day","once"] c with
    |nil=>exact absurd e ab
    |cons b bs=>
     have:b∈bare p ["day","once"] c:=by rw[e];simp
     simpa using hw.j' (De this)
   ·cases h
 ·rw[if_pos af] at h;cases h;exact⟨bA "denied",QP⟩
theorem cY.hL{p:aV}{c:aU}(h:cY c)(hw:a5 p c){w d:Str}{z:Option Str}(how:cF w)(ar:AZ p d z c):cY (bI.hL p w d z c):=by
 rcases ar with rfl|rfl|⟨rfl,x,rfl,hx⟩|⟨rfl,x,rfl,hx⟩
 ·simp only[bI.hL,if_true];have h':cY (bI.tell "set" (some w) {c with c_:=[],fJ:=0,mode:="leaving",left:=p.leave}):=cY.tell (c:={c with c_:=[],fJ:=0,mode:="leaving",left:=p.leave}) h (bA "set") λx e=>fq e▸how;show cY (if p.leave<=0 then bI.kz p (bI.tell "set" (some w) {c with c_:=[],fJ:=0,mode:="leaving",left:=p.leave}) else bI.tell "set" (some w) {c with c_:=[],fJ:=0,mode:="leaving",left:=p.leave});split
  ·exact h'.kz ((hw.Bc p.leave).tell _ _)
  ·exact h'
 ·simp only[bI.hL,if_neg Cn,if_true];exact cY.tell (c:={c with mode:="off",left:=0,fJ:=0,g_:=none,dY:=[]}) h (bA "unset") λx e=>fq e▸how
 ·simp only[bI.hL,if_neg Co,if_neg xP,if_true];exact cY.tell (c:={c with dY:=kn (c.dY++[x])}) h (bA "shunt") λy e=>fq e▸hw.j' hx
 ·simp only[bI.hL,if_neg CD,if_neg xU,if_neg xV];exact cY.tell (c:={c with dY:=c.dY.erase x}) h (bA "free") λy e=>fq e▸hw.uA x hx
theorem cY.h8{p:aV}{c:aU}(h:cY c)(hw:a5 p c){e:cE}(he:hB p e):cY (bI.h8 p c e):=by
 cases e with
|line z w=>exact h.line (hw.j' he.1)
|dJ n=>exact h.dJ hw n
|code f d z=>
  show cY (bI.code p f d z c)
  unfold bI.code;split
  ·exact h.tell (bA "locked") λx e=>(nomatch e)
  ·split
   ·exact h.jI
   next k e'=>
    have aR:=Tj e';split
    ·exact h.jI
    ·have uM:=hw.Bl 0;have h0:cY {c with tries:=0}:=h;unfold bI.takeRight;split
     next dG=>exact cY.hL (c:={c with tries:=0,used:=ql c.used k.fa}) h (uM.add k.fa) (hw.asw k aR).2.1 (NN he.2.1 he.2.2 dG)
     next dG=>
      have:=aol uM aR dG;exact h0.tell this.1 λx e=>fq e▸this.2
theorem cY.run{p:aV}:∀{es:List cE} {c:aU},cY c->a5 p c->(∀e∈es,hB p e)->cY (bI.run p c es)
| [],_,h,_,_=>h
|e::es,c,h,hw,he=>cY.run (es:=es) (h.h8 hw (he e fY)) (hw.h8 (he e fY)) λy bw=>he y (di _ bw)
theorem cY.fresh(c:aU):cY (bI.fresh c):=λw hw=>by cases hw
def apK{c:aU}(h:cY c):okN 2 (.tuple (c.told.map mu)):=by
 refine kW λt aZ=>?_
 obtain⟨w,hw,rfl⟩:=cN.mp aZ;refine kW λt aZ=>?_;simp only[asu,eu,or_false] at aZ;rcases aZ with rfl|rfl|rfl
 ·exact tA _ _
 ·exact kY _ (h w hw).1
 ·exact NM _ (h w hw).2
def aro(p:aV)(c:aU)(e:cE)(h:a5 p c)(aF:Wp p)(he:hB p e):yK [b3 p,ee c,bS e]=some (ee (h8 p (fresh c) e)):=by
 have dF:=L' p c [e] h aF (by simpa using he) (by simp);have eK:=aph p (run p (fresh c) [e]) .c4 (h.fresh.run (by simpa using he));simp only[c9,g6] at dF;simp! [fD,yK,Wa,rA,pJ,one_le,dF,tD,eK];rfl
def lI(w:Int×Str×Option Str):T:=.tuple [.str w.2.1,eQ w.2.2]
theorem V'(caps:Ev):∀(ws:List (Int×Str×Option Str)) (s0 s1 s2:Option aI),gk (eA [(bH 0),(bH 1),(bH 2)]) (dy true) (b6 [(aJ 1),(aJ 2)]) (ws.map mu) (s0::s1::s2::caps)=some (ws.map lI)
| [],_,_,_=>rfl
|w::ws,s0,s1,s2=>by
  have bY:=V' caps ws (some (.ae (.int w.1))) (some (.ae (.str w.2.1))) (some (.ae (eQ w.2.2)));simp only[c9,gk,mu,eA,gr,bH,cv,jL,kf,dy,if_true] at bY ⊢;simp only[b6,args,aJ,l4,iC,cv,et,d_,l5,mV,if_true] at bY ⊢;simp[mV,lI];simpa [mu,lI] using bY
def ao_(p:aV)(c:aU)(e:cE)(h:a5 p c)(aF:Wp p)(he:hB p e):yt [b3 p,ee c,bS e]=some (.tuple ((h8 p (fresh c) e).told.map lI)):=by
 have dF:=L' p c [e] h aF (by simpa using he) (by simp);have ab:=MX (es:=[e]) h.fresh (by simpa using he);have cm:(60000<big):=by decide
 have h0:(fresh c).told.length=0:=rfl;have b2:(run p (fresh c) [e]).told.length<=big:=by simp at ab;omega
 have fl:=V' [] (run p (fresh c) [e]).told none none none;simp only[c9,g6] at dF;simp! [fD,yt,Vn,rA,vr,one_le,dF,tD,uc,b2];rw[fl];simp[e6];rfl
end bI
end
section
namespace bI
open D PySem
def tm{i:Nat}{f:bl}{b:bc}{ε:Ev}{t:T}{r:Option Out}(h:f ε=some t)(ai:b (ε.set i (some (.ae t)))=r):seq (asg i f) b ε=r:=by
 rw[gv (ε':=ε.set i (some (.ae t))),ai];unfold asg;rw[h];rfl
def M3{c:e7}{a b:bc}{ε:Ev}{r:Option Out}(h:c ε=some false)(ai:b ε=r):seq (iff c a skip) b ε=r:=by
 rw[gv (ε':=ε),ai];unfold iff;rw[h];rfl
def jP{a b:bc}{ε ε':Ev}{r:Option Out}(h:a ε=some (.bP ε'))(ai:b ε'=r):seq a b ε=r:=by rw[gv h,ai]
theorem denied{p:aV}{c:aU}{k:hI}{d:Str}(hd:d="set"\/d="unset")(aw:d∉k.kI):takeRight p k d none c=tell "denied" (some k.i8) c:=by
 have:ml p k d none c=some (("denied":Str),k.i8):=by
  rcases hd with rfl|rfl <;> simp[ml,CC,Cb,aw]
 unfold takeRight;rw[this]
def iff_eq{c:e7}{x y:bc}{ε:Ev}{b:Bool}(h:c ε=some b):iff c x y ε=if b then x ε else y ε:=by
 unfold iff;rw[h];rfl
end bI
end
section
namespace bI
open D PySem
theorem Vk{α:Type}{enc x y g:α->T}{q:α->Bool}{cc:e7}{fR:bl}{caps:Ev}(he:∀a,enc a=.tuple [x a,y a]):∀(ts:List α) (s0 s1:Option aI),(∀a∈ts,cc (some (.ae (x a))::some (.ae (y a))::caps)=some (q a)/\(q a=true->fR (some (.ae (x a))::some (.ae (y a))::caps)=some (g a)))->gk (eA [(bH 0),(bH 1)]) cc fR (ts.map enc) (s0::s1::caps)=some ((ts.filter q).map g)
| [],_,_,_=>rfl
|a::ts,s0,s1,h=>by
  have bY:=Vk he ts (some (.ae (x a))) (some (.ae (y a))) λb ab=>h b (di _ ab);obtain⟨h0,af⟩:=h a (by simp);rw[c9,gk,he a];simp only[eA,gr,bH,cv,jL,kf,h0];cases bg:q a with
  |true=>simp only[if_true,af bg,cv,bY,et,List.filter_cons,bg,c9]
  |false=>simp only[l1,if_false,bY,List.filter_cons,bg]
def rf(p:aV)(c:aU):List Str:=((p.cz.zip c.lines).filter λx=>!decide (x.2.2=("shut":Str))).map λx=>x.1.1
def apm(p:aV)(c:aU)(h:a5 p c):vu [b3 p,ee c]=some (.tuple [.str c.mode,.bool (decide (c.fJ > 0)),.tuple ((rf p c).map .str)]):=by
 have wN:(p.cz.zip c.lines).length<=big:=by
  have:=h.ft;rw[List.length_zip];unfold big;omega
 have zw:List.zipWith (λx y=>PyData.tuple [x,y]) (p.cz.map eh) (c.lines.map λl=>.str l.2)=(p.cz.zip c.lines).map λx=>.tuple [eh x.1,.str x.2.2]:=by
  rw[List.zipWith_map,List.zip,List.map_zipWith]
 have ax:=Vk (enc:=λx:(Str×Str)×(Str×Str)=>.tuple [eh x.1,.str x.2.2]) (x:=λx=>eh x.1) (y:=λx=>.str x.2.2) (g:=λx=>.str x.1.1) (q:=λx=>!decide (x.2.2=("shut":Str))) (cc:=bB (ag fV (nm 1) (aa (.str "shut")))) (fR:=ag aW (nm 0) (aa (.int 0))) (caps:=[]) (λ_=>rfl) (p.cz.zip c.lines) none none (λx hx=>by
  have aei:=(List.of_mem_zip hx).2;have q:=nL (h.lo _ aei) (bA "shut");refine⟨by simp! [fD,q],λ_=>?_⟩;simp! [i1,eh])
 have b:Nw [some (.ae (b3 p)),some (.ae (ee c)),none]=some (.d9 (.tuple [.str c.mode,.bool (decide (c.fJ > 0)),.tuple ((rf p c).map .str)])):=by
  unfold Nw;refine tm (t:=.list ((rf p c).map .str)) ?_ ?_
  ·have it:DM (ik (ag aW (nm 0) (aa (.int 0)))) (ik (ag aW (nm 1) (aa (.int 3)))) [some (.ae (b3 p)),some (.ae (ee c)),none]=some ((p.cz.zip c.lines).map λx=>.tuple [eh x.1,.str x.2.2]):=by
    rw[<- zw];rfl
   unfold comp;rw[it];simp only[cv,eT];rw[if_pos wN];show (gk _ _ _ _ [none,none]).map _=_;rw[ax];simp[rf,lZ]
  simp only[kf,jL];simp! [i1,ee,ia,e6,nJ]
 unfold vu cT;simp only[c9,g6,d_,l5,uY,q3];exact congrArg (λo=>Option.bind o _) b
def aoD(d:Nat){p:aV}{c:aU}(h:a5 p c)(b:Bool):okN (d+2) (.tuple [.str c.mode,.bool b,.tuple ((rf p c).map .str)]):=kW λx hx=>by
 simp only[asu,eu,or_false] at hx;rcases hx with rfl|rfl|rfl
 ·exact kY _ h.mo
 ·exact apM _ _
 ·refine kW λx hx=>?_
  obtain⟨y,bw,rfl⟩:=cN.mp hx;obtain⟨w,hw,rfl⟩:=cN.mp bw;exact kY _ (h.zn _ (List.of_mem_zip (List.mem_filter.mp hw).1).1).1
end bI
end
section
namespace iJ
open D bI
open PySem hiding run fresh code
local instance:cV:=⟨[],λ_=>[],λ_=>none⟩
def gg(p:aV)(c:aU)(e:cE):aU:=h8 p (fresh c) e
def cn(p:aV)(es:List cE)(pre:List aU)(c:aU):List aI:=[.ae (b3 p),.own (es.map bS),.own ((pre++[c]).map ee)]
def w_(p:aV)(e:cE):Prop:=hB p e/\match e with
|.code _ _ z=>∀x,z=some x->x∈p.cz.map (·.1)
|_=>True
section
variable {p:aV}{es:List cE}{pre:List aU}{c:aU}{md:gn}
def ark(xs:List T)(x:T):aW (.list (xs++[x])) (.int (-1))=some x:=by
 have af:¬((0:Int)<=-1):=by omega
 have ai:-(((xs++[x]).length:Nat):Int)<=-1:=by simp only[jo,d_,l5];omega
 have bE:(-1+(((xs++[x]).length:Nat):Int)).toNat=xs.length:=by simp only[jo,d_,l5];omega
 simp only[aW,e9,fS];rw[if_neg af,if_pos ai,bE];simp
def T5:ki [.obj md 1 (cn p es pre c)]=some (ee c):=by
 have asr:Cs [some (.obj md 1 (cn p es pre c))]=some (.d9 (ee c)):=by
  have dF:fld 1 0 2 [some (.obj md 1 (cn p es pre c))]=some (.list (pre.map ee++[ee c])):=by
   simp[fld,dx,cn]
  have eK:dm mH (aa (.int 1)) [some (.obj md 1 (cn p es pre c))]=some (.int (-1)):=rfl;unfold Cs bO ag;rw[dF,eK];simp only[cv,ark];rfl
 unfold ki gu;show Option.bind (Cs [some (.obj md 1 (cn p es pre c))]) _=_;rw[asr];rfl
def Di{ε:Ev}{i:Nat}(h:ε[i]?=some (some (.obj md 1 (cn p es pre c)))):d3 1 ki i [] ε=some (ee c):=by
 have:dx 1 i ε=some (md,cn p es pre c):=by simp[dx,h]
 simp only[d3,this,cv,args,g6,T5]
def yJ{ε:Ev}{i:Nat}(h:ε[i]?=some (some (.obj md 1 (cn p es pre c)))):fA 1 i 0 ε=some (b3 p):=by
 have:dx 1 i ε=some (md,cn p es pre c):=by simp[dx,h]
 simp only[fA,this,cv];rfl
def aof(wp:Wp p)(hw:a5 p c){e:cE}(he:hB p e)(aB:es.length<10000)(aF:pre.length<10000):
  oB [.obj .cg 1 (cn p es pre c),.ae (bS e)]=some (.tuple ((gg p c e).told.map lI),cn p (es++[e]) (pre++[c]) (gg p c e)):=by
 have xw:=ao_ p c e hw wp he;have xg:=aro p c e hw wp he;have b2:(es.map bS).length<big:=by rw[eT];unfold big;omega
 have cm:((pre++[c]).map ee).length<big:=by simp only[eT,jo,d_,l5];unfold big;omega
 have asr:Ce [some (.obj .cg 1 (cn p es pre c)),some (.ae (bS e)),none,none]=some (.ig (.tuple ((gg p c e).told.map lI)) [some (.obj .cg 1 (cn p (es++[e]) (pre++[c]) (gg p c e))),some (.ae (bS e)),some (.ae (.tuple ((gg p c e).told.map lI))),some (.ae (ee (gg p c e)))]):=by
  unfold Ce;refine tm (t:=.tuple ((gg p c e).told.map lI)) (by
   simp only[aX,args,yJ (i:=0) (ε:=[some (.obj .cg 1 (cn p es pre c)),some (.ae (bS e)),none,none]) rfl,Di (i:=0) (ε:=[some (.obj .cg 1 (cn p es pre c)),some (.ae (bS e)),none,none]) rfl,aJ,l4,iC,cv,et,xw];rfl) ?_
  simp only[kf,jL];refine tm (t:=ee (gg p c e)) (by
   simp only[aX,args,yJ (i:=0) (ε:=[some (.obj .cg 1 (cn p es pre c)),some (.ae (bS e)),some (.ae (.tuple ((gg p c e).told.map lI))),none]) rfl,Di (i:=0) (ε:=[some (.obj .cg 1 (cn p es pre c)),some (.ae (bS e)),some (.ae (.tuple ((gg p c e).told.map lI))),none]) rfl,aJ,l4,iC,cv,et,xg];rfl) ?_
  simp only[kf,jL];refine jP (ε':=[some (.obj .cg 1 [.ae (b3 p),.own ((es++[e]).map bS),.own ((pre++[c]).map ee)]),some (.ae (bS e)),some (.ae (.tuple ((gg p c e).told.map lI))),some (.ae (ee (gg p c e)))]) ?_ ?_
  ·simp only[lM,k8,gw,dx,cn,aJ,l4,iC,cv,et,if_true,if_pos b2];have em:(es++[e]).map bS=es.map bS++[bS e]:=by simp
   rw[em];rfl
  refine jP (ε':=[some (.obj .cg 1 (cn p (es++[e]) (pre++[c]) (gg p c e))),some (.ae (bS e)),some (.ae (.tuple ((gg p c e).told.map lI))),some (.ae (ee (gg p c e)))]) ?_ rfl
  simp only[lM,k8,gw,dx,cn,aJ,l4,iC,cv,et,if_true,if_pos cm];have em:((pre++[c])++[gg p c e]).map ee=(pre++[c]).map ee++[ee (gg p c e)]:=by simp
  rw[em];rfl
 unfold oB runM;show Option.bind (Ce [some (.obj .cg 1 (cn p es pre c)),some (.ae (bS e)),none,none]) _=_;rw[asr];simp[jQ]
def M5(wp:Wp p)(hw:a5 p c){e:cE}(he:hB p e)(aB:es.length<10000)(aF:pre.length<10000){ε:Ev}{i:Nat}{md:gn}(hm:md≠.c4)(h:ε[i]?=some (some (.obj md 1 (cn p es pre c)))){f:bl}(hf:f ε=some (bS e)):
  cW 1 oB i [f] ε=some (.tuple ((gg p c e).told.map lI),ε.set i (some (.obj md 1 (cn p (es++[e]) (pre++[c]) (gg p c e))))):=by
 have af:dx 1 i ε=some (md,cn p es pre c):=by simp[dx,h]
 simp only[cW,af,cv,if_neg hm,args,hf,et,c9,g6,aof wp hw he aB aF]
def af5(ar:∀x∈p.cz,cF x.1/\cF x.2){z:Str}(h:z∈p.cz.map (·.1)):q6 [.obj .c4 1 (cn p es pre c),.ae (.str z)]=some .none:=by
 have e':=Mn ar h;have asr:BX [some (.obj .c4 1 (cn p es pre c)),some (.ae (.str z))]=some (.bP [some (.obj .c4 1 (cn p es pre c)),some (.ae (.str z))]):=by
  unfold BX;simp only[qu,aX,args,yJ (i:=0) (ε:=[some (.obj .c4 1 (cn p es pre c)),some (.ae (.str z))]) rfl,aJ,l4,iC,cv,et,e']
 unfold q6 gu;show Option.bind (BX [some (.obj .c4 1 (cn p es pre c)),some (.ae (.str z))]) _=_;rw[asr];rfl
def VX(ar:∀x∈p.cz,cF x.1/\cF x.2){z:Str}(h:z∈p.cz.map (·.1)){ε:Ev}{i:Nat}(hi:ε[i]?=some (some (.obj md 1 (cn p es pre c)))){f:bl}(hf:f ε=some (.str z)):qu (d3 1 q6 i [f]) ε=some (.bP ε):=by
 have af:dx 1 i ε=some (md,cn p es pre c):=by simp[dx,hi]
 simp only[qu,d3,af,cv,args,hf,et,c9,g6,af5 ar h]
def oU(p:aV)(es:List cE)(pre:List aU)(c:aU)(e:cE):T×List aI:=(.tuple ((gg p c e).told.map lI),cn p (es++[e]) (pre++[c]) (gg p c e))
def aqh(wp:Wp p)(hw:a5 p c){z w:Str}(he:hB p (.line z w))(aB:es.length<10000)(aF:pre.length<10000):
  x4 [.obj .cg 1 (cn p es pre c),.ae (.str z),.ae (.str w)]=some (oU p es pre c (.line z w)):=by
 have gI:(3:Nat)<=big:=by unfold big;omega
 have asr:CJ [some (.obj .cg 1 (cn p es pre c)),some (.ae (.str z)),some (.ae (.str w))]=some (.ig (oU p es pre c (.line z w)).1 [some (.obj .cg 1 (oU p es pre c (.line z w)).2),some (.ae (.str z)),some (.ae (.str w))]):=by
  unfold CJ;refine jP (VX hw.zn he.1 (i:=0) rfl rfl) ?_;unfold lX;rw[M5 wp hw he aB aF (by decide) (i:=0) rfl (by simp[b6,args,aa,aJ,gI,bS])];rfl
 unfold x4 runM;show Option.bind (CJ [some (.obj .cg 1 (cn p es pre c)),some (.ae (.str z)),some (.ae (.str w))]) _=_;rw[asr];simp[jQ]
def ao2(wp:Wp p)(hw:a5 p c){n:Int}(he:hB p (.dJ n))(aB:es.length<10000)(aF:pre.length<10000):
  xY [.obj .cg 1 (cn p es pre c),.ae (.int n)]=some (oU p es pre c (.dJ n)):=by
 have gI:(2:Nat)<=big:=by unfold big;omega
 have asr:Cr [some (.obj .cg 1 (cn p es pre c)),some (.ae (.int n))]=some (.ig (oU p es pre c (.dJ n)).1 [some (.obj .cg 1 (oU p es pre c (.dJ n)).2),some (.ae (.int n))]):=by
  unfold Cr lX;rw[M5 wp hw he aB aF (by decide) (i:=0) rfl (by simp[b6,args,aa,aJ,gI,bS])];rfl
 unfold xY runM;show Option.bind (Cr [some (.obj .cg 1 (cn p es pre c)),some (.ae (.int n))]) _=_;rw[asr];simp[jQ]
def aqj(wp:Wp p)(hw:a5 p c){f d:Str}{z:Option Str}(he:w_ p (.code f d z))(aB:es.length<10000)(aF:pre.length<10000):
  x5 [.obj .cg 1 (cn p es pre c),.ae (.str f),.ae (.str d),.ae (eQ z)]=some (oU p es pre c (.code f d z)):=by
 have gI:(4:Nat)<=big:=by unfold big;omega
 have hd:cF d:=by
  rcases he.1.2.1 with h|h|h|h <;> (rw[h];exact bA _)
 have Rd:=yl false (n:=d) (ns:=["shunt","free"]) hd (λx hx=>by
  simp only[asu,eu,or_false] at hx;rcases hx with h|h <;> (rw[h];exact bA _))
 have asr:CK [some (.obj .cg 1 (cn p es pre c)),some (.ae (.str f)),some (.ae (.str d)),some (.ae (eQ z))]=some (.ig (oU p es pre c (.code f d z)).1 [some (.obj .cg 1 (oU p es pre c (.code f d z)).2),some (.ae (.str f)),some (.ae (.str d)),some (.ae (eQ z))]):=by
  unfold CK;refine jP (ε':=[some (.obj .cg 1 (cn p es pre c)),some (.ae (.str f)),some (.ae (.str d)),some (.ae (eQ z))]) ?_ ?_
  ·cases z with
   |some x=>
    have hx:x∈p.cz.map (·.1):=he.2 x rfl;unfold iff;have t:eM (bB (dm iI (nm 3))) (bB (ag (eP false) (nm 2) (aa (.tuple (hW ["shunt","free"]))))) [some (.obj .cg 1 (cn p es pre c)),some (.ae (.str f)),some (.ae (.str d)),some (.ae (eQ (some x)))]=some true:=rfl;rw[t];exact VX hw.zn hx (i:=0) rfl rfl
   |none=>
    have a_:¬(d∈(["shunt","free"]:List Str)):=λhm=>by
     simp only[asu,eu,or_false] at hm;obtain⟨x,hx,_⟩:=he.1.2.2 hm;cases hx
    simp only[l1,if_false,decide_eq_false a_] at Rd;have ait:eP false (.str d) (.tuple (hW ["shunt","free"]))=some (.bool false):=Rd;unfold iff;have t:eM (bB (dm iI (nm 3))) (bB (ag (eP false) (nm 2) (aa (.tuple (hW ["shunt","free"]))))) [some (.obj .cg 1 (cn p es pre c)),some (.ae (.str f)),some (.ae (.str d)),some (.ae (eQ none))]=some false:=by
     simp only[eM,bB,dm,ag,nm,aa,l4,iC,cv,ait];rfl
    rw[t];rfl
  unfold lX;rw[M5 (e:=.code f d z) wp hw he.1 aB aF (by decide) (i:=0) rfl (by simp[b6,args,aa,aJ,gI,bS])];rfl
 unfold x5 runM;show Option.bind (CK [some (.obj .cg 1 (cn p es pre c)),some (.ae (.str f)),some (.ae (.str d)),some (.ae (eQ z))]) _=_;rw[asr];simp[jQ]
def aqg(e:cE)(el:aU):oE [.obj .cg 1 (cn p (es++[e]) (pre++[c]) el)]=some (.none,cn p es pre c):=by
 have asr:CI [some (.obj .cg 1 (cn p (es++[e]) (pre++[c]) el))]=some (.bP [some (.obj .cg 1 (cn p es pre c))]):=by
  have dF:cn p (es++[e]) (pre++[c]) el=[.ae (b3 p),.own (es.map bS++[bS e]),.own ((pre++[c]).map ee++[ee el])]:=by simp[cn]
  rw[dF];unfold CI;refine M3 ?_ ?_
  ·have t:ih (fld 1 0 1) [some (.obj .cg 1 [.ae (b3 p),.own (es.map bS++[bS e]),.own ((pre++[c]).map ee++[ee el])])]=some true:=by
    simp[ih,fld,dx]
   unfold fU;rw[t];rfl
  refine jP (ε':=[some (.obj .cg 1 [.ae (b3 p),.own (es.map bS),.own ((pre++[c]).map ee++[ee el])])]) ?_ ?_
  ·simp only[uB,k8,gw,dx,l4,iC,cv,if_true,List.getLast?_concat,List.dropLast_concat];rfl
  ·simp only[uB,k8,gw,dx,l4,iC,cv,if_true,List.getLast?_concat,List.dropLast_concat];rfl
 unfold oE runM;show Option.bind (CI [some (.obj .cg 1 (cn p (es++[e]) (pre++[c]) el))]) _=_;rw[asr];simp[jQ]
def arD(e:cE)(el:aU){ε:Ev}{i:Nat}{md:gn}(hm:md≠.c4)(h:ε[i]?=some (some (.obj md 1 (cn p (es++[e]) (pre++[c]) el)))):
  cS (cW 1 oE i []) ε=some (.bP (ε.set i (some (.obj md 1 (cn p es pre c))))):=by
 have af:dx 1 i ε=some (md,cn p (es++[e]) (pre++[c]) el):=by simp[dx,h]
 simp only[cS,cW,af,cv,if_neg hm,args,et,g6,aqg]
def oa(pre:List aU)(c:aU):aU:=(pre++[c]).headD c
def ao3(hw:a5 p c):s9 [.obj .c4 1 (cn p es pre c)]=some (.tuple [.str c.mode,.bool (decide (c.fJ > 0)),.tuple ((rf p c).map .str)]):=by
 have xs:=apm p c hw;have asr:Ct [some (.obj .c4 1 (cn p es pre c))]=some (.d9 (.tuple [.str c.mode,.bool (decide (c.fJ > 0)),.tuple ((rf p c).map .str)])):=by
  unfold Ct;simp only[bO,aX,args,yJ (i:=0) (ε:=[some (.obj .c4 1 (cn p es pre c))]) rfl,Di (i:=0) (ε:=[some (.obj .c4 1 (cn p es pre c))]) rfl,cv,et,xs]
 unfold s9 gu;show Option.bind (Ct [some (.obj .c4 1 (cn p es pre c))]) _=_;rw[asr];rfl
def Nv(aB:es.length<10000):ma [.obj .c4 1 (cn p es pre c)]=some (.tuple (es.map bS)):=by
 have b2:es.length<=big:=by unfold big;omega
 have asr:C4 [some (.obj .c4 1 (cn p es pre c))]=some (.d9 (.tuple (es.map bS))):=by
  unfold C4;simp[bO,aX,args,fld,dx,cn,e6,b2]
 unfold ma gu;show Option.bind (C4 [some (.obj .c4 1 (cn p es pre c))]) _=_;rw[asr];rfl
def Vb(x:T)(xs:List T):aW (.list (x::xs)) (.int 0)=some x:=by
 have h:(0:Int)<(((x::xs).length:Nat):Int):=by simp only[d_];omega
 simp only[aW,e9,fS,Int.le_refl,if_true,if_pos h];rfl
def ary(wp:Wp p)(cK:a5 p (oa pre c))(he:∀e∈es,hB p e)(aB:es.length<=1000):tf [.obj .c4 1 (cn p es pre c)]=some (.tuple ((run p (fresh (oa pre c)) es).told.map mu)):=by
 have xs:=apg p (oa pre c) es cK wp he aB;have uR:=Nv (p:=p) (pre:=pre) (c:=c) (es:=es) (by omega);have dF:ag aW (fld 1 0 2) (aa (.int 0)) [some (.obj .c4 1 (cn p es pre c))]=some (ee (oa pre c)):=by
  have eK:fld 1 0 2 [some (.obj .c4 1 (cn p es pre c))]=some (.list ((pre++[c]).map ee)):=by
   simp[fld,dx,cn]
  unfold ag;rw[eK];have fQ:aa (.int 0) [some (.obj .c4 1 (cn p es pre c))]=some (.int 0):=rfl;rw[fQ];simp only[cv];cases pre with
  |nil=>exact Vb _ _
  |cons x pre=>exact Vb _ _
 have asr:C5 [some (.obj .c4 1 (cn p es pre c))]=some (.d9 (.tuple ((run p (fresh (oa pre c)) es).told.map mu))):=by
  have dQ:dx 1 0 [some (.obj .c4 1 (cn p es pre c))]=some (.c4,cn p es pre c):=rfl;unfold C5;simp only[bO,aX,args,yJ (i:=0) (ε:=[some (.obj .c4 1 (cn p es pre c))]) rfl,dF,d3,dQ,cv,et,g6,uR,xs]
 unfold tf gu;show Option.bind (C5 [some (.obj .c4 1 (cn p es pre c))]) _=_;rw[asr];rfl
end
end iJ
end
section
namespace iJ
open D bI
open PySem hiding run fresh code
local instance:cV:=⟨[],λ_=>[],λ_=>none⟩
def chain(p:aV):aU->List cE->List aU
|_,[]=>[]
|c,e::es=>c::chain p (gg p c e) es
def kA(p:aV)(c:aU)(es:List cE):aU:=es.foldl (gg p) c
def Y0{p:aV}{c:aU}(hw:a5 p c){e:cE}(he:hB p e):a5 p (gg p c e):=hw.fresh.h8 he
theorem V8{p:aV}:∀{es:List cE} {c:aU},a5 p c->(∀e∈es,hB p e)->a5 p (kA p c es)
| [],_,h,_=>h
|e::es,c,h,he=>V8 (es:=es) (Y0 h (he e (by simp))) λy bw=>he y (di _ bw)
theorem P6(p:aV):∀(xs ys:List cE) (c:aU),chain p c (xs++ys)=chain p c xs++chain p (kA p c xs) ys
| [],ys,c=>rfl
|x::xs,ys,c=>by
  show c::chain p (gg p c x) (xs++ys)=c::(chain p (gg p c x) xs++chain p (kA p (gg p c x) xs) ys)
  rw[P6 p xs ys]
def ac5(p:aV)(xs ys:List cE)(c:aU):kA p c (xs++ys)=kA p (kA p c xs) ys:=by simp[kA]
theorem T2(p:aV):∀(xs:List cE) (c:aU),(chain p c xs).length=xs.length
| [],c=>rfl
|x::xs,c=>by simp[chain,T2 p xs]
def ap8(p:aV):∀(xs:List cE) (c:aU),oa (chain p c xs) (kA p c xs)=c
| [],c=>rfl
|x::xs,c=>rfl
end iJ
end
section
namespace Oc
open D bI iJ
end Oc
end
section
namespace iJ
open D bI Oc
open PySem hiding run fresh code
local instance:cV:=⟨[],λ_=>[],λ_=>none⟩
def V_{p:aV}{e:cE}(h:jW p e):w_ p e:=by
 refine⟨h.ok,?_⟩
 cases e with
|line _ _=>trivial
|dJ _=>trivial
|code f d z=>
  intro x hx;rcases h.2 with ⟨_,q⟩|⟨_,y,q,bw⟩
  ·rw[q] at hx;cases hx
  ·rw[q] at hx;cases hx;exact bw
def aqi{p:aV}(wp:Wp p)(ft:p.cz.length<=40):nF [.obj .cg 1 [],.ae (b3 p)]=some (.none,cn p [] [] (hn p)):=by
 have dz:=US p ft wp;have Lg:(1:Nat)<=big:=by unfold big;omega
 have asr:B2 [some (.obj .cg 1 []),some (.ae (b3 p))]=some (.bP [some (.obj .cg 1 (cn p [] [] (hn p))),some (.ae (b3 p))]):=by
  unfold B2;refine jP (ε':=[some (.obj .cg 1 [.ae (b3 p)]),some (.ae (b3 p))]) rfl ?_;refine jP (ε':=[some (.obj .cg 1 [.ae (b3 p),.own []]),some (.ae (b3 p))]) ?_ ?_
  ·simp[jT,gD,args,gw,dx]
  ·simp[jT,gD,args,gw,dx,aX,aJ,dz,Lg,cn]
 unfold nF runM;show Option.bind (B2 [some (.obj .cg 1 []),some (.ae (b3 p))]) _=_;rw[asr];simp[jQ]
def Vz{a:bl}{ε:Ev}{v:Bool}(h:a ε=some (.bool v)):bB a ε=some v:=by
 unfold bB;rw[h];rfl
def tP{o:T->T->Option T}{a b:bl}{ε:Ev}{x y z:T}(au:a ε=some x)(ab:b ε=some y)(h:o x y=some z):ag o a b ε=some z:=by
 unfold ag;rw[au,ab];exact h
section
variable {p:aV}{es:List cE}{pre:List aU}{c:aU}{ε:Ev}{i:Nat}{md:gn}
def ajO(d:List aI->Option T)(h:ε[i]?=some (some (.obj md 1 (cn p es pre c)))):d3 1 d i [] ε=d [.obj .c4 1 (cn p es pre c)]:=by
 have af:dx 1 i ε=some (md,cn p es pre c):=by simp[dx,h]
 simp only[d3,af,cv,args,g6]
end
def YZ{p:aV}{e:cE}(ar:∀z∈p.cz,cF z.1/\cF z.2)(h:w_ p e):okN 1 (bS e):=by
 have yI:∀z,z∈p.cz.map (·.1)->cF z:=λz hm=>by
  obtain⟨x,hx,rfl⟩:=cN.mp hm;exact (ar x hx).1
 cases e with
|line z w=>
  have fI:cF w:=by rcases h.1.2 with q|q|q <;> (rw[q];exact bA _)
  exact kW λx hx=>by
   simp only[asu,eu,or_false] at hx;rcases hx with rfl|rfl|rfl
   ·exact kY 0 (bA "line")
   ·exact kY 0 (yI z h.1.1)
   ·exact kY 0 fI
|code f d z=>
  have fe:cF d:=by rcases h.1.2.1 with q|q|q|q <;> (rw[q];exact bA _)
  exact kW λx hx=>by
   simp only[asu,eu,or_false] at hx;rcases hx with rfl|rfl|rfl|rfl
   ·exact kY 0 (bA "code")
   ·exact kY 0 h.1.1
   ·exact kY 0 fe
   ·exact NM 0 λy bw=>yI y (h.2 y bw)
|dJ n=>
  exact kW λx hx=>by
   simp only[asu,eu,or_false] at hx;rcases hx with rfl|rfl
   ·exact kY 0 (bA "ticks")
   ·exact tA 0 n
end iJ
end
section
namespace c1
open D PySem
def ls(x:Str):List Nat:=x.cps.toList
def st(l:List Nat):Str:=⟨l.toArray⟩
def tQ(l:List Nat):ls (st l)=l:=rfl
def vL(x:Str):st (ls x)=x:=by cases x;simp[st,ls]
def NP{x y:Str}(h:ls x=ls y):x=y:=by rw[<- vL x,<- vL y,h]
def iE(x:Str):x.length=(ls x).length:=by simp[Str.length,ls]
def mX(x y:Str):ls (x++y)=ls x++ls y:=by
 show (x.cps++y.cps).toList=_
 simp[ls]
def e4(c:Nat):List Nat->List (List Nat)
| []=>[[]]
|a::l=>if a=c then []::e4 c l else match e4 c l with
  | []=>[[a]]
  |p::av=>(a::p)::av
def arM(c:Nat):∀l:List Nat,e4 c l≠[]
| []=>by simp[e4]
|a::l=>by
  unfold e4;split
  ·simp
  ·split <;> simp
theorem Ur{c:Nat}:∀{l:List Nat},c∉l->e4 c l=[l]
| [],_=>rfl
|a::l,h=>by
  have af:a≠c:=λe=>h (by simp[e]);have ai:=Ur (l:=l) λe=>h (di _ e);simp[e4,af,ai]
theorem MS{c:Nat}:∀{l:List Nat} (m:List Nat),c∉l->e4 c (l++c::m)=l::e4 c m
| [],m,_=>by simp[e4]
|a::l,m,h=>by
  have af:a≠c:=λe=>h (by simp[e]);have ai:=MS (l:=l) m λe=>h (di _ e);simp[e4,af,ai]
theorem vj{c:Nat}:∀{l p:List Nat},p∈e4 c l->∀a∈p,a∈l
| [],p,h,a,au=>by
  simp[e4] at h;subst h;simp at au
|b::l,p,h,a,au=>by
  unfold e4 at h;split at h
  ·rcases asu.mp h with rfl|h
   ·simp at au
   ·exact di _ (vj h a au)
  ·split at h
   ·simp at h;subst h;simp at au;simp[au]
   next q av e=>
    rcases asu.mp h with rfl|h
    ·rcases asu.mp au with rfl|au
     ·simp
     ·exact di _ (vj (p:=q) (by rw[e];simp) a au)
    ·exact di _ (vj (p:=p) (by rw[e];simp[h]) a au)
theorem yA{c:Nat}:∀{l p:List Nat},p∈e4 c l->c∉p
| [],p,h=>by
  simp[e4] at h;subst h;simp
|b::l,p,h=>by
  unfold e4 at h;split at h
  ·rcases asu.mp h with rfl|h
   ·simp
   ·exact yA h
  next ab=>
   split at h
   ·simp at h;subst h;simpa using λe=>ab e.symm
   next q av e=>
    rcases asu.mp h with rfl|h
    ·have:=yA (l:=l) (p:=q) (by rw[e];simp);simp only[asu,not_or];exact⟨λe=>ab e.symm,this⟩
    ·exact yA (l:=l) (p:=p) (by rw[e];simp[h])
theorem vk{c:Nat}:∀{l p:List Nat},p∈e4 c l->p.length<=l.length
| [],p,h=>by
  simp[e4] at h;subst h;simp
|b::l,p,h=>by
  unfold e4 at h;split at h
  ·rcases asu.mp h with rfl|h
   ·simp
   ·have:=vk h;simp;omega
  ·split at h
   ·simp at h;subst h;simp
   next q av e=>
    rcases asu.mp h with rfl|h
    ·have:=vk (l:=l) (p:=q) (by rw[e];simp);simp;omega
    ·have:=vk (l:=l) (p:=p) (by rw[e];simp[h]);simp;omega
theorem CN{c:Nat}:∀(l:List Nat),(e4 c l).length<=l.length+1
| []=>by simp[e4]
|b::l=>by
  have:=CN (c:=c) l;unfold e4;split
  ·simp;omega
  ·split
   ·simp
   next q av e=>
    rw[e] at this;simp at this ⊢;omega
def gN(c:Nat):List (List Nat)->List Nat
| []=>[]
| [p]=>p
|p::q::r=>p++c::gN c (q::r)
theorem NC{c:Nat}:∀{av:List (List Nat)},av≠[]->(∀p∈av,c∉p)->e4 c (gN c av)=av
| [],h,_=>absurd rfl h
| [p],_,h=>Ur (h p (by simp))
|p::q::r,_,h=>by
  show e4 c (p++c::gN c (q::r))=_
  rw[MS _ (h p (by simp)),NC (by simp) λx hx=>h x (di _ hx)]
theorem Nj(c:Nat):∀av:List Str,ls (Str.join ⟨#[c]⟩ av)=gN c (av.map ls)
| []=>rfl
| [p]=>by rw[PyProof.Rows.join_one];rfl
|p::q::r=>by
  rw[PyProof.Rows.join_cons_cons,mX,mX,Nj c (q::r)];show (ls p++[c])++_=ls p++c::_;simp
def apk(x:Str)(c:Nat):(Txt.split x ⟨#[c]⟩).map ls=e4 c (ls x):=by
 have af:ls (Str.join ⟨#[c]⟩ (Txt.split x ⟨#[c]⟩))=ls x:=by rw[StrLaws.join_split]
 rw[Nj] at af;have aF:1<=(Txt.split x ⟨#[c]⟩).length:=PyProof.Rows.split_pos x ⟨#[c]⟩;rw[<- af];symm;refine NC (λe=>?_) λp aF=>?_
 ·have:=List.map_eq_nil_iff.mp e;rw[this] at aF;simp at aF
 ·obtain⟨y,bw,rfl⟩:=cN.mp aF;exact StrLaws.split_free x c y bw
def apl(x:Str)(c:Nat):Txt.split x ⟨#[c]⟩=(e4 c (ls x)).map st:=by
 rw[<- apk,gB]
 conv=>lhs;rw[<- List.map_id (Txt.split x ⟨#[c]⟩)]
 exact List.map_congr_left λy _=>(vL y).symm
theorem UH:∀av:List Str,ls (Str.join ⟨#[]⟩ av)=(av.map ls).flatten
| []=>rfl
| [p]=>by rw[PyProof.Rows.join_one];simp
|p::q::r=>by
  rw[PyProof.Rows.join_cons_cons,mX,mX,UH (q::r)];show (ls p++[])++_=_;simp
def Ul(x:Str)(av:List Str):Txt.join x av=Str.join x av:=StrLaws.glued_eq_join x av
def arh{x:Str}{av:List Str}{B:Nat}(h:∀y∈av,y.length<=B)(ab:av.length*B+av.length*x.length<=16777216):JoinOk x av=true:=by
 unfold JoinOk;rw[StrLaws.joinFits h ab];rfl
def asc(l:List Nat):Prop:=∀a∈l,a<128
def Mw(x:Str):vK x=true <-> asc (ls x):=by
 unfold vK asc ls;rw[List.all_eq_true];constructor
 ·intro h a au;exact of_decide_eq_true (h a au)
 ·intro h a au;exact decide_eq_true (h a au)
def yi{x:Str}(h:asc (ls x)):PyData.strOk x=true:=by
 unfold PyData.strOk;rw[<- Array.all_toList,List.all_eq_true];intro a au;have:=h a au;exact decide_eq_true (by omega)
def Vq{a b:List Nat}(af:asc a)(ai:asc b):asc (a++b):=λx hx=>(hD.mp hx).elim (af x) (ai x)
theorem Wb{c:Nat}(ax:c<128):∀{av:List (List Nat)},(∀p∈av,asc p)->asc (gN c av)
| [],_=>λa h=>by simp[gN] at h
| [p],h=>h p (by simp)
|p::q::r,h=>by
  refine Vq (h p (by simp)) λa au=>?_
  rcases asu.mp au with rfl|au
  ·exact ax
  ·exact Wb ax (λx hx=>h x (di _ hx)) a au
def aqm{av:List (List Nat)}(h:∀p∈av,asc p):asc av.flatten:=λa au=>by
 obtain⟨p,aF,hx⟩:=List.mem_flatten.mp au;exact h p aF a hx
def tu(m:Nat):ls (e5 (m:Int))=(Nat.toDigits 10 m).map Char.toNat:=W.KIN.signs_num m
def Up(m:Nat):NumText.AllDigits (ls (e5 (m:Int))):=by
 rw[tu];intro c ax;obtain⟨d,hd,rfl⟩:=cN.mp ax;have h:=Nat.isDigit_of_mem_toDigits (by decide) (by decide) hd;simp only[Char.isDigit,fi,decide_eq_true_eq] at h;exact⟨h.1,h.2⟩
end c1
end
section
namespace c1
open D bI PySem
section
variable {f g:bl}{e2 gt:e7}{ε:Ev}{a b:Bool}
def mm(hf:f ε=some (.bool a))(bf:a=true->g ε=some (.bool b)):h2 f g ε=some (.bool (a && b)):=by
 cases a with
|true=>simp[h2,hf,bf rfl]
|false=>simp[h2,hf]
def OC(hf:f ε=some (.bool a))(bf:a=false->g ε=some (.bool b)):oj f g ε=some (.bool (a || b)):=by
 cases a with
|false=>simp[oj,hf,bf rfl]
|true=>simp[oj,hf]
def Y2(hf:f ε=some (.bool a)):as5 f ε=some (.bool !a):=by simp[as5,hf]
def asA(hf:f ε=some (.bool a)):bB f ε=some a:=by simp[bB,hf]
def vO(hf:e2 ε=some a)(bf:a=false->gt ε=some b):eM e2 gt ε=some (a || b):=by
 cases a with
|false=>simp[eM,hf,bf rfl]
|true=>simp[eM,hf]
def NZ(hf:e2 ε=some a)(bf:a=true->gt ε=some b):f_ e2 gt ε=some (a && b):=by
 cases a with
|true=>simp[f_,hf,bf rfl]
|false=>simp[f_,hf]
def rn(hf:e2 ε=some a):fU e2 ε=some !a:=by simp[fU,hf]
def gZ{d:List T->Option T}{t:T}(h:f ε=some t):aX d [f] ε=d [t]:=by simp[aX,args,h]
def sD{d:List T->Option T}{t u:T}(h:f ε=some t)(ai:g ε=some u):aX d [f,g] ε=d [t,u]:=by simp[aX,args,h,ai]
def d4{o:T->T->Option T}{t u:T}(h:f ε=some t)(ai:g ε=some u):ag o f g ε=o t u:=by simp[ag,h,ai]
def vQ{o:T->Option T}{t:T}(h:f ε=some t):dm o f ε=o t:=by simp[dm,h]
def nQ{n:Nat}{as:List T}{r:Option T}(h:f ((as.map λt=>some (.ae t))++dS (n - as.length) none)=r):cT (bO f) n as=r:=by
 unfold cT bO;rw[h];cases r <;> rfl
def lA{e2:e7}{s1 s2:bc}(h:e2 ε=some a):seq (iff e2 s1 skip) s2 ε=if a=true then seq s1 s2 ε else s2 ε:=by
 cases a with
|true=>
  show (iff e2 s1 skip ε).bind _=_
  rw[show iff e2 s1 skip ε=s1 ε by simp[iff,h]];rfl
|false=>simp[seq,iff,h,skip]
def p5{f:bl}{s2:bc}{t:T}(h:f ε=some t):seq (bO f) s2 ε=some (.d9 t):=by simp[seq,bO,h]
end
theorem OL{r:Ev}{e:bl}{f:T->T}:∀(ts:List T) (s0:Option aI),(∀t∈ts,e (some (.ae t)::r)=some (f t))->gk (bH 0) (dy true) e ts (s0::r)=some (ts.map f)
| [],_,_=>rfl
|t::ts,s0,h=>by
  have af:=h t (by simp);have ai:=OL (f:=f) ts (some (.ae t)) λu b4=>h u (di _ b4);simp[gk,bH,dy,af,ai]
def asX{it:jX}{caps:List Nat}{e:bl}{f:T->T}{ε:Ev}{ts:List T}(hi:it ε=some ts)(aB:ts.length<=big)(h:∀t∈ts,e (some (.ae t)::caps.map λi=>(ε[i]?).join)=some (f t)):comp 1 caps it (bH 0) (dy true) e ε=some (.list (ts.map f)):=by
 simp only[comp,hi,cv,if_pos aB];rw[show iF 1 caps ε=none::caps.map λi=>(ε[i]?).join from rfl,OL (f:=f) ts none h];rfl
theorem T6{α:Type}(f:α->Bool):∀l:List α,bools (l.map λx=>.bool (f x))=some (l.map f)
| []=>rfl
|x::l=>by simp[bools,T6 f l]
def OM{it:jX}{caps:List Nat}{e:bl}{f:T->Bool}{ε:Ev}{ts:List T}(hi:it ε=some ts)(aB:ts.length<=big)(h:∀t∈ts,e (some (.ae t)::caps.map λi=>(ε[i]?).join)=some (.bool (f t))):aX asZ [comp 1 caps it (bH 0) (dy true) e] ε=some (.bool (ts.all f)):=by
 rw[gZ (asX (f:=λt=>.bool (f t)) hi aB h)];simp only[asZ,T6,et];simp[List.all_map]
mutual
noncomputable def gV:T->Bool
|.str x=>vK x && decide (x.length<=1000000)
|.tuple ts=>qv ts
|.list ts=>qv ts
|.dict _=>false
|_=>true
noncomputable def qv:List T->Bool
| []=>true
|t::ts=>gV t && qv ts
end
theorem Nm:∀{ts:List T},qv ts=true <-> ∀t∈ts,gV t=true
| []=>by simp[qv]
|t::ts=>by
  rw[qv,fi,Nm (ts:=ts)];simp
mutual
theorem T3:∀{t:T},gV t=true->t.canLay0=true
|.str x,h=>by
  rw[gV,fi] at h;rw[PyData.canLay0];exact yi ((Mw x).mp h.1)
|.tuple ts,h=>by
  rw[gV] at h;rw[PyData.canLay0];exact Mp h
|.list ts,h=>by
  rw[gV] at h;rw[PyData.canLay0];exact Mp h
|.dict _,h=>by simp[gV] at h
|.none,_=>rfl
|.int _,_=>rfl
|.bool _,_=>rfl
theorem Mp:∀{ts:List T},qv ts=true->ke ts=true
| [],_=>rfl
|t::ts,h=>by
  rw[qv,fi] at h;rw[ke,T3 h.1,Mp h.2];rfl
end
structure fM(d:Nat)(t:T):Prop where
 g:gV t=true
 d:t.depth<=d
theorem fM.okN{d:Nat}{t:T}(h:fM d t):bI.okN d t:=⟨T3 h.g,h.d⟩
theorem fM.ff{d:Nat}{t:T}(h:fM d t)(hd:d<=60:=by decide):ff t=true:=h.okN.ff hd
theorem TV:∀{ts:List T} {t:T},t∈ts->t.depth<=jm ts
|u::ts,t,h=>by
  rw[jm];rcases asu.mp h with rfl|h
  ·omega
  ·have:=TV h;omega
def fM.tup{d:Nat}{ts:List T}(h:fM (d+1) (.tuple ts)):∀t∈ts,fM d t:=λt aZ=>by
 have af:=h.g;have ai:=h.d;rw[gV] at af;rw[jq] at ai;have:=TV aZ;exact⟨Nm.mp af t aZ,by omega⟩
def fM.J'{d:Nat}{ts:List T}(h:∀t∈ts,fM d t):fM (d+1) (.tuple ts):=
 ⟨by rw[gV];exact Nm.mpr λt aZ=>(h t aZ).g,(kW λt aZ=>(h t aZ).okN).2⟩
def p8{d:Nat}{x:Str}(h:asc (ls x))(aB:x.length<=1000000):fM d (.str x):=⟨by rw[gV,fi];exact⟨(Mw x).mpr h,decide_eq_true aB⟩,by rw[jq];omega⟩
def Zd{d:Nat}{i:Int}:fM d (.int i):=⟨rfl,by rw[jq];omega⟩
def V7{d:Nat}:fM d .none:=⟨rfl,by rw[jq];omega⟩
def yw:T->Bool
|.int _=>true
|_=>false
def jk(t:T)(lo hi:Int):Bool:=match t with
|.tuple ts=>decide (lo<=ts.length) && decide ((ts.length:Int)<=hi)
|_=>false
def N7(cH:String){t:T}(h:gV t=true):sy cH t=some (.bool (k' cH t)):=by
 cases t <;> first|rfl|simp[gV] at h
def ao'{t:T}(h:gV t=true):CG [t]=some (.bool (yw t)):=by
 refine nQ ?_
 have aG:=N7 "int" h;have aS:=N7 "bool" h;refine (mm (a:=k' "int" t) (b:=!k' "bool" t) (by rw[vQ (t:=t) rfl];exact aG) λ_=>Y2 (by rw[vQ (t:=t) rfl];exact aS)).trans ?_;cases t <;> first|rfl|simp[gV] at h
def UP{f g h:bl}{ε:Ev}{i j k:Int}(hf:f ε=some (.int i))(bf:g ε=some (.int j))(cK:h ε=some (.int k)):chain oLe oLe f g h ε=some (.bool (decide (i<=j) && decide (j<=k))):=by
 simp only[chain,hf,bf,cK,oLe,cv];cases decide (i<=j) <;> rfl
def MQ{t:T}{lo hi:Int}(h:gV t=true):nH [t,.int lo,.int hi]=some (.bool (jk t lo hi)):=by
 refine nQ ?_
 have ab:k' "tuple" t=true->chain oLe oLe (nm 1) (aX fo [(nm 0)]) (nm 2) [some (.ae t),some (.ae (.int lo)),some (.ae (.int hi))]=some (.bool (jk t lo hi)):=by
  intro hw;cases t with
  |tuple ts=>exact UP rfl (by rw[gZ (t:=.tuple ts) rfl];rfl) rfl
  |_=>simp[k'] at hw
 refine (mm (a:=k' "tuple" t) (b:=jk t lo hi) (by rw[vQ (t:=t) rfl];exact N7 _ h) ab).trans ?_
 cases t <;> rfl
noncomputable def rr(t:T)(lo hi:Int)(a b:Nat):Bool:=match t with
|.str x=>decide (lo<=x.length) && decide ((x.length:Int)<=hi) && (ls x).all λc=>decide (a<=c) && decide (c<=b)
|_=>false
def ape(a b:Nat):strLt ⟨#[a]⟩ ⟨#[b]⟩=decide (a<b):=by
 simp[strLt,List.cons_lt_cons_iff]
def aqd{f g h:bl}{ε:Ev}{i j k:Nat}(hf:f ε=some (fw i))(bf:g ε=some (fw j))(cK:h ε=some (fw k)):chain oLe oLe f g h ε=some (.bool (decide (i<=j) && decide (j<=k))):=by
 simp only[chain,hf,bf,cK,oLe,fw,cv,ape];have aG:(!decide (j<i))=decide (i<=j):=by
  by_cases q:i<=j
  ·simp[q]
  ·simp[q];omega
 have aS:(!decide (k<j))=decide (j<=k):=by
  by_cases q:j<=k
  ·simp[q]
  ·simp[q];omega
 rw[aG,aS];cases decide (i<=j) <;> rfl
def UW{t:T}{lo hi:Int}{a b:Nat}(h:gV t=true):p1 [t,.int lo,.int hi,fw a,fw b]=some (.bool (rr t lo hi a b)):=by
 unfold p1 cT Ub;show (seq _ _ [some (.ae t),some (.ae (.int lo)),some (.ae (.int hi)),some (.ae (fw a)),some (.ae (fw b))]).bind _=_;generalize nz:[some (aI.ae t),some (.ae (.int lo)),some (.ae (.int hi)),some (.ae (fw a)),some (.ae (fw b))]=ε;have h0:nm 0 ε=some t:=by subst nz;rfl
 have af:nm 1 ε=some (.int lo):=by subst nz;rfl
 have ai:nm 2 ε=some (.int hi):=by subst nz;rfl
 cases t with
|str x=>
  rw[gV,fi] at h;have hx:=of_decide_eq_true h.2;have hle:chain oLe oLe (nm 1) (aX fo [(nm 0)]) (nm 2) ε=some (.bool (decide (lo<=x.length) && decide ((x.length:Int)<=hi))):=UP af (by rw[gZ h0];simp only[fo];rw[if_pos (by unfold big;omega)]) ai;rw[lA (a:=!(decide (lo<=x.length) && decide ((x.length:Int)<=hi)))]
  ·cases bg:(decide (lo<=x.length) && decide ((x.length:Int)<=hi)) with
   |false=>
    simp only[Bool.not_false,if_true];rw[p5 (t:=.bool false) rfl];simp only[cv];simp only[rr,bg,Bool.false_and]
   |true=>
    simp only[Bool.not_true,l1,if_false,bO];have:=OM (it:=gd (aJ 0)) (caps:=[3,4]) (e:=chain oLe oLe (nm 1) (nm 0) (nm 2)) (f:=λt=>match t with|.str y=>decide (a<=y.cps.getD 0 0) && decide (y.cps.getD 0 0<=b)|_=>false) (ε:=ε) (ts:=(ls x).map fw) (by subst nz;simp[gd,aJ,h.1,ls]) (by rw[eT,<- iE];unfold big;omega) (by
     intro t aZ;obtain⟨c,ax,rfl⟩:=cN.mp aZ;subst nz;exact aqd rfl rfl rfl)
    rw[this];simp only[et,cv,rr,bg,Bool.true_and,List.all_map];rfl
  ·have e:eM (fU (bB (dm (sy "str") (nm 0)))) (fU (bB (chain oLe oLe (nm 1) (aX fo [(nm 0)]) (nm 2)))) ε=some (false || !(decide (lo<=x.length) && decide ((x.length:Int)<=hi))):=
    vO (a:=false) (rn (a:=true) (asA (by rw[vQ h0];rfl))) λ_=>rn (asA hle)
   rw[e];rfl
|dict d=>simp[gV] at h
|_=>
  rw[lA (a:=true) (by
   refine vO (a:=true) (b:=false) (rn (a:=false) (asA (by rw[vQ h0];rfl))) λz=>by cases z)]
  rfl
def rx(t:T):Bool:=rr t 1 4 97 122
def mv(t:T):Bool:=rr t 4 4 48 57
def an8{t:T}(h:gV t=true):xW [t]=some (.bool (mv t)):=by
 refine nQ ?_
 show aX p1 [_,_,_,_,_] _=_
 simp only[aX,args,aJ,aa,cv,et,c9,g6,uY,iC];exact UW (a:=48) (b:=57) h
end c1
end
section
namespace c1
open D bI PySem
def vz:List Str->Bool
|x::y::r=>strLt x y && vz (y::r)
|_=>true
def abP{α:Type}(l:List α):gS l (some 1) none=l.tail:=by
 unfold gS;cases l with
|nil=>rfl
|cons a r=>
  have aG:D.cu (a::r).length 0 (some 1)=1:=by simp[D.cu];omega
  have aS:D.cu (a::r).length (a::r).length none=(a::r).length:=rfl;rw[aG,aS];simp
def jh(ss:List Str)(t:T):Bool:=match t with
|.str x=>decide (x∈ss)
|_=>false
def Vh(s:Str)(t:T):jn (.str s) t=match t with|.str x=>decide (s=x)|_=>false:=by
 cases t with
|str x=>
  rw[jn,Bool.eq_iff_iff];simp
|_=>simp[jn]
def TQ(ss:List Str)(t:T):nr t (ss.map .str)=jh ss t:=by
 unfold nr jh;rw[List.any_map];cases t with
|str x=>
  simp only[lZ,Vh];rw[Bool.eq_iff_iff,List.any_eq_true,decide_eq_true_iff];constructor
  ·rintro⟨y,bw,e⟩;rw[<- of_decide_eq_true e];exact bw
  ·intro h;exact⟨x,h,decide_eq_true rfl⟩
|_=>simp[lZ,Vh]
def C8{ss:List Str}(h:∀s∈ss,asc (ls s)):pK (ss.map .str)=true:=by
 unfold pK;have:=Ni (d:=0) (ts:=ss.map .str) λt aZ=>by
  obtain⟨s,asr,rfl⟩:=cN.mp aZ;exact⟨by rw[PyData.canLay0];exact yi (h s asr),by rw[jq];omega⟩
 rw[this.1,Bool.true_and];exact decide_eq_true (by omega)
def NS{ss:List Str}{t:T}{d:Nat}(h:∀s∈ss,asc (ls s))(aZ:fM d t)(hd:d<=60:=by decide):eP false t (.tuple (ss.map .str))=some (.bool (jh ss t)):=by
 simp only[eP,aZ.ff hd,C8 h,Bool.and_self,if_true,TQ];rfl
def Za{ss:List Str}{t:T}{d:Nat}(h:∀s∈ss,asc (ls s))(aZ:fM d t)(hd:d<=60:=by decide):eP false t (.list (ss.map .str))=some (.bool (jh ss t)):=by
 simp only[eP,aZ.ff hd,C8 h,Bool.and_self,if_true,TQ];rfl
def aaD(ss:List Str):Bool:=ss.all λs=>(ls s).all λc=>decide (c<128)
def Ny{ss:List Str}(h:aaD ss=true):∀s∈ss,asc (ls s):=λs asr a au=>of_decide_eq_true (List.all_eq_true.mp (List.all_eq_true.mp h s asr) a au)
def V1:List Str:=["day","inner","once","way"]
def yH:List Str:=["shut","open","cut"]
def Vr:∀s∈yH,asc (ls s):=Ny (by decide +kernel)
def OO:∀s∈(["set","unset"]:List Str),asc (ls s):=Ny (by decide +kernel)
def OP:∀s∈(["shunt","free"]:List Str),asc (ls s):=Ny (by decide +kernel)
def pG{a:T}{r:List T}:aW (.tuple (a::r)) (.int 0)=some a:=by
 simp only[aW,e9,fS];rw[if_pos (by decide),if_pos (by simp only[d_];omega)];rfl
def wW{a b:T}{r:List T}:aW (.tuple (a::b::r)) (.int 1)=some b:=by
 simp only[aW,e9,fS];rw[if_pos (by decide),if_pos (by simp only[d_];omega)];rfl
def QW{a b c:T}{r:List T}:aW (.tuple (a::b::c::r)) (.int 2)=some c:=by
 simp only[aW,e9,fS];rw[if_pos (by decide),if_pos (by simp only[d_];omega)];rfl
def QX{a b c d:T}{r:List T}:aW (.tuple (a::b::c::d::r)) (.int 3)=some d:=by
 simp only[aW,e9,fS];rw[if_pos (by decide),if_pos (by simp only[d_];omega)];rfl
def N1{t:T}{n:Nat}(h:jk t n n=true):∃ts,t=.tuple ts/\ts.length=n:=by
 cases t with
|tuple ts=>
  simp only[jk,fi,decide_eq_true_eq] at h;exact⟨ts,rfl,by omega⟩
|_=>simp[jk] at h
def Zs{t:T}(h:jk t 2 2=true):∃a b,t=.tuple [a,b]:=by
 obtain⟨ts,rfl,aB⟩:=N1 (n:=2) h
 match ts,aB with
| [a,b],_=>exact⟨a,b,rfl⟩
def Zr{t:T}(h:jk t 3 3=true):∃a b c,t=.tuple [a,b,c]:=by
 obtain⟨ts,rfl,aB⟩:=N1 (n:=3) h
 match ts,aB with
| [a,b,c],_=>exact⟨a,b,c,rfl⟩
def Zq{t:T}(h:jk t 4 4=true):∃a b c d,t=.tuple [a,b,c,d]:=by
 obtain⟨ts,rfl,aB⟩:=N1 (n:=4) h
 match ts,aB with
| [a,b,c,d],_=>exact⟨a,b,c,d,rfl⟩
def adb(t:T):Str:=match t with
|.tuple (.str x::_)=>x
|_=>⟨#[]⟩
end c1
end
section
namespace c1
open D bI PySem
def Bo(t:T):Str:=match t with
|.str x=>x
|_=>⟨#[]⟩
def N6(t:T):Bool:=match t with
|.none=>true
|_=>false
def OF{f:bl}{ε:Ev}{t:T}(h:f ε=some t):dm hg f ε=some (.bool (N6 t)):=by
 rw[vQ h];cases t <;> rfl
end c1
end
section
namespace c1
open D bI PySem
def mW(p:aV):List Str:=p.cz.map (·.1)
structure wa(p:aV):Prop where
 z:∀s∈mW p,asc (ls s)
 l:p.cz.length<=1000
def Ue{p:aV}(aF:wa p){d:Nat}{t:T}(aZ:fM d t)(hd:d<=60):ve [b3 p,t]=some (.bool (jh (mW p) t)):=by
 refine nQ ?_
 have e:comp 1 [] (gd (ag aW (nm 0) (aa (.int 0)))) (bH 0) (dy true) (ag aW (nm 0) (aa (.int 0))) [some (.ae (b3 p)),some (.ae t)]=some (.list ((mW p).map .str)):=by
  rw[asX (f:=λt=>.str (adb t)) (ts:=p.cz.map eh) (by
   simp only[gd];rw[d4 (t:=b3 p) rfl rfl,show aW (b3 p) (.int 0)=some (.tuple (p.cz.map eh)) from pG];rfl) (by rw[eT];have:=aF.l;unfold big;omega) λt aZ=>by
    obtain⟨z,_,rfl⟩:=cN.mp aZ;rw[d4 rfl rfl];exact pG]
  simp only[gB,mW];rfl
 show ag (eP false) (nm 1) _ [some (.ae (b3 p)),some (.ae t)]=_
 rw[d4 (t:=t) rfl e];exact Za aF.z aZ hd
def jv(s:Str)(t:T):Bool:=match t with
|.str x=>decide (x=s)
|_=>false
def M8(s:Str)(t:T):jn t (.str s)=jv s t:=by
 cases t with
|str x=>
  rw[jn,Bool.eq_iff_iff];simp[jv]
|_=>simp[jn,jv]
def pj{d:Nat}{f:bl}{ε:Ev}{t:T}{s:Str}(h:f ε=some t)(aZ:fM d t)(asr:asc (ls s))(hd:d<=60:=by decide):ag oEq f (aa (.str s)) ε=some (.bool (jv s t)):=by
 rw[d4 h rfl];simp only[oEq,aZ.ff hd,show ff (.str s)=true from bI.okN.ff (d:=0) ⟨by rw[PyData.canLay0];exact yi asr,by rw[jq];omega⟩,Bool.and_self,if_true,M8]
def af4{d:Nat}{f:bl}{ε:Ev}{t:T}{s:Str}(h:f ε=some t)(aZ:fM d t)(asr:asc (ls s))(hd:d<=60:=by decide):ag fV f (aa (.str s)) ε=some (.bool !(jv s t)):=by
 rw[d4 h rfl];simp only[fV,aZ.ff hd,show ff (.str s)=true from bI.okN.ff (d:=0) ⟨by rw[PyData.canLay0];exact yi asr,by rw[jq];omega⟩,Bool.and_self,if_true,M8]
def Oa{s:Str}(h:((ls s).all λc=>decide (c<128))=true:=by decide +kernel):asc (ls s):=λa au=>of_decide_eq_true (List.all_eq_true.mp h a au)
def DB:asc (ls "line"):=Oa
def rp:asc (ls "code"):=Oa
def ri:asc (ls "ticks"):=Oa
def vS(p:aV)(t:T):Bool:=match t with
|.tuple [a,z,w]=>jv "line" a && (jh (mW p) z && jh yH w)
|_=>false
def apZ{p:aV}(aF:wa p){d:Nat}{t:T}(h:fM (d+1) t)(hd:d<=50):BV [b3 p,t]=some (.bool (vS p t)):=by
 refine nQ ?_
 have af:aX nH [(aJ 1),(aa (.int 3)),(aa (.int 3))] [some (.ae (b3 p)),some (.ae t)]=some (.bool (jk t 3 3)):=by
  simp only[aX,args,aJ,aa,iC,l4,cv,et];exact MQ h.g
 cases ab:jk t 3 3 with
|false=>
  rw[ab] at af;refine (mm af (b:=false) λz=>by cases z).trans ?_;have:vS p t=false:=by
   unfold vS;split
   ·simp[jk] at ab
   ·rfl
  rw[this];rfl
|true=>
  obtain⟨a,z,w,rfl⟩:=Zr ab;have au:=h.tup a (by simp);have ar:=h.tup z (by simp);have hw:=h.tup w (by simp);rw[ab] at af;refine (mm af λ_=>mm (pj (t:=a) (by rw[d4 rfl rfl];exact pG) au DB (by omega)) λ_=>mm (a:=jh (mW p) z) ?_ λ_=>?_).trans rfl
  ·rw[sD (t:=b3 p) (u:=z) rfl (by rw[d4 rfl rfl];exact wW)];exact Ue aF ar (by omega)
  ·rw[d4 (t:=w) (u:=.tuple (yH.map .str)) (by rw[d4 rfl rfl];exact QW) rfl];exact NS Vr hw (by omega)
noncomputable def ro(p:aV)(t:T):Bool:=match t with
|.tuple [a,f,e,z]=>jv "code" a && (mv f && (if jh ["set","unset"] e=true then N6 z else jh ["shunt","free"] e && jh (mW p) z))
|_=>false
def aoX{p:aV}(aF:wa p){d:Nat}{t:T}(h:fM (d+1) t)(hd:d<=50):xJ [b3 p,t]=some (.bool (ro p t)):=by
 unfold xJ cT R7;show (seq _ _ [some (.ae (b3 p)),some (.ae t)]).bind _=_;have af:aX nH [(aJ 1),(aa (.int 4)),(aa (.int 4))] [some (.ae (b3 p)),some (.ae t)]=some (.bool (jk t 4 4)):=by
  simp only[aX,args,aJ,aa,iC,l4,cv,et];exact MQ h.g
 cases ab:jk t 4 4 with
|false=>
  rw[ab] at af;rw[lA (a:=true) (vO (a:=true) (b:=false) (rn (asA af)) λz=>by cases z),if_pos rfl,p5 (t:=.bool false) rfl];have:ro p t=false:=by
   unfold ro;split
   ·simp[jk] at ab
   ·rfl
  rw[this];rfl
|true=>
  obtain⟨a,f,e,z,rfl⟩:=Zq ab;have au:=h.tup a (by simp);have hf:=h.tup f (by simp);have he:=h.tup e (by simp);have ar:=h.tup z (by simp);rw[ab] at af;generalize nz:[some (aI.ae (b3 p)),some (.ae (.tuple [a,f,e,z]))]=ε at *;have de:ag aW (nm 1) (aa (.int 0)) ε=some a:=by subst nz;rw[d4 rfl rfl];exact pG
  have aG:ag aW (nm 1) (aa (.int 1)) ε=some f:=by subst nz;rw[d4 rfl rfl];exact wW
  have aS:ag aW (nm 1) (aa (.int 2)) ε=some e:=by subst nz;rw[d4 rfl rfl];exact QW
  have d5:ag aW (nm 1) (aa (.int 3)) ε=some z:=by subst nz;rw[d4 rfl rfl];exact QX
  have ax:=vO (rn (asA af)) λ_=>vO (asA (af4 de au rp (by omega))) λ_=>rn (asA (show aX xW [(ag aW (nm 1) (aa (.int 1)))] ε=some (.bool (mv f)) by rw[gZ aG];exact an8 hf.g));rw[lA ax];cases bg:(jv "code" a && mv f) with
  |false=>
   rw[if_pos (by
    rw[<- Bool.not_and,bg];rfl),p5 (t:=.bool false) rfl]
   simp only[ro];rw[<- Bool.and_assoc,bg,Bool.false_and];rfl
  |true=>
   rw[if_neg (by
    rw[<- Bool.not_and,bg];simp)]
   have asr:ag (eP false) (ag aW (nm 1) (aa (.int 2))) (aa (.tuple (hW ["set","unset"]))) ε=some (.bool (jh ["set","unset"] e)):=by
    rw[d4 (t:=e) (u:=.tuple ((["set","unset"]:List Str).map .str)) aS rfl];exact NS OO he (by omega)
   rw[lA (asA asr)];simp only[ro];rw[<- Bool.and_assoc,bg,Bool.true_and];cases hi:jh ["set","unset"] e with
   |true=>
    rw[if_pos rfl,p5 (OF d5),if_pos rfl];rfl
   |false=>
    rw[if_neg (by simp),if_neg (by simp)];simp only[bO];rw[mm (a:=jh ["shunt","free"] e) (b:=jh (mW p) z) (by
     rw[d4 (t:=e) (u:=.tuple ((["shunt","free"]:List Str).map .str)) aS rfl];exact NS OP he (by omega)) λ_=>by
     rw[sD (t:=b3 p) (u:=z) (by subst nz;rfl) d5];exact Ue aF ar (by omega)]
    rfl
def posB(t:T):Bool:=match t with
|.int i=>decide (1<=i)
|_=>false
def vx(t:T):Bool:=match t with
|.tuple [a,n]=>jv "ticks" a && (yw n && posB n)
|_=>false
def aoq{d:Nat}{t:T}(h:fM (d+1) t)(hd:d<=50):BN [t]=some (.bool (vx t)):=by
 refine nQ ?_
 have af:aX nH [(aJ 0),(aa (.int 2)),(aa (.int 2))] [some (.ae t)]=some (.bool (jk t 2 2)):=by
  simp only[aX,args,aJ,aa,iC,cv,et];exact MQ h.g
 cases ab:jk t 2 2 with
|false=>
  rw[ab] at af;refine (mm af (b:=false) λz=>by cases z).trans ?_;have:vx t=false:=by
   unfold vx;split
   ·simp[jk] at ab
   ·rfl
  rw[this];rfl
|true=>
  obtain⟨a,n,rfl⟩:=Zs ab;have au:=h.tup a (by simp);have a9:=h.tup n (by simp);rw[ab] at af;refine (mm af λ_=>mm (pj (t:=a) (by rw[d4 rfl rfl];exact pG) au ri (by omega)) λ_=>mm (a:=yw n) (b:=posB n) ?_ λhw=>?_).trans rfl
  ·rw[gZ (t:=n) (by rw[d4 rfl rfl];exact wW)];exact ao' a9.g
  ·cases n with
   |int i=>
    rw[d4 (t:=.int i) (u:=.int 1) (by rw[d4 rfl rfl];exact wW) rfl];rfl
   |_=>simp[yw] at hw
def vG(p:aV)(t:T):Bool:=vS p t || (ro p t || vx t)
def aoR{p:aV}(aF:wa p){d:Nat}{t:T}(h:fM (d+1) t)(hd:d<=50):x3 [b3 p,t]=some (.bool (vG p t)):=by
 refine nQ ?_
 refine (OC (a:=vS p t) (b:=ro p t || vx t) ?_ λ_=>OC ?_ λ_=>?_).trans rfl
 ·rw[sD (t:=b3 p) (u:=t) rfl rfl];exact apZ aF h hd
 ·rw[sD (t:=b3 p) (u:=t) rfl rfl];exact aoX aF h hd
 ·rw[gZ (t:=t) rfl];exact aoq h hd
end c1
end
section
namespace c1
open D bI PySem
def asv:Int:=10 ^ 64
def Nz:0<asv:=by decide +kernel
def Zp:asv<2 ^ 213:=by decide +kernel
def yE{ε:Ev}:ag lH (aa (.int 10)) (aa (.int 64)) ε=some (.int asv):=by
 rw[d4 rfl rfl];simp only[lH];rw[if_pos (by decide)];rfl
def VZ{a:Int}(h0:0<=a)(h:a<asv):DJ a=true:=by
 unfold DJ;refine decide_eq_true ?_;have af:=Zp;have ai:a.natAbs<2 ^ 213:=by
  have e:((2 ^ 213:Nat):Int)=2 ^ 213:=by norm_cast
  have:a<((2 ^ 213:Nat):Int):=by rw[e];exact Int.lt_trans h af
  generalize 2 ^ 213=q at this ⊢;omega
 by_cases ar:a.natAbs=0
 ·rw[ar];decide
 ·have:=(Nat.log2_lt ar).mpr ai;omega
def dig(l:List Nat):Prop:=NumText.AllDigits l
def aru{l:List Nat}(h:dig l):asc l:=λa au=>by
 have:=h a au;omega
def p4{a:Int}(h:0<=a):e5 a=e5 ((a.toNat:Nat):Int):=by rw[Int.toNat_of_nonneg h]
def vf{a:Int}(h:0<=a):dig (ls (e5 a)):=by
 rw[p4 h];exact Up _
def Uo{a:Int}(h0:0<=a)(h:a<asv):(e5 a).length<=64/\0<(e5 a).length:=by
 rw[p4 h0,iE,tu,eT];refine⟨(Nat.length_toDigits_le_iff (by decide) (by decide)).mpr ?_,Nat.length_toDigits_pos⟩;have:((a.toNat:Nat):Int)<((10 ^ 64:Nat):Int):=by
  rw[Int.toNat_of_nonneg h0];have e:((10 ^ 64:Nat):Int)=asv:=by unfold asv;norm_cast
  rw[e];exact h
 exact_mod_cast this
def aoo{x:Str}(h:dig (ls x))(aB:x.length<=64):dig (ls (Txt.zfill x 64))/\(Txt.zfill x 64).length=64:=by
 unfold Txt.zfill;split
 next af=>exact⟨h,by omega⟩
 next af=>
  have e:zfilled x ((64:Int).toNat - x.length)=Builtin.Str.padded x ((64:Int).toNat - x.length) 0 48:=by
   unfold zfilled;split
   next ai=>
    have:=h 43 (by
     have:=Array.mem_of_getElem? ai;simpa [ls] using this)
    omega
   next ai=>
    have:=h 45 (by
     have:=Array.mem_of_getElem? ai;simpa [ls] using this)
    omega
   next=>rfl
  rw[e];unfold Builtin.Str.padded;constructor
  ·intro c ax;simp only[ls,Array.toList_append,Array.toList_replicate,List.replicate_zero,jN,hD,List.mem_replicate] at ax;rcases ax with ⟨_,rfl⟩|ax
   ·omega
   ·exact h c ax
  ·simp only[Str.length,Array.size_append,Array.size_replicate];have:(64:Int).toNat=64:=rfl;rw[this];have bE:x.length=x.cps.size:=rfl;omega
def hv(l:List Nat):Nat:=NumText.digitsVal l
theorem M9:∀(l:List Nat) (a:Nat),l.foldl (λacc c=>acc*10+(c - 48)) a=a*10 ^ l.length+hv l
| [],a=>by simp[hv,NumText.digitsVal]
|c::l,a=>by
  have af:=M9 l (a*10+(c - 48));have ai:=M9 l (0*10+(c - 48));have bE:hv (c::l)=l.foldl (λacc c=>acc*10+(c - 48)) (0*10+(c - 48)):=rfl;rw[List.foldl_cons,af,bE,ai,d_,Nat.pow_succ];generalize 10 ^ l.length=q;generalize c - 48=r;generalize hv l=v;have aG:(a*10+r)*q=a*(q*10)+r*q:=by
   rw[Nat.add_mul,Nat.mul_assoc,Nat.mul_comm 10 q]
  have aS:(0*10+r)*q=r*q:=by simp
  omega
def Dy(a b:List Nat):hv (a++b)=hv a*10 ^ b.length+hv b:=by
 show (a++b).foldl _ 0=_
 rw[List.foldl_append,M9];rfl
def Dj(m:Nat):hv (ls (e5 (m:Int)))=m:=by
 rw[tu];exact W.KIN.val_back m
def aor{m:Nat}(h:0<m):∃c r,ls (e5 (m:Int))=c::r/\49<=c:=by
 have hd:=Up m;have bq:=Dj m;have n':=NumText.toDigits_all _ hd;have pA:NumText.digitsVal (ls (e5 (m:Int)))=m:=bq;rw[pA] at n';have aB:=tu m;cases e:ls (e5 (m:Int)) with
|nil=>
  rw[e] at bq;simp[hv,NumText.digitsVal] at bq;omega
|cons c r=>
  refine⟨c,r,rfl,?_⟩
  have ax:=hd c (by rw[e];simp);by_cases bg:c=48
  ·exfalso
   subst bg;rw[e] at n' aB bq;have hlen:(48::r).length=(Nat.toDigits 10 m).length:=by rw[aB,eT]
   have uj:(List.dropWhile (λx=>x==48) (48::r)).length<=r.length:=by
    simp only[List.dropWhile_cons,beq_self_eq_true,if_true];exact (List.dropWhile_sublist _).length_le
   split at n'
   next aS=>
    rw[n'] at hlen;simp at hlen;subst hlen;simp[hv,NumText.digitsVal] at bq;omega
   next dv b' aS=>
    rw[n',eT] at hlen;rw[aS] at uj;simp at hlen uj;omega
  ·omega
def Z1{x:Str}{n:Nat}(hd:dig (ls x))(bq:hv (ls x)=n)(h:∃c r,ls x=c::r/\49<=c):x=e5 (n:Int):=by
 apply NP;rw[tu,<- bq];obtain⟨c,r,e,ax⟩:=h;have:=NumText.toDigits_digitsVal r.length (ls x) (by rw[e];rfl) hd (.inr ⟨c,r,e,ax⟩);rw[show hv (ls x)=NumText.digitsVal (ls x) from rfl,this,gB]
 conv=>lhs;rw[<- List.map_id (ls x)]
 refine List.map_congr_left λa au=>?_
 have:=hd a au;show a=(Char.ofNat a).toNat;have bq:Nat.isValidChar a:=by
  left;omega
 rw[Char.ofNat,dif_pos bq];rfl
def ao9{x:Str}(h:dig (ls x))(aB:x.length<=64):hv (ls (Txt.zfill x 64))=hv (ls x):=by
 unfold Txt.zfill;split
 ·rfl
 next af=>
  have e:zfilled x ((64:Int).toNat - x.length)=Builtin.Str.padded x ((64:Int).toNat - x.length) 0 48:=by
   unfold zfilled;split
   next ai=>
    have:=h 43 (by
     have:=Array.mem_of_getElem? ai;simpa [ls] using this)
    omega
   next ai=>
    have:=h 45 (by
     have:=Array.mem_of_getElem? ai;simpa [ls] using this)
    omega
   next=>rfl
  rw[e];unfold Builtin.Str.padded;simp only[ls,Array.toList_append,Array.toList_replicate,List.replicate_zero,jN];rw[Dy];have:∀k:Nat,hv (dS k 48)=0:=by
   intro k
   induction k with
   |zero=>rfl
   |succ k bY=>
    rw[qZ,show (48:Nat)::dS k 48=[48]++dS k 48 from rfl,Dy,bY];simp[hv,NumText.digitsVal]
  rw[this];simp
def qo:e7:=bB (ag lb (nm 1) (ag lH (aa (.int 10)) (aa (.int 64))))
noncomputable def rV:bc:=(seq (asg 2 (ag cD (ag tH (aX j_ [(ag oMod (nm 1) (ag lH (aa (.int 10)) (aa (.int 64))))]) (aa (.int 64))) (nm 2))) (asg 1 (ag yT (nm 1) (ag lH (aa (.int 10)) (aa (.int 64))))))
def arB:N_ asv=true:=by decide +kernel
def apQ:∀(m:Nat) (a:Int) (b:Str) (x:Option aI),0<=a->a<asv ^ (m+1)->dig (ls b)->b.length+64*m<=900000 ->
  ∃fF gR,kO qo rV (m+1) [x,some (.ae (.int a)),some (.ae (.str b))]=some (.bP [x,some (.ae (.int fF)),some (.ae (.str gR))])/\0<=fF/\fF<asv/\dig (ls gR)/\gR.length<=b.length+64*m/\((fF=a/\gR=b)\/1<=fF)/\fF.toNat*10 ^ gR.length+hv (ls gR)=a.toNat*10 ^ b.length+hv (ls b):=by
 intro m
 induction m with
|zero=>
  intro a b x h0 af ab aB;have en:a<asv:=by rw[show 0+1=1 from rfl,Int.pow_succ,Int.pow_zero,Int.one_mul] at af;exact af
  refine⟨a,b,?_,h0,en,ab,by omega,.inl ⟨rfl,rfl⟩,rfl⟩
  have e:qo [x,some (.ae (.int a)),some (.ae (.str b))]=some false:=by
   refine asA ?_
   rw[d4 (t:=.int a) rfl yE];simp only[lb];rw[decide_eq_false (by omega)]
  simp only[kO,e,cv,l1,if_false]
|succ m bY=>
  intro a b x h0 af ab aB;by_cases hw:asv<=a
  ·have e:qo [x,some (.ae (.int a)),some (.ae (.str b))]=some true:=by
    refine asA ?_
    rw[d4 (t:=.int a) rfl yE];simp only[lb];rw[decide_eq_true hw]
   have aF:=Nz;have ic:0<=a % asv:=asK _ (by omega);have a6:a % asv<asv:=sR _ aF;obtain⟨bZ,b1⟩:=Uo ic a6;obtain⟨kU,gP⟩:=aoo (vf ic) bZ;have hm:ag oMod (nm 1) (ag lH (aa (.int 10)) (aa (.int 64))) [x,some (.ae (.int a)),some (.ae (.str b))]=some (.int (a % asv)):=by
    rw[d4 (t:=.int a) rfl yE];simp only[oMod];rw[if_pos aF]
   have asr:aX j_ [(ag oMod (nm 1) (ag lH (aa (.int 10)) (aa (.int 64))))] [x,some (.ae (.int a)),some (.ae (.str b))]=some (.str (e5 (a % asv))):=by
    rw[gZ hm];simp only[j_];rw[if_pos (VZ ic a6)]
   have ar:ag tH (aX j_ [(ag oMod (nm 1) (ag lH (aa (.int 10)) (aa (.int 64))))]) (aa (.int 64)) [x,some (.ae (.int a)),some (.ae (.str b))]=some (.str (Txt.zfill (e5 (a % asv)) 64)):=by
    rw[d4 asr rfl];simp only[tH];rw[if_pos (by decide)]
   have au:ag cD (ag tH (aX j_ [(ag oMod (nm 1) (ag lH (aa (.int 10)) (aa (.int 64))))]) (aa (.int 64))) (nm 2) [x,some (.ae (.int a)),some (.ae (.str b))]=some (.str (Txt.zfill (e5 (a % asv)) 64++b)):=by
    rw[d4 (u:=.str b) ar rfl];simp only[cD];rw[if_pos (by rw[gP];unfold big;omega)]
   have iu:rV [x,some (.ae (.int a)),some (.ae (.str b))]=some (.bP [x,some (.ae (.int (a / asv))),some (.ae (.str (Txt.zfill (e5 (a % asv)) 64++b)))]):=by
    unfold rV seq asg;rw[au];simp only[et,cv,kf,jL];rw[d4 (t:=.int a) rfl yE];simp only[yT];rw[if_pos arB];rfl
   have hd:dig (ls (Txt.zfill (e5 (a % asv)) 64++b)):=by
    rw[mX];intro c ax;rcases hD.mp ax with q|q
    ·exact kU c q
    ·exact ab c q
   have hlen:(Txt.zfill (e5 (a % asv)) 64++b).length=64+b.length:=by
    rw[iE,mX,jo,<- iE,<- iE,gP]
   have bg:a / asv<asv ^ (m+1):=Int.ediv_lt_of_lt_mul aF (by rw[<- Int.pow_succ];exact af);obtain⟨fF,gR,aG,aS,d5,gU,nf,k7,n4⟩:=bY (a / asv) (Txt.zfill (e5 (a % asv)) 64++b) x (Int.ediv_nonneg h0 (by omega)) bg hd (by rw[hlen];omega);refine⟨fF,gR,?_,aS,d5,gU,by rw[hlen] at nf;omega,.inr ?_,?_⟩
   rotate_left
   ·have adi:1<=a / asv:=(Int.le_ediv_iff_mul_le aF).mpr (by omega);rcases k7 with ⟨rfl,_⟩|k7
    ·exact adi
    ·exact k7
   ·rw[n4,hlen,mX,Dy,<- iE];have lP:hv (ls (Txt.zfill (e5 (a % asv)) 64))=(a % asv).toNat:=by
     rw[ao9 (vf ic) bZ,p4 ic,Dj]
    rw[lP];have adH:=Int.emod_add_mul_ediv a asv;have asQ:a.toNat=(a % asv).toNat+10 ^ 64*(a / asv).toNat:=by
     have z3:asv=((10 ^ 64:Nat):Int):=by unfold asv;norm_cast
     have ad9:0<=a / asv:=Int.ediv_nonneg h0 (by omega);have:(a.toNat:Int)=(((a % asv).toNat+10 ^ 64*(a / asv).toNat:Nat):Int):=by
      rw[Int.toNat_of_nonneg h0,Int.natCast_add,Int.natCast_mul,Int.toNat_of_nonneg ic,Int.toNat_of_nonneg ad9,<- z3];exact adH.symm
     exact_mod_cast this
    rw[asQ,Nat.pow_add];generalize 10 ^ b.length=q;generalize (a / asv).toNat=u;generalize (a % asv).toNat=v;generalize hv (ls b)=w;generalize (10:Nat) ^ 64=z;rw[Nat.add_mul,Nat.mul_comm z u,Nat.mul_assoc];omega
   rw[kO];simp only[e,cv,if_true,iu,aG]
  ·have e:qo [x,some (.ae (.int a)),some (.ae (.str b))]=some false:=by
    refine asA ?_
    rw[d4 (t:=.int a) rfl yE];simp only[lb];rw[decide_eq_false (by omega)]
   refine⟨a,b,?_,h0,by omega,ab,by omega,.inl ⟨rfl,rfl⟩,rfl⟩
   rw[kO];simp only[e,cv,l1,if_false]
def Y1{a:Int}(h0:0<=a)(h:a<asv ^ 1000):xQ [.int a]=some (.str (e5 a)):=by
 unfold xQ cT Sh;obtain⟨fF,gR,aG,aS,d5,gU,nf,n4,asQ⟩:=apQ 999 a ⟨#[]⟩ (some (.ae (.int a))) h0 h (λc ax=>by simp[ls] at ax) (by show 0+64*999<=900000;omega);obtain⟨bZ,b1⟩:=Uo aS d5;have arZ:gR.length<=63936:=by
  have:(⟨#[]⟩:Str).length=0:=rfl;omega
 have ex:e5 fF++gR=e5 a:=by
  rcases n4 with ⟨dG,dz⟩|aF
  ·subst dG dz;exact NP (by rw[mX];exact jN _)
  ·have qs:a.toNat=fF.toNat*10 ^ gR.length+hv (ls gR):=by
    rw[asQ];show _=a.toNat*10 ^ 0+0;omega
   rw[p4 h0];refine Z1 ?_ ?_ ?_
   ·rw[mX];intro c ax;rcases hD.mp ax with q|q
    ·exact vf aS c q
    ·exact gU c q
   ·rw[mX,Dy,p4 aS,Dj,<- iE];exact qs.symm
   ·obtain⟨c,r,e,ax⟩:=aor (m:=fF.toNat) (by omega);rw[mX,p4 aS,e];exact⟨c,_,rfl,ax⟩
 have k7:ag cD (aX j_ [(nm 1)]) (nm 2) [some (.ae (.int a)),some (.ae (.int fF)),some (.ae (.str gR))]=some (.str (e5 a)):=by
  rw[d4 (t:=.str (e5 fF)) (u:=.str gR) (by rw[gZ (t:=.int fF) rfl];simp only[j_];rw[if_pos (VZ aS d5)]) rfl];simp only[cD];rw[if_pos (by unfold big;omega),ex]
 show ((asg 1 (aJ 0) [some (.ae (.int a)),none,none]).bind _).bind _=_
 rw[show asg 1 (aJ 0) [some (.ae (.int a)),none,none]=some (.bP [some (.ae (.int a)),some (.ae (.int a)),none]) from rfl];simp only[cv];show (seq (asg 2 (aa (.str ""))) (seq (kO qo rV 1000) (bO (ag cD (aX j_ [(nm 1)]) (nm 2)))) [some (.ae (.int a)),some (.ae (.int a)),none]).bind _=_;rw[show seq (asg 2 (aa (.str ""))) (seq (kO qo rV 1000) (bO (ag cD (aX j_ [(nm 1)]) (nm 2)))) [some (.ae (.int a)),some (.ae (.int a)),none]=seq (kO qo rV 1000) (bO (ag cD (aX j_ [(nm 1)]) (nm 2))) [some (.ae (.int a)),some (.ae (.int a)),some (.ae (.str ⟨#[]⟩))] from rfl];rw[show seq (kO qo rV 1000) (bO (ag cD (aX j_ [(nm 1)]) (nm 2))) [some (.ae (.int a)),some (.ae (.int a)),some (.ae (.str ⟨#[]⟩))]=bO (ag cD (aX j_ [(nm 1)]) (nm 2)) [some (.ae (.int a)),some (.ae (.int fF)),some (.ae (.str gR))] by simp only[seq,aG,cv]];simp only[bO,k7];rfl
end c1
end
section
namespace qh
open D
def ta:bc:=
  (seq (iff (bB (ag oLt (nm 1) (aX fo [(nm 0)]))) (bO (ag aW (nm 0) (nm 1))) skip) (bO (aa (.int 0))))
def l_:List T->Option T:=cT ta 2
noncomputable def tj:bc:=
  (seq (asg 2 (ag oMod (ag du (ag cD (ag cD (aX l_ [(aJ 0),(aJ 1)]) (ag du (aa (.int 7919)) (nm 1))) (aa (.int 1))) (aa (.int 48271))) (aa (.int 2147483647)))) (bO (ag oMod (ag cD (ag cD (ag du (nm 2) (nm 2)) (ag du (aa (.int 7)) (nm 2))) (nm 1)) (aa (.int 2147483629)))))
def ly:List T->Option T:=cT tj 3
noncomputable def tl:bc:=
  (seq (asg 2 (ag oMod (ag du (ag cD (ag cD (nm 0) (ag du (aa (.int 104729)) (nm 1))) (aa (.int 17))) (aa (.int 69621))) (aa (.int 2147483647)))) (bO (ag oMod (ag cD (ag cD (ag du (nm 2) (nm 2)) (ag du (aa (.int 3)) (nm 2))) (nm 1)) (aa (.int 2147483629)))))
def jr:List T->Option T:=cT tl 3
end qh
end
section
namespace Yi
def _k(e:Int×Int)(x:Int):Option Int:=if e.1=x then some e.2 else if e.2=x then some e.1 else none
def Within(R:Int)(E:List (Int×Int)):Prop:=∀e∈E,0<=e.1/\e.1<=R/\0<=e.2/\e.2<=R
noncomputable def inner(h:Int):List (Int×Int)->List Int->List Int->List Int×List Int
| [],r,w=>(r,w)
|e::es,r,w=>match _k e h with
  |some t=>if t∈r then inner h es r w else inner h es (r++[t]) (w++[t])
  |none=>inner h es r w
end Yi
end
section
namespace qh
open PySem D
abbrev Op:=Int×Int×Option Str
def free(ns:List Str)(o:Op):Bool:=match o.2.2 with
|none=>true
|some x=>decide (x∈ns)
def kF:Option Int->T
|some t=>.int t
|none=>.none
def nB(a b:Int):oEq (.int a) (.int b)=some (.bool (decide (a=b))):=by
 simp[oEq,vq,jn,Bool.beq_eq_decide_eq]
def gv{a b:bc}{ε ε':Ev}(h:a ε=some (.bP ε')):seq a b ε=b ε':=by
 simp only[seq,h,cv]
def dw(r:List Int):List (Key×T):=r.map λx=>(Sum.inl x,.bool true)
end qh
end
section
namespace qh
open PySem D
end qh
end
section
namespace qh
open PySem D
def eH(ns:List Int):T:=.list (ns.map .int)
def Nr(ns:List Int)(k:Nat):l_ [eH ns,.int k]=some (.int (ns.getD k 0)):=by
 by_cases h:k<ns.length
 ·have h':(k:Int)<(ns.length:Int):=by omega
  simp[l_,ta,eH,cT,seq,iff,bB,ih,f_,eM,fU,dy,ofT,dm,ag,aX,args,aa,nm,aJ,bO,skip,asg,ku,kv,par,b6,gD,hg,iI,aW,e9,fS,bH,eA,gr,eO,comp,iF,cD,oi,du,oDiv,oMod,mH,fo,AX,sz,e6,DI,AW,oLt,oLe,ia,lb,big,h,h',List.getD]
 ·have h':¬(k:Int)<(ns.length:Int):=by omega
  simp[l_,ta,eH,cT,seq,iff,bB,ih,f_,eM,fU,dy,ofT,dm,ag,aX,args,aa,nm,aJ,bO,skip,asg,ku,kv,par,b6,gD,hg,iI,aW,e9,fS,bH,eA,gr,eO,comp,iF,cD,oi,du,oDiv,oMod,mH,fo,AX,sz,e6,DI,AW,oLt,oLe,ia,lb,big,h,h',List.getD]
def j7{i j:Int}(h:-(2 ^ 64)<j/\j<2 ^ 64):du (.int i) (.int j)=some (.int (i*j)):=by
 unfold du vR;simp only[decide_eq_true h.1,decide_eq_true h.2,Bool.and_self,Bool.or_true,if_true]
def oN{i j:Int}(h:0<j):oMod (.int i) (.int j)=some (.int (i % j)):=if_pos h
def V9{i j:Int}(h:0<j/\j<1073741824):oDiv (.int i) (.int j)=some (.int (i / j)):=if_pos h
def jR{i j:Int}:cD (.int i) (.int j)=some (.int (i+j)):=rfl
def C_(ns:List Int)(k:Nat):∃m:Int,0<=m/\ly [eH ns,.int k]=some (.int m):=by
 have ax:=Nr ns k;have hd:0<=(ns.getD k 0+7919*(k:Int)+1)*48271 % 2147483647/\(ns.getD k 0+7919*(k:Int)+1)*48271 % 2147483647<2147483647:=⟨asK _ (by decide),sR _ (by decide)⟩;generalize hx:(ns.getD k 0+7919*(k:Int)+1)*48271 % 2147483647=d at hd;refine⟨(d*d+7*d+k) % 2147483629,asK _ (by decide),?_⟩;have de:ly [eH ns,.int k]=(tj [some (.ae (eH ns)),some (.ae (.int k)),none]).bind λo=>match o with|.d9 t=>some t|.bP _=>some .none|_=>none:=rfl
 have iV:du (.int 7919) (.int k)=some (.int (7919*k)):=by
  unfold du vR;simp
 have lU:aJ 0 [some (.ae (eH ns)),some (.ae (.int k)),none]=some (eH ns):=rfl;have fT:aJ 1 [some (.ae (eH ns)),some (.ae (.int k)),none]=some (.int k):=rfl;have Kb:nm 1 [some (.ae (eH ns)),some (.ae (.int k)),none]=some (.int k):=rfl;have s1:asg 2 (ag oMod (ag du (ag cD (ag cD (aX l_ [(aJ 0),(aJ 1)]) (ag du (aa (.int 7919)) (nm 1))) (aa (.int 1))) (aa (.int 48271))) (aa (.int 2147483647))) [some (.ae (eH ns)),some (.ae (.int k)),none]=some (.bP [some (.ae (eH ns)),some (.ae (.int k)),some (.ae (.int d))]):=by
  simp only[asg,ag,aX,args,lU,fT,Kb,cv,et,ax,aa,iV,jR,j7 (i:=ns.getD k 0+7919*(k:Int)+1) (j:=48271) (by decide),oN (j:=2147483647) (by decide),hx];rfl
 have mD:du (.int d) (.int d)=some (.int (d*d)):=j7 (by omega);have qJ:du (.int 7) (.int d)=some (.int (7*d)):=j7 (by omega);rw[de];unfold tj;rw[gv s1];have a7:nm 2 [some (.ae (eH ns)),some (.ae (.int k)),some (.ae (.int d))]=some (.int d):=rfl;have aQ:nm 1 [some (.ae (eH ns)),some (.ae (.int k)),some (.ae (.int d))]=some (.int k):=rfl;simp only[bO,ag,a7,aQ,cv,et,aa,mD,qJ,jR,oN (j:=2147483629) (by decide)]
def yn(n k:Int)(aR:-(2 ^ 64)<k/\k<2 ^ 64):∃m:Int,0<=m/\jr [.int n,.int k]=some (.int m):=by
 have hd:0<=(n+104729*k+17)*69621 % 2147483647/\(n+104729*k+17)*69621 % 2147483647<2147483647:=⟨asK _ (by decide),sR _ (by decide)⟩;generalize hx:(n+104729*k+17)*69621 % 2147483647=d at hd;refine⟨(d*d+3*d+k) % 2147483629,asK _ (by decide),?_⟩;have de:jr [.int n,.int k]=(tl [some (.ae (.int n)),some (.ae (.int k)),none]).bind λo=>match o with|.d9 t=>some t|.bP _=>some .none|_=>none:=rfl
 have iV:du (.int 104729) (.int k)=some (.int (104729*k)):=j7 aR;have lU:nm 0 [some (.ae (.int n)),some (.ae (.int k)),none]=some (.int n):=rfl;have fT:nm 1 [some (.ae (.int n)),some (.ae (.int k)),none]=some (.int k):=rfl;have s1:asg 2 (ag oMod (ag du (ag cD (ag cD (nm 0) (ag du (aa (.int 104729)) (nm 1))) (aa (.int 17))) (aa (.int 69621))) (aa (.int 2147483647))) [some (.ae (.int n)),some (.ae (.int k)),none]=some (.bP [some (.ae (.int n)),some (.ae (.int k)),some (.ae (.int d))]):=by
  simp only[asg,ag,lU,fT,cv,et,aa,iV,jR,j7 (i:=n+104729*k+17) (j:=69621) (by decide),oN (j:=2147483647) (by decide),hx];rfl
 have mD:du (.int d) (.int d)=some (.int (d*d)):=j7 (by omega);have qJ:du (.int 3) (.int d)=some (.int (3*d)):=j7 (by omega);rw[de];unfold tl;rw[gv s1];have a7:nm 2 [some (.ae (.int n)),some (.ae (.int k)),some (.ae (.int d))]=some (.int d):=rfl;have aQ:nm 1 [some (.ae (.int n)),some (.ae (.int k)),some (.ae (.int d))]=some (.int k):=rfl;simp only[bO,ag,a7,aQ,cv,et,aa,mD,qJ,jR,oN (j:=2147483629) (by decide)]
def names5:List Str:=["a","b","back","hall","win"]
def Yo(R:Int)(o:Op):Prop:=0<=o.1/\o.1<o.2.1/\o.2.1<=R/\∀x,o.2.2=some x->x∈names5
structure Drawn(R:Int)(os:List Op):Prop where
 a6:1<=R
 uD:R<=7
 len:os.length<=10
 ok:∀o∈os,Yo R o
end qh
end
section
namespace c1
open D bI PySem
def iy(av:List Str):List Nat:=gN 32 (av.map ls)++[10]
def mO(rs:List (List Str)):List Nat:=(rs.map iy).flatten
def asG(rs:List (List Str)):Str:=st (mO rs)
def partsOf(t:T):List Str:=match t with
|.tuple ts=>ts.map Bo
|.list ts=>ts.map Bo
|_=>[]
def yV(t:T):Prop:=t=.tuple ((partsOf t).map .str)\/t=.list ((partsOf t).map .str)
theorem MR:∀ss:List Str,strsOf (ss.map .str)=some ss
| []=>rfl
|s::ss=>by simp[strsOf,MR ss]
theorem V2(c:Nat):∀av:List (List Nat),(av.map List.length).sum+av.length<=(gN c av).length+1
| []=>by simp[gN]
| [p]=>by simp[gN]
|p::q::r=>by
  have:=V2 c (q::r);simp only[gN,jo,d_,c9,List.sum_cons] at this ⊢;omega
def apv{av:List Str}(h:(iy av).length<=big):JoinOk ⟨#[32]⟩ av=true:=by
 unfold JoinOk;rw[StrLaws.joinTotal];have af:=V2 32 (av.map ls);have ai:(iy av).length=(gN 32 (av.map ls)).length+1:=by simp[iy]
 have bE:(List.map (λx=>Str.length x) av).sum=((av.map ls).map List.length).sum:=by
  rw[gB];exact congrArg List.sum (List.map_congr_left λx _=>iE x)
 rw[bE];rw[eT] at af;unfold Builtin.Str.tooLong;have asr:b8=big:=by rw[mT];rfl
 have:¬(((av.map ls).map List.length).sum+av.length*(⟨#[32]⟩:Str).length > b8):=by
  show ¬(((av.map ls).map List.length).sum+av.length*1 > b8)
  omega
 rw[decide_eq_false this];rfl
def ZK{t:T}{r:Ev}(h:yV t)(aB:(iy (partsOf t)).length<=big):ag cD (ag nT (aa (.str " ")) (nm 0)) (aa (.str "\n")) (some (.ae t)::r)=some (.str (st (iy (partsOf t)))):=by
 have aG:ag nT (aa (.str " ")) (nm 0) (some (.ae t)::r)=some (.str (st (gN 32 ((partsOf t).map ls)))):=by
  rw[d4 (t:=.str ⟨#[32]⟩) (u:=t) rfl rfl];have key:(strsOf ((partsOf t).map .str)).bind (λss=>if JoinOk ⟨#[32]⟩ ss=true then some (kg (Txt.join ⟨#[32]⟩ ss)) else none)=some (.str (st (gN 32 ((partsOf t).map ls)))):=by
   rw[MR];simp only[cv];rw[if_pos (apv aB),Ul,<- Nj,vL]
  rcases h with h|h
  ·rw[h] at key ⊢;simp only[nT];rw[<- h];rw[<- h] at key;exact key
  ·rw[h] at key ⊢;simp only[nT];rw[<- h];rw[<- h] at key;exact key
 rw[d4 (u:=.str ⟨#[10]⟩) aG rfl];simp only[cD];have aS:(st (gN 32 ((partsOf t).map ls))).length+(⟨#[10]⟩:Str).length=(iy (partsOf t)).length:=by
  rw[iE,tQ];simp[iy,Str.length]
 rw[if_pos (by rw[aS];exact aB)];rw[show st (gN 32 ((partsOf t).map ls))++(⟨#[10]⟩:Str)=st (iy (partsOf t)) from NP (by rw[mX];rfl)]
def anO{mJ:List T}{B:Nat}(h:∀t∈mJ,yV t)(qw:∀t∈mJ,(iy (partsOf t)).length<=B)(ab:mJ.length*B<=16777216)(aB:mJ.length<=1000000)(ar3:B<=16777216):ye [.list mJ]=some (.str (asG (mJ.map partsOf))):=by
 refine nQ ?_
 have aG:comp 1 [] (gd (aJ 0)) (bH 0) (dy true) (ag cD (ag nT (aa (.str " ")) (nm 0)) (aa (.str "\n"))) [some (.ae (.list mJ))]=some (.list ((mJ.map λt=>st (iy (partsOf t))).map .str)):=by
  rw[gB];refine asX (f:=kg ∘ λt=>st (iy (partsOf t))) (ts:=mJ) rfl (by unfold big;omega) λt aZ=>?_;exact ZK (h t aZ) (by have:=qw t aZ;unfold big;omega)
 show ag nT _ _ [some (.ae (.list mJ))]=_
 rw[d4 (t:=.str ⟨#[]⟩) rfl aG];simp only[nT,MR,cv];rw[if_pos (arh (B:=B) (λy bw=>by
  obtain⟨t,aZ,rfl⟩:=cN.mp bw;rw[iE,tQ];exact qw t aZ) (by rw[eT];simp[Str.length];omega))]
 rw[Ul];have:ls (Str.join ⟨#[]⟩ (mJ.map λt=>st (iy (partsOf t))))=mO (mJ.map partsOf):=by
  rw[UH,mO,gB,gB];rfl
 rw[asG,<- this,vL]
def ME(av:List Str):yV (.tuple (av.map .str))/\partsOf (.tuple (av.map .str))=av:=by
 have e:partsOf (.tuple (av.map .str))=av:=by
  simp only[partsOf,gB]
  conv=>rhs;rw[<- List.map_id av]
  rfl
 exact⟨.inl (by rw[e]),e⟩
def TP(av:List Str):yV (.list (av.map .str))/\partsOf (.list (av.map .str))=av:=by
 have e:partsOf (.list (av.map .str))=av:=by
  simp only[partsOf,gB]
  conv=>rhs;rw[<- List.map_id av]
  rfl
 exact⟨.inr (by rw[e]),e⟩
def _h:asv<=asv ^ 1000:=by
 have h:(1:Int)<=asv ^ 999:=by
  exact (Int.pow_pos Nz:0<asv ^ 999)
 have e:asv ^ 1000=asv ^ 999*asv:=Int.pow_succ ..;rw[e];have aF:=Nz;generalize asv ^ 999=q at *;generalize asv=w at *
 calc w=1*w:=by omega
  _<=q*w:=Int.mul_le_mul_of_nonneg_right h (by omega)
theorem OE(c B:Nat):∀av:List (List Nat),(∀p∈av,p.length<=B)->(gN c av).length<=av.length*(B+1)
| [],_=>by simp[gN]
| [p],h=>by
  have:=h p (by simp);simp[gN];omega
|p::q::r,h=>by
  have af:=OE c B (q::r) λx hx=>h x (di _ hx);have ai:=h p (by simp);simp only[gN,jo,d_] at af ⊢;have e:(r.length+1+1)*(B+1)=(r.length+1)*(B+1)+(B+1):=by rw[Nat.add_mul,Nat.one_mul]
  omega
def aqE{av:List Str}{n B:Nat}(a9:av.length<=n)(h:∀p∈av,p.length<=B):(iy av).length<=n*(B+1)+1:=by
 have af:=OE 32 B (av.map ls) λp aF=>by
  obtain⟨x,hx,rfl⟩:=cN.mp aF;rw[<- iE];exact h x hx
 rw[eT] at af;have ai:av.length*(B+1)<=n*(B+1):=Nat.mul_le_mul_right _ a9;simp only[iy,jo,List.length_singleton];omega
end c1
end
section
namespace c1
open D bI PySem
structure Ow(o:qh.Op):Prop where
 a:0<=o.1/\o.1<1000000000
 b:0<=o.2.1/\o.2.1<1000000000
 z:∀x,o.2.2=some x->x.length<=100/\asc (ls x)
def ef:cE->List Str
|.line z w=>["line",z,w]
|.code f d none=>["code",f,d]
|.code f d (some z)=>["code",f,d,z]
|.dJ n=>["ticks",e5 n]
structure qf(B:Nat)(e:cE):Prop where
 s:∀x∈ef e,asc (ls x)/\x.length<=900000
 n:∀n,e=.dJ n->0<=n/\n<asv ^ 1000
 l:(iy (ef e)).length<=B
def Z3:jv "ticks" (.str "line")=false:=by decide +kernel
def Z4:jv "code" (.str "line")=false:=by decide +kernel
def Z5:jv "ticks" (.str "code")=false:=by decide +kernel
def OI:jv "ticks" (.str "ticks")=true:=by decide +kernel
def OJ:jv "code" (.str "code")=true:=by decide +kernel
def abQ{α:Type}(a b c:α)(r:List α):gS (a::b::c::r) none (some 3)=[a,b,c]:=by
 unfold gS;have aG:D.cu (a::b::c::r).length 0 none=0:=rfl;have aS:D.cu (a::b::c::r).length (a::b::c::r).length (some 3)=3:=by simp[D.cu];omega
 rw[aG,aS];rfl
def R'{B:Nat}{e:cE}(h:qf B e):q8 [bS e]=some (.tuple ((ef e).map .str)):=by
 unfold q8 cT Si;show (seq _ _ [some (.ae (bS e))]).bind _=_;cases e with
|line z w=>
  have de:ag aW (nm 0) (aa (.int 0)) [some (.ae (bS (.line z w)))]=some (.str "line"):=by rw[d4 rfl rfl];exact pG
  rw[lA (asA (pj de (p8 (d:=0) DB (by decide)) ri)),Z3,if_neg (by simp)];have nf:f_ (bB (ag oEq (ag aW (nm 0) (aa (.int 0))) (aa (.str "code")))) (bB (dm hg (ag aW (nm 0) (aa (.int 3))))) [some (.ae (bS (.line z w)))]=some (false && false):=
   NZ (by rw[asA (pj de (p8 (d:=0) DB (by decide)) rp),Z4]) λq=>by cases q
  rw[lA nf,if_neg (by simp)];rfl
|dJ n=>
  have de:ag aW (nm 0) (aa (.int 0)) [some (.ae (bS (.dJ n)))]=some (.str "ticks"):=by rw[d4 rfl rfl];exact pG
  have aG:ag aW (nm 0) (aa (.int 1)) [some (.ae (bS (.dJ n)))]=some (.int n):=by rw[d4 rfl rfl];exact wW
  rw[lA (asA (pj de (p8 (d:=0) ri (by decide)) ri)),OI,if_pos rfl];rw[p5 (t:=.tuple [.str "ticks",.str (e5 n)]) (by
   obtain⟨lU,fT⟩:=h.n n rfl;simp only[b6,args,aX,aG,aa,cv,et,Y1 lU fT];rfl)]
  rfl
|code f d z=>
  have de:ag aW (nm 0) (aa (.int 0)) [some (.ae (bS (.code f d z)))]=some (.str "code"):=by rw[d4 rfl rfl];exact pG
  have d5:ag aW (nm 0) (aa (.int 3)) [some (.ae (bS (.code f d z)))]=some (eQ z):=by rw[d4 rfl rfl];exact QX
  rw[lA (asA (pj de (p8 (d:=0) rp (by decide)) ri)),Z5,if_neg (by simp)];rw[lA (NZ (by rw[asA (pj de (p8 (d:=0) rp (by decide)) rp)]) λ_=>asA (OF d5)),OJ,Bool.true_and];cases z with
  |none=>
   rw[if_pos (by rfl),p5 (t:=.tuple [.str "code",.str f,.str d]) (by
    show oK _ _ _ _=_
    simp only[oK,nm,opt,optN,aa,iC,cv,bS,w9,qL,abQ])]
   rfl
  |some x=>
   rw[if_neg (by simp[eQ,N6])];rfl
def Rr{es:List cE}{B:Nat}(h:∀e∈es,qf B e)(ab:es.length*B<=16777216)(aB:es.length<=1000000)(qw:B<=16777216):qp [.tuple (es.map bS)]=some (.str (asG (es.map ef))):=by
 refine nQ ?_
 have d5:comp 1 [] (gd (aJ 0)) (bH 0) (dy true) (aX q8 [(aJ 0)]) [some (.ae (.tuple (es.map bS)))]=some (.list ((es.map ef).map λav=>.tuple (av.map .str))):=by
  rw[asX (f:=λt=>(q8 [t]).getD .none) (ts:=es.map bS) rfl (by rw[eT];unfold big;omega) λt aZ=>by
   obtain⟨o,aH,rfl⟩:=cN.mp aZ;rw[gZ (t:=bS o) rfl,R' (h o aH)];rfl]
  rw[gB,gB];congr 2;refine List.map_congr_left λo aH=>?_;show (q8 [bS o]).getD .none=_;rw[R' (h o aH)];rfl
 show aX ye [_] [some (.ae (.tuple (es.map bS)))]=_
 rw[gZ d5];have n':∀t∈((es.map ef).map λav=>PyData.tuple (av.map .str)),yV t/\(iy (partsOf t)).length<=B:=by
  intro t aZ;obtain⟨av,kE,rfl⟩:=cN.mp aZ;obtain⟨e,he,rfl⟩:=cN.mp kE;exact⟨(ME _).1,by rw[(ME _).2];exact (h e he).l⟩
 rw[anO (B:=B) (λt aZ=>(n' t aZ).1) (λt aZ=>(n' t aZ).2) (by simpa using ab) (by simpa using aB) qw];have k7:((es.map ef).map λav=>PyData.tuple (av.map .str)).map partsOf=es.map ef:=by
  rw[gB]
  conv=>rhs;rw[<- List.map_id (es.map ef)]
  exact List.map_congr_left λav _=>(ME av).2
 rw[k7]
end c1
end
section
namespace c1
open D bI PySem
def iG(x:Str):List (List Str):=(e4 10 (ls x)).dropLast.map λl=>(e4 32 l).map st
def _d{α:Type}(l:List α):gS l none (some (-1))=l.dropLast:=by
 unfold gS;have aG:D.cu l.length 0 none=0:=rfl;have aS:D.cu l.length l.length (some (-1))=l.length - 1:=by simp[D.cu];omega
 rw[aG,aS,List.drop_zero,Nat.sub_zero,List.dropLast_eq_take]
def UY{f:bl}{ε:Ev}{x:Str}{c:Nat}{y:Str}(bw:y=⟨#[c]⟩)(hf:f ε=some (.str x))(aB:x.length+2<=big):ag vD f (aa (.str y)) ε=some (.list (((e4 c (ls x)).map st).map .str)):=by
 subst bw;rw[d4 hf rfl];simp only[vD];rw[if_pos ⟨rfl,aB⟩,apl]
def aqC{x:Str}(aB:x.length<=1000000):q' [.str x]=some (.list ((iG x).map λav=>.list (av.map .str))):=by
 refine nQ ?_
 have aG:=UY (f:=nm 0) (ε:=[some (.ae (.str x))]) (x:=x) (c:=10) (y:="\n") (by decide +kernel) rfl (by unfold big;omega);show comp 1 [] _ _ _ _ [some (.ae (.str x))]=_;rw[asX (f:=λt=>.list (((e4 32 (ls (Bo t))).map st).map .str)) (ts:=((e4 10 (ls x)).dropLast.map st).map .str) (by
  simp only[gd,oK,aG,opt,optN,dm,mH,aa,cv,w9,qL,_d,List.map_dropLast]) (by
   have:=CN (c:=10) (ls x);rw[<- iE] at this;simp;unfold big;omega) λt aZ=>by
  obtain⟨s,asr,rfl⟩:=cN.mp aZ;obtain⟨l,uu,rfl⟩:=cN.mp asr;have af:=vk ((List.dropLast_sublist _).subset uu);rw[<- iE] at af;exact UY (f:=nm 0) (ε:=[some (.ae (.str (st l)))]) (x:=st l) (c:=32) (y:=" ") (by decide +kernel) rfl (by rw[iE,tQ];unfold big;omega)]
 rw[gB,iG,gB,gB];rfl
def apu{x:Str}(hx:asc (ls x)){av:List Str}(h:av∈iG x):av≠[]/\av.length<=x.length+1/\∀p∈av,asc (ls p)/\p.length<=x.length/\32∉ls p/\10∉ls p:=by
 obtain⟨l,aB,rfl⟩:=cN.mp h;have hm:=(List.dropLast_sublist _).subset aB;have af:=vk hm;rw[<- iE] at af;refine⟨λe=>arM 32 l (List.map_eq_nil_iff.mp e),?_,λp aF=>?_⟩
 ·rw[eT];have:=CN (c:=32) l;omega
 ·obtain⟨q,bg,rfl⟩:=cN.mp aF;have ai:=vk bg;rw[iE,tQ];exact⟨λa au=>hx a (vj hm a (vj bg a au)),by omega,yA bg,λz=>yA hm (vj bg _ z)⟩
def Uv(x:Str):(iG x).length<=x.length:=by
 have:=CN (c:=10) (ls x);rw[<- iE] at this;simp[iG];omega
def qq(p:Str):Bool:=decide (1<=p.length) && (ls p).all λc=>decide (48<=c) && decide (c<=57)
def mG(p:Str):T:=if qq p=true then .int (hv (ls p):Nat) else .none
def aqb{p:Str}(h:qq p=true):dig (ls p)/\1<=p.length:=by
 rw[qq,fi,List.all_eq_true] at h;exact⟨λc ax=>by
  have:=h.2 c ax;rw[fi,decide_eq_true_eq,decide_eq_true_eq] at this;exact this,of_decide_eq_true h.1⟩
def rW:bc:=asg 1 (ag oi (ag cD (ag du (nm 1) (aa (.int 10))) (aX pI [(nm 2)])) (aX pI [(aa (.str "0"))]))
def apO(a:Int)(c:Nat)(s0:Option aI):rW [s0,some (.ae (.int a)),some (.ae (fw c))]=some (.bP [s0,some (.ae (.int (a*10+c - 48))),some (.ae (fw c))]):=by
 unfold rW asg;have aG:ag du (nm 1) (aa (.int 10)) [s0,some (.ae (.int a)),some (.ae (fw c))]=some (.int (a*10)):=by
  rw[d4 (t:=.int a) rfl rfl];exact bI.j7 (i:=a) (j:=10) ⟨by decide +kernel,by decide +kernel⟩
 have aS:aX pI [(nm 2)] [s0,some (.ae (.int a)),some (.ae (fw c))]=some (.int (c:Nat)):=by
  rw[gZ (t:=fw c) rfl];rfl
 have d5:ag cD (ag du (nm 1) (aa (.int 10))) (aX pI [(nm 2)]) [s0,some (.ae (.int a)),some (.ae (fw c))]=some (.int (a*10+c)):=by
  rw[d4 aG aS];rfl
 have gU:aX pI [(aa (.str "0"))] [s0,some (.ae (.int a)),some (.ae (fw c))]=some (.int 48):=by
  rw[gZ (t:=fw 48) rfl];rfl
 rw[d4 d5 gU];rfl
def apP(a c:Nat)(h:48<=c):((a:Int)*10+c - 48)=((a*10+(c - 48):Nat):Int):=by omega
def DD(acc c:Nat):Nat:=acc*10+(c - 48)
def aq_(a c:Nat)(l:List T)(s0 s2:Option aI)(h:48<=c):forL (bH 2) rW (fw c::l) [s0,some (.ae (.int (a:Int))),s2]=forL (bH 2) rW l [s0,some (.ae (.int ((DD a c:Nat):Int))),some (.ae (fw c))]:=by
 have aG:((a:Int)*10+(c:Int) - 48)=((DD a c:Nat):Int):=apP a c h;have aS:=apO (a:Int) c s0;rw[aG] at aS;rw[forL,show bH 2 (fw c) [s0,some (.ae (.int (a:Int))),s2]=some [s0,some (.ae (.int (a:Int))),some (.ae (fw c))] from rfl,cv,aS,cv]
theorem U_:∀(l:List Nat) (a:Nat) (s0 s2:Option aI),dig l->∃iZ,forL (bH 2) rW (l.map fw) [s0,some (.ae (.int (a:Int))),s2]=some (.bP [s0,some (.ae (.int ((l.foldl DD a:Nat):Int))),iZ])
| [],a,s0,s2,_=>⟨s2,rfl⟩
|c::l,a,s0,s2,h=>by
  have ax:=h c (by simp);obtain⟨iZ,e⟩:=U_ l (DD a c) s0 (some (.ae (fw c))) λx hx=>h x (di _ hx);refine⟨iZ,?_⟩;rw[c9,aq_ a c _ s0 s2 ax.1,List.foldl_cons];exact e
def aoF{p:Str}(aF:asc (ls p))(aB:p.length<=900000):xX [.str p]=some (mG p):=by
 unfold xX cT SV;show (seq _ _ [some (.ae (.str p)),none,none]).bind _=_;have bf:gV (.str p)=true:=(p8 (d:=0) aF (by omega)).g;have aG:aX p1 [(aJ 0),(aa (.int 1)),(aX fo [(nm 0)]),(aa (.str "0")),(aa (.str "9"))] [some (.ae (.str p)),none,none]=some (.bool (qq p)):=by
  have de:aX fo [(nm 0)] [some (.ae (.str p)),none,none]=some (.int p.length):=by
   rw[gZ (t:=.str p) rfl];simp only[fo];rw[if_pos (by unfold big;omega)]
  simp only[aX,args] at de ⊢;simp only[aJ,aa,iC,cv,et];simp only[nm,iC,cv,et] at de ⊢;rw[de];simp only[cv,et];have:=UW (t:=.str p) (lo:=1) (hi:=p.length) (a:=48) (b:=57) bf;rw[show ([.str p,.int 1,.int p.length,.str "0",.str "9"]:List T)=[.str p,.int 1,.int p.length,fw 48,fw 57] from rfl,this];simp only[rr,qq];rw[decide_eq_true (show (p.length:Int)<=p.length by omega),Bool.and_true];congr 3;congr 1;apply propext;omega
 rw[lA (rn (asA aG))];unfold mG;cases hd:qq p with
|false=>
  rw[if_pos (by rfl),p5 (t:=.none) rfl,if_neg (by simp)];rfl
|true=>
  rw[if_neg (by simp),if_pos rfl];obtain⟨af,ai⟩:=aqb hd;rw[bI.gv (ε':=[some (.ae (.str p)),some (.ae (.int 0)),none]) rfl];obtain⟨iZ,aS⟩:=U_ (ls p) 0 (some (.ae (.str p))) none af;have d5:fb (gd (aJ 0)) (bH 2) rW [some (.ae (.str p)),some (.ae (.int 0)),none]=some (.bP [some (.ae (.str p)),some (.ae (.int (hv (ls p):Nat))),iZ]):=by
   unfold fb;rw[show gd (aJ 0) [some (.ae (.str p)),some (.ae (.int 0)),none]=some ((ls p).map fw) by
    simp only[gd,aJ,iC,cv];rw[if_pos ((Mw p).mpr aF)];rfl]
   exact aS
  show (seq (fb (gd (aJ 0)) (bH 2) rW) (bO (nm 1)) _).bind _=_
  rw[bI.gv d5];rfl
def an0{av:List Str}(h:∀p∈av,asc (ls p)/\p.length<=900000)(aB:av.length<=1000000):Cd [.list (av.map .str)]=some (.tuple (av.map mG)):=by
 refine nQ ?_
 rw[gZ (t:=.list (av.map mG)) (by
  rw[asX (f:=λt=>mG (Bo t)) (ts:=av.map .str) rfl (by rw[eT];unfold big;omega) λt aZ=>by
   obtain⟨p,aF,rfl⟩:=cN.mp aZ;rw[gZ (t:=.str p) rfl];exact aoF (h p aF).1 (h p aF).2]
  rw[gB];rfl)]
 rfl
def aqr{f:bl}{ε:Ev}{ts:List T}{lo hi:Ev->Option (Option Int)}{a b:Option Int}(hf:f ε=some (.list ts))(af:lo ε=some a)(ai:hi ε=some b):oK f lo hi ε=some (.list (gS ts a b)):=by
 simp only[oK,hf,af,ai,cv,w9,qL]
structure fO(av:List Str):Prop where
 ne:av≠[]
 l:av.length<=900000
 p:∀p∈av,asc (ls p)/\p.length<=900000
def aqA{x:Str}(hx:asc (ls x))(aB:x.length<=800000):∀av∈iG x,fO av:=λav h=>by
 obtain⟨af,ai,bE⟩:=apu hx h;exact⟨af,by omega,λp aF=>⟨(bE p aF).1,by have:=(bE p aF).2.1;omega⟩⟩
def Wh(rs:List (List Str)):T:=.list (rs.map λav=>.list (av.map .str))
noncomputable def iq(av:List Str):T:=match av with
| []=>.none
|a::r=>if a="ticks" then .tuple (.str "ticks"::r.map mG) else if a="code"/\r.length=2 then .tuple ((a::r).map .str++[.none]) else .tuple ((a::r).map .str)
def aeA{a:T}{r:List T}:aW (.list (a::r)) (.int 0)=some a:=by
 simp only[aW,e9,fS];rw[if_pos (by decide),if_pos (by simp only[d_];omega)];rfl
def amT{av:List Str}(h:fO av):q_ [.list (av.map .str)]=some (iq av):=by
 unfold q_ cT Sw;show (seq _ _ [some (.ae (.list (av.map .str)))]).bind _=_;cases av with
|nil=>exact absurd rfl h.ne
|cons a r=>
  have aB:=h.l;rw[d_] at aB;have au:=h.p a (by simp);have de:ag aW (nm 0) (aa (.int 0)) [some (.ae (.list ((a::r).map .str)))]=some (.str a):=by
   rw[d4 (t:=.list ((a::r).map .str)) rfl rfl];exact aeA
  have bf:fM 0 (.str a):=p8 au.1 (by omega);rw[lA (asA (pj de bf ri))];unfold iq;by_cases af:a="ticks"
  ·rw[show jv "ticks" (.str a)=true from decide_eq_true af,if_pos rfl];dsimp only;rw[if_pos af];rw[p5 (t:=.tuple (.str "ticks"::r.map mG)) (by
    rw[d4 (t:=.tuple [.str "ticks"]) (u:=.tuple (r.map mG)) rfl (by
     rw[gZ (t:=.list (r.map .str)) (by rw[aqr (ts:=(a::r).map .str) (a:=some 1) (b:=none) rfl rfl rfl,abP];rfl)];exact an0 (λp aF=>h.p p (di _ aF)) (by omega))]
    simp only[cD];rw[if_pos (by simp;unfold big;omega)];rfl)]
   rfl
  ·rw[show jv "ticks" (.str a)=false from decide_eq_false af,if_neg (by simp)];dsimp only;rw[if_neg af];have ac4:ag oEq (aX fo [(nm 0)]) (aa (.int 3)) [some (.ae (.list ((a::r).map .str)))]=some (.bool (decide (r.length=2))):=by
    rw[d4 (t:=.int ((a::r).map kg).length) (u:=.int 3) (by rw[gZ (t:=.list ((a::r).map .str)) rfl];rfl) rfl,bI.nB];congr 3;apply propext;simp;omega
   rw[lA (NZ (asA (pj de bf rp)) λ_=>asA ac4)];by_cases ai:a="code"/\r.length=2
   ·rw[if_pos (by
     rw[fi];exact⟨decide_eq_true ai.1,decide_eq_true ai.2⟩),if_pos ai]
    rw[p5 (t:=.tuple ((a::r).map .str++[.none])) (by
     rw[d4 (t:=.tuple ((a::r).map .str)) (u:=.tuple [.none]) (by rw[gZ (t:=.list ((a::r).map .str)) rfl];rfl) rfl];simp only[cD];rw[if_pos (by simp;unfold big;omega)])]
    rfl
   ·rw[if_neg (by
     rw[fi];exact λq=>ai ⟨of_decide_eq_true q.1,of_decide_eq_true q.2⟩),if_neg ai]
    simp only[bO];rw[gZ (t:=.list ((a::r).map .str)) rfl];rfl
end c1
end
section
namespace c1
open D bI PySem
def M0{x:Str}(h:rx (.str x)=true):1<=x.length/\x.length<=4/\∀c∈ls x,97<=c/\c<=122:=by
 simp only[rx,rr,fi,decide_eq_true_eq,List.all_eq_true] at h;exact⟨by omega,by omega,h.2⟩
def Nq{x:Str}(h:mv (.str x)=true):x.length=4/\∀c∈ls x,48<=c/\c<=57:=by
 simp only[mv,rr,fi,decide_eq_true_eq,List.all_eq_true] at h;exact⟨by omega,h.2⟩
def apU{x:Str}(h:rx (.str x)=true):asc (ls x):=λa au=>by
 have:=(M0 h).2.2 a au;omega
def art{x:Str}(h:mv (.str x)=true):asc (ls x):=λa au=>by
 have:=(Nq h).2 a au;omega
def NQ{l:List Str}{x:Str}(n:Nat)(h:(l.all λs=>decide (s.length<=n))=true)(hx:x∈l):x.length<=n:=of_decide_eq_true (List.all_eq_true.mp h x hx)
structure Pv(p:aV):Prop where
 kU:1<=p.cz.length
 z8:p.cz.length<=8
 zs:∀z∈p.cz,rx (.str z.1)=true/\z.2∈V1
 zr:vz (p.cz.map (·.1))=true
 c6:1<=p.codes.length
 ze:p.codes.length<=6
 cs:∀k∈p.codes,mv (.str k.fa)=true/\rx (.str k.i8)=true/\k.kI.length<=3/\(∀r∈k.kI,r∈vn)/\vz k.kI=true/\0<=k.uses/\k.uses<=9
 cr:vz (p.codes.map (·.fa))=true
 t1:0<=p.leave/\p.leave<=60
 i3:0<=p.m_/\p.m_<=60
 t3:1<=p.loud/\p.loud<=300
def Zo{rs:List (List Str)}(h:∀av∈rs,∀q∈av,asc (ls q)):asc (mO rs):=aqm λp aF=>by
 obtain⟨av,kE,rfl⟩:=cN.mp aF;refine Vq (Wb (by decide) λq bg=>?_) λa au=>?_
 ·obtain⟨x,hx,rfl⟩:=cN.mp bg;exact h av kE x hx
 ·simp at au;omega
def apf{a:Int}(h:0<=a):asc (ls (e5 a)):=aru (vf h)
def ne_str{a b:Str}(au:asc (ls a))(ab:asc (ls b)):fV (.str a) (.str b)=some (.bool !(decide (a=b))):=by
 have h:∀s:Str,asc (ls s)->ff (.str s)=true:=λs asr=>bI.okN.ff (d:=0) ⟨by rw[PyData.canLay0];exact yi asr,by rw[jq];omega⟩;simp only[fV,h a au,h b ab,Bool.and_self,if_true,M8];rfl
def aqt{b:bc}{r:vZ}{ε ε':Ev}(h:b ε=some (.bP ε')):K8 b r ε=r ε':=by simp only[K8,h]
def hd(s:Str)(av:List Str):Bool:=decide (av.head?=some s)
def Zc{d:Nat}(p:Str):fM d (mG p):=by
 unfold mG;split
 ·exact Zd
 ·exact V7
def Vf{d:Nat}{p:Str}(h:asc (ls p)/\p.length<=900000):fM d (.str p):=p8 h.1 (by omega)
def aqB{rs:List (List Str)}{f:bl}{ε:Ev}(h:f ε=some (Wh rs)):gd f ε=some (rs.map λav=>.list (av.map .str)):=by
 simp only[gd,h,cv];rfl
end c1
end
section
namespace c1
open D bI PySem
def Ze{av:List Str}(h:fO av):fM 1 (iq av):=by
 cases av with
|nil=>exact absurd rfl h.ne
|cons a r=>
  unfold iq;dsimp only;split
  ·refine fM.J' (d:=0) λt aZ=>?_
   rcases asu.mp aZ with rfl|aZ
   ·exact p8 ri (by decide)
   ·obtain⟨q,bg,rfl⟩:=cN.mp aZ;exact Zc q
  ·split
   ·refine fM.J' (d:=0) λt aZ=>?_
    rcases hD.mp aZ with aZ|aZ
    ·obtain⟨q,bg,rfl⟩:=cN.mp aZ;exact Vf (h.p q bg)
    ·rw[jl] at aZ;subst aZ;exact V7
   ·refine fM.J' (d:=0) λt aZ=>?_
    obtain⟨q,bg,rfl⟩:=cN.mp aZ;exact Vf (h.p q bg)
noncomputable def ug(p:aV):cE->Prop
|.line z w=>z∈mW p/\w∈yH
|.code f d z=>mv (.str f)=true/\((z=none/\d∈(["set","unset"]:List Str))\/∃x,z=some x/\x∈mW p/\d∈(["shunt","free"]:List Str))
|.dJ n=>1<=n
structure y'(p:aV):Prop where
 ok:wa p
 n:∀s∈mW p,s.length<=4
def U1{es:List cE}{B:Nat}(h:∀e∈es,qf B e):asc (ls (asG (es.map ef))):=by
 rw[asG,tQ];refine Zo λav kE q bg=>?_;obtain⟨e,he,rfl⟩:=cN.mp kE;exact ((h e he).s q bg).1
def apt{p:aV}(aF:y' p){x:Str}(hx:asc (ls x))(aB:x.length<=800000):∃ε:Ev,nm 1 ε=some (.str x)/\aJ 2 ε=some (.tuple ((iG x).map iq))/\nm 2 ε=some (.tuple ((iG x).map iq)) /\
  aX asZ [(comp 1 [0] (gd (aJ 2)) (bH 0) (dy true) (aX x3 [(aJ 1),(aJ 0)]))] ε=some (.bool (((iG x).map iq).all (vG p))) /\
  (∀g:bc,seq (asg 2 (aX e6 [(comp 1 [] (gd (aX q' [(aJ 1)])) (bH 0) (dy true) (aX q_ [(aJ 0)]))])) g [some (.ae (b3 p)),some (.ae (.str x)),none]=g ε) /\
  (∀r:vZ,K8 (asg 2 (aX e6 [(comp 1 [] (gd (aX q' [(aJ 1)])) (bH 0) (dy true) (aX q_ [(aJ 0)]))])) r [some (.ae (b3 p)),some (.ae (.str x)),none]=r ε):=by
 have QJ:=aqA hx aB;have QI:=Uv x;have Qq:(iG x).length<=big:=by unfold big;omega
 have aG:q' [.str x]=some (Wh (iG x)):=aqC (by omega);have a2:asg 2 (aX e6 [(comp 1 [] (gd (aX q' [(aJ 1)])) (bH 0) (dy true) (aX q_ [(aJ 0)]))]) [some (.ae (b3 p)),some (.ae (.str x)),none]=some (.bP [some (.ae (b3 p)),some (.ae (.str x)),some (.ae (.tuple ((iG x).map iq)))]):=by
  unfold asg;rw[gZ (t:=.list ((iG x).map iq)) (by
   rw[asX (f:=λt=>iq (partsOf t)) (ts:=(iG x).map λav=>.list (av.map .str)) (aqB (by rw[gZ (t:=.str x) rfl];exact aG)) (by rw[eT];exact Qq) λt aZ=>by
     obtain⟨r,aw,rfl⟩:=cN.mp aZ;rw[gZ (t:=.list (r.map .str)) rfl,(TP r).2];exact amT (QJ r aw)]
   rw[gB];congr 2;exact List.map_congr_left λr _=>congrArg iq (TP r).2)]
  rfl
 refine⟨_,rfl,rfl,rfl,?_,λg=>by rw[bI.gv a2],λr=>by rw[aqt a2]⟩
 refine OM (ts:=(iG x).map iq) rfl (by rw[eT];exact Qq) λt aZ=>?_
 obtain⟨r,aw,rfl⟩:=cN.mp aZ;rw[sD (t:=b3 p) (u:=iq r) rfl rfl];exact aoR aF.ok (d:=0) (Ze (QJ r aw)) (by omega)
def anx{p:aV}(aF:y' p){x:Str}(hx:asc (ls x))(aB:x.length<=800000){es:List cE}{B:Nat}(fR:(iG x).map iq=es.map bS)(qz:∀e∈es,qf B e)(ab:es.length*B<=16777216)(qw:B<=16777216)(adL:∀e∈es,vG p (bS e)=true)(bg:asG (es.map ef)=x):r2 [b3 p,.str x]=some (.tuple (es.map bS)):=by
 obtain⟨ε,fT,gf,afR,af,asr,ar⟩:=apt aF hx aB;have hlen:es.length=(iG x).length:=by
  have:=congrArg List.length fR;simpa using this.symm
 have QI:=Uv x;have au:((iG x).map iq).all (vG p)=true:=by
  rw[fR,List.all_eq_true];intro t aZ;obtain⟨e,he,rfl⟩:=cN.mp aZ;exact adL e he
 rw[au] at af;have bE:ag fV (aX qp [(aJ 2)]) (nm 1) ε=some (.bool !(decide (asG (es.map ef)=x))):=by
  rw[d4 (t:=.str (asG (es.map ef))) (by rw[gZ gf,fR];exact Rr qz ab (by omega) qw) fT];exact ne_str (U1 qz) hx
 have c':=vO (rn (asA af)) λ_=>asA bE;unfold r2 cT Tn;show (seq _ _ [some (.ae (b3 p)),some (.ae (.str x)),none]).bind _=_;rw[asr,lA c',decide_eq_true bg,if_neg (by simp)];simp only[bO,afR,fR];rfl
end c1
end
section
namespace c1
open D bI PySem
theorem C7:∀{ss:List Str},ss.Pairwise (λa b=>strLt a b=true)->vz ss=true
| [],_=>rfl
| [x],_=>rfl
|x::y::r,h=>by
  rw[l0] at h;simp only[vz,h.1 y (by simp),Bool.true_and];exact C7 h.2
def pw_z:(kp.map (·.2)).Pairwise (λa b=>strLt a b=true):=by decide +kernel
def pw_c:(n0.map (·.2)).Pairwise (λa b=>strLt a b=true):=by decide +kernel
def pw_r:vn.Pairwise (λa b=>strLt a b=true):=by decide +kernel
def yL{l:List Str}{f:Str->Bool}(h:l.all f=true){x:Str}(hx:x∈l):f x=true:=List.all_eq_true.mp h x hx
def af3:(kp.map (·.2)).all (λs=>rx (.str s))=true:=by decide +kernel
def afY:(n0.map (·.2)).all (λs=>mv (.str s))=true:=by decide +kernel
def af2:uO.all (λs=>rx (.str s))=true:=by decide +kernel
def afZ:kinds.all (λs=>decide (s∈V1))=true:=by decide +kernel
def ajH{p:aV}(h:gm p):Pv p:=by
 refine⟨?_,h.ft,λz ar=>⟨?_,?_⟩,C7 (pw_z.sublist h.zs),?_,h.cl,λk aR=>?_,C7 (pw_c.sublist h.cs),?_,?_,?_⟩
 ·have:=List.length_pos_iff.mpr h.sV;omega
 ·exact yL af3 (h.zs.subset (cN.mpr ⟨z,ar,rfl⟩))
 ·exact of_decide_eq_true (yL afZ (h.yI z ar))
 ·have:=List.length_pos_iff.mpr h.t_;omega
 ·obtain⟨af,ai,bE⟩:=h.mn k aR;refine⟨yL afY (h.cs.subset (cN.mpr ⟨k,aR,rfl⟩)),yL af2 af,ai.length_le,λr aw=>ai.subset aw,C7 (pw_r.sublist ai),?_,?_⟩
  ·simp only[asu,eu,or_false] at bE;omega
  ·simp only[asu,eu,or_false] at bE;omega
 ·have:=h.i6;simp only[asu,eu,or_false] at this;omega
 ·have:=h.kb;simp only[asu,eu,or_false] at this;omega
 ·have:=h.to;simp only[asu,eu,or_false] at this;omega
def KP{p:aV}(h:Pv p):y' p:=by
 refine⟨⟨λs asr=>?_,?_⟩,λs asr=>?_⟩
 ·obtain⟨z,ar,rfl⟩:=cN.mp asr;exact apU (h.zs z ar).1
 ·have:=h.z8;omega
 ·obtain⟨z,ar,rfl⟩:=cN.mp asr;have:=M0 (h.zs z ar).1;omega
def aqq{a:Int}{k:Nat}(h0:0<=a)(aR:0<k)(h:a.toNat<10 ^ k):(e5 a).length<=k:=by
 rw[p4 h0,iE,tu,eT];exact (Nat.length_toDigits_le_iff (by decide) aR).mpr h
def arG{rs:List (List Str)}{B:Nat}(h:∀av∈rs,(iy av).length<=B):(mO rs).length<=rs.length*B:=by
 induction rs with
|nil=>simp[mO]
|cons r rs bY=>
  have af:=h r (by simp);have ai:=bY λav kE=>h av (di _ kE);simp only[mO,c9,sQ,jo,d_] at ai ⊢;have e:(rs.length+1)*B=rs.length*B+B:=by rw[Nat.add_mul,Nat.one_mul]
  omega
def arF(rs:List (List Str)):(asG rs).length=(mO rs).length:=by rw[iE,asG,tQ]
def ada:rz.all (λs=>mv (.str s))=true:=by decide +kernel
def Qh{p:aV}{e:cE}(h:jW p e):ug p e:=by
 cases e with
|line z w=>
  refine⟨h.1,?_⟩
  have:=h.2;simp only[asu,eu,or_false] at this;rcases this with rfl|rfl|rfl|rfl
  ·decide
  ·decide
  ·decide
  ·decide
|code f d z=>
  refine⟨yL ada h.1,?_⟩
  rcases h.2 with ⟨af,ai⟩|⟨af,x,ai,bE⟩
  ·refine .inl ⟨ai,?_⟩
   rcases af with rfl|rfl
   ·decide
   ·decide
  ·refine .inr ⟨x,ai,bE,?_⟩
   rcases af with rfl|rfl
   ·decide
   ·decide
|dJ n=>exact h.1
def Qi{p:aV}(aF:y' p){e:cE}(h:ug p e)(a9:∀n,e=.dJ n->n<=1000000000):qf 45 e:=by
 have a6:∀{av:List Str},av.length<=4->(∀q∈av,q.length<=10)->(iy av).length<=45:=λ{av} af ai=>by
  have:=aqE af ai;omega
 cases e with
|line z w=>
  obtain⟨af,ai⟩:=h;have bZ:=aF.n z af;have b1:w.length<=4:=NQ 4 (by decide +kernel) ai;refine⟨λx hx=>?_,λn e=>(by cases e),a6 (by simp[ef]) λx hx=>?_⟩
  ·simp only[ef,asu,eu,or_false] at hx;rcases hx with rfl|rfl|rfl
   ·exact⟨DB,by decide⟩
   ·exact⟨aF.ok.z _ af,by omega⟩
   ·exact⟨Vr _ ai,by omega⟩
  ·simp only[ef,asu,eu,or_false] at hx;rcases hx with rfl|rfl|rfl
   ·decide
   ·omega
   ·omega
|code f d z=>
  obtain⟨af,ai⟩:=h;have bZ:=(Nq af).1;have a1:=art af;rcases ai with ⟨rfl,ai⟩|⟨x,rfl,bE,ai⟩
  ·have b1:d.length<=5:=NQ 5 (by decide +kernel) ai;refine⟨λx hx=>?_,λn e=>(by cases e),a6 (by simp[ef]) λx hx=>?_⟩
   ·simp only[ef,asu,eu,or_false] at hx;rcases hx with rfl|rfl|rfl
    ·exact⟨rp,by decide⟩
    ·exact⟨a1,by omega⟩
    ·exact⟨OO _ ai,by omega⟩
   ·simp only[ef,asu,eu,or_false] at hx;rcases hx with rfl|rfl|rfl
    ·decide
    ·omega
    ·omega
  ·have b1:d.length<=5:=NQ 5 (by decide +kernel) ai;have AO:=aF.n x bE;refine⟨λy hx=>?_,λn e=>(by cases e),a6 (by simp[ef]) λy hx=>?_⟩
   ·simp only[ef,asu,eu,or_false] at hx;rcases hx with rfl|rfl|rfl|rfl
    ·exact⟨rp,by decide⟩
    ·exact⟨a1,by omega⟩
    ·exact⟨OP _ ai,by omega⟩
    ·exact⟨aF.ok.z _ bE,by omega⟩
   ·simp only[ef,asu,eu,or_false] at hx;rcases hx with rfl|rfl|rfl|rfl
    ·decide
    ·omega
    ·omega
    ·omega
|dJ n=>
  have af:1<=n:=h;have ai:=a9 n rfl;have l:=aqq (a:=n) (k:=10) (by omega) (by decide) (by omega);refine⟨λx hx=>?_,λn e=>?_,a6 (by simp[ef]) λx hx=>?_⟩
  ·simp only[ef,asu,eu,or_false] at hx;rcases hx with rfl|rfl
   ·exact⟨ri,by decide⟩
   ·exact⟨apf (by omega),by omega⟩
  ·cases e
   refine⟨by omega,?_⟩
   have sN:=_h;have uN:(1000000001:Int)<=asv:=by decide +kernel
   omega
  ·simp only[ef,asu,eu,or_false] at hx;rcases hx with rfl|rfl
   ·decide
   ·exact l
def jW.tick{p:aV}{e:cE}(h:jW p e):∀n,e=.dJ n->n<=1000000000:=λn Gz=>by
 subst Gz;exact h.2
def aqD{es:List cE}(h:∀e∈es,qf 45 e):(asG (es.map ef)).length<=es.length*45:=by
 rw[arF];have:=arG (rs:=es.map ef) (B:=45) λav kE=>by
  obtain⟨e,he,rfl⟩:=cN.mp kE;exact (h e he).l
 rw[eT] at this;exact this
end c1
end
section
namespace c1
open D bI PySem
def sA(q:Str):Prop:=32∉ls q/\10∉ls q
structure Cl(av:List Str):Prop where
 ne:av≠[]
 p:∀q∈av,sA q
theorem OD:∀{av:List (List Nat)},(∀p∈av,10∉p)->10∉gN 32 av
| [],_=>by simp[gN]
| [p],h=>h p (by simp)
|p::q::r,h=>by
  simp only[gN,hD,asu,not_or];exact⟨h p (by simp),by decide,OD λx hx=>h x (di _ hx)⟩
theorem VB:∀{rs:List (List Str)},(∀av∈rs,Cl av)->e4 10 (mO rs)=(rs.map λav=>gN 32 (av.map ls))++[[]]
| [],_=>rfl
|r::rs,h=>by
  have e:mO (r::rs)=gN 32 (r.map ls)++10::mO rs:=by simp[mO,iy]
  have aw:=h r (by simp);rw[e,MS _ (OD λp aF=>by
   obtain⟨q,bg,rfl⟩:=cN.mp aF;exact (aw.p q bg).2),VB λav kE=>h av (di _ kE)]
  rfl
def aqz{rs:List (List Str)}(h:∀av∈rs,Cl av):iG (asG rs)=rs:=by
 unfold iG;rw[asG,tQ,VB h,List.dropLast_concat,gB]
 conv=>rhs;rw[<- List.map_id rs]
 refine List.map_congr_left λav kE=>?_
 have aF:=h av kE;show (e4 32 (gN 32 (av.map ls))).map st=av;rw[NC (λe=>aF.ne (List.map_eq_nil_iff.mp e)) λp nu=>by
  obtain⟨q,bg,rfl⟩:=cN.mp nu;exact (aF.p q bg).1,gB]
 conv=>rhs;rw[<- List.map_id av]
 exact List.map_congr_left λq _=>vL q
def yR{q:Str}(h:((ls q).all λc=>decide (c≠32) && decide (c≠10))=true:=by decide +kernel):sA q:=by
 rw[List.all_eq_true] at h;constructor
 ·intro hm;have:=h 32 hm;simp at this
 ·intro hm;have:=h 10 hm;simp at this
def apJ{x:Str}(h:rx (.str x)=true):sA x:=by
 have af:=(M0 h).2.2;exact⟨λhm=>by have:=af 32 hm;omega,λhm=>by have:=af 10 hm;omega⟩
def U9{x:Str}(h:mv (.str x)=true):sA x:=by
 have af:=(Nq h).2;exact⟨λhm=>by have:=af 32 hm;omega,λhm=>by have:=af 10 hm;omega⟩
def aq6{a:Int}(h:0<=a):sA (e5 a):=by
 have af:=vf h;exact⟨λhm=>by have:=af 32 hm;omega,λhm=>by have:=af 10 hm;omega⟩
def NL{l:List Str}{x:Str}(h:(l.all λq=>(ls q).all λc=>decide (c≠32) && decide (c≠10))=true)(hx:x∈l):sA x:=yR (List.all_eq_true.mp h x hx)
def apR{a:Int}(h:0<=a):mG (e5 a)=.int a:=by
 have hd:qq (e5 a)=true:=by
  rw[qq,fi,List.all_eq_true];refine⟨decide_eq_true ?_,λc ax=>?_⟩
  ·rw[p4 h,iE,tu,eT];exact Nat.length_toDigits_pos
  ·have:=vf h c ax;rw[fi,decide_eq_true_eq,decide_eq_true_eq];exact this
 unfold mG;rw[if_pos hd,p4 h,Dj,Int.toNat_of_nonneg h]
def aoS{p:aV}{e:cE}(h:ug p e):vG p (bS e)=true:=by
 unfold vG;cases e with
|line z w=>
  rw[Bool.or_eq_true];left;simp only[vS,bS,jh,decide_eq_true h.1,decide_eq_true h.2,Bool.and_self,Bool.and_true];decide +kernel
|code f d z=>
  rw[Bool.or_eq_true,Bool.or_eq_true];right;left;obtain⟨af,ai⟩:=h;simp only[ro,bS,af,Bool.true_and];rw[show jv "code" (.str "code")=true from OJ,Bool.true_and];rcases ai with ⟨rfl,ai⟩|⟨x,rfl,bE,ai⟩
  ·rw[if_pos (show jh ["set","unset"] (.str d)=true from decide_eq_true ai)];rfl
  ·have a9:¬(jh ["set","unset"] (.str d)=true):=by
    intro bg;have qB:=of_decide_eq_true (show decide (d∈(["set","unset"]:List Str))=true from bg);simp only[asu,eu,or_false] at qB ai;rcases qB with rfl|rfl <;> rcases ai with ai|ai <;> revert ai <;> decide +kernel
   rw[if_neg a9,fi];exact⟨decide_eq_true ai,decide_eq_true bE⟩
|dJ n=>
  rw[Bool.or_eq_true,Bool.or_eq_true];right;right;simp only[vx,bS,yw,posB,Bool.true_and,fi];exact⟨OI,decide_eq_true h⟩
def Zh{p:aV}(aF:Pv p){e:cE}(h:ug p e):Cl (ef e):=by
 have a9:∀x∈mW p,sA x:=λx hx=>by
  obtain⟨z,ar,rfl⟩:=cN.mp hx;exact apJ (aF.zs z ar).1
 cases e with
|line z w=>
  refine⟨by simp[ef],λq bg=>?_⟩
  simp only[ef,asu,eu,or_false] at bg;rcases bg with rfl|rfl|rfl
  ·exact yR
  ·exact a9 _ h.1
  ·exact NL (l:=yH) (by decide +kernel) h.2
|code f d z=>
  obtain⟨af,ai⟩:=h;rcases ai with ⟨rfl,ai⟩|⟨x,rfl,bE,ai⟩
  ·refine⟨by simp[ef],λq bg=>?_⟩
   simp only[ef,asu,eu,or_false] at bg;rcases bg with rfl|rfl|rfl
   ·exact yR
   ·exact U9 af
   ·exact NL (l:=["set","unset"]) (by decide +kernel) ai
  ·refine⟨by simp[ef],λq bg=>?_⟩
   simp only[ef,asu,eu,or_false] at bg;rcases bg with rfl|rfl|rfl|rfl
   ·exact yR
   ·exact U9 af
   ·exact NL (l:=["shunt","free"]) (by decide +kernel) ai
   ·exact a9 _ bE
|dJ n=>
  have af:1<=n:=h;refine⟨by simp[ef],λq bg=>?_⟩;simp only[ef,asu,eu,or_false] at bg;rcases bg with rfl|rfl
  ·exact yR
  ·exact aq6 (by omega)
def af1:¬(("line":Str)="ticks"):=by decide +kernel
def af0:¬(("line":Str)="code"):=by decide +kernel
def Q7:¬(("code":Str)="ticks"):=by decide +kernel
def Z'{p:aV}{e:cE}(h:ug p e):iq (ef e)=bS e:=by
 cases e with
|line z w=>
  unfold iq ef;dsimp only;rw[if_neg af1,if_neg (λq=>af0 q.1)];rfl
|code f d z=>
  cases z with
  |none=>
   unfold iq ef;dsimp only;rw[if_neg Q7,if_pos ⟨rfl,rfl⟩];rfl
  |some x=>
   unfold iq ef;dsimp only;rw[if_neg Q7,if_neg (λq=>by have:=q.2;simp at this)];rfl
|dJ n=>
  have af:1<=n:=h;unfold iq ef;dsimp only;rw[if_pos rfl];simp only[c9,g6,apR (show 0<=n by omega)];rfl
def ajP{p:aV}(aF:Pv p){es:List cE}(h:∀e∈es,ug p e)(a9:∀e∈es,∀n,e=.dJ n->n<=1000000000)(aB:es.length<=10000):r2 [b3 p,.str (asG (es.map ef))]=some (.tuple (es.map bS)):=by
 have qz:∀e∈es,qf 45 e:=λe he=>Qi (KP aF) (h e he) (a9 e he);have hlen:=aqD qz;refine anx (KP aF) (U1 qz) (by omega) ?_ qz (by omega) (by omega) (λe he=>aoS (h e he)) rfl;rw[aqz λav kE=>by
  obtain⟨e,he,rfl⟩:=cN.mp kE;exact Zh aF (h e he),gB]
 exact List.map_congr_left λe he=>Z' (h e he)
end c1
end
section
namespace c1
open D bI PySem
def aix{d:List T->Option T}{f g h:bl}{ε:Ev}{t u v:T}(af:f ε=some t)(ai:g ε=some u)(bE:h ε=some v):aX d [f,g,h] ε=d [t,u,v]:=by simp[aX,args,af,ai,bE]
end c1
end
section
namespace c1
open D bI PySem
end c1
end
section
namespace o3
open D bI iJ
open PySem hiding run fresh code
local instance:cV:=⟨[],λ_=>[],λ_=>none⟩
noncomputable def zc(p:aV)(es:List cE)(pre:List aU)(c:aU):T:=.tuple [ee c,.tuple [.str c.mode,.bool (decide (c.fJ > 0)),.tuple ((rf p c).map .str)],.tuple ((run p (fresh (oa pre c)) es).told.map mu),.tuple (es.map bS)]
section
variable {p:aV}
def asked(wp:Wp p){es:List cE}{pre:List aU}{c:aU}(hw:a5 p c)(cK:a5 p (oa pre c))(he:∀e∈es,hB p e)(aB:es.length<=1000):hk [.obj .c4 1 (cn p es pre c)]=some (zc p es pre c):=by
 have af:dx 1 0 [some (.obj .c4 1 (cn p es pre c))]=some (.c4,cn p es pre c):=by simp[dx]
 have iV:∀d:List aI->Option T,d3 1 d 0 [] [some (.obj .c4 1 (cn p es pre c))]=d [.obj .c4 1 (cn p es pre c)]:=λd=>by
  simp only[d3,af,cv,args,g6]
 have Lg:(4:Nat)<=big:=by unfold big;omega
 have m:b6 [(d3 1 ki 0 []),(d3 1 s9 0 []),(d3 1 tf 0 []),(d3 1 ma 0 [])] [some (.obj .c4 1 (cn p es pre c))]=some (zc p es pre c):=by
  simp only[b6,args,iV,T5,ao3 hw,ary wp cK he aB,Nv (show es.length<10000 by omega),cv,et,d_,l5];rw[if_pos Lg];rfl
 show Option.bind (bO (b6 [(d3 1 ki 0 []),(d3 1 s9 0 []),(d3 1 tf 0 []),(d3 1 ma 0 [])]) [some (.obj .c4 1 (cn p es pre c))]) _=_
 unfold bO;rw[m];rfl
def aq7{es:List cE}{pre:List aU}{c:aU}(hw:a5 p c)(cK:a5 p (oa pre c))(he:∀e∈es,w_ p e):okN 3 (zc p es pre c):=kW λx hx=>by
 simp only[asu,eu,or_false] at hx;rcases hx with rfl|rfl|rfl|rfl
 ·exact UA hw
 ·exact aoD 0 hw _
 ·exact apK (cY.run (cY.fresh _) cK.fresh λe h=>(he e h).1)
 ·exact kW λx hx=>by
   obtain⟨e,h,rfl⟩:=cN.mp hx;exact YZ hw.zn (he e h)
abbrev ek(p:aV)(xs:List cE):List aI:=cn p xs (iJ.chain p (hn p) xs) (kA p (hn p) xs)
def Dl(xs:List cE)(e:cE):cn p (xs++[e]) (iJ.chain p (hn p) xs++[kA p (hn p) xs]) (gg p (kA p (hn p) xs) e)=ek p (xs++[e]):=by
 unfold ek;rw[iJ.P6,iJ.ac5];rfl
def A(p:aV)(xs:List cE):T:=zc p xs (iJ.chain p (hn p) xs) (kA p (hn p) xs)
structure fO(p:aV)(xs:List cE):Prop where
 d:∀e∈xs,jW p e
 l:xs.length<=60
variable {xs:List cE}
theorem fO.ok(h:fO p xs):∀e∈xs,hB p e:=λe he=>(h.d e he).ok
def fO.b(h:fO p xs):∀e∈xs,w_ p e:=λe he=>V_ (h.d e he)
def fO.wf(aF:gm p)(h:fO p xs):a5 p (kA p (hn p) xs):=V8 aF.begun h.ok
def fO.he(aF:gm p):a5 p (oa (iJ.chain p (hn p) xs) (kA p (hn p) xs)):=by
 rw[ap8];exact aF.begun
def vJ(aF:gm p)(h:fO p xs):hk [.obj .c4 1 (ek p xs)]=some (A p xs):=asked aF.wp (h.wf aF) (fO.he aF) h.ok (by have:=h.l;omega)
def DA(aF:gm p)(h:fO p xs):okN 3 (A p xs):=aq7 (h.wf aF) (fO.he aF) h.b
def cr{ε:Ev}{i:Nat}{os:List aI}(d:List aI->Option T)(h:ε[i]?=some (some (.obj .own 1 os))):jS d [.o i] ε=d [.obj .c4 1 os]:=by
 simp[jS,pa,AY,h,A6]
def fO.snoc(h:fO p xs){e:cE}(he:jW p e)(aB:xs.length<=59):fO p (xs++[e]):=⟨λy bw=>by
 rcases hD.mp bw with bw|bw
 ·exact h.d y bw
 ·rw[jl.mp bw];exact he,by simp;omega⟩
def J6{ε:Ev}{os A1:List aI}{aA:List bl}{ts:List T}{t:T}{d:List aI->Option (T×List aI)}(h:ε[0]?=some (some (.obj .cg 1 os)))(au:args aA ε=some ts)(hd:d (.obj .cg 1 os::ts.map .ae)=some (t,A1)):cS (cW 1 d 0 aA) ε=some (.bP (ε.set 0 (some (.obj .cg 1 A1)))):=by
 have af:dx 1 0 ε=some (.cg,os):=by simp[dx,h]
 simp only[cS,cW,af,cv,if_neg (show ¬gn.cg=gn.c4 by decide),au,hd,et]
def _b(aF:gm p)(h:fO p xs){e:cE}(nc:jW p e):lE [.obj .cg 1 (ek p xs),.ae (bS e)]=some (.none,ek p (xs++[e])):=by
 have ww:=h.wf aF;have cl:=T2 p xs (hn p);have aB:=h.l;have ab:=V_ nc;have e':∀(k a:Str) (r:List T),bS e=.tuple (.str a::r)->cF a->cF k->bB (ag oEq (ag aW (nm 1) (aa (.int 0))) (aa (.str k))) [some (.obj .cg 1 (ek p xs)),some (.ae (bS e))]=some (decide (a=k)):=λk a r af ai bE=>by
  rw[af];refine Vz (tP (x:=.str a) ?_ rfl (dN ai bE));exact tP (x:=.tuple (.str a::r)) (y:=.int 0) rfl rfl c1.pG
 have asr:Dz [some (.obj .cg 1 (ek p xs)),some (.ae (bS e))]=some (.bP [some (.obj .cg 1 (ek p (xs++[e]))),some (.ae (bS e))]):=by
  unfold Dz;cases e with
  |line z w=>
   have ei:=e' "line" "line" _ rfl (bA _) (bA _);rw[decide_eq_true rfl] at ei;rw[iff_eq ei,if_pos rfl,J6 (os:=ek p xs) (ts:=[.str z,.str w]) rfl rfl (aqh aF.wp ww ab.1 (by omega) (by omega)),Dl];rfl
  |code f d z=>
   have ei:=e' "line" "code" _ rfl (bA _) (bA _);have dB:=e' "code" "code" _ rfl (bA _) (bA _);rw[decide_eq_false (by decide +kernel)] at ei;rw[decide_eq_true rfl] at dB;rw[iff_eq ei,if_neg (by decide),iff_eq dB,if_pos rfl,J6 (os:=ek p xs) (ts:=[.str f,.str d,eQ z]) rfl rfl (aqj aF.wp ww ab (by omega) (by omega)),Dl];rfl
  |dJ n=>
   have ei:=e' "line" "ticks" _ rfl (bA _) (bA _);have dB:=e' "code" "ticks" _ rfl (bA _) (bA _);rw[decide_eq_false (by decide +kernel)] at ei;rw[decide_eq_false (by decide +kernel)] at dB;rw[iff_eq ei,if_neg (by decide),iff_eq dB,if_neg (by decide),J6 (os:=ek p xs) (ts:=[.int n]) rfl rfl (ao2 aF.wp ww ab.1 (by omega) (by omega)),Dl];rfl
 unfold lE runM;show Option.bind (Dz [some (.obj .cg 1 (ek p xs)),some (.ae (bS e))]) _=_;rw[asr];simp[jQ]
def Gs(aF:gm p)(h:fO p xs){e:cE}(nc:jW p e){ε:Ev}{i:Nat}(hi:ε[i]?=some (some (.obj .own 1 (ek p xs)))){f:bl}(hf:f ε=some (bS e)):cS (m3 1 lE [] i [f]) ε=some (.bP (ε.set i (some (.obj .own 1 (ek p (xs++[e])))))):=by
 have af:dx 1 i ε=some (.own,ek p xs):=by simp[dx,hi]
 have r1:lE (List.map aI.ae []++.obj .cg 1 (ek p xs)::List.map aI.ae [bS e])=some (.none,ek p (xs++[e])):=_b aF h nc;simp only[cS,m3,af,cv,if_neg (show ¬gn.own=gn.c4 by decide),args,hf,r1,et]
def arC{e:cE}{ε:Ev}{i:Nat}(hi:ε[i]?=some (some (.obj .own 1 (ek p (xs++[e]))))):cS (cW 1 oE i []) ε=some (.bP (ε.set i (some (.obj .own 1 (ek p xs))))):=by
 rw[<- Dl] at hi;exact arD e _ (by decide) hi
structure Ou(p:aV)(E:Option aI->List cE->Ev)(g i:Nat):Prop where
 bf:∀t s xs,bH g t (E s xs)=some (E (some (.ae t)) xs)
 hi:∀s xs,(E s xs)[i]?=some (some (.obj .own 1 (ek p xs)))
 asr:∀s xs ys,(E s xs).set i (some (.obj .own 1 (ek p ys)))=E s ys
 bq:∀t xs,aJ g (E (some (.ae t)) xs)=some t
theorem NX(aF:gm p){E:Option aI->List cE->Ev}{g i:Nat}(L:Ou p E g i):∀(ir xs:List cE) (s:Option aI),fO p (xs++ir)->∃s',forL (bH g) (cS (m3 1 lE [] i [(aJ g)])) (ir.map bS) (E s xs)=some (.bP (E s' (xs++ir)))
| [],xs,s,_=>⟨s,by rw[jN];rfl⟩
|e::ir,xs,s,h=>by
  have aB:=h.l;simp only[jo,d_] at aB;have hx:fO p xs:=⟨λy bw=>h.d y (by simp[bw]),by omega⟩;have nc:=h.d e (by simp);obtain⟨s',bY⟩:=NX aF L ir (xs++[e]) (some (.ae (bS e))) (by simpa using h);refine⟨s',?_⟩;rw[c9,forL,L.bf,cv,Gs aF hx nc (L.hi _ _) (L.bq _ _),L.asr,cv];rw[as_] at bY;exact bY
theorem NA{E:Option aI->List cE->Ev}{g i:Nat}(L:Ou p E g i):∀(l:List T) (ir xs:List cE) (s:Option aI),l.length=ir.length->∃s',forL (bH g) (cS (cW 1 oE i [])) l (E s (xs++ir))=some (.bP (E s' xs))
| [],ir,xs,s,h=>by
  have:ir=[]:=List.eq_nil_of_length_eq_zero h.symm;subst this;exact⟨s,by rw[jN];rfl⟩
|t::l,ir,xs,s,h=>by
  rcases List.eq_nil_or_concat ir with rfl|⟨ac9,e,rfl⟩
  ·cases h
  simp only[List.concat_eq_append,jo,d_,l5] at h;obtain⟨s',bY⟩:=NA L l ac9 xs (some (.ae t)) (by omega);refine⟨s',?_⟩;rw[List.concat_eq_append,<- as_,forL,L.bf,cv,arC (L.hi _ _),L.asr,cv];exact bY
def Lj{f g:bl}{ε:Ev}{t:T}{d:Nat}(hf:f ε=some t)(bf:g ε=some t)(h:okN d t)(hd:d<=60:=by decide):bB (ag fV f g) ε=some false:=Vz (tP hf bf (apN h hd))
def Zb{c:e7}{a:bc}{ε:Ev}(h:c ε=some false):iff c a skip ε=some (.bP ε):=by
 unfold iff;rw[h];rfl
noncomputable def atb:bc:=(seq (asg 7 (aX tE [(aJ 1),(aX ly [(aJ 0),(ag cD (aa (.int 2)) (ag oMod (nm 5) (aa (.int 5))))]),(aa (.int 2))])) (seq (asg 8 (jS hk [.o 4])) (seq (fb (eO (aJ 7)) (bH 9) (cS (m3 1 lE [] 4 [(aJ 9)]))) (seq (fb (eO (aJ 7)) (bH 9) (cS (cW 1 oE 4 []))) (seq (iff (bB (ag fV (jS hk [.o 4]) (nm 8))) (bO (aa (.bool false))) skip) (seq (cS (m3 1 lE [] 4 [(aJ 6)])) (seq (cS (m3 1 lE [] 3 [(aJ 6)])) (iff (bB (ag fV (jS hk [.o 4]) (jS hk [.o 3]))) (bO (aa (.bool false))) skip))))))))
noncomputable def LE(ns:List Int)(p:aV)(row xs ys:List cE)(s5 g4 dX eC g5 gh:Option aI):Ev:=[some (.ae (eH ns)),some (.ae (b3 p)),some (.ae (.tuple (row.map bS))),some (.obj .own 1 (ek p xs)),some (.obj .own 1 (ek p ys)),s5,g4,dX,eC,g5,gh]
def turn(aF:gm p){ns:List Int}{row:List cE}(h:fO p xs)(aB:xs.length<=40){e:cE}(nc:jW p e)(k:Nat)(dX eC g5 gh:Option aI):∃i4 i5 jH,atb (LE ns p row xs xs (some (.ae (.int (k:Int)))) (some (.ae (bS e))) dX eC g5 gh)=some (.bP (LE ns p row (xs++[e]) (xs++[e]) (some (.ae (.int (k:Int)))) (some (.ae (bS e))) i4 i5 jH gh)):=by
 obtain⟨r,_,ic,a6,jw⟩:=modQ (k:Int) 5;obtain⟨A5,rfl⟩:∃a:Nat,r=a:=⟨r.toNat,by omega⟩;obtain⟨m,hm,xm⟩:=C_ ns (2+A5);obtain⟨ex,bj,lx,uR⟩:=VF aF m 2 hm (by decide);have ai:fO p (xs++ex):=⟨λy bw=>by
  rcases hD.mp bw with bw|bw
  ·exact h.d y bw
  ·exact bj y bw,by simp;omega⟩
 have asr:=h.snoc nc (by omega);have o9:∀{as:List cE} (bs:List cE) {s5 g4 dX eC g5 gh:Option aI},fO p bs->jS hk [.o 4] (LE ns p row as bs s5 g4 dX eC g5 gh)=some (A p bs):=λ{as} bs {s5 g4 dX eC g5 gh} r=>(cr (i:=4) (os:=ek p bs) hk rfl).trans (vJ aF r);obtain⟨Bp,aG⟩:=NX aF (E:=λs ys=>LE ns p row xs ys (some (.ae (.int (k:Int)))) (some (.ae (bS e))) (some (.ae (.tuple (ex.map bS)))) (some (.ae (A p xs))) s gh) (g:=9) (i:=4) ⟨λ_ _ _=>rfl,λ_ _=>rfl,λ_ _ _=>rfl,λ_ _=>rfl⟩ ex xs g5 ai;obtain⟨Ln,aS⟩:=NA (p:=p) (E:=λs ys=>LE ns p row xs ys (some (.ae (.int (k:Int)))) (some (.ae (bS e))) (some (.ae (.tuple (ex.map bS)))) (some (.ae (A p xs))) s gh) (g:=9) (i:=4) ⟨λ_ _ _=>rfl,λ_ _=>rfl,λ_ _ _=>rfl,λ_ _=>rfl⟩ (ex.map bS) ex xs Bp (by simp);refine⟨some (.ae (.tuple (ex.map bS))),some (.ae (A p xs)),Ln,?_⟩;unfold atb;refine tm (t:=.tuple (ex.map bS)) ?_ ?_
 ·have d5:ag cD (aa (.int 2)) (ag oMod (nm 5) (aa (.int 5))) (LE ns p row xs xs (some (.ae (.int (k:Int)))) (some (.ae (bS e))) dX eC g5 gh)=some (.int (2+(A5:Int))):=tP (x:=.int 2) rfl (tP (x:=.int (k:Int)) rfl rfl jw) rfl;have gU:aX ly [(aJ 0),(ag cD (aa (.int 2)) (ag oMod (nm 5) (aa (.int 5))))] (LE ns p row xs xs (some (.ae (.int (k:Int)))) (some (.ae (bS e))) dX eC g5 gh)=some (.int m):=by
   rw[c1.sD (t:=eH ns) rfl d5];have nf:((2+A5:Nat):Int)=2+(A5:Int):=by omega
   rw[<- nf];exact xm
  rw[c1.aix (t:=b3 p) (v:=.int 2) rfl gU rfl];exact uR
 show seq _ _ (LE ns p row xs xs (some (.ae (.int (k:Int)))) (some (.ae (bS e))) (some (.ae (.tuple (ex.map bS)))) eC g5 gh)=_
 refine tm (o9 xs h) ?_
 show seq _ _ (LE ns p row xs xs (some (.ae (.int (k:Int)))) (some (.ae (bS e))) (some (.ae (.tuple (ex.map bS)))) (some (.ae (A p xs))) g5 gh)=_
 refine jP aG (jP aS ?_)
 refine M3 (Lj (o9 xs h) rfl (DA aF h)) ?_
 refine jP (Gs aF h nc (i:=4) (f:=aJ 6) rfl rfl) ?_
 refine jP (Gs aF h nc (i:=3) (f:=aJ 6) rfl rfl) ?_
 exact Zb (Lj (ε:=LE ns p row (xs++[e]) (xs++[e]) (some (.ae (.int (k:Int)))) (some (.ae (bS e))) (some (.ae (.tuple (ex.map bS)))) (some (.ae (A p xs))) Ln gh) (o9 (xs++[e]) asr) ((cr (i:=3) (os:=ek p (xs++[e])) hk rfl).trans (vJ aF asr)) (DA aF asr))
theorem loop(aF:gm p){ns:List Int}{row:List cE}{gh:Option aI}:∀(ir xs:List cE) (k:Nat) (s5 g4 dX eC g5:Option aI),fO p (xs++ir)->xs.length+ir.length<=40->∃jG pO i4 i5 jH,forL (eA [(bH 5),(bH 6)]) atb (((ir.map bS).zipIdx k).map λq=>.tuple [.int q.2,q.1]) (LE ns p row xs xs s5 g4 dX eC g5 gh)=some (.bP (LE ns p row (xs++ir) (xs++ir) jG pO i4 i5 jH gh))
| [],xs,k,s5,g4,dX,eC,g5,h,aB=>⟨s5,g4,dX,eC,g5,by rw[jN];rfl⟩
|e::ir,xs,k,s5,g4,dX,eC,g5,h,aB=>by
  simp only[d_] at aB;have hx:fO p xs:=⟨λy bw=>h.d y (by simp[bw]),by omega⟩;have nc:=h.d e (by simp);obtain⟨i4,i5,jH,aG⟩:=turn (ns:=ns) (row:=row) aF hx (by omega) nc k dX eC g5 gh;obtain⟨u5,xq,u7,u8,Bp,bY⟩:=loop aF (ns:=ns) (row:=row) (gh:=gh) ir (xs++[e]) (k+1) (some (.ae (.int (k:Int)))) (some (.ae (bS e))) i4 i5 jH (by simpa using h) (by simp;omega);refine⟨u5,xq,u7,u8,Bp,?_⟩;rw[c9,List.zipIdx_cons,c9,forL,show eA [(bH 5),(bH 6)] (.tuple [.int (k:Int),bS e]) (LE ns p row xs xs s5 g4 dX eC g5 gh)=some (LE ns p row xs xs (some (.ae (.int (k:Int)))) (some (.ae (bS e))) dX eC g5 gh) from rfl,cv,aG,cv];rw[as_] at bY;exact bY
end
def ap1(ns:List Int)(h:ns.length<=63):vV [eH ns]=some (.bool true):=by
 obtain⟨m0,asa,x0⟩:=C_ ns 0;obtain⟨iV,ad0,aM⟩:=C_ ns 1;obtain⟨p,aF,xp⟩:=aqT m0;obtain⟨row,ux,QI,uR⟩:=VF aF iV 16 ad0 (by decide);have k9:fO p row:=⟨ux,by omega⟩;have h0:fO p []:=⟨λe he=>(by cases he),by simp⟩;have ft:=aF.ft;have xi:=aqi aF.wp (show p.cz.length<=40 by omega);have al5:ly [eH ns,.int 0]=some (.int m0):=x0;have al6:ly [eH ns,.int 1]=some (.int iV):=aM;have dQ:∀{ε:Ev},aJ 1 ε=some (b3 p)->mF 1 nF [(aJ 1)] ε=some (.obj .own 1 (ek p [])):=λ{ε} a9=>by
  simp only[mF,args,a9,cv,et,c9,g6,xi];rfl
 have Fd:∀{i:Nat} {ε:Ev},aJ 1 ε=some (b3 p)->pb i (mF 1 nF [(aJ 1)]) ε=some (.bP (ε.set i (some (.obj .own 1 (ek p []))))):=λ{i ε} a9=>by
  unfold pb;rw[dQ a9];rfl
 obtain⟨jG,pO,i4,i5,jH,xL⟩:=loop (ns:=ns) (row:=row) (gh:=none) aF row [] 0 none none none none none (by simpa using k9) (by simp;omega);rw[q3] at xL;obtain⟨xq,aG⟩:=NX aF (E:=λs ys=>LE ns p row row row jG s i4 i5 jH (some (.obj .own 1 (ek p ys)))) (g:=6) (i:=10) ⟨λ_ _ _=>rfl,λ_ _=>rfl,λ_ _ _=>rfl,λ_ _=>rfl⟩ row [] pO (by simpa using k9);rw[q3] at aG;obtain⟨v6,aS⟩:=NA (p:=p) (E:=λs ys=>LE ns p row row ys jG s i4 i5 jH (some (.obj .own 1 (ek p row)))) (g:=6) (i:=4) ⟨λ_ _ _=>rfl,λ_ _=>rfl,λ_ _ _=>rfl,λ_ _=>rfl⟩ (row.map bS) row [] xq (by simp);rw[q3] at aS;have bq:=c1.ajH aF;have qz:∀e∈row,c1.qf 45 e:=λe he=>c1.Qi (c1.KP bq) (c1.Qh (ux e he)) (c1.jW.tick (ux e he));have d9:=c1.Rr qz (by omega) (by omega) (by omega);have eR:=c1.ajP bq (λe he=>c1.Qh (ux e he)) (λe he=>c1.jW.tick (ux e he)) (by omega);suffices asr:N' [some (.ae (eH ns)),none,none,none,none,none,none,none,none,none,none]=some (.d9 (.bool true)) by
  unfold vV cT;simp only[c9,g6,d_,l5,uY,q3];exact congrArg (λo=>Option.bind o _) asr
 unfold N';refine tm (t:=b3 p) (by simp only[aX,args,aJ,aa,iC,cv,et,al5,xp]) ?_;simp only[kf,jL];refine tm (t:=.tuple (row.map bS)) (by simp only[aX,args,aJ,aa,l4,iC,cv,et,al6,uR]) ?_;simp only[kf,jL];refine jP (Fd rfl) ?_;simp only[kf,jL];refine jP (Fd rfl) ?_;simp only[kf,jL];show seq _ _ (LE ns p row [] [] none none none none none none)=_;refine jP (ε':=LE ns p row row row jG pO i4 i5 jH none) ?_ ?_
 ·show fb _ (eA [(bH 5),(bH 6)]) atb _=_
  unfold fb;rw[show lD (ik (aJ 2)) (LE ns p row [] [] none none none none none none)=some (((row.map bS).zipIdx 0).map λq=>.tuple [.int q.2,q.1]) from rfl];exact xL
 refine jP (Fd rfl) ?_
 show seq _ _ (LE ns p row row row jG pO i4 i5 jH (some (.obj .own 1 (ek p []))))=_
 refine jP (ε':=LE ns p row row row jG xq i4 i5 jH (some (.obj .own 1 (ek p row)))) ?_ ?_
 ·unfold fb;have br:d3 1 ma 4 [] (LE ns p row row row jG pO i4 i5 jH (some (.obj .own 1 (ek p []))))=some (.tuple (row.map bS)):=(ajO (i:=4) (md:=.own) (p:=p) (es:=row) (pre:=iJ.chain p (hn p) row) (c:=kA p (hn p) row) _ rfl).trans (Nv (by have:=k9.l;omega));have bT:eO (aX c1.r2 [(aJ 1),(aX c1.qp [(d3 1 ma 4 [])])]) (LE ns p row row row jG pO i4 i5 jH (some (.obj .own 1 (ek p []))))=some (row.map bS):=by
   unfold eO;rw[c1.sD (t:=b3 p) rfl (by rw[c1.gZ br];exact d9),eR];rfl
  rw[bT];exact aG
 refine M3 (Lj ((cr (i:=10) (os:=ek p row) hk rfl).trans (vJ aF k9)) ((cr (i:=4) (os:=ek p row) hk rfl).trans (vJ aF k9)) (DA aF k9)) ?_
 refine jP (ε':=LE ns p row row [] jG v6 i4 i5 jH (some (.obj .own 1 (ek p row)))) ?_ ?_
 ·unfold fb;rw[show eO (aJ 2) (LE ns p row row row jG xq i4 i5 jH (some (.obj .own 1 (ek p row))))=some (row.map bS) from rfl];exact aS
 have aQ:=tP (o:=oEq) (a:=jS hk [.o 4]) (b:=pJ 1 hk (mF 1 nF [(aJ 1)]) []) (ε:=LE ns p row row [] jG v6 i4 i5 jH (some (.obj .own 1 (ek p row)))) ((cr (i:=4) (os:=ek p []) hk rfl).trans (vJ aF h0)) (y:=A p []) (by
  unfold pJ;rw[dQ rfl];exact vJ aF h0) (UB (DA aF h0))
 have a7:=tP (o:=oEq) (a:=d3 1 ki 4 []) (b:=aX rh [(aJ 1)]) (ε:=LE ns p row row [] jG v6 i4 i5 jH (some (.obj .own 1 (ek p row)))) (Di (i:=4) (md:=.own) (p:=p) (es:=[]) (pre:=[]) (c:=hn p) rfl) (y:=ee (hn p)) (by rw[c1.gZ (t:=b3 p) rfl];exact US p (by omega) aF.wp) (UB (UA aF.begun));unfold bO;rw[c1.mm aQ λ_=>a7];rfl
end o3
end
end
section
namespace o3
open PySem PySem.Spec PyProof.Rows bG D bI c1 iJ
set_option hygiene false in
local macro_rules | `(unop% lk ($f, $jF, $fe, $n, $q, $s, $a, $b, $c, $d, $e, $g, $h)) => `(K.lookup $f = some ⟨$jF, $fe, .func (qX $n $q (as3 $s) (i' $s) (bQ $s) .none $a $b $c $d $e $g), $h⟩)
set_option hygiene false in
local macro_rules | `(binop% cd $c $q) => `(PySem.W.codeIn K $c $q = true)
set_option hygiene false in
local macro_rules | `(unop% aC $c) => `(mQ K (.ref $c) = true)
set_option hygiene false in
local macro_rules | `(unop% eW $c) => `(PySem.W.isFn K (.ref $c) = true)
set_option hygiene false in
local macro_rules | `(binop% ns $q $c) => `(PySem.W.nsIn K kP $q = some (some (.ref $c)))
set_option hygiene false in
local macro_rules | `(unop% zn $q) => `(PySem.W.nsIn K kP $q = some none)
set_option hygiene false in
local macro_rules | `(unop% fn ($C, $q, $c)) => `(lY K (.ref $C) $q = some (some (.ref $c)))
set_option hygiene false in
local macro_rules | `(binop% asF $C $q) => `(lY K (.ref $C) $q = some none)
local macro_rules | `(unop% mo $x) => `(($x).mono (by decide))
set_option hygiene false in
local macro_rules | `(unop% bL ($f $n $as*)) => `($f (P := l.prog) (w := w) (mg := mg) (base := base) (k := $n) $as*)
def all_mk{l:PySem.W.OpenLaw}{w:cB}{K:bb}{h:bX}{mg:Str->Option ak}{cp bC cU f1 f2 gJ f4 gK zS G6 f8 G9 GF GG GH GI GJ GK GL GN GO GP GQ GR GS GU GV GW GX zq atc zt zu zv GY atd zx zy zz zA GZ zB zC zD zE zF zG zH zI zJ zK zL G0 zM zN zO zP zQ G1 G2 zR zT G3 zU G4 zV G5 zW zX zY zZ G7 z0 G8 t8 t5 o_ t7 t6:asq}{ahg _l ahr _w ahB _G ahM _R ahX aac ah8 aan aii aay aim aaB ain aaC ahh _m ahi _n ahj _o ahk _p ahl _q ahm _r ahn _s aho _t ahp _u ahq _v ahs _x aht _y ahu _z ahv _A ahw _B ahx _C ahy _D ahz _E ahA _F ahC _H ahD _I ahE _J ahF _K ahG _L ahH _M ahI _N ahJ _O ahK _P ahL _Q ahN _S ahO _T ahP _U ahQ _V ahR _W ahS _X ahT _Y ahU _Z ahV aaa ahW aab ahY aad ahZ aae ah0 aaf ah1 aag ah2 aah ah3 aai ah4 aaj ah5 aak ah6 aal ah7 aam ah9 aao ah_ aap ah' aaq aia aar aib aas aic aat aid aau aie aav aif aaw aih aax aij aaz aik aaA ail OR ais aio aip air aiq:Option asq}{aj1 lj akj aku akF akQ ak1 ak5 ak6 aj2 aj3 aj4 aj5 aj6 aj7 aj8 aj9 aj_ aj' aka akb akc akd ake akf akg akh aki akk akl akm akn ako akp akq akr aks akt akv akw akx aky akz akA akB akC akD akE akG akH akI akJ akK akL akM akN akO akP akR akS akT akU akV akW akX akY akZ ak0 ak2 ak3 ak4 ak' ak7 ak8 ak_ ak9:Array (Option ak)}{af' aeB abR aiA OV aaI agk aeM ab2 aiL O6 aaT agu aeW aca aiV Pe aa3 agF ae7 acn ai6 Pq abc agQ afg acz ajf PD abn ag1 afr acK ajq PO abz aha afC acV ajB P0 abK ahe afF acY ajE P4 abN ahf afG acZ ajF P5 abO aga aeC abS aiB OW aaJ agb aeD abT aiC OX aaK agc aeE abU aiD OY aaL agd aeF abV aiE OZ aaM age aeG abW aiF O0 aaN agf aeH abX aiG O1 aaO agg aeI abY aiH O2 aaP agh aeJ abZ aiI O3 aaQ agi aeK ab0 aiJ O4 aaR agj aeL ab1 aiK O5 aaS agl aeN ab3 aiM O7 aaU agm aeO ab4 aiN O8 aaV agn aeP ab5 aiO O9 aaW ago aeQ ab6 aiP O_ aaX agp aeR ab7 aiQ O' aaY agq aeS ab8 aiR Pa aaZ agr aeT ab9 aiS Pb aa0 ags aeU ab_ aiT Pc aa1 agt aeV ab' aiU Pd aa2 agv aeX acb aiW Pf aa4 agw aeY acd aiX Pg aa5 agx aeZ ace aiY Ph aa6 agy ae0 acf aiZ Pj aa7 agz ae1 acg ai0 Pk aa8 agA ae2 ach ai1 Pl aa9 agB ae3 aci ai2 Pm aa_ agC ae4 acj ai3 Pn aa' agD ae5 ack ai4 Po aba agE ae6 acm ai5 Pp abb agG ae8 aco ai7 Pr abd agH ae9 acp ai8 Pt abe agI ae_ acq ai9 Pu abf agJ ae' acr ai_ Pw abg agK afa acs ai' Px abh agL afb acu aja Py abi agM afc acv ajb Pz abj agN afd acw ajc PA abk agO afe acx ajd PB abl agP aff acy aje PC abm agR afh acA ajg PE abo agS afi acB ajh PF abp agT afj acC aji PG abq agU afk acD ajj PH abr agV afl acE ajk PI abt agW afm acF ajl PJ abu agX afn acG ajm PK abv agY afo acH ajn PL abw agZ afp acI ajo PM abx ag0 afq acJ ajp PN aby ag2 afs acL ajr PQ abA ag3 aft acM ajs PR abB ag4 afu acN ajt PS abC ag5 afv acO aju PT abD ag6 afw acP ajv PU abE ag7 afx acQ ajw PV abF ag8 afy acR ajx PW abG ag9 afz acS ajy PX abH ag_ afA acT ajz PY abI ag' afB acU ajA PZ abJ ahb afD acW ajC P1 abL ahc afE acX ajD P2 abM ahd Q0 P' Rk Gn P_:ak}{alM alN alO alB alC alD alE Lf Le alJ alK alG alH:Tok}{afX afT afU afW afV:Nat}(X:K.In h)(G:h.Ns kP mg)(adM:mg "law"=some (.ref cp))(Fc:binop%ns "Course" bC)(KJ:PySem.W.plainGet K bC Str.empty=true)(Hm:PySem.W.hasDictIn K bC=true)(KO:PySem.W.plainOver K bC=true)(K7:lY K (.ref bC) "__setattr__"=some (some (.builtin "object.__setattr__")))(J_:PySem.W.makesIn K bC=true)(IZ:unop%aC bC)(Ki:binop%asF bC "plan")(Kj:binop%asF bC "mode")(Kn:binop%asF bC "left")(Ko:binop%asF bC "came")(Kp:binop%asF bC "lines")(Kq:binop%asF bC "shunts")(Kr:binop%asF bC "siren")(Ks:binop%asF bC "alarms")(Kt:binop%asF bC "tries")(Ku:binop%asF bC "locked")(Kk:binop%asF bC "used")(Kl:binop%asF bC "past")(Km:binop%asF bC "told")(Fb:binop%ns "Box" cU)(KI:PySem.W.plainGet K cU Str.empty=true)(Hl:PySem.W.hasDictIn K cU=true)(KN:PySem.W.plainOver K cU=true)(K6:lY K (.ref cU) "__setattr__"=some (some (.builtin "object.__setattr__")))(J9:PySem.W.makesIn K cU=true)(IY:unop%aC cU)(Kf:binop%asF cU "plan")(Kg:binop%asF cU "events")(Kh:binop%asF cU "states")(a1:binop%ns "_law_drawn" f1)(bZ:unop%lk (f1,af',ahg,"_law_drawn","_law_drawn",CQ,aeB,abR,aiA,_l,OV,aaI,aj1))(c6:binop%cd OV "_law_drawn")(ei:unop%aC f1)(a2:binop%ns "_law_plan" f2)(b1:unop%lk (f2,agk,ahr,"_law_plan","_law_plan",yj,aeM,ab2,aiL,_w,O6,aaT,lj))(dv:binop%cd O6 "_law_plan")(dB:unop%aC f2)(m9:binop%ns "_law_event" gJ)(AO:unop%lk (gJ,agu,ahB,"_law_event","_law_event",CP,aeW,aca,aiV,_G,Pe,aa3,akj))(fl:binop%cd Pe "_law_event")(iS:unop%aC gJ)(o9:binop%ns "_law_row" f4)(Jr:unop%lk (f4,agF,ahM,"_law_row","_law_row",yp,ae7,acn,ai6,_R,Pq,abc,aku))(asy:binop%cd Pq "_law_row")(iT:unop%aC f4)(wc:binop%ns "begun" gK)(JC:unop%lk (gK,agQ,ahX,"begun","begun",vm,afg,acz,ajf,aac,PD,abn,akF))(jd:binop%cd PD "begun")(IH:unop%aC gK)(wd:unop%fn (cU,"__init__",zS))(H8:unop%eW zS)(JN:unop%lk (zS,ag1,ah8,"__init__","Box.__init__",B1,afr,acK,ajq,aan,PO,abz,akQ))(ze:binop%cd PO "Box.__init__")(IL:unop%aC zS)(E6:binop%ns "is_text" G6)(JY:unop%lk (G6,aha,aii,"is_text","is_text",yb,afC,acV,ajB,aay,P0,abK,ak1))(Gg:binop%cd P0 "is_text")(IS:unop%aC G6)(E_:binop%ns "number_of" f8)(J2:unop%lk (f8,ahe,aim,"number_of","number_of",Cf,afF,acY,ajE,aaB,P4,abN,ak5))(Gk:binop%cd P4 "number_of")(IV:unop%aC f8)(E':binop%ns "numbers_of" G9)(J3:unop%lk (G9,ahf,ain,"numbers_of","numbers_of",xT,afG,acZ,ajF,aaC,P5,abO,ak6))(Gl:binop%cd P5 "numbers_of")(IW:unop%aC G9)(D7:binop%ns "event_from" GF)(I0:unop%lk (GF,aga,ahh,"event_from","event_from",B_,aeC,abS,aiB,_m,OW,aaJ,aj2))(Ff:binop%cd OW "event_from")(Ij:unop%aC GF)(D8:binop%ns "text_of" GG)(I1:unop%lk (GG,agb,ahi,"text_of","text_of",x',aeD,abT,aiC,_n,OX,aaK,aj3))(Fg:binop%cd OX "text_of")(Ik:unop%aC GG)(D9:binop%ns "number_text" GH)(I2:unop%lk (GH,agc,ahj,"number_text","number_text",B3,aeE,abU,aiD,_o,OY,aaL,aj4))(Fh:binop%cd OY "number_text")(Il:unop%aC GH)(D_:binop%ns "event_parts" GI)(I3:unop%lk (GI,agd,ahk,"event_parts","event_parts",B4,aeF,abV,aiE,_p,OZ,aaM,aj5))(Fi:binop%cd OZ "event_parts")(Im:unop%aC GI)(D':binop%ns "row_text" GJ)(I4:unop%lk (GJ,age,ahl,"row_text","row_text",xZ,aeG,abW,aiF,_q,O0,aaN,aj6))(Fj:binop%cd O0 "row_text")(Io:unop%aC GJ)(Ea:binop%ns "rows_of" GK)(I5:unop%lk (GK,agf,ahm,"rows_of","rows_of",ya,aeH,abX,aiG,_r,O1,aaO,aj7))(Fl:binop%cd O1 "rows_of")(Ip:unop%aC GK)(Eb:binop%ns "is_tuple" GL)(I6:unop%lk (GL,agg,ahn,"is_tuple","is_tuple",Cx,aeI,abY,aiH,_s,O2,aaP,aj8))(Fm:binop%cd O2 "is_tuple")(Iq:unop%aC GL)(Ec:binop%ns "has_zone" GN)(I7:unop%lk (GN,agh,aho,"has_zone","has_zone",x1,aeJ,abZ,aiI,_t,O3,aaQ,aj9))(Fn:binop%cd O3 "has_zone")(Ir:unop%aC GN)(Ed:binop%ns "is_line_event" GO)(I8:unop%lk (GO,agi,ahp,"is_line_event","is_line_event",BP,aeK,ab0,aiJ,_u,O4,aaR,aj_))(Fo:binop%cd O4 "is_line_event")(It:unop%aC GO)(Ee:binop%ns "is_figures" GP)(I9:unop%lk (GP,agj,ahq,"is_figures","is_figures",B9,aeL,ab1,aiK,_v,O5,aaS,aj'))(Fp:binop%cd O5 "is_figures")(Iu:unop%aC GP)(Ef:binop%ns "is_code_event" GQ)(I_:unop%lk (GQ,agl,ahs,"is_code_event","is_code_event",BQ,aeN,ab3,aiM,_x,O7,aaU,aka))(Fq:binop%cd O7 "is_code_event")(Iv:unop%aC GQ)(Eg:binop%ns "is_whole" GR)(I':unop%lk (GR,agm,aht,"is_whole","is_whole",Cw,aeO,ab4,aiN,_y,O8,aaV,akb))(Fs:binop%cd O8 "is_whole")(Iw:unop%aC GR)(Eh:binop%ns "is_ticks_event" GS)(Ja:unop%lk (GS,agn,ahu,"is_ticks_event","is_ticks_event",BI,aeP,ab5,aiO,_z,O9,aaW,akc))(Ft:binop%cd O9 "is_ticks_event")(Iy:unop%aC GS)(Ei:binop%ns "is_event" GU)(Jb:unop%lk (GU,ago,ahv,"is_event","is_event",Cy,aeQ,ab6,aiP,_A,O_,aaX,akd))(Fu:binop%cd O_ "is_event")(Iz:unop%aC GU)(Ej:binop%ns "read_row" GV)(Jc:unop%lk (GV,agp,ahw,"read_row","read_row",vd,aeR,ab7,aiQ,_B,O',aaY,ake))(Fv:binop%cd O' "read_row")(IA:unop%aC GV)(Ek:binop%ns "_law_cell_at" GW)(Jd:unop%lk (GW,agq,ahx,"_law_cell_at","_law_cell_at",Cg,aeS,ab8,aiR,_C,Pa,aaZ,akf))(Fw:binop%cd Pa "_law_cell_at")(IB:unop%aC GW)(El:binop%ns "_law_mixed" GX)(Je:unop%lk (GX,agr,ahy,"_law_mixed","_law_mixed",CO,aeT,ab9,aiS,_D,Pb,aa0,akg))(Fx:binop%cd Pb "_law_mixed")(IC:unop%aC GX)(Em:unop%fn (cU,"state",zq))(HH:unop%eW zq)(Jf:unop%lk (zq,ags,ahz,"state","Box.state",Ck,aeU,ab_,aiT,_E,Pc,aa1,akh))(Fy:binop%cd Pc "Box.state")(Af:unop%aC zq)(En:binop%ns "shown" atc)(Jg:unop%lk (atc,agt,ahA,"shown","shown",tv,aeV,ab',aiU,_F,Pd,aa2,aki))(Fz:binop%cd Pd "shown")(ID:unop%aC atc)(Eo:binop%ns "shown_rows" atc)(Ep:unop%fn (cU,"shown",zt))(HI:unop%eW zt)(Jh:unop%lk (zt,agv,ahC,"shown","Box.shown",Cm,aeX,acb,aiW,_H,Pf,aa4,akk))(FA:binop%cd Pf "Box.shown")(Ag:unop%aC zt)(Er:unop%fn (bC,"__init__",zu))(HJ:unop%eW zu)(Ji:unop%lk (zu,agw,ahD,"__init__","Course.__init__",as2,aeY,acd,aiX,_I,Pg,aa5,akl))(FC:binop%cd Pg "Course.__init__")(IE:unop%aC zu)(Es:unop%fn (bC,"tell",zv))(HK:unop%eW zv)(Jj:unop%lk (zv,agx,ahE,"tell","Course.tell",B5,aeZ,ace,aiY,_J,Ph,aa6,akm))(FD:binop%cd Ph "Course.tell")(Ah:unop%aC zv)(Et:binop%ns "kind_of" GY)(Jk:unop%lk (GY,agy,ahF,"kind_of","kind_of",CS,ae0,acf,aiZ,_K,Pj,aa7,akn))(FE:binop%cd Pj "kind_of")(IF:unop%aC GY)(Eu:unop%fn (bC,"be_loud",atd))(HL:unop%eW atd)(Jl:unop%lk (atd,agz,ahG,"be_loud","Course.be_loud",BM,ae1,acg,ai0,_L,Pk,aa8,ako))(FF:binop%cd Pk "Course.be_loud")(Ai:unop%aC atd)(Ew:unop%fn (bC,"alarm",zx))(HM:unop%eW zx)(Jm:unop%lk (zx,agA,ahH,"alarm","Course.alarm",B0,ae2,ach,ai1,_M,Pl,aa9,akp))(FG:binop%cd Pl "Course.alarm")(Aj:unop%aC zx)(Ex:unop%fn (bC,"come_in",zy))(HN:unop%eW zy)(Jn:unop%lk (zy,agB,ahI,"come_in","Course.come_in",BL,ae3,aci,ai2,_N,Pm,aa_,akq))(FH:binop%cd Pm "Course.come_in")(Ak:unop%aC zy)(Ey:unop%fn (bC,"disturb",zz))(HO:unop%eW zz)(Jo:unop%lk (zz,agC,ahJ,"disturb","Course.disturb",BK,ae4,acj,ai3,_O,Pn,aa',akr))(FI:binop%cd Pn "Course.disturb")(Al:unop%aC zz)(Ez:unop%fn (bC,"line",zA))(HP:unop%eW zA)(Jp:unop%lk (zA,agD,ahK,"line","Course.line",B6,ae5,ack,ai4,_P,Po,aba,aks))(FJ:binop%cd Po "Course.line")(Am:unop%aC zA)(EA:binop%ns "code_of" GZ)(Jq:unop%lk (GZ,agE,ahL,"code_of","code_of",CT,ae6,acm,ai5,_Q,Pp,abb,akt))(FK:binop%cd Pp "code_of")(IG:unop%aC GZ)(EB:unop%fn (bC,"is_used_up",zB))(HQ:unop%eW zB)(Js:unop%lk (zB,agG,ahN,"is_used_up","Course.is_used_up",BD,ae8,aco,ai7,_S,Pr,abd,akv))(FL:binop%cd Pr "Course.is_used_up")(An:unop%aC zB)(EC:unop%fn (bC,"take_wrong",zC))(HR:unop%eW zC)(Jt:unop%lk (zC,agH,ahO,"take_wrong","Course.take_wrong",BB,ae9,acp,ai8,_T,Pt,abe,akw))(FN:binop%cd Pt "Course.take_wrong")(Ao:unop%aC zC)(ED:unop%fn (bC,"is_untimely",zD))(HS:unop%eW zD)(Ju:unop%lk (zD,agI,ahP,"is_untimely","Course.is_untimely",Bz,ae_,acq,ai9,_U,Pu,abf,akx))(FO:binop%cd Pu "Course.is_untimely")(Ap:unop%aC zD)(EE:unop%fn (bC,"bare_zones",zE))(HT:unop%eW zE)(Jv:unop%lk (zE,agJ,ahQ,"bare_zones","Course.bare_zones",u3,ae',acr,ai_,_V,Pw,abg,aky))(FP:binop%cd Pw "Course.bare_zones")(Aq:unop%aC zE)(EF:unop%fn (bC,"what_is_against",zF))(HU:unop%eW zF)(Jw:unop%lk (zF,agK,ahR,"what_is_against","Course.what_is_against",By,afa,acs,ai',_W,Px,abh,akz))(FQ:binop%cd Px "Course.what_is_against")(Ar:unop%aC zF)(EG:unop%fn (bC,"end_leaving",zG))(HV:unop%eW zG)(Jx:unop%lk (zG,agL,ahS,"end_leaving","Course.end_leaving",BA,afb,acu,aja,_X,Py,abi,akA))(FR:binop%cd Py "Course.end_leaving")(As:unop%aC zG)(EH:unop%fn (bC,"do_set",zH))(HW:unop%eW zH)(Jy:unop%lk (zH,agM,ahT,"do_set","Course.do_set",BS,afc,acv,ajb,_Y,Pz,abj,akB))(FT:binop%cd Pz "Course.do_set")(Au:unop%aC zH)(EI:unop%fn (bC,"do_unset",zI))(HX:unop%eW zI)(Jz:unop%lk (zI,agN,ahU,"do_unset","Course.do_unset",BH,afd,acw,ajc,_Z,PA,abk,akC))(FU:binop%cd PA "Course.do_unset")(Av:unop%aC zI)(EJ:unop%fn (bC,"do_deed",zJ))(HY:unop%eW zJ)(JA:unop%lk (zJ,agO,ahV,"do_deed","Course.do_deed",BJ,afe,acx,ajd,aaa,PB,abl,akD))(FV:binop%cd PB "Course.do_deed")(Aw:unop%aC zJ)(EK:unop%fn (bC,"take_right",zK))(HZ:unop%eW zK)(JB:unop%lk (zK,agP,ahW,"take_right","Course.take_right",BC,aff,acy,aje,aab,PC,abm,akE))(FW:binop%cd PC "Course.take_right")(Ax:unop%aC zK)(EL:unop%fn (bC,"code",zL))(H0:unop%eW zL)(JD:unop%lk (zL,agR,ahY,"code","Course.code",B7,afh,acA,ajg,aad,PE,abo,akG))(FX:binop%cd PE "Course.code")(Ay:unop%aC zL)(EM:binop%ns "lessened" G0)(JE:unop%lk (G0,agS,ahZ,"lessened","lessened",Cv,afi,acB,ajh,aae,PF,abp,akH))(FY:binop%cd PF "lessened")(II:unop%aC G0)(EN:unop%fn (bC,"count_down",zM))(H2:unop%eW zM)(JF:unop%lk (zM,agT,ah0,"count_down","Course.count_down",BF,afj,acC,aji,aaf,PG,abq,akI))(FZ:binop%cd PG "Course.count_down")(Az:unop%aC zM)(EO:unop%fn (bC,"end_coming",zN))(H3:unop%eW zN)(JG:unop%lk (zN,agU,ah1,"end_coming","Course.end_coming",BE,afk,acD,ajj,aag,PH,abr,akJ))(F0:binop%cd PH "Course.end_coming")(AA:unop%aC zN)(EP:unop%fn (bC,"end_time",zO))(H4:unop%eW zO)(JH:unop%lk (zO,agV,ah2,"end_time","Course.end_time",BG,afl,acE,ajk,aah,PI,abt,akK))(F1:binop%cd PI "Course.end_time")(AB:unop%aC zO)(ER:unop%fn (bC,"ticks",zP))(H5:unop%eW zP)(JI:unop%lk (zP,agW,ah3,"ticks","Course.ticks",BY,afm,acF,ajl,aai,PJ,abu,akL))(F2:binop%cd PJ "Course.ticks")(AD:unop%aC zP)(ES:unop%fn (bC,"happen",zQ))(H6:unop%eW zQ)(JJ:unop%lk (zQ,agX,ah4,"happen","Course.happen",BR,afn,acG,ajm,aaj,PK,abv,akM))(F3:binop%cd PK "Course.happen")(AE:unop%aC zQ)(ET:binop%ns "course_of" G1)(JK:unop%lk (G1,agY,ah5,"course_of","course_of",Ci,afo,acH,ajn,aak,PL,abw,akN))(F4:binop%cd PL "course_of")(IJ:unop%aC G1)(EU:binop%ns "story" G2)(JL:unop%lk (G2,agZ,ah6,"story","story",Dh,afp,acI,ajo,aal,PM,abx,akO))(F5:binop%cd PM "story")(IK:unop%aC G2)(EV:unop%fn (cU,"row",zR))(H7:unop%eW zR)(JM:unop%lk (zR,ag0,ah7,"row","Box.row",CU,afq,acJ,ajp,aam,PN,aby,akP))(F6:binop%cd PN "Box.row")(AF:unop%aC zR)(EW:unop%fn (cU,"log",zT))(H9:unop%eW zT)(JO:unop%lk (zT,ag2,ah9,"log","Box.log",CV,afs,acL,ajr,aao,PQ,abA,akR))(F7:binop%cd PQ "Box.log")(AG:unop%aC zT)(EX:binop%ns "_law_asked" G3)(JP:unop%lk (G3,ag3,ah_,"_law_asked","_law_asked",CR,aft,acM,ajs,aap,PR,abB,akS))(F8:binop%cd PR "_law_asked")(IM:unop%aC G3)(EY:unop%fn (cU,"need_zone",zU))(H_:unop%eW zU)(JQ:unop%lk (zU,ag4,ah',"need_zone","Box.need_zone",BU,afu,acN,ajt,aaq,PS,abC,akT))(F9:binop%cd PS "Box.need_zone")(AH:unop%aC zU)(EZ:binop%ns "words" G4)(JR:unop%lk (G4,ag5,aia,"words","words",yo,afv,acO,aju,aar,PT,abD,akU))(F_:binop%cd PT "words")(IP:unop%aC G4)(E0:unop%fn (bC,"state",zV))(H':unop%eW zV)(JS:unop%lk (zV,ag6,aib,"state","Course.state",BZ,afw,acP,ajv,aas,PU,abE,akV))(F':binop%cd PU "Course.state")(AI:unop%aC zV)(E1:binop%ns "gone" G5)(JT:unop%lk (G5,ag7,aic,"gone","gone",Dq,afx,acQ,ajw,aat,PV,abF,akW))(Ga:binop%cd PV "gone")(IQ:unop%aC G5)(E2:unop%fn (cU,"happen",zW))(Ia:unop%eW zW)(JU:unop%lk (zW,ag8,aid,"happen","Box.happen",B',afy,acR,ajx,aau,PW,abG,akX))(Gb:binop%cd PW "Box.happen")(AJ:unop%aC zW)(E3:unop%fn (cU,"line",zX))(Ib:unop%eW zX)(JV:unop%lk (zX,ag9,aie,"line","Box.line",CA,afz,acS,ajy,aav,PX,abH,akY))(Gd:binop%cd PX "Box.line")(AK:unop%aC zX)(E4:unop%fn (cU,"code",zY))(Ic:unop%eW zY)(JW:unop%lk (zY,ag_,aif,"code","Box.code",CB,afA,acT,ajz,aaw,PY,abI,akZ))(Ge:binop%cd PY "Box.code")(AL:unop%aC zY)(E5:unop%fn (cU,"ticks",zZ))(Ie:unop%eW zZ)(JX:unop%lk (zZ,ag',aih,"ticks","Box.ticks",Cj,afB,acU,ajA,aax,PZ,abJ,ak0))(Gf:binop%cd PZ "Box.ticks")(AM:unop%aC zZ)(E7:binop%ns "_law_do" G7)(JZ:unop%lk (G7,ahb,aij,"_law_do","_law_do",Dp,afD,acW,ajC,aaz,P1,abL,ak2))(Gh:binop%cd P1 "_law_do")(IT:unop%aC G7)(E8:unop%fn (cU,"undo",z0))(Ig:unop%eW z0)(J0:unop%lk (z0,ahc,aik,"undo","Box.undo",Cz,afE,acX,ajD,aaA,P2,abM,ak3))(Gi:binop%cd P2 "Box.undo")(AN:unop%aC z0)(E9:binop%ns "law" G8)(J1:unop%lk (G8,ahd,ail,"law","law",tM,Q0,P',Rk,OR,Gn,P_,ak4))(Gj:binop%cd Gn "law")(IU:unop%aC G8)(nO:unop%zn "enumerate")(dO:unop%zn "tuple")(oJ:unop%zn "range")(gQ:unop%zn "len")(oI:unop%zn "all")(lF:unop%zn "isinstance")(nP:unop%zn "str")(rl:unop%zn "ord")(tp:unop%zn "int")(tn:unop%zn "bool")(lG:unop%zn "zip")(rj:unop%zn "dict")(rk:unop%zn "list")(asV:unop%zn "sorted")(tq:unop%zn "max")(wy:binop%ns "LINES" t8)(KW:K.lookup t8=some ⟨.type "tuple",ais,.seq #[.str "shut" alM,.str "open" alN,.str "cut" alO] afX,ak'⟩)(wt:binop%ns "DEEDS_ALONE" t5)(KR:K.lookup t5=some ⟨.type "tuple",aio,.seq #[.str "set" alB,.str "unset" alC] afT,ak7⟩)(uh:binop%ns "DEEDS_OF_ZONES" o_)(KS:K.lookup o_=some ⟨.type "tuple",aip,.seq #[.str "shunt" alD,.str "free" alE] afU,ak8⟩)(asT:PySem.W.nsIn K kP "WRONG_IN_A_ROW"=some (some (.int 3 Lf)))(asS:PySem.W.nsIn K kP "TICKS_LOCKED"=some (some (.int 90 Le)))(wx:binop%ns "KINDS_SHUT_TO_SET" t7)(KV:K.lookup t7=some ⟨.type "tuple",air,.seq #[.str "day" alJ,.str "once" alK] afW,ak_⟩)(wu:binop%ns "KINDS_LEFT_BY" t6)(KU:K.lookup t6=some ⟨.type "tuple",aiq,.seq #[.str "inner" alG,.str "way" alH] afV,ak9⟩):
  ∃fd:fX,(∀(s:aP) (v:ak),BindsTo s fd ⟨[v],[]⟩ [("_law_script",v)])/\∀base:bX,K.In base->base.Ns kP mg->eY l.prog w K mg base eX 16 cp fd ["_law_script"] (@spT t0 K 1 vV):=by
 have e:=adM.symm.trans (d1 X G E9);cases e;refine⟨qX "law" "law" (as3 tM) (i' tM) (bQ tM) .none Q0 P' Rk OR Gn P_,λs v=>.of_eq rfl,λbase _ _=>?_⟩;letI tt:cV:=⟨[],λc=>match c with|0=>["plan","mode","left","came","lines","shunts","siren","alarms","tries","locked","used","past","told"]|1=>["plan","events","states"]|_=>[],λc=>match c with|0=>some bC|1=>some cU|_=>none⟩;have a0:fu K 0 bC ["plan","mode","left","came","lines","shunts","siren","alarms","tries","locked","used","past","told"]:=⟨rfl,rfl,⟨KJ,Hm,KO,K7⟩,by decide +kernel,λf hf=>by
  simp only[asu,eu,or_false] at hf;rcases hf with rfl|rfl|rfl|rfl|rfl|rfl|rfl|rfl|rfl|rfl|rfl|rfl|rfl
  ·exact Ki
  ·exact Kj
  ·exact Kn
  ·exact Ko
  ·exact Kp
  ·exact Kq
  ·exact Kr
  ·exact Ks
  ·exact Kt
  ·exact Ku
  ·exact Kk
  ·exact Kl
  ·exact Km,by decide⟩
 have cI:fu K 1 cU ["plan","events","states"]:=⟨rfl,rfl,⟨KI,Hl,KN,K6⟩,by decide +kernel,λf hf=>by
  simp only[asu,eu,or_false] at hf;rcases hf with rfl|rfl|rfl
  ·exact Kf
  ·exact Kg
  ·exact Kh,by decide⟩
 replace nO:=kS X G nO;replace dO:=kS X G dO;replace oJ:=kS X G oJ;replace gQ:=kS X G gQ;replace oI:=kS X G oI;replace lF:=kS X G lF;replace nP:=kS X G nP;replace rl:=kS X G rl;replace tp:=kS X G tp;replace tn:=kS X G tn;replace lG:=kS X G lG;replace rj:=kS X G rj;replace rk:=kS X G rk;replace asV:=kS X G asV;replace tq:=kS X G tq;replace wy:=d1 X G wy;have alV:∃(o:Obj) (its:Array ak) (n:Nat),K.lookup t8=some o/\o.cls=.type "tuple"/\o.data=.seq its n/\its.size<=b8/\Vals ((["shut","open","cut"]:List Str).map V.str) its.toList:=⟨_,_,_,KW,rfl,rfl,by show 3<=b8;decide,(.cons ⟨_,rfl⟩ (.cons ⟨_,rfl⟩ (.cons ⟨_,rfl⟩ .nil)))⟩;replace wt:=d1 X G wt;have alS:∃(o:Obj) (its:Array ak) (n:Nat),K.lookup t5=some o/\o.cls=.type "tuple"/\o.data=.seq its n/\its.size<=b8/\Vals ((["set","unset"]:List Str).map V.str) its.toList:=⟨_,_,_,KR,rfl,rfl,by show 2<=b8;decide,(.cons ⟨_,rfl⟩ (.cons ⟨_,rfl⟩ .nil))⟩;replace uh:=d1 X G uh;have RL:∃(o:Obj) (its:Array ak) (n:Nat),K.lookup o_=some o/\o.cls=.type "tuple"/\o.data=.seq its n/\its.size<=b8/\Vals ((["shunt","free"]:List Str).map V.str) its.toList:=⟨_,_,_,KS,rfl,rfl,by show 2<=b8;decide,(.cons ⟨_,rfl⟩ (.cons ⟨_,rfl⟩ .nil))⟩;replace asT:=d1 X G asT;replace asS:=d1 X G asS;replace wx:=d1 X G wx;have alU:∃(o:Obj) (its:Array ak) (n:Nat),K.lookup t7=some o/\o.cls=.type "tuple"/\o.data=.seq its n/\its.size<=b8/\Vals ((["day","once"]:List Str).map V.str) its.toList:=⟨_,_,_,KV,rfl,rfl,by show 2<=b8;decide,(.cons ⟨_,rfl⟩ (.cons ⟨_,rfl⟩ .nil))⟩;replace wu:=d1 X G wu;have alT:∃(o:Obj) (its:Array ak) (n:Nat),K.lookup t6=some o/\o.cls=.type "tuple"/\o.data=.seq its n/\its.size<=b8/\Vals ((["inner","way"]:List Str).map V.str) its.toList:=⟨_,_,_,KU,rfl,rfl,by show 2<=b8;decide,(.cons ⟨_,rfl⟩ (.cons ⟨_,rfl⟩ .nil))⟩;have aY:=cO (st:=CQ) bZ c6 ei;have Ol:=unop%bL (tg 0 aY (d1 X G a1));have dq:=cO (st:=yj) b1 dv dB;have W6:=unop%bL (M_ 1 dq (d1 X G a2) nO (unop%mo Ol) dO oJ);have iL:=cO (st:=CP) AO fl iS;have W4:=unop%bL (ML 0 iL (d1 X G m9) gQ);have il:=cO (st:=yp) Jr asy iT;have W7:=unop%bL (Dk 1 il (d1 X G o9) dO (unop%mo W4) gQ oJ (unop%mo Ol));have lK:=cO (st:=vm) JC jd IH;have Oh:=unop%bL (yv 0 lK (d1 X G wc) dO);have X4:=cO (st:=B1) JN ze IL;have Wn:=unop%bL (amJ 1 X4 ⟨J9,wd,H8,IY⟩ (d1 X G Fb) cI (unop%mo Oh));have oW:=cO (st:=yb) JY Gg IS;have Oj:=unop%bL (yh 0 oW (d1 X G E6) oI lF gQ nP);have oX:=cO (st:=Cf) J2 Gk IV;have W9:=unop%bL (Mg 1 oX (d1 X G E_) (unop%mo Oj) gQ rl);have Yh:=cO (st:=xT) J3 Gl IW;have W':=unop%bL (Mb 2 Yh (d1 X G E') dO (unop%mo W9));have Xg:=cO (st:=B_) I0 Ff Ij;have WR:=unop%bL (Md 3 Xg (d1 X G D7) dO (unop%mo W') gQ);have Xh:=cO (st:=x') I1 Fg Ik;have Xe:=unop%bL (MJ 0 Xh (d1 X G D8));have Xi:=cO (st:=B3) I2 Fh Il;have W_:=unop%bL (L5 0 Xi (d1 X G D9) nP);have Xj:=cO (st:=B4) I3 Fi Im;have WS:=unop%bL (L6 1 Xj (d1 X G D_) (unop%mo W_));have Xk:=cO (st:=xZ) I4 Fj Io;have Om:=unop%bL (x6 2 Xk (d1 X G D') (unop%mo Xe) (unop%mo WS));have Xl:=cO (st:=ya) I5 Fl Ip;have Xb:=unop%bL (MK 0 Xl (d1 X G Ea));have Xm:=cO (st:=Cx) I6 Fm Iq;have DV:=unop%bL (tc 0 Xm (d1 X G Eb) lF dO gQ)
 have Xn:=cO (st:=x1) I7 Fn Ir;have Oi:=unop%bL (x8 0 Xn (d1 X G Ec));have Xo:=cO (st:=BP) I8 Fo It;have WX:=unop%bL (LR 1 Xo (d1 X G Ed) (unop%mo DV) (unop%mo Oi) wy alV);have Xp:=cO (st:=B9) I9 Fp Iu;have WW:=unop%bL (Mc 1 Xp (d1 X G Ee) (unop%mo Oj));have Xq:=cO (st:=BQ) I_ Fq Iv;have WU:=unop%bL (LS 2 Xq (d1 X G Ef) (unop%mo Oi) (unop%mo DV) (unop%mo WW) wt alS uh RL);have Xr:=cO (st:=Cw) I' Fs Iw;have WZ:=unop%bL (Mr 0 Xr (d1 X G Eg) lF tp tn);have Xs:=cO (st:=BI) Ja Ft Iy;have WY:=unop%bL (LN 1 Xs (d1 X G Eh) (unop%mo DV) (unop%mo WZ));have Xt:=cO (st:=Cy) Jb Fu Iz;have WV:=unop%bL (Ms 3 Xt (d1 X G Ei) (unop%mo WX) (unop%mo WU) (unop%mo WY));have Xu:=cO (st:=vd) Jc Fv IA;have Xa:=unop%bL (Mq 4 Xu (d1 X G Ej) dO (unop%mo WR) oI (unop%mo Om) (unop%mo Xb) (unop%mo WV));have Xv:=cO (st:=Cg) Jd Fw IB;have W2:=unop%bL (Mh 0 Xv (d1 X G Ek) gQ);have Xw:=cO (st:=CO) Je Fx IC;have W5:=unop%bL (yg 1 Xw (d1 X G El) (unop%mo W2));have Xx:=cO (st:=Ck) Jf Fy Af;have y0:=unop%bL (asL 0 Xx (⟨Em,HH,Af⟩) cI);have Oo:=cO (st:=tv) Jg Fz ID;have arV:=unop%bL (arw 0 Oo (d1 X G En) dO lG);have Xc:=unop%bL (Ma 0 Oo (d1 X G Eo) dO lG);have Xy:=cO (st:=Cm) Jh FA Ag;have Ws:=unop%bL (Mj 1 Xy (⟨Ep,HI,Ag⟩) cI (unop%mo Xc) (unop%mo y0));have Xz:=cO (st:=as2) Ji FC IE;have Wv:=unop%bL (amm 0 Xz ⟨J_,Er,HJ,IZ⟩ (d1 X G Fc) a0 rj rk lG);have XA:=cO (st:=B5) Jj FD Ah;have m4:=unop%bL (g7 0 XA (⟨Es,HK,Ah⟩) a0);have XB:=cO (st:=CS) Jk FE IF;have DW:=unop%bL (th 0 XB (d1 X G Et));have XC:=cO (st:=BM) Jl FF Ai;have Of:=unop%bL (xG 0 XC (⟨Eu,HL,Ai⟩) a0);have XD:=cO (st:=B0) Jm FG Aj;have ata:=unop%bL (oA 1 XD (⟨Ew,HM,Aj⟩) a0 (unop%mo Of) (unop%mo m4));have XE:=cO (st:=BL) Jn FH Ak;have Wx:=unop%bL (LQ 2 XE (⟨Ex,HN,Ak⟩) a0 (unop%mo m4) (unop%mo ata));have XF:=cO (st:=BK) Jo FI Al;have Wz:=unop%bL (LP 3 XF (⟨Ey,HO,Al⟩) a0 (unop%mo DW) (unop%mo ata) (unop%mo m4) (unop%mo Wx));have XG:=cO (st:=B6) Jp FJ Am;have WJ:=unop%bL (L7 4 XG (⟨Ez,HP,Am⟩) a0 (unop%mo m4) (unop%mo Wz));have XH:=cO (st:=CT) Jq FK IG;have WQ:=unop%bL (MM 0 XH (d1 X G EA));have XI:=cO (st:=BD) Js FL An;have WI:=unop%bL (LB 0 XI (⟨EB,HQ,An⟩) a0);have XJ:=cO (st:=BB) Jt FN Ao;have WM:=unop%bL (Lz 1 XJ (⟨EC,HR,Ao⟩) a0 (unop%mo m4) (unop%mo Of) asT asS);have XK:=cO (st:=Bz) Ju FO Ap;have WH:=unop%bL (Ly 1 XK (⟨ED,HS,Ap⟩) a0 (unop%mo DW));have XM:=cO (st:=u3) Jv FP Aq;have Oe:=unop%bL (xC 0 XM (⟨EE,HT,Aq⟩) a0);have XN:=cO (st:=By) Jw FQ Ar;have WO:=unop%bL (Lw 2 XN (⟨EF,HU,Ar⟩) a0 (unop%mo WH) (unop%mo Oe) wx alU);have XO:=cO (st:=BA) Jx FR As;have Og:=unop%bL (xy 2 XO (⟨EG,HV,As⟩) a0 (unop%mo m4) (unop%mo Oe) (unop%mo ata) wu alT);have XP:=cO (st:=BS) Jy FT Au
 have WB:=unop%bL (LV 3 XP (⟨EH,HW,Au⟩) a0 (unop%mo m4) (unop%mo Og));have XQ:=cO (st:=BH) Jz FU Av;have WC:=unop%bL (LJ 1 XQ (⟨EI,HX,Av⟩) a0 (unop%mo m4));have XR:=cO (st:=BJ) JA FV Aw;have WA:=unop%bL (LO 4 XR (⟨EJ,HY,Aw⟩) a0 (unop%mo WB) (unop%mo WC) asV (unop%mo m4));have XS:=cO (st:=BC) JB FW Ax;have WL:=unop%bL (LA 5 XS (⟨EK,HZ,Ax⟩) a0 (unop%mo WO) (unop%mo WA) (unop%mo m4));have XT:=cO (st:=B7) JD FX Ay;have Ww:=unop%bL (L8 6 XT (⟨EL,H0,Ay⟩) a0 (unop%mo WQ) (unop%mo m4) (unop%mo WI) (unop%mo WM) (unop%mo WL));have XU:=cO (st:=Cv) JE FY II;have W8:=unop%bL (x7 0 XU (d1 X G EM) tq);have XW:=cO (st:=BF) JF FZ Az;have Wy:=unop%bL (xB 1 XW (⟨EN,H2,Az⟩) a0 (unop%mo W8));have XX:=cO (st:=BE) JG F0 AA;have WD:=unop%bL (LC 2 XX (⟨EO,H3,AA⟩) a0 (unop%mo ata));have XY:=cO (st:=BG) JH F1 AB;have WE:=unop%bL (LI 3 XY (⟨EP,H4,AB⟩) a0 (unop%mo Og) (unop%mo WD));have XZ:=cO (st:=BY) JI F2 AD;have WN:=unop%bL (LX 4 XZ (⟨ER,H5,AD⟩) a0 (unop%mo Wy) (unop%mo WE));have X0:=cO (st:=BR) JJ F3 AE;have WG:=unop%bL (LU 7 X0 (⟨ES,H6,AE⟩) a0 (unop%mo WJ) (unop%mo Ww) (unop%mo WN));have X1:=cO (st:=Ci) JK F4 IJ;have DU:=unop%bL (s_ 8 X1 (d1 X G ET) a0 (unop%mo Wv) (unop%mo WG));have X2:=cO (st:=Dh) JL F5 IK;have Xd:=unop%bL (Nu 10 X2 (d1 X G EU) a0 dO (unop%mo DU));have X3:=cO (st:=CU) JM F6 AF;have DT:=unop%bL (ti 0 X3 (⟨EV,H7,AF⟩) cI dO);have X5:=cO (st:=CV) JO F7 AG;have Wr:=unop%bL (MN 11 X5 (⟨EW,H9,AG⟩) cI (unop%mo Xd) (unop%mo DT));have X6:=cO (st:=CR) JP F8 IM;have W0:=unop%bL (oG 12 X6 (d1 X G EX) cI (unop%mo y0) (unop%mo Ws) (unop%mo Wr) (unop%mo DT));have X7:=cO (st:=BU) JQ F9 AH;have Od:=unop%bL (xK 1 X7 (⟨EY,H_,AH⟩) cI (unop%mo DW));have X8:=cO (st:=yo) JR F_ IP;have Xf:=unop%bL (Nt 10 X8 (d1 X G EZ) a0 dO (unop%mo DU));have X9:=cO (st:=BZ) JS F' AI;have WK:=unop%bL (LY 0 X9 (⟨E0,H',AI⟩) a0 dO);have X_:=cO (st:=Dq) JT Ga IQ;have WT:=unop%bL (NY 10 X_ (d1 X G E1) a0 (unop%mo WK) (unop%mo DU));have Ya:=cO (st:=B') JU Gb AJ;have DS:=unop%bL (s8 11 Ya (⟨E2,Ia,AJ⟩) cI (unop%mo Xf) (unop%mo WT) (unop%mo y0));have Yb:=cO (st:=CA) JV Gd AK;have Wq:=unop%bL (Mt 12 Yb (⟨E3,Ib,AK⟩) cI (unop%mo Od) (unop%mo DS));have Yc:=cO (st:=CB) JW Ge AL;have Wo:=unop%bL (Mu 12 Yc (⟨E4,Ic,AL⟩) cI (unop%mo DS) (unop%mo Od) uh RL);have Yd:=cO (st:=Cj) JX Gf AM;have Wt:=unop%bL (Mi 12 Yd (⟨E5,Ie,AM⟩) cI (unop%mo DS));have Ye:=cO (st:=Dp) JZ Gh IT;have W3:=unop%bL (vI 13 Ye (d1 X G E7) cI (unop%mo Wq) (unop%mo Wo) (unop%mo Wt));have Yf:=cO (st:=Cz) J0 Gi AN;have Wu:=unop%bL (CH 0 Yf (⟨E8,Ig,AN⟩) cI);have Yg:=cO (st:=tM) J1 Gj IU;exact ars rfl (Z_ (k:=14) Yg cI (unop%mo W6) (unop%mo W7) (unop%mo Wn) nO (unop%mo Xa) (unop%mo W5) (unop%mo W0) (unop%mo W3) (unop%mo Om) (unop%mo Wu) (unop%mo DT) (unop%mo y0) (unop%mo Oh))
def walk{l:PySem.W.OpenLaw}{q:cJ}{loose:List Str}{t4:(Str->Option ak)->bX->Prop}{qj:cB->bX->Prop}{d:DefRec}{K:Params->bb}(a9:l.most=some 63)(wD:d.params.defaults=[])(hN:∀w:cB,Ra (K w.params)=true)(Hf:∀(w:cB) (h:bX),qj w h->(K w.params).In h)(F:∀(w:cB) (mg:Str->Option ak) (cp:asq) (h:bX),(K w.params).In h->h.Ns kP mg->mg d.name=some (.ref cp) ->
   ∃fd:fX,(∀(s:aP) (u:ak),BindsTo s fd ⟨[u],[]⟩ [("_law_script",u)])/\∀base:bX,(K w.params).In base->base.Ns kP mg->eY l.prog w (K w.params) mg base eX 16 cp fd ["_law_script"] (@spT t0 (K w.params) 1 vV)):
  PySem.W.WalkO q loose t4 qj l.row.toRowW d [] (λf vs=>PySem.call f vs):=
 bG.al4 (n:=63) (k:=16) (x:="_law_script") (eb:=λ_=>eX) (sp:=λw=>@spT t0 (K w.params) 1 vV) a9 (by decide) wD ⟨rfl,by decide,by decide,rfl⟩ Hf F (λw _ _ ns aB _ e3=>aos (hN w) (ap1 ns aB) e3) λ_ _ _ _ _ z=>z
end o3
open PySem PySem.W PyProof.Rows
set_option maxRecDepth 100000 in
set_option maxHeartbeats 0 in
theorem PySem.Challenge.cw_doorwatch_k41_whole_rows_done_anew_holds : PySem.Challenge.rw_doorwatch_k41_whole_rows_done_anew.Holds := by
 w_on;o_law;k_head;(case hw=>w_witness2)
 k_fill
 refine o3.walk (l:=PySem.Challenge.rw_doorwatch_k41_whole_rows_done_anew) rfl rfl ?L (λw h Y=>PySem.W.kIn_of Y) ?F
 case L=>
  intro w
  first|rfl|(with_unfolding_all rfl)|kernel_rfl
 case F=>
  intro w mg cp h nU G wI;refine' o3.all_mk nU G wI ?Fc ?KJ ?Hm ?KO ?K7 ?J_ ?IZ ?Ki ?Kj ?Kn ?Ko ?Kp ?Kq ?Kr ?Ks ?Kt ?Ku ?Kk ?Kl ?Km ?Fb ?KI ?Hl ?KN ?K6 ?J9 ?IY ?Kf ?Kg ?Kh ?a1 ?bZ ?c6 ?ei ?a2 ?b1 ?dv ?dB ?m9 ?AO ?fl ?iS ?o9 ?Jr ?asy ?iT ?wc ?JC ?jd ?IH ?wd ?H8 ?JN ?ze ?IL ?E6 ?JY ?Gg ?IS ?E_ ?J2 ?Gk ?IV ?E' ?J3 ?Gl ?IW ?D7 ?I0 ?Ff ?Ij ?D8 ?I1 ?Fg ?Ik ?D9 ?I2 ?Fh ?Il ?D_ ?I3 ?Fi ?Im ?D' ?I4 ?Fj ?Io ?Ea ?I5 ?Fl ?Ip ?Eb ?I6 ?Fm ?Iq ?Ec ?I7 ?Fn ?Ir ?Ed ?I8 ?Fo ?It ?Ee ?I9 ?Fp ?Iu ?Ef ?I_ ?Fq ?Iv ?Eg ?I' ?Fs ?Iw ?Eh ?Ja ?Ft ?Iy ?Ei ?Jb ?Fu ?Iz ?Ej ?Jc ?Fv ?IA ?Ek ?Jd ?Fw ?IB ?El ?Je ?Fx ?IC ?Em ?HH ?Jf ?Fy ?Af ?En ?Jg ?Fz ?ID ?Eo ?Ep ?HI ?Jh ?FA ?Ag ?Er ?HJ ?Ji ?FC ?IE ?Es ?HK ?Jj ?FD ?Ah ?Et ?Jk ?FE ?IF ?Eu ?HL ?Jl ?FF ?Ai ?Ew ?HM ?Jm ?FG ?Aj ?Ex ?HN ?Jn ?FH ?Ak ?Ey ?HO ?Jo ?FI ?Al ?Ez ?HP ?Jp ?FJ ?Am ?EA ?Jq ?FK ?IG ?EB ?HQ ?Js ?FL ?An ?EC ?HR ?Jt ?FN ?Ao ?ED ?HS ?Ju ?FO ?Ap ?EE ?HT ?Jv ?FP ?Aq ?EF ?HU ?Jw ?FQ ?Ar ?EG ?HV ?Jx ?FR ?As ?EH ?HW ?Jy ?FT ?Au ?EI ?HX ?Jz ?FU ?Av ?EJ ?HY ?JA ?FV ?Aw ?EK ?HZ ?JB ?FW ?Ax ?EL ?H0 ?JD ?FX ?Ay ?EM ?JE ?FY ?II ?EN ?H2 ?JF ?FZ ?Az ?EO ?H3 ?JG ?F0 ?AA ?EP ?H4 ?JH ?F1 ?AB ?ER ?H5 ?JI ?F2 ?AD ?ES ?H6 ?JJ ?F3 ?AE ?ET ?JK ?F4 ?IJ ?EU ?JL ?F5 ?IK ?EV ?H7 ?JM ?F6 ?AF ?EW ?H9 ?JO ?F7 ?AG ?EX ?JP ?F8 ?IM ?EY ?H_ ?JQ ?F9 ?AH ?EZ ?JR ?F_ ?IP ?E0 ?H' ?JS ?F' ?AI ?E1 ?JT ?Ga ?IQ ?E2 ?Ia ?JU ?Gb ?AJ ?E3 ?Ib ?JV ?Gd ?AK ?E4 ?Ic ?JW ?Ge ?AL ?E5 ?Ie ?JX ?Gf ?AM ?E7 ?JZ ?Gh ?IT ?E8 ?Ig ?J0 ?Gi ?AN ?E9 ?J1 ?Gj ?IU ?nO ?dO ?oJ ?gQ ?oI ?lF ?nP ?rl ?tp ?tn ?lG ?rj ?rk ?asV ?tq ?wy ?KW ?wt ?KR ?uh ?KS ?asT ?asS ?wx ?KV ?wu ?KU
  (case Fc|KJ|Hm|KO|K7|J_|IZ|Ki|Kj|Kn|Ko|Kp|Kq|Kr|Ks|Kt|Ku|Kk|Kl|Km|Fb|KI|Hl|KN|K6|J9|IY|Kf|Kg=>k_is)
  (case Kh|a1|bZ|c6|ei|a2|b1|dv|dB|m9|AO|fl|iS|o9|Jr|asy|iT|wc|JC|jd|IH|wd|H8|JN|ze|IL|E6|JY|Gg|IS|E_|J2|Gk|IV|E'|J3|Gl|IW|D7|I0|Ff|Ij|D8|I1|Fg|Ik|D9|I2|Fh|Il|D_|I3|Fi|Im|D'|I4|Fj=>k_is)
  (case Io|Ea|I5|Fl|Ip|Eb|I6|Fm|Iq|Ec|I7|Fn|Ir|Ed|I8|Fo|It|Ee|I9|Fp|Iu|Ef|I_|Fq|Iv|Eg|I'|Fs|Iw|Eh|Ja|Ft|Iy|Ei|Jb|Fu|Iz|Ej|Jc|Fv|IA|Ek|Jd|Fw|IB|El|Je|Fx|IC|Em|HH=>k_is)
  (case Jf|Fy|Af|En|Jg|Fz|ID|Eo|Ep|HI|Jh|FA|Ag|Er|HJ|Ji|FC|IE|Es|HK|Jj|FD|Ah|Et|Jk|FE|IF|Eu|HL|Jl|FF|Ai|Ew|HM|Jm|FG|Aj|Ex|HN|Jn|FH|Ak|Ey|HO|Jo|FI|Al|Ez|HP|Jp|FJ=>k_is)
  (case Am|EA|Jq|FK|IG|EB|HQ|Js|FL|An|EC|HR|Jt|FN|Ao|ED|HS|Ju|FO|Ap|EE|HT|Jv|FP|Aq|EF|HU|Jw|FQ|Ar|EG|HV|Jx|FR|As|EH|HW|Jy|FT|Au|EI|HX|Jz|FU|Av|EJ|HY|JA|FV|Aw|EK=>k_is)
  (case HZ|JB|FW|Ax|EL|H0|JD|FX|Ay|EM|JE|FY|II|EN|H2|JF|FZ|Az|EO|H3|JG|F0|AA|EP|H4|JH|F1|AB|ER|H5|JI|F2|AD|ES|H6|JJ|F3|AE|ET|JK|F4|IJ|EU|JL|F5|IK|EV|H7|JM|F6|AF=>k_is)
  (case EW|H9|JO|F7|AG|EX|JP|F8|IM|EY|H_|JQ|F9|AH|EZ|JR|F_|IP|E0|H'|JS|F'|AI|E1|JT|Ga|IQ|E2|Ia|JU|Gb|AJ|E3|Ib|JV|Gd|AK|E4|Ic|JW|Ge|AL|E5|Ie|JX|Gf|AM|E7|JZ|Gh|IT=>k_is)
  (case E8|Ig|J0|Gi|AN|E9|J1|Gj|IU|nO|dO|oJ|gQ|oI|lF|nP|rl|tp|tn|lG|rj|rk|asV|tq|wy|KW|wt|KR|uh|KS|asT=>k_is)
  (case asS|wx|KV|wu|KU=>k_is)
end
end
