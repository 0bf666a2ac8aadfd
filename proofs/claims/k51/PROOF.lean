import PyProof.Rows.All
import Wide.All
import OpenK.AllK
import Wide.FinOn
import Lean
import PyProof.EqAt
import PyProof.EqKinds
import PyProof.TupleCall
import PyProof.P3Statements
import KE.KSortTup
import PyProof.AttrMissHeap
import PyProof.ZipIter
import PyProof.Draws
import PyProof.ListMulRoad
import Wide.Seal
import KE.KLam
import KE.KNest
import KE.KNestM
import KE.KIsAll
import PyProof.ExcArgs
import PyProof.ReprStr
import PyProof.FString
import PyProof.FitsInt
import KE.KMinKey
import KE.KIntText
import KE.IntTextText
import PySem.Challenge.RW_doorwatch_k51_texts_or_not
set_option Elab.async false
set_option linter.all false
set_option compiler.extract_closed false
set_option genSizeOfSpec false
set_option maxRecDepth 100000
set_option maxHeartbeats 0
open PySem renaming Value → av, Addr → aq, Around → dk, World → cf, Heap → bP, Expr → bk
open PySem.W renaming Frag → a', keepIn → al6, findIn → xJ, codeIn → sX, fnOf → lx, mg_of → cQ, mg_none_of → kK, kitOne → iO, codeHdIn → u_
open Option renaming bind_eq_some_iff → cW, map_eq_some_iff → hh, bind_some → bM, map_some → dt
open PySem renaming wpAny_bind → aZ, Shared → aP, wpAny_pure → cc, starEach → bL, FuncData → fa, sizeLine → b', mainGlobals → i_, Program → c3, wpAny → bE, wpAny_mono → fA, mem_of_lookup → xM, wpAny_holding → u6, backTo → fl, wpAny_Call_Name_kw → s8, wpAny_field → h1, wpAny_callSpecial?_slot → pU, wpAny_seqItems → q_, wpAny_pyIter_tuple → xO, compareOp → g0, wpAny_newObj_type → nf, codeAny_mono → s9, wpAny_call_entry → pV, wpAny_setField_rec → u7, behindInMarks → ox, wpAny_truthy_bool → ng, codeAny → jb, assignEach → pW, call_meets → nh, binaryOp → kc, NameKind → lB, model → bN, foldedSetIterable → amf
open PySem.Heap renaming get?_push_of_some → dI, lt_size → dj, get?_push_size → hJ, size_push → m'
open List renaming mem_cons_of_mem → ew, mem_cons → bC, map_cons → eI, mem_cons_self → m_, replicate → dT, size_toArray → eE, getElem?_eq_some_iff → gy, mem_map → b2, getElem?_eq_getElem → hK, length_cons → fM, mem_singleton → ka, mem_append → gz, length_map → dy, getElem?_map → alZ, map_nil → lz, mem_append_right → ou, lookup_cons → nc, set_cons_zero → hZ, set_cons_succ → ip, getElem?_append_right → u3, getElem?_append_left → u4, replicate_succ → q7, append_nil → ov, zip_cons_cons → AU, length_append → iq, flatten_cons → s7, not_mem_nil → de, getElem?_cons_zero → gN, getElem?_cons_succ → u5, cons_append → xN, map_map → dW
open Nat renaming le_refl → eo, lt_of_lt_of_le → il, ne_of_lt → eg, ne_of_gt → sY, le_trans → nd, zero_le → ow, le_add_right → g4
open PySem.Builtin.SmallTypes renaming nextOf → pQ, ownedTupleIsFree → AS
open PySem.Builtin.Tuple renaming tupleExact → pS
open Bool renaming and_eq_true → cX, false_eq_true → q8, false_ne_true → kb
open PySem.PyData renaming depthAll → i', canLayAll0 → jB, str → hL, eqv → kL, depth → jC
open PyProof.Rows renaming slot_tuple_getitem → u2, callWith_type1 → xK
open PySem.Builtin.Slice renaming slicePlaces → sZ
open False renaming elim → eX
open Array renaming length_toList → q9
open PySem.PassesOwn renaming never → s6
open PySem.F renaming slot_tuple_iterator_next → AV
open Option.some renaming inj → iN
open Int renaming emod_nonneg → ja, emod_lt_of_pos → lA
namespace PySem.W.Fast
def tw12168869396564036520:=0
def tw14248732383503707472:=0
def tw74078494239871945:=0
def tw9269435913664303362:=0
def tw14154713690619298917:=0
def tw798840661035097905:=0
def tw2673367352572336622:=0
def tw1627463026683424837:=0
def tw13475353464449015384:=0
def tw11494513608661652167:=0
def tw7179790221035924788:=0
def tw2816359380390987762:=0
def tw14072007212997574125:=0
def tw12829205183499525631:=0
def tw5118330737684131111:=0
def tw8516618024396248010:=0
def tw10168085540636989373:=0
def tw6353798243064464108:=0
def tw1099500544693453224:=0
def tw9906948153323498749:=0
def tw10946463603043859699:=0
def tw2326580902229740087:=0
def tw10658452404941956407:=0
def tw5993106578077873177:=0
def tw5129221142581724580:=0
def tw10248340474572840623:=0
def tw13769204125631324853:=0
def tw15260127528751045920:=0
def tw16950879612619175047:=0
def tw6266969083344480672:=0
def tw10636938588330259214:=0
def tw13068467162598880530:=0
def tw6025175741691063464:=0
def tw12156016328697333968:=0
def tw7265767059758796059:=0
def tw11678555008305773152:=0
def tw8651257711038695600:=0
def tw1078606180541727207:=0
def tw18264746512021751845:=0
def tw13415400683100885889:=0
def tw16652534654491143978:=0
def tw2289035680319801811:=0
def tw16329835103177485442:=0
def tw1658303574837384185:=0
def tw1651236610817078158:=0
def tw16741332241827353179:=0
def tw17016567270004987571:=0
def tw18227447308832518834:=0
def tw5369613998354390521:=0
def tw8735240394839948420:=0
def tw8919486461292415827:=0
def tw7429476776002482309:=0
def tw6007468418461459402:=0
def tw11129166556605617946:=0
def tw8304056422067078643:=0
def tw6645991539996936516:=0
def tw9279404702669444884:=0
def tw10914948878521179842:=0
def tw6530362869304770997:=0
def tw5357939359772884848:=0
def tw17357013978720124938:=0
def tw650967436157492852:=0
def tw13875082607442353093:=0
def tw17838334665214476848:=0
def tw15675155707531991057:=0
def tw2350517628917740008:=0
def tw5800875674840440644:=0
def tw16517635211875299299:=0
def tw856214963420205588:=0
def tw1322026234047344723:=0
def tw2458373300117524384:=0
def tw3297082197168226537:=0
def tw10539234971734763537:=0
def tw16498213669515460798:=0
def tw4554063506937472403:=0
def tw16201526030053715626:=0
def tw17690319818038781828:=0
def tw14174078200394129381:=0
def tw11440393545558629772:=0
def tw6777826704737057336:=0
def tw13228428730886254693:=0
def tw15102141927535576609:=0
def tw14270961492014272130:=0
def tw12457004753305027230:=0
def tw10280268283430952562:=0
def tw13078378978191884974:=0
def tw16125758942851430084:=0
def tw3009122075752455263:=0
def tw3220570891273033639:=0
def tw17154370671659215479:=0
def tw6886052464346478704:=0
def tw9729201310973650260:=0
def tw3158837223216004260:=0
def tw13839563845525004356:=0
def tw6913578311326381724:=0
def tw14990380331125416029:=0
def tw8010216780574579121:=0
def tw11702968847576986365:=0
def tw16574030330346119992:=0
def tw15100833732529394256:=0
def tw15779458760915076834:=0
def tw10482836605868060402:=0
def tw18118088176556267086:=0
def tw10212198157575003720:=0
def tw12330760345091616753:=0
def tw9435613356015982562:=0
def tw11848166163031620482:=0
def tw13161541801348254413:=0
def tw6193324895282342520:=0
def tw3806021887531992763:=0
def tw7838193382952859188:=0
def tw14336190262049516241:=0
def tw6013257177374855234:=0
def tw1875078335368063462:=0
def tw3230868794105470138:=0
def tw10894232563714756778:=0
def tw11689752192725931189:=0
def tw5302263025924725041:=0
def tw17899781933428826960:=0
def tw8341883249600983698:=0
def tw897825735184985759:=0
def tw1455429395762625108:=0
def tw1421206035145905082:=0
def tw13983182315909815181:=0
def tw16662619697994589242:=0
def tw7372276567429814419:=0
def tw18375190566191935821:=0
def tw7586937051677502666:=0
def tw11459109006799401411:=0
def tw15223367663100354639:=0
def tw7536918137232749646:=0
def tw10543854605058056709:=0
def tw17757402037786998068:=0
def tw16100795664912424933:=0
def tw12784749098310508418:=0
def tw10314941836922773535:=0
end PySem.W.Fast
noncomputable section
section
namespace bB
open PySem PySem.Spec PyProof.Rows
abbrev Key:=Sum Int Str
def amr:Key->av->Bool
|.inl k,v=>Value.isInt k v
|.inr x,v=>Value.isStrOf x v
def Zf(w:cf):Key->Int
|.inl k=>hashInt k
|.inr x=>hashStr w x
def p3:∀{k:Key} {v:av},amr k v=true->(∃i t,k=Sum.inl i/\v=Value.int i t)\/(∃x t,k=Sum.inr x/\v=Value.str x t)
|.inl i,v,h=>by
  obtain⟨t,e⟩:=Value.isInt_shape (k:=i) (v:=v) h;exact .inl ⟨i,t,rfl,e⟩
|.inr x,v,h=>by
  obtain⟨t,e⟩:=Value.isStrOf_shape (x:=x) (v:=v) h;exact .inr ⟨x,t,rfl,e⟩
def aj9(a b:Int):decide ((Sum.inl a:Key)=Sum.inl b)=(a==b):=by
 by_cases e:a=b
 ·subst e;simp
 ·have h:¬(Sum.inl a:Key)=Sum.inl b:=λq=>e (Sum.inl.inj q);rw[decide_eq_false h];exact (beq_eq_false_iff_ne.mpr e).symm
def aj6(a b:Str):decide ((Sum.inr a:Key)=Sum.inr b)=decide (a=b):=by
 by_cases e:a=b
 ·subst e;simp
 ·have h:¬(Sum.inr a:Key)=Sum.inr b:=λq=>e (Sum.inr.inj q);rw[decide_eq_false h,decide_eq_false e]
def aj8(a:Int)(b:Str):decide ((Sum.inl a:Key)=Sum.inr b)=false:=decide_eq_false (λq=>nomatch q)
def aj7(a:Str)(b:Int):decide ((Sum.inr a:Key)=Sum.inl b)=false:=decide_eq_false (λq=>nomatch q)
noncomputable def J0(prog:c3)(w:cf):PySem.KeyKind prog w Key where
 is:=amr
 hash:=Zf w
 inj:=λv a b aA ag=>by
  rcases p3 aA with ⟨i,t,rfl,rfl⟩|⟨x,t,rfl,rfl⟩
  ·rcases p3 ag with ⟨j,u,rfl,e⟩|⟨y,u,rfl,e⟩
   ·injection e with aE _;rw[aE]
   ·exact nomatch e
  ·rcases p3 ag with ⟨j,u,rfl,e⟩|⟨y,u,rfl,e⟩
   ·exact nomatch e
   ·injection e with aE _;rw[aE]
 byValue:=λk v h=>by
  rcases p3 h with ⟨i,t,rfl,rfl⟩|⟨x,t,rfl,rfl⟩ <;> rfl
 pyHash:=λba h=>by
  rcases p3 ba with ⟨i,t,rfl,rfl⟩|⟨x,t,rfl,rfl⟩
  ·exact wpAny_pyHash_int h
  ·exact wpAny_pyHash_str h
 eqBool:=λcM ba h=>by
  rcases p3 cM with ⟨i,t,rfl,rfl⟩|⟨x,t,rfl,rfl⟩
  ·rcases p3 ba with ⟨j,u,rfl,rfl⟩|⟨y,u,rfl,rfl⟩
   ·rw[aj9] at h;exact wpAny_eqBool_int h
   ·rw[aj8] at h;exact SeqAt.EqAt.int_str i t y u _ _ _ _ h
  ·rcases p3 ba with ⟨j,u,rfl,rfl⟩|⟨y,u,rfl,rfl⟩
   ·rw[aj7] at h;exact SeqAt.EqAt.str_int x t j u _ _ _ _ h
   ·rw[aj6] at h;exact wpAny_eqBool_str h
 «strs»:=λk x t v h=>by
  rcases p3 h with ⟨i,u,rfl,e⟩|⟨y,u,rfl,e⟩
  ·exact nomatch e
  ·injection e with aE _
   subst aE;cases v <;> rfl
end bB
namespace bB
open PySem PySem.Spec PyProof.Rows
inductive V where
|eA|bw (b:Bool)|int (i:Int)|str (x:Str)|lS (b:Array UInt8)|zL (b:UInt64)|ref (a:aq)|ty (n:String)
 deriving DecidableEq
noncomputable def RelV:V->av->Prop
|.eA,u=>u=Value.none
|.bw b,u=>u=Value.bool b
|.int i,u=>∃t,u=Value.int i t
|.str x,u=>∃t,u=Value.str x t
|.lS b,u=>∃t,u=Value.bytes b t
|.zL b,u=>∃t,u=Value.float b t
|.ref a,u=>u=Value.ref a
|.ty n,u=>u=Value.type n
abbrev Vals:List V->List av->Prop:=Paired RelV
theorem Vals.length{xs:List V}{us:List av}(r:Vals xs us):xs.length=us.length:=Paired.length r
theorem Vals.get:∀{xs:List V} {us:List av} {i:Nat} {x:V},Vals xs us->xs[i]?=some x->∃u,us[i]?=some u/\RelV x u
|_,_,_,_,.nil,e=>by simp at e
|_,_,0,_,.cons r _,e=>by simp at e;subst e;exact⟨_,rfl,r⟩
|_,_,i+1,x,.cons _ t,e=>by
  obtain⟨u,ah,ao⟩:=Vals.get (i:=i) (x:=x) t (by simpa using e);exact⟨u,by simpa using ah,ao⟩
theorem Vals.append:∀{xs ys:List V} {us ws:List av},Vals xs us->Vals ys ws->Vals (xs++ys) (us++ws)
|_,_,_,_,.nil,s=>s
|_,_,_,_,.cons r t,s=>.cons r (Vals.append t s)
theorem Vals.take:∀{xs:List V} {us:List av} (n:Nat),Vals xs us->Vals (xs.take n) (us.take n)
|_,_,0,_=>.nil
|_,_,_+1,.nil=>.nil
|_,_,n+1,.cons r t=>.cons r (Vals.take n t)
theorem Vals.drop:∀{xs:List V} {us:List av} (n:Nat),Vals xs us->Vals (xs.drop n) (us.drop n)
|_,_,0,r=>r
|_,_,_+1,.nil=>.nil
|_,_,n+1,.cons _ t=>Vals.drop n t
def Lg:Option V->Option av->Prop
|some v,some u=>RelV v u
|none,none=>True
|_,_=>False
def CS{amb:Type}:List (amb×V)->List (amb×av)->Prop:=Paired λ(p:amb×V) (q:amb×av)=>p.1=q.1/\RelV p.2 q.2
def gv:Key->V
|.inl i=>.int i
|.inr x=>.str x
inductive ey where
|lst (xs:List V)
|tup (xs:List V)
|ji (dc:List (Key×V))|ui (dc:List (List Key×V))
|set (S:Int->Bool) (n:Nat)
|ins (C iF:aq) (a6:List (Str×V))
|own (x:aq)
|gZ (a6:List (Str×V))
|met (f x:aq)
|jx (lo hi:Int)
|jQ (o:Obj) (u:ey)
|hH (ps:Array av)
|ext (nF:bP->Prop)
abbrev aF:=aq->Option ey
def upd(H:aF)(a:aq)(o:ey):aF:=λb=>if b=a then some o else H b
def ep{H:aF}{a:aq}{o:ey}:upd H a o a=some o:=by unfold upd;rw[if_pos rfl]
def cp{H:aF}{a b:aq}{o:ey}(h:b≠a):upd H a o b=H b:=by unfold upd;rw[if_neg h]
def gB{H:aF}{a b:aq}{o:ey}(h:H a=some o)(h':H b=none):a≠b:=by
 intro e;subst e;rw[h] at h';cases h'
section
variable (P:c3)(w:cf)
noncomputable def kl(H:aF)(h:bP)(a:aq):ey->Prop
|.lst xs=>xs.length<=b'/\∃(its:List av) (n:Nat),Vals xs its/\h.get? a=some {cls:=.type "list",data:=.seq its.toArray n}
|.tup xs=>xs.length<=b'/\∃its:List av,Vals xs its/\IsTup h a its.toArray
|.ji dc=>dc.length<=b'/\(a==sysModules)=false/\∃vs,CS dc vs/\h.DictOf (J0 P w) a vs
|.ui dc=>dc.length<=b'/\(a==sysModules)=false/\∃xs:List (List Key×aq×av),
   Paired (λ(p:List Key×V) (q:List Key×aq×av)=>p.1=q.1/\H q.2.1=some (.tup (p.1.map gv))/\RelV p.2 q.2.2) dc xs /\
   ∃o ar cL,h.get? a=some o/\o.ExactDict/\o.data=.dict ar cL/\ar.toList=xs.map (entryOfKey (tupleKind (J0 P w)))/\(xs.map (·.1)).Nodup
|.set S n=>h.SetOf (intKind P w) a S n
|.ins C iF a6=>H iF=some (.own a)/\a6.length<=1000/\iF≠a/\h.get? a=some (PySem.W.instObj C iF) /\
   ∃od,h.Ns1 iF od/\(∀f,Lg (a6.lookup f) (od f))/\PySem.Within od (a6.map (·.1))
|.own _=>∃o,h.get? a=some o
|.gZ a6=>∃od,h.Ns1 a od/\∀f,Lg (a6.lookup f) (od f)
|.jx lo hi=>∃t u v,h.get? a=some {cls:=.type "range",data:=.fields #[.int lo t,.int hi u,.int 1 v]}
|.jQ o u=>h.get? a=some o/\kl H h a u
|.hH ps=>h.get? a=some {cls:=.none,data:=.fields ps}
|.met f x=>h.get? a=some (PySem.W.methodObj (.ref f) (.ref x))
|.ext nF=>nF h/\(∃o,h.get? a=some o)/\∀ah ao:bP,nF ah->(∀o,ah.get? a=some o->ao.get? a=some o)->nF ao
def eZ(H:aF)(h:bP):Prop:=∀a o,H a=some o->kl P w H h a o
end
section
variable {P:c3}{w:cf}{H ak:aF}{h h':bP}{a:aq}{o:ey}
theorem kl.lt(x:kl P w H h a o):a<h.objs.size:=by
 cases o with
|lst xs=>obtain⟨_,_,_,_,e⟩:=x;exact dj e
|tup xs=>obtain⟨_,_,_,p⟩:=x;exact p.lt
|ji dc=>obtain⟨_,_,_,_,o,_,_,e,_⟩:=x;exact dj e
|ui dc=>obtain⟨_,_,_,_,o,_,_,e,_⟩:=x;exact dj e
|set S n=>obtain⟨o,_,_,_,e,_⟩:=x;exact dj e
|ins C iF a6=>obtain⟨_,_,_,e,_⟩:=x;exact dj e
|own y=>obtain⟨_,e⟩:=x;exact dj e
|gZ a6=>obtain⟨_,⟨_,_,_,e,_⟩,_⟩:=x;exact dj e
|jx lo hi=>obtain⟨_,_,_,e⟩:=x;exact dj e
|jQ dH u=>obtain⟨e,_⟩:=x;exact dj e
|hH ps=>exact dj (show h.get? a=some _ from x)
|met f y=>exact dj (show h.get? a=some _ from x)
|ext nF=>obtain⟨_,⟨_,e⟩,_⟩:=x;exact dj e
theorem Paired.Nm{α β:Type}{F G:α->β->Prop}:∀{Nk:List α} {Nl:List β},Paired F Nk Nl->(∀a b,F a b->G a b)->Paired G Nk Nl
|_,_,.nil,_=>.nil
|_,_,.cons r t,f=>.cons (f _ _ r) (Paired.Nm t f)
def kl.kJ(x:kl P w H h a o)(k:∀b u,(b=a\/H b=some (.own a))->h.get? b=some u->h'.get? b=some u)
  (aT:∀b,H b=some (.own a)->ak b=some (.own a)) (aN:∀b xs,H b=some (.tup xs)->ak b=some (.tup xs)):kl P w ak h' a o:=by
 induction o with
|lst xs=>obtain⟨z,its,n,r,e⟩:=x;exact⟨z,its,n,r,k _ _ (.inl rfl) e⟩
|tup xs=>obtain⟨z,its,r,dH,e,c⟩:=x;exact⟨z,its,r,dH,k _ _ (.inl rfl) e,c⟩
|ji dc=>obtain⟨z,y,vs,r,dH,ar,cL,e,c⟩:=x;exact⟨z,y,vs,r,dH,ar,cL,k _ _ (.inl rfl) e,c⟩
|ui dc=>
  obtain⟨z,y,xs,r,dH,ar,cL,e,c⟩:=x;exact⟨z,y,xs,Paired.Nm r λp q z=>⟨z.1,aN _ _ z.2.1,z.2.2⟩,dH,ar,cL,k _ _ (.inl rfl) e,c⟩
|set S n=>obtain⟨dH,ar,cL,t,e,c⟩:=x;exact⟨dH,ar,cL,t,k _ _ (.inl rfl) e,c⟩
|ins C iF a6=>
  obtain⟨d,z,ne,e,od,⟨hb,ar,cL,aK,c⟩,r⟩:=x;exact⟨aT _ d,z,ne,k _ _ (.inl rfl) e,od,⟨hb,ar,cL,k _ _ (.inr d) aK,c⟩,r⟩
|own y=>obtain⟨dH,e⟩:=x;exact⟨dH,k _ _ (.inl rfl) e⟩
|gZ a6=>obtain⟨od,⟨hb,ar,cL,e,c⟩,r⟩:=x;exact⟨od,⟨hb,ar,cL,k _ _ (.inl rfl) e,c⟩,r⟩
|jx lo hi=>obtain⟨t,u,v,e⟩:=x;exact⟨t,u,v,k _ _ (.inl rfl) e⟩
|jQ dH u d0=>obtain⟨e,q⟩:=x;exact⟨k _ _ (.inl rfl) e,d0 q⟩
|hH ps=>
  have e:h.get? a=some {cls:=.none,data:=.fields ps}:=x;show h'.get? a=some {cls:=.none,data:=.fields ps};exact k a _ (.inl rfl) e
|met f y=>
  have e:h.get? a=some (PySem.W.methodObj (.ref f) (.ref y)):=x;show h'.get? a=some (PySem.W.methodObj (.ref f) (.ref y));exact k a _ (.inl rfl) e
|ext nF=>obtain⟨p,⟨o,e⟩,st⟩:=x;exact⟨st _ _ p λo q=>k _ _ (.inl rfl) q,⟨o,k _ _ (.inl rfl) e⟩,st⟩
theorem eZ.lt(x:eZ P w H h)(e:H a=some o):a<h.objs.size:=(x a o e).lt
def eZ.fresh(x:eZ P w H h)(e:h.objs.size<=a):H a=none:=by
 cases q:H a with
|none=>rfl
|some u=>exact absurd (il (x.lt q) e) (Nat.lt_irrefl _)
def eZ.kept(x:eZ P w H h)(k:∀b u,h.get? b=some u->h'.get? b=some u):eZ P w H h':=λa o e=>
 (x a o e).kJ (λb u _ q=>k b u q) (λ_ q=>q) λ_ _ q=>q
def eZ.laid(x:eZ P w H h)(k:∀b u,h.get? b=some u->h'.get? b=some u)(aC:h.objs.size<=a)(new:kl P w (upd H a o) h' a o):eZ P w (upd H a o) h':=λb u e=>by
 have bf:=x.fresh aC;by_cases ag:b=a
 ·subst ag;rw[ep] at e;cases e;exact new
 ·rw[cp ag] at e;exact (x b u e).kJ (λc v _ q=>k c v q) (λc q=>by rw[cp (gB q bf)];exact q) λc xs q=>by rw[cp (gB q bf)];exact q
end
def f5(H:aF)(a:aq)(u:ey):Prop:=H a=some u\/∃o,H a=some (.jQ o u)
def f5.ok{P:c3}{w:cf}{H:aF}{h:bP}{a:aq}{u:ey}(r:f5 H a u)(x:eZ P w H h):kl P w H h a u:=by
 rcases r with r|⟨o,r⟩
 ·exact x a u r
 ·obtain⟨_,q⟩:=x a _ r;exact q
def zd:Option ey->Prop
|some (.lst _)=>True
|some (.ji _)=>True
|some (.ui _)=>True
|some (.set _ _)=>True
|some (.ins _ _ _)=>True
|some (.ext _)=>True
|_=>False
section
variable {P:c3}{w:cf}{H:aF}{h h':bP}{x e:aq}{o':ey}
def eZ.write(ok:eZ P w H h)(l0:zd (H x))(he:e=x\/H e=some (.own x))(k:∀b u,b≠e->h.get? b=some u->h'.get? b=some u)(uD:∃u,h'.get? e=some u)
  (new:kl P w (upd H x o') h' x o'):eZ P w (upd H x o') h':=λb u q=>by
 have NA:∀c y,H c=some (.own y)->c≠x:=λc y r z=>by subst z;rw[r] at l0;exact l0
 have ZV:∀c xs,H c=some (.tup xs)->c≠x:=λc xs r z=>by subst z;rw[r] at l0;exact l0
 by_cases ag:b=x
 ·subst ag;rw[ep] at q;cases q;exact new
 ·rw[cp ag] at q;by_cases al7:b=e
  ·have d5:H b=some (.own x):=by
    rcases he with z|z
    ·exact absurd (al7.trans z) ag
    ·rw[al7];exact z
   rw[q] at d5;cases d5;obtain⟨v,ba⟩:=uD;exact⟨v,by rw[al7];exact ba⟩
  ·refine (ok b u q).kJ (λc v au r=>k c v ?_ r) (λc r=>by rw[cp (NA c b r)];exact r) λc xs r=>by rw[cp (ZV c xs r)];exact r
   rcases au with rfl|au
   ·exact al7
   ·rintro rfl;rcases he with z|z
    ·exact NA c b au z
    ·rw[au] at z;cases z;exact ag rfl
end
structure fF(a6 ex:List aq)(H ak:aF)(h h':bP):Prop where
 keep:∀b o,h.get? b=some o->H b=none->b∉a6->b∉ex->h'.get? b=some o
 slot:∀b o,h.get? b=some o->H b=none->b∈a6->b∉ex->∃b_,h'.get? b=some {o with slots:=b_}
 free:∀b o,h.get? b=some o->H b=none->b∉ex->ak b=none
 there:∀b o,h.get? b=some o->b∉ex->∃o',h'.get? b=some o'
 j_:∀b xs,H b=some (.tup xs)->ak b=some (.tup xs)
 jl:∀b o u,H b=some (.jQ o u)->ak b=some (.jQ o u)
 jy:∀b ps,H b=some (.hH ps)->∃more,ak b=some (.hH (ps++more))
section
variable {a6 ali ex alh:List aq}{H H1 bo:aF}{h ah ao h':bP}{a x e:aq}{o:ey}
def fF.any(u:fF a6 ex H H1 h ah){b:aq}{dH:Obj}(q:h.get? b=some dH)(n:H b=none)(hx:b∉ex):∃b_,ah.get? b=some {dH with slots:=b_}:=by
 by_cases ag:b∈a6
 ·exact u.slot b dH q n ag hx
 ·exact⟨dH.slots,u.keep b dH q n ag hx⟩
def fF.kept(k:∀b u,h.get? b=some u->h'.get? b=some u):fF a6 ex H H h h':=
 ⟨λb dH q _ _ _=>k b dH q,λb dH q _ _ _=>⟨dH.slots,k b dH q⟩,λ_ _ _ n _=>n,λb dH q _=>⟨dH,k b dH q⟩,λ_ _ q=>q,λ_ _ _ q=>q,λ_ ps q=>⟨#[],by rw[q];simp⟩⟩
def fF.refl:fF a6 ex H H h h:=fF.kept λ_ _ q=>q
def fF.laid(k:∀b u,h.get? b=some u->h'.get? b=some u)(aC:h.objs.size<=a)(bf:H a=none):fF a6 ex H (upd H a o) h h' where
 keep:=λb u q _ _ _=>k b u q
 slot:=λb u q _ _ _=>⟨u.slots,k b u q⟩
 free:=λb u q n _=>by rw[cp (eg (il (dj q) aC))];exact n
 there:=λb u q _=>⟨u,k b u q⟩
 j_:=λb xs q=>by rw[cp (gB q bf)];exact q
 jl:=λb u xs q=>by rw[cp (gB q bf)];exact q
 jy:=λb ps q=>⟨#[],by rw[cp (gB q bf),q];simp⟩
def fF.write(l0:zd (H x))(he:e=x\/H e=some (.own x))(k:∀b u,b≠e->h.get? b=some u->h'.get? b=some u)(uD:∃u,h'.get? e=some u):fF a6 ex H (upd H x o) h h':=by
 have hx:∀b,H b=none->b≠x:=λb n z=>by subst z;rw[n] at l0;exact l0
 have ag:∀b,H b=none->b≠e:=λb n z=>by
  subst z;rcases he with r|r
  ·exact hx b n r
  ·rw[n] at r;cases r
 have hm:∀b u,H b=some u->¬zd (some u)->b≠x:=λb u q nm z=>by subst z;rw[q] at l0;exact nm l0
 refine⟨λb u q n _ _=>k b u (ag b n) q,λb u q n _ _=>⟨u.slots,k b u (ag b n) q⟩,λb u q n _=>by rw[cp (hx b n)];exact n,λb u q _=>?_,
  λb xs q=>by rw[cp (hm b _ q λz=>z)];exact q,λb u xs q=>by rw[cp (hm b _ q λz=>z)];exact q,λb ps q=>⟨#[],by rw[cp (hm b _ q λz=>z),q];simp⟩⟩
 by_cases al7:b=e
 ·subst al7;exact uD
 ·exact⟨u,k b u al7 q⟩
end
def AL(h:bP)(H:aF):List aq:=(List.range h.objs.size).filter λa=>(H a).isSome
def n8(h:bP)(H:aF):bP:=PySem.W.hideAll h (AL h H)
def agC(h:bP)(H:aF):(n8 h H).objs.size=h.objs.size:=PySem.W.hideAll_size _ _
def ahQ{h:bP}{H:aF}{b:aq}{o:Obj}(e:h.get? b=some o)(n:H b=none):(n8 h H).get? b=some o:=
 PySem.W.hideAll_get _ e λhm=>by
  have q:(H b).isSome=true:=(List.mem_filter.mp hm).2;rw[n] at q;simp at q
def aiF{h:bP}{H:aF}{b:aq}{o:Obj}(e:(n8 h H).get? b=some o):h.get? b=some o/\H b=none:=by
 have bu:h.get? b=some o:=PySem.W.of_hideAll (AL h H) e;refine⟨bu,?_⟩;cases q:H b with
|none=>rfl
|some x=>
  have hm:b∈AL h H:=List.mem_filter.mpr ⟨List.mem_range.mpr (dj bu),by simp[q]⟩;have z:(n8 h H).get? b=none:=PySem.W.hideAll_none (AL h H) hm;rw[z] at e;cases e
def ajc(g h:bP)(L:aq):List (aq×Obj):=(List.range h.objs.size).filterMap λa=>if a=L\/(g.get? a).isSome=true then none else (h.get? a).map λo=>(a,o)
def rest(g h:bP)(L d:aq):List (aq×Obj):=(ajc g h L).filter λp=>decide (p.1≠d)
end bB
namespace bB
open PySem PySem.Spec PyProof.Rows
structure Mod(K:a')(mg:Str->Option av)(base:bP):Prop where
 sl:K.In base
 glob:base.Ns i_ mg
 blt:∃kF,base.Ns builtinsNs kF/\∀x:Str,x≠"__name__"->kF x=bootBuiltins x
 nolimit:base.NoLimit
structure aV where
 prog:c3
 w:cf
 K:a'
 mg:Str->Option av
 base:bP
 A:dk
 N:List Str
 c':aP
 aO:aF
 env:Env
 outer:List Env
 stack:List Env
 ex:List aq
 fn:Str->Bool
 calm:Bool
 dn:List (aq×Obj)
 dg:av->aP->Prop
def eG(l:List Env):List aq:=l.filterMap (·.frame)
abbrev aV.a6(X:aV):List aq:=eG X.outer
def nP(sc:Scope)(x:Str):Prop:=sc.names.lookup x=some .local\/sc.names.lookup x=some .cell\/sc.names.lookup x=some .free
def Loc(sc:Scope)(x:Str):Prop:=sc.names.lookup x=some .local\/sc.names.lookup x=some .cell
noncomputable def Look(env:Env)(h:bP)(m:Str->Option av)(x:Str)(u:av):Prop:=
 (env.kindOf x=some .local/\m x=some u)\/((env.kindOf x=some .cell\/env.kindOf x=some .free)/\∃c,env.cells.lookup x=some c/\h.IsCell c (some u))
structure aV.Ok(X:aV):Prop where
 mod:Mod X.K X.mg X.base
 kind:X.env.scope.kind=.function
 glob:X.env.globals=i_
 blt:X.env.builtins=builtinsNs
 above:X.c'.heap.objs.size<=X.env.locals
 inj:∀x y c,X.env.cells.lookup x=some c->X.env.cells.lookup y=some c->x=y
 has:∀x,(X.env.kindOf x=some .cell\/X.env.kindOf x=some .free)->∃c,X.env.cells.lookup x=some c
 rZ:∀x c,X.fn x=true->X.env.cells.lookup x=some c->X.c'.heap.objs.size<=c
 hd:X.calm=true->X.A.handled=none
 frames:X.A.frames=some X.stack
 oq:X.stack=X.outer\/(X.stack=X.env::X.outer/\X.env.frame=some X.env.locals)
 um:∀b∈X.ex,b≠X.env.locals/\∀x c,X.env.cells.lookup x=some c->c≠b
 bs:∀b o,X.base.get? b=some o->X.c'.heap.get? b=some o/\X.aO b=none
 nS:X.base.objs.size<=X.c'.heap.objs.size
 sz:∀b o,X.base.get? b=some o->b∉X.ex
 r3:∀b∈X.ex,b∉X.a6
 ku:X.c'.heap.FunFrames X.base X.outer
 pg:∀b∈X.a6,X.aO b=none
structure Inv(X:aV)(ai:List (aq×Obj))(σ:List (Option V))(H:aF)(s:aP):Prop where
 ok:X.Ok
 os:s.os=X.c'.os
 bare:AllBare s.gens
 base:fF X.a6 X.ex X.aO H X.c'.heap s.heap
 loc:∃m,s.heap.Ns X.env.locals m/\∀(i:Nat) (x:Str) (v:V),X.N[i]?=some x->σ[i]?=some (some v)->nP X.env.scope x->∃u,RelV v u/\Look X.env s.heap m x u
 cell:∀x c,X.env.cells.lookup x=some c->∃v,s.heap.IsCell c v
 free:H X.env.locals=none
 jk:∀x c,X.env.cells.lookup x=some c->H c=none
 pin:∀p∈X.dn++ai,s.heap.get? p.1=some p.2/\H p.1=none/\p.1≠X.env.locals/\p.1∉X.a6/\∀v,p.2.data≠.cell v
 bW:eZ X.prog X.w H s.heap
 len:σ.length=X.N.length
section
variable {X:aV}{ai:List (aq×Obj)}{σ:List (Option V)}{H ak:aF}{s:aP}{h':bP}
def aV.Ok.ZQ(ok:X.Ok){b:aq}{o:Obj}(e:X.base.get? b=some o):b∉X.a6:=λag=>by
 have:=(ok.ku.mem ag).1;rw[e] at this;cases this
theorem Inv.bs(I:Inv X ai σ H s):∀b o,X.base.get? b=some o->s.heap.get? b=some o/\H b=none:=λb o e=>
 ⟨I.base.keep b o (I.ok.bs b o e).1 (I.ok.bs b o e).2 (I.ok.ZQ e) (I.ok.sz b o e),I.base.free b o (I.ok.bs b o e).1 (I.ok.bs b o e).2 (I.ok.sz b o e)⟩
def Inv.f7(I:Inv X ai σ H s):∀b o,X.base.get? b=some o->s.heap.get? b=some o:=λb o e=>(I.bs b o e).1
theorem Inv.mod(I:Inv X ai σ H s):Mod X.K X.mg X.base:=I.ok.mod
def Inv.jY(I:Inv X ai σ H s):X.K.In s.heap:=I.ok.mod.sl.keeps I.f7
theorem Inv.lt(I:Inv X ai σ H s):X.env.locals<s.heap.objs.size:=let ⟨_,bf,_⟩:=I.loc;bf.lt
def Inv.l7(I:Inv X ai σ H s):X.c'.heap.objs.size<=s.heap.objs.size:=nd I.ok.above (Nat.le_of_lt I.lt)
def Inv.ZS(I:Inv X ai σ H s){a:aq}(h:s.heap.objs.size<=a):a∉X.a6:=λag=>by
 obtain⟨_,o,aT,_⟩:=I.ok.ku.mem ag;exact absurd (il (dj aT) (nd I.l7 h)) (Nat.lt_irrefl _)
def Inv.mG(I:Inv X ai σ H s):∀x c,X.env.cells.lookup x=some c->c≠X.env.locals:=λx c e z=>by
 obtain⟨v,o,aT,hd⟩:=I.cell x c e;obtain⟨m,⟨o',ar,cL,e8,Xl,_⟩,_⟩:=I.loc;rw[z,e8] at aT;cases aT;rw[Xl] at hd;cases hd
theorem Inv.ku(I:Inv X ai σ H s):s.heap.FunFrames X.base X.outer:=by
 have all:∀(l:List Env),(∀b∈eG l,b∈X.a6)->X.c'.heap.FunFrames X.base l->s.heap.FunFrames X.base l:=by
  intro l
  induction l with
  |nil=>intro _ _;trivial
  |cons env r d0=>
   intro aB aH;obtain⟨a0,⟨L,o,hf,bf,aT,hd⟩,ax⟩:=aH;have ff:L∈X.a6:=aB L (by unfold eG;rw[List.filterMap_cons,hf];exact m_);obtain⟨b_,e⟩:=I.base.slot L o aT (I.ok.pg L ff) ff λz=>I.ok.r3 L z ff;exact⟨a0,⟨L,_,hf,bf,e,hd⟩,d0 (λb ag=>aB b (by unfold eG;rw[List.filterMap_cons,hf];exact ew _ ag)) ax⟩
 exact all X.outer (λ_ ag=>ag) I.ok.ku
theorem Inv.stack(I:Inv X ai σ H s):s.heap.FunFrames X.base X.stack:=by
 rcases I.ok.oq with e|⟨e,hf⟩
 ·rw[e];exact I.ku
 ·rw[e];obtain⟨m,bf,_⟩:=I.loc;refine .cons (by rw[I.ok.kind];decide) hf bf ?_ I.ku;exact Heap.get?_none_of_le (nd I.ok.nS I.ok.above)
def Inv.AB(I:Inv X ai σ H s):∀b∈eG X.stack,b∈X.env.locals::X.a6:=λb ag=>by
 rcases I.ok.oq with e|⟨e,hf⟩
 ·rw[e] at ag;exact ew _ ag
 ·rw[e] at ag;unfold eG at ag;rw[List.filterMap_cons,hf] at ag;exact ag
def Inv.IB(I:Inv X ai σ H s):∀b∈eG X.stack,H b=none:=λb ag=>by
 rcases bC.mp (I.AB b ag) with e|ag
 ·rw[e];exact I.free
 ·obtain⟨_,o,aT,_⟩:=I.ok.ku.mem ag;exact I.base.free b o aT (I.ok.pg b ag) λz=>I.ok.r3 b z ag
def Inv.step{g':Array GenState}{t':Nat}{d':Drawn}{ch:List aq}(I:Inv X ai σ H s)
  (n6:∀b∈ch,(b∈X.ex\/X.c'.heap.objs.size<=b)/\b≠X.env.locals/\(∀x c,X.env.cells.lookup x=some c->c≠b)/\∀p∈X.dn++ai,p.1≠b)
  (keep:∀b o,b≠X.env.locals->b∉X.a6->b∉ch->s.heap.get? b=some o->H b=none->h'.get? b=some o)
  (slot:∀b o,b≠X.env.locals->b∈X.a6->b∉ch->s.heap.get? b=some o->H b=none->∃b_,h'.get? b=some {o with slots:=b_}) (free:∀b o,b∉ch->s.heap.get? b=some o->H b=none->ak b=none)
  (there:∀b o,b∉ch->s.heap.get? b=some o->∃o',h'.get? b=some o')
  (j_:∀b xs,H b=some (.tup xs)->ak b=some (.tup xs)) (jl:∀b o u,H b=some (.jQ o u)->ak b=some (.jQ o u)) (jy:∀b ps,H b=some (.hH ps)->∃more,ak b=some (.hH (ps++more)))
  (ns:∀m,s.heap.Ns X.env.locals m->h'.Ns X.env.locals m) (bW:eZ X.prog X.w ak h') (a7:AllBare g'):
  Inv X ai σ ak {s with heap:=h',gens:=g',drawn:=d',toks:=t'}:=by
 have Nw:∀b o,X.c'.heap.get? b=some o->b≠X.env.locals:=λb o e=>eg (il (dj e) I.ok.above);have sx:∀b o,X.c'.heap.get? b=some o->b∉X.ex->b∉ch:=λb o e hx ag=>by
  rcases (n6 b ag).1 with z|z
  ·exact hx z
  ·exact absurd (il (dj e) z) (Nat.lt_irrefl _)
 have cellK:∀x c,X.env.cells.lookup x=some c->∀v,s.heap.IsCell c v->h'.IsCell c v:=λx c e v ⟨o,aT,hd⟩=>by
  have xm:c∉ch:=λz=>(n6 c z).2.2.1 x c e rfl;by_cases au:c∈X.a6
  ·obtain⟨b_,q⟩:=slot c o (I.mG x c e) au xm aT (I.jk x c e);exact⟨_,q,hd⟩
  ·exact⟨o,keep c o (I.mG x c e) au xm aT (I.jk x c e),hd⟩
 refine⟨I.ok,I.os,a7,⟨λb o e n ag hx=>?_,λb o e n ag hx=>?_,λb o e n hx=>?_,λb o e hx=>?_,λb xs e=>j_ b xs (I.base.j_ b xs e),λb o xs e=>jl b o xs (I.base.jl b o xs e),λb ps e=>?_⟩,?_,λx c e=>?_,?_,λx c e=>?_,λp aC=>?_,bW,I.len⟩
 ·exact keep b o (Nw b o e) ag (sx b o e hx) (I.base.keep b o e n ag hx) (I.base.free b o e n hx)
 ·obtain⟨b_,aE⟩:=I.base.slot b o e n ag hx;obtain⟨Aw,aK⟩:=slot b _ (Nw b o e) ag (sx b o e hx) aE (I.base.free b o e n hx);exact⟨Aw,aK⟩
 ·obtain⟨o',aE⟩:=I.base.there b o e hx;exact free b o' (sx b o e hx) aE (I.base.free b o e n hx)
 ·obtain⟨o',aE⟩:=I.base.there b o e hx;exact there b o' (sx b o e hx) aE
 ·obtain⟨hD,aE⟩:=I.base.jy b ps e;obtain⟨hE,aK⟩:=jy b _ aE;exact⟨hD++hE,by rw[aK,Array.append_assoc]⟩
 ·obtain⟨m,bf,aH⟩:=I.loc;refine⟨m,ns m bf,λi x v aE aK c_=>?_⟩;obtain⟨u,r,l⟩:=aH i x v aE aK c_;refine⟨u,r,?_⟩;rcases l with l|⟨k,c,e,z⟩
  ·exact .inl l
  ·exact .inr ⟨k,c,e,cellK x c e _ z⟩
 ·obtain⟨v,z⟩:=I.cell x c e;exact⟨v,cellK x c e v z⟩
 ·obtain⟨m,⟨o,_,_,aT,_⟩,_⟩:=I.loc;exact free _ o (λz=>(n6 _ z).2.1 rfl) aT I.free
 ·obtain⟨v,o,aT,hd⟩:=I.cell x c e;exact free c o (λz=>(n6 c z).2.2.1 x c e rfl) aT (I.jk x c e)
 ·obtain⟨e,n,ne,ju,d⟩:=I.pin p aC;have xm:p.1∉ch:=λz=>(n6 p.1 z).2.2.2 p aC rfl;exact⟨keep p.1 p.2 ne ju xm e n,free p.1 p.2 xm e n,ne,ju,d⟩
def Inv.un{t':Nat}(I:Inv X ai σ H s)(u:fF X.a6 [] H ak s.heap h')(bW:eZ X.prog X.w ak h'):Inv X ai σ ak {s with heap:=h',toks:=t'}:=by
 obtain⟨m,⟨o,ar,cL,aT,r⟩,_⟩:=id I.loc;obtain⟨b_,ff⟩:=u.any aT I.free (by simp);exact I.step (g':=s.gens) (d':=s.drawn) (ch:=[]) (λ_ z=>nomatch z) (λb o _ ag _ e n=>u.keep b o e n ag (by simp)) (λb o _ ag _ e n=>u.slot b o e n ag (by simp)) (λb o _ e n=>u.free b o e n (by simp)) (λb o _ e=>u.there b o e (by simp)) u.j_ u.jl u.jy (λig hm=>by
  obtain⟨o',mM,EM,e8,cx⟩:=hm;rw[aT] at e8;cases e8;exact⟨_,mM,EM,ff,cx⟩) bW I.bare
def Inv.call{g':Array GenState}{t':Nat}{d':Drawn}{ch:List aq}(I:Inv X ai σ H s)(u:fF (eG X.stack) ch H ak s.heap h')(bW:eZ X.prog X.w ak h')(a7:AllBare g')
  (n6:∀b∈ch,(b∈X.ex\/X.c'.heap.objs.size<=b)/\b≠X.env.locals/\(∀x c,X.env.cells.lookup x=some c->c≠b)/\∀p∈X.dn++ai,p.1≠b):
  Inv X ai σ ak {s with heap:=h',gens:=g',drawn:=d',toks:=t'}:=by
 obtain⟨m,⟨o,ar,cL,aT,r⟩,_⟩:=id I.loc;obtain⟨b_,ff⟩:=u.any aT I.free λz=>(n6 _ z).2.1 rfl;exact I.step (ch:=ch) n6 (λb o ff ag au e n=>u.keep b o e n (λz=>(bC.mp (I.AB b z)).elim ff ag) au) (λb o _ _ au e n=>u.any e n au) (λb o au e n=>u.free b o e n au) (λb o au e=>u.there b o e au) u.j_ u.jl u.jy (λig hm=>by
  obtain⟨o',mM,EM,e8,cx⟩:=hm;rw[aT] at e8;cases e8;exact⟨_,mM,EM,ff,cx⟩) bW a7
def Inv.turned{t':Nat}{it:aq}(I:Inv X ai σ H s)(k:∀b o,b≠it->s.heap.get? b=some o->h'.get? b=some o)(bf:H it=none)(ff:it≠X.env.locals)
  (ah:it∈X.ex\/X.c'.heap.objs.size<=it) (ao:∀x c,X.env.cells.lookup x=some c->c≠it) (aY:∀p∈X.dn++ai,p.1≠it):Inv X ai σ H {s with heap:=h',toks:=t'}:=by
 have Ny:∀b u,H b=some u->b≠it:=λb u e z=>by rw[z,bf] at e;cases e
 refine I.step (g':=s.gens) (d':=s.drawn) (ch:=[it]) (λb ag=>?_) (λb o _ _ au e _=>k b o (λz=>au (by simp[z])) e) (λb o _ _ au e _=>⟨o.slots,k b o (λz=>au (by simp[z])) e⟩) (λ_ _ _ _ n=>n)
  (λb o au e=>⟨o,k b o (λz=>au (by simp[z])) e⟩) (λ_ _ e=>e) (λ_ _ _ e=>e) (λb ps e=>⟨#[],by rw[e];simp⟩) (λm hm=>?_) (λb u e=>?_) I.bare
 ·have e:b=it:=by simpa using ag
  subst e;exact⟨ah,ff,ao,aY⟩
 ·obtain⟨o,ar,cL,aT,r⟩:=hm;exact⟨o,ar,cL,k _ o (Ne.symm ff) aT,r⟩
 ·refine (I.bW b u e).kJ (λc v au q=>k c v ?_ q) (λ_ q=>q) λ_ _ q=>q
  rcases au with z|z
  ·rw[z];exact Ny b u e
  ·exact Ny c _ z
def Inv.tok(I:Inv X ai σ H s)(t:Nat):Inv X ai σ H {s with toks:=t}:=I.un (h':=s.heap) (t':=t) fF.refl I.bW
theorem Inv.kept{t':Nat}(I:Inv X ai σ H s)(k:∀b u,s.heap.get? b=some u->h'.get? b=some u):Inv X ai σ H {s with heap:=h',toks:=t'}:=I.un (fF.kept k) (I.bW.kept k)
theorem Inv.laid{a:aq}{o:ey}{t':Nat}(I:Inv X ai σ H s)(k:∀b u,s.heap.get? b=some u->h'.get? b=some u)(aC:s.heap.objs.size<=a)(new:kl X.prog X.w (upd H a o) h' a o):
  Inv X ai σ (upd H a o) {s with heap:=h',toks:=t'}:=I.un (fF.laid k aC (I.bW.fresh aC)) (I.bW.laid k aC new)
theorem Inv.write{x e:aq}{o:ey}{t':Nat}(I:Inv X ai σ H s)(l0:zd (H x))(he:e=x\/H e=some (.own x))(k:∀b u,b≠e->s.heap.get? b=some u->h'.get? b=some u)(uD:∃u,h'.get? e=some u)
  (new:kl X.prog X.w (upd H x o) h' x o):Inv X ai σ (upd H x o) {s with heap:=h',toks:=t'}:=I.un (fF.write l0 he k uD) (I.bW.write l0 he k uD new)
def Inv.NF{ND:List (aq×Obj)}(I:Inv X ai σ H s)(h:∀p∈ND,s.heap.get? p.1=some p.2/\H p.1=none/\p.1≠X.env.locals/\p.1∉X.a6/\∀v,p.2.data≠.cell v):Inv X ND σ H s:=
 ⟨I.ok,I.os,I.bare,I.base,I.loc,I.cell,I.free,I.jk,λp aC=>(gz.mp aC).elim (λz=>I.pin p (List.mem_append_left _ z)) (h p),I.bW,I.len⟩
def JD{N:List Str}(dA:N.Nodup){i j:Nat}{x:Str}(a:N[i]?=some x)(b:N[j]?=some x):i=j:=by
 obtain⟨ah,aE⟩:=gy.mp a;obtain⟨ao,aK⟩:=gy.mp b;exact (List.getElem_inj dA).mp (aE.trans aK.symm)
def Pu{M:Model}{A:dk}{E:av->aP->Prop}{i:Nat}{x:Str}{v:V}{u:av}{Q:Unit->aP->Prop}(I:Inv X ai σ H s)(dA:X.N.Nodup)(hi:X.N[i]?=some x)(hx:Loc X.env.scope x)(r:RelV v u)
  (h:∀s',Inv X ai (σ.set i (some v)) H s'->(∃a,Heap.SameBut a s.heap s'.heap/\(a=X.env.locals\/X.env.cells.lookup x=some a))->Q () s') (hf:X.fn x=true\/X.env.scope.names.lookup x=some .local:=by first|exact .inl rfl|exact .inr rfl|assumption):bE M A (storeName X.env x u) Q E s:=by
 obtain⟨m,bf,aH⟩:=id I.loc;have Xj:(X.env.scope.kind==.class || (X.env.scope.kind==.module && X.env.locals != X.env.globals))=false:=by rw[I.ok.kind];rfl
 have zW:i<σ.length:=by rw[I.len];exact (gy.mp hi).1
 have mG:=I.mG;have tracked:∀{a:aq} {h':bP},(∃o,s.heap.get? a=some o/\H a=none)->Heap.SameBut a s.heap h'->eZ X.prog X.w H h':=λ{a h'} aA aB b dH e=>by
  obtain⟨_,_,MM⟩:=aA;refine (I.bW b dH e).kJ (λc gM au q=>(aB.2 c ?_).trans q) (λ_ q=>q) λ_ _ q=>q;rintro rfl;rcases au with rfl|au
  ·rw[MM] at e;cases e
  ·rw[MM] at au;cases au
 rcases hx with a0|a0
 ·refine wpAny_storeName_local a0 bf (λh' XF aB=>?_) Xj
  obtain⟨ZX,_,_,z0,_⟩:=id bf;refine h _ ⟨I.ok,I.os,I.bare,⟨λb o e n ag hx=>?_,λb o e n ag hx=>?_,I.base.free,λb o e hx=>?_,I.base.j_,I.base.jl,I.base.jy⟩,⟨_,XF,λj y lu aE aK c_=>?_⟩,λy c e=>?_,I.free,I.jk,λp aC=>?_,tracked ⟨ZX,z0,I.free⟩ aB,by simpa using I.len⟩ ⟨_,aB,.inl rfl⟩
  ·exact (aB.2 b (eg (il (dj e) I.ok.above))).trans (I.base.keep b o e n ag hx)
  ·obtain⟨b_,aE⟩:=I.base.slot b o e n ag hx;exact⟨b_,(aB.2 b (eg (il (dj e) I.ok.above))).trans aE⟩
  ·obtain⟨o',aE⟩:=I.base.there b o e hx;exact⟨o',(aB.2 b (eg (il (dj e) I.ok.above))).trans aE⟩
  ·by_cases cS:j=i
   ·subst cS;rw[hi] at aE;cases aE;rw[List.getElem?_set_self zW] at aK;cases aK;exact⟨u,r,.inl ⟨a0,by simp⟩⟩
   ·rw[List.getElem?_set_ne (Ne.symm cS)] at aK;obtain⟨uW,cx,q⟩:=aH j y lu aE aK c_;refine⟨uW,cx,?_⟩;rcases q with ⟨k,e⟩|⟨k,c,e,z⟩
    ·refine .inl ⟨k,?_⟩
     have:y≠x:=λe=>cS (JD dA aE (e▸hi));simp[this,e]
    ·exact .inr ⟨k,c,e,z.sameBut aB (mG y c e)⟩
  ·obtain⟨gM,z⟩:=I.cell y c e;exact⟨gM,z.sameBut aB (mG y c e)⟩
  ·obtain⟨e,n,ne,ju,d⟩:=I.pin p aC;exact⟨(aB.2 p.1 ne).trans e,n,ne,ju,d⟩
 ·have FY:X.fn x=true:=by
   rcases hf with z|z
   ·exact z
   ·rw[z] at a0;cases a0
  obtain⟨c,au⟩:=I.ok.has x (.inl a0);obtain⟨gM,z⟩:=I.cell x c au;refine wpAny_storeName_cell I.ok.kind a0 au z (λh' cj aB=>?_);obtain⟨gY,MS,XK⟩:=id z;refine h {s with heap:=h'} ⟨I.ok,I.os,I.bare,⟨λb o e n ag hx=>?_,λb o e n ag hx=>?_,I.base.free,λb o e hx=>?_,I.base.j_,I.base.jl,I.base.jy⟩,⟨m,bf.sameBut aB (Ne.symm (mG x c au)),λj y lu aE aK c_=>?_⟩,λy cC e=>?_,I.free,I.jk,λp aC=>?_,tracked ⟨gY,MS,I.jk x c au⟩ aB,by simpa using I.len⟩ ⟨c,aB,.inr au⟩
  ·exact (aB.2 b (eg (il (dj e) (I.ok.rZ x c FY au)))).trans (I.base.keep b o e n ag hx)
  ·obtain⟨b_,aE⟩:=I.base.slot b o e n ag hx;exact⟨b_,(aB.2 b (eg (il (dj e) (I.ok.rZ x c FY au)))).trans aE⟩
  ·obtain⟨o',aE⟩:=I.base.there b o e hx;exact⟨o',(aB.2 b (eg (il (dj e) (I.ok.rZ x c FY au)))).trans aE⟩
  ·by_cases cS:j=i
   ·subst cS;rw[hi] at aE;cases aE;rw[List.getElem?_set_self zW] at aK;cases aK;exact⟨u,r,.inr ⟨.inl a0,c,au,cj⟩⟩
   ·rw[List.getElem?_set_ne (Ne.symm cS)] at aK;obtain⟨uW,cx,q⟩:=aH j y lu aE aK c_;refine⟨uW,cx,?_⟩;rcases q with q|⟨k,cC,e,gA⟩
    ·exact .inl q
    ·refine .inr ⟨k,cC,e,gA.sameBut aB ?_⟩
     rintro rfl;exact cS (JD dA aE (I.ok.inj _ _ _ e au▸hi))
  ·by_cases MH:cC=c
   ·subst MH;exact⟨_,cj⟩
   ·obtain⟨pP,fb⟩:=I.cell y cC e;exact⟨pP,fb.sameBut aB MH⟩
  ·obtain⟨e,n,ne,ju,d⟩:=I.pin p aC;refine⟨(aB.2 p.1 ?_).trans e,n,ne,ju,d⟩;intro q;rw[q,MS] at e;have d5:gY=p.2:=iN e;exact d gM (by rw[<- d5];exact XK)
def Jw{M:Model}{A:dk}{E:av->aP->Prop}{i:Nat}{x:Str}{v:V}{u:av}{Q:Unit->aP->Prop}(I:Inv X ai σ H s)(dA:X.N.Nodup)(hi:X.N[i]?=some x)(hx:Loc X.env.scope x)(r:RelV v u)
  (h:∀s',Inv X ai (σ.set i (some v)) H s'->Q () s') (hf:X.fn x=true\/X.env.scope.names.lookup x=some .local:=by first|exact .inl rfl|exact .inr rfl|assumption):bE M A (storeName X.env x u) Q E s:=
 Pu I dA hi hx r (λs' mz _=>h s' mz) hf
def Inv.Lu{s':aP}{ch:List aq}(I:Inv X ai σ H s)(aT:s'.os=s.os)(u:fF (eG X.stack) ch H ak s.heap s'.heap)(bW:eZ X.prog X.w ak s'.heap)(a7:AllBare s'.gens)
  (n6:∀b∈ch,(b∈X.ex\/X.c'.heap.objs.size<=b)/\b≠X.env.locals/\(∀x c,X.env.cells.lookup x=some c->c≠b)/\∀p∈X.dn++ai,p.1≠b):Inv X ai σ ak s':=by
 obtain⟨h',g',d',t',o'⟩:=s';have e:o'=s.os:=aT;subst e;exact I.call (g':=g') (t':=t') (d':=d') u bW a7 n6
end
abbrev gE:=av->Option aq->aF->Prop
abbrev St:=List (Option V)
abbrev di:=V->aF->Prop
abbrev TE:=St->aF->di->Prop
abbrev TT:=St->aF->(Bool->aF->Prop)->Prop
abbrev fT:=St->aF->(List V->aF->Prop)->Prop
structure Ends where
 bg:St->aF->Prop
 ee:di
 f7:St->aF->Prop:=λ_ _=>False
 bJ:St->aF->Prop:=λ_ _=>False
abbrev fE:=Ends->St->aF->Prop
def hp(X:aV)(ai:List (aq×Obj))(σ:St)(Q:di)(u:av)(s':aP):Prop:=∃v ak,Inv X ai σ ak s'/\RelV v u/\Q v ak
def zl(X:aV)(ai:List (aq×Obj))(σ:St)(Q:Bool->aF->Prop)(b:Bool)(s':aP):Prop:=∃ak,Inv X ai σ ak s'/\Q b ak
def RR(X:aV)(ai:List (aq×Obj))(σ:St)(Q:List V->aF->Prop)(us:List av)(s':aP):Prop:=∃vs ak,Inv X ai σ ak s'/\Vals vs us/\Q vs ak
noncomputable def o3(X:aV)(ai:List (aq×Obj))(D:Ends)(f:Flow)(s':aP):Prop:=
 match f with
|.next=>∃bR ak,Inv X ai bR ak s'/\D.bg bR ak
|.brk=>∃bR ak,Inv X ai bR ak s'/\D.f7 bR ak
|.cont=>∃bR ak,Inv X ai bR ak s'/\D.bJ bR ak
|.ret u=>∃v bR ak,Inv X ai bR ak s'/\RelV v u/\D.ee v ak
noncomputable def b3(X:aV)(e:bk)(t:TE):Prop:=
 ∀(ai:List (aq×Obj)) (s:aP) (σ:St) (H:aF) (Q:di),Inv X ai σ H s->t σ H Q->bE (bN X.prog X.w) X.A (eval e X.env) (hp X ai σ Q) X.dg s
noncomputable def hq(X:aV)(e:bk)(t:TT):Prop:=
 ∀(ai:List (aq×Obj)) (s:aP) (σ:St) (H:aF) (Q:Bool->aF->Prop),Inv X ai σ H s->t σ H Q->bE (bN X.prog X.w) X.A (isTrue e X.env (eval e X.env)) (zl X ai σ Q) X.dg s
noncomputable def mA(X:aV)(e:bk)(t:TT):Prop:=
 ∀(whole:Sem av) (ai:List (aq×Obj)) (s:aP) (σ:St) (H:aF) (Q:Bool->aF->Prop),Inv X ai σ H s->t σ H Q->bE (bN X.prog X.w) X.A (isTrue e X.env whole) (zl X ai σ Q) X.dg s
def mA.pt{X:aV}{e:bk}{t:TT}(h:mA X e t):hq X e t:=h _
noncomputable def gm(X:aV)(ar:List bk)(t:fT):Prop:=
 ∀(pos:Pos) (ai:List (aq×Obj)) (s:aP) (σ:St) (H:aF) (Q:List V->aF->Prop),Inv X ai σ H s->t σ H Q->bE (bN X.prog X.w) X.A (spliced (fl pos (bL ar X.env))) (RR X ai σ Q) X.dg s
noncomputable def iD(X:aV)(st:Stmt)(t:fE):Prop:=
 ∀(ai:List (aq×Obj)) (s:aP) (σ:St) (H:aF) (D:Ends),Inv X ai σ H s->t D σ H->bE (bN X.prog X.w) X.A (exec st X.env) (o3 X ai D) X.dg s
noncomputable def fh(X:aV)(st:List Stmt)(t:fE):Prop:=
 ∀(ai:List (aq×Obj)) (s:aP) (σ:St) (H:aF) (D:Ends),Inv X ai σ H s->t D σ H->bE (bN X.prog X.w) X.A (execs st X.env) (o3 X ai D) X.dg s
def cA{α:Type}{t:Sem α}{Q wh:α->aP->Prop}{M:Model}{A:dk}{E:av->aP->Prop}{s:aP}(h:bE M A t Q E s)(mO:∀a s,Q a s->wh a s):bE M A t wh E s:=fA h mO λ_ _ x=>x
end bB
namespace bB
open PySem PySem.Spec PyProof.Rows
section
variable {X:aV}
def m7(i:Nat):TE:=λσ H Q=>∃v,σ[i]?=some (some v)/\Q v H
def hF(v:V):TE:=λ_ H Q=>Q v H
def ajK{i:Nat}{x:Str}{pos:Pos}(dA:X.N[i]?=some x)(ba:nP X.env.scope x)(hd:(x==("__debug__":Str))=false:=by decide)(eT:(x==("__classdict__":Str))=false:=by decide):b3 X (.Name x pos) (m7 i):=by
 intro ai s σ H Q I h;obtain⟨v,e,h⟩:=h;obtain⟨m,bf,aH⟩:=I.loc;obtain⟨u,r,l⟩:=aH i x v dA e ba;have fin:hp X ai σ Q u s:=⟨v,H,I,r,h⟩;rcases l with ⟨a0,hm⟩|⟨a0,c,au,uy⟩
 ·exact wpAny_Name (wpAny_loadName_local I.ok.kind a0 bf hm fin) hd
 ·rcases a0 with a0|a0
  ·exact wpAny_Name (wpAny_loadName_cell I.ok.kind a0 au uy fin) hd
  ·exact wpAny_Name (wpAny_loadName_free I.ok.kind a0 au uy fin eT) hd
def B8{i j pos}:b3 X (.Constant (.int i) j pos) (hF (.int i)):=λ_ _ _ H _ I h=>wpAny_Constant_int ⟨.int i,H,I.tok _,⟨_,rfl⟩,h⟩
def KP{b j pos}:b3 X (.Constant (.bool b) j pos) (hF (.bw b)):=λ_ _ _ H _ I h=>Constant_bool ⟨.bw b,H,I,rfl,h⟩
def ajM{j pos}:b3 X (.Constant .none j pos) (hF .eA):=λ_ _ _ H _ I h=>Constant_none ⟨.eA,H,I,rfl,h⟩
def yI{x j pos}:b3 X (.Constant (.str x) j pos) (hF (.str x)):=λ_ _ _ H _ I h=>Calls.Constant_str ⟨.str x,H,I.tok _,⟨_,rfl⟩,h⟩
def et(X:aV)(x:Str):Prop:=X.env.kindOf x=some .globalImplicit
def yy{E:av->aP->Prop}{ai:List (aq×Obj)}{s:aP}{σ:St}{H:aF}{x:Str}{u:av}{pos:Pos}{Q:av->aP->Prop}(I:Inv X ai σ H s)(a7:et X x)(hm:X.mg x=some u)(h:Q u s)
  (hd:(x==("__debug__":Str))=false:=by decide):bE (bN X.prog X.w) X.A (eval (.Name x pos) X.env) Q E s:=
 Calls.Name_function_global I.ok.kind a7 (Calls.loadGlobal_global (by rw[I.ok.glob];exact I.mod.glob.keeps I.f7) hm h) hd
def qj{E:av->aP->Prop}{ai:List (aq×Obj)}{s:aP}{σ:St}{H:aF}{x:Str}{u:av}{pos:Pos}{Q:av->aP->Prop}(I:Inv X ai σ H s)(a7:et X x)(hm:X.mg x=none)(ba:bootBuiltins x=some u)(h:Q u s)
  (bf:x≠"__name__":=by decide) (hd:(x==("__debug__":Str))=false:=by decide):bE (bN X.prog X.w) X.A (eval (.Name x pos) X.env) Q E s:=by
 obtain⟨kF,ah,ao⟩:=I.mod.blt;exact Calls.Name_function_global I.ok.kind a7 (Calls.loadGlobal_builtin (by rw[I.ok.glob];exact I.mod.glob.keeps I.f7) hm (by rw[I.ok.blt];exact ah.keeps I.f7) ((ao x bf).trans ba) h) hd
def vy{x:Str}{v:V}{u:av}{pos:Pos}(a7:et X x)(hm:X.mg x=some u)(r:RelV v u)(hd:(x==("__debug__":Str))=false:=by decide):b3 X (.Name x pos) (hF v):=
 λ_ _ _ H _ I h=>yy I a7 hm ⟨v,H,I,r,h⟩ hd
def aiv{x:Str}{v:V}{u:av}{pos:Pos}(a7:et X x)(hm:X.mg x=none)(ba:bootBuiltins x=some u)(r:RelV v u)(bf:x≠"__name__":=by decide)(hd:(x==("__debug__":Str))=false:=by decide):b3 X (.Name x pos) (hF v):=
 λ_ _ _ H _ I h=>qj I a7 hm ba ⟨v,H,I,r,h⟩ bf hd
variable {a b:bk}{cD cO:TE}{pos:Pos}
noncomputable def CY(X:aV)(op:CmpOp)(a b:bk)(t:TE):Prop:=
 ∀(ai:List (aq×Obj)) (s:aP) (σ:St) (H:aF) (Q:di),Inv X ai σ H s->t σ H Q ->
  bE (bN X.prog X.w) X.A (eval a X.env) (λv dx=>bE (bN X.prog X.w) X.A (eval b X.env) (λu l8=>bE (bN X.prog X.w) X.A (g0 op v u) (hp X ai σ Q) X.dg l8) X.dg dx) X.dg s
def Qe(b:bk){op:CmpOp}(h:op≠.In)(ao:op≠.NotIn):ox op b=false:=by
 have aE:(op==CmpOp.In)=false:=by cases op <;> first|rfl|exact absurd rfl h
 have aK:(op==CmpOp.NotIn)=false:=by cases op <;> first|rfl|exact absurd rfl ao
 cases b <;> simp[ox,aE,aK]
def adb(cD:TE):TE:=λσ H Q=>cD σ H λx H1=>Q (.bw (decide (x=.eA))) H1
def RelV.ZT{x:V}{v:av}(r:RelV x v):(v==Value.none)=decide (x=.eA):=by
 cases x with
|eA=>cases r;rfl
|bw _=>cases r;rfl
|int _=>obtain⟨t,rfl⟩:=r;rfl
|str _=>obtain⟨t,rfl⟩:=r;rfl
|lS _=>obtain⟨t,rfl⟩:=r;rfl
|zL _=>obtain⟨t,rfl⟩:=r;rfl
|ref _=>cases r;rfl
|ty _=>cases r;rfl
def QX{j pos'}(aA:b3 X a cD):CY X .Is a (.Constant .none j pos') (adb cD):=by
 intro ai s σ H Q I h;refine cA (aA ai s σ H _ I h) λv s1 ⟨x,H1,a9,bj,a4⟩=>?_;exact Constant_none (is_none_gen ⟨.bw _,H1,a9,by rw[bj.ZT];rfl,a4⟩)
def AD(t:TE):TT:=λσ H Q=>t σ H λx H1=>∃c,x=.bw c/\Q c H1
def ajO{op:CmpOp}{t:TE}(h:CY X op a b t)(ah:ox op b=false:=by first|exact Qe _ (by decide) (by decide)|rfl):b3 X (.Compare a [op] [b] pos) t:=λai s σ H Q I hw=>wpAny_Compare1 (h ai s σ H Q I hw) ah
def ajG{op:CmpOp}{t:TE}(h:CY X op a b t)(ah:ox op b=false:=by first|exact Qe _ (by decide) (by decide)|rfl):hq X (.Compare a [op] [b] pos) (AD t):=by
 intro ai s σ H Q I hw;refine wpAny_isTrue_Compare1 (cA (h ai s σ H _ I hw) λv s1 ah=>cA ah λu s2 ao=>cA ao λc s3 ⟨x,H1,a9,bj,a4⟩=>?_) ah;obtain⟨d,rfl,q⟩:=a4;cases bj;exact ng ⟨H1,a9,q⟩
def QU{e:bk}{t:TE}(h:b3 X e t)(he:∀whole,isTrue e X.env whole=(do let v <- whole;standAt e.pos;holding [v] (truthy v)):=by intro _;rfl):hq X e (AD t):=by
 intro ai s σ H Q I hw;refine isTrue_plain (cA (h ai s σ H _ I hw) λv s1 ⟨x,H1,a9,bj,a4⟩=>?_) (he _);obtain⟨d,rfl,q⟩:=a4;cases bj;exact ng ⟨H1,a9,q⟩
variable {l9 AE:TT}{rest:List bk}
def N7(t u:TT):TT:=λσ H Q=>t σ H λc H1=>if c=true then u σ H1 Q else Q false H1
def adf(t u:TT):TT:=λσ H Q=>t σ H λc H1=>if c=true then Q true H1 else u σ H1 Q
def ade(t:TT):TT:=λσ H Q=>t σ H λc H1=>Q (!c) H1
def Qu(aA:hq X a l9):mA X (.BoolOp .And [a] pos) l9:=by
 intro xG ai s σ H Q I h;refine isTrue_and (cA (aA ai s σ H Q I h) λc s1 e=>?_);cases c with
|true=>exact isTrue_and_nil e
|false=>exact e
def ajE(aA:hq X a l9):mA X (.BoolOp .Or [a] pos) l9:=by
 intro xG ai s σ H Q I h;refine isTrue_or (cA (aA ai s σ H Q I h) λc s1 e=>?_);cases c with
|false=>exact isTrue_or_nil e
|true=>exact e
def QT(aA:hq X a l9)(ag:mA X (.BoolOp .And (b::rest) pos) AE):mA X (.BoolOp .And (a::b::rest) pos) (N7 l9 AE):=by
 intro xG ai s σ H Q I h;refine isTrue_and (cA (aA ai s σ H _ I h) λc s1 ⟨H1,a9,a4⟩=>?_);cases c with
|true=>exact ag xG ai s1 σ H1 Q a9 a4
|false=>exact⟨H1,a9,a4⟩
def akH(aA:hq X a l9)(ag:mA X (.BoolOp .Or (b::rest) pos) AE):mA X (.BoolOp .Or (a::b::rest) pos) (adf l9 AE):=by
 intro xG ai s σ H Q I h;refine isTrue_or (cA (aA ai s σ H _ I h) λc s1 ⟨H1,a9,a4⟩=>?_);cases c with
|true=>exact⟨H1,a9,a4⟩
|false=>exact ag xG ai s1 σ H1 Q a9 a4
def ajF(aA:hq X a l9):hq X (.UnaryOp .Not a pos) (ade l9):=by
 intro ai s σ H Q I h;exact isTrue_not (aA ai s σ H (λc H1=>Q (!c) H1) I h)
def akx(cD cO:TE):TE:=λσ H Q=>cD σ H λx H1=>∃c,x=.bw c/\if c=true then cO σ H1 Q else Q (.bw false) H1
def adg(cD cO:TE):TE:=λσ H Q=>cD σ H λx H1=>∃c,x=.bw c/\if c=true then Q (.bw true) H1 else cO σ H1 Q
def aku(cD:TE):TE:=λσ H Q=>cD σ H λx H1=>∃c,x=.bw c/\Q (.bw (!c)) H1
def QV{op}{t:TE}(h:b3 X a t):b3 X (.BoolOp op [a] pos) t:=λai s σ H Q I hw=>BoolOp_one (h ai s σ H Q I hw)
def ajP(aA:b3 X a cD)(ag:b3 X (.BoolOp .And (b::rest) pos) cO):b3 X (.BoolOp .And (a::b::rest) pos) (akx cD cO):=by
 intro ai s σ H Q I h;refine BoolOp_and (cA (aA ai s σ H _ I h) λv s1 ⟨x,H1,a9,bj,a4⟩=>?_);obtain⟨c,rfl,a4⟩:=a4;cases bj;refine ng ?_;cases c with
|true=>exact ag ai s1 σ H1 Q a9 a4
|false=>exact⟨.bw false,H1,a9,rfl,a4⟩
def akJ(aA:b3 X a cD)(ag:b3 X (.BoolOp .Or (b::rest) pos) cO):b3 X (.BoolOp .Or (a::b::rest) pos) (adg cD cO):=by
 intro ai s σ H Q I h;refine BoolOp_or (cA (aA ai s σ H _ I h) λv s1 ⟨x,H1,a9,bj,a4⟩=>?_);obtain⟨c,rfl,a4⟩:=a4;cases bj;refine ng ?_;cases c with
|false=>exact ag ai s1 σ H1 Q a9 a4
|true=>exact⟨.bw true,H1,a9,rfl,a4⟩
def ajL(aA:b3 X a cD):b3 X (.UnaryOp .Not a pos) (aku cD):=by
 intro ai s σ H Q I h;refine UnaryOp_ (cA (aA ai s σ H _ I h) λv s1 ⟨x,H1,a9,bj,a4⟩=>?_);obtain⟨c,rfl,a4⟩:=a4;cases bj;exact not_of (ng ⟨.bw (!c),H1,a9,rfl,a4⟩)
def ac'(t:TT)(cD cO:TE):TE:=λσ H Q=>t σ H λc H1=>if c=true then cD σ H1 Q else cO σ H1 Q
def ahm{c:bk}(au:hq X c l9)(aA:b3 X a cD)(ag:b3 X b cO):b3 X (.IfExp c a b pos) (ac' l9 cD cO):=by
 intro ai s σ H Q I h;refine wpAny_IfExp (cA (au ai s σ H _ I h) λd s1 ⟨H1,a9,a4⟩=>?_);cases d with
|true=>exact aA ai s1 σ H1 Q a9 a4
|false=>exact ag ai s1 σ H1 Q a9 a4
end
end bB
namespace bB
open PySem PySem.Spec PyProof.Rows
noncomputable def eO(K:a')(H:aF)(a:aq)(xs:List V):Prop:=
 f5 H a (.lst xs) \/
  ∃(o:Obj) (its:Array av) (n:Nat),K.lookup a=some o/\o.cls=.type "list"/\o.dict=none/\o.data=.seq its n/\its.size<=b'/\Vals xs its.toList
noncomputable def c8(K:a')(H:aF)(a:aq)(xs:List V):Prop:=
 f5 H a (.tup xs) \/
  ∃(o:Obj) (its:Array av) (n:Nat),K.lookup a=some o/\o.cls=.type "tuple"/\o.data=.seq its n/\its.size<=b'/\Vals xs its.toList
noncomputable def Tu:av->Option V
|.none=>some .eA
|.bool b=>some (.bw b)
|.int i _=>some (.int i)
|.str x _=>some (.str x)
|.bytes b _=>some (.lS b)
|.float b _=>some (.zL b)
|.ref a=>some (.ref a)
|.type n=>some (.ty n)
|_=>none
def RelV.abs{x:V}{u:av}(r:RelV x u):Tu u=some x:=by
 cases x with
|eA=>cases r;rfl
|bw _=>cases r;rfl
|int _=>obtain⟨t,rfl⟩:=r;rfl
|str _=>obtain⟨t,rfl⟩:=r;rfl
|lS _=>obtain⟨t,rfl⟩:=r;rfl
|zL _=>obtain⟨t,rfl⟩:=r;rfl
|ref _=>cases r;rfl
|ty _=>cases r;rfl
def RelV.inj{x y:V}{u:av}(r:RelV x u)(q:RelV y u):x=y:=iN (r.abs.symm.trans q.abs)
theorem Vals.inj:∀{xs ys:List V} {us:List av},Vals xs us->Vals ys us->xs=ys
|_,_,_,.nil,.nil=>rfl
|_,_,_,.cons r t,.cons cx t'=>by rw[r.inj cx,Vals.inj t t']
section
variable {X:aV}{ai:List (aq×Obj)}{σ:St}{H:aF}{s:aP}{a:aq}{xs ys:List V}
def eO.of{K:a'}(h:H a=some (.lst xs)):eO K H a xs:=.inl (.inl h)
def c8.of{K:a'}(h:H a=some (.tup xs)):c8 K H a xs:=.inl (.inl h)
def Inv.list(I:Inv X ai σ H s)(h:eO X.K H a xs):∃its:List av,Vals xs its/\PlainL s.heap a its.toArray/\xs.length<=b':=by
 rcases h with h|⟨o,its,n,a0,au,hd,aB,aI,r⟩
 ·obtain⟨z,its,n,r,e⟩:=h.ok I.bW;exact⟨its,r,⟨_,n,e,rfl,rfl,rfl⟩,z⟩
 ·refine⟨its.toList,r,⟨o,n,I.jY a o a0,au,hd,by simpa using aB⟩,?_⟩
  have e:=r.length;simp only[q9] at e;omega
def Inv.tuple(I:Inv X ai σ H s)(h:c8 X.K H a xs):∃its:List av,Vals xs its/\IsTup s.heap a its.toArray/\xs.length<=b':=by
 rcases h with h|⟨o,its,n,a0,au,aB,aI,r⟩
 ·obtain⟨z,its,r,p⟩:=h.ok I.bW;exact⟨its,r,p,z⟩
 ·refine⟨its.toList,r,⟨o,I.jY a o a0,au,n,by simpa using aB⟩,?_⟩
  have e:=r.length;simp only[q9] at e;omega
def Inv.HX(I:Inv X ai σ H s)(h:eO X.K H a xs)(h':eO X.K H a ys):xs=ys:=by
 obtain⟨its,r,⟨o,n,e,_,_,d⟩,_⟩:=I.list h;obtain⟨its',cx,⟨o',xk,bu,_,_,d'⟩,_⟩:=I.list h';rw[e] at bu;cases bu;rw[d] at d';injection d' with wG _;have:its=its':=by simpa using congrArg Array.toList wG
 subst this;exact r.inj cx
def Inv.IE(I:Inv X ai σ H s)(h:c8 X.K H a xs)(h':c8 X.K H a ys):xs=ys:=by
 obtain⟨its,r,⟨o,e,_,n,d⟩,_⟩:=I.tuple h;obtain⟨its',cx,⟨o',bu,_,xk,d'⟩,_⟩:=I.tuple h';rw[e] at bu;cases bu;rw[d] at d';injection d' with wG _;have:its=its':=by simpa using congrArg Array.toList wG
 subst this;exact r.inj cx
end
abbrev aV.jz(X:aV)(E:av->aP->Prop):aV:={X with dg:=E}
abbrev aV.eU(X:aV):aV:=X.jz λ_ _=>False
theorem aV.Ok.jz{X:aV}(ok:X.Ok)(E:av->aP->Prop):(X.jz E).Ok:=
 ⟨ok.mod,ok.kind,ok.glob,ok.blt,ok.above,ok.inj,ok.has,ok.rZ,ok.hd,ok.frames,ok.oq,ok.um,ok.bs,ok.nS,ok.sz,ok.r3,ok.ku,ok.pg⟩
def aV.Ok.l'{X:aV}{E:av->aP->Prop}(ok:(X.jz E).Ok):X.Ok:=
 ⟨ok.mod,ok.kind,ok.glob,ok.blt,ok.above,ok.inj,ok.has,ok.rZ,ok.hd,ok.frames,ok.oq,ok.um,ok.bs,ok.nS,ok.sz,ok.r3,ok.ku,ok.pg⟩
section
variable {X:aV}{ai:List (aq×Obj)}{σ:St}{H:aF}{s:aP}{E:av->aP->Prop}
theorem Inv.jz(I:Inv X ai σ H s)(E:av->aP->Prop):Inv (X.jz E) ai σ H s:=⟨I.ok.jz E,I.os,I.bare,I.base,I.loc,I.cell,I.free,I.jk,I.pin,I.bW,I.len⟩
theorem Inv.l'(I:Inv (X.jz E) ai σ H s):Inv X ai σ H s:=⟨I.ok.l',I.os,I.bare,I.base,I.loc,I.cell,I.free,I.jk,I.pin,I.bW,I.len⟩
theorem o3.l'{D:Ends}{f:Flow}{s':aP}(h:o3 (X.jz E) ai D f s'):o3 X ai D f s':=by
 cases f with
|next=>obtain⟨bR,ak,I,q⟩:=h;exact⟨bR,ak,I.l',q⟩
|brk=>obtain⟨bR,ak,I,q⟩:=h;exact⟨bR,ak,I.l',q⟩
|cont=>obtain⟨bR,ak,I,q⟩:=h;exact⟨bR,ak,I.l',q⟩
|ret u=>obtain⟨v,bR,ak,I,r,q⟩:=h;exact⟨v,bR,ak,I.l',r,q⟩
theorem b3.eU{e:bk}{t:TE}(h:b3 X.eU e t):b3 X e t:=λai s σ H Q I hw=>
 fA (h ai s σ H Q (I.jz _) hw) (λ_ _ ⟨v,ak,mz,r,q⟩=>⟨v,ak,mz.l',r,q⟩) λ_ _ z=>eX z
theorem hq.eU{e:bk}{t:TT}(h:hq X.eU e t):hq X e t:=λai s σ H Q I hw=>
 fA (h ai s σ H Q (I.jz _) hw) (λ_ _ ⟨ak,mz,q⟩=>⟨ak,mz.l',q⟩) λ_ _ z=>eX z
theorem fh.eU{st:List Stmt}{t:fE}(h:fh X.eU st t):fh X st t:=λai s σ H D I hw=>
 fA (h ai s σ H D (I.jz _) hw) (λ_ _ q=>q.l') λ_ _ z=>eX z
end
section
variable {X:aV}{st:Stmt}{rest:List Stmt}{t u:fE}{e:bk}{te:TE}{pos:Pos}
def Rn:fE:=λD σ H=>D.bg σ H
def AH(t u:fE):fE:=λD σ H=>t {D with bg:=u D} σ H
def Qw:fh X [] Rn:=λ_ _ σ H _ I h=>wpAny_execs_nil ⟨σ,H,I,h⟩
def tu(ah:iD X st t)(ao:fh X rest u):fh X (st::rest) (AH t u):=by
 intro ai s σ H D I h;refine wpAny_execs_cons (cA (ah ai s σ H {D with bg:=u D} I h) λf s1 q=>?_);cases f with
|next=>
  obtain⟨bR,ak,mz,q⟩:=q;exact ao ai s1 bR ak D mz q
|ret v=>exact q
|brk=>exact q
|cont=>exact q
def tA(ah:iD X st t):fh X [st] t:=by
 intro ai s σ H D I h;refine wpAny_execs_cons (cA (ah ai s σ H D I h) λf s1 q=>?_);cases f with
|next=>exact wpAny_execs_nil q
|ret v=>exact q
|brk=>exact q
|cont=>exact q
def Inv.quiet{ai:List (aq×Obj)}{σ:St}{H:aF}{s:aP}(I:Inv X ai σ H s):interactive X.env=false:=by simp[interactive,I.ok.kind]
def akv(te:TE):fE:=λD σ H=>te σ H λ_ H1=>D.bg σ H1
def ail(he:b3 X e te)(aB:swapsWith e none pos.line X.env=pure false:=by rfl):iD X (.Expr e pos) (akv te):=by
 intro ai s σ H D I h;exact wpAny_Expr_any (cA (he ai s σ H _ I h) λv s1 ⟨x,H1,a9,bj,a4⟩=>⟨σ,H1,a9,a4⟩) I.quiet aB
def N_(te:TE):fE:=λD σ H=>te σ H D.ee
def B7(he:b3 X e te):iD X (.Return (some e) pos) (N_ te):=by
 intro ai s σ H D I h;exact wpAny_Return_some (cA (he ai s σ H _ I h) λv s1 ⟨x,H1,a9,bj,a4⟩=>⟨x,σ,H1,a9,bj,a4⟩)
def N8(c:TT)(t u:fE):fE:=λD σ H=>c σ H λb H1=>if b=true then t D σ H1 else u D σ H1
def KN{c:bk}{a b:List Stmt}{j9:TT}(au:hq X c j9)(aA:fh X a t)(ag:fh X b u):iD X (.If c a b pos) (N8 j9 t u):=by
 intro ai s σ H D I h;refine wpAny_If (cA (au ai s σ H _ I h) λd s1 ⟨H1,a9,a4⟩=>?_);cases d with
|true=>exact aA ai s1 σ H1 D a9 a4
|false=>exact ag ai s1 σ H1 D a9 a4
end
abbrev nO:=V->St->aF->(St->aF->Prop)->Prop
abbrev o5:=List V->St->aF->(St->aF->Prop)->Prop
noncomputable def rP(X:aV)(target:bk)(t:nO):Prop:=
 ∀(ai:List (aq×Obj)) (s:aP) (σ:St) (H:aF) (v:V) (u:av) (Q:St->aF->Prop),Inv X ai σ H s->RelV v u->t v σ H Q ->
  bE (bN X.prog X.w) X.A (assign target X.env u) (λ_ s'=>∃bR ak,Inv X ai bR ak s'/\Q bR ak) X.dg s
noncomputable def rQ(X:aV)(ts:List bk)(t:o5):Prop:=
 ∀(ai:List (aq×Obj)) (s:aP) (σ:St) (H:aF) (vs:List V) (us:List av) (Q:St->aF->Prop),Inv X ai σ H s->Vals vs us->t vs σ H Q ->
  bE (bN X.prog X.w) X.A (assignInOrder ((pW ts X.env).map (·.2)) us) (λ_ s'=>∃bR ak,Inv X ai bR ak s'/\Q bR ak) X.dg s
section
variable {X:aV}{pos:Pos}
def rE(i:Nat):nO:=λv σ H Q=>Q (σ.set i (some v)) H
def air{i:Nat}{x:Str}(dA:X.N.Nodup)(hi:X.N[i]?=some x)(hx:Loc X.env.scope x)(hf:X.fn x=true\/X.env.scope.names.lookup x=some .local:=by first|exact .inl rfl|exact .inr rfl|assumption):rP X (.Name x pos) (rE i):=by
 intro ai s σ H v u Q I r h;exact wpAny_assign_Name (Jw I dA hi hx r (λs' mz=>⟨_,H,mz,h⟩) hf)
def WM:o5:=λvs σ H Q=>vs=[]/\Q σ H
def ak3(t:nO)(u:o5):o5:=λvs σ H Q=>∃v r,vs=v::r/\t v σ H λbR ak=>u r bR ak Q
def aiq:rQ X [] WM:=by
 intro ai s σ H vs us Q I r h;obtain⟨e,h⟩:=h;subst e;cases r;exact assignInOrder_nil ⟨σ,H,I,h⟩
def ahl{e:bk}{ar:List bk}{t:nO}{u:o5}(ah:rP X e t)(ao:rQ X ar u)
  (aB:(pW (e::ar) X.env).map (·.2)=assign e X.env::(pW ar X.env).map (·.2):=by rfl):rQ X (e::ar) (ak3 t u):=by
 intro ai s σ H vs us Q I r h;obtain⟨v,IH,aE,h⟩:=h;subst aE;cases r with
|cons r sL=>
  rw[aB];refine assignInOrder_cons (cA (ah ai s σ H _ _ _ I r h) λ_ s1 ⟨rJ,H1,a9,a4⟩=>?_);exact ao ai s1 rJ H1 _ _ Q a9 sL a4
def WN(K:a')(n:Nat)(t:o5):nO:=λv σ H Q=>∃a xs,v=.ref a/\c8 K H a xs/\xs.length=n/\t xs σ H Q
def ajJ{ar:List bk}{k:Nat}{t:o5}{n:Nat}(au:X.calm=true)(h:rQ X ar t)
  (bf:(pW ar X.env).length=n:=by rfl) (ic:(pW ar X.env).findIdx? (·.1)=none:=by rfl):rP X (.Tuple ar k pos) (WN X.K n t):=by
 intro ai s σ H v u Q I r hw;obtain⟨a,xs,aE,aD,aH,hw⟩:=hw;subst aE;cases r;obtain⟨its,cn,aN,aI⟩:=I.tuple aD;refine assign_Tuple_tuple (I.ok.hd au) aN (by simp[bf,<- aH,cn.length]) ic λh' hx=>?_;have a9:Inv X ai σ H {s with heap:=h'}:=I.kept (t':=s.toks) λb o e=>hx b o (eg (dj e)) e;exact h ai _ σ H xs _ Q a9 (by simpa using cn) hw
def sQ(te:TE)(g:nO):fE:=λD σ H=>te σ H λx H1=>g x σ H1 D.bg
def tP{i:Nat}{x:Str}{e:bk}{te:TE}{pos':Pos}(dA:X.N.Nodup)(hi:X.N[i]?=some x)(hx:Loc X.env.scope x)(he:b3 X e te)(aB:swapsWith e (some (.Name x pos')) pos.line X.env=pure false:=by rfl)(hf:X.fn x=true\/X.env.scope.names.lookup x=some .local:=by first|exact .inl rfl|exact .inr rfl|assumption):
  iD X (.Assign [.Name x pos'] e pos) (sQ te (rE i)):=by
 intro ai s σ H D I h;refine wpAny_Assign_Name (cA (he ai s σ H _ I h) λv s1 ⟨y,H1,a9,bj,a4⟩=>?_) aB;exact Jw a9 dA hi hx bj (λs2 cg=>⟨_,H1,cg,a4⟩) hf
end
section
variable {X:aV}{pos:Pos}
noncomputable def ajr(c:TT)(cO:fE):fE:=λD σ H=>∃W:Nat->St->aF->Prop,(∃m,W m σ H)/\∀m σ H,W m σ H ->
 c σ H λb H1=>if b=true then ∃N:St->aF->Prop,(∀bR ak,N bR ak->∃ig,ig<m/\W ig bR ak)/\cO {D with bg:=N,bJ:=N,f7:=D.bg} σ H1 else D.bg σ H1
def ahd{c:bk}{body:List Stmt}{j9:TT}{cO:fE}(aC:PassesOwn (bN X.prog X.w) X.A X.env X.dg)(au:hq X c j9)(ag:fh X body cO):iD X (.While c body [] pos) (ajr j9 cO):=by
 intro ai s σ H D I h;obtain⟨W,⟨m0,II⟩,turn⟩:=h;refine wpAny_While (codeAny_whileLoop (λn s'=>∃bR ak,Inv X ai bR ak s'/\W n bR ak) ?_ m0 ⟨σ,H,I,II⟩);rintro n s1 ⟨rJ,H1,a9,uY⟩;refine wpAny_passesOwn aC (cA (au ai s1 rJ H1 _ a9 (turn n rJ H1 uY)) λb s2 ⟨bo,cg,bO⟩=>?_);cases b with
|true=>
  obtain⟨N,dA,bO⟩:=bO;rw[if_pos rfl];refine wpAny_passesOwn aC (cA (ag ai s2 rJ bo _ cg bO) λf s3 dR=>?_);cases f with
  |next=>
   obtain⟨iA,dO,es,oe⟩:=dR;obtain⟨ig,hm,sV⟩:=dA iA dO oe;exact⟨ig,hm,iA,dO,es,sV⟩
  |cont=>
   obtain⟨iA,dO,es,oe⟩:=dR;obtain⟨ig,hm,sV⟩:=dA iA dO oe;exact⟨ig,hm,iA,dO,es,sV⟩
  |brk=>exact dR
  |ret v=>exact dR
|false=>
  rw[if_neg kb];exact wpAny_execs_nil ⟨rJ,bo,cg,bO⟩
end
structure jI where
 go:Nat->aF->Prop
 lC:Nat->aF->V->aF->Prop
 stop:Nat->aF->Prop
noncomputable def my(X:aV)(ai:List (aq×Obj))(H:aF)(b:aq):Prop:=
 H b=none/\b≠X.env.locals/\b∉X.a6/\(b∈X.ex\/X.c'.heap.objs.size<=b)/\(∀x c,X.env.cells.lookup x=some c->c≠b)/\∀p∈X.dn++ai,p.1≠b
def Inv.uu{X:aV}{ai:List (aq×Obj)}{σ:St}{H ak:aF}{s:aP}{b:aq}(I:Inv X ai σ H s)(ag:s.heap.objs.size<=b)(bf:ak b=none):my X ai ak b:=by
 refine⟨bf,sY (il I.lt ag),I.ZS ag,.inr (nd I.l7 ag),λx c e z=>?_,λp aC z=>?_⟩
 ·obtain⟨v,q⟩:=I.cell x c e;exact absurd (il q.lt (by rw[z];exact ag)) (Nat.lt_irrefl _)
 ·exact absurd (il (dj (I.pin p aC).1) (by rw[z];exact ag)) (Nat.lt_irrefl _)
structure Turn(P:c3)(w:cf)(K:a')(dr:bk)(J:jI)(cb:List aq)(it:aq)(ik:Nat->bP->Prop):Prop where
 mem:it∈cb
 obj:∀i h,ik i h->∀b∈cb,∃o,h.get? b=some o/\∀v,o.data≠.cell v
 keep:∀i h h',ik i h->(∀b∈cb,∀o,h.get? b=some o->h'.get? b=some o)->ik i h'
 item:∀(X:aV),X.prog=P->X.w=w->X.K=K->X.calm=true->∀(i:Nat) (ai:List (aq×Obj)) (s:aP) (σ:St) (H:aF) (E:av->aP->Prop),Inv X ai σ H s->(∀b∈cb,my X ai H b)->ik i s.heap->J.go i H ->
  bE (bN P w) X.A (pyNext (.ref it)) (λr s1=>∃u,r=some u /\
   bE (bN P w) X.A (letOwnedTupleGo dr (.ref it) u) (λ_ s2=>∃x ak,Inv X ai σ ak s2/\RelV x u/\J.lC i H x ak/\ik (i+1) s2.heap/\∀b∈cb,ak b=none) E s1) E s
 done:∀(X:aV),X.prog=P->X.w=w->X.K=K->X.calm=true->∀(i:Nat) (ai:List (aq×Obj)) (s:aP) (σ:St) (H:aF) (E:av->aP->Prop),Inv X ai σ H s->(∀b∈cb,my X ai H b)->ik i s.heap->J.stop i H ->
  bE (bN P w) X.A (pyNext (.ref it)) (λr s1=>r=none/\Inv X ai σ H s1) E s
 self:∀(A:dk) (i:Nat) (s:aP) (Q:av->aP->Prop) (E:av->aP->Prop),ik i s.heap->Q (.ref it) s->bE (bN P w) A (pyIter (.ref it)) Q E s
abbrev TI:=St->aF->(jI->aF->Prop)->Prop
noncomputable def Lf(X:aV)(ai:List (aq×Obj))(σ:St)(dr:bk)(R:jI->aF->Prop)(Gp:av)(s2:aP):Prop:=
 ∃(it:aq) (cb:List aq) (ik:Nat->bP->Prop) (J:jI) (ak:aF),Gp=.ref it/\Inv X ai σ ak s2/\Turn X.prog X.w X.K dr J cb it ik/\ik 0 s2.heap/\(∀b∈cb,my X ai ak b)/\R J ak
noncomputable def oZ(X:aV)(dr iter:bk)(uZ:TI):Prop:=
 ∀(ai:List (aq×Obj)) (s:aP) (σ:St) (H:aF) (R:jI->aF->Prop),Inv X ai σ H s->uZ σ H R ->
  bE (bN X.prog X.w) X.A (eval iter X.env) (λv s1=>bE (bN X.prog X.w) X.A (pyIter v) (Lf X ai σ dr R) X.dg s1) X.dg s
def Cr{M:Model}{A:dk}{E:av->aP->Prop}{s:aP}{dr:bk}{it:aq}{u:av}{o:Obj}{n:String}{vs:Array av}{Q:Unit->aP->Prop}(aT:s.heap.get? it=some o)(au:o.cls=.type n)(hd:o.data=.fields vs)
    (bf:["enumerate","zip","dict_itemiterator","dict_reverseitemiterator","odict_iterator","itertools.zip_longest","itertools.pairwise"].contains n=false) (mO:Q () s):bE M A (letOwnedTupleGo dr (.ref it) u) Q E s:=by
  unfold letOwnedTupleGo;cases dr <;> first
    |exact cc mO
    | (cases u <;> first
        |exact cc mO
        | (refine aZ (wpAny_load aT ?_)
           rw[au,hd];show bE M A (if (["enumerate","zip","dict_itemiterator","dict_reverseitemiterator","odict_iterator","itertools.zip_longest","itertools.pairwise"].contains n && vs[0]?==some (rawInt _))=true then _ else _) Q E s;rw[if_neg (by intro h;rw[bf,Bool.false_and] at h;cases h)];exact cc mO))
noncomputable def amq(K:a')(a:aq):jI:=
 ⟨λi H=>∃xs x,eO K H a xs/\xs[i]?=some x,λi H x ak=>ak=H/\∀xs,eO K H a xs->xs[i]?=some x,λi H=>∃xs,eO K H a xs/\xs.length<=i⟩
noncomputable def CP(K:a')(a:aq):jI:=
 ⟨λi H=>∃xs x,c8 K H a xs/\xs[i]?=some x,λi H x ak=>ak=H/\∀xs,c8 K H a xs->xs[i]?=some x,λi H=>∃xs,c8 K H a xs/\xs.length<=i⟩
def y'(lo:Int)(n:Nat):jI:=⟨λi _=>i<n,λi H x ak=>ak=H/\x=.int (lo+i),λi _=>n<=i⟩
def af'{P:c3}{w:cf}{K:a'}{dr:bk}(a it:aq):Turn P w K dr (amq K a) [it] it (λi h=>h.IsListIter it a i) where
 mem:=by simp
 obj:=λi h st b ag=>by
  have e:b=it:=by simpa using ag
  subst e;obtain⟨o,e,c,d⟩:=st;exact⟨o,e,λv z=>by rw[d] at z;cases z⟩
 keep:=λi h h' st k=>st.at λo e=>k it (by simp) o e
 item:=by
  intro X eS hw fu au i ai s σ H E I hf st a7;subst eS hw fu;obtain⟨xs,x,aD,hx⟩:=a7;obtain⟨its,cn,p,aI⟩:=I.list aD;obtain⟨u,cM,e3⟩:=cn.get hx;obtain⟨f0,f1,f2,fW,f4,ez⟩:=hf it (by simp);refine wpAny_pyNext_list_item st p.isList (x:=u) (by simpa using cM) λh' j8 lp=>?_;have a9:Inv X ai σ H {s with heap:=h'}:=I.turned (t':=s.toks) (λb o ag e=>(lp.2 b ag).trans e) f0 f1 fW f4 ez;obtain⟨o,e,c,d⟩:=id j8;exact⟨u,rfl,Cr (s:={s with heap:=h'}) e c d (by decide) ⟨x,H,a9,e3,⟨rfl,λys b1=>by rw[I.HX b1 aD];exact hx⟩,j8,λb ag=>(hf b ag).1⟩⟩
 done:=by
  intro X eS hw fu au i ai s σ H E I hf st a7;subst eS hw fu;obtain⟨xs,aD,hx⟩:=a7;obtain⟨its,cn,p,aI⟩:=I.list aD;obtain⟨f0,f1,f2,fW,f4,ez⟩:=hf it (by simp);have aH:=cn.length;exact wpAny_pyNext_list_end (I.ok.hd au) st p.isList (by simp;omega) λh' hs=>⟨rfl,I.turned (t':=s.toks) (λb o ag e=>hs b o ag e) f0 f1 fW f4 ez⟩
 self:=λ_ _ _ _ _ st h=>wpAny_pyIter_listiter st h
def afs{P:c3}{w:cf}{K:a'}{dr:bk}(a it:aq):Turn P w K dr (CP K a) [it] it (λi h=>h.IsTupleIter it a i) where
 mem:=by simp
 obj:=λi h st b ag=>by
  have e:b=it:=by simpa using ag
  subst e;obtain⟨o,e,c,d⟩:=st;exact⟨o,e,λv z=>by rw[d] at z;cases z⟩
 keep:=λi h h' st k=>st.at λo e=>k it (by simp) o e
 item:=by
  intro X eS hw fu au i ai s σ H E I hf st a7;subst eS hw fu;obtain⟨xs,x,aD,hx⟩:=a7;obtain⟨its,cn,p,aI⟩:=I.tuple aD;obtain⟨u,cM,e3⟩:=cn.get hx;obtain⟨f0,f1,f2,fW,f4,ez⟩:=hf it (by simp);refine wpAny_pyNext_tuple_item st (show s.heap.IsTuple a its.toArray from p) (x:=u) (by simpa using cM) λh' j8 lp=>?_;have a9:Inv X ai σ H {s with heap:=h'}:=I.turned (t':=s.toks) (λb o ag e=>(lp.2 b ag).trans e) f0 f1 fW f4 ez;obtain⟨o,e,c,d⟩:=id j8;exact⟨u,rfl,Cr (s:={s with heap:=h'}) e c d (by decide) ⟨x,H,a9,e3,⟨rfl,λys b1=>by rw[I.IE b1 aD];exact hx⟩,j8,λb ag=>(hf b ag).1⟩⟩
 done:=by
  intro X eS hw fu au i ai s σ H E I hf st a7;subst eS hw fu;obtain⟨xs,aD,hx⟩:=a7;obtain⟨its,cn,p,aI⟩:=I.tuple aD;obtain⟨f0,f1,f2,fW,f4,ez⟩:=hf it (by simp);have aH:=cn.length;exact wpAny_pyNext_tuple_end (I.ok.hd au) st (show s.heap.IsTuple a its.toArray from p) (by simp;omega) λh' hs=>⟨rfl,I.turned (t':=s.toks) (λb o ag e=>hs b o ag e) f0 f1 fW f4 ez⟩
 self:=λ_ _ _ _ _ st h=>wpAny_pyIter_tupleiter st h
def aft{P:c3}{w:cf}{K:a'}{dr:bk}(it:aq)(lo:Int)(n:Nat):Turn P w K dr (y' lo n) [it] it (λi h=>IsRangeIter h it (lo+(i:Nat)*1) ((n:Int) - (i:Nat)) 1) where
 mem:=by simp
 obj:=λi h st b ag=>by
  have e:b=it:=by simpa using ag
  subst e;exact⟨_,st,λv z=>by
   have gA:Data.fields _=Data.cell v:=z;cases gA⟩
 keep:=λi h h' st k=>k it (by simp) _ st
 item:=by
  intro X eS hw fu au i ai s σ H E I hf st a7;subst eS hw fu;obtain⟨f0,f1,f2,fW,f4,ez⟩:=hf it (by simp);have W:=Walks.range (prog:=X.prog) (w:=X.w) (I.ok.hd au) it lo 1 n;refine W.item i s _ _ a7 st λv h' tk ba j8 cm=>?_;obtain⟨t,rfl⟩:=ba;have a9:Inv X ai σ H {s with heap:=h',toks:=tk}:=I.turned (λb o ag e=>cm b o (by simpa using ag) e) f0 f1 fW f4 ez;refine⟨_,rfl,Cr (s:={s with heap:=h',toks:=tk}) (n:="range_iterator") j8 rfl rfl (by decide) ⟨.int (lo+i),H,a9,⟨t,?_⟩,⟨rfl,rfl⟩,j8,λb ag=>(hf b ag).1⟩⟩;rw[Int.mul_one]
 done:=by
  intro X eS hw fu au i ai s σ H E I hf st a7;subst eS hw fu;obtain⟨f0,f1,f2,fW,f4,ez⟩:=hf it (by simp);exact wpAny_pyNext_range_end (I.ok.hd au) st (by have:n<=i:=a7;omega) λh' hs=>⟨rfl,I.turned (t':=s.toks) (λb o ag e=>hs b o ag e) f0 f1 fW f4 ez⟩
 self:=λ_ _ _ _ _ st h=>wpAny_pyIter_rangeiter st h
end bB
namespace bB
open PySem PySem.Spec PyProof.Rows
section
variable {X:aV}{dr:bk}
def aha{ai:List (aq×Obj)}{σ:St}{H:aF}{s:aP}{R:jI->aF->Prop}{E:av->aP->Prop}{lo hi:Int}{t u v:Tok}{tk:Nat}(I:Inv X ai σ H s)(ah:-(2 ^ 62)<=lo)(ao:lo<2 ^ 62)(aY:-(2 ^ 62)<=hi)(bZ:hi<2 ^ 62)
  (q:R (y' lo (hi - lo).toNat) H):bE (bN X.prog X.w) X.A (pyIter (.ref s.heap.objs.size)) (Lf X ai σ dr R) E {s with heap:=s.heap.push {cls:=.type "range",data:=.fields #[.int lo t,.int hi u,.int 1 v]},toks:=tk}:=by
 refine wpAny_pyIter_range (IsRange.new ..) (small_one ah ao aY bZ) ?_
 have a9:Inv X ai σ H {s with heap:=s.heap.push {cls:=.type "range",data:=.fields #[.int lo t,.int hi u,.int 1 v]},toks:=tk}:=I.kept λb o e=>dI _ e;refine⟨(s.heap.push {cls:=.type "range",data:=.fields #[.int lo t,.int hi u,.int 1 v]}).objs.size,[(s.heap.push {cls:=.type "range",data:=.fields #[.int lo t,.int hi u,.int 1 v]}).objs.size],_,_,H,rfl,
  a9.kept (t':=tk) λb o e=>dI _ e,aft _ lo (hi - lo).toNat,?_,λb ag=>?_,q⟩
 ·have aE:lo+((0:Nat):Int)*1=lo:=by simp
  have aK:(((hi - lo).toNat:Nat):Int) - ((0:Nat):Int)=Builtin.Range.rangeSize lo hi 1:=by rw[rangeSize_one];split <;> omega
  show IsRangeIter _ _ (lo+((0:Nat):Int)*1) ((((hi - lo).toNat:Nat):Int) - ((0:Nat):Int)) 1
  rw[aE,aK];exact hJ _ rfl
 ·have e:b=(s.heap.push {cls:=.type "range",data:=.fields #[.int lo t,.int hi u,.int 1 v]}).objs.size:=by simpa using ag
  subst e;exact a9.uu (eo _) (a9.bW.fresh (eo _))
def akZ(cD:fT):TI:=λσ H R=>cD σ H λvs H1=>∃j:Int,vs=[.int j]/\-(2 ^ 62)<=j/\j<2 ^ 62/\R (y' 0 j.toNat) H1
def agj{a:bk}{cD:fT}{p pos:Pos}(a7:et X "range")(hm:X.mg "range"=none)(aA:gm X [a] cD)(aB:bL [a] X.env=[(false,eval a X.env)]:=by rfl):oZ X dr (.Call (.Name "range" p) [a] [] pos) (akZ cD):=by
 intro ai s σ H R I h;refine Call_ (qj I a7 hm boot_range (xK (cA (aA pos ai s σ H _ I h) λus s1 ⟨vs,H1,a9,bj,a4⟩=>?_) aB rfl));obtain⟨j,e,a4,bO,q⟩:=a4;subst e;cases bj with
|cons r sL=>
  cases sL
  obtain⟨t,rfl⟩:=r;exact call_range_1 (aha a9 (by omega) (by omega) a4 bO (by simpa using q))
noncomputable def ac9(uZ:TI)(g:nO)(cO:fE):fE:=λD σ H=>uZ σ H λJ H1=>∃W:Nat->Nat->St->aF->Prop,(∃m,W 0 m σ H1)/\∀i m σ H,W i m σ H ->
 (J.stop i H/\D.bg σ H)\/(J.go i H/\∃N:St->aF->Prop,(∀bR ak,N bR ak->∃ig,ig<m/\W (i+1) ig bR ak)/\∀x ak,J.lC i H x ak->g x σ ak λnE bo=>cO {D with bg:=N,bJ:=N,f7:=D.bg} nE bo)
def yG(cb:List aq)(h:bP):List (aq×Obj):=cb.filterMap λb=>(h.get? b).map λo=>(b,o)
def Bv{cb:List aq}{h:bP}{b:aq}{o:Obj}(ag:b∈cb)(e:h.get? b=some o):(b,o)∈yG cb h:=List.mem_filterMap.mpr ⟨b,ag,by rw[e];rfl⟩
def agm{cb:List aq}{h:bP}{p:aq×Obj}(aC:p∈yG cb h):p.1∈cb/\h.get? p.1=some p.2:=by
 obtain⟨b,ag,e⟩:=List.mem_filterMap.mp aC;cases q:h.get? b with
|none=>rw[q] at e;cases e
|some o=>
  rw[q] at e;have bu:(b,o)=p:=iN e;subst bu;exact⟨ag,q⟩
def Inv.pinned{ai:List (aq×Obj)}{σ:St}{H:aF}{s:aP}{cb:List aq}(I:Inv X ai σ H s)(hf:∀b∈cb,my X ai H b)(aT:∀b∈cb,∃o,s.heap.get? b=some o/\∀v,o.data≠.cell v):Inv X (ai++yG cb s.heap) σ H s:=
 I.NF λp aC=>(gz.mp aC).elim (λz=>I.pin p (ou _ z)) λz=>by
  obtain⟨ag,e⟩:=agm z;obtain⟨f0,f1,f2,_⟩:=hf p.1 ag;obtain⟨o,bu,d⟩:=aT p.1 ag;rw[e] at bu;cases bu;exact⟨e,f0,f1,f2,d⟩
def Inv.AN{ai c1:List (aq×Obj)}{σ:St}{H:aF}{s:aP}(I:Inv X (ai++c1) σ H s):Inv X ai σ H s:=I.NF λp aC=>I.pin p (ou _ (List.mem_append_left _ aC))
def ajI{iter:bk}{body:List Stmt}{uZ:TI}{g:nO}{cO:fE}{pos:Pos}(aC:PassesOwn (bN X.prog X.w) X.A X.env X.dg)(au:X.calm=true)(hi:oZ X dr iter uZ)(a7:rP X dr g)(ag:fh X body cO)
  (aB:∀x,amf iter X.env x=pure x:=by intro _;rfl):iD X (.For dr iter body [] pos) (ac9 uZ g cO):=by
 intro ai s σ H D I h;refine wpAny_For (cA (hi ai s σ H _ I h) λv s1 ah=>cA ah λGp s2 ao=>?_) aB;obtain⟨it,cb,ik,J,bo,e,cg,T,lr,f2,W,⟨m0,II⟩,turn⟩:=ao;subst e;have sO:∀{ak:aF},(∀b∈cb,ak b=none)->∀b∈cb,my X ai ak b:=λbf b ag=>⟨bf b ag,(f2 b ag).2⟩;refine codeAny_forLoop_any (λn s'=>∃i bR ak,Inv X ai bR ak s'/\ik i s'.heap/\(∀b∈cb,ak b=none)/\W i n bR ak) ?_ m0 ⟨0,σ,bo,cg,lr,λb ag=>(f2 b ag).1,II⟩;rintro n s3 ⟨i,iA,dO,es,xE,wO,sV⟩;rcases turn i n iA dO sV with ⟨stop,sG⟩|⟨go,N,dA,step⟩
 ·refine wpAny_passesOwn aC (cA (T.done X rfl rfl rfl au i ai s3 iA dO X.dg es (sO wO) xE stop) λr s4 ⟨ax,h5⟩=>?_)
  subst ax;exact wpAny_execs_nil ⟨iA,dO,h5,sG⟩
 ·refine wpAny_passesOwn aC (cA (T.item X rfl rfl rfl au i ai s3 iA dO X.dg es (sO wO) xE go) λr s4 ⟨u,ax,bZ⟩=>?_)
  subst ax;refine wpAny_passesOwn aC (cA bZ λ_ s5 ⟨x,jh,wb,sH,IL,sN,FE⟩=>?_);have CK:=wb.pinned (sO FE) (T.obj _ _ sN);refine wpAny_passesOwn aC (cA (a7 _ s5 iA jh x u _ CK sH (step x jh IL)) λ_ d2 ⟨oO,amd,CL,q6⟩=>?_);refine wpAny_passesOwn aC (cA (ag _ d2 oO amd _ CL q6) λf c2 q1=>?_);have again:∀{kp:St} {gP:aF},Inv X (ai++yG cb s5.heap) kp gP c2->N kp gP->∃m,m<n/\∃i bR ak,Inv X ai bR ak c2/\ik i c2.heap/\(∀b∈cb,ak b=none)/\W i m bR ak:=λ{kp gP} hR sv=>by
   obtain⟨ig,hm,w7⟩:=dA kp gP sv;refine⟨ig,hm,i+1,kp,gP,hR.AN,T.keep _ _ _ sN λb ag o e=>(hR.pin (b,o) (ou _ (ou _ (Bv ag e)))).1,λb ag=>?_,w7⟩;obtain⟨o,e,d⟩:=T.obj _ _ sN b ag;exact (hR.pin (b,o) (ou _ (ou _ (Bv ag e)))).2.1
  cases f with
  |next=>obtain⟨kp,gP,hR,sv⟩:=q1;exact again hR sv
  |cont=>obtain⟨kp,gP,hR,sv⟩:=q1;exact again hR sv
  |brk=>obtain⟨kp,gP,hR,q1⟩:=q1;exact⟨kp,gP,hR.AN,q1⟩
  |ret v=>obtain⟨u1,kp,gP,hR,sI,q1⟩:=q1;exact⟨u1,kp,gP,hR.AN,sI,q1⟩
end
end bB
namespace bB
open PySem PySem.Spec PyProof.Rows
abbrev fD:=V->V->aF->di->Prop
noncomputable def d_(X:aV)(f:av->av->Sem av)(r:fD):Prop:=
 ∀(ai:List (aq×Obj)) (s:aP) (σ:St) (H:aF) (x y:V) (v u:av) (Q:di),Inv X ai σ H s->RelV x v->RelV y u->r x y H Q ->
  bE (bN X.prog X.w) X.A (f v u) (hp X ai σ Q) X.dg s
noncomputable def C1(X:aV)(f:av->Sem av)(r:V->aF->di->Prop):Prop:=
 ∀(ai:List (aq×Obj)) (s:aP) (σ:St) (H:aF) (x:V) (v:av) (Q:di),Inv X ai σ H s->RelV x v->r x H Q ->
  bE (bN X.prog X.w) X.A (f v) (hp X ai σ Q) X.dg s
noncomputable def km(X:aV)(f:av)(r:List V->aF->di->Prop):Prop:=
 ∀(ai:List (aq×Obj)) (s:aP) (σ:St) (H:aF) (xs:List V) (us:List av) (Q:di),Inv X ai σ H s->Vals xs us->r xs H Q ->
  bE (bN X.prog X.w) X.A (call f us) (hp X ai σ Q) X.dg s
noncomputable def Tp(X:aV)(r:V->aF->(Bool->aF->Prop)->Prop):Prop:=
 ∀(ai:List (aq×Obj)) (s:aP) (σ:St) (H:aF) (x:V) (v:av) (Q:Bool->aF->Prop),Inv X ai σ H s->RelV x v->r x H Q ->
  bE (bN X.prog X.w) X.A (truthy v) (zl X ai σ Q) X.dg s
def uT(r:fD)(cD cO:TE):TE:=λσ H Q=>cD σ H λx H1=>cO σ H1 λy bo=>r x y bo Q
def Ob(r:V->aF->di->Prop)(cD:TE):TE:=λσ H Q=>cD σ H λx H1=>r x H1 Q
def uR(C:Int->Int->Prop)(g:Int->Int->V):fD:=λx y H Q=>∃i j,x=.int i/\y=.int j/\C i j/\Q (g i j) H
def kI(g:Int->Int->V):fD:=λx y H Q=>∃i j,x=.int i/\y=.int j/\Q (g i j) H
def Iu(g:Int->V):V->aF->di->Prop:=λx H Q=>∃i,x=.int i/\Q (g i) H
section
variable {X:aV}{a b c:bk}{cD cO j9:TE}{pos:Pos}
def DP(aA:b3 X a cD)(ag:b3 X b cO){ai:List (aq×Obj)}{s:aP}{σ:St}{H:aF}{R:V->V->aF->Prop}(I:Inv X ai σ H s)
  (h:cD σ H λx H1=>cO σ H1 λy bo=>R x y bo) {Q:av->aP->Prop} {f:av->av->Sem av}
  (hf:∀v u s2 x y bo,Inv X ai σ bo s2->RelV x v->RelV y u->R x y bo->bE (bN X.prog X.w) X.A (f v u) Q X.dg s2):
  bE (bN X.prog X.w) X.A (eval a X.env) (λv dx=>bE (bN X.prog X.w) X.A (eval b X.env) (λu l8=>bE (bN X.prog X.w) X.A (f v u) Q X.dg l8) X.dg dx) X.dg s:=by
 refine cA (aA ai s σ H _ I h) λv s1 ⟨x,H1,a9,bj,a4⟩=>?_
 refine cA (ag ai s1 σ H1 _ a9 a4) λu s2 ⟨y,bo,cg,cF,bO⟩=>?_
 exact hf v u s2 x y bo cg bj cF bO
def rC{op:Operator}{r:fD}(aT:d_ X (kc op) r)(aA:b3 X a cD)(ag:b3 X b cO):b3 X (.BinOp a op b pos) (uT r cD cO):=by
 intro ai s σ H Q I h;exact wpAny_BinOp (DP aA ag I h λv u s2 x y bo cg aS bt q=>aT ai s2 σ bo x y v u Q cg aS bt q)
def KO{op:UnaryOp}{r:V->aF->di->Prop}(aT:C1 X (unaryOp op) r)(aA:b3 X a cD):b3 X (.UnaryOp op a pos) (Ob r cD):=by
 intro ai s σ H Q I h;exact UnaryOp_ (cA (aA ai s σ H _ I h) λv s1 ⟨x,H1,a9,bj,a4⟩=>aT ai s1 σ H1 x v Q a9 bj a4)
def amk{f:av->av->Sem av}{C:Int->Int->Prop}{g:Int->Int->Int}
  (rule:∀(i j:Int) (t u:Tok) (s:aP) (Q:av->aP->Prop) (E:av->aP->Prop),C i j->Q (.int (g i j) s.toks) {s with toks:=s.toks+1}->bE (bN X.prog X.w) X.A (f (.int i t) (.int j u)) Q E s):
  d_ X f (uR C λi j=>.int (g i j)):=by
 intro ai s σ H x y v u Q I aS bt h;obtain⟨i,j,rfl,rfl,au,q⟩:=h;obtain⟨t,rfl⟩:=aS;obtain⟨t',rfl⟩:=bt;exact rule i j t t' s _ _ au ⟨.int (g i j),H,I.tok _,⟨_,rfl⟩,q⟩
def NB{f:av->av->Sem av}{g:Int->Int->Int}
  (rule:∀(i j:Int) (t u:Tok) (s:aP) (Q:av->aP->Prop) (E:av->aP->Prop),Q (.int (g i j) s.toks) {s with toks:=s.toks+1}->bE (bN X.prog X.w) X.A (f (.int i t) (.int j u)) Q E s):
  d_ X f (kI λi j=>.int (g i j)):=by
 intro ai s σ H x y v u Q I aS bt h;obtain⟨i,j,rfl,rfl,q⟩:=h;obtain⟨t,rfl⟩:=aS;obtain⟨t',rfl⟩:=bt;exact rule i j t t' s _ _ ⟨.int (g i j),H,I.tok _,⟨_,rfl⟩,q⟩
def Am{f:av->av->Sem av}{g:Int->Int->Bool}
  (rule:∀(i j:Int) (t u:Tok) (s:aP) (Q:av->aP->Prop) (E:av->aP->Prop),Q (.bool (g i j)) s->bE (bN X.prog X.w) X.A (f (.int i t) (.int j u)) Q E s):
  d_ X f (kI λi j=>.bw (g i j)):=by
 intro ai s σ H x y v u Q I aS bt h;obtain⟨i,j,rfl,rfl,q⟩:=h;obtain⟨t,rfl⟩:=aS;obtain⟨t',rfl⟩:=bt;exact rule i j t t' s _ _ ⟨.bw (g i j),H,I,rfl,q⟩
def RU(i j:Int):Prop:=0<j/\j<1073741824
def RV(i j:Int):Prop:=0<=j/\j<=1000000/\i.natAbs<2 ^ 64
def y5(i j:Int):Prop:=(-(2 ^ 64)<i/\i<2 ^ 64)\/(-(2 ^ 64)<j/\j<2 ^ 64)
def y5.ok{i j:Int}(h:y5 i j):IntMulOk i j:=by
 rcases h with ⟨ah,ao⟩|⟨ah,ao⟩
 ·exact .of_left (intBits_le_64 ah ao)
 ·exact .of_right (intBits_le_64 ah ao)
def ajW:d_ X (kc .Add) (kI λi j=>.int (i+j)):=NB λ_ _ _ _ _ _ _ q=>add_int q
def ajR:d_ X (kc .Sub) (kI λi j=>.int (i - j)):=NB λ_ _ _ _ _ _ _ q=>sub_int q
def ajU:d_ X (kc .Mult) (uR y5 λi j=>.int (i*j)):=amk λ_ _ _ _ _ _ _ au q=>mul_int q au.ok
def aiB:d_ X (kc .FloorDiv) (uR RU λi j=>.int (i / j)):=amk λi j _ _ _ _ _ au q=>by
 have ah:(0:Int)<j:=au.1;have ao:j<1073741824:=au.2;exact floordiv_int (by omega) (by rw[Int.fdiv_eq_ediv_of_nonneg i (by omega)];exact q) (.inl (PyProof.noPylong_small (by omega)))
def ajV:d_ X (kc .Mod) (uR (λ_ j=>0<j) λi j=>.int (i % j)):=amk λi j _ _ _ _ _ au q=>by
 have ah:(0:Int)<j:=au;exact mod_int' (by omega) (by rw[Int.fmod_eq_emod_of_nonneg i (by omega)];exact q)
def ajS:d_ X (kc .Pow) (uR RV λi j=>.int (i ^ j.toNat)):=amk λ_ _ _ _ _ _ _ au q=>pow_int_small au.1 au.2.1 au.2.2 q
def adO{f:av->Sem av}{g:Int->Int}
  (rule:∀(i:Int) (t:Tok) (s:aP) (Q:av->aP->Prop) (E:av->aP->Prop),Q (.int (g i) s.toks) {s with toks:=s.toks+1}->bE (bN X.prog X.w) X.A (f (.int i t)) Q E s):
  C1 X f (Iu λi=>.int (g i)):=by
 intro ai s σ H x v Q I aS h;obtain⟨i,rfl,q⟩:=h;obtain⟨t,rfl⟩:=aS;exact rule i t s _ _ ⟨.int (g i),H,I.tok _,⟨_,rfl⟩,q⟩
def Kf:C1 X (unaryOp .USub) (Iu λi=>.int (-i)):=adO λ_ _ _ _ _ q=>neg_int q
end
noncomputable def ab8:V->V->Bool
|.eA,.eA=>true|.eA,.int _=>true|.int _,.eA=>true|.eA,.bw _=>true|.bw _,.eA=>true|.eA,.str _=>true|.str _,.eA=>true
|.int _,.int _=>true|.bw _,.bw _=>true|.str _,.str _=>true|.lS _,.lS _=>true
|.int _,.str _=>true|.str _,.int _=>true|.bw _,.str _=>true|.str _,.bw _=>true
|_,_=>false
def NJ:fD:=λx y H Q=>ab8 x y=true/\Q (.bw (decide (x=y))) H
def ai6{i j:Int}:decide (V.int i=V.int j)=(i==j):=by
 rw[Bool.eq_iff_iff];simp
def akf{i j:Bool}:decide (V.bw i=V.bw j)=(i==j):=by
 rw[Bool.eq_iff_iff];simp
def ai5{i j:Str}:decide (V.str i=V.str j)=(i==j):=by
 rw[Bool.eq_iff_iff];simp
def ai7{i j:Array UInt8}:decide (V.lS i=V.lS j)=(i.toList==j.toList):=by
 rw[Bool.eq_iff_iff];cases i;cases j;simp
section
variable {X:aV}{a b c:bk}{cD cO j9:TE}{pos:Pos}
def iv{ai:List (aq×Obj)}{σ:St}{H:aF}{s:aP}{Q:di}{k ie:Bool}(I:Inv X ai σ H s)(q:Q (.bw k) H)(e:k=ie):hp X ai σ Q (.bool ie) s:=by
 subst e;exact⟨.bw k,H,I,rfl,q⟩
def akM:d_ X (g0 .Eq) NJ:=by
 intro ai s σ H x y v u Q I aS bt h;obtain⟨aB,q⟩:=h;cases x with
|eA=>
  cases aS
  cases y with
  |eA=>cases bt;exact PySem.EqNone.eq_none_none (iv I q (by simp))
  |bw j=>cases bt;exact PySem.EqNone.eq_none_bool (iv I q (by simp))
  |int j=>obtain⟨t',rfl⟩:=bt;exact PySem.EqNone.eq_none_int (iv I q (by simp))
  |str j=>obtain⟨t',rfl⟩:=bt;exact PySem.EqNone.eq_none_str (iv I q (by simp))
  |_=>exact absurd (show false=true from aB) kb
|bw i=>
  cases aS
  cases y with
  |eA=>cases bt;exact PySem.EqNone.eq_bool_none (iv I q (by simp))
  |bw j=>cases bt;exact eq_bool (iv I q akf)
  |str j=>obtain⟨t',rfl⟩:=bt;exact PySem.EqMixed.eq_bool_str (iv I q (by simp))
  |_=>exact absurd (show false=true from aB) kb
|int i=>
  obtain⟨t,rfl⟩:=aS;cases y with
  |eA=>cases bt;exact PySem.EqNone.eq_int_none (iv I q (by simp))
  |int j=>obtain⟨t',rfl⟩:=bt;exact eq_int (iv I q ai6)
  |str j=>obtain⟨t',rfl⟩:=bt;exact PySem.EqMixed.eq_int_str (iv I q (by simp))
  |_=>exact absurd (show false=true from aB) kb
|str i=>
  obtain⟨t,rfl⟩:=aS;cases y with
  |eA=>cases bt;exact PySem.EqNone.eq_str_none (iv I q (by simp))
  |bw j=>cases bt;exact PySem.EqMixed.eq_str_bool (iv I q (by simp))
  |int j=>obtain⟨t',rfl⟩:=bt;exact PySem.EqMixed.eq_str_int (iv I q (by simp))
  |str j=>obtain⟨t',rfl⟩:=bt;exact eq_str (iv I q ai5)
  |_=>exact absurd (show false=true from aB) kb
|lS i=>
  obtain⟨t,rfl⟩:=aS;cases y with
  |lS j=>obtain⟨t',rfl⟩:=bt;exact PySem.W.eq_bytes (iv I q ai7)
  |_=>exact absurd (show false=true from aB) kb
|_=>cases y <;> exact absurd (show false=true from aB) kb
def yW:d_ X (g0 .Lt) (kI λi j=>.bw (decide (i<j))):=Am λ_ _ _ _ _ _ _ q=>lt_int q
def Cj:d_ X (g0 .LtE) (kI λi j=>.bw (decide (i<=j))):=Am λ_ _ _ _ _ _ _ q=>le_int q
def KR:d_ X (g0 .Gt) (kI λi j=>.bw (decide (j<i))):=Am λ_ _ _ _ _ _ _ q=>gt_int q
def Rv:d_ X (g0 .GtE) (kI λi j=>.bw (decide (j<=i))):=Am λ_ _ _ _ _ _ _ q=>ge_int q
def yi:d_ X (g0 .Lt) (λx y H Q=>∃i j,x=.str i/\y=.str j/\Q (.bw (decide (i.cps.toList<j.cps.toList))) H):=by
 intro ai s σ H x y v u Q I aS bt h;obtain⟨i,j,rfl,rfl,q⟩:=h;obtain⟨t,rfl⟩:=aS;obtain⟨t',rfl⟩:=bt;exact lt_str (iv I q rfl)
def d_.or{f:av->av->Sem av}{r cx:fD}(h:d_ X f r)(h':d_ X f cx):d_ X f (λx y H Q=>r x y H Q\/cx x y H Q):=by
 intro ai s σ H x y v u Q I aS bt q;rcases q with q|q
 ·exact h ai s σ H x y v u Q I aS bt q
 ·exact h' ai s σ H x y v u Q I aS bt q
def Kr(b:bk){op:CmpOp}(h:op≠.In:=by decide)(ao:op≠.NotIn:=by decide):ox op b=false:=by
 have aE:(op==CmpOp.In)=false:=by cases op <;> first|rfl|exact absurd rfl h
 have aK:(op==CmpOp.NotIn)=false:=by cases op <;> first|rfl|exact absurd rfl ao
 cases b <;> simp[ox,aE,aK]
def aiu{op:CmpOp}{r:fD}(aT:d_ X (g0 op) r)(aA:b3 X a cD)(ag:b3 X b cO)(hm:ox op b=false):b3 X (.Compare a [op] [b] pos) (uT r cD cO):=by
 intro ai s σ H Q I h;exact wpAny_Compare1 (DP aA ag I h λv u s2 x y bo cg aS bt q=>aT ai s2 σ bo x y v u Q cg aS bt q) hm
def KH(t:TE):TT:=λσ H Q=>t σ H λx ak=>∃k,x=.bw k/\Q k ak
def Qv{op:CmpOp}{r:fD}(aT:d_ X (g0 op) r)(aA:b3 X a cD)(ag:b3 X b cO)(hm:ox op b=false):hq X (.Compare a [op] [b] pos) (KH (uT r cD cO)):=by
 intro ai s σ H Q I h;refine wpAny_isTrue_Compare1 (cA (aA ai s σ H _ I h) λv s1 ⟨x,H1,a9,bj,a4⟩=>cA (ag ai s1 σ H1 _ a9 a4) λu s2 ⟨y,bo,cg,cF,bO⟩=>
  cA (aT ai s2 σ bo x y v u _ cg bj cF bO) λc s3 ⟨z,dO,es,j4,k,e,dR⟩=>?_) hm
 subst e;cases j4;exact ng ⟨dO,es,dR⟩
noncomputable def Kj(r cx:fD)(cD cO j9:TE):TE:=λσ H Q=>cD σ H λx H1=>cO σ H1 λy bo=>r x y bo λz dO=>∃k,z=.bw k /\
 (if k=true then j9 σ dO λgM hQ=>cx y gM hQ Q else Q (.bw false) dO)
def aho{op sD:CmpOp}{r cx:fD}(aT:d_ X (g0 op) r)(e8:d_ X (g0 sD) cx)(aA:b3 X a cD)(ag:b3 X b cO)(au:b3 X c j9)
  (hm:lastMarks [op,sD] [b,c]=false:=by with_unfolding_all rfl):b3 X (.Compare a [op,sD] [b,c] pos) (Kj r cx cD cO j9):=by
 intro ai s σ H Q I h;refine Compare_chain (cA (aA ai s σ H _ I h) λv s1 ⟨x,H1,a9,bj,a4⟩=>chain_link (cA (ag ai s1 σ H1 _ a9 a4) λu s2 ⟨y,bo,cg,cF,bO⟩=>
  cA (aT ai s2 σ bo x y v u _ cg bj cF bO) λd s3 ⟨z,dO,es,j4,k,e,dR⟩=>?_)) hm
 subst e;cases j4;refine ng ?_;cases k with
|false=>exact ite_ff ⟨.bw false,dO,es,rfl,dR⟩
|true=>exact ite_tt (chain_last (cA (au ai s3 σ dO _ es dR) λgM s4 ⟨gA,hQ,h5,hV,m2⟩=>e8 ai s4 σ hQ y gA u gM Q h5 cF hV m2))
def ahc{op sD:CmpOp}{r cx:fD}(aT:d_ X (g0 op) r)(e8:d_ X (g0 sD) cx)(aA:b3 X a cD)(ag:b3 X b cO)(au:b3 X c j9)
  (hm:lastMarks [op,sD] [b,c]=false:=by with_unfolding_all rfl):hq X (.Compare a [op,sD] [b,c] pos) (KH (Kj r cx cD cO j9)):=by
 intro ai s σ H Q I h;refine isTrue_chain (cA (aA ai s σ H _ I h) λv s1 ⟨x,H1,a9,bj,a4⟩=>test_link (cA (ag ai s1 σ H1 _ a9 a4) λu s2 ⟨y,bo,cg,cF,bO⟩=>
  cA (aT ai s2 σ bo x y v u _ cg bj cF bO) λd s3 ⟨z,dO,es,j4,k,e,dR⟩=>?_)) hm
 subst e;cases j4;refine ng ?_;cases k with
|false=>
  obtain⟨ie,bu,d5⟩:=dR;cases bu;exact ite_ff ⟨dO,es,d5⟩
|true=>
  refine ite_tt (test_last (cA (au ai s3 σ dO _ es dR) λgM s4 ⟨gA,hQ,h5,hV,m2⟩=>cA (e8 ai s4 σ hQ y gA u gM _ h5 cF hV m2) λd' s5 ⟨fb,jh,wb,sH,k2,aK,om⟩=>?_))
  subst aK;cases sH;exact ng ⟨jh,wb,om⟩
noncomputable def Li(K:a')(x:V)(H:aF)(k:Bool):Prop:=
 match x with
|.eA=>k=false
|.bw b=>k=b
|.int i=>k=(i != 0)
|.str y=>y.length<=b'/\k=((y.length:Int) != 0)
|.lS y=>y.size<=b'/\k=((y.size:Int) != 0)
|.ref p=>(∃xs,eO K H p xs/\k=!xs.isEmpty)\/(∃xs,c8 K H p xs/\k=!xs.isEmpty)\/∃dc,H p=some (.ji dc)/\k=!dc.isEmpty
|_=>False
def afY{amb:Type}{dc:List (amb×V)}{vs:List (amb×av)}(r:CS dc vs):(!vs.isEmpty)=!dc.isEmpty:=by
 cases r <;> rfl
def Pd{xs:List V}{its:List av}(r:Vals xs its):(!its.toArray.isEmpty)=!xs.isEmpty:=by
 cases r <;> simp
def vL:(b':Nat)<2 ^ 63:=by rw[sizeLine_eq];decide
def ajn:Tp X (λx H Q=>∃k,Li X.K x H k/\Q k H):=by
 intro ai s σ H x v Q I aS h;obtain⟨k,e,q⟩:=h;have aH:=vL;have aB:b'=16777216:=sizeLine_eq;cases x with
|eA=>
  cases aS
  have bu:k=false:=e;subst bu;exact truthy_none ⟨H,I,q⟩
|bw b=>
  cases aS
  have bu:k=b:=e;subst bu;exact ng ⟨H,I,q⟩
|int i=>
  obtain⟨t,rfl⟩:=aS;have bu:k=(i != 0):=e;subst bu;exact PySem.P.truthy_int ⟨H,I,q⟩
|str y=>
  obtain⟨t,rfl⟩:=aS;obtain⟨b1,bu⟩:y.length<=b'/\k=((y.length:Int) != 0):=e;subst bu;exact PySem.P.truthy_str (by omega) ⟨H,I.tok _,q⟩
|lS y=>
  obtain⟨t,rfl⟩:=aS;obtain⟨b1,bu⟩:y.size<=b'/\k=((y.size:Int) != 0):=e;subst bu;exact PySem.W.truthy_bytes (by omega) ⟨H,I.tok _,q⟩
|ref p=>
  cases aS
  have bu:(∃xs,eO X.K H p xs/\k=!xs.isEmpty)\/(∃xs,c8 X.K H p xs/\k=!xs.isEmpty)\/∃dc,H p=some (.ji dc)/\k=!dc.isEmpty:=e;rcases bu with ⟨xs,hx,bu⟩|⟨xs,hx,bu⟩|⟨dc,hx,bu⟩
  ·subst bu;obtain⟨its,r,c1,aI⟩:=I.list hx;have hlen:=r.length;exact wpAny_truthy_list c1.isList (by simp only[eE];omega) ⟨H,I.tok _,by rw[Pd r];exact q⟩
  ·subst bu;obtain⟨its,r,c1,aI⟩:=I.tuple hx;have hlen:=r.length;exact truthy_tuple c1 (by simp only[eE];omega) ⟨H,I.tok _,by rw[Pd r];exact q⟩
  ·subst bu;obtain⟨aI,lV,vs,r,m⟩:dc.length<=b'/\(p==sysModules)=false/\∃vs,CS dc vs/\s.heap.DictOf (J0 X.prog X.w) p vs:=I.bW p _ hx;have hlen:dc.length=vs.length:=Paired.length r;exact wpAny_truthy_dict lV m (by omega) ⟨H,I.tok _,by rw[afY r];exact q⟩
|_=>exact (show False from e).elim
def ahb(aA:b3 X a cD)(he:∀whole,isTrue a X.env whole=(do let v <- whole;standAt a.pos;holding [v] (truthy v))):
  hq X a (λσ H Q=>cD σ H λx ak=>∃k,Li X.K x ak k/\Q k ak):=by
 intro ai s σ H Q I h;exact isTrue_plain (cA (aA ai s σ H _ I h) λv s1 ⟨x,H1,a9,bj,a4⟩=>ajn ai s1 σ H1 x v Q a9 bj a4) (he _)
def afJ:d_ X (kc .Add) (λx y H Q=>∃i j,x=.str i/\y=.str j/\i.length+j.length<=b'/\Q (.str (i++j)) H):=by
 intro ai s σ H x y v u Q I aS bt h;obtain⟨i,j,rfl,rfl,aI,q⟩:=h;obtain⟨t,rfl⟩:=aS;obtain⟨t',rfl⟩:=bt;exact add_str (λt' tk=>⟨.str (i++j),H,I.tok _,⟨_,rfl⟩,q⟩) aI
def vals1{x:V}{us:List av}(r:Vals [x] us):∃u,us=[u]/\RelV x u:=by
 cases r with
|cons bj cF=>cases cF;exact⟨_,rfl,bj⟩
def vals2{x y:V}{us:List av}(r:Vals [x,y] us):∃u gM,us=[u,gM]/\RelV x u/\RelV y gM:=by
 cases r with
|cons bj cF=>
  cases cF with
  |cons j4 hV=>cases hV;exact⟨_,_,rfl,bj,j4⟩
def agR(au:X.calm=true):km X (.builtin "max") (λxs H Q=>∃i j,xs=[.int i,.int j]/\Q (.int (if j > i then j else i)) H):=by
 intro ai s σ H xs us Q I r h;obtain⟨i,j,rfl,q⟩:=h;obtain⟨u,gM,rfl,⟨t,rfl⟩,⟨t',rfl⟩⟩:=vals2 r;refine max_two_ints (I.ok.hd au) λh' tk k=>⟨_,H,I.kept k,?_,q⟩;by_cases cS:j > i
 ·rw[if_pos cS,if_pos cS];exact⟨_,rfl⟩
 ·rw[if_neg cS,if_neg cS];exact⟨_,rfl⟩
def agQ(au:X.calm=true):km X (.builtin "min") (λxs H Q=>∃i j,xs=[.int i,.int j]/\Q (.int (if j<i then j else i)) H):=by
 intro ai s σ H xs us Q I r h;obtain⟨i,j,rfl,q⟩:=h;obtain⟨u,gM,rfl,⟨t,rfl⟩,⟨t',rfl⟩⟩:=vals2 r;refine min_two_ints (I.ok.hd au) λh' tk k=>⟨_,H,I.kept k,?_,q⟩;by_cases cS:j<i
 ·rw[if_pos cS,if_pos cS];exact⟨_,rfl⟩
 ·rw[if_neg cS,if_neg cS];exact⟨_,rfl⟩
def ah3:km X (.builtin "ord") (λxs H Q=>∃x,xs=[.str x]/\x.length=1/\Q (.int (x.cps.getD 0 0:Nat)) H):=by
 intro ai s σ H xs us Q I r h;obtain⟨x,rfl,aI,q⟩:=h;obtain⟨u,rfl,t,rfl⟩:=vals1 r;exact ord_of_one aI ⟨.int _,H,I.tok _,⟨_,rfl⟩,q⟩
end
end bB
namespace bB
open PySem PySem.Spec PyProof.Rows
end bB
namespace bB
open PySem PySem.Spec PyProof.Rows
structure eN(k:Nat)(A:dk):Prop where
 hd:A.handled=none
 wI:A.depth+3*k+5<recursionLimit
 un:A.units+16*k+200<cLine
def eN.mono{j k:Nat}{A:dk}(r:eN k A)(h:j<=k):eN j A:=⟨r.hd,by have:=r.wI;omega,by have:=r.un;omega⟩
theorem eN.deeper{k:Nat}{A:dk}(r:eN (k+1) A)(env:Env):eN k (A.deeper env):=
 ⟨r.hd,by have:=r.wI;show A.depth+1+3*k+5<_;omega,by have:=r.un;show A.units+3+16*k+200<_;omega⟩
theorem eN.depth{k:Nat}{A:dk}(r:eN k A):A.depth<recursionLimit:=by have:=r.wI;omega
theorem eN.units{k:Nat}{A:dk}(r:eN k A):A.units+64<cLine:=by have:=r.un;omega
def l_:fT:=λ_ H Q=>Q [] H
def hG(cD:TE)(tr:fT):fT:=λσ H Q=>cD σ H λx H1=>tr σ H1 λxs bo=>Q (x::xs) bo
section
variable {X:aV}{e:bk}{ar:List bk}{te:TE}{t:fT}{pos:Pos}
def h2:gm X [] l_:=λ_ _ _ _ H Q I h=>Calls.spliced_nil ⟨[],H,I,.nil,h⟩
def fB(aA:b3 X e te)(ax:gm X ar t)(aB:bL (e::ar) X.env=(false,eval e X.env)::bL ar X.env:=by rfl):gm X (e::ar) (hG te t):=by
 intro pos ai s σ H Q I h;rw[aB];show bE _ _ (spliced ((false,eval e X.env)::fl pos (bL ar X.env))) _ _ s;refine Calls.spliced_cons (cA (aA ai s σ H _ I h) λu s1 ⟨x,H1,a9,bj,a4⟩=>?_);exact cA (ax pos ai s1 σ H1 _ a9 a4) λus s2 ⟨xs,bo,cg,cF,bO⟩=>⟨x::xs,bo,cg,.cons bj cF,bO⟩
def uV(t:fT):TE:=λσ H Q=>t σ H λxs H1=>xs.length<=b'/\∀p,H1 p=none->Q (.ref p) (upd H1 p (.tup xs))
def N9(t:fT):TE:=λσ H Q=>t σ H λxs H1=>xs.length<=b'/\∀p,H1 p=none->Q (.ref p) (upd H1 p (.lst xs))
def yH{aW}(h:gm X ar t):b3 X (.Tuple ar aW pos) (uV t):=by
 intro ai s σ H Q I aD;refine wpAny_Tuple_spliced (cA (h pos ai s σ H _ I aD) λus s1 ⟨xs,H1,a9,r,z,q⟩=>⟨by rw[<- r.length];exact z,?_⟩);have hf:H1 s1.heap.objs.size=none:=a9.bW.fresh (eo _);refine⟨.ref s1.heap.objs.size,upd H1 s1.heap.objs.size (.tup xs),a9.laid (t':=s1.toks) (λb u e=>dI _ e) (eo _) ?_,rfl,q _ hf⟩;exact⟨z,us,r,⟨_,hJ _ rfl,rfl,_,rfl⟩⟩
def QW(h:gm X ar t):b3 X (.List ar pos) (N9 t):=by
 intro ai s σ H Q I aD;refine wpAny_List_spliced (cA (h pos ai s σ H _ I aD) λus s1 ⟨xs,H1,a9,r,z,q⟩=>⟨by rw[<- r.length];exact z,?_⟩);have hf:H1 s1.heap.objs.size=none:=a9.bW.fresh (eo _);refine⟨.ref s1.heap.objs.size,upd H1 s1.heap.objs.size (.lst xs),a9.laid (t':=s1.toks) (λb u e=>dI _ e) (eo _) ?_,rfl,q _ hf⟩;exact⟨z,us,0,r,hJ _ rfl⟩
end
abbrev mC:=List V->aF->di->gE->Prop
abbrev kT:=List Env->aF->aP->gE->av->aP->Prop
structure qp(P:c3)(w:cf)(K:a')(mg:Str->Option av)(base:bP)(A:dk)(outer:List Env)(s:aP)(H:aF):Prop where
 frames:A.frames=some outer
 mod:Mod K mg base
 bs:∀b o,base.get? b=some o->s.heap.get? b=some o/\H b=none
 nS:base.objs.size<=s.heap.objs.size
 ku:s.heap.FunFrames base outer
 pg:∀b∈eG outer,H b=none
 bW:eZ P w H s.heap
 bare:AllBare s.gens
noncomputable def y4(outer:List Env)(P:c3)(w:cf)(H:aF)(s:aP)(Q:di)(u:av)(s':aP):Prop:=
 ∃v ak,s'.os=s.os/\AllBare s'.gens/\fF (eG outer) [] H ak s.heap s'.heap/\eZ P w ak s'.heap/\RelV v u/\Q v ak
noncomputable def oR(eL:kT)(outer:List Env)(P:c3)(w:cf)(H:aF)(s:aP)(Q:di)(E:gE)(r:Result)(s':aP):Prop:=
 match r with
|.ok (.ret u)=>y4 outer P w H s Q u s'
|.ok _=>False
|.error e=>eL outer H s E e s'
structure gD(P:c3)(w:cf)(K:a')(mg:Str->Option av)(base:bP)(eL:kT)(k:Nat)(f:aq)(fd:fa)(ps:List Str)(sp:mC):Prop where
 len:∀vs H Q E,sp vs H Q E->vs.length=ps.length
 run:∀(A:dk) (outer:List Env) (s:aP) (H:aF) (args:Args) (us:List av) (vs:List V) (Q:di) (E:gE),eN k A->qp P w K mg base A outer s H->BindsTo s fd args (ps.zip us)->Vals vs us->sp vs H Q E ->
  jb (bN P w) A (.call (.ref f) args) (oR eL outer P w H s Q E) s
theorem gD.mono{P:c3}{w:cf}{K:a'}{mg:Str->Option av}{base:bP}{eL:kT}{j k:Nat}{f:aq}{fd:fa}{ps:List Str}{sp:mC}(F:gD P w K mg base eL j f fd ps sp)(h:j<=k):
  gD P w K mg base eL k f fd ps sp:=⟨F.len,λA outer s H args us vs Q E ax=>F.run A outer s H args us vs Q E (ax.mono h)⟩
def gD.imp{P:c3}{w:cf}{K:a'}{mg:Str->Option av}{base:bP}{eL:kT}{k:Nat}{f:aq}{fd:fa}{ps:List Str}{sp NW:mC}(F:gD P w K mg base eL k f fd ps sp)
  (h:∀vs H Q E,NW vs H Q E->sp vs H Q E):gD P w K mg base eL k f fd ps NW:=
 ⟨λvs H Q E q=>F.len vs H Q E (h _ _ _ _ q),λA outer s H args us vs Q E ax he ag ba aB=>F.run A outer s H args us vs Q E ax he ag ba (h _ _ _ _ aB)⟩
section
variable {X:aV}{ai:List (aq×Obj)}{σ:St}{H:aF}{s s':aP}
def Inv.wK(I:Inv X ai σ H s):qp X.prog X.w X.K X.mg X.base X.A X.stack s H:=
 ⟨I.ok.frames,I.ok.mod,I.bs,nd I.ok.nS I.l7,I.stack,I.IB,I.bW,I.bare⟩
def Inv.after{Q:di}{u:av}(I:Inv X ai σ H s)(h:y4 X.stack X.prog X.w H s Q u s'):hp X ai σ Q u s':=by
 obtain⟨v,ak,os,bare,un,bW,r,q⟩:=h;obtain⟨c4,g,d,t,lj⟩:=s';obtain rfl:lj=s.os:=os;exact⟨v,ak,I.call (h':=c4) (g':=g) (d':=d) (t':=t) (ch:=[]) un bW bare (λb z=>absurd z (by simp)),r,q⟩
end
def akw(sp:mC)(qC:List V)(E:gE)(t:fT):TE:=λσ H Q=>t σ H λvs H1=>sp (vs++qC) H1 Q E
def Binds(K:a')(fd:fa)(ps:List Str)(ds:List av):Prop:=
 ∀(s:aP) (us:List av),K.In s.heap->(us++ds).length=ps.length->BindsTo s fd ⟨us,[]⟩ (ps.zip (us++ds))
def Binds.all{K:a'}{fd:fa}{ps:List Str}(h:∀us:List av,us.length=ps.length->bindArgs fd ⟨us,[]⟩=pure (ps.zip us)):Binds K fd ps []:=λs us _ aH=>by
 rw[ov] at aH ⊢;exact .of_eq (h us aH)
def Passes(eL:kT)(X:aV)(E:gE):Prop:=∀(ai:List (aq×Obj)) (σ:St) (H:aF) (s:aP) (e:av) (s':aP),Inv X ai σ H s->eL X.stack H s E e s'->X.dg e s'
section
variable {X:aV}{eL:kT}{k:Nat}{f C:aq}{fd:fa}{ps:List Str}{sp:mC}{qC:List V}{ds:List av}{E:gE}{x m:Str}{p pos apos:Pos}{e o:bk}{ar:List bk}{cD:TE}{t:fT}
def ajx{ai:List (aq×Obj)}{σ:St}{H:aF}{s:aP}{Q:di}{us:List av}{vs:List V}(F:gD X.prog X.w X.K X.mg X.base eL k f fd ps sp)(ax:eN k X.A)(ag:Binds X.K fd ps ds)(hd:Vals qC ds)(hx:Passes eL X E)
  (I:Inv X ai σ H s) (r:Vals vs us) (h:sp (vs++qC) H Q E):bE (bN X.prog X.w) X.A (call (.ref f) us) (hp X ai σ Q) X.dg s:=by
 have cF:Vals (vs++qC) (us++ds):=r.append hd;have aH:(us++ds).length=ps.length:=by rw[<- cF.length];exact F.len _ _ _ _ h
 refine wpAny_call (s9 (F.run X.A X.stack s H ⟨us,[]⟩ (us++ds) (vs++qC) Q E ax I.wK (ag s us I.jY aH) cF h) λr s' aD=>?_)
 cases r with
|error e=>exact hx ai σ H s e s' I aD
|ok dF=>
  cases dF with
  |ret u=>exact I.after aD
  |next=>exact eX aD
  |brk=>exact eX aD
  |cont=>exact eX aD
def Qx(F:gD X.prog X.w X.K X.mg X.base eL k f fd ps sp)(ax:eN k X.A)(a7:et X x)(hm:X.mg x=some (.ref f))(a0:al6 X.K (.ref f)=true)(ag:Binds X.K fd ps ds)(hd:Vals qC ds)(hx:Passes eL X E)
  (aA:gm X (e::ar) t) (ib:(x==("__debug__":Str))=false:=by decide) (he:bL (e::ar) X.env=(false,eval e X.env)::bL ar X.env:=by rfl) (hpl:(fl pos (bL ar X.env)).any (·.1)=false:=by rfl):
  b3 X (.Call (.Name x p) (e::ar) [] pos) (akw sp qC E t):=by
 intro ai s σ H Q I h;refine s8 (yy I a7 hm ?_ ib);refine PySem.W.callWith_K (h₀:=X.base) I.ok.mod.sl a0 (cA (aA pos ai s σ H _ I h) λus s1 ⟨vs,H1,a9,r,q⟩=>⟨a9.jY,?_⟩) he hpl;exact ajx F ax ag hd hx a9 r q
end
structure cY(N P:List Str)(sc:Scope):Prop where
 kind:sc.kind=.function
 co:sc.isCoroutine=false
 gen:sc.isGenerator=false
 bb:N.Nodup
 pre:N.take P.length=P
 par:∀x∈P,sc.names.lookup x=some .local\/sc.names.lookup x=some .cell
 ZR:∀y∈sc.names,y.2≠.free
theorem PS{kindOf:Str->Option lB}{x:Str}:∀{binds:List (Str×av)} {m:Str->Option av},(∀v,(x,v)∉binds)->bindL kindOf binds m x=m x
  | [],_,_=>rfl
  | (n,v)::r,m,h=>by
    unfold bindL;rw[PS λw hw=>h w (ew _ hw)];split
    · have:x≠n:=by rintro rfl;exact h v m_
      simp[this]
    · rfl
theorem PU{kindOf:Str->Option lB}{x:Str}:∀{binds:List (Str×av)} {m:Str->Option av},(∀v,(x,v)∉binds)->bindC kindOf binds m x=m x
  | [],_,_=>rfl
  | (n,v)::r,m,h=>by
    unfold bindC;rw[PU λw hw=>h w (ew _ hw)];split
    · rfl
    · have:x≠n:=by rintro rfl;exact h v m_
      simp[this]
theorem PT{kindOf:Str->Option lB}{x:Str}{v:av}:∀{P:List Str} {vs:List av} {i:Nat} {m:Str->Option av},P.Nodup->P[i]?=some x->vs[i]?=some v->kindOf x=some .local ->
  bindL kindOf (P.zip vs) m x=some v
| [],_,_,_,_,h,_,_=>by simp at h
|_::_,[],_,_,_,_,h,_=>by simp at h
|p::P,w::vs,0,m,bb,ah,ao,a0=>by
  simp at ah ao;subst ah;subst ao;show bindL kindOf ((p,w)::P.zip vs) m p=_;unfold bindL;rw[PS λv ba=>(List.nodup_cons.mp bb).1 (List.of_mem_zip ba).1,if_pos a0];simp
|p::P,w::vs,i+1,m,bb,ah,ao,a0=>by
  show bindL kindOf ((p,w)::P.zip vs) m x=_
  unfold bindL;exact PT (i:=i) (List.nodup_cons.mp bb).2 (by simpa using ah) (by simpa using ao) a0
theorem PV{kindOf:Str->Option lB}{x:Str}{v:av}:∀{P:List Str} {vs:List av} {i:Nat} {m:Str->Option av},P.Nodup->P[i]?=some x->vs[i]?=some v->kindOf x≠some .local ->
  bindC kindOf (P.zip vs) m x=some v
| [],_,_,_,_,h,_,_=>by simp at h
|_::_,[],_,_,_,_,h,_=>by simp at h
|p::P,w::vs,0,m,bb,ah,ao,a0=>by
  simp at ah ao;subst ah;subst ao;show bindC kindOf ((p,w)::P.zip vs) m p=_;unfold bindC;rw[PU λv ba=>(List.nodup_cons.mp bb).1 (List.of_mem_zip ba).1,if_neg a0];simp
|p::P,w::vs,i+1,m,bb,ah,ao,a0=>by
  show bindC kindOf ((p,w)::P.zip vs) m x=_
  unfold bindC;exact PV (i:=i) (List.nodup_cons.mp bb).2 (by simpa using ah) (by simpa using ao) a0
def start(N:List Str)(vs:List V):St:=vs.map some++dT (N.length - vs.length) none
noncomputable def gQ(eL:kT)(P:c3)(w:cf)(K:a')(mg:Str->Option av)(base:bP)(N:List Str)(qual:Str)(scope:Scope)(f:aq)(cd:av)(A:dk)(outer:List Env)(s:aP)(H:aF)(E:gE):aV where
 prog:=P
 w:=w
 K:=K
 mg:=mg
 base:=base
 A:=A.deeper (envOfC qual scope s.heap.objs.size f cd)
 N:=N
 c':=s
 aO:=H
 env:=envOfC qual scope s.heap.objs.size f cd
 outer:=outer
 stack:=envOfC qual scope s.heap.objs.size f cd::outer
 ex:=[]
 calm:=true
 fn:=λ_=>true
 dn:=[]
 dg:=λe s'=>bE (bN P w) (A.deeper (envOfC qual scope s.heap.objs.size f cd)) (leaving (envOfC qual scope s.heap.objs.size f cd) e) (λ_ pM=>eL outer H s E e pM) (λbu pM=>eL outer H s E bu pM) s'
def Qo{sc:Scope}{n:Nat}{x:Str}(h:sc.names.lookup x=some .cell):∃c,(cellsFrom n sc.names []).lookup x=some c:=by
 have q:=PySem.W.cellsFrom_some sc.names n [] (.inl h);exact Option.isSome_iff_exists.mp q
def PF{eL:kT}{P:c3}{w:cf}{K:a'}{mg:Str->Option av}{base:bP}{N ps:List Str}{qual:Str}{scope:Scope}{f:aq}{cd:av}{A:dk}{outer:List Env}{s s1:aP}{H:aF}{E:gE}{us:List av}{vs:List V}
  (S:cY N ps scope) (hd:A.handled=none) (bp:qp P w K mg base A outer s H) (aH:vs.length=ps.length) (r:Vals vs us)
  (x:InCallC s s.heap.objs.size (bindL (envOfC qual scope s.heap.objs.size f cd).kindOf (ps.zip us) λ_=>none) (cellsFrom (s.heap.objs.size+1) scope.names []) (bindC (envOfC qual scope s.heap.objs.size f cd).kindOf (ps.zip us) λ_=>none) s1):
  Inv (gQ eL P w K mg base N qual scope f cd A outer s H E) [] (start N vs) H s1:=by
 have hpl:ps.length<=N.length:=by have:=congrArg List.length S.pre;rw[List.length_take] at this;omega
 obtain⟨ah,tk,rfl,a0⟩:=x.done;have pI:∀b:aq,b∉(gQ eL P w K mg base N qual scope f cd A outer s H E).ex:=λb z=>absurd (show b∈([]:List aq) from z) (by simp);refine⟨⟨bp.mod,S.kind,rfl,rfl,eo _,λy z c ah ao=>?_,λy b1=>?_,λy c _ h=>?_,λ_=>hd,Around.frames_deeper bp.frames,.inr ⟨rfl,rfl⟩,λb z=>absurd z (pI b),bp.bs,bp.nS,λb _ _=>pI b,λb z=>absurd z (pI b),bp.ku,bp.pg⟩,
  rfl,bp.bare,fF.kept a0,⟨_,x.toInCall.ns,λi y v ah ao aY=>?_⟩,λy c h=>⟨_,x.cell y c h⟩,bp.bW.fresh (eo _),λy c h=>?_,λp aC=>absurd (show p∈([]:List (aq×Obj)) from aC) (by simp),bp.bW.kept a0,?_⟩
 ·exact name_of_addr x.apart (xM ah) (xM ao)
 ·have b1:scope.names.lookup y=some .cell\/scope.names.lookup y=some .free:=b1;rcases b1 with b1|b1
  ·exact Qo b1
  ·exact absurd rfl (S.ZR _ (xM b1))
 ·exact Nat.le_of_lt (x.above y c (xM h))
 ·have hi:i<vs.length:=by
   unfold start at ao;by_cases hi:i<vs.length
   ·exact hi
   ·rw[u3 (by simpa using hi)] at ao;rw[List.getElem?_replicate] at ao;split at ao <;> cases ao
  have aA:vs[i]?=some v:=by
   unfold start at ao;rw[u4 (by simpa using hi),alZ] at ao;cases e:vs[i]? with
   |none=>rw[e] at ao;cases ao
   |some a=>rw[e] at ao;cases ao;rfl
  obtain⟨u,cM,cn⟩:=r.get aA;have aC:ps[i]?=some y:=by
   rw[<- S.pre,List.getElem?_take_of_lt (by omega)];exact ah
  have Nv:ps.Nodup:=by rw[<- S.pre];exact S.bb.sublist (List.take_sublist _ _)
  refine⟨u,cn,?_⟩
  rcases S.par y (List.mem_of_getElem? aC) with k|k
  ·exact .inl ⟨k,PT Nv aC cM k⟩
  ·obtain⟨c,e⟩:=Qo (n:=s.heap.objs.size+1) k;refine .inr ⟨.inl k,c,e,?_⟩;have q:=x.cell y c e;rw[PV Nv aC cM (by show scope.names.lookup y≠_;rw[k];decide)] at q;exact q
 ·exact bp.bW.fresh (Nat.le_of_lt (x.above y c (xM h)))
 ·unfold start;show _=N.length;rw[iq,dy,List.length_replicate];omega
def KV{eL:kT}{P:c3}{w:cf}{K:a'}{mg:Str->Option av}{base:bP}{k:Nat}{f:aq}{name qual:Str}{params:Arguments}{body:List Stmt}{scope:Scope}{zz gv doc pm bY bJ gY:av}{an hb:Option aq}
  {kH:Array (Option av)} {N ps:List Str} {sp:mC} (lk:K.lookup f=some ⟨gY,hb,.func (lx name qual params body scope zz gv doc pm an bY bJ),kH⟩) (eT:sX K bY qual=true) (S:cY N ps scope)
  (len:∀vs H Q E,sp vs H Q E->vs.length=ps.length)
  (al2:∀(A:dk) (outer:List Env) (s:aP) (H:aF) (vs:List V) (Q:di) (E:gE),eN k (A.deeper (envOfC qual scope s.heap.objs.size f bY))->sp vs H Q E ->
   ∃t,fh (gQ eL P w K mg base N qual scope f bY A outer s H E) body t/\t {bg:=λ_ ak=>Q .eA ak,ee:=Q} (start N vs) H):
  gD P w K mg base eL (k+1) f (lx name qual params body scope zz gv doc pm an bY bJ) ps sp:=by
 refine⟨len,λA outer s H args us vs Q E ax bp ag r qN=>?_⟩
 have aH:=len _ _ _ _ qN;have jJ:K.In s.heap:=bp.mod.sl.keeps λb o e=>(bp.bs b o e).1;have lim:s.heap.NoLimit:=bp.mod.nolimit.keeps λb o e=>(bp.bs b o e).1;have F3:∀y∈ps.zip us,scope.names.lookup y.1=some .local\/(scope.names.lookup y.1=some .cell/\((cellsFrom (s.heap.objs.size+1) scope.names []).lookup y.1).isSome=true):=λ⟨n,v⟩ b1=>by
  rcases S.par n (List.of_mem_zip b1).1 with q|q
  ·exact .inl q
  ·exact .inr ⟨q,PySem.W.cellsFrom_some _ _ _ (.inl q)⟩
 refine codeAny_call_function ax.depth (jJ _ _ lk) rfl S.co S.gen rfl (PySem.W.codeRec_of jJ eT) (ag _ _ _ _ ?_)
 refine wpAny_newFunctionEnv_cells S.kind F3 λenv he s1 x=>?_
 subst he;refine⟨lim.keeps x.toInCall.keep,codeAny_func ?_⟩;obtain⟨t,aN,aD⟩:=al2 A outer s H vs Q E (ax.deeper _) qN;have I:Inv (gQ eL P w K mg base N qual scope f bY A outer s H E) [] (start N vs) H s1:=PF S ax.hd bp aH r x;refine fA (aN [] s1 (start N vs) H _ I aD) (λdF s' aB=>?_) λe s' aB=>aB;have fin:∀{bR:St} {ak:aF} {v:V} {u:av},Inv (gQ eL P w K mg base N qual scope f bY A outer s H E) [] bR ak s'->RelV v u->Q v ak->y4 outer P w H s Q u s':=
  λ{bR ak v u} J cn q=>⟨v,ak,J.os,J.bare,J.base,J.bW,cn,q⟩
 cases dF with
|ret u=>
  obtain⟨v,bR,ak,J,cn,q⟩:=aB;exact fin J cn q
|next=>
  obtain⟨bR,ak,J,q⟩:=aB;exact fin (v:=V.eA) (u:=Value.none) J rfl q
|brk=>
  obtain⟨_,_,_,q⟩:=aB;exact eX q
|cont=>
  obtain⟨_,_,_,q⟩:=aB;exact eX q
end bB
namespace bB
open PySem PySem.Spec PyProof.Rows
section
variable {X:aV}{x:Str}{p pos:Pos}{e:bk}{ar:List bk}{t:fT}{id T:String}{r:List V->aF->di->Prop}
def AG(r:List V->aF->di->Prop)(t:fT):TE:=λσ H Q=>t σ H λvs H1=>r vs H1 Q
def vo(au:km X (.builtin id) r)(a7:et X x)(hm:X.mg x=none)(ba:bootBuiltins x=some (.builtin id))(aA:gm X (e::ar) t)(bf:x≠"__name__":=by decide)(ib:(x==("__debug__":Str))=false:=by decide)
  (he:bL (e::ar) X.env=(false,eval e X.env)::bL ar X.env:=by rfl) (hpl:(fl pos (bL ar X.env)).any (·.1)=false:=by rfl):b3 X (.Call (.Name x p) (e::ar) [] pos) (AG r t):=by
 intro ai s σ H Q I h;refine s8 (qj I a7 hm ba ?_ bf ib);exact PyProof.Rows.callWith_builtin1 (cA (aA pos ai s σ H _ I h) λus s1 ⟨vs,H1,a9,bj,a4⟩=>au ai s1 σ H1 vs us Q a9 bj a4) he hpl
def PA(au:km X (.type T) r)(a7:et X x)(hm:X.mg x=none)(ba:bootBuiltins x=some (.type T))(aA:gm X (e::ar) t)(bf:x≠"__name__":=by decide)(ib:(x==("__debug__":Str))=false:=by decide)
  (he:bL (e::ar) X.env=(false,eval e X.env)::bL ar X.env:=by rfl) (hpl:(fl pos (bL ar X.env)).any (·.1)=false:=by rfl):b3 X (.Call (.Name x p) (e::ar) [] pos) (AG r t):=by
 intro ai s σ H Q I h;refine s8 (qj I a7 hm ba ?_ bf ib);exact xK (cA (aA pos ai s σ H _ I h) λus s1 ⟨vs,H1,a9,bj,a4⟩=>au ai s1 σ H1 vs us Q a9 bj a4) he hpl
end
end bB
namespace eM
open PySem PyProof.Rows
section
variable {prog:c3}{w:cf}{A:dk}{E:av->aP->Prop}{s:aP}
def UM{t b:aq}{vs ws:List av}{Q:av->aP->Prop}(aN:IsTup s.heap t vs.toArray)(ag:IsTup s.heap b ws.toArray)(ba:vs≠[])
  (ah:ws=[]->Q (.ref t) s) (ao:ws≠[]->Q (.ref s.heap.objs.size) {s with heap:=s.heap.push {cls:=.type "tuple",data:=.seq (vs++ws).toArray} })
  (kD:vs.length+ws.length<=b'):bE (bN prog w) A (kc .Add (.ref t) (.ref b)) Q E s:=by
 obtain⟨⟨cls,dd,data,b_⟩,aT,au,n,hd⟩:=id aN;obtain⟨⟨EB,lU,data2,hg⟩,sb,mQ,fK,hd2⟩:=id ag;simp only at au hd mQ hd2;subst au hd mQ hd2;have e:vs.toArray++ws.toArray=(vs++ws).toArray:=by simp
 by_cases hw:ws=[]
 ·exact concat_meets ⟨_,aT,rfl⟩ ⟨_,sb,rfl⟩ noFill_tuple_add seq_tuple_add PySem.F.slot_tuple_add PySem.F.entry_tuple_add (PySem.F.args_tuple_add_2 _ _)
   (tuple_addW1 t b vs.toArray ws.toArray n fK dd lU b_ hg (by simpa using ba) (by simp[hw])) ⟨aT,sb,ah hw⟩
 ·refine concat_meets ⟨_,aT,rfl⟩ ⟨_,sb,rfl⟩ noFill_tuple_add seq_tuple_add PySem.F.slot_tuple_add PySem.F.entry_tuple_add (PySem.F.args_tuple_add_2 _ _)
   (tuple_addW2 t b vs.toArray ws.toArray n fK dd lU b_ hg (by simpa using ba) (by simpa using hw) (by rw[eE,eE];exact kD)) ⟨aT,sb,?_⟩
  rw[e];exact ao hw
def bI(n d:Nat):Option Int->Nat
|none=>d
|some v=>if v<0 then (v+(n:Int)).toNat else min v.toNat n
def yE(n d:Nat)(hd:d<=n)(o:Option Int):bI n d o<=n:=by
 cases o with
|none=>exact hd
|some v=>
  show (if v<0 then (v+(n:Int)).toNat else min v.toNat n)<=n
  by_cases ba:v<0
  ·rw[if_pos ba];omega
  ·rw[if_neg ba];exact Nat.min_le_right _ _
def QF(v:Int)(n d:Nat):(if v<0 then max (v+(n:Int)) 0 else min v (n:Int))=((bI n d (some v):Nat):Int):=by
 show (if v<0 then max (v+(n:Int)) 0 else min v (n:Int))=(((if v<0 then (v+(n:Int)).toNat else min v.toNat n):Nat):Int)
 by_cases ba:v<0
 ·simp only[if_pos ba];omega
 ·simp only[if_neg ba];omega
def af8(lo hi:Option Int)(n:Nat):Builtin.Slice.sliceAdjust lo hi 1 (n:Int)=(((bI n 0 lo:Nat):Int),((bI n n hi:Nat):Int)):=by
 have ah:¬((1:Int)<0):=by omega
 unfold Builtin.Slice.sliceAdjust;simp only[ah,if_false];refine Prod.ext ?_ ?_
 ·cases lo with
  |none=>rfl
  |some v=>exact QF v n 0
 ·cases hi with
  |none=>rfl
  |some v=>exact QF v n n
def afH(i j:Nat):sZ (i:Int) (j:Int) 1=j - i:=by
 unfold sZ;have ah:(1:Int) > 0:=by omega
 simp only[ah,if_true,Int.ediv_one];split <;> omega
def O8{v:av}{o:Option Int}{Q:Option Int->aP->Prop}(p:IsPart v o)(h:Q o s):bE (bN prog w) A (Builtin.Slice.slicePartIndex v) Q E s:=by
 cases p with
|none=>exact slicePart_none h
|int i t=>exact slicePart_int h
def NV{b_:aq}{gL e_:av}{lo hi:Option Int}{n:Nat}{Q:Int×Int×Nat->aP->Prop}(aB:s.heap.IsSliceOf b_ gL e_ .none)(c1:IsPart gL lo)(pu:IsPart e_ hi)
  (h:Q (((bI n 0 lo:Nat):Int),1,bI n n hi - bI n 0 lo) s):bE (bN prog w) A (Builtin.Slice.sliceApplied (.ref b_) (pure (n:Int))) Q E s:=by
 obtain⟨os,kC,uA,pl⟩:=id aB;unfold Builtin.Slice.sliceApplied Builtin.Slice.sliceFields;refine aZ (aZ (h1 kC pl (x:=gL) rfl (aZ (h1 kC pl (x:=e_) rfl (aZ (h1 kC pl (x:=.none) rfl (cc ?_)))))));refine aZ (slicePart_none ?_);show bE _ _ (if ((1:Int)==0)=true then _ else _) _ _ s;rw[if_neg (by decide)];refine aZ (O8 c1 (aZ (O8 pu (aZ (cc ?_)))));show bE _ _ (match Builtin.Slice.sliceAdjust lo hi 1 (n:Int) with|(lo,hi)=>pure (lo,(1:Int),sZ lo hi 1)) _ _ s;rw[af8 lo hi n];show bE _ _ (pure (((bI n 0 lo:Nat):Int),(1:Int),sZ ((bI n 0 lo:Nat):Int) ((bI n n hi:Nat):Int) 1)) _ _ s;rw[afH];exact cc h
def ahj(xs:Array av)(i k:Nat):((List.range k).filterMap λ(m:Nat)=>xs[((i:Int)+(m:Int)*1).toNat]?).toArray=((xs.toList.drop i).take k).toArray:=by
 have e:(λ(m:Nat)=>xs[((i:Int)+(m:Int)*1).toNat]?)=λm=>xs[i+m]?:=by
  funext m;have:((i:Int)+(m:Int)*1).toNat=i+m:=by omega
  rw[this]
 rw[e];have:=pick_run xs i k;rw[List.filterMap_map] at this;have aK:((λx=>xs[x]?) ∘ λx=>i+x)=λm=>xs[i+m]?:=rfl;rw[aK] at this;rw[this]
def WO{t b_:aq}{items:Array av}{gL e_:av}{lo hi:Option Int}{Q:av->aP->Prop}(aN:IsTup s.heap t items)(aB:s.heap.IsSliceOf b_ gL e_ .none)(c1:IsPart gL lo)(pu:IsPart e_ hi)
  (hw:¬(bI items.size 0 lo=0/\bI items.size items.size hi=items.size))
  (h:Q (.ref s.heap.objs.size) {s with heap:=s.heap.push {cls:=.type "tuple",data:=.seq ((items.toList.drop (bI items.size 0 lo)).take (bI items.size items.size hi - bI items.size 0 lo)).toArray} })
  (kD:items.size<=b'):bE (bN prog w) A (getItem (.ref t) (.ref b_)) Q E s:=by
 have pz:sizeOk (.seq ((items.toList.drop (bI items.size 0 lo)).take (bI items.size items.size hi - bI items.size 0 lo)).toArray):=by
  show ((items.toList.drop (bI items.size 0 lo)).take (bI items.size items.size hi - bI items.size 0 lo)).toArray.size<=b'
  rw[eE,List.length_take,List.length_drop,q9];omega
 have cS:bI items.size items.size hi<=items.size:=yE _ _ (eo _) hi;obtain⟨os,kC,uA,pl⟩:=id aB;have w0:s.TypeIs (.ref b_) "slice":=⟨os,kC,uA⟩;unfold getItem
 try with_reducible refine u6 ?_
 first|refine aZ (cc ?_)|skip
 refine aZ (wpAny_sequenceKey aN.typeIs (by decide) ?_)
 refine aZ (pU (name:=Str.ofString "__getitem__") aN.typeIs u2
  (pV u2 aN.typeIs entry_tuple_getitem ?_ (args_tuple_getitem _ _)))
 show bE _ _ (Builtin.Tuple.tupleItemsOf (.ref t) >>= _) _ _ s
 refine aZ (tupleItemsOf_ aN ?_)
 refine aZ (wpAny_typeOf w0 ?_)
 rw[if_pos (by decide)];refine aZ (NV aB c1 pu ?_);have XI:¬((((bI items.size 0 lo:Nat):Int)==0 && (1:Int)==1 && (bI items.size items.size hi - bI items.size 0 lo)==items.size)=true):=by
  intro q;rw[cX,cX] at q;have a4:((bI items.size 0 lo:Nat):Int)=0:=eq_of_beq q.1.1;have bO:bI items.size items.size hi - bI items.size 0 lo=items.size:=eq_of_beq q.2;exact hw ⟨by omega,by omega⟩
 show bE _ _ (if (((bI items.size 0 lo:Nat):Int)==0 && (1:Int)==1 && (bI items.size items.size hi - bI items.size 0 lo)==items.size)=true then _ else _) _ _ s
 rw[if_neg XI,ahj]
 first
  |exact aZ (m:=pS _) (nf (cc ⟨_,rfl,cc h⟩) pz)
  |exact aZ (m:=pS _) (nf (aZ (cc (cc ⟨_,rfl,cc h⟩))) pz)
  |exact aZ (aZ (m:=pS _) (nf (cc (cc ⟨_,rfl,cc h⟩)) pz))
  |exact aZ (aZ (m:=pS _) (nf (cc ⟨_,rfl,cc h⟩) pz))
end
end eM
namespace bB
open PySem PySem.Spec PyProof.Rows
abbrev dm:=St->aF->(Option Int->aF->Prop)->Prop
noncomputable def lP(X:aV)(e:Option bk)(t:dm):Prop:=
 ∀(ai:List (aq×Obj)) (s:aP) (σ:St) (H:aF) (Q:Option Int->aF->Prop),Inv X ai σ H s->t σ H Q ->
  bE (bN X.prog X.w) X.A (evalPart e X.env) (λu s'=>∃o ak,Inv X ai σ ak s'/\IsPart u o/\Q o ak) X.dg s
def aia:dm:=λ_ H Q=>Q none H
def akt(t:TE):dm:=λσ H Q=>t σ H λx H1=>∃i,x=.int i/\Q (some i) H1
section
variable {X:aV}{e:bk}{te:TE}{lo hi:Option bk}{m9 AK:dm}{pos dJ:Pos}
def ain:lP X none aia:=by
 intro ai s σ H Q I h;rw[evalPart_none];exact cc ⟨none,H,I,.none,h⟩
def aim(h:b3 X e te):lP X (some e) (akt te):=by
 intro ai s σ H Q I hw;rw[evalPart_some];refine cA (h ai s σ H _ I hw) λu s1 ⟨x,H1,a9,bj,a4⟩=>?_;obtain⟨i,rfl,q⟩:=a4;obtain⟨t,rfl⟩:=bj;exact⟨some i,H1,a9,.int i t,q⟩
noncomputable def o4(X:aV)(r:V->Option Int->Option Int->aF->di->Prop):Prop:=
 ∀(ai:List (aq×Obj)) (s:aP) (σ:St) (H:aF) (x:V) (v gL e_:av) (lo hi:Option Int) (b_:aq) (Q:di),Inv X ai σ H s->RelV x v->s.heap.IsSliceOf b_ gL e_ .none->IsPart gL lo->IsPart e_ hi->r x lo hi H Q ->
  ∃T id,typeLookup (.type T) "__getitem__"=pure (some (.builtin id))/\s.TypeIs v T/\bE (bN X.prog X.w) X.A (getItem v (.ref b_)) (hp X ai σ Q) X.dg s
def o4.or{r cx:V->Option Int->Option Int->aF->di->Prop}(h:o4 X r)(h':o4 X cx):o4 X (λx lo hi H Q=>r x lo hi H Q\/cx x lo hi H Q):=by
 intro ai s σ H x v gL e_ lo hi b_ Q I aS aB c1 pu q;rcases q with q|q
 ·exact h ai s σ H x v gL e_ lo hi b_ Q I aS aB c1 pu q
 ·exact h' ai s σ H x v gL e_ lo hi b_ Q I aS aB c1 pu q
def adh(r:V->Option Int->Option Int->aF->di->Prop)(te:TE)(m9 AK:dm):TE:=λσ H Q=>te σ H λx H1=>m9 σ H1 λl bo=>AK σ bo λu dO=>r x l u dO Q
def Qc{r:V->Option Int->Option Int->aF->di->Prop}(ax:o4 X r)(he:b3 X e te)(aH:lP X lo m9)(cM:lP X hi AK):b3 X (.Subscript e (.Slice lo hi none dJ) pos) (adh r te m9 AK):=by
 intro ai s σ H Q I h;refine Subscript_ (cA (he ai s σ H _ I h) λv s1 ⟨x,H1,a9,bj,a4⟩=>?_);refine wpAny_Slice (cA (aH ai s1 σ H1 _ a9 a4) λgL s2 ⟨l,bo,cg,c1,bO⟩=>cA (cM ai s2 σ bo _ cg bO) λe_ s3 ⟨u,dO,es,pu,dR⟩=>?_);rw[evalPart_none];refine cc ?_;have h5:Inv X ai σ dO {s3 with heap:=s3.heap.push {cls:=.type "slice",data:=.fields #[gL,e_,.none]} }:=es.kept (t':=s3.toks) λb dH q=>dI _ q;obtain⟨T,id,gs,aN,a7⟩:=ax ai {s3 with heap:=s3.heap.push {cls:=.type "slice",data:=.fields #[gL,e_,.none]} } σ dO x v gL e_ l u s3.heap.objs.size Q h5 bj (Heap.IsSliceOf.new ..) c1 pu dR;show bE (bN X.prog X.w) X.A (subscriptTail e (.Slice lo hi none dJ) v (.ref s3.heap.objs.size)) (hp X ai σ Q) X.dg {s3 with heap:=s3.heap.push {cls:=.type "slice",data:=.fields #[gL,e_,.none]} };exact tail_any (ops:=[.ref s3.heap.objs.size,v]) aN gs a7 (by with_unfolding_all rfl)
def ks(xs:List V)(lo hi:Option Int):List V:=(xs.drop (eM.bI xs.length 0 lo)).take (eM.bI xs.length xs.length hi - eM.bI xs.length 0 lo)
def O0(xs:List V)(lo hi:Option Int):(ks xs lo hi).length<=xs.length:=by
 unfold ks;rw[List.length_take,List.length_drop];omega
noncomputable def abS(K:a'):V->Option Int->Option Int->aF->di->Prop:=λx lo hi H Q=>∃a xs,x=.ref a/\c8 K H a xs /\
 ¬(eM.bI xs.length 0 lo=0/\eM.bI xs.length xs.length hi=xs.length)/\∀p,H p=none->Q (.ref p) (upd H p (.tup (ks xs lo hi)))
def QP:o4 X (abS X.K):=by
 intro ai s σ H x v gL e_ lo hi b_ Q I aS aB c1 pu h;obtain⟨a,xs,rfl,hx,hw,q⟩:=h;cases aS;obtain⟨its,r,aN,aI⟩:=I.tuple hx;have hlen:its.toArray.size=xs.length:=by rw[eE];exact r.length.symm
 refine⟨"tuple",_,PyProof.Rows.slot_tuple_getitem.lookup,aN.typeIs,?_⟩
 refine eM.WO aN aB c1 pu (by rw[hlen];exact hw) ?_ (by rw[hlen];exact aI)
 rw[hlen];refine⟨.ref s.heap.objs.size,_,I.laid (t':=s.toks) (o:=.tup (ks xs lo hi)) (λb dH q=>dI _ q) (eo _) ?_,rfl,q _ (I.bW.fresh (eo _))⟩;exact⟨nd (O0 xs lo hi) aI,_,(r.drop (eM.bI xs.length 0 lo)).take (eM.bI xs.length xs.length hi - eM.bI xs.length 0 lo),IsTup.new _ _⟩
noncomputable def akB(K:a'):fD:=λx y H Q=>∃a b xs ys,x=.ref a/\y=.ref b/\c8 K H a xs/\c8 K H b ys/\xs≠[]/\xs.length+ys.length<=b' /\
 (ys=[]->Q (.ref a) H)/\(ys≠[]->∀p,H p=none->Q (.ref p) (upd H p (.tup (xs++ys))))
def Vals.Ag{xs:List V}{us:List av}(r:Vals xs us):us=[] <-> xs=[]:=by
 cases r with
|nil=>simp
|cons _ _=>simp
def aiC:d_ X (kc .Add) (akB X.K):=by
 intro ai s σ H x y v u Q I aS bt h;obtain⟨a,b,xs,ys,rfl,rfl,aA,ag,hx,aI,a4,bO⟩:=h;cases aS;cases bt;obtain⟨its,bj,j0,_⟩:=I.tuple aA;obtain⟨jq,cF,dJ,_⟩:=I.tuple ag;refine eM.UM j0 dJ (λz=>hx (bj.Ag.mp z)) (λz=>⟨.ref a,H,I,rfl,a4 (cF.Ag.mp z)⟩) (λz=>?_) (by rw[<- bj.length,<- cF.length];exact aI);refine⟨.ref s.heap.objs.size,_,I.laid (t':=s.toks) (o:=.tup (xs++ys)) (λb dH q=>dI _ q) (eo _) ?_,rfl,bO (λw=>z (cF.Ag.mpr w)) _ (I.bW.fresh (eo _))⟩;exact⟨by rw[iq];exact aI,_,bj.append cF,IsTup.new _ _⟩
end
end bB
namespace bB
open PySem PySem.Spec PyProof.Rows
def qT(n:Nat)(i:Int):Option Nat:=if 0<=i then (if i<n then some i.toNat else none) else if -(n:Int)<=i then some (i+n).toNat else none
def wz{α:Type}(xs:List α)(i:Int):Option α:=(qT xs.length i).bind λj=>xs[j]?
def aiP{n:Nat}{i:Int}{j:Nat}(h:qT n i=some j):seqIndex? i n=some j/\j<n/\-(n:Int)<=i/\i<n:=by
 unfold qT at h;by_cases h0:0<=i
 ·rw[if_pos h0] at h;by_cases ah:i<n
  ·rw[if_pos ah] at h;have e:i.toNat=j:=iN h;exact⟨by rw[seqIndex_of h0 ah,e],by omega,by omega,ah⟩
  ·rw[if_neg ah] at h;cases h
 ·rw[if_neg h0] at h;by_cases ah:-(n:Int)<=i
  ·rw[if_pos ah] at h;have e:(i+n).toNat=j:=iN h;exact⟨by rw[seqIndex_neg (by omega) ah,e],by omega,ah,by omega⟩
  ·rw[if_neg ah] at h;cases h
def J_{α:Type}{xs:List α}{i:Int}{v:α}(h:wz xs i=some v):∃j,seqIndex? i xs.length=some j/\xs[j]?=some v/\j<xs.length/\-(xs.length:Int)<=i/\i<xs.length:=by
 unfold wz at h;cases e:qT xs.length i with
|none=>rw[e] at h;cases h
|some j=>
  rw[e] at h;obtain⟨ah,ao,aY,bZ⟩:=aiP e;exact⟨j,ah,h,ao,aY,bZ⟩
def QI(b:bk):Prop:=∀o i,subscripted b false o i=operate [o,i] (getItem o i)
noncomputable def oW(X:aV)(r:fD):Prop:=
 ∀(value slice:bk) (ai:List (aq×Obj)) (s:aP) (σ:St) (H:aF) (x y:V) (v u:av) (Q:di),Inv X ai σ H s->RelV x v->RelV y u->r x y H Q ->
  subscripted slice false v u=operate [v,u] (getItem v u)->bE (bN X.prog X.w) X.A (subscriptTail value slice v u) (hp X ai σ Q) X.dg s
noncomputable def CV(X:aV)(id:String)(r:V->List V->aF->di->Prop):Prop:=
 ∀(ai:List (aq×Obj)) (s:aP) (σ:St) (H:aF) (x:V) (xs:List V) (v:av) (us:List av) (Q:di),Inv X ai σ H s->RelV x v->Vals xs us->r x xs H Q ->
  bE (bN X.prog X.w) X.A (call (.builtin id) (v::us)) (hp X ai σ Q) X.dg s
section
variable {X:aV}{a b:bk}{cD cO:TE}{pos:Pos}
def oW.or{r cx:fD}(h:oW X r)(h':oW X cx):oW X (λx y H Q=>r x y H Q\/cx x y H Q):=by
 intro value slice ai s σ H x y v u Q I aS bt q aB;rcases q with q|q
 ·exact h value slice ai s σ H x y v u Q I aS bt q aB
 ·exact h' value slice ai s σ H x y v u Q I aS bt q aB
def akK{r:fD}(ax:oW X r)(aA:b3 X a cD)(ag:b3 X b cO)(aB:QI b):b3 X (.Subscript a b pos) (uT r cD cO):=by
 intro ai s σ H Q I h;exact Subscript_ (DP aA ag I h λv u s2 x y bo cg aS bt q=>ax a b ai s2 σ bo x y v u Q cg aS bt q (aB _ _))
def NM(K:a'):fD:=λx y H Q=>∃p xs i v,x=.ref p/\y=.int i/\eO K H p xs/\wz xs i=some v/\Q v H
def NO(K:a'):fD:=λx y H Q=>∃p xs i v,x=.ref p/\y=.int i/\c8 K H p xs/\wz xs i=some v/\Q v H
def NN:fD:=λx y H Q=>∃z i c,x=.str z/\y=.int i/\z.length<=b'/\wz z.cps.toList i=some c/\Q (.str ⟨#[c]⟩) H
def J2:oW X (NM X.K):=by
 intro value slice ai s σ H x y v u Q I aS bt h aB;obtain⟨p,xs,i,z,rfl,rfl,aD,he,q⟩:=h;cases aS;obtain⟨t,rfl⟩:=bt;obtain⟨its,r,c1,aI⟩:=I.list aD;obtain⟨j,ah,ao,aY,bZ,ft⟩:=J_ he;obtain⟨w,n2,sM⟩:=r.get ao;have aH:=r.length;have bf:=vL;have fin:hp X ai σ Q w s:=⟨z,H,I,sM,q⟩;by_cases h0:0<=i
 ·have cS:i.toNat=j:=by
   rw[seqIndex_of h0 ft] at ah;exact iN ah
  exact item_listR c1.isList h0 (by omega) (by rw[cS];simpa using n2) fin aB
 ·have cS:(i+(its.toArray.size:Int)).toNat=j:=by
   rw[seqIndex_neg (by omega) bZ] at ah;rw[eE,<- aH];exact iN ah
  exact subscriptTail_builtinR (x:=w) c1.isList.typeIs slot_list_getitem.lookup
   (wpAny_getItem_list_neg (Q:=λr s'=>r=w/\hp X ai σ Q r s') c1.isList (by omega) (by rw[eE] <;> omega) (by omega) (by rw[cS];simpa using n2) ⟨rfl,fin⟩) aB
def aj_:oW X (NO X.K):=by
 intro value slice ai s σ H x y v u Q I aS bt h aB;obtain⟨p,xs,i,z,rfl,rfl,aD,he,q⟩:=h;cases aS;obtain⟨t,rfl⟩:=bt;obtain⟨its,r,c1,aI⟩:=I.tuple aD;obtain⟨j,ah,ao,aY,bZ,ft⟩:=J_ he;obtain⟨w,n2,sM⟩:=r.get ao;have aH:=r.length;have bf:=vL;have fin:hp X ai σ Q w s:=⟨z,H,I,sM,q⟩;exact subscriptTail_builtinR (x:=w) c1.typeIs slot_tuple_getitem.lookup
  (getItem_tuple (j:=j) (Q:=λr s'=>r=w/\hp X ai σ Q r s') c1 (by omega) (by omega) (by rw[eE,<- aH];exact ah) (by simpa using n2) ⟨rfl,fin⟩) aB
def aj':oW X NN:=by
 intro value slice ai s σ H x y v u Q I aS bt h aB;obtain⟨z,i,c,rfl,rfl,aI,he,q⟩:=h;obtain⟨t,rfl⟩:=aS;obtain⟨t',rfl⟩:=bt;obtain⟨j,ah,ao,aY,bZ,ft⟩:=J_ he;have aH:z.cps.toList.length=z.length:=by simp[Str.length]
 rw[aH] at ah bZ ft;have bf:=vL;exact tail_any (typeIs_str s z t) slot_str_getitem.lookup (getItem_str (c:=c) (by
  have aE:decide (i < -(2 ^ 63:Int))=false:=decide_eq_false (by omega);have aK:decide (i >= 2 ^ 63)=false:=decide_eq_false (by omega);rw[aE,aK,Bool.or_false]) (by rw[ah];simpa using ao) ⟨.str ⟨#[c]⟩,H,I.tok _,⟨_,rfl⟩,q⟩) aB
def abP(K:a'):fD:=λx y H Q=>NM K x y H Q\/NO K x y H Q\/NN x y H Q
def aka:oW X (abP X.K):=J2.or (aj_.or aj')
def aet(lo hi:Option Int)(n:Nat):(sliceBounds lo hi none n).1=((eM.bI n 0 lo:Nat):Int)/\(sliceBounds lo hi none n).2.1=((eM.bI n n hi:Nat):Int)/\(sliceBounds lo hi none n).2.2=1:=by
 refine⟨?_,?_,rfl⟩
 ·cases lo with
  |none=>simp[sliceBounds,eM.bI]
  |some i=>
   simp only[sliceBounds,eM.bI,Option.getD_none,show (1:Int) > 0 by decide,if_true];by_cases h:i<0
   ·simp only[h,if_true] <;> omega
   ·simp only[h,if_false] <;> omega
 ·cases hi with
  |none=>simp[sliceBounds,eM.bI]
  |some i=>
   simp only[sliceBounds,eM.bI,Option.getD_none,show (1:Int) > 0 by decide,if_true];by_cases h:i<0
   ·simp only[h,if_true] <;> omega
   ·simp only[h,if_false] <;> omega
def aeb(its:List av)(lo hi:Option Int):slicePick its.toArray lo hi none=((its.drop (eM.bI its.length 0 lo)).take (eM.bI its.length its.length hi - eM.bI its.length 0 lo)).toArray:=by
 obtain⟨ah,ao,aY⟩:=aet lo hi its.toArray.size;unfold slicePick;rw[ah,ao,aY];simp only[sliceRange_one,pick_run,eE] <;> rfl
def abQ(K:a'):V->Option Int->Option Int->aF->di->Prop:=λx lo hi H Q=>∃a xs,x=.ref a/\eO K H a xs/\∀p,H p=none->Q (.ref p) (upd H p (.lst (ks xs lo hi)))
def Qs:o4 X (abQ X.K):=by
 intro ai s σ H x v gL e_ lo hi b_ Q I aS aB c1 pu h;obtain⟨a,xs,rfl,hx,q⟩:=h;cases aS;obtain⟨its,r,aN,aI⟩:=I.list hx;have hlen:=r.length;refine⟨"list",_,slot_list_getitem.lookup,aN.isList.typeIs,?_⟩;refine wpAny_getItem_list_slice aN.isList aB c1 pu .none (by simp) ?_ (by rw[eE] <;> omega);rw[aeb,<- hlen];refine⟨.ref s.heap.objs.size,_,I.laid (t':=s.toks) (o:=.lst (ks xs lo hi)) (λb dH q=>dI _ q) (eo _) ?_,rfl,q _ (I.bW.fresh (eo _))⟩;exact⟨nd (O0 xs lo hi) aI,_,0,(r.drop (eM.bI xs.length 0 lo)).take (eM.bI xs.length xs.length hi - eM.bI xs.length 0 lo),hJ _ rfl⟩
def aeU:km X (.builtin "len") (λxs H Q=>∃p ys,xs=[.ref p]/\(eO X.K H p ys\/c8 X.K H p ys)/\Q (.int ys.length) H):=by
 intro ai s σ H xs us Q I r h;obtain⟨p,ys,rfl,aD,q⟩:=h;obtain⟨u,rfl,aS⟩:=vals1 r;cases aS;have bf:=vL;rcases aD with aD|aD
 ·obtain⟨its,cx,c1,aI⟩:=I.list aD;have hlen:=cx.length;exact Calls.call_len_list c1.isList (by simp only[eE] <;> omega) ⟨.int ys.length,H,I.tok _,⟨s.toks+1,by rw[eE,hlen]⟩,q⟩
 ·obtain⟨its,cx,c1,aI⟩:=I.tuple aD;have hlen:=cx.length;exact len_tuple c1 (by simp only[eE] <;> omega) ⟨.int ys.length,H,I.tok _,⟨s.toks+1,by rw[eE,hlen]⟩,q⟩
def aeT:km X (.builtin "len") (λxs H Q=>∃z,xs=[.str z]/\z.length<=b'/\Q (.int z.length) H):=by
 intro ai s σ H xs us Q I r h;obtain⟨z,rfl,aI,q⟩:=h;obtain⟨u,rfl,t,rfl⟩:=vals1 r;have bf:=vL;exact len_str (by omega) ⟨.int z.length,H,I.tok _,⟨_,rfl⟩,q⟩
def km.or{f:av}{r cx:List V->aF->di->Prop}(h:km X f r)(h':km X f cx):km X f (λxs H Q=>r xs H Q\/cx xs H Q):=by
 intro ai s σ H xs us Q I rs q;rcases q with q|q
 ·exact h ai s σ H xs us Q I rs q
 ·exact h' ai s σ H xs us Q I rs q
def aeq:km X (.type "tuple") (λxs H Q=>∃p ys,xs=[.ref p]/\((eO X.K H p ys/\∀l,H l=none->Q (.ref l) (upd H l (.tup ys)))\/(c8 X.K H p ys/\Q (.ref p) H))):=by
 intro ai s σ H xs us Q I r h;obtain⟨p,ys,rfl,h⟩:=h;obtain⟨u,rfl,aS⟩:=vals1 r;cases aS;rcases h with ⟨aD,q⟩|⟨aD,q⟩
 ·obtain⟨its,cx,c1,aI⟩:=I.list aD;have hlen:=cx.length;refine call_tuple_list c1.isList (λh' aQ=>?_) (by simp only[eE] <;> omega);have a9:Inv X ai σ H {s with heap:=h'}:=I.kept (t':=s.toks) aQ;have cg:Inv X ai σ (upd H h'.objs.size (.tup ys)) {s with heap:=h'.push {cls:=.type "tuple",data:=.seq its.toArray} }:=
   a9.laid (t':=s.toks) (λb o e=>dI _ e) (eo _) (show kl X.prog X.w _ _ _ (.tup ys) from ⟨aI,its,cx,IsTup.new _ _⟩)
  exact⟨.ref h'.objs.size,_,cg,rfl,q _ (a9.bW.fresh (eo _))⟩
 ·obtain⟨its,cx,c1,aI⟩:=I.tuple aD;exact call_tuple_same c1 ⟨.ref p,H,I,rfl,q⟩
noncomputable def Od(K:a')(T:String)(x:V)(H:aF):Prop:=match x with
|.str _=>T="str"
|.int _=>T="int"
|.ref p=>(T="list"/\∃xs,eO K H p xs)\/(T="tuple"/\∃o,K.lookup p=some o/\o.cls=.type "tuple"/\o.dict=none) \/
   (T="dict"/\((∃dc,H p=some (.ji dc))\/∃dc,H p=some (.ui dc)))\/(T="set"/\∃S n,H p=some (.set S n))
|_=>False
def ajm{ai:List (aq×Obj)}{σ:St}{H:aF}{s:aP}{T:String}{x:V}{v:av}(I:Inv X ai σ H s)(r:RelV x v)(ty:Od X.K T x H):
  s.TypeIs v T/\∀a,v=.ref a->∃dH,s.heap.get? a=some dH/\dH.dict=none:=by
 cases x with
|str z=>
  obtain⟨t,rfl⟩:=r;cases (show T="str" from ty);exact⟨typeIs_str s z t,λ_ e=>nomatch e⟩
|int i=>
  obtain⟨t,rfl⟩:=r;cases (show T="int" from ty);exact⟨typeIs_int s i t,λ_ e=>nomatch e⟩
|ref p=>
  cases r
  rcases ty with ⟨rfl,xs,aD⟩|⟨rfl,o,a0,au,hd⟩|⟨rfl,a0⟩|⟨rfl,S,n,a0⟩
  ·obtain⟨its,_,c1,_⟩:=I.list aD;refine⟨c1.isList.typeIs,λa e=>?_⟩;cases e;obtain⟨o,n,e,c,hd,_⟩:=c1;exact⟨o,e,hd⟩
  ·refine⟨⟨o,I.jY p o a0,au⟩,λa e=>?_⟩
   cases e
   exact⟨o,I.jY _ o a0,hd⟩
  ·have z:∃o,s.heap.get? p=some o/\o.ExactDict:=by
    rcases a0 with ⟨dc,a0⟩|⟨dc,a0⟩
    ·obtain⟨_,_,_,_,o,_,_,e,ex,_⟩:=I.bW p _ a0;exact⟨o,e,ex⟩
    ·obtain⟨_,_,_,_,o,_,_,e,ex,_⟩:=I.bW p _ a0;exact⟨o,e,ex⟩
   obtain⟨o,e,ex⟩:=z;refine⟨⟨o,e,ex.1⟩,λa aK=>?_⟩;cases aK;exact⟨o,e,ex.2.1⟩
  ·obtain⟨o,_,_,_,e,ex,_⟩:=I.bW p _ a0;refine⟨⟨o,e,ex.1⟩,λa aK=>?_⟩;cases aK;exact⟨o,e,ex.2.1⟩
|_=>exact eX ty
def AF(K:a')(T:String)(r:V->List V->aF->di->Prop)(to:TE)(t:fT):TE:=λσ H Q=>to σ H λx H1=>Od K T x H1/\t σ H1 λxs bo=>r x xs bo Q
variable {o e:bk}{ar:List bk}{to:TE}{t:fT}{name:Str}{apos eQ:Pos}{T id:String}{r:V->List V->aF->di->Prop}
def vU(pa:PlainAttrs T)(slot:Slot T name id)(X5:typeOf (.builtin id)=pure (.type "method_descriptor"))(hm:CV X id r)(aT:b3 X o to)(aA:gm X (e::ar) t)
  (pj:attributeBase o name X.env (eval o X.env)=eval o X.env:=by rfl)
  (pn:((fl eQ (bL (e::ar) X.env)).all (λx=>!x.1) && (backToKw eQ (keywordEach [] X.env)).all (λx=>x.1.isSome)
   && decide ((e::ar).length+([]:List Keyword).length+(if ([]:List Keyword).isEmpty then 0 else 1)<30))=true:=by rfl)
  (pq:(apos.endLine==eQ.line)=true:=by rfl) (aB:bL (e::ar) X.env=(false,eval e X.env)::bL ar X.env:=by rfl) (pv:(fl eQ (bL ar X.env)).any (·.1)=false:=by rfl):
  b3 X (.Call (.Attribute o name apos) (e::ar) [] eQ) (AF X.K T r to t):=by
 intro ai s σ H Q I h;refine wpAny_Call_method_late pj pn pq rfl (cA (aT ai s σ H _ I h) λv s1 ⟨x,H1,a9,bj,ty,a4⟩=>?_);obtain⟨ah,ao⟩:=ajm a9 bj ty;refine⟨T,id,pa,slot,X5,ah,ao,?_⟩;have ph:=aA eQ ai s1 σ H1 _ a9 a4;rw[aB] at ph ⊢;refine Calls.callWith_builtin (by show (false || (fl eQ (bL ar X.env)).any (·.1))=false;rw[pv] <;> rfl) (Calls.evalArgs_plain ?_);exact cA ph λus s2 ⟨vs,bo,cg,cF,bO⟩=>hm ai s2 σ bo x vs v us Q cg bj cF bO
end
end bB
namespace bB
open PySem PySem.Spec PyProof.Rows
noncomputable def zc(X:aV)(id:String)(r:V->List V->aF->di->Prop):Prop:=
 ∀(ai:List (aq×Obj)) (s:aP) (σ:St) (H:aF) (x:V) (xs:List V) (v:av) (us:List av) (Q:di),Inv X ai σ H s->RelV x v->Vals xs us->r x xs H Q ->
  bE (bN X.prog X.w) X.A (call (.builtin id) (v::us)) (hp X ai σ Q) X.dg s
def Vals.one:∀{x:V} {us:List av},Vals [x] us->∃u,us=[u]/\RelV x u
|_,_,.cons r .nil=>⟨_,rfl,r⟩
def Vals.two:∀{x y:V} {us:List av},Vals [x,y] us->∃u v,us=[u,v]/\RelV x u/\RelV y v
|_,_,_,.cons r (.cons q .nil)=>⟨_,_,rfl,r,q⟩
theorem Vals.rep{xs:List V}{us:List av}(h:Vals xs us):∀k:Nat,Vals (dT k xs).flatten (dT k us).flatten
|0=>.nil
|k+1=>by
  rw[q7,q7,s7,s7];exact Vals.append h (Vals.rep h k)
theorem foldl_rep(its:List av):∀(k:Nat) (acc:List av),
  List.foldl (λaW bF=>aW++bF) acc.toArray (dT k its.toArray)=(acc++(dT k its).flatten).toArray
|0,acc=>by simp
|k+1,acc=>by
  have e:acc.toArray++its.toArray=(acc++its).toArray:=by simp
  have aK:(acc++its)++(dT k its).flatten=acc++(dT (k+1) its).flatten:=by
   rw[q7,s7,List.append_assoc]
  rw[<- aK,<- foldl_rep its k (acc++its),<- e,q7,List.foldl_cons]
section
variable {X:aV}{ai:List (aq×Obj)}{σ:St}{H:aF}{s:aP}{l b:aq}{xs ys zs:List V}
def Inv.Zk{its its':List av}{n:Nat}{f:Array av->Array av}{t':Nat}(I:Inv X ai σ H s)(fH:H l=some (.lst xs))
  (e:s.heap.get? l=some {cls:=.type "list",data:=.seq its.toArray n}) (hf:f its.toArray=its'.toArray) (ba:Vals ys its') (aI:ys.length<=b'):
  Inv X ai σ (upd H l (.lst ys)) {s with heap:=s.heap.update l (Obj.mapSeq f),toks:=t'}:=by
 have q:=PySem.IsL.update e f;rw[hf] at q;refine I.write (x:=l) (e:=l) (by rw[fH];exact trivial) (.inl rfl) (λf6 u ag cM=>(Heap.get?_update_other s.heap (Obj.mapSeq f) (Ne.symm ag)).trans cM) ⟨_,q⟩ ?_;exact⟨aI,its',_,ba,q⟩
def Inv.su{its:List av}{t':Nat}(I:Inv X ai σ H s)(ba:Vals ys its)(aI:ys.length<=b'):
  Inv X ai σ (upd H s.heap.objs.size (.lst ys)) {s with heap:=s.heap.push {cls:=.type "list",data:=.seq its.toArray},toks:=t'}:=
 I.laid (λ_ _ q=>dI _ q) (eo _) ⟨aI,its,0,ba,hJ _ rfl⟩
theorem Inv.fresh(I:Inv X ai σ H s):H s.heap.objs.size=none:=I.bW.fresh (eo _)
def Inv.Zl(I:Inv X ai σ H s)(fH:H l=some (.lst xs)):xs.length<=b'/\∃(its:List av) (n:Nat),Vals xs its/\xs.length=its.length/\s.heap.get? l=some {cls:=.type "list",data:=.seq its.toArray n}:=by
 obtain⟨z,its,n,r,e⟩:=I.bW l _ fH;exact⟨z,its,n,r,r.length,e⟩
def ahw{n:Nat}(h:n<=b'):Builtin.List.listTooLong n=false:=by
 unfold Builtin.List.listTooLong;exact decide_eq_false (by omega)
end
section
variable {X:aV}
def aii:V->List V->aF->di->Prop:=λx vs H Q=>∃l xs y,x=.ref l/\vs=[y]/\H l=some (.lst xs)/\xs.length<b'/\Q .eA (upd H l (.lst (xs++[y])))
def PD:zc X "list.append" aii:=by
 intro ai s σ H x vs v us Q I aS cn h;obtain⟨l,xs,y,rfl,rfl,fH,aI,q⟩:=h;cases aS;obtain⟨u,rfl,e3⟩:=cn.one;obtain⟨z,its,n,r,aH,e⟩:=I.Zl fH;refine nh F.slot_list_append ⟨_,e,rfl⟩ F.entry_list_append (F.args_list_append_2 _ _) (PySem.list_append l its.toArray n u (by rw[eE];omega)) ⟨e,?_⟩;refine⟨.eA,_,I.Zk (its':=its++[u]) fH e (by simp) (r.append (.cons e3 .nil)) ?_,rfl,q⟩;rw[iq,List.length_singleton];omega
def len_rep{α:Type}(xs:List α)(k:Nat):(dT k xs).flatten.length=k*xs.length:=by
 induction k with
|zero=>simp
|succ k d0=>rw[q7,s7,iq,d0,Nat.succ_mul,Nat.add_comm]
end
end bB
namespace K2
open PySem PySem.W PySem.Calls PyProof.Rows
def ad7{P:Params}{h:bP}:∀(ns:List Int) (vs:List av),WellAll P h vs (ns.map WData.int)->IntsAre vs ns:=by
 intro ns
 induction ns with
|nil=>
  intro vs w;rw[lz] at w;cases w;exact .nil
|cons n ns d0=>
  intro vs w;rw[eI] at w;cases w with
  |cons a b=>
   cases a
   exact .cons _ _ (d0 _ b)
def age{l:OpenLaw}{n:Nat}(bf:l.most=some n){P:Params}{h:bP}{args:List WData}{vals:List av}
    (z1:l.row.toRowW.claim.pre args=true) (Gg:WellAll P h vals args):
    ∃a vs ns,vals=[Value.ref a]/\args=[WData.list (ns.map WData.int)]/\h.get? a=some {cls:=.type "list",data:=.seq vs.toArray}/\IntsAre vs ns/\ns.length<=n:=by
  have XX:WShape.hasAll [] args [.list .int]=true:=(pre_splitW z1).1;have au:l.pre.holds [] {args:=args}=true:=(pre_splitW z1).2;obtain⟨d,r,rfl,ah,ao⟩:=hasAllW_cons XX;obtain rfl:=hasAllW_nil ao;obtain⟨xs,rfl,aY⟩:=hasW_list ah;obtain⟨ns,rfl⟩:=items_int aY;have hlen:ns.length<=n:=by
    unfold OpenLaw.pre at au;have bZ:(WTm.not (.lt (.lit (.int (n:Int))) (.len (.arg 0)))).holds [] {args:=[.list (ns.map .int)]}=true:=by
      have bZ:=(holds_andW au).1;rw[bf] at bZ;exact bZ
    have ft:=condW_of bZ (w_not (w_lt w_lit (w_len_list (w_arg rfl))));rw[dy] at ft;refine Nat.le_of_not_lt λq=>?_;have d5:(n:Int)<((ns.length:Nat):Int):=by omega
    first
      | (rw[decide_eq_true d5] at ft;exact absurd ft (by decide))
      | (simp at ft;omega)
  cases Gg with
  |cons uY pP=>
    cases pP
    cases uY with
    |list aT jo=>exact⟨_,_,ns,rfl,rfl,aT,ad7 ns _ jo,hlen⟩
def agh(l:OpenLaw)(args:List WData):l.row.toRowW.claim.post args (.bool true) args=true:=
 postW_of (r:=l.row.toRowW) (X:=(true==true))
  (show WShape.has [] (.bool true) .bool=true by first|rfl|decide|simp[WShape.has,WShape.arms,WShape.armsAll])
  (show (WTm.eq .res (.lit (.bool true))).value [] {args:=args,res:=some (.bool true),after:=args}=some (.bool (true==true)) from w_eq_bool (w_res rfl) w_lit) rfl
def Uw{l:OpenLaw}{n:Nat}{q:c3}{loose:List Str}{ua:(Str->Option av)->bP->Prop}{nQ:cf->bP->Prop}{d:DefRec}
  (bf:l.most=some n) (w2:d.params.defaults=[])
  (call:∀(w:cf) (c' dx:aP) (mg kF:Str->Option av) (cU:aq) (o:Obj) (pm cd doc:av) (a:aq) (vs:List av) (ns:List Int),
   Ground q loose [] ua w c' mg kF dx.heap->nQ w dx.heap ->
   dx.heap.get? cU=some o->o.data=.func (docDef d.name d.params d.body d.scope pm cd doc)->dx.heap.CodeRec cd d.name->mg d.name=some (.ref cU) ->
   dx.heap.get? a=some {cls:=.type "list",data:=.seq vs.toArray}->IntsAre vs ns->ns.length<=n->dx.gens=#[] ->
   jb (bN l.prog w) callerA (.call (.ref cU) ⟨[.ref a],[]⟩) (λr s'=>r=.ok (.ret (.bool true))/\OldK dx.heap s'.heap/\s'.os=dx.os/\AllBare s'.gens) dx):
  WalkO q loose ua nQ l.row.toRowW d [] (λf vs=>PySem.call f vs):=by
 intro w c' dx mg kF G Y cU o pm cd doc zz gv aT hd eT n5 w_ a7 args vals as z1 alx alF Gg qM;obtain rfl:zz=.none:=Dflts.none n5 w2;obtain rfl:gv=.none:=Dflts.noKw n5;obtain⟨a,vs,ns,rfl,rfl,F_,hints,hlen⟩:=age bf z1 Gg;refine enter_call (s9 (call w c' dx mg kF cU o pm cd doc a vs ns G Y aT (fd_plain hd) eT w_ F_ hints hlen a7) λr s' aD=>?_);obtain⟨rfl,ao,aY,bZ⟩:=aD;exact⟨.inl ⟨.bool true,.bool true,[],rfl,λ_=>rfl,.bool true,agh l _,λ_=>⟨List.Pairwise.nil,λ_ hm=>(nomatch hm)⟩⟩,ao,aY,bZ⟩
end K2
namespace bB
open PySem PySem.Spec PyProof.Rows
theorem Pp:∀{vs:List av} {ns:List Int},IntsAre vs ns->Vals (ns.map V.int) vs
|_,_,.nil=>.nil
|_,_,.cons n t h=>.cons ⟨t,rfl⟩ (Pp h)
end bB
namespace bB
open PySem PySem.Spec PyProof.Rows
end bB
namespace bB
open PySem PySem.Spec PyProof.Rows
noncomputable def ny(s:Stmt):Arguments:=match s with
|.FunctionDef _ a _ _ _ _ _ _ _ _=>a
|_=>{posonlyargs:=[],args:=[],vararg:=none,kwonlyargs:=[],kw_defaults:=[],kwarg:=none,defaults:=[]}
def hk(s:Stmt):List Stmt:=match s with
|.FunctionDef _ _ b _ _ _ _ _ _ _=>b
|_=>[]
def bS(s:Stmt):Scope:=match s with
|.FunctionDef _ _ _ _ _ _ sc _ _ _=>sc
|_=>{kind:=.function,names:=[],isGenerator:=false,isCoroutine:=false}
abbrev e5:kT:=λ_ _ _ _ _ _=>False
abbrev mx:gE:=λ_ _ _=>False
def akL{X:aV}:Passes e5 X mx:=λ_ _ _ _ _ _ _ h=>h.elim
structure cE(K:a')(x qual:Str)(st:Stmt)(f:aq)(fd:fa):Prop where
 ex:∃(gY:av) (hb:Option aq) (gv doc pm:av) (an:Option aq) (bY bJ:av) (kH:Array (Option av)),
  fd=lx x qual (ny st) (hk st) (bS st) .none gv doc pm an bY bJ/\K.lookup f=some ⟨gY,hb,.func fd,kH⟩/\sX K bY qual=true
 aQ:al6 K (.ref f)=true
section
variable {P:c3}{w:cf}{K:a'}{mg:Str->Option av}{base:bP}
def cE.ok{x qual:Str}{st:Stmt}{f:aq}{fd:fa}{N ps:List Str}{k:Nat}{sp:mC}(F:cE K x qual st f fd)(S:cY N ps (bS st))(len:∀vs H Q E,sp vs H Q E->vs.length=ps.length)
  (al2:∀(bY:av) (A:dk) (outer:List Env) (s:aP) (H:aF) (vs:List V) (Q:di) (E:gE),eN k (A.deeper (envOfC qual (bS st) s.heap.objs.size f bY))->sp vs H Q E ->
   ∃t,fh (gQ e5 P w K mg base N qual (bS st) f bY A outer s H E).eU (hk st) t/\t {bg:=λ_ ak=>Q .eA ak,ee:=Q} (start N vs) H):gD P w K mg base e5 (k+1) f fd ps sp:=by
 obtain⟨gY,hb,gv,doc,pm,an,bY,bJ,kH,rfl,lk,eT⟩:=F.ex;refine KV lk eT S len λA outer s H vs Q E ax qN=>?_;obtain⟨t,h,q⟩:=al2 bY A outer s H vs Q E ax qN;exact⟨t,h.eU,q⟩
def cE.binds{x qual:Str}{st:Stmt}{f:aq}{fd:fa}{ps:List Str}(F:cE K x qual st f fd)
  (h:∀(gv doc pm:av) (an:Option aq) (bY bJ:av) (us:List av),us.length=ps.length->bindArgs (lx x qual (ny st) (hk st) (bS st) .none gv doc pm an bY bJ) ⟨us,[]⟩=pure (ps.zip us)):Binds K fd ps []:=by
 obtain⟨gY,hb,gv,doc,pm,an,bY,bJ,kH,rfl,lk,eT⟩:=F.ex;exact .all (h gv doc pm an bY bJ)
def dD{x qual:Str}{st:Stmt}{f:aq}{gY:av}{hb an:Option aq}{kH:Array (Option av)}{gv doc pm bY bJ:av}(l:K.lookup f=some ⟨gY,hb,.func (lx x qual (ny st) (hk st) (bS st) .none gv doc pm an bY bJ),kH⟩)
  (c:sX K bY qual=true) (k:al6 K (.ref f)=true):cE K x qual st f (lx x qual (ny st) (hk st) (bS st) .none gv doc pm an bY bJ):=⟨⟨gY,hb,gv,doc,pm,an,bY,bJ,kH,rfl,l,c⟩,k⟩
end
section
variable {X:aV}
def j1(i:Nat){x:Str}{pos:Pos}(dA:X.N[i]?=some x:=by rfl)(ba:nP X.env.scope x:=by first|exact Or.inl rfl|exact Or.inr (Or.inl rfl)|exact Or.inr (Or.inr rfl))(hd:(x==("__debug__":Str))=false:=by decide)
  (eT:(x==("__classdict__":Str))=false:=by decide):b3 X (.Name x pos) (m7 i):=ajK dA ba hd eT
end
def qS{A B:Prop}(h:B):if false=true then A else B:=by
 rw[if_neg kb];exact h
def n'{A B:Prop}(h:A):if true=true then A else B:=by
 rw[if_pos rfl];exact h
def Ti(H ak:aF):Prop:=∀b o,H b=some o->ak b=some o
end bB
end
section
namespace D
open PySem
abbrev T:=PyData
def eV(a:T):Bool:=a.canLay0 && decide (a.depth<=60)
def oj(as:List T):Bool:=jB as && decide (i' as<=60)
abbrev Key:=Sum Int Str
inductive wd where
|al0|own|uJ
 deriving DecidableEq
inductive bQ where
|ae (t:T)|own (ts:List T)|iE (dc:List (Key×T))|obj (m:wd) (c:Nat) (a6:List bQ)
abbrev Ev:=List (Option bQ)
inductive Out where
|bg (ε:Ev)|ee (t:T)|f7 (ε:Ev)|bJ (ε:Ev)|j6 (t:T) (ε:Ev)|m4 (s:bQ)
abbrev a_:=Ev->Option T
abbrev ej:=Ev->Option Bool
abbrev bx:=Ev->Option Out
abbrev iW:=Ev->Option (List T)
abbrev h4:=T->Ev->Option Ev
def big:Nat:=16777216
noncomputable def aU:T->T->Option T
|.int i,.int j=>some (.int (i+j))
|.str x,.str y=>if x.length+y.length<=big then some (.str (x++y)) else none
|.tuple xs,.tuple ys=>if xs.length+ys.length<=big then some (.tuple (xs++ys)) else none
|.list xs,.list ys=>if xs.length+ys.length<=big then some (.list (xs++ys)) else none
|_,_=>none
def oi:T->T->Option T
|.int i,.int j=>some (.int (i - j))
|_,_=>none
def vW(i j:Int):Bool:=(decide (-(2 ^ 64)<i) && decide (i<2 ^ 64)) || (decide (-(2 ^ 64)<j) && decide (j<2 ^ 64))
def dw:T->T->Option T
|.int i,.int j=>if vW i j then some (.int (i*j)) else none
|_,_=>none
def oDiv:T->T->Option T
|.int i,.int j=>if 0<j/\j<1073741824 then some (.int (i / j)) else none
|_,_=>none
def oMod:T->T->Option T
|.int i,.int j=>if 0<j then some (.int (i % j)) else none
|_,_=>none
def og:T->Option T
|.int i=>some (.int (-i))
|_=>none
def fv(n:Nat)(i:Int):Option Nat:=if 0<=i then (if i<n then some i.toNat else none) else if -(n:Int)<=i then some (i+n).toNat else none
def eP{α:Type}(xs:List α)(i:Int):Option α:=(fv xs.length i).bind λj=>xs[j]?
noncomputable def aJ:T->T->Option T
|.tuple xs,.int i=>eP xs i
|.list xs,.int i=>eP xs i
|.str x,.int i=>if x.length<=big then (eP x.cps.toList i).map λc=>.str ⟨#[c]⟩ else none
|_,_=>none
def oEq(a b:T):Option T:=if eV a && eV b then some (.bool (kL a b)) else none
def dG(a b:T):Option T:=if eV a && eV b then some (.bool (!PyData.eqv a b)) else none
def gX(a:T):Option T:=some (.bool (match a with|.none=>true|_=>false))
def jG(a:T):Option T:=some (.bool (match a with|.none=>false|_=>true))
def strLt(x y:Str):Bool:=decide (x.cps.toList<y.cps.toList)
def oLt:T->T->Option T
|.int i,.int j=>some (.bool (decide (i<j)))
|.str x,.str y=>some (.bool (strLt x y))
|_,_=>none
def oLe:T->T->Option T
|.int i,.int j=>some (.bool (decide (i<=j)))
|.str x,.str y=>some (.bool (!strLt y x))
|_,_=>none
def iJ:T->T->Option T
|.int i,.int j=>some (.bool (decide (j<i)))
|.str x,.str y=>some (.bool (strLt y x))
|_,_=>none
def l2:T->T->Option T
|.int i,.int j=>some (.bool (decide (j<=i)))
|.str x,.str y=>some (.bool (!strLt x y))
|_,_=>none
def mP(x:T)(ts:List T):Bool:=ts.any λy=>kL y x
noncomputable def gJ(neg:Bool):T->T->Option T
|x,.tuple ys=>if eV x && oj ys then some (.bool (if neg then !mP x ys else mP x ys)) else none
|x,.list ys=>if eV x && oj ys then some (.bool (if neg then !mP x ys else mP x ys)) else none
|_,_=>none
def eC:List T->Option T
| [.tuple xs]=>some (.int xs.length)
| [.list xs]=>some (.int xs.length)
| [.str x]=>if x.length<=big then some (.int x.length) else none
|_=>none
def mY:List T->Option T
| [.int i,.int j]=>some (.int (if j<i then j else i))
|_=>none
def mX:List T->Option T
| [.int i,.int j]=>some (.int (if j > i then j else i))
|_=>none
def dS:List T->Option T
| [.tuple xs]=>some (.tuple xs)
| [.list xs]=>some (.tuple xs)
|_=>none
def Cn:List T->Option T
| [.tuple xs]=>some (.list xs)
| [.list xs]=>some (.list xs)
|_=>none
def Ak:List T->Option T
| [.int i]=>some (.int i)
| [.bool b]=>some (.int (if b then 1 else 0))
|_=>none
def bI(n d:Nat):Option Int->Nat
|none=>d
|some v=>(if v<0 then max (v+n) 0 else min v n).toNat
def cT{α:Type}(xs:List α)(lo hi:Option Int):List α:=(xs.drop (bI xs.length 0 lo)).take (bI xs.length xs.length hi - bI xs.length 0 lo)
def oh(t:T)(lo hi:Option Int):Option T:=match t with
|.tuple xs=>some (.tuple (cT xs lo hi))
|.list xs=>some (.list (cT xs lo hi))
|_=>none
def intsOf:List T->Option (List Int)
| []=>some []
|.int i::ts=>(intsOf ts).map λr=>i::r
|_::_=>none
def strsOf:List T->Option (List Str)
| []=>some []
|.str x::ts=>(strsOf ts).map λr=>x::r
|_::_=>none
def insI(x:Int):List Int->List Int
| []=>[x]
|y::ys=>if x<=y then x::y::ys else y::insI x ys
def sortI:List Int->List Int
| []=>[]
|x::xs=>insI x (sortI xs)
def M9(x:Str):List Str->List Str
| []=>[x]
|y::ys=>if !strLt y x then x::y::ys else y::M9 x ys
def Cf:List Str->List Str
| []=>[]
|x::xs=>M9 x (Cf xs)
def dedup{α:Type}[DecidableEq α]:List α->List α
| []=>[]
|x::xs=>x::(dedup xs).filter λy=>decide (y≠x)
def keyOf:T->Option Key
|.int i=>some (.inl i)
|.str x=>some (.inr x)
|_=>none
def putD(dc:List (Key×T))(k:Key)(v:T):List (Key×T):=if dc.any (λp=>decide (p.1=k)) then dc.map λp=>if p.1=k then (k,v) else p else dc++[(k,v)]
def getD(dc:List (Key×T))(k:Key):Option T:=(dc.find? λp=>decide (p.1=k)).map (·.2)
def aa(t:T):a_:=λ_=>some t
def nm(i:Nat):a_:=λε=>match ε[i]? with
|some (some (.ae t))=>some t
|some (some (.own ts))=>some (.list ts)
|_=>none
def az(i:Nat):a_:=λε=>match ε[i]? with
|some (some (.ae t))=>some t
|_=>none
def dQ(o:T->Option T)(f:a_):a_:=λε=>(f ε).bind o
def af(o:T->T->Option T)(f g:a_):a_:=λε=>(f ε).bind λx=>(g ε).bind λy=>o x y
def args:List a_->Ev->Option (List T)
| [],_=>some []
|f::a6,ε=>(f ε).bind λt=>(args a6 ε).map λts=>t::ts
def aw(o:List T->Option T)(a6:List a_):a_:=λε=>(args a6 ε).bind o
def br(a6:List a_):a_:=λε=>(args a6 ε).bind λts=>if ts.length<=big then some (.tuple ts) else none
def eh(a6:List a_):a_:=λε=>(args a6 ε).bind λts=>if ts.length<=big then some (.list ts) else none
def opt(f:a_):Ev->Option (Option Int):=λε=>(f ε).bind λt=>match t with|.int i=>some (some i)|_=>none
def optN:Ev->Option (Option Int):=λ_=>some none
def slice(f:a_)(lo hi:Ev->Option (Option Int)):a_:=λε=>(f ε).bind λt=>(lo ε).bind λl=>(hi ε).bind λh=>oh t l h
def fG(f g:a_):a_:=λε=>(f ε).bind λt=>match t with|.bool true=>g ε|.bool false=>some (.bool false)|_=>none
def qZ(f g:a_):a_:=λε=>(f ε).bind λt=>match t with|.bool false=>g ε|.bool true=>some (.bool true)|_=>none
def xn(f:a_):a_:=λε=>(f ε).bind λt=>match t with|.bool b=>some (.bool (!b))|_=>none
noncomputable def chain(o p:T->T->Option T)(f g h:a_):a_:=λε=>(f ε).bind λx=>(g ε).bind λy=>(o x y).bind λr=>match r with
|.bool true=>(h ε).bind λz=>p y z
|.bool false=>some (.bool false)
|_=>none
def a3(f:a_):ej:=λε=>(f ε).bind λt=>match t with|.bool b=>some b|_=>none
def i9(f:a_):ej:=λε=>(f ε).bind λt=>match t with|.list ts=>some (!ts.isEmpty)|.tuple ts=>some (!ts.isEmpty)|_=>none
def e6(f g:ej):ej:=λε=>(f ε).bind λb=>if b then g ε else some false
def dB(f g:ej):ej:=λε=>(f ε).bind λb=>if b then some true else g ε
def dq(f:ej):ej:=λε=>(f ε).map λb=>!b
def jW(c:ej)(f g:a_):a_:=λε=>(c ε).bind λb=>if b then f ε else g ε
def ct(b:Bool):ej:=λ_=>some b
def ofT(c:ej):a_:=λε=>(c ε).map .bool
def fc(f:a_):iW:=λε=>(f ε).bind λt=>match t with|.tuple ts=>some ts|.list ts=>some ts|_=>none
def mu(f:a_):iW:=λε=>(f ε).bind λt=>match t with|.tuple ts=>some ts|_=>none
def jx(lo hi:Int):List T:=(List.range (hi - lo).toNat).map λ(k:Nat)=>.int (lo+(k:Int))
def qb(i:Int):Bool:=decide (-(2 ^ 62)<=i) && decide (i<2 ^ 62)
def hM(f:a_):iW:=λε=>(f ε).bind λt=>match t with|.int j=>if qb j then some (jx 0 j) else none|_=>none
def enum(ts:List T):List T:=ts.zipIdx.map λp=>.tuple [.int p.2,p.1]
def je(f:iW):iW:=λε=>(f ε).map enum
def a8(i:Nat):h4:=λt ε=>some (ε.set i (some (.ae t)))
def gH:List h4->List T->Ev->Option Ev
| [],[],ε=>some ε
|g::gr,t::ts,ε=>(g t ε).bind λε'=>gH gr ts ε'
|_,_,_=>none
def eH(gr:List h4):h4:=λt ε=>match t with|.tuple ts=>gH gr ts ε|_=>none
noncomputable def fm(g:h4)(c:ej)(e:a_):List T->Ev->Option (List T)
| [],_=>some []
|t::ts,ε=>(g t ε).bind λlK=>(c lK).bind λb=>if b then (e lK).bind λy=>(fm g c e ts lK).map λys=>y::ys else fm g c e ts lK
def hn(own:Nat)(caps:List Nat)(ε:Ev):Ev:=dT own none++caps.map λi=>(ε[i]?).join
def comp(own:Nat)(caps:List Nat)(it:iW)(g:h4)(c:ej)(e:a_):a_:=λε=>(it ε).bind λts=>if ts.length<=big then (fm g c e ts (hn own caps ε)).map .list else none
def skip:bx:=λε=>some (.bg ε)
def seq(a b:bx):bx:=λε=>(a ε).bind λo=>match o with|.bg ε'=>b ε'|o=>some o
def asg(i:Nat)(f:a_):bx:=λε=>(f ε).map λt=>.bg (ε.set i (some (.ae t)))
def h8(i:Nat)(f:a_):bx:=λε=>(f ε).bind λt=>match t with|.list ts=>some (.bg (ε.set i (some (.own ts))))|_=>none
def kZ(g:h4)(f:a_):bx:=λε=>(f ε).bind λt=>(g t ε).map .bg
def bh(f:a_):bx:=λε=>(f ε).map .ee
def iff(c:ej)(a b:bx):bx:=λε=>(c ε).bind λx=>if x then a ε else b ε
def brk:bx:=λε=>some (.f7 ε)
noncomputable def forL(g:h4)(b:bx):List T->Ev->Option Out
| [],ε=>some (.bg ε)
|t::ts,ε=>(g t ε).bind λlK=>(b lK).bind λo=>match o with
  |.bg e4=>forL g b ts e4
  |.bJ e4=>forL g b ts e4
  |.f7 e4=>some (.bg e4)
  |.ee t=>some (.ee t)
  |.j6 t e4=>some (.j6 t e4)
  |.m4 s=>some (.m4 s)
def gR(it:iW)(g:h4)(b:bx):bx:=λε=>(it ε).bind λts=>forL g b ts ε
noncomputable def j'(c:ej)(b:bx):Nat->bx
|0,_=>none
|n+1,ε=>(c ε).bind λx=>if x then (b ε).bind λo=>(match o with
   |.bg e4=>j' c b n e4
   |.bJ e4=>j' c b n e4
   |.f7 e4=>some (.bg e4)
   |.ee t=>some (.ee t)
   |.j6 t e4=>some (.j6 t e4)
   |.m4 s=>some (.m4 s)) else some (.bg ε)
noncomputable def app(i:Nat)(f:a_):bx:=λε=>match ε[i]? with
|some (some (.own ts))=>(f ε).bind λt=>if ts.length<big then some (.bg (ε.set i (some (.own (ts++[t]))))) else none
|_=>none
noncomputable def ext(i:Nat)(f:a_):bx:=λε=>match ε[i]? with
|some (some (.own ts))=>(f ε).bind λt=>match t with
  |.list us=>if ts.length+us.length<=big then some (.bg (ε.set i (some (.own (ts++us))))) else none
  |_=>none
|_=>none
noncomputable def par(i j:Nat)(own:Bool)(f g:a_):bx:=λε=>(f ε).bind λt=>(g ε).bind λu=>if own then (match u with|.list us=>some (.bg ((ε.set i (some (.ae t))).set j (some (.own us))))|_=>none) else some (.bg ((ε.set i (some (.ae t))).set j (some (.ae u))))
noncomputable def bV(b:bx)(n:Nat)(as:List T):Option T:=(b ((as.map λt=>some (.ae t))++dT (n - as.length) none)).bind λo=>match o with
|.ee t=>some t
|.bg _=>some .none
|_=>none
end D
end
section
namespace D
open PySem PySem.Spec PyProof.Rows bB
section
mutual
noncomputable def Rep(K:a')(F:aq->Prop)(H:aF):T->V->Prop
|.none,v=>v=.eA
|.bool b,v=>v=.bw b
|.int i,v=>v=.int i
|.str x,v=>v=.str x
|.dict _,_=>False
|.tuple ts,v=>∃a vs,v=.ref a/\c8 K H a vs/\bl K F H ts vs
|.list ts,v=>∃a vs,v=.ref a/\F a/\f5 H a (.lst vs)/\bl K F H ts vs
noncomputable def bl(K:a')(F:aq->Prop)(H:aF):List T->List V->Prop
| [],vs=>vs=[]
|t::ts,vs=>∃v r,vs=v::r/\Rep K F H t v/\bl K F H ts r
end
section
variable {K:a'}{F aR:aq->Prop}{H ak:aF}
mutual
theorem Rep.keep(ah:∀b xs,c8 K H b xs->c8 K ak b xs)(ao:∀b xs,F b->f5 H b (.lst xs)->aR b/\f5 ak b (.lst xs)):∀{t:T} {v:V},Rep K F H t v->Rep K aR ak t v
|.none,v,h=>by simpa [Rep] using h
|.bool _,v,h=>by simpa [Rep] using h
|.dict _,v,h=>by simp[Rep] at h
|.int _,v,h=>by simpa [Rep] using h
|.str _,v,h=>by simpa [Rep] using h
|.tuple ts,v,h=>by
  simp only[Rep] at h ⊢;obtain⟨a,vs,e,q,r⟩:=h;exact⟨a,vs,e,ah _ _ q,bl.keep ah ao r⟩
|.list ts,v,h=>by
  simp only[Rep] at h ⊢;obtain⟨a,vs,e,f,q,r⟩:=h;exact⟨a,vs,e,(ao _ _ f q).1,(ao _ _ f q).2,bl.keep ah ao r⟩
theorem bl.keep(ah:∀b xs,c8 K H b xs->c8 K ak b xs)(ao:∀b xs,F b->f5 H b (.lst xs)->aR b/\f5 ak b (.lst xs)):∀{ts:List T} {vs:List V},bl K F H ts vs->bl K aR ak ts vs
| [],vs,h=>by simpa [bl] using h
|t::ts,vs,h=>by
  simp only[bl] at h ⊢;obtain⟨v,r,e,q,z⟩:=h;exact⟨v,r,e,Rep.keep ah ao q,bl.keep ah ao z⟩
end
def bl.nil:bl K F H [] []:=by simp[bl]
def bl.cons{t:T}{v:V}{ts:List T}{vs:List V}(h:Rep K F H t v)(r:bl K F H ts vs):bl K F H (t::ts) (v::vs):=by
 simp only[bl];exact⟨v,vs,rfl,h,r⟩
theorem bl.length:∀{ts:List T} {vs:List V},bl K F H ts vs->ts.length=vs.length
| [],vs,h=>by
  simp only[bl] at h;subst h;rfl
|t::ts,vs,h=>by
  simp only[bl] at h;obtain⟨v,r,e,q,z⟩:=h;subst e;simp[bl.length z]
theorem bl.get:∀{ts:List T} {vs:List V} {i:Nat} {t:T},bl K F H ts vs->ts[i]?=some t->∃v,vs[i]?=some v/\Rep K F H t v
| [],vs,i,t,h,e=>by simp at e
|x::ts,vs,0,t,h,e=>by
  simp only[bl] at h;obtain⟨v,r,rfl,q,z⟩:=h;simp at e;subst e;exact⟨v,rfl,q⟩
|x::ts,vs,i+1,t,h,e=>by
  simp only[bl] at h;obtain⟨v,r,rfl,q,z⟩:=h;obtain⟨u,ah,ao⟩:=bl.get (i:=i) (t:=t) z (by simpa using e);exact⟨u,by simpa using ah,ao⟩
theorem bl.append:∀{ts us:List T} {vs ws:List V},bl K F H ts vs->bl K F H us ws->bl K F H (ts++us) (vs++ws)
| [],us,vs,ws,h,r=>by
  simp only[bl] at h;subst h;exact r
|t::ts,us,vs,ws,h,r=>by
  simp only[bl] at h;obtain⟨v,z,rfl,q,y⟩:=h;exact bl.cons q (bl.append y r)
theorem bl.take:∀{ts:List T} {vs:List V} (n:Nat),bl K F H ts vs->bl K F H (ts.take n) (vs.take n)
| [],vs,n,h=>by
  simp only[bl] at h;subst h;simpa using bl.nil
|t::ts,vs,0,h=>by simpa using bl.nil
|t::ts,vs,n+1,h=>by
  simp only[bl] at h;obtain⟨v,z,rfl,q,y⟩:=h;simpa using bl.cons q (bl.take n y)
theorem bl.drop:∀{ts:List T} {vs:List V} (n:Nat),bl K F H ts vs->bl K F H (ts.drop n) (vs.drop n)
| [],vs,n,h=>by
  simp only[bl] at h;subst h;simpa using bl.nil
|t::ts,vs,0,h=>by simpa using h
|t::ts,vs,n+1,h=>by
  simp only[bl] at h;obtain⟨v,z,rfl,q,y⟩:=h;simpa using bl.drop n y
end
class cB where
 cO:List (aq×Str)
 fU:Nat->List Str
 EA:Nat->Option aq
noncomputable def zm(H:aF)(b:aq)(q:Str):Prop:=∃ps:Array av,H b=some (.hH ps)/\TriplesOk ps.toList/\∀pos cv,codeAmong pos ps.toList=some cv->∃c,cv=.ref c/\H c=some (.ext λh=>h.CodeRec (.ref c) q)
def lR [t:cB](H:aF):Prop:=∀p∈t.cO,zm H p.1 p.2
def zm.keep{H ak:aF}{b:aq}{q:Str}(h:zm H b q)(k1:∀a ps,H a=some (.hH ps)->ak a=some (.hH ps))(k2:∀a nF,H a=some (.ext nF)->ak a=some (.ext nF)):zm ak b q:=by
 obtain⟨ps,ah,ao,aY⟩:=h;refine⟨ps,k1 _ _ ah,ao,λpos cv e=>?_⟩;obtain⟨c,aE,aK⟩:=aY pos cv e;exact⟨c,aE,k2 _ _ aK⟩
variable [cB]
def nH(u:ey):Prop:=(∃xs,u=.lst xs)\/(∃xs,u=.ji xs)\/∃C iF a6,u=.ins C iF a6
def nH.cases{P:Prop}{u:ey}(h:nH u)(ah:∀xs,u=.lst xs->P)(ao:∀xs,u=.ji xs->P)(aY:∀C iF a6,u=.ins C iF a6->P):P:=by
 rcases h with ⟨xs,e⟩|⟨xs,e⟩|⟨C,iF,a6,e⟩
 ·exact ah xs e
 ·exact ao xs e
 ·exact aY C iF a6 e
def lR.Of{H:aF}(h:lR H){p:aq}{o:ey}(aC:∀u,H p=some u->nH u):lR (upd H p o):=λb ag=>
 (h b ag).keep (λa ps e=>by
  have nb:a≠p:=by
   rintro rfl;exact (aC _ e).cases (λ_ z=>by cases z) (λ_ z=>by cases z) (λ_ _ _ z=>by cases z)
  rw[cp nb];exact e) λa nF e=>by
  have nb:a≠p:=by
   rintro rfl;exact (aC _ e).cases (λ_ z=>by cases z) (λ_ z=>by cases z) (λ_ _ _ z=>by cases z)
  rw[cp nb];exact e
theorem lR.upd{H:aF}(h:lR H){p:aq}{o:ey}(aC:∀u,H p=some u->(∃xs,u=.lst xs)\/∃xs,u=.ji xs):lR (upd H p o):=h.Of λu e=>by
 rcases aC u e with z|z
 ·exact .inl z
 ·exact .inr (.inl z)
def lR.new{H:aF}(h:lR H){p:aq}{o:ey}(aC:H p=none):lR (bB.upd H p o):=h.upd λu e=>by rw[aC] at e;cases e
structure f3(F:aq->Prop)(H:aF):Prop where
 zA:∀a,F a->∃o,H a=some o
 m8:lR H
instance {F:aq->Prop}{H:aF}:CoeFun (f3 F H) λ_=>∀a,F a->∃o,H a=some o:=⟨f3.zA⟩
def iV(H ak:aF):Prop:=∀b o,H b=some o->ak b=some o\/∃ps abI,o=.hH ps/\ak b=some (.hH abI)
def iV.refl(H:aF):iV H H:=λ_ _ h=>.inl h
def iV.ne{H ak:aF}(s:iV H ak){b:aq}{o:ey}(e:H b=some o):∃u,ak b=some u:=by
 rcases s b o e with h|⟨_,_,_,h⟩
 ·exact⟨_,h⟩
 ·exact⟨_,h⟩
theorem iV.none{H ak:aF}(s:iV H ak){b:aq}(e:ak b=none):H b=none:=by
 cases z:H b with
|none=>rfl
|some o=>
  obtain⟨u,q⟩:=s.ne z;rw[e] at q;cases q
def iV.get{H ak:aF}(s:iV H ak){b:aq}{o:ey}(e:H b=some o)(n:∀ps,o≠.hH ps:=by intro _ z;cases z):ak b=some o:=by
 rcases s b o e with h|⟨_,_,z,_⟩
 ·exact h
 ·exact absurd z (n _)
def iV.trans{H H1 bo:aF}(a:iV H H1)(b:iV H1 bo):iV H bo:=λc o h=>by
 rcases a c o h with q|⟨ps,abJ,z,q⟩
 ·exact b c o q
 ·rcases b c _ q with bO|⟨_,abK,fb,bO⟩
  ·exact .inr ⟨ps,abJ,z,bO⟩
  ·exact .inr ⟨ps,abK,z,bO⟩
structure Ext(F:aq->Prop)(H:aF)(aR:aq->Prop)(ak:aF):Prop where
 same:iV H ak
 sub:∀a,F a->aR a
 new:∀a,aR a->F a\/H a=none
 cK:f3 aR ak
section
variable {K:a'}{F a5 dh:aq->Prop}{H H1 bo:aF}
theorem Ext.refl(d:f3 F H):Ext F H F H:=⟨iV.refl H,λ_ h=>h,λ_ h=>.inl h,d⟩
theorem Ext.trans(a:Ext F H a5 H1)(b:Ext a5 H1 dh bo):Ext F H dh bo:=
 ⟨a.same.trans b.same,λx h=>b.sub x (a.sub x h),λx h=>(b.new x h).elim (λz=>a.new x z) λz=>.inr (a.same.none z),b.cK⟩
def f5.same{a:aq}{u:ey}(s:iV H H1)(r:f5 H a u)(n:∀ps,u≠.hH ps:=by intro _ z;cases z):f5 H1 a u:=by
 rcases r with r|⟨o,r⟩
 ·exact .inl (s.get r n)
 ·exact .inr ⟨o,s.get r⟩
theorem c8.same{a:aq}{xs:List V}(s:iV H H1)(r:c8 K H a xs):c8 K H1 a xs:=by
 rcases r with r|r
 ·exact .inl (f5.same s r)
 ·exact .inr r
def Rep.ext{t:T}{v:V}(r:Rep K F H t v)(x:Ext F H a5 H1):Rep K a5 H1 t v:=r.keep (λ_ _ q=>c8.same x.same q) λb _ f q=>⟨x.sub b f,f5.same x.same q⟩
def bl.ext{t:List T}{v:List V}(r:bl K F H t v)(x:Ext F H a5 H1):bl K a5 H1 t v:=r.keep (λ_ _ q=>c8.same x.same q) λb _ f q=>⟨x.sub b f,f5.same x.same q⟩
def Ext.laid{p:aq}{o:ey}(d:f3 F H)(aC:H p=none):Ext F H F (upd H p o):=
 ⟨λb u q=>.inl (Au aC o b u q),λ_ h=>h,λ_ h=>.inl h,⟨λa h=>by
  obtain⟨u,e⟩:=d a h;exact⟨u,Au aC o a u e⟩,d.m8.new aC⟩⟩
where Au {H:aF} {p:aq} (h:H p=none) (o:ey):Ti H (upd H p o):=λb u q=>by rw[cp (gB q h)];exact q
def Ext.uI{p:aq}{o:ey}(d:f3 F H)(aC:H p=none):Ext F H (λa=>F a\/a=p) (upd H p o):=
 ⟨λb u q=>.inl (Ext.laid.Au aC o b u q),λ_ h=>.inl h,λa h=>by
  rcases h with h|rfl
  ·exact .inl h
  ·exact .inr aC,⟨λa h=>by
  rcases h with h|rfl
  ·obtain⟨u,e⟩:=d a h;exact⟨u,Ext.laid.Au aC o a u e⟩
  ·exact⟨o,ep⟩,d.m8.new aC⟩⟩
end
structure d9(K:a')(F:aq->Prop)(H:aF)(aR:aq->Prop)(ak:aF):Prop where
 tup:∀b xs,c8 K H b xs->c8 K ak b xs
 lst:∀b xs,F b->f5 H b (.lst xs)->aR b/\f5 ak b (.lst xs)
section
variable {K:a'}{F a5 dh:aq->Prop}{H H1 bo:aF}
def d9.refl:d9 K F H F H:=⟨λ_ _ h=>h,λ_ _ f h=>⟨f,h⟩⟩
def d9.trans(a:d9 K F H a5 H1)(b:d9 K a5 H1 dh bo):d9 K F H dh bo:=⟨λx xs h=>b.tup x xs (a.tup x xs h),λx xs f h=>b.lst x xs (a.lst x xs f h).1 (a.lst x xs f h).2⟩
def Ext.aQ(x:Ext F H a5 H1):d9 K F H a5 H1:=⟨λ_ _ q=>c8.same x.same q,λb _ f q=>⟨x.sub b f,f5.same x.same q⟩⟩
def Rep.aQ{t:T}{v:V}(r:Rep K F H t v)(x:d9 K F H a5 H1):Rep K a5 H1 t v:=r.keep x.tup x.lst
def bl.aQ{t:List T}{v:List V}(r:bl K F H t v)(x:d9 K F H a5 H1):bl K a5 H1 t v:=r.keep x.tup x.lst
end
def fS(K:a')(O F:aq->Prop)(H:aF)(t:T)(v:V):Prop:=
 Rep K F H t v\/∃ts a vs,t=.list ts/\v=.ref a/\H a=some (.lst vs)/\bl K F H ts vs
section
variable {K:a'}{O F a5:aq->Prop}{H H1:aF}{v:V}
theorem fS.ext{t:T}(r:fS K O F H t v)(x:Ext F H a5 H1):fS K O a5 H1 t v:=by
 rcases r with r|⟨ts,a,vs,aE,aK,gG,r⟩
 ·exact .inl (r.ext x)
 ·exact .inr ⟨ts,a,vs,aE,aK,x.same.get gG,r.ext x⟩
theorem fS.eA(r:fS K O F H .none v):v=.eA:=by
 rcases r with r|⟨ts,a,vs,aE,_⟩
 ·simpa [Rep] using r
 ·cases aE
theorem fS.bw{b:Bool}(r:fS K O F H (.bool b) v):v=.bw b:=by
 rcases r with r|⟨ts,a,vs,aE,_⟩
 ·simpa [Rep] using r
 ·cases aE
theorem fS.int{i:Int}(r:fS K O F H (.int i) v):v=.int i:=by
 rcases r with r|⟨ts,a,vs,aE,_⟩
 ·simpa [Rep] using r
 ·cases aE
theorem fS.str{x:Str}(r:fS K O F H (.str x) v):v=.str x:=by
 rcases r with r|⟨ts,a,vs,aE,_⟩
 ·simpa [Rep] using r
 ·cases aE
def fS.tup{ts:List T}(r:fS K O F H (.tuple ts) v):∃a vs,v=.ref a/\c8 K H a vs/\bl K F H ts vs:=by
 rcases r with r|⟨ts,a,vs,aE,_⟩
 ·simpa [Rep] using r
 ·cases aE
theorem fS.lst{ts:List T}(r:fS K O F H (.list ts) v):∃a vs,v=.ref a/\f5 H a (.lst vs)/\bl K F H ts vs:=by
 rcases r with r|⟨us,a,vs,aE,aK,gG,r⟩
 ·simp only[Rep] at r;obtain⟨a,vs,e,_,q,z⟩:=r;exact⟨a,vs,e,q,z⟩
 ·cases aE
  exact⟨a,vs,aK,.inl gG,r⟩
end
def o2(K:a')(F:aq->Prop)(H:aF):List (D.Key×T)->List (D.Key×V)->Prop
| [],vs=>vs=[]
|p::ts,vs=>∃v r,vs=(p.1,v)::r/\Rep K F H p.2 v/\o2 K F H ts r
theorem o2.aQ{K:a'}{F aR:aq->Prop}{H ak:aF}(x:d9 K F H aR ak):∀{ts:List (D.Key×T)} {vs:List (D.Key×V)},o2 K F H ts vs->o2 K aR ak ts vs
| [],vs,h=>h
|p::ts,vs,h=>by
  obtain⟨v,r,e,q,z⟩:=h;exact⟨v,r,e,q.aQ x,o2.aQ x z⟩
structure iC where
 h:aF
 Ae:aq
def ll:V->List aq
|.ref a=>[a]
|_=>[]
def qG:bQ->V->List aq
|.ae _,_=>[]
|_,v=>ll v
def lb:List bQ->List V->List aq
|s::ss,v::vs=>qG s v++lb ss vs
|_,_=>[]
def B0(H:aF):V->List V
|.ref a=>(match H a with
  |some (.ins _ _ dc)=>dc.map (·.2)
  |some (.ji dc)=>dc.map (·.2)
  |_=>[])
|_=>[]
def eu(H:aF):bQ->V->List aq
|.ae _,_=>[]
|.own _,v=>ll v
|.iE _,v=>ll v
|.obj _ _ a6,v=>ll v++lb a6 (B0 H v)
noncomputable def oN(H:aF)(a:aq)(c:Nat)(vs:List V):Prop:=vs.length<=(cB.fU c).length/\match cB.EA c with
|some C=>∃iF,H a=some (.ins C iF ((cB.fU c).zip vs))
|none=>H a=some (.ji (((cB.fU c).zip vs).map λp=>(.inr p.1,p.2)))
noncomputable def amh(K:a')(F:aq->Prop)(H:aF):bQ->V->Prop
|.ae t,v=>Rep K F H t v
|.own ts,v=>∃b us,v=.ref b/\H b=some (.lst us)/\bl K F H ts us
|.iE dc,v=>∃b us,v=.ref b/\H b=some (.ji us)/\o2 K F H dc us
|.obj _ _ _,_=>False
def o1(K:a')(F:aq->Prop)(H:aF):List bQ->List V->Prop
| [],vs=>vs=[]
|s::ss,vs=>∃v r,vs=v::r/\amh K F H s v/\o1 K F H ss r
def Tf(E:iC)(O F:aq->Prop)(m:wd)(b:aq):Prop:=¬F b/\match m with
|.al0=>E.h b≠none
|_=>O b
noncomputable def fQ(K:a')(E:iC)(O F:aq->Prop)(H:aF):bQ->V->Prop
|.ae t,v=>Rep K F H t v
|.own ts,v=>∃a vs,v=.ref a/\¬F a/\O a/\H a=some (.lst vs)/\bl K F H ts vs
|.iE dc,v=>∃a vs,v=.ref a/\¬F a/\O a/\H a=some (.ji vs)/\o2 K F H dc vs
|.obj m c a6,v=>∃a vs,v=.ref a/\oN H a c vs/\o1 K F H a6 vs/\(a::lb a6 vs).Nodup/\(∀b∈a::lb a6 vs,Tf E O F m b)/\(m=.uJ->a=E.Ae)
def bQ.lh:bQ->Bool
|.ae _=>false
|.obj .al0 _ _=>false
|_=>true
section
variable {K:a'}{F aR O ze:aq->Prop}{H ak:aF}{E:iC}
theorem JK{α β:Type}:∀{xs:List α} {ys:List β},ys.length<=xs.length->(xs.zip ys).map (·.2)=ys
|xs,[],_=>by simp
| [],y::ys,h=>by simp at h
|x::xs,y::ys,h=>by simp[JK (xs:=xs) (ys:=ys) (by simpa using h)]
def oN.vals{a:aq}{c:Nat}{vs:List V}(h:oN H a c vs):B0 H (.ref a)=vs:=by
 obtain⟨aH,h⟩:=h;unfold B0;split at h
 ·obtain⟨iF,e⟩:=h;simp only[e];exact JK aH
 ·simp only[h,dW];exact JK aH
def oN.mem{a:aq}{c:Nat}{vs:List V}(h:oN H a c vs):∃o,H a=some o/\nH o:=by
 obtain⟨aH,h⟩:=h;split at h
 ·obtain⟨iF,e⟩:=h;exact⟨_,e,.inr (.inr ⟨_,_,_,rfl⟩)⟩
 ·exact⟨_,h,.inr (.inl ⟨_,rfl⟩)⟩
def oN.keep{a:aq}{c:Nat}{vs:List V}(h:oN H a c vs)(e:ak a=H a):oN ak a c vs:=by
 obtain⟨aH,h⟩:=h;refine⟨aH,?_⟩;rw[e];exact h
def vJ{v:V}{b:aq}(h:b∈ll v):v=.ref b:=by
 unfold ll at h;split at h
 ·simp at h;rw[h]
 ·simp at h
theorem amh.at{s:bQ}{v:V}{b:aq}(r:amh K F H s v)(h:b∈qG s v):∃o,H b=some o/\nH o:=by
 cases s with
|ae t=>simp[qG] at h
|own ts=>
  obtain⟨f6,us,e,e1,_⟩:=r;have:=vJ h;rw[e] at this;cases this;exact⟨_,e1,.inl ⟨_,rfl⟩⟩
|iE ts=>
  obtain⟨f6,us,e,e1,_⟩:=r;have:=vJ h;rw[e] at this;cases this;exact⟨_,e1,.inr (.inl ⟨_,rfl⟩)⟩
|obj m c a6=>exact r.elim
theorem o1.at:∀{a6:List bQ} {vs:List V} {b:aq},o1 K F H a6 vs->b∈lb a6 vs->∃o,H b=some o/\nH o
| [],vs,b,r,h=>by simp[lb] at h
|s::ss,vs,b,r,h=>by
  obtain⟨v,z,rfl,bj,cF⟩:=r;rw[show lb (s::ss) (v::z)=qG s v++lb ss z from rfl] at h;rcases gz.mp h with h|h
  ·exact bj.at h
  ·exact o1.at cF h
def vz{m:wd}{c:Nat}{a6:List bQ}{a:aq}{vs:List V}(h:oN H a c vs):eu H (.obj m c a6) (.ref a)=a::lb a6 vs:=by
 show ll (.ref a)++lb a6 (B0 H (.ref a))=_
 rw[h.vals];rfl
theorem fQ.at{s:bQ}{v:V}{b:aq}(r:fQ K E O F H s v)(h:b∈eu H s v):∃o,H b=some o/\nH o:=by
 cases s with
|ae t=>simp[eu] at h
|own ts=>
  obtain⟨f6,us,e,_,_,e1,_⟩:=r;have:=vJ h;rw[e] at this;cases this;exact⟨_,e1,.inl ⟨_,rfl⟩⟩
|iE ts=>
  obtain⟨f6,us,e,_,_,e1,_⟩:=r;have:=vJ h;rw[e] at this;cases this;exact⟨_,e1,.inr (.inl ⟨_,rfl⟩)⟩
|obj m c a6=>
  obtain⟨a,vs,rfl,aA,hf,_⟩:=r;rw[vz aA] at h;rcases bC.mp h with rfl|h
  ·exact aA.mem
  ·exact hf.at h
def fQ.held{s:bQ}{v:V}{b:aq}(r:fQ K E O F H s v)(h:b∈eu H s v):¬F b/\(s.lh=true->O b)/\(s.lh=false->E.h b≠none):=by
 cases s with
|ae t=>simp[eu] at h
|own ts=>
  obtain⟨f6,us,e,n,o,e1,_⟩:=r;have:=vJ h;rw[e] at this;cases this;exact⟨n,λ_=>o,λz=>by cases z⟩
|iE ts=>
  obtain⟨f6,us,e,n,o,e1,_⟩:=r;have:=vJ h;rw[e] at this;cases this;exact⟨n,λ_=>o,λz=>by cases z⟩
|obj m c a6=>
  obtain⟨a,vs,rfl,aA,hf,bb,jw,_⟩:=r;rw[vz aA] at h;obtain⟨n,q⟩:=jw b h;refine⟨n,λz=>?_,λz=>?_⟩
  ·cases m with
   |al0=>cases z
   |own=>exact q
   |uJ=>exact q
  ·cases m with
   |al0=>exact q
   |own=>cases z
   |uJ=>cases z
def amh.keep{s:bQ}{v:V}(r:amh K F H s v)(aQ:d9 K F H aR ak)(c4:∀b∈qG s v,ak b=H b):amh K aR ak s v:=by
 cases s with
|ae t=>exact Rep.aQ r aQ
|own ts=>
  obtain⟨b,us,rfl,e1,z⟩:=r;exact⟨b,us,rfl,by rw[c4 b (by simp[qG,ll])];exact e1,z.aQ aQ⟩
|iE ts=>
  obtain⟨b,us,rfl,e1,z⟩:=r;exact⟨b,us,rfl,by rw[c4 b (by simp[qG,ll])];exact e1,o2.aQ aQ z⟩
|obj m c a6=>exact r.elim
theorem o1.keep:∀{a6:List bQ} {vs:List V},o1 K F H a6 vs->d9 K F H aR ak->(∀b∈lb a6 vs,ak b=H b)->o1 K aR ak a6 vs
| [],vs,r,_,_=>r
|s::ss,vs,r,aQ,c4=>by
  obtain⟨v,z,rfl,bj,cF⟩:=r;rw[show lb (s::ss) (v::z)=qG s v++lb ss z from rfl] at c4;exact⟨v,z,rfl,bj.keep aQ λb h=>c4 b (gz.mpr (.inl h)),o1.keep cF aQ λb h=>c4 b (gz.mpr (.inr h))⟩
theorem fQ.keep{s:bQ}{v:V}(r:fQ K E O F H s v)(aQ:d9 K F H aR ak)(c4:∀b∈eu H s v,ak b=H b)(hf:∀b∈eu H s v,aR b->F b)(aT:∀b∈eu H s v,O b->ze b):
  fQ K E ze aR ak s v/\eu ak s v=eu H s v:=by
 cases s with
|ae t=>exact⟨Rep.aQ r aQ,rfl⟩
|own ts=>
  obtain⟨a,vs,rfl,n,o,e1,z⟩:=r;have m:a∈eu H (.own ts) (.ref a):=by simp[eu,ll]
  exact⟨⟨a,vs,rfl,λf=>n (hf a m f),aT a m o,by rw[c4 a m];exact e1,z.aQ aQ⟩,rfl⟩
|iE ts=>
  obtain⟨a,vs,rfl,n,o,e1,z⟩:=r;have m:a∈eu H (.iE ts) (.ref a):=by simp[eu,ll]
  exact⟨⟨a,vs,rfl,λf=>n (hf a m f),aT a m o,by rw[c4 a m];exact e1,o2.aQ aQ z⟩,rfl⟩
|obj m c a6=>
  obtain⟨a,vs,rfl,aA,ax,bb,jw,Ae⟩:=r;rw[vz aA] at c4 hf aT;have ME:oN ak a c vs:=aA.keep (c4 a (by simp));refine⟨⟨a,vs,rfl,ME,ax.keep aQ λb h=>c4 b (ew _ h),bb,λb h=>?_,Ae⟩,by rw[vz aA,vz ME]⟩;obtain⟨n,q⟩:=jw b h;refine⟨λf=>n (hf b h f),?_⟩;cases m with
  |al0=>exact q
  |own=>exact aT b h q
  |uJ=>exact aT b h q
def fQ.zK{s:bQ}{v:V}(r:fQ K E O F H s v)(x:Ext F H aR ak):fQ K E O aR ak s v/\eu ak s v=eu H s v:=
 r.keep x.aQ (λb h=>by
  obtain⟨o,e,m⟩:=r.at h;rw[e];exact x.same.get e λps z=>by subst z;exact m.cases (λ_ z=>by cases z) (λ_ z=>by cases z) (λ_ _ _ z=>by cases z)) (λb h f=>by
  rcases x.new b f with z|z
  ·exact z
  ·obtain⟨o,e,_⟩:=r.at h;rw[z] at e;cases e) λ_ _ o=>o
def fQ.ext{s:bQ}{v:V}(r:fQ K E O F H s v)(x:Ext F H aR ak):fQ K E O aR ak s v:=(r.zK x).1
end
structure cZ(K:a')(aM:aq->Prop)(E:iC)(O F:aq->Prop)(H:aF)(ε:Ev)(σ:bB.St):Prop where
 len:ε.length=σ.length
 val:∀(i:Nat) (s:bQ),ε[i]?=some (some s)->∃v,σ[i]?=some (some v)/\fQ K E O F H s v
 ne:∀(i j:Nat) (s u:bQ) (v w:V),i≠j->ε[i]?=some (some s)->ε[j]?=some (some u)->s.lh=true->u.lh=true->σ[i]?=some (some v)->σ[j]?=some (some w)->∀a∈eu H s v,a∉eu H u w
 ent:Ext aM E.h F H
 o0:∀a,O a->E.h a=none
 fr:∀a,H a=none->O a
section
variable {K:a'}{aM O F a5:aq->Prop}{E:iC}{H H1:aF}{ε:Ev}{σ:bB.St}
theorem cZ.cK(r:cZ K aM E O F H ε σ):f3 F H:=r.ent.cK
theorem cZ.ext(r:cZ K aM E O F H ε σ)(x:Ext F H a5 H1):cZ K aM E O a5 H1 ε σ:=
 ⟨r.len,λi s e=>by
  obtain⟨v,ah,ao⟩:=r.val i s e;exact⟨v,ah,ao.ext x⟩,λi j s u v w qK aE aK d1 eB ah ao=>by
  obtain⟨lu,f',bj⟩:=r.val i s aE;obtain⟨gM,gb,cF⟩:=r.val j u aK;rw[ah] at f';rw[ao] at gb;cases f';cases gb;rw[(bj.zK x).2,(cF.zK x).2];exact r.ne i j s u v w qK aE aK d1 eB ah ao,r.ent.trans x,r.o0,λa e=>r.fr a (x.same.none e)⟩
def get_set{α:Type}{l:List (Option α)}{i j:Nat}{x:Option α}{y:α}(h:(l.set i x)[j]?=some (some y)):(i=j/\x=some y/\j<l.length)\/(i≠j/\l[j]?=some (some y)):=by
 rw[List.getElem?_set] at h;by_cases e:i=j
 ·subst e;rw[if_pos rfl] at h;split at h
  next aH=>exact .inl ⟨rfl,iN h,aH⟩
  next=>cases h
 ·rw[if_neg e] at h;exact .inr ⟨e,h⟩
def JQ{α:Type}{l:List (Option α)}{i:Nat}{x:Option α}(h:i<l.length):(l.set i x)[i]?=some x:=by
 rw[List.getElem?_set,if_pos rfl,if_pos h]
def Bp{α:Type}{l:List (Option α)}{i j:Nat}{x:Option α}(h:i≠j):(l.set i x)[j]?=l[j]?:=by
 rw[List.getElem?_set,if_neg h]
def cZ.setG{s:bQ}{v:V}(r:cZ K aM E O F H ε σ)(i:Nat)(h:fQ K E O F H s v)(fr:s.lh=true->∀(j:Nat) (u:bQ) (w:V),i≠j->ε[j]?=some (some u)->u.lh=true->σ[j]?=some (some w)->∀a∈eu H s v,a∉eu H u w):
  cZ K aM E O F H (ε.set i (some s)) (σ.set i (some v)):=by
 refine⟨by simp[r.len],λj u e=>?_,λj k u w e_ ma sa aE aK d1 eB ah ao=>?_,r.ent,r.o0,r.fr⟩
 ·rcases get_set e with ⟨rfl,bu,aH⟩|⟨ne,bu⟩
  ·cases bu
   exact⟨_,JQ (by rw[<- r.len];exact aH),h⟩
  ·obtain⟨w,ah,ao⟩:=r.val j u bu;exact⟨w,by rw[Bp ne];exact ah,ao⟩
 ·rcases get_set aE with ⟨rfl,bu,aH⟩|⟨ne1,k7⟩
  ·rcases get_set aK with ⟨rfl,_,_⟩|⟨ne2,h_⟩
   ·exact absurd rfl sa
   ·rw[JQ (by rw[<- r.len];exact aH)] at ah;rw[Bp ne2] at ao;cases ah;cases bu;exact fr d1 k w ma ne2 h_ eB ao
  ·rw[Bp ne1] at ah;rcases get_set aK with ⟨rfl,bu,aH⟩|⟨ne2,h_⟩
   ·rw[JQ (by rw[<- r.len];exact aH)] at ao;cases ao;cases bu;intro a aA ag;exact fr eB j u e_ ne1 k7 d1 ah a ag aA
   ·rw[Bp ne2] at ao;exact r.ne j k u w e_ ma sa k7 h_ d1 eB ah ao
theorem cZ.set{t:T}{v:V}(r:cZ K aM E O F H ε σ)(i:Nat)(h:Rep K F H t v):cZ K aM E O F H (ε.set i (some (.ae t))) (σ.set i (some v)):=r.setG (s:=.ae t) i h λz=>by cases z
def cZ.ab9{s:bQ}{v:V}(r:cZ K aM E O F H ε σ)(i:Nat)(x:Ext F H a5 H1)(h:fQ K E O a5 H1 s v)(bf:∀a∈eu H1 s v,H a=none):cZ K aM E O a5 H1 (ε.set i (some s)) (σ.set i (some v)):=
 (r.ext x).setG i h λ_ j u w _ r2 _ cS a aA ag=>by
  obtain⟨gM,ah,ao⟩:=r.val j u r2;rw[cS] at ah;cases ah;rw[(ao.zK x).2] at ag;obtain⟨o,e,_⟩:=ao.at ag;rw[bf a aA] at e;cases e
def QB{x:aq}{o o':ey}(bf:¬F x)(hx:H x=some o)(hm:nH o):d9 K F H F (upd H x o'):=by
 refine⟨λb xs q=>?_,λb xs f q=>⟨f,?_⟩⟩
 ·rcases q with q|q
  ·refine .inl ?_
   have nb:b≠x:=by
    rintro rfl;rcases q with q|⟨_,q⟩ <;> (rw[hx] at q;cases q;exact hm.cases (λ_ z=>by cases z) (λ_ z=>by cases z) (λ_ _ _ z=>by cases z))
   rcases q with q|⟨u,q⟩
   ·exact .inl (by rw[cp nb];exact q)
   ·exact .inr ⟨u,by rw[cp nb];exact q⟩
  ·exact .inr q
 ·have nb:b≠x:=by
   rintro rfl;exact bf f
  rcases q with q|⟨u,q⟩
  ·exact .inl (by rw[cp nb];exact q)
  ·exact .inr ⟨u,by rw[cp nb];exact q⟩
def Qk{x:aq}{o o':ey}{h0:aF}(e:Ext aM h0 F H)(WR:h0 x=none)(bf:¬F x)(hx:H x=some o)(hm:nH o):Ext aM h0 F (upd H x o'):=by
 refine⟨λb u q=>?_,e.sub,e.new,⟨λb f=>?_,e.cK.m8.Of λu z=>by rw[hx] at z;cases z;exact hm⟩⟩
 ·have nb:b≠x:=by
   rintro rfl;rw[WR] at q;cases q
  rw[cp nb];exact e.same b u q
 ·have nb:b≠x:=by
   rintro rfl;exact bf f
  rw[cp nb];exact e.cK b f
def cZ.Zw{s s':bQ}{v:V}{x:aq}{o':ey}(r:cZ K aM E O F H ε σ){i:Nat}(e:ε[i]?=some (some s))(aT:s.lh=true)(ba:σ[i]?=some (some v))(hx:x∈eu H s v)
  (h:d9 K F H F (upd H x o')->fQ K E O F (upd H x o') s' v)
  (aC:∀b∈eu (upd H x o') s' v,b∈eu H s v\/∀(j:Nat) (u:bQ) (w:V),i≠j->ε[j]?=some (some u)->u.lh=true->σ[j]?=some (some w)->b∉eu H u w):
  d9 K F H F (upd H x o')/\cZ K aM E O F (upd H x o') (ε.set i (some s')) σ:=by
 obtain⟨lu,sj,rs⟩:=r.val i s e;rw[ba] at sj;cases sj;obtain⟨o,k_,hm⟩:=rs.at hx;obtain⟨H6,kx,_⟩:=rs.held hx;have W7:=kx aT;have aQ:d9 K F H F (upd H x o'):=QB H6 k_ hm;have h0:=r.o0 x W7;have keep:∀(j:Nat) (u:bQ) (w:V),i≠j->ε[j]?=some (some u)->σ[j]?=some (some w)->fQ K E O F H u w->fQ K E O F (upd H x o') u w/\eu (upd H x o') u w=eu H u w:=by
  intro j u w qK r2 cS e3;refine e3.keep aQ (λb ag=>cp ?_) (λ_ _ f=>f) λ_ _ o=>o;rintro rfl;cases al5:u.lh with
  |true=>exact r.ne i j s u v w qK e r2 aT al5 ba cS b hx ag
  |false=>exact (e3.held ag).2.2 al5 h0
 refine⟨aQ,⟨by simp[r.len],λj u bu=>?_,λj k u w e_ ma sa aE aK d1 eB ah ao=>?_,Qk r.ent h0 H6 k_ hm,r.o0,λb bu=>r.fr b ?_⟩⟩
 ·rcases get_set bu with ⟨rfl,zC,aH⟩|⟨ne,zC⟩
  ·cases zC
   exact⟨_,ba,h aQ⟩
  ·obtain⟨w,ah,ao⟩:=r.val j u zC;exact⟨w,ah,(keep j u w ne zC ah ao).1⟩
 ·rcases get_set aE with ⟨rfl,bu,aH⟩|⟨ne1,k7⟩
  ·rcases get_set aK with ⟨rfl,_,_⟩|⟨ne2,h_⟩
   ·exact absurd rfl sa
   ·cases bu
    rw[ba] at ah;cases ah;obtain⟨gM,gb,cF⟩:=r.val k w h_;rw[ao] at gb;cases gb;rw[(keep k w ma ne2 h_ ao cF).2];intro a aA ag;rcases aC a aA with z|z
    ·exact r.ne i k s w v ma ne2 e h_ aT eB ba ao a z ag
    ·exact z k w ma ne2 h_ eB ao ag
  ·obtain⟨v1,f',bj⟩:=r.val j u k7;rw[ah] at f';cases f';rw[(keep j u e_ ne1 k7 ah bj).2];rcases get_set aK with ⟨rfl,bu,aH⟩|⟨ne2,h_⟩
   ·cases bu
    rw[ba] at ao;cases ao;intro a aA ag;rcases aC a ag with z|z
    ·exact r.ne i j s u v e_ ne1 e k7 aT d1 ba ah a z aA
    ·exact z j u e_ ne1 k7 d1 ah aA
   ·obtain⟨gM,gb,cF⟩:=r.val k w h_;rw[ao] at gb;cases gb;rw[(keep k w ma ne2 h_ ao cF).2];exact r.ne j k u w e_ ma sa k7 h_ d1 eB ah ao
 ·by_cases nb:b=x
  ·subst nb;rw[ep] at bu;cases bu
  ·rwa [cp nb] at bu
def cZ.mut{s s':bQ}{a:aq}{o o':ey}(r:cZ K aM E O F H ε σ){i:Nat}(e:ε[i]?=some (some s))(aT:s.lh=true)(ba:σ[i]?=some (some (.ref a)))(bf:¬F a)(e8:O a)(aA:H a=some o)
  (a0:(∃xs,o=.lst xs)\/∃xs,o=.ji xs) (h:d9 K F H F (upd H a o')->fQ K E O F (upd H a o') s' (.ref a)) (f1:∀H:aF,eu H s (.ref a)=[a]:=by intro _;rfl) (f2:∀H:aF,eu H s' (.ref a)=[a]:=by intro _;rfl):
  d9 K F H F (upd H a o')/\cZ K aM E O F (upd H a o') (ε.set i (some s')) σ:=
 r.Zw e aT ba (by rw[f1];simp) h λb ag=>by
  rw[f2] at ag;rw[f1];exact .inl ag
end
def q3(K:a')(f:a_):TE:=λσ H Q=>∃aM aO O F ε t,cZ K aM aO O F H ε σ/\f ε=some t/\∀v aR ak,Ext F H aR ak->fS K O aR ak t v->Q v ak
def sS(K:a')(f:a_):TE:=λσ H Q=>∃aM aO O F ε t,cZ K aM aO O F H ε σ/\f ε=some t/\∀v aR ak,Ext F H aR ak->Rep K aR ak t v->Q v ak
noncomputable def tN(K:a')(f:a_):TE:=λσ H Q=>∃aM aO O F ε ts,cZ K aM aO O F H ε σ/\f ε=some (.list ts)/\∀a vs aR ak,Ext F H aR ak->H a=none->¬aR a->ak a=some (.lst vs)->bl K aR ak ts vs->Q (.ref a) ak
def AI(K:a')(f:ej):TT:=λσ H Q=>∃aM aO O F ε b,cZ K aM aO O F H ε σ/\f ε=some b/\∀aR ak,Ext F H aR ak->Q b ak
def N6(K:a')(a6:List a_):fT:=λσ H Q=>∃aM aO O F ε ts,cZ K aM aO O F H ε σ/\args a6 ε=some ts/\∀vs aR ak,Ext F H aR ak->Paired (fS K O aR ak) ts vs->Q vs ak
def ac7(K:a')(a6:List a_):fT:=λσ H Q=>∃aM aO O F ε ts,cZ K aM aO O F H ε σ/\args a6 ε=some ts/\∀vs aR ak,Ext F H aR ak->bl K aR ak ts vs->Q vs ak
abbrev dP(X:aV)(e:bk)(f:a_):Prop:=b3 X e (q3 X.K f)
abbrev cq(X:aV)(e:bk)(f:a_):Prop:=b3 X e (sS X.K f)
abbrev zi(X:aV)(e:bk)(f:a_):Prop:=b3 X e (tN X.K f)
abbrev iY(X:aV)(e:bk)(f:ej):Prop:=hq X e (AI X.K f)
abbrev rS(X:aV)(e:bk)(f:ej):Prop:=mA X e (AI X.K f)
abbrev nK(X:aV)(ar:List bk)(a6:List a_):Prop:=gm X ar (N6 X.K a6)
abbrev qs(X:aV)(ar:List bk)(a6:List a_):Prop:=gm X ar (ac7 X.K a6)
def ec{X:aV}{e:bk}{t t':TE}(h:b3 X e t)(k:∀σ H Q,t' σ H Q->t σ H Q):b3 X e t':=λai s σ H Q I q=>h ai s σ H Q I (k σ H Q q)
def vQ{X:aV}{e:bk}{t t':TT}(h:hq X e t)(k:∀σ H Q,t' σ H Q->t σ H Q):hq X e t':=λai s σ H Q I q=>h ai s σ H Q I (k σ H Q q)
def Rf{X:aV}{e:bk}{t t':TT}(h:mA X e t)(k:∀σ H Q,t' σ H Q->t σ H Q):mA X e t':=λw ai s σ H Q I q=>h w ai s σ H Q I (k σ H Q q)
def yR{X:aV}{e:List bk}{t t':fT}(h:gm X e t)(k:∀σ H Q,t' σ H Q->t σ H Q):gm X e t':=λpos ai s σ H Q I q=>h pos ai s σ H Q I (k σ H Q q)
def ql{X:aV}{e:Stmt}{t t':fE}(h:iD X e t)(k:∀D σ H,t' D σ H->t D σ H):iD X e t':=λai s σ H D I q=>h ai s σ H D I (k D σ H q)
def vC{X:aV}{e:List Stmt}{t t':fE}(h:fh X e t)(k:∀D σ H,t' D σ H->t D σ H):fh X e t':=λai s σ H D I q=>h ai s σ H D I (k D σ H q)
section
variable {X:aV}{e:bk}{f:a_}
def aj(h:cq X e f):dP X e f:=ec h λσ H Q ⟨aM,aO,O,F,ε,t,r,e,k⟩=>⟨aM,aO,O,F,ε,t,r,e,λv aR ak x q=>k v aR ak x (.inl q)⟩
def Nq(h:zi X e f)(hf:∀ε t,f ε=some t->∃ts,t=.list ts):cq X e f:=ec h λσ H Q ⟨aM,aO,O,F,ε,t,r,e,k⟩=>by
 obtain⟨ts,rfl⟩:=hf _ _ e;refine⟨aM,aO,O,F,ε,ts,r,e,λa vs aR ak x bf ju aA q=>?_⟩;have y:Ext F H (λb=>aR b\/b=a) ak:=⟨x.same,λb z=>.inl (x.sub b z),λb z=>by
  rcases z with z|rfl
  ·exact x.new b z
  ·exact .inr bf,⟨λb z=>by
  rcases z with z|rfl
  ·exact x.cK b z
  ·exact⟨_,aA⟩,x.cK.m8⟩⟩
 refine k (.ref a) _ ak y ?_
 simp only[Rep];exact⟨a,vs,rfl,.inr rfl,.inl aA,q.keep (λ_ _ z=>z) λb _ z w=>⟨.inl z,w⟩⟩
end
end
section
variable [cB]
section
variable {X:aV}{a b c e:bk}{f g h:a_}{pos:Pos}
def vT{t:T}{v:V}(he:b3 X e (hF v))(ax:∀F H,Rep X.K F H t v):cq X e (aa t):=ec he λσ H Q ⟨aM,aO,O,F,ε,t',r,e,k⟩=>by
 cases e
 exact k v F H (Ext.refl r.cK) (ax _ _)
def aG{i j}:cq X (.Constant (.int i) j pos) (aa (.int i)):=vT B8 λ_ _=>by simp[Rep]
def j2{i j}:cq X (.Constant (.bool i) j pos) (aa (.bool i)):=vT KP λ_ _=>by simp[Rep]
def bA{i j}:cq X (.Constant (.str i) j pos) (aa (.str i)):=vT yI λ_ _=>by simp[Rep]
def tU{j}:cq X (.Constant .none j pos) (aa .none):=vT ajM λ_ _=>by simp[Rep]
def aL(i:Nat){x:Str}(dA:X.N[i]?=some x:=by rfl)(ba:nP X.env.scope x:=by first|exact Or.inl rfl|exact Or.inr (Or.inl rfl)|exact Or.inr (Or.inr rfl))(hd:(x==("__debug__":Str))=false:=by decide)
  (eT:(x==("__classdict__":Str))=false:=by decide):dP X (.Name x pos) (nm i):=ec (j1 i dA ba hd eT) λσ H Q ⟨aM,aO,O,F,ε,t,r,e,k⟩=>by
 unfold nm at e;split at e
 next t' he=>
  cases e
  obtain⟨v,ah,ao⟩:=r.val _ _ he;exact⟨v,ah,k v F H (Ext.refl r.cK) (.inl ao)⟩
 next ts he=>
  cases e
  obtain⟨v,ah,a,vs,rfl,n,h0,c4,ax⟩:=r.val _ _ he;exact⟨_,ah,k _ F H (Ext.refl r.cK) (.inr ⟨ts,a,vs,rfl,rfl,c4,ax⟩)⟩
 next=>cases e
def bc(i:Nat){x:Str}(dA:X.N[i]?=some x:=by rfl)(ba:nP X.env.scope x:=by first|exact Or.inl rfl|exact Or.inr (Or.inl rfl)|exact Or.inr (Or.inr rfl))(hd:(x==("__debug__":Str))=false:=by decide)
  (eT:(x==("__classdict__":Str))=false:=by decide):cq X (.Name x pos) (az i):=ec (j1 i dA ba hd eT) λσ H Q ⟨aM,aO,O,F,ε,t,r,e,k⟩=>by
 unfold az at e;split at e
 next t' he=>
  cases e
  obtain⟨v,ah,ao⟩:=r.val _ _ he;exact⟨v,ah,k v F H (Ext.refl r.cK) ao⟩
 next=>cases e
noncomputable def nJ(K:a')(o:T->T->Option T)(R:fD):Prop:=
 ∀(O F:aq->Prop) (H:aF) (x y t:T) (fX fy:V) (Q:di),f3 F H->fS K O F H x fX->fS K O F H y fy->o x y=some t ->
  (∀v aR ak,Ext F H aR ak->Rep K aR ak t v->Q v ak)->R fX fy H Q
def nv{o:T->T->Option T}{R:fD}(h:nJ X.K o R):∀σ H Q,sS X.K (af o f g) σ H Q->uT R (q3 X.K f) (q3 X.K g) σ H Q:=by
 rintro σ H Q ⟨aM,aO,O,F,ε,t,r,e,k⟩;simp only[af,cW] at e;obtain⟨x,ex,y,fV,k_⟩:=e;refine⟨aM,aO,O,F,ε,x,r,ex,λfX a5 H1 aW aS=>⟨aM,aO,O,a5,ε,y,r.ext aW,fV,λfy dh bo bF bt=>?_⟩⟩;exact h O dh bo x y t fX fy Q bF.cK (aS.ext bF) bt k_ λv aR ak e' dR=>k v aR ak ((aW.trans bF).trans e') dR
def Inv.uN{ai:List (aq×Obj)}{σ:bB.St}{H:aF}{s:aP}{l:aq}{xs:List V}(I:Inv X ai σ H s)(fH:f5 H l (.lst xs)):
  xs.length<=b'/\∃(its:List av) (n:Nat),Vals xs its/\xs.length=its.length/\s.heap.get? l=some {cls:=.type "list",data:=.seq its.toArray n}:=by
 obtain⟨z,its,n,r,e⟩:=fH.ok I.bW;exact⟨z,its,n,r,r.length,e⟩
noncomputable def akC:fD:=λx y H Q=>∃l b xs zs,x=.ref l/\y=.ref b/\f5 H l (.lst xs)/\f5 H b (.lst zs)/\xs.length+zs.length<=b'/\∀p,H p=none->Q (.ref p) (upd H p (.lst (xs++zs)))
def aiD:d_ X (kc .Add) akC:=by
 intro ai s σ H x y v u Q I aS bt h;obtain⟨l,b,xs,zs,rfl,rfl,fH,jn,aI,q⟩:=h;cases aS;cases bt;obtain⟨z,its,n,r,aH,e⟩:=Inv.uN I fH;obtain⟨fb,jq,fK,cF,MP,aK⟩:=Inv.uN I jn;refine PySem.P.add_list e aK ?_ (by rw[eE,eE];omega);have ea:its.toArray++jq.toArray=(its++jq).toArray:=by simp
 rw[ea];exact⟨.ref _,_,I.su (t':=s.toks) (r.append cF) (by rw[iq];omega),rfl,q _ I.fresh⟩
def ajA(K:a'):fD:=λx y H Q=>∃a b ys,x=.ref a/\y=.ref b/\c8 K H a []/\c8 K H b ys/\Q (.ref b) H
def ahr:d_ X (kc .Add) (ajA X.K):=by
 intro ai s σ H x y v u Q I aS bt h;obtain⟨a,b,ys,rfl,rfl,aA,ag,q⟩:=h;cases aS;cases bt;obtain⟨its,bj,j0,_⟩:=I.tuple aA;obtain⟨jq,cF,dJ,_⟩:=I.tuple ag;have Wx:its=[]:=bj.Ag.mpr rfl;subst Wx;obtain⟨⟨cls,dd,data,b_⟩,aT,au,n,hd⟩:=id j0;obtain⟨⟨EB,lU,data2,hg⟩,sb,mQ,fK,hd2⟩:=id dJ;simp only at au hd mQ hd2;subst au hd mQ hd2;exact concat_meets ⟨_,aT,rfl⟩ ⟨_,sb,rfl⟩ noFill_tuple_add seq_tuple_add PySem.F.slot_tuple_add PySem.F.entry_tuple_add (PySem.F.args_tuple_add_2 _ _)
   (tuple_addW0 a b ([]:List av).toArray jq.toArray n fK dd lU b_ hg (by simp)) ⟨aT,sb,⟨.ref b,H,I,rfl,q⟩⟩
def ki:b'=big:=by rw[sizeLine_eq];rfl
def cJ(aA:dP X a f)(ag:dP X b g):cq X (.BinOp a .Add b pos) (af aU f g):=
 ec (rC (ajW.or (afJ.or (ahr.or (aiC.or aiD)))) aA ag) (nv (by
  intro O F H x y t fX fy Q d aS bt e k;unfold aU at e;split at e
  ·cases e
   rw[aS.int,bt.int];exact .inl ⟨_,_,rfl,rfl,k _ F H (Ext.refl d) (by simp[Rep])⟩
  ·split at e
   next aI=>
    cases e
    rw[aS.str,bt.str];exact .inr (.inl ⟨_,_,rfl,rfl,by rw[ki];exact aI,k _ F H (Ext.refl d) (by simp[Rep])⟩)
   next=>cases e
  ·split at e
   next xs ys aI=>
    cases e
    obtain⟨rU,vs,rfl,aB,ax⟩:=aS.tup;obtain⟨DL,ws,rfl,lX,sh⟩:=bt.tup;cases xs with
    |nil=>
     simp only[bl] at ax;subst ax;refine .inr (.inr (.inl ⟨_,_,_,rfl,rfl,aB,lX,k _ F H (Ext.refl d) ?_⟩));simp only[Rep];exact⟨_,_,rfl,lX,by simpa using sh⟩
    |cons x0 Ot=>
     refine .inr (.inr (.inr (.inl ⟨_,_,_,_,rfl,rfl,aB,lX,?_,?_,λbp=>?_,λbp p aC=>?_⟩)))
     ·intro z;subst z;have:=ax.length;simp at this
     ·rw[ki,<- ax.length,<- sh.length];exact aI
     ·refine k _ F H (Ext.refl d) ?_
      subst bp;have aE:ys=[]:=List.eq_nil_of_length_eq_zero (by rw[sh.length];rfl);subst aE;simp only[Rep];exact⟨_,_,rfl,aB,by simpa using ax⟩
     ·have aW:=Ext.laid (o:=.tup (vs++ws)) d aC;refine k _ F _ aW ?_;simp only[Rep];exact⟨p,_,rfl,c8.of ep,(ax.append sh).ext aW⟩
   next=>cases e
  ·split at e
   next xs ys aI=>
    cases e
    obtain⟨rU,vs,rfl,aB,ax⟩:=aS.lst;obtain⟨DL,ws,rfl,lX,sh⟩:=bt.lst;refine .inr (.inr (.inr (.inr ⟨_,_,_,_,rfl,rfl,aB,lX,by rw[ki,<- ax.length,<- sh.length];exact aI,λp aC=>?_⟩)));have aW:=Ext.uI (o:=.lst (vs++ws)) d aC;refine k _ _ _ aW ?_;simp only[Rep];exact⟨p,_,rfl,.inr rfl,.inl ep,(ax.append sh).ext aW⟩
   next=>cases e
  ·cases e))
def Rp(aA:dP X a f)(ag:dP X b g):cq X (.BinOp a .Sub b pos) (af oi f g):=
 ec (rC ajR aA ag) (nv (by
  intro O F H x y t fX fy Q d aS bt e k;unfold oi at e;split at e
  ·cases e
   rw[aS.int,bt.int];exact⟨_,_,rfl,rfl,k _ F H (Ext.refl d) (by simp[Rep])⟩
  ·cases e))
def qm(aA:dP X a f)(ag:dP X b g):cq X (.BinOp a .Mult b pos) (af dw f g):=
 ec (rC ajU aA ag) (nv (by
  intro O F H x y t fX fy Q d aS bt e k;unfold dw at e;split at e
  ·split at e
   next hm=>
    cases e
    rw[aS.int,bt.int];refine⟨_,_,rfl,rfl,?_,k _ F H (Ext.refl d) (by simp[Rep])⟩;simpa [vW,y5] using hm
   next=>cases e
  ·cases e))
def fP(aA:dP X a f)(ag:dP X b g):cq X (.BinOp a .FloorDiv b pos) (af oDiv f g):=
 ec (rC aiB aA ag) (nv (by
  intro O F H x y t fX fy Q d aS bt e k;unfold oDiv at e;split at e
  ·split at e
   next hm=>
    cases e
    rw[aS.int,bt.int];exact⟨_,_,rfl,rfl,hm,k _ F H (Ext.refl d) (by simp[Rep])⟩
   next=>cases e
  ·cases e))
def d8(aA:dP X a f)(ag:dP X b g):cq X (.BinOp a .Mod b pos) (af oMod f g):=
 ec (rC ajV aA ag) (nv (by
  intro O F H x y t fX fy Q d aS bt e k;unfold oMod at e;split at e
  ·split at e
   next hm=>
    cases e
    rw[aS.int,bt.int];exact⟨_,_,rfl,rfl,hm,k _ F H (Ext.refl d) (by simp[Rep])⟩
   next=>cases e
  ·cases e))
def bK(aA:dP X a f)(ag:dP X b g)(aB:QI b:=by intro _ _;rfl):cq X (.Subscript a b pos) (af aJ f g):=
 ec (akK aka aA ag aB) (nv (by
  intro O F H x y t fX fy Q d aS bt e k;unfold aJ at e;split at e
  ·obtain⟨rU,vs,rfl,aB,ax⟩:=aS.tup;rw[bt.int];simp only[eP,cW] at e;obtain⟨j,cS,cw⟩:=e;obtain⟨v,ba,cn⟩:=ax.get cw;refine .inr (.inl ⟨_,_,_,v,rfl,rfl,aB,?_,k _ F H (Ext.refl d) cn⟩);rw[ax.length] at cS;show (qT _ _).bind _=_;rw[show qT vs.length _=some j from cS];exact ba
  ·obtain⟨rU,vs,rfl,aB,ax⟩:=aS.lst;rw[bt.int];simp only[eP,cW] at e;obtain⟨j,cS,cw⟩:=e;obtain⟨v,ba,cn⟩:=ax.get cw;refine .inl ⟨_,_,_,v,rfl,rfl,.inl aB,?_,k _ F H (Ext.refl d) cn⟩;rw[ax.length] at cS;show (qT _ _).bind _=_;rw[show qT vs.length _=some j from cS];exact ba
  ·split at e
   next aI=>
    rw[aS.str,bt.int];simp only[hh] at e;obtain⟨c,au,rfl⟩:=e;exact .inr (.inr ⟨_,_,c,rfl,rfl,by rw[ki];exact aI,au,k _ F H (Ext.refl d) (by simp[Rep])⟩)
   next=>cases e
  ·cases e))
end
end
section
variable [cB]
noncomputable def y9(K:a')(aM:aq->Prop)(aO:iC)(O F:aq->Prop)(H:aF)(D:Ends):Out->Prop
|.bg ε'=>∀bR aR ak,d9 K F H aR ak->cZ K aM aO O aR ak ε' bR->D.bg bR ak
|.ee t=>∀v aR ak,Ext aM aO.h aR ak->Rep K aR ak t v->D.ee v ak
|.j6 t ε'=>∀v bR aR ak,cZ K aM aO O aR ak ε' bR->Rep K aR ak t v->D.ee v ak
|.m4 s=>∀a aR ak,Ext aM aO.h aR ak->fQ K aO O aR ak s (.ref a)->D.ee (.ref a) ak
|.f7 ε'=>∀bR aR ak,d9 K F H aR ak->cZ K aM aO O aR ak ε' bR->D.f7 bR ak
|.bJ ε'=>∀bR aR ak,d9 K F H aR ak->cZ K aM aO O aR ak ε' bR->D.bJ bR ak
def N'(K:a')(g:bx):fE:=λD σ H=>∃aM aO O F ε o,cZ K aM aO O F H ε σ/\g ε=some o/\y9 K aM aO O F H D o
abbrev kY(X:aV)(s:Stmt)(g:bx):Prop:=iD X s (N' X.K g)
abbrev kX(X:aV)(s:List Stmt)(g:bx):Prop:=fh X s (N' X.K g)
def y9.aQ{K:a'}{aM O F a5:aq->Prop}{aO:iC}{H H1:aF}{D:Ends}{o:Out}(h:y9 K aM aO O F H D o)(x:d9 K F H a5 H1):y9 K aM aO O a5 H1 D o:=by
 cases o with
|bg ε=>exact λbR aR ak k r=>h bR aR ak (x.trans k) r
|ee t=>exact h
|f7 ε=>exact λbR aR ak k r=>h bR aR ak (x.trans k) r
|bJ ε=>exact λbR aR ak k r=>h bR aR ak (x.trans k) r
|j6 t ε=>exact h
|m4 s=>exact h
section
variable {X:aV}{e a b c:bk}{f:a_}{g g':bx}{dZ:ej}{st:Stmt}{rest:List Stmt}{pos:Pos}
def eK:kX X [] skip:=vC Qw λD σ H ⟨aM,aO,O,F,ε,o,r,e,k⟩=>by
 cases e
 exact k σ F H d9.refl r
def b0(h:kY X st g):kX X [st] g:=tA h
def bT(ah:kY X st g)(ao:kX X rest g'):kX X (st::rest) (seq g g'):=vC (tu ah ao) λD σ H ⟨aM,aO,O,F,ε,o,r,e,k⟩=>by
 simp only[seq,cW] at e;obtain⟨d1,aE,aK⟩:=e;refine⟨aM,aO,O,F,ε,d1,r,aE,?_⟩;cases d1 with
|bg ε'=>exact λbR aR ak x cx=>⟨aM,aO,O,aR,ε',o,cx,aK,k.aQ x⟩
|ee t=>
  cases aK
  exact k
|f7 ε'=>
  cases aK
  exact k
|bJ ε'=>
  cases aK
  exact k
|j6 t ε'=>
  cases aK
  exact k
|m4 s=>
  cases aK
  exact k
def cz(h:cq X e f):kY X (.Return (some e) pos) (bh f):=ql (B7 h) λD σ H ⟨aM,aO,O,F,ε,o,r,e,k⟩=>by
 simp only[bh,hh] at e;obtain⟨t,cw,rfl⟩:=e;exact⟨aM,aO,O,F,ε,t,r,cw,λv aR ak x q=>k v aR ak (r.ent.trans x) q⟩
def vI(i:Nat){x:Str}{sA:Pos}(dA:X.N[i]?=some x:=by rfl)(ba:nP X.env.scope x:=by first|exact Or.inl rfl|exact Or.inr (Or.inl rfl)|exact Or.inr (Or.inr rfl))(hd:(x==("__debug__":Str))=false:=by decide)
  (eT:(x==("__classdict__":Str))=false:=by decide):kY X (.Return (some (.Name x sA)) pos) (bh (nm i)):=ql (B7 (j1 i dA ba hd eT)) λD σ H ⟨aM,aO,O,F,ε,o,r,e,k⟩=>by
 simp only[bh,hh] at e;obtain⟨t,cw,rfl⟩:=e;unfold nm at cw;split at cw
 next t' he=>
  cases cw
  obtain⟨v,ah,ao⟩:=r.val _ _ he;exact⟨v,ah,k v F H r.ent ao⟩
 next ts he=>
  cases cw
  obtain⟨v,ah,a,vs,rfl,n,h0,aA,q⟩:=r.val _ _ he;have bF:=r.ent;have y:Ext aM aO.h (λb=>F b\/b=a) H:=⟨bF.same,λb z=>.inl (bF.sub b z),λb z=>by
   rcases z with z|rfl
   ·exact bF.new b z
   ·exact .inr (r.o0 _ h0),⟨λb z=>by
   rcases z with z|rfl
   ·exact bF.cK b z
   ·exact⟨_,aA⟩,bF.cK.m8⟩⟩
  refine⟨_,ah,k _ _ H y ?_⟩
  simp only[Rep];exact⟨a,vs,rfl,.inr rfl,.inl aA,q.keep (λ_ _ z=>z) λb _ z w=>⟨.inl z,w⟩⟩
 next=>cases cw
def eD(au:iY X c dZ)(aA:kX X rest g){wJ:List Stmt}(ag:kX X wJ g'):kY X (.If c rest wJ pos) (iff dZ g g'):=ql (KN au aA ag) λD σ H ⟨aM,aO,O,F,ε,o,r,e,k⟩=>by
 simp only[iff,cW] at e;obtain⟨b,hs,e⟩:=e;refine⟨aM,aO,O,F,ε,b,r,hs,λaR ak x=>?_⟩;cases b with
|true=>exact n' ⟨aM,aO,O,aR,ε,o,r.ext x,by simpa using e,k.aQ x.aQ⟩
|false=>exact qS ⟨aM,aO,O,aR,ε,o,r.ext x,by simpa using e,k.aQ x.aQ⟩
def cI(i:Nat){x:Str}{pos':Pos}(dA:X.N.Nodup)(he:cq X e f)(hi:X.N[i]?=some x:=by rfl)(hx:Loc X.env.scope x:=by first|exact Or.inl rfl|exact Or.inr rfl)
  (aB:swapsWith e (some (.Name x pos')) pos.line X.env=pure false:=by rfl) (hf:X.fn x=true\/X.env.scope.names.lookup x=some .local:=by first|exact .inl rfl|exact .inr rfl):
  kY X (.Assign [.Name x pos'] e pos) (asg i f):=ql (tP dA hi hx he aB hf) λD σ H ⟨aM,aO,O,F,ε,o,r,e,k⟩=>by
 simp only[asg,hh] at e;obtain⟨t,cw,rfl⟩:=e;refine⟨aM,aO,O,F,ε,t,r,cw,λv aR ak x q=>?_⟩;exact k _ aR ak x.aQ ((r.ext x).set i q)
def QQ(i:Nat){x:Str}{pos':Pos}(dA:X.N.Nodup)(he:zi X e f)(hi:X.N[i]?=some x:=by rfl)(hx:Loc X.env.scope x:=by first|exact Or.inl rfl|exact Or.inr rfl)
  (aB:swapsWith e (some (.Name x pos')) pos.line X.env=pure false:=by rfl) (hf:X.fn x=true\/X.env.scope.names.lookup x=some .local:=by first|exact .inl rfl|exact .inr rfl):
  kY X (.Assign [.Name x pos'] e pos) (h8 i f):=ql (tP dA hi hx he aB hf) λD σ H ⟨aM,aO,O,F,ε,o,r,e,k⟩=>by
 simp only[h8,cW] at e;obtain⟨t,cw,e⟩:=e;split at e
 next ts=>
  cases e
  refine⟨aM,aO,O,F,ε,ts,r,cw,λa vs aR ak x bf ju aA q=>?_⟩
  exact k _ aR ak x.aQ (r.ab9 (s:=.own ts) i x ⟨a,vs,rfl,ju,r.fr a bf,aA,q⟩ λb ag=>by
   have:b=a:=by simpa [eu,ll] using ag
   rw[this];exact bf)
 next=>cases e
def tG(K:a')(g:h4):nO:=λv σ H Q=>∃aM aO O F ε t ε',cZ K aM aO O F H ε σ/\Rep K F H t v/\g t ε=some ε'/\∀bR,cZ K aM aO O F H ε' bR->Q bR H
def ac_(K:a')(gr:List h4):o5:=λvs σ H Q=>∃aM aO O F ε ts ε',cZ K aM aO O F H ε σ/\bl K F H ts vs/\gH gr ts ε=some ε'/\∀bR,cZ K aM aO O F H ε' bR->Q bR H
abbrev oY(X:aV)(e:bk)(g:h4):Prop:=rP X e (tG X.K g)
abbrev zj(X:aV)(ar:List bk)(gr:List h4):Prop:=rQ X ar (ac_ X.K gr)
def Rh{X:aV}{e:bk}{t t':nO}(h:rP X e t)(k:∀v σ H Q,t' v σ H Q->t v σ H Q):rP X e t':=λai s σ H v u Q I r q=>h ai s σ H v u Q I r (k v σ H Q q)
def QJ{X:aV}{e:List bk}{t t':o5}(h:rQ X e t)(k:∀v σ H Q,t' v σ H Q->t v σ H Q):rQ X e t':=λai s σ H v u Q I r q=>h ai s σ H v u Q I r (k v σ H Q q)
def d4(i:Nat){x:Str}(dA:X.N.Nodup)(hi:X.N[i]?=some x:=by rfl)(hx:Loc X.env.scope x:=by first|exact Or.inl rfl|exact Or.inr rfl)
  (hf:X.fn x=true\/X.env.scope.names.lookup x=some .local:=by first|exact .inl rfl|exact .inr rfl):oY X (.Name x pos) (a8 i):=Rh (air dA hi hx hf) λv σ H Q ⟨aM,aO,O,F,ε,t,ε',r,q,e,k⟩=>by
 cases e
 exact k _ (r.set i q)
def Ct:zj X [] []:=QJ aiq λvs σ H Q ⟨aM,aO,O,F,ε,ts,ε',r,q,e,k⟩=>by
 cases ts with
|nil=>
  cases e
  simp only[bl] at q;exact⟨q,k σ r⟩
|cons t ts=>cases e
def rx{ar:List bk}{g:h4}{gr:List h4}(ah:oY X e g)(ao:zj X ar gr)(aB:(pW (e::ar) X.env).map (·.2)=assign e X.env::(pW ar X.env).map (·.2):=by rfl):zj X (e::ar) (g::gr):=
 QJ (ahl ah ao aB) λvs σ H Q ⟨aM,aO,O,F,ε,ts,ε',r,q,e,k⟩=>by
 cases ts with
|nil=>cases e
|cons t ts=>
  simp only[gH,cW] at e;obtain⟨lK,aE,aK⟩:=e;simp only[bl] at q;obtain⟨v,IH,rfl,a4,bO⟩:=q;exact⟨v,IH,rfl,aM,aO,O,F,ε,t,lK,r,a4,aE,λrJ bj=>⟨aM,aO,O,F,lK,ts,ε',bj,bO,aK,k⟩⟩
theorem Qh:∀{gr:List h4} {ts:List T} {ε ε':Ev},gH gr ts ε=some ε'->ts.length=gr.length
| [],[],_,_,_=>rfl
| [],_::_,_,_,h=>by cases h
|_::_,[],_,_,h=>by cases h
|g::gr,t::ts,ε,ε',h=>by
  simp only[gH,cW] at h;obtain⟨lK,_,h⟩:=h;simp[Qh h]
def Cs{ar:List bk}{k:Nat}{gr:List h4}(h:zj X ar gr)(au:X.calm=true:=by rfl)(bf:(pW ar X.env).length=gr.length:=by rfl)(ic:(pW ar X.env).findIdx? (·.1)=none:=by rfl):
  oY X (.Tuple ar k pos) (eH gr):=Rh (ajJ au h bf ic) λv σ H Q ⟨aM,aO,O,F,ε,t,ε',r,q,e,k⟩=>by
 unfold eH at e;split at e
 next ts=>
  simp only[Rep] at q;obtain⟨a,vs,rfl,aB,ax⟩:=q;exact⟨a,vs,rfl,aB,by rw[<- ax.length];exact Qh e,aM,aO,O,F,ε,ts,ε',r,ax,e,k⟩
 next=>cases e
structure nI(K:a')(J:jI)(a5:aq->Prop)(H1:aF)(ts:List T):Prop where
 go:∀i F H t,d9 K a5 H1 F H->f3 F H->ts[i]?=some t->J.go i H
 lC:∀i F H t x ak,d9 K a5 H1 F H->f3 F H->ts[i]?=some t->J.lC i H x ak->∃aR,Ext F H aR ak/\Rep K aR ak t x
 stop:∀i F H,d9 K a5 H1 F H->ts.length<=i->J.stop i H
def tI(K:a')(f:iW):TI:=λσ H R=>∃aM aO O F ε ts,cZ K aM aO O F H ε σ/\f ε=some ts/\∀J aR ak,Ext F H aR ak->nI K J aR ak ts->R J ak
abbrev nL(X:aV)(dr e:bk)(f:iW):Prop:=oZ X dr e (tI X.K f)
def yQ{X:aV}{dr e:bk}{t t':TI}(h:oZ X dr e t)(k:∀σ H R,t' σ H R->t σ H R):oZ X dr e t':=λai s σ H R I q=>h ai s σ H R I (k σ H R q)
def agx{K:a'}{a:aq}{a5:aq->Prop}{H1:aF}{ts:List T}{vs:List V}(cU:a5 a)(ax:f5 H1 a (.lst vs))(q:bl K a5 H1 ts vs):nI K (amq K a) a5 H1 ts where
 go:=λi F H t aQ d e=>by
  obtain⟨v,ah,_⟩:=q.get e;exact⟨vs,v,.inl (aQ.lst _ _ cU ax).2,ah⟩
 lC:=λi F H t x ak aQ d e y=>by
  obtain⟨rfl,y⟩:=y;obtain⟨v,ah,ao⟩:=(q.aQ aQ).get e;have:=y vs (.inl (aQ.lst _ _ cU ax).2);rw[ah] at this;cases this;exact⟨F,Ext.refl d,ao⟩
 stop:=λi F H aQ aH=>⟨vs,.inl (aQ.lst _ _ cU ax).2,by rw[<- q.length];exact aH⟩
def ahJ{K:a'}{a:aq}{a5:aq->Prop}{H1:aF}{ts:List T}{vs:List V}(ax:c8 K H1 a vs)(q:bl K a5 H1 ts vs):nI K (CP K a) a5 H1 ts where
 go:=λi F H t aQ d e=>by
  obtain⟨v,ah,_⟩:=q.get e;exact⟨vs,v,aQ.tup _ _ ax,ah⟩
 lC:=λi F H t x ak aQ d e y=>by
  obtain⟨rfl,y⟩:=y;obtain⟨v,ah,ao⟩:=(q.aQ aQ).get e;have:=y vs (aQ.tup _ _ ax);rw[ah] at this;cases this;exact⟨F,Ext.refl d,ao⟩
 stop:=λi F H aQ aH=>⟨vs,aQ.tup _ _ ax,by rw[<- q.length];exact aH⟩
def JU(lo hi:Int):(jx lo hi).length=(hi - lo).toNat:=by simp[jx]
def ahL{K:a'}{a5:aq->Prop}{H1:aF}(lo hi:Int):nI K (y' lo (hi - lo).toNat) a5 H1 (jx lo hi) where
 go:=λi F H t aQ d e=>by
  have h:=(gy.mp e).1;rw[JU] at h;exact h
 lC:=λi F H t x ak aQ d e y=>by
  obtain⟨rfl,rfl⟩:=y;refine⟨F,Ext.refl d,?_⟩;have h:=(gy.mp e).1;rw[JU] at h;unfold jx at e;rw[alZ,List.getElem?_range h] at e;simp at e;subst e;simp[Rep]
 stop:=λi F H aQ aH=>by
  rw[JU] at aH;exact aH
def Ca{dr a:bk}{f:a_}{p pos:Pos}(hm:X.mg "range"=none)(aA:dP X a f)(a7:et X "range":=by rfl)(aB:bL [a] X.env=[(false,eval a X.env)]:=by rfl)(fI:bL [a] X.env=(false,eval a X.env)::bL [] X.env:=by rfl):
  nL X dr (.Call (.Name "range" p) [a] [] pos) (hM f):=yQ (agj a7 hm (fB aA h2 fI) aB) λσ H R ⟨aM,aO,O,F,ε,ts,r,e,k⟩=>by
 simp only[hM,cW] at e;obtain⟨t,cw,e⟩:=e;split at e
 next j=>
  split at e
  next aI=>
   cases e
   refine⟨aM,aO,O,F,ε,_,r,cw,λv aR ak x q=>⟨j,by rw[q.int],?_,?_,k _ aR ak x (by simpa using ahL 0 j)⟩⟩
   ·simp[qb] at aI;omega
   ·simp[qb] at aI;omega
  next=>cases e
 next=>cases e
def vS{dr iter:bk}{body:List Stmt}{it:iW}{i4:h4}{o7:bx}(aC:PassesOwn (bN X.prog X.w) X.A X.env X.dg)(hi:nL X dr iter it)(a7:oY X dr i4)(ag:kX X body o7)(au:X.calm=true:=by rfl)
  (aB:∀x,amf iter X.env x=pure x:=by intro _;rfl):kY X (.For dr iter body [] pos) (gR it i4 o7):=ql (ajI aC au hi a7 ag aB) λD σ H ⟨aM,aO,O,F,ε,o,r,e,k⟩=>by
 simp only[gR,cW] at e;obtain⟨ts,cw,e⟩:=e;refine⟨aM,aO,O,F,ε,ts,r,cw,λJ a5 H1 aW ok=>?_⟩;refine⟨λi m bR ak=>m=ts.length - i/\i<=ts.length/\∃aR ε' ,d9 X.K a5 H1 aR ak/\cZ X.K aM aO O aR ak ε' bR/\forL i4 o7 (ts.drop i) ε'=some o,⟨_,rfl,ow _,a5,ε,d9.refl,r.ext aW,by simpa using e⟩,?_⟩;rintro i m bR ak ⟨rfl,FZ,aR,ε',aQ,cx,bu⟩;by_cases hA:i<ts.length
 ·have hd:ts.drop i=ts[i]::ts.drop (i+1):=List.drop_eq_getElem_cons hA;have w5:ts[i]?=some ts[i]:=hK hA;rw[hd] at bu;simp only[forL,cW] at bu;obtain⟨lK,EL,d1,hs,bu⟩:=bu;refine .inr ⟨ok.go i aR ak _ aQ cx.cK w5,λnE bo=>∃ig,ig<ts.length - i/\(ig=ts.length - (i+1)/\i+1<=ts.length/\∃dh e4,d9 X.K a5 H1 dh bo/\cZ X.K aM aO O dh bo e4 nE/\forL i4 o7 (ts.drop (i+1)) e4=some o),λ_ _ z=>z,λx bo y=>?_⟩;obtain⟨dh,bF,aS⟩:=ok.lC i aR ak _ x bo aQ cx.cK w5 y;refine⟨aM,aO,O,dh,ε',_,lK,cx.ext bF,aS,EL,λiA j4=>⟨aM,aO,O,dh,lK,d1,j4,hs,?_⟩⟩;have sm:d9 X.K a5 H1 dh bo:=aQ.trans bF.aQ;cases d1 with
  |bg e4=>exact λt5 hP hQ e9 hV=>⟨_,by omega,rfl,hA,hP,e4,sm.trans e9,hV,bu⟩
  |bJ e4=>exact λt5 hP hQ e9 hV=>⟨_,by omega,rfl,hA,hP,e4,sm.trans e9,hV,bu⟩
  |f7 e4=>
   cases bu
   exact λt5 hP hQ e9 hV=>k t5 hP hQ ((aW.aQ.trans sm).trans e9) hV
  |ee t=>
   cases bu
   exact k
  |j6 t e4=>
   cases bu
   exact k
  |m4 s=>
   cases bu
   exact k
 ·have hd:ts.drop i=[]:=List.drop_eq_nil_of_le (by omega);rw[hd] at bu;cases bu;exact .inl ⟨ok.stop i aR ak aQ (by omega),k bR aR ak (aW.aQ.trans aQ) cx⟩
def aid{body:List Stmt}{o7:bx}(n:Nat)(aC:PassesOwn (bN X.prog X.w) X.A X.env X.dg)(au:iY X c dZ)(ag:kX X body o7):kY X (.While c body [] pos) (j' dZ o7 n):=ql (ahd aC au ag) λD σ H ⟨aM,aO,O,F,ε,o,r,e,k⟩=>by
 refine⟨λm bR ak=>∃aR ε',d9 X.K F H aR ak/\cZ X.K aM aO O aR ak ε' bR/\j' dZ o7 m ε'=some o,⟨n,F,ε,d9.refl,r,e⟩,?_⟩
 rintro m bR ak ⟨aR,ε',aQ,cx,bu⟩;cases m with
|zero=>cases bu
|succ m=>
  simp only[j',cW] at bu;obtain⟨x,ex,bu⟩:=bu;refine⟨aM,aO,O,aR,ε',x,cx,ex,λa5 H1 aW=>?_⟩;cases x with
  |false=>
   simp only[q8,if_false] at bu;cases bu;exact qS (k bR a5 H1 (aQ.trans aW.aQ) (cx.ext aW))
  |true=>
   simp only[if_true,cW] at bu;obtain⟨d1,hs,bu⟩:=bu;refine n' ⟨λnE bo=>∃ig,ig<m+1/\∃dh e4,d9 X.K F H dh bo/\cZ X.K aM aO O dh bo e4 nE/\j' dZ o7 ig e4=some o,λ_ _ z=>z,aM,aO,O,a5,ε',d1,cx.ext aW,hs,?_⟩;have sm:=aQ.trans (aW.aQ (K:=X.K));cases d1 with
   |bg e4=>exact λt5 hP hQ e9 hV=>⟨m,by omega,hP,e4,sm.trans e9,hV,bu⟩
   |bJ e4=>exact λt5 hP hQ e9 hV=>⟨m,by omega,hP,e4,sm.trans e9,hV,bu⟩
   |f7 e4=>
    cases bu
    exact λt5 hP hQ e9 hV=>k t5 hP hQ (sm.trans e9) hV
   |ee t=>
    cases bu
    exact k
   |j6 t e4=>
    cases bu
    exact k
   |m4 s=>
    cases bu
    exact k
def KI(i:Nat){x:Str}{iK apos eQ:Pos}(he:cq X e f)(dA:X.N[i]?=some x:=by rfl)(ba:nP X.env.scope x:=by first|exact Or.inl rfl|exact Or.inr (Or.inl rfl)|exact Or.inr (Or.inr rfl))(hd:(x==("__debug__":Str))=false:=by decide)
  (eT:(x==("__classdict__":Str))=false:=by decide) (jU:bL [e] X.env=(false,eval e X.env)::bL [] X.env:=by rfl)
  (pj:attributeBase (.Name x iK) "append" X.env (eval (.Name x iK) X.env)=eval (.Name x iK) X.env:=by rfl)
  (pn:((fl eQ (bL [e] X.env)).all (λx=>!x.1) && (backToKw eQ (keywordEach [] X.env)).all (λx=>x.1.isSome)
   && decide (([e]:List bk).length+([]:List Keyword).length+(if ([]:List Keyword).isEmpty then 0 else 1)<30))=true:=by rfl)
  (pq:(apos.endLine==eQ.line)=true:=by rfl) (pv:(fl eQ (bL [] X.env)).any (·.1)=false:=by rfl)
  (Gf:swapsWith (.Call (.Attribute (.Name x iK) "append" apos) [e] [] eQ) none pos.line X.env=pure false:=by rfl):
  kY X (.Expr (.Call (.Attribute (.Name x iK) "append" apos) [e] [] eQ) pos) (app i f):=
 ql (ail (vU PySem.F.plainAttrs_list PySem.F.slot_list_append PySem.F.type_list_append PD (j1 i dA ba hd eT) (fB he h2 jU) pj pn pq jU pv) Gf) λD σ H ⟨aM,aO,O,F,ε,o,r,e,k⟩=>by
 unfold app at e;split at e
 next ts he=>
  simp only[cW] at e;obtain⟨t,cw,e⟩:=e;split at e
  next aI=>
   cases e
   obtain⟨v,ah,a,vs,rfl,n,h0,c4,ax⟩:=r.val _ _ he;refine⟨_,ah,.inl ⟨rfl,_,eO.of c4⟩,aM,aO,O,F,ε,t,r,cw,λv aR ak x q=>?_⟩;have bj:=r.ext x;obtain⟨v1,f',a1,Oi,aE,fj,alj,MN,si⟩:=bj.val _ _ he;rw[ah] at f';cases f';cases aE;refine⟨a,Oi,v,rfl,rfl,MN,by rw[ki,<- si.length];exact aI,?_⟩;obtain⟨aQ,cF⟩:=bj.mut (s':=.own (ts++[t])) (o':=.lst (Oi++[v])) he rfl ah fj h0 MN (.inl ⟨_,rfl⟩) λaQ=>⟨a,_,rfl,fj,h0,ep,(si.aQ aQ).append (bl.cons (q.aQ aQ) bl.nil)⟩;exact k σ aR _ (x.aQ.trans aQ) cF
  next=>cases e
 next=>cases e
end
end
section
variable [cB]
section
variable {X:aV}{a b c e:bk}{ar:List bk}{f g h:a_}{a6:List a_}{dZ gt:ej}{pos p:Pos}
def d7:nK X [] []:=yR h2 λσ H Q ⟨aM,aO,O,F,ε,ts,r,e,k⟩=>by
 cases e
 exact k [] F H (Ext.refl r.cK) .nil
def dX(aA:dP X e f)(ax:nK X ar a6)(aB:bL (e::ar) X.env=(false,eval e X.env)::bL ar X.env:=by rfl):nK X (e::ar) (f::a6):=yR (fB aA ax aB) λσ H Q ⟨aM,aO,O,F,ε,ts,r,e,k⟩=>by
 simp only[args,cW,hh] at e;obtain⟨t,cw,us,la,rfl⟩:=e;refine⟨aM,aO,O,F,ε,t,r,cw,λv a5 H1 aW a4=>⟨aM,aO,O,a5,ε,us,r.ext aW,la,λvs dh bo bF bO=>?_⟩⟩;exact k _ dh bo (aW.trans bF) (.cons (a4.ext bF) bO)
def aX:qs X [] []:=yR h2 λσ H Q ⟨aM,aO,O,F,ε,ts,r,e,k⟩=>by
 cases e
 exact k [] F H (Ext.refl r.cK) bl.nil
def ay(aA:cq X e f)(ax:qs X ar a6)(aB:bL (e::ar) X.env=(false,eval e X.env)::bL ar X.env:=by rfl):qs X (e::ar) (f::a6):=yR (fB aA ax aB) λσ H Q ⟨aM,aO,O,F,ε,ts,r,e,k⟩=>by
 simp only[args,cW,hh] at e;obtain⟨t,cw,us,la,rfl⟩:=e;refine⟨aM,aO,O,F,ε,t,r,cw,λv a5 H1 aW a4=>⟨aM,aO,O,a5,ε,us,r.ext aW,la,λvs dh bo bF bO=>?_⟩⟩;exact k _ dh bo (aW.trans bF) (bl.cons (a4.ext bF) bO)
def dE{aW}(h:qs X ar a6):cq X (.Tuple ar aW pos) (br a6):=ec (yH h) λσ H Q ⟨aM,aO,O,F,ε,t,r,e,k⟩=>by
 simp only[br,cW] at e;obtain⟨ts,cw,e⟩:=e;split at e
 next aI=>
  cases e
  refine⟨aM,aO,O,F,ε,ts,r,cw,λvs a5 H1 aW a4=>⟨by rw[ki,<- a4.length];exact aI,λp aC=>?_⟩⟩
  have bF:=Ext.laid (o:=.tup vs) aW.cK aC;refine k _ a5 _ (aW.trans bF) ?_;simp only[Rep];exact⟨p,vs,rfl,c8.of ep,a4.ext bF⟩
 next=>cases e
def KJ(h:qs X ar a6):zi X (.List ar pos) (eh a6):=ec (QW h) λσ H Q ⟨aM,aO,O,F,ε,us,r,e,k⟩=>by
 simp only[eh,cW] at e;obtain⟨ts,cw,e⟩:=e;split at e
 next aI=>
  cases e
  refine⟨aM,aO,O,F,ε,_,r,cw,λvs a5 H1 aW a4=>⟨by rw[ki,<- a4.length];exact aI,λp aC=>?_⟩⟩
  have bF:=Ext.laid (o:=.lst vs) aW.cK aC;refine k p vs a5 _ (aW.trans bF) ?_ ?_ ep (a4.ext bF)
  ·exact aW.same.none aC
  ·intro cb;obtain⟨o,k_⟩:=aW.cK p cb;rw[aC] at k_;cases k_
 next=>cases e
def rt(h:qs X ar a6):cq X (.List ar pos) (eh a6):=Nq (KJ h) λε t e=>by
 simp only[eh,cW] at e;obtain⟨ts,cw,e⟩:=e;split at e
 ·cases e
  exact⟨_,rfl⟩
 ·cases e
mutual
theorem Qa{F:aq->Prop}{ai:List (aq×Obj)}{σ:bB.St}{H:aF}{s:aP}(I:Inv X ai σ H s):∀{t:T} {v:V} {u:av},Rep X.K F H t v->RelV v u->∃as,Reads s.heap u t as
|.none,v,u,h,r=>by
  simp only[Rep] at h;subst h;cases r;exact⟨_,.none⟩
|.bool b,v,u,h,r=>by
  simp only[Rep] at h;subst h;cases r;exact⟨_,.bool b⟩
|.int i,v,u,h,r=>by
  simp only[Rep] at h;subst h;obtain⟨t,rfl⟩:=r;exact⟨_,.int i t⟩
|.str x,v,u,h,r=>by
  simp only[Rep] at h;subst h;obtain⟨t,rfl⟩:=r;exact⟨_,.str x t⟩
|.dict _,v,u,h,r=>by simp[Rep] at h
|.tuple ts,v,u,h,r=>by
  simp only[Rep] at h;obtain⟨a,vs,rfl,aB,ax⟩:=h;cases r;obtain⟨its,cn,⟨o,ah,ao,n,aY⟩,aI⟩:=I.tuple aB;obtain⟨as,l5⟩:=BH I ax cn;exact⟨_,.tuple ah ao aY (by simpa using l5)⟩
|.list ts,v,u,h,r=>by
  simp only[Rep] at h;obtain⟨a,vs,rfl,cU,aB,ax⟩:=h;cases r;obtain⟨z,its,n,cn,aH,e⟩:=Inv.uN I aB;obtain⟨as,l5⟩:=BH I ax cn;exact⟨_,.list e rfl rfl (by simpa using l5)⟩
theorem BH{F:aq->Prop}{ai:List (aq×Obj)}{σ:bB.St}{H:aF}{s:aP}(I:Inv X ai σ H s):∀{ts:List T} {vs:List V} {us:List av},bl X.K F H ts vs->Vals vs us->∃as,ReadsAll s.heap us ts as
| [],vs,us,h,r=>by
  simp only[bl] at h;subst h;cases r;exact⟨_,.nil⟩
|t::ts,vs,us,h,r=>by
  simp only[bl] at h;obtain⟨v,IH,rfl,ah,ao⟩:=h;cases r with
  |cons bj cF=>
   obtain⟨as,a4⟩:=Qa I ah bj;obtain⟨bs,bO⟩:=BH I ao cF;exact⟨_,.cons a4 bO⟩
end
def ti{O F:aq->Prop}{ai:List (aq×Obj)}{σ:bB.St}{H:aF}{s:aP}(I:Inv X ai σ H s){t:T}{v:V}{u:av}(h:fS X.K O F H t v)(r:RelV v u):∃as,Reads s.heap u t as:=by
 rcases h with h|⟨ts,a,vs,rfl,rfl,aA,h⟩
 ·exact Qa I h r
 ·cases r
  obtain⟨z,its,n,cn,aH,e⟩:=Inv.uN I (.inl aA);obtain⟨as,l5⟩:=BH I h cn;exact⟨_,.list e rfl rfl (by simpa using l5)⟩
def yL{t:T}(h:eV t=true):t.canLay0=true/\t.depth<=60:=by
 simp only[eV,cX,decide_eq_true_eq] at h;exact h
def ajZ{t:List T}(h:oj t=true):jB t=true/\i' t<=60:=by
 simp only[oj,cX,decide_eq_true_eq] at h;exact h
noncomputable def Cg(K:a')(n:Bool):fD:=λx y H Q=>∃(O F:aq->Prop) (s t:T),fS K O F H s x/\fS K O F H t y/\eV s=true/\eV t=true/\Q (.bw (if n then !PyData.eqv s t else kL s t)) H
def Ko(cM:X.A.units+64<cLine):d_ X (g0 .Eq) (Cg X.K false):=by
 intro ai s σ H x y v u Q I aS bt ⟨O,F,d,t,ah,ao,d1,eB,q⟩;obtain⟨as,l5⟩:=ti I ah aS;obtain⟨bs,sJ⟩:=ti I ao bt;obtain⟨c9,cV⟩:=yL d1;obtain⟨dz,cN⟩:=yL eB;refine SeqAt.compareEq_reads l5 sJ c9 dz (by have:=Nat.min_le_left d.depth t.depth;omega) ?_;exact⟨.bw _,H,I,rfl,q⟩
def ajT(cM:X.A.units+64<cLine):d_ X (g0 .NotEq) (Cg X.K true):=by
 intro ai s σ H x y v u Q I aS bt ⟨O,F,d,t,ah,ao,d1,eB,q⟩;obtain⟨as,l5⟩:=ti I ah aS;obtain⟨bs,sJ⟩:=ti I ao bt;obtain⟨c9,cV⟩:=yL d1;obtain⟨dz,cN⟩:=yL eB;refine SeqAt.compareNe_reads l5 sJ c9 dz (by have:=Nat.min_le_left d.depth t.depth;omega) ?_;exact⟨.bw _,H,I,rfl,q⟩
def nD{op:CmpOp}{R:fD}{o:T->T->Option T}(aT:d_ X (g0 op) R)(ao:nJ X.K o R)(aA:dP X a f)(ag:dP X b g)(hm:ox op b=false:=by first|exact Kr _|rfl):cq X (.Compare a [op] [b] pos) (af o f g):=ec (aiu aT aA ag hm) (nv ao)
def mr{op:CmpOp}{R:fD}{o:T->T->Option T}(aT:d_ X (g0 op) R)(ao:nJ X.K o R)(aA:dP X a f)(ag:dP X b g)(hm:ox op b=false:=by first|exact Kr _|rfl):iY X (.Compare a [op] [b] pos) (a3 (af o f g)):=
 vQ (Qv aT aA ag hm) λσ H Q ⟨aM,aO,O,F,ε,b,r,e,k⟩=>by
 simp only[a3,cW] at e;obtain⟨t,cw,e⟩:=e;split at e
 ·cases e
  refine nv ao σ H _ ⟨aM,aO,O,F,ε,_,r,cw,λv aR ak x q=>?_⟩
  simp only[Rep] at q;exact⟨_,q,k aR ak x⟩
 ·cases e
def Kq:nJ X.K oEq (Cg X.K false):=by
  intro O F H x y t fX fy Q d aS bt e k;unfold oEq at e;split at e
  next aI=>
   cases e
   rw[cX] at aI;exact⟨O,F,x,y,aS,bt,aI.1,aI.2,k _ F H (Ext.refl d) (by simp[Rep])⟩
  next=>cases e
def ajX:nJ X.K dG (Cg X.K true):=by
  intro O F H x y t fX fy Q d aS bt e k;unfold dG at e;split at e
  next aI=>
   cases e
   rw[cX] at aI;exact⟨O,F,x,y,aS,bt,aI.1,aI.2,k _ F H (Ext.refl d) (by simp[Rep])⟩
  next=>cases e
noncomputable def NK(K:a')(n:Bool):fD:=λx y H Q=>∃(O F:aq->Prop) (s:T) (ts:List T),fS K O F H s x/\(fS K O F H (.tuple ts) y\/fS K O F H (.list ts) y)/\eV s=true/\oj ts=true/\Q (.bw (if n then !mP s ts else mP s ts)) H
def qf(cM:X.A.units+64<cLine):d_ X (g0 .In) (NK X.K false):=by
 intro ai s σ H x y v u Q I aS bt ⟨O,F,d,ts,ah,ao,d1,eB,q⟩;obtain⟨as,l5⟩:=ti I ah aS;obtain⟨c9,cV⟩:=yL d1;obtain⟨dz,cN⟩:=ajZ eB;have hm:=Nat.min_le_left (i' ts) d.depth;rcases ao with ao|ao
 ·obtain⟨bs,sJ⟩:=ti I ao bt;exact SeqAt.in_tuple_reads sJ l5 dz c9 (by omega) ⟨.bw _,H,I,rfl,q⟩
 ·obtain⟨bs,sJ⟩:=ti I ao bt;exact SeqAt.in_list_reads sJ l5 dz c9 (by omega) ⟨.bw _,H,I,rfl,q⟩
def qg{n:Bool}:nJ X.K (gJ n) (NK X.K n):=by
 intro O F H x y t fX fy Q d aS bt e k;unfold gJ at e;split at e
 ·split at e
  next aI=>
   cases e
   rw[cX] at aI;exact⟨O,F,x,_,aS,.inl bt,aI.1,aI.2,k _ F H (Ext.refl d) (by simp[Rep])⟩
  next=>cases e
 ·split at e
  next aI=>
   cases e
   rw[cX] at aI;exact⟨O,F,x,_,aS,.inr bt,aI.1,aI.2,k _ F H (Ext.refl d) (by simp[Rep])⟩
  next=>cases e
 ·cases e
def yK:nJ X.K oLt (λx y H Q=>kI (λi j=>.bw (decide (i<j))) x y H Q\/∃i j,x=.str i/\y=.str j/\Q (.bw (decide (i.cps.toList<j.cps.toList))) H):=by
  intro O F H x y t fX fy Q d aS bt e k;unfold oLt at e;split at e
  ·cases e
   rw[aS.int,bt.int];exact .inl ⟨_,_,rfl,rfl,k _ F H (Ext.refl d) (by simp[Rep])⟩
  ·cases e
   rw[aS.str,bt.str];exact .inr ⟨_,_,rfl,rfl,k _ F H (Ext.refl d) (by simp[Rep,strLt])⟩
  ·cases e
def BI:d_ X (g0 .LtE) (λx y H Q=>∃i j,x=.str i/\y=.str j/\Q (.bw (!strLt j i)) H):=by
 intro ai s σ H x y v u Q I aS bt ⟨i,j,aE,aK,q⟩;subst aE aK;obtain⟨t,rfl⟩:=aS;obtain⟨t',rfl⟩:=bt;exact PySem.P.le_str (iv I q (by simp[strLt]))
def PC:d_ X (g0 .GtE) (λx y H Q=>∃i j,x=.str i/\y=.str j/\Q (.bw (!strLt i j)) H):=by
 intro ai s σ H x y v u Q I aS bt ⟨i,j,aE,aK,q⟩;subst aE aK;obtain⟨t,rfl⟩:=aS;obtain⟨t',rfl⟩:=bt;exact PySem.P.ge_str (iv I q (by simp[strLt]))
def Jl:d_ X (g0 .Gt) (λx y H Q=>∃i j,x=.str i/\y=.str j/\Q (.bw (strLt j i)) H):=by
 intro ai s σ H x y v u Q I aS bt ⟨i,j,aE,aK,q⟩;subst aE aK;obtain⟨t,rfl⟩:=aS;obtain⟨t',rfl⟩:=bt;exact PySem.P.gt_str (iv I q (by simp[strLt]))
def B9:nJ X.K oLe (λx y H Q=>kI (λi j=>.bw (decide (i<=j))) x y H Q\/∃i j,x=.str i/\y=.str j/\Q (.bw (!strLt j i)) H):=by
 intro O F H x y t fX fy Q d aS bt e k;unfold oLe at e;split at e
 ·cases e
  rw[aS.int,bt.int];exact .inl ⟨_,_,rfl,rfl,k _ F H (Ext.refl d) (by simp[Rep])⟩
 ·cases e
  rw[aS.str,bt.str];exact .inr ⟨_,_,rfl,rfl,k _ F H (Ext.refl d) (by simp[Rep])⟩
 ·cases e
def Kp:nJ X.K iJ (λx y H Q=>kI (λi j=>.bw (decide (j<i))) x y H Q\/∃i j,x=.str i/\y=.str j/\Q (.bw (strLt j i)) H):=by
 intro O F H x y t fX fy Q d aS bt e k;unfold iJ at e;split at e
 ·cases e
  rw[aS.int,bt.int];exact .inl ⟨_,_,rfl,rfl,k _ F H (Ext.refl d) (by simp[Rep])⟩
 ·cases e
  rw[aS.str,bt.str];exact .inr ⟨_,_,rfl,rfl,k _ F H (Ext.refl d) (by simp[Rep])⟩
 ·cases e
def QY:nJ X.K l2 (λx y H Q=>kI (λi j=>.bw (decide (j<=i))) x y H Q\/∃i j,x=.str i/\y=.str j/\Q (.bw (!strLt i j)) H):=by
 intro O F H x y t fX fy Q d aS bt e k;unfold l2 at e;split at e
 ·cases e
  rw[aS.int,bt.int];exact .inl ⟨_,_,rfl,rfl,k _ F H (Ext.refl d) (by simp[Rep])⟩
 ·cases e
  rw[aS.str,bt.str];exact .inr ⟨_,_,rfl,rfl,k _ F H (Ext.refl d) (by simp[Rep])⟩
 ·cases e
def Kn(aA:dP X a f)(ag:dP X b g)(au:dP X c h)(hm:lastMarks [.LtE,.LtE] [b,c]=false:=by with_unfolding_all rfl):cq X (.Compare a [.LtE,.LtE] [b,c] pos) (chain oLe oLe f g h):=
 ec (aho (Cj.or BI) (Cj.or BI) aA ag au hm) λσ H Q ⟨aM,aO,O,F,ε,t,r,e,k⟩=>by
 simp only[chain,cW] at e;obtain⟨x,ex,y,fV,z,pe,e⟩:=e;refine⟨aM,aO,O,F,ε,x,r,ex,λfX a5 H1 aW aS=>⟨aM,aO,O,a5,ε,y,r.ext aW,fV,λfy dh bo bF bt=>?_⟩⟩;refine B9 (X:=X) O dh bo x y z fX fy _ bF.cK (aS.ext bF) bt pe λv h3 dO e' dR=>?_;split at e
 ·simp only[Rep] at dR;subst dR;simp only[cW] at e;obtain⟨w,n2,cL⟩:=e;refine⟨true,rfl,n' ⟨aM,aO,O,h3,ε,w,((r.ext aW).ext bF).ext e',n2,λma hP hQ hI sM=>?_⟩⟩;exact B9 (X:=X) O hP hQ y w t fy ma _ hI.cK ((bt.ext e').ext hI) sM cL λv kW jh u0 om=>k v kW jh ((((aW.trans bF).trans e').trans hI).trans u0) om
 ·simp only[Rep] at dR;subst dR;cases e;exact⟨false,rfl,qS (k _ h3 dO ((aW.trans bF).trans e') (by simp[Rep]))⟩
 ·cases e
def Ru{j pos'}(aA:dP X a f):cq X (.Compare a [.Is] [.Constant .none j pos'] pos) (dQ gX f):=ec (ajO (QX aA)) λσ H Q ⟨aM,aO,O,F,ε,t,r,e,k⟩=>by
 simp only[dQ,cW] at e;obtain⟨x,ex,e⟩:=e;cases e;refine⟨aM,aO,O,F,ε,x,r,ex,λv a5 H1 aW aS=>k _ a5 H1 aW ?_⟩;cases x with
|none=>rw[aS.eA];simp[Rep]
|bool b=>rw[aS.bw];simp[Rep]
|int b=>rw[aS.int];simp[Rep]
|str b=>rw[aS.str];simp[Rep]
|tuple b=>obtain⟨_,_,e,_⟩:=aS.tup;rw[e];simp[Rep]
|list b=>obtain⟨_,_,e,_⟩:=aS.lst;rw[e];simp[Rep]
|dict b=>rcases aS with aS|⟨_,_,_,z,_⟩;simp[Rep] at aS;cases z
def Rt(aA:dP X a f):cq X (.UnaryOp .USub a pos) (dQ og f):=ec (KO Kf aA) λσ H Q ⟨aM,aO,O,F,ε,t,r,e,k⟩=>by
 simp only[dQ,cW] at e;obtain⟨x,ex,e⟩:=e;unfold og at e;split at e
 ·cases e
  exact⟨aM,aO,O,F,ε,_,r,ex,λv a5 H1 aW aS=>⟨_,aS.int,k _ a5 H1 aW (by simp[Rep])⟩⟩
 ·cases e
noncomputable def Td(K:a')(o:List T->Option T)(R:List V->aF->di->Prop):Prop:=
 ∀(O F:aq->Prop) (H:aF) (ts:List T) (t:T) (vs:List V) (Q:di),f3 F H->Paired (fS K O F H) ts vs->o ts=some t ->
  (∀v aR ak,Ext F H aR ak->Rep K aR ak t v->Q v ak)->R vs H Q
def tB{o:List T->Option T}{R:List V->aF->di->Prop}(hS:Td X.K o R):∀σ H Q,sS X.K (aw o a6) σ H Q->AG R (N6 X.K a6) σ H Q:=by
 rintro σ H Q ⟨aM,aO,O,F,ε,t,r,e,k⟩;simp only[aw,cW] at e;obtain⟨ts,cw,k_⟩:=e;exact⟨aM,aO,O,F,ε,ts,r,cw,λvs a5 H1 aW q=>hS O a5 H1 ts t vs Q aW.cK q k_ λv aR ak e' dR=>k v aR ak (aW.trans e') dR⟩
def oI(hm:X.mg "len"=none)(aA:nK X (e::ar) a6)(a7:et X "len":=by rfl)(he:bL (e::ar) X.env=(false,eval e X.env)::bL ar X.env:=by rfl)(hpl:(fl pos (bL ar X.env)).any (·.1)=false:=by rfl):
  cq X (.Call (.Name "len" p) (e::ar) [] pos) (aw eC a6):=ec (vo (aeU.or aeT) a7 hm PySem.boot_len aA (he:=he) (hpl:=hpl)) (tB (by
 intro O F H ts t vs Q d q e k;unfold eC at e;split at e
 ·cases e
  cases q with
  |cons a4 bO=>
   cases bO
   obtain⟨a,ws,rfl,aB,ax⟩:=a4.tup;exact .inl ⟨a,ws,rfl,.inr aB,k _ F H (Ext.refl d) (by simp[Rep,ax.length])⟩
 ·cases e
  cases q with
  |cons a4 bO=>
   cases bO
   obtain⟨a,ws,rfl,aB,ax⟩:=a4.lst;exact .inl ⟨a,ws,rfl,.inl (.inl aB),k _ F H (Ext.refl d) (by simp[Rep,ax.length])⟩
 ·split at e
  next aI=>
   cases e
   cases q with
   |cons a4 bO=>
    cases bO
    exact .inr ⟨_,by rw[a4.str],by rw[ki];exact aI,k _ F H (Ext.refl d) (by simp[Rep])⟩
  next=>cases e
 ·cases e))
def akF(hm:X.mg "min"=none)(aA:nK X (e::ar) a6)(au:X.calm=true:=by rfl)(a7:et X "min":=by rfl)(he:bL (e::ar) X.env=(false,eval e X.env)::bL ar X.env:=by rfl)(hpl:(fl pos (bL ar X.env)).any (·.1)=false:=by rfl):
  cq X (.Call (.Name "min" p) (e::ar) [] pos) (aw mY a6):=ec (vo (agQ au) a7 hm (by decide +kernel) aA (he:=he) (hpl:=hpl)) (tB (by
 intro O F H ts t vs Q d q e k;unfold mY at e;split at e
 ·cases e
  cases q with
  |cons a4 bO=>
   cases bO with
   |cons bO dR=>
    cases dR
    exact⟨_,_,by rw[a4.int,bO.int],k _ F H (Ext.refl d) (by simp[Rep])⟩
 ·cases e))
def akG(hm:X.mg "max"=none)(aA:nK X (e::ar) a6)(au:X.calm=true:=by rfl)(a7:et X "max":=by rfl)(he:bL (e::ar) X.env=(false,eval e X.env)::bL ar X.env:=by rfl)(hpl:(fl pos (bL ar X.env)).any (·.1)=false:=by rfl):
  cq X (.Call (.Name "max" p) (e::ar) [] pos) (aw mX a6):=ec (vo (agR au) a7 hm (by decide +kernel) aA (he:=he) (hpl:=hpl)) (tB (by
 intro O F H ts t vs Q d q e k;unfold mX at e;split at e
 ·cases e
  cases q with
  |cons a4 bO=>
   cases bO with
   |cons bO dR=>
    cases dR
    exact⟨_,_,by rw[a4.int,bO.int],k _ F H (Ext.refl d) (by simp[Rep])⟩
 ·cases e))
def iP(hm:X.mg "tuple"=none)(aA:nK X (e::ar) a6)(a7:et X "tuple":=by rfl)(he:bL (e::ar) X.env=(false,eval e X.env)::bL ar X.env:=by rfl)(hpl:(fl pos (bL ar X.env)).any (·.1)=false:=by rfl):
  cq X (.Call (.Name "tuple" p) (e::ar) [] pos) (aw dS a6):=ec (PA aeq a7 hm (by decide +kernel) aA (he:=he) (hpl:=hpl)) (tB (by
 intro O F H ts t vs Q d q e k;unfold dS at e;split at e
 ·cases e
  cases q with
  |cons a4 bO=>
   cases bO
   obtain⟨a,ws,rfl,aB,ax⟩:=a4.tup;refine⟨a,ws,rfl,.inr ⟨aB,k _ F H (Ext.refl d) ?_⟩⟩;simp only[Rep];exact⟨a,ws,rfl,aB,ax⟩
 ·cases e
  cases q with
  |cons a4 bO=>
   cases bO
   obtain⟨a,ws,rfl,aB,ax⟩:=a4.lst;refine⟨a,ws,rfl,.inl ⟨.inl aB,λl aH=>?_⟩⟩;have aW:=Ext.laid (o:=.tup ws) d aH;refine k _ F _ aW ?_;simp only[Rep];exact⟨l,ws,rfl,c8.of ep,ax.ext aW⟩
 ·cases e))
def gO(h:dP X e f)(he:∀whole,isTrue e X.env whole=(do let v <- whole;standAt e.pos;holding [v] (truthy v)):=by intro _;rfl):iY X e (a3 f):=vQ (QU h he) λσ H Q ⟨aM,aO,O,F,ε,b,r,e,k⟩=>by
 simp only[a3,cW] at e;obtain⟨t,cw,e⟩:=e;split at e
 ·cases e
  exact⟨aM,aO,O,F,ε,_,r,cw,λv a5 H1 aW aS=>⟨_,aS.bw,k a5 H1 aW⟩⟩
 ·cases e
def Rl{j pos'}(aA:dP X a f):iY X (.Compare a [.Is] [.Constant .none j pos'] pos) (a3 (dQ gX f)):=vQ (ajG (QX aA)) λσ H Q ⟨aM,aO,O,F,ε,t,r,e,k⟩=>by
 simp only[a3,dQ,gX,cW] at e;obtain⟨_,⟨x,ex,aE⟩,e⟩:=e;cases aE;cases e;refine⟨aM,aO,O,F,ε,x,r,ex,λv a5 H1 aW aS=>⟨_,?_,k a5 H1 aW⟩⟩;cases x with
|none=>rw[aS.eA];simp
|bool b=>rw[aS.bw];simp
|int b=>rw[aS.int];simp
|str b=>rw[aS.str];simp
|tuple b=>obtain⟨_,_,e,_⟩:=aS.tup;rw[e];simp
|list b=>obtain⟨_,_,e,_⟩:=aS.lst;rw[e];simp
|dict b=>rcases aS with aS|⟨_,_,_,z,_⟩;simp[Rep] at aS;cases z
def ajp(h:dP X e f)(he:∀whole,isTrue e X.env whole=(do let v <- whole;standAt e.pos;holding [v] (truthy v)):=by intro _;rfl):iY X e (i9 f):=vQ (ahb h he) λσ H Q ⟨aM,aO,O,F,ε,b,r,e,k⟩=>by
 simp only[i9,cW] at e;obtain⟨t,cw,e⟩:=e;have emp:∀{ts:List T} {vs:List V} {a5:aq->Prop} {H1:aF},bl X.K a5 H1 ts vs->ts.isEmpty=vs.isEmpty:=λ{ts vs a5 H1} q=>by
  have:=q.length;cases ts <;> cases vs <;> simp_all
 split at e
 ·cases e
  refine⟨aM,aO,O,F,ε,_,r,cw,λv a5 H1 aW aS=>?_⟩
  obtain⟨a,vs,rfl,aB,ax⟩:=aS.lst;exact⟨_,.inl ⟨vs,.inl aB,by rw[emp ax]⟩,k a5 H1 aW⟩
 ·cases e
  refine⟨aM,aO,O,F,ε,_,r,cw,λv a5 H1 aW aS=>?_⟩
  obtain⟨a,vs,rfl,aB,ax⟩:=aS.tup;exact⟨_,.inr (.inl ⟨vs,aB,by rw[emp ax]⟩),k a5 H1 aW⟩
 ·cases e
def gC(h:iY X e dZ):iY X (.UnaryOp .Not e pos) (dq dZ):=vQ (ajF h) λσ H Q ⟨aM,aO,O,F,ε,b,r,e,k⟩=>by
 simp only[dq,hh] at e;obtain⟨c,ht,rfl⟩:=e;exact⟨aM,aO,O,F,ε,c,r,ht,λa5 H1 aW=>k a5 H1 aW⟩
def ama(h:iY X e dZ):rS X (.BoolOp .And [e] pos) dZ:=Qu h
def iR(h:iY X e dZ):rS X (.BoolOp .Or [e] pos) dZ:=ajE h
def w_and(h:iY X a dZ)(ao:rS X (.BoolOp .And (b::ar) pos) gt):rS X (.BoolOp .And (a::b::ar) pos) (e6 dZ gt):=Rf (QT h ao) λσ H Q ⟨aM,aO,O,F,ε,b,r,e,k⟩=>by
 simp only[e6,cW] at e;obtain⟨c,ht,e⟩:=e;refine⟨aM,aO,O,F,ε,c,r,ht,λa5 H1 aW=>?_⟩;cases c with
|true=>exact n' ⟨aM,aO,O,a5,ε,b,r.ext aW,by simpa using e,λdh bo bF=>k dh bo (aW.trans bF)⟩
|false=>
  have:b=false:=by simpa using e.symm
  subst this;exact qS (k a5 H1 aW)
def w_or(h:iY X a dZ)(ao:rS X (.BoolOp .Or (b::ar) pos) gt):rS X (.BoolOp .Or (a::b::ar) pos) (dB dZ gt):=Rf (akH h ao) λσ H Q ⟨aM,aO,O,F,ε,b,r,e,k⟩=>by
 simp only[dB,cW] at e;obtain⟨c,ht,e⟩:=e;refine⟨aM,aO,O,F,ε,c,r,ht,λa5 H1 aW=>?_⟩;cases c with
|true=>
  have:b=true:=by simpa using e.symm
  subst this;exact n' (k a5 H1 aW)
|false=>exact qS ⟨aM,aO,O,a5,ε,b,r.ext aW,by simpa using e,λdh bo bF=>k dh bo (aW.trans bF)⟩
def gx(h:rS X e dZ):iY X e dZ:=h.pt
end
end
section
variable [cB]
noncomputable def spT(K:a')(n:Nat)(d:List T->Option T):mC:=λvs H Q _=>vs.length=n/\∃F ts t,f3 F H/\bl K F H ts vs/\d ts=some t/\∀v aR ak,Ext F H aR ak->Rep K aR ak t v->Q v ak
section
variable {X:aV}{k n:Nat}{cU:aq}{fd:fa}{ps:List Str}{d:List T->Option T}{x:Str}{p pos:Pos}{e:bk}{ar:List bk}{a6:List a_}
def ajD(F:gD X.prog X.w X.K X.mg X.base e5 k cU fd ps (spT X.K n d))(ax:eN k X.A)(a7:et X x)(hm:X.mg x=some (.ref cU))(a0:al6 X.K (.ref cU)=true)(ag:Binds X.K fd ps [])
  (aA:qs X (e::ar) a6) (bf:a6.length=n:=by rfl) (ib:(x==("__debug__":Str))=false:=by decide) (he:bL (e::ar) X.env=(false,eval e X.env)::bL ar X.env:=by rfl) (hpl:(fl pos (bL ar X.env)).any (·.1)=false:=by rfl):
  cq X (.Call (.Name x p) (e::ar) [] pos) (aw d a6):=ec (Qx F ax a7 hm a0 ag .nil akL aA ib he hpl) λσ H Q ⟨aM,aO,O,F,ε,t,r,e,k⟩=>by
 simp only[aw,cW] at e;obtain⟨ts,cw,Wv⟩:=e;have aH:∀(gr:List a_) (us:List T),args gr ε=some us->us.length=gr.length:=by
  intro gr
  induction gr with
  |nil=>intro us e;cases e;rfl
  |cons g gr d0=>
   intro us e;simp only[args,cW,hh] at e;obtain⟨t,_,vs,ev,rfl⟩:=e;simp[d0 vs ev]
 refine⟨aM,aO,O,F,ε,ts,r,cw,λvs a5 H1 aW q=>⟨?_,a5,ts,t,aW.cK,by simpa using q,Wv,λv aR ak bF bO=>k v aR ak (aW.trans bF) bO⟩⟩
 rw[ov,<- q.length,aH a6 ts cw,bf]
end
section
variable {P:c3}{w:cf}{K:a'}{mg:Str->Option av}{base:bP}
def Pb{F:aq->Prop}{H:aF}{ts:List T}{vs:List V}{N:List Str}(cK:f3 F H)(q:bl K F H ts vs)(n:Nat):
  cZ K F ⟨H,0⟩ (λa=>H a=none) F H ((ts.map λt=>some (.ae t))++dT n none) (vs.map some++dT n none):=by
 have ae:∀(i:Nat) (s:bQ),((ts.map λt=>some (bQ.ae t))++dT n none)[i]?=some (some s)->∃t,s=.ae t/\ts[i]?=some t:=by
  intro i s e;by_cases hi:i<ts.length
  ·rw[u4 (by simpa using hi),alZ] at e;rw[hK hi] at e ⊢;simp at e;exact⟨_,e.symm,rfl⟩
  ·rw[u3 (by simpa using hi),List.getElem?_replicate] at e;split at e <;> cases e
 refine⟨by simp[q.length],λi s e=>?_,λi j s u v w qK aE aK d1=>?_,Ext.refl cK,λ_ h=>h,λ_ h=>h⟩
 ·obtain⟨t,rfl,aN⟩:=ae i s e;obtain⟨v,ba,cn⟩:=q.get aN;refine⟨v,?_,cn⟩;rw[u4 (by have:=(gy.mp ba).1;simpa using this),alZ,ba];rfl
 ·obtain⟨t,rfl,_⟩:=ae i s aE;cases d1
def akd{x qual:Str}{st:Stmt}{f:aq}{fd:fa}{N ps:List Str}{k:Nat}{b:bx}(F:cE K x qual st f fd)(S:cY N ps (bS st))
  (ag:∀(bY:av) (A:dk) (outer:List Env) (s:aP) (H:aF) (E:gE),eN k (A.deeper (envOfC qual (bS st) s.heap.objs.size f bY)) ->
   kX (gQ e5 P w K mg base N qual (bS st) f bY A outer s H E).eU (hk st) b):
  gD P w K mg base e5 (k+1) f fd ps (spT K ps.length (bV b N.length)):=by
 refine F.ok S (λvs H Q E h=>h.1) λbY A outer s H vs Q E ax h=>⟨_,ag bY A outer s H E ax,?_⟩
 obtain⟨aH,F,ts,t,cK,q,e,mV⟩:=h;simp only[bV,cW] at e;obtain⟨o,k_,e⟩:=e;refine⟨F,⟨H,0⟩,λa=>H a=none,F,_,o,?_,k_,?_⟩
 ·have:=Pb (N:=N) cK q (N.length - ts.length);unfold bB.start;rw[q.length] at this ⊢;exact this
 ·cases o with
  |ee t'=>
   cases e
   exact λv aR ak x q=>mV v aR ak x q
  |bg ε'=>
   cases e
   exact λbR aR ak _ r=>mV _ aR ak r.ent (by simp[Rep])
  |f7 _=>cases e
  |bJ _=>cases e
  |j6 _ _=>cases e
  |m4 _=>cases e
end
end
section
variable [cB]
noncomputable def gn(env:Env):List (Str×lB)->List (Str×aq)->List (Str×aq)
| [],cs=>cs
|x::r,cs=>if x.2==.free then gn env r ((x.1,(env.cells.lookup x.1).getD 0)::cs) else gn env r cs
def OH{scope:Scope}{env:Env}(h:∀x∈scope.names,x.2=.free->∃c,env.cells.lookup x.1=some c):closureFor scope env=pure (gn env scope.names []):=by
 have go:∀(l:List (Str×lB)) (cs:List (Str×aq)),(∀x∈l,x.2=.free->∃c,env.cells.lookup x.1=some c) ->
   (forIn l cs (λx r=>(if (x.2==NameKind.free)=true then do let a <- cellOf env x.1;pure (ForInStep.yield ((x.1,a)::r)) else pure (ForInStep.yield r)):_->_->Sem (ForInStep (List (Str×aq)))):Sem (List (Str×aq)))=pure (gn env l cs):=by
  intro l
  induction l with
  |nil=>intro cs _;rfl
  |cons x r d0=>
   intro cs aH;rw[List.forIn_cons];have ax:=λy b1=>aH y (ew _ b1);by_cases k:x.2=.free
   ·obtain⟨c,au⟩:=aH x m_ k;have aE:(x.2==NameKind.free)=true:=by simp[k]
    simp only[aE,if_true,cellOf,au,gn,Option.getD_some];exact d0 _ ax
   ·have aE:(x.2==NameKind.free)=false:=by simpa using k
    simp only[aE,q8,if_false,gn];exact d0 _ ax
 have:=go scope.names [] h;simp only[closureFor];exact congrArg (λm=>m >>= λcs=>pure cs) this
theorem yk{env:Env}:∀{l:List (Str×lB)} {cs:List (Str×aq)},(∀x∈l,x.2=.free->∃c,env.cells.lookup x.1=some c)->(∀x c,cs.lookup x=some c->env.cells.lookup x=some c)->∀x c,(gn env l cs).lookup x=some c->env.cells.lookup x=some c
| [],cs,_,h,x,c,e=>h x c e
|y::r,cs,aH,h,x,c,e=>by
  unfold gn at e;have ax:=λz aI=>aH z (ew _ aI);split at e
  next k=>
   refine yk ax (λx c e=>?_) x c e
   rw[nc] at e;split at e
   next ag=>
    obtain⟨cC,au⟩:=aH y m_ (by simpa using k);have:x=y.1:=by simpa using ag
    subst this;rw[au] at e ⊢;simpa using e
   next=>exact h x c e
  next=>exact yk ax h x c e
theorem vq{env:Env}:∀{l:List (Str×lB)} {cs:List (Str×aq)} {x:Str},((∃y∈l,y.2=.free/\y.1=x)\/∃c,cs.lookup x=some c)->∃c,(gn env l cs).lookup x=some c
| [],cs,x,h=>by
  rcases h with ⟨y,b1,_⟩|h
  ·cases b1
  ·exact h
|y::r,cs,x,h=>by
  unfold gn;split
  next k=>
   refine vq ?_
   rcases h with ⟨z,aI,ie,e⟩|⟨c,h⟩
   ·rcases bC.mp aI with rfl|aI
    ·refine .inr ?_
     subst e;rw[nc];simp
    ·exact .inl ⟨z,aI,ie,e⟩
   ·refine .inr ?_
    rw[nc];split
    ·exact⟨_,rfl⟩
    ·exact⟨c,h⟩
  next k=>
   refine vq ?_
   rcases h with ⟨z,aI,ie,e⟩|h
   ·rcases bC.mp aI with rfl|aI
    ·exact absurd (by simpa using ie) k
    ·exact .inl ⟨z,aI,ie,e⟩
   ·exact .inr h
noncomputable def iw(X:aV)(we:List Str)(scope:Scope)(cl:List (Str×aq))(C:aq)(c':aP)(aO:aF)(cb:List aq)(dn:List (aq×Obj)):aV where
 prog:=X.prog
 w:=X.w
 K:=X.K
 mg:=X.mg
 base:=X.base
 A:=X.A
 N:=we
 c':=c'
 aO:=aO
 env:=compEnvC scope cl C X.env
 outer:=X.stack
 stack:=X.stack
 ex:=cb
 fn:=λ_=>false
 calm:=X.calm
 dn:=dn
 dg:=λ_ _=>False
noncomputable def rR(X:aV)(ifs:List bk)(i2:ej):Prop:=∀(ai:List (aq×Obj)) (s:aP) (σ:bB.St) (H:aF) (Q:Bool->aF->Prop),bB.Inv X ai σ H s->AI X.K i2 σ H Q ->
 bE (bN X.prog X.w) X.A (forIn ifs true λc r=>if r=true then do let ok <- isTrue c X.env (eval c X.env);pure (ForInStep.yield ok) else pure (ForInStep.yield r)) (zl X ai σ Q) X.dg s
def gi{X:aV}:rR X [] (ct true):=λai s σ H Q I ⟨aM,aO,O,F,ε,b,r,e,k⟩=>by
 cases e
 exact wpAny_tests_nil ⟨H,I,k F H (Ext.refl r.cK)⟩
def vE{X:aV}{c:bk}{i2:ej}(h:iY X c i2):rR X [c] i2:=λai s σ H Q I q=>wpAny_tests_one (h ai s σ H Q I q)
section
variable {prog:c3}{w:cf}{A:dk}{R:Result->aP->Prop}{s:aP}
def aeR{elt target iter:bk}{ifs:List bk}{scope:Scope}{pos:Pos}{it acc:av}{env:Env}(I:Nat->aP->Prop)
  (turn:∀n s,I n s->bE (bN prog w) A (pyNext it) (λr dx=>match r with
   |none=>R (.ok .next) dx
   |some v=>bE (bN prog w) A (letOwnedTupleGo target it v) (λ_ N3=>bE (bN prog w) A (assign target env v) (λ_ l8=>
     bE (bN prog w) A (forIn ifs true λc r=>if r=true then do let ok <- isTrue c env (eval c env);pure (ForInStep.yield ok) else pure (ForInStep.yield r)) (λok sP=>
      if ok=true then bE (bN prog w) A (eval elt env) (λx N4=>
       bE (bN prog w) A (call (.builtin "list.append") [acc,x]) (λ_ N5=>∃m,m<n/\I m N5) (λ_ _=>False) N4) (λ_ _=>False) sP
      else ∃m,m<n/\I m sP) (λ_ _=>False) l8) (λ_ _=>False) N3) (λ_ _=>False) dx) (λ_ _=>False) s)
  (n:Nat) (h:I n s):jb (bN prog w) A (.compLoop (.ListComp elt [⟨target,iter,ifs,0⟩] scope pos) 0 it acc env) R s:=by
 refine codeAny_loop rfl I (λn s W5=>?_) n h
 show bE _ A ((compTurn (.ListComp elt [⟨target,iter,ifs,0⟩] scope pos) 0 it acc env).onRaise (λx=>do noteFrame x env;theTreesLotGoes x)) _ _ s
 refine wpAny_noted ?_
 rw[compTurn_list];refine aZ (wpAny_standAt (aZ (fA (turn n s W5) (λr dx hB=>?_) λ_ _ h'=>h'.elim)));cases r with
|none=>exact cc hB
|some v=>
  refine aZ (fA hB (λ_ N3 Ye=>?_) λ_ _ h'=>h'.elim)
  refine aZ (fA Ye (λ_ l8 sk=>aZ (fA sk (λok sP pC=>?_) λ_ _ h'=>h'.elim)) λ_ _ h'=>h'.elim)
  cases ok with
  |false=>exact cc ⟨rfl,pC⟩
  |true=>
   exact aZ (aZ (fA pC (λx N4 uG=>aZ (fA uG (λ_ N5 gU=>cc (cc ⟨rfl,gU⟩)) λ_ _ h'=>h'.elim)) λ_ _ h'=>h'.elim))
end
end
section
variable [cB]
theorem OA{env:Env}{k:lB}:∀{names:List (Str×lB)} {x:Str},names.lookup x=some k->∃ie,(names.map λ(n,k)=>if (k==NameKind.free && env.scope.kind==.function && env.kindOf n==some .cell) then (n,NameKind.cell) else (n,k)).lookup x=some ie/\(ie=k\/(k=.free/\ie=.cell))
  | [],x,h=>by simp at h
  | (n,j)::r,x,h=>by
    have d0:=@OA env k r x;show ∃ie,List.lookup x ((if (j==NameKind.free && env.scope.kind==.function && env.kindOf n==some .cell)=true then (n,NameKind.cell) else (n,j))::_)=some ie/\_;cases hx:x==n with
    |true=>
      simp only[nc,hx] at h;cases h;by_cases au:(k==NameKind.free && env.scope.kind==.function && env.kindOf n==some .cell)=true
      · rw[if_pos au]
        refine⟨.cell,by simp[nc,hx],.inr ⟨?_,rfl⟩⟩
        simp only[cX] at au;simpa using au.1.1
      · rw[if_neg au]
        exact⟨k,by simp[nc,hx],.inl rfl⟩
    |false=>
      simp only[nc,hx] at h;obtain⟨ie,ah,ao⟩:=d0 h;refine⟨ie,?_,ao⟩;by_cases au:(j==NameKind.free && env.scope.kind==.function && env.kindOf n==some .cell)=true
      · rw[if_pos au];simp only[nc,hx];exact ah
      · rw[if_neg au];simp only[nc,hx];exact ah
def mem_lookup{names:List (Str×lB)}{x:Str}{k:lB}(h:names.lookup x=some k):∃y∈names,y.2=k/\y.1=x:=by
 induction names with
|nil=>simp at h
|cons y r d0=>
  rw[nc] at h;split at h
  next ag=>
   cases h
   exact⟨y,m_,rfl,by simpa using (beq_iff_eq.mp ag).symm⟩
  next=>
   obtain⟨z,aI,ah,ao⟩:=d0 h;exact⟨z,ew _ aI,ah,ao⟩
def aeB{scope:Scope}{env:Env}(uy:∀y∈scope.names,y.2≠.cell){x:Str}(h:(relabel scope env).names.lookup x=some .cell\/(relabel scope env).names.lookup x=some .free):∃y∈scope.names,y.2=.free/\y.1=x:=by
 have go:∀{k:lB},(relabel scope env).names.lookup x=some k->(k=.cell\/k=.free)->∃y∈scope.names,y.2=.free/\y.1=x:=λ{k} e a0=>by
  obtain⟨y,b1,ah,ao⟩:=mem_lookup e;obtain⟨⟨n,j⟩,aI,aK⟩:=b2.mp (show y∈scope.names.map _ from b1);by_cases au:(j==NameKind.free && env.scope.kind==.function && env.kindOf n==some .cell)=true
  ·have c_:(n,NameKind.cell)=y:=by
    have gG:(if (j==NameKind.free && env.scope.kind==.function && env.kindOf n==some .cell)=true then (n,NameKind.cell) else (n,j))=y:=aK
    rwa [if_pos au] at gG
   subst c_;simp only[cX] at au;exact⟨(n,j),aI,by simpa using au.1.1,ao⟩
  ·have c_:(n,j)=y:=by
    have gG:(if (j==NameKind.free && env.scope.kind==.function && env.kindOf n==some .cell)=true then (n,NameKind.cell) else (n,j))=y:=aK
    rwa [if_neg au] at gG
   subst c_;rcases a0 with rfl|rfl
   ·exact absurd ah (uy _ aI)
   ·exact⟨(n,j),aI,ah,ao⟩
 rcases h with h|h
 ·exact go h (.inl rfl)
 ·exact go h (.inr rfl)
def cZ.other{K:a'}{aM O F:aq->Prop}{E:iC}{H:aF}{ε:Ev}{σ:bB.St}{a:aq}{xs ys:List V}(r:cZ K aM E O F H ε σ)(bf:¬F a)(aT:¬O a)(h0:E.h a=none)(aA:H a=some (.lst xs)):
  d9 K F H F (upd H a (.lst ys))/\cZ K aM E O F (upd H a (.lst ys)) ε σ:=by
 have hm:nH (.lst xs):=.inl ⟨_,rfl⟩;have aQ:d9 K F H F (upd H a (.lst ys)):=QB bf aA hm;have keep:∀(u:bQ) (w:V),fQ K E O F H u w->fQ K E O F (upd H a (.lst ys)) u w/\eu (upd H a (.lst ys)) u w=eu H u w:=by
  intro u w e3;refine e3.keep aQ (λb ag=>cp ?_) (λ_ _ f=>f) λ_ _ o=>o;rintro rfl;cases al5:u.lh with
  |true=>exact aT ((e3.held ag).2.1 al5)
  |false=>exact (e3.held ag).2.2 al5 h0
 refine⟨aQ,⟨r.len,λj u e=>?_,λi j s u v w qK aE aK d1 eB ah ao=>?_,Qk r.ent h0 bf aA hm,r.o0,λb e=>r.fr b ?_⟩⟩
 ·obtain⟨v,ah,ao⟩:=r.val j u e;exact⟨v,ah,(keep u v ao).1⟩
 ·obtain⟨lu,f',bj⟩:=r.val i s aE;obtain⟨gM,gb,cF⟩:=r.val j u aK;rw[ah] at f';rw[ao] at gb;cases f';cases gb;rw[(keep s v bj).2,(keep u w cF).2];exact r.ne i j s u v w qK aE aK d1 eB ah ao
 ·by_cases nb:b=a
  ·subst nb;rw[ep] at e;cases e
  ·rwa [cp nb] at e
def Cv(n:Nat)(caps:List Nat)(σ:bB.St):bB.St:=dT n none++caps.map λi=>(σ[i]?).join
def join_some{α:Type}{o:Option (Option α)}{x:α}(h:o.join=some x):o=some (some x):=by
 cases o with
|none=>cases h
|some o=>exact congrArg some h
def vB{α:Type}{n:Nat}{caps:List Nat}{l:List (Option α)}{i:Nat}{x:α}(h:(dT n none++caps.map λi=>(l[i]?).join)[i]?=some (some x)):∃j,n<=i/\caps[i - n]?=some j/\l[j]?=some (some x):=by
 by_cases hi:i<n
 ·rw[u4 (by simpa using hi),List.getElem?_replicate] at h;rw[if_pos hi] at h;cases h
 ·rw[u3 (by simpa using hi),List.length_replicate,alZ] at h;cases e:caps[i - n]? with
  |none=>
   rw[e] at h;cases h
  |some j=>
   rw[e] at h;exact⟨j,by omega,rfl,join_some (iN h)⟩
def aiS{α:Type}{n:Nat}{caps:List Nat}{l:List (Option α)}{i j:Nat}{x:α}(hi:n<=i)(au:caps[i - n]?=some j)(h:l[j]?=some (some x)):(dT n none++caps.map λi=>(l[i]?).join)[i]?=some (some x):=by
 rw[u3 (by simpa using hi),List.length_replicate,alZ,au];simp[h]
def cZ.Ez{K:a'}{aM O F:aq->Prop}{E:iC}{H:aF}{ε:Ev}{σ:bB.St}{D:aq}(r:cZ K aM E O F H ε σ)(n:Nat){caps:List Nat}(bb:caps.Nodup)(n5:H D=none):
  cZ K aM E (λa=>O a/\a≠D) F (upd H D (.lst [])) (hn n caps ε) (Cv n caps σ):=by
 have x:=Ext.laid (o:=.lst []) r.cK n5;have keep:∀(u:bQ) (w:V),fQ K E O F H u w->fQ K E (λa=>O a/\a≠D) F (upd H D (.lst [])) u w/\eu (upd H D (.lst [])) u w=eu H u w:=by
  intro u w e3;have nb:∀b∈eu H u w,b≠D:=λb ag z=>by
   obtain⟨o,e,_⟩:=e3.at ag;rw[z,n5] at e;cases e
  exact e3.keep x.aQ (λb ag=>cp (nb b ag)) (λ_ _ f=>f) λb ag o=>⟨o,nb b ag⟩
 refine⟨by simp[hn,Cv],λi s e=>?_,λi j s u v w qK aE aK d1 eB ah ao=>?_,r.ent.trans x,λa h=>r.o0 a h.1,λa h=>?_⟩
 ·obtain⟨j,bf,au,bu⟩:=vB e;obtain⟨v,ah,ao⟩:=r.val j s bu;exact⟨v,aiS bf au ah,(keep s v ao).1⟩
 ·obtain⟨Gm,hi,ci,k7⟩:=vB aE;obtain⟨qU,cS,Ml,h_⟩:=vB aK;obtain⟨c6,_,Mk,f'⟩:=vB (l:=σ) ah;obtain⟨xg,_,Mm,gb⟩:=vB (l:=σ) ao;rw[ci] at Mk;rw[Ml] at Mm;cases Mk;cases Mm;obtain⟨lu,a4,bj⟩:=r.val Gm s k7;obtain⟨gM,bO,cF⟩:=r.val qU u h_;rw[f'] at a4;rw[gb] at bO;cases a4;cases bO;rw[(keep s v bj).2,(keep u w cF).2];refine r.ne Gm qU s u v w (λz=>?_) k7 h_ d1 eB f' gb;subst z;obtain⟨cV,hD⟩:=gy.mp ci;obtain⟨cN,hE⟩:=gy.mp Ml;have ne:i - n≠j - n:=by omega
  rcases Nat.lt_or_gt_of_ne ne with q|q
  ·exact (List.pairwise_iff_getElem.mp bb _ _ cV cN q) (hD.trans hE.symm)
  ·exact (List.pairwise_iff_getElem.mp bb _ _ cN cV q) (hE.trans hD.symm)
 ·have bb:a≠D:=by
   rintro rfl;rw[ep] at h;cases h
  rw[cp bb] at h;exact⟨r.fr a h,bb⟩
end
section
variable [cB]
structure rK(X:aV)(scope:Scope)(own:List Str)(caps:List (Nat×Str)):Prop where
 kind:scope.kind=.function
 names:∀y∈scope.names,y.2=.local->scope.names.lookup y.1=some .local
 cell:∀y∈scope.names,y.2≠.cell
 free:∀y∈scope.names,y.2=.free->X.env.kindOf y.1=some .cell\/X.env.kindOf y.1=some .free
 Ez:∀p∈caps,X.N[p.1]?=some p.2/\scope.names.lookup p.2=some .free
 bb:(caps.map (·.1)).Nodup
 calm:X.calm=true
section
variable {X:aV}{dr iter elt:bk}{ifs:List bk}{scope:Scope}{it:iW}{i4:h4}{i2:ej}{e0:a_}{pos:Pos}{own:List Str}{caps:List (Nat×Str)}
def QE{ai:List (aq×Obj)}{σ:bB.St}{bo:aF}{s2:aP}{cb:List aq}(S:rK X scope own caps)(cg:bB.Inv X ai σ bo s2)(f2:∀b∈cb,my X ai bo b)(r':∀b∈cb,b<s2.heap.objs.size)(we:List Str):
  (iw X we scope (gn X.env scope.names []) (s2.heap.push {cls:=.type "list",data:=.seq ([]:List av).toArray}).objs.size {s2 with heap:=s2.heap.push {cls:=.type "list",data:=.seq ([]:List av).toArray} } (upd bo s2.heap.objs.size (.lst [])) cb (X.dn++ai)).Ok:=by
 have qJ:∀x∈scope.names,x.2=.free->∃c,X.env.cells.lookup x.1=some c:=λx hx a0=>cg.ok.has x.1 (S.free x hx a0);have r0:∀x c,(gn X.env scope.names []).lookup x=some c->X.env.cells.lookup x=some c:=yk qJ (λx c e=>by simp at e);have es:=cg.su (its:=[]) (ys:=[]) (t':=s2.toks) .nil (ow _);have l7:(s2.heap.push {cls:=.type "list",data:=.seq ([]:List av).toArray}).objs.size=s2.heap.objs.size+1:=m' ..;refine⟨cg.ok.mod,S.kind,cg.ok.glob,cg.ok.blt,eo _,λx y c aE aK=>cg.ok.inj x y c (r0 x c aE) (r0 y c aK),λx hx=>?_,λx c h=>(by cases h),cg.ok.hd,cg.ok.frames,.inl rfl,λb ag=>⟨?_,λx c e=>(f2 b ag).2.2.2.2.1 x c (r0 x c e)⟩,λb o e=>?_,?_,λb o e ag=>?_,λb ag hf=>?_,es.stack,es.IB⟩
 ·exact vq (.inl (aeB S.cell hx))
 ·show b≠(s2.heap.push {cls:=.type "list",data:=.seq ([]:List av).toArray}).objs.size
  have h:=r' b ag;rw[l7];exact eg (Nat.lt_succ_of_lt h)
 ·obtain⟨ah,ao⟩:=es.bs b o e;exact⟨ah,ao⟩
 ·have ah:=nd cg.ok.nS cg.l7;show X.base.objs.size<=(s2.heap.push {cls:=.type "list",data:=.seq ([]:List av).toArray}).objs.size;omega
 ·rcases (f2 b ag).2.2.2.1 with q|q
  ·exact cg.ok.sz b o e q
  ·exact absurd (il (dj (cg.ok.bs b o e).1) q) (Nat.lt_irrefl _)
 ·rcases bC.mp (cg.AB b hf) with q|q
  ·exact (f2 b ag).2.1 q
  ·exact (f2 b ag).2.2.1 q
def ahY{ai:List (aq×Obj)}{σ:bB.St}{bo:aF}{s2:aP}{cb:List aq}(S:rK X scope own caps)(cg:bB.Inv X ai σ bo s2)(f2:∀b∈cb,my X ai bo b)(r':∀b∈cb,b<s2.heap.objs.size){hB:bP}{m:Str->Option av}{tk:Nat}
  (n9:hB.Ns (s2.heap.push {cls:=.type "list",data:=.seq ([]:List av).toArray}).objs.size m) (keep:∀b u,(s2.heap.push {cls:=.type "list",data:=.seq ([]:List av).toArray}).get? b=some u->hB.get? b=some u):
  bB.Inv (iw X (own++caps.map (·.2)) scope (gn X.env scope.names []) (s2.heap.push {cls:=.type "list",data:=.seq ([]:List av).toArray}).objs.size {s2 with heap:=s2.heap.push {cls:=.type "list",data:=.seq ([]:List av).toArray} } (upd bo s2.heap.objs.size (.lst [])) cb (X.dn++ai)) []
   (Cv own.length (caps.map (·.1)) σ) (upd bo s2.heap.objs.size (.lst [])) {s2 with heap:=hB,toks:=tk}:=by
 have qJ:∀x∈scope.names,x.2=.free->∃c,X.env.cells.lookup x.1=some c:=λx hx a0=>cg.ok.has x.1 (S.free x hx a0);have r0:∀x c,(gn X.env scope.names []).lookup x=some c->X.env.cells.lookup x=some c:=yk qJ (λx c e=>by simp at e);have es:=cg.su (its:=[]) (ys:=[]) (t':=s2.toks) .nil (ow _);refine⟨QE S cg f2 r' _,rfl,cg.bare,fF.kept keep,⟨m,n9,λi x v ah ao ba=>?_⟩,λx c e=>?_,?_,λx c e=>es.jk x c (r0 x c e),λp aC=>?_,es.bW.kept keep,by simp[Cv,iw]⟩
 ·obtain⟨j,bf,au,cS⟩:=vB (l:=σ) ao;have hx:(caps.map (·.2))[i - own.length]?=some x:=by
   have:(own++caps.map (·.2))[i]?=some x:=ah
   rwa [u3 bf] at this
  rw[alZ] at au hx;cases cL:caps[i - own.length]? with
  |none=>rw[cL] at au;cases au
  |some p=>
   rw[cL] at au hx;cases au;cases hx;obtain⟨dA,hf⟩:=S.Ez p (List.mem_of_getElem? cL);obtain⟨y,b1,k1,k2⟩:=mem_lookup hf;have a0:=S.free y b1 k1;rw[k2] at a0;obtain⟨js,zY,F5⟩:=es.loc;have adP:nP X.env.scope p.2:=by
    rcases a0 with a0|a0
    ·exact .inr (.inl a0)
    ·exact .inr (.inr a0)
   obtain⟨u,e3,Zm⟩:=F5 p.1 p.2 v dA cS adP;refine⟨u,e3,.inr ⟨?_,?_⟩⟩
   ·obtain⟨ie,aE,aK⟩:=OA (env:=X.env) hf;rcases aK with rfl|⟨_,rfl⟩
    ·exact .inr aE
    ·exact .inl aE
   ·rcases Zm with ⟨q,_⟩|⟨_,c,au,uy⟩
    ·rcases a0 with a0|a0
     ·rw[a0] at q;cases q
     ·rw[a0] at q;cases q
    ·obtain⟨cC,cj⟩:=vq (env:=X.env) (l:=scope.names) (cs:=[]) (x:=p.2) (.inl ⟨y,b1,k1,k2⟩);have:=r0 _ _ cj;rw[au] at this;cases this;obtain⟨gY,aT,hd⟩:=uy;exact⟨c,cj,gY,keep _ _ aT,hd⟩
 ·obtain⟨v,gY,aT,hd⟩:=es.cell x c (r0 x c e);exact⟨v,gY,keep _ _ aT,hd⟩
 ·exact es.bW.fresh (eo _)
 ·have sf:p∈X.dn++ai:=by simpa [iw] using aC
  obtain⟨ah,ao,aY,bZ,ft⟩:=es.pin p sf;refine⟨keep _ _ ah,ao,eg (dj ah),λz=>?_,ft⟩;rcases bC.mp (cg.AB p.1 z) with q|q
  ·exact aY q
  ·exact bZ q
def af0{ai:List (aq×Obj)}{σ bR:bB.St}{bo ak:aF}{s2 s':aP}{cb:List aq}{we:List Str}(cg:bB.Inv X ai σ bo s2)(f2:∀b∈cb,my X ai bo b)
  (J:bB.Inv (iw X we scope (gn X.env scope.names []) (s2.heap.push {cls:=.type "list",data:=.seq ([]:List av).toArray}).objs.size {s2 with heap:=s2.heap.push {cls:=.type "list",data:=.seq ([]:List av).toArray} } (upd bo s2.heap.objs.size (.lst [])) cb (X.dn++ai)) [] bR ak s')
  {h':bP} (lp:Heap.SameBut (s2.heap.push {cls:=.type "list",data:=.seq ([]:List av).toArray}).objs.size s'.heap h'):bB.Inv X ai σ ak {s' with heap:=h'}:=by
 have es:=cg.su (its:=[]) (ys:=[]) (t':=s2.toks) .nil (ow _);have u:=J.base;have free:ak (s2.heap.push {cls:=.type "list",data:=.seq ([]:List av).toArray}).objs.size=none:=J.free;have old:∀b o,(s2.heap.push {cls:=.type "list",data:=.seq ([]:List av).toArray}).get? b=some o->b≠(s2.heap.push {cls:=.type "list",data:=.seq ([]:List av).toArray}).objs.size:=λb o e=>eg (dj e);have zJ:∀b,b≠(s2.heap.push {cls:=.type "list",data:=.seq ([]:List av).toArray}).objs.size->∀o,s'.heap.get? b=some o->h'.get? b=some o:=λb ag o e=>lp.extBut b o ag e;have AM:fF (eG X.stack) cb (upd bo s2.heap.objs.size (.lst [])) ak (s2.heap.push {cls:=.type "list",data:=.seq ([]:List av).toArray}) h':=by
  refine⟨λb o e n hf hx=>zJ b (old b o e) _ (u.keep b o e n hf hx),λb o e n hf hx=>?_,u.free,λb o e hx=>?_,u.j_,u.jl,u.jy⟩
  ·obtain⟨b_,q⟩:=u.slot b o e n hf hx;exact⟨b_,zJ b (old b o e) _ q⟩
  ·obtain⟨o',q⟩:=u.there b o e hx;exact⟨o',zJ b (old b o e) _ q⟩
 have bW:eZ X.prog X.w ak h':=λb o e=>by
  refine (J.bW b o e).kJ (λc v au q=>zJ c (λz=>?_) v q) (λ_ q=>q) λ_ _ q=>q
  rcases au with rfl|au
  ·rw[z,free] at e;cases e
  ·rw[z,free] at au;cases au
 have kC:=J.os;have Xd:=J.bare;obtain⟨c4,g,d,t,os⟩:=s';obtain rfl:os=s2.os:=kC;have fin:=es.call (h':=h') (g':=g) (d':=d) (t':=t) (ch:=cb) AM bW Xd λb ag=>⟨(f2 b ag).2.2.2.1,(f2 b ag).2.1,(f2 b ag).2.2.2.2.1,(f2 b ag).2.2.2.2.2⟩;exact fin
def agL{X':aV}{R:Result->aP->Prop}{J:jI}{cb:List aq}{Gn D:aq}{ik:Nat->bP->Prop}{aM O a5:aq->Prop}{aO:iC}{bo:aF}{ts ys:List T}(hx:X'.dg=λ_ _=>False)(au:X'.calm=true)(a7:oY X' dr i4)(aN:rR X' ifs i2)(he:cq X' elt e0)
  (T:Turn X'.prog X'.w X'.K dr J cb Gn ik) (sO:∀ak:aF,(∀b∈cb,ak b=none)->∀b∈cb,my X' [] ak b) (ok:nI X'.K J a5 bo ts) (MF:ts.length<=big) (r6:bo D=none) (kx:¬O D) (W4:aO.h D=none)
  (fin:∀bR ak aR s1 vs,bB.Inv X' [] bR ak s1->Ext a5 bo aR ak->ak D=some (.lst vs)->¬aR D->bl X'.K aR ak ys vs->R (.ok .next) s1)
  {s:aP} {σ:bB.St} {H:aF} {F:aq->Prop} {ε:Ev} (I:bB.Inv X' [] σ H s) (st:ik 0 s.heap) (fr:∀b∈cb,H b=none) (x:Ext a5 bo F H) (r:cZ X'.K aM aO O F H ε σ) (n5:H D=some (.lst [])) (Zz:¬F D) (fV:fm i4 i2 e0 ts ε=some ys):
  jb (bN X'.prog X'.w) X'.A (.compLoop (.ListComp elt [⟨dr,iter,ifs,0⟩] scope pos) 0 (.ref Gn) (.ref D) X'.env) R s:=by
 refine aeR (λn s'=>∃i bR ak aR ε' mH vs,n=ts.length - i/\i<=ts.length/\bB.Inv X' [] bR ak s'/\ik i s'.heap/\(∀b∈cb,ak b=none)/\Ext a5 bo aR ak/\cZ X'.K aM aO O aR ak ε' bR/\ak D=some (.lst vs)/\¬aR D/\bl X'.K aR ak mH vs/\mH.length<=i /\
  ∃rest,fm i4 i2 e0 (ts.drop i) ε'=some rest/\ys=mH++rest) ?_ ts.length ⟨0,σ,H,F,ε,[],[],rfl,ow _,I,st,fr,x,r,n5,Zz,bl.nil,eo _,ys,by simpa using fV,by simp⟩
 rintro n s3 ⟨i,iA,dO,h3,alc,mH,vs,rfl,hi,es,xE,wO,e',j4,wX,H3,dR,F5,rest,jj,ar⟩;have ju:∀{hP:aq->Prop} {hQ:aF} {kW:aq->Prop} {jh:aF} {o:ey},Ext hP hQ kW jh->hQ D=some o->¬hP D->¬kW D:=λy e n z=>by
  rcases y.new D z with q|q
  ·exact n q
  ·rw[e] at q;cases q
 by_cases hA:i<ts.length
 ·have hd:ts.drop i=ts[i]::ts.drop (i+1):=List.drop_eq_getElem_cons hA;have w5:ts[i]?=some ts[i]:=hK hA;rw[hd] at jj;simp only[fm,cW] at jj;obtain⟨v7,EL,b,hs,jj⟩:=jj;refine fA (T.item X' rfl rfl rfl au i [] s3 iA dO (λ_ _=>False) es (sO dO wO) xE (ok.go i h3 dO _ e'.aQ j4.cK w5)) (λcn s4 ⟨u,ax,bZ⟩=>?_) λ_ _ z=>z;subst ax;refine fA bZ (λ_ s5 ⟨jA,jh,wb,sH,IL,sN,FE⟩=>?_) λ_ _ z=>z;obtain⟨kW,u0,aS⟩:=ok.lC i h3 dO _ jA jh e'.aQ j4.cK w5 IL;have CK:=wb.pinned (sO jh FE) (T.obj _ _ sN);have uE:=a7 _ s5 iA jh jA u (λoO amd=>amd=jh/\cZ X'.K aM aO O kW jh v7 oO) CK sH ⟨aM,aO,O,kW,alc,_,v7,j4.ext u0,aS,EL,λoO xr=>⟨rfl,xr⟩⟩;rw[hx] at uE;refine fA uE (λ_ d2 ⟨oO,amd,CL,iG,xr⟩=>?_) λ_ _ z=>z;subst iG;have again:∀{kp:bB.St} {gP:aF} {c2:aP},bB.Inv X' ([]++yG cb s5.heap) kp gP c2->ik (i+1) c2.heap/\(∀b∈cb,gP b=none)/\bB.Inv X' [] kp gP c2:=λ{kp gP c2} hR=>by
   refine⟨T.keep _ _ _ sN λb ag o e=>(hR.pin (b,o) (ou _ (ou _ (Bv ag e)))).1,λb ag=>?_,hR.AN⟩
   obtain⟨o,e,d⟩:=T.obj _ _ sN b ag;exact (hR.pin (b,o) (ou _ (ou _ (Bv ag e)))).2.1
  have MX:=aN _ d2 oO amd (λf6 gP=>f6=b/\∃oT,Ext kW amd oT gP) CL ⟨aM,aO,O,kW,v7,b,xr,hs,λoT gP u1=>⟨rfl,oT,u1⟩⟩;rw[hx] at MX;refine fA MX (λaaR c2 ⟨gP,hR,nY,oT,u1⟩=>?_) λ_ _ z=>z;subst nY;have xI:=u0.trans u1;have sI:=xr.ext u1;cases aaR with
  |false=>
   simp only[q8,if_false] at jj ⊢;obtain⟨a1,a2,jL⟩:=again hR;exact⟨_,by omega,i+1,oO,gP,oT,v7,mH,vs,rfl,hA,jL,a1,a2,e'.trans xI,sI,xI.same.get wX,ju xI wX H3,dR.ext xI,by omega,rest,jj,ar⟩
  |true=>
   simp only[if_true,cW,hh] at jj ⊢;obtain⟨y,WE,abU,WA,rfl⟩:=jj;have uC:=he _ c2 oO gP (λv rN=>∃oU,Ext oT gP oU rN/\Rep X'.K oU rN y v) hR ⟨aM,aO,O,oT,v7,y,sI,WE,λv oU rN AR m3=>⟨oU,AR,m3⟩⟩;rw[hx] at uC;refine fA uC (λu8 du ⟨uX,rN,CM,r8,oU,AR,m3⟩=>?_) λ_ _ z=>z;have AQ:=xI.trans AR;have FH:=AQ.same.get wX;have H4:=ju AQ wX H3;obtain⟨Zh,r9⟩:=(sI.ext AR).other (ys:=vs++[uX]) H4 kx W4 FH;have aA:=PD (X:=X') _ du oO rN (.ref D) [uX] (.ref D) [u8] (λ_ Lb=>Lb=upd rN D (.lst (vs++[uX]))) CM rfl (.cons r8 .nil) ⟨D,vs,uX,rfl,rfl,FH,by rw[ki,<- dR.length];omega,rfl⟩;rw[hx] at aA;refine fA aA (λu9 pN ⟨v9,Lb,S_,alK,qE⟩=>?_) λ_ _ z=>z;subst qE;obtain⟨a1,a2,jL⟩:=again S_;have x9:Ext a5 bo oU (upd rN D (.lst (vs++[uX]))):=by
    have y:=e'.trans AQ;refine⟨λb o e=>?_,y.sub,y.new,⟨λb f=>?_,y.cK.m8.upd λu e=>.inl ⟨_,iN (e.symm.trans FH)⟩⟩⟩
    ·have nb:b≠D:=by
      rintro rfl;rw[r6] at e;cases e
     rw[cp nb];exact y.same b o e
    ·have nb:b≠D:=by
      rintro rfl;exact H4 f
     rw[cp nb];exact y.cK b f
   refine⟨_,by omega,i+1,oO,_,oU,v7,mH++[y],vs++[uX],rfl,hA,jL,a1,a2,x9,r9,ep,H4,((dR.ext AQ).append (bl.cons m3 bl.nil)).aQ Zh,by simp;omega,abU,WA,by rw[ar];simp⟩
 ·have hd:ts.drop i=[]:=List.drop_eq_nil_of_le (by omega);rw[hd] at jj;cases jj;refine fA (T.done X' rfl rfl rfl au i [] s3 iA dO (λ_ _=>False) es (sO dO wO) xE (ok.stop i h3 dO e'.aQ (by omega))) (λcn s4 ⟨ax,h5⟩=>?_) λ_ _ z=>z;subst ax;exact fin iA dO h3 s4 vs h5 e' wX H3 (by rw[ar,ov];exact dR)
structure After(X:aV)(ai:List (aq×Obj))(σ:bB.St)(F:aq->Prop)(H:aF)(ys:List T)(D C:aq)(ak:aF)(aR:aq->Prop)(s1:aP)(vs:List V):Prop where
 inv:∀h',Heap.SameBut C s1.heap h'->bB.Inv X ai σ ak {s1 with heap:=h'}
 ns:∃m,s1.heap.Ns C m
 free:ak C=none
 above:X.c'.heap.objs.size<=C
 cells:∀x c,X.env.cells.lookup x=some c->c≠C
 pin:∀p∈X.dn++ai,p.1≠C
 loc:C≠X.env.locals
 new:H D=none
 ext:Ext F H aR ak
 ju:¬aR D
 lst:ak D=some (.lst vs)
 rep:bl X.K aR ak ys vs
def Qn{use:Option (av->Sem Unit)}{Q:av->aP->Prop}{dJ:Pos}(S:rK X scope own caps)(hi:nL X dr iter it)
  (a7:∀cl C c' aO cb dn,oY (iw X (own++caps.map (·.2)) scope cl C c' aO cb dn) dr i4)
  (aN:∀cl C c' aO cb dn,rR (iw X (own++caps.map (·.2)) scope cl C c' aO cb dn) ifs i2)
  (he:∀cl C c' aO cb dn,cq (iw X (own++caps.map (·.2)) scope cl C c' aO cb dn) elt e0)
  (aB:∀x,amf iter X.env x=pure x) {ai:List (aq×Obj)} {s:aP} {σ:bB.St} {H:aF} {aM O F:aq->Prop} {aO:iC} {ε:Ev} {ys:List T} (I:bB.Inv X ai σ H s) (r:cZ X.K aM aO O F H ε σ)
  (e:comp own.length (caps.map (·.1)) it i4 i2 e0 ε=some (.list ys)) (fin:∀D C ak aR s1 vs,After X ai σ F H ys D C ak aR s1 vs->compPost (bN X.prog X.w) X.A X.dg use Q (.ref D) C (.ok .next) s1):
  bE (bN X.prog X.w) X.A (comprehension (.ListComp elt [⟨dr,iter,ifs,0⟩] scope pos) scope X.env dJ (newList []) false (eval iter X.env) use) Q X.dg s:=by
 simp only[comp,cW] at e;obtain⟨ts,cw,e⟩:=e;split at e
 case isFalse=>cases e
 next MF=>
 simp only[hh] at e;obtain⟨alU,fV,e⟩:=e;cases e;have qJ:∀x∈scope.names,x.2=.free->∃c,X.env.cells.lookup x.1=some c:=λx hx a0=>I.ok.has x.1 (S.free x hx a0);refine wpAny_comprehension_free rfl aB (OH qJ) S.kind S.names (cA (hi ai s σ H (λJ H1=>∃a5,Ext F H a5 H1/\nI X.K J a5 H1 ts) I ⟨aM,aO,O,F,ε,ts,r,cw,λJ a5 H1 aW ok=>⟨a5,aW,ok⟩⟩) λv s1 ah=>cA ah λGp s2 ao=>?_);obtain⟨Gn,cb,ik,J,bo,rfl,cg,T,lr,f2,a5,aW,ok⟩:=ao;have r':∀b∈cb,b<s2.heap.objs.size:=λb ag=>by
  obtain⟨o,aT,_⟩:=T.obj 0 _ lr b ag;exact dj aT
 have r6:bo s2.heap.objs.size=none:=cg.fresh;have n5:H s2.heap.objs.size=none:=aW.same.none r6;have l7:(s2.heap.push {cls:=.type "list",data:=.seq ([]:List av).toArray}).objs.size=s2.heap.objs.size+1:=m' ..;refine wpAny_newList ?_ (ow _);refine wpAny_newFunctionEnv S.cell (by intro y b1;simp at b1) (λhB XJ XW=>?_) S.kind;have keep:∀b u,(s2.heap.push {cls:=.type "list",data:=.seq ([]:List av).toArray}).get? b=some u->hB.get? b=some u:=λb u e=>XW.extBut b u (eg (dj e)) (dI _ e);have h5:=ahY (tk:=s2.toks+0) S cg f2 r' XJ keep;have hV:=(r.ext aW).Ez (D:=s2.heap.objs.size) own.length S.bb r6;refine codeAny_compStart_list ?loop (T.self _ 0 _ _ _ (T.keep 0 _ _ lr λb ag o e=>keep b o (dI _ e)) ?loop);refine agL (X':=iw X (own++caps.map (·.2)) scope (gn X.env scope.names []) (s2.heap.push {cls:=.type "list",data:=.seq ([]:List av).toArray}).objs.size {s2 with heap:=s2.heap.push {cls:=.type "list",data:=.seq ([]:List av).toArray} } (upd bo s2.heap.objs.size (.lst [])) cb (X.dn++ai))
  rfl S.calm (a7 _ _ _ _ _ _) (aN _ _ _ _ _ _) (he _ _ _ _ _ _) T (λak bf b ag=>?_) ok MF r6 (λz=>z.2 rfl) (r.o0 _ (r.fr _ n5)) (λbR ak aR s1 vs CR jA W2 ZA d5=>?_) h5 (T.keep 0 _ _ lr λb ag o e=>keep b o (dI _ e)) (λb ag=>?_) (Ext.laid aW.cK r6) hV ep ?_ fV
 ·have Ii:=QE S cg f2 r' (own++caps.map (·.2));refine⟨bf b ag,(Ii.um b ag).1,Ii.r3 b ag,.inl ag,λx c e=>(Ii.um b ag).2 x c e,λp aC=>?_⟩;have sf:p∈X.dn++ai:=by simpa [iw] using aC
  exact (f2 b ag).2.2.2.2.2 p sf
 ·obtain⟨m,bf,_⟩:=id CR.loc;refine fin s2.heap.objs.size _ ak aR s1 vs ⟨λh' lp=>af0 cg f2 CR lp,⟨m,bf⟩,CR.free,?_,λx c e z=>?_,λp aC z=>?_,?_,n5,aW.trans jA,ZA,W2,d5⟩
  ·rw[l7];exact Nat.le_succ_of_le cg.l7
  ·obtain⟨v,q⟩:=cg.cell x c e;have:=q.lt;rw[z,l7] at this;exact absurd this (Nat.not_lt.mpr (Nat.le_succ _))
  ·have:=dj (cg.pin p aC).1;rw[z,l7] at this;exact absurd this (Nat.not_lt.mpr (Nat.le_succ _))
  ·have:=cg.lt;rw[l7];exact sY (Nat.lt_succ_of_lt this)
 ·have:=(f2 b ag).1;rw[cp (eg (r' b ag))];exact this
 ·intro z;obtain⟨o,e⟩:=aW.cK _ z;rw[r6] at e;cases e
def ajC(S:rK X scope own caps)(hi:nL X dr iter it)
  (a7:∀cl C c' aO cb dn,oY (iw X (own++caps.map (·.2)) scope cl C c' aO cb dn) dr i4)
  (aN:∀cl C c' aO cb dn,rR (iw X (own++caps.map (·.2)) scope cl C c' aO cb dn) ifs i2)
  (he:∀cl C c' aO cb dn,cq (iw X (own++caps.map (·.2)) scope cl C c' aO cb dn) elt e0)
  (aB:∀x,amf iter X.env x=pure x:=by intro _;rfl):zi X (.ListComp elt [⟨dr,iter,ifs,0⟩] scope pos) (comp own.length (caps.map (·.1)) it i4 i2 e0):=by
 intro ai s σ H Q I ⟨aM,aO,O,F,ε,ys,r,e,k⟩;rw[eval_ListComp];refine Qn S hi a7 aN he aB I r e λD C ak aR s1 vs a=>?_;obtain⟨m,bf⟩:=a.ns;exact⟨m,bf,λh' lp=>⟨.ref D,ak,a.inv h' lp,rfl,k D vs aR ak a.ext a.new a.ju a.lst a.rep⟩⟩
def PO{ε:Ev}{n:Nat}{cs:List Nat}{t:T}(e:comp n cs it i4 i2 e0 ε=some t):∃ts,t=.list ts:=by
 simp only[comp,cW] at e;obtain⟨ts,_,e⟩:=e;split at e
 ·simp only[hh] at e;obtain⟨ys,_,e⟩:=e;exact⟨ys,e.symm⟩
 ·cases e
def fN(S:rK X scope own caps)(hi:nL X dr iter it)
  (a7:∀cl C c' aO cb dn,oY (iw X (own++caps.map (·.2)) scope cl C c' aO cb dn) dr i4)
  (aN:∀cl C c' aO cb dn,rR (iw X (own++caps.map (·.2)) scope cl C c' aO cb dn) ifs i2)
  (he:∀cl C c' aO cb dn,cq (iw X (own++caps.map (·.2)) scope cl C c' aO cb dn) elt e0)
  (aB:∀x,amf iter X.env x=pure x:=by intro _;rfl):cq X (.ListComp elt [⟨dr,iter,ifs,0⟩] scope pos) (comp own.length (caps.map (·.1)) it i4 i2 e0):=
 Nq (ajC S hi a7 aN he aB) λε t e=>PO e
def B5(i:Nat){x:Str}{iK NZ:Pos}(dA:X.N.Nodup)(S:rK X scope own caps)(hit:nL X dr iter it)
  (a7:∀cl C c' aO cb dn,oY (iw X (own++caps.map (·.2)) scope cl C c' aO cb dn) dr i4)
  (aN:∀cl C c' aO cb dn,rR (iw X (own++caps.map (·.2)) scope cl C c' aO cb dn) ifs i2)
  (he:∀cl C c' aO cb dn,cq (iw X (own++caps.map (·.2)) scope cl C c' aO cb dn) elt e0)
  (hi:X.N[i]?=some x:=by rfl) (hx:Loc X.env.scope x:=by first|exact Or.inl rfl|exact Or.inr rfl)
  (Gf:swapsWith (.ListComp elt [⟨dr,iter,ifs,0⟩] scope pos) (some (.Name x iK)) NZ.line X.env=pure true:=by rfl)
  (hf:X.fn x=true\/X.env.scope.names.lookup x=some .local:=by first|exact .inl rfl|exact .inr rfl)
  (aB:∀x,amf iter X.env x=pure x:=by intro _;rfl):
  kY X (.Assign [.Name x iK] (.ListComp elt [⟨dr,iter,ifs,0⟩] scope pos) NZ) (asg i (comp own.length (caps.map (·.1)) it i4 i2 e0)):=by
 intro ai s σ H D I ⟨aM,aO,O,F,ε,o,r,e,k⟩;simp only[asg,hh] at e;obtain⟨t,cw,rfl⟩:=e;obtain⟨ys,rfl⟩:=PO cw;rw[exec_Assign_Name_used _ _ _ _ Gf];refine aZ (wpAny_standAt (aZ ?_));show bE _ X.A (do let _ <- comprehension (.ListComp elt [⟨dr,iter,ifs,0⟩] scope pos) scope X.env _ (newList []) false (eval iter X.env) (some (assign (.Name x iK) X.env))) _ _ s;refine aZ (cA (Qn (use:=some (assign (.Name x iK) X.env)) (Q:=λ_ s'=>o3 X ai D .next s') S hit a7 aN he aB I r cw λv_ C ak aR s1 vs a=>?_) λ_ s' aD=>cc (cc aD));have S':=a.inv s1.heap (Heap.SameBut.refl ..);have Ta:bB.Inv X ai σ ak s1:=S';show bE _ X.A (assign (.Name x iK) X.env (.ref v_)) _ _ _;refine wpAny_assign_Name (Pu (v:=.ref v_) Ta dA hi hx rfl (λs2 cg ⟨b,lp,ag⟩=>?_) hf);obtain⟨m,bf⟩:=a.ns;have nb:C≠b:=by
  rcases ag with rfl|ag
  ·exact a.loc
  ·exact (a.cells x b ag).symm
 refine⟨m,bf.sameBut lp nb,λh' ab7=>?_⟩
 have es:bB.Inv X ai (σ.set i (some (.ref v_))) ak {s2 with heap:=h'}:=cg.turned (t':=s2.toks) (it:=C) (λb o ag e=>ab7.extBut b o ag e) a.free a.loc (.inr a.above) a.cells a.pin;refine⟨_,ak,es,?_⟩;have y:Ext F H (λb=>aR b\/b=v_) ak:=⟨a.ext.same,λb z=>.inl (a.ext.sub b z),λb z=>by
  rcases z with z|rfl
  ·exact a.ext.new b z
  ·exact .inr a.new,⟨λb z=>by
  rcases z with z|rfl
  ·exact a.ext.cK b z
  ·exact⟨_,a.lst⟩,a.ext.cK.m8⟩⟩
 refine k _ _ ak y.aQ ((r.ext y).set i ?_)
 simp only[Rep];exact⟨v_,vs,rfl,.inr rfl,.inl a.lst,a.rep.keep (λ_ _ z=>z) λb _ z w=>⟨.inl z,w⟩⟩
end
end
section
variable [cB]
open AutoSeq1 (wpAny_loadPart')
def adS(l:aq)(items:Array av)(n:Nat)(wH:Option aq)(b_:Array (Option av)):
  Meets (Builtin.«enumerate.__new__» ⟨[.type "enumerate",.ref l],[]⟩) (λ_ R s=>s.heap.get? l=some {cls:=.type "tuple",dict:=wH,data:=.seq items n,slots:=b_} /\
   R (.ok (.ret (.ref (s.heap.push {cls:=.type "tuple_iterator",data:=.fields #[.ref l,.int 0 0]}).objs.size)))
    {s with heap:=(s.heap.push {cls:=.type "tuple_iterator",data:=.fields #[.ref l,.int 0 0]}).push {cls:=.type "enumerate",data:=.fields #[.none,.bool false,.ref s.heap.objs.size,rawInt 0,.none,.none]} }):=
 .of_wp λprog w A R s h=>by
  obtain⟨aC,g,d,tk,os⟩:=s;obtain⟨aH,h⟩:=h;have X0:=sub_enumerate;have ff:Heap.IsTuple (Shared.heap ⟨aC,g,d,tk,os⟩) l items:=⟨_,aH,rfl,n,rfl⟩
  wp_walk using wpAny_loadPart' aH
  refine wpAny_stack_any λst=>cc ?_
  split
  ·rename_i c _ _ _ _ _
   cases (c==Value.type "enumerate")
   ·wp_walk using wpAny_loadPart' aH,xO ff
    exact⟨_,rfl,h⟩
   ·wp_walk using wpAny_loadPart' aH,xO ff
    exact⟨_,rfl,h⟩
  ·wp_walk using wpAny_loadPart' aH,xO ff
   exact⟨_,rfl,h⟩
section
variable {prog:c3}{w:cf}{A:dk}{E:av->aP->Prop}{s:aP}
def Ou{l:aq}{items:Array av}{Q:av->aP->Prop}(ff:s.heap.IsTuple l items)
  (h:∀h',IsEnum h' (s.heap.objs.size+1) s.heap.objs.size 0 .none->h'.IsTupleIter s.heap.objs.size l 0->h'.objs.size=s.heap.objs.size+2 ->
   (∀b o,s.heap.get? b=some o->h'.get? b=some o)->Q (.ref (s.heap.objs.size+1)) {s with heap:=h'}):
  bE (bN prog w) A (call (.type "enumerate") [.ref l]) Q E s:=by
 obtain⟨⟨c,wH,EE,b_⟩,aH,au,n,hd⟩:=ff;replace au:c=.type "tuple":=au;replace hd:EE=.seq items n:=hd;subst au hd;refine callType_new F.called_enumerate (by decide) (F.typeCall_enumerate_1 _) (F.newCall_enumerate_1 _) (λobj=>F.args_object_init_2 obj _) F.entry_enumerate_new
  (adS l items n wH b_) ⟨aH,?_⟩
 have aI:(s.heap.push {cls:=.type "tuple_iterator",data:=.fields #[.ref l,.int 0 0]}).objs.size=s.heap.objs.size+1:=m' ..;show _/\_;rw[aI];have he:IsEnum ((s.heap.push {cls:=.type "tuple_iterator",data:=.fields #[.ref l,.int 0 0]}).push
   {cls:=.type "enumerate",data:=.fields #[.none,.bool false,.ref s.heap.objs.size,rawInt 0,.none,.none]}) (s.heap.objs.size+1) s.heap.objs.size 0 .none:=by
  have:=hJ (s.heap.push {cls:=.type "tuple_iterator",data:=.fields #[.ref l,.int 0 0]})
   (o:={cls:=.type "enumerate",data:=.fields #[.none,.bool false,.ref s.heap.objs.size,rawInt 0,.none,.none]}) rfl
  rw[aI] at this;exact this
 refine⟨⟨_,he,rfl⟩,h _ he ⟨_,dI _ (hJ _ rfl),rfl,rfl⟩ (by rw[m',aI]) λb o x=>dI _ (dI _ x)⟩
def adW{it l:aq}{i:Nat}{items}{x:av}{Q:av->aP->Prop}(hit:s.heap.IsTupleIter it l i)
  (aH:s.heap.IsTuple l items) (hx:items[i]?=some x)
  (mO:∀h',h'.IsTupleIter it l (i+1)->Heap.SameBut it s.heap h'->Q x {s with heap:=h'}):
  bE (bN prog w) A (pQ (.ref it)) Q E s:=by
 obtain⟨o,aT,au,hd⟩:=id hit;obtain⟨ol,F',_,nl,uB⟩:=aH;unfold pQ;refine aZ (pU (name:=Str.ofString "__next__") hit.typeIs AV
  (pV AV hit.typeIs F.entry_tuple_iterator_next ?_ (F.args_tuple_iterator_next_1 _)))
 show bE _ _ (field (.ref it) 0 >>= _) _ _ s
 refine aZ (h1 aT hd (x:=.ref l) rfl ?_)
 show bE _ _ (if (Value.ref l==Value.none)=true then _ else _) _ _ s
 rw[if_neg (show ¬((Value.ref l==Value.none)=true) from kb)];show bE _ _ (field (.ref it) 1 >>= _) _ _ s;refine aZ (h1 aT hd (x:=.int i 0) rfl ?_);show bE _ _ (seqItems? (.ref l) >>= _) _ _ s;refine aZ (q_ F' uB ?_);simp only[Int.toNat_natCast,hx];refine aZ (wpAny_setField aT hd (by simp) (cc ⟨x,rfl,cc (mO _ ?_ (Heap.SameBut.update ..))⟩));exact⟨_,Heap.get?_update_self _ aT (Obj.isFreed_of_fields (Obj.data_mapFields hd _)),(Obj.cls_mapFields ..).trans au,by
  rw[Obj.data_mapFields hd];simp[rawInt]⟩
def Ox{it l:aq}{i:Nat}{items}{Q:av->aP->Prop}(c4:A.handled=none)
  (hit:s.heap.IsTupleIter it l i) (aH:s.heap.IsTuple l items) (hx:items[i]?=none)
  (hy:∀h' e,Heap.ExtBut it s.heap h'->(∃o,h'.get? e=some o/\o.cls=.type "StopIteration")->E (.ref e) {s with heap:=h'}):
  bE (bN prog w) A (pQ (.ref it)) Q E s:=by
 obtain⟨o,aT,au,hd⟩:=id hit;obtain⟨ol,F',_,nl,uB⟩:=aH;unfold pQ;refine aZ (pU (name:=Str.ofString "__next__") hit.typeIs AV
  (pV AV hit.typeIs F.entry_tuple_iterator_next ?_ (F.args_tuple_iterator_next_1 _)))
 show bE _ _ (field (.ref it) 0 >>= _) _ _ s
 refine aZ (h1 aT hd (x:=.ref l) rfl ?_)
 show bE _ _ (if (Value.ref l==Value.none)=true then _ else _) _ _ s
 rw[if_neg (show ¬((Value.ref l==Value.none)=true) from kb)];show bE _ _ (field (.ref it) 1 >>= _) _ _ s;refine aZ (h1 aT hd (x:=.int i 0) rfl ?_);show bE _ _ (seqItems? (.ref l) >>= _) _ _ s;refine aZ (q_ F' uB ?_);simp only[Int.toNat_natCast,hx];refine aZ (wpAny_rule (aZ (wpAny_setField aT hd (by simp) ?_)));show bE _ _ (newExc (.type "StopIteration") [] >>= _) _ _ _;refine aZ ?_;simp only[newExc,newTuple];refine aZ (nf ?_ (by size_fits));refine aZ (m:=firstArgMember _ _) (wpAny_of_eq (a:=Value.none) (by first|rfl|(simp only[firstArgMember];rfl)) ?_);refine nf ?_ (by size_fits);simp only[raiseNew];refine aZ (wpAny_handled ?_)
 first|rw[show A.in1.handled=none from c4]|rw[c4]
 refine aZ (cc (wpAny_throw ?_))
 exact hy _ _ (((Heap.SameBut.update ..).extBut.push _).push _) ⟨_,hJ _ rfl,rfl⟩
end
def OZ{prog:c3}{w:cf}{A:dk}(c4:A.handled=none)(it l:aq)(gS:l≠it)(items:Array av):
  Draws prog w A it [it,l] items.size (λi v=>items[i]?=some v) (λi h=>h.IsTupleIter it l i/\h.IsTuple l items) where
 live:=λ_ _ st=>let ⟨o,aT,_⟩:=st.1;⟨o,aT⟩
 frame:=λ_ _ _ st a0=>⟨st.1.at λo e=>a0 it (by simp) o e,let ⟨o,aT,r⟩:=st.2;⟨o,a0 l (by simp) o aT,r⟩⟩
 item:=λi s Q E hi st mO=>by
  refine adW st.1 st.2 (x:=items[i]) (by simp[hi]) λh' Xw lX=>?_
  exact mO _ h' s.toks (by simp[hi]) ⟨Xw,st.2.extBut lX.extBut gS⟩ lX
 done:=λs Q E st hy=>Ox c4 st.1 st.2 (by simp) hy
noncomputable def y_(K:a')(a:aq):jI:=
 ⟨λi H=>∃xs x,c8 K H a xs/\xs[i]?=some x,λi H x ak=>∃p v,H p=none/\x=.ref p/\ak=upd H p (.tup [.int i,v])/\∀xs,c8 K H a xs->xs[i]?=some v,λi H=>∃xs,c8 K H a xs/\xs.length<=i⟩
def Pq{P:c3}{w:cf}{K:a'}{ar:List bk}{k:Nat}{pos:Pos}(a it e:aq)(gS:e≠it)(FT:a≠it)(FR:a≠e):Turn P w K (.Tuple ar k pos) (y_ K a) [e,it] e (λi h=>(∃old,IsEnum h e it i old)/\h.IsTupleIter it a i) where
 mem:=by simp
 obj:=λi h st b ag=>by
  obtain⟨⟨old,he⟩,o,aT,au,hd⟩:=st;rcases bC.mp ag with rfl|ag
  ·exact⟨_,he,λv z=>by
    have gA:Data.fields _=Data.cell v:=z;cases gA⟩
  ·have aE:b=it:=by simpa using ag
   subst aE;exact⟨o,aT,λv z=>by rw[hd] at z;cases z⟩
 keep:=λi h h' st cm=>by
  obtain⟨⟨old,he⟩,lr⟩:=st;exact⟨⟨old,cm e (by simp) _ he⟩,lr.at λo q=>cm it (by simp) o q⟩
 item:=by
  intro X eS hw fu au i ai s σ H E I hf st a7;subst eS hw fu;obtain⟨xs,x,aD,hx⟩:=a7;obtain⟨its,cn,p,aI⟩:=I.tuple aD;obtain⟨u,cM,e3⟩:=cn.get hx;obtain⟨⟨old,he⟩,hit⟩:=st;obtain⟨f0,f1,f2,fW,f4,ez⟩:=hf e (by simp);obtain⟨jR,g1,g2,g3,lg,kv⟩:=hf it (by simp);have hi:i<its.toArray.size:=by
   rw[eE];exact (gy.mp cM).1
  have F9:e∉[it,a]:=by
   intro z;rcases bC.mp z with z|z
   ·exact gS z
   ·have gA:e=a:=by simpa using z
    exact FR gA.symm
  refine wpAny_pyNext_enum_itemD (OZ (A:=X.A.in1) (I.ok.hd au) it a FT its.toArray) he ⟨hit,p⟩ hi gS F9 λjA h' tk FN aT lX gs kD a0=>?_
  have ex:jA=u:=by
   have:=FN;rw[<- Array.getElem?_toList] at this;rw[show (its.toArray).toList=its from rfl,cM] at this;exact (iN this).symm
  subst ex;refine⟨_,rfl,wpAny_letOwnedTupleGo_enum aT λao uC fI=>?_⟩;have w3:e<s.heap.objs.size:=dj he;have F0:it<s.heap.objs.size:=by obtain⟨o,e8,_⟩:=hit;exact dj e8
  have k2:∀b o,b≠e->b≠it->s.heap.get? b=some o->ao.get? b=some o:=λb o ah aY q=>fI.extBut b o ah (a0 b o ah aY q);have fr:H s.heap.objs.size=none:=I.bW.fresh (eo _);have r7:ao.get? s.heap.objs.size=some {cls:=.type "tuple",data:=.seq #[.int i tk,jA]}:=fI.extBut _ _ (sY w3) gs;have mW:∀b o,H b=some o->b≠e/\b≠it:=λb o q=>⟨λz=>(by rw[z,f0] at q;cases q),λz=>(by rw[z,jR] at q;cases q)⟩;have se:eZ X.prog X.w (upd H s.heap.objs.size (.tup [.int i,x])) ao:=by
   intro b o q;by_cases ag:b=s.heap.objs.size
   ·subst ag;rw[ep] at q;cases q;exact⟨by show 2<=b';decide,[.int i tk,jA],.cons ⟨tk,rfl⟩ (.cons e3 .nil),⟨_,r7,rfl,_,rfl⟩⟩
   ·rw[cp ag] at q;refine (I.bW b o q).kJ (λc v cj d5=>k2 c v ?_ ?_ d5) (λc d5=>?_) λc ys d5=>?_
    ·rcases cj with rfl|cj
     ·exact (mW _ _ q).1
     ·exact (mW _ _ cj).1
    ·rcases cj with rfl|cj
     ·exact (mW _ _ q).2
     ·exact (mW _ _ cj).2
    ·rw[cp (gB d5 fr)];exact d5
    ·rw[cp (gB d5 fr)];exact d5
  have cg:bB.Inv X ai σ (upd H s.heap.objs.size (.tup [.int i,x])) {s with heap:=ao,toks:=tk+1}:=by
   refine I.step (g':=s.gens) (d':=s.drawn) (ch:=[e,it]) (λb ag=>?_) (λb o _ _ cj q _=>k2 b o (λz=>cj (by simp[z])) (λz=>cj (by simp[z])) q) (λb o _ _ cj q _=>⟨o.slots,k2 b o (λz=>cj (by simp[z])) (λz=>cj (by simp[z])) q⟩) (λb o _ q n=>?_)
    (λb o cj q=>⟨o,k2 b o (λz=>cj (by simp[z])) (λz=>cj (by simp[z])) q⟩) (λb ys q=>by rw[cp (gB q fr)];exact q) (λb o u q=>by rw[cp (gB q fr)];exact q) (λb ps q=>⟨#[],by rw[cp (gB q fr),q];simp⟩) (λm hm=>?_) se I.bare
   ·rcases bC.mp ag with rfl|ag
    ·exact⟨fW,f1,f4,ez⟩
    ·have:b=it:=by simpa using ag
     subst this;exact⟨g3,g1,lg,kv⟩
   ·rw[cp (eg (dj q))];exact n
   ·obtain⟨o,mM,cL,e8,r⟩:=hm;exact⟨o,mM,cL,k2 _ o (Ne.symm f1) (Ne.symm g1) e8,r⟩
  refine⟨.ref s.heap.objs.size,_,cg,rfl,⟨s.heap.objs.size,x,fr,rfl,rfl,λys b1=>by rw[I.IE b1 aD];exact hx⟩,⟨⟨_,by simpa using uC⟩,lX.1.at λo q=>(fI.2 it gS.symm).trans q⟩,λb ag=>?_⟩
  rcases bC.mp ag with rfl|ag
  ·rw[cp (eg w3)];exact f0
  ·have:b=it:=by simpa using ag
   subst this;rw[cp (eg F0)];exact jR
 done:=by
  intro X eS hw fu au i ai s σ H E I hf st a7;subst eS hw fu;obtain⟨xs,aD,hx⟩:=a7;obtain⟨its,cn,p,aI⟩:=I.tuple aD;obtain⟨⟨old,he⟩,hit⟩:=st;obtain⟨jR,g1,g2,g3,lg,kv⟩:=hf it (by simp);have gs:s.TypeIs (.ref e) "enumerate":=⟨_,he,rfl⟩;have aH:=cn.length;unfold pyNext;refine aZ (wpAny_attempt (pU (name:=Str.ofString "__next__") gs F.slot_enumerate_next
   (pV F.slot_enumerate_next gs F.entry_enumerate_next ?_ (F.args_enumerate_next_1 _))))
  show bE _ _ (field (.ref e) 2 >>= _) _ _ _
  refine aZ (h1 he rfl (x:=.ref it) rfl ?_)
  refine aZ (Ox (I.ok.hd au) hit (show s.heap.IsTuple a its.toArray from p) (by simp;omega) λh' x r_ pA=>?_)
  obtain⟨o,aT,cj⟩:=pA;refine aZ (wpAny_isInstance (T:="StopIteration") (b:=true) ⟨o,aT,cj⟩ isSubtype_stop ?_);exact cc ⟨rfl,I.turned (t':=s.toks) (λb o ag q=>r_ b o ag q) jR g1 g3 lg kv⟩
 self:=λ_ _ _ _ _ st h=>by
  obtain⟨⟨old,he⟩,_⟩:=st;exact wpAny_pyIter_enum he h
def Ym(K:a')(cD:fT):TI:=λσ H R=>cD σ H λvs H1=>∃a xs,vs=[.ref a]/\c8 K H1 a xs/\R (y_ K a) H1
section
variable {X:aV}{ar:List bk}{k:Nat}{p pos dJ:Pos}{a:bk}{f:a_}
def aip{cD:fT}(a7:et X "enumerate")(hm:X.mg "enumerate"=none)(aA:gm X [a] cD)(aB:bL [a] X.env=[(false,eval a X.env)]:=by rfl):oZ X (.Tuple ar k dJ) (.Call (.Name "enumerate" p) [a] [] pos) (Ym X.K cD):=by
 intro ai s σ H R I h;refine Call_ (qj I a7 hm PyProof.Rows.boot_enumerate (xK (cA (aA pos ai s σ H _ I h) λus s1 ⟨vs,H1,a9,bj,a4⟩=>?_) aB rfl));obtain⟨a,xs,rfl,aD,q⟩:=a4;cases bj with
|cons r sL=>
  cases sL
  cases r
  obtain⟨its,cn,c1,aI⟩:=a9.tuple aD;have kz:a<s1.heap.objs.size:=by obtain⟨o,aT,_⟩:=c1;exact dj aT
  refine Ou (show s1.heap.IsTuple a its.toArray from c1) λh' he hit kD a0=>wpAny_pyIter_enum he ?_
  refine⟨s1.heap.objs.size+1,[s1.heap.objs.size+1,s1.heap.objs.size],_,_,H1,rfl,a9.kept (t':=s1.toks) a0,Pq a s1.heap.objs.size (s1.heap.objs.size+1) (Nat.succ_ne_self _) (eg kz) (eg (Nat.lt_succ_of_lt kz)),⟨⟨_,he⟩,hit⟩,λb ag=>?_,q⟩
  have jT:s1.heap.objs.size<=b:=by
   rcases bC.mp ag with rfl|ag
   ·exact Nat.le_succ _
   ·have:b=s1.heap.objs.size:=by simpa using ag
    rw[this];exact eo _
  exact a9.uu jT (a9.bW.fresh jT)
def PE{K:a'}{a:aq}{a5:aq->Prop}{H1:aF}{ts:List T}{vs:List V}(ax:c8 K H1 a vs)(q:bl K a5 H1 ts vs):nI K (y_ K a) a5 H1 (enum ts) where
 go:=λi F H t aQ d e=>by
  have hi:=(gy.mp e).1;simp only[enum,dy,List.length_zipIdx] at hi;obtain⟨v,ah,_⟩:=q.get (hK hi);exact⟨vs,v,aQ.tup _ _ ax,ah⟩
 lC:=λi F H t x ak aQ d e y=>by
  obtain⟨p,v,aC,rfl,rfl,y⟩:=y;have hi:=(gy.mp e).1;simp only[enum,dy,List.length_zipIdx] at hi;obtain⟨lu,ah,ao⟩:=(q.aQ aQ).get (hK hi);have aY:=y vs (aQ.tup _ _ ax);rw[ah] at aY;cases aY;have aW:=Ext.laid (o:=.tup [.int i,v]) d aC;refine⟨F,aW,?_⟩;have cw:t=.tuple [.int i,ts[i]]:=by
   simp only[enum,alZ,List.getElem?_zipIdx,hK hi] at e;simpa using e.symm
  subst cw;simp only[Rep];exact⟨p,_,rfl,c8.of ep,bl.cons (by simp[Rep]) (bl.cons (ao.ext aW) bl.nil)⟩
 stop:=λi F H aQ aH=>⟨vs,aQ.tup _ _ ax,by
  simp only[enum,dy,List.length_zipIdx] at aH;rw[<- q.length];exact aH⟩
def Q6(hm:X.mg "enumerate"=none)(aA:cq X a f)(a7:et X "enumerate":=by rfl)(aB:bL [a] X.env=[(false,eval a X.env)]:=by rfl)(fI:bL [a] X.env=(false,eval a X.env)::bL [] X.env:=by rfl):
  nL X (.Tuple ar k dJ) (.Call (.Name "enumerate" p) [a] [] pos) (je (mu f)):=yQ (aip a7 hm (fB aA h2 fI) aB) λσ H R ⟨aM,aO,O,F,ε,ts,r,e,k⟩=>by
 simp only[je,mu,hh,cW] at e;obtain⟨us,⟨t,cw,e⟩,rfl⟩:=e;split at e
 ·cases e
  refine⟨aM,aO,O,F,ε,_,r,cw,λv aR ak x q=>?_⟩
  simp only[Rep] at q;obtain⟨a,vs,rfl,aB,ax⟩:=q;exact⟨a,vs,rfl,aB,k _ aR ak x (PE aB ax)⟩
 ·cases e
end
end
section
variable [cB]
structure Cl(P:c3)(w:cf)(K:a')(mg:Str->Option av)(base:bP)(x:Str)(k n:Nat)(d:List T->Option T):Prop where
 ex:∃cU fd ps,gD P w K mg base e5 k cU fd ps (spT K n d)/\mg x=some (.ref cU)/\al6 K (.ref cU)=true/\Binds K fd ps []
section
variable {P:c3}{w:cf}{K:a'}{mg:Str->Option av}{base:bP}{x:Str}{k n:Nat}{d:List T->Option T}
theorem Cl.mono{j:Nat}(c:Cl P w K mg base x j n d)(h:j<=k):Cl P w K mg base x k n d:=by
 obtain⟨cU,fd,ps,F,r⟩:=c.ex;exact⟨cU,fd,ps,F.mono h,r⟩
def Cl.mk'{cU:aq}{fd:fa}{ps:List Str}(F:gD P w K mg base e5 k cU fd ps (spT K n d))(m:mg x=some (.ref cU))(aQ:al6 K (.ref cU)=true)(b:Binds K fd ps []):Cl P w K mg base x k n d:=⟨cU,fd,ps,F,m,aQ,b⟩
end
section
variable {X:aV}{k n:Nat}{d:List T->Option T}{x:Str}{p pos:Pos}{e:bk}{ar:List bk}{a6:List a_}
def bz(C:Cl X.prog X.w X.K X.mg X.base x k n d)(ax:eN k X.A)(aA:qs X (e::ar) a6)(a7:et X x:=by rfl)(bf:a6.length=n:=by rfl)(ib:(x==("__debug__":Str))=false:=by decide)
  (he:bL (e::ar) X.env=(false,eval e X.env)::bL ar X.env:=by rfl) (hpl:(fl pos (bL ar X.env)).any (·.1)=false:=by rfl):cq X (.Call (.Name x p) (e::ar) [] pos) (aw d a6):=by
 obtain⟨cU,fd,ps,F,m,aQ,b⟩:=C.ex;exact ajD F ax a7 m aQ b aA bf ib he hpl
def abM{i:Int}{t:Tok}(hm:X.mg x=some (.int i t))(a7:et X x:=by rfl)(hd:(x==("__debug__":Str))=false:=by decide):cq X (.Name x pos) (aa (.int i)):=vT (v:=.int i) (vy (v:=.int i) a7 hm ⟨t,rfl⟩ hd) λ_ _=>by simp[Rep]
noncomputable def RJ(scope sc:Scope)(N:List Str)(caps:List (Nat×Str)):Bool:=
 decide (scope.kind=.function) && scope.names.all (λy=>(decide (y.2≠.local) || decide (scope.names.lookup y.1=some .local)) && decide (y.2≠.cell) && (decide (y.2≠.free) || decide (sc.names.lookup y.1=some .cell) || decide (sc.names.lookup y.1=some .free)))
  && caps.all (λq=>decide (N[q.1]?=some q.2) && decide (scope.names.lookup q.2=some .free)) && decide ((caps.map (·.1)).Nodup)
def aki{scope sc:Scope}{own:List Str}{caps:List (Nat×Str)}(N:List Str)(z5:X.env.scope=sc)(dA:X.N=N)(au:X.calm=true)(h:RJ scope sc N caps=true):rK X scope own caps:=by
 simp only[RJ,cX,List.all_eq_true,decide_eq_true_eq,Bool.or_eq_true] at h;obtain⟨⟨⟨ah,ao⟩,aY⟩,bZ⟩:=h;refine⟨ah,λy b1 aH=>?_,λy b1=>(ao y b1).1.2,λy b1 hf=>?_,λq aD=>by rw[dA];exact aY q aD,bZ,au⟩
 ·rcases (ao y b1).1.1 with z|z
  ·exact absurd aH z
  ·exact z
 ·have a0:X.env.kindOf y.1=sc.names.lookup y.1:=by rw[<- z5];rfl
  rw[a0];rcases (ao y b1).2 with (z|z)|z
  ·exact absurd hf z
  ·exact .inl z
  ·exact .inr z
end
def dM{P:c3}{w:cf}{K:a'}{mg:Str->Option av}{base:bP}{x:Str}{st:Stmt}{f:aq}{fd:fa}{N ps:List Str}{k:Nat}{b:bx}(F:cE K x x st f fd)(S:cY N ps (bS st))(bd:Binds K fd ps [])(m:mg x=some (.ref f))
  (ag:∀(bY:av) (A:dk) (outer:List Env) (s:aP) (H:aF) (E:gE),eN k (A.deeper (envOfC x (bS st) s.heap.objs.size f bY)) ->
   kX (gQ e5 P w K mg base N x (bS st) f bY A outer s H E).eU (hk st) b):Cl P w K mg base x (k+1) ps.length (bV b N.length):=.mk' (akd F S ag) m F.aQ bd
end
end D
end
section
namespace bB
open PySem PySem.Spec PyProof.Rows
end bB
end
section
namespace D
open PySem PySem.Spec PyProof.Rows bB
variable [cB]
section
variable {X:aV}{a b e:bk}{f g:a_}{pos:Pos}
variable {x:Str}{iK:Pos}
def akr{R:TE}{h:a_}(k:∀σ H Q,sS X.K h σ H Q->R σ H Q):∀σ H Q,AI X.K (a3 h) σ H Q->bB.AD R σ H Q:=λσ H Q ⟨aM,aO,O,F,ε,b,r,e,cm⟩=>by
 simp only[a3,cW] at e;obtain⟨t,cw,e⟩:=e;split at e
 ·cases e
  refine k σ H _ ⟨aM,aO,O,F,ε,_,r,cw,λv aR ak x q=>?_⟩
  simp only[Rep] at q;exact⟨_,q,cm aR ak x⟩
 ·cases e
end
end D
end
section
namespace D
open PySem
variable [cB]
end D
end
section
namespace D
open PySem PySem.Spec PyProof.Rows bB
section
variable [cB]
theorem PB{α β:Type}{R:α->β->Prop}:∀{l uH:List α} {dV Nc:List β},Paired R l dV->Paired R uH Nc->Paired R (l++uH) (dV++Nc)
|_,_,_,_,.nil,h=>h
|_,_,_,_,.cons a b,h=>.cons a (PB b h)
end
section
variable [cB]
theorem Pt:∀{ts:List T} {ss:List Str},strsOf ts=some ss->ts=ss.map .str
| [],ns,e=>by
  cases e
  rfl
|t::ts,ns,e=>by
  unfold strsOf at e;split at e
  ·rename_i h
   cases h
  ·rename_i h
   cases h
   simp only[hh] at e;obtain⟨r,aE,rfl⟩:=e;rw[Pt aE];rfl
  ·cases e
section
variable {K:a'}{F:aq->Prop}{H:aF}
theorem Pz:∀(ns:List Int),bl K F H (ns.map .int) (ns.map V.int)
| []=>bl.nil
|n::ns=>bl.cons (by simp[Rep]) (Pz ns)
theorem Py:∀(ns:List Str),bl K F H (ns.map .str) (ns.map V.str)
| []=>bl.nil
|n::ns=>bl.cons (by simp[Rep]) (Py ns)
theorem Jb:∀{ns:List Str} {vs:List V},bl K F H (ns.map .str) vs->vs=ns.map V.str
| [],vs,h=>by simpa [bl] using h
|n::ns,vs,h=>by
  simp only[eI,bl,Rep] at h;obtain⟨v,r,rfl,rfl,z⟩:=h;rw[Jb z];rfl
end
noncomputable def I2:List T->Option T
| [.list xs]=>if xs.length<64 then
   match intsOf xs with
   |some ns=>some (.list ((sortI (dedup ns)).map .int))
   |none=>(strsOf xs).map λss=>.list ((Cf (dedup ss)).map .str)
  else none
|_=>none
section
variable {prog:c3}{w:cf}{A:dk}{E:av->aP->Prop}{s:aP}
def afG(n:Nat):sZ ((n:Int) - 1) (-1) (-1)=n:=by
 unfold sZ;rw[if_neg (by decide)];by_cases h:(n:Int) - 1 > -1
 ·rw[if_pos h];rw[show (- -1:Int)=1 by decide,Int.ediv_one];omega
 ·rw[if_neg h];omega
def ahi(xs:Array av):((List.range xs.size).filterMap λ(k:Nat)=>xs[((xs.size:Int) - 1+(k:Int)*(-1)).toNat]?).toArray=xs.toList.reverse.toArray:=by
 have ah:(λ(k:Nat)=>xs[((xs.size:Int) - 1+(k:Int)*(-1)).toNat]?)=λk=>xs[(λk=>xs.size - 1 - k) k]?:=by
  funext k;have:((xs.size:Int) - 1+(k:Int)*(-1)).toNat=xs.size - 1 - k:=by omega
  rw[this]
 rw[ah];have ao:=List.filterMap_map (f:=λk=>xs.size - 1 - k) (g:=λi=>xs[i]?) (l:=List.range xs.size);have aY:(λk=>xs[(λk=>xs.size - 1 - k) k]?)=(λi=>xs[i]?) ∘ λk=>xs.size - 1 - k:=rfl;rw[aY,<- ao,PySem.W.krv_range,List.filterMap_reverse,PySem.W.krv_all]
def adX{t b_:aq}{items:Array av}{u:Tok}{Q:av->aP->Prop}(aN:IsTup s.heap t items)(aB:s.heap.IsSliceOf b_ .none .none (.int (-1) u))
  (h:Q (.ref s.heap.objs.size) {s with heap:=s.heap.push {cls:=.type "tuple",data:=.seq items.toList.reverse.toArray} })
  (kD:items.size<=b'):bE (bN prog w) A (getItem (.ref t) (.ref b_)) Q E s:=by
 have pz:sizeOk (.seq items.toList.reverse.toArray):=by
  show items.toList.reverse.toArray.size<=b'
  simpa using kD
 obtain⟨os,kC,uA,pl⟩:=id aB;have w0:s.TypeIs (.ref b_) "slice":=⟨os,kC,uA⟩;unfold getItem
 try with_reducible refine u6 ?_
 first|refine aZ (cc ?_)|skip
 refine aZ (wpAny_sequenceKey aN.typeIs (by decide) ?_)
 refine aZ (pU (name:=Str.ofString "__getitem__") aN.typeIs u2
  (pV u2 aN.typeIs entry_tuple_getitem ?_ (args_tuple_getitem _ _)))
 show bE _ _ (Builtin.Tuple.tupleItemsOf (.ref t) >>= _) _ _ s
 refine aZ (tupleItemsOf_ aN ?_)
 refine aZ (wpAny_typeOf w0 ?_)
 rw[if_pos (by decide)];refine aZ ?_;unfold Builtin.Slice.sliceApplied Builtin.Slice.sliceFields;refine aZ (aZ (h1 kC pl (x:=.none) rfl (aZ (h1 kC pl (x:=.none) rfl (aZ (h1 kC pl (x:=.int (-1) u) rfl (cc ?_)))))));refine aZ (slicePart_int ?_);show bE _ _ (if ((-1:Int)==0)=true then _ else _) _ _ s;rw[if_neg (by decide)];refine aZ (slicePart_none (aZ (slicePart_none (aZ (cc ?_)))));show bE _ _ (pure (((items.size:Int) - 1),(-1:Int),sZ ((items.size:Int) - 1) (-1) (-1))) _ _ s;rw[afG];refine cc ?_;show bE _ _ (if (((items.size:Int) - 1)==0 && (-1:Int)==1 && items.size==items.size)=true then _ else _) _ _ s;rw[if_neg (by simp),ahi]
 first
  |exact aZ (m:=pS _) (nf (cc ⟨_,rfl,cc h⟩) pz)
  |exact aZ (m:=pS _) (nf (aZ (cc (cc ⟨_,rfl,cc h⟩))) pz)
  |exact aZ (aZ (m:=pS _) (nf (cc (cc ⟨_,rfl,cc h⟩)) pz))
  |exact aZ (aZ (m:=pS _) (nf (cc ⟨_,rfl,cc h⟩) pz))
end
theorem Jc{α β:Type}{R:α->β->Prop}:∀{l:List α} {dV:List β},Paired R l dV->Paired R l.reverse dV.reverse
|_,_,.nil=>.nil
|_,_,.cons a b=>by
  rw[List.reverse_cons,List.reverse_cons];exact PB (Jc b) (.cons a .nil)
theorem IW{K:a'}{F:aq->Prop}{H:aF}:∀{ts:List T} {vs:List V},bl K F H ts vs->bl K F H ts.reverse vs.reverse
| [],vs,h=>by
  simp only[bl] at h;subst h;exact bl.nil
|t::ts,vs,h=>by
  simp only[bl] at h;obtain⟨v,z,rfl,q,y⟩:=h;rw[List.reverse_cons,List.reverse_cons];exact (IW y).append (bl.cons q bl.nil)
section
variable {X:aV}{e st:bk}{te:TE}{f:a_}{pos dJ:Pos}
def ZP{j:Nat}{j0 p0:Pos}:b3 X (.UnaryOp .USub (.Constant (.int 1) j j0) p0) (hF (.int (-1))):=ec (KO Kf B8) λσ H Q h=>⟨1,rfl,h⟩
end
end
section
variable [cB]
section
variable {X:aV}{a b e:bk}{ar rest:List bk}{f g:a_}{a6:List a_}{p dJ pos alJ:Pos}
def mn{op:BoolOp}(h:cq X a f):cq X (.BoolOp op [a] pos) f:=QV h
def Rr{op:BoolOp}(h:cq X a f):cq X (.BoolOp op [a] pos) f:=QV h
def g9(aA:cq X a f)(ag:cq X (.BoolOp .And (b::rest) pos) g):cq X (.BoolOp .And (a::b::rest) pos) (fG f g):=ec (ajP aA ag) λσ H Q ⟨aM,aO,O,F,ε,t,r,e,k⟩=>by
 simp only[fG,cW] at e;obtain⟨x,ex,e⟩:=e;refine⟨aM,aO,O,F,ε,x,r,ex,λv a5 H1 aW aS=>?_⟩;split at e
 ·simp only[Rep] at aS;refine⟨true,aS,?_⟩;rw[if_pos rfl];exact⟨aM,aO,O,a5,ε,t,r.ext aW,e,λv aR ak bF q=>k v aR ak (aW.trans bF) q⟩
 ·cases e
  simp only[Rep] at aS;refine⟨false,aS,?_⟩;rw[if_neg (by decide)];exact k _ a5 H1 aW (by simp[Rep])
 ·cases e
def Iq(aA:cq X a f)(ag:cq X (.BoolOp .Or (b::rest) pos) g):cq X (.BoolOp .Or (a::b::rest) pos) (qZ f g):=ec (akJ aA ag) λσ H Q ⟨aM,aO,O,F,ε,t,r,e,k⟩=>by
 simp only[qZ,cW] at e;obtain⟨x,ex,e⟩:=e;refine⟨aM,aO,O,F,ε,x,r,ex,λv a5 H1 aW aS=>?_⟩;split at e
 ·simp only[Rep] at aS;refine⟨false,aS,?_⟩;rw[if_neg (by decide)];exact⟨aM,aO,O,a5,ε,t,r.ext aW,e,λv aR ak bF q=>k v aR ak (aW.trans bF) q⟩
 ·cases e
  simp only[Rep] at aS;refine⟨true,aS,?_⟩;rw[if_pos rfl];exact k _ a5 H1 aW (by simp[Rep])
 ·cases e
def akE(aA:cq X a f):cq X (.UnaryOp .Not a pos) (xn f):=ec (ajL aA) λσ H Q ⟨aM,aO,O,F,ε,t,r,e,k⟩=>by
 simp only[xn,cW] at e;obtain⟨x,ex,e⟩:=e;refine⟨aM,aO,O,F,ε,x,r,ex,λv a5 H1 aW aS=>?_⟩;split at e
 ·cases e
  simp only[Rep] at aS;exact⟨_,aS,k _ a5 H1 aW (by simp[Rep])⟩
 ·cases e
def uU(K:a')(f:Ev->Option (Option Int)):dm:=λσ H Q=>∃aM aO O F ε i,cZ K aM aO O F H ε σ/\f ε=some i/\∀aR ak,Ext F H aR ak->Q i ak
def Rg{x:Option bk}{t t':dm}(h:lP X x t)(k:∀σ H Q,t' σ H Q->t σ H Q):lP X x t':=λai s σ H Q I q=>h ai s σ H Q I (k σ H Q q)
def g8:lP X none (uU X.K optN):=Rg ain λσ H Q ⟨aM,aO,O,F,ε,i,r,e,k⟩=>by
 cases e
 exact k F H (Ext.refl r.cK)
def fg(h:dP X a f):lP X (some a) (uU X.K (opt f)):=Rg (aim h) λσ H Q ⟨aM,aO,O,F,ε,i,r,e,k⟩=>by
 simp only[opt,cW] at e;obtain⟨x,ex,e⟩:=e;refine⟨aM,aO,O,F,ε,x,r,ex,λv a5 H1 aW aS=>?_⟩;split at e
 ·cases e
  exact⟨_,aS.int,k a5 H1 aW⟩
 ·cases e
noncomputable def abT(K:a'):V->Option Int->Option Int->aF->di->Prop:=λx lo hi H Q=>∃a xs,x=.ref a/\c8 K H a xs/\(eM.bI xs.length 0 lo=0/\eM.bI xs.length xs.length hi=xs.length)/\Q (.ref a) H
def adT{prog:c3}{w:cf}{A:dk}{E:av->aP->Prop}{s:aP}{t b_:aq}{items:Array av}{gL e_:av}{lo hi:Option Int}{Q:av->aP->Prop}(aN:IsTup s.heap t items)(aB:s.heap.IsSliceOf b_ gL e_ .none)(c1:IsPart gL lo)(pu:IsPart e_ hi)
  (hw:eM.bI items.size 0 lo=0/\eM.bI items.size items.size hi=items.size) (h:Q (.ref t) s):bE (bN prog w) A (getItem (.ref t) (.ref b_)) Q E s:=by
 obtain⟨os,kC,uA,pl⟩:=id aB;have w0:s.TypeIs (.ref b_) "slice":=⟨os,kC,uA⟩;unfold getItem
 try with_reducible refine u6 ?_
 first|refine aZ (cc ?_)|skip
 refine aZ (wpAny_sequenceKey aN.typeIs (by decide) ?_)
 refine aZ (pU (name:=Str.ofString "__getitem__") aN.typeIs u2
  (pV u2 aN.typeIs entry_tuple_getitem ?_ (args_tuple_getitem _ _)))
 show bE _ _ (Builtin.Tuple.tupleItemsOf (.ref t) >>= _) _ _ s
 refine aZ (tupleItemsOf_ aN ?_)
 refine aZ (wpAny_typeOf w0 ?_)
 rw[if_pos (by decide)];refine aZ (eM.NV aB c1 pu ?_);rw[hw.1,hw.2];show bE _ _ (if (((0:Nat):Int)==0 && (1:Int)==1 && (items.size - 0)==items.size)=true then _ else _) _ _ s;rw[if_pos (by simp)];unfold Builtin.Tuple.tupleIsExact;refine aZ (aZ (wpAny_typeOf aN.typeIs (cc ?_)));rw[if_pos (by decide)];refine aZ (wpAny_rule ?_);exact cc ⟨_,rfl,cc h⟩
def P8:o4 X (abT X.K):=by
 intro ai s σ H x v gL e_ lo hi b_ Q I aS aB c1 pu h;obtain⟨a,xs,rfl,hx,hw,q⟩:=h;cases aS;obtain⟨its,r,aN,aI⟩:=I.tuple hx;have hlen:its.toArray.size=xs.length:=by rw[eE];exact r.length.symm
 refine⟨"tuple",_,PyProof.Rows.slot_tuple_getitem.lookup,aN.typeIs,?_⟩
 exact adT aN aB c1 pu (by rw[hlen];exact hw) ⟨.ref a,H,I,rfl,q⟩
def ajw(n d:Nat)(o:Option Int):D.bI n d o=eM.bI n d o:=by
 cases o with
|none=>rfl
|some v=>
  unfold D.bI eM.bI;dsimp only;split <;> omega
def vn{K:a'}{F:aq->Prop}{H:aF}{ts:List T}{vs:List V}(h:bl K F H ts vs)(lo hi:Option Int):bl K F H (cT ts lo hi) (ks vs lo hi):=by
 unfold cT ks;simp only[ajw,h.length];exact (h.drop _).take _
def aik{lo hi:Option bk}{dF wN:Ev->Option (Option Int)}(aA:dP X e f)(aH:lP X lo (uU X.K dF))(cM:lP X hi (uU X.K wN)):cq X (.Subscript e (.Slice lo hi none dJ) pos) (slice f dF wN):=ec (Qc ((QP.or P8).or Qs) aA aH cM) λσ H Q ⟨aM,aO,O,F,ε,t,r,e,k⟩=>by
 simp only[slice,cW] at e;obtain⟨x,ex,l,n0,h,e1,e⟩:=e;refine⟨aM,aO,O,F,ε,x,r,ex,λv a5 H1 aW aS=>⟨aM,aO,O,a5,ε,l,r.ext aW,n0,λdh bo bF=>⟨aM,aO,O,dh,ε,h,(r.ext aW).ext bF,e1,λh3 dO e'=>?_⟩⟩⟩;have q5:=bF.trans e';have mb:=aW.trans q5;unfold oh at e;split at e
 ·cases e
  obtain⟨a,vs,rfl,aB,ax⟩:=(aS.ext q5).tup;by_cases hw:eM.bI vs.length 0 l=0/\eM.bI vs.length vs.length h=vs.length
  ·refine .inl (.inr ⟨a,vs,rfl,aB,hw,k _ h3 dO mb ?_⟩)
   simp only[Rep];refine⟨a,vs,rfl,aB,?_⟩;have:=vn ax l h;unfold ks at this;rw[hw.1,hw.2,List.drop_zero,Nat.sub_zero,List.take_length] at this;exact this
  ·refine .inl (.inl ⟨a,vs,rfl,aB,hw,λq aD=>?_⟩)
   have hI:=Ext.laid (o:=.tup (ks vs l h)) mb.cK aD;refine k _ h3 _ (mb.trans hI) ?_;simp only[Rep];exact⟨q,_,rfl,c8.of ep,(vn ax l h).ext hI⟩
 ·cases e
  obtain⟨a,vs,rfl,aB,ax⟩:=(aS.ext q5).lst;refine .inr ⟨a,vs,rfl,.inl aB,λq aD=>?_⟩;have hI:=Ext.uI (o:=.lst (ks vs l h)) mb.cK aD;refine k _ _ _ (mb.trans hI) ?_;simp only[Rep];exact⟨q,_,rfl,.inr rfl,.inl ep,(vn ax l h).ext hI⟩
 ·cases e
end
end
end D
end
section
namespace D
open PySem PySem.W PyProof.Rows
structure Te(n:Nat)(lt:Nat->Nat->Bool):Prop where
 alf:∀i j,lt i j=true->lt j i=false
 trans:∀i j k,lt i j=true->lt j k=true->lt i k=true
 alS:∀i j,i<n->j<n->i≠j->lt i j=true\/lt j i=true
def o3(lt:Nat->Nat->Bool)(p:Array Nat)(m:Nat):Prop:=∀i j,i<j->j<m->lt (p.getD i 0) (p.getD j 0)=true
def lM(lt:Nat->Nat->Bool)(p:Array Nat)(m:Nat):Prop:=∀i j,i<j->j<m->lt (p.getD j 0) (p.getD i 0)=true
section
variable {n:Nat}{lt:Nat->Nat->Bool}(O:Te n lt)
include O
end
end D
end
section
namespace D
open PySem
variable [cB]
end D
end
section
namespace D
open PySem PySem.Spec PyProof.Rows bB
section
variable [cB]
open AutoSeq1 (wpAny_loadPart')
noncomputable def CN(K:a')(a:aq):jI:=
 ⟨λi H=>∃xs x,eO K H a xs/\xs[i]?=some x,λi H x ak=>∃p v,H p=none/\x=.ref p/\ak=upd H p (.tup [.int i,v])/\∀xs,eO K H a xs->xs[i]?=some v,λi H=>∃xs,eO K H a xs/\xs.length<=i⟩
def afu{P:c3}{w:cf}{K:a'}{ar:List bk}{k:Nat}{pos:Pos}(a it e:aq)(gS:e≠it)(FT:a≠it)(FR:a≠e):Turn P w K (.Tuple ar k pos) (CN K a) [e,it] e (λi h=>(∃old,IsEnum h e it i old)/\h.IsListIter it a i) where
 mem:=by simp
 obj:=λi h st b ag=>by
  obtain⟨⟨old,he⟩,o,aT,au,hd⟩:=st;rcases bC.mp ag with rfl|ag
  ·exact⟨_,he,λv z=>by
    have gA:Data.fields _=Data.cell v:=z;cases gA⟩
  ·have aE:b=it:=by simpa using ag
   subst aE;exact⟨o,aT,λv z=>by rw[hd] at z;cases z⟩
 keep:=λi h h' st cm=>by
  obtain⟨⟨old,he⟩,lr⟩:=st;exact⟨⟨old,cm e (by simp) _ he⟩,lr.at λo q=>cm it (by simp) o q⟩
 item:=by
  intro X eS hw fu au i ai s σ H E I hf st a7;subst eS hw fu;obtain⟨xs,x,aD,hx⟩:=a7;obtain⟨its,cn,p,aI⟩:=I.list aD;obtain⟨u,cM,e3⟩:=cn.get hx;obtain⟨⟨old,he⟩,hit⟩:=st;obtain⟨f0,f1,f2,fW,f4,ez⟩:=hf e (by simp);obtain⟨jR,g1,g2,g3,lg,kv⟩:=hf it (by simp);have hi:i<its.toArray.size:=by
   rw[eE];exact (gy.mp cM).1
  have F9:e∉[it,a]:=by
   intro z;rcases bC.mp z with z|z
   ·exact gS z
   ·have gA:e=a:=by simpa using z
    exact FR gA.symm
  refine wpAny_pyNext_enum_itemD (Draws.list (A:=X.A.in1) (I.ok.hd au) it a FT its.toArray) he ⟨hit,p.isList⟩ hi gS F9 λjA h' tk FN aT lX gs kD a0=>?_
  have ex:jA=u:=by
   have:=FN;rw[<- Array.getElem?_toList] at this;rw[show (its.toArray).toList=its from rfl,cM] at this;exact (iN this).symm
  subst ex;refine⟨_,rfl,wpAny_letOwnedTupleGo_enum aT λao uC fI=>?_⟩;have w3:e<s.heap.objs.size:=dj he;have F0:it<s.heap.objs.size:=by obtain⟨o,e8,_⟩:=hit;exact dj e8
  have k2:∀b o,b≠e->b≠it->s.heap.get? b=some o->ao.get? b=some o:=λb o ah aY q=>fI.extBut b o ah (a0 b o ah aY q);have fr:H s.heap.objs.size=none:=I.bW.fresh (eo _);have r7:ao.get? s.heap.objs.size=some {cls:=.type "tuple",data:=.seq #[.int i tk,jA]}:=fI.extBut _ _ (sY w3) gs;have mW:∀b o,H b=some o->b≠e/\b≠it:=λb o q=>⟨λz=>(by rw[z,f0] at q;cases q),λz=>(by rw[z,jR] at q;cases q)⟩;have se:eZ X.prog X.w (upd H s.heap.objs.size (.tup [.int i,x])) ao:=by
   intro b o q;by_cases ag:b=s.heap.objs.size
   ·subst ag;rw[ep] at q;cases q;exact⟨by show 2<=b';decide,[.int i tk,jA],.cons ⟨tk,rfl⟩ (.cons e3 .nil),⟨_,r7,rfl,_,rfl⟩⟩
   ·rw[cp ag] at q;refine (I.bW b o q).kJ (λc v cj d5=>k2 c v ?_ ?_ d5) (λc d5=>?_) λc ys d5=>?_
    ·rcases cj with rfl|cj
     ·exact (mW _ _ q).1
     ·exact (mW _ _ cj).1
    ·rcases cj with rfl|cj
     ·exact (mW _ _ q).2
     ·exact (mW _ _ cj).2
    ·rw[cp (gB d5 fr)];exact d5
    ·rw[cp (gB d5 fr)];exact d5
  have cg:bB.Inv X ai σ (upd H s.heap.objs.size (.tup [.int i,x])) {s with heap:=ao,toks:=tk+1}:=by
   refine I.step (g':=s.gens) (d':=s.drawn) (ch:=[e,it]) (λb ag=>?_) (λb o _ _ cj q _=>k2 b o (λz=>cj (by simp[z])) (λz=>cj (by simp[z])) q) (λb o _ _ cj q _=>⟨o.slots,k2 b o (λz=>cj (by simp[z])) (λz=>cj (by simp[z])) q⟩) (λb o _ q n=>?_)
    (λb o cj q=>⟨o,k2 b o (λz=>cj (by simp[z])) (λz=>cj (by simp[z])) q⟩) (λb ys q=>by rw[cp (gB q fr)];exact q) (λb o u q=>by rw[cp (gB q fr)];exact q) (λb ps q=>⟨#[],by rw[cp (gB q fr),q];simp⟩) (λm hm=>?_) se I.bare
   ·rcases bC.mp ag with rfl|ag
    ·exact⟨fW,f1,f4,ez⟩
    ·have:b=it:=by simpa using ag
     subst this;exact⟨g3,g1,lg,kv⟩
   ·rw[cp (eg (dj q))];exact n
   ·obtain⟨o,mM,cL,e8,r⟩:=hm;exact⟨o,mM,cL,k2 _ o (Ne.symm f1) (Ne.symm g1) e8,r⟩
  refine⟨.ref s.heap.objs.size,_,cg,rfl,⟨s.heap.objs.size,x,fr,rfl,rfl,λys b1=>by rw[I.HX b1 aD];exact hx⟩,⟨⟨_,by simpa using uC⟩,lX.1.at λo q=>(fI.2 it gS.symm).trans q⟩,λb ag=>?_⟩
  rcases bC.mp ag with rfl|ag
  ·rw[cp (eg w3)];exact f0
  ·have:b=it:=by simpa using ag
   subst this;rw[cp (eg F0)];exact jR
 done:=by
  intro X eS hw fu au i ai s σ H E I hf st a7;subst eS hw fu;obtain⟨xs,aD,hx⟩:=a7;obtain⟨its,cn,p,aI⟩:=I.list aD;obtain⟨⟨old,he⟩,hit⟩:=st;obtain⟨jR,g1,g2,g3,lg,kv⟩:=hf it (by simp);have gs:s.TypeIs (.ref e) "enumerate":=⟨_,he,rfl⟩;have aH:=cn.length;unfold pyNext;refine aZ (wpAny_attempt (pU (name:=Str.ofString "__next__") gs F.slot_enumerate_next
   (pV F.slot_enumerate_next gs F.entry_enumerate_next ?_ (F.args_enumerate_next_1 _))))
  show bE _ _ (field (.ref e) 2 >>= _) _ _ _
  refine aZ (h1 he rfl (x:=.ref it) rfl ?_)
  refine aZ (wpAny_nextOf_list_end (I.ok.hd au) hit p.isList (by simp;omega) λh' x r_ pA=>?_)
  obtain⟨o,aT,cj⟩:=pA;refine aZ (wpAny_isInstance (T:="StopIteration") (b:=true) ⟨o,aT,cj⟩ isSubtype_stop ?_);exact cc ⟨rfl,I.turned (t':=s.toks) (λb o ag q=>r_ b o ag q) jR g1 g3 lg kv⟩
 self:=λ_ _ _ _ _ st h=>by
  obtain⟨⟨old,he⟩,_⟩:=st;exact wpAny_pyIter_enum he h
def Yn(K:a')(cD:fT):TI:=λσ H R=>cD σ H λvs H1=>∃a xs,vs=[.ref a]/\((c8 K H1 a xs/\R (y_ K a) H1)\/(eO K H1 a xs/\R (CN K a) H1))
section
variable {X:aV}{ar:List bk}{k:Nat}{p pos dJ:Pos}{a:bk}{f:a_}
def ahk{cD:fT}(a7:et X "enumerate")(hm:X.mg "enumerate"=none)(aA:gm X [a] cD)(aB:bL [a] X.env=[(false,eval a X.env)]:=by rfl):oZ X (.Tuple ar k dJ) (.Call (.Name "enumerate" p) [a] [] pos) (Yn X.K cD):=by
 intro ai s σ H R I h;refine Call_ (qj I a7 hm PyProof.Rows.boot_enumerate (xK (cA (aA pos ai s σ H _ I h) λus s1 ⟨vs,H1,a9,bj,a4⟩=>?_) aB rfl));obtain⟨a,xs,rfl,a4⟩:=a4;cases bj with
|cons r sL=>
  cases sL
  cases r
  have zM:∀b∈[s1.heap.objs.size+1,s1.heap.objs.size],s1.heap.objs.size<=b:=λb ag=>by
   rcases bC.mp ag with rfl|ag
   ·exact Nat.le_succ _
   ·have:b=s1.heap.objs.size:=by simpa using ag
    rw[this];exact eo _
  rcases a4 with ⟨aD,q⟩|⟨aD,q⟩
  ·obtain⟨its,cn,c1,aI⟩:=a9.tuple aD;have kz:a<s1.heap.objs.size:=by obtain⟨o,aT,_⟩:=c1;exact dj aT
   refine Ou (show s1.heap.IsTuple a its.toArray from c1) λh' he hit kD a0=>wpAny_pyIter_enum he ?_
   exact⟨s1.heap.objs.size+1,[s1.heap.objs.size+1,s1.heap.objs.size],_,_,H1,rfl,a9.kept (t':=s1.toks) a0,Pq a s1.heap.objs.size (s1.heap.objs.size+1) (Nat.succ_ne_self _) (eg kz) (eg (Nat.lt_succ_of_lt kz)),⟨⟨_,he⟩,hit⟩,λb ag=>a9.uu (zM b ag) (a9.bW.fresh (zM b ag)),q⟩
  ·obtain⟨its,cn,c1,aI⟩:=a9.list aD;have kz:a<s1.heap.objs.size:=by obtain⟨o,n,aT,_⟩:=c1;exact dj aT
   refine call_enumerate_list c1.isList λh' he hit kD a0=>wpAny_pyIter_enum he ?_
   exact⟨s1.heap.objs.size+1,[s1.heap.objs.size+1,s1.heap.objs.size],_,_,H1,rfl,a9.kept (t':=s1.toks) a0,afu a s1.heap.objs.size (s1.heap.objs.size+1) (Nat.succ_ne_self _) (eg kz) (eg (Nat.lt_succ_of_lt kz)),⟨⟨_,he⟩,hit⟩,λb ag=>a9.uu (zM b ag) (a9.bW.fresh (zM b ag)),q⟩
def afX{K:a'}{a:aq}{a5:aq->Prop}{H1:aF}{ts:List T}{vs:List V}(hf:a5 a)(ax:f5 H1 a (.lst vs))(q:bl K a5 H1 ts vs):nI K (CN K a) a5 H1 (enum ts) where
 go:=λi F H t aQ d e=>by
  have hi:=(gy.mp e).1;simp only[enum,dy,List.length_zipIdx] at hi;obtain⟨v,ah,_⟩:=q.get (hK hi);exact⟨vs,v,.inl (aQ.lst _ _ hf ax).2,ah⟩
 lC:=λi F H t x ak aQ d e y=>by
  obtain⟨p,v,aC,rfl,rfl,y⟩:=y;have hi:=(gy.mp e).1;simp only[enum,dy,List.length_zipIdx] at hi;obtain⟨lu,ah,ao⟩:=(q.aQ aQ).get (hK hi);have aY:=y vs (.inl (aQ.lst _ _ hf ax).2);rw[ah] at aY;cases aY;have aW:=Ext.laid (o:=.tup [.int i,v]) d aC;refine⟨F,aW,?_⟩;have cw:t=.tuple [.int i,ts[i]]:=by
   simp only[enum,alZ,List.getElem?_zipIdx,hK hi] at e;simpa using e.symm
  subst cw;simp only[Rep];exact⟨p,_,rfl,c8.of ep,bl.cons (by simp[Rep]) (bl.cons (ao.ext aW) bl.nil)⟩
 stop:=λi F H aQ aH=>⟨vs,.inl (aQ.lst _ _ hf ax).2,by
  simp only[enum,dy,List.length_zipIdx] at aH;rw[<- q.length];exact aH⟩
def aiQ(hm:X.mg "enumerate"=none)(aA:cq X a f)(a7:et X "enumerate":=by rfl)(aB:bL [a] X.env=[(false,eval a X.env)]:=by rfl)(fI:bL [a] X.env=(false,eval a X.env)::bL [] X.env:=by rfl):
  nL X (.Tuple ar k dJ) (.Call (.Name "enumerate" p) [a] [] pos) (je (fc f)):=yQ (ahk a7 hm (fB aA h2 fI) aB) λσ H R ⟨aM,aO,O,F,ε,ts,r,e,k⟩=>by
 simp only[je,fc,hh,cW] at e;obtain⟨us,⟨t,cw,e⟩,rfl⟩:=e;split at e
 ·cases e
  refine⟨aM,aO,O,F,ε,_,r,cw,λv aR ak x q=>?_⟩
  simp only[Rep] at q;obtain⟨a,vs,rfl,aB,ax⟩:=q;exact⟨a,vs,rfl,.inl ⟨aB,k _ aR ak x (PE aB ax)⟩⟩
 ·cases e
  refine⟨aM,aO,O,F,ε,_,r,cw,λv aR ak x q=>?_⟩
  simp only[Rep] at q;obtain⟨a,vs,rfl,hf,aB,ax⟩:=q;exact⟨a,vs,rfl,.inr ⟨.inl aB,k _ aR ak x (afX hf aB ax)⟩⟩
 ·cases e
end
end
section
variable [cB]
section
variable {K:a'}{F:aq->Prop}{H:aF}
theorem Pa:∀{bs:List Bool} {vs:List V},bl K F H (bs.map .bool) vs->vs=bs.map V.bw
| [],vs,h=>by simpa [bl] using h
|n::ns,vs,h=>by
  simp only[eI,bl,Rep] at h;obtain⟨v,r,rfl,rfl,z⟩:=h;rw[Pa z];rfl
end
end
section
variable [cB]
mutual
noncomputable def hC:T->T->Option Bool
|.int a,.int b=>some (decide (a<b))
|.tuple xs,.tuple ys=>sq xs ys
|_,_=>none
noncomputable def sq:List T->List T->Option Bool
| [],[]=>some false
| [],_::_=>some true
|_::_,[]=>some false
|x::xs,y::ys=>if kL x y then sq xs ys else hC x y
end
noncomputable def Le(A:dk)(s:aP)(y x:av)(b:Bool):Prop:=
 ∀(prog:c3) (w:cf) (E:av->aP->Prop) (Q:av->aP->Prop),Q (.bool b) s->bE (bN prog w) A (richCompare .Lt y x) Q E s
inductive oV(A:dk)(s:aP)(fin:Bool):List (av×av)->Bool->Prop
|nil:oV A s fin [] fin
|eq {y x:av} {r:List (av×av)} {b:Bool}:SeqAt.EqAt A s y x true->oV A s fin r b->oV A s fin ((y,x)::r) b
|lt {y x:av} {r:List (av×av)} {b:Bool}:SeqAt.EqAt A s y x false->Le A s y x b->oV A s fin ((y,x)::r) b
section
open PySem.SeqAt
open PySem.AutoSeq1 (wpAny_loadPart')
open PySem.MeetsSeq PySem.MeetsSeq2 PySem.MeetsSeq3
def aer(l b:aq)(items pE:Array av)(n fK:Nat)(dd lU:Option aq)(b_ hg:Array (Option av))(z:Bool):
  Meets (Builtin.«tuple.__lt__» ⟨[.ref l,.ref b],[]⟩)
   (λA R s=>s.heap.get? l=some {cls:=.type "tuple",dict:=dd,data:=.seq items n,slots:=b_}/\s.heap.get? b=some {cls:=.type "tuple",dict:=lU,data:=.seq pE fK,slots:=hg} /\
    oV A.in1 s (decide (items.size<pE.size)) (items.toList.zip pE.toList) z/\R (.ok (.ret (.bool z))) s):=
 .of_wp λprog w A R s h=>by
  obtain⟨aC,g,d,tk,os⟩:=s;obtain⟨aH,ag,a7,h⟩:=h;have f2:=AutoSeq1.sub_tuple_tuple
  wp_walk using wpAny_loadPart' aH,wpAny_loadPart' ag,wpAny_forIn_list _ (λrest b s'=>b.1=none/\s'=⟨aC,g,d,tk,os⟩/\oV A.in1 ⟨aC,g,d,tk,os⟩ (decide (items.size<pE.size)) rest z) _
  case turn=>
   rintro⟨y,x⟩ rest b s' ⟨jT,rfl,i5⟩;cases i5 with
   |eq he i5=>
    refine aZ (he prog w _ _ ?_)
    wp_walk
    exact⟨rfl,rfl,i5⟩
   |lt he hA=>
    refine aZ (he prog w _ _ ?_)
    have Gb:=hA prog w
    wp_walk using Gb
    exact⟨_,rfl,h⟩
  case fin=>
   rintro⟨bD,b7⟩ s' ⟨jT,rfl,i5⟩;simp only at jT;subst jT;cases i5
   wp_walk
   exact⟨_,rfl,by simpa [Builtin.Tuple.tupleCompareSizes] using h⟩
  case h=>
   exact⟨rfl,rfl,a7⟩
mutual
theorem ahC:∀(pb db:T) (A:dk) (s:aP) (a b:av) (as bs:List aq) (r:Bool),Reads s.heap a pb as->Reads s.heap b db bs->pb.canLay0=true->db.canLay0=true->A.units+min pb.depth db.depth<cLine->hC pb db=some r->Le A s a b r
|.int i,.int j,A,s,_,_,_,_,r,.int _ t,.int _ u,_,_,_,e=>by
  unfold hC at e;cases e;exact λprog w E Q q=>(PyProof.Rows.lt_int q:bE (bN prog w) A (g0 .Lt (.int i t) (.int j u)) Q E s)
|.tuple xs,.tuple ys,A,s,_,_,_,_,r,.tuple (a:=l) (o:=o) (vs:=vs) (n:=n) ah ao aY bZ,.tuple (a:=uH) (o:=o') (vs:=xF) (n:=xk) k1 k2 k3 e9,aA,ag,cM,e=>by
  unfold hC at e;simp only[PyData.canLay0] at aA ag;simp only[jC] at cM;have i5:=good_reads xs ys A.in1 s vs.toList xF.toList _ _ r bZ e9 aA ag (room_in cM) e;obtain⟨cls,dd,data,b_⟩:=o;obtain⟨EB,lU,data2,hg⟩:=o';simp only at ao aY k2 k3;subst ao aY k2 k3;rw[q9,q9] at i5;exact λprog w E Q q=>richCompare_meets_room (op:=.Lt) ⟨_,ah,rfl⟩ ⟨_,k1,rfl⟩ PySem.F.slot_tuple_lt PySem.F.entry_tuple_lt (PySem.F.args_tuple_lt_2 _ _) (aer l uH vs xF n xk dd lU b_ hg r)
   ⟨ah,k1,i5,show Value.bool r≠Value.notImplemented/\Q (.bool r) s from ⟨(λx=>nomatch x),q⟩⟩ (by omega)
|.none,_,_,_,_,_,_,_,_,_,_,_,_,_,e=>by simp[hC] at e
|.bool _,_,_,_,_,_,_,_,_,_,_,_,_,_,e=>by simp[hC] at e
|.str _,_,_,_,_,_,_,_,_,_,_,_,_,_,e=>by simp[hC] at e
|.list _,_,_,_,_,_,_,_,_,_,_,_,_,_,e=>by simp[hC] at e
|.dict _,_,_,_,_,_,_,_,_,_,_,_,_,_,e=>by simp[hC] at e
|.int _,.none,_,_,_,_,_,_,_,_,_,_,_,_,e=>by simp[hC] at e
|.int _,.bool _,_,_,_,_,_,_,_,_,_,_,_,_,e=>by simp[hC] at e
|.int _,.str _,_,_,_,_,_,_,_,_,_,_,_,_,e=>by simp[hC] at e
|.int _,.list _,_,_,_,_,_,_,_,_,_,_,_,_,e=>by simp[hC] at e
|.int _,.dict _,_,_,_,_,_,_,_,_,_,_,_,_,e=>by simp[hC] at e
|.int _,.tuple _,_,_,_,_,_,_,_,_,_,_,_,_,e=>by simp[hC] at e
|.tuple _,.none,_,_,_,_,_,_,_,_,_,_,_,_,e=>by simp[hC] at e
|.tuple _,.bool _,_,_,_,_,_,_,_,_,_,_,_,_,e=>by simp[hC] at e
|.tuple _,.str _,_,_,_,_,_,_,_,_,_,_,_,_,e=>by simp[hC] at e
|.tuple _,.list _,_,_,_,_,_,_,_,_,_,_,_,_,e=>by simp[hC] at e
|.tuple _,.dict _,_,_,_,_,_,_,_,_,_,_,_,_,e=>by simp[hC] at e
|.tuple _,.int _,_,_,_,_,_,_,_,_,_,_,_,_,e=>by simp[hC] at e
theorem good_reads:∀(xs ys:List T) (A:dk) (s:aP) (vs ws:List av) (as bs:List aq) (r:Bool),ReadsAll s.heap vs xs as->ReadsAll s.heap ws ys bs->jB xs=true->jB ys=true->A.units+min (i' xs) (i' ys)<cLine->sq xs ys=some r->oV A s (decide (vs.length<ws.length)) (vs.zip ws) r
| [],[],A,s,_,_,_,_,r,.nil,.nil,_,_,_,e=>by
  unfold sq at e;cases e;exact .nil
| [],_::_,A,s,_,_,_,_,r,.nil,.cons _ _,_,_,_,e=>by
  unfold sq at e;cases e;exact oV.nil
|_::_,[],A,s,_,_,_,_,r,.cons _ _,.nil,_,_,_,e=>by
  unfold sq at e;cases e;exact oV.nil
|x::xs,y::ys,A,s,_,_,_,_,r,.cons bj cF,.cons a4 bO,aA,ag,cM,e=>by
  simp only[jB,cX] at aA ag;simp only[i'] at cM;unfold sq at e;have he:=eqAt_reads x y A s _ _ _ _ bj a4 aA.1 ag.1 (room_head cM);split at e
  next h=>
   rw[h] at he;have d0:=good_reads xs ys A s _ _ _ _ r cF bO aA.2 ag.2 (room_tail cM) e;rw[AU];simp only[fM,Nat.add_lt_add_iff_right];exact .eq he d0
  next h=>
   rw[Bool.not_eq_true] at h;rw[h] at he;rw[AU];exact .lt he (ahC x y A s _ _ _ _ r bj a4 aA.1 ag.1 (room_head cM) e)
end
end
end
end D
end
section
namespace D
open PySem
inductive oP where
|v (f:a_)|o (i:Nat)
abbrev wa:=Ev->Option (T×Ev)
abbrev ei:=Ev->Option bQ
def Ih(i:Nat)(ε:Ev):Option bQ:=match ε[i]? with
|some (some (.obj m c a6))=>some (.obj m c a6)
|_=>none
noncomputable def qx:List oP->Ev->Option (List bQ)
| [],_=>some []
|.v f::as,ε=>(f ε).bind λt=>(qx as ε).map λss=>.ae t::ss
|.o i::as,ε=>(Ih i ε).bind λs=>(qx as ε).map λss=>s::ss
def Iy:bQ->bQ
|.obj _ c a6=>.obj .al0 c a6
|s=>s
def l3(c i:Nat)(ε:Ev):Option (wd×List bQ):=match ε[i]? with
|some (some (.obj m cC a6))=>if cC=c then some (m,a6) else none
|_=>none
def fld(c i j:Nat):a_:=λε=>(l3 c i ε).bind λo=>match o.2[j]? with
|some (.ae t)=>some t
|some (.own ts)=>some (.list ts)
|_=>none
def uq(c i j:Nat):a_:=λε=>(l3 c i ε).bind λo=>match o.2[j]? with
|some (.ae t)=>some t
|_=>none
def qF(c i j:Nat):Ev->Option (List (Key×T)):=λε=>(l3 c i ε).bind λo=>match o.2[j]? with
|some (.iE dc)=>some dc
|_=>none
def uo(c i j:Nat):Ev->Option (List T):=λε=>(l3 c i ε).bind λo=>match o.2[j]? with
|some (.own ts)=>some ts
|_=>none
def wM(c i j:Nat)(k:a_):a_:=λε=>(k ε).bind λt=>(keyOf t).bind λk=>(qF c i j ε).bind λdc=>getD dc k
noncomputable def m5(c i j:Nat)(s:bQ)(ε:Ev):Option Ev:=(l3 c i ε).bind λo=>if o.1=.al0 then none else
 if j<o.2.length then some (ε.set i (some (.obj o.1 c (o.2.set j s)))) else if j=o.2.length then some (ε.set i (some (.obj o.1 c (o.2++[s])))) else none
def wx(c i j:Nat)(f:a_):bx:=λε=>(f ε).bind λt=>(m5 c i j (.ae t) ε).map .bg
def y2(c i j:Nat)(f:a_):bx:=λε=>(f ε).bind λt=>match t with
|.list ts=>(m5 c i j (.own ts) ε).map .bg
|_=>none
def tW:T->T->Option Int
|.int i,.int j=>some (i+j)
|_,_=>none
def wA(c i j:Nat)(f:a_):bx:=λε=>(uq c i j ε).bind λx=>(f ε).bind λy=>(tW x y).bind λz=>(m5 c i j (.ae (.int z)) ε).map .bg
def wu(c i j:Nat)(f:a_):bx:=λε=>(f ε).bind λt=>(uo c i j ε).bind λts=>if ts.length<big then (m5 c i j (.own (ts++[t])) ε).map .bg else none
noncomputable def yV(c i j:Nat)(k v:a_):bx:=λε=>(v ε).bind λv=>(k ε).bind λt=>(keyOf t).bind λk=>(qF c i j ε).bind λdc=>if dc.length<big then (m5 c i j (.iE (putD dc k v)) ε).map .bg else none
noncomputable def y1(c i j:Nat)(k v:a_):bx:=λε=>(k ε).bind λt=>(keyOf t).bind λk=>(qF c i j ε).bind λdc=>(getD dc k).bind λx=>(v ε).bind λy=>(tW x y).bind λz=>if dc.length<big then (m5 c i j (.iE (putD dc k (.int z))) ε).map .bg else none
def vX(f g:iW):iW:=λε=>(f ε).bind λa=>(g ε).map λb=>List.zipWith (λx y=>.tuple [x,y]) a b
def yX(c:Nat)(d:List bQ->Option T)(i:Nat)(a6:List a_):a_:=λε=>(l3 c i ε).bind λo=>(args a6 ε).bind λts=>d (.obj .al0 c o.2::ts.map .ae)
noncomputable def yY(c:Nat)(d:List bQ->Option (T×List bQ))(i:Nat)(a6:List a_):wa:=λε=>(l3 c i ε).bind λo=>if o.1=.al0 then none else (args a6 ε).bind λts=>
 (d (.obj .uJ c o.2::ts.map .ae)).map λr=>(r.1,ε.set i (some (.obj o.1 c r.2)))
def wL(f:wa):bx:=λε=>(f ε).map λr=>.bg r.2
def xv(f:wa):bx:=λε=>(f ε).map λr=>.j6 r.1 r.2
def xu(f:a_):bx:=λε=>(f ε).map λt=>.j6 t ε
def wy(i:Nat)(f:wa):bx:=λε=>(f ε).map λr=>.bg (r.2.set i (some (.ae r.1)))
def yU:bx:=λε=>some (.j6 .none ε)
def never:bx:=λ_=>none
def mm(n:Nat)(ss:List bQ):Ev:=ss.map some++dT (n - ss.length) none
def xw(b:bx)(n:Nat)(ss:List bQ):Option T:=(b (mm n ss)).bind λo=>match o with
|.ee t=>some t
|.bg _=>some .none
|_=>none
def tS(c p:Nat)(ε:Ev):Option (List bQ):=match ε[p]? with
|some (some (.obj .uJ cC a6))=>if cC=c then some a6 else none
|_=>none
noncomputable def runM(c p:Nat)(b:bx)(n:Nat)(ss:List bQ):Option (T×List bQ):=(b (mm n ss)).bind λo=>match o with
|.j6 t ε=>(tS c p ε).map λa6=>(t,a6)
|.bg ε=>(tS c p ε).map λa6=>(.none,a6)
|_=>none
end D
end
section
namespace D
open PySem PySem.Spec PyProof.Rows bB
section
variable [cB]
noncomputable def rF(K:a')(F:aq->Prop)(H:aF)(σ:bB.St):List oP->List bQ->List V->Prop
| [],[],[]=>True
|.v _::as,s::ss,v::vs=>(∃t,s=.ae t/\Rep K F H t v)/\rF K F H σ as ss vs
|.o i::as,s::ss,v::vs=>σ[i]?=some (some v)/\rF K F H σ as ss vs
|_,_,_=>False
def ac6(K:a')(as:List oP):fT:=λσ H Q=>∃aM E O F ε ss,cZ K aM E O F H ε σ/\qx as ε=some ss/\∀vs aR ak,Ext F H aR ak->rF K aR ak σ as ss vs->Q vs ak
abbrev zh(X:aV)(ar:List bk)(as:List oP):Prop:=gm X ar (ac6 X.K as)
def RP{X:aV}{e:List bk}{t t':fT}(h:gm X e t)(k:∀σ H Q,t' σ H Q->t σ H Q):gm X e t':=yR h k
section
variable {X:aV}{e:bk}{ar:List bk}{as:List oP}{f:a_}{i:Nat}
def vP:zh X [] []:=RP h2 λσ H Q ⟨aM,E,O,F,ε,ss,r,e,k⟩=>by
 cases e
 exact k [] F H (Ext.refl r.cK) trivial
def qw(ah:cq X e f)(ao:zh X ar as)(aB:bL (e::ar) X.env=(false,eval e X.env)::bL ar X.env:=by rfl):zh X (e::ar) (.v f::as):=RP (fB ah ao aB) λσ H Q ⟨aM,E,O,F,ε,ss,r,e,k⟩=>by
 simp only[qx,cW,hh] at e;obtain⟨t,cw,us,la,rfl⟩:=e;exact⟨aM,E,O,F,ε,t,r,cw,λv a5 H1 aW a4=>⟨aM,E,O,a5,ε,us,r.ext aW,la,λvs dh bo bF bO=>k _ dh bo (aW.trans bF) ⟨⟨t,rfl,a4.ext bF⟩,bO⟩⟩⟩
def agn{ε:Ev}{s:bQ}(h:Ih i ε=some s):∃m c a6,s=.obj m c a6/\ε[i]?=some (some s):=by
 unfold Ih at h;split at h
 next m c a6 e=>
  cases h
  exact⟨m,c,a6,rfl,e⟩
 next=>cases h
end
def K0(K:a')(F:aq->Prop)(H:aF)(ss:List bQ)(vs:List V):Prop:=Paired (λs v=>s.lh=false/\fQ K ⟨H,0⟩ (λa=>H a=none) F H s v) ss vs
section
variable {K:a'}{F aR aM O:aq->Prop}{H ak:aF}{E oS:iC}
theorem Paired.get{α β:Type}{R:α->β->Prop}:∀{xs:List α} {ys:List β} {i:Nat} {x:α},Paired R xs ys->xs[i]?=some x->∃y,ys[i]?=some y/\R x y
|_,_,i,x,.nil,e=>by simp at e
|_,_,0,x,.cons r _,e=>by
  simp at e;subst e;exact⟨_,rfl,r⟩
|_,_,i+1,x,.cons _ t,e=>by
  obtain⟨y,ah,ao⟩:=Paired.get (i:=i) (x:=x) t (by simpa using e);exact⟨y,by simpa using ah,ao⟩
def Pw{ss:List bQ}{n i:Nat}{s:bQ}(h:(mm n ss)[i]?=some (some s)):ss[i]?=some s:=by
 unfold mm at h;by_cases hi:i<ss.length
 ·rw[u4 (by simpa using hi),alZ,hK hi] at h;rw[hK hi];simpa using h
 ·rw[u3 (by simpa using hi),List.getElem?_replicate] at h;split at h <;> cases h
def agc{vs:List V}{n i:Nat}{v:V}(h:vs[i]?=some v):(vs.map some++dT n none)[i]?=some (some v):=by
 have hi:=(gy.mp h).1;rw[u4 (by simpa using hi),alZ,h];rfl
def akz{m:wd}{c:Nat}{a6:List bQ}{v:V}(r:fQ K E O F H (.obj m c a6) v)(oS:iC)(ze:aq->Prop)(he:∀b∈eu H (.obj m c a6) v,oS.h b≠none):fQ K oS ze F H (.obj .al0 c a6) v:=by
 have cx:=r;obtain⟨a,vs,rfl,aA,hf,bb,jw,Ae⟩:=r;rw[vz aA] at he;exact⟨a,vs,rfl,aA,hf,bb,λb ag=>⟨(jw b ag).1,he b ag⟩,λz=>by cases z⟩
def ae9{ss:List bQ}{vs:List V}(cK:f3 F H)(q:K0 K F H ss vs)(n:Nat):cZ K F ⟨H,0⟩ (λa=>H a=none) F H (mm n ss) (vs.map some++dT (n - vs.length) none):=by
 have aH:ss.length=vs.length:=Paired.length q;refine⟨by simp[mm,aH],λi s e=>?_,λi j s u v w qK aE aK d1=>?_,Ext.refl cK,λ_ h=>h,λ_ h=>h⟩
 ·obtain⟨v,ba,_,cn⟩:=Paired.get q (Pw e);exact⟨v,agc ba,cn⟩
 ·obtain⟨_,_,z,_⟩:=Paired.get q (Pw aE);rw[z] at d1;cases d1
theorem Kz{ε:Ev}{σ:bB.St}(r:cZ K aM E O F H ε σ):∀{as:List oP} {ss:List bQ} {vs:List V},qx as ε=some ss->rF K F H σ as ss vs->K0 K F H (ss.map Iy) vs
| [],ss,vs,e,h=>by
  cases e
  cases vs with
  |nil=>exact .nil
  |cons v vs=>exact h.elim
|.v f::as,ss,vs,e,h=>by
  simp only[qx,cW,hh] at e;obtain⟨t,cw,us,la,rfl⟩:=e;cases vs with
  |nil=>exact h.elim
  |cons v vs=>
   obtain⟨⟨t',bu,ee⟩,h⟩:=h;cases bu;exact .cons ⟨rfl,ee⟩ (Kz r la h)
|.o i::as,ss,vs,e,h=>by
  simp only[qx,cW,hh] at e;obtain⟨s,ar,us,la,rfl⟩:=e;cases vs with
  |nil=>exact h.elim
  |cons v vs=>
   obtain⟨ba,h⟩:=h;obtain⟨m,c,a6,rfl,aB⟩:=agn ar;obtain⟨lu,sj,rs⟩:=r.val i _ aB;rw[ba] at sj;cases sj;refine .cons ⟨rfl,akz rs _ _ λb ag=>?_⟩ (Kz r la h);obtain⟨o,e,_⟩:=rs.at ag;show H b≠none;rw[e];exact λz=>by cases z
end
theorem rF.len{K:a'}{F:aq->Prop}{H:aF}{σ:bB.St}:∀{as:List oP} {ss:List bQ} {vs:List V},rF K F H σ as ss vs->vs.length=as.length
| [],[],[],_=>rfl
|.v _::as,s::ss,v::vs,h=>by simp[rF.len h.2]
|.o i::as,s::ss,v::vs,h=>by simp[rF.len h.2]
| [],[],_::_,h=>h.elim
| [],_::_,_,h=>h.elim
|.v _::_,[],_,h=>h.elim
|.v _::_,_::_,[],h=>h.elim
|.o _::_,[],_,h=>h.elim
|.o _::_,_::_,[],h=>h.elim
end
section
variable [cB]
section
variable {X:aV}{k n c C i:Nat}{ns:List Str}{d:List bQ->Option (T×List bQ)}{x m:Str}{p pos apos:Pos}{o e:bk}{ar:List bk}{a6 gr:List a_}{fx:wa}
def JR{st:Stmt}:kY X st never:=λai s σ H D I ⟨aM,E,O,F,ε,o,r,e,k⟩=>by cases e
end
end
section
variable [cB]
section
variable {X:aV}{k n c C i j:Nat}{ns:List Str}{x m f:Str}{p pos apos:Pos}{o e:bk}{ar:List bk}{a6:List a_}{fo:ei}
def KL{bJ a b:bk}{dZ:ej}{g h:a_}(au:iY X bJ dZ)(aA:cq X a g)(ag:cq X b h):cq X (.IfExp bJ a b pos) (jW dZ g h):=ec (ahm au aA ag) λσ H Q ⟨aM,E,O,F,ε,t,r,e,k⟩=>by
 simp only[jW,cW] at e;obtain⟨v,ev,e⟩:=e;refine⟨aM,E,O,F,ε,v,r,ev,λa5 H1 aW=>?_⟩;cases v with
|true=>exact n' ⟨aM,E,O,a5,ε,t,r.ext aW,by simpa using e,λv aR ak bF q=>k v aR ak (aW.trans bF) q⟩
|false=>exact qS ⟨aM,E,O,a5,ε,t,r.ext aW,by simpa using e,λv aR ak bF q=>k v aR ak (aW.trans bF) q⟩
def lI(xs:List Str):List T:=xs.map .str
def xq{xs:List Str}{a:aq}(hm:X.mg x=some (.ref a))(a0:∃(o:Obj) (its:Array av) (n:Nat),X.K.lookup a=some o/\o.cls=.type "tuple"/\o.data=.seq its n/\its.size<=b'/\Vals (xs.map V.str) its.toList)(a7:et X x:=by rfl)(hd:(x==("__debug__":Str))=false:=by decide):cq X (.Name x pos) (aa (.tuple (lI xs))):=
 vT (v:=.ref a) (vy (v:=.ref a) a7 hm rfl hd) λF H=>by
  simp only[Rep];refine⟨a,xs.map V.str,rfl,.inr a0,?_⟩;unfold lI;clear hm a0 a7 hd
  induction xs with
  |nil=>exact bl.nil
  |cons y ys d0=>exact bl.cons (by simp[Rep]) d0
end
end
section
variable [cB]
open AutoSeq1 (wpAny_loadPart')
def i0(h:bP)(z TI dm:aq)(f0 f1:av):Prop:=h.get? z=some {cls:=.type "zip",dict:=none,data:=.fields #[f0,f1,.bool false,.ref TI,.ref dm],slots:=#[]}
section
variable {prog:c3}{w:cf}{A:dk}{E:av->aP->Prop}{s:aP}{z TI dm c5 c6 cV cN:aq}{k fj fK:Nat}{CW CX:Nat->av->Prop}{nM nN:Nat->bP->Prop}{a b f1:av}
def ag0{Q:av->aP->Prop}(D:ZipApart z TI dm c5 c6 cV cN)(qo:Draws prog w A c5 [c5,cV] fj CW nM)(rL:Draws prog w A c6 [c6,cN] fK CX nN)(aI:i0 s.heap z TI dm .none f1)(jS:IsPair s.heap TI (.ref c5) (.ref c6))(ky:IsPair s.heap dm a b)
  (s1:nM k s.heap) (s2:nN k s.heap) (ah:k<fj) (ao:k<fK)
  (mO:∀h' x y tk,CW k x->CX k y->i0 h' z TI dm (rawInt s.heap.objs.size) (.bool false)->IsPair h' dm x y->nM (k+1) h'->nN (k+1) h'->IsPair h' s.heap.objs.size x y->h'.objs.size=s.heap.objs.size+1 ->
   (∀c o,c≠z->c≠dm->c≠c5->c≠c6->s.heap.get? c=some o->h'.get? c=some o)->Q (.ref s.heap.objs.size) {s with heap:=h',toks:=tk}):
  bE (bN prog w) A (Builtin.«zip.__next__» ⟨[.ref z],[]⟩) (λfin s'=>∃v,fin=.done (.ret v)/\Q v s') E s:=by
 unfold i0 at aI;refine aZ (m:=field (.ref z) 2) (h1 aI rfl (x:=.bool false) rfl (aZ (m:=field (.ref z) 3) (h1 aI rfl (x:=.ref TI) rfl (aZ (q_ jS rfl ?_)))));refine aZ (m:=AS (.ref z)) ?_;unfold AS;refine aZ (h1 aI rfl (x:=.none) rfl (cc ?_));simp only[if_true];refine aZ (wpAny_rule (aZ (h1 aI rfl (x:=.ref dm) rfl (aZ (u7 aI (by simp) λhB qQ jN=>?_)))));replace qQ:i0 hB z TI dm .ellipsis f1:=qQ;refine aZ ?_;simp only[List.zipIdx_cons,List.zipIdx_nil,List.forIn_cons,List.forIn_nil];have AA:nM k hB:=qo.frame k _ _ s1 λc au o e=>by
  rcases bC.mp au with rfl|au
  ·exact jN.extBut _ _ D.i1z e
  ·rw[ka.mp au] at e ⊢;exact jN.extBut _ _ D.l1z e
 refine aZ (aZ (wpAny_onRaise (aZ (m:=pQ (.ref c5)) (qo.item k _ _ _ ah AA λx sk tk iK t1 jO=>cc ?_))))
 have wZ:IsPair sk dm a b:=jO.extBut _ _ D.TOi1 (jN.extBut _ _ D.TOz ky);refine aZ (q_ wZ rfl (aZ (wpAny_updateSeq_pair wZ λpC zO jP=>?_)));replace zO:IsPair pC dm x b:=zO;refine aZ (wpAny_letGo (cc ?_));have lr:nN k pC:=rL.frame k _ _ s2 λc au o e=>by
  rcases bC.mp au with rfl|au
  ·exact jP.extBut _ _ D.TOi2.symm (jO.extBut _ _ D.i12.symm (jN.extBut _ _ D.i2z e))
  ·rw[ka.mp au] at e ⊢;exact jP.extBut _ _ D.l2TO (jO.extBut _ _ D.l2i1 (jN.extBut _ _ D.l2z e))
 refine aZ (aZ (wpAny_onRaise (aZ (m:=pQ (.ref c6)) (rL.item k _ _ _ ao lr λy uG alR py fk pf=>cc ?_))))
 have MD:IsPair uG dm x b:=pf.extBut _ _ D.TOi2 zO;refine aZ (q_ MD rfl (aZ (wpAny_updateSeq_pair MD λgU zP n3=>?_)));replace zP:IsPair gU dm x y:=zP;refine aZ (wpAny_letGo (cc (cc (aZ (q_ zP rfl (aZ (wpAny_newTuple ?_)))))));have N1:gU.objs.size=s.heap.objs.size:=by rw[n3.1,pf.1,jP.1,jO.1,jN.1]
 have M6:i0 gU z TI dm .ellipsis f1:=n3.extBut _ _ D.TOz.symm (pf.extBut _ _ D.i2z.symm (jP.extBut _ _ D.TOz.symm (jO.extBut _ _ D.i1z.symm qQ)));have Zg:∀c o,c≠z->c≠dm->c≠c5->c≠c6->s.heap.get? c=some o->gU.get? c=some o:=λc o c9 dz k6 mF e=>n3.extBut _ _ dz (pf.extBut _ _ mF (jP.extBut _ _ dz (jO.extBut _ _ k6 (jN.extBut _ _ c9 e))));have Oe:nM (k+1) gU:=qo.frame _ _ _ t1 λc au o e=>by
  rcases bC.mp au with rfl|au
  ·exact n3.extBut _ _ D.TOi1.symm (pf.extBut _ _ D.i12 (jP.extBut _ _ D.TOi1.symm e))
  ·rw[ka.mp au] at e ⊢;exact n3.extBut _ _ D.l1TO (pf.extBut _ _ D.l1i2 (jP.extBut _ _ D.l1TO e))
 have AM:nN (k+1) gU:=rL.frame _ _ _ fk λc au o e=>by
  rcases bC.mp au with rfl|au
  ·exact n3.extBut _ _ D.TOi2.symm e
  ·rw[ka.mp au] at e ⊢;exact n3.extBut _ _ D.l2TO e
 have yT:z<gU.objs.size:=dj M6;refine aZ (m:=Builtin.SmallTypes.ownedTupleHandOut (.ref z) (.ref gU.objs.size)) ?_;unfold Builtin.SmallTypes.ownedTupleHandOut;have Yd:i0 (gU.push {cls:=.type "tuple",data:=.seq #[x,y]}) z TI dm .ellipsis f1:=dI _ M6;refine aZ (u7 Yd (by simp) λYf Gl EO=>?_);replace Gl:i0 Yf z TI dm (rawInt gU.objs.size) f1:=Gl;refine u7 Gl (by simp) λxd z6 EP=>?_;replace z6:i0 xd z TI dm (rawInt gU.objs.size) (.bool false):=z6;have up:∀c o,c≠z->gU.get? c=some o->xd.get? c=some o:=λc o c9 e=>EP.extBut _ _ c9 (EO.extBut _ _ c9 (dI _ e));have gs:IsPair xd gU.objs.size x y:=EP.extBut _ _ (sY yT) (EO.extBut _ _ (sY yT) (hJ _ rfl));have N2:xd.objs.size=gU.objs.size+1:=by rw[EP.1,EO.1,m']
 rw[N1] at z6 gs N2;refine cc ⟨_,rfl,?_⟩;show Q (.ref gU.objs.size) _;rw[N1];refine mO xd x y _ iK py z6 (up _ _ D.TOz zP) (qo.frame _ _ _ Oe λc au o e=>?_) (rL.frame _ _ _ AM λc au o e=>?_) gs N2 λc o c9 dz k6 mF e=>up c o c9 (Zg c o c9 dz k6 mF e)
 ·refine up c o ?_ e
  rcases bC.mp au with rfl|au
  ·exact D.i1z
  ·rw[ka.mp au];exact D.l1z
 ·refine up c o ?_ e
  rcases bC.mp au with rfl|au
  ·exact D.i2z
  ·rw[ka.mp au];exact D.l2z
def agZ{Q:Fin->aP->Prop}(D:ZipApart z TI dm c5 c6 cV cN)(qo:Draws prog w A c5 [c5,cV] fj CW nM)(rL:Draws prog w A c6 [c6,cN] fK CX nN)(aI:i0 s.heap z TI dm .none f1)(jS:IsPair s.heap TI (.ref c5) (.ref c6))(ky:IsPair s.heap dm a b)
  (s1:nM k s.heap) (s2:nN k s.heap) (a0:k=fj\/(k<fj/\k=fK))
  (hy:∀h' e tk,(∀c o,c≠z->c≠dm->c≠c5->c≠c6->s.heap.get? c=some o->h'.get? c=some o)->(∃o,h'.get? e=some o/\o.cls=.type "StopIteration")->E (.ref e) {s with heap:=h',toks:=tk}):
  bE (bN prog w) A (Builtin.«zip.__next__» ⟨[.ref z],[]⟩) Q E s:=by
 unfold i0 at aI;refine aZ (m:=field (.ref z) 2) (h1 aI rfl (x:=.bool false) rfl (aZ (m:=field (.ref z) 3) (h1 aI rfl (x:=.ref TI) rfl (aZ (q_ jS rfl ?_)))));refine aZ (m:=AS (.ref z)) ?_;unfold AS;refine aZ (h1 aI rfl (x:=.none) rfl (cc ?_));simp only[if_true];refine aZ (wpAny_rule (aZ (h1 aI rfl (x:=.ref dm) rfl (aZ (u7 aI (by simp) λhB qQ jN=>?_)))));replace qQ:i0 hB z TI dm .ellipsis f1:=qQ;refine aZ ?_;simp only[List.zipIdx_cons,List.zipIdx_nil,List.forIn_cons,List.forIn_nil];have AA:nM k hB:=qo.frame k _ _ s1 λc au o e=>by
  rcases bC.mp au with rfl|au
  ·exact jN.extBut _ _ D.i1z e
  ·rw[ka.mp au] at e ⊢;exact jN.extBut _ _ D.l1z e
 rcases a0 with rfl|⟨ah,rfl⟩
 ·refine aZ (aZ (wpAny_onRaise (aZ (m:=pQ (.ref c5)) (qo.done _ _ _ AA λsk e jO he=>?_))))
  obtain⟨m1,sd,w1⟩:=he;have Gj:i0 sk z TI dm .ellipsis f1:=jO _ _ D.i1z.symm qQ;have ne:e≠z:=λq=>by
   subst q;unfold i0 at Gj;rw[Gj] at sd;cases sd;simp at w1
  exact u7 Gj (by simp) λpC _ jP=>hy pC e _ (λc o c9 _ k6 _ q=>jP.extBut _ _ c9 (jO _ _ k6 (jN.extBut _ _ c9 q))) ⟨m1,jP.extBut _ _ ne sd,w1⟩
 ·refine aZ (aZ (wpAny_onRaise (aZ (m:=pQ (.ref c5)) (qo.item k _ _ _ ah AA λx sk tk iK t1 jO=>cc ?_))))
  have wZ:IsPair sk dm a b:=jO.extBut _ _ D.TOi1 (jN.extBut _ _ D.TOz ky);refine aZ (q_ wZ rfl (aZ (wpAny_updateSeq_pair wZ λpC zO jP=>?_)));refine aZ (wpAny_letGo (cc ?_));have lr:nN k pC:=rL.frame k _ _ s2 λc au o e=>by
   rcases bC.mp au with rfl|au
   ·exact jP.extBut _ _ D.TOi2.symm (jO.extBut _ _ D.i12.symm (jN.extBut _ _ D.i2z e))
   ·rw[ka.mp au] at e ⊢;exact jP.extBut _ _ D.l2TO (jO.extBut _ _ D.l2i1 (jN.extBut _ _ D.l2z e))
  refine aZ (aZ (wpAny_onRaise (aZ (m:=pQ (.ref c6)) (rL.done _ _ _ lr λuG e pf he=>?_))))
  obtain⟨m1,sd,w1⟩:=he;have Gk:i0 uG z TI dm .ellipsis f1:=pf _ _ D.i2z.symm (jP.extBut _ _ D.TOz.symm (jO.extBut _ _ D.i1z.symm qQ));have ne:e≠z:=λq=>by
   subst q;unfold i0 at Gk;rw[Gk] at sd;cases sd;simp at w1
  exact u7 Gk (by simp) λgU _ n3=>hy gU e _ (λc o c9 dz k6 mF q=>n3.extBut _ _ c9 (pf _ _ mF (jP.extBut _ _ dz (jO.extBut _ _ k6 (jN.extBut _ _ c9 q))))) ⟨m1,n3.extBut _ _ ne sd,w1⟩
end
end
section
variable [cB]
open AutoSeq1 (wpAny_loadPart')
def Yq(b:Bool):String:=if b then "list_iterator" else "tuple_iterator"
def jX(b:Bool)(h:bP)(it l:aq)(i:Nat):Prop:=match b with
|true=>h.IsListIter it l i
|false=>h.IsTupleIter it l i
def iL(b:Bool)(h:bP)(l:aq)(xs:Array av):Prop:=match b with
|true=>h.IsList l xs
|false=>h.IsTuple l xs
theorem jX.at{b:Bool}{h h':bP}{it l:aq}{i:Nat}(x:jX b h it l i)(k:∀o,h.get? it=some o->h'.get? it=some o):jX b h' it l i:=by
 cases b with
|true=>exact Heap.IsListIter.at x k
|false=>
  obtain⟨o,aT,r⟩:=x;exact⟨o,k o aT,r⟩
def jX.obj{b:Bool}{h:bP}{it l:aq}{i:Nat}(x:jX b h it l i):∃o,h.get? it=some o/\∀v,o.data≠.cell v:=by
 cases b with
|true=>
  obtain⟨o,aT,au,hd⟩:=x;exact⟨o,aT,λv z=>by rw[hd] at z;cases z⟩
|false=>
  obtain⟨o,aT,au,hd⟩:=x;exact⟨o,aT,λv z=>by rw[hd] at z;cases z⟩
def iL.at{b:Bool}{h h':bP}{l:aq}{xs:Array av}(x:iL b h l xs)(k:∀o,h.get? l=some o->h'.get? l=some o):iL b h' l xs:=by
 cases b with
|true=>
  obtain⟨o,aT,r⟩:=x;exact⟨o,k o aT,r⟩
|false=>
  obtain⟨o,aT,r⟩:=x;exact⟨o,k o aT,r⟩
def iL.lt{b:Bool}{h:bP}{l:aq}{xs:Array av}(x:iL b h l xs):l<h.objs.size:=by
 cases b with
|true=>
  obtain⟨o,aT,r⟩:=x;exact dj aT
|false=>
  obtain⟨o,aT,r⟩:=x;exact dj aT
def BW{prog:c3}{w:cf}{A:dk}(b:Bool)(c4:A.handled=none)(it l:aq)(gS:l≠it)(xs:Array av):
  Draws prog w A it [it,l] xs.size (λi v=>xs[i]?=some v) (λi h=>jX b h it l i/\iL b h l xs):=by
 cases b with
|true=>exact Draws.list c4 it l gS xs
|false=>exact OZ c4 it l gS xs
abbrev yZ(b:Bool)(l:aq):Obj:={cls:=.type (Yq b),data:=.fields #[.ref l,.int 0 0]}
abbrev afi(bD b7:Bool)(h:bP)(cV cN:aq):bP:=((h.push (yZ bD cV)).push (yZ b7 cN)).push {cls:=.type "tuple",data:=.seq #[.ref h.objs.size,.ref (h.objs.size+1)]}
abbrev PZ(bD b7:Bool)(h:bP)(cV cN:aq):bP:=(afi bD b7 h cV cN).push {cls:=.type "tuple",data:=.seq #[.none,.none]}
abbrev P0(bD b7:Bool)(h:bP)(cV cN:aq):bP:=(PZ bD b7 h cV cN).push {cls:=.type "zip",data:=.fields #[.none,.bool false,.bool false,.ref (h.objs.size+2),.ref (h.objs.size+3)]}
section
variable {prog:c3}{w:cf}{A:dk}{E:av->aP->Prop}{s:aP}
def Q4{b:Bool}{l:aq}{xs:Array av}{Q:av->aP->Prop}(aH:iL b s.heap l xs)(h:Q (.ref s.heap.objs.size) {s with heap:=s.heap.push (yZ b l)}):bE (bN prog w) A (pyIter (.ref l)) Q E s:=by
 cases b with
|true=>exact wpAny_pyIter_list aH h
|false=>exact xO aH h
def afW(bD b7:Bool)(cV cN:aq)(xs ys:Array av):
  Meets (Builtin.«zip.__new__» ⟨[.type "zip",.ref cV,.ref cN],[]⟩) (λ_ R s=>iL bD s.heap cV xs/\iL b7 s.heap cN ys /\
   R (.ok (.ret (.ref (s.heap.objs.size+4)))) {s with heap:=P0 bD b7 s.heap cV cN}):=
 .of_wp λprog w A R s h=>by
  obtain⟨aC,g,d,tk,os⟩:=s;obtain⟨ah,ao,h⟩:=h;have X0:=sub_zip;have f':iL bD (Shared.heap ⟨aC,g,d,tk,os⟩) cV xs:=ah;have gb:iL b7 (Shared.heap ⟨aC.push (yZ bD cV),g,d,tk,os⟩) cN ys:=ao.at λo e=>dI _ e
  wp_walk using Q4 f',Q4 gb
  refine⟨_,rfl,?_⟩
  simp only[m'] at h ⊢;exact h
def agO{bD b7:Bool}{cV cN:aq}{xs ys:Array av}{Q:av->aP->Prop}(ah:iL bD s.heap cV xs)(ao:iL b7 s.heap cN ys)
  (h:∀h',i0 h' (s.heap.objs.size+4) (s.heap.objs.size+2) (s.heap.objs.size+3) .none (.bool false)->IsPair h' (s.heap.objs.size+2) (.ref s.heap.objs.size) (.ref (s.heap.objs.size+1))->IsPair h' (s.heap.objs.size+3) .none .none ->
   jX bD h' s.heap.objs.size cV 0->jX b7 h' (s.heap.objs.size+1) cN 0->h'.objs.size=s.heap.objs.size+5->(∀c o,s.heap.get? c=some o->h'.get? c=some o)->Q (.ref (s.heap.objs.size+4)) {s with heap:=h'}):
  bE (bN prog w) A (call (.type "zip") [.ref cV,.ref cN]) Q E s:=by
 have hi:∀(b:Bool) (h':bP) (it l:aq),h'.get? it=some (yZ b l)->jX b h' it l 0:=λb h' it l e=>by
  cases b with
  |true=>exact⟨_,e,rfl,rfl⟩
  |false=>exact⟨_,e,rfl,rfl⟩
 refine callType_new F.called_zip (by decide) (F.typeCall_zip_2 _ _) (F.newCall_zip_2 _ _) (λobj=>F.args_object_init_3 obj _ _) F.entry_zip_new (afW bD b7 cV cN xs ys) ⟨ah,ao,?_⟩
 have at_:∀(c4:bP) (n:Nat) (o o':Obj),c4.objs.size=n->o.isFreed=false->(c4.push o).get? n=some o:=λc4 n o o' e f=>by
  rw[<- e];exact hJ _ f
 have kv:(P0 bD b7 s.heap cV cN).get? (s.heap.objs.size+4)=some _:=at_ (PZ bD b7 s.heap cV cN) (s.heap.objs.size+4) _ default (by simp only[m']) rfl;refine⟨⟨_,kv,rfl⟩,h _ kv ?_ ?_ ?_ ?_ (by simp only[m']) λc o e=>dI _ (dI _ (dI _ (dI _ (dI _ e))))⟩
 ·exact dI _ (dI _ (at_ _ _ _ default (by simp only[m']) rfl))
 ·exact dI _ (at_ _ _ _ default (by simp only[m']) rfl)
 ·exact hi bD _ _ _ (dI _ (dI _ (dI _ (dI _ (hJ _ rfl)))))
 ·exact hi b7 _ _ _ (dI _ (dI _ (dI _ (at_ _ _ _ default (by simp only[m']) rfl))))
end
end
section
variable [cB]
def ae0{n cV cN:Nat}(ah:cV<n)(ao:cN<n):ZipApart (n+4) (n+2) (n+3) n (n+1) cV cN:=by constructor <;> (show (_:Nat)≠_) <;> omega
end
section
variable [cB]
open AutoSeq1 (wpAny_loadPart')
noncomputable def xo:T->T->Option T
|.tuple xs,.int k=>if 2<=k/\k<1000/\xs≠[]/\xs.length*k.toNat<=big then some (.tuple (dT k.toNat xs).flatten) else none
|.list xs,.int k=>if 0<=k/\k<1000/\xs.length*k.toNat<=big then some (.list (dT k.toNat xs).flatten) else none
|_,_=>none
def adV:fillsNumberSlot (.type "tuple") "mul"=pure false:=
 PySem.fillsNumberSlot_seq (id:="tuple.__mul__") (r:=some (.builtin "tuple.__rmul__")) F.slot_tuple_mul.lookup (by decide +kernel) F.slot_tuple_rmul.lookup (by decide +kernel)
def aej:seqRepeat? (.type "tuple")=pure (some (.builtin "tuple.__mul__")):=by
 unfold seqRepeat?;rw[PySem.seqSlot_of (T:="tuple") (name:="__mul__") (id:="tuple.__mul__") F.slot_tuple_mul.lookup (by decide +kernel),PySem.seqSlot_of (T:="tuple") (name:="__rmul__") (id:="tuple.__rmul__") F.slot_tuple_rmul.lookup (by decide +kernel)];rfl
def ae8(a:Int)(t:Tok)(l:aq)(its:Array av)(n:Nat)(dd:Option aq)(b_:Array (Option av)):Meets (Builtin.«int.__rmul__» ⟨[.int a t,.ref l],[]⟩) (λ_ R s=>s.heap.get? l=some {cls:=.type "tuple",dict:=dd,data:=.seq its n,slots:=b_}/\R (.ok (.ret Value.notImplemented)) s):=
 .of_wp λprog w A R s h=>by
  obtain⟨aC,g,d,tk,os⟩:=s;obtain⟨aH,h⟩:=h
  wp_walk
  exact⟨_,rfl,h⟩
def afV(l:aq)(its:Array av)(n:Nat)(dd:Option aq)(b_:Array (Option av))(k:Int)(t:Tok)(ah:2<=k)(ao:k<1000)(gS:its.isEmpty=false)(aI:its.size*k.toNat<=b'):
  Meets (Builtin.«tuple.__mul__» ⟨[.ref l,.int k t],[]⟩) (λ_ R s=>s.heap.get? l=some {cls:=.type "tuple",dict:=dd,data:=.seq its n,slots:=b_} /\
   R (.ok (.ret (.ref s.heap.objs.size))) {s with heap:=s.heap.push {cls:=.type "tuple",data:=.seq ((dT k.toNat its).foldl (·++·) #[])} }):=
 .of_wp λprog w A R s h=>by
  obtain⟨aC,g,d,tk,os⟩:=s;obtain⟨aH,h⟩:=h;have c9:¬(decide (k < -(2 ^ 63)) || decide (k >= 2 ^ 63))=true:=by simp;omega
  have dz:¬(its.isEmpty || k==1)=true:=by simp[gS];omega
  have k6:¬(decide (k<=0) || its.isEmpty)=true:=by simp[gS];omega
  wp_walk using wpAny_loadPart' aH
  have M4:(its.size:Int)*k=((its.size*k.toNat:Nat):Int):=by
   have:(k.toNat:Int)=k:=Int.toNat_of_nonneg (by omega);rw[<- this]
   push_cast
   simp
  have mF:¬((its.size:Int)*k > (2 ^ 63 - 1) / 8):=by
   rw[M4];rw[sizeLine_eq] at aI;omega
  have wD:¬Builtin.Tuple.tupleTooMany ((its.size:Int)*k)=true:=by
   unfold Builtin.Tuple.tupleTooMany;rw[M4,decide_eq_true_iff];omega
  rw[if_neg c9]
  wp_walk using wpAny_loadPart' aH
  rw[if_neg dz,if_neg k6,if_neg mF,if_neg wD];unfold pS;refine aZ (nf (cc ⟨_,rfl,h⟩) ?_);have e:=foldl_rep its.toList k.toNat [];rw[List.nil_append] at e;show (List.foldl _ #[] (dT k.toNat its)).size<=b';have bu:List.foldl (λaW bF=>aW++bF) #[] (dT k.toNat its)=(dT k.toNat its.toList).flatten.toArray:=by simpa using e
  rw[bu,eE,len_rep,q9,Nat.mul_comm];exact aI
section
variable {X:aV}{a b:bk}{f g:a_}{pos:Pos}
def aiz:d_ X (kc .Mult) (λx y H Q=>∃a k xs,x=.ref a/\y=.int k/\c8 X.K H a xs/\xs≠[]/\2<=k/\k<1000/\xs.length*k.toNat<=b'/\∀p,H p=none->Q (.ref p) (upd H p (.tup (dT k.toNat xs).flatten))):=by
 intro ai s σ H x y v u Q I aS bt h;obtain⟨l,k,xs,rfl,rfl,fH,gS,ah,ao,aI,q⟩:=h;cases aS;obtain⟨t,rfl⟩:=bt;obtain⟨its,r,c1,_⟩:=I.tuple fH;have aH:=r.length;obtain⟨⟨cls,dd,data,b_⟩,aT,au,n,hd⟩:=id c1;simp only at au hd;subst au hd;have Xp:its.toArray.isEmpty=false:=by
  cases its with
  |nil=>
   cases xs with
   |nil=>exact absurd rfl gS
   |cons x xs=>simp at aH
  |cons=>rfl
 refine wpAny_binaryOp_repeat_ref (T:="tuple") (U:="int") (by decide) ⟨_,aT,rfl⟩ (λs'=>typeIs_int s' k t) adV F.fills_int_mul F.slot_int_rmul aej F.slot_int_index.lookup
  (nh F.slot_int_rmul (typeIs_int s k t) F.entry_int_rmul (F.args_int_rmul_2 _ _) (ae8 k t l its.toArray n dd b_)
   ⟨aT,rfl,⟨_,aT,rfl⟩,nh F.slot_tuple_mul ⟨_,aT,rfl⟩ F.entry_tuple_mul (F.args_tuple_mul_2 _ _) (afV l its.toArray n dd b_ k t ah ao Xp (by rw[eE,<- aH];exact aI)) ⟨aT,?_⟩⟩)
 have e:List.foldl (λaW bF=>aW++bF) #[] (dT k.toNat its.toArray)=(dT k.toNat its).flatten.toArray:=by simpa using foldl_rep its k.toNat []
 have Gh:(dT k.toNat xs).flatten.length<=b':=by rw[len_rep,Nat.mul_comm];exact aI
 refine⟨.ref s.heap.objs.size,upd H s.heap.objs.size (.tup (dT k.toNat xs).flatten),I.laid (t':=s.toks) (λb u e=>dI _ e) (eo _) ⟨Gh,_,r.rep k.toNat,⟨_,hJ _ rfl,rfl,0,?_⟩⟩,rfl,q _ I.fresh⟩
 exact congrArg (λz=>Data.seq z 0) e
def aiA:d_ X (kc .Mult) (λx y H Q=>∃l k xs,x=.ref l/\y=.int k/\f5 H l (.lst xs)/\0<=k/\k<1000/\xs.length*k.toNat<=b'/\∀p,H p=none->Q (.ref p) (upd H p (.lst (dT k.toNat xs).flatten))):=by
 intro ai s σ H x y v u Q I aS bt h;obtain⟨l,k,xs,rfl,rfl,fH,ah,ao,aI,q⟩:=h;cases aS;obtain⟨t,rfl⟩:=bt;obtain⟨z,its,n,r,aH,e⟩:=Inv.uN I fH;have hlen:its.toArray.size*k.toNat<=b':=by rw[eE,<- aH];exact aI
 have FV:¬its.toArray.size*k.toNat > (2 ^ 63 - 1) / 8:=by
  have:(b':Nat)<=(2 ^ 63 - 1) / 8:=by decide
  omega
 have Xr:¬(!Builtin.List.listFitsIndex k)=true:=by rw[fitsIndex_both (by omega) (by omega)];exact kb
 have XB:¬Builtin.List.listTooLong (its.toArray.size*k.toNat)=true:=by rw[ahw hlen];exact kb
 have f0:∀m:Nat,List.foldl (λaW bF=>aW++bF) #[] (dT m its.toArray)=(dT m its).flatten.toArray:=λm=>by simpa using foldl_rep its m []
 have XH:List.foldl (λaW bF=>aW++bF) #[] (dT (if its.toArray.isEmpty=true then 0 else k.toNat) its.toArray)=(dT k.toNat its).flatten.toArray:=by
  rw[f0];cases its with
  |nil=>simp
  |cons a cx=>rw[if_neg (by simp)]
 refine wpAny_binaryOp_repeat_ref (T:="list") (U:="int") (by decide) ⟨_,e,rfl⟩ (λs'=>typeIs_int s' k t) noFill_list_mul F.fills_int_mul F.slot_int_rmul repeat_list F.slot_int_index.lookup
  (nh F.slot_int_rmul (typeIs_int s k t) F.entry_int_rmul (F.args_int_rmul_2 _ _) (int___rmul___int_list k t l its.toArray n) ⟨e,rfl,⟨_,e,rfl⟩,nh F.slot_list_mul ⟨_,e,rfl⟩ F.entry_list_mul (F.args_list_mul_2 _ _) (AutoListH.list___mul___list_int_3 l its.toArray n k t Xr FV XB) ⟨e,?_⟩⟩)
 rw[XH];exact⟨.ref _,_,I.su (t':=s.toks) (r.rep k.toNat) (by rw[len_rep,Nat.mul_comm];exact aI),rfl,q _ I.fresh⟩
theorem bl.rep{K:a'}{F:aq->Prop}{H:aF}{ts:List T}{vs:List V}(h:bl K F H ts vs):∀k:Nat,bl K F H (dT k ts).flatten (dT k vs).flatten
|0=>bl.nil
|k+1=>by
  rw[q7,q7,s7,s7];exact h.append (bl.rep h k)
def akD(aA:dP X a f)(ag:dP X b g):cq X (.BinOp a .Mult b pos) (af xo f g):=ec (rC (aiz.or aiA) aA ag) (nv (by
 intro O F H x y t fX fy Q d aS bt e k;unfold xo at e;split at e
 next xs n=>
  split at e
  next aI=>
   cases e
   obtain⟨rU,vs,rfl,aB,ax⟩:=aS.tup;rw[bt.int];refine .inl ⟨rU,_,vs,rfl,rfl,aB,λz=>?_,aI.1,aI.2.1,by rw[ki,<- ax.length];exact aI.2.2.2,λp aC=>?_⟩
   ·subst z;exact aI.2.2.1 (List.eq_nil_of_length_eq_zero (by rw[ax.length];rfl))
   ·have aW:=Ext.laid (o:=.tup (dT n.toNat vs).flatten) d aC;refine k _ F _ aW ?_;simp only[Rep];exact⟨p,_,rfl,c8.of ep,(ax.rep _).ext aW⟩
  next=>cases e
 next xs n=>
  split at e
  next aI=>
   cases e
   obtain⟨rU,vs,rfl,aB,ax⟩:=aS.lst;rw[bt.int];refine .inr ⟨rU,_,vs,rfl,rfl,aB,aI.1,aI.2.1,by rw[ki,<- ax.length];exact aI.2.2,λp aC=>?_⟩;have aW:=Ext.uI (o:=.lst (dT n.toNat vs).flatten) d aC;refine k _ _ _ aW ?_;simp only[Rep];exact⟨p,_,rfl,.inr rfl,.inl ep,(ax.rep _).ext aW⟩
  next=>cases e
 ·cases e))
end
end
section
variable [cB]
section
variable {X:aV}{a b c:bk}{f g h:a_}{pos:Pos}
def agN:∀σ H Q,sS X.K (chain oLe oLe f g h) σ H Q->Kj (λx y H Q=>kI (λi j=>.bw (decide (i<=j))) x y H Q\/∃i j,x=.str i/\y=.str j/\Q (.bw (!strLt j i)) H) (λx y H Q=>kI (λi j=>.bw (decide (i<=j))) x y H Q\/∃i j,x=.str i/\y=.str j/\Q (.bw (!strLt j i)) H) (q3 X.K f) (q3 X.K g) (q3 X.K h) σ H Q:=
 λσ H Q ⟨aM,aO,O,F,ε,t,r,e,k⟩=>by
 simp only[chain,cW] at e;obtain⟨x,ex,y,fV,z,pe,e⟩:=e;refine⟨aM,aO,O,F,ε,x,r,ex,λfX a5 H1 aW aS=>⟨aM,aO,O,a5,ε,y,r.ext aW,fV,λfy dh bo bF bt=>?_⟩⟩;refine B9 (X:=X) O dh bo x y z fX fy _ bF.cK (aS.ext bF) bt pe λv h3 dO e' dR=>?_;split at e
 ·simp only[Rep] at dR;subst dR;simp only[cW] at e;obtain⟨w,n2,cL⟩:=e;refine⟨true,rfl,n' ⟨aM,aO,O,h3,ε,w,((r.ext aW).ext bF).ext e',n2,λma hP hQ hI sM=>?_⟩⟩;exact B9 (X:=X) O hP hQ y w t fy ma _ hI.cK ((bt.ext e').ext hI) sM cL λv kW jh u0 om=>k v kW jh ((((aW.trans bF).trans e').trans hI).trans u0) om
 ·simp only[Rep] at dR;subst dR;cases e;exact⟨false,rfl,qS (k _ h3 dO ((aW.trans bF).trans e') (by simp[Rep]))⟩
 ·cases e
def ajq(aA:dP X a f)(ag:dP X b g)(au:dP X c h)(hm:lastMarks [.LtE,.LtE] [b,c]=false:=by with_unfolding_all rfl):iY X (.Compare a [.LtE,.LtE] [b,c] pos) (a3 (chain oLe oLe f g h)):=
 vQ (ahc (Cj.or BI) (Cj.or BI) aA ag au hm) (akr agN)
end
end
section
abbrev t0:cB:=⟨[],λ_=>[],λ_=>none⟩
def c7(ns:List Int):T:=.list (ns.map .int)
def Nz(K:a'):Bool:=K.all λp=>match p.2.cls with
|.type t=>t != "list"
|_=>true
theorem OV{α β:Type}[BEq α][LawfulBEq α]{a:α}{b:β}:∀{l:List (α×β)},l.lookup a=some b->(a,b)∈l
  | [],h=>by cases h
  | (x,y)::l,h=>by
    rw[nc] at h;split at h
    next q=>
      cases h
      have:a=x:=by simpa using q
      subst this;simp
    next=>exact ew _ (OV h)
end
section
variable [cB]
section
variable {X:aV}{ar:List bk}{k:Nat}{p pos dJ:Pos}{a b:bk}{f g:a_}
def yS(ts us:List T):List T:=List.zipWith (λx y=>.tuple [x,y]) ts us
end
end
section
variable [cB]
open PySem.W (kas_ask kas_sort kat_run kat_snds kat_lt kat_kind KatTups KatLex KatGo kas_item KasT)
def gs(x:Str×List T):T:=.tuple (.str x.1::x.2)
end
section
section
variable {prog:c3}{w:cf}{A:dk}{E:av->aP->Prop}{s:aP}{Ll:Array Keyed}
def Rz(Ll:Array Keyed)(st j8:SortSt):Prop:=arrOf j8=arrOf st/\failedOf j8=none/\pendingOf j8=#[(0,Ll.size,0)]
end
variable [cB]
end
section
def af7{pos:Pos}{c cv:av}{a b:Int}(l:List av)(h:TriplesOk l)(e:codeAmong pos (l++[rawInt a,rawInt b,c])=some cv):codeAmong pos l=some cv\/cv=c:=by
 fun_induction TriplesOk l with
|case1=>
  simp only[List.nil_append,codeAmong,rawInt] at e;split at e
  ·exact .inr (iN e).symm
  ·cases e
|case2 i1 t f6 u x rest d0=>
  simp only[xN,codeAmong] at e ⊢;split at e
  next au=>rw[if_pos au];exact .inl e
  next au=>rw[if_neg au];exact d0 h e
|case3 _ _ _=>exact h.elim
noncomputable def oQ(mg:Str->Option av)(h:bP):Prop:=∃bm dH,mg "__builtins__"=some (.ref bm)/\bm≠builtinsNs/\h.get? bm=some dH/\dH.cls=.type "module"/\dH.dict=some builtinsNs/\dH.data=.plain
def oc(o:Obj)(q:aq):ey:=.ext λh=>h.get? q=some o
def wF(c:aq)(q:Str):ey:=.ext λh=>h.CodeRec (.ref c) q
variable [cB]
def ahF{X:aV}{ai:List (aq×Obj)}{σ:bB.St}{H:aF}{s:aP}{params:Arguments}{body:bk}{scope:Scope}{lZ:Pos}{c P:aq}{gn:List (Str×aq)}{Q:av->aP->Prop}(I:Inv X ai σ H s)
  (zR:X.env.code=.ref c) (C:PySem.W.CodeHd X.base c P) (kB:oQ X.mg X.base) (FW:defaultsOf params X.env=([],[])) (qJ:closureFor scope X.env=pure gn)
  (d:lR H) (cO:(P,X.env.qual++"<lambda>")∈cB.cO) (un:∀p∈cB.cO,p.1=P->p.2=X.env.qual++"<lambda>")
  (h:∀(q cC:aq) (i3:av) (ak:aF) (s':aP),Inv X ai σ ak s'->iV H ak->lR ak->H q=none->ak q=some (oc (PySem.W.kla_obj "<lambda>" (X.env.qual++"<lambda>") params body scope gn ((X.mg "__name__").getD .none) cC i3) q) ->
   ak cC=some (wF cC (X.env.qual++"<lambda>"))->Q (.ref q) s'):
  bE (bN X.prog X.w) X.A (eval (.Lambda params body scope lZ) X.env) Q X.dg s:=by
 obtain⟨ps,fH,aN,a7⟩:=d _ cO;have eS:s.heap.get? P=some (PySem.W.tabObj ps):=I.bW P _ fH;have ns:s.heap.Ns i_ X.mg:=I.ok.mod.glob.keeps I.f7;obtain⟨bm,dH,bD,b7,ek,k4,o6,mE⟩:=kB;have wB:=I.f7 _ _ ek;have Xt:i_≠P:=λz=>by
  obtain⟨o,ar,cL,e,hd,_⟩:=ns;rw[z,eS] at e;cases e;cases hd
 have Xc:bm≠P:=λz=>by
  rw[z,eS] at wB;cases wB;cases k4
 have Xb:bm≠i_:=λz=>by
  obtain⟨o,ar,cL,e,hd,_⟩:=ns;rw[z,e] at wB;cases wB;rw[hd] at mE;cases mE
 have ag:s.heap.BuiltinsAt X.mg P:=⟨bm,dH,bD,b7,Xb,Xc,wB,k4,o6,mE⟩;have nG:=C.keeps I.f7;refine PySem.W.kla_eval FW ?_;cases hf:codeAmong lZ ps.toList with
|some cv=>
  obtain⟨cC,rfl,cj⟩:=a7 lZ cv hf;refine PySem.W.kla_makeFunctionHit qJ I.ok.glob ns zR nG eS aN hf ag λi3 h' tk k kD=>?_;have fr:H h'.objs.size=none:=I.bW.fresh kD;refine h h'.objs.size cC i3 (upd H h'.objs.size (oc _ h'.objs.size)) _ (I.laid (t':=tk) (λb u e=>dI _ (k b u e)) kD ⟨hJ _ rfl,⟨_,hJ _ rfl⟩,λah ao aE aK=>aK _ aE⟩)
   (λb o e=>.inl (by rw[cp (gB e fr)];exact e)) (d.new fr) fr ep (by rw[cp (gB cj fr)];exact cj)
|none=>
  refine PySem.W.kla_makeFunction qJ I.ok.glob ns zR nG eS aN hf Xt ag λcC i3 h' tk hx zT hA MW mS=>?_
  have MA:H h'.objs.size=none:=I.bW.fresh (nd zT (Nat.le_of_lt hA));have WL:H cC=none:=I.bW.fresh zT;have UN:cC≠h'.objs.size:=eg hA;have sx:∀b o,H b=some o->b≠cC:=λb o e=>gB e WL;have Nx:∀b o,H b=some o->b≠h'.objs.size:=λb o e=>gB e MA;have Tg:=sx P _ fH;have Th:=Nx P _ fH
  let ak:aF:=upd (upd (upd H P (.hH (ps++#[rawInt lZ.line,rawInt lZ.col,.ref cC]))) cC (wF cC (X.env.qual++"<lambda>"))) h'.objs.size (oc (PySem.W.kla_obj "<lambda>" (X.env.qual++"<lambda>") params body scope gn ((X.mg "__name__").getD .none) cC i3) h'.objs.size)
  have Mv:ak h'.objs.size=some (oc (PySem.W.kla_obj "<lambda>" (X.env.qual++"<lambda>") params body scope gn ((X.mg "__name__").getD .none) cC i3) h'.objs.size):=ep;have EK:ak cC=some (wF cC (X.env.qual++"<lambda>")):=by show upd _ _ _ _=_;rw[cp UN,ep]
  have zH:ak P=some (.hH (ps++#[rawInt lZ.line,rawInt lZ.col,.ref cC])):=by show upd _ _ _ _=_;rw[cp Th,cp Tg,ep]
  have EI:∀b,b≠P->b≠cC->b≠h'.objs.size->ak b=H b:=λb fj fK oe=>by show upd _ _ _ _=_;rw[cp oe,cp fK,cp fj]
  have pd:∀b o,H b=some o->b≠P->ak b=some o:=λb o e n=>by rw[EI b n (sx b o e) (Nx b o e)];exact e
  have aQ:∀b o,b≠P->s.heap.get? b=some o->(h'.push (PySem.W.kla_obj "<lambda>" (X.env.qual++"<lambda>") params body scope gn ((X.mg "__name__").getD .none) cC i3)).get? b=some o:=λb o n e=>dI _ (hx b o n e);have H':∀b,H b=none->b≠P:=λb e z=>by rw[z,fH] at e;cases e
  have Ay:iV H ak:=λb o e=>by
   by_cases z:b=P
   ·subst z;rw[fH] at e;cases e;exact .inr ⟨_,_,rfl,zH⟩
   ·exact .inl (pd b o e z)
  refine h h'.objs.size cC i3 ak _ (I.un (t':=tk) ⟨λb o e n _ _=>aQ b o (H' b n) e,λb o e n _ _=>⟨o.slots,aQ b o (H' b n) e⟩,λb o e n _=>?_,λb o e _=>?_,λb xs e=>pd b _ e λz=>by (rw[z,fH] at e;cases e),λb o u e=>pd b _ e λz=>by (rw[z,fH] at e;cases e),λb NI e=>?_⟩ λa o e=>?_) Ay (λp aC=>?_) MA Mv EK
  ·have lt:=dj e;rw[EI b (H' b n) (eg (il lt zT)) (eg (Nat.lt_trans (il lt zT) hA))];exact n
  ·by_cases z:b=P
   ·subst z;exact⟨_,dI _ mS⟩
   ·exact⟨o,aQ b o z e⟩
  ·by_cases z:b=P
   ·subst z;rw[fH] at e;cases e;exact⟨_,zH⟩
   ·exact⟨#[],by rw[pd b _ e z];simp⟩
  ·by_cases g6:a=h'.objs.size
   ·subst g6;rw[Mv] at e;cases e;exact⟨hJ _ rfl,⟨_,hJ _ rfl⟩,λah ao aE aK=>aK _ aE⟩
   by_cases fb:a=cC
   ·subst fb;rw[EK] at e;cases e;refine⟨MW.at λo e=>dI _ e,?_,λah ao aE aK=>aE.at aK⟩;obtain⟨dz,o,vs,t,aK,aT,_⟩:=MW;cases aK;exact⟨o,dI _ aT⟩
   by_cases oC:a=P
   ·subst oC;rw[zH] at e;cases e;exact dI _ mS
   ·rw[EI a oC fb g6] at e;refine (I.bW a o e).kJ (λb u ag q=>aQ b u ?_ q) (λb q=>pd b _ q λz=>by (rw[z,fH] at q;cases q)) λb xs q=>pd b _ q λz=>by (rw[z,fH] at q;cases q)
    rcases ag with rfl|ag
    ·exact oC
    ·exact λz=>by rw[z,fH] at ag;cases ag
  ·by_cases z:p.1=P
   ·have aK:=un p aC z;obtain⟨j0,dJ⟩:=p;simp only at z aK;subst z aK;refine⟨_,zH,by rw[Array.toList_append];exact TriplesOk_snoc _ _ _ _ aN,λpos cv e=>?_⟩;rw[Array.toList_append] at e;rcases af7 _ aN e with e|e
    ·obtain⟨dz,aE,aK⟩:=a7 pos cv e;exact⟨dz,aE,pd _ _ aK λz=>by (rw[z,fH] at aK;cases aK)⟩
    ·exact⟨cC,e,EK⟩
   ·obtain⟨NI,a4,bO,dR⟩:=d p aC;refine⟨NI,pd _ _ a4 z,bO,λpos cv e=>?_⟩;obtain⟨dz,aE,aK⟩:=dR pos cv e;exact⟨dz,aE,pd _ _ aK λz=>by (rw[z,fH] at aK;cases aK)⟩
end
section
variable [cB]
noncomputable def mL(qual:Str)(scope:Scope)(L q:aq)(cd:av)(cl:List (Str×aq)):Env:=
 {scope:=scope,locals:=L,globals:=i_,cells:=cl,qual:=qual++".<locals>.",func:=some q,code:=cd,frame:=some L,builtins:=builtinsNs}
noncomputable def r1(P:c3)(w:cf)(K:a')(mg:Str->Option av)(base:bP)(N:List Str)(qual:Str)(scope:Scope)(q:aq)(cd:av)(cl:List (Str×aq))(A:dk)(outer:List Env)(s:aP)(H:aF):aV where
 prog:=P
 w:=w
 K:=K
 mg:=mg
 base:=base
 A:=A.deeper (mL qual scope s.heap.objs.size q cd cl)
 N:=N
 c':=s
 aO:=H
 env:=mL qual scope s.heap.objs.size q cd cl
 outer:=outer
 stack:=mL qual scope s.heap.objs.size q cd cl::outer
 ex:=[]
 calm:=true
 fn:=λ_=>false
 dn:=[]
 dg:=λ_ _=>False
structure ami(N:List Str)(scope:Scope)(cl:List (Str×aq))(σ:bB.St)(H:aF)(h:bP):Prop where
 inj:∀x y c,cl.lookup x=some c->cl.lookup y=some c->x=y
 has:∀x,(scope.names.lookup x=some .cell\/scope.names.lookup x=some .free)->∃c,cl.lookup x=some c
 zx:∀x c,cl.lookup x=some c->(∃v,h.IsCell c v)/\H c=none
 len:σ.length=N.length
 val:∀(i:Nat) (x:Str) (v:V),N[i]?=some x->σ[i]?=some (some v)->nP scope x->∃u c,RelV v u/\scope.names.lookup x=some .free/\cl.lookup x=some c/\h.IsCell c (some u)
def OW{h h':bP}{c:aq}{v:Option av}(x:h.IsCell c v)(k:∀b o,h.get? b=some o->h'.get? b=some o):h'.IsCell c v:=by
 obtain⟨o,aT,hd⟩:=x;exact⟨o,k _ _ aT,hd⟩
section
variable {P:c3}{w:cf}{K:a'}{mg:Str->Option av}{base:bP}{k:Nat}{q cC:aq}{N:List Str}{qual:Str}{scope:Scope}{cd:av}{cl:List (Str×aq)}{A:dk}{outer:List Env}{s:aP}{H:aF}{σ:bB.St}
def Pe{ah:bP}{tk:Nat}{m:Str->Option av}(a0:scope.kind=.function)(hd:A.handled=none)(bp:qp P w K mg base A outer s H)(C:ami N scope cl σ H s.heap)(n9:ah.Ns s.heap.objs.size m)(aQ:∀b o,s.heap.get? b=some o->ah.get? b=some o):
  Inv (r1 P w K mg base N qual scope q cd cl A outer s H) [] σ H {s with heap:=ah,toks:=tk}:=by
 have pI:∀b:aq,b∉(r1 P w K mg base N qual scope q cd cl A outer s H).ex:=λb z=>absurd (show b∈([]:List aq) from z) (by simp);refine⟨⟨bp.mod,a0,rfl,rfl,eo _,C.inj,C.has,λy c hf _=>(by cases hf),λ_=>hd,Around.frames_deeper bp.frames,.inr ⟨rfl,rfl⟩,λb z=>absurd z (pI b),bp.bs,bp.nS,λb _ _=>pI b,λb z=>absurd z (pI b),bp.ku,bp.pg⟩,
  rfl,bp.bare,fF.kept aQ,⟨m,n9,λi y v ah ao aY=>?_⟩,λy c h=>?_,bp.bW.fresh (eo _),λy c h=>(C.zx y c h).2,λp aC=>absurd (show p∈([]:List (aq×Obj)) from aC) (by simp),bp.bW.kept aQ,C.len⟩
 ·obtain⟨u,c,e3,hf,au,hx⟩:=C.val i y v ah ao aY;exact⟨u,e3,.inr ⟨.inr hf,c,au,OW hx aQ⟩⟩
 ·obtain⟨⟨v,ba⟩,_⟩:=C.zx y c h;exact⟨v,OW ba aQ⟩
end
end
section
variable [cB]
def Qi{P:c3}{w:cf}{K:a'}{mg:Str->Option av}{base:bP}{k:Nat}{x qual:Str}{st:Stmt}{f:aq}{fd:fa}{N ps:List Str}{A:dk}{outer:List Env}{s:aP}{H:aF}{us:List av}{vs:List V}{Q:di}{E:gE}
  (F:cE K x qual st f fd) (S:cY N ps (bS st)) (bd:Binds K fd ps []) (ax:eN (k+1) A) (bp:qp P w K mg base A outer s H) (r:Vals vs us) (aH:vs.length=ps.length)
  (al2:∀bY:av,eN k (A.deeper (envOfC qual (bS st) s.heap.objs.size f bY))->∃t,fh (gQ e5 P w K mg base N qual (bS st) f bY A outer s H E).eU (hk st) t/\t {bg:=λ_ ak=>Q .eA ak,ee:=Q} (start N vs) H):
  jb (bN P w) A (.call (.ref f) ⟨us,[]⟩) (oR e5 outer P w H s Q E) s:=by
 obtain⟨gY,hb,gv,doc,pm,an,bY,bJ,kH,rfl,lk,eT⟩:=F.ex;have X8:us.length=ps.length:=by rw[<- r.length];exact aH
 have jJ:K.In s.heap:=bp.mod.sl.keeps λb o e=>(bp.bs b o e).1;have lim:s.heap.NoLimit:=bp.mod.nolimit.keeps λb o e=>(bp.bs b o e).1;have ag:=bd s us jJ (by rw[ov];exact X8);rw[ov] at ag;have F3:∀y∈ps.zip us,(bS st).names.lookup y.1=some .local\/((bS st).names.lookup y.1=some .cell/\((cellsFrom (s.heap.objs.size+1) (bS st).names []).lookup y.1).isSome=true):=λ⟨n,v⟩ b1=>by
  rcases S.par n (List.of_mem_zip b1).1 with q|q
  ·exact .inl q
  ·exact .inr ⟨q,PySem.W.cellsFrom_some _ _ _ (.inl q)⟩
 refine codeAny_call_function ax.depth (jJ _ _ lk) rfl S.co S.gen rfl (PySem.W.codeRec_of jJ eT) (ag _ _ _ _ ?_)
 refine wpAny_newFunctionEnv_cells S.kind F3 λenv he s1 x=>?_
 subst he;refine⟨lim.keeps x.toInCall.keep,codeAny_func ?_⟩;obtain⟨t,aN,aD⟩:=al2 bY (ax.deeper _);have I:Inv (gQ e5 P w K mg base N qual (bS st) f bY A outer s H E) [] (start N vs) H s1:=PF S ax.hd bp aH r x;refine fA (aN.eU [] s1 (start N vs) H _ I aD) (λdF s' aB=>?_) λe s' aB=>aB;have fin:∀{bR:bB.St} {ak:aF} {v:V} {u:av},Inv (gQ e5 P w K mg base N qual (bS st) f bY A outer s H E) [] bR ak s'->RelV v u->Q v ak->y4 outer P w H s Q u s':=
  λ{bR ak v u} J cn q=>⟨v,ak,J.os,J.bare,J.base,J.bW,cn,q⟩
 cases dF with
|ret u=>
  obtain⟨v,bR,ak,J,cn,q⟩:=aB;exact fin J cn q
|next=>
  obtain⟨bR,ak,J,q⟩:=aB;exact fin (v:=V.eA) (u:=Value.none) J rfl q
|brk=>
  obtain⟨_,_,_,q⟩:=aB;exact eX q
|cont=>
  obtain⟨_,_,_,q⟩:=aB;exact eX q
noncomputable def Ro(X:aV)(i:Nat):TE:=λσ H Q=>∃q,σ[i]?=some (some (.ref q))/\(∃(o:Obj) (fd:fa),H q=some (oc o q)/\o.data=.func fd) /\
 ∀(ai:List (aq×Obj)) (s:aP),Inv X ai σ H s->jb (bN X.prog X.w) X.A (.call (.ref q) ⟨[],[]⟩) (oR e5 X.stack X.prog X.w H s Q mx) s
def ait{X:aV}{i:Nat}{x:Str}{p pos:Pos}(bf:b3 X (.Name x p) (m7 i)):b3 X (.Call (.Name x p) [] [] pos) (Ro X i):=by
 intro ai s σ H Q I ⟨q,aD,⟨o,fd,aT,FX⟩,au⟩;refine s8 (cA (bf ai s σ H (λv H1=>v=.ref q/\H1=H) I ⟨.ref q,aD,rfl,rfl⟩) λv s1 ⟨y,H1,a9,bt,fV,e1⟩=>?_);subst fV;subst e1;cases bt;have cU:PySem.W.FnAt q s1.heap:=by
  have ah:s1.heap.get? q=some o:=(a9.bW q _ aT).1;obtain⟨c,wH,EE,b_⟩:=o;cases FX;exact⟨_,_,_,_,ah⟩
 refine PySem.W.callWith_F0 cU ?_
 refine wpAny_call (s9 (au ai s1 a9) λr s' aD=>?_)
 cases r with
|error e=>exact eX aD
|ok dF=>
  cases dF with
  |ret u=>exact a9.after aD
  |next=>exact eX aD
  |brk=>exact eX aD
  |cont=>exact eX aD
end
section
variable [cB]
def ajH{X:aV}{body:List Stmt}{h₀:ExceptHandler}{aB:List ExceptHandler}{pos:Pos}{t:fE}(ag:fh X body t)(hx:X.dg=λ_ _=>False:=by rfl):iD X (.Try body (h₀::aB) [] [] pos) t:=by
 intro ai s σ H D I h;refine wpAny_Try_except (fA (ag ai s σ H D I h) (λf s1 aB=>?_) λe s1 he=>?_)
 ·cases f with
  |next=>exact wpAny_execs_nil aB
  |ret u=>exact aB
  |brk=>exact aB
  |cont=>exact aB
 ·rw[hx] at he;exact he.elim
def agy{a6 ex:List aq}{H ak:aF}{h h':bP}{c:aq}{v:Option av}(u:fF a6 ex H ak h h')(x:h.IsCell c v)(au:H c=none)(he:c∉ex):h'.IsCell c v:=by
 obtain⟨o,aT,hd⟩:=x;by_cases hf:c∈a6
 ·obtain⟨b_,e⟩:=u.slot c o aT au hf he;exact⟨_,e,hd⟩
 ·exact⟨o,u.keep c o aT au hf he,hd⟩
def ai'{X:aV}{ai:List (aq×Obj)}{σ:bB.St}{H:aF}{s:aP}{scope:Scope}(I:Inv X ai σ H s)(mR:∀x∈scope.names,x.2≠.cell/\x.2≠.local)(lW:∀x∈scope.names,x.2=.free->X.env.scope.names.lookup x.1=some .cell):
  ami X.N scope (gn X.env scope.names []) σ H s.heap:=by
 have aH:∀x∈scope.names,x.2=.free->∃c,X.env.cells.lookup x.1=some c:=λx hx hf=>I.ok.has x.1 (.inl (lW x hx hf));have fr:∀x c,(gn X.env scope.names []).lookup x=some c->X.env.cells.lookup x=some c:=yk aH λx c e=>by cases e
 refine⟨λx y c ah ao=>I.ok.inj x y c (fr x c ah) (fr y c ao),λx h=>?_,λx c h=>⟨I.cell x c (fr x c h),I.jk x c (fr x c h)⟩,I.len,λi x v ah ao aY=>?_⟩
 ·rcases h with h|h
  ·obtain⟨y,b1,aE,aK⟩:=mem_lookup h;exact absurd aE (mR y b1).1
  ·obtain⟨y,b1,aE,aK⟩:=mem_lookup h;exact vq (.inl ⟨y,b1,aE,aK⟩)
 ·have hf:scope.names.lookup x=some .free:=by
   rcases aY with h|h|h
   ·obtain⟨y,b1,aE,_⟩:=mem_lookup h;exact absurd aE (mR y b1).2
   ·obtain⟨y,b1,aE,_⟩:=mem_lookup h;exact absurd aE (mR y b1).1
   ·exact h
  obtain⟨y,b1,aE,aK⟩:=mem_lookup hf;have a0:X.env.scope.names.lookup x=some .cell:=by rw[<- aK];exact lW y b1 aE
  obtain⟨m,_,ba⟩:=I.loc;obtain⟨u,e3,lk⟩:=ba i x v ah ao (.inr (.inl a0));obtain⟨c,au⟩:=vq (env:=X.env) (l:=scope.names) (cs:=[]) (x:=x) (.inl ⟨y,b1,aE,aK⟩);refine⟨u,c,e3,hf,au,?_⟩;rcases lk with ⟨Xz,_⟩|⟨_,dz,mQ,hx⟩
  ·have:X.env.scope.names.lookup x=some .local:=Xz;rw[a0] at this;cases this
  ·rw[fr x c au] at mQ;cases mQ;exact hx
def Rm(Y:aV):fE:=AH (sQ (uV (hG (hF (.str "told")) (hG (Ro Y 0) l_))) (rE 1)) (N_ (m7 1))
end
section
def Cw(ts:List aq)(H:aF):Prop:=(∀b,H b=none\/(∃o xs,H b=some (.jQ o (.lst xs)))\/(b∈ts/\H b=some (.hH #[])))/\∀b∈ts,H b=some (.hH #[])
def ags{P:c3}{w:cf}{K:a'}{mg kF:Str->Option av}{eL:kT}{k:Nat}{cU a:aq}{fd:fa}{x:Str}{sp:mC}{dx:aP}{vs:List av}{ns:List Int}{ts:List aq}
  (jJ:K.In dx.heap) (qO:∀b∈ts,dx.heap.get? b=some (PySem.W.tabObj #[])) (wY:∀b∈ts,K.lookup b=none) (eT:∀b∈ts,∃c,u_ K c b=true)
  (n9:dx.heap.Ns i_ mg) (ag:dx.heap.Ns builtinsNs kF) (Xe:∀x:Str,x≠"__name__"->kF x=bootBuiltins x) (XA:dx.heap.NoLimit) (a7:dx.gens=#[])
  (aA:dx.heap.get? a=some {cls:=.type "list",data:=.seq vs.toArray}) (hi:IntsAre vs ns) (aH:ns.length<=b') (ax:eN k callerA)
  (kB:oQ mg dx.heap) (F:∀base:bP,K.In base->base.Ns i_ mg->oQ mg base->gD P w K mg base eL k cU fd [x] sp) (Xf:∀(s:aP) (u:av),BindsTo s fd ⟨[u],[]⟩ [(x,u)])
  (qN:∀H:aF,Cw ts H->eO K H a (ns.map V.int)->sp [.ref a] H (λv _=>v=.bw true) λ_ _ _=>False)
  (FG:∀H e s',eL [] H dx (λ_ _ _=>False) e s'->False):
  jb (bN P w) callerA (.call (.ref cU) ⟨[.ref a],[]⟩) (λr s'=>r=.ok (.ret (.bool true))/\OldK dx.heap s'.heap/\s'.os=dx.os/\AllBare s'.gens) dx:=by
 have cn:=Pp hi;have Zj:=hi.length;have nat:a∉ts:=λz=>by
  have:=qO a z;rw[aA] at this;cases this
 have core:∀H:aF,Cw ts H->eO K H a (ns.map V.int)->eZ P w H dx.heap->(∀b,H b≠none->b=a\/b∈ts)->(H a≠none->K.lookup a=none) ->
   jb (bN P w) callerA (.call (.ref cU) ⟨[.ref a],[]⟩) (λr s'=>r=.ok (.ret (.bool true))/\OldK dx.heap s'.heap/\s'.os=dx.os/\AllBare s'.gens) dx:=by
  intro H kx lV bW ph fu;have DN:∀{b:aq} {o:Obj},dx.heap.get? b=some o->H b=none->(n8 dx.heap H).get? b=some o:=λe n=>ahQ e n;have pI:∀{b:aq} {o:Obj} {ar:Array DictEntry} {cL:Nat},dx.heap.get? b=some o->o.data=.dict ar cL->H b=none:=λ{b o ar cL} e d=>by
   cases q:H b with
   |none=>rfl
   |some u=>
    rcases ph b (by rw[q];simp) with bu|bu
    ·subst bu;rw[aA] at e;cases e;have d':Data.seq vs.toArray _=Data.dict ar cL:=d;cases d'
    ·rw[qO b bu] at e;cases e;have d':Data.fields _=Data.dict ar cL:=d;cases d'
  have Ai:∀{b:aq} {m:Str->Option av},dx.heap.Ns b m->(n8 dx.heap H).Ns b m:=λ{b m} ⟨o,ar,cL,e,d,r⟩=>⟨o,ar,cL,DN e (pI e d),d,r⟩;have MC:K.In (n8 dx.heap H):=λb o e=>DN (jJ b o e) (by
   cases q:H b with
   |none=>rfl
   |some u=>
    rcases ph b (by rw[q];simp) with bu|bu
    ·subst bu;rw[fu (by rw[q];simp)] at e;cases e
    ·rw[wY b bu] at e;cases e)
  have Xg:oQ mg (n8 dx.heap H):=by
   obtain⟨bm,dH,bD,b7,ek,k4,o6,mE⟩:=kB;refine⟨bm,dH,bD,b7,DN ek ?_,k4,o6,mE⟩;cases q:H bm with
   |none=>rfl
   |some u=>
    rcases ph bm (by rw[q];simp) with bu|bu
    ·subst bu;rw[aA] at ek;cases ek;cases mE
    ·rw[qO bm bu] at ek;cases ek;cases mE
  have W6:Mod K mg (n8 dx.heap H):=⟨MC,Ai n9,⟨kF,Ai ag,Xe⟩,let ⟨Zv,ah,ao⟩:=XA;⟨Zv,Ai ah,ao⟩⟩;have bp:qp P w K mg (n8 dx.heap H) callerA [] dx H:=⟨rfl,W6,λb o e=>aiF e,Nat.le_of_eq (agC _ _),trivial,λb ag=>absurd (show b∈([]:List aq) from ag) (by simp),bW,.of_eq a7⟩;refine s9 ((F _ MC (Ai n9) Xg).run callerA [] dx H ⟨[.ref a],[]⟩ [.ref a] [.ref a] _ _ ax bp (Xf dx (.ref a)) (.cons rfl .nil) (qN H kx lV)) λr s' h=>?_;cases r with
  |error e=>exact (FG H e s' h).elim
  |ok dF=>
   cases dF with
   |next=>exact eX h
   |brk=>exact eX h
   |cont=>exact eX h
   |ret u=>
    obtain⟨v,ak,os,bare,un,MT,cx,q⟩:=h;have d5:v=.bw true:=q;subst d5;obtain rfl:u=Value.bool true:=cx;refine⟨rfl,⟨λb o e=>?_,λb o e=>un.there b o e (by simp)⟩,os,bare⟩;cases q:H b with
    |none=>exact .inl (un.keep b o e q (by intro z;exact absurd (show b∈([]:List aq) from z) (by simp)) (by simp))
    |some u=>
     rcases kx.1 b with z|⟨dH,xs,z⟩|⟨MG,z⟩
     ·rw[q] at z;cases z
     ·have fb:=un.jl b dH _ z;obtain⟨aE,_⟩:=bW b _ z;obtain⟨aK,_⟩:=MT b _ fb;rw[e] at aE;cases aE;exact .inl aK
     ·obtain⟨more,fb⟩:=un.jy b _ z;have aK:s'.heap.get? b=some (PySem.W.tabObj (#[]++more)):=MT b _ fb;have aE:=qO b MG;rw[e] at aE;cases aE;obtain⟨c,au⟩:=eT b MG;exact .inr (.inl ⟨((PySem.W.codeHd_of_K jJ au).tab e).isCodeTable,rfl,#[],more,rfl,aK⟩)
 cases a0:K.lookup a with
|some o=>
  have e:=jJ a o a0;rw[aA] at e;cases e;refine core (λb=>if b∈ts then some (.hH #[]) else none) ⟨λb=>?_,λb ag=>if_pos ag⟩ (.inr ⟨_,vs.toArray,_,a0,rfl,rfl,rfl,by rw[eE,Zj];exact aH,by simpa using cn⟩) (λb u z=>?_) (λb z=>?_) λz=>?_
  ·by_cases ag:b∈ts
   ·exact .inr (.inr ⟨ag,if_pos ag⟩)
   ·exact .inl (if_neg ag)
  ·by_cases ag:b∈ts
   ·have gA:=(if_pos ag).symm.trans z;cases gA;exact qO b ag
   ·have gA:=(if_neg ag).symm.trans z;cases gA
  ·by_cases ag:b∈ts
   ·exact .inr ag
   ·exact absurd (if_neg ag) z
  ·exact absurd (if_neg nat) z
|none=>
  refine core (λb=>if b=a then some (.jQ {cls:=.type "list",data:=.seq vs.toArray} (.lst (ns.map V.int))) else if b∈ts then some (.hH #[]) else none) ⟨λb=>?_,λb ag=>?_⟩ (.inl (.inr ⟨{cls:=.type "list",data:=.seq vs.toArray},if_pos rfl⟩)) (λb u z=>?_) (λb z=>?_) λ_=>a0
  ·by_cases ag:b=a
   ·exact .inr (.inl ⟨_,_,if_pos ag⟩)
   ·by_cases kA:b∈ts
    ·exact .inr (.inr ⟨kA,(if_neg ag).trans (if_pos kA)⟩)
    ·exact .inl ((if_neg ag).trans (if_neg kA))
  ·have ne:b≠a:=λz=>nat (z▸ag);exact (if_neg ne).trans (if_pos ag)
  ·by_cases ag:b=a
   ·have gA:=(if_pos ag).symm.trans z;cases gA;subst ag;exact⟨aA,by rw[dy];exact aH,vs,_,cn,aA⟩
   ·by_cases kA:b∈ts
    ·have gA:=((if_neg ag).trans (if_pos kA)).symm.trans z;cases gA;exact qO b kA
    ·have gA:=((if_neg ag).trans (if_neg kA)).symm.trans z;cases gA
  ·by_cases ag:b=a
   ·exact .inl ag
   ·by_cases kA:b∈ts
    ·exact .inr kA
    ·exact absurd ((if_neg ag).trans (if_neg kA)) z
def ag2{l:PySem.W.OpenLaw}{n k:Nat}{q:c3}{loose:List Str}{ua:(Str->Option av)->bP->Prop}{nQ:cf->bP->Prop}{d:DefRec}{K:Params->a'}{eL:cf->kT}{sp:cf->mC}{x:Str}{ts:List aq}
  (bf:l.most=some n) (zX:n<=b') (w2:d.params.defaults=[]) (ax:eN k callerA)
  (uw:∀(w:cf) (h:bP),nQ w h->(K w.params).In h) (gs:∀(w:cf) (h:bP),nQ w h->∀b∈ts,h.get? b=some (PySem.W.tabObj #[]))
  (wY:∀(w:cf),∀b∈ts,(K w.params).lookup b=none) (eT:∀(w:cf),∀b∈ts,∃c,u_ (K w.params) c b=true)
  (F:∀(w:cf) (mg:Str->Option av) (cU:aq) (h:bP),(K w.params).In h->h.Ns i_ mg->mg d.name=some (.ref cU) ->
   ∃fd:fa,(∀(s:aP) (u:av),BindsTo s fd ⟨[u],[]⟩ [(x,u)]) /\
    ∀base:bP,(K w.params).In base->base.Ns i_ mg->oQ mg base->gD l.prog w (K w.params) mg base (eL w) k cU fd [x] (sp w))
  (qN:∀(w:cf) (H:aF) (a:aq) (ns:List Int),ns.length<=n->Cw ts H->eO (K w.params) H a (ns.map V.int)->sp w [.ref a] H (λv _=>v=.bw true) λ_ _ _=>False)
  (FG:∀(w:cf) (H:aF) (s:aP) (e:av) (s':aP),eL w [] H s (λ_ _ _=>False) e s'->False):
  PySem.W.WalkO q loose ua nQ l.row.toRowW d [] (λf vs=>PySem.call f vs):=by
 refine K2.Uw bf w2 λw c' dx mg kF cU o pm cd doc a vs ns G Y aT hd als w_ F_ hints hlen a7=>?_
 have jJ:=uw w _ Y;obtain⟨fd,ag,W3⟩:=F w mg cU _ jJ G.T.g w_;exact ags jJ (gs w _ Y) (wY w) (eT w) G.T.g G.T.b G.T.builtins G.T.nolimit a7 F_ hints (nd hlen zX) ax G.T.bmain W3 ag (λH kx lV=>qN w H a ns hlen kx lV) λH e s'=>FG w H dx e s'
def agd{t:cB}{K:a'}{H:aF}{a:aq}{ns:List Int}{d:List T->Option T}{ts:List aq}(qO:∀p∈t.cO,p.1∈ts)(kx:Cw ts H)(ff:Nz K=true)(hd:d [c7 ns]=some (.bool true))(lV:eO K H a (ns.map V.int)):spT K 1 d [.ref a] H (λv _=>v=.bw true) λ_ _ _=>False:=by
 rcases lV with lV|⟨o,its,n,a0,au,_⟩
 ·refine⟨rfl,λb=>b=a,[c7 ns],.bool true,⟨?_,λp aC=>⟨#[],kx.2 p.1 (qO p aC),trivial,λpos cv e=>by cases e⟩⟩,bl.cons ?_ bl.nil,hd,λv aR ak x r=>by simpa [Rep] using r⟩
  ·rintro b rfl;rcases lV with q|⟨u,q⟩
   ·exact⟨_,q⟩
   ·exact⟨_,q⟩
  ·simp only[c7,Rep];exact⟨a,_,rfl,rfl,lV,Pz ns⟩
 ·have:=List.all_eq_true.mp ff _ (OV a0);simp[au] at this
end
section
variable [cB]
abbrev ale:=Ev->Option (Bool×Ev)
end
section
variable [cB]
def aiV{P:c3}{w:cf}{K:a'}{mg:Str->Option av}{base:bP}{x qual:Str}{st:Stmt}{f:aq}{gY:av}{hb an:Option aq}{kH:Array (Option av)}{gv doc pm bY bJ:av}{N ps:List Str}{k:Nat}{b:bx}
  (l:K.lookup f=some ⟨gY,hb,.func (lx x qual (ny st) (hk st) (bS st) .none gv doc pm an bY bJ),kH⟩) (eT:sX K bY qual=true) (S:cY N ps (bS st))
  (ag:∀(A:dk) (outer:List Env) (s:aP) (H:aF) (E:gE),eN k (A.deeper (envOfC qual (bS st) s.heap.objs.size f bY)) ->
   kX (gQ e5 P w K mg base N qual (bS st) f bY A outer s H E).eU (hk st) b):
  gD P w K mg base e5 (k+1) f (lx x qual (ny st) (hk st) (bS st) .none gv doc pm an bY bJ) ps (spT K ps.length (bV b N.length)):=by
 refine KV l eT S (λvs H Q E h=>h.1) λA outer s H vs Q E ax h=>⟨_,(ag A outer s H E ax).eU,?_⟩
 obtain⟨aH,F,ts,t,cK,q,e,mV⟩:=h;simp only[bV,cW] at e;obtain⟨o,k_,e⟩:=e;refine⟨F,⟨H,0⟩,λa=>H a=none,F,_,o,?_,k_,?_⟩
 ·have:=Pb (N:=N) cK q (N.length - ts.length);unfold bB.start;rw[q.length] at this ⊢;exact this
 ·cases o with
  |ee t'=>
   cases e
   exact λv aR ak x q=>mV v aR ak x q
  |bg ε'=>
   cases e
   exact λbR aR ak _ r=>mV _ aR ak r.ent (by simp[Rep])
  |f7 _=>cases e
  |bJ _=>cases e
  |j6 _ _=>cases e
  |m4 _=>cases e
end
section
abbrev m6(cO:List (aq×Str)):cB:=⟨cO,λ_=>[],λ_=>none⟩
def aiX{t:cB}{cO:List (aq×Str)}(aN:t.cO=cO){P:c3}{w:cf}{K:a'}{mg:Str->Option av}{base:bP}{k n:Nat}{f:aq}{fd:fa}{ps:List Str}{d:List T->Option T}(F:gD P w K mg base e5 k f fd ps (@spT t K n d)):gD P w K mg base e5 k f fd ps (@spT (m6 cO) K n d):=by
 subst aN;have wG:∀{F:aq->Prop} {H:aF},@f3 (m6 t.cO) F H->@f3 t F H:=λ{F H} h=>@f3.mk t F H (@f3.zA (m6 t.cO) F H h) (@f3.m8 (m6 t.cO) F H h);have Mo:∀{F:aq->Prop} {H:aF},@f3 t F H->@f3 (m6 t.cO) F H:=λ{F H} h=>@f3.mk (m6 t.cO) F H (@f3.zA t F H h) (@f3.m8 t F H h);refine F.imp λvs H Q E h=>?_;obtain⟨aH,F,ts,r,cK,q,e,mV⟩:=h;exact⟨aH,F,ts,r,wG cK,q,e,λv aR ak x cn=>mV v aR ak (@Ext.mk (m6 t.cO) F H aR ak (@Ext.same t F H aR ak x) (@Ext.sub t F H aR ak x) (@Ext.new t F H aR ak x) (Mo (@Ext.cK t F H aR ak x))) cn⟩
end
end D
end
section
namespace D
open PySem PySem.Spec PySem.Calls PySem.W PyProof.Rows PySem.Builtin PySem.Builtin.ObjectAttr PySem.Builtin.Getset_descriptor
def ExcAt(x C:aq)(h:bP):Prop:=∃o vs,h.get? x=some o/\o.cls=.ref C/\o.data=.fields vs
structure qq(K:Frag)(C:aq):Prop where
 cl:(clsIn K C).isSome=true
 ga:findIn K (.ref C) "__getattribute__"=some (some (.builtin "BaseException.__getattribute__"))
 WQ:findIn K (.ref C) "__getattr__"=some none
 at_:findIn K (.ref C) "__class__"=some (some (.builtin "object.__class__"))
 sp:specialIn K (.builtin "object.__class__") "__get__"=some (some (.builtin "getset_descriptor.__get__"))
 tk:takesIn K (.builtin "object.__class__")=some true
 mo:mroIn K C (.type "object")=some true
 kF:mroIn K C (.type "BaseException")=some true
section
variable {prog:c3}{w:cf}{A:dk}{E:av->aP->Prop}{s:aP}{K:Frag}{x C:aq}{R:Result->aP->Prop}
def ExcAt.type{M:Model}{h:bP}(I:ExcAt x C h):Looks M h (typeOf (.ref x)) (.ref C):=by
 obtain⟨o,vs,ah,ao,aY⟩:=I;exact ao▸(Looks.ld ah).andThen .now
def aiY{ID:av}(X:K.In s.heap)(I:ExcAt x C s.heap)(hm:mroIn K C (.type "object")=some true)
  (h:R (.ok (.ret (.ref C))) s):jb (bN prog w) A (.call (.builtin "getset_descriptor.__get__") ⟨[.builtin "object.__class__",.ref x,ID],[]⟩) R s:=by
 obtain⟨c4,g,zB,t,os⟩:=s;have qr:=I.type (M:=bN prog w);have jK:=looks_mroIn (M:=bN prog w) X hm;refine codeAny_call_builtin KF.slot_gs.plain KF.entry_gs (KF.slot_gs.check _ _ _ _ _ _ _ _ KF.type_class (KF.args_gs _ _ _) ?_);unfold Builtin.«getset_descriptor.__get__» descrGet;rw[dga_obj];refine aZ (cc ?_);unfold descrGetter descrCheckInstance descrNameAndClass isInstance;simp only[KF.owner_class];obtain⟨o,vs,ah,ao,aY⟩:=I
 repeat lk
 refine⟨Code.quiet_builtin _ (by decide +kernel),codeAny_builtin KF.entry_class ?_⟩
 unfold Builtin.«object.__class__» shownTypeOf
 repeat lk
 exact h
def ahU{M:Model}{h:bP}(X:K.In h)(O:qq K C):Looks M h (find (.ref x) (.ref C) "__class__") (.bind (.builtin "getset_descriptor.__get__") (.builtin "object.__class__")):=by
 have jK:=looks_findIn (M:=M) X O.at_;have bB:Looks M h (getOf (some (.builtin "object.__class__"))) (some (.builtin "getset_descriptor.__get__")):=looks_specialIn X O.sp;have CT:=looks_takesIn (M:=M) X O.tk;refine jK.andThen (bB.andThen ?_);exact (show Looks M h (dataDescriptor? (some (.builtin "object.__class__")) (some (.builtin "getset_descriptor.__get__"))) (some (.builtin "getset_descriptor.__get__",.builtin "object.__class__")) from CT.andThen .now).andThen (Looks.tag .now)
def agD{tk:Tok}{Q:Fin->aP->Prop}(X:K.In s.heap)(I:ExcAt x C s.heap)(O:qq K C)(aD:Q (.done (.ret (.ref C))) s):
  bE (bN prog w) A (Builtin.«object.__getattribute__» ⟨[.ref x,.str "__class__" tk],[]⟩) Q E s:=by
 obtain⟨c4,g,zB,t,os⟩:=s;have qr:=I.type (M:=bN prog w);have jK:=ahU (x:=x) (M:=bN prog w) X O;unfold Builtin.«object.__getattribute__»;refine aZ (cc (a:=(Value.ref x,[Value.str "__class__" tk])) (aZ (cc (a:=("__class__":Str)) ?_)));refine aZ (qr.at (aZ (jK.at ?_)));show bE _ _ (holding [Value.builtin "object.__class__"] (call (Value.builtin "getset_descriptor.__get__") [Value.builtin "object.__class__",Value.ref x,Value.ref C]) >>= ret) _ _ _;exact aZ (u6 (wpAny_call (aiY X I O.mo (cc aD))))
def agF{M:Model}{tk:Tok}{Q:Unit->aP->Prop}(X:K.In s.heap)(I:ExcAt x C s.heap)(O:qq K C)(aD:Q () s):
  bE M A (checkBuiltinCall "BaseException.__getattribute__" ⟨[.ref x,.str "__class__" tk],[]⟩) Q E s:=by
 obtain⟨c4,g,zB,t,os⟩:=s;have qr:=I.type (M:=M);have jK:=looks_mroIn (M:=M) X O.kF;have CU:Looks M c4 (isInstance (.ref x) (.type "BaseException")) true:=qr.andThen jK;have XZ:splitId "BaseException.__getattribute__"=some ("BaseException","__getattribute__"):=by decide +kernel
 have a0:builtinKind "BaseException.__getattribute__"=some .slot:=by decide +kernel
 have aA:=PySem.F.args_bexc_ga (.ref x) (.str "__class__" tk);simp only[checkBuiltinCall,a0,XZ];refine aZ (CU.at ?_);simp only[Bool.not_true,q8,if_false];cases XY:Manifest.signature? "BaseException.__getattribute__" with
|none=>exact cc aD
|some sig=>
  simp only[argsOk,XY] at aA;have ao:Bind.checkArgs "BaseException.__getattribute__" sig ⟨[.ref x,.str "__class__" tk],[]⟩=pure ():=aA;show bE M A (Bind.checkArgs "BaseException.__getattribute__" sig ⟨[.ref x,.str "__class__" tk],[]⟩) Q E _;rw[ao];exact cc aD
def agE{Q:Option av->aP->Prop}(X:K.In s.heap)(I:ExcAt x C s.heap)(O:qq K C)(aD:Q (some (.ref C)) {s with toks:=s.toks+1}):
  bE (bN prog w) A (getAttr? (.ref x) "__class__") Q E s:=by
 obtain⟨c4,g,zB,t,os⟩:=s;have qr:=I.type (M:=bN prog w);have jK:=looks_findIn (M:=bN prog w) X O.ga;have bB:=looks_findIn (M:=bN prog w) X O.WQ;unfold getAttr? getAttrBy? getAttrBy;refine aZ (wpAny_mkText (aZ (wpAny_attempt (u6 (aZ (qr.at (aZ (jK.at ?_))))))));show bE _ _ (getAttrByItsOwn _ _ _ _ _ _) _ _ _;unfold getAttrByItsOwn;refine aZ (bB.at ?_);refine aZ (wpAny_attempt (u6 ?_));show bE _ _ (boundAndCalled _ _ _) _ _ _;unfold boundAndCalled;rw[PySem.F.excAttr_ValueError.ga.bind];refine aZ (cc ?_);refine wpAny_call (codeAny_call_builtin PySem.F.excAttr_ValueError.ga.plain PySem.F.entry_bexc_ga (agF X I O (agD X I O ?_)));exact cc (cc aD)
def ahG(O:qq K C):KitX K (.ref x) (.ref C) (ExcAt x C) where
 ty:=λ_ _ _ I=>I.type
 it:=λ_ _ X _=>by
  have al8:=O.cl;unfold clsIn at al8;split at al8
  ·rename_i cC d' Lv Aw aT
   intro RQ wh oS s' k q;unfold isType loadHead;exact aZ (wpAny_loadPart (k _ _ (X _ _ aT)) (cc q))
  ·cases al8
 ne:=λh ID dd its n b_ X X3=>by
  have al8:=O.cl;refine Bool.eq_false_iff.mpr λq=>?_;have e:C=ID:=Value.ref.inj (beq_iff_eq.mp q);subst e;unfold clsIn at al8;split at al8
  ·rename_i cC d' Lv Aw aT
   have z:=(X _ _ aT).symm.trans X3;cases z
  ·cases al8
 ca:=λX I k=>agE X I O k
end
end D
end
section
namespace D
open PySem PySem.Spec PyProof.Rows bB
section
structure CJ(P:c3)(w:cf)(outer:List Env)(H:aF)(s:aP)(C:aq)(ak:aF)(ea:aq)(nR:av)(B:bP)(s':aP):Prop where
 os:s'.os=s.os
 bare:AllBare s'.gens
 ur:Heap.FlyingW B outer ea (.ref C) nR s'.heap
 bW:eZ P w ak B
 un:fF (eG outer) [] H ak s.heap s'.heap
 al1:∀b o,s.heap.get? b=some o->H b=none->b∉eG outer->B.get? b=some o
 sT:∀b o,s.heap.get? b=some o->b∉eG outer->∃o',B.get? b=some o'
def Cx(P:c3)(w:cf)(outer:List Env)(H:aF)(s:aP)(C:aq)(ak:aF)(e:av)(s':aP):Prop:=∃ea nR B,e=.ref ea/\CJ P w outer H s C ak ea nR B s'
def kS(P:c3)(w:cf):kT:=λouter H s E e s'=>∃C ak,Cx P w outer H s C ak e s'/\E (.ref C) none ak
noncomputable def Rd(X:aV)(H:aF)(s:aP)(C:aq)(ak:aF)(e:av)(s':aP):Prop:=
 (ak=H/\∃ea args ao,e=.ref ea/\s'={s with heap:=ao}/\Heap.MadeExcOf s.heap ao ea (.ref C) args)\/Cx X.prog X.w X.stack H s C ak e s'
def wk(X:aV)(C:aq)(ak:aF):Prop:=∀(ai:List (aq×Obj)) (σ:bB.St) (H:aF) (s:aP) (e:av) (s':aP),Inv X ai σ H s->Rd X H s C ak e s'->X.dg e s'
def Pg{h h' base:bP}{l:List Env}{b:aq}{o:Obj}(F:h.FunFrames base l)(ag:b∈eG l)(e:h.get? b=some o)(k:h.UpToSlots h'):∃b_,h'.get? b=some {o with slots:=b_}:=by
 obtain⟨_,o',bu,hd⟩:=F.mem ag;rw[e] at bu;cases bu;exact k b o e hd
def CJ.on{P:c3}{w:cf}{outer:List Env}{H ak:aF}{s s':aP}{C ea:aq}{nR:av}{B jm:bP}(x:CJ P w outer H s C ak ea nR B s')(st:B.StaysIn jm)(k:s'.heap.UpToSlots jm):
  fF (eG outer) [] H ak s.heap jm/\eZ P w ak jm:=by
 refine⟨⟨λb o e n f _=>st _ _ (x.al1 b o e n f),λb o e n f hx=>?_,λb o e n hx=>x.un.free b o e n hx,λb o e hx=>?_,x.un.j_,x.un.jl,x.un.jy⟩,x.bW.kept st⟩
 ·obtain⟨b_,aE⟩:=x.un.slot b o e n f hx;obtain⟨hg,aK⟩:=Pg x.ur.2.2.1 f aE k;exact⟨hg,aK⟩
 ·by_cases f:b∈eG outer
  ·obtain⟨o',aE⟩:=x.un.there b o e hx;obtain⟨hg,aK⟩:=Pg x.ur.2.2.1 f aE k;exact⟨_,aK⟩
  ·obtain⟨o',aE⟩:=x.sT b o e f;exact⟨o',st _ _ aE⟩
def aiR{P:c3}{w:cf}{H:aF}{h:bP}{as:List aq}(x:eZ P w H h)(n:∀b∈as,H b=none):eZ P w H (PySem.W.hideAll h as):=λa o e=>
 kl.kJ (x a o e) (λb u ag q=>PySem.W.hideAll_get _ q λm=>by
  have z:=n b m;rcases ag with rfl|ag
  ·rw[e] at z;cases z
  ·rw[ag] at z;cases z) (λb ag=>ag) λb xs ag=>ag
section
variable {X:aV}{ai:List (aq×Obj)}{σ:bB.St}{H1 ak:aF}{s1 s2:aP}{C:aq}{e:av}{env:Env}{outer:List Env}{E:gE}
def P4(I:Inv X ai σ H1 s1)(t:Rd X H1 s1 C ak e s2)(hy:E (.ref C) none ak){Z:av->aP->Prop}(ic:X.stack=env::outer:=by rfl)(XP:X.outer=outer:=by rfl)(hex:X.ex=[]:=by rfl)(hf:env.frame=some X.env.locals:=by rfl):
  bE (bN X.prog X.w) X.A (leaving env e) (λ_ pM=>kS X.prog X.w outer X.aO X.c' E e pM) Z s2:=by
 have Xs:X.a6=eG outer:=by unfold aV.a6;rw[XP]
 have lW:=I.ok.frames;rw[ic] at lW;have hX:=I.base;rw[Xs,hex] at hX;have bg:∀b:aq,b∉([]:List aq):=λb z=>absurd z (by simp);have Ah:∀b o,X.c'.heap.get? b=some o->b∉eG outer->b∉eG (env::outer):=λb o bp n m=>by
  obtain⟨k9,he,n7⟩:=List.mem_filterMap.mp m;rcases bC.mp he with rfl|he
  ·rw[hf] at n7;cases n7;exact absurd (dj bp) (Nat.not_lt.mpr I.ok.above)
  ·exact n (List.mem_filterMap.mpr ⟨k9,he,n7⟩)
 have oq:=I.stack;rw[ic] at oq;rcases t with ⟨EH,ea,args,ao,e0,ar,mk⟩|⟨ea,nR,B,e0,dF⟩
 ·subst EH e0 ar;have F1:∀k9∈(env::outer),∀b,k9.frame=some b->b∈eG (env::outer):=λk9 he b ag=>List.mem_filterMap.mpr ⟨k9,he,ag⟩;refine wpAny_leaves_madeW (base:=PySem.W.hideAll s1.heap (eG (env::outer))) lW hf (λb o q=>PySem.W.of_hideAll _ q) (PySem.W.funFrames_hide oq F1) mk λh' t aW bF e' hI=>?_;have Mz:=I.IB;rw[ic] at Mz;have al1:∀b o,X.c'.heap.get? b=some o->X.aO b=none->b∉eG outer->(PySem.W.hideAll s1.heap (eG (env::outer))).get? b=some o:=λb o bp n f=>PySem.W.hideAll_get _ (hX.keep b o bp n f (bg b)) (Ah b o bp f);have sT:∀b o,X.c'.heap.get? b=some o->b∉eG outer->∃o',(PySem.W.hideAll s1.heap (eG (env::outer))).get? b=some o':=λb o bp f=>by
   obtain⟨o',aE⟩:=hX.there b o bp (bg b);exact⟨o',PySem.W.hideAll_get _ aE (Ah b o bp f)⟩
  have b_:∀b o,s1.heap.get? b=some o->b∈eG outer->∃b_,h'.get? b=some {o with slots:=b_}:=λb o aE f=>by
   have dh:s1.heap.FunFrames X.base (env::outer):=oq;obtain⟨_,o',bu,hd⟩:=dh.mem (b:=b) (by
    obtain⟨k9,he,n7⟩:=List.mem_filterMap.mp f;exact List.mem_filterMap.mpr ⟨k9,ew _ he,n7⟩)
   rw[aE] at bu;cases bu;exact hI b o (mk.keeps b o aE) hd
  refine⟨C,_,⟨ea,_,_,rfl,⟨I.os,I.bare,aW,aiR I.bW Mz,⟨λb o bp n f _=>aW.1 _ _ (al1 b o bp n f),λb o bp n f _=>?_,λb o bp n _=>hX.free b o bp n (bg b),λb o bp _=>?_,hX.j_,hX.jl,hX.jy⟩,al1,sT⟩⟩,hy⟩
  ·obtain⟨Ax,aE⟩:=hX.slot b o bp n f (bg b);obtain⟨hg,aK⟩:=b_ b _ aE f;exact⟨hg,aK⟩
  ·by_cases f:b∈eG outer
   ·obtain⟨o',aE⟩:=hX.there b o bp (bg b);obtain⟨hg,aK⟩:=b_ b _ aE f;exact⟨_,aK⟩
   ·obtain⟨o',aE⟩:=sT b o bp f;exact⟨o',aW.1 _ _ aE⟩
 ·subst e0;rw[ic] at dF;refine wpAny_leaves_onW lW hf dF.ur λh' aW bF=>?_;have on:=dF.on aW.1 bF;have al1:∀b o,X.c'.heap.get? b=some o->X.aO b=none->b∉eG outer->B.get? b=some o:=λb o bp n f=>dF.al1 b o (hX.keep b o bp n f (bg b)) (hX.free b o bp n (bg b)) (Ah b o bp f);have sT:∀b o,X.c'.heap.get? b=some o->b∉eG outer->∃o',B.get? b=some o':=λb o bp f=>by
   obtain⟨o',aE⟩:=hX.there b o bp (bg b);exact dF.sT b o' aE (Ah b o bp f)
  have up:∀b,b∈eG outer->b∈eG (env::outer):=λb f=>by
   obtain⟨k9,he,n7⟩:=List.mem_filterMap.mp f;exact List.mem_filterMap.mpr ⟨k9,ew _ he,n7⟩
  refine⟨C,_,⟨ea,_,B,rfl,⟨dF.os.trans I.os,dF.bare,aW,dF.bW,⟨λb o bp n f _=>aW.1 _ _ (al1 b o bp n f),λb o bp n f _=>?_,λb o bp n _=>?_,λb o bp _=>?_,λb xs q=>on.1.j_ _ _ (hX.j_ _ _ q),λb o u q=>on.1.jl _ _ _ (hX.jl _ _ _ q),λb ps q=>?_⟩,al1,sT⟩⟩,hy⟩
  ·obtain⟨Ax,aE⟩:=hX.slot b o bp n f (bg b);obtain⟨hg,aK⟩:=on.1.slot b _ aE (hX.free b o bp n (bg b)) (up b f) (bg b);exact⟨hg,aK⟩
  ·obtain⟨Ax,aE⟩:=hX.any bp n (bg b);exact on.1.free b _ aE (hX.free b o bp n (bg b)) (bg b)
  ·obtain⟨o',aE⟩:=hX.there b o bp (bg b);exact on.1.there b o' aE (bg b)
  ·obtain⟨hD,a4⟩:=hX.jy b ps q;obtain⟨hE,bO⟩:=on.1.jy b _ a4;exact⟨hD++hE,by rw[bO,Array.append_assoc]⟩
def ahp(h:∀C ak,E (.ref C) none ak->wk X C ak):Passes (kS X.prog X.w) X E:=λai σ H s e s' I ⟨C,ak,dF,hy⟩=>h C ak hy ai σ H s e s' I (.inr dF)
end
end
section
variable [cB]
abbrev fp:=Ev->Bool
def ac8(X:aV)(C:aq)(r:fp):TE:=λσ H _=>∃aM E O F ε,cZ X.K aM E O F H ε σ/\r ε=true/\∀aR ak,Ext F H aR ak->wk X C ak
def Oa(X:aV)(C:aq)(r:fp):fE:=λ_ σ H=>∃aM E O F ε,cZ X.K aM E O F H ε σ/\r ε=true/\∀aR ak,Ext aM E.h aR ak->wk X C ak
abbrev CZ(X:aV)(C:aq)(e:bk)(r:fp):Prop:=b3 X e (ac8 X C r)
abbrev C0(X:aV)(C:aq)(s:Stmt)(r:fp):Prop:=iD X s (Oa X C r)
abbrev qt(X:aV)(C:aq)(s:List Stmt)(r:fp):Prop:=fh X s (Oa X C r)
def sy:fp:=λ_=>false
def hW(b:bx)(r:fp):fp:=λε=>match b ε with
|some (.bg ε')=>r ε'
|_=>false
def lY(c:ej)(a b:fp):fp:=λε=>match c ε with
|some true=>a ε
|some false=>b ε
|none=>false
def qY(f:a_):fp:=λε=>(f ε).isSome
theorem iD.eU{X:aV}{st:Stmt}{t:fE}(h:iD X.eU st t):iD X st t:=λai s σ H D I hw=>
 fA (h ai s σ H D (I.jz _) hw) (λ_ _ q=>q.l') λ_ _ z=>eX z
theorem gm.eU{X:aV}{ar:List bk}{t:fT}(h:gm X.eU ar t):gm X ar t:=λpos ai s σ H Q I hw=>
 fA (h pos ai s σ H Q (I.jz _) hw) (λ_ _ ⟨v,ak,mz,r,q⟩=>⟨v,ak,mz.l',r,q⟩) λ_ _ z=>eX z
section
variable {X:aV}{C:aq}{e c:bk}{st:Stmt}{rest wJ:List Stmt}{r cx:fp}{b:bx}{dZ:ej}{pos:Pos}
def Ja{l:List Stmt}:qt X C l sy:=λai s σ H D I h=>by
 obtain⟨_,_,_,_,_,_,e,_⟩:=h;cases e
def vu(h:C0 X C st r):qt X C (st::rest) r:=vC (tu (u:=λ_ _ _=>False) h λ_ _ _ _ _ _ z=>z.elim) λD σ H q=>q
def rp(ah:kY X.eU st b)(ao:qt X C rest r):qt X C (st::rest) (hW b r):=vC (tu (iD.eU ah) ao) λD σ H ⟨aM,E,O,F,ε,ih,e,k⟩=>by
 unfold hW at e;split at e
 next ε' ag=>exact⟨aM,E,O,F,ε,_,ih,ag,λbR aR ak aQ cF=>⟨aM,E,O,aR,ε',cF,e,k⟩⟩
 next=>cases e
def I'(au:iY X.eU c dZ)(aA:qt X C rest r)(ag:qt X C wJ cx):C0 X C (.If c rest wJ pos) (lY dZ r cx):=ql (KN au.eU aA ag) λD σ H ⟨aM,E,O,F,ε,ih,e,k⟩=>by
 unfold lY at e;split at e
 next hx=>exact⟨aM,E,O,F,ε,true,ih,hx,λaR ak x=>n' ⟨aM,E,O,aR,ε,ih.ext x,e,k⟩⟩
 next hx=>exact⟨aM,E,O,F,ε,false,ih,hx,λaR ak x=>qS ⟨aM,E,O,aR,ε,ih.ext x,e,k⟩⟩
 next=>cases e
end
abbrev DQ:List av:=[.type "ValueError",.type "Exception",.type "BaseException",.type "object"]
def aiw{K:a'}{h:bP}{C:aq}{Ls:List av}{newId:String}(X:K.In h)(q:PySem.W.excIn K C Ls newId=true):
  ∃bm N nm q bs hdct sn sub ab col dd k0 k1 k2 k3 k5 mN,h.get? C=some (excClassObj nm q C N bs bm hdct sn sub ab col dd k0 k1 k2 k3 k5 newId)/\h.Ns N mN/\mN "__init__"=none/\OwnTail h Ls bm:=by
 unfold PySem.W.excIn at q;split at q
 ·rename_i dd cd b_ aT
  split at q
  ·rename_i nG bm k0 k1 k2 k3 n k5 hm aB
   simp only[cX,beq_iff_eq,Bool.not_eq_true'] at q;obtain⟨⟨⟨⟨⟨rfl,rfl⟩,MI⟩,aN⟩,bW⟩,zZ⟩:=q;obtain⟨nm,bs,mro,ns,sG,hd,sn,sub,ab,col,del⟩:=cd;dsimp only at hm MI bW zZ;subst hm MI;have Gd:b_=#[k0,k1,k2,k3,some (.builtin n),k5]:=by
    obtain⟨l⟩:=b_;simp only at aB;rw[aB]
   subst Gd;exact⟨bm,ns,nm,sG,bs,hd,sn,sub,ab,col,dd,k0,k1,k2,k3,k5,_,X _ _ aT,.of_isNs (PySem.W.isNs_of_in X bW),PySem.W.nsMap_none_of_in X bW zZ,PySem.W.tail_of_in X aN⟩
  ·cases q
 ·cases q
def JL{X:aV}{C:aq}{x:Str}{e:bk}{f:a_}{np eQ pos:Pos}(hm:X.mg x=some (.ref C))(hx:PySem.W.excIn X.K C DQ "ValueError.__new__"=true)(he:cq X.eU e f)(c4:X.A.handled=none)
  (a7:et X x:=by rfl) (aB:bL [e] X.env=(false,eval e X.env)::bL [] X.env:=by rfl) (hd:(x==("__debug__":Str))=false:=by decide):
  C0 X C (.Raise (some (.Call (.Name x np) [e] [] eQ)) none pos) (qY f):=by
 intro ai s σ H D I ⟨aM,E,O,F,ε,ih,uk,k⟩;obtain⟨t,cw⟩:=Option.isSome_iff_exists.mp uk;obtain⟨bm,N,nm,q,bs,hdct,sn,sub,ab,col,dd,k0,k1,k2,k3,k5,mN,zN,dA,zZ,Lh⟩:=aiw I.ok.mod.sl hx;refine wpAny_Raise_call_subT (C:=C) (nm:=nm) (q:=q) (N:=N) (bs:=bs) (bm:=bm) (hdct:=hdct) (sn:=sn) (sub:=sub) (ab:=ab) (col:=col) (dd:=dd) (k0:=k0) (k1:=k1) (k2:=k2) (k3:=k3) (k5:=k5) (mN:=mN)
  PySem.F.excBase_ValueError (Lh.hasType PySem.F.excBase_ValueError.hasBase) c4 (by rw[aB];rfl) zZ (yy I a7 hm ⟨rfl,?_⟩ hd)
 have aA:gm X [e] (hG (sS X.K f) l_):=fB (b3.eU he) h2 aB;have h0:=aA eQ ai s σ H (λvs H1=>∃v,vs=[v]/\wk X C H1) I ⟨aM,E,O,F,ε,t,ih,cw,λv aR ak x _=>⟨v,rfl,k aR ak (ih.ent.trans x)⟩⟩;rw[aB] at h0 ⊢;refine Calls.evalArgs_plain (fA h0 (λus l8 ⟨vs,H1,a9,bj,v,ev,Zi⟩=>⟨rfl,?_,?_,?_,?_,λh' ea mk=>?_⟩) λ_ _ y=>y)
 ·have:=bj.length;rw[ev] at this;show us.length<=b';rw[<- this];show 1<=b';decide
 ·exact a9.f7 _ _ zN
 ·exact dA.keeps a9.f7
 ·exact Lh.keeps a9.f7
 ·exact Zi ai σ H1 l8 (.ref ea) _ a9 (.inl ⟨rfl,ea,_,h',rfl,rfl,mk⟩)
noncomputable def NY(K:a')(n:Nat)(C:aq)(r:List bQ->Bool):mC:=λvs H _ E=>vs.length=n/\∃F ss,f3 F H/\K0 K F H ss vs/\r ss=true/\∀aR ak,Ext F H aR ak->E (.ref C) none ak
def xx(r:fp)(n:Nat):List bQ->Bool:=λss=>r (mm n ss)
structure mw(P:c3)(w:cf)(K:a')(mg:Str->Option av)(base:bP)(x:Str)(C:aq)(k n:Nat)(r:List bQ->Bool):Prop where
 ex:∃cU fd ps,gD P w K mg base (kS P w) k cU fd ps (NY K n C r)/\mg x=some (.ref cU)/\al6 K (.ref cU)=true/\Binds K fd ps []
section
variable {P:c3}{w:cf}{K:a'}{mg:Str->Option av}{base:bP}
theorem mw.mono{x:Str}{C:aq}{k n j:Nat}{r:List bQ->Bool}(c:mw P w K mg base x C j n r)(h:j<=k):mw P w K mg base x C k n r:=by
 obtain⟨cU,fd,ps,F,q⟩:=c.ex;exact⟨cU,fd,ps,F.mono h,q⟩
def aiU{x qual:Str}{st:Stmt}{f C:aq}{fd:fa}{N ps:List Str}{k:Nat}{r:fp}(F:cE K x qual st f fd)(S:cY N ps (bS st))
  (ag:∀(bY:av) (A:dk) (outer:List Env) (s:aP) (H:aF) (E:gE),eN k (A.deeper (envOfC qual (bS st) s.heap.objs.size f bY)) ->
   qt (gQ (kS P w) P w K mg base N qual (bS st) f bY A outer s H E) C (hk st) r):
  gD P w K mg base (kS P w) (k+1) f fd ps (NY K ps.length C (xx r N.length)):=by
 obtain⟨gY,hb,gv,doc,pm,an,bY,bJ,kH,rfl,lk,eT⟩:=F.ex;refine KV lk eT S (λvs H Q E h=>h.1) λA outer s H vs Q E ax h=>⟨_,ag bY A outer s H E ax,?_⟩;obtain⟨aH,F,ss,cK,q,e,mV⟩:=h;refine⟨F,⟨H,0⟩,λa=>H a=none,F,_,?_,e,λaR ak x=>?_⟩
 ·unfold bB.start;exact ae9 cK q N.length
 ·intro ai σ H1 s1 aE s2 I t;refine fA (P4 (X:=gQ (kS P w) P w K mg base N qual (bS st) f bY A outer s H E) (E:=E) (Z:=λ_ _=>False) I t (mV aR ak x)) (λ_ _ z=>z) λ_ _ z=>z.elim
def Ky{x:Str}{C:aq}{st:Stmt}{f:aq}{fd:fa}{N ps:List Str}{k:Nat}{r:fp}(F:cE K x x st f fd)(S:cY N ps (bS st))(bd:Binds K fd ps [])(m:mg x=some (.ref f))
  (ag:∀(bY:av) (A:dk) (outer:List Env) (s:aP) (H:aF) (E:gE),eN k (A.deeper (envOfC x (bS st) s.heap.objs.size f bY)) ->
   qt (gQ (kS P w) P w K mg base N x (bS st) f bY A outer s H E) C (hk st) r):mw P w K mg base x C (k+1) ps.length (xx r N.length):=⟨f,fd,ps,aiU F S ag,m,F.aQ,bd⟩
end
def kk(r:List bQ->Bool)(as:List oP):fp:=λε=>match qx as ε with
|some ss=>r (ss.map Iy)
|none=>false
section
variable {X:aV}{k n c C CO i:Nat}{ns:List Str}{r:List bQ->Bool}{x m:Str}{p pos apos:Pos}{o e:bk}{ar:List bk}{as:List oP}{a6:List a_}
def vD(Sn:mw X.prog X.w X.K X.mg X.base x C k n r)(ax:eN k X.A)(aA:zh X.eU (e::ar) as)(a7:et X x:=by rfl)(bf:as.length=n:=by rfl)(ib:(x==("__debug__":Str))=false:=by decide)
  (he:bL (e::ar) X.env=(false,eval e X.env)::bL ar X.env:=by rfl) (hpl:(fl pos (bL ar X.env)).any (·.1)=false:=by rfl):CZ X C (.Call (.Name x p) (e::ar) [] pos) (kk r as):=by
 obtain⟨cU,fd,ps,F,hm,aQ,b⟩:=Sn.ex;refine ec (Qx F ax a7 hm aQ b .nil (ahp (E:=λcl _ ak=>∃nG,cl=.ref nG/\wk X nG ak) λnG ak ⟨RT,aK,q⟩=>by cases aK;exact q) (gm.eU aA) ib he hpl) λσ H Q ⟨aM,E,O,F,ε,ih,e,k⟩=>?_;unfold kk at e;split at e
 next ss ar=>
  refine⟨aM,E,O,F,ε,ss,ih,ar,λvs a5 H1 aW q=>⟨?_,a5,ss.map Iy,aW.cK,?_,e,λaR ak bF=>⟨C,rfl,k aR ak (aW.trans bF)⟩⟩⟩
  ·rw[ov,q.len,bf]
  ·rw[ov];exact Kz (ih.ext aW) ar q
 next=>cases e
end
end
section
abbrev aV.qR(X:aV)(ea:aq):aV:={X with A:=X.A.mark (some (.ref ea)),calm:=false,dg:=λ_ _=>False}
section
variable {X:aV}{ai:List (aq×Obj)}{σ:bB.St}{H:aF}{s:aP}{ea:aq}
def ajY(ok:X.Ok)(ea:aq):(aV.qR X ea).Ok:=
 ⟨ok.mod,ok.kind,ok.glob,ok.blt,ok.above,ok.inj,ok.has,ok.rZ,(λ(z:false=true)=>absurd z (by decide)),ok.frames,ok.oq,ok.um,ok.bs,ok.nS,ok.sz,ok.r3,ok.ku,ok.pg⟩
def QC(I:Inv X ai σ H s)(ea:aq):Inv (aV.qR X ea) ai σ H s:=⟨ajY I.ok ea,I.os,I.bare,I.base,I.loc,I.cell,I.free,I.jk,I.pin,I.bW,I.len⟩
def ahM(ok:X.Ok)(I:Inv (aV.qR X ea) ai σ H s):Inv X ai σ H s:=⟨ok,I.os,I.bare,I.base,I.loc,I.cell,I.free,I.jk,I.pin,I.bW,I.len⟩
def ahN{i:Nat}{n:Str}{h':bP}{m:Str->Option av}{v:Option av}{tk:Nat}(I:Inv X ai σ H s)(hi:X.N[i]?=some n)(aH:∀(i:Nat) (x:Str) (v:V),X.N[i]?=some x->σ[i]?=some (some v)->nP X.env.scope x->∃u,RelV v u/\Look X.env s.heap m x u)(dA:X.N.Nodup)
  (bf:h'.Ns X.env.locals (λx=>if x=n then v else m x)) (aB:Heap.SameBut X.env.locals s.heap h') (z0:∃o,s.heap.get? X.env.locals=some o):Inv X ai (σ.set i none) H {s with heap:=h',toks:=tk}:=by
 have zW:i<σ.length:=by rw[I.len];exact (gy.mp hi).1
 have mG:=I.mG;have lt:∀{b:aq} {o:Obj},X.c'.heap.get? b=some o->b≠X.env.locals:=λe=>eg (il (dj e) I.ok.above);refine⟨I.ok,I.os,I.bare,⟨λb o e n ag hx=>(aB.2 b (lt e)).trans (I.base.keep b o e n ag hx),λb o e n ag hx=>?_,I.base.free,λb o e hx=>?_,I.base.j_,I.base.jl,I.base.jy⟩,⟨_,bf,λj y lu aE aK c_=>?_⟩,λy c e=>?_,I.free,I.jk,λp aC=>?_,λb dH e=>?_,by simpa using I.len⟩
 ·obtain⟨b_,aE⟩:=I.base.slot b o e n ag hx;exact⟨b_,(aB.2 b (lt e)).trans aE⟩
 ·obtain⟨o',aE⟩:=I.base.there b o e hx;exact⟨o',(aB.2 b (lt e)).trans aE⟩
 ·by_cases cS:j=i
  ·subst cS;rw[List.getElem?_set_self zW] at aK;cases aK
  ·rw[List.getElem?_set_ne (Ne.symm cS)] at aK;obtain⟨uW,cx,q⟩:=aH j y lu aE aK c_;refine⟨uW,cx,?_⟩;rcases q with ⟨k,e⟩|⟨k,c,e,z⟩
   ·refine .inl ⟨k,?_⟩
    have:y≠n:=λe=>cS (JD dA aE (e▸hi));simp[this,e]
   ·exact .inr ⟨k,c,e,z.sameBut aB (mG y c e)⟩
 ·obtain⟨gM,z⟩:=I.cell y c e;exact⟨gM,z.sameBut aB (mG y c e)⟩
 ·obtain⟨e,n,ne,ju,d⟩:=I.pin p aC;exact⟨(aB.2 p.1 ne).trans e,n,ne,ju,d⟩
 ·refine (I.bW b dH e).kJ (λc gM au q=>(aB.2 c ?_).trans q) (λ_ q=>q) λ_ _ q=>q
  rintro rfl;have fr:=I.free;rcases au with rfl|au
  ·rw[fr] at e;cases e
  ·rw[fr] at au;cases au
end
def afp{M:Model}{A:dk}{E:av->aP->Prop}{K:a'}{s:aP}{x C d3:aq}{Q:Bool->aP->Prop}(X:K.In s.heap)(I:ExcAt x C s.heap)
  (ah:PySem.W.typeIn K (.ref d3)=some (.type "type")) (ao:PySem.W.mroIn K d3 (.type "BaseException")=some true) (aY:PySem.W.mroIn K C (.ref d3)=some true) (au:(PySem.W.clsIn K d3).isSome=true) (aD:Q true s):
  bE M A (excMatches (.ref x) (.ref d3)) Q E s:=by
 obtain⟨c4,g,zB,t,os⟩:=s;have qr:=I.type (M:=M);have jK:=PySem.W.looks_typeIn (M:=M) X ah;have bB:=PySem.W.looks_mroIn (M:=M) X ao;have CT:=PySem.W.looks_mroIn (M:=M) X aY;have CU:PySem.W.Looks M c4 (isInstance (.ref d3) (.type "tuple")) false:=jK.andThen (PySem.W.Looks.of_pure tc_notTuple);have LT:PySem.W.Looks M c4 (isType (.ref d3)) true:=by
  unfold PySem.W.clsIn at au;split at au
  ·rename_i cC d' Lv Aw aT
   intro RQ wh oS s' k q;unfold isType loadHead;exact aZ (wpAny_loadPart (k _ _ (X _ _ aT)) (cc q))
  ·cases au
 have LE:PySem.W.Looks M c4 (isExcClass (.ref d3)) true:=LT.andThen bB;unfold excMatches;refine aZ (CU.at ?_);rw[if_neg (by decide)];refine aZ (cc ?_);dsimp only;refine aZ ?_;simp only[List.forIn_cons,List.forIn_nil];refine aZ (aZ (LE.at ?_));rw[if_neg (by decide)];refine cc (cc ?_);refine aZ (qr.at (aZ ?_));refine aZ (aZ (CT.at ?_));rw[if_pos rfl];exact cc (cc (cc aD))
def ah2{X:aV}{ai:List (aq×Obj)}{σ:bB.St}{H ak:aF}{s s':aP}{C d3:aq}{e:av}{mH n:Str}{i:Nat}{np pos:Pos}{nT:Stmt}{ot:List Stmt}{ts:fE}{D:Ends}
  (I:Inv X ai σ H s) (dF:Cx X.prog X.w X.stack H s C ak e s') (hm:X.mg mH=some (.ref d3))
  (ah:PySem.W.typeIn X.K (.ref d3)=some (.type "type")) (ao:PySem.W.mroIn X.K d3 (.type "BaseException")=some true) (aY:PySem.W.mroIn X.K C (.ref d3)=some true) (au:(PySem.W.clsIn X.K d3).isSome=true)
  (aB:∀ea,fh (aV.qR X ea) (nT::ot) ts) (k:∀ea,ak ea=none->ts {bg:=λnE bo=>D.bg (nE.set i none) bo,ee:=λ_ _=>False} (σ.set i (some (.ref ea))) (upd ak ea (.ext (ExcAt ea C))))
  (dA:X.N.Nodup) (hi:X.N[i]?=some n) (qM:X.env.kindOf n=some .local) (ic:X.stack=X.env::X.outer) (hf:X.env.frame=some X.env.locals) (a7:et X mH) (ib:(mH==("__debug__":Str))=false):
  bE (bN X.prog X.w) X.A (noteFrame e X.env) (λ_ l8=>bE (bN X.prog X.w) X.A (setFlight e none) (λ_ sP=>bE (bN X.prog X.w) X.A (handleBy e X.env [.ExceptHandler (some (.Name mH np)) (some n) (nT::ot) pos]) (bB.o3 X ai D) X.dg sP) X.dg l8) X.dg s':=by
 obtain⟨ea,nR,B,rfl,dF⟩:=dF;have MK:=dF.ur;have lW:=I.ok.frames;rw[ic] at MK lW;refine wpAny_looks_onW lW hf MK λuG Xo ac3=>?_;refine wpAny_landsW Xo λgU FC ac4=>?_;have Lj:s'.heap.UpToSlots gU:=ac3.trans ac4;obtain⟨IG,XM⟩:=dF.on FC.1 Lj;have bg:∀b:aq,b∉([]:List aq):=λb z=>absurd z (by simp);have Ld:Inv X ai σ ak {s' with heap:=gU}:=I.Lu dF.os IG XM dF.bare λb ag=>absurd ag (bg b);have Uv:ExcAt ea C gU:=by
  obtain⟨m1,vs,a4,bO,dR,_⟩:=FC.first;exact⟨m1,vs,a4,bO,dR⟩
 have gS:ak ea=none:=by
  cases q:ak ea with
  |none=>rfl
  |some u=>
   obtain⟨o,aT⟩:∃o,B.get? ea=some o:=by
    have z:=dF.bW ea u q;have lt:=z.lt;have:∀(u:ey),kl X.prog X.w ak B ea u->∃o,B.get? ea=some o:=by
     intro u
     induction u with
     |lst xs=>rintro⟨_,_,_,_,e⟩;exact⟨_,e⟩
     |tup xs=>rintro⟨_,_,_,o,e,_⟩;exact⟨_,e⟩
     |ji dc=>rintro⟨_,_,_,_,o,_,_,e,_⟩;exact⟨_,e⟩
     |ui dc=>rintro⟨_,_,_,_,o,_,_,e,_⟩;exact⟨_,e⟩
     |set S n=>rintro⟨o,_,_,_,e,_⟩;exact⟨_,e⟩
     |ins C iF a6=>rintro⟨_,_,_,e,_⟩;exact⟨_,e⟩
     |own x=>rintro⟨o,e⟩;exact⟨_,e⟩
     |gZ a6=>rintro⟨_,e,_⟩;obtain⟨o,_,_,e,_⟩:=e;exact⟨_,e⟩
     |met f x=>intro e;exact⟨_,e⟩
     |jx lo hi=>rintro⟨_,_,_,e⟩;exact⟨_,e⟩
     |jQ o u d0=>rintro⟨e,_⟩;exact⟨_,e⟩
     |hH ps=>intro e;exact⟨_,e⟩
     |ext nF=>rintro⟨_,⟨o,e⟩,_⟩;exact⟨_,e⟩
    exact this u z
   rw[dF.ur.2.1] at aT;cases aT
 refine wpAny_handleBy_cons (codeAny_handlers_test (yy (X:=aV.qR X ea) (QC Ld ea) a7 hm ?_ ib)) (by intro q;cases q)
 refine afp Ld.jY Uv ah ao aY au ?_
 refine codeAny_handlers_suite_as ?_
 refine lands_againW FC λxc FD ac5=>?_
 have Tq:s'.heap.UpToSlots xc:=Lj.trans ac5;obtain⟨sU,XN⟩:=dF.on FD.1 Tq;have Lq:ExcAt ea C xc:=by
  obtain⟨m1,vs,a4,bO,dR,_⟩:=FD.first;exact⟨m1,vs,a4,bO,dR⟩
 have xj:∀{b:aq} {u:ey},ak b=some u->upd ak ea (.ext (ExcAt ea C)) b=some u:=λ{b u} q=>by rw[cp (by rintro rfl;rw[gS] at q;cases q)];exact q
 have ZU:∀{b:aq} {o:Obj},s.heap.get? b=some o->H b=none->b≠ea:=λ{b o} q n=>by
  rintro rfl;by_cases f:b∈eG X.stack
  ·obtain⟨_,o',bu,hd⟩:=FD.2.2.1.mem (b:=b) (by rw[<- ic];exact f);obtain⟨m1,vs,aE,_,aK⟩:=Lq;rw[aE] at bu;cases bu;exact hd vs aK
  ·have z:=dF.al1 b o q n f;rw[dF.ur.2.1] at z;cases z
 have adN:fF (eG X.stack) [] H (upd ak ea (.ext (ExcAt ea C))) s.heap xc:=⟨sU.keep,sU.slot,λb o q n hx=>by rw[cp (ZU q n)];exact sU.free b o q n hx,sU.there,λb xs q=>xj (sU.j_ b xs q),λb o u q=>xj (sU.jl b o u q),λb ps q=>by
  obtain⟨m,z⟩:=sU.jy b ps q;exact⟨m,xj z⟩⟩
 have XO:eZ X.prog X.w (upd ak ea (.ext (ExcAt ea C))) xc:=λb u q=>by
  by_cases ag:b=ea
  ·subst ag;rw[ep] at q;cases q;obtain⟨m1,vs,aE,aK,c_⟩:=Lq;exact⟨⟨m1,vs,aE,aK,c_⟩,⟨m1,aE⟩,λk1 k2 ⟨o,vs,g6,fb,oC⟩ cm=>⟨o,vs,cm o g6,fb,oC⟩⟩
  ·rw[cp ag] at q;exact (XN b u q).kJ (λ_ _ _ z=>z) (λc z=>xj z) λc xs z=>xj z
 have Tb:Inv X ai σ (upd ak ea (.ext (ExcAt ea C))) {s' with heap:=xc}:=I.Lu dF.os adN XO dF.bare λb ag=>absurd ag (bg b);refine Jw (X:=aV.qR X ea) (v:=.ref ea) (QC Tb ea) dA hi (.inl qM) rfl (λc2 hR=>?_) (.inr qM);refine fA (aB ea ai c2 _ _ _ hR (k ea gS)) (λf du r5=>?_) λ_ _ z=>z.elim;cases f with
|next=>
  obtain⟨nE,bo,CM,m3⟩:=r5;have Lc:=ahM I.ok CM;obtain⟨m,MR,F6⟩:=id Lc.loc;refine wpAny_nameGoes_keeps qM MR (by rw[I.ok.kind];rfl) λMB v XG XU=>?_;have z0:∃o,du.heap.get? X.env.locals=some o:=by
   obtain⟨o,_,_,q,_⟩:=MR;exact⟨o,q⟩
  exact⟨_,bo,ahN Lc hi F6 dA XG XU z0,m3⟩
|brk=>obtain⟨_,_,_,m3⟩:=r5;exact eX m3
|cont=>obtain⟨_,_,_,m3⟩:=r5;exact eX m3
|ret u=>obtain⟨_,_,_,_,_,m3⟩:=r5;exact eX m3
end
section
noncomputable def NL(K:a')(C:aq):List V->aF->di->Prop:=λxs H Q=>∃ea c cv b,xs=[.ref ea,c]/\H ea=some (.ext (ExcAt ea C))/\(∀u,RelV c u->u=cv)/\iO K (.ref C) cv=some b/\Q (.bw b) H
def akh{X:aV}{C:aq}(O:qq X.K C):km X (.builtin "isinstance") (NL X.K C):=by
 intro ai s σ H xs us Q I r ⟨ea,c,cv,b,aE,aK,c_,gG,q⟩;subst aE;cases r with
|cons bj r=>
  cases r with
  |cons cF r=>
   cases r
   cases bj
   have ht:=c_ _ cF;subst ht;exact PySem.W.kia_one (ahG O) I.jY (I.bW ea _ aK).1 gG (by intro z;cases z) λtk=>⟨.bw b,H,I.tok _,rfl,q⟩
theorem JJ:∀{bs:List Bool} {us:List av},Vals (bs.map V.bw) us->us=bs.map Value.bool
| [],us,h=>by cases h;rfl
|b::bs,us,h=>by
  cases h with
  |cons r t=>
   cases r
   rw[JJ t];rfl
def rn:av->Bool
|.bool true=>true
|_=>false
def ahB{X:aV}:CV X "list.count" (λx vs H Q=>∃(l:aq) (bs:List Bool),x=.ref l/\vs=[.bw true]/\eO X.K H l (bs.map V.bw)/\Q (.int (bs.countP id:Nat)) H):=by
 intro ai s σ H x vs v us Q I aS cn h;obtain⟨l,bs,rfl,rfl,aD,q⟩:=h;cases aS;obtain⟨u,rfl,e3⟩:=cn.one;cases e3;obtain⟨its,r,⟨⟨cls,dd,data,b_⟩,n,aT,au,hd,aB⟩,aI⟩:=I.list aD;simp only at au hd aB;subst au hd aB;have hits:=JJ r;subst hits;refine nh PySem.F.slot_list_count ⟨_,aT,rfl⟩ PySem.F.entry_list_count (PySem.F.args_list_count_2 _ _)
  (SeqAt.list_countAt l _ n _ _ (.bool true) rn) ⟨aT,λz pB=>?_,?_⟩
 ·obtain⟨b,_,rfl⟩:=b2.mp (show z∈bs.map Value.bool by simpa using pB);have e:=SeqAt.EqAt.bool_bool (A:=X.A.in1) (s:=s) b true;have aK:(b==true)=rn (.bool b):=by cases b <;> rfl
  rw[aK] at e;exact e
 ·refine⟨V.int (bs.countP id:Nat),H,I.tok _,⟨s.toks,?_⟩,q⟩
  have:((bs.map Value.bool).toArray.toList.countP rn)=bs.countP id:=by
   show (bs.map Value.bool).countP rn=_
   rw[List.countP_map];congr 1;funext b;cases b <;> rfl
  rw[this]
def agr{X:aV}:CV X "list.index" (λx vs H Q=>∃(l:aq) (bs:List Bool) (j:Nat),x=.ref l/\vs=[.bw true]/\eO X.K H l (bs.map V.bw)/\bs[j]?=some true/\(∀m,m<j->bs[m]?=some false)/\Q (.int (j:Nat)) H):=by
 intro ai s σ H x vs v us Q I aS cn h;obtain⟨l,bs,j,rfl,rfl,aD,cS,ag,q⟩:=h;cases aS;obtain⟨u,rfl,e3⟩:=cn.one;cases e3;obtain⟨its,r,⟨⟨cls,dd,data,b_⟩,n,aT,au,hd,aB⟩,aI⟩:=I.list aD;simp only at au hd aB;subst au hd aB;have hits:=JJ r;subst hits;have w6:=(gy.mp cS).1;rw[dy] at aI;rw[sizeLine_eq] at aI;refine nh PySem.F.slot_list_index ⟨_,aT,rfl⟩ PySem.F.entry_list_index (PySem.F.args_list_index_2 _ _)
  (SeqAt.list_indexAt l _ n _ _ (.bool true) rn j (by simpa using w6) (by omega) ?_ ?_) ⟨aT,λz pB=>?_,⟨V.int (j:Nat),H,I.tok _,⟨_,rfl⟩,q⟩⟩
 ·have:=(gy.mp cS).2;simp[rn,this]
 ·intro m hm hA;have:=(gy.mp (ag m hA)).2;simp[rn,this]
 ·obtain⟨b,_,rfl⟩:=b2.mp (show z∈bs.map Value.bool by simpa using pB);have e:=SeqAt.EqAt.bool_bool (A:=X.A.in1) (s:=s) b true;have aK:(b==true)=rn (.bool b):=by cases b <;> rfl
  rw[aK] at e;exact e
def kq [cB](H ak:aF):Prop:=∀F:aq->Prop,f3 F H->Ext F H F ak
theorem kq.laid [cB]{H:aF}{p:aq}{o:ey}(aC:H p=none):kq H (upd H p o):=λF d=>Ext.laid d aC
theorem kq.trans [cB]{H H1 bo:aF}(a:kq H H1)(b:kq H1 bo):kq H bo:=λF d=>(a F d).trans (b F (a F d).cK)
abbrev sR(K:a')(C:aq)(c:V):TE:=AG (NL K C) (hG (m7 2) (hG (hF c) l_))
abbrev abN(K:a'):V->List V->aF->di->Prop:=λx vs H Q=>∃(l:aq) (bs:List Bool),x=.ref l/\vs=[.bw true]/\eO K H l (bs.map V.bw)/\Q (.int (bs.countP id:Nat)) H
abbrev abO(K:a'):V->List V->aF->di->Prop:=λx vs H Q=>∃(l:aq) (bs:List Bool) (j:Nat),x=.ref l/\vs=[.bw true]/\eO K H l (bs.map V.bw)/\bs[j]?=some true/\(∀m,m<j->bs[m]?=some false)/\Q (.int (j:Nat)) H
abbrev Kh(K:a')(C f_ f9 cd bJ:aq):fE:=
 AH (sQ (N9 (hG (sR K C (.ref f_)) (hG (sR K C (.ref f9)) (hG (sR K C (.ref cd)) (hG (sR K C (.ref bJ)) l_))))) (rE 3))
 (AH (sQ (uV (hG (hF (.str "refused")) (hG (Ob (Iu λi=>.int (-i)) (hF (.int 1))) l_))) (rE 1)) (N8 (N7 (AD (sR K C (.ty "ValueError"))) (KH (uT NJ (AF K "list" (abN K) (m7 3) (hG (hF (.bw true)) l_)) (hF (.int 1))))) (sQ (uV (hG (hF (.str "refused")) (hG (AF K "list" (abO K) (m7 3) (hG (hF (.bw true)) l_)) l_))) (rE 1)) Rn))
structure Kinds(K:a')(C f_ f9 cd bJ:aq)(bs:List Bool)(j:Nat):Prop where
 gF:∃gF bD b7 ek,bs=[gF,bD,b7,ek]/\iO K (.ref C) (.ref f_)=some gF/\iO K (.ref C) (.ref f9)=some bD/\iO K (.ref C) (.ref cd)=some b7/\iO K (.ref C) (.ref bJ)=some ek
 Oh:iO K (.ref C) (.type "ValueError")=some true
 one:bs.countP id=1
 hit:bs[j]?=some true
 no:∀m,m<j->bs[m]?=some false
def ae1 [cB]{K:a'}{C f_ f9 cd bJ ea:aq}{bs:List Bool}{j:Nat}(cm:Kinds K C f_ f9 cd bJ bs j){D:Ends}{σ:bB.St}{H:aF}(aH:σ.length=4)(he:σ[2]?=some (some (.ref ea)))(hx:H ea=some (.ext (ExcAt ea C)))
  (k:∀ak p bR,kq H ak->ak p=some (.tup [.str "refused",.int j])->bR.length=4->bR[1]?=some (some (.ref p))->D.bg bR ak):Kh K C f_ f9 cd bJ D σ H:=by
 obtain⟨⟨gF,bD,b7,ek,rfl,k0,k1,k2,k3⟩,Oh,one,hit,no⟩:=cm;have mU:∀{c:V} {cv:av} {b:Bool} {σ:bB.St} {H:aF} {Q:di},σ[2]?=some (some (.ref ea))->H ea=some (.ext (ExcAt ea C))->(∀u,RelV c u->u=cv)->iO K (.ref C) cv=some b->Q (.bw b) H->sR K C c σ H Q:=
  λ{c cv b σ H Q} aE aK c_ gG q=>⟨_,aE,ea,c,cv,b,rfl,aK,c_,gG,q⟩
 refine mU he hx (cv:=.ref f_) (λu r=>r) k0 (mU he hx (cv:=.ref f9) (λu r=>r) k1 (mU he hx (cv:=.ref cd) (λu r=>r) k2 (mU he hx (cv:=.ref bJ) (λu r=>r) k3 ?_)))
 refine⟨by show 4<=b';decide,λp aC=>?_⟩
 refine⟨1,rfl,?_⟩
 refine⟨by show 2<=b';decide,λdJ w'=>?_⟩
 have g1:kq H (upd H p (.lst [.bw gF,.bw bD,.bw b7,.bw ek])):=kq.laid aC;have g2:=g1.trans (kq.laid (o:=.tup [.str "refused",.int (-1)]) w');have ne1:ea≠p:=by rintro rfl;rw[hx] at aC;cases aC
 have M0:upd H p (.lst [.bw gF,.bw bD,.bw b7,.bw ek]) ea=some (.ext (ExcAt ea C)):=by rw[cp ne1];exact hx
 have ne2:ea≠dJ:=by rintro rfl;rw[M0] at w';cases w'
 have ne3:p≠dJ:=by rintro rfl;rw[ep] at w';cases w'
 have aK:((σ.set 3 (some (V.ref p))).set 1 (some (V.ref dJ)))[2]?=some (some (.ref ea)):=by rw[List.getElem?_set_ne (by decide),List.getElem?_set_ne (by decide)];exact he
 have c_:((σ.set 3 (some (V.ref p))).set 1 (some (V.ref dJ)))[3]?=some (some (.ref p)):=by rw[List.getElem?_set_ne (by decide),List.getElem?_set_self (by omega)]
 have ff:upd (upd H p (.lst [.bw gF,.bw bD,.bw b7,.bw ek])) dJ (.tup [.str "refused",.int (-1)]) p=some (.lst [.bw gF,.bw bD,.bw b7,.bw ek]):=by rw[cp ne3,ep]
 have pO:eO K (upd (upd H p (.lst [.bw gF,.bw bD,.bw b7,.bw ek])) dJ (.tup [.str "refused",.int (-1)])) p ([gF,bD,b7,ek].map V.bw):=.inl (.inl ff);refine mU aK (by rw[cp ne2];exact M0) (cv:=.type "ValueError") (λu r=>r) Oh ⟨true,rfl,?_⟩;refine n' ?_;refine⟨_,c_,.inl ⟨rfl,_,pO⟩,p,[gF,bD,b7,ek],rfl,rfl,pO,rfl,⟨true,?_,?_⟩⟩
 ·rw[one];rfl
 ·refine n' ?_
  refine⟨_,c_,.inl ⟨rfl,_,pO⟩,p,[gF,bD,b7,ek],j,rfl,rfl,pO,hit,no,?_⟩
  refine⟨by show 2<=b';decide,λNC XS=>?_⟩
  refine k _ NC _ (g2.trans (kq.laid XS)) ep ?_ ?_
  ·simp[aH]
  ·rw[List.getElem?_set_self (by simp[aH])]
end
section
variable [cB]
abbrev zy(P:c3)(w:cf)(K:a')(mg:Str->Option av)(base:bP)(N:List Str)(qual:Str)(scope:Scope)(q:aq)(cd:av)(cl:List (Str×aq))(A:dk)(outer:List Env)(s:aP)(H:aF)(E:gE):aV:=
 (r1 P w K mg base N qual scope q cd cl A outer s H).jz λe s'=>bE (bN P w) (A.deeper (mL qual scope s.heap.objs.size q cd cl)) (leaving (mL qual scope s.heap.objs.size q cd cl) e) (λ_ pM=>kS P w outer H s E e pM) (λbu pM=>kS P w outer H s E bu pM) s'
section
variable {P:c3}{w:cf}{K:a'}{mg:Str->Option av}{base:bP}{k:Nat}{q cC:aq}{N:List Str}{qual:Str}{scope:Scope}{cl:List (Str×aq)}{A:dk}{outer:List Env}{s:aP}{H:aF}{σ:bB.St}{C:aq}
def agt{params:Arguments}{body:bk}{pm i3:av}{r:fp}{E:gE}(a0:scope.kind=.function)(uz:scope.isCoroutine=false)(uF:scope.isGenerator=false)(mR:∀x∈scope.names,x.2≠.cell)
  (ag:∀(A:dk) (outer:List Env) (s:aP) (H:aF) (E:gE),eN k (A.deeper (mL qual scope s.heap.objs.size q (.ref cC) cl))->CZ (zy P w K mg base N qual scope q (.ref cC) cl A outer s H E) C body r)
  (bd:bindArgs (PySem.W.kla_fn "<lambda>" qual params body scope cl pm (.ref cC) i3) ⟨[],[]⟩=pure [])
  (ax:eN (k+1) A) (bp:qp P w K mg base A outer s H) (aD:H q=some (oc (PySem.W.kla_obj "<lambda>" qual params body scope cl pm cC i3) q)) (au:H cC=some (wF cC qual)) (Sm:ami N scope cl σ H s.heap)
  (h:∃aM iC O F ε,cZ K aM iC O F H ε σ/\r ε=true/\∀aR ak,Ext F H aR ak->E (.ref C) none ak):jb (bN P w) A (.call (.ref q) ⟨[],[]⟩) (oR (kS P w) outer P w H s (λ_ _=>False) E) s:=by
 have Ib:s.heap.NoLimit:=bp.mod.nolimit.keeps λb o e=>(bp.bs b o e).1;refine PySem.W.kla_callFunE ax.depth (bp.bW q _ aD).1 rfl uz uF rfl (bp.bW cC _ au).1 ?_;rw[bd];refine cc (wpAny_newFunctionEnv mR (λx hx=>by cases hx) (λhB n9 xb=>⟨Ib.fresh _ xb,?_⟩) a0);have aQ:∀b o,s.heap.get? b=some o->hB.get? b=some o:=λb o e=>xb.extBut b o (eg (dj e)) (dI _ e);show jb _ _ (.expr body (mL qual scope s.heap.objs.size q (.ref cC) cl)) _ _;refine PySem.W.kla_codeExpr ?_;have S9:Inv (r1 P w K mg base N qual scope q (.ref cC) cl A outer s H) [] σ H {s with heap:=hB,toks:=s.toks+([]:List (Str×av)).length}:=Pe a0 ax.hd bp Sm n9 aQ;have I:Inv (zy P w K mg base N qual scope q (.ref cC) cl A outer s H E) [] σ H {s with heap:=hB,toks:=s.toks+([]:List (Str×av)).length}:=S9.jz _;obtain⟨aM,iC,O,F,ε,ih,jj,mV⟩:=h;refine fA (ag A outer s H E (ax.deeper _) [] _ σ H (λ_ _=>False) I ⟨aM,iC,O,F,ε,ih,jj,λaR ak x ai rJ H1 s1 aE s2 a9 t=>?_⟩) (λu s' aB=>?_) λe s' aB=>aB
 ·exact fA (P4 (X:=zy P w K mg base N qual scope q (.ref cC) cl A outer s H E) (E:=E) (Z:=λ_ _=>False) a9 t (mV aR ak x)) (λ_ _ z=>z) λ_ _ z=>z.elim
 ·obtain⟨_,_,_,_,z⟩:=aB;exact z.elim
end
noncomputable def ala(X:aV)(C:aq)(ak:aF):Prop:=∀(ai:List (aq×Obj)) (σ:bB.St) (H:aF) (s:aP) (e:av) (s':aP),Inv X ai σ H s->Cx X.prog X.w X.stack H s C ak e s'->X.dg e s'
noncomputable def Ki(X:aV)(C:aq)(i:Nat):TE:=λσ H _=>∃q,σ[i]?=some (some (.ref q))/\(∃(o:Obj) (fd:fa),H q=some (oc o q)/\o.data=.func fd) /\
 ∀(ai:List (aq×Obj)) (s:aP),Inv X ai σ H s->jb (bN X.prog X.w) X.A (.call (.ref q) ⟨[],[]⟩) (oR (kS X.prog X.w) X.stack X.prog X.w H s (λ_ _=>False) λcl _ ak=>∃nG,cl=.ref nG/\ala X nG ak) s
def ahn{X:aV}{C:aq}{i:Nat}{x:Str}{p pos:Pos}(bf:b3 X (.Name x p) (m7 i)):b3 X (.Call (.Name x p) [] [] pos) (Ki X C i):=by
 intro ai s σ H Q I ⟨q,aD,⟨o,fd,aT,FX⟩,au⟩;refine s8 (cA (bf ai s σ H (λv H1=>v=.ref q/\H1=H) I ⟨.ref q,aD,rfl,rfl⟩) λv s1 ⟨y,H1,a9,bt,fV,e1⟩=>?_);subst fV;subst e1;cases bt;have cU:PySem.W.FnAt q s1.heap:=by
  have ah:s1.heap.get? q=some o:=(a9.bW q _ aT).1;obtain⟨c,wH,EE,b_⟩:=o;cases FX;exact⟨_,_,_,_,ah⟩
 refine PySem.W.callWith_F0 cU ?_
 refine wpAny_call (s9 (au ai s1 a9) λr s' aD=>?_)
 cases r with
|error e=>
  obtain⟨RS,ak,dF,RT,aK,ok⟩:=aD;cases aK;exact ok ai σ H1 s1 e s' a9 dF
|ok dF=>
  cases dF with
  |ret u=>
   obtain⟨_,_,_,_,_,_,_,z⟩:=aD;exact z.elim
  |next=>exact eX aD
  |brk=>exact eX aD
  |cont=>exact eX aD
noncomputable def B3(X:aV)(C:aq)(j:Nat):fE:=λD σ H=>∃q,σ.length=4/\σ[0]?=some (some (.ref q))/\(∃(o:Obj) (fd:fa),H q=some (oc o q)/\o.data=.func fd)/\∃rI:aF->Prop,
 (∀(ai:List (aq×Obj)) (s:aP),Inv X ai σ H s->jb (bN X.prog X.w) X.A (.call (.ref q) ⟨[],[]⟩) (oR (kS X.prog X.w) X.stack X.prog X.w H s (λ_ _=>False) λcl _ ak=>cl=.ref C/\rI ak) s) /\
 ∀ak,rI ak->∀lO p,kq ak lO->lO p=some (.tup [.str "refused",.int j])->D.ee (.ref p) lO
abbrev aV.bears(X:aV)(dn:List (aq×Obj))(E:av->aP->Prop):aV:={X with dn:=dn,dg:=E}
def agz{X:aV}{ai:List (aq×Obj)}{σ:bB.St}{H:aF}{s:aP}(I:Inv X ai σ H s)(E:av->aP->Prop):Inv (aV.bears X (X.dn++ai) E) [] σ H s:=
 ⟨⟨I.ok.mod,I.ok.kind,I.ok.glob,I.ok.blt,I.ok.above,I.ok.inj,I.ok.has,I.ok.rZ,I.ok.hd,I.ok.frames,I.ok.oq,I.ok.um,I.ok.bs,I.ok.nS,I.ok.sz,I.ok.r3,I.ok.ku,I.ok.pg⟩,I.os,I.bare,I.base,I.loc,I.cell,I.free,I.jk,λp aC=>I.pin p (by simpa using aC),I.bW,I.len⟩
def OX{X:aV}{ai sE:List (aq×Obj)}{σ:bB.St}{H:aF}{s:aP}{E:av->aP->Prop}(ok:X.Ok)(I:Inv (aV.bears X (X.dn++ai) E) sE σ H s):Inv X ai σ H s:=
 ⟨ok,I.os,I.bare,I.base,I.loc,I.cell,I.free,I.jk,λp aC=>I.pin p (List.mem_append_left _ aC),I.bW,I.len⟩
def ahe{X:aV}{C d3 f_ f9 cd bJ:aq}{bs:List Bool}{j:Nat}{body ot:List Stmt}{nT:Stmt}{np pos xa Iz sA:Pos}
  (al2:∀(dn:List (aq×Obj)) (E:av->aP->Prop),fh (aV.bears X dn E) body (sQ (uV (hG (hF (.str "told")) (hG (Ki (aV.bears X dn E) C 0) l_))) (rE 1)))
  (Ge:∀ea,fh (aV.qR X ea) (nT::ot) (Kh X.K C f_ f9 cd bJ)) (cm:Kinds X.K C f_ f9 cd bJ bs j)
  (hm:X.mg "DoorError"=some (.ref d3)) (ah:PySem.W.typeIn X.K (.ref d3)=some (.type "type")) (ao:PySem.W.mroIn X.K d3 (.type "BaseException")=some true) (aY:PySem.W.mroIn X.K C (.ref d3)=some true) (au:(PySem.W.clsIn X.K d3).isSome=true)
  (Ga:b3 X (.Name "_law_found" sA) (m7 1))
  (dA:X.N.Nodup) (hi:X.N[2]?=some ("e":Str)) (hlen:X.N.length=4) (qM:X.env.kindOf "e"=some .local) (ic:X.stack=X.env::X.outer) (hf:X.env.frame=some X.env.locals) (a7:et X "DoorError"):
  fh X [.Try body [.ExceptHandler (some (.Name "DoorError" np)) (some "e") (nT::ot) xa] [] [] pos,.Return (some (.Name "_law_found" sA)) Iz] (B3 X C j):=by
 have X4:iD X (.Try body [.ExceptHandler (some (.Name "DoorError" np)) (some "e") (nT::ot) xa] [] [] pos) (λD σ H=>∃q,σ.length=4/\σ[0]?=some (some (.ref q))/\(∃(o:Obj) (fd:fa),H q=some (oc o q)/\o.data=.func fd)/\∃rI:aF->Prop,
   (∀(ai:List (aq×Obj)) (s:aP),Inv X ai σ H s->jb (bN X.prog X.w) X.A (.call (.ref q) ⟨[],[]⟩) (oR (kS X.prog X.w) X.stack X.prog X.w H s (λ_ _=>False) λcl _ ak=>cl=.ref C/\rI ak) s) /\
   ∀ak,rI ak->∀lO p K1,kq ak lO->lO p=some (.tup [.str "refused",.int j])->K1[1]?=some (some (.ref p))->D.bg K1 lO):=by
  intro ai s σ H D I ⟨q,aH,aD,F7,rI,FU,a0⟩;refine wpAny_Try_except ?_
  let oS:av->aP->Prop:=λe dx=>bE (bN X.prog X.w) X.A (noteFrame e X.env) (λ_ l8=>bE (bN X.prog X.w) X.A (setFlight e none) (λ_ sP=>bE (bN X.prog X.w) X.A (handleBy e X.env [.ExceptHandler (some (.Name "DoorError" np)) (some "e") (nT::ot) xa]) (bB.o3 X ai D) X.dg sP) X.dg l8) X.dg dx
  refine fA (al2 (X.dn++ai) oS [] s σ H {bg:=λ_ _=>False,ee:=λ_ _=>False} (agz I oS) ⟨q,aD,F7,λsE s2 cg=>?_⟩) (λf s1 aB=>?_) λe s1 he=>he
  ·refine s9 (FU (ai) s2 (OX I.ok cg)) λr s' ax=>?_
   cases r with
   |ok dF=>
    cases dF with
    |ret u=>exact ax
    |next=>exact ax
    |brk=>exact ax
    |cont=>exact ax
   |error e=>
    obtain⟨RS,ak,dF,aE,Ij⟩:=ax;cases aE;refine⟨C,ak,dF,C,rfl,λalI iA dO s3 c_ s4 es WK=>?_⟩;have J:=OX I.ok es;have so:iA.length=4:=by rw[J.len,hlen]
    refine ah2 (i:=2) J WK hm ah ao aY au Ge (λea Xn=>ae1 cm (ea:=ea) (by simp[so]) (List.getElem?_set_self (by omega)) ep λlO p bR g aC amj f'=>?_) dA hi qM ic hf a7 (by decide)
    refine a0 ak Ij lO p _ ((kq.laid Xn).trans g) aC ?_
    rw[List.getElem?_set_ne (by decide)];exact f'
  ·cases f with
   |next=>obtain⟨_,_,_,z⟩:=aB;exact eX z
   |brk=>obtain⟨_,_,_,z⟩:=aB;exact eX z
   |cont=>obtain⟨_,_,_,z⟩:=aB;exact eX z
   |ret u=>obtain⟨_,_,_,_,_,z⟩:=aB;exact eX z
 refine vC (tu X4 (tA (B7 Ga))) λD σ H ⟨q,aH,aD,F7,rI,FU,a0⟩=>?_
 exact⟨q,aH,aD,F7,rI,FU,λak Ij lO p K1 g aC f'=>⟨_,f',a0 ak Ij lO p g aC⟩⟩
end
section
noncomputable def Ck(K:a')(d3 f_ f9 cd bJ C:aq)(gF bD b7 ek:Bool):Bool:=
 (PySem.W.clsIn K C).isSome && (xJ K (.ref C) "__getattribute__"==some (some (.builtin "BaseException.__getattribute__"))) && (xJ K (.ref C) "__getattr__"==some none)
 && (xJ K (.ref C) "__class__"==some (some (.builtin "object.__class__"))) && (PySem.W.specialIn K (.builtin "object.__class__") "__get__"==some (some (.builtin "getset_descriptor.__get__")))
 && (PySem.W.takesIn K (.builtin "object.__class__")==some true) && (PySem.W.mroIn K C (.type "object")==some true) && (PySem.W.mroIn K C (.type "BaseException")==some true)
 && (PySem.W.mroIn K C (.ref d3)==some true) && PySem.W.excIn K C DQ "ValueError.__new__"
 && (iO K (.ref C) (.ref f_)==some gF) && (iO K (.ref C) (.ref f9)==some bD) && (iO K (.ref C) (.ref cd)==some b7) && (iO K (.ref C) (.ref bJ)==some ek)
 && (iO K (.ref C) (.type "ValueError")==some true)
def Kw(K:a')(d3:aq):Bool:=(PySem.W.typeIn K (.ref d3)==some (.type "type")) && (PySem.W.mroIn K d3 (.type "BaseException")==some true) && (PySem.W.clsIn K d3).isSome
structure qu(K:a')(d3 f_ f9 cd bJ C:aq)(j:Nat):Prop where
 ok:qq K C
 mro:PySem.W.mroIn K C (.ref d3)=some true
 new:PySem.W.excIn K C DQ "ValueError.__new__"=true
 kinds:∃bs,Kinds K C f_ f9 cd bJ bs j
def aih{K:a'}{d3 f_ f9 cd bJ C:aq}{gF bD b7 ek:Bool}{j:Nat}(h:Ck K d3 f_ f9 cd bJ C gF bD b7 ek=true)(one:[gF,bD,b7,ek].countP id=1)(hit:[gF,bD,b7,ek][j]?=some true)(no:∀m,m<j->[gF,bD,b7,ek][m]?=some false):
  qu K d3 f_ f9 cd bJ C j:=by
 unfold Ck at h;simp only[cX,beq_iff_eq] at h;obtain⟨⟨⟨⟨⟨⟨⟨⟨⟨⟨⟨⟨⟨⟨ah,ao⟩,aY⟩,bZ⟩,ft⟩,jm⟩,qI⟩,r5⟩,MB⟩,WS⟩,WT⟩,WU⟩,WV⟩,WW⟩,WX⟩:=h;exact⟨⟨ah,ao,aY,bZ,ft,jm,qI,r5⟩,MB,WS,_,⟨gF,bD,b7,ek,rfl,WT,WU,WV,WW⟩,WX,one,hit,no⟩
def akA{K:a'}{d3 f_ f9 cd bJ:aq}(h:Ck K d3 f_ f9 cd bJ bJ false false false true=true):qu K d3 f_ f9 cd bJ bJ 3:=aih h rfl rfl λm hm=>by
 match m,hm with
|0,_=>rfl
|1,_=>rfl
|2,_=>rfl
structure rO(K:a')(mg:Str->Option av)(d3 f_ f9 cd bJ:aq):Prop where
 door:mg "DoorError"=some (.ref d3)
 ZW:mg "NoZone"=some (.ref f_)
 nw:mg "NoWay"=some (.ref f9)
 bb:mg "NoDeed"=some (.ref cd)
 Aj:mg "NoText"=some (.ref bJ)
 mU:mg "isinstance"=none
 val:mg "ValueError"=none
 ok:Kw K d3=true
section
variable [cB]{X:aV}{C d3 f_ f9 cd bJ:aq}{j:Nat}{pos p j0:Pos}
def yJ{ht:bk}{c:V}(O:qq X.K C)(z:X.mg "isinstance"=none)(he:b3 X (.Name "e" j0) (m7 2))(au:b3 X ht (hF c))(a7:et X "isinstance":=by rfl)
  (aB:bL [.Name "e" j0,ht] X.env=(false,eval (.Name "e" j0) X.env)::bL [ht] X.env:=by rfl) (fI:bL [ht] X.env=(false,eval ht X.env)::bL [] X.env:=by rfl)
  (hpl:(fl pos (bL [ht] X.env)).any (·.1)=false:=by rfl):
  b3 X (.Call (.Name "isinstance" p) [.Name "e" j0,ht] [] pos) (sR X.K C c):=vo (akh O) a7 z PyProof.Rows.Boot.«isinstance» (fB he (fB au h2 fI) aB) (he:=aB) (hpl:=hpl)
def ajo{body ot:List Stmt}{nT:Stmt}{np pos xa Iz sA:Pos}(N:rO X.K X.mg d3 f_ f9 cd bJ)(R:qu X.K d3 f_ f9 cd bJ C j)
  (al2:∀(dn:List (aq×Obj)) (E:av->aP->Prop),fh (aV.bears X dn E) body (sQ (uV (hG (hF (.str "told")) (hG (Ki (aV.bears X dn E) C 0) l_))) (rE 1)))
  (Ge:∀ea,fh (aV.qR X ea) (nT::ot) (Kh X.K C f_ f9 cd bJ)) (Ga:b3 X (.Name "_law_found" sA) (m7 1))
  (dA:X.N.Nodup) (hi:X.N[2]?=some ("e":Str):=by rfl) (hlen:X.N.length=4:=by rfl) (qM:X.env.kindOf "e"=some .local:=by rfl) (ic:X.stack=X.env::X.outer:=by rfl) (hf:X.env.frame=some X.env.locals:=by rfl) (a7:et X "DoorError":=by rfl):
  fh X [.Try body [.ExceptHandler (some (.Name "DoorError" np)) (some "e") (nT::ot) xa] [] [] pos,.Return (some (.Name "_law_found" sA)) Iz] (B3 X C j):=by
 have ok:=N.ok;unfold Kw at ok;simp only[cX,beq_iff_eq] at ok;obtain⟨⟨ah,ao⟩,aY⟩:=ok;obtain⟨bs,cm⟩:=R.kinds;exact ahe al2 Ge cm N.door ah ao R.mro aY Ga dA hi hlen qM ic hf a7
end
end
section
variable [cB]
mutual
noncomputable def hv:T->T->Option Bool
|.int a,.int b=>some (decide (b<a))
|.tuple xs,.tuple ys=>sr xs ys
|_,_=>none
noncomputable def sr:List T->List T->Option Bool
| [],[]=>some false
| [],_::_=>some false
|_::_,[]=>some true
|x::xs,y::ys=>if kL x y then sr xs ys else hv x y
end
noncomputable def La(A:dk)(s:aP)(y x:av)(b:Bool):Prop:=
 ∀(prog:c3) (w:cf) (E:av->aP->Prop) (Q:av->aP->Prop),Q (.bool b) s->bE (bN prog w) A (richCompare .Gt y x) Q E s
inductive GoodG(A:dk)(s:aP)(fin:Bool):List (av×av)->Bool->Prop
|nil:GoodG A s fin [] fin
|eq {y x:av} {r:List (av×av)} {b:Bool}:SeqAt.EqAt A s y x true->GoodG A s fin r b->GoodG A s fin ((y,x)::r) b
|lt {y x:av} {r:List (av×av)} {b:Bool}:SeqAt.EqAt A s y x false->La A s y x b->GoodG A s fin ((y,x)::r) b
section
open PySem.SeqAt
open PySem.AutoSeq1 (wpAny_loadPart')
open PySem.MeetsSeq PySem.MeetsSeq2 PySem.MeetsSeq3
def aes(l b:aq)(items pE:Array av)(n fK:Nat)(dd lU:Option aq)(b_ hg:Array (Option av))(z:Bool):
  Meets (Builtin.«tuple.__gt__» ⟨[.ref l,.ref b],[]⟩)
   (λA R s=>s.heap.get? l=some {cls:=.type "tuple",dict:=dd,data:=.seq items n,slots:=b_}/\s.heap.get? b=some {cls:=.type "tuple",dict:=lU,data:=.seq pE fK,slots:=hg} /\
    GoodG A.in1 s (decide (pE.size<items.size)) (items.toList.zip pE.toList) z/\R (.ok (.ret (.bool z))) s):=
 .of_wp λprog w A R s h=>by
  obtain⟨aC,g,d,tk,os⟩:=s;obtain⟨aH,ag,a7,h⟩:=h;have f2:=AutoSeq1.sub_tuple_tuple
  wp_walk using wpAny_loadPart' aH,wpAny_loadPart' ag,wpAny_forIn_list _ (λrest b s'=>b.1=none/\s'=⟨aC,g,d,tk,os⟩/\GoodG A.in1 ⟨aC,g,d,tk,os⟩ (decide (pE.size<items.size)) rest z) _
  case turn=>
   rintro⟨y,x⟩ rest b s' ⟨jT,rfl,i5⟩;cases i5 with
   |eq he i5=>
    refine aZ (he prog w _ _ ?_)
    wp_walk
    exact⟨rfl,rfl,i5⟩
   |lt he hA=>
    refine aZ (he prog w _ _ ?_)
    have Gb:=hA prog w
    wp_walk using Gb
    exact⟨_,rfl,h⟩
  case fin=>
   rintro⟨bD,b7⟩ s' ⟨jT,rfl,i5⟩;simp only at jT;subst jT;cases i5
   wp_walk
   exact⟨_,rfl,by simpa [Builtin.Tuple.tupleCompareSizes] using h⟩
  case h=>
   exact⟨rfl,rfl,a7⟩
mutual
theorem ahR:∀(pb db:T) (A:dk) (s:aP) (a b:av) (as bs:List aq) (r:Bool),Reads s.heap a pb as->Reads s.heap b db bs->pb.canLay0=true->db.canLay0=true->A.units+min pb.depth db.depth<cLine->hv pb db=some r->La A s a b r
|.int i,.int j,A,s,_,_,_,_,r,.int _ t,.int _ u,_,_,_,e=>by
  unfold hv at e;cases e;exact λprog w E Q q=>(PyProof.Rows.gt_int q:bE (bN prog w) A (g0 .Gt (.int i t) (.int j u)) Q E s)
|.tuple xs,.tuple ys,A,s,_,_,_,_,r,.tuple (a:=l) (o:=o) (vs:=vs) (n:=n) ah ao aY bZ,.tuple (a:=uH) (o:=o') (vs:=xF) (n:=xk) k1 k2 k3 e9,aA,ag,cM,e=>by
  unfold hv at e;simp only[PyData.canLay0] at aA ag;simp only[jC] at cM;have i5:=goodG_reads xs ys A.in1 s vs.toList xF.toList _ _ r bZ e9 aA ag (room_in cM) e;obtain⟨cls,dd,data,b_⟩:=o;obtain⟨EB,lU,data2,hg⟩:=o';simp only at ao aY k2 k3;subst ao aY k2 k3;rw[q9,q9] at i5;exact λprog w E Q q=>richCompare_meets_room (op:=.Gt) ⟨_,ah,rfl⟩ ⟨_,k1,rfl⟩ PySem.F.slot_tuple_gt PySem.F.entry_tuple_gt (PySem.F.args_tuple_gt_2 _ _) (aes l uH vs xF n xk dd lU b_ hg r)
   ⟨ah,k1,i5,show Value.bool r≠Value.notImplemented/\Q (.bool r) s from ⟨(λx=>nomatch x),q⟩⟩ (by omega)
|.none,_,_,_,_,_,_,_,_,_,_,_,_,_,e=>by simp[hv] at e
|.bool _,_,_,_,_,_,_,_,_,_,_,_,_,_,e=>by simp[hv] at e
|.str _,_,_,_,_,_,_,_,_,_,_,_,_,_,e=>by simp[hv] at e
|.list _,_,_,_,_,_,_,_,_,_,_,_,_,_,e=>by simp[hv] at e
|.dict _,_,_,_,_,_,_,_,_,_,_,_,_,_,e=>by simp[hv] at e
|.int _,.none,_,_,_,_,_,_,_,_,_,_,_,_,e=>by simp[hv] at e
|.int _,.bool _,_,_,_,_,_,_,_,_,_,_,_,_,e=>by simp[hv] at e
|.int _,.str _,_,_,_,_,_,_,_,_,_,_,_,_,e=>by simp[hv] at e
|.int _,.list _,_,_,_,_,_,_,_,_,_,_,_,_,e=>by simp[hv] at e
|.int _,.dict _,_,_,_,_,_,_,_,_,_,_,_,_,e=>by simp[hv] at e
|.int _,.tuple _,_,_,_,_,_,_,_,_,_,_,_,_,e=>by simp[hv] at e
|.tuple _,.none,_,_,_,_,_,_,_,_,_,_,_,_,e=>by simp[hv] at e
|.tuple _,.bool _,_,_,_,_,_,_,_,_,_,_,_,_,e=>by simp[hv] at e
|.tuple _,.str _,_,_,_,_,_,_,_,_,_,_,_,_,e=>by simp[hv] at e
|.tuple _,.list _,_,_,_,_,_,_,_,_,_,_,_,_,e=>by simp[hv] at e
|.tuple _,.dict _,_,_,_,_,_,_,_,_,_,_,_,_,e=>by simp[hv] at e
|.tuple _,.int _,_,_,_,_,_,_,_,_,_,_,_,_,e=>by simp[hv] at e
theorem goodG_reads:∀(xs ys:List T) (A:dk) (s:aP) (vs ws:List av) (as bs:List aq) (r:Bool),ReadsAll s.heap vs xs as->ReadsAll s.heap ws ys bs->jB xs=true->jB ys=true->A.units+min (i' xs) (i' ys)<cLine->sr xs ys=some r->GoodG A s (decide (ws.length<vs.length)) (vs.zip ws) r
| [],[],A,s,_,_,_,_,r,.nil,.nil,_,_,_,e=>by
  unfold sr at e;cases e;exact .nil
| [],_::_,A,s,_,_,_,_,r,.nil,.cons _ _,_,_,_,e=>by
  unfold sr at e;cases e;exact GoodG.nil
|_::_,[],A,s,_,_,_,_,r,.cons _ _,.nil,_,_,_,e=>by
  unfold sr at e;cases e;exact GoodG.nil
|x::xs,y::ys,A,s,_,_,_,_,r,.cons bj cF,.cons a4 bO,aA,ag,cM,e=>by
  simp only[jB,cX] at aA ag;simp only[i'] at cM;unfold sr at e;have he:=eqAt_reads x y A s _ _ _ _ bj a4 aA.1 ag.1 (room_head cM);split at e
  next h=>
   rw[h] at he;have d0:=goodG_reads xs ys A s _ _ _ _ r cF bO aA.2 ag.2 (room_tail cM) e;rw[AU];simp only[fM,Nat.add_lt_add_iff_right];exact .eq he d0
  next h=>
   rw[Bool.not_eq_true] at h;rw[h] at he;rw[AU];exact .lt he (ahR x y A s _ _ _ _ r bj a4 aA.1 ag.1 (room_head cM) e)
end
end
end
end D
end
section
namespace D
open PySem
def kE(bJ:String):T->Bool
|.int _=>bJ=="int"
|.bool _=>bJ=="int" || bJ=="bool"
|.str _=>bJ=="str"
|.tuple _=>bJ=="tuple"
|.list _=>bJ=="list"
|_=>false
def sC(bJ:String):T->Option T
|.dict _=>none
|t=>some (.bool (kE bJ t))
def vN(x:Str):Bool:=x.cps.toList.all λc=>decide (c<128)
def fe(c:Nat):T:=.str ⟨#[c]⟩
def b9(f:a_):iW:=λε=>(f ε).bind λt=>match t with
|.tuple ts=>some ts
|.list ts=>some ts
|.str x=>if vN x then some (x.cps.toList.map fe) else none
|_=>none
def pK(t:T)(lo hi:Option Int):Option T:=match t with
|.str x=>if x.length<=big then some (.str ⟨(cT x.cps.toList lo hi).toArray⟩) else none
|t=>oh t lo hi
def da(f:a_)(lo hi:Ev->Option (Option Int)):a_:=λε=>(f ε).bind λt=>(lo ε).bind λl=>(hi ε).bind λh=>pK t l h
def tR:T->T->Option T
|.str x,.str y=>if y.length=1/\x.length+2<=big then some (.list ((Txt.split x y).map .str)) else none
|_,_=>none
noncomputable def kj:T->T->Option T
|.str x,.list ts=>(strsOf ts).bind λss=>if JoinOk x ss then some (.str (Txt.join x ss)) else none
|.str x,.tuple ts=>(strsOf ts).bind λss=>if JoinOk x ss then some (.str (Txt.join x ss)) else none
|_,_=>none
def Co(i:Int):Bool:=decide (i.natAbs.log2<1920)
def cP(i:Int):Str:=Str.ofString (toString i)
def jv:List T->Option T
| [.str x]=>some (.str x)
| [.int i]=>if Co i then some (.str (cP i)) else none
|_=>none
def pJ:List T->Option T
| [.str x]=>if x.length=1 then some (.int (x.cps.getD 0 0:Nat)) else none
|_=>none
def tQ:T->T->Option T
|.str x,.int i=>if 0<=i/\i<=1000 then some (.str (Txt.zfill x i)) else none
|_,_=>none
def kQ:T->T->Option T
|.int i,.int j=>if i=10/\0<=j/\j<=1000 then some (.int (10 ^ j.toNat)) else none
|_,_=>none
def y0(j:Int):Bool:=decide (0<j) && decide (j.natAbs.log2<8000)
def rD:T->T->Option T
|.int i,.int j=>if y0 j then some (.int (i / j)) else none
|_,_=>none
def bools:List T->Option (List Bool)
| []=>some []
|.bool b::ts=>(bools ts).map λr=>b::r
|_::_=>none
def iU:List T->Option T
| [.list xs]=>(bools xs).map λbs=>.bool (bs.all id)
|_=>none
end D
end
section
namespace D
open PySem PySem.Spec PyProof.Rows bB
section
variable [cB]
structure ame(bJ:String):Prop where
 n:∀K:a',iO K (.type "NoneType") (.type bJ)=some false
 b:∀(K:a') (b:Bool),iO K (.type "bool") (.type bJ)=some (kE bJ (.bool b))
 i:∀(K:a') (i:Int),iO K (.type "int") (.type bJ)=some (kE bJ (.int i))
 s:∀(K:a') (i:Str),iO K (.type "str") (.type bJ)=some (kE bJ (.str i))
 t:∀(K:a') (i:List T),iO K (.type "tuple") (.type bJ)=some (kE bJ (.tuple i))
 l:∀(K:a') (i:List T),iO K (.type "list") (.type bJ)=some (kE bJ (.list i))
def aj5:ame "int":=⟨λ_=>rfl,λ_ _=>rfl,λ_ _=>rfl,λ_ _=>rfl,λ_ _=>rfl,λ_ _=>rfl⟩
def aiM:ame "bool":=⟨λ_=>rfl,λ_ _=>rfl,λ_ _=>rfl,λ_ _=>rfl,λ_ _=>rfl,λ_ _=>rfl⟩
def aj4:ame "str":=⟨λ_=>rfl,λ_ _=>rfl,λ_ _=>rfl,λ_ _=>rfl,λ_ _=>rfl,λ_ _=>rfl⟩
def ahI:ame "tuple":=⟨λ_=>rfl,λ_ _=>rfl,λ_ _=>rfl,λ_ _=>rfl,λ_ _=>rfl,λ_ _=>rfl⟩
section
variable {X:aV}{e:bk}{f:a_}{te:TE}{pos p dJ NC:Pos}{fU:Str}{bJ:String}
def ada(K:a')(bJ:String)(te:TE):TE:=λσ H Q=>te σ H λx H1=>∃(O F:aq->Prop) (t:T),fS K O F H1 t x/\Q (.bw (kE bJ t)) H1
def ajN(qV:ame bJ)(ag:bootBuiltins fU=some (.type bJ))(hm:X.mg "isinstance"=none)(w8:X.mg fU=none)(he:b3 X e te)(a7:et X "isinstance":=by rfl)(uE:et X fU:=by rfl)(bf:fU≠"__name__":=by decide)(ib:(fU==("__debug__":Str))=false:=by decide)
  (aB:bL [e,.Name fU dJ] X.env=(false,eval e X.env)::bL [.Name fU dJ] X.env:=by rfl):
  b3 X (.Call (.Name "isinstance" p) [e,.Name fU dJ] [] pos) (ada X.K bJ te):=by
 intro ai s σ H Q I h;refine s8 (qj I a7 hm (u:=.builtin "isinstance") (by decide +kernel) ?_);refine PyProof.Rows.callWith_builtin1 ?_ aB rfl;rw[aB];show bE _ _ (spliced ((false,eval e X.env)::fl pos (bL [.Name fU dJ] X.env))) _ _ s;refine Calls.spliced_cons (cA (he ai s σ H _ I h) λu s1 ⟨x,H1,a9,bj,a4⟩=>?_);show bE _ _ (spliced ((false,eval (.Name fU dJ) X.env)::[])) _ _ s1;refine Calls.spliced_cons (qj a9 uE w8 ag (Calls.spliced_nil ?_) bf ib);obtain⟨O,F,t,aS,q⟩:=a4;cases t with
|none=>
  rw[aS.eA] at bj;cases bj;exact PySem.W.kia_one PySem.W.kitx_none a9.jY trivial (qV.n _) (λz=>nomatch z) λtk=>⟨.bw _,H1,a9.kept (t':=tk) λ_ _ z=>z,rfl,q⟩
|bool b=>
  rw[aS.bw] at bj;cases bj;exact PySem.W.kia_one PySem.W.kitx_bool a9.jY trivial (qV.b _ b) (λz=>nomatch z) λtk=>⟨.bw _,H1,a9.kept (t':=tk) λ_ _ z=>z,rfl,q⟩
|int i=>
  rw[aS.int] at bj;obtain⟨adD,rfl⟩:=bj;exact PySem.W.kia_one PySem.W.kitx_int a9.jY trivial (qV.i _ i) (λz=>nomatch z) λtk=>⟨.bw _,H1,a9.kept (t':=tk) λ_ _ z=>z,rfl,q⟩
|str i=>
  rw[aS.str] at bj;obtain⟨adD,rfl⟩:=bj;exact PySem.W.kia_one PySem.W.kitx_str a9.jY trivial (qV.s _ i) (λz=>nomatch z) λtk=>⟨.bw _,H1,a9.kept (t':=tk) λ_ _ z=>z,rfl,q⟩
|tuple ts=>
  obtain⟨a,vs,rfl,aB,ax⟩:=aS.tup;cases bj;obtain⟨its,r,aN,aI⟩:=a9.tuple aB;obtain⟨o,ah,ao,_⟩:=aN;exact PySem.W.kia_one PySem.W.kitx_tuple a9.jY ⟨o,ah,ao⟩ (qV.t _ ts) (λz=>nomatch z) λtk=>⟨.bw _,H1,a9.kept (t':=tk) λ_ _ z=>z,rfl,q⟩
|list ts=>
  obtain⟨a,vs,rfl,aB,ax⟩:=aS.lst;cases bj;obtain⟨_,its,n,r,aH,aE⟩:=Inv.uN a9 aB;exact PySem.W.kia_one PySem.W.kitx_list a9.jY ⟨_,aE,rfl⟩ (qV.l _ ts) (λz=>nomatch z) λtk=>⟨.bw _,H1,a9.kept (t':=tk) λ_ _ z=>z,rfl,q⟩
|dict d=>rcases aS with aS|⟨_,_,_,z,_⟩;simp[Rep] at aS;cases z
def Ci(qV:ame bJ)(ag:bootBuiltins fU=some (.type bJ))(hm:X.mg "isinstance"=none)(w8:X.mg fU=none)(aA:dP X e f)(a7:et X "isinstance":=by rfl)(uE:et X fU:=by rfl)(bf:fU≠"__name__":=by decide)(ib:(fU==("__debug__":Str))=false:=by decide)
  (aB:bL [e,.Name fU dJ] X.env=(false,eval e X.env)::bL [.Name fU dJ] X.env:=by rfl):
  cq X (.Call (.Name "isinstance" p) [e,.Name fU dJ] [] pos) (dQ (sC bJ) f):=ec (ajN qV ag hm w8 aA a7 uE bf ib aB) λσ H Q ⟨aM,aO,O,F,ε,t,r,e,k⟩=>by
 simp only[dQ,cW] at e;obtain⟨x,ex,e⟩:=e;have bu:t=.bool (kE bJ x):=by
  cases x <;> first|exact (iN e).symm|cases e
 subst bu;exact⟨aM,aO,O,F,ε,_,r,ex,λv a5 H1 aW aS=>⟨O,a5,x,aS,k _ a5 H1 aW (by simp[Rep])⟩⟩
def akl:bootBuiltins "int"=some (.type "int"):=by decide +kernel
def aja:bootBuiltins "bool"=some (.type "bool"):=by decide +kernel
def akk:bootBuiltins "str"=some (.type "str"):=by decide +kernel
def ah4:bootBuiltins "tuple"=some (.type "tuple"):=by decide +kernel
end
def wc(x:Str):jI:=⟨λi _=>i<x.cps.size,λi H v ak=>ak=H/\∃c,x.cps[i]?=some c/\v=.str ⟨#[c]⟩,λi _=>x.cps.size<=i⟩
def ag4{P:c3}{w:cf}{K:a'}{dr:bk}(x:Str)(t:Tok)(it:aq):Turn P w K dr (wc x) [it] it (λi h=>h.IsStrIter it "str_ascii_iterator" x t i) where
 mem:=by simp
 obj:=λi h st b ag=>by
  have e:b=it:=by simpa using ag
  subst e;obtain⟨o,e,c,d⟩:=st;exact⟨o,e,λv z=>by rw[d] at z;cases z⟩
 keep:=λi h h' st k=>by
  obtain⟨o,e,c,d⟩:=st;exact⟨o,k it (by simp) o e,c,d⟩
 item:=by
  intro X eS hw fu au i ai s σ H E I hf st a7;subst eS hw fu;obtain⟨f0,f1,f2,fW,f4,ez⟩:=hf it (by simp);have hx:x.cps[i]?=some (x.cps[i]'a7):=Array.getElem?_eq_getElem a7;refine wpAny_pyNext_ascii_item st hx λh' j8 lp=>?_;have a9:Inv X ai σ H {s with heap:=h',toks:=s.toks+1}:=I.turned (t':=s.toks+1) (λb o ag e=>(lp.2 b ag).trans e) f0 f1 fW f4 ez;obtain⟨o,e,c,d⟩:=id j8;exact⟨_,rfl,Cr (s:={s with heap:=h',toks:=s.toks+1}) e c d (by decide) ⟨.str _,H,a9,⟨_,rfl⟩,⟨rfl,_,hx,rfl⟩,j8,λb ag=>(hf b ag).1⟩⟩
 done:=by
  intro X eS hw fu au i ai s σ H E I hf st a7;subst eS hw fu;obtain⟨f0,f1,f2,fW,f4,ez⟩:=hf it (by simp);exact wpAny_pyNext_ascii_end (I.ok.hd au) st (Array.getElem?_eq_none a7) λh' hs=>⟨rfl,I.turned (t':=s.toks) (λb o ag e=>hs b o ag e) f0 f1 fW f4 ez⟩
 self:=λ_ _ _ _ _ st h=>wpAny_pyIter_striter_ascii st h
def ah6{x:Str}(h:vN x=true):strIterType x="str_ascii_iterator":=by
 unfold strIterType;rw[if_pos];rw[<- Array.all_toList];exact h
noncomputable def Yl(K:a')(m9:TE):TI:=λσ H R=>m9 σ H λx H1=>(∃a,x=.ref a/\(((∃xs,eO K H1 a xs)/\R (amq K a) H1)\/((∃xs,c8 K H1 a xs)/\R (CP K a) H1)))\/∃z,x=.str z/\vN z=true/\R (wc z) H1
section
variable {X:aV}{dr l:bk}{m9:TE}{f:a_}
def aaT(aH:b3 X l m9):oZ X dr l (Yl X.K m9):=by
 intro ai s σ H R I h;refine cA (aH ai s σ H _ I h) λv s1 ⟨x,H1,a9,bj,q⟩=>?_;have cb:∀b∈[s1.heap.objs.size],my X ai H1 b:=λb ag=>by
  have e:b=s1.heap.objs.size:=by simpa using ag
  subst e;exact a9.uu (eo _) (a9.bW.fresh (eo _))
 rcases q with ⟨a,aE,q⟩|⟨z,aE,aA,q⟩
 ·subst aE;cases bj;rcases q with ⟨⟨xs,aD⟩,q⟩|⟨⟨xs,aD⟩,q⟩
  ·obtain⟨its,cn,p,aI⟩:=a9.list aD;refine wpAny_pyIter_list p.isList ?_;exact⟨s1.heap.objs.size,[s1.heap.objs.size],_,_,H1,rfl,a9.kept (t':=s1.toks) λb o e=>dI _ e,af' a _,⟨_,hJ _ rfl,rfl,rfl⟩,cb,q⟩
  ·obtain⟨its,cn,p,aI⟩:=a9.tuple aD;refine xO (show s1.heap.IsTuple a its.toArray from p) ?_;exact⟨s1.heap.objs.size,[s1.heap.objs.size],_,_,H1,rfl,a9.kept (t':=s1.toks) λb o e=>dI _ e,afs a _,⟨_,hJ _ rfl,rfl,rfl⟩,cb,q⟩
 ·subst aE;obtain⟨t,rfl⟩:=bj;refine wpAny_pyIter_strU ?_;rw[ah6 aA];exact⟨s1.heap.objs.size,[s1.heap.objs.size],_,_,H1,rfl,a9.kept (t':=s1.toks) λb o e=>dI _ e,ag4 z t _,⟨_,hJ _ rfl,rfl,rfl⟩,cb,q⟩
def ahK{K:a'}{a5:aq->Prop}{H1:aF}(x:Str):nI K (wc x) a5 H1 (x.cps.toList.map fe) where
 go:=λi F H t aQ d e=>by
  have h:=(gy.mp e).1;simpa [wc] using h
 lC:=λi F H t v ak aQ d e y=>by
  obtain⟨rfl,c,au,rfl⟩:=y;refine⟨F,Ext.refl d,?_⟩;rw[alZ,Array.getElem?_toList,au] at e;cases e;simp[Rep,fe]
 stop:=λi F H aQ aH=>by
  simpa [wc] using aH
def alV(aH:cq X l f):nL X dr l (b9 f):=yQ (aaT aH) λσ H R ⟨aM,aO,O,F,ε,ts,r,e,k⟩=>by
 simp only[b9,cW] at e;obtain⟨t,cw,e⟩:=e;split at e
 ·cases e
  refine⟨aM,aO,O,F,ε,_,r,cw,λv aR ak x q=>?_⟩
  simp only[Rep] at q;obtain⟨a,vs,rfl,aB,ax⟩:=q;exact .inl ⟨a,rfl,.inr ⟨⟨vs,aB⟩,k _ aR ak x (ahJ aB ax)⟩⟩
 ·cases e
  refine⟨aM,aO,O,F,ε,_,r,cw,λv aR ak x q=>?_⟩
  simp only[Rep] at q;obtain⟨a,vs,rfl,cU,aB,ax⟩:=q;exact .inl ⟨a,rfl,.inl ⟨⟨vs,.inl aB⟩,k _ aR ak x (agx cU aB ax)⟩⟩
 ·split at e
  next aA=>
   cases e
   refine⟨aM,aO,O,F,ε,_,r,cw,λv aR ak x q=>?_⟩
   simp only[Rep] at q;subst q;exact .inr ⟨_,rfl,aA,k _ aR ak x (ahK _)⟩
  next=>cases e
 ·cases e
end
end
section
variable [cB]
def yE(n d:Nat)(hd:d<=n)(o:Option Int):D.bI n d o<=n:=by
 cases o with
|none=>exact hd
|some v=>
  simp only[D.bI];split <;> omega
def ajs(lo hi:Option Int)(n:Nat):Builtin.Str.strSliceIndices lo hi 1 n=sliceRange ((D.bI n 0 lo:Nat):Int) ((D.bI n n hi:Nat):Int) 1:=by
 unfold Builtin.Str.strSliceIndices;have ah:∀(o:Option Int) (d:Nat),(match o with|none=>(d:Int)|some i=>(if (1:Int) > 0 then max 0 (min (if i<0 then i+(n:Int) else i) n) else max (-1) (min (if i<0 then i+(n:Int) else i) ((n:Int) - 1))))=((D.bI n d o:Nat):Int):=by
  intro o d;cases o with
  |none=>rfl
  |some v=>
   simp only[D.bI];rw[if_pos (by decide)];split <;> omega
 have aE:=ah lo 0;have aK:=ah hi n;dsimp only;rw[if_pos (show (1:Int) > 0 by decide)] at *;rw[if_pos (show (1:Int) > 0 by decide)];exact congrFun (congr (congrArg sliceRange aE) aK) 1
def ag7{α:Type}(l:List α)(lo hi:Option Int):(Builtin.Str.strSliceIndices lo hi 1 l.length).filterMap (λk=>l[k]?)=cT l lo hi/\(Builtin.Str.strSliceIndices lo hi 1 l.length).length=(cT l lo hi).length:=by
 rw[ajs];have aA:=yE l.length 0 (ow _) lo;have ag:=yE l.length l.length (eo _) hi;unfold cT;generalize D.bI l.length 0 lo=a at *;generalize D.bI l.length l.length hi=b at *;have e:sliceRange (a:Int) (b:Int) 1=(List.range (b - a)).map λk=>a+k:=by
  unfold sliceRange;have ht:((if (1:Int) > 0 then (if (a:Int)<(b:Int) then ((b:Int) - (a:Int)+1 - 1) / 1 else 0) else (if (a:Int) > (b:Int) then ((a:Int) - (b:Int) - 1 - 1) / (-1) else 0)):Int).toNat=b - a:=by
   rw[if_pos (by decide)];split <;> omega
  dsimp only;rw[ht];congr 1;funext k;omega
 rw[e];by_cases alq:a<=b
 ·exact⟨StrLaws.picks l (b - a) a (by omega),by simp;omega⟩
 ·have z:b - a=0:=by omega
  rw[z];simp
def abR:V->Option Int->Option Int->aF->di->Prop:=λx lo hi H Q=>∃z,x=.str z/\z.length<=b'/\Q (.str ⟨(cT z.cps.toList lo hi).toArray⟩) H
section
variable {X:aV}{a b e:bk}{ar:List bk}{f g h:a_}{a6:List a_}{pos p dJ apos eQ:Pos}
def agK{α:Type}(l:List α)(lo hi:Option Int)(h:(cT l lo hi).length=l.length):cT l lo hi=l:=by
 unfold cT at h ⊢;have aA:=yE l.length 0 (ow _) lo;generalize D.bI l.length 0 lo=a at *;generalize D.bI l.length l.length hi=b at *;rw[List.length_take,List.length_drop] at h;cases l with
|nil=>simp
|cons c r=>
  have:a=0:=by simp only[fM] at *;omega
  subst this;rw[List.drop_zero,List.take_of_length_le (by simp only[fM] at *;omega)]
def ajt:o4 X abR:=by
 intro ai s σ H x v gL e_ lo hi b_ Q I aS aB c1 pu h;obtain⟨z,rfl,alH,q⟩:=h;obtain⟨t,rfl⟩:=aS;refine⟨"str",_,slot_str_getitem.lookup,typeIs_str s z t,?_⟩;obtain⟨ah,ao⟩:=ag7 z.cps.toList lo hi;have hlen:z.length=z.cps.toList.length:=by simp[Str.length]
 have key:∀l u:Option (Int×Tok),l.map (·.1)=lo->u.map (·.1)=hi->Made.post (sliceMade z t l u none) (hp X ai σ Q) s:=by
  intro l u n0 la;unfold sliceMade slicePicked;rw[n0,la];dsimp only[Option.map_none,Option.getD_none];rw[hlen];split
  next hw=>
   have X_:(cT z.cps.toList lo hi).length=z.cps.toList.length:=by
    rw[<- ao];simpa using hw
   refine⟨.str z,H,I,⟨t,rfl⟩,?_⟩
   have:=agK _ _ _ X_;rw[this] at q;simpa using q
  next=>
   have e:(List.filterMap (λk=>z.cps[k]?) (Builtin.Str.strSliceIndices lo hi 1 z.cps.toList.length))=cT z.cps.toList lo hi:=by
    rw[<- ah];congr 1;funext k;simp
   rw[e];refine⟨?_,⟨.str _,H,I.tok _,⟨_,rfl⟩,q⟩⟩;show (cT z.cps.toList lo hi).toArray.size<=b';have:(cT z.cps.toList lo hi).length<=z.cps.toList.length:=by
    unfold cT;rw[List.length_take,List.length_drop];omega
   rw[eE];omega
 obtain⟨o,aT,au,hd⟩:=aB;cases c1 with
|none=>
  cases pu with
  |none=>exact wpAny_getItem_str_slice (l:=none) (u:=none) (st:=none) ⟨o,aT,au,hd⟩ rfl (key _ _ rfl rfl)
  |int c6 fk=>exact wpAny_getItem_str_slice (l:=none) (u:=some (c6,fk)) (st:=none) ⟨o,aT,au,hd⟩ rfl (key _ _ rfl rfl)
|int c5 t1=>
  cases pu with
  |none=>exact wpAny_getItem_str_slice (l:=some (c5,t1)) (u:=none) (st:=none) ⟨o,aT,au,hd⟩ rfl (key _ _ rfl rfl)
  |int c6 fk=>exact wpAny_getItem_str_slice (l:=some (c5,t1)) (u:=some (c6,fk)) (st:=none) ⟨o,aT,au,hd⟩ rfl (key _ _ rfl rfl)
def gh{lo hi:Option bk}{dF wN:Ev->Option (Option Int)}(aA:dP X e f)(aH:lP X lo (uU X.K dF))(cM:lP X hi (uU X.K wN)):cq X (.Subscript e (.Slice lo hi none dJ) pos) (da f dF wN):=ec (Qc (((QP.or P8).or Qs).or ajt) aA aH cM) λσ H Q ⟨aM,aO,O,F,ε,t,r,e,k⟩=>by
 simp only[da,cW] at e;obtain⟨x,ex,l,n0,h,e1,e⟩:=e;refine⟨aM,aO,O,F,ε,x,r,ex,λv a5 H1 aW aS=>⟨aM,aO,O,a5,ε,l,r.ext aW,n0,λdh bo bF=>⟨aM,aO,O,dh,ε,h,(r.ext aW).ext bF,e1,λh3 dO e'=>?_⟩⟩⟩;have q5:=bF.trans e';have mb:=aW.trans q5;unfold pK at e;split at e
 ·split at e
  next aI=>
   cases e
   rw[(aS.ext q5).str];exact .inr ⟨_,rfl,by rw[ki];exact aI,k _ h3 dO mb (by simp[Rep])⟩
  next=>cases e
 unfold oh at e;split at e
 ·cases e
  obtain⟨a,vs,rfl,aB,ax⟩:=(aS.ext q5).tup;by_cases hw:eM.bI vs.length 0 l=0/\eM.bI vs.length vs.length h=vs.length
  ·refine .inl (.inl (.inr ⟨a,vs,rfl,aB,hw,k _ h3 dO mb ?_⟩))
   simp only[Rep];refine⟨a,vs,rfl,aB,?_⟩;have:=vn ax l h;unfold ks at this;rw[hw.1,hw.2,List.drop_zero,Nat.sub_zero,List.take_length] at this;exact this
  ·refine .inl (.inl (.inl ⟨a,vs,rfl,aB,hw,λq aD=>?_⟩))
   have hI:=Ext.laid (o:=.tup (ks vs l h)) mb.cK aD;refine k _ h3 _ (mb.trans hI) ?_;simp only[Rep];exact⟨q,_,rfl,c8.of ep,(vn ax l h).ext hI⟩
 ·cases e
  obtain⟨a,vs,rfl,aB,ax⟩:=(aS.ext q5).lst;refine .inl (.inr ⟨a,vs,rfl,.inl aB,λq aD=>?_⟩);have hI:=Ext.uI (o:=.lst (ks vs l h)) mb.cK aD;refine k _ _ _ (mb.trans hI) ?_;simp only[Rep];exact⟨q,_,rfl,.inr rfl,.inl ep,(vn ax l h).ext hI⟩
 ·cases e
end
end
section
variable [cB]
def lQ(K:a')(b:Bool)(H:aF)(a:aq)(xs:List V):Prop:=match b with
|true=>eO K H a xs
|false=>c8 K H a xs
def wi(K:a')(F:aq->Prop)(H:aF)(b:Bool)(a:aq)(xs:List V):Prop:=match b with
|true=>F a/\f5 H a (.lst xs)
|false=>c8 K H a xs
def wi.aQ{K:a'}{F a5:aq->Prop}{H H1:aF}{b:Bool}{a:aq}{xs:List V}(h:wi K F H b a xs)(k:d9 K F H a5 H1):lQ K b H1 a xs:=by
 cases b with
|true=>exact .inl (k.lst _ _ h.1 h.2).2
|false=>exact k.tup _ _ h
def Inv.uS{X:aV}{ai:List (aq×Obj)}{σ:bB.St}{H:aF}{s:aP}{b:Bool}{a:aq}{xs:List V}(I:Inv X ai σ H s)(h:lQ X.K b H a xs):∃its:List av,Vals xs its/\iL b s.heap a its.toArray/\xs.length<=b':=by
 cases b with
|true=>
  obtain⟨its,r,p,z⟩:=I.list h;exact⟨its,r,p.isList,z⟩
|false=>exact I.tuple h
def Inv.N0{X:aV}{ai:List (aq×Obj)}{σ:bB.St}{H:aF}{s:aP}{b:Bool}{a:aq}{xs ys:List V}(I:Inv X ai σ H s)(h:lQ X.K b H a xs)(h':lQ X.K b H a ys):xs=ys:=by
 cases b with
|true=>exact I.HX h h'
|false=>exact I.IE h h'
noncomputable def CQ(K:a')(bD b7:Bool)(a b:aq)(n m:Nat):jI:=
 ⟨λi H=>∃xs x ys y,lQ K bD H a xs/\xs[i]?=some x/\lQ K b7 H b ys/\ys[i]?=some y/\xs.length=n/\ys.length=m,
  λi H x ak=>∃p u v,H p=none/\x=.ref p/\ak=upd H p (.tup [u,v])/\(∀xs,lQ K bD H a xs->xs[i]?=some u)/\∀ys,lQ K b7 H b ys->ys[i]?=some v,
  λi H=>∃xs ys,lQ K bD H a xs/\lQ K b7 H b ys/\xs.length=n/\ys.length=m/\(n<=i\/m<=i)⟩
noncomputable def To(bD b7:Bool)(z TI dm c5 c6 cV cN:aq)(n m i:Nat)(h:bP):Prop:=i0 h z TI dm .none (.bool false)/\IsPair h TI (.ref c5) (.ref c6)/\(∃a b,IsPair h dm a b)/\jX bD h c5 cV i/\jX b7 h c6 cN i/\i<=n/\i<=m
def af_{bD b7:Bool}{P:c3}{w:cf}{K:a'}{ar:List bk}{k:Nat}{pos:Pos}{z TI dm c5 c6 cV cN:aq}{n m:Nat}(D:ZipApart z TI dm c5 c6 cV cN):Turn P w K (.Tuple ar k pos) (CQ K bD b7 cV cN n m) [z,TI,dm,c5,c6] z (To bD b7 z TI dm c5 c6 cV cN n m) where
 mem:=by simp
 obj:=λi h st b ag=>by
  obtain⟨aI,jS,⟨a,c,ky⟩,ah,ao,_⟩:=st;simp only[bC,de,or_false] at ag;rcases ag with rfl|rfl|rfl|rfl|rfl
  ·exact⟨_,aI,λv q=>by cases (show Data.fields _=Data.cell v from q)⟩
  ·exact⟨_,jS,λv q=>by cases (show Data.seq _ _=Data.cell v from q)⟩
  ·exact⟨_,ky,λv q=>by cases (show Data.seq _ _=Data.cell v from q)⟩
  ·exact ah.obj
  ·exact ao.obj
 keep:=λi h h' st cm=>by
  obtain⟨aI,jS,⟨a,c,ky⟩,ah,ao,bf⟩:=st;exact⟨cm z (by simp) _ aI,cm TI (by simp) _ jS,⟨a,c,cm dm (by simp) _ ky⟩,ah.at λo q=>cm c5 (by simp) o q,ao.at λo q=>cm c6 (by simp) o q,bf⟩
 item:=by
  intro X eS hw fu au i ai s σ H E I hf st a7;subst eS hw fu;obtain⟨xs,x,ys,y,n_,hx,pw,b1,bf,hm⟩:=a7;obtain⟨its,cn,j0,_⟩:=Inv.uS I n_;obtain⟨jq,xy,dJ,_⟩:=Inv.uS I pw;obtain⟨u,cM,e3⟩:=cn.get hx;obtain⟨v,ba,abX⟩:=xy.get b1;obtain⟨aI,jS,⟨a,c,ky⟩,ah,ao,F1,Xv⟩:=st;have hi:i<its.toArray.size:=by
   rw[eE];exact (gy.mp cM).1
  have cS:i<jq.toArray.size:=by
   rw[eE];exact (gy.mp ba).1
  have XC:=cn.length;have XD:=xy.length;have gs:s.TypeIs (.ref z) "zip":=⟨_,aI,rfl⟩;have yT:z<s.heap.objs.size:=dj aI;have Tn:dm<s.heap.objs.size:=dj ky;have Tj:TI<s.heap.objs.size:=dj jS;have Yj:c5<s.heap.objs.size:=by obtain⟨o,e,_⟩:=ah.obj;exact dj e
  have Yk:c6<s.heap.objs.size:=by obtain⟨o,e,_⟩:=ao.obj;exact dj e
  have c4:=I.ok.hd au;unfold pyNext;refine aZ (wpAny_attempt (pU (name:=Str.ofString "__next__") gs F.slot_zip_next (pV F.slot_zip_next gs F.entry_zip_next ?_ (F.args_zip_next_1 _))));refine ag0 (nM:=λi h=>jX bD h c5 cV i/\iL bD h cV its.toArray) (nN:=λi h=>jX b7 h c6 cN i/\iL b7 h cN jq.toArray) D (BW (A:=X.A.in1) bD c4 c5 cV D.l1i1 its.toArray) (BW (A:=X.A.in1) b7 c4 c6 cN D.l2i2 jq.toArray) aI jS ky ⟨ah,j0⟩ ⟨ao,dJ⟩ hi cS λh' jA IK tk iK py pB W' s1 s2 aC kD aQ=>cc ?_;have ex:jA=u:=by
   rw[<- Array.getElem?_toList,show (its.toArray).toList=its from rfl,cM] at iK;exact (iN iK).symm
  have fV:IK=v:=by
   rw[<- Array.getElem?_toList,show (jq.toArray).toList=jq from rfl,ba] at py;exact (iN py).symm
  subst ex fV;refine⟨_,rfl,wpAny_letOwnedTupleGo_zip pB λgb Gh fI=>?_⟩;have k2:∀b o,b≠z->b≠dm->b≠c5->b≠c6->s.heap.get? b=some o->gb.get? b=some o:=λb o bD b7 ek k4 q=>fI.extBut b o bD (aQ b o bD b7 ek k4 q);have fr:H s.heap.objs.size=none:=I.bW.fresh (eo _);have r7:gb.get? s.heap.objs.size=some {cls:=.type "tuple",data:=.seq #[jA,IK]}:=fI.extBut _ _ (sY yT) aC;obtain⟨q',g6,fb,oC,IM,IQ⟩:=hf z (by simp);obtain⟨o0,d1,eB,Ic,Ie,Ig⟩:=hf dm (by simp);obtain⟨f0,f1,f2,fW,f4,ez⟩:=hf c5 (by simp);obtain⟨jR,g1,g2,g3,lg,kv⟩:=hf c6 (by simp);obtain⟨t0,_⟩:=hf TI (by simp);have mW:∀b o,H b=some o->b≠z/\b≠dm/\b≠c5/\b≠c6:=λb o q=>⟨λe=>(by rw[e,q'] at q;cases q),λe=>(by rw[e,o0] at q;cases q),λe=>(by rw[e,f0] at q;cases q),λe=>(by rw[e,jR] at q;cases q)⟩;have k3:∀b o,b∉[z,dm,c5,c6]->s.heap.get? b=some o->gb.get? b=some o:=λb o ag q=>by
   simp only[bC,de,or_false,not_or] at ag;exact k2 b o ag.1 ag.2.1 ag.2.2.1 ag.2.2.2 q
  have xl:∀b o,H b=some o->b∉[z,dm,c5,c6]:=λb o q=>by
   simp only[bC,de,or_false,not_or];exact mW b o q
  have se:eZ X.prog X.w (upd H s.heap.objs.size (.tup [x,y])) gb:=by
   intro b o q;by_cases ag:b=s.heap.objs.size
   ·subst ag;rw[ep] at q;cases q;exact⟨by show 2<=b';decide,[jA,IK],.cons e3 (.cons abX .nil),⟨_,r7,rfl,_,rfl⟩⟩
   ·rw[cp ag] at q;refine (I.bW b o q).kJ (λc v cj d5=>k3 c v ?_ d5) (λc d5=>?_) λc ys d5=>?_
    ·rcases cj with rfl|cj
     ·exact xl _ _ q
     ·exact xl _ _ cj
    ·rw[cp (gB d5 fr)];exact d5
    ·rw[cp (gB d5 fr)];exact d5
  have cg:bB.Inv X ai σ (upd H s.heap.objs.size (.tup [x,y])) {s with heap:=gb,toks:=tk}:=by
   refine I.step (g':=s.gens) (d':=s.drawn) (ch:=[z,dm,c5,c6]) (λb ag=>?_) (λb o _ _ cj q _=>k3 b o cj q) (λb o _ _ cj q _=>⟨o.slots,k3 b o cj q⟩) (λb o _ q n=>?_)
    (λb o cj q=>⟨o,k3 b o cj q⟩) (λb ys q=>by rw[cp (gB q fr)];exact q) (λb o u q=>by rw[cp (gB q fr)];exact q) (λb ps q=>⟨#[],by rw[cp (gB q fr),q];simp⟩) (λm hm=>?_) se I.bare
   ·simp only[bC,de,or_false] at ag;rcases ag with rfl|rfl|rfl|rfl
    ·exact⟨oC,g6,IM,IQ⟩
    ·exact⟨Ic,d1,Ie,Ig⟩
    ·exact⟨fW,f1,f4,ez⟩
    ·exact⟨g3,g1,lg,kv⟩
   ·rw[cp (eg (dj q))];exact n
   ·obtain⟨o,mM,cL,e8,r⟩:=hm;exact⟨o,mM,cL,k2 _ o (Ne.symm g6) (Ne.symm d1) (Ne.symm f1) (Ne.symm g1) e8,r⟩
  refine⟨.ref s.heap.objs.size,_,cg,rfl,⟨s.heap.objs.size,x,y,fr,rfl,rfl,λws hw=>by rw[Inv.N0 I hw n_];exact hx,λws hw=>by rw[Inv.N0 I hw pw];exact b1⟩,⟨Gh,fI.extBut _ _ D.TIz (aQ _ _ D.TIz D.TITO D.TIi1 D.TIi2 jS),⟨_,_,fI.extBut _ _ D.TOz W'⟩,s1.1.at λo q=>fI.extBut _ _ D.i1z q,s2.1.at λo q=>fI.extBut _ _ D.i2z q,?_,?_⟩,λb ag=>?_⟩
  ·rw[eE] at hi;omega
  ·rw[eE] at cS;omega
  ·simp only[bC,de,or_false] at ag;rcases ag with rfl|rfl|rfl|rfl|rfl
   ·rw[cp (eg yT)];exact q'
   ·rw[cp (eg Tj)];exact t0
   ·rw[cp (eg Tn)];exact o0
   ·rw[cp (eg Yj)];exact f0
   ·rw[cp (eg Yk)];exact jR
 done:=by
  intro X eS hw fu au i ai s σ H E I hf st a7;subst eS hw fu;obtain⟨xs,ys,n_,pw,bf,hm,aB⟩:=a7;obtain⟨its,cn,j0,_⟩:=Inv.uS I n_;obtain⟨jq,xy,dJ,_⟩:=Inv.uS I pw;obtain⟨aI,jS,⟨a,c,ky⟩,ah,ao,F1,Xv⟩:=st;have XC:=cn.length;have XD:=xy.length;have gs:s.TypeIs (.ref z) "zip":=⟨_,aI,rfl⟩;have c4:=I.ok.hd au;have a0:i=its.toArray.size\/(i<its.toArray.size/\i=jq.toArray.size):=by
   rw[eE,eE];omega
  unfold pyNext;refine aZ (wpAny_attempt (pU (name:=Str.ofString "__next__") gs F.slot_zip_next (pV F.slot_zip_next gs F.entry_zip_next ?_ (F.args_zip_next_1 _))));refine agZ (nM:=λi h=>jX bD h c5 cV i/\iL bD h cV its.toArray) (nN:=λi h=>jX b7 h c6 cN i/\iL b7 h cN jq.toArray) D (BW (A:=X.A.in1) bD c4 c5 cV D.l1i1 its.toArray) (BW (A:=X.A.in1) b7 c4 c6 cN D.l2i2 jq.toArray) aI jS ky ⟨ah,j0⟩ ⟨ao,dJ⟩ a0 λh' e tk aQ he=>?_;obtain⟨o,aT,cj⟩:=he;refine aZ (wpAny_isInstance (T:="StopIteration") (b:=true) ⟨o,aT,cj⟩ isSubtype_stop (cc ⟨rfl,?_⟩));obtain⟨q',g6,fb,oC,IM,IQ⟩:=hf z (by simp);obtain⟨o0,d1,eB,Ic,Ie,Ig⟩:=hf dm (by simp);obtain⟨f0,f1,f2,fW,f4,ez⟩:=hf c5 (by simp);obtain⟨jR,g1,g2,g3,lg,kv⟩:=hf c6 (by simp);have k3:∀b o,b∉[z,dm,c5,c6]->s.heap.get? b=some o->h'.get? b=some o:=λb o ag q=>by
   simp only[bC,de,or_false,not_or] at ag;exact aQ b o ag.1 ag.2.1 ag.2.2.1 ag.2.2.2 q
  have xl:∀b o,H b=some o->b∉[z,dm,c5,c6]:=λb o q=>by
   simp only[bC,de,or_false,not_or];exact⟨λe=>(by rw[e,q'] at q;cases q),λe=>(by rw[e,o0] at q;cases q),λe=>(by rw[e,f0] at q;cases q),λe=>(by rw[e,jR] at q;cases q)⟩
  have se:eZ X.prog X.w H h':=by
   intro b o q;refine (I.bW b o q).kJ (λc v cj d5=>k3 c v ?_ d5) (λc d5=>d5) λc ys d5=>d5;rcases cj with rfl|cj
   ·exact xl _ _ q
   ·exact xl _ _ cj
  refine I.step (g':=s.gens) (d':=s.drawn) (ch:=[z,dm,c5,c6]) (λb ag=>?_) (λb o _ _ cj q _=>k3 b o cj q) (λb o _ _ cj q _=>⟨o.slots,k3 b o cj q⟩) (λb o _ q n=>n)
    (λb o cj q=>⟨o,k3 b o cj q⟩) (λb ys q=>q) (λb o u q=>q) (λb ps q=>⟨#[],by rw[q];simp⟩) (λm hm=>?_) se I.bare
  ·simp only[bC,de,or_false] at ag;rcases ag with rfl|rfl|rfl|rfl
   ·exact⟨oC,g6,IM,IQ⟩
   ·exact⟨Ic,d1,Ie,Ig⟩
   ·exact⟨fW,f1,f4,ez⟩
   ·exact⟨g3,g1,lg,kv⟩
  ·obtain⟨o,mM,cL,e8,r⟩:=hm;exact⟨o,mM,cL,aQ _ o (Ne.symm g6) (Ne.symm d1) (Ne.symm f1) (Ne.symm g1) e8,r⟩
 self:=λ_ _ _ _ _ st h=>wpAny_pyIter_zip (f0:=.none) st.1 h
def Yo(K:a')(cD:fT):TI:=λσ H R=>cD σ H λvs H1=>∃bD b7 a b xs ys,vs=[.ref a,.ref b]/\lQ K bD H1 a xs/\lQ K b7 H1 b ys/\R (CQ K bD b7 a b xs.length ys.length) H1
section
variable {X:aV}{ar:List bk}{k:Nat}{p pos dJ:Pos}{a b:bk}{f g:a_}
def aio{cD:fT}(a7:et X "zip")(hm:X.mg "zip"=none)(aA:gm X [a,b] cD)(aB:bL [a,b] X.env=(false,eval a X.env)::bL [b] X.env)(hpl:(fl pos (bL [b] X.env)).any (·.1)=false):oZ X (.Tuple ar k dJ) (.Call (.Name "zip" p) [a,b] [] pos) (Yo X.K cD):=by
 intro ai s σ H R I h;refine Call_ (qj I a7 hm PyProof.Rows.boot_zip (xK (cA (aA pos ai s σ H _ I h) λus s1 ⟨vs,H1,a9,bj,a4⟩=>?_) aB hpl));obtain⟨bD,b7,cV,cN,xs,ys,rfl,n_,pw,q⟩:=a4;obtain⟨Oe,AM,rfl,aE,aK⟩:=bj.two;cases aE;cases aK;obtain⟨its,cn,k1,_⟩:=Inv.uS a9 n_;obtain⟨jq,xy,k2,_⟩:=Inv.uS a9 pw;refine agO k1 k2 λh' M5 jS ky zU zV kD a0=>wpAny_pyIter_zip (f0:=.none) M5 ?_;refine⟨s1.heap.objs.size+4,[s1.heap.objs.size+4,s1.heap.objs.size+2,s1.heap.objs.size+3,s1.heap.objs.size,s1.heap.objs.size+1],_,_,H1,rfl,a9.kept (t':=s1.toks) a0,af_ (ae0 k1.lt k2.lt),⟨M5,jS,⟨_,_,ky⟩,zU,zV,ow _,ow _⟩,λb ag=>?_,q⟩;have jT:s1.heap.objs.size<=b:=by
  simp only[bC,de,or_false] at ag;rcases ag with rfl|rfl|rfl|rfl|rfl
  ·exact g4 _ _
  ·exact g4 _ _
  ·exact g4 _ _
  ·exact eo _
  ·exact g4 _ _
 exact a9.uu jT (a9.bW.fresh jT)
def agw{bD b7:Bool}{K:a'}{a b:aq}{a5:aq->Prop}{H1:aF}{ts us:List T}{vs ws:List V}(ax:wi K a5 H1 bD a vs)(q:bl K a5 H1 ts vs)(px:wi K a5 H1 b7 b ws)(bO:bl K a5 H1 us ws):nI K (CQ K bD b7 a b vs.length ws.length) a5 H1 (yS ts us) where
 go:=λi F H t aQ d e=>by
  have hi:=(gy.mp e).1;simp only[yS,List.length_zipWith] at hi;obtain⟨v,ah,_⟩:=q.get (hK (show i<ts.length by omega));obtain⟨v2,ao,_⟩:=bO.get (hK (show i<us.length by omega));exact⟨vs,v,ws,v2,ax.aQ aQ,ah,px.aQ aQ,ao,rfl,rfl⟩
 lC:=λi F H t x ak aQ d e y=>by
  obtain⟨p,v,v2,aC,rfl,rfl,pR,pT⟩:=y;have hi:=(gy.mp e).1;simp only[yS,List.length_zipWith] at hi;have zU:i<ts.length:=by omega
  have zV:i<us.length:=by omega
  obtain⟨lu,ah,ao⟩:=(q.aQ aQ).get (hK zU);obtain⟨alT,aY,bZ⟩:=(bO.aQ aQ).get (hK zV);have ft:=pR vs (ax.aQ aQ);rw[ah] at ft;cases ft;have jm:=pT ws (px.aQ aQ);rw[aY] at jm;cases jm;have aW:=Ext.laid (o:=.tup [v,v2]) d aC;refine⟨F,aW,?_⟩;have cw:t=.tuple [ts[i],us[i]]:=by
   rw[yS,List.getElem?_zipWith,hK zU,hK zV] at e;exact (iN e).symm
  subst cw;simp only[Rep];exact⟨p,_,rfl,c8.of ep,bl.cons (ao.ext aW) (bl.cons (bZ.ext aW) bl.nil)⟩
 stop:=λi F H aQ aH=>⟨vs,ws,ax.aQ aQ,px.aQ aQ,rfl,rfl,by
  simp only[yS,List.length_zipWith] at aH;rw[<- q.length,<- bO.length];omega⟩
def QN{K:a'}{F:aq->Prop}{H:aF}{t:T}{ts:List T}{v:V}(h:(match t with|.tuple ts=>some ts|.list ts=>some ts|_=>(none:Option (List T)))=some ts)(q:Rep K F H t v):∃b a vs,v=.ref a/\wi K F H b a vs/\bl K F H ts vs:=by
 split at h
 ·cases h
  simp only[Rep] at q;obtain⟨a,vs,rfl,aB,ax⟩:=q;exact⟨false,a,vs,rfl,aB,ax⟩
 ·cases h
  simp only[Rep] at q;obtain⟨a,vs,rfl,f,aB,ax⟩:=q;exact⟨true,a,vs,rfl,⟨f,aB⟩,ax⟩
 ·cases h
def akb(hm:X.mg "zip"=none)(aA:cq X a f)(ag:cq X b g)(a7:et X "zip":=by rfl)(aB:bL [a,b] X.env=(false,eval a X.env)::bL [b] X.env:=by rfl)(fI:bL [b] X.env=(false,eval b X.env)::bL [] X.env:=by rfl)(hpl:(fl pos (bL [b] X.env)).any (·.1)=false:=by rfl):
  nL X (.Tuple ar k dJ) (.Call (.Name "zip" p) [a,b] [] pos) (vX (fc f) (fc g)):=yQ (aio a7 hm (fB aA (fB ag h2 fI) aB) aB hpl) λσ H R ⟨aM,aO,O,F,ε,ts,r,e,k⟩=>by
 simp only[vX,fc,hh,cW] at e;obtain⟨xs,⟨t,cw,aE⟩,ys,⟨u,la,aK⟩,rfl⟩:=e;refine⟨aM,aO,O,F,ε,_,r,cw,λv a5 H1 aW a4=>⟨aM,aO,O,a5,ε,_,r.ext aW,la,λw dh bo bF bO=>?_⟩⟩;obtain⟨c9,a1,vs,rfl,jU,si⟩:=QN aE (a4.ext bF);obtain⟨dz,a2,ws,rfl,fI,px⟩:=QN aK bO;exact⟨c9,dz,a1,a2,vs,ws,rfl,jU.aQ d9.refl,fI.aQ d9.refl,k _ dh bo (aW.trans bF) (agw jU si fI px)⟩
end
end
section
variable [cB]
theorem OC:∀(tk:Nat) (ps:List Str),Vals (ps.map V.str) (strsFrom tk ps)
|_,[]=>.nil
|tk,p::ps=>.cons ⟨tk,rfl⟩ (OC (tk+1) ps)
theorem Jk:∀{ss:List Str} {us:List av},Vals (ss.map V.str) us->∃l:List (Str×Tok),us=strValues l/\l.map (·.1)=ss
| [],_,.nil=>⟨[],rfl,rfl⟩
|x::ss,_,.cons ⟨t,e⟩ r=>by
  obtain⟨l,aE,aK⟩:=Jk r;subst aE aK e;exact⟨(x,t)::l,rfl,rfl⟩
section
variable {X:aV}{a b e:bk}{ar:List bk}{f g h:a_}{a6:List a_}{pos p dJ apos eQ:Pos}
noncomputable def ajz:V->List V->aF->di->Prop:=λx vs H Q=>∃z y,x=.str z/\vs=[.str y]/\y.length=1/\z.length+2<=b'/\∀p,H p=none->Q (.ref p) (upd H p (.lst ((Txt.split z y).map V.str)))
def ahA:zc X "str.split" ajz:=by
 intro ai s σ H x vs v us Q I aS cn h;obtain⟨z,y,rfl,rfl,b1,aI,q⟩:=h;obtain⟨t,rfl⟩:=aS;obtain⟨w,rfl,fk,rfl⟩:=cn.one;have M1:(y.length==0)=false:=by rw[b1];rfl
 have Gd:(Txt.split z y).length<=z.length+2:=PyProof.Rows.split_le z y;have NU:∀(e:Txt.split z y=[z]),listOfItself z t X.A (wants (hp X ai σ Q) X.dg) s:=λe=>by
  refine⟨.ref _,_,I.su (t':=s.toks) (ys:=[V.str z]) (its:=[.str z t]) (.cons ⟨t,rfl⟩ .nil) (by show 1<=b';decide),rfl,?_⟩
  have:=q _ I.fresh;rw[e] at this;exact this
 cases c9:(decide (z.length<y.length) || decide (Builtin.Str.strKind z<Builtin.Str.strKind y)) with
|true=>exact nh F.slot_str_split (typeIs_str s z t) F.entry_str_split (F.args_str_split_2 _ _) (meets_str_split_cannot_occur z y t fk c9) (NU (by unfold Txt.split;rw[if_pos c9]))
|false=>
  cases dz:(Builtin.Str.occurrences z y 0 z.length (z.length+1)).isEmpty with
  |true=>exact nh F.slot_str_split (typeIs_str s z t) F.entry_str_split (F.args_str_split_2 _ _) (meets_str_split_not_found z y t fk c9 M1 dz) (NU (by unfold Txt.split;rw[if_neg (by rw[c9];exact kb),if_pos dz]))
  |false=>
   have ar:Txt.split z y=Builtin.Str.partsBetween z (Builtin.Str.occurrences z y 0 z.length (z.length+1)) y.length:=by
    unfold Txt.split;rw[if_neg (by rw[c9];exact kb),if_neg (by rw[dz];exact kb)]
   rw[ar] at q Gd;refine nh F.slot_str_split (typeIs_str s z t) F.entry_str_split (F.args_str_split_2 _ _) (meets_str_split_sep z y t fk c9 M1 dz (by omega) (by omega)) ?_;exact⟨.ref _,_,I.su (OC _ _) (by rw[dy];omega),rfl,q _ I.fresh⟩
def JV(aA:dP X a f)(ag:dP X b g)(jU:bL [b] X.env=(false,eval b X.env)::bL [] X.env:=by rfl)
  (pj:attributeBase a "split" X.env (eval a X.env)=eval a X.env:=by rfl)
  (pn:((fl eQ (bL [b] X.env)).all (λx=>!x.1) && (backToKw eQ (keywordEach [] X.env)).all (λx=>x.1.isSome)
   && decide (([b]:List bk).length+([]:List Keyword).length+(if ([]:List Keyword).isEmpty then 0 else 1)<30))=true:=by rfl)
  (pq:(apos.endLine==eQ.line)=true:=by rfl) (pv:(fl eQ (bL [] X.env)).any (·.1)=false:=by rfl):
  cq X (.Call (.Attribute a "split" apos) [b] [] eQ) (af tR f g):=
 ec (vU PySem.F.plainAttrs_str PySem.F.slot_str_split PySem.F.type_str_split ahA aA (fB ag h2 jU) pj pn pq jU pv) λσ H Q ⟨aM,aO,O,F,ε,t,r,e,k⟩=>by
 simp only[af,cW] at e;obtain⟨x,ex,y,fV,e⟩:=e;unfold tR at e;split at e
 ·split at e
  next au=>
   cases e
   refine⟨aM,aO,O,F,ε,_,r,ex,λfX a5 H1 aW aS=>?_⟩
   rw[aS.str];refine⟨rfl,aM,aO,O,a5,ε,_,r.ext aW,fV,λfy dh bo bF bt=>?_⟩;rw[bt.str];refine⟨_,_,rfl,rfl,au.1,by rw[ki];exact au.2,λq aD=>?_⟩;refine k _ _ _ ((aW.trans bF).trans (Ext.uI bF.cK aD)) ?_;simp only[Rep];exact⟨q,_,rfl,.inr rfl,.inl ep,Py _⟩
  next=>cases e
 ·cases e
noncomputable def rJoin(K:a'):V->List V->aF->di->Prop:=λx vs H Q=>∃z p ss,x=.str z/\vs=[.ref p]/\(eO K H p (ss.map V.str)\/c8 K H p (ss.map V.str))/\JoinOk z ss=true/\Q (.str (Txt.join z ss)) H
def aiO{z:Str}{l:List Str}(h:Builtin.Str.tooLong (Array.foldl (λaW bF=>aW+Str.length bF+Str.length z) 0 (List.toArray l))=false):(Builtin.Str.glued z l).length<=b':=by
 rw[StrLaws.glued_eq_join];rw[StrLaws.joinTotal] at h;have ao:=StrLaws.join_length_le z l;have aY:¬(_ > b'):=of_decide_eq_false h;omega
def aiI:zc X "str.join" (rJoin X.K):=by
 intro ai s σ H x vs v us Q I aS cn h;obtain⟨z,p,ss,rfl,rfl,aB,cS,q⟩:=h;obtain⟨t,rfl⟩:=aS;obtain⟨w,rfl,n2⟩:=cn.one;cases n2;rcases aB with aB|aB
 ·obtain⟨its,r,c1,aI⟩:=I.list aB;obtain⟨l,rfl,n0⟩:=Jk r;exact SC.join c1.isList n0 cS λt' k=>⟨.str _,H,I.tok k,⟨_,rfl⟩,q⟩
 ·obtain⟨its,r,c1,aI⟩:=I.tuple aB;obtain⟨l,rfl,n0⟩:=Jk r;obtain⟨o,aT,au,n,hd⟩:=c1;have MO:Builtin.Str.tooLong (Array.foldl (λaW bF=>aW+Str.length bF+Str.length z) 0 (List.toArray (List.map (λx=>Prod.fst x) l)))=false:=by
   rw[n0];simpa [JoinOk] using cS
  refine nh F.slot_str_join (typeIs_str s z t) F.entry_str_join (F.args_str_join_2 _ _) (meets_str_join_tuple z t p l MO) ⟨⟨o,n,aT,au,hd⟩,?_⟩
  subst n0;unfold joinMade;split
  next pr=>exact⟨.str _,H,I,⟨_,rfl⟩,by simpa [Txt.join,StrLaws.glued_eq_join,Str.join] using q⟩
  next=>exact⟨aiO MO,.str _,H,I.tok _,⟨_,rfl⟩,q⟩
def B6(aA:dP X a f)(ag:dP X b g)(jU:bL [b] X.env=(false,eval b X.env)::bL [] X.env:=by rfl)
  (pj:attributeBase a "join" X.env (eval a X.env)=eval a X.env:=by rfl)
  (pn:((fl eQ (bL [b] X.env)).all (λx=>!x.1) && (backToKw eQ (keywordEach [] X.env)).all (λx=>x.1.isSome)
   && decide (([b]:List bk).length+([]:List Keyword).length+(if ([]:List Keyword).isEmpty then 0 else 1)<30))=true:=by rfl)
  (pq:(apos.endLine==eQ.line)=true:=by rfl) (pv:(fl eQ (bL [] X.env)).any (·.1)=false:=by rfl):
  cq X (.Call (.Attribute a "join" apos) [b] [] eQ) (af kj f g):=
 ec (vU PySem.F.plainAttrs_str PySem.F.slot_str_join PySem.F.type_str_join aiI aA (fB ag h2 jU) pj pn pq jU pv) λσ H Q ⟨aM,aO,O,F,ε,t,r,e,k⟩=>by
 simp only[af,cW] at e;obtain⟨x,ex,y,fV,e⟩:=e;have key:∀z ts,x=.str z->(∃ss,strsOf ts=some ss/\JoinOk z ss=true/\t=.str (Txt.join z ss))->(y=.list ts\/y=.tuple ts)->AF X.K "str" (rJoin X.K) (q3 X.K f) (bB.hG (q3 X.K g) bB.l_) σ H Q:=by
  intro z ts WD ⟨ss,ar,cS,cw⟩ b1;subst WD cw;refine⟨aM,aO,O,F,ε,_,r,ex,λfX a5 H1 aW aS=>?_⟩;rw[aS.str];refine⟨rfl,aM,aO,O,a5,ε,_,r.ext aW,fV,λfy dh bo bF bt=>?_⟩;have aE:=Pt ar;rcases b1 with rfl|rfl
  ·obtain⟨p,vs,rfl,aB,ax⟩:=bt.lst;rw[aE] at ax;rw[Jb ax] at aB;exact⟨_,_,ss,rfl,rfl,.inl (.inl aB),cS,k _ dh bo (aW.trans bF) (by simp[Rep])⟩
  ·obtain⟨p,vs,rfl,aB,ax⟩:=bt.tup;rw[aE] at ax;rw[Jb ax] at aB;exact⟨_,_,ss,rfl,rfl,.inr aB,cS,k _ dh bo (aW.trans bF) (by simp[Rep])⟩
 unfold kj at e;split at e
 ·simp only[cW] at e;obtain⟨ss,ar,e⟩:=e;split at e
  next cS=>cases e;exact key _ _ rfl ⟨ss,ar,cS,rfl⟩ (.inl rfl)
  next=>cases e
 ·simp only[cW] at e;obtain⟨ss,ar,e⟩:=e;split at e
  next cS=>cases e;exact key _ _ rfl ⟨ss,ar,cS,rfl⟩ (.inr rfl)
  next=>cases e
 ·cases e
def agP:km X (.type "str") (λxs H Q=>(∃x,xs=[.str x]/\Q (.str x) H)\/∃i,xs=[.int i]/\Co i=true/\Q (.str (cP i)) H):=by
 intro ai s σ H xs us Q I r h;rcases h with ⟨x,rfl,q⟩|⟨i,rfl,aI,q⟩
 ·obtain⟨u,rfl,t,rfl⟩:=vals1 r;exact PySem.P.str_of_str ⟨.str x,H,I,⟨t,rfl⟩,q⟩
 ·obtain⟨u,rfl,t,rfl⟩:=vals1 r;exact PySem.P.str_of_int (of_decide_eq_true aI) ⟨.str _,H,I.tok _,⟨_,rfl⟩,q⟩
def QR(hm:X.mg "str"=none)(aA:nK X (e::ar) a6)(a7:et X "str":=by rfl)(he:bL (e::ar) X.env=(false,eval e X.env)::bL ar X.env:=by rfl)(hpl:(fl pos (bL ar X.env)).any (·.1)=false:=by rfl):
  cq X (.Call (.Name "str" p) (e::ar) [] pos) (aw jv a6):=ec (PA agP a7 hm (by decide +kernel) aA (he:=he) (hpl:=hpl)) (tB (by
 intro O F H ts t vs Q d q e k;unfold jv at e;split at e
 ·cases e
  cases q with
  |cons a4 bO=>
   cases bO
   exact .inl ⟨_,by rw[a4.str],k _ F H (Ext.refl d) (by simp[Rep])⟩
 ·split at e
  next aI=>
   cases e
   cases q with
   |cons a4 bO=>
    cases bO
    exact .inr ⟨_,by rw[a4.int],aI,k _ F H (Ext.refl d) (by simp[Rep])⟩
  next=>cases e
 ·cases e))
def Rq(hm:X.mg "ord"=none)(aA:nK X (e::ar) a6)(a7:et X "ord":=by rfl)(he:bL (e::ar) X.env=(false,eval e X.env)::bL ar X.env:=by rfl)(hpl:(fl pos (bL ar X.env)).any (·.1)=false:=by rfl):
  cq X (.Call (.Name "ord" p) (e::ar) [] pos) (aw pJ a6):=ec (vo ah3 a7 hm (by decide +kernel) aA (he:=he) (hpl:=hpl)) (tB (by
 intro O F H ts t vs Q d q e k;unfold pJ at e;split at e
 ·split at e
  next aI=>
   cases e
   cases q with
   |cons a4 bO=>
    cases bO
    exact⟨_,by rw[a4.str],aI,k _ F H (Ext.refl d) (by simp[Rep])⟩
  next=>cases e
 ·cases e))
def ajy:V->List V->aF->di->Prop:=λx vs H Q=>∃z i,x=.str z/\vs=[.int i]/\PadOk i=true/\Q (.str (Txt.zfill z i)) H
def ahz:zc X "str.zfill" ajy:=by
 intro ai s σ H x vs v us Q I aS cn h;obtain⟨z,i,rfl,rfl,aC,q⟩:=h;obtain⟨t,rfl⟩:=aS;obtain⟨w,rfl,fk,rfl⟩:=cn.one;exact SC.zfill aC λt' k=>⟨.str _,H,I.tok k,⟨_,rfl⟩,q⟩
def ajQ{i:Int}(h:0<=i/\i<=1000):PadOk i=true:=by
 unfold PadOk fitsSsize Builtin.Str.tooLong;rw[cX];have:b'=big:=ki;unfold big at this;constructor
 ·simp;omega
 ·simp;omega
def aij(aA:dP X a f)(ag:dP X b g)(jU:bL [b] X.env=(false,eval b X.env)::bL [] X.env:=by rfl)
  (pj:attributeBase a "zfill" X.env (eval a X.env)=eval a X.env:=by rfl)
  (pn:((fl eQ (bL [b] X.env)).all (λx=>!x.1) && (backToKw eQ (keywordEach [] X.env)).all (λx=>x.1.isSome)
   && decide (([b]:List bk).length+([]:List Keyword).length+(if ([]:List Keyword).isEmpty then 0 else 1)<30))=true:=by rfl)
  (pq:(apos.endLine==eQ.line)=true:=by rfl) (pv:(fl eQ (bL [] X.env)).any (·.1)=false:=by rfl):
  cq X (.Call (.Attribute a "zfill" apos) [b] [] eQ) (af tQ f g):=
 ec (vU PySem.F.plainAttrs_str PySem.F.slot_str_zfill PySem.F.type_str_zfill ahz aA (fB ag h2 jU) pj pn pq jU pv) λσ H Q ⟨aM,aO,O,F,ε,t,r,e,k⟩=>by
 simp only[af,cW] at e;obtain⟨x,ex,y,fV,e⟩:=e;unfold tQ at e;split at e
 ·split at e
  next au=>
   cases e
   refine⟨aM,aO,O,F,ε,_,r,ex,λfX a5 H1 aW aS=>?_⟩
   rw[aS.str];refine⟨rfl,aM,aO,O,a5,ε,_,r.ext aW,fV,λfy dh bo bF bt=>?_⟩;rw[bt.int];exact⟨_,_,rfl,rfl,ajQ au,k _ dh bo (aW.trans bF) (by simp[Rep])⟩
  next=>cases e
 ·cases e
def Km(aA:dP X a f)(ag:dP X b g):cq X (.BinOp a .Pow b pos) (af kQ f g):=
 ec (rC ajS aA ag) (nv (by
  intro O F H x y t fX fy Q d aS bt e k;unfold kQ at e;split at e
  ·split at e
   next hm=>
    cases e
    rw[aS.int,bt.int];obtain⟨rfl,ah,ao⟩:=hm;exact⟨10,_,rfl,rfl,⟨ah,by omega,by decide⟩,k _ F _ (Ext.refl d) (by simp[Rep])⟩
   next=>cases e
  ·cases e))
def afK{x y:Int}(h:y.natAbs.log2<8000):Builtin.divisionGoesByPylong x y=false:=by
 unfold Builtin.divisionGoesByPylong;rw[Bool.and_eq_false_iff];refine .inl (decide_eq_false ?_);dsimp only;split <;> omega
def ahq:d_ X (kc .FloorDiv) (uR (λ_ j=>y0 j=true) λi j=>.int (i / j)):=amk λi j _ _ _ _ _ au q=>by
 have cj:=(cX _ _).mp au;have ah:(0:Int)<j:=of_decide_eq_true cj.1;exact floordiv_int (by omega) (by rw[Int.fdiv_eq_ediv_of_nonneg i (by omega)];exact q) (.inl (afK (of_decide_eq_true cj.2)))
def QS(aA:dP X a f)(ag:dP X b g):cq X (.BinOp a .FloorDiv b pos) (af rD f g):=
 ec (rC ahq aA ag) (nv (by
  intro O F H x y t fX fy Q d aS bt e k;unfold rD at e;split at e
  ·split at e
   next hm=>
    cases e
    rw[aS.int,bt.int];exact⟨_,_,rfl,rfl,hm,k _ F H (Ext.refl d) (by simp[Rep])⟩
   next=>cases e
  ·cases e))
end
end
section
variable [cB]
theorem Qp:∀{ts:List T} {bs:List Bool},bools ts=some bs->ts=bs.map .bool
| [],bs,e=>by
  cases e
  rfl
|t::ts,bs,e=>by
  unfold bools at e;split at e
  ·rename_i h
   cases h
  ·rename_i h
   cases h
   simp only[hh] at e;obtain⟨r,aE,rfl⟩:=e;rw[Qp aE];rfl
  ·cases e
section
variable {X:aV}{e:bk}{ar:List bk}{a6:List a_}{pos p:Pos}
def agS(au:X.calm=true):km X (.builtin "all") (λxs H Q=>∃(p:aq) (bs:List Bool),xs=[.ref p]/\eO X.K H p (bs.map V.bw)/\Q (.bw (bs.all id)) H):=by
 intro ai s σ H xs us Q I r h;obtain⟨p,bs,rfl,aD,q⟩:=h;obtain⟨u,rfl,aS⟩:=vals1 r;cases aS;obtain⟨its,cx,c1,aI⟩:=I.list aD;have hA:p<s.heap.objs.size:=by obtain⟨o,n,aT,_⟩:=c1;exact dj aT
 have hlen:its.length=bs.length:=by have:=cx.length;simpa using this.symm
 refine PySem.call_all_walk (wpAny_pyIter_list (items:=its.toArray) c1.isList ?_)
 refine⟨_,[s.heap.objs.size,p],[s.heap.objs.size],_,_,_,(λi=>bs.getD i true),rfl,Walks.list (A:=X.A.in1) (I.ok.hd au) _ p (eg hA) its.toArray,⟨⟨_,hJ _ rfl,rfl,rfl⟩,c1.isList.push _⟩,λi v s' wh oS eS W8=>?_,λh' tk a0=>?_⟩
 ·have hi:its[i]?=some v:=by simpa using eS
  have MQ:i<bs.length:=by rw[<- hlen];exact (gy.mp hi).1
  obtain⟨uW,aE,aK⟩:=cx.get (i:=i) (x:=V.bw bs[i]) (by simp[MQ]);rw[hi] at aE;cases aE;have h_:v=.bool bs[i]:=aK;subst h_;refine ng ?_;have:bs.getD i true=bs[i]:=by simp[MQ]
  exact this▸W8
 ·have e:((List.range its.toArray.size).all λi=>bs.getD i true)=bs.all id:=by
   rw[eE,hlen,Bool.eq_iff_iff,List.all_eq_true,List.all_eq_true];constructor
   ·intro h b ag;obtain⟨i,hi,rfl⟩:=List.getElem_of_mem ag;have:=h i (List.mem_range.mpr hi);have aK:bs.getD i true=bs[i]:=by simp[hi]
    rw[aK] at this;exact this
   ·intro h i hi;have FZ:=List.mem_range.mp hi;have aK:bs.getD i true=bs[i]:=by simp[FZ]
    rw[aK];exact h _ (List.getElem_mem FZ)
  rw[e];exact⟨.bw (bs.all id),H,I.kept (t':=tk) λb o e=>a0 b o (by simp only[ka];exact eg (dj e)) (dI _ e),rfl,q⟩
def rA(au:X.calm=true)(hm:X.mg "all"=none)(aA:nK X (e::ar) a6)(a7:et X "all":=by rfl)(he:bL (e::ar) X.env=(false,eval e X.env)::bL ar X.env:=by rfl)(hpl:(fl pos (bL ar X.env)).any (·.1)=false:=by rfl):
  cq X (.Call (.Name "all" p) (e::ar) [] pos) (aw iU a6):=ec (vo (agS au) a7 hm (by decide +kernel) aA (he:=he) (hpl:=hpl)) (tB (by
 intro O F H ts t vs Q d q e k;unfold iU at e;split at e
 ·simp only[hh] at e;obtain⟨bs,k9,rfl⟩:=e;have:=Qp k9;subst this;cases q with
  |cons a4 bO=>
   cases bO
   obtain⟨Nd,ws,rfl,aH,ax⟩:=a4.lst;have:=Pa ax;subst this;exact⟨Nd,bs,rfl,.inl aH,k _ F H (Ext.refl d) (by simp[Rep])⟩
 ·cases e))
end
end
section
variable [cB]
def jQ(i:Nat):bx:=λε=>match ε[i]? with
|some (some (.own ts))=>some (.bg (ε.set i (some (.ae (.list ts)))))
|_=>none
def cZ.freeze{K:a'}{aM O F:aq->Prop}{E:iC}{H:aF}{ε:Ev}{σ:bB.St}(r:cZ K aM E O F H ε σ){i:Nat}{ts:List T}(e:ε[i]?=some (some (.own ts))):
  ∃aR:aq->Prop,d9 K F H aR H/\cZ K aM E O aR H (ε.set i (some (.ae (.list ts)))) σ:=by
 obtain⟨v,ba,a,vs,rfl,H6,kx,aA,q⟩:=r.val i _ e;have aQ:d9 K F H (λb=>F b\/b=a) H:=⟨λ_ _ z=>z,λb xs f z=>⟨.inl f,z⟩⟩;have h0:=r.o0 a kx;refine⟨λb=>F b\/b=a,aQ,⟨by simp[r.len],λj s r2=>?_,λj k s u v w sa aE aK d1 eB ah ao=>?_,?_,r.o0,r.fr⟩⟩
 ·rcases get_set r2 with ⟨rfl,bu,aH⟩|⟨ne,bu⟩
  ·cases bu
   refine⟨_,ba,?_⟩
   show Rep K _ H (.list ts) (.ref a)
   simp only[Rep];exact⟨a,vs,rfl,.inr rfl,.inl aA,q.aQ aQ⟩
  ·obtain⟨w,ah,ao⟩:=r.val j s bu;refine⟨w,ah,(ao.keep aQ (λ_ _=>rfl) (λb ag f=>?_) λ_ _ o=>o).1⟩;rcases f with f|rfl
   ·exact f
   ·exfalso
    cases al5:s.lh with
    |true=>exact r.ne i j (.own ts) s (.ref b) w ne e bu rfl al5 ba ah b (by simp[eu,ll]) ag
    |false=>exact (ao.held ag).2.2 al5 h0
 ·rcases get_set aE with ⟨rfl,bu,aH⟩|⟨ne1,k7⟩
  ·cases bu
   cases d1
  ·rcases get_set aK with ⟨rfl,bu,aH⟩|⟨ne2,h_⟩
   ·cases bu
    cases eB
   ·exact r.ne j k s u v w sa k7 h_ d1 eB ah ao
 ·have bF:=r.ent;exact⟨bF.same,λb z=>.inl (bF.sub b z),λb z=>by
   rcases z with z|rfl
   ·exact bF.new b z
   ·exact .inr h0,⟨λb z=>by
   rcases z with z|rfl
   ·exact bF.cK b z
   ·exact⟨_,aA⟩,bF.cK.m8⟩⟩
def ak'{X:aV}{rest:List Stmt}{g:bx}(i:Nat)(h:kX X rest g):kX X rest (seq (jQ i) g):=vC h λD σ H ⟨aM,aO,O,F,ε,o,r,e,k⟩=>by
 simp only[seq,cW] at e;obtain⟨d1,aE,aK⟩:=e;unfold jQ at aE;split at aE
 next ts he=>
  cases aE
  obtain⟨aR,aQ,cx⟩:=r.freeze he;exact⟨aM,aO,O,aR,_,o,cx,aK,k.aQ aQ⟩
 next=>cases aE
section
variable {P:c3}{w:cf}{K:a'}{mg:Str->Option av}{base:bP}{k:Nat}{q cC:aq}{N:List Str}{qual:Str}{scope:Scope}{cd:av}{cl:List (Str×aq)}{A:dk}{outer:List Env}{s:aP}{H:aF}{σ:bB.St}
def agu{params:Arguments}{body:bk}{pm i3:av}{te:TE}{Q:di}{E:gE}(a0:scope.kind=.function)(uz:scope.isCoroutine=false)(uF:scope.isGenerator=false)(mR:∀x∈scope.names,x.2≠.cell)
  (ag:∀(A:dk) (outer:List Env) (s:aP) (H:aF),eN k (A.deeper (mL qual scope s.heap.objs.size q (.ref cC) cl))->b3 (r1 P w K mg base N qual scope q (.ref cC) cl A outer s H) body te)
  (bd:bindArgs (PySem.W.kla_fn "<lambda>" qual params body scope cl pm (.ref cC) i3) ⟨[],[]⟩=pure [])
  (ax:eN (k+1) A) (bp:qp P w K mg base A outer s H) (aD:H q=some (oc (PySem.W.kla_obj "<lambda>" qual params body scope cl pm cC i3) q)) (au:H cC=some (wF cC qual)) (C:ami N scope cl σ H s.heap)
  (h:te σ H Q):jb (bN P w) A (.call (.ref q) ⟨[],[]⟩) (oR e5 outer P w H s Q E) s:=by
 have Ib:s.heap.NoLimit:=bp.mod.nolimit.keeps λb o e=>(bp.bs b o e).1;refine PySem.W.kla_callFunE ax.depth (bp.bW q _ aD).1 rfl uz uF rfl (bp.bW cC _ au).1 ?_;rw[bd];refine cc (wpAny_newFunctionEnv mR (λx hx=>by cases hx) (λhB n9 xb=>⟨Ib.fresh _ xb,?_⟩) a0);have aQ:∀b o,s.heap.get? b=some o->hB.get? b=some o:=λb o e=>xb.extBut b o (eg (dj e)) (dI _ e);show jb _ _ (.expr body (mL qual scope s.heap.objs.size q (.ref cC) cl)) _ _;refine PySem.W.kla_codeExpr ?_;have I:Inv (r1 P w K mg base N qual scope q (.ref cC) cl A outer s H) [] σ H {s with heap:=hB,toks:=s.toks+([]:List (Str×av)).length}:=Pe a0 ax.hd bp C n9 aQ;refine fA (ag A outer s H (ax.deeper _) [] _ σ H (λv ak=>Q v ak) I h) (λu s' aB=>?_) λe s' aB=>(show False from aB).elim;obtain⟨v,ak,J,cn,qv⟩:=aB;exact⟨v,ak,J.os,J.bare,J.base,J.bW,cn,qv⟩
end
def jg(f:a_)(r:fp)(j:Nat):a_:=λε=>if r ε=true then some (.tuple [.str "refused",.int j]) else (f ε).map λt=>.tuple [.str "told",t]
def vx{X:aV}{k:Nat}{x:Str}{st:Stmt}{cU:aq}{fd:fa}{sW pR pT s_:Str}{params:Arguments}{body:bk}{scope:Scope}{lZ p pos:Pos}{c rT C:aq}{f:a_}{r:fp}{j:Nat}
  (F:cE X.K x x st cU fd) (S:cY [sW,pR,pT,s_] [sW] (bS st)) (bd:Binds X.K fd [sW] []) (hm:X.mg x=some (.ref cU))
  (aN:∀(bY:av) (A:dk) (outer:List Env) (s:aP) (H:aF),fh (gQ e5 X.prog X.w X.K X.mg X.base [sW,pR,pT,s_] x (bS st) cU bY A outer s H mx).eU (hk st) (Rm (gQ e5 X.prog X.w X.K X.mg X.base [sW,pR,pT,s_] x (bS st) cU bY A outer s H mx).eU))
  (aI:∀(bY:av) (A:dk) (outer:List Env) (s:aP) (H:aF),fh (gQ e5 X.prog X.w X.K X.mg X.base [sW,pR,pT,s_] x (bS st) cU bY A outer s H mx).eU (hk st) (B3 (gQ e5 X.prog X.w X.K X.mg X.base [sW,pR,pT,s_] x (bS st) cU bY A outer s H mx).eU C j))
  (zR:X.env.code=.ref c) (eT:u_ X.K c rT=true) (kB:oQ X.mg X.base) {sG:Str} (mS:(rT,sG)∈cB.cO) (qP:∀p∈cB.cO,p.1=rT->p.2=sG)
  (ax:eN (k+2) X.A)
  (ag:∀(q cC:aq) (cl:List (Str×aq)) (A:dk) (outer:List Env) (s:aP) (H:aF),eN k (A.deeper (mL (X.env.qual++"<lambda>") scope s.heap.objs.size q (.ref cC) cl))->cq (r1 X.prog X.w X.K X.mg X.base X.N (X.env.qual++"<lambda>") scope q (.ref cC) cl A outer s H) body f)
  (Xh:∀(q cC:aq) (cl:List (Str×aq)) (A:dk) (outer:List Env) (s:aP) (H:aF) (E:gE),eN k (A.deeper (mL (X.env.qual++"<lambda>") scope s.heap.objs.size q (.ref cC) cl))->CZ (zy X.prog X.w X.K X.mg X.base X.N (X.env.qual++"<lambda>") scope q (.ref cC) cl A outer s H E) C body r)
  (z5:(decide (scope.kind=.function) && !scope.isCoroutine && !scope.isGenerator && scope.names.all λy=>decide (y.2≠.cell) && decide (y.2≠.local))=true:=by rfl)
  (lW:(scope.names.all λy=>decide (y.2≠.free) || decide (X.env.scope.names.lookup y.1=some .cell))=true:=by rfl)
  (Lr:∀(cl:List (Str×aq)) (pm:av) (cC:aq) (i3:av),bindArgs (PySem.W.kla_fn "<lambda>" (X.env.qual++"<lambda>") params body scope cl pm (.ref cC) i3) ⟨[],[]⟩=pure []:=by intros;rfl)
  (a7:et X x:=by rfl) (ib:(x==("__debug__":Str))=false:=by decide) (FW:defaultsOf params X.env=([],[]):=by rfl)
  (he:bL [.Lambda params body scope lZ] X.env=(false,eval (.Lambda params body scope lZ) X.env)::bL [] X.env:=by rfl) (MV:X.env.qual++"<lambda>"=sG:=by rfl):
  cq X (.Call (.Name x p) [.Lambda params body scope lZ] [] pos) (jg f r j):=by
 subst MV;simp only[cX,Bool.not_eq_true',decide_eq_true_eq,List.all_eq_true] at z5;obtain⟨⟨⟨a0,uz⟩,uF⟩,mR⟩:=z5;simp only[List.all_eq_true,Bool.or_eq_true,decide_eq_true_eq] at lW;have ML:∀y∈scope.names,y.2=.free->X.env.scope.names.lookup y.1=some .cell:=λy b1 hf=>by
  rcases lW y b1 with z|z
  ·exact absurd hf z
  ·exact z
 intro ai s σ H Q I ⟨aM,E,O,aR,ε,t,ih,e,cm⟩;have Sl:=PySem.W.codeHd_of_K I.ok.mod.sl eT;refine s8 (yy I a7 hm ?_ ib);refine PySem.W.callWith_K (h₀:=X.base) I.ok.mod.sl F.aQ ?_ he rfl;rw[he];show bE _ _ (spliced ((false,eval (.Lambda params body scope lZ) X.env)::[])) _ _ s;have aH:∀x∈scope.names,x.2=.free->∃c,X.env.cells.lookup x.1=some c:=λx hx hf=>I.ok.has x.1 (.inl (ML x hx hf));refine Calls.spliced_cons (ahF I zR Sl kB FW (OH aH) ih.cK.m8 mS qP λq cC i3 H1 s1 a9 Ay adC MV aD au=>Calls.spliced_nil ⟨a9.jY,?_⟩);have aW:Ext aR H aR H1:=⟨Ay,λ_ h=>h,λ_ h=>.inl h,⟨λa aA=>by
  obtain⟨o,aT⟩:=ih.cK.zA a aA;exact Ay.ne aT,adC⟩⟩
 have Nn:∀{s2:aP} {sE:List (aq×Obj)} {bo:aF} {nE:bB.St} {Y:aV},Inv Y sE nE bo s2->Y.aO=H1->Y.c'=s1->Y.ex=[]->ami X.N scope (gn X.env scope.names []) σ H1 s2.heap:=by
  intro s2 sE bo nE Y cg EH ar Ww;have c9:=ai' a9 mR ML;have b7:=cg.base;rw[EH,ar,Ww] at b7;have aQ:∀{a:aq} {v:Option av},s1.heap.IsCell a v->H1 a=none->s2.heap.IsCell a v:=λ{a v} z n=>agy b7 z n (by simp);refine⟨c9.inj,c9.has,λx c h=>?_,c9.len,λi x v ah ao aY=>?_⟩
  ·obtain⟨⟨v,ba⟩,bf⟩:=c9.zx x c h;exact⟨⟨v,aQ ba bf⟩,bf⟩
  ·obtain⟨u,c,e3,hf,mQ,hx⟩:=c9.val i x v ah ao aY;exact⟨u,c,e3,hf,mQ,aQ hx (c9.zx x c mQ).2⟩
 have fin:jb (bN X.prog X.w) X.A (.call (.ref cU) ⟨[.ref q],[]⟩) (oR e5 X.stack X.prog X.w H1 s1 Q mx) s1:=by
  unfold jg at e;by_cases jj:r ε=true
  ·rw[if_pos jj] at e;cases e;refine Qi (k:=k+1) (vs:=[.ref q]) F S bd ax a9.wK (.cons rfl .nil) rfl λbY px=>⟨_,aI bY X.A X.stack s1 H1,?_⟩;refine⟨q,rfl,rfl,⟨_,_,aD,rfl⟩,λak=>∃dh,Ext aR H1 dh ak,λsE s2 cg=>?_,?_⟩
   ·exact agt a0 uz uF (λx hx=>(mR x hx).1) (Xh q cC _) (Lr _ _ _ _) px cg.wK aD au (Nn cg rfl rfl rfl) ⟨aM,E,O,aR,ε,ih.ext aW,jj,λdh bo bF=>⟨rfl,dh,bF⟩⟩
   ·rintro ak ⟨dh,bF⟩ lO p g aC;have e':=g dh bF.cK;refine cm _ dh _ ((aW.trans bF).trans e') ?_;simp only[Rep];exact⟨p,_,rfl,c8.of aC,bl.cons (by simp[Rep]) (bl.cons (by simp[Rep]) bl.nil)⟩
  ·rw[if_neg jj,hh] at e;obtain⟨t0,uk,rfl⟩:=e;refine Qi (k:=k+1) (vs:=[.ref q]) F S bd ax a9.wK (.cons rfl .nil) rfl λbY px=>⟨_,aN bY X.A X.stack s1 H1,?_⟩;refine⟨q,rfl,⟨_,_,aD,rfl⟩,λsE s2 cg=>?_⟩;refine agu (te:=sS X.K f) a0 uz uF (λx hx=>(mR x hx).1) (ag q cC _) (Lr _ _ _ _) px cg.wK aD au (Nn cg rfl rfl rfl) ?_;refine⟨aM,E,O,aR,ε,t0,ih.ext aW,uk,λv dh bo bF cn=>?_⟩;refine⟨by show 2<=b';decide,λpp aC=>⟨.ref pp,rfl,?_⟩⟩;have e':=Ext.laid (o:=.tup [.str "told",v]) bF.cK aC;refine cm _ dh _ ((aW.trans bF).trans e') ?_;simp only[Rep];exact⟨pp,_,rfl,c8.of ep,bl.cons (by simp[Rep]) (bl.cons (cn.ext e') bl.nil)⟩
 refine wpAny_call (s9 fin λr s' aD=>?_)
 cases r with
|error e=>exact eX aD
|ok dF=>
  cases dF with
  |ret u=>exact a9.after aD
  |next=>exact eX aD
  |brk=>exact eX aD
  |cont=>exact eX aD
end
section
variable [cB]
noncomputable def vV:T->Option T
|.tuple xs=>some (.tuple xs.reverse)
|.list xs=>some (.list xs.reverse)
|.str x=>if x.length<=big then some (.str ⟨x.cps.toList.reverse.toArray⟩) else none
|_=>none
def QM(n:Nat):sliceRange ((n:Int) - 1) (-1) (-1)=(List.range n).reverse:=by
 unfold sliceRange;have ht:((if (-1:Int) > 0 then (if (n:Int) - 1 < -1 then ((-1) - ((n:Int) - 1)+(-1) - 1) / (-1) else 0) else (if (n:Int) - 1 > -1 then ((n:Int) - 1 - (-1) - (-1) - 1) / (- -1) else 0)):Int).toNat=n:=by
  rw[if_neg (by decide),show (- -1:Int)=1 by decide];split
  ·rw[Int.ediv_one];omega
  ·omega
 dsimp only;rw[ht,<- PySem.W.krv_range];refine List.map_congr_left λk _=>?_;omega
def Qb{α:Type}(xs:Array α):(List.range xs.size).reverse.filterMap (λk=>xs[k]?)=xs.toList.reverse:=by
 rw[List.filterMap_reverse];congr 1;have:∀(l:List α),(List.range l.length).filterMap (λk=>l[k]?)=l:=λl=>by
  induction l with
  |nil=>rfl
  |cons a l d0=>
   rw[fM,List.range_succ_eq_map,List.filterMap_cons,List.filterMap_map];simp only[gN];congr 1
 have h:=this xs.toList;simpa using h
section
variable {X:aV}{e st:bk}{te:TE}{f:a_}{pos dJ:Pos}
noncomputable def aks(K:a')(te:TE):TE:=λσ H Q=>te σ H λx H1=>(∃a xs,x=.ref a/\c8 K H1 a xs/\∀p,H1 p=none->Q (.ref p) (upd H1 p (.tup xs.reverse)))\/(∃a xs,x=.ref a/\eO K H1 a xs/\∀p,H1 p=none->Q (.ref p) (upd H1 p (.lst xs.reverse)))\/∃z,x=.str z/\z.length<=b'/\Q (.str ⟨z.cps.toList.reverse.toArray⟩) H1
def ais(he:b3 X e te)(ic:b3 X st (hF (.int (-1)))):b3 X (.Subscript e (.Slice none none (some st) dJ) pos) (aks X.K te):=by
 intro ai s σ H Q I h;refine Subscript_ (cA (he ai s σ H _ I h) λv s1 ⟨x,H1,a9,bj,a4⟩=>?_);refine wpAny_Slice ?_;rw[evalPart_none];refine cc (cc ?_);rw[evalPart_some];refine cA (ic ai s1 σ H1 (λy bo=>y=.int (-1)/\bo=H1) a9 ⟨rfl,rfl⟩) λvk s3 ⟨y,dO,es,pk,fV,e1⟩=>?_;subst fV;subst e1;obtain⟨tk,rfl⟩:=pk;have h5:Inv X ai σ dO {s3 with heap:=s3.heap.push {cls:=.type "slice",data:=.fields #[.none,.none,.int (-1) tk]} }:=es.kept (t':=s3.toks) λb dH q=>dI _ q;show bE (bN X.prog X.w) X.A (subscriptTail e (.Slice none none (some st) dJ) v (.ref s3.heap.objs.size)) (hp X ai σ Q) X.dg {s3 with heap:=s3.heap.push {cls:=.type "slice",data:=.fields #[.none,.none,.int (-1) tk]} };rcases a4 with ⟨a,xs,rfl,hx,q⟩|⟨a,xs,rfl,hx,q⟩|⟨z,rfl,aI,q⟩
 ·cases bj
  obtain⟨its,r,aN,aI⟩:=h5.tuple hx;have hlen:its.toArray.size=xs.length:=by rw[eE];exact r.length.symm
  refine tail_any (ops:=[.ref a,.ref s3.heap.objs.size]) aN.typeIs PyProof.Rows.slot_tuple_getitem.lookup ?_ (by with_unfolding_all rfl)
  refine adX aN (Heap.IsSliceOf.new ..) ?_ (by rw[hlen];exact aI)
  refine⟨.ref _,_,h5.laid (t':=s3.toks) (o:=.tup xs.reverse) (λb dH q=>dI _ q) (eo _) ⟨by simpa using aI,its.reverse,Jc r,?_⟩,rfl,q _ (h5.bW.fresh (eo _))⟩
  exact IsTup.new _ _
 ·cases bj
  obtain⟨its,r,aN,aI⟩:=h5.list hx;have hlen:=r.length;refine tail_any (ops:=[.ref a,.ref s3.heap.objs.size]) aN.isList.typeIs slot_list_getitem.lookup ?_ (by with_unfolding_all rfl);refine wpAny_getItem_list_slice aN.isList (Heap.IsSliceOf.new ..) .none .none (.int (-1) tk) (by decide) ?_ (by rw[eE] <;> omega);have ar:slicePick its.toArray none none (some (-1))=its.reverse.toArray:=by
   unfold slicePick;have hs:(sliceBounds none none (some (-1)) its.toArray.size)=((its.toArray.size:Int) - 1,-1,-1):=by simp[sliceBounds]
   rw[hs];dsimp only;rw[QM,Qb]
  rw[ar];refine⟨.ref _,_,h5.laid (t':=s3.toks) (o:=.lst xs.reverse) (λb dH q=>dI _ q) (eo _) ⟨by simpa using aI,_,0,Jc r,hJ _ rfl⟩,rfl,q _ (h5.bW.fresh (eo _))⟩
 ·obtain⟨t,rfl⟩:=bj;refine tail_any (ops:=[.str z t,.ref s3.heap.objs.size]) (typeIs_str _ z t) slot_str_getitem.lookup ?_ (by with_unfolding_all rfl);refine wpAny_getItem_str_slice (l:=none) (u:=none) (st:=some (-1,tk)) (Heap.IsSliceOf.new ..) (by rfl) ?_;unfold sliceMade slicePicked;dsimp only[Option.map_none,dt,Option.getD_some];rw[if_neg (by simp)];have ar:List.filterMap (λk=>z.cps[k]?) (Builtin.Str.strSliceIndices none none (-1) z.length)=z.cps.toList.reverse:=by
   have hs:Builtin.Str.strSliceIndices none none (-1) z.length=sliceRange ((z.length:Int) - 1) (-1) (-1):=by
    unfold Builtin.Str.strSliceIndices;dsimp only;rw[if_neg (by decide),if_neg (by decide)]
   rw[hs,QM];exact Qb z.cps
  rw[ar];refine⟨?_,⟨.str _,dO,h5.tok _,⟨_,rfl⟩,q⟩⟩;show z.cps.toList.reverse.toArray.size<=b';simpa [Str.length] using aI
def ajB(aA:dP X e f)(ic:b3 X st (hF (.int (-1)))):cq X (.Subscript e (.Slice none none (some st) dJ) pos) (dQ vV f):=ec (ais aA ic) λσ H Q ⟨aM,aO,O,F,ε,t,r,e,k⟩=>by
 simp only[dQ,cW] at e;obtain⟨x,ex,e⟩:=e;unfold vV at e;split at e
 ·cases e
  refine⟨aM,aO,O,F,ε,_,r,ex,λv a5 H1 aW aS=>?_⟩
  obtain⟨a,vs,rfl,aB,ax⟩:=aS.tup;refine .inl ⟨a,vs,rfl,aB,λp aC=>?_⟩;have bF:=Ext.laid (o:=.tup vs.reverse) aW.cK aC;refine k _ a5 _ (aW.trans bF) ?_;simp only[Rep];exact⟨p,_,rfl,c8.of ep,(IW ax).ext bF⟩
 ·cases e
  refine⟨aM,aO,O,F,ε,_,r,ex,λv a5 H1 aW aS=>?_⟩
  obtain⟨a,vs,rfl,aB,ax⟩:=aS.lst;refine .inr (.inl ⟨a,vs,rfl,.inl aB,λp aC=>?_⟩);have bF:=Ext.uI (o:=.lst vs.reverse) aW.cK aC;refine k _ _ _ (aW.trans bF) ?_;simp only[Rep];exact⟨p,_,rfl,.inr rfl,.inl ep,(IW ax).ext bF⟩
 ·split at e
  next aI=>
   cases e
   refine⟨aM,aO,O,F,ε,_,r,ex,λv a5 H1 aW aS=>.inr (.inr ⟨_,aS.str,by rw[ki];exact aI,k _ a5 H1 aW (by simp[Rep])⟩)⟩
  next=>cases e
 ·cases e
end
end
end D
end
section
namespace bU
open D
end bU
end
section
namespace bU
open D bU
def td:bx:=
  (seq (iff (a3 (af oLt (nm 1) (aw eC [(nm 0)]))) (bh (af aJ (nm 0) (nm 1))) skip) (bh (aa (.int 0))))
def lD:List T->Option T:=bV td 2
noncomputable def tq:bx:=
  (seq (asg 2 (af oMod (af dw (af aU (af aU (aw lD [(az 0),(az 1)]) (af dw (aa (.int 7919)) (nm 1))) (aa (.int 1))) (aa (.int 48271))) (aa (.int 2147483647)))) (bh (af oMod (af aU (af aU (af dw (nm 2) (nm 2)) (af dw (aa (.int 7)) (nm 2))) (nm 1)) (aa (.int 2147483629)))))
def kg:List T->Option T:=bV tq 3
noncomputable def al9:bx:=
  (seq (asg 2 (af oMod (af dw (af aU (af aU (nm 0) (af dw (aa (.int 104729)) (nm 1))) (aa (.int 17))) (aa (.int 69621))) (aa (.int 2147483647)))) (bh (af oMod (af aU (af aU (af dw (nm 2) (nm 2)) (af dw (aa (.int 3)) (nm 2))) (nm 1)) (aa (.int 2147483629)))))
def g5:List T->Option T:=bV al9 3
noncomputable def ah5:bx:=
  (seq (asg 1 (br [])) (seq (gR (je (mu (br [(aa (.str "a")),(aa (.str "b")),(aa (.str "back")),(aa (.str "d")),(aa (.str "hall")),(aa (.str "r")),(aa (.str "win")),(aa (.str "z"))]))) (eH [(a8 2),(a8 3)]) (seq (asg 4 (af oDiv (aw g5 [(az 0),(az 2)]) (aa (.int 4)))) (iff (dB (a3 (af oLt (af oMod (nm 4) (aa (.int 8))) (af aU (aa (.int 3)) (af oMod (nm 0) (aa (.int 5)))))) (a3 (af oEq (nm 2) (af oMod (af oDiv (nm 0) (aa (.int 8))) (aa (.int 8)))))) (asg 1 (af aU (nm 1) (br [(br [(az 3),(af aJ (br [(aa (.str "day")),(aa (.str "inner")),(aa (.str "once")),(aa (.str "way")),(aa (.str "way"))]) (af oMod (af oDiv (nm 4) (aa (.int 8))) (aa (.int 5))))])]))) skip))) (seq (asg 5 (br [])) (seq (gR (je (mu (br [(aa (.str "0000")),(aa (.str "1234")),(aa (.str "4321")),(aa (.str "7777")),(aa (.str "9990")),(aa (.str "9999"))]))) (eH [(a8 2),(a8 6)]) (seq (asg 4 (af oDiv (aw g5 [(az 0),(af aU (aa (.int 10)) (nm 2))]) (aa (.int 4)))) (iff (dB (a3 (af iJ (af oMod (nm 4) (aa (.int 3))) (aa (.int 0)))) (a3 (af oEq (nm 2) (aa (.int 1))))) (seq (asg 7 (aw dS [(comp 1 [4] (hM (aa (.int 3))) (a8 0) (a3 (af iJ (af oMod (af oDiv (nm 1) (af aJ (br [(aa (.int 4)),(aa (.int 16)),(aa (.int 64))]) (nm 0))) (aa (.int 4))) (aa (.int 0)))) (af aJ (br [(aa (.str "set")),(aa (.str "shunt")),(aa (.str "unset"))]) (nm 0)))])) (seq (asg 8 (af aJ (br [(aa (.str "ann")),(aa (.str "bo")),(aa (.str "cy"))]) (af oMod (af oDiv (nm 4) (aa (.int 256))) (aa (.int 3))))) (asg 5 (af aU (nm 5) (br [(br [(az 6),(az 8),(az 7),(af aJ (br [(aa (.int 0)),(aa (.int 0)),(aa (.int 1)),(aa (.int 2)),(aa (.int 9))]) (af oMod (af oDiv (nm 4) (aa (.int 1024))) (aa (.int 5))))])]))))) skip))) (seq (asg 4 (af oDiv (aw g5 [(az 0),(aa (.int 20))]) (aa (.int 4)))) (seq (asg 9 (br [(af aJ (br [(aa (.int 0)),(aa (.int 5)),(aa (.int 30)),(aa (.int 60))]) (af oMod (nm 4) (aa (.int 4)))),(af aJ (br [(aa (.int 0)),(aa (.int 4)),(aa (.int 20)),(aa (.int 60))]) (af oMod (af oDiv (nm 4) (aa (.int 4))) (aa (.int 4)))),(af aJ (br [(aa (.int 1)),(aa (.int 9)),(aa (.int 120)),(aa (.int 300))]) (af oMod (af oDiv (nm 4) (aa (.int 16))) (aa (.int 4))))])) (bh (br [(az 1),(az 5),(az 9)]))))))))
def BQ:List T->Option T:=bV ah5 10
noncomputable def PW:bx:=
  (seq (asg 2 (af aJ (af aJ (af aJ (nm 0) (aa (.int 0))) (af oMod (af oDiv (nm 1) (aa (.int 8))) (aw eC [(af aJ (nm 0) (aa (.int 0)))]))) (aa (.int 0)))) (seq (asg 3 (af oMod (nm 1) (aa (.int 10)))) (seq (iff (a3 (af oLt (nm 3) (aa (.int 5)))) (bh (br [(aa (.str "line")),(az 2),(af aJ (br [(aa (.str "shut")),(aa (.str "open")),(aa (.str "open")),(aa (.str "cut"))]) (af oMod (af oDiv (nm 1) (aa (.int 512))) (aa (.int 4))))])) skip) (seq (iff (a3 (af oLt (nm 3) (aa (.int 7)))) (bh (br [(aa (.str "ticks")),(af aU (aa (.int 1)) (af oMod (af oDiv (nm 1) (aa (.int 64))) (af aJ (br [(aa (.int 3)),(aa (.int 40)),(aa (.int 200))]) (af oMod (af oDiv (nm 1) (aa (.int 4096))) (aa (.int 3))))))])) skip) (seq (asg 4 (af aJ (af aJ (af aJ (nm 0) (aa (.int 1))) (af oMod (af oDiv (nm 1) (aa (.int 64))) (aw eC [(af aJ (nm 0) (aa (.int 1)))]))) (aa (.int 0)))) (seq (iff (a3 (af oEq (af oMod (af oDiv (nm 1) (aa (.int 65536))) (aa (.int 4))) (aa (.int 0)))) (asg 4 (af aJ (br [(aa (.str "0001")),(aa (.str "1111")),(aa (.str "9999")),(aa (.str "0000"))]) (af oMod (af oDiv (nm 1) (aa (.int 512))) (aa (.int 4))))) skip) (seq (asg 5 (af aJ (br [(aa (.str "set")),(aa (.str "set")),(aa (.str "unset")),(aa (.str "shunt")),(aa (.str "free")),(aa (.str "shunt"))]) (af oMod (af oDiv (nm 1) (aa (.int 4096))) (aa (.int 6))))) (seq (iff (a3 (af (gJ false) (nm 5) (br [(aa (.str "set")),(aa (.str "unset"))]))) (bh (br [(aa (.str "code")),(az 4),(az 5),(aa .none)])) skip) (bh (br [(aa (.str "code")),(az 4),(az 5),(az 2)]))))))))))
def rh:List T->Option T:=bV PW 6
noncomputable def BY:bx:=
  (seq (asg 3 (aw dS [(comp 1 [0,1] (hM (af oMod (nm 1) (af aU (nm 2) (aa (.int 1))))) (a8 0) (ct true) (aw rh [(az 1),(af oDiv (aw g5 [(az 2),(af aU (aa (.int 30)) (nm 0))]) (aa (.int 4)))]))])) (seq (iff (e6 (a3 (af oEq (af oMod (af oDiv (nm 1) (aa (.int 64))) (aa (.int 5))) (aa (.int 0)))) (a3 (af iJ (aw eC [(nm 3)]) (aa (.int 2))))) (asg 3 (af aU (slice (nm 3) optN (opt (dQ og (aa (.int 3))))) (af xo (br [(br [(aa (.str "code")),(aa (.str "5555")),(aa (.str "unset")),(aa .none)])]) (aa (.int 3))))) skip) (bh (nm 3))))
def yz:List T->Option T:=bV BY 4
end bU
end
section
namespace ei
open D bU
noncomputable def yl:bx:=
  (seq (asg 1 (af aU (aa (.int 1)) (af oMod (nm 0) (aa (.int 7))))) (seq (asg 2 (br [])) (seq (gR (hM (af oMod (af oDiv (nm 0) (aa (.int 8))) (aa (.int 11)))) (a8 3) (seq (asg 4 (af oDiv (aw g5 [(az 0),(af aU (aa (.int 50)) (nm 3))]) (aa (.int 4)))) (seq (asg 5 (af oMod (nm 4) (af aU (nm 1) (aa (.int 1))))) (seq (asg 6 (af oMod (af aU (af aU (nm 5) (aa (.int 1))) (af oMod (af oDiv (nm 4) (aa (.int 8))) (nm 1))) (af aU (nm 1) (aa (.int 1))))) (seq (asg 7 (af aJ (br [(aa .none),(aa .none),(aa (.str "a")),(aa (.str "b")),(aa (.str "back")),(aa (.str "hall")),(aa (.str "win"))]) (af oMod (af oDiv (nm 4) (aa (.int 64))) (aa (.int 7))))) (asg 2 (af aU (nm 2) (br [(br [(aw mY [(nm 5),(nm 6)]),(aw mX [(nm 5),(nm 6)]),(az 7)])])))))))) (bh (br [(az 1),(az 2)])))))
def qB:List T->Option T:=bV yl 8
def agT:bx:=
  (bh (af kj (aa (.str "")) (comp 1 [] (b9 (az 0)) (a8 0) (ct true) (af aU (af kj (aa (.str " ")) (nm 0)) (aa (.str "\n"))))))
def p8:List T->Option T:=bV agT 1
def aeV:bx:=
  (bh (br [(aa (.str "zone")),(af aJ (nm 0) (aa (.int 0))),(af aJ (nm 0) (aa (.int 1)))]))
def u':List T->Option T:=bV aeV 1
noncomputable def OI:bx:=
  (seq (asg 1 (az 0)) (seq (asg 2 (aa (.str ""))) (seq (j' (a3 (af l2 (nm 1) (af kQ (aa (.int 10)) (aa (.int 64))))) (seq (asg 2 (af aU (af tQ (aw jv [(af oMod (nm 1) (af kQ (aa (.int 10)) (aa (.int 64))))]) (aa (.int 64))) (nm 2))) (asg 1 (af rD (nm 1) (af kQ (aa (.int 10)) (aa (.int 64)))))) 1000) (bh (af aU (aw jv [(nm 1)]) (nm 2))))))
def ir:List T->Option T:=bV OI 3
noncomputable def aeY:bx:=
  (bh (af aU (br [(aa (.str "code")),(af aJ (nm 0) (aa (.int 0))),(af aJ (nm 0) (aa (.int 1))),(aw ir [(af aJ (nm 0) (aa (.int 3)))])]) (af aJ (nm 0) (aa (.int 2)))))
def al3:List T->Option T:=bV aeY 1
noncomputable def O3:bx:=
  (seq (asg 1 (af aU (eh [(aa (.str "times"))]) (comp 1 [] (b9 (af aJ (nm 0) (aa (.int 2)))) (a8 0) (ct true) (aw ir [(az 0)])))) (seq (asg 2 (comp 1 [] (b9 (af aJ (nm 0) (aa (.int 0)))) (a8 0) (ct true) (aw u' [(az 0)]))) (seq (asg 3 (comp 1 [] (b9 (af aJ (nm 0) (aa (.int 1)))) (a8 0) (ct true) (aw al3 [(az 0)]))) (bh (aw p8 [(af aU (af aU (eh [(az 1)]) (nm 2)) (nm 3))])))))
def kM:List T->Option T:=bV O3 4
noncomputable def Oy:bx:=
  (seq (asg 1 (jW (a3 (dQ gX (af aJ (nm 0) (aa (.int 2))))) (aa (.str "-")) (af aJ (nm 0) (aa (.int 2))))) (bh (br [(aw ir [(af aJ (nm 0) (aa (.int 0)))]),(aw ir [(af aJ (nm 0) (aa (.int 1)))]),(az 1)])))
def pX:List T->Option T:=bV Oy 2
noncomputable def OO:bx:=
  (seq (asg 1 (br [(aa (.str "rooms")),(aw ir [(af aJ (nm 0) (aa (.int 0)))])])) (bh (aw p8 [(af aU (eh [(az 1)]) (comp 1 [] (b9 (af aJ (nm 0) (aa (.int 1)))) (a8 0) (ct true) (aw pX [(az 0)])))])))
def kd:List T->Option T:=bV OO 2
noncomputable def OJ:bx:=
  (seq (iff (a3 (af oEq (af aJ (nm 0) (aa (.int 0))) (aa (.str "ticks")))) (bh (br [(aa (.str "ticks")),(aw ir [(af aJ (nm 0) (aa (.int 1)))])])) skip) (seq (iff (e6 (a3 (af oEq (af aJ (nm 0) (aa (.int 0))) (aa (.str "code")))) (a3 (dQ gX (af aJ (nm 0) (aa (.int 3)))))) (bh (da (nm 0) optN (opt (aa (.int 3))))) skip) (bh (nm 0))))
def rb:List T->Option T:=bV OJ 1
def af2:bx:=
  (bh (aw p8 [(comp 1 [] (b9 (az 0)) (a8 0) (ct true) (aw rb [(az 0)]))]))
def kN:List T->Option T:=bV af2 1
def af4:bx:=
  (bh (fG (dQ (sC "tuple") (nm 0)) (chain oLe oLe (nm 1) (aw eC [(nm 0)]) (nm 2))))
def d6:List T->Option T:=bV af4 3
def ajb:bx:=
  (bh (aw iU [(comp 2 [] (vX (fc (az 0)) (fc (da (nm 0) (opt (aa (.int 1))) optN))) (eH [(a8 0),(a8 1)]) (ct true) (af oLt (nm 0) (nm 1)))]))
def nz:List T->Option T:=bV ajb 1
noncomputable def PX:bx:=
  (seq (iff (dB (dq (a3 (dQ (sC "str") (nm 0)))) (dq (a3 (chain oLe oLe (nm 1) (aw eC [(nm 0)]) (nm 2))))) (bh (aa (.bool false))) skip) (bh (aw iU [(comp 1 [3,4] (b9 (az 0)) (a8 0) (ct true) (chain oLe oLe (nm 1) (nm 0) (nm 2)))])))
def mi:List T->Option T:=bV PX 5
def agX:bx:=
  (bh (aw mi [(az 0),(aa (.int 1)),(aa (.int 4)),(aa (.str "a")),(aa (.str "z"))]))
def ri:List T->Option T:=bV agX 1
noncomputable def agV:bx:=
  (bh (fG (aw d6 [(az 0),(aa (.int 2)),(aa (.int 2))]) (fG (aw ri [(af aJ (nm 0) (aa (.int 0)))]) (af (gJ false) (af aJ (nm 0) (aa (.int 1))) (aa (.tuple (lI ["day","inner","once","way"])))))))
def vj:List T->Option T:=bV agV 1
noncomputable def O5:bx:=
  (seq (iff (dB (dq (a3 (aw d6 [(az 0),(aa (.int 1)),(aa (.int 8))]))) (dq (a3 (aw iU [(comp 1 [] (b9 (az 0)) (a8 0) (ct true) (aw vj [(az 0)]))])))) (bh (aa (.bool false))) skip) (bh (aw nz [(comp 1 [] (b9 (az 0)) (a8 0) (ct true) (af aJ (nm 0) (aa (.int 0))))])))
def x6:List T->Option T:=bV O5 1
def aeX:bx:=
  (bh (aw mi [(az 0),(aa (.int 4)),(aa (.int 4)),(aa (.str "0")),(aa (.str "9"))]))
def tb:List T->Option T:=bV aeX 1
noncomputable def aeZ:bx:=
  (bh (fG (aw d6 [(az 0),(aa (.int 0)),(aa (.int 3))]) (fG (aw iU [(comp 1 [] (b9 (az 0)) (a8 0) (ct true) (af (gJ false) (nm 0) (aa (.tuple (lI ["set","shunt","unset"])))))]) (aw nz [(az 0)]))))
def Bd:List T->Option T:=bV aeZ 1
def af3:bx:=
  (bh (fG (dQ (sC "int") (nm 0)) (xn (dQ (sC "bool") (nm 0)))))
def ve:List T->Option T:=bV af3 1
def afq:bx:=
  (bh (fG (aw ve [(az 0)]) (chain oLe oLe (nm 1) (nm 0) (nm 2))))
def ke:List T->Option T:=bV afq 3
noncomputable def PY:bx:=
  (seq (iff (dq (a3 (aw d6 [(az 0),(aa (.int 4)),(aa (.int 4))]))) (bh (aa (.bool false))) skip) (bh (fG (aw tb [(af aJ (nm 0) (aa (.int 0)))]) (fG (aw ri [(af aJ (nm 0) (aa (.int 1)))]) (fG (aw Bd [(af aJ (nm 0) (aa (.int 2)))]) (aw ke [(af aJ (nm 0) (aa (.int 3))),(aa (.int 0)),(aa (.int 9))]))))))
def amg:List T->Option T:=bV PY 1
noncomputable def O7:bx:=
  (seq (iff (dB (dq (a3 (aw d6 [(az 0),(aa (.int 1)),(aa (.int 6))]))) (dq (a3 (aw iU [(comp 1 [] (b9 (az 0)) (a8 0) (ct true) (aw amg [(az 0)]))])))) (bh (aa (.bool false))) skip) (bh (aw nz [(comp 1 [] (b9 (az 0)) (a8 0) (ct true) (af aJ (nm 0) (aa (.int 0))))])))
def x8:List T->Option T:=bV O7 1
noncomputable def O6:bx:=
  (seq (iff (dq (a3 (aw d6 [(az 0),(aa (.int 3)),(aa (.int 3))]))) (bh (aa (.bool false))) skip) (bh (fG (aw ke [(af aJ (nm 0) (aa (.int 0))),(aa (.int 0)),(aa (.int 60))]) (fG (aw ke [(af aJ (nm 0) (aa (.int 1))),(aa (.int 0)),(aa (.int 60))]) (aw ke [(af aJ (nm 0) (aa (.int 2))),(aa (.int 1)),(aa (.int 300))])))))
def x7:List T->Option T:=bV O6 1
noncomputable def agW:bx:=
  (bh (fG (aw d6 [(az 0),(aa (.int 3)),(aa (.int 3))]) (fG (aw x6 [(af aJ (nm 0) (aa (.int 0)))]) (fG (aw x8 [(af aJ (nm 0) (aa (.int 1)))]) (aw x7 [(af aJ (nm 0) (aa (.int 2)))])))))
def nt:List T->Option T:=bV agW 1
noncomputable def ON:bx:=
  (seq (iff (dB (dq (a3 (aw d6 [(az 1),(aa (.int 3)),(aa (.int 3))]))) (dq (a3 (aw ke [(af aJ (nm 1) (aa (.int 1))),(aa (.int 1)),(az 0)])))) (bh (aa (.bool false))) skip) (bh (fG (aw ke [(af aJ (nm 1) (aa (.int 0))),(aa (.int 0)),(af oi (af aJ (nm 1) (aa (.int 1))) (aa (.int 1)))]) (qZ (dQ gX (af aJ (nm 1) (aa (.int 2)))) (aw ri [(af aJ (nm 1) (aa (.int 2)))])))))
def xZ:List T->Option T:=bV ON 2
noncomputable def Pn:bx:=
  (seq (iff (dB (dq (a3 (aw d6 [(az 0),(aa (.int 2)),(aa (.int 2))]))) (dB (dq (a3 (aw ke [(af aJ (nm 0) (aa (.int 0))),(aa (.int 1)),(aa (.int 7))]))) (dq (a3 (aw d6 [(af aJ (nm 0) (aa (.int 1))),(aa (.int 0)),(aa (.int 10))]))))) (bh (aa (.bool false))) skip) (bh (aw iU [(comp 1 [0] (b9 (af aJ (nm 0) (aa (.int 1)))) (a8 0) (ct true) (aw xZ [(af aJ (nm 1) (aa (.int 0))),(az 0)]))])))
def lE:List T->Option T:=bV Pn 1
def af6:bx:=
  (bh (af (gJ false) (nm 1) (comp 1 [] (b9 (af aJ (nm 0) (aa (.int 0)))) (a8 0) (ct true) (af aJ (nm 0) (aa (.int 0))))))
def vf:List T->Option T:=bV af6 2
noncomputable def ad9:bx:=
  (bh (fG (aw d6 [(az 1),(aa (.int 3)),(aa (.int 3))]) (fG (af oEq (af aJ (nm 1) (aa (.int 0))) (aa (.str "line"))) (fG (aw vf [(az 0),(af aJ (nm 1) (aa (.int 1)))]) (af (gJ false) (af aJ (nm 1) (aa (.int 2))) (aa (.tuple (lI ["shut","open","cut"]))))))))
def A2:List T->Option T:=bV ad9 2
noncomputable def Oz:bx:=
  (seq (iff (dB (dq (a3 (aw d6 [(az 1),(aa (.int 4)),(aa (.int 4))]))) (dB (a3 (af dG (af aJ (nm 1) (aa (.int 0))) (aa (.str "code")))) (dq (a3 (aw tb [(af aJ (nm 1) (aa (.int 1)))]))))) (bh (aa (.bool false))) skip) (seq (iff (a3 (af (gJ false) (af aJ (nm 1) (aa (.int 2))) (aa (.tuple (lI ["set","unset"]))))) (bh (dQ gX (af aJ (nm 1) (aa (.int 3))))) skip) (bh (fG (af (gJ false) (af aJ (nm 1) (aa (.int 2))) (aa (.tuple (lI ["shunt","free"])))) (aw vf [(az 0),(af aJ (nm 1) (aa (.int 3)))])))))
def xP:List T->Option T:=bV Oz 2
noncomputable def ad3:bx:=
  (bh (fG (aw d6 [(az 0),(aa (.int 2)),(aa (.int 2))]) (fG (af oEq (af aJ (nm 0) (aa (.int 0))) (aa (.str "ticks"))) (fG (aw ve [(af aJ (nm 0) (aa (.int 1)))]) (af l2 (af aJ (nm 0) (aa (.int 1))) (aa (.int 1)))))))
def AX:List T->Option T:=bV ad3 1
def af5:bx:=
  (bh (qZ (aw A2 [(az 0),(az 1)]) (qZ (aw xP [(az 0),(az 1)]) (aw AX [(az 1)]))))
def nk:List T->Option T:=bV af5 2
noncomputable def O4:bx:=
  (seq (iff (dq (a3 (aw mi [(az 0),(aa (.int 1)),(aw eC [(nm 0)]),(aa (.str "0")),(aa (.str "9"))]))) (bh (aa .none)) skip) (seq (asg 1 (aa (.int 0))) (seq (gR (b9 (az 0)) (a8 2) (asg 1 (af oi (af aU (af dw (nm 1) (aa (.int 10))) (aw pJ [(nm 2)])) (aw pJ [(aa (.str "0"))])))) (bh (nm 1)))))
def x5:List T->Option T:=bV O4 3
def aeW:bx:=
  (bh (aw dS [(comp 1 [] (b9 (az 0)) (a8 0) (ct true) (aw x5 [(az 0)]))]))
def oz:List T->Option T:=bV aeW 1
noncomputable def OP:bx:=
  (seq (iff (a3 (af oEq (af aJ (nm 0) (aa (.int 0))) (aa (.str "ticks")))) (bh (af aU (br [(aa (.str "ticks"))]) (aw oz [(da (nm 0) (opt (aa (.int 1))) optN)]))) skip) (seq (iff (e6 (a3 (af oEq (af aJ (nm 0) (aa (.int 0))) (aa (.str "code")))) (a3 (af oEq (aw eC [(nm 0)]) (aa (.int 3))))) (bh (af aU (aw dS [(nm 0)]) (br [(aa .none)]))) skip) (bh (aw dS [(nm 0)]))))
def oA:List T->Option T:=bV OP 1
def agU:bx:=
  (bh (comp 1 [] (b9 (da (af tR (nm 0) (aa (.str "\n"))) optN (opt (dQ og (aa (.int 1)))))) (a8 0) (ct true) (af tR (nm 0) (aa (.str " ")))))
def gg:List T->Option T:=bV agU 1
noncomputable def Pl:bx:=
  (seq (asg 2 (aw dS [(comp 1 [] (b9 (aw gg [(az 1)])) (a8 0) (ct true) (aw oA [(az 0)]))])) (seq (iff (dB (dq (a3 (aw iU [(comp 1 [0] (b9 (az 2)) (a8 0) (ct true) (aw nk [(az 1),(az 0)]))]))) (a3 (af dG (aw kN [(az 2)]) (nm 1)))) never skip) (bh (nm 2))))
def nj:List T->Option T:=bV Pl 3
noncomputable def x4:fp:=
  (hW (asg 2 (aw dS [(comp 1 [] (b9 (aw gg [(az 1)])) (a8 0) (ct true) (aw oA [(az 0)]))])) (lY (dB (dq (a3 (aw iU [(comp 1 [0] (b9 (az 2)) (a8 0) (ct true) (aw nk [(az 1),(az 0)]))]))) (a3 (af dG (aw kN [(az 2)]) (nm 1)))) (qY (aa (.str "this is no text of a row"))) sy))
def mf:List bQ->Bool:=xx x4 3
def ad8:bx:=
  (bh (jW (i9 (nm 0)) (aw oz [(da (af aJ (nm 0) (aa (.int 0))) (opt (aa (.int 1))) optN)]) (br [])))
def jD:List T->Option T:=bV ad8 1
noncomputable def afr:bx:=
  (bh (af aU (af aU (aw dS [(da (nm 0) (opt (aa (.int 1))) (opt (aa (.int 3))))]) (br [(aw dS [(da (nm 0) (opt (aa (.int 4))) optN)])])) (aw oz [(da (nm 0) (opt (aa (.int 3))) (opt (aa (.int 4))))])))
def p5:List T->Option T:=bV afr 1
noncomputable def O2:bx:=
  (seq (asg 1 (aw gg [(az 0)])) (seq (asg 2 (aw dS [(comp 1 [] (b9 (az 1)) (a8 0) (a3 (af oEq (af aJ (nm 0) (aa (.int 0))) (aa (.str "zone")))) (aw dS [(da (nm 0) (opt (aa (.int 1))) optN)]))])) (seq (asg 3 (aw dS [(comp 1 [] (b9 (az 1)) (a8 0) (a3 (af oEq (af aJ (nm 0) (aa (.int 0))) (aa (.str "code")))) (aw p5 [(az 0)]))])) (seq (asg 4 (br [(az 2),(az 3),(aw jD [(az 1)])])) (seq (iff (dB (dq (a3 (aw nt [(az 4)]))) (a3 (af dG (aw kM [(az 4)]) (nm 0)))) never skip) (bh (nm 4)))))))
def p4:List T->Option T:=bV O2 5
noncomputable def IX:fp:=
  (hW (asg 1 (aw gg [(az 0)])) (hW (asg 2 (aw dS [(comp 1 [] (b9 (az 1)) (a8 0) (a3 (af oEq (af aJ (nm 0) (aa (.int 0))) (aa (.str "zone")))) (aw dS [(da (nm 0) (opt (aa (.int 1))) optN)]))])) (hW (asg 3 (aw dS [(comp 1 [] (b9 (az 1)) (a8 0) (a3 (af oEq (af aJ (nm 0) (aa (.int 0))) (aa (.str "code")))) (aw p5 [(az 0)]))])) (hW (asg 4 (br [(az 2),(az 3),(aw jD [(az 1)])])) (lY (dB (dq (a3 (aw nt [(az 4)]))) (a3 (af dG (aw kM [(az 4)]) (nm 0)))) (qY (aa (.str "this is no text of a plan"))) sy)))))
def oB:List bQ->Bool:=xx IX 5
noncomputable def ad':bx:=
  (bh (af aU (aw oz [(da (nm 0) optN (opt (aa (.int 2))))]) (aw dS [(comp 1 [] (b9 (da (nm 0) (opt (aa (.int 2))) optN)) (a8 0) (ct true) (jW (a3 (af oEq (nm 0) (aa (.str "-")))) (aa .none) (az 0)))])))
def pZ:List T->Option T:=bV ad' 1
noncomputable def OM:bx:=
  (seq (asg 1 (aw gg [(az 0)])) (seq (asg 2 (aw dS [(comp 1 [] (b9 (da (nm 1) (opt (aa (.int 1))) optN)) (a8 0) (ct true) (aw pZ [(az 0)]))])) (seq (asg 3 (af aU (aw jD [(az 1)]) (br [(az 2)]))) (seq (iff (dB (dq (a3 (aw lE [(az 3)]))) (a3 (af dG (aw kd [(az 3)]) (nm 0)))) never skip) (bh (nm 3))))))
def ni:List T->Option T:=bV OM 4
noncomputable def xT:fp:=
  (hW (asg 1 (aw gg [(az 0)])) (hW (asg 2 (aw dS [(comp 1 [] (b9 (da (nm 1) (opt (aa (.int 1))) optN)) (a8 0) (ct true) (aw pZ [(az 0)]))])) (hW (asg 3 (af aU (aw jD [(az 1)]) (br [(az 2)]))) (lY (dB (dq (a3 (aw lE [(az 3)]))) (a3 (af dG (aw kd [(az 3)]) (nm 0)))) (qY (aa (.str "this is no text of a house"))) sy))))
def md:List bQ->Bool:=xx xT 4
end ei
end
section
namespace oX
open D bU ei
noncomputable def Pm:bx:=
  (seq (asg 1 (eh [(aa (.str "")),(aa (.str "\n")),(aa (.str "rooms 1\n")),(aa (.str "rooms 8\n")),(aa (.str "rooms 01\n")),(aa (.str "rooms 2\n0 1 -\n")),(aa (.str "rooms 2\n1 0 -\n"))])) (seq (asg 1 (af aU (nm 1) (eh [(aa (.str "ticks 1\n")),(aa (.str "ticks 0\n")),(aa (.str "ticks 01\n")),(af aU (af aU (aa (.str "line ")) (nm 0)) (aa (.str " open\n")))]))) (seq (asg 1 (af aU (nm 1) (eh [(af aU (af aU (aa (.str "line ")) (nm 0)) (aa (.str " wide\n"))),(aa (.str "line zzzz open\n")),(aa (.str "code 1234 set\n")),(aa (.str "code 123 set\n"))]))) (bh (af aU (nm 1) (eh [(af aU (af aU (aa (.str "code 1234 set ")) (nm 0)) (aa (.str "\n"))),(af aU (af aU (aa (.str "code 1234 free ")) (nm 0)) (aa (.str "\n"))),(aa (.str "code 1234 free\n"))]))))))
def yb:List T->Option T:=bV Pm 2
noncomputable def I9:bx:=
  (seq (asg 2 (af oMod (af oDiv (nm 1) (aa (.int 16))) (af aU (aw eC [(nm 0)]) (aa (.int 1))))) (seq (asg 3 (af aJ (aa (.str " \n0129abtwk-")) (af oMod (af oDiv (nm 1) (aa (.int 4096))) (aa (.int 12))))) (seq (asg 4 (af tR (nm 0) (aa (.str "\n")))) (seq (asg 5 (af oMod (af oDiv (nm 1) (aa (.int 16))) (aw eC [(nm 4)]))) (seq (iff (a3 (af oEq (af oMod (nm 1) (aa (.int 5))) (aa (.int 0)))) (bh (af aU (af aU (da (nm 0) optN (opt (nm 2))) (nm 3)) (da (nm 0) (opt (nm 2)) optN))) skip) (seq (iff (a3 (af oEq (af oMod (nm 1) (aa (.int 5))) (aa (.int 1)))) (bh (af aU (da (nm 0) optN (opt (nm 2))) (da (nm 0) (opt (af aU (nm 2) (aa (.int 1)))) optN))) skip) (seq (iff (a3 (af oEq (af oMod (nm 1) (aa (.int 5))) (aa (.int 2)))) (bh (af aU (af aU (da (nm 0) optN (opt (nm 2))) (nm 3)) (da (nm 0) (opt (af aU (nm 2) (aa (.int 1)))) optN))) skip) (seq (iff (a3 (af oEq (af oMod (nm 1) (aa (.int 5))) (aa (.int 3)))) (bh (af kj (aa (.str "\n")) (af aU (af aU (da (nm 4) optN (opt (nm 5))) (dQ vV (da (nm 4) (opt (nm 5)) (opt (af aU (nm 5) (aa (.int 2))))))) (da (nm 4) (opt (af aU (nm 5) (aa (.int 2)))) optN)))) skip) (bh (af kj (aa (.str "\n")) (af aU (da (nm 4) optN (opt (nm 5))) (da (nm 4) (opt (af aU (nm 5) (aa (.int 1)))) optN))))))))))))
def vc:List T->Option T:=bV I9 6
noncomputable def RN:bx:=
  (seq (asg 1 (aw kg [(az 0),(aa (.int 0))])) (seq (asg 2 (aw BQ [(aw kg [(az 0),(aa (.int 1))])])) (seq (h8 3 (eh [(aw kM [(az 2)]),(aw kd [(aw qB [(aw kg [(az 0),(aa (.int 2))])])])])) (seq (app 3 (aw kN [(aw yz [(az 2),(aw kg [(az 0),(aa (.int 3))]),(aa (.int 6))])])) (seq (jQ 3) (seq (gR (hM (af oMod (nm 1) (aa (.int 4)))) (a8 4) (asg 3 (comp 2 [0,4] (je (fc (az 3))) (eH [(a8 0),(a8 1)]) (ct true) (aw vc [(az 1),(af rD (aw kg [(az 2),(af aU (aa (.int 4)) (nm 3))]) (af aU (aa (.int 1)) (nm 0)))])))) (seq (asg 5 (af aJ (af aJ (af aJ (nm 2) (aa (.int 0))) (aa (.int 0))) (aa (.int 0)))) (seq (asg 6 (aw yb [(az 5)])) (seq (asg 7 (br [(aa (.int 0)),(aa (.int 2)),(aa (.int 5)),(aa (.int 7)),(aa (.int 10)),(aa (.int 13)),(aa (.int 16))])) (seq (asg 8 (af oMod (af oDiv (nm 1) (aa (.int 16))) (aa (.int 18)))) (seq (asg 9 (af aJ (nm 6) (nm 8))) (seq (h8 10 (eh [(af aJ (jg (aw p4 [(az 9)]) (kk oB [.v (az 9)]) 3) (aa (.int 0)))])) (seq (app 10 (af aJ (jg (aw ni [(az 9)]) (kk md [.v (az 9)]) 3) (aa (.int 0)))) (seq (app 10 (af aJ (jg (aw nj [(az 2),(az 9)]) (kk mf [.v (az 2),.v (az 9)]) 3) (aa (.int 0)))) (seq (iff (a3 (af dG (af (gJ false) (aa (.str "told")) (nm 10)) (af (gJ false) (nm 8) (nm 7)))) (bh (aa (.bool false))) skip) (seq (gR (b9 (af aU (nm 3) (da (nm 6) (opt (nm 8)) (opt (af aU (nm 8) (aa (.int 1))))))) (a8 9) (seq (asg 11 (jg (aw p4 [(az 9)]) (kk oB [.v (az 9)]) 3)) (seq (iff (e6 (a3 (af oEq (af aJ (nm 11) (aa (.int 0))) (aa (.str "told")))) (dB (dq (a3 (aw nt [(af aJ (nm 11) (aa (.int 1)))]))) (a3 (af dG (aw kM [(af aJ (nm 11) (aa (.int 1)))]) (nm 9))))) (bh (aa (.bool false))) skip) (seq (asg 12 (jg (aw ni [(az 9)]) (kk md [.v (az 9)]) 3)) (seq (iff (e6 (a3 (af oEq (af aJ (nm 12) (aa (.int 0))) (aa (.str "told")))) (dB (dq (a3 (aw lE [(af aJ (nm 12) (aa (.int 1)))]))) (a3 (af dG (aw kd [(af aJ (nm 12) (aa (.int 1)))]) (nm 9))))) (bh (aa (.bool false))) skip) (seq (iff (dB (e6 (a3 (af dG (af aJ (nm 11) (aa (.int 0))) (aa (.str "told")))) (a3 (af dG (nm 11) (br [(aa (.str "refused")),(aa (.int 3))])))) (e6 (a3 (af dG (af aJ (nm 12) (aa (.int 0))) (aa (.str "told")))) (a3 (af dG (nm 12) (br [(aa (.str "refused")),(aa (.int 3))]))))) (bh (aa (.bool false))) skip) (seq (asg 11 (jg (aw nj [(az 2),(az 9)]) (kk mf [.v (az 2),.v (az 9)]) 3)) (iff (a3 (af oEq (af aJ (nm 11) (aa (.int 0))) (aa (.str "told")))) (seq (asg 13 (comp 1 [2] (b9 (af aJ (nm 11) (aa (.int 1)))) (a8 0) (dq (a3 (aw nk [(az 1),(az 0)]))) (az 0))) (iff (dB (a3 (af dG (nm 13) (eh []))) (a3 (af dG (aw kN [(af aJ (nm 11) (aa (.int 1)))]) (nm 9)))) (bh (aa (.bool false))) skip)) (iff (a3 (af dG (nm 11) (br [(aa (.str "refused")),(aa (.int 3))]))) (bh (aa (.bool false))) skip))))))))) (bh (aa (.bool true)))))))))))))))))))
def vY:List T->Option T:=bV RN 14
end oX
end
section
namespace oX
open PySem PySem.Spec PyProof.Rows bB D bU ei
variable [cB]
def top(i:Nat):Stmt:=PySem.Challenge.pw_doorwatch_k51_texts_or_not.main.body.getD i (.Pass ⟨0,0,0,0⟩)
section
variable {P:c3}{w:cf}{K:a'}{mg:Str->Option av}{base:bP}{k:Nat}{f:aq}{fd:fa}
def adK{α:Type}{us:List α}(h:us.length=1):∃a,us=[a]:=match us,h with|[a],_=>⟨_,rfl⟩
def adL{α:Type}{us:List α}(h:us.length=2):∃a b,us=[a,b]:=match us,h with|[a,b],_=>⟨_,_,rfl⟩
def adM{α:Type}{us:List α}(h:us.length=3):∃a b c,us=[a,b,c]:=match us,h with|[a,b,c],_=>⟨_,_,_,rfl⟩
def IG{α:Type}{us:List α}(h:us.length=5):∃a b c d e,us=[a,b,c,d,e]:=match us,h with|[a,b,c,d,e],_=>⟨_,_,_,_,_,rfl⟩
set_option hygiene false in
local macro_rules | `(unop% bD $F) => `(cE.binds $F λ_ _ _ _ _ _ us aH => by obtain ⟨_, rfl⟩ := adK aH; rfl)
set_option hygiene false in
local macro_rules | `(unop% b7 $F) => `(cE.binds $F λ_ _ _ _ _ _ us aH => by obtain ⟨_, _, rfl⟩ := adL aH; rfl)
set_option hygiene false in
local macro_rules | `(unop% ek $F) => `(cE.binds $F λ_ _ _ _ _ _ us aH => by obtain ⟨_, _, _, rfl⟩ := adM aH; rfl)
set_option hygiene false in
local macro_rules | `(unop% o6 $F) => `(cE.binds $F λ_ _ _ _ _ _ us aH => by obtain ⟨_, _, _, _, _, rfl⟩ := IG aH; rfl)
local macro_rules | `(unop% dC 0) => `(⟨rfl, rfl, rfl, by decide +kernel, rfl, by decide +kernel, by decide +kernel⟩)
set_option hygiene false in
local macro_rules | `(unop% lm $t) => `(λbY A outer s H E ax => $t)
local macro_rules | `(unop% bX $t) => `(λ_ _ _ _ _ _ => $t)
local macro_rules | `(unop% bb $l) => `(show List.Nodup ($l : List Str) by decide +kernel)
local macro_rules | `(binop% co $s $l) => `(aki (sc := bS $s) $l rfl rfl rfl (by decide +kernel))
set_option hygiene false in
local macro_rules | `(binop% hu $a $b) => `(mr (Ko (by exact ax.units)) Kq $a $b)
set_option hygiene false in
local macro_rules | `(binop% i7 $a $b) => `(mr (ajT (by exact ax.units)) ajX $a $b)
abbrev Bk:Stmt:=top 58
def aeu:cY ["_law_script","_law_k"] ["_law_script","_law_k"] (bS Bk):=unop%dC 0
def I5(F:cE K "_law_cell_at" "_law_cell_at" Bk f fd)(m:mg "_law_cell_at"=some (.ref f))(alW:mg "len"=none):Cl P w K mg base "_law_cell_at" (k+1) 2 lD:=
 dM F aeu (unop%b7 F) m unop%lm
  (bT (eD (mr (yW.or yi) yK (aL 1) (aj (oI (by exact alW) (dX (aL 0) d7)))) (b0 (cz (bK (aL 0) (aL 1)))) eK) (b0 (cz aG)))
abbrev Bz:Stmt:=top 59
def O9:cY ["_law_script","_law_k","_law_drawn_here"] ["_law_script","_law_k"] (bS Bz):=unop%dC 0
def tl(F:cE K "_law_mixed" "_law_mixed" Bz f fd)(m:mg "_law_mixed"=some (.ref f))(I5:Cl P w K mg base "_law_cell_at" k 2 lD):Cl P w K mg base "_law_mixed" (k+1) 2 kg:=
 dM F O9 (unop%b7 F) m unop%lm
  (bT (cI 2 O9.bb (d8 (aj (qm (aj (cJ (aj (cJ (aj (bz I5 ax (ay (bc 0) (ay (bc 1) aX)))) (aj (qm (aj aG) (aL 1))))) (aj aG))) (aj aG))) (aj aG))) (b0 (cz (d8 (aj (cJ (aj (cJ (aj (qm (aL 2) (aL 2))) (aj (qm (aj aG) (aL 2))))) (aL 1))) (aj aG)))))
abbrev BC:Stmt:=top 60
def O_:cY ["_law_number","_law_k","_law_drawn_here"] ["_law_number","_law_k"] (bS BC):=unop%dC 0
def p9(F:cE K "_law_drawn" "_law_drawn" BC f fd)(m:mg "_law_drawn"=some (.ref f)) :Cl P w K mg base "_law_drawn" (k+1) 2 g5:=
 dM F O_ (unop%b7 F) m unop%lm
  (bT (cI 2 O_.bb (d8 (aj (qm (aj (cJ (aj (cJ (aL 0) (aj (qm (aj aG) (aL 1))))) (aj aG))) (aj aG))) (aj aG))) (b0 (cz (d8 (aj (cJ (aj (cJ (aj (qm (aL 2) (aL 2))) (aj (qm (aj aG) (aL 2))))) (aL 1))) (aj aG)))))
abbrev ym:Stmt:=top 62
def kf:cY ["_law_number","_law_zones","_law_k","_law_name","_law_drawn_here","_law_codes","_law_figures","_law_rights","_law_who","_law_times"] ["_law_number"] (bS ym):=unop%dC 0
def JI(F:cE K "_law_plan" "_law_plan" ym f fd)(m:mg "_law_plan"=some (.ref f))(nB:mg "enumerate"=none)(p9:Cl P w K mg base "_law_drawn" k 2 g5)(dN:mg "tuple"=none)(jH:mg "range"=none):Cl P w K mg base "_law_plan" (k+1) 1 BQ:=
 dM F kf (unop%bD F) m unop%lm
  (bT (cI 1 kf.bb (dE aX)) (bT (vS s6 (Q6 nB (dE (ay bA (ay bA (ay bA (ay bA (ay bA (ay bA (ay bA (ay bA aX)))))))))) (Cs (rx (d4 2 kf.bb) (rx (d4 3 kf.bb) Ct))) (bT (cI 4 kf.bb (fP (aj (bz p9 ax (ay (bc 0) (ay (bc 2) aX)))) (aj aG))) (b0 (eD (gx (w_or (mr (yW.or yi) yK (aj (d8 (aL 4) (aj aG))) (aj (cJ (aj aG) (aj (d8 (aL 0) (aj aG)))))) (iR (binop%hu (aL 2) (aj (d8 (aj (fP (aL 0) (aj aG))) (aj aG))))))) (b0 (cI 1 kf.bb (cJ (aL 1) (aj (dE (ay (dE (ay (bc 3) (ay (bK (aj (dE (ay bA (ay bA (ay bA (ay bA (ay bA aX))))))) (aj (d8 (aj (fP (aL 4) (aj aG))) (aj aG)))) aX))) aX)))))) eK)))) (bT (cI 5 kf.bb (dE aX)) (bT (vS s6 (Q6 nB (dE (ay bA (ay bA (ay bA (ay bA (ay bA (ay bA aX)))))))) (Cs (rx (d4 2 kf.bb) (rx (d4 6 kf.bb) Ct))) (bT (cI 4 kf.bb (fP (aj (bz p9 ax (ay (bc 0) (ay (cJ (aj aG) (aL 2)) aX)))) (aj aG))) (b0 (eD (gx (w_or (mr (KR.or Jl) Kp (aj (d8 (aL 4) (aj aG))) (aj aG)) (iR (binop%hu (aL 2) (aj aG))))) (bT (cI 7 kf.bb (iP dN (dX (aj (fN (own:=["_law_j"]) (caps:=[(4,"_law_drawn_here")]) (binop%co ym ["_law_number","_law_zones","_law_k","_law_name","_law_drawn_here","_law_codes","_law_figures","_law_rights","_law_who","_law_times"]) (Ca jH (aj aG)) (unop%bX (d4 0 (unop%bb ["_law_j","_law_drawn_here"]))) (unop%bX (vE (mr (KR.or Jl) Kp (aj (d8 (aj (fP (aL 1) (aj (bK (aj (dE (ay aG (ay aG (ay aG aX))))) (aL 0))))) (aj aG))) (aj aG)))) (unop%bX (bK (aj (dE (ay bA (ay bA (ay bA aX))))) (aL 0))))) d7))) (bT (cI 8 kf.bb (bK (aj (dE (ay bA (ay bA (ay bA aX))))) (aj (d8 (aj (fP (aL 4) (aj aG))) (aj aG))))) (b0 (cI 5 kf.bb (cJ (aL 5) (aj (dE (ay (dE (ay (bc 6) (ay (bc 8) (ay (bc 7) (ay (bK (aj (dE (ay aG (ay aG (ay aG (ay aG (ay aG aX))))))) (aj (d8 (aj (fP (aL 4) (aj aG))) (aj aG)))) aX))))) aX)))))))) eK)))) (bT (cI 4 kf.bb (fP (aj (bz p9 ax (ay (bc 0) (ay aG aX)))) (aj aG))) (bT (cI 9 kf.bb (dE (ay (bK (aj (dE (ay aG (ay aG (ay aG (ay aG aX)))))) (aj (d8 (aL 4) (aj aG)))) (ay (bK (aj (dE (ay aG (ay aG (ay aG (ay aG aX)))))) (aj (d8 (aj (fP (aL 4) (aj aG))) (aj aG)))) (ay (bK (aj (dE (ay aG (ay aG (ay aG (ay aG aX)))))) (aj (d8 (aj (fP (aL 4) (aj aG))) (aj aG)))) aX))))) (b0 (cz (dE (ay (bc 1) (ay (bc 5) (ay (bc 9) aX))))))))))))
abbrev Bq:Stmt:=top 67
def Bh:cY ["_law_name","_law_little_here"] ["_law_name"] (bS Bq):=unop%dC 0
def Jg(F:cE K "_law_little" "_law_little" Bq f fd)(m:mg "_law_little"=some (.ref f)) :Cl P w K mg base "_law_little" (k+1) 1 yb:=
 dM F Bh (unop%bD F) m unop%lm
  (bT (cI 1 Bh.bb (rt (ay bA (ay bA (ay bA (ay bA (ay bA (ay bA (ay bA aX))))))))) (bT (cI 1 Bh.bb (cJ (aL 1) (aj (rt (ay bA (ay bA (ay bA (ay (cJ (aj (cJ (aj bA) (aL 0))) (aj bA)) aX)))))))) (bT (cI 1 Bh.bb (cJ (aL 1) (aj (rt (ay (cJ (aj (cJ (aj bA) (aL 0))) (aj bA)) (ay bA (ay bA (ay bA aX)))))))) (b0 (cz (cJ (aL 1) (aj (rt (ay (cJ (aj (cJ (aj bA) (aL 0))) (aj bA)) (ay (cJ (aj (cJ (aj bA) (aL 0))) (aj bA)) (ay bA aX)))))))))))
abbrev yf:Stmt:=top 38
def afw:cY ["rows"] ["rows"] (bS yf):=unop%dC 0
def tj(F:cE K "text_of" "text_of" yf f fd)(m:mg "text_of"=some (.ref f)) :Cl P w K mg base "text_of" (k+1) 1 p8:=
 dM F afw (unop%bD F) m unop%lm
  (b0 (cz (B6 (aj bA) (aj (fN (own:=["parts"]) (caps:=[]) (binop%co yf ["rows"]) (alV (bc 0)) (unop%bX (d4 0 (unop%bb ["parts"]))) (unop%bX gi) (unop%bX (cJ (aj (B6 (aj bA) (aL 0))) (aj bA))))))))
abbrev A9:Stmt:=top 39
def aec:cY ["zone"] ["zone"] (bS A9):=unop%dC 0
def IY(F:cE K "zone_parts" "zone_parts" A9 f fd)(m:mg "zone_parts"=some (.ref f)) :Cl P w K mg base "zone_parts" (k+1) 1 u':=
 dM F aec (unop%bD F) m unop%lm
  (b0 (cz (dE (ay bA (ay (bK (aL 0) (aj aG)) (ay (bK (aL 0) (aj aG)) aX))))))
abbrev A4:Stmt:=top 37
def xQ:cY ["number","ahead","behind"] ["number"] (bS A4):=unop%dC 0
def mc(F:cE K "number_text" "number_text" A4 f fd)(m:mg "number_text"=some (.ref f))(nC:mg "str"=none):Cl P w K mg base "number_text" (k+1) 1 ir:=
 dM F xQ (unop%bD F) m unop%lm
  (bT (cI 1 xQ.bb (bc 0)) (bT (cI 2 xQ.bb bA) (bT (aid 1000 s6 (mr (Rv.or PC) QY (aL 1) (aj (Km (aj aG) (aj aG)))) (bT (cI 2 xQ.bb (cJ (aj (aij (aj (QR nC (dX (aj (d8 (aL 1) (aj (Km (aj aG) (aj aG))))) d7))) (aj aG))) (aL 2))) (b0 (cI 1 xQ.bb (QS (aL 1) (aj (Km (aj aG) (aj aG)))))))) (b0 (cz (cJ (aj (QR nC (dX (aL 1) d7))) (aL 2)))))))
abbrev Bb:Stmt:=top 40
def aeh:cY ["code"] ["code"] (bS Bb):=unop%dC 0
def I0(F:cE K "code_parts" "code_parts" Bb f fd)(m:mg "code_parts"=some (.ref f))(mc:Cl P w K mg base "number_text" k 1 ir):Cl P w K mg base "code_parts" (k+1) 1 al3:=
 dM F aeh (unop%bD F) m unop%lm
  (b0 (cz (cJ (aj (dE (ay bA (ay (bK (aL 0) (aj aG)) (ay (bK (aL 0) (aj aG)) (ay (bz mc ax (ay (bK (aL 0) (aj aG)) aX)) aX)))))) (aj (bK (aL 0) (aj aG))))))
abbrev tc:Stmt:=top 41
def A7:cY ["plan","times","zones","codes"] ["plan"] (bS tc):=unop%dC 0
def rf(F:cE K "plan_text" "plan_text" tc f fd)(m:mg "plan_text"=some (.ref f))(tj:Cl P w K mg base "text_of" k 1 p8)(IY:Cl P w K mg base "zone_parts" k 1 u')(I0:Cl P w K mg base "code_parts" k 1 al3)(mc:Cl P w K mg base "number_text" k 1 ir):Cl P w K mg base "plan_text" (k+1) 1 kM:=
 dM F A7 (unop%bD F) m unop%lm
  (bT (cI 1 A7.bb (cJ (aj (rt (ay bA aX))) (aj (fN (own:=["time"]) (caps:=[]) (binop%co tc ["plan","times","zones","codes"]) (alV (bK (aL 0) (aj aG))) (unop%bX (d4 0 (unop%bb ["time"]))) (unop%bX gi) (unop%bX (bz (by exact mc) (by exact ax) (ay (bc 0) aX))))))) (bT (B5 2 A7.bb (own:=["zone"]) (caps:=[]) (binop%co tc ["plan","times","zones","codes"]) (alV (bK (aL 0) (aj aG))) (unop%bX (d4 0 (unop%bb ["zone"]))) (unop%bX gi) (unop%bX (bz (by exact IY) (by exact ax) (ay (bc 0) aX)))) (bT (B5 3 A7.bb (own:=["code"]) (caps:=[]) (binop%co tc ["plan","times","zones","codes"]) (alV (bK (aL 0) (aj aG))) (unop%bX (d4 0 (unop%bb ["code"]))) (unop%bX gi) (unop%bX (bz (by exact I0) (by exact ax) (ay (bc 0) aX)))) (b0 (cz (bz tj ax (ay (cJ (aj (cJ (aj (rt (ay (bc 1) aX))) (aL 2))) (aL 3)) aX)))))))
abbrev AY:Stmt:=top 42
def Ov:cY ["opening","zone"] ["opening"] (bS AY):=unop%dC 0
def IS(F:cE K "opening_parts" "opening_parts" AY f fd)(m:mg "opening_parts"=some (.ref f))(mc:Cl P w K mg base "number_text" k 1 ir):Cl P w K mg base "opening_parts" (k+1) 1 pX:=
 dM F Ov (unop%bD F) m unop%lm
  (bT (cI 1 Ov.bb (KL (Rl (aj (bK (aL 0) (aj aG)))) bA (bK (aL 0) (aj aG)))) (b0 (cz (dE (ay (bz mc ax (ay (bK (aL 0) (aj aG)) aX)) (ay (bz mc ax (ay (bK (aL 0) (aj aG)) aX)) (ay (bc 1) aX)))))))
abbrev xX:Stmt:=top 43
def OD:cY ["house","rooms"] ["house"] (bS xX):=unop%dC 0
def rd(F:cE K "house_text" "house_text" xX f fd)(m:mg "house_text"=some (.ref f))(tj:Cl P w K mg base "text_of" k 1 p8)(mc:Cl P w K mg base "number_text" k 1 ir)(IS:Cl P w K mg base "opening_parts" k 1 pX):Cl P w K mg base "house_text" (k+1) 1 kd:=
 dM F OD (unop%bD F) m unop%lm
  (bT (cI 1 OD.bb (dE (ay bA (ay (bz mc ax (ay (bK (aL 0) (aj aG)) aX)) aX)))) (b0 (cz (bz tj ax (ay (cJ (aj (rt (ay (bc 1) aX))) (aj (fN (own:=["opening"]) (caps:=[]) (binop%co xX ["house","rooms"]) (alV (bK (aL 0) (aj aG))) (unop%bX (d4 0 (unop%bb ["opening"]))) (unop%bX gi) (unop%bX (bz (by exact IS) (by exact ax) (ay (bc 0) aX)))))) aX)))))
abbrev A5:Stmt:=top 44
def ad_:cY ["event"] ["event"] (bS A5):=unop%dC 0
def IV(F:cE K "event_parts" "event_parts" A5 f fd)(m:mg "event_parts"=some (.ref f))(mc:Cl P w K mg base "number_text" k 1 ir):Cl P w K mg base "event_parts" (k+1) 1 rb:=
 dM F ad_ (unop%bD F) m unop%lm
  (bT (eD (binop%hu (aj (bK (aL 0) (aj aG))) (aj bA)) (b0 (cz (dE (ay bA (ay (bz mc ax (ay (bK (aL 0) (aj aG)) aX)) aX))))) eK) (bT (eD (gx (w_and (binop%hu (aj (bK (aL 0) (aj aG))) (aj bA)) (ama (Rl (aj (bK (aL 0) (aj aG))))))) (b0 (cz (gh (aL 0) g8 (fg (aj aG))))) eK) (b0 (vI 0))))
abbrev x_:Stmt:=top 45
def ae2:cY ["row"] ["row"] (bS x_):=unop%dC 0
def rg(F:cE K "row_text" "row_text" x_ f fd)(m:mg "row_text"=some (.ref f))(tj:Cl P w K mg base "text_of" k 1 p8)(IV:Cl P w K mg base "event_parts" k 1 rb):Cl P w K mg base "row_text" (k+1) 1 kN:=
 dM F ae2 (unop%bD F) m unop%lm
  (b0 (cz (bz tj ax (ay (fN (own:=["event"]) (caps:=[]) (binop%co x_ ["row"]) (alV (bc 0)) (unop%bX (d4 0 (unop%bb ["event"]))) (unop%bX gi) (unop%bX (bz (by exact IV) (by exact ax) (ay (bc 0) aX)))) aX))))
abbrev nu:Stmt:=top 61
def mh:cY ["_law_deed","_law_found","e","_law_kinds"] ["_law_deed"] (bS nu):=unop%dC 0
def vl{K:a'}{f:aq}{fd:fa}(F:cE K "_law_told" "_law_told" nu f fd):Binds K fd ["_law_deed"] []:=F.binds (ps:=["_law_deed"]) λ_ _ _ _ _ _ us aH=>match us,aH with|[_],_=>rfl
def vi{f:aq}(bY:av)(A:dk)(outer:List Env)(s:aP)(H:aF):fh (gQ e5 P w K mg base ["_law_deed","_law_found","e","_law_kinds"] "_law_told" (bS nu) f bY A outer s H mx).eU (hk nu) (Rm (gQ e5 P w K mg base ["_law_deed","_law_found","e","_law_kinds"] "_law_told" (bS nu) f bY A outer s H mx).eU):=
 tu (ajH (tA (tP mh.bb rfl (Or.inl rfl) (yH (fB yI (fB (ait (j1 0)) h2)))))) (tA (B7 (j1 1)))
def vh{f C h7 xz iM gZ alY:aq}{j:Nat}(fq:rO K mg h7 xz iM gZ alY)(R:qu K h7 xz iM gZ alY C j)(bY:av)(A:dk)(outer:List Env)(s:aP)(H:aF):fh (gQ e5 P w K mg base ["_law_deed","_law_found","e","_law_kinds"] "_law_told" (bS nu) f bY A outer s H mx).eU (hk nu) (B3 (gQ e5 P w K mg base ["_law_deed","_law_found","e","_law_kinds"] "_law_told" (bS nu) f bY A outer s H mx).eU C j):=
 ajo fq R (λdn E=>tA (tP mh.bb rfl (Or.inl rfl) (yH (fB yI (fB (ahn (j1 0)) h2)))))
  (λea=>tu (tP mh.bb rfl (Or.inl rfl) (QW (fB (yJ R.ok fq.mU (j1 2) (vy (by rfl) fq.ZW (by rfl))) (fB (yJ R.ok fq.mU (j1 2) (vy (by rfl) fq.nw (by rfl))) (fB (yJ R.ok fq.mU (j1 2) (vy (by rfl) fq.bb (by rfl))) (fB (yJ R.ok fq.mU (j1 2) (vy (by rfl) fq.Aj (by rfl))) h2)))))) (tu (tP mh.bb rfl (Or.inl rfl) (yH (fB yI (fB (KO Kf B8) h2)))) (tA (KN (QT (QU (yJ R.ok fq.mU (j1 2) (aiv (by rfl) fq.val PyProof.Rows.Boot.«ValueError» (by rfl)))) (Qu (Qv akM (vU PySem.F.plainAttrs_list PySem.F.slot_list_count PySem.F.type_list_count ahB (j1 3) (fB KP h2)) B8 (Kr _)))).pt (tA (tP mh.bb rfl (Or.inl rfl) (yH (fB yI (fB (vU PySem.F.plainAttrs_list PySem.F.slot_list_index PySem.F.type_list_index agr (j1 3) (fB KP h2)) h2))))) Qw)))) (j1 1) mh.bb
abbrev BA:Stmt:=top 65
def p6:cY ["_law_number","_law_rooms","_law_openings","_law_k","_law_drawn_here","_law_one","_law_other","_law_zone"] ["_law_number"] (bS BA):=unop%dC 0
def Jp(F:cE K "_law_house" "_law_house" BA f fd)(m:mg "_law_house"=some (.ref f))(jH:mg "range"=none)(p9:Cl P w K mg base "_law_drawn" k 2 g5)(tL:mg "min"=none)(tK:mg "max"=none):Cl P w K mg base "_law_house" (k+1) 1 qB:=
 dM F p6 (unop%bD F) m unop%lm
  (bT (cI 1 p6.bb (cJ (aj aG) (aj (d8 (aL 0) (aj aG))))) (bT (cI 2 p6.bb (dE aX)) (bT (vS s6 (Ca jH (aj (d8 (aj (fP (aL 0) (aj aG))) (aj aG)))) (d4 3 p6.bb) (bT (cI 4 p6.bb (fP (aj (bz p9 ax (ay (bc 0) (ay (cJ (aj aG) (aL 3)) aX)))) (aj aG))) (bT (cI 5 p6.bb (d8 (aL 4) (aj (cJ (aL 1) (aj aG))))) (bT (cI 6 p6.bb (d8 (aj (cJ (aj (cJ (aL 5) (aj aG))) (aj (d8 (aj (fP (aL 4) (aj aG))) (aL 1))))) (aj (cJ (aL 1) (aj aG))))) (bT (cI 7 p6.bb (bK (aj (dE (ay tU (ay tU (ay bA (ay bA (ay bA (ay bA (ay bA aX))))))))) (aj (d8 (aj (fP (aL 4) (aj aG))) (aj aG))))) (b0 (cI 2 p6.bb (cJ (aL 2) (aj (dE (ay (dE (ay (akF tL (dX (aL 5) (dX (aL 6) d7))) (ay (akG tK (dX (aL 5) (dX (aL 6) d7))) (ay (bc 7) aX)))) aX))))))))))) (b0 (cz (dE (ay (bc 1) (ay (bc 2) aX))))))))
abbrev BB:Stmt:=top 63
def vd:cY ["_law_plan_here","_law_number","_law_zone","_law_kind","_law_figures","_law_deed"] ["_law_plan_here","_law_number"] (bS BB):=unop%dC 0
def Jq(F:cE K "_law_event" "_law_event" BB f fd)(m:mg "_law_event"=some (.ref f))(alW:mg "len"=none):Cl P w K mg base "_law_event" (k+1) 2 rh:=
 dM F vd (unop%b7 F) m unop%lm
  (bT (cI 2 vd.bb (bK (aj (bK (aj (bK (aL 0) (aj aG))) (aj (d8 (aj (fP (aL 1) (aj aG))) (aj (oI (by exact alW) (dX (aj (bK (aL 0) (aj aG))) d7))))))) (aj aG))) (bT (cI 3 vd.bb (d8 (aL 1) (aj aG))) (bT (eD (mr (yW.or yi) yK (aL 3) (aj aG)) (b0 (cz (dE (ay bA (ay (bc 2) (ay (bK (aj (dE (ay bA (ay bA (ay bA (ay bA aX)))))) (aj (d8 (aj (fP (aL 1) (aj aG))) (aj aG)))) aX)))))) eK) (bT (eD (mr (yW.or yi) yK (aL 3) (aj aG)) (b0 (cz (dE (ay bA (ay (cJ (aj aG) (aj (d8 (aj (fP (aL 1) (aj aG))) (aj (bK (aj (dE (ay aG (ay aG (ay aG aX))))) (aj (d8 (aj (fP (aL 1) (aj aG))) (aj aG)))))))) aX))))) eK) (bT (cI 4 vd.bb (bK (aj (bK (aj (bK (aL 0) (aj aG))) (aj (d8 (aj (fP (aL 1) (aj aG))) (aj (oI (by exact alW) (dX (aj (bK (aL 0) (aj aG))) d7))))))) (aj aG))) (bT (eD (binop%hu (aj (d8 (aj (fP (aL 1) (aj aG))) (aj aG))) (aj aG)) (b0 (cI 4 vd.bb (bK (aj (dE (ay bA (ay bA (ay bA (ay bA aX)))))) (aj (d8 (aj (fP (aL 1) (aj aG))) (aj aG)))))) eK) (bT (cI 5 vd.bb (bK (aj (dE (ay bA (ay bA (ay bA (ay bA (ay bA (ay bA aX)))))))) (aj (d8 (aj (fP (aL 1) (aj aG))) (aj aG))))) (bT (eD (mr (qf (by exact ax.units)) qg (aL 5) (aj (dE (ay bA (ay bA aX))))) (b0 (cz (dE (ay bA (ay (bc 4) (ay (bc 5) (ay tU aX))))))) eK) (b0 (cz (dE (ay bA (ay (bc 4) (ay (bc 5) (ay (bc 2) aX)))))))))))))))
abbrev yw:Stmt:=top 64
def Jy:cY ["_law_plan_here","_law_number","_law_most","_law_row_here"] ["_law_plan_here","_law_number","_law_most"] (bS yw):=unop%dC 0
def J9(F:cE K "_law_row" "_law_row" yw f fd)(m:mg "_law_row"=some (.ref f))(dN:mg "tuple"=none)(Jq:Cl P w K mg base "_law_event" k 2 rh)(alW:mg "len"=none)(jH:mg "range"=none)(p9:Cl P w K mg base "_law_drawn" k 2 g5):Cl P w K mg base "_law_row" (k+1) 3 yz:=
 dM F Jy (unop%ek F) m unop%lm
  (bT (cI 3 Jy.bb (iP dN (dX (aj (fN (own:=["_law_k"]) (caps:=[(0,"_law_plan_here"),(1,"_law_number")]) (binop%co yw ["_law_plan_here","_law_number","_law_most","_law_row_here"]) (Ca jH (aj (d8 (aL 1) (aj (cJ (aL 2) (aj aG)))))) (unop%bX (d4 0 (unop%bb ["_law_k","_law_plan_here","_law_number"]))) (unop%bX gi) (unop%bX (bz (by exact Jq) (by exact ax) (ay (bc 1) (ay (fP (aj (bz (by exact p9) (by exact ax) (ay (bc 2) (ay (cJ (aj aG) (aL 0)) aX)))) (aj aG)) aX)))))) d7))) (bT (eD (gx (w_and (binop%hu (aj (d8 (aj (fP (aL 1) (aj aG))) (aj aG))) (aj aG)) (ama (mr (KR.or Jl) Kp (aj (oI (by exact alW) (dX (aL 3) d7))) (aj aG))))) (b0 (cI 3 Jy.bb (cJ (aj (aik (aL 3) g8 (fg (aj (Rt (aj aG)))))) (aj (akD (aj (dE (ay (dE (ay bA (ay bA (ay bA (ay tU aX))))) aX))) (aj aG)))))) eK) (b0 (vI 3))))
abbrev Bj:Stmt:=top 66
def xV:cY ["_law_text","_law_number","_law_at","_law_sign","_law_rows","_law_k"] ["_law_text","_law_number"] (bS Bj):=unop%dC 0
def I4(F:cE K "_law_changed" "_law_changed" Bj f fd)(m:mg "_law_changed"=some (.ref f))(alW:mg "len"=none):Cl P w K mg base "_law_changed" (k+1) 2 vc:=
 dM F xV (unop%b7 F) m unop%lm
  (bT (cI 2 xV.bb (d8 (aj (fP (aL 1) (aj aG))) (aj (cJ (aj (oI (by exact alW) (dX (aL 0) d7))) (aj aG))))) (bT (cI 3 xV.bb (bK (aj bA) (aj (d8 (aj (fP (aL 1) (aj aG))) (aj aG))))) (bT (cI 4 xV.bb (JV (aL 0) (aj bA))) (bT (cI 5 xV.bb (d8 (aj (fP (aL 1) (aj aG))) (aj (oI (by exact alW) (dX (aL 4) d7))))) (bT (eD (binop%hu (aj (d8 (aL 1) (aj aG))) (aj aG)) (b0 (cz (cJ (aj (cJ (aj (gh (aL 0) g8 (fg (aL 2)))) (aL 3))) (aj (gh (aL 0) (fg (aL 2)) g8))))) eK) (bT (eD (binop%hu (aj (d8 (aL 1) (aj aG))) (aj aG)) (b0 (cz (cJ (aj (gh (aL 0) g8 (fg (aL 2)))) (aj (gh (aL 0) (fg (aj (cJ (aL 2) (aj aG)))) g8))))) eK) (bT (eD (binop%hu (aj (d8 (aL 1) (aj aG))) (aj aG)) (b0 (cz (cJ (aj (cJ (aj (gh (aL 0) g8 (fg (aL 2)))) (aL 3))) (aj (gh (aL 0) (fg (aj (cJ (aL 2) (aj aG)))) g8))))) eK) (bT (eD (binop%hu (aj (d8 (aL 1) (aj aG))) (aj aG)) (b0 (cz (B6 (aj bA) (aj (cJ (aj (cJ (aj (gh (aL 4) g8 (fg (aL 5)))) (aj (ajB (aj (gh (aL 4) (fg (aL 5)) (fg (aj (cJ (aL 5) (aj aG)))))) ZP)))) (aj (gh (aL 4) (fg (aj (cJ (aL 5) (aj aG)))) g8))))))) eK) (b0 (cz (B6 (aj bA) (aj (cJ (aj (gh (aL 4) g8 (fg (aL 5)))) (aj (gh (aL 4) (fg (aj (cJ (aL 5) (aj aG)))) g8)))))))))))))))
abbrev yg:Stmt:=top 47
def afx:cY ["text"] ["text"] (bS yg):=unop%dC 0
def lF(F:cE K "rows_of" "rows_of" yg f fd)(m:mg "rows_of"=some (.ref f)) :Cl P w K mg base "rows_of" (k+1) 1 gg:=
 dM F afx (unop%bD F) m unop%lm
  (b0 (cz (fN (own:=["row"]) (caps:=[]) (binop%co yg ["text"]) (alV (gh (aj (JV (aL 0) (aj bA))) g8 (fg (aj (Rt (aj aG)))))) (unop%bX (d4 0 (unop%bb ["row"]))) (unop%bX gi) (unop%bX (JV (aL 0) (aj bA))))))
abbrev yh:Stmt:=top 10
def afz:cY ["thing","least","most","first","last"] ["thing","least","most","first","last"] (bS yh):=unop%dC 0
def tm(F:cE K "is_text" "is_text" yh f fd)(m:mg "is_text"=some (.ref f))(fR:mg "all"=none)(ko:mg "isinstance"=none)(alW:mg "len"=none)(nC:mg "str"=none):Cl P w K mg base "is_text" (k+1) 5 mi:=
 dM F afz (unop%o6 F) m unop%lm
  (bT (eD (gx (w_or (gC (gO (aj (Ci aj4 akk ko nC (aL 0))))) (iR (gC (ajq (aL 1) (aj (oI (by exact alW) (dX (aL 0) d7))) (aL 2)))))) (b0 (cz j2)) eK) (b0 (cz (rA rfl fR (dX (aj (fN (own:=["sign"]) (caps:=[(3,"first"),(4,"last")]) (binop%co yh ["thing","least","most","first","last"]) (alV (bc 0)) (unop%bX (d4 0 (unop%bb ["sign","first","last"]))) (unop%bX gi) (unop%bX (Kn (aL 1) (aL 0) (aL 2))))) d7)))))
abbrev Bi:Stmt:=top 48
def A8:cY ["part","number","figure"] ["part"] (bS Bi):=unop%dC 0
def I3(F:cE K "number_of" "number_of" Bi f fd)(m:mg "number_of"=some (.ref f))(tm:Cl P w K mg base "is_text" k 5 mi)(alW:mg "len"=none)(rq:mg "ord"=none):Cl P w K mg base "number_of" (k+1) 1 x5:=
 dM F A8 (unop%bD F) m unop%lm
  (bT (eD (gC (gO (aj (bz tm ax (ay (bc 0) (ay aG (ay (oI (by exact alW) (dX (aL 0) d7)) (ay bA (ay bA aX))))))))) (b0 (cz tU)) eK) (bT (cI 1 A8.bb aG) (bT (vS s6 (alV (bc 0)) (d4 2 A8.bb) (b0 (cI 1 A8.bb (Rp (aj (cJ (aj (qm (aL 1) (aj aG))) (aj (Rq rq (dX (aL 2) d7))))) (aj (Rq rq (dX (aj bA) d7))))))) (b0 (vI 1)))))
abbrev xW:Stmt:=top 49
def aed:cY ["parts"] ["parts"] (bS xW):=unop%dC 0
def p1(F:cE K "numbers_of" "numbers_of" xW f fd)(m:mg "numbers_of"=some (.ref f))(dN:mg "tuple"=none)(I3:Cl P w K mg base "number_of" k 1 x5):Cl P w K mg base "numbers_of" (k+1) 1 oz:=
 dM F aed (unop%bD F) m unop%lm
  (b0 (cz (iP dN (dX (aj (fN (own:=["part"]) (caps:=[]) (binop%co xW ["parts"]) (alV (bc 0)) (unop%bX (d4 0 (unop%bb ["part"]))) (unop%bX gi) (unop%bX (bz (by exact I3) (by exact ax) (ay (bc 0) aX))))) d7))))
abbrev AZ:Stmt:=top 50
def adY:cY ["rows"] ["rows"] (bS AZ):=unop%dC 0
def pY(F:cE K "numbers_ahead" "numbers_ahead" AZ f fd)(m:mg "numbers_ahead"=some (.ref f))(p1:Cl P w K mg base "numbers_of" k 1 oz):Cl P w K mg base "numbers_ahead" (k+1) 1 jD:=
 dM F adY (unop%bD F) m unop%lm
  (b0 (cz (KL (ajp (aL 0)) (bz p1 ax (ay (gh (aj (bK (aL 0) (aj aG))) (fg (aj aG)) g8) aX)) (dE aX))))
abbrev Bm:Stmt:=top 51
def aew:cY ["parts"] ["parts"] (bS Bm):=unop%dC 0
def aml(F:cE K "code_from" "code_from" Bm f fd)(m:mg "code_from"=some (.ref f))(p1:Cl P w K mg base "numbers_of" k 1 oz)(dN:mg "tuple"=none):Cl P w K mg base "code_from" (k+1) 1 p5:=
 dM F aew (unop%bD F) m unop%lm
  (b0 (cz (cJ (aj (cJ (aj (iP dN (dX (aj (gh (aL 0) (fg (aj aG)) (fg (aj aG)))) d7))) (aj (dE (ay (iP dN (dX (aj (gh (aL 0) (fg (aj aG)) g8)) d7)) aX))))) (aj (bz p1 ax (ay (gh (aL 0) (fg (aj aG)) (fg (aj aG))) aX))))))
abbrev Bs:Stmt:=top 9
def ae4:cY ["thing","least","most"] ["thing","least","most"] (bS Bs):=unop%dC 0
def gf(F:cE K "is_tuple" "is_tuple" Bs f fd)(m:mg "is_tuple"=some (.ref f))(ko:mg "isinstance"=none)(dN:mg "tuple"=none)(alW:mg "len"=none):Cl P w K mg base "is_tuple" (k+1) 3 d6:=
 dM F ae4 (unop%ek F) m unop%lm
  (b0 (cz (g9 (Ci ahI ah4 ko dN (aL 0)) (mn (Kn (aL 1) (aj (oI (by exact alW) (dX (aL 0) d7))) (aL 2))))))
abbrev yv:Stmt:=top 13
def ag_:cY ["things"] ["things"] (bS yv):=unop%dC 0
def al_(F:cE K "rises" "rises" yv f fd)(m:mg "rises"=some (.ref f))(fR:mg "all"=none)(tM:mg "zip"=none):Cl P w K mg base "rises" (k+1) 1 nz:=
 dM F ag_ (unop%bD F) m unop%lm
  (b0 (cz (rA rfl fR (dX (aj (fN (own:=["one","other"]) (caps:=[]) (binop%co yv ["things"]) (akb tM (bc 0) (gh (aL 0) (fg (aj aG)) g8)) (unop%bX (Cs (rx (d4 0 (unop%bb ["one","other"])) (rx (d4 1 (unop%bb ["one","other"])) Ct)))) (unop%bX gi) (unop%bX (nD (yW.or yi) yK (aL 0) (aL 1))))) d7))))
abbrev BF:Stmt:=top 11
def afB:cY ["thing"] ["thing"] (bS BF):=unop%dC 0
def tp(F:cE K "is_name" "is_name" BF f fd)(m:mg "is_name"=some (.ref f))(tm:Cl P w K mg base "is_text" k 5 mi):Cl P w K mg base "is_name" (k+1) 1 ri:=
 dM F afB (unop%bD F) m unop%lm
  (b0 (cz (bz tm ax (ay (bc 0) (ay aG (ay aG (ay bA (ay bA aX))))))))
abbrev BD:Stmt:=top 24
def afy:cY ["thing"] ["thing"] (bS BD):=unop%dC 0
def Jr(F:cE K "is_zone" "is_zone" BD f fd)(m:mg "is_zone"=some (.ref f))(gf:Cl P w K mg base "is_tuple" k 3 d6)(tp:Cl P w K mg base "is_name" k 1 ri){ud:aq}(Zs:mg "KINDS"=some (.ref ud))(ado:∃(o:Obj) (its:Array av) (n:Nat),K.lookup ud=some o/\o.cls=.type "tuple"/\o.data=.seq its n/\its.size<=b'/\Vals ((["day","inner","once","way"]:List Str).map V.str) its.toList):Cl P w K mg base "is_zone" (k+1) 1 vj:=
 dM F afy (unop%bD F) m unop%lm
  (b0 (cz (g9 (bz gf ax (ay (bc 0) (ay aG (ay aG aX)))) (g9 (bz tp ax (ay (bK (aL 0) (aj aG)) aX)) (mn (nD (qf (by exact ax.units)) qg (aj (bK (aL 0) (aj aG))) (aj (xq Zs ado))))))))
abbrev va:Stmt:=top 25
def aex:cY ["thing"] ["thing"] (bS va):=unop%dC 0
def I6(F:cE K "are_zones" "are_zones" va f fd)(m:mg "are_zones"=some (.ref f))(al_:Cl P w K mg base "rises" k 1 nz)(gf:Cl P w K mg base "is_tuple" k 3 d6)(fR:mg "all"=none)(Jr:Cl P w K mg base "is_zone" k 1 vj):Cl P w K mg base "are_zones" (k+1) 1 x6:=
 dM F aex (unop%bD F) m unop%lm
  (bT (eD (gx (w_or (gC (gO (aj (bz gf ax (ay (bc 0) (ay aG (ay aG aX))))))) (iR (gC (gO (aj (rA rfl fR (dX (aj (fN (own:=["zone"]) (caps:=[]) (binop%co va ["thing"]) (alV (bc 0)) (unop%bX (d4 0 (unop%bb ["zone"]))) (unop%bX gi) (unop%bX (bz (by exact Jr) (by exact ax) (ay (bc 0) aX))))) d7)))))))) (b0 (cz j2)) eK) (b0 (cz (bz al_ ax (ay (fN (own:=["zone"]) (caps:=[]) (binop%co va ["thing"]) (alV (bc 0)) (unop%bX (d4 0 (unop%bb ["zone"]))) (unop%bX gi) (unop%bX (bK (aL 0) (aj aG)))) aX)))))
abbrev A':Stmt:=top 12
def aef:cY ["thing"] ["thing"] (bS A'):=unop%dC 0
def x1(F:cE K "is_figures" "is_figures" A' f fd)(m:mg "is_figures"=some (.ref f))(tm:Cl P w K mg base "is_text" k 5 mi):Cl P w K mg base "is_figures" (k+1) 1 tb:=
 dM F aef (unop%bD F) m unop%lm
  (b0 (cz (bz tm ax (ay (bc 0) (ay aG (ay aG (ay bA (ay bA aX))))))))
abbrev xY:Stmt:=top 26
def aei:cY ["thing"] ["thing"] (bS xY):=unop%dC 0
def I1(F:cE K "are_rights" "are_rights" xY f fd)(m:mg "are_rights"=some (.ref f))(gf:Cl P w K mg base "is_tuple" k 3 d6)(fR:mg "all"=none)(al_:Cl P w K mg base "rises" k 1 nz){uf:aq}(Zu:mg "RIGHTS"=some (.ref uf))(ady:∃(o:Obj) (its:Array av) (n:Nat),K.lookup uf=some o/\o.cls=.type "tuple"/\o.data=.seq its n/\its.size<=b'/\Vals ((["set","shunt","unset"]:List Str).map V.str) its.toList):Cl P w K mg base "are_rights" (k+1) 1 Bd:=
 dM F aei (unop%bD F) m unop%lm
  (b0 (cz (g9 (bz gf ax (ay (bc 0) (ay aG (ay aG aX)))) (g9 (rA rfl fR (dX (aj (fN (own:=["right"]) (caps:=[]) (binop%co xY ["thing"]) (alV (bc 0)) (unop%bX (d4 0 (unop%bb ["right"]))) (unop%bX gi) (unop%bX (nD (qf (by exact ax.units)) qg (aL 0) (aj (xq (by exact Zu) (by exact ady))))))) d7)) (mn (bz al_ ax (ay (bc 0) aX)))))))
abbrev Br:Stmt:=top 7
def ae3:cY ["thing"] ["thing"] (bS Br):=unop%dC 0
def yc(F:cE K "is_whole" "is_whole" Br f fd)(m:mg "is_whole"=some (.ref f))(ko:mg "isinstance"=none)(tJ:mg "int"=none)(al':mg "bool"=none):Cl P w K mg base "is_whole" (k+1) 1 ve:=
 dM F ae3 (unop%bD F) m unop%lm
  (b0 (cz (g9 (Ci aj5 akl ko tJ (aL 0)) (mn (akE (Ci aiM aja ko al' (aL 0)))))))
abbrev Bl:Stmt:=top 8
def aev:cY ["thing","least","most"] ["thing","least","most"] (bS Bl):=unop%dC 0
def me(F:cE K "is_within" "is_within" Bl f fd)(m:mg "is_within"=some (.ref f))(yc:Cl P w K mg base "is_whole" k 1 ve):Cl P w K mg base "is_within" (k+1) 3 ke:=
 dM F aev (unop%ek F) m unop%lm
  (b0 (cz (g9 (bz yc ax (ay (bc 0) aX)) (mn (Kn (aL 1) (aL 0) (aL 2))))))
abbrev BG:Stmt:=top 27
def afC:cY ["thing"] ["thing"] (bS BG):=unop%dC 0
def Js(F:cE K "is_code" "is_code" BG f fd)(m:mg "is_code"=some (.ref f))(gf:Cl P w K mg base "is_tuple" k 3 d6)(x1:Cl P w K mg base "is_figures" k 1 tb)(tp:Cl P w K mg base "is_name" k 1 ri)(I1:Cl P w K mg base "are_rights" k 1 Bd)(me:Cl P w K mg base "is_within" k 3 ke):Cl P w K mg base "is_code" (k+1) 1 amg:=
 dM F afC (unop%bD F) m unop%lm
  (bT (eD (gC (gO (aj (bz gf ax (ay (bc 0) (ay aG (ay aG aX))))))) (b0 (cz j2)) eK) (b0 (cz (g9 (bz x1 ax (ay (bK (aL 0) (aj aG)) aX)) (g9 (bz tp ax (ay (bK (aL 0) (aj aG)) aX)) (g9 (bz I1 ax (ay (bK (aL 0) (aj aG)) aX)) (mn (bz me ax (ay (bK (aL 0) (aj aG)) (ay aG (ay aG aX)))))))))))
abbrev vb:Stmt:=top 28
def aez:cY ["thing"] ["thing"] (bS vb):=unop%dC 0
def I8(F:cE K "are_codes" "are_codes" vb f fd)(m:mg "are_codes"=some (.ref f))(al_:Cl P w K mg base "rises" k 1 nz)(gf:Cl P w K mg base "is_tuple" k 3 d6)(fR:mg "all"=none)(Js:Cl P w K mg base "is_code" k 1 amg):Cl P w K mg base "are_codes" (k+1) 1 x8:=
 dM F aez (unop%bD F) m unop%lm
  (bT (eD (gx (w_or (gC (gO (aj (bz gf ax (ay (bc 0) (ay aG (ay aG aX))))))) (iR (gC (gO (aj (rA rfl fR (dX (aj (fN (own:=["code"]) (caps:=[]) (binop%co vb ["thing"]) (alV (bc 0)) (unop%bX (d4 0 (unop%bb ["code"]))) (unop%bX gi) (unop%bX (bz (by exact Js) (by exact ax) (ay (bc 0) aX))))) d7)))))))) (b0 (cz j2)) eK) (b0 (cz (bz al_ ax (ay (fN (own:=["code"]) (caps:=[]) (binop%co vb ["thing"]) (alV (bc 0)) (unop%bX (d4 0 (unop%bb ["code"]))) (unop%bX gi) (unop%bX (bK (aL 0) (aj aG)))) aX)))))
abbrev Bn:Stmt:=top 29
def aey:cY ["thing"] ["thing"] (bS Bn):=unop%dC 0
def I7(F:cE K "are_times" "are_times" Bn f fd)(m:mg "are_times"=some (.ref f))(gf:Cl P w K mg base "is_tuple" k 3 d6)(me:Cl P w K mg base "is_within" k 3 ke):Cl P w K mg base "are_times" (k+1) 1 x7:=
 dM F aey (unop%bD F) m unop%lm
  (bT (eD (gC (gO (aj (bz gf ax (ay (bc 0) (ay aG (ay aG aX))))))) (b0 (cz j2)) eK) (b0 (cz (g9 (bz me ax (ay (bK (aL 0) (aj aG)) (ay aG (ay aG aX)))) (g9 (bz me ax (ay (bK (aL 0) (aj aG)) (ay aG (ay aG aX)))) (mn (bz me ax (ay (bK (aL 0) (aj aG)) (ay aG (ay aG aX))))))))))
abbrev BE:Stmt:=top 30
def afA:cY ["thing"] ["thing"] (bS BE):=unop%dC 0
def tn(F:cE K "is_plan" "is_plan" BE f fd)(m:mg "is_plan"=some (.ref f))(gf:Cl P w K mg base "is_tuple" k 3 d6)(I6:Cl P w K mg base "are_zones" k 1 x6)(I8:Cl P w K mg base "are_codes" k 1 x8)(I7:Cl P w K mg base "are_times" k 1 x7):Cl P w K mg base "is_plan" (k+1) 1 nt:=
 dM F afA (unop%bD F) m unop%lm
  (b0 (cz (g9 (bz gf ax (ay (bc 0) (ay aG (ay aG aX)))) (g9 (bz I6 ax (ay (bK (aL 0) (aj aG)) aX)) (g9 (bz I8 ax (ay (bK (aL 0) (aj aG)) aX)) (mn (bz I7 ax (ay (bK (aL 0) (aj aG)) aX))))))))
abbrev p2:Stmt:=top 52
def oy:cY ["text","rows","zones","codes","plan"] ["text"] (bS p2):=unop%dC 0
def Bo(F:cE K "read_plan" "read_plan" p2 f fd)(m:mg "read_plan"=some (.ref f))(lF:Cl P w K mg base "rows_of" k 1 gg)(dN:mg "tuple"=none)(pY:Cl P w K mg base "numbers_ahead" k 1 jD)(aml:Cl P w K mg base "code_from" k 1 p5)(tn:Cl P w K mg base "is_plan" k 1 nt)(rf:Cl P w K mg base "plan_text" k 1 kM):Cl P w K mg base "read_plan" (k+1) 1 p4:=
 dM F oy (unop%bD F) m unop%lm
  (bT (cI 1 oy.bb (bz lF ax (ay (bc 0) aX))) (bT (cI 2 oy.bb (iP dN (dX (aj (fN (own:=["parts"]) (caps:=[]) (binop%co p2 ["text","rows","zones","codes","plan"]) (alV (bc 1)) (unop%bX (d4 0 (unop%bb ["parts"]))) (unop%bX (vE (binop%hu (aj (bK (aL 0) (aj aG))) (aj bA)))) (unop%bX (iP (by exact dN) (dX (aj (gh (aL 0) (fg (aj aG)) g8)) d7))))) d7))) (bT (cI 3 oy.bb (iP dN (dX (aj (fN (own:=["parts"]) (caps:=[]) (binop%co p2 ["text","rows","zones","codes","plan"]) (alV (bc 1)) (unop%bX (d4 0 (unop%bb ["parts"]))) (unop%bX (vE (binop%hu (aj (bK (aL 0) (aj aG))) (aj bA)))) (unop%bX (bz (by exact aml) (by exact ax) (ay (bc 0) aX))))) d7))) (bT (cI 4 oy.bb (dE (ay (bc 2) (ay (bc 3) (ay (bz pY ax (ay (bc 1) aX)) aX))))) (bT (eD (gx (w_or (gC (gO (aj (bz tn ax (ay (bc 4) aX))))) (iR (binop%i7 (aj (bz rf ax (ay (bc 4) aX))) (aL 0))))) (b0 JR) eK) (b0 (vI 4)))))))
def A6{k:Nat}{f:aq}{fd:fa}(F:cE K "read_plan" "read_plan" p2 f fd)(m:mg "read_plan"=some (.ref f)){h7 xz iM gZ alY:aq}(fq:rO K mg h7 xz iM gZ alY)(iZ:qu K h7 xz iM gZ alY alY 3)(lF:Cl P w K mg base "rows_of" k 1 gg)(dN:mg "tuple"=none)(pY:Cl P w K mg base "numbers_ahead" k 1 jD)(aml:Cl P w K mg base "code_from" k 1 p5)(tn:Cl P w K mg base "is_plan" k 1 nt)(rf:Cl P w K mg base "plan_text" k 1 kM) :mw P w K mg base "read_plan" alY (k+1) 1 oB:=
 Ky F oy (unop%bD F) m unop%lm
  (rp (cI 1 oy.bb (bz lF ax (ay (bc 0) aX))) (rp (cI 2 oy.bb (iP dN (dX (aj (fN (own:=["parts"]) (caps:=[]) (binop%co p2 ["text","rows","zones","codes","plan"]) (alV (bc 1)) (unop%bX (d4 0 (unop%bb ["parts"]))) (unop%bX (vE (binop%hu (aj (bK (aL 0) (aj aG))) (aj bA)))) (unop%bX (iP (by exact dN) (dX (aj (gh (aL 0) (fg (aj aG)) g8)) d7))))) d7))) (rp (cI 3 oy.bb (iP dN (dX (aj (fN (own:=["parts"]) (caps:=[]) (binop%co p2 ["text","rows","zones","codes","plan"]) (alV (bc 1)) (unop%bX (d4 0 (unop%bb ["parts"]))) (unop%bX (vE (binop%hu (aj (bK (aL 0) (aj aG))) (aj bA)))) (unop%bX (bz (by exact aml) (by exact ax) (ay (bc 0) aX))))) d7))) (rp (cI 4 oy.bb (dE (ay (bc 2) (ay (bc 3) (ay (bz pY ax (ay (bc 1) aX)) aX))))) (vu (I' (gx (w_or (gC (gO (aj (bz tn ax (ay (bc 4) aX))))) (iR (binop%i7 (aj (bz rf ax (ay (bc 4) aX))) (aL 0))))) (vu (JL fq.Aj iZ.new bA ax.hd)) Ja))))))
abbrev xR:Stmt:=top 53
def ad4:cY ["parts"] ["parts"] (bS xR):=unop%dC 0
def xS(F:cE K "opening_from" "opening_from" xR f fd)(m:mg "opening_from"=some (.ref f))(p1:Cl P w K mg base "numbers_of" k 1 oz)(dN:mg "tuple"=none):Cl P w K mg base "opening_from" (k+1) 1 pZ:=
 dM F ad4 (unop%bD F) m unop%lm
  (b0 (cz (cJ (aj (bz p1 ax (ay (gh (aL 0) g8 (fg (aj aG))) aX))) (aj (iP dN (dX (aj (fN (own:=["zone"]) (caps:=[]) (binop%co xR ["parts"]) (alV (gh (aL 0) (fg (aj aG)) g8)) (unop%bX (d4 0 (unop%bb ["zone"]))) (unop%bX gi) (unop%bX (KL (binop%hu (aL 0) (aj bA)) tU (bc 0))))) d7))))))
abbrev A_:Stmt:=top 16
def aee:cY ["rooms","thing"] ["rooms","thing"] (bS A_):=unop%dC 0
def IZ(F:cE K "is_opening" "is_opening" A_ f fd)(m:mg "is_opening"=some (.ref f))(me:Cl P w K mg base "is_within" k 3 ke)(gf:Cl P w K mg base "is_tuple" k 3 d6)(tp:Cl P w K mg base "is_name" k 1 ri){IC:Tok}(r4:mg "OUTSIDE"=some (.int 0 IC)):Cl P w K mg base "is_opening" (k+1) 2 xZ:=
 dM F aee (unop%b7 F) m unop%lm
  (bT (eD (gx (w_or (gC (gO (aj (bz gf ax (ay (bc 1) (ay aG (ay aG aX))))))) (iR (gC (gO (aj (bz me ax (ay (bK (aL 1) (aj aG)) (ay aG (ay (bc 0) aX)))))))))) (b0 (cz j2)) eK) (b0 (cz (g9 (bz me ax (ay (bK (aL 1) (aj aG)) (ay (abM r4) (ay (Rp (aj (bK (aL 1) (aj aG))) (aj aG)) aX)))) (mn (Iq (Ru (aj (bK (aL 1) (aj aG)))) (Rr (bz tp ax (ay (bK (aL 1) (aj aG)) aX)))))))))
abbrev x':Stmt:=top 17
def ae5:cY ["thing"] ["thing"] (bS x'):=unop%dC 0
def tf(F:cE K "is_house" "is_house" x' f fd)(m:mg "is_house"=some (.ref f))(fR:mg "all"=none)(gf:Cl P w K mg base "is_tuple" k 3 d6)(me:Cl P w K mg base "is_within" k 3 ke)(IZ:Cl P w K mg base "is_opening" k 2 xZ):Cl P w K mg base "is_house" (k+1) 1 lE:=
 dM F ae5 (unop%bD F) m unop%lm
  (bT (eD (gx (w_or (gC (gO (aj (bz gf ax (ay (bc 0) (ay aG (ay aG aX))))))) (w_or (gC (gO (aj (bz me ax (ay (bK (aL 0) (aj aG)) (ay aG (ay aG aX))))))) (iR (gC (gO (aj (bz gf ax (ay (bK (aL 0) (aj aG)) (ay aG (ay aG aX))))))))))) (b0 (cz j2)) eK) (b0 (cz (rA rfl fR (dX (aj (fN (own:=["opening"]) (caps:=[(0,"thing")]) (binop%co x' ["thing"]) (alV (bK (aL 0) (aj aG))) (unop%bX (d4 0 (unop%bb ["opening","thing"]))) (unop%bX gi) (unop%bX (bz (by exact IZ) (by exact ax) (ay (bK (aL 1) (aj aG)) (ay (bc 0) aX)))))) d7)))))
abbrev ta:Stmt:=top 54
def ra:cY ["text","rows","openings","house"] ["text"] (bS ta):=unop%dC 0
def Be(F:cE K "read_house" "read_house" ta f fd)(m:mg "read_house"=some (.ref f))(lF:Cl P w K mg base "rows_of" k 1 gg)(dN:mg "tuple"=none)(pY:Cl P w K mg base "numbers_ahead" k 1 jD)(xS:Cl P w K mg base "opening_from" k 1 pZ)(tf:Cl P w K mg base "is_house" k 1 lE)(rd:Cl P w K mg base "house_text" k 1 kd):Cl P w K mg base "read_house" (k+1) 1 ni:=
 dM F ra (unop%bD F) m unop%lm
  (bT (cI 1 ra.bb (bz lF ax (ay (bc 0) aX))) (bT (cI 2 ra.bb (iP dN (dX (aj (fN (own:=["parts"]) (caps:=[]) (binop%co ta ["text","rows","openings","house"]) (alV (gh (aL 1) (fg (aj aG)) g8)) (unop%bX (d4 0 (unop%bb ["parts"]))) (unop%bX gi) (unop%bX (bz (by exact xS) (by exact ax) (ay (bc 0) aX))))) d7))) (bT (cI 3 ra.bb (cJ (aj (bz pY ax (ay (bc 1) aX))) (aj (dE (ay (bc 2) aX))))) (bT (eD (gx (w_or (gC (gO (aj (bz tf ax (ay (bc 3) aX))))) (iR (binop%i7 (aj (bz rd ax (ay (bc 3) aX))) (aL 0))))) (b0 JR) eK) (b0 (vI 3))))))
def A3{k:Nat}{f:aq}{fd:fa}(F:cE K "read_house" "read_house" ta f fd)(m:mg "read_house"=some (.ref f)){h7 xz iM gZ alY:aq}(fq:rO K mg h7 xz iM gZ alY)(iZ:qu K h7 xz iM gZ alY alY 3)(lF:Cl P w K mg base "rows_of" k 1 gg)(dN:mg "tuple"=none)(pY:Cl P w K mg base "numbers_ahead" k 1 jD)(xS:Cl P w K mg base "opening_from" k 1 pZ)(tf:Cl P w K mg base "is_house" k 1 lE)(rd:Cl P w K mg base "house_text" k 1 kd) :mw P w K mg base "read_house" alY (k+1) 1 md:=
 Ky F ra (unop%bD F) m unop%lm
  (rp (cI 1 ra.bb (bz lF ax (ay (bc 0) aX))) (rp (cI 2 ra.bb (iP dN (dX (aj (fN (own:=["parts"]) (caps:=[]) (binop%co ta ["text","rows","openings","house"]) (alV (gh (aL 1) (fg (aj aG)) g8)) (unop%bX (d4 0 (unop%bb ["parts"]))) (unop%bX gi) (unop%bX (bz (by exact xS) (by exact ax) (ay (bc 0) aX))))) d7))) (rp (cI 3 ra.bb (cJ (aj (bz pY ax (ay (bc 1) aX))) (aj (dE (ay (bc 2) aX))))) (vu (I' (gx (w_or (gC (gO (aj (bz tf ax (ay (bc 3) aX))))) (iR (binop%i7 (aj (bz rd ax (ay (bc 3) aX))) (aL 0))))) (vu (JL fq.Aj iZ.new bA ax.hd)) Ja)))))
abbrev Ba:Stmt:=top 55
def aeg:cY ["parts"] ["parts"] (bS Ba):=unop%dC 0
def x2(F:cE K "event_from" "event_from" Ba f fd)(m:mg "event_from"=some (.ref f))(dN:mg "tuple"=none)(p1:Cl P w K mg base "numbers_of" k 1 oz)(alW:mg "len"=none):Cl P w K mg base "event_from" (k+1) 1 oA:=
 dM F aeg (unop%bD F) m unop%lm
  (bT (eD (binop%hu (aj (bK (aL 0) (aj aG))) (aj bA)) (b0 (cz (cJ (aj (dE (ay bA aX))) (aj (bz p1 ax (ay (gh (aL 0) (fg (aj aG)) g8) aX)))))) eK) (bT (eD (gx (w_and (binop%hu (aj (bK (aL 0) (aj aG))) (aj bA)) (ama (binop%hu (aj (oI (by exact alW) (dX (aL 0) d7))) (aj aG))))) (b0 (cz (cJ (aj (iP dN (dX (aL 0) d7))) (aj (dE (ay tU aX)))))) eK) (b0 (cz (iP dN (dX (aL 0) d7))))))
abbrev ya:Stmt:=top 31
def ae7:cY ["plan","name"] ["plan","name"] (bS ya):=unop%dC 0
def yd(F:cE K "has_zone" "has_zone" ya f fd)(m:mg "has_zone"=some (.ref f)) :Cl P w K mg base "has_zone" (k+1) 2 vf:=
 dM F ae7 (unop%b7 F) m unop%lm
  (b0 (cz (nD (qf (by exact ax.units)) qg (aL 1) (aj (fN (own:=["zone"]) (caps:=[]) (binop%co ya ["plan","name"]) (alV (bK (aL 0) (aj aG))) (unop%bX (d4 0 (unop%bb ["zone"]))) (unop%bX gi) (unop%bX (bK (aL 0) (aj aG))))))))
abbrev A0:Stmt:=top 32
def adZ:cY ["plan","thing"] ["plan","thing"] (bS A0):=unop%dC 0
def IT(F:cE K "is_line_event" "is_line_event" A0 f fd)(m:mg "is_line_event"=some (.ref f))(gf:Cl P w K mg base "is_tuple" k 3 d6)(yd:Cl P w K mg base "has_zone" k 2 vf){ue:aq}(Zt:mg "LINES"=some (.ref ue))(adu:∃(o:Obj) (its:Array av) (n:Nat),K.lookup ue=some o/\o.cls=.type "tuple"/\o.data=.seq its n/\its.size<=b'/\Vals ((["shut","open","cut"]:List Str).map V.str) its.toList):Cl P w K mg base "is_line_event" (k+1) 2 A2:=
 dM F adZ (unop%b7 F) m unop%lm
  (b0 (cz (g9 (bz gf ax (ay (bc 1) (ay aG (ay aG aX)))) (g9 (nD (Ko (by exact ax.units)) Kq (aj (bK (aL 1) (aj aG))) (aj bA)) (g9 (bz yd ax (ay (bc 0) (ay (bK (aL 1) (aj aG)) aX))) (mn (nD (qf (by exact ax.units)) qg (aj (bK (aL 1) (aj aG))) (aj (xq Zt adu)))))))))
abbrev A1:Stmt:=top 33
def ad0:cY ["plan","thing"] ["plan","thing"] (bS A1):=unop%dC 0
def IU(F:cE K "is_code_event" "is_code_event" A1 f fd)(m:mg "is_code_event"=some (.ref f))(yd:Cl P w K mg base "has_zone" k 2 vf)(gf:Cl P w K mg base "is_tuple" k 3 d6)(x1:Cl P w K mg base "is_figures" k 1 tb){ub:aq}(Zq:mg "DEEDS_ALONE"=some (.ref ub))(adi:∃(o:Obj) (its:Array av) (n:Nat),K.lookup ub=some o/\o.cls=.type "tuple"/\o.data=.seq its n/\its.size<=b'/\Vals ((["set","unset"]:List Str).map V.str) its.toList){uc:aq}(Zr:mg "DEEDS_OF_ZONES"=some (.ref uc))(adl:∃(o:Obj) (its:Array av) (n:Nat),K.lookup uc=some o/\o.cls=.type "tuple"/\o.data=.seq its n/\its.size<=b'/\Vals ((["shunt","free"]:List Str).map V.str) its.toList):Cl P w K mg base "is_code_event" (k+1) 2 xP:=
 dM F ad0 (unop%b7 F) m unop%lm
  (bT (eD (gx (w_or (gC (gO (aj (bz gf ax (ay (bc 1) (ay aG (ay aG aX))))))) (w_or (binop%i7 (aj (bK (aL 1) (aj aG))) (aj bA)) (iR (gC (gO (aj (bz x1 ax (ay (bK (aL 1) (aj aG)) aX))))))))) (b0 (cz j2)) eK) (bT (eD (mr (qf (by exact ax.units)) qg (aj (bK (aL 1) (aj aG))) (aj (xq Zq adi))) (b0 (cz (Ru (aj (bK (aL 1) (aj aG)))))) eK) (b0 (cz (g9 (nD (qf (by exact ax.units)) qg (aj (bK (aL 1) (aj aG))) (aj (xq Zr adl))) (mn (bz yd ax (ay (bc 0) (ay (bK (aL 1) (aj aG)) aX)))))))))
abbrev AW:Stmt:=top 34
def adU:cY ["thing"] ["thing"] (bS AW):=unop%dC 0
def IP(F:cE K "is_ticks_event" "is_ticks_event" AW f fd)(m:mg "is_ticks_event"=some (.ref f))(gf:Cl P w K mg base "is_tuple" k 3 d6)(yc:Cl P w K mg base "is_whole" k 1 ve):Cl P w K mg base "is_ticks_event" (k+1) 1 AX:=
 dM F adU (unop%bD F) m unop%lm
  (b0 (cz (g9 (bz gf ax (ay (bc 0) (ay aG (ay aG aX)))) (g9 (nD (Ko (by exact ax.units)) Kq (aj (bK (aL 0) (aj aG))) (aj bA)) (g9 (bz yc ax (ay (bK (aL 0) (aj aG)) aX)) (mn (nD (Rv.or PC) QY (aj (bK (aL 0) (aj aG))) (aj aG))))))))
abbrev Bt:Stmt:=top 35
def ae6:cY ["plan","thing"] ["plan","thing"] (bS Bt):=unop%dC 0
def tg(F:cE K "is_event" "is_event" Bt f fd)(m:mg "is_event"=some (.ref f))(IT:Cl P w K mg base "is_line_event" k 2 A2)(IU:Cl P w K mg base "is_code_event" k 2 xP)(IP:Cl P w K mg base "is_ticks_event" k 1 AX):Cl P w K mg base "is_event" (k+1) 2 nk:=
 dM F ae6 (unop%b7 F) m unop%lm
  (b0 (cz (Iq (bz IT ax (ay (bc 0) (ay (bc 1) aX))) (Iq (bz IU ax (ay (bc 0) (ay (bc 1) aX))) (Rr (bz IP ax (ay (bc 1) aX)))))))
abbrev p7:Stmt:=top 56
def Bg:cY ["plan","text","row"] ["plan","text"] (bS p7):=unop%dC 0
def Bx(F:cE K "read_row" "read_row" p7 f fd)(m:mg "read_row"=some (.ref f))(dN:mg "tuple"=none)(x2:Cl P w K mg base "event_from" k 1 oA)(fR:mg "all"=none)(rg:Cl P w K mg base "row_text" k 1 kN)(lF:Cl P w K mg base "rows_of" k 1 gg)(tg:Cl P w K mg base "is_event" k 2 nk):Cl P w K mg base "read_row" (k+1) 2 nj:=
 dM F Bg (unop%b7 F) m unop%lm
  (bT (cI 2 Bg.bb (iP dN (dX (aj (fN (own:=["parts"]) (caps:=[]) (binop%co p7 ["plan","text","row"]) (alV (bz lF ax (ay (bc 1) aX))) (unop%bX (d4 0 (unop%bb ["parts"]))) (unop%bX gi) (unop%bX (bz (by exact x2) (by exact ax) (ay (bc 0) aX))))) d7))) (bT (eD (gx (w_or (gC (gO (aj (rA rfl fR (dX (aj (fN (own:=["event"]) (caps:=[(0,"plan")]) (binop%co p7 ["plan","text","row"]) (alV (bc 2)) (unop%bX (d4 0 (unop%bb ["event","plan"]))) (unop%bX gi) (unop%bX (bz (by exact tg) (by exact ax) (ay (bc 1) (ay (bc 0) aX)))))) d7))))) (iR (binop%i7 (aj (bz rg ax (ay (bc 2) aX))) (aL 1))))) (b0 JR) eK) (b0 (vI 2))))
def Bf{k:Nat}{f:aq}{fd:fa}(F:cE K "read_row" "read_row" p7 f fd)(m:mg "read_row"=some (.ref f)){h7 xz iM gZ alY:aq}(fq:rO K mg h7 xz iM gZ alY)(iZ:qu K h7 xz iM gZ alY alY 3)(dN:mg "tuple"=none)(x2:Cl P w K mg base "event_from" k 1 oA)(fR:mg "all"=none)(rg:Cl P w K mg base "row_text" k 1 kN)(lF:Cl P w K mg base "rows_of" k 1 gg)(tg:Cl P w K mg base "is_event" k 2 nk) :mw P w K mg base "read_row" alY (k+1) 2 mf:=
 Ky F Bg (unop%b7 F) m unop%lm
  (rp (cI 2 Bg.bb (iP dN (dX (aj (fN (own:=["parts"]) (caps:=[]) (binop%co p7 ["plan","text","row"]) (alV (bz lF ax (ay (bc 1) aX))) (unop%bX (d4 0 (unop%bb ["parts"]))) (unop%bX gi) (unop%bX (bz (by exact x2) (by exact ax) (ay (bc 0) aX))))) d7))) (vu (I' (gx (w_or (gC (gO (aj (rA rfl fR (dX (aj (fN (own:=["event"]) (caps:=[(0,"plan")]) (binop%co p7 ["plan","text","row"]) (alV (bc 2)) (unop%bX (d4 0 (unop%bb ["event","plan"]))) (unop%bX gi) (unop%bX (bz (by exact tg) (by exact ax) (ay (bc 1) (ay (bc 0) aX)))))) d7))))) (iR (binop%i7 (aj (bz rg ax (ay (bc 2) aX))) (aL 1))))) (vu (JL fq.Aj iZ.new bA ax.hd)) Ja)))
abbrev jF:Stmt:=top 68
def jc:cY ["_law_script","_law_number","_law_plan_here","_law_texts","_law_k","_law_name","_law_little_here","_law_goods","_law_at","_law_one","_law_kinds","_law_got","_law_some","_law_bad"] ["_law_script"] (bS jF):=unop%dC 0
def ak4{k:Nat}{f o9 rT:aq}{gY:av}{hb an:Option aq}{kH:Array (Option av)}{gv doc pm bJ:av}(l:K.lookup f=some ⟨gY,hb,.func (lx "law" "law" (ny jF) (hk jF) (bS jF) .none gv doc pm an (.ref o9) bJ),kH⟩)(eT:sX K (.ref o9) "law"=true)(n4:u_ K o9 rT=true)(kB:oQ mg base)(mS:(rT,(("law":Str)++".<locals>.")++"<lambda>")∈cB.cO)(qP:∀p∈cB.cO,p.1=rT->p.2=(("law":Str)++".<locals>.")++"<lambda>"){h7 xz iM gZ alY:aq}(fq:rO K mg h7 xz iM gZ alY)(iZ:qu K h7 xz iM gZ alY alY 3)(Bf:mw P w K mg base "read_row" alY k 2 mf)(A3:mw P w K mg base "read_house" alY k 1 md)(A6:mw P w K mg base "read_plan" alY k 1 oB)(tl:Cl P w K mg base "_law_mixed" k 2 kg)(JI:Cl P w K mg base "_law_plan" k 1 BQ)(jH:mg "range"=none)(Jg:Cl P w K mg base "_law_little" k 1 yb)(rf:Cl P w K mg base "plan_text" k 1 kM)(rd:Cl P w K mg base "house_text" k 1 kd)(rg:Cl P w K mg base "row_text" k 1 kN){My:aq}{WJ:fa}(lN:cE K "_law_told" "_law_told" nu My WJ)(uO:mg "_law_told"=some (.ref My))(Jp:Cl P w K mg base "_law_house" k 1 qB)(J9:Cl P w K mg base "_law_row" k 3 yz)(I4:Cl P w K mg base "_law_changed" k 2 vc)(nB:mg "enumerate"=none)(Bo:Cl P w K mg base "read_plan" k 1 p4)(Be:Cl P w K mg base "read_house" k 1 ni)(Bx:Cl P w K mg base "read_row" k 2 nj)(tn:Cl P w K mg base "is_plan" k 1 nt)(tf:Cl P w K mg base "is_house" k 1 lE)(tg:Cl P w K mg base "is_event" k 2 nk):gD P w K mg base e5 (k+3) f (lx "law" "law" (ny jF) (hk jF) (bS jF) .none gv doc pm an (.ref o9) bJ) ["_law_script"] (spT K 1 vY):=
 aiV l eT jc λA outer s H E ax=>
  (bT (cI 1 jc.bb (bz tl (ax.mono (g4 _ 2)) (ay (bc 0) (ay aG aX)))) (bT (cI 2 jc.bb (bz JI (ax.mono (g4 _ 2)) (ay (bz tl (ax.mono (g4 _ 2)) (ay (bc 0) (ay aG aX))) aX))) (bT (QQ 3 jc.bb (KJ (ay (bz rf (ax.mono (g4 _ 2)) (ay (bc 2) aX)) (ay (bz rd (ax.mono (g4 _ 2)) (ay (bz Jp (ax.mono (g4 _ 2)) (ay (bz tl (ax.mono (g4 _ 2)) (ay (bc 0) (ay aG aX))) aX)) aX)) aX)))) (bT (KI 3 (bz rg (ax.mono (g4 _ 2)) (ay (bz J9 (ax.mono (g4 _ 2)) (ay (bc 2) (ay (bz tl (ax.mono (g4 _ 2)) (ay (bc 0) (ay aG aX))) (ay aG aX)))) aX))) (ak' 3 (bT (vS s6 (Ca jH (aj (d8 (aL 1) (aj aG)))) (d4 4 jc.bb) (b0 (B5 3 jc.bb (own:=["_law_at","_law_text"]) (caps:=[(0,"_law_script"),(4,"_law_k")]) (binop%co jF ["_law_script","_law_number","_law_plan_here","_law_texts","_law_k","_law_name","_law_little_here","_law_goods","_law_at","_law_one","_law_kinds","_law_got","_law_some","_law_bad"]) (aiQ nB (bc 3)) (unop%bX (Cs (rx (d4 0 (unop%bb ["_law_at","_law_text","_law_script","_law_k"])) (rx (d4 1 (unop%bb ["_law_at","_law_text","_law_script","_law_k"])) Ct)))) (unop%bX gi) (unop%bX (bz (by exact I4) (by exact (ax.mono (g4 _ 2))) (ay (bc 1) (ay (QS (aj (bz (by exact tl) (by exact (ax.mono (g4 _ 2))) (ay (bc 2) (ay (cJ (aj aG) (aL 3)) aX)))) (aj (cJ (aj aG) (aL 0)))) aX))))))) (bT (cI 5 jc.bb (bK (aj (bK (aj (bK (aL 2) (aj aG))) (aj aG))) (aj aG))) (bT (cI 6 jc.bb (bz Jg (ax.mono (g4 _ 2)) (ay (bc 5) aX))) (bT (cI 7 jc.bb (dE (ay aG (ay aG (ay aG (ay aG (ay aG (ay aG (ay aG aX))))))))) (bT (cI 8 jc.bb (d8 (aj (fP (aL 1) (aj aG))) (aj aG))) (bT (cI 9 jc.bb (bK (aL 6) (aL 8))) (bT (QQ 10 jc.bb (KJ (ay (bK (aj (vx lN mh (vl lN) uO (λbY A outer s H=>vi bY A outer s H) (λbY A outer s H=>vh fq iZ bY A outer s H) rfl n4 kB mS qP ax (λq dz cl mv eB s2 bo gT=>by exact (bz Bo gT (ay (bc 9) aX))) (λq dz cl mv eB s2 bo v' gT=>by exact (vD A6 gT (qw (bc 9) vP))))) (aj aG)) aX))) (bT (KI 10 (bK (aj (vx lN mh (vl lN) uO (λbY A outer s H=>vi bY A outer s H) (λbY A outer s H=>vh fq iZ bY A outer s H) rfl n4 kB mS qP ax (λq dz cl mv eB s2 bo gT=>by exact (bz Be gT (ay (bc 9) aX))) (λq dz cl mv eB s2 bo v' gT=>by exact (vD A3 gT (qw (bc 9) vP))))) (aj aG))) (bT (KI 10 (bK (aj (vx lN mh (vl lN) uO (λbY A outer s H=>vi bY A outer s H) (λbY A outer s H=>vh fq iZ bY A outer s H) rfl n4 kB mS qP ax (λq dz cl mv eB s2 bo gT=>by exact (bz Bx gT (ay (bc 2) (ay (bc 9) aX)))) (λq dz cl mv eB s2 bo v' gT=>by exact (vD Bf gT (qw (bc 2) (qw (bc 9) vP)))))) (aj aG))) (bT (eD (binop%i7 (aj (nD (qf (by exact ax.units)) qg (aj bA) (aL 10))) (aj (nD (qf (by exact ax.units)) qg (aL 8) (aL 7)))) (b0 (cz j2)) eK) (bT (vS s6 (alV (cJ (aL 3) (aj (gh (aL 6) (fg (aL 8)) (fg (aj (cJ (aL 8) (aj aG)))))))) (d4 9 jc.bb) (bT (cI 11 jc.bb (vx lN mh (vl lN) uO (λbY A outer s H=>vi bY A outer s H) (λbY A outer s H=>vh fq iZ bY A outer s H) rfl n4 kB mS qP ax (λq dz cl mv eB s2 bo gT=>by exact (bz Bo gT (ay (bc 9) aX))) (λq dz cl mv eB s2 bo v' gT=>by exact (vD A6 gT (qw (bc 9) vP))))) (bT (eD (gx (w_and (binop%hu (aj (bK (aL 11) (aj aG))) (aj bA)) (ama (gx (w_or (gC (gO (aj (bz tn (ax.mono (g4 _ 2)) (ay (bK (aL 11) (aj aG)) aX))))) (iR (binop%i7 (aj (bz rf (ax.mono (g4 _ 2)) (ay (bK (aL 11) (aj aG)) aX))) (aL 9)))))))) (b0 (cz j2)) eK) (bT (cI 12 jc.bb (vx lN mh (vl lN) uO (λbY A outer s H=>vi bY A outer s H) (λbY A outer s H=>vh fq iZ bY A outer s H) rfl n4 kB mS qP ax (λq dz cl mv eB s2 bo gT=>by exact (bz Be gT (ay (bc 9) aX))) (λq dz cl mv eB s2 bo v' gT=>by exact (vD A3 gT (qw (bc 9) vP))))) (bT (eD (gx (w_and (binop%hu (aj (bK (aL 12) (aj aG))) (aj bA)) (ama (gx (w_or (gC (gO (aj (bz tf (ax.mono (g4 _ 2)) (ay (bK (aL 12) (aj aG)) aX))))) (iR (binop%i7 (aj (bz rd (ax.mono (g4 _ 2)) (ay (bK (aL 12) (aj aG)) aX))) (aL 9)))))))) (b0 (cz j2)) eK) (bT (eD (gx (w_or (gx (w_and (binop%i7 (aj (bK (aL 11) (aj aG))) (aj bA)) (ama (binop%i7 (aL 11) (aj (dE (ay bA (ay aG aX)))))))) (iR (gx (w_and (binop%i7 (aj (bK (aL 12) (aj aG))) (aj bA)) (ama (binop%i7 (aL 12) (aj (dE (ay bA (ay aG aX))))))))))) (b0 (cz j2)) eK) (bT (cI 11 jc.bb (vx lN mh (vl lN) uO (λbY A outer s H=>vi bY A outer s H) (λbY A outer s H=>vh fq iZ bY A outer s H) rfl n4 kB mS qP ax (λq dz cl mv eB s2 bo gT=>by exact (bz Bx gT (ay (bc 2) (ay (bc 9) aX)))) (λq dz cl mv eB s2 bo v' gT=>by exact (vD Bf gT (qw (bc 2) (qw (bc 9) vP)))))) (b0 (eD (binop%hu (aj (bK (aL 11) (aj aG))) (aj bA)) (bT (B5 13 jc.bb (own:=["_law_event_here"]) (caps:=[(2,"_law_plan_here")]) (binop%co jF ["_law_script","_law_number","_law_plan_here","_law_texts","_law_k","_law_name","_law_little_here","_law_goods","_law_at","_law_one","_law_kinds","_law_got","_law_some","_law_bad"]) (alV (bK (aL 11) (aj aG))) (unop%bX (d4 0 (unop%bb ["_law_event_here","_law_plan_here"]))) (unop%bX (vE (gC (gO (aj (bz (by exact tg) (by exact (ax.mono (g4 _ 2))) (ay (bc 1) (ay (bc 0) aX)))))))) (unop%bX (bc 0))) (b0 (eD (gx (w_or (binop%i7 (aL 13) (aj (rt aX))) (iR (binop%i7 (aj (bz rg (ax.mono (g4 _ 2)) (ay (bK (aL 11) (aj aG)) aX))) (aL 9))))) (b0 (cz j2)) eK))) (b0 (eD (binop%i7 (aL 11) (aj (dE (ay bA (ay aG aX))))) (b0 (cz j2)) eK))))))))))) (b0 (cz j2))))))))))))))))))
end
end oX
end
section
namespace ei
open D PySem
def ls(x:Str):List Nat:=x.cps.toList
def st(l:List Nat):Str:=⟨l.toArray⟩
def fZ(l:List Nat):ls (st l)=l:=rfl
def vR(x:Str):st (ls x)=x:=by cases x;simp[st,ls]
def qh{x y:Str}(h:ls x=ls y):x=y:=by rw[<- vR x,<- vR y,h]
def er(x:Str):x.length=(ls x).length:=by simp[Str.length,ls]
def hl(x y:Str):ls (x++y)=ls x++ls y:=by
 show (x.cps++y.cps).toList=_
 simp[ls]
def el(c:Nat):List Nat->List (List Nat)
| []=>[[]]
|a::l=>if a=c then []::el c l else match el c l with
  | []=>[[a]]
  |p::ps=>(a::p)::ps
def B4(c:Nat):∀l:List Nat,el c l≠[]
| []=>by simp[el]
|a::l=>by
  unfold el;split
  ·simp
  ·split <;> simp
theorem P7{c:Nat}:∀{l:List Nat},c∉l->el c l=[l]
| [],_=>rfl
|a::l,h=>by
  have ah:a≠c:=λe=>h (by simp[e]);have ao:=P7 (l:=l) λe=>h (ew _ e);simp[el,ah,ao]
theorem Jx{c:Nat}:∀{l:List Nat} (m:List Nat),c∉l->el c (l++c::m)=l::el c m
| [],m,_=>by simp[el]
|a::l,m,h=>by
  have ah:a≠c:=λe=>h (by simp[e]);have ao:=Jx (l:=l) m λe=>h (ew _ e);simp[el,ah,ao]
theorem tv{c:Nat}:∀{l p:List Nat},p∈el c l->∀a∈p,a∈l
| [],p,h,a,aA=>by
  simp[el] at h;subst h;simp at aA
|b::l,p,h,a,aA=>by
  unfold el at h;split at h
  ·rcases bC.mp h with rfl|h
   ·simp at aA
   ·exact ew _ (tv h a aA)
  ·split at h
   ·simp at h;subst h;simp at aA;simp[aA]
   next q ps e=>
    rcases bC.mp h with rfl|h
    ·rcases bC.mp aA with rfl|aA
     ·simp
     ·exact ew _ (tv (p:=q) (by rw[e];simp) a aA)
    ·exact ew _ (tv (p:=p) (by rw[e];simp[h]) a aA)
theorem yD{c:Nat}:∀{l p:List Nat},p∈el c l->c∉p
| [],p,h=>by
  simp[el] at h;subst h;simp
|b::l,p,h=>by
  unfold el at h;split at h
  ·rcases bC.mp h with rfl|h
   ·simp
   ·exact yD h
  next ag=>
   split at h
   ·simp at h;subst h;simpa using λe=>ag e.symm
   next q ps e=>
    rcases bC.mp h with rfl|h
    ·have:=yD (l:=l) (p:=q) (by rw[e];simp);simp only[bC,not_or];exact⟨λe=>ag e.symm,this⟩
    ·exact yD (l:=l) (p:=p) (by rw[e];simp[h])
theorem vv{c:Nat}:∀{l p:List Nat},p∈el c l->p.length<=l.length
| [],p,h=>by
  simp[el] at h;subst h;simp
|b::l,p,h=>by
  unfold el at h;split at h
  ·rcases bC.mp h with rfl|h
   ·simp
   ·have:=vv h;simp;omega
  ·split at h
   ·simp at h;subst h;simp
   next q ps e=>
    rcases bC.mp h with rfl|h
    ·have:=vv (l:=l) (p:=q) (by rw[e];simp);simp;omega
    ·have:=vv (l:=l) (p:=p) (by rw[e];simp[h]);simp;omega
theorem ye{c:Nat}:∀(l:List Nat),(el c l).length<=l.length+1
| []=>by simp[el]
|b::l=>by
  have:=ye (c:=c) l;unfold el;split
  ·simp;omega
  ·split
   ·simp
   next q ps e=>
    rw[e] at this;simp at this ⊢;omega
def c0(c:Nat):List (List Nat)->List Nat
| []=>[]
| [p]=>p
|p::q::r=>p++c::c0 c (q::r)
theorem Kk{c:Nat}:∀{ps:List (List Nat)},ps≠[]->(∀p∈ps,c∉p)->el c (c0 c ps)=ps
| [],h,_=>absurd rfl h
| [p],_,h=>P7 (h p (by simp))
|p::q::r,_,h=>by
  show el c (p++c::c0 c (q::r))=_
  rw[Jx _ (h p (by simp)),Kk (by simp) λx hx=>h x (ew _ hx)]
theorem Q2{c:Nat}:∀(l:List Nat),c0 c (el c l)=l
| []=>rfl
|a::l=>by
  have h:=Q2 (c:=c) l;unfold el;split
  next e=>
   subst e;have bf:=B4 a l;generalize el a l=s at *;cases s with
   |nil=>exact absurd rfl bf
   |cons p r=>simp[c0] at h ⊢;exact h
  ·split
   next e=>exact absurd e (B4 c l)
   next q ps e=>
    rw[e] at h;cases ps with
    |nil=>simp[c0] at h ⊢;exact h
    |cons p r=>simp[c0] at h ⊢;exact h
theorem BU(c:Nat):∀ps:List Str,ls (Str.join ⟨#[c]⟩ ps)=c0 c (ps.map ls)
| []=>rfl
| [p]=>by rw[PyProof.Rows.join_one];rfl
|p::q::r=>by
  rw[PyProof.Rows.join_cons_cons,hl,hl,BU c (q::r)];show (ls p++[c])++_=ls p++c::_;simp
def ag8(x:Str)(c:Nat):(Txt.split x ⟨#[c]⟩).map ls=el c (ls x):=by
 have ah:ls (Str.join ⟨#[c]⟩ (Txt.split x ⟨#[c]⟩))=ls x:=by rw[StrLaws.join_split]
 rw[BU] at ah;have aC:1<=(Txt.split x ⟨#[c]⟩).length:=PyProof.Rows.split_pos x ⟨#[c]⟩;rw[<- ah];symm;refine Kk (λe=>?_) λp aC=>?_
 ·have:=List.map_eq_nil_iff.mp e;rw[this] at aC;simp at aC
 ·obtain⟨y,b1,rfl⟩:=b2.mp aC;exact StrLaws.split_free x c y b1
def ag9(x:Str)(c:Nat):Txt.split x ⟨#[c]⟩=(el c (ls x)).map st:=by
 rw[<- ag8,dW]
 conv=>lhs;rw[<- List.map_id (Txt.split x ⟨#[c]⟩)]
 exact List.map_congr_left λy _=>(vR y).symm
theorem Qf:∀ps:List Str,ls (Str.join ⟨#[]⟩ ps)=(ps.map ls).flatten
| []=>rfl
| [p]=>by rw[PyProof.Rows.join_one];simp
|p::q::r=>by
  rw[PyProof.Rows.join_cons_cons,hl,hl,Qf (q::r)];show (ls p++[])++_=_;simp
def Ju(x:Str)(ps:List Str):Txt.join x ps=Str.join x ps:=StrLaws.glued_eq_join x ps
def aiN{x:Str}{ps:List Str}{B:Nat}(h:∀y∈ps,y.length<=B)(ag:ps.length*B+ps.length*x.length<=16777216):JoinOk x ps=true:=by
 unfold JoinOk;rw[StrLaws.joinFits h ag];rfl
def asc(l:List Nat):Prop:=∀a∈l,a<128
def Ji(x:Str):vN x=true <-> asc (ls x):=by
 unfold vN asc ls;rw[List.all_eq_true];constructor
 ·intro h a aA;exact of_decide_eq_true (h a aA)
 ·intro h a aA;exact decide_eq_true (h a aA)
def vm{x:Str}(h:asc (ls x)):PyData.strOk x=true:=by
 unfold PyData.strOk;rw[<- Array.all_toList,List.all_eq_true];intro a aA;have:=h a aA;exact decide_eq_true (by omega)
def tH{a b:List Nat}(ah:asc a)(ao:asc b):asc (a++b):=λx hx=>(gz.mp hx).elim (ah x) (ao x)
theorem Cc{c:Nat}(au:c<128):∀{ps:List (List Nat)},(∀p∈ps,asc p)->asc (c0 c ps)
| [],_=>λa h=>by simp[c0] at h
| [p],h=>h p (by simp)
|p::q::r,h=>by
  refine tH (h p (by simp)) λa aA=>?_
  rcases bC.mp aA with rfl|aA
  ·exact au
  ·exact Cc au (λx hx=>h x (ew _ hx)) a aA
def ah7{ps:List (List Nat)}(h:∀p∈ps,asc p):asc ps.flatten:=λa aA=>by
 obtain⟨p,aC,hx⟩:=List.mem_flatten.mp aA;exact h p aC a hx
def J'{a b:List Nat}(h:asc b)(aB:∀x∈a,x∈b):asc a:=λx hx=>h x (aB x hx)
def rj(m:Nat):ls (cP (m:Int))=(Nat.toDigits 10 m).map Char.toNat:=W.KIN.signs_num m
def P6(m:Nat):NumText.AllDigits (ls (cP (m:Int))):=by
 rw[rj];intro c au;obtain⟨d,hd,rfl⟩:=b2.mp au;have h:=Nat.isDigit_of_mem_toDigits (by decide) (by decide) hd;simp only[Char.isDigit,cX,decide_eq_true_eq] at h;exact⟨h.1,h.2⟩
end ei
end
section
namespace D
open PySem
def BO(ss:List Str)(h:∀x∈ss,(hL x).canLay0=true):jB (ss.map .str)=true/\i' (ss.map .str)<=1:=by
 induction ss with
|nil=>simp[jB,i']
|cons n ns d0=>
  have ah:=h n (by simp);have ao:=d0 λx hx=>h x (by simp[hx]);simp[jB,i',jC,ah,ao]
theorem Qg(n:Str):∀ns:List Str,mP (.str n) (ns.map .str)=decide (n∈ns)
| []=>by simp[mP]
|m::ns=>by
  have d0:=Qg n ns;unfold mP at d0 ⊢;rw[eI,List.any_cons,d0];simp[kL,Bool.beq_eq_decide_eq,eq_comm]
def JW(n:Int):eV (.int n)=true:=by simp[eV,PyData.canLay0,jC]
def aiE{x:Str}(h:(hL x).canLay0=true):eV (.str x)=true:=by simp[eV,jC,h]
def agl(ss:List Str)(h:∀x∈ss,(hL x).canLay0=true):oj (ss.map .str)=true:=by
 have:=BO ss h;simp[oj,this.1];omega
def aiG(neg:Bool)(n:Str)(ns:List Str)(h0:(hL n).canLay0=true)(h:∀x∈ns,(hL x).canLay0=true):gJ neg (.str n) (.tuple (ns.map .str))=some (.bool (if neg then !decide (n∈ns) else decide (n∈ns))):=by
 simp only[gJ,aiE h0,agl ns h,Qg,Bool.and_self,if_true]
end D
end
section
namespace bU
open D PySem
structure kU where
 ia:Str
 hY:Str
 j5:List Str
 uses:Int
structure b4 where
 dY:List (Str×Str)
 codes:List kU
 leave:Int
 lT:Int
 loud:Int
structure dv where
 mode:Str
 left:Int
 qA:Option Str
 lines:List (Str×Str)
 lq:List Str
 q2:Int
 mD:List Str
 tries:Int
 locked:Int
 used:List (Str×Int)
 past:Int
 told:List (Int×Str×Option Str)
def mZ:Option Str->T
|none=>.none
|some x=>.str x
def e7(z:Str×Str):T:=.tuple [.str z.1,.str z.2]
def eY(c:kU):T:=.tuple [.str c.ia,.str c.hY,.tuple (c.j5.map .str),.int c.uses]
def bG(p:b4):T:=.tuple [.tuple (p.dY.map e7),.tuple (p.codes.map eY),.tuple [.int p.leave,.int p.lT,.int p.loud]]
def zI(w:Int×Str×Option Str):T:=.tuple [.int w.1,.str w.2.1,mZ w.2.2]
def ED(l:List (Str×Str)):List (D.Key×T):=l.map λp=>(.inr p.1,.str p.2)
def EC(l:List (Str×Int)):List (D.Key×T):=l.map λp=>(.inr p.1,.int p.2)
noncomputable def encC(p:b4)(c:dv):List bQ:=[.ae (bG p),.ae (.str c.mode),.ae (.int c.left),.ae (mZ c.qA),.iE (ED c.lines),.own (c.lq.map .str),.ae (.int c.q2),.own (c.mD.map .str),.ae (.int c.tries),.ae (.int c.locked),.iE (EC c.used),.ae (.int c.past),.own (c.told.map zI)]
def aen:¬(("off":Str)="leaving"):=by decide +kernel
def ahy:¬(("off":Str)="on"):=by decide +kernel
def aeJ:¬(("off":Str)="coming"):=by decide +kernel
def aeo:¬(("leaving":Str)="off"):=by decide +kernel
def aeL:¬(("leaving":Str)="on"):=by decide +kernel
def ad1:¬(("leaving":Str)="coming"):=by decide +kernel
def ahx:¬(("on":Str)="off"):=by decide +kernel
def aeI:¬(("on":Str)="leaving"):=by decide +kernel
def aff:¬(("on":Str)="coming"):=by decide +kernel
def aeP:¬(("coming":Str)="off"):=by decide +kernel
def ad2:¬(("coming":Str)="leaving"):=by decide +kernel
def afl:¬(("coming":Str)="on"):=by decide +kernel
def afa:¬(("shut":Str)="open"):=by decide +kernel
def afM:¬(("shut":Str)="cut"):=by decide +kernel
def afe:¬(("open":Str)="shut"):=by decide +kernel
def afO:¬(("open":Str)="cut"):=by decide +kernel
def afT:¬(("cut":Str)="shut"):=by decide +kernel
def afU:¬(("cut":Str)="open"):=by decide +kernel
def afk:¬(("day":Str)="inner"):=by decide +kernel
def afS:¬(("day":Str)="once"):=by decide +kernel
def agq:¬(("day":Str)="way"):=by decide +kernel
def afj:¬(("inner":Str)="day"):=by decide +kernel
def aeM:¬(("inner":Str)="once"):=by decide +kernel
def afh:¬(("inner":Str)="way"):=by decide +kernel
def afQ:¬(("once":Str)="day"):=by decide +kernel
def aeH:¬(("once":Str)="inner"):=by decide +kernel
def afP:¬(("once":Str)="way"):=by decide +kernel
def agp:¬(("way":Str)="day"):=by decide +kernel
def ae_:¬(("way":Str)="inner"):=by decide +kernel
def afL:¬(("way":Str)="once"):=by decide +kernel
def afc:¬(("set":Str)="unset"):=by decide +kernel
def afd:¬(("set":Str)="shunt"):=by decide +kernel
def afN:¬(("set":Str)="free"):=by decide +kernel
def ae':¬(("unset":Str)="set"):=by decide +kernel
def ael:¬(("unset":Str)="shunt"):=by decide +kernel
def aeD:¬(("unset":Str)="free"):=by decide +kernel
def afb:¬(("shunt":Str)="set"):=by decide +kernel
def aem:¬(("shunt":Str)="unset"):=by decide +kernel
def aeG:¬(("shunt":Str)="free"):=by decide +kernel
def afR:¬(("free":Str)="set"):=by decide +kernel
def aeN:¬(("free":Str)="unset"):=by decide +kernel
def aeO:¬(("free":Str)="shunt"):=by decide +kernel
def afg:¬(("line":Str)="code"):=by decide +kernel
def aeK:¬(("line":Str)="ticks"):=by decide +kernel
def afm:¬(("code":Str)="line"):=by decide +kernel
def aeQ:¬(("code":Str)="ticks"):=by decide +kernel
def aeE:¬(("ticks":Str)="line"):=by decide +kernel
def aeF:¬(("ticks":Str)="code"):=by decide +kernel
def tell(w:Str)(n:Option Str)(c:dv):dv:={c with told:=c.told++[(c.past,w,n)]}
def DO(p:b4)(c:dv):dv:={c with q2:=p.loud}
def wt(p:b4)(z:Str)(c:dv):dv:=if z∈c.mD then DO p c else tell "alarm" (some z) {DO p c with mD:=c.mD++[z]}
section
variable (p:b4)(c:dv)
def Cu:(encC p c).length=13:=rfl
def bp:(encC p c)[0]?=some (.ae (bG p)):=rfl
def aE:(encC p c)[1]?=some (.ae (.str c.mode)):=rfl
def aK:(encC p c)[2]?=some (.ae (.int c.left)):=rfl
def c_:(encC p c)[3]?=some (.ae (mZ c.qA)):=rfl
def gG:(encC p c)[4]?=some (.iE (ED c.lines)):=rfl
def jM:(encC p c)[5]?=some (.own (c.lq.map .str)):=rfl
def iG:(encC p c)[6]?=some (.ae (.int c.q2)):=rfl
def nY:(encC p c)[7]?=some (.own (c.mD.map .str)):=rfl
def qD:(encC p c)[8]?=some (.ae (.int c.tries)):=rfl
def qE:(encC p c)[9]?=some (.ae (.int c.locked)):=rfl
def zD:(encC p c)[10]?=some (.iE (EC c.used)):=rfl
def zE:(encC p c)[11]?=some (.ae (.int c.past)):=rfl
def zF:(encC p c)[12]?=some (.own (c.told.map zI)):=rfl
def s1(x:Str):(encC p c).set 1 (.ae (.str x))=encC p {c with mode:=x}:=rfl
def s2(x:Int):(encC p c).set 2 (.ae (.int x))=encC p {c with left:=x}:=rfl
def s3(x:Str):(encC p c).set 3 (.ae (.str x))=encC p {c with qA:=some x}:=rfl
def Ap:(encC p c).set 3 (.ae .none)=encC p {c with qA:=none}:=rfl
def s4(l:List (Str×Str)):(encC p c).set 4 (.iE (ED l))=encC p {c with lines:=l}:=rfl
def s5(l:List Str):(encC p c).set 5 (.own (l.map .str))=encC p {c with lq:=l}:=rfl
def Aq:(encC p c).set 5 (.own [])=encC p {c with lq:=[]}:=rfl
def d2(x:Int):(encC p c).set 6 (.ae (.int x))=encC p {c with q2:=x}:=rfl
def c2(l:List Str):(encC p c).set 7 (.own (l.map .str))=encC p {c with mD:=l}:=rfl
def As:(encC p c).set 7 (.own [])=encC p {c with mD:=[]}:=rfl
def Ar(l:List Str)(z:Str):(encC p c).set 7 (.own (l.map .str++[.str z]))=encC p {c with mD:=l++[z]}:=by simp[encC]
def du(x:Int):(encC p c).set 8 (.ae (.int x))=encC p {c with tries:=x}:=rfl
def pN(x:Int):(encC p c).set 9 (.ae (.int x))=encC p {c with locked:=x}:=rfl
def eW(l:List (Str×Int)):(encC p c).set 10 (.iE (EC l))=encC p {c with used:=l}:=rfl
def i8(x:Int):(encC p c).set 11 (.ae (.int x))=encC p {c with past:=x}:=rfl
def Ao(l:List (Int×Str×Option Str))(i:Int)(w:Str)(n:Option Str):(encC p c).set 12 (.own (l.map zI++[.tuple [.int i,.str w,mZ n]]))=encC p {c with told:=l++[(i,w,n)]}:=by simp[encC,zI]
end
end bU
open D bU
open PySem hiding run fresh code
local macro_rules
| `(tactic| simp! [alL,$xs,*] $[$l]?)=>`(tactic| simp[Cu,bp,aE,aK,c_,gG,jM,iG,nY,qD,qE,zD,zE,zF,s1,s2,s3,Ap,s4,s5,Aq,d2,c2,As,Ar,du,pN,eW,i8,Ao,runM,xw,mm,tS,wL,yY,yX,xu,yU,xv,wx,y2,wA,wu,m5,l3,fld,uq,qF,uo,wM,yV,y1,tW,never,wy,jW,lI,bV,seq,iff,a3,i9,e6,dB,dq,ct,ofT,dQ,af,aw,args,aa,nm,az,bh,skip,asg,h8,kZ,par,br,eh,gX,jG,aJ,eP,fv,a8,eH,gH,fc,comp,hn,$xs,*] $[$l]?)
local macro_rules
| `(tactic| simp! [Az,$xs,*] $[$l]?)=>`(tactic| simp[bV,seq,iff,a3,i9,e6,dB,dq,ct,ofT,dQ,af,aw,args,aa,nm,az,bh,skip,asg,h8,kZ,par,br,eh,gX,jG,aJ,eP,fv,a8,eH,gH,fc,comp,hn,$xs,*] $[$l]?)
| `(tactic| simp! [Az] $[$l]?)=>`(tactic| simp[bV,seq,iff,a3,i9,e6,dB,dq,ct,ofT,dQ,af,aw,args,aa,nm,az,bh,skip,asg,h8,kZ,par,br,eh,gX,jG,aJ,eP,fv,a8,eH,gH,fc,comp,hn] $[$l]?)
local macro_rules
| `(tactic| simp! [alM,$xs,*] $[$l]?)=>`(tactic| simp[aU,oi,dw,oDiv,oMod,og,eC,mY,mX,dS,Cn,Ak,oLt,oLe,iJ,l2,big,Cu,bp,aE,aK,c_,gG,jM,iG,nY,qD,qE,zD,zE,zF,s1,s2,s3,Ap,s4,s5,Aq,d2,c2,As,Ar,du,pN,eW,i8,Ao,runM,xw,mm,tS,wL,yY,yX,xu,yU,xv,wx,y2,wA,wu,m5,l3,fld,uq,qF,uo,wM,yV,y1,tW,never,wy,jW,lI,bV,seq,iff,a3,i9,e6,dB,dq,ct,ofT,dQ,af,aw,args,aa,nm,az,bh,skip,asg,h8,kZ,par,br,eh,gX,jG,aJ,eP,fv,a8,eH,gH,fc,comp,hn,$xs,*] $[$l]?)
local macro_rules
| `(tactic| simp! [alN,$xs,*] $[$l]?)=>`(tactic| simp[runM,xw,mm,tS,wL,yY,yX,xu,yU,xv,wx,y2,wA,wu,m5,l3,fld,uq,qF,uo,wM,yV,y1,tW,never,wy,jW,lI,bV,seq,iff,a3,i9,e6,dB,dq,ct,ofT,dQ,af,aw,args,aa,nm,az,bh,skip,asg,h8,kZ,par,br,eh,gX,jG,aJ,eP,fv,a8,eH,gH,fc,comp,hn,$xs,*] $[$l]?)
local macro_rules
| `(tactic| simp! [alO,$xs,*] $[$l]?)=>`(tactic| simp[Cu,bp,aE,aK,c_,gG,jM,iG,nY,qD,qE,zD,zE,zF,s1,s2,s3,Ap,s4,s5,Aq,d2,c2,As,Ar,du,pN,eW,i8,Ao,runM,xw,mm,tS,wL,yY,yX,xu,yU,xv,wx,y2,wA,wu,m5,l3,fld,uq,qF,uo,wM,yV,y1,tW,never,wy,jW,lI,aen,ahy,aeJ,aeo,aeL,ad1,ahx,aeI,aff,aeP,ad2,afl,afa,afM,afe,afO,afT,afU,afk,afS,agq,afj,aeM,afh,afQ,aeH,afP,agp,ae_,afL,afc,afd,afN,ae',ael,aeD,afb,aem,aeG,afR,aeN,aeO,afg,aeK,afm,aeQ,aeE,aeF,bV,seq,iff,a3,i9,e6,dB,dq,ct,ofT,dQ,af,aw,args,aa,nm,az,bh,skip,asg,h8,kZ,par,br,eh,gX,jG,aJ,eP,fv,a8,eH,gH,fc,comp,hn,$xs,*] $[$l]?)
local macro_rules
| `(tactic| simp! [NX,$xs,*] $[$l]?)=>`(tactic| simp[aU,oi,dw,oDiv,oMod,og,eC,mY,mX,dS,Cn,Ak,oLt,oLe,iJ,l2,big,bV,seq,iff,a3,i9,e6,dB,dq,ct,ofT,dQ,af,aw,args,aa,nm,az,bh,skip,asg,h8,kZ,par,br,eh,gX,jG,aJ,eP,fv,a8,eH,gH,fc,comp,hn,$xs,*] $[$l]?)
local macro_rules
| `(tactic| simp! [alP,$xs,*] $[$l]?)=>`(tactic| simp[runM,xw,mm,tS,wL,yY,yX,xu,yU,xv,wx,y2,wA,wu,m5,l3,fld,uq,qF,uo,wM,yV,y1,tW,never,wy,jW,lI,$xs,*] $[$l]?)
local macro_rules
| `(tactic| simp! [alQ,$xs,*] $[$l]?)=>`(tactic| simp[Cu,bp,aE,aK,c_,gG,jM,iG,nY,qD,qE,zD,zE,zF,s1,s2,s3,Ap,s4,s5,Aq,d2,c2,As,Ar,du,pN,eW,i8,Ao,$xs,*] $[$l]?)
local macro_rules
| `(tactic| simp! [fL,$xs,*] $[$l]?)=>`(tactic| simp[bV,seq,iff,a3,i9,e6,dB,dq,ct,ofT,dQ,af,aw,args,aa,nm,az,bh,skip,asg,h8,kZ,par,br,eh,gX,jG,a8,eH,gH,fc,comp,hn,$xs,*] $[$l]?)
| `(tactic| simp! [fL] $[$l]?)=>`(tactic| simp[bV,seq,iff,a3,i9,e6,dB,dq,ct,ofT,dQ,af,aw,args,aa,nm,az,bh,skip,asg,h8,kZ,par,br,eh,gX,jG,a8,eH,gH,fc,comp,hn] $[$l]?)
namespace bU
open D PySem
def Al(x:Str):Prop:=(hL x).canLay0=true
def ahs(neg:Bool){n:Str}{ns:List Str}(h0:Al n)(h:∀x∈ns,Al x):gJ neg (.str n) (.tuple (ns.map .str))=some (.bool (if neg then !decide (n∈ns) else decide (n∈ns))):=aiG neg n ns h0 h
def kindOf(p:b4)(z:Str):Str:=((p.dY.find? λx=>decide (x.1=z)).map (·.2)).getD ""
def codeOf(p:b4)(f:Str):Option kU:=p.codes.find? λk=>decide (k.ia=f)
def Kt(c:dv)(z:Str):Str:=(c.lines.lookup z).getD ""
def Av(l:List (Str×Str))(z w:Str):List (Str×Str):=l.map λp=>if p.1=z then (z,w) else p
def ajl(c:dv)(f:Str):Int:=(c.used.lookup f).getD 0
def Tv(l:List (Str×Int))(f:Str):List (Str×Int):=l.map λp=>if p.1=f then (f,p.2+1) else p
def bare(p:b4)(kinds:List Str)(c:dv):List Str:=((p.dY.filter λz=>decide (z.2∈kinds)).map (·.1)).filter λz=>decide (Kt c z≠"shut") && !decide (z∈c.lq)
def akj(p:b4)(z k:Str)(c:dv):dv:=if k≠"way"\/p.lT<=0 then wt p z c else tell "coming" (some z) {c with mode:="coming",left:=p.lT,qA:=some z}
noncomputable def ai3(p:b4)(z w:Str)(c:dv):dv:=
 if kindOf p z="day" then wt p z c
 else if c.mode="off" then (if w="cut" then tell "fault" (some z) c else c)
 else if w="cut"\/kindOf p z="once" then wt p z c
 else if c.mode="on" then akj p z (kindOf p z) c else c
noncomputable def line(p:b4)(z w:Str)(c:dv):dv:=
 if w=Kt c z then c
 else if w="shut" then (if Kt c z="cut" then tell "mended" (some z) {c with lines:=Av c.lines z w} else {c with lines:=Av c.lines z w})
 else if z∈c.lq then {c with lines:=Av c.lines z w} else ai3 p z w {c with lines:=Av c.lines z w}
def less(a n:Int):Int:=if 0 > a - n then 0 else a - n
def Jo(n:Int)(c:dv):dv:={c with past:=c.past+n,locked:=less c.locked n,q2:=less c.q2 n,left:=less c.left n}
def mD(p:b4)(zs:List Str)(c:dv):dv:=zs.foldl (λc z=>wt p z c) c
def Pj(p:b4)(c:dv):dv:=mD p (bare p ["inner","way"] (tell "on" none {c with mode:="on",left:=0})) (tell "on" none {c with mode:="on",left:=0})
def agJ(p:b4)(c:dv):dv:=wt p (c.qA.getD "") {c with mode:="on",qA:=none}
def ai1(p:b4)(c:dv):dv:=if c.mode="leaving" then Pj p c else agJ p c
noncomputable def ef(p:b4)(n:Int)(c:dv):dv:=
 if n<1 then c else if (c.mode="leaving"\/c.mode="coming")/\c.left<=n then Jo (n - c.left) (ai1 p (Jo c.left c)) else Jo n c
def ajk(k:kU)(c:dv):Bool:=decide (k.uses≠0) && decide (k.uses<=ajl c k.ia)
def Oo(c:dv):dv:={tell "wrong" none c with tries:=c.tries+1}
def Pr(p:b4)(c:dv):dv:=if 3<=c.tries+1 then tell "attack" none (DO p {Oo c with tries:=0,locked:=90}) else Oo c
noncomputable def ag3(p:b4)(d:Str)(z:Option Str)(c:dv):Bool:=
 if d="unset" then false else if c.mode≠"off" then true
 else if d="shunt" then decide (kindOf p (z.getD "")="day") || decide (z.getD ""∈c.lq)
 else decide (d="free") && !decide (z.getD ""∈c.lq)
noncomputable def ajd(p:b4)(k:kU)(d:Str)(z:Option Str)(c:dv):Option (Str×Str):=
 if (if d="free" then ("shunt":Str) else d)∉k.j5 then some ("denied",k.hY)
 else if ag3 p d z c then some ("no",k.hY)
 else if d="set"/\bare p ["day","once"] c≠[] then some ("open",(bare p ["day","once"] c).headD "") else none
def ak8(p:b4)(hY:Str)(c:dv):dv:=
 let c9:=tell "set" (some hY) {c with mD:=[],q2:=0,mode:="leaving",left:=p.leave}
 if p.leave<=0 then Pj p c9 else c9
def ai2(hY:Str)(c:dv):dv:=tell "unset" (some hY) {c with mode:="off",left:=0,q2:=0,qA:=none,lq:=[]}
noncomputable def ake(p:b4)(hY d:Str)(z:Option Str)(c:dv):dv:=
 if d="set" then ak8 p hY c else if d="unset" then ai2 hY c
 else if d="shunt" then tell "shunt" z {c with lq:=Cf (c.lq++[z.getD ""])}
 else tell "free" z {c with lq:=c.lq.erase (z.getD "")}
noncomputable def takeRight(p:b4)(k:kU)(d:Str)(z:Option Str)(c:dv):dv:=match ajd p k d z c with
|none=>ake p k.hY d z {c with used:=Tv c.used k.ia}
|some (w,n)=>tell w (some n) c
noncomputable def code(p:b4)(f d:Str)(z:Option Str)(c:dv):dv:=
 if 0<c.locked then tell "locked" none c else match codeOf p f with
  |none=>Pr p c
  |some k=>if ajk k c then Pr p c else takeRight p k d z {c with tries:=0}
end bU
section
namespace bU
open D PySem
def yC:(2<=big)=True:=by simp[big]
def qY(p:b4)(d:Str)(z:Option Str):Prop:=(d="shunt"\/d="free")->∃x,z=some x/\x∈p.dY.map (·.1)
inductive dU where
|line (z w:Str)
|code (f d:Str) (z:Option Str)
|ef (n:Int)
def cu:dU->T
|.line z w=>.tuple [.str "line",.str z,.str w]
|.code f d z=>.tuple [.str "code",.str f,.str d,mZ z]
|.ef n=>.tuple [.str "ticks",.int n]
def akc(p:b4)(c:dv):dU->dv
|.line z w=>line p z w c
|.code f d z=>code p f d z c
|.ef n=>ef p n c
end bU
end
section
namespace bU
open D PySem
local instance:cB:=⟨[],λ_=>[],λ_=>none⟩
def run(p:b4)(c:dv)(ar:List dU):dv:=ar.foldl (akc p) c
def fresh(c:dv):dv:={c with past:=0,told:=[]}
end bU
end
section
namespace bU
open D PySem
local instance:cB:=⟨[],λ_=>[],λ_=>none⟩
def J8(ns:List Int)(k:Nat):lD [c7 ns,.int k]=some (.int (ns.getD k 0)):=by
 by_cases h:k<ns.length
 ·have h':(k:Int)<(ns.length:Int):=by omega
  simp! [NX,lD,td,c7,h,h',List.getD]
 ·have h':¬(k:Int)<(ns.length:Int):=by omega
  simp! [NX,lD,td,c7,h,h',List.getD]
def jt{i j:Int}(h:-(2 ^ 64)<j/\j<2 ^ 64):dw (.int i) (.int j)=some (.int (i*j)):=by
 unfold dw vW;simp only[decide_eq_true h.1,decide_eq_true h.2,Bool.and_self,Bool.or_true,if_true]
def i6{i j:Int}(h:0<j):oMod (.int i) (.int j)=some (.int (i % j)):=if_pos h
def vM{i j:Int}(h:0<j/\j<1073741824):oDiv (.int i) (.int j)=some (.int (i / j)):=if_pos h
def hN{i j:Int}:aU (.int i) (.int j)=some (.int (i+j)):=rfl
def cG{a b:bx}{ε ε':Ev}(h:a ε=some (.bg ε')):seq a b ε=b ε':=by
 unfold seq;rw[h];rfl
def uP(ns:List Int)(k:Nat):∃m:Int,0<=m/\kg [c7 ns,.int k]=some (.int m):=by
 have au:=J8 ns k;have hd:0<=(ns.getD k 0+7919*(k:Int)+1)*48271 % 2147483647/\(ns.getD k 0+7919*(k:Int)+1)*48271 % 2147483647<2147483647:=⟨ja _ (by decide),lA _ (by decide)⟩;generalize hx:(ns.getD k 0+7919*(k:Int)+1)*48271 % 2147483647=d at hd;refine⟨(d*d+7*d+k) % 2147483629,ja _ (by decide),?_⟩;have bp:kg [c7 ns,.int k]=(tq [some (.ae (c7 ns)),some (.ae (.int k)),none]).bind λo=>match o with|.ee t=>some t|.bg _=>some .none|_=>none:=rfl
 have hD:dw (.int 7919) (.int k)=some (.int (7919*k)):=by
  unfold dw vW;simp
 have alX:az 0 [some (.ae (c7 ns)),some (.ae (.int k)),none]=some (c7 ns):=rfl;have fj:az 1 [some (.ae (c7 ns)),some (.ae (.int k)),none]=some (.int k):=rfl;have HZ:nm 1 [some (.ae (c7 ns)),some (.ae (.int k)),none]=some (.int k):=rfl;have s1:asg 2 (af oMod (af dw (af aU (af aU (aw lD [(az 0),(az 1)]) (af dw (aa (.int 7919)) (nm 1))) (aa (.int 1))) (aa (.int 48271))) (aa (.int 2147483647))) [some (.ae (c7 ns)),some (.ae (.int k)),none]=some (.bg [some (.ae (c7 ns)),some (.ae (.int k)),some (.ae (.int d))]):=by
  simp only[asg,af,aw,args,alX,fj,HZ,bM,dt,au,aa,hD,hN,jt (i:=ns.getD k 0+7919*(k:Int)+1) (j:=48271) (by decide),i6 (j:=2147483647) (by decide),hx];rfl
 have hE:dw (.int d) (.int d)=some (.int (d*d)):=jt (by omega);have js:dw (.int 7) (.int d)=some (.int (7*d)):=jt (by omega);rw[bp];unfold tq;rw[cG s1];have bO:nm 2 [some (.ae (c7 ns)),some (.ae (.int k)),some (.ae (.int d))]=some (.int d):=rfl;have a4:nm 1 [some (.ae (c7 ns)),some (.ae (.int k)),some (.ae (.int d))]=some (.int k):=rfl;simp only[bh,af,bO,a4,bM,dt,aa,hE,js,hN,i6 (j:=2147483629) (by decide)]
def vp(n k:Int)(a0:-(2 ^ 64)<k/\k<2 ^ 64):∃m:Int,0<=m/\g5 [.int n,.int k]=some (.int m):=by
 have hd:0<=(n+104729*k+17)*69621 % 2147483647/\(n+104729*k+17)*69621 % 2147483647<2147483647:=⟨ja _ (by decide),lA _ (by decide)⟩;generalize hx:(n+104729*k+17)*69621 % 2147483647=d at hd;refine⟨(d*d+3*d+k) % 2147483629,ja _ (by decide),?_⟩;have bp:g5 [.int n,.int k]=(al9 [some (.ae (.int n)),some (.ae (.int k)),none]).bind λo=>match o with|.ee t=>some t|.bg _=>some .none|_=>none:=rfl
 have hD:dw (.int 104729) (.int k)=some (.int (104729*k)):=jt a0;have alX:nm 0 [some (.ae (.int n)),some (.ae (.int k)),none]=some (.int n):=rfl;have fj:nm 1 [some (.ae (.int n)),some (.ae (.int k)),none]=some (.int k):=rfl;have s1:asg 2 (af oMod (af dw (af aU (af aU (nm 0) (af dw (aa (.int 104729)) (nm 1))) (aa (.int 17))) (aa (.int 69621))) (aa (.int 2147483647))) [some (.ae (.int n)),some (.ae (.int k)),none]=some (.bg [some (.ae (.int n)),some (.ae (.int k)),some (.ae (.int d))]):=by
  simp only[asg,af,alX,fj,bM,dt,aa,hD,hN,jt (i:=n+104729*k+17) (j:=69621) (by decide),i6 (j:=2147483647) (by decide),hx];rfl
 have hE:dw (.int d) (.int d)=some (.int (d*d)):=jt (by omega);have js:dw (.int 3) (.int d)=some (.int (3*d)):=jt (by omega);rw[bp];unfold al9;rw[cG s1];have bO:nm 2 [some (.ae (.int n)),some (.ae (.int k)),some (.ae (.int d))]=some (.int d):=rfl;have a4:nm 1 [some (.ae (.int n)),some (.ae (.int k)),some (.ae (.int d))]=some (.int k):=rfl;simp only[bh,af,bO,a4,bM,dt,aa,hE,js,hN,i6 (j:=2147483629) (by decide)]
def l1(a b:Int):oEq (.int a) (.int b)=some (.bool (decide (a=b))):=by
 unfold oEq;rw[JW,JW];by_cases e:a=b <;> simp[kL,e]
def divQ(m:Int)(j:Int)(h:0<j/\j<1073741824:=by decide):∃q,q=m / j/\oDiv (.int m) (.int j)=some (.int q):=⟨_,rfl,vM h⟩
def modQ(m:Int)(j:Int)(h:0<j:=by decide):∃q,q=m % j/\0<=q/\q<j/\oMod (.int m) (.int j)=some (.int q):=⟨_,rfl,ja _ (by omega),lA _ h,i6 h⟩
def z7{ts:List T}{j:Int}(h0:0<=j)(ah:j<ts.length):∃t∈ts,aJ (.tuple ts) (.int j)=some t:=by
 have cS:j.toNat<ts.length:=by omega
 refine⟨ts[j.toNat],List.getElem_mem cS,?_⟩
 simp only[aJ,eP,fv,if_pos h0,if_pos ah,bM];exact hK cS
def xf(ss:List Str){j:Int}(h0:0<=j)(ah:j<ss.length):∃s∈ss,aJ (.tuple (ss.map .str)) (.int j)=some (.str s):=by
 obtain⟨t,aN,e⟩:=z7 (ts:=ss.map .str) h0 (by simpa using ah);obtain⟨s,aB,rfl⟩:=b2.mp aN;exact⟨s,aB,e⟩
def xe(ss:List Int){j:Int}(h0:0<=j)(ah:j<ss.length):∃s∈ss,aJ (.tuple (ss.map .int)) (.int j)=some (.int s):=by
 obtain⟨t,aN,e⟩:=z7 (ts:=ss.map .int) h0 (by simpa using ah);obtain⟨s,aB,rfl⟩:=b2.mp aN;exact⟨s,aB,e⟩
def J5:(5<=big)=True:=by simp[big]
def tD:(4<=big)=True:=by simp[big]
def oD:(3<=big)=True:=by simp[big]
def Kl:(6<=big)=True:=by simp[big]
def ahX:(8<=big)=True:=by simp[big]
def one_le:(1<=big)=True:=by simp[big]
noncomputable def qy:bx:=(seq (asg 4 (af oDiv (aw g5 [(az 0),(az 2)]) (aa (.int 4)))) (iff (dB (a3 (af oLt (af oMod (nm 4) (aa (.int 8))) (af aU (aa (.int 3)) (af oMod (nm 0) (aa (.int 5)))))) (a3 (af oEq (nm 2) (af oMod (af oDiv (nm 0) (aa (.int 8))) (aa (.int 8)))))) (asg 1 (af aU (nm 1) (br [(br [(az 3),(af aJ (br [(aa (.str "day")),(aa (.str "inner")),(aa (.str "once")),(aa (.str "way")),(aa (.str "way"))]) (af oMod (af oDiv (nm 4) (aa (.int 8))) (aa (.int 5))))])]))) skip))
def n1(x:Int×Str):T:=.tuple [.int x.1,.str x.2]
def kinds:List Str:=["day","inner","once","way","way"]
theorem Jj(n:Int):∀(l:List (Int×Str)) (acc:List (Str×Str)) (s2 s3 s4:Option bQ),(∀x∈l,0<=x.1/\x.1<100)->acc.length+l.length<=20->∃zs ij xA j7,(zs.map (·.1)).Sublist (l.map (·.2))/\(∀z∈zs,z.2∈kinds)/\((∃x∈l,x.1=n / 8 % 8)->zs≠[]) /\
  forL (eH [(a8 2),(a8 3)]) qy (l.map n1) [some (.ae (.int n)),some (.ae (.tuple (acc.map e7))),s2,s3,s4,none,none,none,none,none]=some (.bg [some (.ae (.int n)),some (.ae (.tuple ((acc++zs).map e7))),ij,xA,j7,none,none,none,none,none])
| [],acc,s2,s3,s4,_,_=>⟨[],s2,s3,s4,.refl _,by simp,by simp,by simp[forL]⟩
|x::l,acc,s2,s3,s4,hx,aH=>by
  obtain⟨m,hm,h9⟩:=vp n x.1 (by have:=hx x m_;omega);obtain⟨q,aD,g_⟩:=divQ m 4;obtain⟨r,_,_,_,hr⟩:=modQ q 8;obtain⟨cx,_,_,_,nV⟩:=modQ n 5;obtain⟨a4,n_,nW⟩:=divQ n 8;obtain⟨bj,si,_,_,nX⟩:=modQ a4 8;obtain⟨bO,pw,nZ⟩:=divQ q 8;obtain⟨cF,_,h0,ah,mJ⟩:=modQ bO 5;obtain⟨s,aB,k8⟩:=xf kinds h0 ah;simp only[kinds,eI,lz] at k8;simp only[fM] at aH;have bD:acc.length+1<=big:=by unfold big;omega
  have pA:∀y∈l,0<=y.1/\y.1<100:=λy b1=>hx y (ew _ b1);by_cases au:r<3+cx\/x.1=bj
  ·obtain⟨zs,ij,xA,j7,c5,c6,mT,pD⟩:=Jj n l (acc++[(x.2,s)]) (some (.ae (.int x.1))) (some (.ae (.str x.2))) (some (.ae (.int q))) pA (by simp;omega);refine⟨(x.2,s)::zs,ij,xA,j7,by simpa using c5,λz aI=>?_,λ_=>by simp,?_⟩
   ·rcases bC.mp aI with rfl|aI
    ·exact aB
    ·exact c6 z aI
   ·rw[eI,forL];have:qy [some (.ae (.int n)),some (.ae (.tuple (acc.map e7))),some (.ae (.int x.1)),some (.ae (.str x.2)),s4,none,none,none,none,none]=some (.bg [some (.ae (.int n)),some (.ae (.tuple ((acc++[(x.2,s)]).map e7))),some (.ae (.int x.1)),some (.ae (.str x.2)),some (.ae (.int q)),none,none,none,none,none]):=by
     by_cases cj:r<3+cx
     ·simp! [fL,qy,h9,g_,hr,nV,nW,nX,nZ,mJ,k8,hN,oLt,cj,aU,bD,J5,yC,one_le,e7]
     ·have mI:oEq (.int x.1) (.int bj)=some (.bool true):=by rw[l1,decide_eq_true (au.resolve_left cj)]
      simp! [fL,qy,h9,g_,hr,nV,nW,nX,nZ,mJ,k8,hN,oLt,cj,mI,aU,bD,J5,yC,one_le,e7]
    simp only[n1,eH,gH,a8,bM,ip,hZ,this];simpa using pD
  ·obtain⟨zs,ij,xA,j7,c5,c6,mT,pD⟩:=Jj n l acc (some (.ae (.int x.1))) (some (.ae (.str x.2))) (some (.ae (.int q))) pA (by omega);refine⟨zs,ij,xA,j7,c5.cons _,c6,λ⟨y,b1,e⟩=>mT ?_,?_⟩
   ·rcases bC.mp b1 with rfl|b1
    ·exact absurd (.inr (by rw[e,si,n_])) au
    ·exact⟨y,b1,e⟩
   ·rw[eI,forL];have:qy [some (.ae (.int n)),some (.ae (.tuple (acc.map e7))),some (.ae (.int x.1)),some (.ae (.str x.2)),s4,none,none,none,none,none]=some (.bg [some (.ae (.int n)),some (.ae (.tuple (acc.map e7))),some (.ae (.int x.1)),some (.ae (.str x.2)),some (.ae (.int q)),none,none,none,none,none]):=by
     have f':¬r<3+cx:=λz=>au (.inl z);have gb:¬x.1=bj:=λz=>au (.inr z);simp! [fL,qy,h9,g_,hr,nV,nW,nX,nZ,mJ,k8,hN,oLt,f',gb,l1]
    simp only[n1,eH,gH,a8,bM,ip,hZ,this];exact pD
def abV:jx 0 3=[.int 0,.int 1,.int 2]:=by simp[jx,List.range_succ]
def rY:ej:=a3 (af iJ (af oMod (af oDiv (nm 1) (af aJ (br [(aa (.int 4)),(aa (.int 16)),(aa (.int 64))]) (nm 0))) (aa (.int 4))) (aa (.int 0)))
def mK:a_:=af aJ (br [(aa (.str "set")),(aa (.str "shunt")),(aa (.str "unset"))]) (nm 0)
def lH:List Str:=["set","shunt","unset"]
def agg(q:Int)(ε:Ev)(h:(ε[4]?).join=some (.ae (.int q))):∃rs:List Str,rs.Sublist lH/\comp 1 [4] (hM (aa (.int 3))) (a8 0) rY mK ε=some (.list (rs.map .str)):=by
 have key:∀j qU:Int,aJ (.tuple [.int 4,.int 16,.int 64]) (.int j)=some (.int qU)->0<qU->qU<1073741824->∃b,rY [some (.ae (.int j)),some (.ae (.int q))]=some b:=by
  intro j qU ah ao aY;obtain⟨a4,_,h9⟩:=divQ q qU ⟨ao,aY⟩;obtain⟨bj,_,_,_,g_⟩:=modQ a4 4;exact⟨decide (0<bj),by simp! [fL,rY,ah,h9,g_,iJ,oD]⟩
 obtain⟨gF,k0⟩:=key 0 4 (by simp[aJ,eP,fv]) (by decide) (by decide);obtain⟨bD,k1⟩:=key 1 16 (by simp[aJ,eP,fv]) (by decide) (by decide);obtain⟨b7,k2⟩:=key 2 64 (by simp[aJ,eP,fv]) (by decide) (by decide);have j3:mK [some (.ae (.int 0)),some (.ae (.int q))]=some (.str "set"):=by simp! [Az,mK,oD]
 have bj:mK [some (.ae (.int 1)),some (.ae (.int q))]=some (.str "shunt"):=by simp! [Az,mK,oD]
 have cF:mK [some (.ae (.int 2)),some (.ae (.int q))]=some (.str "unset"):=by simp! [Az,mK,oD]
 have ug:comp 1 [4] (hM (aa (.int 3))) (a8 0) rY mK ε=(fm (a8 0) rY mK [.int 0,.int 1,.int 2] [none,some (.ae (.int q))]).map .list:=by
  have s3:qb 3=true:=by decide
  simp[comp,hM,aa,s3,abV,hn,h,oD]
 rw[ug];cases gF <;> cases bD <;> cases b7
 ·exact⟨[],by simp,by simp[fm,a8,k0,k1,k2]⟩
 ·exact⟨["unset"],by decide,by simp[fm,a8,k0,k1,k2,j3,bj,cF]⟩
 ·exact⟨["shunt"],by decide,by simp[fm,a8,k0,k1,k2,j3,bj,cF]⟩
 ·exact⟨["shunt","unset"],by decide,by simp[fm,a8,k0,k1,k2,j3,bj,cF]⟩
 ·exact⟨["set"],by decide,by simp[fm,a8,k0,k1,k2,j3,bj,cF]⟩
 ·exact⟨["set","unset"],by decide,by simp[fm,a8,k0,k1,k2,j3,bj,cF]⟩
 ·exact⟨["set","shunt"],by decide,by simp[fm,a8,k0,k1,k2,j3,bj,cF]⟩
 ·exact⟨["set","shunt","unset"],by decide,by simp[fm,a8,k0,k1,k2,j3,bj,cF]⟩
noncomputable def rV:bx:=(seq (asg 4 (af oDiv (aw g5 [(az 0),(af aU (aa (.int 10)) (nm 2))]) (aa (.int 4)))) (iff (dB (a3 (af iJ (af oMod (nm 4) (aa (.int 3))) (aa (.int 0)))) (a3 (af oEq (nm 2) (aa (.int 1))))) (seq (asg 7 (aw dS [(comp 1 [4] (hM (aa (.int 3))) (a8 0) rY mK)])) (seq (asg 8 (af aJ (br [(aa (.str "ann")),(aa (.str "bo")),(aa (.str "cy"))]) (af oMod (af oDiv (nm 4) (aa (.int 256))) (aa (.int 3))))) (asg 5 (af aU (nm 5) (br [(br [(az 6),(az 8),(az 7),(af aJ (br [(aa (.int 0)),(aa (.int 0)),(aa (.int 1)),(aa (.int 2)),(aa (.int 9))]) (af oMod (af oDiv (nm 4) (aa (.int 1024))) (aa (.int 5))))])]))))) skip))
def xH:List Str:=["ann","bo","cy"]
theorem Je(n:Int)(s1 s3:Option bQ):∀(l:List (Int×Str)) (acc:List kU) (s2 s4 d2 c2 du:Option bQ),(∀x∈l,0<=x.1/\x.1<100)->acc.length+l.length<=20->∃dV ij j7 xB xC xD,(dV.map (·.ia)).Sublist (l.map (·.2))/\(∀k∈dV,k.hY∈xH/\k.j5.Sublist lH/\k.uses∈([0,0,1,2,9]:List Int))/\((∃x∈l,x.1=1)->dV≠[]) /\
  forL (eH [(a8 2),(a8 6)]) rV (l.map n1) [some (.ae (.int n)),s1,s2,s3,s4,some (.ae (.tuple (acc.map eY))),d2,c2,du,none]=some (.bg [some (.ae (.int n)),s1,ij,s3,j7,some (.ae (.tuple ((acc++dV).map eY))),xB,xC,xD,none])
| [],acc,s2,s4,d2,c2,du,_,_=>⟨[],s2,s4,d2,c2,du,.refl _,by simp,by simp,by simp[forL]⟩
|x::l,acc,s2,s4,d2,c2,du,hx,aH=>by
  obtain⟨m,hm,h9⟩:=vp n (10+x.1) (by have:=hx x m_;omega);obtain⟨q,aD,g_⟩:=divQ m 4;obtain⟨r,_,_,_,hr⟩:=modQ q 3;obtain⟨a4,n_,nW⟩:=divQ q 256;obtain⟨bj,si,h0,ah,nX⟩:=modQ a4 3;obtain⟨bO,pw,nZ⟩:=divQ q 1024;obtain⟨cF,_,ao,aY,mJ⟩:=modQ bO 5;obtain⟨s,aB,k8⟩:=xf xH h0 ah;obtain⟨u,cM,mI⟩:=xe [0,0,1,2,9] ao aY;simp only[xH,eI,lz] at k8 mI;simp only[fM] at aH;have bD:acc.length+1<=big:=by unfold big;omega
  have pA:∀y∈l,0<=y.1/\y.1<100:=λy b1=>hx y (ew _ b1);obtain⟨rs,z4,EF⟩:=agg q [some (.ae (.int n)),s1,some (.ae (.int x.1)),s3,some (.ae (.int q)),some (.ae (.tuple (acc.map eY))),some (.ae (.str x.2)),c2,du,none] rfl;by_cases au:0<r\/x.1=1
  ·obtain⟨dV,ij,j7,xB,xC,xD,c5,c6,mT,pD⟩:=Je n s1 s3 l (acc++[(⟨x.2,s,rs,u⟩:kU)]) (some (.ae (.int x.1))) (some (.ae (.int q))) (some (.ae (.str x.2))) (some (.ae (.tuple (rs.map .str)))) (some (.ae (.str s))) pA (by simp;omega);refine⟨⟨x.2,s,rs,u⟩::dV,ij,j7,xB,xC,xD,by simpa using c5,λz aI=>?_,λ_=>by simp,?_⟩
   ·rcases bC.mp aI with rfl|aI
    ·exact⟨aB,z4,cM⟩
    ·exact c6 z aI
   ·rw[eI,forL];have:rV [some (.ae (.int n)),s1,some (.ae (.int x.1)),s3,s4,some (.ae (.tuple (acc.map eY))),some (.ae (.str x.2)),c2,du,none]=some (.bg [some (.ae (.int n)),s1,some (.ae (.int x.1)),s3,some (.ae (.int q)),some (.ae (.tuple ((acc++[(⟨x.2,s,rs,u⟩:kU)]).map eY))),some (.ae (.str x.2)),some (.ae (.tuple (rs.map .str))),some (.ae (.str s)),none]):=by
     have abY:asg 4 (af oDiv (aw g5 [(az 0),(af aU (aa (.int 10)) (nm 2))]) (aa (.int 4))) [some (.ae (.int n)),s1,some (.ae (.int x.1)),s3,s4,some (.ae (.tuple (acc.map eY))),some (.ae (.str x.2)),c2,du,none]=some (.bg [some (.ae (.int n)),s1,some (.ae (.int x.1)),s3,some (.ae (.int q)),some (.ae (.tuple (acc.map eY))),some (.ae (.str x.2)),c2,du,none]):=by
      simp! [fL,hN,h9,g_]
     have ij:asg 7 (aw dS [(comp 1 [4] (hM (aa (.int 3))) (a8 0) rY mK)]) [some (.ae (.int n)),s1,some (.ae (.int x.1)),s3,some (.ae (.int q)),some (.ae (.tuple (acc.map eY))),some (.ae (.str x.2)),c2,du,none]=some (.bg [some (.ae (.int n)),s1,some (.ae (.int x.1)),s3,some (.ae (.int q)),some (.ae (.tuple (acc.map eY))),some (.ae (.str x.2)),some (.ae (.tuple (rs.map .str))),du,none]):=by
      simp only[asg,aw,args,EF,bM,dt,dS];rfl
     unfold rV;rw[cG abY];have bJ:dB (a3 (af iJ (af oMod (nm 4) (aa (.int 3))) (aa (.int 0)))) (a3 (af oEq (nm 2) (aa (.int 1)))) [some (.ae (.int n)),s1,some (.ae (.int x.1)),s3,some (.ae (.int q)),some (.ae (.tuple (acc.map eY))),some (.ae (.str x.2)),c2,du,none]=some true:=by
      by_cases cj:0<r
      ·simp! [fL,hr,iJ,cj]
      ·have uj:oEq (.int x.1) (.int 1)=some (.bool true):=by rw[l1,decide_eq_true (au.resolve_left cj)]
       simp! [fL,hr,iJ,cj,uj]
     simp only[iff,bJ,bM,if_true];rw[cG ij];simp! [fL,hr,nW,nX,nZ,mJ,k8,mI,aU,bD,J5,tD,oD,one_le,eY]
    simp only[n1,eH,gH,a8,bM,ip,hZ,this];simpa using pD
  ·obtain⟨dV,ij,j7,xB,xC,xD,c5,c6,mT,pD⟩:=Je n s1 s3 l acc (some (.ae (.int x.1))) (some (.ae (.int q))) (some (.ae (.str x.2))) c2 du pA (by omega);refine⟨dV,ij,j7,xB,xC,xD,c5.cons _,c6,λ⟨y,b1,e⟩=>mT ?_,?_⟩
   ·rcases bC.mp b1 with rfl|b1
    ·exact absurd (.inr e) au
    ·exact⟨y,b1,e⟩
   ·rw[eI,forL];have:rV [some (.ae (.int n)),s1,some (.ae (.int x.1)),s3,s4,some (.ae (.tuple (acc.map eY))),some (.ae (.str x.2)),c2,du,none]=some (.bg [some (.ae (.int n)),s1,some (.ae (.int x.1)),s3,some (.ae (.int q)),some (.ae (.tuple (acc.map eY))),some (.ae (.str x.2)),c2,du,none]):=by
     have f':¬0<r:=λz=>au (.inl z);have uj:oEq (.int x.1) (.int 1)=some (.bool false):=by rw[l1,decide_eq_false λz=>au (.inr z)]
     simp! [fL,rV,h9,g_,hr,hN,iJ,f',uj]
    simp only[n1,eH,gH,a8,bM,ip,hZ,this];exact pD
def kn:List (Int×Str):=[(0,"a"),(1,"b"),(2,"back"),(3,"d"),(4,"hall"),(5,"r"),(6,"win"),(7,"z")]
def o_:List (Int×Str):=[(0,"0000"),(1,"1234"),(2,"4321"),(3,"7777"),(4,"9990"),(5,"9999")]
structure lM(p:b4):Prop where
 zs:(p.dY.map (·.1)).Sublist (kn.map (·.2))
 zk:∀z∈p.dY,z.2∈kinds
 q':p.dY≠[]
 cs:(p.codes.map (·.ia)).Sublist (o_.map (·.2))
 EA:∀k∈p.codes,k.hY∈xH/\k.j5.Sublist lH/\k.uses∈([0,0,1,2,9]:List Int)
 ug:p.codes≠[]
 m9:p.leave∈([0,5,30,60]:List Int)
 j9:p.lT∈([0,4,20,60]:List Int)
 to:p.loud∈([1,9,120,300]:List Int)
def aaU(n:Int):∃p,lM p/\BQ [.int n]=some (bG p):=by
 obtain⟨zs,s2,s3,s4,c5,c6,mT,pD⟩:=Jj n kn [] none none none (by decide) (by decide);have Yb:zs≠[]:=mT (by
  have ah:0<=n / 8 % 8:=ja _ (by decide);have ao:n / 8 % 8<8:=lA _ (by decide);generalize n / 8 % 8=r at ah ao;have:r=0\/r=1\/r=2\/r=3\/r=4\/r=5\/r=6\/r=7:=by omega
  rcases this with rfl|rfl|rfl|rfl|rfl|rfl|rfl|rfl
  ·exact⟨(0,"a"),by simp[kn],rfl⟩
  ·exact⟨(1,"b"),by simp[kn],rfl⟩
  ·exact⟨(2,"back"),by simp[kn],rfl⟩
  ·exact⟨(3,"d"),by simp[kn],rfl⟩
  ·exact⟨(4,"hall"),by simp[kn],rfl⟩
  ·exact⟨(5,"r"),by simp[kn],rfl⟩
  ·exact⟨(6,"win"),by simp[kn],rfl⟩
  ·exact⟨(7,"z"),by simp[kn],rfl⟩)
 obtain⟨dV,fk,t4,t6,t7,t8,oa,xg,pG,jr⟩:=Je n (some (.ae (.tuple (zs.map e7)))) s3 o_ [] s2 s4 none none none (by decide) (by decide);have Xy:dV≠[]:=pG ⟨(1,"1234"),by simp[o_],rfl⟩;obtain⟨m,hm,h9⟩:=vp n 20 (by decide);obtain⟨q,aD,g_⟩:=divQ m 4;obtain⟨r,_,nR,a1,hr⟩:=modQ q 4;obtain⟨a4,n_,nV⟩:=divQ q 4;obtain⟨bj,_,gF,bD,nW⟩:=modQ a4 4;obtain⟨bO,pw,nX⟩:=divQ q 16;obtain⟨cF,_,ug,c9,nZ⟩:=modQ bO 4;obtain⟨u,cM,mJ⟩:=xe [0,5,30,60] nR a1;obtain⟨v,ba,k8⟩:=xe [0,4,20,60] gF bD;obtain⟨w,hw,mI⟩:=xe [1,9,120,300] ug c9;simp only[eI,lz] at mJ k8 mI;refine⟨⟨zs,dV,u,v,w⟩,⟨c5,c6,Yb,oa,xg,Xy,cM,ba,hw⟩,?_⟩;have f1:gR (je (mu (br [(aa (.str "a")),(aa (.str "b")),(aa (.str "back")),(aa (.str "d")),(aa (.str "hall")),(aa (.str "r")),(aa (.str "win")),(aa (.str "z"))]))) (eH [(a8 2),(a8 3)]) qy [some (.ae (.int n)),some (.ae (.tuple [])),none,none,none,none,none,none,none,none]=some (.bg [some (.ae (.int n)),some (.ae (.tuple (zs.map e7))),s2,s3,s4,none,none,none,none,none]):=by
  have:(je (mu (br [(aa (.str "a")),(aa (.str "b")),(aa (.str "back")),(aa (.str "d")),(aa (.str "hall")),(aa (.str "r")),(aa (.str "win")),(aa (.str "z"))]))) [some (.ae (.int n)),some (.ae (.tuple [])),none,none,none,none,none,none,none,none]=some (kn.map n1):=by
   simp[je,mu,br,args,aa,ahX,enum,kn,n1,List.zipIdx]
  unfold gR;rw[this];exact pD
 have f2:gR (je (mu (br [(aa (.str "0000")),(aa (.str "1234")),(aa (.str "4321")),(aa (.str "7777")),(aa (.str "9990")),(aa (.str "9999"))]))) (eH [(a8 2),(a8 6)]) rV [some (.ae (.int n)),some (.ae (.tuple (zs.map e7))),s2,s3,s4,some (.ae (.tuple [])),none,none,none,none]=some (.bg [some (.ae (.int n)),some (.ae (.tuple (zs.map e7))),fk,s3,t4,some (.ae (.tuple (dV.map eY))),t6,t7,t8,none]):=by
  have:(je (mu (br [(aa (.str "0000")),(aa (.str "1234")),(aa (.str "4321")),(aa (.str "7777")),(aa (.str "9990")),(aa (.str "9999"))]))) [some (.ae (.int n)),some (.ae (.tuple (zs.map e7))),s2,s3,s4,some (.ae (.tuple [])),none,none,none,none]=some (o_.map n1):=by
   simp[je,mu,br,args,aa,Kl,enum,o_,n1,List.zipIdx]
  unfold gR;rw[this];exact jr
 show bV (seq (asg 1 (br [])) (seq (gR (je (mu (br [(aa (.str "a")),(aa (.str "b")),(aa (.str "back")),(aa (.str "d")),(aa (.str "hall")),(aa (.str "r")),(aa (.str "win")),(aa (.str "z"))]))) (eH [(a8 2),(a8 3)]) qy)
  (seq (asg 5 (br [])) (seq (gR (je (mu (br [(aa (.str "0000")),(aa (.str "1234")),(aa (.str "4321")),(aa (.str "7777")),(aa (.str "9990")),(aa (.str "9999"))]))) (eH [(a8 2),(a8 6)]) rV) _)))) 10 [.int n]=_
 unfold bV;have jR:seq (asg 1 (br []))=λb=>seq (asg 1 (br [])) b:=rfl;have ah:asg 1 (br []) [some (.ae (.int n)),none,none,none,none,none,none,none,none,none]=some (.bg [some (.ae (.int n)),some (.ae (.tuple [])),none,none,none,none,none,none,none,none]):=by simp[asg,br,args]
 have ft:asg 5 (br []) [some (.ae (.int n)),some (.ae (.tuple (zs.map e7))),s2,s3,s4,none,none,none,none,none]=some (.bg [some (.ae (.int n)),some (.ae (.tuple (zs.map e7))),s2,s3,s4,some (.ae (.tuple [])),none,none,none,none]):=by simp[asg,br,args]
 show (seq _ _ [some (.ae (.int n)),none,none,none,none,none,none,none,none,none]).bind _=_
 rw[cG ah,cG f1,cG ft,cG f2];simp! [fL,h9,g_,hr,nV,nW,nX,nZ,mJ,k8,mI,tD,oD,bG]
def lM.Kc{p:b4}(h:lM p):p.dY.length<=8:=by simpa [kn] using h.zs.length_le
def lM.cl{p:b4}(h:lM p):p.codes.length<=6:=by simpa [o_] using h.cs.length_le
def Qd{l:List Str}(h:l.all (λx=>(hL x).canLay0)=true:=by decide +kernel){x:Str}(hx:x∈l):Al x:=List.all_eq_true.mp h x hx
end bU
end
section
namespace bU
open D PySem
def z9(p:b4):aJ (bG p) (.int 0)=some (.tuple (p.dY.map e7)):=by simp[aJ,eP,fv,bG]
def Yr(p:b4):aJ (bG p) (.int 1)=some (.tuple (p.codes.map eY)):=by simp[aJ,eP,fv,bG]
def Cp(z:Str×Str):aJ (e7 z) (.int 0)=some (.str z.1):=by simp[aJ,eP,fv,e7]
def akY(k:kU):aJ (eY k) (.int 0)=some (.str k.ia):=by simp[aJ,eP,fv,eY]
def Np(m:Int){l:List T}(h:l≠[]):∃q:Int,0<=q/\q<l.length/\oMod (.int m) (.int l.length)=some (.int q):=by
 have aH:0<(l.length:Int):=by
  have:=List.length_pos_iff.mpr h;omega
 obtain⟨q,_,ah,ao,e⟩:=modQ m l.length aH;exact⟨q,ah,ao,e⟩
def t2:List Str:=["0000","1234","4321","7777","9990","9999","0001","1111","5555"]
noncomputable def rM(p:b4):dU->Prop
|.line z w=>z∈p.dY.map (·.1)/\w∈(["shut","open","open","cut"]:List Str)
|.code f d z=>f∈t2/\(((d="set"\/d="unset")/\z=none)\/((d="shunt"\/d="free")/\∃x,z=some x/\x∈p.dY.map (·.1)))
|.ef n=>1<=n/\n<=1000000000
def ahV{p:b4}(h:lM p)(n:Int):∃e,rM p e/\rh [bG p,.int n]=some (cu e):=by
 obtain⟨a4,_,h9⟩:=divQ n 8;obtain⟨i,Yg,c5,g_⟩:=Np (l:=p.dY.map e7) a4 (by simpa using h.q');obtain⟨t,aN,hr⟩:=z7 Yg c5;obtain⟨z,aI,rfl⟩:=b2.mp aN;have M3:z.1∈p.dY.map (·.1):=b2.mpr ⟨z,aI,rfl⟩;obtain⟨k,_,_,_,nV⟩:=modQ n 10;obtain⟨bO,_,nW⟩:=divQ n 512;obtain⟨cF,_,Gq,oa,nX⟩:=modQ bO 4;obtain⟨w,hw,nZ⟩:=xf ["shut","open","open","cut"] Gq oa;obtain⟨WG,n7,mJ⟩:=xf ["0001","1111","9999","0000"] Gq oa;obtain⟨dR,_,k8⟩:=divQ n 64;obtain⟨m2,_,mI⟩:=divQ n 4096;obtain⟨hV,_,k0,k1,EF⟩:=modQ m2 3;obtain⟨u,cM,uj⟩:=xe [3,40,200] k0 k1;have X6:0<u/\u<=200:=by
  simp at cM;omega
 obtain⟨j4,_,Nd,cV,Wq⟩:=modQ dR u X6.1;obtain⟨Gm,Yh,Yi,Mr⟩:=Np (l:=p.codes.map eY) dR (by simpa using h.ug);obtain⟨t',X2,Wr⟩:=z7 Yh Yi;obtain⟨c,au,rfl⟩:=b2.mp X2;have Xi:c.ia∈t2:=by
  have:=h.cs.subset (b2.mpr ⟨c,au,rfl⟩);simp[o_,t2] at this ⊢;rcases this with q|q|q|q|q|q <;> simp[q]
 obtain⟨om,_,Ms⟩:=divQ n 65536;obtain⟨sH,_,_,_,Mt⟩:=modQ om 4;obtain⟨xr,_,m0,hD,Mu⟩:=modQ m2 6;obtain⟨d,hd,EG⟩:=xf ["set","set","unset","shunt","free","shunt"] m0 hD;simp only[eI,lz] at nZ mJ uj EG;simp only[dy] at g_ Mr;have jK:eC [.tuple (p.dY.map e7)]=some (.int p.dY.length):=by simp[eC]
 have bB:eC [.tuple (p.codes.map eY)]=some (.int p.codes.length):=by simp[eC]
 simp only[rh,PW,bV,eI,lz,fM,List.length_nil,dT,xN,List.nil_append];by_cases ah:k<5
 ·exact⟨.line z.1 w,⟨M3,hw⟩,by simp! [fL,z9,Cp,h9,jK,g_,hr,nV,oLt,ah,nW,nX,nZ,tD,oD,cu]⟩
 ·by_cases ao:k<7
  ·exact⟨.ef (1+j4),⟨by omega,by omega⟩,by simp! [fL,z9,Cp,h9,jK,g_,hr,nV,oLt,ah,ao,k8,mI,EF,uj,Wq,hN,oD,yC,cu]⟩
  ·have hb:Al d:=Qd (l:=["set","set","unset","shunt","free","shunt"]) (hx:=hd);have Ir:=ahs false (n:=d) (ns:=["set","unset"]) hb (by
    intro k a0;exact Qd (l:=["set","unset"]) (hx:=a0))
   simp only[eI,lz] at Ir;obtain⟨f,hf,uk⟩:∃f∈t2,(iff (a3 (af oEq (af oMod (af oDiv (nm 1) (aa (.int 65536))) (aa (.int 4))) (aa (.int 0)))) (asg 4 (af aJ (br [(aa (.str "0001")),(aa (.str "1111")),(aa (.str "9999")),(aa (.str "0000"))]) (af oMod (af oDiv (nm 1) (aa (.int 512))) (aa (.int 4))))) skip) [some (.ae (bG p)),some (.ae (.int n)),some (.ae (.str z.1)),some (.ae (.int k)),some (.ae (.str c.ia)),none]=some (.bg [some (.ae (bG p)),some (.ae (.int n)),some (.ae (.str z.1)),some (.ae (.int k)),some (.ae (.str f)),none]):=by
    by_cases aY:sH=0
    ·refine⟨WG,?_,by simp! [fL,Ms,Mt,l1,aY,nW,nX,mJ,tD]⟩
     simp[t2] at n7 ⊢;rcases n7 with q|q|q|q <;> simp[q]
    ·exact⟨c.ia,Xi,by simp! [fL,Ms,Mt,l1,aY]⟩
   have NS:∀X:bx,iff (a3 (af oLt (nm 3) (aa (.int 5)))) X skip [some (.ae (bG p)),some (.ae (.int n)),some (.ae (.str z.1)),some (.ae (.int k)),none,none]=some (.bg [some (.ae (bG p)),some (.ae (.int n)),some (.ae (.str z.1)),some (.ae (.int k)),none,none]):=λX=>by simp! [fL,oLt,ah]
   have sB:∀X:bx,iff (a3 (af oLt (nm 3) (aa (.int 7)))) X skip [some (.ae (bG p)),some (.ae (.int n)),some (.ae (.str z.1)),some (.ae (.int k)),none,none]=some (.bg [some (.ae (bG p)),some (.ae (.int n)),some (.ae (.str z.1)),some (.ae (.int k)),none,none]):=λX=>by simp! [fL,oLt,ao]
   have NT:asg 4 (af aJ (af aJ (af aJ (nm 0) (aa (.int 1))) (af oMod (af oDiv (nm 1) (aa (.int 64))) (aw eC [(af aJ (nm 0) (aa (.int 1)))]))) (aa (.int 0))) [some (.ae (bG p)),some (.ae (.int n)),some (.ae (.str z.1)),some (.ae (.int k)),none,none]=some (.bg [some (.ae (bG p)),some (.ae (.int n)),some (.ae (.str z.1)),some (.ae (.int k)),some (.ae (.str c.ia)),none]):=by simp! [fL,Yr,bB,k8,Mr,Wr,akY]
   by_cases bZ:d="set"\/d="unset"
   ·refine⟨.code f d none,⟨hf,.inl ⟨bZ,rfl⟩⟩,?_⟩
    have It:gJ false (.str d) (.tuple [.str "set",.str "unset"])=some (.bool true):=by
     rw[Ir];simp[bZ]
    have pre:∀B:bx,(seq (asg 2 (af aJ (af aJ (af aJ (nm 0) (aa (.int 0))) (af oMod (af oDiv (nm 1) (aa (.int 8))) (aw eC [(af aJ (nm 0) (aa (.int 0)))]))) (aa (.int 0)))) (seq (asg 3 (af oMod (nm 1) (aa (.int 10)))) B)) [some (.ae (bG p)),some (.ae (.int n)),none,none,none,none]=B [some (.ae (bG p)),some (.ae (.int n)),some (.ae (.str z.1)),some (.ae (.int k)),none,none]:=by
     intro B;simp! [fL,z9,Cp,h9,jK,g_,hr,nV]
    rw[pre];rw[cG (NS _),cG (sB _),cG NT,cG uk];simp! [fL,mI,Mu,EG,Kl,yC,It,tD,cu,mZ]
   ·refine⟨.code f d (some z.1),⟨hf,.inr ⟨?_,z.1,rfl,M3⟩⟩,?_⟩
    ·simp at hd;rcases hd with q|q|q|q|q
     ·exact absurd (.inl q) bZ
     ·exact absurd (.inr q) bZ
     ·exact .inl q
     ·exact .inr q
     ·exact .inl q
    have It:gJ false (.str d) (.tuple [.str "set",.str "unset"])=some (.bool false):=by
     rw[Ir];simp at bZ;simp[bZ]
    have pre:∀B:bx,(seq (asg 2 (af aJ (af aJ (af aJ (nm 0) (aa (.int 0))) (af oMod (af oDiv (nm 1) (aa (.int 8))) (aw eC [(af aJ (nm 0) (aa (.int 0)))]))) (aa (.int 0)))) (seq (asg 3 (af oMod (nm 1) (aa (.int 10)))) B)) [some (.ae (bG p)),some (.ae (.int n)),none,none,none,none]=B [some (.ae (bG p)),some (.ae (.int n)),some (.ae (.str z.1)),some (.ae (.int k)),none,none]:=by
     intro B;simp! [fL,z9,Cp,h9,jK,g_,hr,nV]
    rw[pre];rw[cG (NS _),cG (sB _),cG NT,cG uk];simp! [fL,mI,Mu,EG,Kl,yC,It,tD,cu,mZ]
def vG:List dU:=[.code "5555" "unset" none,.code "5555" "unset" none,.code "5555" "unset" none]
theorem P'{p:b4}(h:lM p)(n:Int):∀(dV:List Int) (s0:Option bQ),(∀k∈dV,0<=k/\k<1000)->∃ar:List dU,(∀e∈ar,rM p e)/\ar.length=dV.length/\fm (a8 0) (ct true) (aw rh [(az 1),(af oDiv (aw g5 [(az 2),(af aU (aa (.int 30)) (nm 0))]) (aa (.int 4)))]) (dV.map .int) [s0,some (.ae (bG p)),some (.ae (.int n))]=some (ar.map cu)
| [],s0,_=>⟨[],by simp,rfl,rfl⟩
|k::dV,s0,a0=>by
  obtain⟨m,_,h9⟩:=vp n (30+k) (by have:=a0 k m_;omega);obtain⟨q,_,g_⟩:=divQ m 4;obtain⟨e,he,hr⟩:=ahV h q;obtain⟨ar,c5,c6,mT⟩:=P' h n dV (some (.ae (.int k))) λy b1=>a0 y (ew _ b1);refine⟨e::ar,λx hx=>?_,by simp[c6],?_⟩
  ·rcases bC.mp hx with rfl|hx
   ·exact he
   ·exact c5 x hx
  ·have au:aw rh [(az 1),(af oDiv (aw g5 [(az 2),(af aU (aa (.int 30)) (nm 0))]) (aa (.int 4)))] [some (.ae (.int k)),some (.ae (bG p)),some (.ae (.int n))]=some (cu e):=by
    simp! [fL,hN,h9,g_,hr]
   rw[eI];simp only[fm,a8,hZ,bM,ct,if_true,au];rw[mT];rfl
def abW{p:b4}(h:lM p)(n m:Int)(bf:0<=n)(hm:0<=m/\m<900):∃ar:List dU,(∀e∈ar,rM p e)/\(ar.length:Int)<=m/\yz [bG p,.int n,.int m]=some (.tuple (ar.map cu)):=by
 obtain⟨r,_,j3,bj,h9⟩:=modQ n (m+1) (by omega);have F4:jx 0 r=((List.range r.toNat).map λ(k:Nat)=>(k:Int)).map .int:=by
  simp[jx,Function.comp_def]
 obtain⟨ar,c5,c6,mT⟩:=P' h n ((List.range r.toNat).map λ(k:Nat)=>(k:Int)) none (by
  intro k a0;obtain⟨j,cS,rfl⟩:=b2.mp a0;have:=List.mem_range.mp cS;omega)
 have aH:(ar.length:Int)=r:=by
  simp at c6;omega
 obtain⟨q,_,g_⟩:=divQ n 64;obtain⟨cx,_,_,_,hr⟩:=modQ q 5;have ab4:qb r=true:=by
  unfold qb;simp;omega
 have s1:asg 3 (aw dS [(comp 1 [0,1] (hM (af oMod (nm 1) (af aU (nm 2) (aa (.int 1))))) (a8 0) (ct true) (aw rh [(az 1),(af oDiv (aw g5 [(az 2),(af aU (aa (.int 30)) (nm 0))]) (aa (.int 4)))]))]) [some (.ae (bG p)),some (.ae (.int n)),some (.ae (.int m)),none]=some (.bg [some (.ae (bG p)),some (.ae (.int n)),some (.ae (.int m)),some (.ae (.tuple (ar.map cu)))]):=by
  have bD:((((List.range r.toNat).map λ(k:Nat)=>(k:Int)).map PyData.int).length<=big)=True:=by
   simp;unfold big;omega
  have it:(hM (af oMod (nm 1) (af aU (nm 2) (aa (.int 1))))) [some (.ae (bG p)),some (.ae (.int n)),some (.ae (.int m)),none]=some (((List.range r.toNat).map λ(k:Nat)=>(k:Int)).map .int):=by
   rw[<- F4];simp[hM,af,nm,aa,hN,h9,ab4]
  simp only[asg,aw,args,comp,it,bM,bD,if_true];show Option.map _ ((Option.bind (Option.map _ (fm _ _ _ _ [none,some (.ae (bG p)),some (.ae (.int n))])) _).bind _)=_;rw[mT];simp[dS]
 have bp:yz [bG p,.int n,.int m]=(BY [some (.ae (bG p)),some (.ae (.int n)),some (.ae (.int m)),none]).bind λo=>match o with|.ee t=>some t|.bg _=>some .none|_=>none:=rfl
 by_cases au:cx=0/\2<(ar.length:Int)
 ·refine⟨ar.take (ar.length - 3)++vG,?_,?_,?_⟩
  ·intro e he;rcases gz.mp he with q|q
   ·exact c5 e (List.mem_of_mem_take q)
   ·simp[vG] at q;subst q;exact⟨by simp[t2],.inl ⟨.inr rfl,rfl⟩⟩
  ·simp[vG];omega
  ·rw[bp];unfold BY;rw[cG s1];have bD:(ar.length - 3+3<=big)=True:=by
    simp only[eq_iff_iff,iff_true];unfold big;omega
   have b7:(max (-3+(ar.length:Int)) 0).toNat=ar.length - 3:=by omega
   have ek:min (ar.length - 3) ar.length=ar.length - 3:=by omega
   have k4:xo (.tuple [cu (.code "5555" "unset" none)]) (.int 3)=some (.tuple (vG.map cu)):=by
    simp[xo,vG,dT,oD]
   simp only[cu,mZ] at k4;simp! [fL,g_,hr,l1,au.1,au.2,eC,iJ,slice,optN,opt,og,oh,cT,bI,b7,ek,k4,tD,one_le,aU,vG];rw[if_pos (bD▸trivial)];simp! [fL]
 ·refine⟨ar,c5,by omega,?_⟩
  rw[bp];unfold BY;rw[cG s1];by_cases ah:cx=0
  ·have ao:¬2<(ar.length:Int):=λz=>au ⟨ah,z⟩;simp! [fL,g_,hr,l1,ah,eC,iJ];rw[if_neg ao];simp! [fL]
  ·simp! [fL,g_,hr,l1,ah]
end bU
end
section
namespace bU
open D PySem
end bU
end
section
namespace bU
open D PySem
def okN(d:Nat)(t:T):Prop:=t.canLay0=true/\t.depth<=d
theorem okN.eV{d:Nat}{t:T}(h:okN d t)(hd:d<=60:=by decide):eV t=true:=by
 unfold D.eV;rw[h.1,decide_eq_true (nd h.2 hd)];rfl
theorem JY{d:Nat}:∀{ts:List T},(∀t∈ts,okN d t)->jB ts=true/\i' ts<=d
| [],_=>by simp[jB,i']
|t::ts,h=>by
  obtain⟨ah,ao⟩:=JY λx hx=>h x (ew _ hx);obtain⟨aY,bZ⟩:=h t m_;constructor
  ·rw[jB,aY,ah];rfl
  ·rw[i'];omega
def agk{d:Nat}{ts:List T}(h:∀t∈ts,okN d t):okN (d+1) (.tuple ts):=by
 obtain⟨ah,ao⟩:=JY h;constructor
 ·rw[PyData.canLay0];exact ah
 ·rw[jC];omega
def ZY{d:Nat}{t:T}(h:okN d t)(hd:d<=60:=by decide):dG t t=some (.bool false):=by
 unfold dG;rw[h.eV hd,PySem.SeqAt.eqv_refl t h.1];rfl
end bU
end
section
namespace ei
open D bU PySem
section
variable {f g:a_}{dZ gt:ej}{ε:Ev}{a b:Bool}
def fO(hf:f ε=some (.bool a))(a7:a=true->g ε=some (.bool b)):fG f g ε=some (.bool (a && b)):=by
 cases a with
|true=>simp[fG,hf,a7 rfl]
|false=>simp[fG,hf]
def KQ(hf:f ε=some (.bool a))(a7:a=false->g ε=some (.bool b)):qZ f g ε=some (.bool (a || b)):=by
 cases a with
|false=>simp[qZ,hf,a7 rfl]
|true=>simp[qZ,hf]
def aj0(hf:f ε=some (.bool a)):xn f ε=some (.bool !a):=by simp[xn,hf]
def cH(hf:f ε=some (.bool a)):a3 f ε=some a:=by simp[a3,hf]
def gk(hf:dZ ε=some a)(a7:a=false->gt ε=some b):dB dZ gt ε=some (a || b):=by
 cases a with
|false=>simp[dB,hf,a7 rfl]
|true=>simp[dB,hf]
def tT(hf:dZ ε=some a)(a7:a=true->gt ε=some b):e6 dZ gt ε=some (a && b):=by
 cases a with
|true=>simp[e6,hf,a7 rfl]
|false=>simp[e6,hf]
def eF(hf:dZ ε=some a):dq dZ ε=some !a:=by simp[dq,hf]
def b5{d:List T->Option T}{t:T}(h:f ε=some t):aw d [f] ε=d [t]:=by simp[aw,args,h]
def l4{d:List T->Option T}{t u:T}(h:f ε=some t)(ao:g ε=some u):aw d [f,g] ε=d [t,u]:=by simp[aw,args,h,ao]
def bq{o:T->T->Option T}{t u:T}(h:f ε=some t)(ao:g ε=some u):af o f g ε=o t u:=by simp[af,h,ao]
def tV{o:T->Option T}{t:T}(h:f ε=some t):dQ o f ε=o t:=by simp[dQ,h]
def ho{n:Nat}{as:List T}{r:Option T}(h:f ((as.map λt=>some (.ae t))++dT (n - as.length) none)=r):bV (bh f) n as=r:=by
 unfold bV bh;rw[h];cases r <;> rfl
def eJ{dZ:ej}{s1 s2:bx}(h:dZ ε=some a):seq (iff dZ s1 skip) s2 ε=if a=true then seq s1 s2 ε else s2 ε:=by
 cases a with
|true=>
  show (iff dZ s1 skip ε).bind _=_
  rw[show iff dZ s1 skip ε=s1 ε by simp[iff,h]];rfl
|false=>simp[seq,iff,h,skip]
def hj{f:a_}{s2:bx}{t:T}(h:f ε=some t):seq (bh f) s2 ε=some (.ee t):=by simp[seq,bh,h]
end
theorem RL{r:Ev}{e:a_}{f:T->T}:∀(ts:List T) (s0:Option bQ),(∀t∈ts,e (some (.ae t)::r)=some (f t))->fm (a8 0) (ct true) e ts (s0::r)=some (ts.map f)
| [],_,_=>rfl
|t::ts,s0,h=>by
  have ah:=h t (by simp);have ao:=RL (f:=f) ts (some (.ae t)) λu cM=>h u (ew _ cM);simp[fm,a8,ct,ah,ao]
theorem Q'{r:Ev}{c:ej}{e:a_}{p:T->Bool}{f:T->T}:∀(ts:List T) (s0:Option bQ),(∀t∈ts,c (some (.ae t)::r)=some (p t))->(∀t∈ts,p t=true->e (some (.ae t)::r)=some (f t))->fm (a8 0) c e ts (s0::r)=some ((ts.filter p).map f)
| [],_,_,_=>rfl
|t::ts,s0,au,h=>by
  have h0:=au t (by simp);have ao:=Q' (p:=p) (f:=f) ts (some (.ae t)) (λu cM=>au u (ew _ cM)) λu cM=>h u (ew _ cM);cases aC:p t with
  |true=>
   have ah:=h t (by simp) aC;rw[aC] at h0;simp[fm,a8,h0,ah,ao,aC]
  |false=>
   rw[aC] at h0;simp[fm,a8,h0,ao,aC]
def kO{it:iW}{caps:List Nat}{e:a_}{f:T->T}{ε:Ev}{ts:List T}(hi:it ε=some ts)(aH:ts.length<=big)(h:∀t∈ts,e (some (.ae t)::caps.map λi=>(ε[i]?).join)=some (f t)):comp 1 caps it (a8 0) (ct true) e ε=some (.list (ts.map f)):=by
 simp only[comp,hi,bM,if_pos aH];rw[show hn 1 caps ε=none::caps.map λi=>(ε[i]?).join from rfl,RL (f:=f) ts none h];rfl
def Q_{it:iW}{caps:List Nat}{c:ej}{e:a_}{p:T->Bool}{f:T->T}{ε:Ev}{ts:List T}(hi:it ε=some ts)(aH:ts.length<=big)(au:∀t∈ts,c (some (.ae t)::caps.map λi=>(ε[i]?).join)=some (p t))(h:∀t∈ts,p t=true->e (some (.ae t)::caps.map λi=>(ε[i]?).join)=some (f t)):comp 1 caps it (a8 0) c e ε=some (.list ((ts.filter p).map f)):=by
 simp only[comp,hi,bM,if_pos aH];rw[show hn 1 caps ε=none::caps.map λi=>(ε[i]?).join from rfl,Q' (p:=p) (f:=f) ts none au h];rfl
theorem Jt{α:Type}(f:α->Bool):∀l:List α,bools (l.map λx=>.bool (f x))=some (l.map f)
| []=>rfl
|x::l=>by simp[bools,Jt f l]
def v3{it:iW}{caps:List Nat}{e:a_}{f:T->Bool}{ε:Ev}{ts:List T}(hi:it ε=some ts)(aH:ts.length<=big)(h:∀t∈ts,e (some (.ae t)::caps.map λi=>(ε[i]?).join)=some (.bool (f t))):aw iU [comp 1 caps it (a8 0) (ct true) e] ε=some (.bool (ts.all f)):=by
 rw[b5 (kO (f:=λt=>.bool (f t)) hi aH h)];simp only[iU,Jt,dt];simp[List.all_map]
mutual
noncomputable def gI:T->Bool
|.str x=>vN x && decide (x.length<=1000000)
|.tuple ts=>qH ts
|.list ts=>qH ts
|.dict _=>false
|_=>true
noncomputable def qH:List T->Bool
| []=>true
|t::ts=>gI t && qH ts
end
theorem J4:∀{ts:List T},qH ts=true <-> ∀t∈ts,gI t=true
| []=>by simp[qH]
|t::ts=>by
  rw[qH,cX,J4 (ts:=ts)];simp
mutual
theorem PR:∀{t:T},gI t=true->t.canLay0=true
|.str x,h=>by
  rw[gI,cX] at h;rw[PyData.canLay0];exact vm ((Ji x).mp h.1)
|.tuple ts,h=>by
  rw[gI] at h;rw[PyData.canLay0];exact Jf h
|.list ts,h=>by
  rw[gI] at h;rw[PyData.canLay0];exact Jf h
|.dict _,h=>by simp[gI] at h
|.none,_=>rfl
|.int _,_=>rfl
|.bool _,_=>rfl
theorem Jf:∀{ts:List T},qH ts=true->jB ts=true
| [],_=>rfl
|t::ts,h=>by
  rw[qH,cX] at h;rw[jB,PR h.1,Jf h.2];rfl
end
structure cR(d:Nat)(t:T):Prop where
 g:gI t=true
 d:t.depth<=d
theorem cR.okN{d:Nat}{t:T}(h:cR d t):bU.okN d t:=⟨PR h.g,h.d⟩
theorem cR.eV{d:Nat}{t:T}(h:cR d t)(hd:d<=60:=by decide):eV t=true:=h.okN.eV hd
theorem PN:∀{ts:List T} {t:T},t∈ts->t.depth<=i' ts
|u::ts,t,h=>by
  rw[i'];rcases bC.mp h with rfl|h
  ·omega
  ·have:=PN h;omega
def cR.tup{d:Nat}{ts:List T}(h:cR (d+1) (.tuple ts)):∀t∈ts,cR d t:=λt aN=>by
 have ah:=h.g;have ao:=h.d;rw[gI] at ah;rw[jC] at ao;have:=PN aN;exact⟨J4.mp ah t aN,by omega⟩
def cR.kG{d:Nat}{ts:List T}(h:∀t∈ts,cR d t):cR (d+1) (.tuple ts):=
 ⟨by rw[gI];exact J4.mpr λt aN=>(h t aN).g,(agk λt aN=>(h t aN).okN).2⟩
def jf{d:Nat}{x:Str}(h:asc (ls x))(aH:x.length<=1000000):cR d (.str x):=⟨by rw[gI,cX];exact⟨(Ji x).mpr h,decide_eq_true aH⟩,by rw[jC];omega⟩
def Q7{d:Nat}{i:Int}:cR d (.int i):=⟨rfl,by rw[jC];omega⟩
def Kv{d:Nat}:cR d .none:=⟨rfl,by rw[jC];omega⟩
def aiT{d:Nat}{b:Bool}:cR d (.bool b):=⟨rfl,by rw[jC];omega⟩
def qe:T->Bool
|.int _=>true
|_=>false
def fY(t:T)(lo hi:Int):Bool:=match t with
|.int i=>decide (lo<=i) && decide (i<=hi)
|_=>false
def dp(t:T)(lo hi:Int):Bool:=match t with
|.tuple ts=>decide (lo<=ts.length) && decide ((ts.length:Int)<=hi)
|_=>false
def KS(bJ:String){t:T}(h:gI t=true):sC bJ t=some (.bool (kE bJ t)):=by
 cases t <;> first|rfl|simp[gI] at h
def P5{t:T}(h:gI t=true):ve [t]=some (.bool (qe t)):=by
 refine ho ?_
 have aE:=KS "int" h;have aK:=KS "bool" h;refine (fO (a:=kE "int" t) (b:=!kE "bool" t) (by rw[tV (t:=t) rfl];exact aE) λ_=>aj0 (by rw[tV (t:=t) rfl];exact aK)).trans ?_;cases t <;> first|rfl|simp[gI] at h
def JH{f g h:a_}{ε:Ev}{i j k:Int}(hf:f ε=some (.int i))(a7:g ε=some (.int j))(c4:h ε=some (.int k)):chain oLe oLe f g h ε=some (.bool (decide (i<=j) && decide (j<=k))):=by
 simp only[chain,hf,a7,c4,oLe,bM];cases decide (i<=j) <;> rfl
def By{t:T}{lo hi:Int}(h:gI t=true):ke [t,.int lo,.int hi]=some (.bool (fY t lo hi)):=by
 refine ho ?_
 have ag:qe t=true->chain oLe oLe (nm 1) (nm 0) (nm 2) [some (.ae t),some (.ae (.int lo)),some (.ae (.int hi))]=some (.bool (fY t lo hi)):=by
  intro hw;cases t with
  |int i=>exact JH rfl rfl rfl
  |_=>simp[qe] at hw
 refine (fO (a:=qe t) (b:=fY t lo hi) (by rw[b5 (t:=t) rfl];exact P5 h) ag).trans ?_
 cases t <;> rfl
def lG{t:T}{lo hi:Int}(h:gI t=true):d6 [t,.int lo,.int hi]=some (.bool (dp t lo hi)):=by
 refine ho ?_
 have ag:kE "tuple" t=true->chain oLe oLe (nm 1) (aw eC [(nm 0)]) (nm 2) [some (.ae t),some (.ae (.int lo)),some (.ae (.int hi))]=some (.bool (dp t lo hi)):=by
  intro hw;cases t with
  |tuple ts=>exact JH rfl (by rw[b5 (t:=.tuple ts) rfl];rfl) rfl
  |_=>simp[kE] at hw
 refine (fO (a:=kE "tuple" t) (b:=dp t lo hi) (by rw[tV (t:=t) rfl];exact KS _ h) ag).trans ?_
 cases t <;> rfl
noncomputable def oH(t:T)(lo hi:Int)(a b:Nat):Bool:=match t with
|.str x=>decide (lo<=x.length) && decide ((x.length:Int)<=hi) && (ls x).all λc=>decide (a<=c) && decide (c<=b)
|_=>false
def ag6(a b:Nat):strLt ⟨#[a]⟩ ⟨#[b]⟩=decide (a<b):=by
 simp[strLt,List.cons_lt_cons_iff]
def ah1{f g h:a_}{ε:Ev}{i j k:Nat}(hf:f ε=some (fe i))(a7:g ε=some (fe j))(c4:h ε=some (fe k)):chain oLe oLe f g h ε=some (.bool (decide (i<=j) && decide (j<=k))):=by
 simp only[chain,hf,a7,c4,oLe,fe,bM,ag6];have aE:(!decide (j<i))=decide (i<=j):=by
  by_cases q:i<=j
  ·simp[q]
  ·simp[q];omega
 have aK:(!decide (k<j))=decide (j<=k):=by
  by_cases q:j<=k
  ·simp[q]
  ·simp[q];omega
 rw[aE,aK];cases decide (i<=j) <;> rfl
def JN{t:T}{lo hi:Int}{a b:Nat}(h:gI t=true):mi [t,.int lo,.int hi,fe a,fe b]=some (.bool (oH t lo hi a b)):=by
 unfold mi bV PX;show (seq _ _ [some (.ae t),some (.ae (.int lo)),some (.ae (.int hi)),some (.ae (fe a)),some (.ae (fe b))]).bind _=_;generalize jV:[some (bQ.ae t),some (.ae (.int lo)),some (.ae (.int hi)),some (.ae (fe a)),some (.ae (fe b))]=ε;have h0:nm 0 ε=some t:=by subst jV;rfl
 have ah:nm 1 ε=some (.int lo):=by subst jV;rfl
 have ao:nm 2 ε=some (.int hi):=by subst jV;rfl
 cases t with
|str x=>
  rw[gI,cX] at h;have hx:=of_decide_eq_true h.2;have hle:chain oLe oLe (nm 1) (aw eC [(nm 0)]) (nm 2) ε=some (.bool (decide (lo<=x.length) && decide ((x.length:Int)<=hi))):=JH ah (by rw[b5 h0];simp only[eC];rw[if_pos (by unfold big;omega)]) ao;rw[eJ (a:=!(decide (lo<=x.length) && decide ((x.length:Int)<=hi)))]
  ·cases aD:(decide (lo<=x.length) && decide ((x.length:Int)<=hi)) with
   |false=>
    simp only[Bool.not_false,if_true];rw[hj (t:=.bool false) rfl];simp only[bM];simp only[oH,aD,Bool.false_and]
   |true=>
    simp only[Bool.not_true,q8,if_false,bh];have:=v3 (it:=b9 (az 0)) (caps:=[3,4]) (e:=chain oLe oLe (nm 1) (nm 0) (nm 2)) (f:=λt=>match t with|.str y=>decide (a<=y.cps.getD 0 0) && decide (y.cps.getD 0 0<=b)|_=>false) (ε:=ε) (ts:=(ls x).map fe) (by subst jV;simp[b9,az,h.1,ls]) (by rw[dy,<- er];unfold big;omega) (by
     intro t aN;obtain⟨c,au,rfl⟩:=b2.mp aN;subst jV;exact ah1 rfl rfl rfl)
    rw[this];simp only[dt,bM,oH,aD,Bool.true_and,List.all_map];rfl
  ·have e:dB (dq (a3 (dQ (sC "str") (nm 0)))) (dq (a3 (chain oLe oLe (nm 1) (aw eC [(nm 0)]) (nm 2)))) ε=some (false || !(decide (lo<=x.length) && decide ((x.length:Int)<=hi))):=
    gk (a:=false) (eF (a:=true) (cH (by rw[tV h0];rfl))) λ_=>eF (cH hle)
   rw[e];rfl
|dict d=>simp[gI] at h
|_=>
  rw[eJ (a:=true) (by
   refine gk (a:=true) (b:=false) (eF (a:=false) (cH (by rw[tV h0];rfl))) λz=>by cases z)]
  rfl
def fC(t:T):Bool:=oH t 1 4 97 122
def ha(t:T):Bool:=oH t 4 4 48 57
def JZ{t:T}(h:gI t=true):ri [t]=some (.bool (fC t)):=by
 refine ho ?_
 show aw mi [_,_,_,_,_] _=_
 simp only[aw,args,az,aa,bM,dt,eI,lz,xN,gN];exact JN (a:=97) (b:=122) h
def Ph{t:T}(h:gI t=true):tb [t]=some (.bool (ha t)):=by
 refine ho ?_
 show aw mi [_,_,_,_,_] _=_
 simp only[aw,args,az,aa,bM,dt,eI,lz,xN,gN];exact JN (a:=48) (b:=57) h
end ei
end
section
namespace ei
open D bU PySem
def jd:List Str->Bool
|x::y::r=>strLt x y && jd (y::r)
|_=>true
theorem RK{r:Ev}{e:a_}{f:T->T->T}:∀(ps:List (T×T)) (s0 s1:Option bQ),(∀p∈ps,e (some (.ae p.1)::some (.ae p.2)::r)=some (f p.1 p.2))->fm (eH [a8 0,a8 1]) (ct true) e (ps.map λp=>.tuple [p.1,p.2]) (s0::s1::r)=some (ps.map λp=>f p.1 p.2)
| [],_,_,_=>rfl
|p::ps,s0,s1,h=>by
  have ah:=h p (by simp);have ao:=RK (f:=f) ps (some (.ae p.1)) (some (.ae p.2)) λu cM=>h u (ew _ cM);simp[fm,eH,gH,a8,ct,ah,ao]
def zip_map(a b:List T):List.zipWith (λx y=>PyData.tuple [x,y]) a b=(a.zip b).map λp=>.tuple [p.1,p.2]:=by
 rw[List.zip,List.map_zipWith]
theorem Px:∀ss:List Str,(List.zipWith strLt ss ss.tail).all id=jd ss
| []=>rfl
| [x]=>rfl
|x::y::r=>by
  have:=Px (y::r);simp only[List.tail_cons] at this;simp only[List.tail_cons,List.zipWith_cons_cons,List.all_cons,jd,id,this]
def uh{α:Type}(l:List α):cT l (some 1) none=l.tail:=by
 unfold cT;cases l with
|nil=>rfl
|cons a r=>
  have aE:D.bI (a::r).length 0 (some 1)=1:=by simp[D.bI];omega
  have aK:D.bI (a::r).length (a::r).length none=(a::r).length:=rfl;rw[aE,aK];simp
def pO:T->Option (List T)
|.tuple ts=>some ts
|.list ts=>some ts
|_=>none
def J3{f:a_}{ε:Ev}{t:T}(h:f ε=some t):fc f ε=pO t:=by
 simp only[fc,h,bM];cases t <;> rfl
def O'{ss:List Str}{t u:T}(aN:pO t=some (ss.map .str))(cM:pK t (some 1) none=some u)(X7:pO u=some (ss.tail.map .str))(aH:ss.length<=big):nz [t]=some (.bool (jd ss)):=by
 refine ho ?_
 have aE:vX (fc (az 0)) (fc (da (nm 0) (opt (aa (.int 1))) optN)) [some (.ae t)]=some (((ss.map hL).zip (ss.tail.map hL)).map λp=>.tuple [p.1,p.2]):=by
  simp only[vX];rw[J3 (t:=t) rfl,J3 (t:=u) (by simp only[da,nm,opt,optN,aa,gN,bM,cM]),aN,X7];simp only[bM,dt,zip_map]
 show aw iU [_] [some (.ae t)]=_
 have aK:comp 2 [] (vX (fc (az 0)) (fc (da (nm 0) (opt (aa (.int 1))) optN))) (eH [(a8 0),(a8 1)]) (ct true) (af oLt (nm 0) (nm 1)) [some (.ae t)]=some (.list ((List.zipWith strLt ss ss.tail).map .bool)):=by
  simp only[comp,aE,bM];rw[if_pos (by simp;omega)];rw[show hn 2 [] [some (.ae t)]=[none,none] from rfl,RK (f:=λa b=>match a,b with|.str x,.str y=>.bool (strLt x y)|_,_=>.none) _ none none (by
   intro p aC;obtain⟨ah,ao⟩:=List.of_mem_zip aC;obtain⟨x,_,ex⟩:=b2.mp ah;obtain⟨y,_,fV⟩:=b2.mp ao;rw[<- ex,<- fV];rfl)]
  simp only[dt];congr 2;rw[List.zip_map,dW,List.map_zipWith,List.zip,List.map_zipWith];rfl
 rw[b5 aK];have c_:=Jt (λx:Bool=>x) (List.zipWith strLt ss ss.tail);simp only[iU,c_,dt,List.map_id'];rw[Px]
def afD{ss:List Str}(aH:ss.length<=big):nz [.list (ss.map .str)]=some (.bool (jd ss)):=
 O' (u:=.list (ss.tail.map .str)) rfl (by simp only[pK,oh,uh,List.map_tail]) rfl aH
def agf{ss:List Str}(aH:ss.length<=big):nz [.tuple (ss.map .str)]=some (.bool (jd ss)):=
 O' (u:=.tuple (ss.tail.map .str)) rfl (by simp only[pK,oh,uh,List.map_tail]) rfl aH
def gu(ss:List Str)(t:T):Bool:=match t with
|.str x=>decide (x∈ss)
|_=>false
def QD(s:Str)(t:T):kL (.str s) t=match t with|.str x=>decide (s=x)|_=>false:=by
 cases t with
|str x=>
  rw[kL,Bool.eq_iff_iff];simp
|_=>simp[kL]
def PI(ss:List Str)(t:T):mP t (ss.map .str)=gu ss t:=by
 unfold mP gu;rw[List.any_map];cases t with
|str x=>
  simp only[Function.comp_def,QD];rw[Bool.eq_iff_iff,List.any_eq_true,decide_eq_true_iff];constructor
  ·rintro⟨y,b1,e⟩;rw[<- of_decide_eq_true e];exact b1
  ·intro h;exact⟨x,h,decide_eq_true rfl⟩
|_=>simp[Function.comp_def,QD]
def BO{ss:List Str}(h:∀s∈ss,asc (ls s)):oj (ss.map .str)=true:=by
 unfold oj;have:=JY (d:=0) (ts:=ss.map .str) λt aN=>by
  obtain⟨s,aB,rfl⟩:=b2.mp aN;exact⟨by rw[PyData.canLay0];exact vm (h s aB),by rw[jC];omega⟩
 rw[this.1,Bool.true_and];exact decide_eq_true (by omega)
def yM{ss:List Str}{t:T}{d:Nat}(h:∀s∈ss,asc (ls s))(aN:cR d t)(hd:d<=60:=by decide):gJ false t (.tuple (ss.map .str))=some (.bool (gu ss t)):=by
 simp only[gJ,aN.eV hd,BO h,Bool.and_self,if_true,PI];rfl
def Q5{ss:List Str}{t:T}{d:Nat}(h:∀s∈ss,asc (ls s))(aN:cR d t)(hd:d<=60:=by decide):gJ false t (.list (ss.map .str))=some (.bool (gu ss t)):=by
 simp only[gJ,aN.eV hd,BO h,Bool.and_self,if_true,PI];rfl
def Uu(ss:List Str):Bool:=ss.all λs=>(ls s).all λc=>decide (c<128)
def yA{ss:List Str}(h:Uu ss=true):∀s∈ss,asc (ls s):=λs aB a aA=>of_decide_eq_true (List.all_eq_true.mp (List.all_eq_true.mp h s aB) a aA)
def oF:List Str:=["day","inner","once","way"]
def qi:List Str:=["shut","open","cut"]
def QG:∀s∈oF,asc (ls s):=yA (by decide +kernel)
def Qr:∀s∈lH,asc (ls s):=yA (by decide +kernel)
def Ka:∀s∈qi,asc (ls s):=yA (by decide +kernel)
def DI:∀s∈(["set","unset"]:List Str),asc (ls s):=yA (by decide +kernel)
def DJ:∀s∈(["shunt","free"]:List Str),asc (ls s):=yA (by decide +kernel)
def fJ{a:T}{r:List T}:aJ (.tuple (a::r)) (.int 0)=some a:=by
 simp only[aJ,eP,fv];rw[if_pos (by decide),if_pos (by simp only[fM];omega)];rfl
def iH{a b:T}{r:List T}:aJ (.tuple (a::b::r)) (.int 1)=some b:=by
 simp only[aJ,eP,fv];rw[if_pos (by decide),if_pos (by simp only[fM];omega)];rfl
def pF{a b c:T}{r:List T}:aJ (.tuple (a::b::c::r)) (.int 2)=some c:=by
 simp only[aJ,eP,fv];rw[if_pos (by decide),if_pos (by simp only[fM];omega)];rfl
def z8{a b c d:T}{r:List T}:aJ (.tuple (a::b::c::d::r)) (.int 3)=some d:=by
 simp only[aJ,eP,fv];rw[if_pos (by decide),if_pos (by simp only[fM];omega)];rfl
def KD{t:T}{n:Nat}(h:dp t n n=true):∃ts,t=.tuple ts/\ts.length=n:=by
 cases t with
|tuple ts=>
  simp only[dp,cX,decide_eq_true_eq] at h;exact⟨ts,rfl,by omega⟩
|_=>simp[dp] at h
def KG{t:T}(h:dp t 2 2=true):∃a b,t=.tuple [a,b]:=by
 obtain⟨ts,rfl,aH⟩:=KD (n:=2) h
 match ts,aH with
| [a,b],_=>exact⟨a,b,rfl⟩
def Cd{t:T}(h:dp t 3 3=true):∃a b c,t=.tuple [a,b,c]:=by
 obtain⟨ts,rfl,aH⟩:=KD (n:=3) h
 match ts,aH with
| [a,b,c],_=>exact⟨a,b,c,rfl⟩
def Ri{t:T}(h:dp t 4 4=true):∃a b c d,t=.tuple [a,b,c,d]:=by
 obtain⟨ts,rfl,aH⟩:=KD (n:=4) h
 match ts,aH with
| [a,b,c,d],_=>exact⟨a,b,c,d,rfl⟩
def oG(t:T):Bool:=match t with
|.tuple [a,b]=>fC a && gu oF b
|_=>false
def ah_{d:Nat}{t:T}(h:cR (d+1) t)(hd:d<=59):vj [t]=some (.bool (oG t)):=by
 refine ho ?_
 have ah:aw d6 [(az 0),(aa (.int 2)),(aa (.int 2))] [some (.ae t)]=some (.bool (dp t 2 2)):=by
  simp only[aw,args,az,aa,gN,bM,dt];exact lG h.g
 cases ag:dp t 2 2 with
|false=>
  rw[ag] at ah;refine (fO ah (b:=false) λz=>by cases z).trans ?_;have:oG t=false:=by
   unfold oG;split
   ·simp[dp] at ag
   ·rfl
  rw[this];rfl
|true=>
  obtain⟨a,b,rfl⟩:=KG ag;have aA:=h.tup a (by simp);have kA:=h.tup b (by simp);rw[ag] at ah;refine (fO ah λ_=>fO (a:=fC a) (b:=gu oF b) ?_ λ_=>?_).trans ?_
  ·rw[b5 (t:=a) (by rw[bq rfl rfl];exact fJ)];exact JZ aA.g
  ·rw[bq (t:=b) (u:=.tuple (oF.map .str)) (by rw[bq rfl rfl];exact iH) rfl];exact yM QG kA (by omega)
  ·rfl
def uv(t:T):Str:=match t with
|.tuple (.str x::_)=>x
|_=>⟨#[]⟩
def rr(t:T):Bool:=match t with
|.tuple ts=>decide (1<=ts.length) && decide (ts.length<=8) && ts.all oG && jd (ts.map uv)
|_=>false
def Jm{t:T}(h:fC t=true):∃x,t=.str x:=by
 cases t with
|str x=>exact⟨x,rfl⟩
|_=>simp[fC,oH] at h
def Qj{t:T}(h:ha t=true):∃x,t=.str x:=by
 cases t with
|str x=>exact⟨x,rfl⟩
|_=>simp[ha,oH] at h
def Po{t:T}(h:oG t=true):∃x k,t=.tuple [.str x,.str k]/\k∈oF/\fC (.str x)=true:=by
 unfold oG at h;split at h
 next a b=>
  rw[cX] at h;obtain⟨x,rfl⟩:=Jm h.1;cases b with
  |str k=>exact⟨x,k,rfl,of_decide_eq_true h.2,h.1⟩
  |_=>simp[gu] at h
 next=>cases h
def PJ{ts:List T}{ε:Ev}(jV:az 0 ε=some (.tuple ts))(aH:ts.length<=big)(h:∀t∈ts,∃x r,t=.tuple (.str x::r)):aw nz [comp 1 [] (b9 (az 0)) (a8 0) (ct true) (af aJ (nm 0) (aa (.int 0)))] ε=some (.bool (jd (ts.map uv))):=by
 rw[b5 (t:=.list ((ts.map uv).map .str)) (by
  rw[dW];refine kO (f:=hL ∘ uv) (ts:=ts) (by simp[b9,jV]) aH λt aN=>?_;obtain⟨x,r,rfl⟩:=h t aN;rw[bq rfl rfl];exact fJ)]
 exact afD (by rw[dy];exact aH)
def afo{d:Nat}{ts:List T}(h:cR (d+2) (.tuple ts))(hd:d<=50){ε:Ev}(jV:az 0 ε=some (.tuple ts))(aH:ts.length<=big):aw iU [comp 1 [] (b9 (az 0)) (a8 0) (ct true) (aw vj [(az 0)])] ε=some (.bool (ts.all oG)):=
 v3 (by simp[b9,jV]) aH λt aN=>by
  rw[b5 (t:=t) rfl];exact ah_ (h.tup t aN) (by omega)
def P1{d:Nat}{t:T}(h:cR (d+2) t)(hd:d<=50):x6 [t]=some (.bool (rr t)):=by
 unfold x6 bV O5;show (seq _ _ [some (.ae t)]).bind _=_;have ah:aw d6 [(az 0),(aa (.int 1)),(aa (.int 8))] [some (.ae t)]=some (.bool (dp t 1 8)):=by
  simp only[aw,args,az,aa,gN,bM,dt];exact lG h.g
 cases ag:dp t 1 8 with
|false=>
  rw[ag] at ah;rw[eJ (a:=true) (gk (a:=true) (b:=false) (eF (cH ah)) λz=>by cases z),if_pos rfl,hj (t:=.bool false) rfl];have:rr t=false:=by
   unfold rr;split
   next ts=>
    have:(decide (1<=ts.length) && decide (ts.length<=8))=false:=by
     simp only[dp] at ag;rw[<- ag];congr 1 <;> (congr 1;apply propext;omega)
    rw[this];rfl
   next=>rfl
  rw[this];rfl
|true=>
  cases t with
  |tuple ts=>
   have aH:decide (1<=ts.length)=true/\decide (ts.length<=8)=true:=by
    simp only[dp,cX,decide_eq_true_eq] at ag ⊢;omega
   have F6:=of_decide_eq_true aH.2;have qL:ts.length<=big:=by unfold big;omega
   have au:dB (dq (a3 (aw d6 [(az 0),(aa (.int 1)),(aa (.int 8))]))) (dq (a3 (aw iU [(comp 1 [] (b9 (az 0)) (a8 0) (ct true) (aw vj [(az 0)]))]))) [some (.ae (.tuple ts))]=some (false || !ts.all oG):=by
    rw[ag] at ah;exact gk (eF (cH ah)) λ_=>eF (cH (afo h hd rfl qL))
   rw[eJ au];cases aA:ts.all oG with
   |false=>
    rw[if_pos (by rfl),hj (t:=.bool false) rfl];simp only[rr,aA,Bool.and_false,Bool.false_and];rfl
   |true=>
    rw[if_neg (by simp)];simp only[bh];rw[PJ (ts:=ts) rfl qL λt aN=>by
     obtain⟨x,k,rfl,_⟩:=Po (List.all_eq_true.mp aA t aN);exact⟨x,_,rfl⟩]
    simp only[rr,aA,aH.1,aH.2,Bool.true_and];rfl
  |_=>simp[dp] at ag
end ei
end
section
namespace ei
open D bU PySem
def q4(t:T):Str:=match t with
|.str x=>x
|_=>⟨#[]⟩
def ro{ss:List Str}{t:T}(h:gu ss t=true):∃x,t=.str x/\x∈ss:=by
 cases t with
|str x=>exact⟨x,rfl,of_decide_eq_true h⟩
|_=>simp[gu] at h
def tx(t:T):Bool:=match t with
|.tuple ts=>decide (ts.length<=3) && (ts.all (gu lH) && jd (ts.map q4))
|_=>false
def afF{d:Nat}{t:T}(h:cR (d+1) t)(hd:d<=50):Bd [t]=some (.bool (tx t)):=by
 refine ho ?_
 have ah:aw d6 [(az 0),(aa (.int 0)),(aa (.int 3))] [some (.ae t)]=some (.bool (dp t 0 3)):=by
  simp only[aw,args,az,aa,gN,bM,dt];exact lG h.g
 cases t with
|tuple ts=>
  have e:dp (.tuple ts) 0 3=decide (ts.length<=3):=by
   simp only[dp];rw[decide_eq_true (show (0:Int)<=ts.length by omega),Bool.true_and];congr 1;apply propext;omega
  rw[e] at ah;refine (fO ah λaH=>?_).trans rfl;have F5:=of_decide_eq_true aH;have qL:ts.length<=big:=by unfold big;omega
  refine fO (a:=ts.all (gu lH)) (v3 (ts:=ts) rfl qL λt aN=>?_) λaA=>?_
  ·rw[bq (t:=t) (u:=.tuple (lH.map .str)) rfl rfl];exact yM Qr (h.tup t aN) (by omega)
  ·rw[b5 (t:=.tuple ts) rfl];have aK:ts=(ts.map q4).map .str:=by
    rw[dW]
    conv=>lhs;rw[<- List.map_id ts]
    refine List.map_congr_left λt aN=>?_
    obtain⟨x,rfl,_⟩:=ro (List.all_eq_true.mp aA t aN);rfl
   rw[aK];rw[agf (by rw[dy];exact qL),<- aK]
|_=>exact (fO (b:=false) ah λz=>by cases z).trans rfl
def codeB(t:T):Bool:=match t with
|.tuple [f,w,r,u]=>ha f && (fC w && (tx r && fY u 0 9))
|_=>false
def M7{f:a_}{ε:Ev}{s2:bx}(h:f ε=some (.bool false)):seq (iff (dq (a3 f)) (bh (aa (.bool false))) skip) s2 ε=some (.ee (.bool false)):=by
 rw[eJ (eF (cH h)),if_pos (by rfl),hj (t:=.bool false) rfl]
def M8{f:a_}{ε:Ev}{s2:bx}(h:f ε=some (.bool true)):seq (iff (dq (a3 f)) (bh (aa (.bool false))) skip) s2 ε=s2 ε:=by
 rw[eJ (eF (cH h)),if_neg (by simp)]
def ah0{d:Nat}{t:T}(h:cR (d+2) t)(hd:d<=50):amg [t]=some (.bool (codeB t)):=by
 unfold amg bV PY;show (seq _ _ [some (.ae t)]).bind _=_;have ah:aw d6 [(az 0),(aa (.int 4)),(aa (.int 4))] [some (.ae t)]=some (.bool (dp t 4 4)):=by
  simp only[aw,args,az,aa,gN,bM,dt];exact lG h.g
 cases ag:dp t 4 4 with
|false=>
  rw[ag] at ah;rw[M7 ah];have:codeB t=false:=by
   unfold codeB;split
   ·simp[dp] at ag
   ·rfl
  rw[this];rfl
|true=>
  rw[ag] at ah;rw[M8 ah];obtain⟨f,w,r,u,rfl⟩:=Ri ag;have hf:=h.tup f (by simp);have hw:=h.tup w (by simp);have ax:=h.tup r (by simp);have cM:=h.tup u (by simp);simp only[bh];rw[fO (a:=ha f) (b:=fC w && (tx r && fY u 0 9)) (by rw[b5 (t:=f) (by rw[bq rfl rfl];exact fJ)];exact Ph hf.g) λ_=>
   fO (by rw[b5 (t:=w) (by rw[bq rfl rfl];exact iH)];exact JZ hw.g) λ_=>
   fO (by rw[b5 (t:=r) (by rw[bq rfl rfl];exact pF)];exact afF ax hd) λ_=>by
    simp only[aw,args,aa,bM,dt];rw[show af aJ (nm 0) (aa (.int 3)) [some (.ae (.tuple [f,w,r,u]))]=some u from by rw[bq rfl rfl];exact z8];exact By cM.g]
  rfl
def ry(t:T):Bool:=match t with
|.tuple ts=>decide (1<=ts.length) && decide (ts.length<=6) && ts.all codeB && jd (ts.map uv)
|_=>false
def PQ{t:T}(h:codeB t=true):∃f w r u,t=.tuple [.str f,.str w,r,u]/\ha (.str f)=true/\fC (.str w)=true/\tx r=true/\fY u 0 9=true:=by
 unfold codeB at h;split at h
 next f w r u=>
  simp only[cX] at h;obtain⟨ah,ao,aY,bZ⟩:=h;obtain⟨x,rfl⟩:=Qj ah;obtain⟨y,rfl⟩:=Jm ao;exact⟨x,y,r,u,rfl,ah,ao,aY,bZ⟩
 next=>cases h
def ahZ{d:Nat}{t:T}(h:cR (d+3) t)(hd:d<=50):x8 [t]=some (.bool (ry t)):=by
 unfold x8 bV O7;show (seq _ _ [some (.ae t)]).bind _=_;have ah:aw d6 [(az 0),(aa (.int 1)),(aa (.int 6))] [some (.ae t)]=some (.bool (dp t 1 6)):=by
  simp only[aw,args,az,aa,gN,bM,dt];exact lG h.g
 cases ag:dp t 1 6 with
|false=>
  rw[ag] at ah;rw[eJ (a:=true) (gk (a:=true) (b:=false) (eF (cH ah)) λz=>by cases z),if_pos rfl,hj (t:=.bool false) rfl];have:ry t=false:=by
   unfold ry;split
   next ts=>
    have:(decide (1<=ts.length) && decide (ts.length<=6))=false:=by
     simp only[dp] at ag;rw[<- ag];congr 1 <;> (congr 1;apply propext;omega)
    rw[this];rfl
   next=>rfl
  rw[this];rfl
|true=>
  cases t with
  |tuple ts=>
   have aH:decide (1<=ts.length)=true/\decide (ts.length<=6)=true:=by
    simp only[dp,cX,decide_eq_true_eq] at ag ⊢;omega
   have F6:=of_decide_eq_true aH.2;have qL:ts.length<=big:=by unfold big;omega
   have au:dB (dq (a3 (aw d6 [(az 0),(aa (.int 1)),(aa (.int 6))]))) (dq (a3 (aw iU [(comp 1 [] (b9 (az 0)) (a8 0) (ct true) (aw amg [(az 0)]))]))) [some (.ae (.tuple ts))]=some (false || !ts.all codeB):=by
    rw[ag] at ah;exact gk (eF (cH ah)) λ_=>eF (cH (v3 (ts:=ts) rfl qL λt aN=>by
     rw[b5 (t:=t) rfl];exact ah0 (h.tup t aN) hd))
   rw[eJ au];cases aA:ts.all codeB with
   |false=>
    rw[if_pos (by rfl),hj (t:=.bool false) rfl];simp only[ry,aA,Bool.and_false,Bool.false_and];rfl
   |true=>
    rw[if_neg (by simp)];simp only[bh];rw[PJ (ts:=ts) rfl qL λt aN=>by
     obtain⟨x,w,r,u,rfl,_⟩:=PQ (List.all_eq_true.mp aA t aN);exact⟨x,_,rfl⟩]
    simp only[ry,aA,aH.1,aH.2,Bool.true_and];rfl
  |_=>simp[dp] at ag
def vF(t:T):Bool:=match t with
|.tuple [a,b,c]=>fY a 0 60 && (fY b 0 60 && fY c 1 300)
|_=>false
def AP{ε:Ev}{e:a_}{u:T}{lo hi:Int}(he:e ε=some u)(cM:gI u=true):aw ke [e,aa (.int lo),aa (.int hi)] ε=some (.bool (fY u lo hi)):=by
 simp only[aw,args,aa,bM,dt,he];exact By cM
def ag5{d:Nat}{t:T}(h:cR (d+1) t):x7 [t]=some (.bool (vF t)):=by
 unfold x7 bV O6;show (seq _ _ [some (.ae t)]).bind _=_;have ah:aw d6 [(az 0),(aa (.int 3)),(aa (.int 3))] [some (.ae t)]=some (.bool (dp t 3 3)):=by
  simp only[aw,args,az,aa,gN,bM,dt];exact lG h.g
 cases ag:dp t 3 3 with
|false=>
  rw[ag] at ah;rw[M7 ah];have:vF t=false:=by
   unfold vF;split
   ·simp[dp] at ag
   ·rfl
  rw[this];rfl
|true=>
  rw[ag] at ah;rw[M8 ah];obtain⟨a,b,c,rfl⟩:=Cd ag;have aA:=h.tup a (by simp);have ag:=h.tup b (by simp);have au:=h.tup c (by simp);simp only[bh];rw[fO (a:=fY a 0 60) (b:=fY b 0 60 && fY c 1 300) (AP (by rw[bq rfl rfl];exact fJ) aA.g) λ_=>
   fO (AP (by rw[bq rfl rfl];exact iH) ag.g) λ_=>AP (by rw[bq rfl rfl];exact pF) au.g]
  rfl
def oJ(t:T):Bool:=match t with
|.tuple [z,c,m]=>rr z && (ry c && vF m)
|_=>false
def JB{d:Nat}{t:T}(h:cR (d+4) t)(hd:d<=40):nt [t]=some (.bool (oJ t)):=by
 refine ho ?_
 have ah:aw d6 [(az 0),(aa (.int 3)),(aa (.int 3))] [some (.ae t)]=some (.bool (dp t 3 3)):=by
  simp only[aw,args,az,aa,gN,bM,dt];exact lG h.g
 cases ag:dp t 3 3 with
|false=>
  rw[ag] at ah;refine (fO ah (b:=false) λz=>by cases z).trans ?_;have:oJ t=false:=by
   unfold oJ;split
   ·simp[dp] at ag
   ·rfl
  rw[this];rfl
|true=>
  obtain⟨z,c,m,rfl⟩:=Cd ag;have aI:=h.tup z (by simp);have au:=h.tup c (by simp);have hm:=h.tup m (by simp);rw[ag] at ah;refine (fO ah λ_=>fO (a:=rr z) (b:=ry c && vF m) ?_ λ_=>fO ?_ λ_=>?_).trans rfl
  ·rw[b5 (t:=z) (by rw[bq rfl rfl];exact fJ)];exact P1 (d:=d+1) aI (by omega)
  ·rw[b5 (t:=c) (by rw[bq rfl rfl];exact iH)];exact ahZ au (by omega)
  ·rw[b5 (t:=m) (by rw[bq rfl rfl];exact pF)];exact ag5 hm
def qn(t:T):Bool:=match t with
|.none=>true
|_=>false
def oK(R:T)(t:T):Bool:=match R,t with
|.int r,.tuple [a,.int b,z]=>fY (.int b) 1 r && (fY a 0 (b - 1) && (qn z || fC z))
|_,_=>false
def Cq{f:a_}{ε:Ev}{t:T}(h:f ε=some t):dQ gX f ε=some (.bool (qn t)):=by
 rw[tV h];cases t <;> rfl
def afI{d:Nat}{t:T}{r:Int}(h:cR (d+1) t):xZ [.int r,t]=some (.bool (oK (.int r) t)):=by
 unfold xZ bV ON;show (seq _ _ [some (.ae (.int r)),some (.ae t)]).bind _=_;have ah:aw d6 [(az 1),(aa (.int 3)),(aa (.int 3))] [some (.ae (.int r)),some (.ae t)]=some (.bool (dp t 3 3)):=by
  simp only[aw,args,az,aa,gN,u5,bM,dt];exact lG h.g
 cases ag:dp t 3 3 with
|false=>
  rw[ag] at ah;rw[eJ (a:=true) (gk (a:=true) (b:=false) (eF (cH ah)) λz=>by cases z),if_pos rfl,hj (t:=.bool false) rfl];have:oK (.int r) t=false:=by
   unfold oK;split
   ·simp[dp] at ag
   ·rfl
  rw[this];rfl
|true=>
  obtain⟨a,b,z,rfl⟩:=Cd ag;have aA:=h.tup a (by simp);have kA:=h.tup b (by simp);have aI:=h.tup z (by simp);rw[ag] at ah;have hw:aw ke [(af aJ (nm 1) (aa (.int 1))),(aa (.int 1)),(az 0)] [some (.ae (.int r)),some (.ae (.tuple [a,b,z]))]=some (.bool (fY b 1 r)):=by
   have e:af aJ (nm 1) (aa (.int 1)) [some (.ae (.int r)),some (.ae (.tuple [a,b,z]))]=some b:=by rw[bq rfl rfl];exact iH
   simp only[aw,args,az,bM,dt,gN,e];exact By kA.g
  have au:=gk (eF (cH ah)) λ_=>eF (cH hw);rw[eJ au];cases aD:fY b 1 r with
  |false=>
   rw[if_pos (by rfl),hj (t:=.bool false) rfl];cases b with
   |int j=>simp only[oK,aD,Bool.false_and];rfl
   |_=>rfl
  |true=>
   rw[if_neg (by simp)];cases b with
   |int j=>
    simp only[bh];have bp:af aJ (nm 1) (aa (.int 0)) [some (.ae (.int r)),some (.ae (.tuple [a,.int j,z]))]=some a:=by rw[bq rfl rfl];exact fJ
    have aE:af aJ (nm 1) (aa (.int 1)) [some (.ae (.int r)),some (.ae (.tuple [a,.int j,z]))]=some (.int j):=by rw[bq rfl rfl];exact iH
    have aK:af aJ (nm 1) (aa (.int 2)) [some (.ae (.int r)),some (.ae (.tuple [a,.int j,z]))]=some z:=by rw[bq rfl rfl];exact pF
    have ar:af oi (af aJ (nm 1) (aa (.int 1))) (aa (.int 1)) [some (.ae (.int r)),some (.ae (.tuple [a,.int j,z]))]=some (.int (j - 1)):=by rw[bq aE rfl];rfl
    rw[fO (a:=fY a 0 (j - 1)) (b:=qn z || fC z) (by
     simp only[aw,args,bM,dt,bp,ar];exact By aA.g) λ_=>KQ (Cq aK) λ_=>by rw[b5 aK];exact JZ aI.g]
    simp only[oK,aD,Bool.true_and];rfl
   |_=>simp[fY] at aD
def kh(t:T):Bool:=match t with
|.tuple [r,.tuple os]=>fY r 1 7 && (decide (os.length<=10) && os.all (oK r))
|_=>false
def BJ{d:Nat}{t:T}(h:cR (d+3) t)(hd:d<=50):lE [t]=some (.bool (kh t)):=by
 unfold lE bV Pn;show (seq _ _ [some (.ae t)]).bind _=_;have ah:aw d6 [(az 0),(aa (.int 2)),(aa (.int 2))] [some (.ae t)]=some (.bool (dp t 2 2)):=by
  simp only[aw,args,az,aa,gN,bM,dt];exact lG h.g
 cases ag:dp t 2 2 with
|false=>
  rw[ag] at ah;rw[eJ (a:=true) (gk (a:=true) (b:=false) (eF (cH ah)) λz=>by cases z),if_pos rfl,hj (t:=.bool false) rfl];have:kh t=false:=by
   unfold kh;split
   ·simp[dp] at ag
   ·rfl
  rw[this];rfl
|true=>
  obtain⟨r,o,rfl⟩:=KG ag;have ax:=h.tup r (by simp);have aT:=h.tup o (by simp);rw[ag] at ah;have bp:af aJ (nm 0) (aa (.int 0)) [some (.ae (.tuple [r,o]))]=some r:=by rw[bq rfl rfl];exact fJ
  have aE:af aJ (nm 0) (aa (.int 1)) [some (.ae (.tuple [r,o]))]=some o:=by rw[bq rfl rfl];exact iH
  have aY:aw d6 [(af aJ (nm 0) (aa (.int 1))),(aa (.int 0)),(aa (.int 10))] [some (.ae (.tuple [r,o]))]=some (.bool (dp o 0 10)):=by
   simp only[aw,args,aa,bM,dt];rw[show af aJ (nm 0) (aa (.int 1)) [some (.ae (.tuple [r,o]))]=some o from aE];exact lG aT.g
  have au:=gk (eF (cH ah)) λ_=>gk (eF (cH (AP (lo:=1) (hi:=7) bp ax.g))) λ_=>eF (cH aY);rw[eJ au];cases aD:(fY r 1 7 && dp o 0 10) with
  |false=>
   rw[if_pos (by
    rw[<- Bool.not_and,aD];rfl),hj (t:=.bool false) rfl]
   have:kh (.tuple [r,o])=false:=by
    unfold kh;split
    next cx lj bu=>
     cases bu
     have:dp (.tuple lj) 0 10=decide (lj.length<=10):=by
      simp only[dp];rw[decide_eq_true (show (0:Int)<=lj.length by omega),Bool.true_and];congr 1;apply propext;omega
     rw[this] at aD;rw[<- Bool.and_assoc,aD,Bool.false_and]
    next=>rfl
   rw[this];rfl
  |true=>
   rw[if_neg (by
    rw[<- Bool.not_and,aD];simp)]
   rw[cX] at aD;cases o with
   |tuple os=>
    have aH:os.length<=10:=by
     have:=aD.2;simp only[dp,cX,decide_eq_true_eq] at this;omega
    cases r with
    |int i=>
     simp only[bh];rw[v3 (ts:=os) (f:=oK (.int i)) (by simp only[b9,aE,bM]) (by unfold big;omega) λt aN=>by
      rw[l4 (t:=.int i) (u:=t) (by rw[bq rfl rfl];exact fJ) rfl];exact afI (aT.tup t aN)]
     simp only[kh,aD.1,decide_eq_true aH,Bool.true_and];rfl
    |_=>simp[fY] at aD
   |_=>simp[dp] at aD
end ei
end
section
namespace ei
open D bU PySem
def iu(p:b4):List Str:=p.dY.map (·.1)
structure wg(p:b4):Prop where
 z:∀s∈iu p,asc (ls s)
 l:p.dY.length<=1000
def P2{p:b4}(aC:wg p){d:Nat}{t:T}(aN:cR d t)(hd:d<=60):vf [bG p,t]=some (.bool (gu (iu p) t)):=by
 refine ho ?_
 have e:comp 1 [] (b9 (af aJ (nm 0) (aa (.int 0)))) (a8 0) (ct true) (af aJ (nm 0) (aa (.int 0))) [some (.ae (bG p)),some (.ae t)]=some (.list ((iu p).map .str)):=by
  rw[kO (f:=λt=>.str (uv t)) (ts:=p.dY.map e7) (by
   simp only[b9];rw[bq (t:=bG p) rfl rfl,show aJ (bG p) (.int 0)=some (.tuple (p.dY.map e7)) from fJ];rfl) (by rw[dy];have:=aC.l;unfold big;omega) λt aN=>by
    obtain⟨z,_,rfl⟩:=b2.mp aN;rw[bq rfl rfl];exact fJ]
  simp only[dW,iu];rfl
 show af (gJ false) (nm 1) _ [some (.ae (bG p)),some (.ae t)]=_
 rw[bq (t:=t) rfl e];exact Q5 aC.z aN hd
def gp(s:Str)(t:T):Bool:=match t with
|.str x=>decide (x=s)
|_=>false
def BP(s:Str)(t:T):kL t (.str s)=gp s t:=by
 cases t with
|str x=>
  rw[kL,Bool.eq_iff_iff];simp[gp]
|_=>simp[kL,gp]
def k'{d:Nat}{f:a_}{ε:Ev}{t:T}{s:Str}(h:f ε=some t)(aN:cR d t)(aB:asc (ls s))(hd:d<=60:=by decide):af oEq f (aa (.str s)) ε=some (.bool (gp s t)):=by
 rw[bq h rfl];simp only[oEq,aN.eV hd,show eV (.str s)=true from bU.okN.eV (d:=0) ⟨by rw[PyData.canLay0];exact vm aB,by rw[jC];omega⟩,Bool.and_self,if_true,BP]
def Ia{d:Nat}{f:a_}{ε:Ev}{t:T}{s:Str}(h:f ε=some t)(aN:cR d t)(aB:asc (ls s))(hd:d<=60:=by decide):af dG f (aa (.str s)) ε=some (.bool !(gp s t)):=by
 rw[bq h rfl];simp only[dG,aN.eV hd,show eV (.str s)=true from bU.okN.eV (d:=0) ⟨by rw[PyData.canLay0];exact vm aB,by rw[jC];omega⟩,Bool.and_self,if_true,BP]
def oM{s:Str}(h:((ls s).all λc=>decide (c<128))=true:=by decide +kernel):asc (ls s):=λa aA=>of_decide_eq_true (List.all_eq_true.mp h a aA)
def yP:asc (ls "line"):=oM
def mq:asc (ls "code"):=oM
def qd:asc (ls "ticks"):=oM
def tY(p:b4)(t:T):Bool:=match t with
|.tuple [a,z,w]=>gp "line" a && (gu (iu p) z && gu qi w)
|_=>false
def ahD{p:b4}(aC:wg p){d:Nat}{t:T}(h:cR (d+1) t)(hd:d<=50):A2 [bG p,t]=some (.bool (tY p t)):=by
 refine ho ?_
 have ah:aw d6 [(az 1),(aa (.int 3)),(aa (.int 3))] [some (.ae (bG p)),some (.ae t)]=some (.bool (dp t 3 3)):=by
  simp only[aw,args,az,aa,gN,u5,bM,dt];exact lG h.g
 cases ag:dp t 3 3 with
|false=>
  rw[ag] at ah;refine (fO ah (b:=false) λz=>by cases z).trans ?_;have:tY p t=false:=by
   unfold tY;split
   ·simp[dp] at ag
   ·rfl
  rw[this];rfl
|true=>
  obtain⟨a,z,w,rfl⟩:=Cd ag;have aA:=h.tup a (by simp);have aI:=h.tup z (by simp);have hw:=h.tup w (by simp);rw[ag] at ah;refine (fO ah λ_=>fO (k' (t:=a) (by rw[bq rfl rfl];exact fJ) aA yP (by omega)) λ_=>fO (a:=gu (iu p) z) ?_ λ_=>?_).trans rfl
  ·rw[l4 (t:=bG p) (u:=z) rfl (by rw[bq rfl rfl];exact iH)];exact P2 aC aI (by omega)
  ·rw[bq (t:=w) (u:=.tuple (qi.map .str)) (by rw[bq rfl rfl];exact pF) rfl];exact yM Ka hw (by omega)
noncomputable def qk(p:b4)(t:T):Bool:=match t with
|.tuple [a,f,e,z]=>gp "code" a && (ha f && (if gu ["set","unset"] e=true then qn z else gu ["shunt","free"] e && gu (iu p) z))
|_=>false
def agM{p:b4}(aC:wg p){d:Nat}{t:T}(h:cR (d+1) t)(hd:d<=50):xP [bG p,t]=some (.bool (qk p t)):=by
 unfold xP bV Oz;show (seq _ _ [some (.ae (bG p)),some (.ae t)]).bind _=_;have ah:aw d6 [(az 1),(aa (.int 4)),(aa (.int 4))] [some (.ae (bG p)),some (.ae t)]=some (.bool (dp t 4 4)):=by
  simp only[aw,args,az,aa,gN,u5,bM,dt];exact lG h.g
 cases ag:dp t 4 4 with
|false=>
  rw[ag] at ah;rw[eJ (a:=true) (gk (a:=true) (b:=false) (eF (cH ah)) λz=>by cases z),if_pos rfl,hj (t:=.bool false) rfl];have:qk p t=false:=by
   unfold qk;split
   ·simp[dp] at ag
   ·rfl
  rw[this];rfl
|true=>
  obtain⟨a,f,e,z,rfl⟩:=Ri ag;have aA:=h.tup a (by simp);have hf:=h.tup f (by simp);have he:=h.tup e (by simp);have aI:=h.tup z (by simp);rw[ag] at ah;generalize jV:[some (bQ.ae (bG p)),some (.ae (.tuple [a,f,e,z]))]=ε at *;have bp:af aJ (nm 1) (aa (.int 0)) ε=some a:=by subst jV;rw[bq rfl rfl];exact fJ
  have aE:af aJ (nm 1) (aa (.int 1)) ε=some f:=by subst jV;rw[bq rfl rfl];exact iH
  have aK:af aJ (nm 1) (aa (.int 2)) ε=some e:=by subst jV;rw[bq rfl rfl];exact pF
  have c_:af aJ (nm 1) (aa (.int 3)) ε=some z:=by subst jV;rw[bq rfl rfl];exact z8
  have au:=gk (eF (cH ah)) λ_=>gk (cH (Ia bp aA mq (by omega))) λ_=>eF (cH (show aw tb [(af aJ (nm 1) (aa (.int 1)))] ε=some (.bool (ha f)) by rw[b5 aE];exact Ph hf.g));rw[eJ au];cases aD:(gp "code" a && ha f) with
  |false=>
   rw[if_pos (by
    rw[<- Bool.not_and,aD];rfl),hj (t:=.bool false) rfl]
   simp only[qk];rw[<- Bool.and_assoc,aD,Bool.false_and];rfl
  |true=>
   rw[if_neg (by
    rw[<- Bool.not_and,aD];simp)]
   have aB:af (gJ false) (af aJ (nm 1) (aa (.int 2))) (aa (.tuple (lI ["set","unset"]))) ε=some (.bool (gu ["set","unset"] e)):=by
    rw[bq (t:=e) (u:=.tuple ((["set","unset"]:List Str).map .str)) aK rfl];exact yM DI he (by omega)
   rw[eJ (cH aB)];simp only[qk];rw[<- Bool.and_assoc,aD,Bool.true_and];cases hi:gu ["set","unset"] e with
   |true=>
    rw[if_pos rfl,hj (Cq c_),if_pos rfl];rfl
   |false=>
    rw[if_neg (by simp),if_neg (by simp)];simp only[bh];rw[fO (a:=gu ["shunt","free"] e) (b:=gu (iu p) z) (by
     rw[bq (t:=e) (u:=.tuple ((["shunt","free"]:List Str).map .str)) aK rfl];exact yM DJ he (by omega)) λ_=>by
     rw[l4 (t:=bG p) (u:=z) (by subst jV;rfl) c_];exact P2 aC aI (by omega)]
    rfl
def posB(t:T):Bool:=match t with
|.int i=>decide (1<=i)
|_=>false
def tO(t:T):Bool:=match t with
|.tuple [a,n]=>gp "ticks" a && (qe n && posB n)
|_=>false
def aga{d:Nat}{t:T}(h:cR (d+1) t)(hd:d<=50):AX [t]=some (.bool (tO t)):=by
 refine ho ?_
 have ah:aw d6 [(az 0),(aa (.int 2)),(aa (.int 2))] [some (.ae t)]=some (.bool (dp t 2 2)):=by
  simp only[aw,args,az,aa,gN,bM,dt];exact lG h.g
 cases ag:dp t 2 2 with
|false=>
  rw[ag] at ah;refine (fO ah (b:=false) λz=>by cases z).trans ?_;have:tO t=false:=by
   unfold tO;split
   ·simp[dp] at ag
   ·rfl
  rw[this];rfl
|true=>
  obtain⟨a,n,rfl⟩:=KG ag;have aA:=h.tup a (by simp);have bf:=h.tup n (by simp);rw[ag] at ah;refine (fO ah λ_=>fO (k' (t:=a) (by rw[bq rfl rfl];exact fJ) aA qd (by omega)) λ_=>fO (a:=qe n) (b:=posB n) ?_ λhw=>?_).trans rfl
  ·rw[b5 (t:=n) (by rw[bq rfl rfl];exact iH)];exact P5 bf.g
  ·cases n with
   |int i=>
    rw[bq (t:=.int i) (u:=.int 1) (by rw[bq rfl rfl];exact iH) rfl];rfl
   |_=>simp[qe] at hw
def jE(p:b4)(t:T):Bool:=tY p t || (qk p t || tO t)
def PK{p:b4}(aC:wg p){d:Nat}{t:T}(h:cR (d+1) t)(hd:d<=50):nk [bG p,t]=some (.bool (jE p t)):=by
 refine ho ?_
 refine (KQ (a:=tY p t) (b:=qk p t || tO t) ?_ λ_=>KQ ?_ λ_=>?_).trans rfl
 ·rw[l4 (t:=bG p) (u:=t) rfl rfl];exact ahD aC h hd
 ·rw[l4 (t:=bG p) (u:=t) rfl rfl];exact agM aC h hd
 ·rw[b5 (t:=t) rfl];exact aga h hd
def J7{s:Str}{t:T}(h:gp s t=true):t=.str s:=by
 cases t with
|str x=>rw[of_decide_eq_true h]
|_=>simp[gp] at h
def Pc{t:T}(h:qn t=true):t=.none:=by
 cases t with
|none=>rfl
|_=>simp[qn] at h
def agG{p:b4}{t:T}(h:jE p t=true):∃e:dU,t=cu e/\match e with
  |.line z w=>z∈iu p/\w∈qi
  |.code f d z=>ha (.str f)=true/\((z=none/\d∈(["set","unset"]:List Str))\/∃x,z=some x/\x∈iu p/\d∈(["shunt","free"]:List Str))
  |.ef n=>1<=n:=by
 unfold jE at h;rw[Bool.or_eq_true,Bool.or_eq_true] at h;rcases h with h|h|h
 ·unfold tY at h;split at h
  next a z w=>
   simp only[cX] at h;obtain⟨ah,ao,aY⟩:=h;rw[J7 ah];obtain⟨x,rfl,hx⟩:=ro ao;obtain⟨y,rfl,b1⟩:=ro aY;exact⟨.line x y,rfl,hx,b1⟩
  next=>cases h
 ·unfold qk at h;split at h
  next a f e z=>
   simp only[cX] at h;obtain⟨ah,ao,aY⟩:=h;rw[J7 ah];obtain⟨y,rfl⟩:=Qj ao;split at aY
   next hi=>
    rw[Pc aY];obtain⟨x,rfl,hx⟩:=ro hi;exact⟨.code y x none,rfl,ao,.inl ⟨rfl,hx⟩⟩
   next=>
    rw[cX] at aY;obtain⟨x,rfl,hx⟩:=ro aY.1;obtain⟨bF,rfl,Ya⟩:=ro aY.2;exact⟨.code y x (some bF),rfl,ao,.inr ⟨bF,rfl,Ya,hx⟩⟩
  next=>cases h
 ·unfold tO at h;split at h
  next a n=>
   simp only[cX] at h;obtain⟨ah,ao,aY⟩:=h;rw[J7 ah];cases n with
   |int i=>exact⟨.ef i,rfl,of_decide_eq_true aY⟩
   |_=>simp[qe] at ao
  next=>cases h
end ei
end
section
namespace ei
open D bU PySem
def df:Int:=10 ^ 64
def Kb:0<df:=by decide +kernel
def akn:df<2 ^ 213:=by decide +kernel
def yF{ε:Ev}:af kQ (aa (.int 10)) (aa (.int 64)) ε=some (.int df):=by
 rw[bq rfl rfl];simp only[kQ];rw[if_pos (by decide)];rfl
def Q0{a:Int}(h0:0<=a)(h:a<df):Co a=true:=by
 unfold Co;refine decide_eq_true ?_;have ah:=akn;have ao:a.natAbs<2 ^ 213:=by
  have e:((2 ^ 213:Nat):Int)=2 ^ 213:=by norm_cast
  have:a<((2 ^ 213:Nat):Int):=by rw[e];exact Int.lt_trans h ah
  generalize 2 ^ 213=q at this ⊢;omega
 by_cases aI:a.natAbs=0
 ·rw[aI];decide
 ·have:=(Nat.log2_lt aI).mpr ao;omega
def dig(l:List Nat):Prop:=NumText.AllDigits l
def ai4{l:List Nat}(h:dig l):asc l:=λa aA=>by
 have:=h a aA;omega
def p_{a:Int}(h:0<=a):cP a=cP ((a.toNat:Nat):Int):=by rw[Int.toNat_of_nonneg h]
def vg{a:Int}(h:0<=a):dig (ls (cP a)):=by
 rw[p_ h];exact P6 _
def Jv{a:Int}(h0:0<=a)(h:a<df):(cP a).length<=64/\0<(cP a).length:=by
 rw[p_ h0,er,rj,dy];refine⟨(Nat.length_toDigits_le_iff (by decide) (by decide)).mpr ?_,Nat.length_toDigits_pos⟩;have:((a.toNat:Nat):Int)<((10 ^ 64:Nat):Int):=by
  rw[Int.toNat_of_nonneg h0];have e:((10 ^ 64:Nat):Int)=df:=by unfold df;norm_cast
  rw[e];exact h
 exact_mod_cast this
def af9{x:Str}(h:dig (ls x))(aH:x.length<=64):dig (ls (Txt.zfill x 64))/\(Txt.zfill x 64).length=64:=by
 unfold Txt.zfill;split
 next ah=>exact⟨h,by omega⟩
 next ah=>
  have e:zfilled x ((64:Int).toNat - x.length)=Builtin.Str.padded x ((64:Int).toNat - x.length) 0 48:=by
   unfold zfilled;split
   next ao=>
    have:=h 43 (by
     have:=Array.mem_of_getElem? ao;simpa [ls] using this)
    omega
   next ao=>
    have:=h 45 (by
     have:=Array.mem_of_getElem? ao;simpa [ls] using this)
    omega
   next=>rfl
  rw[e];unfold Builtin.Str.padded;constructor
  ·intro c au;simp only[ls,Array.toList_append,Array.toList_replicate,List.replicate_zero,ov,gz,List.mem_replicate] at au;rcases au with ⟨_,rfl⟩|au
   ·omega
   ·exact h c au
  ·simp only[Str.length,Array.size_append,Array.size_replicate];have:(64:Int).toNat=64:=rfl;rw[this];have aY:x.length=x.cps.size:=rfl;omega
def eR(l:List Nat):Nat:=NumText.digitsVal l
theorem JG:∀(l:List Nat) (a:Nat),l.foldl (λacc c=>acc*10+(c - 48)) a=a*10 ^ l.length+eR l
| [],a=>by simp[eR,NumText.digitsVal]
|c::l,a=>by
  have ah:=JG l (a*10+(c - 48));have ao:=JG l (0*10+(c - 48));have aY:eR (c::l)=l.foldl (λacc c=>acc*10+(c - 48)) (0*10+(c - 48)):=rfl;rw[List.foldl_cons,ah,aY,ao,fM,Nat.pow_succ];generalize 10 ^ l.length=q;generalize c - 48=r;generalize eR l=v;have aE:(a*10+r)*q=a*(q*10)+r*q:=by
   rw[Nat.add_mul,Nat.mul_assoc,Nat.mul_comm 10 q]
  have aK:(0*10+r)*q=r*q:=by simp
  omega
def yO(a b:List Nat):eR (a++b)=eR a*10 ^ b.length+eR b:=by
 show (a++b).foldl _ 0=_
 rw[List.foldl_append,JG];rfl
theorem KX:∀{l:List Nat},dig l->eR l<10 ^ l.length
| [],_=>by simp[eR,NumText.digitsVal]
|c::l,h=>by
  have ah:=KX (l:=l) λx hx=>h x (ew _ hx);have ao:=h c (by simp);have e:eR (c::l)=(c - 48)*10 ^ l.length+eR l:=by
   have:=yO [c] l;simpa [eR,NumText.digitsVal] using this
  rw[e,fM,Nat.pow_succ];have aY:c - 48<=9:=by omega
  have bZ:(c - 48)*10 ^ l.length<=9*10 ^ l.length:=Nat.mul_le_mul_right _ aY;omega
def BV(m:Nat):eR (ls (cP (m:Int)))=m:=by
 rw[rj];exact W.KIN.val_back m
def agb{m:Nat}(h:0<m):∃c r,ls (cP (m:Int))=c::r/\49<=c:=by
 have hd:=P6 m;have ba:=BV m;have jo:=NumText.toDigits_all _ hd;have sj:NumText.digitsVal (ls (cP (m:Int)))=m:=ba;rw[sj] at jo;have aH:=rj m;cases e:ls (cP (m:Int)) with
|nil=>
  rw[e] at ba;simp[eR,NumText.digitsVal] at ba;omega
|cons c r=>
  refine⟨c,r,rfl,?_⟩
  have au:=hd c (by rw[e];simp);by_cases aD:c=48
  ·exfalso
   subst aD;rw[e] at jo aH ba;have hlen:(48::r).length=(Nat.toDigits 10 m).length:=by rw[aH,dy]
   have uB:(List.dropWhile (λx=>x==48) (48::r)).length<=r.length:=by
    simp only[List.dropWhile_cons,beq_self_eq_true,if_true];exact (List.dropWhile_sublist _).length_le
   split at jo
   next aK=>
    rw[jo] at hlen;simp at hlen;subst hlen;simp[eR,NumText.digitsVal] at ba;omega
   next dz cF aK=>
    rw[jo,dy] at hlen;rw[aK] at uB;simp at hlen uB;omega
  ·omega
def akN{x:Str}{n:Nat}(hd:dig (ls x))(ba:eR (ls x)=n)(h:∃c r,ls x=c::r/\49<=c):x=cP (n:Int):=by
 apply qh;rw[rj,<- ba];obtain⟨c,r,e,au⟩:=h;have:=NumText.toDigits_digitsVal r.length (ls x) (by rw[e];rfl) hd (.inr ⟨c,r,e,au⟩);rw[show eR (ls x)=NumText.digitsVal (ls x) from rfl,this,dW]
 conv=>lhs;rw[<- List.map_id (ls x)]
 refine List.map_congr_left λa aA=>?_
 have:=hd a aA;show a=(Char.ofNat a).toNat;have ba:Nat.isValidChar a:=by
  left;omega
 rw[Char.ofNat,dif_pos ba];rfl
def ag1{x:Str}(h:dig (ls x))(aH:x.length<=64):eR (ls (Txt.zfill x 64))=eR (ls x):=by
 unfold Txt.zfill;split
 ·rfl
 next ah=>
  have e:zfilled x ((64:Int).toNat - x.length)=Builtin.Str.padded x ((64:Int).toNat - x.length) 0 48:=by
   unfold zfilled;split
   next ao=>
    have:=h 43 (by
     have:=Array.mem_of_getElem? ao;simpa [ls] using this)
    omega
   next ao=>
    have:=h 45 (by
     have:=Array.mem_of_getElem? ao;simpa [ls] using this)
    omega
   next=>rfl
  rw[e];unfold Builtin.Str.padded;simp only[ls,Array.toList_append,Array.toList_replicate,List.replicate_zero,ov];rw[yO];have:∀k:Nat,eR (dT k 48)=0:=by
   intro k
   induction k with
   |zero=>rfl
   |succ k d0=>
    rw[q7,show (48:Nat)::dT k 48=[48]++dT k 48 from rfl,yO,d0];simp[eR,NumText.digitsVal]
  rw[this];simp
def qz:ej:=a3 (af l2 (nm 1) (af kQ (aa (.int 10)) (aa (.int 64))))
noncomputable def rW:bx:=(seq (asg 2 (af aU (af tQ (aw jv [(af oMod (nm 1) (af kQ (aa (.int 10)) (aa (.int 64))))]) (aa (.int 64))) (nm 2))) (asg 1 (af rD (nm 1) (af kQ (aa (.int 10)) (aa (.int 64))))))
def ajh:y0 df=true:=by decide +kernel
def ahv:∀(m:Nat) (a:Int) (b:Str) (x:Option bQ),0<=a->a<df ^ (m+1)->dig (ls b)->b.length+64*m<=900000 ->
  ∃i1 f6,j' qz rW (m+1) [x,some (.ae (.int a)),some (.ae (.str b))]=some (.bg [x,some (.ae (.int i1)),some (.ae (.str f6))])/\0<=i1/\i1<df/\dig (ls f6)/\f6.length<=b.length+64*m/\((i1=a/\f6=b)\/1<=i1)/\i1.toNat*10 ^ f6.length+eR (ls f6)=a.toNat*10 ^ b.length+eR (ls b):=by
 intro m
 induction m with
|zero=>
  intro a b x h0 ah ag aH;have f':a<df:=by rw[show 0+1=1 from rfl,Int.pow_succ,Int.pow_zero,Int.one_mul] at ah;exact ah
  refine⟨a,b,?_,h0,f',ag,by omega,.inl ⟨rfl,rfl⟩,rfl⟩
  have e:qz [x,some (.ae (.int a)),some (.ae (.str b))]=some false:=by
   refine cH ?_
   rw[bq (t:=.int a) rfl yF];simp only[l2];rw[decide_eq_false (by omega)]
  simp only[j',e,bM,q8,if_false]
|succ m d0=>
  intro a b x h0 ah ag aH;by_cases hw:df<=a
  ·have e:qz [x,some (.ae (.int a)),some (.ae (.str b))]=some true:=by
    refine cH ?_
    rw[bq (t:=.int a) rfl yF];simp only[l2];rw[decide_eq_true hw]
   have aC:=Kb;have j3:0<=a % df:=ja _ (by omega);have bj:a % df<df:=lA _ aC;obtain⟨cV,cN⟩:=Jv j3 bj;obtain⟨g6,fb⟩:=af9 (vg j3) cV;have hm:af oMod (nm 1) (af kQ (aa (.int 10)) (aa (.int 64))) [x,some (.ae (.int a)),some (.ae (.str b))]=some (.int (a % df)):=by
    rw[bq (t:=.int a) rfl yF];simp only[oMod];rw[if_pos aC]
   have aB:aw jv [(af oMod (nm 1) (af kQ (aa (.int 10)) (aa (.int 64))))] [x,some (.ae (.int a)),some (.ae (.str b))]=some (.str (cP (a % df))):=by
    rw[b5 hm];simp only[jv];rw[if_pos (Q0 j3 bj)]
   have aI:af tQ (aw jv [(af oMod (nm 1) (af kQ (aa (.int 10)) (aa (.int 64))))]) (aa (.int 64)) [x,some (.ae (.int a)),some (.ae (.str b))]=some (.str (Txt.zfill (cP (a % df)) 64)):=by
    rw[bq aB rfl];simp only[tQ];rw[if_pos (by decide)]
   have aA:af aU (af tQ (aw jv [(af oMod (nm 1) (af kQ (aa (.int 10)) (aa (.int 64))))]) (aa (.int 64))) (nm 2) [x,some (.ae (.int a)),some (.ae (.str b))]=some (.str (Txt.zfill (cP (a % df)) 64++b)):=by
    rw[bq (u:=.str b) aI rfl];simp only[aU];rw[if_pos (by rw[fb];unfold big;omega)]
   have jT:rW [x,some (.ae (.int a)),some (.ae (.str b))]=some (.bg [x,some (.ae (.int (a / df))),some (.ae (.str (Txt.zfill (cP (a % df)) 64++b)))]):=by
    unfold rW seq asg;rw[aA];simp only[dt,bM,ip,hZ];rw[bq (t:=.int a) rfl yF];simp only[rD];rw[if_pos ajh];rfl
   have hd:dig (ls (Txt.zfill (cP (a % df)) 64++b)):=by
    rw[hl];intro c au;rcases gz.mp au with q|q
    ·exact g6 c q
    ·exact ag c q
   have hlen:(Txt.zfill (cP (a % df)) 64++b).length=64+b.length:=by
    rw[er,hl,iq,<- er,<- er,fb]
   have aD:a / df<df ^ (m+1):=Int.ediv_lt_of_lt_mul aC (by rw[<- Int.pow_succ];exact ah);obtain⟨i1,f6,aE,aK,c_,gG,jM,iG,nY⟩:=d0 (a / df) (Txt.zfill (cP (a % df)) 64++b) x (Int.ediv_nonneg h0 (by omega)) aD hd (by rw[hlen];omega);refine⟨i1,f6,?_,aK,c_,gG,by rw[hlen] at jM;omega,.inr ?_,?_⟩
   rotate_left
   ·have WY:1<=a / df:=(Int.le_ediv_iff_mul_le aC).mpr (by omega);rcases iG with ⟨rfl,_⟩|iG
    ·exact WY
    ·exact iG
   ·rw[nY,hlen,hl,yO,<- er];have pe:eR (ls (Txt.zfill (cP (a % df)) 64))=(a % df).toNat:=by
     rw[ag1 (vg j3) cV,p_ j3,BV]
    rw[pe];have Xm:=Int.emod_add_mul_ediv a df;have qD:a.toNat=(a % df).toNat+10 ^ 64*(a / df).toNat:=by
     have WZ:df=((10 ^ 64:Nat):Int):=by unfold df;norm_cast
     have XT:0<=a / df:=Int.ediv_nonneg h0 (by omega);have:(a.toNat:Int)=(((a % df).toNat+10 ^ 64*(a / df).toNat:Nat):Int):=by
      rw[Int.toNat_of_nonneg h0,Int.natCast_add,Int.natCast_mul,Int.toNat_of_nonneg j3,Int.toNat_of_nonneg XT,<- WZ];exact Xm.symm
     exact_mod_cast this
    rw[qD,Nat.pow_add];generalize 10 ^ b.length=q;generalize (a / df).toNat=u;generalize (a % df).toNat=v;generalize eR (ls b)=w;generalize (10:Nat) ^ 64=z;rw[Nat.add_mul,Nat.mul_comm z u,Nat.mul_assoc];omega
   rw[j'];simp only[e,bM,if_true,jT,aE]
  ·have e:qz [x,some (.ae (.int a)),some (.ae (.str b))]=some false:=by
    refine cH ?_
    rw[bq (t:=.int a) rfl yF];simp only[l2];rw[decide_eq_false (by omega)]
   refine⟨a,b,?_,h0,by omega,ag,by omega,.inl ⟨rfl,rfl⟩,rfl⟩
   rw[j'];simp only[e,bM,q8,if_false]
def QZ{a:Int}(h0:0<=a)(h:a<df ^ 1000):ir [.int a]=some (.str (cP a)):=by
 unfold ir bV OI;obtain⟨i1,f6,aE,aK,c_,gG,jM,nY,qD⟩:=ahv 999 a ⟨#[]⟩ (some (.ae (.int a))) h0 h (λc au=>by simp[ls] at au) (by show 0+64*999<=900000;omega);obtain⟨cV,cN⟩:=Jv aK c_;have alg:f6.length<=63936:=by
  have:(⟨#[]⟩:Str).length=0:=rfl;omega
 have ex:cP i1++f6=cP a:=by
  rcases nY with ⟨ea,hs⟩|aC
  ·subst ea hs;exact qh (by rw[hl];exact ov _)
  ·have qE:a.toNat=i1.toNat*10 ^ f6.length+eR (ls f6):=by
    rw[qD];show _=a.toNat*10 ^ 0+0;omega
   rw[p_ h0];refine akN ?_ ?_ ?_
   ·rw[hl];intro c au;rcases gz.mp au with q|q
    ·exact vg aK c q
    ·exact gG c q
   ·rw[hl,yO,p_ aK,BV,<- er];exact qE.symm
   ·obtain⟨c,r,e,au⟩:=agb (m:=i1.toNat) (by omega);rw[hl,p_ aK,e];exact⟨c,_,rfl,au⟩
 have iG:af aU (aw jv [(nm 1)]) (nm 2) [some (.ae (.int a)),some (.ae (.int i1)),some (.ae (.str f6))]=some (.str (cP a)):=by
  rw[bq (t:=.str (cP i1)) (u:=.str f6) (by rw[b5 (t:=.int i1) rfl];simp only[jv];rw[if_pos (Q0 aK c_)]) rfl];simp only[aU];rw[if_pos (by unfold big;omega),ex]
 show ((asg 1 (az 0) [some (.ae (.int a)),none,none]).bind _).bind _=_
 rw[show asg 1 (az 0) [some (.ae (.int a)),none,none]=some (.bg [some (.ae (.int a)),some (.ae (.int a)),none]) from rfl];simp only[bM];show (seq (asg 2 (aa (.str ""))) (seq (j' qz rW 1000) (bh (af aU (aw jv [(nm 1)]) (nm 2)))) [some (.ae (.int a)),some (.ae (.int a)),none]).bind _=_;rw[show seq (asg 2 (aa (.str ""))) (seq (j' qz rW 1000) (bh (af aU (aw jv [(nm 1)]) (nm 2)))) [some (.ae (.int a)),some (.ae (.int a)),none]=seq (j' qz rW 1000) (bh (af aU (aw jv [(nm 1)]) (nm 2))) [some (.ae (.int a)),some (.ae (.int a)),some (.ae (.str ⟨#[]⟩))] from rfl];rw[show seq (j' qz rW 1000) (bh (af aU (aw jv [(nm 1)]) (nm 2))) [some (.ae (.int a)),some (.ae (.int a)),some (.ae (.str ⟨#[]⟩))]=bh (af aU (aw jv [(nm 1)]) (nm 2)) [some (.ae (.int a)),some (.ae (.int i1)),some (.ae (.str f6))] by simp only[seq,aE,bM]];simp only[bh,iG];rfl
end ei
end
section
namespace cy
open D
noncomputable def Jh:bx:=
  (bh (aw dS [(aw I2 [(comp 1 [] (fc (af aJ (nm 0) (aa (.int 1)))) (a8 0) (a3 (dQ jG (af aJ (nm 0) (aa (.int 2))))) (af aJ (nm 0) (aa (.int 2))))])]))
def Pk:List T->Option T:=bV Jh 1
def td:bx:=
  (seq (iff (a3 (af oLt (nm 1) (aw eC [(nm 0)]))) (bh (af aJ (nm 0) (nm 1))) skip) (bh (aa (.int 0))))
def lD:List T->Option T:=bV td 2
noncomputable def tq:bx:=
  (seq (asg 2 (af oMod (af dw (af aU (af aU (aw lD [(az 0),(az 1)]) (af dw (aa (.int 7919)) (nm 1))) (aa (.int 1))) (aa (.int 48271))) (aa (.int 2147483647)))) (bh (af oMod (af aU (af aU (af dw (nm 2) (nm 2)) (af dw (aa (.int 7)) (nm 2))) (nm 1)) (aa (.int 2147483629)))))
def kg:List T->Option T:=bV tq 3
noncomputable def al9:bx:=
  (seq (asg 2 (af oMod (af dw (af aU (af aU (nm 0) (af dw (aa (.int 104729)) (nm 1))) (aa (.int 17))) (aa (.int 69621))) (aa (.int 2147483647)))) (bh (af oMod (af aU (af aU (af dw (nm 2) (nm 2)) (af dw (aa (.int 3)) (nm 2))) (nm 1)) (aa (.int 2147483629)))))
def g5:List T->Option T:=bV al9 3
noncomputable def yl:bx:=
  (seq (asg 1 (af aU (aa (.int 1)) (af oMod (nm 0) (aa (.int 7))))) (seq (asg 2 (br [])) (seq (gR (hM (af oMod (af oDiv (nm 0) (aa (.int 8))) (aa (.int 11)))) (a8 3) (seq (asg 4 (af oDiv (aw g5 [(az 0),(af aU (aa (.int 50)) (nm 3))]) (aa (.int 4)))) (seq (asg 5 (af oMod (nm 4) (af aU (nm 1) (aa (.int 1))))) (seq (asg 6 (af oMod (af aU (af aU (nm 5) (aa (.int 1))) (af oMod (af oDiv (nm 4) (aa (.int 8))) (nm 1))) (af aU (nm 1) (aa (.int 1))))) (seq (asg 7 (af aJ (br [(aa .none),(aa .none),(aa (.str "a")),(aa (.str "b")),(aa (.str "back")),(aa (.str "hall")),(aa (.str "win"))]) (af oMod (af oDiv (nm 4) (aa (.int 64))) (aa (.int 7))))) (asg 2 (af aU (nm 2) (br [(br [(aw mY [(nm 5),(nm 6)]),(aw mX [(nm 5),(nm 6)]),(az 7)])])))))))) (bh (br [(az 1),(az 2)])))))
def qB:List T->Option T:=bV yl 8
end cy
end
section
namespace S8
def Tw(e:Int×Int)(x:Int):Option Int:=if e.1=x then some e.2 else if e.2=x then some e.1 else none
def Within(R:Int)(E:List (Int×Int)):Prop:=∀e∈E,0<=e.1/\e.1<=R/\0<=e.2/\e.2<=R
noncomputable def inner(h:Int):List (Int×Int)->List Int->List Int->List Int×List Int
| [],r,w=>(r,w)
|e::ar,r,w=>match Tw e h with
  |some t=>if t∈r then inner h ar r w else inner h ar (r++[t]) (w++[t])
  |none=>inner h ar r w
end S8
end
section
namespace cy
open PySem D
abbrev Op:=Int×Int×Option Str
def iz:Option Str->T
|none=>.none
|some x=>.str x
def gd(o:Op):T:=.tuple [.int o.1,.int o.2.1,iz o.2.2]
def e2(R:Int)(os:List Op):T:=.tuple [.int R,.tuple (os.map gd)]
def free(ns:List Str)(o:Op):Bool:=match o.2.2 with
|none=>true
|some x=>decide (x∈ns)
def l1(a b:Int):oEq (.int a) (.int b)=some (.bool (decide (a=b))):=by
 simp[oEq,JW,kL,Bool.beq_eq_decide_eq]
def cG{a b:bx}{ε ε':Ev}(h:a ε=some (.bg ε')):seq a b ε=b ε':=by
 simp only[seq,h,bM]
theorem Jd:∀(os:List Op) (j:Option bQ),fm (a8 0) (a3 (dQ jG (af aJ (nm 0) (aa (.int 2))))) (af aJ (nm 0) (aa (.int 2))) (os.map gd) [j]=some ((os.filterMap (·.2.2)).map .str)
  | [],j=>rfl
  | (a,b,none)::os,j=>by
    have d0:=Jd os (some (.ae (gd (a,b,none))));simp[fm,bV,seq,iff,a3,i9,e6,dB,dq,ct,ofT,dQ,af,aw,args,aa,nm,az,bh,skip,asg,h8,kZ,par,br,eh,gX,jG,aJ,eP,fv,a8,eH,gH,fc,comp,hn,gd,iz] at d0 ⊢;exact d0
  | (a,b,some x)::os,j=>by
    have d0:=Jd os (some (.ae (gd (a,b,some x))));simp[fm,bV,seq,iff,a3,i9,e6,dB,dq,ct,ofT,dQ,af,aw,args,aa,nm,az,bh,skip,asg,h8,kZ,par,br,eh,gX,jG,aJ,eP,fv,a8,eH,gH,fc,comp,hn,gd,iz] at d0 ⊢;exact d0
def Kd(os:List Op):List Str:=Cf (dedup (os.filterMap (·.2.2)))
def afn:∀(ss:List Str),ss≠[]->intsOf (ss.map .str)=none
| [],h=>absurd rfl h
|x::r,_=>rfl
theorem OR:∀(ss:List Str),strsOf (ss.map .str)=some ss
| []=>rfl
|x::r=>by
  simp only[eI,strsOf,OR r];rfl
def P1{R:Int}{os:List Op}(aH:os.length<=10):Pk [e2 R os]=some (.tuple ((Kd os).map .str)):=by
 have hit:fc (af aJ (nm 0) (aa (.int 1))) [some (.ae (e2 R os))]=some (os.map gd):=by
  simp[fc,af,nm,e2,aJ,aa,eP,fv]
 have FV:hn 1 [] [some (.ae (e2 R os))]=[none]:=rfl;have au:comp 1 [] (fc (af aJ (nm 0) (aa (.int 1)))) (a8 0) (a3 (dQ jG (af aJ (nm 0) (aa (.int 2))))) (af aJ (nm 0) (aa (.int 2))) [some (.ae (e2 R os))]=some (.list ((os.filterMap (·.2.2)).map .str)):=by
  simp only[comp,hit,bM,FV,Jd,dy];rw[if_pos (by unfold big;omega)];rfl
 have aI:(os.filterMap (·.2.2)).length<64:=Nat.lt_of_le_of_lt (List.length_filterMap_le _ _) (by omega);have aB:I2 [.list ((os.filterMap (·.2.2)).map .str)]=some (.list ((Kd os).map .str)):=by
  unfold I2;simp only[dy];rw[if_pos aI];by_cases he:os.filterMap (·.2.2)=[]
  ·simp only[Kd,he];rfl
  ·rw[afn _ he,OR];rfl
 have bp:Pk [e2 R os]=(Jh [some (.ae (e2 R os))]).bind λo=>match o with|.ee t=>some t|.bg _=>some .none|_=>none:=rfl
 rw[bp];simp only[Jh,bh,aw,args,au,bM,dt,aB,dS]
end cy
end
section
namespace cy
open PySem D
end cy
end
section
namespace cy
open PySem D
def c7(ns:List Int):T:=.list (ns.map .int)
def J8(ns:List Int)(k:Nat):lD [c7 ns,.int k]=some (.int (ns.getD k 0)):=by
 by_cases h:k<ns.length
 ·have h':(k:Int)<(ns.length:Int):=by omega
  simp[lD,td,c7,bV,seq,iff,a3,i9,e6,dB,dq,ct,ofT,dQ,af,aw,args,aa,nm,az,bh,skip,asg,h8,kZ,par,br,eh,gX,jG,aJ,eP,fv,a8,eH,gH,fc,comp,hn,aU,oi,dw,oDiv,oMod,og,eC,mY,mX,dS,Cn,Ak,oLt,oLe,iJ,l2,big,h,h',List.getD]
 ·have h':¬(k:Int)<(ns.length:Int):=by omega
  simp[lD,td,c7,bV,seq,iff,a3,i9,e6,dB,dq,ct,ofT,dQ,af,aw,args,aa,nm,az,bh,skip,asg,h8,kZ,par,br,eh,gX,jG,aJ,eP,fv,a8,eH,gH,fc,comp,hn,aU,oi,dw,oDiv,oMod,og,eC,mY,mX,dS,Cn,Ak,oLt,oLe,iJ,l2,big,h,h',List.getD]
def jt{i j:Int}(h:-(2 ^ 64)<j/\j<2 ^ 64):dw (.int i) (.int j)=some (.int (i*j)):=by
 unfold dw vW;simp only[decide_eq_true h.1,decide_eq_true h.2,Bool.and_self,Bool.or_true,if_true]
def i6{i j:Int}(h:0<j):oMod (.int i) (.int j)=some (.int (i % j)):=if_pos h
def vM{i j:Int}(h:0<j/\j<1073741824):oDiv (.int i) (.int j)=some (.int (i / j)):=if_pos h
def hN{i j:Int}:aU (.int i) (.int j)=some (.int (i+j)):=rfl
def uP(ns:List Int)(k:Nat):∃m:Int,0<=m/\kg [c7 ns,.int k]=some (.int m):=by
 have au:=J8 ns k;have hd:0<=(ns.getD k 0+7919*(k:Int)+1)*48271 % 2147483647/\(ns.getD k 0+7919*(k:Int)+1)*48271 % 2147483647<2147483647:=⟨ja _ (by decide),lA _ (by decide)⟩;generalize hx:(ns.getD k 0+7919*(k:Int)+1)*48271 % 2147483647=d at hd;refine⟨(d*d+7*d+k) % 2147483629,ja _ (by decide),?_⟩;have bp:kg [c7 ns,.int k]=(tq [some (.ae (c7 ns)),some (.ae (.int k)),none]).bind λo=>match o with|.ee t=>some t|.bg _=>some .none|_=>none:=rfl
 have hD:dw (.int 7919) (.int k)=some (.int (7919*k)):=by
  unfold dw vW;simp
 have alX:az 0 [some (.ae (c7 ns)),some (.ae (.int k)),none]=some (c7 ns):=rfl;have fj:az 1 [some (.ae (c7 ns)),some (.ae (.int k)),none]=some (.int k):=rfl;have HZ:nm 1 [some (.ae (c7 ns)),some (.ae (.int k)),none]=some (.int k):=rfl;have s1:asg 2 (af oMod (af dw (af aU (af aU (aw lD [(az 0),(az 1)]) (af dw (aa (.int 7919)) (nm 1))) (aa (.int 1))) (aa (.int 48271))) (aa (.int 2147483647))) [some (.ae (c7 ns)),some (.ae (.int k)),none]=some (.bg [some (.ae (c7 ns)),some (.ae (.int k)),some (.ae (.int d))]):=by
  simp only[asg,af,aw,args,alX,fj,HZ,bM,dt,au,aa,hD,hN,jt (i:=ns.getD k 0+7919*(k:Int)+1) (j:=48271) (by decide),i6 (j:=2147483647) (by decide),hx];rfl
 have hE:dw (.int d) (.int d)=some (.int (d*d)):=jt (by omega);have js:dw (.int 7) (.int d)=some (.int (7*d)):=jt (by omega);rw[bp];unfold tq;rw[cG s1];have bO:nm 2 [some (.ae (c7 ns)),some (.ae (.int k)),some (.ae (.int d))]=some (.int d):=rfl;have a4:nm 1 [some (.ae (c7 ns)),some (.ae (.int k)),some (.ae (.int d))]=some (.int k):=rfl;simp only[bh,af,bO,a4,bM,dt,aa,hE,js,hN,i6 (j:=2147483629) (by decide)]
def vp(n k:Int)(a0:-(2 ^ 64)<k/\k<2 ^ 64):∃m:Int,0<=m/\g5 [.int n,.int k]=some (.int m):=by
 have hd:0<=(n+104729*k+17)*69621 % 2147483647/\(n+104729*k+17)*69621 % 2147483647<2147483647:=⟨ja _ (by decide),lA _ (by decide)⟩;generalize hx:(n+104729*k+17)*69621 % 2147483647=d at hd;refine⟨(d*d+3*d+k) % 2147483629,ja _ (by decide),?_⟩;have bp:g5 [.int n,.int k]=(al9 [some (.ae (.int n)),some (.ae (.int k)),none]).bind λo=>match o with|.ee t=>some t|.bg _=>some .none|_=>none:=rfl
 have hD:dw (.int 104729) (.int k)=some (.int (104729*k)):=jt a0;have alX:nm 0 [some (.ae (.int n)),some (.ae (.int k)),none]=some (.int n):=rfl;have fj:nm 1 [some (.ae (.int n)),some (.ae (.int k)),none]=some (.int k):=rfl;have s1:asg 2 (af oMod (af dw (af aU (af aU (nm 0) (af dw (aa (.int 104729)) (nm 1))) (aa (.int 17))) (aa (.int 69621))) (aa (.int 2147483647))) [some (.ae (.int n)),some (.ae (.int k)),none]=some (.bg [some (.ae (.int n)),some (.ae (.int k)),some (.ae (.int d))]):=by
  simp only[asg,af,alX,fj,bM,dt,aa,hD,hN,jt (i:=n+104729*k+17) (j:=69621) (by decide),i6 (j:=2147483647) (by decide),hx];rfl
 have hE:dw (.int d) (.int d)=some (.int (d*d)):=jt (by omega);have js:dw (.int 3) (.int d)=some (.int (3*d)):=jt (by omega);rw[bp];unfold al9;rw[cG s1];have bO:nm 2 [some (.ae (.int n)),some (.ae (.int k)),some (.ae (.int d))]=some (.int d):=rfl;have a4:nm 1 [some (.ae (.int n)),some (.ae (.int k)),some (.ae (.int d))]=some (.int k):=rfl;simp only[bh,af,bO,a4,bM,dt,aa,hE,js,hN,i6 (j:=2147483629) (by decide)]
def names5:List Str:=["a","b","back","hall","win"]
def zf(R:Int)(o:Op):Prop:=0<=o.1/\o.1<o.2.1/\o.2.1<=R/\∀x,o.2.2=some x->x∈names5
structure Drawn(R:Int)(os:List Op):Prop where
 bj:1<=R
 sI:R<=7
 len:os.length<=10
 ok:∀o∈os,zf R o
noncomputable def wC:bx:=(seq (asg 4 (af oDiv (aw g5 [(az 0),(af aU (aa (.int 50)) (nm 3))]) (aa (.int 4)))) (seq (asg 5 (af oMod (nm 4) (af aU (nm 1) (aa (.int 1))))) (seq (asg 6 (af oMod (af aU (af aU (nm 5) (aa (.int 1))) (af oMod (af oDiv (nm 4) (aa (.int 8))) (nm 1))) (af aU (nm 1) (aa (.int 1))))) (seq (asg 7 (af aJ (br [(aa .none),(aa .none),(aa (.str "a")),(aa (.str "b")),(aa (.str "back")),(aa (.str "hall")),(aa (.str "win"))]) (af oMod (af oDiv (nm 4) (aa (.int 64))) (aa (.int 7))))) (asg 2 (af aU (nm 2) (br [(br [(aw mY [(nm 5),(nm 6)]),(aw mX [(nm 5),(nm 6)]),(az 7)])])))))))
def ed(n R:Int)(os:List Op)(pG jr iI gV fw:Option bQ):Ev:=[some (.ae (.int n)),some (.ae (.int R)),some (.ae (.tuple (os.map gd))),pG,jr,iI,gV,fw]
def ah9(i:Int)(h0:0<=i)(qI:i<7)(ε:Ev):∃z:Option Str,(br [(aa .none),(aa .none),(aa (.str "a")),(aa (.str "b")),(aa (.str "back")),(aa (.str "hall")),(aa (.str "win"))] ε).bind (λt=>aJ t (.int i))=some (iz z)/\∀x,z=some x->x∈names5:=by
 have au:i=0\/i=1\/i=2\/i=3\/i=4\/i=5\/i=6:=by omega
 have e:br [(aa .none),(aa .none),(aa (.str "a")),(aa (.str "b")),(aa (.str "back")),(aa (.str "hall")),(aa (.str "win"))] ε=some (.tuple [.none,.none,.str "a",.str "b",.str "back",.str "hall",.str "win"]):=by
  simp[br,args,aa,big]
 rw[e];rcases au with rfl|rfl|rfl|rfl|rfl|rfl|rfl
 ·exact⟨none,rfl,λx h=>by cases h⟩
 ·exact⟨none,rfl,λx h=>by cases h⟩
 ·exact⟨some "a",rfl,λx h=>by cases h;simp[names5]⟩
 ·exact⟨some "b",rfl,λx h=>by cases h;simp[names5]⟩
 ·exact⟨some "back",rfl,λx h=>by cases h;simp[names5]⟩
 ·exact⟨some "hall",rfl,λx h=>by cases h;simp[names5]⟩
 ·exact⟨some "win",rfl,λx h=>by cases h;simp[names5]⟩
def afZ(n R:Int)(ah:1<=R)(qI:R<=7)(os:List Op)(aH:os.length<1000)(k:Int)(a0:0<=k/\k<1000)(jr iI gV fw:Option bQ):
  ∃o Gr Gs Gu Gv,zf R o/\wC (ed n R os (some (.ae (.int k))) jr iI gV fw)=some (.bg (ed n R (os++[o]) (some (.ae (.int k))) Gr Gs Gu Gv)):=by
 obtain⟨m,hm,hd⟩:=vp n (50+k) (by omega);have q0:0<=m / 4:=Int.ediv_nonneg hm (by decide);generalize aD:m / 4=q at q0;have s1:asg 4 (af oDiv (aw g5 [(az 0),(af aU (aa (.int 50)) (nm 3))]) (aa (.int 4))) (ed n R os (some (.ae (.int k))) jr iI gV fw)=some (.bg (ed n R os (some (.ae (.int k))) (some (.ae (.int q))) iI gV fw)):=by
  have alX:az 0 (ed n R os (some (.ae (.int k))) jr iI gV fw)=some (.int n):=rfl;have oe:nm 3 (ed n R os (some (.ae (.int k))) jr iI gV fw)=some (.int k):=rfl;simp only[asg,af,aw,args,alX,oe,aa,hN,bM,dt,hd,vM (j:=4) (by decide),aD];rfl
 have alC:0<=q % (R+1)/\q % (R+1)<R+1:=⟨ja _ (by omega),lA _ (by omega)⟩;have alE:0<=q / 8 % R/\q / 8 % R<R:=⟨ja _ (by omega),lA _ (by omega)⟩;have alB:(q % (R+1)+1+q / 8 % R) % (R+1)≠q % (R+1):=by
  generalize q % (R+1)=a at *;generalize q / 8 % R=b at *;intro e;by_cases c:a+1+b<R+1
  ·rw[Int.emod_eq_of_lt (by omega) c] at e;omega
  ·have:(a+1+b) % (R+1)=a+1+b - (R+1):=by
    rw[<- Int.sub_emod_right,Int.emod_eq_of_lt (by omega) (by omega)]
   omega
 have alD:0<=(q % (R+1)+1+q / 8 % R) % (R+1)/\(q % (R+1)+1+q / 8 % R) % (R+1)<R+1:=⟨ja _ (by omega),lA _ (by omega)⟩;have s2:asg 5 (af oMod (nm 4) (af aU (nm 1) (aa (.int 1)))) (ed n R os (some (.ae (.int k))) (some (.ae (.int q))) iI gV fw)=some (.bg (ed n R os (some (.ae (.int k))) (some (.ae (.int q))) (some (.ae (.int (q % (R+1))))) gV fw)):=by
  have hU:nm 4 (ed n R os (some (.ae (.int k))) (some (.ae (.int q))) iI gV fw)=some (.int q):=rfl;have fj:nm 1 (ed n R os (some (.ae (.int k))) (some (.ae (.int q))) iI gV fw)=some (.int R):=rfl;simp only[asg,af,hU,fj,aa,hN,bM,dt,i6 (j:=R+1) (by omega)];rfl
 generalize q % (R+1)=one at *;have s3:asg 6 (af oMod (af aU (af aU (nm 5) (aa (.int 1))) (af oMod (af oDiv (nm 4) (aa (.int 8))) (nm 1))) (af aU (nm 1) (aa (.int 1)))) (ed n R os (some (.ae (.int k))) (some (.ae (.int q))) (some (.ae (.int one))) gV fw)=some (.bg (ed n R os (some (.ae (.int k))) (some (.ae (.int q))) (some (.ae (.int one))) (some (.ae (.int ((one+1+q / 8 % R) % (R+1))))) fw)):=by
  have H2:nm 5 (ed n R os (some (.ae (.int k))) (some (.ae (.int q))) (some (.ae (.int one))) gV fw)=some (.int one):=rfl;have hU:nm 4 (ed n R os (some (.ae (.int k))) (some (.ae (.int q))) (some (.ae (.int one))) gV fw)=some (.int q):=rfl;have fj:nm 1 (ed n R os (some (.ae (.int k))) (some (.ae (.int q))) (some (.ae (.int one))) gV fw)=some (.int R):=rfl;simp only[asg,af,H2,hU,fj,aa,hN,bM,dt,vM (j:=8) (by decide),i6 (j:=R) (by omega),i6 (j:=R+1) (by omega)];rfl
 generalize (one+1+q / 8 % R) % (R+1)=hc at *;obtain⟨z,aI,Gi⟩:=ah9 (q / 64 % 7) (ja _ (by decide)) (lA _ (by decide)) (ed n R os (some (.ae (.int k))) (some (.ae (.int q))) (some (.ae (.int one))) (some (.ae (.int hc))) fw);have s4:asg 7 (af aJ (br [(aa .none),(aa .none),(aa (.str "a")),(aa (.str "b")),(aa (.str "back")),(aa (.str "hall")),(aa (.str "win"))]) (af oMod (af oDiv (nm 4) (aa (.int 64))) (aa (.int 7)))) (ed n R os (some (.ae (.int k))) (some (.ae (.int q))) (some (.ae (.int one))) (some (.ae (.int hc))) fw)=some (.bg (ed n R os (some (.ae (.int k))) (some (.ae (.int q))) (some (.ae (.int one))) (some (.ae (.int hc))) (some (.ae (iz z))))):=by
  have hU:nm 4 (ed n R os (some (.ae (.int k))) (some (.ae (.int q))) (some (.ae (.int one))) (some (.ae (.int hc))) fw)=some (.int q):=rfl;have hi:af oMod (af oDiv (nm 4) (aa (.int 64))) (aa (.int 7)) (ed n R os (some (.ae (.int k))) (some (.ae (.int q))) (some (.ae (.int one))) (some (.ae (.int hc))) fw)=some (.int (q / 64 % 7)):=by
   simp only[af,hU,aa,bM,vM (j:=64) (by decide),i6 (j:=7) (by decide)]
  have c4:af aJ (br [(aa .none),(aa .none),(aa (.str "a")),(aa (.str "b")),(aa (.str "back")),(aa (.str "hall")),(aa (.str "win"))]) (af oMod (af oDiv (nm 4) (aa (.int 64))) (aa (.int 7))) (ed n R os (some (.ae (.int k))) (some (.ae (.int q))) (some (.ae (.int one))) (some (.ae (.int hc))) fw)=some (iz z):=by
   rw[<- aI];unfold af at hi ⊢;simp only[hi,bM]
  simp only[asg,c4,dt];rfl
 refine⟨((if hc<one then hc else one),(if hc > one then hc else one),z),some (.ae (.int q)),some (.ae (.int one)),some (.ae (.int hc)),some (.ae (iz z)),⟨?_,?_,?_,Gi⟩,?_⟩
 ·dsimp only;split <;> omega
 ·dsimp only;split <;> split <;> omega
 ·dsimp only;split <;> omega
 ·have s5:asg 2 (af aU (nm 2) (br [(br [(aw mY [(nm 5),(nm 6)]),(aw mX [(nm 5),(nm 6)]),(az 7)])])) (ed n R os (some (.ae (.int k))) (some (.ae (.int q))) (some (.ae (.int one))) (some (.ae (.int hc))) (some (.ae (iz z))))=some (.bg (ed n R (os++[((if hc<one then hc else one),(if hc > one then hc else one),z)]) (some (.ae (.int k))) (some (.ae (.int q))) (some (.ae (.int one))) (some (.ae (.int hc))) (some (.ae (iz z))))):=by
   have H2:nm 5 (ed n R os (some (.ae (.int k))) (some (.ae (.int q))) (some (.ae (.int one))) (some (.ae (.int hc))) (some (.ae (iz z))))=some (.int one):=rfl;have Zy:nm 6 (ed n R os (some (.ae (.int k))) (some (.ae (.int q))) (some (.ae (.int one))) (some (.ae (.int hc))) (some (.ae (iz z))))=some (.int hc):=rfl;have sv:az 7 (ed n R os (some (.ae (.int k))) (some (.ae (.int q))) (some (.ae (.int one))) (some (.ae (.int hc))) (some (.ae (iz z))))=some (iz z):=rfl;have fK:nm 2 (ed n R os (some (.ae (.int k))) (some (.ae (.int q))) (some (.ae (.int one))) (some (.ae (.int hc))) (some (.ae (iz z))))=some (.tuple (os.map gd)):=rfl;have ag:(os.map gd).length+1<=16777216:=by simp;omega
   simp only[asg,af,aw,br,args,H2,Zy,sv,fK,bM,dt,mY,mX,aU,fM,List.length_nil,big];simp[ag,ed,gd];omega
  unfold wC;rw[cG s1,cG s2,cG s3,cG s4,s5]
theorem Pf(n R:Int)(ah:1<=R)(qI:R<=7):∀(dV:List Int) (os:List Op) (pG jr iI gV fw:Option bQ),(∀k∈dV,0<=k/\k<1000)->os.length+dV.length<1000->(∀o∈os,zf R o) ->
  ∃lj Ys Gr Gs Gu Gv,lj.length=os.length+dV.length/\(∀o∈lj,zf R o)/\forL (a8 3) wC (dV.map .int) (ed n R os pG jr iI gV fw)=some (.bg (ed n R lj Ys Gr Gs Gu Gv))
| [],os,pG,jr,iI,gV,fw,_,_,aT=>⟨os,pG,jr,iI,gV,fw,rfl,aT,rfl⟩
|k::dV,os,pG,jr,iI,gV,fw,a0,aH,aT=>by
  simp only[fM] at aH;obtain⟨o,al4,wm,wo,wq,oo,aB⟩:=afZ n R ah qI os (by omega) k (a0 k (by simp)) jr iI gV fw;obtain⟨lj,ek,k4,o6,mE,DM,aE,aK,c_⟩:=Pf n R ah qI dV (os++[o]) (some (.ae (.int k))) al4 wm wo wq (λie h=>a0 ie (by simp[h])) (by simp;omega) λo' h=>by
   rcases gz.mp h with q|q
   ·exact aT o' q
   ·simp at q;subst q;exact oo
  refine⟨lj,ek,k4,o6,mE,DM,by rw[aE];simp;omega,aK,?_⟩
  have bp:a8 3 (.int k) (ed n R os pG jr iI gV fw)=some (ed n R os (some (.ae (.int k))) jr iI gV fw):=rfl;simp only[eI,forL,bp,bM,aB,c_]
def XQ(n:Int)(bf:0<=n):∃R os,Drawn R os/\qB [.int n]=some (e2 R os):=by
 have hS:0<=n % 7/\n % 7<7:=⟨ja _ (by decide),lA _ (by decide)⟩;have dA:0<=n / 8 % 11/\n / 8 % 11<11:=⟨ja _ (by decide),lA _ (by decide)⟩;have s1:asg 1 (af aU (aa (.int 1)) (af oMod (nm 0) (aa (.int 7)))) [some (.ae (.int n)),none,none,none,none,none,none,none]=some (.bg [some (.ae (.int n)),some (.ae (.int (1+n % 7))),none,none,none,none,none,none]):=by
  have alX:nm 0 [some (.ae (.int n)),none,none,none,none,none,none,none]=some (.int n):=rfl;simp only[asg,af,alX,aa,bM,dt,i6 (j:=7) (by decide),hN];rfl
 have s2:asg 2 (br []) [some (.ae (.int n)),some (.ae (.int (1+n % 7))),none,none,none,none,none,none]=some (.bg (ed n (1+n % 7) [] none none none none none)):=by
  simp[asg,br,args,big,ed]
 have hit:hM (af oMod (af oDiv (nm 0) (aa (.int 8))) (aa (.int 11))) (ed n (1+n % 7) [] none none none none none)=some (((List.range (n / 8 % 11).toNat).map λ(k:Nat)=>(k:Int)).map .int):=by
  have alX:nm 0 (ed n (1+n % 7) [] none none none none none)=some (.int n):=rfl;have aB:qb (n / 8 % 11)=true:=by
   unfold qb;simp;omega
  simp only[hM,af,alX,aa,bM,vM (j:=8) (by decide),i6 (j:=11) (by decide),aB,if_true,jx,Int.sub_zero,Int.zero_add,dW,Function.comp_def]
 obtain⟨os,ek,k4,o6,mE,DM,aE,aK,c_⟩:=Pf n (1+n % 7) (by omega) (by omega) ((List.range (n / 8 % 11).toNat).map λ(k:Nat)=>(k:Int)) [] none none none none none (λk a0=>by
  obtain⟨j,cS,rfl⟩:=b2.mp a0;have:=List.mem_range.mp cS;omega) (by simp;omega) (by simp)
 simp only[List.length_nil,dy,List.length_range] at aE;refine⟨1+n % 7,os,⟨by omega,by omega,by omega,aK⟩,?_⟩;have s3:gR (hM (af oMod (af oDiv (nm 0) (aa (.int 8))) (aa (.int 11)))) (a8 3) wC (ed n (1+n % 7) [] none none none none none)=some (.bg (ed n (1+n % 7) os ek k4 o6 mE DM)):=by
  simp only[gR,hit,bM];exact c_
 have s4:seq (gR (hM (af oMod (af oDiv (nm 0) (aa (.int 8))) (aa (.int 11)))) (a8 3) wC) (bh (br [(az 1),(az 2)])) (ed n (1+n % 7) [] none none none none none)=some (.ee (e2 (1+n % 7) os)):=by
  rw[cG s3];simp[bh,br,args,az,ed,big,e2]
 have bp:qB [.int n]=(yl [some (.ae (.int n)),none,none,none,none,none,none,none]).bind λo=>match o with|.ee t=>some t|.bg _=>some .none|_=>none:=rfl
 rw[bp];unfold yl;rw[cG s1,cG s2];exact congrArg (λx:Option Out=>x.bind λo=>match o with|.ee t=>some t|.bg _=>some .none|_=>none) s4
end cy
end
section
namespace ei
open D bU PySem
def dK(ps:List Str):List Nat:=c0 32 (ps.map ls)++[10]
def en(rs:List (List Str)):List Nat:=(rs.map dK).flatten
def bH(rs:List (List Str)):Str:=st (en rs)
def partsOf(t:T):List Str:=match t with
|.tuple ts=>ts.map q4
|.list ts=>ts.map q4
|_=>[]
def tZ(t:T):Prop:=t=.tuple ((partsOf t).map .str)\/t=.list ((partsOf t).map .str)
theorem BM:∀ss:List Str,strsOf (ss.map .str)=some ss
| []=>rfl
|s::ss=>by simp[strsOf,BM ss]
theorem Q3(c:Nat):∀ps:List (List Nat),(ps.map List.length).sum+ps.length<=(c0 c ps).length+1
| []=>by simp[c0]
| [p]=>by simp[c0]
|p::q::r=>by
  have:=Q3 c (q::r);simp only[c0,iq,fM,eI,List.sum_cons] at this ⊢;omega
def ag'{ps:List Str}(h:(dK ps).length<=big):JoinOk ⟨#[32]⟩ ps=true:=by
 unfold JoinOk;rw[StrLaws.joinTotal];have ah:=Q3 32 (ps.map ls);have ao:(dK ps).length=(c0 32 (ps.map ls)).length+1:=by simp[dK]
 have aY:(List.map (λx=>Str.length x) ps).sum=((ps.map ls).map List.length).sum:=by
  rw[dW];exact congrArg List.sum (List.map_congr_left λx _=>er x)
 rw[aY];rw[dy] at ah;unfold Builtin.Str.tooLong;have aB:b'=big:=by rw[sizeLine_eq];rfl
 have:¬(((ps.map ls).map List.length).sum+ps.length*(⟨#[32]⟩:Str).length > b'):=by
  show ¬(((ps.map ls).map List.length).sum+ps.length*1 > b')
  omega
 rw[decide_eq_false this];rfl
def aky{t:T}{r:Ev}(h:tZ t)(aH:(dK (partsOf t)).length<=big):af aU (af kj (aa (.str " ")) (nm 0)) (aa (.str "\n")) (some (.ae t)::r)=some (.str (st (dK (partsOf t)))):=by
 have aE:af kj (aa (.str " ")) (nm 0) (some (.ae t)::r)=some (.str (st (c0 32 ((partsOf t).map ls)))):=by
  rw[bq (t:=.str ⟨#[32]⟩) (u:=t) rfl rfl];have key:(strsOf ((partsOf t).map .str)).bind (λss=>if JoinOk ⟨#[32]⟩ ss=true then some (hL (Txt.join ⟨#[32]⟩ ss)) else none)=some (.str (st (c0 32 ((partsOf t).map ls)))):=by
   rw[BM];simp only[bM];rw[if_pos (ag' aH),Ju,<- BU,vR]
  rcases h with h|h
  ·rw[h] at key ⊢;simp only[kj];rw[<- h];rw[<- h] at key;exact key
  ·rw[h] at key ⊢;simp only[kj];rw[<- h];rw[<- h] at key;exact key
 rw[bq (u:=.str ⟨#[10]⟩) aE rfl];simp only[aU];have aK:(st (c0 32 ((partsOf t).map ls))).length+(⟨#[10]⟩:Str).length=(dK (partsOf t)).length:=by
  rw[er,fZ];simp[dK,Str.length]
 rw[if_pos (by rw[aK];exact aH)];rw[show st (c0 32 ((partsOf t).map ls))++(⟨#[10]⟩:Str)=st (dK (partsOf t)) from qh (by rw[hl];rfl)]
def I_{l6:List T}{B:Nat}(h:∀t∈l6,tZ t)(jn:∀t∈l6,(dK (partsOf t)).length<=B)(ag:l6.length*B<=16777216)(aH:l6.length<=1000000)(alk:B<=16777216):p8 [.list l6]=some (.str (bH (l6.map partsOf))):=by
 refine ho ?_
 have aE:comp 1 [] (b9 (az 0)) (a8 0) (ct true) (af aU (af kj (aa (.str " ")) (nm 0)) (aa (.str "\n"))) [some (.ae (.list l6))]=some (.list ((l6.map λt=>st (dK (partsOf t))).map .str)):=by
  rw[dW];refine kO (f:=hL ∘ λt=>st (dK (partsOf t))) (ts:=l6) rfl (by unfold big;omega) λt aN=>?_;exact aky (h t aN) (by have:=jn t aN;unfold big;omega)
 show af kj _ _ [some (.ae (.list l6))]=_
 rw[bq (t:=.str ⟨#[]⟩) rfl aE];simp only[kj,BM,bM];rw[if_pos (aiN (B:=B) (λy b1=>by
  obtain⟨t,aN,rfl⟩:=b2.mp b1;rw[er,fZ];exact jn t aN) (by rw[dy];simp[Str.length];omega))]
 rw[Ju];have:ls (Str.join ⟨#[]⟩ (l6.map λt=>st (dK (partsOf t))))=en (l6.map partsOf):=by
  rw[Qf,en,dW,dW];rfl
 rw[bH,<- this,vR]
def nq(ps:List Str):tZ (.tuple (ps.map .str))/\partsOf (.tuple (ps.map .str))=ps:=by
 have e:partsOf (.tuple (ps.map .str))=ps:=by
  simp only[partsOf,dW]
  conv=>rhs;rw[<- List.map_id ps]
  rfl
 exact⟨.inl (by rw[e]),e⟩
def nr(ps:List Str):tZ (.list (ps.map .str))/\partsOf (.list (ps.map .str))=ps:=by
 have e:partsOf (.list (ps.map .str))=ps:=by
  simp only[partsOf,dW]
  conv=>rhs;rw[<- List.map_id ps]
  rfl
 exact⟨.inr (by rw[e]),e⟩
def hO(z:Str×Str):List Str:=["zone",z.1,z.2]
def ix(k:kU):List Str:="code"::k.ia::k.hY::cP k.uses::k.j5
def g7(p:b4):List Str:=["times",cP p.leave,cP p.lT,cP p.loud]
def iS(p:b4):List (List Str):=g7 p::(p.dY.map hO++p.codes.map ix)
def aea(z:Str×Str):u' [e7 z]=some (.tuple ((hO z).map .str)):=by
 refine ho ?_
 show br _ [some (.ae (e7 z))]=_
 have bp:af aJ (nm 0) (aa (.int 0)) [some (.ae (e7 z))]=some (.str z.1):=by rw[bq rfl rfl];exact fJ
 have aE:af aJ (nm 0) (aa (.int 1)) [some (.ae (e7 z))]=some (.str z.2):=by rw[bq rfl rfl];exact iH
 simp only[br,args,bp,aE,aa,bM,dt];rfl
def RO:df<=df ^ 1000:=by
 have h:(1:Int)<=df ^ 999:=by
  exact (Int.pow_pos Kb:0<df ^ 999)
 have e:df ^ 1000=df ^ 999*df:=Int.pow_succ ..;rw[e];have aC:=Kb;generalize df ^ 999=q at *;generalize df=w at *
 calc w=1*w:=by omega
  _<=q*w:=Int.mul_le_mul_of_nonneg_right h (by omega)
def tX{a:Int}(h0:0<=a)(h:a<1000000000):ir [.int a]=some (.str (cP a)):=
 QZ h0 (by
  have ah:=RO;have ao:(1000000000:Int)<=df:=by decide +kernel
  omega)
def OG{k:kU}(h0:0<=k.uses)(h:k.uses<1000000000)(ax:k.j5.length<=1000):al3 [eY k]=some (.tuple ((ix k).map .str)):=by
 refine ho ?_
 have bp:af aJ (nm 0) (aa (.int 0)) [some (.ae (eY k))]=some (.str k.ia):=by rw[bq rfl rfl];exact fJ
 have aE:af aJ (nm 0) (aa (.int 1)) [some (.ae (eY k))]=some (.str k.hY):=by rw[bq rfl rfl];exact iH
 have aK:af aJ (nm 0) (aa (.int 2)) [some (.ae (eY k))]=some (.tuple (k.j5.map .str)):=by rw[bq rfl rfl];exact pF
 have c_:af aJ (nm 0) (aa (.int 3)) [some (.ae (eY k))]=some (.int k.uses):=by rw[bq rfl rfl];exact z8
 have gG:aw ir [(af aJ (nm 0) (aa (.int 3)))] [some (.ae (eY k))]=some (.str (cP k.uses)):=by rw[b5 c_];exact tX h0 h
 show af aU _ _ [some (.ae (eY k))]=_
 rw[bq (t:=.tuple [.str "code",.str k.ia,.str k.hY,.str (cP k.uses)]) (by
  simp only[br,args,bp,aE,gG,aa,bM,dt];rfl) aK]
 simp only[aU];rw[if_pos (by simp;unfold big;omega)];simp[ix]
structure amn(p:b4):Prop where
 Kc:p.dY.length<=8
 cl:p.codes.length<=6
 t1:0<=p.leave/\p.leave<1000000000
 fk:0<=p.lT/\p.lT<1000000000
 t3:0<=p.loud/\p.loud<1000000000
 zn:∀z∈p.dY,z.1.length<=100/\z.2.length<=100/\asc (ls z.1)/\asc (ls z.2)
 fU:∀k∈p.codes,k.ia.length<=100/\k.hY.length<=100/\k.j5.length<=3/\(∀r∈k.j5,r.length<=100/\asc (ls r))/\0<=k.uses/\k.uses<1000000000/\asc (ls k.ia)/\asc (ls k.hY)
theorem RB(c B:Nat):∀ps:List (List Nat),(∀p∈ps,p.length<=B)->(c0 c ps).length<=ps.length*(B+1)
| [],_=>by simp[c0]
| [p],h=>by
  have:=h p (by simp);simp[c0];omega
|p::q::r,h=>by
  have ah:=RB c B (q::r) λx hx=>h x (ew _ hx);have ao:=h p (by simp);simp only[c0,iq,fM] at ah ⊢;have e:(r.length+1+1)*(B+1)=(r.length+1)*(B+1)+(B+1):=by rw[Nat.add_mul,Nat.one_mul]
  omega
def ml{ps:List Str}{n B:Nat}(bf:ps.length<=n)(h:∀p∈ps,p.length<=B):(dK ps).length<=n*(B+1)+1:=by
 have ah:=RB 32 B (ps.map ls) λp aC=>by
  obtain⟨x,hx,rfl⟩:=b2.mp aC;rw[<- er];exact h x hx
 rw[dy] at ah;have ao:ps.length*(B+1)<=n*(B+1):=Nat.mul_le_mul_right _ bf;simp only[dK,iq,List.length_singleton];omega
def th{a:Int}(h0:0<=a)(h:a<1000000000):(cP a).length<=100:=by
 have ao:(1000000000:Int)<=df:=by decide +kernel
 have:=(Jv h0 (by omega)).1;omega
def agi{p:b4}(h:amn p):∀ps∈iS p,(dK ps).length<=708:=by
 intro ps b6;have Ws:7*(100+1)+1=708:=rfl;rw[<- Ws];rcases bC.mp b6 with rfl|b6
 ·refine ml (by simp[g7]) λq aD=>?_
  simp only[g7,bC,de,or_false] at aD;rcases aD with rfl|rfl|rfl|rfl
  ·decide
  ·exact th h.t1.1 h.t1.2
  ·exact th h.fk.1 h.fk.2
  ·exact th h.t3.1 h.t3.2
 ·rcases gz.mp b6 with b6|b6
  ·obtain⟨z,aI,rfl⟩:=b2.mp b6;obtain⟨g6,fb,_⟩:=h.zn z aI;refine ml (by simp[hO]) λq aD=>?_;simp only[hO,bC,de,or_false] at aD;rcases aD with rfl|rfl|rfl
   ·decide
   ·exact g6
   ·exact fb
  ·obtain⟨k,a0,rfl⟩:=b2.mp b6;obtain⟨k1,k2,k3,e9,k5,ob,_⟩:=h.fU k a0;refine ml (by simp[ix];omega) λq aD=>?_;simp only[ix,bC] at aD;rcases aD with rfl|rfl|rfl|rfl|aD
   ·decide
   ·exact k1
   ·exact k2
   ·exact th k5 ob
   ·exact (e9 q aD).1
def Bc{p:b4}(h:amn p):kM [bG p]=some (.str (bH (iS p))):=by
 unfold kM bV O3;show (seq _ _ [some (.ae (bG p)),none,none,none]).bind _=_;have bp:∀r:Ev,af aJ (nm 0) (aa (.int 0)) (some (.ae (bG p))::r)=some (.tuple (p.dY.map e7)):=λr=>by rw[bq rfl rfl];exact fJ
 have aE:∀r:Ev,af aJ (nm 0) (aa (.int 1)) (some (.ae (bG p))::r)=some (.tuple (p.codes.map eY)):=λr=>by rw[bq rfl rfl];exact iH
 have aK:∀r:Ev,af aJ (nm 0) (aa (.int 2)) (some (.ae (bG p))::r)=some (.tuple [.int p.leave,.int p.lT,.int p.loud]):=λr=>by rw[bq rfl rfl];exact pF
 have aI:=h.Kc;have au:=h.cl;have a1:asg 1 (af aU (eh [(aa (.str "times"))]) (comp 1 [] (b9 (af aJ (nm 0) (aa (.int 2)))) (a8 0) (ct true) (aw ir [(az 0)]))) [some (.ae (bG p)),none,none,none]=some (.bg [some (.ae (bG p)),some (.ae (.list ((g7 p).map .str))),none,none]):=by
  have:comp 1 [] (b9 (af aJ (nm 0) (aa (.int 2)))) (a8 0) (ct true) (aw ir [(az 0)]) [some (.ae (bG p)),none,none,none]=some (.list (([.int p.leave,.int p.lT,.int p.loud]:List T).map λt=>match t with|.int i=>.str (cP i)|t=>t)):=by
   refine kO (ts:=[.int p.leave,.int p.lT,.int p.loud]) (by simp only[b9,aK,bM]) (by simp;unfold big;omega) λt aN=>?_
   rw[b5 (t:=t) rfl];simp only[bC,de,or_false] at aN;rcases aN with rfl|rfl|rfl
   ·exact tX h.t1.1 h.t1.2
   ·exact tX h.fk.1 h.fk.2
   ·exact tX h.t3.1 h.t3.2
  unfold asg;rw[bq (t:=.list [.str "times"]) rfl this];rfl
 have a2:asg 2 (comp 1 [] (b9 (af aJ (nm 0) (aa (.int 0)))) (a8 0) (ct true) (aw u' [(az 0)])) [some (.ae (bG p)),some (.ae (.list ((g7 p).map .str))),none,none]=some (.bg [some (.ae (bG p)),some (.ae (.list ((g7 p).map .str))),some (.ae (.list ((p.dY.map hO).map λps=>.tuple (ps.map .str)))),none]):=by
  have:comp 1 [] (b9 (af aJ (nm 0) (aa (.int 0)))) (a8 0) (ct true) (aw u' [(az 0)]) [some (.ae (bG p)),some (.ae (.list ((g7 p).map .str))),none,none]=some (.list ((p.dY.map e7).map λt=>.tuple (hL "zone"::(match t with|.tuple ts=>ts|_=>[])))):=by
   refine kO (ts:=p.dY.map e7) (by simp only[b9,bp,bM]) (by rw[dy];unfold big;omega) λt aN=>?_
   obtain⟨z,aI,rfl⟩:=b2.mp aN;rw[b5 (t:=e7 z) rfl,aea];rfl
  unfold asg;rw[this];simp only[dW];rfl
 have jL:asg 3 (comp 1 [] (b9 (af aJ (nm 0) (aa (.int 1)))) (a8 0) (ct true) (aw al3 [(az 0)])) [some (.ae (bG p)),some (.ae (.list ((g7 p).map .str))),some (.ae (.list ((p.dY.map hO).map λps=>.tuple (ps.map .str)))),none]=some (.bg [some (.ae (bG p)),some (.ae (.list ((g7 p).map .str))),some (.ae (.list ((p.dY.map hO).map λps=>.tuple (ps.map .str)))),some (.ae (.list ((p.codes.map ix).map λps=>.tuple (ps.map .str))))]):=by
  have:comp 1 [] (b9 (af aJ (nm 0) (aa (.int 1)))) (a8 0) (ct true) (aw al3 [(az 0)]) [some (.ae (bG p)),some (.ae (.list ((g7 p).map .str))),some (.ae (.list ((p.dY.map hO).map λps=>.tuple (ps.map .str)))),none]=some (.list ((p.codes.map eY).map λt=>(al3 [t]).getD .none)):=by
   refine kO (ts:=p.codes.map eY) (by simp only[b9,aE,bM]) (by rw[dy];unfold big;omega) λt aN=>?_
   obtain⟨k,a0,rfl⟩:=b2.mp aN;obtain⟨k1,k2,k3,e9,k5,ob,_⟩:=h.fU k a0;rw[b5 (t:=eY k) rfl,OG k5 ob (by omega)];rfl
  unfold asg;rw[this];have e:(p.codes.map eY).map (λt=>(al3 [t]).getD .none)=(p.codes.map ix).map λps=>.tuple (ps.map .str):=by
   rw[dW,dW];refine List.map_congr_left λk a0=>?_;obtain⟨k1,k2,k3,e9,k5,ob,_⟩:=h.fU k a0;show (al3 [eY k]).getD .none=_;rw[OG k5 ob (by omega)];rfl
  rw[e];rfl
 rw[bU.cG a1,bU.cG a2,bU.cG jL];simp only[bh];have jM:af aU (af aU (eh [(az 1)]) (nm 2)) (nm 3) [some (.ae (bG p)),some (.ae (.list ((g7 p).map .str))),some (.ae (.list ((p.dY.map hO).map λps=>.tuple (ps.map .str)))),some (.ae (.list ((p.codes.map ix).map λps=>.tuple (ps.map .str))))]=some (.list (.list ((g7 p).map .str)::((p.dY.map hO).map (λps=>.tuple (ps.map .str))++(p.codes.map ix).map λps=>.tuple (ps.map .str)))):=by
  rw[bq (t:=.list ([.list ((g7 p).map .str)]++(p.dY.map hO).map λps=>.tuple (ps.map .str))) (u:=.list ((p.codes.map ix).map λps=>.tuple (ps.map .str))) (by
   rw[bq (t:=.list [.list ((g7 p).map .str)]) (u:=.list ((p.dY.map hO).map λps=>.tuple (ps.map .str))) rfl rfl];simp only[aU];rw[if_pos (by simp;unfold big;omega)]) rfl]
  simp only[aU];rw[if_pos (by simp;unfold big;omega)];simp
 rw[b5 jM];have jo:∀t∈(PyData.list ((g7 p).map .str)::((p.dY.map hO).map (λps=>PyData.tuple (ps.map .str))++(p.codes.map ix).map λps=>.tuple (ps.map .str))),tZ t/\partsOf t∈iS p:=by
  intro t aN;rcases bC.mp aN with rfl|aN
  ·exact⟨(nr _).1,by rw[(nr _).2];exact m_⟩
  ·rcases gz.mp aN with aN|aN
   ·obtain⟨ps,b6,rfl⟩:=b2.mp aN;exact⟨(nq _).1,by rw[(nq _).2];exact ew _ (gz.mpr (.inl b6))⟩
   ·obtain⟨ps,b6,rfl⟩:=b2.mp aN;exact⟨(nq _).1,by rw[(nq _).2];exact ew _ (gz.mpr (.inr b6))⟩
 rw[I_ (B:=708) (λt aN=>(jo t aN).1) (λt aN=>agi h _ (jo t aN).2) (by simp;omega) (by simp;omega) (by omega)];have iG:(PyData.list ((g7 p).map .str)::((p.dY.map hO).map (λps=>PyData.tuple (ps.map .str))++(p.codes.map ix).map λps=>.tuple (ps.map .str))).map partsOf=iS p:=by
  have q:∀l:List (List Str),(l.map λps=>PyData.tuple (ps.map .str)).map partsOf=l:=λl=>by
   rw[dW]
   conv=>rhs;rw[<- List.map_id l]
   exact List.map_congr_left λps _=>(nq ps).2
  rw[eI,List.map_append,q,q,(nr _).2];rfl
 rw[iG];rfl
end ei
end
section
namespace ei
open D bU PySem
def BL:Option Str->Str
|none=>"-"
|some x=>x
def jZ(o:cy.Op):List Str:=[cP o.1,cP o.2.1,BL o.2.2]
def eb(R:Int)(os:List cy.Op):List (List Str):=["rooms",cP R]::os.map jZ
structure zg(o:cy.Op):Prop where
 a:0<=o.1/\o.1<1000000000
 b:0<=o.2.1/\o.2.1<1000000000
 z:∀x,o.2.2=some x->x.length<=100/\asc (ls x)
def Ow{o:cy.Op}(h:zg o):pX [cy.gd o]=some (.tuple ((jZ o).map .str)):=by
 unfold pX bV Oy;show (seq _ _ [some (.ae (cy.gd o)),none]).bind _=_;have bp:∀r:Ev,af aJ (nm 0) (aa (.int 0)) (some (.ae (cy.gd o))::r)=some (.int o.1):=λr=>by rw[bq rfl rfl];exact fJ
 have aE:∀r:Ev,af aJ (nm 0) (aa (.int 1)) (some (.ae (cy.gd o))::r)=some (.int o.2.1):=λr=>by rw[bq rfl rfl];exact iH
 have aK:∀r:Ev,af aJ (nm 0) (aa (.int 2)) (some (.ae (cy.gd o))::r)=some (cy.iz o.2.2):=λr=>by rw[bq rfl rfl];exact pF
 have a1:asg 1 (jW (a3 (dQ gX (af aJ (nm 0) (aa (.int 2))))) (aa (.str "-")) (af aJ (nm 0) (aa (.int 2)))) [some (.ae (cy.gd o)),none]=some (.bg [some (.ae (cy.gd o)),some (.ae (.str (BL o.2.2)))]):=by
  unfold asg jW;rw[cH (Cq (aK _))];cases aI:o.2.2 with
  |none=>rfl
  |some x=>
   simp only[cy.iz,qn,bM,q8,if_false];rw[aK,aI];rfl
 rw[bU.cG a1];simp only[bh,br,args,aw,bp,aE,bM,dt,tX h.a.1 h.a.2,tX h.b.1 h.b.2];rfl
def xU{R:Int}{os:List cy.Op}(hS:0<=R/\R<1000000000)(h:∀o∈os,zg o)(aH:os.length<=1000):kd [cy.e2 R os]=some (.str (bH (eb R os))):=by
 unfold kd bV OO;show (seq _ _ [some (.ae (cy.e2 R os)),none]).bind _=_;have bp:∀r:Ev,af aJ (nm 0) (aa (.int 0)) (some (.ae (cy.e2 R os))::r)=some (.int R):=λr=>by rw[bq rfl rfl];exact fJ
 have aE:∀r:Ev,af aJ (nm 0) (aa (.int 1)) (some (.ae (cy.e2 R os))::r)=some (.tuple (os.map cy.gd)):=λr=>by rw[bq rfl rfl];exact iH
 have a1:asg 1 (br [(aa (.str "rooms")),(aw ir [(af aJ (nm 0) (aa (.int 0)))])]) [some (.ae (cy.e2 R os)),none]=some (.bg [some (.ae (cy.e2 R os)),some (.ae (.tuple ((["rooms",cP R]:List Str).map .str)))]):=by
  simp only[asg,br,args,aw,bp,aa,bM,dt,tX hS.1 hS.2];rfl
 rw[bU.cG a1];simp only[bh];have c_:comp 1 [] (b9 (af aJ (nm 0) (aa (.int 1)))) (a8 0) (ct true) (aw pX [(az 0)]) [some (.ae (cy.e2 R os)),some (.ae (.tuple ((["rooms",cP R]:List Str).map .str)))]=some (.list ((os.map jZ).map λps=>.tuple (ps.map .str))):=by
  rw[kO (f:=λt=>(pX [t]).getD .none) (ts:=os.map cy.gd) (by simp only[b9,aE,bM]) (by rw[dy];unfold big;omega) λt aN=>by
   obtain⟨o,aT,rfl⟩:=b2.mp aN;rw[b5 (t:=cy.gd o) rfl,Ow (h o aT)];rfl]
  rw[dW,dW];congr 2;refine List.map_congr_left λo aT=>?_;show (pX [cy.gd o]).getD .none=_;rw[Ow (h o aT)];rfl
 have jM:af aU (eh [(az 1)]) (comp 1 [] (b9 (af aJ (nm 0) (aa (.int 1)))) (a8 0) (ct true) (aw pX [(az 0)])) [some (.ae (cy.e2 R os)),some (.ae (.tuple ((["rooms",cP R]:List Str).map .str)))]=some (.list ((eb R os).map λps=>.tuple (ps.map .str))):=by
  rw[bq (t:=.list [.tuple ((["rooms",cP R]:List Str).map .str)]) rfl c_];simp only[aU];rw[if_pos (by simp;unfold big;omega)];rfl
 rw[b5 jM];have jo:∀t∈((eb R os).map λps=>PyData.tuple (ps.map .str)),tZ t/\partsOf t∈eb R os:=by
  intro t aN;obtain⟨ps,b6,rfl⟩:=b2.mp aN;exact⟨(nq _).1,by rw[(nq _).2];exact b6⟩
 have jn:∀ps∈eb R os,(dK ps).length<=304:=by
  intro ps b6;have e:3*(100+1)+1=304:=rfl;rw[<- e];rcases bC.mp b6 with rfl|b6
  ·refine ml (by simp) λq aD=>?_
   simp only[bC,de,or_false] at aD;rcases aD with rfl|rfl
   ·decide
   ·exact th hS.1 hS.2
  ·obtain⟨o,aT,rfl⟩:=b2.mp b6;refine ml (by simp[jZ]) λq aD=>?_;simp only[jZ,bC,de,or_false] at aD;rcases aD with rfl|rfl|rfl
   ·exact th (h o aT).a.1 (h o aT).a.2
   ·exact th (h o aT).b.1 (h o aT).b.2
   ·cases aI:o.2.2 with
    |none=>decide
    |some x=>exact ((h o aT).z x aI).1
 rw[I_ (B:=304) (λt aN=>(jo t aN).1) (λt aN=>jn _ (jo t aN).2) (by simp[eb];omega) (by simp[eb];omega) (by omega)];have iG:((eb R os).map λps=>PyData.tuple (ps.map .str)).map partsOf=eb R os:=by
  rw[dW]
  conv=>rhs;rw[<- List.map_id (eb R os)]
  exact List.map_congr_left λps _=>(nq ps).2
 rw[iG];rfl
def b8:dU->List Str
|.line z w=>["line",z,w]
|.code f d none=>["code",f,d]
|.code f d (some z)=>["code",f,d,z]
|.ef n=>["ticks",cP n]
structure kV(B:Nat)(e:dU):Prop where
 s:∀x∈b8 e,asc (ls x)/\x.length<=900000
 n:∀n,e=.ef n->0<=n/\n<df ^ 1000
 l:(dK (b8 e)).length<=B
def akR:gp "ticks" (.str "line")=false:=by decide +kernel
def akS:gp "code" (.str "line")=false:=by decide +kernel
def akT:gp "ticks" (.str "code")=false:=by decide +kernel
def RH:gp "ticks" (.str "ticks")=true:=by decide +kernel
def RI:gp "code" (.str "code")=true:=by decide +kernel
def VB{α:Type}(a b c:α)(r:List α):cT (a::b::c::r) none (some 3)=[a,b,c]:=by
 unfold cT;have aE:D.bI (a::b::c::r).length 0 none=0:=rfl;have aK:D.bI (a::b::c::r).length (a::b::c::r).length (some 3)=3:=by simp[D.bI];omega
 rw[aE,aK];rfl
def OB{B:Nat}{e:dU}(h:kV B e):rb [cu e]=some (.tuple ((b8 e).map .str)):=by
 unfold rb bV OJ;show (seq _ _ [some (.ae (cu e))]).bind _=_;cases e with
|line z w=>
  have bp:af aJ (nm 0) (aa (.int 0)) [some (.ae (cu (.line z w)))]=some (.str "line"):=by rw[bq rfl rfl];exact fJ
  rw[eJ (cH (k' bp (jf (d:=0) yP (by decide)) qd)),akR,if_neg (by simp)];have jM:e6 (a3 (af oEq (af aJ (nm 0) (aa (.int 0))) (aa (.str "code")))) (a3 (dQ gX (af aJ (nm 0) (aa (.int 3))))) [some (.ae (cu (.line z w)))]=some (false && false):=
   tT (by rw[cH (k' bp (jf (d:=0) yP (by decide)) mq),akS]) λq=>by cases q
  rw[eJ jM,if_neg (by simp)];rfl
|ef n=>
  have bp:af aJ (nm 0) (aa (.int 0)) [some (.ae (cu (.ef n)))]=some (.str "ticks"):=by rw[bq rfl rfl];exact fJ
  have aE:af aJ (nm 0) (aa (.int 1)) [some (.ae (cu (.ef n)))]=some (.int n):=by rw[bq rfl rfl];exact iH
  rw[eJ (cH (k' bp (jf (d:=0) qd (by decide)) qd)),RH,if_pos rfl];rw[hj (t:=.tuple [.str "ticks",.str (cP n)]) (by
   obtain⟨alX,fj⟩:=h.n n rfl;simp only[br,args,aw,aE,aa,bM,dt,QZ alX fj];rfl)]
  rfl
|code f d z=>
  have bp:af aJ (nm 0) (aa (.int 0)) [some (.ae (cu (.code f d z)))]=some (.str "code"):=by rw[bq rfl rfl];exact fJ
  have c_:af aJ (nm 0) (aa (.int 3)) [some (.ae (cu (.code f d z)))]=some (mZ z):=by rw[bq rfl rfl];exact z8
  rw[eJ (cH (k' bp (jf (d:=0) mq (by decide)) qd)),akT,if_neg (by simp)];rw[eJ (tT (by rw[cH (k' bp (jf (d:=0) mq (by decide)) mq)]) λ_=>cH (Cq c_)),RI,Bool.true_and];cases z with
  |none=>
   rw[if_pos (by rfl),hj (t:=.tuple [.str "code",.str f,.str d]) (by
    show da _ _ _ _=_
    simp only[da,nm,opt,optN,aa,gN,bM,cu,pK,oh,VB])]
   rfl
  |some x=>
   rw[if_neg (by simp[mZ,qn])];rfl
def x3{ar:List dU}{B:Nat}(h:∀e∈ar,kV B e)(ag:ar.length*B<=16777216)(aH:ar.length<=1000000)(jn:B<=16777216):kN [.tuple (ar.map cu)]=some (.str (bH (ar.map b8))):=by
 refine ho ?_
 have c_:comp 1 [] (b9 (az 0)) (a8 0) (ct true) (aw rb [(az 0)]) [some (.ae (.tuple (ar.map cu)))]=some (.list ((ar.map b8).map λps=>.tuple (ps.map .str))):=by
  rw[kO (f:=λt=>(rb [t]).getD .none) (ts:=ar.map cu) rfl (by rw[dy];unfold big;omega) λt aN=>by
   obtain⟨o,aT,rfl⟩:=b2.mp aN;rw[b5 (t:=cu o) rfl,OB (h o aT)];rfl]
  rw[dW,dW];congr 2;refine List.map_congr_left λo aT=>?_;show (rb [cu o]).getD .none=_;rw[OB (h o aT)];rfl
 show aw p8 [_] [some (.ae (.tuple (ar.map cu)))]=_
 rw[b5 c_];have jo:∀t∈((ar.map b8).map λps=>PyData.tuple (ps.map .str)),tZ t/\(dK (partsOf t)).length<=B:=by
  intro t aN;obtain⟨ps,b6,rfl⟩:=b2.mp aN;obtain⟨e,he,rfl⟩:=b2.mp b6;exact⟨(nq _).1,by rw[(nq _).2];exact (h e he).l⟩
 rw[I_ (B:=B) (λt aN=>(jo t aN).1) (λt aN=>(jo t aN).2) (by simpa using ag) (by simpa using aH) jn];have iG:((ar.map b8).map λps=>PyData.tuple (ps.map .str)).map partsOf=ar.map b8:=by
  rw[dW]
  conv=>rhs;rw[<- List.map_id (ar.map b8)]
  exact List.map_congr_left λps _=>(nq ps).2
 rw[iG]
end ei
end
section
namespace ei
open D bU PySem
def ck(x:Str):List (List Str):=(el 10 (ls x)).dropLast.map λl=>(el 32 l).map st
def ak_{α:Type}(l:List α):cT l none (some (-1))=l.dropLast:=by
 unfold cT;have aE:D.bI l.length 0 none=0:=rfl;have aK:D.bI l.length l.length (some (-1))=l.length - 1:=by simp[D.bI];omega
 rw[aE,aK,List.drop_zero,Nat.sub_zero,List.dropLast_eq_take]
def JO{f:a_}{ε:Ev}{x:Str}{c:Nat}{y:Str}(b1:y=⟨#[c]⟩)(hf:f ε=some (.str x))(aH:x.length+2<=big):af tR f (aa (.str y)) ε=some (.list (((el c (ls x)).map st).map .str)):=by
 subst b1;rw[bq hf rfl];simp only[tR];rw[if_pos ⟨rfl,aH⟩,ag9]
def JS{x:Str}(aH:x.length<=1000000):gg [.str x]=some (.list ((ck x).map λps=>.list (ps.map .str))):=by
 refine ho ?_
 have aE:=JO (f:=nm 0) (ε:=[some (.ae (.str x))]) (x:=x) (c:=10) (y:="\n") (by decide +kernel) rfl (by unfold big;omega);show comp 1 [] _ _ _ _ [some (.ae (.str x))]=_;rw[kO (f:=λt=>.list (((el 32 (ls (q4 t))).map st).map .str)) (ts:=((el 10 (ls x)).dropLast.map st).map .str) (by
  simp only[b9,da,aE,opt,optN,dQ,og,aa,bM,pK,oh,ak_,List.map_dropLast]) (by
   have:=ye (c:=10) (ls x);rw[<- er] at this;simp;unfold big;omega) λt aN=>by
  obtain⟨s,aB,rfl⟩:=b2.mp aN;obtain⟨l,MP,rfl⟩:=b2.mp aB;have ah:=vv ((List.dropLast_sublist _).subset MP);rw[<- er] at ah;exact JO (f:=nm 0) (ε:=[some (.ae (.str (st l)))]) (x:=st l) (c:=32) (y:=" ") (by decide +kernel) rfl (by rw[er,fZ];unfold big;omega)]
 rw[dW,ck,dW,dW];rfl
def P_{x:Str}(hx:asc (ls x)){ps:List Str}(h:ps∈ck x):ps≠[]/\ps.length<=x.length+1/\∀p∈ps,asc (ls p)/\p.length<=x.length/\32∉ls p/\10∉ls p:=by
 obtain⟨l,aH,rfl⟩:=b2.mp h;have hm:=(List.dropLast_sublist _).subset aH;have ah:=vv hm;rw[<- er] at ah;refine⟨λe=>B4 32 l (List.map_eq_nil_iff.mp e),?_,λp aC=>?_⟩
 ·rw[dy];have:=ye (c:=32) l;omega
 ·obtain⟨q,aD,rfl⟩:=b2.mp aC;have ao:=vv aD;rw[er,fZ];exact⟨λa aA=>hx a (tv hm a (tv aD a aA)),by omega,yD aD,λz=>yD hm (tv aD _ z)⟩
def yn(x:Str):(ck x).length<=x.length:=by
 have:=ye (c:=10) (ls x);rw[<- er] at this;simp[ck];omega
def nU(p:Str):Bool:=decide (1<=p.length) && (ls p).all λc=>decide (48<=c) && decide (c<=57)
def gc(p:Str):T:=if nU p=true then .int (eR (ls p):Nat) else .none
def Ql{p:Str}(h:nU p=true):dig (ls p)/\1<=p.length:=by
 rw[nU,cX,List.all_eq_true] at h;exact⟨λc au=>by
  have:=h.2 c au;rw[cX,decide_eq_true_eq,decide_eq_true_eq] at this;exact this,of_decide_eq_true h.1⟩
def rX:bx:=asg 1 (af oi (af aU (af dw (nm 1) (aa (.int 10))) (aw pJ [(nm 2)])) (aw pJ [(aa (.str "0"))]))
def aht(a:Int)(c:Nat)(s0:Option bQ):rX [s0,some (.ae (.int a)),some (.ae (fe c))]=some (.bg [s0,some (.ae (.int (a*10+c - 48))),some (.ae (fe c))]):=by
 unfold rX asg;have aE:af dw (nm 1) (aa (.int 10)) [s0,some (.ae (.int a)),some (.ae (fe c))]=some (.int (a*10)):=by
  rw[bq (t:=.int a) rfl rfl];exact bU.jt (i:=a) (j:=10) ⟨by decide +kernel,by decide +kernel⟩
 have aK:aw pJ [(nm 2)] [s0,some (.ae (.int a)),some (.ae (fe c))]=some (.int (c:Nat)):=by
  rw[b5 (t:=fe c) rfl];rfl
 have c_:af aU (af dw (nm 1) (aa (.int 10))) (aw pJ [(nm 2)]) [s0,some (.ae (.int a)),some (.ae (fe c))]=some (.int (a*10+c)):=by
  rw[bq aE aK];rfl
 have gG:aw pJ [(aa (.str "0"))] [s0,some (.ae (.int a)),some (.ae (fe c))]=some (.int 48):=by
  rw[b5 (t:=fe 48) rfl];rfl
 rw[bq c_ gG];rfl
def ahu(a c:Nat)(h:48<=c):((a:Int)*10+c - 48)=((a*10+(c - 48):Nat):Int):=by omega
def Ce(acc c:Nat):Nat:=acc*10+(c - 48)
def aiH(a c:Nat)(l:List T)(s0 s2:Option bQ)(h:48<=c):forL (a8 2) rX (fe c::l) [s0,some (.ae (.int (a:Int))),s2]=forL (a8 2) rX l [s0,some (.ae (.int ((Ce a c:Nat):Int))),some (.ae (fe c))]:=by
 have aE:((a:Int)*10+(c:Int) - 48)=((Ce a c:Nat):Int):=ahu a c h;have aK:=aht (a:Int) c s0;rw[aE] at aK;rw[forL,show a8 2 (fe c) [s0,some (.ae (.int (a:Int))),s2]=some [s0,some (.ae (.int (a:Int))),some (.ae (fe c))] from rfl,bM,aK,bM]
theorem Qy:∀(l:List Nat) (a:Nat) (s0 s2:Option bQ),dig l->∃ij,forL (a8 2) rX (l.map fe) [s0,some (.ae (.int (a:Int))),s2]=some (.bg [s0,some (.ae (.int ((l.foldl Ce a:Nat):Int))),ij])
| [],a,s0,s2,_=>⟨s2,rfl⟩
|c::l,a,s0,s2,h=>by
  have au:=h c (by simp);obtain⟨ij,e⟩:=Qy l (Ce a c) s0 (some (.ae (fe c))) λx hx=>h x (ew _ hx);refine⟨ij,?_⟩;rw[eI,aiH a c _ s0 s2 au.1,List.foldl_cons];exact e
def ago{p:Str}(aC:asc (ls p))(aH:p.length<=900000):x5 [.str p]=some (gc p):=by
 unfold x5 bV O4;show (seq _ _ [some (.ae (.str p)),none,none]).bind _=_;have a7:gI (.str p)=true:=(jf (d:=0) aC (by omega)).g;have aE:aw mi [(az 0),(aa (.int 1)),(aw eC [(nm 0)]),(aa (.str "0")),(aa (.str "9"))] [some (.ae (.str p)),none,none]=some (.bool (nU p)):=by
  have bp:aw eC [(nm 0)] [some (.ae (.str p)),none,none]=some (.int p.length):=by
   rw[b5 (t:=.str p) rfl];simp only[eC];rw[if_pos (by unfold big;omega)]
  simp only[aw,args] at bp ⊢;simp only[az,aa,gN,bM,dt];simp only[nm,gN,bM,dt] at bp ⊢;rw[bp];simp only[bM,dt];have:=JN (t:=.str p) (lo:=1) (hi:=p.length) (a:=48) (b:=57) a7;rw[show ([.str p,.int 1,.int p.length,.str "0",.str "9"]:List T)=[.str p,.int 1,.int p.length,fe 48,fe 57] from rfl,this];simp only[oH,nU];rw[decide_eq_true (show (p.length:Int)<=p.length by omega),Bool.and_true];congr 3;congr 1;apply propext;omega
 rw[eJ (eF (cH aE))];unfold gc;cases hd:nU p with
|false=>
  rw[if_pos (by rfl),hj (t:=.none) rfl,if_neg (by simp)];rfl
|true=>
  rw[if_neg (by simp),if_pos rfl];obtain⟨ah,ao⟩:=Ql hd;rw[bU.cG (ε':=[some (.ae (.str p)),some (.ae (.int 0)),none]) rfl];obtain⟨ij,aK⟩:=Qy (ls p) 0 (some (.ae (.str p))) none ah;have c_:gR (b9 (az 0)) (a8 2) rX [some (.ae (.str p)),some (.ae (.int 0)),none]=some (.bg [some (.ae (.str p)),some (.ae (.int (eR (ls p):Nat))),ij]):=by
   unfold gR;rw[show b9 (az 0) [some (.ae (.str p)),some (.ae (.int 0)),none]=some ((ls p).map fe) by
    simp only[b9,az,gN,bM];rw[if_pos ((Ji p).mpr aC)];rfl]
   exact aK
  show (seq (gR (b9 (az 0)) (a8 2) rX) (bh (nm 1)) _).bind _=_
  rw[bU.cG c_];rfl
def Bu{ps:List Str}(h:∀p∈ps,asc (ls p)/\p.length<=900000)(aH:ps.length<=1000000):oz [.list (ps.map .str)]=some (.tuple (ps.map gc)):=by
 refine ho ?_
 rw[b5 (t:=.list (ps.map gc)) (by
  rw[kO (f:=λt=>gc (q4 t)) (ts:=ps.map .str) rfl (by rw[dy];unfold big;omega) λt aN=>by
   obtain⟨p,aC,rfl⟩:=b2.mp aN;rw[b5 (t:=.str p) rfl];exact ago (h p aC).1 (h p aC).2]
  rw[dW];rfl)]
 rfl
def mj{f:a_}{ε:Ev}{ts:List T}{lo hi:Ev->Option (Option Int)}{a b:Option Int}(hf:f ε=some (.list ts))(ah:lo ε=some a)(ao:hi ε=some b):da f lo hi ε=some (.list (cT ts a b)):=by
 simp only[da,hf,ah,ao,bM,pK,oh]
def tF{α β:Type}(f:α->β)(l:List α)(a b:Option Int):cT (l.map f) a b=(cT l a b).map f:=by
 unfold cT;rw[dy,List.map_take,List.map_drop]
def tE{α:Type}{l:List α}{a b:Option Int}{x:α}(h:x∈cT l a b):x∈l:=by
 unfold cT at h;exact List.mem_of_mem_drop (List.mem_of_mem_take h)
def BX{α:Type}(l:List α)(a b:Option Int):(cT l a b).length<=l.length:=by
 unfold cT;rw[List.length_take,List.length_drop];omega
structure kr(ps:List Str):Prop where
 ne:ps≠[]
 l:ps.length<=900000
 p:∀p∈ps,asc (ls p)/\p.length<=900000
def qc{x:Str}(hx:asc (ls x))(aH:x.length<=800000):∀ps∈ck x,kr ps:=λps h=>by
 obtain⟨ah,ao,aY⟩:=P_ hx h;exact⟨ah,by omega,λp aC=>⟨(aY p aC).1,by have:=(aY p aC).2.1;omega⟩⟩
def nA(rs:List (List Str)):List T:=match rs with
| []=>[]
|r::_=>r.tail.map gc
def gj(rs:List (List Str)):T:=.list (rs.map λps=>.list (ps.map .str))
def Qq{rs:List (List Str)}(h:∀r∈rs,kr r):jD [gj rs]=some (.tuple (nA rs)):=by
 refine ho ?_
 cases rs with
|nil=>rfl
|cons r rs=>
  have ax:=h r (by simp);show jW _ _ _ [some (.ae (gj (r::rs)))]=_;have aE:af aJ (nm 0) (aa (.int 0)) [some (.ae (gj (r::rs)))]=some (.list (r.map .str)):=by
   rw[bq (t:=gj (r::rs)) rfl rfl];simp only[gj,aJ,eP,fv];rw[if_pos (by decide),if_pos (by simp only[eI,fM];omega)];rfl
  have aK:da (af aJ (nm 0) (aa (.int 0))) (opt (aa (.int 1))) optN [some (.ae (gj (r::rs)))]=some (.list (r.tail.map .str)):=by
   rw[mj aE rfl rfl,uh,List.map_tail]
  simp only[jW,show i9 (nm 0) [some (.ae (gj (r::rs)))]=some true from rfl,bM,if_true];rw[b5 aK];have aH:=ax.l;exact Bu (λp aC=>ax.p p (List.mem_of_mem_tail aC)) (by rw[List.length_tail];omega)
def vZ(ps:List Str):T:=.tuple ((cT ps (some 1) (some 3)).map .str++[.tuple ((cT ps (some 4) none).map .str)]++(cT ps (some 3) (some 4)).map gc)
def aeS{ps:List Str}(h:kr ps):p5 [.list (ps.map .str)]=some (vZ ps):=by
 refine ho ?_
 have aH:=h.l;have cV:=BX ps (some 1) (some 3);have cN:=BX ps (some 3) (some 4);have s:∀(i:Int) (hi:Ev->Option (Option Int)) (b:Option Int),hi [some (.ae (.list (ps.map .str)))]=some b->da (nm 0) (opt (aa (.int i))) hi [some (.ae (.list (ps.map .str)))]=some (.list ((cT ps (some i) b).map .str)):=λi hi b e=>by
  rw[mj (ts:=ps.map .str) rfl rfl e,tF]
 show af aU (af aU _ _) _ [some (.ae (.list (ps.map .str)))]=_
 rw[bq (t:=.tuple ((cT ps (some 1) (some 3)).map .str++[.tuple ((cT ps (some 4) none).map .str)])) (u:=.tuple ((cT ps (some 3) (some 4)).map gc)) (by
  rw[bq (t:=.tuple ((cT ps (some 1) (some 3)).map .str)) (u:=.tuple [.tuple ((cT ps (some 4) none).map .str)]) (by
   rw[b5 (s 1 _ (some 3) rfl)];rfl) (by
   simp only[br,args];rw[b5 (s 4 _ none rfl)];rfl)]
  simp only[aU];rw[if_pos (by simp;unfold big;omega)]) (by
  rw[b5 (s 3 _ (some 4) rfl)];exact Bu (λp aC=>h.p p (tE aC)) (by omega))]
 simp only[aU];rw[if_pos (by simp;unfold big;omega)];rfl
noncomputable def fs(ps:List Str):T:=match ps with
| []=>.none
|a::r=>if a="ticks" then .tuple (.str "ticks"::r.map gc) else if a="code"/\r.length=2 then .tuple ((a::r).map .str++[.none]) else .tuple ((a::r).map .str)
def M_{a:T}{r:List T}:aJ (.list (a::r)) (.int 0)=some a:=by
 simp only[aJ,eP,fv];rw[if_pos (by decide),if_pos (by simp only[fM];omega)];rfl
def aep{ps:List Str}(h:kr ps):oA [.list (ps.map .str)]=some (fs ps):=by
 unfold oA bV OP;show (seq _ _ [some (.ae (.list (ps.map .str)))]).bind _=_;cases ps with
|nil=>exact absurd rfl h.ne
|cons a r=>
  have aH:=h.l;rw[fM] at aH;have aA:=h.p a (by simp);have bp:af aJ (nm 0) (aa (.int 0)) [some (.ae (.list ((a::r).map .str)))]=some (.str a):=by
   rw[bq (t:=.list ((a::r).map .str)) rfl rfl];exact M_
  have a7:cR 0 (.str a):=jf aA.1 (by omega);rw[eJ (cH (k' bp a7 qd))];unfold fs;by_cases ah:a="ticks"
  ·rw[show gp "ticks" (.str a)=true from decide_eq_true ah,if_pos rfl];dsimp only;rw[if_pos ah];rw[hj (t:=.tuple (.str "ticks"::r.map gc)) (by
    rw[bq (t:=.tuple [.str "ticks"]) (u:=.tuple (r.map gc)) rfl (by
     rw[b5 (t:=.list (r.map .str)) (by rw[mj (ts:=(a::r).map .str) (a:=some 1) (b:=none) rfl rfl rfl,uh];rfl)];exact Bu (λp aC=>h.p p (ew _ aC)) (by omega))]
    simp only[aU];rw[if_pos (by simp;unfold big;omega)];rfl)]
   rfl
  ·rw[show gp "ticks" (.str a)=false from decide_eq_false ah,if_neg (by simp)];dsimp only;rw[if_neg ah];have Wz:af oEq (aw eC [(nm 0)]) (aa (.int 3)) [some (.ae (.list ((a::r).map .str)))]=some (.bool (decide (r.length=2))):=by
    rw[bq (t:=.int ((a::r).map hL).length) (u:=.int 3) (by rw[b5 (t:=.list ((a::r).map .str)) rfl];rfl) rfl,bU.l1];congr 3;apply propext;simp;omega
   rw[eJ (tT (cH (k' bp a7 mq)) λ_=>cH Wz)];by_cases ao:a="code"/\r.length=2
   ·rw[if_pos (by
     rw[cX];exact⟨decide_eq_true ao.1,decide_eq_true ao.2⟩),if_pos ao]
    rw[hj (t:=.tuple ((a::r).map .str++[.none])) (by
     rw[bq (t:=.tuple ((a::r).map .str)) (u:=.tuple [.none]) (by rw[b5 (t:=.list ((a::r).map .str)) rfl];rfl) rfl];simp only[aU];rw[if_pos (by simp;unfold big;omega)])]
    rfl
   ·rw[if_neg (by
     rw[cX];exact λq=>ao ⟨of_decide_eq_true q.1,of_decide_eq_true q.2⟩),if_neg ao]
    simp only[bh];rw[b5 (t:=.list ((a::r).map .str)) rfl];rfl
def rG(z:Str):T:=if z="-" then .none else .str z
def kP(ps:List Str):T:=.tuple ((cT ps none (some 2)).map gc++(cT ps (some 2) none).map rG)
def Rc:asc (ls "-"):=oM
def ad6{ps:List Str}(h:kr ps):pZ [.list (ps.map .str)]=some (kP ps):=by
 refine ho ?_
 have aH:=h.l;have cV:=BX ps none (some 2);have cN:=BX ps (some 2) none;show af aU _ _ [some (.ae (.list (ps.map .str)))]=_;rw[bq (t:=.tuple ((cT ps none (some 2)).map gc)) (u:=.tuple ((cT ps (some 2) none).map rG)) (by
  rw[b5 (t:=.list ((cT ps none (some 2)).map .str)) (by rw[mj (ts:=ps.map .str) rfl rfl rfl,tF])];exact Bu (λp aC=>h.p p (tE aC)) (by omega)) (by
  rw[b5 (t:=.list ((cT ps (some 2) none).map rG)) (by
   rw[kO (f:=λt=>rG (q4 t)) (ts:=(cT ps (some 2) none).map .str) (by
    simp only[b9];rw[mj (ts:=ps.map .str) (a:=some 2) (b:=none) rfl rfl rfl,tF];rfl) (by rw[dy];unfold big;omega) λt aN=>by
     obtain⟨p,aC,rfl⟩:=b2.mp aN;have sf:=h.p p (tE aC);simp only[jW];rw[cH (k' (t:=.str p) rfl (jf (d:=0) sf.1 (by omega)) Rc)];show (if gp "-" (.str p)=true then aa .none _ else az 0 _)=some (rG p);unfold rG;by_cases aD:p="-"
     ·rw[show gp "-" (.str p)=true from decide_eq_true aD,if_pos rfl,if_pos aD];rfl
     ·rw[show gp "-" (.str p)=false from decide_eq_false aD,if_neg (by simp),if_neg aD];rfl]
   rw[dW];rfl)]
  rfl)]
 simp only[aU];rw[if_pos (by simp;unfold big;omega)];rfl
end ei
end
section
namespace ei
open D bU PySem
def qa{x:Str}(h:fC (.str x)=true):1<=x.length/\x.length<=4/\∀c∈ls x,97<=c/\c<=122:=by
 simp only[fC,oH,cX,decide_eq_true_eq,List.all_eq_true] at h;exact⟨by omega,by omega,h.2⟩
def vA{x:Str}(h:ha (.str x)=true):x.length=4/\∀c∈ls x,48<=c/\c<=57:=by
 simp only[ha,oH,cX,decide_eq_true_eq,List.all_eq_true] at h;exact⟨by omega,h.2⟩
def yq{x:Str}(h:fC (.str x)=true):asc (ls x):=λa aA=>by
 have:=(qa h).2.2 a aA;omega
def J6{x:Str}(h:ha (.str x)=true):asc (ls x):=λa aA=>by
 have:=(vA h).2 a aA;omega
def oE{l:List Str}{x:Str}(n:Nat)(h:(l.all λs=>decide (s.length<=n))=true)(hx:x∈l):x.length<=n:=of_decide_eq_true (List.all_eq_true.mp h x hx)
def within_int{t:T}{lo hi:Int}(h:fY t lo hi=true):∃i,t=.int i/\lo<=i/\i<=hi:=by
 cases t with
|int i=>
  simp only[fY,cX,decide_eq_true_eq] at h;exact⟨i,rfl,h.1,h.2⟩
|_=>simp[fY] at h
theorem OQ:∀{ts:List T},ts.all oG=true->∃zs:List (Str×Str),ts=zs.map e7/\∀z∈zs,fC (.str z.1)=true/\z.2∈oF
| [],_=>⟨[],rfl,by simp⟩
|t::ts,h=>by
  rw[List.all_cons,cX] at h;obtain⟨x,k,rfl,a0,hx⟩:=Po h.1;obtain⟨zs,rfl,aI⟩:=OQ h.2;refine⟨(x,k)::zs,rfl,λz pB=>?_⟩;rcases bC.mp pB with rfl|pB
  ·exact⟨hx,a0⟩
  ·exact aI z pB
def aeA{t:T}(h:tx t=true):∃rs:List Str,t=.tuple (rs.map .str)/\rs.length<=3/\(∀r∈rs,r∈lH)/\jd rs=true:=by
 cases t with
|tuple ts=>
  simp only[tx,cX,decide_eq_true_eq] at h;obtain⟨ah,ao,aY⟩:=h;refine⟨ts.map q4,?_,by rw[dy];exact ah,λr ax=>?_,aY⟩
  ·rw[dW];congr 1
   conv=>lhs;rw[<- List.map_id ts]
   refine List.map_congr_left λt aN=>?_
   obtain⟨x,rfl,_⟩:=ro (List.all_eq_true.mp ao t aN);rfl
  ·obtain⟨t,aN,rfl⟩:=b2.mp ax;obtain⟨x,rfl,hx⟩:=ro (List.all_eq_true.mp ao t aN);exact hx
|_=>simp[tx] at h
theorem O1:∀{ts:List T},ts.all codeB=true->∃dV:List kU,ts=dV.map eY/\∀k∈dV,ha (.str k.ia)=true/\fC (.str k.hY)=true/\k.j5.length<=3/\(∀r∈k.j5,r∈lH)/\jd k.j5=true/\0<=k.uses/\k.uses<=9
| [],_=>⟨[],rfl,by simp⟩
|t::ts,h=>by
  rw[List.all_cons,cX] at h;obtain⟨f,w,r,u,rfl,hf,hw,ax,cM⟩:=PQ h.1;obtain⟨dV,rfl,a0⟩:=O1 h.2;obtain⟨rs,rfl,ah,ao,gb⟩:=aeA ax;obtain⟨i,rfl,aY,bZ⟩:=within_int cM;refine⟨⟨f,w,rs,i⟩::dV,rfl,λk F2=>?_⟩;rcases bC.mp F2 with rfl|F2
  ·exact⟨hf,hw,ah,ao,gb,aY,bZ⟩
  ·exact a0 k F2
def agv{x:Str}(h:x∈oF):x.length<=100/\asc (ls x):=⟨oE 100 (by decide +kernel) h,QG x h⟩
def afE{x:Str}(h:x∈lH):x.length<=100/\asc (ls x):=⟨oE 100 (by decide +kernel) h,Qr x h⟩
structure Pv(p:b4):Prop where
 g6:1<=p.dY.length
 vr:p.dY.length<=8
 zs:∀z∈p.dY,fC (.str z.1)=true/\z.2∈oF
 KA:jd (p.dY.map (·.1))=true
 c9:1<=p.codes.length
 o8:p.codes.length<=6
 cs:∀k∈p.codes,ha (.str k.ia)=true/\fC (.str k.hY)=true/\k.j5.length<=3/\(∀r∈k.j5,r∈lH)/\jd k.j5=true/\0<=k.uses/\k.uses<=9
 cr:jd (p.codes.map (·.ia))=true
 t1:0<=p.leave/\p.leave<=60
 fk:0<=p.lT/\p.lT<=60
 t3:1<=p.loud/\p.loud<=300
def ahh{t:T}(h:oJ t=true):∃p,t=bG p/\Pv p:=by
 unfold oJ at h;split at h
 next z c m=>
  simp only[cX] at h;obtain⟨aI,au,hm⟩:=h;unfold rr at aI;unfold ry at au;unfold vF at hm;split at aI
  next zt=>
   split at au
   next bJ=>
    split at hm
    next a b c=>
     simp only[cX,decide_eq_true_eq] at aI au hm;obtain⟨⟨⟨g6,vr⟩,za⟩,KA⟩:=aI;obtain⟨⟨⟨c9,o8⟩,ca⟩,cr⟩:=au;obtain⟨hD,hE,js⟩:=hm;obtain⟨zs,rfl,Yc⟩:=OQ za;obtain⟨dV,rfl,F4⟩:=O1 ca;obtain⟨i,rfl,c5,c6⟩:=within_int hD;obtain⟨j,rfl,oa,xg⟩:=within_int hE;obtain⟨l,rfl,cV,cN⟩:=within_int js;rw[dW] at KA cr;rw[dy] at g6 vr c9 o8;exact⟨⟨zs,dV,i,j,l⟩,rfl,g6,vr,Yc,KA,c9,o8,F4,cr,⟨c5,c6⟩,⟨oa,xg⟩,⟨cV,cN⟩⟩
    next=>cases hm
   next=>cases au
  next=>cases aI
 next=>cases h
def Pv.sF{p:b4}(h:Pv p):amn p:=by
 refine⟨h.vr,h.o8,?_,?_,?_,λz aI=>?_,λk a0=>?_⟩
 ·have:=h.t1;omega
 ·have:=h.fk;omega
 ·have:=h.t3;omega
 ·obtain⟨ah,ao⟩:=h.zs z aI;have aY:=qa ah;have bZ:=agv ao;exact⟨by omega,bZ.1,yq ah,bZ.2⟩
 ·obtain⟨ah,ao,aY,bZ,_,ft,jm⟩:=h.cs k a0;have qI:=vA ah;have r5:=qa ao;exact⟨by omega,by omega,aY,λr ax=>afE (bZ r ax),ft,by omega,J6 ah,yq ao⟩
def Cb{rs:List (List Str)}(h:∀ps∈rs,∀q∈ps,asc (ls q)):asc (en rs):=ah7 λp aC=>by
 obtain⟨ps,b6,rfl⟩:=b2.mp aC;refine tH (Cc (by decide) λq aD=>?_) λa aA=>?_
 ·obtain⟨x,hx,rfl⟩:=b2.mp aD;exact h ps b6 x hx
 ·simp at aA;omega
def p'{a:Int}(h:0<=a):asc (ls (cP a)):=ai4 (vg h)
def ajf:asc (ls "times"):=oM
def Rb:asc (ls "zone"):=oM
def ajg:asc (ls "rooms"):=oM
def JC{p:b4}(h:amn p):asc (ls (bH (iS p))):=by
 rw[bH,fZ];refine Cb λps b6 q aD=>?_;rcases bC.mp b6 with rfl|b6
 ·simp only[g7,bC,de,or_false] at aD;rcases aD with rfl|rfl|rfl|rfl
  ·exact ajf
  ·exact p' h.t1.1
  ·exact p' h.fk.1
  ·exact p' h.t3.1
 ·rcases gz.mp b6 with b6|b6
  ·obtain⟨z,aI,rfl⟩:=b2.mp b6;obtain⟨_,_,g6,fb⟩:=h.zn z aI;simp only[hO,bC,de,or_false] at aD;rcases aD with rfl|rfl|rfl
   ·exact Rb
   ·exact g6
   ·exact fb
  ·obtain⟨k,a0,rfl⟩:=b2.mp b6;obtain⟨_,_,_,e9,k5,_,xh,xi⟩:=h.fU k a0;simp only[ix,bC] at aD;rcases aD with rfl|rfl|rfl|rfl|aD
   ·exact mq
   ·exact xh
   ·exact xi
   ·exact p' k5
   ·exact (e9 q aD).2
structure iX(R:Int)(os:List cy.Op):Prop where
 r:1<=R/\R<=7
 l:os.length<=10
 o:∀o∈os,0<=o.1/\o.1<o.2.1/\o.2.1<=R/\∀x,o.2.2=some x->fC (.str x)=true
theorem OU{R:Int}:∀{ts:List T},ts.all (oK (.int R))=true->∃os:List cy.Op,ts=os.map cy.gd/\∀o∈os,0<=o.1/\o.1<o.2.1/\o.2.1<=R/\∀x,o.2.2=some x->fC (.str x)=true
| [],_=>⟨[],rfl,by simp⟩
|t::ts,h=>by
  rw[List.all_cons,cX] at h;obtain⟨os,rfl,aT⟩:=OU h.2;have ah:=h.1;unfold oK at ah;split at ah
  next r a b z e=>
   cases e
   simp only[cX] at ah;obtain⟨ao,aY,bZ⟩:=ah;obtain⟨i,e,c5,c6⟩:=within_int ao;cases e;obtain⟨j,rfl,oa,xg⟩:=within_int aY;rw[Bool.or_eq_true] at bZ;rcases bZ with bZ|bZ
   ·rw[Pc bZ];refine⟨(j,b,none)::os,rfl,λo e8=>?_⟩;rcases bC.mp e8 with rfl|e8
    ·exact⟨oa,show j<b by omega,c6,λx e=>by cases e⟩
    ·exact aT o e8
   ·obtain⟨x,rfl⟩:=Jm bZ;refine⟨(j,b,some x)::os,rfl,λo e8=>?_⟩;rcases bC.mp e8 with rfl|e8
    ·exact⟨oa,show j<b by omega,c6,λy e=>by cases e;exact bZ⟩
    ·exact aT o e8
  next=>cases ah
def ahP{t:T}(h:kh t=true):∃R os,t=cy.e2 R os/\iX R os:=by
 unfold kh at h;split at h
 next r os=>
  simp only[cX,decide_eq_true_eq] at h;obtain⟨ah,ao,aY⟩:=h;obtain⟨R,rfl,bj,cF⟩:=within_int ah;obtain⟨lj,rfl,aT⟩:=OU aY;rw[dy] at ao;exact⟨R,lj,rfl,⟨bj,cF⟩,ao,aT⟩
 next=>cases h
def iX.jw{R:Int}{os:List cy.Op}(h:iX R os):∀o∈os,zg o:=λo aT=>by
 obtain⟨ah,ao,aY,bZ⟩:=h.o o aT;have:=h.r;refine⟨by omega,by omega,λx e=>?_⟩;have:=qa (bZ x e);exact⟨by omega,yq (bZ x e)⟩
def yj{R:Int}{os:List cy.Op}(hS:0<=R)(h:∀o∈os,zg o):asc (ls (bH (eb R os))):=by
 rw[bH,fZ];refine Cb λps b6 q aD=>?_;rcases bC.mp b6 with rfl|b6
 ·simp only[bC,de,or_false] at aD;rcases aD with rfl|rfl
  ·exact ajg
  ·exact p' hS
 ·obtain⟨o,aT,rfl⟩:=b2.mp b6;simp only[jZ,bC,de,or_false] at aD;rcases aD with rfl|rfl|rfl
  ·exact p' (h o aT).a.1
  ·exact p' (h o aT).b.1
  ·cases aI:o.2.2 with
   |none=>exact Rc
   |some x=>exact ((h o aT).z x aI).2
def ne_str{a b:Str}(aA:asc (ls a))(ag:asc (ls b)):dG (.str a) (.str b)=some (.bool !(decide (a=b))):=by
 have h:∀s:Str,asc (ls s)->eV (.str s)=true:=λs aB=>bU.okN.eV (d:=0) ⟨by rw[PyData.canLay0];exact vm aB,by rw[jC];omega⟩;simp only[dG,h a aA,h b ag,Bool.and_self,if_true,BP];rfl
def eq_str{a b:Str}(aA:asc (ls a))(ag:asc (ls b)):oEq (.str a) (.str b)=some (.bool (decide (a=b))):=by
 have h:∀s:Str,asc (ls s)->eV (.str s)=true:=λs aB=>bU.okN.eV (d:=0) ⟨by rw[PyData.canLay0];exact vm aB,by rw[jC];omega⟩;simp only[oEq,h a aA,h b ag,Bool.and_self,if_true,BP];rfl
def rl{b:bx}{r:fp}{ε ε':Ev}(h:b ε=some (.bg ε')):hW b r ε=r ε':=by simp only[hW,h]
def Ku{c:ej}{a b:fp}{ε:Ev}(h:c ε=some true):lY c a b ε=a ε:=by simp only[lY,h]
def hd(s:Str)(ps:List Str):Bool:=decide (ps.head?=some s)
def rB(rs:List (List Str)):T:=.tuple [.tuple ((rs.filter (hd "zone")).map λps=>.tuple (ps.tail.map .str)),.tuple ((rs.filter (hd "code")).map vZ),.tuple (nA rs)]
def yN{d:Nat}(p:Str):cR d (gc p):=by
 unfold gc;split
 ·exact Q7
 ·exact Kv
def tC{d:Nat}{p:Str}(h:asc (ls p)/\p.length<=900000):cR d (.str p):=jf h.1 (by omega)
def JF{rs:List (List Str)}(h:∀r∈rs,kr r):cR 4 (rB rs):=by
 refine cR.kG λt aN=>?_
 simp only[bC,de,or_false] at aN;rcases aN with rfl|rfl|rfl
 ·refine cR.kG λt aN=>?_
  obtain⟨ps,b6,rfl⟩:=b2.mp aN;have ax:=h ps (List.mem_filter.mp b6).1;refine cR.kG (d:=1) λt aN=>?_;obtain⟨q,aD,rfl⟩:=b2.mp aN;exact tC (ax.p q (List.mem_of_mem_tail aD))
 ·refine cR.kG λt aN=>?_
  obtain⟨ps,b6,rfl⟩:=b2.mp aN;have ax:=h ps (List.mem_filter.mp b6).1;refine cR.kG (d:=1) λt aN=>?_;simp only[gz,ka] at aN;rcases aN with (aN|rfl)|aN
  ·obtain⟨q,aD,rfl⟩:=b2.mp aN;exact tC (ax.p q (tE aD))
  ·refine cR.kG (d:=0) λt aN=>?_
   obtain⟨q,aD,rfl⟩:=b2.mp aN;exact tC (ax.p q (tE aD))
  ·obtain⟨q,aD,rfl⟩:=b2.mp aN;exact yN q
 ·refine cR.kG (d:=2) λt aN=>?_
  cases rs with
  |nil=>simp[nA] at aN
  |cons r rs=>
   obtain⟨q,aD,rfl⟩:=b2.mp aN;exact yN q
def Qt{rs:List (List Str)}{f:a_}{ε:Ev}(h:f ε=some (gj rs)):b9 f ε=some (rs.map λps=>.list (ps.map .str)):=by
 simp only[b9,h,bM];rfl
def ak1{s:Str}{ps:List Str}{r:Ev}(aB:asc (ls s))(h:kr ps):a3 (af oEq (af aJ (nm 0) (aa (.int 0))) (aa (.str s))) (some (.ae (.list (ps.map .str)))::r)=some (hd s ps):=by
 cases ps with
|nil=>exact absurd rfl h.ne
|cons a l=>
  rw[cH (k' (t:=.str a) (by rw[bq rfl rfl];exact M_) (tC (d:=0) (h.p a (by simp))) aB)];simp only[gp,hd,List.head?_cons,Option.some.injEq]
def OY{rs:List (List Str)}{s:Str}{e:a_}{g:List Str->T}{ε:Ev}{f:a_}(aB:asc (ls s))(hf:f ε=some (gj rs))(h:∀r∈rs,kr r)(aH:rs.length<=big)(he:∀r∈rs,hd s r=true->e [some (.ae (.list (r.map .str)))]=some (g r)):comp 1 [] (b9 f) (a8 0) (a3 (af oEq (af aJ (nm 0) (aa (.int 0))) (aa (.str s)))) e ε=some (.list ((rs.filter (hd s)).map g)):=by
 rw[Q_ (p:=λt=>hd s (partsOf t)) (f:=λt=>g (partsOf t)) (ts:=rs.map λps=>.list (ps.map .str)) (Qt hf) (by rw[dy];exact aH) (λt aN=>by
  obtain⟨r,ax,rfl⟩:=b2.mp aN;rw[(nr r).2];exact ak1 aB (h r ax)) (λt aN aC=>by
  obtain⟨r,ax,rfl⟩:=b2.mp aN;rw[(nr r).2] at aC ⊢;exact he r ax aC)]
 rw[List.filter_map,dW];congr 2;have:(λt=>hd s (partsOf t)) ∘ (λps:List Str=>PyData.list (ps.map .str))=hd s:=by
  funext ps;exact congrArg (hd s) (nr ps).2
 rw[this];refine List.map_congr_left λr _=>?_;exact congrArg g (nr r).2
def P9{x:Str}(hx:asc (ls x))(aH:x.length<=800000):∃ε:Ev,nm 0 ε=some (.str x)/\az 4 ε=some (rB (ck x))/\nm 4 ε=some (rB (ck x)) /\
  (∀g:bx,seq (asg 1 (aw gg [(az 0)])) (seq (asg 2 (aw dS [(comp 1 [] (b9 (az 1)) (a8 0) (a3 (af oEq (af aJ (nm 0) (aa (.int 0))) (aa (.str "zone")))) (aw dS [(da (nm 0) (opt (aa (.int 1))) optN)]))])) (seq (asg 3 (aw dS [(comp 1 [] (b9 (az 1)) (a8 0) (a3 (af oEq (af aJ (nm 0) (aa (.int 0))) (aa (.str "code")))) (aw p5 [(az 0)]))])) (seq (asg 4 (br [(az 2),(az 3),(aw jD [(az 1)])])) g))) [some (.ae (.str x)),none,none,none,none]=g ε) /\
  (∀r:fp,hW (asg 1 (aw gg [(az 0)])) (hW (asg 2 (aw dS [(comp 1 [] (b9 (az 1)) (a8 0) (a3 (af oEq (af aJ (nm 0) (aa (.int 0))) (aa (.str "zone")))) (aw dS [(da (nm 0) (opt (aa (.int 1))) optN)]))])) (hW (asg 3 (aw dS [(comp 1 [] (b9 (az 1)) (a8 0) (a3 (af oEq (af aJ (nm 0) (aa (.int 0))) (aa (.str "code")))) (aw p5 [(az 0)]))])) (hW (asg 4 (br [(az 2),(az 3),(aw jD [(az 1)])])) r))) [some (.ae (.str x)),none,none,none,none]=r ε):=by
 have hT:=qc hx aH;have z3:=yn x;have ux:(ck x).length<=big:=by unfold big;omega
 have aE:gg [.str x]=some (gj (ck x)):=JS (by omega);have a1:asg 1 (aw gg [(az 0)]) [some (.ae (.str x)),none,none,none,none]=some (.bg [some (.ae (.str x)),some (.ae (gj (ck x))),none,none,none]):=by
  unfold asg;rw[b5 (t:=.str x) rfl,aE];rfl
 have a2:asg 2 (aw dS [(comp 1 [] (b9 (az 1)) (a8 0) (a3 (af oEq (af aJ (nm 0) (aa (.int 0))) (aa (.str "zone")))) (aw dS [(da (nm 0) (opt (aa (.int 1))) optN)]))]) [some (.ae (.str x)),some (.ae (gj (ck x))),none,none,none]=some (.bg [some (.ae (.str x)),some (.ae (gj (ck x))),some (.ae (.tuple (((ck x).filter (hd "zone")).map λps=>.tuple (ps.tail.map .str)))),none,none]):=by
  unfold asg;rw[b5 (t:=.list (((ck x).filter (hd "zone")).map λps=>.tuple (ps.tail.map .str))) (OY Rb rfl hT ux λr ax _=>by
   rw[b5 (t:=.list (r.tail.map .str)) (by rw[mj (ts:=r.map .str) (a:=some 1) (b:=none) rfl rfl rfl,uh,List.map_tail])];rfl)]
  rfl
 have jL:asg 3 (aw dS [(comp 1 [] (b9 (az 1)) (a8 0) (a3 (af oEq (af aJ (nm 0) (aa (.int 0))) (aa (.str "code")))) (aw p5 [(az 0)]))]) [some (.ae (.str x)),some (.ae (gj (ck x))),some (.ae (.tuple (((ck x).filter (hd "zone")).map λps=>.tuple (ps.tail.map .str)))),none,none]=some (.bg [some (.ae (.str x)),some (.ae (gj (ck x))),some (.ae (.tuple (((ck x).filter (hd "zone")).map λps=>.tuple (ps.tail.map .str)))),some (.ae (.tuple (((ck x).filter (hd "code")).map vZ))),none]):=by
  unfold asg;rw[b5 (t:=.list (((ck x).filter (hd "code")).map vZ)) (OY mq rfl hT ux λr ax _=>by
   rw[b5 (t:=.list (r.map .str)) rfl];exact aeS (hT r ax))]
  rfl
 have al4:asg 4 (br [(az 2),(az 3),(aw jD [(az 1)])]) [some (.ae (.str x)),some (.ae (gj (ck x))),some (.ae (.tuple (((ck x).filter (hd "zone")).map λps=>.tuple (ps.tail.map .str)))),some (.ae (.tuple (((ck x).filter (hd "code")).map vZ))),none]=some (.bg [some (.ae (.str x)),some (.ae (gj (ck x))),some (.ae (.tuple (((ck x).filter (hd "zone")).map λps=>.tuple (ps.tail.map .str)))),some (.ae (.tuple (((ck x).filter (hd "code")).map vZ))),some (.ae (rB (ck x)))]):=by
  unfold asg br;simp only[args];rw[b5 (t:=gj (ck x)) rfl,Qq hT];rfl
 exact⟨_,rfl,rfl,rfl,λg=>by rw[bU.cG a1,bU.cG a2,bU.cG jL,bU.cG al4],λr=>by rw[rl a1,rl a2,rl jL,rl al4]⟩
def aeC{x:Str}(hx:asc (ls x))(aH:x.length<=800000){p:b4}(cL:rB (ck x)=bG p)(ba:Pv p)(aC:oJ (bG p)=true)(aD:bH (iS p)=x):p4 [.str x]=some (bG p):=by
 obtain⟨ε,alX,hU,uQ,aB,aI⟩:=P9 hx aH;have ah:aw nt [(az 4)] ε=some (.bool true):=by
  rw[b5 hU,JB (d:=0) (JF (qc hx aH)) (by omega),cL,aC]
 have aY:af dG (aw kM [(az 4)]) (nm 0) ε=some (.bool !(decide (bH (iS p)=x))):=by
  rw[bq (t:=.str (bH (iS p))) (by rw[b5 hU,cL];exact Bc ba.sF) alX];exact ne_str (JC ba.sF) hx
 have bZ:=gk (eF (cH ah)) λ_=>cH aY;unfold p4 bV O2;show (seq _ _ [some (.ae (.str x)),none,none,none,none]).bind _=_;rw[aB,eJ bZ,decide_eq_true aD,if_neg (by simp)];simp only[bh,uQ,cL];rfl
def OK{x:Str}(hx:asc (ls x))(aH:x.length<=800000):oB [.ae (.str x)]=true\/∃p,p4 [.str x]=some (bG p)/\Pv p/\bH (iS p)=x/\cR 4 (bG p)/\oJ (bG p)=true/\rB (ck x)=bG p:=by
 obtain⟨ε,alX,hU,uQ,aB,aI⟩:=P9 hx aH;have hT:=qc hx aH;have ah:aw nt [(az 4)] ε=some (.bool (oJ (rB (ck x)))):=by
  rw[b5 hU];exact JB (d:=0) (JF hT) (by omega)
 have rH:∀c:ej,c ε=some true->IX [some (.ae (.str x)),none,none,none,none]=lY c (D.qY (aa (.str "this is no text of a plan"))) sy ε->oB [.ae (.str x)]=true:=λc au e=>by
  show IX [some (.ae (.str x)),none,none,none,none]=true
  rw[e,Ku au];rfl
 cases aC:oJ (rB (ck x)) with
|false=>
  rw[aC] at ah;exact .inl (rH _ (gk (a:=true) (b:=false) (eF (cH ah)) λq=>by cases q) (aI _))
|true=>
  rw[aC] at ah;obtain⟨p,cL,ba⟩:=ahh aC;have aY:af dG (aw kM [(az 4)]) (nm 0) ε=some (.bool !(decide (bH (iS p)=x))):=by
   rw[bq (t:=.str (bH (iS p))) (by rw[b5 hU,cL];exact Bc ba.sF) alX];exact ne_str (JC ba.sF) hx
  have bZ:=gk (eF (cH ah)) λ_=>cH aY;by_cases aD:bH (iS p)=x
  ·exact .inr ⟨p,aeC hx aH cL ba (by rw[<- cL];exact aC) aD,ba,aD,by rw[<- cL];exact JF hT,by rw[<- cL];exact aC,cL⟩
  ·refine .inl (rH _ ?_ (aI _))
   rw[bZ,decide_eq_false aD];rfl
end ei
end
section
namespace ei
open D bU PySem
def nx(rs:List (List Str)):T:=.tuple (nA rs++[.tuple (rs.tail.map kP)])
def ahS{ps:List Str}(h:kr ps):cR 1 (kP ps):=cR.kG (d:=0) λt aN=>by
 rcases gz.mp aN with aN|aN
 ·obtain⟨q,aD,rfl⟩:=b2.mp aN;exact yN q
 ·obtain⟨q,aD,rfl⟩:=b2.mp aN;unfold rG;split
  ·exact Kv
  ·exact tC (h.p q (tE aD))
def ahT{rs:List (List Str)}{d:Nat}:∀t∈nA rs,cR d t:=λt aN=>by
 cases rs with
|nil=>simp[nA] at aN
|cons r rs=>
  obtain⟨q,aD,rfl⟩:=b2.mp aN;exact yN q
def Bw{rs:List (List Str)}(h:∀r∈rs,kr r):cR 3 (nx rs):=cR.kG λt aN=>by
 rcases gz.mp aN with aN|aN
 ·exact ahT t aN
 ·rw[ka] at aN;subst aN;refine cR.kG λt aN=>?_;obtain⟨ps,b6,rfl⟩:=b2.mp aN;exact ahS (h ps (List.mem_of_mem_tail b6))
def agY{rs:List (List Str)}(h:∀r∈rs,kr r):(nA rs).length<=900000:=by
 cases rs with
|nil=>simp[nA]
|cons r rs=>
  have:=(h r (by simp)).l;simp[nA];omega
def JA{x:Str}(hx:asc (ls x))(aH:x.length<=800000):∃ε:Ev,nm 0 ε=some (.str x)/\az 3 ε=some (nx (ck x))/\nm 3 ε=some (nx (ck x)) /\
  (∀g:bx,seq (asg 1 (aw gg [(az 0)])) (seq (asg 2 (aw dS [(comp 1 [] (b9 (da (nm 1) (opt (aa (.int 1))) optN)) (a8 0) (ct true) (aw pZ [(az 0)]))])) (seq (asg 3 (af aU (aw jD [(az 1)]) (br [(az 2)]))) g)) [some (.ae (.str x)),none,none,none]=g ε) /\
  (∀r:fp,hW (asg 1 (aw gg [(az 0)])) (hW (asg 2 (aw dS [(comp 1 [] (b9 (da (nm 1) (opt (aa (.int 1))) optN)) (a8 0) (ct true) (aw pZ [(az 0)]))])) (hW (asg 3 (af aU (aw jD [(az 1)]) (br [(az 2)]))) r)) [some (.ae (.str x)),none,none,none]=r ε):=by
 have hT:=qc hx aH;have z3:=yn x;have ux:(ck x).length<=big:=by unfold big;omega
 have kz:=agY hT;have aE:gg [.str x]=some (gj (ck x)):=JS (by omega);have a1:asg 1 (aw gg [(az 0)]) [some (.ae (.str x)),none,none,none]=some (.bg [some (.ae (.str x)),some (.ae (gj (ck x))),none,none]):=by
  unfold asg;rw[b5 (t:=.str x) rfl,aE];rfl
 have a2:asg 2 (aw dS [(comp 1 [] (b9 (da (nm 1) (opt (aa (.int 1))) optN)) (a8 0) (ct true) (aw pZ [(az 0)]))]) [some (.ae (.str x)),some (.ae (gj (ck x))),none,none]=some (.bg [some (.ae (.str x)),some (.ae (gj (ck x))),some (.ae (.tuple ((ck x).tail.map kP))),none]):=by
  unfold asg;rw[b5 (t:=.list ((ck x).tail.map kP)) (by
   rw[kO (f:=λt=>kP (partsOf t)) (ts:=(ck x).tail.map λps=>.list (ps.map .str)) (by
    simp only[b9];rw[mj (ts:=(ck x).map λps=>.list (ps.map .str)) (a:=some 1) (b:=none) rfl rfl rfl,uh,List.map_tail];rfl) (by rw[dy,List.length_tail];omega) λt aN=>by
     obtain⟨r,ax,rfl⟩:=b2.mp aN;rw[b5 (t:=.list (r.map .str)) rfl,(nr r).2];exact ad6 (hT r (List.mem_of_mem_tail ax))]
   rw[dW];congr 2;exact List.map_congr_left λr _=>congrArg kP (nr r).2)]
  rfl
 have jL:asg 3 (af aU (aw jD [(az 1)]) (br [(az 2)])) [some (.ae (.str x)),some (.ae (gj (ck x))),some (.ae (.tuple ((ck x).tail.map kP))),none]=some (.bg [some (.ae (.str x)),some (.ae (gj (ck x))),some (.ae (.tuple ((ck x).tail.map kP))),some (.ae (nx (ck x)))]):=by
  unfold asg;rw[bq (t:=.tuple (nA (ck x))) (u:=.tuple [.tuple ((ck x).tail.map kP)]) (by rw[b5 (t:=gj (ck x)) rfl];exact Qq hT) rfl];simp only[aU];rw[if_pos (by simp;unfold big;omega)];rfl
 exact⟨_,rfl,rfl,rfl,λg=>by rw[bU.cG a1,bU.cG a2,bU.cG jL],λr=>by rw[rl a1,rl a2,rl jL]⟩
def OF{x:Str}(hx:asc (ls x))(aH:x.length<=800000){R:Int}{os:List cy.Op}(cL:nx (ck x)=cy.e2 R os)(ba:iX R os)(aC:kh (cy.e2 R os)=true)(aD:bH (eb R os)=x):ni [.str x]=some (cy.e2 R os):=by
 obtain⟨ε,alX,hU,uQ,aB,aI⟩:=JA hx aH;have hS:0<=R/\R<1000000000:=by have:=ba.r;omega
 have ah:aw lE [(az 3)] ε=some (.bool true):=by
  rw[b5 hU,BJ (d:=0) (Bw (qc hx aH)) (by omega),cL,aC]
 have aY:af dG (aw kd [(az 3)]) (nm 0) ε=some (.bool !(decide (bH (eb R os)=x))):=by
  rw[bq (t:=.str (bH (eb R os))) (by rw[b5 hU,cL];exact xU hS ba.jw (by have:=ba.l;omega)) alX];exact ne_str (yj hS.1 ba.jw) hx
 have bZ:=gk (eF (cH ah)) λ_=>cH aY;unfold ni bV OM;show (seq _ _ [some (.ae (.str x)),none,none,none]).bind _=_;rw[aB,eJ bZ,decide_eq_true aD,if_neg (by simp)];simp only[bh,uQ,cL];rfl
def OE{x:Str}(hx:asc (ls x))(aH:x.length<=800000):md [.ae (.str x)]=true\/∃R os,ni [.str x]=some (cy.e2 R os)/\iX R os/\bH (eb R os)=x/\cR 3 (cy.e2 R os)/\kh (cy.e2 R os)=true/\nx (ck x)=cy.e2 R os:=by
 obtain⟨ε,alX,hU,uQ,aB,aI⟩:=JA hx aH;have hT:=qc hx aH;have ah:aw lE [(az 3)] ε=some (.bool (kh (nx (ck x)))):=by
  rw[b5 hU];exact BJ (d:=0) (Bw hT) (by omega)
 have rH:∀c:ej,c ε=some true->xT [some (.ae (.str x)),none,none,none]=lY c (D.qY (aa (.str "this is no text of a house"))) sy ε->md [.ae (.str x)]=true:=λc au e=>by
  show xT [some (.ae (.str x)),none,none,none]=true
  rw[e,Ku au];rfl
 cases aC:kh (nx (ck x)) with
|false=>
  rw[aC] at ah;exact .inl (rH _ (gk (a:=true) (b:=false) (eF (cH ah)) λq=>by cases q) (aI _))
|true=>
  rw[aC] at ah;obtain⟨R,os,cL,ba⟩:=ahP aC;have hS:0<=R/\R<1000000000:=by have:=ba.r;omega
  have aY:af dG (aw kd [(az 3)]) (nm 0) ε=some (.bool !(decide (bH (eb R os)=x))):=by
   rw[bq (t:=.str (bH (eb R os))) (by rw[b5 hU,cL];exact xU hS ba.jw (by have:=ba.l;omega)) alX];exact ne_str (yj hS.1 ba.jw) hx
  have bZ:=gk (eF (cH ah)) λ_=>cH aY;by_cases aD:bH (eb R os)=x
  ·exact .inr ⟨R,os,OF hx aH cL ba (by rw[<- cL];exact aC) aD,ba,aD,by rw[<- cL];exact Bw hT,by rw[<- cL];exact aC,cL⟩
  ·refine .inl (rH _ ?_ (aI _))
   rw[bZ,decide_eq_false aD];rfl
def Q8{ps:List Str}(h:kr ps):cR 1 (fs ps):=by
 cases ps with
|nil=>exact absurd rfl h.ne
|cons a r=>
  unfold fs;dsimp only;split
  ·refine cR.kG (d:=0) λt aN=>?_
   rcases bC.mp aN with rfl|aN
   ·exact jf qd (by decide)
   ·obtain⟨q,aD,rfl⟩:=b2.mp aN;exact yN q
  ·split
   ·refine cR.kG (d:=0) λt aN=>?_
    rcases gz.mp aN with aN|aN
    ·obtain⟨q,aD,rfl⟩:=b2.mp aN;exact tC (h.p q aD)
    ·rw[ka] at aN;subst aN;exact Kv
   ·refine cR.kG (d:=0) λt aN=>?_
    obtain⟨q,aD,rfl⟩:=b2.mp aN;exact tC (h.p q aD)
def agH{ps:List Str}{n:Int}(h:kr ps)(e:fs ps=.tuple [.str "ticks",.int n]):∃q∈ps,nU q=true/\n=(eR (ls q):Nat):=by
 cases ps with
|nil=>simp[fs] at e
|cons a r=>
  unfold fs at e;dsimp only at e;split at e
  ·simp only[PyData.tuple.injEq,List.cons.injEq,true_and] at e;cases r with
   |nil=>simp at e
   |cons q r=>
    simp only[eI,List.cons.injEq] at e;have aK:=e.1;unfold gc at aK;split at aK
    next hd=>
     exact⟨q,by simp,hd,by
      have:=PyData.int.inj aK;exact this.symm⟩
    next=>cases aK
  ·split at e
   ·rename_i au
    simp only[PyData.tuple.injEq] at e;have:=congrArg List.length e;rw[iq,dy,fM,au.2] at this;simp at this
   ·simp only[PyData.tuple.injEq,eI,List.cons.injEq] at e;have aK:=e.2;cases r with
    |nil=>simp at aK
    |cons q r=>simp at aK
def afv{q:Str}(h:dig (ls q))(ah:1<=q.length):(cP ((eR (ls q):Nat):Int)).length<=q.length:=by
 rw[er,rj,dy];refine (Nat.length_toDigits_le_iff (by decide) (by omega)).mpr ?_;have:=KX h;rw[<- er] at this;exact this
def alb(k:Nat):df ^ k=((10 ^ (64*k):Nat):Int):=by
 unfold df;rw[<- Int.pow_mul,Int.natCast_pow];rfl
def Wo{q:Str}(h:dig (ls q))(aH:q.length<=60000):((eR (ls q):Nat):Int)<df ^ 1000:=by
 have ah:=KX h;rw[<- er] at ah;have ao:(10:Nat) ^ q.length<=10 ^ (64*1000):=Nat.pow_le_pow_right (by decide) (by omega);rw[alb 1000];exact Int.ofNat_lt.mpr (il ah ao)
noncomputable def gq(p:b4):dU->Prop
|.line z w=>z∈iu p/\w∈qi
|.code f d z=>ha (.str f)=true/\((z=none/\d∈(["set","unset"]:List Str))\/∃x,z=some x/\x∈iu p/\d∈(["shunt","free"]:List Str))
|.ef n=>1<=n
def PL{p:b4}{t:T}(h:jE p t=true):∃e:dU,t=cu e/\gq p e:=by
 obtain⟨e,ah,ao⟩:=agG h;refine⟨e,ah,?_⟩;cases e with
|line z w=>exact ao
|code f d z=>exact ao
|ef n=>exact ao
structure t9(p:b4):Prop where
 ok:wg p
 n:∀s∈iu p,s.length<=4
def ak5{p:b4}(aC:t9 p){L:Nat}(ff:L<=4000){ps:List Str}(h:kr ps)(aD:∀q∈ps,q.length<=L){e:dU}(e0:fs ps=cu e)(he:gq p e):kV 4025 e:=by
 have bj:∀{ps:List Str},ps.length<=4->(∀q∈ps,q.length<=5)->(dK ps).length<=4025:=λ{ps} ah ao=>by
  have:=ml ah ao;omega
 cases e with
|line z w=>
  obtain⟨ah,ao⟩:=he;have cV:=aC.n z ah;have cN:w.length<=4:=oE 4 (by decide +kernel) ao;refine⟨λx hx=>?_,λn e=>(by cases e),bj (by simp[b8]) λx hx=>?_⟩
  ·simp only[b8,bC,de,or_false] at hx;rcases hx with rfl|rfl|rfl
   ·exact⟨yP,by decide⟩
   ·exact⟨aC.ok.z _ ah,by omega⟩
   ·exact⟨Ka _ ao,by omega⟩
  ·simp only[b8,bC,de,or_false] at hx;rcases hx with rfl|rfl|rfl
   ·decide
   ·omega
   ·omega
|code f d z=>
  obtain⟨ah,ao⟩:=he;have cV:=(vA ah).1;have a1:=J6 ah;rcases ao with ⟨rfl,ao⟩|⟨x,rfl,aY,ao⟩
  ·have cN:d.length<=5:=oE 5 (by decide +kernel) ao;refine⟨λx hx=>?_,λn e=>(by cases e),bj (by simp[b8]) λx hx=>?_⟩
   ·simp only[b8,bC,de,or_false] at hx;rcases hx with rfl|rfl|rfl
    ·exact⟨mq,by decide⟩
    ·exact⟨a1,by omega⟩
    ·exact⟨DI _ ao,by omega⟩
   ·simp only[b8,bC,de,or_false] at hx;rcases hx with rfl|rfl|rfl
    ·decide
    ·omega
    ·omega
  ·have cN:d.length<=5:=oE 5 (by decide +kernel) ao;have so:=aC.n x aY;refine⟨λy hx=>?_,λn e=>(by cases e),bj (by simp[b8]) λy hx=>?_⟩
   ·simp only[b8,bC,de,or_false] at hx;rcases hx with rfl|rfl|rfl|rfl
    ·exact⟨mq,by decide⟩
    ·exact⟨a1,by omega⟩
    ·exact⟨DJ _ ao,by omega⟩
    ·exact⟨aC.ok.z _ aY,by omega⟩
   ·simp only[b8,bC,de,or_false] at hx;rcases hx with rfl|rfl|rfl|rfl
    ·decide
    ·omega
    ·omega
    ·omega
|ef n=>
  obtain⟨q,z2,hd,rfl⟩:=agH h e0;obtain⟨ah,ao⟩:=Ql hd;have cV:=aD q z2;have cN:=afv ah ao;refine⟨λx hx=>?_,λn e=>?_,?_⟩
  ·simp only[b8,bC,de,or_false] at hx;rcases hx with rfl|rfl
   ·exact⟨qd,by decide⟩
   ·exact⟨p' (by omega),by omega⟩
  ·cases e
   exact⟨by omega,Wo ah (by omega)⟩
  ·have e:(dK (b8 (.ef ((eR (ls q):Nat):Int)))).length=5+1+(cP ((eR (ls q):Nat):Int)).length+1:=by
    rw[er (cP _)];have jM:(ls "ticks").length=5:=by decide +kernel
    simp only[dK,b8,eI,lz,c0,iq,fM,List.length_nil,jM];omega
   rw[e];omega
def tw{ar:List dU}{B:Nat}(h:∀e∈ar,kV B e):asc (ls (bH (ar.map b8))):=by
 rw[bH,fZ];refine Cb λps b6 q aD=>?_;obtain⟨e,he,rfl⟩:=b2.mp b6;exact ((h e he).s q aD).1
theorem OL{p:b4}:∀{ts:List T},ts.all (jE p)=true->∃ar:List dU,ts=ar.map cu/\∀e∈ar,gq p e
| [],_=>⟨[],rfl,by simp⟩
|t::ts,h=>by
  rw[List.all_cons,cX] at h;obtain⟨e,rfl,he⟩:=PL h.1;obtain⟨ar,rfl,w4⟩:=OL h.2;refine⟨e::ar,rfl,λbu r_=>?_⟩;rcases bC.mp r_ with rfl|r_
  ·exact he
  ·exact w4 bu r_
def Jz{p:b4}(aC:t9 p){x:Str}(hx:asc (ls x))(aH:x.length<=800000):∃ε:Ev,nm 1 ε=some (.str x)/\az 2 ε=some (.tuple ((ck x).map fs))/\nm 2 ε=some (.tuple ((ck x).map fs)) /\
  aw iU [(comp 1 [0] (b9 (az 2)) (a8 0) (ct true) (aw nk [(az 1),(az 0)]))] ε=some (.bool (((ck x).map fs).all (jE p))) /\
  (∀g:bx,seq (asg 2 (aw dS [(comp 1 [] (b9 (aw gg [(az 1)])) (a8 0) (ct true) (aw oA [(az 0)]))])) g [some (.ae (bG p)),some (.ae (.str x)),none]=g ε) /\
  (∀r:fp,hW (asg 2 (aw dS [(comp 1 [] (b9 (aw gg [(az 1)])) (a8 0) (ct true) (aw oA [(az 0)]))])) r [some (.ae (bG p)),some (.ae (.str x)),none]=r ε):=by
 have hT:=qc hx aH;have z3:=yn x;have ux:(ck x).length<=big:=by unfold big;omega
 have aE:gg [.str x]=some (gj (ck x)):=JS (by omega);have a2:asg 2 (aw dS [(comp 1 [] (b9 (aw gg [(az 1)])) (a8 0) (ct true) (aw oA [(az 0)]))]) [some (.ae (bG p)),some (.ae (.str x)),none]=some (.bg [some (.ae (bG p)),some (.ae (.str x)),some (.ae (.tuple ((ck x).map fs)))]):=by
  unfold asg;rw[b5 (t:=.list ((ck x).map fs)) (by
   rw[kO (f:=λt=>fs (partsOf t)) (ts:=(ck x).map λps=>.list (ps.map .str)) (Qt (by rw[b5 (t:=.str x) rfl];exact aE)) (by rw[dy];exact ux) λt aN=>by
     obtain⟨r,ax,rfl⟩:=b2.mp aN;rw[b5 (t:=.list (r.map .str)) rfl,(nr r).2];exact aep (hT r ax)]
   rw[dW];congr 2;exact List.map_congr_left λr _=>congrArg fs (nr r).2)]
  rfl
 refine⟨_,rfl,rfl,rfl,?_,λg=>by rw[bU.cG a2],λr=>by rw[rl a2]⟩
 refine v3 (ts:=(ck x).map fs) rfl (by rw[dy];exact ux) λt aN=>?_
 obtain⟨r,ax,rfl⟩:=b2.mp aN;rw[l4 (t:=bG p) (u:=fs r) rfl rfl];exact PK aC.ok (d:=0) (Q8 (hT r ax)) (by omega)
def OT{p:b4}(aC:t9 p){x:Str}(hx:asc (ls x))(aH:x.length<=800000){ar:List dU}{B:Nat}(e0:(ck x).map fs=ar.map cu)(hz:∀e∈ar,kV B e)(ag:ar.length*B<=16777216)(jn:B<=16777216)(w4:∀e∈ar,jE p (cu e)=true)(aD:bH (ar.map b8)=x):nj [bG p,.str x]=some (.tuple (ar.map cu)):=by
 obtain⟨ε,fj,fK,H0,ah,aB,aI⟩:=Jz aC hx aH;have hlen:ar.length=(ck x).length:=by
  have:=congrArg List.length e0;simpa using this.symm
 have z3:=yn x;have aA:((ck x).map fs).all (jE p)=true:=by
  rw[e0,List.all_eq_true];intro t aN;obtain⟨e,he,rfl⟩:=b2.mp aN;exact w4 e he
 rw[aA] at ah;have aY:af dG (aw kN [(az 2)]) (nm 1) ε=some (.bool !(decide (bH (ar.map b8)=x))):=by
  rw[bq (t:=.str (bH (ar.map b8))) (by rw[b5 fK,e0];exact x3 hz ag (by omega) jn) fj];exact ne_str (tw hz) hx
 have bZ:=gk (eF (cH ah)) λ_=>cH aY;unfold nj bV Pl;show (seq _ _ [some (.ae (bG p)),some (.ae (.str x)),none]).bind _=_;rw[aB,eJ bZ,decide_eq_true aD,if_neg (by simp)];simp only[bh,H0,e0];rfl
def OS{p:b4}(aC:t9 p){x:Str}(hx:asc (ls x))(aH:x.length<=4000):mf [.ae (bG p),.ae (.str x)]=true\/∃ar:List dU,nj [bG p,.str x]=some (.tuple (ar.map cu))/\(∀e∈ar,kV 4025 e)/\(∀e∈ar,jE p (cu e)=true)/\ar.length<=4000/\bH (ar.map b8)=x/\(∀e∈ar,cR 1 (cu e))/\(ck x).map fs=ar.map cu:=by
 have hT:=qc hx (by omega);have z3:=yn x;obtain⟨ε,fj,fK,H0,ah,aB,aI⟩:=Jz aC hx (by omega);have rH:∀c:ej,c ε=some true->x4 [some (.ae (bG p)),some (.ae (.str x)),none]=lY c (D.qY (aa (.str "this is no text of a row"))) sy ε->mf [.ae (bG p),.ae (.str x)]=true:=λc au e=>by
  show x4 [some (.ae (bG p)),some (.ae (.str x)),none]=true
  rw[e,Ku au];rfl
 cases aA:((ck x).map fs).all (jE p) with
|false=>
  rw[aA] at ah;exact .inl (rH _ (gk (a:=true) (b:=false) (eF (cH ah)) λq=>by cases q) (aI _))
|true=>
  rw[aA] at ah;obtain⟨ar,e0,w4⟩:=OL aA;have hlen:ar.length=(ck x).length:=by
   have:=congrArg List.length e0;simpa using this.symm
  have hz:∀e∈ar,kV 4025 e:=by
   intro e he;have:cu e∈(ck x).map fs:=by rw[e0];exact b2.mpr ⟨e,he,rfl⟩
   obtain⟨ps,b6,aK⟩:=b2.mp this;exact ak5 aC aH (hT ps b6) (λq aD=>((P_ hx b6).2.2 q aD).2.1) aK (w4 e he)
  have zS:∀e∈ar,jE p (cu e)=true:=λe he=>List.all_eq_true.mp aA _ (by rw[e0];exact b2.mpr ⟨e,he,rfl⟩);have aY:af dG (aw kN [(az 2)]) (nm 1) ε=some (.bool !(decide (bH (ar.map b8)=x))):=by
   rw[bq (t:=.str (bH (ar.map b8))) (by rw[b5 fK,e0];exact x3 hz (by omega) (by omega) (by omega)) fj];exact ne_str (tw hz) hx
  have bZ:=gk (eF (cH ah)) λ_=>cH aY;by_cases aD:bH (ar.map b8)=x
  ·refine .inr ⟨ar,OT aC hx (by omega) e0 hz (by omega) (by omega) zS aD,hz,zS,by omega,aD,λe he=>?_,e0⟩
   have:cu e∈(ck x).map fs:=by rw[e0];exact b2.mpr ⟨e,he,rfl⟩
   obtain⟨ps,b6,aK⟩:=b2.mp this;rw[<- aK];exact Q8 (hT ps b6)
  ·refine .inl (rH _ ?_ (aI _))
   rw[bZ,decide_eq_false aD];rfl
end ei
end
section
namespace ei
open D bU PySem
theorem BN:∀{ss:List Str},ss.Pairwise (λa b=>strLt a b=true)->jd ss=true
| [],_=>rfl
| [x],_=>rfl
|x::y::r,h=>by
  rw[List.pairwise_cons] at h;simp only[jd,h.1 y (by simp),Bool.true_and];exact BN h.2
def pw_z:(kn.map (·.2)).Pairwise (λa b=>strLt a b=true):=by decide +kernel
def pw_c:(o_.map (·.2)).Pairwise (λa b=>strLt a b=true):=by decide +kernel
def pw_r:lH.Pairwise (λa b=>strLt a b=true):=by decide +kernel
def vO{l:List Str}{f:Str->Bool}(h:l.all f=true){x:Str}(hx:x∈l):f x=true:=List.all_eq_true.mp h x hx
def ZO:(kn.map (·.2)).all (λs=>fC (.str s))=true:=by decide +kernel
def ZJ:(o_.map (·.2)).all (λs=>ha (.str s))=true:=by decide +kernel
def ZN:xH.all (λs=>fC (.str s))=true:=by decide +kernel
def ZK:kinds.all (λs=>decide (s∈oF))=true:=by decide +kernel
def akI{p:b4}(h:lM p):Pv p:=by
 refine⟨?_,h.Kc,λz aI=>⟨?_,?_⟩,BN (pw_z.sublist h.zs),?_,h.cl,λk a0=>?_,BN (pw_c.sublist h.cs),?_,?_,?_⟩
 ·have:=List.length_pos_iff.mpr h.q';omega
 ·exact vO ZO (h.zs.subset (b2.mpr ⟨z,aI,rfl⟩))
 ·exact of_decide_eq_true (vO ZK (h.zk z aI))
 ·have:=List.length_pos_iff.mpr h.ug;omega
 ·obtain⟨ah,ao,aY⟩:=h.EA k a0;refine⟨vO ZJ (h.cs.subset (b2.mpr ⟨k,a0,rfl⟩)),vO ZN ah,ao.length_le,λr ax=>ao.subset ax,BN (pw_r.sublist ao),?_,?_⟩
  ·simp only[bC,de,or_false] at aY;omega
  ·simp only[bC,de,or_false] at aY;omega
 ·have:=h.m9;simp only[bC,de,or_false] at this;omega
 ·have:=h.j9;simp only[bC,de,or_false] at this;omega
 ·have:=h.to;simp only[bC,de,or_false] at this;omega
def ru{p:b4}(h:Pv p):t9 p:=by
 refine⟨⟨λs aB=>?_,?_⟩,λs aB=>?_⟩
 ·obtain⟨z,aI,rfl⟩:=b2.mp aB;exact yq (h.zs z aI).1
 ·have:=h.vr;omega
 ·obtain⟨z,aI,rfl⟩:=b2.mp aB;have:=qa (h.zs z aI).1;omega
def rk{a:Int}{k:Nat}(h0:0<=a)(a0:0<k)(h:a.toNat<10 ^ k):(cP a).length<=k:=by
 rw[p_ h0,er,rj,dy];exact (Nat.length_toDigits_le_iff (by decide) a0).mpr h
def B2{rs:List (List Str)}{B:Nat}(h:∀ps∈rs,(dK ps).length<=B):(en rs).length<=rs.length*B:=by
 induction rs with
|nil=>simp[en]
|cons r rs d0=>
  have ah:=h r (by simp);have ao:=d0 λps b6=>h ps (ew _ b6);simp only[en,eI,s7,iq,fM] at ao ⊢;have e:(rs.length+1)*B=rs.length*B+B:=by rw[Nat.add_mul,Nat.one_mul]
  omega
def B1(rs:List (List Str)):(bH rs).length=(en rs).length:=by rw[er,bH,fZ]
def ahg{p:b4}(h:Pv p):(bH (iS p)).length<=440:=by
 rw[B1];have e:en (iS p)=dK (g7 p)++(en (p.dY.map hO)++en (p.codes.map ix)):=by
  simp[en,iS]
 rw[e,iq,iq];have ah:(dK (g7 p)).length<=4*(5+1)+1:=by
  refine ml (by simp[g7]) λq aD=>?_
  have t1:=h.t1;have fk:=h.fk;have t3:=h.t3;simp only[g7,bC,de,or_false] at aD;rcases aD with rfl|rfl|rfl|rfl
  ·decide
  ·exact rk (by omega) (by decide) (by omega)
  ·exact rk (by omega) (by decide) (by omega)
  ·exact rk (by omega) (by decide) (by omega)
 have ao:=B2 (rs:=p.dY.map hO) (B:=3*(5+1)+1) λps b6=>by
  obtain⟨z,aI,rfl⟩:=b2.mp b6;obtain⟨g6,fb⟩:=h.zs z aI;have oC:=qa g6;refine ml (by simp[hO]) λq aD=>?_;simp only[hO,bC,de,or_false] at aD;rcases aD with rfl|rfl|rfl
  ·decide
  ·omega
  ·exact oE 5 (by decide +kernel) fb
 have aY:=B2 (rs:=p.codes.map ix) (B:=7*(5+1)+1) λps b6=>by
  obtain⟨k,a0,rfl⟩:=b2.mp b6;obtain⟨k1,k2,k3,e9,_,k5,ob⟩:=h.cs k a0;have f1:=vA k1;have f2:=qa k2;refine ml (by simp[ix];omega) λq aD=>?_;simp only[ix,bC] at aD;rcases aD with rfl|rfl|rfl|rfl|aD
  ·decide
  ·omega
  ·omega
  ·exact rk k5 (by decide) (by omega)
  ·exact oE 5 (by decide +kernel) (e9 q aD)
 rw[dy] at ao aY;have:=h.vr;have:=h.o8;omega
def ak0{R:Int}{os:List cy.Op}(h:cy.Drawn R os):iX R os:=by
 refine⟨⟨h.bj,h.sI⟩,h.len,λo aT=>?_⟩
 obtain⟨ah,ao,aY,bZ⟩:=h.ok o aT;refine⟨ah,ao,aY,λx hx=>vO (l:=cy.names5) (f:=λs=>fC (.str s)) (by decide +kernel) (bZ x hx)⟩
def Jn{R:Int}{os:List cy.Op}(h:iX R os):(bH (eb R os)).length<=440:=by
 rw[B1];have ax:=h.r;have:=B2 (rs:=eb R os) (B:=3*(5+1)+1) λps b6=>by
  rcases bC.mp b6 with rfl|b6
  ·refine ml (by simp) λq aD=>?_
   simp only[bC,de,or_false] at aD;rcases aD with rfl|rfl
   ·decide
   ·exact rk (by omega) (by decide) (by omega)
  ·obtain⟨o,aT,rfl⟩:=b2.mp b6;obtain⟨ah,ao,aY,bZ⟩:=h.o o aT;refine ml (by simp[jZ]) λq aD=>?_;simp only[jZ,bC,de,or_false] at aD;rcases aD with rfl|rfl|rfl
   ·exact rk (by omega) (by decide) (by omega)
   ·exact rk (by omega) (by decide) (by omega)
   ·cases aI:o.2.2 with
    |none=>decide
    |some x=>
     have:=qa (bZ x aI);show x.length<=5;omega
 have aH:=h.l;simp only[eb,fM,dy] at this;simp only[eb];omega
def WI:t2.all (λs=>ha (.str s))=true:=by decide +kernel
def aiZ{p:b4}{e:dU}(h:rM p e):gq p e:=by
 cases e with
|line z w=>
  refine⟨h.1,?_⟩
  have:=h.2;simp only[bC,de,or_false] at this;rcases this with rfl|rfl|rfl|rfl
  ·decide
  ·decide
  ·decide
  ·decide
|code f d z=>
  refine⟨vO WI h.1,?_⟩
  rcases h.2 with ⟨ah,ao⟩|⟨ah,x,ao,aY⟩
  ·refine .inl ⟨ao,?_⟩
   rcases ah with rfl|rfl
   ·decide
   ·decide
  ·refine .inr ⟨x,ao,aY,?_⟩
   rcases ah with rfl|rfl
   ·decide
   ·decide
|ef n=>exact h.1
def KW{p:b4}(aC:t9 p){e:dU}(h:gq p e)(bf:∀n,e=.ef n->n<=1000000000):kV 45 e:=by
 have bj:∀{ps:List Str},ps.length<=4->(∀q∈ps,q.length<=10)->(dK ps).length<=45:=λ{ps} ah ao=>by
  have:=ml ah ao;omega
 cases e with
|line z w=>
  obtain⟨ah,ao⟩:=h;have cV:=aC.n z ah;have cN:w.length<=4:=oE 4 (by decide +kernel) ao;refine⟨λx hx=>?_,λn e=>(by cases e),bj (by simp[b8]) λx hx=>?_⟩
  ·simp only[b8,bC,de,or_false] at hx;rcases hx with rfl|rfl|rfl
   ·exact⟨yP,by decide⟩
   ·exact⟨aC.ok.z _ ah,by omega⟩
   ·exact⟨Ka _ ao,by omega⟩
  ·simp only[b8,bC,de,or_false] at hx;rcases hx with rfl|rfl|rfl
   ·decide
   ·omega
   ·omega
|code f d z=>
  obtain⟨ah,ao⟩:=h;have cV:=(vA ah).1;have a1:=J6 ah;rcases ao with ⟨rfl,ao⟩|⟨x,rfl,aY,ao⟩
  ·have cN:d.length<=5:=oE 5 (by decide +kernel) ao;refine⟨λx hx=>?_,λn e=>(by cases e),bj (by simp[b8]) λx hx=>?_⟩
   ·simp only[b8,bC,de,or_false] at hx;rcases hx with rfl|rfl|rfl
    ·exact⟨mq,by decide⟩
    ·exact⟨a1,by omega⟩
    ·exact⟨DI _ ao,by omega⟩
   ·simp only[b8,bC,de,or_false] at hx;rcases hx with rfl|rfl|rfl
    ·decide
    ·omega
    ·omega
  ·have cN:d.length<=5:=oE 5 (by decide +kernel) ao;have so:=aC.n x aY;refine⟨λy hx=>?_,λn e=>(by cases e),bj (by simp[b8]) λy hx=>?_⟩
   ·simp only[b8,bC,de,or_false] at hx;rcases hx with rfl|rfl|rfl|rfl
    ·exact⟨mq,by decide⟩
    ·exact⟨a1,by omega⟩
    ·exact⟨DJ _ ao,by omega⟩
    ·exact⟨aC.ok.z _ aY,by omega⟩
   ·simp only[b8,bC,de,or_false] at hx;rcases hx with rfl|rfl|rfl|rfl
    ·decide
    ·omega
    ·omega
    ·omega
|ef n=>
  have ah:1<=n:=h;have ao:=bf n rfl;have l:=rk (a:=n) (k:=10) (by omega) (by decide) (by omega);refine⟨λx hx=>?_,λn e=>?_,bj (by simp[b8]) λx hx=>?_⟩
  ·simp only[b8,bC,de,or_false] at hx;rcases hx with rfl|rfl
   ·exact⟨qd,by decide⟩
   ·exact⟨p' (by omega),by omega⟩
  ·cases e
   refine⟨by omega,?_⟩
   have uY:=RO;have pP:(1000000001:Int)<=df:=by decide +kernel
   omega
  ·simp only[b8,bC,de,or_false] at hx;rcases hx with rfl|rfl
   ·decide
   ·exact l
def rM.tick{p:b4}{e:dU}(h:rM p e):∀n,e=.ef n->n<=1000000000:=λn k9=>by
 subst k9;exact h.2
def JT{ar:List dU}(h:∀e∈ar,kV 45 e):(bH (ar.map b8)).length<=ar.length*45:=by
 rw[B1];have:=B2 (rs:=ar.map b8) (B:=45) λps b6=>by
  obtain⟨e,he,rfl⟩:=b2.mp b6;exact (h e he).l
 rw[dy] at this;exact this
def XR(n:Int):ei.qB [.int n]=cy.qB [.int n]:=rfl
end ei
end
section
namespace ei
open D bU PySem
def pL(q:Str):Prop:=32∉ls q/\10∉ls q
structure Cl(ps:List Str):Prop where
 ne:ps≠[]
 p:∀q∈ps,pL q
theorem RA:∀{ps:List (List Nat)},(∀p∈ps,10∉p)->10∉c0 32 ps
| [],_=>by simp[c0]
| [p],h=>h p (by simp)
|p::q::r,h=>by
  simp only[c0,gz,bC,not_or];exact⟨h p (by simp),by decide,RA λx hx=>h x (ew _ hx)⟩
theorem QO:∀{rs:List (List Str)},(∀ps∈rs,Cl ps)->el 10 (en rs)=(rs.map λps=>c0 32 (ps.map ls))++[[]]
| [],_=>rfl
|r::rs,h=>by
  have e:en (r::rs)=c0 32 (r.map ls)++10::en rs:=by simp[en,dK]
  have ax:=h r (by simp);rw[e,Jx _ (RA λp aC=>by
   obtain⟨q,aD,rfl⟩:=b2.mp aC;exact (ax.p q aD).2),QO λps b6=>h ps (ew _ b6)]
  rfl
def vw{rs:List (List Str)}(h:∀ps∈rs,Cl ps):ck (bH rs)=rs:=by
 unfold ck;rw[bH,fZ,QO h,List.dropLast_concat,dW]
 conv=>rhs;rw[<- List.map_id rs]
 refine List.map_congr_left λps b6=>?_
 have aC:=h ps b6;show (el 32 (c0 32 (ps.map ls))).map st=ps;rw[Kk (λe=>aC.ne (List.map_eq_nil_iff.mp e)) λp sf=>by
  obtain⟨q,aD,rfl⟩:=b2.mp sf;exact (aC.p q aD).1,dW]
 conv=>rhs;rw[<- List.map_id ps]
 exact List.map_congr_left λq _=>vR q
def oL{q:Str}(h:((ls q).all λc=>decide (c≠32) && decide (c≠10))=true:=by decide +kernel):pL q:=by
 rw[List.all_eq_true] at h;constructor
 ·intro hm;have:=h 32 hm;simp at this
 ·intro hm;have:=h 10 hm;simp at this
def yo{x:Str}(h:fC (.str x)=true):pL x:=by
 have ah:=(qa h).2.2;exact⟨λhm=>by have:=ah 32 hm;omega,λhm=>by have:=ah 10 hm;omega⟩
def JX{x:Str}(h:ha (.str x)=true):pL x:=by
 have ah:=(vA h).2;exact⟨λhm=>by have:=ah 32 hm;omega,λhm=>by have:=ah 10 hm;omega⟩
def rm{a:Int}(h:0<=a):pL (cP a):=by
 have ah:=vg h;exact⟨λhm=>by have:=ah 32 hm;omega,λhm=>by have:=ah 10 hm;omega⟩
def vK{l:List Str}{x:Str}(h:(l.all λq=>(ls q).all λc=>decide (c≠32) && decide (c≠10))=true)(hx:x∈l):pL x:=oL (List.all_eq_true.mp h x hx)
def yp{a:Int}(h:0<=a):gc (cP a)=.int a:=by
 have hd:nU (cP a)=true:=by
  rw[nU,cX,List.all_eq_true];refine⟨decide_eq_true ?_,λc au=>?_⟩
  ·rw[p_ h,er,rj,dy];exact Nat.length_toDigits_pos
  ·have:=vg h c au;rw[cX,decide_eq_true_eq,decide_eq_true_eq];exact this
 unfold gc;rw[if_pos hd,p_ h,BV,Int.toNat_of_nonneg h]
def PH{R:Int}{os:List cy.Op}(h:iX R os):kh (cy.e2 R os)=true:=by
 have ax:=h.r;simp only[kh,cy.e2,fY,decide_eq_true ax.1,decide_eq_true ax.2,Bool.and_self,Bool.true_and,cX,decide_eq_true_eq,dy,List.all_eq_true];refine⟨h.l,λt aN=>?_⟩;obtain⟨o,aT,rfl⟩:=b2.mp aN;obtain⟨ah,ao,aY,bZ⟩:=h.o o aT;have aI:(qn (cy.iz o.2.2) || fC (cy.iz o.2.2))=true:=by
  cases aI:o.2.2 with
  |none=>rfl
  |some x=>
   rw[Bool.or_eq_true];exact .inr (bZ x aI)
 simp only[oK,cy.gd,fY,aI,Bool.and_true,cX,decide_eq_true_eq];omega
def PM{p:b4}{e:dU}(h:gq p e):jE p (cu e)=true:=by
 unfold jE;cases e with
|line z w=>
  rw[Bool.or_eq_true];left;simp only[tY,cu,gu,decide_eq_true h.1,decide_eq_true h.2,Bool.and_self,Bool.and_true];decide +kernel
|code f d z=>
  rw[Bool.or_eq_true,Bool.or_eq_true];right;left;obtain⟨ah,ao⟩:=h;simp only[qk,cu,ah,Bool.true_and];rw[show gp "code" (.str "code")=true from RI,Bool.true_and];rcases ao with ⟨rfl,ao⟩|⟨x,rfl,aY,ao⟩
  ·rw[if_pos (show gu ["set","unset"] (.str d)=true from decide_eq_true ao)];rfl
  ·have bf:¬(gu ["set","unset"] (.str d)=true):=by
    intro aD;have z2:=of_decide_eq_true (show decide (d∈(["set","unset"]:List Str))=true from aD);simp only[bC,de,or_false] at z2 ao;rcases z2 with rfl|rfl <;> rcases ao with ao|ao <;> revert ao <;> decide +kernel
   rw[if_neg bf,cX];exact⟨decide_eq_true ao,decide_eq_true aY⟩
|ef n=>
  rw[Bool.or_eq_true,Bool.or_eq_true];right;right;simp only[tO,cu,qe,posB,Bool.true_and,cX];exact⟨RH,decide_eq_true h⟩
def ai_{p:b4}(h:Pv p):∀ps∈iS p,Cl ps:=by
 intro ps b6;have t1:=h.t1;have fk:=h.fk;have t3:=h.t3;rcases bC.mp b6 with rfl|b6
 ·refine⟨by simp[g7],λq aD=>?_⟩
  simp only[g7,bC,de,or_false] at aD;rcases aD with rfl|rfl|rfl|rfl
  ·exact oL
  ·exact rm t1.1
  ·exact rm fk.1
  ·exact rm (by omega)
 ·rcases gz.mp b6 with b6|b6
  ·obtain⟨z,aI,rfl⟩:=b2.mp b6;obtain⟨ah,ao⟩:=h.zs z aI;refine⟨by simp[hO],λq aD=>?_⟩;simp only[hO,bC,de,or_false] at aD;rcases aD with rfl|rfl|rfl
   ·exact oL
   ·exact yo ah
   ·exact vK (l:=oF) (by decide +kernel) ao
  ·obtain⟨k,a0,rfl⟩:=b2.mp b6;obtain⟨ah,ao,aY,bZ,ft,jm,qI⟩:=h.cs k a0;refine⟨by simp[ix],λq aD=>?_⟩;simp only[ix,bC] at aD;rcases aD with rfl|rfl|rfl|rfl|aD
   ·exact oL
   ·exact JX ah
   ·exact yo ao
   ·exact rm jm
   ·exact vK (l:=lH) (by decide +kernel) (bZ q aD)
def zev{R:Int}{os:List cy.Op}(h:iX R os):∀ps∈eb R os,Cl ps:=by
 intro ps b6;have ax:=h.r;rcases bC.mp b6 with rfl|b6
 ·refine⟨by simp,λq aD=>?_⟩
  simp only[bC,de,or_false] at aD;rcases aD with rfl|rfl
  ·exact oL
  ·exact rm (by omega)
 ·obtain⟨o,aT,rfl⟩:=b2.mp b6;obtain⟨ah,ao,aY,bZ⟩:=h.o o aT;refine⟨by simp[jZ],λq aD=>?_⟩;simp only[jZ,bC,de,or_false] at aD;rcases aD with rfl|rfl|rfl
  ·exact rm ah
  ·exact rm (by omega)
  ·cases aI:o.2.2 with
   |none=>exact oL
   |some x=>exact yo (bZ x aI)
def aiy{R:Int}{os:List cy.Op}(h:iX R os):∀o∈os,kP (jZ o)=cy.gd o:=λo aT=>by
 obtain⟨ah,ao,aY,bZ⟩:=h.o o aT;have aE:cT (jZ o) none (some 2)=[cP o.1,cP o.2.1]:=rfl;have aK:cT (jZ o) (some 2) none=[BL o.2.2]:=rfl;unfold kP;rw[aE,aK];simp only[eI,lz,yp ah,yp (show 0<=o.2.1 by omega)];have c_:rG (BL o.2.2)=cy.iz o.2.2:=by
  cases aI:o.2.2 with
  |none=>rfl
  |some x=>
   show (if x="-" then PyData.none else .str x)=.str x
   rw[if_neg];rintro rfl;have:=bZ _ aI;revert this;decide +kernel
 rw[c_];rfl
def PG{R:Int}{os:List cy.Op}(h:iX R os):nx (eb R os)=cy.e2 R os:=by
 have ax:=h.r;unfold nx;have ea:nA (eb R os)=[.int R]:=by
  show [gc (cP R)]=_
  rw[yp (by omega)]
 have cw:(eb R os).tail.map kP=os.map cy.gd:=by
  show (os.map jZ).map kP=_
  rw[dW];exact List.map_congr_left (aiy h)
 rw[ea,cw];rfl
def ad5{R:Int}{os:List cy.Op}(h:iX R os):ni [.str (bH (eb R os))]=some (cy.e2 R os):=by
 have ax:=h.r;exact OF (yj (by omega) h.jw) (by have:=Jn h;omega) (by rw[vw (zev h),PG h]) h (PH h) rfl
def Kx{p:b4}(aC:Pv p){e:dU}(h:gq p e):Cl (b8 e):=by
 have bf:∀x∈iu p,pL x:=λx hx=>by
  obtain⟨z,aI,rfl⟩:=b2.mp hx;exact yo (aC.zs z aI).1
 cases e with
|line z w=>
  refine⟨by simp[b8],λq aD=>?_⟩
  simp only[b8,bC,de,or_false] at aD;rcases aD with rfl|rfl|rfl
  ·exact oL
  ·exact bf _ h.1
  ·exact vK (l:=qi) (by decide +kernel) h.2
|code f d z=>
  obtain⟨ah,ao⟩:=h;rcases ao with ⟨rfl,ao⟩|⟨x,rfl,aY,ao⟩
  ·refine⟨by simp[b8],λq aD=>?_⟩
   simp only[b8,bC,de,or_false] at aD;rcases aD with rfl|rfl|rfl
   ·exact oL
   ·exact JX ah
   ·exact vK (l:=["set","unset"]) (by decide +kernel) ao
  ·refine⟨by simp[b8],λq aD=>?_⟩
   simp only[b8,bC,de,or_false] at aD;rcases aD with rfl|rfl|rfl|rfl
   ·exact oL
   ·exact JX ah
   ·exact vK (l:=["shunt","free"]) (by decide +kernel) ao
   ·exact bf _ aY
|ef n=>
  have ah:1<=n:=h;refine⟨by simp[b8],λq aD=>?_⟩;simp only[b8,bC,de,or_false] at aD;rcases aD with rfl|rfl
  ·exact oL
  ·exact rm (by omega)
def ZM:¬(("line":Str)="ticks"):=by decide +kernel
def ZL:¬(("line":Str)="code"):=by decide +kernel
def Nu:¬(("code":Str)="ticks"):=by decide +kernel
def RG{p:b4}{e:dU}(h:gq p e):fs (b8 e)=cu e:=by
 cases e with
|line z w=>
  unfold fs b8;dsimp only;rw[if_neg ZM,if_neg (λq=>ZL q.1)];rfl
|code f d z=>
  cases z with
  |none=>
   unfold fs b8;dsimp only;rw[if_neg Nu,if_pos ⟨rfl,rfl⟩];rfl
  |some x=>
   unfold fs b8;dsimp only;rw[if_neg Nu,if_neg (λq=>by have:=q.2;simp at this)];rfl
|ef n=>
  have ah:1<=n:=h;unfold fs b8;dsimp only;rw[if_pos rfl];simp only[eI,lz,yp (show 0<=n by omega)];rfl
def aek{p:b4}(aC:Pv p){ar:List dU}(h:∀e∈ar,gq p e)(bf:∀e∈ar,∀n,e=.ef n->n<=1000000000)(aH:ar.length<=10000):nj [bG p,.str (bH (ar.map b8))]=some (.tuple (ar.map cu)):=by
 have hz:∀e∈ar,kV 45 e:=λe he=>KW (ru aC) (h e he) (bf e he);have hlen:=JT hz;refine OT (ru aC) (tw hz) (by omega) ?_ hz (by omega) (by omega) (λe he=>PM (h e he)) rfl;rw[vw λps b6=>by
  obtain⟨e,he,rfl⟩:=b2.mp b6;exact Kx aC (h e he),dW]
 exact List.map_congr_left λe he=>RG (h e he)
end ei
end
section
namespace ei
open D bU PySem
def ne_self{d:Nat}{f g:a_}{ε:Ev}{t:T}(hf:f ε=some t)(a7:g ε=some t)(h:cR d t)(hd:d<=60:=by decide):a3 (af dG f g) ε=some false:=by
 refine cH ?_
 rw[bq hf a7];exact bU.ZY h.okN hd
def akQ:("\n":Str)=⟨#[10]⟩:=by decide +kernel
def An{dZ gt:ej}{ε:Ev}(ah:dZ ε=some false)(ao:gt ε=some false):dB dZ gt ε=some false:=gk (a:=false) (b:=false) ah λ_=>ao
def BR{dZ:ej}{s1 s2:bx}{ε:Ev}(h:dZ ε=some false):seq (iff dZ s1 skip) s2 ε=s2 ε:=by rw[eJ h,if_neg (by simp)]
def aaS{d:List T->Option T}{f g h:a_}{ε:Ev}{t u v:T}(ah:f ε=some t)(ao:g ε=some u)(aY:h ε=some v):aw d [f,g,h] ε=d [t,u,v]:=by simp[aw,args,ah,ao,aY]
def iy{i:Nat}{f:a_}{ε:Ev}{t:T}(h:f ε=some t):asg i f ε=some (.bg (ε.set i (some (.ae t)))):=by simp[asg,h]
end ei
end
section
namespace ei
open D bU PySem
theorem Gw(c:Nat):∀{ps:List (List Nat)},ps≠[]->(c0 c ps).length+1=(ps.map List.length).sum+ps.length
| [],h=>absurd rfl h
| [p],_=>by simp[c0]
|p::q::r,_=>by
  have:=Gw c (ps:=q::r) (by simp);simp only[c0,iq,fM,eI,List.sum_cons] at this ⊢;omega
def Q1{f:a_}{ε:Ev}{ps:List (List Nat)}(hf:f ε=some (.list ((ps.map st).map .str)))(aH:(ps.map List.length).sum+ps.length<=1000000):af kj (aa (.str "\n")) f ε=some (.str (st (c0 10 ps))):=by
 rw[bq (t:=.str ⟨#[10]⟩) rfl hf];simp only[kj,BM,bM];have aE:JoinOk ⟨#[10]⟩ (ps.map st)=true:=by
  unfold JoinOk;rw[StrLaws.joinTotal];have:(List.map (λx=>Str.length x) (ps.map st)).sum=(ps.map List.length).sum:=by
   rw[dW];exact congrArg List.sum (List.map_congr_left λx _=>by
    show (st x).length=x.length
    rw[er,fZ])
  rw[this,dy];unfold Builtin.Str.tooLong;have aB:b'=big:=by rw[sizeLine_eq];rfl
  have:¬((ps.map List.length).sum+ps.length*(⟨#[10]⟩:Str).length > b'):=by
   show ¬((ps.map List.length).sum+ps.length*1 > b')
   rw[aB];unfold big;omega
  rw[decide_eq_false this];rfl
 rw[if_pos aE,Ju];congr 2;apply qh;rw[BU,fZ,dW];congr 1
 conv=>rhs;rw[<- List.map_id ps]
 rfl
def JP{f:a_}{ε:Ev}{x:Str}{lo hi:Ev->Option (Option Int)}{a b:Option Int}(hf:f ε=some (.str x))(ah:lo ε=some a)(ao:hi ε=some b)(aH:x.length<=1000000):da f lo hi ε=some (.str (st (cT (ls x) a b))):=by
 simp only[da,hf,ah,ao,bM,pK];rw[if_pos (by unfold big;omega)];rfl
def y3{f g:a_}{ε:Ev}{a b:List Nat}(hf:f ε=some (.str (st a)))(a7:g ε=some (.str (st b)))(aH:a.length+b.length<=1000000):af aU f g ε=some (.str (st (a++b))):=by
 rw[bq hf a7];simp only[aU];rw[if_pos (by rw[er,er,fZ,fZ];unfold big;omega)];congr 2;exact qh (by rw[hl,fZ,fZ,fZ])
def add_l{f g:a_}{ε:Ev}{a b:List T}(hf:f ε=some (.list a))(a7:g ε=some (.list b))(aH:a.length+b.length<=1000000):af aU f g ε=some (.list (a++b)):=by
 rw[bq hf a7];simp only[aU];rw[if_pos (by unfold big;omega)]
def Q9{α:Type}(l:List α)(j:Nat)(h:j<=l.length):cT l none (some (j:Int))=l.take j:=by
 unfold cT;have aE:D.bI l.length 0 none=0:=rfl;have aK:D.bI l.length l.length (some (j:Int))=j:=by
  simp only[D.bI];rw[if_neg (by omega)];omega
 rw[aE,aK];simp
def Qm{α:Type}(l:List α)(j:Nat)(h:j<=l.length):cT l (some (j:Int)) none=l.drop j:=by
 unfold cT;have aE:D.bI l.length 0 (some (j:Int))=j:=by
  simp only[D.bI];rw[if_neg (by omega)];omega
 have aK:D.bI l.length l.length none=l.length:=rfl;rw[aE,aK];exact List.take_of_length_le (by rw[List.length_drop];omega)
def ai9{α:Type}(l:List α)(j:Nat)(h:j<l.length):cT l (some (j:Int)) (some ((j:Int)+1))=[l[j]]:=by
 unfold cT;have aE:D.bI l.length 0 (some (j:Int))=j:=by
  simp only[D.bI];rw[if_neg (by omega)];omega
 have aK:D.bI l.length l.length (some ((j:Int)+1))=j+1:=by
  simp only[D.bI];rw[if_neg (by omega)];omega
 rw[aE,aK,List.drop_eq_getElem_cons h,show j+1 - j=1 by omega];rfl
def vt(a b:List (List Nat)):((a++b).map List.length).sum=(a.map List.length).sum+(b.map List.length).sum:=by simp
def aic(l:List (List Nat))(j:Nat)(h:j<l.length):(l.map List.length).sum=((l.take j).map List.length).sum+l[j].length+((l.drop (j+1)).map List.length).sum:=by
 have e:l=l.take j++l[j]::l.drop (j+1):=by rw[<- List.drop_eq_getElem_cons h,List.take_append_drop]
 calc (l.map List.length).sum=((l.take j++l[j]::l.drop (j+1)).map List.length).sum:=by rw[<- e]
  _=_:=by
   rw[vt,eI,List.sum_cons];omega
def ahW{a b:dU}(h:cu a=cu b):a=b:=by
 cases a with
|line z w=>
  cases b with
  |line fb pP=>simp[cu] at h;rw[h.1,h.2]
  |code f d fb=>simp[cu] at h
  |ef n=>simp[cu] at h
|code f d z=>
  cases b with
  |line fb pP=>simp[cu] at h
  |code f2 Mo fb=>
   simp[cu] at h;obtain⟨ah,ao,aY⟩:=h;have:z=fb:=by
    cases z <;> cases fb <;> simp[mZ] at aY <;> first|rfl|rw[aY]
   rw[ah,ao,this]
  |ef n=>simp[cu] at h
|ef n=>
  cases b with
  |line fb pP=>simp[cu] at h
  |code f d fb=>simp[cu] at h
  |ef m=>simp[cu] at h;rw[h]
def Kg{a b:List (List Str)}(aA:∀ps∈a,Cl ps)(ag:∀ps∈b,Cl ps)(h:bH a=bH b):a=b:=by
 rw[<- vw aA,h,vw ag]
def agI{p:b4}{e:dU}(h:jE p (cu e)=true):gq p e:=by
 obtain⟨aK,ah,ao⟩:=PL h;rw[ahW ah];exact ao
def ahf{rs:List (List Str)}(au:∀ps∈rs,Cl ps)(aA:asc (ls (bH rs)))(aH:(bH rs).length<=4000)(ao:rs.length<=2):oB [.ae (.str (bH rs))]=true:=by
 rcases OK aA (by omega) with h|⟨q,_,ba,aD,_⟩
 ·exact h
 ·exfalso
  have e:=Kg (ai_ ba) au aD;have:=congrArg List.length e;have:=ba.g6;have:=ba.c9;simp[iS] at *;omega
def agA{rs:List (List Str)}(au:∀ps∈rs,Cl ps)(aA:asc (ls (bH rs)))(aH:(bH rs).length<=4000)(ao:∀R os,iX R os->eb R os≠rs):md [.ae (.str (bH rs))]=true:=by
 rcases OE aA (by omega) with h|⟨R,os,_,ba,aD,_⟩
 ·exact h
 ·exact absurd (Kg (zev ba) au aD) (ao R os ba)
def aie{p:b4}(aC:Pv p){rs:List (List Str)}(au:∀ps∈rs,Cl ps)(aA:asc (ls (bH rs)))(aH:(bH rs).length<=4000)(ao:∀ar:List dU,(∀e∈ar,gq p e)->ar.map b8≠rs):mf [.ae (bG p),.ae (.str (bH rs))]=true:=by
 rcases OS (ru aC) aA aH with h|⟨ar,_,_,zS,_,aD,_⟩
 ·exact h
 ·have bW:∀e∈ar,gq p e:=λe he=>agI (zS e he);exact absurd (Kg (λps b6=>by
   obtain⟨e,he,rfl⟩:=b2.mp b6;exact Kx aC (bW e he)) au aD) (ao ar bW)
def aif{p:b4}(aC:Pv p){ar:List dU}(h:∀e∈ar,gq p e)(bf:∀e∈ar,∀n,e=.ef n->n<=1000000000)(aH:ar.length<=10000):mf [.ae (bG p),.ae (.str (bH (ar.map b8)))]=false:=by
 have hz:∀e∈ar,kV 45 e:=λe he=>KW (ru aC) (h e he) (bf e he);have hlen:=JT hz;obtain⟨ε,fj,fK,H0,ah,aB,aI⟩:=Jz (ru aC) (tw hz) (by omega);have e0:(ck (bH (ar.map b8))).map fs=ar.map cu:=by
  rw[vw λps b6=>by
   obtain⟨e,he,rfl⟩:=b2.mp b6;exact Kx aC (h e he),dW]
  exact List.map_congr_left λe he=>RG (h e he)
 rw[e0] at ah fK;have aA:(ar.map cu).all (jE p)=true:=by
  rw[List.all_eq_true];intro t aN;obtain⟨e,he,rfl⟩:=b2.mp aN;exact PM (h e he)
 rw[aA] at ah;have aY:af dG (aw kN [(az 2)]) (nm 1) ε=some (.bool !(decide (bH (ar.map b8)=bH (ar.map b8)))):=by
  rw[bq (t:=.str (bH (ar.map b8))) (by rw[b5 fK];exact x3 hz (by omega) (by omega) (by omega)) fj];exact ne_str (tw hz) (tw hz)
 have bZ:=gk (eF (cH ah)) λ_=>cH aY;show x4 [some (.ae (bG p)),some (.ae (.str (bH (ar.map b8)))),none]=false;unfold x4;rw[aI];simp only[lY,bZ,decide_true];rfl
def agB{R:Int}{os:List cy.Op}(ba:iX R os):md [.ae (.str (bH (eb R os)))]=false:=by
 have ax:=ba.r;have hx:=yj (R:=R) (by omega) ba.jw;have hlen:=Jn ba;obtain⟨ε,alX,hU,uQ,aB,aI⟩:=JA hx (by omega);have cL:nx (ck (bH (eb R os)))=cy.e2 R os:=by rw[vw (zev ba),PG ba]
 have ah:aw lE [(az 3)] ε=some (.bool true):=by
  rw[b5 hU,BJ (d:=0) (Bw (qc hx (by omega))) (by omega),cL,PH ba]
 have aY:af dG (aw kd [(az 3)]) (nm 0) ε=some (.bool !(decide (bH (eb R os)=bH (eb R os)))):=by
  rw[bq (t:=.str (bH (eb R os))) (by rw[b5 hU,cL];exact xU (by omega) ba.jw (by have:=ba.l;omega)) alX];exact ne_str hx hx
 have bZ:=gk (eF (cH ah)) λ_=>cH aY;show xT [some (.ae (.str (bH (eb R os)))),none,none,none]=false;unfold xT;rw[aI];simp only[lY,bZ,decide_true];rfl
end ei
end
section
namespace oX
open D bU ei PySem
def sgn:Str:=" \n0129abtwk-"
def aju(i:Int)(h0:0<=i)(h:i<12):∃c,c<128/\aJ (.str sgn) (.int i)=some (.str (st [c])):=by
 obtain⟨n,rfl⟩:∃n:Nat,i=n:=⟨i.toNat,by omega⟩;have bf:n<12:=by omega
 have aly:(ls sgn).length=12:=by decide +kernel
 have ag:sgn.length<=big:=by decide +kernel
 have aA:asc (ls sgn):=oM;have Xu:(ls sgn)[n]?=some ((ls sgn)[n]'(by omega)):=hK _;refine⟨(ls sgn)[n]'(by omega),aA _ (List.getElem_mem _),?_⟩;simp only[aJ];rw[if_pos ag];have e:eP sgn.cps.toList (n:Int)=some ((ls sgn)[n]'(by omega)):=by
  simp only[eP,fv];rw[if_pos (by omega),if_pos (by
   show (n:Int)<((ls sgn).length:Int)
   omega)]
  exact Xu
 rw[e];rfl
def ai8{α:Type}(l:List α)(j:Nat)(h:j<l.length):cT l (some (j:Int)) (some ((j:Int)+2))=(l.drop j).take 2:=by
 unfold cT;have aE:D.bI l.length 0 (some (j:Int))=j:=by
  simp only[D.bI];rw[if_neg (by omega)];omega
 have aK:D.bI l.length l.length (some ((j:Int)+2))=min (j+2) l.length:=by
  simp only[D.bI];rw[if_neg (by omega)];omega
 rw[aE,aK];by_cases aD:j+2<=l.length
 ·rw[Nat.min_eq_left aD,show j+2 - j=2 by omega]
 ·rw[Nat.min_eq_right (by omega),List.take_of_length_le (by rw[List.length_drop];omega),List.take_of_length_le (by rw[List.length_drop];omega)]
def akg{α:Type}(l:List α)(j:Nat)(h:j<l.length):cT l (some ((j:Int)+2)) none=(l.drop j).drop 2:=by
 unfold cT;have aE:D.bI l.length 0 (some ((j:Int)+2))=min (j+2) l.length:=by
  simp only[D.bI];rw[if_neg (by omega)];omega
 have aK:D.bI l.length l.length none=l.length:=rfl;rw[aE,aK,List.drop_drop];by_cases aD:j+2<=l.length
 ·rw[Nat.min_eq_left aD];exact List.take_of_length_le (by rw[List.length_drop];omega)
 ·rw[Nat.min_eq_right (by omega),List.drop_of_length_le (eo _),List.drop_of_length_le (by omega)];simp
def aib(l:List (List Nat)):(l.reverse.map List.length).sum=(l.map List.length).sum:=by
 rw[List.map_reverse,List.sum_reverse]
def Yp{n:Int}{r:Ev}{m:Int}{s0:Option bQ}:a3 (af oEq (af oMod (nm 1) (aa (.int 5))) (aa (.int n))) (s0::some (.ae (.int m))::r)=some (decide (m % 5=n)):=by
 refine cH ?_
 rw[bq (t:=.int (m % 5)) (u:=.int n) (by
  rw[bq (t:=.int m) (u:=.int 5) rfl rfl];exact bU.i6 (by decide)) rfl]
 exact bU.l1 _ _
def af1{x:Str}(hx:asc (ls x))(aH:x.length<=100000){m:Int}(hm:0<=m):∃y,vc [.str x,.int m]=some (.str y)/\asc (ls y)/\y.length<=x.length+1:=by
 obtain⟨a1,Xa,EJ⟩:=divQ m 16;obtain⟨at_,alr,nR,a2,Wu⟩:=modQ a1 ((x.length:Int)+1) (by omega);obtain⟨s1,jU,WB⟩:=divQ m 4096;obtain⟨s2,fI,ab2,ab3,WC⟩:=modQ s1 12;obtain⟨c,au,ht⟩:=aju s2 ab2 ab3;have gS:=B4 10 (ls x);have Xk:=ye (c:=10) (ls x);rw[<- er] at Xk;have cS:=Q2 (c:=10) (ls x);have w9:∀p∈el 10 (ls x),asc p:=λp aC a aA=>hx a (tv aC a aA);generalize ff:el 10 (ls x)=L at *;have alo:0<L.length:=List.length_pos_iff.mpr gS;have X1:=Gw 10 gS;rw[cS,<- er] at X1;obtain⟨M',alv,Gq,oa,r2⟩:=modQ a1 (L.length:Int) (by omega);obtain⟨j,rfl⟩:∃j:Nat,M'=j:=⟨M'.toNat,by omega⟩;obtain⟨a,rfl⟩:∃a:Nat,at_=a:=⟨at_.toNat,by omega⟩;have w6:j<L.length:=by omega
 have kz:a<=(ls x).length:=by rw[<- er];omega
 have alG:=aic L j w6;generalize zQ:(ls x).take a=zo;generalize FO:(ls x).drop a=C2;generalize FP:cT (ls x) (some ((a:Int)+1)) none=C3;have Aa:zo.length+C2.length=x.length:=by rw[<- zQ,<- FO,List.length_take,List.length_drop,<- er];rw[<- er] at kz;omega
 have Ab:zo.length+C3.length<=x.length:=by
  rw[<- zQ,<- FP,List.length_take];unfold cT;have aE:D.bI (ls x).length 0 (some ((a:Int)+1))=min (a+1) (ls x).length:=by
   simp only[D.bI];rw[if_neg (by omega)];omega
  rw[aE,List.length_take,List.length_drop,<- er];rw[<- er] at kz;omega
 have DK:asc zo:=by rw[<- zQ];exact J' hx λy b1=>List.mem_of_mem_take b1
 have Ur:asc C2:=by rw[<- FO];exact J' hx λy b1=>List.mem_of_mem_drop b1
 have Lm:asc C3:=by rw[<- FP];exact J' hx λy b1=>tE b1
 have Ln:asc [c]:=λy b1=>by
  have:=ka.mp b1;omega
 generalize FJ:L.take j++((L.drop j).take 2).reverse++(L.drop j).drop 2=amm;generalize FK:L.take j++L.drop (j+1)=zb;have s4:(amm.map List.length).sum+amm.length<=x.length+1:=by
  rw[<- FJ,vt,vt,aib];have aE:((L.take j).map List.length).sum+((L.drop j).map List.length).sum=(L.map List.length).sum:=by rw[<- vt,List.take_append_drop]
  have aK:(((L.drop j).take 2).map List.length).sum+(((L.drop j).drop 2).map List.length).sum=((L.drop j).map List.length).sum:=by rw[<- vt,List.take_append_drop]
  simp only[iq,List.length_take,List.length_drop,List.length_reverse];omega
 have s5:(zb.map List.length).sum+zb.length<=x.length+1:=by
  rw[<- FK,vt];simp only[iq,List.length_take,List.length_drop];omega
 have Us:asc (c0 10 amm):=Cc (by decide) λp aC=>by
  rw[<- FJ] at aC;simp only[gz,List.mem_reverse] at aC;rcases aC with (aC|aC)|aC
  ·exact w9 p (List.mem_of_mem_take aC)
  ·exact w9 p (List.mem_of_mem_drop (List.mem_of_mem_take aC))
  ·exact w9 p (List.mem_of_mem_drop (List.mem_of_mem_drop aC))
 have Ut:asc (c0 10 zb):=Cc (by decide) λp aC=>by
  rw[<- FK] at aC;rcases gz.mp aC with aC|aC
  ·exact w9 p (List.mem_of_mem_take aC)
  ·exact w9 p (List.mem_of_mem_drop aC)
 have Na:∀l:List (List Nat),(l.map List.length).sum+l.length<=x.length+1->(c0 10 l).length<=x.length+1:=λl h=>by
  by_cases aI:l=[]
  ·rw[aI];simp[c0]
  ·have:=Gw 10 aI;omega
 have ln:∀l:List Nat,(st l).length=l.length:=λl=>by rw[er,fZ]
 have start:vc [.str x,.int m]=(I9 [some (.ae (.str x)),some (.ae (.int m)),none,none,none,none]).bind λo=>match o with
  |.ee t=>some t
  |.bg _=>some .none
  |_=>none:=rfl
 rw[start];unfold I9;have Mq:∀r:Ev,af oDiv (nm 1) (aa (.int 16)) (some (.ae (.str x))::some (.ae (.int m))::r)=some (.int a1):=λr=>by
  rw[bq (t:=.int m) (u:=.int 16) rfl rfl];exact EJ
 rw[bU.cG (iy (t:=.int (a:Int)) (by
  rw[bq (t:=.int a1) (u:=.int ((x.length:Int)+1)) (Mq _) (by
   rw[bq (t:=.int x.length) (u:=.int 1) (by rw[b5 (t:=.str x) rfl];simp only[eC];rw[if_pos (by unfold big;omega)]) rfl];rfl),Wu]))]
 simp only[ip,hZ];rw[bU.cG (iy (t:=.str (st [c])) (by
  rw[bq (t:=.str sgn) (u:=.int s2) rfl (by
   rw[bq (t:=.int s1) (u:=.int 12) (by rw[bq (t:=.int m) (u:=.int 4096) rfl rfl];exact WB) rfl];exact WC),ht]))]
 simp only[ip,hZ];rw[bU.cG (iy (t:=.list ((L.map st).map .str)) (by rw[JO (x:=x) (c:=10) akQ rfl (by unfold big;omega),ff]))];simp only[ip,hZ];rw[bU.cG (iy (t:=.int (j:Int)) (by
  rw[bq (t:=.int a1) (u:=.int (L.length:Int)) (Mq _) (by
   rw[b5 (t:=.list ((L.map st).map .str)) rfl];simp only[eC,dy]),r2]))]
 simp only[ip,hZ];generalize hy:[some (bQ.ae (.str x)),some (.ae (.int m)),some (.ae (.int (a:Int))),some (.ae (.str (st [c]))),some (.ae (.list ((L.map st).map .str))),some (.ae (.int (j:Int)))]=iB;have alX:nm 0 iB=some (.str x):=by subst hy;rfl
 have fK:opt (nm 2) iB=some (some (a:Int)):=by subst hy;rfl
 have Zx:opt (af aU (nm 2) (aa (.int 1))) iB=some (some ((a:Int)+1)):=by subst hy;rfl
 have oe:nm 3 iB=some (.str (st [c])):=by subst hy;rfl
 have m2:nm 4 iB=some (.list ((L.map st).map .str)):=by subst hy;rfl
 have om:opt (nm 5) iB=some (some (j:Int)):=by subst hy;rfl
 have abL:opt (af aU (nm 5) (aa (.int 1))) iB=some (some ((j:Int)+1)):=by subst hy;rfl
 have NH:opt (af aU (nm 5) (aa (.int 2))) iB=some (some ((j:Int)+2)):=by subst hy;rfl
 have ez:∀n:Int,a3 (af oEq (af oMod (nm 1) (aa (.int 5))) (aa (.int n))) iB=some (decide (m % 5=n)):=λn=>by subst hy;exact Yp
 have t1:da (nm 0) optN (opt (nm 2)) iB=some (.str (st zo)):=by rw[JP alX rfl fK (by omega),Q9 _ _ kz,zQ]
 have fk:da (nm 0) (opt (nm 2)) optN iB=some (.str (st C2)):=by rw[JP alX fK rfl (by omega),Qm _ _ kz,FO]
 have t3:da (nm 0) (opt (af aU (nm 2) (aa (.int 1)))) optN iB=some (.str (st C3)):=by rw[JP alX Zx rfl (by omega),FP]
 have uY:=y3 (y3 t1 oe (by simp;omega)) fk (by simp;omega);have pP:=y3 t1 t3 (by omega);have sV:=y3 (y3 t1 oe (by simp;omega)) t3 (by simp;omega);have qX:∀l:List (List Nat),(l.map st).map hL=l.map λp=>.str (st p):=λl=>by rw[dW];rfl
 have g1:da (nm 4) optN (opt (nm 5)) iB=some (.list (((L.take j).map st).map .str)):=by
  rw[mj m2 rfl om,qX,tF,Q9 _ _ (by omega),qX]
 have g2:dQ vV (da (nm 4) (opt (nm 5)) (opt (af aU (nm 5) (aa (.int 2))))) iB=some (.list (((((L.drop j).take 2).reverse).map st).map .str)):=by
  rw[tV (t:=.list ((((L.drop j).take 2).map st).map .str)) (by rw[mj m2 om NH,qX,tF,ai8 _ _ w6,qX])];simp only[vV,List.map_reverse]
 have g3:da (nm 4) (opt (af aU (nm 5) (aa (.int 2)))) optN iB=some (.list ((((L.drop j).drop 2).map st).map .str)):=by
  rw[mj m2 NH rfl,qX,tF,akg _ _ w6,qX]
 have lg:da (nm 4) (opt (af aU (nm 5) (aa (.int 1)))) optN iB=some (.list (((L.drop (j+1)).map st).map .str)):=by
  rw[mj m2 abL rfl,qX,tF];rw[show ((j:Int)+1)=((j+1:Nat):Int) by omega,Qm _ _ (by omega),qX]
 have v4:af aU (af aU (da (nm 4) optN (opt (nm 5))) (dQ vV (da (nm 4) (opt (nm 5)) (opt (af aU (nm 5) (aa (.int 2))))))) (da (nm 4) (opt (af aU (nm 5) (aa (.int 2)))) optN) iB=some (.list ((amm.map st).map .str)):=by
  rw[add_l (add_l g1 g2 (by simp;omega)) g3 (by simp;omega)];rw[<- FJ];simp only[List.map_append]
 have v5:af aU (da (nm 4) optN (opt (nm 5))) (da (nm 4) (opt (af aU (nm 5) (aa (.int 1)))) optN) iB=some (.list ((zb.map st).map .str)):=by
  rw[add_l g1 lg (by simp;omega)];rw[<- FK];simp only[List.map_append]
 have e9:=Q1 v4 (by omega);have k5:=Q1 v5 (by omega);by_cases h0:m % 5=0
 ·rw[eJ (ez 0),decide_eq_true h0,if_pos rfl,hj uY];exact⟨_,rfl,by rw[fZ];exact tH (tH DK Ln) Ur,by rw[ln];simp;omega⟩
 rw[eJ (ez 0),decide_eq_false h0,if_neg (by simp)];by_cases ah:m % 5=1
 ·rw[eJ (ez 1),decide_eq_true ah,if_pos rfl,hj pP];exact⟨_,rfl,by rw[fZ];exact tH DK Lm,by rw[ln];simp;omega⟩
 rw[eJ (ez 1),decide_eq_false ah,if_neg (by simp)];by_cases ao:m % 5=2
 ·rw[eJ (ez 2),decide_eq_true ao,if_pos rfl,hj sV];exact⟨_,rfl,by rw[fZ];exact tH (tH DK Ln) Lm,by rw[ln];simp;omega⟩
 rw[eJ (ez 2),decide_eq_false ao,if_neg (by simp)];by_cases aY:m % 5=3
 ·rw[eJ (ez 3),decide_eq_true aY,if_pos rfl,hj e9];exact⟨_,rfl,by rw[fZ];exact Us,by rw[ln];exact Na _ s4⟩
 rw[eJ (ez 3),decide_eq_false aY,if_neg (by simp)];simp only[bh,k5];exact⟨_,rfl,by rw[fZ];exact Ut,by rw[ln];exact Na _ s5⟩
def zG:a_:=aw vc [(az 1),(af rD (aw kg [(az 2),(af aU (aa (.int 4)) (nm 3))]) (af aU (aa (.int 1)) (nm 0)))]
def ak9{i:Int}(h:0<=i/\i<1000):y0 (1+i)=true:=by
 unfold y0;rw[cX];refine⟨decide_eq_true (by omega),decide_eq_true ?_⟩;have bf:(1+i).natAbs≠0:=by omega
 have:(1+i).natAbs.log2<10:=(Nat.log2_lt bf).mpr (by omega);omega
theorem chg{ns:List Int}{k:Nat}{B:Nat}(jn:B<=10000):∀(l:List (Int×Str)) (s0 s1:Option bQ),(∀q∈l,(0<=q.1/\q.1<1000)/\asc (ls q.2)/\q.2.length<=B) ->
  ∃ys:List Str,ys.length=l.length/\(∀y∈ys,asc (ls y)/\y.length<=B+1)/\fm (eH [(a8 0),(a8 1)]) (ct true) zG (l.map λq=>.tuple [.int q.1,.str q.2]) [s0,s1,some (.ae (c7 ns)),some (.ae (.int (k:Int)))]=some (ys.map .str)
| [],_,_,_=>⟨[],rfl,by simp,rfl⟩
|q::l,s0,s1,h=>by
  obtain⟨hi,aA,aH⟩:=h q (by simp);obtain⟨m,hm,em⟩:=bU.uP ns (4+k);obtain⟨y,fV,DL,ly⟩:=af1 aA (by omega) (m:=m / (1+q.1)) (Int.ediv_nonneg hm (by omega));obtain⟨ys,ah,ao,aY⟩:=chg (ns:=ns) (k:=k) jn l (some (.ae (.int q.1))) (some (.ae (.str q.2))) λz aI=>h z (ew _ aI);refine⟨y::ys,by simp[ah],λz aI=>?_,?_⟩
  ·rcases bC.mp aI with rfl|aI
   ·exact⟨DL,by omega⟩
   ·exact ao z aI
  ·have aE:zG [some (.ae (.int q.1)),some (.ae (.str q.2)),some (.ae (c7 ns)),some (.ae (.int (k:Int)))]=some (.str y):=by
    unfold zG;rw[l4 (t:=.str q.2) (u:=.int (m / (1+q.1))) rfl (by
     rw[bq (t:=.int m) (u:=.int (1+q.1)) (by
      rw[l4 (t:=c7 ns) (u:=.int ((4+k:Nat):Int)) rfl (by
       rw[bq (t:=.int 4) (u:=.int (k:Int)) rfl rfl];simp only[aU];congr 2)]
      exact em) rfl]
     simp only[rD];rw[if_pos (ak9 hi)])]
    exact fV
   rw[eI,fm,show eH [(a8 0),(a8 1)] (.tuple [.int q.1,.str q.2]) [s0,s1,some (.ae (c7 ns)),some (.ae (.int (k:Int)))]=some [some (.ae (.int q.1)),some (.ae (.str q.2)),some (.ae (c7 ns)),some (.ae (.int (k:Int)))] from rfl];simp only[bM,ct,if_true,aE];rw[aY];rfl
def KZ:bx:=asg 3 (comp 2 [0,4] (je (fc (az 3))) (eH [(a8 0),(a8 1)]) (ct true) zG)
def ai0(xs:List Str):enum (xs.map .str)=(xs.zipIdx.map λq=>((q.2:Int),q.1)).map λq=>.tuple [.int q.1,.str q.2]:=by
 unfold enum;rw[List.zipIdx_map,dW,dW];rfl
def akq{ns:List Int}{k B:Nat}(jn:B<=10000){xs:List Str}(hx:∀x∈xs,asc (ls x)/\x.length<=B)(aH:xs.length<=900){s1 s2:Option bQ}{r:Ev}:∃ys:List Str,ys.length=xs.length/\(∀y∈ys,asc (ls y)/\y.length<=B+1) /\
  KZ (some (.ae (c7 ns))::s1::s2::some (.ae (.list (xs.map .str)))::some (.ae (.int (k:Int)))::r)=some (.bg (some (.ae (c7 ns))::s1::s2::some (.ae (.list (ys.map .str)))::some (.ae (.int (k:Int)))::r)):=by
 obtain⟨ys,ah,ao,aY⟩:=chg (ns:=ns) (k:=k) jn (xs.zipIdx.map λq=>((q.2:Int),q.1)) none none λq aD=>by
  obtain⟨⟨x,i⟩,aI,rfl⟩:=b2.mp aD;have hm:=List.mem_zipIdx aI;refine⟨by simp only at hm ⊢;omega,hx x ?_⟩;rw[hm.2.2];exact List.getElem_mem _
 refine⟨ys,by simpa using ah,ao,?_⟩
 unfold KZ;rw[iy (t:=.list (ys.map .str)) (by
  simp only[comp,je];rw[J3 (t:=.list (xs.map .str)) rfl];simp only[pO,dt,bM,ai0];rw[if_pos (by simp;unfold big;omega),show hn 2 [0,4] (some (.ae (c7 ns))::s1::s2::some (.ae (.list (xs.map .str)))::some (.ae (.int (k:Int)))::r)=[none,none,some (.ae (c7 ns)),some (.ae (.int (k:Int)))] from rfl,aY];rfl)]
 rfl
theorem Ry{ns:List Int}{s1 s2:Option bQ}{r:Ev}:∀(dV:List Nat) (B:Nat) (xs:List Str) (s4:Option bQ),B+dV.length<=10000->(∀x∈xs,asc (ls x)/\x.length<=B)->xs.length<=900 ->
  ∃(ys:List Str) (j7:Option bQ),ys.length=xs.length/\(∀y∈ys,asc (ls y)/\y.length<=B+dV.length)/\forL (a8 4) KZ (dV.map λ(k:Nat)=>PyData.int (k:Int)) (some (.ae (c7 ns))::s1::s2::some (.ae (.list (xs.map .str)))::s4::r)=some (.bg (some (.ae (c7 ns))::s1::s2::some (.ae (.list (ys.map .str)))::j7::r))
| [],B,xs,s4,_,h,_=>⟨xs,s4,rfl,h,rfl⟩
|k::dV,B,xs,s4,jn,h,aH=>by
  rw[fM] at jn;obtain⟨ys,ah,ao,aY⟩:=akq (ns:=ns) (k:=k) (s1:=s1) (s2:=s2) (r:=r) (by omega) h aH;obtain⟨zs,j7,g1,g2,g3⟩:=Ry (ns:=ns) (s1:=s1) (s2:=s2) (r:=r) dV (B+1) ys (some (.ae (.int (k:Int)))) (by omega) ao (by omega);refine⟨zs,j7,by omega,λz aI=>?_,?_⟩
  ·have:=g2 z aI;rw[fM];exact⟨this.1,by omega⟩
  ·rw[eI,forL,show a8 4 (.int (k:Int)) (some (.ae (c7 ns))::s1::s2::some (.ae (.list (xs.map .str)))::s4::r)=some (some (.ae (c7 ns))::s1::s2::some (.ae (.list (xs.map .str)))::some (.ae (.int (k:Int)))::r) from rfl,bM,aY,bM];exact g3
noncomputable def uL(n:Str):List (List (List Str)):=[[],[[""]],[["rooms","1"]],[["rooms","8"]],[["rooms","01"]],[["rooms","2"],["0","1","-"]],[["rooms","2"],["1","0","-"]],[["ticks","1"]],[["ticks","0"]],[["ticks","01"]],[["line",n,"open"]],[["line",n,"wide"]],[["line","zzzz","open"]],[["code","1234","set"]],[["code","123","set"]],[["code","1234","set",n]],[["code","1234","free",n]],[["code","1234","free"]]]
def aje{f:a_}{ε:Ev}{n a b:Str}(hf:f ε=some (.str n))(bf:n.length<=100)(aA:a.length<=100)(ag:b.length<=100):af aU (af aU (aa (.str a)) f) (aa (.str b)) ε=some (.str (a++n++b)):=by
 have aH:(a++n).length=a.length+n.length:=by rw[er,hl,iq,<- er,<- er]
 rw[bq (t:=.str (a++n)) (u:=.str b) (by
  rw[bq (t:=.str a) (u:=.str n) rfl hf];simp only[aU];rw[if_pos (by unfold big;omega)]) rfl]
 simp only[aU];rw[if_pos (by rw[aH];unfold big;omega)]
def akX(n:Str):("line ":Str)++n++" open\n"=bH [["line",n,"open"]]:=by
 apply qh;rw[hl,hl,bH,fZ];have aE:ls "line "=ls "line"++[32]:=by decide +kernel
 have aK:ls " open\n"=32::(ls "open"++[10]):=by decide +kernel
 rw[aE,aK];simp[en,dK,c0]
def akW(n:Str):("line ":Str)++n++" wide\n"=bH [["line",n,"wide"]]:=by
 apply qh;rw[hl,hl,bH,fZ];have aE:ls "line "=ls "line"++[32]:=by decide +kernel
 have aK:ls " wide\n"=32::(ls "wide"++[10]):=by decide +kernel
 rw[aE,aK];simp[en,dK,c0]
def akV(n:Str):("code 1234 set ":Str)++n++"\n"=bH [["code","1234","set",n]]:=by
 apply qh;rw[hl,hl,bH,fZ];have aE:ls "code 1234 set "=ls "code"++32::(ls "1234"++32::(ls "set"++[32])):=by decide +kernel
 have aK:ls "\n"=[10]:=by decide +kernel
 rw[aE,aK];simp[en,dK,c0]
def akU(n:Str):("code 1234 free ":Str)++n++"\n"=bH [["code","1234","free",n]]:=by
 apply qh;rw[hl,hl,bH,fZ];have aE:ls "code 1234 free "=ls "code"++32::(ls "1234"++32::(ls "free"++[32])):=by decide +kernel
 have aK:ls "\n"=[10]:=by decide +kernel
 rw[aE,aK];simp[en,dK,c0]
def Ux:("":Str)=bH []:=by decide +kernel
def Uy:("\n":Str)=bH [[""]]:=by decide +kernel
def UD:("rooms 1\n":Str)=bH [["rooms","1"]]:=by decide +kernel
def UE:("rooms 8\n":Str)=bH [["rooms","8"]]:=by decide +kernel
def UG:("rooms 01\n":Str)=bH [["rooms","01"]]:=by decide +kernel
def UH:("rooms 2\n0 1 -\n":Str)=bH [["rooms","2"],["0","1","-"]]:=by decide +kernel
def UI:("rooms 2\n1 0 -\n":Str)=bH [["rooms","2"],["1","0","-"]]:=by decide +kernel
def UJ:("ticks 1\n":Str)=bH [["ticks","1"]]:=by decide +kernel
def UK:("ticks 0\n":Str)=bH [["ticks","0"]]:=by decide +kernel
def UL:("ticks 01\n":Str)=bH [["ticks","01"]]:=by decide +kernel
def Uz:("line zzzz open\n":Str)=bH [["line","zzzz","open"]]:=by decide +kernel
def UA:("code 1234 set\n":Str)=bH [["code","1234","set"]]:=by decide +kernel
def UB:("code 123 set\n":Str)=bH [["code","123","set"]]:=by decide +kernel
def UC:("code 1234 free\n":Str)=bH [["code","1234","free"]]:=by decide +kernel
def little_eq{n:Str}(bf:n.length<=4):yb [.str n]=some (.list ((uL n).map λrs=>.str (bH rs))):=by
 unfold yb bV Pm;show (seq _ _ [some (.ae (.str n)),none]).bind _=_;have ad:∀(a b:Str) (s:Option bQ),a.length<=100->b.length<=100->af aU (af aU (aa (.str a)) (nm 0)) (aa (.str b)) [some (.ae (.str n)),s]=some (.str (a++n++b)):=λa b s ah ao=>aje rfl (by omega) ah ao;rw[bU.cG (iy (t:=.list [.str "",.str "\n",.str "rooms 1\n",.str "rooms 8\n",.str "rooms 01\n",.str "rooms 2\n0 1 -\n",.str "rooms 2\n1 0 -\n"]) rfl)];simp only[ip,hZ];have hE:eh [(aa (.str "ticks 1\n")),(aa (.str "ticks 0\n")),(aa (.str "ticks 01\n")),(af aU (af aU (aa (.str "line ")) (nm 0)) (aa (.str " open\n")))] [some (.ae (.str n)),some (.ae (.list [.str "",.str "\n",.str "rooms 1\n",.str "rooms 8\n",.str "rooms 01\n",.str "rooms 2\n0 1 -\n",.str "rooms 2\n1 0 -\n"]))]=some (.list [.str "ticks 1\n",.str "ticks 0\n",.str "ticks 01\n",.str (("line ":Str)++n++" open\n")]):=by
  simp only[eh,args,ad "line " " open\n" _ (by decide) (by decide),aa,bM,dt];rfl
 rw[bU.cG (iy (add_l rfl hE (by simp)))];simp only[ip,hZ,xN,List.nil_append];generalize ph:([.str "",.str "\n",.str "rooms 1\n",.str "rooms 8\n",.str "rooms 01\n",.str "rooms 2\n0 1 -\n",.str "rooms 2\n1 0 -\n",.str "ticks 1\n",.str "ticks 0\n",.str "ticks 01\n",.str (("line ":Str)++n++" open\n")]:List T)=A;have W0:A.length=11:=by rw[<- ph];rfl
 have js:eh [(af aU (af aU (aa (.str "line ")) (nm 0)) (aa (.str " wide\n"))),(aa (.str "line zzzz open\n")),(aa (.str "code 1234 set\n")),(aa (.str "code 123 set\n"))] [some (.ae (.str n)),some (.ae (.list A))]=some (.list [.str (("line ":Str)++n++" wide\n"),.str "line zzzz open\n",.str "code 1234 set\n",.str "code 123 set\n"]):=by
  simp only[eh,args,ad "line " " wide\n" _ (by decide) (by decide),aa,bM,dt];rfl
 rw[bU.cG (iy (add_l rfl js (by simp;omega)))];simp only[ip,hZ];generalize zN:A++[.str (("line ":Str)++n++" wide\n"),.str "line zzzz open\n",.str "code 1234 set\n",.str "code 123 set\n"]=C;have alm:C.length=15:=by rw[<- zN,iq,W0];rfl
 have Zp:eh [(af aU (af aU (aa (.str "code 1234 set ")) (nm 0)) (aa (.str "\n"))),(af aU (af aU (aa (.str "code 1234 free ")) (nm 0)) (aa (.str "\n"))),(aa (.str "code 1234 free\n"))] [some (.ae (.str n)),some (.ae (.list C))]=some (.list [.str (("code 1234 set ":Str)++n++"\n"),.str (("code 1234 free ":Str)++n++"\n"),.str "code 1234 free\n"]):=by
  simp only[eh,args,ad "code 1234 set " "\n" _ (by decide) (by decide),ad "code 1234 free " "\n" _ (by decide) (by decide),aa,bM,dt];rfl
 simp only[bh];rw[add_l rfl Zp (by simp;omega),<- zN,<- ph,akX,akW,akV,akU,UD,UE,UG,UH,UI,UJ,UK,UL,Uz,UA,UB,UC];rw[show (hL "":T)=.str (bH []) from congrArg hL Ux,show (hL "\n":T)=.str (bH [[""]]) from congrArg hL Uy];rfl
def vH{a:Int}(h:0<=a){x:Str}{b:Nat}(e:cP a=x)(hx:gc x=.int (b:Int)):a=b:=by
 have:=yp h;rw[e,hx] at this;exact (PyData.int.inj this).symm
def B'{x:Str}{b:Nat}(h:nU x=true)(e:eR (ls x)=b):gc x=.int (b:Int):=by rw[gc,if_pos h,e]
def Nr:gc "0"=.int ((0:Nat):Int):=B' (by decide +kernel) (by decide +kernel)
def ZC:gc "1"=.int ((1:Nat):Int):=B' (by decide +kernel) (by decide +kernel)
def ZD:gc "8"=.int ((8:Nat):Int):=B' (by decide +kernel) (by decide +kernel)
def Nt:gc "01"=.int ((1:Nat):Int):=B' (by decide +kernel) (by decide +kernel)
def ab5:cP 0="0":=by decide +kernel
def IA:cP 1="1":=by decide +kernel
def ab6:cP 2="2":=by decide +kernel
def lJ{p:b4}:∀ar:List dU,(∀e∈ar,gq p e)->∀{ps:List Str} {rs:List (List Str)},(∀e:dU,gq p e->b8 e≠ps)->ar.map b8≠ps::rs
| [],_,_,_,_,h=>by simp at h
|e::ar,he,ps,rs,aC,h=>aC e (he e (by simp)) (List.cons.inj h).1
def pH(k:Nat):Bool:=decide (k∈[2,5])
def qW(k:Nat):Bool:=decide (k∈[0,7,10,13,16])
structure Lit(p:b4)(rs:List (List Str))(a b:Bool):Prop where
 cl:∀ps∈rs,Cl ps
 as:asc (ls (bH rs))
 len:(bH rs).length<=4000
 cN:rs.length<=2
 h:if a=true then md [.ae (.str (bH rs))]=false/\∃t,ni [.str (bH rs)]=some t else md [.ae (.str (bH rs))]=true
 r:if b=true then mf [.ae (bG p),.ae (.str (bH rs))]=false/\∃t,nj [bG p,.str (bH rs)]=some t else mf [.ae (bG p),.ae (.str (bH rs))]=true
def oj{l:List Str}(h:(l.all λq=>(ls q).all λc=>decide (c≠32) && decide (c≠10))=true):∀q∈l,pL q:=λq aD=>vK h aD
def gw(n q:Str):Bool:=decide (q=n) || (ls q).all λc=>decide (c≠32) && decide (c≠10) && decide (c<128)
def Cm(n:Str):gw n n=true:=by rw[gw,decide_eq_true rfl,Bool.true_or]
def iT{q:Str}(h:((ls q).all λc=>decide (c≠32) && decide (c≠10) && decide (c<128))=true)(n:Str):gw n q=true:=by rw[gw,h,Bool.or_true]
def adR(n:Str):gw n ""=true:=iT (by decide +kernel) n
def Om(n:Str):gw n "-"=true:=iT (by decide +kernel) n
def IJ(n:Str):gw n "0"=true:=iT (by decide +kernel) n
def Oj(n:Str):gw n "01"=true:=iT (by decide +kernel) n
def AO(n:Str):gw n "1"=true:=iT (by decide +kernel) n
def ako(n:Str):gw n "123"=true:=iT (by decide +kernel) n
def BZ(n:Str):gw n "1234"=true:=iT (by decide +kernel) n
def Ol(n:Str):gw n "2"=true:=iT (by decide +kernel) n
def adQ(n:Str):gw n "8"=true:=iT (by decide +kernel) n
def yB(n:Str):gw n "code"=true:=iT (by decide +kernel) n
def QL(n:Str):gw n "free"=true:=iT (by decide +kernel) n
def Ke(n:Str):gw n "line"=true:=iT (by decide +kernel) n
def QK(n:Str):gw n "open"=true:=iT (by decide +kernel) n
def yu(n:Str):gw n "rooms"=true:=iT (by decide +kernel) n
def KC(n:Str):gw n "set"=true:=iT (by decide +kernel) n
def JM(n:Str):gw n "ticks"=true:=iT (by decide +kernel) n
def ajj(n:Str):gw n "wide"=true:=iT (by decide +kernel) n
def aji(n:Str):gw n "zzzz"=true:=iT (by decide +kernel) n
def Zo:(ls "").length=0:=by decide +kernel
def Nj:(ls "-").length=1:=by decide +kernel
def HY:(ls "0").length=1:=by decide +kernel
def Rw:(ls "01").length=2:=by decide +kernel
def Af:(ls "1").length=1:=by decide +kernel
def aj1:(ls "123").length=3:=by decide +kernel
def BS:(ls "1234").length=4:=by decide +kernel
def Ni:(ls "2").length=1:=by decide +kernel
def Zn:(ls "8").length=1:=by decide +kernel
def yx:(ls "code").length=4:=by decide +kernel
def QA:(ls "free").length=4:=by decide +kernel
def J1:(ls "line").length=4:=by decide +kernel
def Qz:(ls "open").length=4:=by decide +kernel
def yr:(ls "rooms").length=5:=by decide +kernel
def Ks:(ls "set").length=3:=by decide +kernel
def JE:(ls "ticks").length=5:=by decide +kernel
def aiK:(ls "wide").length=4:=by decide +kernel
def aiJ:(ls "zzzz").length=4:=by decide +kernel
def aj2{n:Str}(bf:fC (.str n)=true){rs:List (List Str)}(ah:rs.all (λps=>!ps.isEmpty && ps.all λq=>gw n q)=true):(∀ps∈rs,Cl ps)/\asc (ls (bH rs)):=by
 rw[List.all_eq_true] at ah;have g:∀ps∈rs,ps≠[]/\∀q∈ps,pL q/\asc (ls q):=λps b6=>by
  have:=ah ps b6;rw[cX,List.all_eq_true] at this;refine⟨λe=>by simp[e] at this,λq aD=>?_⟩;have ao:=this.2 q aD;rw[gw,Bool.or_eq_true] at ao;rcases ao with ao|ao
  ·rw[of_decide_eq_true ao];exact⟨yo bf,yq bf⟩
  ·rw[List.all_eq_true] at ao;have aY:∀c∈ls q,c≠32/\c≠10/\c<128:=λc au=>by
    have:=ao c au;rw[cX,cX] at this;exact⟨of_decide_eq_true this.1.1,of_decide_eq_true this.1.2,of_decide_eq_true this.2⟩
   exact⟨⟨λhm=>(aY 32 hm).1 rfl,λhm=>(aY 10 hm).2.1 rfl⟩,λa aA=>(aY a aA).2.2⟩
 refine⟨λps b6=>⟨(g ps b6).1,λq aD=>((g ps b6).2 q aD).1⟩,?_⟩
 rw[bH,fZ];exact Cb λps b6 q aD=>((g ps b6).2 q aD).2
def kR{rs:List (List Str)}{ps:List Str}(aC:∀R:Int,1<=R/\R<=7->[("rooms":Str),cP R]≠ps):∀R os,iX R os->eb R os≠ps::rs:=λR os ba h=>aC R ba.r (List.cons.inj h).1
def KU{a b:Str}{x y:List Str}(h:a≠b):a::x≠b::y:=λe=>h (List.cons.inj e).1
def NR:("rooms":Str)≠"ticks":=by decide +kernel
def NQ:("rooms":Str)≠"line":=by decide +kernel
def NP:("rooms":Str)≠"code":=by decide +kernel
def Oc:("ticks":Str)≠"line":=by decide +kernel
def AJ:("ticks":Str)≠"code":=by decide +kernel
def Ad:("line":Str)≠"code":=by decide +kernel
def ak6{p:b4}{ps:List Str}{x:Str}{r:List Str}(e:ps=x::r)(ah:x≠"line")(ao:x≠"code")(aY:x≠"ticks"):∀e:dU,gq p e->b8 e≠ps:=λev _ h=>by
 rw[e] at h;cases ev with
|line z w=>exact ah (List.cons.inj h).1.symm
|ef n=>exact aY (List.cons.inj h).1.symm
|code f d z=>cases z with
  |none=>exact ao (List.cons.inj h).1.symm
  |some z=>exact ao (List.cons.inj h).1.symm
def Mx{p:b4}{x:Str}(hx:∀n:Int,1<=n->cP n≠x):∀e:dU,gq p e->b8 e≠[("ticks":Str),x]:=λev ok h=>by
 cases ev with
|line z w=>exact Oc (List.cons.inj h).1.symm
|ef n=>exact hx n ok (List.cons.inj (List.cons.inj h).2).1
|code f d z=>cases z with
  |none=>exact AJ (List.cons.inj h).1.symm
  |some z=>exact AJ (List.cons.inj h).1.symm
def Mw{p:b4}{x y:Str}(hx:x∈iu p->y∈qi->False):∀e:dU,gq p e->b8 e≠[("line":Str),x,y]:=λev ok h=>by
 cases ev with
|line z w=>
  have aE:=(List.cons.inj (List.cons.inj h).2).1;have aK:=(List.cons.inj (List.cons.inj (List.cons.inj h).2).2).1;exact hx (aE▸ok.1) (aK▸ok.2)
|ef n=>exact Oc (List.cons.inj h).1
|code f d z=>cases z with
  |none=>exact Ad (List.cons.inj h).1.symm
  |some z=>exact Ad (List.cons.inj h).1.symm
def RF{p:b4}{x y:Str}(hx:ha (.str x)=true->y∈(["set","unset"]:List Str)->False):∀e:dU,gq p e->b8 e≠[("code":Str),x,y]:=λev ok h=>by
 cases ev with
|line z w=>exact Ad (List.cons.inj h).1
|ef n=>exact AJ (List.cons.inj h).1
|code f d z=>cases z with
  |none=>
   have aE:=(List.cons.inj (List.cons.inj h).2).1;have aK:=(List.cons.inj (List.cons.inj (List.cons.inj h).2).2).1;rcases ok.2 with aI|⟨x,aI,_⟩
   ·exact hx (aE▸ok.1) (aK▸aI.2)
   ·cases aI
  |some z=>simp[b8] at h
def ak7{p:b4}{x y w:Str}(hx:y∈(["shunt","free"]:List Str)->False):∀e:dU,gq p e->b8 e≠[("code":Str),x,y,w]:=λev ok h=>by
 cases ev with
|line z w=>exact Ad (List.cons.inj h).1
|ef n=>exact AJ (List.cons.inj h).1
|code f d z=>cases z with
  |none=>simp[b8] at h
  |some z=>
   have aK:=(List.cons.inj (List.cons.inj (List.cons.inj h).2).2).1;rcases ok.2 with aI|⟨x,aI,_,aY⟩
   ·cases aI.1
   ·exact hx (aK▸aY)
def ah8{p:b4}(h:lM p):("zzzz":Str)∉iu p:=λhm=>by
 have:=h.zs.subset hm;revert this;decide +kernel
def ajv:("set":Str)∉(["shunt","free"]:List Str):=by decide +kernel
def aiW:("free":Str)∉(["set","unset"]:List Str):=by decide +kernel
def ah':("wide":Str)∉qi:=by decide +kernel
def aix:("open":Str)∈qi:=by decide +kernel
def WH:ha (.str "123")=false:=by decide +kernel
def RE:ha (.str "1234")=true:=by decide +kernel
def iQ{p:b4}(aC:Pv p){n:Str}(bf:fC (.str n)=true){rs:List (List Str)}{a b:Bool}(ah:rs.all (λps=>!ps.isEmpty && ps.all λq=>gw n q)=true)(aH:(en rs).length<=4000)(cN:rs.length<=2)
  (aA:if a=true then ∃R os,iX R os/\rs=eb R os else ∀R os,iX R os->eb R os≠rs)
  (ag:if b=true then ∃ar:List dU,(∀e∈ar,gq p e/\∀n,e=.ef n->n<=1000000000)/\ar.length<=10000/\rs=ar.map b8 else ∀ar:List dU,(∀e∈ar,gq p e)->ar.map b8≠rs):Lit p rs a b:=by
 obtain⟨c9,dz⟩:=aj2 bf ah;have amj:(bH rs).length<=4000:=by rw[B1];exact aH
 refine⟨c9,dz,amj,cN,?_,?_⟩
 ·cases a with
  |true=>
   rw[if_pos rfl] at aA ⊢;obtain⟨R,os,ba,rfl⟩:=aA;exact⟨agB ba,_,ad5 ba⟩
  |false=>
   rw[if_neg (by simp)] at aA ⊢;exact agA c9 dz amj aA
 ·cases b with
  |true=>
   rw[if_pos rfl] at ag ⊢;obtain⟨ar,g1,g2,rfl⟩:=ag;exact⟨aif aC (λe he=>(g1 e he).1) (λe he=>(g1 e he).2) g2,_,aek aC (λe he=>(g1 e he).1) (λe he=>(g1 e he).2) g2⟩
  |false=>
   rw[if_neg (by simp)] at ag ⊢;exact aie aC c9 dz amj ag
def B_{p:b4}{e:dU}(h:gq p e)(aN:∀n,e=.ef n->n<=1000000000){rs:List (List Str)}(ax:rs=[b8 e]):∃ar:List dU,(∀e∈ar,gq p e/\∀n,e=.ef n->n<=1000000000)/\ar.length<=10000/\rs=ar.map b8:=⟨[e],λx hx=>by rw[ka.mp hx];exact⟨h,aN⟩,by simp,ax⟩
def aj3{p:b4}(wI:lM p)(aC:Pv p){n:Str}(bf:n∈iu p)(ag:fC (.str n)=true)(aH:n.length<=4):∀k rs,(uL n)[k]?=some rs->Lit p rs (pH k) (qW k):=by
 have amj:(ls n).length<=4:=by rw[<- er];exact aH
 have Iw:∀{r:List Str},∀R:Int,1<=R/\R<=7->[("rooms":Str),cP R]≠("ticks":Str)::r:=λR _=>KU NR;have Iv:∀{r:List Str},∀R:Int,1<=R/\R<=7->[("rooms":Str),cP R]≠("line":Str)::r:=λR _=>KU NQ;have xt:∀{r:List Str},∀R:Int,1<=R/\R<=7->[("rooms":Str),cP R]≠("code":Str)::r:=λR _=>KU NP;have e1:∀{r:List Str},∀e:dU,gq p e->b8 e≠("rooms":Str)::r:=ak6 rfl NQ NP NR;intro k rs h
 match k,h with
|0,h=>
  cases h
  refine iQ aC ag rfl (by simp[en,dK,c0];try omega) (by simp) (λR os _ h=>by simp[eb] at h) ⟨[],by simp,by simp,rfl⟩
|1,h=>
  cases h
  refine iQ aC ag (by simp only[List.all_cons,List.all_nil,List.isEmpty_cons,adR];rfl) (by simp[en,dK,c0,Zo];try omega) (by simp) (kR λR _ h=>by simp at h) λar he=>lJ ar he λe _ h=>?_
  cases e with
  |line z w=>simp[b8] at h
  |ef n=>simp[b8] at h
  |code f d z=>cases z <;> simp[b8] at h
|2,h=>
  cases h
  refine iQ aC ag (by simp only[List.all_cons,List.all_nil,List.isEmpty_cons,AO,yu];rfl) (by simp[en,dK,c0,Af,yr];try omega) (by simp) ⟨1,[],⟨by omega,by simp,by simp⟩,by rw[eb,IA];rfl⟩ λar he=>lJ ar he e1
|3,h=>
  cases h
  refine iQ aC ag (by simp only[List.all_cons,List.all_nil,List.isEmpty_cons,adQ,yu];rfl) (by simp[en,dK,c0,Zn,yr];try omega) (by simp) (kR λR hS h=>by
   have:=vH (by omega) (List.cons.inj (List.cons.inj h).2).1 ZD;omega) λar he=>lJ ar he e1
|4,h=>
  cases h
  refine iQ aC ag (by simp only[List.all_cons,List.all_nil,List.isEmpty_cons,Oj,yu];rfl) (by simp[en,dK,c0,Rw,yr];try omega) (by simp) (kR λR hS h=>by
   have e:=(List.cons.inj (List.cons.inj h).2).1;have:=vH (by omega) e Nt;rw[this] at e;revert e;decide +kernel) λar he=>lJ ar he e1
|5,h=>
  cases h
  refine iQ aC ag (by simp only[List.all_cons,List.all_nil,List.isEmpty_cons,IJ,AO,Ol,Om,yu];rfl) (by simp[en,dK,c0,HY,Af,Ni,Nj,yr];try omega) (by simp) ⟨2,[(0,1,none)],⟨by omega,by simp,by simp⟩,by simp only[eb,eI,lz,jZ,ab6,ab5,IA];rfl⟩ λar he=>lJ ar he e1
|6,h=>
  cases h
  refine iQ aC ag (by simp only[List.all_cons,List.all_nil,List.isEmpty_cons,IJ,AO,Ol,Om,yu];rfl) (by simp[en,dK,c0,HY,Af,Ni,Nj,yr];try omega) (by simp) (λR os ba h=>?_)  λar he=>lJ ar he e1
  have aK:=(List.cons.inj h).2;cases os with
  |nil=>simp at aK
  |cons o os=>
   have aT:=ba.o o (by simp);have c_:=(List.cons.inj aK).1;have a4:=vH (by omega) (List.cons.inj c_).1 ZC;have bO:=vH (by omega) (List.cons.inj (List.cons.inj c_).2).1 Nr;omega
|7,h=>
  cases h
  refine iQ aC ag (by simp only[List.all_cons,List.all_nil,List.isEmpty_cons,AO,JM];rfl) (by simp[en,dK,c0,Af,JE];try omega) (by simp) (kR Iw) (B_ (e:=.ef 1) (show (1:Int)<=1 by omega) (λn bf=>by cases bf;omega) (by rw[b8,IA]))
|8,h=>
  cases h
  refine iQ aC ag (by simp only[List.all_cons,List.all_nil,List.isEmpty_cons,IJ,JM];rfl) (by simp[en,dK,c0,HY,JE];try omega) (by simp) (kR Iw) λar he=>lJ ar he (Mx λn bf h=>by
   have:=vH (by omega) h Nr;omega)
|9,h=>
  cases h
  refine iQ aC ag (by simp only[List.all_cons,List.all_nil,List.isEmpty_cons,Oj,JM];rfl) (by simp[en,dK,c0,Rw,JE];try omega) (by simp) (kR Iw) λar he=>lJ ar he (Mx λn bf h=>by
   have:=vH (by omega) h Nt;rw[this] at h;revert h;decide +kernel)
|10,h=>
  cases h
  refine iQ aC ag (by simp only[List.all_cons,List.all_nil,List.isEmpty_cons,Ke,QK,Cm];rfl) (by simp[en,dK,c0,J1,Qz];try omega) (by simp) (kR Iv) (B_ (e:=.line n "open") ⟨bf,aix⟩ (λn bf=>by cases bf) rfl)
|11,h=>
  cases h
  refine iQ aC ag (by simp only[List.all_cons,List.all_nil,List.isEmpty_cons,Ke,ajj,Cm];rfl) (by simp[en,dK,c0,J1,aiK];try omega) (by simp) (kR Iv) λar he=>lJ ar he (Mw λ_ h=>ah' h)
|12,h=>
  cases h
  refine iQ aC ag (by simp only[List.all_cons,List.all_nil,List.isEmpty_cons,Ke,QK,aji];rfl) (by simp[en,dK,c0,J1,Qz,aiJ];try omega) (by simp) (kR Iv) λar he=>lJ ar he (Mw λh _=>ah8 wI h)
|13,h=>
  cases h
  refine iQ aC ag (by simp only[List.all_cons,List.all_nil,List.isEmpty_cons,BZ,yB,KC];rfl) (by simp[en,dK,c0,BS,yx,Ks];try omega) (by simp) (kR xt) (B_ (e:=.code "1234" "set" none) ⟨RE,.inl ⟨rfl,by simp⟩⟩ (λn bf=>by cases bf) rfl)
|14,h=>
  cases h
  refine iQ aC ag (by simp only[List.all_cons,List.all_nil,List.isEmpty_cons,ako,yB,KC];rfl) (by simp[en,dK,c0,aj1,yx,Ks];try omega) (by simp) (kR xt) λar he=>lJ ar he (RF λh _=>by rw[WH] at h;cases h)
|15,h=>
  cases h
  refine iQ aC ag (by simp only[List.all_cons,List.all_nil,List.isEmpty_cons,BZ,yB,KC,Cm];rfl) (by simp[en,dK,c0,BS,yx,Ks];try omega) (by simp) (kR xt) λar he=>lJ ar he (ak7 λh=>ajv h)
|16,h=>
  cases h
  refine iQ aC ag (by simp only[List.all_cons,List.all_nil,List.isEmpty_cons,BZ,yB,QL,Cm];rfl) (by simp[en,dK,c0,BS,yx,QA];try omega) (by simp) (kR xt) (B_ (e:=.code "1234" "free" (some n)) ⟨RE,.inr ⟨n,rfl,bf,by simp⟩⟩ (λn bf=>by cases bf) rfl)
|17,h=>
  cases h
  refine iQ aC ag (by simp only[List.all_cons,List.all_nil,List.isEmpty_cons,BZ,yB,QL];rfl) (by simp[en,dK,c0,BS,yx,QA];try omega) (by simp) (kR xt) λar he=>lJ ar he (RF λ_ h=>aiW h)
|k+18,h=>simp[uL] at h
def mB:T:=.tuple [.str "refused",.int 3]
def TD(t:T):T:=.tuple [.str "told",t]
def BK:asc (ls "refused"):=oM
def rz:asc (ls "told"):=oM
def ak2:cR 1 mB:=cR.kG λt aN=>by
 simp only[bC,de,or_false] at aN;rcases aN with rfl|rfl
 ·exact jf BK (by decide +kernel)
 ·exact Q7
def Rk:gp "told" (.str "refused")=false:=by decide +kernel
def Rj:gp "told" (.str "told")=true:=by decide +kernel
def IF{f:a_}{r:fp}{ε:Ev}{P:T->Prop}(h:r ε=true\/∃t,f ε=some t/\P t):∃v,jg f r 3 ε=some v/\(v=mB\/∃t,v=TD t/\P t):=by
 by_cases ax:r ε=true
 ·exact⟨mB,by simp only[jg];rw[if_pos ax];rfl,.inl rfl⟩
 ·rcases h with h|⟨t,ah,ao⟩
  ·exact absurd h ax
  ·exact⟨TD t,by simp only[jg];rw[if_neg ax,ah];rfl,.inr ⟨t,rfl,ao⟩⟩
def Lo{f:a_}{ε:Ev}(h:f ε=some mB):af aJ f (aa (.int 0)) ε=some (.str "refused"):=by rw[bq h rfl];exact fJ
def Lp{f:a_}{ε:Ev}{t:T}(h:f ε=some (TD t)):af aJ f (aa (.int 0)) ε=some (.str "told"):=by rw[bq h rfl];exact fJ
def zv{f:a_}{ε:Ev}{t:T}(h:f ε=some (TD t)):af aJ f (aa (.int 1)) ε=some t:=by rw[bq h rfl];exact iH
def RD{f:a_}{ε:Ev}(h:f ε=some mB):a3 (af oEq (af aJ f (aa (.int 0))) (aa (.str "told"))) ε=some false:=by
 refine cH ?_
 rw[k' (d:=0) (Lo h) (jf BK (by decide +kernel)) rz,Rk]
def RC{f:a_}{ε:Ev}{t:T}(h:f ε=some (TD t)):a3 (af oEq (af aJ f (aa (.int 0))) (aa (.str "told"))) ε=some true:=by
 refine cH ?_
 rw[k' (d:=0) (Lp h) (jf rz (by decide +kernel)) rz,Rj]
def akO{f:a_}{ε:Ev}{t:T}(h:f ε=some (TD t)):a3 (af dG (af aJ f (aa (.int 0))) (aa (.str "told"))) ε=some false:=by
 refine cH ?_
 rw[Ia (d:=0) (Lp h) (jf rz (by decide +kernel)) rz,Rj];rfl
def akP{f:a_}{ε:Ev}(h:f ε=some mB):a3 (af dG (af aJ f (aa (.int 0))) (aa (.str "told"))) ε=some true:=by
 refine cH ?_
 rw[Ia (d:=0) (Lo h) (jf BK (by decide +kernel)) rz,Rk];rfl
def QH{f:a_}{ε:Ev}(h:f ε=some mB):a3 (af dG f (br [(aa (.str "refused")),(aa (.int 3))])) ε=some false:=ne_self (d:=1) h rfl ak2
def RM{f:a_}{ε:Ev}{v:T}{P:T->Prop}(h:f ε=some v)(ba:v=mB\/∃t,v=TD t/\P t):e6 (a3 (af dG (af aJ f (aa (.int 0))) (aa (.str "told")))) (a3 (af dG f (br [(aa (.str "refused")),(aa (.int 3))]))) ε=some false:=by
 rcases ba with rfl|⟨t,rfl,_⟩
 ·exact tT (a:=true) (b:=false) (akP h) λ_=>QH h
 ·exact tT (a:=false) (b:=true) (akO h) λh=>by cases h
def Ra{f:a_}{ε:Ev}{v:T}{P:T->Prop}{c:ej}(h:f ε=some v)(ba:v=mB\/∃t,v=TD t/\P t)(au:∀t,v=TD t->P t->c ε=some false):e6 (a3 (af oEq (af aJ f (aa (.int 0))) (aa (.str "told")))) c ε=some false:=by
 rcases ba with rfl|⟨t,rfl,aC⟩
 ·exact tT (a:=false) (b:=true) (RD h) λh=>by cases h
 ·exact tT (a:=true) (b:=false) (RC h) λ_=>au t rfl aC
noncomputable def KY:bx:=(seq (asg 11 (jg (aw p4 [(az 9)]) (kk oB [.v (az 9)]) 3)) (seq (iff (e6 (a3 (af oEq (af aJ (nm 11) (aa (.int 0))) (aa (.str "told")))) (dB (dq (a3 (aw nt [(af aJ (nm 11) (aa (.int 1)))]))) (a3 (af dG (aw kM [(af aJ (nm 11) (aa (.int 1)))]) (nm 9))))) (bh (aa (.bool false))) skip) (seq (asg 12 (jg (aw ni [(az 9)]) (kk md [.v (az 9)]) 3)) (seq (iff (e6 (a3 (af oEq (af aJ (nm 12) (aa (.int 0))) (aa (.str "told")))) (dB (dq (a3 (aw lE [(af aJ (nm 12) (aa (.int 1)))]))) (a3 (af dG (aw kd [(af aJ (nm 12) (aa (.int 1)))]) (nm 9))))) (bh (aa (.bool false))) skip) (seq (iff (dB (e6 (a3 (af dG (af aJ (nm 11) (aa (.int 0))) (aa (.str "told")))) (a3 (af dG (nm 11) (br [(aa (.str "refused")),(aa (.int 3))])))) (e6 (a3 (af dG (af aJ (nm 12) (aa (.int 0))) (aa (.str "told")))) (a3 (af dG (nm 12) (br [(aa (.str "refused")),(aa (.int 3))]))))) (bh (aa (.bool false))) skip) (seq (asg 11 (jg (aw nj [(az 2),(az 9)]) (kk mf [.v (az 2),.v (az 9)]) 3)) (iff (a3 (af oEq (af aJ (nm 11) (aa (.int 0))) (aa (.str "told")))) (seq (asg 13 (comp 1 [2] (b9 (af aJ (nm 11) (aa (.int 1)))) (a8 0) (dq (a3 (aw nk [(az 1),(az 0)]))) (az 0))) (iff (dB (a3 (af dG (nm 13) (eh []))) (a3 (af dG (aw kN [(af aJ (nm 11) (aa (.int 1)))]) (nm 9)))) (bh (aa (.bool false))) skip)) (iff (a3 (af dG (nm 11) (br [(aa (.str "refused")),(aa (.int 3))]))) (bh (aa (.bool false))) skip))))))))
noncomputable def h6(s0 s1:Option bQ)(p:b4)(s3 s4 s5 d2 c2 du:Option bQ)(x:Str)(eW i8 s12 gK:Option bQ):Ev:=[s0,s1,some (.ae (bG p)),s3,s4,s5,d2,c2,du,some (.ae (.str x)),eW,i8,s12,gK]
def akp{s0 s1 s3 s4 s5 d2 c2 du eW i8 s12 gK:Option bQ}{p:b4}(aC:Pv p){x:Str}(hx:asc (ls x))(aH:x.length<=4000):∃abZ ab0 ab1,KY (h6 s0 s1 p s3 s4 s5 d2 c2 du x eW i8 s12 gK)=some (.bg (h6 s0 s1 p s3 s4 s5 d2 c2 du x eW abZ ab0 ab1)):=by
 have FF:cR 0 (.str x):=jf hx (by omega);unfold KY;obtain⟨v1,aE,MY⟩:=IF (f:=aw p4 [(az 9)]) (r:=kk oB [.v (az 9)]) (ε:=h6 s0 s1 p s3 s4 s5 d2 c2 du x eW i8 s12 gK) (P:=λt=>cR 4 t/\oJ t=true/\kM [t]=some (.str x)) (by
  rcases OK hx (by omega) with h|⟨q,ah,ao,aY,bZ,ft,_⟩
  ·exact .inl h
  ·exact .inr ⟨bG q,by rw[b5 (t:=.str x) rfl];exact ah,bZ,ft,by rw[Bc ao.sF,aY]⟩)
 rw[bU.cG (iy aE),show (h6 s0 s1 p s3 s4 s5 d2 c2 du x eW i8 s12 gK).set 11 (some (.ae v1))=h6 s0 s1 p s3 s4 s5 d2 c2 du x eW (some (.ae v1)) s12 gK from rfl];rw[BR (Ra (f:=nm 11) (v:=v1) rfl MY λt aN sg=>by
  subst aN;have a1:=zv (f:=nm 11) (ε:=h6 s0 s1 p s3 s4 s5 d2 c2 du x eW (some (.ae (TD t))) s12 gK) rfl;exact An (eF (a:=true) (cH (by rw[b5 a1,JB (d:=0) sg.1 (by omega),sg.2.1]))) (ne_self (d:=0) (t:=.str x) (by rw[b5 a1];exact sg.2.2) rfl FF))]
 obtain⟨v2,aK,MZ⟩:=IF (f:=aw ni [(az 9)]) (r:=kk md [.v (az 9)]) (ε:=h6 s0 s1 p s3 s4 s5 d2 c2 du x eW (some (.ae v1)) s12 gK) (P:=λt=>cR 3 t/\kh t=true/\kd [t]=some (.str x)) (by
  rcases OE hx (by omega) with h|⟨R,os,ah,ao,aY,bZ,ft,_⟩
  ·exact .inl h
  ·have ax:=ao.r;exact .inr ⟨cy.e2 R os,by rw[b5 (t:=.str x) rfl];exact ah,bZ,ft,by rw[xU ⟨by omega,by omega⟩ ao.jw (by have:=ao.l;omega),aY]⟩)
 rw[bU.cG (iy aK),show (h6 s0 s1 p s3 s4 s5 d2 c2 du x eW (some (.ae v1)) s12 gK).set 12 (some (.ae v2))=h6 s0 s1 p s3 s4 s5 d2 c2 du x eW (some (.ae v1)) (some (.ae v2)) gK from rfl];rw[BR (Ra (f:=nm 12) (v:=v2) rfl MZ λt aN sg=>by
  subst aN;have a1:=zv (f:=nm 12) (ε:=h6 s0 s1 p s3 s4 s5 d2 c2 du x eW (some (.ae v1)) (some (.ae (TD t))) gK) rfl;exact An (eF (a:=true) (cH (by rw[b5 a1,BJ (d:=0) sg.1 (by omega),sg.2.1]))) (ne_self (d:=0) (t:=.str x) (by rw[b5 a1];exact sg.2.2) rfl FF))]
 rw[BR (An (RM (f:=nm 11) (v:=v1) rfl MY) (RM (f:=nm 12) (v:=v2) rfl MZ))];obtain⟨Og,c_,X9⟩:=IF (f:=aw nj [(az 2),(az 9)]) (r:=kk mf [.v (az 2),.v (az 9)]) (ε:=h6 s0 s1 p s3 s4 s5 d2 c2 du x eW (some (.ae v1)) (some (.ae v2)) gK) (P:=λt=>∃ar:List dU,t=.tuple (ar.map cu)/\(∀e∈ar,kV 4025 e)/\(∀e∈ar,jE p (cu e)=true)/\ar.length<=4000/\bH (ar.map b8)=x/\∀e∈ar,cR 1 (cu e)) (by
  rcases OS (ru aC) hx aH with h|⟨ar,ah,ao,aY,bZ,ft,jm,_⟩
  ·exact .inl h
  ·exact .inr ⟨_,by rw[l4 (t:=bG p) (u:=.str x) rfl rfl];exact ah,ar,rfl,ao,aY,bZ,ft,jm⟩)
 rw[bU.cG (iy c_),show (h6 s0 s1 p s3 s4 s5 d2 c2 du x eW (some (.ae v1)) (some (.ae v2)) gK).set 11 (some (.ae Og))=h6 s0 s1 p s3 s4 s5 d2 c2 du x eW (some (.ae Og)) (some (.ae v2)) gK from rfl];rcases X9 with rfl|⟨t,rfl,ar,rfl,ao,aY,bZ,ft,jm⟩
 ·refine⟨some (.ae mB),some (.ae v2),gK,?_⟩
  simp only[iff];rw[RD (f:=nm 11) rfl,bM,if_neg (by simp),QH (f:=nm 11) rfl];rfl
 ·refine⟨some (.ae (TD (.tuple (ar.map cu)))),some (.ae v2),some (.ae (.list [])),?_⟩
  have a1:=zv (f:=nm 11) (ε:=h6 s0 s1 p s3 s4 s5 d2 c2 du x eW (some (.ae (TD (.tuple (ar.map cu))))) (some (.ae v2)) gK) rfl;have c9:comp 1 [2] (b9 (af aJ (nm 11) (aa (.int 1)))) (a8 0) (dq (a3 (aw nk [(az 1),(az 0)]))) (az 0) (h6 s0 s1 p s3 s4 s5 d2 c2 du x eW (some (.ae (TD (.tuple (ar.map cu))))) (some (.ae v2)) gK)=some (.list (((ar.map cu).filter λ_=>false).map id)):=by
   refine Q_ (ts:=ar.map cu) (by simp only[b9,a1,bM]) (by rw[dy];unfold big;omega) (λt aN=>?_) λt aN aC=>by cases aC
   obtain⟨e,he,rfl⟩:=b2.mp aN;refine eF (a:=true) (cH ?_);rw[l4 (t:=bG p) (u:=cu e) rfl rfl,PK (ru aC).ok (d:=0) (jm e he) (by omega),aY e he]
  rw[show ((ar.map cu).filter λ_=>false).map id=[] by simp] at c9;have a2:=zv (f:=nm 11) (ε:=h6 s0 s1 p s3 s4 s5 d2 c2 du x eW (some (.ae (TD (.tuple (ar.map cu))))) (some (.ae v2)) (some (.ae (.list [])))) rfl;have dz:dB (a3 (af dG (nm 13) (eh []))) (a3 (af dG (aw kN [(af aJ (nm 11) (aa (.int 1)))]) (nm 9))) (h6 s0 s1 p s3 s4 s5 d2 c2 du x eW (some (.ae (TD (.tuple (ar.map cu))))) (some (.ae v2)) (some (.ae (.list []))))=some false:=by
   refine An (cH ?_) (ne_self (d:=0) (t:=.str x) ?_ rfl FF)
   ·rw[bq (t:=.list []) (u:=.list []) rfl rfl];rfl
   ·rw[b5 a2,x3 ao (by omega) (by omega) (by omega),ft]
  simp only[iff];rw[RC (f:=nm 11) rfl,bM,if_pos rfl,bU.cG (iy c9)];show (dB _ _ (h6 s0 s1 p s3 s4 s5 d2 c2 du x eW (some (.ae (TD (.tuple (ar.map cu))))) (some (.ae v2)) (some (.ae (.list []))))).bind _=_;rw[dz];rfl
theorem Rx{s0 s1 s3 s4 s5 d2 c2 du eW:Option bQ}{p:b4}(aC:Pv p):∀(xs:List Str) (pN i8 s12 gK:Option bQ),(∀x∈xs,asc (ls x)/\x.length<=4000)->∃ε,forL (a8 9) KY (xs.map .str) [s0,s1,some (.ae (bG p)),s3,s4,s5,d2,c2,du,pN,eW,i8,s12,gK]=some (.bg ε)
| [],_,_,_,_,_=>⟨_,rfl⟩
|x::xs,pN,i8,s12,gK,h=>by
  have hx:=h x (by simp);obtain⟨a,b,c,e⟩:=akp (s0:=s0) (s1:=s1) (s3:=s3) (s4:=s4) (s5:=s5) (d2:=d2) (c2:=c2) (du:=du) (eW:=eW) (i8:=i8) (s12:=s12) (gK:=gK) aC hx.1 hx.2;obtain⟨ε,EN⟩:=Rx (s0:=s0) (s1:=s1) (s3:=s3) (s4:=s4) (s5:=s5) (d2:=d2) (c2:=c2) (du:=du) (eW:=eW) aC xs (some (.ae (.str x))) a b c λy b1=>h y (ew _ b1);refine⟨ε,?_⟩;rw[eI,forL,show a8 9 (.str x) [s0,s1,some (.ae (bG p)),s3,s4,s5,d2,c2,du,pN,eW,i8,s12,gK]=some (h6 s0 s1 p s3 s4 s5 d2 c2 du x eW i8 s12 gK) from rfl,bM,e,bM];exact EN
def gW(b:Bool):Str:=if b then "told" else "refused"
def Hd{f:a_}{r:fp}{ε:Ev}{a:Bool}(h:if a=true then r ε=false/\∃t,f ε=some t else r ε=true):af aJ (jg f r 3) (aa (.int 0)) ε=some (.str (gW a)):=by
 cases a with
|true=>
  rw[if_pos rfl] at h;obtain⟨ah,t,ao⟩:=h;rw[bq (t:=TD t) (u:=.int 0) (by simp only[jg];rw[if_neg (by rw[ah];simp),ao];rfl) rfl];exact fJ
|false=>
  rw[if_neg (by simp)] at h;rw[bq (t:=mB) (u:=.int 0) (by simp only[jg];rw[if_pos h];rfl) rfl];exact fJ
def rv:T:=.tuple [.int 0,.int 2,.int 5,.int 7,.int 10,.int 13,.int 16]
def ahO:∀k:Nat,k<18->gJ false (.int (k:Int)) rv=some (.bool (pH k || qW k))
|0,_=>rfl
|1,_=>rfl
|2,_=>rfl
|3,_=>rfl
|4,_=>rfl
|5,_=>rfl
|6,_=>rfl
|7,_=>rfl
|8,_=>rfl
|9,_=>rfl
|10,_=>rfl
|11,_=>rfl
|12,_=>rfl
|13,_=>rfl
|14,_=>rfl
|15,_=>rfl
|16,_=>rfl
|17,_=>rfl
|k+18,h=>by omega
def akm(b:Bool):asc (ls (gW b)):=by
 cases b with
|true=>exact rz
|false=>exact BK
def ahH(a b:Bool):gJ false (.str "told") (.list [.str (gW false),.str (gW a),.str (gW b)])=some (.bool (a || b)):=by
 have:=Q5 (ss:=[gW false,gW a,gW b]) (t:=.str "told") (d:=0) (λs aB=>by
  simp only[bC,de,or_false] at aB;rcases aB with rfl|rfl|rfl <;> exact akm _) (jf rz (by decide +kernel))
 refine this.trans ?_
 cases a <;> cases b <;> rfl
def aiL(n:Str):(uL n).length=18:=rfl
def J2{ts:List T}{k:Nat}{t:T}(h:ts[k]?=some t):aJ (.list ts) (.int (k:Int))=some t:=by
 have a0:k<ts.length:=by
  rcases Nat.lt_or_ge k ts.length with z|z
  ·exact z
  ·rw[List.getElem?_eq_none z] at h;cases h
 simp only[aJ,eP,fv];rw[if_pos (by omega),if_pos (by omega)];exact h
def ahE(ns:List Int)(h:ns.length<=63):vY [c7 ns]=some (.bool true):=by
 obtain⟨m0,alz,x0⟩:=bU.uP ns 0;obtain⟨hD,alA,aW⟩:=bU.uP ns 1;obtain⟨hE,w8,bF⟩:=bU.uP ns 2;obtain⟨js,XE,e'⟩:=bU.uP ns 3;obtain⟨p,aC,xp⟩:=bU.aaU hD;obtain⟨R,os,hd,Oq⟩:=cy.XQ hE w8;rw[<- ei.XR] at Oq;obtain⟨ar,MJ,alu,Ot⟩:=bU.abW aC js 6 XE (by decide);have ba:=akI aC;have MU:=ru ba;have c4:=ak0 hd;have hS:0<=R/\R<1000000000:=by have:=c4.r;omega
 have hz:∀e∈ar,kV 45 e:=λe he=>KW MU (aiZ (MJ e he)) (rM.tick (MJ e he));have t0:=Bc ba.sF;have t1:=xU hS c4.jw (by have:=c4.l;omega);have fk:=x3 hz (by omega) (by omega) (by omega);have cN:=JT hz;obtain⟨e9,alw,z_,z',Wy⟩:=modQ m0 4;obtain⟨a1,Xa,EJ⟩:=divQ m0 16;obtain⟨a2,alp,zp,zq,Wt⟩:=modQ a1 18;obtain⟨a,rfl⟩:∃a:Nat,a2=a:=⟨a2.toNat,by omega⟩;have aA:a<18:=by omega
 unfold vY bV RN;show (seq _ _ [some (.ae (c7 ns)),none,none,none,none,none,none,none,none,none,none,none,none,none]).bind _=_;have S:∀(j m:Int) (r:Ev),kg [c7 ns,.int j]=some (.int m)->aw kg [(az 0),(aa (.int j))] (some (.ae (c7 ns))::r)=some (.int m):=λj m r e=>by
  rw[l4 (t:=c7 ns) (u:=.int j) rfl rfl];exact e
 rw[bU.cG (iy (S 0 m0 _ x0))];simp only[ip,hZ];rw[bU.cG (iy (t:=bG p) (by rw[b5 (S 1 hD _ aW),xp]))];simp only[ip,hZ];generalize W9:bH (iS p)=T0 at t0;generalize W_:bH (eb R os)=t_ at t1;generalize r7:bH (ar.map b8)=wj at fk;have adJ:∀x∈[T0,t_,wj],asc (ls x)/\x.length<=440:=λx hx=>by
  simp only[bC,de,or_false] at hx;rcases hx with rfl|rfl|rfl
  ·rw[<- W9];exact⟨JC ba.sF,ahg ba⟩
  ·rw[<- W_];exact⟨yj hS.1 c4.jw,Jn c4⟩
  ·rw[<- r7];exact⟨tw hz,by omega⟩
 rw[bU.cG (ε':=[some (.ae (c7 ns)),some (.ae (.int m0)),some (.ae (bG p)),some (.own [.str T0,.str t_]),none,none,none,none,none,none,none,none,none,none]) (by
  simp only[h8,eh,args];rw[b5 (t:=bG p) rfl,t0,b5 (t:=cy.e2 R os) (by rw[b5 (S 2 hE _ bF),Oq]),t1];rfl)]
 rw[bU.cG (ε':=[some (.ae (c7 ns)),some (.ae (.int m0)),some (.ae (bG p)),some (.own [.str T0,.str t_,.str wj]),none,none,none,none,none,none,none,none,none,none]) (by
  simp only[app,u5,gN];rw[b5 (t:=.tuple (ar.map cu)) (by rw[aaS (t:=bG p) (u:=.int js) (v:=.int 6) rfl (S 3 js _ e') rfl,Ot]),fk];rfl)]
 rw[bU.cG (ε':=[some (.ae (c7 ns)),some (.ae (.int m0)),some (.ae (bG p)),some (.ae (.list [.str T0,.str t_,.str wj])),none,none,none,none,none,none,none,none,none,none]) rfl];have hit:hM (af oMod (nm 1) (aa (.int 4))) [some (.ae (c7 ns)),some (.ae (.int m0)),some (.ae (bG p)),some (.ae (.list [.str T0,.str t_,.str wj])),none,none,none,none,none,none,none,none,none,none]=some ((List.range e9.toNat).map λ(k:Nat)=>PyData.int (k:Int)):=by
  unfold hM;rw[bq (t:=.int m0) (u:=.int 4) rfl rfl,Wy];simp only[bM];rw[if_pos (by
   unfold qb;rw[cX];exact⟨decide_eq_true (by omega),decide_eq_true (by omega)⟩)]
  unfold jx;rw[Int.sub_zero];congr 1;refine List.map_congr_left λa _=>?_;show PyData.int (0+(a:Int))=.int (a:Int);rw[Int.zero_add]
 obtain⟨ys,s4,pR,pT,s_⟩:=Ry (ns:=ns) (s1:=some (.ae (.int m0))) (s2:=some (.ae (bG p))) (r:=[none,none,none,none,none,none,none,none,none]) (List.range e9.toNat) 440 [T0,t_,wj] none (by simp;omega) adJ (by simp);rw[bU.cG (ε':=some (.ae (c7 ns))::some (.ae (.int m0))::some (.ae (bG p))::some (.ae (.list (ys.map .str)))::s4::[none,none,none,none,none,none,none,none,none]) (by
  unfold gR;rw[hit];exact s_)]
 obtain⟨z,zs,pe⟩:∃z zs,p.dY=z::zs:=by
  cases aI:p.dY with
  |nil=>exact absurd aI aC.q'
  |cons z zs=>exact⟨z,zs,rfl⟩
 have F8:z.1∈iu p:=by unfold iu;rw[pe];simp
 have zX:fC (.str z.1)=true:=(ba.zs z (by rw[pe];simp)).1;have zY:z.1.length<=4:=MU.n _ F8;generalize Gi:z.1=n at F8 zX zY;rw[bU.cG (iy (t:=.str n) (by
  rw[bq (t:=.tuple [.str z.1,.str z.2]) (u:=.int 0) (by
   rw[bq (t:=.tuple (p.dY.map λz=>.tuple [.str z.1,.str z.2])) (u:=.int 0) (by
    rw[bq (t:=bG p) (u:=.int 0) rfl rfl];exact fJ) rfl,pe]
   exact fJ) rfl,<- Gi]
  exact fJ))]
 simp only[ip,hZ];generalize ff:(uL n).map (λrs=>hL (bH rs))=L;rw[bU.cG (iy (t:=.list L) (by rw[b5 (t:=.str n) rfl,little_eq zY,ff]))];simp only[ip,hZ];rw[bU.cG (iy (t:=rv) rfl)];simp only[ip,hZ];rw[bU.cG (iy (t:=.int (a:Int)) (by
  rw[bq (t:=.int a1) (u:=.int 18) (by rw[bq (t:=.int m0) (u:=.int 16) rfl rfl];exact EJ) rfl];exact Wt))]
 simp only[ip,hZ];obtain⟨rs,z4⟩:∃rs,(uL n)[a]?=some rs:=⟨_,hK (by rw[aiL];exact aA)⟩;have lit:=aj3 aC ba F8 zX zY a rs z4;have FL:L[a]?=some (.str (bH rs)):=by rw[<- ff,alZ,z4];rfl
 have aln:L.length=18:=by rw[<- ff,dy];rfl
 have Nf:=lit.as;have Ng:=lit.len;have Nh:=ahf lit.cl lit.as lit.len lit.cN;have uK:=lit.h;have uM:=lit.r;generalize bH rs=X at FL Nf Ng Nh uK uM;rw[bU.cG (iy (t:=.str X) (by
  rw[bq (t:=.list L) (u:=.int (a:Int)) rfl rfl];exact J2 FL))]
 simp only[ip,hZ];generalize uw:(ys.map hL)=Y;rw[bU.cG (ε':=[some (.ae (c7 ns)),some (.ae (.int m0)),some (.ae (bG p)),some (.ae (.list Y)),s4,some (.ae (.str n)),some (.ae (.list L)),some (.ae rv),some (.ae (.int (a:Int))),some (.ae (.str X)),some (.own [.str (gW false)]),none,none,none]) (by
  simp only[h8,eh,args];rw[Hd (a:=false) (r:=kk oB [.v (az 9)]) (by rw[if_neg (by simp)];exact Nh)];rfl)]
 rw[bU.cG (ε':=[some (.ae (c7 ns)),some (.ae (.int m0)),some (.ae (bG p)),some (.ae (.list Y)),s4,some (.ae (.str n)),some (.ae (.list L)),some (.ae rv),some (.ae (.int (a:Int))),some (.ae (.str X)),some (.own [.str (gW false),.str (gW (pH a))]),none,none,none]) (by
  simp only[app,u5,gN];rw[Hd (a:=pH a) (by
   split
   next h=>rw[if_pos h] at uK;exact⟨uK.1,by obtain⟨t,aN⟩:=uK.2;exact⟨t,by rw[b5 (t:=.str X) rfl];exact aN⟩⟩
   next h=>rw[if_neg h] at uK;exact uK)]
  rfl)]
 rw[bU.cG (ε':=[some (.ae (c7 ns)),some (.ae (.int m0)),some (.ae (bG p)),some (.ae (.list Y)),s4,some (.ae (.str n)),some (.ae (.list L)),some (.ae rv),some (.ae (.int (a:Int))),some (.ae (.str X)),some (.own [.str (gW false),.str (gW (pH a)),.str (gW (qW a))]),none,none,none]) (by
  simp only[app,u5,gN];rw[Hd (a:=qW a) (by
   split
   next h=>rw[if_pos h] at uM;exact⟨uM.1,by obtain⟨t,aN⟩:=uM.2;exact⟨t,by rw[l4 (t:=bG p) (u:=.str X) rfl rfl];exact aN⟩⟩
   next h=>rw[if_neg h] at uM;exact uM)]
  rfl)]
 rw[BR (ne_self (d:=0) (t:=.bool (pH a || qW a)) (by rw[bq (t:=.str "told") (u:=.list [.str (gW false),.str (gW (pH a)),.str (gW (qW a))]) rfl rfl];exact ahH _ _) (by rw[bq (t:=.int (a:Int)) (u:=rv) rfl rfl];exact ahO a aA) aiT)];have Xx:b9 (af aU (nm 3) (da (nm 6) (opt (nm 8)) (opt (af aU (nm 8) (aa (.int 1)))))) [some (.ae (c7 ns)),some (.ae (.int m0)),some (.ae (bG p)),some (.ae (.list Y)),s4,some (.ae (.str n)),some (.ae (.list L)),some (.ae rv),some (.ae (.int (a:Int))),some (.ae (.str X)),some (.own [.str (gW false),.str (gW (pH a)),.str (gW (qW a))]),none,none,none]=some ((ys++[X]).map .str):=by
  simp only[b9];rw[add_l (a:=Y) (b:=[.str X]) rfl (by
   rw[mj (ts:=L) (a:=some (a:Int)) (b:=some ((a:Int)+1)) rfl rfl rfl,ai9 _ _ (by omega)];congr 3;exact iN ((hK (by omega)).symm.trans FL)) (by rw[<- uw];simp[pR])]
  rw[<- uw];simp
 obtain⟨ε,EN⟩:=Rx (s0:=some (.ae (c7 ns))) (s1:=some (.ae (.int m0))) (s3:=some (.ae (.list Y))) (s4:=s4) (s5:=some (.ae (.str n))) (d2:=some (.ae (.list L))) (c2:=some (.ae rv)) (du:=some (.ae (.int (a:Int)))) (eW:=some (.own [.str (gW false),.str (gW (pH a)),.str (gW (qW a))])) ba (ys++[X]) (some (.ae (.str X))) none none none λx hx=>by
  rcases gz.mp hx with hx|hx
  ·have:=pT x hx;simp only[List.length_range] at this;exact⟨this.1,by omega⟩
  ·rw[ka.mp hx];exact⟨Nf,Ng⟩
 rw[bU.cG (ε':=ε) (by
  unfold gR;rw[Xx];exact EN)]
 rfl
end oX
end
end
section
namespace oX
open PySem PySem.Spec PyProof.Rows bB D bU ei
set_option hygiene false in
local macro_rules | `(unop% lk ($f, $gY, $hb, $n, $q, $s, $a, $b, $c, $d, $e, $g, $h)) => `(K.lookup $f = some ⟨$gY, $hb, .func (lx $n $q (ny $s) (hk $s) (bS $s) .none $a $b $c $d $e $g), $h⟩)
set_option hygiene false in
local macro_rules | `(binop% cd $c $q) => `(sX K $c $q = true)
set_option hygiene false in
local macro_rules | `(unop% aQ $c) => `(al6 K (.ref $c) = true)
set_option hygiene false in
local macro_rules | `(unop% fi $c) => `(PySem.W.isFn K (.ref $c) = true)
set_option hygiene false in
local macro_rules | `(binop% ns $q $c) => `(PySem.W.nsIn K i_ $q = some (some (.ref $c)))
set_option hygiene false in
local macro_rules | `(unop% zn $q) => `(PySem.W.nsIn K i_ $q = some none)
set_option hygiene false in
local macro_rules | `(unop% fn ($C, $q, $c)) => `(xJ K (.ref $C) $q = some (some (.ref $c)))
set_option hygiene false in
local macro_rules | `(binop% fz $C $q) => `(xJ K (.ref $C) $q = some none)
local macro_rules | `(unop% mo $x) => `(($x).mono (by decide))
set_option hygiene false in
local macro_rules | `(unop% cm ($f $n $as*)) => `($f (P := l.prog) (w := w) (mg := mg) (base := base) (k := $n) $as*)
def all_mk{l:PySem.W.OpenLaw}{w:cf}{K:a'}{h:bP}{mg:Str->Option av}{cU f1 f2 fW f4 ez Fy Fz f8 FA ER ES ET EU EV EW EX EY EZ E0 E1 E2 E3 E4 E5 E6 E7 E8 E9 E_ E' Fb Fc Fd Fe Ff Fg Fh Fi Fj Fl Fm Fn Fo Fp Fq Fs Ft Fu Fv Fw Fx ud uf ue ub uc o9 h7 xz iM gZ alY:aq}{_N Tx _Y TM aaj TZ aau T' aaF Ul aaI Un aaJ Uo aaK Up aaL Uq _O Tz _P TA _Q TB _R TC _S TF _T TG _U TH _V TJ _W TK _X TL _Z TN aaa TO aab TP aac TQ aad TR aae TS aaf TU aag TV aah TX aai TY aak T1 aal T2 aam T3 aan T4 aao T5 aap T6 aaq T7 aar T8 aas T9 aat T_ aav Ua aaw Ub aax Uc aay Ud aaz Ue aaA Ug aaB Uh aaC Ui aaD Uj aaE Uk aaG Um aaH Lk aaO aaQ aaP aaM aaN:Option aq}{Ax hg acv acG acR acU acV acW acX ab_ ab' aca acb acd ace acf acg ach aci acj ack acm acn aco acp acq acr acs acu acw acx acy acz acA acB acC acD acE acF acH acI acJ acK acL acM acN acO acP acQ acS acT ac0 ac2 ac1 acY acZ:Array (Option av)}{ZZ Yt VC aaV Lw UO Z_ YE VN aa6 LI U0 _k YP VY abf LU U' _v Y0 V9 abq L5 Vk _G Y' Wi abC Me Vv _J Zb Wk abE Mg Vx _K Zc Wl abF Mh Vy _L Zd Wm abG Mi Vz _M Ze Wn abH Mj VA Z0 Yu VD aaW Lx UP Z1 Yv VE aaX Ly UQ Z2 Yw VF aaY Lz UR Z3 Yx VG aaZ LA US Z4 Yy VH aa0 LB UT Z5 Yz VI aa1 LC UU Z6 YA VJ aa2 LD UW Z7 YB VK aa3 LF UX Z8 YC VL aa4 LG UY Z9 YD VM aa5 LH UZ Z' YF VO aa7 LJ U1 _a YG VP aa8 LK U2 _b YH VQ aa9 LL U3 _c YI VR aa_ LM U4 _d YJ VS aa' LN U5 _e YK VT aba LO U6 _g YL VU abb LP U7 _h YM VV abc LQ U8 _i YN VW abd LR U9 _j YO VX abe LS U_ _l YQ VZ abg LV Va _m YR V0 abh LW Vb _n YS V1 abi LX Vc _o YT V2 abj LY Vd _p YU V3 abk LZ Ve _q YV V4 abl L0 Vf _r YW V5 abm L1 Vg _s YX V6 abn L2 Vh _t YY V7 abo L3 Vi _u YZ V8 abp L4 Vj _w Y1 V_ abr L6 Vl _x Y2 V' abt L7 Vm _y Y3 Wa abu L8 Vn _z Y4 Wb abv L9 Vo _A Y5 Wc abw L_ Vp _B Y6 Wd abx L' Vq _C Y7 We aby Ma Vr _D Y8 Wf abz Mb Vs _E Y9 Wg abA Mc Vt _F Y_ Wh abB Md Vu _H Za Wj abD Mf Vw _I Nb Mp NG Mn:av}{adp adq ads adt adz adA adB IC adv adw adx adj adk adm adn:Tok}{ZG ZI ZH ZE ZF:Nat}(X:K.In h)(G:h.Ns i_ mg)(Xq:mg "law"=some (.ref cU))(a1:binop%ns "_law_cell_at" f1)(cV:unop%lk (f1,ZZ,_N,"_law_cell_at","_law_cell_at",Bk,Yt,VC,aaV,Tx,Lw,UO,Ax))(c9:binop%cd Lw "_law_cell_at")(k1:unop%aQ f1)(a2:binop%ns "_law_mixed" f2)(cN:unop%lk (f2,Z_,_Y,"_law_mixed","_law_mixed",Bz,YE,VN,aa6,TM,LI,U0,hg))(dz:binop%cd LI "_law_mixed")(k2:unop%aQ f2)(jL:binop%ns "_law_drawn" fW)(so:unop%lk (fW,_k,aaj,"_law_drawn","_law_drawn",BC,YP,VY,abf,TZ,LU,U',acv))(k6:binop%cd LU "_law_drawn")(k3:unop%aQ fW)(al4:binop%ns "_law_plan" f4)(HG:unop%lk (f4,_v,aau,"_law_plan","_law_plan",ym,Y0,V9,abq,T',L5,Vk,acG))(mF:binop%cd L5 "_law_plan")(e9:unop%aQ f4)(wm:binop%ns "_law_little" ez)(HR:unop%lk (ez,_G,aaF,"_law_little","_law_little",Bq,Y',Wi,abC,Ul,Me,Vv,acR))(wD:binop%cd Me "_law_little")(k5:unop%aQ ez)(wo:binop%ns "text_of" Fy)(HT:unop%lk (Fy,_J,aaI,"text_of","text_of",yf,Zb,Wk,abE,Un,Mg,Vx,acU))(o8:binop%cd Mg "text_of")(ob:unop%aQ Fy)(wq:binop%ns "zone_parts" Fz)(HU:unop%lk (Fz,_K,aaJ,"zone_parts","zone_parts",A9,Zc,Wl,abF,Uo,Mh,Vy,acV))(Ew:binop%cd Mh "zone_parts")(xh:unop%aQ Fz)(DG:binop%ns "number_text" f8)(HV:unop%lk (f8,_L,aaK,"number_text","number_text",A4,Zd,Wm,abG,Up,Mi,Vz,acW))(Ex:binop%cd Mi "number_text")(xi:unop%aQ f8)(DH:binop%ns "code_parts" FA)(HW:unop%lk (FA,_M,aaL,"code_parts","code_parts",Bb,Ze,Wn,abH,Uq,Mj,VA,acX))(Ey:binop%cd Mj "code_parts")(Hc:unop%aQ FA)(C4:binop%ns "plan_text" ER)(He:unop%lk (ER,Z0,_O,"plan_text","plan_text",tc,Yu,VD,aaW,Tz,Lx,UP,ab_))(DR:binop%cd Lx "plan_text")(Gx:unop%aQ ER)(C5:binop%ns "opening_parts" ES)(Hf:unop%lk (ES,Z1,_P,"opening_parts","opening_parts",AY,Yv,VE,aaX,TA,Ly,UQ,ab'))(DS:binop%cd Ly "opening_parts")(Gy:unop%aQ ES)(C6:binop%ns "house_text" ET)(Aa:unop%lk (ET,Z2,_Q,"house_text","house_text",xX,Yw,VF,aaY,TB,Lz,UR,aca))(DT:binop%cd Lz "house_text")(Gz:unop%aQ ET)(C7:binop%ns "event_parts" EU)(Ab:unop%lk (EU,Z3,_R,"event_parts","event_parts",A5,Yx,VG,aaZ,TC,LA,US,acb))(DU:binop%cd LA "event_parts")(GA:unop%aQ EU)(C8:binop%ns "row_text" EV)(Hg:unop%lk (EV,Z4,_S,"row_text","row_text",x_,Yy,VH,aa0,TF,LB,UT,acd))(DV:binop%cd LB "row_text")(GB:unop%aQ EV)(C9:binop%ns "_law_told" EW)(Hh:unop%lk (EW,Z5,_T,"_law_told","_law_told",nu,Yz,VI,aa1,TG,LC,UU,ace))(DW:binop%cd LC "_law_told")(GC:unop%aQ EW)(C_:binop%ns "_law_house" EX)(Hi:unop%lk (EX,Z6,_U,"_law_house","_law_house",BA,YA,VJ,aa2,TH,LD,UW,acf))(DX:binop%cd LD "_law_house")(GD:unop%aQ EX)(C':binop%ns "_law_event" EY)(Hj:unop%lk (EY,Z7,_V,"_law_event","_law_event",BB,YB,VK,aa3,TJ,LF,UX,acg))(DY:binop%cd LF "_law_event")(GF:unop%aQ EY)(Dc:binop%ns "_law_row" EZ)(Hk:unop%lk (EZ,Z8,_W,"_law_row","_law_row",yw,YC,VL,aa4,TK,LG,UY,ach))(DZ:binop%cd LG "_law_row")(GG:unop%aQ EZ)(Dd:binop%ns "_law_changed" E0)(Hl:unop%lk (E0,Z9,_X,"_law_changed","_law_changed",Bj,YD,VM,aa5,TL,LH,UZ,aci))(D0:binop%cd LH "_law_changed")(GH:unop%aQ E0)(zp:binop%ns "rows_of" E1)(Hm:unop%lk (E1,Z',_Z,"rows_of","rows_of",yg,YF,VO,aa7,TN,LJ,U1,acj))(D1:binop%cd LJ "rows_of")(GI:unop%aQ E1)(zq:binop%ns "is_text" E2)(Hn:unop%lk (E2,_a,aaa,"is_text","is_text",yh,YG,VP,aa8,TO,LK,U2,ack))(D2:binop%cd LK "is_text")(GJ:unop%aQ E2)(De:binop%ns "number_of" E3)(Ho:unop%lk (E3,_b,aab,"number_of","number_of",Bi,YH,VQ,aa9,TP,LL,U3,acm))(D3:binop%cd LL "number_of")(GK:unop%aQ E3)(Df:binop%ns "numbers_of" E4)(Hp:unop%lk (E4,_c,aac,"numbers_of","numbers_of",xW,YI,VR,aa_,TQ,LM,U4,acn))(D4:binop%cd LM "numbers_of")(GL:unop%aQ E4)(Dg:binop%ns "numbers_ahead" E5)(Hq:unop%lk (E5,_d,aad,"numbers_ahead","numbers_ahead",AZ,YJ,VS,aa',TR,LN,U5,aco))(D5:binop%cd LN "numbers_ahead")(GN:unop%aQ E5)(Dh:binop%ns "code_from" E6)(Hr:unop%lk (E6,_e,aae,"code_from","code_from",Bm,YK,VT,aba,TS,LO,U6,acp))(D6:binop%cd LO "code_from")(GO:unop%aQ E6)(Di:binop%ns "is_tuple" E7)(Hs:unop%lk (E7,_g,aaf,"is_tuple","is_tuple",Bs,YL,VU,abb,TU,LP,U7,acq))(D7:binop%cd LP "is_tuple")(GP:unop%aQ E7)(Dj:binop%ns "rises" E8)(Ht:unop%lk (E8,_h,aag,"rises","rises",yv,YM,VV,abc,TV,LQ,U8,acr))(D8:binop%cd LQ "rises")(GQ:unop%aQ E8)(Dk:binop%ns "is_name" E9)(Hu:unop%lk (E9,_i,aah,"is_name","is_name",BF,YN,VW,abd,TX,LR,U9,acs))(D9:binop%cd LR "is_name")(GR:unop%aQ E9)(Dl:binop%ns "is_zone" E_)(Hv:unop%lk (E_,_j,aai,"is_zone","is_zone",BD,YO,VX,abe,TY,LS,U_,acu))(D_:binop%cd LS "is_zone")(GS:unop%aQ E_)(Dm:binop%ns "are_zones" E')(Hw:unop%lk (E',_l,aak,"are_zones","are_zones",va,YQ,VZ,abg,T1,LV,Va,acw))(D':binop%cd LV "are_zones")(GU:unop%aQ E')(Dn:binop%ns "is_figures" Fb)(Hx:unop%lk (Fb,_m,aal,"is_figures","is_figures",A',YR,V0,abh,T2,LW,Vb,acx))(Ea:binop%cd LW "is_figures")(GV:unop%aQ Fb)(Dp:binop%ns "are_rights" Fc)(Hy:unop%lk (Fc,_n,aam,"are_rights","are_rights",xY,YS,V1,abi,T3,LX,Vc,acy))(Eb:binop%cd LX "are_rights")(GW:unop%aQ Fc)(Dq:binop%ns "is_whole" Fd)(Hz:unop%lk (Fd,_o,aan,"is_whole","is_whole",Br,YT,V2,abj,T4,LY,Vd,acz))(Ec:binop%cd LY "is_whole")(GX:unop%aQ Fd)(Dr:binop%ns "is_within" Fe)(HA:unop%lk (Fe,_p,aao,"is_within","is_within",Bl,YU,V3,abk,T5,LZ,Ve,acA))(Ed:binop%cd LZ "is_within")(GY:unop%aQ Fe)(Ds:binop%ns "is_code" Ff)(HB:unop%lk (Ff,_q,aap,"is_code","is_code",BG,YV,V4,abl,T6,L0,Vf,acB))(Ee:binop%cd L0 "is_code")(GZ:unop%aQ Ff)(Dt:binop%ns "are_codes" Fg)(HC:unop%lk (Fg,_r,aaq,"are_codes","are_codes",vb,YW,V5,abm,T7,L1,Vg,acC))(Ef:binop%cd L1 "are_codes")(G0:unop%aQ Fg)(Du:binop%ns "are_times" Fh)(HD:unop%lk (Fh,_s,aar,"are_times","are_times",Bn,YX,V6,abn,T8,L2,Vh,acD))(Eg:binop%cd L2 "are_times")(G1:unop%aQ Fh)(Dv:binop%ns "is_plan" Fi)(HE:unop%lk (Fi,_t,aas,"is_plan","is_plan",BE,YY,V7,abo,T9,L3,Vi,acE))(Eh:binop%cd L3 "is_plan")(G2:unop%aQ Fi)(zr:binop%ns "read_plan" Fj)(HF:unop%lk (Fj,_u,aat,"read_plan","read_plan",p2,YZ,V8,abp,T_,L4,Vj,acF))(Ei:binop%cd L4 "read_plan")(G3:unop%aQ Fj)(Dw:binop%ns "opening_from" Fl)(HH:unop%lk (Fl,_w,aav,"opening_from","opening_from",xR,Y1,V_,abr,Ua,L6,Vl,acH))(Ej:binop%cd L6 "opening_from")(z_:unop%aQ Fl)(Dx:binop%ns "is_opening" Fm)(HI:unop%lk (Fm,_x,aaw,"is_opening","is_opening",A_,Y2,V',abt,Ub,L7,Vm,acI))(Ek:binop%cd L7 "is_opening")(z':unop%aQ Fm)(Dy:binop%ns "is_house" Fn)(HJ:unop%lk (Fn,_y,aax,"is_house","is_house",x',Y3,Wa,abu,Uc,L8,Vn,acJ))(El:binop%cd L8 "is_house")(G4:unop%aQ Fn)(amo:binop%ns "read_house" Fo)(HK:unop%lk (Fo,_z,aay,"read_house","read_house",ta,Y4,Wb,abv,Ud,L9,Vo,acK))(Em:binop%cd L9 "read_house")(G5:unop%aQ Fo)(Dz:binop%ns "event_from" Fp)(HL:unop%lk (Fp,_A,aaz,"event_from","event_from",Ba,Y5,Wc,abw,Ue,L_,Vp,acL))(En:binop%cd L_ "event_from")(G6:unop%aQ Fp)(DA:binop%ns "has_zone" Fq)(HM:unop%lk (Fq,_B,aaA,"has_zone","has_zone",ya,Y6,Wd,abx,Ug,L',Vq,acM))(Eo:binop%cd L' "has_zone")(G7:unop%aQ Fq)(DB:binop%ns "is_line_event" Fs)(HN:unop%lk (Fs,_C,aaB,"is_line_event","is_line_event",A0,Y7,We,aby,Uh,Ma,Vr,acN))(Ep:binop%cd Ma "is_line_event")(G8:unop%aQ Fs)(DC:binop%ns "is_code_event" Ft)(HO:unop%lk (Ft,_D,aaC,"is_code_event","is_code_event",A1,Y8,Wf,abz,Ui,Mb,Vs,acO))(Er:binop%cd Mb "is_code_event")(G9:unop%aQ Ft)(DD:binop%ns "is_ticks_event" Fu)(HP:unop%lk (Fu,_E,aaD,"is_ticks_event","is_ticks_event",AW,Y9,Wg,abA,Uj,Mc,Vt,acP))(Es:binop%cd Mc "is_ticks_event")(G_:unop%aQ Fu)(DE:binop%ns "is_event" Fv)(HQ:unop%lk (Fv,_F,aaE,"is_event","is_event",Bt,Y_,Wh,abB,Uk,Md,Vu,acQ))(Et:binop%cd Md "is_event")(G':unop%aQ Fv)(zu:binop%ns "read_row" Fw)(HS:unop%lk (Fw,_H,aaG,"read_row","read_row",p7,Za,Wj,abD,Um,Mf,Vw,acS))(Eu:binop%cd Mf "read_row")(Ha:unop%aQ Fw)(DF:binop%ns "law" Fx)(Ac:K.lookup Fx=some ⟨_I,aaH,.func (lx "law" "law" (ny jF) (hk jF) (bS jF) .none Nb Mp NG Lk (.ref o9) Mn),acT⟩)(zw:sX K (.ref o9) "law"=true)(Hb:unop%aQ Fx)(alW:unop%zn "len")(nB:unop%zn "enumerate")(dN:unop%zn "tuple")(jH:unop%zn "range")(nC:unop%zn "str")(tL:unop%zn "min")(tK:unop%zn "max")(fR:unop%zn "all")(ko:unop%zn "isinstance")(rq:unop%zn "ord")(tM:unop%zn "zip")(tJ:unop%zn "int")(al':unop%zn "bool")(wU:binop%ns "KINDS" ud)(Im:K.lookup ud=some ⟨.type "tuple",aaO,.seq #[.str "day" adp,.str "inner" adq,.str "once" ads,.str "way" adt] ZG,ac0⟩)(wW:binop%ns "RIGHTS" uf)(Ip:K.lookup uf=some ⟨.type "tuple",aaQ,.seq #[.str "set" adz,.str "shunt" adA,.str "unset" adB] ZI,ac2⟩)(r4:PySem.W.nsIn K i_ "OUTSIDE"=some (some (.int 0 IC)))(wV:binop%ns "LINES" ue)(Io:K.lookup ue=some ⟨.type "tuple",aaP,.seq #[.str "shut" adv,.str "open" adw,.str "cut" adx] ZH,ac1⟩)(wQ:binop%ns "DEEDS_ALONE" ub)(Ik:K.lookup ub=some ⟨.type "tuple",aaM,.seq #[.str "set" adj,.str "unset" adk] ZE,acY⟩)(wR:binop%ns "DEEDS_OF_ZONES" uc)(Il:K.lookup uc=some ⟨.type "tuple",aaN,.seq #[.str "shunt" adm,.str "free" adn] ZF,acZ⟩)(n4:u_ K o9 394=true)(H5:binop%ns "DoorError" h7)(H_:binop%ns "NoZone" xz)(H9:binop%ns "NoWay" iM)(H7:binop%ns "NoDeed" gZ)(H8:binop%ns "NoText" alY)(yt:unop%zn "ValueError")(FI:Kw K h7=true)(FQ:Ck K h7 xz iM gZ alY alY false false false true=true):
  ∃fd:fa,(∀(s:aP) (v:av),BindsTo s fd ⟨[v],[]⟩ [("_law_script",v)])/\∀base:bP,K.In base->base.Ns i_ mg->oQ mg base->gD l.prog w K mg base e5 9 cU fd ["_law_script"] (@spT (m6 [(394,(("law":Str)++".<locals>.")++"<lambda>")]) K 1 vY):=by
 have e:=Xq.symm.trans (cQ X G DF);cases e;refine⟨lx "law" "law" (ny jF) (hk jF) (bS jF) .none Nb Mp NG Lk (.ref o9) Mn,λs v=>.of_eq rfl,λbase _ _ kB=>?_⟩;letI tt:cB:=⟨[(394,(("law":Str)++".<locals>.")++"<lambda>")],λc=>match c with  | _=>[],λc=>match c with  | _=>none⟩;replace alW:=kK X G alW;replace nB:=kK X G nB;replace dN:=kK X G dN;replace jH:=kK X G jH;replace nC:=kK X G nC;replace tL:=kK X G tL;replace tK:=kK X G tK;replace fR:=kK X G fR;replace ko:=kK X G ko;replace rq:=kK X G rq;replace tM:=kK X G tM;replace tJ:=kK X G tJ;replace al':=kK X G al';replace yt:=kK X G yt;have fq:rO K mg h7 xz iM gZ alY:=⟨cQ X G H5,cQ X G H_,cQ X G H9,cQ X G H7,cQ X G H8,ko,yt,FI⟩;have iZ:=akA FQ;replace wU:=cQ X G wU;have adG:∃(o:Obj) (its:Array av) (n:Nat),K.lookup ud=some o/\o.cls=.type "tuple"/\o.data=.seq its n/\its.size<=b'/\Vals ((["day","inner","once","way"]:List Str).map V.str) its.toList:=⟨_,_,_,Im,rfl,rfl,by show 4<=b';decide,(.cons ⟨_,rfl⟩ (.cons ⟨_,rfl⟩ (.cons ⟨_,rfl⟩ (.cons ⟨_,rfl⟩ .nil))))⟩;replace wW:=cQ X G wW;have adI:∃(o:Obj) (its:Array av) (n:Nat),K.lookup uf=some o/\o.cls=.type "tuple"/\o.data=.seq its n/\its.size<=b'/\Vals ((["set","shunt","unset"]:List Str).map V.str) its.toList:=⟨_,_,_,Ip,rfl,rfl,by show 3<=b';decide,(.cons ⟨_,rfl⟩ (.cons ⟨_,rfl⟩ (.cons ⟨_,rfl⟩ .nil)))⟩;replace r4:=cQ X G r4;replace wV:=cQ X G wV;have adH:∃(o:Obj) (its:Array av) (n:Nat),K.lookup ue=some o/\o.cls=.type "tuple"/\o.data=.seq its n/\its.size<=b'/\Vals ((["shut","open","cut"]:List Str).map V.str) its.toList:=⟨_,_,_,Io,rfl,rfl,by show 3<=b';decide,(.cons ⟨_,rfl⟩ (.cons ⟨_,rfl⟩ (.cons ⟨_,rfl⟩ .nil)))⟩;replace wQ:=cQ X G wQ;have adE:∃(o:Obj) (its:Array av) (n:Nat),K.lookup ub=some o/\o.cls=.type "tuple"/\o.data=.seq its n/\its.size<=b'/\Vals ((["set","unset"]:List Str).map V.str) its.toList:=⟨_,_,_,Ik,rfl,rfl,by show 2<=b';decide,(.cons ⟨_,rfl⟩ (.cons ⟨_,rfl⟩ .nil))⟩;replace wR:=cQ X G wR;have adF:∃(o:Obj) (its:Array av) (n:Nat),K.lookup uc=some o/\o.cls=.type "tuple"/\o.data=.seq its n/\its.size<=b'/\Vals ((["shunt","free"]:List Str).map V.str) its.toList:=⟨_,_,_,Il,rfl,rfl,by show 2<=b';decide,(.cons ⟨_,rfl⟩ (.cons ⟨_,rfl⟩ .nil))⟩;have a5:=dD (st:=Bk) cV c9 k1;have R8:=unop%cm (I5 0 a5 (cQ X G a1) alW);have dh:=dD (st:=Bz) cN dz k2;have Sb:=unop%cm (tl 1 dh (cQ X G a2) (unop%mo R8));have h3:=dD (st:=BC) so k6 k3;have CE:=unop%cm (p9 0 h3 (cQ X G jL));have hP:=dD (st:=ym) HG mF e9;have Sd:=unop%cm (JI 1 hP (cQ X G al4) nB (unop%mo CE) dN jH);have kW:=dD (st:=Bq) HR wD k5;have Sa:=unop%cm (Jg 0 kW (cQ X G wm));have S6:=dD (st:=yf) HT o8 ob;have CI:=unop%cm (tj 0 S6 (cQ X G wo));have oT:=dD (st:=A9) HU Ew xh;have Sk:=unop%cm (IY 0 oT (cQ X G wq));have oU:=dD (st:=A4) HV Ex xi;have v8:=unop%cm (mc 0 oU (cQ X G DG) nC);have S7:=dD (st:=Bb) HW Ey Hc;have R0:=unop%cm (I0 1 S7 (cQ X G DH) (unop%mo v8));have So:=dD (st:=tc) He DR Gx;have CF:=unop%cm (rf 2 So (cQ X G C4) (unop%mo CI) (unop%mo Sk) (unop%mo R0) (unop%mo v8));have Sp:=dD (st:=AY) Hf DS Gy;have Sg:=unop%cm (IS 1 Sp (cQ X G C5) (unop%mo v8));have Sq:=dD (st:=xX) Aa DT Gz;have Cy:=unop%cm (rd 2 Sq (cQ X G C6) (unop%mo CI) (unop%mo v8) (unop%mo Sg));have Sr:=dD (st:=A5) Ab DU GA;have R1:=unop%cm (IV 1 Sr (cQ X G C7) (unop%mo v8))
 have Ss:=dD (st:=x_) Hg DV GB;have CH:=unop%cm (rg 2 Ss (cQ X G C8) (unop%mo CI) (unop%mo R1));have Su:=dD (st:=nu) Hh DW GC;have Sv:=dD (st:=BA) Hi DX GD;have R':=unop%cm (Jp 1 Sv (cQ X G C_) jH (unop%mo CE) tL tK);have Sw:=dD (st:=BB) Hj DY GF;have R_:=unop%cm (Jq 0 Sw (cQ X G C') alW);have Sx:=dD (st:=yw) Hk DZ GG;have Se:=unop%cm (J9 1 Sx (cQ X G Dc) dN (unop%mo R_) alW jH (unop%mo CE));have Sy:=dD (st:=Bj) Hl D0 GH;have R9:=unop%cm (I4 0 Sy (cQ X G Dd) alW);have Sz:=dD (st:=yg) Hm D1 GI;have amc:=unop%cm (lF 0 Sz (cQ X G zp));have SA:=dD (st:=yh) Hn D2 GJ;have CD:=unop%cm (tm 0 SA (cQ X G zq) fR ko alW nC);have SD:=dD (st:=Bi) Ho D3 GK;have Sf:=unop%cm (I3 1 SD (cQ X G De) (unop%mo CD) alW rq);have SE:=dD (st:=xW) Hp D4 GL;have y8:=unop%cm (p1 2 SE (cQ X G Df) dN (unop%mo Sf));have SF:=dD (st:=AZ) Hq D5 GN;have y7:=unop%cm (pY 3 SF (cQ X G Dg) (unop%mo y8));have SG:=dD (st:=Bm) Hr D6 GO;have K3:=unop%cm (aml 3 SG (cQ X G Dh) (unop%mo y8) dN);have SH:=dD (st:=Bs) Hs D7 GP;have lL:=unop%cm (gf 0 SH (cQ X G Di) ko dN alW);have SI:=dD (st:=yv) Ht D8 GQ;have CG:=unop%cm (al_ 0 SI (cQ X G Dj) fR tM);have SJ:=dD (st:=BF) Hu D9 GR;have CB:=unop%cm (tp 1 SJ (cQ X G Dk) (unop%mo CD));have SK:=dD (st:=BD) Hv D_ GS;have R7:=unop%cm (Jr 2 SK (cQ X G Dl) (unop%mo lL) (unop%mo CB) wU adG);have SM:=dD (st:=va) Hw D' GU;have RZ:=unop%cm (I6 3 SM (cQ X G Dm) (unop%mo CG) (unop%mo lL) fR (unop%mo R7));have SN:=dD (st:=A') Hx Ea GV;have K6:=unop%cm (x1 1 SN (cQ X G Dn) (unop%mo CD));have SO:=dD (st:=xY) Hy Eb GW;have RX:=unop%cm (I1 1 SO (cQ X G Dp) (unop%mo lL) fR (unop%mo CG) wW adI);have SP:=dD (st:=Br) Hz Ec GX;have K7:=unop%cm (yc 0 SP (cQ X G Dq) ko tJ al');have SQ:=dD (st:=Bl) HA Ed GY;have y6:=unop%cm (me 1 SQ (cQ X G Dr) (unop%mo K7));have SR:=dD (st:=BG) HB Ee GZ;have R2:=unop%cm (Js 2 SR (cQ X G Ds) (unop%mo lL) (unop%mo K6) (unop%mo CB) (unop%mo RX) (unop%mo y6));have SS:=dD (st:=vb) HC Ef G0;have RW:=unop%cm (I8 3 SS (cQ X G Dt) (unop%mo CG) (unop%mo lL) fR (unop%mo R2));have SU:=dD (st:=Bn) HD Eg G1;have RY:=unop%cm (I7 2 SU (cQ X G Du) (unop%mo lL) (unop%mo y6));have SV:=dD (st:=BE) HE Eh G2;have CC:=unop%cm (tn 4 SV (cQ X G Dv) (unop%mo lL) (unop%mo RZ) (unop%mo RW) (unop%mo RY));have K9:=dD (st:=p2) HF Ei G3;have Si:=unop%cm (Bo 5 K9 (cQ X G zr) (unop%mo amc) dN (unop%mo y7) (unop%mo K3) (unop%mo CC) (unop%mo CF));have Ts:=A6 (P:=l.prog) (w:=w) (base:=base) (k:=5) K9 (cQ X G zr) fq iZ (unop%mo amc) dN (unop%mo y7) (unop%mo K3) (unop%mo CC) (unop%mo CF);have SW:=dD (st:=xR) HH Ej z_;have K8:=unop%cm (xS 3 SW (cQ X G Dw) (unop%mo y8) dN);have SX:=dD (st:=A_) HI Ek z';have R5:=unop%cm (IZ 2 SX (cQ X G Dx) (unop%mo y6) (unop%mo lL) (unop%mo CB) r4);have SY:=dD (st:=x') HJ El G4;have CA:=unop%cm (tf 3 SY (cQ X G Dy) fR (unop%mo lL) (unop%mo y6) (unop%mo R5));have K_:=dD (st:=ta) HK Em G5
 have Sh:=unop%cm (Be 4 K_ (cQ X G amo) (unop%mo amc) dN (unop%mo y7) (unop%mo K8) (unop%mo CA) (unop%mo Cy));have Tr:=A3 (P:=l.prog) (w:=w) (base:=base) (k:=4) K_ (cQ X G amo) fq iZ (unop%mo amc) dN (unop%mo y7) (unop%mo K8) (unop%mo CA) (unop%mo Cy);have S0:=dD (st:=Ba) HL En G6;have K4:=unop%cm (x2 3 S0 (cQ X G Dz) dN (unop%mo y8) alW);have S1:=dD (st:=ya) HM Eo G7;have K5:=unop%cm (yd 0 S1 (cQ X G DA));have S2:=dD (st:=A0) HN Ep G8;have R4:=unop%cm (IT 1 S2 (cQ X G DB) (unop%mo lL) (unop%mo K5) wV adH);have S3:=dD (st:=A1) HO Er G9;have R3:=unop%cm (IU 2 S3 (cQ X G DC) (unop%mo K5) (unop%mo lL) (unop%mo K6) wQ adE wR adF);have S4:=dD (st:=AW) HP Es G_;have R6:=unop%cm (IP 1 S4 (cQ X G DD) (unop%mo lL) (unop%mo K7));have S5:=dD (st:=Bt) HQ Et G';have Cz:=unop%cm (tg 3 S5 (cQ X G DE) (unop%mo R4) (unop%mo R3) (unop%mo R6));have K':=dD (st:=p7) HS Eu Ha;have Sj:=unop%cm (Bx 4 K' (cQ X G zu) dN (unop%mo K4) fR (unop%mo CH) (unop%mo amc) (unop%mo Cz));have Tt:=Bf (P:=l.prog) (w:=w) (base:=base) (k:=4) K' (cQ X G zu) fq iZ dN (unop%mo K4) fR (unop%mo CH) (unop%mo amc) (unop%mo Cz);have ald:=dD (st:=jF) Ac zw Hb;exact aiX rfl (ak4 (k:=6) Ac zw n4 kB (by show _∈[(394,(("law":Str)++".<locals>.")++"<lambda>")];simp) (λp aC=>by have aC:p∈[(394,(("law":Str)++".<locals>.")++"<lambda>")]:=aC;simp only[bC,de,or_false] at aC;rcases aC with rfl <;> first|(intro z;exact absurd z (by decide))|(intro _;rfl)) fq iZ (Tt.mono (by decide)) (Tr.mono (by decide)) (Ts.mono (by decide)) (unop%mo Sb) (unop%mo Sd) jH (unop%mo Sa) (unop%mo CF) (unop%mo Cy) (unop%mo CH) Su (cQ X G C9) (unop%mo R') (unop%mo Se) (unop%mo R9) nB (unop%mo Si) (unop%mo Sh) (unop%mo Sj) (unop%mo CC) (unop%mo CA) (unop%mo Cz))
def walk{l:PySem.W.OpenLaw}{q:c3}{loose:List Str}{ua:(Str->Option av)->bP->Prop}{nQ:cf->bP->Prop}{d:DefRec}{K:Params->a'}(bf:l.most=some 63)(w2:d.params.defaults=[])(ff:∀w:cf,Nz (K w.params)=true)(uw:∀(w:cf) (h:bP),nQ w h->(K w.params).In h)(gs:∀(w:cf) (h:bP),nQ w h->∀b∈[394],h.get? b=some (PySem.W.tabObj #[]))(wY:∀w:cf,(([394]:List Nat).all λb=>((K w.params).lookup b).isNone)=true)(eT:∀w:cf,(([394]:List Nat).all λb=>(K w.params).any λp=>u_ (K w.params) p.1 b)=true)(F:∀(w:cf) (mg:Str->Option av) (cU:aq) (h:bP),(K w.params).In h->h.Ns i_ mg->mg d.name=some (.ref cU) ->
   ∃fd:fa,(∀(s:aP) (u:av),BindsTo s fd ⟨[u],[]⟩ [("_law_script",u)])/\∀base:bP,(K w.params).In base->base.Ns i_ mg->oQ mg base->gD l.prog w (K w.params) mg base e5 9 cU fd ["_law_script"] (@spT (m6 [(394,(("law":Str)++".<locals>.")++"<lambda>")]) (K w.params) 1 vY)):
  PySem.W.WalkO q loose ua nQ l.row.toRowW d [] (λf vs=>PySem.call f vs):=
 ag2 (n:=63) (k:=9) (x:="_law_script") (ts:=[394]) (eL:=λ_=>e5) (sp:=λw=>@spT (m6 [(394,(("law":Str)++".<locals>.")++"<lambda>")]) (K w.params) 1 vY) bf (by decide) w2 ⟨rfl,by decide,by decide⟩ uw gs (λw b ag=>Option.isNone_iff_eq_none.mp (List.all_eq_true.mp (wY w) b ag)) (λw b ag=>by
  obtain⟨p,_,aC⟩:=List.any_eq_true.mp (List.all_eq_true.mp (eT w) b ag);exact⟨p.1,aC⟩) F (λw H a ns aH kx lV=>agd (t:=m6 [(394,(("law":Str)++".<locals>.")++"<lambda>")]) (λp aC=>by have aC:p∈[(394,(("law":Str)++".<locals>.")++"<lambda>")]:=aC;simp only[bC,de,or_false] at aC;rcases aC with rfl <;> simp) kx (ff w) (ahE ns aH) lV) λ_ _ _ _ _ z=>z
end oX
open PySem PySem.W PyProof.Rows
set_option maxRecDepth 100000 in
set_option maxHeartbeats 0 in
theorem PySem.Challenge.cw_doorwatch_k51_texts_or_not_holds : PySem.Challenge.rw_doorwatch_k51_texts_or_not.Holds := by
 w_on;o_law;k_head;(case hw=>w_witness2)
 k_fill
 refine oX.walk (l:=PySem.Challenge.rw_doorwatch_k51_texts_or_not) rfl rfl ?L (λw h Y=>PySem.W.km_in_of Y) (λw h Y=>PySem.W.km_tabs_of Y) ?Tc ?d3 ?F
 case L=>
  intro w
  first|rfl|(with_unfolding_all rfl)|kernel_rfl
 case Tc=>
  intro w
  first|rfl|(with_unfolding_all rfl)|kernel_rfl
 case d3=>
  intro w
  first|rfl|(with_unfolding_all rfl)|kernel_rfl
 case F=>
  intro w mg cU h jJ G w_;refine' oX.all_mk jJ G w_ ?a1 ?cV ?c9 ?k1 ?a2 ?cN ?dz ?k2 ?jL ?so ?k6 ?k3 ?al4 ?HG ?mF ?e9 ?wm ?HR ?wD ?k5 ?wo ?HT ?o8 ?ob ?wq ?HU ?Ew ?xh ?DG ?HV ?Ex ?xi ?DH ?HW ?Ey ?Hc ?C4 ?He ?DR ?Gx ?C5 ?Hf ?DS ?Gy ?C6 ?Aa ?DT ?Gz ?C7 ?Ab ?DU ?GA ?C8 ?Hg ?DV ?GB ?C9 ?Hh ?DW ?GC ?C_ ?Hi ?DX ?GD ?C' ?Hj ?DY ?GF ?Dc ?Hk ?DZ ?GG ?Dd ?Hl ?D0 ?GH ?zp ?Hm ?D1 ?GI ?zq ?Hn ?D2 ?GJ ?De ?Ho ?D3 ?GK ?Df ?Hp ?D4 ?GL ?Dg ?Hq ?D5 ?GN ?Dh ?Hr ?D6 ?GO ?Di ?Hs ?D7 ?GP ?Dj ?Ht ?D8 ?GQ ?Dk ?Hu ?D9 ?GR ?Dl ?Hv ?D_ ?GS ?Dm ?Hw ?D' ?GU ?Dn ?Hx ?Ea ?GV ?Dp ?Hy ?Eb ?GW ?Dq ?Hz ?Ec ?GX ?Dr ?HA ?Ed ?GY ?Ds ?HB ?Ee ?GZ ?Dt ?HC ?Ef ?G0 ?Du ?HD ?Eg ?G1 ?Dv ?HE ?Eh ?G2 ?zr ?HF ?Ei ?G3 ?Dw ?HH ?Ej ?z_ ?Dx ?HI ?Ek ?z' ?Dy ?HJ ?El ?G4 ?amo ?HK ?Em ?G5 ?Dz ?HL ?En ?G6 ?DA ?HM ?Eo ?G7 ?DB ?HN ?Ep ?G8 ?DC ?HO ?Er ?G9 ?DD ?HP ?Es ?G_ ?DE ?HQ ?Et ?G' ?zu ?HS ?Eu ?Ha ?DF ?Ac ?zw ?Hb ?alW ?nB ?dN ?jH ?nC ?tL ?tK ?fR ?ko ?rq ?tM ?tJ ?al' ?wU ?Im ?wW ?Ip ?r4 ?wV ?Io ?wQ ?Ik ?wR ?Il ?n4 ?H5 ?H_ ?H9 ?H7 ?H8 ?yt ?FI ?FQ
  (case n4=>first|kernel_rfl|rfl|(with_unfolding_all rfl))
  (case FI=>first|kernel_rfl|rfl|(with_unfolding_all rfl))
  (case FQ=>first|kernel_rfl|rfl|(with_unfolding_all rfl))
  (case a1|cV|c9|k1|a2|cN|dz|k2|jL|so|k6|k3|al4|HG|mF|e9|wm|HR|wD|k5|wo|HT|o8|ob|wq|HU|Ew|xh|DG|HV|Ex|xi|DH|HW|Ey|Hc|C4|He|DR|Gx|C5|Hf|DS|Gy|C6|Aa|DT|Gz|C7|Ab|DU|GA|C8|Hg|DV|GB|C9=>k_is)
  (case Hh|DW|GC|C_|Hi|DX|GD|C'|Hj|DY|GF|Dc|Hk|DZ|GG|Dd|Hl|D0|GH|zp|Hm|D1|GI|zq|Hn|D2|GJ|De|Ho|D3|GK|Df|Hp|D4|GL|Dg|Hq|D5|GN|Dh|Hr|D6|GO|Di|Hs|D7|GP|Dj|Ht|D8|GQ=>k_is)
  (case Dk|Hu|D9|GR|Dl|Hv|D_|GS|Dm|Hw|D'|GU|Dn|Hx|Ea|GV|Dp|Hy|Eb|GW|Dq|Hz|Ec|GX|Dr|HA|Ed|GY|Ds|HB|Ee|GZ|Dt|HC|Ef|G0|Du|HD|Eg|G1|Dv|HE|Eh|G2|zr|HF|Ei|G3|Dw|HH|Ej=>k_is)
  (case z_|Dx|HI|Ek|z'|Dy|HJ|El|G4|amo|HK|Em|G5|Dz|HL|En|G6|DA|HM|Eo|G7|DB|HN|Ep|G8|DC|HO|Er|G9|DD|HP|Es|G_|DE|HQ|Et|G'|zu|HS|Eu|Ha|DF|Ac|zw|Hb|alW|nB|dN|jH=>k_is)
  (case nC|tL|tK|fR|ko|rq|tM|tJ|al'|wU|Im|wW|Ip|r4|wV|Io|wQ|Ik|wR|Il|H5|H_|H9|H7|H8|yt=>k_is)
end
end
