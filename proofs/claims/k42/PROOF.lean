import PyProof.Rows.All
import Wide.All
import OpenK.AllK
import Wide.FinOn
import Lean
import PyProof.EqAt
import PyProof.EqKinds
import PyProof.TupleCall
import PyProof.P3Statements
import KE.KSortTup
import PyProof.AttrMissHeap
import PyProof.ZipIter
import PyProof.Draws
import PyProof.ListMulRoad
import Wide.Seal
import KE.KLam
import KE.KNest
import KE.KNestM
import KE.KIsAll
import PyProof.ExcArgs
import PyProof.ReprStr
import PyProof.FString
import PyProof.FitsInt
import KE.KMinKey
import KE.KIntText
import KE.IntTextText
import PySem.Challenge.RW_doorwatch_k42_whole_asked_twice
set_option Elab.async false
set_option linter.all false
set_option compiler.extract_closed false
set_option genSizeOfSpec false
set_option maxRecDepth 100000
set_option maxHeartbeats 0
open PySem renaming Value → aj, Addr → ag, Around → cH, World → bZ, Heap → bE, Expr → bj
open PySem.W renaming Frag → a9, keepIn → kv, findIn → j3, codeIn → qZ, fnOf → lU, mg_of → fP, mg_none_of → oH, emptyDict → pZ, instObj → q1, codeHdIn → u4
open Option renaming bind_eq_some_iff → cz, map_eq_some_iff → dE, bind_some → c0, map_some → e3
open PySem renaming wpAny_bind → a8, Shared → aI, wpAny_pure → cX, starEach → bo, FuncData → dV, sizeLine → cG, mainGlobals → iX, Program → cA, wpAny → bD, wpAny_mono → e2, mem_of_lookup → xB, keywordEach → mF, wpAny_holding → q5, backTo → dM, wpAny_Call_Name_kw → oJ, wpAny_field → iY, attributeBase → jf, wpAny_callSpecial?_slot → s9, backToKw → mG, sizeLine_eq → jg, wpAny_seqItems → oK, wpAny_pyIter_tuple → xD, compareOp → iF, codeAny_builtin → u1, codeAny_mono → al6, wpAny_call_entry → q6, wpAny_setField_rec → s_, swapsWith → jh, behindInMarks → oM, wpAny_truthy_bool → u2, codeAny → iG, assignEach → p2, binaryOp → nA, NameKind → lY, model → bL, foldedSetIterable → u3, rawInt → hg
open PySem.Heap renaming get?_push_of_some → c2, lt_size → cY, get?_push_size → gY, size_push → ky, get?_update_other → BH
open List renaming mem_cons_of_mem → dn, mem_cons → cm, map_cons → dh, mem_cons_self → fb, replicate → alZ, size_toArray → eQ, getElem?_eq_some_iff → hW, mem_map → c7, nodup_cons → gN, getElem?_eq_getElem → iD, length_cons → eJ, mem_singleton → jC, mem_append → jD, length_map → e1, getElem?_map → la, pairwise_cons → lV, map_nil → gZ, mem_append_right → oG, lookup_cons → mC, set_cons_zero → kz, lookup → jE, set_cons_succ → kA, getElem?_append_right → uR, nodup_append → p0, getElem?_append_left → uS, find?_cons → p1, mem_of_getElem? → uV, append_nil → jF, zip_cons_cons → q2, length_append → mD, length_filter_le → xA, getElem?_set → uY, not_mem_nil → ee, getElem?_cons_zero → kB, getElem?_cons_succ → lX, length_nil → lg, nil_append → xC, cons_append → u0, map_map → q4
open Nat renaming le_refl → el, lt_of_lt_of_le → iE, ne_of_lt → eR, ne_of_gt → hX, le_trans → jd, zero_le → mE, le_succ → gB, le_add_right → q7
open PySem.Builtin.SmallTypes renaming nextOf → k', ownedTupleIsFree → q0
open Function renaming comp_def → oF
open Bool renaming and_eq_true → gO, false_eq_true → nz, false_ne_true → BF
open PySem.PyData renaming depthAll → j4, canLayAll0 → j5, str → lW, eqv → je, depth → lb
open Array renaming getElem?_eq_getElem → uT, length_toList → uX
open PyProof.Rows renaming callWith_type1 → uU
open PySem.Around renaming under_plainId → uW
open False renaming elim → ed
open PySem.PassesOwn renaming never → q3
open PySem.F renaming slot_tuple_iterator_next → BG
open Option.some renaming inj → ef
open Int renaming emod_nonneg → oI, emod_lt_of_pos → uZ
namespace PySem.W.Fast
def tw16115116489955146413:=0
def tw16830832326989906871:=0
def tw18004506209868998477:=0
def tw15722554051355488312:=0
def tw11985885771664122386:=0
def tw13168775787993629852:=0
def tw8289437443429166967:=0
def tw14916939120556122303:=0
def tw1116504878105712361:=0
def tw9198784313557897945:=0
def tw14167543687109605973:=0
def tw12617877356653813914:=0
def tw10457926210095815573:=0
def tw13749576994781424116:=0
def tw13420128813137315553:=0
def tw1966835968327272765:=0
def tw13149708280464513857:=0
def tw1163999414850224260:=0
def tw8308106092031808311:=0
def tw1879202677389608218:=0
def tw3178015747180909062:=0
def tw13177673258994857371:=0
def tw3477771351954053788:=0
def tw13411255351804947294:=0
def tw830359095653322685:=0
def tw1430631852451098211:=0
def tw6141212978303134643:=0
def tw5385340559239592402:=0
def tw2357509232662045321:=0
def tw976913718920877257:=0
def tw310509810045356264:=0
def tw3011811730280538513:=0
def tw11156876115940443067:=0
def tw187058564247874474:=0
def tw2502872375570974937:=0
def tw12924628331764523352:=0
def tw13845119969740608913:=0
def tw16838535424860988836:=0
def tw16653549938280212054:=0
def tw14541232677975464018:=0
def tw6077694375220654920:=0
def tw12615781405898331804:=0
def tw6278810482176495517:=0
def tw4619073500225525111:=0
def tw16111966381753619299:=0
def tw2104094974180783856:=0
def tw6614643091193194503:=0
def tw16470885762051982380:=0
def tw17069807414559217025:=0
def tw9612194461335184205:=0
def tw1019779443221013852:=0
def tw16921311047041473052:=0
def tw5954516136009772512:=0
def tw5542157486901536247:=0
def tw11064562456763405819:=0
def tw4615282863626162809:=0
def tw16955167025377478143:=0
def tw17405109645977906130:=0
def tw14763452922432590892:=0
def tw9433492492091558105:=0
def tw13469648673587340910:=0
def tw2854616471571588664:=0
def tw432865374107574973:=0
def tw13840421429044028593:=0
def tw4321159066734098769:=0
def tw1541344759026463998:=0
def tw16763596020422704802:=0
def tw16882113759405574490:=0
def tw8448106702958940281:=0
def tw5261955477147744933:=0
def tw4694037444123852452:=0
def tw16354669572918919600:=0
def tw1073129635889569919:=0
def tw1290534691790104470:=0
def tw953209097905075715:=0
def tw16922036215355392698:=0
def tw18426335334562105084:=0
def tw13498997311160809281:=0
def tw4687773702336541965:=0
def tw2627062862957931907:=0
def tw5736446720361569521:=0
def tw6125944578312402897:=0
def tw17934229161246182247:=0
def tw6551197314533446785:=0
def tw9692561458037830577:=0
def tw7871987469764371775:=0
def tw8490468718858701678:=0
def tw14283575935004033847:=0
def tw2587564032253966012:=0
def tw5178386324275852299:=0
def tw491802027514088851:=0
def tw12958021013604909648:=0
def tw11994300196490772179:=0
def tw14674927201333121058:=0
def tw3198199613284285878:=0
def tw11227856220788508081:=0
def tw10542195451236513249:=0
def tw16432659078923747232:=0
def tw5617496265647275492:=0
def tw17414506604937336834:=0
def tw671095636313120505:=0
def tw13081505173019553292:=0
def tw2662388764030884692:=0
def tw11217955277390722094:=0
def tw13140426748547000687:=0
def tw6203276471295584884:=0
def tw18217800026882711993:=0
def tw10793686875577827356:=0
def tw3925792866461569702:=0
def tw14210923733362911583:=0
def tw1165674342016678823:=0
def tw10773220953505219026:=0
def tw9742461385762905048:=0
def tw15462234575056073258:=0
def tw333785486063932662:=0
def tw13783266907058331900:=0
def tw2430172933676475373:=0
def tw17347541420144045726:=0
def tw6372008563370998380:=0
def tw605277968337786370:=0
def tw17819063210689839742:=0
def tw14608421527329654777:=0
def tw13876154723215207887:=0
def tw9799213700418864489:=0
def tw17517592862665227379:=0
def tw14929381558655751598:=0
def tw4488011782206567031:=0
def tw9821269845078824788:=0
def tw10458628089231087025:=0
def tw16911527240255362987:=0
def tw3107936549373039225:=0
def tw4646506207306666213:=0
def tw716675496150851567:=0
def tw4480712390626711421:=0
def tw11425720840703579950:=0
def tw16804101559425830504:=0
def tw12921026921841757488:=0
def tw15740290077863274124:=0
def tw18364014327015578595:=0
def tw17062784656787776824:=0
def tw7581033662088007434:=0
def tw4041765636721078090:=0
def tw17953635208867167966:=0
def tw616420334809892358:=0
def tw12102465574370597441:=0
def tw524493055264219840:=0
def tw2733354595180075868:=0
def tw284245314986586248:=0
def tw9282171256030893371:=0
def tw17620521371892845435:=0
def tw5749346462012968610:=0
def tw1164744872069926031:=0
def tw11980600637446713513:=0
def tw9948642173725136572:=0
def tw4871086480572832607:=0
def tw6006673365371991936:=0
def tw3263880698661729587:=0
def tw6972029786251426810:=0
def tw6046573505762490556:=0
def tw3183614205789196684:=0
def tw17237552787763336871:=0
def tw16151498978893418489:=0
def tw7217851813405936744:=0
def tw4271504978955139196:=0
def tw12294922813912966907:=0
def tw6188171276932735712:=0
end PySem.W.Fast
noncomputable section
section
namespace bh
open PySem PySem.Spec PyProof.Rows
abbrev Key:=Sum Int Str
def rD:Key->aj->Bool
|.inl k,v=>Value.isInt k v
|.inr x,v=>Value.isStrOf x v
def aaD(w:bZ):Key->Int
|.inl k=>hashInt k
|.inr x=>hashStr w x
def nE:∀{k:Key} {v:aj},rD k v=true->(∃i t,k=Sum.inl i/\v=Value.int i t)\/(∃x t,k=Sum.inr x/\v=Value.str x t)
|.inl i,v,h=>by
  obtain⟨t,e⟩:=Value.isInt_shape (k:=i) (v:=v) h;exact .inl ⟨i,t,rfl,e⟩
|.inr x,v,h=>by
  obtain⟨t,e⟩:=Value.isStrOf_shape (x:=x) (v:=v) h;exact .inr ⟨x,t,rfl,e⟩
def ahK(i:Int)(t:Tok):rD (.inl i) (.int i t)=true:=by simp[rD,Value.isInt]
def ahJ(x:Str)(t:Tok):rD (.inr x) (.str x t)=true:=by simp[rD,Value.isStrOf]
def akw(a b:Int):decide ((Sum.inl a:Key)=Sum.inl b)=(a==b):=by
 by_cases e:a=b
 ·subst e;simp
 ·have h:¬(Sum.inl a:Key)=Sum.inl b:=λq=>e (Sum.inl.inj q);rw[decide_eq_false h];exact (beq_eq_false_iff_ne.mpr e).symm
def akt(a b:Str):decide ((Sum.inr a:Key)=Sum.inr b)=decide (a=b):=by
 by_cases e:a=b
 ·subst e;simp
 ·have h:¬(Sum.inr a:Key)=Sum.inr b:=λq=>e (Sum.inr.inj q);rw[decide_eq_false h,decide_eq_false e]
def akv(a:Int)(b:Str):decide ((Sum.inl a:Key)=Sum.inr b)=false:=decide_eq_false (λq=>nomatch q)
def aku(a:Str)(b:Int):decide ((Sum.inr a:Key)=Sum.inl b)=false:=decide_eq_false (λq=>nomatch q)
noncomputable def hh(prog:cA)(w:bZ):PySem.KeyKind prog w Key where
 is:=rD
 hash:=aaD w
 inj:=λv a b av U=>by
  rcases nE av with ⟨i,t,rfl,rfl⟩|⟨x,t,rfl,rfl⟩
  ·rcases nE U with ⟨j,u,rfl,e⟩|⟨y,u,rfl,e⟩
   ·injection e with aD _;rw[aD]
   ·exact nomatch e
  ·rcases nE U with ⟨j,u,rfl,e⟩|⟨y,u,rfl,e⟩
   ·exact nomatch e
   ·injection e with aD _;rw[aD]
 byValue:=λk v h=>by
  rcases nE h with ⟨i,t,rfl,rfl⟩|⟨x,t,rfl,rfl⟩ <;> rfl
 pyHash:=λbr h=>by
  rcases nE br with ⟨i,t,rfl,rfl⟩|⟨x,t,rfl,rfl⟩
  ·exact wpAny_pyHash_int h
  ·exact wpAny_pyHash_str h
 eqBool:=λbM br h=>by
  rcases nE bM with ⟨i,t,rfl,rfl⟩|⟨x,t,rfl,rfl⟩
  ·rcases nE br with ⟨j,u,rfl,rfl⟩|⟨y,u,rfl,rfl⟩
   ·rw[akw] at h;exact wpAny_eqBool_int h
   ·rw[akv] at h;exact SeqAt.EqAt.int_str i t y u _ _ _ _ h
  ·rcases nE br with ⟨j,u,rfl,rfl⟩|⟨y,u,rfl,rfl⟩
   ·rw[aku] at h;exact SeqAt.EqAt.str_int x t j u _ _ _ _ h
   ·rw[akt] at h;exact wpAny_eqBool_str h
 «strs»:=λk x t v h=>by
  rcases nE h with ⟨i,u,rfl,e⟩|⟨y,u,rfl,e⟩
  ·exact nomatch e
  ·injection e with aD _
   subst aD;cases v <;> rfl
def Ra(prog:cA)(w:bZ)(k:Key)(v:aj):(hh prog w).is k v=rD k v:=rfl
def QO(prog:cA)(w:bZ)(i:Int)(t:Tok):(hh prog w).is (.inl i) (.int i t)=true:=ahK i t
def QN(prog:cA)(w:bZ)(x:Str)(t:Tok):(hh prog w).is (.inr x) (.str x t)=true:=ahJ x t
end bh
namespace bh
open PySem PySem.Spec PyProof.Rows
inductive V where
|e0|c4 (b:Bool)|int (i:Int)|str (x:Str)|r4 (b:Array UInt8)|wi (b:UInt64)|ref (a:ag)|ty (n:String)
 deriving DecidableEq
noncomputable def RelV:V->aj->Prop
|.e0,u=>u=Value.none
|.c4 b,u=>u=Value.bool b
|.int i,u=>∃t,u=Value.int i t
|.str x,u=>∃t,u=Value.str x t
|.r4 b,u=>∃t,u=Value.bytes b t
|.wi b,u=>∃t,u=Value.float b t
|.ref a,u=>u=Value.ref a
|.ty n,u=>u=Value.type n
abbrev Vals:List V->List aj->Prop:=Paired RelV
theorem Vals.length{xs:List V}{us:List aj}(r:Vals xs us):xs.length=us.length:=Paired.length r
theorem Vals.get:∀{xs:List V} {us:List aj} {i:Nat} {x:V},Vals xs us->xs[i]?=some x->∃u,us[i]?=some u/\RelV x u
|_,_,_,_,.nil,e=>by simp at e
|_,_,0,_,.cons r _,e=>by simp at e;subst e;exact⟨_,rfl,r⟩
|_,_,i+1,x,.cons _ t,e=>by
  obtain⟨u,af,ak⟩:=Vals.get (i:=i) (x:=x) t (by simpa using e);exact⟨u,by simpa using af,ak⟩
theorem Vals.append:∀{xs ys:List V} {us ws:List aj},Vals xs us->Vals ys ws->Vals (xs++ys) (us++ws)
|_,_,_,_,.nil,s=>s
|_,_,_,_,.cons r t,s=>.cons r (Vals.append t s)
def jP:Option V->Option aj->Prop
|some v,some u=>RelV v u
|none,none=>True
|_,_=>False
def g7{eE:Type}:List (eE×V)->List (eE×aj)->Prop:=Paired λ(p:eE×V) (q:eE×aj)=>p.1=q.1/\RelV p.2 q.2
def dG:Key->V
|.inl i=>.int i
|.inr x=>.str x
inductive ea where
|lst (xs:List V)
|tup (xs:List V)
|fo (kvs:List (Key×V))|me (kvs:List (List Key×V))
|set (S:Int->Bool) (n:Nat)
|ins (C ba:ag) (ar:List (Str×V))
|own (x:ag)
|fO (ar:List (Str×V))
|met (f x:ag)
|kY (lo bc:Int)
|mj (o:Obj) (u:ea)
|hV (ps:Array aj)
|ext (nP:bE->Prop)
abbrev ay:=ag->Option ea
def upd(H:ay)(a:ag)(o:ea):ay:=λb=>if b=a then some o else H b
def er{H:ay}{a:ag}{o:ea}:upd H a o a=some o:=by unfold upd;rw[if_pos rfl]
def cQ{H:ay}{a b:ag}{o:ea}(h:b≠a):upd H a o b=H b:=by unfold upd;rw[if_neg h]
def ak_{H:ay}{a b:ag}{o u:ea}(h:H a=some o)(h':H b=some u)(d:o≠u):a≠b:=by
 intro e;subst e;rw[h] at h';exact d (ef h')
def iH{H:ay}{a b:ag}{o:ea}(h:H a=some o)(h':H b=none):a≠b:=by
 intro e;subst e;rw[h] at h';cases h'
section
variable (P:cA)(w:bZ)
noncomputable def hj(H:ay)(h:bE)(a:ag):ea->Prop
|.lst xs=>xs.length<=cG/\∃(its:List aj) (n:Nat),Vals xs its/\h.get? a=some {cls:=.type "list",data:=.seq its.toArray n}
|.tup xs=>xs.length<=cG/\∃its:List aj,Vals xs its/\IsTup h a its.toArray
|.fo kvs=>kvs.length<=cG/\(a==sysModules)=false/\∃vs,g7 kvs vs/\h.DictOf (hh P w) a vs
|.me kvs=>kvs.length<=cG/\(a==sysModules)=false/\∃xs:List (List Key×ag×aj),
   Paired (λ(p:List Key×V) (q:List Key×ag×aj)=>p.1=q.1/\H q.2.1=some (.tup (p.1.map dG))/\RelV p.2 q.2.2) kvs xs /\
   ∃o es ep,h.get? a=some o/\o.ExactDict/\o.data=.dict es ep/\es.toList=xs.map (entryOfKey (tupleKind (hh P w)))/\(xs.map (·.1)).Nodup
|.set S n=>h.SetOf (intKind P w) a S n
|.ins C ba ar=>H ba=some (.own a)/\ar.length<=1000/\ba≠a/\h.get? a=some (q1 C ba) /\
   ∃en,h.Ns1 ba en/\(∀f,jP (ar.lookup f) (en f))/\PySem.Within en (ar.map (·.1))
|.own _=>∃o,h.get? a=some o
|.fO ar=>∃en,h.Ns1 a en/\∀f,jP (ar.lookup f) (en f)
|.kY lo bc=>∃t u v,h.get? a=some {cls:=.type "range",data:=.fields #[.int lo t,.int bc u,.int 1 v]}
|.mj o u=>h.get? a=some o/\hj H h a u
|.hV ps=>h.get? a=some {cls:=.none,data:=.fields ps}
|.met f x=>h.get? a=some (PySem.W.methodObj (.ref f) (.ref x))
|.ext nP=>nP h/\(∃o,h.get? a=some o)/\∀af ak:bE,nP af->(∀o,af.get? a=some o->ak.get? a=some o)->nP ak
def eA(H:ay)(h:bE):Prop:=∀a o,H a=some o->hj P w H h a o
end
section
variable {P:cA}{w:bZ}{H aa:ay}{h h':bE}{a:ag}{o:ea}
theorem hj.lt(x:hj P w H h a o):a<h.objs.size:=by
 cases o with
|lst xs=>obtain⟨_,_,_,_,e⟩:=x;exact cY e
|tup xs=>obtain⟨_,_,_,p⟩:=x;exact p.lt
|fo kvs=>obtain⟨_,_,_,_,o,_,_,e,_⟩:=x;exact cY e
|me kvs=>obtain⟨_,_,_,_,o,_,_,e,_⟩:=x;exact cY e
|set S n=>obtain⟨o,_,_,_,e,_⟩:=x;exact cY e
|ins C ba ar=>obtain⟨_,_,_,e,_⟩:=x;exact cY e
|own y=>obtain⟨_,e⟩:=x;exact cY e
|fO ar=>obtain⟨_,⟨_,_,_,e,_⟩,_⟩:=x;exact cY e
|kY lo bc=>obtain⟨_,_,_,e⟩:=x;exact cY e
|mj dD u=>obtain⟨e,_⟩:=x;exact cY e
|hV ps=>exact cY (show h.get? a=some _ from x)
|met f y=>exact cY (show h.get? a=some _ from x)
|ext nP=>obtain⟨_,⟨_,e⟩,_⟩:=x;exact cY e
theorem Paired.Iw{α β:Type}{F G:α->β->Prop}:∀{OR:List α} {OS:List β},Paired F OR OS->(∀a b,F a b->G a b)->Paired G OR OS
|_,_,.nil,_=>.nil
|_,_,.cons r t,f=>.cons (f _ _ r) (Paired.Iw t f)
def hj.jA(x:hj P w H h a o)(k:∀b u,(b=a\/H b=some (.own a))->h.get? b=some u->h'.get? b=some u)
  (aF:∀b,H b=some (.own a)->aa b=some (.own a)) (aX:∀b xs,H b=some (.tup xs)->aa b=some (.tup xs)):hj P w aa h' a o:=by
 induction o with
|lst xs=>obtain⟨z,its,n,r,e⟩:=x;exact⟨z,its,n,r,k _ _ (.inl rfl) e⟩
|tup xs=>obtain⟨z,its,r,dD,e,c⟩:=x;exact⟨z,its,r,dD,k _ _ (.inl rfl) e,c⟩
|fo kvs=>obtain⟨z,y,vs,r,dD,es,ep,e,c⟩:=x;exact⟨z,y,vs,r,dD,es,ep,k _ _ (.inl rfl) e,c⟩
|me kvs=>
  obtain⟨z,y,xs,r,dD,es,ep,e,c⟩:=x;exact⟨z,y,xs,Paired.Iw r λp q z=>⟨z.1,aX _ _ z.2.1,z.2.2⟩,dD,es,ep,k _ _ (.inl rfl) e,c⟩
|set S n=>obtain⟨dD,es,ep,t,e,c⟩:=x;exact⟨dD,es,ep,t,k _ _ (.inl rfl) e,c⟩
|ins C ba ar=>
  obtain⟨d,z,ne,e,en,⟨ec,es,ep,aO,c⟩,r⟩:=x;exact⟨aF _ d,z,ne,k _ _ (.inl rfl) e,en,⟨ec,es,ep,k _ _ (.inr d) aO,c⟩,r⟩
|own y=>obtain⟨dD,e⟩:=x;exact⟨dD,k _ _ (.inl rfl) e⟩
|fO ar=>obtain⟨en,⟨ec,es,ep,e,c⟩,r⟩:=x;exact⟨en,⟨ec,es,ep,k _ _ (.inl rfl) e,c⟩,r⟩
|kY lo bc=>obtain⟨t,u,v,e⟩:=x;exact⟨t,u,v,k _ _ (.inl rfl) e⟩
|mj dD u b8=>obtain⟨e,q⟩:=x;exact⟨k _ _ (.inl rfl) e,b8 q⟩
|hV ps=>
  have e:h.get? a=some {cls:=.none,data:=.fields ps}:=x;show h'.get? a=some {cls:=.none,data:=.fields ps};exact k a _ (.inl rfl) e
|met f y=>
  have e:h.get? a=some (PySem.W.methodObj (.ref f) (.ref y)):=x;show h'.get? a=some (PySem.W.methodObj (.ref f) (.ref y));exact k a _ (.inl rfl) e
|ext nP=>obtain⟨p,⟨o,e⟩,st⟩:=x;exact⟨st _ _ p λo q=>k _ _ (.inl rfl) q,⟨o,k _ _ (.inl rfl) e⟩,st⟩
theorem eA.lt(x:eA P w H h)(e:H a=some o):a<h.objs.size:=(x a o e).lt
def eA.fresh(x:eA P w H h)(e:h.objs.size<=a):H a=none:=by
 cases q:H a with
|none=>rfl
|some u=>exact absurd (iE (x.lt q) e) (Nat.lt_irrefl _)
def eA.kept(x:eA P w H h)(k:∀b u,h.get? b=some u->h'.get? b=some u):eA P w H h':=λa o e=>
 (x a o e).jA (λb u _ q=>k b u q) (λ_ q=>q) λ_ _ q=>q
def eA.laid(x:eA P w H h)(k:∀b u,h.get? b=some u->h'.get? b=some u)(aC:h.objs.size<=a)(new:hj P w (upd H a o) h' a o):eA P w (upd H a o) h':=λb u e=>by
 have a6:=x.fresh aC;by_cases U:b=a
 ·subst U;rw[er] at e;cases e;exact new
 ·rw[cQ U] at e;exact (x b u e).jA (λc v _ q=>k c v q) (λc q=>by rw[cQ (iH q a6)];exact q) λc xs q=>by rw[cQ (iH q a6)];exact q
end
def eM(H:ay)(a:ag)(u:ea):Prop:=H a=some u\/∃o,H a=some (.mj o u)
def eM.ok{P:cA}{w:bZ}{H:ay}{h:bE}{a:ag}{u:ea}(r:eM H a u)(x:eA P w H h):hj P w H h a u:=by
 rcases r with r|⟨o,r⟩
 ·exact x a u r
 ·obtain⟨_,q⟩:=x a _ r;exact q
def v7:Option ea->Prop
|some (.lst _)=>True
|some (.fo _)=>True
|some (.me _)=>True
|some (.set _ _)=>True
|some (.ins _ _ _)=>True
|some (.ext _)=>True
|_=>False
section
variable {P:cA}{w:bZ}{H:ay}{h h':bE}{x e:ag}{o':ea}
def eA.write(ok:eA P w H h)(kX:v7 (H x))(he:e=x\/H e=some (.own x))(k:∀b u,b≠e->h.get? b=some u->h'.get? b=some u)(uu:∃u,h'.get? e=some u)
  (new:hj P w (upd H x o') h' x o'):eA P w (upd H x o') h':=λb u q=>by
 have O4:∀c y,H c=some (.own y)->c≠x:=λc y r z=>by subst z;rw[r] at kX;exact kX
 have aaZ:∀c xs,H c=some (.tup xs)->c≠x:=λc xs r z=>by subst z;rw[r] at kX;exact kX
 by_cases U:b=x
 ·subst U;rw[er] at q;cases q;exact new
 ·rw[cQ U] at q;by_cases sl:b=e
  ·have d8:H b=some (.own x):=by
    rcases he with z|z
    ·exact absurd (sl.trans z) U
    ·rw[sl];exact z
   rw[q] at d8;cases d8;obtain⟨v,br⟩:=uu;exact⟨v,by rw[sl];exact br⟩
  ·refine (ok b u q).jA (λc v ax r=>k c v ?_ r) (λc r=>by rw[cQ (O4 c b r)];exact r) λc xs r=>by rw[cQ (aaZ c xs r)];exact r
   rcases ax with rfl|ax
   ·exact sl
   ·rintro rfl;rcases he with z|z
    ·exact O4 c b ax z
    ·rw[ax] at z;cases z;exact U rfl
end
structure f9(ar ex:List ag)(H aa:ay)(h h':bE):Prop where
 keep:∀b o,h.get? b=some o->H b=none->b∉ar->b∉ex->h'.get? b=some o
 slot:∀b o,h.get? b=some o->H b=none->b∈ar->b∉ex->∃dK,h'.get? b=some {o with slots:=dK}
 free:∀b o,h.get? b=some o->H b=none->b∉ex->aa b=none
 there:∀b o,h.get? b=some o->b∉ex->∃o',h'.get? b=some o'
 lQ:∀b xs,H b=some (.tup xs)->aa b=some (.tup xs)
 kR:∀b o u,H b=some (.mj o u)->aa b=some (.mj o u)
 k8:∀b ps,H b=some (.hV ps)->∃more,aa b=some (.hV (ps++more))
section
variable {ar gs ex alv:List ag}{H H1 bk:ay}{h af ak h':bE}{a x e:ag}{o:ea}
def f9.any(u:f9 ar ex H H1 h af){b:ag}{dD:Obj}(q:h.get? b=some dD)(n:H b=none)(hx:b∉ex):∃dK,af.get? b=some {dD with slots:=dK}:=by
 by_cases U:b∈ar
 ·exact u.slot b dD q n U hx
 ·exact⟨dD.slots,u.keep b dD q n U hx⟩
def f9.kept(k:∀b u,h.get? b=some u->h'.get? b=some u):f9 ar ex H H h h':=
 ⟨λb dD q _ _ _=>k b dD q,λb dD q _ _ _=>⟨dD.slots,k b dD q⟩,λ_ _ _ n _=>n,λb dD q _=>⟨dD,k b dD q⟩,λ_ _ q=>q,λ_ _ _ q=>q,λ_ ps q=>⟨#[],by rw[q];simp⟩⟩
def f9.refl:f9 ar ex H H h h:=f9.kept λ_ _ q=>q
def f9.laid(k:∀b u,h.get? b=some u->h'.get? b=some u)(aC:h.objs.size<=a)(a6:H a=none):f9 ar ex H (upd H a o) h h' where
 keep:=λb u q _ _ _=>k b u q
 slot:=λb u q _ _ _=>⟨u.slots,k b u q⟩
 free:=λb u q n _=>by rw[cQ (eR (iE (cY q) aC))];exact n
 there:=λb u q _=>⟨u,k b u q⟩
 lQ:=λb xs q=>by rw[cQ (iH q a6)];exact q
 kR:=λb u xs q=>by rw[cQ (iH q a6)];exact q
 k8:=λb ps q=>⟨#[],by rw[cQ (iH q a6),q];simp⟩
def f9.write(kX:v7 (H x))(he:e=x\/H e=some (.own x))(k:∀b u,b≠e->h.get? b=some u->h'.get? b=some u)(uu:∃u,h'.get? e=some u):f9 ar ex H (upd H x o) h h':=by
 have hx:∀b,H b=none->b≠x:=λb n z=>by subst z;rw[n] at kX;exact kX
 have U:∀b,H b=none->b≠e:=λb n z=>by
  subst z;rcases he with r|r
  ·exact hx b n r
  ·rw[n] at r;cases r
 have hm:∀b u,H b=some u->¬v7 (some u)->b≠x:=λb u q nm z=>by subst z;rw[q] at kX;exact nm kX
 refine⟨λb u q n _ _=>k b u (U b n) q,λb u q n _ _=>⟨u.slots,k b u (U b n) q⟩,λb u q n _=>by rw[cQ (hx b n)];exact n,λb u q _=>?_,
  λb xs q=>by rw[cQ (hm b _ q λz=>z)];exact q,λb u xs q=>by rw[cQ (hm b _ q λz=>z)];exact q,λb ps q=>⟨#[],by rw[cQ (hm b _ q λz=>z),q];simp⟩⟩
 by_cases sl:b=e
 ·subst sl;exact uu
 ·exact⟨u,k b u sl q⟩
end
def By(h:bE)(H:ay):List ag:=(List.range h.objs.size).filter λa=>(H a).isSome
def oh(h:bE)(H:ay):bE:=PySem.W.hideAll h (By h H)
def ahO(h:bE)(H:ay):(oh h H).objs.size=h.objs.size:=PySem.W.hideAll_size _ _
def aiH{h:bE}{H:ay}{b:ag}{o:Obj}(e:h.get? b=some o)(n:H b=none):(oh h H).get? b=some o:=
 PySem.W.hideAll_get _ e λhm=>by
  have q:(H b).isSome=true:=(List.mem_filter.mp hm).2;rw[n] at q;simp at q
def ajo{h:bE}{H:ay}{b:ag}{o:Obj}(e:(oh h H).get? b=some o):h.get? b=some o/\H b=none:=by
 have bS:h.get? b=some o:=PySem.W.of_hideAll (By h H) e;refine⟨bS,?_⟩;cases q:H b with
|none=>rfl
|some x=>
  have hm:b∈By h H:=List.mem_filter.mpr ⟨List.mem_range.mpr (cY bS),by simp[q]⟩;have z:(oh h H).get? b=none:=PySem.W.hideAll_none (By h H) hm;rw[z] at e;cases e
def ajM(g h:bE)(L:ag):List (ag×Obj):=(List.range h.objs.size).filterMap λa=>if a=L\/(g.get? a).isSome=true then none else (h.get? a).map λo=>(a,o)
def rest(g h:bE)(L d:ag):List (ag×Obj):=(ajM g h L).filter λp=>decide (p.1≠d)
end bh
namespace bh
open PySem PySem.Spec PyProof.Rows
structure Mod(K:a9)(mg:Str->Option aj)(base:bE):Prop where
 oq:K.In base
 glob:base.Ns iX mg
 blt:∃lJ,base.Ns builtinsNs lJ/\∀x:Str,x≠"__name__"->lJ x=bootBuiltins x
 nolimit:base.NoLimit
structure aV where
 prog:cA
 w:bZ
 K:a9
 mg:Str->Option aj
 base:bE
 A:cH
 N:List Str
 c':aI
 aR:ay
 env:Env
 outer:List Env
 stack:List Env
 ex:List ag
 fn:Str->Bool
 calm:Bool
 df:List (ag×Obj)
 c8:aj->aI->Prop
def fh(l:List Env):List ag:=l.filterMap (·.frame)
abbrev aV.ar(X:aV):List ag:=fh X.outer
def qi(sc:Scope)(x:Str):Prop:=sc.names.lookup x=some .local\/sc.names.lookup x=some .cell\/sc.names.lookup x=some .free
def Loc(sc:Scope)(x:Str):Prop:=sc.names.lookup x=some .local\/sc.names.lookup x=some .cell
noncomputable def Look(env:Env)(h:bE)(m:Str->Option aj)(x:Str)(u:aj):Prop:=
 (env.kindOf x=some .local/\m x=some u)\/((env.kindOf x=some .cell\/env.kindOf x=some .free)/\∃c,env.cells.lookup x=some c/\h.IsCell c (some u))
structure aV.Ok(X:aV):Prop where
 mod:Mod X.K X.mg X.base
 kind:X.env.scope.kind=.function
 glob:X.env.globals=iX
 blt:X.env.builtins=builtinsNs
 above:X.c'.heap.objs.size<=X.env.locals
 inj:∀x y c,X.env.cells.lookup x=some c->X.env.cells.lookup y=some c->x=y
 has:∀x,(X.env.kindOf x=some .cell\/X.env.kindOf x=some .free)->∃c,X.env.cells.lookup x=some c
 r6:∀x c,X.fn x=true->X.env.cells.lookup x=some c->X.c'.heap.objs.size<=c
 hd:X.calm=true->X.A.handled=none
 frames:X.A.frames=some X.stack
 oA:X.stack=X.outer\/(X.stack=X.env::X.outer/\X.env.frame=some X.env.locals)
 uj:∀b∈X.ex,b≠X.env.locals/\∀x c,X.env.cells.lookup x=some c->c≠b
 bs:∀b o,X.base.get? b=some o->X.c'.heap.get? b=some o/\X.aR b=none
 m5:X.base.objs.size<=X.c'.heap.objs.size
 sM:∀b o,X.base.get? b=some o->b∉X.ex
 sb:∀b∈X.ex,b∉X.ar
 kj:X.c'.heap.FunFrames X.base X.outer
 oa:∀b∈X.ar,X.aR b=none
structure Inv(X:aV)(ai:List (ag×Obj))(σ:List (Option V))(H:ay)(s:aI):Prop where
 ok:X.Ok
 os:s.os=X.c'.os
 bare:AllBare s.gens
 base:f9 X.ar X.ex X.aR H X.c'.heap s.heap
 loc:∃m,s.heap.Ns X.env.locals m/\∀(i:Nat) (x:Str) (v:V),X.N[i]?=some x->σ[i]?=some (some v)->qi X.env.scope x->∃u,RelV v u/\Look X.env s.heap m x u
 cell:∀x c,X.env.cells.lookup x=some c->∃v,s.heap.IsCell c v
 free:H X.env.locals=none
 ki:∀x c,X.env.cells.lookup x=some c->H c=none
 pin:∀p∈X.df++ai,s.heap.get? p.1=some p.2/\H p.1=none/\p.1≠X.env.locals/\p.1∉X.ar/\∀v,p.2.data≠.cell v
 bO:eA X.prog X.w H s.heap
 len:σ.length=X.N.length
section
variable {X:aV}{ai:List (ag×Obj)}{σ:List (Option V)}{H aa:ay}{s:aI}{h':bE}
def aV.Ok.aaW(ok:X.Ok){b:ag}{o:Obj}(e:X.base.get? b=some o):b∉X.ar:=λU=>by
 have:=(ok.kj.mem U).1;rw[e] at this;cases this
theorem Inv.bs(I:Inv X ai σ H s):∀b o,X.base.get? b=some o->s.heap.get? b=some o/\H b=none:=λb o e=>
 ⟨I.base.keep b o (I.ok.bs b o e).1 (I.ok.bs b o e).2 (I.ok.aaW e) (I.ok.sM b o e),I.base.free b o (I.ok.bs b o e).1 (I.ok.bs b o e).2 (I.ok.sM b o e)⟩
def Inv.gp(I:Inv X ai σ H s):∀b o,X.base.get? b=some o->s.heap.get? b=some o:=λb o e=>(I.bs b o e).1
theorem Inv.mod(I:Inv X ai σ H s):Mod X.K X.mg X.base:=I.ok.mod
def Inv.ju(I:Inv X ai σ H s):X.K.In s.heap:=I.ok.mod.oq.keeps I.gp
theorem Inv.lt(I:Inv X ai σ H s):X.env.locals<s.heap.objs.size:=let ⟨_,a6,_⟩:=I.loc;a6.lt
def Inv.k7(I:Inv X ai σ H s):X.c'.heap.objs.size<=s.heap.objs.size:=jd I.ok.above (Nat.le_of_lt I.lt)
def Inv.aaY(I:Inv X ai σ H s){a:ag}(h:s.heap.objs.size<=a):a∉X.ar:=λU=>by
 obtain⟨_,o,aF,_⟩:=I.ok.kj.mem U;exact absurd (iE (cY aF) (jd I.k7 h)) (Nat.lt_irrefl _)
def Inv.ama(I:Inv X ai σ H s):∀x c,X.env.cells.lookup x=some c->c≠X.env.locals:=λx c e z=>by
 obtain⟨v,o,aF,hd⟩:=I.cell x c e;obtain⟨m,⟨o',es,ep,km,Gg,_⟩,_⟩:=I.loc;rw[z,km] at aF;cases aF;rw[Gg] at hd;cases hd
theorem Inv.kj(I:Inv X ai σ H s):s.heap.FunFrames X.base X.outer:=by
 have all:∀(l:List Env),(∀b∈fh l,b∈X.ar)->X.c'.heap.FunFrames X.base l->s.heap.FunFrames X.base l:=by
  intro l
  induction l with
  |nil=>intro _ _;trivial
  |cons env r b8=>
   intro aA aB;obtain⟨aL,⟨L,o,hf,a6,aF,hd⟩,au⟩:=aB;have hM:L∈X.ar:=aA L (by unfold fh;rw[List.filterMap_cons,hf];exact fb);obtain⟨dK,e⟩:=I.base.slot L o aF (I.ok.oa L hM) hM λz=>I.ok.sb L z hM;exact⟨aL,⟨L,_,hf,a6,e,hd⟩,b8 (λb U=>aA b (by unfold fh;rw[List.filterMap_cons,hf];exact dn _ U)) au⟩
 exact all X.outer (λ_ U=>U) I.ok.kj
theorem Inv.stack(I:Inv X ai σ H s):s.heap.FunFrames X.base X.stack:=by
 rcases I.ok.oA with e|⟨e,hf⟩
 ·rw[e];exact I.kj
 ·rw[e];obtain⟨m,a6,_⟩:=I.loc;refine .cons (by rw[I.ok.kind];decide) hf a6 ?_ I.kj;exact Heap.get?_none_of_le (jd I.ok.m5 I.ok.above)
def Inv.Bt(I:Inv X ai σ H s):∀b∈fh X.stack,b∈X.env.locals::X.ar:=λb U=>by
 rcases I.ok.oA with e|⟨e,hf⟩
 ·rw[e] at U;exact dn _ U
 ·rw[e] at U;unfold fh at U;rw[List.filterMap_cons,hf] at U;exact U
def Inv.Jy(I:Inv X ai σ H s):∀b∈fh X.stack,H b=none:=λb U=>by
 rcases cm.mp (I.Bt b U) with e|U
 ·rw[e];exact I.free
 ·obtain⟨_,o,aF,_⟩:=I.ok.kj.mem U;exact I.base.free b o aF (I.ok.oa b U) λz=>I.ok.sb b z U
def Inv.step{g':Array GenState}{t':Nat}{d':Drawn}{ch:List ag}(I:Inv X ai σ H s)
  (oc:∀b∈ch,(b∈X.ex\/X.c'.heap.objs.size<=b)/\b≠X.env.locals/\(∀x c,X.env.cells.lookup x=some c->c≠b)/\∀p∈X.df++ai,p.1≠b)
  (keep:∀b o,b≠X.env.locals->b∉X.ar->b∉ch->s.heap.get? b=some o->H b=none->h'.get? b=some o)
  (slot:∀b o,b≠X.env.locals->b∈X.ar->b∉ch->s.heap.get? b=some o->H b=none->∃dK,h'.get? b=some {o with slots:=dK}) (free:∀b o,b∉ch->s.heap.get? b=some o->H b=none->aa b=none)
  (there:∀b o,b∉ch->s.heap.get? b=some o->∃o',h'.get? b=some o')
  (lQ:∀b xs,H b=some (.tup xs)->aa b=some (.tup xs)) (kR:∀b o u,H b=some (.mj o u)->aa b=some (.mj o u)) (k8:∀b ps,H b=some (.hV ps)->∃more,aa b=some (.hV (ps++more)))
  (ns:∀m,s.heap.Ns X.env.locals m->h'.Ns X.env.locals m) (bO:eA X.prog X.w aa h') (bl:AllBare g'):
  Inv X ai σ aa {s with heap:=h',gens:=g',drawn:=d',toks:=t'}:=by
 have OX:∀b o,X.c'.heap.get? b=some o->b≠X.env.locals:=λb o e=>eR (iE (cY e) I.ok.above);have sL:∀b o,X.c'.heap.get? b=some o->b∉X.ex->b∉ch:=λb o e hx U=>by
  rcases (oc b U).1 with z|z
  ·exact hx z
  ·exact absurd (iE (cY e) z) (Nat.lt_irrefl _)
 have cellK:∀x c,X.env.cells.lookup x=some c->∀v,s.heap.IsCell c v->h'.IsCell c v:=λx c e v ⟨o,aF,hd⟩=>by
  have w8:c∉ch:=λz=>(oc c z).2.2.1 x c e rfl;by_cases ax:c∈X.ar
  ·obtain⟨dK,q⟩:=slot c o (I.ama x c e) ax w8 aF (I.ki x c e);exact⟨_,q,hd⟩
  ·exact⟨o,keep c o (I.ama x c e) ax w8 aF (I.ki x c e),hd⟩
 refine⟨I.ok,I.os,bl,⟨λb o e n U hx=>?_,λb o e n U hx=>?_,λb o e n hx=>?_,λb o e hx=>?_,λb xs e=>lQ b xs (I.base.lQ b xs e),λb o xs e=>kR b o xs (I.base.kR b o xs e),λb ps e=>?_⟩,?_,λx c e=>?_,?_,λx c e=>?_,λp aC=>?_,bO,I.len⟩
 ·exact keep b o (OX b o e) U (sL b o e hx) (I.base.keep b o e n U hx) (I.base.free b o e n hx)
 ·obtain⟨dK,aD⟩:=I.base.slot b o e n U hx;obtain⟨Pp,aO⟩:=slot b _ (OX b o e) U (sL b o e hx) aD (I.base.free b o e n hx);exact⟨Pp,aO⟩
 ·obtain⟨o',aD⟩:=I.base.there b o e hx;exact free b o' (sL b o e hx) aD (I.base.free b o e n hx)
 ·obtain⟨o',aD⟩:=I.base.there b o e hx;exact there b o' (sL b o e hx) aD
 ·obtain⟨hO,aD⟩:=I.base.k8 b ps e;obtain⟨kW,aO⟩:=k8 b _ aD;exact⟨hO++kW,by rw[aO,Array.append_assoc]⟩
 ·obtain⟨m,a6,aB⟩:=I.loc;refine⟨m,ns m a6,λi x v aD aO fw=>?_⟩;obtain⟨u,r,l⟩:=aB i x v aD aO fw;refine⟨u,r,?_⟩;rcases l with l|⟨k,c,e,z⟩
  ·exact .inl l
  ·exact .inr ⟨k,c,e,cellK x c e _ z⟩
 ·obtain⟨v,z⟩:=I.cell x c e;exact⟨v,cellK x c e v z⟩
 ·obtain⟨m,⟨o,_,_,aF,_⟩,_⟩:=I.loc;exact free _ o (λz=>(oc _ z).2.1 rfl) aF I.free
 ·obtain⟨v,o,aF,hd⟩:=I.cell x c e;exact free c o (λz=>(oc c z).2.2.1 x c e rfl) aF (I.ki x c e)
 ·obtain⟨e,n,ne,hP,d⟩:=I.pin p aC;have w8:p.1∉ch:=λz=>(oc p.1 z).2.2.2 p aC rfl;exact⟨keep p.1 p.2 ne hP w8 e n,free p.1 p.2 w8 e n,ne,hP,d⟩
def Inv.un{t':Nat}(I:Inv X ai σ H s)(u:f9 X.ar [] H aa s.heap h')(bO:eA X.prog X.w aa h'):Inv X ai σ aa {s with heap:=h',toks:=t'}:=by
 obtain⟨m,⟨o,es,ep,aF,r⟩,_⟩:=id I.loc;obtain⟨dK,hM⟩:=u.any aF I.free (by simp);exact I.step (g':=s.gens) (d':=s.drawn) (ch:=[]) (λ_ z=>nomatch z) (λb o _ U _ e n=>u.keep b o e n U (by simp)) (λb o _ U _ e n=>u.slot b o e n U (by simp)) (λb o _ e n=>u.free b o e n (by simp)) (λb o _ e=>u.there b o e (by simp)) u.lQ u.kR u.k8 (λov hm=>by
  obtain⟨o',ht,FI,km,cq⟩:=hm;rw[aF] at km;cases km;exact⟨_,ht,FI,hM,cq⟩) bO I.bare
def Inv.call{g':Array GenState}{t':Nat}{d':Drawn}{ch:List ag}(I:Inv X ai σ H s)(u:f9 (fh X.stack) ch H aa s.heap h')(bO:eA X.prog X.w aa h')(bl:AllBare g')
  (oc:∀b∈ch,(b∈X.ex\/X.c'.heap.objs.size<=b)/\b≠X.env.locals/\(∀x c,X.env.cells.lookup x=some c->c≠b)/\∀p∈X.df++ai,p.1≠b):
  Inv X ai σ aa {s with heap:=h',gens:=g',drawn:=d',toks:=t'}:=by
 obtain⟨m,⟨o,es,ep,aF,r⟩,_⟩:=id I.loc;obtain⟨dK,hM⟩:=u.any aF I.free λz=>(oc _ z).2.1 rfl;exact I.step (ch:=ch) oc (λb o hM U ax e n=>u.keep b o e n (λz=>(cm.mp (I.Bt b z)).elim hM U) ax) (λb o _ _ ax e n=>u.any e n ax) (λb o ax e n=>u.free b o e n ax) (λb o ax e=>u.there b o e ax) u.lQ u.kR u.k8 (λov hm=>by
  obtain⟨o',ht,FI,km,cq⟩:=hm;rw[aF] at km;cases km;exact⟨_,ht,FI,hM,cq⟩) bO bl
def Inv.turned{t':Nat}{it:ag}(I:Inv X ai σ H s)(k:∀b o,b≠it->s.heap.get? b=some o->h'.get? b=some o)(a6:H it=none)(hM:it≠X.env.locals)
  (af:it∈X.ex\/X.c'.heap.objs.size<=it) (ak:∀x c,X.env.cells.lookup x=some c->c≠it) (bB:∀p∈X.df++ai,p.1≠it):Inv X ai σ H {s with heap:=h',toks:=t'}:=by
 have O1:∀b u,H b=some u->b≠it:=λb u e z=>by rw[z,a6] at e;cases e
 refine I.step (g':=s.gens) (d':=s.drawn) (ch:=[it]) (λb U=>?_) (λb o _ _ ax e _=>k b o (λz=>ax (by simp[z])) e) (λb o _ _ ax e _=>⟨o.slots,k b o (λz=>ax (by simp[z])) e⟩) (λ_ _ _ _ n=>n)
  (λb o ax e=>⟨o,k b o (λz=>ax (by simp[z])) e⟩) (λ_ _ e=>e) (λ_ _ _ e=>e) (λb ps e=>⟨#[],by rw[e];simp⟩) (λm hm=>?_) (λb u e=>?_) I.bare
 ·have e:b=it:=by simpa using U
  subst e;exact⟨af,hM,ak,bB⟩
 ·obtain⟨o,es,ep,aF,r⟩:=hm;exact⟨o,es,ep,k _ o (Ne.symm hM) aF,r⟩
 ·refine (I.bO b u e).jA (λc v ax q=>k c v ?_ q) (λ_ q=>q) λ_ _ q=>q
  rcases ax with z|z
  ·rw[z];exact O1 b u e
  ·exact O1 c _ z
def Inv.tok(I:Inv X ai σ H s)(t:Nat):Inv X ai σ H {s with toks:=t}:=I.un (h':=s.heap) (t':=t) f9.refl I.bO
theorem Inv.kept{t':Nat}(I:Inv X ai σ H s)(k:∀b u,s.heap.get? b=some u->h'.get? b=some u):Inv X ai σ H {s with heap:=h',toks:=t'}:=I.un (f9.kept k) (I.bO.kept k)
theorem Inv.laid{a:ag}{o:ea}{t':Nat}(I:Inv X ai σ H s)(k:∀b u,s.heap.get? b=some u->h'.get? b=some u)(aC:s.heap.objs.size<=a)(new:hj X.prog X.w (upd H a o) h' a o):
  Inv X ai σ (upd H a o) {s with heap:=h',toks:=t'}:=I.un (f9.laid k aC (I.bO.fresh aC)) (I.bO.laid k aC new)
theorem Inv.write{x e:ag}{o:ea}{t':Nat}(I:Inv X ai σ H s)(kX:v7 (H x))(he:e=x\/H e=some (.own x))(k:∀b u,b≠e->s.heap.get? b=some u->h'.get? b=some u)(uu:∃u,h'.get? e=some u)
  (new:hj X.prog X.w (upd H x o) h' x o):Inv X ai σ (upd H x o) {s with heap:=h',toks:=t'}:=I.un (f9.write kX he k uu) (I.bO.write kX he k uu new)
def Inv.Pa{O':List (ag×Obj)}(I:Inv X ai σ H s)(h:∀p∈O',s.heap.get? p.1=some p.2/\H p.1=none/\p.1≠X.env.locals/\p.1∉X.ar/\∀v,p.2.data≠.cell v):Inv X O' σ H s:=
 ⟨I.ok,I.os,I.bare,I.base,I.loc,I.cell,I.free,I.ki,λp aC=>(jD.mp aC).elim (λz=>I.pin p (List.mem_append_left _ z)) (h p),I.bO,I.len⟩
def Si{N:List Str}(eB:N.Nodup){i j:Nat}{x:Str}(a:N[i]?=some x)(b:N[j]?=some x):i=j:=by
 obtain⟨af,aD⟩:=hW.mp a;obtain⟨ak,aO⟩:=hW.mp b;exact (List.getElem_inj eB).mp (aD.trans aO.symm)
def Rl{M:Model}{A:cH}{E:aj->aI->Prop}{i:Nat}{x:Str}{v:V}{u:aj}{Q:Unit->aI->Prop}(I:Inv X ai σ H s)(eB:X.N.Nodup)(bc:X.N[i]?=some x)(hx:Loc X.env.scope x)(r:RelV v u)
  (h:∀s',Inv X ai (σ.set i (some v)) H s'->(∃a,Heap.SameBut a s.heap s'.heap/\(a=X.env.locals\/X.env.cells.lookup x=some a))->Q () s') (hf:X.fn x=true\/X.env.scope.names.lookup x=some .local:=by first|exact .inl rfl|exact .inr rfl|assumption):bD M A (storeName X.env x u) Q E s:=by
 obtain⟨m,a6,aB⟩:=id I.loc;have Zz:(X.env.scope.kind==.class || (X.env.scope.kind==.module && X.env.locals != X.env.globals))=false:=by rw[I.ok.kind];rfl
 have Ou:i<σ.length:=by rw[I.len];exact (hW.mp bc).1
 have ama:=I.ama;have tracked:∀{a:ag} {h':bE},(∃o,s.heap.get? a=some o/\H a=none)->Heap.SameBut a s.heap h'->eA X.prog X.w H h':=λ{a h'} av aA b dD e=>by
  obtain⟨_,_,Oo⟩:=av;refine (I.bO b dD e).jA (λc gA ax q=>(aA.2 c ?_).trans q) (λ_ q=>q) λ_ _ q=>q;rintro rfl;rcases ax with rfl|ax
  ·rw[Oo] at e;cases e
  ·rw[Oo] at ax;cases ax
 rcases hx with aL|aL
 ·refine wpAny_storeName_local aL a6 (λh' ZX aA=>?_) Zz
  obtain⟨oL,_,_,wI,_⟩:=id a6;refine h _ ⟨I.ok,I.os,I.bare,⟨λb o e n U hx=>?_,λb o e n U hx=>?_,I.base.free,λb o e hx=>?_,I.base.lQ,I.base.kR,I.base.k8⟩,⟨_,ZX,λj y iU aD aO fw=>?_⟩,λy c e=>?_,I.free,I.ki,λp aC=>?_,tracked ⟨oL,wI,I.free⟩ aA,by simpa using I.len⟩ ⟨_,aA,.inl rfl⟩
  ·exact (aA.2 b (eR (iE (cY e) I.ok.above))).trans (I.base.keep b o e n U hx)
  ·obtain⟨dK,aD⟩:=I.base.slot b o e n U hx;exact⟨dK,(aA.2 b (eR (iE (cY e) I.ok.above))).trans aD⟩
  ·obtain⟨o',aD⟩:=I.base.there b o e hx;exact⟨o',(aA.2 b (eR (iE (cY e) I.ok.above))).trans aD⟩
  ·by_cases bR:j=i
   ·subst bR;rw[bc] at aD;cases aD;rw[List.getElem?_set_self Ou] at aO;cases aO;exact⟨u,r,.inl ⟨aL,by simp⟩⟩
   ·rw[List.getElem?_set_ne (Ne.symm bR)] at aO;obtain⟨xt,cq,q⟩:=aB j y iU aD aO fw;refine⟨xt,cq,?_⟩;rcases q with ⟨k,e⟩|⟨k,c,e,z⟩
    ·refine .inl ⟨k,?_⟩
     have:y≠x:=λe=>bR (Si eB aD (e▸bc));simp[this,e]
    ·exact .inr ⟨k,c,e,z.sameBut aA (ama y c e)⟩
  ·obtain⟨gA,z⟩:=I.cell y c e;exact⟨gA,z.sameBut aA (ama y c e)⟩
  ·obtain⟨e,n,ne,hP,d⟩:=I.pin p aC;exact⟨(aA.2 p.1 ne).trans e,n,ne,hP,d⟩
 ·have Gn:X.fn x=true:=by
   rcases hf with z|z
   ·exact z
   ·rw[z] at aL;cases aL
  obtain⟨c,ax⟩:=I.ok.has x (.inl aL);obtain⟨gA,z⟩:=I.cell x c ax;refine wpAny_storeName_cell I.ok.kind aL ax z (λh' dc aA=>?_);obtain⟨gV,Oy,Z2⟩:=id z;refine h {s with heap:=h'} ⟨I.ok,I.os,I.bare,⟨λb o e n U hx=>?_,λb o e n U hx=>?_,I.base.free,λb o e hx=>?_,I.base.lQ,I.base.kR,I.base.k8⟩,⟨m,a6.sameBut aA (Ne.symm (ama x c ax)),λj y iU aD aO fw=>?_⟩,λy bW e=>?_,I.free,I.ki,λp aC=>?_,tracked ⟨gV,Oy,I.ki x c ax⟩ aA,by simpa using I.len⟩ ⟨c,aA,.inr ax⟩
  ·exact (aA.2 b (eR (iE (cY e) (I.ok.r6 x c Gn ax)))).trans (I.base.keep b o e n U hx)
  ·obtain⟨dK,aD⟩:=I.base.slot b o e n U hx;exact⟨dK,(aA.2 b (eR (iE (cY e) (I.ok.r6 x c Gn ax)))).trans aD⟩
  ·obtain⟨o',aD⟩:=I.base.there b o e hx;exact⟨o',(aA.2 b (eR (iE (cY e) (I.ok.r6 x c Gn ax)))).trans aD⟩
  ·by_cases bR:j=i
   ·subst bR;rw[bc] at aD;cases aD;rw[List.getElem?_set_self Ou] at aO;cases aO;exact⟨u,r,.inr ⟨.inl aL,c,ax,dc⟩⟩
   ·rw[List.getElem?_set_ne (Ne.symm bR)] at aO;obtain⟨xt,cq,q⟩:=aB j y iU aD aO fw;refine⟨xt,cq,?_⟩;rcases q with q|⟨k,bW,e,jG⟩
    ·exact .inl q
    ·refine .inr ⟨k,bW,e,jG.sameBut aA ?_⟩
     rintro rfl;exact bR (Si eB aD (I.ok.inj _ _ _ e ax▸bc))
  ·by_cases Oe:bW=c
   ·subst Oe;exact⟨_,dc⟩
   ·obtain⟨xv,gC⟩:=I.cell y bW e;exact⟨xv,gC.sameBut aA Oe⟩
  ·obtain⟨e,n,ne,hP,d⟩:=I.pin p aC;refine⟨(aA.2 p.1 ?_).trans e,n,ne,hP,d⟩;intro q;rw[q,Oy] at e;have d8:gV=p.2:=ef e;exact d gA (by rw[<- d8];exact Z2)
def R_{M:Model}{A:cH}{E:aj->aI->Prop}{i:Nat}{x:Str}{v:V}{u:aj}{Q:Unit->aI->Prop}(I:Inv X ai σ H s)(eB:X.N.Nodup)(bc:X.N[i]?=some x)(hx:Loc X.env.scope x)(r:RelV v u)
  (h:∀s',Inv X ai (σ.set i (some v)) H s'->Q () s') (hf:X.fn x=true\/X.env.scope.names.lookup x=some .local:=by first|exact .inl rfl|exact .inr rfl|assumption):bD M A (storeName X.env x u) Q E s:=
 Rl I eB bc hx r (λs' mY _=>h s' mY) hf
def Inv.MW{s':aI}{ch:List ag}(I:Inv X ai σ H s)(aF:s'.os=s.os)(u:f9 (fh X.stack) ch H aa s.heap s'.heap)(bO:eA X.prog X.w aa s'.heap)(bl:AllBare s'.gens)
  (oc:∀b∈ch,(b∈X.ex\/X.c'.heap.objs.size<=b)/\b≠X.env.locals/\(∀x c,X.env.cells.lookup x=some c->c≠b)/\∀p∈X.df++ai,p.1≠b):Inv X ai σ aa s':=by
 obtain⟨h',g',d',t',o'⟩:=s';have e:o'=s.os:=aF;subst e;exact I.call (g':=g') (t':=t') (d':=d') u bO bl oc
end
abbrev eF:=aj->Option ag->ay->Prop
abbrev St:=List (Option V)
abbrev dj:=V->ay->Prop
abbrev TE:=St->ay->dj->Prop
abbrev TT:=St->ay->(Bool->ay->Prop)->Prop
abbrev fS:=St->ay->(List V->ay->Prop)->Prop
structure Ends where
 bK:St->ay->Prop
 d4:dj
 gp:St->ay->Prop:=λ_ _=>False
 dN:St->ay->Prop:=λ_ _=>False
abbrev fT:=Ends->St->ay->Prop
def h3(X:aV)(ai:List (ag×Obj))(σ:St)(Q:dj)(u:aj)(s':aI):Prop:=∃v aa,Inv X ai σ aa s'/\RelV v u/\Q v aa
def y6(X:aV)(ai:List (ag×Obj))(σ:St)(Q:Bool->ay->Prop)(b:Bool)(s':aI):Prop:=∃aa,Inv X ai σ aa s'/\Q b aa
def Ui(X:aV)(ai:List (ag×Obj))(σ:St)(Q:List V->ay->Prop)(us:List aj)(s':aI):Prop:=∃vs aa,Inv X ai σ aa s'/\Vals vs us/\Q vs aa
noncomputable def pn(X:aV)(ai:List (ag×Obj))(D:Ends)(f:Flow)(s':aI):Prop:=
 match f with
|.next=>∃cg aa,Inv X ai cg aa s'/\D.bK cg aa
|.brk=>∃cg aa,Inv X ai cg aa s'/\D.gp cg aa
|.cont=>∃cg aa,Inv X ai cg aa s'/\D.dN cg aa
|.ret u=>∃v cg aa,Inv X ai cg aa s'/\RelV v u/\D.d4 v aa
noncomputable def bQ(X:aV)(e:bj)(t:TE):Prop:=
 ∀(ai:List (ag×Obj)) (s:aI) (σ:St) (H:ay) (Q:dj),Inv X ai σ H s->t σ H Q->bD (bL X.prog X.w) X.A (eval e X.env) (h3 X ai σ Q) X.c8 s
noncomputable def ir(X:aV)(e:bj)(t:TT):Prop:=
 ∀(ai:List (ag×Obj)) (s:aI) (σ:St) (H:ay) (Q:Bool->ay->Prop),Inv X ai σ H s->t σ H Q->bD (bL X.prog X.w) X.A (isTrue e X.env (eval e X.env)) (y6 X ai σ Q) X.c8 s
noncomputable def l_(X:aV)(e:bj)(t:TT):Prop:=
 ∀(whole:Sem aj) (ai:List (ag×Obj)) (s:aI) (σ:St) (H:ay) (Q:Bool->ay->Prop),Inv X ai σ H s->t σ H Q->bD (bL X.prog X.w) X.A (isTrue e X.env whole) (y6 X ai σ Q) X.c8 s
def l_.pt{X:aV}{e:bj}{t:TT}(h:l_ X e t):ir X e t:=h _
noncomputable def f5(X:aV)(es:List bj)(t:fS):Prop:=
 ∀(pos:Pos) (ai:List (ag×Obj)) (s:aI) (σ:St) (H:ay) (Q:List V->ay->Prop),Inv X ai σ H s->t σ H Q->bD (bL X.prog X.w) X.A (spliced (dM pos (bo es X.env))) (Ui X ai σ Q) X.c8 s
noncomputable def hG(X:aV)(st:Stmt)(t:fT):Prop:=
 ∀(ai:List (ag×Obj)) (s:aI) (σ:St) (H:ay) (D:Ends),Inv X ai σ H s->t D σ H->bD (bL X.prog X.w) X.A (exec st X.env) (pn X ai D) X.c8 s
noncomputable def fF(X:aV)(st:List Stmt)(t:fT):Prop:=
 ∀(ai:List (ag×Obj)) (s:aI) (σ:St) (H:ay) (D:Ends),Inv X ai σ H s->t D σ H->bD (bL X.prog X.w) X.A (execs st X.env) (pn X ai D) X.c8 s
def cN{α:Type}{t:Sem α}{Q DU:α->aI->Prop}{M:Model}{A:cH}{E:aj->aI->Prop}{s:aI}(h:bD M A t Q E s)(iM:∀a s,Q a s->DU a s):bD M A t DU E s:=e2 h iM λ_ _ x=>x
end bh
namespace bh
open PySem PySem.Spec PyProof.Rows
section
variable {X:aV}
def fU(i:Nat):TE:=λσ H Q=>∃v,σ[i]?=some (some v)/\Q v H
def lP(v:V):TE:=λ_ H Q=>Q v H
def akf{i:Nat}{x:Str}{pos:Pos}(eB:X.N[i]?=some x)(br:qi X.env.scope x)(hd:(x==("__debug__":Str))=false:=by decide)(eZ:(x==("__classdict__":Str))=false:=by decide):bQ X (.Name x pos) (fU i):=by
 intro ai s σ H Q I h;obtain⟨v,e,h⟩:=h;obtain⟨m,a6,aB⟩:=I.loc;obtain⟨u,r,l⟩:=aB i x v eB e br;have fin:h3 X ai σ Q u s:=⟨v,H,I,r,h⟩;rcases l with ⟨aL,hm⟩|⟨aL,c,ax,uq⟩
 ·exact wpAny_Name (wpAny_loadName_local I.ok.kind aL a6 hm fin) hd
 ·rcases aL with aL|aL
  ·exact wpAny_Name (wpAny_loadName_cell I.ok.kind aL ax uq fin) hd
  ·exact wpAny_Name (wpAny_loadName_free I.ok.kind aL ax uq fin eZ) hd
def akh{i j pos}:bQ X (.Constant (.int i) j pos) (lP (.int i)):=λ_ _ _ H _ I h=>wpAny_Constant_int ⟨.int i,H,I.tok _,⟨_,rfl⟩,h⟩
def ak8{b j pos}:bQ X (.Constant (.bool b) j pos) (lP (.c4 b)):=λ_ _ _ H _ I h=>Constant_bool ⟨.c4 b,H,I,rfl,h⟩
def Tw{j pos}:bQ X (.Constant .none j pos) (lP .e0):=λ_ _ _ H _ I h=>Constant_none ⟨.e0,H,I,rfl,h⟩
def C'{x j pos}:bQ X (.Constant (.str x) j pos) (lP (.str x)):=λ_ _ _ H _ I h=>Calls.Constant_str ⟨.str x,H,I.tok _,⟨_,rfl⟩,h⟩
def ei(X:aV)(x:Str):Prop:=X.env.kindOf x=some .globalImplicit
def tH{E:aj->aI->Prop}{ai:List (ag×Obj)}{s:aI}{σ:St}{H:ay}{x:Str}{u:aj}{pos:Pos}{Q:aj->aI->Prop}(I:Inv X ai σ H s)(bl:ei X x)(hm:X.mg x=some u)(h:Q u s)
  (hd:(x==("__debug__":Str))=false:=by decide):bD (bL X.prog X.w) X.A (eval (.Name x pos) X.env) Q E s:=
 Calls.Name_function_global I.ok.kind bl (Calls.loadGlobal_global (by rw[I.ok.glob];exact I.mod.glob.keeps I.gp) hm h) hd
def tL{E:aj->aI->Prop}{ai:List (ag×Obj)}{s:aI}{σ:St}{H:ay}{x:Str}{u:aj}{pos:Pos}{Q:aj->aI->Prop}(I:Inv X ai σ H s)(bl:ei X x)(hm:X.mg x=none)(br:bootBuiltins x=some u)(h:Q u s)
  (a6:x≠"__name__":=by decide) (hd:(x==("__debug__":Str))=false:=by decide):bD (bL X.prog X.w) X.A (eval (.Name x pos) X.env) Q E s:=by
 obtain⟨lJ,af,ak⟩:=I.mod.blt;exact Calls.Name_function_global I.ok.kind bl (Calls.loadGlobal_builtin (by rw[I.ok.glob];exact I.mod.glob.keeps I.gp) hm (by rw[I.ok.blt];exact af.keeps I.gp) ((ak x a6).trans br) h) hd
def SN{x:Str}{v:V}{u:aj}{pos:Pos}(bl:ei X x)(hm:X.mg x=some u)(r:RelV v u)(hd:(x==("__debug__":Str))=false:=by decide):bQ X (.Name x pos) (lP v):=
 λ_ _ _ H _ I h=>tH I bl hm ⟨v,H,I,r,h⟩ hd
variable {a b:bj}{cF c6:TE}{pos:Pos}
noncomputable def DT(X:aV)(op:CmpOp)(a b:bj)(t:TE):Prop:=
 ∀(ai:List (ag×Obj)) (s:aI) (σ:St) (H:ay) (Q:dj),Inv X ai σ H s->t σ H Q ->
  bD (bL X.prog X.w) X.A (eval a X.env) (λv cU=>bD (bL X.prog X.w) X.A (eval b X.env) (λu jc=>bD (bL X.prog X.w) X.A (iF op v u) (h3 X ai σ Q) X.c8 jc) X.c8 cU) X.c8 s
def aiy(b:bj){op:CmpOp}(h:op≠.In)(ak:op≠.NotIn):oM op b=false:=by
 have aD:(op==CmpOp.In)=false:=by cases op <;> first|rfl|exact absurd rfl h
 have aO:(op==CmpOp.NotIn)=false:=by cases op <;> first|rfl|exact absurd rfl ak
 cases b <;> simp[oM,aD,aO]
def ae'(cF:TE):TE:=λσ H Q=>cF σ H λx H1=>Q (.c4 (decide (x=.e0))) H1
def akM(cF:TE):TE:=λσ H Q=>cF σ H λx H1=>Q (.c4 (!decide (x=.e0))) H1
def RelV.O3{x:V}{v:aj}(r:RelV x v):(v==Value.none)=decide (x=.e0):=by
 cases x with
|e0=>cases r;rfl
|c4 _=>cases r;rfl
|int _=>obtain⟨t,rfl⟩:=r;rfl
|str _=>obtain⟨t,rfl⟩:=r;rfl
|r4 _=>obtain⟨t,rfl⟩:=r;rfl
|wi _=>obtain⟨t,rfl⟩:=r;rfl
|ref _=>cases r;rfl
|ty _=>cases r;rfl
def akj{j pos'}(av:bQ X a cF):DT X .Is a (.Constant .none j pos') (ae' cF):=by
 intro ai s σ H Q I h;refine cN (av ai s σ H _ I h) λv s1 ⟨x,H1,a_,bg,aM⟩=>?_;exact Constant_none (is_none_gen ⟨.c4 _,H1,a_,by rw[bg.O3];rfl,aM⟩)
def aji{j pos'}(av:bQ X a cF):DT X .IsNot a (.Constant .none j pos') (akM cF):=by
 intro ai s σ H Q I h;refine cN (av ai s σ H _ I h) λv s1 ⟨x,H1,a_,bg,aM⟩=>?_;exact Constant_none (isnot_none_gen ⟨.c4 _,H1,a_,by rw[bg.O3];rfl,aM⟩)
def PB(t:TE):TT:=λσ H Q=>t σ H λx H1=>∃c,x=.c4 c/\Q c H1
def Tu{op:CmpOp}{t:TE}(h:DT X op a b t)(af:oM op b=false:=by first|exact aiy _ (by decide) (by decide)|rfl):ir X (.Compare a [op] [b] pos) (PB t):=by
 intro ai s σ H Q I hw;refine wpAny_isTrue_Compare1 (cN (h ai s σ H _ I hw) λv s1 af=>cN af λu s2 ak=>cN ak λc s3 ⟨x,H1,a_,bg,aM⟩=>?_) af;obtain⟨d,rfl,q⟩:=aM;cases bg;exact u2 ⟨H1,a_,q⟩
def aj'{e:bj}{t:TE}(h:bQ X e t)(he:∀whole,isTrue e X.env whole=(do let v <- whole;standAt e.pos;holding [v] (truthy v)):=by intro _;rfl):ir X e (PB t):=by
 intro ai s σ H Q I hw;refine isTrue_plain (cN (h ai s σ H _ I hw) λv s1 ⟨x,H1,a_,bg,aM⟩=>?_) (he _);obtain⟨d,rfl,q⟩:=aM;cases bg;exact u2 ⟨H1,a_,q⟩
variable {mx Bv:TT}{rest:List bj}
def ae3(t u:TT):TT:=λσ H Q=>t σ H λc H1=>if c=true then u σ H1 Q else Q false H1
def afc(t u:TT):TT:=λσ H Q=>t σ H λc H1=>if c=true then Q true H1 else u σ H1 Q
def afb(t:TT):TT:=λσ H Q=>t σ H λc H1=>Q (!c) H1
def ai7(av:ir X a mx):l_ X (.BoolOp .And [a] pos) mx:=by
 intro amw ai s σ H Q I h;refine isTrue_and (cN (av ai s σ H Q I h) λc s1 e=>?_);cases c with
|true=>exact isTrue_and_nil e
|false=>exact e
def Tt(av:ir X a mx):l_ X (.BoolOp .Or [a] pos) mx:=by
 intro amw ai s σ H Q I h;refine isTrue_or (cN (av ai s σ H Q I h) λc s1 e=>?_);cases c with
|false=>exact isTrue_or_nil e
|true=>exact e
def aj8(av:ir X a mx)(U:l_ X (.BoolOp .And (b::rest) pos) Bv):l_ X (.BoolOp .And (a::b::rest) pos) (ae3 mx Bv):=by
 intro amw ai s σ H Q I h;refine isTrue_and (cN (av ai s σ H _ I h) λc s1 ⟨H1,a_,aM⟩=>?_);cases c with
|true=>exact U amw ai s1 σ H1 Q a_ aM
|false=>exact⟨H1,a_,aM⟩
def Ub(av:ir X a mx)(U:l_ X (.BoolOp .Or (b::rest) pos) Bv):l_ X (.BoolOp .Or (a::b::rest) pos) (afc mx Bv):=by
 intro amw ai s σ H Q I h;refine isTrue_or (cN (av ai s σ H _ I h) λc s1 ⟨H1,a_,aM⟩=>?_);cases c with
|true=>exact⟨H1,a_,aM⟩
|false=>exact U amw ai s1 σ H1 Q a_ aM
def aka(av:ir X a mx):ir X (.UnaryOp .Not a pos) (afb mx):=by
 intro ai s σ H Q I h;exact isTrue_not (av ai s σ H (λc H1=>Q (!c) H1) I h)
def akS(cF c6:TE):TE:=λσ H Q=>cF σ H λx H1=>∃c,x=.c4 c/\if c=true then c6 σ H1 Q else Q (.c4 false) H1
def afd(cF c6:TE):TE:=λσ H Q=>cF σ H λx H1=>∃c,x=.c4 c/\if c=true then Q (.c4 true) H1 else c6 σ H1 Q
def Tv{op}{t:TE}(h:bQ X a t):bQ X (.BoolOp op [a] pos) t:=λai s σ H Q I hw=>BoolOp_one (h ai s σ H Q I hw)
def aki(av:bQ X a cF)(U:bQ X (.BoolOp .And (b::rest) pos) c6):bQ X (.BoolOp .And (a::b::rest) pos) (akS cF c6):=by
 intro ai s σ H Q I h;refine BoolOp_and (cN (av ai s σ H _ I h) λv s1 ⟨x,H1,a_,bg,aM⟩=>?_);obtain⟨c,rfl,aM⟩:=aM;cases bg;refine u2 ?_;cases c with
|true=>exact U ai s1 σ H1 Q a_ aM
|false=>exact⟨.c4 false,H1,a_,rfl,aM⟩
def ak6(av:bQ X a cF)(U:bQ X (.BoolOp .Or (b::rest) pos) c6):bQ X (.BoolOp .Or (a::b::rest) pos) (afd cF c6):=by
 intro ai s σ H Q I h;refine BoolOp_or (cN (av ai s σ H _ I h) λv s1 ⟨x,H1,a_,bg,aM⟩=>?_);obtain⟨c,rfl,aM⟩:=aM;cases bg;refine u2 ?_;cases c with
|false=>exact U ai s1 σ H1 Q a_ aM
|true=>exact⟨.c4 true,H1,a_,rfl,aM⟩
def ae9(t:TT)(cF c6:TE):TE:=λσ H Q=>t σ H λc H1=>if c=true then cF σ H1 Q else c6 σ H1 Q
def aio{c:bj}(ax:ir X c mx)(av:bQ X a cF)(U:bQ X b c6):bQ X (.IfExp c a b pos) (ae9 mx cF c6):=by
 intro ai s σ H Q I h;refine wpAny_IfExp (cN (ax ai s σ H _ I h) λd s1 ⟨H1,a_,aM⟩=>?_);cases d with
|true=>exact av ai s1 σ H1 Q a_ aM
|false=>exact U ai s1 σ H1 Q a_ aM
end
end bh
namespace bh
open PySem PySem.Spec PyProof.Rows
noncomputable def gP(K:a9)(H:ay)(a:ag)(xs:List V):Prop:=
 eM H a (.lst xs) \/
  ∃(o:Obj) (its:Array aj) (n:Nat),K.lookup a=some o/\o.cls=.type "list"/\o.dict=none/\o.data=.seq its n/\its.size<=cG/\Vals xs its.toList
noncomputable def c3(K:a9)(H:ay)(a:ag)(xs:List V):Prop:=
 eM H a (.tup xs) \/
  ∃(o:Obj) (its:Array aj) (n:Nat),K.lookup a=some o/\o.cls=.type "tuple"/\o.data=.seq its n/\its.size<=cG/\Vals xs its.toList
noncomputable def V3:aj->Option V
|.none=>some .e0
|.bool b=>some (.c4 b)
|.int i _=>some (.int i)
|.str x _=>some (.str x)
|.bytes b _=>some (.r4 b)
|.float b _=>some (.wi b)
|.ref a=>some (.ref a)
|.type n=>some (.ty n)
|_=>none
def RelV.abs{x:V}{u:aj}(r:RelV x u):V3 u=some x:=by
 cases x with
|e0=>cases r;rfl
|c4 _=>cases r;rfl
|int _=>obtain⟨t,rfl⟩:=r;rfl
|str _=>obtain⟨t,rfl⟩:=r;rfl
|r4 _=>obtain⟨t,rfl⟩:=r;rfl
|wi _=>obtain⟨t,rfl⟩:=r;rfl
|ref _=>cases r;rfl
|ty _=>cases r;rfl
def RelV.inj{x y:V}{u:aj}(r:RelV x u)(q:RelV y u):x=y:=ef (r.abs.symm.trans q.abs)
theorem Vals.inj:∀{xs ys:List V} {us:List aj},Vals xs us->Vals ys us->xs=ys
|_,_,_,.nil,.nil=>rfl
|_,_,_,.cons r t,.cons cq t'=>by rw[r.inj cq,Vals.inj t t']
section
variable {X:aV}{ai:List (ag×Obj)}{σ:St}{H:ay}{s:aI}{a:ag}{xs ys:List V}
def gP.of{K:a9}(h:H a=some (.lst xs)):gP K H a xs:=.inl (.inl h)
def c3.of{K:a9}(h:H a=some (.tup xs)):c3 K H a xs:=.inl (.inl h)
def Inv.list(I:Inv X ai σ H s)(h:gP X.K H a xs):∃its:List aj,Vals xs its/\PlainL s.heap a its.toArray/\xs.length<=cG:=by
 rcases h with h|⟨o,its,n,aL,ax,hd,aA,aq,r⟩
 ·obtain⟨z,its,n,r,e⟩:=h.ok I.bO;exact⟨its,r,⟨_,n,e,rfl,rfl,rfl⟩,z⟩
 ·refine⟨its.toList,r,⟨o,n,I.ju a o aL,ax,hd,by simpa using aA⟩,?_⟩
  have e:=r.length;simp only[uX] at e;omega
def Inv.tuple(I:Inv X ai σ H s)(h:c3 X.K H a xs):∃its:List aj,Vals xs its/\IsTup s.heap a its.toArray/\xs.length<=cG:=by
 rcases h with h|⟨o,its,n,aL,ax,aA,aq,r⟩
 ·obtain⟨z,its,r,p⟩:=h.ok I.bO;exact⟨its,r,p,z⟩
 ·refine⟨its.toList,r,⟨o,I.ju a o aL,ax,n,by simpa using aA⟩,?_⟩
  have e:=r.length;simp only[uX] at e;omega
def Inv.aaJ(I:Inv X ai σ H s)(h:gP X.K H a xs)(h':gP X.K H a ys):xs=ys:=by
 obtain⟨its,r,⟨o,n,e,_,_,d⟩,_⟩:=I.list h;obtain⟨its',cq,⟨o',w5,bS,_,_,d'⟩,_⟩:=I.list h';rw[e] at bS;cases bS;rw[d] at d';injection d' with amb _;have:its=its':=by simpa using congrArg Array.toList amb
 subst this;exact r.inj cq
def Inv.Bz(I:Inv X ai σ H s)(h:c3 X.K H a xs)(h':c3 X.K H a ys):xs=ys:=by
 obtain⟨its,r,⟨o,e,_,n,d⟩,_⟩:=I.tuple h;obtain⟨its',cq,⟨o',bS,_,w5,d'⟩,_⟩:=I.tuple h';rw[e] at bS;cases bS;rw[d] at d';injection d' with amb _;have:its=its':=by simpa using congrArg Array.toList amb
 subst this;exact r.inj cq
end
abbrev aV.j2(X:aV)(E:aj->aI->Prop):aV:={X with c8:=E}
abbrev aV.dv(X:aV):aV:=X.j2 λ_ _=>False
theorem aV.Ok.j2{X:aV}(ok:X.Ok)(E:aj->aI->Prop):(X.j2 E).Ok:=
 ⟨ok.mod,ok.kind,ok.glob,ok.blt,ok.above,ok.inj,ok.has,ok.r6,ok.hd,ok.frames,ok.oA,ok.uj,ok.bs,ok.m5,ok.sM,ok.sb,ok.kj,ok.oa⟩
def aV.Ok.mB{X:aV}{E:aj->aI->Prop}(ok:(X.j2 E).Ok):X.Ok:=
 ⟨ok.mod,ok.kind,ok.glob,ok.blt,ok.above,ok.inj,ok.has,ok.r6,ok.hd,ok.frames,ok.oA,ok.uj,ok.bs,ok.m5,ok.sM,ok.sb,ok.kj,ok.oa⟩
section
variable {X:aV}{ai:List (ag×Obj)}{σ:St}{H:ay}{s:aI}{E:aj->aI->Prop}
theorem Inv.j2(I:Inv X ai σ H s)(E:aj->aI->Prop):Inv (X.j2 E) ai σ H s:=⟨I.ok.j2 E,I.os,I.bare,I.base,I.loc,I.cell,I.free,I.ki,I.pin,I.bO,I.len⟩
theorem Inv.mB(I:Inv (X.j2 E) ai σ H s):Inv X ai σ H s:=⟨I.ok.mB,I.os,I.bare,I.base,I.loc,I.cell,I.free,I.ki,I.pin,I.bO,I.len⟩
theorem pn.mB{D:Ends}{f:Flow}{s':aI}(h:pn (X.j2 E) ai D f s'):pn X ai D f s':=by
 cases f with
|next=>obtain⟨cg,aa,I,q⟩:=h;exact⟨cg,aa,I.mB,q⟩
|brk=>obtain⟨cg,aa,I,q⟩:=h;exact⟨cg,aa,I.mB,q⟩
|cont=>obtain⟨cg,aa,I,q⟩:=h;exact⟨cg,aa,I.mB,q⟩
|ret u=>obtain⟨v,cg,aa,I,r,q⟩:=h;exact⟨v,cg,aa,I.mB,r,q⟩
theorem bQ.dv{e:bj}{t:TE}(h:bQ X.dv e t):bQ X e t:=λai s σ H Q I hw=>
 e2 (h ai s σ H Q (I.j2 _) hw) (λ_ _ ⟨v,aa,mY,r,q⟩=>⟨v,aa,mY.mB,r,q⟩) λ_ _ z=>ed z
theorem ir.dv{e:bj}{t:TT}(h:ir X.dv e t):ir X e t:=λai s σ H Q I hw=>
 e2 (h ai s σ H Q (I.j2 _) hw) (λ_ _ ⟨aa,mY,q⟩=>⟨aa,mY.mB,q⟩) λ_ _ z=>ed z
theorem fF.dv{st:List Stmt}{t:fT}(h:fF X.dv st t):fF X st t:=λai s σ H D I hw=>
 e2 (h ai s σ H D (I.j2 _) hw) (λ_ _ q=>q.mB) λ_ _ z=>ed z
end
section
variable {X:aV}{st:Stmt}{rest:List Stmt}{t u:fT}{e:bj}{jB:TE}{pos:Pos}
def akN:fT:=λD σ H=>D.bK σ H
def PF(t u:fT):fT:=λD σ H=>t {D with bK:=u D} σ H
def ai8:fF X [] akN:=λ_ _ σ H _ I h=>wpAny_execs_nil ⟨σ,H,I,h⟩
def yl(af:hG X st t)(ak:fF X rest u):fF X (st::rest) (PF t u):=by
 intro ai s σ H D I h;refine wpAny_execs_cons (cN (af ai s σ H {D with bK:=u D} I h) λf s1 q=>?_);cases f with
|next=>
  obtain⟨cg,aa,mY,q⟩:=q;exact ak ai s1 cg aa D mY q
|ret v=>exact q
|brk=>exact q
|cont=>exact q
def vv(af:hG X st t):fF X [st] t:=by
 intro ai s σ H D I h;refine wpAny_execs_cons (cN (af ai s σ H D I h) λf s1 q=>?_);cases f with
|next=>exact wpAny_execs_nil q
|ret v=>exact q
|brk=>exact q
|cont=>exact q
def Inv.quiet{ai:List (ag×Obj)}{σ:St}{H:ay}{s:aI}(I:Inv X ai σ H s):interactive X.env=false:=by simp[interactive,I.ok.kind]
def akP(jB:TE):fT:=λD σ H=>jB σ H λ_ H1=>D.bK σ H1
def vw(he:bQ X e jB)(aA:jh e none pos.line X.env=pure false:=by rfl):hG X (.Expr e pos) (akP jB):=by
 intro ai s σ H D I h;exact wpAny_Expr_any (cN (he ai s σ H _ I h) λv s1 ⟨x,H1,a_,bg,aM⟩=>⟨σ,H1,a_,aM⟩) I.quiet aA
def PD(jB:TE):fT:=λD σ H=>jB σ H D.d4
def tK(he:bQ X e jB):hG X (.Return (some e) pos) (PD jB):=by
 intro ai s σ H D I h;exact wpAny_Return_some (cN (he ai s σ H _ I h) λv s1 ⟨x,H1,a_,bg,aM⟩=>⟨x,σ,H1,a_,bg,aM⟩)
def akL:fT:=λD _ H=>D.d4 .e0 H
def ai9:hG X (.Return none pos) akL:=λ_ _ σ H _ I h=>wpAny_Return_none ⟨.e0,σ,H,I,rfl,h⟩
def ae_(c:TT)(t u:fT):fT:=λD σ H=>c σ H λb H1=>if b=true then t D σ H1 else u D σ H1
def Mg{c:bj}{a b:List Stmt}{qX:TT}(ax:ir X c qX)(av:fF X a t)(U:fF X b u):hG X (.If c a b pos) (ae_ qX t u):=by
 intro ai s σ H D I h;refine wpAny_If (cN (ax ai s σ H _ I h) λd s1 ⟨H1,a_,aM⟩=>?_);cases d with
|true=>exact av ai s1 σ H1 D a_ aM
|false=>exact U ai s1 σ H1 D a_ aM
end
abbrev nX:=V->St->ay->(St->ay->Prop)->Prop
abbrev pq:=List V->St->ay->(St->ay->Prop)->Prop
noncomputable def rW(X:aV)(target:bj)(t:nX):Prop:=
 ∀(ai:List (ag×Obj)) (s:aI) (σ:St) (H:ay) (v:V) (u:aj) (Q:St->ay->Prop),Inv X ai σ H s->RelV v u->t v σ H Q ->
  bD (bL X.prog X.w) X.A (assign target X.env u) (λ_ s'=>∃cg aa,Inv X ai cg aa s'/\Q cg aa) X.c8 s
noncomputable def rX(X:aV)(ts:List bj)(t:pq):Prop:=
 ∀(ai:List (ag×Obj)) (s:aI) (σ:St) (H:ay) (vs:List V) (us:List aj) (Q:St->ay->Prop),Inv X ai σ H s->Vals vs us->t vs σ H Q ->
  bD (bL X.prog X.w) X.A (assignInOrder ((p2 ts X.env).map (·.2)) us) (λ_ s'=>∃cg aa,Inv X ai cg aa s'/\Q cg aa) X.c8 s
section
variable {X:aV}{pos:Pos}
def tP(i:Nat):nX:=λv σ H Q=>Q (σ.set i (some v)) H
def ajd{i:Nat}{x:Str}(eB:X.N.Nodup)(bc:X.N[i]?=some x)(hx:Loc X.env.scope x)(hf:X.fn x=true\/X.env.scope.names.lookup x=some .local:=by first|exact .inl rfl|exact .inr rfl|assumption):rW X (.Name x pos) (tP i):=by
 intro ai s σ H v u Q I r h;exact wpAny_assign_Name (R_ I eB bc hx r (λs' mY=>⟨_,H,mY,h⟩) hf)
def Y6:pq:=λvs σ H Q=>vs=[]/\Q σ H
def alc(t:nX)(u:pq):pq:=λvs σ H Q=>∃v r,vs=v::r/\t v σ H λcg aa=>u r cg aa Q
def ajc:rX X [] Y6:=by
 intro ai s σ H vs us Q I r h;obtain⟨e,h⟩:=h;subst e;cases r;exact assignInOrder_nil ⟨σ,H,I,h⟩
def ain{e:bj}{es:List bj}{t:nX}{u:pq}(af:rW X e t)(ak:rX X es u)
  (aA:(p2 (e::es) X.env).map (·.2)=assign e X.env::(p2 es X.env).map (·.2):=by rfl):rX X (e::es) (alc t u):=by
 intro ai s σ H vs us Q I r h;obtain⟨v,JN,aD,h⟩:=h;subst aD;cases r with
|cons r amt=>
  rw[aA];refine assignInOrder_cons (cN (af ai s σ H _ _ _ I r h) λ_ s1 ⟨Mp,H1,a_,aM⟩=>?_);exact ak ai s1 Mp H1 _ _ Q a_ amt aM
def Y7(K:a9)(n:Nat)(t:pq):nX:=λv σ H Q=>∃a xs,v=.ref a/\c3 K H a xs/\xs.length=n/\t xs σ H Q
def ake{es:List bj}{k:Nat}{t:pq}{n:Nat}(ax:X.calm=true)(h:rX X es t)
  (a6:(p2 es X.env).length=n:=by rfl) (gJ:(p2 es X.env).findIdx? (·.1)=none:=by rfl):rW X (.Tuple es k pos) (Y7 X.K n t):=by
 intro ai s σ H v u Q I r hw;obtain⟨a,xs,aD,a3,aB,hw⟩:=hw;subst aD;cases r;obtain⟨its,bP,aX,aq⟩:=I.tuple a3;refine assign_Tuple_tuple (I.ok.hd ax) aX (by simp[a6,<- aB,bP.length]) gJ λh' hx=>?_;have a_:Inv X ai σ H {s with heap:=h'}:=I.kept (t':=s.toks) λb o e=>hx b o (eR (cY e)) e;exact h ai _ σ H xs _ Q a_ (by simpa using bP) hw
def uJ(jB:TE)(g:nX):fT:=λD σ H=>jB σ H λx H1=>g x σ H1 D.bK
def vH{i:Nat}{x:Str}{e:bj}{jB:TE}{pos':Pos}(eB:X.N.Nodup)(bc:X.N[i]?=some x)(hx:Loc X.env.scope x)(he:bQ X e jB)(aA:jh e (some (.Name x pos')) pos.line X.env=pure false:=by rfl)(hf:X.fn x=true\/X.env.scope.names.lookup x=some .local:=by first|exact .inl rfl|exact .inr rfl|assumption):
  hG X (.Assign [.Name x pos'] e pos) (uJ jB (tP i)):=by
 intro ai s σ H D I h;refine wpAny_Assign_Name (cN (he ai s σ H _ I h) λv s1 ⟨y,H1,a_,bg,aM⟩=>?_) aA;exact R_ a_ eB bc hx bg (λs2 cB=>⟨_,H1,cB,aM⟩) hf
end
structure lx where
 go:Nat->ay->Prop
 nB:Nat->ay->V->ay->Prop
 stop:Nat->ay->Prop
noncomputable def mV(X:aV)(ai:List (ag×Obj))(H:ay)(b:ag):Prop:=
 H b=none/\b≠X.env.locals/\b∉X.ar/\(b∈X.ex\/X.c'.heap.objs.size<=b)/\(∀x c,X.env.cells.lookup x=some c->c≠b)/\∀p∈X.df++ai,p.1≠b
def Inv.z4{X:aV}{ai:List (ag×Obj)}{σ:St}{H aa:ay}{s:aI}{b:ag}(I:Inv X ai σ H s)(U:s.heap.objs.size<=b)(a6:aa b=none):mV X ai aa b:=by
 refine⟨a6,hX (iE I.lt U),I.aaY U,.inr (jd I.k7 U),λx c e z=>?_,λp aC z=>?_⟩
 ·obtain⟨v,q⟩:=I.cell x c e;exact absurd (iE q.lt (by rw[z];exact U)) (Nat.lt_irrefl _)
 ·exact absurd (iE (cY (I.pin p aC).1) (by rw[z];exact U)) (Nat.lt_irrefl _)
structure Turn(P:cA)(w:bZ)(K:a9)(dt:bj)(J:lx)(cE:List ag)(it:ag)(iT:Nat->bE->Prop):Prop where
 mem:it∈cE
 obj:∀i h,iT i h->∀b∈cE,∃o,h.get? b=some o/\∀v,o.data≠.cell v
 keep:∀i h h',iT i h->(∀b∈cE,∀o,h.get? b=some o->h'.get? b=some o)->iT i h'
 item:∀(X:aV),X.prog=P->X.w=w->X.K=K->X.calm=true->∀(i:Nat) (ai:List (ag×Obj)) (s:aI) (σ:St) (H:ay) (E:aj->aI->Prop),Inv X ai σ H s->(∀b∈cE,mV X ai H b)->iT i s.heap->J.go i H ->
  bD (bL P w) X.A (pyNext (.ref it)) (λr s1=>∃u,r=some u /\
   bD (bL P w) X.A (letOwnedTupleGo dt (.ref it) u) (λ_ s2=>∃x aa,Inv X ai σ aa s2/\RelV x u/\J.nB i H x aa/\iT (i+1) s2.heap/\∀b∈cE,aa b=none) E s1) E s
 done:∀(X:aV),X.prog=P->X.w=w->X.K=K->X.calm=true->∀(i:Nat) (ai:List (ag×Obj)) (s:aI) (σ:St) (H:ay) (E:aj->aI->Prop),Inv X ai σ H s->(∀b∈cE,mV X ai H b)->iT i s.heap->J.stop i H ->
  bD (bL P w) X.A (pyNext (.ref it)) (λr s1=>r=none/\Inv X ai σ H s1) E s
 self:∀(A:cH) (i:Nat) (s:aI) (Q:aj->aI->Prop) (E:aj->aI->Prop),iT i s.heap->Q (.ref it) s->bD (bL P w) A (pyIter (.ref it)) Q E s
abbrev TI:=St->ay->(lx->ay->Prop)->Prop
noncomputable def MK(X:aV)(ai:List (ag×Obj))(σ:St)(dt:bj)(R:lx->ay->Prop)(Hk:aj)(s2:aI):Prop:=
 ∃(it:ag) (cE:List ag) (iT:Nat->bE->Prop) (J:lx) (aa:ay),Hk=.ref it/\Inv X ai σ aa s2/\Turn X.prog X.w X.K dt J cE it iT/\iT 0 s2.heap/\(∀b∈cE,mV X ai aa b)/\R J aa
noncomputable def qh(X:aV)(dt iter:bj)(pX:TI):Prop:=
 ∀(ai:List (ag×Obj)) (s:aI) (σ:St) (H:ay) (R:lx->ay->Prop),Inv X ai σ H s->pX σ H R ->
  bD (bL X.prog X.w) X.A (eval iter X.env) (λv s1=>bD (bL X.prog X.w) X.A (pyIter v) (MK X ai σ dt R) X.c8 s1) X.c8 s
def Mi{M:Model}{A:cH}{E:aj->aI->Prop}{s:aI}{dt:bj}{it:ag}{u:aj}{o:Obj}{n:String}{vs:Array aj}{Q:Unit->aI->Prop}(aF:s.heap.get? it=some o)(ax:o.cls=.type n)(hd:o.data=.fields vs)
    (a6:["enumerate","zip","dict_itemiterator","dict_reverseitemiterator","odict_iterator","itertools.zip_longest","itertools.pairwise"].contains n=false) (iM:Q () s):bD M A (letOwnedTupleGo dt (.ref it) u) Q E s:=by
  unfold letOwnedTupleGo;cases dt <;> first
    |exact cX iM
    | (cases u <;> first
        |exact cX iM
        | (refine a8 (wpAny_load aF ?_)
           rw[ax,hd];show bD M A (if (["enumerate","zip","dict_itemiterator","dict_reverseitemiterator","odict_iterator","itertools.zip_longest","itertools.pairwise"].contains n && vs[0]?==some (hg _))=true then _ else _) Q E s;rw[if_neg (by intro h;rw[a6,Bool.false_and] at h;cases h)];exact cX iM))
noncomputable def DN(K:a9)(a:ag):lx:=
 ⟨λi H=>∃xs x,gP K H a xs/\xs[i]?=some x,λi H x aa=>aa=H/\∀xs,gP K H a xs->xs[i]?=some x,λi H=>∃xs,gP K H a xs/\xs.length<=i⟩
noncomputable def DO(K:a9)(a:ag):lx:=
 ⟨λi H=>∃xs x,c3 K H a xs/\xs[i]?=some x,λi H x aa=>aa=H/\∀xs,c3 K H a xs->xs[i]?=some x,λi H=>∃xs,c3 K H a xs/\xs.length<=i⟩
def y2(lo:Int)(n:Nat):lx:=⟨λi _=>i<n,λi H x aa=>aa=H/\x=.int (lo+i),λi _=>n<=i⟩
def ahi{P:cA}{w:bZ}{K:a9}{dt:bj}(a it:ag):Turn P w K dt (DN K a) [it] it (λi h=>h.IsListIter it a i) where
 mem:=by simp
 obj:=λi h st b U=>by
  have e:b=it:=by simpa using U
  subst e;obtain⟨o,e,c,d⟩:=st;exact⟨o,e,λv z=>by rw[d] at z;cases z⟩
 keep:=λi h h' st k=>st.at λo e=>k it (by simp) o e
 item:=by
  intro X gu hw ib ax i ai s σ H E I hf st bl;subst gu hw ib;obtain⟨xs,x,a3,hx⟩:=bl;obtain⟨its,bP,p,aq⟩:=I.list a3;obtain⟨u,bM,c9⟩:=bP.get hx;obtain⟨f0,f1,f2,hL,f4,hv⟩:=hf it (by simp);refine wpAny_pyNext_list_item st p.isList (x:=u) (by simpa using bM) λh' kr lO=>?_;have a_:Inv X ai σ H {s with heap:=h'}:=I.turned (t':=s.toks) (λb o U e=>(lO.2 b U).trans e) f0 f1 hL f4 hv;obtain⟨o,e,c,d⟩:=id kr;exact⟨u,rfl,Mi (s:={s with heap:=h'}) e c d (by decide) ⟨x,H,a_,c9,⟨rfl,λys a7=>by rw[I.aaJ a7 a3];exact hx⟩,kr,λb U=>(hf b U).1⟩⟩
 done:=by
  intro X gu hw ib ax i ai s σ H E I hf st bl;subst gu hw ib;obtain⟨xs,a3,hx⟩:=bl;obtain⟨its,bP,p,aq⟩:=I.list a3;obtain⟨f0,f1,f2,hL,f4,hv⟩:=hf it (by simp);have aB:=bP.length;exact wpAny_pyNext_list_end (I.ok.hd ax) st p.isList (by simp;omega) λh' dZ=>⟨rfl,I.turned (t':=s.toks) (λb o U e=>dZ b o U e) f0 f1 hL f4 hv⟩
 self:=λ_ _ _ _ _ st h=>wpAny_pyIter_listiter st h
def agU{P:cA}{w:bZ}{K:a9}{dt:bj}(a it:ag):Turn P w K dt (DO K a) [it] it (λi h=>h.IsTupleIter it a i) where
 mem:=by simp
 obj:=λi h st b U=>by
  have e:b=it:=by simpa using U
  subst e;obtain⟨o,e,c,d⟩:=st;exact⟨o,e,λv z=>by rw[d] at z;cases z⟩
 keep:=λi h h' st k=>st.at λo e=>k it (by simp) o e
 item:=by
  intro X gu hw ib ax i ai s σ H E I hf st bl;subst gu hw ib;obtain⟨xs,x,a3,hx⟩:=bl;obtain⟨its,bP,p,aq⟩:=I.tuple a3;obtain⟨u,bM,c9⟩:=bP.get hx;obtain⟨f0,f1,f2,hL,f4,hv⟩:=hf it (by simp);refine wpAny_pyNext_tuple_item st (show s.heap.IsTuple a its.toArray from p) (x:=u) (by simpa using bM) λh' kr lO=>?_;have a_:Inv X ai σ H {s with heap:=h'}:=I.turned (t':=s.toks) (λb o U e=>(lO.2 b U).trans e) f0 f1 hL f4 hv;obtain⟨o,e,c,d⟩:=id kr;exact⟨u,rfl,Mi (s:={s with heap:=h'}) e c d (by decide) ⟨x,H,a_,c9,⟨rfl,λys a7=>by rw[I.Bz a7 a3];exact hx⟩,kr,λb U=>(hf b U).1⟩⟩
 done:=by
  intro X gu hw ib ax i ai s σ H E I hf st bl;subst gu hw ib;obtain⟨xs,a3,hx⟩:=bl;obtain⟨its,bP,p,aq⟩:=I.tuple a3;obtain⟨f0,f1,f2,hL,f4,hv⟩:=hf it (by simp);have aB:=bP.length;exact wpAny_pyNext_tuple_end (I.ok.hd ax) st (show s.heap.IsTuple a its.toArray from p) (by simp;omega) λh' dZ=>⟨rfl,I.turned (t':=s.toks) (λb o U e=>dZ b o U e) f0 f1 hL f4 hv⟩
 self:=λ_ _ _ _ _ st h=>wpAny_pyIter_tupleiter st h
def agV{P:cA}{w:bZ}{K:a9}{dt:bj}(it:ag)(lo:Int)(n:Nat):Turn P w K dt (y2 lo n) [it] it (λi h=>IsRangeIter h it (lo+(i:Nat)*1) ((n:Int) - (i:Nat)) 1) where
 mem:=by simp
 obj:=λi h st b U=>by
  have e:b=it:=by simpa using U
  subst e;exact⟨_,st,λv z=>by
   have jG:Data.fields _=Data.cell v:=z;cases jG⟩
 keep:=λi h h' st k=>k it (by simp) _ st
 item:=by
  intro X gu hw ib ax i ai s σ H E I hf st bl;subst gu hw ib;obtain⟨f0,f1,f2,hL,f4,hv⟩:=hf it (by simp);have W:=Walks.range (prog:=X.prog) (w:=X.w) (I.ok.hd ax) it lo 1 n;refine W.item i s _ _ bl st λv h' tk br kr bV=>?_;obtain⟨t,rfl⟩:=br;have a_:Inv X ai σ H {s with heap:=h',toks:=tk}:=I.turned (λb o U e=>bV b o (by simpa using U) e) f0 f1 hL f4 hv;refine⟨_,rfl,Mi (s:={s with heap:=h',toks:=tk}) (n:="range_iterator") kr rfl rfl (by decide) ⟨.int (lo+i),H,a_,⟨t,?_⟩,⟨rfl,rfl⟩,kr,λb U=>(hf b U).1⟩⟩;rw[Int.mul_one]
 done:=by
  intro X gu hw ib ax i ai s σ H E I hf st bl;subst gu hw ib;obtain⟨f0,f1,f2,hL,f4,hv⟩:=hf it (by simp);exact wpAny_pyNext_range_end (I.ok.hd ax) st (by have:n<=i:=bl;omega) λh' dZ=>⟨rfl,I.turned (t':=s.toks) (λb o U e=>dZ b o U e) f0 f1 hL f4 hv⟩
 self:=λ_ _ _ _ _ st h=>wpAny_pyIter_rangeiter st h
end bh
namespace bh
open PySem PySem.Spec PyProof.Rows
section
variable {X:aV}{dt:bj}
def aik{ai:List (ag×Obj)}{σ:St}{H:ay}{s:aI}{R:lx->ay->Prop}{E:aj->aI->Prop}{lo bc:Int}{t u v:Tok}{tk:Nat}(I:Inv X ai σ H s)(af:-(2 ^ 62)<=lo)(ak:lo<2 ^ 62)(bB:-(2 ^ 62)<=bc)(c1:bc<2 ^ 62)
  (q:R (y2 lo (bc - lo).toNat) H):bD (bL X.prog X.w) X.A (pyIter (.ref s.heap.objs.size)) (MK X ai σ dt R) E {s with heap:=s.heap.push {cls:=.type "range",data:=.fields #[.int lo t,.int bc u,.int 1 v]},toks:=tk}:=by
 refine wpAny_pyIter_range (IsRange.new ..) (small_one af ak bB c1) ?_
 have a_:Inv X ai σ H {s with heap:=s.heap.push {cls:=.type "range",data:=.fields #[.int lo t,.int bc u,.int 1 v]},toks:=tk}:=I.kept λb o e=>c2 _ e;refine⟨(s.heap.push {cls:=.type "range",data:=.fields #[.int lo t,.int bc u,.int 1 v]}).objs.size,[(s.heap.push {cls:=.type "range",data:=.fields #[.int lo t,.int bc u,.int 1 v]}).objs.size],_,_,H,rfl,
  a_.kept (t':=tk) λb o e=>c2 _ e,agV _ lo (bc - lo).toNat,?_,λb U=>?_,q⟩
 ·have aD:lo+((0:Nat):Int)*1=lo:=by simp
  have aO:(((bc - lo).toNat:Nat):Int) - ((0:Nat):Int)=Builtin.Range.rangeSize lo bc 1:=by rw[rangeSize_one];split <;> omega
  show IsRangeIter _ _ (lo+((0:Nat):Int)*1) ((((bc - lo).toNat:Nat):Int) - ((0:Nat):Int)) 1
  rw[aD,aO];exact gY _ rfl
 ·have e:b=(s.heap.push {cls:=.type "range",data:=.fields #[.int lo t,.int bc u,.int 1 v]}).objs.size:=by simpa using U
  subst e;exact a_.z4 (el _) (a_.bO.fresh (el _))
def alb(cF:fS):TI:=λσ H R=>cF σ H λvs H1=>∃j:Int,vs=[.int j]/\-(2 ^ 62)<=j/\j<2 ^ 62/\R (y2 0 j.toNat) H1
def ahv{a:bj}{cF:fS}{p pos:Pos}(bl:ei X "range")(hm:X.mg "range"=none)(av:f5 X [a] cF)(aA:bo [a] X.env=[(false,eval a X.env)]:=by rfl):qh X dt (.Call (.Name "range" p) [a] [] pos) (alb cF):=by
 intro ai s σ H R I h;refine Call_ (tL I bl hm boot_range (uU (cN (av pos ai s σ H _ I h) λus s1 ⟨vs,H1,a_,bg,aM⟩=>?_) aA rfl));obtain⟨j,e,aM,bb,q⟩:=aM;subst e;cases bg with
|cons r amt=>
  cases amt
  obtain⟨t,rfl⟩:=r;exact call_range_1 (aik a_ (by omega) (by omega) aM bb (by simpa using q))
noncomputable def ae7(pX:TI)(g:nX)(c6:fT):fT:=λD σ H=>pX σ H λJ H1=>∃W:Nat->Nat->St->ay->Prop,(∃m,W 0 m σ H1)/\∀i m σ H,W i m σ H ->
 (J.stop i H/\D.bK σ H)\/(J.go i H/\∃N:St->ay->Prop,(∀cg aa,N cg aa->∃ov,ov<m/\W (i+1) ov cg aa)/\∀x aa,J.nB i H x aa->g x σ aa λtQ bk=>c6 {D with bK:=N,dN:=N,gp:=D.bK} tQ bk)
def yB(cE:List ag)(h:bE):List (ag×Obj):=cE.filterMap λb=>(h.get? b).map λo=>(b,o)
def Cy{cE:List ag}{h:bE}{b:ag}{o:Obj}(U:b∈cE)(e:h.get? b=some o):(b,o)∈yB cE h:=List.mem_filterMap.mpr ⟨b,U,by rw[e];rfl⟩
def ahA{cE:List ag}{h:bE}{p:ag×Obj}(aC:p∈yB cE h):p.1∈cE/\h.get? p.1=some p.2:=by
 obtain⟨b,U,e⟩:=List.mem_filterMap.mp aC;cases q:h.get? b with
|none=>rw[q] at e;cases e
|some o=>
  rw[q] at e;have bS:(b,o)=p:=ef e;subst bS;exact⟨U,q⟩
def Inv.pinned{ai:List (ag×Obj)}{σ:St}{H:ay}{s:aI}{cE:List ag}(I:Inv X ai σ H s)(hf:∀b∈cE,mV X ai H b)(aF:∀b∈cE,∃o,s.heap.get? b=some o/\∀v,o.data≠.cell v):Inv X (ai++yB cE s.heap) σ H s:=
 I.Pa λp aC=>(jD.mp aC).elim (λz=>I.pin p (oG _ z)) λz=>by
  obtain⟨U,e⟩:=ahA z;obtain⟨f0,f1,f2,_⟩:=hf p.1 U;obtain⟨o,bS,d⟩:=aF p.1 U;rw[e] at bS;cases bS;exact⟨e,f0,f1,f2,d⟩
def Inv.BA{ai pl:List (ag×Obj)}{σ:St}{H:ay}{s:aI}(I:Inv X (ai++pl) σ H s):Inv X ai σ H s:=I.Pa λp aC=>I.pin p (oG _ (List.mem_append_left _ aC))
def akc{iter:bj}{body:List Stmt}{pX:TI}{g:nX}{c6:fT}{pos:Pos}(aC:PassesOwn (bL X.prog X.w) X.A X.env X.c8)(ax:X.calm=true)(bc:qh X dt iter pX)(bl:rW X dt g)(U:fF X body c6)
  (aA:∀x,u3 iter X.env x=pure x:=by intro _;rfl):hG X (.For dt iter body [] pos) (ae7 pX g c6):=by
 intro ai s σ H D I h;refine wpAny_For (cN (bc ai s σ H _ I h) λv s1 af=>cN af λHk s2 ak=>?_) aA;obtain⟨it,cE,iT,J,bk,e,cB,T,ks,f2,W,⟨m0,uO⟩,turn⟩:=ak;subst e;have sX:∀{aa:ay},(∀b∈cE,aa b=none)->∀b∈cE,mV X ai aa b:=λa6 b U=>⟨a6 b U,(f2 b U).2⟩;refine codeAny_forLoop_any (λn s'=>∃i cg aa,Inv X ai cg aa s'/\iT i s'.heap/\(∀b∈cE,aa b=none)/\W i n cg aa) ?_ m0 ⟨0,σ,bk,cB,ks,λb U=>(f2 b U).1,uO⟩;rintro n s3 ⟨i,l7,gk,eL,xn,wk,BC⟩;rcases turn i n l7 gk BC with ⟨stop,sQ⟩|⟨go,N,eB,step⟩
 ·refine wpAny_passesOwn aC (cN (T.done X rfl rfl rfl ax i ai s3 l7 gk X.c8 eL (sX wk) xn stop) λr s4 ⟨au,mZ⟩=>?_)
  subst au;exact wpAny_execs_nil ⟨l7,gk,mZ,sQ⟩
 ·refine wpAny_passesOwn aC (cN (T.item X rfl rfl rfl ax i ai s3 l7 gk X.c8 eL (sX wk) xn go) λr s4 ⟨u,au,c1⟩=>?_)
  subst au;refine wpAny_passesOwn aC (cN c1 λ_ s5 ⟨x,kb,rR,xe,JT,sW,F3⟩=>?_);have DJ:=rR.pinned (sX F3) (T.obj _ _ sW);refine wpAny_passesOwn aC (cN (bl _ s5 l7 kb x u _ DJ xe (step x kb JT)) λ_ gf ⟨o7,tU,v3,qO⟩=>?_);refine wpAny_passesOwn aC (cN (U _ gf o7 tU _ v3 qO) λf dJ qP=>?_);have again:∀{kJ:St} {hn:ay},Inv X (ai++yB cE s5.heap) kJ hn dJ->N kJ hn->∃m,m<n/\∃i cg aa,Inv X ai cg aa dJ/\iT i dJ.heap/\(∀b∈cE,aa b=none)/\W i m cg aa:=λ{kJ hn} i5 w6=>by
   obtain⟨ov,hm,w7⟩:=eB kJ hn w6;refine⟨ov,hm,i+1,kJ,hn,i5.BA,T.keep _ _ _ sW λb U o e=>(i5.pin (b,o) (oG _ (oG _ (Cy U e)))).1,λb U=>?_,w7⟩;obtain⟨o,e,d⟩:=T.obj _ _ sW b U;exact (i5.pin (b,o) (oG _ (oG _ (Cy U e)))).2.1
  cases f with
  |next=>obtain⟨kJ,hn,i5,w6⟩:=qP;exact again i5 w6
  |cont=>obtain⟨kJ,hn,i5,w6⟩:=qP;exact again i5 w6
  |brk=>obtain⟨kJ,hn,i5,qP⟩:=qP;exact⟨kJ,hn,i5.BA,qP⟩
  |ret v=>obtain⟨uQ,kJ,hn,i5,sR,qP⟩:=qP;exact⟨uQ,kJ,hn,i5.BA,sR,qP⟩
end
end bh
namespace bh
open PySem PySem.Spec PyProof.Rows
abbrev gE:=V->V->ay->dj->Prop
noncomputable def e5(X:aV)(f:aj->aj->Sem aj)(r:gE):Prop:=
 ∀(ai:List (ag×Obj)) (s:aI) (σ:St) (H:ay) (x y:V) (v u:aj) (Q:dj),Inv X ai σ H s->RelV x v->RelV y u->r x y H Q ->
  bD (bL X.prog X.w) X.A (f v u) (h3 X ai σ Q) X.c8 s
noncomputable def DW(X:aV)(f:aj->Sem aj)(r:V->ay->dj->Prop):Prop:=
 ∀(ai:List (ag×Obj)) (s:aI) (σ:St) (H:ay) (x:V) (v:aj) (Q:dj),Inv X ai σ H s->RelV x v->r x H Q ->
  bD (bL X.prog X.w) X.A (f v) (h3 X ai σ Q) X.c8 s
noncomputable def lq(X:aV)(f:aj)(r:List V->ay->dj->Prop):Prop:=
 ∀(ai:List (ag×Obj)) (s:aI) (σ:St) (H:ay) (xs:List V) (us:List aj) (Q:dj),Inv X ai σ H s->Vals xs us->r xs H Q ->
  bD (bL X.prog X.w) X.A (call f us) (h3 X ai σ Q) X.c8 s
noncomputable def VY(X:aV)(r:V->ay->(Bool->ay->Prop)->Prop):Prop:=
 ∀(ai:List (ag×Obj)) (s:aI) (σ:St) (H:ay) (x:V) (v:aj) (Q:Bool->ay->Prop),Inv X ai σ H s->RelV x v->r x H Q ->
  bD (bL X.prog X.w) X.A (truthy v) (y6 X ai σ Q) X.c8 s
def uK(r:gE)(cF c6:TE):TE:=λσ H Q=>cF σ H λx H1=>c6 σ H1 λy bk=>r x y bk Q
def afe(r:V->ay->dj->Prop)(cF:TE):TE:=λσ H Q=>cF σ H λx H1=>r x H1 Q
def Bf(C:Int->Int->Prop)(g:Int->Int->V):gE:=λx y H Q=>∃i j,x=.int i/\y=.int j/\C i j/\Q (g i j) H
def mw(g:Int->Int->V):gE:=λx y H Q=>∃i j,x=.int i/\y=.int j/\Q (g i j) H
def Ph(g:Int->V):V->ay->dj->Prop:=λx H Q=>∃i,x=.int i/\Q (g i) H
section
variable {X:aV}{a b c:bj}{cF c6 qX:TE}{pos:Pos}
def EE(av:bQ X a cF)(U:bQ X b c6){ai:List (ag×Obj)}{s:aI}{σ:St}{H:ay}{R:V->V->ay->Prop}(I:Inv X ai σ H s)
  (h:cF σ H λx H1=>c6 σ H1 λy bk=>R x y bk) {Q:aj->aI->Prop} {f:aj->aj->Sem aj}
  (hf:∀v u s2 x y bk,Inv X ai σ bk s2->RelV x v->RelV y u->R x y bk->bD (bL X.prog X.w) X.A (f v u) Q X.c8 s2):
  bD (bL X.prog X.w) X.A (eval a X.env) (λv cU=>bD (bL X.prog X.w) X.A (eval b X.env) (λu jc=>bD (bL X.prog X.w) X.A (f v u) Q X.c8 jc) X.c8 cU) X.c8 s:=by
 refine cN (av ai s σ H _ I h) λv s1 ⟨x,H1,a_,bg,aM⟩=>?_
 refine cN (U ai s1 σ H1 _ a_ aM) λu s2 ⟨y,bk,cB,b5,bb⟩=>?_
 exact hf v u s2 x y bk cB bg b5 bb
def yL{op:Operator}{r:gE}(aF:e5 X (nA op) r)(av:bQ X a cF)(U:bQ X b c6):bQ X (.BinOp a op b pos) (uK r cF c6):=by
 intro ai s σ H Q I h;exact wpAny_BinOp (EE av U I h λv u s2 x y bk cB aW bx q=>aF ai s2 σ bk x y v u Q cB aW bx q)
def ak5{op:UnaryOp}{r:V->ay->dj->Prop}(aF:DW X (unaryOp op) r)(av:bQ X a cF):bQ X (.UnaryOp op a pos) (afe r cF):=by
 intro ai s σ H Q I h;exact UnaryOp_ (cN (av ai s σ H _ I h) λv s1 ⟨x,H1,a_,bg,aM⟩=>aF ai s1 σ H1 x v Q a_ bg aM)
def I'{f:aj->aj->Sem aj}{C:Int->Int->Prop}{g:Int->Int->Int}
  (rule:∀(i j:Int) (t u:Tok) (s:aI) (Q:aj->aI->Prop) (E:aj->aI->Prop),C i j->Q (.int (g i j) s.toks) {s with toks:=s.toks+1}->bD (bL X.prog X.w) X.A (f (.int i t) (.int j u)) Q E s):
  e5 X f (Bf C λi j=>.int (g i j)):=by
 intro ai s σ H x y v u Q I aW bx h;obtain⟨i,j,rfl,rfl,ax,q⟩:=h;obtain⟨t,rfl⟩:=aW;obtain⟨t',rfl⟩:=bx;exact rule i j t t' s _ _ ax ⟨.int (g i j),H,I.tok _,⟨_,rfl⟩,q⟩
def O8{f:aj->aj->Sem aj}{g:Int->Int->Int}
  (rule:∀(i j:Int) (t u:Tok) (s:aI) (Q:aj->aI->Prop) (E:aj->aI->Prop),Q (.int (g i j) s.toks) {s with toks:=s.toks+1}->bD (bL X.prog X.w) X.A (f (.int i t) (.int j u)) Q E s):
  e5 X f (mw λi j=>.int (g i j)):=by
 intro ai s σ H x y v u Q I aW bx h;obtain⟨i,j,rfl,rfl,q⟩:=h;obtain⟨t,rfl⟩:=aW;obtain⟨t',rfl⟩:=bx;exact rule i j t t' s _ _ ⟨.int (g i j),H,I.tok _,⟨_,rfl⟩,q⟩
def Bb{f:aj->aj->Sem aj}{g:Int->Int->Bool}
  (rule:∀(i j:Int) (t u:Tok) (s:aI) (Q:aj->aI->Prop) (E:aj->aI->Prop),Q (.bool (g i j)) s->bD (bL X.prog X.w) X.A (f (.int i t) (.int j u)) Q E s):
  e5 X f (mw λi j=>.c4 (g i j)):=by
 intro ai s σ H x y v u Q I aW bx h;obtain⟨i,j,rfl,rfl,q⟩:=h;obtain⟨t,rfl⟩:=aW;obtain⟨t',rfl⟩:=bx;exact rule i j t t' s _ _ ⟨.c4 (g i j),H,I,rfl,q⟩
def Uk(i j:Int):Prop:=0<j/\j<1073741824
def yW(i j:Int):Prop:=(-(2 ^ 64)<i/\i<2 ^ 64)\/(-(2 ^ 64)<j/\j<2 ^ 64)
def yW.ok{i j:Int}(h:yW i j):IntMulOk i j:=by
 rcases h with ⟨af,ak⟩|⟨af,ak⟩
 ·exact .of_left (intBits_le_64 af ak)
 ·exact .of_right (intBits_le_64 af ak)
def akn:e5 X (nA .Add) (mw λi j=>.int (i+j)):=O8 λ_ _ _ _ _ _ _ q=>add_int q
def akk:e5 X (nA .Sub) (mw λi j=>.int (i - j)):=O8 λ_ _ _ _ _ _ _ q=>sub_int q
def akl:e5 X (nA .Mult) (Bf yW λi j=>.int (i*j)):=I' λ_ _ _ _ _ _ _ ax q=>mul_int q ax.ok
def ajk:e5 X (nA .FloorDiv) (Bf Uk λi j=>.int (i / j)):=I' λi j _ _ _ _ _ ax q=>by
 have af:(0:Int)<j:=ax.1;have ak:j<1073741824:=ax.2;exact floordiv_int (by omega) (by rw[Int.fdiv_eq_ediv_of_nonneg i (by omega)];exact q) (.inl (PyProof.noPylong_small (by omega)))
def akm:e5 X (nA .Mod) (Bf (λ_ j=>0<j) λi j=>.int (i % j)):=I' λi j _ _ _ _ _ ax q=>by
 have af:(0:Int)<j:=ax;exact mod_int' (by omega) (by rw[Int.fmod_eq_emod_of_nonneg i (by omega)];exact q)
def afz{f:aj->Sem aj}{g:Int->Int}
  (rule:∀(i:Int) (t:Tok) (s:aI) (Q:aj->aI->Prop) (E:aj->aI->Prop),Q (.int (g i) s.toks) {s with toks:=s.toks+1}->bD (bL X.prog X.w) X.A (f (.int i t)) Q E s):
  DW X f (Ph λi=>.int (g i)):=by
 intro ai s σ H x v Q I aW h;obtain⟨i,rfl,q⟩:=h;obtain⟨t,rfl⟩:=aW;exact rule i t s _ _ ⟨.int (g i),H,I.tok _,⟨_,rfl⟩,q⟩
def ajP:DW X (unaryOp .USub) (Ph λi=>.int (-i)):=afz λ_ _ _ _ _ q=>neg_int q
end
section
variable {X:aV}{a b c:bj}{cF c6 qX:TE}{pos:Pos}
def Dk{ai:List (ag×Obj)}{σ:St}{H:ay}{s:aI}{Q:dj}{k jt:Bool}(I:Inv X ai σ H s)(q:Q (.c4 k) H)(e:k=jt):h3 X ai σ Q (.bool jt) s:=by
 subst e;exact⟨.c4 k,H,I,rfl,q⟩
def yM:e5 X (iF .Lt) (mw λi j=>.c4 (decide (i<j))):=Bb λ_ _ _ _ _ _ _ q=>lt_int q
def Mh:e5 X (iF .LtE) (mw λi j=>.c4 (decide (i<=j))):=Bb λ_ _ _ _ _ _ _ q=>le_int q
def yN:e5 X (iF .Gt) (mw λi j=>.c4 (decide (j<i))):=Bb λ_ _ _ _ _ _ _ q=>gt_int q
def Ud:e5 X (iF .GtE) (mw λi j=>.c4 (decide (j<=i))):=Bb λ_ _ _ _ _ _ _ q=>ge_int q
def yc:e5 X (iF .Lt) (λx y H Q=>∃i j,x=.str i/\y=.str j/\Q (.c4 (decide (i.cps.toList<j.cps.toList))) H):=by
 intro ai s σ H x y v u Q I aW bx h;obtain⟨i,j,rfl,rfl,q⟩:=h;obtain⟨t,rfl⟩:=aW;obtain⟨t',rfl⟩:=bx;exact lt_str (Dk I q rfl)
def e5.or{f:aj->aj->Sem aj}{r cq:gE}(h:e5 X f r)(h':e5 X f cq):e5 X f (λx y H Q=>r x y H Q\/cq x y H Q):=by
 intro ai s σ H x y v u Q I aW bx q;rcases q with q|q
 ·exact h ai s σ H x y v u Q I aW bx q
 ·exact h' ai s σ H x y v u Q I aW bx q
def L1(b:bj){op:CmpOp}(h:op≠.In:=by decide)(ak:op≠.NotIn:=by decide):oM op b=false:=by
 have aD:(op==CmpOp.In)=false:=by cases op <;> first|rfl|exact absurd rfl h
 have aO:(op==CmpOp.NotIn)=false:=by cases op <;> first|rfl|exact absurd rfl ak
 cases b <;> simp[oM,aD,aO]
def ajh{op:CmpOp}{r:gE}(aF:e5 X (iF op) r)(av:bQ X a cF)(U:bQ X b c6)(hm:oM op b=false):bQ X (.Compare a [op] [b] pos) (uK r cF c6):=by
 intro ai s σ H Q I h;exact wpAny_Compare1 (EE av U I h λv u s2 x y bk cB aW bx q=>aF ai s2 σ bk x y v u Q cB aW bx q) hm
def akJ(t:TE):TT:=λσ H Q=>t σ H λx aa=>∃k,x=.c4 k/\Q k aa
def SM{op:CmpOp}{r:gE}(aF:e5 X (iF op) r)(av:bQ X a cF)(U:bQ X b c6)(hm:oM op b=false):ir X (.Compare a [op] [b] pos) (akJ (uK r cF c6)):=by
 intro ai s σ H Q I h;refine wpAny_isTrue_Compare1 (cN (av ai s σ H _ I h) λv s1 ⟨x,H1,a_,bg,aM⟩=>cN (U ai s1 σ H1 _ a_ aM) λu s2 ⟨y,bk,cB,b5,bb⟩=>
  cN (aF ai s2 σ bk x y v u _ cB bg b5 bb) λc s3 ⟨z,gk,eL,ko,k,e,dg⟩=>?_) hm
 subst e;cases ko;exact u2 ⟨gk,eL,dg⟩
noncomputable def MM(K:a9)(x:V)(H:ay)(k:Bool):Prop:=
 match x with
|.e0=>k=false
|.c4 b=>k=b
|.int i=>k=(i != 0)
|.str y=>y.length<=cG/\k=((y.length:Int) != 0)
|.r4 y=>y.size<=cG/\k=((y.size:Int) != 0)
|.ref p=>(∃xs,gP K H p xs/\k=!xs.isEmpty)\/(∃xs,c3 K H p xs/\k=!xs.isEmpty)\/∃kvs,H p=some (.fo kvs)/\k=!kvs.isEmpty
|_=>False
def ag7{eE:Type}{kvs:List (eE×V)}{vs:List (eE×aj)}(r:g7 kvs vs):(!vs.isEmpty)=!kvs.isEmpty:=by
 cases r <;> rfl
def Rb{xs:List V}{its:List aj}(r:Vals xs its):(!its.toArray.isEmpty)=!xs.isEmpty:=by
 cases r <;> simp
def vM:(cG:Nat)<2 ^ 63:=by rw[jg];decide
def ajQ:VY X (λx H Q=>∃k,MM X.K x H k/\Q k H):=by
 intro ai s σ H x v Q I aW h;obtain⟨k,e,q⟩:=h;have aB:=vM;have aA:cG=16777216:=jg;cases x with
|e0=>
  cases aW
  have bS:k=false:=e;subst bS;exact truthy_none ⟨H,I,q⟩
|c4 b=>
  cases aW
  have bS:k=b:=e;subst bS;exact u2 ⟨H,I,q⟩
|int i=>
  obtain⟨t,rfl⟩:=aW;have bS:k=(i != 0):=e;subst bS;exact PySem.P.truthy_int ⟨H,I,q⟩
|str y=>
  obtain⟨t,rfl⟩:=aW;obtain⟨a7,bS⟩:y.length<=cG/\k=((y.length:Int) != 0):=e;subst bS;exact PySem.P.truthy_str (by omega) ⟨H,I.tok _,q⟩
|r4 y=>
  obtain⟨t,rfl⟩:=aW;obtain⟨a7,bS⟩:y.size<=cG/\k=((y.size:Int) != 0):=e;subst bS;exact PySem.W.truthy_bytes (by omega) ⟨H,I.tok _,q⟩
|ref p=>
  cases aW
  have bS:(∃xs,gP X.K H p xs/\k=!xs.isEmpty)\/(∃xs,c3 X.K H p xs/\k=!xs.isEmpty)\/∃kvs,H p=some (.fo kvs)/\k=!kvs.isEmpty:=e;rcases bS with ⟨xs,hx,bS⟩|⟨xs,hx,bS⟩|⟨kvs,hx,bS⟩
  ·subst bS;obtain⟨its,r,pl,aq⟩:=I.list hx;have hlen:=r.length;exact wpAny_truthy_list pl.isList (by simp only[eQ];omega) ⟨H,I.tok _,by rw[Rb r];exact q⟩
  ·subst bS;obtain⟨its,r,pl,aq⟩:=I.tuple hx;have hlen:=r.length;exact truthy_tuple pl (by simp only[eQ];omega) ⟨H,I.tok _,by rw[Rb r];exact q⟩
  ·subst bS;obtain⟨aq,e9,vs,r,m⟩:kvs.length<=cG/\(p==sysModules)=false/\∃vs,g7 kvs vs/\s.heap.DictOf (hh X.prog X.w) p vs:=I.bO p _ hx;have hlen:kvs.length=vs.length:=Paired.length r;exact wpAny_truthy_dict e9 m (by omega) ⟨H,I.tok _,by rw[ag7 r];exact q⟩
|_=>exact (show False from e).elim
def ail(av:bQ X a cF)(he:∀whole,isTrue a X.env whole=(do let v <- whole;standAt a.pos;holding [v] (truthy v))):
  ir X a (λσ H Q=>cF σ H λx aa=>∃k,MM X.K x aa k/\Q k aa):=by
 intro ai s σ H Q I h;exact isTrue_plain (cN (av ai s σ H _ I h) λv s1 ⟨x,H1,a_,bg,aM⟩=>ajQ ai s1 σ H1 x v Q a_ bg aM) (he _)
def ag2:e5 X (nA .Add) (λx y H Q=>∃i j,x=.str i/\y=.str j/\i.length+j.length<=cG/\Q (.str (i++j)) H):=by
 intro ai s σ H x y v u Q I aW bx h;obtain⟨i,j,rfl,rfl,aq,q⟩:=h;obtain⟨t,rfl⟩:=aW;obtain⟨t',rfl⟩:=bx;exact add_str (λt' tk=>⟨.str (i++j),H,I.tok _,⟨_,rfl⟩,q⟩) aq
def vals1{x:V}{us:List aj}(r:Vals [x] us):∃u,us=[u]/\RelV x u:=by
 cases r with
|cons bg b5=>cases b5;exact⟨_,rfl,bg⟩
def vals2{x y:V}{us:List aj}(r:Vals [x,y] us):∃u gA,us=[u,gA]/\RelV x u/\RelV y gA:=by
 cases r with
|cons bg b5=>
  cases b5 with
  |cons ko oy=>cases oy;exact⟨_,_,rfl,bg,ko⟩
def ahV(ax:X.calm=true):lq X (.builtin "max") (λxs H Q=>∃i j,xs=[.int i,.int j]/\Q (.int (if j > i then j else i)) H):=by
 intro ai s σ H xs us Q I r h;obtain⟨i,j,rfl,q⟩:=h;obtain⟨u,gA,rfl,⟨t,rfl⟩,⟨t',rfl⟩⟩:=vals2 r;refine max_two_ints (I.ok.hd ax) λh' tk k=>⟨_,H,I.kept k,?_,q⟩;by_cases bR:j > i
 ·rw[if_pos bR,if_pos bR];exact⟨_,rfl⟩
 ·rw[if_neg bR,if_neg bR];exact⟨_,rfl⟩
end
end bh
namespace bh
open PySem PySem.Spec PyProof.Rows
structure rT(h:bE)(x ba C:ag)(en:Str->Option aj):Prop where
 obj:h.get? x=some (q1 C ba)
 ns:h.Ns1 ba en
 ne:ba≠x
def ahD{h:bE}{ba:ag}{en:Str->Option aj}(n:h.Ns1 ba en):∃ec,h.get? ba=some ec/\∀name,PySem.W.lookIn name ec=some (en name):=by
 obtain⟨o,es,ep,aF,hd,aL,_,hm⟩:=n;refine⟨o,aF,λname=>?_⟩;have e:=hm name;unfold nsFind findBy at e;rw[<- Array.find?_toList] at e;unfold PySem.W.lookIn;rw[hd];dsimp only;split
 ·rename_i y q
  rw[q] at e;exact congrArg some e
 ·rename_i q
  rw[q] at e;have a:es.toList.any (·.refKey)=false:=by
   rw[List.any_eq_false];intro y a7;obtain⟨z,t,ZQ⟩:=aL y (Array.mem_toList_iff.mp a7);simp[DictEntry.refKey,ZQ]
  have jR:¬es.toList.any (·.refKey)=true:=by rw[a];exact BF
  rw[if_neg jR];exact congrArg some e
def rT.look{h:bE}{x ba C:ag}{en:Str->Option aj}(I:rT h x ba C en):∃ec,PySem.W.InstAt h x (q1 C ba) C (some ec)/\∀name,PySem.W.lookIn name ec=some (en name):=
 let ⟨ec,aF,aB⟩:=ahD I.ns
 ⟨ec,⟨I.obj,rfl,rfl,aF⟩,aB⟩
section
variable {prog:cA}{w:bZ}{A:cH}{E:aj->aI->Prop}{s:aI}{K:a9}{x ba C f:ag}{en:Str->Option aj}{name:Str}{v:aj}
def get_map{expr:Bool}{Q:aj->aI->Prop}(X:K.In s.heap)(I:rT s.heap x ba C en)(bl:PySem.W.plainGet K C name=true)(cM:PySem.W.hasDictIn K C=true)
  (av:j3 K (.ref C) name=some none) (br:en name=some v) (sx:PySem.W.handedIn v=true) (h:Q v {s with toks:=s.toks+1}):
  bD (bL prog w) A (getAttr (.ref x) name expr) Q E s:=by
 obtain⟨ec,J,aB⟩:=I.look;exact PySem.W.get_value X J (PySem.W.plainGet_of bl).1 (PySem.W.findObj_own cM av rfl (by rw[aB,br])) sx h
def aiJ{pl:Sem Bool}{Q:aj×List aj->aI->Prop}(X:K.In s.heap)(I:rT s.heap x ba C en)(bl:PySem.W.plainGet K C name=true)
  (hf:j3 K (.ref C) name=some (some (.ref f))) (aX:PySem.W.isFn K (.ref f)=true) (br:en name=none) (h:Q (.ref f,[.ref x]) s):
  bD (bL prog w) A (getMethod (.ref x) name pl) Q E s:=by
 obtain⟨ec,J,aB⟩:=I.look;exact PySem.W.method_fn X J (PySem.W.plainGet_of bl).1 (PySem.W.plainGet_of bl).2 hf (beq_iff_eq.mp aX) (by show (PySem.W.lookIn name ec).map (·.isSome)=some false;rw[aB,br];rfl) h
def aiZ{ns:List Str}{Q:Unit->aI->Prop}(X:K.In s.heap)(I:rT s.heap x ba C en)
  (aA:j3 K (.ref C) "__setattr__"=some (some (.builtin "object.__setattr__"))) (aC:PySem.W.plainOver K C=true) (aX:PySem.W.takerIn K C name=some none) (cM:PySem.W.hasDictIn K C=true)
  (hw:PySem.Within en ns) (hsz:ns.length<=cG)
  (h:∀h',rT h' x ba C (λy=>if y=name then some v else en y)->Heap.SameBut ba s.heap h'->Q () {s with heap:=h',toks:=s.toks+2}):
  bD (bL prog w) A (setAttr (.ref x) name v) Q E s:=by
 obtain⟨ec,J,aB⟩:=I.look;refine PySem.W.set_plain X J aA (PySem.W.osa_open (s:={s with toks:=s.toks+1}) (r:=none) X J aC aX λb=>?_);obtain⟨cd,ax,Gg⟩:=PySem.W.any_some cM;have hx:s.heap.get? x=some ⟨.ref C,some ba,.plain,#[]⟩:=I.obj;refine a8 (cX (a8 (a8 (wpAny_loadPart hx (a8 (PySem.W.Looks.here (s:={s with toks:=s.toks+1}) (PySem.W.looks_clsIn X ax) ?_))))));rw[Gg];refine cX (a:=some ba) (a8 (cX (a8 ?_)));refine wpAny_nsSet1 (s:={s with toks:=s.toks+1}) I.ns λh' Aa hN=>?_;obtain⟨oD,alu,als,Z1,ZD,Zx⟩:=Aa.count (PySem.Within.cons name v hw);refine a8 (wpAny_lookBehind Z1 (by rw[ZD];exact pastItsLine_dict (jd Zx (by rw[eJ];omega))) ?_);exact cX (h _ ⟨(hN.2 _ (Ne.symm I.ne)).trans I.obj,Aa,I.ne⟩ hN)
def aiA{R:Result->aI->Prop}{vs:List aj}{kw:List (Str×aj)}(X:K.In s.heap)(hm:PySem.W.makesIn K C=true)
  (bc:j3 K (.ref C) "__init__"=some (some (.ref f))) (hf:PySem.W.typeIn K (.ref f)=some (.type "function"))
  (h:iG (bL prog w) (A.under (.builtin "type.__call__" ⟨.ref C::vs,kw⟩)) (.call (.ref f) ⟨.ref (s.heap.objs.size+1)::vs,kw⟩) (PySem.W.InitBack (s.heap.objs.size+1) R)
   {s with heap:=(s.heap.push pZ).push (q1 C s.heap.objs.size)}):
  iG (bL prog w) A (.call (.ref C) ⟨vs,kw⟩) R s:=by
 obtain⟨cM,g,d,t,os⟩:=s;exact PySem.W.make_core (PySem.W.makes_of X hm) (PySem.W.looks_findIn X bc) (λself=>PySem.W.bind_fn X self hf) (.inl rfl) h
end
def gW(f:Str)(v:V):List (Str×V)->List (Str×V)
  | []=>[(f,v)]
  | (g,x)::r=>if g=f then (g,v)::r else (g,x)::gW f v r
theorem QP(f g:Str)(v:V):∀ar:List (Str×V),(gW f v ar).lookup g=if g=f then some v else ar.lookup g
  | []=>by
    show jE g [(f,v)]=_
    by_cases h:g=f
    · have U:(g==f)=true:=beq_iff_eq.mpr h
      simp only[jE,U,if_pos h]
    · have U:(g==f)=false:=beq_eq_false_iff_ne.mpr h
      simp only[jE,U,if_neg h]
  | (k,x)::r=>by
    have b8:=QP f g v r;rw[show gW f v ((k,x)::r)=(if k=f then (k,v)::r else (k,x)::gW f v r) from rfl];by_cases aL:k=f
    · rw[if_pos aL]
      by_cases h:g=k
      · have U:(g==k)=true:=beq_iff_eq.mpr h
        simp only[jE,U,if_pos (h.trans aL)]
      · have U:(g==k)=false:=beq_eq_false_iff_ne.mpr h
        simp only[jE,U,if_neg (λe:g=f=>h (e.trans aL.symm))]
    · rw[if_neg aL]
      by_cases h:g=k
      · have U:(g==k)=true:=beq_iff_eq.mpr h
        simp only[jE,U,if_neg (λe:g=f=>aL (h.symm.trans e))]
      · have U:(g==k)=false:=beq_eq_false_iff_ne.mpr h
        simp only[jE,U];exact b8
theorem K7(f:Str)(v:V):∀ar:List (Str×V),f∈(gW f v ar).map (·.1)/\∀g,g∈ar.map (·.1)->g∈(gW f v ar).map (·.1)
  | []=>⟨by simp[gW],λg h=>by simp at h⟩
  | (k,x)::r=>by
    obtain⟨b0,b1⟩:=K7 f v r;rw[show gW f v ((k,x)::r)=(if k=f then (k,v)::r else (k,x)::gW f v r) from rfl];by_cases aL:k=f
    · rw[if_pos aL]
      subst aL;exact⟨by simp,λg h=>by simpa using h⟩
    · rw[if_neg aL]
      refine⟨?_,λg h=>?_⟩
      · rw[dh]
        exact dn _ b0
      · rw[dh] at h ⊢
        rcases cm.mp h with e|e
        · exact cm.mpr (.inl e)
        · exact dn _ (b1 g e)
theorem QT(f:Str)(v:V):∀ar:List (Str×V),(gW f v ar).length<=ar.length+1
  | []=>by simp[gW]
  | (k,x)::r=>by
    have b8:=QT f v r;rw[show gW f v ((k,x)::r)=(if k=f then (k,v)::r else (k,x)::gW f v r) from rfl];by_cases aL:k=f
    · rw[if_pos aL,eJ,eJ];omega
    · rw[if_neg aL,eJ,eJ];omega
def jP.some_of{v:V}{o:Option aj}(r:jP (some v) o):∃u,o=some u/\RelV v u:=by
 cases o with
|none=>exact (show False from r).elim
|some u=>exact⟨u,rfl,r⟩
def jP.none_of{o:Option aj}(r:jP none o):o=none:=by
 cases o with
|none=>rfl
|some u=>exact (show False from r).elim
def ahQ{v:V}{u:aj}(r:RelV v u):PySem.W.handedIn u=true:=by
 cases v with
|e0=>cases (show u=Value.none from r);rfl
|c4 b=>cases (show u=Value.bool b from r);rfl
|int i=>obtain⟨t,e⟩:=(show ∃t,u=Value.int i t from r);cases e;rfl
|str x=>obtain⟨t,e⟩:=(show ∃t,u=Value.str x t from r);cases e;rfl
|r4 b=>obtain⟨t,e⟩:=(show ∃t,u=Value.bytes b t from r);cases e;rfl
|wi b=>obtain⟨t,e⟩:=(show ∃t,u=Value.float b t from r);cases e;rfl
|ref a=>cases (show u=Value.ref a from r);rfl
|ty n=>cases (show u=Value.type n from r);rfl
section
variable {P:cA}{w:bZ}{H aa:ay}{h h':bE}{a C ba:ag}{ar gs:List (Str×V)}
def LF(bO:eA P w H h)(e:H a=some (.ins C ba ar)):∃en,rT h a ba C en/\(∀f,jP (ar.lookup f) (en f))/\PySem.Within en (ar.map (·.1))/\ar.length<=1000/\H ba=some (.own a):=by
 obtain⟨d,z,ne,dD,en,n,r,q⟩:=(show hj P w H h a (.ins C ba ar) from bO a _ e);exact⟨en,⟨dD,n,ne⟩,r,q,z,d⟩
end
structure mT(K:a9)(C:ag):Prop where
 pg:PySem.W.plainGet K C Str.empty=true
 hd:PySem.W.hasDictIn K C=true
 po:PySem.W.plainOver K C=true
 sa:j3 K (.ref C) "__setattr__"=some (some (.builtin "object.__setattr__"))
def mT.get{K:a9}{C:ag}(c:mT K C)(f:Str):PySem.W.plainGet K C f=true:=c.pg
def p9(K:a9)(C:ag)(f:Str):Prop:=j3 K (.ref C) f=some none
def p9.afn{K:a9}{C:ag}{f:Str}(n:p9 K C f):PySem.W.takerIn K C f=some none:=by
 unfold PySem.W.takerIn;rw[show j3 K (.ref C) f=some none from n];rfl
structure Meth(K:a9)(C:ag)(m:Str)(f:ag):Prop where
 at_:j3 K (.ref C) m=some (some (.ref f))
 fn:PySem.W.isFn K (.ref f)=true
 aw:kv K (.ref f)=true
section
variable {X:aV}{ai:List (ag×Obj)}{σ:St}{H:ay}{s:aI}{a C ba:ag}{ar:List (Str×V)}{f:Str}{v:V}{A:cH}{E:aj->aI->Prop}
def Rf{b:Bool}{Q:aj->aI->Prop}(I:Inv X ai σ H s)(e:H a=some (.ins C ba ar))(c:mT X.K C)(n:p9 X.K C f)(l:ar.lookup f=some v)
  (h:∀u s',Inv X ai σ H s'->RelV v u->Q u s'):bD (bL X.prog X.w) A (getAttr (.ref a) f b) Q E s:=by
 obtain⟨en,O,r,_,_,_⟩:=LF I.bO e;obtain⟨u,bM,c9⟩:=jP.some_of (v:=v) (o:=en f) (by rw[<- l];exact r f);exact get_map I.ju O (c.get f) c.hd n bM (ahQ c9) (h u _ (I.tok _) c9)
def Rd{m:Str}{g:ag}{pl:Sem Bool}{Q:aj×List aj->aI->Prop}(I:Inv X ai σ H s)(e:H a=some (.ins C ba ar))(c:mT X.K C)(k:Meth X.K C m g)(l:ar.lookup m=none)
  (h:Q (.ref g,[.ref a]) s):bD (bL X.prog X.w) A (getMethod (.ref a) m pl) Q E s:=by
 obtain⟨en,O,r,_,_,_⟩:=LF I.bO e;have a6:en m=none:=jP.none_of (by rw[<- l];exact r m);exact aiJ I.ju O (c.get m) k.at_ k.fn a6 h
def QY{y:V}{u:aj}{Q:Unit->aI->Prop}(I:Inv X ai σ H s)(e:H a=some (.ins C ba ar))(c:mT X.K C)(n:p9 X.K C f)(aB:ar.length<1000)(bx:RelV y u)
  (h:∀s',Inv X ai σ (upd H a (.ins C ba (gW f y ar))) s'->Q () s'):bD (bL X.prog X.w) A (setAttr (.ref a) f u) Q E s:=by
 obtain⟨en,O,r,pX,_,aF⟩:=LF I.bO e;have aq:(ar.map (·.1)).length<=cG:=by rw[e1,jg];omega
 refine aiZ I.ju O c.sa c.po n.afn c.hd pX aq λh' m1 lO=>h _ ?_
 have hd:∃o,h'.get? ba=some o:=let ⟨o,_,_,bS,_⟩:=m1.ns;⟨o,bS⟩;refine I.write (x:=a) (e:=ba) (by rw[e];exact True.intro) (.inr aF) (λb q U z=>(lO.2 b U).trans z) hd ?_;refine⟨by rw[cQ O.ne];exact aF,?_,O.ne,m1.obj,_,m1.ns,λg=>?_,λg bl=>?_⟩
 ·have:=QT f y ar;omega
 ·show jP ((gW f y ar).lookup g) (if g=f then some u else en g)
  rw[QP];by_cases q:g=f
  ·rw[if_pos q,if_pos q];exact bx
  ·rw[if_neg q,if_neg q];exact r g
 ·by_cases q:g=f
  ·rw[q];exact (K7 f y ar).1
  ·refine (K7 f y ar).2 g (pX g λz=>bl ?_)
   show (if g=f then some u else en g)=none
   rw[if_neg q];exact z
def Inv.made(I:Inv X ai σ H s):Inv X ai σ (upd (upd H s.heap.objs.size (.own (s.heap.objs.size+1))) (s.heap.objs.size+1) (.ins C s.heap.objs.size []))
  {s with heap:=(s.heap.push pZ).push (q1 C s.heap.objs.size)}:=by
 have aD:(s.heap.push pZ).get? s.heap.objs.size=some pZ:=gY s.heap rfl;have aO:((s.heap.push pZ).push (q1 C s.heap.objs.size)).get? (s.heap.objs.size+1)=some (q1 C s.heap.objs.size):=by
  have:=gY (s.heap.push pZ) (o:=q1 C s.heap.objs.size) rfl
  rwa [ky] at this
 have fw:(s.heap.push pZ).Ns s.heap.objs.size (λ_=>none):=⟨pZ,#[],_,aD,rfl,(λe he=>absurd he (by simp)),λ_=>rfl⟩;have a_:=I.laid (a:=s.heap.objs.size) (o:=.own (s.heap.objs.size+1)) (h':=s.heap.push pZ) (t':=s.toks) (λb u q=>c2 _ q) (el _) ⟨_,aD⟩;refine a_.laid (a:=s.heap.objs.size+1) (o:=.ins C s.heap.objs.size []) (t':=s.toks) (λb u q=>c2 _ q) (Nat.le_of_eq (ky _ _)) ?_;have ne:s.heap.objs.size≠s.heap.objs.size+1:=eR (Nat.lt_succ_self _);refine⟨by rw[cQ ne,er],mE _,ne,aO,λ_=>none,(Heap.Ns1.of_empty fw).at λo q=>c2 _ q,λ_=>True.intro,λy a7=>absurd rfl a7⟩
def ajL{prog:cA}{w:bZ}{env:Env}{e:bj}{f:Str}{pos:Pos}{s:aI}{Q:aj->aI->Prop}(U:jf e f env (eval e env)=eval e env)
  (h:bD (bL prog w) A (eval e env) (λo cU=>bD (bL prog w) A (getAttr o f true) Q E cU) E s):bD (bL prog w) A (eval (.Attribute e f pos) env) Q E s:=
 Attribute_any_ h (by rw[arm_eval_Attribute,U])
end
def ae6(K:a9)(cF:TE)(f:Str):TE:=λσ H Q=>cF σ H λx H1=>∃a C ba ar v,x=.ref a/\H1 a=some (.ins C ba ar)/\mT K C/\p9 K C f/\ar.lookup f=some v/\Q v H1
noncomputable def adX(K:a9)(cF iA:TE)(f:Str):fT:=λD σ H=>iA σ H λy H1=>cF σ H1 λx bk=>∃a C ba ar,x=.ref a/\bk a=some (.ins C ba ar)/\mT K C/\p9 K C f/\ar.length<1000 /\
 D.bK σ (upd bk a (.ins C ba (gW f y ar)))
noncomputable def DL(X:aV)(op:Operator)(jz:V->V->ay->dj->Prop):Prop:=
 ∀(ai:List (ag×Obj)) (s:aI) (σ:St) (H:ay) (x y:V) (u v:aj) (Q:dj),Inv X ai σ H s->RelV x u->RelV y v->jz x y H Q->bD (bL X.prog X.w) X.A (inplaceOp op u v) (h3 X ai σ Q) X.c8 s
noncomputable def ai2(K:a9)(cF iA:TE)(jz:V->V->ay->dj->Prop)(f:Str):fT:=λD σ H=>cF σ H λx H1=>∃a C ba ar v,x=.ref a/\H1 a=some (.ins C ba ar)/\mT K C/\p9 K C f/\ar.lookup f=some v /\
 iA σ H1 λy bk=>jz v y bk λz gk=>∃ua gs,gk a=some (.ins C ua gs)/\gs.length<1000/\D.bK σ (upd gk a (.ins C ua (gW f z gs)))
section
variable {X:aV}{o e value:bj}{f:Str}{pos pos' JK:Pos}{cF iA:TE}
def oX(he:bQ X e cF)(U:jf e f X.env (eval e X.env)=eval e X.env):bQ X (.Attribute e f pos) (ae6 X.K cF f):=by
 intro ai s σ H Q I h;refine ajL U (cN (he ai s σ H _ I h) λu s1 ⟨x,H1,a_,aW,a,C,ba,ar,v,ex,b',c,n,l,q⟩=>?_);subst ex;obtain rfl:u=Value.ref a:=aW;exact Rf a_ b' c n l λxt s2 cB c9=>⟨v,H1,cB,c9,q⟩
def LY(av:bQ X o cF)(br:bQ X value iA)(aA:jh value (some (.Attribute o f pos')) pos.line X.env=pure false):hG X (.Assign [.Attribute o f pos'] value pos) (adX X.K cF iA f):=by
 intro ai s σ H D I h;refine plainObj_wpAny_Assign_Attribute (cN (br ai s σ H _ I h) λu s1 ⟨y,H1,a_,bx,q⟩=>cN (av ai s1 σ H1 _ a_ q) λd0 s2 ⟨x,bk,cB,aW,a,C,ba,ar,ex,b',c,n,l,bb⟩=>?_) aA;subst ex;obtain rfl:d0=Value.ref a:=aW;exact QY cB b' c n l bx λs3 eL=>⟨σ,_,eL,bb⟩
def aht{op:Operator}{jz:V->V->ay->dj->Prop}(av:bQ X o cF)(br:bQ X value iA)(GA:DL X op jz):hG X (.AugAssign (.Attribute o f JK) op value pos) (ai2 X.K cF iA jz f):=by
 intro ai s σ H D I h;refine wpAny_AugAssign_AttributeAny (cN (av ai s σ H _ I h) λd0 s1 ⟨x,H1,a_,aW,a,C,ba,ar,v,ex,b',c,n,l,q⟩=>?_);subst ex;obtain rfl:d0=Value.ref a:=aW;refine Rf a_ b' c n l λu s2 cB c9=>cN (br ai s2 σ H1 _ cB q) λBC s3 ⟨y,bk,eL,bx,dg⟩=>cN (GA ai s3 σ bk v y u BC _ eL c9 bx dg) λw4 s4 ⟨z,gk,mZ,Jr,ua,gs,YT,ot,jx⟩=>?_;exact QY mZ YT c n ot Jr λs5 rR=>⟨σ,_,rR,jx⟩
def adO:V->V->ay->dj->Prop:=λx y H Q=>∃i j,x=.int i/\y=.int j/\Q (.int (i+j)) H
def TP:DL X .Add adO:=by
 rintro ai s σ H x y u v Q I aW bx ⟨i,j,rfl,rfl,q⟩;obtain⟨t,rfl⟩:=(show ∃t,u=Value.int i t from aW);obtain⟨t',rfl⟩:=(show ∃t',v=Value.int j t' from bx);exact PyProof.Rows.iadd_int ⟨.int (i+j),H,I.tok _,⟨_,rfl⟩,q⟩
end
end bh
namespace bh
open PySem PySem.Spec PyProof.Rows
structure cW(k:Nat)(A:cH):Prop where
 hd:A.handled=none
 zo:A.depth+3*k+5<recursionLimit
 un:A.units+16*k+200<cLine
 lE:A.guards=some []
def cW.mono{j k:Nat}{A:cH}(r:cW k A)(h:j<=k):cW j A:=⟨r.hd,by have:=r.zo;omega,by have:=r.un;omega,r.lE⟩
theorem cW.deeper{k:Nat}{A:cH}(r:cW (k+1) A)(env:Env):cW k (A.deeper env):=
 ⟨r.hd,by have:=r.zo;show A.depth+1+3*k+5<_;omega,by have:=r.un;show A.units+3+16*k+200<_;omega,r.lE⟩
def ag5{A:cH}{C:ag}{us:List aj}{kw:List (Str×aj)}:(A.under (.builtin "type.__call__" ⟨.ref C::us,kw⟩)).depth=A.depth+1:=by
 first|rfl|simp[Around.under,Code.weight,Code.isCreation,Code.isGuard,Code.isCaller,Code.frames,Code.isFrame,guardIds]
def ag4{A:cH}{C:ag}{us:List aj}{kw:List (Str×aj)}:(A.under (.builtin "type.__call__" ⟨.ref C::us,kw⟩)).units=A.units+1:=by
 first|rfl|simp[Around.under,Code.cUnits,Code.frames,Code.isFrame]
def agG{A:cH}{C:ag}{us:List aj}{kw:List (Str×aj)}:(A.under (.builtin "type.__call__" ⟨.ref C::us,kw⟩)).guards=A.guards:=by
 first|rfl|simp[Around.under,Code.weight,Code.isCreation,Code.isGuard,Code.isCaller,Code.frames,Code.isFrame,guardIds,Code.guards]
def cW.make{k:Nat}{A:cH}(r:cW (k+1) A)(C:ag)(us:List aj)(kw:List (Str×aj)):cW k (A.under (.builtin "type.__call__" ⟨.ref C::us,kw⟩)):=
 ⟨r.hd,by have:=r.zo;rw[ag5];omega,by have:=r.un;rw[ag4];omega,agG.trans r.lE⟩
theorem cW.depth{k:Nat}{A:cH}(r:cW k A):A.depth<recursionLimit:=by have:=r.zo;omega
theorem cW.units{k:Nat}{A:cH}(r:cW k A):A.units+64<cLine:=by have:=r.un;omega
def qW:fS:=λ_ H Q=>Q [] H
def mP(cF:TE)(iz:fS):fS:=λσ H Q=>cF σ H λx H1=>iz σ H1 λxs bk=>Q (x::xs) bk
section
variable {X:aV}{e:bj}{es:List bj}{jB:TE}{t:fS}{pos:Pos}
def j9:f5 X [] qW:=λ_ _ _ _ H Q I h=>Calls.spliced_nil ⟨[],H,I,.nil,h⟩
def hA(av:bQ X e jB)(au:f5 X es t)(aA:bo (e::es) X.env=(false,eval e X.env)::bo es X.env:=by rfl):f5 X (e::es) (mP jB t):=by
 intro pos ai s σ H Q I h;rw[aA];show bD _ _ (spliced ((false,eval e X.env)::dM pos (bo es X.env))) _ _ s;refine Calls.spliced_cons (cN (av ai s σ H _ I h) λu s1 ⟨x,H1,a_,bg,aM⟩=>?_);exact cN (au pos ai s1 σ H1 _ a_ aM) λus s2 ⟨xs,bk,cB,b5,bb⟩=>⟨x::xs,bk,cB,.cons bg b5,bb⟩
def uL(t:fS):TE:=λσ H Q=>t σ H λxs H1=>xs.length<=cG/\∀p,H1 p=none->Q (.ref p) (upd H1 p (.tup xs))
def afa(t:fS):TE:=λσ H Q=>t σ H λxs H1=>xs.length<=cG/\∀p,H1 p=none->Q (.ref p) (upd H1 p (.lst xs))
def C_{aP}(h:f5 X es t):bQ X (.Tuple es aP pos) (uL t):=by
 intro ai s σ H Q I a3;refine wpAny_Tuple_spliced (cN (h pos ai s σ H _ I a3) λus s1 ⟨xs,H1,a_,r,z,q⟩=>⟨by rw[<- r.length];exact z,?_⟩);have hf:H1 s1.heap.objs.size=none:=a_.bO.fresh (el _);refine⟨.ref s1.heap.objs.size,upd H1 s1.heap.objs.size (.tup xs),a_.laid (t':=s1.toks) (λb u e=>c2 _ e) (el _) ?_,rfl,q _ hf⟩;exact⟨z,us,r,⟨_,gY _ rfl,rfl,_,rfl⟩⟩
def akg(h:f5 X es t):bQ X (.List es pos) (afa t):=by
 intro ai s σ H Q I a3;refine wpAny_List_spliced (cN (h pos ai s σ H _ I a3) λus s1 ⟨xs,H1,a_,r,z,q⟩=>⟨by rw[<- r.length];exact z,?_⟩);have hf:H1 s1.heap.objs.size=none:=a_.bO.fresh (el _);refine⟨.ref s1.heap.objs.size,upd H1 s1.heap.objs.size (.lst xs),a_.laid (t':=s1.toks) (λb u e=>c2 _ e) (el _) ?_,rfl,q _ hf⟩;exact⟨z,us,0,r,gY _ rfl⟩
end
abbrev jQ:=List V->ay->dj->eF->Prop
abbrev lr:=List Env->ay->aI->eF->aj->aI->Prop
structure mU(P:cA)(w:bZ)(K:a9)(mg:Str->Option aj)(base:bE)(A:cH)(outer:List Env)(s:aI)(H:ay):Prop where
 frames:A.frames=some outer
 mod:Mod K mg base
 bs:∀b o,base.get? b=some o->s.heap.get? b=some o/\H b=none
 m5:base.objs.size<=s.heap.objs.size
 kj:s.heap.FunFrames base outer
 oa:∀b∈fh outer,H b=none
 bO:eA P w H s.heap
 bare:AllBare s.gens
noncomputable def yV(outer:List Env)(P:cA)(w:bZ)(H:ay)(s:aI)(Q:dj)(u:aj)(s':aI):Prop:=
 ∃v aa,s'.os=s.os/\AllBare s'.gens/\f9 (fh outer) [] H aa s.heap s'.heap/\eA P w aa s'.heap/\RelV v u/\Q v aa
noncomputable def nR(d6:lr)(outer:List Env)(P:cA)(w:bZ)(H:ay)(s:aI)(Q:dj)(E:eF)(r:Result)(s':aI):Prop:=
 match r with
|.ok (.ret u)=>yV outer P w H s Q u s'
|.ok _=>False
|.error e=>d6 outer H s E e s'
structure ez(P:cA)(w:bZ)(K:a9)(mg:Str->Option aj)(base:bE)(d6:lr)(k:Nat)(f:ag)(fd:dV)(ps:List Str)(sp:jQ):Prop where
 len:∀vs H Q E,sp vs H Q E->vs.length=ps.length
 run:∀(A:cH) (outer:List Env) (s:aI) (H:ay) (args:Args) (us:List aj) (vs:List V) (Q:dj) (E:eF),cW k A->mU P w K mg base A outer s H->BindsTo s fd args (ps.zip us)->Vals vs us->sp vs H Q E ->
  iG (bL P w) A (.call (.ref f) args) (nR d6 outer P w H s Q E) s
theorem ez.mono{P:cA}{w:bZ}{K:a9}{mg:Str->Option aj}{base:bE}{d6:lr}{j k:Nat}{f:ag}{fd:dV}{ps:List Str}{sp:jQ}(F:ez P w K mg base d6 j f fd ps sp)(h:j<=k):
  ez P w K mg base d6 k f fd ps sp:=⟨F.len,λA outer s H args us vs Q E au=>F.run A outer s H args us vs Q E (au.mono h)⟩
def ez.imp{P:cA}{w:bZ}{K:a9}{mg:Str->Option aj}{base:bE}{d6:lr}{k:Nat}{f:ag}{fd:dV}{ps:List Str}{sp Pq:jQ}(F:ez P w K mg base d6 k f fd ps sp)
  (h:∀vs H Q E,Pq vs H Q E->sp vs H Q E):ez P w K mg base d6 k f fd ps Pq:=
 ⟨λvs H Q E q=>F.len vs H Q E (h _ _ _ _ q),λA outer s H args us vs Q E au he U br aA=>F.run A outer s H args us vs Q E au he U br (h _ _ _ _ aA)⟩
def mU.make{P:cA}{w:bZ}{K:a9}{mg:Str->Option aj}{base:bE}{A:cH}{outer:List Env}{s:aI}{H:ay}(e:mU P w K mg base A outer s H)(C:ag)(us:List aj)(kw:List (Str×aj)):
  mU P w K mg base (A.under (.builtin "type.__call__" ⟨.ref C::us,kw⟩)) outer s H:=⟨by first|exact e.frames|(simpa [Around.under,Code.envs,Code.isFrame,pushEnvs] using e.frames),e.mod,e.bs,e.m5,e.kj,e.oa,e.bO,e.bare⟩
section
variable {X:aV}{ai:List (ag×Obj)}{σ:St}{H:ay}{s s':aI}
def Inv.ui(I:Inv X ai σ H s):mU X.prog X.w X.K X.mg X.base X.A X.stack s H:=
 ⟨I.ok.frames,I.ok.mod,I.bs,jd I.ok.m5 I.k7,I.stack,I.Jy,I.bO,I.bare⟩
def Inv.after{Q:dj}{u:aj}(I:Inv X ai σ H s)(h:yV X.stack X.prog X.w H s Q u s'):h3 X ai σ Q u s':=by
 obtain⟨v,aa,os,bare,un,bO,r,q⟩:=h;obtain⟨cM,g,d,t,os'⟩:=s';obtain rfl:os'=s.os:=os;exact⟨v,aa,I.call (h':=cM) (g':=g) (d':=d) (t':=t) (ch:=[]) un bO bare (λb z=>absurd z (by simp)),r,q⟩
end
def akR(sp:jQ)(h8:List V)(E:eF)(t:fS):TE:=λσ H Q=>t σ H λvs H1=>sp (vs++h8) H1 Q E
noncomputable def T7(C:ag)(m:Str)(sp:jQ)(h8:List V)(E:eF)(cF:TE)(t:fS):TE:=λσ H Q=>cF σ H λx H1=>∃a ba ar,x=.ref a/\H1 a=some (.ins C ba ar)/\ar.lookup m=none /\
 t σ H1 λvs bk=>sp (x::(vs++h8)) bk Q E
noncomputable def akO(C:ag)(sp:jQ)(h8:List V)(E:eF)(t:fS):TE:=λσ H Q=>t σ H λvs H1=>∀x ba,H1 x=none->H1 ba=none->ba≠x ->
 sp (.ref x::(vs++h8)) (upd (upd H1 ba (.own x)) x (.ins C ba [])) (λv bk=>v=.e0/\Q (.ref x) bk) E
def Binds(K:a9)(fd:dV)(ps:List Str)(ds:List aj):Prop:=
 ∀(s:aI) (us:List aj),K.In s.heap->(us++ds).length=ps.length->BindsTo s fd ⟨us,[]⟩ (ps.zip (us++ds))
def Binds.all{K:a9}{fd:dV}{ps:List Str}(h:∀us:List aj,us.length=ps.length->bindArgs fd ⟨us,[]⟩=pure (ps.zip us)):Binds K fd ps []:=λs us _ aB=>by
 rw[jF] at aB ⊢;exact .of_eq (h us aB)
def Passes(d6:lr)(X:aV)(E:eF):Prop:=∀(ai:List (ag×Obj)) (σ:St) (H:ay) (s:aI) (e:aj) (s':aI),Inv X ai σ H s->d6 X.stack H s E e s'->X.c8 e s'
section
variable {X:aV}{d6:lr}{k:Nat}{f C:ag}{fd:dV}{ps:List Str}{sp:jQ}{h8:List V}{ds:List aj}{E:eF}{x m:Str}{p pos apos:Pos}{e o:bj}{es:List bj}{cF:TE}{t:fS}
def LW{ai:List (ag×Obj)}{σ:St}{H:ay}{s:aI}{Q:dj}{us:List aj}{vs:List V}(F:ez X.prog X.w X.K X.mg X.base d6 k f fd ps sp)(au:cW k X.A)(U:Binds X.K fd ps ds)(hd:Vals h8 ds)(hx:Passes d6 X E)
  (I:Inv X ai σ H s) (r:Vals vs us) (h:sp (vs++h8) H Q E):bD (bL X.prog X.w) X.A (call (.ref f) us) (h3 X ai σ Q) X.c8 s:=by
 have b5:Vals (vs++h8) (us++ds):=r.append hd;have aB:(us++ds).length=ps.length:=by rw[<- b5.length];exact F.len _ _ _ _ h
 refine wpAny_call (al6 (F.run X.A X.stack s H ⟨us,[]⟩ (us++ds) (vs++h8) Q E au I.ui (U s us I.ju aB) b5 h) λr s' a3=>?_)
 cases r with
|error e=>exact hx ai σ H s e s' I a3
|ok dT=>
  cases dT with
  |ret u=>exact I.after a3
  |next=>exact ed a3
  |brk=>exact ed a3
  |cont=>exact ed a3
def yq(F:ez X.prog X.w X.K X.mg X.base d6 k f fd ps sp)(au:cW k X.A)(bl:ei X x)(hm:X.mg x=some (.ref f))(aL:kv X.K (.ref f)=true)(U:Binds X.K fd ps ds)(hd:Vals h8 ds)(hx:Passes d6 X E)
  (av:f5 X (e::es) t) (gc:(x==("__debug__":Str))=false:=by decide) (he:bo (e::es) X.env=(false,eval e X.env)::bo es X.env:=by rfl) (hpl:(dM pos (bo es X.env)).any (·.1)=false:=by rfl):
  bQ X (.Call (.Name x p) (e::es) [] pos) (akR sp h8 E t):=by
 intro ai s σ H Q I h;refine oJ (tH I bl hm ?_ gc);refine PySem.W.callWith_K (h₀:=X.base) I.ok.mod.oq aL (cN (av pos ai s σ H _ I h) λus s1 ⟨vs,H1,a_,r,q⟩=>⟨a_.ju,?_⟩) he hpl;exact LW F au U hd hx a_ r q
def LB{pl:Sem Bool}(he:bQ X o cF)(c:mT X.K C)(hm:Meth X.K C m f)(F:ez X.prog X.w X.K X.mg X.base d6 k f fd ps sp)(au:cW k X.A)(U:Binds X.K fd ps ds)(hd:Vals h8 ds)(hx:Passes d6 X E)(av:f5 X (e::es) t)
  (gJ:bo (e::es) X.env=(false,eval e X.env)::bo es X.env:=by rfl) (hpl:(dM pos (bo es X.env)).any (·.1)=false:=by rfl)
  (aX:eval (.Call (.Attribute o m apos) (e::es) [] pos) X.env=(do
   let d0 <- eval o X.env
   standAt apos.atName
   let (f,first) <- holding [d0] (getMethod d0 m pl)
   callWith pos f first (dM pos (bo (e::es) X.env)) (mG pos (mF [] X.env))):=by rfl):
  bQ X (.Call (.Attribute o m apos) (e::es) [] pos) (T7 C m sp h8 E cF t):=by
 intro ai s σ H Q I h;refine PySem.W.methodCall_KW (pl:=pl) (cN (he ai s σ H _ I h) λu s1 ⟨x,H1,a_,aW,a,ba,ar,ex,b',l,q⟩=>?_) aX;subst ex;obtain rfl:u=Value.ref a:=aW;refine Rd a_ b' c hm l ?_;refine PySem.W.callWith_K (first:=[.ref a]) (h₀:=X.base) I.ok.mod.oq hm.aw (cN (av pos ai s1 σ H1 _ a_ q) λus s2 ⟨vs,bk,cB,r,bb⟩=>⟨cB.ju,?_⟩) gJ hpl;exact LW (us:=.ref a::us) (vs:=.ref a::vs) F au U hd hx cB (.cons rfl r) bb
def CU{pl:Sem Bool}(he:bQ X o cF)(c:mT X.K C)(hm:Meth X.K C m f)(F:ez X.prog X.w X.K X.mg X.base d6 k f fd ps sp)(au:cW k X.A)(U:Binds X.K fd ps ds)(hd:Vals h8 ds)(hx:Passes d6 X E)
  (aX:eval (.Call (.Attribute o m apos) [] [] pos) X.env=(do
   let d0 <- eval o X.env
   standAt apos.atName
   let (f,first) <- holding [d0] (getMethod d0 m pl)
   callWith pos f first (dM pos (bo [] X.env)) (mG pos (mF [] X.env))):=by rfl):
  bQ X (.Call (.Attribute o m apos) [] [] pos) (T7 C m sp h8 E cF qW):=by
 intro ai s σ H Q I h;refine PySem.W.methodCall_KW (pl:=pl) (cN (he ai s σ H _ I h) λu s1 ⟨x,H1,a_,aW,a,ba,ar,ex,b',l,q⟩=>?_) aX;subst ex;obtain rfl:u=Value.ref a:=aW;refine Rd a_ b' c hm l ?_;exact PySem.W.callWith_K0 (first:=[.ref a]) a_.ju hm.aw (LW (us:=[.ref a]) (vs:=[.ref a]) F au U hd hx a_ (.cons rfl .nil) q)
structure tX(K:a9)(C f:ag):Prop where
 makes:PySem.W.makesIn K C=true
 init:j3 K (.ref C) "__init__"=some (some (.ref f))
 fn:PySem.W.isFn K (.ref f)=true
 aw:kv K (.ref C)=true
def aih{ai:List (ag×Obj)}{σ:St}{H:ay}{s:aI}{Q:dj}{us:List aj}{vs:List V}(M:tX X.K C f)(F:ez X.prog X.w X.K X.mg X.base d6 k f fd ps sp)(au:cW (k+1) X.A)(U:Binds X.K fd ps ds)(hd:Vals h8 ds)
  (hx:Passes d6 X E) (I:Inv X ai σ H s) (r:Vals vs us)
  (h:∀x ba,H x=none->H ba=none->ba≠x->sp (.ref x::(vs++h8)) (upd (upd H ba (.own x)) x (.ins C ba [])) (λv bk=>v=.e0/\Q (.ref x) bk) E):
  bD (bL X.prog X.w) X.A (call (.ref C) us) (h3 X ai σ Q) X.c8 s:=by
 have a3:=h (s.heap.objs.size+1) s.heap.objs.size (I.bO.fresh (gB _)) (I.bO.fresh (el _)) (eR (Nat.lt_succ_self _));have cB:=Inv.made (C:=C) I;have b5:Vals (V.ref (s.heap.objs.size+1)::(vs++h8)) (Value.ref (s.heap.objs.size+1)::(us++ds)):=.cons rfl (r.append hd);have aB:(Value.ref (s.heap.objs.size+1)::us++ds).length=ps.length:=by
  have e:=b5.length;rw[F.len _ _ _ _ a3] at e;exact e.symm
 refine wpAny_call (aiA (f:=f) I.ju M.makes M.init (beq_iff_eq.mp M.fn) (al6 (F.run _ X.stack _ _ ⟨Value.ref (s.heap.objs.size+1)::us,[]⟩ (Value.ref (s.heap.objs.size+1)::(us++ds)) _ _ E (au.make C us [])
  (cB.ui.make C us []) (U _ (Value.ref (s.heap.objs.size+1)::us) cB.ju aB) b5 a3) λr s' wN=>?_))
 cases r with
|error e=>exact hx ai σ _ _ e s' cB wN
|ok dT=>
  cases dT with
  |ret u=>
   obtain⟨v,aa,eL,bP,ev,dg⟩:=cB.after wN;subst ev;exact⟨bP,⟨V.ref (s.heap.objs.size+1),aa,eL,rfl,dg⟩⟩
  |next=>exact ed wN
  |brk=>exact ed wN
  |cont=>exact ed wN
def aje(M:tX X.K C f)(F:ez X.prog X.w X.K X.mg X.base d6 k f fd ps sp)(au:cW (k+1) X.A)(bl:ei X x)(hm:X.mg x=some (.ref C))(U:Binds X.K fd ps ds)(hd:Vals h8 ds)(hx:Passes d6 X E)
  (av:f5 X (e::es) t) (gc:(x==("__debug__":Str))=false:=by decide) (he:bo (e::es) X.env=(false,eval e X.env)::bo es X.env:=by rfl) (hpl:(dM pos (bo es X.env)).any (·.1)=false:=by rfl):
  bQ X (.Call (.Name x p) (e::es) [] pos) (akO C sp h8 E t):=by
 intro ai s σ H Q I h;refine oJ (tH I bl hm ?_ gc);refine PySem.W.callWith_K (h₀:=X.base) I.ok.mod.oq M.aw (cN (av pos ai s σ H _ I h) λus s1 ⟨vs,H1,a_,r,q⟩=>⟨a_.ju,?_⟩) he hpl;exact aih M F au U hd hx a_ r q
end
structure cK(N P:List Str)(sc:Scope):Prop where
 kind:sc.kind=.function
 co:sc.isCoroutine=false
 gen:sc.isGenerator=false
 a':N.Nodup
 pre:N.take P.length=P
 par:∀x∈P,sc.names.lookup x=some .local\/sc.names.lookup x=some .cell
 aaX:∀y∈sc.names,y.2≠.free
theorem RQ{kindOf:Str->Option lY}{x:Str}:∀{binds:List (Str×aj)} {m:Str->Option aj},(∀v,(x,v)∉binds)->bindL kindOf binds m x=m x
  | [],_,_=>rfl
  | (n,v)::r,m,h=>by
    unfold bindL;rw[RQ λw hw=>h w (dn _ hw)];split
    · have:x≠n:=by rintro rfl;exact h v fb
      simp[this]
    · rfl
theorem RS{kindOf:Str->Option lY}{x:Str}:∀{binds:List (Str×aj)} {m:Str->Option aj},(∀v,(x,v)∉binds)->bindC kindOf binds m x=m x
  | [],_,_=>rfl
  | (n,v)::r,m,h=>by
    unfold bindC;rw[RS λw hw=>h w (dn _ hw)];split
    · rfl
    · have:x≠n:=by rintro rfl;exact h v fb
      simp[this]
theorem RR{kindOf:Str->Option lY}{x:Str}{v:aj}:∀{P:List Str} {vs:List aj} {i:Nat} {m:Str->Option aj},P.Nodup->P[i]?=some x->vs[i]?=some v->kindOf x=some .local ->
  bindL kindOf (P.zip vs) m x=some v
| [],_,_,_,_,h,_,_=>by simp at h
|_::_,[],_,_,_,_,h,_=>by simp at h
|p::P,w::vs,0,m,a',af,ak,aL=>by
  simp at af ak;subst af;subst ak;show bindL kindOf ((p,w)::P.zip vs) m p=_;unfold bindL;rw[RQ λv br=>(gN.mp a').1 (List.of_mem_zip br).1,if_pos aL];simp
|p::P,w::vs,i+1,m,a',af,ak,aL=>by
  show bindL kindOf ((p,w)::P.zip vs) m x=_
  unfold bindL;exact RR (i:=i) (gN.mp a').2 (by simpa using af) (by simpa using ak) aL
theorem RT{kindOf:Str->Option lY}{x:Str}{v:aj}:∀{P:List Str} {vs:List aj} {i:Nat} {m:Str->Option aj},P.Nodup->P[i]?=some x->vs[i]?=some v->kindOf x≠some .local ->
  bindC kindOf (P.zip vs) m x=some v
| [],_,_,_,_,h,_,_=>by simp at h
|_::_,[],_,_,_,_,h,_=>by simp at h
|p::P,w::vs,0,m,a',af,ak,aL=>by
  simp at af ak;subst af;subst ak;show bindC kindOf ((p,w)::P.zip vs) m p=_;unfold bindC;rw[RS λv br=>(gN.mp a').1 (List.of_mem_zip br).1,if_neg aL];simp
|p::P,w::vs,i+1,m,a',af,ak,aL=>by
  show bindC kindOf ((p,w)::P.zip vs) m x=_
  unfold bindC;exact RT (i:=i) (gN.mp a').2 (by simpa using af) (by simpa using ak) aL
def start(N:List Str)(vs:List V):St:=vs.map some++alZ (N.length - vs.length) none
noncomputable def eN(d6:lr)(P:cA)(w:bZ)(K:a9)(mg:Str->Option aj)(base:bE)(N:List Str)(qual:Str)(scope:Scope)(f:ag)(cd:aj)(A:cH)(outer:List Env)(s:aI)(H:ay)(E:eF):aV where
 prog:=P
 w:=w
 K:=K
 mg:=mg
 base:=base
 A:=A.deeper (envOfC qual scope s.heap.objs.size f cd)
 N:=N
 c':=s
 aR:=H
 env:=envOfC qual scope s.heap.objs.size f cd
 outer:=outer
 stack:=envOfC qual scope s.heap.objs.size f cd::outer
 ex:=[]
 calm:=true
 fn:=λ_=>true
 df:=[]
 c8:=λe s'=>bD (bL P w) (A.deeper (envOfC qual scope s.heap.objs.size f cd)) (leaving (envOfC qual scope s.heap.objs.size f cd) e) (λ_ pS=>d6 outer H s E e pS) (λbS pS=>d6 outer H s E bS pS) s'
def Sx{sc:Scope}{n:Nat}{x:Str}(h:sc.names.lookup x=some .cell):∃c,(cellsFrom n sc.names []).lookup x=some c:=by
 have q:=PySem.W.cellsFrom_some sc.names n [] (.inl h);exact Option.isSome_iff_exists.mp q
def RE{d6:lr}{P:cA}{w:bZ}{K:a9}{mg:Str->Option aj}{base:bE}{N ps:List Str}{qual:Str}{scope:Scope}{f:ag}{cd:aj}{A:cH}{outer:List Env}{s s1:aI}{H:ay}{E:eF}{us:List aj}{vs:List V}
  (S:cK N ps scope) (hd:A.handled=none) (b7:mU P w K mg base A outer s H) (aB:vs.length=ps.length) (r:Vals vs us)
  (x:InCallC s s.heap.objs.size (bindL (envOfC qual scope s.heap.objs.size f cd).kindOf (ps.zip us) λ_=>none) (cellsFrom (s.heap.objs.size+1) scope.names []) (bindC (envOfC qual scope s.heap.objs.size f cd).kindOf (ps.zip us) λ_=>none) s1):
  Inv (eN d6 P w K mg base N qual scope f cd A outer s H E) [] (start N vs) H s1:=by
 have hpl:ps.length<=N.length:=by have:=congrArg List.length S.pre;rw[List.length_take] at this;omega
 obtain⟨af,tk,rfl,aL⟩:=x.done;have pO:∀b:ag,b∉(eN d6 P w K mg base N qual scope f cd A outer s H E).ex:=λb z=>absurd (show b∈([]:List ag) from z) (by simp);refine⟨⟨b7.mod,S.kind,rfl,rfl,el _,λy z c af ak=>?_,λy a7=>?_,λy c _ h=>?_,λ_=>hd,Around.frames_deeper b7.frames,.inr ⟨rfl,rfl⟩,λb z=>absurd z (pO b),b7.bs,b7.m5,λb _ _=>pO b,λb z=>absurd z (pO b),b7.kj,b7.oa⟩,
  rfl,b7.bare,f9.kept aL,⟨_,x.toInCall.ns,λi y v af ak bB=>?_⟩,λy c h=>⟨_,x.cell y c h⟩,b7.bO.fresh (el _),λy c h=>?_,λp aC=>absurd (show p∈([]:List (ag×Obj)) from aC) (by simp),b7.bO.kept aL,?_⟩
 ·exact name_of_addr x.apart (xB af) (xB ak)
 ·have a7:scope.names.lookup y=some .cell\/scope.names.lookup y=some .free:=a7;rcases a7 with a7|a7
  ·exact Sx a7
  ·exact absurd rfl (S.aaX _ (xB a7))
 ·exact Nat.le_of_lt (x.above y c (xB h))
 ·have bc:i<vs.length:=by
   unfold start at ak;by_cases bc:i<vs.length
   ·exact bc
   ·rw[uR (by simpa using bc)] at ak;rw[List.getElem?_replicate] at ak;split at ak <;> cases ak
  have av:vs[i]?=some v:=by
   unfold start at ak;rw[uS (by simpa using bc),la] at ak;cases e:vs[i]? with
   |none=>rw[e] at ak;cases ak
   |some a=>rw[e] at ak;cases ak;rfl
  obtain⟨u,bM,bP⟩:=r.get av;have aC:ps[i]?=some y:=by
   rw[<- S.pre,List.getElem?_take_of_lt (by omega)];exact af
  have OW:ps.Nodup:=by rw[<- S.pre];exact S.a'.sublist (List.take_sublist _ _)
  refine⟨u,bP,?_⟩
  rcases S.par y (uV aC) with k|k
  ·exact .inl ⟨k,RR OW aC bM k⟩
  ·obtain⟨c,e⟩:=Sx (n:=s.heap.objs.size+1) k;refine .inr ⟨.inl k,c,e,?_⟩;have q:=x.cell y c e;rw[RT OW aC bM (by show scope.names.lookup y≠_;rw[k];decide)] at q;exact q
 ·exact b7.bO.fresh (Nat.le_of_lt (x.above y c (xB h)))
 ·unfold start;show _=N.length;rw[mD,e1,List.length_replicate];omega
def Mj{d6:lr}{P:cA}{w:bZ}{K:a9}{mg:Str->Option aj}{base:bE}{k:Nat}{f:ag}{name qual:Str}{params:Arguments}{body:List Stmt}{scope:Scope}{zk dG doc pm bu dN gV:aj}{an ec:Option ag}
  {jZ:Array (Option aj)} {N ps:List Str} {sp:jQ} (lk:K.lookup f=some ⟨gV,ec,.func (lU name qual params body scope zk dG doc pm an bu dN),jZ⟩) (eZ:qZ K bu qual=true) (S:cK N ps scope)
  (len:∀vs H Q E,sp vs H Q E->vs.length=ps.length)
  (pI:∀(A:cH) (outer:List Env) (s:aI) (H:ay) (vs:List V) (Q:dj) (E:eF),cW k (A.deeper (envOfC qual scope s.heap.objs.size f bu))->sp vs H Q E ->
   ∃t,fF (eN d6 P w K mg base N qual scope f bu A outer s H E) body t/\t {bK:=λ_ aa=>Q .e0 aa,d4:=Q} (start N vs) H):
  ez P w K mg base d6 (k+1) f (lU name qual params body scope zk dG doc pm an bu dN) ps sp:=by
 refine⟨len,λA outer s H args us vs Q E au b7 U r qC=>?_⟩
 have aB:=len _ _ _ _ qC;have kc:K.In s.heap:=b7.mod.oq.keeps λb o e=>(b7.bs b o e).1;have lim:s.heap.NoLimit:=b7.mod.nolimit.keeps λb o e=>(b7.bs b o e).1;have Gv:∀y∈ps.zip us,scope.names.lookup y.1=some .local\/(scope.names.lookup y.1=some .cell/\((cellsFrom (s.heap.objs.size+1) scope.names []).lookup y.1).isSome=true):=λ⟨n,v⟩ a7=>by
  rcases S.par n (List.of_mem_zip a7).1 with q|q
  ·exact .inl q
  ·exact .inr ⟨q,PySem.W.cellsFrom_some _ _ _ (.inl q)⟩
 refine codeAny_call_function au.depth (kc _ _ lk) rfl S.co S.gen rfl (PySem.W.codeRec_of kc eZ) (U _ _ _ _ ?_)
 refine wpAny_newFunctionEnv_cells S.kind Gv λenv he s1 x=>?_
 subst he;refine⟨lim.keeps x.toInCall.keep,codeAny_func ?_⟩;obtain⟨t,aX,a3⟩:=pI A outer s H vs Q E (au.deeper _) qC;have I:Inv (eN d6 P w K mg base N qual scope f bu A outer s H E) [] (start N vs) H s1:=RE S au.hd b7 aB r x;refine e2 (aX [] s1 (start N vs) H _ I a3) (λdT s' aA=>?_) λe s' aA=>aA;have fin:∀{cg:St} {aa:ay} {v:V} {u:aj},Inv (eN d6 P w K mg base N qual scope f bu A outer s H E) [] cg aa s'->RelV v u->Q v aa->yV outer P w H s Q u s':=
  λ{cg aa v u} J bP q=>⟨v,aa,J.os,J.bare,J.base,J.bO,bP,q⟩
 cases dT with
|ret u=>
  obtain⟨v,cg,aa,J,bP,q⟩:=aA;exact fin J bP q
|next=>
  obtain⟨cg,aa,J,q⟩:=aA;exact fin (v:=V.e0) (u:=Value.none) J rfl q
|brk=>
  obtain⟨_,_,_,q⟩:=aA;exact ed q
|cont=>
  obtain⟨_,_,_,q⟩:=aA;exact ed q
end bh
namespace bh
open PySem PySem.Spec PyProof.Rows
section
variable {X:aV}{x:Str}{p pos:Pos}{e:bj}{es:List bj}{t:fS}{id T:String}{r:List V->ay->dj->Prop}
def JA(r:List V->ay->dj->Prop)(t:fS):TE:=λσ H Q=>t σ H λvs H1=>r vs H1 Q
def CV(ax:lq X (.builtin id) r)(bl:ei X x)(hm:X.mg x=none)(br:bootBuiltins x=some (.builtin id))(av:f5 X (e::es) t)(a6:x≠"__name__":=by decide)(gc:(x==("__debug__":Str))=false:=by decide)
  (he:bo (e::es) X.env=(false,eval e X.env)::bo es X.env:=by rfl) (hpl:(dM pos (bo es X.env)).any (·.1)=false:=by rfl):bQ X (.Call (.Name x p) (e::es) [] pos) (JA r t):=by
 intro ai s σ H Q I h;refine oJ (tL I bl hm br ?_ a6 gc);exact PyProof.Rows.callWith_builtin1 (cN (av pos ai s σ H _ I h) λus s1 ⟨vs,H1,a_,bg,aM⟩=>ax ai s1 σ H1 vs us Q a_ bg aM) he hpl
def K3(ax:lq X (.type T) r)(bl:ei X x)(hm:X.mg x=none)(br:bootBuiltins x=some (.type T))(av:f5 X (e::es) t)(a6:x≠"__name__":=by decide)(gc:(x==("__debug__":Str))=false:=by decide)
  (he:bo (e::es) X.env=(false,eval e X.env)::bo es X.env:=by rfl) (hpl:(dM pos (bo es X.env)).any (·.1)=false:=by rfl):bQ X (.Call (.Name x p) (e::es) [] pos) (JA r t):=by
 intro ai s σ H Q I h;refine oJ (tL I bl hm br ?_ a6 gc);exact uU (cN (av pos ai s σ H _ I h) λus s1 ⟨vs,H1,a_,bg,aM⟩=>ax ai s1 σ H1 vs us Q a_ bg aM) he hpl
end
end bh
namespace MG
open PySem PyProof.Rows
section
variable {prog:cA}{w:bZ}{A:cH}{E:aj->aI->Prop}{s:aI}
def W5{t b:ag}{vs ws:List aj}{Q:aj->aI->Prop}(aX:IsTup s.heap t vs.toArray)(U:IsTup s.heap b ws.toArray)(br:vs≠[])
  (af:ws=[]->Q (.ref t) s) (ak:ws≠[]->Q (.ref s.heap.objs.size) {s with heap:=s.heap.push {cls:=.type "tuple",data:=.seq (vs++ws).toArray} })
  (hsz:vs.length+ws.length<=cG):bD (bL prog w) A (nA .Add (.ref t) (.ref b)) Q E s:=by
 obtain⟨⟨cls,dd,data,dK⟩,aF,ax,n,hd⟩:=id aX;obtain⟨⟨Fy,mf,data2,hS⟩,ame,kT,gd,hd2⟩:=id U;simp only at ax hd kT hd2;subst ax hd kT hd2;have e:vs.toArray++ws.toArray=(vs++ws).toArray:=by simp
 by_cases hw:ws=[]
 ·exact concat_meets ⟨_,aF,rfl⟩ ⟨_,ame,rfl⟩ noFill_tuple_add seq_tuple_add PySem.F.slot_tuple_add PySem.F.entry_tuple_add (PySem.F.args_tuple_add_2 _ _)
   (tuple_addW1 t b vs.toArray ws.toArray n gd dd mf dK hS (by simpa using br) (by simp[hw])) ⟨aF,ame,af hw⟩
 ·refine concat_meets ⟨_,aF,rfl⟩ ⟨_,ame,rfl⟩ noFill_tuple_add seq_tuple_add PySem.F.slot_tuple_add PySem.F.entry_tuple_add (PySem.F.args_tuple_add_2 _ _)
   (tuple_addW2 t b vs.toArray ws.toArray n gd dd mf dK hS (by simpa using br) (by simpa using hw) (by rw[eQ,eQ];exact hsz)) ⟨aF,ame,?_⟩
  rw[e];exact ak hw
def Bo(n d:Nat):Option Int->Nat
|none=>d
|some v=>if v<0 then (v+(n:Int)).toNat else min v.toNat n
end
end MG
namespace bh
open PySem PySem.Spec PyProof.Rows
abbrev cj:=St->ay->(Option Int->ay->Prop)->Prop
section
variable {X:aV}{e:bj}{jB:TE}{lo bc:Option bj}{mA th:cj}{pos fM:Pos}
noncomputable def akX(K:a9):gE:=λx y H Q=>∃a b xs ys,x=.ref a/\y=.ref b/\c3 K H a xs/\c3 K H b ys/\xs≠[]/\xs.length+ys.length<=cG /\
 (ys=[]->Q (.ref a) H)/\(ys≠[]->∀p,H p=none->Q (.ref p) (upd H p (.tup (xs++ys))))
def Vals.A4{xs:List V}{us:List aj}(r:Vals xs us):us=[] <-> xs=[]:=by
 cases r with
|nil=>simp
|cons _ _=>simp
def ajl:e5 X (nA .Add) (akX X.K):=by
 intro ai s σ H x y v u Q I aW bx h;obtain⟨a,b,xs,ys,rfl,rfl,av,U,hx,aq,aM,bb⟩:=h;cases aW;cases bx;obtain⟨its,bg,nt,_⟩:=I.tuple av;obtain⟨ha,b5,fM,_⟩:=I.tuple U;refine MG.W5 nt fM (λz=>hx (bg.A4.mp z)) (λz=>⟨.ref a,H,I,rfl,aM (b5.A4.mp z)⟩) (λz=>?_) (by rw[<- bg.length,<- b5.length];exact aq);refine⟨.ref s.heap.objs.size,_,I.laid (t':=s.toks) (o:=.tup (xs++ys)) (λb dD q=>c2 _ q) (el _) ?_,rfl,bb (λw=>z (b5.A4.mpr w)) _ (I.bO.fresh (el _))⟩;exact⟨by rw[mD];exact aq,_,bg.append b5,IsTup.new _ _⟩
end
end bh
namespace bh
open PySem PySem.Spec PyProof.Rows
def qF(n:Nat)(i:Int):Option Nat:=if 0<=i then (if i<n then some i.toNat else none) else if -(n:Int)<=i then some (i+n).toNat else none
def wa{α:Type}(xs:List α)(i:Int):Option α:=(qF xs.length i).bind λj=>xs[j]?
def ajy{n:Nat}{i:Int}{j:Nat}(h:qF n i=some j):seqIndex? i n=some j/\j<n/\-(n:Int)<=i/\i<n:=by
 unfold qF at h;by_cases h0:0<=i
 ·rw[if_pos h0] at h;by_cases af:i<n
  ·rw[if_pos af] at h;have e:i.toNat=j:=ef h;exact⟨by rw[seqIndex_of h0 af,e],by omega,by omega,af⟩
  ·rw[if_neg af] at h;cases h
 ·rw[if_neg h0] at h;by_cases af:-(n:Int)<=i
  ·rw[if_pos af] at h;have e:(i+n).toNat=j:=ef h;exact⟨by rw[seqIndex_neg (by omega) af,e],by omega,af,by omega⟩
  ·rw[if_neg af] at h;cases h
def LO{α:Type}{xs:List α}{i:Int}{v:α}(h:wa xs i=some v):∃j,seqIndex? i xs.length=some j/\xs[j]?=some v/\j<xs.length/\-(xs.length:Int)<=i/\i<xs.length:=by
 unfold wa at h;cases e:qF xs.length i with
|none=>rw[e] at h;cases h
|some j=>
  rw[e] at h;obtain⟨af,ak,bB,c1⟩:=ajy e;exact⟨j,af,h,ak,bB,c1⟩
def Ta(b:bj):Prop:=∀o i,subscripted b false o i=operate [o,i] (getItem o i)
noncomputable def pe(X:aV)(r:gE):Prop:=
 ∀(value slice:bj) (ai:List (ag×Obj)) (s:aI) (σ:St) (H:ay) (x y:V) (v u:aj) (Q:dj),Inv X ai σ H s->RelV x v->RelV y u->r x y H Q ->
  subscripted slice false v u=operate [v,u] (getItem v u)->bD (bL X.prog X.w) X.A (subscriptTail value slice v u) (h3 X ai σ Q) X.c8 s
noncomputable def MJ(X:aV)(id:String)(r:V->List V->ay->dj->Prop):Prop:=
 ∀(ai:List (ag×Obj)) (s:aI) (σ:St) (H:ay) (x:V) (xs:List V) (v:aj) (us:List aj) (Q:dj),Inv X ai σ H s->RelV x v->Vals xs us->r x xs H Q ->
  bD (bL X.prog X.w) X.A (call (.builtin id) (v::us)) (h3 X ai σ Q) X.c8 s
section
variable {X:aV}{a b:bj}{cF c6:TE}{pos:Pos}
def pe.or{r cq:gE}(h:pe X r)(h':pe X cq):pe X (λx y H Q=>r x y H Q\/cq x y H Q):=by
 intro value slice ai s σ H x y v u Q I aW bx q aA;rcases q with q|q
 ·exact h value slice ai s σ H x y v u Q I aW bx q aA
 ·exact h' value slice ai s σ H x y v u Q I aW bx q aA
def ak7{r:gE}(au:pe X r)(av:bQ X a cF)(U:bQ X b c6)(aA:Ta b):bQ X (.Subscript a b pos) (uK r cF c6):=by
 intro ai s σ H Q I h;exact Subscript_ (EE av U I h λv u s2 x y bk cB aW bx q=>au a b ai s2 σ bk x y v u Q cB aW bx q (aA _ _))
def Pe(K:a9):gE:=λx y H Q=>∃p xs i v,x=.ref p/\y=.int i/\gP K H p xs/\wa xs i=some v/\Q v H
def Pg(K:a9):gE:=λx y H Q=>∃p xs i v,x=.ref p/\y=.int i/\c3 K H p xs/\wa xs i=some v/\Q v H
def Pf:gE:=λx y H Q=>∃z i c,x=.str z/\y=.int i/\z.length<=cG/\wa z.cps.toList i=some c/\Q (.str ⟨#[c]⟩) H
def ajw:pe X (Pe X.K):=by
 intro value slice ai s σ H x y v u Q I aW bx h aA;obtain⟨p,xs,i,z,rfl,rfl,a3,he,q⟩:=h;cases aW;obtain⟨t,rfl⟩:=bx;obtain⟨its,r,pl,aq⟩:=I.list a3;obtain⟨j,af,ak,bB,c1,gT⟩:=LO he;obtain⟨w,m_,j1⟩:=r.get ak;have aB:=r.length;have a6:=vM;have fin:h3 X ai σ Q w s:=⟨z,H,I,j1,q⟩;by_cases h0:0<=i
 ·have bR:i.toNat=j:=by
   rw[seqIndex_of h0 gT] at af;exact ef af
  exact item_listR pl.isList h0 (by omega) (by rw[bR];simpa using m_) fin aA
 ·have bR:(i+(its.toArray.size:Int)).toNat=j:=by
   rw[seqIndex_neg (by omega) c1] at af;rw[eQ,<- aB];exact ef af
  exact subscriptTail_builtinR (x:=w) pl.isList.typeIs slot_list_getitem.lookup
   (wpAny_getItem_list_neg (Q:=λr s'=>r=w/\h3 X ai σ Q r s') pl.isList (by omega) (by rw[eQ] <;> omega) (by omega) (by rw[bR];simpa using m_) ⟨rfl,fin⟩) aA
def akx:pe X (Pg X.K):=by
 intro value slice ai s σ H x y v u Q I aW bx h aA;obtain⟨p,xs,i,z,rfl,rfl,a3,he,q⟩:=h;cases aW;obtain⟨t,rfl⟩:=bx;obtain⟨its,r,pl,aq⟩:=I.tuple a3;obtain⟨j,af,ak,bB,c1,gT⟩:=LO he;obtain⟨w,m_,j1⟩:=r.get ak;have aB:=r.length;have a6:=vM;have fin:h3 X ai σ Q w s:=⟨z,H,I,j1,q⟩;exact subscriptTail_builtinR (x:=w) pl.typeIs slot_tuple_getitem.lookup
  (getItem_tuple (j:=j) (Q:=λr s'=>r=w/\h3 X ai σ Q r s') pl (by omega) (by omega) (by rw[eQ,<- aB];exact af) (by simpa using m_) ⟨rfl,fin⟩) aA
def aky:pe X Pf:=by
 intro value slice ai s σ H x y v u Q I aW bx h aA;obtain⟨z,i,c,rfl,rfl,aq,he,q⟩:=h;obtain⟨t,rfl⟩:=aW;obtain⟨t',rfl⟩:=bx;obtain⟨j,af,ak,bB,c1,gT⟩:=LO he;have aB:z.cps.toList.length=z.length:=by simp[Str.length]
 rw[aB] at af c1 gT;have a6:=vM;exact tail_any (typeIs_str s z t) slot_str_getitem.lookup (getItem_str (c:=c) (by
  have aD:decide (i < -(2 ^ 63:Int))=false:=decide_eq_false (by omega);have aO:decide (i >= 2 ^ 63)=false:=decide_eq_false (by omega);rw[aD,aO,Bool.or_false]) (by rw[af];simpa using ak) ⟨.str ⟨#[c]⟩,H,I.tok _,⟨_,rfl⟩,q⟩) aA
def adP(K:a9):gE:=λx y H Q=>Pe K x y H Q\/Pg K x y H Q\/Pf x y H Q
def akz:pe X (adP X.K):=ajw.or (akx.or aky)
def agA:lq X (.builtin "len") (λxs H Q=>∃p ys,xs=[.ref p]/\(gP X.K H p ys\/c3 X.K H p ys)/\Q (.int ys.length) H):=by
 intro ai s σ H xs us Q I r h;obtain⟨p,ys,rfl,a3,q⟩:=h;obtain⟨u,rfl,aW⟩:=vals1 r;cases aW;have a6:=vM;rcases a3 with a3|a3
 ·obtain⟨its,cq,pl,aq⟩:=I.list a3;have hlen:=cq.length;exact Calls.call_len_list pl.isList (by simp only[eQ] <;> omega) ⟨.int ys.length,H,I.tok _,⟨s.toks+1,by rw[eQ,hlen]⟩,q⟩
 ·obtain⟨its,cq,pl,aq⟩:=I.tuple a3;have hlen:=cq.length;exact len_tuple pl (by simp only[eQ] <;> omega) ⟨.int ys.length,H,I.tok _,⟨s.toks+1,by rw[eQ,hlen]⟩,q⟩
def agz:lq X (.builtin "len") (λxs H Q=>∃z,xs=[.str z]/\z.length<=cG/\Q (.int z.length) H):=by
 intro ai s σ H xs us Q I r h;obtain⟨z,rfl,aq,q⟩:=h;obtain⟨u,rfl,t,rfl⟩:=vals1 r;have a6:=vM;exact len_str (by omega) ⟨.int z.length,H,I.tok _,⟨_,rfl⟩,q⟩
def lq.or{f:aj}{r cq:List V->ay->dj->Prop}(h:lq X f r)(h':lq X f cq):lq X f (λxs H Q=>r xs H Q\/cq xs H Q):=by
 intro ai s σ H xs us Q I rs q;rcases q with q|q
 ·exact h ai s σ H xs us Q I rs q
 ·exact h' ai s σ H xs us Q I rs q
def agy:lq X (.type "list") (λxs H Q=>∃p ys,xs=[.ref p]/\(gP X.K H p ys\/c3 X.K H p ys)/\∀l,H l=none->Q (.ref l) (upd H l (.lst ys))):=by
 intro ai s σ H xs us Q I r h;obtain⟨p,ys,rfl,a3,q⟩:=h;obtain⟨u,rfl,aW⟩:=vals1 r;cases aW;have fin:∀(its:List aj),Vals ys its->ys.length<=cG->∀(h':bE) (bW:Nat),(∀b o',s.heap.get? b=some o'->h'.get? b=some o') ->
   h'.get? s.heap.objs.size=some {cls:=.type "list",dict:=none,data:=.seq its.toArray bW,slots:=#[]}->h3 X ai σ Q (.ref s.heap.objs.size) {s with heap:=h'}:=λits cq aq h' bW aw e=>
  ⟨.ref s.heap.objs.size,_,I.laid (t':=s.toks) aw (el _) (show hj X.prog X.w _ h' _ (.lst ys) from ⟨aq,its,bW,cq,e⟩),rfl,q _ (I.bO.fresh (el _))⟩
 rcases a3 with a3|a3
 ·obtain⟨its,cq,pl,aq⟩:=I.list a3;have hlen:=cq.length;obtain⟨o,aF,ax,n,hd⟩:=pl.isList;exact call_list_seq p (.inl rfl) aF ax hd (λh' bW aw e=>fin its cq aq h' bW aw e) (by simp only[eQ] <;> omega)
 ·obtain⟨its,cq,pl,aq⟩:=I.tuple a3;have hlen:=cq.length;obtain⟨o,aF,ax,n,hd⟩:=pl;exact call_list_seq p (.inr rfl) aF ax hd (λh' bW aw e=>fin its cq aq h' bW aw e) (by simp only[eQ] <;> omega)
def agf:lq X (.type "tuple") (λxs H Q=>∃p ys,xs=[.ref p]/\((gP X.K H p ys/\∀l,H l=none->Q (.ref l) (upd H l (.tup ys)))\/(c3 X.K H p ys/\Q (.ref p) H))):=by
 intro ai s σ H xs us Q I r h;obtain⟨p,ys,rfl,h⟩:=h;obtain⟨u,rfl,aW⟩:=vals1 r;cases aW;rcases h with ⟨a3,q⟩|⟨a3,q⟩
 ·obtain⟨its,cq,pl,aq⟩:=I.list a3;have hlen:=cq.length;refine call_tuple_list pl.isList (λh' aw=>?_) (by simp only[eQ] <;> omega);have a_:Inv X ai σ H {s with heap:=h'}:=I.kept (t':=s.toks) aw;have cB:Inv X ai σ (upd H h'.objs.size (.tup ys)) {s with heap:=h'.push {cls:=.type "tuple",data:=.seq its.toArray} }:=
   a_.laid (t':=s.toks) (λb o e=>c2 _ e) (el _) (show hj X.prog X.w _ _ _ (.tup ys) from ⟨aq,its,cq,IsTup.new _ _⟩)
  exact⟨.ref h'.objs.size,_,cB,rfl,q _ (a_.bO.fresh (el _))⟩
 ·obtain⟨its,cq,pl,aq⟩:=I.tuple a3;exact call_tuple_same pl ⟨.ref p,H,I,rfl,q⟩
noncomputable def JL(K:a9)(T:String)(x:V)(H:ay):Prop:=match x with
|.str _=>T="str"
|.int _=>T="int"
|.ref p=>(T="list"/\∃xs,gP K H p xs)\/(T="tuple"/\∃o,K.lookup p=some o/\o.cls=.type "tuple"/\o.dict=none) \/
   (T="dict"/\((∃kvs,H p=some (.fo kvs))\/∃kvs,H p=some (.me kvs)))\/(T="set"/\∃S n,H p=some (.set S n))
|_=>False
def Tf{ai:List (ag×Obj)}{σ:St}{H:ay}{s:aI}{T:String}{x:V}{v:aj}(I:Inv X ai σ H s)(r:RelV x v)(ty:JL X.K T x H):
  s.TypeIs v T/\∀a,v=.ref a->∃dD,s.heap.get? a=some dD/\dD.dict=none:=by
 cases x with
|str z=>
  obtain⟨t,rfl⟩:=r;cases (show T="str" from ty);exact⟨typeIs_str s z t,λ_ e=>nomatch e⟩
|int i=>
  obtain⟨t,rfl⟩:=r;cases (show T="int" from ty);exact⟨typeIs_int s i t,λ_ e=>nomatch e⟩
|ref p=>
  cases r
  rcases ty with ⟨rfl,xs,a3⟩|⟨rfl,o,aL,ax,hd⟩|⟨rfl,aL⟩|⟨rfl,S,n,aL⟩
  ·obtain⟨its,_,pl,_⟩:=I.list a3;refine⟨pl.isList.typeIs,λa e=>?_⟩;cases e;obtain⟨o,n,e,c,hd,_⟩:=pl;exact⟨o,e,hd⟩
  ·refine⟨⟨o,I.ju p o aL,ax⟩,λa e=>?_⟩
   cases e
   exact⟨o,I.ju _ o aL,hd⟩
  ·have z:∃o,s.heap.get? p=some o/\o.ExactDict:=by
    rcases aL with ⟨kvs,aL⟩|⟨kvs,aL⟩
    ·obtain⟨_,_,_,_,o,_,_,e,ex,_⟩:=I.bO p _ aL;exact⟨o,e,ex⟩
    ·obtain⟨_,_,_,_,o,_,_,e,ex,_⟩:=I.bO p _ aL;exact⟨o,e,ex⟩
   obtain⟨o,e,ex⟩:=z;refine⟨⟨o,e,ex.1⟩,λa aO=>?_⟩;cases aO;exact⟨o,e,ex.2.1⟩
  ·obtain⟨o,_,_,_,e,ex,_⟩:=I.bO p _ aL;refine⟨⟨o,e,ex.1⟩,λa aO=>?_⟩;cases aO;exact⟨o,e,ex.2.1⟩
|_=>exact ed ty
def ae5(K:a9)(T:String)(r:V->List V->ay->dj->Prop)(to:TE):TE:=λσ H Q=>to σ H λx H1=>JL K T x H1/\r x [] H1 Q
def ae4(K:a9)(T:String)(r:V->List V->ay->dj->Prop)(to:TE)(t:fS):TE:=λσ H Q=>to σ H λx H1=>JL K T x H1/\t σ H1 λxs bk=>r x xs bk Q
variable {o e:bj}{es:List bj}{to:TE}{t:fS}{name:Str}{apos eU:Pos}{T id:String}{r:V->List V->ay->dj->Prop}
def Tx(lL:PlainAttrs T)(slot:Slot T name id)(GI:typeOf (.builtin id)=pure (.type "method_descriptor"))(hm:MJ X id r)(aF:bQ X o to)
  (nd:jf o name X.env (eval o X.env)=eval o X.env:=by rfl) (nf:(apos.endLine==eU.line)=true:=by rfl):bQ X (.Call (.Attribute o name apos) [] [] eU) (ae5 X.K T r to):=by
 intro ai s σ H Q I h;refine wpAny_Call_method0_late nd nf (cN (aF ai s σ H _ I h) λv s1 ⟨x,H1,a_,bg,ty,aM⟩=>?_);obtain⟨af,ak⟩:=Tf a_ bg ty;exact⟨T,id,lL,slot,GI,af,ak,Calls.callWith_builtin rfl (PySem.evalArgs_none (hm ai s1 σ H1 x [] v [] Q a_ bg .nil aM))⟩
def Uc(lL:PlainAttrs T)(slot:Slot T name id)(GI:typeOf (.builtin id)=pure (.type "method_descriptor"))(hm:MJ X id r)(aF:bQ X o to)(av:f5 X (e::es) t)
  (nd:jf o name X.env (eval o X.env)=eval o X.env:=by rfl)
  (wC:((dM eU (bo (e::es) X.env)).all (λx=>!x.1) && (mG eU (mF [] X.env)).all (λx=>x.1.isSome)
   && decide ((e::es).length+([]:List Keyword).length+(if ([]:List Keyword).isEmpty then 0 else 1)<30))=true:=by rfl)
  (nf:(apos.endLine==eU.line)=true:=by rfl) (aA:bo (e::es) X.env=(false,eval e X.env)::bo es X.env:=by rfl) (wL:(dM eU (bo es X.env)).any (·.1)=false:=by rfl):
  bQ X (.Call (.Attribute o name apos) (e::es) [] eU) (ae4 X.K T r to t):=by
 intro ai s σ H Q I h;refine wpAny_Call_method_late nd wC nf rfl (cN (aF ai s σ H _ I h) λv s1 ⟨x,H1,a_,bg,ty,aM⟩=>?_);obtain⟨af,ak⟩:=Tf a_ bg ty;refine⟨T,id,lL,slot,GI,af,ak,?_⟩;have qt:=av eU ai s1 σ H1 _ a_ aM;rw[aA] at qt ⊢;refine Calls.callWith_builtin (by show (false || (dM eU (bo es X.env)).any (·.1))=false;rw[wL] <;> rfl) (Calls.evalArgs_plain ?_);exact cN qt λus s2 ⟨vs,bk,cB,b5,bb⟩=>hm ai s2 σ bk x vs v us Q cB bg b5 bb
end
end bh
namespace bh
open PySem PySem.Spec PyProof.Rows
noncomputable def v5(X:aV)(id:String)(r:V->List V->ay->dj->Prop):Prop:=
 ∀(ai:List (ag×Obj)) (s:aI) (σ:St) (H:ay) (x:V) (xs:List V) (v:aj) (us:List aj) (Q:dj),Inv X ai σ H s->RelV x v->Vals xs us->r x xs H Q ->
  bD (bL X.prog X.w) X.A (call (.builtin id) (v::us)) (h3 X ai σ Q) X.c8 s
def Vals.one:∀{x:V} {us:List aj},Vals [x] us->∃u,us=[u]/\RelV x u
|_,_,.cons r .nil=>⟨_,rfl,r⟩
def Vals.two:∀{x y:V} {us:List aj},Vals [x,y] us->∃u v,us=[u,v]/\RelV x u/\RelV y v
|_,_,_,.cons r (.cons q .nil)=>⟨_,_,rfl,r,q⟩
def Vals.zero:∀{us:List aj},Vals [] us->us=[]
|_,.nil=>rfl
theorem Vals.dropLast{xs:List V}{us:List aj}(h:Vals xs us):Vals xs.dropLast us.dropLast:=by
 induction h with
|nil=>exact .nil
|cons r t b8=>
  cases t with
  |nil=>exact .nil
  |cons q t'=>exact .cons r b8
theorem Vals.eraseIdx:∀{xs:List V} {us:List aj} (i:Nat),Vals xs us->Vals (xs.eraseIdx i) (us.eraseIdx i)
|_,_,_,.nil=>.nil
|_,_,0,.cons _ t=>t
|_,_,i+1,.cons r t=>.cons r (Vals.eraseIdx i t)
def ag8{α:Type}(l:List α):l.eraseIdx (l.length - 1)=l.dropLast:=by
 induction l with
|nil=>rfl
|cons a r b8=>
  cases r with
  |nil=>rfl
  |cons b r=>
   have e:(a::b::r).length - 1=((b::r).length - 1)+1:=by
    have af:(a::b::r).length=r.length+2:=rfl;have ak:(b::r).length=r.length+1:=rfl;omega
   rw[e,List.eraseIdx_cons_succ,b8]
   all_goals rfl
theorem Rz{α:Type}:∀(l:List α) (i:Nat),(l.eraseIdx i).length<=l.length
| [],_=>el _
|_::_,0=>gB _
|_::r,i+1=>Nat.succ_le_succ (Rz r i)
section
variable {X:aV}{ai:List (ag×Obj)}{σ:St}{H:ay}{s:aI}{l b:ag}{xs ys zs:List V}
def Inv.AX{its its':List aj}{n:Nat}{f:Array aj->Array aj}{t':Nat}(I:Inv X ai σ H s)(eY:H l=some (.lst xs))
  (e:s.heap.get? l=some {cls:=.type "list",data:=.seq its.toArray n}) (hf:f its.toArray=its'.toArray) (br:Vals ys its') (aq:ys.length<=cG):
  Inv X ai σ (upd H l (.lst ys)) {s with heap:=s.heap.update l (Obj.mapSeq f),toks:=t'}:=by
 have q:=PySem.IsL.update e f;rw[hf] at q;refine I.write (x:=l) (e:=l) (by rw[eY];exact trivial) (.inl rfl) (λpx u U bM=>(BH s.heap (Obj.mapSeq f) (Ne.symm U)).trans bM) ⟨_,q⟩ ?_;exact⟨aq,its',_,br,q⟩
def Inv.AW{its:List aj}{t':Nat}(I:Inv X ai σ H s)(br:Vals ys its)(aq:ys.length<=cG):
  Inv X ai σ (upd H s.heap.objs.size (.lst ys)) {s with heap:=s.heap.push {cls:=.type "list",data:=.seq its.toArray},toks:=t'}:=
 I.laid (λ_ _ q=>c2 _ q) (el _) ⟨aq,its,0,br,gY _ rfl⟩
theorem Inv.fresh(I:Inv X ai σ H s):H s.heap.objs.size=none:=I.bO.fresh (el _)
def Inv.AY(I:Inv X ai σ H s)(eY:H l=some (.lst xs)):xs.length<=cG/\∃(its:List aj) (n:Nat),Vals xs its/\xs.length=its.length/\s.heap.get? l=some {cls:=.type "list",data:=.seq its.toArray n}:=by
 obtain⟨z,its,n,r,e⟩:=I.bO l _ eY;exact⟨z,its,n,r,r.length,e⟩
end
section
variable {X:aV}
def ai5:V->List V->ay->dj->Prop:=λx vs H Q=>∃l xs y,x=.ref l/\vs=[y]/\H l=some (.lst xs)/\xs.length<cG/\Q .e0 (upd H l (.lst (xs++[y])))
def Ry:v5 X "list.append" ai5:=by
 intro ai s σ H x vs v us Q I aW bP h;obtain⟨l,xs,y,rfl,rfl,eY,aq,q⟩:=h;cases aW;obtain⟨u,rfl,c9⟩:=bP.one;obtain⟨z,its,n,r,aB,e⟩:=I.AY eY;refine call_meets F.slot_list_append ⟨_,e,rfl⟩ F.entry_list_append (F.args_list_append_2 _ _) (PySem.list_append l its.toArray n u (by rw[eQ];omega)) ⟨e,?_⟩;refine⟨.e0,_,I.AX (its':=its++[u]) eY e (by simp) (r.append (.cons c9 .nil)) ?_,rfl,q⟩;rw[mD,List.length_singleton];omega
def Jn:V->List V->ay->dj->Prop:=λx vs H Q=>∃l xs y,x=.ref l/\vs=[]/\H l=some (.lst xs)/\xs[xs.length - 1]?=some y/\Q y (upd H l (.lst xs.dropLast))
def TL:v5 X "list.pop" Jn:=by
 intro ai s σ H x vs v us Q I aW bP h;obtain⟨l,xs,y,rfl,rfl,eY,a7,q⟩:=h;cases aW;have _g:=bP.zero;subst _g;obtain⟨z,its,n,r,aB,e⟩:=I.AY eY;obtain⟨u,bM,c9⟩:=r.get a7;have GL:its.toArray[its.toArray.size - 1]?=some u:=by
  show its.toArray[its.length - 1]?=some u
  rw[<- Array.getElem?_toList,<- aB];exact bM
 refine call_meets F.slot_list_pop ⟨_,e,rfl⟩ F.entry_list_pop (F.args_list_pop_1 _) (MeetsSeq.list_pop_last l its.toArray n u GL (by rw[eQ];omega)) ⟨e,?_⟩
 refine⟨y,_,I.AX (its':=its.dropLast) eY e ?_ r.dropLast ?_,c9,q⟩
 ·show its.toArray.eraseIdxIfInBounds (its.toArray.size - 1)=its.dropLast.toArray
  rw[eQ,List.eraseIdxIfInBounds_toArray,ag8]
 ·rw[List.length_dropLast];omega
end
end bh
namespace Mr
open PySem PySem.W PySem.Calls PyProof.Rows
def afZ{P:Params}{h:bE}:∀(ns:List Int) (vs:List aj),WellAll P h vs (ns.map WData.int)->IntsAre vs ns:=by
 intro ns
 induction ns with
|nil=>
  intro vs w;rw[gZ] at w;cases w;exact .nil
|cons n ns b8=>
  intro vs w;rw[dh] at w;cases w with
  |cons a b=>
   cases a
   exact .cons _ _ (b8 _ b)
def ahp{l:OpenLaw}{n:Nat}(a6:l.most=some n){P:Params}{h:bE}{args:List WData}{vals:List aj}
    (Ad:l.row.toRowW.claim.pre args=true) (GJ:WellAll P h vals args):
    ∃a vs ns,vals=[Value.ref a]/\args=[WData.list (ns.map WData.int)]/\h.get? a=some {cls:=.type "list",data:=.seq vs.toArray}/\IntsAre vs ns/\ns.length<=n:=by
  have Z_:WShape.hasAll [] args [.list .int]=true:=(pre_splitW Ad).1;have ax:l.pre.holds [] {args:=args}=true:=(pre_splitW Ad).2;obtain⟨d,r,rfl,af,ak⟩:=hasAllW_cons Z_;obtain rfl:=hasAllW_nil ak;obtain⟨xs,rfl,bB⟩:=hasW_list af;obtain⟨ns,rfl⟩:=items_int bB;have hlen:ns.length<=n:=by
    unfold OpenLaw.pre at ax;have c1:(WTm.not (.lt (.lit (.int (n:Int))) (.len (.arg 0)))).holds [] {args:=[.list (ns.map .int)]}=true:=by
      have c1:=(holds_andW ax).1;rw[a6] at c1;exact c1
    have gT:=condW_of c1 (w_not (w_lt w_lit (w_len_list (w_arg rfl))));rw[e1] at gT;refine Nat.le_of_not_lt λq=>?_;have d8:(n:Int)<((ns.length:Nat):Int):=by omega
    first
      | (rw[decide_eq_true d8] at gT;exact absurd gT (by decide))
      | (simp at gT;omega)
  cases GJ with
  |cons BB xv=>
    cases xv
    cases BB with
    |list aF Zn=>exact⟨_,_,ns,rfl,rfl,aF,afZ ns _ Zn,hlen⟩
def ahu(l:OpenLaw)(args:List WData):l.row.toRowW.claim.post args (.bool true) args=true:=
 postW_of (r:=l.row.toRowW) (X:=(true==true))
  (show WShape.has [] (.bool true) .bool=true by first|rfl|decide|simp[WShape.has,WShape.arms,WShape.armsAll])
  (show (WTm.eq .res (.lit (.bool true))).value [] {args:=args,res:=some (.bool true),after:=args}=some (.bool (true==true)) from w_eq_bool (w_res rfl) w_lit) rfl
def WY{l:OpenLaw}{n:Nat}{q:cA}{loose:List Str}{t5:(Str->Option aj)->bE->Prop}{nY:bZ->bE->Prop}{d:DefRec}
  (a6:l.most=some n) (wB:d.params.defaults=[])
  (call:∀(w:bZ) (c' cU:aI) (mg lJ:Str->Option aj) (bN:ag) (o:Obj) (pm cd doc:aj) (a:ag) (vs:List aj) (ns:List Int),
   Ground q loose [] t5 w c' mg lJ cU.heap->nY w cU.heap ->
   cU.heap.get? bN=some o->o.data=.func (docDef d.name d.params d.body d.scope pm cd doc)->cU.heap.CodeRec cd d.name->mg d.name=some (.ref bN) ->
   cU.heap.get? a=some {cls:=.type "list",data:=.seq vs.toArray}->IntsAre vs ns->ns.length<=n->cU.gens=#[] ->
   iG (bL l.prog w) callerA (.call (.ref bN) ⟨[.ref a],[]⟩) (λr s'=>r=.ok (.ret (.bool true))/\OldK cU.heap s'.heap/\s'.os=cU.os/\AllBare s'.gens) cU):
  WalkO q loose t5 nY l.row.toRowW d [] (λf vs=>PySem.call f vs):=by
 intro w c' cU mg lJ G Y bN o pm cd doc zk dG aF hd eZ kk wH bl args vals as Ad alF alN GJ alG;obtain rfl:zk=.none:=Dflts.none kk wB;obtain rfl:dG=.none:=Dflts.noKw kk;obtain⟨a,vs,ns,rfl,rfl,Gy,hints,hlen⟩:=ahp a6 Ad GJ;refine enter_call (al6 (call w c' cU mg lJ bN o pm cd doc a vs ns G Y aF (fd_plain hd) eZ wH Gy hints hlen bl) λr s' a3=>?_);obtain⟨rfl,ak,bB,c1⟩:=a3;exact⟨.inl ⟨.bool true,.bool true,[],rfl,λ_=>rfl,.bool true,ahu l _,λ_=>⟨List.Pairwise.nil,λ_ hm=>(nomatch hm)⟩⟩,ak,bB,c1⟩
end Mr
namespace bh
open PySem PySem.Spec PyProof.Rows
theorem Rk:∀{vs:List aj} {ns:List Int},IntsAre vs ns->Vals (ns.map V.int) vs
|_,_,.nil=>.nil
|_,_,.cons n t h=>.cons ⟨t,rfl⟩ (Rk h)
end bh
namespace bh
open PySem PySem.Spec PyProof.Rows
end bh
namespace bh
open PySem PySem.Spec PyProof.Rows
def inClass(s:Stmt)(j:Nat):Stmt:=match s with
|.ClassDef _ _ _ body _ _ _ _ _ _ _=>body.getD j (.Pass ⟨0,0,0,0⟩)
|_=>.Pass ⟨0,0,0,0⟩
noncomputable def nH(s:Stmt):Arguments:=match s with
|.FunctionDef _ a _ _ _ _ _ _ _ _=>a
|_=>{posonlyargs:=[],args:=[],vararg:=none,kwonlyargs:=[],kw_defaults:=[],kwarg:=none,defaults:=[]}
def fc(s:Stmt):List Stmt:=match s with
|.FunctionDef _ _ b _ _ _ _ _ _ _=>b
|_=>[]
def bt(s:Stmt):Scope:=match s with
|.FunctionDef _ _ _ _ _ _ sc _ _ _=>sc
|_=>{kind:=.function,names:=[],isGenerator:=false,isCoroutine:=false}
abbrev di:lr:=λ_ _ _ _ _ _=>False
abbrev jm:eF:=λ_ _ _=>False
def o4{X:aV}:Passes di X jm:=λ_ _ _ _ _ _ _ h=>h.elim
structure alX(K:a9)(x qual:Str)(st:Stmt)(f:ag)(fd:dV):Prop where
 ex:∃(gV:aj) (ec:Option ag) (dG doc pm:aj) (an:Option ag) (bu dN:aj) (jZ:Array (Option aj)),
  fd=lU x qual (nH st) (fc st) (bt st) .none dG doc pm an bu dN/\K.lookup f=some ⟨gV,ec,.func fd,jZ⟩/\qZ K bu qual=true
 aw:kv K (.ref f)=true
section
variable {P:cA}{w:bZ}{K:a9}{mg:Str->Option aj}{base:bE}
def alX.ok{x qual:Str}{st:Stmt}{f:ag}{fd:dV}{N ps:List Str}{k:Nat}{sp:jQ}(F:alX K x qual st f fd)(S:cK N ps (bt st))(len:∀vs H Q E,sp vs H Q E->vs.length=ps.length)
  (pI:∀(bu:aj) (A:cH) (outer:List Env) (s:aI) (H:ay) (vs:List V) (Q:dj) (E:eF),cW k (A.deeper (envOfC qual (bt st) s.heap.objs.size f bu))->sp vs H Q E ->
   ∃t,fF (eN di P w K mg base N qual (bt st) f bu A outer s H E).dv (fc st) t/\t {bK:=λ_ aa=>Q .e0 aa,d4:=Q} (start N vs) H):ez P w K mg base di (k+1) f fd ps sp:=by
 obtain⟨gV,ec,dG,doc,pm,an,bu,dN,jZ,rfl,lk,eZ⟩:=F.ex;refine Mj lk eZ S len λA outer s H vs Q E au qC=>?_;obtain⟨t,h,q⟩:=pI bu A outer s H vs Q E au qC;exact⟨t,h.dv,q⟩
def alX.binds{x qual:Str}{st:Stmt}{f:ag}{fd:dV}{ps:List Str}(F:alX K x qual st f fd)
  (h:∀(dG doc pm:aj) (an:Option ag) (bu dN:aj) (us:List aj),us.length=ps.length->bindArgs (lU x qual (nH st) (fc st) (bt st) .none dG doc pm an bu dN) ⟨us,[]⟩=pure (ps.zip us)):Binds K fd ps []:=by
 obtain⟨gV,ec,dG,doc,pm,an,bu,dN,jZ,rfl,lk,eZ⟩:=F.ex;exact .all (h dG doc pm an bu dN)
def dp{x qual:Str}{st:Stmt}{f:ag}{gV:aj}{ec an:Option ag}{jZ:Array (Option aj)}{dG doc pm bu dN:aj}(l:K.lookup f=some ⟨gV,ec,.func (lU x qual (nH st) (fc st) (bt st) .none dG doc pm an bu dN),jZ⟩)
  (c:qZ K bu qual=true) (k:kv K (.ref f)=true):alX K x qual st f (lU x qual (nH st) (fc st) (bt st) .none dG doc pm an bu dN):=⟨⟨gV,ec,dG,doc,pm,an,bu,dN,jZ,rfl,l,c⟩,k⟩
end
def yP{A:cH}{k:Nat}(au:cW k A):A.units+1<cLine:=Nat.lt_of_le_of_lt (Nat.add_le_add_left (by decide:1<=64) _) au.units
section
variable {X:aV}
def aT(i:Nat){x:Str}{pos:Pos}(eB:X.N[i]?=some x:=by rfl)(br:qi X.env.scope x:=by first|exact Or.inl rfl|exact Or.inr (Or.inl rfl)|exact Or.inr (Or.inr rfl))(hd:(x==("__debug__":Str))=false:=by decide)
  (eZ:(x==("__classdict__":Str))=false:=by decide):bQ X (.Name x pos) (fU i):=akf eB br hd eZ
end
def sE{A B:Prop}(h:B):if false=true then A else B:=by
 rw[if_neg BF];exact h
def sF{A B:Prop}(h:A):if true=true then A else B:=by
 rw[if_pos rfl];exact h
def VU(H aa:ay):Prop:=∀b o,H b=some o->aa b=some o
end bh
end
section
namespace D
open PySem
abbrev T:=PyData
def iy(a:T):Bool:=a.canLay0 && decide (a.depth<=60)
def pP(as:List T):Bool:=j5 as && decide (j4 as<=60)
abbrev Key:=Sum Int Str
inductive gm where
|cI|own|b_
 deriving DecidableEq
inductive aJ where
|ae (t:T)|own (ts:List T)|hp (kvs:List (Key×T))|obj (m:gm) (c:Nat) (ar:List aJ)
abbrev Ev:=List (Option aJ)
inductive Out where
|bK (ε:Ev)|d4 (t:T)|gp (ε:Ev)|dN (ε:Ev)|ij (t:T) (ε:Ev)|kZ (s:aJ)
abbrev bz:=Ev->Option T
abbrev eT:=Ev->Option Bool
abbrev bA:=Ev->Option Out
abbrev al1:=Ev->Option (List T)
abbrev iJ:=T->Ev->Option Ev
def big:Nat:=16777216
noncomputable def dC:T->T->Option T
|.int i,.int j=>some (.int (i+j))
|.str x,.str y=>if x.length+y.length<=big then some (.str (x++y)) else none
|.tuple xs,.tuple ys=>if xs.length+ys.length<=big then some (.tuple (xs++ys)) else none
|.list xs,.list ys=>if xs.length+ys.length<=big then some (.list (xs++ys)) else none
|_,_=>none
def qL:T->T->Option T
|.int i,.int j=>some (.int (i - j))
|_,_=>none
def vT(i j:Int):Bool:=(decide (-(2 ^ 64)<i) && decide (i<2 ^ 64)) || (decide (-(2 ^ 64)<j) && decide (j<2 ^ 64))
def dI:T->T->Option T
|.int i,.int j=>if vT i j then some (.int (i*j)) else none
|_,_=>none
def oDiv:T->T->Option T
|.int i,.int j=>if 0<j/\j<1073741824 then some (.int (i / j)) else none
|_,_=>none
def oMod:T->T->Option T
|.int i,.int j=>if 0<j then some (.int (i % j)) else none
|_,_=>none
def qK:T->Option T
|.int i=>some (.int (-i))
|_=>none
def gK(n:Nat)(i:Int):Option Nat:=if 0<=i then (if i<n then some i.toNat else none) else if -(n:Int)<=i then some (i+n).toNat else none
def fG{α:Type}(xs:List α)(i:Int):Option α:=(gK xs.length i).bind λj=>xs[j]?
noncomputable def a4:T->T->Option T
|.tuple xs,.int i=>fG xs i
|.list xs,.int i=>fG xs i
|.str x,.int i=>if x.length<=big then (fG x.cps.toList i).map λc=>.str ⟨#[c]⟩ else none
|_,_=>none
def oEq(a b:T):Option T:=if iy a && iy b then some (.bool (je a b)) else none
def fk(a b:T):Option T:=if iy a && iy b then some (.bool (!PyData.eqv a b)) else none
def ix(a:T):Option T:=some (.bool (match a with|.none=>true|_=>false))
def g5(a:T):Option T:=some (.bool (match a with|.none=>false|_=>true))
def strLt(x y:Str):Bool:=decide (x.cps.toList<y.cps.toList)
def oLt:T->T->Option T
|.int i,.int j=>some (.bool (decide (i<j)))
|.str x,.str y=>some (.bool (strLt x y))
|_,_=>none
def oLe:T->T->Option T
|.int i,.int j=>some (.bool (decide (i<=j)))
|.str x,.str y=>some (.bool (!strLt y x))
|_,_=>none
def ja:T->T->Option T
|.int i,.int j=>some (.bool (decide (j<i)))
|.str x,.str y=>some (.bool (strLt y x))
|_,_=>none
def qJ:T->T->Option T
|.int i,.int j=>some (.bool (decide (j<=i)))
|.str x,.str y=>some (.bool (!strLt x y))
|_,_=>none
def pH(x:T)(ts:List T):Bool:=ts.any λy=>je y x
noncomputable def fK(neg:Bool):T->T->Option T
|x,.tuple ys=>if iy x && pP ys then some (.bool (if neg then !pH x ys else pH x ys)) else none
|x,.list ys=>if iy x && pP ys then some (.bool (if neg then !pH x ys else pH x ys)) else none
|_,_=>none
def jw:List T->Option T
| [.tuple xs]=>some (.int xs.length)
| [.list xs]=>some (.int xs.length)
| [.str x]=>if x.length<=big then some (.int x.length) else none
|_=>none
def A8:List T->Option T
| [.int i,.int j]=>some (.int (if j<i then j else i))
|_=>none
def sO:List T->Option T
| [.int i,.int j]=>some (.int (if j > i then j else i))
|_=>none
def hi:List T->Option T
| [.tuple xs]=>some (.tuple xs)
| [.list xs]=>some (.tuple xs)
|_=>none
def Dw:List T->Option T
| [.tuple xs]=>some (.list xs)
| [.list xs]=>some (.list xs)
|_=>none
def A7:List T->Option T
| [.int i]=>some (.int i)
| [.bool b]=>some (.int (if b then 1 else 0))
|_=>none
def Bo(n d:Nat):Option Int->Nat
|none=>d
|some v=>(if v<0 then max (v+n) 0 else min v n).toNat
def NU{α:Type}(xs:List α)(lo bc:Option Int):List α:=(xs.drop (Bo xs.length 0 lo)).take (Bo xs.length xs.length bc - Bo xs.length 0 lo)
def aa0(t:T)(lo bc:Option Int):Option T:=match t with
|.tuple xs=>some (.tuple (NU xs lo bc))
|.list xs=>some (.list (NU xs lo bc))
|_=>none
def strsOf:List T->Option (List Str)
| []=>some []
|.str x::ts=>(strsOf ts).map λr=>x::r
|_::_=>none
def insI(x:Int):List Int->List Int
| []=>[x]
|y::ys=>if x<=y then x::y::ys else y::insI x ys
def sortI:List Int->List Int
| []=>[]
|x::xs=>insI x (sortI xs)
def sD(x:Str):List Str->List Str
| []=>[x]
|y::ys=>if !strLt y x then x::y::ys else y::sD x ys
def jJ:List Str->List Str
| []=>[]
|x::xs=>sD x (jJ xs)
def keyOf:T->Option Key
|.int i=>some (.inl i)
|.str x=>some (.inr x)
|_=>none
def putD(kvs:List (Key×T))(k:Key)(v:T):List (Key×T):=if kvs.any (λp=>decide (p.1=k)) then kvs.map λp=>if p.1=k then (k,v) else p else kvs++[(k,v)]
def getD(kvs:List (Key×T))(k:Key):Option T:=(kvs.find? λp=>decide (p.1=k)).map (·.2)
def ah(t:T):bz:=λ_=>some t
def nm(i:Nat):bz:=λε=>match ε[i]? with
|some (some (.ae t))=>some t
|some (some (.own ts))=>some (.list ts)
|_=>none
def aS(i:Nat):bz:=λε=>match ε[i]? with
|some (some (.ae t))=>some t
|_=>none
def dX(o:T->Option T)(f:bz):bz:=λε=>(f ε).bind o
def ao(o:T->T->Option T)(f g:bz):bz:=λε=>(f ε).bind λx=>(g ε).bind λy=>o x y
def args:List bz->Ev->Option (List T)
| [],_=>some []
|f::ar,ε=>(f ε).bind λt=>(args ar ε).map λts=>t::ts
def b9(o:List T->Option T)(ar:List bz):bz:=λε=>(args ar ε).bind o
def cb(ar:List bz):bz:=λε=>(args ar ε).bind λts=>if ts.length<=big then some (.tuple ts) else none
def gi(ar:List bz):bz:=λε=>(args ar ε).bind λts=>if ts.length<=big then some (.list ts) else none
def slice(f:bz)(lo bc:Ev->Option (Option Int)):bz:=λε=>(f ε).bind λt=>(lo ε).bind λl=>(bc ε).bind λh=>aa0 t l h
def qk(f g:bz):bz:=λε=>(f ε).bind λt=>match t with|.bool true=>g ε|.bool false=>some (.bool false)|_=>none
def xb(f g:bz):bz:=λε=>(f ε).bind λt=>match t with|.bool false=>g ε|.bool true=>some (.bool true)|_=>none
noncomputable def chain(o p:T->T->Option T)(f g h:bz):bz:=λε=>(f ε).bind λx=>(g ε).bind λy=>(o x y).bind λr=>match r with
|.bool true=>(h ε).bind λz=>p y z
|.bool false=>some (.bool false)
|_=>none
def bC(f:bz):eT:=λε=>(f ε).bind λt=>match t with|.bool b=>some b|_=>none
def hb(f:bz):eT:=λε=>(f ε).bind λt=>match t with|.list ts=>some (!ts.isEmpty)|.tuple ts=>some (!ts.isEmpty)|_=>none
def hJ(f g:eT):eT:=λε=>(f ε).bind λb=>if b then g ε else some false
def e'(f g:eT):eT:=λε=>(f ε).bind λb=>if b then some true else g ε
def hQ(f:eT):eT:=λε=>(f ε).map λb=>!b
def pM(c:eT)(f g:bz):bz:=λε=>(c ε).bind λb=>if b then f ε else g ε
def f_(b:Bool):eT:=λ_=>some b
def ofT(c:eT):bz:=λε=>(c ε).map .bool
def fl(f:bz):al1:=λε=>(f ε).bind λt=>match t with|.tuple ts=>some ts|.list ts=>some ts|_=>none
def i3(f:bz):al1:=λε=>(f ε).bind λt=>match t with|.tuple ts=>some ts|_=>none
def kY(lo bc:Int):List T:=(List.range (bc - lo).toNat).map λ(k:Nat)=>.int (lo+(k:Int))
def vr(i:Int):Bool:=decide (-(2 ^ 62)<=i) && decide (i<2 ^ 62)
def mK(f:bz):al1:=λε=>(f ε).bind λt=>match t with|.int j=>if vr j then some (kY 0 j) else none|_=>none
def enum(ts:List T):List T:=ts.zipIdx.map λp=>.tuple [.int p.2,p.1]
def mL(f:al1):al1:=λε=>(f ε).map enum
def cx(i:Nat):iJ:=λt ε=>some (ε.set i (some (.ae t)))
def gb:List iJ->List T->Ev->Option Ev
| [],[],ε=>some ε
|g::fA,t::ts,ε=>(g t ε).bind λε'=>gb fA ts ε'
|_,_,_=>none
def eO(fA:List iJ):iJ:=λt ε=>match t with|.tuple ts=>gb fA ts ε|_=>none
noncomputable def hD(g:iJ)(c:eT)(e:bz):List T->Ev->Option (List T)
| [],_=>some []
|t::ts,ε=>(g t ε).bind λfZ=>(c fZ).bind λb=>if b then (e fZ).bind λy=>(hD g c e ts fZ).map λys=>y::ys else hD g c e ts fZ
def iI(own:Nat)(caps:List Nat)(ε:Ev):Ev:=alZ own none++caps.map λi=>(ε[i]?).join
def comp(own:Nat)(caps:List Nat)(it:al1)(g:iJ)(c:eT)(e:bz):bz:=λε=>(it ε).bind λts=>if ts.length<=big then (hD g c e ts (iI own caps ε)).map .list else none
def skip:bA:=λε=>some (.bK ε)
def seq(a b:bA):bA:=λε=>(a ε).bind λo=>match o with|.bK ε'=>b ε'|o=>some o
def asg(i:Nat)(f:bz):bA:=λε=>(f ε).map λt=>.bK (ε.set i (some (.ae t)))
def jS(i:Nat)(f:bz):bA:=λε=>(f ε).bind λt=>match t with|.list ts=>some (.bK (ε.set i (some (.own ts))))|_=>none
def jT(g:iJ)(f:bz):bA:=λε=>(f ε).bind λt=>(g t ε).map .bK
def cy(f:bz):bA:=λε=>(f ε).map .d4
def iff(c:eT)(a b:bA):bA:=λε=>(c ε).bind λx=>if x then a ε else b ε
def brk:bA:=λε=>some (.gp ε)
noncomputable def forL(g:iJ)(b:bA):List T->Ev->Option Out
| [],ε=>some (.bK ε)
|t::ts,ε=>(g t ε).bind λfZ=>(b fZ).bind λo=>match o with
  |.bK iq=>forL g b ts iq
  |.dN iq=>forL g b ts iq
  |.gp iq=>some (.bK iq)
  |.d4 t=>some (.d4 t)
  |.ij t iq=>some (.ij t iq)
  |.kZ s=>some (.kZ s)
def gR(it:al1)(g:iJ)(b:bA):bA:=λε=>(it ε).bind λts=>forL g b ts ε
noncomputable def app(i:Nat)(f:bz):bA:=λε=>match ε[i]? with
|some (some (.own ts))=>(f ε).bind λt=>if ts.length<big then some (.bK (ε.set i (some (.own (ts++[t]))))) else none
|_=>none
noncomputable def ext(i:Nat)(f:bz):bA:=λε=>match ε[i]? with
|some (some (.own ts))=>(f ε).bind λt=>match t with
  |.list us=>if ts.length+us.length<=big then some (.bK (ε.set i (some (.own (ts++us))))) else none
  |_=>none
|_=>none
noncomputable def pop(i j:Nat):bA:=λε=>match ε[j]? with
|some (some (.own ts))=>(ts.getLast?).bind λt=>if i=j then none else some (.bK ((ε.set j (some (.own ts.dropLast))).set i (some (.ae t))))
|_=>none
noncomputable def par(i j:Nat)(own:Bool)(f g:bz):bA:=λε=>(f ε).bind λt=>(g ε).bind λu=>if own then (match u with|.list us=>some (.bK ((ε.set i (some (.ae t))).set j (some (.own us))))|_=>none) else some (.bK ((ε.set i (some (.ae t))).set j (some (.ae u))))
noncomputable def d9(b:bA)(n:Nat)(as:List T):Option T:=(b ((as.map λt=>some (.ae t))++alZ (n - as.length) none)).bind λo=>match o with
|.d4 t=>some t
|.bK _=>some .none
|_=>none
end D
end
section
namespace D
open PySem PySem.Spec PyProof.Rows bh
section
mutual
noncomputable def Rep(K:a9)(F:ag->Prop)(H:ay):T->V->Prop
|.none,v=>v=.e0
|.bool b,v=>v=.c4 b
|.int i,v=>v=.int i
|.str x,v=>v=.str x
|.dict _,_=>False
|.tuple ts,v=>∃a vs,v=.ref a/\c3 K H a vs/\bG K F H ts vs
|.list ts,v=>∃a vs,v=.ref a/\F a/\eM H a (.lst vs)/\bG K F H ts vs
noncomputable def bG(K:a9)(F:ag->Prop)(H:ay):List T->List V->Prop
| [],vs=>vs=[]
|t::ts,vs=>∃v r,vs=v::r/\Rep K F H t v/\bG K F H ts r
end
section
variable {K:a9}{F aG:ag->Prop}{H aa:ay}
mutual
theorem Rep.keep(af:∀b xs,c3 K H b xs->c3 K aa b xs)(ak:∀b xs,F b->eM H b (.lst xs)->aG b/\eM aa b (.lst xs)):∀{t:T} {v:V},Rep K F H t v->Rep K aG aa t v
|.none,v,h=>by simpa [Rep] using h
|.bool _,v,h=>by simpa [Rep] using h
|.dict _,v,h=>by simp[Rep] at h
|.int _,v,h=>by simpa [Rep] using h
|.str _,v,h=>by simpa [Rep] using h
|.tuple ts,v,h=>by
  simp only[Rep] at h ⊢;obtain⟨a,vs,e,q,r⟩:=h;exact⟨a,vs,e,af _ _ q,bG.keep af ak r⟩
|.list ts,v,h=>by
  simp only[Rep] at h ⊢;obtain⟨a,vs,e,f,q,r⟩:=h;exact⟨a,vs,e,(ak _ _ f q).1,(ak _ _ f q).2,bG.keep af ak r⟩
theorem bG.keep(af:∀b xs,c3 K H b xs->c3 K aa b xs)(ak:∀b xs,F b->eM H b (.lst xs)->aG b/\eM aa b (.lst xs)):∀{ts:List T} {vs:List V},bG K F H ts vs->bG K aG aa ts vs
| [],vs,h=>by simpa [bG] using h
|t::ts,vs,h=>by
  simp only[bG] at h ⊢;obtain⟨v,r,e,q,z⟩:=h;exact⟨v,r,e,Rep.keep af ak q,bG.keep af ak z⟩
end
def bG.nil:bG K F H [] []:=by simp[bG]
def bG.cons{t:T}{v:V}{ts:List T}{vs:List V}(h:Rep K F H t v)(r:bG K F H ts vs):bG K F H (t::ts) (v::vs):=by
 simp only[bG];exact⟨v,vs,rfl,h,r⟩
theorem bG.length:∀{ts:List T} {vs:List V},bG K F H ts vs->ts.length=vs.length
| [],vs,h=>by
  simp only[bG] at h;subst h;rfl
|t::ts,vs,h=>by
  simp only[bG] at h;obtain⟨v,r,e,q,z⟩:=h;subst e;simp[bG.length z]
theorem bG.get:∀{ts:List T} {vs:List V} {i:Nat} {t:T},bG K F H ts vs->ts[i]?=some t->∃v,vs[i]?=some v/\Rep K F H t v
| [],vs,i,t,h,e=>by simp at e
|x::ts,vs,0,t,h,e=>by
  simp only[bG] at h;obtain⟨v,r,rfl,q,z⟩:=h;simp at e;subst e;exact⟨v,rfl,q⟩
|x::ts,vs,i+1,t,h,e=>by
  simp only[bG] at h;obtain⟨v,r,rfl,q,z⟩:=h;obtain⟨u,af,ak⟩:=bG.get (i:=i) (t:=t) z (by simpa using e);exact⟨u,by simpa using af,ak⟩
theorem bG.append:∀{ts us:List T} {vs ws:List V},bG K F H ts vs->bG K F H us ws->bG K F H (ts++us) (vs++ws)
| [],us,vs,ws,h,r=>by
  simp only[bG] at h;subst h;exact r
|t::ts,us,vs,ws,h,r=>by
  simp only[bG] at h;obtain⟨v,z,rfl,q,y⟩:=h;exact bG.cons q (bG.append y r)
theorem bG.take:∀{ts:List T} {vs:List V} (n:Nat),bG K F H ts vs->bG K F H (ts.take n) (vs.take n)
| [],vs,n,h=>by
  simp only[bG] at h;subst h;simpa using bG.nil
|t::ts,vs,0,h=>by simpa using bG.nil
|t::ts,vs,n+1,h=>by
  simp only[bG] at h;obtain⟨v,z,rfl,q,y⟩:=h;simpa using bG.cons q (bG.take n y)
end
class cJ where
 c6:List (ag×Str)
 ff:Nat->List Str
 md:Nat->Option ag
noncomputable def amz(H:ay)(b:ag)(q:Str):Prop:=∃ps:Array aj,H b=some (.hV ps)/\TriplesOk ps.toList/\∀pos kg,codeAmong pos ps.toList=some kg->∃c,kg=.ref c/\H c=some (.ext λh=>h.CodeRec (.ref c) q)
def l' [t:cJ](H:ay):Prop:=∀p∈t.c6,amz H p.1 p.2
def amz.keep{H aa:ay}{b:ag}{q:Str}(h:amz H b q)(k1:∀a ps,H a=some (.hV ps)->aa a=some (.hV ps))(k2:∀a nP,H a=some (.ext nP)->aa a=some (.ext nP)):amz aa b q:=by
 obtain⟨ps,af,ak,bB⟩:=h;refine⟨ps,k1 _ _ af,ak,λpos kg e=>?_⟩;obtain⟨c,aD,aO⟩:=bB pos kg e;exact⟨c,aD,k2 _ _ aO⟩
variable [cJ]
def mX(u:ea):Prop:=(∃xs,u=.lst xs)\/(∃xs,u=.fo xs)\/∃C ba ar,u=.ins C ba ar
def mX.cases{P:Prop}{u:ea}(h:mX u)(af:∀xs,u=.lst xs->P)(ak:∀xs,u=.fo xs->P)(bB:∀C ba ar,u=.ins C ba ar->P):P:=by
 rcases h with ⟨xs,e⟩|⟨xs,e⟩|⟨C,ba,ar,e⟩
 ·exact af xs e
 ·exact ak xs e
 ·exact bB C ba ar e
def l'.PJ{H:ay}(h:l' H){p:ag}{o:ea}(aC:∀u,H p=some u->mX u):l' (upd H p o):=λb U=>
 (h b U).keep (λa ps e=>by
  have nb:a≠p:=by
   rintro rfl;exact (aC _ e).cases (λ_ z=>by cases z) (λ_ z=>by cases z) (λ_ _ _ z=>by cases z)
  rw[cQ nb];exact e) λa nP e=>by
  have nb:a≠p:=by
   rintro rfl;exact (aC _ e).cases (λ_ z=>by cases z) (λ_ z=>by cases z) (λ_ _ _ z=>by cases z)
  rw[cQ nb];exact e
theorem l'.upd{H:ay}(h:l' H){p:ag}{o:ea}(aC:∀u,H p=some u->(∃xs,u=.lst xs)\/∃xs,u=.fo xs):l' (upd H p o):=h.PJ λu e=>by
 rcases aC u e with z|z
 ·exact .inl z
 ·exact .inr (.inl z)
def l'.new{H:ay}(h:l' H){p:ag}{o:ea}(aC:H p=none):l' (bh.upd H p o):=h.upd λu e=>by rw[aC] at e;cases e
structure fE(F:ag->Prop)(H:ay):Prop where
 we:∀a,F a->∃o,H a=some o
 mz:l' H
instance {F:ag->Prop}{H:ay}:CoeFun (fE F H) λ_=>∀a,F a->∃o,H a=some o:=⟨fE.we⟩
def jk(H aa:ay):Prop:=∀b o,H b=some o->aa b=some o\/∃ps xc,o=.hV ps/\aa b=some (.hV xc)
def jk.refl(H:ay):jk H H:=λ_ _ h=>.inl h
def jk.ne{H aa:ay}(s:jk H aa){b:ag}{o:ea}(e:H b=some o):∃u,aa b=some u:=by
 rcases s b o e with h|⟨_,_,_,h⟩
 ·exact⟨_,h⟩
 ·exact⟨_,h⟩
theorem jk.none{H aa:ay}(s:jk H aa){b:ag}(e:aa b=none):H b=none:=by
 cases z:H b with
|none=>rfl
|some o=>
  obtain⟨u,q⟩:=s.ne z;rw[e] at q;cases q
def jk.get{H aa:ay}(s:jk H aa){b:ag}{o:ea}(e:H b=some o)(n:∀ps,o≠.hV ps:=by intro _ z;cases z):aa b=some o:=by
 rcases s b o e with h|⟨_,_,z,_⟩
 ·exact h
 ·exact absurd z (n _)
def jk.trans{H H1 bk:ay}(a:jk H H1)(b:jk H1 bk):jk H bk:=λc o h=>by
 rcases a c o h with q|⟨ps,adL,z,q⟩
 ·exact b c o q
 ·rcases b c _ q with bb|⟨_,xd,gC,bb⟩
  ·exact .inr ⟨ps,adL,z,bb⟩
  ·exact .inr ⟨ps,xd,z,bb⟩
structure Ext(F:ag->Prop)(H:ay)(aG:ag->Prop)(aa:ay):Prop where
 same:jk H aa
 sub:∀a,F a->aG a
 new:∀a,aG a->F a\/H a=none
 cu:fE aG aa
section
variable {K:a9}{F aY du:ag->Prop}{H H1 bk:ay}
theorem Ext.refl(d:fE F H):Ext F H F H:=⟨jk.refl H,λ_ h=>h,λ_ h=>.inl h,d⟩
theorem Ext.trans(a:Ext F H aY H1)(b:Ext aY H1 du bk):Ext F H du bk:=
 ⟨a.same.trans b.same,λx h=>b.sub x (a.sub x h),λx h=>(b.new x h).elim (λz=>a.new x z) λz=>.inr (a.same.none z),b.cu⟩
def eM.same{a:ag}{u:ea}(s:jk H H1)(r:eM H a u)(n:∀ps,u≠.hV ps:=by intro _ z;cases z):eM H1 a u:=by
 rcases r with r|⟨o,r⟩
 ·exact .inl (s.get r n)
 ·exact .inr ⟨o,s.get r⟩
theorem c3.same{a:ag}{xs:List V}(s:jk H H1)(r:c3 K H a xs):c3 K H1 a xs:=by
 rcases r with r|r
 ·exact .inl (eM.same s r)
 ·exact .inr r
def Rep.ext{t:T}{v:V}(r:Rep K F H t v)(x:Ext F H aY H1):Rep K aY H1 t v:=r.keep (λ_ _ q=>c3.same x.same q) λb _ f q=>⟨x.sub b f,eM.same x.same q⟩
def bG.ext{t:List T}{v:List V}(r:bG K F H t v)(x:Ext F H aY H1):bG K aY H1 t v:=r.keep (λ_ _ q=>c3.same x.same q) λb _ f q=>⟨x.sub b f,eM.same x.same q⟩
def Ext.laid{p:ag}{o:ea}(d:fE F H)(aC:H p=none):Ext F H F (upd H p o):=
 ⟨λb u q=>.inl (Bp aC o b u q),λ_ h=>h,λ_ h=>.inl h,⟨λa h=>by
  obtain⟨u,e⟩:=d a h;exact⟨u,Bp aC o a u e⟩,d.mz.new aC⟩⟩
where Bp {H:ay} {p:ag} (h:H p=none) (o:ea):VU H (upd H p o):=λb u q=>by rw[cQ (iH q h)];exact q
def Ext.aaH{p:ag}{o:ea}(d:fE F H)(aC:H p=none):Ext F H (λa=>F a\/a=p) (upd H p o):=
 ⟨λb u q=>.inl (Ext.laid.Bp aC o b u q),λ_ h=>.inl h,λa h=>by
  rcases h with h|rfl
  ·exact .inl h
  ·exact .inr aC,⟨λa h=>by
  rcases h with h|rfl
  ·obtain⟨u,e⟩:=d a h;exact⟨u,Ext.laid.Bp aC o a u e⟩
  ·exact⟨o,er⟩,d.mz.new aC⟩⟩
end
structure ej(K:a9)(F:ag->Prop)(H:ay)(aG:ag->Prop)(aa:ay):Prop where
 tup:∀b xs,c3 K H b xs->c3 K aa b xs
 lst:∀b xs,F b->eM H b (.lst xs)->aG b/\eM aa b (.lst xs)
section
variable {K:a9}{F aY du:ag->Prop}{H H1 bk:ay}
def ej.refl:ej K F H F H:=⟨λ_ _ h=>h,λ_ _ f h=>⟨f,h⟩⟩
def ej.trans(a:ej K F H aY H1)(b:ej K aY H1 du bk):ej K F H du bk:=⟨λx xs h=>b.tup x xs (a.tup x xs h),λx xs f h=>b.lst x xs (a.lst x xs f h).1 (a.lst x xs f h).2⟩
def Ext.aw(x:Ext F H aY H1):ej K F H aY H1:=⟨λ_ _ q=>c3.same x.same q,λb _ f q=>⟨x.sub b f,eM.same x.same q⟩⟩
def Rep.aw{t:T}{v:V}(r:Rep K F H t v)(x:ej K F H aY H1):Rep K aY H1 t v:=r.keep x.tup x.lst
def bG.aw{t:List T}{v:List V}(r:bG K F H t v)(x:ej K F H aY H1):bG K aY H1 t v:=r.keep x.tup x.lst
end
def fR(K:a9)(O F:ag->Prop)(H:ay)(t:T)(v:V):Prop:=
 Rep K F H t v\/∃ts a vs,t=.list ts/\v=.ref a/\H a=some (.lst vs)/\bG K F H ts vs
section
variable {K:a9}{O F aY:ag->Prop}{H H1:ay}{v:V}
theorem fR.ext{t:T}(r:fR K O F H t v)(x:Ext F H aY H1):fR K O aY H1 t v:=by
 rcases r with r|⟨ts,a,vs,aD,aO,iL,r⟩
 ·exact .inl (r.ext x)
 ·exact .inr ⟨ts,a,vs,aD,aO,x.same.get iL,r.ext x⟩
theorem fR.e0(r:fR K O F H .none v):v=.e0:=by
 rcases r with r|⟨ts,a,vs,aD,_⟩
 ·simpa [Rep] using r
 ·cases aD
theorem fR.c4{b:Bool}(r:fR K O F H (.bool b) v):v=.c4 b:=by
 rcases r with r|⟨ts,a,vs,aD,_⟩
 ·simpa [Rep] using r
 ·cases aD
theorem fR.int{i:Int}(r:fR K O F H (.int i) v):v=.int i:=by
 rcases r with r|⟨ts,a,vs,aD,_⟩
 ·simpa [Rep] using r
 ·cases aD
theorem fR.str{x:Str}(r:fR K O F H (.str x) v):v=.str x:=by
 rcases r with r|⟨ts,a,vs,aD,_⟩
 ·simpa [Rep] using r
 ·cases aD
def fR.tup{ts:List T}(r:fR K O F H (.tuple ts) v):∃a vs,v=.ref a/\c3 K H a vs/\bG K F H ts vs:=by
 rcases r with r|⟨ts,a,vs,aD,_⟩
 ·simpa [Rep] using r
 ·cases aD
theorem fR.lst{ts:List T}(r:fR K O F H (.list ts) v):∃a vs,v=.ref a/\eM H a (.lst vs)/\bG K F H ts vs:=by
 rcases r with r|⟨us,a,vs,aD,aO,iL,r⟩
 ·simp only[Rep] at r;obtain⟨a,vs,e,_,q,z⟩:=r;exact⟨a,vs,e,q,z⟩
 ·cases aD
  exact⟨a,vs,aO,.inl iL,r⟩
end
def d7(K:a9)(F:ag->Prop)(H:ay):List (D.Key×T)->List (D.Key×V)->Prop
| [],vs=>vs=[]
|p::ts,vs=>∃v r,vs=(p.1,v)::r/\Rep K F H p.2 v/\d7 K F H ts r
theorem d7.aw{K:a9}{F aG:ag->Prop}{H aa:ay}(x:ej K F H aG aa):∀{ts:List (D.Key×T)} {vs:List (D.Key×V)},d7 K F H ts vs->d7 K aG aa ts vs
| [],vs,h=>h
|p::ts,vs,h=>by
  obtain⟨v,r,e,q,z⟩:=h;exact⟨v,r,e,q.aw x,d7.aw x z⟩
structure gj where
 h:ay
 ie:ag
def ih:V->List ag
|.ref a=>[a]
|_=>[]
def dQ:aJ->V->List ag
|.ae _,_=>[]
|_,v=>ih v
def da:List aJ->List V->List ag
|s::ss,v::vs=>dQ s v++da ss vs
|_,_=>[]
def C5(H:ay):V->List V
|.ref a=>(match H a with
  |some (.ins _ _ kvs)=>kvs.map (·.2)
  |some (.fo kvs)=>kvs.map (·.2)
  |_=>[])
|_=>[]
def dB(H:ay):aJ->V->List ag
|.ae _,_=>[]
|.own _,v=>ih v
|.hp _,v=>ih v
|.obj _ _ ar,v=>ih v++da ar (C5 H v)
noncomputable def h1(H:ay)(a:ag)(c:Nat)(vs:List V):Prop:=vs.length<=(cJ.ff c).length/\match cJ.md c with
|some C=>∃ba,H a=some (.ins C ba ((cJ.ff c).zip vs))
|none=>H a=some (.fo (((cJ.ff c).zip vs).map λp=>(.inr p.1,p.2)))
noncomputable def al0(K:a9)(F:ag->Prop)(H:ay):aJ->V->Prop
|.ae t,v=>Rep K F H t v
|.own ts,v=>∃b us,v=.ref b/\H b=some (.lst us)/\bG K F H ts us
|.hp kvs,v=>∃b us,v=.ref b/\H b=some (.fo us)/\d7 K F H kvs us
|.obj _ _ _,_=>False
def f7(K:a9)(F:ag->Prop)(H:ay):List aJ->List V->Prop
| [],vs=>vs=[]
|s::ss,vs=>∃v r,vs=v::r/\al0 K F H s v/\f7 K F H ss r
def amq(E:gj)(O F:ag->Prop)(m:gm)(b:ag):Prop:=¬F b/\match m with
|.cI=>E.h b≠none
|_=>O b
noncomputable def d1(K:a9)(E:gj)(O F:ag->Prop)(H:ay):aJ->V->Prop
|.ae t,v=>Rep K F H t v
|.own ts,v=>∃a vs,v=.ref a/\¬F a/\O a/\H a=some (.lst vs)/\bG K F H ts vs
|.hp kvs,v=>∃a vs,v=.ref a/\¬F a/\O a/\H a=some (.fo vs)/\d7 K F H kvs vs
|.obj m c ar,v=>∃a vs,v=.ref a/\h1 H a c vs/\f7 K F H ar vs/\(a::da ar vs).Nodup/\(∀b∈a::da ar vs,amq E O F m b)/\(m=.b_->a=E.ie)
def aJ.iN:aJ->Bool
|.ae _=>false
|.obj .cI _ _=>false
|_=>true
section
variable {K:a9}{F aG O m1:ag->Prop}{H aa:ay}{E:gj}
theorem Ls{α β:Type}:∀{xs:List α} {ys:List β},ys.length<=xs.length->(xs.zip ys).map (·.2)=ys
|xs,[],_=>by simp
| [],y::ys,h=>by simp at h
|x::xs,y::ys,h=>by simp[Ls (xs:=xs) (ys:=ys) (by simpa using h)]
def h1.vals{a:ag}{c:Nat}{vs:List V}(h:h1 H a c vs):C5 H (.ref a)=vs:=by
 obtain⟨aB,h⟩:=h;unfold C5;split at h
 ·obtain⟨ba,e⟩:=h;simp only[e];exact Ls aB
 ·simp only[h,q4];exact Ls aB
def h1.mem{a:ag}{c:Nat}{vs:List V}(h:h1 H a c vs):∃o,H a=some o/\mX o:=by
 obtain⟨aB,h⟩:=h;split at h
 ·obtain⟨ba,e⟩:=h;exact⟨_,e,.inr (.inr ⟨_,_,_,rfl⟩)⟩
 ·exact⟨_,h,.inr (.inl ⟨_,rfl⟩)⟩
def h1.keep{a:ag}{c:Nat}{vs:List V}(h:h1 H a c vs)(e:aa a=H a):h1 aa a c vs:=by
 obtain⟨aB,h⟩:=h;refine⟨aB,?_⟩;rw[e];exact h
def vG{v:V}{b:ag}(h:b∈ih v):v=.ref b:=by
 unfold ih at h;split at h
 ·simp at h;rw[h]
 ·simp at h
theorem al0.at{s:aJ}{v:V}{b:ag}(r:al0 K F H s v)(h:b∈dQ s v):∃o,H b=some o/\mX o:=by
 cases s with
|ae t=>simp[dQ] at h
|own ts=>
  obtain⟨px,us,e,h9,_⟩:=r;have:=vG h;rw[e] at this;cases this;exact⟨_,h9,.inl ⟨_,rfl⟩⟩
|hp ts=>
  obtain⟨px,us,e,h9,_⟩:=r;have:=vG h;rw[e] at this;cases this;exact⟨_,h9,.inr (.inl ⟨_,rfl⟩)⟩
|obj m c ar=>exact r.elim
theorem f7.at:∀{ar:List aJ} {vs:List V} {b:ag},f7 K F H ar vs->b∈da ar vs->∃o,H b=some o/\mX o
| [],vs,b,r,h=>by simp[da] at h
|s::ss,vs,b,r,h=>by
  obtain⟨v,z,rfl,bg,b5⟩:=r;rw[show da (s::ss) (v::z)=dQ s v++da ss z from rfl] at h;rcases jD.mp h with h|h
  ·exact bg.at h
  ·exact f7.at b5 h
def j8{m:gm}{c:Nat}{ar:List aJ}{a:ag}{vs:List V}(h:h1 H a c vs):dB H (.obj m c ar) (.ref a)=a::da ar vs:=by
 show ih (.ref a)++da ar (C5 H (.ref a))=_
 rw[h.vals];rfl
theorem d1.at{s:aJ}{v:V}{b:ag}(r:d1 K E O F H s v)(h:b∈dB H s v):∃o,H b=some o/\mX o:=by
 cases s with
|ae t=>simp[dB] at h
|own ts=>
  obtain⟨px,us,e,_,_,h9,_⟩:=r;have:=vG h;rw[e] at this;cases this;exact⟨_,h9,.inl ⟨_,rfl⟩⟩
|hp ts=>
  obtain⟨px,us,e,_,_,h9,_⟩:=r;have:=vG h;rw[e] at this;cases this;exact⟨_,h9,.inr (.inl ⟨_,rfl⟩)⟩
|obj m c ar=>
  obtain⟨a,vs,rfl,av,hf,_⟩:=r;rw[j8 av] at h;rcases cm.mp h with rfl|h
  ·exact av.mem
  ·exact hf.at h
def d1.held{s:aJ}{v:V}{b:ag}(r:d1 K E O F H s v)(h:b∈dB H s v):¬F b/\(s.iN=true->O b)/\(s.iN=false->E.h b≠none):=by
 cases s with
|ae t=>simp[dB] at h
|own ts=>
  obtain⟨px,us,e,n,o,h9,_⟩:=r;have:=vG h;rw[e] at this;cases this;exact⟨n,λ_=>o,λz=>by cases z⟩
|hp ts=>
  obtain⟨px,us,e,n,o,h9,_⟩:=r;have:=vG h;rw[e] at this;cases this;exact⟨n,λ_=>o,λz=>by cases z⟩
|obj m c ar=>
  obtain⟨a,vs,rfl,av,hf,a',fL,_⟩:=r;rw[j8 av] at h;obtain⟨n,q⟩:=fL b h;refine⟨n,λz=>?_,λz=>?_⟩
  ·cases m with
   |cI=>cases z
   |own=>exact q
   |b_=>exact q
  ·cases m with
   |cI=>exact q
   |own=>cases z
   |b_=>cases z
def al0.keep{s:aJ}{v:V}(r:al0 K F H s v)(aw:ej K F H aG aa)(cM:∀b∈dQ s v,aa b=H b):al0 K aG aa s v:=by
 cases s with
|ae t=>exact Rep.aw r aw
|own ts=>
  obtain⟨b,us,rfl,h9,z⟩:=r;exact⟨b,us,rfl,by rw[cM b (by simp[dQ,ih])];exact h9,z.aw aw⟩
|hp ts=>
  obtain⟨b,us,rfl,h9,z⟩:=r;exact⟨b,us,rfl,by rw[cM b (by simp[dQ,ih])];exact h9,d7.aw aw z⟩
|obj m c ar=>exact r.elim
theorem f7.keep:∀{ar:List aJ} {vs:List V},f7 K F H ar vs->ej K F H aG aa->(∀b∈da ar vs,aa b=H b)->f7 K aG aa ar vs
| [],vs,r,_,_=>r
|s::ss,vs,r,aw,cM=>by
  obtain⟨v,z,rfl,bg,b5⟩:=r;rw[show da (s::ss) (v::z)=dQ s v++da ss z from rfl] at cM;exact⟨v,z,rfl,bg.keep aw λb h=>cM b (jD.mpr (.inl h)),f7.keep b5 aw λb h=>cM b (jD.mpr (.inr h))⟩
theorem d1.keep{s:aJ}{v:V}(r:d1 K E O F H s v)(aw:ej K F H aG aa)(cM:∀b∈dB H s v,aa b=H b)(hf:∀b∈dB H s v,aG b->F b)(aF:∀b∈dB H s v,O b->m1 b):
  d1 K E m1 aG aa s v/\dB aa s v=dB H s v:=by
 cases s with
|ae t=>exact⟨Rep.aw r aw,rfl⟩
|own ts=>
  obtain⟨a,vs,rfl,n,o,h9,z⟩:=r;have m:a∈dB H (.own ts) (.ref a):=by simp[dB,ih]
  exact⟨⟨a,vs,rfl,λf=>n (hf a m f),aF a m o,by rw[cM a m];exact h9,z.aw aw⟩,rfl⟩
|hp ts=>
  obtain⟨a,vs,rfl,n,o,h9,z⟩:=r;have m:a∈dB H (.hp ts) (.ref a):=by simp[dB,ih]
  exact⟨⟨a,vs,rfl,λf=>n (hf a m f),aF a m o,by rw[cM a m];exact h9,d7.aw aw z⟩,rfl⟩
|obj m c ar=>
  obtain⟨a,vs,rfl,av,au,a',fL,ie⟩:=r;rw[j8 av] at cM hf aF;have mm:h1 aa a c vs:=av.keep (cM a (by simp));refine⟨⟨a,vs,rfl,mm,au.keep aw λb h=>cM b (dn _ h),a',λb h=>?_,ie⟩,by rw[j8 av,j8 mm]⟩;obtain⟨n,q⟩:=fL b h;refine⟨λf=>n (hf b h f),?_⟩;cases m with
  |cI=>exact q
  |own=>exact aF b h q
  |b_=>exact aF b h q
def d1.wh{s:aJ}{v:V}(r:d1 K E O F H s v)(x:Ext F H aG aa):d1 K E O aG aa s v/\dB aa s v=dB H s v:=
 r.keep x.aw (λb h=>by
  obtain⟨o,e,m⟩:=r.at h;rw[e];exact x.same.get e λps z=>by subst z;exact m.cases (λ_ z=>by cases z) (λ_ z=>by cases z) (λ_ _ _ z=>by cases z)) (λb h f=>by
  rcases x.new b f with z|z
  ·exact z
  ·obtain⟨o,e,_⟩:=r.at h;rw[z] at e;cases e) λ_ _ o=>o
def d1.ext{s:aJ}{v:V}(r:d1 K E O F H s v)(x:Ext F H aG aa):d1 K E O aG aa s v:=(r.wh x).1
end
structure cP(K:a9)(aE:ag->Prop)(E:gj)(O F:ag->Prop)(H:ay)(ε:Ev)(σ:bh.St):Prop where
 len:ε.length=σ.length
 val:∀(i:Nat) (s:aJ),ε[i]?=some (some s)->∃v,σ[i]?=some (some v)/\d1 K E O F H s v
 ne:∀(i j:Nat) (s u:aJ) (v w:V),i≠j->ε[i]?=some (some s)->ε[j]?=some (some u)->s.iN=true->u.iN=true->σ[i]?=some (some v)->σ[j]?=some (some w)->∀a∈dB H s v,a∉dB H u w
 ent:Ext aE E.h F H
 o0:∀a,O a->E.h a=none
 fr:∀a,H a=none->O a
section
variable {K:a9}{aE O F aY:ag->Prop}{E:gj}{H H1:ay}{ε:Ev}{σ:bh.St}
theorem cP.cu(r:cP K aE E O F H ε σ):fE F H:=r.ent.cu
theorem cP.ext(r:cP K aE E O F H ε σ)(x:Ext F H aY H1):cP K aE E O aY H1 ε σ:=
 ⟨r.len,λi s e=>by
  obtain⟨v,af,ak⟩:=r.val i s e;exact⟨v,af,ak.ext x⟩,λi j s u v w i_ aD aO dH d3 af ak=>by
  obtain⟨iU,dU,bg⟩:=r.val i s aD;obtain⟨gA,g_,b5⟩:=r.val j u aO;rw[af] at dU;rw[ak] at g_;cases dU;cases g_;rw[(bg.wh x).2,(b5.wh x).2];exact r.ne i j s u v w i_ aD aO dH d3 af ak,r.ent.trans x,r.o0,λa e=>r.fr a (x.same.none e)⟩
def get_set{α:Type}{l:List (Option α)}{i j:Nat}{x:Option α}{y:α}(h:(l.set i x)[j]?=some (some y)):(i=j/\x=some y/\j<l.length)\/(i≠j/\l[j]?=some (some y)):=by
 rw[uY] at h;by_cases e:i=j
 ·subst e;rw[if_pos rfl] at h;split at h
  next aB=>exact .inl ⟨rfl,ef h,aB⟩
  next=>cases h
 ·rw[if_neg e] at h;exact .inr ⟨e,h⟩
def Lw{α:Type}{l:List (Option α)}{i:Nat}{x:Option α}(h:i<l.length):(l.set i x)[i]?=some x:=by
 rw[uY,if_pos rfl,if_pos h]
def Cs{α:Type}{l:List (Option α)}{i j:Nat}{x:Option α}(h:i≠j):(l.set i x)[j]?=l[j]?:=by
 rw[uY,if_neg h]
def cP.setG{s:aJ}{v:V}(r:cP K aE E O F H ε σ)(i:Nat)(h:d1 K E O F H s v)(fr:s.iN=true->∀(j:Nat) (u:aJ) (w:V),i≠j->ε[j]?=some (some u)->u.iN=true->σ[j]?=some (some w)->∀a∈dB H s v,a∉dB H u w):
  cP K aE E O F H (ε.set i (some s)) (σ.set i (some v)):=by
 refine⟨by simp[r.len],λj u e=>?_,λj k u w nx lR oi aD aO dH d3 af ak=>?_,r.ent,r.o0,r.fr⟩
 ·rcases get_set e with ⟨rfl,bS,aB⟩|⟨ne,bS⟩
  ·cases bS
   exact⟨_,Lw (by rw[<- r.len];exact aB),h⟩
  ·obtain⟨w,af,ak⟩:=r.val j u bS;exact⟨w,by rw[Cs ne];exact af,ak⟩
 ·rcases get_set aD with ⟨rfl,bS,aB⟩|⟨ne1,jW⟩
  ·rcases get_set aO with ⟨rfl,_,_⟩|⟨ne2,hr⟩
   ·exact absurd rfl oi
   ·rw[Lw (by rw[<- r.len];exact aB)] at af;rw[Cs ne2] at ak;cases af;cases bS;exact fr dH k w lR ne2 hr d3 ak
  ·rw[Cs ne1] at af;rcases get_set aO with ⟨rfl,bS,aB⟩|⟨ne2,hr⟩
   ·rw[Lw (by rw[<- r.len];exact aB)] at ak;cases ak;cases bS;intro a av U;exact fr d3 j u nx ne1 jW dH af a U av
   ·rw[Cs ne2] at ak;exact r.ne j k u w nx lR oi jW hr dH d3 af ak
theorem cP.set{t:T}{v:V}(r:cP K aE E O F H ε σ)(i:Nat)(h:Rep K F H t v):cP K aE E O F H (ε.set i (some (.ae t))) (σ.set i (some v)):=r.setG (s:=.ae t) i h λz=>by cases z
def cP.adZ{s:aJ}{v:V}(r:cP K aE E O F H ε σ)(i:Nat)(x:Ext F H aY H1)(h:d1 K E O aY H1 s v)(a6:∀a∈dB H1 s v,H a=none):cP K aE E O aY H1 (ε.set i (some s)) (σ.set i (some v)):=
 (r.ext x).setG i h λ_ j u w _ amc _ bR a av U=>by
  obtain⟨gA,af,ak⟩:=r.val j u amc;rw[bR] at af;cases af;rw[(ak.wh x).2] at U;obtain⟨o,e,_⟩:=ak.at U;rw[a6 a av] at e;cases e
def SR{x:ag}{o o':ea}(a6:¬F x)(hx:H x=some o)(hm:mX o):ej K F H F (upd H x o'):=by
 refine⟨λb xs q=>?_,λb xs f q=>⟨f,?_⟩⟩
 ·rcases q with q|q
  ·refine .inl ?_
   have nb:b≠x:=by
    rintro rfl;rcases q with q|⟨_,q⟩ <;> (rw[hx] at q;cases q;exact hm.cases (λ_ z=>by cases z) (λ_ z=>by cases z) (λ_ _ _ z=>by cases z))
   rcases q with q|⟨u,q⟩
   ·exact .inl (by rw[cQ nb];exact q)
   ·exact .inr ⟨u,by rw[cQ nb];exact q⟩
  ·exact .inr q
 ·have nb:b≠x:=by
   rintro rfl;exact a6 f
  rcases q with q|⟨u,q⟩
  ·exact .inl (by rw[cQ nb];exact q)
  ·exact .inr ⟨u,by rw[cQ nb];exact q⟩
def Ss{x:ag}{o o':ea}{h0:ay}(e:Ext aE h0 F H)(Y9:h0 x=none)(a6:¬F x)(hx:H x=some o)(hm:mX o):Ext aE h0 F (upd H x o'):=by
 refine⟨λb u q=>?_,e.sub,e.new,⟨λb f=>?_,e.cu.mz.PJ λu z=>by rw[hx] at z;cases z;exact hm⟩⟩
 ·have nb:b≠x:=by
   rintro rfl;rw[Y9] at q;cases q
  rw[cQ nb];exact e.same b u q
 ·have nb:b≠x:=by
   rintro rfl;exact a6 f
  rw[cQ nb];exact e.cu b f
def cP.IB{s s':aJ}{v:V}{x:ag}{o':ea}(r:cP K aE E O F H ε σ){i:Nat}(e:ε[i]?=some (some s))(aF:s.iN=true)(br:σ[i]?=some (some v))(hx:x∈dB H s v)
  (h:ej K F H F (upd H x o')->d1 K E O F (upd H x o') s' v)
  (aC:∀b∈dB (upd H x o') s' v,b∈dB H s v\/∀(j:Nat) (u:aJ) (w:V),i≠j->ε[j]?=some (some u)->u.iN=true->σ[j]?=some (some w)->b∉dB H u w):
  ej K F H F (upd H x o')/\cP K aE E O F (upd H x o') (ε.set i (some s')) σ:=by
 obtain⟨iU,sx,rs⟩:=r.val i s e;rw[br] at sx;cases sx;obtain⟨o,eH,hm⟩:=rs.at hx;obtain⟨A3,jY,_⟩:=rs.held hx;have Zf:=jY aF;have aw:ej K F H F (upd H x o'):=SR A3 eH hm;have h0:=r.o0 x Zf;have keep:∀(j:Nat) (u:aJ) (w:V),i≠j->ε[j]?=some (some u)->σ[j]?=some (some w)->d1 K E O F H u w->d1 K E O F (upd H x o') u w/\dB (upd H x o') u w=dB H u w:=by
  intro j u w i_ amc bR c9;refine c9.keep aw (λb U=>cQ ?_) (λ_ _ f=>f) λ_ _ o=>o;rintro rfl;cases qN:u.iN with
  |true=>exact r.ne i j s u v w i_ e amc aF qN br bR b hx U
  |false=>exact (c9.held U).2.2 qN h0
 refine⟨aw,⟨by simp[r.len],λj u bS=>?_,λj k u w nx lR oi aD aO dH d3 af ak=>?_,Ss r.ent h0 A3 eH hm,r.o0,λb bS=>r.fr b ?_⟩⟩
 ·rcases get_set bS with ⟨rfl,pC,aB⟩|⟨ne,pC⟩
  ·cases pC
   exact⟨_,br,h aw⟩
  ·obtain⟨w,af,ak⟩:=r.val j u pC;exact⟨w,af,(keep j u w ne pC af ak).1⟩
 ·rcases get_set aD with ⟨rfl,bS,aB⟩|⟨ne1,jW⟩
  ·rcases get_set aO with ⟨rfl,_,_⟩|⟨ne2,hr⟩
   ·exact absurd rfl oi
   ·cases bS
    rw[br] at af;cases af;obtain⟨gA,g_,b5⟩:=r.val k w hr;rw[ak] at g_;cases g_;rw[(keep k w lR ne2 hr ak b5).2];intro a av U;rcases aC a av with z|z
    ·exact r.ne i k s w v lR ne2 e hr aF d3 br ak a z U
    ·exact z k w lR ne2 hr d3 ak U
  ·obtain⟨v1,dU,bg⟩:=r.val j u jW;rw[af] at dU;cases dU;rw[(keep j u nx ne1 jW af bg).2];rcases get_set aO with ⟨rfl,bS,aB⟩|⟨ne2,hr⟩
   ·cases bS
    rw[br] at ak;cases ak;intro a av U;rcases aC a U with z|z
    ·exact r.ne i j s u v nx ne1 e jW aF dH br af a z av
    ·exact z j u nx ne1 jW dH af av
   ·obtain⟨gA,g_,b5⟩:=r.val k w hr;rw[ak] at g_;cases g_;rw[(keep k w lR ne2 hr ak b5).2];exact r.ne j k u w nx lR oi jW hr dH d3 af ak
 ·by_cases nb:b=x
  ·subst nb;rw[er] at bS;cases bS
  ·rwa [cQ nb] at bS
end
def JB(K:a9)(f:bz):TE:=λσ H Q=>∃aE aR O F ε t,cP K aE aR O F H ε σ/\f ε=some t/\∀v aG aa,Ext F H aG aa->fR K O aG aa t v->Q v aa
def Bw(K:a9)(f:bz):TE:=λσ H Q=>∃aE aR O F ε t,cP K aE aR O F H ε σ/\f ε=some t/\∀v aG aa,Ext F H aG aa->Rep K aG aa t v->Q v aa
noncomputable def tN(K:a9)(f:bz):TE:=λσ H Q=>∃aE aR O F ε ts,cP K aE aR O F H ε σ/\f ε=some (.list ts)/\∀a vs aG aa,Ext F H aG aa->H a=none->¬aG a->aa a=some (.lst vs)->bG K aG aa ts vs->Q (.ref a) aa
def JD(K:a9)(f:eT):TT:=λσ H Q=>∃aE aR O F ε b,cP K aE aR O F H ε σ/\f ε=some b/\∀aG aa,Ext F H aG aa->Q b aa
def PA(K:a9)(ar:List bz):fS:=λσ H Q=>∃aE aR O F ε ts,cP K aE aR O F H ε σ/\args ar ε=some ts/\∀vs aG aa,Ext F H aG aa->Paired (fR K O aG aa) ts vs->Q vs aa
def ae2(K:a9)(ar:List bz):fS:=λσ H Q=>∃aE aR O F ε ts,cP K aE aR O F H ε σ/\args ar ε=some ts/\∀vs aG aa,Ext F H aG aa->bG K aG aa ts vs->Q vs aa
abbrev e6(X:aV)(e:bj)(f:bz):Prop:=bQ X e (JB X.K f)
abbrev cO(X:aV)(e:bj)(f:bz):Prop:=bQ X e (Bw X.K f)
abbrev t2(X:aV)(e:bj)(f:bz):Prop:=bQ X e (tN X.K f)
abbrev jn(X:aV)(e:bj)(f:eT):Prop:=ir X e (JD X.K f)
abbrev rZ(X:aV)(e:bj)(f:eT):Prop:=l_ X e (JD X.K f)
abbrev qg(X:aV)(es:List bj)(ar:List bz):Prop:=f5 X es (PA X.K ar)
abbrev kN(X:aV)(es:List bj)(ar:List bz):Prop:=f5 X es (ae2 X.K ar)
def d5{X:aV}{e:bj}{t t':TE}(h:bQ X e t)(k:∀σ H Q,t' σ H Q->t σ H Q):bQ X e t':=λai s σ H Q I q=>h ai s σ H Q I (k σ H Q q)
def rv{X:aV}{e:bj}{t t':TT}(h:ir X e t)(k:∀σ H Q,t' σ H Q->t σ H Q):ir X e t':=λai s σ H Q I q=>h ai s σ H Q I (k σ H Q q)
def L'{X:aV}{e:bj}{t t':TT}(h:l_ X e t)(k:∀σ H Q,t' σ H Q->t σ H Q):l_ X e t':=λw ai s σ H Q I q=>h w ai s σ H Q I (k σ H Q q)
def yI{X:aV}{e:List bj}{t t':fS}(h:f5 X e t)(k:∀σ H Q,t' σ H Q->t σ H Q):f5 X e t':=λpos ai s σ H Q I q=>h pos ai s σ H Q I (k σ H Q q)
def g4{X:aV}{e:Stmt}{t t':fT}(h:hG X e t)(k:∀D σ H,t' D σ H->t D σ H):hG X e t':=λai s σ H D I q=>h ai s σ H D I (k D σ H q)
def yv{X:aV}{e:List Stmt}{t t':fT}(h:fF X e t)(k:∀D σ H,t' D σ H->t D σ H):fF X e t':=λai s σ H D I q=>h ai s σ H D I (k D σ H q)
section
variable {X:aV}{e:bj}{f:bz}
def az(h:cO X e f):e6 X e f:=d5 h λσ H Q ⟨aE,aR,O,F,ε,t,r,e,k⟩=>⟨aE,aR,O,F,ε,t,r,e,λv aG aa x q=>k v aG aa x (.inl q)⟩
def OU(h:t2 X e f)(hf:∀ε t,f ε=some t->∃ts,t=.list ts):cO X e f:=d5 h λσ H Q ⟨aE,aR,O,F,ε,t,r,e,k⟩=>by
 obtain⟨ts,rfl⟩:=hf _ _ e;refine⟨aE,aR,O,F,ε,ts,r,e,λa vs aG aa x a6 hP av q=>?_⟩;have y:Ext F H (λb=>aG b\/b=a) aa:=⟨x.same,λb z=>.inl (x.sub b z),λb z=>by
  rcases z with z|rfl
  ·exact x.new b z
  ·exact .inr a6,⟨λb z=>by
  rcases z with z|rfl
  ·exact x.cu b z
  ·exact⟨_,av⟩,x.cu.mz⟩⟩
 refine k (.ref a) _ aa y ?_
 simp only[Rep];exact⟨a,vs,rfl,.inr rfl,.inl av,q.keep (λ_ _ z=>z) λb _ z w=>⟨.inl z,w⟩⟩
end
end
section
variable [cJ]
section
variable {X:aV}{a b c e:bj}{f g h:bz}{pos:Pos}
def vR{t:T}{v:V}(he:bQ X e (lP v))(au:∀F H,Rep X.K F H t v):cO X e (ah t):=d5 he λσ H Q ⟨aE,aR,O,F,ε,t',r,e,k⟩=>by
 cases e
 exact k v F H (Ext.refl r.cu) (au _ _)
def aQ{i j}:cO X (.Constant (.int i) j pos) (ah (.int i)):=vR akh λ_ _=>by simp[Rep]
def qQ{i j}:cO X (.Constant (.bool i) j pos) (ah (.bool i)):=vR ak8 λ_ _=>by simp[Rep]
def bY{i j}:cO X (.Constant (.str i) j pos) (ah (.str i)):=vR C' λ_ _=>by simp[Rep]
def o3{j}:cO X (.Constant .none j pos) (ah .none):=vR Tw λ_ _=>by simp[Rep]
def a5(i:Nat){x:Str}(eB:X.N[i]?=some x:=by rfl)(br:qi X.env.scope x:=by first|exact Or.inl rfl|exact Or.inr (Or.inl rfl)|exact Or.inr (Or.inr rfl))(hd:(x==("__debug__":Str))=false:=by decide)
  (eZ:(x==("__classdict__":Str))=false:=by decide):e6 X (.Name x pos) (nm i):=d5 (aT i eB br hd eZ) λσ H Q ⟨aE,aR,O,F,ε,t,r,e,k⟩=>by
 unfold nm at e;split at e
 next t' he=>
  cases e
  obtain⟨v,af,ak⟩:=r.val _ _ he;exact⟨v,af,k v F H (Ext.refl r.cu) (.inl ak)⟩
 next ts he=>
  cases e
  obtain⟨v,af,a,vs,rfl,n,h0,cM,au⟩:=r.val _ _ he;exact⟨_,af,k _ F H (Ext.refl r.cu) (.inr ⟨ts,a,vs,rfl,rfl,cM,au⟩)⟩
 next=>cases e
def bJ(i:Nat){x:Str}(eB:X.N[i]?=some x:=by rfl)(br:qi X.env.scope x:=by first|exact Or.inl rfl|exact Or.inr (Or.inl rfl)|exact Or.inr (Or.inr rfl))(hd:(x==("__debug__":Str))=false:=by decide)
  (eZ:(x==("__classdict__":Str))=false:=by decide):cO X (.Name x pos) (aS i):=d5 (aT i eB br hd eZ) λσ H Q ⟨aE,aR,O,F,ε,t,r,e,k⟩=>by
 unfold aS at e;split at e
 next t' he=>
  cases e
  obtain⟨v,af,ak⟩:=r.val _ _ he;exact⟨v,af,k v F H (Ext.refl r.cu) ak⟩
 next=>cases e
noncomputable def l9(K:a9)(o:T->T->Option T)(R:gE):Prop:=
 ∀(O F:ag->Prop) (H:ay) (x y t:T) (iV iW:V) (Q:dj),fE F H->fR K O F H x iV->fR K O F H y iW->o x y=some t ->
  (∀v aG aa,Ext F H aG aa->Rep K aG aa t v->Q v aa)->R iV iW H Q
def rm{o:T->T->Option T}{R:gE}(h:l9 X.K o R):∀σ H Q,Bw X.K (ao o f g) σ H Q->uK R (JB X.K f) (JB X.K g) σ H Q:=by
 rintro σ H Q ⟨aE,aR,O,F,ε,t,r,e,k⟩;simp only[ao,cz] at e;obtain⟨x,ex,y,fy,eH⟩:=e;refine⟨aE,aR,O,F,ε,x,r,ex,λiV aY H1 aP aW=>⟨aE,aR,O,aY,ε,y,r.ext aP,fy,λiW du bk b6 bx=>?_⟩⟩;exact h O du bk x y t iV iW Q b6.cu (aW.ext b6) bx eH λv aG aa hc dg=>k v aG aa ((aP.trans b6).trans hc) dg
def Inv.AZ{ai:List (ag×Obj)}{σ:bh.St}{H:ay}{s:aI}{l:ag}{xs:List V}(I:Inv X ai σ H s)(eY:eM H l (.lst xs)):
  xs.length<=cG/\∃(its:List aj) (n:Nat),Vals xs its/\xs.length=its.length/\s.heap.get? l=some {cls:=.type "list",data:=.seq its.toArray n}:=by
 obtain⟨z,its,n,r,e⟩:=eY.ok I.bO;exact⟨z,its,n,r,r.length,e⟩
noncomputable def akY:gE:=λx y H Q=>∃l b xs zs,x=.ref l/\y=.ref b/\eM H l (.lst xs)/\eM H b (.lst zs)/\xs.length+zs.length<=cG/\∀p,H p=none->Q (.ref p) (upd H p (.lst (xs++zs)))
def ajm:e5 X (nA .Add) akY:=by
 intro ai s σ H x y v u Q I aW bx h;obtain⟨l,b,xs,zs,rfl,rfl,eY,Zb,aq,q⟩:=h;cases aW;cases bx;obtain⟨z,its,n,r,aB,e⟩:=Inv.AZ I eY;obtain⟨gC,ha,gd,b5,z',aO⟩:=Inv.AZ I Zb;refine PySem.P.add_list e aO ?_ (by rw[eQ,eQ];omega);have b':its.toArray++ha.toArray=(its++ha).toArray:=by simp
 rw[b'];exact⟨.ref _,_,I.AW (t':=s.toks) (r.append b5) (by rw[mD];omega),rfl,q _ I.fresh⟩
def aj3(K:a9):gE:=λx y H Q=>∃a b ys,x=.ref a/\y=.ref b/\c3 K H a []/\c3 K H b ys/\Q (.ref b) H
def aiq:e5 X (nA .Add) (aj3 X.K):=by
 intro ai s σ H x y v u Q I aW bx h;obtain⟨a,b,ys,rfl,rfl,av,U,q⟩:=h;cases aW;cases bx;obtain⟨its,bg,nt,_⟩:=I.tuple av;obtain⟨ha,b5,fM,_⟩:=I.tuple U;have FH:its=[]:=bg.A4.mpr rfl;subst FH;obtain⟨⟨cls,dd,data,dK⟩,aF,ax,n,hd⟩:=id nt;obtain⟨⟨Fy,mf,data2,hS⟩,ame,kT,gd,hd2⟩:=id fM;simp only at ax hd kT hd2;subst ax hd kT hd2;exact concat_meets ⟨_,aF,rfl⟩ ⟨_,ame,rfl⟩ noFill_tuple_add seq_tuple_add PySem.F.slot_tuple_add PySem.F.entry_tuple_add (PySem.F.args_tuple_add_2 _ _)
   (tuple_addW0 a b ([]:List aj).toArray ha.toArray n gd dd mf dK hS (by simp)) ⟨aF,ame,⟨.ref b,H,I,rfl,q⟩⟩
def nO:cG=big:=by rw[jg];rfl
def kH(av:e6 X a f)(U:e6 X b g):cO X (.BinOp a .Add b pos) (ao dC f g):=
 d5 (yL (akn.or (ag2.or (aiq.or (ajl.or ajm)))) av U) (rm (by
  intro O F H x y t iV iW Q d aW bx e k;unfold dC at e;split at e
  ·cases e
   rw[aW.int,bx.int];exact .inl ⟨_,_,rfl,rfl,k _ F H (Ext.refl d) (by simp[Rep])⟩
  ·split at e
   next aq=>
    cases e
    rw[aW.str,bx.str];exact .inr (.inl ⟨_,_,rfl,rfl,by rw[nO];exact aq,k _ F H (Ext.refl d) (by simp[Rep])⟩)
   next=>cases e
  ·split at e
   next xs ys aq=>
    cases e
    obtain⟨zc,vs,rfl,aA,au⟩:=aW.tup;obtain⟨MU,ws,rfl,om,sv⟩:=bx.tup;cases xs with
    |nil=>
     simp only[bG] at au;subst au;refine .inr (.inr (.inl ⟨_,_,_,rfl,rfl,aA,om,k _ F H (Ext.refl d) ?_⟩));simp only[Rep];exact⟨_,_,rfl,om,by simpa using sv⟩
    |cons x0 PN=>
     refine .inr (.inr (.inr (.inl ⟨_,_,_,_,rfl,rfl,aA,om,?_,?_,λb7=>?_,λb7 p aC=>?_⟩)))
     ·intro z;subst z;have:=au.length;simp at this
     ·rw[nO,<- au.length,<- sv.length];exact aq
     ·refine k _ F H (Ext.refl d) ?_
      subst b7;have aD:ys=[]:=List.eq_nil_of_length_eq_zero (by rw[sv.length];rfl);subst aD;simp only[Rep];exact⟨_,_,rfl,aA,by simpa using au⟩
     ·have aP:=Ext.laid (o:=.tup (vs++ws)) d aC;refine k _ F _ aP ?_;simp only[Rep];exact⟨p,_,rfl,c3.of er,(au.append sv).ext aP⟩
   next=>cases e
  ·split at e
   next xs ys aq=>
    cases e
    obtain⟨zc,vs,rfl,aA,au⟩:=aW.lst;obtain⟨MU,ws,rfl,om,sv⟩:=bx.lst;refine .inr (.inr (.inr (.inr ⟨_,_,_,_,rfl,rfl,aA,om,by rw[nO,<- au.length,<- sv.length];exact aq,λp aC=>?_⟩)));have aP:=Ext.aaH (o:=.lst (vs++ws)) d aC;refine k _ _ _ aP ?_;simp only[Rep];exact⟨p,_,rfl,.inr rfl,.inl er,(au.append sv).ext aP⟩
   next=>cases e
  ·cases e))
def T'(av:e6 X a f)(U:e6 X b g):cO X (.BinOp a .Sub b pos) (ao qL f g):=
 d5 (yL akk av U) (rm (by
  intro O F H x y t iV iW Q d aW bx e k;unfold qL at e;split at e
  ·cases e
   rw[aW.int,bx.int];exact⟨_,_,rfl,rfl,k _ F H (Ext.refl d) (by simp[Rep])⟩
  ·cases e))
def rz(av:e6 X a f)(U:e6 X b g):cO X (.BinOp a .Mult b pos) (ao dI f g):=
 d5 (yL akl av U) (rm (by
  intro O F H x y t iV iW Q d aW bx e k;unfold dI at e;split at e
  ·split at e
   next hm=>
    cases e
    rw[aW.int,bx.int];refine⟨_,_,rfl,rfl,?_,k _ F H (Ext.refl d) (by simp[Rep])⟩;simpa [vT,yW] using hm
   next=>cases e
  ·cases e))
def i2(av:e6 X a f)(U:e6 X b g):cO X (.BinOp a .FloorDiv b pos) (ao oDiv f g):=
 d5 (yL ajk av U) (rm (by
  intro O F H x y t iV iW Q d aW bx e k;unfold oDiv at e;split at e
  ·split at e
   next hm=>
    cases e
    rw[aW.int,bx.int];exact⟨_,_,rfl,rfl,hm,k _ F H (Ext.refl d) (by simp[Rep])⟩
   next=>cases e
  ·cases e))
def gD(av:e6 X a f)(U:e6 X b g):cO X (.BinOp a .Mod b pos) (ao oMod f g):=
 d5 (yL akm av U) (rm (by
  intro O F H x y t iV iW Q d aW bx e k;unfold oMod at e;split at e
  ·split at e
   next hm=>
    cases e
    rw[aW.int,bx.int];exact⟨_,_,rfl,rfl,hm,k _ F H (Ext.refl d) (by simp[Rep])⟩
   next=>cases e
  ·cases e))
def b3(av:e6 X a f)(U:e6 X b g)(aA:Ta b:=by intro _ _;rfl):cO X (.Subscript a b pos) (ao a4 f g):=
 d5 (ak7 akz av U aA) (rm (by
  intro O F H x y t iV iW Q d aW bx e k;unfold a4 at e;split at e
  ·obtain⟨zc,vs,rfl,aA,au⟩:=aW.tup;rw[bx.int];simp only[fG,cz] at e;obtain⟨j,bR,bw⟩:=e;obtain⟨v,br,bP⟩:=au.get bw;refine .inr (.inl ⟨_,_,_,v,rfl,rfl,aA,?_,k _ F H (Ext.refl d) bP⟩);rw[au.length] at bR;show (qF _ _).bind _=_;rw[show qF vs.length _=some j from bR];exact br
  ·obtain⟨zc,vs,rfl,aA,au⟩:=aW.lst;rw[bx.int];simp only[fG,cz] at e;obtain⟨j,bR,bw⟩:=e;obtain⟨v,br,bP⟩:=au.get bw;refine .inl ⟨_,_,_,v,rfl,rfl,.inl aA,?_,k _ F H (Ext.refl d) bP⟩;rw[au.length] at bR;show (qF _ _).bind _=_;rw[show qF vs.length _=some j from bR];exact br
  ·split at e
   next aq=>
    rw[aW.str,bx.int];simp only[dE] at e;obtain⟨c,ax,rfl⟩:=e;exact .inr (.inr ⟨_,_,c,rfl,rfl,by rw[nO];exact aq,ax,k _ F H (Ext.refl d) (by simp[Rep])⟩)
   next=>cases e
  ·cases e))
end
end
section
variable [cJ]
noncomputable def y0(K:a9)(aE:ag->Prop)(aR:gj)(O F:ag->Prop)(H:ay)(D:Ends):Out->Prop
|.bK ε'=>∀cg aG aa,ej K F H aG aa->cP K aE aR O aG aa ε' cg->D.bK cg aa
|.d4 t=>∀v aG aa,Ext aE aR.h aG aa->Rep K aG aa t v->D.d4 v aa
|.ij t ε'=>∀v cg aG aa,cP K aE aR O aG aa ε' cg->Rep K aG aa t v->D.d4 v aa
|.kZ s=>∀a aG aa,Ext aE aR.h aG aa->d1 K aR O aG aa s (.ref a)->D.d4 (.ref a) aa
|.gp ε'=>∀cg aG aa,ej K F H aG aa->cP K aE aR O aG aa ε' cg->D.gp cg aa
|.dN ε'=>∀cg aG aa,ej K F H aG aa->cP K aE aR O aG aa ε' cg->D.dN cg aa
def PE(K:a9)(g:bA):fT:=λD σ H=>∃aE aR O F ε o,cP K aE aR O F H ε σ/\g ε=some o/\y0 K aE aR O F H D o
abbrev f6(X:aV)(s:Stmt)(g:bA):Prop:=hG X s (PE X.K g)
abbrev hF(X:aV)(s:List Stmt)(g:bA):Prop:=fF X s (PE X.K g)
def y0.aw{K:a9}{aE O F aY:ag->Prop}{aR:gj}{H H1:ay}{D:Ends}{o:Out}(h:y0 K aE aR O F H D o)(x:ej K F H aY H1):y0 K aE aR O aY H1 D o:=by
 cases o with
|bK ε=>exact λcg aG aa k r=>h cg aG aa (x.trans k) r
|d4 t=>exact h
|gp ε=>exact λcg aG aa k r=>h cg aG aa (x.trans k) r
|dN ε=>exact λcg aG aa k r=>h cg aG aa (x.trans k) r
|ij t ε=>exact h
|kZ s=>exact h
section
variable {X:aV}{e a b c:bj}{f:bz}{g g':bA}{gS:eT}{st:Stmt}{rest:List Stmt}{pos:Pos}
def ew:hF X [] skip:=yv ai8 λD σ H ⟨aE,aR,O,F,ε,o,r,e,k⟩=>by
 cases e
 exact k σ F H ej.refl r
def bI(h:f6 X st g):hF X [st] g:=vv h
def bH(af:f6 X st g)(ak:hF X rest g'):hF X (st::rest) (seq g g'):=yv (yl af ak) λD σ H ⟨aE,aR,O,F,ε,o,r,e,k⟩=>by
 simp only[seq,cz] at e;obtain⟨dH,aD,aO⟩:=e;refine⟨aE,aR,O,F,ε,dH,r,aD,?_⟩;cases dH with
|bK ε'=>exact λcg aG aa x cq=>⟨aE,aR,O,aG,ε',o,cq,aO,k.aw x⟩
|d4 t=>
  cases aO
  exact k
|gp ε'=>
  cases aO
  exact k
|dN ε'=>
  cases aO
  exact k
|ij t ε'=>
  cases aO
  exact k
|kZ s=>
  cases aO
  exact k
def d_(h:cO X e f):f6 X (.Return (some e) pos) (cy f):=g4 (tK h) λD σ H ⟨aE,aR,O,F,ε,o,r,e,k⟩=>by
 simp only[cy,dE] at e;obtain⟨t,bw,rfl⟩:=e;exact⟨aE,aR,O,F,ε,t,r,bw,λv aG aa x q=>k v aG aa (r.ent.trans x) q⟩
def ajU(i:Nat){x:Str}{sN:Pos}(eB:X.N[i]?=some x:=by rfl)(br:qi X.env.scope x:=by first|exact Or.inl rfl|exact Or.inr (Or.inl rfl)|exact Or.inr (Or.inr rfl))(hd:(x==("__debug__":Str))=false:=by decide)
  (eZ:(x==("__classdict__":Str))=false:=by decide):f6 X (.Return (some (.Name x sN)) pos) (cy (nm i)):=g4 (tK (aT i eB br hd eZ)) λD σ H ⟨aE,aR,O,F,ε,o,r,e,k⟩=>by
 simp only[cy,dE] at e;obtain⟨t,bw,rfl⟩:=e;unfold nm at bw;split at bw
 next t' he=>
  cases bw
  obtain⟨v,af,ak⟩:=r.val _ _ he;exact⟨v,af,k v F H r.ent ak⟩
 next ts he=>
  cases bw
  obtain⟨v,af,a,vs,rfl,n,h0,av,q⟩:=r.val _ _ he;have b6:=r.ent;have y:Ext aE aR.h (λb=>F b\/b=a) H:=⟨b6.same,λb z=>.inl (b6.sub b z),λb z=>by
   rcases z with z|rfl
   ·exact b6.new b z
   ·exact .inr (r.o0 _ h0),⟨λb z=>by
   rcases z with z|rfl
   ·exact b6.cu b z
   ·exact⟨_,av⟩,b6.cu.mz⟩⟩
  refine⟨_,af,k _ _ H y ?_⟩
  simp only[Rep];exact⟨a,vs,rfl,.inr rfl,.inl av,q.keep (λ_ _ z=>z) λb _ z w=>⟨.inl z,w⟩⟩
 next=>cases bw
def dz(ax:jn X c gS)(av:hF X rest g){qp:List Stmt}(U:hF X qp g'):f6 X (.If c rest qp pos) (iff gS g g'):=g4 (Mg ax av U) λD σ H ⟨aE,aR,O,F,ε,o,r,e,k⟩=>by
 simp only[iff,cz] at e;obtain⟨b,dZ,e⟩:=e;refine⟨aE,aR,O,F,ε,b,r,dZ,λaG aa x=>?_⟩;cases b with
|true=>exact sF ⟨aE,aR,O,aG,ε,o,r.ext x,by simpa using e,k.aw x.aw⟩
|false=>exact sE ⟨aE,aR,O,aG,ε,o,r.ext x,by simpa using e,k.aw x.aw⟩
def et(i:Nat){x:Str}{pos':Pos}(eB:X.N.Nodup)(he:cO X e f)(bc:X.N[i]?=some x:=by rfl)(hx:Loc X.env.scope x:=by first|exact Or.inl rfl|exact Or.inr rfl)
  (aA:jh e (some (.Name x pos')) pos.line X.env=pure false:=by rfl) (hf:X.fn x=true\/X.env.scope.names.lookup x=some .local:=by first|exact .inl rfl|exact .inr rfl):
  f6 X (.Assign [.Name x pos'] e pos) (asg i f):=g4 (vH eB bc hx he aA hf) λD σ H ⟨aE,aR,O,F,ε,o,r,e,k⟩=>by
 simp only[asg,dE] at e;obtain⟨t,bw,rfl⟩:=e;refine⟨aE,aR,O,F,ε,t,r,bw,λv aG aa x q=>?_⟩;exact k _ aG aa x.aw ((r.ext x).set i q)
def tG(K:a9)(g:iJ):nX:=λv σ H Q=>∃aE aR O F ε t ε',cP K aE aR O F H ε σ/\Rep K F H t v/\g t ε=some ε'/\∀cg,cP K aE aR O F H ε' cg->Q cg H
def ae8(K:a9)(fA:List iJ):pq:=λvs σ H Q=>∃aE aR O F ε ts ε',cP K aE aR O F H ε σ/\bG K F H ts vs/\gb fA ts ε=some ε'/\∀cg,cP K aE aR O F H ε' cg->Q cg H
abbrev pj(X:aV)(e:bj)(g:iJ):Prop:=rW X e (tG X.K g)
abbrev y3(X:aV)(es:List bj)(fA:List iJ):Prop:=rX X es (ae8 X.K fA)
def T2{X:aV}{e:bj}{t t':nX}(h:rW X e t)(k:∀v σ H Q,t' v σ H Q->t v σ H Q):rW X e t':=λai s σ H v u Q I r q=>h ai s σ H v u Q I r (k v σ H Q q)
def Tb{X:aV}{e:List bj}{t t':pq}(h:rX X e t)(k:∀v σ H Q,t' v σ H Q->t v σ H Q):rX X e t':=λai s σ H v u Q I r q=>h ai s σ H v u Q I r (k v σ H Q q)
def g9(i:Nat){x:Str}(eB:X.N.Nodup)(bc:X.N[i]?=some x:=by rfl)(hx:Loc X.env.scope x:=by first|exact Or.inl rfl|exact Or.inr rfl)
  (hf:X.fn x=true\/X.env.scope.names.lookup x=some .local:=by first|exact .inl rfl|exact .inr rfl):pj X (.Name x pos) (cx i):=T2 (ajd eB bc hx hf) λv σ H Q ⟨aE,aR,O,F,ε,t,ε',r,q,e,k⟩=>by
 cases e
 exact k _ (r.set i q)
def yR:y3 X [] []:=Tb ajc λvs σ H Q ⟨aE,aR,O,F,ε,ts,ε',r,q,e,k⟩=>by
 cases ts with
|nil=>
  cases e
  simp only[bG] at q;exact⟨q,k σ r⟩
|cons t ts=>cases e
def nL{es:List bj}{g:iJ}{fA:List iJ}(af:pj X e g)(ak:y3 X es fA)(aA:(p2 (e::es) X.env).map (·.2)=assign e X.env::(p2 es X.env).map (·.2):=by rfl):y3 X (e::es) (g::fA):=
 Tb (ain af ak aA) λvs σ H Q ⟨aE,aR,O,F,ε,ts,ε',r,q,e,k⟩=>by
 cases ts with
|nil=>cases e
|cons t ts=>
  simp only[gb,cz] at e;obtain⟨fZ,aD,aO⟩:=e;simp only[bG] at q;obtain⟨v,JN,rfl,aM,bb⟩:=q;exact⟨v,JN,rfl,aE,aR,O,F,ε,t,fZ,r,aM,aD,λMp bg=>⟨aE,aR,O,F,fZ,ts,ε',bg,bb,aO,k⟩⟩
theorem Sp:∀{fA:List iJ} {ts:List T} {ε ε':Ev},gb fA ts ε=some ε'->ts.length=fA.length
| [],[],_,_,_=>rfl
| [],_::_,_,_,h=>by cases h
|_::_,[],_,_,h=>by cases h
|g::fA,t::ts,ε,ε',h=>by
  simp only[gb,cz] at h;obtain⟨fZ,_,h⟩:=h;simp[Sp h]
def yQ{es:List bj}{k:Nat}{fA:List iJ}(h:y3 X es fA)(ax:X.calm=true:=by rfl)(a6:(p2 es X.env).length=fA.length:=by rfl)(gJ:(p2 es X.env).findIdx? (·.1)=none:=by rfl):
  pj X (.Tuple es k pos) (eO fA):=T2 (ake ax h a6 gJ) λv σ H Q ⟨aE,aR,O,F,ε,t,ε',r,q,e,k⟩=>by
 unfold eO at e;split at e
 next ts=>
  simp only[Rep] at q;obtain⟨a,vs,rfl,aA,au⟩:=q;exact⟨a,vs,rfl,aA,by rw[<- au.length];exact Sp e,aE,aR,O,F,ε,ts,ε',r,au,e,k⟩
 next=>cases e
structure qf(K:a9)(J:lx)(aY:ag->Prop)(H1:ay)(ts:List T):Prop where
 go:∀i F H t,ej K aY H1 F H->fE F H->ts[i]?=some t->J.go i H
 nB:∀i F H t x aa,ej K aY H1 F H->fE F H->ts[i]?=some t->J.nB i H x aa->∃aG,Ext F H aG aa/\Rep K aG aa t x
 stop:∀i F H,ej K aY H1 F H->ts.length<=i->J.stop i H
def tI(K:a9)(f:al1):TI:=λσ H R=>∃aE aR O F ε ts,cP K aE aR O F H ε σ/\f ε=some ts/\∀J aG aa,Ext F H aG aa->qf K J aG aa ts->R J aa
abbrev pk(X:aV)(dt e:bj)(f:al1):Prop:=qh X dt e (tI X.K f)
def Dp{X:aV}{dt e:bj}{t t':TI}(h:qh X dt e t)(k:∀σ H R,t' σ H R->t σ H R):qh X dt e t':=λai s σ H R I q=>h ai s σ H R I (k σ H R q)
def ahL{K:a9}{a:ag}{aY:ag->Prop}{H1:ay}{ts:List T}{vs:List V}(bN:aY a)(au:eM H1 a (.lst vs))(q:bG K aY H1 ts vs):qf K (DN K a) aY H1 ts where
 go:=λi F H t aw d e=>by
  obtain⟨v,af,_⟩:=q.get e;exact⟨vs,v,.inl (aw.lst _ _ bN au).2,af⟩
 nB:=λi F H t x aa aw d e y=>by
  obtain⟨rfl,y⟩:=y;obtain⟨v,af,ak⟩:=(q.aw aw).get e;have:=y vs (.inl (aw.lst _ _ bN au).2);rw[af] at this;cases this;exact⟨F,Ext.refl d,ak⟩
 stop:=λi F H aw aB=>⟨vs,.inl (aw.lst _ _ bN au).2,by rw[<- q.length];exact aB⟩
def aiE{K:a9}{a:ag}{aY:ag->Prop}{H1:ay}{ts:List T}{vs:List V}(au:c3 K H1 a vs)(q:bG K aY H1 ts vs):qf K (DO K a) aY H1 ts where
 go:=λi F H t aw d e=>by
  obtain⟨v,af,_⟩:=q.get e;exact⟨vs,v,aw.tup _ _ au,af⟩
 nB:=λi F H t x aa aw d e y=>by
  obtain⟨rfl,y⟩:=y;obtain⟨v,af,ak⟩:=(q.aw aw).get e;have:=y vs (aw.tup _ _ au);rw[af] at this;cases this;exact⟨F,Ext.refl d,ak⟩
 stop:=λi F H aw aB=>⟨vs,aw.tup _ _ au,by rw[<- q.length];exact aB⟩
def Ly(lo bc:Int):(kY lo bc).length=(bc - lo).toNat:=by simp[kY]
def aiF{K:a9}{aY:ag->Prop}{H1:ay}(lo bc:Int):qf K (y2 lo (bc - lo).toNat) aY H1 (kY lo bc) where
 go:=λi F H t aw d e=>by
  have h:=(hW.mp e).1;rw[Ly] at h;exact h
 nB:=λi F H t x aa aw d e y=>by
  obtain⟨rfl,rfl⟩:=y;refine⟨F,Ext.refl d,?_⟩;have h:=(hW.mp e).1;rw[Ly] at h;unfold kY at e;rw[la,List.getElem?_range h] at e;simp at e;subst e;simp[Rep]
 stop:=λi F H aw aB=>by
  rw[Ly] at aB;exact aB
def _v(K:a9)(mA:TE):TI:=λσ H R=>mA σ H λx H1=>∃a,x=.ref a/\(((∃xs,gP K H1 a xs)/\R (DN K a) H1)\/((∃xs,c3 K H1 a xs)/\R (DO K a) H1))
def ak4{dt l:bj}{mA:TE}(aB:bQ X l mA):qh X dt l (_v X.K mA):=by
 intro ai s σ H R I h;refine cN (aB ai s σ H _ I h) λv s1 ⟨x,H1,a_,bg,a,aD,q⟩=>?_;subst aD;cases bg;have cE:∀b∈[s1.heap.objs.size],mV X ai H1 b:=λb U=>by
  have e:b=s1.heap.objs.size:=by simpa using U
  subst e;exact a_.z4 (el _) (a_.bO.fresh (el _))
 rcases q with ⟨⟨xs,a3⟩,q⟩|⟨⟨xs,a3⟩,q⟩
 ·obtain⟨its,bP,p,aq⟩:=a_.list a3;refine wpAny_pyIter_list p.isList ?_;exact⟨s1.heap.objs.size,[s1.heap.objs.size],_,_,H1,rfl,a_.kept (t':=s1.toks) λb o e=>c2 _ e,ahi a _,⟨_,gY _ rfl,rfl,rfl⟩,cE,q⟩
 ·obtain⟨its,bP,p,aq⟩:=a_.tuple a3;refine xD (show s1.heap.IsTuple a its.toArray from p) ?_;exact⟨s1.heap.objs.size,[s1.heap.objs.size],_,_,H1,rfl,a_.kept (t':=s1.toks) λb o e=>c2 _ e,agU a _,⟨_,gY _ rfl,rfl,rfl⟩,cE,q⟩
def mQ{dt l:bj}{f:bz}(aB:cO X l f):pk X dt l (fl f):=Dp (ak4 aB) λσ H R ⟨aE,aR,O,F,ε,ts,r,e,k⟩=>by
 simp only[fl,cz] at e;obtain⟨t,bw,e⟩:=e;split at e
 ·cases e
  refine⟨aE,aR,O,F,ε,_,r,bw,λv aG aa x q=>?_⟩
  simp only[Rep] at q;obtain⟨a,vs,rfl,aA,au⟩:=q;exact⟨a,rfl,.inr ⟨⟨vs,aA⟩,k _ aG aa x (aiE aA au)⟩⟩
 ·cases e
  refine⟨aE,aR,O,F,ε,_,r,bw,λv aG aa x q=>?_⟩
  simp only[Rep] at q;obtain⟨a,vs,rfl,bN,aA,au⟩:=q;exact⟨a,rfl,.inl ⟨⟨vs,.inl aA⟩,k _ aG aa x (ahL bN aA au)⟩⟩
 ·cases e
def TQ{dt a:bj}{f:bz}{p pos:Pos}(hm:X.mg "range"=none)(av:e6 X a f)(bl:ei X "range":=by rfl)(aA:bo [a] X.env=[(false,eval a X.env)]:=by rfl)(hN:bo [a] X.env=(false,eval a X.env)::bo [] X.env:=by rfl):
  pk X dt (.Call (.Name "range" p) [a] [] pos) (mK f):=Dp (ahv bl hm (hA av j9 hN) aA) λσ H R ⟨aE,aR,O,F,ε,ts,r,e,k⟩=>by
 simp only[mK,cz] at e;obtain⟨t,bw,e⟩:=e;split at e
 next j=>
  split at e
  next aq=>
   cases e
   refine⟨aE,aR,O,F,ε,_,r,bw,λv aG aa x q=>⟨j,by rw[q.int],?_,?_,k _ aG aa x (by simpa using aiF 0 j)⟩⟩
   ·simp[vr] at aq;omega
   ·simp[vr] at aq;omega
  next=>cases e
 next=>cases e
def ry{dt iter:bj}{body:List Stmt}{it:al1}{jq:iJ}{ze:bA}(aC:PassesOwn (bL X.prog X.w) X.A X.env X.c8)(bc:pk X dt iter it)(bl:pj X dt jq)(U:hF X body ze)(ax:X.calm=true:=by rfl)
  (aA:∀x,u3 iter X.env x=pure x:=by intro _;rfl):f6 X (.For dt iter body [] pos) (gR it jq ze):=g4 (akc aC ax bc bl U aA) λD σ H ⟨aE,aR,O,F,ε,o,r,e,k⟩=>by
 simp only[gR,cz] at e;obtain⟨ts,bw,e⟩:=e;refine⟨aE,aR,O,F,ε,ts,r,bw,λJ aY H1 aP ok=>?_⟩;refine⟨λi m cg aa=>m=ts.length - i/\i<=ts.length/\∃aG ε' ,ej X.K aY H1 aG aa/\cP X.K aE aR O aG aa ε' cg/\forL jq ze (ts.drop i) ε'=some o,⟨_,rfl,mE _,aY,ε,ej.refl,r.ext aP,by simpa using e⟩,?_⟩;rintro i m cg aa ⟨rfl,z_,aG,ε',aw,cq,bS⟩;by_cases fJ:i<ts.length
 ·have hd:ts.drop i=ts[i]::ts.drop (i+1):=List.drop_eq_getElem_cons fJ;have wD:ts[i]?=some ts[i]:=iD fJ;rw[hd] at bS;simp only[forL,cz] at bS;obtain⟨fZ,r',dH,dZ,bS⟩:=bS;refine .inr ⟨ok.go i aG aa _ aw cq.cu wD,λtQ bk=>∃ov,ov<ts.length - i/\(ov=ts.length - (i+1)/\i+1<=ts.length/\∃du iq,ej X.K aY H1 du bk/\cP X.K aE aR O du bk iq tQ/\forL jq ze (ts.drop (i+1)) iq=some o),λ_ _ z=>z,λx bk y=>?_⟩;obtain⟨du,b6,aW⟩:=ok.nB i aG aa _ x bk aw cq.cu wD y;refine⟨aE,aR,O,du,ε',_,fZ,cq.ext b6,aW,r',λl7 ko=>⟨aE,aR,O,du,fZ,dH,ko,dZ,?_⟩⟩;have mu:ej X.K aY H1 du bk:=aw.trans b6.aw;cases dH with
  |bK iq=>exact λMq nT kM lI oy=>⟨_,by omega,rfl,fJ,nT,iq,mu.trans lI,oy,bS⟩
  |dN iq=>exact λMq nT kM lI oy=>⟨_,by omega,rfl,fJ,nT,iq,mu.trans lI,oy,bS⟩
  |gp iq=>
   cases bS
   exact λMq nT kM lI oy=>k Mq nT kM ((aP.aw.trans mu).trans lI) oy
  |d4 t=>
   cases bS
   exact k
  |ij t iq=>
   cases bS
   exact k
  |kZ s=>
   cases bS
   exact k
 ·have hd:ts.drop i=[]:=List.drop_eq_nil_of_le (by omega);rw[hd] at bS;cases bS;exact .inl ⟨ok.stop i aG aa aw (by omega),k cg aG aa (aP.aw.trans aw) cq⟩
end
end
section
variable [cJ]
section
variable {X:aV}{a b c e:bj}{es:List bj}{f g h:bz}{ar:List bz}{gS gt:eT}{pos p:Pos}
def j_:qg X [] []:=yI j9 λσ H Q ⟨aE,aR,O,F,ε,ts,r,e,k⟩=>by
 cases e
 exact k [] F H (Ext.refl r.cu) .nil
def jH(av:e6 X e f)(au:qg X es ar)(aA:bo (e::es) X.env=(false,eval e X.env)::bo es X.env:=by rfl):qg X (e::es) (f::ar):=yI (hA av au aA) λσ H Q ⟨aE,aR,O,F,ε,ts,r,e,k⟩=>by
 simp only[args,cz,dE] at e;obtain⟨t,bw,us,fx,rfl⟩:=e;refine⟨aE,aR,O,F,ε,t,r,bw,λv aY H1 aP aM=>⟨aE,aR,O,aY,ε,us,r.ext aP,fx,λvs du bk b6 bb=>?_⟩⟩;exact k _ du bk (aP.trans b6) (.cons (aM.ext b6) bb)
def bF:kN X [] []:=yI j9 λσ H Q ⟨aE,aR,O,F,ε,ts,r,e,k⟩=>by
 cases e
 exact k [] F H (Ext.refl r.cu) bG.nil
def aH(av:cO X e f)(au:kN X es ar)(aA:bo (e::es) X.env=(false,eval e X.env)::bo es X.env:=by rfl):kN X (e::es) (f::ar):=yI (hA av au aA) λσ H Q ⟨aE,aR,O,F,ε,ts,r,e,k⟩=>by
 simp only[args,cz,dE] at e;obtain⟨t,bw,us,fx,rfl⟩:=e;refine⟨aE,aR,O,F,ε,t,r,bw,λv aY H1 aP aM=>⟨aE,aR,O,aY,ε,us,r.ext aP,fx,λvs du bk b6 bb=>?_⟩⟩;exact k _ du bk (aP.trans b6) (bG.cons (aM.ext b6) bb)
def dY{aP}(h:kN X es ar):cO X (.Tuple es aP pos) (cb ar):=d5 (C_ h) λσ H Q ⟨aE,aR,O,F,ε,t,r,e,k⟩=>by
 simp only[cb,cz] at e;obtain⟨ts,bw,e⟩:=e;split at e
 next aq=>
  cases e
  refine⟨aE,aR,O,F,ε,ts,r,bw,λvs aY H1 aP aM=>⟨by rw[nO,<- aM.length];exact aq,λp aC=>?_⟩⟩
  have b6:=Ext.laid (o:=.tup vs) aP.cu aC;refine k _ aY _ (aP.trans b6) ?_;simp only[Rep];exact⟨p,vs,rfl,c3.of er,aM.ext b6⟩
 next=>cases e
def vQ(h:kN X es ar):t2 X (.List es pos) (gi ar):=d5 (akg h) λσ H Q ⟨aE,aR,O,F,ε,us,r,e,k⟩=>by
 simp only[gi,cz] at e;obtain⟨ts,bw,e⟩:=e;split at e
 next aq=>
  cases e
  refine⟨aE,aR,O,F,ε,_,r,bw,λvs aY H1 aP aM=>⟨by rw[nO,<- aM.length];exact aq,λp aC=>?_⟩⟩
  have b6:=Ext.laid (o:=.lst vs) aP.cu aC;refine k p vs aY _ (aP.trans b6) ?_ ?_ er (aM.ext b6)
  ·exact aP.same.none aC
  ·intro cE;obtain⟨o,eH⟩:=aP.cu p cE;rw[aC] at eH;cases eH
 next=>cases e
def aj4(h:kN X es ar):cO X (.List es pos) (gi ar):=OU (vQ h) λε t e=>by
 simp only[gi,cz] at e;obtain⟨ts,bw,e⟩:=e;split at e
 ·cases e
  exact⟨_,rfl⟩
 ·cases e
mutual
theorem Lj{F:ag->Prop}{ai:List (ag×Obj)}{σ:bh.St}{H:ay}{s:aI}(I:Inv X ai σ H s):∀{t:T} {v:V} {u:aj},Rep X.K F H t v->RelV v u->∃as,Reads s.heap u t as
|.none,v,u,h,r=>by
  simp only[Rep] at h;subst h;cases r;exact⟨_,.none⟩
|.bool b,v,u,h,r=>by
  simp only[Rep] at h;subst h;cases r;exact⟨_,.bool b⟩
|.int i,v,u,h,r=>by
  simp only[Rep] at h;subst h;obtain⟨t,rfl⟩:=r;exact⟨_,.int i t⟩
|.str x,v,u,h,r=>by
  simp only[Rep] at h;subst h;obtain⟨t,rfl⟩:=r;exact⟨_,.str x t⟩
|.dict _,v,u,h,r=>by simp[Rep] at h
|.tuple ts,v,u,h,r=>by
  simp only[Rep] at h;obtain⟨a,vs,rfl,aA,au⟩:=h;cases r;obtain⟨its,bP,⟨o,af,ak,n,bB⟩,aq⟩:=I.tuple aA;obtain⟨as,kp⟩:=CL I au bP;exact⟨_,.tuple af ak bB (by simpa using kp)⟩
|.list ts,v,u,h,r=>by
  simp only[Rep] at h;obtain⟨a,vs,rfl,bN,aA,au⟩:=h;cases r;obtain⟨z,its,n,bP,aB,e⟩:=Inv.AZ I aA;obtain⟨as,kp⟩:=CL I au bP;exact⟨_,.list e rfl rfl (by simpa using kp)⟩
theorem CL{F:ag->Prop}{ai:List (ag×Obj)}{σ:bh.St}{H:ay}{s:aI}(I:Inv X ai σ H s):∀{ts:List T} {vs:List V} {us:List aj},bG X.K F H ts vs->Vals vs us->∃as,ReadsAll s.heap us ts as
| [],vs,us,h,r=>by
  simp only[bG] at h;subst h;cases r;exact⟨_,.nil⟩
|t::ts,vs,us,h,r=>by
  simp only[bG] at h;obtain⟨v,JN,rfl,af,ak⟩:=h;cases r with
  |cons bg b5=>
   obtain⟨as,aM⟩:=Lj I af bg;obtain⟨bs,bb⟩:=CL I ak b5;exact⟨_,.cons aM bb⟩
end
def oS{O F:ag->Prop}{ai:List (ag×Obj)}{σ:bh.St}{H:ay}{s:aI}(I:Inv X ai σ H s){t:T}{v:V}{u:aj}(h:fR X.K O F H t v)(r:RelV v u):∃as,Reads s.heap u t as:=by
 rcases h with h|⟨ts,a,vs,rfl,rfl,av,h⟩
 ·exact Lj I h r
 ·cases r
  obtain⟨z,its,n,bP,aB,e⟩:=Inv.AZ I (.inl av);obtain⟨as,kp⟩:=CL I h bP;exact⟨_,.list e rfl rfl (by simpa using kp)⟩
def vJ{t:T}(h:iy t=true):t.canLay0=true/\t.depth<=60:=by
 simp only[iy,gO,decide_eq_true_eq] at h;exact h
def TC{t:List T}(h:pP t=true):j5 t=true/\j4 t<=60:=by
 simp only[pP,gO,decide_eq_true_eq] at h;exact h
noncomputable def Du(K:a9)(n:Bool):gE:=λx y H Q=>∃(O F:ag->Prop) (s t:T),fR K O F H s x/\fR K O F H t y/\iy s=true/\iy t=true/\Q (.c4 (if n then !PyData.eqv s t else je s t)) H
def De(bM:X.A.units+64<cLine):e5 X (iF .Eq) (Du X.K false):=by
 intro ai s σ H x y v u Q I aW bx ⟨O,F,d,t,af,ak,dH,d3,q⟩;obtain⟨as,kp⟩:=oS I af aW;obtain⟨bs,fa⟩:=oS I ak bx;obtain⟨cS,b2⟩:=vJ dH;obtain⟨c5,b4⟩:=vJ d3;refine SeqAt.compareEq_reads kp fa cS c5 (by have:=Nat.min_le_left d.depth t.depth;omega) ?_;exact⟨.c4 _,H,I,rfl,q⟩
def Dd(bM:X.A.units+64<cLine):e5 X (iF .NotEq) (Du X.K true):=by
 intro ai s σ H x y v u Q I aW bx ⟨O,F,d,t,af,ak,dH,d3,q⟩;obtain⟨as,kp⟩:=oS I af aW;obtain⟨bs,fa⟩:=oS I ak bx;obtain⟨cS,b2⟩:=vJ dH;obtain⟨c5,b4⟩:=vJ d3;refine SeqAt.compareNe_reads kp fa cS c5 (by have:=Nat.min_le_left d.depth t.depth;omega) ?_;exact⟨.c4 _,H,I,rfl,q⟩
def p'{op:CmpOp}{R:gE}{o:T->T->Option T}(aF:e5 X (iF op) R)(ak:l9 X.K o R)(av:e6 X a f)(U:e6 X b g)(hm:oM op b=false:=by first|exact L1 _|rfl):cO X (.Compare a [op] [b] pos) (ao o f g):=d5 (ajh aF av U hm) (rm ak)
def hC{op:CmpOp}{R:gE}{o:T->T->Option T}(aF:e5 X (iF op) R)(ak:l9 X.K o R)(av:e6 X a f)(U:e6 X b g)(hm:oM op b=false:=by first|exact L1 _|rfl):jn X (.Compare a [op] [b] pos) (bC (ao o f g)):=
 rv (SM aF av U hm) λσ H Q ⟨aE,aR,O,F,ε,b,r,e,k⟩=>by
 simp only[bC,cz] at e;obtain⟨t,bw,e⟩:=e;split at e
 ·cases e
  refine rm ak σ H _ ⟨aE,aR,O,F,ε,_,r,bw,λv aG aa x q=>?_⟩
  simp only[Rep] at q;exact⟨_,q,k aG aa x⟩
 ·cases e
def Dg:l9 X.K oEq (Du X.K false):=by
  intro O F H x y t iV iW Q d aW bx e k;unfold oEq at e;split at e
  next aq=>
   cases e
   rw[gO] at aq;exact⟨O,F,x,y,aW,bx,aq.1,aq.2,k _ F H (Ext.refl d) (by simp[Rep])⟩
  next=>cases e
def Df:l9 X.K fk (Du X.K true):=by
  intro O F H x y t iV iW Q d aW bx e k;unfold fk at e;split at e
  next aq=>
   cases e
   rw[gO] at aq;exact⟨O,F,x,y,aW,bx,aq.1,aq.2,k _ F H (Ext.refl d) (by simp[Rep])⟩
  next=>cases e
noncomputable def Jm(K:a9)(n:Bool):gE:=λx y H Q=>∃(O F:ag->Prop) (s:T) (ts:List T),fR K O F H s x/\(fR K O F H (.tuple ts) y\/fR K O F H (.list ts) y)/\iy s=true/\pP ts=true/\Q (.c4 (if n then !pH s ts else pH s ts)) H
def vI(bM:X.A.units+64<cLine):e5 X (iF .In) (Jm X.K false):=by
 intro ai s σ H x y v u Q I aW bx ⟨O,F,d,ts,af,ak,dH,d3,q⟩;obtain⟨as,kp⟩:=oS I af aW;obtain⟨cS,b2⟩:=vJ dH;obtain⟨c5,b4⟩:=TC d3;have hm:=Nat.min_le_left (j4 ts) d.depth;rcases ak with ak|ak
 ·obtain⟨bs,fa⟩:=oS I ak bx;exact SeqAt.in_tuple_reads fa kp c5 cS (by omega) ⟨.c4 _,H,I,rfl,q⟩
 ·obtain⟨bs,fa⟩:=oS I ak bx;exact SeqAt.in_list_reads fa kp c5 cS (by omega) ⟨.c4 _,H,I,rfl,q⟩
def yb(bM:X.A.units+64<cLine):e5 X (iF .NotIn) (Jm X.K true):=by
 intro ai s σ H x y v u Q I aW bx ⟨O,F,d,ts,af,ak,dH,d3,q⟩;obtain⟨as,kp⟩:=oS I af aW;obtain⟨cS,b2⟩:=vJ dH;obtain⟨c5,b4⟩:=TC d3;have hm:=Nat.min_le_left (j4 ts) d.depth;rcases ak with ak|ak
 ·obtain⟨bs,fa⟩:=oS I ak bx;exact SeqAt.notIn_tuple_reads fa kp c5 cS (by omega) ⟨.c4 _,H,I,rfl,q⟩
 ·obtain⟨bs,fa⟩:=oS I ak bx;exact SeqAt.notIn_list_reads fa kp c5 cS (by omega) ⟨.c4 _,H,I,rfl,q⟩
def nJ{n:Bool}:l9 X.K (fK n) (Jm X.K n):=by
 intro O F H x y t iV iW Q d aW bx e k;unfold fK at e;split at e
 ·split at e
  next aq=>
   cases e
   rw[gO] at aq;exact⟨O,F,x,_,aW,.inl bx,aq.1,aq.2,k _ F H (Ext.refl d) (by simp[Rep])⟩
  next=>cases e
 ·split at e
  next aq=>
   cases e
   rw[gO] at aq;exact⟨O,F,x,_,aW,.inr bx,aq.1,aq.2,k _ F H (Ext.refl d) (by simp[Rep])⟩
  next=>cases e
 ·cases e
def yC:l9 X.K oLt (λx y H Q=>mw (λi j=>.c4 (decide (i<j))) x y H Q\/∃i j,x=.str i/\y=.str j/\Q (.c4 (decide (i.cps.toList<j.cps.toList))) H):=by
  intro O F H x y t iV iW Q d aW bx e k;unfold oLt at e;split at e
  ·cases e
   rw[aW.int,bx.int];exact .inl ⟨_,_,rfl,rfl,k _ F H (Ext.refl d) (by simp[Rep])⟩
  ·cases e
   rw[aW.str,bx.str];exact .inr ⟨_,_,rfl,rfl,k _ F H (Ext.refl d) (by simp[Rep,strLt])⟩
  ·cases e
def K4:e5 X (iF .LtE) (λx y H Q=>∃i j,x=.str i/\y=.str j/\Q (.c4 (!strLt j i)) H):=by
 intro ai s σ H x y v u Q I aW bx ⟨i,j,aD,aO,q⟩;subst aD aO;obtain⟨t,rfl⟩:=aW;obtain⟨t',rfl⟩:=bx;exact PySem.P.le_str (Dk I q (by simp[strLt]))
def Rq:e5 X (iF .GtE) (λx y H Q=>∃i j,x=.str i/\y=.str j/\Q (.c4 (!strLt i j)) H):=by
 intro ai s σ H x y v u Q I aW bx ⟨i,j,aD,aO,q⟩;subst aD aO;obtain⟨t,rfl⟩:=aW;obtain⟨t',rfl⟩:=bx;exact PySem.P.ge_str (Dk I q (by simp[strLt]))
def yd:e5 X (iF .Gt) (λx y H Q=>∃i j,x=.str i/\y=.str j/\Q (.c4 (strLt j i)) H):=by
 intro ai s σ H x y v u Q I aW bx ⟨i,j,aD,aO,q⟩;subst aD aO;obtain⟨t,rfl⟩:=aW;obtain⟨t',rfl⟩:=bx;exact PySem.P.gt_str (Dk I q (by simp[strLt]))
def LZ:l9 X.K oLe (λx y H Q=>mw (λi j=>.c4 (decide (i<=j))) x y H Q\/∃i j,x=.str i/\y=.str j/\Q (.c4 (!strLt j i)) H):=by
 intro O F H x y t iV iW Q d aW bx e k;unfold oLe at e;split at e
 ·cases e
  rw[aW.int,bx.int];exact .inl ⟨_,_,rfl,rfl,k _ F H (Ext.refl d) (by simp[Rep])⟩
 ·cases e
  rw[aW.str,bx.str];exact .inr ⟨_,_,rfl,rfl,k _ F H (Ext.refl d) (by simp[Rep])⟩
 ·cases e
def yD:l9 X.K ja (λx y H Q=>mw (λi j=>.c4 (decide (j<i))) x y H Q\/∃i j,x=.str i/\y=.str j/\Q (.c4 (strLt j i)) H):=by
 intro O F H x y t iV iW Q d aW bx e k;unfold ja at e;split at e
 ·cases e
  rw[aW.int,bx.int];exact .inl ⟨_,_,rfl,rfl,k _ F H (Ext.refl d) (by simp[Rep])⟩
 ·cases e
  rw[aW.str,bx.str];exact .inr ⟨_,_,rfl,rfl,k _ F H (Ext.refl d) (by simp[Rep])⟩
 ·cases e
def TB:l9 X.K qJ (λx y H Q=>mw (λi j=>.c4 (decide (j<=i))) x y H Q\/∃i j,x=.str i/\y=.str j/\Q (.c4 (!strLt i j)) H):=by
 intro O F H x y t iV iW Q d aW bx e k;unfold qJ at e;split at e
 ·cases e
  rw[aW.int,bx.int];exact .inl ⟨_,_,rfl,rfl,k _ F H (Ext.refl d) (by simp[Rep])⟩
 ·cases e
  rw[aW.str,bx.str];exact .inr ⟨_,_,rfl,rfl,k _ F H (Ext.refl d) (by simp[Rep])⟩
 ·cases e
def ak1(av:e6 X a f):cO X (.UnaryOp .USub a pos) (dX qK f):=d5 (ak5 ajP av) λσ H Q ⟨aE,aR,O,F,ε,t,r,e,k⟩=>by
 simp only[dX,cz] at e;obtain⟨x,ex,e⟩:=e;unfold qK at e;split at e
 ·cases e
  exact⟨aE,aR,O,F,ε,_,r,ex,λv aY H1 aP aW=>⟨_,aW.int,k _ aY H1 aP (by simp[Rep])⟩⟩
 ·cases e
noncomputable def VP(K:a9)(o:List T->Option T)(R:List V->ay->dj->Prop):Prop:=
 ∀(O F:ag->Prop) (H:ay) (ts:List T) (t:T) (vs:List V) (Q:dj),fE F H->Paired (fR K O F H) ts vs->o ts=some t ->
  (∀v aG aa,Ext F H aG aa->Rep K aG aa t v->Q v aa)->R vs H Q
def C3{o:List T->Option T}{R:List V->ay->dj->Prop}(si:VP X.K o R):∀σ H Q,Bw X.K (b9 o ar) σ H Q->JA R (PA X.K ar) σ H Q:=by
 rintro σ H Q ⟨aE,aR,O,F,ε,t,r,e,k⟩;simp only[b9,cz] at e;obtain⟨ts,bw,eH⟩:=e;exact⟨aE,aR,O,F,ε,ts,r,bw,λvs aY H1 aP q=>si O aY H1 ts t vs Q aP.cu q eH λv aG aa hc dg=>k v aG aa (aP.trans hc) dg⟩
def Mf(hm:X.mg "len"=none)(av:qg X (e::es) ar)(bl:ei X "len":=by rfl)(he:bo (e::es) X.env=(false,eval e X.env)::bo es X.env:=by rfl)(hpl:(dM pos (bo es X.env)).any (·.1)=false:=by rfl):
  cO X (.Call (.Name "len" p) (e::es) [] pos) (b9 jw ar):=d5 (CV (agA.or agz) bl hm PySem.boot_len av (he:=he) (hpl:=hpl)) (C3 (by
 intro O F H ts t vs Q d q e k;unfold jw at e;split at e
 ·cases e
  cases q with
  |cons aM bb=>
   cases bb
   obtain⟨a,ws,rfl,aA,au⟩:=aM.tup;exact .inl ⟨a,ws,rfl,.inr aA,k _ F H (Ext.refl d) (by simp[Rep,au.length])⟩
 ·cases e
  cases q with
  |cons aM bb=>
   cases bb
   obtain⟨a,ws,rfl,aA,au⟩:=aM.lst;exact .inl ⟨a,ws,rfl,.inl (.inl aA),k _ F H (Ext.refl d) (by simp[Rep,au.length])⟩
 ·split at e
  next aq=>
   cases e
   cases q with
   |cons aM bb=>
    cases bb
    exact .inr ⟨_,by rw[aM.str],by rw[nO];exact aq,k _ F H (Ext.refl d) (by simp[Rep])⟩
  next=>cases e
 ·cases e))
def ak2(hm:X.mg "max"=none)(av:qg X (e::es) ar)(ax:X.calm=true:=by rfl)(bl:ei X "max":=by rfl)(he:bo (e::es) X.env=(false,eval e X.env)::bo es X.env:=by rfl)(hpl:(dM pos (bo es X.env)).any (·.1)=false:=by rfl):
  cO X (.Call (.Name "max" p) (e::es) [] pos) (b9 sO ar):=d5 (CV (ahV ax) bl hm (by decide +kernel) av (he:=he) (hpl:=hpl)) (C3 (by
 intro O F H ts t vs Q d q e k;unfold sO at e;split at e
 ·cases e
  cases q with
  |cons aM bb=>
   cases bb with
   |cons bb dg=>
    cases dg
    exact⟨_,_,by rw[aM.int,bb.int],k _ F H (Ext.refl d) (by simp[Rep])⟩
 ·cases e))
def oV(hm:X.mg "tuple"=none)(av:qg X (e::es) ar)(bl:ei X "tuple":=by rfl)(he:bo (e::es) X.env=(false,eval e X.env)::bo es X.env:=by rfl)(hpl:(dM pos (bo es X.env)).any (·.1)=false:=by rfl):
  cO X (.Call (.Name "tuple" p) (e::es) [] pos) (b9 hi ar):=d5 (K3 agf bl hm (by decide +kernel) av (he:=he) (hpl:=hpl)) (C3 (by
 intro O F H ts t vs Q d q e k;unfold hi at e;split at e
 ·cases e
  cases q with
  |cons aM bb=>
   cases bb
   obtain⟨a,ws,rfl,aA,au⟩:=aM.tup;refine⟨a,ws,rfl,.inr ⟨aA,k _ F H (Ext.refl d) ?_⟩⟩;simp only[Rep];exact⟨a,ws,rfl,aA,au⟩
 ·cases e
  cases q with
  |cons aM bb=>
   cases bb
   obtain⟨a,ws,rfl,aA,au⟩:=aM.lst;refine⟨a,ws,rfl,.inl ⟨.inl aA,λl aB=>?_⟩⟩;have aP:=Ext.laid (o:=.tup ws) d aB;refine k _ F _ aP ?_;simp only[Rep];exact⟨l,ws,rfl,c3.of er,au.ext aP⟩
 ·cases e))
def Ti(h:e6 X e f)(he:∀whole,isTrue e X.env whole=(do let v <- whole;standAt e.pos;holding [v] (truthy v)):=by intro _;rfl):jn X e (bC f):=rv (aj' h he) λσ H Q ⟨aE,aR,O,F,ε,b,r,e,k⟩=>by
 simp only[bC,cz] at e;obtain⟨t,bw,e⟩:=e;split at e
 ·cases e
  exact⟨aE,aR,O,F,ε,_,r,bw,λv aY H1 aP aW=>⟨_,aW.c4,k aY H1 aP⟩⟩
 ·cases e
def T6{j pos'}(av:e6 X a f):jn X (.Compare a [.Is] [.Constant .none j pos'] pos) (bC (dX ix f)):=rv (Tu (akj av)) λσ H Q ⟨aE,aR,O,F,ε,t,r,e,k⟩=>by
 simp only[bC,dX,ix,cz] at e;obtain⟨_,⟨x,ex,aD⟩,e⟩:=e;cases aD;cases e;refine⟨aE,aR,O,F,ε,x,r,ex,λv aY H1 aP aW=>⟨_,?_,k aY H1 aP⟩⟩;cases x with
|none=>rw[aW.e0];simp
|bool b=>rw[aW.c4];simp
|int b=>rw[aW.int];simp
|str b=>rw[aW.str];simp
|tuple b=>obtain⟨_,_,e,_⟩:=aW.tup;rw[e];simp
|list b=>obtain⟨_,_,e,_⟩:=aW.lst;rw[e];simp
|dict b=>rcases aW with aW|⟨_,_,_,z,_⟩;simp[Rep] at aW;cases z
def Th{j pos'}(av:e6 X a f):jn X (.Compare a [.IsNot] [.Constant .none j pos'] pos) (bC (dX g5 f)):=rv (Tu (aji av)) λσ H Q ⟨aE,aR,O,F,ε,t,r,e,k⟩=>by
 simp only[bC,dX,g5,cz] at e;obtain⟨_,⟨x,ex,aD⟩,e⟩:=e;cases aD;cases e;refine⟨aE,aR,O,F,ε,x,r,ex,λv aY H1 aP aW=>⟨_,?_,k aY H1 aP⟩⟩;cases x with
|none=>rw[aW.e0];simp
|bool b=>rw[aW.c4];simp
|int b=>rw[aW.int];simp
|str b=>rw[aW.str];simp
|tuple b=>obtain⟨_,_,e,_⟩:=aW.tup;rw[e];simp
|list b=>obtain⟨_,_,e,_⟩:=aW.lst;rw[e];simp
|dict b=>rcases aW with aW|⟨_,_,_,z,_⟩;simp[Rep] at aW;cases z
def LR(h:e6 X e f)(he:∀whole,isTrue e X.env whole=(do let v <- whole;standAt e.pos;holding [v] (truthy v)):=by intro _;rfl):jn X e (hb f):=rv (ail h he) λσ H Q ⟨aE,aR,O,F,ε,b,r,e,k⟩=>by
 simp only[hb,cz] at e;obtain⟨t,bw,e⟩:=e;have emp:∀{ts:List T} {vs:List V} {aY:ag->Prop} {H1:ay},bG X.K aY H1 ts vs->ts.isEmpty=vs.isEmpty:=λ{ts vs aY H1} q=>by
  have:=q.length;cases ts <;> cases vs <;> simp_all
 split at e
 ·cases e
  refine⟨aE,aR,O,F,ε,_,r,bw,λv aY H1 aP aW=>?_⟩
  obtain⟨a,vs,rfl,aA,au⟩:=aW.lst;exact⟨_,.inl ⟨vs,.inl aA,by rw[emp au]⟩,k aY H1 aP⟩
 ·cases e
  refine⟨aE,aR,O,F,ε,_,r,bw,λv aY H1 aP aW=>?_⟩
  obtain⟨a,vs,rfl,aA,au⟩:=aW.tup;exact⟨_,.inr (.inl ⟨vs,aA,by rw[emp au]⟩),k aY H1 aP⟩
 ·cases e
def T5(h:jn X e gS):jn X (.UnaryOp .Not e pos) (hQ gS):=rv (aka h) λσ H Q ⟨aE,aR,O,F,ε,b,r,e,k⟩=>by
 simp only[hQ,dE] at e;obtain⟨c,gH,rfl⟩:=e;exact⟨aE,aR,O,F,ε,c,r,gH,λaY H1 aP=>k aY H1 aP⟩
def LQ(h:jn X e gS):rZ X (.BoolOp .And [e] pos) gS:=ai7 h
def tM(h:jn X e gS):rZ X (.BoolOp .Or [e] pos) gS:=Tt h
def w_and(h:jn X a gS)(ak:rZ X (.BoolOp .And (b::es) pos) gt):rZ X (.BoolOp .And (a::b::es) pos) (hJ gS gt):=L' (aj8 h ak) λσ H Q ⟨aE,aR,O,F,ε,b,r,e,k⟩=>by
 simp only[hJ,cz] at e;obtain⟨c,gH,e⟩:=e;refine⟨aE,aR,O,F,ε,c,r,gH,λaY H1 aP=>?_⟩;cases c with
|true=>exact sF ⟨aE,aR,O,aY,ε,b,r.ext aP,by simpa using e,λdu bk b6=>k du bk (aP.trans b6)⟩
|false=>
  have:b=false:=by simpa using e.symm
  subst this;exact sE (k aY H1 aP)
def w_or(h:jn X a gS)(ak:rZ X (.BoolOp .Or (b::es) pos) gt):rZ X (.BoolOp .Or (a::b::es) pos) (e' gS gt):=L' (Ub h ak) λσ H Q ⟨aE,aR,O,F,ε,b,r,e,k⟩=>by
 simp only[e',cz] at e;obtain⟨c,gH,e⟩:=e;refine⟨aE,aR,O,F,ε,c,r,gH,λaY H1 aP=>?_⟩;cases c with
|true=>
  have:b=true:=by simpa using e.symm
  subst this;exact sF (k aY H1 aP)
|false=>exact sE ⟨aE,aR,O,aY,ε,b,r.ext aP,by simpa using e,λdu bk b6=>k du bk (aP.trans b6)⟩
def oE(h:rZ X e gS):jn X e gS:=h.pt
end
end
section
variable [cJ]
noncomputable def spT(K:a9)(n:Nat)(d:List T->Option T):jQ:=λvs H Q _=>vs.length=n/\∃F ts t,fE F H/\bG K F H ts vs/\d ts=some t/\∀v aG aa,Ext F H aG aa->Rep K aG aa t v->Q v aa
section
variable {X:aV}{k n:Nat}{bN:ag}{fd:dV}{ps:List Str}{d:List T->Option T}{x:Str}{p pos:Pos}{e:bj}{es:List bj}{ar:List bz}
def aj7(F:ez X.prog X.w X.K X.mg X.base di k bN fd ps (spT X.K n d))(au:cW k X.A)(bl:ei X x)(hm:X.mg x=some (.ref bN))(aL:kv X.K (.ref bN)=true)(U:Binds X.K fd ps [])
  (av:kN X (e::es) ar) (a6:ar.length=n:=by rfl) (gc:(x==("__debug__":Str))=false:=by decide) (he:bo (e::es) X.env=(false,eval e X.env)::bo es X.env:=by rfl) (hpl:(dM pos (bo es X.env)).any (·.1)=false:=by rfl):
  cO X (.Call (.Name x p) (e::es) [] pos) (b9 d ar):=d5 (yq F au bl hm aL U .nil o4 av gc he hpl) λσ H Q ⟨aE,aR,O,F,ε,t,r,e,k⟩=>by
 simp only[b9,cz] at e;obtain⟨ts,bw,fp⟩:=e;have aB:∀(fA:List bz) (us:List T),args fA ε=some us->us.length=fA.length:=by
  intro fA
  induction fA with
  |nil=>intro us e;cases e;rfl
  |cons g fA b8=>
   intro us e;simp only[args,cz,dE] at e;obtain⟨t,_,vs,ev,rfl⟩:=e;simp[b8 vs ev]
 refine⟨aE,aR,O,F,ε,ts,r,bw,λvs aY H1 aP q=>⟨?_,aY,ts,t,aP.cu,by simpa using q,fp,λv aG aa b6 bb=>k v aG aa (aP.trans b6) bb⟩⟩
 rw[jF,<- q.length,aB ar ts bw,a6]
end
section
variable {P:cA}{w:bZ}{K:a9}{mg:Str->Option aj}{base:bE}
def Q2{F:ag->Prop}{H:ay}{ts:List T}{vs:List V}{N:List Str}(cu:fE F H)(q:bG K F H ts vs)(n:Nat):
  cP K F ⟨H,0⟩ (λa=>H a=none) F H ((ts.map λt=>some (.ae t))++alZ n none) (vs.map some++alZ n none):=by
 have ae:∀(i:Nat) (s:aJ),((ts.map λt=>some (aJ.ae t))++alZ n none)[i]?=some (some s)->∃t,s=.ae t/\ts[i]?=some t:=by
  intro i s e;by_cases bc:i<ts.length
  ·rw[uS (by simpa using bc),la] at e;rw[iD bc] at e ⊢;simp at e;exact⟨_,e.symm,rfl⟩
  ·rw[uR (by simpa using bc),List.getElem?_replicate] at e;split at e <;> cases e
 refine⟨by simp[q.length],λi s e=>?_,λi j s u v w i_ aD aO dH=>?_,Ext.refl cu,λ_ h=>h,λ_ h=>h⟩
 ·obtain⟨t,rfl,aX⟩:=ae i s e;obtain⟨v,br,bP⟩:=q.get aX;refine⟨v,?_,bP⟩;rw[uS (by have:=(hW.mp br).1;simpa using this),la,br];rfl
 ·obtain⟨t,rfl,_⟩:=ae i s aD;cases dH
def L5{x qual:Str}{st:Stmt}{f:ag}{fd:dV}{N ps:List Str}{k:Nat}{b:bA}(F:alX K x qual st f fd)(S:cK N ps (bt st))
  (U:∀(bu:aj) (A:cH) (outer:List Env) (s:aI) (H:ay) (E:eF),cW k (A.deeper (envOfC qual (bt st) s.heap.objs.size f bu)) ->
   hF (eN di P w K mg base N qual (bt st) f bu A outer s H E).dv (fc st) b):
  ez P w K mg base di (k+1) f fd ps (spT K ps.length (d9 b N.length)):=by
 refine F.ok S (λvs H Q E h=>h.1) λbu A outer s H vs Q E au h=>⟨_,U bu A outer s H E au,?_⟩
 obtain⟨aB,F,ts,t,cu,q,e,iP⟩:=h;simp only[d9,cz] at e;obtain⟨o,eH,e⟩:=e;refine⟨F,⟨H,0⟩,λa=>H a=none,F,_,o,?_,eH,?_⟩
 ·have:=Q2 (N:=N) cu q (N.length - ts.length);unfold bh.start;rw[q.length] at this ⊢;exact this
 ·cases o with
  |d4 t'=>
   cases e
   exact λv aG aa x q=>iP v aG aa x q
  |bK ε'=>
   cases e
   exact λcg aG aa _ r=>iP _ aG aa r.ent (by simp[Rep])
  |gp _=>cases e
  |dN _=>cases e
  |ij _ _=>cases e
  |kZ _=>cases e
end
end
section
variable [cJ]
noncomputable def gG(env:Env):List (Str×lY)->List (Str×ag)->List (Str×ag)
| [],cs=>cs
|x::r,cs=>if x.2==.free then gG env r ((x.1,(env.cells.lookup x.1).getD 0)::cs) else gG env r cs
def Km{scope:Scope}{env:Env}(h:∀x∈scope.names,x.2=.free->∃c,env.cells.lookup x.1=some c):closureFor scope env=pure (gG env scope.names []):=by
 have go:∀(l:List (Str×lY)) (cs:List (Str×ag)),(∀x∈l,x.2=.free->∃c,env.cells.lookup x.1=some c) ->
   (forIn l cs (λx r=>(if (x.2==NameKind.free)=true then do let a <- cellOf env x.1;pure (ForInStep.yield ((x.1,a)::r)) else pure (ForInStep.yield r)):_->_->Sem (ForInStep (List (Str×ag)))):Sem (List (Str×ag)))=pure (gG env l cs):=by
  intro l
  induction l with
  |nil=>intro cs _;rfl
  |cons x r b8=>
   intro cs aB;rw[List.forIn_cons];have au:=λy a7=>aB y (dn _ a7);by_cases k:x.2=.free
   ·obtain⟨c,ax⟩:=aB x fb k;have aD:(x.2==NameKind.free)=true:=by simp[k]
    simp only[aD,if_true,cellOf,ax,gG,Option.getD_some];exact b8 _ au
   ·have aD:(x.2==NameKind.free)=false:=by simpa using k
    simp only[aD,nz,if_false,gG];exact b8 _ au
 have:=go scope.names [] h;simp only[closureFor];exact congrArg (λm=>m >>= λcs=>pure cs) this
theorem yg{env:Env}:∀{l:List (Str×lY)} {cs:List (Str×ag)},(∀x∈l,x.2=.free->∃c,env.cells.lookup x.1=some c)->(∀x c,cs.lookup x=some c->env.cells.lookup x=some c)->∀x c,(gG env l cs).lookup x=some c->env.cells.lookup x=some c
| [],cs,_,h,x,c,e=>h x c e
|y::r,cs,aB,h,x,c,e=>by
  unfold gG at e;have au:=λz aq=>aB z (dn _ aq);split at e
  next k=>
   refine yg au (λx c e=>?_) x c e
   rw[mC] at e;split at e
   next U=>
    obtain⟨bW,ax⟩:=aB y fb (by simpa using k);have:x=y.1:=by simpa using U
    subst this;rw[ax] at e ⊢;simpa using e
   next=>exact h x c e
  next=>exact yg au h x c e
theorem vp{env:Env}:∀{l:List (Str×lY)} {cs:List (Str×ag)} {x:Str},((∃y∈l,y.2=.free/\y.1=x)\/∃c,cs.lookup x=some c)->∃c,(gG env l cs).lookup x=some c
| [],cs,x,h=>by
  rcases h with ⟨y,a7,_⟩|h
  ·cases a7
  ·exact h
|y::r,cs,x,h=>by
  unfold gG;split
  next k=>
   refine vp ?_
   rcases h with ⟨z,aq,jt,e⟩|⟨c,h⟩
   ·rcases cm.mp aq with rfl|aq
    ·refine .inr ?_
     subst e;rw[mC];simp
    ·exact .inl ⟨z,aq,jt,e⟩
   ·refine .inr ?_
    rw[mC];split
    ·exact⟨_,rfl⟩
    ·exact⟨c,h⟩
  next k=>
   refine vp ?_
   rcases h with ⟨z,aq,jt,e⟩|h
   ·rcases cm.mp aq with rfl|aq
    ·exact absurd (by simpa using jt) k
    ·exact .inl ⟨z,aq,jt,e⟩
   ·exact .inr h
noncomputable def i1(X:aV)(v8:List Str)(scope:Scope)(cl:List (Str×ag))(C:ag)(c':aI)(aR:ay)(cE:List ag)(df:List (ag×Obj)):aV where
 prog:=X.prog
 w:=X.w
 K:=X.K
 mg:=X.mg
 base:=X.base
 A:=X.A
 N:=v8
 c':=c'
 aR:=aR
 env:=compEnvC scope cl C X.env
 outer:=X.stack
 stack:=X.stack
 ex:=cE
 fn:=λ_=>false
 calm:=X.calm
 df:=df
 c8:=λ_ _=>False
noncomputable def rY(X:aV)(ifs:List bj)(cc:eT):Prop:=∀(ai:List (ag×Obj)) (s:aI) (σ:bh.St) (H:ay) (Q:Bool->ay->Prop),bh.Inv X ai σ H s->JD X.K cc σ H Q ->
 bD (bL X.prog X.w) X.A (forIn ifs true λc r=>if r=true then do let ok <- isTrue c X.env (eval c X.env);pure (ForInStep.yield ok) else pure (ForInStep.yield r)) (y6 X ai σ Q) X.c8 s
def yz{X:aV}:rY X [] (f_ true):=λai s σ H Q I ⟨aE,aR,O,F,ε,b,r,e,k⟩=>by
 cases e
 exact wpAny_tests_nil ⟨H,I,k F H (Ext.refl r.cu)⟩
def yy{X:aV}{c:bj}{cc:eT}(h:jn X c cc):rY X [c] cc:=λai s σ H Q I q=>wpAny_tests_one (h ai s σ H Q I q)
section
variable {prog:cA}{w:bZ}{A:cH}{R:Result->aI->Prop}{s:aI}
def agw{elt target iter:bj}{ifs:List bj}{scope:Scope}{pos:Pos}{it acc:aj}{env:Env}(I:Nat->aI->Prop)
  (turn:∀n s,I n s->bD (bL prog w) A (pyNext it) (λr cU=>match r with
   |none=>R (.ok .next) cU
   |some v=>bD (bL prog w) A (letOwnedTupleGo target it v) (λ_ Px=>bD (bL prog w) A (assign target env v) (λ_ jc=>
     bD (bL prog w) A (forIn ifs true λc r=>if r=true then do let ok <- isTrue c env (eval c env);pure (ForInStep.yield ok) else pure (ForInStep.yield r)) (λok oC=>
      if ok=true then bD (bL prog w) A (eval elt env) (λx Py=>
       bD (bL prog w) A (call (.builtin "list.append") [acc,x]) (λ_ Pz=>∃m,m<n/\I m Pz) (λ_ _=>False) Py) (λ_ _=>False) oC
      else ∃m,m<n/\I m oC) (λ_ _=>False) jc) (λ_ _=>False) Px) (λ_ _=>False) cU) (λ_ _=>False) s)
  (n:Nat) (h:I n s):iG (bL prog w) A (.compLoop (.ListComp elt [⟨target,iter,ifs,0⟩] scope pos) 0 it acc env) R s:=by
 refine codeAny_loop rfl I (λn s qu=>?_) n h
 show bD _ A ((compTurn (.ListComp elt [⟨target,iter,ifs,0⟩] scope pos) 0 it acc env).onRaise (λx=>do noteFrame x env;theTreesLotGoes x)) _ _ s
 refine wpAny_noted ?_
 rw[compTurn_list];refine a8 (wpAny_standAt (a8 (e2 (turn n s qu) (λr cU fj=>?_) λ_ _ h'=>h'.elim)));cases r with
|none=>exact cX fj
|some v=>
  refine a8 (e2 fj (λ_ Px _n=>?_) λ_ _ h'=>h'.elim)
  refine a8 (e2 _n (λ_ jc js=>a8 (e2 js (λok oC ic=>?_) λ_ _ h'=>h'.elim)) λ_ _ h'=>h'.elim)
  cases ok with
  |false=>exact cX ⟨rfl,ic⟩
  |true=>
   exact a8 (a8 (e2 ic (λx Py uz=>a8 (e2 uz (λ_ Pz hy=>cX (cX ⟨rfl,hy⟩)) λ_ _ h'=>h'.elim)) λ_ _ h'=>h'.elim))
end
end
section
variable [cJ]
theorem Qc{env:Env}{k:lY}:∀{names:List (Str×lY)} {x:Str},names.lookup x=some k->∃jt,(names.map λ(n,k)=>if (k==NameKind.free && env.scope.kind==.function && env.kindOf n==some .cell) then (n,NameKind.cell) else (n,k)).lookup x=some jt/\(jt=k\/(k=.free/\jt=.cell))
  | [],x,h=>by simp at h
  | (n,j)::r,x,h=>by
    have b8:=@Qc env k r x;show ∃jt,jE x ((if (j==NameKind.free && env.scope.kind==.function && env.kindOf n==some .cell)=true then (n,NameKind.cell) else (n,j))::_)=some jt/\_;cases hx:x==n with
    |true=>
      simp only[mC,hx] at h;cases h;by_cases ax:(k==NameKind.free && env.scope.kind==.function && env.kindOf n==some .cell)=true
      · rw[if_pos ax]
        refine⟨.cell,by simp[mC,hx],.inr ⟨?_,rfl⟩⟩
        simp only[gO] at ax;simpa using ax.1.1
      · rw[if_neg ax]
        exact⟨k,by simp[mC,hx],.inl rfl⟩
    |false=>
      simp only[mC,hx] at h;obtain⟨jt,af,ak⟩:=b8 h;refine⟨jt,?_,ak⟩;by_cases ax:(j==NameKind.free && env.scope.kind==.function && env.kindOf n==some .cell)=true
      · rw[if_pos ax];simp only[mC,hx];exact af
      · rw[if_neg ax];simp only[mC,hx];exact af
def mem_lookup{names:List (Str×lY)}{x:Str}{k:lY}(h:names.lookup x=some k):∃y∈names,y.2=k/\y.1=x:=by
 induction names with
|nil=>simp at h
|cons y r b8=>
  rw[mC] at h;split at h
  next U=>
   cases h
   exact⟨y,fb,rfl,by simpa using (beq_iff_eq.mp U).symm⟩
  next=>
   obtain⟨z,aq,af,ak⟩:=b8 h;exact⟨z,dn _ aq,af,ak⟩
def agp{scope:Scope}{env:Env}(uq:∀y∈scope.names,y.2≠.cell){x:Str}(h:(relabel scope env).names.lookup x=some .cell\/(relabel scope env).names.lookup x=some .free):∃y∈scope.names,y.2=.free/\y.1=x:=by
 have go:∀{k:lY},(relabel scope env).names.lookup x=some k->(k=.cell\/k=.free)->∃y∈scope.names,y.2=.free/\y.1=x:=λ{k} e aL=>by
  obtain⟨y,a7,af,ak⟩:=mem_lookup e;obtain⟨⟨n,j⟩,aq,aO⟩:=c7.mp (show y∈scope.names.map _ from a7);by_cases ax:(j==NameKind.free && env.scope.kind==.function && env.kindOf n==some .cell)=true
  ·have fw:(n,NameKind.cell)=y:=by
    have iL:(if (j==NameKind.free && env.scope.kind==.function && env.kindOf n==some .cell)=true then (n,NameKind.cell) else (n,j))=y:=aO
    rwa [if_pos ax] at iL
   subst fw;simp only[gO] at ax;exact⟨(n,j),aq,by simpa using ax.1.1,ak⟩
  ·have fw:(n,j)=y:=by
    have iL:(if (j==NameKind.free && env.scope.kind==.function && env.kindOf n==some .cell)=true then (n,NameKind.cell) else (n,j))=y:=aO
    rwa [if_neg ax] at iL
   subst fw;rcases aL with rfl|rfl
   ·exact absurd af (uq _ aq)
   ·exact⟨(n,j),aq,af,ak⟩
 rcases h with h|h
 ·exact go h (.inl rfl)
 ·exact go h (.inr rfl)
def cP.other{K:a9}{aE O F:ag->Prop}{E:gj}{H:ay}{ε:Ev}{σ:bh.St}{a:ag}{xs ys:List V}(r:cP K aE E O F H ε σ)(a6:¬F a)(aF:¬O a)(h0:E.h a=none)(av:H a=some (.lst xs)):
  ej K F H F (upd H a (.lst ys))/\cP K aE E O F (upd H a (.lst ys)) ε σ:=by
 have hm:mX (.lst xs):=.inl ⟨_,rfl⟩;have aw:ej K F H F (upd H a (.lst ys)):=SR a6 av hm;have keep:∀(u:aJ) (w:V),d1 K E O F H u w->d1 K E O F (upd H a (.lst ys)) u w/\dB (upd H a (.lst ys)) u w=dB H u w:=by
  intro u w c9;refine c9.keep aw (λb U=>cQ ?_) (λ_ _ f=>f) λ_ _ o=>o;rintro rfl;cases qN:u.iN with
  |true=>exact aF ((c9.held U).2.1 qN)
  |false=>exact (c9.held U).2.2 qN h0
 refine⟨aw,⟨r.len,λj u e=>?_,λi j s u v w i_ aD aO dH d3 af ak=>?_,Ss r.ent h0 a6 av hm,r.o0,λb e=>r.fr b ?_⟩⟩
 ·obtain⟨v,af,ak⟩:=r.val j u e;exact⟨v,af,(keep u v ak).1⟩
 ·obtain⟨iU,dU,bg⟩:=r.val i s aD;obtain⟨gA,g_,b5⟩:=r.val j u aO;rw[af] at dU;rw[ak] at g_;cases dU;cases g_;rw[(keep s v bg).2,(keep u w b5).2];exact r.ne i j s u v w i_ aD aO dH d3 af ak
 ·by_cases nb:b=a
  ·subst nb;rw[er] at e;cases e
  ·rwa [cQ nb] at e
def DB(n:Nat)(caps:List Nat)(σ:bh.St):bh.St:=alZ n none++caps.map λi=>(σ[i]?).join
def join_some{α:Type}{o:Option (Option α)}{x:α}(h:o.join=some x):o=some (some x):=by
 cases o with
|none=>cases h
|some o=>exact congrArg some h
def vC{α:Type}{n:Nat}{caps:List Nat}{l:List (Option α)}{i:Nat}{x:α}(h:(alZ n none++caps.map λi=>(l[i]?).join)[i]?=some (some x)):∃j,n<=i/\caps[i - n]?=some j/\l[j]?=some (some x):=by
 by_cases bc:i<n
 ·rw[uS (by simpa using bc),List.getElem?_replicate] at h;rw[if_pos bc] at h;cases h
 ·rw[uR (by simpa using bc),List.length_replicate,la] at h;cases e:caps[i - n]? with
  |none=>
   rw[e] at h;cases h
  |some j=>
   rw[e] at h;exact⟨j,by omega,rfl,join_some (ef h)⟩
def ajC{α:Type}{n:Nat}{caps:List Nat}{l:List (Option α)}{i j:Nat}{x:α}(bc:n<=i)(ax:caps[i - n]?=some j)(h:l[j]?=some (some x)):(alZ n none++caps.map λi=>(l[i]?).join)[i]?=some (some x):=by
 rw[uR (by simpa using bc),List.length_replicate,la,ax];simp[h]
def cP.Fw{K:a9}{aE O F:ag->Prop}{E:gj}{H:ay}{ε:Ev}{σ:bh.St}{D:ag}(r:cP K aE E O F H ε σ)(n:Nat){caps:List Nat}(a':caps.Nodup)(kk:H D=none):
  cP K aE E (λa=>O a/\a≠D) F (upd H D (.lst [])) (iI n caps ε) (DB n caps σ):=by
 have x:=Ext.laid (o:=.lst []) r.cu kk;have keep:∀(u:aJ) (w:V),d1 K E O F H u w->d1 K E (λa=>O a/\a≠D) F (upd H D (.lst [])) u w/\dB (upd H D (.lst [])) u w=dB H u w:=by
  intro u w c9;have nb:∀b∈dB H u w,b≠D:=λb U z=>by
   obtain⟨o,e,_⟩:=c9.at U;rw[z,kk] at e;cases e
  exact c9.keep x.aw (λb U=>cQ (nb b U)) (λ_ _ f=>f) λb U o=>⟨o,nb b U⟩
 refine⟨by simp[iI,DB],λi s e=>?_,λi j s u v w i_ aD aO dH d3 af ak=>?_,r.ent.trans x,λa h=>r.o0 a h.1,λa h=>?_⟩
 ·obtain⟨j,a6,ax,bS⟩:=vC e;obtain⟨v,af,ak⟩:=r.val j s bS;exact⟨v,ajC a6 ax af,(keep s v ak).1⟩
 ·obtain⟨GQ,bc,ci,jW⟩:=vC aD;obtain⟨qG,bR,NR,hr⟩:=vC aO;obtain⟨b1,_,NQ,dU⟩:=vC (l:=σ) af;obtain⟨OM,_,NS,g_⟩:=vC (l:=σ) ak;rw[ci] at NQ;rw[NR] at NS;cases NQ;cases NS;obtain⟨iU,aM,bg⟩:=r.val GQ s jW;obtain⟨gA,bb,b5⟩:=r.val qG u hr;rw[dU] at aM;rw[g_] at bb;cases aM;cases bb;rw[(keep s v bg).2,(keep u w b5).2];refine r.ne GQ qG s u v w (λz=>?_) jW hr dH d3 dU g_;subst z;obtain⟨b2,hO⟩:=hW.mp ci;obtain⟨b4,kW⟩:=hW.mp NR;have ne:i - n≠j - n:=by omega
  rcases Nat.lt_or_gt_of_ne ne with q|q
  ·exact (List.pairwise_iff_getElem.mp a' _ _ b2 b4 q) (hO.trans kW.symm)
  ·exact (List.pairwise_iff_getElem.mp a' _ _ b4 b2 q) (kW.trans hO.symm)
 ·have a':a≠D:=by
   rintro rfl;rw[er] at h;cases h
  rw[cQ a'] at h;exact⟨r.fr a h,a'⟩
end
section
variable [cJ]
structure rN(X:aV)(scope:Scope)(own:List Str)(caps:List (Nat×Str)):Prop where
 kind:scope.kind=.function
 names:∀y∈scope.names,y.2=.local->scope.names.lookup y.1=some .local
 cell:∀y∈scope.names,y.2≠.cell
 free:∀y∈scope.names,y.2=.free->X.env.kindOf y.1=some .cell\/X.env.kindOf y.1=some .free
 Fw:∀p∈caps,X.N[p.1]?=some p.2/\scope.names.lookup p.2=some .free
 a':(caps.map (·.1)).Nodup
 calm:X.calm=true
section
variable {X:aV}{dt iter elt:bj}{ifs:List bj}{scope:Scope}{it:al1}{jq:iJ}{cc:eT}{f':bz}{pos:Pos}{own:List Str}{caps:List (Nat×Str)}
def S4{ai:List (ag×Obj)}{σ:bh.St}{bk:ay}{s2:aI}{cE:List ag}(S:rN X scope own caps)(cB:bh.Inv X ai σ bk s2)(f2:∀b∈cE,mV X ai bk b)(i9:∀b∈cE,b<s2.heap.objs.size)(v8:List Str):
  (i1 X v8 scope (gG X.env scope.names []) (s2.heap.push {cls:=.type "list",data:=.seq ([]:List aj).toArray}).objs.size {s2 with heap:=s2.heap.push {cls:=.type "list",data:=.seq ([]:List aj).toArray} } (upd bk s2.heap.objs.size (.lst [])) cE (X.df++ai)).Ok:=by
 have od:∀x∈scope.names,x.2=.free->∃c,X.env.cells.lookup x.1=some c:=λx hx aL=>cB.ok.has x.1 (S.free x hx aL);have r7:∀x c,(gG X.env scope.names []).lookup x=some c->X.env.cells.lookup x=some c:=yg od (λx c e=>by simp at e);have eL:=cB.AW (its:=[]) (ys:=[]) (t':=s2.toks) .nil (mE _);have k7:(s2.heap.push {cls:=.type "list",data:=.seq ([]:List aj).toArray}).objs.size=s2.heap.objs.size+1:=ky ..;refine⟨cB.ok.mod,S.kind,cB.ok.glob,cB.ok.blt,el _,λx y c aD aO=>cB.ok.inj x y c (r7 x c aD) (r7 y c aO),λx hx=>?_,λx c h=>(by cases h),cB.ok.hd,cB.ok.frames,.inl rfl,λb U=>⟨?_,λx c e=>(f2 b U).2.2.2.2.1 x c (r7 x c e)⟩,λb o e=>?_,?_,λb o e U=>?_,λb U hf=>?_,eL.stack,eL.Jy⟩
 ·exact vp (.inl (agp S.cell hx))
 ·show b≠(s2.heap.push {cls:=.type "list",data:=.seq ([]:List aj).toArray}).objs.size
  have h:=i9 b U;rw[k7];exact eR (Nat.lt_succ_of_lt h)
 ·obtain⟨af,ak⟩:=eL.bs b o e;exact⟨af,ak⟩
 ·have af:=jd cB.ok.m5 cB.k7;show X.base.objs.size<=(s2.heap.push {cls:=.type "list",data:=.seq ([]:List aj).toArray}).objs.size;omega
 ·rcases (f2 b U).2.2.2.1 with q|q
  ·exact cB.ok.sM b o e q
  ·exact absurd (iE (cY (cB.ok.bs b o e).1) q) (Nat.lt_irrefl _)
 ·rcases cm.mp (cB.Bt b hf) with q|q
  ·exact (f2 b U).2.1 q
  ·exact (f2 b U).2.2.1 q
def aiN{ai:List (ag×Obj)}{σ:bh.St}{bk:ay}{s2:aI}{cE:List ag}(S:rN X scope own caps)(cB:bh.Inv X ai σ bk s2)(f2:∀b∈cE,mV X ai bk b)(i9:∀b∈cE,b<s2.heap.objs.size){fj:bE}{m:Str->Option aj}{tk:Nat}
  (oj:fj.Ns (s2.heap.push {cls:=.type "list",data:=.seq ([]:List aj).toArray}).objs.size m) (keep:∀b u,(s2.heap.push {cls:=.type "list",data:=.seq ([]:List aj).toArray}).get? b=some u->fj.get? b=some u):
  bh.Inv (i1 X (own++caps.map (·.2)) scope (gG X.env scope.names []) (s2.heap.push {cls:=.type "list",data:=.seq ([]:List aj).toArray}).objs.size {s2 with heap:=s2.heap.push {cls:=.type "list",data:=.seq ([]:List aj).toArray} } (upd bk s2.heap.objs.size (.lst [])) cE (X.df++ai)) []
   (DB own.length (caps.map (·.1)) σ) (upd bk s2.heap.objs.size (.lst [])) {s2 with heap:=fj,toks:=tk}:=by
 have od:∀x∈scope.names,x.2=.free->∃c,X.env.cells.lookup x.1=some c:=λx hx aL=>cB.ok.has x.1 (S.free x hx aL);have r7:∀x c,(gG X.env scope.names []).lookup x=some c->X.env.cells.lookup x=some c:=yg od (λx c e=>by simp at e);have eL:=cB.AW (its:=[]) (ys:=[]) (t':=s2.toks) .nil (mE _);refine⟨S4 S cB f2 i9 _,rfl,cB.bare,f9.kept keep,⟨m,oj,λi x v af ak br=>?_⟩,λx c e=>?_,?_,λx c e=>eL.ki x c (r7 x c e),λp aC=>?_,eL.bO.kept keep,by simp[DB,i1]⟩
 ·obtain⟨j,a6,ax,bR⟩:=vC (l:=σ) ak;have hx:(caps.map (·.2))[i - own.length]?=some x:=by
   have:(own++caps.map (·.2))[i]?=some x:=af
   rwa [uR a6] at this
  rw[la] at ax hx;cases ep:caps[i - own.length]? with
  |none=>rw[ep] at ax;cases ax
  |some p=>
   rw[ep] at ax hx;cases ax;cases hx;obtain⟨eB,hf⟩:=S.Fw p (uV ep);obtain⟨y,a7,k1,k2⟩:=mem_lookup hf;have aL:=S.free y a7 k1;rw[k2] at aL;obtain⟨qH,alL,Ov⟩:=eL.loc;have afA:qi X.env.scope p.2:=by
    rcases aL with aL|aL
    ·exact .inr (.inl aL)
    ·exact .inr (.inr aL)
   obtain⟨u,c9,lu⟩:=Ov p.1 p.2 v eB bR afA;refine⟨u,c9,.inr ⟨?_,?_⟩⟩
   ·obtain⟨jt,aD,aO⟩:=Qc (env:=X.env) hf;rcases aO with rfl|⟨_,rfl⟩
    ·exact .inr aD
    ·exact .inl aD
   ·rcases lu with ⟨q,_⟩|⟨_,c,ax,uq⟩
    ·rcases aL with aL|aL
     ·rw[aL] at q;cases q
     ·rw[aL] at q;cases q
    ·obtain⟨bW,dc⟩:=vp (env:=X.env) (l:=scope.names) (cs:=[]) (x:=p.2) (.inl ⟨y,a7,k1,k2⟩);have:=r7 _ _ dc;rw[ax] at this;cases this;obtain⟨gV,aF,hd⟩:=uq;exact⟨c,dc,gV,keep _ _ aF,hd⟩
 ·obtain⟨v,gV,aF,hd⟩:=eL.cell x c (r7 x c e);exact⟨v,gV,keep _ _ aF,hd⟩
 ·exact eL.bO.fresh (el _)
 ·have pK:p∈X.df++ai:=by simpa [i1] using aC
  obtain⟨af,ak,bB,c1,gT⟩:=eL.pin p pK;refine⟨keep _ _ af,ak,eR (cY af),λz=>?_,gT⟩;rcases cm.mp (cB.Bt p.1 z) with q|q
  ·exact bB q
  ·exact c1 q
def aha{ai:List (ag×Obj)}{σ cg:bh.St}{bk aa:ay}{s2 s':aI}{cE:List ag}{v8:List Str}(cB:bh.Inv X ai σ bk s2)(f2:∀b∈cE,mV X ai bk b)
  (J:bh.Inv (i1 X v8 scope (gG X.env scope.names []) (s2.heap.push {cls:=.type "list",data:=.seq ([]:List aj).toArray}).objs.size {s2 with heap:=s2.heap.push {cls:=.type "list",data:=.seq ([]:List aj).toArray} } (upd bk s2.heap.objs.size (.lst [])) cE (X.df++ai)) [] cg aa s')
  {h':bE} (lO:Heap.SameBut (s2.heap.push {cls:=.type "list",data:=.seq ([]:List aj).toArray}).objs.size s'.heap h'):bh.Inv X ai σ aa {s' with heap:=h'}:=by
 have eL:=cB.AW (its:=[]) (ys:=[]) (t':=s2.toks) .nil (mE _);have u:=J.base;have free:aa (s2.heap.push {cls:=.type "list",data:=.seq ([]:List aj).toArray}).objs.size=none:=J.free;have old:∀b o,(s2.heap.push {cls:=.type "list",data:=.seq ([]:List aj).toArray}).get? b=some o->b≠(s2.heap.push {cls:=.type "list",data:=.seq ([]:List aj).toArray}).objs.size:=λb o e=>eR (cY e);have zv:∀b,b≠(s2.heap.push {cls:=.type "list",data:=.seq ([]:List aj).toArray}).objs.size->∀o,s'.heap.get? b=some o->h'.get? b=some o:=λb U o e=>lO.extBut b o U e;have xu:f9 (fh X.stack) cE (upd bk s2.heap.objs.size (.lst [])) aa (s2.heap.push {cls:=.type "list",data:=.seq ([]:List aj).toArray}) h':=by
  refine⟨λb o e n hf hx=>zv b (old b o e) _ (u.keep b o e n hf hx),λb o e n hf hx=>?_,u.free,λb o e hx=>?_,u.lQ,u.kR,u.k8⟩
  ·obtain⟨dK,q⟩:=u.slot b o e n hf hx;exact⟨dK,zv b (old b o e) _ q⟩
  ·obtain⟨o',q⟩:=u.there b o e hx;exact⟨o',zv b (old b o e) _ q⟩
 have bO:eA X.prog X.w aa h':=λb o e=>by
  refine (J.bO b o e).jA (λc v ax q=>zv c (λz=>?_) v q) (λ_ q=>q) λ_ _ q=>q
  rcases ax with rfl|ax
  ·rw[z,free] at e;cases e
  ·rw[z,free] at ax;cases ax
 have Z5:=J.os;have Zr:=J.bare;obtain⟨cM,g,d,t,os⟩:=s';obtain rfl:os=s2.os:=Z5;have fin:=eL.call (h':=h') (g':=g) (d':=d) (t':=t) (ch:=cE) xu bO Zr λb U=>⟨(f2 b U).2.2.2.1,(f2 b U).2.1,(f2 b U).2.2.2.2.1,(f2 b U).2.2.2.2.2⟩;exact fin
def ahS{X':aV}{R:Result->aI->Prop}{J:lx}{cE:List ag}{Hj D:ag}{iT:Nat->bE->Prop}{aE O aY:ag->Prop}{aR:gj}{bk:ay}{ts ys:List T}(hx:X'.c8=λ_ _=>False)(ax:X'.calm=true)(bl:pj X' dt jq)(aX:rY X' ifs cc)(he:cO X' elt f')
  (T:Turn X'.prog X'.w X'.K dt J cE Hj iT) (sX:∀aa:ay,(∀b∈cE,aa b=none)->∀b∈cE,mV X' [] aa b) (ok:qf X'.K J aY bk ts) (Oc:ts.length<=big) (sh:bk D=none) (jY:¬O D) (Zd:aR.h D=none)
  (fin:∀cg aa aG s1 vs,bh.Inv X' [] cg aa s1->Ext aY bk aG aa->aa D=some (.lst vs)->¬aG D->bG X'.K aG aa ys vs->R (.ok .next) s1)
  {s:aI} {σ:bh.St} {H:ay} {F:ag->Prop} {ε:Ev} (I:bh.Inv X' [] σ H s) (st:iT 0 s.heap) (fr:∀b∈cE,H b=none) (x:Ext aY bk F H) (r:cP X'.K aE aR O F H ε σ) (kk:H D=some (.lst [])) (nD:¬F D) (fy:hD jq cc f' ts ε=some ys):
  iG (bL X'.prog X'.w) X'.A (.compLoop (.ListComp elt [⟨dt,iter,ifs,0⟩] scope pos) 0 (.ref Hj) (.ref D) X'.env) R s:=by
 refine agw (λn s'=>∃i cg aa aG ε' m6 vs,n=ts.length - i/\i<=ts.length/\bh.Inv X' [] cg aa s'/\iT i s'.heap/\(∀b∈cE,aa b=none)/\Ext aY bk aG aa/\cP X'.K aE aR O aG aa ε' cg/\aa D=some (.lst vs)/\¬aG D/\bG X'.K aG aa m6 vs/\m6.length<=i /\
  ∃rest,hD jq cc f' (ts.drop i) ε'=some rest/\ys=m6++rest) ?_ ts.length ⟨0,σ,H,F,ε,[],[],rfl,mE _,I,st,fr,x,r,kk,nD,bG.nil,el _,ys,by simpa using fy,by simp⟩
 rintro n s3 ⟨i,l7,gk,tT,alm,m6,vs,rfl,bc,eL,xn,wk,hc,ko,wu,ID,dg,Ov,rest,h_,es⟩;have hP:∀{nT:ag->Prop} {kM:ay} {pa:ag->Prop} {kb:ay} {o:ea},Ext nT kM pa kb->kM D=some o->¬nT D->¬pa D:=λy e n z=>by
  rcases y.new D z with q|q
  ·exact n q
  ·rw[e] at q;cases q
 by_cases fJ:i<ts.length
 ·have hd:ts.drop i=ts[i]::ts.drop (i+1):=List.drop_eq_getElem_cons fJ;have wD:ts[i]?=some ts[i]:=iD fJ;rw[hd] at h_;simp only[hD,cz] at h_;obtain⟨vW,r',b,dZ,h_⟩:=h_;refine e2 (T.item X' rfl rfl rfl ax i [] s3 l7 gk (λ_ _=>False) eL (sX gk wk) xn (ok.go i tT gk _ hc.aw ko.cu wD)) (λbP s4 ⟨u,au,c1⟩=>?_) λ_ _ z=>z;subst au;refine e2 c1 (λ_ s5 ⟨k_,kb,rR,xe,JT,sW,F3⟩=>?_) λ_ _ z=>z;obtain⟨pa,PL,aW⟩:=ok.nB i tT gk _ k_ kb hc.aw ko.cu wD JT;have DJ:=rR.pinned (sX kb F3) (T.obj _ _ sW);have Oq:=bl _ s5 l7 kb k_ u (λo7 tU=>tU=kb/\cP X'.K aE aR O pa kb vW o7) DJ xe ⟨aE,aR,O,pa,alm,_,vW,ko.ext PL,aW,r',λo7 xf=>⟨rfl,xf⟩⟩;rw[hx] at Oq;refine e2 Oq (λ_ gf ⟨o7,tU,v3,ud,xf⟩=>?_) λ_ _ z=>z;subst ud;have again:∀{kJ:bh.St} {hn:ay} {dJ:aI},bh.Inv X' ([]++yB cE s5.heap) kJ hn dJ->iT (i+1) dJ.heap/\(∀b∈cE,hn b=none)/\bh.Inv X' [] kJ hn dJ:=λ{kJ hn dJ} i5=>by
   refine⟨T.keep _ _ _ sW λb U o e=>(i5.pin (b,o) (oG _ (oG _ (Cy U e)))).1,λb U=>?_,i5.BA⟩
   obtain⟨o,e,d⟩:=T.obj _ _ sW b U;exact (i5.pin (b,o) (oG _ (oG _ (Cy U e)))).2.1
  have OE:=aX _ gf o7 tU (λpx hn=>px=b/\∃rP,Ext pa tU rP hn) v3 ⟨aE,aR,O,pa,vW,b,xf,dZ,λrP hn uQ=>⟨rfl,rP,uQ⟩⟩;rw[hx] at OE;refine e2 OE (λacN dJ ⟨hn,i5,ue,rP,uQ⟩=>?_) λ_ _ z=>z;subst ue;have xx:=PL.trans uQ;have sR:=xf.ext uQ;cases acN with
  |false=>
   simp only[nz,if_false] at h_ ⊢;obtain⟨a1,a2,ho⟩:=again i5;exact⟨_,by omega,i+1,o7,hn,rP,vW,m6,vs,rfl,fJ,ho,a1,a2,hc.trans xx,sR,xx.same.get wu,hP xx wu ID,dg.ext xx,by omega,rest,h_,es⟩
  |true=>
   simp only[if_true,cz,dE] at h_ ⊢;obtain⟨y,Y0,adR,YW,rfl⟩:=h_;have pJ:=he _ dJ o7 hn (λv rQ=>∃pb,Ext rP hn pb rQ/\Rep X'.K pb rQ y v) i5 ⟨aE,aR,O,rP,vW,y,sR,Y0,λv pb rQ BE nu=>⟨pb,BE,nu⟩⟩;rw[hx] at pJ;refine e2 pJ (λu8 eo ⟨uN,rQ,DK,r8,pb,BE,nu⟩=>?_) λ_ _ z=>z;have BD:=xx.trans BE;have F7:=BD.same.get wu;have IE:=hP BD wu ID;obtain⟨aaF,r9⟩:=(sR.ext BE).other (ys:=vs++[uN]) IE jY Zd F7;have av:=Ry (X:=X') _ eo o7 rQ (.ref D) [uN] (.ref D) [u8] (λ_ MF=>MF=upd rQ D (.lst (vs++[uN]))) DK rfl (.cons r8 .nil) ⟨D,vs,uN,rfl,rfl,F7,by rw[nO,<- dg.length];omega,rfl⟩;rw[hx] at av;refine e2 av (λPI gM ⟨v9,MF,VH,alQ,uf⟩=>?_) λ_ _ z=>z;subst uf;obtain⟨a1,a2,ho⟩:=again VH;have x9:Ext aY bk pb (upd rQ D (.lst (vs++[uN]))):=by
    have y:=hc.trans BD;refine⟨λb o e=>?_,y.sub,y.new,⟨λb f=>?_,y.cu.mz.upd λu e=>.inl ⟨_,ef (e.symm.trans F7)⟩⟩⟩
    ·have nb:b≠D:=by
      rintro rfl;rw[sh] at e;cases e
     rw[cQ nb];exact y.same b o e
    ·have nb:b≠D:=by
      rintro rfl;exact IE f
     rw[cQ nb];exact y.cu b f
   refine⟨_,by omega,i+1,o7,_,pb,vW,m6++[y],vs++[uN],rfl,fJ,ho,a1,a2,x9,r9,er,IE,((dg.ext BD).append (bG.cons nu bG.nil)).aw aaF,by simp;omega,adR,YW,by rw[es];simp⟩
 ·have hd:ts.drop i=[]:=List.drop_eq_nil_of_le (by omega);rw[hd] at h_;cases h_;refine e2 (T.done X' rfl rfl rfl ax i [] s3 l7 gk (λ_ _=>False) eL (sX gk wk) xn (ok.stop i tT gk hc.aw (by omega))) (λbP s4 ⟨au,mZ⟩=>?_) λ_ _ z=>z;subst au;exact fin l7 gk tT s4 vs mZ hc wu ID (by rw[es,jF];exact dg)
structure After(X:aV)(ai:List (ag×Obj))(σ:bh.St)(F:ag->Prop)(H:ay)(ys:List T)(D C:ag)(aa:ay)(aG:ag->Prop)(s1:aI)(vs:List V):Prop where
 inv:∀h',Heap.SameBut C s1.heap h'->bh.Inv X ai σ aa {s1 with heap:=h'}
 ns:∃m,s1.heap.Ns C m
 free:aa C=none
 above:X.c'.heap.objs.size<=C
 cells:∀x c,X.env.cells.lookup x=some c->c≠C
 pin:∀p∈X.df++ai,p.1≠C
 loc:C≠X.env.locals
 new:H D=none
 ext:Ext F H aG aa
 hP:¬aG D
 lst:aa D=some (.lst vs)
 rep:bG X.K aG aa ys vs
def Sv{use:Option (aj->Sem Unit)}{Q:aj->aI->Prop}{fM:Pos}(S:rN X scope own caps)(bc:pk X dt iter it)
  (bl:∀cl C c' aR cE df,pj (i1 X (own++caps.map (·.2)) scope cl C c' aR cE df) dt jq)
  (aX:∀cl C c' aR cE df,rY (i1 X (own++caps.map (·.2)) scope cl C c' aR cE df) ifs cc)
  (he:∀cl C c' aR cE df,cO (i1 X (own++caps.map (·.2)) scope cl C c' aR cE df) elt f')
  (aA:∀x,u3 iter X.env x=pure x) {ai:List (ag×Obj)} {s:aI} {σ:bh.St} {H:ay} {aE O F:ag->Prop} {aR:gj} {ε:Ev} {ys:List T} (I:bh.Inv X ai σ H s) (r:cP X.K aE aR O F H ε σ)
  (e:comp own.length (caps.map (·.1)) it jq cc f' ε=some (.list ys)) (fin:∀D C aa aG s1 vs,After X ai σ F H ys D C aa aG s1 vs->compPost (bL X.prog X.w) X.A X.c8 use Q (.ref D) C (.ok .next) s1):
  bD (bL X.prog X.w) X.A (comprehension (.ListComp elt [⟨dt,iter,ifs,0⟩] scope pos) scope X.env fM (newList []) false (eval iter X.env) use) Q X.c8 s:=by
 simp only[comp,cz] at e;obtain⟨ts,bw,e⟩:=e;split at e
 case isFalse=>cases e
 next Oc=>
 simp only[dE] at e;obtain⟨alW,fy,e⟩:=e;cases e;have od:∀x∈scope.names,x.2=.free->∃c,X.env.cells.lookup x.1=some c:=λx hx aL=>I.ok.has x.1 (S.free x hx aL);refine wpAny_comprehension_free rfl aA (Km od) S.kind S.names (cN (bc ai s σ H (λJ H1=>∃aY,Ext F H aY H1/\qf X.K J aY H1 ts) I ⟨aE,aR,O,F,ε,ts,r,bw,λJ aY H1 aP ok=>⟨aY,aP,ok⟩⟩) λv s1 af=>cN af λHk s2 ak=>?_);obtain⟨Hj,cE,iT,J,bk,rfl,cB,T,ks,f2,aY,aP,ok⟩:=ak;have i9:∀b∈cE,b<s2.heap.objs.size:=λb U=>by
  obtain⟨o,aF,_⟩:=T.obj 0 _ ks b U;exact cY aF
 have sh:bk s2.heap.objs.size=none:=cB.fresh;have kk:H s2.heap.objs.size=none:=aP.same.none sh;have k7:(s2.heap.push {cls:=.type "list",data:=.seq ([]:List aj).toArray}).objs.size=s2.heap.objs.size+1:=ky ..;refine wpAny_newList ?_ (mE _);refine wpAny_newFunctionEnv S.cell (by intro y a7;simp at a7) (λfj Z0 Z9=>?_) S.kind;have keep:∀b u,(s2.heap.push {cls:=.type "list",data:=.seq ([]:List aj).toArray}).get? b=some u->fj.get? b=some u:=λb u e=>Z9.extBut b u (eR (cY e)) (c2 _ e);have mZ:=aiN (tk:=s2.toks+0) S cB f2 i9 Z0 keep;have oy:=(r.ext aP).Fw (D:=s2.heap.objs.size) own.length S.a' sh;refine codeAny_compStart_list ?loop (T.self _ 0 _ _ _ (T.keep 0 _ _ ks λb U o e=>keep b o (c2 _ e)) ?loop);refine ahS (X':=i1 X (own++caps.map (·.2)) scope (gG X.env scope.names []) (s2.heap.push {cls:=.type "list",data:=.seq ([]:List aj).toArray}).objs.size {s2 with heap:=s2.heap.push {cls:=.type "list",data:=.seq ([]:List aj).toArray} } (upd bk s2.heap.objs.size (.lst [])) cE (X.df++ai))
  rfl S.calm (bl _ _ _ _ _ _) (aX _ _ _ _ _ _) (he _ _ _ _ _ _) T (λaa a6 b U=>?_) ok Oc sh (λz=>z.2 rfl) (r.o0 _ (r.fr _ kk)) (λcg aa aG s1 vs DQ k_ Zc aaM d8=>?_) mZ (T.keep 0 _ _ ks λb U o e=>keep b o (c2 _ e)) (λb U=>?_) (Ext.laid aP.cu sh) oy er ?_ fy
 ·have I_:=S4 S cB f2 i9 (own++caps.map (·.2));refine⟨a6 b U,(I_.uj b U).1,I_.sb b U,.inl U,λx c e=>(I_.uj b U).2 x c e,λp aC=>?_⟩;have pK:p∈X.df++ai:=by simpa [i1] using aC
  exact (f2 b U).2.2.2.2.2 p pK
 ·obtain⟨m,a6,_⟩:=id DQ.loc;refine fin s2.heap.objs.size _ aa aG s1 vs ⟨λh' lO=>aha cB f2 DQ lO,⟨m,a6⟩,DQ.free,?_,λx c e z=>?_,λp aC z=>?_,?_,kk,aP.trans k_,aaM,Zc,d8⟩
  ·rw[k7];exact Nat.le_succ_of_le cB.k7
  ·obtain⟨v,q⟩:=cB.cell x c e;have:=q.lt;rw[z,k7] at this;exact absurd this (Nat.not_lt.mpr (gB _))
  ·have:=cY (cB.pin p aC).1;rw[z,k7] at this;exact absurd this (Nat.not_lt.mpr (gB _))
  ·have:=cB.lt;rw[k7];exact hX (Nat.lt_succ_of_lt this)
 ·have:=(f2 b U).1;rw[cQ (eR (i9 b U))];exact this
 ·intro z;obtain⟨o,e⟩:=aP.cu _ z;rw[sh] at e;cases e
def aj6(S:rN X scope own caps)(bc:pk X dt iter it)
  (bl:∀cl C c' aR cE df,pj (i1 X (own++caps.map (·.2)) scope cl C c' aR cE df) dt jq)
  (aX:∀cl C c' aR cE df,rY (i1 X (own++caps.map (·.2)) scope cl C c' aR cE df) ifs cc)
  (he:∀cl C c' aR cE df,cO (i1 X (own++caps.map (·.2)) scope cl C c' aR cE df) elt f')
  (aA:∀x,u3 iter X.env x=pure x:=by intro _;rfl):t2 X (.ListComp elt [⟨dt,iter,ifs,0⟩] scope pos) (comp own.length (caps.map (·.1)) it jq cc f'):=by
 intro ai s σ H Q I ⟨aE,aR,O,F,ε,ys,r,e,k⟩;rw[eval_ListComp];refine Sv S bc bl aX he aA I r e λD C aa aG s1 vs a=>?_;obtain⟨m,a6⟩:=a.ns;exact⟨m,a6,λh' lO=>⟨.ref D,aa,a.inv h' lO,rfl,k D vs aG aa a.ext a.new a.hP a.lst a.rep⟩⟩
def RK{ε:Ev}{n:Nat}{cs:List Nat}{t:T}(e:comp n cs it jq cc f' ε=some t):∃ts,t=.list ts:=by
 simp only[comp,cz] at e;obtain⟨ts,_,e⟩:=e;split at e
 ·simp only[dE] at e;obtain⟨ys,_,e⟩:=e;exact⟨ys,e.symm⟩
 ·cases e
def tC(S:rN X scope own caps)(bc:pk X dt iter it)
  (bl:∀cl C c' aR cE df,pj (i1 X (own++caps.map (·.2)) scope cl C c' aR cE df) dt jq)
  (aX:∀cl C c' aR cE df,rY (i1 X (own++caps.map (·.2)) scope cl C c' aR cE df) ifs cc)
  (he:∀cl C c' aR cE df,cO (i1 X (own++caps.map (·.2)) scope cl C c' aR cE df) elt f')
  (aA:∀x,u3 iter X.env x=pure x:=by intro _;rfl):cO X (.ListComp elt [⟨dt,iter,ifs,0⟩] scope pos) (comp own.length (caps.map (·.1)) it jq cc f'):=
 OU (aj6 S bc bl aX he aA) λε t e=>RK e
def LV(i:Nat){x:Str}{jb sV:Pos}(eB:X.N.Nodup)(S:rN X scope own caps)(hit:pk X dt iter it)
  (bl:∀cl C c' aR cE df,pj (i1 X (own++caps.map (·.2)) scope cl C c' aR cE df) dt jq)
  (aX:∀cl C c' aR cE df,rY (i1 X (own++caps.map (·.2)) scope cl C c' aR cE df) ifs cc)
  (he:∀cl C c' aR cE df,cO (i1 X (own++caps.map (·.2)) scope cl C c' aR cE df) elt f')
  (bc:X.N[i]?=some x:=by rfl) (hx:Loc X.env.scope x:=by first|exact Or.inl rfl|exact Or.inr rfl)
  (nj:jh (.ListComp elt [⟨dt,iter,ifs,0⟩] scope pos) (some (.Name x jb)) sV.line X.env=pure true:=by rfl)
  (hf:X.fn x=true\/X.env.scope.names.lookup x=some .local:=by first|exact .inl rfl|exact .inr rfl)
  (aA:∀x,u3 iter X.env x=pure x:=by intro _;rfl):
  f6 X (.Assign [.Name x jb] (.ListComp elt [⟨dt,iter,ifs,0⟩] scope pos) sV) (asg i (comp own.length (caps.map (·.1)) it jq cc f')):=by
 intro ai s σ H D I ⟨aE,aR,O,F,ε,o,r,e,k⟩;simp only[asg,dE] at e;obtain⟨t,bw,rfl⟩:=e;obtain⟨ys,rfl⟩:=RK bw;rw[exec_Assign_Name_used _ _ _ _ nj];refine a8 (wpAny_standAt (a8 ?_));show bD _ X.A (do let _ <- comprehension (.ListComp elt [⟨dt,iter,ifs,0⟩] scope pos) scope X.env _ (newList []) false (eval iter X.env) (some (assign (.Name x jb) X.env))) _ _ s;refine a8 (cN (Sv (use:=some (assign (.Name x jb) X.env)) (Q:=λ_ s'=>pn X ai D .next s') S hit bl aX he aA I r bw λvY C aa aG s1 vs a=>?_) λ_ s' a3=>cX (cX a3));have VI:=a.inv s1.heap (Heap.SameBut.refl ..);have VJ:bh.Inv X ai σ aa s1:=VI;show bD _ X.A (assign (.Name x jb) X.env (.ref vY)) _ _ _;refine wpAny_assign_Name (Rl (v:=.ref vY) VJ eB bc hx rfl (λs2 cB ⟨b,lO,U⟩=>?_) hf);obtain⟨m,a6⟩:=a.ns;have nb:C≠b:=by
  rcases U with rfl|U
  ·exact a.loc
  ·exact (a.cells x b U).symm
 refine⟨m,a6.sameBut lO nb,λh' adY=>?_⟩
 have eL:bh.Inv X ai (σ.set i (some (.ref vY))) aa {s2 with heap:=h'}:=cB.turned (t':=s2.toks) (it:=C) (λb o U e=>adY.extBut b o U e) a.free a.loc (.inr a.above) a.cells a.pin;refine⟨_,aa,eL,?_⟩;have y:Ext F H (λb=>aG b\/b=vY) aa:=⟨a.ext.same,λb z=>.inl (a.ext.sub b z),λb z=>by
  rcases z with z|rfl
  ·exact a.ext.new b z
  ·exact .inr a.new,⟨λb z=>by
  rcases z with z|rfl
  ·exact a.ext.cu b z
  ·exact⟨_,a.lst⟩,a.ext.cu.mz⟩⟩
 refine k _ _ aa y.aw ((r.ext y).set i ?_)
 simp only[Rep];exact⟨vY,vs,rfl,.inr rfl,.inl a.lst,a.rep.keep (λ_ _ z=>z) λb _ z w=>⟨.inl z,w⟩⟩
end
end
section
variable [cJ]
open AutoSeq1 (wpAny_loadPart')
def afI(l:ag)(items:Array aj)(n:Nat)(t_:Option ag)(dK:Array (Option aj)):
  Meets (Builtin.«enumerate.__new__» ⟨[.type "enumerate",.ref l],[]⟩) (λ_ R s=>s.heap.get? l=some {cls:=.type "tuple",dict:=t_,data:=.seq items n,slots:=dK} /\
   R (.ok (.ret (.ref (s.heap.push {cls:=.type "tuple_iterator",data:=.fields #[.ref l,.int 0 0]}).objs.size)))
    {s with heap:=(s.heap.push {cls:=.type "tuple_iterator",data:=.fields #[.ref l,.int 0 0]}).push {cls:=.type "enumerate",data:=.fields #[.none,.bool false,.ref s.heap.objs.size,hg 0,.none,.none]} }):=
 .of_wp λprog w A R s h=>by
  obtain⟨aC,g,d,tk,os⟩:=s;obtain⟨aB,h⟩:=h;have OD:=sub_enumerate;have hM:Heap.IsTuple (Shared.heap ⟨aC,g,d,tk,os⟩) l items:=⟨_,aB,rfl,n,rfl⟩
  wp_walk using wpAny_loadPart' aB
  refine wpAny_stack_any λst=>cX ?_
  split
  ·rename_i c _ _ _ _ _
   cases (c==Value.type "enumerate")
   ·wp_walk using wpAny_loadPart' aB,xD hM
    exact⟨_,rfl,h⟩
   ·wp_walk using wpAny_loadPart' aB,xD hM
    exact⟨_,rfl,h⟩
  ·wp_walk using wpAny_loadPart' aB,xD hM
   exact⟨_,rfl,h⟩
section
variable {prog:cA}{w:bZ}{A:cH}{E:aj->aI->Prop}{s:aI}
def afJ{l:ag}{items:Array aj}{Q:aj->aI->Prop}(hM:s.heap.IsTuple l items)
  (h:∀h',IsEnum h' (s.heap.objs.size+1) s.heap.objs.size 0 .none->h'.IsTupleIter s.heap.objs.size l 0->h'.objs.size=s.heap.objs.size+2 ->
   (∀b o,s.heap.get? b=some o->h'.get? b=some o)->Q (.ref (s.heap.objs.size+1)) {s with heap:=h'}):
  bD (bL prog w) A (call (.type "enumerate") [.ref l]) Q E s:=by
 obtain⟨⟨c,t_,FC,dK⟩,aB,ax,n,hd⟩:=hM;replace ax:c=.type "tuple":=ax;replace hd:FC=.seq items n:=hd;subst ax hd;refine callType_new F.called_enumerate (by decide) (F.typeCall_enumerate_1 _) (F.newCall_enumerate_1 _) (λobj=>F.args_object_init_2 obj _) F.entry_enumerate_new
  (afI l items n t_ dK) ⟨aB,?_⟩
 have aq:(s.heap.push {cls:=.type "tuple_iterator",data:=.fields #[.ref l,.int 0 0]}).objs.size=s.heap.objs.size+1:=ky ..;show _/\_;rw[aq];have he:IsEnum ((s.heap.push {cls:=.type "tuple_iterator",data:=.fields #[.ref l,.int 0 0]}).push
   {cls:=.type "enumerate",data:=.fields #[.none,.bool false,.ref s.heap.objs.size,hg 0,.none,.none]}) (s.heap.objs.size+1) s.heap.objs.size 0 .none:=by
  have:=gY (s.heap.push {cls:=.type "tuple_iterator",data:=.fields #[.ref l,.int 0 0]})
   (o:={cls:=.type "enumerate",data:=.fields #[.none,.bool false,.ref s.heap.objs.size,hg 0,.none,.none]}) rfl
  rw[aq] at this;exact this
 refine⟨⟨_,he,rfl⟩,h _ he ⟨_,c2 _ (gY _ rfl),rfl,rfl⟩ (by rw[ky,aq]) λb o x=>c2 _ (c2 _ x)⟩
def afS{it l:ag}{i:Nat}{items}{x:aj}{Q:aj->aI->Prop}(hit:s.heap.IsTupleIter it l i)
  (aB:s.heap.IsTuple l items) (hx:items[i]?=some x)
  (iM:∀h',h'.IsTupleIter it l (i+1)->Heap.SameBut it s.heap h'->Q x {s with heap:=h'}):
  bD (bL prog w) A (k' (.ref it)) Q E s:=by
 obtain⟨o,aF,ax,hd⟩:=id hit;obtain⟨ol,Gz,_,nl,Gk⟩:=aB;unfold k';refine a8 (s9 (name:=Str.ofString "__next__") hit.typeIs BG
  (q6 BG hit.typeIs F.entry_tuple_iterator_next ?_ (F.args_tuple_iterator_next_1 _)))
 show bD _ _ (field (.ref it) 0 >>= _) _ _ s
 refine a8 (iY aF hd (x:=.ref l) rfl ?_)
 show bD _ _ (if (Value.ref l==Value.none)=true then _ else _) _ _ s
 rw[if_neg (show ¬((Value.ref l==Value.none)=true) from BF)];show bD _ _ (field (.ref it) 1 >>= _) _ _ s;refine a8 (iY aF hd (x:=.int i 0) rfl ?_);show bD _ _ (seqItems? (.ref l) >>= _) _ _ s;refine a8 (oK Gz Gk ?_);simp only[Int.toNat_natCast,hx];refine a8 (wpAny_setField aF hd (by simp) (cX ⟨x,rfl,cX (iM _ ?_ (Heap.SameBut.update ..))⟩));exact⟨_,Heap.get?_update_self _ aF (Obj.isFreed_of_fields (Obj.data_mapFields hd _)),(Obj.cls_mapFields ..).trans ax,by
  rw[Obj.data_mapFields hd];simp[hg]⟩
def P5{it l:ag}{i:Nat}{items}{Q:aj->aI->Prop}(cM:A.handled=none)
  (hit:s.heap.IsTupleIter it l i) (aB:s.heap.IsTuple l items) (hx:items[i]?=none)
  (kS:∀h' e,Heap.ExtBut it s.heap h'->(∃o,h'.get? e=some o/\o.cls=.type "StopIteration")->E (.ref e) {s with heap:=h'}):
  bD (bL prog w) A (k' (.ref it)) Q E s:=by
 obtain⟨o,aF,ax,hd⟩:=id hit;obtain⟨ol,Gz,_,nl,Gk⟩:=aB;unfold k';refine a8 (s9 (name:=Str.ofString "__next__") hit.typeIs BG
  (q6 BG hit.typeIs F.entry_tuple_iterator_next ?_ (F.args_tuple_iterator_next_1 _)))
 show bD _ _ (field (.ref it) 0 >>= _) _ _ s
 refine a8 (iY aF hd (x:=.ref l) rfl ?_)
 show bD _ _ (if (Value.ref l==Value.none)=true then _ else _) _ _ s
 rw[if_neg (show ¬((Value.ref l==Value.none)=true) from BF)];show bD _ _ (field (.ref it) 1 >>= _) _ _ s;refine a8 (iY aF hd (x:=.int i 0) rfl ?_);show bD _ _ (seqItems? (.ref l) >>= _) _ _ s;refine a8 (oK Gz Gk ?_);simp only[Int.toNat_natCast,hx];refine a8 (wpAny_rule (a8 (wpAny_setField aF hd (by simp) ?_)));show bD _ _ (newExc (.type "StopIteration") [] >>= _) _ _ _;refine a8 ?_;simp only[newExc,newTuple];refine a8 (wpAny_newObj_type ?_ (by size_fits));refine a8 (m:=firstArgMember _ _) (wpAny_of_eq (a:=Value.none) (by first|rfl|(simp only[firstArgMember];rfl)) ?_);refine wpAny_newObj_type ?_ (by size_fits);simp only[raiseNew];refine a8 (wpAny_handled ?_)
 first|rw[show A.in1.handled=none from cM]|rw[cM]
 refine a8 (cX (wpAny_throw ?_))
 exact kS _ _ (((Heap.SameBut.update ..).extBut.push _).push _) ⟨_,gY _ rfl,rfl⟩
end
def vg{prog:cA}{w:bZ}{A:cH}(cM:A.handled=none)(it l:ag)(ng:l≠it)(items:Array aj):
  Draws prog w A it [it,l] items.size (λi v=>items[i]?=some v) (λi h=>h.IsTupleIter it l i/\h.IsTuple l items) where
 live:=λ_ _ st=>let ⟨o,aF,_⟩:=st.1;⟨o,aF⟩
 frame:=λ_ _ _ st aL=>⟨st.1.at λo e=>aL it (by simp) o e,let ⟨o,aF,r⟩:=st.2;⟨o,aL l (by simp) o aF,r⟩⟩
 item:=λi s Q E bc st iM=>by
  refine afS st.1 st.2 (x:=items[i]) (by simp[bc]) λh' ZM om=>?_
  exact iM _ h' s.toks (by simp[bc]) ⟨ZM,st.2.extBut om.extBut ng⟩ om
 done:=λs Q E st kS=>P5 cM st.1 st.2 (by simp) kS
noncomputable def DM(K:a9)(a:ag):lx:=
 ⟨λi H=>∃xs x,c3 K H a xs/\xs[i]?=some x,λi H x aa=>∃p v,H p=none/\x=.ref p/\aa=upd H p (.tup [.int i,v])/\∀xs,c3 K H a xs->xs[i]?=some v,λi H=>∃xs,c3 K H a xs/\xs.length<=i⟩
def ahj{P:cA}{w:bZ}{K:a9}{es:List bj}{k:Nat}{pos:Pos}(a it e:ag)(ng:e≠it)(Zm:a≠it)(Zk:a≠e):Turn P w K (.Tuple es k pos) (DM K a) [e,it] e (λi h=>(∃old,IsEnum h e it i old)/\h.IsTupleIter it a i) where
 mem:=by simp
 obj:=λi h st b U=>by
  obtain⟨⟨old,he⟩,o,aF,ax,hd⟩:=st;rcases cm.mp U with rfl|U
  ·exact⟨_,he,λv z=>by
    have jG:Data.fields _=Data.cell v:=z;cases jG⟩
  ·have aD:b=it:=by simpa using U
   subst aD;exact⟨o,aF,λv z=>by rw[hd] at z;cases z⟩
 keep:=λi h h' st bV=>by
  obtain⟨⟨old,he⟩,ks⟩:=st;exact⟨⟨old,bV e (by simp) _ he⟩,ks.at λo q=>bV it (by simp) o q⟩
 item:=by
  intro X gu hw ib ax i ai s σ H E I hf st bl;subst gu hw ib;obtain⟨xs,x,a3,hx⟩:=bl;obtain⟨its,bP,p,aq⟩:=I.tuple a3;obtain⟨u,bM,c9⟩:=bP.get hx;obtain⟨⟨old,he⟩,hit⟩:=st;obtain⟨f0,f1,f2,hL,f4,hv⟩:=hf e (by simp);obtain⟨ob,g1,g2,g3,se,ml⟩:=hf it (by simp);have bc:i<its.toArray.size:=by
   rw[eQ];exact (hW.mp bM).1
  have ZZ:e∉[it,a]:=by
   intro z;rcases cm.mp z with z|z
   ·exact ng z
   ·have jG:e=a:=by simpa using z
    exact Zk jG.symm
  refine wpAny_pyNext_enum_itemD (vg (A:=X.A.in1) (I.ok.hd ax) it a Zm its.toArray) he ⟨hit,p⟩ bc ng ZZ λk_ h' tk Zg aF om ek hsz aL=>?_
  have ex:k_=u:=by
   have:=Zg;rw[<- Array.getElem?_toList] at this;rw[show (its.toArray).toList=its from rfl,bM] at this;exact (ef this).symm
  subst ex;refine⟨_,rfl,wpAny_letOwnedTupleGo_enum aF λak pJ hN=>?_⟩;have Ol:e<s.heap.objs.size:=cY he;have ZK:it<s.heap.objs.size:=by obtain⟨o,km,_⟩:=hit;exact cY km
  have k2:∀b o,b≠e->b≠it->s.heap.get? b=some o->ak.get? b=some o:=λb o af bB q=>hN.extBut b o af (aL b o af bB q);have fr:H s.heap.objs.size=none:=I.bO.fresh (el _);have F_:ak.get? s.heap.objs.size=some {cls:=.type "tuple",data:=.seq #[.int i tk,k_]}:=hN.extBut _ _ (hX Ol) ek;have qI:∀b o,H b=some o->b≠e/\b≠it:=λb o q=>⟨λz=>(by rw[z,f0] at q;cases q),λz=>(by rw[z,ob] at q;cases q)⟩;have wJ:eA X.prog X.w (upd H s.heap.objs.size (.tup [.int i,x])) ak:=by
   intro b o q;by_cases U:b=s.heap.objs.size
   ·subst U;rw[er] at q;cases q;exact⟨by show 2<=cG;decide,[.int i tk,k_],.cons ⟨tk,rfl⟩ (.cons c9 .nil),⟨_,F_,rfl,_,rfl⟩⟩
   ·rw[cQ U] at q;refine (I.bO b o q).jA (λc v dc d8=>k2 c v ?_ ?_ d8) (λc d8=>?_) λc ys d8=>?_
    ·rcases dc with rfl|dc
     ·exact (qI _ _ q).1
     ·exact (qI _ _ dc).1
    ·rcases dc with rfl|dc
     ·exact (qI _ _ q).2
     ·exact (qI _ _ dc).2
    ·rw[cQ (iH d8 fr)];exact d8
    ·rw[cQ (iH d8 fr)];exact d8
  have cB:bh.Inv X ai σ (upd H s.heap.objs.size (.tup [.int i,x])) {s with heap:=ak,toks:=tk+1}:=by
   refine I.step (g':=s.gens) (d':=s.drawn) (ch:=[e,it]) (λb U=>?_) (λb o _ _ dc q _=>k2 b o (λz=>dc (by simp[z])) (λz=>dc (by simp[z])) q) (λb o _ _ dc q _=>⟨o.slots,k2 b o (λz=>dc (by simp[z])) (λz=>dc (by simp[z])) q⟩) (λb o _ q n=>?_)
    (λb o dc q=>⟨o,k2 b o (λz=>dc (by simp[z])) (λz=>dc (by simp[z])) q⟩) (λb ys q=>by rw[cQ (iH q fr)];exact q) (λb o u q=>by rw[cQ (iH q fr)];exact q) (λb ps q=>⟨#[],by rw[cQ (iH q fr),q];simp⟩) (λm hm=>?_) wJ I.bare
   ·rcases cm.mp U with rfl|U
    ·exact⟨hL,f1,f4,hv⟩
    ·have:b=it:=by simpa using U
     subst this;exact⟨g3,g1,se,ml⟩
   ·rw[cQ (eR (cY q))];exact n
   ·obtain⟨o,ht,ep,km,r⟩:=hm;exact⟨o,ht,ep,k2 _ o (Ne.symm f1) (Ne.symm g1) km,r⟩
  refine⟨.ref s.heap.objs.size,_,cB,rfl,⟨s.heap.objs.size,x,fr,rfl,rfl,λys a7=>by rw[I.Bz a7 a3];exact hx⟩,⟨⟨_,by simpa using pJ⟩,om.1.at λo q=>(hN.2 it ng.symm).trans q⟩,λb U=>?_⟩
  rcases cm.mp U with rfl|U
  ·rw[cQ (eR Ol)];exact f0
  ·have:b=it:=by simpa using U
   subst this;rw[cQ (eR ZK)];exact ob
 done:=by
  intro X gu hw ib ax i ai s σ H E I hf st bl;subst gu hw ib;obtain⟨xs,a3,hx⟩:=bl;obtain⟨its,bP,p,aq⟩:=I.tuple a3;obtain⟨⟨old,he⟩,hit⟩:=st;obtain⟨ob,g1,g2,g3,se,ml⟩:=hf it (by simp);have ek:s.TypeIs (.ref e) "enumerate":=⟨_,he,rfl⟩;have aB:=bP.length;unfold pyNext;refine a8 (wpAny_attempt (s9 (name:=Str.ofString "__next__") ek F.slot_enumerate_next
   (q6 F.slot_enumerate_next ek F.entry_enumerate_next ?_ (F.args_enumerate_next_1 _))))
  show bD _ _ (field (.ref e) 2 >>= _) _ _ _
  refine a8 (iY he rfl (x:=.ref it) rfl ?_)
  refine a8 (P5 (I.ok.hd ax) hit (show s.heap.IsTuple a its.toArray from p) (by simp;omega) λh' x ZE kV=>?_)
  obtain⟨o,aF,dc⟩:=kV;refine a8 (wpAny_isInstance (T:="StopIteration") (b:=true) ⟨o,aF,dc⟩ isSubtype_stop ?_);exact cX ⟨rfl,I.turned (t':=s.toks) (λb o U q=>ZE b o U q) ob g1 g3 se ml⟩
 self:=λ_ _ _ _ _ st h=>by
  obtain⟨⟨old,he⟩,_⟩:=st;exact wpAny_pyIter_enum he h
def _u(K:a9)(cF:fS):TI:=λσ H R=>cF σ H λvs H1=>∃a xs,vs=[.ref a]/\c3 K H1 a xs/\R (DM K a) H1
section
variable {X:aV}{es:List bj}{k:Nat}{p pos fM:Pos}{a:bj}{f:bz}
def ajb{cF:fS}(bl:ei X "enumerate")(hm:X.mg "enumerate"=none)(av:f5 X [a] cF)(aA:bo [a] X.env=[(false,eval a X.env)]:=by rfl):qh X (.Tuple es k fM) (.Call (.Name "enumerate" p) [a] [] pos) (_u X.K cF):=by
 intro ai s σ H R I h;refine Call_ (tL I bl hm PyProof.Rows.boot_enumerate (uU (cN (av pos ai s σ H _ I h) λus s1 ⟨vs,H1,a_,bg,aM⟩=>?_) aA rfl));obtain⟨a,xs,rfl,a3,q⟩:=aM;cases bg with
|cons r amt=>
  cases amt
  cases r
  obtain⟨its,bP,pl,aq⟩:=a_.tuple a3;have Ob:a<s1.heap.objs.size:=by obtain⟨o,aF,_⟩:=pl;exact cY aF
  refine afJ (show s1.heap.IsTuple a its.toArray from pl) λh' he hit hsz aL=>wpAny_pyIter_enum he ?_
  refine⟨s1.heap.objs.size+1,[s1.heap.objs.size+1,s1.heap.objs.size],_,_,H1,rfl,a_.kept (t':=s1.toks) aL,ahj a s1.heap.objs.size (s1.heap.objs.size+1) (Nat.succ_ne_self _) (eR Ob) (eR (Nat.lt_succ_of_lt Ob)),⟨⟨_,he⟩,hit⟩,λb U=>?_,q⟩
  have i8:s1.heap.objs.size<=b:=by
   rcases cm.mp U with rfl|U
   ·exact gB _
   ·have:b=s1.heap.objs.size:=by simpa using U
    rw[this];exact el _
  exact a_.z4 i8 (a_.bO.fresh i8)
def ahM{K:a9}{a:ag}{aY:ag->Prop}{H1:ay}{ts:List T}{vs:List V}(au:c3 K H1 a vs)(q:bG K aY H1 ts vs):qf K (DM K a) aY H1 (enum ts) where
 go:=λi F H t aw d e=>by
  have bc:=(hW.mp e).1;simp only[enum,e1,List.length_zipIdx] at bc;obtain⟨v,af,_⟩:=q.get (iD bc);exact⟨vs,v,aw.tup _ _ au,af⟩
 nB:=λi F H t x aa aw d e y=>by
  obtain⟨p,v,aC,rfl,rfl,y⟩:=y;have bc:=(hW.mp e).1;simp only[enum,e1,List.length_zipIdx] at bc;obtain⟨iU,af,ak⟩:=(q.aw aw).get (iD bc);have bB:=y vs (aw.tup _ _ au);rw[af] at bB;cases bB;have aP:=Ext.laid (o:=.tup [.int i,v]) d aC;refine⟨F,aP,?_⟩;have bw:t=.tuple [.int i,ts[i]]:=by
   simp only[enum,la,List.getElem?_zipIdx,iD bc] at e;simpa using e.symm
  subst bw;simp only[Rep];exact⟨p,_,rfl,c3.of er,bG.cons (by simp[Rep]) (bG.cons (ak.ext aP) bG.nil)⟩
 stop:=λi F H aw aB=>⟨vs,aw.tup _ _ au,by
  simp only[enum,e1,List.length_zipIdx] at aB;rw[<- q.length];exact aB⟩
def TR(hm:X.mg "enumerate"=none)(av:cO X a f)(bl:ei X "enumerate":=by rfl)(aA:bo [a] X.env=[(false,eval a X.env)]:=by rfl)(hN:bo [a] X.env=(false,eval a X.env)::bo [] X.env:=by rfl):
  pk X (.Tuple es k fM) (.Call (.Name "enumerate" p) [a] [] pos) (mL (i3 f)):=Dp (ajb bl hm (hA av j9 hN) aA) λσ H R ⟨aE,aR,O,F,ε,ts,r,e,k⟩=>by
 simp only[mL,i3,dE,cz] at e;obtain⟨us,⟨t,bw,e⟩,rfl⟩:=e;split at e
 ·cases e
  refine⟨aE,aR,O,F,ε,_,r,bw,λv aG aa x q=>?_⟩
  simp only[Rep] at q;obtain⟨a,vs,rfl,aA,au⟩:=q;exact⟨a,vs,rfl,aA,k _ aG aa x (ahM aA au)⟩
 ·cases e
end
end
section
variable [cJ]
structure Cl(P:cA)(w:bZ)(K:a9)(mg:Str->Option aj)(base:bE)(x:Str)(k n:Nat)(d:List T->Option T):Prop where
 ex:∃bN fd ps,ez P w K mg base di k bN fd ps (spT K n d)/\mg x=some (.ref bN)/\kv K (.ref bN)=true/\Binds K fd ps []
section
variable {P:cA}{w:bZ}{K:a9}{mg:Str->Option aj}{base:bE}{x:Str}{k n:Nat}{d:List T->Option T}
theorem Cl.mono{j:Nat}(c:Cl P w K mg base x j n d)(h:j<=k):Cl P w K mg base x k n d:=by
 obtain⟨bN,fd,ps,F,r⟩:=c.ex;exact⟨bN,fd,ps,F.mono h,r⟩
def Cl.mk'{bN:ag}{fd:dV}{ps:List Str}(F:ez P w K mg base di k bN fd ps (spT K n d))(m:mg x=some (.ref bN))(aw:kv K (.ref bN)=true)(b:Binds K fd ps []):Cl P w K mg base x k n d:=⟨bN,fd,ps,F,m,aw,b⟩
end
section
variable {X:aV}{k n:Nat}{d:List T->Option T}{x:Str}{p pos:Pos}{e:bj}{es:List bj}{ar:List bz}
def il(C:Cl X.prog X.w X.K X.mg X.base x k n d)(au:cW k X.A)(av:kN X (e::es) ar)(bl:ei X x:=by rfl)(a6:ar.length=n:=by rfl)(gc:(x==("__debug__":Str))=false:=by decide)
  (he:bo (e::es) X.env=(false,eval e X.env)::bo es X.env:=by rfl) (hpl:(dM pos (bo es X.env)).any (·.1)=false:=by rfl):cO X (.Call (.Name x p) (e::es) [] pos) (b9 d ar):=by
 obtain⟨bN,fd,ps,F,m,aw,b⟩:=C.ex;exact aj7 F au bl m aw b av a6 gc he hpl
def Pd{i:Int}{t:Tok}(hm:X.mg x=some (.int i t))(bl:ei X x:=by rfl)(hd:(x==("__debug__":Str))=false:=by decide):cO X (.Name x pos) (ah (.int i)):=vR (v:=.int i) (SN (v:=.int i) bl hm ⟨t,rfl⟩ hd) λ_ _=>by simp[Rep]
noncomputable def Uh(scope sc:Scope)(N:List Str)(caps:List (Nat×Str)):Bool:=
 decide (scope.kind=.function) && scope.names.all (λy=>(decide (y.2≠.local) || decide (scope.names.lookup y.1=some .local)) && decide (y.2≠.cell) && (decide (y.2≠.free) || decide (sc.names.lookup y.1=some .cell) || decide (sc.names.lookup y.1=some .free)))
  && caps.all (λq=>decide (N[q.1]?=some q.2) && decide (scope.names.lookup q.2=some .free)) && decide ((caps.map (·.1)).Nodup)
def akC{scope sc:Scope}{own:List Str}{caps:List (Nat×Str)}(N:List Str)(Ae:X.env.scope=sc)(eB:X.N=N)(ax:X.calm=true)(h:Uh scope sc N caps=true):rN X scope own caps:=by
 simp only[Uh,gO,List.all_eq_true,decide_eq_true_eq,Bool.or_eq_true] at h;obtain⟨⟨⟨af,ak⟩,bB⟩,c1⟩:=h;refine⟨af,λy a7 aB=>?_,λy a7=>(ak y a7).1.2,λy a7 hf=>?_,λq a3=>by rw[eB];exact bB q a3,c1,ax⟩
 ·rcases (ak y a7).1.1 with z|z
  ·exact absurd aB z
  ·exact z
 ·have aL:X.env.kindOf y.1=sc.names.lookup y.1:=by rw[<- Ae];rfl
  rw[aL];rcases (ak y a7).2 with (z|z)|z
  ·exact absurd hf z
  ·exact .inl z
  ·exact .inr z
end
def l6{P:cA}{w:bZ}{K:a9}{mg:Str->Option aj}{base:bE}{x:Str}{st:Stmt}{f:ag}{fd:dV}{N ps:List Str}{k:Nat}{b:bA}(F:alX K x x st f fd)(S:cK N ps (bt st))(bd:Binds K fd ps [])(m:mg x=some (.ref f))
  (U:∀(bu:aj) (A:cH) (outer:List Env) (s:aI) (H:ay) (E:eF),cW k (A.deeper (envOfC x (bt st) s.heap.objs.size f bu)) ->
   hF (eN di P w K mg base N x (bt st) f bu A outer s H E).dv (fc st) b):Cl P w K mg base x (k+1) ps.length (d9 b N.length):=.mk' (L5 F S U) m F.aw bd
end
end D
end
section
namespace bh
open PySem PySem.Spec PyProof.Rows
section
variable {eE:Type}[DecidableEq eE]
def k9(kvs:List (eE×V))(k:eE):Option V:=(kvs.find? λdy=>decide (dy.1=k)).map (·.2)
def putK(kvs:List (eE×V))(k:eE)(v:V):List (eE×V):=
 if (kvs.any λdy=>decide (dy.1=k))=true then kvs.map (λdy=>if dy.1=k then (dy.1,v) else dy) else kvs++[(k,v)]
def Le{p:eE×V}{r:List (eE×V)}{k:eE}(e:p.1=k):k9 (p::r) k=some p.2:=by simp[k9,p1,e]
def Lf{p:eE×V}{r:List (eE×V)}{k:eE}(e:¬p.1=k):k9 (p::r) k=k9 r k:=by simp[k9,p1,e]
theorem R5(k:eE):∀kvs:List (eE×V),(kvs.any λdy=>decide (dy.1=k))=(k9 kvs k).isSome
| []=>rfl
|p::r=>by
  rw[List.any_cons];by_cases e:p.1=k
  ·simp only[Le e,decide_eq_true e,Bool.true_or,Option.isSome_some]
  ·rw[Lf e,decide_eq_false e,Bool.false_or];exact R5 k r
def QS(kvs:List (eE×V))(k:eE)(v:V):(putK kvs k v).length<=kvs.length+1:=by
 unfold putK;split
 ·rw[e1];omega
 ·rw[mD,eJ,lg];omega
def jP._x{o:Option V}{u:Option aj}(r:jP o u):o.isSome=u.isSome:=by
 cases o with
|none=>cases u with
  |none=>rfl
  |some _=>exact (show False from r).elim
|some _=>cases u with
  |none=>exact (show False from r).elim
  |some _=>rfl
def g7.val{kvs:List (eE×V)}{vs:List (eE×aj)}(r:g7 kvs vs)(k:eE):jP (k9 kvs k) (valueAt vs k):=by
 unfold g7 at r
 induction r with
|nil=>exact True.intro
| @cons p q ps lM h t b8=>
  obtain⟨af,ak⟩:=h;by_cases e:p.1=k
  ·have bS:q.1=k:=af.symm.trans e;have b:valueAt (q::lM) k=some q.2:=by simp[valueAt,p1,bS]
   rw[Le e,b];exact ak
  ·have bS:¬q.1=k:=λz=>e (af.trans z);have b:valueAt (q::lM) k=valueAt lM k:=by simp[valueAt,p1,bS]
   rw[Lf e,b];exact b8
theorem g7.any{kvs:List (eE×V)}{vs:List (eE×aj)}(r:g7 kvs vs)(k:eE):(kvs.any λdy=>decide (dy.1=k))=vs.any λdy=>decide (dy.1=k):=by
 unfold g7 at r
 induction r with
|nil=>rfl
|cons h t b8=>rw[List.any_cons,List.any_cons,b8,h.1]
def g7.Jp{kvs:List (eE×V)}{vs:List (eE×aj)}(r:g7 kvs vs)(k:eE){y:V}{u:aj}(bx:RelV y u):
  g7 (kvs.map λdy=>if dy.1=k then (dy.1,y) else dy) (vs.map λdy=>if dy.1=k then (dy.1,u) else dy):=by
 unfold g7 at r ⊢
 induction r with
|nil=>exact .nil
| @cons p q ps lM h t b8=>
  rw[dh,dh];refine .cons ?_ b8;obtain⟨af,ak⟩:=h;by_cases e:p.1=k
  ·rw[if_pos e,if_pos (af.symm.trans e)];exact⟨af,bx⟩
  ·rw[if_neg e,if_neg (λz=>e (af.trans z))];exact⟨af,ak⟩
def g7.put{kvs:List (eE×V)}{vs:List (eE×aj)}(r:g7 kvs vs)(k:eE){y:V}{u:aj}(bx:RelV y u):g7 (putK kvs k y) (stored vs k u):=by
 unfold putK stored;rw[r.any k];by_cases e:(vs.any λdy=>decide (dy.1=k))=true
 ·rw[if_pos e,if_pos e];exact r.Jp k bx
 ·rw[if_neg e,if_neg e];exact Paired.snoc r ⟨rfl,bx⟩
theorem g7.length{kvs:List (eE×V)}{vs:List (eE×aj)}(r:g7 kvs vs):kvs.length=vs.length:=Paired.length r
end
def Dx{P:cA}{w:bZ}{k:Key}{u:aj}(r:RelV (dG k) u):(hh P w).is k u=true:=by
 cases k with
|inl i=>obtain⟨t,e⟩:=(show ∃t,u=Value.int i t from r);subst e;exact QO P w i t
|inr x=>obtain⟨t,e⟩:=(show ∃t,u=Value.str x t from r);subst e;exact QN P w x t
theorem RC{P:cA}{w:bZ}:∀{bp:List Key} {us:List aj},Vals (bp.map dG) us->ItemsAre (hh P w) bp us
| [],_,r=>by rw[gZ] at r;cases r;exact .nil
|k::bp,_,r=>by
  rw[dh] at r;cases r with
  |cons h t=>exact .cons (Dx h) (RC t)
abbrev KT(H:ay):List (List Key×V)->List (List Key×ag×aj)->Prop:=Paired λp q=>p.1=q.1/\H q.2.1=some (.tup (p.1.map dG))/\RelV p.2 q.2.2
def KT.val{H:ay}{kvs:List (List Key×V)}{xs:List (List Key×ag×aj)}(r:KT H kvs xs)(k:List Key):jP (k9 kvs k) ((atKey xs k).map (·.2)):=by
 induction r with
|nil=>exact True.intro
| @cons p q ps lM h t b8=>
  obtain⟨af,_,ak⟩:=h;by_cases e:p.1=k
  ·have bS:q.1=k:=af.symm.trans e;have b:atKey (q::lM) k=some q.2:=by simp[atKey,p1,bS]
   rw[Le e,b];exact ak
  ·have bS:¬q.1=k:=λz=>e (af.trans z);have b:atKey (q::lM) k=atKey lM k:=by simp[atKey,p1,bS]
   rw[Lf e,b];exact b8
def KT.Jp{H:ay}{kvs:List (List Key×V)}{xs:List (List Key×ag×aj)}(r:KT H kvs xs)(k:List Key){y:V}{u:aj}(bx:RelV y u):
  KT H (kvs.map λdy=>if dy.1=k then (dy.1,y) else dy) (xs.map (putAt k u)):=by
 induction r with
|nil=>exact .nil
| @cons p q ps lM h t b8=>
  rw[dh,dh];refine .cons ?_ b8;obtain⟨af,ak,bB⟩:=h;unfold putAt;by_cases e:p.1=k
  ·rw[if_pos e,if_pos (af.symm.trans e)];exact⟨af,ak,bx⟩
  ·rw[if_neg e,if_neg (λz=>e (af.trans z))];exact⟨af,ak,bB⟩
def KT.put{H:ay}{kvs:List (List Key×V)}{xs:List (List Key×ag×aj)}(r:KT H kvs xs)(k:List Key){b:ag}{y:V}{u:aj}(U:H b=some (.tup (k.map dG)))(bx:RelV y u):
  KT H (putK kvs k y) (storedH xs k b u):=by
 have e:(kvs.any λdy=>decide (dy.1=k))=(atKey xs k).isSome:=by
  rw[R5,(r.val k)._x,Option.isSome_map]
 unfold putK storedH;rw[e];by_cases q:(atKey xs k).isSome=true
 ·rw[if_pos q,if_pos q];exact r.Jp k bx
 ·rw[if_neg q,if_neg q];exact Paired.snoc r ⟨rfl,U,bx⟩
def KT.keeps{H aa:ay}{kvs:List (List Key×V)}{xs:List (List Key×ag×aj)}(r:KT H kvs xs)(aX:∀b ys,H b=some (.tup ys)->aa b=some (.tup ys)):KT aa kvs xs:=
 Paired.Iw r λ_ _ z=>⟨z.1,aX _ _ z.2.1,z.2.2⟩
section
variable {P:cA}{w:bZ}{H:ay}{h:bE}{a:ag}
def T_{u:ea}(ok:eA P w H h)(e:eM H a u):hj P w H h a u:=e.ok ok
def Ml{kvs:List (Key×V)}(ok:eA P w H h)(e:eM H a (.fo kvs)):kvs.length<=cG/\(a==sysModules)=false/\∃vs,g7 kvs vs/\h.DictOf (hh P w) a vs:=
 show hj P w H h a (.fo kvs) from T_ ok e
def alh{kvs:List (Key×V)}(ok:eA P w H h)(e:H a=some (.fo kvs)):kvs.length<=cG/\(a==sysModules)=false/\∃vs,g7 kvs vs/\h.DictOf (hh P w) a vs:=Ml ok (.inl e)
def L2{bp:List Key}(ok:eA P w H h)(e:H a=some (.tup (bp.map dG))):(tupleKind (hh P w)).is h bp a:=by
 obtain⟨_,its,r,o,af,ak,n,bB⟩:=(show hj P w H h a (.tup (bp.map dG)) from ok a _ e);exact⟨o,its.toArray,n,af,ak,bB,by simpa using RC r⟩
def Mk{kvs:List (List Key×V)}(ok:eA P w H h)(e:eM H a (.me kvs)):kvs.length<=cG/\(a==sysModules)=false /\
  ∃xs,KT H kvs xs/\h.DictOfH (tupleKind (hh P w)) a xs:=by
 obtain⟨z,y,xs,r,o,es,ep,af,ak,bB,c1,gT⟩:=(show hj P w H h a (.me kvs) from T_ ok e);refine⟨z,y,xs,r,o,es,ep,af,ak,bB,c1,λx hx=>?_,gT⟩;have all:∀{l:List (List Key×V)} {m:List (List Key×ag×aj)},KT H l m->∀x∈m,(tupleKind (hh P w)).is h x.1 x.2.1:=by
  intro l m q
  induction q with
  |nil=>intro x hx;exact nomatch hx
  | @cons p q ps lM a3 t b8=>
   intro x hx;rcases cm.mp hx with e|hx
   ·subst e;exact L2 ok (by rw[<- a3.1];exact a3.2.1)
   ·exact b8 x hx
 exact all r x hx
def alg{kvs:List (List Key×V)}(ok:eA P w H h)(e:H a=some (.me kvs)):kvs.length<=cG/\(a==sysModules)=false /\
  ∃xs,KT H kvs xs/\h.DictOfH (tupleKind (hh P w)) a xs:=Mk ok (.inl e)
end
noncomputable def qd(H:ay)(a:ag)(y:V)(r:Option V):Prop:=
 (∃kvs k,eM H a (.fo kvs)/\y=dG k/\r=k9 kvs k)\/∃kvs k b,eM H a (.me kvs)/\y=.ref b/\H b=some (.tup (k.map dG))/\r=k9 kvs k
noncomputable def rO(H:ay)(a:ag)(y v:V)(aa:ay):Prop:=
 (∃kvs k,H a=some (.fo kvs)/\y=dG k/\kvs.length<cG/\aa=upd H a (.fo (putK kvs k v))) \/
 ∃kvs k b,H a=some (.me kvs)/\y=.ref b/\H b=some (.tup (k.map dG))/\kvs.length<cG/\aa=upd H a (.me (putK kvs k v))
theorem qd.k{H:ay}{a:ag}{kvs:List (Key×V)}{k:Key}(e:H a=some (.fo kvs)):qd H a (dG k) (k9 kvs k):=.inl ⟨kvs,k,.inl e,rfl,rfl⟩
theorem rO.k{H:ay}{a:ag}{kvs:List (Key×V)}{k:Key}{v:V}(e:H a=some (.fo kvs))(aB:kvs.length<cG):rO H a (dG k) v (upd H a (.fo (putK kvs k v))):=.inl ⟨kvs,k,e,rfl,aB,rfl⟩
section
variable {X:aV}{ai:List (ag×Obj)}{σ:St}{H:ay}{s:aI}{a:ag}{y v:V}{u r:aj}{o:Option V}{A:cH}{E:aj->aI->Prop}
def Inv.big(I:Inv X ai σ H s):sysModules<s.heap.objs.size:=by
 have h:iX<s.heap.objs.size:=(I.mod.glob.keeps I.gp).lt;exact Nat.lt_trans (by decide) h
def RJ{Q:aj->aI->Prop}(bM:A.units+1<cLine)(I:Inv X ai σ H s)(g:qd H a y (some v))(bx:RelV y u)(h:∀gA s',Inv X ai σ H s'->RelV v gA->Q gA s'):
  bD (bL X.prog X.w) A (getItem (.ref a) u) Q E s:=by
 rcases g with ⟨kvs,k,e,fy,l⟩|⟨kvs,k,b,e,fy,dZ,l⟩
 ·subst fy;obtain⟨z,hd,vs,rel,dd⟩:=Ml I.bO e;obtain⟨gA,hw,j1⟩:=jP.some_of (v:=v) (o:=valueAt vs k) (by rw[l];exact rel.val k);exact wpAny_getItem_of (Dx bx) dd.mapOf hw (h gA _ (I.tok _) j1)
 ·subst fy;cases (show u=Value.ref b from bx);obtain⟨z,hd,xs,rel,dd⟩:=Mk I.bO e;obtain⟨gA,hw,j1⟩:=jP.some_of (v:=v) (o:=(atKey xs k).map (·.2)) (by rw[l];exact rel.val k);obtain⟨p,aC,Z7⟩:=dE.mp hw;refine wpAny_getItem_heap (tupleKind_room_in1 bM) (L2 I.bO dZ) dd aC ?_;rw[Z7];exact h gA _ (I.tok _) j1
def S3{h':bE}{t':Nat}{dD:ea}(I:Inv X ai σ H s)(kX:v7 (H a))(aA:Heap.SameBut a s.heap h')(he:∃q,h'.get? a=some q)(new:hj X.prog X.w (upd H a dD) h' a dD):
  Inv X ai σ (upd H a dD) {s with heap:=h',toks:=t'}:=
 I.write (x:=a) (e:=a) kX (.inl rfl) (λb q U z=>(aA.2 b U).trans z) he new
def akB{P:cA}{w:bZ}{aa:ay}{h':bE}{kvs:List (Key×V)}{vs:List (Key×aj)}(z:kvs.length<=cG)(hd:(a==sysModules)=false)(rel:g7 kvs vs)(dd:h'.DictOf (hh P w) a vs):
  hj P w aa h' a (.fo kvs):=⟨z,hd,vs,rel,dd⟩
def RI{aa:ay}{Q:Unit->aI->Prop}(bM:A.units+1<cLine)(I:Inv X ai σ H s)(g:rO H a y v aa)(bx:RelV y u)(bP:RelV v r)(h:∀s',Inv X ai σ aa s'->Q () s'):
  bD (bL X.prog X.w) A (setItem (.ref a) u r) Q E s:=by
 rcases g with ⟨kvs,k,e,fy,l,wg⟩|⟨kvs,k,b,e,fy,dZ,l,wg⟩
 ·subst fy wg;obtain⟨z,hd,vs,rel,dd⟩:=alh I.bO e;have aq:vs.length<=cG:=by rw[<- rel.length];exact z
  have aB:(putK kvs k v).length<=cG:=by have:=QS kvs k v;omega
  refine wpAny_setItem_pairs (hsz:=aq) (Dx bx) dd λh' zl aA=>h _ ?_
  have he:∃q,h'.get? a=some q:=let ⟨q,_,_,a3,_⟩:=zl;⟨q,a3⟩;exact S3 I (by rw[e];exact True.intro) aA he (akB aB hd (rel.put k bP) zl)
 ·subst fy wg;cases (show u=Value.ref b from bx);obtain⟨z,hd,xs,rel,dd⟩:=alg I.bO e;have aq:xs.length<=cG:=by rw[<- Paired.length rel];exact z
  have aB:(putK kvs k v).length<=cG:=by have:=QS kvs k v;omega
  refine wpAny_setItem_heap (hsz:=aq) (tupleKind_room_in1 bM) (L2 I.bO dZ) dd λh' zl aA=>h _ ?_
  obtain⟨q,es,ep,a3,ak,bB,c1,_,gT⟩:=zl;refine S3 I (by rw[e];exact True.intro) aA ⟨q,a3⟩ ⟨aB,hd,_,(rel.put k dZ bP).keeps λc ys gH=>?_,q,es,ep,a3,ak,bB,c1,gT⟩;rw[cQ (ak_ gH e (λz=>nomatch z))];exact gH
end
def DS(i:bj):Prop:=∀d0 eP,subscripted i false d0 eP=operate [d0,eP] (getItem d0 eP)
def aiY{prog:cA}{w:bZ}{A:cH}{E:aj->aI->Prop}{s:aI}{env:Env}{value slice:bj}{pos:Pos}{T id:String}{Q:aj->aI->Prop}
  (aB:typeLookup (.type T) "__getitem__"=pure (some (.builtin id))) (aA:DS slice)
  (h:bD (bL prog w) A (eval value env) (λo cU=>bD (bL prog w) A (eval slice env) (λi jc=>jc.TypeIs o T/\bD (bL prog w) A (getItem o i) Q E jc) E cU) E s):
  bD (bL prog w) A (eval (.Subscript value slice pos) env) Q E s:=by
 refine Subscript_ (e2 h (λo cU fj=>e2 fj (λi jc js=>?_) λ_ _ x=>x) λ_ _ x=>x)
 obtain⟨ek,js⟩:=js;unfold subscriptTail;refine a8 ?_;rw[getitemInPython_of_ne ek.not_modules];refine a8 (wpAny_specialOf ek aB ?_);have fin:bD (bL prog w) A (subscripted slice false o i) (λr oC=>bD (bL prog w) A (letTemporaryGo value o r >>= λ_=>pure r) Q E oC) E jc:=by
  rw[aA o i];exact wpAny_operating (e2 js (λr oC ic=>a8 (wpAny_letTemporaryGo (cX ic))) λ_ _ x=>x)
 first
  |exact cX (a8 fin)
  |exact a8 (cX (a8 fin))
  |exact a8 fin
def agO{X:aV}{ai:List (ag×Obj)}{σ:St}{H:ay}{s:aI}{a:ag}{y:V}{o:Option V}(I:Inv X ai σ H s)(g:qd H a y o):s.TypeIs (.ref a) "dict":=by
 rcases g with ⟨kvs,k,e,_,_⟩|⟨kvs,k,b,e,_,_,_⟩
 ·obtain⟨_,_,vs,_,dd⟩:=Ml I.bO e;exact dd.typeIs
 ·obtain⟨_,_,xs,_,dd⟩:=Mk I.bO e;exact dd.typeIs
def akQ(my ty:TE):TE:=λσ H Q=>my σ H λx H1=>ty σ H1 λy bk=>∃a v,x=.ref a/\qd bk a y (some v)/\Q v bk
def akV(my ty iA:TE):fT:=λD σ H=>iA σ H λv H1=>my σ H1 λx bk=>ty σ bk λy gk=>∃a kM,x=.ref a/\rO gk a y v kM/\D.bK σ kM
noncomputable def akW(my ty iA:TE)(jz:V->V->ay->dj->Prop):fT:=λD σ H=>my σ H λx H1=>ty σ H1 λy bk=>∃a v,x=.ref a/\qd bk a y (some v) /\
 iA σ bk λxy gk=>jz v xy gk λz kM=>∃kb,rO kM a y z kb/\D.bK σ kb
section
variable {X:aV}{o i e value:bj}{pos pos' JK:Pos}{my ty iA:TE}
def ajf(bM:X.A.units+1<cLine)(aF:bQ X o my)(bc:bQ X i ty)(aA:DS i):bQ X (.Subscript o i pos) (akQ my ty):=by
 intro ai s σ H Q I h;refine aiY PySem.F.slot_dict_getitem.lookup aA (cN (aF ai s σ H _ I h) λu s1 ⟨x,H1,a_,aW,aM⟩=>cN (bc ai s1 σ H1 _ a_ aM) λeP s2 ⟨y,bk,cB,bx,a,v,ex,g,bb⟩=>?_);subst ex;obtain rfl:u=Value.ref a:=aW;exact⟨agO cB g,RJ bM cB g bx λgA s3 eL j1=>⟨v,bk,eL,j1,bb⟩⟩
def ai_(bM:X.A.units+1<cLine)(aF:bQ X o my)(bc:bQ X i ty)(br:bQ X value iA)(aA:jh value (some (.Subscript o i pos')) pos.line X.env=pure false):
  hG X (.Assign [.Subscript o i pos'] value pos) (akV my ty iA):=by
 intro ai s σ H D I h;refine wpAny_Assign_Subscript (cN (br ai s σ H _ I h) λr s1 ⟨v,H1,a_,bP,aM⟩=>cN (aF ai s1 σ H1 _ a_ aM) λu s2 ⟨x,bk,cB,aW,bb⟩=>cN (bc ai s2 σ bk _ cB bb) λeP s3 ⟨y,gk,eL,bx,a,kM,ex,g,dg⟩=>?_) aA;subst ex;obtain rfl:u=Value.ref a:=aW;exact RI bM eL g bx bP λs4 mZ=>⟨σ,kM,mZ,dg⟩
def ai'{op:Operator}{jz:V->V->ay->dj->Prop}(bM:X.A.units+1<cLine)(aF:bQ X o my)(bc:bQ X i ty)(br:bQ X value iA)(GA:DL X op jz)
  (av:∀d0 eP new,augStore i d0 eP new=(do holding [new,d0,eP] (setItem d0 eP new);release [new,d0,eP] [];pure .next)):hG X (.AugAssign (.Subscript o i JK) op value pos) (akW my ty iA jz):=by
 intro ai s σ H D I h;refine wpAny_AugAssign_SubscriptAny (cN (aF ai s σ H _ I h) λu s1 ⟨x,H1,a_,aW,aM⟩=>cN (bc ai s1 σ H1 _ a_ aM) λeP s2 ⟨y,bk,cB,bx,a,v,ex,g,bb⟩=>?_) av;subst ex;obtain rfl:u=Value.ref a:=aW;refine RJ bM cB g bx λgA s3 eL j1=>cN (br ai s3 σ bk _ eL bb) λxv s4 ⟨xy,gk,mZ,adW,dg⟩=>cN (GA ai s4 σ gk v xy gA xv _ mZ j1 adW dg) λBC s5 ⟨z,kM,rR,Jr,kb,ml,jx⟩=>?_;exact RI bM rR ml bx Jr λgf v3=>⟨σ,kb,v3,jx⟩
end
end bh
end
section
namespace D
open PySem PySem.Spec PyProof.Rows bh
variable [cJ]
section
variable {K:a9}{F:ag->Prop}{H:ay}
theorem d7.get{k:D.Key}{t:T}:∀{kvs:List (D.Key×T)} {vs:List (D.Key×V)},d7 K F H kvs vs->D.getD kvs k=some t->∃v,k9 vs k=some v/\Rep K F H t v
| [],vs,h,e=>by cases e
|p::r,vs,h,e=>by
  obtain⟨v,w,rfl,q,z⟩:=h;simp only[D.getD,k9,p1] at e ⊢;by_cases bS:p.1=k
  ·simp[bS] at e ⊢;subst e;exact q
  ·simp[bS] at e ⊢;have:=d7.get (k:=k) (t:=t) z (by simpa [D.getD] using e);simpa [k9] using this
theorem d7.length:∀{kvs:List (D.Key×T)} {vs:List (D.Key×V)},d7 K F H kvs vs->kvs.length=vs.length
| [],vs,h=>by
  have:vs=[]:=h;subst this;rfl
|p::r,vs,h=>by
  obtain⟨v,w,rfl,q,z⟩:=h;simp[d7.length z]
theorem d7.append:∀{kvs us:List (D.Key×T)} {vs ws:List (D.Key×V)},d7 K F H kvs vs->d7 K F H us ws->d7 K F H (kvs++us) (vs++ws)
| [],us,vs,ws,h,r=>by
  have:vs=[]:=h;subst this;exact r
|p::q,us,vs,ws,h,r=>by
  obtain⟨v,w,rfl,d8,z⟩:=h;exact⟨v,w++ws,rfl,d8,d7.append z r⟩
theorem d7.Iy{k:D.Key}{t:T}{v:V}:∀{kvs:List (D.Key×T)} {vs:List (D.Key×V)},d7 K F H kvs vs->Rep K F H t v->d7 K F H (kvs.map λp=>if p.1=k then (k,t) else p) (vs.map λdy=>if dy.1=k then (dy.1,v) else dy)
| [],vs,h,q=>by
  have:vs=[]:=h;subst this;rfl
|p::r,vs,h,q=>by
  obtain⟨iU,w,rfl,d8,z⟩:=h;simp only[dh];by_cases e:p.1=k
  ·rw[if_pos e,if_pos e];exact⟨v,_,by rw[e],q,d7.Iy z q⟩
  ·rw[if_neg e,if_neg e];exact⟨iU,_,rfl,d8,d7.Iy z q⟩
def d7.put{k:D.Key}{t:T}{v:V}{kvs:List (D.Key×T)}{vs:List (D.Key×V)}(h:d7 K F H kvs vs)(q:Rep K F H t v):d7 K F H (putD kvs k t) (putK vs k v):=by
 have av:(kvs.any λp=>decide (p.1=k))=(vs.any λdy=>decide (dy.1=k)):=by
  clear q
  induction kvs generalizing vs with
  |nil=>
   have:vs=[]:=h;subst this;rfl
  |cons p r b8=>
   obtain⟨v,w,rfl,d8,z⟩:=h;simp only[List.any_cons,b8 z]
 unfold putD putK;rw[av];split
 ·exact d7.Iy h q
 ·exact h.append ⟨v,[],rfl,q,rfl⟩
def amj{t:T}{k:D.Key}{v:V}{O:ag->Prop}(e:keyOf t=some k)(r:fR K O F H t v):v=dG k:=by
 unfold keyOf at e;split at e
 ·cases e
  exact r.int
 ·cases e
  exact r.str
 ·cases e
end
end D
end
section
namespace D
open PySem
variable [cJ]
end D
end
section
namespace D
open PySem PySem.Spec PyProof.Rows bh
section
variable [cJ]
theorem Tz{α β:Type}{R:α->β->Prop}:∀{l:List α} {bp:List β},Paired R l bp->l.length=bp.length
|_,_,.nil=>rfl
|_,_,.cons a b=>by simp[Tz b]
section
variable {prog:cA}{w:bZ}{K:Type}[DecidableEq K](knd:PySem.KeyKind prog w K)
variable {knd}{A:cH}{E:aj->aI->Prop}{s:aI}
def tV(knd:PySem.KeyKind prog w K)(v:aj)(k:K):Prop:=knd.is k v=true/\v.scannable=true
end
end
section
variable [cJ]
section
variable {prog:cA}{w:bZ}{K:Type}[DecidableEq K]{knd:PySem.KeyKind prog w K}{A:cH}{E:aj->aI->Prop}{s:aI}{a:ag}{bp:List K}
def agQ{R:List aj->aI->Prop}{T:String}{r d:ag}{n:Nat}{P:Nat->aj->Prop}{rS:bE->Prop}(W:PySem.W.KdlSrc prog w T r d n P rS)(cM:A.handled=none)(bO:rS s.heap)(a6:n<=cG)
  (h:∀(h':bE) (tk:Nat) (acc:Array aj),(∀b o,s.heap.get? b=some o->h'.get? b=some o)->s.heap.objs.size<=h'.objs.size->ItemsOf P acc n->R acc.toList {s with heap:=h',toks:=tk}):
  bD (bL prog w) A (collect (.ref r)) R E s:=by
 have fJ:=W.there _ bO;unfold collect;refine a8 (wpAny_runValue (u1 entry_proto_collect' ?_));rw[uW PySem.F.plain_proto_collect _];show bD _ A.in1 (newList [] >>= λl=>again (.builtin "list.__iadd__" ⟨[l,.ref r],[]⟩)) _ _ s;refine a8 (wpAny_newObj_type ?_);refine cX ⟨plainId_quiet PySem.F.plain_list_iadd _,u1 entry_list_iadd' ?_⟩;rw[uW PySem.F.plain_list_iadd _];have Zi:(s.heap.push {cls:=.type "list",data:=.seq ([]:List aj).toArray}).get? s.heap.objs.size=some {cls:=.type "list",data:=.seq #[]}:=gY _ rfl;show bD _ A.in1 (Builtin.List.listExtendWith (.ref s.heap.objs.size) (.ref r) (.ref s.heap.objs.size)) _ _ _;have key:=PySem.W.kdl_extend (A:=A) (s:={s with heap:=s.heap.push {cls:=.type "list",data:=.seq ([]:List aj).toArray} })
  (R:=λ(q:Result) (s':aI)=>∃(h':bE) (tk:Nat) (qj:Array aj) (bW:Nat),q=.ok (.ret (.ref s.heap.objs.size))/\s'={s with heap:=h',toks:=tk} /\
   (∀b o,s.heap.get? b=some o->h'.get? b=some o)/\h'.get? s.heap.objs.size=some {cls:=.type "list",dict:=none,data:=.seq qj bW,slots:=#[]}/\ItemsOf P qj n)
  W cM (W.keep _ _ bO λb _ o e=>c2 _ e) s.heap.objs.size (hX fJ.1) (hX fJ.2) (.ref s.heap.objs.size) 0 Zi
  (λh' tk qj bW aL sj lF=>⟨h',tk,qj,bW,rfl,rfl,λb o e=>aL b o (eR (cY e)) (c2 _ e),sj,lF⟩) a6
 refine e2 key (λfin s' x=>?_) λe s' x=>?_
 ·cases fin with
  |done f=>
   obtain⟨h',tk,qj,bW,e,rfl,aL,sj,lF⟩:=x;cases e;show bD _ A (load s.heap.objs.size >>= _) _ _ _;refine a8 (wpAny_load sj ?_);exact cX (h h' tk qj aL (Nat.le_of_lt (cY sj)) lF)
  |again c₁=>
   refine⟨x.1,al6 x.2 λq jc y=>?_⟩
   obtain⟨h',tk,qj,bW,rfl,rfl,aL,sj,lF⟩:=y;show bD _ A (load s.heap.objs.size >>= _) _ _ _;refine a8 (wpAny_load sj ?_);exact cX (h h' tk qj aL (Nat.le_of_lt (cY sj)) lF)
 ·obtain⟨_,_,_,_,bS,_⟩:=x;cases bS
end
end
section
variable [cJ]
theorem Kk{α:Type}{r:α->α->Prop}(MS:∀a b,r a b->r b a->a=b):∀{l m:List α},l.Perm m->l.Pairwise r->m.Pairwise r->l=m
| [],m,p,_,_=>(List.Perm.nil_eq p)
|a::l,m,p,af,ak=>by
  cases m with
  |nil=>exact absurd p.length_eq (by simp)
  |cons b m=>
   have Zj:a=b:=by
    have av:a∈b::m:=p.mem_iff.mp (by simp);have U:b∈a::l:=p.mem_iff.mpr (by simp);rcases cm.mp av with q|q
    ·exact q
    ·rcases cm.mp U with z|z
     ·exact z.symm
     ·exact MS a b ((lV.mp af).1 b z) ((lV.mp ak).1 a q)
   subst Zj;rw[Kk MS (List.perm_cons a |>.mp p) (lV.mp af).2 (lV.mp ak).2]
theorem insI_perm(x:Int):∀l:List Int,(insI x l).Perm (x::l)
| []=>.rfl
|y::ys=>by
  unfold insI;split
  ·exact .rfl
  ·exact ((insI_perm x ys).cons y).trans (.swap _ _ _)
theorem sortI_perm:∀l:List Int,(sortI l).Perm l
| []=>.rfl
|x::xs=>(insI_perm x _).trans ((sortI_perm xs).cons x)
theorem SW(x:Int):∀{l:List Int},l.Pairwise (·<=·)->(insI x l).Pairwise (·<=·)
| [],_=>by simp[insI]
|y::ys,h=>by
  unfold insI;have h':=lV.mp h;split
  next q=>exact lV.mpr ⟨λz aq=>by
   rcases cm.mp aq with rfl|aq
   ·exact q
   ·exact Int.le_trans q (h'.1 z aq),h⟩
  next q=>exact lV.mpr ⟨λz aq=>by
   rcases cm.mp ((insI_perm x ys).mem_iff.mp aq) with rfl|aq
   ·omega
   ·exact h'.1 z aq,SW x h'.2⟩
theorem Lh:∀l:List Int,(sortI l).Pairwise (·<=·)
| []=>.nil
|x::xs=>SW x (Lh xs)
def Sb{l m:List Int}(p:l.Perm m)(h:l.Pairwise (·<=·)):l=sortI m:=Kk (λa b af ak=>Int.le_antisymm af ak) (p.trans (sortI_perm m).symm) h (Lh m)
def agE{l m:List Int}(p:l.Perm m):sortI l=sortI m:=Sb ((sortI_perm l).trans p) (Lh l)
abbrev iR(x y:Str):Prop:=strLt y x=false
def ah6(x y:Str):strLt x y=ltCps x.cps.toList y.cps.toList:=(ltCps_eq _ _).symm
def ahq{x y:Str}(h:strLt x y=true):iR x y:=by
 unfold iR strLt at *;simp only[decide_eq_true_eq,decide_eq_false_iff_not] at *;exact List.lt_asymm h
def Rm{x y z:Str}(af:iR x y)(ak:iR y z):iR x z:=by
 unfold iR strLt at *;simp only[decide_eq_false_iff_not] at *;exact List.not_lt.mpr (List.le_trans (List.not_lt.mp af) (List.not_lt.mp ak))
def aif{x y:Str}(af:iR x y)(ak:iR y x):x=y:=by
 unfold iR strLt at *;simp only[decide_eq_false_iff_not] at *;have e:x.cps.toList=y.cps.toList:=List.le_antisymm (List.not_lt.mp af) (List.not_lt.mp ak);cases x;cases y;simp only[Array.toList_inj] at e;exact congrArg _ e
theorem K'(x:Str):∀l:List Str,(sD x l).Perm (x::l)
| []=>.rfl
|y::ys=>by
  unfold sD;split
  ·exact .rfl
  ·exact ((K' x ys).cons y).trans (.swap _ _ _)
theorem vi:∀l:List Str,(jJ l).Perm l
| []=>.rfl
|x::xs=>(K' x _).trans ((vi xs).cons x)
theorem SV(x:Str):∀{l:List Str},l.Pairwise iR->(sD x l).Pairwise iR
| [],_=>by simp[sD]
|y::ys,h=>by
  unfold sD;have h':=lV.mp h;split
  next q=>
   have d8:iR x y:=by simpa [iR] using q
   exact lV.mpr ⟨λz aq=>by
    rcases cm.mp aq with rfl|aq
    ·exact d8
    ·exact Rm d8 (h'.1 z aq),h⟩
  next q=>
   have d8:strLt y x=true:=by simpa using q
   exact lV.mpr ⟨λz aq=>by
    rcases cm.mp ((K' x ys).mem_iff.mp aq) with rfl|aq
    ·exact ahq d8
    ·exact h'.1 z aq,SV x h'.2⟩
theorem Lg:∀l:List Str,(jJ l).Pairwise iR
| []=>.nil
|x::xs=>SV x (Lg xs)
def Sa{l m:List Str}(p:l.Perm m)(h:l.Pairwise iR):l=jJ m:=Kk (λa b af ak=>aif af ak) (p.trans (vi m).symm) h (Lg m)
def agD{l m:List Str}(p:l.Perm m):jJ l=jJ m:=Sa ((vi l).trans p) (Lg l)
theorem zev:∀(l:List Str) (p:Str),risingS p l=true->(p::l).Pairwise iR
| [],p,_=>by simp
|x::r,p,h=>by
  simp only[risingS,gO,Bool.not_eq_true'] at h;have b8:=zev r x h.2;have OA:iR p x:=by
   unfold iR;rw[ah6];exact h.1
  refine lV.mpr ⟨λz aq=>?_,b8⟩
  rcases cm.mp aq with rfl|aq
  ·exact OA
  ·exact Rm OA ((lV.mp b8).1 z aq)
def agY{l:List Str}(h:sortedS l=true):l.Pairwise iR:=by
 cases l with
|nil=>exact .nil
|cons x r=>exact zev r x h
end
section
variable [cJ]
section
variable {prog:cA}{w:bZ}{A:cH}{E:aj->aI->Prop}{s:aI}
inductive v':List aj->List aj->Prop where
|I8 {vs out:List aj} {ns:List Int}:IntsAre vs ns->IntsAre out (sortI ns)->v' vs out
|I9 {vs out:List aj} {ss:List Str}:StrsAre vs ss->StrsAre out (jJ ss)->v' vs out
def Lr(vs:List aj):Prop:=vs.length<64/\((∃ns,IntsAre vs ns)\/∃ss,StrsAre vs ss)
def sortedHeap_at{h:bE}{a:ag}{vs:List aj}{n:Nat}{out:Array aj}(aF:h.get? a=some (seqObj "list" vs.toArray n)):
  (∃e,(sortedHeap h a vs out).get? a=some (seqObj "list" out e))/\∀b o,b≠a->h.get? b=some o->(sortedHeap h a vs out).get? b=some o:=by
 have fJ:=cY aF;unfold sortedHeap;refine⟨?_,λb o U e=>?_⟩
 ·have af:=get?_update_seq aF (λ_=>(#[]:Array aj));have ak:=c2 (seqObj "tuple" vs.toArray 0) af;have bB:=c2 (seqObj "list" #[] 0) ak;exact⟨_,get?_update_seq bB (λ_=>out)⟩
 ·rw[BH _ _ (Ne.symm U)];exact c2 _ (c2 _ ((BH _ _ (Ne.symm U)).trans e))
def ahm{a:ag}{vs:List aj}{n:Nat}{P:Fin->aI->Prop}(aF:s.heap.get? a=some (seqObj "list" vs.toArray n))(aA:Lr vs)
  (h:∀out:Array aj,v' vs out.toList->P (.done (.ret .none)) {s with heap:=sortedHeap s.heap a vs out}):bD (bL prog w) A (Builtin.«list.sort» ⟨[.ref a],[]⟩) P E s:=by
 obtain⟨N_,⟨ns,qu⟩|⟨ss,e9⟩⟩:=aA
 ·refine list_sort_tree aF qu N_ λout I4 a1 a2 ho=>h out (.I8 qu ?_)
  rw[<- Sb a2 ho];exact a1
 ·refine list_sort_treeK strKind_oneLt aF e9.keysOf (λalU alV rest e=>keyKind_strs (by rw[<- e];exact e9)) N_ λkr aC aA=>?_
  obtain⟨Jx,af,ak,bB⟩:=sorted_out_str e9 aC aA;refine h _ (.I9 e9 ?_);rw[<- Sa ak (agY bB)];exact af
def agC{r:ag}{C:List aj->Prop}{Q:aj->aI->Prop}
  (ZA:∀(E':aj->aI->Prop) (R:List aj->aI->Prop),(∀h' tk d vs,(∀b o,s.heap.get? b=some o->h'.get? b=some o)->s.heap.objs.size<=h'.objs.size->C vs->R vs {s with heap:=h',toks:=tk,drawn:=d})->bD (bL prog w) A.in1 (collect (.ref r)) R E' s)
  (F4:∀vs,C vs->Lr vs)
  (h:∀h' tk d D e vs out,C vs->v' vs out->(∀b o,s.heap.get? b=some o->h'.get? b=some o)->s.heap.objs.size<=D->h'.get? D=some (seqObj "list" out.toArray e)->Q (.ref D) {s with heap:=h',toks:=tk,drawn:=d}):
  bD (bL prog w) A (call (.builtin "sorted") [.ref r]) Q E s:=by
 refine Calls.call_function_entry kind_sorted plain_sorted entry_sorted (args_sorted1 _) ?_
 unfold Builtin.«sorted»;refine a8 (m:=checkCount "sorted" 1 1 _) (cX ?_);refine a8 (ZA _ _ λh' tk d vs aw hsz c=>?_);have aA:=F4 vs c;have aq:vs.length<=cG:=by
  have:=aA.1;rw[jg];omega
 refine a8 (wpAny_newList ?_ aq)
 have wI:(h'.push (seqObj "list" vs.toArray 0)).get? h'.objs.size=some (seqObj "list" vs.toArray 0):=gY _ rfl;refine a8 (q5 (q6 slot_list_sort ⟨_,wI,rfl⟩ entry_list_sort (ahm wI aA λout uI=>⟨_,rfl,?_⟩) (args_list_sort _)));obtain⟨⟨e,he⟩,aL⟩:=sortedHeap_at (out:=out) wI;refine cX ⟨_,rfl,?_⟩;exact h _ tk d h'.objs.size e vs out.toList c uI (λb o q=>aL b o (eR (cY (aw b o q))) (c2 _ (aw b o q))) hsz he
end
section
variable {X:aV}{ai:List (ag×Obj)}{σ:bh.St}{H:ay}{s:aI}
def K9{a:ag}{o:ea}{t':Nat}{d':Drawn}{h':bE}(I:Inv X ai σ H s)(k:∀b u,s.heap.get? b=some u->h'.get? b=some u)(aC:s.heap.objs.size<=a)(new:hj X.prog X.w (upd H a o) h' a o):
  Inv X ai σ (upd H a o) {s with heap:=h',toks:=t',drawn:=d'}:=
 I.call (ch:=[]) (g':=s.gens) (f9.laid k aC (I.bO.fresh aC)) (I.bO.laid k aC new) I.bare λ_ z=>nomatch z
theorem K_:∀{us:List aj} {ns:List Int},IntsAre us ns->Vals (ns.map V.int) us
|_,_,.nil=>.nil
|_,_,.cons n t r=>.cons ⟨t,rfl⟩ (K_ r)
theorem KZ:∀{us:List aj} {ss:List Str},StrsAre us ss->Vals (ss.map V.str) us
|_,_,.nil=>.nil
|_,_,.cons n t r=>.cons ⟨t,rfl⟩ (KZ r)
theorem KY:∀{us:List aj} {bp:List bh.Key},Vals (bp.map dG) us->Paired (tV (hh X.prog X.w)) us bp
| [],[],_=>.nil
|_,.inl i::bp,.cons r rs=>by
  obtain⟨t,rfl⟩:=r;exact .cons ⟨QO _ _ i t,rfl⟩ (KY rs)
|_,.inr x::bp,.cons r rs=>by
  obtain⟨t,rfl⟩:=r;exact .cons ⟨QN _ _ x t,rfl⟩ (KY rs)
theorem K8:∀{us:List aj} {bp:List bh.Key} {ns:List Int},Paired (tV (hh X.prog X.w)) us bp->bp=ns.map Sum.inl->IntsAre us ns
|_,_,[],.nil,_=>.nil
|_,_,n::ns,.cons a b,e=>by
  cases e
  have a1:=a.1;rw[Ra] at a1;rcases nE a1 with ⟨i,t,aD,rfl⟩|⟨x,t,aD,rfl⟩
  ·cases aD
   exact .cons _ t (K8 b rfl)
  ·cases aD
theorem K6:∀{us:List aj} {bp:List bh.Key} {ss:List Str},Paired (tV (hh X.prog X.w)) us bp->bp=ss.map Sum.inr->StrsAre us ss
|_,_,[],.nil,_=>.nil
|_,_,n::ns,.cons a b,e=>by
  cases e
  have a1:=a.1;rw[Ra] at a1;rcases nE a1 with ⟨i,t,aD,rfl⟩|⟨x,t,aD,rfl⟩
  ·cases aD
  ·cases aD
   exact .cons _ t (K6 b rfl)
def Cb{α β:Type}(f:α->β):∀{l:List α} {m:List β},m.Perm (l.map f)->∃ot:List α,m=ot.map f/\ot.Perm l:=by
 intro l m p;generalize hx:l.map f=lf at p
 induction p generalizing l with
|nil=>
  rw[List.map_eq_nil_iff] at hx;subst hx;exact⟨[],rfl,.rfl⟩
|cons x _ b8=>
  cases l with
  |nil=>cases hx
  |cons a r=>
   simp only[dh,List.cons.injEq] at hx;obtain⟨ot,e,q⟩:=b8 hx.2;exact⟨a::ot,by rw[dh,hx.1,e],q.cons a⟩
|swap x y r=>
  match l,hx with
  |a::b::cq,hx=>
   simp only[dh,List.cons.injEq] at hx;exact⟨b::a::cq,by rw[dh,dh,hx.1,hx.2.1,hx.2.2],.swap _ _ _⟩
|trans _ _ b0 b1=>
  obtain⟨b2,aD,aM⟩:=b1 hx;obtain⟨b4,aO,bb⟩:=b0 aD.symm;exact⟨b4,aO,bb.trans aM⟩
def Dt(bp:List bh.Key)(ys:List V):Prop:=(∃ns:List Int,bp=ns.map Sum.inl/\ys=(sortI ns).map V.int)\/∃ss:List Str,bp=ss.map Sum.inr/\ys=(jJ ss).map V.str
def ah_{vs out:List aj}{bp w1:List bh.Key}{ys:List V}(br:Paired (tV (hh X.prog X.w)) vs w1)(aC:w1.Perm bp)(uI:v' vs out)(aL:Dt bp ys):Vals ys out:=by
 rcases aL with ⟨ns,rfl,rfl⟩|⟨ss,rfl,rfl⟩
 ·obtain⟨I4,rfl,pK⟩:=Cb Sum.inl aC;have qu:=K8 br rfl;cases uI with
  |I8 a b=>
   rename_i ms
   rw[<- agE pK,show I4=ms from ?_]
   ·exact K_ b
   ·rw[<- IntsAre.numsOf qu,<- IntsAre.numsOf a]
  |I9 a b=>
   cases a with
   |nil=>
    cases qu
    have:ns=[]:=List.Perm.eq_nil pK.symm;subst this;exact KZ b
   |cons x t _=>cases qu
 ·obtain⟨Jx,rfl,pK⟩:=Cb Sum.inr aC;have e9:=K6 br rfl;cases uI with
  |I9 a b=>
   rename_i ms
   rw[<- agD pK,show Jx=ms from ?_]
   ·exact KZ b
   ·rw[<- StrsAre.strs e9,<- StrsAre.strs a]
  |I8 a b=>
   cases a with
   |nil=>
    cases e9
    have:ss=[]:=List.Perm.eq_nil pK.symm;subst this;exact K_ b
   |cons x t _=>cases e9
def agd{vs:List aj}{bp w1:List bh.Key}{ys:List V}(aq:bp.length<64)(br:Paired (tV (hh X.prog X.w)) vs w1)(aC:w1.Perm bp)(aL:Dt bp ys):Lr vs:=by
 refine⟨by rw[Tz br,aC.length_eq];exact aq,?_⟩
 rcases aL with ⟨ns,rfl,_⟩|⟨ss,rfl,_⟩
 ·obtain⟨I4,rfl,_⟩:=Cb Sum.inl aC;exact .inl ⟨_,K8 br rfl⟩
 ·obtain⟨Jx,rfl,_⟩:=Cb Sum.inr aC;exact .inr ⟨_,K6 br rfl⟩
def ahn{bp:List bh.Key}{ys:List V}(h:Dt bp ys):ys.length=bp.length:=by
 rcases h with ⟨ns,rfl,rfl⟩|⟨ss,rfl,rfl⟩
 ·simp[(sortI_perm ns).length_eq]
 ·simp[(vi ss).length_eq]
theorem SQ:∀{kvs:List (bh.Key×V)} {vs:List (bh.Key×aj)},g7 kvs vs->kvs.map (·.1)=vs.map (·.1)
|_,_,.nil=>rfl
|_,_,.cons a b=>by simp[a.1,SQ b]
def agx(ax:X.calm=true):lq X (.builtin "sorted") (λxs H Q=>∃p bp ys,xs=[.ref p]/\gP X.K H p (bp.map dG)/\bp.length<64/\Dt bp ys/\∀l,H l=none->Q (.ref l) (upd H l (.lst ys))):=by
 intro ai s σ H xs us Q I r h;obtain⟨p,bp,ys,rfl,a3,aq,aL,q⟩:=h;obtain⟨u,rfl,aW⟩:=vals1 r;cases aW;obtain⟨its,cq,pl,pL⟩:=I.list a3;have hlen:=cq.length;rw[e1] at hlen;have hit:Paired (tV (hh X.prog X.w)) its bp:=KY (by simpa using cq);refine agC (C:=λus=>us=its) (λE' R si=>collect_list pl.isList (si _ s.toks s.drawn its (λb o e=>?_) ?_ rfl) (by rw[jg];omega)) (λus bM=>by subst bM;exact agd aq hit .rfl aL) λh' tk d D e us out bM uI aw kk he=>?_
 ·exact (BH _ _ (hX (cY e))).trans (c2 _ e)
 ·rw[Heap.size_update,ky];exact gB _
 ·subst bM;exact⟨.ref D,_,K9 I (o:=.lst ys) aw kk ⟨by rw[ahn aL,jg];omega,out,e,ah_ hit .rfl uI aL,he⟩,rfl,q _ (I.bO.fresh kk)⟩
end
end
section
variable [cJ]
theorem K0:∀{ts:List T} {ss:List Str},strsOf ts=some ss->ts=ss.map .str
| [],ns,e=>by
  cases e
  rfl
|t::ts,ns,e=>by
  unfold strsOf at e;split at e
  ·rename_i h
   cases h
  ·rename_i h
   cases h
   simp only[dE] at e;obtain⟨r,aD,rfl⟩:=e;rw[K0 aD];rfl
  ·cases e
section
variable {K:a9}{F:ag->Prop}{H:ay}
theorem Rn:∀(ns:List Int),bG K F H (ns.map .int) (ns.map V.int)
| []=>bG.nil
|n::ns=>bG.cons (by simp[Rep]) (Rn ns)
theorem K2:∀(ns:List Str),bG K F H (ns.map .str) (ns.map V.str)
| []=>bG.nil
|n::ns=>bG.cons (by simp[Rep]) (K2 ns)
theorem KO:∀{ns:List Str} {vs:List V},bG K F H (ns.map .str) vs->vs=ns.map V.str
| [],vs,h=>by simpa [bG] using h
|n::ns,vs,h=>by
  simp only[dh,bG,Rep] at h;obtain⟨v,r,rfl,rfl,z⟩:=h;rw[KO z];rfl
end
end
section
variable [cJ]
section
variable {X:aV}{a b e:bj}{es rest:List bj}{f g:bz}{ar:List bz}{p fM pos mv:Pos}
def Ts{op:BoolOp}(h:cO X a f):cO X (.BoolOp op [a] pos) f:=Tv h
def akZ{op:BoolOp}(h:cO X a f):cO X (.BoolOp op [a] pos) f:=Tv h
def Ua(av:cO X a f)(U:cO X (.BoolOp .And (b::rest) pos) g):cO X (.BoolOp .And (a::b::rest) pos) (qk f g):=d5 (aki av U) λσ H Q ⟨aE,aR,O,F,ε,t,r,e,k⟩=>by
 simp only[qk,cz] at e;obtain⟨x,ex,e⟩:=e;refine⟨aE,aR,O,F,ε,x,r,ex,λv aY H1 aP aW=>?_⟩;split at e
 ·simp only[Rep] at aW;refine⟨true,aW,?_⟩;rw[if_pos rfl];exact⟨aE,aR,O,aY,ε,t,r.ext aP,e,λv aG aa b6 q=>k v aG aa (aP.trans b6) q⟩
 ·cases e
  simp only[Rep] at aW;refine⟨false,aW,?_⟩;rw[if_neg (by decide)];exact k _ aY H1 aP (by simp[Rep])
 ·cases e
def adN(av:cO X a f)(U:cO X (.BoolOp .Or (b::rest) pos) g):cO X (.BoolOp .Or (a::b::rest) pos) (xb f g):=d5 (ak6 av U) λσ H Q ⟨aE,aR,O,F,ε,t,r,e,k⟩=>by
 simp only[xb,cz] at e;obtain⟨x,ex,e⟩:=e;refine⟨aE,aR,O,F,ε,x,r,ex,λv aY H1 aP aW=>?_⟩;split at e
 ·simp only[Rep] at aW;refine⟨false,aW,?_⟩;rw[if_neg (by decide)];exact⟨aE,aR,O,aY,ε,t,r.ext aP,e,λv aG aa b6 q=>k v aG aa (aP.trans b6) q⟩
 ·cases e
  simp only[Rep] at aW;refine⟨true,aW,?_⟩;rw[if_pos rfl];exact k _ aY H1 aP (by simp[Rep])
 ·cases e
end
end
end D
end
section
namespace D
open PySem PySem.W PyProof.Rows
structure VR(n:Nat)(lt:Nat->Nat->Bool):Prop where
 alp:∀i j,lt i j=true->lt j i=false
 trans:∀i j k,lt i j=true->lt j k=true->lt i k=true
 alS:∀i j,i<n->j<n->i≠j->lt i j=true\/lt j i=true
def pn(lt:Nat->Nat->Bool)(p:Array Nat)(m:Nat):Prop:=∀i j,i<j->j<m->lt (p.getD i 0) (p.getD j 0)=true
def dF(lt:Nat->Nat->Bool)(p:Array Nat)(m:Nat):Prop:=∀i j,i<j->j<m->lt (p.getD j 0) (p.getD i 0)=true
section
variable {n:Nat}{lt:Nat->Nat->Bool}(O:VR n lt)
include O
end
end D
end
section
namespace D
open PySem
variable [cJ]
end D
end
section
namespace D
open PySem PySem.Spec PyProof.Rows bh
section
variable [cJ]
def RH:entryFor table "dict.update.loop"=some Builtin.«dict.update.loop»:=entryFor_of_tree (by kernel_rfl)
def CN:plainId "dict.update.loop"=true:=by decide +kernel
section
variable {prog:cA}{w:bZ}{K:Type}[DecidableEq K]{knd:PySem.KeyKind prog w K}{A:cH}
def pair_items{E:aj->aI->Prop}{s:aI}{p:ag}{o:Obj}{n:Nat}{xs:Array aj}{Q:List aj->aI->Prop}(af:s.heap.get? p=some o)(ak:o.cls=.type "tuple")(bB:o.data=.seq xs n)(h:Q xs.toList s):bD (bL prog w) A (Builtin.Dict.pairItems (.ref p)) Q E s:=by
 obtain⟨c,t_,dat,dK⟩:=o;simp only at ak bB;subst ak bB;obtain⟨aC,g,d,tk,os⟩:=s;have ek:(⟨aC,g,d,tk,os⟩:aI).TypeIs (.ref p) "tuple":=⟨_,af,rfl⟩;unfold Builtin.Dict.pairItems
 repeat (any_goals (first|assumption|wp_step))
def stored_new{kvs:List (K×aj)}{k:K}{v:aj}(h:k∉kvs.map (·.1)):stored kvs k v=kvs++[(k,v)]:=by
 unfold stored;rw[if_neg];intro q;obtain⟨x,hx,e⟩:=List.any_eq_true.mp q;exact h (c7.mpr ⟨x,hx,by simpa using e⟩)
variable {R:Result->aI->Prop}{I:ag}{cE wr:List ag}{G:Array GenState->Array GenState->Prop}{St:Nat->aI->Prop}{items:Array aj}
variable {E:aj->aI->Prop}{s:aI}
end
end
section
variable [cJ]
mutual
noncomputable def ig:T->T->Option Bool
|.int a,.int b=>some (decide (a<b))
|.tuple xs,.tuple ys=>sH xs ys
|_,_=>none
noncomputable def sH:List T->List T->Option Bool
| [],[]=>some false
| [],_::_=>some true
|_::_,[]=>some false
|x::xs,y::ys=>if je x y then sH xs ys else ig x y
end
noncomputable def MI(A:cH)(s:aI)(y x:aj)(b:Bool):Prop:=
 ∀(prog:cA) (w:bZ) (E:aj->aI->Prop) (Q:aj->aI->Prop),Q (.bool b) s->bD (bL prog w) A (richCompare .Lt y x) Q E s
inductive pd(A:cH)(s:aI)(fin:Bool):List (aj×aj)->Bool->Prop
|nil:pd A s fin [] fin
|eq {y x:aj} {r:List (aj×aj)} {b:Bool}:SeqAt.EqAt A s y x true->pd A s fin r b->pd A s fin ((y,x)::r) b
|lt {y x:aj} {r:List (aj×aj)} {b:Bool}:SeqAt.EqAt A s y x false->MI A s y x b->pd A s fin ((y,x)::r) b
section
open PySem.SeqAt
open PySem.AutoSeq1 (wpAny_loadPart')
open PySem.MeetsSeq PySem.MeetsSeq2 PySem.MeetsSeq3
def agj(l b:ag)(items pN:Array aj)(n gd:Nat)(dd mf:Option ag)(dK hS:Array (Option aj))(z:Bool):
  Meets (Builtin.«tuple.__lt__» ⟨[.ref l,.ref b],[]⟩)
   (λA R s=>s.heap.get? l=some {cls:=.type "tuple",dict:=dd,data:=.seq items n,slots:=dK}/\s.heap.get? b=some {cls:=.type "tuple",dict:=mf,data:=.seq pN gd,slots:=hS} /\
    pd A.in1 s (decide (items.size<pN.size)) (items.toList.zip pN.toList) z/\R (.ok (.ret (.bool z))) s):=
 .of_wp λprog w A R s h=>by
  obtain⟨aC,g,d,tk,os⟩:=s;obtain⟨aB,U,bl,h⟩:=h;have f2:=AutoSeq1.sub_tuple_tuple
  wp_walk using wpAny_loadPart' aB,wpAny_loadPart' U,wpAny_forIn_list _ (λrest b s'=>b.1=none/\s'=⟨aC,g,d,tk,os⟩/\pd A.in1 ⟨aC,g,d,tk,os⟩ (decide (items.size<pN.size)) rest z) _
  case turn=>
   rintro⟨y,x⟩ rest b s' ⟨i8,rfl,jr⟩;cases jr with
   |eq he jr=>
    refine a8 (he prog w _ _ ?_)
    wp_walk
    exact⟨rfl,rfl,jr⟩
   |lt he fJ=>
    refine a8 (he prog w _ _ ?_)
    have GF:=fJ prog w
    wp_walk using GF
    exact⟨_,rfl,h⟩
  case fin=>
   rintro⟨cf,ct⟩ s' ⟨i8,rfl,jr⟩;simp only at i8;subst i8;cases jr
   wp_walk
   exact⟨_,rfl,by simpa [Builtin.Tuple.tupleCompareSizes] using h⟩
  case h=>
   exact⟨rfl,rfl,bl⟩
mutual
theorem aiB:∀(pB db:T) (A:cH) (s:aI) (a b:aj) (as bs:List ag) (r:Bool),Reads s.heap a pB as->Reads s.heap b db bs->pB.canLay0=true->db.canLay0=true->A.units+min pB.depth db.depth<cLine->ig pB db=some r->MI A s a b r
|.int i,.int j,A,s,_,_,_,_,r,.int _ t,.int _ u,_,_,_,e=>by
  unfold ig at e;cases e;exact λprog w E Q q=>(PyProof.Rows.lt_int q:bD (bL prog w) A (iF .Lt (.int i t) (.int j u)) Q E s)
|.tuple xs,.tuple ys,A,s,_,_,_,_,r,.tuple (a:=l) (o:=o) (vs:=vs) (n:=n) af ak bB c1,.tuple (a:=ot) (o:=o') (vs:=fs) (n:=w5) k1 k2 k3 lI,av,U,bM,e=>by
  unfold ig at e;simp only[PyData.canLay0] at av U;simp only[lb] at bM;have jr:=good_reads xs ys A.in1 s vs.toList fs.toList _ _ r c1 lI av U (room_in bM) e;obtain⟨cls,dd,data,dK⟩:=o;obtain⟨Fy,mf,data2,hS⟩:=o';simp only at ak bB k2 k3;subst ak bB k2 k3;rw[uX,uX] at jr;exact λprog w E Q q=>richCompare_meets_room (op:=.Lt) ⟨_,af,rfl⟩ ⟨_,k1,rfl⟩ PySem.F.slot_tuple_lt PySem.F.entry_tuple_lt (PySem.F.args_tuple_lt_2 _ _) (agj l ot vs fs n w5 dd mf dK hS r)
   ⟨af,k1,jr,show Value.bool r≠Value.notImplemented/\Q (.bool r) s from ⟨(λx=>nomatch x),q⟩⟩ (by omega)
|.none,_,_,_,_,_,_,_,_,_,_,_,_,_,e=>by simp[ig] at e
|.bool _,_,_,_,_,_,_,_,_,_,_,_,_,_,e=>by simp[ig] at e
|.str _,_,_,_,_,_,_,_,_,_,_,_,_,_,e=>by simp[ig] at e
|.list _,_,_,_,_,_,_,_,_,_,_,_,_,_,e=>by simp[ig] at e
|.dict _,_,_,_,_,_,_,_,_,_,_,_,_,_,e=>by simp[ig] at e
|.int _,.none,_,_,_,_,_,_,_,_,_,_,_,_,e=>by simp[ig] at e
|.int _,.bool _,_,_,_,_,_,_,_,_,_,_,_,_,e=>by simp[ig] at e
|.int _,.str _,_,_,_,_,_,_,_,_,_,_,_,_,e=>by simp[ig] at e
|.int _,.list _,_,_,_,_,_,_,_,_,_,_,_,_,e=>by simp[ig] at e
|.int _,.dict _,_,_,_,_,_,_,_,_,_,_,_,_,e=>by simp[ig] at e
|.int _,.tuple _,_,_,_,_,_,_,_,_,_,_,_,_,e=>by simp[ig] at e
|.tuple _,.none,_,_,_,_,_,_,_,_,_,_,_,_,e=>by simp[ig] at e
|.tuple _,.bool _,_,_,_,_,_,_,_,_,_,_,_,_,e=>by simp[ig] at e
|.tuple _,.str _,_,_,_,_,_,_,_,_,_,_,_,_,e=>by simp[ig] at e
|.tuple _,.list _,_,_,_,_,_,_,_,_,_,_,_,_,e=>by simp[ig] at e
|.tuple _,.dict _,_,_,_,_,_,_,_,_,_,_,_,_,e=>by simp[ig] at e
|.tuple _,.int _,_,_,_,_,_,_,_,_,_,_,_,_,e=>by simp[ig] at e
theorem good_reads:∀(xs ys:List T) (A:cH) (s:aI) (vs ws:List aj) (as bs:List ag) (r:Bool),ReadsAll s.heap vs xs as->ReadsAll s.heap ws ys bs->j5 xs=true->j5 ys=true->A.units+min (j4 xs) (j4 ys)<cLine->sH xs ys=some r->pd A s (decide (vs.length<ws.length)) (vs.zip ws) r
| [],[],A,s,_,_,_,_,r,.nil,.nil,_,_,_,e=>by
  unfold sH at e;cases e;exact .nil
| [],_::_,A,s,_,_,_,_,r,.nil,.cons _ _,_,_,_,e=>by
  unfold sH at e;cases e;exact pd.nil
|_::_,[],A,s,_,_,_,_,r,.cons _ _,.nil,_,_,_,e=>by
  unfold sH at e;cases e;exact pd.nil
|x::xs,y::ys,A,s,_,_,_,_,r,.cons bg b5,.cons aM bb,av,U,bM,e=>by
  simp only[j5,gO] at av U;simp only[j4] at bM;unfold sH at e;have he:=eqAt_reads x y A s _ _ _ _ bg aM av.1 U.1 (room_head bM);split at e
  next h=>
   rw[h] at he;have b8:=good_reads xs ys A s _ _ _ _ r b5 bb av.2 U.2 (room_tail bM) e;rw[q2];simp only[eJ,Nat.add_lt_add_iff_right];exact .eq he b8
  next h=>
   rw[Bool.not_eq_true] at h;rw[h] at he;rw[q2];exact .lt he (aiB x y A s _ _ _ _ r bg aM av.1 U.1 (room_head bM) e)
end
end
end
end D
end
section
namespace D
open PySem
inductive mR where
|v (f:bz)|o (i:Nat)
abbrev g6:=Ev->Option (T×Ev)
abbrev ck:=Ev->Option aJ
def A9(i:Nat)(ε:Ev):Option aJ:=match ε[i]? with
|some (some (.obj m c ar))=>some (.obj m c ar)
|_=>none
noncomputable def al2:List mR->Ev->Option (List aJ)
| [],_=>some []
|.v f::as,ε=>(f ε).bind λt=>(al2 as ε).map λss=>.ae t::ss
|.o i::as,ε=>(A9 i ε).bind λs=>(al2 as ε).map λss=>s::ss
def uH:aJ->aJ
|.obj _ c ar=>.obj .cI c ar
|s=>s
def dm(c i:Nat)(ε:Ev):Option (gm×List aJ):=match ε[i]? with
|some (some (.obj m bW ar))=>if bW=c then some (m,ar) else none
|_=>none
def fld(c i j:Nat):bz:=λε=>(dm c i ε).bind λo=>match o.2[j]? with
|some (.ae t)=>some t
|some (.own ts)=>some (.list ts)
|_=>none
def e8(c i j:Nat):bz:=λε=>(dm c i ε).bind λo=>match o.2[j]? with
|some (.ae t)=>some t
|_=>none
def nc(c i j:Nat):Ev->Option (List (Key×T)):=λε=>(dm c i ε).bind λo=>match o.2[j]? with
|some (.hp kvs)=>some kvs
|_=>none
def kQ(c i j:Nat):Ev->Option (List T):=λε=>(dm c i ε).bind λo=>match o.2[j]? with
|some (.own ts)=>some ts
|_=>none
def m'(c i j:Nat)(k:bz):bz:=λε=>(k ε).bind λt=>(keyOf t).bind λk=>(nc c i j ε).bind λkvs=>getD kvs k
def yS(c i j:Nat):bz:=λε=>(nc c i j ε).map λkvs=>.tuple (kvs.map (·.2))
noncomputable def gy(c i j:Nat)(s:aJ)(ε:Ev):Option Ev:=(dm c i ε).bind λo=>if o.1=.cI then none else
 if j<o.2.length then some (ε.set i (some (.obj o.1 c (o.2.set j s)))) else if j=o.2.length then some (ε.set i (some (.obj o.1 c (o.2++[s])))) else none
def eG(c i j:Nat)(f:bz):bA:=λε=>(f ε).bind λt=>(gy c i j (.ae t) ε).map .bK
def jL(c i j:Nat)(f:bz):bA:=λε=>(f ε).bind λt=>match t with
|.list ts=>(gy c i j (.own ts) ε).map .bK
|_=>none
def qa:T->T->Option Int
|.int i,.int j=>some (i+j)
|_,_=>none
def pw(c i j:Nat)(f:bz):bA:=λε=>(e8 c i j ε).bind λx=>(f ε).bind λy=>(qa x y).bind λz=>(gy c i j (.ae (.int z)) ε).map .bK
def lA(c i j:Nat)(f:bz):bA:=λε=>(f ε).bind λt=>(kQ c i j ε).bind λts=>if ts.length<big then (gy c i j (.own (ts++[t])) ε).map .bK else none
noncomputable def Bh(c i j:Nat)(f:bz):bA:=λε=>(f ε).bind λt=>(kQ c i j ε).bind λts=>match t,strsOf ts with
|.str x,some ss=>if x∈ss then (gy c i j (.own ((ss.erase x).map .str)) ε).map .bK else none
|_,_=>none
def vK:T->Option T
|.tuple xs=>some (.list xs)
|.list xs=>some (.list xs)
|_=>none
def CW:T->Option T
|.list xs=>if xs.length<64 then (strsOf xs).map λss=>.list ((jJ ss).map .str) else none
|_=>none
def uF(c i j:Nat):bA:=λε=>(kQ c i j ε).bind λts=>(ts.getLast?).bind λ_=>(gy c i j (.own ts.dropLast) ε).map .bK
noncomputable def rA(c i j:Nat)(k v:bz):bA:=λε=>(v ε).bind λv=>(k ε).bind λt=>(keyOf t).bind λk=>(nc c i j ε).bind λkvs=>if kvs.length<big then (gy c i j (.hp (putD kvs k v)) ε).map .bK else none
noncomputable def rG(c i j:Nat)(k v:bz):bA:=λε=>(k ε).bind λt=>(keyOf t).bind λk=>(nc c i j ε).bind λkvs=>(getD kvs k).bind λx=>(v ε).bind λy=>(qa x y).bind λz=>if kvs.length<big then (gy c i j (.hp (putD kvs k (.int z))) ε).map .bK else none
def rI:List T->List T->Option (List (Key×T))
| [],_=>some []
|_::_,[]=>some []
|k::bp,v::vs=>(keyOf k).bind λk=>(rI bp vs).map λr=>(k,v)::r
noncomputable def vV(c i j:Nat)(bp vs:bz):bA:=λε=>(bp ε).bind λtk=>(vs ε).bind λiA=>match tk,iA with
|.list lk,.tuple lv=>(rI lk lv).bind λkvs=>if (kvs.map (·.1)).Nodup/\kvs.length<=1000/\(∀t∈lk,(keyOf t).isSome=true) then (gy c i j (.hp kvs) ε).map .bK else none
|_,_=>none
def Dz(f g:al1):al1:=λε=>(f ε).bind λa=>(g ε).map λb=>List.zipWith (λx y=>.tuple [x,y]) a b
def hE(d:List aJ->Option T)(as:List mR):bz:=λε=>(al2 as ε).bind λss=>d (ss.map uH)
def eu(c:Nat)(d:List aJ->Option T)(i:Nat)(ar:List bz):bz:=λε=>(dm c i ε).bind λo=>(args ar ε).bind λts=>d (.obj .cI c o.2::ts.map .ae)
noncomputable def cZ(c:Nat)(d:List aJ->Option (T×List aJ))(i:Nat)(ar:List bz):g6:=λε=>(dm c i ε).bind λo=>if o.1=.cI then none else (args ar ε).bind λts=>
 (d (.obj .b_ c o.2::ts.map .ae)).map λr=>(r.1,ε.set i (some (.obj o.1 c r.2)))
noncomputable def o6(c:Nat)(d:List aJ->Option (T×List aJ))(ar:List bz)(i:Nat)(fA:List bz):g6:=λε=>(dm c i ε).bind λo=>if o.1=.cI then none else (args ar ε).bind λts=>(args fA ε).bind λus=>
 (d (ts.map .ae++.obj .b_ c o.2::us.map .ae)).map λr=>(r.1,ε.set i (some (.obj o.1 c r.2)))
noncomputable def ox(c:Nat)(d:List aJ->Option (T×List aJ))(ar:List bz):ck:=λε=>(args ar ε).bind λts=>(d (.obj .b_ c []::ts.map .ae)).bind λr=>match r.1 with
|.none=>some (.obj .own c r.2)
|_=>none
def rF(d:List T->Option aJ)(ar:List bz):ck:=λε=>(args ar ε).bind d
def tJ(c:Nat):aJ->Option (List aJ)
|.obj .own bW ar=>if bW=c then some ar else none
|_=>none
def A_(c:Nat)(d:List aJ->Option T)(o:ck)(ar:List bz):bz:=λε=>(o ε).bind λs=>(tJ c s).bind λos=>(args ar ε).bind λts=>d (.obj .cI c os::ts.map .ae)
def vz(c j:Nat)(o:ck):bz:=λε=>(o ε).bind λs=>(tJ c s).bind λos=>match os[j]? with
|some (.own ts)=>some (.list ts)
|_=>none
def dP(f:g6):bA:=λε=>(f ε).map λr=>.bK r.2
def ik(f:g6):bA:=λε=>(f ε).map λr=>.ij r.1 r.2
def qR(f:bz):bA:=λε=>(f ε).map λt=>.ij t ε
def n4(i:Nat)(f:g6):bA:=λε=>(f ε).map λr=>.bK (r.2.set i (some (.ae r.1)))
def n3(i:Nat)(f:ck):bA:=λε=>(f ε).map λs=>.bK (ε.set i (some s))
def xh(i:Nat):bA:=λε=>match ε[i]? with
|some (some (.obj .own c ar))=>some (.kZ (.obj .own c ar))
|_=>none
def p_:bA:=λε=>some (.ij .none ε)
def never:bA:=λ_=>none
def jI(n:Nat)(ss:List aJ):Ev:=ss.map some++alZ (n - ss.length) none
def gx(b:bA)(n:Nat)(ss:List aJ):Option T:=(b (jI n ss)).bind λo=>match o with
|.d4 t=>some t
|.bK _=>some .none
|_=>none
def ji(c p:Nat)(ε:Ev):Option (List aJ):=match ε[p]? with
|some (some (.obj .b_ bW ar))=>if bW=c then some ar else none
|_=>none
noncomputable def runM(c p:Nat)(b:bA)(n:Nat)(ss:List aJ):Option (T×List aJ):=(b (jI n ss)).bind λo=>match o with
|.ij t ε=>(ji c p ε).map λar=>(t,ar)
|.bK ε=>(ji c p ε).map λar=>(.none,ar)
|_=>none
def Bc:aJ->Option aJ
|.obj .own c ar=>some (.obj .own c ar)
|_=>none
def sT(b:bA)(n:Nat)(ts:List T):Option aJ:=(b ((ts.map λt=>some (.ae t))++alZ (n - ts.length) none)).bind λo=>match o with
|.kZ s=>Bc s
|_=>none
end D
end
section
namespace D
open PySem PySem.Spec PyProof.Rows bh
section
variable [cJ]
section
variable {K:a9}{F aG O:ag->Prop}{H aa:ay}{E:gj}
theorem f7.length:∀{ar:List aJ} {vs:List V},f7 K F H ar vs->ar.length=vs.length
| [],vs,r=>by
  have e:vs=[]:=r;rw[e];rfl
|s::ss,vs,r=>by
  obtain⟨v,z,rfl,_,b5⟩:=r;simp[f7.length b5]
theorem f7.get:∀{ar:List aJ} {vs:List V} {j:Nat} {s:aJ},f7 K F H ar vs->ar[j]?=some s->∃v,vs[j]?=some v/\al0 K F H s v
| [],vs,j,s,r,e=>by simp at e
|s::ss,vs,0,u,r,e=>by
  obtain⟨v,z,rfl,bg,_⟩:=r;simp at e;subst e;exact⟨v,rfl,bg⟩
|s::ss,vs,j+1,u,r,e=>by
  obtain⟨v,z,rfl,_,b5⟩:=r;obtain⟨w,af,ak⟩:=f7.get (j:=j) (s:=u) b5 (by simpa using e);exact⟨w,by simpa using af,ak⟩
theorem f7.set:∀{ar:List aJ} {vs:List V} {j:Nat} {s:aJ} {v:V},f7 K F H ar vs->ej K F H aG aa->(∀(k:Nat) (u:aJ) (w:V),k≠j->ar[k]?=some u->vs[k]?=some w->∀b∈dQ u w,aa b=H b)->al0 K aG aa s v->f7 K aG aa (ar.set j s) (vs.set j v)
| [],vs,j,s,v,r,_,_,_=>by
  have e:vs=[]:=r;subst e;exact rfl
|u::ss,vs,0,s,v,r,aw,aL,h=>by
  obtain⟨w,z,rfl,bg,b5⟩:=r;refine⟨v,z,rfl,h,b5.keep aw λb U=>?_⟩;have:∀{ss:List aJ} {z:List V} (n:Nat),(∀(k:Nat) (u:aJ) (w:V),ss[k]?=some u->z[k]?=some w->∀b∈dQ u w,aa b=H b)->b∈da ss z->aa b=H b:=by
   intro ss
   induction ss with
   |nil=>intro z n _ U;simp[da] at U
   |cons s1 ss b8=>
    intro z n aL U;cases z with
    |nil=>simp[da] at U
    |cons v1 z=>
     rw[show da (s1::ss) (v1::z)=dQ s1 v1++da ss z from rfl] at U;rcases jD.mp U with q|q
     ·exact aL 0 s1 v1 rfl rfl b q
     ·exact b8 n (λk u w aD aO=>aL (k+1) u w (by simpa using aD) (by simpa using aO)) q
  exact this 0 (λk u w aD aO=>aL (k+1) u w (by omega) (by simpa using aD) (by simpa using aO)) U
|u::ss,vs,j+1,s,v,r,aw,aL,h=>by
  obtain⟨w,z,rfl,bg,b5⟩:=r;exact⟨w,z.set j v,rfl,bg.keep aw λb U=>aL 0 u w (by omega) rfl rfl b U,f7.set b5 aw (λk u w alD aD aO=>aL (k+1) u w (by omega) (by simpa using aD) (by simpa using aO)) h⟩
theorem f7.snoc:∀{ar:List aJ} {vs:List V} {s:aJ} {v:V},f7 K F H ar vs->al0 K F H s v->f7 K F H (ar++[s]) (vs++[v])
| [],vs,s,v,r,h=>by
  have e:vs=[]:=r;subst e;exact⟨v,[],rfl,h,rfl⟩
|u::ss,vs,s,v,r,h=>by
  obtain⟨w,z,rfl,bg,b5⟩:=r;exact⟨w,z++[v],rfl,bg,f7.snoc b5 h⟩
theorem Lp:∀{ar:List aJ} {vs:List V} {s:aJ} {v:V},ar.length=vs.length->da (ar++[s]) (vs++[v])=da ar vs++dQ s v
| [],[],s,v,_=>by simp[da]
|u::ss,w::z,s,v,h=>by
  show dQ u w++da (ss++[s]) (z++[v])=(dQ u w++da ss z)++dQ s v
  rw[Lp (by simpa using h),List.append_assoc]
| [],w::z,_,_,h=>by simp at h
|u::ss,[],_,_,h=>by simp at h
theorem o1:∀{ar:List aJ} {vs:List V} {j:Nat} {s:aJ} {v:V} {b:ag},ar[j]?=some s->vs[j]?=some v->b∈dQ s v->b∈da ar vs
| [],vs,j,s,v,b,e,_,_=>by simp at e
|u::ss,[],j,s,v,b,_,e,_=>by simp at e
|u::ss,w::z,0,s,v,b,aD,aO,h=>by
  simp at aD aO;subst aD aO;exact jD.mpr (.inl h)
|u::ss,w::z,j+1,s,v,b,aD,aO,h=>jD.mpr (.inr (o1 (j:=j) (by simpa using aD) (by simpa using aO) h))
theorem L6:∀{ar:List aJ} {vs:List V} {b:ag},b∈da ar vs->∃(j:Nat) (s:aJ) (v:V),ar[j]?=some s/\vs[j]?=some v/\b∈dQ s v
| [],vs,b,h=>by simp[da] at h
|u::ss,[],b,h=>by simp[da] at h
|u::ss,w::z,b,h=>by
  rcases jD.mp (show b∈dQ u w++da ss z from h) with q|q
  ·exact⟨0,u,w,rfl,rfl,q⟩
  ·obtain⟨j,s,v,aD,aO,h⟩:=L6 q;exact⟨j+1,s,v,by simpa using aD,by simpa using aO,h⟩
theorem Lo:∀{ar:List aJ} {vs:List V} {j k:Nat} {s u:aJ} {v w:V} {b:ag},(da ar vs).Nodup->j≠k->ar[j]?=some s->vs[j]?=some v->ar[k]?=some u->vs[k]?=some w->b∈dQ s v->b∈dQ u w->False
| [],vs,j,k,s,u,v,w,b,_,_,e,_,_,_,_,_=>by simp at e
|x::ss,[],j,k,s,u,v,w,b,_,_,_,e,_,_,_,_=>by simp at e
|x::ss,y::z,j,k,s,u,v,w,b,a',oi,aD,aO,fw,iL,af,ak=>by
  have ow:(dQ x y++da ss z).Nodup:=a';rw[p0] at ow;obtain⟨gv,gd,A2⟩:=ow;cases j with
  |zero=>
   cases k with
   |zero=>exact oi rfl
   |succ k=>
    simp at aD aO;subst aD aO;exact A2 b af b (o1 (j:=k) (by simpa using fw) (by simpa using iL) ak) rfl
  |succ j=>
   cases k with
   |zero=>
    simp at fw iL;subst fw iL;exact A2 b ak b (o1 (j:=j) (by simpa using aD) (by simpa using aO) af) rfl
   |succ k=>exact Lo (j:=j) (k:=k) gd (by omega) (by simpa using aD) (by simpa using aO) (by simpa using fw) (by simpa using iL) af ak
def Cm{ar:List aJ}{vs:List V}{j:Nat}{s:aJ}{v:V}{b:ag}(h:b∈da (ar.set j s) (vs.set j v)):b∈da ar vs\/b∈dQ s v:=by
 obtain⟨k,u,w,aD,aO,h⟩:=L6 h;by_cases aL:j=k
 ·subst aL;have b2:=(hW.mp aD).1;have b4:=(hW.mp aO).1;simp at b2 b4;rw[uY,if_pos rfl,if_pos b2] at aD;rw[uY,if_pos rfl,if_pos b4] at aO;cases aD;cases aO;exact .inr h
 ·rw[uY,if_neg aL] at aD aO;exact .inl (o1 aD aO h)
theorem Kj:∀{ar:List aJ} {vs:List V} {j:Nat} {s:aJ} {v:V},(da ar vs).Nodup->(dQ s v).Nodup->(∀b∈dQ s v,∀(k:Nat) (u:aJ) (w:V),k≠j->ar[k]?=some u->vs[k]?=some w->b∉dQ u w)->(da (ar.set j s) (vs.set j v)).Nodup
| [],vs,j,s,v,_,_,_=>by simp[da]
|x::ss,[],j,s,v,_,_,_=>by cases j <;> simp[da]
|x::ss,y::z,0,s,v,a',nq,av=>by
  have ow:(dQ x y++da ss z).Nodup:=a';rw[p0] at ow;show (dQ s v++da ss z).Nodup;rw[p0];refine⟨nq,ow.2.1,λb U c ax e=>?_⟩;subst e;obtain⟨k,u,w,aD,aO,h⟩:=L6 ax;exact av b U (k+1) u w (by omega) (by simpa using aD) (by simpa using aO) h
|x::ss,y::z,j+1,s,v,a',nq,av=>by
  have ow:(dQ x y++da ss z).Nodup:=a';rw[p0] at ow;show (dQ x y++da (ss.set j s) (z.set j v)).Nodup;rw[p0];refine⟨ow.1,Kj ow.2.1 nq λb U k u w aL aD aO=>av b U (k+1) u w (by omega) (by simpa using aD) (by simpa using aO),λb U c ax e=>?_⟩;subst e;rcases Cm ax with q|q
  ·exact ow.2.2 b U b q rfl
  ·exact av b q 0 x y (by omega) rfl rfl U
def aij(v:V):(ih v).Nodup:=by
 unfold ih;split <;> simp
def RF(s:aJ)(v:V):(dQ s v).Nodup:=by
 cases s <;> first|exact aij v|simp[dQ]
theorem KL:∀{ns:List Str} {vs:List V} {j:Nat} {f:Str} {v:V},ns.Nodup->ns[j]?=some f->vs[j]?=some v->(ns.zip vs).lookup f=some v
| [],_,_,_,_,_,e,_=>by simp at e
|_::_,[],_,_,_,_,_,e=>by simp at e
|n::ns,w::vs,0,f,v,_,aD,aO=>by
  simp at aD aO;subst aD aO;simp[jE]
|n::ns,w::vs,j+1,f,v,a',aD,aO=>by
  have ne:f≠n:=by
   rintro rfl;exact (gN.mp a').1 (uV (by simpa using aD))
  have U:(f==n)=false:=beq_eq_false_iff_ne.mpr ne;simp only[q2,jE,U];exact KL (j:=j) (gN.mp a').2 (by simpa using aD) (by simpa using aO)
theorem q9:∀{ns:List Str} {vs:List V} {f:Str},f∉ns->(ns.zip vs).lookup f=none
| [],_,_,_=>by simp
|_::_,[],_,_=>by simp
|n::ns,w::vs,f,h=>by
  have ne:f≠n:=λe=>h (by simp[e]);have U:(f==n)=false:=beq_eq_false_iff_ne.mpr ne;simp only[q2,jE,U];exact q9 λz=>h (dn _ z)
theorem Sz:∀{ns:List Str} {vs:List V} {j:Nat} {f:Str} {v:V},ns.Nodup->ns[j]?=some f->j<vs.length->bh.gW f v (ns.zip vs)=ns.zip (vs.set j v)
| [],_,_,_,_,_,e,_=>by simp at e
|_::_,[],_,_,_,_,_,h=>by simp at h
|n::ns,w::vs,0,f,v,_,aD,h=>by
  simp at aD;subst aD;simp[bh.gW]
|n::ns,w::vs,j+1,f,v,a',aD,h=>by
  have ne:n≠f:=by
   rintro rfl;exact (gN.mp a').1 (uV (by simpa using aD))
  simp only[q2,kA,bh.gW,if_neg ne];rw[Sz (j:=j) (gN.mp a').2 (by simpa using aD) (by simpa using h)]
theorem Qx:∀{ns:List Str} {vs:List V} {f:Str} {v:V},ns.Nodup->ns[vs.length]?=some f->bh.gW f v (ns.zip vs)=ns.zip (vs++[v])
| [],_,_,_,_,e=>by simp at e
|n::ns,[],f,v,_,aD=>by
  simp at aD;subst aD;simp[bh.gW]
|n::ns,w::vs,f,v,a',aD=>by
  have ne:n≠f:=by
   rintro rfl;exact (gN.mp a').1 (uV (by simpa using aD))
  simp only[q2,u0,bh.gW,if_neg ne];rw[Qx (gN.mp a').2 (by simpa using aD)]
end
structure fm(K:a9)(c:Nat)(C:ag)(ns:List Str):Prop where
 md:cJ.md c=some C
 ff:cJ.ff c=ns
 cls:mT K C
 a':ns.Nodup
 na:∀f∈ns,p9 K C f
 z3:ns.length<1000
section
variable {K:a9}{aE F aY O:ag->Prop}{H H1:ay}{E:gj}{ε ε':Ev}{σ:bh.St}{c C i j:Nat}{ns:List Str}
def l2{m:gm}{ar:List aJ}(h:dm c i ε=some (m,ar)):ε[i]?=some (some (.obj m c ar)):=by
 unfold dm at h;split at h
 next ov bW gs e=>
  split at h
  next ax=>
   cases h
   rw[e,ax]
  next=>cases h
 next=>cases h
def l5{m:gm}{ar:List aJ}(k:fm K c C ns)(r:cP K aE E O F H ε σ)(h:dm c i ε=some (m,ar)):
  ∃a vs ba,σ[i]?=some (some (.ref a))/\H a=some (.ins C ba (ns.zip vs))/\vs.length<=ns.length/\h1 H a c vs/\f7 K F H ar vs/\(a::da ar vs).Nodup/\(∀b∈a::da ar vs,amq E O F m b)/\(m=.b_->a=E.ie):=by
 obtain⟨v,af,a,vs,rfl,av,hf,a',fL,ie⟩:=r.val i _ (l2 h);obtain⟨aB,hx⟩:=id av;rw[k.md] at hx;obtain⟨ba,hx⟩:=hx;rw[k.ff] at aB hx;exact⟨a,vs,ba,af,hx,aB,av,hf,a',fL,ie⟩
def Dc{m:gm}(hm:m≠.cI){ar:List aJ}:(aJ.obj m c ar).iN=true:=by
 cases m with
|cI=>exact absurd rfl hm
|own=>rfl
|b_=>rfl
def cP.Br{s:aJ}{v:V}{a ba:ag}{vs:List V}(k:fm K c C ns)(r:cP K aE E O F H ε σ){m:gm}{ar:List aJ}(aF:dm c i ε=some (m,ar))(af:σ[i]?=some (some (.ref a)))(av:h1 H a c vs)(he:gy c i j s ε=some ε')
  (rs:al0 K F H s v) (own:∀b∈dQ s v,¬F b/\O b/\b∉dB H (.obj m c ar) (.ref a)/\∀(k:Nat) (u:aJ) (w:V),i≠k->ε[k]?=some (some u)->u.iN=true->σ[k]?=some (some w)->b∉dB H u w) (hx:H a=some (.ins C ba (ns.zip vs)))
  {f:Str} (bR:ns[j]?=some f):ej K F H F (upd H a (.ins C ba (bh.gW f v (ns.zip vs))))/\cP K aE E O F (upd H a (.ins C ba (bh.gW f v (ns.zip vs)))) ε' σ:=by
 obtain⟨jR,fs,ua,dU,kV,aB,mm,hf,a',fL,ie⟩:=l5 k r aF;rw[af] at dU;cases dU;have ev:fs=vs:=by rw[<- av.vals,<- mm.vals]
 subst ev;have i9:dB H (.obj m c ar) (.ref a)=a::da ar fs:=j8 av;rw[i9] at own;unfold gy at he;rw[aF] at he;simp only[c0] at he;split at he
 next=>cases he
 next hm=>
 have hlen:=hf.length;have wK:(aJ.obj m c ar).iN=true:=Dc hm;have Ox:∀b,amq E O F m b <-> ¬F b/\O b:=λb=>by
  cases m with
  |cI=>exact absurd rfl hm
  |own=>exact Iff.rfl
  |b_=>exact Iff.rfl
 have na:∀b∈da ar fs,b≠a:=λb U z=>(gN.mp a').1 (z▸U);split at he
 next Gs=>
  cases he
  have Gu:j<fs.length:=by omega
  rw[Sz k.a' bR Gu];have wF:∀b∈a::da (ar.set j s) (fs.set j v),b∈a::da ar fs\/b∈dQ s v:=λb U=>by
   rcases cm.mp U with rfl|U
   ·exact .inl fb
   ·rcases Cm U with q|q
    ·exact .inl (dn _ q)
    ·exact .inr q
  have mn:∀o':ay,o' a=some (.ins C ba (ns.zip (fs.set j v)))->h1 o' a c (fs.set j v):=λo' e=>by
   refine⟨by rw[k.ff];simpa using aB,?_⟩
   rw[k.md,k.ff];exact⟨ba,e⟩
  refine r.IB (l2 aF) wK af (by rw[i9];exact fb) (λaw=>⟨a,fs.set j v,rfl,mn _ er,?_,?_,λb U=>?_,ie⟩) λb U=>?_
  ·refine f7.set hf aw (λk u w _ aD aO b U=>cQ (na b (o1 aD aO U))) (rs.keep aw λb U=>cQ λz=>(own b U).2.2.1 (z▸fb))
  ·refine gN.mpr ⟨λz=>?_,Kj (gN.mp a').2 (RF s v) λb U k u w _ aD aO q=>(own b U).2.2.1 (dn _ (o1 aD aO q))⟩
   rcases Cm z with q|q
   ·exact (gN.mp a').1 q
   ·exact (own a q).2.2.1 fb
  ·rcases wF b U with q|q
   ·exact fL b q
   ·exact (Ox b).mpr ⟨(own b q).1,(own b q).2.1⟩
  ·rw[j8 (mn _ er)] at U;rcases wF b U with q|q
   ·exact .inl (by rw[i9];exact q)
   ·exact .inr (own b q).2.2.2
 next Gs=>
  split at he
  next alB=>
   cases he
   have Gu:j=fs.length:=by omega
   rw[Qx k.a' (by rw[<- Gu];exact bR)];have alC:j<ns.length:=(hW.mp bR).1;have wF:∀b∈a::da (ar++[s]) (fs++[v]),b∈a::da ar fs\/b∈dQ s v:=λb U=>by
    rw[Lp hlen] at U;rcases cm.mp U with rfl|U
    ·exact .inl fb
    ·rcases jD.mp U with q|q
     ·exact .inl (dn _ q)
     ·exact .inr q
   have mn:∀o':ay,o' a=some (.ins C ba (ns.zip (fs++[v])))->h1 o' a c (fs++[v]):=λo' e=>by
    refine⟨by rw[k.ff];simp;omega,?_⟩
    rw[k.md,k.ff];exact⟨ba,e⟩
   refine r.IB (l2 aF) wK af (by rw[i9];exact fb) (λaw=>⟨a,fs++[v],rfl,mn _ er,?_,?_,λb U=>?_,ie⟩) λb U=>?_
   ·exact f7.snoc (hf.keep aw λb U=>cQ (na b U)) (rs.keep aw λb U=>cQ λz=>(own b U).2.2.1 (z▸fb))
   ·rw[Lp hlen];refine gN.mpr ⟨λz=>?_,p0.mpr ⟨(gN.mp a').2,RF s v,λb U d hd e=>?_⟩⟩
    ·rcases jD.mp z with q|q
     ·exact (gN.mp a').1 q
     ·exact (own a q).2.2.1 fb
    ·subst e;exact (own b hd).2.2.1 (dn _ U)
   ·rcases wF b U with q|q
    ·exact fL b q
    ·exact (Ox b).mpr ⟨(own b q).1,(own b q).2.1⟩
   ·rw[j8 (mn _ er)] at U;rcases wF b U with q|q
    ·exact .inl (by rw[i9];exact q)
    ·exact .inr (own b q).2.2.2
  next=>cases he
def cP.amr{s s':aJ}{a b:ag}{vs:List V}{o':ea}(r:cP K aE E O F H ε σ){m:gm}{ar:List aJ}(aF:dm c i ε=some (m,ar))(af:σ[i]?=some (some (.ref a)))(av:h1 H a c vs)(he:gy c i j s' ε=some ε')
  (aA:ar[j]?=some s) (br:vs[j]?=some (.ref b)) (bc:b∈dQ s (.ref b)) (z_:dQ s' (.ref b)=[b]) (rs:ej K F H F (upd H b o')->al0 K F (upd H b o') s' (.ref b)):ej K F H F (upd H b o')/\cP K aE E O F (upd H b o') ε' σ:=by
 obtain⟨v,dU,jR,fs,ev,mm,hf,a',fL,ie⟩:=r.val i _ (l2 aF);rw[af] at dU;cases dU;cases ev;have ev:fs=vs:=by rw[<- av.vals,<- mm.vals]
 subst ev;have i9:dB H (.obj m c ar) (.ref a)=a::da ar fs:=j8 av;unfold gy at he;rw[aF] at he;simp only[c0] at he;split at he
 next=>cases he
 next hm=>
 have Gs:j<ar.length:=(hW.mp aA).1;rw[if_pos Gs] at he;cases he;have iw:b∈da ar fs:=o1 aA br bc;have Zq:a≠b:=λz=>(gN.mp a').1 (z▸iw);have mn:h1 (upd H b o') a c fs:=av.keep (cQ Zq);have FJ:fs.set j (.ref b)=fs:=by
  obtain⟨aB,e⟩:=hW.mp br;rw[<- e];exact List.set_getElem_self aB
 have Gm:∀x∈da (ar.set j s') fs,x∈da ar fs:=λx hx=>by
  rw[<- FJ] at hx;rcases Cm hx with q|q
  ·exact q
  ·rw[z_] at q;rw[jC.mp q];exact iw
 refine r.IB (l2 aF) (Dc hm) af (by rw[i9];exact dn _ iw) (λaw=>⟨a,fs,rfl,mn,?_,?_,λx hx=>?_,ie⟩) λx hx=>?_
 ·rw[<- FJ];exact f7.set hf aw (λk u w aL aD aO x hx=>cQ λz=>Lo (gN.mp a').2 (Ne.symm aL) aA br aD aO bc (z▸hx)) (rs aw)
 ·refine gN.mpr ⟨λz=>(gN.mp a').1 (Gm a z),?_⟩
  rw[<- FJ];refine Kj (gN.mp a').2 (by rw[z_];simp) λx hx k u w aL aD aO q=>?_;rw[z_] at hx;rw[jC.mp hx] at q;exact Lo (gN.mp a').2 (Ne.symm aL) aA br aD aO bc q
 ·rcases cm.mp hx with rfl|hx
  ·exact fL _ fb
  ·exact fL x (dn _ (Gm x hx))
 ·rw[j8 mn] at hx;rw[i9];rcases cm.mp hx with rfl|hx
  ·exact .inl fb
  ·exact .inl (dn _ (Gm x hx))
end
end
section
variable [cJ]
section
variable {K:a9}{aE F O:ag->Prop}{H:ay}{E:gj}{ε:Ev}{σ:bh.St}{c C i j:Nat}{ns:List Str}{f:Str}
def mM{m:gm}{ar:List aJ}{s:aJ}(k:fm K c C ns)(r:cP K aE E O F H ε σ)(h:dm c i ε=some (m,ar))(aA:ar[j]?=some s)(bR:ns[j]?=some f):
  ∃a vs ba v,σ[i]?=some (some (.ref a))/\H a=some (.ins C ba (ns.zip vs))/\(ns.zip vs).lookup f=some v/\h1 H a c vs/\vs[j]?=some v/\al0 K F H s v/\(∀b∈dQ s v,amq E O F m b/\b≠a):=by
 obtain⟨a,vs,ba,af,hx,aB,av,hf,a',fL,ie⟩:=l5 k r h;obtain⟨v,br,bP⟩:=hf.get aA;refine⟨a,vs,ba,v,af,hx,KL k.a' bR br,av,br,bP,λb U=>⟨fL b (dn _ (o1 aA br U)),λz=>(gN.mp a').1 (z▸o1 aA br U)⟩⟩
def kI(k:fm K c C ns)(bR:ns[j]?=some f):p9 K C f:=k.na f (uV bR)
end
section
variable {X:aV}{c C i j:Nat}{ns:List Str}{f:Str}{o e a:bj}{g h:bz}{pos apos:Pos}
def gh(k:fm X.K c C ns)(a6:bQ X o (fU i))(bR:ns[j]?=some f:=by rfl)(U:jf o f X.env (eval o X.env)=eval o X.env:=by rfl):e6 X (.Attribute o f pos) (fld c i j):=
 d5 (oX a6 U) λσ H Q ⟨aE,aR,O,F,ε,t,r,e,bV⟩=>by
 simp only[fld,cz] at e;obtain⟨⟨m,ar⟩,aF,e⟩:=e;split at e
 next t' aA=>
  cases e
  obtain⟨a,vs,ba,v,af,hx,aB,av,br,bP,_⟩:=mM k r aF aA bR;exact⟨_,af,a,C,ba,_,v,rfl,hx,k.cls,kI k bR,aB,bV v F H (Ext.refl r.cu) (.inl bP)⟩
 next ts aA=>
  cases e
  obtain⟨a,vs,ba,v,af,hx,aB,av,br,⟨b,us,dZ,U,fa⟩,_⟩:=mM k r aF aA bR;subst dZ;exact⟨_,af,a,C,ba,_,_,rfl,hx,k.cls,kI k bR,aB,bV _ F H (Ext.refl r.cu) (.inr ⟨ts,b,us,rfl,rfl,U,fa⟩)⟩
 next=>cases e
def ip(k:fm X.K c C ns)(a6:bQ X o (fU i))(bR:ns[j]?=some f:=by rfl)(U:jf o f X.env (eval o X.env)=eval o X.env:=by rfl):cO X (.Attribute o f pos) (e8 c i j):=
 d5 (oX a6 U) λσ H Q ⟨aE,aR,O,F,ε,t,r,e,bV⟩=>by
 simp only[e8,cz] at e;obtain⟨⟨m,ar⟩,aF,e⟩:=e;split at e
 next t' aA=>
  cases e
  obtain⟨a,vs,ba,v,af,hx,aB,av,br,bP,_⟩:=mM k r aF aA bR;exact⟨_,af,a,C,ba,_,v,rfl,hx,k.cls,kI k bR,aB,bV v F H (Ext.refl r.cu) bP⟩
 next=>cases e
def CO{ε:Ev}{kvs:List (D.Key×T)}(e:nc c i j ε=some kvs):∃m ar,dm c i ε=some (m,ar)/\ar[j]?=some (.hp kvs):=by
 simp only[nc,cz] at e;obtain⟨⟨m,ar⟩,aF,e⟩:=e;split at e
 ·cases e
  exact⟨m,ar,aF,by assumption⟩
 ·cases e
def La{ε:Ev}{ts:List T}(e:kQ c i j ε=some ts):∃m ar,dm c i ε=some (m,ar)/\ar[j]?=some (.own ts):=by
 simp only[kQ,cz] at e;obtain⟨⟨m,ar⟩,aF,e⟩:=e;split at e
 ·cases e
  exact⟨m,ar,aF,by assumption⟩
 ·cases e
def LX(k:fm X.K c C ns)(bM:X.A.units+1<cLine)(a6:bQ X o (fU i))(av:e6 X a g)(bR:ns[j]?=some f:=by rfl)(U:jf o f X.env (eval o X.env)=eval o X.env:=by rfl)(aA:DS a:=by intro _ _;rfl):
  cO X (.Subscript (.Attribute o f apos) a pos) (m' c i j g):=d5 (ajf bM (oX a6 U) av aA) λσ H Q ⟨aE,aR,O,F,ε,t,r,e,bV⟩=>by
 simp only[m',cz] at e;obtain⟨t',bw,key,eW,kvs,fp,r'⟩:=e;obtain⟨m,ar,aF,aA⟩:=CO fp;obtain⟨a,vs,ba,v,af,hx,aB,av,br,⟨b,us,dZ,U,fa⟩,_⟩:=mM k r aF aA bR;subst dZ;refine⟨_,af,a,C,ba,_,_,rfl,hx,k.cls,kI k bR,aB,aE,aR,O,F,ε,t',r,bw,λv aY H1 aP aM=>?_⟩;have sk:=aP.same.get U;have uG:=d7.aw (aP.aw (K:=X.K)) fa;obtain⟨w,hw,j1⟩:=uG.get r';refine⟨b,w,rfl,?_,bV w aY H1 aP j1⟩;rw[amj eW aM,<- hw];exact qd.k sk
def Sn{K:a9}{aE F O aY:ag->Prop}{H H1:ay}{E:gj}{ε:Ev}{σ:bh.St}{b:ag}(r:cP K aE E O F H ε σ)(x:Ext F H aY H1)(a6:H b=none):
  ∀(k:Nat) (u:aJ) (w:V),ε[k]?=some (some u)->σ[k]?=some (some w)->b∉dB H1 u w:=λk u w eW aL U=>by
 obtain⟨gA,af,ak⟩:=r.val k u eW;rw[aL] at af;cases af;rw[(ak.wh x).2] at U;obtain⟨o,e,_⟩:=ak.at U;rw[a6] at e;cases e
def fQ(k:fm X.K c C ns)(a6:bQ X o (fU i))(he:cO X e g)(bR:ns[j]?=some f:=by rfl)(aA:jh e (some (.Attribute o f apos)) pos.line X.env=pure false:=by rfl):
  f6 X (.Assign [.Attribute o f apos] e pos) (eG c i j g):=g4 (LY a6 he aA) λD σ H ⟨aE,aR,O,F,ε,o,r,e,bV⟩=>by
 simp only[eG,cz,dE] at e;obtain⟨t,bw,ε',es,rfl⟩:=e;refine⟨aE,aR,O,F,ε,t,r,bw,λv aY H1 aP aM=>?_⟩;have bg:=r.ext aP;have ht:=es;unfold gy at ht;simp only[cz] at ht;obtain⟨⟨m,ar⟩,aF,_⟩:=ht;obtain⟨a,vs,ba,af,hx,aB,av,_⟩:=l5 k bg aF;obtain⟨aw,b5⟩:=bg.Br (s:=.ae t) (v:=v) k aF af av es aM (λb U=>by simp[dQ] at U) hx bR;refine⟨_,af,a,C,ba,_,rfl,hx,k.cls,kI k bR,?_,bV σ aY _ (aP.aw.trans aw) b5⟩;have:=k.z3;simp only[List.length_zip];omega
def rl(k:fm X.K c C ns)(a6:bQ X o (fU i))(he:t2 X e g)(bR:ns[j]?=some f:=by rfl)(aA:jh e (some (.Attribute o f apos)) pos.line X.env=pure false:=by rfl):
  f6 X (.Assign [.Attribute o f apos] e pos) (jL c i j g):=g4 (LY a6 he aA) λD σ H ⟨aE,aR,O,F,ε,o,r,e,bV⟩=>by
 simp only[jL,cz] at e;obtain⟨t,bw,e⟩:=e;split at e
 next ts=>
  simp only[dE] at e;obtain⟨ε',es,rfl⟩:=e;refine⟨aE,aR,O,F,ε,ts,r,bw,λb us aY H1 aP sq hP U aM=>?_⟩;have bg:=r.ext aP;have ht:=es;unfold gy at ht;simp only[cz] at ht;obtain⟨⟨m,ar⟩,aF,_⟩:=ht;obtain⟨a,vs,ba,af,hx,aB,av,_⟩:=l5 k bg aF;have hold:=Sn r aP sq;obtain⟨aw,b5⟩:=bg.Br (s:=.own ts) (v:=.ref b) k aF af av es ⟨b,us,rfl,U,aM⟩ (λd hd=>by
   have:d=b:=by simpa [dQ,ih] using hd
   subst this;exact⟨hP,r.fr _ sq,hold i _ _ (l2 aF) af,λk u w _ eW _ aL=>hold k u w eW aL⟩) hx bR
  refine⟨_,af,a,C,ba,_,rfl,hx,k.cls,kI k bR,?_,bV σ aY _ (aP.aw.trans aw) b5⟩
  have:=k.z3;simp only[List.length_zip];omega
 next=>cases e
def RX{x y:T}{z:Int}(h:qa x y=some z):∃p q,x=.int p/\y=.int q/\z=p+q:=by
 unfold qa at h;split at h
 ·cases h
  exact⟨_,_,rfl,rfl,rfl⟩
 ·cases h
def Tp(k:fm X.K c C ns)(a6:bQ X o (fU i))(he:cO X e g)(bR:ns[j]?=some f:=by rfl):f6 X (.AugAssign (.Attribute o f apos) .Add e pos) (pw c i j g):=
 g4 (aht a6 he TP) λD σ H ⟨aE,aR,O,F,ε,o,r,e,bV⟩=>by
 simp only[pw,cz,dE] at e;obtain⟨x,ex,y,fy,z,sd,ε',es,rfl⟩:=e;simp only[e8,cz] at ex;obtain⟨⟨m,ar⟩,aF,ex⟩:=ex;split at ex
 next t' aA=>
  cases ex
  obtain⟨p,q,rfl,rfl,rfl⟩:=RX sd;obtain⟨a,vs,ba,v,af,hx,aB,av,br,bP,_⟩:=mM k r aF aA bR;refine⟨_,af,a,C,ba,_,v,rfl,hx,k.cls,kI k bR,aB,aE,aR,O,F,ε,_,r,fy,λw aY H1 aP aM=>?_⟩;have bg:=r.ext aP;have ev:v=.int p:=by simpa [al0,Rep] using bP
  have m_:w=.int q:=by simpa [Rep] using aM
  obtain⟨jR,fs,ua,dU,kV,alE,mm,_⟩:=l5 k bg aF;rw[af] at dU;cases dU;obtain⟨aw,b5⟩:=bg.Br (s:=.ae (.int (p+q))) (v:=.int (p+q)) k aF af mm es (by simp[al0,Rep]) (λb U=>by simp[dQ] at U) kV bR;refine⟨p,q,ev,m_,ua,_,kV,?_,bV σ aY _ (aP.aw.trans aw) b5⟩;have:=k.z3;simp only[List.length_zip];omega
 next=>cases ex
def C9(k:fm X.K c C ns)(a6:bQ X o (fU i)){jU eU:Pos}(he:cO X e g)(bR:ns[j]?=some f:=by rfl)(U:jf o f X.env (eval o X.env)=eval o X.env:=by rfl)
  (qA:bo [e] X.env=(false,eval e X.env)::bo [] X.env:=by rfl)
  (nd:jf (.Attribute o f apos) "append" X.env (eval (.Attribute o f apos) X.env)=eval (.Attribute o f apos) X.env:=by rfl)
  (wC:((dM eU (bo [e] X.env)).all (λx=>!x.1) && (mG eU (mF [] X.env)).all (λx=>x.1.isSome)
   && decide (([e]:List bj).length+([]:List Keyword).length+(if ([]:List Keyword).isEmpty then 0 else 1)<30))=true:=by rfl)
  (nf:(jU.endLine==eU.line)=true:=by rfl) (wL:(dM eU (bo [] X.env)).any (·.1)=false:=by rfl)
  (nj:jh (.Call (.Attribute (.Attribute o f apos) "append" jU) [e] [] eU) none pos.line X.env=pure false:=by rfl):
  f6 X (.Expr (.Call (.Attribute (.Attribute o f apos) "append" jU) [e] [] eU) pos) (lA c i j g):=
 g4 (vw (Uc PySem.F.plainAttrs_list PySem.F.slot_list_append PySem.F.type_list_append Ry (oX a6 U) (hA he j9 qA) nd wC nf qA wL) nj) λD σ H ⟨aE,aR,O,F,ε,o,r,e,bV⟩=>by
 simp only[lA,cz] at e;obtain⟨t,bw,ts,gQ,e⟩:=e;split at e
 next aq=>
  simp only[dE] at e;obtain⟨ε',es,rfl⟩:=e;obtain⟨m,ar,aF,aA⟩:=La gQ;obtain⟨a,vs,ba,v,af,hx,aB,av,br,⟨b,us,dZ,U,fa⟩,_⟩:=mM k r aF aA bR;subst dZ;refine⟨_,af,a,C,ba,_,_,rfl,hx,k.cls,kI k bR,aB,.inl ⟨rfl,_,gP.of U⟩,aE,aR,O,F,ε,t,r,bw,λv aY H1 aP aM=>?_⟩;have bg:=r.ext aP;obtain⟨a1,afB,alr,v1,N8,alO,qy,amE,OF,⟨cf,PK,YU,sk,uG⟩,_⟩:=mM k bg aF aA bR;rw[af] at N8;cases N8;have ev:afB=vs:=by rw[<- amE.vals,<- (av.keep ((aP.same.get hx).trans hx.symm)).vals]
  subst ev;rw[br] at OF;cases OF;cases YU;obtain⟨aw,b5⟩:=bg.amr (s':=.own (ts++[t])) (o':=.lst (PK++[v])) aF af amE es aA br (by simp[dQ,ih]) rfl λaw=>⟨b,_,rfl,er,(uG.aw aw).append (bG.cons (aM.aw aw) bG.nil)⟩;exact⟨b,PK,v,rfl,rfl,sk,by rw[nO,<- uG.length];exact aq,bV σ aY _ (aP.aw.trans aw) b5⟩
 next=>cases e
def ajW(k:fm X.K c C ns)(bM:X.A.units+1<cLine)(a6:bQ X o (fU i)){sV:Pos}(av:e6 X a h)(he:cO X e g)(bR:ns[j]?=some f:=by rfl)(U:jf o f X.env (eval o X.env)=eval o X.env:=by rfl)
  (aA:jh e (some (.Subscript (.Attribute o f apos) a sV)) pos.line X.env=pure false:=by rfl):
  f6 X (.Assign [.Subscript (.Attribute o f apos) a sV] e pos) (rA c i j h g):=g4 (ai_ bM (oX a6 U) av he aA) λD σ H ⟨aE,aR,O,F,ε,o,r,e,bV⟩=>by
 simp only[rA,cz] at e;obtain⟨v,ev,t,bw,key,eW,kvs,fp,e⟩:=e;split at e
 next aq=>
  simp only[dE] at e;obtain⟨ε',es,rfl⟩:=e;obtain⟨m,ar,aF,aA⟩:=CO fp;refine⟨aE,aR,O,F,ε,v,r,ev,λJO aY H1 aP aM=>?_⟩;have bg:=r.ext aP;obtain⟨a,vs,ba,w,af,hx,aB,av,br,⟨b,us,dZ,U,fa⟩,_⟩:=mM k bg aF aA bR;subst dZ;refine⟨_,af,a,C,ba,_,_,rfl,hx,k.cls,kI k bR,aB,aE,aR,O,aY,ε,t,bg,bw,λvt du bk b6 bb=>?_⟩;have b5:=bg.ext b6;have Ge:h1 bk a c vs:=av.keep ((b6.same.get hx).trans hx.symm);have Jo:=d7.aw (b6.aw (K:=X.K)) fa;obtain⟨aw,ko⟩:=b5.amr (s':=.hp (putD kvs key v)) (o':=.fo (putK us key JO)) aF af Ge es aA br (by simp[dQ,ih]) rfl λaw=>⟨b,_,rfl,er,d7.put (d7.aw aw Jo) ((aM.ext b6).aw aw)⟩;refine⟨b,_,rfl,?_,bV σ du _ ((aP.trans b6).aw.trans aw) ko⟩;rw[amj eW bb];exact rO.k (b6.same.get U) (by rw[nO,<- fa.length];exact aq)
 next=>cases e
def ai1(k:fm X.K c C ns)(bM:X.A.units+1<cLine)(a6:bQ X o (fU i)){sV:Pos}(av:e6 X a h)(he:cO X e g)(bR:ns[j]?=some f:=by rfl)(U:jf o f X.env (eval o X.env)=eval o X.env:=by rfl)
  (Zl:∀d0 eP new,augStore a d0 eP new=(do holding [new,d0,eP] (setItem d0 eP new);release [new,d0,eP] [];pure .next):=by intros;rfl):
  f6 X (.AugAssign (.Subscript (.Attribute o f apos) a sV) .Add e pos) (rG c i j h g):=g4 (ai' bM (oX a6 U) av he TP Zl) λD σ H ⟨aE,aR,O,F,ε,o,r,e,bV⟩=>by
 simp only[rG,cz] at e;obtain⟨t,bw,key,eW,kvs,fp,x,r',y,fy,z,sd,e⟩:=e;split at e
 next aq=>
  simp only[dE] at e;obtain⟨ε',es,rfl⟩:=e;obtain⟨p,q,rfl,rfl,rfl⟩:=RX sd;obtain⟨m,ar,aF,aA⟩:=CO fp;obtain⟨a,vs,ba,w,af,hx,aB,av,br,⟨b,us,dZ,U,fa⟩,_⟩:=mM k r aF aA bR;subst dZ;refine⟨_,af,a,C,ba,_,_,rfl,hx,k.cls,kI k bR,aB,aE,aR,O,F,ε,t,r,bw,λvt aY H1 aP aM=>?_⟩;have bg:=r.ext aP;have uG:=d7.aw (aP.aw (K:=X.K)) fa;have sk:=aP.same.get U;obtain⟨w,hw,j1⟩:=uG.get r';have m_:w=.int p:=by simpa [Rep] using j1
  subst m_;refine⟨b,_,rfl,by rw[amj eW aM,<- hw];exact qd.k sk,aE,aR,O,aY,ε,_,bg,fy,λJO du bk b6 bb=>?_⟩;have ev:JO=.int q:=by simpa [Rep] using bb
  subst ev;refine⟨p,q,rfl,rfl,?_⟩;have b5:=bg.ext b6;have pY:=aP.trans b6;have Ge:h1 bk a c vs:=av.keep ((pY.same.get hx).trans hx.symm);have Jo:=d7.aw (pY.aw (K:=X.K)) fa;obtain⟨aw,ko⟩:=b5.amr (s':=.hp (putD kvs key (.int (p+q)))) (o':=.fo (putK us key (.int (p+q)))) aF af Ge es aA br (by simp[dQ,ih]) rfl λaw=>⟨b,_,rfl,er,d7.put (d7.aw aw Jo) (by simp[Rep])⟩;refine⟨_,?_,bV σ du _ (pY.aw.trans aw) ko⟩;rw[amj eW aM];exact rO.k (pY.same.get U) (by rw[nO,<- fa.length];exact aq)
 next=>cases e
end
end
section
variable [cJ]
noncomputable def rJ(K:a9)(F:ag->Prop)(H:ay)(σ:bh.St):List mR->List aJ->List V->Prop
| [],[],[]=>True
|.v _::as,s::ss,v::vs=>(∃t,s=.ae t/\Rep K F H t v)/\rJ K F H σ as ss vs
|.o i::as,s::ss,v::vs=>σ[i]?=some (some v)/\rJ K F H σ as ss vs
|_,_,_=>False
def ae1(K:a9)(as:List mR):fS:=λσ H Q=>∃aE E O F ε ss,cP K aE E O F H ε σ/\al2 as ε=some ss/\∀vs aG aa,Ext F H aG aa->rJ K aG aa σ as ss vs->Q vs aa
abbrev rU(X:aV)(es:List bj)(as:List mR):Prop:=f5 X es (ae1 X.K as)
def Mn{X:aV}{e:List bj}{t t':fS}(h:f5 X e t)(k:∀σ H Q,t' σ H Q->t σ H Q):f5 X e t':=yI h k
section
variable {X:aV}{e:bj}{es:List bj}{as:List mR}{f:bz}{i:Nat}
def nM:rU X [] []:=Mn j9 λσ H Q ⟨aE,E,O,F,ε,ss,r,e,k⟩=>by
 cases e
 exact k [] F H (Ext.refl r.cu) trivial
def MP(af:cO X e f)(ak:rU X es as)(aA:bo (e::es) X.env=(false,eval e X.env)::bo es X.env:=by rfl):rU X (e::es) (.v f::as):=Mn (hA af ak aA) λσ H Q ⟨aE,E,O,F,ε,ss,r,e,k⟩=>by
 simp only[al2,cz,dE] at e;obtain⟨t,bw,us,fx,rfl⟩:=e;exact⟨aE,E,O,F,ε,t,r,bw,λv aY H1 aP aM=>⟨aE,E,O,aY,ε,us,r.ext aP,fx,λvs du bk b6 bb=>k _ du bk (aP.trans b6) ⟨⟨t,rfl,aM.ext b6⟩,bb⟩⟩⟩
def Rt{ε:Ev}{s:aJ}(h:A9 i ε=some s):∃m c ar,s=.obj m c ar/\ε[i]?=some (some s):=by
 unfold A9 at h;split at h
 next m c ar e=>
  cases h
  exact⟨m,c,ar,rfl,e⟩
 next=>cases h
def n2(af:bQ X e (fU i))(ak:rU X es as)(aA:bo (e::es) X.env=(false,eval e X.env)::bo es X.env:=by rfl):rU X (e::es) (.o i::as):=Mn (hA af ak aA) λσ H Q ⟨aE,E,O,F,ε,ss,r,e,k⟩=>by
 simp only[al2,cz,dE] at e;obtain⟨s,ht,us,fx,rfl⟩:=e;obtain⟨m,c,ar,_,aA⟩:=Rt ht;obtain⟨v,af,_⟩:=r.val i s aA;exact⟨v,af,aE,E,O,F,ε,us,r,fx,λvs du bk b6 bb=>k _ du bk b6 ⟨af,bb⟩⟩
end
def yU(K:a9)(F:ag->Prop)(H:ay)(ss:List aJ)(vs:List V):Prop:=Paired (λs v=>s.iN=false/\d1 K ⟨H,0⟩ (λa=>H a=none) F H s v) ss vs
noncomputable def Jv(K:a9)(n:Nat)(d:List aJ->Option T):jQ:=λvs H Q _=>vs.length=n/\∃F ss t,fE F H/\yU K F H ss vs/\d ss=some t/\∀v aG aa,Ext F H aG aa->Rep K aG aa t v->Q v aa
section
variable {K:a9}{F aG aE O:ag->Prop}{H aa:ay}{E E':gj}
theorem Paired.get{α β:Type}{R:α->β->Prop}:∀{xs:List α} {ys:List β} {i:Nat} {x:α},Paired R xs ys->xs[i]?=some x->∃y,ys[i]?=some y/\R x y
|_,_,i,x,.nil,e=>by simp at e
|_,_,0,x,.cons r _,e=>by
  simp at e;subst e;exact⟨_,rfl,r⟩
|_,_,i+1,x,.cons _ t,e=>by
  obtain⟨y,af,ak⟩:=Paired.get (i:=i) (x:=x) t (by simpa using e);exact⟨y,by simpa using af,ak⟩
def rf{ss:List aJ}{n i:Nat}{s:aJ}(h:(jI n ss)[i]?=some (some s)):ss[i]?=some s:=by
 unfold jI at h;by_cases bc:i<ss.length
 ·rw[uS (by simpa using bc),la,iD bc] at h;rw[iD bc];simpa using h
 ·rw[uR (by simpa using bc),List.getElem?_replicate] at h;split at h <;> cases h
def K1{vs:List V}{n i:Nat}{v:V}(h:vs[i]?=some v):(vs.map some++alZ n none)[i]?=some (some v):=by
 have bc:=(hW.mp h).1;rw[uS (by simpa using bc),la,h];rfl
def vP{m:gm}{c:Nat}{ar:List aJ}{v:V}(r:d1 K E O F H (.obj m c ar) v)(E':gj)(m1:ag->Prop)(he:∀b∈dB H (.obj m c ar) v,E'.h b≠none):d1 K E' m1 F H (.obj .cI c ar) v:=by
 have cq:=r;obtain⟨a,vs,rfl,av,hf,a',fL,ie⟩:=r;rw[j8 av] at he;exact⟨a,vs,rfl,av,hf,a',λb U=>⟨(fL b U).1,he b U⟩,λz=>by cases z⟩
def QC{ss:List aJ}{vs:List V}(cu:fE F H)(q:yU K F H ss vs)(n:Nat):cP K F ⟨H,0⟩ (λa=>H a=none) F H (jI n ss) (vs.map some++alZ (n - vs.length) none):=by
 have aB:ss.length=vs.length:=Paired.length q;refine⟨by simp[jI,aB],λi s e=>?_,λi j s u v w i_ aD aO dH=>?_,Ext.refl cu,λ_ h=>h,λ_ h=>h⟩
 ·obtain⟨v,br,_,bP⟩:=Paired.get q (rf e);exact⟨v,K1 br,bP⟩
 ·obtain⟨_,_,z,_⟩:=Paired.get q (rf aD);rw[z] at dH;cases dH
theorem Dn{ε:Ev}{σ:bh.St}(r:cP K aE E O F H ε σ):∀{as:List mR} {ss:List aJ} {vs:List V},al2 as ε=some ss->rJ K F H σ as ss vs->yU K F H (ss.map uH) vs
| [],ss,vs,e,h=>by
  cases e
  cases vs with
  |nil=>exact .nil
  |cons v vs=>exact h.elim
|.v f::as,ss,vs,e,h=>by
  simp only[al2,cz,dE] at e;obtain⟨t,bw,us,fx,rfl⟩:=e;cases vs with
  |nil=>exact h.elim
  |cons v vs=>
   obtain⟨⟨t',bS,d4⟩,h⟩:=h;cases bS;exact .cons ⟨rfl,d4⟩ (Dn r fx h)
|.o i::as,ss,vs,e,h=>by
  simp only[al2,cz,dE] at e;obtain⟨s,es,us,fx,rfl⟩:=e;cases vs with
  |nil=>exact h.elim
  |cons v vs=>
   obtain⟨br,h⟩:=h;obtain⟨m,c,ar,rfl,aA⟩:=Rt es;obtain⟨iU,sx,rs⟩:=r.val i _ aA;rw[br] at sx;cases sx;refine .cons ⟨rfl,vP rs _ _ λb U=>?_⟩ (Dn r fx h);obtain⟨o,e,_⟩:=rs.at U;show H b≠none;rw[e];exact λz=>by cases z
theorem LA:∀{ts:List T} {vs:List V},bG K F H ts vs->yU K F H (ts.map .ae) vs
| [],vs,h=>by
  simp only[bG] at h;subst h;exact .nil
|t::ts,vs,h=>by
  simp only[bG] at h;obtain⟨v,z,rfl,q,h⟩:=h;exact .cons ⟨rfl,q⟩ (LA h)
end
section
variable {P:cA}{w:bZ}{K:a9}{mg:Str->Option aj}{base:bE}
def S1{x qual:Str}{st:Stmt}{f:ag}{fd:dV}{N ps:List Str}{k:Nat}{b:bA}(F:alX K x qual st f fd)(S:cK N ps (bt st))
  (U:∀(bu:aj) (A:cH) (outer:List Env) (s:aI) (H:ay) (E:eF),cW k (A.deeper (envOfC qual (bt st) s.heap.objs.size f bu)) ->
   hF (eN di P w K mg base N qual (bt st) f bu A outer s H E).dv (fc st) b):
  ez P w K mg base di (k+1) f fd ps (Jv K ps.length (gx b N.length)):=by
 refine F.ok S (λvs H Q E h=>h.1) λbu A outer s H vs Q E au h=>⟨_,U bu A outer s H E au,?_⟩
 obtain⟨aB,F,ss,t,cu,q,e,iP⟩:=h;simp only[gx,cz] at e;obtain⟨o,eH,e⟩:=e;refine⟨F,⟨H,0⟩,λa=>H a=none,F,_,o,?_,eH,?_⟩
 ·unfold bh.start;exact QC cu q N.length
 ·cases o with
  |d4 t'=>
   cases e
   exact λv aG aa x q=>iP v aG aa x q
  |bK ε'=>
   cases e
   exact λcg aG aa _ r=>iP _ aG aa r.ent (by simp[Rep])
  |gp _=>cases e
  |dN _=>cases e
  |ij _ _=>cases e
  |kZ _=>cases e
structure rM(P:cA)(w:bZ)(K:a9)(mg:Str->Option aj)(base:bE)(x:Str)(k n:Nat)(d:List aJ->Option T):Prop where
 ex:∃bN fd ps,ez P w K mg base di k bN fd ps (Jv K n d)/\mg x=some (.ref bN)/\kv K (.ref bN)=true/\Binds K fd ps []
theorem rM.mono{x:Str}{k n j:Nat}{d:List aJ->Option T}(c:rM P w K mg base x j n d)(h:j<=k):rM P w K mg base x k n d:=by
 obtain⟨bN,fd,ps,F,r⟩:=c.ex;exact⟨bN,fd,ps,F.mono h,r⟩
def akF{x:Str}{st:Stmt}{f:ag}{fd:dV}{N ps:List Str}{k:Nat}{b:bA}(F:alX K x x st f fd)(S:cK N ps (bt st))(bd:Binds K fd ps [])(m:mg x=some (.ref f))
  (U:∀(bu:aj) (A:cH) (outer:List Env) (s:aI) (H:ay) (E:eF),cW k (A.deeper (envOfC x (bt st) s.heap.objs.size f bu)) ->
   hF (eN di P w K mg base N x (bt st) f bu A outer s H E).dv (fc st) b):rM P w K mg base x (k+1) ps.length (gx b N.length):=⟨f,fd,ps,S1 F S U,m,F.aw,bd⟩
structure e4(P:cA)(w:bZ)(K:a9)(mg:Str->Option aj)(base:bE)(C:ag)(m:Str)(k n:Nat)(d:List aJ->Option T):Prop where
 ex:∃bN fd ps,ez P w K mg base di k bN fd ps (Jv K n d)/\Meth K C m bN/\Binds K fd ps []
theorem e4.mono{C:ag}{m:Str}{k n j:Nat}{d:List aJ->Option T}(c:e4 P w K mg base C m j n d)(h:j<=k):e4 P w K mg base C m k n d:=by
 obtain⟨bN,fd,ps,F,r⟩:=c.ex;exact⟨bN,fd,ps,F.mono h,r⟩
def oY{C:ag}{m qual:Str}{st:Stmt}{f:ag}{fd:dV}{N ps:List Str}{k:Nat}{b:bA}(F:alX K m qual st f fd)(S:cK N ps (bt st))(bd:Binds K fd ps [])(gU:Meth K C m f)
  (U:∀(bu:aj) (A:cH) (outer:List Env) (s:aI) (H:ay) (E:eF),cW k (A.deeper (envOfC qual (bt st) s.heap.objs.size f bu)) ->
   hF (eN di P w K mg base N qual (bt st) f bu A outer s H E).dv (fc st) b):e4 P w K mg base C m (k+1) ps.length (gx b N.length):=⟨f,fd,ps,S1 F S U,gU,bd⟩
end
theorem amh:∀{fA:List bz} {ε:Ev} {us:List T},args fA ε=some us->us.length=fA.length
| [],ε,us,e=>by
  cases e
  rfl
|g::fA,ε,us,e=>by
  simp only[args,cz,dE] at e;obtain⟨t,_,vs,ev,rfl⟩:=e;simp[amh ev]
theorem rJ.len{K:a9}{F:ag->Prop}{H:ay}{σ:bh.St}:∀{as:List mR} {ss:List aJ} {vs:List V},rJ K F H σ as ss vs->vs.length=as.length
| [],[],[],_=>rfl
|.v _::as,s::ss,v::vs,h=>by simp[rJ.len h.2]
|.o i::as,s::ss,v::vs,h=>by simp[rJ.len h.2]
| [],[],_::_,h=>h.elim
| [],_::_,_,h=>h.elim
|.v _::_,[],_,h=>h.elim
|.v _::_,_::_,[],h=>h.elim
|.o _::_,[],_,h=>h.elim
|.o _::_,_::_,[],h=>h.elim
section
variable {X:aV}{k n c C i:Nat}{ns:List Str}{d:List aJ->Option T}{x m:Str}{p pos apos:Pos}{o e:bj}{es:List bj}{as:List mR}{ar:List bz}
def oW(hl:rM X.prog X.w X.K X.mg X.base x k n d)(au:cW k X.A)(av:rU X (e::es) as)(bl:ei X x:=by rfl)(a6:as.length=n:=by rfl)(gc:(x==("__debug__":Str))=false:=by decide)
  (he:bo (e::es) X.env=(false,eval e X.env)::bo es X.env:=by rfl) (hpl:(dM pos (bo es X.env)).any (·.1)=false:=by rfl):cO X (.Call (.Name x p) (e::es) [] pos) (hE d as):=by
 obtain⟨bN,fd,ps,F,hm,aw,b⟩:=hl.ex;refine d5 (yq F au bl hm aw b .nil o4 av gc he hpl) λσ H Q ⟨aE,E,O,F,ε,t,r,e,k⟩=>?_;simp only[hE,cz] at e;obtain⟨ss,es,fp⟩:=e;refine⟨aE,E,O,F,ε,ss,r,es,λvs aY H1 aP q=>⟨?_,aY,ss.map uH,t,aP.cu,?_,fp,λv aG aa b6 bb=>k v aG aa (aP.trans b6) bb⟩⟩
 ·rw[jF,q.len,a6]
 ·rw[jF];exact Dn (r.ext aP) es q
def tB(fq:fm X.K c C ns)(hl:e4 X.prog X.w X.K X.mg X.base C m k n d)(au:cW k X.A)(a6:bQ X o (fU i))(av:kN X (e::es) ar){pl:Sem Bool}(hm:m∉ns:=by decide +kernel)(aB:ar.length+1=n:=by rfl)
  (gJ:bo (e::es) X.env=(false,eval e X.env)::bo es X.env:=by rfl) (hpl:(dM pos (bo es X.env)).any (·.1)=false:=by rfl)
  (aX:eval (.Call (.Attribute o m apos) (e::es) [] pos) X.env=(do
   let d0 <- eval o X.env
   standAt apos.atName
   let (f,first) <- holding [d0] (getMethod d0 m pl)
   callWith pos f first (dM pos (bo (e::es) X.env)) (mG pos (mF [] X.env))):=by rfl):cO X (.Call (.Attribute o m apos) (e::es) [] pos) (eu c d i ar):=by
 obtain⟨bN,fd,ps,F,gU,b⟩:=hl.ex;refine d5 (LB a6 fq.cls gU F au b .nil o4 av gJ hpl aX) λσ H Q ⟨aE,E,O,F,ε,t,r,e,k⟩=>?_;simp only[eu,cz] at e;obtain⟨⟨dq,os⟩,aF,ts,bw,fp⟩:=e;obtain⟨a,vs,ba,af,hx,_⟩:=l5 fq r aF;refine⟨_,af,a,ba,_,rfl,hx,q9 hm,aE,E,O,F,ε,ts,r,bw,λws aY H1 aP q=>⟨?_,aY,_,t,aP.cu,?_,fp,λv aG aa b6 bb=>k v aG aa (aP.trans b6) bb⟩⟩
 ·rw[jF,eJ,<- q.length,amh bw,aB]
 ·rw[jF];have bg:=r.ext aP;obtain⟨iU,dU,rs⟩:=bg.val i _ (l2 aF);rw[af] at dU;cases dU;refine .cons ⟨rfl,vP rs _ _ λb U=>?_⟩ (LA q);obtain⟨o,e,_⟩:=rs.at U;show H1 b≠none;rw[e];exact λz=>by cases z
def rj(fq:fm X.K c C ns)(hl:e4 X.prog X.w X.K X.mg X.base C m k n d)(au:cW k X.A)(a6:bQ X o (fU i)){pl:Sem Bool}(hm:m∉ns:=by decide +kernel)(aB:1=n:=by rfl)
  (aX:eval (.Call (.Attribute o m apos) [] [] pos) X.env=(do
   let d0 <- eval o X.env
   standAt apos.atName
   let (f,first) <- holding [d0] (getMethod d0 m pl)
   callWith pos f first (dM pos (bo [] X.env)) (mG pos (mF [] X.env))):=by rfl):cO X (.Call (.Attribute o m apos) [] [] pos) (eu c d i []):=by
 obtain⟨bN,fd,ps,F,gU,b⟩:=hl.ex;refine d5 (CU a6 fq.cls gU F au b .nil o4 aX) λσ H Q ⟨aE,E,O,F,ε,t,r,e,k⟩=>?_;simp only[eu,cz] at e;obtain⟨⟨dq,os⟩,aF,ts,bw,fp⟩:=e;cases bw;obtain⟨a,vs,ba,af,hx,_⟩:=l5 fq r aF;refine⟨_,af,a,ba,_,rfl,hx,q9 hm,⟨?_,F,_,t,r.cu,?_,fp,λv aG aa b6 bb=>k v aG aa b6 bb⟩⟩
 ·simp[aB]
 ·obtain⟨iU,dU,rs⟩:=r.val i _ (l2 aF);rw[af] at dU;cases dU;refine .cons ⟨rfl,vP rs _ _ λb U=>?_⟩ .nil;obtain⟨o,e,_⟩:=rs.at U;show H b≠none;rw[e];exact λz=>by cases z
end
end
section
variable [cJ]
open Classical in
noncomputable def fY(H:ay)(P:List ag)(a:ag):gj:=⟨λb=>if b∈P then none else H b,a⟩
section
variable {K:a9}{F aG aE O:ag->Prop}{H aa:ay}{E:gj}{P:List ag}{a b:ag}{o:ea}{ε:Ev}{σ:bh.St}{c i:Nat}{m:gm}{ar gs:List aJ}
def yn(h:b∈P):(fY H P a).h b=none:=if_pos h
def rg(h:b∉P):(fY H P a).h b=H b:=if_neg h
def Cz(h:(fY H P a).h b=none):b∈P\/H b=none:=by
 by_cases z:b∈P
 ·exact .inl z
 ·rw[rg z] at h;exact .inr h
def ag6(h:(fY H P a).h b=some o):b∉P/\H b=some o:=by
 by_cases z:b∈P
 ·rw[yn z] at h;cases h
 ·exact⟨z,by rw[rg z] at h;exact h⟩
def Sl(d:fE F H):Ext F (fY H P a).h F H:=⟨λ_ _ q=>.inl (ag6 q).2,λ_ h=>h,λ_ h=>.inl h,d⟩
def ajt{v:V}(r:d1 K E O F H (.obj m c ar) (.ref a)):d1 K (fY H (dB H (.obj m c ar) (.ref a)) a) (λb=>(fY H (dB H (.obj m c ar) (.ref a)) a).h b=none) F H (.obj .b_ c ar) (.ref a):=by
 obtain⟨jR,vs,e,av,hf,a',fL,ie⟩:=r;cases e;rw[j8 av];exact⟨a,vs,rfl,av,hf,a',λb U=>⟨(fL b U).1,yn U⟩,λ_=>rfl⟩
def cP.back(r:cP K aE E O F H ε σ)(e:ε[i]?=some (some (.obj m c ar)))(hm:m≠.cI)(af:σ[i]?=some (some (.ref a)))(gu:P=dB H (.obj m c ar) (.ref a))(x:Ext F (fY H P a).h aG aa)
  (rs:d1 K (fY H P a) (λb=>(fY H P a).h b=none) aG aa (.obj .b_ c gs) (.ref a)):ej K F H aG aa/\cP K aE E O aG aa (ε.set i (some (.obj m c gs))) σ:=by
 obtain⟨v,dU,jy⟩:=r.val i _ e;rw[af] at dU;cases dU;have wK:(aJ.obj m c ar).iN=true:=Dc hm;have sA:∀b∈P,(∃o,H b=some o/\mX o)/\¬F b/\O b:=λb U=>by
  rw[gu] at U;exact⟨jy.at U,(jy.held U).1,(jy.held U).2.1 wK⟩
 have jA:∀b o,b∉P->H b=some o->(∀ps,o≠.hV ps)->aa b=some o:=λb o U e n=>x.same.get (by rw[rg U];exact e) n;have aw:ej K F H aG aa:=by
  refine⟨λb xs q=>?_,λb xs f q=>⟨x.sub b f,?_⟩⟩
  ·rcases q with q|q
   ·refine .inl ?_
    have nb:b∉P:=λz=>by
     obtain⟨⟨o,eH,aF⟩,_⟩:=sA b z;rcases q with q|⟨_,q⟩ <;> (rw[eH] at q;cases q;exact aF.cases (λ_ z=>by cases z) (λ_ z=>by cases z) (λ_ _ _ z=>by cases z))
    rcases q with q|⟨u,q⟩
    ·exact .inl (jA b _ nb q λ_ z=>by cases z)
    ·exact .inr ⟨u,jA b _ nb q λ_ z=>by cases z⟩
   ·exact .inr q
  ·have nb:b∉P:=λz=>(sA b z).2.1 f;rcases q with q|⟨u,q⟩
   ·exact .inl (jA b _ nb q λ_ z=>by cases z)
   ·exact .inr ⟨u,jA b _ nb q λ_ z=>by cases z⟩
 have O0:∀b,aG b->F b\/b∈P\/H b=none:=λb f=>by
  rcases x.new b f with z|z
  ·exact .inl z
  ·exact .inr (Cz z)
 have keep:∀(j:Nat) (u:aJ) (w:V),i≠j->ε[j]?=some (some u)->σ[j]?=some (some w)->d1 K E O F H u w->(∀b∈dB H u w,b∉P)/\d1 K E O aG aa u w/\dB aa u w=dB H u w:=by
  intro j u w i_ amc bR c9;have sJ:∀b∈dB H u w,b∉P:=λb U z=>by
   cases qN:u.iN with
   |true=>exact r.ne i j _ u _ w i_ e amc wK qN af bR b (gu▸z) U
   |false=>exact (c9.held U).2.2 qN (r.o0 b (sA b z).2.2)
  refine⟨sJ,c9.keep aw (λb U=>?_) (λb U f=>?_) λ_ _ o=>o⟩
  ·obtain⟨o,eH,aF⟩:=c9.at U;rw[eH];exact jA b o (sJ b U) eH λps z=>by subst z;exact aF.cases (λ_ z=>by cases z) (λ_ z=>by cases z) (λ_ _ _ z=>by cases z)
  ·rcases O0 b f with z|z|z
   ·exact z
   ·exact absurd z (sJ b U)
   ·obtain⟨o,eH,_⟩:=c9.at U;rw[z] at eH;cases eH
 obtain⟨jR,vs,b',av,hf,a',fL,_⟩:=rs;cases b';have jY:∀b∈a::da gs vs,¬aG b/\(b∈P\/H b=none):=λb U=>by
  obtain⟨n,q⟩:=fL b U;exact⟨n,Cz q⟩
 have alM:(aJ.obj m c gs).iN=true:=Dc hm;have aaG:m=.b_->a=E.ie:=by
  obtain⟨_,_,b7,_,_,_,_,ie⟩:=jy;cases b7;exact ie
 have acT:∀b,¬aG b/\O b->amq E O aG m b:=λb h=>by
  cases m with
  |cI=>exact absurd rfl hm
  |own=>exact h
  |b_=>exact h
 have sS:d1 K E O aG aa (.obj m c gs) (.ref a):=⟨a,vs,rfl,av,hf,a',λb U=>acT b ⟨(jY b U).1,by
  rcases (jY b U).2 with z|z
  ·exact (sA b z).2.2
  ·exact r.fr b z⟩,aaG⟩
 have i9:dB aa (.obj m c gs) (.ref a)=a::da gs vs:=j8 av;have apart:∀(j:Nat) (u:aJ) (w:V),i≠j->ε[j]?=some (some u)->σ[j]?=some (some w)->d1 K E O F H u w->∀b∈dB aa (.obj m c gs) (.ref a),b∉dB H u w:=λj u w i_ amc bR c9 b U i8=>by
  rw[i9] at U;rcases (jY b U).2 with z|z
  ·exact (keep j u w i_ amc bR c9).1 b i8 z
  ·obtain⟨o,eH,_⟩:=c9.at i8;rw[z] at eH;cases eH
 refine⟨aw,⟨by simp[r.len],λj u bS=>?_,λj k u w nx lR oi aD aO dH d3 aM bb=>?_,⟨λb o q=>?_,λb f=>x.sub b (r.ent.sub b f),λb f=>?_,x.cu⟩,r.o0,λb bS=>?_⟩⟩
 ·rcases get_set bS with ⟨rfl,pC,aB⟩|⟨ne,pC⟩
  ·cases pC
   exact⟨_,af,sS⟩
  ·obtain⟨w,ak,c9⟩:=r.val j u pC;exact⟨w,ak,(keep j u w ne pC ak c9).2.1⟩
 ·rcases get_set aD with ⟨rfl,bS,aB⟩|⟨ne1,jW⟩
  ·rcases get_set aO with ⟨rfl,_,_⟩|⟨ne2,hr⟩
   ·exact absurd rfl oi
   ·cases bS
    rw[af] at aM;cases aM;obtain⟨gA,ak,c9⟩:=r.val k w hr;rw[bb] at ak;cases ak;rw[(keep k w lR ne2 hr bb c9).2.2];exact apart k w lR ne2 hr bb c9
  ·obtain⟨v1,ak,bg⟩:=r.val j u jW;rw[aM] at ak;cases ak;rw[(keep j u nx ne1 jW aM bg).2.2];rcases get_set aO with ⟨rfl,bS,aB⟩|⟨ne2,hr⟩
   ·cases bS
    rw[af] at bb;cases bb;intro b U i8;exact apart j u nx ne1 jW aM bg b i8 U
   ·obtain⟨gA,bB,b5⟩:=r.val k w hr;rw[bb] at bB;cases bB;rw[(keep k w lR ne2 hr bb b5).2.2];exact r.ne j k u w nx lR oi jW hr dH d3 aM bb
 ·have nb:b∉P:=λz=>by
   rw[r.o0 b (sA b z).2.2] at q;cases q
  rcases r.ent.same b o q with z|⟨ps,xc,aD,z⟩
  ·exact x.same b o (by rw[rg nb];exact z)
  ·rcases x.same b _ (by rw[rg nb];exact z) with gC|⟨_,xd,_,gC⟩
   ·exact .inr ⟨ps,xc,aD,gC⟩
   ·exact .inr ⟨ps,xd,aD,gC⟩
 ·rcases O0 b f with z|z|z
  ·exact r.ent.new b z
  ·exact .inr (r.o0 b (sA b z).2.2)
  ·exact .inr (r.o0 b (r.fr b z))
 ·rcases Cz (x.same.none bS) with z|z
  ·exact (sA b z).2.2
  ·exact r.fr b z
end
noncomputable def qU(K:a9)(n c p:Nat)(d:List aJ->Option (T×List aJ)):jQ:=λvs H Q _=>vs.length=n/\∃(F:ag->Prop) (ss:List aJ) (a:ag) (P:List ag) (ar:List aJ) (r:T×List aJ),fE F H/\vs[p]?=some (.ref a)/\ss[p]?=some (.obj .b_ c ar) /\
 Paired (λs v=>d1 K (fY H P a) (λb=>(fY H P a).h b=none) F H s v) ss vs/\(∀q s,q≠p->ss[q]?=some s->s.iN=false)/\d ss=some r /\
 ∀v aG aa,Ext F (fY H P a).h aG aa->Rep K aG aa r.1 v->d1 K (fY H P a) (λb=>(fY H P a).h b=none) aG aa (.obj .b_ c r.2) (.ref a)->Q v aa
section
variable {P:cA}{w:bZ}{K:a9}{mg:Str->Option aj}{base:bE}
def QR{c p:Nat}{ε:Ev}{ar:List aJ}(h:ji c p ε=some ar):ε[p]?=some (some (.obj .b_ c ar)):=by
 unfold ji at h;split at h
 next bW gs e=>
  split at h
  next ax=>
   cases h
   rw[e,ax]
  next=>cases h
 next=>cases h
def S2{x qual:Str}{st:Stmt}{f:ag}{fd:dV}{N ps:List Str}{k c p:Nat}{b:bA}(F:alX K x qual st f fd)(S:cK N ps (bt st))
  (U:∀(bu:aj) (A:cH) (outer:List Env) (s:aI) (H:ay) (E:eF),cW k (A.deeper (envOfC qual (bt st) s.heap.objs.size f bu)) ->
   hF (eN di P w K mg base N qual (bt st) f bu A outer s H E).dv (fc st) b):
  ez P w K mg base di (k+1) f fd ps (qU K ps.length c p (runM c p b N.length)):=by
 refine F.ok S (λvs H Q E h=>h.1) λbu A outer s H vs Q E au h=>⟨_,U bu A outer s H E au,?_⟩
 obtain⟨aB,F,ss,a,kd,ar,r,cu,br,aA,q,aF,e,iP⟩:=h;simp only[runM,cz] at e;obtain⟨o,eH,e⟩:=e;have hlen:ss.length=vs.length:=Paired.length q;refine⟨F,fY H kd a,λb=>(fY H kd a).h b=none,F,_,o,?_,eH,?_⟩
 ·unfold bh.start;refine⟨by simp[jI,hlen],λi s e=>?_,λi j s u v w i_ aD aO dH d3=>?_,Sl cu,λ_ h=>h,λb U=>?_⟩
  ·obtain⟨v,br,bP⟩:=Paired.get q (rf e);exact⟨v,K1 br,bP⟩
  ·by_cases bc:i=p
   ·subst bc;rw[aF j u (Ne.symm i_) (rf aO)] at d3;cases d3
   ·rw[aF i s bc (rf aD)] at dH;cases dH
  ·by_cases z:b∈kd
   ·exact yn z
   ·exact (rg z).trans U
 ·have fin:∀{ε':Ev} {cg:bh.St} {aG:ag->Prop} {aa:ay} {gs:List aJ},cP K F (fY H kd a) (λb=>(fY H kd a).h b=none) aG aa ε' cg->ji c p ε'=some gs->d1 K (fY H kd a) (λb=>(fY H kd a).h b=none) aG aa (.obj .b_ c gs) (.ref a):=λcq gQ=>by
   obtain⟨iU,_,rs⟩:=cq.val p _ (QR gQ);have sS:=rs;obtain⟨jR,_,rfl,_,_,_,_,ie⟩:=rs;have:jR=a:=ie rfl;subst this;exact sS
  cases o with
  |d4 t'=>cases e
  |bK ε'=>
   simp only[dE] at e;obtain⟨gs,gQ,rfl⟩:=e;exact λcg aG aa _ cq=>iP _ aG aa cq.ent (by simp[Rep]) (fin cq gQ)
  |gp _=>cases e
  |dN _=>cases e
  |ij t ε'=>
   simp only[dE] at e;obtain⟨gs,gQ,rfl⟩:=e;exact λv cg aG aa cq bP=>iP v aG aa cq.ent bP (fin cq gQ)
  |kZ _=>cases e
structure cR(P:cA)(w:bZ)(K:a9)(mg:Str->Option aj)(base:bE)(C:ag)(c:Nat)(m:Str)(k n:Nat)(d:List aJ->Option (T×List aJ)):Prop where
 ex:∃bN fd ps,ez P w K mg base di k bN fd ps (qU K n c 0 d)/\Meth K C m bN/\Binds K fd ps []
theorem cR.mono{C:ag}{c:Nat}{m:Str}{k n j:Nat}{d:List aJ->Option (T×List aJ)}(h:cR P w K mg base C c m j n d)(bR:j<=k):cR P w K mg base C c m k n d:=by
 obtain⟨bN,fd,ps,F,r⟩:=h.ex;exact⟨bN,fd,ps,F.mono bR,r⟩
def hB{C:ag}{m qual:Str}{st:Stmt}{f:ag}{fd:dV}{N ps:List Str}{k c:Nat}{b:bA}(F:alX K m qual st f fd)(S:cK N ps (bt st))(bd:Binds K fd ps [])(gU:Meth K C m f)
  (U:∀(bu:aj) (A:cH) (outer:List Env) (s:aI) (H:ay) (E:eF),cW k (A.deeper (envOfC qual (bt st) s.heap.objs.size f bu)) ->
   hF (eN di P w K mg base N qual (bt st) f bu A outer s H E).dv (fc st) b):cR P w K mg base C c m (k+1) ps.length (runM c 0 b N.length):=⟨f,fd,ps,S2 F S U,gU,bd⟩
structure rL(P:cA)(w:bZ)(K:a9)(mg:Str->Option aj)(base:bE)(x:Str)(c p k n:Nat)(d:List aJ->Option (T×List aJ)):Prop where
 ex:∃bN fd ps,ez P w K mg base di k bN fd ps (qU K n c p d)/\mg x=some (.ref bN)/\kv K (.ref bN)=true/\Binds K fd ps []
theorem rL.mono{x:Str}{c p k n j:Nat}{d:List aJ->Option (T×List aJ)}(h:rL P w K mg base x c p j n d)(bR:j<=k):rL P w K mg base x c p k n d:=by
 obtain⟨bN,fd,ps,F,r⟩:=h.ex;exact⟨bN,fd,ps,F.mono bR,r⟩
end
def xq(K:a9)(f:g6):TE:=λσ H Q=>∃aE E O F ε t ε',cP K aE E O F H ε σ/\f ε=some (t,ε')/\∀v aG aa,ej K F H aG aa->cP K aE E O aG aa ε' σ->Rep K aG aa t v->Q v aa
abbrev kO(X:aV)(e:bj)(f:g6):Prop:=bQ X e (xq X.K f)
section
variable {X:aV}{k n c C i:Nat}{ns:List Str}{d:List aJ->Option (T×List aJ)}{x m:Str}{p pos apos:Pos}{o e:bj}{es:List bj}{ar fA:List bz}{uk:g6}
theorem Lz{K:a9}{E:gj}{O F:ag->Prop}{H:ay}:∀{ts:List T} {vs:List V},bG K F H ts vs->Paired (λs v=>d1 K E O F H s v) (ts.map .ae) vs
| [],vs,h=>by
  simp only[bG] at h;subst h;exact .nil
|t::ts,vs,h=>by
  simp only[bG] at h;obtain⟨v,z,rfl,q,h⟩:=h;exact .cons q (Lz h)
def SX{ts:List T}{q:Nat}{s:aJ}(h:(ts.map aJ.ae)[q]?=some s):s.iN=false:=by
 rw[la] at h;cases e:ts[q]? with
|none=>rw[e] at h;cases h
|some t=>rw[e] at h;cases h;rfl
def Ll{σ:bh.St}{H H1:ay}{aE O F aY:ag->Prop}{E:gj}{ε:Ev}{dq:gm}{os:List aJ}{a:ag}{Q:dj}{ws:List V}{ts:List T}{r:T×List aJ}(rE:cP X.K aE E O F H ε σ)(aF:dm c i ε=some (dq,os))(hm:dq≠.cI)(af:σ[i]?=some (some (.ref a)))
  (aP:Ext F H aY H1) (q:bG X.K aY H1 ts ws) (fp:d (.obj .b_ c os::ts.map .ae)=some r) (aB:ts.length+1=n)
  (bV:∀v aG aa,ej X.K F H aG aa->cP X.K aE E O aG aa (ε.set i (some (.obj dq c r.2))) σ->Rep X.K aG aa r.1 v->Q v aa):qU X.K n c 0 d (.ref a::ws) H1 Q jm:=by
 have bg:=rE.ext aP;obtain⟨iU,dU,rs⟩:=bg.val i _ (l2 aF);rw[af] at dU;cases dU;refine⟨by simp[<- q.length,aB],aY,_,a,dB H1 (.obj dq c os) (.ref a),os,r,aP.cu,rfl,rfl,.cons (ajt (v:=.ref a) rs) (Lz q),λj s bR aA=>?_,fp,λv aG aa b6 bP adU=>?_⟩
 ·cases j with
  |zero=>exact absurd rfl bR
  |succ j=>exact SX (q:=j) (by simpa using aA)
 ·obtain⟨aw,b5⟩:=bg.back (l2 aF) hm af rfl b6 adU;exact bV v aG aa (aP.aw.trans aw) b5 bP
def eC(fq:fm X.K c C ns)(hl:cR X.prog X.w X.K X.mg X.base C c m k n d)(au:cW k X.A)(a6:bQ X o (fU i))(av:kN X (e::es) ar){pl:Sem Bool}(hm:m∉ns:=by decide +kernel)(aB:ar.length+1=n:=by rfl)
  (gJ:bo (e::es) X.env=(false,eval e X.env)::bo es X.env:=by rfl) (hpl:(dM pos (bo es X.env)).any (·.1)=false:=by rfl)
  (aX:eval (.Call (.Attribute o m apos) (e::es) [] pos) X.env=(do
   let d0 <- eval o X.env
   standAt apos.atName
   let (f,first) <- holding [d0] (getMethod d0 m pl)
   callWith pos f first (dM pos (bo (e::es) X.env)) (mG pos (mF [] X.env))):=by rfl):kO X (.Call (.Attribute o m apos) (e::es) [] pos) (cZ c d i ar):=by
 obtain⟨bN,fd,ps,F,gU,b⟩:=hl.ex;refine d5 (LB a6 fq.cls gU F au b .nil o4 av gJ hpl aX) λσ H Q ⟨aE,E,O,F,ε,t,ε',r,e,bV⟩=>?_;simp only[cZ,cz] at e;obtain⟨⟨dq,os⟩,aF,e⟩:=e;split at e
 next=>cases e
 next wG=>
  simp only[cz,dE] at e;obtain⟨ts,bw,cq,fp,e⟩:=e;cases e;obtain⟨a,vs,ba,af,hx,_⟩:=l5 fq r aF;refine⟨_,af,a,ba,_,rfl,hx,q9 hm,aE,E,O,F,ε,ts,r,bw,λws aY H1 aP q=>?_⟩;show qU X.K n c 0 d (V.ref a::(ws++[])) H1 Q jm;rw[jF];exact Ll r aF wG af aP q fp (by rw[amh bw,aB]) bV
def ri(fq:fm X.K c C ns)(hl:cR X.prog X.w X.K X.mg X.base C c m k n d)(au:cW k X.A)(a6:bQ X o (fU i)){pl:Sem Bool}(hm:m∉ns:=by decide +kernel)(aB:1=n:=by rfl)
  (aX:eval (.Call (.Attribute o m apos) [] [] pos) X.env=(do
   let d0 <- eval o X.env
   standAt apos.atName
   let (f,first) <- holding [d0] (getMethod d0 m pl)
   callWith pos f first (dM pos (bo [] X.env)) (mG pos (mF [] X.env))):=by rfl):kO X (.Call (.Attribute o m apos) [] [] pos) (cZ c d i []):=by
 obtain⟨bN,fd,ps,F,gU,b⟩:=hl.ex;refine d5 (CU a6 fq.cls gU F au b .nil o4 aX) λσ H Q ⟨aE,E,O,F,ε,t,ε',r,e,bV⟩=>?_;simp only[cZ,cz] at e;obtain⟨⟨dq,os⟩,aF,e⟩:=e;split at e
 next=>cases e
 next wG=>
  simp only[cz,dE] at e;obtain⟨ts,bw,cq,fp,e⟩:=e;cases e;cases bw;obtain⟨a,vs,ba,af,hx,_⟩:=l5 fq r aF;refine⟨_,af,a,ba,_,rfl,hx,q9 hm,?_⟩;exact Ll r aF wG af (Ext.refl r.cu) bG.nil fp (by simpa using aB) bV
def eD(h:kO X e uk)(nj:jh e none pos.line X.env=pure false:=by rfl):f6 X (.Expr e pos) (dP uk):=g4 (vw h nj) λD σ H ⟨aE,E,O,F,ε,o,r,e,k⟩=>by
 simp only[dP,dE] at e;obtain⟨⟨t,ε'⟩,bw,rfl⟩:=e;exact⟨aE,E,O,F,ε,t,ε',r,bw,λv aG aa aw cq _=>k σ aG aa aw cq⟩
def ru(h:kO X e uk):f6 X (.Return (some e) pos) (ik uk):=g4 (tK h) λD σ H ⟨aE,E,O,F,ε,o,r,e,k⟩=>by
 simp only[ik,dE] at e;obtain⟨⟨t,ε'⟩,bw,rfl⟩:=e;exact⟨aE,E,O,F,ε,t,ε',r,bw,λv aG aa aw cq bP=>k v σ aG aa cq bP⟩
def ajV{f:bz}(h:cO X e f):f6 X (.Return (some e) pos) (qR f):=g4 (tK h) λD σ H ⟨aE,E,O,F,ε,o,r,e,k⟩=>by
 simp only[qR,dE] at e;obtain⟨t,bw,rfl⟩:=e;exact⟨aE,E,O,F,ε,t,r,bw,λv aG aa x bP=>k v σ aG aa (r.ext x) bP⟩
def Lx:f6 X (.Return none pos) p_:=g4 ai9 λD σ H ⟨aE,E,O,F,ε,o,r,e,k⟩=>by
 cases e
 exact k .e0 σ F H r (by simp[Rep])
def SF{st:Stmt}:f6 X st never:=λai s σ H D I ⟨aE,E,O,F,ε,o,r,e,k⟩=>by cases e
def ajX(j:Nat){y:Str}{pos':Pos}(eB:X.N.Nodup)(h:kO X e uk)(bc:X.N[j]?=some y:=by rfl)(hx:Loc X.env.scope y:=by first|exact Or.inl rfl|exact Or.inr rfl)
  (aA:jh e (some (.Name y pos')) pos.line X.env=pure false:=by rfl) (hf:X.fn y=true\/X.env.scope.names.lookup y=some .local:=by first|exact .inl rfl|exact .inr rfl):
  f6 X (.Assign [.Name y pos'] e pos) (n4 j uk):=g4 (vH eB bc hx h aA hf) λD σ H ⟨aE,E,O,F,ε,o,r,e,k⟩=>by
 simp only[n4,dE] at e;obtain⟨⟨t,ε'⟩,bw,rfl⟩:=e;exact⟨aE,E,O,F,ε,t,ε',r,bw,λv aG aa aw cq bP=>k _ aG aa aw (cq.set j bP)⟩
end
end
section
variable [cJ]
noncomputable def tO(K:a9)(f:ck):TE:=λσ H Q=>∃aE E O F ε s,cP K aE E O F H ε σ/\f ε=some s/\∀a aG aa,Ext F H aG aa->d1 K E O aG aa s (.ref a)->(∀b∈dB aa s (.ref a),H b=none)->Q (.ref a) aa
abbrev v_(X:aV)(e:bj)(f:ck):Prop:=bQ X e (tO X.K f)
noncomputable def Pr(K:a9)(n:Nat)(d:List T->Option aJ):jQ:=λvs H Q _=>vs.length=n/\∃F ts s,fE F H/\bG K F H ts vs/\d ts=some s/\∀a aG aa,Ext F H aG aa->d1 K ⟨H,0⟩ (λb=>H b=none) aG aa s (.ref a)->Q (.ref a) aa
def Rp{s t:aJ}(h:Bc s=some t):∃c os,s=.obj .own c os/\t=.obj .own c os:=by
 unfold Bc at h;split at h
 ·cases h
  exact⟨_,_,rfl,rfl⟩
 ·cases h
section
variable {P:cA}{w:bZ}{K:a9}{mg:Str->Option aj}{base:bE}
def ajD{x qual:Str}{st:Stmt}{f:ag}{fd:dV}{N ps:List Str}{k:Nat}{b:bA}(F:alX K x qual st f fd)(S:cK N ps (bt st))
  (U:∀(bu:aj) (A:cH) (outer:List Env) (s:aI) (H:ay) (E:eF),cW k (A.deeper (envOfC qual (bt st) s.heap.objs.size f bu)) ->
   hF (eN di P w K mg base N qual (bt st) f bu A outer s H E).dv (fc st) b):
  ez P w K mg base di (k+1) f fd ps (Pr K ps.length (sT b N.length)):=by
 refine F.ok S (λvs H Q E h=>h.1) λbu A outer s H vs Q E au h=>⟨_,U bu A outer s H E au,?_⟩
 obtain⟨aB,F,ts,t,cu,q,e,iP⟩:=h;simp only[sT,cz] at e;obtain⟨o,eH,e⟩:=e;refine⟨F,⟨H,0⟩,λa=>H a=none,F,_,o,?_,eH,?_⟩
 ·have:=Q2 (N:=N) cu q (N.length - ts.length);unfold bh.start;rw[q.length] at this ⊢;exact this
 ·cases o with
  |kZ s=>
   obtain⟨c,os,rfl,rfl⟩:=Rp e;exact λa aG aa x rs=>iP a aG aa x rs
  |bK ε'=>cases e
  |gp _=>cases e
  |dN _=>cases e
  |ij _ _=>cases e
  |d4 _=>cases e
structure o_(P:cA)(w:bZ)(K:a9)(mg:Str->Option aj)(base:bE)(x:Str)(k n:Nat)(d:List T->Option aJ):Prop where
 ex:∃bN fd ps,ez P w K mg base di k bN fd ps (Pr K n d)/\mg x=some (.ref bN)/\kv K (.ref bN)=true/\Binds K fd ps []
theorem o_.mono{x:Str}{k n j:Nat}{d:List T->Option aJ}(c:o_ P w K mg base x j n d)(h:j<=k):o_ P w K mg base x k n d:=by
 obtain⟨bN,fd,ps,F,r⟩:=c.ex;exact⟨bN,fd,ps,F.mono h,r⟩
def akG{x:Str}{st:Stmt}{f:ag}{fd:dV}{N ps:List Str}{k:Nat}{b:bA}(F:alX K x x st f fd)(S:cK N ps (bt st))(bd:Binds K fd ps [])(m:mg x=some (.ref f))
  (U:∀(bu:aj) (A:cH) (outer:List Env) (s:aI) (H:ay) (E:eF),cW k (A.deeper (envOfC x (bt st) s.heap.objs.size f bu)) ->
   hF (eN di P w K mg base N x (bt st) f bu A outer s H E).dv (fc st) b):o_ P w K mg base x (k+1) ps.length (sT b N.length):=⟨f,fd,ps,ajD F S U,m,F.aw,bd⟩
structure o9(P:cA)(w:bZ)(K:a9)(mg:Str->Option aj)(base:bE)(x:Str)(C:ag)(c k n:Nat)(d:List aJ->Option (T×List aJ)):Prop where
 ex:∃bN fd ps,ez P w K mg base di k bN fd ps (qU K n c 0 d)/\tX K C bN/\mg x=some (.ref C)/\Binds K fd ps []
theorem o9.mono{x:Str}{C:ag}{c k n j:Nat}{d:List aJ->Option (T×List aJ)}(h:o9 P w K mg base x C c j n d)(bR:j<=k):o9 P w K mg base x C c k n d:=by
 obtain⟨bN,fd,ps,F,r⟩:=h.ex;exact⟨bN,fd,ps,F.mono bR,r⟩
def TG{x:Str}{C:ag}{qual:Str}{st:Stmt}{f:ag}{fd:dV}{N ps:List Str}{k c:Nat}{b:bA}(F:alX K "__init__" qual st f fd)(S:cK N ps (bt st))(bd:Binds K fd ps [])(gU:tX K C f)(m:mg x=some (.ref C))
  (U:∀(bu:aj) (A:cH) (outer:List Env) (s:aI) (H:ay) (E:eF),cW k (A.deeper (envOfC qual (bt st) s.heap.objs.size f bu)) ->
   hF (eN di P w K mg base N qual (bt st) f bu A outer s H E).dv (fc st) b):o9 P w K mg base x C c (k+1) ps.length (runM c 0 b N.length):=⟨f,fd,ps,S2 F S U,gU,m,bd⟩
end
section
variable {X:aV}{k n c C i j:Nat}{ns:List Str}{x m f:Str}{p pos apos:Pos}{o e:bj}{es:List bj}{ar:List bz}{qs:ck}
def SH{K:a9}{E E':gj}{O m1 aG:ag->Prop}{aa:ay}{m:gm}{c:Nat}{os:List aJ}{a:ag}(rs:d1 K E' m1 aG aa (.obj m c os) (.ref a))(hm:m≠.cI)(h:∀b,m1 b->O b):d1 K E O aG aa (.obj .own c os) (.ref a):=by
 obtain⟨jR,vs,e,av,hf,a',fL,_⟩:=rs;refine⟨jR,vs,e,av,hf,a',λb U=>⟨(fL b U).1,h b ?_⟩,λz=>by cases z⟩;have q:=(fL b U).2;cases m with
|cI=>exact absurd rfl hm
|own=>exact q
|b_=>exact q
def Dv{d:List aJ->Option (T×List aJ)}(fq:fm X.K c C ns)(hl:o9 X.prog X.w X.K X.mg X.base x C c k n d)(au:cW (k+1) X.A)(av:kN X (e::es) ar)(bl:ei X x:=by rfl)(aB:ar.length+1=n:=by rfl)(gc:(x==("__debug__":Str))=false:=by decide)
  (he:bo (e::es) X.env=(false,eval e X.env)::bo es X.env:=by rfl) (hpl:(dM pos (bo es X.env)).any (·.1)=false:=by rfl):v_ X (.Call (.Name x p) (e::es) [] pos) (ox c d ar):=by
 obtain⟨bN,fd,ps,F,M,hm,b⟩:=hl.ex;refine d5 (aje M F au bl hm b .nil o4 av gc he hpl) λσ H Q ⟨aE,E,O,F,ε,s,r,e,bV⟩=>?_;simp only[ox,cz] at e;obtain⟨ts,bw,cq,fp,e⟩:=e;refine⟨aE,E,O,F,ε,ts,r,bw,λws aY H1 aP q=>λy ba a7 Oh ng=>?_⟩;rw[jF];have _k:upd (upd H1 ba (.own y)) y (.ins C ba []) y=some (.ins C ba []):=er;have mn:∀bk:ay,bk y=some (.ins C ba [])->h1 bk y c []:=λbk e=>by
  refine⟨mE _,?_⟩
  rw[fq.md];exact⟨ba,by simpa using e⟩
 have qI:∀b,b≠y->b≠ba->upd (upd H1 ba (.own y)) y (.ins C ba []) b=H1 b:=λb af ak=>by rw[cQ af,cQ ak]
 have PM:Ext aY H1 aY (upd H1 ba (.own y)):=Ext.laid aP.cu Oh;have _j:upd H1 ba (.own y) y=none:=by rw[cQ (Ne.symm ng)];exact a7
 have JQ:Ext aY H1 aY (upd (upd H1 ba (.own y)) y (.ins C ba [])):=PM.trans (Ext.laid PM.cu _j);have A3:¬aY y:=λz=>by
  obtain⟨o,e⟩:=aP.cu y z;rw[a7] at e;cases e
 split at e
 next qz=>
  cases e
  refine⟨by simp[<- q.length,amh bw,aB],aY,.obj .b_ c []::ts.map .ae,y,[y],[],cq,JQ.cu,rfl,rfl,.cons ⟨y,[],rfl,mn _ _k,rfl,by simp[da],λb U=>?_,λ_=>rfl⟩ (Lz (q.ext JQ)),λj s bR aA=>?_,fp,λv aG aa b6 bP rs=>?_⟩
  ·have:b=y:=by simpa [da] using U
   subst this;exact⟨A3,yn (by simp)⟩
  ·cases j with
   |zero=>exact absurd rfl bR
   |succ j=>exact SX (q:=j) (by simpa using aA)
  ·rw[qz] at bP;refine⟨by simpa [Rep] using bP,?_⟩;have I3:∀b,(fY (upd (upd H1 ba (.own y)) y (.ins C ba [])) [y] y).h b=none->H b=none:=λb U=>by
    rcases Cz U with z|z
    ·have:b=y:=by simpa using z
     rw[this];exact aP.same.none a7
    ·exact aP.same.none (JQ.same.none z)
   have c8:Ext F H aG aa:=by
    refine⟨λb o q=>?_,λb z=>b6.sub b (aP.sub b z),λb z=>?_,b6.cu⟩
    ·have step:∀u,H1 b=some u->(fY (upd (upd H1 ba (.own y)) y (.ins C ba [])) [y] y).h b=some u:=λu aD=>by
      have gv:b≠y:=λz=>by rw[z,a7] at aD;cases aD
      have gd:b≠ba:=λz=>by rw[z,Oh] at aD;cases aD
      rw[rg (by simpa using gv),qI b gv gd];exact aD
     rcases aP.same b o q with z|⟨ps,xc,aD,z⟩
     ·exact b6.same b o (step _ z)
     ·rcases b6.same b _ (step _ z) with gC|⟨_,xd,_,gC⟩
      ·exact .inr ⟨ps,xc,aD,gC⟩
      ·exact .inr ⟨ps,xd,aD,gC⟩
    ·rcases b6.new b z with z|z
     ·exact aP.new b z
     ·exact .inr (I3 b z)
   refine bV y aG aa c8 (SH rs (by decide) λb U=>r.fr b (I3 b U)) λb U=>?_
   obtain⟨jR,vs,b',mm,hf,a',fL,_⟩:=rs;cases b';rw[j8 mm] at U;exact I3 b (fL b U).2
 next=>cases e
def L0{d:List T->Option aJ}(hl:o_ X.prog X.w X.K X.mg X.base x k n d)(hd:∀ts s,d ts=some s->∃c os,s=.obj .own c os)(au:cW k X.A)(av:kN X (e::es) ar)(bl:ei X x:=by rfl)(aB:ar.length=n:=by rfl)(gc:(x==("__debug__":Str))=false:=by decide)
  (he:bo (e::es) X.env=(false,eval e X.env)::bo es X.env:=by rfl) (hpl:(dM pos (bo es X.env)).any (·.1)=false:=by rfl):v_ X (.Call (.Name x p) (e::es) [] pos) (rF d ar):=by
 obtain⟨bN,fd,ps,F,hm,aw,b⟩:=hl.ex;refine d5 (yq F au bl hm aw b .nil o4 av gc he hpl) λσ H Q ⟨aE,E,O,F,ε,s,r,e,bV⟩=>?_;simp only[rF,cz] at e;obtain⟨ts,bw,fp⟩:=e;obtain⟨c,os,rfl⟩:=hd _ _ fp;refine⟨aE,E,O,F,ε,ts,r,bw,λws aY H1 aP q=>⟨?_,aY,ts,_,aP.cu,by simpa using q,fp,λa aG aa b6 rs=>?_⟩⟩
 ·rw[jF,<- q.length,amh bw,aB]
 ·refine bV a aG aa (aP.trans b6) (SH rs (by decide) λb U=>r.fr b (aP.same.none U)) λb U=>?_
  obtain⟨jR,vs,b',mm,hf,a',fL,_⟩:=rs;cases b';rw[j8 mm] at U;exact aP.same.none (fL b U).2
def aii{b:bA}{n:Nat}{ts:List T}{s:aJ}(h:sT b n ts=some s):∃c os,s=.obj .own c os:=by
 simp only[sT,cz] at h;obtain⟨o,eH,e⟩:=h;cases o with
|kZ s'=>
  obtain⟨c,os,_,rfl⟩:=Rp e;exact⟨c,os,rfl⟩
|_=>cases e
def C8(j:Nat){y:Str}{pos':Pos}(eB:X.N.Nodup)(h:v_ X e qs)(bc:X.N[j]?=some y:=by rfl)(hx:Loc X.env.scope y:=by first|exact Or.inl rfl|exact Or.inr rfl)
  (aA:jh e (some (.Name y pos')) pos.line X.env=pure false:=by rfl) (hf:X.fn y=true\/X.env.scope.names.lookup y=some .local:=by first|exact .inl rfl|exact .inr rfl):
  f6 X (.Assign [.Name y pos'] e pos) (n3 j qs):=g4 (vH eB bc hx h aA hf) λD σ H ⟨aE,E,O,F,ε,o,r,e,k⟩=>by
 simp only[n3,dE] at e;obtain⟨s,es,rfl⟩:=e;exact⟨aE,E,O,F,ε,s,r,es,λa aG aa x rs a6=>k _ aG aa x.aw (r.adZ j x rs a6)⟩
def ajT(a6:bQ X e (fU i)):f6 X (.Return (some e) pos) (xh i):=g4 (tK a6) λD σ H ⟨aE,E,O,F,ε,o,r,e,k⟩=>by
 unfold xh at e;split at e
 next c ar he=>
  cases e
  obtain⟨v,af,rs⟩:=r.val i _ he;have sS:=rs;obtain⟨a,vs,rfl,_⟩:=rs;exact⟨_,af,k a F H r.ent sS⟩
 next=>cases e
def Qw{s:aJ}{os:List aJ}(h:tJ c s=some os):s=.obj .own c os:=by
 unfold tJ at h;split at h
 next bW ar=>
  split at h
  next ax=>
   cases h
   rw[ax]
  next=>cases h
 next=>cases h
def TH{K:a9}{E:gj}{O F:ag->Prop}{H:ay}{os:List aJ}{a:ag}(fq:fm K c C ns)(rs:d1 K E O F H (.obj .own c os) (.ref a)):∃ba vs,H a=some (.ins C ba (ns.zip vs))/\h1 H a c vs/\f7 K F H os vs:=by
 obtain⟨jR,vs,b',av,hf,_⟩:=rs;cases b';obtain⟨aB,hx⟩:=id av;rw[fq.md] at hx;obtain⟨ba,hx⟩:=hx;rw[fq.ff] at hx;exact⟨ba,vs,hx,av,hf⟩
def ak0{d:List aJ->Option T}(fq:fm X.K c C ns)(hl:e4 X.prog X.w X.K X.mg X.base C m k n d)(au:cW k X.A)(aF:v_ X o qs){pl:Sem Bool}(hm:m∉ns:=by decide +kernel)(aB:1=n:=by rfl)
  (aX:eval (.Call (.Attribute o m apos) [] [] pos) X.env=(do
   let d0 <- eval o X.env
   standAt apos.atName
   let (f,first) <- holding [d0] (getMethod d0 m pl)
   callWith pos f first (dM pos (bo [] X.env)) (mG pos (mF [] X.env))):=by rfl):cO X (.Call (.Attribute o m apos) [] [] pos) (A_ c d qs []):=by
 obtain⟨bN,fd,ps,F,gU,b⟩:=hl.ex;refine d5 (CU aF fq.cls gU F au b .nil o4 aX) λσ H Q ⟨aE,E,O,F,ε,t,r,e,k⟩=>?_;simp only[A_,cz] at e;obtain⟨s,es,os,eH,ts,bw,fp⟩:=e;cases bw;have:=Qw eH;subst this;refine⟨aE,E,O,F,ε,_,r,es,λa aY H1 aP rs a6=>?_⟩;obtain⟨ba,vs,hx,av,hf⟩:=TH fq rs;refine⟨a,ba,_,rfl,hx,q9 hm,⟨by simp[aB],aY,_,t,aP.cu,.cons ⟨rfl,vP rs _ _ λb U=>?_⟩ .nil,fp,λv aG aa b6 bb=>k v aG aa (aP.trans b6) bb⟩⟩;obtain⟨o,e,_⟩:=rs.at U;show H1 b≠none;rw[e];exact λz=>by cases z
def Ro(fq:fm X.K c C ns)(aF:v_ X o qs)(bR:ns[j]?=some f:=by rfl)(U:jf o f X.env (eval o X.env)=eval o X.env:=by rfl):cO X (.Attribute o f pos) (vz c j qs):=
 d5 (oX aF U) λσ H Q ⟨aE,E,O,F,ε,t,r,e,k⟩=>by
 simp only[vz,cz] at e;obtain⟨s,es,os,eH,e⟩:=e;have:=Qw eH;subst this;split at e
 next ts aA=>
  cases e
  refine⟨aE,E,O,F,ε,_,r,es,λa aY H1 aP rs a6=>?_⟩
  obtain⟨ba,vs,hx,av,hf⟩:=TH fq rs;obtain⟨v,br,b,us,rfl,U,fa⟩:=hf.get aA;have Zv:H b=none:=a6 b (by rw[j8 av];exact dn _ (o1 aA br (by simp[dQ,ih])));refine⟨a,C,ba,_,_,rfl,hx,fq.cls,kI fq bR,KL fq.a' bR br,?_⟩;have y:Ext F H (λd=>aY d\/d=b) H1:=⟨aP.same,λd z=>.inl (aP.sub d z),λd z=>by
   rcases z with z|rfl
   ·exact aP.new d z
   ·exact .inr Zv,⟨λd z=>by
   rcases z with z|rfl
   ·exact aP.cu d z
   ·exact⟨_,U⟩,aP.cu.mz⟩⟩
  refine k _ _ H1 y ?_
  simp only[Rep];exact⟨b,us,rfl,.inr rfl,.inl U,fa.keep (λ_ _ z=>z) λ_ _ z w=>⟨.inl z,w⟩⟩
 next=>cases e
def ak3{dN a b:bj}{gS:eT}{g h:bz}(ax:jn X dN gS)(av:cO X a g)(U:cO X b h):cO X (.IfExp dN a b pos) (pM gS g h):=d5 (aio ax av U) λσ H Q ⟨aE,E,O,F,ε,t,r,e,k⟩=>by
 simp only[pM,cz] at e;obtain⟨v,ev,e⟩:=e;refine⟨aE,E,O,F,ε,v,r,ev,λaY H1 aP=>?_⟩;cases v with
|true=>exact sF ⟨aE,E,O,aY,ε,t,r.ext aP,by simpa using e,λv aG aa b6 q=>k v aG aa (aP.trans b6) q⟩
|false=>exact sE ⟨aE,E,O,aY,ε,t,r.ext aP,by simpa using e,λv aG aa b6 q=>k v aG aa (aP.trans b6) q⟩
def hZ(xs:List Str):List T:=xs.map .str
def Be{xs:List Str}{a:ag}(hm:X.mg x=some (.ref a))(aL:∃(o:Obj) (its:Array aj) (n:Nat),X.K.lookup a=some o/\o.cls=.type "tuple"/\o.data=.seq its n/\its.size<=cG/\Vals (xs.map V.str) its.toList)(bl:ei X x:=by rfl)(hd:(x==("__debug__":Str))=false:=by decide):cO X (.Name x pos) (ah (.tuple (hZ xs))):=
 vR (v:=.ref a) (SN (v:=.ref a) bl hm rfl hd) λF H=>by
  simp only[Rep];refine⟨a,xs.map V.str,rfl,.inr aL,?_⟩;unfold hZ;clear hm aL bl hd
  induction xs with
  |nil=>exact bG.nil
  |cons y ys b8=>exact bG.cons (by simp[Rep]) b8
end
end
section
variable [cJ]
open AutoSeq1 (wpAny_loadPart')
section
variable {X:aV}{a e o:bj}{f g:bz}{p pos apos:Pos}
def SJ(hm:X.mg "list"=none)(av:e6 X a f)(bl:ei X "list":=by rfl)(he:bo [a] X.env=(false,eval a X.env)::bo [] X.env:=by rfl)(hpl:(dM pos (bo [] X.env)).any (·.1)=false:=by rfl):
  t2 X (.Call (.Name "list" p) [a] [] pos) (dX vK f):=d5 (K3 agy bl hm (by decide +kernel) (hA av j9 he) (he:=he) (hpl:=hpl)) λσ H Q ⟨aE,E,O,F,ε,ts,r,e,k⟩=>by
 simp only[dX,cz] at e;obtain⟨t,bw,e⟩:=e;refine⟨aE,E,O,F,ε,t,r,bw,λv aY H1 aP aM=>?_⟩;have fin:∀(ws:List V),bG X.K aY H1 ts ws->∀l,H1 l=none->Q (.ref l) (upd H1 l (.lst ws)):=λws au l aB=>by
  have b6:=Ext.laid (o:=.lst ws) aP.cu aB;refine k l ws aY _ (aP.trans b6) (aP.same.none aB) (λz=>?_) er (au.ext b6);obtain⟨o,e⟩:=aP.cu l z;rw[aB] at e;cases e
 unfold vK at e;split at e
 ·cases e
  obtain⟨uB,ws,rfl,aB,au⟩:=aM.tup;exact⟨uB,ws,rfl,.inr aB,fin ws au⟩
 ·cases e
  obtain⟨uB,ws,rfl,aB,au⟩:=aM.lst;exact⟨uB,ws,rfl,.inl (.inl aB),fin ws au⟩
 ·cases e
def ahs(ax:X.calm=true)(hm:X.mg "sorted"=none)(av:e6 X a f)(bl:ei X "sorted":=by rfl)(he:bo [a] X.env=(false,eval a X.env)::bo [] X.env:=by rfl)(hpl:(dM pos (bo [] X.env)).any (·.1)=false:=by rfl):
  t2 X (.Call (.Name "sorted" p) [a] [] pos) (dX CW f):=d5 (CV (agx ax) bl hm (by decide +kernel) (hA av j9 he) (he:=he) (hpl:=hpl)) λσ H Q ⟨aE,E,O,F,ε,ts,r,e,k⟩=>by
 simp only[dX,cz] at e;obtain⟨t,bw,e⟩:=e;refine⟨aE,E,O,F,ε,t,r,bw,λv aY H1 aP aM=>?_⟩;unfold CW at e;split at e
 next xs=>
  split at e
  next aq=>
   simp only[dE] at e;obtain⟨ss,GG,e⟩:=e;cases e;have _i:=K0 GG;subst _i;obtain⟨uB,ws,rfl,aB,au⟩:=aM.lst;refine⟨uB,ss.map .inr,(jJ ss).map V.str,rfl,?_,by simpa using aq,.inr ⟨ss,rfl,rfl⟩,λl qy=>?_⟩
   ·have aD:ws=(ss.map (Sum.inr:Str->bh.Key)).map dG:=by rw[KO au];simp[dG,oF]
    rw[<- aD];exact .inl aB
   ·have b6:=Ext.laid (o:=.lst ((jJ ss).map V.str)) aP.cu qy;refine k l _ aY _ (aP.trans b6) (aP.same.none qy) (λz=>?_) er (K2 _);obtain⟨o,e⟩:=aP.cu l z;rw[qy] at e;cases e
  next=>cases e
 next=>cases e
end
def RG:entryFor table "list.remove.loop"=some Builtin.«list.remove.loop»:=entryFor_of_tree (by kernel_rfl)
def CM:plainId "list.remove.loop"=true:=by decide +kernel
def ai3(l:ag)(its:Array aj)(n:Nat)(x:Str)(t:Tok)(j:Nat)(aq:its.size<=cG)(bR:j<its.size)(hit:∃u,its[j]=.str x u)(k:Nat):
  ∀i:Nat,j - i=k->i<=j->(∀(m:Nat) (hm:m<its.size),i<=m->m<j->∃y u,its[m]=.str y u/\y≠x)->Meets (Builtin.«list.remove.loop» ⟨[.ref l,.str x t,hg i],[]⟩)
   (λ_ R s=>s.heap.get? l=some {cls:=.type "list",data:=.seq its n}/\R (.ok (.ret .none)) {s with heap:=s.heap.update l (Obj.mapSeq λa=>a.eraseIdxIfInBounds j)}):=by
 induction k with
|zero=>
  intro i aL i_ _ prog w A R s h;obtain⟨aC,g,d,tk,os⟩:=s;obtain⟨aB,h⟩:=h;obtain rfl:i=j:=by omega
  obtain⟨u,bM⟩:=hit
  wp_walk using wpAny_loadPart' aB
  rw[show its[((i:Nat):Int).toNat]?=some (.str x u) by simp[bR,bM]];refine a8 (wpAny_eqBool_str ?_);rw[decide_eq_true rfl]
  wp_walk using wpAny_loadPart' aB
  rw[show ((Obj.mapSeq (λz=>z.eraseIdxIfInBounds ((i:Nat):Int).toNat) {cls:=.type "list",data:=.seq its n}:Obj).data.pastItsLine)=none from
   pastItsLine_seq (by
    have:(its.eraseIdxIfInBounds ((i:Nat):Int).toNat).size<=its.size:=by
     unfold Array.eraseIdxIfInBounds;split
     ·rw[Array.size_eraseIdx];omega
     ·omega
    show (its.eraseIdxIfInBounds ((i:Nat):Int).toNat).size<=_
    omega)]
  wp_walk
  exact h
|succ k b8=>
  intro i aL i_ Ac prog w A R s h;obtain⟨aC,g,d,tk,os⟩:=s;obtain⟨aB,h⟩:=h;have fJ:i<its.size:=by omega
  obtain⟨y,u,a7,ne⟩:=Ac i fJ (el _) (by omega)
  wp_walk using wpAny_loadPart' aB
  rw[show its[((i:Nat):Int).toNat]?=some (.str y u) by simp[fJ,a7]];refine a8 (wpAny_eqBool_str ?_);rw[decide_eq_false ne]
  wp_walk
  rw[show ((i:Int)+1)=((i+1:Nat):Int) by push_cast;rfl];exact⟨plainId_quiet CM _,u1 RG (by
   rw[uW CM _];exact b8 (i+1) (by omega) (by omega) (λm hm af ak=>Ac m hm (by omega) ak) prog w A R _ ⟨aB,h⟩)⟩
def agq(l:ag)(its:Array aj)(n:Nat)(x:Str)(t:Tok)(j:Nat)(aq:its.size<=cG)(bR:j<its.size)(hit:∃u,its[j]=.str x u)(Ac:∀(m:Nat) (hm:m<its.size),m<j->∃y u,its[m]=.str y u/\y≠x):
  Meets (Builtin.«list.remove» ⟨[.ref l,.str x t],[]⟩) (λ_ R s=>s.heap.get? l=some {cls:=.type "list",data:=.seq its n}/\R (.ok (.ret .none)) {s with heap:=s.heap.update l (Obj.mapSeq λa=>a.eraseIdxIfInBounds j)}):=by
 intro prog w A R s h;obtain⟨aC,g,d,tk,os⟩:=s;obtain⟨aB,h⟩:=h
 wp_walk using wpAny_loadPart' aB
 exact⟨plainId_quiet CM _,u1 RG (by
  rw[uW CM _];exact ai3 l its n x t j aq bR hit _ 0 rfl (mE _) (λm hm _ ak=>Ac m hm ak) prog w A R _ ⟨aB,h⟩)⟩
noncomputable def ai4:V->List V->ay->dj->Prop:=λx vs H Q=>∃(l:ag) (ss:List Str) (y:Str),x=.ref l/\vs=[.str y]/\H l=some (.lst (ss.map V.str))/\y∈ss/\Q .e0 (upd H l (.lst ((ss.erase y).map V.str)))
def R7{ss:List Str}{its:List aj}(r:Vals (ss.map V.str) its){m:Nat}{y:Str}(h:ss[m]?=some y):∃u,its[m]?=some (.str y u):=by
 obtain⟨v,br,bP⟩:=r.get (i:=m) (x:=.str y) (by rw[la,h];rfl);obtain⟨u,rfl⟩:=bP;exact⟨u,br⟩
theorem Su{α:Type}[BEq α][LawfulBEq α]:∀{ss:List α} {y:α},y∈ss->∃j,ss[j]?=some y/\(∀m z,m<j->ss[m]?=some z->z≠y)/\ss.erase y=ss.eraseIdx j
| [],y,h=>by simp at h
|x::ss,y,h=>by
  by_cases e:x=y
  ·subst e;exact⟨0,rfl,λm z hm=>by omega,by simp⟩
  ·have h':y∈ss:=by
    rcases cm.mp h with z|z
    ·exact absurd z.symm e
    ·exact z
   obtain⟨j,af,ak,bB⟩:=Su h';refine⟨j+1,by simpa using af,λm z hm aq=>?_,?_⟩
   ·cases m with
    |zero=>
     simp at aq;exact aq▸e
    |succ m=>exact ak m z (by omega) (by simpa using aq)
   ·rw[List.erase_cons_tail (by simpa using e),bB];rfl
theorem Qj{α β:Type}(f:α->β):∀(l:List α) (j:Nat),(l.eraseIdx j).map f=(l.map f).eraseIdx j
| [],_=>rfl
|_::_,0=>rfl
|a::l,j+1=>by simp[Qj f l j]
def ahC{X:aV}:v5 X "list.remove" ai4:=by
 intro ai s σ H x vs v us Q I aW bP h;obtain⟨l,ss,y,rfl,rfl,eY,a7,q⟩:=h;cases aW;obtain⟨u,rfl,c9⟩:=bP.one;obtain⟨t,rfl⟩:=c9;obtain⟨z,its,n,r,aB,e⟩:=I.AY eY;obtain⟨j,af,ak,bB⟩:=Su a7;obtain⟨w,hw⟩:=R7 r af;have bR:j<its.length:=(hW.mp hw).1;refine call_meets F.slot_list_remove ⟨_,e,rfl⟩ F.entry_list_remove (F.args_list_remove_2 _ _) (agq l its.toArray n y t j (by rw[eQ];omega) (by rw[eQ];exact bR) ⟨w,?_⟩ λm hm ZW=>?_) ⟨e,?_⟩
 ·rw[iD bR] at hw;simpa using hw
 ·rw[eQ] at hm;have amG:m<ss.length:=by rw[e1] at aB;omega
  obtain⟨u,bM⟩:=R7 r (iD amG);rw[iD hm] at bM;exact⟨_,u,by simpa using bM,ak m _ ZW (iD amG)⟩
 ·rw[bB] at q;have aO:(ss.eraseIdx j).map V.str=(ss.map V.str).eraseIdx j:=Qj _ _ _;rw[aO] at q;refine⟨.e0,_,I.AX (t':=s.toks) (its':=its.eraseIdx j) eY e ?_ (r.eraseIdx j) (jd (Rz _ _) z),rfl,q⟩;unfold Array.eraseIdxIfInBounds;rw[dif_pos (by rw[eQ];exact bR)];simp
section
variable {X:aV}{c C i j:Nat}{ns:List Str}{f:Str}{o e:bj}{g:bz}{pos apos:Pos}
def akU(k:fm X.K c C ns)(a6:bQ X o (fU i)){jU eU:Pos}(he:cO X e g)(bR:ns[j]?=some f:=by rfl)(U:jf o f X.env (eval o X.env)=eval o X.env:=by rfl)
  (qA:bo [e] X.env=(false,eval e X.env)::bo [] X.env:=by rfl)
  (nd:jf (.Attribute o f apos) "remove" X.env (eval (.Attribute o f apos) X.env)=eval (.Attribute o f apos) X.env:=by rfl)
  (wC:((dM eU (bo [e] X.env)).all (λx=>!x.1) && (mG eU (mF [] X.env)).all (λx=>x.1.isSome)
   && decide (([e]:List bj).length+([]:List Keyword).length+(if ([]:List Keyword).isEmpty then 0 else 1)<30))=true:=by rfl)
  (nf:(jU.endLine==eU.line)=true:=by rfl) (wL:(dM eU (bo [] X.env)).any (·.1)=false:=by rfl)
  (nj:jh (.Call (.Attribute (.Attribute o f apos) "remove" jU) [e] [] eU) none pos.line X.env=pure false:=by rfl):
  f6 X (.Expr (.Call (.Attribute (.Attribute o f apos) "remove" jU) [e] [] eU) pos) (Bh c i j g):=
 g4 (vw (Uc PySem.F.plainAttrs_list PySem.F.slot_list_remove PySem.F.type_list_remove ahC (oX a6 U) (hA he j9 qA) nd wC nf qA wL) nj) λD σ H ⟨aE,aR,O,F,ε,o,r,e,bV⟩=>by
 simp only[Bh,cz] at e;obtain⟨t,bw,ts,gQ,e⟩:=e;split at e
 next x ss GG=>
  split at e
  next hx=>
   simp only[dE] at e;obtain⟨ε',es,rfl⟩:=e;have oo:=K0 GG;subst oo;obtain⟨m,ar,aF,aA⟩:=La gQ;obtain⟨a,vs,ba,v,af,GK,aB,av,br,⟨b,us,dZ,U,fa⟩,_⟩:=mM k r aF aA bR;subst dZ;refine⟨_,af,a,C,ba,_,_,rfl,GK,k.cls,kI k bR,aB,.inl ⟨rfl,_,gP.of U⟩,aE,aR,O,F,ε,_,r,bw,λv aY H1 aP aM=>?_⟩;have bg:=r.ext aP;have amE:h1 H1 a c vs:=av.keep ((aP.same.get GK).trans GK.symm);have ev:v=.str x:=by simpa [Rep] using aM
   subst ev;have fx:=KO fa;subst fx;obtain⟨aw,b5⟩:=bg.amr (s':=.own ((ss.erase x).map .str)) (o':=.lst ((ss.erase x).map V.str)) aF af amE es aA br (by simp[dQ,ih]) rfl λaw=>⟨b,_,rfl,er,K2 _⟩;exact⟨b,ss,x,rfl,rfl,aP.same.get U,hx,bV σ aY _ (aP.aw.trans aw) b5⟩
  next=>cases e
 next=>cases e
end
end
section
variable [cJ]
open AutoSeq1 (wpAny_loadPart')
section
variable {prog:cA}{w:bZ}{A:cH}{E:aj->aI->Prop}{s:aI}{T:String}{r d:ag}{n:Nat}{P:Nat->aj->Prop}{rS:bE->Prop}
def afY(W:PySem.W.KdlSrc prog w T r d n P rS)(a6:n<=cG)(o:Obj)(ax:o.cls=.type T):
  MeetsIn prog w (Builtin.«tuple.__new__» ⟨[.type "tuple",.ref r],[]⟩)
   (λA R s=>A.handled=none/\rS s.heap/\s.heap.get? r=some o/\∀(h':bE) (tk:Nat) (acc:Array aj),(∀b o,s.heap.get? b=some o->h'.get? b=some o)->s.heap.objs.size<=h'.objs.size->ItemsOf P acc n->R (.ok (.ret (.ref h'.objs.size))) {s with heap:=h'.push {cls:=.type "tuple",data:=.seq acc},toks:=tk}):=
 .of_wp λA R s h=>by
  obtain⟨aC,g,NX,tk,os⟩:=s;obtain⟨cM,bO,aF,h⟩:=h;have OD:=sub_tuple_self;have alz:=init_tuple_lookup;have alJ:=madeHere_tuple;have ek:Shared.TypeIs ⟨aC,g,NX,tk,os⟩ (.ref r) T:=W.type _ bO;have gv:=W.notList;have gd:=W.notTuple
  wp_walk using wpAny_loadPart' aF,wpAny_typeOf ek,agQ W (by simpa using cM) bO a6
  intro h' Bx acc aL hsz lF;show bD _ _ (Builtin.Tuple.tupleExact acc.toList.toArray >>= λv=>ret v) _ _ _;unfold Builtin.Tuple.tupleExact;have aq:acc.size<=cG:=by rw[lF.1];exact a6
  refine a8 (wpAny_newObj_type ?_ (by show acc.toList.toArray.size<=cG;simpa using aq))
  refine cX ⟨_,rfl,?_⟩
  rw[show acc.toList.toArray=acc by simp];exact h h' Bx acc aL hsz lF
def af_{Q:aj->aI->Prop}(W:PySem.W.KdlSrc prog w T r d n P rS)(a6:n<=cG){o:Obj}(ax:o.cls=.type T)(cM:A.handled=none)(bO:rS s.heap)(aF:s.heap.get? r=some o)
  (h:∀(h':bE) (tk:Nat) (acc:Array aj),(∀b o,s.heap.get? b=some o->h'.get? b=some o)->s.heap.objs.size<=h'.objs.size->ItemsOf P acc n->Q (.ref h'.objs.size) {s with heap:=h'.push {cls:=.type "tuple",data:=.seq acc},toks:=tk}):
  bD (bL prog w) A (call (.type "tuple") [.ref r]) Q E s:=
 callType_newIn F.called_tuple (by decide) (F.typeCall_tuple_1 _) (F.newCall_tuple_1 _) (λobj=>F.args_object_init_2 obj _) F.entry_tuple_new
  (afY W a6 o ax) ⟨by simpa using cM,bO,aF,λh' tk acc aL hsz lF=>⟨⟨_,gY _ rfl,rfl⟩,h h' tk acc aL hsz lF⟩⟩
end
def Dq(p d:ag):ea:=.ext λh=>h.IsValuesView p d
section
variable {X:aV}
def ahB:v5 X "dict.values" (λx vs H Q=>∃d kvs,x=.ref d/\vs=[]/\H d=some (.fo kvs)/\∀p,H p=none->Q (.ref p) (upd H p (Dq p d))):=by
 intro ai s σ H x vs v us Q I aW bP h;obtain⟨d,kvs,rfl,rfl,eY,q⟩:=h;cases aW;cases bP;obtain⟨aq,OC,ws,so,hd⟩:=I.bO d _ eY;refine call_meetsIn PySem.F.slot_dict_values hd.typeIs PySem.F.entry_dict_values (PySem.F.args_dict_values_1 _) (meets_dict_values (hh X.prog X.w) d OC) ⟨⟨ws,hd⟩,?_⟩;have br:(s.heap.push {cls:=.type "dict_values",data:=.fields #[.ref d]}).IsValuesView s.heap.objs.size d:=⟨_,gY _ rfl,rfl,rfl⟩;refine⟨.ref s.heap.objs.size,upd H s.heap.objs.size (Dq s.heap.objs.size d),I.laid (t':=s.toks) (λb u e=>c2 _ e) (el _) ⟨br,⟨_,gY _ rfl⟩,λaf ak p k=>?_⟩,rfl,q _ I.fresh⟩;obtain⟨o,aF,r⟩:=p;exact⟨o,k o aF,r⟩
theorem TM:∀{kvs:List (bh.Key×V)} {vs:List (bh.Key×aj)},g7 kvs vs->Vals (kvs.map (·.2)) (vs.map (·.2))
|_,_,.nil=>.nil
|_,_,.cons a b=>.cons a.2 (TM b)
def af1(ax:X.calm=true):lq X (.type "tuple") (λxs H Q=>∃p d kvs,xs=[.ref p]/\H p=some (Dq p d)/\H d=some (.fo kvs)/\∀t,H t=none->Q (.ref t) (upd H t (.tup (kvs.map (·.2))))):=by
 intro ai s σ H xs us Q I r h;obtain⟨p,d,kvs,rfl,aC,a3,q⟩:=h;obtain⟨u,rfl,aW⟩:=vals1 r;cases aW;obtain⟨pL,OC,vs,so,hd⟩:=I.bO d _ a3;obtain⟨ep,mn⟩:=hd.dictAt;have aB:vs.length=kvs.length:=(Paired.length so).symm;have br:s.heap.IsValuesView p d:=(I.bO p _ aC).1;obtain⟨o,aF,od,alx⟩:=id br;refine af_ (PySem.W.kdl_values (knd:=hh X.prog X.w) (kvs:=vs) (ep:=ep)) (by rw[aB];exact pL) od (I.ok.hd ax) ⟨br,mn⟩ aF λh' tk acc aL hsz lF=>?_;have uy:(kvs.map (·.2)).length<=cG:=by rw[e1];exact pL
 have b':acc.toList=vs.map (·.2):=by
  refine List.ext_getElem? λi=>?_
  rw[la];by_cases bc:i<acc.size
  ·obtain⟨k,aL⟩:=lF.2 i acc[i] (by simp[bc]);rw[aL];simp[bc]
  ·rw[List.getElem?_eq_none (by simpa using bc),List.getElem?_eq_none (by rw[lF.1] at bc;omega)];rfl
 have ek:(h'.push {cls:=.type "tuple",data:=.seq acc}).get? h'.objs.size=some {cls:=.type "tuple",data:=.seq acc}:=gY _ rfl;refine⟨.ref h'.objs.size,_,K9 I (o:=.tup (kvs.map (·.2))) (d':=s.drawn) (λb u e=>c2 _ (aL b u e)) hsz ⟨uy,vs.map (·.2),TM so,⟨_,ek,rfl,0,by rw[<- b']⟩⟩,rfl,q _ (I.bO.fresh hsz)⟩
variable {c C i j:Nat}{ns:List Str}{f:Str}{o:bj}{p pos apos jU eU:Pos}
theorem d7.snd{K:a9}{F:ag->Prop}{H:ay}:∀{ts:List (D.Key×T)} {vs:List (D.Key×V)},d7 K F H ts vs->bG K F H (ts.map (·.2)) (vs.map (·.2))
| [],vs,h=>by
  have e:vs=[]:=h;subst e;exact bG.nil
|t::ts,vs,h=>by
  obtain⟨v,r,rfl,q,z⟩:=h;exact bG.cons q (d7.snd z)
def SK(k:fm X.K c C ns)(ax:X.calm=true)(aX:X.mg "tuple"=none)(a6:bQ X o (fU i))(bR:ns[j]?=some f:=by rfl)(U:jf o f X.env (eval o X.env)=eval o X.env:=by rfl)
  (nd:jf (.Attribute o f apos) "values" X.env (eval (.Attribute o f apos) X.env)=eval (.Attribute o f apos) X.env:=by rfl) (nf:(jU.endLine==eU.line)=true:=by rfl) (bl:ei X "tuple":=by rfl)
  (he:bo [.Call (.Attribute (.Attribute o f apos) "values" jU) [] [] eU] X.env=(false,eval (.Call (.Attribute (.Attribute o f apos) "values" jU) [] [] eU) X.env)::bo [] X.env:=by rfl)
  (hpl:(dM pos (bo [] X.env)).any (·.1)=false:=by rfl):
  cO X (.Call (.Name "tuple" p) [.Call (.Attribute (.Attribute o f apos) "values" jU) [] [] eU] [] pos) (yS c i j):=
 d5 (K3 (af1 ax) bl aX (by decide +kernel) (hA (Tx PySem.F.plainAttrs_dict PySem.F.slot_dict_values PySem.F.type_dict_values ahB (oX a6 U) nd nf) j9 he) (he:=he) (hpl:=hpl)) λσ H Q ⟨aE,E,O,F,ε,t,r,e,bV⟩=>by
 simp only[yS,dE] at e;obtain⟨kvs,fp,rfl⟩:=e;obtain⟨m,ar,aF,aA⟩:=CO fp;obtain⟨a,vs,ba,v,af,hx,aB,av,br,⟨b,us,dZ,U,fa⟩,_⟩:=mM k r aF aA bR;subst dZ;refine⟨_,af,a,C,ba,_,_,rfl,hx,k.cls,kI k bR,aB,.inr (.inr (.inl ⟨rfl,.inl ⟨_,U⟩⟩)),b,us,rfl,rfl,U,λp aC=>?_⟩;have aP:=Ext.laid (o:=Dq p b) r.cu aC;refine⟨p,b,us,rfl,er,aP.same.get U,λt aX=>?_⟩;have b6:=aP.trans (Ext.laid (o:=.tup (us.map (·.2))) aP.cu aX);refine bV _ F _ b6 ?_;simp only[Rep];exact⟨t,_,rfl,c3.of er,(fa.snd).ext b6⟩
end
end
section
variable [cJ]
open AutoSeq1 (wpAny_loadPart')
def fu(h:bE)(z TI cj:ag)(f0 f1:aj):Prop:=h.get? z=some {cls:=.type "zip",dict:=none,data:=.fields #[f0,f1,.bool false,.ref TI,.ref cj],slots:=#[]}
section
variable {prog:cA}{w:bZ}{A:cH}{E:aj->aI->Prop}{s:aI}{z TI cj b0 b1 b2 b4:ag}{k gv gd:Nat}{tY tZ:Nat->aj->Prop}{hH h5:Nat->bE->Prop}{a b f1:aj}
def R1{Q:aj->aI->Prop}(D:ZipApart z TI cj b0 b1 b2 b4)(jl:Draws prog w A b0 [b0,b2] gv tY hH)(kK:Draws prog w A b1 [b1,b4] gd tZ h5)(aq:fu s.heap z TI cj .none f1)(fi:IsPair s.heap TI (.ref b0) (.ref b1))(gI:IsPair s.heap cj a b)
  (s1:hH k s.heap) (s2:h5 k s.heap) (af:k<gv) (ak:k<gd)
  (iM:∀h' x y tk,tY k x->tZ k y->fu h' z TI cj (hg s.heap.objs.size) (.bool false)->IsPair h' cj x y->hH (k+1) h'->h5 (k+1) h'->IsPair h' s.heap.objs.size x y->h'.objs.size=s.heap.objs.size+1 ->
   (∀c o,c≠z->c≠cj->c≠b0->c≠b1->s.heap.get? c=some o->h'.get? c=some o)->Q (.ref s.heap.objs.size) {s with heap:=h',toks:=tk}):
  bD (bL prog w) A (Builtin.«zip.__next__» ⟨[.ref z],[]⟩) (λfin s'=>∃v,fin=.done (.ret v)/\Q v s') E s:=by
 unfold fu at aq;refine a8 (m:=field (.ref z) 2) (iY aq rfl (x:=.bool false) rfl (a8 (m:=field (.ref z) 3) (iY aq rfl (x:=.ref TI) rfl (a8 (oK fi rfl ?_)))));refine a8 (m:=q0 (.ref z)) ?_;unfold q0;refine a8 (iY aq rfl (x:=.none) rfl (cX ?_));simp only[if_true];refine a8 (wpAny_rule (a8 (iY aq rfl (x:=.ref cj) rfl (a8 (s_ aq (by simp) λfj lG fz=>?_)))));replace lG:fu fj z TI cj .ellipsis f1:=lG;refine a8 ?_;simp only[List.zipIdx_cons,List.zipIdx_nil,List.forIn_cons,List.forIn_nil];have pT:hH k fj:=jl.frame k _ _ s1 λc ax o e=>by
  rcases cm.mp ax with rfl|ax
  ·exact fz.extBut _ _ D.i1z e
  ·rw[jC.mp ax] at e ⊢;exact fz.extBut _ _ D.l1z e
 refine a8 (a8 (wpAny_onRaise (a8 (m:=k' (.ref b0)) (jl.item k _ _ _ af pT λx js tk jb t1 gr=>cX ?_))))
 have wz:IsPair js cj a b:=gr.extBut _ _ D.TOi1 (fz.extBut _ _ D.TOz gI);refine a8 (oK wz rfl (a8 (wpAny_updateSeq_pair wz λic z5 hu=>?_)));replace z5:IsPair ic cj x b:=z5;refine a8 (wpAny_letGo (cX ?_));have ks:h5 k ic:=kK.frame k _ _ s2 λc ax o e=>by
  rcases cm.mp ax with rfl|ax
  ·exact hu.extBut _ _ D.TOi2.symm (gr.extBut _ _ D.i12.symm (fz.extBut _ _ D.i2z e))
  ·rw[jC.mp ax] at e ⊢;exact hu.extBut _ _ D.l2TO (gr.extBut _ _ D.l2i1 (fz.extBut _ _ D.l2z e))
 refine a8 (a8 (wpAny_onRaise (a8 (m:=k' (.ref b1)) (kK.item k _ _ _ ak ks λy uz JI py al5 pF=>cX ?_))))
 have Oa:IsPair uz cj x b:=pF.extBut _ _ D.TOi2 z5;refine a8 (oK Oa rfl (a8 (wpAny_updateSeq_pair Oa λhy z6 n'=>?_)));replace z6:IsPair hy cj x y:=z6;refine a8 (wpAny_letGo (cX (cX (a8 (oK z6 rfl (a8 (wpAny_newTuple ?_)))))));have Bu:hy.objs.size=s.heap.objs.size:=by rw[n'.1,pF.1,hu.1,gr.1,fz.1]
 have OI:fu hy z TI cj .ellipsis f1:=n'.extBut _ _ D.TOz.symm (pF.extBut _ _ D.i2z.symm (hu.extBut _ _ D.TOz.symm (gr.extBut _ _ D.i1z.symm lG)));have aaE:∀c o,c≠z->c≠cj->c≠b0->c≠b1->s.heap.get? c=some o->hy.get? c=some o:=λc o cS c5 fH gF e=>n'.extBut _ _ c5 (pF.extBut _ _ gF (hu.extBut _ _ c5 (gr.extBut _ _ fH (fz.extBut _ _ cS e))));have JM:hH (k+1) hy:=jl.frame _ _ _ t1 λc ax o e=>by
  rcases cm.mp ax with rfl|ax
  ·exact n'.extBut _ _ D.TOi1.symm (pF.extBut _ _ D.i12 (hu.extBut _ _ D.TOi1.symm e))
  ·rw[jC.mp ax] at e ⊢;exact n'.extBut _ _ D.l1TO (pF.extBut _ _ D.l1i2 (hu.extBut _ _ D.l1TO e))
 have xu:h5 (k+1) hy:=kK.frame _ _ _ al5 λc ax o e=>by
  rcases cm.mp ax with rfl|ax
  ·exact n'.extBut _ _ D.TOi2.symm e
  ·rw[jC.mp ax] at e ⊢;exact n'.extBut _ _ D.l2TO e
 have qb:z<hy.objs.size:=cY OI;refine a8 (m:=Builtin.SmallTypes.ownedTupleHandOut (.ref z) (.ref hy.objs.size)) ?_;unfold Builtin.SmallTypes.ownedTupleHandOut;have _m:fu (hy.push {cls:=.type "tuple",data:=.seq #[x,y]}) z TI cj .ellipsis f1:=c2 _ OI;refine a8 (s_ _m (by simp) λ_o GP FK=>?_);replace GP:fu _o z TI cj (hg hy.objs.size) f1:=GP;refine s_ GP (by simp) λwU Ag FL=>?_;replace Ag:fu wU z TI cj (hg hy.objs.size) (.bool false):=Ag;have up:∀c o,c≠z->hy.get? c=some o->wU.get? c=some o:=λc o cS e=>FL.extBut _ _ cS (FK.extBut _ _ cS (c2 _ e));have ek:IsPair wU hy.objs.size x y:=FL.extBut _ _ (hX qb) (FK.extBut _ _ (hX qb) (gY _ rfl));have Pw:wU.objs.size=hy.objs.size+1:=by rw[FL.1,FK.1,ky]
 rw[Bu] at Ag ek Pw;refine cX ⟨_,rfl,?_⟩;show Q (.ref hy.objs.size) _;rw[Bu];refine iM wU x y _ jb py Ag (up _ _ D.TOz z6) (jl.frame _ _ _ JM λc ax o e=>?_) (kK.frame _ _ _ xu λc ax o e=>?_) ek Pw λc o cS c5 fH gF e=>up c o cS (aaE c o cS c5 fH gF e)
 ·refine up c o ?_ e
  rcases cm.mp ax with rfl|ax
  ·exact D.i1z
  ·rw[jC.mp ax];exact D.l1z
 ·refine up c o ?_ e
  rcases cm.mp ax with rfl|ax
  ·exact D.i2z
  ·rw[jC.mp ax];exact D.l2z
def R0{Q:Fin->aI->Prop}(D:ZipApart z TI cj b0 b1 b2 b4)(jl:Draws prog w A b0 [b0,b2] gv tY hH)(kK:Draws prog w A b1 [b1,b4] gd tZ h5)(aq:fu s.heap z TI cj .none f1)(fi:IsPair s.heap TI (.ref b0) (.ref b1))(gI:IsPair s.heap cj a b)
  (s1:hH k s.heap) (s2:h5 k s.heap) (aL:k=gv\/(k<gv/\k=gd))
  (kS:∀h' e tk,(∀c o,c≠z->c≠cj->c≠b0->c≠b1->s.heap.get? c=some o->h'.get? c=some o)->(∃o,h'.get? e=some o/\o.cls=.type "StopIteration")->E (.ref e) {s with heap:=h',toks:=tk}):
  bD (bL prog w) A (Builtin.«zip.__next__» ⟨[.ref z],[]⟩) Q E s:=by
 unfold fu at aq;refine a8 (m:=field (.ref z) 2) (iY aq rfl (x:=.bool false) rfl (a8 (m:=field (.ref z) 3) (iY aq rfl (x:=.ref TI) rfl (a8 (oK fi rfl ?_)))));refine a8 (m:=q0 (.ref z)) ?_;unfold q0;refine a8 (iY aq rfl (x:=.none) rfl (cX ?_));simp only[if_true];refine a8 (wpAny_rule (a8 (iY aq rfl (x:=.ref cj) rfl (a8 (s_ aq (by simp) λfj lG fz=>?_)))));replace lG:fu fj z TI cj .ellipsis f1:=lG;refine a8 ?_;simp only[List.zipIdx_cons,List.zipIdx_nil,List.forIn_cons,List.forIn_nil];have pT:hH k fj:=jl.frame k _ _ s1 λc ax o e=>by
  rcases cm.mp ax with rfl|ax
  ·exact fz.extBut _ _ D.i1z e
  ·rw[jC.mp ax] at e ⊢;exact fz.extBut _ _ D.l1z e
 rcases aL with rfl|⟨af,rfl⟩
 ·refine a8 (a8 (wpAny_onRaise (a8 (m:=k' (.ref b0)) (jl.done _ _ _ pT λjs e gr he=>?_))))
  obtain⟨w9,su,wA⟩:=he;have GN:fu js z TI cj .ellipsis f1:=gr _ _ D.i1z.symm lG;have ne:e≠z:=λq=>by
   subst q;unfold fu at GN;rw[GN] at su;cases su;simp at wA
  exact s_ GN (by simp) λic _ hu=>kS ic e _ (λc o cS _ fH _ q=>hu.extBut _ _ cS (gr _ _ fH (fz.extBut _ _ cS q))) ⟨w9,hu.extBut _ _ ne su,wA⟩
 ·refine a8 (a8 (wpAny_onRaise (a8 (m:=k' (.ref b0)) (jl.item k _ _ _ af pT λx js tk jb t1 gr=>cX ?_))))
  have wz:IsPair js cj a b:=gr.extBut _ _ D.TOi1 (fz.extBut _ _ D.TOz gI);refine a8 (oK wz rfl (a8 (wpAny_updateSeq_pair wz λic z5 hu=>?_)));refine a8 (wpAny_letGo (cX ?_));have ks:h5 k ic:=kK.frame k _ _ s2 λc ax o e=>by
   rcases cm.mp ax with rfl|ax
   ·exact hu.extBut _ _ D.TOi2.symm (gr.extBut _ _ D.i12.symm (fz.extBut _ _ D.i2z e))
   ·rw[jC.mp ax] at e ⊢;exact hu.extBut _ _ D.l2TO (gr.extBut _ _ D.l2i1 (fz.extBut _ _ D.l2z e))
  refine a8 (a8 (wpAny_onRaise (a8 (m:=k' (.ref b1)) (kK.done _ _ _ ks λuz e pF he=>?_))))
  obtain⟨w9,su,wA⟩:=he;have GO:fu uz z TI cj .ellipsis f1:=pF _ _ D.i2z.symm (hu.extBut _ _ D.TOz.symm (gr.extBut _ _ D.i1z.symm lG));have ne:e≠z:=λq=>by
   subst q;unfold fu at GO;rw[GO] at su;cases su;simp at wA
  exact s_ GO (by simp) λhy _ n'=>kS hy e _ (λc o cS c5 fH gF q=>n'.extBut _ _ cS (pF _ _ gF (hu.extBut _ _ c5 (gr.extBut _ _ fH (fz.extBut _ _ cS q))))) ⟨w9,n'.extBut _ _ ne su,wA⟩
def aiV{c:ag}{Q:Option Obj->aI->Prop}(h:Q (s.heap.get? c) s):bD (bL prog w) A (loadIfAlive c) Q E s:=λΓ p _=>by
 unfold loadIfAlive;rw[Sem.wp_loadIfAlive];simpa using h
def Q3{T:ag}{kn:Obj}{f:Bool}(aq:fu s.heap z TI cj (hg T) (.bool f))(ek:s.heap.get? T=some kn):
  bD (bL prog w) A (q0 (.ref z)) (λc s'=>c=false/\∃fj,s'={s with heap:=fj}/\fu fj z TI cj (hg T) (.bool true)/\Heap.SameBut z s.heap fj) E s:=by
 unfold fu at aq;unfold q0;refine a8 (iY aq rfl (x:=hg T) rfl ?_);refine a8 (m:=loadIfAlive ((T:Nat):Int).toNat) (aiV ?_);rw[Int.toNat_natCast,ek];simp only[Option.isNone_some,nz,if_false];refine a8 (iY aq rfl (x:=.bool f) rfl ?_);cases f with
|true=>
  simp only[bne_self_eq_false,nz,if_false];exact cX ⟨rfl,s.heap,rfl,aq,Heap.SameBut.refl ..⟩
|false=>
  rw[if_pos (by decide)];exact a8 (s_ aq (by simp) λfj lG fz=>cX ⟨rfl,fj,rfl,lG,fz⟩)
def ah0{Q:aj->aI->Prop}{T:ag}{kn:Obj}{f:Bool}(D:ZipApart z TI cj b0 b1 b2 b4)(jl:Draws prog w A b0 [b0,b2] gv tY hH)(kK:Draws prog w A b1 [b1,b4] gd tZ h5)(aq:fu s.heap z TI cj (hg T) (.bool f))(ek:s.heap.get? T=some kn)(fi:IsPair s.heap TI (.ref b0) (.ref b1))
  (s1:hH k s.heap) (s2:h5 k s.heap) (af:k<gv) (ak:k<gd)
  (iM:∀h' x y tk,tY k x->tZ k y->fu h' z TI cj (hg T) (.bool true)->hH (k+1) h'->h5 (k+1) h'->IsPair h' s.heap.objs.size x y->h'.objs.size=s.heap.objs.size+1 ->
   (∀c o,c≠z->c≠b0->c≠b1->s.heap.get? c=some o->h'.get? c=some o)->Q (.ref s.heap.objs.size) {s with heap:=h',toks:=tk}):
  bD (bL prog w) A (Builtin.«zip.__next__» ⟨[.ref z],[]⟩) (λfin s'=>∃v,fin=.done (.ret v)/\Q v s') E s:=by
 have wQ:=aq;unfold fu at aq;refine a8 (m:=field (.ref z) 2) (iY aq rfl (x:=.bool false) rfl (a8 (m:=field (.ref z) 3) (iY aq rfl (x:=.ref TI) rfl (a8 (oK fi rfl ?_)))));refine a8 (m:=q0 (.ref z)) (e2 (Q3 wQ ek) (λc s' ⟨gH,fj,es,lG,fz⟩=>?_) λ_ _ q=>q);subst gH es;simp only[nz,if_false];refine a8 ?_;rw[<- Array.forIn_toList];simp only[List.forIn_cons,List.forIn_nil];have pT:hH k fj:=jl.frame k _ _ s1 λc ax o e=>by
  rcases cm.mp ax with rfl|ax
  ·exact fz.extBut _ _ D.i1z e
  ·rw[jC.mp ax] at e ⊢;exact fz.extBut _ _ D.l1z e
 refine a8 (a8 (q5 (a8 (m:=k' (.ref b0)) (jl.item k _ _ _ af pT λx js tk jb t1 gr=>cX (cX ?_)))))
 have ks:h5 k js:=kK.frame k _ _ s2 λc ax o e=>by
  rcases cm.mp ax with rfl|ax
  ·exact gr.extBut _ _ D.i12.symm (fz.extBut _ _ D.i2z e)
  ·rw[jC.mp ax] at e ⊢;exact gr.extBut _ _ D.l2i1 (fz.extBut _ _ D.l2z e)
 refine a8 (a8 (q5 (a8 (m:=k' (.ref b1)) (kK.item k _ _ _ ak ks λy ic JI py al5 hu=>cX (cX (cX ?_))))))
 refine a8 (wpAny_newTuple (cX ⟨_,rfl,?_⟩) (by show 2<=cG;decide))
 have Pu:ic.objs.size=s.heap.objs.size:=by rw[hu.1,gr.1,fz.1]
 have ae0:hH (k+1) ic:=jl.frame _ _ _ t1 λc ax o e=>by
  rcases cm.mp ax with rfl|ax
  ·exact hu.extBut _ _ D.i12 e
  ·rw[jC.mp ax] at e ⊢;exact hu.extBut _ _ D.l1i2 e
 have _l:fu ic z TI cj (hg T) (.bool true):=hu.extBut _ _ D.i2z.symm (gr.extBut _ _ D.i1z.symm lG);have aC:(ic.push {cls:=.type "tuple",data:=.seq #[x,y]}).get? ic.objs.size=some _:=gY _ rfl;show Q (.ref ic.objs.size) _;rw[Pu] at aC ⊢;refine iM (ic.push {cls:=.type "tuple",data:=.seq #[x,y]}) x y _ jb py (c2 _ _l) (jl.frame _ _ _ ae0 λc _ o e=>c2 _ e) (kK.frame _ _ _ al5 λc _ o e=>c2 _ e) aC (by rw[ky,Pu])
  λc o cS fH gF e=>c2 _ (hu.extBut _ _ gF (gr.extBut _ _ fH (fz.extBut _ _ cS e)))
def aga{Q:Fin->aI->Prop}{T:ag}{kn:Obj}{f:Bool}(D:ZipApart z TI cj b0 b1 b2 b4)(jl:Draws prog w A b0 [b0,b2] gv tY hH)(kK:Draws prog w A b1 [b1,b4] gd tZ h5)(aq:fu s.heap z TI cj (hg T) (.bool f))(ek:s.heap.get? T=some kn)(fi:IsPair s.heap TI (.ref b0) (.ref b1))
  (s1:hH k s.heap) (s2:h5 k s.heap) (aL:k=gv\/(k<gv/\k=gd))
  (kS:∀h' e tk,(∀c o,c≠z->c≠b0->c≠b1->s.heap.get? c=some o->h'.get? c=some o)->(∃o,h'.get? e=some o/\o.cls=.type "StopIteration")->E (.ref e) {s with heap:=h',toks:=tk}):
  bD (bL prog w) A (Builtin.«zip.__next__» ⟨[.ref z],[]⟩) Q E s:=by
 have wQ:=aq;unfold fu at aq;refine a8 (m:=field (.ref z) 2) (iY aq rfl (x:=.bool false) rfl (a8 (m:=field (.ref z) 3) (iY aq rfl (x:=.ref TI) rfl (a8 (oK fi rfl ?_)))));refine a8 (m:=q0 (.ref z)) (e2 (Q3 wQ ek) (λc s' ⟨gH,fj,es,lG,fz⟩=>?_) λ_ _ q=>q);subst gH es;simp only[nz,if_false];refine a8 ?_;rw[<- Array.forIn_toList];simp only[List.forIn_cons,List.forIn_nil];have pT:hH k fj:=jl.frame k _ _ s1 λc ax o e=>by
  rcases cm.mp ax with rfl|ax
  ·exact fz.extBut _ _ D.i1z e
  ·rw[jC.mp ax] at e ⊢;exact fz.extBut _ _ D.l1z e
 rcases aL with rfl|⟨af,rfl⟩
 ·refine a8 (a8 (q5 (a8 (m:=k' (.ref b0)) (jl.done _ _ _ pT λjs e gr he=>?_))))
  exact kS js e _ (λc o cS fH _ q=>gr _ _ fH (fz.extBut _ _ cS q)) he
 ·refine a8 (a8 (q5 (a8 (m:=k' (.ref b0)) (jl.item k _ _ _ af pT λx js tk jb t1 gr=>cX (cX ?_)))))
  have ks:h5 k js:=kK.frame k _ _ s2 λc ax o e=>by
   rcases cm.mp ax with rfl|ax
   ·exact gr.extBut _ _ D.i12.symm (fz.extBut _ _ D.i2z e)
   ·rw[jC.mp ax] at e ⊢;exact gr.extBut _ _ D.l2i1 (fz.extBut _ _ D.l2z e)
  refine a8 (a8 (q5 (a8 (m:=k' (.ref b1)) (kK.done _ _ _ ks λic e hu he=>?_))))
  exact kS ic e _ (λc o cS fH gF q=>hu _ _ gF (gr.extBut _ _ fH (fz.extBut _ _ cS q))) he
end
end
section
variable [cJ]
open AutoSeq1 (wpAny_loadPart')
def _y(b:Bool):String:=if b then "list_iterator" else "tuple_iterator"
def iO(b:Bool)(h:bE)(it l:ag)(i:Nat):Prop:=match b with
|true=>h.IsListIter it l i
|false=>h.IsTupleIter it l i
def gz(b:Bool)(h:bE)(l:ag)(xs:Array aj):Prop:=match b with
|true=>h.IsList l xs
|false=>h.IsTuple l xs
theorem iO.at{b:Bool}{h h':bE}{it l:ag}{i:Nat}(x:iO b h it l i)(k:∀o,h.get? it=some o->h'.get? it=some o):iO b h' it l i:=by
 cases b with
|true=>exact Heap.IsListIter.at x k
|false=>
  obtain⟨o,aF,r⟩:=x;exact⟨o,k o aF,r⟩
def iO.obj{b:Bool}{h:bE}{it l:ag}{i:Nat}(x:iO b h it l i):∃o,h.get? it=some o/\∀v,o.data≠.cell v:=by
 cases b with
|true=>
  obtain⟨o,aF,ax,hd⟩:=x;exact⟨o,aF,λv z=>by rw[hd] at z;cases z⟩
|false=>
  obtain⟨o,aF,ax,hd⟩:=x;exact⟨o,aF,λv z=>by rw[hd] at z;cases z⟩
def gz.at{b:Bool}{h h':bE}{l:ag}{xs:Array aj}(x:gz b h l xs)(k:∀o,h.get? l=some o->h'.get? l=some o):gz b h' l xs:=by
 cases b with
|true=>
  obtain⟨o,aF,r⟩:=x;exact⟨o,k o aF,r⟩
|false=>
  obtain⟨o,aF,r⟩:=x;exact⟨o,k o aF,r⟩
def gz.lt{b:Bool}{h:bE}{l:ag}{xs:Array aj}(x:gz b h l xs):l<h.objs.size:=by
 cases b with
|true=>
  obtain⟨o,aF,r⟩:=x;exact cY aF
|false=>
  obtain⟨o,aF,r⟩:=x;exact cY aF
def ro{prog:cA}{w:bZ}{A:cH}(b:Bool)(cM:A.handled=none)(it l:ag)(ng:l≠it)(xs:Array aj):
  Draws prog w A it [it,l] xs.size (λi v=>xs[i]?=some v) (λi h=>iO b h it l i/\gz b h l xs):=by
 cases b with
|true=>exact Draws.list cM it l ng xs
|false=>exact vg cM it l ng xs
abbrev yO(b:Bool)(l:ag):Obj:={cls:=.type (_y b),data:=.fields #[.ref l,.int 0 0]}
abbrev agB(cf ct:Bool)(h:bE)(b2 b4:ag):bE:=((h.push (yO cf b2)).push (yO ct b4)).push {cls:=.type "tuple",data:=.seq #[.ref h.objs.size,.ref (h.objs.size+1)]}
abbrev RY(cf ct:Bool)(h:bE)(b2 b4:ag):bE:=(agB cf ct h b2 b4).push {cls:=.type "tuple",data:=.seq #[.none,.none]}
abbrev RZ(cf ct:Bool)(h:bE)(b2 b4:ag):bE:=(RY cf ct h b2 b4).push {cls:=.type "zip",data:=.fields #[.none,.bool false,.bool false,.ref (h.objs.size+2),.ref (h.objs.size+3)]}
section
variable {prog:cA}{w:bZ}{A:cH}{E:aj->aI->Prop}{s:aI}
def TO{b:Bool}{l:ag}{xs:Array aj}{Q:aj->aI->Prop}(aB:gz b s.heap l xs)(h:Q (.ref s.heap.objs.size) {s with heap:=s.heap.push (yO b l)}):bD (bL prog w) A (pyIter (.ref l)) Q E s:=by
 cases b with
|true=>exact wpAny_pyIter_list aB h
|false=>exact xD aB h
def ag3(cf ct:Bool)(b2 b4:ag)(xs ys:Array aj):
  Meets (Builtin.«zip.__new__» ⟨[.type "zip",.ref b2,.ref b4],[]⟩) (λ_ R s=>gz cf s.heap b2 xs/\gz ct s.heap b4 ys /\
   R (.ok (.ret (.ref (s.heap.objs.size+4)))) {s with heap:=RZ cf ct s.heap b2 b4}):=
 .of_wp λprog w A R s h=>by
  obtain⟨aC,g,d,tk,os⟩:=s;obtain⟨af,ak,h⟩:=h;have OD:=sub_zip;have dU:gz cf (Shared.heap ⟨aC,g,d,tk,os⟩) b2 xs:=af;have g_:gz ct (Shared.heap ⟨aC.push (yO cf b2),g,d,tk,os⟩) b4 ys:=ak.at λo e=>c2 _ e
  wp_walk using TO dU,TO g_
  refine⟨_,rfl,?_⟩
  simp only[ky] at h ⊢;exact h
def RO{cf ct:Bool}{b2 b4:ag}{xs ys:Array aj}{Q:aj->aI->Prop}(af:gz cf s.heap b2 xs)(ak:gz ct s.heap b4 ys)
  (h:∀h',fu h' (s.heap.objs.size+4) (s.heap.objs.size+2) (s.heap.objs.size+3) .none (.bool false)->IsPair h' (s.heap.objs.size+2) (.ref s.heap.objs.size) (.ref (s.heap.objs.size+1))->IsPair h' (s.heap.objs.size+3) .none .none ->
   iO cf h' s.heap.objs.size b2 0->iO ct h' (s.heap.objs.size+1) b4 0->h'.objs.size=s.heap.objs.size+5->(∀c o,s.heap.get? c=some o->h'.get? c=some o)->Q (.ref (s.heap.objs.size+4)) {s with heap:=h'}):
  bD (bL prog w) A (call (.type "zip") [.ref b2,.ref b4]) Q E s:=by
 have bc:∀(b:Bool) (h':bE) (it l:ag),h'.get? it=some (yO b l)->iO b h' it l 0:=λb h' it l e=>by
  cases b with
  |true=>exact⟨_,e,rfl,rfl⟩
  |false=>exact⟨_,e,rfl,rfl⟩
 refine callType_new F.called_zip (by decide) (F.typeCall_zip_2 _ _) (F.newCall_zip_2 _ _) (λobj=>F.args_object_init_3 obj _ _) F.entry_zip_new (ag3 cf ct b2 b4 xs ys) ⟨af,ak,?_⟩
 have at_:∀(cM:bE) (n:Nat) (o o':Obj),cM.objs.size=n->o.isFreed=false->(cM.push o).get? n=some o:=λcM n o o' e f=>by
  rw[<- e];exact gY _ f
 have ml:(RZ cf ct s.heap b2 b4).get? (s.heap.objs.size+4)=some _:=at_ (RY cf ct s.heap b2 b4) (s.heap.objs.size+4) _ default (by simp only[ky]) rfl;refine⟨⟨_,ml,rfl⟩,h _ ml ?_ ?_ ?_ ?_ (by simp only[ky]) λc o e=>c2 _ (c2 _ (c2 _ (c2 _ (c2 _ e))))⟩
 ·exact c2 _ (c2 _ (at_ _ _ _ default (by simp only[ky]) rfl))
 ·exact c2 _ (at_ _ _ _ default (by simp only[ky]) rfl)
 ·exact bc cf _ _ _ (c2 _ (c2 _ (c2 _ (c2 _ (gY _ rfl)))))
 ·exact bc ct _ _ _ (c2 _ (c2 _ (c2 _ (at_ _ _ _ default (by simp only[ky]) rfl))))
end
end
section
variable [cJ]
def agH:typeLookup (.type "zip") "keys"=pure none:=by rw[typeLookup_type,builtinLookup_eq_fast];kernel_rfl
def af7:typeLookup (.type "zip") "__getattr__"=pure none:=by rw[typeLookup_type,builtinLookup_eq_fast];kernel_rfl
def agr:entryFor table "zip.__getattribute__"=some Builtin.«object.__getattribute__»:=entryFor_alias (id':="object.__getattribute__") (by kernel_rfl) (by decide +kernel) (by decide +kernel) (by kernel_rfl)
def af6(a:ag)(vs:Array aj)(name:Str)(u:Tok)(alK:typeLookup (.type "zip") name=pure none)(ZY:(["__module__","__name__","__qualname__","__doc__","__annotations__"]:List Str).contains name=false)(hsz:name.length+100<=cG):
  Meets (Builtin.«object.__getattribute__» ⟨[.ref a,.str name u],[]⟩) (λA R s=>s.heap.get? a=some {cls:=.type "zip",dict:=none,data:=.fields vs,slots:=#[]}/\raisesAttr (.ref a) name A R s):=
 Meets.of_wp λprog w A R s aA=>by
  obtain⟨aC,g,d,tk,os⟩:=s;obtain⟨hx,aA⟩:=aA;have ty:(⟨aC,g,d,tk,os⟩:aI).TypeIs (.ref a) "zip":=⟨_,hx,rfl⟩;unfold Builtin.«object.__getattribute__»
  repeat (any_goals (first|assumption|wp_step))
  simp only[ZY,nz,if_false]
  repeat (any_goals (first|assumption|wp_step))
  exact wpAny_raiseAttrError aA.1 aA.2 (attrMsg_fits (by decide +kernel) hsz)
def aiz{prog:cA}{w:bZ}{A:cH}{E:aj->aI->Prop}{s:aI}{a:ag}{vs:Array aj}{Q:Option aj->aI->Prop}
  (hx:s.heap.get? a=some {cls:=.type "zip",dict:=none,data:=.fields vs,slots:=#[]}) (qt:A.handled=none)
  (h:∀h' tk,(∀b o,s.heap.get? b=some o->h'.get? b=some o)->Q none {s with heap:=h',toks:=tk}):
  bD (bL prog w) A (getAttr? (.ref a) "keys") Q E s:=by
 obtain⟨aC,g,d,tk,os⟩:=s;have ty:∀Bx,(⟨aC,g,d,Bx,os⟩:aI).TypeIs (.ref a) "zip":=λ_=>⟨_,hx,rfl⟩;have f1:=sub_AttributeError;have hL:=F.slot_zip_getattribute.lookup;have f4:=F.slot_zip_getattribute.bind (.ref a);have hv:=af7;have nm:(["__module__","__name__","__qualname__","__doc__","__annotations__"]:List Str).contains ("keys":Str)=false:=by decide +kernel
 have k7:("keys":Str).length+100<=cG:=by rw[jg];decide
 unfold getAttr? getAttrBy? getAttrBy
 repeat (any_goals (first|assumption|exact ty _|((with_reducible show bD _ _ (call (Value.builtin "zip.__getattribute__") _ _) _ _ _);refine call_meets F.slot_zip_getattribute (ty _) agr (F.args_zip_getattribute_2 _ _) (af6 a vs "keys" _ agH nm k7) ⟨hx,qt,λh' Bx e kV=>?_⟩)|wp_step))
 obtain⟨t',xt,he⟩:=kV.there;show bD _ _ (getattributeRaised _ _ _ _ _ _ _) _ _ _;unfold getattributeRaised
 repeat (any_goals (first|assumption|wp_step))
 exact h _ _ kV.keeps
section
variable {prog:cA}{w:bZ}{K:Type}[DecidableEq K]{knd:PySem.KeyKind prog w K}{A:cH}{E:aj->aI->Prop}{s:aI}{R:Result->aI->Prop}{z TI cj b0 b1 b2 b4:ag}{cf ct:Bool}{xs ys:Array aj}
noncomputable def rH(S z TI cj b0 b1 b2 b4:ag)(cf ct:Bool)(xs ys:Array aj)(i:Nat)(h:bE):Prop:=IsPair h TI (.ref b0) (.ref b1)/\(∃a b,IsPair h cj a b)/\(iO cf h b0 b2 i/\gz cf h b2 xs)/\(iO ct h b1 b4 i/\gz ct h b4 ys) /\
 (fu h z TI cj .none (.bool false)\/∃(T:Nat) (kn:Obj) (f:Bool),fu h z TI cj (hg T) (.bool f)/\h.get? T=some kn/\T≠S/\T≠z/\T≠cj/\T≠b0/\T≠b1)
def Kept(S z cj b0 b1:ag)(h h':bE):Prop:=∀c o,c≠S->c≠z->c≠cj->c≠b0->c≠b1->h.get? c=some o->h'.get? c=some o
def agR{S:ag}{i:Nat}{Q:Option aj->aI->Prop}(cM:A.handled=none)(D:ZipApart z TI cj b0 b1 b2 b4)(st:rH S z TI cj b0 b1 b2 b4 cf ct xs ys i s.heap)(e9:∃o,s.heap.get? S=some o)(i7:S≠z/\S≠cj/\S≠b0/\S≠b1)
  (hx:i<xs.size) (a7:i<ys.size)
  (iM:∀h' tk,IsPair h' s.heap.objs.size xs[i] ys[i]->rH S z TI cj b0 b1 b2 b4 cf ct xs ys (i+1) h'->(∀o,s.heap.get? S=some o->h'.get? S=some o)->Kept S z cj b0 b1 s.heap h'->s.heap.objs.size<=h'.objs.size->Q (some (.ref s.heap.objs.size)) {s with heap:=h',toks:=tk}):
  bD (bL prog w) A (pyNext (.ref z)) Q E s:=by
 obtain⟨fi,⟨a,b,gI⟩,aM,bb,aq⟩:=st;have qb:∀{f0 f1:aj},fu s.heap z TI cj f0 f1->z<s.heap.objs.size:=λh=>cY h;have ek:s.TypeIs (.ref z) "zip":=by
  rcases aq with h|⟨T,kn,f,h,_⟩
  ·exact⟨_,h,rfl⟩
  ·exact⟨_,h,rfl⟩
 have OK:b0<s.heap.objs.size/\b1<s.heap.objs.size:=by
  obtain⟨dH,aD,_⟩:=aM.1.obj;obtain⟨d3,aO,_⟩:=bb.1.obj;exact⟨cY aD,cY aO⟩
 have VV:S<s.heap.objs.size:=by
  obtain⟨o,e⟩:=e9;exact cY e
 have DV:cj<s.heap.objs.size:=cY gI;unfold pyNext;refine a8 (wpAny_attempt (s9 (name:=Str.ofString "__next__") ek F.slot_zip_next (q6 F.slot_zip_next ek F.entry_zip_next ?_ (F.args_zip_next_1 _))));rcases aq with aq|⟨T,kn,f,aq,z7,t1,al5,t3,xo,Jz⟩
 ·refine R1 (hH:=λi h=>iO cf h b0 b2 i/\gz cf h b2 xs) (h5:=λi h=>iO ct h b1 b4 i/\gz ct h b4 ys) D (ro (A:=A.in1) cf cM b0 b2 D.l1i1 xs) (ro (A:=A.in1) ct cM b1 b4 D.l2i2 ys) aq fi gI aM bb hx a7 λh' x y tk jb py pL F' s1 s2 aC hsz aw=>cX ?_
  have ex:xs[i]=x:=ef ((uT hx).symm.trans jb);have fy:ys[i]=y:=ef ((uT a7).symm.trans py);subst ex fy;refine iM h' tk aC ⟨aw _ _ D.TIz D.TITO D.TIi1 D.TIi2 fi,⟨_,_,F'⟩,s1,s2,.inr ⟨_,_,false,pL,aC,?_⟩⟩ (λo e=>aw _ _ i7.1 i7.2.1 i7.2.2.1 i7.2.2.2 e) (λc o _ c5 fH gF jV e=>aw c o c5 fH gF jV e) (by omega);exact⟨hX VV,hX (qb aq),hX DV,hX OK.1,hX OK.2⟩
 ·refine ah0 (hH:=λi h=>iO cf h b0 b2 i/\gz cf h b2 xs) (h5:=λi h=>iO ct h b1 b4 i/\gz ct h b4 ys) D (ro (A:=A.in1) cf cM b0 b2 D.l1i1 xs) (ro (A:=A.in1) ct cM b1 b4 D.l2i2 ys) aq z7 fi aM bb hx a7 λh' x y tk jb py pL s1 s2 aC hsz aw=>cX ?_
  have ex:xs[i]=x:=ef ((uT hx).symm.trans jb);have fy:ys[i]=y:=ef ((uT a7).symm.trans py);subst ex fy;exact iM h' tk aC ⟨aw _ _ D.TIz D.TIi1 D.TIi2 fi,⟨a,b,aw _ _ D.TOz D.TOi1 D.TOi2 gI⟩,s1,s2,.inr ⟨T,kn,true,pL,aw _ _ al5 xo Jz z7,t1,al5,t3,xo,Jz⟩⟩ (λo e=>aw _ _ i7.1 i7.2.2.1 i7.2.2.2 e) (λc o _ c5 fH gF jV e=>aw c o c5 gF jV e) (by omega)
def agS{S:ag}{i:Nat}{Q:Option aj->aI->Prop}(cM:A.handled=none)(D:ZipApart z TI cj b0 b1 b2 b4)(st:rH S z TI cj b0 b1 b2 b4 cf ct xs ys i s.heap)(i7:S≠z/\S≠cj/\S≠b0/\S≠b1)(bc:i=xs.size\/(i<xs.size/\i=ys.size))
  (iM:∀h' tk,(∀o,s.heap.get? S=some o->h'.get? S=some o)->Kept S z cj b0 b1 s.heap h'->Q none {s with heap:=h',toks:=tk}):
  bD (bL prog w) A (pyNext (.ref z)) Q E s:=by
 obtain⟨fi,⟨a,b,gI⟩,aM,bb,aq⟩:=st;have ek:s.TypeIs (.ref z) "zip":=by
  rcases aq with h|⟨T,kn,f,h,_⟩
  ·exact⟨_,h,rfl⟩
  ·exact⟨_,h,rfl⟩
 unfold pyNext;refine a8 (wpAny_attempt (s9 (name:=Str.ofString "__next__") ek F.slot_zip_next (q6 F.slot_zip_next ek F.entry_zip_next ?_ (F.args_zip_next_1 _))));rcases aq with aq|⟨T,kn,f,aq,z7,t1,al5,t3,xo,Jz⟩
 ·refine R0 (hH:=λi h=>iO cf h b0 b2 i/\gz cf h b2 xs) (h5:=λi h=>iO ct h b1 b4 i/\gz ct h b4 ys) D (ro (A:=A.in1) cf cM b0 b2 D.l1i1 xs) (ro (A:=A.in1) ct cM b1 b4 D.l2i2 ys) aq fi gI aM bb bc λh' e tk aw he=>?_
  obtain⟨o,aF,ax⟩:=he;refine a8 (wpAny_isInstance (T:="StopIteration") (b:=true) ⟨o,aF,ax⟩ isSubtype_stop (cX ?_));exact iM h' tk (λo e=>aw _ _ i7.1 i7.2.1 i7.2.2.1 i7.2.2.2 e) λc o _ c5 fH gF jV e=>aw c o c5 fH gF jV e
 ·refine aga (hH:=λi h=>iO cf h b0 b2 i/\gz cf h b2 xs) (h5:=λi h=>iO ct h b1 b4 i/\gz ct h b4 ys) D (ro (A:=A.in1) cf cM b0 b2 D.l1i1 xs) (ro (A:=A.in1) ct cM b1 b4 D.l2i2 ys) aq z7 fi aM bb bc λh' e tk aw he=>?_
  obtain⟨o,aF,ax⟩:=he;refine a8 (wpAny_isInstance (T:="StopIteration") (b:=true) ⟨o,aF,ax⟩ isSubtype_stop (cX ?_));exact iM h' tk (λo e=>aw _ _ i7.1 i7.2.2.1 i7.2.2.2 e) λc o _ c5 fH gF jV e=>aw c o c5 gF jV e
def rH.frame{S:ag}{i:Nat}{h h':bE}(st:rH S z TI cj b0 b1 b2 b4 cf ct xs ys i h)(e9:∀c∈[z,TI,cj,b0,b1,b2,b4],S≠c)(k:∀c o,c≠S->h.get? c=some o->h'.get? c=some o):rH S z TI cj b0 b1 b2 b4 cf ct xs ys i h':=by
 obtain⟨fi,⟨a,b,gI⟩,aM,bb,aq⟩:=st;have ne:∀c∈[z,TI,cj,b0,b1,b2,b4],c≠S:=λc ax=>(e9 c ax).symm;refine⟨k _ _ (ne _ (by simp)) fi,⟨a,b,k _ _ (ne _ (by simp)) gI⟩,⟨aM.1.at λo e=>k _ _ (ne _ (by simp)) e,aM.2.at λo e=>k _ _ (ne _ (by simp)) e⟩,⟨bb.1.at λo e=>k _ _ (ne _ (by simp)) e,bb.2.at λo e=>k _ _ (ne _ (by simp)) e⟩,?_⟩;rcases aq with aq|⟨T,kn,f,aq,ek,t⟩
 ·exact .inl (k _ _ (ne z (by simp)) aq)
 ·exact .inr ⟨T,kn,f,k _ _ (ne z (by simp)) aq,k _ _ t.1 ek,t⟩
def agv(cM:A.handled=none)(D:ZipApart z TI cj b0 b1 b2 b4)(S:ag)(e9:∀c∈[z,TI,cj,b0,b1,b2,b4],S≠c)(kvs:List (K×aj))(ux:(kvs.map (·.1)).Nodup)(hlen:kvs.length=min xs.size ys.size)(aq:kvs.length<=cG)
  (so:∀(j:Nat) (dy:K×aj),kvs[j]?=some dy->∃key,xs[j]?=some key/\knd.is dy.1 key=true/\ys[j]?=some dy.2):
  ∀(k i:Nat) (s:aI) (c:Int) (dN:Tok),kvs.length - i=k->i<=kvs.length->rH S z TI cj b0 b1 b2 b4 cf ct xs ys i s.heap->s.heap.DictOf knd S (kvs.take i) ->
   (∀h' tk,Kept S z cj b0 b1 s.heap h'->h'.DictOf knd S kvs->R (.ok (.ret .none)) {s with heap:=h',toks:=tk}) ->
   iG (bL prog w) A (.builtin "dict.update.loop" ⟨[.ref S,.ref z,.int c dN,.none],[]⟩) R s:=by
 have i7:S≠z/\S≠cj/\S≠b0/\S≠b1:=⟨e9 _ (by simp),e9 _ (by simp),e9 _ (by simp),e9 _ (by simp)⟩;intro k
 induction k with
|zero=>
  intro i s c dN aL bc gJ hd si;have qx:i=kvs.length:=by omega
  subst qx;refine u1 RH ?_;rw[uW CN _];refine a8 (m:=pyNext (.ref z)) (agS (A:=A.in1) cM D gJ i7 (by omega) λh' tk F9 aw=>?_);refine a8 (m:=Builtin.Dict.addKeywords S []) (cX ?_);rw[List.take_of_length_le (el _)] at hd;exact cX (si h' tk aw (hd.at λo e=>F9 o e))
|succ k b8=>
  intro i s c dN aL bc gJ hd si;have fJ:i<kvs.length:=by omega
  have hx:i<xs.size:=by omega
  have a7:i<ys.size:=by omega
  have Zh:∃o,s.heap.get? S=some o:=by
   obtain⟨o,_,_,e,_⟩:=hd;exact⟨o,e⟩
  refine u1 RH ?_
  rw[uW CN _];refine a8 (m:=pyNext (.ref z)) (agR (A:=A.in1) cM D gJ Zh i7 hx a7 λh' tk aC kr F9 aw hsz=>?_);have Ot:kvs[i]?=some kvs[i]:=iD fJ;obtain⟨key,aD,aO,fw⟩:=so i _ Ot;have ex:xs[i]=key:=ef ((uT hx).symm.trans aD);have fy:ys[i]=kvs[i].2:=ef ((uT a7).symm.trans fw);rw[ex,fy] at aC;refine a8 (q5 (a8 (wpAny_tryCatch (pair_items (s:={s with heap:=h',toks:=tk}) aC rfl rfl ?_))));have ZC:h'.DictOf knd S (kvs.take i):=hd.at λo e=>F9 o e;refine q5 (wpAny_dictSet_pairs (s:={s with heap:=h',toks:=tk}) aO ZC (λak hd2 qB=>?_) (by rw[List.length_take];omega));have sq:kvs[i].1∉(kvs.take i).map (·.1):=λq=>by
   rw[<- List.take_append_drop i kvs,List.map_append,p0] at ux;refine ux.2.2 _ q _ (c7.mpr ⟨kvs[i],?_,rfl⟩) rfl;rw[List.drop_eq_getElem_cons fJ];exact fb
  rw[stored_new sq,show kvs.take i++[(kvs[i].1,kvs[i].2)]=kvs.take (i+1) by rw[List.take_succ,Ot];rfl] at hd2;refine cX ⟨plainId_quiet CN _,b8 (i+1) _ _ _ (by omega) fJ (kr.frame e9 λc o ax e=>?_) hd2 λbB afo HB Gh=>si bB afo (λc o cS c5 fH gF jV e=>HB c o cS c5 fH gF jV ?_) Gh⟩
  ·exact (qB.2 c ax).trans e
  ·exact (qB.2 c cS).trans (aw c o cS c5 fH gF jV e)
def ahd{kvs:List (K×aj)}{Q:aj->aI->Prop}(cM:A.handled=none)(D:ZipApart z TI cj b0 b1 b2 b4)(st:rH s.heap.objs.size z TI cj b0 b1 b2 b4 cf ct xs ys 0 s.heap)(aq:fu s.heap z TI cj .none (.bool false))(ux:(kvs.map (·.1)).Nodup)(hlen:kvs.length=min xs.size ys.size)(hsz:kvs.length<=cG)
  (so:∀(j:Nat) (dy:K×aj),kvs[j]?=some dy->∃key,xs[j]?=some key/\knd.is dy.1 key=true/\ys[j]?=some dy.2)
  (h:∀(h':bE) (tk:Nat),h'.DictOf knd s.heap.objs.size kvs->(∀c o,c≠z->c≠cj->c≠b0->c≠b1->s.heap.get? c=some o->h'.get? c=some o)->Q (.ref s.heap.objs.size) {s with heap:=h',toks:=tk}):
  bD (bL prog w) A (call (.type "dict") [.ref z]) Q E s:=by
 obtain⟨fi,⟨a,b,gI⟩,aM,bb,_⟩:=id st;have qb:z<s.heap.objs.size:=cY aq;have e9:∀c∈[z,TI,cj,b0,b1,b2,b4],s.heap.objs.size≠c:=by
  obtain⟨dH,aD,_⟩:=aM.1.obj;obtain⟨d3,aO,_⟩:=bb.1.obj;have a1:=cY fi;have a2:=cY gI;have ho:=cY aD;have mb:=cY aO;have al3:=aM.2.lt;have ly:=bb.2.lt;intro c ax;simp only[cm,ee,or_false] at ax;rcases ax with rfl|rfl|rfl|rfl|rfl|rfl|rfl
  ·exact hX qb
  ·exact hX a1
  ·exact hX a2
  ·exact hX ho
  ·exact hX mb
  ·exact hX al3
  ·exact hX ly
 refine callType_codes (Q₁:=λobj cU=>obj=.ref s.heap.objs.size/\cU={s with heap:=s.heap.push {cls:=.type "dict",data:=.dict #[]} }) F.kt_called_dict (F.kt_typeCall_dict_1 _) F.entry_dict_init (kt_code_dict_new _ ⟨rfl,rfl⟩) ?_
 rintro obj cU ⟨rfl,rfl⟩;have Fz:(s.heap.push {cls:=.type "dict",data:=.dict #[]}).DictOf knd s.heap.objs.size []:=Heap.DictOf.new s.heap;have sy:fu (s.heap.push {cls:=.type "dict",data:=.dict #[]}) z TI cj .none (.bool false):=c2 _ aq;refine⟨Fz.typeIs,F.args_dict_init_2 _ _,?_⟩;unfold Builtin.«dict.__init__»;refine a8 ?_;unfold Builtin.Dict.selfAndRest;refine a8 (wpAny_notOrdered_dict Fz.typeIs ?_);show bD _ _ (pure (s.heap.objs.size,[Value.ref z])) _ _ _;refine cX ?_;show bD _ _ (Builtin.Dict.updateFrom "dict.__init__" s.heap.objs.size (.ref z) [] .none) _ _ _;unfold Builtin.Dict.updateFrom;refine a8 (wpAny_typeOf (show Shared.TypeIs _ (.ref z) "zip" from ⟨_,sy,rfl⟩) ?_);rw[if_pos (by decide)];refine a8 (aiz sy (by simp[cM]) λak JI k2=>?_);have uy:IsZip ak z TI cj .none:=k2 _ _ sy;simp only[Option.isNone_none,if_true];refine a8 (wpAny_rule (a8 (wpAny_pyIter_zip (s:={s with heap:=ak,toks:=JI}) uy (cX ⟨plainId_quiet CN _,?_⟩))));have aw:∀c o,s.heap.get? c=some o->ak.get? c=some o:=λc o e=>k2 _ _ (c2 _ e);refine agv (knd:=knd) (by simp[cM]) D s.heap.objs.size e9 kvs ux hlen hsz so (kvs.length - 0) 0 _ 0 _ (by omega) (mE _) (st.frame e9 λc o _ e=>aw c o e) (by simpa using Fz.at λo e=>k2 _ _ e) λh' tk HB Gh=>⟨rfl,h h' tk Gh λc o c5 fH gF jV e=>?_⟩;exact HB c o (eR (cY e)) c5 fH gF jV (aw c o e)
end
end
section
variable [cJ]
def Qy{n b2 b4:Nat}(af:b2<n)(ak:b4<n):ZipApart (n+4) (n+2) (n+3) n (n+1) b2 b4:=by constructor <;> (show (_:Nat)≠_) <;> omega
section
variable {X:aV}{a b:bj}{f g:bz}{p fM pos mv:Pos}
def jN:List bh.Key->List V->List (bh.Key×V)
|k::bp,v::vs=>(k,v)::jN bp vs
|_,_=>[]
theorem R2:∀(bp:List bh.Key) (vs:List V),(jN bp vs).length=min bp.length vs.length
| [],vs=>by simp[jN]
|k::bp,[]=>by simp[jN]
|k::bp,v::vs=>by simp only[jN,eJ,R2 bp vs];omega
theorem Lu:∀{bp:List bh.Key} {vs:List V} {us:List aj},Vals vs us->g7 (jN bp vs) ((bp.zip us))
| [],vs,us,_=>by
  rw[show jN [] vs=[] from rfl,List.zip_nil_left];exact .nil
|k::bp,_,_,.nil=>.nil
|k::bp,_,_,.cons r t=>.cons ⟨rfl,r⟩ (Lu t)
def ahh(X:aV){bp:List bh.Key}{us:List aj}{xs:List aj}(hx:Vals (bp.map dG) xs)(j:Nat)(dy:bh.Key×aj)(h:(bp.zip us)[j]?=some dy):∃key,xs.toArray[j]?=some key/\rD dy.1 key=true/\us.toArray[j]?=some dy.2:=by
 rw[List.getElem?_zip_eq_some] at h;obtain⟨af,ak⟩:=h;obtain⟨u,bM,c9⟩:=hx.get (i:=j) (x:=dG dy.1) (by rw[la,af];rfl);refine⟨u,by simpa using bM,Dx (P:=X.prog) (w:=X.w) c9,by simpa using ak⟩
noncomputable def akI(K:a9)(cF:fS):TE:=λσ H Q=>cF σ H λvs H1=>∃b2 b4 bp ys,vs=[.ref b2,.ref b4]/\gP K H1 b2 (bp.map dG)/\c3 K H1 b4 ys/\((jN bp ys).map (·.1)).Nodup/\(jN bp ys).length<=1000/\∀q,H1 q=none->Q (.ref q) (upd H1 q (.fo (jN bp ys)))
def ag1{cF:fS}(ax:X.calm=true)(hd:X.mg "dict"=none)(aq:X.mg "zip"=none)(av:f5 X [a,b] cF)(bl:ei X "dict")(Gr:ei X "zip")(pJ:bo [a,b] X.env=(false,eval a X.env)::bo [b] X.env)(GB:(dM mv (bo [b] X.env)).any (·.1)=false)
  (he:bo [.Call (.Name "zip" fM) [a,b] [] mv] X.env=(false,eval (.Call (.Name "zip" fM) [a,b] [] mv) X.env)::bo [] X.env) (hpl:(dM pos (bo [] X.env)).any (·.1)=false):
  bQ X (.Call (.Name "dict" p) [.Call (.Name "zip" fM) [a,b] [] mv] [] pos) (akI X.K cF):=by
 intro ai s σ H Q I h;refine oJ (tL I bl hd PyProof.Rows.boot_dict ?_);refine uU ?_ he hpl;rw[he];show bD _ _ (spliced ((false,eval (.Call (.Name "zip" fM) [a,b] [] mv) X.env)::dM pos (bo [] X.env))) _ _ s;refine Calls.spliced_cons (oJ (tL I Gr aq PyProof.Rows.boot_zip (uU (cN (av mv ai s σ H _ I h) λus s1 ⟨vs,H1,a_,bg,aM⟩=>?_) pJ GB)));obtain⟨b2,b4,bp,ys,rfl,mr,nh,ux,hle,q⟩:=aM;obtain⟨JM,xu,rfl,aD,aO⟩:=bg.two;cases aD;cases aO;obtain⟨its,bP,pl,sy⟩:=a_.list mr;obtain⟨ha,pR,Je,uy⟩:=a_.tuple nh;have k1:gz true s1.heap b2 its.toArray:=pl.isList;have k2:gz false s1.heap b4 ha.toArray:=Je;refine RO k1 k2 λh' wR fi gI uv uw hsz aL=>Calls.spliced_nil ?_;have qy:bp.length=its.length:=by have:=bP.length;simpa using this
 have z':ys.length=ha.length:=pR.length;have hlen:(bp.zip ha).length=(jN bp ys).length:=by rw[R2,List.length_zip,z']
 have ZO:(bp.zip ha).map (·.1)=(jN bp ys).map (·.1):=(SQ (Lu pR)).symm;have big:=a_.big;have Bu:h'.objs.size=s1.heap.objs.size+5:=hsz;refine ahd (knd:=hh X.prog X.w) (kvs:=bp.zip ha) (s:={s1 with heap:=h'}) (a_.ok.hd ax) (Qy k1.lt k2.lt) ⟨fi,⟨_,_,gI⟩,⟨uv,k1.at λo e=>aL _ o e⟩,⟨uw,k2.at λo e=>aL _ o e⟩,.inl wR⟩ wR (by rw[ZO];exact ux) (by rw[List.length_zip,eQ,eQ,qy]) (by rw[hlen,jg];omega) (λj dy e=>ahh X bP j dy e) λak tk hd2 mu=>?_;have keep:∀c o,s1.heap.get? c=some o->ak.get? c=some o:=λc o e=>by
  have ax:c<s1.heap.objs.size:=cY e;have ne:∀m:Nat,c≠s1.heap.objs.size+m:=λm=>eR (iE ax (q7 _ m));exact mu c o (ne 4) (ne 3) (ne 0) (ne 1) (aL c o e)
 have It:s1.heap.objs.size<=h'.objs.size:=by rw[Bu];exact q7 _ _
 refine⟨.ref h'.objs.size,_,K9 (s:=s1) a_ (o:=.fo (jN bp ys)) (d':=s1.drawn) (t':=tk) keep It ⟨by rw[jg];omega,?_,bp.zip ha,Lu pR,hd2⟩,rfl,q _ (a_.bO.fresh It)⟩
 rw[beq_eq_false_iff_ne];exact hX (iE big It)
variable {c C i j:Nat}{ns:List Str}{fn:Str}{o:bj}{apos:Pos}
theorem R3{K:a9}{F:ag->Prop}{H:ay}:∀{lk lv:List T} {kvs:List (D.Key×T)} {ws ys:List V},rI lk lv=some kvs->bG K F H lk ws->bG K F H lv ys->(∀t∈lk,∃k,keyOf t=some k)->∃bp:List bh.Key,ws=bp.map dG/\d7 K F H kvs (jN bp ys)/\(jN bp ys).map (·.1)=kvs.map (·.1)
| [],lv,kvs,ws,ys,e,af,ak,_=>by
  cases e
  simp only[bG] at af;subst af;exact⟨[],rfl,rfl,rfl⟩
|t::lk,[],kvs,ws,ys,e,af,ak,av=>by
  cases e
  simp only[bG] at af ak;subst ak;obtain⟨v,r,rfl,q,z⟩:=af;obtain⟨k,aL⟩:=av t (by simp);have br:v=dG k:=amj (O:=λ_=>False) aL (.inl q);have key:∀{lk:List T} {r:List V},bG K F H lk r->(∀t∈lk,∃k,keyOf t=some k)->∃bp:List bh.Key,r=bp.map dG:=by
   intro lk
   induction lk with
   |nil=>
    intro r h _;simp only[bG] at h;exact⟨[],h⟩
   |cons t lk b8=>
    intro r h av;simp only[bG] at h;obtain⟨v,cq,rfl,q,z⟩:=h;obtain⟨k,aL⟩:=av t (by simp);obtain⟨bp,rfl⟩:=b8 z λu bM=>av u (dn _ bM);exact⟨k::bp,by rw[amj (O:=λ_=>False) aL (.inl q)];rfl⟩
  obtain⟨bp,rfl⟩:=key z λu bM=>av u (dn _ bM);exact⟨k::bp,by rw[br];rfl,rfl,rfl⟩
|t::lk,u::lv,kvs,ws,ys,e,af,ak,av=>by
  simp only[rI,cz,dE] at e;obtain⟨k,aL,r,h_,rfl⟩:=e;simp only[bG] at af ak;obtain⟨v,bg,rfl,aM,j6⟩:=af;obtain⟨w,b5,rfl,bb,gC⟩:=ak;obtain⟨bp,rfl,jz,Bg⟩:=R3 h_ j6 gC λu bM=>av u (dn _ bM);exact⟨k::bp,by rw[amj (O:=λ_=>False) aL (.inl aM)];rfl,⟨w,_,rfl,bb,jz⟩,by simp[jN,Bg]⟩
def SG(k:fm X.K c C ns)(ax:X.calm=true)(hd:X.mg "dict"=none)(aq:X.mg "zip"=none)(a6:bQ X o (fU i))(av:e6 X a f)(U:e6 X b g){FA:Pos}(bR:ns[j]?=some fn:=by rfl)(bl:ei X "dict":=by rfl)(Gr:ei X "zip":=by rfl)
  (pJ:bo [a,b] X.env=(false,eval a X.env)::bo [b] X.env:=by rfl) (ZF:bo [b] X.env=(false,eval b X.env)::bo [] X.env:=by rfl) (GB:(dM mv (bo [b] X.env)).any (·.1)=false:=by rfl)
  (he:bo [.Call (.Name "zip" fM) [a,b] [] mv] X.env=(false,eval (.Call (.Name "zip" fM) [a,b] [] mv) X.env)::bo [] X.env:=by rfl) (hpl:(dM FA (bo [] X.env)).any (·.1)=false:=by rfl)
  (aA:jh (.Call (.Name "dict" p) [.Call (.Name "zip" fM) [a,b] [] mv] [] FA) (some (.Attribute o fn apos)) pos.line X.env=pure false:=by rfl):
  f6 X (.Assign [.Attribute o fn apos] (.Call (.Name "dict" p) [.Call (.Name "zip" fM) [a,b] [] mv] [] FA) pos) (vV c i j f g):=
 g4 (LY a6 (ag1 ax hd aq (hA av (hA U j9 ZF) pJ) bl Gr pJ GB he hpl) aA) λD σ H ⟨aE,E,O,F,ε,o,r,e,bV⟩=>by
 simp only[vV,cz] at e;obtain⟨tk,YX,iA,YY,e⟩:=e;split at e
 next lk lv=>
  simp only[cz] at e;obtain⟨kvs,sd,e⟩:=e;split at e
  next Of=>
   simp only[dE] at e;obtain⟨ε',es,rfl⟩:=e;refine⟨aE,E,O,F,ε,_,r,YX,λv1 aY H1 aP aM=>⟨aE,E,O,aY,ε,_,r.ext aP,YY,λv2 du bk b6 bb=>?_⟩⟩;obtain⟨b2,ws,rfl,qy,qz⟩:=(aM.ext b6).lst;obtain⟨b4,ys,rfl,z',ni⟩:=bb.tup;obtain⟨bp,rfl,jz,Bg⟩:=R3 sd qz ni λt aX=>Option.isSome_iff_exists.mp (Of.2.2 t aX);have pY:=aP.trans b6;refine⟨b2,b4,bp,ys,rfl,.inl qy,z',by rw[Bg];exact Of.1,by have:=congrArg List.length Bg;simp only[e1] at this;omega,λq a3=>?_⟩;have hc:=Ext.laid (o:=.fo (jN bp ys)) pY.cu a3;have JP:=pY.trans hc;have bg:=r.ext JP;have sq:H q=none:=pY.same.none a3;have hP:¬du q:=λz=>by
    obtain⟨o,e⟩:=pY.cu q z;rw[a3] at e;cases e
   have ht:=es;unfold gy at ht;simp only[cz] at ht;obtain⟨⟨m,ar⟩,aF,_⟩:=ht;obtain⟨WW,vs,ba,af,hx,aB,av,_⟩:=l5 k bg aF;have hold:=Sn r JP sq;obtain⟨aw,b5⟩:=bg.Br (s:=.hp kvs) (v:=.ref q) k aF af av es ⟨q,_,rfl,er,d7.aw hc.aw jz⟩ (λd hd=>by
    have:d=q:=by simpa [dQ,ih] using hd
    subst this;exact⟨hP,r.fr _ sq,hold i _ _ (l2 aF) af,λk u w _ eW _ aL=>hold k u w eW aL⟩) hx bR
   refine⟨_,af,WW,C,ba,_,rfl,hx,k.cls,kI k bR,?_,bV σ du _ (JP.aw.trans aw) b5⟩
   have:=k.z3;simp only[List.length_zip];omega
  next=>cases e
 next=>cases e
end
end
section
variable [cJ]
section
variable {X:aV}{c C i j:Nat}{ns:List Str}{f:Str}{o:bj}{pos apos:Pos}
def To(k:fm X.K c C ns)(a6:bQ X o (fU i)){jU eU:Pos}(bR:ns[j]?=some f:=by rfl)(U:jf o f X.env (eval o X.env)=eval o X.env:=by rfl)
  (nd:jf (.Attribute o f apos) "pop" X.env (eval (.Attribute o f apos) X.env)=eval (.Attribute o f apos) X.env:=by rfl) (nf:(jU.endLine==eU.line)=true:=by rfl)
  (nj:jh (.Call (.Attribute (.Attribute o f apos) "pop" jU) [] [] eU) none pos.line X.env=pure false:=by rfl):
  f6 X (.Expr (.Call (.Attribute (.Attribute o f apos) "pop" jU) [] [] eU) pos) (uF c i j):=
 g4 (vw (Tx PySem.F.plainAttrs_list PySem.F.slot_list_pop PySem.F.type_list_pop TL (oX a6 U) nd nf) nj) λD σ H ⟨aE,aR,O,F,ε,o,r,e,bV⟩=>by
 simp only[uF,cz,dE] at e;obtain⟨ts,gQ,t,bw,ε',es,rfl⟩:=e;obtain⟨m,ar,aF,aA⟩:=La gQ;obtain⟨a,vs,ba,v,af,hx,aB,av,br,⟨b,us,dZ,U,fa⟩,_⟩:=mM k r aF aA bR;subst dZ;rw[List.getLast?_eq_getElem?] at bw;obtain⟨w,hw,j1⟩:=fa.get bw;refine⟨_,af,a,C,ba,_,_,rfl,hx,k.cls,kI k bR,aB,.inl ⟨rfl,_,gP.of U⟩,b,us,w,rfl,rfl,U,by rw[<- fa.length];exact hw,?_⟩;obtain⟨aw,b5⟩:=r.amr (s':=.own ts.dropLast) (o':=.lst us.dropLast) aF af av es aA br (by simp[dQ,ih]) rfl λaw=>⟨b,_,rfl,er,by
  have:=(fa.aw aw).take (ts.length - 1);rw[<- List.dropLast_eq_take,fa.length,<- List.dropLast_eq_take] at this;exact this⟩
 exact bV σ F _ aw b5
end
end
section
abbrev t0:cJ:=⟨[],λ_=>[],λ_=>none⟩
def eg(ns:List Int):T:=.list (ns.map .int)
def O2(K:a9):Bool:=K.all λp=>match p.2.cls with
|.type t=>t != "list"
|_=>true
theorem QQ{α β:Type}[BEq α][LawfulBEq α]{a:α}{b:β}:∀{l:List (α×β)},l.lookup a=some b->(a,b)∈l
  | [],h=>by cases h
  | (x,y)::l,h=>by
    rw[mC] at h;split at h
    next q=>
      cases h
      have:a=x:=by simpa using q
      subst this;simp
    next=>exact dn _ (QQ h)
end
section
variable [cJ]
noncomputable def DP(K:a9)(a b:ag)(n m:Nat):lx:=
 ⟨λi H=>∃xs x ys y,c3 K H a xs/\xs[i]?=some x/\c3 K H b ys/\ys[i]?=some y/\xs.length=n/\ys.length=m,
  λi H x aa=>∃p u v,H p=none/\x=.ref p/\aa=upd H p (.tup [u,v])/\(∀xs,c3 K H a xs->xs[i]?=some u)/\∀ys,c3 K H b ys->ys[i]?=some v,
  λi H=>∃xs ys,c3 K H a xs/\c3 K H b ys/\xs.length=n/\ys.length=m/\(n<=i\/m<=i)⟩
noncomputable def VX(z TI cj b0 b1 b2 b4:ag)(n m i:Nat)(h:bE):Prop:=fu h z TI cj .none (.bool false)/\IsPair h TI (.ref b0) (.ref b1)/\(∃a b,IsPair h cj a b)/\h.IsTupleIter b0 b2 i/\h.IsTupleIter b1 b4 i/\i<=n/\i<=m
def ah3{P:cA}{w:bZ}{K:a9}{es:List bj}{k:Nat}{pos:Pos}{z TI cj b0 b1 b2 b4:ag}{n m:Nat}(D:ZipApart z TI cj b0 b1 b2 b4):Turn P w K (.Tuple es k pos) (DP K b2 b4 n m) [z,TI,cj,b0,b1] z (VX z TI cj b0 b1 b2 b4 n m) where
 mem:=by simp
 obj:=λi h st b U=>by
  obtain⟨aq,fi,⟨a,c,gI⟩,af,ak,_⟩:=st;simp only[cm,ee,or_false] at U;rcases U with rfl|rfl|rfl|rfl|rfl
  ·exact⟨_,aq,λv q=>by cases (show Data.fields _=Data.cell v from q)⟩
  ·exact⟨_,fi,λv q=>by cases (show Data.seq _ _=Data.cell v from q)⟩
  ·exact⟨_,gI,λv q=>by cases (show Data.seq _ _=Data.cell v from q)⟩
  ·obtain⟨o,aF,_,hd⟩:=af;exact⟨o,aF,λv q=>by rw[hd] at q;cases q⟩
  ·obtain⟨o,aF,_,hd⟩:=ak;exact⟨o,aF,λv q=>by rw[hd] at q;cases q⟩
 keep:=λi h h' st bV=>by
  obtain⟨aq,fi,⟨a,c,gI⟩,af,ak,a6⟩:=st;exact⟨bV z (by simp) _ aq,bV TI (by simp) _ fi,⟨a,c,bV cj (by simp) _ gI⟩,af.at λo q=>bV b0 (by simp) o q,ak.at λo q=>bV b1 (by simp) o q,a6⟩
 item:=by
  intro X gu hw ib ax i ai s σ H E I hf st bl;subst gu hw ib;obtain⟨xs,x,ys,y,mr,hx,nh,a7,a6,hm⟩:=bl;obtain⟨its,bP,nt,_⟩:=I.tuple mr;obtain⟨ha,pR,fM,_⟩:=I.tuple nh;obtain⟨u,bM,c9⟩:=bP.get hx;obtain⟨v,br,adV⟩:=pR.get a7;obtain⟨aq,fi,⟨a,c,gI⟩,af,ak,qx,ZL⟩:=st;have bc:i<its.toArray.size:=by
   rw[eQ];exact (hW.mp bM).1
  have bR:i<ha.toArray.size:=by
   rw[eQ];exact (hW.mp br).1
  have ZU:=bP.length;have ZV:=pR.length;have ek:s.TypeIs (.ref z) "zip":=⟨_,aq,rfl⟩;have qb:z<s.heap.objs.size:=cY aq;have DV:cj<s.heap.objs.size:=cY gI;have VW:TI<s.heap.objs.size:=cY fi;have _s:b0<s.heap.objs.size:=by obtain⟨o,e,_⟩:=af;exact cY e
  have _t:b1<s.heap.objs.size:=by obtain⟨o,e,_⟩:=ak;exact cY e
  have cM:=I.ok.hd ax;unfold pyNext;refine a8 (wpAny_attempt (s9 (name:=Str.ofString "__next__") ek F.slot_zip_next (q6 F.slot_zip_next ek F.entry_zip_next ?_ (F.args_zip_next_1 _))));refine R1 (hH:=λi h=>h.IsTupleIter b0 b2 i/\h.IsTuple b2 its.toArray) (h5:=λi h=>h.IsTupleIter b1 b4 i/\h.IsTuple b4 ha.toArray) D (vg (A:=X.A.in1) cM b0 b2 D.l1i1 its.toArray) (vg (A:=X.A.in1) cM b1 b4 D.l2i2 ha.toArray) aq fi gI ⟨af,nt⟩ ⟨ak,fM⟩ bc bR λh' k_ JS tk jb py pL F' s1 s2 aC hsz aw=>cX ?_;have ex:k_=u:=by
   rw[<- Array.getElem?_toList,show (its.toArray).toList=its from rfl,bM] at jb;exact (ef jb).symm
  have fy:JS=v:=by
   rw[<- Array.getElem?_toList,show (ha.toArray).toList=ha from rfl,br] at py;exact (ef py).symm
  subst ex fy;refine⟨_,rfl,wpAny_letOwnedTupleGo_zip pL λg_ uy hN=>?_⟩;have k2:∀b o,b≠z->b≠cj->b≠b0->b≠b1->s.heap.get? b=some o->g_.get? b=some o:=λb o cf ct fe kf q=>hN.extBut b o cf (aw b o cf ct fe kf q);have fr:H s.heap.objs.size=none:=I.bO.fresh (el _);have F_:g_.get? s.heap.objs.size=some {cls:=.type "tuple",data:=.seq #[k_,JS]}:=hN.extBut _ _ (hX qb) aC;obtain⟨tb,j6,gC,tl,J4,J8⟩:=hf z (by simp);obtain⟨o0,dH,d3,I5,I6,I7⟩:=hf cj (by simp);obtain⟨f0,f1,f2,hL,f4,hv⟩:=hf b0 (by simp);obtain⟨ob,g1,g2,g3,se,ml⟩:=hf b1 (by simp);obtain⟨t0,_⟩:=hf TI (by simp);have qI:∀b o,H b=some o->b≠z/\b≠cj/\b≠b0/\b≠b1:=λb o q=>⟨λe=>(by rw[e,tb] at q;cases q),λe=>(by rw[e,o0] at q;cases q),λe=>(by rw[e,f0] at q;cases q),λe=>(by rw[e,ob] at q;cases q)⟩;have k3:∀b o,b∉[z,cj,b0,b1]->s.heap.get? b=some o->g_.get? b=some o:=λb o U q=>by
   simp only[cm,ee,or_false,not_or] at U;exact k2 b o U.1 U.2.1 U.2.2.1 U.2.2.2 q
  have ams:∀b o,H b=some o->b∉[z,cj,b0,b1]:=λb o q=>by
   simp only[cm,ee,or_false,not_or];exact qI b o q
  have wJ:eA X.prog X.w (upd H s.heap.objs.size (.tup [x,y])) g_:=by
   intro b o q;by_cases U:b=s.heap.objs.size
   ·subst U;rw[er] at q;cases q;exact⟨by show 2<=cG;decide,[k_,JS],.cons c9 (.cons adV .nil),⟨_,F_,rfl,_,rfl⟩⟩
   ·rw[cQ U] at q;refine (I.bO b o q).jA (λc v dc d8=>k3 c v ?_ d8) (λc d8=>?_) λc ys d8=>?_
    ·rcases dc with rfl|dc
     ·exact ams _ _ q
     ·exact ams _ _ dc
    ·rw[cQ (iH d8 fr)];exact d8
    ·rw[cQ (iH d8 fr)];exact d8
  have cB:bh.Inv X ai σ (upd H s.heap.objs.size (.tup [x,y])) {s with heap:=g_,toks:=tk}:=by
   refine I.step (g':=s.gens) (d':=s.drawn) (ch:=[z,cj,b0,b1]) (λb U=>?_) (λb o _ _ dc q _=>k3 b o dc q) (λb o _ _ dc q _=>⟨o.slots,k3 b o dc q⟩) (λb o _ q n=>?_)
    (λb o dc q=>⟨o,k3 b o dc q⟩) (λb ys q=>by rw[cQ (iH q fr)];exact q) (λb o u q=>by rw[cQ (iH q fr)];exact q) (λb ps q=>⟨#[],by rw[cQ (iH q fr),q];simp⟩) (λm hm=>?_) wJ I.bare
   ·simp only[cm,ee,or_false] at U;rcases U with rfl|rfl|rfl|rfl
    ·exact⟨tl,j6,J4,J8⟩
    ·exact⟨I5,dH,I6,I7⟩
    ·exact⟨hL,f1,f4,hv⟩
    ·exact⟨g3,g1,se,ml⟩
   ·rw[cQ (eR (cY q))];exact n
   ·obtain⟨o,ht,ep,km,r⟩:=hm;exact⟨o,ht,ep,k2 _ o (Ne.symm j6) (Ne.symm dH) (Ne.symm f1) (Ne.symm g1) km,r⟩
  refine⟨.ref s.heap.objs.size,_,cB,rfl,⟨s.heap.objs.size,x,y,fr,rfl,rfl,λws hw=>by rw[I.Bz hw mr];exact hx,λws hw=>by rw[I.Bz hw nh];exact a7⟩,⟨uy,hN.extBut _ _ D.TIz (aw _ _ D.TIz D.TITO D.TIi1 D.TIi2 fi),⟨_,_,hN.extBut _ _ D.TOz F'⟩,s1.1.at λo q=>hN.extBut _ _ D.i1z q,s2.1.at λo q=>hN.extBut _ _ D.i2z q,?_,?_⟩,λb U=>?_⟩
  ·rw[eQ] at bc;omega
  ·rw[eQ] at bR;omega
  ·simp only[cm,ee,or_false] at U;rcases U with rfl|rfl|rfl|rfl|rfl
   ·rw[cQ (eR qb)];exact tb
   ·rw[cQ (eR VW)];exact t0
   ·rw[cQ (eR DV)];exact o0
   ·rw[cQ (eR _s)];exact f0
   ·rw[cQ (eR _t)];exact ob
 done:=by
  intro X gu hw ib ax i ai s σ H E I hf st bl;subst gu hw ib;obtain⟨xs,ys,mr,nh,a6,hm,aA⟩:=bl;obtain⟨its,bP,nt,_⟩:=I.tuple mr;obtain⟨ha,pR,fM,_⟩:=I.tuple nh;obtain⟨aq,fi,⟨a,c,gI⟩,af,ak,qx,ZL⟩:=st;have ZU:=bP.length;have ZV:=pR.length;have ek:s.TypeIs (.ref z) "zip":=⟨_,aq,rfl⟩;have cM:=I.ok.hd ax;have aL:i=its.toArray.size\/(i<its.toArray.size/\i=ha.toArray.size):=by
   rw[eQ,eQ];omega
  unfold pyNext;refine a8 (wpAny_attempt (s9 (name:=Str.ofString "__next__") ek F.slot_zip_next (q6 F.slot_zip_next ek F.entry_zip_next ?_ (F.args_zip_next_1 _))));refine R0 (hH:=λi h=>h.IsTupleIter b0 b2 i/\h.IsTuple b2 its.toArray) (h5:=λi h=>h.IsTupleIter b1 b4 i/\h.IsTuple b4 ha.toArray) D (vg (A:=X.A.in1) cM b0 b2 D.l1i1 its.toArray) (vg (A:=X.A.in1) cM b1 b4 D.l2i2 ha.toArray) aq fi gI ⟨af,nt⟩ ⟨ak,fM⟩ aL λh' e tk aw he=>?_;obtain⟨o,aF,dc⟩:=he;refine a8 (wpAny_isInstance (T:="StopIteration") (b:=true) ⟨o,aF,dc⟩ isSubtype_stop (cX ⟨rfl,?_⟩));obtain⟨tb,j6,gC,tl,J4,J8⟩:=hf z (by simp);obtain⟨o0,dH,d3,I5,I6,I7⟩:=hf cj (by simp);obtain⟨f0,f1,f2,hL,f4,hv⟩:=hf b0 (by simp);obtain⟨ob,g1,g2,g3,se,ml⟩:=hf b1 (by simp);have k3:∀b o,b∉[z,cj,b0,b1]->s.heap.get? b=some o->h'.get? b=some o:=λb o U q=>by
   simp only[cm,ee,or_false,not_or] at U;exact aw b o U.1 U.2.1 U.2.2.1 U.2.2.2 q
  have ams:∀b o,H b=some o->b∉[z,cj,b0,b1]:=λb o q=>by
   simp only[cm,ee,or_false,not_or];exact⟨λe=>(by rw[e,tb] at q;cases q),λe=>(by rw[e,o0] at q;cases q),λe=>(by rw[e,f0] at q;cases q),λe=>(by rw[e,ob] at q;cases q)⟩
  have wJ:eA X.prog X.w H h':=by
   intro b o q;refine (I.bO b o q).jA (λc v dc d8=>k3 c v ?_ d8) (λc d8=>d8) λc ys d8=>d8;rcases dc with rfl|dc
   ·exact ams _ _ q
   ·exact ams _ _ dc
  refine I.step (g':=s.gens) (d':=s.drawn) (ch:=[z,cj,b0,b1]) (λb U=>?_) (λb o _ _ dc q _=>k3 b o dc q) (λb o _ _ dc q _=>⟨o.slots,k3 b o dc q⟩) (λb o _ q n=>n)
    (λb o dc q=>⟨o,k3 b o dc q⟩) (λb ys q=>q) (λb o u q=>q) (λb ps q=>⟨#[],by rw[q];simp⟩) (λm hm=>?_) wJ I.bare
  ·simp only[cm,ee,or_false] at U;rcases U with rfl|rfl|rfl|rfl
   ·exact⟨tl,j6,J4,J8⟩
   ·exact⟨I5,dH,I6,I7⟩
   ·exact⟨hL,f1,f4,hv⟩
   ·exact⟨g3,g1,se,ml⟩
  ·obtain⟨o,ht,ep,km,r⟩:=hm;exact⟨o,ht,ep,aw _ o (Ne.symm j6) (Ne.symm dH) (Ne.symm f1) (Ne.symm g1) km,r⟩
 self:=λ_ _ _ _ _ st h=>wpAny_pyIter_zip (f0:=.none) st.1 h
def _w(K:a9)(cF:fS):TI:=λσ H R=>cF σ H λvs H1=>∃a b xs ys,vs=[.ref a,.ref b]/\c3 K H1 a xs/\c3 K H1 b ys/\R (DP K a b xs.length ys.length) H1
section
variable {X:aV}{es:List bj}{k:Nat}{p pos fM:Pos}{a b:bj}{f g:bz}
def akd{cF:fS}(bl:ei X "zip")(hm:X.mg "zip"=none)(av:f5 X [a,b] cF)(aA:bo [a,b] X.env=(false,eval a X.env)::bo [b] X.env)(hpl:(dM pos (bo [b] X.env)).any (·.1)=false):qh X (.Tuple es k fM) (.Call (.Name "zip" p) [a,b] [] pos) (_w X.K cF):=by
 intro ai s σ H R I h;refine Call_ (tL I bl hm PyProof.Rows.boot_zip (uU (cN (av pos ai s σ H _ I h) λus s1 ⟨vs,H1,a_,bg,aM⟩=>?_) aA hpl));obtain⟨b2,b4,xs,ys,rfl,mr,nh,q⟩:=aM;obtain⟨JM,xu,rfl,aD,aO⟩:=bg.two;cases aD;cases aO;obtain⟨its,bP,pl,_⟩:=a_.tuple mr;obtain⟨ha,pR,Je,_⟩:=a_.tuple nh;have k1:gz false s1.heap b2 its.toArray:=pl;have k2:gz false s1.heap b4 ha.toArray:=Je;refine RO k1 k2 λh' wR fi gI uv uw hsz aL=>wpAny_pyIter_zip (f0:=.none) wR ?_;refine⟨s1.heap.objs.size+4,[s1.heap.objs.size+4,s1.heap.objs.size+2,s1.heap.objs.size+3,s1.heap.objs.size,s1.heap.objs.size+1],_,_,H1,rfl,a_.kept (t':=s1.toks) aL,ah3 (Qy k1.lt k2.lt),⟨wR,fi,⟨_,_,gI⟩,uv,uw,mE _,mE _⟩,λb U=>?_,q⟩;have i8:s1.heap.objs.size<=b:=by
  simp only[cm,ee,or_false] at U;rcases U with rfl|rfl|rfl|rfl|rfl
  ·exact q7 _ _
  ·exact q7 _ _
  ·exact q7 _ _
  ·exact el _
  ·exact q7 _ _
 exact a_.z4 i8 (a_.bO.fresh i8)
def yH(ts us:List T):List T:=List.zipWith (λx y=>.tuple [x,y]) ts us
def aiD{K:a9}{a b:ag}{aY:ag->Prop}{H1:ay}{ts us:List T}{vs ws:List V}(au:c3 K H1 a vs)(q:bG K aY H1 ts vs)(ni:c3 K H1 b ws)(bb:bG K aY H1 us ws):qf K (DP K a b vs.length ws.length) aY H1 (yH ts us) where
 go:=λi F H t aw d e=>by
  have bc:=(hW.mp e).1;simp only[yH,List.length_zipWith] at bc;obtain⟨v,af,_⟩:=q.get (iD (show i<ts.length by omega));obtain⟨v2,ak,_⟩:=bb.get (iD (show i<us.length by omega));exact⟨vs,v,ws,v2,aw.tup _ _ au,af,aw.tup _ _ ni,ak,rfl,rfl⟩
 nB:=λi F H t x aa aw d e y=>by
  obtain⟨p,v,v2,aC,rfl,rfl,ny,xy⟩:=y;have bc:=(hW.mp e).1;simp only[yH,List.length_zipWith] at bc;have uv:i<ts.length:=by omega
  have uw:i<us.length:=by omega
  obtain⟨iU,af,ak⟩:=(q.aw aw).get (iD uv);obtain⟨alT,bB,c1⟩:=(bb.aw aw).get (iD uw);have gT:=ny vs (aw.tup _ _ au);rw[af] at gT;cases gT;have pG:=xy ws (aw.tup _ _ ni);rw[bB] at pG;cases pG;have aP:=Ext.laid (o:=.tup [v,v2]) d aC;refine⟨F,aP,?_⟩;have bw:t=.tuple [ts[i],us[i]]:=by
   rw[yH,List.getElem?_zipWith,iD uv,iD uw] at e;exact (ef e).symm
  subst bw;simp only[Rep];exact⟨p,_,rfl,c3.of er,bG.cons (ak.ext aP) (bG.cons (c1.ext aP) bG.nil)⟩
 stop:=λi F H aw aB=>⟨vs,ws,aw.tup _ _ au,aw.tup _ _ ni,rfl,rfl,by
  simp only[yH,List.length_zipWith] at aB;rw[<- q.length,<- bb.length];omega⟩
def Ug(hm:X.mg "zip"=none)(av:cO X a f)(U:cO X b g)(bl:ei X "zip":=by rfl)(aA:bo [a,b] X.env=(false,eval a X.env)::bo [b] X.env:=by rfl)(hN:bo [b] X.env=(false,eval b X.env)::bo [] X.env:=by rfl)(hpl:(dM pos (bo [b] X.env)).any (·.1)=false:=by rfl):
  pk X (.Tuple es k fM) (.Call (.Name "zip" p) [a,b] [] pos) (Dz (i3 f) (i3 g)):=Dp (akd bl hm (hA av (hA U j9 hN) aA) aA hpl) λσ H R ⟨aE,aR,O,F,ε,ts,r,e,k⟩=>by
 simp only[Dz,i3,dE,cz] at e;obtain⟨xs,⟨t,bw,aD⟩,ys,⟨u,fx,aO⟩,rfl⟩:=e;split at aD
 ·cases aD
  split at aO
  ·cases aO
   refine⟨aE,aR,O,F,ε,_,r,bw,λv aY H1 aP aM=>⟨aE,aR,O,aY,ε,_,r.ext aP,fx,λw du bk b6 bb=>?_⟩⟩
   have Pc:=aM.ext b6;simp only[Rep] at Pc bb;obtain⟨a1,vs,rfl,qA,qz⟩:=Pc;obtain⟨a2,ws,rfl,hN,ni⟩:=bb;exact⟨a1,a2,vs,ws,rfl,qA,hN,k _ du bk (aP.trans b6) (aiD qA qz hN ni)⟩
  ·cases aO
 ·cases aD
end
end
section
variable [cJ]
open PySem.W (kas_ask kas_sort kat_run kat_snds kat_lt kat_kind KatTups KatLex KatGo kas_item KasT)
def ek(x:Str×List T):T:=.tuple (.str x.1::x.2)
end
section
section
variable {prog:cA}{w:bZ}{A:cH}{E:aj->aI->Prop}{s:aI}{MT:Array Keyed}
def ke(MT:Array Keyed)(st kr:SortSt):Prop:=arrOf kr=arrOf st/\failedOf kr=none/\pendingOf kr=#[(0,MT.size,0)]
end
variable [cJ]
end
section
variable [cJ]
def al9(f:bz):bA:=λε=>(f ε).map λ_=>.bK ε
def akD{P:cA}{w:bZ}{K:a9}{mg:Str->Option aj}{base:bE}{x y:Str}{st:Stmt}{f:ag}{fd:dV}{N ps:List Str}{k:Nat}{b:bA}(F:alX K x x st f fd)(S:cK N ps (bt st))(bd:Binds K fd ps [])(m:mg y=some (.ref f))
  (U:∀(bu:aj) (A:cH) (outer:List Env) (s:aI) (H:ay) (E:eF),cW k (A.deeper (envOfC x (bt st) s.heap.objs.size f bu)) ->
   hF (eN di P w K mg base N x (bt st) f bu A outer s H E).dv (fc st) b):Cl P w K mg base y (k+1) ps.length (d9 b N.length):=.mk' (L5 F S U) m F.aw bd
section
variable {X:aV}{k n c C i:Nat}{ns:List Str}{d:List aJ->Option (T×List aJ)}{x:Str}{p pos:Pos}{o e:bj}{es:List bj}{ar:List bz}{f:bz}
def Lv(fq:fm X.K c C ns)(hl:rL X.prog X.w X.K X.mg X.base x c 0 k n d)(au:cW k X.A)(a6:bQ X o (fU i))(av:kN X es ar)(bl:ei X x:=by rfl)(aB:ar.length+1=n:=by rfl)(gc:(x==("__debug__":Str))=false:=by decide)
  (he:bo (o::es) X.env=(false,eval o X.env)::bo es X.env:=by rfl) (hpl:(dM pos (bo es X.env)).any (·.1)=false:=by rfl):kO X (.Call (.Name x p) (o::es) [] pos) (o6 c d [] i ar):=by
 obtain⟨bN,fd,ps,F,m,aw,b⟩:=hl.ex;refine d5 (yq F au bl m aw b .nil o4 (hA a6 av he) gc he hpl) λσ H Q ⟨aE,E,O,F,ε,t,ε',r,e,bV⟩=>?_;simp only[o6,cz] at e;obtain⟨⟨dq,os⟩,aF,e⟩:=e;split at e
 next=>cases e
 next wG=>
  simp only[args,cz,dE,Option.some.injEq,exists_eq_left'] at e;obtain⟨ts,bw,cq,fp,e⟩:=e;cases e;obtain⟨a,vs,ba,af,hx,_⟩:=l5 fq r aF;refine⟨_,af,aE,E,O,F,ε,ts,r,bw,λws aY H1 aP q=>?_⟩;show qU X.K n c 0 d (V.ref a::ws++[]) H1 Q jm;rw[jF];exact Ll r aF wG af aP q fp (by rw[amh bw,aB]) bV
def Me(h:cO X e f)(nj:jh e none pos.line X.env=pure false:=by rfl):f6 X (.Expr e pos) (al9 f):=g4 (vw h nj) λD σ H ⟨aE,E,O,F,ε,o,r,e,k⟩=>by
 simp only[al9,dE] at e;obtain⟨t,bw,rfl⟩:=e;exact⟨aE,E,O,F,ε,t,r,bw,λv aG aa x _=>k σ aG aa x.aw (r.ext x)⟩
end
end
section
def ahf{pos:Pos}{c kg:aj}{a b:Int}(l:List aj)(h:TriplesOk l)(e:codeAmong pos (l++[hg a,hg b,c])=some kg):codeAmong pos l=some kg\/kg=c:=by
 fun_induction TriplesOk l with
|case1=>
  simp only[xC,codeAmong,hg] at e;split at e
  ·exact .inr (ef e).symm
  ·cases e
|case2 jR t px u x rest b8=>
  simp only[u0,codeAmong] at e ⊢;split at e
  next ax=>rw[if_pos ax];exact .inl e
  next ax=>rw[if_neg ax];exact b8 h e
|case3 _ _ _=>exact h.elim
noncomputable def nQ(mg:Str->Option aj)(h:bE):Prop:=∃bm dD,mg "__builtins__"=some (.ref bm)/\bm≠builtinsNs/\h.get? bm=some dD/\dD.cls=.type "module"/\dD.dict=some builtinsNs/\dD.data=.plain
def ou(o:Obj)(q:ag):ea:=.ext λh=>h.get? q=some o
def wd(c:ag)(q:Str):ea:=.ext λh=>h.CodeRec (.ref c) q
variable [cJ]
def Sm{X:aV}{ai:List (ag×Obj)}{σ:bh.St}{H:ay}{s:aI}{params:Arguments}{body:bj}{scope:Scope}{jv:Pos}{c P:ag}{gG:List (Str×ag)}{Q:aj->aI->Prop}(I:Inv X ai σ H s)
  (sm:X.env.code=.ref c) (C:PySem.W.CodeHd X.base c P) (iw:nQ X.mg X.base) (ur:defaultsOf params X.env=([],[])) (od:closureFor scope X.env=pure gG)
  (d:l' H) (c6:(P,X.env.qual++"<lambda>")∈cJ.c6) (un:∀p∈cJ.c6,p.1=P->p.2=X.env.qual++"<lambda>")
  (h:∀(q bW:ag) (iv:aj) (aa:ay) (s':aI),Inv X ai σ aa s'->jk H aa->l' aa->H q=none->aa q=some (ou (PySem.W.kla_obj "<lambda>" (X.env.qual++"<lambda>") params body scope gG ((X.mg "__name__").getD .none) bW iv) q) ->
   aa bW=some (wd bW (X.env.qual++"<lambda>"))->Q (.ref q) s'):
  bD (bL X.prog X.w) X.A (eval (.Lambda params body scope jv) X.env) Q X.c8 s:=by
 obtain⟨ps,eY,aX,bl⟩:=d _ c6;have gu:s.heap.get? P=some (PySem.W.tabObj ps):=I.bO P _ eY;have ns:s.heap.Ns iX X.mg:=I.ok.mod.glob.keeps I.gp;obtain⟨bm,dD,cf,ct,fe,kf,wc,pz⟩:=iw;have wb:=I.gp _ _ fe;have ZJ:iX≠P:=λz=>by
  obtain⟨o,es,ep,e,hd,_⟩:=ns;rw[z,gu] at e;cases e;cases hd
 have Zp:bm≠P:=λz=>by
  rw[z,gu] at wb;cases wb;cases kf
 have Zo:bm≠iX:=λz=>by
  obtain⟨o,es,ep,e,hd,_⟩:=ns;rw[z,e] at wb;cases wb;rw[hd] at pz;cases pz
 have U:s.heap.BuiltinsAt X.mg P:=⟨bm,dD,cf,ct,Zo,Zp,wb,kf,wc,pz⟩;have i4:=C.keeps I.gp;refine PySem.W.kla_eval ur ?_;cases hf:codeAmong jv ps.toList with
|some kg=>
  obtain⟨bW,rfl,dc⟩:=bl jv kg hf;refine PySem.W.kla_makeFunctionHit od I.ok.glob ns sm i4 gu aX hf U λiv h' tk k hsz=>?_;have fr:H h'.objs.size=none:=I.bO.fresh hsz;refine h h'.objs.size bW iv (upd H h'.objs.size (ou _ h'.objs.size)) _ (I.laid (t':=tk) (λb u e=>c2 _ (k b u e)) hsz ⟨gY _ rfl,⟨_,gY _ rfl⟩,λaf ak aD aO=>aO _ aD⟩)
   (λb o e=>.inl (by rw[cQ (iH e fr)];exact e)) (d.new fr) fr er (by rw[cQ (iH dc fr)];exact dc)
|none=>
  refine PySem.W.kla_makeFunction od I.ok.glob ns sm i4 gu aX hf ZJ U λbW iv h' tk hx z9 fJ OB nk=>?_
  have N7:H h'.objs.size=none:=I.bO.fresh (jd z9 (Nat.le_of_lt fJ));have Y5:H bW=none:=I.bO.fresh z9;have W7:bW≠h'.objs.size:=eR fJ;have sL:∀b o,H b=some o->b≠bW:=λb o e=>iH e Y5;have OY:∀b o,H b=some o->b≠h'.objs.size:=λb o e=>iH e N7;have VS:=sL P _ eY;have VT:=OY P _ eY
  let aa:ay:=upd (upd (upd H P (.hV (ps++#[hg jv.line,hg jv.col,.ref bW]))) bW (wd bW (X.env.qual++"<lambda>"))) h'.objs.size (ou (PySem.W.kla_obj "<lambda>" (X.env.qual++"<lambda>") params body scope gG ((X.mg "__name__").getD .none) bW iv) h'.objs.size)
  have N2:aa h'.objs.size=some (ou (PySem.W.kla_obj "<lambda>" (X.env.qual++"<lambda>") params body scope gG ((X.mg "__name__").getD .none) bW iv) h'.objs.size):=er;have FG:aa bW=some (wd bW (X.env.qual++"<lambda>")):=by show upd _ _ _ _=_;rw[cQ W7,er]
  have zu:aa P=some (.hV (ps++#[hg jv.line,hg jv.col,.ref bW])):=by show upd _ _ _ _=_;rw[cQ VT,cQ VS,er]
  have FF:∀b,b≠P->b≠bW->b≠h'.objs.size->aa b=H b:=λb gv gd A2=>by show upd _ _ _ _=_;rw[cQ A2,cQ gd,cQ gv]
  have pD:∀b o,H b=some o->b≠P->aa b=some o:=λb o e n=>by rw[FF b n (sL b o e) (OY b o e)];exact e
  have aw:∀b o,b≠P->s.heap.get? b=some o->(h'.push (PySem.W.kla_obj "<lambda>" (X.env.qual++"<lambda>") params body scope gG ((X.mg "__name__").getD .none) bW iv)).get? b=some o:=λb o n e=>c2 _ (hx b o n e);have sJ:∀b,H b=none->b≠P:=λb e z=>by rw[z,eY] at e;cases e
  have sU:jk H aa:=λb o e=>by
   by_cases z:b=P
   ·subst z;rw[eY] at e;cases e;exact .inr ⟨_,_,rfl,zu⟩
   ·exact .inl (pD b o e z)
  refine h h'.objs.size bW iv aa _ (I.un (t':=tk) ⟨λb o e n _ _=>aw b o (sJ b n) e,λb o e n _ _=>⟨o.slots,aw b o (sJ b n) e⟩,λb o e n _=>?_,λb o e _=>?_,λb xs e=>pD b _ e λz=>by (rw[z,eY] at e;cases e),λb o u e=>pD b _ e λz=>by (rw[z,eY] at e;cases e),λb lM e=>?_⟩ λa o e=>?_) sU (λp aC=>?_) N7 N2 FG
  ·have lt:=cY e;rw[FF b (sJ b n) (eR (iE lt z9)) (eR (Nat.lt_trans (iE lt z9) fJ))];exact n
  ·by_cases z:b=P
   ·subst z;exact⟨_,c2 _ nk⟩
   ·exact⟨o,aw b o z e⟩
  ·by_cases z:b=P
   ·subst z;rw[eY] at e;cases e;exact⟨_,zu⟩
   ·exact⟨#[],by rw[pD b _ e z];simp⟩
  ·by_cases j6:a=h'.objs.size
   ·subst j6;rw[N2] at e;cases e;exact⟨gY _ rfl,⟨_,gY _ rfl⟩,λaf ak aD aO=>aO _ aD⟩
   by_cases gC:a=bW
   ·subst gC;rw[FG] at e;cases e;refine⟨OB.at λo e=>c2 _ e,?_,λaf ak aD aO=>aD.at aO⟩;obtain⟨c5,o,vs,t,aO,aF,_⟩:=OB;cases aO;exact⟨o,c2 _ aF⟩
   by_cases tl:a=P
   ·subst tl;rw[zu] at e;cases e;exact c2 _ nk
   ·rw[FF a tl gC j6] at e;refine (I.bO a o e).jA (λb u U q=>aw b u ?_ q) (λb q=>pD b _ q λz=>by (rw[z,eY] at q;cases q)) λb xs q=>pD b _ q λz=>by (rw[z,eY] at q;cases q)
    rcases U with rfl|U
    ·exact tl
    ·exact λz=>by rw[z,eY] at U;cases U
  ·by_cases z:p.1=P
   ·have aO:=un p aC z;obtain⟨nt,fM⟩:=p;simp only at z aO;subst z aO;refine⟨_,zu,by rw[Array.toList_append];exact TriplesOk_snoc _ _ _ _ aX,λpos kg e=>?_⟩;rw[Array.toList_append] at e;rcases ahf _ aX e with e|e
    ·obtain⟨c5,aD,aO⟩:=bl pos kg e;exact⟨c5,aD,pD _ _ aO λz=>by (rw[z,eY] at aO;cases aO)⟩
    ·exact⟨bW,e,FG⟩
   ·obtain⟨lM,aM,bb,dg⟩:=d p aC;refine⟨lM,pD _ _ aM z,bb,λpos kg e=>?_⟩;obtain⟨c5,aD,aO⟩:=dg pos kg e;exact⟨c5,aD,pD _ _ aO λz=>by (rw[z,eY] at aO;cases aO)⟩
end
section
variable [cJ]
noncomputable def mi(qual:Str)(scope:Scope)(L q:ag)(cd:aj)(cl:List (Str×ag)):Env:=
 {scope:=scope,locals:=L,globals:=iX,cells:=cl,qual:=qual++".<locals>.",func:=some q,code:=cd,frame:=some L,builtins:=builtinsNs}
noncomputable def qo(P:cA)(w:bZ)(K:a9)(mg:Str->Option aj)(base:bE)(N:List Str)(qual:Str)(scope:Scope)(q:ag)(cd:aj)(cl:List (Str×ag))(A:cH)(outer:List Env)(s:aI)(H:ay):aV where
 prog:=P
 w:=w
 K:=K
 mg:=mg
 base:=base
 A:=A.deeper (mi qual scope s.heap.objs.size q cd cl)
 N:=N
 c':=s
 aR:=H
 env:=mi qual scope s.heap.objs.size q cd cl
 outer:=outer
 stack:=mi qual scope s.heap.objs.size q cd cl::outer
 ex:=[]
 calm:=true
 fn:=λ_=>false
 df:=[]
 c8:=λ_ _=>False
structure tS(N:List Str)(scope:Scope)(cl:List (Str×ag))(σ:bh.St)(H:ay)(h:bE):Prop where
 inj:∀x y c,cl.lookup x=some c->cl.lookup y=some c->x=y
 has:∀x,(scope.names.lookup x=some .cell\/scope.names.lookup x=some .free)->∃c,cl.lookup x=some c
 t9:∀x c,cl.lookup x=some c->(∃v,h.IsCell c v)/\H c=none
 len:σ.length=N.length
 val:∀(i:Nat) (x:Str) (v:V),N[i]?=some x->σ[i]?=some (some v)->qi scope x->∃u c,RelV v u/\scope.names.lookup x=some .free/\cl.lookup x=some c/\h.IsCell c (some u)
def QU{h h':bE}{c:ag}{v:Option aj}(x:h.IsCell c v)(k:∀b o,h.get? b=some o->h'.get? b=some o):h'.IsCell c v:=by
 obtain⟨o,aF,hd⟩:=x;exact⟨o,k _ _ aF,hd⟩
section
variable {P:cA}{w:bZ}{K:a9}{mg:Str->Option aj}{base:bE}{k:Nat}{q bW:ag}{N:List Str}{qual:Str}{scope:Scope}{cd:aj}{cl:List (Str×ag)}{A:cH}{outer:List Env}{s:aI}{H:ay}{σ:bh.St}
def Rc{af:bE}{tk:Nat}{m:Str->Option aj}(aL:scope.kind=.function)(hd:A.handled=none)(b7:mU P w K mg base A outer s H)(C:tS N scope cl σ H s.heap)(oj:af.Ns s.heap.objs.size m)(aw:∀b o,s.heap.get? b=some o->af.get? b=some o):
  Inv (qo P w K mg base N qual scope q cd cl A outer s H) [] σ H {s with heap:=af,toks:=tk}:=by
 have pO:∀b:ag,b∉(qo P w K mg base N qual scope q cd cl A outer s H).ex:=λb z=>absurd (show b∈([]:List ag) from z) (by simp);refine⟨⟨b7.mod,aL,rfl,rfl,el _,C.inj,C.has,λy c hf _=>(by cases hf),λ_=>hd,Around.frames_deeper b7.frames,.inr ⟨rfl,rfl⟩,λb z=>absurd z (pO b),b7.bs,b7.m5,λb _ _=>pO b,λb z=>absurd z (pO b),b7.kj,b7.oa⟩,
  rfl,b7.bare,f9.kept aw,⟨m,oj,λi y v af ak bB=>?_⟩,λy c h=>?_,b7.bO.fresh (el _),λy c h=>(C.t9 y c h).2,λp aC=>absurd (show p∈([]:List (ag×Obj)) from aC) (by simp),b7.bO.kept aw,C.len⟩
 ·obtain⟨u,c,c9,hf,ax,hx⟩:=C.val i y v af ak bB;exact⟨u,c9,.inr ⟨.inr hf,c,ax,QU hx aw⟩⟩
 ·obtain⟨⟨v,br⟩,_⟩:=C.t9 y c h;exact⟨v,QU br aw⟩
def ahI{params:Arguments}{body:bj}{pm iv:aj}{f:g6}{Q:dj}{E:eF}(aL:scope.kind=.function)(al_:scope.isCoroutine=false)(qw:scope.isGenerator=false)(kU:∀x∈scope.names,x.2≠.cell)
  (U:∀(A:cH) (outer:List Env) (s:aI) (H:ay),cW k (A.deeper (mi qual scope s.heap.objs.size q (.ref bW) cl))->kO (qo P w K mg base N qual scope q (.ref bW) cl A outer s H) body f)
  (bd:bindArgs (PySem.W.kla_fn "<lambda>" qual params body scope cl pm (.ref bW) iv) ⟨[],[]⟩=pure [])
  (au:cW (k+1) A) (b7:mU P w K mg base A outer s H) (a3:H q=some (ou (PySem.W.kla_obj "<lambda>" qual params body scope cl pm bW iv) q)) (ax:H bW=some (wd bW qual)) (C:tS N scope cl σ H s.heap)
  (h:xq K f σ H Q):iG (bL P w) A (.call (.ref q) ⟨[],[]⟩) (nR di outer P w H s Q E) s:=by
 have I2:s.heap.NoLimit:=b7.mod.nolimit.keeps λb o e=>(b7.bs b o e).1;refine PySem.W.kla_callFunE au.depth (b7.bO q _ a3).1 rfl al_ qw rfl (b7.bO bW _ ax).1 ?_;rw[bd];refine cX (wpAny_newFunctionEnv kU (λx hx=>by cases hx) (λfj oj qB=>⟨I2.fresh _ qB,?_⟩) aL);have aw:∀b o,s.heap.get? b=some o->fj.get? b=some o:=λb o e=>qB.extBut b o (eR (cY e)) (c2 _ e);show iG _ _ (.expr body (mi qual scope s.heap.objs.size q (.ref bW) cl)) _ _;refine PySem.W.kla_codeExpr ?_;have I:Inv (qo P w K mg base N qual scope q (.ref bW) cl A outer s H) [] σ H {s with heap:=fj,toks:=s.toks+([]:List (Str×aj)).length}:=Rc aL au.hd b7 C oj aw;refine e2 (U A outer s H (au.deeper _) [] _ σ H (λv aa=>Q v aa) I h) (λu s' aA=>?_) λe s' aA=>(show False from aA).elim;obtain⟨v,aa,J,bP,qv⟩:=aA;exact⟨v,aa,J.os,J.bare,J.base,J.bO,bP,qv⟩
end
end
section
variable [cJ]
def Sq{P:cA}{w:bZ}{K:a9}{mg:Str->Option aj}{base:bE}{k:Nat}{x qual:Str}{st:Stmt}{f:ag}{fd:dV}{N ps:List Str}{A:cH}{outer:List Env}{s:aI}{H:ay}{us:List aj}{vs:List V}{Q:dj}{E:eF}
  (F:alX K x qual st f fd) (S:cK N ps (bt st)) (bd:Binds K fd ps []) (au:cW (k+1) A) (b7:mU P w K mg base A outer s H) (r:Vals vs us) (aB:vs.length=ps.length)
  (pI:∀bu:aj,cW k (A.deeper (envOfC qual (bt st) s.heap.objs.size f bu))->∃t,fF (eN di P w K mg base N qual (bt st) f bu A outer s H E).dv (fc st) t/\t {bK:=λ_ aa=>Q .e0 aa,d4:=Q} (start N vs) H):
  iG (bL P w) A (.call (.ref f) ⟨us,[]⟩) (nR di outer P w H s Q E) s:=by
 obtain⟨gV,ec,dG,doc,pm,an,bu,dN,jZ,rfl,lk,eZ⟩:=F.ex;have _e:us.length=ps.length:=by rw[<- r.length];exact aB
 have kc:K.In s.heap:=b7.mod.oq.keeps λb o e=>(b7.bs b o e).1;have lim:s.heap.NoLimit:=b7.mod.nolimit.keeps λb o e=>(b7.bs b o e).1;have U:=bd s us kc (by rw[jF];exact _e);rw[jF] at U;have Gv:∀y∈ps.zip us,(bt st).names.lookup y.1=some .local\/((bt st).names.lookup y.1=some .cell/\((cellsFrom (s.heap.objs.size+1) (bt st).names []).lookup y.1).isSome=true):=λ⟨n,v⟩ a7=>by
  rcases S.par n (List.of_mem_zip a7).1 with q|q
  ·exact .inl q
  ·exact .inr ⟨q,PySem.W.cellsFrom_some _ _ _ (.inl q)⟩
 refine codeAny_call_function au.depth (kc _ _ lk) rfl S.co S.gen rfl (PySem.W.codeRec_of kc eZ) (U _ _ _ _ ?_)
 refine wpAny_newFunctionEnv_cells S.kind Gv λenv he s1 x=>?_
 subst he;refine⟨lim.keeps x.toInCall.keep,codeAny_func ?_⟩;obtain⟨t,aX,a3⟩:=pI bu (au.deeper _);have I:Inv (eN di P w K mg base N qual (bt st) f bu A outer s H E) [] (start N vs) H s1:=RE S au.hd b7 aB r x;refine e2 (aX.dv [] s1 (start N vs) H _ I a3) (λdT s' aA=>?_) λe s' aA=>aA;have fin:∀{cg:bh.St} {aa:ay} {v:V} {u:aj},Inv (eN di P w K mg base N qual (bt st) f bu A outer s H E) [] cg aa s'->RelV v u->Q v aa->yV outer P w H s Q u s':=
  λ{cg aa v u} J bP q=>⟨v,aa,J.os,J.bare,J.base,J.bO,bP,q⟩
 cases dT with
|ret u=>
  obtain⟨v,cg,aa,J,bP,q⟩:=aA;exact fin J bP q
|next=>
  obtain⟨cg,aa,J,q⟩:=aA;exact fin (v:=V.e0) (u:=Value.none) J rfl q
|brk=>
  obtain⟨_,_,_,q⟩:=aA;exact ed q
|cont=>
  obtain⟨_,_,_,q⟩:=aA;exact ed q
noncomputable def T8(X:aV)(i:Nat):TE:=λσ H Q=>∃q,σ[i]?=some (some (.ref q))/\(∃(o:Obj) (fd:dV),H q=some (ou o q)/\o.data=.func fd) /\
 ∀(ai:List (ag×Obj)) (s:aI),Inv X ai σ H s->iG (bL X.prog X.w) X.A (.call (.ref q) ⟨[],[]⟩) (nR di X.stack X.prog X.w H s Q jm) s
def ajg{X:aV}{i:Nat}{x:Str}{p pos:Pos}(a6:bQ X (.Name x p) (fU i)):bQ X (.Call (.Name x p) [] [] pos) (T8 X i):=by
 intro ai s σ H Q I ⟨q,a3,⟨o,fd,aF,Gl⟩,ax⟩;refine oJ (cN (a6 ai s σ H (λv H1=>v=.ref q/\H1=H) I ⟨.ref q,a3,rfl,rfl⟩) λv s1 ⟨y,H1,a_,bx,fy,h9⟩=>?_);subst fy;subst h9;cases bx;have bN:PySem.W.FnAt q s1.heap:=by
  have af:s1.heap.get? q=some o:=(a_.bO q _ aF).1;obtain⟨c,t_,FC,dK⟩:=o;cases Gl;exact⟨_,_,_,_,af⟩
 refine PySem.W.callWith_F0 bN ?_
 refine wpAny_call (al6 (ax ai s1 a_) λr s' a3=>?_)
 cases r with
|error e=>exact ed a3
|ok dT=>
  cases dT with
  |ret u=>exact a_.after a3
  |next=>exact ed a3
  |brk=>exact ed a3
  |cont=>exact ed a3
end
section
variable [cJ]
def akb{X:aV}{body:List Stmt}{h₀:ExceptHandler}{aA:List ExceptHandler}{pos:Pos}{t:fT}(U:fF X body t)(hx:X.c8=λ_ _=>False:=by rfl):hG X (.Try body (h₀::aA) [] [] pos) t:=by
 intro ai s σ H D I h;refine wpAny_Try_except (e2 (U ai s σ H D I h) (λf s1 aA=>?_) λe s1 he=>?_)
 ·cases f with
  |next=>exact wpAny_execs_nil aA
  |ret u=>exact aA
  |brk=>exact aA
  |cont=>exact aA
 ·rw[hx] at he;exact he.elim
def RD{ar ex:List ag}{H aa:ay}{h h':bE}{c:ag}{v:Option aj}(u:f9 ar ex H aa h h')(x:h.IsCell c v)(ax:H c=none)(he:c∉ex):h'.IsCell c v:=by
 obtain⟨o,aF,hd⟩:=x;by_cases hf:c∈ar
 ·obtain⟨dK,e⟩:=u.slot c o aF ax hf he;exact⟨_,e,hd⟩
 ·exact⟨o,u.keep c o aF ax hf he,hd⟩
def S6{X:aV}{ai:List (ag×Obj)}{σ:bh.St}{H:ay}{s:aI}{scope:Scope}(I:Inv X ai σ H s)(kU:∀x∈scope.names,x.2≠.cell/\x.2≠.local)(kl:∀x∈scope.names,x.2=.free->X.env.scope.names.lookup x.1=some .cell):
  tS X.N scope (gG X.env scope.names []) σ H s.heap:=by
 have aB:∀x∈scope.names,x.2=.free->∃c,X.env.cells.lookup x.1=some c:=λx hx hf=>I.ok.has x.1 (.inl (kl x hx hf));have fr:∀x c,(gG X.env scope.names []).lookup x=some c->X.env.cells.lookup x=some c:=yg aB λx c e=>by cases e
 refine⟨λx y c af ak=>I.ok.inj x y c (fr x c af) (fr y c ak),λx h=>?_,λx c h=>⟨I.cell x c (fr x c h),I.ki x c (fr x c h)⟩,I.len,λi x v af ak bB=>?_⟩
 ·rcases h with h|h
  ·obtain⟨y,a7,aD,aO⟩:=mem_lookup h;exact absurd aD (kU y a7).1
  ·obtain⟨y,a7,aD,aO⟩:=mem_lookup h;exact vp (.inl ⟨y,a7,aD,aO⟩)
 ·have hf:scope.names.lookup x=some .free:=by
   rcases bB with h|h|h
   ·obtain⟨y,a7,aD,_⟩:=mem_lookup h;exact absurd aD (kU y a7).2
   ·obtain⟨y,a7,aD,_⟩:=mem_lookup h;exact absurd aD (kU y a7).1
   ·exact h
  obtain⟨y,a7,aD,aO⟩:=mem_lookup hf;have aL:X.env.scope.names.lookup x=some .cell:=by rw[<- aO];exact kl y a7 aD
  obtain⟨m,_,br⟩:=I.loc;obtain⟨u,c9,lk⟩:=br i x v af ak (.inr (.inl aL));obtain⟨c,ax⟩:=vp (env:=X.env) (l:=scope.names) (cs:=[]) (x:=x) (.inl ⟨y,a7,aD,aO⟩);refine⟨u,c,c9,hf,ax,?_⟩;rcases lk with ⟨ZP,_⟩|⟨_,c5,kT,hx⟩
  ·have:X.env.scope.names.lookup x=some .local:=ZP;rw[aL] at this;cases this
  ·rw[fr x c ax] at kT;cases kT;exact hx
def Ds(f:g6):g6:=λε=>(f ε).map λr=>(.tuple [.str "told",r.1],r.2)
def Mc(Y:aV):fT:=PF (uJ (uL (mP (lP (.str "told")) (mP (T8 Y 0) qW))) (tP 1)) (PD (fU 1))
def ajO{X:aV}{k:Nat}{x:Str}{st:Stmt}{bN:ag}{fd:dV}{lT ny:Str}{DR:List Str}{params:Arguments}{body:bj}{scope:Scope}{jv p pos:Pos}{c m2:ag}{f:g6}
  (F:alX X.K x x st bN fd) (S:cK (lT::ny::DR) [lT] (bt st)) (bd:Binds X.K fd [lT] []) (hm:X.mg x=some (.ref bN))
  (aX:∀(bu:aj) (A:cH) (outer:List Env) (s:aI) (H:ay),fF (eN di X.prog X.w X.K X.mg X.base (lT::ny::DR) x (bt st) bN bu A outer s H jm).dv (fc st) (Mc (eN di X.prog X.w X.K X.mg X.base (lT::ny::DR) x (bt st) bN bu A outer s H jm).dv))
  (sm:X.env.code=.ref c) (C:PySem.W.CodeHd X.base c m2) (iw:nQ X.mg X.base) (c6:(m2,X.env.qual++"<lambda>")∈cJ.c6) (un:∀p∈cJ.c6,p.1=m2->p.2=X.env.qual++"<lambda>")
  (aL:scope.kind=.function) (al_:scope.isCoroutine=false) (qw:scope.isGenerator=false) (kU:∀x∈scope.names,x.2≠.cell/\x.2≠.local) (kl:∀x∈scope.names,x.2=.free->X.env.scope.names.lookup x.1=some .cell)
  (zf:∀(cl:List (Str×ag)) (pm:aj) (bW:ag) (iv:aj),bindArgs (PySem.W.kla_fn "<lambda>" (X.env.qual++"<lambda>") params body scope cl pm (.ref bW) iv) ⟨[],[]⟩=pure [])
  (au:cW (k+2) X.A)
  (U:∀(q bW:ag) (cl:List (Str×ag)) (A:cH) (outer:List Env) (s:aI) (H:ay),cW k (A.deeper (mi (X.env.qual++"<lambda>") scope s.heap.objs.size q (.ref bW) cl))->kO (qo X.prog X.w X.K X.mg X.base X.N (X.env.qual++"<lambda>") scope q (.ref bW) cl A outer s H) body f)
  (bl:ei X x:=by rfl) (gc:(x==("__debug__":Str))=false:=by decide) (ur:defaultsOf params X.env=([],[]):=by rfl)
  (he:bo [.Lambda params body scope jv] X.env=(false,eval (.Lambda params body scope jv) X.env)::bo [] X.env:=by rfl):
  kO X (.Call (.Name x p) [.Lambda params body scope jv] [] pos) (Ds f):=by
 intro ai s σ H Q I ⟨aE,E,O,aG,ε,t,ε',r,e,bV⟩;simp only[Ds,dE] at e;obtain⟨⟨t0,fZ⟩,ug,e⟩:=e;cases e;refine oJ (tH I bl hm ?_ gc);refine PySem.W.callWith_K (h₀:=X.base) I.ok.mod.oq F.aw ?_ he rfl;rw[he];show bD _ _ (spliced ((false,eval (.Lambda params body scope jv) X.env)::[])) _ _ s;have aB:∀x∈scope.names,x.2=.free->∃c,X.env.cells.lookup x.1=some c:=λx hx hf=>I.ok.has x.1 (.inl (kl x hx hf));refine Calls.spliced_cons (Sm I sm C iw ur (Km aB) r.cu.mz c6 un λq bW iv H1 s1 a_ sU s7 GC a3 ax=>Calls.spliced_nil ⟨a_.ju,?_⟩);have aP:Ext aG H aG H1:=⟨sU,λ_ h=>h,λ_ h=>.inl h,⟨λa av=>by
  obtain⟨o,aF⟩:=r.cu.we a av;exact sU.ne aF,s7⟩⟩
 have fin:iG (bL X.prog X.w) X.A (.call (.ref bN) ⟨[.ref q],[]⟩) (nR di X.stack X.prog X.w H1 s1 Q jm) s1:=by
  refine Sq (k:=k+1) (vs:=[.ref q]) F S bd au a_.ui (.cons rfl .nil) rfl λbu ni=>⟨_,aX bu X.A X.stack s1 H1,?_⟩
  refine⟨q,rfl,⟨_,_,a3,rfl⟩,λBd s2 cB=>?_⟩
  have caps:tS X.N scope (gG X.env scope.names []) σ H1 s2.heap:=by
   have cS:=S6 a_ kU kl;have aw:∀{a:ag} {v:Option aj},s1.heap.IsCell a v->H1 a=none->s2.heap.IsCell a v:=λ{a v} z n=>RD cB.base z n (by intro z;exact absurd (show a∈([]:List ag) from z) (by simp));refine⟨cS.inj,cS.has,λx c h=>?_,cS.len,λi x v af ak bB=>?_⟩
   ·obtain⟨⟨v,br⟩,a6⟩:=cS.t9 x c h;exact⟨⟨v,aw br a6⟩,a6⟩
   ·obtain⟨u,c,c9,hf,kT,hx⟩:=cS.val i x v af ak bB;exact⟨u,c,c9,hf,kT,aw hx (cS.t9 x c kT).2⟩
  refine ahI aL al_ qw (λx hx=>(kU x hx).1) (U q bW _) (zf _ _ _ _) ni cB.ui a3 ax caps ?_
  refine⟨aE,E,O,aG,ε,t0,fZ,r.ext aP,ug,λv du bk mu b5 bP=>?_⟩
  refine⟨by show 2<=cG;decide,λpp aC=>⟨.ref pp,rfl,?_⟩⟩
  have hc:=Ext.laid (o:=.tup [.str "told",v]) b5.cu aC;refine bV _ du _ ((aP.aw.trans mu).trans hc.aw) (b5.ext hc) ?_;simp only[Rep];exact⟨pp,_,rfl,c3.of er,bG.cons (by simp[Rep]) (bG.cons (bP.ext hc) bG.nil)⟩
 refine wpAny_call (al6 fin λr s' a3=>?_)
 cases r with
|error e=>exact ed a3
|ok dT=>
  cases dT with
  |ret u=>exact a_.after a3
  |next=>exact ed a3
  |brk=>exact ed a3
  |cont=>exact ed a3
end
section
def DC(ts:List ag)(H:ay):Prop:=(∀b,H b=none\/(∃o xs,H b=some (.mj o (.lst xs)))\/(b∈ts/\H b=some (.hV #[])))/\∀b∈ts,H b=some (.hV #[])
def ahG{P:cA}{w:bZ}{K:a9}{mg lJ:Str->Option aj}{d6:lr}{k:Nat}{bN a:ag}{fd:dV}{x:Str}{sp:jQ}{cU:aI}{vs:List aj}{ns:List Int}{ts:List ag}
  (kc:K.In cU.heap) (oo:∀b∈ts,cU.heap.get? b=some (PySem.W.tabObj #[])) (wy:∀b∈ts,K.lookup b=none) (eZ:∀b∈ts,∃c,u4 K c b=true)
  (oj:cU.heap.Ns iX mg) (U:cU.heap.Ns builtinsNs lJ) (Zs:∀x:Str,x≠"__name__"->lJ x=bootBuiltins x) (ZS:cU.heap.NoLimit) (bl:cU.gens=#[])
  (av:cU.heap.get? a=some {cls:=.type "list",data:=.seq vs.toArray}) (bc:IntsAre vs ns) (aB:ns.length<=cG) (au:cW k callerA)
  (iw:nQ mg cU.heap) (F:∀base:bE,K.In base->base.Ns iX mg->nQ mg base->ez P w K mg base d6 k bN fd [x] sp) (Zt:∀(s:aI) (u:aj),BindsTo s fd ⟨[u],[]⟩ [(x,u)])
  (qC:∀H:ay,DC ts H->gP K H a (ns.map V.int)->sp [.ref a] H (λv _=>v=.c4 true) λ_ _ _=>False)
  (F6:∀H e s',d6 [] H cU (λ_ _ _=>False) e s'->False):
  iG (bL P w) callerA (.call (.ref bN) ⟨[.ref a],[]⟩) (λr s'=>r=.ok (.ret (.bool true))/\OldK cU.heap s'.heap/\s'.os=cU.os/\AllBare s'.gens) cU:=by
 have bP:=Rk bc;have aaI:=bc.length;have nat:a∉ts:=λz=>by
  have:=oo a z;rw[av] at this;cases this
 have core:∀H:ay,DC ts H->gP K H a (ns.map V.int)->eA P w H cU.heap->(∀b,H b≠none->b=a\/b∈ts)->(H a≠none->K.lookup a=none) ->
   iG (bL P w) callerA (.call (.ref bN) ⟨[.ref a],[]⟩) (λr s'=>r=.ok (.ret (.bool true))/\OldK cU.heap s'.heap/\s'.os=cU.os/\AllBare s'.gens) cU:=by
  intro H jY e9 bO qt ib;have ED:∀{b:ag} {o:Obj},cU.heap.get? b=some o->H b=none->(oh cU.heap H).get? b=some o:=λe n=>aiH e n;have pO:∀{b:ag} {o:Obj} {es:Array DictEntry} {ep:Nat},cU.heap.get? b=some o->o.data=.dict es ep->H b=none:=λ{b o es ep} e d=>by
   cases q:H b with
   |none=>rfl
   |some u=>
    rcases qt b (by rw[q];simp) with bS|bS
    ·subst bS;rw[av] at e;cases e;have d':Data.seq vs.toArray _=Data.dict es ep:=d;cases d'
    ·rw[oo b bS] at e;cases e;have d':Data.fields _=Data.dict es ep:=d;cases d'
  have A6:∀{b:ag} {m:Str->Option aj},cU.heap.Ns b m->(oh cU.heap H).Ns b m:=λ{b m} ⟨o,es,ep,e,d,r⟩=>⟨o,es,ep,ED e (pO e d),d,r⟩;have N':K.In (oh cU.heap H):=λb o e=>ED (kc b o e) (by
   cases q:H b with
   |none=>rfl
   |some u=>
    rcases qt b (by rw[q];simp) with bS|bS
    ·subst bS;rw[ib (by rw[q];simp)] at e;cases e
    ·rw[wy b bS] at e;cases e)
  have Zu:nQ mg (oh cU.heap H):=by
   obtain⟨bm,dD,cf,ct,fe,kf,wc,pz⟩:=iw;refine⟨bm,dD,cf,ct,ED fe ?_,kf,wc,pz⟩;cases q:H bm with
   |none=>rfl
   |some u=>
    rcases qt bm (by rw[q];simp) with bS|bS
    ·subst bS;rw[av] at fe;cases fe;cases pz
    ·rw[oo bm bS] at fe;cases fe;cases pz
  have Ze:Mod K mg (oh cU.heap H):=⟨N',A6 oj,⟨lJ,A6 U,Zs⟩,let ⟨mc,af,ak⟩:=ZS;⟨mc,A6 af,ak⟩⟩;have b7:mU P w K mg (oh cU.heap H) callerA [] cU H:=⟨rfl,Ze,λb o e=>ajo e,Nat.le_of_eq (ahO _ _),trivial,λb U=>absurd (show b∈([]:List ag) from U) (by simp),bO,.of_eq bl⟩;refine al6 ((F _ N' (A6 oj) Zu).run callerA [] cU H ⟨[.ref a],[]⟩ [.ref a] [.ref a] _ _ au b7 (Zt cU (.ref a)) (.cons rfl .nil) (qC H jY e9)) λr s' h=>?_;cases r with
  |error e=>exact (F6 H e s' h).elim
  |ok dT=>
   cases dT with
   |next=>exact ed h
   |brk=>exact ed h
   |cont=>exact ed h
   |ret u=>
    obtain⟨v,aa,os,bare,un,Oz,cq,q⟩:=h;have d8:v=.c4 true:=q;subst d8;obtain rfl:u=Value.bool true:=cq;refine⟨rfl,⟨λb o e=>?_,λb o e=>un.there b o e (by simp)⟩,os,bare⟩;cases q:H b with
    |none=>exact .inl (un.keep b o e q (by intro z;exact absurd (show b∈([]:List ag) from z) (by simp)) (by simp))
    |some u=>
     rcases jY.1 b with z|⟨dD,xs,z⟩|⟨Od,z⟩
     ·rw[q] at z;cases z
     ·have gC:=un.kR b dD _ z;obtain⟨aD,_⟩:=bO b _ z;obtain⟨aO,_⟩:=Oz b _ gC;rw[e] at aD;cases aD;exact .inl aO
     ·obtain⟨more,gC⟩:=un.k8 b _ z;have aO:s'.heap.get? b=some (PySem.W.tabObj (#[]++more)):=Oz b _ gC;have aD:=oo b Od;rw[e] at aD;cases aD;obtain⟨c,ax⟩:=eZ b Od;exact .inr (.inl ⟨((PySem.W.codeHd_of_K kc ax).tab e).isCodeTable,rfl,#[],more,rfl,aO⟩)
 cases aL:K.lookup a with
|some o=>
  have e:=kc a o aL;rw[av] at e;cases e;refine core (λb=>if b∈ts then some (.hV #[]) else none) ⟨λb=>?_,λb U=>if_pos U⟩ (.inr ⟨_,vs.toArray,_,aL,rfl,rfl,rfl,by rw[eQ,aaI];exact aB,by simpa using bP⟩) (λb u z=>?_) (λb z=>?_) λz=>?_
  ·by_cases U:b∈ts
   ·exact .inr (.inr ⟨U,if_pos U⟩)
   ·exact .inl (if_neg U)
  ·by_cases U:b∈ts
   ·have jG:=(if_pos U).symm.trans z;cases jG;exact oo b U
   ·have jG:=(if_neg U).symm.trans z;cases jG
  ·by_cases U:b∈ts
   ·exact .inr U
   ·exact absurd (if_neg U) z
  ·exact absurd (if_neg nat) z
|none=>
  refine core (λb=>if b=a then some (.mj {cls:=.type "list",data:=.seq vs.toArray} (.lst (ns.map V.int))) else if b∈ts then some (.hV #[]) else none) ⟨λb=>?_,λb U=>?_⟩ (.inl (.inr ⟨{cls:=.type "list",data:=.seq vs.toArray},if_pos rfl⟩)) (λb u z=>?_) (λb z=>?_) λ_=>aL
  ·by_cases U:b=a
   ·exact .inr (.inl ⟨_,_,if_pos U⟩)
   ·by_cases mq:b∈ts
    ·exact .inr (.inr ⟨mq,(if_neg U).trans (if_pos mq)⟩)
    ·exact .inl ((if_neg U).trans (if_neg mq))
  ·have ne:b≠a:=λz=>nat (z▸U);exact (if_neg ne).trans (if_pos U)
  ·by_cases U:b=a
   ·have jG:=(if_pos U).symm.trans z;cases jG;subst U;exact⟨av,by rw[e1];exact aB,vs,_,bP,av⟩
   ·by_cases mq:b∈ts
    ·have jG:=((if_neg U).trans (if_pos mq)).symm.trans z;cases jG;exact oo b mq
    ·have jG:=((if_neg U).trans (if_neg mq)).symm.trans z;cases jG
  ·by_cases U:b=a
   ·exact .inl U
   ·by_cases mq:b∈ts
    ·exact .inr mq
    ·exact absurd ((if_neg U).trans (if_neg mq)) z
def ah2{l:PySem.W.OpenLaw}{n k:Nat}{q:cA}{loose:List Str}{t5:(Str->Option aj)->bE->Prop}{nY:bZ->bE->Prop}{d:DefRec}{K:Params->a9}{d6:bZ->lr}{sp:bZ->jQ}{x:Str}{ts:List ag}
  (a6:l.most=some n) (Aa:n<=cG) (wB:d.params.defaults=[]) (au:cW k callerA)
  (Gd:∀(w:bZ) (h:bE),nY w h->(K w.params).In h) (ek:∀(w:bZ) (h:bE),nY w h->∀b∈ts,h.get? b=some (PySem.W.tabObj #[]))
  (wy:∀(w:bZ),∀b∈ts,(K w.params).lookup b=none) (eZ:∀(w:bZ),∀b∈ts,∃c,u4 (K w.params) c b=true)
  (F:∀(w:bZ) (mg:Str->Option aj) (bN:ag) (h:bE),(K w.params).In h->h.Ns iX mg->mg d.name=some (.ref bN) ->
   ∃fd:dV,(∀(s:aI) (u:aj),BindsTo s fd ⟨[u],[]⟩ [(x,u)]) /\
    ∀base:bE,(K w.params).In base->base.Ns iX mg->nQ mg base->ez l.prog w (K w.params) mg base (d6 w) k bN fd [x] (sp w))
  (qC:∀(w:bZ) (H:ay) (a:ag) (ns:List Int),ns.length<=n->DC ts H->gP (K w.params) H a (ns.map V.int)->sp w [.ref a] H (λv _=>v=.c4 true) λ_ _ _=>False)
  (F6:∀(w:bZ) (H:ay) (s:aI) (e:aj) (s':aI),d6 w [] H s (λ_ _ _=>False) e s'->False):
  PySem.W.WalkO q loose t5 nY l.row.toRowW d [] (λf vs=>PySem.call f vs):=by
 refine Mr.WY a6 wB λw c' cU mg lJ bN o pm cd doc a vs ns G Y aF hd alw wH Gy hints hlen bl=>?_
 have kc:=Gd w _ Y;obtain⟨fd,U,wx⟩:=F w mg bN _ kc G.T.g wH;exact ahG kc (ek w _ Y) (wy w) (eZ w) G.T.g G.T.b G.T.builtins G.T.nolimit bl Gy hints (jd hlen Aa) au G.T.bmain wx U (λH jY e9=>qC w H a ns hlen jY e9) λH e s'=>F6 w H cU e s'
def ahl{t:cJ}{K:a9}{H:ay}{a:ag}{ns:List Int}{d:List T->Option T}{ts:List ag}(oo:∀p∈t.c6,p.1∈ts)(jY:DC ts H)(hM:O2 K=true)(hd:d [eg ns]=some (.bool true))(e9:gP K H a (ns.map V.int)):spT K 1 d [.ref a] H (λv _=>v=.c4 true) λ_ _ _=>False:=by
 rcases e9 with e9|⟨o,its,n,aL,ax,_⟩
 ·refine⟨rfl,λb=>b=a,[eg ns],.bool true,⟨?_,λp aC=>⟨#[],jY.2 p.1 (oo p aC),trivial,λpos kg e=>by cases e⟩⟩,bG.cons ?_ bG.nil,hd,λv aG aa x r=>by simpa [Rep] using r⟩
  ·rintro b rfl;rcases e9 with q|⟨u,q⟩
   ·exact⟨_,q⟩
   ·exact⟨_,q⟩
  ·simp only[eg,Rep];exact⟨a,_,rfl,rfl,e9,Rn ns⟩
 ·have:=List.all_eq_true.mp hM _ (QQ aL);simp[ax] at this
end
section
variable [cJ]
def rB(f:bz):g6:=λε=>(f ε).map λt=>(t,ε)
def pQ(o:T->T->Option T)(f g:g6):g6:=λε=>(f ε).bind λr=>(g r.2).bind λs=>(o r.1 s.1).map λz=>(z,s.2)
abbrev mW:=Ev->Option (Bool×Ev)
def qY(f:g6):mW:=λε=>(f ε).bind λr=>match r.1 with
|.bool b=>some (b,r.2)
|_=>none
def rC(f:eT):mW:=λε=>(f ε).map λb=>(b,ε)
def qM(f g:mW):mW:=λε=>(f ε).bind λr=>if r.1 then some (true,r.2) else g r.2
def qE(c:mW)(a b:bA):bA:=λε=>(c ε).bind λr=>if r.1 then a r.2 else b r.2
def PG(K:a9)(f:mW):TT:=λσ H Q=>∃aE E O F ε b ε',cP K aE E O F H ε σ/\f ε=some (b,ε')/\∀aG aa,ej K F H aG aa->cP K aE E O aG aa ε' σ->Q b aa
abbrev t4(X:aV)(e:bj)(f:mW):Prop:=ir X e (PG X.K f)
abbrev y5(X:aV)(e:bj)(f:mW):Prop:=l_ X e (PG X.K f)
section
variable {X:aV}{a b e:bj}{es:List bj}{f g:g6}{N4:bz}{gS:eT}{c d:mW}{pos:Pos}
def x_pure(h:cO X e N4):kO X e (rB N4):=d5 h λσ H Q ⟨aE,E,O,F,ε,t,ε',r,e,k⟩=>by
 simp only[rB,dE] at e;obtain⟨t',bw,e⟩:=e;cases e;exact⟨aE,E,O,F,ε,t,r,bw,λv aG aa x bP=>k v aG aa x.aw (r.ext x) bP⟩
def air{o:T->T->Option T}{R:gE}(h:l9 X.K o R):∀σ H Q,xq X.K (pQ o f g) σ H Q->uK R (xq X.K f) (xq X.K g) σ H Q:=by
 rintro σ H Q ⟨aE,E,O,F,ε,t,ε',r,e,k⟩;simp only[pQ,cz,dE] at e;obtain⟨⟨x,fZ⟩,ex,⟨y,iq⟩,fy,z,eH,e⟩:=e;cases e;refine⟨aE,E,O,F,ε,x,fZ,r,ex,λiV aY H1 sG bg aW=>⟨aE,E,O,aY,fZ,y,iq,bg,fy,λiW du bk mu b5 bx=>?_⟩⟩;exact h O du bk x y t iV iW Q b5.cu (.inl (aW.aw mu)) (.inl bx) eH λv aG aa hc dg=>k v aG aa ((sG.trans mu).trans hc.aw) (b5.ext hc) dg
def T4{op:CmpOp}{R:gE}{o:T->T->Option T}(aF:e5 X (iF op) R)(ak:l9 X.K o R)(av:kO X a f)(U:kO X b g)(hm:oM op b=false:=by first|exact L1 _|rfl):t4 X (.Compare a [op] [b] pos) (qY (pQ o f g)):=
 rv (SM aF av U hm) λσ H Q ⟨aE,E,O,F,ε,b,ε',r,e,k⟩=>by
 simp only[qY,cz] at e;obtain⟨⟨t,fZ⟩,bw,e⟩:=e;split at e
 next z aq=>
  cases e
  subst aq;refine air ak σ H _ ⟨aE,E,O,F,ε,_,_,r,bw,λv aG aa aw cq q=>?_⟩;simp only[Rep] at q;exact⟨_,q,k aG aa aw cq⟩
 next=>cases e
def y_pure(h:jn X e gS):t4 X e (rC gS):=rv h λσ H Q ⟨aE,E,O,F,ε,b,ε',r,e,k⟩=>by
 simp only[rC,dE] at e;obtain⟨t',bw,e⟩:=e;cases e;exact⟨aE,E,O,F,ε,_,r,bw,λaG aa x=>k aG aa x.aw (r.ext x)⟩
def T3(h:t4 X e c):y5 X (.BoolOp .Or [e] pos) c:=Tt h
def PO(h:t4 X a c)(ak:y5 X (.BoolOp .Or (b::es) pos) d):y5 X (.BoolOp .Or (a::b::es) pos) (qM c d):=L' (Ub h ak) λσ H Q ⟨aE,E,O,F,ε,b,ε',r,e,k⟩=>by
 simp only[qM,cz] at e;obtain⟨⟨z,fZ⟩,gH,e⟩:=e;refine⟨aE,E,O,F,ε,z,fZ,r,gH,λaY H1 sG bg=>?_⟩;cases z with
|true=>
  simp only[if_true,Option.some.injEq,Prod.mk.injEq] at e;obtain⟨aD,aO⟩:=e;subst aD aO;exact sF (k aY H1 sG bg)
|false=>exact sE ⟨aE,E,O,aY,fZ,b,ε',bg,by simpa using e,λdu bk mu b5=>k du bk (sG.trans mu) b5⟩
def PQ(h:y5 X e c):t4 X e c:=h.pt
def T9{g1 g2:bA}{rest qp:List Stmt}(ax:t4 X e c)(av:hF X rest g1)(U:hF X qp g2):f6 X (.If e rest qp pos) (qE c g1 g2):=g4 (Mg ax av U) λD σ H ⟨aE,E,O,F,ε,o,r,e,k⟩=>by
 simp only[qE,cz] at e;obtain⟨⟨z,fZ⟩,gH,e⟩:=e;refine⟨aE,E,O,F,ε,z,fZ,r,gH,λaY H1 sG bg=>?_⟩;cases z with
|true=>exact sF ⟨aE,E,O,aY,fZ,o,bg,by simpa using e,k.aw sG⟩
|false=>exact sE ⟨aE,E,O,aY,fZ,o,bg,by simpa using e,k.aw sG⟩
end
end
section
abbrev nv(c6:List (ag×Str)):cJ:=⟨c6,λ_=>[],λ_=>none⟩
def ajE{t:cJ}{c6:List (ag×Str)}(aX:t.c6=c6){P:cA}{w:bZ}{K:a9}{mg:Str->Option aj}{base:bE}{k n:Nat}{f:ag}{fd:dV}{ps:List Str}{d:List T->Option T}(F:ez P w K mg base di k f fd ps (@spT t K n d)):ez P w K mg base di k f fd ps (@spT (nv c6) K n d):=by
 subst aX;have amb:∀{F:ag->Prop} {H:ay},@fE (nv t.c6) F H->@fE t F H:=λ{F H} h=>@fE.mk t F H (@fE.we (nv t.c6) F H h) (@fE.mz (nv t.c6) F H h);have XY:∀{F:ag->Prop} {H:ay},@fE t F H->@fE (nv t.c6) F H:=λ{F H} h=>@fE.mk (nv t.c6) F H (@fE.we t F H h) (@fE.mz t F H h);refine F.imp λvs H Q E h=>?_;obtain⟨aB,F,ts,r,cu,q,e,iP⟩:=h;exact⟨aB,F,ts,r,amb cu,q,e,λv aG aa x bP=>iP v aG aa (@Ext.mk (nv t.c6) F H aG aa (@Ext.same t F H aG aa x) (@Ext.sub t F H aG aa x) (@Ext.new t F H aG aa x) (XY (@Ext.cu t F H aG aa x))) bP⟩
end
end D
end
section
namespace D
open PySem PySem.Spec PySem.Calls PySem.W PyProof.Rows PySem.Builtin PySem.Builtin.ObjectAttr PySem.Builtin.Getset_descriptor
def ExcAt(x C:ag)(h:bE):Prop:=∃o vs,h.get? x=some o/\o.cls=.ref C/\o.data=.fields vs
structure U2(K:Frag)(C:ag):Prop where
 cl:(clsIn K C).isSome=true
 ga:findIn K (.ref C) "__getattribute__"=some (some (.builtin "BaseException.__getattribute__"))
 gn:findIn K (.ref C) "__getattr__"=some none
 at_:findIn K (.ref C) "__class__"=some (some (.builtin "object.__class__"))
 sp:specialIn K (.builtin "object.__class__") "__get__"=some (some (.builtin "getset_descriptor.__get__"))
 tk:takesIn K (.builtin "object.__class__")=some true
 mo:mroIn K C (.type "object")=some true
 lJ:mroIn K C (.type "BaseException")=some true
section
variable {prog:cA}{w:bZ}{A:cH}{E:aj->aI->Prop}{s:aI}{K:Frag}{x C:ag}{R:Result->aI->Prop}
def ExcAt.type{M:Model}{h:bE}(I:ExcAt x C h):Looks M h (typeOf (.ref x)) (.ref C):=by
 obtain⟨o,vs,af,ak,bB⟩:=I;exact ak▸(Looks.ld af).andThen .now
end
end D
end
section
namespace D
open PySem PySem.Spec PyProof.Rows bh
section
structure DH(P:cA)(w:bZ)(outer:List Env)(H:ay)(s:aI)(C:ag)(aa:ay)(b':ag)(ma:aj)(B:bE)(s':aI):Prop where
 os:s'.os=s.os
 bare:AllBare s'.gens
 wj:Heap.FlyingW B outer b' (.ref C) ma s'.heap
 bO:eA P w aa B
 un:f9 (fh outer) [] H aa s.heap s'.heap
 qn:∀b o,s.heap.get? b=some o->H b=none->b∉fh outer->B.get? b=some o
 s8:∀b o,s.heap.get? b=some o->b∉fh outer->∃o',B.get? b=some o'
def DD(P:cA)(w:bZ)(outer:List Env)(H:ay)(s:aI)(C:ag)(aa:ay)(e:aj)(s':aI):Prop:=∃b' ma B,e=.ref b'/\DH P w outer H s C aa b' ma B s'
def j'(P:cA)(w:bZ):lr:=λouter H s E e s'=>∃C aa,DD P w outer H s C aa e s'/\E (.ref C) none aa
noncomputable def T1(X:aV)(H:ay)(s:aI)(C:ag)(aa:ay)(e:aj)(s':aI):Prop:=
 (aa=H/\∃b' args ak,e=.ref b'/\s'={s with heap:=ak}/\Heap.MadeExcOf s.heap ak b' (.ref C) args)\/DD X.prog X.w X.stack H s C aa e s'
def r2(X:aV)(C:ag)(aa:ay):Prop:=∀(ai:List (ag×Obj)) (σ:bh.St) (H:ay) (s:aI) (e:aj) (s':aI),Inv X ai σ H s->T1 X H s C aa e s'->X.c8 e s'
def Rg{h h' base:bE}{l:List Env}{b:ag}{o:Obj}(F:h.FunFrames base l)(U:b∈fh l)(e:h.get? b=some o)(k:h.UpToSlots h'):∃dK,h'.get? b=some {o with slots:=dK}:=by
 obtain⟨_,o',bS,hd⟩:=F.mem U;rw[e] at bS;cases bS;exact k b o e hd
def DH.on{P:cA}{w:bZ}{outer:List Env}{H aa:ay}{s s':aI}{C b':ag}{ma:aj}{B pG:bE}(x:DH P w outer H s C aa b' ma B s')(st:B.StaysIn pG)(k:s'.heap.UpToSlots pG):
  f9 (fh outer) [] H aa s.heap pG/\eA P w aa pG:=by
 refine⟨⟨λb o e n f _=>st _ _ (x.qn b o e n f),λb o e n f hx=>?_,λb o e n hx=>x.un.free b o e n hx,λb o e hx=>?_,x.un.lQ,x.un.kR,x.un.k8⟩,x.bO.kept st⟩
 ·obtain⟨dK,aD⟩:=x.un.slot b o e n f hx;obtain⟨hS,aO⟩:=Rg x.wj.2.2.1 f aD k;exact⟨hS,aO⟩
 ·by_cases f:b∈fh outer
  ·obtain⟨o',aD⟩:=x.un.there b o e hx;obtain⟨hS,aO⟩:=Rg x.wj.2.2.1 f aD k;exact⟨_,aO⟩
  ·obtain⟨o',aD⟩:=x.s8 b o e f;exact⟨o',st _ _ aD⟩
def ajA{P:cA}{w:bZ}{H:ay}{h:bE}{as:List ag}(x:eA P w H h)(n:∀b∈as,H b=none):eA P w H (PySem.W.hideAll h as):=λa o e=>
 hj.jA (x a o e) (λb u U q=>PySem.W.hideAll_get _ q λm=>by
  have z:=n b m;rcases U with rfl|U
  ·rw[e] at z;cases z
  ·rw[U] at z;cases z) (λb U=>U) λb xs U=>U
section
variable {X:aV}{ai:List (ag×Obj)}{σ:bh.St}{H1 aa:ay}{s1 s2:aI}{C:ag}{e:aj}{env:Env}{outer:List Env}{E:eF}
def R4(I:Inv X ai σ H1 s1)(t:T1 X H1 s1 C aa e s2)(kS:E (.ref C) none aa){Z:aj->aI->Prop}(gJ:X.stack=env::outer:=by rfl)(Z6:X.outer=outer:=by rfl)(hex:X.ex=[]:=by rfl)(hf:env.frame=some X.env.locals:=by rfl):
  bD (bL X.prog X.w) X.A (leaving env e) (λ_ pS=>j' X.prog X.w outer X.aR X.c' E e pS) Z s2:=by
 have ZI:X.ar=fh outer:=by unfold aV.ar;rw[Z6]
 have kl:=I.ok.frames;rw[gJ] at kl;have iB:=I.base;rw[ZI,hex] at iB;have bK:∀b:ag,b∉([]:List ag):=λb z=>absurd z (by simp);have A5:∀b o,X.c'.heap.get? b=some o->b∉fh outer->b∉fh (env::outer):=λb o b7 n m=>by
  obtain⟨pE,he,og⟩:=List.mem_filterMap.mp m;rcases cm.mp he with rfl|he
  ·rw[hf] at og;cases og;exact absurd (cY b7) (Nat.not_lt.mpr I.ok.above)
  ·exact n (List.mem_filterMap.mpr ⟨pE,he,og⟩)
 have oA:=I.stack;rw[gJ] at oA;rcases t with ⟨wg,b',args,ak,f',es,mk⟩|⟨b',ma,B,f',dT⟩
 ·subst wg f' es;have qx:∀pE∈(env::outer),∀b,pE.frame=some b->b∈fh (env::outer):=λpE he b U=>List.mem_filterMap.mpr ⟨pE,he,U⟩;refine wpAny_leaves_madeW (base:=PySem.W.hideAll s1.heap (fh (env::outer))) kl hf (λb o q=>PySem.W.of_hideAll _ q) (PySem.W.funFrames_hide oA qx) mk λh' t aP b6 hc x4=>?_;have N6:=I.Jy;rw[gJ] at N6;have qn:∀b o,X.c'.heap.get? b=some o->X.aR b=none->b∉fh outer->(PySem.W.hideAll s1.heap (fh (env::outer))).get? b=some o:=λb o b7 n f=>PySem.W.hideAll_get _ (iB.keep b o b7 n f (bK b)) (A5 b o b7 f);have s8:∀b o,X.c'.heap.get? b=some o->b∉fh outer->∃o',(PySem.W.hideAll s1.heap (fh (env::outer))).get? b=some o':=λb o b7 f=>by
   obtain⟨o',aD⟩:=iB.there b o b7 (bK b);exact⟨o',PySem.W.hideAll_get _ aD (A5 b o b7 f)⟩
  have dK:∀b o,s1.heap.get? b=some o->b∈fh outer->∃dK,h'.get? b=some {o with slots:=dK}:=λb o aD f=>by
   have du:s1.heap.FunFrames X.base (env::outer):=oA;obtain⟨_,o',bS,hd⟩:=du.mem (b:=b) (by
    obtain⟨pE,he,og⟩:=List.mem_filterMap.mp f;exact List.mem_filterMap.mpr ⟨pE,dn _ he,og⟩)
   rw[aD] at bS;cases bS;exact x4 b o (mk.keeps b o aD) hd
  refine⟨C,_,⟨b',_,_,rfl,⟨I.os,I.bare,aP,ajA I.bO N6,⟨λb o b7 n f _=>aP.1 _ _ (qn b o b7 n f),λb o b7 n f _=>?_,λb o b7 n _=>iB.free b o b7 n (bK b),λb o b7 _=>?_,iB.lQ,iB.kR,iB.k8⟩,qn,s8⟩⟩,kS⟩
  ·obtain⟨Bs,aD⟩:=iB.slot b o b7 n f (bK b);obtain⟨hS,aO⟩:=dK b _ aD f;exact⟨hS,aO⟩
  ·by_cases f:b∈fh outer
   ·obtain⟨o',aD⟩:=iB.there b o b7 (bK b);obtain⟨hS,aO⟩:=dK b _ aD f;exact⟨_,aO⟩
   ·obtain⟨o',aD⟩:=s8 b o b7 f;exact⟨o',aP.1 _ _ aD⟩
 ·subst f';rw[gJ] at dT;refine wpAny_leaves_onW kl hf dT.wj λh' aP b6=>?_;have on:=dT.on aP.1 b6;have qn:∀b o,X.c'.heap.get? b=some o->X.aR b=none->b∉fh outer->B.get? b=some o:=λb o b7 n f=>dT.qn b o (iB.keep b o b7 n f (bK b)) (iB.free b o b7 n (bK b)) (A5 b o b7 f);have s8:∀b o,X.c'.heap.get? b=some o->b∉fh outer->∃o',B.get? b=some o':=λb o b7 f=>by
   obtain⟨o',aD⟩:=iB.there b o b7 (bK b);exact dT.s8 b o' aD (A5 b o b7 f)
  have up:∀b,b∈fh outer->b∈fh (env::outer):=λb f=>by
   obtain⟨pE,he,og⟩:=List.mem_filterMap.mp f;exact List.mem_filterMap.mpr ⟨pE,dn _ he,og⟩
  refine⟨C,_,⟨b',_,B,rfl,⟨dT.os.trans I.os,dT.bare,aP,dT.bO,⟨λb o b7 n f _=>aP.1 _ _ (qn b o b7 n f),λb o b7 n f _=>?_,λb o b7 n _=>?_,λb o b7 _=>?_,λb xs q=>on.1.lQ _ _ (iB.lQ _ _ q),λb o u q=>on.1.kR _ _ _ (iB.kR _ _ _ q),λb ps q=>?_⟩,qn,s8⟩⟩,kS⟩
  ·obtain⟨Bs,aD⟩:=iB.slot b o b7 n f (bK b);obtain⟨hS,aO⟩:=on.1.slot b _ aD (iB.free b o b7 n (bK b)) (up b f) (bK b);exact⟨hS,aO⟩
  ·obtain⟨Bs,aD⟩:=iB.any b7 n (bK b);exact on.1.free b _ aD (iB.free b o b7 n (bK b)) (bK b)
  ·obtain⟨o',aD⟩:=iB.there b o b7 (bK b);exact on.1.there b o' aD (bK b)
  ·obtain⟨hO,aM⟩:=iB.k8 b ps q;obtain⟨kW,bb⟩:=on.1.k8 b _ aM;exact⟨hO++kW,by rw[bb,Array.append_assoc]⟩
def Lk(h:∀C aa,E (.ref C) none aa->r2 X C aa):Passes (j' X.prog X.w) X E:=λai σ H s e s' I ⟨C,aa,dT,kS⟩=>h C aa kS ai σ H s e s' I (.inr dT)
end
end
section
variable [cJ]
abbrev f3:=Ev->Bool
def PC(X:aV)(C:ag)(r:f3):TE:=λσ H _=>∃aE E O F ε,cP X.K aE E O F H ε σ/\r ε=true/\∀aG aa,Ext F H aG aa->r2 X C aa
def JC(X:aV)(C:ag)(r:f3):fT:=λ_ σ H=>∃aE E O F ε,cP X.K aE E O F H ε σ/\r ε=true/\∀aG aa,Ext aE E.h aG aa->r2 X C aa
abbrev rV(X:aV)(C:ag)(e:bj)(r:f3):Prop:=bQ X e (PC X C r)
abbrev y4(X:aV)(C:ag)(s:Stmt)(r:f3):Prop:=hG X s (JC X C r)
abbrev ph(X:aV)(C:ag)(s:List Stmt)(r:f3):Prop:=fF X s (JC X C r)
def uD:f3:=λ_=>false
def amu(b:bA)(r:f3):f3:=λε=>match b ε with
|some (.bK ε')=>r ε'
|_=>false
def uA(c:eT)(a b:f3):f3:=λε=>match c ε with
|some true=>a ε
|some false=>b ε
|none=>false
def lK(f:bz):f3:=λε=>(f ε).isSome
theorem hG.dv{X:aV}{st:Stmt}{t:fT}(h:hG X.dv st t):hG X st t:=λai s σ H D I hw=>
 e2 (h ai s σ H D (I.j2 _) hw) (λ_ _ q=>q.mB) λ_ _ z=>ed z
theorem f5.dv{X:aV}{es:List bj}{t:fS}(h:f5 X.dv es t):f5 X es t:=λpos ai s σ H Q I hw=>
 e2 (h pos ai s σ H Q (I.j2 _) hw) (λ_ _ ⟨v,aa,mY,r,q⟩=>⟨v,aa,mY.mB,r,q⟩) λ_ _ z=>ed z
section
variable {X:aV}{C:ag}{e c:bj}{st:Stmt}{rest qp:List Stmt}{r cq:f3}{b:bA}{gS:eT}{pos:Pos}
def Qg{l:List Stmt}:ph X C l uD:=λai s σ H D I h=>by
 obtain⟨_,_,_,_,_,_,e,_⟩:=h;cases e
def tE(h:y4 X C st r):ph X C (st::rest) r:=yv (yl (u:=λ_ _ _=>False) h λ_ _ _ _ _ _ z=>z.elim) λD σ H q=>q
def afK(af:f6 X.dv st b)(ak:ph X C rest r):ph X C (st::rest) (amu b r):=yv (yl (hG.dv af) ak) λD σ H ⟨aE,E,O,F,ε,fC,e,k⟩=>by
 unfold amu at e;split at e
 next ε' U=>exact⟨aE,E,O,F,ε,_,fC,U,λcg aG aa aw b5=>⟨aE,E,O,aG,ε',b5,e,k⟩⟩
 next=>cases e
def Qf(ax:jn X.dv c gS)(av:ph X C rest r)(U:ph X C qp cq):y4 X C (.If c rest qp pos) (uA gS r cq):=g4 (Mg ax.dv av U) λD σ H ⟨aE,E,O,F,ε,fC,e,k⟩=>by
 unfold uA at e;split at e
 next hx=>exact⟨aE,E,O,F,ε,true,fC,hx,λaG aa x=>sF ⟨aE,E,O,aG,ε,fC.ext x,e,k⟩⟩
 next hx=>exact⟨aE,E,O,F,ε,false,fC,hx,λaG aa x=>sE ⟨aE,E,O,aG,ε,fC.ext x,e,k⟩⟩
 next=>cases e
def akK{σ:bh.St}{H:ay}{D:Ends}{Q:dj}(h:JC X C r D σ H):PC X C r σ H Q:=by
 obtain⟨aE,E,O,F,ε,fC,e,k⟩:=h;exact⟨aE,E,O,F,ε,fC,e,λaG aa x=>k aG aa (fC.ent.trans x)⟩
def LP(h:rV X C e r)(aA:jh e none pos.line X.env=pure false:=by rfl):y4 X C (.Expr e pos) r:=g4 (vw h aA) λD σ H q=>akK q
end
abbrev EF:List aj:=[.type "ValueError",.type "Exception",.type "BaseException",.type "object"]
def ajj{K:a9}{h:bE}{C:ag}{MV:List aj}{newId:String}(X:K.In h)(q:PySem.W.excIn K C MV newId=true):
  ∃bm N nm q bs hdct sn sub ab col dd k0 k1 k2 k3 k5 mN,h.get? C=some (excClassObj nm q C N bs bm hdct sn sub ab col dd k0 k1 k2 k3 k5 newId)/\h.Ns N mN/\mN "__init__"=none/\OwnTail h MV bm:=by
 unfold PySem.W.excIn at q;split at q
 ·rename_i dd cd dK aF
  split at q
  ·rename_i i4 bm k0 k1 k2 k3 n k5 hm aA
   simp only[gO,beq_iff_eq,Bool.not_eq_true'] at q;obtain⟨⟨⟨⟨⟨rfl,rfl⟩,Og⟩,aX⟩,bO⟩,Ab⟩:=q;obtain⟨nm,bs,mro,ns,sQ,hd,sn,sub,ab,col,del⟩:=cd;dsimp only at hm Og bO Ab;subst hm Og;have Z':dK=#[k0,k1,k2,k3,some (.builtin n),k5]:=by
    obtain⟨l⟩:=dK;simp only at aA;rw[aA]
   subst Z';exact⟨bm,ns,nm,sQ,bs,hd,sn,sub,ab,col,dd,k0,k1,k2,k3,k5,_,X _ _ aF,.of_isNs (PySem.W.isNs_of_in X bO),PySem.W.nsMap_none_of_in X bO Ab,PySem.W.tail_of_in X aX⟩
  ·cases q
 ·cases q
def SA{X:aV}{C:ag}{x:Str}{e:bj}{f:bz}{np eU pos:Pos}(hm:X.mg x=some (.ref C))(hx:PySem.W.excIn X.K C EF "ValueError.__new__"=true)(he:cO X.dv e f)(cM:X.A.handled=none)
  (bl:ei X x:=by rfl) (aA:bo [e] X.env=(false,eval e X.env)::bo [] X.env:=by rfl) (hd:(x==("__debug__":Str))=false:=by decide):
  y4 X C (.Raise (some (.Call (.Name x np) [e] [] eU)) none pos) (lK f):=by
 intro ai s σ H D I ⟨aE,E,O,F,ε,fC,ug,k⟩;obtain⟨t,bw⟩:=Option.isSome_iff_exists.mp ug;obtain⟨bm,N,nm,q,bs,hdct,sn,sub,ab,col,dd,k0,k1,k2,k3,k5,mN,F4,eB,Ab,ML⟩:=ajj I.ok.mod.oq hx;refine wpAny_Raise_call_subT (C:=C) (nm:=nm) (q:=q) (N:=N) (bs:=bs) (bm:=bm) (hdct:=hdct) (sn:=sn) (sub:=sub) (ab:=ab) (col:=col) (dd:=dd) (k0:=k0) (k1:=k1) (k2:=k2) (k3:=k3) (k5:=k5) (mN:=mN)
  PySem.F.excBase_ValueError (ML.hasType PySem.F.excBase_ValueError.hasBase) cM (by rw[aA];rfl) Ab (tH I bl hm ⟨rfl,?_⟩ hd)
 have av:f5 X [e] (mP (Bw X.K f) qW):=hA (bQ.dv he) j9 aA;have h0:=av eU ai s σ H (λvs H1=>∃v,vs=[v]/\r2 X C H1) I ⟨aE,E,O,F,ε,t,fC,bw,λv aG aa x _=>⟨v,rfl,k aG aa (fC.ent.trans x)⟩⟩;rw[aA] at h0 ⊢;refine Calls.evalArgs_plain (e2 h0 (λus jc ⟨vs,H1,a_,bg,v,ev,kx⟩=>⟨rfl,?_,?_,?_,?_,λh' b' mk=>?_⟩) λ_ _ y=>y)
 ·have:=bg.length;rw[ev] at this;show us.length<=cG;rw[<- this];show 1<=cG;decide
 ·exact a_.gp _ _ F4
 ·exact eB.keeps a_.gp
 ·exact ML.keeps a_.gp
 ·exact kx ai σ H1 jc (.ref b') _ a_ (.inl ⟨rfl,b',_,h',rfl,rfl,mk⟩)
noncomputable def Jw(K:a9)(n:Nat)(C:ag)(r:List aJ->Bool):jQ:=λvs H _ E=>vs.length=n/\∃F ss,fE F H/\yU K F H ss vs/\r ss=true/\∀aG aa,Ext F H aG aa->E (.ref C) none aa
def qS(r:f3)(n:Nat):List aJ->Bool:=λss=>r (jI n ss)
structure qc(P:cA)(w:bZ)(K:a9)(mg:Str->Option aj)(base:bE)(x:Str)(C:ag)(k n:Nat)(r:List aJ->Bool):Prop where
 ex:∃bN fd ps,ez P w K mg base (j' P w) k bN fd ps (Jw K n C r)/\mg x=some (.ref bN)/\kv K (.ref bN)=true/\Binds K fd ps []
structure jO(P:cA)(w:bZ)(K:a9)(mg:Str->Option aj)(base:bE)(l8:ag)(m:Str)(C:ag)(k n:Nat)(r:List aJ->Bool):Prop where
 ex:∃bN fd ps,ez P w K mg base (j' P w) k bN fd ps (Jw K n C r)/\Meth K l8 m bN/\Binds K fd ps []
section
variable {P:cA}{w:bZ}{K:a9}{mg:Str->Option aj}{base:bE}
theorem qc.mono{x:Str}{C:ag}{k n j:Nat}{r:List aJ->Bool}(c:qc P w K mg base x C j n r)(h:j<=k):qc P w K mg base x C k n r:=by
 obtain⟨bN,fd,ps,F,q⟩:=c.ex;exact⟨bN,fd,ps,F.mono h,q⟩
theorem jO.mono{l8 C:ag}{m:Str}{k n j:Nat}{r:List aJ->Bool}(c:jO P w K mg base l8 m C j n r)(h:j<=k):jO P w K mg base l8 m C k n r:=by
 obtain⟨bN,fd,ps,F,q⟩:=c.ex;exact⟨bN,fd,ps,F.mono h,q⟩
def S0{x qual:Str}{st:Stmt}{f C:ag}{fd:dV}{N ps:List Str}{k:Nat}{r:f3}(F:alX K x qual st f fd)(S:cK N ps (bt st))
  (U:∀(bu:aj) (A:cH) (outer:List Env) (s:aI) (H:ay) (E:eF),cW k (A.deeper (envOfC qual (bt st) s.heap.objs.size f bu)) ->
   ph (eN (j' P w) P w K mg base N qual (bt st) f bu A outer s H E) C (fc st) r):
  ez P w K mg base (j' P w) (k+1) f fd ps (Jw K ps.length C (qS r N.length)):=by
 obtain⟨gV,ec,dG,doc,pm,an,bu,dN,jZ,rfl,lk,eZ⟩:=F.ex;refine Mj lk eZ S (λvs H Q E h=>h.1) λA outer s H vs Q E au h=>⟨_,U bu A outer s H E au,?_⟩;obtain⟨aB,F,ss,cu,q,e,iP⟩:=h;refine⟨F,⟨H,0⟩,λa=>H a=none,F,_,?_,e,λaG aa x=>?_⟩
 ·unfold bh.start;exact QC cu q N.length
 ·intro ai σ H1 s1 aD s2 I t;refine e2 (R4 (X:=eN (j' P w) P w K mg base N qual (bt st) f bu A outer s H E) (E:=E) (Z:=λ_ _=>False) I t (iP aG aa x)) (λ_ _ z=>z) λ_ _ z=>z.elim
def akE{x:Str}{C:ag}{st:Stmt}{f:ag}{fd:dV}{N ps:List Str}{k:Nat}{r:f3}(F:alX K x x st f fd)(S:cK N ps (bt st))(bd:Binds K fd ps [])(m:mg x=some (.ref f))
  (U:∀(bu:aj) (A:cH) (outer:List Env) (s:aI) (H:ay) (E:eF),cW k (A.deeper (envOfC x (bt st) s.heap.objs.size f bu)) ->
   ph (eN (j' P w) P w K mg base N x (bt st) f bu A outer s H E) C (fc st) r):qc P w K mg base x C (k+1) ps.length (qS r N.length):=⟨f,fd,ps,S0 F S U,m,F.aw,bd⟩
def Dj{l8 C:ag}{m qual:Str}{st:Stmt}{f:ag}{fd:dV}{N ps:List Str}{k:Nat}{r:f3}(F:alX K m qual st f fd)(S:cK N ps (bt st))(bd:Binds K fd ps [])(gU:Meth K l8 m f)
  (U:∀(bu:aj) (A:cH) (outer:List Env) (s:aI) (H:ay) (E:eF),cW k (A.deeper (envOfC qual (bt st) s.heap.objs.size f bu)) ->
   ph (eN (j' P w) P w K mg base N qual (bt st) f bu A outer s H E) C (fc st) r):jO P w K mg base l8 m C (k+1) ps.length (qS r N.length):=⟨f,fd,ps,S0 F S U,gU,bd⟩
end
def yT(r:List aJ->Bool)(as:List mR):f3:=λε=>match al2 as ε with
|some ss=>r (ss.map uH)
|none=>false
def jK(c:Nat)(r:List aJ->Bool)(i:Nat)(ar:List bz):f3:=λε=>match dm c i ε,args ar ε with
|some (_,os),some ts=>r (.obj .cI c os::ts.map .ae)
|_,_=>false
section
variable {X:aV}{k n c C l8 i:Nat}{ns:List Str}{r:List aJ->Bool}{x m:Str}{p pos apos:Pos}{o e:bj}{es:List bj}{as:List mR}{ar:List bz}
def ajN(hl:qc X.prog X.w X.K X.mg X.base x C k n r)(au:cW k X.A)(av:rU X.dv (e::es) as)(bl:ei X x:=by rfl)(a6:as.length=n:=by rfl)(gc:(x==("__debug__":Str))=false:=by decide)
  (he:bo (e::es) X.env=(false,eval e X.env)::bo es X.env:=by rfl) (hpl:(dM pos (bo es X.env)).any (·.1)=false:=by rfl):rV X C (.Call (.Name x p) (e::es) [] pos) (yT r as):=by
 obtain⟨bN,fd,ps,F,hm,aw,b⟩:=hl.ex;refine d5 (yq F au bl hm aw b .nil (Lk (E:=λcl _ aa=>∃i4,cl=.ref i4/\r2 X i4 aa) λi4 aa ⟨DE,aO,q⟩=>by cases aO;exact q) (f5.dv av) gc he hpl) λσ H Q ⟨aE,E,O,F,ε,fC,e,k⟩=>?_;unfold yT at e;split at e
 next ss es=>
  refine⟨aE,E,O,F,ε,ss,fC,es,λvs aY H1 aP q=>⟨?_,aY,ss.map uH,aP.cu,?_,e,λaG aa b6=>⟨C,rfl,k aG aa (aP.trans b6)⟩⟩⟩
  ·rw[jF,q.len,a6]
  ·rw[jF];exact Dn (fC.ext aP) es q
 next=>cases e
def yw(fq:fm X.K c l8 ns)(hl:jO X.prog X.w X.K X.mg X.base l8 m C k n r)(au:cW k X.A)(a6:bQ X.dv o (fU i))(av:kN X.dv (e::es) ar){pl:Sem Bool}(hm:m∉ns:=by decide +kernel)(aB:ar.length+1=n:=by rfl)
  (gJ:bo (e::es) X.env=(false,eval e X.env)::bo es X.env:=by rfl) (hpl:(dM pos (bo es X.env)).any (·.1)=false:=by rfl)
  (aX:eval (.Call (.Attribute o m apos) (e::es) [] pos) X.env=(do
   let d0 <- eval o X.env
   standAt apos.atName
   let (f,first) <- holding [d0] (getMethod d0 m pl)
   callWith pos f first (dM pos (bo (e::es) X.env)) (mG pos (mF [] X.env))):=by rfl):rV X C (.Call (.Attribute o m apos) (e::es) [] pos) (jK c r i ar):=by
 obtain⟨bN,fd,ps,F,gU,b⟩:=hl.ex;refine d5 (LB (bQ.dv a6) fq.cls gU F au b .nil (Lk (E:=λcl _ aa=>∃i4,cl=.ref i4/\r2 X i4 aa) λi4 aa ⟨DE,aO,q⟩=>by cases aO;exact q) (f5.dv av) gJ hpl aX) λσ H Q ⟨aE,E,O,F,ε,fC,e,k⟩=>?_;unfold jK at e;split at e
 next dq os ts aF bw=>
  obtain⟨a,vs,ba,af,hx,_⟩:=l5 fq fC aF;refine⟨_,af,a,ba,_,rfl,hx,q9 hm,aE,E,O,F,ε,ts,fC,bw,λws aY H1 aP q=>⟨?_,aY,_,aP.cu,?_,e,λaG aa b6=>⟨C,rfl,k aG aa (aP.trans b6)⟩⟩⟩
  ·rw[jF,eJ,<- q.length,amh bw,aB]
  ·rw[jF];have bg:=fC.ext aP;obtain⟨iU,dU,rs⟩:=bg.val i _ (l2 aF);rw[af] at dU;cases dU;refine .cons ⟨rfl,vP rs _ _ λb U=>?_⟩ (LA q);obtain⟨o,e,_⟩:=rs.at U;show H1 b≠none;rw[e];exact λz=>by cases z
 next=>cases e
def aiW(fq:fm X.K c l8 ns)(hl:jO X.prog X.w X.K X.mg X.base l8 m C k n r)(au:cW k X.A)(a6:bQ X.dv o (fU i)){pl:Sem Bool}(hm:m∉ns:=by decide +kernel)(aB:1=n:=by rfl)
  (aX:eval (.Call (.Attribute o m apos) [] [] pos) X.env=(do
   let d0 <- eval o X.env
   standAt apos.atName
   let (f,first) <- holding [d0] (getMethod d0 m pl)
   callWith pos f first (dM pos (bo [] X.env)) (mG pos (mF [] X.env))):=by rfl):rV X C (.Call (.Attribute o m apos) [] [] pos) (jK c r i []):=by
 obtain⟨bN,fd,ps,F,gU,b⟩:=hl.ex;refine d5 (CU (bQ.dv a6) fq.cls gU F au b .nil (Lk (E:=λcl _ aa=>∃i4,cl=.ref i4/\r2 X i4 aa) λi4 aa ⟨DE,aO,q⟩=>by cases aO;exact q) aX) λσ H Q ⟨aE,E,O,F,ε,fC,e,k⟩=>?_;unfold jK at e;split at e
 next dq os ts aF bw=>
  cases bw
  obtain⟨a,vs,ba,af,hx,_⟩:=l5 fq fC aF;refine⟨_,af,a,ba,_,rfl,hx,q9 hm,⟨?_,F,_,fC.cu,?_,e,λaG aa b6=>⟨C,rfl,k aG aa b6⟩⟩⟩
  ·simp[aB]
  ·obtain⟨iU,dU,rs⟩:=fC.val i _ (l2 aF);rw[af] at dU;cases dU;refine .cons ⟨rfl,vP rs _ _ λb U=>?_⟩ .nil;obtain⟨o,e,_⟩:=rs.at U;show H b≠none;rw[e];exact λz=>by cases z
 next=>cases e
end
end
section
abbrev aV.sC(X:aV)(b':ag):aV:={X with A:=X.A.mark (some (.ref b')),calm:=false,c8:=λ_ _=>False}
section
variable {X:aV}{ai:List (ag×Obj)}{σ:bh.St}{H:ay}{s:aI}{b':ag}
def ako(ok:X.Ok)(b':ag):(aV.sC X b').Ok:=
 ⟨ok.mod,ok.kind,ok.glob,ok.blt,ok.above,ok.inj,ok.has,ok.r6,(λ(z:false=true)=>absurd z (by decide)),ok.frames,ok.oA,ok.uj,ok.bs,ok.m5,ok.sM,ok.sb,ok.kj,ok.oa⟩
def SU(I:Inv X ai σ H s)(b':ag):Inv (aV.sC X b') ai σ H s:=⟨ako I.ok b',I.os,I.bare,I.base,I.loc,I.cell,I.free,I.ki,I.pin,I.bO,I.len⟩
def aiG(ok:X.Ok)(I:Inv (aV.sC X b') ai σ H s):Inv X ai σ H s:=⟨ok,I.os,I.bare,I.base,I.loc,I.cell,I.free,I.ki,I.pin,I.bO,I.len⟩
end
def agJ{M:Model}{A:cH}{E:aj->aI->Prop}{K:a9}{s:aI}{x C eh:ag}{Q:Bool->aI->Prop}(X:K.In s.heap)(I:ExcAt x C s.heap)
  (af:PySem.W.typeIn K (.ref eh)=some (.type "type")) (ak:PySem.W.mroIn K eh (.type "BaseException")=some true) (bB:PySem.W.mroIn K C (.ref eh)=some true) (ax:(PySem.W.clsIn K eh).isSome=true) (a3:Q true s):
  bD M A (excMatches (.ref x) (.ref eh)) Q E s:=by
 obtain⟨cM,g,NX,t,os⟩:=s;have VM:=I.type (M:=M);have tW:=PySem.W.looks_typeIn (M:=M) X af;have bh:=PySem.W.looks_mroIn (M:=M) X ak;have VN:=PySem.W.looks_mroIn (M:=M) X bB;have VO:PySem.W.Looks M cM (isInstance (.ref eh) (.type "tuple")) false:=tW.andThen (PySem.W.Looks.of_pure tc_notTuple);have LT:PySem.W.Looks M cM (isType (.ref eh)) true:=by
  unfold PySem.W.clsIn at ax;split at ax
  ·rename_i bW d' alq Pp aF
   intro A' DU E' s' k q;unfold isType loadHead;exact a8 (wpAny_loadPart (k _ _ (X _ _ aF)) (cX q))
  ·cases ax
 have LE:PySem.W.Looks M cM (isExcClass (.ref eh)) true:=LT.andThen bh;unfold excMatches;refine a8 (VO.at ?_);rw[if_neg (by decide)];refine a8 (cX ?_);dsimp only;refine a8 ?_;simp only[List.forIn_cons,List.forIn_nil];refine a8 (a8 (LE.at ?_));rw[if_neg (by decide)];refine cX (cX ?_);refine a8 (VM.at (a8 ?_));refine a8 (a8 (VN.at ?_));rw[if_pos rfl];exact cX (cX (cX a3))
end
section
def vZ [cJ](H aa:ay):Prop:=∀F:ag->Prop,fE F H->Ext F H F aa
theorem vZ.laid [cJ]{H:ay}{p:ag}{o:ea}(aC:H p=none):vZ H (upd H p o):=λF d=>Ext.laid d aC
end
section
variable [cJ]
abbrev zi(P:cA)(w:bZ)(K:a9)(mg:Str->Option aj)(base:bE)(N:List Str)(qual:Str)(scope:Scope)(q:ag)(cd:aj)(cl:List (Str×ag))(A:cH)(outer:List Env)(s:aI)(H:ay)(E:eF):aV:=
 (qo P w K mg base N qual scope q cd cl A outer s H).j2 λe s'=>bD (bL P w) (A.deeper (mi qual scope s.heap.objs.size q cd cl)) (leaving (mi qual scope s.heap.objs.size q cd cl) e) (λ_ pS=>j' P w outer H s E e pS) (λbS pS=>j' P w outer H s E bS pS) s'
section
variable {P:cA}{w:bZ}{K:a9}{mg:Str->Option aj}{base:bE}{k:Nat}{q bW:ag}{N:List Str}{qual:Str}{scope:Scope}{cl:List (Str×ag)}{A:cH}{outer:List Env}{s:aI}{H:ay}{σ:bh.St}{C:ag}
def ahH{params:Arguments}{body:bj}{pm iv:aj}{r:f3}{E:eF}(aL:scope.kind=.function)(al_:scope.isCoroutine=false)(qw:scope.isGenerator=false)(kU:∀x∈scope.names,x.2≠.cell)
  (U:∀(A:cH) (outer:List Env) (s:aI) (H:ay) (E:eF),cW k (A.deeper (mi qual scope s.heap.objs.size q (.ref bW) cl))->rV (zi P w K mg base N qual scope q (.ref bW) cl A outer s H E) C body r)
  (bd:bindArgs (PySem.W.kla_fn "<lambda>" qual params body scope cl pm (.ref bW) iv) ⟨[],[]⟩=pure [])
  (au:cW (k+1) A) (b7:mU P w K mg base A outer s H) (a3:H q=some (ou (PySem.W.kla_obj "<lambda>" qual params body scope cl pm bW iv) q)) (ax:H bW=some (wd bW qual)) (U1:tS N scope cl σ H s.heap)
  (h:∃aE gj O F ε,cP K aE gj O F H ε σ/\r ε=true/\∀aG aa,Ext F H aG aa->E (.ref C) none aa):iG (bL P w) A (.call (.ref q) ⟨[],[]⟩) (nR (j' P w) outer P w H s (λ_ _=>False) E) s:=by
 have I2:s.heap.NoLimit:=b7.mod.nolimit.keeps λb o e=>(b7.bs b o e).1;refine PySem.W.kla_callFunE au.depth (b7.bO q _ a3).1 rfl al_ qw rfl (b7.bO bW _ ax).1 ?_;rw[bd];refine cX (wpAny_newFunctionEnv kU (λx hx=>by cases hx) (λfj oj qB=>⟨I2.fresh _ qB,?_⟩) aL);have aw:∀b o,s.heap.get? b=some o->fj.get? b=some o:=λb o e=>qB.extBut b o (eR (cY e)) (c2 _ e);show iG _ _ (.expr body (mi qual scope s.heap.objs.size q (.ref bW) cl)) _ _;refine PySem.W.kla_codeExpr ?_;have VG:Inv (qo P w K mg base N qual scope q (.ref bW) cl A outer s H) [] σ H {s with heap:=fj,toks:=s.toks+([]:List (Str×aj)).length}:=Rc aL au.hd b7 U1 oj aw;have I:Inv (zi P w K mg base N qual scope q (.ref bW) cl A outer s H E) [] σ H {s with heap:=fj,toks:=s.toks+([]:List (Str×aj)).length}:=VG.j2 _;obtain⟨aE,gj,O,F,ε,fC,h_,iP⟩:=h;refine e2 (U A outer s H E (au.deeper _) [] _ σ H (λ_ _=>False) I ⟨aE,gj,O,F,ε,fC,h_,λaG aa x ai Mp H1 s1 aD s2 a_ t=>?_⟩) (λu s' aA=>?_) λe s' aA=>aA
 ·exact e2 (R4 (X:=zi P w K mg base N qual scope q (.ref bW) cl A outer s H E) (E:=E) (Z:=λ_ _=>False) a_ t (iP aG aa x)) (λ_ _ z=>z) λ_ _ z=>z.elim
 ·obtain⟨_,_,_,_,z⟩:=aA;exact z.elim
end
noncomputable def alk(X:aV)(C:ag)(aa:ay):Prop:=∀(ai:List (ag×Obj)) (σ:bh.St) (H:ay) (s:aI) (e:aj) (s':aI),Inv X ai σ H s->DD X.prog X.w X.stack H s C aa e s'->X.c8 e s'
noncomputable def LS(X:aV)(C:ag)(i:Nat):TE:=λσ H _=>∃q,σ[i]?=some (some (.ref q))/\(∃(o:Obj) (fd:dV),H q=some (ou o q)/\o.data=.func fd) /\
 ∀(ai:List (ag×Obj)) (s:aI),Inv X ai σ H s->iG (bL X.prog X.w) X.A (.call (.ref q) ⟨[],[]⟩) (nR (j' X.prog X.w) X.stack X.prog X.w H s (λ_ _=>False) λcl _ aa=>∃i4,cl=.ref i4/\alk X i4 aa) s
def aip{X:aV}{C:ag}{i:Nat}{x:Str}{p pos:Pos}(a6:bQ X (.Name x p) (fU i)):bQ X (.Call (.Name x p) [] [] pos) (LS X C i):=by
 intro ai s σ H Q I ⟨q,a3,⟨o,fd,aF,Gl⟩,ax⟩;refine oJ (cN (a6 ai s σ H (λv H1=>v=.ref q/\H1=H) I ⟨.ref q,a3,rfl,rfl⟩) λv s1 ⟨y,H1,a_,bx,fy,h9⟩=>?_);subst fy;subst h9;cases bx;have bN:PySem.W.FnAt q s1.heap:=by
  have af:s1.heap.get? q=some o:=(a_.bO q _ aF).1;obtain⟨c,t_,FC,dK⟩:=o;cases Gl;exact⟨_,_,_,_,af⟩
 refine PySem.W.callWith_F0 bN ?_
 refine wpAny_call (al6 (ax ai s1 a_) λr s' a3=>?_)
 cases r with
|error e=>
  obtain⟨Uj,aa,dT,DE,aO,ok⟩:=a3;cases aO;exact ok ai σ H1 s1 e s' a_ dT
|ok dT=>
  cases dT with
  |ret u=>
   obtain⟨_,_,_,_,_,_,_,z⟩:=a3;exact z.elim
  |next=>exact ed a3
  |brk=>exact ed a3
  |cont=>exact ed a3
abbrev aV.bears(X:aV)(df:List (ag×Obj))(E:aj->aI->Prop):aV:={X with df:=df,c8:=E}
def ahN{X:aV}{ai:List (ag×Obj)}{σ:bh.St}{H:ay}{s:aI}(I:Inv X ai σ H s)(E:aj->aI->Prop):Inv (aV.bears X (X.df++ai) E) [] σ H s:=
 ⟨⟨I.ok.mod,I.ok.kind,I.ok.glob,I.ok.blt,I.ok.above,I.ok.inj,I.ok.has,I.ok.r6,I.ok.hd,I.ok.frames,I.ok.oA,I.ok.uj,I.ok.bs,I.ok.m5,I.ok.sM,I.ok.sb,I.ok.kj,I.ok.oa⟩,I.os,I.bare,I.base,I.loc,I.cell,I.free,I.ki,λp aC=>I.pin p (by simpa using aC),I.bO,I.len⟩
def QV{X:aV}{ai Bd:List (ag×Obj)}{σ:bh.St}{H:ay}{s:aI}{E:aj->aI->Prop}(ok:X.Ok)(I:Inv (aV.bears X (X.df++ai) E) Bd σ H s):Inv X ai σ H s:=
 ⟨ok,I.os,I.bare,I.base,I.loc,I.cell,I.free,I.ki,λp aC=>I.pin p (List.mem_append_left _ aC),I.bO,I.len⟩
end
section
variable [cJ]
noncomputable def vS(a:Str):T->Option T
|.str x=>if (reprText x).length<=10000/\a.length<=1000 then some (.str (Str.empty++a++reprText x)) else none
|.int i=>if i.natAbs<1000/\a.length<=1000 then some (.str (Str.empty++a++Str.ofString (toString i))) else none
|_=>none
def aj5{X:aV}{e:bj}{f:bz}{a:Str}{j:Nat}{nt fM p3:Pos}(he:e6 X e f):cO X (.JoinedStr [.Constant (.str a) j nt,.FormattedValue e 114 none fM] p3) (dX (vS a) f):=by
 intro ai s σ H Q I ⟨aE,E,O,F,ε,t,r,aD,k⟩;simp only[dX,cz] at aD;obtain⟨x,ex,aD⟩:=aD;have emp:∀y:Str,(Str.empty++y).length=y.length:=λy=>by rw[strLen_append];simp[Str.empty,Str.length]
 have app:∀y z:Str,(Str.empty++y++z).length=y.length+z.length:=λy z=>by rw[strLen_append,emp]
 refine wpAny_JoinedStr ?_
 refine Calls.Constant_str ⟨a,_,rfl,?_,?_⟩
 ·rw[emp,jg];unfold vS at aD;split at aD
  ·split at aD
   next h=>have:=h.2;omega
   next=>cases aD
  ·split at aD
   next h=>have:=h.2;omega
   next=>cases aD
  ·cases aD
 show bD _ _ (eval (.FormattedValue e 114 none fM) X.env) _ _ _
 refine wpAny_FormattedValue_repr ?_
 refine cN (he ai _ σ H (λv H1=>∃aY,Ext F H aY H1/\fR X.K O aY H1 x v) (I.tok _) ⟨aE,E,O,F,ε,x,r,ex,λv aG aa k_ bP=>⟨aG,k_,bP⟩⟩) λu s1 ⟨v,H1,a_,bP,aY,aP,aW⟩=>?_
 cases x with
|str y=>
  simp only[vS] at aD;split at aD
  next h=>
   cases aD
   have ev:=aW.str;subst ev;obtain⟨tk,rfl⟩:=bP;have af:=h.1;have ak:=h.2;refine wpAny_pyReprObj_str ?_ (by rw[jg];omega);have fin:∀(tt:Tok) (ss:aI),Inv X ai σ H1 ss->∃ta t,Value.str (reprText y) tt=Value.str ta t/\(Str.empty++a++ta).length<=cG/\Joins (bL X.prog X.w) X.A X.c8 [] (Str.empty++a++ta) (λout cU=>out.length<=cG/\h3 X ai σ Q (.str out cU.toks) {cU with toks:=cU.toks+1}) ss:=λtt ss Is=>by
    have aq:(Str.empty++a++reprText y).length<=cG:=by rw[app,jg];omega
    exact⟨_,_,rfl,aq,aq,⟨.str _,H1,Is.tok _,⟨_,rfl⟩,k _ aY H1 aP (by simp[Rep])⟩⟩
   exact wpAny_formatField_str (fin _ _ (a_.tok _)) (fin _ _ ((a_.tok _).tok _)) (by rw[jg];omega)
  next=>cases aD
|int i=>
  simp only[vS] at aD;split at aD
  next h=>
   cases aD
   have ev:=aW.int;subst ev;obtain⟨tk,rfl⟩:=bP;have af:=h.1;have ak:=h.2;have hd:i.natAbs.log2<1920:=by
    by_cases h0:i.natAbs=0
    ·rw[h0];decide
    ·exact iE ((Nat.log2_lt h0).mpr (show i.natAbs<2 ^ 10 by omega)) (by decide)
   have ZT:(Str.ofString (toString i)).length<=4300:=by
    have e:=int_text_length_le10 (k:=3) (by decide) (show i.natAbs<10 ^ 3 from af);rw[PySem.ofString_length];omega
   refine wpAny_pyReprObj_gives (typeIs_int _ i tk) PySem.F.slot_int_repr PySem.F.entry_int_repr (PySem.F.args_int_repr_1 _) (gives_int_repr i tk hd) ?_ rfl (by rw[jg];exact jd ZT (by omega))
   have fin:∀(tt:Tok) (ss:aI),Inv X ai σ H1 ss->∃ta t,Value.str (Str.ofString (toString i)) tt=Value.str ta t/\(Str.empty++a++ta).length<=cG/\Joins (bL X.prog X.w) X.A X.c8 [] (Str.empty++a++ta) (λout cU=>out.length<=cG/\h3 X ai σ Q (.str out cU.toks) {cU with toks:=cU.toks+1}) ss:=λtt ss Is=>by
    have aq:(Str.empty++a++Str.ofString (toString i)).length<=cG:=by rw[app,jg];omega
    exact⟨_,_,rfl,aq,aq,⟨.str _,H1,Is.tok _,⟨_,rfl⟩,k _ aY H1 aP (by simp[Rep])⟩⟩
   exact wpAny_formatField_str (fin _ _ (a_.tok _)) (fin _ _ ((a_.tok _).tok _)) (by rw[jg];omega)
  next=>cases aD
|none=>cases aD
|bool b=>cases aD
|tuple b=>cases aD
|list b=>cases aD
|dict b=>cases aD
end
section
def L8(K:a9)(eh:ag):Bool:=(PySem.W.typeIn K (.ref eh)==some (.type "type")) && (PySem.W.mroIn K eh (.type "BaseException")==some true) && (PySem.W.clsIn K eh).isSome
section
variable [cJ]{X:aV}{C eh zj cw cd dN:ag}{j:Nat}{pos p nt:Pos}
def alf{e:bj}:rV X C e uD:=λai s σ H Q I h=>by
 obtain⟨_,_,_,_,_,_,e,_⟩:=h;cases e
end
end
section
variable [cJ]
mutual
noncomputable def ia:T->T->Option Bool
|.int a,.int b=>some (decide (b<a))
|.tuple xs,.tuple ys=>sI xs ys
|_,_=>none
noncomputable def sI:List T->List T->Option Bool
| [],[]=>some false
| [],_::_=>some false
|_::_,[]=>some true
|x::xs,y::ys=>if je x y then sI xs ys else ia x y
end
noncomputable def ME(A:cH)(s:aI)(y x:aj)(b:Bool):Prop:=
 ∀(prog:cA) (w:bZ) (E:aj->aI->Prop) (Q:aj->aI->Prop),Q (.bool b) s->bD (bL prog w) A (richCompare .Gt y x) Q E s
inductive GoodG(A:cH)(s:aI)(fin:Bool):List (aj×aj)->Bool->Prop
|nil:GoodG A s fin [] fin
|eq {y x:aj} {r:List (aj×aj)} {b:Bool}:SeqAt.EqAt A s y x true->GoodG A s fin r b->GoodG A s fin ((y,x)::r) b
|lt {y x:aj} {r:List (aj×aj)} {b:Bool}:SeqAt.EqAt A s y x false->ME A s y x b->GoodG A s fin ((y,x)::r) b
section
open PySem.SeqAt
open PySem.AutoSeq1 (wpAny_loadPart')
open PySem.MeetsSeq PySem.MeetsSeq2 PySem.MeetsSeq3
def agk(l b:ag)(items pN:Array aj)(n gd:Nat)(dd mf:Option ag)(dK hS:Array (Option aj))(z:Bool):
  Meets (Builtin.«tuple.__gt__» ⟨[.ref l,.ref b],[]⟩)
   (λA R s=>s.heap.get? l=some {cls:=.type "tuple",dict:=dd,data:=.seq items n,slots:=dK}/\s.heap.get? b=some {cls:=.type "tuple",dict:=mf,data:=.seq pN gd,slots:=hS} /\
    GoodG A.in1 s (decide (pN.size<items.size)) (items.toList.zip pN.toList) z/\R (.ok (.ret (.bool z))) s):=
 .of_wp λprog w A R s h=>by
  obtain⟨aC,g,d,tk,os⟩:=s;obtain⟨aB,U,bl,h⟩:=h;have f2:=AutoSeq1.sub_tuple_tuple
  wp_walk using wpAny_loadPart' aB,wpAny_loadPart' U,wpAny_forIn_list _ (λrest b s'=>b.1=none/\s'=⟨aC,g,d,tk,os⟩/\GoodG A.in1 ⟨aC,g,d,tk,os⟩ (decide (pN.size<items.size)) rest z) _
  case turn=>
   rintro⟨y,x⟩ rest b s' ⟨i8,rfl,jr⟩;cases jr with
   |eq he jr=>
    refine a8 (he prog w _ _ ?_)
    wp_walk
    exact⟨rfl,rfl,jr⟩
   |lt he fJ=>
    refine a8 (he prog w _ _ ?_)
    have GF:=fJ prog w
    wp_walk using GF
    exact⟨_,rfl,h⟩
  case fin=>
   rintro⟨cf,ct⟩ s' ⟨i8,rfl,jr⟩;simp only at i8;subst i8;cases jr
   wp_walk
   exact⟨_,rfl,by simpa [Builtin.Tuple.tupleCompareSizes] using h⟩
  case h=>
   exact⟨rfl,rfl,bl⟩
mutual
theorem aiI:∀(pB db:T) (A:cH) (s:aI) (a b:aj) (as bs:List ag) (r:Bool),Reads s.heap a pB as->Reads s.heap b db bs->pB.canLay0=true->db.canLay0=true->A.units+min pB.depth db.depth<cLine->ia pB db=some r->ME A s a b r
|.int i,.int j,A,s,_,_,_,_,r,.int _ t,.int _ u,_,_,_,e=>by
  unfold ia at e;cases e;exact λprog w E Q q=>(PyProof.Rows.gt_int q:bD (bL prog w) A (iF .Gt (.int i t) (.int j u)) Q E s)
|.tuple xs,.tuple ys,A,s,_,_,_,_,r,.tuple (a:=l) (o:=o) (vs:=vs) (n:=n) af ak bB c1,.tuple (a:=ot) (o:=o') (vs:=fs) (n:=w5) k1 k2 k3 lI,av,U,bM,e=>by
  unfold ia at e;simp only[PyData.canLay0] at av U;simp only[lb] at bM;have jr:=goodG_reads xs ys A.in1 s vs.toList fs.toList _ _ r c1 lI av U (room_in bM) e;obtain⟨cls,dd,data,dK⟩:=o;obtain⟨Fy,mf,data2,hS⟩:=o';simp only at ak bB k2 k3;subst ak bB k2 k3;rw[uX,uX] at jr;exact λprog w E Q q=>richCompare_meets_room (op:=.Gt) ⟨_,af,rfl⟩ ⟨_,k1,rfl⟩ PySem.F.slot_tuple_gt PySem.F.entry_tuple_gt (PySem.F.args_tuple_gt_2 _ _) (agk l ot vs fs n w5 dd mf dK hS r)
   ⟨af,k1,jr,show Value.bool r≠Value.notImplemented/\Q (.bool r) s from ⟨(λx=>nomatch x),q⟩⟩ (by omega)
|.none,_,_,_,_,_,_,_,_,_,_,_,_,_,e=>by simp[ia] at e
|.bool _,_,_,_,_,_,_,_,_,_,_,_,_,_,e=>by simp[ia] at e
|.str _,_,_,_,_,_,_,_,_,_,_,_,_,_,e=>by simp[ia] at e
|.list _,_,_,_,_,_,_,_,_,_,_,_,_,_,e=>by simp[ia] at e
|.dict _,_,_,_,_,_,_,_,_,_,_,_,_,_,e=>by simp[ia] at e
|.int _,.none,_,_,_,_,_,_,_,_,_,_,_,_,e=>by simp[ia] at e
|.int _,.bool _,_,_,_,_,_,_,_,_,_,_,_,_,e=>by simp[ia] at e
|.int _,.str _,_,_,_,_,_,_,_,_,_,_,_,_,e=>by simp[ia] at e
|.int _,.list _,_,_,_,_,_,_,_,_,_,_,_,_,e=>by simp[ia] at e
|.int _,.dict _,_,_,_,_,_,_,_,_,_,_,_,_,e=>by simp[ia] at e
|.int _,.tuple _,_,_,_,_,_,_,_,_,_,_,_,_,e=>by simp[ia] at e
|.tuple _,.none,_,_,_,_,_,_,_,_,_,_,_,_,e=>by simp[ia] at e
|.tuple _,.bool _,_,_,_,_,_,_,_,_,_,_,_,_,e=>by simp[ia] at e
|.tuple _,.str _,_,_,_,_,_,_,_,_,_,_,_,_,e=>by simp[ia] at e
|.tuple _,.list _,_,_,_,_,_,_,_,_,_,_,_,_,e=>by simp[ia] at e
|.tuple _,.dict _,_,_,_,_,_,_,_,_,_,_,_,_,e=>by simp[ia] at e
|.tuple _,.int _,_,_,_,_,_,_,_,_,_,_,_,_,e=>by simp[ia] at e
theorem goodG_reads:∀(xs ys:List T) (A:cH) (s:aI) (vs ws:List aj) (as bs:List ag) (r:Bool),ReadsAll s.heap vs xs as->ReadsAll s.heap ws ys bs->j5 xs=true->j5 ys=true->A.units+min (j4 xs) (j4 ys)<cLine->sI xs ys=some r->GoodG A s (decide (ws.length<vs.length)) (vs.zip ws) r
| [],[],A,s,_,_,_,_,r,.nil,.nil,_,_,_,e=>by
  unfold sI at e;cases e;exact .nil
| [],_::_,A,s,_,_,_,_,r,.nil,.cons _ _,_,_,_,e=>by
  unfold sI at e;cases e;exact GoodG.nil
|_::_,[],A,s,_,_,_,_,r,.cons _ _,.nil,_,_,_,e=>by
  unfold sI at e;cases e;exact GoodG.nil
|x::xs,y::ys,A,s,_,_,_,_,r,.cons bg b5,.cons aM bb,av,U,bM,e=>by
  simp only[j5,gO] at av U;simp only[j4] at bM;unfold sI at e;have he:=eqAt_reads x y A s _ _ _ _ bg aM av.1 U.1 (room_head bM);split at e
  next h=>
   rw[h] at he;have b8:=goodG_reads xs ys A s _ _ _ _ r b5 bb av.2 U.2 (room_tail bM) e;rw[q2];simp only[eJ,Nat.add_lt_add_iff_right];exact .eq he b8
  next h=>
   rw[Bool.not_eq_true] at h;rw[h] at he;rw[q2];exact .lt he (aiI x y A s _ _ _ _ r bg aM av.1 U.1 (room_head bM) e)
end
end
end
section
variable [cJ]
def Jn:V->List V->ay->dj->Prop:=λx vs H Q=>∃(l:ag) (ws:List V) (y:V),x=.ref l/\vs=[]/\H l=some (.lst (ws++[y]))/\Q y (upd H l (.lst ws))
def TL{X:aV}:v5 X "list.pop" Jn:=by
 intro ai s σ H x vs v us Q I aW bP h;obtain⟨l,ws,y,rfl,rfl,eY,q⟩:=h;cases aW;cases bP;obtain⟨z,its,n,r,aB,e⟩:=I.AY eY;have aq:its.length=ws.length+1:=by
  have:=r.length;simp only[mD,eJ,lg] at this;omega
 obtain⟨u,bM,c9⟩:=r.get (i:=ws.length) (x:=y) (by simp);have sd:(ws++[y]).eraseIdx ws.length=ws:=by
  rw[List.eraseIdx_append_of_length_le (el _)];simp
 refine call_meets PySem.F.slot_list_pop ⟨_,e,rfl⟩ PySem.F.entry_list_pop (PySem.F.args_list_pop_1 _) (PySem.MeetsSeq.list_pop_last l its.toArray n u (by
  rw[eQ,aq,Nat.add_sub_cancel];simpa using bM) (by rw[eQ,<- aB];exact z)) ⟨e,?_⟩
 have bP:=r.eraseIdx ws.length;rw[sd] at bP;refine⟨y,_,I.AX (t':=s.toks) (its':=its.eraseIdx ws.length) eY e ?_ bP (by
  have:=r.length;simp only[mD,eJ,lg] at this z;omega),c9,q⟩
 unfold Array.eraseIdxIfInBounds;rw[dif_pos (by rw[eQ];omega)];simp[aq]
end
end D
end
section
namespace D
open PySem
def L_(x:Str):Bool:=x.cps.toList.all λc=>decide (c<128)
def Ue(i:Int):Bool:=decide (i.natAbs.log2<1920)
def qV(i:Int):Str:=Str.ofString (toString i)
end D
end
section
namespace D
open PySem PySem.Spec PyProof.Rows bh
section
variable [cJ]
def mj(i:Nat):bA:=λε=>match ε[i]? with
|some (some (.own ts))=>some (.bK (ε.set i (some (.ae (.list ts)))))
|_=>none
end
section
variable [cJ]
noncomputable def o5:List T->Option T
| [.tuple ts]=>if (PyData.tuple ts).showable && !(PyData.tuple ts).hasDict && decide ((PyData.tuple ts).depth<=60) && decide ((PyData.tuple ts).shown.length<=1000000) then some (.str (PyData.tuple ts).shown) else none
|_=>none
section
variable {X:aV}{a:bj}{f:bz}{p pos:Pos}
def ajF(Gq:X.A.guards=some [])(bM:X.A.units+62<cLine):lq X (.builtin "repr") (λxs H Q=>∃(l:ag) (t:T) (F:ag->Prop),xs=[.ref l]/\Rep X.K F H t (.ref l)/\t.showable=true/\t.hasDict=false/\t.depth<=60/\t.shown.length<=1000000/\Q (.str t.shown) H):=by
 intro ai s σ H xs us Q I r h;obtain⟨l,t,F,rfl,d4,af,ak,bB,c1,q⟩:=h;obtain⟨u,rfl,aW⟩:=vals1 r;cases aW;obtain⟨as,jz⟩:=Lj I d4 (show RelV (.ref l) (.ref l) from rfl);refine PySem.repr_of_reads' jz af (λz=>by rw[ak] at z;cases z) Gq (by omega) (λ_ _ e=>e) (λh' u tk keep=>?_) (by rw[jg];omega);exact⟨.str t.shown,H,I.kept (t':=tk) keep,⟨u,rfl⟩,q⟩
def ai6(Gq:X.A.guards=some [])(bM:X.A.units+62<cLine)(hm:X.mg "repr"=none){e:bj}{es:List bj}{ar:List bz}(av:qg X (e::es) ar)(bl:ei X "repr":=by rfl)(he:bo (e::es) X.env=(false,eval e X.env)::bo es X.env:=by rfl)(hpl:(dM pos (bo es X.env)).any (·.1)=false:=by rfl):
  cO X (.Call (.Name "repr" p) (e::es) [] pos) (b9 o5 ar):=d5 (CV (ajF Gq bM) bl hm (by decide +kernel) av (he:=he) (hpl:=hpl)) (C3 (by
 intro O F H ts t vs Q d q e k;unfold o5 at e;split at e
 next us=>
  split at e
  next aq=>
   cases e
   simp only[gO,Bool.not_eq_true',decide_eq_true_eq] at aq;cases q with
   |cons aM bb=>
    cases bb
    rcases aM with aM|⟨ts,a,vs,af,_⟩
    ·obtain⟨a,ws,rfl,aA,au⟩:=fR.tup (O:=O) (.inl aM);exact⟨a,.tuple us,F,rfl,aM,aq.1.1.1,aq.1.1.2,aq.1.2,aq.2,k _ F H (Ext.refl d) (by simp[Rep])⟩
    ·cases af
  next=>cases e
 next=>cases e))
def Tr{k:Nat}(au:cW k X.A)(hm:X.mg "repr"=none){e:bj}{es:List bj}{ar:List bz}(av:qg X (e::es) ar)(bl:ei X "repr":=by rfl)(he:bo (e::es) X.env=(false,eval e X.env)::bo es X.env:=by rfl)(hpl:(dM pos (bo es X.env)).any (·.1)=false:=by rfl):
  cO X (.Call (.Name "repr" p) (e::es) [] pos) (b9 o5 ar):=ai6 au.lE (by have:=au.un;omega) hm av bl he hpl
end
end
section
def aiO{X:aV}{ai:List (ag×Obj)}{σ:bh.St}{H aa:ay}{s s':aI}{C eh:ag}{e:aj}{m6:Str}{np pos:Pos}{n5:Stmt}{oB:List Stmt}{ts:fT}{D:Ends}
  (I:Inv X ai σ H s) (dT:DD X.prog X.w X.stack H s C aa e s') (hm:X.mg m6=some (.ref eh))
  (af:PySem.W.typeIn X.K (.ref eh)=some (.type "type")) (ak:PySem.W.mroIn X.K eh (.type "BaseException")=some true) (bB:PySem.W.mroIn X.K C (.ref eh)=some true) (ax:(PySem.W.clsIn X.K eh).isSome=true)
  (aA:∀b',fF (aV.sC X b') (n5::oB) ts) (k:ts {bK:=λtQ bk=>D.bK tQ bk,d4:=λ_ _=>False} σ aa)
  (gJ:X.stack=X.env::X.outer) (hf:X.env.frame=some X.env.locals) (bl:ei X m6) (gc:(m6==("__debug__":Str))=false):
  bD (bL X.prog X.w) X.A (noteFrame e X.env) (λ_ jc=>bD (bL X.prog X.w) X.A (setFlight e none) (λ_ oC=>bD (bL X.prog X.w) X.A (handleBy e X.env [.ExceptHandler (some (.Name m6 np)) none (n5::oB) pos]) (bh.pn X ai D) X.c8 oC) X.c8 jc) X.c8 s':=by
 obtain⟨b',ma,B,rfl,dT⟩:=dT;have Om:=dT.wj;have kl:=I.ok.frames;rw[gJ] at Om kl;refine wpAny_looks_onW kl hf Om λuz ZG aeR=>?_;refine wpAny_landsW ZG λhy F2 aeS=>?_;have MN:s'.heap.UpToSlots hy:=aeR.trans aeS;obtain⟨afx,Z3⟩:=dT.on F2.1 MN;have bK:∀b:ag,b∉([]:List ag):=λb z=>absurd z (by simp);have MH:Inv X ai σ aa {s' with heap:=hy}:=I.MW dT.os afx Z3 dT.bare λb U=>absurd U (bK b);have WX:ExcAt b' C hy:=by
  obtain⟨w9,vs,aM,bb,dg,_⟩:=F2.first;exact⟨w9,vs,aM,bb,dg⟩
 have ng:aa b'=none:=by
  cases q:aa b' with
  |none=>rfl
  |some u=>
   obtain⟨o,aF⟩:∃o,B.get? b'=some o:=by
    have z:=dT.bO b' u q;have lt:=z.lt;have:∀(u:ea),hj X.prog X.w aa B b' u->∃o,B.get? b'=some o:=by
     intro u
     induction u with
     |lst xs=>rintro⟨_,_,_,_,e⟩;exact⟨_,e⟩
     |tup xs=>rintro⟨_,_,_,o,e,_⟩;exact⟨_,e⟩
     |fo kvs=>rintro⟨_,_,_,_,o,_,_,e,_⟩;exact⟨_,e⟩
     |me kvs=>rintro⟨_,_,_,_,o,_,_,e,_⟩;exact⟨_,e⟩
     |set S n=>rintro⟨o,_,_,_,e,_⟩;exact⟨_,e⟩
     |ins C ba ar=>rintro⟨_,_,_,e,_⟩;exact⟨_,e⟩
     |own x=>rintro⟨o,e⟩;exact⟨_,e⟩
     |fO ar=>rintro⟨_,e,_⟩;obtain⟨o,_,_,e,_⟩:=e;exact⟨_,e⟩
     |met f x=>intro e;exact⟨_,e⟩
     |kY lo bc=>rintro⟨_,_,_,e⟩;exact⟨_,e⟩
     |mj o u b8=>rintro⟨e,_⟩;exact⟨_,e⟩
     |hV ps=>intro e;exact⟨_,e⟩
     |ext nP=>rintro⟨_,⟨o,e⟩,_⟩;exact⟨_,e⟩
    exact this u z
   rw[dT.wj.2.1] at aF;cases aF
 refine wpAny_handleBy_cons (codeAny_handlers_test (tH (X:=aV.sC X b') (SU MH b') bl hm ?_ gc)) (by intro q;cases q)
 refine agJ MH.ju WX af ak bB ax ?_
 refine codeAny_handlers_suite ?_
 refine lands_againW F2 λOJ Y4 aeT=>?_
 have VZ:s'.heap.UpToSlots OJ:=MN.trans aeT;obtain⟨afy,Z4⟩:=dT.on Y4.1 VZ;have VK:Inv X ai σ aa {s' with heap:=OJ}:=I.MW dT.os afy Z4 dT.bare λb U=>absurd U (bK b);refine e2 (aA b' ai _ _ _ _ (SU VK b') k) (λf eo uo=>?_) λ_ _ z=>z.elim;cases f with
|next=>
  obtain⟨tQ,bk,DK,nu⟩:=uo;exact⟨tQ,bk,aiG I.ok DK,nu⟩
|brk=>obtain⟨_,_,_,nu⟩:=uo;exact ed nu
|cont=>obtain⟨_,_,_,nu⟩:=uo;exact ed nu
|ret u=>obtain⟨_,_,_,_,_,nu⟩:=uo;exact ed nu
noncomputable def Dr(K:a9)(eh C:ag):Bool:=
 (PySem.W.clsIn K C).isSome && (j3 K (.ref C) "__getattribute__"==some (some (.builtin "BaseException.__getattribute__"))) && (j3 K (.ref C) "__getattr__"==some none)
 && (j3 K (.ref C) "__class__"==some (some (.builtin "object.__class__"))) && (PySem.W.specialIn K (.builtin "object.__class__") "__get__"==some (some (.builtin "getset_descriptor.__get__")))
 && (PySem.W.takesIn K (.builtin "object.__class__")==some true) && (PySem.W.mroIn K C (.type "object")==some true) && (PySem.W.mroIn K C (.type "BaseException")==some true)
 && (PySem.W.mroIn K C (.ref eh)==some true) && PySem.W.excIn K C EF "ValueError.__new__"
structure nW(K:a9)(eh C:ag):Prop where
 ok:U2 K C
 mro:PySem.W.mroIn K C (.ref eh)=some true
 new:PySem.W.excIn K C EF "ValueError.__new__"=true
def SI{K:a9}{eh C:ag}(h:Dr K eh C=true):nW K eh C:=by
 unfold Dr at h;simp only[gO,beq_iff_eq] at h;obtain⟨⟨⟨⟨⟨⟨⟨⟨⟨af,ak⟩,bB⟩,c1⟩,gT⟩,pG⟩,Y'⟩,uo⟩,Za⟩,Y_⟩:=h;exact⟨⟨af,ak,bB,c1,gT,pG,Y',uo⟩,Za,Y_⟩
structure al7(K:a9)(mg:Str->Option aj)(eh zj cd:ag):Prop where
 door:mg "DoorError"=some (.ref eh)
 O5:mg "NoZone"=some (.ref zj)
 a':mg "NoDeed"=some (.ref cd)
 ok:L8 K eh=true
variable [cJ]
noncomputable def C6(X:aV)(C:ag):fT:=λD σ H=>∃q,σ.length=2/\σ[0]?=some (some (.ref q))/\(∃(o:Obj) (fd:dV),H q=some (ou o q)/\o.data=.func fd)/\∃rK:ay->Prop,
 (∀(ai:List (ag×Obj)) (s:aI),Inv X ai σ H s->iG (bL X.prog X.w) X.A (.call (.ref q) ⟨[],[]⟩) (nR (j' X.prog X.w) X.stack X.prog X.w H s (λ_ _=>False) λcl _ aa=>cl=.ref C/\rK aa) s) /\
 ∀aa,rK aa->∀nV p,vZ aa nV->nV p=some (.tup [.str "refused",.e0])->D.d4 (.ref p) nV
def aim{X:aV}{C eh:ag}{hP:Str}{body oB:List Stmt}{n5:Stmt}{np pos wM Jq sN:Pos}
  (pI:∀(df:List (ag×Obj)) (E:aj->aI->Prop),fF (aV.bears X df E) body (uJ (uL (mP (lP (.str "told")) (mP (LS (aV.bears X df E) C 0) qW))) (tP 1)))
  (GH:∀b',fF (aV.sC X b') (n5::oB) (uJ (uL (mP (lP (.str "refused")) (mP (lP .e0) qW))) (tP 1)))
  (hm:X.mg "DoorError"=some (.ref eh)) (af:PySem.W.typeIn X.K (.ref eh)=some (.type "type")) (ak:PySem.W.mroIn X.K eh (.type "BaseException")=some true) (bB:PySem.W.mroIn X.K C (.ref eh)=some true) (ax:(PySem.W.clsIn X.K eh).isSome=true)
  (GD:bQ X (.Name hP sN) (fU 1))
  (hlen:X.N.length=2) (gJ:X.stack=X.env::X.outer) (hf:X.env.frame=some X.env.locals) (bl:ei X "DoorError"):
  fF X [.Try body [.ExceptHandler (some (.Name "DoorError" np)) none (n5::oB) wM] [] [] pos,.Return (some (.Name hP sN)) Jq] (C6 X C):=by
 have _c:hG X (.Try body [.ExceptHandler (some (.Name "DoorError" np)) none (n5::oB) wM] [] [] pos) (λD σ H=>∃q,σ.length=2/\σ[0]?=some (some (.ref q))/\(∃(o:Obj) (fd:dV),H q=some (ou o q)/\o.data=.func fd)/\∃rK:ay->Prop,
   (∀(ai:List (ag×Obj)) (s:aI),Inv X ai σ H s->iG (bL X.prog X.w) X.A (.call (.ref q) ⟨[],[]⟩) (nR (j' X.prog X.w) X.stack X.prog X.w H s (λ_ _=>False) λcl _ aa=>cl=.ref C/\rK aa) s) /\
   ∀aa,rK aa->∀nV p Mo,vZ aa nV->nV p=some (.tup [.str "refused",.e0])->Mo[1]?=some (some (.ref p))->D.bK Mo nV):=by
  intro ai s σ H D I ⟨q,aB,a3,Gx,rK,Gf,aL⟩;refine wpAny_Try_except ?_
  let E':aj->aI->Prop:=λe cU=>bD (bL X.prog X.w) X.A (noteFrame e X.env) (λ_ jc=>bD (bL X.prog X.w) X.A (setFlight e none) (λ_ oC=>bD (bL X.prog X.w) X.A (handleBy e X.env [.ExceptHandler (some (.Name "DoorError" np)) none (n5::oB) wM]) (bh.pn X ai D) X.c8 oC) X.c8 jc) X.c8 cU
  refine e2 (pI (X.df++ai) E' [] s σ H {bK:=λ_ _=>False,d4:=λ_ _=>False} (ahN I E') ⟨q,a3,Gx,λBd s2 cB=>?_⟩) (λf s1 aA=>?_) λe s1 he=>he
  ·refine al6 (Gf (ai) s2 (QV I.ok cB)) λr s' au=>?_
   cases r with
   |ok dT=>
    cases dT with
    |ret u=>exact au
    |next=>exact au
    |brk=>exact au
    |cont=>exact au
   |error e=>
    obtain⟨Uj,aa,dT,aD,Jd⟩:=au;cases aD;refine⟨C,aa,dT,C,rfl,λalP l7 gk s3 fw s4 eL Y3=>?_⟩;have J:=QV I.ok eL;have w2:l7.length=2:=by rw[J.len,hlen]
    refine aiO J Y3 hm af ak bB ax GH ?_ gJ hf bl (by decide)
    refine⟨by show 2<=cG;decide,λp aC=>?_⟩
    exact aL aa Jd _ p _ (vZ.laid aC) er (List.getElem?_set_self (by omega))
  ·cases f with
   |next=>obtain⟨_,_,_,z⟩:=aA;exact ed z
   |brk=>obtain⟨_,_,_,z⟩:=aA;exact ed z
   |cont=>obtain⟨_,_,_,z⟩:=aA;exact ed z
   |ret u=>obtain⟨_,_,_,_,_,z⟩:=aA;exact ed z
 refine yv (yl _c (vv (tK GD))) λD σ H ⟨q,aB,a3,Gx,rK,Gf,aL⟩=>?_
 exact⟨q,aB,a3,Gx,rK,Gf,λaa Jd nV p Mo g aC dU=>⟨_,dU,aL aa Jd nV p g aC⟩⟩
def ajR{X:aV}{C eh zj cd:ag}{hP:Str}{body oB:List Stmt}{n5:Stmt}{np pos wM Jq sN:Pos}(N:al7 X.K X.mg eh zj cd)(R:nW X.K eh C)
  (pI:∀(df:List (ag×Obj)) (E:aj->aI->Prop),fF (aV.bears X df E) body (uJ (uL (mP (lP (.str "told")) (mP (LS (aV.bears X df E) C 0) qW))) (tP 1)))
  (GH:∀b',fF (aV.sC X b') (n5::oB) (uJ (uL (mP (lP (.str "refused")) (mP (lP .e0) qW))) (tP 1))) (GD:bQ X (.Name hP sN) (fU 1))
  (hlen:X.N.length=2:=by rfl) (gJ:X.stack=X.env::X.outer:=by rfl) (hf:X.env.frame=some X.env.locals:=by rfl) (bl:ei X "DoorError":=by rfl):
  fF X [.Try body [.ExceptHandler (some (.Name "DoorError" np)) none (n5::oB) wM] [] [] pos,.Return (some (.Name hP sN)) Jq] (C6 X C):=by
 have ok:=N.ok;unfold L8 at ok;simp only[gO,beq_iff_eq] at ok;obtain⟨⟨af,ak⟩,bB⟩:=ok;exact aim pI GH N.door af ak R.mro bB GD hlen gJ hf bl
def mO(f:g6)(r:f3):g6:=λε=>if r ε=true then some (.tuple [.str "refused",.none],ε) else Ds f ε
def yo{X:aV}{k:Nat}{x:Str}{st:Stmt}{bN:ag}{fd:dV}{lT ny:Str}{params:Arguments}{body:bj}{scope:Scope}{jv p pos:Pos}{c m2 C:ag}{f:g6}{r:f3}
  (F:alX X.K x x st bN fd) (S:cK [lT,ny] [lT] (bt st)) (bd:Binds X.K fd [lT] []) (hm:X.mg x=some (.ref bN))
  (aX:∀(bu:aj) (A:cH) (outer:List Env) (s:aI) (H:ay),fF (eN di X.prog X.w X.K X.mg X.base [lT,ny] x (bt st) bN bu A outer s H jm).dv (fc st) (Mc (eN di X.prog X.w X.K X.mg X.base [lT,ny] x (bt st) bN bu A outer s H jm).dv))
  (aq:∀(bu:aj) (A:cH) (outer:List Env) (s:aI) (H:ay),fF (eN di X.prog X.w X.K X.mg X.base [lT,ny] x (bt st) bN bu A outer s H jm).dv (fc st) (C6 (eN di X.prog X.w X.K X.mg X.base [lT,ny] x (bt st) bN bu A outer s H jm).dv C))
  (sm:X.env.code=.ref c) (eZ:u4 X.K c m2=true) (iw:nQ X.mg X.base) {sQ:Str} (nk:(m2,sQ)∈cJ.c6) (qD:∀p∈cJ.c6,p.1=m2->p.2=sQ)
  (au:cW (k+2) X.A)
  (U:∀(q bW:ag) (cl:List (Str×ag)) (A:cH) (outer:List Env) (s:aI) (H:ay),cW k (A.deeper (mi (X.env.qual++"<lambda>") scope s.heap.objs.size q (.ref bW) cl))->kO (qo X.prog X.w X.K X.mg X.base X.N (X.env.qual++"<lambda>") scope q (.ref bW) cl A outer s H) body f)
  (Zw:∀(q bW:ag) (cl:List (Str×ag)) (A:cH) (outer:List Env) (s:aI) (H:ay) (E:eF),cW k (A.deeper (mi (X.env.qual++"<lambda>") scope s.heap.objs.size q (.ref bW) cl))->rV (zi X.prog X.w X.K X.mg X.base X.N (X.env.qual++"<lambda>") scope q (.ref bW) cl A outer s H E) C body r)
  (Ae:(decide (scope.kind=.function) && !scope.isCoroutine && !scope.isGenerator && scope.names.all λy=>decide (y.2≠.cell) && decide (y.2≠.local))=true:=by rfl)
  (kl:(scope.names.all λy=>decide (y.2≠.free) || decide (X.env.scope.names.lookup y.1=some .cell))=true:=by rfl)
  (zf:∀(cl:List (Str×ag)) (pm:aj) (bW:ag) (iv:aj),bindArgs (PySem.W.kla_fn "<lambda>" (X.env.qual++"<lambda>") params body scope cl pm (.ref bW) iv) ⟨[],[]⟩=pure []:=by intros;rfl)
  (bl:ei X x:=by rfl) (gc:(x==("__debug__":Str))=false:=by decide) (ur:defaultsOf params X.env=([],[]):=by rfl)
  (he:bo [.Lambda params body scope jv] X.env=(false,eval (.Lambda params body scope jv) X.env)::bo [] X.env:=by rfl) (GC:X.env.qual++"<lambda>"=sQ:=by rfl):
  kO X (.Call (.Name x p) [.Lambda params body scope jv] [] pos) (mO f r):=by
 subst GC;simp only[gO,Bool.not_eq_true',decide_eq_true_eq,List.all_eq_true] at Ae;obtain⟨⟨⟨aL,al_⟩,qw⟩,kU⟩:=Ae;simp only[List.all_eq_true,Bool.or_eq_true,decide_eq_true_eq] at kl;have Gp:∀y∈scope.names,y.2=.free->X.env.scope.names.lookup y.1=some .cell:=λy a7 hf=>by
  rcases kl y a7 with z|z
  ·exact absurd hf z
  ·exact z
 intro ai s σ H Q I ⟨aE,E,O,aG,ε,t,ε',fC,e,bV⟩;have Mx:=PySem.W.codeHd_of_K I.ok.mod.oq eZ;unfold mO at e;by_cases h_:r ε=true
 case neg=>
  rw[if_neg h_] at e;exact ajO F S bd hm aX sm Mx iw nk qD aL al_ qw (λy a7=>kU y a7) Gp zf au U bl gc ur he ai s σ H Q I ⟨aE,E,O,aG,ε,t,ε',fC,e,bV⟩
 rw[if_pos h_] at e;cases e;refine oJ (tH I bl hm ?_ gc);refine PySem.W.callWith_K (h₀:=X.base) I.ok.mod.oq F.aw ?_ he rfl;rw[he];show bD _ _ (spliced ((false,eval (.Lambda params body scope jv) X.env)::[])) _ _ s;have aB:∀x∈scope.names,x.2=.free->∃c,X.env.cells.lookup x.1=some c:=λx hx hf=>I.ok.has x.1 (.inl (Gp x hx hf));refine Calls.spliced_cons (Sm I sm Mx iw ur (Km aB) fC.cu.mz nk qD λq bW iv H1 s1 a_ sU s7 GC a3 ax=>Calls.spliced_nil ⟨a_.ju,?_⟩);have aP:Ext aG H aG H1:=⟨sU,λ_ h=>h,λ_ h=>.inl h,⟨λa av=>by
  obtain⟨o,aF⟩:=fC.cu.we a av;exact sU.ne aF,s7⟩⟩
 have fin:iG (bL X.prog X.w) X.A (.call (.ref bN) ⟨[.ref q],[]⟩) (nR di X.stack X.prog X.w H1 s1 Q jm) s1:=by
  refine Sq (k:=k+1) (vs:=[.ref q]) F S bd au a_.ui (.cons rfl .nil) rfl λbu ni=>⟨_,aq bu X.A X.stack s1 H1,?_⟩
  refine⟨q,rfl,rfl,⟨_,_,a3,rfl⟩,λaa=>∃du,Ext aG H1 du aa,λBd s2 cB=>?_,?_⟩
  ·have caps:tS X.N scope (gG X.env scope.names []) σ H1 s2.heap:=by
    have cS:=S6 a_ kU Gp;have aw:∀{a:ag} {v:Option aj},s1.heap.IsCell a v->H1 a=none->s2.heap.IsCell a v:=λ{a v} z n=>RD cB.base z n (by intro z;exact absurd (show a∈([]:List ag) from z) (by simp));refine⟨cS.inj,cS.has,λx c h=>?_,cS.len,λi x v af ak bB=>?_⟩
    ·obtain⟨⟨v,br⟩,a6⟩:=cS.t9 x c h;exact⟨⟨v,aw br a6⟩,a6⟩
    ·obtain⟨u,c,c9,hf,kT,hx⟩:=cS.val i x v af ak bB;exact⟨u,c,c9,hf,kT,aw hx (cS.t9 x c kT).2⟩
   exact ahH aL al_ qw (λx hx=>(kU x hx).1) (Zw q bW _) (zf _ _ _ _) ni cB.ui a3 ax caps ⟨aE,E,O,aG,ε,fC.ext aP,h_,λdu bk b6=>⟨rfl,du,b6⟩⟩
  ·rintro aa ⟨du,b6⟩ nV p g aC;have hc:=g du b6.cu;refine bV _ du _ ((aP.trans b6).trans hc).aw (fC.ext ((aP.trans b6).trans hc)) ?_;simp only[Rep];exact⟨p,_,rfl,c3.of aC,bG.cons (by simp[Rep]) (bG.cons (by simp[Rep]) bG.nil)⟩
 refine wpAny_call (al6 fin λr s' a3=>?_)
 cases r with
|error e=>exact ed a3
|ok dT=>
  cases dT with
  |ret u=>exact a_.after a3
  |next=>exact ed a3
  |brk=>exact ed a3
  |cont=>exact ed a3
def aiK{P:cA}{w:bZ}{K:a9}{mg:Str->Option aj}{base:bE}{x qual:Str}{st:Stmt}{f:ag}{gV:aj}{ec an:Option ag}{jZ:Array (Option aj)}{dG doc pm bu dN:aj}{N ps:List Str}{k c p:Nat}{b:bA}(l:K.lookup f=some ⟨gV,ec,.func (lU x qual (nH st) (fc st) (bt st) .none dG doc pm an bu dN),jZ⟩)(eZ:qZ K bu qual=true)(S:cK N ps (bt st))
  (U:∀(A:cH) (outer:List Env) (s:aI) (H:ay) (E:eF),cW k (A.deeper (envOfC qual (bt st) s.heap.objs.size f bu)) ->
   hF (eN di P w K mg base N qual (bt st) f bu A outer s H E).dv (fc st) b):
  ez P w K mg base di (k+1) f (lU x qual (nH st) (fc st) (bt st) .none dG doc pm an bu dN) ps (qU K ps.length c p (runM c p b N.length)):=by
 refine Mj l eZ S (λvs H Q E h=>h.1) λA outer s H vs Q E au h=>⟨_,(U A outer s H E au).dv,?_⟩
 obtain⟨aB,F,ss,a,kd,ar,r,cu,br,aA,q,aF,e,iP⟩:=h;simp only[runM,cz] at e;obtain⟨o,eH,e⟩:=e;have hlen:ss.length=vs.length:=Paired.length q;refine⟨F,fY H kd a,λb=>(fY H kd a).h b=none,F,_,o,?_,eH,?_⟩
 ·unfold bh.start;refine⟨by simp[jI,hlen],λi s e=>?_,λi j s u v w i_ aD aO dH d3=>?_,Sl cu,λ_ h=>h,λb U=>?_⟩
  ·obtain⟨v,br,bP⟩:=Paired.get q (rf e);exact⟨v,K1 br,bP⟩
  ·by_cases bc:i=p
   ·subst bc;rw[aF j u (Ne.symm i_) (rf aO)] at d3;cases d3
   ·rw[aF i s bc (rf aD)] at dH;cases dH
  ·by_cases z:b∈kd
   ·exact yn z
   ·exact (rg z).trans U
 ·have fin:∀{ε':Ev} {cg:bh.St} {aG:ag->Prop} {aa:ay} {gs:List aJ},cP K F (fY H kd a) (λb=>(fY H kd a).h b=none) aG aa ε' cg->ji c p ε'=some gs->d1 K (fY H kd a) (λb=>(fY H kd a).h b=none) aG aa (.obj .b_ c gs) (.ref a):=λcq gQ=>by
   obtain⟨iU,_,rs⟩:=cq.val p _ (QR gQ);have sS:=rs;obtain⟨jR,_,rfl,_,_,_,_,ie⟩:=rs;have:jR=a:=ie rfl;subst this;exact sS
  cases o with
  |d4 t'=>cases e
  |bK ε'=>
   simp only[dE] at e;obtain⟨gs,gQ,rfl⟩:=e;exact λcg aG aa _ cq=>iP _ aG aa cq.ent (by simp[Rep]) (fin cq gQ)
  |gp _=>cases e
  |dN _=>cases e
  |ij t ε'=>
   simp only[dE] at e;obtain⟨gs,gQ,rfl⟩:=e;exact λv cg aG aa cq bP=>iP v aG aa cq.ent bP (fin cq gQ)
  |kZ _=>cases e
def ajI{P:cA}{w:bZ}{K:a9}{mg:Str->Option aj}{base:bE}{x:Str}{st:Stmt}{f:ag}{gV:aj}{ec an:Option ag}{jZ:Array (Option aj)}{dG doc pm bu dN:aj}{N ps:List Str}{k c p:Nat}{b:bA}
  (l:K.lookup f=some ⟨gV,ec,.func (lU x x (nH st) (fc st) (bt st) .none dG doc pm an bu dN),jZ⟩) (eZ:qZ K bu x=true) (S:cK N ps (bt st))
  (bd:∀fd,alX K x x st f fd->Binds K fd ps []) (m:mg x=some (.ref f)) (aw:kv K (.ref f)=true)
  (U:∀(A:cH) (outer:List Env) (s:aI) (H:ay) (E:eF),cW k (A.deeper (envOfC x (bt st) s.heap.objs.size f bu)) ->
   hF (eN di P w K mg base N x (bt st) f bu A outer s H E).dv (fc st) b):rL P w K mg base x c p (k+1) ps.length (runM c p b N.length):=
 ⟨f,_,ps,aiK l eZ S U,m,aw,bd _ (dp (st:=st) l eZ aw)⟩
end
end D
end
section
namespace aZ
open D
def RV:bA:=
  (seq (gR (fl (ao a4 (nm 0) (ah (.int 0)))) (cx 2) (iff (bC (ao oEq (ao a4 (nm 2) (ah (.int 0))) (nm 1))) (cy (ao a4 (nm 2) (ah (.int 1)))) skip))
  never)
def oT:List T->Option T:=d9 RV 3
noncomputable def S':bA:=
  (seq (asg 1 (b9 hi [(comp 1 [] (fl (ao a4 (nm 0) (ah (.int 0)))) (cx 0) (f_ true) (ah (.str "shut")))])) (seq (asg 2 (b9 hi [(comp 1 [] (fl (ao a4 (nm 0) (ah (.int 1)))) (cx 0) (f_ true) (ah (.int 0)))])) (cy (cb [(ah (.str "off")),(ah (.int 0)),(ah .none),(aS 1),(cb []),(ah (.int 0)),(cb []),(ah (.int 0)),(ah (.int 0)),(aS 2)]))))
def yu:List T->Option T:=d9 S' 3
def RW:bA:=
  (seq (gR (fl (ao a4 (nm 0) (ah (.int 1)))) (cx 2) (iff (bC (ao oEq (ao a4 (nm 2) (ah (.int 0))) (nm 1))) (cy (nm 2)) skip)) (cy (ah .none)))
def yf:List T->Option T:=d9 RW 3
def Rh:bA:=
  (cy (b9 sO [(ao qL (nm 0) (nm 1)),(ah (.int 0))]))
def tr:List T->Option T:=d9 Rh 2
noncomputable def P2:bA:=
  (seq (eG 0 0 0 (aS 1)) (seq (eG 0 0 1 (ao a4 (nm 2) (ah (.int 0)))) (seq (eG 0 0 2 (ao a4 (nm 2) (ah (.int 1)))) (seq (eG 0 0 3 (ao a4 (nm 2) (ah (.int 2)))) (seq (vV 0 0 4 (comp 1 [] (fl (ao a4 (nm 1) (ah (.int 0)))) (cx 0) (f_ true) (ao a4 (nm 0) (ah (.int 0)))) (ao a4 (nm 2) (ah (.int 3)))) (seq (jL 0 0 5 (dX vK (ao a4 (nm 2) (ah (.int 4))))) (seq (eG 0 0 6 (ao a4 (nm 2) (ah (.int 5)))) (seq (jL 0 0 7 (dX vK (ao a4 (nm 2) (ah (.int 6))))) (seq (eG 0 0 8 (ao a4 (nm 2) (ah (.int 7)))) (seq (eG 0 0 9 (ao a4 (nm 2) (ah (.int 8)))) (seq (vV 0 0 10 (comp 1 [] (fl (ao a4 (nm 1) (ah (.int 1)))) (cx 0) (f_ true) (ao a4 (nm 0) (ah (.int 0)))) (ao a4 (nm 2) (ah (.int 9)))) (seq (eG 0 0 11 (ah (.int 0))) (jL 0 0 12 (gi []))))))))))))))
def xK:List aJ->Option (T×List aJ):=runM 0 0 P2 3
noncomputable def Qe:bA:=
  (seq (asg 1 (yS 0 0 4)) (seq (asg 2 (b9 hi [(fld 0 0 5)])) (seq (asg 3 (b9 hi [(fld 0 0 7)])) (seq (asg 4 (yS 0 0 10)) (cy (cb [(e8 0 0 1),(e8 0 0 2),(e8 0 0 3),(aS 1),(aS 2),(e8 0 0 6),(aS 3),(e8 0 0 8),(e8 0 0 9),(aS 4)]))))))
def xV:List aJ->Option T:=gx Qe 5
def Ql:bA:=
  (lA 0 0 12 (cb [(e8 0 0 11),(aS 1),(aS 2)]))
def fW:List aJ->Option (T×List aJ):=runM 0 0 Ql 3
def P8:bA:=
  (eG 0 0 6 (ao a4 (ao a4 (fld 0 0 0) (ah (.int 2))) (ah (.int 2))))
def amf:List aJ->Option (T×List aJ):=runM 0 0 P8 1
noncomputable def Kg:bA:=
  (seq (dP (cZ 0 amf 0 [])) (iff (bC (ao (fK true) (nm 1) (fld 0 0 7))) (seq (lA 0 0 7 (aS 1)) (dP (cZ 0 fW 0 [(ah (.str "alarm")),(aS 1)]))) skip))
def lh:List aJ->Option (T×List aJ):=runM 0 0 Kg 2
noncomputable def BX:bA:=
  (seq (iff (e' (bC (ao fk (nm 2) (ah (.str "way")))) (bC (ao oLe (ao a4 (ao a4 (fld 0 0 0) (ah (.int 2))) (ah (.int 1))) (ah (.int 0))))) (seq (dP (cZ 0 lh 0 [(aS 1)]))
  p_) skip) (seq (eG 0 0 1 (ah (.str "coming"))) (seq (eG 0 0 2 (ao a4 (ao a4 (fld 0 0 0) (ah (.int 2))) (ah (.int 1)))) (seq (eG 0 0 3 (aS 1)) (dP (cZ 0 fW 0 [(ah (.str "coming")),(aS 1)]))))))
def tg:List aJ->Option (T×List aJ):=runM 0 0 BX 3
noncomputable def P7:bA:=
  (seq (asg 3 (b9 oT [(e8 0 0 0),(aS 1)])) (iff (bC (ao oEq (nm 3) (ah (.str "day")))) (dP (cZ 0 lh 0 [(aS 1)])) (iff (bC (ao oEq (fld 0 0 1) (ah (.str "off")))) (iff (bC (ao oEq (nm 2) (ah (.str "cut")))) (dP (cZ 0 fW 0 [(ah (.str "fault")),(aS 1)])) skip) (iff (e' (bC (ao oEq (nm 2) (ah (.str "cut")))) (bC (ao oEq (nm 3) (ah (.str "once"))))) (dP (cZ 0 lh 0 [(aS 1)])) (iff (bC (ao oEq (fld 0 0 1) (ah (.str "on")))) (dP (cZ 0 tg 0 [(aS 1),(aS 3)])) skip)))))
def xN:List aJ->Option (T×List aJ):=runM 0 0 P7 4
noncomputable def Qm:bA:=
  (seq (asg 3 (m' 0 0 4 (nm 1))) (seq (iff (bC (ao oEq (nm 2) (nm 3))) p_ skip) (seq (rA 0 0 4 (nm 1) (aS 2)) (iff (bC (ao oEq (nm 2) (ah (.str "shut")))) (iff (bC (ao oEq (nm 3) (ah (.str "cut")))) (dP (cZ 0 fW 0 [(ah (.str "mended")),(aS 1)])) skip) (iff (bC (ao (fK true) (nm 1) (fld 0 0 5))) (dP (cZ 0 xN 0 [(aS 1),(aS 2)])) skip)))))
def xX:List aJ->Option (T×List aJ):=runM 0 0 Qm 4
def J3:bA:=
  (cy (qk (ao fk (ao a4 (nm 1) (ah (.int 3))) (ah (.int 0))) (ao qJ (m' 0 0 10 (ao a4 (nm 1) (ah (.int 0)))) (ao a4 (nm 1) (ah (.int 3))))))
def u9:List aJ->Option T:=gx J3 2
noncomputable def J1:bA:=
  (seq (dP (cZ 0 fW 0 [(ah (.str "wrong")),(ah .none)])) (seq (pw 0 0 8 (ah (.int 1))) (iff (bC (ao qJ (fld 0 0 8) (ah (.int 3)))) (seq (eG 0 0 8 (ah (.int 0))) (seq (eG 0 0 9 (ah (.int 90))) (seq (dP (cZ 0 amf 0 [])) (dP (cZ 0 fW 0 [(ah (.str "attack")),(ah .none)]))))) skip)))
def amm:List aJ->Option (T×List aJ):=runM 0 0 J1 1
noncomputable def td:bA:=
  (seq (iff (bC (ao oEq (nm 1) (ah (.str "unset")))) (cy (ah (.bool false))) skip) (seq (iff (bC (ao fk (fld 0 0 1) (ah (.str "off")))) (cy (ah (.bool true))) skip) (seq (iff (bC (ao oEq (nm 1) (ah (.str "shunt")))) (cy (xb (ao oEq (b9 oT [(e8 0 0 0),(aS 2)]) (ah (.str "day"))) (ao (fK false) (nm 2) (fld 0 0 5)))) skip) (cy (qk (ao oEq (nm 1) (ah (.str "free"))) (ao (fK true) (nm 2) (fld 0 0 5)))))))
def oN:List aJ->Option T:=gx td 3
noncomputable def PZ:bA:=
  (seq (asg 2 (comp 1 [1] (fl (ao a4 (fld 0 0 0) (ah (.int 0)))) (cx 0) (bC (ao (fK false) (ao a4 (nm 0) (ah (.int 1))) (nm 1))) (ao a4 (nm 0) (ah (.int 0))))) (cy (comp 1 [0] (fl (aS 2)) (cx 0) (hJ (bC (ao fk (m' 0 1 4 (nm 0)) (ah (.str "shut")))) (bC (ao (fK true) (nm 0) (fld 0 1 5)))) (aS 0))))
def tf:List aJ->Option T:=gx PZ 3
noncomputable def PR:bA:=
  (seq (asg 4 (pM (bC (ao oEq (nm 2) (ah (.str "free")))) (ah (.str "shunt")) (aS 2))) (seq (iff (bC (ao (fK true) (nm 4) (ao a4 (nm 1) (ah (.int 2))))) (cy (cb [(ah (.str "denied")),(ao a4 (nm 1) (ah (.int 1)))])) skip) (seq (iff (bC (eu 0 oN 0 [(aS 2),(aS 3)])) (cy (cb [(ah (.str "no")),(ao a4 (nm 1) (ah (.int 1)))])) skip) (seq (asg 5 (eu 0 tf 0 [(ah (.tuple (hZ ["day","once"])))])) (seq (iff (hJ (bC (ao oEq (nm 2) (ah (.str "set")))) (hb (nm 5))) (cy (cb [(ah (.str "open")),(ao a4 (nm 5) (ah (.int 0)))])) skip) (cy (ah .none)))))))
def xE:List aJ->Option T:=gx PR 6
noncomputable def PW:bA:=
  (seq (eG 0 0 1 (ah (.str "on"))) (seq (eG 0 0 2 (ah (.int 0))) (seq (dP (cZ 0 fW 0 [(ah (.str "on")),(ah .none)])) (gR (fl (eu 0 tf 0 [(ah (.tuple (hZ ["inner","way"])))])) (cx 1) (dP (cZ 0 lh 0 [(aS 1)]))))))
def tc:List aJ->Option (T×List aJ):=runM 0 0 PW 2
noncomputable def Kd:bA:=
  (seq (jL 0 0 7 (gi [])) (seq (eG 0 0 6 (ah (.int 0))) (seq (eG 0 0 1 (ah (.str "leaving"))) (seq (eG 0 0 2 (ao a4 (ao a4 (fld 0 0 0) (ah (.int 2))) (ah (.int 0)))) (seq (dP (cZ 0 fW 0 [(ah (.str "set")),(aS 1)])) (iff (bC (ao oLe (fld 0 0 2) (ah (.int 0)))) (dP (cZ 0 tc 0 [])) skip))))))
def vb:List aJ->Option (T×List aJ):=runM 0 0 Kd 2
noncomputable def P1:bA:=
  (seq (eG 0 0 1 (ah (.str "off"))) (seq (eG 0 0 2 (ah (.int 0))) (seq (eG 0 0 6 (ah (.int 0))) (seq (eG 0 0 3 (ah .none)) (seq (jL 0 0 5 (gi [])) (dP (cZ 0 fW 0 [(ah (.str "unset")),(aS 1)])))))))
def xJ:List aJ->Option (T×List aJ):=runM 0 0 P1 2
noncomputable def xP:bA:=
  (iff (bC (ao oEq (nm 2) (ah (.str "set")))) (dP (cZ 0 vb 0 [(aS 1)])) (iff (bC (ao oEq (nm 2) (ah (.str "unset")))) (dP (cZ 0 xJ 0 [(aS 1)])) (iff (bC (ao oEq (nm 2) (ah (.str "shunt")))) (seq (jL 0 0 5 (dX CW (ao dC (fld 0 0 5) (gi [(aS 3)])))) (dP (cZ 0 fW 0 [(ah (.str "shunt")),(aS 3)]))) (seq (Bh 0 0 5 (aS 3)) (dP (cZ 0 fW 0 [(ah (.str "free")),(aS 3)]))))))
def q8:List aJ->Option (T×List aJ):=runM 0 0 xP 4
noncomputable def J2:bA:=
  (seq (asg 4 (eu 0 xE 0 [(aS 1),(aS 2),(aS 3)])) (iff (bC (dX ix (nm 4))) (seq (rG 0 0 10 (ao a4 (nm 1) (ah (.int 0))) (ah (.int 1))) (dP (cZ 0 q8 0 [(ao a4 (nm 1) (ah (.int 1))),(aS 2),(aS 3)]))) (dP (cZ 0 fW 0 [(ao a4 (nm 4) (ah (.int 0))),(ao a4 (nm 4) (ah (.int 1)))]))))
def amn:List aJ->Option (T×List aJ):=runM 0 0 J2 5
noncomputable def xY:bA:=
  (seq (asg 4 (b9 yf [(e8 0 0 0),(aS 1)])) (iff (bC (ao ja (fld 0 0 9) (ah (.int 0)))) (dP (cZ 0 fW 0 [(ah (.str "locked")),(ah .none)])) (iff (e' (bC (dX ix (nm 4))) (bC (eu 0 u9 0 [(aS 4)]))) (dP (cZ 0 amm 0 [])) (seq (eG 0 0 8 (ah (.int 0))) (dP (cZ 0 amn 0 [(aS 4),(aS 2),(aS 3)]))))))
def rb:List aJ->Option (T×List aJ):=runM 0 0 xY 5
noncomputable def PY:bA:=
  (seq (pw 0 0 11 (aS 1)) (seq (eG 0 0 9 (b9 tr [(e8 0 0 9),(aS 1)])) (seq (eG 0 0 6 (b9 tr [(e8 0 0 6),(aS 1)])) (eG 0 0 2 (b9 tr [(e8 0 0 2),(aS 1)])))))
def te:List aJ->Option (T×List aJ):=runM 0 0 PY 2
def PX:bA:=
  (seq (asg 1 (e8 0 0 3)) (seq (eG 0 0 1 (ah (.str "on"))) (seq (eG 0 0 3 (ah .none)) (dP (cZ 0 lh 0 [(aS 1)])))))
def xG:List aJ->Option (T×List aJ):=runM 0 0 PX 2
def J7:bA:=
  (iff (bC (ao oEq (fld 0 0 1) (ah (.str "leaving")))) (dP (cZ 0 tc 0 [])) (dP (cZ 0 xG 0 [])))
def u':List aJ->Option (T×List aJ):=runM 0 0 J7 1
noncomputable def xW:bA:=
  (seq (iff (bC (ao oLt (nm 1) (ah (.int 1)))) p_ skip) (iff (hJ (bC (ao (fK false) (fld 0 0 1) (cb [(ah (.str "leaving")),(ah (.str "coming"))]))) (bC (ao oLe (fld 0 0 2) (nm 1)))) (seq (asg 2 (ao qL (nm 1) (fld 0 0 2))) (seq (dP (cZ 0 te 0 [(e8 0 0 2)])) (seq (dP (cZ 0 u' 0 [])) (dP (cZ 0 te 0 [(aS 2)]))))) (dP (cZ 0 te 0 [(aS 1)]))))
def ra:List aJ->Option (T×List aJ):=runM 0 0 xW 3
noncomputable def B0:bA:=
  (iff (bC (ao oEq (ao a4 (nm 1) (ah (.int 0))) (ah (.str "line")))) (dP (cZ 0 xX 0 [(ao a4 (nm 1) (ah (.int 1))),(ao a4 (nm 1) (ah (.int 2)))])) (iff (bC (ao oEq (ao a4 (nm 1) (ah (.int 0))) (ah (.str "code")))) (dP (cZ 0 rb 0 [(ao a4 (nm 1) (ah (.int 1))),(ao a4 (nm 1) (ah (.int 2))),(ao a4 (nm 1) (ah (.int 3)))])) (dP (cZ 0 ra 0 [(ao a4 (nm 1) (ah (.int 1)))]))))
def q':List aJ->Option (T×List aJ):=runM 0 0 B0 2
def KJ:bA:=
  (seq (n3 3 (ox 0 xK [(aS 0),(aS 1)])) (seq (gR (fl (aS 2)) (cx 4) (dP (cZ 0 q' 3 [(aS 4)]))) (xh 3)))
def oR:List T->Option aJ:=sT KJ 5
def S_:bA:=
  (cy (b9 hi [(vz 0 12 (rF oR [(aS 0),(aS 1),(aS 2)]))]))
def yt:List T->Option T:=d9 S_ 3
noncomputable def LN:bA:=
  (seq (asg 2 (comp 2 [] (Dz (i3 (ao a4 (nm 0) (ah (.int 0)))) (i3 (ao a4 (nm 1) (ah (.int 3))))) (eO [(cx 0),(cx 1)]) (bC (ao fk (nm 1) (ah (.str "shut")))) (ao a4 (nm 0) (ah (.int 0))))) (cy (cb [(ao a4 (nm 1) (ah (.int 0))),(ao ja (ao a4 (nm 1) (ah (.int 5))) (ah (.int 0))),(b9 hi [(nm 2)])])))
def vB:List T->Option T:=d9 LN 3
end aZ
end
section
namespace aZ
open D aZ
def TZ:bA:=
  (cy (A_ 0 xV (rF oR [(aS 0),(aS 1),(cb [(aS 2)])]) []))
def yG:List T->Option T:=d9 TZ 3
noncomputable def S9:bA:=
  (cy (b9 hi [(comp 3 [] (fl (vz 0 12 (rF oR [(aS 0),(aS 1),(cb [(aS 2)])]))) (eO [(cx 0),(cx 1),(cx 2)]) (f_ true) (cb [(aS 1),(aS 2)]))]))
def yr:List T->Option T:=d9 S9 3
def tq:bA:=
  (seq (iff (bC (ao oLt (nm 1) (b9 jw [(nm 0)]))) (cy (ao a4 (nm 0) (nm 1))) skip) (cy (ah (.int 0))))
def lZ:List T->Option T:=d9 tq 2
noncomputable def tv:bA:=
  (seq (asg 2 (ao oMod (ao dI (ao dC (ao dC (b9 lZ [(aS 0),(aS 1)]) (ao dI (ah (.int 7919)) (nm 1))) (ah (.int 1))) (ah (.int 48271))) (ah (.int 2147483647)))) (cy (ao oMod (ao dC (ao dC (ao dI (nm 2) (nm 2)) (ao dI (ah (.int 7)) (nm 2))) (nm 1)) (ah (.int 2147483629)))))
def kD:List T->Option T:=d9 tv 3
noncomputable def amg:bA:=
  (seq (asg 2 (ao oMod (ao dI (ao dC (ao dC (nm 0) (ao dI (ah (.int 104729)) (nm 1))) (ah (.int 17))) (ah (.int 69621))) (ah (.int 2147483647)))) (cy (ao oMod (ao dC (ao dC (ao dI (nm 2) (nm 2)) (ao dI (ah (.int 3)) (nm 2))) (nm 1)) (ah (.int 2147483629)))))
def l3:List T->Option T:=d9 amg 3
noncomputable def aiU:bA:=
  (seq (asg 1 (cb [])) (seq (gR (mL (i3 (cb [(ah (.str "a")),(ah (.str "b")),(ah (.str "back")),(ah (.str "d")),(ah (.str "hall")),(ah (.str "r")),(ah (.str "win")),(ah (.str "z"))]))) (eO [(cx 2),(cx 3)]) (seq (asg 4 (ao oDiv (b9 l3 [(aS 0),(aS 2)]) (ah (.int 4)))) (iff (e' (bC (ao oLt (ao oMod (nm 4) (ah (.int 8))) (ao dC (ah (.int 3)) (ao oMod (nm 0) (ah (.int 5)))))) (bC (ao oEq (nm 2) (ao oMod (ao oDiv (nm 0) (ah (.int 8))) (ah (.int 8)))))) (asg 1 (ao dC (nm 1) (cb [(cb [(aS 3),(ao a4 (cb [(ah (.str "day")),(ah (.str "inner")),(ah (.str "once")),(ah (.str "way")),(ah (.str "way"))]) (ao oMod (ao oDiv (nm 4) (ah (.int 8))) (ah (.int 5))))])]))) skip))) (seq (asg 5 (cb [])) (seq (gR (mL (i3 (cb [(ah (.str "0000")),(ah (.str "1234")),(ah (.str "4321")),(ah (.str "7777")),(ah (.str "9990")),(ah (.str "9999"))]))) (eO [(cx 2),(cx 6)]) (seq (asg 4 (ao oDiv (b9 l3 [(aS 0),(ao dC (ah (.int 10)) (nm 2))]) (ah (.int 4)))) (iff (e' (bC (ao ja (ao oMod (nm 4) (ah (.int 3))) (ah (.int 0)))) (bC (ao oEq (nm 2) (ah (.int 1))))) (seq (asg 7 (b9 hi [(comp 1 [4] (mK (ah (.int 3))) (cx 0) (bC (ao ja (ao oMod (ao oDiv (nm 1) (ao a4 (cb [(ah (.int 4)),(ah (.int 16)),(ah (.int 64))]) (nm 0))) (ah (.int 4))) (ah (.int 0)))) (ao a4 (cb [(ah (.str "set")),(ah (.str "shunt")),(ah (.str "unset"))]) (nm 0)))])) (seq (asg 8 (ao a4 (cb [(ah (.str "ann")),(ah (.str "bo")),(ah (.str "cy"))]) (ao oMod (ao oDiv (nm 4) (ah (.int 256))) (ah (.int 3))))) (asg 5 (ao dC (nm 5) (cb [(cb [(aS 6),(aS 8),(aS 7),(ao a4 (cb [(ah (.int 0)),(ah (.int 0)),(ah (.int 1)),(ah (.int 2)),(ah (.int 9))]) (ao oMod (ao oDiv (nm 4) (ah (.int 1024))) (ah (.int 5))))])]))))) skip))) (seq (asg 4 (ao oDiv (b9 l3 [(aS 0),(ah (.int 20))]) (ah (.int 4)))) (seq (asg 9 (cb [(ao a4 (cb [(ah (.int 0)),(ah (.int 5)),(ah (.int 30)),(ah (.int 60))]) (ao oMod (nm 4) (ah (.int 4)))),(ao a4 (cb [(ah (.int 0)),(ah (.int 4)),(ah (.int 20)),(ah (.int 60))]) (ao oMod (ao oDiv (nm 4) (ah (.int 4))) (ah (.int 4)))),(ao a4 (cb [(ah (.int 1)),(ah (.int 9)),(ah (.int 120)),(ah (.int 300))]) (ao oMod (ao oDiv (nm 4) (ah (.int 16))) (ah (.int 4))))])) (cy (cb [(aS 1),(aS 5),(aS 9)]))))))))
def C0:List T->Option T:=d9 aiU 10
noncomputable def RU:bA:=
  (seq (asg 2 (ao a4 (ao a4 (ao a4 (nm 0) (ah (.int 0))) (ao oMod (ao oDiv (nm 1) (ah (.int 8))) (b9 jw [(ao a4 (nm 0) (ah (.int 0)))]))) (ah (.int 0)))) (seq (asg 3 (ao oMod (nm 1) (ah (.int 10)))) (seq (iff (bC (ao oLt (nm 3) (ah (.int 5)))) (cy (cb [(ah (.str "line")),(aS 2),(ao a4 (cb [(ah (.str "shut")),(ah (.str "open")),(ah (.str "open")),(ah (.str "cut"))]) (ao oMod (ao oDiv (nm 1) (ah (.int 512))) (ah (.int 4))))])) skip) (seq (iff (bC (ao oLt (nm 3) (ah (.int 7)))) (cy (cb [(ah (.str "ticks")),(ao dC (ah (.int 1)) (ao oMod (ao oDiv (nm 1) (ah (.int 64))) (ao a4 (cb [(ah (.int 3)),(ah (.int 40)),(ah (.int 200))]) (ao oMod (ao oDiv (nm 1) (ah (.int 4096))) (ah (.int 3))))))])) skip) (seq (asg 4 (ao a4 (ao a4 (ao a4 (nm 0) (ah (.int 1))) (ao oMod (ao oDiv (nm 1) (ah (.int 64))) (b9 jw [(ao a4 (nm 0) (ah (.int 1)))]))) (ah (.int 0)))) (seq (iff (bC (ao oEq (ao oMod (ao oDiv (nm 1) (ah (.int 65536))) (ah (.int 4))) (ah (.int 0)))) (asg 4 (ao a4 (cb [(ah (.str "0001")),(ah (.str "1111")),(ah (.str "9999")),(ah (.str "0000"))]) (ao oMod (ao oDiv (nm 1) (ah (.int 512))) (ah (.int 4))))) skip) (seq (asg 5 (ao a4 (cb [(ah (.str "set")),(ah (.str "set")),(ah (.str "unset")),(ah (.str "shunt")),(ah (.str "free")),(ah (.str "shunt"))]) (ao oMod (ao oDiv (nm 1) (ah (.int 4096))) (ah (.int 6))))) (seq (iff (bC (ao (fK false) (nm 5) (cb [(ah (.str "set")),(ah (.str "unset"))]))) (cy (cb [(ah (.str "code")),(aS 4),(aS 5),(ah .none)])) skip) (cy (cb [(ah (.str "code")),(aS 4),(aS 5),(aS 2)]))))))))))
def ye:List T->Option T:=d9 RU 6
end aZ
end
section
namespace h2
open D aZ
def B6:bA:=
  (seq (eG 1 0 0 (aS 1)) (seq (jL 1 0 1 (gi [])) (jL 1 0 2 (gi [(b9 yu [(aS 1)])]))))
def tj:List aJ->Option (T×List aJ):=runM 1 0 B6 2
def Co:bA:=
  (cy (ao a4 (fld 1 0 2) (dX qK (ah (.int 1)))))
def l0:List aJ->Option T:=gx Co 1
noncomputable def Cd:bA:=
  (seq (asg 2 (b9 yr [(e8 1 0 0),(eu 1 l0 0 []),(aS 1)])) (seq (asg 3 (b9 yG [(e8 1 0 0),(eu 1 l0 0 []),(aS 1)])) (seq (lA 1 0 1 (aS 1)) (seq (lA 1 0 2 (aS 3)) (qR (aS 2))))))
def mI:List aJ->Option (T×List aJ):=runM 1 0 Cd 4
def B1:bA:=
  (al9 (b9 oT [(e8 1 0 0),(aS 1)]))
def oP:List aJ->Option T:=gx B1 2
def CC:bA:=
  (seq (al9 (eu 1 oP 0 [(aS 1)])) (ik (cZ 1 mI 0 [(cb [(ah (.str "line")),(aS 1),(aS 2)])])))
def vm:List aJ->Option (T×List aJ):=runM 1 0 CC 3
noncomputable def CD:bA:=
  (seq (iff (e' (bC (dX g5 (nm 3))) (bC (ao (fK false) (nm 2) (ah (.tuple (hZ ["shunt","free"])))))) (al9 (eu 1 oP 0 [(aS 3)])) skip) (ik (cZ 1 mI 0 [(cb [(ah (.str "code")),(aS 1),(aS 2),(aS 3)])])))
def amy:List aJ->Option (T×List aJ):=runM 1 0 CD 4
def Cn:bA:=
  (ik (cZ 1 mI 0 [(cb [(ah (.str "ticks")),(aS 1)])]))
def vh:List aJ->Option (T×List aJ):=runM 1 0 Cn 2
def Cp:bA:=
  (cy (b9 vB [(e8 1 0 0),(eu 1 l0 0 [])]))
def tn:List aJ->Option T:=gx Cp 1
def CP:bA:=
  (cy (b9 hi [(fld 1 0 1)]))
def p6:List aJ->Option T:=gx CP 1
def CQ:bA:=
  (cy (b9 yt [(e8 1 0 0),(ao a4 (fld 1 0 2) (ah (.int 0))),(eu 1 p6 0 [])]))
def tu:List aJ->Option T:=gx CQ 1
def CB:bA:=
  (seq (iff (hQ (hb (fld 1 0 1))) never skip) (seq (uF 1 0 1) (uF 1 0 2)))
def vl:List aJ->Option (T×List aJ):=runM 1 0 CB 1
end h2
end
section
namespace tR
open D aZ h2
noncomputable def x7:f3:=
  (amu (gR (fl (ao a4 (nm 0) (ah (.int 0)))) (cx 2) (iff (bC (ao oEq (ao a4 (nm 2) (ah (.int 0))) (nm 1))) (cy (ao a4 (nm 2) (ah (.int 1)))) skip)) (lK (dX (vS "no zone is called ") (nm 1))))
def vn:List aJ->Bool:=qS x7 3
def xM:f3:=
  (yT vn [.v (e8 1 0 0),.v (aS 1)])
def oO:List aJ->Bool:=qS xM 2
def KA:f3:=
  (uA (e' (bC (dX g5 (nm 3))) (bC (ao (fK false) (nm 2) (ah (.tuple (hZ ["shunt","free"])))))) (jK 1 oO 0 [(aS 3)]) uD)
def Cw:List aJ->Bool:=qS KA 4
def Kz:f3:=
  (jK 1 oO 0 [(aS 1)])
def vk:List aJ->Bool:=qS Kz 3
def Ky:f3:=
  (uA (hQ (hb (fld 1 0 1))) (lK (ah (.str "there is no event to take back"))) uD)
def Cv:List aJ->Bool:=qS Ky 1
end tR
end
section
namespace pf
open D aZ h2 tR
def agh:bA:=
  (cy (cb [(eu 1 l0 0 []),(eu 1 tn 0 []),(eu 1 tu 0 []),(eu 1 p6 0 [])]))
def gg:List aJ->Option T:=gx agh 1
noncomputable def tm:bA:=
  (seq (iff (bC (ao oEq (ao oMod (nm 1) (ah (.int 7))) (ah (.int 0)))) (ik (mO (cZ 1 vl 0 []) (jK 1 Cv 0 []))) skip) (seq (iff (bC (ao oEq (ao oMod (nm 1) (ah (.int 7))) (ah (.int 1)))) (ik (mO (cZ 1 vm 0 [(ah (.str "zzzz")),(ah (.str "open"))]) (jK 1 vk 0 [(ah (.str "zzzz")),(ah (.str "open"))]))) skip) (seq (asg 3 (b9 ye [(aS 2),(ao oDiv (nm 1) (ah (.int 8)))])) (seq (iff (bC (ao oEq (ao a4 (nm 3) (ah (.int 0))) (ah (.str "line")))) (ik (mO (cZ 1 vm 0 [(ao a4 (nm 3) (ah (.int 1))),(ao a4 (nm 3) (ah (.int 2)))]) (jK 1 vk 0 [(ao a4 (nm 3) (ah (.int 1))),(ao a4 (nm 3) (ah (.int 2)))]))) skip) (seq (iff (bC (ao oEq (ao a4 (nm 3) (ah (.int 0))) (ah (.str "code")))) (ik (mO (cZ 1 amy 0 [(ao a4 (nm 3) (ah (.int 1))),(ao a4 (nm 3) (ah (.int 2))),(ao a4 (nm 3) (ah (.int 3)))]) (jK 1 Cw 0 [(ao a4 (nm 3) (ah (.int 1))),(ao a4 (nm 3) (ah (.int 2))),(ao a4 (nm 3) (ah (.int 3)))]))) skip) (ik (mO (cZ 1 vh 0 [(ao a4 (nm 3) (ah (.int 1)))]) uD)))))))
def al4:List aJ->Option (T×List aJ):=runM 1 0 tm 4
noncomputable def Mm:bA:=
  (seq (asg 1 (b9 C0 [(b9 kD [(aS 0),(ah (.int 0))])])) (seq (n3 2 (ox 1 tj [(aS 1)])) (seq (n3 3 (ox 1 tj [(aS 1)])) (seq (n3 4 (ox 1 tj [(aS 1)])) (seq (asg 5 (hE gg [.o 4])) (seq (gR (mK (ao oMod (b9 kD [(aS 0),(ah (.int 1))]) (ah (.int 11)))) (cx 6) (seq (asg 7 (b9 kD [(aS 0),(ao dC (ah (.int 2)) (nm 6))])) (seq (asg 8 (hE gg [.o 3])) (seq (asg 9 (b9 o5 [(nm 8)])) (seq (iff (bC (ao fk (hE gg [.o 3]) (nm 8))) (cy (ah (.bool false))) skip) (seq (n4 10 (o6 1 al4 [] 2 [(aS 7),(aS 1)])) (seq (qE (qM (qY (pQ fk (o6 1 al4 [] 3 [(aS 7),(aS 1)]) (rB (aS 10)))) (rC (bC (ao fk (b9 o5 [(nm 8)]) (nm 9))))) (cy (ah (.bool false))) skip) (seq (iff (bC (ao oEq (ao a4 (nm 10) (ah (.int 0))) (ah (.str "refused")))) (seq (qE (qM (rC (bC (ao fk (hE gg [.o 3]) (nm 8)))) (qY (pQ fk (o6 1 al4 [] 3 [(aS 7),(aS 1)]) (rB (aS 10))))) (cy (ah (.bool false))) skip) (iff (bC (ao fk (hE gg [.o 3]) (nm 8))) (cy (ah (.bool false))) skip)) skip) (iff (bC (ao fk (hE gg [.o 3]) (hE gg [.o 3]))) (cy (ah (.bool false))) skip))))))))) (seq (iff (bC (ao fk (hE gg [.o 2]) (hE gg [.o 3]))) (cy (ah (.bool false))) skip) (cy (ao oEq (hE gg [.o 4]) (nm 5))))))))))
def vU:List T->Option T:=d9 Mm 11
end pf
end
section
namespace pf
open PySem PySem.Spec PyProof.Rows bh D aZ h2 tR
variable [cJ]
def top(i:Nat):Stmt:=PySem.Challenge.pw_doorwatch_k42_whole_asked_twice.main.body.getD i (.Pass ⟨0,0,0,0⟩)
section
variable {P:cA}{w:bZ}{K:a9}{mg:Str->Option aj}{base:bE}{bq cD:ag}{k:Nat}{f:ag}{fd:dV}
def aft{α:Type}{us:List α}(h:us.length=1):∃a,us=[a]:=match us,h with|[a],_=>⟨_,rfl⟩
def afu{α:Type}{us:List α}(h:us.length=2):∃a b,us=[a,b]:=match us,h with|[a,b],_=>⟨_,_,rfl⟩
def afv{α:Type}{us:List α}(h:us.length=3):∃a b c,us=[a,b,c]:=match us,h with|[a,b,c],_=>⟨_,_,_,rfl⟩
def afw{α:Type}{us:List α}(h:us.length=4):∃a b c d,us=[a,b,c,d]:=match us,h with|[a,b,c,d],_=>⟨_,_,_,_,rfl⟩
set_option hygiene false in
local macro_rules | `(unop% cf $F) => `(alX.binds $F λ_ _ _ _ _ _ us aB => by obtain ⟨_, rfl⟩ := aft aB; rfl)
set_option hygiene false in
local macro_rules | `(unop% ct $F) => `(alX.binds $F λ_ _ _ _ _ _ us aB => by obtain ⟨_, _, rfl⟩ := afu aB; rfl)
set_option hygiene false in
local macro_rules | `(unop% fe $F) => `(alX.binds $F λ_ _ _ _ _ _ us aB => by obtain ⟨_, _, _, rfl⟩ := afv aB; rfl)
set_option hygiene false in
local macro_rules | `(unop% kf $F) => `(alX.binds $F λ_ _ _ _ _ _ us aB => by obtain ⟨_, _, _, _, rfl⟩ := afw aB; rfl)
local macro_rules | `(unop% dr 0) => `(⟨rfl, rfl, rfl, by decide +kernel, rfl, by decide +kernel, by decide +kernel⟩)
set_option hygiene false in
local macro_rules | `(unop% dR 1) => `(fm K 1 cD ["plan", "events", "states"])
set_option hygiene false in
local macro_rules | `(unop% dR 0) => `(fm K 0 bq ["plan", "mode", "left", "came", "lines", "shunts", "siren", "alarms", "tries", "locked", "used", "past", "told"])
set_option hygiene false in
local macro_rules | `(unop% lm $t) => `(λbu A outer s H E au => $t)
local macro_rules | `(unop% fN $t) => `(λ_ _ _ _ _ _ => $t)
local macro_rules | `(unop% a' $l) => `(show List.Nodup ($l : List Str) by decide +kernel)
local macro_rules | `(binop% co $s $l) => `(akC (sc := bt $s) $l rfl rfl rfl (by decide +kernel))
set_option hygiene false in
local macro_rules | `(binop% fI $a $b) => `(hC (De (by exact au.units)) Dg $a $b)
set_option hygiene false in
local macro_rules | `(binop% nr $a $b) => `(hC (Dd (by exact au.units)) Df $a $b)
abbrev CH:Stmt:=top 28
def Q0:cK ["_law_number","_law_k","_law_drawn_here"] ["_law_number","_law_k"] (bt CH):=unop%dr 0
def yi(F:alX K "_law_drawn" "_law_drawn" CH f fd)(m:mg "_law_drawn"=some (.ref f)) :Cl P w K mg base "_law_drawn" (k+1) 2 l3:=
 l6 F Q0 (unop%ct F) m unop%lm
  (bH (et 2 Q0.a' (gD (az (rz (az (kH (az (kH (a5 0) (az (rz (az aQ) (a5 1))))) (az aQ))) (az aQ))) (az aQ))) (bI (d_ (gD (az (kH (az (kH (az (rz (a5 2) (a5 2))) (az (rz (az aQ) (a5 2))))) (a5 1))) (az aQ)))))
abbrev yk:Stmt:=top 29
def kC:cK ["_law_number","_law_zones","_law_k","_law_name","_law_drawn_here","_law_codes","_law_figures","_law_rights","_law_who","_law_times"] ["_law_number"] (bt yk):=unop%dr 0
def Lq(F:alX K "_law_plan" "_law_plan" yk f fd)(m:mg "_law_plan"=some (.ref f))(rq:mg "enumerate"=none)(yi:Cl P w K mg base "_law_drawn" k 2 l3)(ft:mg "tuple"=none)(o2:mg "range"=none):Cl P w K mg base "_law_plan" (k+1) 1 C0:=
 l6 F kC (unop%cf F) m unop%lm
  (bH (et 1 kC.a' (dY bF)) (bH (ry q3 (TR rq (dY (aH bY (aH bY (aH bY (aH bY (aH bY (aH bY (aH bY (aH bY bF)))))))))) (yQ (nL (g9 2 kC.a') (nL (g9 3 kC.a') yR))) (bH (et 4 kC.a' (i2 (az (il yi au (aH (bJ 0) (aH (bJ 2) bF)))) (az aQ))) (bI (dz (oE (w_or (hC (yM.or yc) yC (az (gD (a5 4) (az aQ))) (az (kH (az aQ) (az (gD (a5 0) (az aQ)))))) (tM (binop%fI (a5 2) (az (gD (az (i2 (a5 0) (az aQ))) (az aQ))))))) (bI (et 1 kC.a' (kH (a5 1) (az (dY (aH (dY (aH (bJ 3) (aH (b3 (az (dY (aH bY (aH bY (aH bY (aH bY (aH bY bF))))))) (az (gD (az (i2 (a5 4) (az aQ))) (az aQ)))) bF))) bF)))))) ew)))) (bH (et 5 kC.a' (dY bF)) (bH (ry q3 (TR rq (dY (aH bY (aH bY (aH bY (aH bY (aH bY (aH bY bF)))))))) (yQ (nL (g9 2 kC.a') (nL (g9 6 kC.a') yR))) (bH (et 4 kC.a' (i2 (az (il yi au (aH (bJ 0) (aH (kH (az aQ) (a5 2)) bF)))) (az aQ))) (bI (dz (oE (w_or (hC (yN.or yd) yD (az (gD (a5 4) (az aQ))) (az aQ)) (tM (binop%fI (a5 2) (az aQ))))) (bH (et 7 kC.a' (oV ft (jH (az (tC (own:=["_law_j"]) (caps:=[(4,"_law_drawn_here")]) (binop%co yk ["_law_number","_law_zones","_law_k","_law_name","_law_drawn_here","_law_codes","_law_figures","_law_rights","_law_who","_law_times"]) (TQ o2 (az aQ)) (unop%fN (g9 0 (unop%a' ["_law_j","_law_drawn_here"]))) (unop%fN (yy (hC (yN.or yd) yD (az (gD (az (i2 (a5 1) (az (b3 (az (dY (aH aQ (aH aQ (aH aQ bF))))) (a5 0))))) (az aQ))) (az aQ)))) (unop%fN (b3 (az (dY (aH bY (aH bY (aH bY bF))))) (a5 0))))) j_))) (bH (et 8 kC.a' (b3 (az (dY (aH bY (aH bY (aH bY bF))))) (az (gD (az (i2 (a5 4) (az aQ))) (az aQ))))) (bI (et 5 kC.a' (kH (a5 5) (az (dY (aH (dY (aH (bJ 6) (aH (bJ 8) (aH (bJ 7) (aH (b3 (az (dY (aH aQ (aH aQ (aH aQ (aH aQ (aH aQ bF))))))) (az (gD (az (i2 (a5 4) (az aQ))) (az aQ)))) bF))))) bF)))))))) ew)))) (bH (et 4 kC.a' (i2 (az (il yi au (aH (bJ 0) (aH aQ bF)))) (az aQ))) (bH (et 9 kC.a' (dY (aH (b3 (az (dY (aH aQ (aH aQ (aH aQ (aH aQ bF)))))) (az (gD (a5 4) (az aQ)))) (aH (b3 (az (dY (aH aQ (aH aQ (aH aQ (aH aQ bF)))))) (az (gD (az (i2 (a5 4) (az aQ))) (az aQ)))) (aH (b3 (az (dY (aH aQ (aH aQ (aH aQ (aH aQ bF)))))) (az (gD (az (i2 (a5 4) (az aQ))) (az aQ)))) bF))))) (bI (d_ (dY (aH (bJ 1) (aH (bJ 5) (aH (bJ 9) bF))))))))))))
abbrev amo:Stmt:=top 7
def Li:cK ["plan","lines","used"] ["plan"] (bt amo):=unop%dr 0
def LL(F:alX K "begun" "begun" amo f fd)(m:mg "begun"=some (.ref f))(ft:mg "tuple"=none):Cl P w K mg base "begun" (k+1) 1 yu:=
 l6 F Li (unop%cf F) m unop%lm
  (bH (et 1 Li.a' (oV ft (jH (az (tC (own:=["zone"]) (caps:=[]) (binop%co amo ["plan","lines","used"]) (mQ (b3 (a5 0) (az aQ))) (unop%fN (g9 0 (unop%a' ["zone"]))) (unop%fN yz) (unop%fN bY))) j_))) (bH (et 2 Li.a' (oV ft (jH (az (tC (own:=["code"]) (caps:=[]) (binop%co amo ["plan","lines","used"]) (mQ (b3 (a5 0) (az aQ))) (unop%fN (g9 0 (unop%a' ["code"]))) (unop%fN yz) (unop%fN aQ))) j_))) (bI (d_ (dY (aH bY (aH aQ (aH o3 (aH (bJ 1) (aH (dY bF) (aH aQ (aH (dY bF) (aH aQ (aH aQ (aH (bJ 2) bF)))))))))))))))
abbrev B5:Stmt:=inClass (top 24) 0
def afX:cK ["self","plan"] ["self","plan"] (bt B5):=unop%dr 0
def af'(F:alX K "__init__" "Box.__init__" B5 f fd)(gU:tX K cD f)(m:mg "Box"=some (.ref cD))(cC:unop%dR 1)(LL:Cl P w K mg base "begun" k 1 yu):o9 P w K mg base "Box" cD 1 (k+1) 2 tj:=
 TG F afX (unop%ct F) gU m unop%lm
  (bH (fQ (j:=0) cC (aT 0) (bJ 1)) (bH (rl (j:=1) cC (aT 0) (vQ bF)) (bI (rl (j:=2) cC (aT 0) (vQ (aH (il LL au (aH (bJ 1) bF)) bF))))))
abbrev Cj:Stmt:=inClass (top 24) 6
def agn:cK ["self"] ["self"] (bt Cj):=unop%dr 0
def rd(F:alX K "state" "Box.state" Cj f fd)(m:Meth K cD "state" f)(cC:unop%dR 1):e4 P w K mg base cD "state" (k+1) 1 l0:=
 oY F agn (unop%cf F) m unop%lm
  (bI (d_ (b3 (gh (j:=2) cC (aT 0)) (az (ak1 (az aQ))))))
abbrev tA:Stmt:=top 21
def CR:cK ["plan","state","not_shut"] ["plan","state"] (bt tA):=unop%dr 0
def ajJ(F:alX K "shown" "shown" tA f fd)(m:mg "shown"=some (.ref f))(ft:mg "tuple"=none)(lj:mg "zip"=none):Cl P w K mg base "shown" (k+1) 2 vB:=
 l6 F CR (unop%ct F) m unop%lm
  (bH (LV 2 CR.a' (own:=["zone","line"]) (caps:=[]) (binop%co tA ["plan","state","not_shut"]) (Ug lj (b3 (a5 0) (az aQ)) (b3 (a5 1) (az aQ))) (unop%fN (yQ (nL (g9 0 (unop%a' ["zone","line"])) (nL (g9 1 (unop%a' ["zone","line"])) yR)))) (unop%fN (yy (binop%nr (a5 1) (az bY)))) (unop%fN (b3 (a5 0) (az aQ)))) (bI (d_ (dY (aH (b3 (a5 1) (az aQ)) (aH (p' (yN.or yd) yD (az (b3 (a5 1) (az aQ))) (az aQ)) (aH (oV ft (jH (a5 2) j_)) bF)))))))
def Ku(F:alX K "shown" "shown" tA f fd)(m:mg "shown_rows"=some (.ref f))(ft:mg "tuple"=none)(lj:mg "zip"=none):Cl P w K mg base "shown_rows" (k+1) 2 vB:=
 akD F CR (unop%ct F) m unop%lm
  (bH (LV 2 CR.a' (own:=["zone","line"]) (caps:=[]) (binop%co tA ["plan","state","not_shut"]) (Ug lj (b3 (a5 0) (az aQ)) (b3 (a5 1) (az aQ))) (unop%fN (yQ (nL (g9 0 (unop%a' ["zone","line"])) (nL (g9 1 (unop%a' ["zone","line"])) yR)))) (unop%fN (yy (binop%nr (a5 1) (az bY)))) (unop%fN (b3 (a5 0) (az aQ)))) (bI (d_ (dY (aH (b3 (a5 1) (az aQ)) (aH (p' (yN.or yd) yD (az (b3 (a5 1) (az aQ))) (az aQ)) (aH (oV ft (jH (a5 2) j_)) bF)))))))
abbrev Ck:Stmt:=inClass (top 24) 7
def ago:cK ["self"] ["self"] (bt Ck):=unop%dr 0
def KI(F:alX K "shown" "Box.shown" Ck f fd)(m:Meth K cD "shown" f)(cC:unop%dR 1)(Ku:Cl P w K mg base "shown_rows" k 2 vB)(rd:e4 P w K mg base cD "state" k 1 l0):e4 P w K mg base cD "shown" (k+1) 1 tn:=
 oY F ago (unop%cf F) m unop%lm
  (bI (d_ (il Ku au (aH (ip (j:=0) cC (aT 0)) (aH (rj cC rd au (aT 0)) bF)))))
abbrev u_:Stmt:=inClass (top 15) 0
def afO:cK ["self","plan","state"] ["self","plan","state"] (bt u_):=unop%dr 0
def afT(F:alX K "__init__" "Course.__init__" u_ f fd)(gU:tX K bq f)(m:mg "Course"=some (.ref bq))(aU:unop%dR 0)(rp:mg "dict"=none)(rr:mg "list"=none)(lj:mg "zip"=none):o9 P w K mg base "Course" bq 0 (k+1) 3 xK:=
 TG F afO (unop%fe F) gU m unop%lm
  (bH (fQ (j:=0) aU (aT 0) (bJ 1)) (bH (fQ (j:=1) aU (aT 0) (b3 (a5 2) (az aQ))) (bH (fQ (j:=2) aU (aT 0) (b3 (a5 2) (az aQ))) (bH (fQ (j:=3) aU (aT 0) (b3 (a5 2) (az aQ))) (bH (SG (j:=4) aU rfl rp lj (aT 0) (az (tC (own:=["zone"]) (caps:=[]) (binop%co u_ ["self","plan","state"]) (mQ (b3 (a5 1) (az aQ))) (unop%fN (g9 0 (unop%a' ["zone"]))) (unop%fN yz) (unop%fN (b3 (a5 0) (az aQ))))) (az (b3 (a5 2) (az aQ)))) (bH (rl (j:=5) aU (aT 0) (SJ rr (az (b3 (a5 2) (az aQ))))) (bH (fQ (j:=6) aU (aT 0) (b3 (a5 2) (az aQ))) (bH (rl (j:=7) aU (aT 0) (SJ rr (az (b3 (a5 2) (az aQ))))) (bH (fQ (j:=8) aU (aT 0) (b3 (a5 2) (az aQ))) (bH (fQ (j:=9) aU (aT 0) (b3 (a5 2) (az aQ))) (bH (SG (j:=10) aU rfl rp lj (aT 0) (az (tC (own:=["code"]) (caps:=[]) (binop%co u_ ["self","plan","state"]) (mQ (b3 (a5 1) (az aQ))) (unop%fN (g9 0 (unop%a' ["code"]))) (unop%fN yz) (unop%fN (b3 (a5 0) (az aQ))))) (az (b3 (a5 2) (az aQ)))) (bH (fQ (j:=11) aU (aT 0) aQ) (bI (rl (j:=12) aU (aT 0) (vQ bF)))))))))))))))
abbrev B8:Stmt:=inClass (top 15) 3
def af5:cK ["self","word","name"] ["self","word","name"] (bt B8):=unop%dr 0
def g0(F:alX K "tell" "Course.tell" B8 f fd)(m:Meth K bq "tell" f)(aU:unop%dR 0):cR P w K mg base bq 0 "tell" (k+1) 3 fW:=
 hB F af5 (unop%fe F) m unop%lm
  (bI (C9 (j:=12) aU (aT 0) (dY (aH (ip (j:=11) aU (aT 0)) (aH (bJ 1) (aH (bJ 2) bF))))))
abbrev ya:Stmt:=top 6
def Ct:cK ["plan","name","zone"] ["plan","name"] (bt ya):=unop%dr 0
def rh(F:alX K "kind_of" "kind_of" ya f fd)(m:mg "kind_of"=some (.ref f)) :Cl P w K mg base "kind_of" (k+1) 2 oT:=
 l6 F Ct (unop%ct F) m unop%lm
  (bH (ry q3 (mQ (b3 (a5 0) (az aQ))) (g9 2 Ct.a') (bI (dz (binop%fI (az (b3 (a5 2) (az aQ))) (a5 1)) (bI (d_ (b3 (a5 2) (az aQ)))) ew))) (bI SF))
def Cr{k:Nat}{f:ag}{fd:dV}(F:alX K "kind_of" "kind_of" ya f fd)(m:mg "kind_of"=some (.ref f)){alY xz fO:ag}(h4:al7 K mg alY xz fO)(ke:nW K alY xz)  :qc P w K mg base "kind_of" xz (k+1) 2 vn:=
 akE F Ct (unop%ct F) m unop%lm
  (afK (ry q3 (mQ (b3 (a5 0) (az aQ))) (g9 2 Ct.a') (bI (dz (binop%fI (az (b3 (a5 2) (az aQ))) (a5 1)) (bI (d_ (b3 (a5 2) (az aQ)))) ew))) (tE (SA h4.O5 ke.new (aj5 (a5 1)) au.hd)))
abbrev BW:Stmt:=inClass (top 15) 4
def afR:cK ["self"] ["self"] (bt BW):=unop%dr 0
def xO(F:alX K "be_loud" "Course.be_loud" BW f fd)(m:Meth K bq "be_loud" f)(aU:unop%dR 0):cR P w K mg base bq 0 "be_loud" (k+1) 1 amf:=
 hB F afR (unop%cf F) m unop%lm
  (bI (fQ (j:=6) aU (aT 0) (b3 (az (b3 (gh (j:=0) aU (aT 0)) (az aQ))) (az aQ))))
abbrev B4:Stmt:=inClass (top 15) 5
def afW:cK ["self","zone"] ["self","zone"] (bt B4):=unop%dr 0
def oQ(F:alX K "alarm" "Course.alarm" B4 f fd)(m:Meth K bq "alarm" f)(aU:unop%dR 0)(xO:cR P w K mg base bq 0 "be_loud" k 1 amf)(g0:cR P w K mg base bq 0 "tell" k 3 fW):cR P w K mg base bq 0 "alarm" (k+1) 2 lh:=
 hB F afW (unop%ct F) m unop%lm
  (bH (eD (ri aU xO au (aT 0))) (bI (dz (hC (yb (by exact au.units)) nJ (a5 1) (gh (j:=7) aU (aT 0))) (bH (C9 (j:=7) aU (aT 0) (bJ 1)) (bI (eD (eC aU g0 au (aT 0) (aH bY (aH (bJ 1) bF)))))) ew)))
abbrev BV:Stmt:=inClass (top 15) 9
def afQ:cK ["self","zone","kind"] ["self","zone","kind"] (bt BV):=unop%dr 0
def Ka(F:alX K "come_in" "Course.come_in" BV f fd)(m:Meth K bq "come_in" f)(aU:unop%dR 0)(g0:cR P w K mg base bq 0 "tell" k 3 fW)(oQ:cR P w K mg base bq 0 "alarm" k 2 lh):cR P w K mg base bq 0 "come_in" (k+1) 3 tg:=
 hB F afQ (unop%fe F) m unop%lm
  (bH (dz (oE (w_or (binop%nr (a5 2) (az bY)) (tM (hC (Mh.or K4) LZ (az (b3 (az (b3 (gh (j:=0) aU (aT 0)) (az aQ))) (az aQ))) (az aQ))))) (bH (eD (eC aU oQ au (aT 0) (aH (bJ 1) bF))) (bI Lx)) ew) (bH (fQ (j:=1) aU (aT 0) bY) (bH (fQ (j:=2) aU (aT 0) (b3 (az (b3 (gh (j:=0) aU (aT 0)) (az aQ))) (az aQ))) (bH (fQ (j:=3) aU (aT 0) (bJ 1)) (bI (eD (eC aU g0 au (aT 0) (aH bY (aH (bJ 1) bF)))))))))
abbrev BU:Stmt:=inClass (top 15) 8
def P0:cK ["self","zone","what","kind"] ["self","zone","what"] (bt BU):=unop%dr 0
def J'(F:alX K "disturb" "Course.disturb" BU f fd)(m:Meth K bq "disturb" f)(aU:unop%dR 0)(rh:Cl P w K mg base "kind_of" k 2 oT)(oQ:cR P w K mg base bq 0 "alarm" k 2 lh)(g0:cR P w K mg base bq 0 "tell" k 3 fW)(Ka:cR P w K mg base bq 0 "come_in" k 3 tg):cR P w K mg base bq 0 "disturb" (k+1) 3 xN:=
 hB F P0 (unop%fe F) m unop%lm
  (bH (et 3 P0.a' (il rh au (aH (ip (j:=0) aU (aT 0)) (aH (bJ 1) bF)))) (bI (dz (binop%fI (a5 3) (az bY)) (bI (eD (eC aU oQ au (aT 0) (aH (bJ 1) bF)))) (bI (dz (binop%fI (gh (j:=1) aU (aT 0)) (az bY)) (bI (dz (binop%fI (a5 2) (az bY)) (bI (eD (eC aU g0 au (aT 0) (aH bY (aH (bJ 1) bF))))) ew)) (bI (dz (oE (w_or (binop%fI (a5 2) (az bY)) (tM (binop%fI (a5 3) (az bY))))) (bI (eD (eC aU oQ au (aT 0) (aH (bJ 1) bF)))) (bI (dz (binop%fI (gh (j:=1) aU (aT 0)) (az bY)) (bI (eD (eC aU Ka au (aT 0) (aH (bJ 1) (aH (bJ 3) bF))))) ew)))))))))
abbrev B9:Stmt:=inClass (top 15) 7
def Qa:cK ["self","zone","what","before"] ["self","zone","what"] (bt B9):=unop%dr 0
def Kn(F:alX K "line" "Course.line" B9 f fd)(m:Meth K bq "line" f)(aU:unop%dR 0)(g0:cR P w K mg base bq 0 "tell" k 3 fW)(J':cR P w K mg base bq 0 "disturb" k 3 xN):cR P w K mg base bq 0 "line" (k+1) 3 xX:=
 hB F Qa (unop%fe F) m unop%lm
  (bH (et 3 Qa.a' (LX (j:=4) aU (yP au) (aT 0) (a5 1))) (bH (dz (binop%fI (a5 2) (a5 3)) (bI Lx) ew) (bH (ajW (j:=4) aU (yP au) (aT 0) (a5 1) (bJ 2)) (bI (dz (binop%fI (a5 2) (az bY)) (bI (dz (binop%fI (a5 3) (az bY)) (bI (eD (eC aU g0 au (aT 0) (aH bY (aH (bJ 1) bF))))) ew)) (bI (dz (hC (yb (by exact au.units)) nJ (a5 1) (gh (j:=5) aU (aT 0))) (bI (eD (eC aU J' au (aT 0) (aH (bJ 1) (aH (bJ 2) bF))))) ew)))))))
abbrev CI:Stmt:=top 13
def Q1:cK ["plan","figures","code"] ["plan","figures"] (bt CI):=unop%dr 0
def Lc(F:alX K "code_of" "code_of" CI f fd)(m:mg "code_of"=some (.ref f)) :Cl P w K mg base "code_of" (k+1) 2 yf:=
 l6 F Q1 (unop%ct F) m unop%lm
  (bH (ry q3 (mQ (b3 (a5 0) (az aQ))) (g9 2 Q1.a') (bI (dz (binop%fI (az (b3 (a5 2) (az aQ))) (a5 1)) (bI (ajU 2)) ew))) (bI (d_ o3)))
abbrev BN:Stmt:=inClass (top 15) 16
def afG:cK ["self","code"] ["self","code"] (bt BN):=unop%dr 0
def JZ(F:alX K "is_used_up" "Course.is_used_up" BN f fd)(m:Meth K bq "is_used_up" f)(aU:unop%dR 0):e4 P w K mg base bq "is_used_up" (k+1) 2 u9:=
 oY F afG (unop%ct F) m unop%lm
  (bI (d_ (Ua (p' (Dd (by exact au.units)) Df (az (b3 (a5 1) (az aQ))) (az aQ)) (Ts (p' (Ud.or Rq) TB (az (LX (j:=10) aU (yP au) (aT 0) (az (b3 (a5 1) (az aQ))))) (az (b3 (a5 1) (az aQ))))))))
abbrev BL:Stmt:=inClass (top 15) 17
def afF:cK ["self"] ["self"] (bt BL):=unop%dr 0
def JX(F:alX K "take_wrong" "Course.take_wrong" BL f fd)(m:Meth K bq "take_wrong" f)(aU:unop%dR 0)(g0:cR P w K mg base bq 0 "tell" k 3 fW)(xO:cR P w K mg base bq 0 "be_loud" k 1 amf){JG:Tok}(amd:mg "WRONG_IN_A_ROW"=some (.int 3 JG)){JF:Tok}(sf:mg "TICKS_LOCKED"=some (.int 90 JF)):cR P w K mg base bq 0 "take_wrong" (k+1) 1 amm:=
 hB F afF (unop%cf F) m unop%lm
  (bH (eD (eC aU g0 au (aT 0) (aH bY (aH o3 bF)))) (bH (Tp (j:=8) aU (aT 0) aQ) (bI (dz (hC (Ud.or Rq) TB (gh (j:=8) aU (aT 0)) (az (Pd amd))) (bH (fQ (j:=8) aU (aT 0) aQ) (bH (fQ (j:=9) aU (aT 0) (Pd sf)) (bH (eD (ri aU xO au (aT 0))) (bI (eD (eC aU g0 au (aT 0) (aH bY (aH o3 bF)))))))) ew))))
abbrev BJ:Stmt:=inClass (top 15) 20
def afE:cK ["self","deed","zone"] ["self","deed","zone"] (bt BJ):=unop%dr 0
def JW(F:alX K "is_untimely" "Course.is_untimely" BJ f fd)(m:Meth K bq "is_untimely" f)(aU:unop%dR 0)(rh:Cl P w K mg base "kind_of" k 2 oT):e4 P w K mg base bq "is_untimely" (k+1) 3 oN:=
 oY F afE (unop%fe F) m unop%lm
  (bH (dz (binop%fI (a5 1) (az bY)) (bI (d_ qQ)) ew) (bH (dz (binop%nr (gh (j:=1) aU (aT 0)) (az bY)) (bI (d_ qQ)) ew) (bH (dz (binop%fI (a5 1) (az bY)) (bI (d_ (adN (p' (De (by exact au.units)) Dg (az (il rh au (aH (ip (j:=0) aU (aT 0)) (aH (bJ 2) bF)))) (az bY)) (akZ (p' (vI (by exact au.units)) nJ (a5 2) (gh (j:=5) aU (aT 0))))))) ew) (bI (d_ (Ua (p' (De (by exact au.units)) Dg (a5 1) (az bY)) (Ts (p' (yb (by exact au.units)) nJ (a5 2) (gh (j:=5) aU (aT 0))))))))))
abbrev u5:Stmt:=inClass (top 15) 6
def PV:cK ["self","kinds","zones"] ["self","kinds"] (bt u5):=unop%dr 0
def xI(F:alX K "bare_zones" "Course.bare_zones" u5 f fd)(m:Meth K bq "bare_zones" f)(aU:unop%dR 0):e4 P w K mg base bq "bare_zones" (k+1) 2 tf:=
 oY F PV (unop%ct F) m unop%lm
  (bH (LV 2 PV.a' (own:=["zone"]) (caps:=[(1,"kinds")]) (binop%co u5 ["self","kinds","zones"]) (mQ (b3 (gh (j:=0) aU (aT 0)) (az aQ))) (unop%fN (g9 0 (unop%a' ["zone","kinds"]))) (unop%fN (yy (hC (vI (by exact au.units)) nJ (az (b3 (a5 0) (az aQ))) (a5 1)))) (unop%fN (b3 (a5 0) (az aQ)))) (bI (d_ (tC (own:=["zone"]) (caps:=[(0,"self")]) (binop%co u5 ["self","kinds","zones"]) (mQ (bJ 2)) (unop%fN (g9 0 (unop%a' ["zone","self"]))) (unop%fN (yy (oE (w_and (binop%nr (az (LX (j:=4) (by exact aU) (by exact yP au) (aT 1) (a5 0))) (az bY)) (LQ (hC (yb (by exact au.units)) nJ (a5 0) (gh (j:=5) (by exact aU) (aT 1)))))))) (unop%fN (bJ 0))))))
abbrev BI:Stmt:=inClass (top 15) 19
def JU:cK ["self","code","deed","zone","right","bare"] ["self","code","deed","zone"] (bt BI):=unop%dr 0
def JV(F:alX K "what_is_against" "Course.what_is_against" BI f fd)(m:Meth K bq "what_is_against" f)(aU:unop%dR 0)(JW:e4 P w K mg base bq "is_untimely" k 3 oN)(xI:e4 P w K mg base bq "bare_zones" k 2 tf){t7:ag}(aaL:mg "KINDS_SHUT_TO_SET"=some (.ref t7))(afk:∃(o:Obj) (its:Array aj) (n:Nat),K.lookup t7=some o/\o.cls=.type "tuple"/\o.data=.seq its n/\its.size<=cG/\Vals ((["day","once"]:List Str).map V.str) its.toList):e4 P w K mg base bq "what_is_against" (k+1) 4 xE:=
 oY F JU (unop%kf F) m unop%lm
  (bH (et 4 JU.a' (ak3 (binop%fI (a5 2) (az bY)) bY (bJ 2))) (bH (dz (hC (yb (by exact au.units)) nJ (a5 4) (az (b3 (a5 1) (az aQ)))) (bI (d_ (dY (aH bY (aH (b3 (a5 1) (az aQ)) bF))))) ew) (bH (dz (Ti (az (tB aU JW au (aT 0) (aH (bJ 2) (aH (bJ 3) bF))))) (bI (d_ (dY (aH bY (aH (b3 (a5 1) (az aQ)) bF))))) ew) (bH (et 5 JU.a' (tB aU xI au (aT 0) (aH (Be aaL afk) bF))) (bH (dz (oE (w_and (binop%fI (a5 2) (az bY)) (LQ (LR (a5 5))))) (bI (d_ (dY (aH bY (aH (b3 (a5 5) (az aQ)) bF))))) ew) (bI (d_ o3)))))))
abbrev BK:Stmt:=inClass (top 15) 13
def PS:cK ["self","zone"] ["self"] (bt BK):=unop%dr 0
def xF(F:alX K "end_leaving" "Course.end_leaving" BK f fd)(m:Meth K bq "end_leaving" f)(aU:unop%dR 0)(g0:cR P w K mg base bq 0 "tell" k 3 fW)(xI:e4 P w K mg base bq "bare_zones" k 2 tf)(oQ:cR P w K mg base bq 0 "alarm" k 2 lh){t6:ag}(aaK:mg "KINDS_LEFT_BY"=some (.ref t6))(afh:∃(o:Obj) (its:Array aj) (n:Nat),K.lookup t6=some o/\o.cls=.type "tuple"/\o.data=.seq its n/\its.size<=cG/\Vals ((["inner","way"]:List Str).map V.str) its.toList):cR P w K mg base bq 0 "end_leaving" (k+1) 1 tc:=
 hB F PS (unop%cf F) m unop%lm
  (bH (fQ (j:=1) aU (aT 0) bY) (bH (fQ (j:=2) aU (aT 0) aQ) (bH (eD (eC aU g0 au (aT 0) (aH bY (aH o3 bF)))) (bI (ry q3 (mQ (tB aU xI au (aT 0) (aH (Be aaK afh) bF))) (g9 1 PS.a') (bI (eD (eC aU oQ au (aT 0) (aH (bJ 1) bF)))))))))
abbrev BZ:Stmt:=inClass (top 15) 22
def afV:cK ["self","who"] ["self","who"] (bt BZ):=unop%dr 0
def Kc(F:alX K "do_set" "Course.do_set" BZ f fd)(m:Meth K bq "do_set" f)(aU:unop%dR 0)(g0:cR P w K mg base bq 0 "tell" k 3 fW)(xF:cR P w K mg base bq 0 "end_leaving" k 1 tc):cR P w K mg base bq 0 "do_set" (k+1) 2 vb:=
 hB F afV (unop%ct F) m unop%lm
  (bH (rl (j:=7) aU (aT 0) (vQ bF)) (bH (fQ (j:=6) aU (aT 0) aQ) (bH (fQ (j:=1) aU (aT 0) bY) (bH (fQ (j:=2) aU (aT 0) (b3 (az (b3 (gh (j:=0) aU (aT 0)) (az aQ))) (az aQ))) (bH (eD (eC aU g0 au (aT 0) (aH bY (aH (bJ 1) bF)))) (bI (dz (hC (Mh.or K4) LZ (gh (j:=2) aU (aT 0)) (az aQ)) (bI (eD (ri aU xF au (aT 0)))) ew)))))))
abbrev BR:Stmt:=inClass (top 15) 23
def afN:cK ["self","who"] ["self","who"] (bt BR):=unop%dr 0
def J6(F:alX K "do_unset" "Course.do_unset" BR f fd)(m:Meth K bq "do_unset" f)(aU:unop%dR 0)(g0:cR P w K mg base bq 0 "tell" k 3 fW):cR P w K mg base bq 0 "do_unset" (k+1) 2 xJ:=
 hB F afN (unop%ct F) m unop%lm
  (bH (fQ (j:=1) aU (aT 0) bY) (bH (fQ (j:=2) aU (aT 0) aQ) (bH (fQ (j:=6) aU (aT 0) aQ) (bH (fQ (j:=3) aU (aT 0) o3) (bH (rl (j:=5) aU (aT 0) (vQ bF)) (bI (eD (eC aU g0 au (aT 0) (aH bY (aH (bJ 1) bF))))))))))
abbrev BS:Stmt:=inClass (top 15) 21
def afP:cK ["self","who","deed","zone"] ["self","who","deed","zone"] (bt BS):=unop%dr 0
def J_(F:alX K "do_deed" "Course.do_deed" BS f fd)(m:Meth K bq "do_deed" f)(aU:unop%dR 0)(Kc:cR P w K mg base bq 0 "do_set" k 2 vb)(J6:cR P w K mg base bq 0 "do_unset" k 2 xJ)(ami:mg "sorted"=none)(g0:cR P w K mg base bq 0 "tell" k 3 fW):cR P w K mg base bq 0 "do_deed" (k+1) 4 q8:=
 hB F afP (unop%kf F) m unop%lm
  (bI (dz (binop%fI (a5 2) (az bY)) (bI (eD (eC aU Kc au (aT 0) (aH (bJ 1) bF)))) (bI (dz (binop%fI (a5 2) (az bY)) (bI (eD (eC aU J6 au (aT 0) (aH (bJ 1) bF)))) (bI (dz (binop%fI (a5 2) (az bY)) (bH (rl (j:=5) aU (aT 0) (ahs rfl ami (az (kH (gh (j:=5) aU (aT 0)) (az (aj4 (aH (bJ 3) bF))))))) (bI (eD (eC aU g0 au (aT 0) (aH bY (aH (bJ 3) bF)))))) (bH (akU (j:=5) aU (aT 0) (bJ 3)) (bI (eD (eC aU g0 au (aT 0) (aH bY (aH (bJ 3) bF))))))))))))
abbrev BM:Stmt:=inClass (top 15) 18
def PT:cK ["self","code","deed","zone","against"] ["self","code","deed","zone"] (bt BM):=unop%dr 0
def JY(F:alX K "take_right" "Course.take_right" BM f fd)(m:Meth K bq "take_right" f)(aU:unop%dR 0)(JV:e4 P w K mg base bq "what_is_against" k 4 xE)(J_:cR P w K mg base bq 0 "do_deed" k 4 q8)(g0:cR P w K mg base bq 0 "tell" k 3 fW):cR P w K mg base bq 0 "take_right" (k+1) 4 amn:=
 hB F PT (unop%kf F) m unop%lm
  (bH (et 4 PT.a' (tB aU JV au (aT 0) (aH (bJ 1) (aH (bJ 2) (aH (bJ 3) bF))))) (bI (dz (T6 (a5 4)) (bH (ai1 (j:=10) aU (yP au) (aT 0) (az (b3 (a5 1) (az aQ))) aQ) (bI (eD (eC aU J_ au (aT 0) (aH (b3 (a5 1) (az aQ)) (aH (bJ 2) (aH (bJ 3) bF))))))) (bI (eD (eC aU g0 au (aT 0) (aH (b3 (a5 4) (az aQ)) (aH (b3 (a5 4) (az aQ)) bF))))))))
abbrev B_:Stmt:=inClass (top 15) 15
def Qb:cK ["self","figures","deed","zone","code"] ["self","figures","deed","zone"] (bt B_):=unop%dr 0
def Ko(F:alX K "code" "Course.code" B_ f fd)(m:Meth K bq "code" f)(aU:unop%dR 0)(Lc:Cl P w K mg base "code_of" k 2 yf)(g0:cR P w K mg base bq 0 "tell" k 3 fW)(JZ:e4 P w K mg base bq "is_used_up" k 2 u9)(JX:cR P w K mg base bq 0 "take_wrong" k 1 amm)(JY:cR P w K mg base bq 0 "take_right" k 4 amn):cR P w K mg base bq 0 "code" (k+1) 4 rb:=
 hB F Qb (unop%kf F) m unop%lm
  (bH (et 4 Qb.a' (il Lc au (aH (ip (j:=0) aU (aT 0)) (aH (bJ 1) bF)))) (bI (dz (hC (yN.or yd) yD (gh (j:=9) aU (aT 0)) (az aQ)) (bI (eD (eC aU g0 au (aT 0) (aH bY (aH o3 bF))))) (bI (dz (oE (w_or (T6 (a5 4)) (tM (Ti (az (tB aU JZ au (aT 0) (aH (bJ 4) bF))))))) (bI (eD (ri aU JX au (aT 0)))) (bH (fQ (j:=8) aU (aT 0) aQ) (bI (eD (eC aU JY au (aT 0) (aH (bJ 4) (aH (bJ 2) (aH (bJ 3) bF))))))))))))
abbrev Cu:Stmt:=top 14
def agF:cK ["ticks","many"] ["ticks","many"] (bt Cu):=unop%dr 0
def x_(F:alX K "lessened" "lessened" Cu f fd)(m:mg "lessened"=some (.ref f))(tF:mg "max"=none):Cl P w K mg base "lessened" (k+1) 2 tr:=
 l6 F agF (unop%ct F) m unop%lm
  (bI (d_ (ak2 tF (jH (az (T' (a5 0) (a5 1))) (jH (az aQ) j_)))))
abbrev BP:Stmt:=inClass (top 15) 11
def afH:cK ["self","many"] ["self","many"] (bt BP):=unop%dr 0
def xH(F:alX K "count_down" "Course.count_down" BP f fd)(m:Meth K bq "count_down" f)(aU:unop%dR 0)(x_:Cl P w K mg base "lessened" k 2 tr):cR P w K mg base bq 0 "count_down" (k+1) 2 te:=
 hB F afH (unop%ct F) m unop%lm
  (bH (Tp (j:=11) aU (aT 0) (bJ 1)) (bH (fQ (j:=9) aU (aT 0) (il x_ au (aH (ip (j:=9) aU (aT 0)) (aH (bJ 1) bF)))) (bH (fQ (j:=6) aU (aT 0) (il x_ au (aH (ip (j:=6) aU (aT 0)) (aH (bJ 1) bF)))) (bI (fQ (j:=2) aU (aT 0) (il x_ au (aH (ip (j:=2) aU (aT 0)) (aH (bJ 1) bF))))))))
abbrev BO:Stmt:=inClass (top 15) 14
def PU:cK ["self","zone"] ["self"] (bt BO):=unop%dr 0
def J0(F:alX K "end_coming" "Course.end_coming" BO f fd)(m:Meth K bq "end_coming" f)(aU:unop%dR 0)(oQ:cR P w K mg base bq 0 "alarm" k 2 lh):cR P w K mg base bq 0 "end_coming" (k+1) 1 xG:=
 hB F PU (unop%cf F) m unop%lm
  (bH (et 1 PU.a' (ip (j:=3) aU (aT 0))) (bH (fQ (j:=1) aU (aT 0) bY) (bH (fQ (j:=3) aU (aT 0) o3) (bI (eD (eC aU oQ au (aT 0) (aH (bJ 1) bF)))))))
abbrev BQ:Stmt:=inClass (top 15) 12
def afM:cK ["self"] ["self"] (bt BQ):=unop%dr 0
def J5(F:alX K "end_time" "Course.end_time" BQ f fd)(m:Meth K bq "end_time" f)(aU:unop%dR 0)(xF:cR P w K mg base bq 0 "end_leaving" k 1 tc)(J0:cR P w K mg base bq 0 "end_coming" k 1 xG):cR P w K mg base bq 0 "end_time" (k+1) 1 u':=
 hB F afM (unop%cf F) m unop%lm
  (bI (dz (binop%fI (gh (j:=1) aU (aT 0)) (az bY)) (bI (eD (ri aU xF au (aT 0)))) (bI (eD (ri aU J0 au (aT 0))))))
abbrev B2:Stmt:=inClass (top 15) 10
def P9:cK ["self","many","rest"] ["self","many"] (bt B2):=unop%dr 0
def Ke(F:alX K "ticks" "Course.ticks" B2 f fd)(m:Meth K bq "ticks" f)(aU:unop%dR 0)(xH:cR P w K mg base bq 0 "count_down" k 2 te)(J5:cR P w K mg base bq 0 "end_time" k 1 u'):cR P w K mg base bq 0 "ticks" (k+1) 2 ra:=
 hB F P9 (unop%ct F) m unop%lm
  (bH (dz (hC (yM.or yc) yC (a5 1) (az aQ)) (bI Lx) ew) (bI (dz (oE (w_and (hC (vI (by exact au.units)) nJ (gh (j:=1) aU (aT 0)) (az (dY (aH bY (aH bY bF))))) (LQ (hC (Mh.or K4) LZ (gh (j:=2) aU (aT 0)) (a5 1))))) (bH (et 2 P9.a' (T' (a5 1) (gh (j:=2) aU (aT 0)))) (bH (eD (eC aU xH au (aT 0) (aH (ip (j:=2) aU (aT 0)) bF))) (bH (eD (ri aU J5 au (aT 0))) (bI (eD (eC aU xH au (aT 0) (aH (bJ 2) bF))))))) (bI (eD (eC aU xH au (aT 0) (aH (bJ 1) bF)))))))
abbrev BY:Stmt:=inClass (top 15) 2
def afU:cK ["self","event"] ["self","event"] (bt BY):=unop%dr 0
def Kb(F:alX K "happen" "Course.happen" BY f fd)(m:Meth K bq "happen" f)(aU:unop%dR 0)(Kn:cR P w K mg base bq 0 "line" k 3 xX)(Ko:cR P w K mg base bq 0 "code" k 4 rb)(Ke:cR P w K mg base bq 0 "ticks" k 2 ra):cR P w K mg base bq 0 "happen" (k+1) 2 q':=
 hB F afU (unop%ct F) m unop%lm
  (bI (dz (binop%fI (az (b3 (a5 1) (az aQ))) (az bY)) (bI (eD (eC aU Kn au (aT 0) (aH (b3 (a5 1) (az aQ)) (aH (b3 (a5 1) (az aQ)) bF))))) (bI (dz (binop%fI (az (b3 (a5 1) (az aQ))) (az bY)) (bI (eD (eC aU Ko au (aT 0) (aH (b3 (a5 1) (az aQ)) (aH (b3 (a5 1) (az aQ)) (aH (b3 (a5 1) (az aQ)) bF)))))) (bI (eD (eC aU Ke au (aT 0) (aH (b3 (a5 1) (az aQ)) bF))))))))
abbrev Cg:Stmt:=top 16
def Kq:cK ["plan","state","row","course","event"] ["plan","state","row"] (bt Cg):=unop%dr 0
def KC(ts:List T)(s:aJ)(h:oR ts=some s):∃c os,s=.obj .own c os:=aii (b:=KJ) h
def tp(F:alX K "course_of" "course_of" Cg f fd)(m:mg "course_of"=some (.ref f))(aU:unop%dR 0)(W4:o9 P w K mg base "Course" bq 0 k 3 xK)(Kb:cR P w K mg base bq 0 "happen" k 2 q'):o_ P w K mg base "course_of" (k+2) 3 oR:=
 akG F Kq (unop%fe F) m unop%lm
  (bH (C8 3 Kq.a' (Dv aU W4 au (aH (bJ 0) (aH (bJ 1) bF)))) (bH (ry q3 (mQ (bJ 2)) (g9 4 Kq.a') (bI (eD (eC aU Kb (au.mono (gB _)) (aT 3) (aH (bJ 4) bF))))) (bI (ajT (aT 3)))))
abbrev C2:Stmt:=top 20
def aie:cK ["plan","state","row"] ["plan","state","row"] (bt C2):=unop%dr 0
def LK(F:alX K "story" "story" C2 f fd)(m:mg "story"=some (.ref f))(aU:unop%dR 0)(ft:mg "tuple"=none)(tp:o_ P w K mg base "course_of" k 3 oR):Cl P w K mg base "story" (k+1) 3 yt:=
 l6 F aie (unop%fe F) m unop%lm
  (bI (d_ (oV ft (jH (az (Ro (j:=12) aU (L0 tp KC au (aH (bJ 0) (aH (bJ 1) (aH (bJ 2) bF)))))) j_))))
abbrev CJ:Stmt:=inClass (top 24) 10
def agZ:cK ["self"] ["self"] (bt CJ):=unop%dr 0
def yj(F:alX K "row" "Box.row" CJ f fd)(m:Meth K cD "row" f)(cC:unop%dR 1)(ft:mg "tuple"=none):e4 P w K mg base cD "row" (k+1) 1 p6:=
 oY F agZ (unop%cf F) m unop%lm
  (bI (d_ (oV ft (jH (gh (j:=1) cC (aT 0)) j_))))
abbrev CK:Stmt:=inClass (top 24) 8
def ag0:cK ["self"] ["self"] (bt CK):=unop%dr 0
def Ld(F:alX K "log" "Box.log" CK f fd)(m:Meth K cD "log" f)(cC:unop%dR 1)(LK:Cl P w K mg base "story" k 3 yt)(yj:e4 P w K mg base cD "row" k 1 p6):e4 P w K mg base cD "log" (k+1) 1 tu:=
 oY F ag0 (unop%cf F) m unop%lm
  (bI (d_ (il LK au (aH (ip (j:=0) cC (aT 0)) (aH (b3 (gh (j:=2) cC (aT 0)) (az aQ)) (aH (rj cC yj au (aT 0)) bF))))))
abbrev B7:Stmt:=top 33
def af4:cK ["_law_thing"] ["_law_thing"] (bt B7):=unop%dr 0
def mH(F:alX K "_law_all_asked" "_law_all_asked" B7 f fd)(m:mg "_law_all_asked"=some (.ref f))(cC:unop%dR 1)(rd:e4 P w K mg base cD "state" k 1 l0)(KI:e4 P w K mg base cD "shown" k 1 tn)(Ld:e4 P w K mg base cD "log" k 1 tu)(yj:e4 P w K mg base cD "row" k 1 p6):rM P w K mg base "_law_all_asked" (k+1) 1 gg:=
 akF F af4 (unop%cf F) m unop%lm
  (bI (d_ (dY (aH (rj cC rd au (aT 0)) (aH (rj cC KI au (aT 0)) (aH (rj cC Ld au (aT 0)) (aH (rj cC yj au (aT 0)) bF)))))))
abbrev Cf:Stmt:=top 26
def agl:cK ["_law_script","_law_k"] ["_law_script","_law_k"] (bt Cf):=unop%dr 0
def KG(F:alX K "_law_cell_at" "_law_cell_at" Cf f fd)(m:mg "_law_cell_at"=some (.ref f))(nN:mg "len"=none):Cl P w K mg base "_law_cell_at" (k+1) 2 lZ:=
 l6 F agl (unop%ct F) m unop%lm
  (bH (dz (hC (yM.or yc) yC (a5 1) (az (Mf (by exact nN) (jH (a5 0) j_)))) (bI (d_ (b3 (a5 0) (a5 1)))) ew) (bI (d_ aQ)))
abbrev CF:Stmt:=top 27
def QZ:cK ["_law_script","_law_k","_law_drawn_here"] ["_law_script","_law_k"] (bt CF):=unop%dr 0
def yh(F:alX K "_law_mixed" "_law_mixed" CF f fd)(m:mg "_law_mixed"=some (.ref f))(KG:Cl P w K mg base "_law_cell_at" k 2 lZ):Cl P w K mg base "_law_mixed" (k+1) 2 kD:=
 l6 F QZ (unop%ct F) m unop%lm
  (bH (et 2 QZ.a' (gD (az (rz (az (kH (az (kH (az (il KG au (aH (bJ 0) (aH (bJ 1) bF)))) (az (rz (az aQ) (a5 1))))) (az aQ))) (az aQ))) (az aQ))) (bI (d_ (gD (az (kH (az (kH (az (rz (a5 2) (a5 2))) (az (rz (az aQ) (a5 2))))) (a5 1))) (az aQ)))))
abbrev CG:Stmt:=top 30
def vj:cK ["_law_plan_here","_law_number","_law_zone","_law_kind","_law_figures","_law_deed"] ["_law_plan_here","_law_number"] (bt CG):=unop%dr 0
def Lb(F:alX K "_law_event" "_law_event" CG f fd)(m:mg "_law_event"=some (.ref f))(nN:mg "len"=none):Cl P w K mg base "_law_event" (k+1) 2 ye:=
 l6 F vj (unop%ct F) m unop%lm
  (bH (et 2 vj.a' (b3 (az (b3 (az (b3 (a5 0) (az aQ))) (az (gD (az (i2 (a5 1) (az aQ))) (az (Mf (by exact nN) (jH (az (b3 (a5 0) (az aQ))) j_))))))) (az aQ))) (bH (et 3 vj.a' (gD (a5 1) (az aQ))) (bH (dz (hC (yM.or yc) yC (a5 3) (az aQ)) (bI (d_ (dY (aH bY (aH (bJ 2) (aH (b3 (az (dY (aH bY (aH bY (aH bY (aH bY bF)))))) (az (gD (az (i2 (a5 1) (az aQ))) (az aQ)))) bF)))))) ew) (bH (dz (hC (yM.or yc) yC (a5 3) (az aQ)) (bI (d_ (dY (aH bY (aH (kH (az aQ) (az (gD (az (i2 (a5 1) (az aQ))) (az (b3 (az (dY (aH aQ (aH aQ (aH aQ bF))))) (az (gD (az (i2 (a5 1) (az aQ))) (az aQ)))))))) bF))))) ew) (bH (et 4 vj.a' (b3 (az (b3 (az (b3 (a5 0) (az aQ))) (az (gD (az (i2 (a5 1) (az aQ))) (az (Mf (by exact nN) (jH (az (b3 (a5 0) (az aQ))) j_))))))) (az aQ))) (bH (dz (binop%fI (az (gD (az (i2 (a5 1) (az aQ))) (az aQ))) (az aQ)) (bI (et 4 vj.a' (b3 (az (dY (aH bY (aH bY (aH bY (aH bY bF)))))) (az (gD (az (i2 (a5 1) (az aQ))) (az aQ)))))) ew) (bH (et 5 vj.a' (b3 (az (dY (aH bY (aH bY (aH bY (aH bY (aH bY (aH bY bF)))))))) (az (gD (az (i2 (a5 1) (az aQ))) (az aQ))))) (bH (dz (hC (vI (by exact au.units)) nJ (a5 5) (az (dY (aH bY (aH bY bF))))) (bI (d_ (dY (aH bY (aH (bJ 4) (aH (bJ 5) (aH o3 bF))))))) ew) (bI (d_ (dY (aH bY (aH (bJ 4) (aH (bJ 5) (aH (bJ 2) bF)))))))))))))))
abbrev nC:Stmt:=top 32
def q_:cK ["_law_deed","_law_found"] ["_law_deed"] (bt nC):=unop%dr 0
def xU{K:a9}{f:ag}{fd:dV}(F:alX K "_law_twice_told" "_law_twice_told" nC f fd):Binds K fd ["_law_deed"] []:=F.binds (ps:=["_law_deed"]) λ_ _ _ _ _ _ us aB=>match us,aB with|[_],_=>rfl
def xT{f:ag}(bu:aj)(A:cH)(outer:List Env)(s:aI)(H:ay):fF (eN di P w K mg base ["_law_deed","_law_found"] "_law_twice_told" (bt nC) f bu A outer s H jm).dv (fc nC) (Mc (eN di P w K mg base ["_law_deed","_law_found"] "_law_twice_told" (bt nC) f bu A outer s H jm).dv):=
 yl (akb (vv (vH q_.a' rfl (Or.inl rfl) (C_ (hA C' (hA (ajg (aT 0)) j9)))))) (vv (tK (aT 1)))
def xS{f C alY xz fO:ag}(h4:al7 K mg alY xz fO)(R:nW K alY C)(bu:aj)(A:cH)(outer:List Env)(s:aI)(H:ay):fF (eN di P w K mg base ["_law_deed","_law_found"] "_law_twice_told" (bt nC) f bu A outer s H jm).dv (fc nC) (C6 (eN di P w K mg base ["_law_deed","_law_found"] "_law_twice_told" (bt nC) f bu A outer s H jm).dv C):=
 ajR h4 R (λdf E=>vv (vH q_.a' rfl (Or.inl rfl) (C_ (hA C' (hA (aip (aT 0)) j9))))) (λb'=>vv (vH q_.a' rfl (Or.inl rfl) (C_ (hA C' (hA Tw j9))))) (aT 1)
abbrev yp:Stmt:=top 18
def aid:cK ["plan","state","event"] ["plan","state","event"] (bt yp):=unop%dr 0
def LJ(F:alX K "words" "words" yp f fd)(m:mg "words"=some (.ref f))(aU:unop%dR 0)(ft:mg "tuple"=none)(tp:o_ P w K mg base "course_of" k 3 oR):Cl P w K mg base "words" (k+1) 3 yr:=
 l6 F aid (unop%fe F) m unop%lm
  (bI (d_ (oV ft (jH (az (tC (own:=["past","word","name"]) (caps:=[]) (binop%co yp ["plan","state","event"]) (mQ (Ro (j:=12) aU (L0 tp KC au (aH (bJ 0) (aH (bJ 1) (aH (dY (aH (bJ 2) bF)) bF)))))) (unop%fN (yQ (nL (g9 0 (unop%a' ["past","word","name"])) (nL (g9 1 (unop%a' ["past","word","name"])) (nL (g9 2 (unop%a' ["past","word","name"])) yR))))) (unop%fN yz) (unop%fN (dY (aH (bJ 1) (aH (bJ 2) bF)))))) j_))))
abbrev B3:Stmt:=inClass (top 15) 1
def xQ:cK ["self","lines","shunts","alarms","used"] ["self"] (bt B3):=unop%dr 0
def Kf(F:alX K "state" "Course.state" B3 f fd)(m:Meth K bq "state" f)(aU:unop%dR 0)(ft:mg "tuple"=none):e4 P w K mg base bq "state" (k+1) 1 xV:=
 oY F xQ (unop%cf F) m unop%lm
  (bH (et 1 xQ.a' (SK (j:=4) aU rfl ft (aT 0))) (bH (et 2 xQ.a' (oV ft (jH (gh (j:=5) aU (aT 0)) j_))) (bH (et 3 xQ.a' (oV ft (jH (gh (j:=7) aU (aT 0)) j_))) (bH (et 4 xQ.a' (SK (j:=10) aU rfl ft (aT 0))) (bI (d_ (dY (aH (ip (j:=1) aU (aT 0)) (aH (ip (j:=2) aU (aT 0)) (aH (ip (j:=3) aU (aT 0)) (aH (bJ 1) (aH (bJ 2) (aH (ip (j:=6) aU (aT 0)) (aH (bJ 3) (aH (ip (j:=8) aU (aT 0)) (aH (ip (j:=9) aU (aT 0)) (aH (bJ 4) bF)))))))))))))))))
abbrev C7:Stmt:=top 17
def ai0:cK ["plan","state","event"] ["plan","state","event"] (bt C7):=unop%dr 0
def L9(F:alX K "gone" "gone" C7 f fd)(m:mg "gone"=some (.ref f))(aU:unop%dR 0)(Kf:e4 P w K mg base bq "state" k 1 xV)(tp:o_ P w K mg base "course_of" k 3 oR):Cl P w K mg base "gone" (k+1) 3 yG:=
 l6 F ai0 (unop%fe F) m unop%lm
  (bI (d_ (ak0 aU Kf au (L0 tp KC au (aH (bJ 0) (aH (bJ 1) (aH (dY (aH (bJ 2) bF)) bF)))))))
abbrev Ca:Stmt:=inClass (top 24) 1
def Kh:cK ["self","event","told","behind"] ["self","event"] (bt Ca):=unop%dr 0
def p4(F:alX K "happen" "Box.happen" Ca f fd)(m:Meth K cD "happen" f)(cC:unop%dR 1)(LJ:Cl P w K mg base "words" k 3 yr)(L9:Cl P w K mg base "gone" k 3 yG)(rd:e4 P w K mg base cD "state" k 1 l0):cR P w K mg base cD 1 "happen" (k+1) 2 mI:=
 hB F Kh (unop%ct F) m unop%lm
  (bH (et 2 Kh.a' (il LJ au (aH (ip (j:=0) cC (aT 0)) (aH (rj cC rd au (aT 0)) (aH (bJ 1) bF))))) (bH (et 3 Kh.a' (il L9 au (aH (ip (j:=0) cC (aT 0)) (aH (rj cC rd au (aT 0)) (aH (bJ 1) bF))))) (bH (C9 (j:=1) cC (aT 0) (bJ 1)) (bH (C9 (j:=2) cC (aT 0) (bJ 3)) (bI (ajV (bJ 2)))))))
abbrev Ci:Stmt:=inClass (top 24) 4
def agm:cK ["self","many"] ["self","many"] (bt Ci):=unop%dr 0
def KH(F:alX K "ticks" "Box.ticks" Ci f fd)(m:Meth K cD "ticks" f)(cC:unop%dR 1)(p4:cR P w K mg base cD 1 "happen" k 2 mI):cR P w K mg base cD 1 "ticks" (k+1) 2 vh:=
 hB F agm (unop%ct F) m unop%lm
  (bI (ru (eC cC p4 au (aT 0) (aH (dY (aH bY (aH (bJ 1) bF))) bF))))
abbrev amx:Stmt:=inClass (top 24) 9
def Qz:cK ["self"] ["self"] (bt amx):=unop%dr 0
def KU(F:alX K "undo" "Box.undo" amx f fd)(m:Meth K cD "undo" f)(cC:unop%dR 1):cR P w K mg base cD 1 "undo" (k+1) 1 vl:=
 hB F Qz (unop%cf F) m unop%lm
  (bH (dz (T5 (LR (gh (j:=1) cC (aT 0)))) (bI SF) ew) (bH (To (j:=1) cC (aT 0)) (bI (To (j:=2) cC (aT 0)))))
def Kw{k:Nat}{f:ag}{fd:dV}(F:alX K "undo" "Box.undo" amx f fd)(m:Meth K cD "undo" f){alY xz fO:ag}(h4:al7 K mg alY xz fO)(eM:nW K alY fO)(cC:unop%dR 1) :jO P w K mg base cD "undo" fO (k+1) 1 Cv:=
 Dj F Qz (unop%cf F) m unop%lm
  (tE (Qf (T5 (LR (gh (j:=1) cC (aT 0)))) (tE (SA h4.a' eM.new bY au.hd)) Qg))
abbrev xR:Stmt:=inClass (top 24) 5
def P4:cK ["self","zone"] ["self","zone"] (bt xR):=unop%dr 0
def ti(F:alX K "need_zone" "Box.need_zone" xR f fd)(m:Meth K cD "need_zone" f)(cC:unop%dR 1)(rh:Cl P w K mg base "kind_of" k 2 oT):e4 P w K mg base cD "need_zone" (k+1) 2 oP:=
 oY F P4 (unop%ct F) m unop%lm
  (bI (Me (il rh au (aH (ip (j:=0) cC (aT 0)) (aH (bJ 1) bF)))))
def va{k:Nat}{f:ag}{fd:dV}(F:alX K "need_zone" "Box.need_zone" xR f fd)(m:Meth K cD "need_zone" f){alY xz fO:ag}(h4:al7 K mg alY xz fO)(ke:nW K alY xz)(cC:unop%dR 1)(rh:Cl P w K mg base "kind_of" k 2 oT)(Cr:qc P w K mg base "kind_of" xz k 2 vn):jO P w K mg base cD "need_zone" xz (k+1) 2 oO:=
 Dj F P4 (unop%ct F) m unop%lm
  (tE (LP (ajN Cr au (MP (ip (j:=0) cC (aT 0)) (MP (bJ 1) nM)))))
abbrev x5:Stmt:=inClass (top 24) 2
def QA:cK ["self","zone","what"] ["self","zone","what"] (bt x5):=unop%dr 0
def CA(F:alX K "line" "Box.line" x5 f fd)(m:Meth K cD "line" f)(cC:unop%dR 1)(ti:e4 P w K mg base cD "need_zone" k 2 oP)(p4:cR P w K mg base cD 1 "happen" k 2 mI):cR P w K mg base cD 1 "line" (k+1) 3 vm:=
 hB F QA (unop%fe F) m unop%lm
  (bH (Me (tB cC ti au (aT 0) (aH (bJ 1) bF))) (bI (ru (eC cC p4 au (aT 0) (aH (dY (aH bY (aH (bJ 1) (aH (bJ 2) bF)))) bF)))))
def Ce{k:Nat}{f:ag}{fd:dV}(F:alX K "line" "Box.line" x5 f fd)(m:Meth K cD "line" f){alY xz fO:ag}(h4:al7 K mg alY xz fO)(ke:nW K alY xz)(cC:unop%dR 1)(ti:e4 P w K mg base cD "need_zone" k 2 oP)(p4:cR P w K mg base cD 1 "happen" k 2 mI)(va:jO P w K mg base cD "need_zone" xz k 2 oO):jO P w K mg base cD "line" xz (k+1) 3 vk:=
 Dj F QA (unop%fe F) m unop%lm
  (tE (LP (yw cC va au (aT 0) (aH (bJ 1) bF))))
abbrev x6:Stmt:=inClass (top 24) 3
def QB:cK ["self","figures","deed","zone"] ["self","figures","deed","zone"] (bt x6):=unop%dr 0
def KV(F:alX K "code" "Box.code" x6 f fd)(m:Meth K cD "code" f)(cC:unop%dR 1)(p4:cR P w K mg base cD 1 "happen" k 2 mI)(ti:e4 P w K mg base cD "need_zone" k 2 oP){pv:ag}(Iu:mg "DEEDS_OF_ZONES"=some (.ref pv))(JE:∃(o:Obj) (its:Array aj) (n:Nat),K.lookup pv=some o/\o.cls=.type "tuple"/\o.data=.seq its n/\its.size<=cG/\Vals ((["shunt","free"]:List Str).map V.str) its.toList):cR P w K mg base cD 1 "code" (k+1) 4 amy:=
 hB F QB (unop%kf F) m unop%lm
  (bH (dz (oE (w_or (Th (a5 3)) (tM (hC (vI (by exact au.units)) nJ (a5 2) (az (Be Iu JE)))))) (bI (Me (tB cC ti au (aT 0) (aH (bJ 3) bF)))) ew) (bI (ru (eC cC p4 au (aT 0) (aH (dY (aH bY (aH (bJ 1) (aH (bJ 2) (aH (bJ 3) bF))))) bF)))))
def Kx{k:Nat}{f:ag}{fd:dV}(F:alX K "code" "Box.code" x6 f fd)(m:Meth K cD "code" f){alY xz fO:ag}(h4:al7 K mg alY xz fO)(ke:nW K alY xz)(cC:unop%dR 1)(p4:cR P w K mg base cD 1 "happen" k 2 mI)(ti:e4 P w K mg base cD "need_zone" k 2 oP){pv:ag}(Iu:mg "DEEDS_OF_ZONES"=some (.ref pv))(JE:∃(o:Obj) (its:Array aj) (n:Nat),K.lookup pv=some o/\o.cls=.type "tuple"/\o.data=.seq its n/\its.size<=cG/\Vals ((["shunt","free"]:List Str).map V.str) its.toList)(va:jO P w K mg base cD "need_zone" xz k 2 oO):jO P w K mg base cD "code" xz (k+1) 4 Cw:=
 Dj F QB (unop%kf F) m unop%lm
  (tE (Qf (oE (w_or (Th (a5 3)) (tM (hC (vI (by exact au.units)) nJ (a5 2) (az (Be Iu JE)))))) (tE (LP (yw cC va au (aT 0) (aH (bJ 3) bF)))) Qg))
abbrev al8:Stmt:=top 31
def Qh:cK ["_law_thing","_law_number","_law_plan_here","_law_event_here"] ["_law_thing","_law_number","_law_plan_here"] (bt al8):=unop%dr 0
def agg{K:a9}{f:ag}{fd:dV}(F:alX K "_law_one_deed" "_law_one_deed" al8 f fd):Binds K fd ["_law_thing","_law_number","_law_plan_here"] []:=F.binds (ps:=["_law_thing","_law_number","_law_plan_here"]) λ_ _ _ _ _ _ us aB=>match us,aB with|[_,_,_],_=>rfl
def xZ{k:Nat}{f Ft m2:ag}{gV:aj}{ec an:Option ag}{jZ:Array (Option aj)}{dG doc pm dN:aj}(l:K.lookup f=some ⟨gV,ec,.func (lU "_law_one_deed" "_law_one_deed" (nH al8) (fc al8) (bt al8) .none dG doc pm an (.ref Ft) dN),jZ⟩)(eZ:qZ K (.ref Ft) "_law_one_deed"=true)(aw:kv K (.ref f)=true)(m:mg "_law_one_deed"=some (.ref f))(wt:u4 K Ft m2=true)(iw:nQ mg base)(nk:(m2,(("_law_one_deed":Str)++".<locals>.")++"<lambda>")∈cJ.c6)(qD:∀p∈cJ.c6,p.1=m2->p.2=(("_law_one_deed":Str)++".<locals>.")++"<lambda>"){alY xz fO:ag}(h4:al7 K mg alY xz fO)(ke:nW K alY xz)(eM:nW K alY fO)(Kx:jO P w K mg base cD "code" xz k 4 Cw)(va:jO P w K mg base cD "need_zone" xz k 2 oO)(Cr:qc P w K mg base "kind_of" xz k 2 vn)(Ce:jO P w K mg base cD "line" xz k 3 vk)(Kw:jO P w K mg base cD "undo" fO k 1 Cv)(cC:unop%dR 1)(Lb:Cl P w K mg base "_law_event" k 2 ye){N3:ag}{Y2:dV}(nU:alX K "_law_twice_told" "_law_twice_told" nC N3 Y2)(w3:mg "_law_twice_told"=some (.ref N3))(KH:cR P w K mg base cD 1 "ticks" k 2 vh)(KU:cR P w K mg base cD 1 "undo" k 1 vl)(CA:cR P w K mg base cD 1 "line" k 3 vm)(KV:cR P w K mg base cD 1 "code" k 4 amy):rL P w K mg base "_law_one_deed" 1 0 (k+3) 3 al4:=
 ajI l eZ Qh (λ_ F=>agg F) m aw λA outer s H E au=>
  (bH (dz (binop%fI (az (gD (a5 1) (az aQ))) (az aQ)) (bI (ru (yo nU q_ (xU nU) w3 (λbu A outer s H=>xT bu A outer s H) (λbu A outer s H=>xS h4 eM bu A outer s H) rfl wt iw nk qD au (λq c5 cl o8 d3 s2 bk i'=>by exact (ri cC KU i' (aT 0))) (λq c5 cl o8 d3 s2 bk y1 i'=>by exact (aiW cC Kw i' (aT 0)))))) ew) (bH (dz (binop%fI (az (gD (a5 1) (az aQ))) (az aQ)) (bI (ru (yo nU q_ (xU nU) w3 (λbu A outer s H=>xT bu A outer s H) (λbu A outer s H=>xS h4 ke bu A outer s H) rfl wt iw nk qD au (λq c5 cl o8 d3 s2 bk i'=>by exact (eC cC CA i' (aT 0) (aH bY (aH bY bF)))) (λq c5 cl o8 d3 s2 bk y1 i'=>by exact (yw cC Ce i' (aT 0) (aH bY (aH bY bF))))))) ew) (bH (et 3 Qh.a' (il Lb (au.mono (q7 _ 2)) (aH (bJ 2) (aH (i2 (a5 1) (az aQ)) bF)))) (bH (dz (binop%fI (az (b3 (a5 3) (az aQ))) (az bY)) (bI (ru (yo nU q_ (xU nU) w3 (λbu A outer s H=>xT bu A outer s H) (λbu A outer s H=>xS h4 ke bu A outer s H) rfl wt iw nk qD au (λq c5 cl o8 d3 s2 bk i'=>by exact (eC cC CA i' (aT 0) (aH (b3 (a5 3) (az aQ)) (aH (b3 (a5 3) (az aQ)) bF)))) (λq c5 cl o8 d3 s2 bk y1 i'=>by exact (yw cC Ce i' (aT 0) (aH (b3 (a5 3) (az aQ)) (aH (b3 (a5 3) (az aQ)) bF))))))) ew) (bH (dz (binop%fI (az (b3 (a5 3) (az aQ))) (az bY)) (bI (ru (yo nU q_ (xU nU) w3 (λbu A outer s H=>xT bu A outer s H) (λbu A outer s H=>xS h4 ke bu A outer s H) rfl wt iw nk qD au (λq c5 cl o8 d3 s2 bk i'=>by exact (eC cC KV i' (aT 0) (aH (b3 (a5 3) (az aQ)) (aH (b3 (a5 3) (az aQ)) (aH (b3 (a5 3) (az aQ)) bF))))) (λq c5 cl o8 d3 s2 bk y1 i'=>by exact (yw cC Kx i' (aT 0) (aH (b3 (a5 3) (az aQ)) (aH (b3 (a5 3) (az aQ)) (aH (b3 (a5 3) (az aQ)) bF)))))))) ew) (bI (ru (yo nU q_ (xU nU) w3 (λbu A outer s H=>xT bu A outer s H) (λbu A outer s H=>xS h4 eM bu A outer s H) rfl wt iw nk qD au (λq c5 cl o8 d3 s2 bk i'=>by exact (eC cC KH i' (aT 0) (aH (b3 (a5 3) (az aQ)) bF))) (λq c5 cl o8 d3 s2 bk y1 i'=>by exact alf)))))))))
abbrev amk:Stmt:=top 34
def nI:cK ["_law_script","_law_plan_here","_law_quiet_one","_law_asked_one","_law_idle_one","_law_first_so","_law_k","_law_number","_law_stood_so","_law_kept_text","_law_told_of_it"] ["_law_script"] (bt amk):=unop%dr 0
def ale(F:alX K "law" "law" amk f fd)(cC:unop%dR 1)(Lq:Cl P w K mg base "_law_plan" k 1 C0)(Fv:o9 P w K mg base "Box" cD 1 k 2 tj)(mH:rM P w K mg base "_law_all_asked" k 1 gg)(o2:mg "range"=none)(yh:Cl P w K mg base "_law_mixed" k 2 kD)(rt:mg "repr"=none)(xZ:rL P w K mg base "_law_one_deed" 1 0 k 3 al4):ez P w K mg base di (k+2) f fd ["_law_script"] (spT K 1 vU):=
 L5 F nI unop%lm
  (bH (et 1 nI.a' (il Lq (au.mono (gB _)) (aH (il yh (au.mono (gB _)) (aH (bJ 0) (aH aQ bF))) bF))) (bH (C8 2 nI.a' (Dv cC Fv au (aH (bJ 1) bF))) (bH (C8 3 nI.a' (Dv cC Fv au (aH (bJ 1) bF))) (bH (C8 4 nI.a' (Dv cC Fv au (aH (bJ 1) bF))) (bH (et 5 nI.a' (oW mH (au.mono (gB _)) (n2 (aT 4) nM))) (bH (ry q3 (TQ o2 (az (gD (az (il yh (au.mono (gB _)) (aH (bJ 0) (aH aQ bF)))) (az aQ)))) (g9 6 nI.a') (bH (et 7 nI.a' (il yh (au.mono (gB _)) (aH (bJ 0) (aH (kH (az aQ) (a5 6)) bF)))) (bH (et 8 nI.a' (oW mH (au.mono (gB _)) (n2 (aT 3) nM))) (bH (et 9 nI.a' (Tr (au.mono (gB _)) rt (jH (a5 8) j_))) (bH (dz (binop%nr (az (oW mH (au.mono (gB _)) (n2 (aT 3) nM))) (a5 8)) (bI (d_ qQ)) ew) (bH (ajX 10 nI.a' (Lv cC xZ (au.mono (gB _)) (aT 2) (aH (bJ 7) (aH (bJ 1) bF)))) (bH (T9 (PQ (PO (T4 (Dd (by exact au.units)) Df (Lv cC xZ (au.mono (gB _)) (aT 3) (aH (bJ 7) (aH (bJ 1) bF))) (x_pure (bJ 10))) (T3 (y_pure (binop%nr (az (Tr (au.mono (gB _)) rt (jH (a5 8) j_))) (a5 9)))))) (bI (d_ qQ)) ew) (bH (dz (binop%fI (az (b3 (a5 10) (az aQ))) (az bY)) (bH (T9 (PQ (PO (y_pure (binop%nr (az (oW mH (au.mono (gB _)) (n2 (aT 3) nM))) (a5 8))) (T3 (T4 (Dd (by exact au.units)) Df (Lv cC xZ (au.mono (gB _)) (aT 3) (aH (bJ 7) (aH (bJ 1) bF))) (x_pure (bJ 10)))))) (bI (d_ qQ)) ew) (bI (dz (binop%nr (az (oW mH (au.mono (gB _)) (n2 (aT 3) nM))) (a5 8)) (bI (d_ qQ)) ew))) ew) (bI (dz (binop%nr (az (oW mH (au.mono (gB _)) (n2 (aT 3) nM))) (az (oW mH (au.mono (gB _)) (n2 (aT 3) nM)))) (bI (d_ qQ)) ew)))))))))) (bH (dz (binop%nr (az (oW mH (au.mono (gB _)) (n2 (aT 2) nM))) (az (oW mH (au.mono (gB _)) (n2 (aT 3) nM)))) (bI (d_ qQ)) ew) (bI (d_ (p' (De (by exact au.units)) Dg (az (oW mH (au.mono (gB _)) (n2 (aT 4) nM))) (a5 5)))))))))))
end
end pf
end
section
namespace D
open PySem
def Sg(ss:List Str)(h:∀x∈ss,(lW x).canLay0=true):j5 (ss.map .str)=true/\j4 (ss.map .str)<=1:=by
 induction ss with
|nil=>simp[j5,j4]
|cons n ns b8=>
  have af:=h n (by simp);have ak:=b8 λx hx=>h x (by simp[hx]);simp[j5,j4,lb,af,ak]
theorem Lm(n:Str):∀ns:List Str,pH (.str n) (ns.map .str)=decide (n∈ns)
| []=>by simp[pH]
|m::ns=>by
  have b8:=Lm n ns;unfold pH at b8 ⊢;rw[dh,List.any_cons,b8];simp[je,Bool.beq_eq_decide_eq,eq_comm]
def vy(n:Int):iy (.int n)=true:=by simp[iy,PyData.canLay0,lb]
def vx{x:Str}(h:(lW x).canLay0=true):iy (.str x)=true:=by simp[iy,lb,h]
def Rr(ss:List Str)(h:∀x∈ss,(lW x).canLay0=true):pP (ss.map .str)=true:=by
 have:=Sg ss h;simp[pP,this.1];omega
def ajp(neg:Bool)(n:Str)(ns:List Str)(h0:(lW n).canLay0=true)(h:∀x∈ns,(lW x).canLay0=true):fK neg (.str n) (.tuple (ns.map .str))=some (.bool (if neg then !decide (n∈ns) else decide (n∈ns))):=by
 simp only[fK,vx h0,Rr ns h,Lm,Bool.and_self,if_true]
end D
end
section
namespace aZ
open D PySem
structure hk where
 eI:Str
 iC:Str
 j0:List Str
 uses:Int
structure aN where
 bU:List (Str×Str)
 codes:List hk
 leave:Int
 iK:Int
 loud:Int
structure aK where
 mode:Str
 left:Int
 e7:Option Str
 lines:List (Str×Str)
 c_:List Str
 dw:Int
 cp:List Str
 tries:Int
 locked:Int
 used:List (Str×Int)
 past:Int
 told:List (Int×Str×Option Str)
def eb:Option Str->T
|none=>.none
|some x=>.str x
def dW(z:Str×Str):T:=.tuple [.str z.1,.str z.2]
def dS(c:hk):T:=.tuple [.str c.eI,.str c.iC,.tuple (c.j0.map .str),.int c.uses]
def cv(p:aN):T:=.tuple [.tuple (p.bU.map dW),.tuple (p.codes.map dS),.tuple [.int p.leave,.int p.iK,.int p.loud]]
def kh(w:Int×Str×Option Str):T:=.tuple [.int w.1,.str w.2.1,eb w.2.2]
def h7(l:List (Str×Str)):List (D.Key×T):=l.map λp=>(.inr p.1,.str p.2)
def h6(l:List (Str×Int)):List (D.Key×T):=l.map λp=>(.inr p.1,.int p.2)
noncomputable def encC(p:aN)(c:aK):List aJ:=[.ae (cv p),.ae (.str c.mode),.ae (.int c.left),.ae (eb c.e7),.hp (h7 c.lines),.own (c.c_.map .str),.ae (.int c.dw),.own (c.cp.map .str),.ae (.int c.tries),.ae (.int c.locked),.hp (h6 c.used),.ae (.int c.past),.own (c.told.map kh)]
def B':¬(("off":Str)="leaving"):=by decide +kernel
def Sk:¬(("off":Str)="on"):=by decide +kernel
def vd:¬(("off":Str)="coming"):=by decide +kernel
def Qi:¬(("leaving":Str)="off"):=by decide +kernel
def Qs:¬(("leaving":Str)="on"):=by decide +kernel
def J9:¬(("leaving":Str)="coming"):=by decide +kernel
def Sj:¬(("on":Str)="off"):=by decide +kernel
def Ks:¬(("on":Str)="leaving"):=by decide +kernel
def x3:¬(("on":Str)="coming"):=by decide +kernel
def Qu:¬(("coming":Str)="off"):=by decide +kernel
def P6:¬(("coming":Str)="leaving"):=by decide +kernel
def QL:¬(("coming":Str)="on"):=by decide +kernel
def QE:¬(("shut":Str)="open"):=by decide +kernel
def Q5:¬(("shut":Str)="cut"):=by decide +kernel
def QG:¬(("open":Str)="shut"):=by decide +kernel
def Q6:¬(("open":Str)="cut"):=by decide +kernel
def Q_:¬(("cut":Str)="shut"):=by decide +kernel
def Q':¬(("cut":Str)="open"):=by decide +kernel
def QK:¬(("day":Str)="inner"):=by decide +kernel
def Q9:¬(("day":Str)="once"):=by decide +kernel
def Rx:¬(("day":Str)="way"):=by decide +kernel
def QJ:¬(("inner":Str)="day"):=by decide +kernel
def Qt:¬(("inner":Str)="once"):=by decide +kernel
def QI:¬(("inner":Str)="way"):=by decide +kernel
def Q8:¬(("once":Str)="day"):=by decide +kernel
def Qq:¬(("once":Str)="inner"):=by decide +kernel
def Q7:¬(("once":Str)="way"):=by decide +kernel
def Rw:¬(("way":Str)="day"):=by decide +kernel
def QD:¬(("way":Str)="inner"):=by decide +kernel
def Q4:¬(("way":Str)="once"):=by decide +kernel
def QF:¬(("set":Str)="unset"):=by decide +kernel
def KD:¬(("set":Str)="shunt"):=by decide +kernel
def Cx:¬(("set":Str)="free"):=by decide +kernel
def x1:¬(("unset":Str)="set"):=by decide +kernel
def Ki:¬(("unset":Str)="shunt"):=by decide +kernel
def Cc:¬(("unset":Str)="free"):=by decide +kernel
def x2:¬(("shunt":Str)="set"):=by decide +kernel
def vc:¬(("shunt":Str)="unset"):=by decide +kernel
def Qp:¬(("shunt":Str)="free"):=by decide +kernel
def x8:¬(("free":Str)="set"):=by decide +kernel
def ve:¬(("free":Str)="unset"):=by decide +kernel
def vf:¬(("free":Str)="shunt"):=by decide +kernel
def QH:¬(("line":Str)="code"):=by decide +kernel
def Qr:¬(("line":Str)="ticks"):=by decide +kernel
def QM:¬(("code":Str)="line"):=by decide +kernel
def Qv:¬(("code":Str)="ticks"):=by decide +kernel
def Qn:¬(("ticks":Str)="line"):=by decide +kernel
def Qo:¬(("ticks":Str)="code"):=by decide +kernel
def tell(w:Str)(n:Option Str)(c:aK):aK:={c with told:=c.told++[(c.past,w,n)]}
def jo(p:aN)(c:aK):aK:={c with dw:=p.loud}
def dk(p:aN)(z:Str)(c:aK):aK:=if z∈c.cp then jo p c else tell "alarm" (some z) {jo p c with cp:=c.cp++[z]}
section
variable (p:aN)(c:aK)
def DA:(encC p c).length=13:=rfl
def b7:(encC p c)[0]?=some (.ae (cv p)):=rfl
def aD:(encC p c)[1]?=some (.ae (.str c.mode)):=rfl
def aO:(encC p c)[2]?=some (.ae (.int c.left)):=rfl
def fw:(encC p c)[3]?=some (.ae (eb c.e7)):=rfl
def iL:(encC p c)[4]?=some (.hp (h7 c.lines)):=rfl
def amC:(encC p c)[5]?=some (.own (c.c_.map .str)):=rfl
def ud:(encC p c)[6]?=some (.ae (.int c.dw)):=rfl
def ue:(encC p c)[7]?=some (.own (c.cp.map .str)):=rfl
def zt:(encC p c)[8]?=some (.ae (.int c.tries)):=rfl
def uf:(encC p c)[9]?=some (.ae (.int c.locked)):=rfl
def zp:(encC p c)[10]?=some (.hp (h6 c.used)):=rfl
def zq:(encC p c)[11]?=some (.ae (.int c.past)):=rfl
def ub:(encC p c)[12]?=some (.own (c.told.map kh)):=rfl
def s1(x:Str):(encC p c).set 1 (.ae (.str x))=encC p {c with mode:=x}:=rfl
def s2(x:Int):(encC p c).set 2 (.ae (.int x))=encC p {c with left:=x}:=rfl
def s3(x:Str):(encC p c).set 3 (.ae (.str x))=encC p {c with e7:=some x}:=rfl
def Bk:(encC p c).set 3 (.ae .none)=encC p {c with e7:=none}:=rfl
def s4(l:List (Str×Str)):(encC p c).set 4 (.hp (h7 l))=encC p {c with lines:=l}:=rfl
def s5(l:List Str):(encC p c).set 5 (.own (l.map .str))=encC p {c with c_:=l}:=rfl
def Bl:(encC p c).set 5 (.own [])=encC p {c with c_:=[]}:=rfl
def gf(x:Int):(encC p c).set 6 (.ae (.int x))=encC p {c with dw:=x}:=rfl
def dJ(l:List Str):(encC p c).set 7 (.own (l.map .str))=encC p {c with cp:=l}:=rfl
def Bn:(encC p c).set 7 (.own [])=encC p {c with cp:=[]}:=rfl
def Bm(l:List Str)(z:Str):(encC p c).set 7 (.own (l.map .str++[.str z]))=encC p {c with cp:=l++[z]}:=by simp[encC]
def eo(x:Int):(encC p c).set 8 (.ae (.int x))=encC p {c with tries:=x}:=rfl
def gM(x:Int):(encC p c).set 9 (.ae (.int x))=encC p {c with locked:=x}:=rfl
def gL(l:List (Str×Int)):(encC p c).set 10 (.hp (h6 l))=encC p {c with used:=l}:=rfl
def Bi(x:Int):(encC p c).set 11 (.ae (.int x))=encC p {c with past:=x}:=rfl
def Bj(l:List (Int×Str×Option Str))(i:Int)(w:Str)(n:Option Str):(encC p c).set 12 (.own (l.map kh++[.tuple [.int i,.str w,eb n]]))=encC p {c with told:=l++[(i,w,n)]}:=by simp[encC,kh]
end
end aZ
open D aZ
open PySem hiding run fresh code
local macro_rules
| `(tactic| simp! [hT,$xs,*] $[$l]?)=>`(tactic| simp[DA,b7,aD,aO,fw,iL,amC,ud,ue,zt,uf,zp,zq,ub,s1,s2,s3,Bk,s4,s5,Bl,gf,dJ,Bn,Bm,eo,gM,gL,Bi,Bj,runM,gx,jI,ji,dP,cZ,eu,qR,p_,ik,eG,jL,pw,lA,gy,dm,fld,e8,nc,kQ,m',rA,rG,qa,never,n4,pM,hZ,d9,seq,iff,bC,hb,hJ,e',hQ,f_,ofT,dX,ao,b9,args,ah,nm,aS,cy,skip,asg,jS,jT,par,cb,gi,ix,g5,a4,fG,gK,cx,eO,gb,fl,comp,iI,$xs,*] $[$l]?)
local macro_rules
| `(tactic| simp! [hU,$xs,*] $[$l]?)=>`(tactic| simp[d9,seq,iff,bC,hb,hJ,e',hQ,f_,ofT,dX,ao,b9,args,ah,nm,aS,cy,skip,asg,jS,jT,par,cb,gi,ix,g5,a4,fG,gK,cx,eO,gb,fl,comp,iI,$xs,*] $[$l]?)
| `(tactic| simp! [hU] $[$l]?)=>`(tactic| simp[d9,seq,iff,bC,hb,hJ,e',hQ,f_,ofT,dX,ao,b9,args,ah,nm,aS,cy,skip,asg,jS,jT,par,cb,gi,ix,g5,a4,fG,gK,cx,eO,gb,fl,comp,iI] $[$l]?)
local macro_rules
| `(tactic| simp! [iS,$xs,*] $[$l]?)=>`(tactic| simp[dC,qL,dI,oDiv,oMod,qK,jw,A8,sO,hi,Dw,A7,oLt,oLe,ja,qJ,big,DA,b7,aD,aO,fw,iL,amC,ud,ue,zt,uf,zp,zq,ub,s1,s2,s3,Bk,s4,s5,Bl,gf,dJ,Bn,Bm,eo,gM,gL,Bi,Bj,runM,gx,jI,ji,dP,cZ,eu,qR,p_,ik,eG,jL,pw,lA,gy,dm,fld,e8,nc,kQ,m',rA,rG,qa,never,n4,pM,hZ,d9,seq,iff,bC,hb,hJ,e',hQ,f_,ofT,dX,ao,b9,args,ah,nm,aS,cy,skip,asg,jS,jT,par,cb,gi,ix,g5,a4,fG,gK,cx,eO,gb,fl,comp,iI,$xs,*] $[$l]?)
local macro_rules
| `(tactic| simp! [oz,$xs,*] $[$l]?)=>`(tactic| simp[runM,gx,jI,ji,dP,cZ,eu,qR,p_,ik,eG,jL,pw,lA,gy,dm,fld,e8,nc,kQ,m',rA,rG,qa,never,n4,pM,hZ,d9,seq,iff,bC,hb,hJ,e',hQ,f_,ofT,dX,ao,b9,args,ah,nm,aS,cy,skip,asg,jS,jT,par,cb,gi,ix,g5,a4,fG,gK,cx,eO,gb,fl,comp,iI,$xs,*] $[$l]?)
local macro_rules
| `(tactic| simp! [hz,$xs,*] $[$l]?)=>`(tactic| simp[DA,b7,aD,aO,fw,iL,amC,ud,ue,zt,uf,zp,zq,ub,s1,s2,s3,Bk,s4,s5,Bl,gf,dJ,Bn,Bm,eo,gM,gL,Bi,Bj,runM,gx,jI,ji,dP,cZ,eu,qR,p_,ik,eG,jL,pw,lA,gy,dm,fld,e8,nc,kQ,m',rA,rG,qa,never,n4,pM,hZ,B',Sk,vd,Qi,Qs,J9,Sj,Ks,x3,Qu,P6,QL,QE,Q5,QG,Q6,Q_,Q',QK,Q9,Rx,QJ,Qt,QI,Q8,Qq,Q7,Rw,QD,Q4,QF,KD,Cx,x1,Ki,Cc,x2,vc,Qp,x8,ve,vf,QH,Qr,QM,Qv,Qn,Qo,d9,seq,iff,bC,hb,hJ,e',hQ,f_,ofT,dX,ao,b9,args,ah,nm,aS,cy,skip,asg,jS,jT,par,cb,gi,ix,g5,a4,fG,gK,cx,eO,gb,fl,comp,iI,$xs,*] $[$l]?)
local macro_rules
| `(tactic| simp! [Ju,$xs,*] $[$l]?)=>`(tactic| simp[dC,qL,dI,oDiv,oMod,qK,jw,A8,sO,hi,Dw,A7,oLt,oLe,ja,qJ,big,d9,seq,iff,bC,hb,hJ,e',hQ,f_,ofT,dX,ao,b9,args,ah,nm,aS,cy,skip,asg,jS,jT,par,cb,gi,ix,g5,a4,fG,gK,cx,eO,gb,fl,comp,iI,$xs,*] $[$l]?)
local macro_rules
| `(tactic| simp! [aeU,$xs,*] $[$l]?)=>`(tactic| simp[runM,gx,jI,ji,dP,cZ,eu,qR,p_,ik,eG,jL,pw,lA,gy,dm,fld,e8,nc,kQ,m',rA,rG,qa,never,n4,pM,hZ,$xs,*] $[$l]?)
local macro_rules
| `(tactic| simp! [aeV,$xs,*] $[$l]?)=>`(tactic| simp[DA,b7,aD,aO,fw,iL,amC,ud,ue,zt,uf,zp,zq,ub,s1,s2,s3,Bk,s4,s5,Bl,gf,dJ,Bn,Bm,eo,gM,gL,Bi,Bj,$xs,*] $[$l]?)
local macro_rules
| `(tactic| simp! [gX,$xs,*] $[$l]?)=>`(tactic| simp[d9,seq,iff,bC,hb,hJ,e',hQ,f_,ofT,dX,ao,b9,args,ah,nm,aS,cy,skip,asg,jS,jT,par,cb,gi,ix,g5,cx,eO,gb,fl,comp,iI,$xs,*] $[$l]?)
| `(tactic| simp! [gX] $[$l]?)=>`(tactic| simp[d9,seq,iff,bC,hb,hJ,e',hQ,f_,ofT,dX,ao,b9,args,ah,nm,aS,cy,skip,asg,jS,jT,par,cb,gi,ix,g5,cx,eO,gb,fl,comp,iI] $[$l]?)
local macro_rules
| `(tactic| simp! [alR,$xs,*] $[$l]?)=>`(tactic| simp[B',Sk,vd,Qi,Qs,J9,Sj,Ks,x3,Qu,P6,QL,QE,Q5,QG,Q6,Q_,Q',QK,Q9,Rx,QJ,Qt,QI,Q8,Qq,Q7,Rw,QD,Q4,QF,KD,Cx,x1,Ki,Cc,x2,vc,Qp,x8,ve,vf,QH,Qr,QM,Qv,Qn,Qo,d9,seq,iff,bC,hb,hJ,e',hQ,f_,ofT,dX,ao,b9,args,ah,nm,aS,cy,skip,asg,jS,jT,par,cb,gi,ix,g5,a4,fG,gK,cx,eO,gb,fl,comp,iI,$xs,*] $[$l]?)
namespace aZ
open D PySem
def bT(x:Str):Prop:=(lW x).canLay0=true
def dA{x y:Str}(af:bT x)(ak:bT y):oEq (.str x) (.str y)=some (.bool (decide (x=y))):=by
 unfold oEq;rw[vx af,vx ak];by_cases e:x=y <;> simp[je,e]
def nF{x y:Str}(af:bT x)(ak:bT y):fk (.str x) (.str y)=some (.bool (!decide (x=y))):=by
 unfold fk;rw[vx af,vx ak];by_cases e:x=y <;> simp[je,e]
def ym(neg:Bool){n:Str}{ns:List Str}(h0:bT n)(h:∀x∈ns,bT x):fK neg (.str n) (.list (ns.map .str))=some (.bool (if neg then !decide (n∈ns) else decide (n∈ns))):=by
 simp only[fK,vx h0,Rr ns h,Lm];rfl
def vo(neg:Bool){n:Str}{ns:List Str}(h0:bT n)(h:∀x∈ns,bT x):fK neg (.str n) (.tuple (ns.map .str))=some (.bool (if neg then !decide (n∈ns) else decide (n∈ns))):=ajp neg n ns h0 h
def SD(p:aN)(c:aK)(w:Str)(n:Option Str)(h:c.told.length<big):fW [.obj .b_ 0 (encC p c),.ae (.str w),.ae (eb n)]=some (.none,encC p (tell w n c)):=by
 have h':c.told.length<16777216:=h;simp! [hT,fW,Ql,tell,big,h']
def CE(p:aN)(c:aK)(w:Str)(h:c.told.length<big):fW [.obj .b_ 0 (encC p c),.ae (.str w),.ae .none]=some (.none,encC p (tell w none c)):=SD p c w none h
def p5(p:aN)(c:aK)(w z:Str)(h:c.told.length<big):fW [.obj .b_ 0 (encC p c),.ae (.str w),.ae (.str z)]=some (.none,encC p (tell w (some z) c)):=SD p c w (some z) h
def KW(p:aN)(c:aK):amf [.obj .b_ 0 (encC p c)]=some (.none,encC p (jo p c)):=by
 simp! [hT,amf,P8,jo,cv]
structure a0(p:aN)(c:aK):Prop where
 zn:∀z∈p.bU,bT z.1/\bT z.2
 ff:∀k∈p.codes,bT k.eI/\bT k.iC/\∀r∈k.j0,bT r
 eK:p.bU.length<=40
 mo:bT c.mode
 ca:∀z,c.e7=some z->bT z/\z∈p.bU.map (·.1)
 iu:c.mode="coming"->c.e7≠none
 ln:c.lines.map (·.1)=p.bU.map (·.1)
 lo:∀l∈c.lines,bT l.2
 us:c.used.map (·.1)=p.codes.map (·.eI)
 fD:c.c_.Nodup/\∀z∈c.c_,z∈p.bU.map (·.1)
 al:c.cp.Nodup/\∀z∈c.cp,z∈p.bU.map (·.1)
def a0.iQ{p:aN}{c:aK}(h:a0 p c){z:Str}(aq:z∈p.bU.map (·.1)):bT z:=by
 obtain⟨x,hx,rfl⟩:=c7.mp aq;exact (h.zn x hx).1
def a0.uE{p:aN}{c:aK}(h:a0 p c):∀z∈c.c_,bT z:=λz aq=>h.iQ (h.fD.2 z aq)
def a0.O6{p:aN}{c:aK}(h:a0 p c):∀z∈c.cp,bT z:=λz aq=>h.iQ (h.al.2 z aq)
def Ru{α:Type}[BEq α][LawfulBEq α]{l m:List α}(h:l.Nodup)(aA:∀x∈l,x∈m):l.length<=m.length:=by
 induction l generalizing m with
|nil=>simp
|cons x l b8=>
  obtain⟨af,ak⟩:=gN.mp h;have hx:=aA x fb;have:=b8 (m:=m.erase x) ak λy a7=>(List.mem_erase_of_ne (λe:y=x=>af (e▸a7))).mpr (aA y (dn _ a7));have aB:=List.length_erase_of_mem hx;have:=List.length_pos_of_mem hx;simp only[eJ];omega
def a0.MQ{p:aN}{c:aK}(h:a0 p c):c.cp.length<=40:=by
 have:=Ru h.al.1 h.al.2;have:=h.eK;simp at *;omega
def a0.Po{p:aN}{c:aK}(h:a0 p c):c.c_.length<=40:=by
 have:=Ru h.fD.1 h.fD.2;have:=h.eK;simp at *;omega
def C1(p:aN)(c:aK)(z:Str)(h:a0 p c)(aq:bT z)(aX:c.told.length<big):lh [.obj .b_ 0 (encC p c),.ae (.str z)]=some (.none,encC p (dk p z c)):=by
 have av:=h.MQ;have qx:fK true (.str z) (.list (c.cp.map .str))=some (.bool (!decide (z∈c.cp))):=by rw[ym true aq h.O6];rfl
 have U:(jo p c).cp=c.cp:=rfl;have fJ:c.cp.length<16777216:=by omega
 by_cases hm:z∈c.cp
 ·simp! [hT,lh,Kg,KW,U,qx,hm,dk]
 ·have mA:({jo p c with cp:=c.cp++[z]}:aK).told.length<big:=aX;simp! [hT,lh,Kg,KW,U,qx,hm,dk,big,fJ,p5 p _ "alarm" z mA]
def kindOf(p:aN)(z:Str):Str:=((p.bU.find? λx=>decide (x.1=z)).map (·.2)).getD ""
def codeOf(p:aN)(f:Str):Option hk:=p.codes.find? λk=>decide (k.eI=f)
theorem K5{z:Str}(aq:bT z)(s0:Option aJ):∀(zs:List (Str×Str)) (t0:Option aJ),(∀x∈zs,bT x.1)->z∈zs.map (·.1)->forL (cx 2) (iff (bC (ao oEq (ao a4 (nm 2) (ah (.int 0))) (nm 1))) (cy (ao a4 (nm 2) (ah (.int 1)))) skip) (zs.map dW) [s0,some (.ae (.str z)),t0]=some (.d4 (.str (((zs.find? λx=>decide (x.1=z)).map (·.2)).getD "")))
| [],t0,_,h=>by simp at h
|x::zs,t0,aF,h=>by
  have e:=dA (aF x (by simp)) aq;by_cases hx:x.1=z
  ·simp! [hU,forL,dW,hx,dA aq aq]
  ·have h':z∈zs.map (·.1):=by
    rw[dh] at h;rcases cm.mp h with q|q
    ·exact absurd q.symm hx
    ·exact q
   have b8:=K5 aq s0 zs (some (.ae (dW x))) (λy a7=>aF y (dn _ a7)) h';simp[dW] at b8;simp! [hU,forL,dW,hx,e];simpa [d9,seq,iff,bC,hb,hJ,e',hQ,f_,ofT,dX,ao,b9,args,ah,nm,aS,cy,skip,asg,jS,jT,par,cb,gi,ix,g5,a4,fG,gK,cx,eO,gb,fl,comp,iI] using b8
def KP{p:aN}{z:Str}(aF:∀x∈p.bU,bT x.1/\bT x.2)(aq:z∈p.bU.map (·.1)):oT [cv p,.str z]=some (.str (kindOf p z)):=by
 obtain⟨x,hx,rfl⟩:=c7.mp aq;have:=K5 (aF x hx).1 (some (.ae (cv p))) p.bU none (λy a7=>(aF y a7).1) aq;simp! [hU,oT,RV,gR,cv] at this ⊢;simp[this,kindOf]
def uh:Option hk->T
|none=>.none
|some k=>dS k
theorem RL{f:Str}(hf:bT f)(s0:Option aJ):∀(bp:List hk) (t0:Option aJ),(∀k∈bp,bT k.eI)->forL (cx 2) (iff (bC (ao oEq (ao a4 (nm 2) (ah (.int 0))) (nm 1))) (cy (nm 2)) skip) (bp.map dS) [s0,some (.ae (.str f)),t0] =
   match bp.find? λk=>decide (k.eI=f) with
   |some k=>some (.d4 (dS k))
   |none=>some (.bK [s0,some (.ae (.str f)),(bp.getLast?.map λk=>aJ.ae (dS k)).elim t0 some])
| [],t0,_=>by simp[forL]
|k::bp,t0,aF=>by
  have e:=dA (aF k (by simp)) hf;by_cases hx:k.eI=f
  ·simp! [hU,forL,dS,hx,dA hf hf]
  ·have b8:=RL hf s0 bp (some (.ae (dS k))) (λy a7=>aF y (dn _ a7));simp only[dh,forL];simp! [hU,dS,hx,e] at b8 ⊢;rw[b8];cases bp with
   |nil=>simp
   |cons jt bp=>simp[List.getLast?_cons]
def ahc{p:aN}{f:Str}(aF:∀k∈p.codes,bT k.eI)(hf:bT f):yf [cv p,.str f]=some (uh (codeOf p f)):=by
 have:=RL hf (some (.ae (cv p))) p.codes none aF;simp! [hU,yf,RW,gR,cv] at this ⊢;rw[this];unfold codeOf;cases e:p.codes.find? λk=>decide (k.eI=f) with
|none=>simp[uh]
|some k=>simp[uh]
def nK(c:aK)(z:Str):Str:=(c.lines.lookup z).getD ""
def kq(l:List (Str×Str))(z w:Str):List (Str×Str):=l.map λp=>if p.1=z then (z,w) else p
def Te(c:aK)(f:Str):Int:=(c.used.lookup f).getD 0
def n1(l:List (Str×Int))(f:Str):List (Str×Int):=l.map λp=>if p.1=f then (f,p.2+1) else p
theorem TS{z:Str}:∀{l:List (Str×Str)},z∈l.map (·.1)->getD (h7 l) (.inr z)=some (.str ((l.lookup z).getD ""))
  | [],h=>by simp at h
  | (k,v)::l,h=>by
    by_cases e:k=z
    · subst e
      simp[getD,h7,jE]
    · have h':z∈l.map (·.1):=by
        rw[dh] at h;rcases cm.mp h with q|q
        · exact absurd q.symm e
        · exact q
      have b8:=TS h';have ne:(z==k)=false:=beq_eq_false_iff_ne.mpr (Ne.symm e);simp only[getD,h7,dh,p1] at b8 ⊢;rw[decide_eq_false (λq=>e (Sum.inr.inj q))];simp only[jE,ne];exact b8
theorem L4{z:Str}:∀{l:List (Str×Int)},z∈l.map (·.1)->getD (h6 l) (.inr z)=some (.int ((l.lookup z).getD 0))
  | [],h=>by simp at h
  | (k,v)::l,h=>by
    by_cases e:k=z
    · subst e
      simp[getD,h6,jE]
    · have h':z∈l.map (·.1):=by
        rw[dh] at h;rcases cm.mp h with q|q
        · exact absurd q.symm e
        · exact q
      have b8:=L4 h';have ne:(z==k)=false:=beq_eq_false_iff_ne.mpr (Ne.symm e);simp only[getD,h6,dh,p1] at b8 ⊢;rw[decide_eq_false (λq=>e (Sum.inr.inj q))];simp only[jE,ne];exact b8
def ali{z:Str}{l:List (Str×Str)}(h:z∈l.map (·.1)):(h7 l).any (λp=>decide (p.1=(Sum.inr z:D.Key)))=true:=by
 obtain⟨x,hx,rfl⟩:=c7.mp h;rw[List.any_eq_true];exact⟨(.inr x.1,.str x.2),c7.mpr ⟨x,hx,rfl⟩,by simp⟩
def alj{z:Str}{l:List (Str×Int)}(h:z∈l.map (·.1)):(h6 l).any (λp=>decide (p.1=(Sum.inr z:D.Key)))=true:=by
 obtain⟨x,hx,rfl⟩:=c7.mp h;rw[List.any_eq_true];exact⟨(.inr x.1,.int x.2),c7.mpr ⟨x,hx,rfl⟩,by simp⟩
def aj9{z w:Str}{l:List (Str×Str)}(h:z∈l.map (·.1)):putD (h7 l) (.inr z) (.str w)=h7 (kq l z w):=by
 unfold putD;rw[ali h,if_pos rfl];simp only[h7,kq,q4];refine List.map_congr_left λx _=>?_;by_cases e:x.1=z
 ·simp[e]
 ·have:¬(Sum.inr x.1:D.Key)=Sum.inr z:=λq=>e (Sum.inr.inj q);simp[e,this]
def aj_{z:Str}{l:List (Str×Int)}(h:z∈l.map (·.1))(a':(l.map (·.1)).Nodup):putD (h6 l) (.inr z) (.int ((l.lookup z).getD 0+1))=h6 (n1 l z):=by
 unfold putD;rw[alj h,if_pos rfl];simp only[h6,n1,q4];refine List.map_congr_left λx hx=>?_;by_cases e:x.1=z
 ·have:∀{l:List (Str×Int)},x∈l->(l.map (·.1)).Nodup->l.lookup x.1=some x.2:=by
   intro l
   induction l with
   |nil=>intro h;simp at h
   |cons y l b8=>
    intro h a';rcases cm.mp h with rfl|h
    ·simp[jE]
    ·rw[dh,gN] at a';have ne:(x.1==y.1)=false:=beq_eq_false_iff_ne.mpr λq=>a'.1 (q▸c7.mpr ⟨x,h,rfl⟩);simp only[jE,ne];exact b8 h a'.2
  have aB:=this hx a';subst e;simp[aB]
 ·have:¬(Sum.inr x.1:D.Key)=Sum.inr z:=λq=>e (Sum.inr.inj q);simp[e,this]
theorem vN{α:Type}{cc:eT}{f':bz}{caps:Ev}(enc:α->T)(q:α->Bool)(f:α->T):∀(ts:List α) (s0:Option aJ),(∀a∈ts,cc (some (.ae (enc a))::caps)=some (q a)/\(q a=true->f' (some (.ae (enc a))::caps)=some (f a)))->hD (cx 0) cc f' (ts.map enc) (s0::caps)=some ((ts.filter q).map f)
| [],_,_=>rfl
|a::ts,s0,h=>by
  obtain⟨af,ak⟩:=h a (by simp);have b8:=vN enc q f ts (some (.ae (enc a))) λb U=>h b (dn _ U);simp only[dh,hD,cx,kz,c0,af];cases a3:q a with
  |false=>simp[b8,a3]
  |true=>simp[b8,a3,ak a3]
def bare(p:aN)(kinds:List Str)(c:aK):List Str:=((p.bU.filter λz=>decide (z.2∈kinds)).map (·.1)).filter λz=>decide (nK c z≠"shut") && !decide (z∈c.c_)
def bf(x:Str)(h:(lW x).canLay0=true:=by decide +kernel):bT x:=h
theorem lookup_mem{α:Type}{z:Str}:∀{l:List (Str×α)} {v:α},l.lookup z=some v->(z,v)∈l
  | [],v,h=>by cases h
  | (k,x)::l,v,h=>by
    rw[mC] at h;split at h
    next q=>
      cases h
      have:z=k:=by simpa using q
      subst this;simp
    next=>exact dn _ (lookup_mem h)
def a0.xa{p:aN}{c:aK}(h:a0 p c)(z:Str):bT (nK c z):=by
 unfold nK;cases e:c.lines.lookup z with
|none=>exact bf ""
|some v=>exact h.lo _ (lookup_mem e)
def a0.OQ{p:aN}{c:aK}(h:a0 p c){z:Str}(aq:z∈p.bU.map (·.1)):getD (h7 c.lines) (.inr z)=some (.str (nK c z)):=TS (by rw[h.ln];exact aq)
def S8(p:aN)(c:aK)(bp:List Str)(m:gm)(h:a0 p c)(aL:∀k∈bp,bT k):tf [.obj m 0 (encC p c),.ae (.tuple (hZ bp))]=some (.list ((bare p bp c).map .str)):=by
 have Af:=h.eK;have cS:=vN (cc:=bC (ao (fK false) (ao a4 (nm 0) (ah (.int 1))) (nm 1))) (f':=ao a4 (nm 0) (ah (.int 0))) (caps:=[some (.ae (.tuple (hZ bp)))]) dW (λz=>decide (z.2∈bp)) (λz=>.str z.1) p.bU none λz aq=>by
  have:=vo false (h.zn z aq).2 aL;simp at this;constructor
  ·simp! [hU,dW,hZ,this]
  ·intro _;simp! [hU,dW]
 have c5:=vN (cc:=hJ (bC (ao fk (m' 0 1 4 (nm 0)) (ah (.str "shut")))) (bC (ao (fK true) (nm 0) (fld 0 1 5)))) (f':=aS 0) (caps:=[some (.obj m 0 (encC p c))]) lW (λz=>decide (nK c z≠"shut") && !decide (z∈c.c_)) lW ((p.bU.filter λz=>decide (z.2∈bp)).map (·.1)) none λz aq=>by
  have OG:z∈p.bU.map (·.1):=by
   obtain⟨x,hx,rfl⟩:=c7.mp aq;exact c7.mpr ⟨x,(List.mem_filter.mp hx).1,rfl⟩
  have aD:=h.OQ OG;have aO:=nF (h.xa z) (bf "shut");have fw:=ym true (h.iQ OG) h.uE;simp at fw;constructor
  ·by_cases aA:nK c z="shut"
   ·simp! [hT,keyOf,aD,aO,aA,nF (bf "shut") (bf "shut")]
   ·simp! [hT,keyOf,aD,aO,fw,aA]
  ·intro _;simp! [hU]
 have b2:(p.bU.map dW).length<=16777216:=by simp;omega
 have b4:(((p.bU.filter λz=>decide (z.2∈bp)).map λz=>lW z.1)).length<=16777216:=by
  rw[e1];have:=xA (λz:Str×Str=>decide (z.2∈bp)) p.bU;omega
 simp only[q4,oF] at c5;simp only[tf,PZ,gx,jI];simp! [hT,cv] at cS c5 ⊢;have sk:p.bU.length<=big:=by unfold big;omega
 have mq:(p.bU.filter λz=>decide (z.2∈bp)).length<=big:=by
  have:=xA (λz:Str×Str=>decide (z.2∈bp)) p.bU;omega
 rw[if_pos sk,cS];simp only[e3,c0,lX,kB,Function.comp_apply,e1,mq,if_true,Option.join_some];rw[c5];simp[bare]
def g8(p:aN)(z k:Str)(c:aK):aK:=if k≠"way"\/p.iK<=0 then dk p z c else tell "coming" (some z) {c with mode:="coming",left:=p.iK,e7:=some z}
noncomputable def hq(p:aN)(z w:Str)(c:aK):aK:=
 if kindOf p z="day" then dk p z c
 else if c.mode="off" then (if w="cut" then tell "fault" (some z) c else c)
 else if w="cut"\/kindOf p z="once" then dk p z c
 else if c.mode="on" then g8 p z (kindOf p z) c else c
noncomputable def line(p:aN)(z w:Str)(c:aK):aK:=
 if w=nK c z then c
 else if w="shut" then (if nK c z="cut" then tell "mended" (some z) {c with lines:=kq c.lines z w} else {c with lines:=kq c.lines z w})
 else if z∈c.c_ then {c with lines:=kq c.lines z w} else hq p z w {c with lines:=kq c.lines z w}
def ahb(p:aN)(c:aK)(z k:Str)(h:a0 p c)(aq:bT z)(aL:bT k)(aX:c.told.length<big):tg [.obj .b_ 0 (encC p c),.ae (.str z),.ae (.str k)]=some (.none,encC p (g8 p z k c)):=by
 have e:=nF aL (bf "way");have b':=C1 p c z h aq aX;by_cases af:k="way"
 ·by_cases ak:p.iK<=0
  ·simp! [iS,tg,BX,cv,e,af,ak,b',g8];simp! [oz,nF (bf "way") (bf "way"),b',ak]
  ·have bw:=p5 p {c with mode:="coming",left:=p.iK,e7:=some z} "coming" z aX;simp! [iS,tg,BX,cv,af,ak,g8];simp! [iS,nF (bf "way") (bf "way"),bw,ak,cv]
 ·simp! [iS,tg,BX,cv,e,af,b',g8]
def ag'(p:aN)(c:aK)(z w:Str)(h:a0 p c)(aq:z∈p.bU.map (·.1))(hw:bT w)(aX:c.told.length<big):xN [.obj .b_ 0 (encC p c),.ae (.str z),.ae (.str w)]=some (.none,encC p (hq p z w c)):=by
 have eW:=KP h.zn aq;have Gw:bT (kindOf p z):=by
  unfold kindOf;cases e:p.bU.find? λx=>decide (x.1=z) with
  |none=>exact bf ""
  |some x=>exact (h.zn x (List.mem_of_find?_eq_some e)).2
 have b':=C1 p c z h (h.iQ aq) aX;have bw:=p5 p c "fault" z aX;have gH:=ahb p c z (kindOf p z) h (h.iQ aq) Gw aX;have aM:=dA Gw (bf "day");have bb:=dA h.mo (bf "off");have dg:=dA hw (bf "cut");have jx:=dA Gw (bf "once");have sP:=dA h.mo (bf "on");simp only[xN,P7,hq];by_cases af:kindOf p z="day"
 ·simp! [hz,eW,aM,af,b'];simp! [oz,dA (bf "day") (bf "day"),b']
 ·by_cases ak:c.mode="off"
  ·by_cases bB:w="cut"
   ·simp! [hz,eW,aM,af,bb,ak,dg,bB,bw,dA (bf "off") (bf "off"),dA (bf "cut") (bf "cut")]
   ·simp! [hz,eW,aM,af,bb,ak,dg,bB,bw,dA (bf "off") (bf "off")]
  ·by_cases bB:w="cut"
   ·simp! [hz,eW,aM,af,bb,ak,dg,bB,b',dA (bf "cut") (bf "cut")]
   ·by_cases c1:kindOf p z="once"
    ·simp! [hz,eW,aM,af,bb,ak,dg,bB,jx,c1,b',dA (bf "once") (bf "once"),dA (bf "once") (bf "day")]
    ·by_cases gT:c.mode="on"
     ·simp! [hz,eW,aM,af,bb,ak,dg,bB,jx,c1,sP,gT,gH,dA (bf "on") (bf "on"),dA (bf "on") (bf "off")]
     ·simp! [hz,eW,aM,af,bb,ak,dg,bB,jx,c1,sP,gT,gH]
def aho(l:List (Str×Str))(z w:Str):(kq l z w).map (·.1)=l.map (·.1):=by
 unfold kq;rw[q4];refine List.map_congr_left λx _=>?_;by_cases e:x.1=z <;> simp[e]
def ahZ(l:List (Str×Int))(z:Str):(n1 l z).map (·.1)=l.map (·.1):=by
 unfold n1;rw[q4];refine List.map_congr_left λx _=>?_;by_cases e:x.1=z <;> simp[e]
def a0.Pn{p:aN}{c:aK}(h:a0 p c)(z:Str){w:Str}(hw:bT w):a0 p {c with lines:=kq c.lines z w}:=
 ⟨h.zn,h.ff,h.eK,h.mo,h.ca,h.iu,(aho _ _ _).trans h.ln,λl aB=>by
  obtain⟨x,hx,rfl⟩:=c7.mp aB;by_cases e:x.1=z
  ·rw[if_pos e];exact hw
  ·rw[if_neg e];exact h.lo x hx,h.us,h.fD,h.al⟩
theorem a0.tell{p:aN}{c:aK}(h:a0 p c)(w:Str)(n:Option Str):a0 p (aZ.tell w n c):=⟨h.zn,h.ff,h.eK,h.mo,h.ca,h.iu,h.ln,h.lo,h.us,h.fD,h.al⟩
def a0.loud{p:aN}{c:aK}(h:a0 p c):a0 p (jo p c):=⟨h.zn,h.ff,h.eK,h.mo,h.ca,h.iu,h.ln,h.lo,h.us,h.fD,h.al⟩
theorem a0.dk{p:aN}{c:aK}(h:a0 p c){z:Str}(aq:z∈p.bU.map (·.1)):a0 p (aZ.dk p z c):=by
 unfold aZ.dk;split
 ·exact h.loud
 next hm=>
  refine a0.tell (c:={jo p c with cp:=c.cp++[z]}) ⟨h.zn,h.ff,h.eK,h.mo,h.ca,h.iu,h.ln,h.lo,h.us,h.fD,?_,?_⟩ _ _
  ·show (c.cp++[z]).Nodup
   rw[p0];exact⟨h.al.1,by simp,λa av b U e=>hm (by simp at U;subst U;exact e▸av)⟩
  ·intro y a7;rcases jD.mp a7 with q|q
   ·exact h.al.2 y q
   ·simp at q;exact q▸aq
def x'(p:aN)(z:Str)(c:aK):(dk p z c).told.length<=c.told.length+1:=by
 unfold dk tell jo;split <;> simp
def ajs(p:aN)(c:aK)(z w:Str)(h:a0 p c)(aq:z∈p.bU.map (·.1))(hw:bT w)(aX:c.told.length<big):xX [.obj .b_ 0 (encC p c),.ae (.str z),.ae (.str w)]=some (.none,encC p (line p z w c)):=by
 have aD:=h.OQ aq;have Af:z∈c.lines.map (·.1):=by rw[h.ln];exact aq
 have aO:=aj9 (w:=w) Af;have aM:=dA hw (h.xa z);have bb:=dA hw (bf "shut");have dg:=dA (h.xa z) (bf "cut");have jx:=ym true (h.iQ aq) h.uE;simp at jx;have hlen:(h7 c.lines).length<16777216:=by
  have:=congrArg List.length h.ln;have:=h.eK;simp[h7] at *;omega
 have hd:=ag' p _ z w (h.Pn z hw) aq hw aX;have bw:=p5 p {c with lines:=kq c.lines z w} "mended" z aX;simp only[xX,Qm,line];by_cases af:w=nK c z
 ·simp! [hz,keyOf,aD,aM,af,dA (h.xa z) (h.xa z)]
 ·by_cases ak:w="shut"
  ·subst ak;by_cases bB:nK c z="cut"
   ·simp! [hz,big,keyOf,aD,aO,aM,af,bb,dg,bB,hlen,bw,dA (bf "cut") (bf "cut"),dA (bf "shut") (bf "shut"),dA (bf "shut") (bf "cut")]
   ·simp! [hz,big,keyOf,aD,aO,aM,af,bb,dg,bB,hlen,dA (bf "shut") (bf "shut")]
  ·by_cases c1:z∈c.c_
   ·simp! [hz,big,keyOf,aD,aO,aM,af,bb,ak,jx,c1,hlen]
   ·simp! [hz,big,keyOf,aD,aO,aM,af,bb,ak,jx,c1,hlen,hd]
def less(a n:Int):Int:=if 0 > a - n then 0 else a - n
def j7(n:Int)(c:aK):aK:={c with past:=c.past+n,locked:=less c.locked n,dw:=less c.dw n,left:=less c.left n}
def agI(a n:Int):tr [.int a,.int n]=some (.int (less a n)):=by
 simp! [Ju,tr,Rh,less]
def Kl(p:aN)(c:aK)(n:Int):te [.obj .b_ 0 (encC p c),.ae (.int n)]=some (.none,encC p (j7 n c)):=by
 simp! [hT,te,PY,agI,j7]
def cp(p:aN)(zs:List Str)(c:aK):aK:=zs.foldl (λc z=>dk p z c) c
def gq(p:aN)(c:aK):aK:=cp p (bare p ["inner","way"] (tell "on" none {c with mode:="on",left:=0})) (tell "on" none {c with mode:="on",left:=0})
def lD(p:aN)(c:aK):aK:=dk p (c.e7.getD "") {c with mode:="on",e7:=none}
def fg(p:aN)(c:aK):aK:=if c.mode="leaving" then gq p c else lD p c
noncomputable def dx(p:aN)(n:Int)(c:aK):aK:=
 if n<1 then c else if (c.mode="leaving"\/c.mode="coming")/\c.left<=n then j7 (n - c.left) (fg p (j7 c.left c)) else j7 n c
theorem Rj(p:aN):∀(zs:List Str) (c:aK) (s1:Option aJ),a0 p c->(∀z∈zs,z∈p.bU.map (·.1))->c.told.length+zs.length<big->∃qT,forL (cx 1) (dP (cZ 0 lh 0 [(aS 1)])) (zs.map .str) [some (.obj .b_ 0 (encC p c)),s1]=some (.bK [some (.obj .b_ 0 (encC p (cp p zs c))),qT])
| [],c,s1,_,_,_=>⟨s1,by simp[forL,cp]⟩
|z::zs,c,s1,h,aq,aX=>by
  have OH:=aq z (by simp);have b':=C1 p c z h (h.iQ OH) (by simp at aX;omega);have:=x' p z c;obtain⟨qT,b8⟩:=Rj p zs (dk p z c) (some (.ae (.str z))) (h.dk OH) (λy a7=>aq y (dn _ a7)) (by simp at aX;omega);refine⟨qT,?_⟩;rw[dh,forL];simp! [oz,b'];simpa [d9,seq,iff,bC,hb,hJ,e',hQ,f_,ofT,dX,ao,b9,args,ah,nm,aS,cy,skip,asg,jS,jT,par,cb,gi,ix,g5,a4,fG,gK,cx,eO,gb,fl,comp,iI,cp] using b8
def vq{p:aN}{bp:List Str}{c:aK}{z:Str}(h:z∈bare p bp c):z∈p.bU.map (·.1):=by
 unfold bare at h;obtain⟨x,hx,rfl⟩:=c7.mp (List.mem_filter.mp h).1;exact c7.mpr ⟨x,(List.mem_filter.mp hx).1,rfl⟩
def Sy(p:aN)(bp:List Str)(c:aK):(bare p bp c).length<=p.bU.length:=by
 unfold bare;have af:=xA (λz=>decide (nK c z≠"shut") && !decide (z∈c.c_)) ((p.bU.filter λz=>decide (z.2∈bp)).map (·.1));have ak:=xA (λz:Str×Str=>decide (z.2∈bp)) p.bU;rw[e1] at af;omega
theorem a0.on{p:aN}{c:aK}(h:a0 p c)(x:Int):a0 p {c with mode:="on",left:=x}:=⟨h.zn,h.ff,h.eK,bf "on",h.ca,λe=>absurd e x3,h.ln,h.lo,h.us,h.fD,h.al⟩
def Qd(p:aN)(c:aK)(h:a0 p c)(aX:c.told.length+50<big):tc [.obj .b_ 0 (encC p c)]=some (.none,encC p (gq p c)):=by
 have BB:=(h.on 0).tell "on" none;have bw:=CE p {c with mode:="on",left:=0} "on" (by show c.told.length<big;omega);have dZ:=S8 p (tell "on" none {c with mode:="on",left:=0}) ["inner","way"] .cI BB (by
  intro k aL;simp at aL;rcases aL with rfl|rfl
  ·exact bf "inner"
  ·exact bf "way")
 have aB:=Sy p ["inner","way"] (tell "on" none {c with mode:="on",left:=0});have aq:=h.eK;obtain⟨qT,lp⟩:=Rj p (bare p ["inner","way"] (tell "on" none {c with mode:="on",left:=0})) (tell "on" none {c with mode:="on",left:=0}) none BB (λz aq=>vq aq) (by
  have:(tell "on" none {c with mode:="on",left:=0}:aK).told.length=c.told.length+1:=by simp[tell]
  omega)
 simp only[hZ,dh,gZ] at dZ;simp! [hT,tc,PW,bw,dZ,gR];rw[lp];simp! [aeU,gq]
def a0.O7{p:aN}{c:aK}(h:a0 p c):a0 p {c with mode:="on",e7:=none}:=⟨h.zn,h.ff,h.eK,bf "on",λz e=>(nomatch e),λe=>absurd e x3,h.ln,h.lo,h.us,h.fD,h.al⟩
def age(p:aN)(c:aK)(h:a0 p c)(ax:c.e7≠none)(aX:c.told.length<big):xG [.obj .b_ 0 (encC p c)]=some (.none,encC p (lD p c)):=by
 obtain⟨z,aq⟩:=Option.ne_none_iff_exists'.mp ax;have b':=C1 p {c with mode:="on",e7:=none} z h.O7 (h.ca z aq).1 aX;simp! [hT,xG,PX,aq,eb,b',lD]
def a0.cd{p:aN}{c:aK}(h:a0 p c)(n:Int):a0 p (j7 n c):=⟨h.zn,h.ff,h.eK,h.mo,h.ca,h.iu,h.ln,h.lo,h.us,h.fD,h.al⟩
def agK(p:aN)(c:aK)(h:a0 p c)(hm:c.mode="leaving"\/c.mode="coming")(aX:c.told.length+50<big):u' [.obj .b_ 0 (encC p c)]=some (.none,encC p (fg p c)):=by
 have dO:=Qd p c h aX;have q:=dA h.mo (bf "leaving");rcases hm with hm|hm
 ·simp! [hz,u',J7,hm,dO,fg,dA (bf "leaving") (bf "leaving")]
 ·have fv:=age p c h (h.iu hm) (by omega);simp! [hz,u',J7,hm,fv,fg,dA (bf "coming") (bf "leaving")]
def ah4(p:aN)(c:aK)(n:Int)(h:a0 p c)(aX:c.told.length+50<big):ra [.obj .b_ 0 (encC p c),.ae (.int n)]=some (.none,encC p (dx p n c)):=by
 have q:fK false (.str c.mode) (.tuple [.str "leaving",.str "coming"])=some (.bool (decide (c.mode="leaving"\/c.mode="coming"))):=by
  have:=vo false (n:=c.mode) (ns:=["leaving","coming"]) h.mo (by
   intro k aL;simp at aL;rcases aL with rfl|rfl
   ·exact bf "leaving"
   ·exact bf "coming")
  simpa using this
 have dO:=Kl p c c.left;have hs:=Kl p c n;by_cases af:n<1
 ·simp! [iS,ra,xW,af,dx]
 ·by_cases ak:c.mode="leaving"\/c.mode="coming"
  ·by_cases bB:c.left<=n
   ·have fv:=agK p (j7 c.left c) (h.cd _) ak aX;have mh:=Kl p (fg p (j7 c.left c)) (n - c.left);rw[decide_eq_true ak] at q;simp only[dx,if_neg af,if_pos (And.intro ak bB)];simp! [iS,ra,xW,af,q,bB,dO,fv,mh]
   ·rw[decide_eq_true ak] at q;simp only[dx,if_neg af,if_neg (λz:(c.mode="leaving"\/c.mode="coming")/\c.left<=n=>bB z.2)];simp! [iS,ra,xW,af,q,bB,hs]
  ·rw[decide_eq_false ak] at q;simp only[dx,if_neg af,if_neg (λz:(c.mode="leaving"\/c.mode="coming")/\c.left<=n=>ak z.1)];simp! [iS,ra,xW,af,q,hs]
def yx(k:hk)(c:aK):Bool:=decide (k.uses≠0) && decide (k.uses<=Te c k.eI)
def lS(c:aK):aK:={tell "wrong" none c with tries:=c.tries+1}
def fV(p:aN)(c:aK):aK:=if 3<=c.tries+1 then tell "attack" none (jo p {lS c with tries:=0,locked:=90}) else lS c
noncomputable def l4(p:aN)(d:Str)(z:Option Str)(c:aK):Bool:=
 if d="unset" then false else if c.mode≠"off" then true
 else if d="shunt" then decide (kindOf p (z.getD "")="day") || decide (z.getD ""∈c.c_)
 else decide (d="free") && !decide (z.getD ""∈c.c_)
noncomputable def kP(p:aN)(k:hk)(d:Str)(z:Option Str)(c:aK):Option (Str×Str):=
 if (if d="free" then ("shunt":Str) else d)∉k.j0 then some ("denied",k.iC)
 else if l4 p d z c then some ("no",k.iC)
 else if d="set"/\bare p ["day","once"] c≠[] then some ("open",(bare p ["day","once"] c).headD "") else none
def lB(p:aN)(iC:Str)(c:aK):aK:=
 let cS:=tell "set" (some iC) {c with cp:=[],dw:=0,mode:="leaving",left:=p.leave}
 if p.leave<=0 then gq p cS else cS
def r_(iC:Str)(c:aK):aK:=tell "unset" (some iC) {c with mode:="off",left:=0,dw:=0,e7:=none,c_:=[]}
noncomputable def eV(p:aN)(iC d:Str)(z:Option Str)(c:aK):aK:=
 if d="set" then lB p iC c else if d="unset" then r_ iC c
 else if d="shunt" then tell "shunt" z {c with c_:=jJ (c.c_++[z.getD ""])}
 else tell "free" z {c with c_:=c.c_.erase (z.getD "")}
noncomputable def takeRight(p:aN)(k:hk)(d:Str)(z:Option Str)(c:aK):aK:=match kP p k d z c with
|none=>eV p k.iC d z {c with used:=n1 c.used k.eI}
|some (w,n)=>tell w (some n) c
noncomputable def code(p:aN)(f d:Str)(z:Option Str)(c:aK):aK:=
 if 0<c.locked then tell "locked" none c else match codeOf p f with
  |none=>fV p c
  |some k=>if yx k c then fV p c else takeRight p k d z {c with tries:=0}
def agT(p:aN)(c:aK)(k:hk)(h:a0 p c)(aL:k∈p.codes)(m:gm):u9 [.obj m 0 (encC p c),.ae (dS k)]=some (.bool (yx k c)):=by
 have e:getD (h6 c.used) (.inr k.eI)=some (.int (Te c k.eI)):=L4 (by rw[h.us];exact c7.mpr ⟨k,aL,rfl⟩);have q:fk (.int k.uses) (.int 0)=some (.bool (!decide (k.uses=0))):=by
  unfold fk;rw[vy,vy];by_cases e:k.uses=0 <;> simp[je,e]
 by_cases af:k.uses=0
 ·simp! [iS,u9,J3,dS,q,af,qk,yx];simp[fk,vy,je]
 ·simp! [iS,u9,J3,dS,q,af,qk,yx,keyOf,e]
def agb(p:aN)(c:aK)(aX:c.told.length+2<big):amm [.obj .b_ 0 (encC p c)]=some (.none,encC p (fV p c)):=by
 have dO:=CE p c "wrong" (by omega);have fv:=KW p {lS c with tries:=0,locked:=90};have hs:=CE p (jo p {lS c with tries:=0,locked:=90}) "attack" (by simp[jo,lS,tell];omega);have w:({mode:=(tell "wrong" none c).mode,left:=(tell "wrong" none c).left,e7:=(tell "wrong" none c).e7,lines:=(tell "wrong" none c).lines,c_:=(tell "wrong" none c).c_,dw:=(tell "wrong" none c).dw,cp:=(tell "wrong" none c).cp,tries:=c.tries+1,locked:=(tell "wrong" none c).locked,used:=(tell "wrong" none c).used,past:=(tell "wrong" none c).past,told:=(tell "wrong" none c).told}:aK)=lS c:=rfl;have JH:(tell "wrong" none c).tries=c.tries:=rfl;by_cases bB:3<=c.tries+1
 ·simp! [iS,amm,J1,dO,JH,bB,fV];simp[lS] at fv hs ⊢;simp[fv,hs]
 ·simp! [iS,amm,J1,dO,JH,bB,fV,lS]
end aZ
section
namespace aZ
open D PySem
def a0.acQ{p:aN}{c:aK}(h:a0 p c)(z:Str):bT (kindOf p z):=by
 unfold kindOf;cases e:p.bU.find? λx=>decide (x.1=z) with
|none=>exact bf ""
|some x=>exact (h.zn x (List.mem_of_find?_eq_some e)).2
def mJ:(2<=big)=True:=by simp[big]
def R6:(10<=big)=True:=by simp[big]
def lK(p:aN)(d:Str)(z:Option Str):Prop:=(d="shunt"\/d="free")->∃x,z=some x/\x∈p.bU.map (·.1)
def af8(p:aN)(c:aK)(d:Str)(z:Option Str)(m:gm)(h:a0 p c)(hd:bT d)(aq:lK p d z):oN [.obj m 0 (encC p c),.ae (.str d),.ae (eb z)]=some (.bool (l4 p d z c)):=by
 have aM:=dA hd (bf "unset");have bb:=nF h.mo (bf "off");have dg:=dA hd (bf "shunt");have jx:=dA hd (bf "free");by_cases af:d="unset"
 ·simp! [hT,oN,td,aM,af,l4];simp[dA (bf "unset") (bf "unset")]
 ·by_cases ak:c.mode="off"
  ·by_cases bB:d="shunt"
   ·obtain⟨x,rfl,hx⟩:=aq (.inl bB);subst bB;have eW:=KP h.zn hx;have sP:=dA (h.acQ x) (bf "day");have qO:=ym false (h.iQ hx) h.uE;simp at qO;by_cases c1:kindOf p x="day"
    ·simp! [hz,oN,td,aM,af,ak,nF (bf "off") (bf "off"),dg,xb,eb,eW,sP,qO,c1,l4];simp[dA (bf "day") (bf "day")]
    ·simp! [hz,oN,td,aM,af,ak,nF (bf "off") (bf "off"),dg,xb,eb,eW,sP,qO,c1,l4]
   ·by_cases c1:d="free"
    ·obtain⟨x,rfl,hx⟩:=aq (.inr c1);subst c1;have qO:=ym true (h.iQ hx) h.uE;simp at qO;simp! [hz,oN,td,aM,ak,nF (bf "off") (bf "off"),dg,jx,qk,eb,qO,l4]
    ·simp! [hz,oN,td,aM,af,ak,nF (bf "off") (bf "off"),dg,bB,jx,c1,qk,l4]
  ·simp! [hT,oN,td,aM,af,bb,ak,l4]
def qq:Option (Str×Str)->T
|none=>.none
|some (w,n)=>.tuple [.str w,.str n]
def afL(p:aN)(c:aK)(k:hk)(d:Str)(z:Option Str)(m:gm)(h:a0 p c)(aL:k∈p.codes)(hd:bT d)(aq:lK p d z):xE [.obj m 0 (encC p c),.ae (dS k),.ae (.str d),.ae (eb z)]=some (qq (kP p k d z c)):=by
 have aM:=dA hd (bf "free");have bb:=dA hd (bf "set");have fx:=af8 p c d z .cI h hd aq;have dZ:=S8 p c ["day","once"] .cI h (by
  intro k aL;simp at aL;rcases aL with rfl|rfl
  ·exact bf "day"
  ·exact bf "once")
 simp only[hZ,dh,gZ] at dZ;have dg:=vo true (n:=if d="free" then ("shunt":Str) else d) (ns:=k.j0) (by
  split
  ·exact bf "shunt"
  ·exact hd) (h.ff k aL).2.2
 simp at dg;have qr:(pM (bC (ao oEq (nm 2) (ah (.str "free")))) (ah (.str "shunt")) (aS 2)) [some (.obj m 0 (encC p c)),some (.ae (dS k)),some (.ae (.str d)),some (.ae (eb z)),none,none]=some (.str (if d="free" then ("shunt":Str) else d)):=by
  by_cases h0:d="free"
  ·simp! [oz,aM,h0,dA (bf "free") (bf "free")]
  ·simp! [oz,aM,h0]
 simp only[xE,PR,gx,jI,seq,asg,dh,gZ,eJ,lg,alZ,u0,xC,qr,e3,c0,kA,kz];generalize au:(if d="free" then ("shunt":Str) else d)=r at dg ⊢;unfold kP;rw[au];by_cases af:r∈k.j0
 ·by_cases ak:l4 p d z c=true
  ·simp! [hT,dS,mJ,dg,af,fx,ak,qq]
  ·simp at ak;by_cases bB:d="set"
   ·subst bB;cases e:bare p ["day","once"] c with
    |nil=>
     rw[e] at dZ;simp! [hT,dS,mJ,dg,af,fx,ak,dZ,bb,qq]
    |cons b bs=>
     rw[e] at dZ;simp! [hT,dS,mJ,dg,af,fx,ak,dZ,bb,qq]
   ·simp! [hT,dS,mJ,dg,af,fx,ak,dZ,bb,bB,qq]
 ·simp! [hT,dS,mJ,dg,af,qq]
def a0.Bq{p:aN}{c:aK}(h:a0 p c)(x:Int):a0 p {c with cp:=[],dw:=0,mode:="leaving",left:=x}:=⟨h.zn,h.ff,h.eK,bf "leaving",h.ca,λe=>absurd e J9,h.ln,h.lo,h.us,h.fD,by simp⟩
def ahR(p:aN)(c:aK)(w:Str)(h:a0 p c)(aX:c.told.length+60<big):vb [.obj .b_ 0 (encC p c),.ae (.str w)]=some (.none,encC p (lB p w c)):=by
 have dO:=p5 p {c with cp:=[],dw:=0,mode:="leaving",left:=p.leave} "set" w (by show c.told.length<big;omega);have fv:=Qd p (tell "set" (some w) {c with cp:=[],dw:=0,mode:="leaving",left:=p.leave}) ((h.Bq p.leave).tell _ _) (by
  have:(tell "set" (some w) {c with cp:=[],dw:=0,mode:="leaving",left:=p.leave}:aK).told.length=c.told.length+1:=by simp[tell]
  omega)
 have lf:(tell "set" (some w) {c with cp:=[],dw:=0,mode:="leaving",left:=p.leave}:aK).left=p.leave:=rfl;by_cases af:p.leave<=0
 ·simp! [iS,vb,Kd,cv,dO,lf,af,fv,lB]
 ·simp! [iS,vb,Kd,cv,dO,lf,af,lB]
def agL(p:aN)(c:aK)(w:Str)(aX:c.told.length<big):xJ [.obj .b_ 0 (encC p c),.ae (.str w)]=some (.none,encC p (r_ w c)):=by
 have dO:=p5 p {c with mode:="off",left:=0,dw:=0,e7:=none,c_:=[]} "unset" w aX;simp! [iS,xJ,P1,dO,r_]
theorem KN:∀l:List Str,strsOf (l.map .str)=some l
| []=>rfl
|x::l=>by simp[strsOf,KN l]
def w'(p:aN)(d:Str)(z:Option Str)(c:aK):Prop:=d="set"\/d="unset"\/(d="shunt"/\∃x,z=some x/\x∈p.bU.map (·.1))\/(d="free"/\∃x,z=some x/\x∈c.c_)
def ag9(p:aN)(c:aK)(w d:Str)(z:Option Str)(h:a0 p c)(hd:bT d)(aq:w' p d z c)(aX:c.told.length+60<big):q8 [.obj .b_ 0 (encC p c),.ae (.str w),.ae (.str d),.ae (eb z)]=some (.none,encC p (eV p w d z c)):=by
 have aM:=dA hd (bf "set");have bb:=dA hd (bf "unset");have dg:=dA hd (bf "shunt");have es:=ahR p c w h aX;have fx:=agL p c w (by omega);rcases aq with rfl|rfl|⟨rfl,x,rfl,hx⟩|⟨rfl,x,rfl,hx⟩
 ·simp! [hT,q8,xP,aM,es,eV]
 ·simp! [hz,q8,xP,aM,bb,fx,eV]
 ·have aB:=h.Po;have dO:=p5 p {c with c_:=jJ (c.c_++[x])} "shunt" x (by show c.told.length<big;omega);have cf:c.c_.length+1<=big:=by unfold big;omega
  have ct:c.c_.length+1<64:=by omega
  have t8:1<=big:=by decide
  have fe:=KN (c.c_++[x]);simp at fe;simp! [hz,q8,xP,aM,bb,dg,eb,dC,t8,cf,ct,CW,fe,dO,eV]
 ·have dO:=p5 p {c with c_:=c.c_.erase x} "free" x (by show c.told.length<big;omega);simp! [hz,q8,xP,aM,bb,dg,eb,Bh,KN,hx,dO,eV]
structure Wp(p:aN):Prop where
 cd:(p.codes.map (·.eI)).Nodup
 zd:(p.bU.map (·.1)).Nodup
 cl:p.codes.length<=40
 JH:0<=p.leave/\0<=p.iK/\0<=p.loud
def a0.add{p:aN}{c:aK}(h:a0 p c)(f:Str):a0 p {c with used:=n1 c.used f}:=⟨h.zn,h.ff,h.eK,h.mo,h.ca,h.iu,h.ln,h.lo,(ahZ _ _).trans h.us,h.fD,h.al⟩
def a0.xr{p:aN}{c:aK}(h:a0 p c)(n:Int):a0 p {c with tries:=n}:=⟨h.zn,h.ff,h.eK,h.mo,h.ca,h.iu,h.ln,h.lo,h.us,h.fD,h.al⟩
def Di{p:aN}{c:aK}{k:hk}{d:Str}{z:Option Str}(hd:d="set"\/d="unset"\/d="shunt"\/d="free")(aq:lK p d z)(av:kP p k d z c=none):w' p d z c:=by
 rcases hd with rfl|rfl|rfl|rfl
 ·exact .inl rfl
 ·exact .inr (.inl rfl)
 ·exact .inr (.inr (.inl ⟨rfl,aq (.inl rfl)⟩))
 ·refine .inr (.inr (.inr ⟨rfl,?_⟩))
  obtain⟨x,rfl,hx⟩:=aq (.inr rfl);refine⟨x,rfl,?_⟩;refine Classical.byContradiction λbM=>?_;have:l4 p "free" (some x) c=true:=by
   by_cases hm:c.mode="off" <;> simp[l4,ve,vf,bM,hm]
  unfold kP at av;rw[this] at av;by_cases au:(if ("free":Str)="free" then ("shunt":Str) else "free")∈k.j0
  ·rw[if_neg (λq=>q au),if_pos rfl] at av;cases av
  ·rw[if_pos au] at av;cases av
def agc(p:aN)(c:aK)(k:hk)(d:Str)(z:Option Str)(h:a0 p c)(aC:Wp p)(aL:k∈p.codes)(hd:d="set"\/d="unset"\/d="shunt"\/d="free")(aq:lK p d z)(aX:c.told.length+60<big):amn [.obj .b_ 0 (encC p c),.ae (dS k),.ae (.str d),.ae (eb z)]=some (.none,encC p (takeRight p k d z c)):=by
 have ec:bT d:=by
  rcases hd with rfl|rfl|rfl|rfl
  ·exact bf "set"
  ·exact bf "unset"
  ·exact bf "shunt"
  ·exact bf "free"
 have b':=afL p c k d z .cI h aL ec aq;have OP:k.eI∈c.used.map (·.1):=by rw[h.us];exact c7.mpr ⟨k,aL,rfl⟩
 cases e:kP p k d z c with
|none=>
  have kk:=Di hd aq e;have g1:=L4 OP;have g2:=aj_ OP (by rw[h.us];exact aC.cd);have aB:(h6 c.used).length<big:=by
   have:=congrArg List.length h.us;have:=aC.cl;simp[h6] at *;unfold big;omega
  have fp:=ag9 p {c with used:=n1 c.used k.eI} k.iC d z (h.add _) ec kk aX;rw[e] at b';simp only[dS] at b';simp! [hT,amn,J2,b',qq,dS,keyOf,g1,g2,aB,fp,takeRight,e]
|some wn=>
  obtain⟨w,n⟩:=wn;have bw:=p5 p c w n (by omega);rw[e] at b';simp only[dS] at b';simp! [hT,amn,J2,b',qq,dS,bw,takeRight,e]
def KR{p:aN}{f:Str}{k:hk}(h:codeOf p f=some k):k∈p.codes:=List.mem_of_find?_eq_some h
def ajH(p:aN)(c:aK)(f d:Str)(z:Option Str)(h:a0 p c)(aC:Wp p)(hf:bT f)(hd:d="set"\/d="unset"\/d="shunt"\/d="free")(aq:lK p d z)(aX:c.told.length+60<big):rb [.obj .b_ 0 (encC p c),.ae (.str f),.ae (.str d),.ae (eb z)]=some (.none,encC p (code p f d z c)):=by
 have gH:=ahc (λk aL=>(h.ff k aL).1) hf;have bw:=CE p c "locked" (by omega);have m_:=agb p c (by omega);by_cases af:0<c.locked
 ·simp! [iS,rb,xY,gH,af,bw,code]
 ·cases e:codeOf p f with
  |none=>
   rw[e] at gH;simp! [iS,rb,xY,gH,uh,af,m_,code,e]
  |some k=>
   rw[e] at gH;have aL:=KR e;have fx:=agT p c k h aL .cI;have h_:=agc p {c with tries:=0} k d z (h.xr 0) aC aL hd aq aX;cases ak:yx k c with
   |true=>
    rw[ak] at fx;simp! [iS,rb,xY,gH,uh,af,fx,dS] at fx ⊢;simp[fx,m_,code,e,af,ak]
   |false=>
    rw[ak] at fx;simp! [iS,rb,xY,gH,uh,af,fx,dS] at fx h_ ⊢;simp! [aeV,fx,h_,code,e,af,ak]
inductive cV where
|line (z w:Str)
|code (f d:Str) (z:Option Str)
|dx (n:Int)
def de:cV->T
|.line z w=>.tuple [.str "line",.str z,.str w]
|.code f d z=>.tuple [.str "code",.str f,.str d,eb z]
|.dx n=>.tuple [.str "ticks",.int n]
noncomputable def gw(p:aN):cV->Prop
|.line z w=>z∈p.bU.map (·.1)/\(w="shut"\/w="open"\/w="cut")
|.code f d z=>bT f/\(d="set"\/d="unset"\/d="shunt"\/d="free")/\lK p d z
|.dx n=>1<=n
def e_(p:aN)(c:aK):cV->aK
|.line z w=>line p z w c
|.code f d z=>code p f d z c
|.dx n=>dx p n c
def ahP(p:aN)(c:aK)(e:cV)(h:a0 p c)(aC:Wp p)(he:gw p e)(aX:c.told.length+60<big):q' [.obj .b_ 0 (encC p c),.ae (de e)]=some (.none,encC p (e_ p c e)):=by
 have q (x y:Str) (hx:bT x) (a7:bT y):=dA hx a7;cases e with
|line z w=>
  have fL:bT w:=by
   rcases he.2 with rfl|rfl|rfl
   ·exact bf "shut"
   ·exact bf "open"
   ·exact bf "cut"
  have gQ:=ajs p c z w h he.1 fL (by omega);simp! [hT,q',B0,de,dA (bf "line") (bf "line"),gQ,e_]
|code f d z=>
  have gQ:=ajH p c f d z h aC he.1 he.2.1 he.2.2 aX;simp! [hz,q',B0,de,dA (bf "code") (bf "line"),dA (bf "code") (bf "code"),gQ,e_]
|dx n=>
  have gQ:=ah4 p c n h (by omega);simp! [hz,q',B0,de,dA (bf "ticks") (bf "line"),dA (bf "ticks") (bf "code"),gQ,e_]
end aZ
end
section
namespace aZ
open D PySem
local instance:cJ:=⟨[],λ_=>[],λ_=>none⟩
def l1(w:Str)(n:Option Str)(c:aK):(tell w n c).told.length=c.told.length+1:=by simp[tell]
theorem a0.W6{p:aN}{c:aK}(h:a0 p c)(x:Int){z:Str}(aq:z∈p.bU.map (·.1)):a0 p {c with mode:="coming",left:=x,e7:=some z}:=
 ⟨h.zn,h.ff,h.eK,bf "coming",λy e=>ef e▸⟨h.iQ aq,aq⟩,λ_ e=>(nomatch e),h.ln,h.lo,h.us,h.fD,h.al⟩
theorem a0.g8{p:aN}{c:aK}(h:a0 p c){z:Str}(k:Str)(aq:z∈p.bU.map (·.1)):a0 p (g8 p z k c):=by
 unfold aZ.g8;split
 ·exact h.dk aq
 ·exact (h.W6 p.iK aq).tell _ _
def agP(p:aN)(z k:Str)(c:aK):(g8 p z k c).told.length<=c.told.length+1:=by
 unfold aZ.g8;split
 ·exact x' p z c
 ·rw[l1];exact el _
theorem a0.hq{p:aN}{c:aK}(h:a0 p c){z:Str}(w:Str)(aq:z∈p.bU.map (·.1)):a0 p (hq p z w c):=by
 unfold aZ.hq
 repeat' split
 all_goals first|exact h.dk aq|exact h.tell _ _|exact h.g8 _ aq|exact h
def agt(p:aN)(z w:Str)(c:aK):(hq p z w c).told.length<=c.told.length+1:=by
 unfold aZ.hq
 repeat' split
 all_goals first|exact x' p z c|exact agP p z _ c|(rw[l1];exact el _)|omega
theorem a0.line{p:aN}{c:aK}(h:a0 p c){z w:Str}(aq:z∈p.bU.map (·.1))(hw:bT w):a0 p (line p z w c):=by
 have h':=h.Pn z hw;unfold aZ.line
 repeat' split
 all_goals first|exact h|exact h'|exact h'.tell _ _|exact h'.hq _ aq
def ahE(p:aN)(z w:Str)(c:aK):(line p z w c).told.length<=c.told.length+1:=by
 unfold aZ.line
 repeat' split
 all_goals first|omega|(rw[l1];exact el _)|exact agt p z w {c with lines:=kq c.lines z w}|exact gB _
theorem a0.cp{p:aN}:∀{zs:List Str} {c:aK},a0 p c->(∀z∈zs,z∈p.bU.map (·.1))->a0 p (aZ.cp p zs c)
| [],_,h,_=>h
|z::zs,c,h,aq=>a0.cp (zs:=zs) (h.dk (aq z fb)) λy a7=>aq y (dn _ a7)
theorem QX(p:aN):∀(zs:List Str) (c:aK),(aZ.cp p zs c).told.length<=c.told.length+zs.length
| [],c=>el _
|z::zs,c=>by
  have af:=QX p zs (dk p z c);have ak:=x' p z c;simp only[eJ];show (aZ.cp p zs (dk p z c)).told.length<=_;omega
theorem a0.gq{p:aN}{c:aK}(h:a0 p c):a0 p (gq p c):=a0.cp ((h.on 0).tell _ _) λz aq=>vq aq
def P_{p:aN}{c:aK}(h:a0 p c):(gq p c).told.length<=c.told.length+41:=by
 have af:=QX p (bare p ["inner","way"] (tell "on" none {c with mode:="on",left:=0})) (tell "on" none {c with mode:="on",left:=0});have ak:=Sy p ["inner","way"] (tell "on" none {c with mode:="on",left:=0});have bB:=h.eK;rw[l1] at af;show (aZ.cp p _ _).told.length<=_;have c1:({c with mode:="on",left:=0}:aK).told.length=c.told.length:=rfl;omega
theorem a0.lD{p:aN}{c:aK}(h:a0 p c)(ax:c.e7≠none):a0 p (lD p c):=by
 obtain⟨z,aq⟩:=Option.ne_none_iff_exists'.mp ax;unfold aZ.lD;rw[aq];exact h.O7.dk (h.ca z aq).2
def af9(p:aN)(c:aK):(lD p c).told.length<=c.told.length+1:=x' _ _ _
theorem a0.fg{p:aN}{c:aK}(h:a0 p c)(hm:c.mode="leaving"\/c.mode="coming"):a0 p (fg p c):=by
 unfold aZ.fg;split
 ·exact h.gq
 next q=>exact h.lD (h.iu (hm.resolve_left q))
def ags{p:aN}{c:aK}(h:a0 p c):(fg p c).told.length<=c.told.length+41:=by
 unfold aZ.fg;split
 ·exact P_ h
 ·have:=af9 p c;omega
theorem a0.dx{p:aN}{c:aK}(h:a0 p c)(n:Int):a0 p (dx p n c):=by
 unfold aZ.dx;split
 ·exact h
 ·split
  next q=>exact ((h.cd _).fg q.1).cd _
  ·exact h.cd _
def agW{p:aN}{c:aK}(h:a0 p c)(n:Int):(dx p n c).told.length<=c.told.length+41:=by
 unfold aZ.dx;split
 ·omega
 ·split
  ·exact ags (h.cd c.left)
  ·exact q7 _ _
theorem a0.fV{p:aN}{c:aK}(h:a0 p c):a0 p (fV p c):=by
 unfold aZ.fV;split
 ·exact a0.tell (a0.loud (c:={lS c with tries:=0,locked:=90}) ⟨h.zn,h.ff,h.eK,h.mo,h.ca,h.iu,h.ln,h.lo,h.us,h.fD,h.al⟩) _ _
 ·exact⟨h.zn,h.ff,h.eK,h.mo,h.ca,h.iu,h.ln,h.lo,h.us,h.fD,h.al⟩
def af2(p:aN)(c:aK):(fV p c).told.length<=c.told.length+2:=by
 unfold aZ.fV;split
 ·rw[l1];show (tell _ _ c).told.length+1<=_;rw[l1];exact el _
 ·show (tell _ _ c).told.length<=_
  rw[l1];omega
theorem a0.lB{p:aN}{c:aK}(h:a0 p c)(w:Str):a0 p (lB p w c):=by
 unfold aZ.lB;have h':=(h.Bq p.leave).tell "set" (some w);show a0 p (if p.leave<=0 then _ else _);split
 ·exact h'.gq
 ·exact h'
def ag_{p:aN}{c:aK}(h:a0 p c)(w:Str):(lB p w c).told.length<=c.told.length+42:=by
 unfold aZ.lB;have h':=(h.Bq p.leave).tell "set" (some w);have e:=l1 "set" (some w) {c with cp:=[],dw:=0,mode:="leaving",left:=p.leave};have bS:({c with cp:=[],dw:=0,mode:="leaving",left:=p.leave}:aK).told.length=c.told.length:=rfl;show (if p.leave<=0 then gq p _ else _:aK).told.length<=_;split
 ·have:=P_ h';omega
 ·omega
theorem a0.r_{p:aN}{c:aK}(h:a0 p c)(w:Str):a0 p (r_ w c):=
 ⟨h.zn,h.ff,h.eK,bf "off",λz e=>(nomatch e),λe=>absurd e vd,h.ln,h.lo,h.us,by simp[aZ.r_,aZ.tell],h.al⟩
theorem a0.eV{p:aN}{c:aK}(h:a0 p c)(w:Str){d:Str}{z:Option Str}(aq:w' p d z c)(a6:d="shunt"->z.getD ""∉c.c_):a0 p (eV p w d z c):=by
 rcases aq with rfl|rfl|⟨rfl,x,rfl,hx⟩|⟨rfl,x,rfl,hx⟩
 ·simp only[aZ.eV,if_true];exact h.lB w
 ·simp only[aZ.eV,if_neg x1,if_true];exact h.r_ w
 ·simp only[aZ.eV,if_neg x2,if_neg vc,if_true];refine a0.tell (c:={c with c_:=jJ (c.c_++[x])}) ⟨h.zn,h.ff,h.eK,h.mo,h.ca,h.iu,h.ln,h.lo,h.us,⟨?_,?_⟩,h.al⟩ _ _
  ·show (jJ (c.c_++[x])).Nodup
   rw[(vi _).nodup_iff,p0];refine⟨h.fD.1,by simp,λa av b U e=>?_⟩;simp at U;exact a6 rfl (by show x∈_;exact U▸e▸av)
  ·intro y a7;have GL:=(vi _).mem_iff.mp a7;rcases jD.mp GL with q|q
   ·exact h.fD.2 y q
   ·simp at q;exact q▸hx
 ·simp only[aZ.eV,if_neg x8,if_neg ve,if_neg vf];refine a0.tell (c:={c with c_:=c.c_.erase x}) ⟨h.zn,h.ff,h.eK,h.mo,h.ca,h.iu,h.ln,h.lo,h.us,⟨?_,?_⟩,h.al⟩ _ _
  ·exact h.fD.1.erase x
  ·exact λy a7=>h.fD.2 y (List.mem_of_mem_erase a7)
def agM{p:aN}{c:aK}(h:a0 p c)(w d:Str)(z:Option Str):(eV p w d z c).told.length<=c.told.length+42:=by
 unfold aZ.eV;split
 ·exact ag_ h w
 ·split
  ·show (tell _ _ _).told.length<=_
   rw[l1];show c.told.length+1<=_;omega
  ·split
   ·rw[l1];show c.told.length+1<=_;omega
   ·rw[l1];show c.told.length+1<=_;omega
def agi{p:aN}{c:aK}{k:hk}{z:Option Str}(av:kP p k "shunt" z c=none):z.getD ""∉c.c_/\c.mode="off"/\kindOf p (z.getD "")≠"day":=by
 have bM:l4 p "shunt" z c≠true:=by
  intro q;unfold kP at av;rw[q] at av;by_cases au:(if ("shunt":Str)="free" then ("shunt":Str) else "shunt")∈k.j0
  ·rw[if_neg (λq=>q au),if_pos rfl] at av;cases av
  ·rw[if_pos au] at av;cases av
 unfold l4 at bM;rw[if_neg vc] at bM;by_cases hm:c.mode="off"
 ·rw[if_neg (λq=>q hm),if_pos rfl] at bM;simp at bM;exact⟨bM.2,hm,bM.1⟩
 ·rw[if_pos hm] at bM;exact absurd rfl bM
theorem a0.takeRight{p:aN}{c:aK}(h:a0 p c)(k:hk){d:Str}{z:Option Str}(hd:d="set"\/d="unset"\/d="shunt"\/d="free")(aq:lK p d z):a0 p (takeRight p k d z c):=by
 unfold aZ.takeRight;split
 next e=>
  refine (h.add _).eV _ (Di hd aq e) λq=>?_
  subst q;exact (agi e).1
 ·exact h.tell _ _
def af3{p:aN}{c:aK}(h:a0 p c)(k:hk)(d:Str)(z:Option Str):(takeRight p k d z c).told.length<=c.told.length+42:=by
 unfold aZ.takeRight;split
 ·exact agM (h.add k.eI) _ _ _
 ·rw[l1];omega
theorem a0.code{p:aN}{c:aK}(h:a0 p c)(f:Str){d:Str}{z:Option Str}(hd:d="set"\/d="unset"\/d="shunt"\/d="free")(aq:lK p d z):a0 p (code p f d z c):=by
 unfold aZ.code;split
 ·exact h.tell _ _
 ·split
  ·exact h.fV
  ·split
   ·exact h.fV
   ·exact (h.xr 0).takeRight _ hd aq
def ahT{p:aN}{c:aK}(h:a0 p c)(f d:Str)(z:Option Str):(code p f d z c).told.length<=c.told.length+42:=by
 have:=af2 p c;unfold aZ.code;split
 ·rw[l1];omega
 ·split
  ·omega
  ·split
   ·omega
   ·exact af3 (h.xr 0) _ _ _
def ak9{p:aN}{z w:Str}(he:gw p (.line z w)):bT w:=by
 rcases he.2 with rfl|rfl|rfl
 ·exact bf "shut"
 ·exact bf "open"
 ·exact bf "cut"
theorem a0.e_{p:aN}{c:aK}(h:a0 p c){e:cV}(he:gw p e):a0 p (e_ p c e):=by
 cases e with
|line z w=>exact h.line he.1 (ak9 he)
|code f d z=>exact h.code f he.2.1 he.2.2
|dx n=>exact h.dx n
def QW{p:aN}{c:aK}(h:a0 p c)(e:cV):(e_ p c e).told.length<=c.told.length+50:=by
 cases e with
|line z w=>have:=ahE p z w c;show (line p z w c).told.length<=_;omega
|code f d z=>have:=ahT h f d z;show (code p f d z c).told.length<=_;omega
|dx n=>have:=agW h n;show (dx p n c).told.length<=_;omega
def run(p:aN)(c:aK)(es:List cV):aK:=es.foldl (e_ p) c
def fresh(c:aK):aK:={c with past:=0,told:=[]}
theorem a0.fresh{p:aN}{c:aK}(h:a0 p c):a0 p (fresh c):=⟨h.zn,h.ff,h.eK,h.mo,h.ca,h.iu,h.ln,h.lo,h.us,h.fD,h.al⟩
theorem a0.run{p:aN}:∀{es:List cV} {c:aK},a0 p c->(∀e∈es,gw p e)->a0 p (run p c es)
| [],_,h,_=>h
|e::es,c,h,he=>a0.run (es:=es) (h.e_ (he e fb)) λy a7=>he y (dn _ a7)
theorem CS{p:aN}:∀{es:List cV} {c:aK},a0 p c->(∀e∈es,gw p e)->(run p c es).told.length<=c.told.length+50*es.length
| [],_,_,_=>el _
|e::es,c,h,he=>by
  have af:=CS (es:=es) (h.e_ (he e fb)) λy a7=>he y (dn _ a7);have ak:=QW h e;show (run p (e_ p c e) es).told.length<=_;simp only[eJ];omega
noncomputable def d2(c:aK):T:=.tuple [.str c.mode,.int c.left,eb c.e7,.tuple (c.lines.map λl=>.str l.2),.tuple (c.c_.map .str),.int c.dw,.tuple (c.cp.map .str),.int c.tries,.int c.locked,.tuple (c.used.map λu=>.int u.2)]
theorem Tc:∀(bp:List Str) (l:List (Str×Str)),l.map (·.1)=bp->rI (bp.map .str) (l.map λl=>.str l.2)=some (h7 l)
| [],[],_=>rfl
| [],_::_,h=>by cases h
|_::_,[],h=>by cases h
|k::bp,x::l,h=>by
  simp at h;simp[rI,keyOf,Tc bp l h.2,h7,h.1]
theorem Td:∀(bp:List Str) (l:List (Str×Int)),l.map (·.1)=bp->rI (bp.map .str) (l.map λl=>.int l.2)=some (h6 l)
| [],[],_=>rfl
| [],_::_,h=>by cases h
|_::_,[],h=>by cases h
|k::bp,x::l,h=>by
  simp at h;simp[rI,keyOf,Td bp l h.2,h6,h.1]
def Rv{l:List Str}(h:l.Nodup):(l.map (Sum.inr:Str->D.Key)).Nodup:=by
 rw[List.nodup_iff_pairwise_ne,List.pairwise_map];exact (List.nodup_iff_pairwise_ne.mp h).imp λq e=>q (Sum.inr.inj e)
def aju(l:List (Str×Str)):(h7 l).map (·.1)=(l.map (·.1)).map Sum.inr:=by simp[h7,oF]
def ajv(l:List (Str×Int)):(h6 l).map (·.1)=(l.map (·.1)).map Sum.inr:=by simp[h6,oF]
def Sw{α:Type}(enc:α->T)(g:α->T)(caps:Ev)(ts:List α)(s0:Option aJ)(h:∀a∈ts,(ao a4 (nm 0) (ah (.int 0))) (some (.ae (enc a))::caps)=some (g a)):hD (cx 0) (f_ true) (ao a4 (nm 0) (ah (.int 0))) (ts.map enc) (s0::caps)=some (ts.map g):=by
 have:=vN (cc:=f_ true) (f':=ao a4 (nm 0) (ah (.int 0))) (caps:=caps) enc (λ_=>true) g ts s0 λa av=>⟨rfl,λ_=>h a av⟩;rw[List.filter_eq_self.mpr (λ_ _=>rfl)] at this;exact this
def ajz(p:aN)(c:aK)(h:a0 p c)(aC:Wp p):xK [.obj .b_ 0 [],.ae (cv p),.ae (d2 c)]=some (.none,encC p (fresh c)):=by
 have aq:=h.eK;have ax:=aC.cl;have cS:=Sw dW (λz=>.str z.1) [] p.bU none λz aq=>by simp! [hU,dW]
 have c5:=Sw dS (λz=>.str z.eI) [] p.codes none λz aq=>by simp! [hU,dS]
 have j6:=Tc (p.bU.map (·.1)) c.lines h.ln;have gC:=Td (p.codes.map (·.eI)) c.used h.us;rw[q4] at j6 gC;have cf:p.bU.length<=big:=by unfold big;omega
 have ct:p.codes.length<=big:=by unfold big;omega
 have gv:((h7 c.lines).map (·.1)).Nodup/\(h7 c.lines).length<=1000/\∀t∈(p.bU.map λz=>lW z.1),(keyOf t).isSome=true:=by
  refine⟨?_,?_,?_⟩
  ·rw[aju,h.ln];exact Rv aC.zd
  ·have:=congrArg List.length h.ln;simp[h7] at *;omega
  ·intro t aX;obtain⟨z,_,rfl⟩:=c7.mp aX;rfl
 have gd:((h6 c.used).map (·.1)).Nodup/\(h6 c.used).length<=1000/\∀t∈(p.codes.map λz=>lW z.eI),(keyOf t).isSome=true:=by
  refine⟨?_,?_,?_⟩
  ·rw[ajv,h.us];exact Rv aC.cd
  ·have:=congrArg List.length h.us;simp[h6] at *;omega
  ·intro t aX;obtain⟨z,_,rfl⟩:=c7.mp aX;rfl
 have t8:(0<=big)=True:=by simp
 simp only[oF] at j6 gC;simp only[xK,P2,runM,jI];simp! [oz,cv,d2,vV,vK,cS,c5,cf,ct,j6,gC];rw[if_pos gv];simp! [oz,vK,vV,cS,c5,cf,ct,j6,gC];rw[if_pos ⟨gd.1,gd.2.1,λa av=>rfl⟩];simp! [oz,encC,fresh,cv]
def ah9(p:aN)(c:aK)(m:gm)(h:a0 p c):xV [.obj m 0 (encC p c)]=some (d2 c):=by
 have af:=h.Po;have ak:=h.MQ;have cf:c.c_.length<=big:=by unfold big;omega
 have ct:c.cp.length<=big:=by unfold big;omega
 simp! [hT,xV,Qe,yS,hi,cf,ct,R6,d2,h7,h6,oF]
theorem Se(p:aN)(aC:Wp p):∀(es:List cV) (c:aK) (s0 s1 s2 s4:Option aJ),a0 p c->(∀e∈es,gw p e)->c.told.length+50*es.length+60<big->∃k4,forL (cx 4) (dP (cZ 0 q' 3 [(aS 4)])) (es.map de) [s0,s1,s2,some (.obj .own 0 (encC p c)),s4]=some (.bK [s0,s1,s2,some (.obj .own 0 (encC p (run p c es))),k4])
| [],c,s0,s1,s2,s4,_,_,_=>⟨s4,by simp[forL,run]⟩
|e::es,c,s0,s1,s2,s4,h,he,aX=>by
  have Oj:=he e fb;simp only[eJ] at aX;have b':=ahP p c e h aC Oj (by omega);have:=QW h e;obtain⟨qT,b8⟩:=Se p aC es (e_ p c e) s0 s1 s2 (some (.ae (de e))) (h.e_ Oj) (λy a7=>he y (dn _ a7)) (by omega);refine⟨qT,?_⟩;rw[dh,forL];simp! [oz,b'];simpa [d9,seq,iff,bC,hb,hJ,e',hQ,f_,ofT,dX,ao,b9,args,ah,nm,aS,cy,skip,asg,jS,jT,par,cb,gi,ix,g5,a4,fG,gK,cx,eO,gb,fl,comp,iI,run] using b8
def Kt(p:aN)(c:aK)(es:List cV)(h:a0 p c)(aC:Wp p)(he:∀e∈es,gw p e)(aB:es.length<=1000):oR [cv p,d2 c,.tuple (es.map de)]=some (.obj .own 0 (encC p (run p (fresh c) es))):=by
 have FH:=ajz p c h aC;have U:(fresh c).told.length=0:=rfl;have ct:(60000<big):=by decide
 obtain⟨k4,gQ⟩:=Se p aC es (fresh c) (some (.ae (cv p))) (some (.ae (d2 c))) (some (.ae (.tuple (es.map de)))) none h.fresh he (by omega);simp only[oR,KJ,sT];simp! [oz,n3,ox,FH,gR,xh];rw[gQ];simp[xh,Bc]
def ah8(p:aN)(c:aK)(es:List cV)(h:a0 p c)(aC:Wp p)(he:∀e∈es,gw p e)(aB:es.length<=1000):yt [cv p,d2 c,.tuple (es.map de)]=some (.tuple ((run p (fresh c) es).told.map kh)):=by
 have dO:=Kt p c es h aC he aB;have U:=CS h.fresh he;have ct:(60000<big):=by decide
 have h0:(fresh c).told.length=0:=rfl;have cf:(run p (fresh c) es).told.length<=big:=by omega
 simp! [hU,yt,S_,rF,vz,dO,tJ,ub,hi,cf]
noncomputable def eS(p:aN):aK:={mode:="off",left:=0,e7:=none,lines:=p.bU.map λz=>(z.1,"shut"),c_:=[],dw:=0,cp:=[],tries:=0,locked:=0,used:=p.codes.map λk=>(k.eI,0),past:=0,told:=[]}
def aiT(p:aN)(aq:p.bU.length<=40)(aC:Wp p):yu [cv p]=some (d2 (eS p)):=by
 have ax:=aC.cl;have cf:p.bU.length<=big:=by unfold big;omega
 have ct:p.codes.length<=big:=by unfold big;omega
 have cS:=vN (cc:=f_ true) (f':=ah (.str "shut")) (caps:=[]) dW (λ_=>true) (λ_=>.str "shut") p.bU none λa av=>⟨rfl,λ_=>rfl⟩;have c5:=vN (cc:=f_ true) (f':=ah (.int 0)) (caps:=[]) dS (λ_=>true) (λ_=>.int 0) p.codes none λa av=>⟨rfl,λ_=>rfl⟩;rw[List.filter_eq_self.mpr (λ_ _=>rfl)] at cS c5;simp! [hU,yu,S',cv,hi,cf,ct,cS,c5,R6,d2,eS,eb,oF]
end aZ
end
section
namespace aZ
open D PySem
local instance:cJ:=⟨[],λ_=>[],λ_=>none⟩
def LI(ns:List Int)(k:Nat):lZ [eg ns,.int k]=some (.int (ns.getD k 0)):=by
 by_cases h:k<ns.length
 ·have h':(k:Int)<(ns.length:Int):=by omega
  simp! [Ju,lZ,tq,eg,h,h',List.getD]
 ·have h':¬(k:Int)<(ns.length:Int):=by omega
  simp! [Ju,lZ,tq,eg,h,h',List.getD]
def kF{i j:Int}(h:-(2 ^ 64)<j/\j<2 ^ 64):dI (.int i) (.int j)=some (.int (i*j)):=by
 unfold dI vT;simp only[decide_eq_true h.1,decide_eq_true h.2,Bool.and_self,Bool.or_true,if_true]
def oZ{i j:Int}(h:0<j):oMod (.int i) (.int j)=some (.int (i % j)):=if_pos h
def TU{i j:Int}(h:0<j/\j<1073741824):oDiv (.int i) (.int j)=some (.int (i / j)):=if_pos h
def kG{i j:Int}:dC (.int i) (.int j)=some (.int (i+j)):=rfl
def hY{a b:bA}{ε ε':Ev}(h:a ε=some (.bK ε')):seq a b ε=b ε':=by
 unfold seq;rw[h];rfl
def CX(ns:List Int)(k:Nat):∃m:Int,0<=m/\kD [eg ns,.int k]=some (.int m):=by
 have ax:=LI ns k;have hd:0<=(ns.getD k 0+7919*(k:Int)+1)*48271 % 2147483647/\(ns.getD k 0+7919*(k:Int)+1)*48271 % 2147483647<2147483647:=⟨oI _ (by decide),uZ _ (by decide)⟩;generalize hx:(ns.getD k 0+7919*(k:Int)+1)*48271 % 2147483647=d at hd;refine⟨(d*d+7*d+k) % 2147483629,oI _ (by decide),?_⟩;have b7:kD [eg ns,.int k]=(tv [some (.ae (eg ns)),some (.ae (.int k)),none]).bind λo=>match o with|.d4 t=>some t|.bK _=>some .none|_=>none:=rfl
 have hO:dI (.int 7919) (.int k)=some (.int (7919*k)):=by
  unfold dI vT;simp
 have nq:aS 0 [some (.ae (eg ns)),some (.ae (.int k)),none]=some (eg ns):=rfl;have gv:aS 1 [some (.ae (eg ns)),some (.ae (.int k)),none]=some (.int k):=rfl;have IC:nm 1 [some (.ae (eg ns)),some (.ae (.int k)),none]=some (.int k):=rfl;have s1:asg 2 (ao oMod (ao dI (ao dC (ao dC (b9 lZ [(aS 0),(aS 1)]) (ao dI (ah (.int 7919)) (nm 1))) (ah (.int 1))) (ah (.int 48271))) (ah (.int 2147483647))) [some (.ae (eg ns)),some (.ae (.int k)),none]=some (.bK [some (.ae (eg ns)),some (.ae (.int k)),some (.ae (.int d))]):=by
  simp only[asg,ao,b9,args,nq,gv,IC,c0,e3,ax,ah,hO,kG,kF (i:=ns.getD k 0+7919*(k:Int)+1) (j:=48271) (by decide),oZ (j:=2147483647) (by decide),hx];rfl
 have kW:dI (.int d) (.int d)=some (.int (d*d)):=kF (by omega);have qH:dI (.int 7) (.int d)=some (.int (7*d)):=kF (by omega);rw[b7];unfold tv;rw[hY s1];have bb:nm 2 [some (.ae (eg ns)),some (.ae (.int k)),some (.ae (.int d))]=some (.int d):=rfl;have aM:nm 1 [some (.ae (eg ns)),some (.ae (.int k)),some (.ae (.int d))]=some (.int k):=rfl;simp only[cy,ao,bb,aM,c0,e3,ah,kW,qH,kG,oZ (j:=2147483629) (by decide)]
def CZ(n k:Int)(aL:-(2 ^ 64)<k/\k<2 ^ 64):∃m:Int,0<=m/\l3 [.int n,.int k]=some (.int m):=by
 have hd:0<=(n+104729*k+17)*69621 % 2147483647/\(n+104729*k+17)*69621 % 2147483647<2147483647:=⟨oI _ (by decide),uZ _ (by decide)⟩;generalize hx:(n+104729*k+17)*69621 % 2147483647=d at hd;refine⟨(d*d+3*d+k) % 2147483629,oI _ (by decide),?_⟩;have b7:l3 [.int n,.int k]=(amg [some (.ae (.int n)),some (.ae (.int k)),none]).bind λo=>match o with|.d4 t=>some t|.bK _=>some .none|_=>none:=rfl
 have hO:dI (.int 104729) (.int k)=some (.int (104729*k)):=kF aL;have nq:nm 0 [some (.ae (.int n)),some (.ae (.int k)),none]=some (.int n):=rfl;have gv:nm 1 [some (.ae (.int n)),some (.ae (.int k)),none]=some (.int k):=rfl;have s1:asg 2 (ao oMod (ao dI (ao dC (ao dC (nm 0) (ao dI (ah (.int 104729)) (nm 1))) (ah (.int 17))) (ah (.int 69621))) (ah (.int 2147483647))) [some (.ae (.int n)),some (.ae (.int k)),none]=some (.bK [some (.ae (.int n)),some (.ae (.int k)),some (.ae (.int d))]):=by
  simp only[asg,ao,nq,gv,c0,e3,ah,hO,kG,kF (i:=n+104729*k+17) (j:=69621) (by decide),oZ (j:=2147483647) (by decide),hx];rfl
 have kW:dI (.int d) (.int d)=some (.int (d*d)):=kF (by omega);have qH:dI (.int 3) (.int d)=some (.int (3*d)):=kF (by omega);rw[b7];unfold amg;rw[hY s1];have bb:nm 2 [some (.ae (.int n)),some (.ae (.int k)),some (.ae (.int d))]=some (.int d):=rfl;have aM:nm 1 [some (.ae (.int n)),some (.ae (.int k)),some (.ae (.int d))]=some (.int k):=rfl;simp only[cy,ao,bb,aM,c0,e3,ah,kW,qH,kG,oZ (j:=2147483629) (by decide)]
def rn(a b:Int):oEq (.int a) (.int b)=some (.bool (decide (a=b))):=by
 unfold oEq;rw[vy,vy];by_cases e:a=b <;> simp[je,e]
def divQ(m:Int)(j:Int)(h:0<j/\j<1073741824:=by decide):∃q,q=m / j/\oDiv (.int m) (.int j)=some (.int q):=⟨_,rfl,TU h⟩
def modQ(m:Int)(j:Int)(h:0<j:=by decide):∃q,q=m % j/\0<=q/\q<j/\oMod (.int m) (.int j)=some (.int q):=⟨_,rfl,oI _ (by omega),uZ _ h,oZ h⟩
def Al{ts:List T}{j:Int}(h0:0<=j)(af:j<ts.length):∃t∈ts,a4 (.tuple ts) (.int j)=some t:=by
 have bR:j.toNat<ts.length:=by omega
 refine⟨ts[j.toNat],List.getElem_mem bR,?_⟩
 simp only[a4,fG,gK,if_pos h0,if_pos af,c0];exact iD bR
def wW(ss:List Str){j:Int}(h0:0<=j)(af:j<ss.length):∃s∈ss,a4 (.tuple (ss.map .str)) (.int j)=some (.str s):=by
 obtain⟨t,aX,e⟩:=Al (ts:=ss.map .str) h0 (by simpa using af);obtain⟨s,aA,rfl⟩:=c7.mp aX;exact⟨s,aA,e⟩
def wV(ss:List Int){j:Int}(h0:0<=j)(af:j<ss.length):∃s∈ss,a4 (.tuple (ss.map .int)) (.int j)=some (.int s):=by
 obtain⟨t,aX,e⟩:=Al (ts:=ss.map .int) h0 (by simpa using af);obtain⟨s,aA,rfl⟩:=c7.mp aX;exact⟨s,aA,e⟩
def LG:(5<=big)=True:=by simp[big]
def vA:(4<=big)=True:=by simp[big]
def oU:(3<=big)=True:=by simp[big]
def LU:(6<=big)=True:=by simp[big]
def aiM:(8<=big)=True:=by simp[big]
def one_le:(1<=big)=True:=by simp[big]
noncomputable def qm:bA:=(seq (asg 4 (ao oDiv (b9 l3 [(aS 0),(aS 2)]) (ah (.int 4)))) (iff (e' (bC (ao oLt (ao oMod (nm 4) (ah (.int 8))) (ao dC (ah (.int 3)) (ao oMod (nm 0) (ah (.int 5)))))) (bC (ao oEq (nm 2) (ao oMod (ao oDiv (nm 0) (ah (.int 8))) (ah (.int 8)))))) (asg 1 (ao dC (nm 1) (cb [(cb [(aS 3),(ao a4 (cb [(ah (.str "day")),(ah (.str "inner")),(ah (.str "once")),(ah (.str "way")),(ah (.str "way"))]) (ao oMod (ao oDiv (nm 4) (ah (.int 8))) (ah (.int 5))))])]))) skip))
def n_(x:Int×Str):T:=.tuple [.int x.1,.str x.2]
def kinds:List Str:=["day","inner","once","way","way"]
theorem KX(n:Int):∀(l:List (Int×Str)) (acc:List (Str×Str)) (s2 s3 s4:Option aJ),(∀x∈l,0<=x.1/\x.1<100)->acc.length+l.length<=20->∃zs lN xi k4,(zs.map (·.1)).Sublist (l.map (·.2))/\(∀z∈zs,z.2∈kinds)/\((∃x∈l,x.1=n / 8 % 8)->zs≠[]) /\
  forL (eO [(cx 2),(cx 3)]) qm (l.map n_) [some (.ae (.int n)),some (.ae (.tuple (acc.map dW))),s2,s3,s4,none,none,none,none,none]=some (.bK [some (.ae (.int n)),some (.ae (.tuple ((acc++zs).map dW))),lN,xi,k4,none,none,none,none,none])
| [],acc,s2,s3,s4,_,_=>⟨[],s2,s3,s4,.refl _,by simp,by simp,by simp[forL]⟩
|x::l,acc,s2,s3,s4,hx,aB=>by
  obtain⟨m,hm,dO⟩:=CZ n x.1 (by have:=hx x fb;omega);obtain⟨q,a3,fv⟩:=divQ m 4;obtain⟨r,_,_,_,hs⟩:=modQ q 8;obtain⟨cq,_,_,_,mh⟩:=modQ n 5;obtain⟨aM,mr,n7⟩:=divQ n 8;obtain⟨bg,qz,_,_,n8⟩:=modQ aM 8;obtain⟨bb,nh,n9⟩:=divQ q 8;obtain⟨b5,_,h0,af,m8⟩:=modQ bb 5;obtain⟨s,aA,lC⟩:=wW kinds h0 af;simp only[kinds,dh,gZ] at lC;simp only[eJ] at aB;have cf:acc.length+1<=big:=by unfold big;omega
  have kV:∀y∈l,0<=y.1/\y.1<100:=λy a7=>hx y (dn _ a7);by_cases ax:r<3+cq\/x.1=bg
  ·obtain⟨zs,lN,xi,k4,b0,b1,sz,lH⟩:=KX n l (acc++[(x.2,s)]) (some (.ae (.int x.1))) (some (.ae (.str x.2))) (some (.ae (.int q))) kV (by simp;omega);refine⟨(x.2,s)::zs,lN,xi,k4,by simpa using b0,λz aq=>?_,λ_=>by simp,?_⟩
   ·rcases cm.mp aq with rfl|aq
    ·exact aA
    ·exact b1 z aq
   ·rw[dh,forL];have:qm [some (.ae (.int n)),some (.ae (.tuple (acc.map dW))),some (.ae (.int x.1)),some (.ae (.str x.2)),s4,none,none,none,none,none]=some (.bK [some (.ae (.int n)),some (.ae (.tuple ((acc++[(x.2,s)]).map dW))),some (.ae (.int x.1)),some (.ae (.str x.2)),some (.ae (.int q)),none,none,none,none,none]):=by
     by_cases dc:r<3+cq
     ·simp! [gX,qm,dO,fv,hs,mh,n7,n8,n9,m8,lC,kG,oLt,dc,dC,cf,LG,mJ,one_le,dW]
     ·have m7:oEq (.int x.1) (.int bg)=some (.bool true):=by rw[rn,decide_eq_true (ax.resolve_left dc)]
      simp! [gX,qm,dO,fv,hs,mh,n7,n8,n9,m8,lC,kG,oLt,dc,m7,dC,cf,LG,mJ,one_le,dW]
    simp only[n_,eO,gb,cx,c0,kA,kz,this];simpa using lH
  ·obtain⟨zs,lN,xi,k4,b0,b1,sz,lH⟩:=KX n l acc (some (.ae (.int x.1))) (some (.ae (.str x.2))) (some (.ae (.int q))) kV (by omega);refine⟨zs,lN,xi,k4,b0.cons _,b1,λ⟨y,a7,e⟩=>sz ?_,?_⟩
   ·rcases cm.mp a7 with rfl|a7
    ·exact absurd (.inr (by rw[e,qz,mr])) ax
    ·exact⟨y,a7,e⟩
   ·rw[dh,forL];have:qm [some (.ae (.int n)),some (.ae (.tuple (acc.map dW))),some (.ae (.int x.1)),some (.ae (.str x.2)),s4,none,none,none,none,none]=some (.bK [some (.ae (.int n)),some (.ae (.tuple (acc.map dW))),some (.ae (.int x.1)),some (.ae (.str x.2)),some (.ae (.int q)),none,none,none,none,none]):=by
     have dU:¬r<3+cq:=λz=>ax (.inl z);have g_:¬x.1=bg:=λz=>ax (.inr z);simp! [gX,qm,dO,fv,hs,mh,n7,n8,n9,m8,lC,kG,oLt,dU,g_,rn]
    simp only[n_,eO,gb,cx,c0,kA,kz,this];exact lH
def adS:kY 0 3=[.int 0,.int 1,.int 2]:=by simp[kY,List.range_succ]
def r5:eT:=bC (ao ja (ao oMod (ao oDiv (nm 1) (ao a4 (cb [(ah (.int 4)),(ah (.int 16)),(ah (.int 64))]) (nm 0))) (ah (.int 4))) (ah (.int 0)))
def m9:bz:=ao a4 (cb [(ah (.str "set")),(ah (.str "shunt")),(ah (.str "unset"))]) (nm 0)
def vu:List Str:=["set","shunt","unset"]
def ahr(q:Int)(ε:Ev)(h:(ε[4]?).join=some (.ae (.int q))):∃rs:List Str,rs.Sublist vu/\comp 1 [4] (mK (ah (.int 3))) (cx 0) r5 m9 ε=some (.list (rs.map .str)):=by
 have key:∀j qG:Int,a4 (.tuple [.int 4,.int 16,.int 64]) (.int j)=some (.int qG)->0<qG->qG<1073741824->∃b,r5 [some (.ae (.int j)),some (.ae (.int q))]=some b:=by
  intro j qG af ak bB;obtain⟨aM,_,dO⟩:=divQ q qG ⟨ak,bB⟩;obtain⟨bg,_,_,_,fv⟩:=modQ aM 4;exact⟨decide (0<bg),by simp! [gX,r5,af,dO,fv,ja,oU]⟩
 obtain⟨t8,k0⟩:=key 0 4 (by simp[a4,fG,gK]) (by decide) (by decide);obtain⟨cf,k1⟩:=key 1 16 (by simp[a4,fG,gK]) (by decide) (by decide);obtain⟨ct,k2⟩:=key 2 64 (by simp[a4,fG,gK]) (by decide) (by decide);have jy:m9 [some (.ae (.int 0)),some (.ae (.int q))]=some (.str "set"):=by simp! [hU,m9,oU]
 have bg:m9 [some (.ae (.int 1)),some (.ae (.int q))]=some (.str "shunt"):=by simp! [hU,m9,oU]
 have b5:m9 [some (.ae (.int 2)),some (.ae (.int q))]=some (.str "unset"):=by simp! [hU,m9,oU]
 have pA:comp 1 [4] (mK (ah (.int 3))) (cx 0) r5 m9 ε=(hD (cx 0) r5 m9 [.int 0,.int 1,.int 2] [none,some (.ae (.int q))]).map .list:=by
  have s3:vr 3=true:=by decide
  simp[comp,mK,ah,s3,adS,iI,h,oU]
 rw[pA];cases t8 <;> cases cf <;> cases ct
 ·exact⟨[],by simp,by simp[hD,cx,k0,k1,k2]⟩
 ·exact⟨["unset"],by decide,by simp[hD,cx,k0,k1,k2,jy,bg,b5]⟩
 ·exact⟨["shunt"],by decide,by simp[hD,cx,k0,k1,k2,jy,bg,b5]⟩
 ·exact⟨["shunt","unset"],by decide,by simp[hD,cx,k0,k1,k2,jy,bg,b5]⟩
 ·exact⟨["set"],by decide,by simp[hD,cx,k0,k1,k2,jy,bg,b5]⟩
 ·exact⟨["set","unset"],by decide,by simp[hD,cx,k0,k1,k2,jy,bg,b5]⟩
 ·exact⟨["set","shunt"],by decide,by simp[hD,cx,k0,k1,k2,jy,bg,b5]⟩
 ·exact⟨["set","shunt","unset"],by decide,by simp[hD,cx,k0,k1,k2,jy,bg,b5]⟩
noncomputable def r3:bA:=(seq (asg 4 (ao oDiv (b9 l3 [(aS 0),(ao dC (ah (.int 10)) (nm 2))]) (ah (.int 4)))) (iff (e' (bC (ao ja (ao oMod (nm 4) (ah (.int 3))) (ah (.int 0)))) (bC (ao oEq (nm 2) (ah (.int 1))))) (seq (asg 7 (b9 hi [(comp 1 [4] (mK (ah (.int 3))) (cx 0) r5 m9)])) (seq (asg 8 (ao a4 (cb [(ah (.str "ann")),(ah (.str "bo")),(ah (.str "cy"))]) (ao oMod (ao oDiv (nm 4) (ah (.int 256))) (ah (.int 3))))) (asg 5 (ao dC (nm 5) (cb [(cb [(aS 6),(aS 8),(aS 7),(ao a4 (cb [(ah (.int 0)),(ah (.int 0)),(ah (.int 1)),(ah (.int 2)),(ah (.int 9))]) (ao oMod (ao oDiv (nm 4) (ah (.int 1024))) (ah (.int 5))))])]))))) skip))
def uP:List Str:=["ann","bo","cy"]
theorem KQ(n:Int)(s1 s3:Option aJ):∀(l:List (Int×Str)) (acc:List hk) (s2 s4 gf dJ eo:Option aJ),(∀x∈l,0<=x.1/\x.1<100)->acc.length+l.length<=20->∃bp lN k4 xj xk xl,(bp.map (·.eI)).Sublist (l.map (·.2))/\(∀k∈bp,k.iC∈uP/\k.j0.Sublist vu/\k.uses∈([0,0,1,2,9]:List Int))/\((∃x∈l,x.1=1)->bp≠[]) /\
  forL (eO [(cx 2),(cx 6)]) r3 (l.map n_) [some (.ae (.int n)),s1,s2,s3,s4,some (.ae (.tuple (acc.map dS))),gf,dJ,eo,none]=some (.bK [some (.ae (.int n)),s1,lN,s3,k4,some (.ae (.tuple ((acc++bp).map dS))),xj,xk,xl,none])
| [],acc,s2,s4,gf,dJ,eo,_,_=>⟨[],s2,s4,gf,dJ,eo,.refl _,by simp,by simp,by simp[forL]⟩
|x::l,acc,s2,s4,gf,dJ,eo,hx,aB=>by
  obtain⟨m,hm,dO⟩:=CZ n (10+x.1) (by have:=hx x fb;omega);obtain⟨q,a3,fv⟩:=divQ m 4;obtain⟨r,_,_,_,hs⟩:=modQ q 3;obtain⟨aM,mr,n7⟩:=divQ q 256;obtain⟨bg,qz,h0,af,n8⟩:=modQ aM 3;obtain⟨bb,nh,n9⟩:=divQ q 1024;obtain⟨b5,_,ak,bB,m8⟩:=modQ bb 5;obtain⟨s,aA,lC⟩:=wW uP h0 af;obtain⟨u,bM,m7⟩:=wV [0,0,1,2,9] ak bB;simp only[uP,dh,gZ] at lC m7;simp only[eJ] at aB;have cf:acc.length+1<=big:=by unfold big;omega
  have kV:∀y∈l,0<=y.1/\y.1<100:=λy a7=>hx y (dn _ a7);obtain⟨rs,Z8,FD⟩:=ahr q [some (.ae (.int n)),s1,some (.ae (.int x.1)),s3,some (.ae (.int q)),some (.ae (.tuple (acc.map dS))),some (.ae (.str x.2)),dJ,eo,none] rfl;by_cases ax:0<r\/x.1=1
  ·obtain⟨bp,lN,k4,xj,xk,xl,b0,b1,sz,lH⟩:=KQ n s1 s3 l (acc++[(⟨x.2,s,rs,u⟩:hk)]) (some (.ae (.int x.1))) (some (.ae (.int q))) (some (.ae (.str x.2))) (some (.ae (.tuple (rs.map .str)))) (some (.ae (.str s))) kV (by simp;omega);refine⟨⟨x.2,s,rs,u⟩::bp,lN,k4,xj,xk,xl,by simpa using b0,λz aq=>?_,λ_=>by simp,?_⟩
   ·rcases cm.mp aq with rfl|aq
    ·exact⟨aA,Z8,bM⟩
    ·exact b1 z aq
   ·rw[dh,forL];have:r3 [some (.ae (.int n)),s1,some (.ae (.int x.1)),s3,s4,some (.ae (.tuple (acc.map dS))),some (.ae (.str x.2)),dJ,eo,none]=some (.bK [some (.ae (.int n)),s1,some (.ae (.int x.1)),s3,some (.ae (.int q)),some (.ae (.tuple ((acc++[(⟨x.2,s,rs,u⟩:hk)]).map dS))),some (.ae (.str x.2)),some (.ae (.tuple (rs.map .str))),some (.ae (.str s)),none]):=by
     have qT:asg 4 (ao oDiv (b9 l3 [(aS 0),(ao dC (ah (.int 10)) (nm 2))]) (ah (.int 4))) [some (.ae (.int n)),s1,some (.ae (.int x.1)),s3,s4,some (.ae (.tuple (acc.map dS))),some (.ae (.str x.2)),dJ,eo,none]=some (.bK [some (.ae (.int n)),s1,some (.ae (.int x.1)),s3,some (.ae (.int q)),some (.ae (.tuple (acc.map dS))),some (.ae (.str x.2)),dJ,eo,none]):=by
      simp! [gX,kG,dO,fv]
     have lN:asg 7 (b9 hi [(comp 1 [4] (mK (ah (.int 3))) (cx 0) r5 m9)]) [some (.ae (.int n)),s1,some (.ae (.int x.1)),s3,some (.ae (.int q)),some (.ae (.tuple (acc.map dS))),some (.ae (.str x.2)),dJ,eo,none]=some (.bK [some (.ae (.int n)),s1,some (.ae (.int x.1)),s3,some (.ae (.int q)),some (.ae (.tuple (acc.map dS))),some (.ae (.str x.2)),some (.ae (.tuple (rs.map .str))),eo,none]):=by
      simp only[asg,b9,args,FD,c0,e3,hi];rfl
     unfold r3;rw[hY qT];have dN:e' (bC (ao ja (ao oMod (nm 4) (ah (.int 3))) (ah (.int 0)))) (bC (ao oEq (nm 2) (ah (.int 1)))) [some (.ae (.int n)),s1,some (.ae (.int x.1)),s3,some (.ae (.int q)),some (.ae (.tuple (acc.map dS))),some (.ae (.str x.2)),dJ,eo,none]=some true:=by
      by_cases dc:0<r
      ·simp! [gX,hs,ja,dc]
      ·have uc:oEq (.int x.1) (.int 1)=some (.bool true):=by rw[rn,decide_eq_true (ax.resolve_left dc)]
       simp! [gX,hs,ja,dc,uc]
     simp only[iff,dN,c0,if_true];rw[hY lN];simp! [gX,hs,n7,n8,n9,m8,lC,m7,dC,cf,LG,vA,oU,one_le,dS]
    simp only[n_,eO,gb,cx,c0,kA,kz,this];simpa using lH
  ·obtain⟨bp,lN,k4,xj,xk,xl,b0,b1,sz,lH⟩:=KQ n s1 s3 l acc (some (.ae (.int x.1))) (some (.ae (.int q))) (some (.ae (.str x.2))) dJ eo kV (by omega);refine⟨bp,lN,k4,xj,xk,xl,b0.cons _,b1,λ⟨y,a7,e⟩=>sz ?_,?_⟩
   ·rcases cm.mp a7 with rfl|a7
    ·exact absurd (.inr e) ax
    ·exact⟨y,a7,e⟩
   ·rw[dh,forL];have:r3 [some (.ae (.int n)),s1,some (.ae (.int x.1)),s3,s4,some (.ae (.tuple (acc.map dS))),some (.ae (.str x.2)),dJ,eo,none]=some (.bK [some (.ae (.int n)),s1,some (.ae (.int x.1)),s3,some (.ae (.int q)),some (.ae (.tuple (acc.map dS))),some (.ae (.str x.2)),dJ,eo,none]):=by
     have dU:¬0<r:=λz=>ax (.inl z);have uc:oEq (.int x.1) (.int 1)=some (.bool false):=by rw[rn,decide_eq_false λz=>ax (.inr z)]
     simp! [gX,r3,dO,fv,hs,kG,ja,dU,uc]
    simp only[n_,eO,gb,cx,c0,kA,kz,this];exact lH
def jM:List (Int×Str):=[(0,"a"),(1,"b"),(2,"back"),(3,"d"),(4,"hall"),(5,"r"),(6,"win"),(7,"z")]
def n6:List (Int×Str):=[(0,"0000"),(1,"1234"),(2,"4321"),(3,"7777"),(4,"9990"),(5,"9999")]
structure dF(p:aN):Prop where
 zs:(p.bU.map (·.1)).Sublist (jM.map (·.2))
 yJ:∀z∈p.bU,z.2∈kinds
 tb:p.bU≠[]
 cs:(p.codes.map (·.eI)).Sublist (n6.map (·.2))
 md:∀k∈p.codes,k.iC∈uP/\k.j0.Sublist vu/\k.uses∈([0,0,1,2,9]:List Int)
 pA:p.codes≠[]
 mA:p.leave∈([0,5,30,60]:List Int)
 qX:p.iK∈([0,4,20,60]:List Int)
 to:p.loud∈([1,9,120,300]:List Int)
def aja(n:Int):∃p,dF p/\C0 [.int n]=some (cv p):=by
 obtain⟨zs,s2,s3,s4,b0,b1,sz,lH⟩:=KX n jM [] none none none (by decide) (by decide);have wQ:zs≠[]:=sz (by
  have af:0<=n / 8 % 8:=oI _ (by decide);have ak:n / 8 % 8<8:=uZ _ (by decide);generalize n / 8 % 8=r at af ak;have:r=0\/r=1\/r=2\/r=3\/r=4\/r=5\/r=6\/r=7:=by omega
  rcases this with rfl|rfl|rfl|rfl|rfl|rfl|rfl|rfl
  ·exact⟨(0,"a"),by simp[jM],rfl⟩
  ·exact⟨(1,"b"),by simp[jM],rfl⟩
  ·exact⟨(2,"back"),by simp[jM],rfl⟩
  ·exact⟨(3,"d"),by simp[jM],rfl⟩
  ·exact⟨(4,"hall"),by simp[jM],rfl⟩
  ·exact⟨(5,"r"),by simp[jM],rfl⟩
  ·exact⟨(6,"win"),by simp[jM],rfl⟩
  ·exact⟨(7,"z"),by simp[jM],rfl⟩)
 obtain⟨bp,al5,xo,amv,pV,pW,An,OM,_B,_C⟩:=KQ n (some (.ae (.tuple (zs.map dW)))) s3 n6 [] s2 s4 none none none (by decide) (by decide);have ZN:bp≠[]:=_B ⟨(1,"1234"),by simp[n6],rfl⟩;obtain⟨m,hm,dO⟩:=CZ n 20 (by decide);obtain⟨q,a3,fv⟩:=divQ m 4;obtain⟨r,_,ma,a1,hs⟩:=modQ q 4;obtain⟨aM,mr,mh⟩:=divQ q 4;obtain⟨bg,_,t8,cf,n7⟩:=modQ aM 4;obtain⟨bb,nh,n8⟩:=divQ q 16;obtain⟨b5,_,pA,cS,n9⟩:=modQ bb 4;obtain⟨u,bM,m8⟩:=wV [0,5,30,60] ma a1;obtain⟨v,br,lC⟩:=wV [0,4,20,60] t8 cf;obtain⟨w,hw,m7⟩:=wV [1,9,120,300] pA cS;simp only[dh,gZ] at m8 lC m7;refine⟨⟨zs,bp,u,v,w⟩,⟨b0,b1,wQ,An,OM,ZN,bM,br,hw⟩,?_⟩;have f1:gR (mL (i3 (cb [(ah (.str "a")),(ah (.str "b")),(ah (.str "back")),(ah (.str "d")),(ah (.str "hall")),(ah (.str "r")),(ah (.str "win")),(ah (.str "z"))]))) (eO [(cx 2),(cx 3)]) qm [some (.ae (.int n)),some (.ae (.tuple [])),none,none,none,none,none,none,none,none]=some (.bK [some (.ae (.int n)),some (.ae (.tuple (zs.map dW))),s2,s3,s4,none,none,none,none,none]):=by
  have:(mL (i3 (cb [(ah (.str "a")),(ah (.str "b")),(ah (.str "back")),(ah (.str "d")),(ah (.str "hall")),(ah (.str "r")),(ah (.str "win")),(ah (.str "z"))]))) [some (.ae (.int n)),some (.ae (.tuple [])),none,none,none,none,none,none,none,none]=some (jM.map n_):=by
   simp[mL,i3,cb,args,ah,aiM,enum,jM,n_,List.zipIdx]
  unfold gR;rw[this];exact lH
 have f2:gR (mL (i3 (cb [(ah (.str "0000")),(ah (.str "1234")),(ah (.str "4321")),(ah (.str "7777")),(ah (.str "9990")),(ah (.str "9999"))]))) (eO [(cx 2),(cx 6)]) r3 [some (.ae (.int n)),some (.ae (.tuple (zs.map dW))),s2,s3,s4,some (.ae (.tuple [])),none,none,none,none]=some (.bK [some (.ae (.int n)),some (.ae (.tuple (zs.map dW))),al5,s3,xo,some (.ae (.tuple (bp.map dS))),amv,pV,pW,none]):=by
  have:(mL (i3 (cb [(ah (.str "0000")),(ah (.str "1234")),(ah (.str "4321")),(ah (.str "7777")),(ah (.str "9990")),(ah (.str "9999"))]))) [some (.ae (.int n)),some (.ae (.tuple (zs.map dW))),s2,s3,s4,some (.ae (.tuple [])),none,none,none,none]=some (n6.map n_):=by
   simp[mL,i3,cb,args,ah,LU,enum,n6,n_,List.zipIdx]
  unfold gR;rw[this];exact _C
 show d9 (seq (asg 1 (cb [])) (seq (gR (mL (i3 (cb [(ah (.str "a")),(ah (.str "b")),(ah (.str "back")),(ah (.str "d")),(ah (.str "hall")),(ah (.str "r")),(ah (.str "win")),(ah (.str "z"))]))) (eO [(cx 2),(cx 3)]) qm)
  (seq (asg 5 (cb [])) (seq (gR (mL (i3 (cb [(ah (.str "0000")),(ah (.str "1234")),(ah (.str "4321")),(ah (.str "7777")),(ah (.str "9990")),(ah (.str "9999"))]))) (eO [(cx 2),(cx 6)]) r3) _)))) 10 [.int n]=_
 unfold d9;have ob:seq (asg 1 (cb []))=λb=>seq (asg 1 (cb [])) b:=rfl;have af:asg 1 (cb []) [some (.ae (.int n)),none,none,none,none,none,none,none,none,none]=some (.bK [some (.ae (.int n)),some (.ae (.tuple [])),none,none,none,none,none,none,none,none]):=by simp[asg,cb,args]
 have gT:asg 5 (cb []) [some (.ae (.int n)),some (.ae (.tuple (zs.map dW))),s2,s3,s4,none,none,none,none,none]=some (.bK [some (.ae (.int n)),some (.ae (.tuple (zs.map dW))),s2,s3,s4,some (.ae (.tuple [])),none,none,none,none]):=by simp[asg,cb,args]
 show (seq _ _ [some (.ae (.int n)),none,none,none,none,none,none,none,none,none]).bind _=_
 rw[hY af,hY f1,hY gT,hY f2];simp! [gX,dO,fv,hs,mh,n7,n8,n9,m8,lC,m7,vA,oU,cv]
def dF.eK{p:aN}(h:dF p):p.bU.length<=8:=by simpa [jM] using h.zs.length_le
def dF.cl{p:aN}(h:dF p):p.codes.length<=6:=by simpa [n6] using h.cs.length_le
def rk{l:List Str}(h:l.all (λx=>(lW x).canLay0)=true:=by decide +kernel){x:Str}(hx:x∈l):bT x:=List.all_eq_true.mp h x hx
def dF.wp{p:aN}(h:dF p):Wp p:=by
 refine⟨?_,?_,?_,?_⟩
 ·exact h.cs.nodup (by decide +kernel)
 ·exact h.zs.nodup (by decide +kernel)
 ·have:=h.cl;omega
 ·have af:=h.mA;have ak:=h.qX;have bB:=h.to;simp at af ak bB;omega
def dF.iQ{p:aN}(h:dF p):∀z∈p.bU,bT z.1/\bT z.2:=λz aq=>⟨rk (l:=jM.map (·.2)) (hx:=h.zs.subset (c7.mpr ⟨z,aq,rfl⟩)),rk (l:=kinds) (hx:=h.yJ z aq)⟩
def dF.acP{p:aN}(h:dF p):∀k∈p.codes,bT k.eI/\bT k.iC/\∀r∈k.j0,bT r:=λk aL=>⟨rk (l:=n6.map (·.2)) (hx:=h.cs.subset (c7.mpr ⟨k,aL,rfl⟩)),rk (l:=uP) (hx:=(h.md k aL).1),λr au=>rk (l:=vu) (hx:=(h.md k aL).2.1.subset au)⟩
def dF.begun{p:aN}(h:dF p):a0 p (eS p):=by
 refine⟨h.iQ,h.acP,?_,bf "off",λz e=>(nomatch e),λe=>absurd e vd,?_,?_,?_,by simp[eS],by simp[eS]⟩
 ·have:=h.eK;omega
 ·simp[eS,oF]
 ·intro l aB;obtain⟨z,_,rfl⟩:=c7.mp aB;exact bf "shut"
 ·simp[eS,oF]
end aZ
end
section
namespace aZ
open D PySem
def Am(p:aN):a4 (cv p) (.int 0)=some (.tuple (p.bU.map dW)):=by simp[a4,fG,gK,cv]
def _A(p:aN):a4 (cv p) (.int 1)=some (.tuple (p.codes.map dS)):=by simp[a4,fG,gK,cv]
def Dy(z:Str×Str):a4 (dW z) (.int 0)=some (.str z.1):=by simp[a4,fG,gK,dW]
def ala(k:hk):a4 (dS k) (.int 0)=some (.str k.eI):=by simp[a4,fG,gK,dS]
def OT(m:Int){l:List T}(h:l≠[]):∃q:Int,0<=q/\q<l.length/\oMod (.int m) (.int l.length)=some (.int q):=by
 have aB:0<(l.length:Int):=by
  have:=List.length_pos_iff.mpr h;omega
 obtain⟨q,_,af,ak,e⟩:=modQ m l.length aB;exact⟨q,af,ak,e⟩
def al':List Str:=["0000","1234","4321","7777","9990","9999","0001","1111","5555"]
noncomputable def ka(p:aN):cV->Prop
|.line z w=>z∈p.bU.map (·.1)/\w∈(["shut","open","open","cut"]:List Str)
|.code f d z=>f∈al'/\(((d="set"\/d="unset")/\z=none)\/((d="shunt"\/d="free")/\∃x,z=some x/\x∈p.bU.map (·.1)))
|.dx n=>1<=n/\n<=1000000000
def ka.ok{p:aN}{e:cV}(h:ka p e):gw p e:=by
 cases e with
|line z w=>
  obtain⟨af,ak⟩:=h;simp at ak;exact⟨af,ak⟩
|dx n=>exact h.1
|code f d z=>
  obtain⟨af,ak⟩:=h;refine⟨rk (l:=al') (hx:=af),?_,?_⟩
  ·rcases ak with ⟨ak|ak,_⟩|⟨ak|ak,_⟩
   ·exact .inl ak
   ·exact .inr (.inl ak)
   ·exact .inr (.inr (.inl ak))
   ·exact .inr (.inr (.inr ak))
  ·intro hd;rcases ak with ⟨ak|ak,_⟩|⟨_,bB⟩
   ·rcases hd with hd|hd
    ·exact absurd (ak.symm.trans hd) KD
    ·exact absurd (ak.symm.trans hd) Cx
   ·rcases hd with hd|hd
    ·exact absurd (ak.symm.trans hd) Ki
    ·exact absurd (ak.symm.trans hd) Cc
   ·exact bB
def aiL{p:aN}(h:dF p)(n:Int):∃e,ka p e/\ye [cv p,.int n]=some (de e):=by
 obtain⟨aM,_,dO⟩:=divQ n 8;obtain⟨i,_p,b0,fv⟩:=OT (l:=p.bU.map dW) aM (by simpa using h.tb);obtain⟨t,aX,hs⟩:=Al _p b0;obtain⟨z,aq,rfl⟩:=c7.mp aX;have sy:z.1∈p.bU.map (·.1):=c7.mpr ⟨z,aq,rfl⟩;obtain⟨k,_,_,_,mh⟩:=modQ n 10;obtain⟨bb,_,n7⟩:=divQ n 512;obtain⟨b5,_,OL,An,n8⟩:=modQ bb 4;obtain⟨w,hw,n9⟩:=wW ["shut","open","open","cut"] OL An;obtain⟨Y1,og,m8⟩:=wW ["0001","1111","9999","0000"] OL An;obtain⟨dg,_,lC⟩:=divQ n 64;obtain⟨jx,_,m7⟩:=divQ n 4096;obtain⟨oy,_,k0,k1,FD⟩:=modQ jx 3;obtain⟨u,bM,uc⟩:=wV [3,40,200] k0 k1;have _d:0<u/\u<=200:=by
  simp at bM;omega
 obtain⟨ko,_,uB,b2,YQ⟩:=modQ dg u _d.1;obtain⟨GQ,_q,_r,NY⟩:=OT (l:=p.codes.map dS) dg (by simpa using h.pA);obtain⟨t',_a,YR⟩:=Al _q _r;obtain⟨c,ax,rfl⟩:=c7.mp _a;have Zy:c.eI∈al':=by
  have:=h.cs.subset (c7.mpr ⟨c,ax,rfl⟩);simp[n6,al'] at this ⊢;rcases this with q|q|q|q|q|q <;> simp[q]
 obtain⟨sP,_,NZ⟩:=divQ n 65536;obtain⟨xe,_,_,_,N0⟩:=modQ sP 4;obtain⟨xf,_,m0,hO,N1⟩:=modQ jx 6;obtain⟨d,hd,FE⟩:=wW ["set","set","unset","shunt","free","shunt"] m0 hO;simp only[dh,gZ] at n9 m8 uc FE;simp only[e1] at fv NY;have tW:jw [.tuple (p.bU.map dW)]=some (.int p.bU.length):=by simp[jw]
 have bh:jw [.tuple (p.codes.map dS)]=some (.int p.codes.length):=by simp[jw]
 simp only[ye,RU,d9,dh,gZ,eJ,lg,alZ,u0,xC];by_cases af:k<5
 ·exact⟨.line z.1 w,⟨sy,hw⟩,by simp! [gX,Am,Dy,dO,tW,fv,hs,mh,oLt,af,n7,n8,n9,vA,oU,de]⟩
 ·by_cases ak:k<7
  ·exact⟨.dx (1+ko),⟨by omega,by omega⟩,by simp! [gX,Am,Dy,dO,tW,fv,hs,mh,oLt,af,ak,lC,m7,FD,uc,YQ,kG,oU,mJ,de]⟩
  ·have ec:bT d:=rk (l:=["set","set","unset","shunt","free","shunt"]) (hx:=hd);have Jk:=vo false (n:=d) (ns:=["set","unset"]) ec (by
    intro k aL;exact rk (l:=["set","unset"]) (hx:=aL))
   simp only[dh,gZ] at Jk;obtain⟨f,hf,ug⟩:∃f∈al',(iff (bC (ao oEq (ao oMod (ao oDiv (nm 1) (ah (.int 65536))) (ah (.int 4))) (ah (.int 0)))) (asg 4 (ao a4 (cb [(ah (.str "0001")),(ah (.str "1111")),(ah (.str "9999")),(ah (.str "0000"))]) (ao oMod (ao oDiv (nm 1) (ah (.int 512))) (ah (.int 4))))) skip) [some (.ae (cv p)),some (.ae (.int n)),some (.ae (.str z.1)),some (.ae (.int k)),some (.ae (.str c.eI)),none]=some (.bK [some (.ae (cv p)),some (.ae (.int n)),some (.ae (.str z.1)),some (.ae (.int k)),some (.ae (.str f)),none]):=by
    by_cases bB:xe=0
    ·refine⟨Y1,?_,by simp! [gX,NZ,N0,rn,bB,n7,n8,m8,vA]⟩
     simp[al'] at og ⊢;rcases og with q|q|q|q <;> simp[q]
    ·exact⟨c.eI,Zy,by simp! [gX,NZ,N0,rn,bB]⟩
   have Pl:∀X:bA,iff (bC (ao oLt (nm 3) (ah (.int 5)))) X skip [some (.ae (cv p)),some (.ae (.int n)),some (.ae (.str z.1)),some (.ae (.int k)),none,none]=some (.bK [some (.ae (cv p)),some (.ae (.int n)),some (.ae (.str z.1)),some (.ae (.int k)),none,none]):=λX=>by simp! [gX,oLt,af]
   have sB:∀X:bA,iff (bC (ao oLt (nm 3) (ah (.int 7)))) X skip [some (.ae (cv p)),some (.ae (.int n)),some (.ae (.str z.1)),some (.ae (.int k)),none,none]=some (.bK [some (.ae (cv p)),some (.ae (.int n)),some (.ae (.str z.1)),some (.ae (.int k)),none,none]):=λX=>by simp! [gX,oLt,ak]
   have Pm:asg 4 (ao a4 (ao a4 (ao a4 (nm 0) (ah (.int 1))) (ao oMod (ao oDiv (nm 1) (ah (.int 64))) (b9 jw [(ao a4 (nm 0) (ah (.int 1)))]))) (ah (.int 0))) [some (.ae (cv p)),some (.ae (.int n)),some (.ae (.str z.1)),some (.ae (.int k)),none,none]=some (.bK [some (.ae (cv p)),some (.ae (.int n)),some (.ae (.str z.1)),some (.ae (.int k)),some (.ae (.str c.eI)),none]):=by simp! [gX,_A,bh,lC,NY,YR,ala]
   by_cases c1:d="set"\/d="unset"
   ·refine⟨.code f d none,⟨hf,.inl ⟨c1,rfl⟩⟩,?_⟩
    have Jl:fK false (.str d) (.tuple [.str "set",.str "unset"])=some (.bool true):=by
     rw[Jk];simp[c1]
    have pre:∀B:bA,(seq (asg 2 (ao a4 (ao a4 (ao a4 (nm 0) (ah (.int 0))) (ao oMod (ao oDiv (nm 1) (ah (.int 8))) (b9 jw [(ao a4 (nm 0) (ah (.int 0)))]))) (ah (.int 0)))) (seq (asg 3 (ao oMod (nm 1) (ah (.int 10)))) B)) [some (.ae (cv p)),some (.ae (.int n)),none,none,none,none]=B [some (.ae (cv p)),some (.ae (.int n)),some (.ae (.str z.1)),some (.ae (.int k)),none,none]:=by
     intro B;simp! [gX,Am,Dy,dO,tW,fv,hs,mh]
    rw[pre];rw[hY (Pl _),hY (sB _),hY Pm,hY ug];simp! [gX,m7,N1,FE,LU,mJ,Jl,vA,de,eb]
   ·refine⟨.code f d (some z.1),⟨hf,.inr ⟨?_,z.1,rfl,sy⟩⟩,?_⟩
    ·simp at hd;rcases hd with q|q|q|q|q
     ·exact absurd (.inl q) c1
     ·exact absurd (.inr q) c1
     ·exact .inl q
     ·exact .inr q
     ·exact .inl q
    have Jl:fK false (.str d) (.tuple [.str "set",.str "unset"])=some (.bool false):=by
     rw[Jk];simp at c1;simp[c1]
    have pre:∀B:bA,(seq (asg 2 (ao a4 (ao a4 (ao a4 (nm 0) (ah (.int 0))) (ao oMod (ao oDiv (nm 1) (ah (.int 8))) (b9 jw [(ao a4 (nm 0) (ah (.int 0)))]))) (ah (.int 0)))) (seq (asg 3 (ao oMod (nm 1) (ah (.int 10)))) B)) [some (.ae (cv p)),some (.ae (.int n)),none,none,none,none]=B [some (.ae (cv p)),some (.ae (.int n)),some (.ae (.str z.1)),some (.ae (.int k)),none,none]:=by
     intro B;simp! [gX,Am,Dy,dO,tW,fv,hs,mh]
    rw[pre];rw[hY (Pl _),hY (sB _),hY Pm,hY ug];simp! [gX,m7,N1,FE,LU,mJ,Jl,vA,de,eb]
end aZ
end
section
namespace aZ
open D PySem
def ad0(k:Int)(w:Int×Str×Option Str):Int×Str×Option Str:=(k+w.1,w.2)
def fD(k:Int)(pre:List (Int×Str×Option Str))(c:aK):aK:={c with past:=k+c.past,told:=pre++c.told.map (ad0 k)}
def CY(a n:Int):less a n=max (a - n) 0:=by
 unfold less;split <;> omega
def Cq(p:aN)(z:Str)(c:aK):(dk p z c).mode=c.mode/\(dk p z c).left=c.left/\(dk p z c).e7=c.e7/\(dk p z c).lines=c.lines/\(dk p z c).c_=c.c_/\(dk p z c).tries=c.tries/\(dk p z c).locked=c.locked/\(dk p z c).used=c.used/\(dk p z c).past=c.past/\(dk p z c).dw=p.loud:=by
 unfold dk;split <;> simp[tell,jo]
theorem Kv(p:aN):∀(zs:List Str) (c:aK),(cp p zs c).mode=c.mode/\(cp p zs c).left=c.left/\(cp p zs c).e7=c.e7/\(cp p zs c).lines=c.lines/\(cp p zs c).c_=c.c_/\(cp p zs c).tries=c.tries/\(cp p zs c).locked=c.locked/\(cp p zs c).used=c.used/\(cp p zs c).past=c.past/\((cp p zs c).dw=p.loud\/(cp p zs c).dw=c.dw)
| [],c=>by simp[cp]
|z::zs,c=>by
  have af:=Cq p z c;have ak:=Kv p zs (dk p z c);have e:cp p (z::zs) c=cp p zs (dk p z c):=rfl;rw[e];obtain⟨a1,a2,ho,mb,al3,ly,m4,nZ,n0,m3⟩:=af;obtain⟨cf,ct,fe,kf,wc,pz,W0,W2,W3,WZ⟩:=ak;refine⟨cf.trans a1,ct.trans a2,fe.trans ho,kf.trans mb,wc.trans al3,pz.trans ly,W0.trans m4,W2.trans nZ,W3.trans n0,?_⟩;rcases WZ with q|q
  ·exact .inl q
  ·exact .inl (q.trans m3)
def Qk(p:aN)(c:aK):(fg p c).mode="on"/\(c.left=0->(fg p c).left=0)/\(fg p c).lines=c.lines/\(fg p c).c_=c.c_/\(fg p c).tries=c.tries/\(fg p c).locked=c.locked/\(fg p c).used=c.used/\(fg p c).past=c.past/\((fg p c).dw=p.loud\/(fg p c).dw=c.dw):=by
 unfold fg;split
 ·obtain⟨a1,a2,ho,mb,al3,ly,m4,nZ,n0,m3⟩:=Kv p (bare p ["inner","way"] (tell "on" none {c with mode:="on",left:=0})) (tell "on" none {c with mode:="on",left:=0});exact⟨a1,λ_=>a2,mb,al3,ly,m4,nZ,n0,m3⟩
 ·obtain⟨a1,a2,ho,mb,al3,ly,m4,nZ,n0,m3⟩:=Cq p (c.e7.getD "") {c with mode:="on",e7:=none};exact⟨a1,λh=>a2.trans h,mb,al3,ly,m4,nZ,n0,.inl m3⟩
def rx(c:aK):Prop:=c.mode="leaving"\/c.mode="coming"
def Kr{c:aK}(h:c.mode="on"):¬(c.mode="leaving"\/c.mode="coming"):=by
 rw[h];simp[Ks,x3]
structure cL(c:aK):Prop where
 dq:c.mode="off"\/c.mode="leaving"\/c.mode="on"\/c.mode="coming"
 t1:rx c->1<=c.left/\c.left<=60
 t0:¬rx c->c.left=0
 k6:0<=c.dw/\c.dw<=300
 lo:0<=c.locked/\c.locked<=90
 iz:0<=c.tries/\c.tries<=2
def cL.begun(p:aN):cL (eS p):=⟨.inl rfl,λh=>by rcases h with h|h;exact absurd h B';exact absurd h vd,λ_=>rfl,by simp[eS],by simp[eS],by simp[eS]⟩
theorem dF.loud{p:aN}(h:dF p):1<=p.loud/\p.loud<=300:=by
 have:=h.to;simp at this;omega
theorem dF.leave{p:aN}(h:dF p):0<=p.leave/\p.leave<=60:=by
 have:=h.mA;simp at this;omega
theorem dF.iK{p:aN}(h:dF p):0<=p.iK/\p.iK<=60:=by
 have:=h.qX;simp at this;omega
theorem cL.tell{c:aK}(h:cL c)(w:Str)(n:Option Str):cL (aZ.tell w n c):=⟨h.dq,h.t1,h.t0,h.k6,h.lo,h.iz⟩
theorem cL.dk{p:aN}(aC:dF p){c:aK}(h:cL c)(z:Str):cL (aZ.dk p z c):=by
 obtain⟨a1,a2,ho,mb,al3,ly,m4,nZ,n0,m3⟩:=Cq p z c;have:=aC.loud;refine⟨by rw[a1];exact h.dq,?_,?_,by rw[m3];omega,by rw[m4];exact h.lo,by rw[ly];exact h.iz⟩
 ·unfold rx;rw[a1,a2];exact h.t1
 ·unfold rx;rw[a1,a2];exact h.t0
theorem cL.cp{p:aN}(aC:dF p):∀{zs:List Str} {c:aK},cL c->cL (aZ.cp p zs c)
| [],_,h=>h
|z::zs,c,h=>cL.cp aC (zs:=zs) (h.dk aC z)
theorem cL.g8{p:aN}(aC:dF p){c:aK}(h:cL c)(z k:Str):cL (aZ.g8 p z k c):=by
 have:=aC.iK;unfold aZ.g8;split
 ·exact h.dk aC z
 next q=>
  have:¬p.iK<=0:=λz=>q (.inr z);exact⟨.inr (.inr (.inr rfl)),λ_=>by show 1<=p.iK/\p.iK<=60;omega,λt=>absurd (.inr rfl) t,h.k6,h.lo,h.iz⟩
theorem cL.hq{p:aN}(aC:dF p){c:aK}(h:cL c)(z w:Str):cL (aZ.hq p z w c):=by
 unfold aZ.hq
 repeat' split
 all_goals first|exact h.dk aC z|exact h.tell _ _|exact h.g8 aC z _|exact h
theorem cL.line{p:aN}(aC:dF p){c:aK}(h:cL c)(z w:Str):cL (aZ.line p z w c):=by
 have h':cL {c with lines:=kq c.lines z w}:=⟨h.dq,h.t1,h.t0,h.k6,h.lo,h.iz⟩;unfold aZ.line
 repeat' split
 all_goals first|exact h|exact h'|exact h'.tell _ _|exact h'.hq aC z w
def C4{x n m:Int}(a6:0<=n)(h:0<=x/\x<=m):0<=less x n/\less x n<=m:=by
 rw[CY];omega
theorem cL.gq{p:aN}(aC:dF p){c:aK}(h:0<=c.dw/\c.dw<=300)(ak:0<=c.locked/\c.locked<=90)(bB:0<=c.tries/\c.tries<=2):cL (aZ.gq p c):=
 cL.cp aC (cL.tell (c:={c with mode:="on",left:=0}) ⟨.inr (.inr (.inl rfl)),λt=>absurd t (Kr rfl),λ_=>rfl,h,ak,bB⟩ _ _)
theorem cL.lD{p:aN}(aC:dF p){c:aK}(h0:c.left=0)(h:0<=c.dw/\c.dw<=300)(ak:0<=c.locked/\c.locked<=90)(bB:0<=c.tries/\c.tries<=2):cL (aZ.lD p c):=
 cL.dk aC (c:={c with mode:="on",e7:=none}) ⟨.inr (.inr (.inl rfl)),λt=>absurd t (Kr rfl),λ_=>h0,h,ak,bB⟩ _
def cL.cd{c:aK}(h:cL c){n:Int}(a6:0<=n)(aX:rx c->n<c.left):cL (j7 n c):=by
 refine⟨h.dq,λt=>?_,λt=>?_,C4 a6 h.k6,C4 a6 h.lo,h.iz⟩
 ·have:=h.t1 t;have:=aX t;show 1<=less c.left n/\less c.left n<=60;rw[CY];omega
 ·have:=h.t0 t;show less c.left n=0;rw[CY];omega
theorem cL.dx{p:aN}(aC:dF p){c:aK}(h:cL c)(n:Int):cL (aZ.dx p n c):=by
 unfold aZ.dx;split
 ·exact h
 ·split
  next q=>
   obtain⟨aM,bb⟩:=q;have aB:=h.t1 aM;have ZR:(j7 c.left c).left=0:=by
    show less c.left c.left=0
    rw[CY];omega
   have e:cL (aZ.fg p (j7 c.left c)):=by
    have s:=C4 (n:=c.left) (by omega) h.k6;have l:=C4 (n:=c.left) (by omega) h.lo;unfold aZ.fg;split
    ·exact cL.gq aC s l h.iz
    ·exact cL.lD aC ZR s l h.iz
   exact e.cd (by omega) λt=>absurd t (Kr (Qk p _).1)
  next q=>
   refine h.cd (by omega) λt=>?_
   have:¬c.left<=n:=λz=>q ⟨t,z⟩;omega
theorem cL.fV{p:aN}(aC:dF p){c:aK}(h:cL c):cL (aZ.fV p c):=by
 have:=aC.loud;have:=h.iz;unfold aZ.fV;split
 ·exact⟨h.dq,h.t1,h.t0,by show 0<=p.loud/\p.loud<=300;omega,by show (0:Int)<=90/\(90:Int)<=90;omega,by show (0:Int)<=0/\(0:Int)<=2;omega⟩
 ·exact⟨h.dq,h.t1,h.t0,h.k6,h.lo,by show 0<=c.tries+1/\c.tries+1<=2;omega⟩
theorem cL.lB{p:aN}(aC:dF p){c:aK}(h:cL c)(w:Str):cL (aZ.lB p w c):=by
 have:=aC.leave;show cL (if p.leave<=0 then aZ.gq p (aZ.tell "set" (some w) {c with cp:=[],dw:=0,mode:="leaving",left:=p.leave}) else aZ.tell "set" (some w) {c with cp:=[],dw:=0,mode:="leaving",left:=p.leave});split
 ·exact cL.gq aC (by show (0:Int)<=0/\(0:Int)<=300;omega) h.lo h.iz
 ·exact⟨.inr (.inl rfl),λ_=>by show 1<=p.leave/\p.leave<=60;omega,λt=>absurd (.inl rfl) t,by show (0:Int)<=0/\(0:Int)<=300;omega,h.lo,h.iz⟩
theorem cL.eV{p:aN}(aC:dF p){c:aK}(h:cL c)(w d:Str)(z:Option Str):cL (aZ.eV p w d z c):=by
 unfold aZ.eV;split
 ·exact h.lB aC w
 ·split
  ·exact⟨.inl rfl,λt=>(by rcases t with t|t;exact absurd t B';exact absurd t vd),λ_=>rfl,by show (0:Int)<=0/\(0:Int)<=300;omega,h.lo,h.iz⟩
  ·split
   ·exact⟨h.dq,h.t1,h.t0,h.k6,h.lo,h.iz⟩
   ·exact⟨h.dq,h.t1,h.t0,h.k6,h.lo,h.iz⟩
theorem cL.code{p:aN}(aC:dF p){c:aK}(h:cL c)(f d:Str)(z:Option Str):cL (aZ.code p f d z c):=by
 unfold aZ.code;split
 ·exact h.tell _ _
 ·split
  ·exact h.fV aC
  ·split
   ·exact h.fV aC
   ·have h0:cL {c with tries:=0}:=⟨h.dq,h.t1,h.t0,h.k6,h.lo,by show (0:Int)<=0/\(0:Int)<=2;omega⟩;unfold aZ.takeRight;split
    ·refine cL.eV aC ?_ _ _ _
     exact⟨h0.dq,h0.t1,h0.t0,h0.k6,h0.lo,h0.iz⟩
    ·exact h0.tell _ _
theorem cL.e_{p:aN}(aC:dF p){c:aK}(h:cL c)(e:cV):cL (aZ.e_ p c e):=by
 cases e with
|line z w=>exact h.line aC z w
|code f d z=>exact h.code aC f d z
|dx n=>exact h.dx aC n
theorem cL.fresh{c:aK}(h:cL c):cL (aZ.fresh c):=⟨h.dq,h.t1,h.t0,h.k6,h.lo,h.iz⟩
def spent:List cV->Int
| []=>0
|.dx n::es=>n+spent es
|_::es=>spent es
def agX(p:aN)(c:aK){n:Int}(a6:1<=n):(dx p n c).past=c.past+n:=by
 unfold dx;rw[if_neg (by omega)];split
 ·have h:=(Qk p (j7 c.left c)).2.2.2.2.2.2.2.1;show (fg p (j7 c.left c)).past+(n - c.left)=_;rw[h];show c.past+c.left+(n - c.left)=_;omega
 ·rfl
def agu(p:aN)(z w:Str)(c:aK):(hq p z w c).past=c.past:=by
 have h:=(Cq p z c).2.2.2.2.2.2.2.2.1;unfold hq g8
 repeat' split
 all_goals first|exact h|rfl
def ahF(p:aN)(z w:Str)(c:aK):(line p z w c).past=c.past:=by
 unfold line
 repeat' split
 all_goals first|rfl|exact agu p z w {c with lines:=kq c.lines z w}
def af0(p:aN)(c:aK):(gq p c).past=c.past:=(Kv p _ _).2.2.2.2.2.2.2.2.1
def agN(p:aN)(w d:Str)(z:Option Str)(c:aK):(eV p w d z c).past=c.past:=by
 unfold eV;split
 ·show (if p.leave<=0 then gq p (tell "set" (some w) {c with cp:=[],dw:=0,mode:="leaving",left:=p.leave}) else tell "set" (some w) {c with cp:=[],dw:=0,mode:="leaving",left:=p.leave}:aK).past=_
  split
  ·exact af0 p _
  ·rfl
 ·repeat' split
  all_goals rfl
def P'(p:aN)(c:aK):(fV p c).past=c.past:=by
 unfold fV;split <;> rfl
def ahU(p:aN)(f d:Str)(z:Option Str)(c:aK):(code p f d z c).past=c.past:=by
 unfold code;split
 ·rfl
 ·split
  ·exact P' p c
  ·split
   ·exact P' p c
   ·unfold takeRight;split
    ·exact agN p _ _ _ _
    ·rfl
theorem Sd(p:aN):∀(es:List cV) (c:aK),(∀e∈es,gw p e)->(run p c es).past=c.past+spent es
| [],c,_=>by simp[run,spent]
|e::es,c,h=>by
  have b8:=Sd p es (e_ p c e) λx hx=>h x (dn _ hx);have he:=h e fb;show (run p (e_ p c e) es).past=_;rw[b8];cases e with
  |line z w=>
   show (line p z w c).past+_=c.past+spent es
   rw[ahF]
  |code f d z=>
   show (code p f d z c).past+_=c.past+spent es
   rw[ahU]
  |dx n=>
   show (dx p n c).past+_=c.past+(n+spent es)
   rw[agX p c he];omega
end aZ
end
section
namespace aZ
open D PySem
def okN(d:Nat)(t:T):Prop:=t.canLay0=true/\t.depth<=d
theorem okN.iy{d:Nat}{t:T}(h:okN d t)(hd:d<=60:=by decide):iy t=true:=by
 unfold D.iy;rw[h.1,decide_eq_true (jd h.2 hd)];rfl
theorem LC{d:Nat}:∀{ts:List T},(∀t∈ts,okN d t)->j5 ts=true/\j4 ts<=d
| [],_=>by simp[j5,j4]
|t::ts,h=>by
  obtain⟨af,ak⟩:=LC λx hx=>h x (dn _ hx);obtain⟨bB,c1⟩:=h t fb;constructor
  ·rw[j5,bB,af];rfl
  ·rw[j4];omega
def iZ{d:Nat}{ts:List T}(h:∀t∈ts,okN d t):okN (d+1) (.tuple ts):=by
 obtain⟨af,ak⟩:=LC h;constructor
 ·rw[PyData.canLay0];exact af
 ·rw[lb];omega
def tD(d:Nat)(n:Int):okN d (.int n):=⟨rfl,by rw[lb];omega⟩
def aiu(d:Nat):okN d .none:=⟨rfl,by rw[lb];omega⟩
def aiw(d:Nat)(b:Bool):okN d (.bool b):=⟨rfl,by rw[lb];omega⟩
def i0(d:Nat){x:Str}(h:bT x):okN d (.str x):=⟨h,by rw[lb];omega⟩
def Dh(d:Nat){x:Option Str}(h:∀z,x=some z->bT z):okN d (eb x):=by
 cases x with
|none=>exact aiu d
|some z=>exact i0 d (h z rfl)
def Sh{d:Nat}{t:T}(h:okN d t)(hd:d<=60:=by decide):fk t t=some (.bool false):=by
 unfold fk;rw[h.iy hd,PySem.SeqAt.eqv_refl t h.1];rfl
def aix{d:Nat}{t:T}(h:okN d t)(hd:d<=60:=by decide):oEq t t=some (.bool true):=by
 unfold oEq;rw[h.iy hd,PySem.SeqAt.eqv_refl t h.1];rfl
def aiv{p:aN}{c:aK}(h:a0 p c):okN 2 (d2 c):=by
 refine iZ λt aX=>?_
 simp only[cm,ee,or_false] at aX;rcases aX with rfl|rfl|rfl|rfl|rfl|rfl|rfl|rfl|rfl|rfl
 ·exact i0 _ h.mo
 ·exact tD _ _
 ·exact Dh _ λz aq=>(h.ca z aq).1
 ·refine iZ (d:=0) λt aX=>?_
  obtain⟨l,aB,rfl⟩:=c7.mp aX;exact i0 _ (h.lo l aB)
 ·refine iZ (d:=0) λt aX=>?_
  obtain⟨l,aB,rfl⟩:=c7.mp aX;exact i0 _ (h.uE l aB)
 ·exact tD _ _
 ·refine iZ (d:=0) λt aX=>?_
  obtain⟨l,aB,rfl⟩:=c7.mp aX;exact i0 _ (h.O6 l aB)
 ·exact tD _ _
 ·exact tD _ _
 ·refine iZ (d:=0) λt aX=>?_
  obtain⟨l,aB,rfl⟩:=c7.mp aX;exact tD _ _
def cT(c:aK):Prop:=∀w∈c.told,bT w.2.1/\∀n,w.2.2=some n->bT n
theorem cT.tell{c:aK}(h:cT c){w:Str}{n:Option Str}(hw:bT w)(a6:∀x,n=some x->bT x):cT (aZ.tell w n c):=by
 intro x hx;rcases jD.mp hx with q|q
 ·exact h x q
 ·simp at q;subst q;exact⟨hw,a6⟩
theorem cT.dk{p:aN}{c:aK}(h:cT c){z:Str}(aq:bT z):cT (aZ.dk p z c):=by
 unfold aZ.dk;split
 ·exact h
 ·exact cT.tell (c:={jo p c with cp:=c.cp++[z]}) h (bf "alarm") λx e=>ef e▸aq
theorem cT.cp{p:aN}:∀{zs:List Str} {c:aK},cT c->(∀z∈zs,bT z)->cT (aZ.cp p zs c)
| [],_,h,_=>h
|z::zs,c,h,aq=>cT.cp (zs:=zs) (h.dk (aq z fb)) λy a7=>aq y (dn _ a7)
theorem cT.g8{p:aN}{c:aK}(h:cT c){z k:Str}(aq:bT z):cT (aZ.g8 p z k c):=by
 unfold aZ.g8;split
 ·exact h.dk aq
 ·exact cT.tell (c:={c with mode:="coming",left:=p.iK,e7:=some z}) h (bf "coming") λx e=>ef e▸aq
theorem cT.hq{p:aN}{c:aK}(h:cT c){z w:Str}(aq:bT z):cT (aZ.hq p z w c):=by
 unfold aZ.hq
 repeat' split
 all_goals first|exact h.dk aq|exact h.tell (bf "fault") λx e=>ef e▸aq|exact h.g8 aq|exact h
theorem cT.line{p:aN}{c:aK}(h:cT c){z w:Str}(aq:bT z):cT (aZ.line p z w c):=by
 have h':cT {c with lines:=kq c.lines z w}:=h;unfold aZ.line
 repeat' split
 all_goals first|exact h|exact h'|exact h'.tell (bf "mended") λx e=>ef e▸aq|exact h'.hq aq
theorem cT.gq{p:aN}{c:aK}(h:cT c)(hw:a0 p c):cT (aZ.gq p c):=
 cT.cp (cT.tell (c:={c with mode:="on",left:=0}) h (bf "on") λx e=>(nomatch e)) λz aq=>hw.iQ (vq aq)
theorem cT.fg{p:aN}{c:aK}(h:cT c)(hw:a0 p c)(hm:rx c):cT (aZ.fg p c):=by
 unfold aZ.fg;split
 ·exact h.gq hw
 next q=>
  obtain⟨z,aq⟩:=Option.ne_none_iff_exists'.mp (hw.iu (hm.resolve_left q));unfold aZ.lD;rw[aq];exact cT.dk (c:={c with mode:="on",e7:=none}) h (hw.ca z aq).1
theorem cT.dx{p:aN}{c:aK}(h:cT c)(hw:a0 p c)(n:Int):cT (aZ.dx p n c):=by
 unfold aZ.dx;split
 ·exact h
 ·split
  next q=>exact cT.fg (c:=j7 c.left c) h (hw.cd _) q.1
  ·exact h
theorem cT.fV{p:aN}{c:aK}(h:cT c):cT (aZ.fV p c):=by
 have af:cT (lS c):=cT.tell h (bf "wrong") λx e=>(nomatch e);unfold aZ.fV;split
 ·exact cT.tell (c:=jo p {lS c with tries:=0,locked:=90}) af (bf "attack") λx e=>(nomatch e)
 ·exact af
def ahg{p:aN}{c:aK}(hw:a0 p c){k:hk}(aL:k∈p.codes){d:Str}{z:Option Str}{x:Str×Str}(h:kP p k d z c=some x):bT x.1/\bT x.2:=by
 have wO:=(hw.ff k aL).2.1;unfold kP at h;by_cases af:(if d="free" then ("shunt":Str) else d)∈k.j0
 ·rw[if_neg (λq=>q af)] at h;split at h
  ·cases h
   exact⟨bf "no",wO⟩
  ·split at h
   next q=>
    cases h
    refine⟨bf "open",?_⟩
    have U:=q.2;cases e:bare p ["day","once"] c with
    |nil=>exact absurd e U
    |cons b bs=>
     have:b∈bare p ["day","once"] c:=by rw[e];simp
     simpa using hw.iQ (vq this)
   ·cases h
 ·rw[if_pos af] at h;cases h;exact⟨bf "denied",wO⟩
theorem cT.eV{p:aN}{c:aK}(h:cT c)(hw:a0 p c){w d:Str}{z:Option Str}(how:bT w)(aq:w' p d z c):cT (aZ.eV p w d z c):=by
 rcases aq with rfl|rfl|⟨rfl,x,rfl,hx⟩|⟨rfl,x,rfl,hx⟩
 ·simp only[aZ.eV,if_true];have h':cT (aZ.tell "set" (some w) {c with cp:=[],dw:=0,mode:="leaving",left:=p.leave}):=cT.tell (c:={c with cp:=[],dw:=0,mode:="leaving",left:=p.leave}) h (bf "set") λx e=>ef e▸how;show cT (if p.leave<=0 then aZ.gq p (aZ.tell "set" (some w) {c with cp:=[],dw:=0,mode:="leaving",left:=p.leave}) else aZ.tell "set" (some w) {c with cp:=[],dw:=0,mode:="leaving",left:=p.leave});split
  ·exact h'.gq ((hw.Bq p.leave).tell _ _)
  ·exact h'
 ·simp only[aZ.eV,if_neg x1,if_true];exact cT.tell (c:={c with mode:="off",left:=0,dw:=0,e7:=none,c_:=[]}) h (bf "unset") λx e=>ef e▸how
 ·simp only[aZ.eV,if_neg x2,if_neg vc,if_true];exact cT.tell (c:={c with c_:=jJ (c.c_++[x])}) h (bf "shunt") λy e=>ef e▸hw.iQ hx
 ·simp only[aZ.eV,if_neg x8,if_neg ve,if_neg vf];exact cT.tell (c:={c with c_:=c.c_.erase x}) h (bf "free") λy e=>ef e▸hw.uE x hx
theorem cT.e_{p:aN}{c:aK}(h:cT c)(hw:a0 p c){e:cV}(he:gw p e):cT (aZ.e_ p c e):=by
 cases e with
|line z w=>exact h.line (hw.iQ he.1)
|dx n=>exact h.dx hw n
|code f d z=>
  show cT (aZ.code p f d z c)
  unfold aZ.code;split
  ·exact h.tell (bf "locked") λx e=>(nomatch e)
  ·split
   ·exact h.fV
   next k eW=>
    have aL:=KR eW;split
    ·exact h.fV
    ·have uO:=hw.xr 0;have h0:cT {c with tries:=0}:=h;unfold aZ.takeRight;split
     next b'=>exact cT.eV (c:={c with tries:=0,used:=n1 c.used k.eI}) h (uO.add k.eI) (hw.ff k aL).2.1 (Di he.2.1 he.2.2 b')
     next b'=>
      have:=ahg uO aL b';exact h0.tell this.1 λx e=>ef e▸this.2
theorem cT.run{p:aN}:∀{es:List cV} {c:aK},cT c->a0 p c->(∀e∈es,gw p e)->cT (aZ.run p c es)
| [],_,h,_,_=>h
|e::es,c,h,hw,he=>cT.run (es:=es) (h.e_ hw (he e fb)) (hw.e_ (he e fb)) λy a7=>he y (dn _ a7)
theorem cT.fresh(c:aK):cT (aZ.fresh c):=λw hw=>by cases hw
def ait{c:aK}(h:cT c):okN 2 (.tuple (c.told.map kh)):=by
 refine iZ λt aX=>?_
 obtain⟨w,hw,rfl⟩:=c7.mp aX;refine iZ λt aX=>?_;simp only[cm,ee,or_false] at aX;rcases aX with rfl|rfl|rfl
 ·exact tD _ _
 ·exact i0 _ (h w hw).1
 ·exact Dh _ (h w hw).2
def ajB(p:aN)(c:aK)(e:cV)(h:a0 p c)(aC:Wp p)(he:gw p e):yG [cv p,d2 c,de e]=some (d2 (e_ p (fresh c) e)):=by
 have dO:=Kt p c [e] h aC (by simpa using he) (by simp);have fv:=ah9 p (run p (fresh c) [e]) .cI (h.fresh.run (by simpa using he));simp only[dh,gZ] at dO;simp! [gX,yG,TZ,rF,A_,one_le,dO,tJ,fv];rfl
def jj(w:Int×Str×Option Str):T:=.tuple [.str w.2.1,eb w.2.2]
theorem TX(caps:Ev):∀(ws:List (Int×Str×Option Str)) (s0 s1 s2:Option aJ),hD (eO [(cx 0),(cx 1),(cx 2)]) (f_ true) (cb [(aS 1),(aS 2)]) (ws.map kh) (s0::s1::s2::caps)=some (ws.map jj)
| [],_,_,_=>rfl
|w::ws,s0,s1,s2=>by
  have b8:=TX caps ws (some (.ae (.int w.1))) (some (.ae (.str w.2.1))) (some (.ae (eb w.2.2)));simp only[dh,hD,kh,eO,gb,cx,c0,kz,kA,f_,if_true] at b8 ⊢;simp only[cb,args,aS,lX,kB,c0,e3,eJ,lg,mJ,if_true] at b8 ⊢;simp[mJ,jj];simpa [kh,jj] using b8
def ah1(p:aN)(c:aK)(e:cV)(h:a0 p c)(aC:Wp p)(he:gw p e):yr [cv p,d2 c,de e]=some (.tuple ((e_ p (fresh c) e).told.map jj)):=by
 have dO:=Kt p c [e] h aC (by simpa using he) (by simp);have U:=CS (es:=[e]) h.fresh (by simpa using he);have ct:(60000<big):=by decide
 have h0:(fresh c).told.length=0:=rfl;have cf:(run p (fresh c) [e]).told.length<=big:=by simp at U;omega
 have fH:=TX [] (run p (fresh c) [e]).told none none none;simp only[dh,gZ] at dO;simp! [gX,yr,S9,rF,vz,one_le,dO,tJ,ub,cf];rw[fH];simp[hi];rfl
end aZ
end
section
namespace aZ
open D PySem
def p8{i:Nat}{f:bz}{b:bA}{ε:Ev}{t:T}{r:Option Out}(h:f ε=some t)(ak:b (ε.set i (some (.ae t)))=r):seq (asg i f) b ε=r:=by
 rw[hY (ε':=ε.set i (some (.ae t))),ak];unfold asg;rw[h];rfl
def p7{c:eT}{a b:bA}{ε:Ev}{r:Option Out}(h:c ε=some false)(ak:b ε=r):seq (iff c a skip) b ε=r:=by
 rw[hY (ε':=ε),ak];unfold iff;rw[h];rfl
def kE{a b:bA}{ε ε':Ev}{r:Option Out}(h:a ε=some (.bK ε'))(ak:b ε'=r):seq a b ε=r:=by rw[hY h,ak]
theorem denied{p:aN}{c:aK}{k:hk}{d:Str}(hd:d="set"\/d="unset")(au:d∉k.j0):takeRight p k d none c=tell "denied" (some k.iC) c:=by
 have:kP p k d none c=some (("denied":Str),k.iC):=by
  rcases hd with rfl|rfl <;> simp[kP,Cx,Cc,au]
 unfold takeRight;rw[this]
def ais(d:Nat){w:Str}{n:Option Str}(hw:bT w)(a6:∀x,n=some x->bT x):okN (d+1) (.tuple [.str w,eb n]):=iZ λx hx=>by
 simp only[cm,ee,or_false] at hx;rcases hx with rfl|rfl
 ·exact i0 _ hw
 ·exact Dh _ a6
end aZ
end
section
namespace aZ
open D PySem
theorem S5{α:Type}{enc x y g:α->T}{q:α->Bool}{cc:eT}{f':bz}{caps:Ev}(he:∀a,enc a=.tuple [x a,y a]):∀(ts:List α) (s0 s1:Option aJ),(∀a∈ts,cc (some (.ae (x a))::some (.ae (y a))::caps)=some (q a)/\(q a=true->f' (some (.ae (x a))::some (.ae (y a))::caps)=some (g a)))->hD (eO [(cx 0),(cx 1)]) cc f' (ts.map enc) (s0::s1::caps)=some ((ts.filter q).map g)
| [],_,_,_=>rfl
|a::ts,s0,s1,h=>by
  have b8:=S5 he ts (some (.ae (x a))) (some (.ae (y a))) λb U=>h b (dn _ U);obtain⟨h0,af⟩:=h a (by simp);rw[dh,hD,he a];simp only[eO,gb,cx,c0,kz,kA,h0];cases a3:q a with
  |true=>simp only[if_true,af a3,c0,b8,e3,List.filter_cons,a3,dh]
  |false=>simp only[nz,if_false,b8,List.filter_cons,a3]
def nG(p:aN)(c:aK):List Str:=((p.bU.zip c.lines).filter λx=>!decide (x.2.2=("shut":Str))).map λx=>x.1.1
def aic(p:aN)(c:aK)(h:a0 p c):vB [cv p,d2 c]=some (.tuple [.str c.mode,.bool (decide (c.dw > 0)),.tuple ((nG p c).map .str)]):=by
 have Af:(p.bU.zip c.lines).length<=big:=by
  have:=h.eK;rw[List.length_zip];unfold big;omega
 have zw:List.zipWith (λx y=>PyData.tuple [x,y]) (p.bU.map dW) (c.lines.map λl=>.str l.2)=(p.bU.zip c.lines).map λx=>.tuple [dW x.1,.str x.2.2]:=by
  rw[List.zipWith_map,List.zip,List.map_zipWith]
 have ax:=S5 (enc:=λx:(Str×Str)×(Str×Str)=>.tuple [dW x.1,.str x.2.2]) (x:=λx=>dW x.1) (y:=λx=>.str x.2.2) (g:=λx=>.str x.1.1) (q:=λx=>!decide (x.2.2=("shut":Str))) (cc:=bC (ao fk (nm 1) (ah (.str "shut")))) (f':=ao a4 (nm 0) (ah (.int 0))) (caps:=[]) (λ_=>rfl) (p.bU.zip c.lines) none none (λx hx=>by
  have _h:=(List.of_mem_zip hx).2;have q:=nF (h.lo _ _h) (bf "shut");refine⟨by simp! [gX,q],λ_=>?_⟩;simp! [hU,dW])
 have b:LN [some (.ae (cv p)),some (.ae (d2 c)),none]=some (.d4 (.tuple [.str c.mode,.bool (decide (c.dw > 0)),.tuple ((nG p c).map .str)])):=by
  unfold LN;refine p8 (t:=.list ((nG p c).map .str)) ?_ ?_
  ·have it:Dz (i3 (ao a4 (nm 0) (ah (.int 0)))) (i3 (ao a4 (nm 1) (ah (.int 3)))) [some (.ae (cv p)),some (.ae (d2 c)),none]=some ((p.bU.zip c.lines).map λx=>.tuple [dW x.1,.str x.2.2]):=by
    rw[<- zw];rfl
   unfold comp;rw[it];simp only[c0,e1];rw[if_pos Af];show (hD _ _ _ _ [none,none]).map _=_;rw[ax];simp[nG,oF]
  simp only[kA,kz];simp! [hU,d2,ja,hi,oU]
 unfold vB d9;simp only[dh,gZ,eJ,lg,u0,xC];exact congrArg (λo=>Option.bind o _) b
def ahz(d:Nat){p:aN}{c:aK}(h:a0 p c)(b:Bool):okN (d+2) (.tuple [.str c.mode,.bool b,.tuple ((nG p c).map .str)]):=iZ λx hx=>by
 simp only[cm,ee,or_false] at hx;rcases hx with rfl|rfl|rfl
 ·exact i0 _ h.mo
 ·exact aiw _ _
 ·refine iZ λx hx=>?_
  obtain⟨y,a7,rfl⟩:=c7.mp hx;obtain⟨w,hw,rfl⟩:=c7.mp a7;exact i0 _ (h.zn _ (List.of_mem_zip (List.mem_filter.mp hw).1).1).1
end aZ
end
section
namespace h2
open D aZ
open PySem hiding run fresh code
local instance:cJ:=⟨[],λ_=>[],λ_=>none⟩
def fB(p:aN)(c:aK)(e:cV):aK:=e_ p (fresh c) e
def bX(p:aN)(es:List cV)(pre:List aK)(c:aK):List aJ:=[.ae (cv p),.own (es.map de),.own ((pre++[c]).map d2)]
def w_(p:aN)(e:cV):Prop:=gw p e/\match e with
|.code _ _ z=>∀x,z=some x->x∈p.bU.map (·.1)
|_=>True
section
variable {p:aN}{es:List cV}{pre:List aK}{c:aK}{dq:gm}
def ajx(xs:List T)(x:T):a4 (.list (xs++[x])) (.int (-1))=some x:=by
 have af:¬((0:Int)<=-1):=by omega
 have ak:-(((xs++[x]).length:Nat):Int)<=-1:=by simp only[mD,eJ,lg];omega
 have bB:(-1+(((xs++[x]).length:Nat):Int)).toNat=xs.length:=by simp only[mD,eJ,lg];omega
 simp only[a4,fG,gK];rw[if_neg af,if_pos ak,bB];simp
def RP:l0 [.obj dq 1 (bX p es pre c)]=some (d2 c):=by
 have aA:Co [some (.obj dq 1 (bX p es pre c))]=some (.d4 (d2 c)):=by
  have dO:fld 1 0 2 [some (.obj dq 1 (bX p es pre c))]=some (.list (pre.map d2++[d2 c])):=by
   simp[fld,dm,bX]
  have fv:dX qK (ah (.int 1)) [some (.obj dq 1 (bX p es pre c))]=some (.int (-1)):=rfl;unfold Co cy ao;rw[dO,fv];simp only[c0,ajx];rfl
 unfold l0 gx;show Option.bind (Co [some (.obj dq 1 (bX p es pre c))]) _=_;rw[aA];rfl
def LD{ε:Ev}{i:Nat}(h:ε[i]?=some (some (.obj dq 1 (bX p es pre c)))):eu 1 l0 i [] ε=some (d2 c):=by
 have:dm 1 i ε=some (dq,bX p es pre c):=by simp[dm,h]
 simp only[eu,this,c0,args,gZ,RP]
def yF{ε:Ev}{i:Nat}(h:ε[i]?=some (some (.obj dq 1 (bX p es pre c)))):e8 1 i 0 ε=some (cv p):=by
 have:dm 1 i ε=some (dq,bX p es pre c):=by simp[dm,h]
 simp only[e8,this,c0];rfl
def ahe(wp:Wp p)(hw:a0 p c){e:cV}(he:gw p e)(aB:es.length<10000)(aC:pre.length<10000):
  mI [.obj .b_ 1 (bX p es pre c),.ae (de e)]=some (.tuple ((fB p c e).told.map jj),bX p (es++[e]) (pre++[c]) (fB p c e)):=by
 have xw:=ah1 p c e hw wp he;have xg:=ajB p c e hw wp he;have cf:(es.map de).length<big:=by rw[e1];unfold big;omega
 have ct:((pre++[c]).map d2).length<big:=by simp only[e1,mD,eJ,lg];unfold big;omega
 have aA:Cd [some (.obj .b_ 1 (bX p es pre c)),some (.ae (de e)),none,none]=some (.ij (.tuple ((fB p c e).told.map jj)) [some (.obj .b_ 1 (bX p (es++[e]) (pre++[c]) (fB p c e))),some (.ae (de e)),some (.ae (.tuple ((fB p c e).told.map jj))),some (.ae (d2 (fB p c e)))]):=by
  unfold Cd;refine p8 (t:=.tuple ((fB p c e).told.map jj)) (by
   simp only[b9,args,yF (i:=0) (ε:=[some (.obj .b_ 1 (bX p es pre c)),some (.ae (de e)),none,none]) rfl,LD (i:=0) (ε:=[some (.obj .b_ 1 (bX p es pre c)),some (.ae (de e)),none,none]) rfl,aS,lX,kB,c0,e3,xw];rfl) ?_
  simp only[kA,kz];refine p8 (t:=d2 (fB p c e)) (by
   simp only[b9,args,yF (i:=0) (ε:=[some (.obj .b_ 1 (bX p es pre c)),some (.ae (de e)),some (.ae (.tuple ((fB p c e).told.map jj))),none]) rfl,LD (i:=0) (ε:=[some (.obj .b_ 1 (bX p es pre c)),some (.ae (de e)),some (.ae (.tuple ((fB p c e).told.map jj))),none]) rfl,aS,lX,kB,c0,e3,xg];rfl) ?_
  simp only[kA,kz];refine kE (ε':=[some (.obj .b_ 1 [.ae (cv p),.own ((es++[e]).map de),.own ((pre++[c]).map d2)]),some (.ae (de e)),some (.ae (.tuple ((fB p c e).told.map jj))),some (.ae (d2 (fB p c e)))]) ?_ ?_
  ·simp only[lA,kQ,gy,dm,bX,aS,lX,kB,c0,e3,if_true,if_pos cf];have em:(es++[e]).map de=es.map de++[de e]:=by simp
   rw[em];rfl
  refine kE (ε':=[some (.obj .b_ 1 (bX p (es++[e]) (pre++[c]) (fB p c e))),some (.ae (de e)),some (.ae (.tuple ((fB p c e).told.map jj))),some (.ae (d2 (fB p c e)))]) ?_ rfl
  simp only[lA,kQ,gy,dm,bX,aS,lX,kB,c0,e3,if_true,if_pos ct];have em:((pre++[c])++[fB p c e]).map d2=(pre++[c]).map d2++[d2 (fB p c e)]:=by simp
  rw[em];rfl
 unfold mI runM;show Option.bind (Cd [some (.obj .b_ 1 (bX p es pre c)),some (.ae (de e)),none,none]) _=_;rw[aA];simp[ji]
def Ln(wp:Wp p)(hw:a0 p c){e:cV}(he:gw p e)(aB:es.length<10000)(aC:pre.length<10000){ε:Ev}{i:Nat}{dq:gm}(hm:dq≠.cI)(h:ε[i]?=some (some (.obj dq 1 (bX p es pre c)))){f:bz}(hf:f ε=some (de e)):
  cZ 1 mI i [f] ε=some (.tuple ((fB p c e).told.map jj),ε.set i (some (.obj dq 1 (bX p (es++[e]) (pre++[c]) (fB p c e))))):=by
 have af:dm 1 i ε=some (dq,bX p es pre c):=by simp[dm,h]
 simp only[cZ,af,c0,if_neg hm,args,hf,e3,dh,gZ,ahe wp hw he aB aC]
def aaU(aq:∀x∈p.bU,bT x.1/\bT x.2){z:Str}(h:z∈p.bU.map (·.1)):oP [.obj .cI 1 (bX p es pre c),.ae (.str z)]=some .none:=by
 have eW:=KP aq h;have aA:B1 [some (.obj .cI 1 (bX p es pre c)),some (.ae (.str z))]=some (.bK [some (.obj .cI 1 (bX p es pre c)),some (.ae (.str z))]):=by
  unfold B1;simp only[al9,b9,args,yF (i:=0) (ε:=[some (.obj .cI 1 (bX p es pre c)),some (.ae (.str z))]) rfl,aS,lX,kB,c0,e3,eW]
 unfold oP gx;show Option.bind (B1 [some (.obj .cI 1 (bX p es pre c)),some (.ae (.str z))]) _=_;rw[aA];rfl
def TJ(aq:∀x∈p.bU,bT x.1/\bT x.2){z:Str}(h:z∈p.bU.map (·.1)){ε:Ev}{i:Nat}(bc:ε[i]?=some (some (.obj dq 1 (bX p es pre c)))){f:bz}(hf:f ε=some (.str z)):al9 (eu 1 oP i [f]) ε=some (.bK ε):=by
 have af:dm 1 i ε=some (dq,bX p es pre c):=by simp[dm,bc]
 simp only[al9,eu,af,c0,args,hf,e3,dh,gZ,aaU aq h]
def nS(p:aN)(es:List cV)(pre:List aK)(c:aK)(e:cV):T×List aJ:=(.tuple ((fB p c e).told.map jj),bX p (es++[e]) (pre++[c]) (fB p c e))
def aiQ(wp:Wp p)(hw:a0 p c){z w:Str}(he:gw p (.line z w))(aB:es.length<10000)(aC:pre.length<10000):
  vm [.obj .b_ 1 (bX p es pre c),.ae (.str z),.ae (.str w)]=some (nS p es pre c (.line z w)):=by
 have fe:(3:Nat)<=big:=by unfold big;omega
 have aA:CC [some (.obj .b_ 1 (bX p es pre c)),some (.ae (.str z)),some (.ae (.str w))]=some (.ij (nS p es pre c (.line z w)).1 [some (.obj .b_ 1 (nS p es pre c (.line z w)).2),some (.ae (.str z)),some (.ae (.str w))]):=by
  unfold CC;refine kE (TJ hw.zn he.1 (i:=0) rfl rfl) ?_;unfold ik;rw[Ln wp hw he aB aC (by decide) (i:=0) rfl (by simp[cb,args,ah,aS,fe,de])];rfl
 unfold vm runM;show Option.bind (CC [some (.obj .b_ 1 (bX p es pre c)),some (.ae (.str z)),some (.ae (.str w))]) _=_;rw[aA];simp[ji]
def ahW(wp:Wp p)(hw:a0 p c){n:Int}(he:gw p (.dx n))(aB:es.length<10000)(aC:pre.length<10000):
  vh [.obj .b_ 1 (bX p es pre c),.ae (.int n)]=some (nS p es pre c (.dx n)):=by
 have fe:(2:Nat)<=big:=by unfold big;omega
 have aA:Cn [some (.obj .b_ 1 (bX p es pre c)),some (.ae (.int n))]=some (.ij (nS p es pre c (.dx n)).1 [some (.obj .b_ 1 (nS p es pre c (.dx n)).2),some (.ae (.int n))]):=by
  unfold Cn ik;rw[Ln wp hw he aB aC (by decide) (i:=0) rfl (by simp[cb,args,ah,aS,fe,de])];rfl
 unfold vh runM;show Option.bind (Cn [some (.obj .b_ 1 (bX p es pre c)),some (.ae (.int n))]) _=_;rw[aA];simp[ji]
def aiS(wp:Wp p)(hw:a0 p c){f d:Str}{z:Option Str}(he:w_ p (.code f d z))(aB:es.length<10000)(aC:pre.length<10000):
  amy [.obj .b_ 1 (bX p es pre c),.ae (.str f),.ae (.str d),.ae (eb z)]=some (nS p es pre c (.code f d z)):=by
 have fe:(4:Nat)<=big:=by unfold big;omega
 have hd:bT d:=by
  rcases he.1.2.1 with h|h|h|h <;> (rw[h];exact bf _)
 have Ba:=vo false (n:=d) (ns:=["shunt","free"]) hd (λx hx=>by
  simp only[cm,ee,or_false] at hx;rcases hx with h|h <;> (rw[h];exact bf _))
 have aA:CD [some (.obj .b_ 1 (bX p es pre c)),some (.ae (.str f)),some (.ae (.str d)),some (.ae (eb z))]=some (.ij (nS p es pre c (.code f d z)).1 [some (.obj .b_ 1 (nS p es pre c (.code f d z)).2),some (.ae (.str f)),some (.ae (.str d)),some (.ae (eb z))]):=by
  unfold CD;refine kE (ε':=[some (.obj .b_ 1 (bX p es pre c)),some (.ae (.str f)),some (.ae (.str d)),some (.ae (eb z))]) ?_ ?_
  ·cases z with
   |some x=>
    have hx:x∈p.bU.map (·.1):=he.2 x rfl;unfold iff;have t:e' (bC (dX g5 (nm 3))) (bC (ao (fK false) (nm 2) (ah (.tuple (hZ ["shunt","free"]))))) [some (.obj .b_ 1 (bX p es pre c)),some (.ae (.str f)),some (.ae (.str d)),some (.ae (eb (some x)))]=some true:=rfl;rw[t];exact TJ hw.zn hx (i:=0) rfl rfl
   |none=>
    have a':¬(d∈(["shunt","free"]:List Str)):=λhm=>by
     simp only[cm,ee,or_false] at hm;obtain⟨x,hx,_⟩:=he.1.2.2 hm;cases hx
    simp only[nz,if_false,decide_eq_false a'] at Ba;have acM:fK false (.str d) (.tuple (hZ ["shunt","free"]))=some (.bool false):=Ba;unfold iff;have t:e' (bC (dX g5 (nm 3))) (bC (ao (fK false) (nm 2) (ah (.tuple (hZ ["shunt","free"]))))) [some (.obj .b_ 1 (bX p es pre c)),some (.ae (.str f)),some (.ae (.str d)),some (.ae (eb none))]=some false:=by
     simp only[e',bC,dX,ao,nm,ah,lX,kB,c0,acM];rfl
    rw[t];rfl
  unfold ik;rw[Ln (e:=.code f d z) wp hw he.1 aB aC (by decide) (i:=0) rfl (by simp[cb,args,ah,aS,fe,de])];rfl
 unfold amy runM;show Option.bind (CD [some (.obj .b_ 1 (bX p es pre c)),some (.ae (.str f)),some (.ae (.str d)),some (.ae (eb z))]) _=_;rw[aA];simp[ji]
def aiP(e:cV)(bW:aK):vl [.obj .b_ 1 (bX p (es++[e]) (pre++[c]) bW)]=some (.none,bX p es pre c):=by
 have aA:CB [some (.obj .b_ 1 (bX p (es++[e]) (pre++[c]) bW))]=some (.bK [some (.obj .b_ 1 (bX p es pre c))]):=by
  have dO:bX p (es++[e]) (pre++[c]) bW=[.ae (cv p),.own (es.map de++[de e]),.own ((pre++[c]).map d2++[d2 bW])]:=by simp[bX]
  rw[dO];unfold CB;refine p7 ?_ ?_
  ·have t:hb (fld 1 0 1) [some (.obj .b_ 1 [.ae (cv p),.own (es.map de++[de e]),.own ((pre++[c]).map d2++[d2 bW])])]=some true:=by
    simp[hb,fld,dm]
   unfold hQ;rw[t];rfl
  refine kE (ε':=[some (.obj .b_ 1 [.ae (cv p),.own (es.map de),.own ((pre++[c]).map d2++[d2 bW])])]) ?_ ?_
  ·simp only[uF,kQ,gy,dm,lX,kB,c0,if_true,List.getLast?_concat,List.dropLast_concat];rfl
  ·simp only[uF,kQ,gy,dm,lX,kB,c0,if_true,List.getLast?_concat,List.dropLast_concat];rfl
 unfold vl runM;show Option.bind (CB [some (.obj .b_ 1 (bX p (es++[e]) (pre++[c]) bW))]) _=_;rw[aA];simp[ji]
def oe(pre:List aK)(c:aK):aK:=(pre++[c]).headD c
def ahX(hw:a0 p c):tn [.obj .cI 1 (bX p es pre c)]=some (.tuple [.str c.mode,.bool (decide (c.dw > 0)),.tuple ((nG p c).map .str)]):=by
 have xs:=aic p c hw;have aA:Cp [some (.obj .cI 1 (bX p es pre c))]=some (.d4 (.tuple [.str c.mode,.bool (decide (c.dw > 0)),.tuple ((nG p c).map .str)])):=by
  unfold Cp;simp only[cy,b9,args,yF (i:=0) (ε:=[some (.obj .cI 1 (bX p es pre c))]) rfl,LD (i:=0) (ε:=[some (.obj .cI 1 (bX p es pre c))]) rfl,c0,e3,xs]
 unfold tn gx;show Option.bind (Cp [some (.obj .cI 1 (bX p es pre c))]) _=_;rw[aA];rfl
def S7(aB:es.length<10000):p6 [.obj .cI 1 (bX p es pre c)]=some (.tuple (es.map de)):=by
 have cf:es.length<=big:=by unfold big;omega
 have aA:CP [some (.obj .cI 1 (bX p es pre c))]=some (.d4 (.tuple (es.map de))):=by
  unfold CP;simp[cy,b9,args,fld,dm,bX,hi,cf]
 unfold p6 gx;show Option.bind (CP [some (.obj .cI 1 (bX p es pre c))]) _=_;rw[aA];rfl
def SS(x:T)(xs:List T):a4 (.list (x::xs)) (.int 0)=some x:=by
 have h:(0:Int)<(((x::xs).length:Nat):Int):=by simp only[eJ];omega
 simp only[a4,fG,gK,Int.le_refl,if_true,if_pos h];rfl
def ajK(wp:Wp p)(cM:a0 p (oe pre c))(he:∀e∈es,gw p e)(aB:es.length<=1000):tu [.obj .cI 1 (bX p es pre c)]=some (.tuple ((run p (fresh (oe pre c)) es).told.map kh)):=by
 have xs:=ah8 p (oe pre c) es cM wp he aB;have PN:=S7 (p:=p) (pre:=pre) (c:=c) (es:=es) (by omega);have dO:ao a4 (fld 1 0 2) (ah (.int 0)) [some (.obj .cI 1 (bX p es pre c))]=some (d2 (oe pre c)):=by
  have fv:fld 1 0 2 [some (.obj .cI 1 (bX p es pre c))]=some (.list ((pre++[c]).map d2)):=by
   simp[fld,dm,bX]
  unfold ao;rw[fv];have hs:ah (.int 0) [some (.obj .cI 1 (bX p es pre c))]=some (.int 0):=rfl;rw[hs];simp only[c0];cases pre with
  |nil=>exact SS _ _
  |cons x pre=>exact SS _ _
 have aA:CQ [some (.obj .cI 1 (bX p es pre c))]=some (.d4 (.tuple ((run p (fresh (oe pre c)) es).told.map kh))):=by
  have dD:dm 1 0 [some (.obj .cI 1 (bX p es pre c))]=some (.cI,bX p es pre c):=rfl;unfold CQ;simp only[cy,b9,args,yF (i:=0) (ε:=[some (.obj .cI 1 (bX p es pre c))]) rfl,dO,eu,dD,c0,e3,gZ,PN,xs]
 unfold tu gx;show Option.bind (CQ [some (.obj .cI 1 (bX p es pre c))]) _=_;rw[aA];rfl
end
end h2
end
section
namespace h2
open D aZ
open PySem hiding run fresh code
local instance:cJ:=⟨[],λ_=>[],λ_=>none⟩
def chain(p:aN):aK->List cV->List aK
|_,[]=>[]
|c,e::es=>c::chain p (fB p c e) es
def hK(p:aN)(c:aK)(es:List cV):aK:=es.foldl (fB p) c
def TF{p:aN}{c:aK}(hw:a0 p c){e:cV}(he:gw p e):a0 p (fB p c e):=hw.fresh.e_ he
theorem L7{p:aN}:∀{es:List cV} {c:aK},a0 p c->(∀e∈es,gw p e)->a0 p (hK p c es)
| [],_,h,_=>h
|e::es,c,h,he=>L7 (es:=es) (TF h (he e (by simp))) λy a7=>he y (dn _ a7)
theorem NP(p:aN):∀(xs ys:List cV) (c:aK),chain p c (xs++ys)=chain p c xs++chain p (hK p c xs) ys
| [],ys,c=>rfl
|x::xs,ys,c=>by
  show c::chain p (fB p c x) (xs++ys)=c::(chain p (fB p c x) xs++chain p (hK p (fB p c x) xs) ys)
  rw[NP p xs ys]
def YV(p:aN)(xs ys:List cV)(c:aK):hK p c (xs++ys)=hK p (hK p c xs) ys:=by simp[hK]
theorem RM(p:aN):∀(xs:List cV) (c:aK),(chain p c xs).length=xs.length
| [],c=>rfl
|x::xs,c=>by simp[chain,RM p xs]
def So(p:aN):∀(xs:List cV) (c:aK),oe (chain p c xs) (hK p c xs)=c
| [],c=>rfl
|x::xs,c=>rfl
end h2
end
section
namespace h2
open D aZ tR
open PySem hiding run fresh code
local instance:cJ:=⟨[],λ_=>[],λ_=>none⟩
def TV{p:aN}{e:cV}(h:ka p e):w_ p e:=by
 refine⟨h.ok,?_⟩
 cases e with
|line _ _=>trivial
|dx _=>trivial
|code f d z=>
  intro x hx;rcases h.2 with ⟨_,q⟩|⟨_,y,q,a7⟩
  ·rw[q] at hx;cases hx
  ·rw[q] at hx;cases hx;exact a7
def ahx{ws:List (Int×Str×Option Str)}(h:∀w∈ws,bT w.2.1/\∀n,w.2.2=some n->bT n):okN 2 (.tuple (ws.map jj)):=iZ λx hx=>by
 obtain⟨w,hw,rfl⟩:=c7.mp hx;exact ais 0 (h w hw).1 (h w hw).2
def aiR{p:aN}(wp:Wp p)(eK:p.bU.length<=40):tj [.obj .b_ 1 [],.ae (cv p)]=some (.none,bX p [] [] (eS p)):=by
 have dZ:=aiT p eK wp;have s7:(1:Nat)<=big:=by unfold big;omega
 have aA:B6 [some (.obj .b_ 1 []),some (.ae (cv p))]=some (.bK [some (.obj .b_ 1 (bX p [] [] (eS p))),some (.ae (cv p))]):=by
  unfold B6;refine kE (ε':=[some (.obj .b_ 1 [.ae (cv p)]),some (.ae (cv p))]) rfl ?_;refine kE (ε':=[some (.obj .b_ 1 [.ae (cv p),.own []]),some (.ae (cv p))]) ?_ ?_
  ·simp[jL,gi,args,gy,dm]
  ·simp[jL,gi,args,gy,dm,b9,aS,dZ,s7,bX]
 unfold tj runM;show Option.bind (B6 [some (.obj .b_ 1 []),some (.ae (cv p))]) _=_;rw[aA];simp[ji]
def ah'{j:Int}(h0:0<=j)(af:j<=1000):vr j=true:=by
 unfold vr;simp;omega
def _z{f:bz}{ε:Ev}{j:Int}(h:f ε=some (.int j))(h0:0<=j)(af:j<=1000):mK f ε=some (kY 0 j):=by
 unfold mK;rw[h];simp only[c0];rw[if_pos (ah' h0 af)]
def vE{a:bz}{ε:Ev}{v:Bool}(h:a ε=some (.bool v)):bC a ε=some v:=by
 unfold bC;rw[h];rfl
def ll{o:T->T->Option T}{a b:bz}{ε:Ev}{x y z:T}(av:a ε=some x)(U:b ε=some y)(h:o x y=some z):ao o a b ε=some z:=by
 unfold ao;rw[av,U];exact h
def akq{p:aN}{e:cV}(aq:∀z∈p.bU,bT z.1/\bT z.2)(h:w_ p e):okN 1 (de e):=by
 have yJ:∀z,z∈p.bU.map (·.1)->bT z:=λz hm=>by
  obtain⟨x,hx,rfl⟩:=c7.mp hm;exact (aq x hx).1
 cases e with
|line z w=>
  have fL:bT w:=by rcases h.1.2 with q|q|q <;> (rw[q];exact bf _)
  exact iZ λx hx=>by
   simp only[cm,ee,or_false] at hx;rcases hx with rfl|rfl|rfl
   ·exact i0 0 (bf "line")
   ·exact i0 0 (yJ z h.1.1)
   ·exact i0 0 fL
|code f d z=>
  have ec:bT d:=by rcases h.1.2.1 with q|q|q|q <;> (rw[q];exact bf _)
  exact iZ λx hx=>by
   simp only[cm,ee,or_false] at hx;rcases hx with rfl|rfl|rfl|rfl
   ·exact i0 0 (bf "code")
   ·exact i0 0 h.1.1
   ·exact i0 0 ec
   ·exact Dh 0 λy a7=>yJ y (h.2 y a7)
|dx n=>
  exact iZ λx hx=>by
   simp only[cm,ee,or_false] at hx;rcases hx with rfl|rfl
   ·exact i0 0 (bf "ticks")
   ·exact tD 0 n
theorem RA{z:Str}(aq:bT z)(s0:Option aJ):∀(zs:List (Str×Str)) (t0:Option aJ),(∀x∈zs,bT x.1)->z∉zs.map (·.1)->∃t1,forL (cx 2) (iff (bC (ao oEq (ao a4 (nm 2) (ah (.int 0))) (nm 1))) (cy (ao a4 (nm 2) (ah (.int 1)))) skip) (zs.map dW) [s0,some (.ae (.str z)),t0]=some (.bK [s0,some (.ae (.str z)),t1])
| [],t0,_,_=>⟨t0,rfl⟩
|x::zs,t0,aF,h=>by
  have e:=dA (aF x (by simp)) aq;rw[dh,cm,not_or] at h;have hx:¬x.1=z:=λq=>h.1 q.symm;obtain⟨t1,b8⟩:=RA aq s0 zs (some (.ae (dW x))) (λy a7=>aF y (dn _ a7)) h.2;refine⟨t1,?_⟩;simp[dW] at b8;simp! [hU,forL,dW,hx,e];simpa [d9,seq,iff,bC,hb,hJ,e',hQ,f_,ofT,dX,ao,b9,args,ah,nm,aS,cy,skip,asg,jS,jT,par,cb,gi,ix,g5,a4,fG,gK,cx,eO,gb,fl,comp,iI] using b8
def aj2{p:aN}{z:Str}(aF:∀x∈p.bU,bT x.1/\bT x.2)(aq:bT z)(h:z∉p.bU.map (·.1))(au:(reprText z).length<=10000):vn [.ae (cv p),.ae (.str z)]=true:=by
 obtain⟨t1,x⟩:=RA aq (some (.ae (cv p))) p.bU none (λy a7=>(aF y a7).1) h;have qs:gR (fl (ao a4 (nm 0) (ah (.int 0)))) (cx 2) (iff (bC (ao oEq (ao a4 (nm 2) (ah (.int 0))) (nm 1))) (cy (ao a4 (nm 2) (ah (.int 1)))) skip) [some (.ae (cv p)),some (.ae (.str z)),none]=some (.bK [some (.ae (cv p)),some (.ae (.str z)),t1]):=by
  have it:fl (ao a4 (nm 0) (ah (.int 0))) [some (.ae (cv p)),some (.ae (.str z)),none]=some (p.bU.map dW):=by
   simp! [hU,cv]
  unfold gR;rw[it];exact x
 have aaV:nm 1 [some (.ae (cv p)),some (.ae (.str z)),t1]=some (.str z):=rfl;have b2:((("no zone is called ":Str))).length<=1000:=by decide
 show x7 [some (.ae (cv p)),some (.ae (.str z)),none]=true
 unfold x7 amu D.lK dX;rw[qs];simp only[aaV,c0,vS,if_pos (And.intro au b2),Option.isSome_some]
section
variable {p:aN}{es:List cV}{pre:List aK}{c:aK}{dq:gm}
def aj0(aF:∀x∈p.bU,bT x.1/\bT x.2){z:Str}(aq:bT z)(h:z∉p.bU.map (·.1))(au:(reprText z).length<=10000):oO [.obj .cI 1 (bX p es pre c),.ae (.str z)]=true:=by
 show xM [some (.obj .cI 1 (bX p es pre c)),some (.ae (.str z))]=true
 unfold xM yT;have a:al2 [.v (e8 1 0 0),.v (aS 1)] [some (.obj .cI 1 (bX p es pre c)),some (.ae (.str z))]=some [.ae (cv p),.ae (.str z)]:=rfl;rw[a];exact aj2 aF aq h au
def akr(aF:∀x∈p.bU,bT x.1/\bT x.2){z:Str}(aq:bT z)(h:z∉p.bU.map (·.1))(au:(reprText z).length<=10000){ε:Ev}{i:Nat}(bc:ε[i]?=some (some (.obj dq 1 (bX p es pre c)))){f:bz}(hf:f ε=some (.str z)):
  jK 1 oO i [f] ε=true:=by
 have af:dm 1 i ε=some (dq,bX p es pre c):=by simp[dm,bc]
 simp only[jK,af,args,hf,c0,e3,dh,gZ,aj0 aF aq h au]
def aj1(aF:∀x∈p.bU,bT x.1/\bT x.2){z w:Str}(aq:bT z)(h:z∉p.bU.map (·.1))(au:(reprText z).length<=10000):vk [.obj .cI 1 (bX p es pre c),.ae (.str z),.ae (.str w)]=true:=by
 show Kz [some (.obj .cI 1 (bX p es pre c)),some (.ae (.str z)),some (.ae (.str w))]=true
 exact akr aF aq h au (i:=0) rfl rfl
def Tq:Cv [.obj .cI 1 (bX p es pre c)]=es.isEmpty:=by
 show Ky [some (.obj .cI 1 (bX p es pre c))]=es.isEmpty
 unfold Ky uA;have t:hQ (hb (fld 1 0 1)) [some (.obj .cI 1 (bX p es pre c))]=some es.isEmpty:=by
  cases es with
  |nil=>rfl
  |cons e es=>rfl
 rw[t];cases es with
|nil=>rfl
|cons e es=>rfl
end
end h2
end
section
namespace ck
open D aZ
end ck
end
section
namespace ck
open D PySem
def ls(x:Str):List Nat:=x.cps.toList
def st(l:List Nat):Str:=⟨l.toArray⟩
def yE(x:Str):x.length=(ls x).length:=by simp[Str.length,ls]
def vL(x y:Str):ls (x++y)=ls x++ls y:=by
 show (x.cps++y.cps).toList=_
 simp[ls]
def ON(c:Nat):List (List Nat)->List Nat
| []=>[]
| [p]=>p
|p::q::r=>p++c::ON c (q::r)
def asc(l:List Nat):Prop:=∀a∈l,a<128
def Ri(x:Str):L_ x=true <-> asc (ls x):=by
 unfold L_ asc ls;rw[List.all_eq_true];constructor
 ·intro h a av;exact of_decide_eq_true (h a av)
 ·intro h a av;exact decide_eq_true (h a av)
def R8{x:Str}(h:asc (ls x)):PyData.strOk x=true:=by
 unfold PyData.strOk;rw[<- Array.all_toList,List.all_eq_true];intro a av;have:=h a av;exact decide_eq_true (by omega)
def vD{a b:List Nat}(af:asc a)(ak:asc b):asc (a++b):=λx hx=>(jD.mp hx).elim (af x) (ak x)
def SE(m:Nat):ls (qV (m:Int))=(Nat.toDigits 10 m).map Char.toNat:=W.KIN.signs_num m
def ah7(m:Nat):NumText.AllDigits (ls (qV (m:Int))):=by
 rw[SE];intro c ax;obtain⟨d,hd,rfl⟩:=c7.mp ax;have h:=Nat.isDigit_of_mem_toDigits (by decide) (by decide) hd;simp only[Char.isDigit,gO,decide_eq_true_eq] at h;exact⟨h.1,h.2⟩
end ck
end
section
namespace ck
open D aZ PySem
section
variable {f g:bz}{gS gt:eT}{ε:Ev}{a b:Bool}
def acR{d:List T->Option T}{t:T}(h:f ε=some t):b9 d [f] ε=d [t]:=by simp[b9,args,h]
def acS{d:List T->Option T}{t u:T}(h:f ε=some t)(ak:g ε=some u):b9 d [f,g] ε=d [t,u]:=by simp[b9,args,h,ak]
end
mutual
noncomputable def lE:T->Bool
|.str x=>L_ x && decide (x.length<=1000000)
|.tuple ts=>wq ts
|.list ts=>wq ts
|.dict _=>false
|_=>true
noncomputable def wq:List T->Bool
| []=>true
|t::ts=>lE t && wq ts
end
mutual
theorem RN:∀{t:T},lE t=true->t.canLay0=true
|.str x,h=>by
  rw[lE,gO] at h;rw[PyData.canLay0];exact R8 ((Ri x).mp h.1)
|.tuple ts,h=>by
  rw[lE] at h;rw[PyData.canLay0];exact KS h
|.list ts,h=>by
  rw[lE] at h;rw[PyData.canLay0];exact KS h
|.dict _,h=>by simp[lE] at h
|.none,_=>rfl
|.int _,_=>rfl
|.bool _,_=>rfl
theorem KS:∀{ts:List T},wq ts=true->j5 ts=true
| [],_=>rfl
|t::ts,h=>by
  rw[wq,gO] at h;rw[j5,RN h.1,KS h.2];rfl
end
structure DI(d:Nat)(t:T):Prop where
 g:lE t=true
 d:t.depth<=d
theorem DI.okN{d:Nat}{t:T}(h:DI d t):aZ.okN d t:=⟨RN h.g,h.d⟩
def Y8{d:Nat}{x:Str}(h:asc (ls x))(aB:x.length<=1000000):DI d (.str x):=⟨by rw[lE,gO];exact⟨(Ri x).mpr h,decide_eq_true aB⟩,by rw[lb];omega⟩
noncomputable def Mb(t:T)(lo bc:Int)(a b:Nat):Bool:=match t with
|.str x=>decide (lo<=x.length) && decide ((x.length:Int)<=bc) && (ls x).all λc=>decide (a<=c) && decide (c<=b)
|_=>false
def aml(t:T):Bool:=Mb t 1 4 97 122
def N5(t:T):Bool:=Mb t 4 4 48 57
end ck
end
section
namespace ck
open D aZ PySem
def vF:List Str->Bool
|x::y::r=>strLt x y && vF (y::r)
|_=>true
def Sg{ss:List Str}(h:∀s∈ss,asc (ls s)):pP (ss.map .str)=true:=by
 unfold pP;have:=LC (d:=0) (ts:=ss.map .str) λt aX=>by
  obtain⟨s,aA,rfl⟩:=c7.mp aX;exact⟨by rw[PyData.canLay0];exact R8 (h s aA),by rw[lb];omega⟩
 rw[this.1,Bool.true_and];exact decide_eq_true (by omega)
def TN:List Str:=["day","inner","once","way"]
def Hl{a:T}{r:List T}:a4 (.tuple (a::r)) (.int 0)=some a:=by
 simp only[a4,fG,gK];rw[if_pos (by decide),if_pos (by simp only[eJ];omega)];rfl
end ck
end
section
namespace ck
open D aZ PySem
end ck
end
section
namespace ck
open D aZ PySem
def ql{s:Str}(h:((ls s).all λc=>decide (c<128))=true:=by decide +kernel):asc (ls s):=λa av=>of_decide_eq_true (List.all_eq_true.mp h a av)
end ck
end
section
namespace ck
open D aZ PySem
def r1:Int:=10 ^ 64
def akH:r1<2 ^ 213:=by decide +kernel
def aks{a:Int}(h0:0<=a)(h:a<r1):Ue a=true:=by
 unfold Ue;refine decide_eq_true ?_;have af:=akH;have ak:a.natAbs<2 ^ 213:=by
  have e:((2 ^ 213:Nat):Int)=2 ^ 213:=by norm_cast
  have:a<((2 ^ 213:Nat):Int):=by rw[e];exact Int.lt_trans h af
  generalize 2 ^ 213=q at this ⊢;omega
 by_cases aq:a.natAbs=0
 ·rw[aq];decide
 ·have:=(Nat.log2_lt aq).mpr ak;omega
def dig(l:List Nat):Prop:=NumText.AllDigits l
def R9{a:Int}(h:0<=a):qV a=qV ((a.toNat:Nat):Int):=by rw[Int.toNat_of_nonneg h]
def ahk{a:Int}(h:0<=a):dig (ls (qV a)):=by
 rw[R9 h];exact ah7 _
def aeW{a:Int}(h0:0<=a)(h:a<r1):(qV a).length<=64/\0<(qV a).length:=by
 rw[R9 h0,yE,SE,e1];refine⟨(Nat.length_toDigits_le_iff (by decide) (by decide)).mpr ?_,Nat.length_toDigits_pos⟩;have:((a.toNat:Nat):Int)<((10 ^ 64:Nat):Int):=by
  rw[Int.toNat_of_nonneg h0];have e:((10 ^ 64:Nat):Int)=r1:=by unfold r1;norm_cast
  rw[e];exact h
 exact_mod_cast this
end ck
end
section
namespace qe
open D
def tq:bA:=
  (seq (iff (bC (ao oLt (nm 1) (b9 jw [(nm 0)]))) (cy (ao a4 (nm 0) (nm 1))) skip) (cy (ah (.int 0))))
def lZ:List T->Option T:=d9 tq 2
noncomputable def tv:bA:=
  (seq (asg 2 (ao oMod (ao dI (ao dC (ao dC (b9 lZ [(aS 0),(aS 1)]) (ao dI (ah (.int 7919)) (nm 1))) (ah (.int 1))) (ah (.int 48271))) (ah (.int 2147483647)))) (cy (ao oMod (ao dC (ao dC (ao dI (nm 2) (nm 2)) (ao dI (ah (.int 7)) (nm 2))) (nm 1)) (ah (.int 2147483629)))))
def kD:List T->Option T:=d9 tv 3
noncomputable def amg:bA:=
  (seq (asg 2 (ao oMod (ao dI (ao dC (ao dC (nm 0) (ao dI (ah (.int 104729)) (nm 1))) (ah (.int 17))) (ah (.int 69621))) (ah (.int 2147483647)))) (cy (ao oMod (ao dC (ao dC (ao dI (nm 2) (nm 2)) (ao dI (ah (.int 3)) (nm 2))) (nm 1)) (ah (.int 2147483629)))))
def l3:List T->Option T:=d9 amg 3
end qe
end
section
namespace VF
def V4(e:Int×Int)(x:Int):Option Int:=if e.1=x then some e.2 else if e.2=x then some e.1 else none
def Within(R:Int)(E:List (Int×Int)):Prop:=∀e∈E,0<=e.1/\e.1<=R/\0<=e.2/\e.2<=R
noncomputable def inner(h:Int):List (Int×Int)->List Int->List Int->List Int×List Int
| [],r,w=>(r,w)
|e::es,r,w=>match V4 e h with
  |some t=>if t∈r then inner h es r w else inner h es (r++[t]) (w++[t])
  |none=>inner h es r w
end VF
end
section
namespace qe
open PySem D
abbrev Op:=Int×Int×Option Str
def free(ns:List Str)(o:Op):Bool:=match o.2.2 with
|none=>true
|some x=>decide (x∈ns)
def kn:Option Int->T
|some t=>.int t
|none=>.none
def rn(a b:Int):oEq (.int a) (.int b)=some (.bool (decide (a=b))):=by
 simp[oEq,vy,je,Bool.beq_eq_decide_eq]
def hY{a b:bA}{ε ε':Ev}(h:a ε=some (.bK ε')):seq a b ε=b ε':=by
 simp only[seq,h,c0]
def dy(r:List Int):List (Key×T):=r.map λx=>(Sum.inl x,.bool true)
end qe
end
section
namespace qe
open PySem D
end qe
end
section
namespace qe
open PySem D
def eg(ns:List Int):T:=.list (ns.map .int)
def LI(ns:List Int)(k:Nat):lZ [eg ns,.int k]=some (.int (ns.getD k 0)):=by
 by_cases h:k<ns.length
 ·have h':(k:Int)<(ns.length:Int):=by omega
  simp[lZ,tq,eg,d9,seq,iff,bC,hb,hJ,e',hQ,f_,ofT,dX,ao,b9,args,ah,nm,aS,cy,skip,asg,jS,jT,par,cb,gi,ix,g5,a4,fG,gK,cx,eO,gb,fl,comp,iI,dC,qL,dI,oDiv,oMod,qK,jw,A8,sO,hi,Dw,A7,oLt,oLe,ja,qJ,big,h,h',List.getD]
 ·have h':¬(k:Int)<(ns.length:Int):=by omega
  simp[lZ,tq,eg,d9,seq,iff,bC,hb,hJ,e',hQ,f_,ofT,dX,ao,b9,args,ah,nm,aS,cy,skip,asg,jS,jT,par,cb,gi,ix,g5,a4,fG,gK,cx,eO,gb,fl,comp,iI,dC,qL,dI,oDiv,oMod,qK,jw,A8,sO,hi,Dw,A7,oLt,oLe,ja,qJ,big,h,h',List.getD]
def kF{i j:Int}(h:-(2 ^ 64)<j/\j<2 ^ 64):dI (.int i) (.int j)=some (.int (i*j)):=by
 unfold dI vT;simp only[decide_eq_true h.1,decide_eq_true h.2,Bool.and_self,Bool.or_true,if_true]
def oZ{i j:Int}(h:0<j):oMod (.int i) (.int j)=some (.int (i % j)):=if_pos h
def TU{i j:Int}(h:0<j/\j<1073741824):oDiv (.int i) (.int j)=some (.int (i / j)):=if_pos h
def kG{i j:Int}:dC (.int i) (.int j)=some (.int (i+j)):=rfl
def CX(ns:List Int)(k:Nat):∃m:Int,0<=m/\kD [eg ns,.int k]=some (.int m):=by
 have ax:=LI ns k;have hd:0<=(ns.getD k 0+7919*(k:Int)+1)*48271 % 2147483647/\(ns.getD k 0+7919*(k:Int)+1)*48271 % 2147483647<2147483647:=⟨oI _ (by decide),uZ _ (by decide)⟩;generalize hx:(ns.getD k 0+7919*(k:Int)+1)*48271 % 2147483647=d at hd;refine⟨(d*d+7*d+k) % 2147483629,oI _ (by decide),?_⟩;have b7:kD [eg ns,.int k]=(tv [some (.ae (eg ns)),some (.ae (.int k)),none]).bind λo=>match o with|.d4 t=>some t|.bK _=>some .none|_=>none:=rfl
 have hO:dI (.int 7919) (.int k)=some (.int (7919*k)):=by
  unfold dI vT;simp
 have nq:aS 0 [some (.ae (eg ns)),some (.ae (.int k)),none]=some (eg ns):=rfl;have gv:aS 1 [some (.ae (eg ns)),some (.ae (.int k)),none]=some (.int k):=rfl;have IC:nm 1 [some (.ae (eg ns)),some (.ae (.int k)),none]=some (.int k):=rfl;have s1:asg 2 (ao oMod (ao dI (ao dC (ao dC (b9 lZ [(aS 0),(aS 1)]) (ao dI (ah (.int 7919)) (nm 1))) (ah (.int 1))) (ah (.int 48271))) (ah (.int 2147483647))) [some (.ae (eg ns)),some (.ae (.int k)),none]=some (.bK [some (.ae (eg ns)),some (.ae (.int k)),some (.ae (.int d))]):=by
  simp only[asg,ao,b9,args,nq,gv,IC,c0,e3,ax,ah,hO,kG,kF (i:=ns.getD k 0+7919*(k:Int)+1) (j:=48271) (by decide),oZ (j:=2147483647) (by decide),hx];rfl
 have kW:dI (.int d) (.int d)=some (.int (d*d)):=kF (by omega);have qH:dI (.int 7) (.int d)=some (.int (7*d)):=kF (by omega);rw[b7];unfold tv;rw[hY s1];have bb:nm 2 [some (.ae (eg ns)),some (.ae (.int k)),some (.ae (.int d))]=some (.int d):=rfl;have aM:nm 1 [some (.ae (eg ns)),some (.ae (.int k)),some (.ae (.int d))]=some (.int k):=rfl;simp only[cy,ao,bb,aM,c0,e3,ah,kW,qH,kG,oZ (j:=2147483629) (by decide)]
def CZ(n k:Int)(aL:-(2 ^ 64)<k/\k<2 ^ 64):∃m:Int,0<=m/\l3 [.int n,.int k]=some (.int m):=by
 have hd:0<=(n+104729*k+17)*69621 % 2147483647/\(n+104729*k+17)*69621 % 2147483647<2147483647:=⟨oI _ (by decide),uZ _ (by decide)⟩;generalize hx:(n+104729*k+17)*69621 % 2147483647=d at hd;refine⟨(d*d+3*d+k) % 2147483629,oI _ (by decide),?_⟩;have b7:l3 [.int n,.int k]=(amg [some (.ae (.int n)),some (.ae (.int k)),none]).bind λo=>match o with|.d4 t=>some t|.bK _=>some .none|_=>none:=rfl
 have hO:dI (.int 104729) (.int k)=some (.int (104729*k)):=kF aL;have nq:nm 0 [some (.ae (.int n)),some (.ae (.int k)),none]=some (.int n):=rfl;have gv:nm 1 [some (.ae (.int n)),some (.ae (.int k)),none]=some (.int k):=rfl;have s1:asg 2 (ao oMod (ao dI (ao dC (ao dC (nm 0) (ao dI (ah (.int 104729)) (nm 1))) (ah (.int 17))) (ah (.int 69621))) (ah (.int 2147483647))) [some (.ae (.int n)),some (.ae (.int k)),none]=some (.bK [some (.ae (.int n)),some (.ae (.int k)),some (.ae (.int d))]):=by
  simp only[asg,ao,nq,gv,c0,e3,ah,hO,kG,kF (i:=n+104729*k+17) (j:=69621) (by decide),oZ (j:=2147483647) (by decide),hx];rfl
 have kW:dI (.int d) (.int d)=some (.int (d*d)):=kF (by omega);have qH:dI (.int 3) (.int d)=some (.int (3*d)):=kF (by omega);rw[b7];unfold amg;rw[hY s1];have bb:nm 2 [some (.ae (.int n)),some (.ae (.int k)),some (.ae (.int d))]=some (.int d):=rfl;have aM:nm 1 [some (.ae (.int n)),some (.ae (.int k)),some (.ae (.int d))]=some (.int k):=rfl;simp only[cy,ao,bb,aM,c0,e3,ah,kW,qH,kG,oZ (j:=2147483629) (by decide)]
def names5:List Str:=["a","b","back","hall","win"]
def VQ(R:Int)(o:Op):Prop:=0<=o.1/\o.1<o.2.1/\o.2.1<=R/\∀x,o.2.2=some x->x∈names5
structure Drawn(R:Int)(os:List Op):Prop where
 bg:1<=R
 sR:R<=7
 len:os.length<=10
 ok:∀o∈os,VQ R o
end qe
end
section
namespace ck
open D aZ PySem
def adT(ps:List Str):List Nat:=ON 32 (ps.map ls)++[10]
def afr(rs:List (List Str)):List Nat:=(rs.map adT).flatten
def tx(rs:List (List Str)):Str:=st (afr rs)
end ck
end
section
namespace ck
open D aZ PySem
structure Ow(o:qe.Op):Prop where
 a:0<=o.1/\o.1<1000000000
 b:0<=o.2.1/\o.2.1<1000000000
 z:∀x,o.2.2=some x->x.length<=100/\asc (ls x)
end ck
end
section
namespace ck
open D aZ PySem
structure i6(ps:List Str):Prop where
 ne:ps≠[]
 l:ps.length<=900000
 p:∀p∈ps,asc (ls p)/\p.length<=900000
end ck
end
section
namespace ck
open D aZ PySem
def I1{x:Str}(h:aml (.str x)=true):1<=x.length/\x.length<=4/\∀c∈ls x,97<=c/\c<=122:=by
 simp only[aml,Mb,gO,decide_eq_true_eq,List.all_eq_true] at h;exact⟨by omega,by omega,h.2⟩
def OV{x:Str}(h:aml (.str x)=true):asc (ls x):=λa av=>by
 have:=(I1 h).2.2 a av;omega
structure Pv(p:aN):Prop where
 j6:1<=p.bU.length
 z8:p.bU.length<=8
 zs:∀z∈p.bU,aml (.str z.1)=true/\z.2∈TN
 zr:vF (p.bU.map (·.1))=true
 cS:1<=p.codes.length
 zh:p.codes.length<=6
 cs:∀k∈p.codes,N5 (.str k.eI)=true/\aml (.str k.iC)=true/\k.j0.length<=3/\(∀r∈k.j0,r∈vu)/\vF k.j0=true/\0<=k.uses/\k.uses<=9
 cr:vF (p.codes.map (·.eI))=true
 t1:0<=p.leave/\p.leave<=60
 al5:0<=p.iK/\p.iK<=60
 t3:1<=p.loud/\p.loud<=300
def hd(s:Str)(ps:List Str):Bool:=decide (ps.head?=some s)
end ck
end
section
namespace ck
open D aZ PySem
end ck
end
section
namespace ck
open D aZ PySem
theorem CT:∀{ss:List Str},ss.Pairwise (λa b=>strLt a b=true)->vF ss=true
| [],_=>rfl
| [x],_=>rfl
|x::y::r,h=>by
  rw[lV] at h;simp only[vF,h.1 y (by simp),Bool.true_and];exact CT h.2
def pw_z:(jM.map (·.2)).Pairwise (λa b=>strLt a b=true):=by decide +kernel
def pw_c:(n6.map (·.2)).Pairwise (λa b=>strLt a b=true):=by decide +kernel
def pw_r:vu.Pairwise (λa b=>strLt a b=true):=by decide +kernel
def Dm{l:List Str}{f:Str->Bool}(h:l.all f=true){x:Str}(hx:x∈l):f x=true:=List.all_eq_true.mp h x hx
def aaT:(jM.map (·.2)).all (λs=>aml (.str s))=true:=by decide +kernel
def aaQ:(n6.map (·.2)).all (λs=>N5 (.str s))=true:=by decide +kernel
def aaS:uP.all (λs=>aml (.str s))=true:=by decide +kernel
def aaR:kinds.all (λs=>decide (s∈TN))=true:=by decide +kernel
def adM{p:aN}(h:dF p):Pv p:=by
 refine⟨?_,h.eK,λz aq=>⟨?_,?_⟩,CT (pw_z.sublist h.zs),?_,h.cl,λk aL=>?_,CT (pw_c.sublist h.cs),?_,?_,?_⟩
 ·have:=List.length_pos_iff.mpr h.tb;omega
 ·exact Dm aaT (h.zs.subset (c7.mpr ⟨z,aq,rfl⟩))
 ·exact of_decide_eq_true (Dm aaR (h.yJ z aq))
 ·have:=List.length_pos_iff.mpr h.pA;omega
 ·obtain⟨af,ak,bB⟩:=h.md k aL;refine⟨Dm aaQ (h.cs.subset (c7.mpr ⟨k,aL,rfl⟩)),Dm aaS af,ak.length_le,λr au=>ak.subset au,CT (pw_r.sublist ak),?_,?_⟩
  ·simp only[cm,ee,or_false] at bB;omega
  ·simp only[cm,ee,or_false] at bB;omega
 ·have:=h.mA;simp only[cm,ee,or_false] at this;omega
 ·have:=h.qX;simp only[cm,ee,or_false] at this;omega
 ·have:=h.to;simp only[cm,ee,or_false] at this;omega
end ck
end
section
namespace ck
open D aZ PySem
def acO(q:Str):Prop:=32∉ls q/\10∉ls q
structure Cl(ps:List Str):Prop where
 ne:ps≠[]
 p:∀q∈ps,acO q
end ck
end
section
namespace ck
open D aZ PySem
end ck
end
section
namespace ck
open D aZ PySem
end ck
end
section
namespace ck
open D aZ PySem
mutual
noncomputable def nb:T->Bool
|.bool _=>false
|.dict _=>false
|.tuple ts=>uC ts
|.list ts=>uC ts
|_=>true
noncomputable def uC:List T->Bool
| []=>true
|t::ts=>nb t && uC ts
end
mutual
theorem akA:∀{t u:T},nb t=true->nb u=true->je t u=true->t=u
|.none,u,_,_,h=>by cases u <;> simp[je] at h;rfl
|.bool _,_,h,_,_=>by simp[nb] at h
|.dict _,_,h,_,_=>by simp[nb] at h
|.int i,u,_,bM,h=>by
  cases u <;> simp[je] at h
  ·simp[nb] at bM
  ·rw[h]
|.str x,u,_,_,h=>by
  cases u <;> simp[je] at h
  rw[h]
|.list xs,u,aX,bM,h=>by
  cases u <;> simp only[je,nz] at h
  rw[nb] at aX bM;rw[LH aX bM h]
|.tuple xs,u,aX,bM,h=>by
  cases u <;> simp only[je,nz] at h
  rw[nb] at aX bM;rw[LH aX bM h]
theorem LH:∀{ts us:List T},uC ts=true->uC us=true->PyData.eqvAll ts us=true->ts=us
| [],[],_,_,_=>rfl
| [],_::_,_,_,h=>by simp[PyData.eqvAll] at h
|_::_,[],_,_,h=>by simp[PyData.eqvAll] at h
|t::ts,u::us,aX,bM,h=>by
  rw[uC,gO] at aX bM;rw[PyData.eqvAll,gO] at h;rw[akA aX.1 bM.1 h.1,LH aX.2 bM.2 h.2]
end
def ajZ:([34,39].all λq=>(List.range 128).all λc=>(Builtin.Str.reprChar q c).all λa=>decide (a<128))=true:=by decide +kernel
def ajY{q c:Nat}(a3:q=34\/q=39)(ax:c<128):asc (Builtin.Str.reprChar q c):=λa av=>by
 have af:=List.all_eq_true.mp ajZ q (by rcases a3 with rfl|rfl <;> simp);have ak:=List.all_eq_true.mp af c (List.mem_range.mpr ax);exact of_decide_eq_true (List.all_eq_true.mp ak a av)
def Pk(x:Str):reprQuote x=34\/reprQuote x=39:=by
 unfold reprQuote;split
 ·exact .inl rfl
 ·exact .inr rfl
theorem Sr{q:Nat}(a3:q=34\/q=39):∀(l:List Nat) (acc:Array Nat),asc l->asc acc.toList->asc (l.foldl (λout c=>out++(Builtin.Str.reprChar q c).toArray) acc).toList
| [],acc,_,h=>h
|c::l,acc,aB,h=>by
  rw[List.foldl_cons];refine Sr a3 l _ (λa av=>aB a (dn _ av)) ?_;rw[Array.toList_append];exact vD h (ajY a3 (aB c (by simp)))
def adQ{x:Str}(h:asc (ls x)):asc (ls (reprText x)):=by
 have N9:∀a∈[reprQuote x],a<128:=λa av=>by
  rw[jC.mp av];rcases Pk x with e|e <;> rw[e] <;> omega
 show asc ((x.cps.foldl (λout c=>out++(Builtin.Str.reprChar (reprQuote x) c).toArray) #[reprQuote x]).push (reprQuote x)).toList
 rw[Array.toList_push,<- Array.foldl_toList];exact vD (Sr (Pk x) _ _ h N9) N9
structure hI(B:Nat)(t:T):Prop where
 fD:t.showable=true
 a':t.hasDict=false
 as:asc (ls t.shown)
 le:t.shown.length<=B
def hI.mono{B C:Nat}{t:T}(h:hI B t)(ax:B<=C):hI C t:=⟨h.fD,h.a',h.as,jd h.le ax⟩
def aeY{i:Int}(h0:0<=i)(hw:i<r1)(aB:(qV i).length<=100):hI 2000 (.int i):=
 ⟨by
  have:=aks h0 hw;rw[PyData.showable];exact this,rfl,by rw[PyData.shown_int];exact λa av=>(by
   have:=ahk h0 a av;omega),by rw[PyData.shown_int];exact jd aB (by omega)⟩
theorem Kp:∀ts:List T,PyData.shownAll ts=ts.map PyData.shown
| []=>PyData.shownAll_nil
|t::ts=>by rw[PyData.shownAll_cons,Kp ts];rfl
theorem RB{s:Str}(aA:asc (ls s)):∀ps:List Str,(∀p∈ps,asc (ls p))->asc (ls (Str.join s ps))
| [],_=>λa av=>by cases av
| [p],h=>by rw[PyProof.Rows.join_one];exact h p (by simp)
|p::q::r,h=>by
  rw[PyProof.Rows.join_cons_cons,vL,vL];exact vD (vD (h p (by simp)) aA) (RB aA (q::r) λy a7=>h y (dn _ a7))
theorem Tn:∀{ts:List T},(∀t∈ts,t.showable=true)->PyData.showableAll ts=true
| [],_=>rfl
|t::ts,h=>by rw[PyData.showableAll,h t (by simp),Tn λu bM=>h u (dn _ bM)];rfl
theorem TK:∀{ts:List T},(∀t∈ts,t.hasDict=false)->PyData.hasDictAll ts=false
| [],_=>rfl
|t::ts,h=>by rw[PyData.hasDictAll,h t (by simp),TK λu bM=>h u (dn _ bM)];rfl
theorem Tj{B:Nat}:∀{ps:List Nat},(∀p∈ps,p<=B)->ps.sum<=ps.length*B
| [],_=>by simp
|p::ps,h=>by
  have af:=h p (by simp);have ak:=Tj λq a3=>h q (dn p a3);rw[List.sum_cons,eJ,Nat.succ_mul];omega
def pU{B n:Nat}{ts:List T}(h:∀t∈ts,hI B t)(a6:ts.length<=n):hI (n*(B+2)+4) (.tuple ts):=by
 have aO:asc (ls (", ":Str)):=ql;have b4:(", ":Str).length=2:=by decide +kernel
 have fw:asc (ls ("(":Str)):=ql;have iL:asc (ls (if ts.length==1 then ",)" else ")":String)):=by split <;> exact ql
 have w2:("(":Str).length=1:=by decide +kernel
 have AU:(Str.ofString (if ts.length==1 then ",)" else ")":String)).length<=2:=by split <;> decide +kernel
 have bR:=StrLaws.join_length_le ", " (ts.map PyData.shown);rw[b4,e1,q4] at bR;have aA:=Tj (ps:=ts.map (Str.length ∘ PyData.shown)) (B:=B) λp aC=>by
  obtain⟨t,aX,rfl⟩:=c7.mp aC;exact (h t aX).le
 rw[e1] at aA;have hm:ts.length*(B+2)<=n*(B+2):=Nat.mul_le_mul_right _ a6;rw[Nat.mul_add] at hm;refine⟨by rw[PyData.showable];exact Tn λt aX=>(h t aX).fD,by rw[PyData.hasDict];exact TK λt aX=>(h t aX).a',?_,?_⟩
 ·rw[PyData.shown_tuple,Kp,vL,vL];refine vD (vD fw (RB aO _ λp aC=>?_)) iL;obtain⟨t,aX,rfl⟩:=c7.mp aC;exact (h t aX).as
 ·rw[PyData.shown_tuple,Kp,yE,vL,vL,mD,mD,<- yE,<- yE,<- yE];have:(List.map (Str.length ∘ PyData.shown) ts).sum<=ts.length*B:=aA;have alA:(Str.join ", " (List.map PyData.shown ts)).length<=(List.map (Str.length ∘ PyData.shown) ts).sum+ts.length*2:=bR;omega
end ck
end
section
namespace Ms
open D aZ h2
open PySem hiding run fresh code
local instance:cJ:=⟨[],λ_=>[],λ_=>none⟩
def hR(x:Str):Prop:=ck.asc (ck.ls x)/\x.length<=10
def fX(x:Str)(af:((ck.ls x).all λc=>decide (c<128))=true:=by decide +kernel)(ak:x.length<=10:=by decide +kernel):hR x:=⟨ck.ql af,ak⟩
structure r0(p:aN):Prop where
 z:∀{x:Str},x∈p.bU.map (·.1)->hR x
 w:∀k∈p.codes,hR k.iC
def yK{p:aN}(aC:dF p):r0 p:=by
 have br:=ck.adM aC;refine⟨λ{x} hx=>?_,λk aL=>?_⟩
 ·obtain⟨z,aq,rfl⟩:=c7.mp hx;have:=(br.zs z aq).1;exact⟨ck.OV this,by have:=(ck.I1 this).2.1;omega⟩
 ·have:=(br.cs k aL).2.1;exact⟨ck.OV this,by have:=(ck.I1 this).2.1;omega⟩
structure cn(b:Int)(c:aK):Prop where
 lL:0<=c.past
 to:∀w∈c.told,(0<=w.1/\w.1<=c.past)/\hR w.2.1/\∀n,w.2.2=some n->hR n
 ln:∀l∈c.lines,hR l.2
 us:∀u∈c.used,0<=u.2/\u.2<=b
section
variable {p:aN}{b:Int}{c bW:aK}
def cn.of(h:cn b c)(af:bW.past=c.past)(ak:bW.told=c.told)(bB:bW.lines=c.lines)(c1:bW.used=c.used):cn b bW:=⟨by rw[af];exact h.lL,by rw[af,ak];exact h.to,by rw[bB];exact h.ln,by rw[c1];exact h.us⟩
theorem cn.tell(h:cn b c){w:Str}{n:Option Str}(hw:hR w)(a6:∀x,n=some x->hR x):cn b (aZ.tell w n c):=by
 refine⟨h.lL,λx hx=>?_,h.ln,h.us⟩
 rcases jD.mp (show x∈c.told++[(c.past,w,n)] from hx) with q|q
 ·exact h.to x q
 ·simp at q;subst q;exact⟨⟨h.lL,Int.le_refl _⟩,hw,a6⟩
theorem cn.dk(h:cn b c){z:Str}(aq:hR z):cn b (aZ.dk p z c):=by
 unfold aZ.dk;split
 ·exact h.of rfl rfl rfl rfl
 ·exact cn.tell (c:={jo p c with cp:=c.cp++[z]}) (h.of rfl rfl rfl rfl) (fX "alarm") λx e=>ef e▸aq
theorem cn.cp:∀{zs:List Str} {c:aK},cn b c->(∀z∈zs,hR z)->cn b (aZ.cp p zs c)
| [],_,h,_=>h
|z::zs,c,h,aq=>cn.cp (zs:=zs) (h.dk (aq z fb)) λy a7=>aq y (dn _ a7)
theorem cn.g8(h:cn b c){z k:Str}(aq:hR z):cn b (aZ.g8 p z k c):=by
 unfold aZ.g8;split
 ·exact h.dk aq
 ·exact cn.tell (c:={c with mode:="coming",left:=p.iK,e7:=some z}) (h.of rfl rfl rfl rfl) (fX "coming") λx e=>ef e▸aq
theorem cn.hq(h:cn b c){z w:Str}(aq:hR z):cn b (aZ.hq p z w c):=by
 unfold aZ.hq
 repeat' split
 all_goals first|exact h.dk aq|exact h.tell (fX "fault") λx e=>ef e▸aq|exact h.g8 aq|exact h
theorem cn.line(h:cn b c){z w:Str}(aq:hR z)(hw:hR w):cn b (aZ.line p z w c):=by
 have h':cn b {c with lines:=kq c.lines z w}:=⟨h.lL,h.to,λl aB=>by
  obtain⟨y,a7,rfl⟩:=c7.mp (show l∈c.lines.map λp=>if p.1=z then (z,w) else p from aB);split
  ·exact hw
  ·exact h.ln y a7,h.us⟩
 unfold aZ.line
 repeat' split
 all_goals first|exact h|exact h'|exact h'.tell (fX "mended") λx e=>ef e▸aq|exact h'.hq aq
theorem cn.gq(a3:r0 p)(h:cn b c):cn b (aZ.gq p c):=
 cn.cp (cn.tell (c:={c with mode:="on",left:=0}) (h.of rfl rfl rfl rfl) (fX "on") λx e=>(nomatch e)) λz aq=>a3.z (vq aq)
theorem cn.fg(a3:r0 p)(h:cn b c)(hw:a0 p c)(hm:rx c):cn b (aZ.fg p c):=by
 unfold aZ.fg;split
 ·exact h.gq a3
 next q=>
  obtain⟨z,aq⟩:=Option.ne_none_iff_exists'.mp (hw.iu (hm.resolve_left q));unfold aZ.lD;rw[aq];exact cn.dk (c:={c with mode:="on",e7:=none}) (h.of rfl rfl rfl rfl) (a3.z (hw.ca z aq).2)
def cn.cd(h:cn b c){n:Int}(a6:0<=n):cn b (j7 n c):=by
 have aC:=h.lL;refine⟨show 0<=c.past+n by omega,λw hw=>?_,h.ln,h.us⟩;have:=h.to w hw;exact⟨⟨this.1.1,show w.1<=c.past+n by omega⟩,this.2⟩
theorem cn.dx(a3:r0 p)(h:cn b c)(hw:a0 p c)(eP:cL c)(n:Int):cn b (aZ.dx p n c):=by
 unfold aZ.dx;split
 ·exact h
 ·split
  next q=>
   have aB:=eP.t1 q.1;exact cn.cd (cn.fg (c:=j7 c.left c) a3 (h.cd (by omega)) (hw.cd _) q.1) (by omega)
  ·exact h.cd (by omega)
theorem cn.fV(h:cn b c):cn b (aZ.fV p c):=by
 have af:cn b (lS c):=(cn.tell (n:=none) h (fX "wrong") λx e=>(by cases e)).of rfl rfl rfl rfl;unfold aZ.fV;split
 ·exact cn.tell (c:=jo p {lS c with tries:=0,locked:=90}) (af.of rfl rfl rfl rfl) (fX "attack") λx e=>(nomatch e)
 ·exact af
def ahY(a3:r0 p){k:hk}(aL:k∈p.codes){d:Str}{z:Option Str}{x:Str×Str}(h:kP p k d z c=some x):hR x.1/\hR x.2:=by
 have wO:=a3.w k aL;unfold kP at h;by_cases af:(if d="free" then ("shunt":Str) else d)∈k.j0
 ·rw[if_neg (λq=>q af)] at h;split at h
  ·cases h
   exact⟨fX "no",wO⟩
  ·split at h
   next q=>
    cases h
    refine⟨fX "open",?_⟩
    have U:=q.2;cases e:bare p ["day","once"] c with
    |nil=>exact absurd e U
    |cons b bs=>
     have:b∈bare p ["day","once"] c:=by rw[e];simp
     simpa using a3.z (vq this)
   ·cases h
 ·rw[if_pos af] at h;cases h;exact⟨fX "denied",wO⟩
theorem cn.eV(a3:r0 p)(h:cn b c)(hw:a0 p c){w d:Str}{z:Option Str}(how:hR w)(aq:w' p d z c):cn b (aZ.eV p w d z c):=by
 rcases aq with rfl|rfl|⟨rfl,x,rfl,hx⟩|⟨rfl,x,rfl,hx⟩
 ·simp only[aZ.eV,if_true];have h':cn b (aZ.tell "set" (some w) {c with cp:=[],dw:=0,mode:="leaving",left:=p.leave}):=cn.tell (c:={c with cp:=[],dw:=0,mode:="leaving",left:=p.leave}) (h.of rfl rfl rfl rfl) (fX "set") λx e=>ef e▸how;show cn b (if p.leave<=0 then aZ.gq p (aZ.tell "set" (some w) {c with cp:=[],dw:=0,mode:="leaving",left:=p.leave}) else aZ.tell "set" (some w) {c with cp:=[],dw:=0,mode:="leaving",left:=p.leave});split
  ·exact h'.gq a3
  ·exact h'
 ·simp only[aZ.eV,if_neg x1,if_true];exact cn.tell (c:={c with mode:="off",left:=0,dw:=0,e7:=none,c_:=[]}) (h.of rfl rfl rfl rfl) (fX "unset") λx e=>ef e▸how
 ·simp only[aZ.eV,if_neg x2,if_neg vc,if_true];exact cn.tell (c:={c with c_:=jJ (c.c_++[x])}) (h.of rfl rfl rfl rfl) (fX "shunt") λy e=>ef e▸a3.z hx
 ·simp only[aZ.eV,if_neg x8,if_neg ve,if_neg vf];exact cn.tell (c:={c with c_:=c.c_.erase x}) (h.of rfl rfl rfl rfl) (fX "free") λy e=>ef e▸a3.z (hw.fD.2 x hx)
def cn.up(h:cn b c):cn (b+1) c:=⟨h.lL,h.to,h.ln,λu bM=>by have:=h.us u bM;omega⟩
def cn.add(h:cn b c)(f:Str):cn (b+1) {c with used:=n1 c.used f}:=⟨h.lL,h.to,h.ln,λu bM=>by
 obtain⟨y,a7,rfl⟩:=c7.mp (show u∈c.used.map λp=>if p.1=f then (f,p.2+1) else p from bM);have:=h.us y a7;split
 ·show 0<=y.2+1/\y.2+1<=b+1
  omega
 ·omega⟩
theorem cn.e_(a3:r0 p)(h:cn b c)(hw:a0 p c)(eP:cL c){e:cV}(he:gw p e):cn (b+1) (aZ.e_ p c e):=by
 cases e with
|line z w=>
  refine (cn.line h (a3.z he.1) ?_).up
  rcases he.2 with rfl|rfl|rfl
  ·exact fX _
  ·exact fX _
  ·exact fX _
|dx n=>exact (h.dx a3 hw eP n).up
|code f d z=>
  show cn (b+1) (aZ.code p f d z c)
  unfold aZ.code;split
  ·exact (cn.tell (n:=none) h (fX "locked") λx e=>(by cases e)).up
  ·split
   ·exact h.fV.up
   next k eW=>
    have aL:=KR eW;split
    ·exact h.fV.up
    ·have uO:=hw.xr 0;have h0:cn b {c with tries:=0}:=h.of rfl rfl rfl rfl;unfold aZ.takeRight;split
     next b'=>exact cn.eV (c:={c with tries:=0,used:=n1 c.used k.eI}) a3 ((h.add k.eI).of rfl rfl rfl rfl) (uO.add k.eI) (a3.w k aL) (Di he.2.1 he.2.2 b')
     next b'=>
      have:=ahY a3 aL b';exact (h0.tell this.1 λx e=>ef e▸this.2).up
theorem cn.fresh(h:cn b c):cn b (aZ.fresh c):=⟨Int.le_refl _,λw hw=>(by cases hw),h.ln,h.us⟩
def cn.begun(p:aN):cn 0 (eS p):=⟨Int.le_refl _,λw hw=>(by cases hw),λl aB=>(by
 obtain⟨z,_,rfl⟩:=c7.mp (show l∈p.bU.map λz=>(z.1,("shut":Str)) from aB);exact fX "shut"),λu bM=>(by
 obtain⟨k,_,rfl⟩:=c7.mp (show u∈p.codes.map λk=>(k.eI,(0:Int)) from bM);exact⟨Int.le_refl _,Int.le_refl _⟩)⟩
end
theorem cn.run{p:aN}(aC:dF p):∀{es:List cV} {c:aK} {b:Int},cn b c->a0 p c->cL c->(∀e∈es,gw p e)->cn (b+es.length) (aZ.run p c es)
| [],c,b,h,_,_,_=>by
  simp only[lg,Int.natCast_zero,Int.add_zero];exact h
|e::es,c,b,h,hw,eP,he=>by
  have:=cn.run aC (es:=es) (h.e_ (yK aC) hw eP (he e fb)) (hw.e_ (he e fb)) (eP.e_ aC e) λy a7=>he y (dn _ a7);have aO:b+((e::es).length:Int)=b+1+(es.length:Int):=by simp only[eJ];omega
  rw[aO];exact this
theorem cL.ends{p:aN}(aC:dF p):∀{es:List cV} {c:aK},cL c->cL (hK p c es)
| [],_,h=>h
|e::es,c,h=>cL.ends aC (es:=es) (h.fresh.e_ aC e)
theorem cn.ends{p:aN}(aC:dF p):∀{es:List cV} {c:aK} {b:Int},cn b c->a0 p c->cL c->(∀e∈es,gw p e)->cn (b+es.length) (hK p c es)
| [],c,b,h,_,_,_=>by
  simp only[lg,Int.natCast_zero,Int.add_zero];exact h
|e::es,c,b,h,hw,eP,he=>by
  have:=cn.ends aC (es:=es) (h.fresh.e_ (yK aC) hw.fresh eP.fresh (he e fb)) (TF hw (he e fb)) (eP.fresh.e_ aC e) λy a7=>he y (dn _ a7);have aO:b+((e::es).length:Int)=b+1+(es.length:Int):=by simp only[eJ];omega
  rw[aO];exact this
def ku{x:Str}(h:hR x):ck.hI 150 (.str x):=
 ⟨rfl,rfl,by rw[PyData.shown_str];exact ck.adQ h.1,by
  rw[PyData.shown_str];have:=StrLaws.reprText_len x λc ax=>by
   have:=h.1 c ax;omega
  have:=h.2;omega⟩
def aeZ:ck.hI 150 .none:=⟨rfl,rfl,by rw[PyData.shown_none];exact ck.ql,by rw[PyData.shown_none];decide +kernel⟩
def Md{x:Option Str}(h:∀z,x=some z->hR z):ck.hI 150 (eb x):=by
 cases x with
|none=>exact aeZ
|some z=>exact ku (h z rfl)
def TY{i:Int}(h:i<=1000000000000):i<ck.r1:=Int.lt_of_le_of_lt h (by decide +kernel)
def sY{i:Int}(h0:0<=i)(h:i<=1000000000000):ck.hI 150 (.int i):=by
 have aB:=(ck.aeW h0 (TY h)).1;have:=ck.aeY h0 (TY h) (by omega);refine⟨this.fD,this.a',this.as,?_⟩;rw[PyData.shown_int];exact jd aB (by omega)
def aeX{b:Bool}:ck.hI 150 (.bool b):=by
 cases b
 ·exact⟨rfl,rfl,ck.ql,by decide +kernel⟩
 ·exact⟨rfl,rfl,ck.ql,by decide +kernel⟩
def ah5{p:aN}{c:aK}{b:Int}(aC:dF p)(hw:a0 p c)(eP:cL c)(aA:cn b c)(U:b<=1000):ck.hI 62000 (d2 c):=by
 have a3:=yK aC;have eK:=aC.eK;have O5:(p.bU.map (·.1)).length<=8:=by rw[e1];exact eK
 have ln:c.lines.length<=40:=by
  have:=congrArg List.length hw.ln;rw[e1,e1] at this;omega
 have ul:c.used.length<=40:=by
  have:=congrArg List.length hw.us;rw[e1,e1] at this;have:=aC.cl;omega
 have sub:∀{l:List Str},l.Nodup->(∀z∈l,z∈p.bU.map (·.1))->l.length<=40:=λn h=>jd (n.length_le_of_subset λx hx=>h x hx) (by omega);have lf:0<=c.left/\c.left<=60:=by
  by_cases t:rx c
  ·have:=eP.t1 t;omega
  ·rw[eP.t0 t];omega
 have k6:=eP.k6;have lo:=eP.lo;have iz:=eP.iz;have big:∀{ts:List T},(∀t∈ts,ck.hI 150 t)->ts.length<=40->ck.hI 6100 (.tuple ts):=λh aB=>(ck.pU (B:=150) (n:=40) h aB).mono (by omega);refine (ck.pU (B:=6100) (n:=10) (λt aX=>?_) (by simp[d2])).mono (by omega);simp only[cm,ee,or_false] at aX;rcases aX with rfl|rfl|rfl|rfl|rfl|rfl|rfl|rfl|rfl|rfl
 ·refine (ku ?_).mono (by omega)
  rcases eP.dq with e|e|e|e <;> rw[e] <;> exact fX _
 ·exact (sY lf.1 (by omega)).mono (by omega)
 ·exact (Md λz aq=>a3.z (hw.ca z aq).2).mono (by omega)
 ·refine big (λt aX=>?_) (by rw[e1];exact ln)
  obtain⟨l,aB,rfl⟩:=c7.mp aX;exact ku (aA.ln l aB)
 ·refine big (λt aX=>?_) (by rw[e1];exact sub hw.fD.1 hw.fD.2)
  obtain⟨l,aB,rfl⟩:=c7.mp aX;exact ku (a3.z (hw.fD.2 l aB))
 ·exact (sY k6.1 (by omega)).mono (by omega)
 ·refine big (λt aX=>?_) (by rw[e1];exact sub hw.al.1 hw.al.2)
  obtain⟨l,aB,rfl⟩:=c7.mp aX;exact ku (a3.z (hw.al.2 l aB))
 ·exact (sY iz.1 (by omega)).mono (by omega)
 ·exact (sY lo.1 (by omega)).mono (by omega)
 ·refine big (λt aX=>?_) (by rw[e1];exact ul)
  obtain⟨u,bM,rfl⟩:=c7.mp aX;have:=aA.us u bM;exact sY this.1 (by omega)
def aiX{c:aK}{b:Int}(aA:cn b c)(aC:c.past<=1000000000000)(aB:c.told.length<=500):ck.hI 232000 (.tuple (c.told.map kh)):=by
 refine (ck.pU (B:=460) (n:=500) (λt aX=>?_) (by rw[e1];exact aB)).mono (by omega)
 obtain⟨w,hw,rfl⟩:=c7.mp aX;have:=aA.to w hw;refine (ck.pU (B:=150) (n:=3) (λt aX=>?_) (by simp[kh])).mono (by omega);simp only[cm,ee,or_false] at aX;rcases aX with rfl|rfl|rfl
 ·exact sY this.1.1 (by omega)
 ·exact ku this.2.1
 ·exact Md this.2.2
end Ms
end
section
namespace pf
open D aZ h2 tR Ms
open PySem hiding run fresh code
local instance:cJ:=⟨[],λ_=>[],λ_=>none⟩
noncomputable def zb(p:aN)(es:List cV)(pre:List aK)(c:aK):T:=.tuple [d2 c,.tuple [.str c.mode,.bool (decide (c.dw > 0)),.tuple ((nG p c).map .str)],.tuple ((run p (fresh (oe pre c)) es).told.map kh),.tuple (es.map de)]
section
variable {p:aN}
def asked(wp:Wp p){es:List cV}{pre:List aK}{c:aK}(hw:a0 p c)(cM:a0 p (oe pre c))(he:∀e∈es,gw p e)(aB:es.length<=1000):gg [.obj .cI 1 (bX p es pre c)]=some (zb p es pre c):=by
 have af:dm 1 0 [some (.obj .cI 1 (bX p es pre c))]=some (.cI,bX p es pre c):=by simp[dm]
 have hO:∀d:List aJ->Option T,eu 1 d 0 [] [some (.obj .cI 1 (bX p es pre c))]=d [.obj .cI 1 (bX p es pre c)]:=λd=>by
  simp only[eu,af,c0,args,gZ]
 have s7:(4:Nat)<=big:=by unfold big;omega
 have m:cb [(eu 1 l0 0 []),(eu 1 tn 0 []),(eu 1 tu 0 []),(eu 1 p6 0 [])] [some (.obj .cI 1 (bX p es pre c))]=some (zb p es pre c):=by
  simp only[cb,args,hO,RP,ahX hw,ajK wp cM he aB,S7 (show es.length<10000 by omega),c0,e3,eJ,lg];rw[if_pos s7];rfl
 show Option.bind (cy (cb [(eu 1 l0 0 []),(eu 1 tn 0 []),(eu 1 tu 0 []),(eu 1 p6 0 [])]) [some (.obj .cI 1 (bX p es pre c))]) _=_
 unfold cy;rw[m];rfl
def ajn{es:List cV}{pre:List aK}{c:aK}(hw:a0 p c)(cM:a0 p (oe pre c))(he:∀e∈es,w_ p e):okN 3 (zb p es pre c):=iZ λx hx=>by
 simp only[cm,ee,or_false] at hx;rcases hx with rfl|rfl|rfl|rfl
 ·exact aiv hw
 ·exact ahz 0 hw _
 ·exact ait (cT.run (cT.fresh _) cM.fresh λe h=>(he e h).1)
 ·exact iZ λx hx=>by
   obtain⟨e,h,rfl⟩:=c7.mp hx;exact akq hw.zn (he e h)
abbrev ey(p:aN)(xs:List cV):List aJ:=bX p xs (h2.chain p (eS p) xs) (hK p (eS p) xs)
def LM(xs:List cV)(e:cV):bX p (xs++[e]) (h2.chain p (eS p) xs++[hK p (eS p) xs]) (fB p (hK p (eS p) xs) e)=ey p (xs++[e]):=by
 unfold ey;rw[h2.NP,h2.YV];rfl
def A(p:aN)(xs:List cV):T:=zb p xs (h2.chain p (eS p) xs) (hK p (eS p) xs)
end
structure i6(p:aN)(xs:List cV):Prop where
 d:∀e∈xs,ka p e
 l:xs.length<=10
section
variable {p:aN}{xs:List cV}
theorem i6.ok(h:i6 p xs):∀e∈xs,gw p e:=λe he=>(h.d e he).ok
def i6.b(h:i6 p xs):∀e∈xs,w_ p e:=λe he=>TV (h.d e he)
def i6.wf(aC:dF p)(h:i6 p xs):a0 p (hK p (eS p) xs):=L7 aC.begun h.ok
def i6.he(aC:dF p):a0 p (oe (h2.chain p (eS p) xs) (hK p (eS p) xs)):=by
 rw[So];exact aC.begun
def vO(aC:dF p)(h:i6 p xs):gg [.obj .cI 1 (ey p xs)]=some (A p xs):=asked aC.wp (h.wf aC) (i6.he aC) h.ok (by have:=h.l;omega)
def Dl(aC:dF p)(h:i6 p xs):okN 3 (A p xs):=ajn (h.wf aC) (i6.he aC) h.b
def cr{ε:Ev}{i:Nat}{os:List aJ}(d:List aJ->Option T)(h:ε[i]?=some (some (.obj .own 1 os))):hE d [.o i] ε=d [.obj .cI 1 os]:=by
 simp[hE,al2,A9,h,uH]
theorem R':∀{xs:List cV},(∀e∈xs,ka p e)->spent xs<=1000000000*xs.length
| [],_=>by simp[spent]
|e::xs,h=>by
  have b8:=R' (xs:=xs) λy a7=>h y (dn _ a7);have af:=h e (by simp);cases e with
  |dx n=>
   have:=af.2;simp only[spent,eJ];omega
  |line z w=>simp only[spent,eJ];omega
  |code f d z=>simp only[spent,eJ];omega
def ald{f:Str}(h:f∈al'):hR f:=by
 have all:(al'.all λx=>((ck.ls x).all λc=>decide (c<128)) && decide (x.length<=10))=true:=by decide +kernel
 have:=List.all_eq_true.mp all f h;rw[gO] at this;exact⟨ck.ql this.1,of_decide_eq_true this.2⟩
def akT(aC:dF p){e:cV}(h:ka p e):ck.hI 620 (de e):=by
 have a3:=yK aC;have JJ:∀{ts:List T},(∀t∈ts,ck.hI 150 t)->ts.length<=4->ck.hI 620 (.tuple ts):=λh aB=>(ck.pU (B:=150) (n:=4) h aB).mono (by omega);cases e with
|line z w=>
  refine JJ (λt aX=>?_) (by simp)
  simp only[cm,ee,or_false] at aX;rcases aX with rfl|rfl|rfl
  ·exact ku (fX _)
  ·exact ku (a3.z h.1)
  ·have hw:=h.2;simp only[cm,ee,or_false] at hw;rcases hw with rfl|rfl|rfl|rfl <;> exact ku (fX _)
|dx n=>
  refine JJ (λt aX=>?_) (by simp)
  simp only[cm,ee,or_false] at aX;have af:=h.1;have ak:=h.2;rcases aX with rfl|rfl
  ·exact ku (fX _)
  ·exact sY (by omega) (by omega)
|code f d z=>
  obtain⟨hf,hd⟩:=h;refine JJ (λt aX=>?_) (by simp);simp only[cm,ee,or_false] at aX;have Oi:hR d/\∀x,z=some x->hR x:=by
   rcases hd with ⟨rfl|rfl,rfl⟩|⟨rfl|rfl,x,rfl,hx⟩
   ·exact⟨fX _,λx e=>by cases e⟩
   ·exact⟨fX _,λx e=>by cases e⟩
   ·exact⟨fX _,λy e=>by cases e;exact a3.z hx⟩
   ·exact⟨fX _,λy e=>by cases e;exact a3.z hx⟩
  rcases aX with rfl|rfl|rfl|rfl
  ·exact ku (fX _)
  ·exact ku (ald hf)
  ·exact ku Oi.1
  ·exact Md Oi.2
def aia{c:aK}{x:Str}(h:x∈nG p c):x∈p.bU.map (·.1):=by
 obtain⟨y,a7,rfl⟩:=c7.mp h;exact c7.mpr ⟨y.1,(List.of_mem_zip (List.mem_filter.mp a7).1).1,rfl⟩
def aib{c:aK}:(nG p c).length<=p.bU.length:=by
 unfold nG;rw[e1];exact jd (xA _ _) (by rw[List.length_zip];omega)
def ajS(aC:dF p)(h:i6 p xs):ck.hI 1000000 (A p xs):=by
 have aB:=h.l;have eP:cL (hK p (eS p) xs):=cL.ends aC (cL.begun p);have sg:=cn.ends aC (es:=xs) (cn.begun p) aC.begun (cL.begun p) h.ok;have aA:=ah5 aC (h.wf aC) eP sg (by omega);have a3:=yK aC;have sr:=cn.run aC (es:=xs) (cn.begun p).fresh aC.begun.fresh (cL.begun p).fresh h.ok;have lL:=Sd p xs (fresh (eS p)) h.ok;have sp:=R' h.d;have mA:=CS (p:=p) (es:=xs) (c:=fresh (eS p)) aC.begun.fresh h.ok;have _b:ck.hI 232000 (.tuple ((run p (fresh (eS p)) xs).told.map kh)):=aiX sr (by
  rw[lL];show (0:Int)+spent xs<=_;omega) (by
  have:(fresh (eS p)).told.length=0:=rfl;omega)
 have eK:=aC.eK;refine (ck.pU (B:=232000) (n:=4) (λt aX=>?_) (by simp)).mono (by omega);simp only[cm,ee,or_false] at aX;rcases aX with rfl|rfl|rfl|rfl
 ·exact aA.mono (by omega)
 ·refine (ck.pU (B:=7000) (n:=3) (λt aX=>?_) (by simp)).mono (by omega)
  simp only[cm,ee,or_false] at aX;rcases aX with rfl|rfl|rfl
  ·refine (ku ?_).mono (by omega)
   rcases eP.dq with e|e|e|e <;> rw[e] <;> exact fX _
  ·exact aeX.mono (by omega)
  ·refine (ck.pU (B:=150) (n:=40) (λt aX=>?_) ?_).mono (by omega)
   ·obtain⟨x,hx,rfl⟩:=c7.mp aX;exact ku (a3.z (aia hx))
   ·rw[e1];exact jd aib (by omega)
 ·rw[So];exact _b
 ·refine (ck.pU (B:=620) (n:=10) (λt aX=>?_) (by rw[e1];exact aB)).mono (by omega)
  obtain⟨e,he,rfl⟩:=c7.mp aX;exact akT aC (h.d e he)
def ak'(aF:∀x∈p.bU,bT x.1/\bT x.2){z:Str}(aq:z∈p.bU.map (·.1)):vn [.ae (cv p),.ae (.str z)]=false:=by
 obtain⟨y,a7,rfl⟩:=c7.mp aq;have x:=K5 (aF y a7).1 (some (.ae (cv p))) p.bU none (λy a7=>(aF y a7).1) aq;show x7 [some (.ae (cv p)),some (.ae (.str y.1)),none]=false;unfold x7 amu;have it:fl (ao a4 (nm 0) (ah (.int 0))) [some (.ae (cv p)),some (.ae (.str y.1)),none]=some (p.bU.map dW):=by
  simp! [hU,cv]
 unfold gR;rw[it];simp only[c0];rw[x]
def ajq(aF:∀x∈p.bU,bT x.1/\bT x.2){z:Str}(aq:z∈p.bU.map (·.1)){es:List cV}{pre:List aK}{c:aK}:oO [.obj .cI 1 (bX p es pre c),.ae (.str z)]=false:=by
 show xM [some (.obj .cI 1 (bX p es pre c)),some (.ae (.str z))]=false
 unfold xM yT;have a:al2 [.v (e8 1 0 0),.v (aS 1)] [some (.obj .cI 1 (bX p es pre c)),some (.ae (.str z))]=some [.ae (cv p),.ae (.str z)]:=rfl;rw[a];exact ak' aF aq
def SP(aF:∀x∈p.bU,bT x.1/\bT x.2){z:Str}(aq:z∈p.bU.map (·.1)){es:List cV}{pre:List aK}{c:aK}{dq:gm}{ε:Ev}{i:Nat}(bc:ε[i]?=some (some (.obj dq 1 (bX p es pre c)))){f:bz}(hf:f ε=some (.str z)):jK 1 oO i [f] ε=false:=by
 have af:dm 1 i ε=some (dq,bX p es pre c):=by simp[dm,bc]
 simp only[jK,af,args,hf,c0,e3,dh,gZ,ajq aF aq]
def ajr(aF:∀x∈p.bU,bT x.1/\bT x.2){z:Str}(w:Str)(aq:z∈p.bU.map (·.1)){es:List cV}{pre:List aK}{c:aK}:vk [.obj .cI 1 (bX p es pre c),.ae (.str z),.ae (.str w)]=false:=by
 show Kz [some (.obj .cI 1 (bX p es pre c)),some (.ae (.str z)),some (.ae (.str w))]=false
 exact SP aF aq (i:=0) rfl rfl
def ajG(aF:∀x∈p.bU,bT x.1/\bT x.2){f d:Str}{z:Option Str}(h:ka p (.code f d z)){es:List cV}{pre:List aK}{c:aK}:Cw [.obj .cI 1 (bX p es pre c),.ae (.str f),.ae (.str d),.ae (eb z)]=false:=by
 show KA [some (.obj .cI 1 (bX p es pre c)),some (.ae (.str f)),some (.ae (.str d)),some (.ae (eb z))]=false
 unfold KA uA;rcases h.2 with ⟨hd,rfl⟩|⟨hd,x,rfl,hx⟩
 ·have t:e' (bC (dX g5 (nm 3))) (bC (ao (fK false) (nm 2) (ah (.tuple (hZ ["shunt","free"]))))) [some (.obj .cI 1 (bX p es pre c)),some (.ae (.str f)),some (.ae (.str d)),some (.ae (eb none))]=some false:=by
   have Ba:∀d:Str,bT d->d≠"shunt"->d≠"free"->ao (fK false) (nm 2) (ah (.tuple (hZ ["shunt","free"]))) [some (.obj .cI 1 (bX p es pre c)),some (.ae (.str f)),some (.ae (.str d)),some (.ae (eb none))]=some (.bool false):=λd h0 af ak=>by
    have:=vo false (n:=d) (ns:=["shunt","free"]) h0 (λx hx=>by
     simp only[cm,ee,or_false] at hx;rcases hx with rfl|rfl <;> exact bf _)
    refine ll (x:=.str d) (y:=.tuple ((["shunt","free"]:List Str).map .str)) rfl rfl (this.trans ?_)
    simp[af,ak]
   have a1:bC (dX g5 (nm 3)) [some (.obj .cI 1 (bX p es pre c)),some (.ae (.str f)),some (.ae (.str d)),some (.ae (eb none))]=some false:=rfl;unfold e';rw[a1];refine vE (Ba d ?_ ?_ ?_)
   ·rcases hd with rfl|rfl <;> exact bf _
   ·rcases hd with rfl|rfl <;> decide +kernel
   ·rcases hd with rfl|rfl <;> decide +kernel
  rw[t];rfl
 ·have t:e' (bC (dX g5 (nm 3))) (bC (ao (fK false) (nm 2) (ah (.tuple (hZ ["shunt","free"]))))) [some (.obj .cI 1 (bX p es pre c)),some (.ae (.str f)),some (.ae (.str d)),some (.ae (eb (some x)))]=some true:=rfl;rw[t];exact SP aF hx (i:=0) rfl rfl
def Ma{F:g6}{r:f3}{ε ε':Ev}{t:T}(au:r ε=false)(wx:F ε=some (t,ε')):mO F r ε=some (.tuple [.str "told",t],ε'):=by
 unfold mO Ds;rw[au,if_neg (by simp),wx];rfl
def Tg{F:g6}{r:f3}{ε:Ev}(au:r ε=true):mO F r ε=some (.tuple [.str "refused",.none],ε):=by
 unfold mO;rw[au,if_pos rfl]
def yA{c:eT}{f:g6}{g:bA}{ε ε':Ev}{t:T}(ax:c ε=some true)(hf:f ε=some (t,ε')):seq (iff c (ik f) skip) g ε=some (.ij t ε'):=by
 simp only[seq,iff,ax,c0,if_true,ik,hf,e3]
def kL(p:aN)(xs:List cV)(m:Int)(s:Option aJ):Ev:=[some (.obj .b_ 1 (ey p xs)),some (.ae (.int m)),some (.ae (cv p)),s]
def amF{m:Int}{E':Ev}{t:T}{ys:List cV}(h:tm (kL p xs m none)=some (.ij t E'))(ak:E'[0]?=some (some (.obj .b_ 1 (ey p ys)))):al4 [.obj .b_ 1 (ey p xs),.ae (.int m),.ae (cv p)]=some (t,ey p ys):=by
 unfold al4 runM;show Option.bind (tm (kL p xs m none)) _=_;rw[h];simp[ji,ak]
def Iv{ε:Ev}{os os':List aJ}{ar:List bz}{ts:List T}{t:T}{d:List aJ->Option (T×List aJ)}(h:ε[0]?=some (some (.obj .b_ 1 os)))(av:args ar ε=some ts)(hd:d (.obj .b_ 1 os::ts.map .ae)=some (t,os')):cZ 1 d 0 ar ε=some (t,ε.set 0 (some (.obj .b_ 1 os'))):=by
 have af:dm 1 0 ε=some (.b_,os):=by simp[dm,h]
 simp only[cZ,af,c0,if_neg (show ¬gm.b_=gm.cI by decide),av,hd,e3]
def A1{ε:Ev}{os:List aJ}{ar:List bz}{ts:List T}{r:List aJ->Bool}(h:ε[0]?=some (some (.obj .b_ 1 os)))(av:args ar ε=some ts):jK 1 r 0 ar ε=r (.obj .cI 1 os::ts.map .ae):=by
 have af:dm 1 0 ε=some (.b_,os):=by simp[dm,h]
 simp only[jK,af,av]
def ahy{c:aK}(h:cT c):okN 3 (.tuple [.str "told",.tuple (c.told.map jj)]):=iZ λx hx=>by
 simp only[cm,ee,or_false] at hx;rcases hx with rfl|rfl
 ·exact i0 _ (bf "told")
 ·exact ahx h
def SO:okN 3 (.tuple [.str "refused",.none]):=iZ λx hx=>by
 simp only[cm,ee,or_false] at hx;rcases hx with rfl|rfl
 ·exact i0 _ (bf "refused")
 ·exact⟨rfl,by rw[lb];omega⟩
def akp:okN 3 (.tuple [.str "told",.none]):=iZ λx hx=>by
 simp only[cm,ee,or_false] at hx;rcases hx with rfl|rfl
 ·exact i0 _ (bf "told")
 ·exact⟨rfl,by rw[lb];omega⟩
def YP(aC:dF p)(h:∀e∈xs,ka p e)(aB:xs.length<=100)(m:Int):∃t ys,al4 [.obj .b_ 1 (ey p xs),.ae (.int m),.ae (cv p)]=some (t,ey p ys)/\(∀e∈ys,ka p e)/\ys.length<=xs.length+1/\okN 3 t/\((t=.tuple [.str "refused",.none]/\ys=xs)\/∃u,t=.tuple [.str "told",u]):=by
 obtain⟨r,au,jy,sR,y7⟩:=modQ m 7;obtain⟨q,a3,y8⟩:=divQ m 8;have ww:a0 p (hK p (eS p) xs):=L7 aC.begun λe he=>(h e he).ok;have cl:=RM p xs (eS p);have dq:∀(s:Option aJ) (k:Int),bC (ao oEq (ao oMod (nm 1) (ah (.int 7))) (ah (.int k))) (kL p xs m s)=some (decide (r=k)):=λs k=>vE (ll (ll (x:=.int m) rfl rfl y7) rfl (by rw[rn]));by_cases pA:r=0
 ·have t0:=dq none 0;rw[decide_eq_true pA] at t0;by_cases hx:xs=[]
  ·subst hx;refine⟨.tuple [.str "refused",.none],[],amF (E':=kL p [] m none) ?_ rfl,h,by simp,SO,.inl ⟨rfl,rfl⟩⟩;unfold tm;exact yA t0 (Tg (by rw[A1 (os:=ey p []) (ts:=[]) rfl rfl];exact Tq))
  ·obtain⟨zs,e,rfl⟩:∃zs e,xs=zs++[e]:=⟨xs.dropLast,xs.getLast hx,(List.dropLast_concat_getLast hx).symm⟩;refine⟨.tuple [.str "told",.none],zs,amF (E':=kL p zs m none) ?_ rfl,λy a7=>h y (by simp[a7]),by simp;omega,akp,.inr ⟨_,rfl⟩⟩;unfold tm;refine yA t0 (Ma (by
    rw[A1 (os:=ey p (zs++[e])) (ts:=[]) rfl rfl];refine (Tq (p:=p)).trans ?_;cases zs <;> rfl) ?_)
   rw[Iv (os:=ey p (zs++[e])) (os':=ey p zs) (ts:=[]) (t:=.none) (d:=vl) rfl rfl (by
    rw[<- LM];exact aiP e _)]
   rfl
 have t0:=dq none 0;rw[decide_eq_false pA] at t0;by_cases cS:r=1
 ·have t1:=dq none 1;rw[decide_eq_true cS] at t1;refine⟨.tuple [.str "refused",.none],xs,amF (E':=kL p xs m none) ?_ rfl,h,by omega,SO,.inl ⟨rfl,rfl⟩⟩;unfold tm;refine p7 t0 (yA t1 (Tg ?_));rw[A1 (os:=ey p xs) (ts:=[.str "zzzz",.str "open"]) rfl rfl];exact aj1 aC.iQ (bf "zzzz") (λz=>by
   have n:("zzzz":Str)∉jM.map (·.2):=by decide +kernel
   exact n (aC.zs.subset z)) (by decide +kernel)
 have t1:=dq none 1;rw[decide_eq_false cS] at t1;obtain⟨e,zm,c8⟩:=aiL aC q;have U:=TV zm;have tw:cT (fB p (hK p (eS p) xs) e):=(cT.fresh _).e_ ww.fresh U.1;have YZ:∀y∈xs++[e],ka p y:=λy a7=>by
  rcases jD.mp a7 with a7|a7
  ·exact h y a7
  ·rw[jC.mp a7];exact zm
 refine⟨.tuple [.str "told",.tuple ((fB p (hK p (eS p) xs) e).told.map jj)],xs++[e],amF (E':=kL p (xs++[e]) m (some (.ae (de e)))) ?_ rfl,YZ,by simp,ahy tw,.inr ⟨_,rfl⟩⟩
 unfold tm;refine p7 t0 (p7 t1 (p8 (t:=de e) ?_ ?_))
 ·have XZ:ao oDiv (nm 1) (ah (.int 8)) (kL p xs m none)=some (.int q):=ll (x:=.int m) rfl rfl y8;simp only[b9,args,XZ,c0,e3];exact c8
 show _=_
 have YS:(kL p xs m none).set 3 (some (.ae (de e)))=kL p xs m (some (.ae (de e))):=rfl;rw[YS];have NW:∀{d:List aJ->Option (T×List aJ)} {r:List aJ->Bool} {ar:List bz} {ts:List T},args ar (kL p xs m (some (.ae (de e))))=some ts->r (.obj .cI 1 (ey p xs)::ts.map .ae)=false->d (.obj .b_ 1 (ey p xs)::ts.map .ae)=some (nS p xs (h2.chain p (eS p) xs) (hK p (eS p) xs) e)->mO (cZ 1 d 0 ar) (jK 1 r 0 ar) (kL p xs m (some (.ae (de e))))=some (.tuple [.str "told",.tuple ((fB p (hK p (eS p) xs) e).told.map jj)],kL p (xs++[e]) m (some (.ae (de e)))):=λ{d r ar ts} av au hd=>by
  refine Ma (by rw[A1 (os:=ey p xs) rfl av];exact au) ?_
  rw[Iv (os:=ey p xs) rfl av hd,LM];rfl
 have eW:∀(k a:Str) (r:List T),de e=.tuple (.str a::r)->bT a->bT k->bC (ao oEq (ao a4 (nm 3) (ah (.int 0))) (ah (.str k))) (kL p xs m (some (.ae (de e))))=some (decide (a=k)):=λk a r af ak bB=>by
  rw[af];refine vE (ll (x:=.str a) ?_ rfl (dA ak bB));exact ll (x:=.tuple (.str a::r)) (y:=.int 0) rfl rfl ck.Hl
 cases e with
|line z w=>
  have k1:=eW "line" "line" _ rfl (bf _) (bf _);rw[decide_eq_true rfl] at k1;exact yA k1 (NW (ts:=[.str z,.str w]) rfl (ajr aC.iQ w zm.1) (aiQ aC.wp ww U.1 (by omega) (by omega)))
|code f d z=>
  have k1:=eW "line" "code" _ rfl (bf _) (bf _);have k2:=eW "code" "code" _ rfl (bf _) (bf _);rw[decide_eq_false (by decide +kernel)] at k1;rw[decide_eq_true rfl] at k2;exact p7 k1 (yA k2 (NW (ts:=[.str f,.str d,eb z]) rfl (ajG aC.iQ zm) (aiS aC.wp ww U (by omega) (by omega))))
|dx n=>
  have k1:=eW "line" "ticks" _ rfl (bf _) (bf _);have k2:=eW "code" "ticks" _ rfl (bf _) (bf _);rw[decide_eq_false (by decide +kernel)] at k1;rw[decide_eq_false (by decide +kernel)] at k2;refine p7 k1 (p7 k2 ?_);unfold ik;rw[Ma (F:=cZ 1 vh 0 [(ao a4 (nm 3) (ah (.int 1)))]) (r:=uD) rfl (Iv (os:=ey p xs) (ts:=[.int n]) rfl rfl (ahW aC.wp ww U.1 (by omega) (by omega))),LM];rfl
def iu{ε:Ev}{i:Nat}{os os':List aJ}{ar:List bz}{ts:List T}{t:T}{d:List aJ->Option (T×List aJ)}(h:ε[i]?=some (some (.obj .own 1 os)))(av:args ar ε=some ts)(hd:d (.obj .b_ 1 os::ts.map .ae)=some (t,os')):o6 1 d [] i ar ε=some (t,ε.set i (some (.obj .own 1 os'))):=by
 have af:dm 1 i ε=some (.own,os):=by simp[dm,h]
 have amb:d (List.map aJ.ae []++.obj .b_ 1 os::ts.map .ae)=some (t,os'):=hd;simp only[o6,af,c0,if_neg (show ¬gm.own=gm.cI by decide),args,av,amb,e3]
def rep1{f:bz}{ε:Ev}{ts:List T}{d:Nat}(hf:f ε=some (.tuple ts))(h:ck.hI 1000000 (.tuple ts))(g:okN d (.tuple ts))(hd:d<=60):b9 o5 [f] ε=some (.str (PyData.tuple ts).shown):=by
 rw[ck.acR hf];simp only[o5];have:=h.le;have aly:=g.2;rw[if_pos (by
  simp only[gO,Bool.not_eq_true',decide_eq_true_eq];exact⟨⟨⟨h.fD,h.a'⟩,by omega⟩,by omega⟩)]
def ahw{t:T}(h:ck.hI 1000000 t):okN 0 (.str t.shown):=(ck.Y8 (d:=0) h.as h.le).okN
noncomputable def amB:bA:=(seq (asg 7 (b9 kD [(aS 0),(ao dC (ah (.int 2)) (nm 6))])) (seq (asg 8 (hE gg [.o 3])) (seq (asg 9 (b9 o5 [(nm 8)])) (seq (iff (bC (ao fk (hE gg [.o 3]) (nm 8))) (cy (ah (.bool false))) skip) (seq (n4 10 (o6 1 al4 [] 2 [(aS 7),(aS 1)])) (seq (qE (qM (qY (pQ fk (o6 1 al4 [] 3 [(aS 7),(aS 1)]) (rB (aS 10)))) (rC (bC (ao fk (b9 o5 [(nm 8)]) (nm 9))))) (cy (ah (.bool false))) skip) (seq (iff (bC (ao oEq (ao a4 (nm 10) (ah (.int 0))) (ah (.str "refused")))) (seq (qE (qM (rC (bC (ao fk (hE gg [.o 3]) (nm 8)))) (qY (pQ fk (o6 1 al4 [] 3 [(aS 7),(aS 1)]) (rB (aS 10))))) (cy (ah (.bool false))) skip) (iff (bC (ao fk (hE gg [.o 3]) (nm 8))) (cy (ah (.bool false))) skip)) skip) (iff (bC (ao fk (hE gg [.o 3]) (hE gg [.o 3]))) (cy (ah (.bool false))) skip))))))))
noncomputable def LE(ns:List Int)(p:aN)(xs ys:List cV)(gf dJ eo gM gL:Option aJ):Ev:=[some (.ae (eg ns)),some (.ae (cv p)),some (.obj .own 1 (ey p xs)),some (.obj .own 1 (ey p ys)),some (.obj .own 1 (ey p [])),some (.ae (A p [])),gf,dJ,eo,gM,gL]
def uM{f g:bz}{ε:Ev}{t:T}{d:Nat}(hf:f ε=some t)(bl:g ε=some t)(h:okN d t)(hd:d<=60:=by decide):bC (ao fk f g) ε=some false:=vE (ll hf bl (Sh h hd))
def OZ{F:g6}{g:bz}{ε ε':Ev}{t:T}{d:Nat}(wx:F ε=some (t,ε'))(bl:g ε'=some t)(h:okN d t)(hd:d<=60:=by decide):qY (pQ fk F (rB g)) ε=some (false,ε'):=by
 unfold qY pQ;rw[wx];simp only[c0,rB,bl,e3,Sh h hd]
def SY{c:mW}{a:bA}{ε ε':Ev}(h:c ε=some (false,ε')):qE c a skip ε=some (.bK ε'):=by
 unfold qE;rw[h];rfl
def TA{f g:mW}{ε fZ iq:Ev}(af:f ε=some (false,fZ))(ak:g fZ=some (false,iq)):qM f g ε=some (false,iq):=by
 unfold qM;rw[af];exact ak
def Sf{f:eT}{ε:Ev}(h:f ε=some false):rC f ε=some (false,ε):=by
 unfold rC;rw[h];rfl
def L3{c:eT}{a:bA}{ε:Ev}(h:c ε=some false):iff c a skip ε=some (.bK ε):=by
 unfold iff;rw[h];rfl
def turn(aC:dF p){ns:List Int}(h:∀e∈xs,ka p e)(aB:xs.length<=9)(k:Nat)(dJ eo gM gL:Option aJ):∃ys pV pW s6 sZ,(∀e∈ys,ka p e)/\ys.length<=xs.length+1/\amB (LE ns p xs xs (some (.ae (.int (k:Int)))) dJ eo gM gL)=some (.bK (LE ns p ys ys (some (.ae (.int (k:Int)))) pV pW s6 sZ)):=by
 obtain⟨m,_,xm⟩:=CX ns (2+k);obtain⟨t,ys,fO,a7,A0,O9,aX⟩:=YP aC h (by omega) m;have aW:i6 p xs:=⟨h,by omega⟩;have bx:i6 p ys:=⟨a7,by omega⟩;have zc:=vO aC aW;have MU:=vO aC bx;have O_:=Dl aC aW;have Ja:=Dl aC bx;have Pt:=ajS aC aW;have ho:∀{as:List cV} (bs:List cV) {gf dJ eo gM gL:Option aJ},i6 p bs->hE gg [.o 3] (LE ns p as bs gf dJ eo gM gL)=some (A p bs):=λ{as} bs {gf dJ eo gM gL} r=>(cr (i:=3) (os:=ey p bs) gg rfl).trans (vO aC r);refine⟨ys,some (.ae (.int m)),some (.ae (A p xs)),some (.ae (.str (A p xs).shown)),some (.ae t),a7,A0,?_⟩;unfold amB;refine p8 (t:=.int m) ?_ ?_
 ·have aO:ao dC (ah (.int 2)) (nm 6) (LE ns p xs xs (some (.ae (.int (k:Int)))) dJ eo gM gL)=some (.int (2+(k:Int))):=ll (x:=.int 2) (y:=.int (k:Int)) rfl rfl rfl;rw[ck.acS (t:=eg ns) rfl aO];have fw:((2+k:Nat):Int)=2+(k:Int):=by omega
  rw[<- fw];exact xm
 show seq _ _ (LE ns p xs xs (some (.ae (.int (k:Int)))) (some (.ae (.int m))) eo gM gL)=_
 refine p8 (ho xs aW) ?_
 show seq _ _ (LE ns p xs xs (some (.ae (.int (k:Int)))) (some (.ae (.int m))) (some (.ae (A p xs))) gM gL)=_
 have Pj:∀{as bs:List cV} {gf dJ gM gL:Option aJ},b9 o5 [(nm 8)] (LE ns p as bs gf dJ (some (.ae (A p xs))) gM gL)=some (.str (A p xs).shown):=λ{as bs gf dJ gM gL}=>rep1 (f:=nm 8) rfl Pt O_ (by decide);refine p8 Pj ?_;show seq _ _ (LE ns p xs xs (some (.ae (.int (k:Int)))) (some (.ae (.int m))) (some (.ae (A p xs))) (some (.ae (.str (A p xs).shown))) gL)=_;refine p7 (uM (ho xs aW) rfl O_) ?_;refine kE (ε':=LE ns p ys xs (some (.ae (.int (k:Int)))) (some (.ae (.int m))) (some (.ae (A p xs))) (some (.ae (.str (A p xs).shown))) (some (.ae t))) ?_ ?_
 ·unfold n4;rw[iu (i:=2) (os:=ey p xs) (ts:=[.int m,cv p]) rfl rfl fO];rfl
 refine kE (ε':=LE ns p ys ys (some (.ae (.int (k:Int)))) (some (.ae (.int m))) (some (.ae (A p xs))) (some (.ae (.str (A p xs).shown))) (some (.ae t))) ?_ ?_
 ·refine SY (TA (OZ (iu (i:=3) (os:=ey p xs) (os':=ey p ys) (ts:=[.int m,cv p]) rfl rfl fO) rfl O9) (Sf ?_))
  exact uM (ε:=LE ns p ys ys (some (.ae (.int (k:Int)))) (some (.ae (.int m))) (some (.ae (A p xs))) (some (.ae (.str (A p xs).shown))) (some (.ae t))) Pj rfl (ahw Pt)
 refine kE (ε':=LE ns p ys ys (some (.ae (.int (k:Int)))) (some (.ae (.int m))) (some (.ae (A p xs))) (some (.ae (.str (A p xs).shown))) (some (.ae t))) ?_ ?_
 ·rcases aX with ⟨rfl,rfl⟩|⟨u,rfl⟩
  ·have cS:bC (ao oEq (ao a4 (nm 10) (ah (.int 0))) (ah (.str "refused"))) (LE ns p ys ys (some (.ae (.int (k:Int)))) (some (.ae (.int m))) (some (.ae (A p ys))) (some (.ae (.str (A p ys).shown))) (some (.ae (.tuple [.str "refused",.none]))))=some true:=vE (ll (x:=.str "refused") (ll (x:=.tuple [.str "refused",.none]) (y:=.int 0) rfl rfl ck.Hl) rfl (by rw[dA (bf _) (bf _),decide_eq_true rfl]));unfold iff;rw[cS];simp only[c0,if_true];refine kE (ε':=LE ns p ys ys (some (.ae (.int (k:Int)))) (some (.ae (.int m))) (some (.ae (A p ys))) (some (.ae (.str (A p ys).shown))) (some (.ae (.tuple [.str "refused",.none])))) ?_ ?_
   ·refine SY (TA (Sf (uM (ho ys bx) rfl Ja)) ?_)
    exact OZ (iu (i:=3) (os:=ey p ys) (os':=ey p ys) (ts:=[.int m,cv p]) rfl rfl fO) rfl O9
   ·have:=L3 (a:=cy (ah (.bool false))) (uM (f:=hE gg [.o 3]) (g:=nm 8) (ε:=LE ns p ys ys (some (.ae (.int (k:Int)))) (some (.ae (.int m))) (some (.ae (A p ys))) (some (.ae (.str (A p ys).shown))) (some (.ae (.tuple [.str "refused",.none])))) (ho ys bx) rfl Ja);unfold iff at this;exact this
  ·refine L3 (vE (ll (x:=.str "told") (ll (x:=.tuple [.str "told",u]) (y:=.int 0) rfl rfl ck.Hl) rfl (by rw[dA (bf _) (bf _),decide_eq_false (by decide +kernel)])))
 exact L3 (uM (ho ys bx) (ho ys bx) Ja)
theorem loop(aC:dF p){ns:List Int}:∀(l:List Nat) {xs:List cV} (gf dJ eo gM gL:Option aJ),(∀e∈xs,ka p e)->xs.length+l.length<=10->∃ys amv pV pW s6 sZ,(∀e∈ys,ka p e)/\ys.length<=10/\forL (cx 6) amB (l.map λ(k:Nat)=>PyData.int (k:Int)) (LE ns p xs xs gf dJ eo gM gL)=some (.bK (LE ns p ys ys amv pV pW s6 sZ))
| [],xs,gf,dJ,eo,gM,gL,h,aB=>⟨xs,gf,dJ,eo,gM,gL,h,by simp at aB;omega,rfl⟩
|k::l,xs,gf,dJ,eo,gM,gL,h,aB=>by
  simp only[eJ] at aB;obtain⟨ys,pV,pW,s6,sZ,a7,A0,e⟩:=turn (ns:=ns) aC h (by omega) k dJ eo gM gL;obtain⟨zs,u6,u7,u8,PI,afs,aq,lz,aO⟩:=loop aC (ns:=ns) l (some (.ae (.int (k:Int)))) pV pW s6 sZ a7 (by omega);refine⟨zs,u6,u7,u8,PI,afs,aq,lz,?_⟩;rw[dh,forL,show cx 6 (PyData.int (k:Int)) (LE ns p xs xs gf dJ eo gM gL)=some (LE ns p xs xs (some (.ae (.int (k:Int)))) dJ eo gM gL) from rfl,c0,e,c0];exact aO
end
def aiC(ns:List Int)(h:ns.length<=63):vU [eg ns]=some (.bool true):=by
 obtain⟨m0,alH,x0⟩:=CX ns 0;obtain⟨hO,alI,aP⟩:=CX ns 1;obtain⟨p,aC,xp⟩:=aja m0;obtain⟨r,_,jy,bg,y⟩:=modQ hO 11;have eK:=aC.eK;have JR:=aiR aC.wp (by omega);have afC:kD [eg ns,.int 0]=some (.int m0):=x0;have afD:kD [eg ns,.int 1]=some (.int hO):=aP;obtain⟨n,a6⟩:∃n:Nat,r=(n:Int):=⟨r.toNat,by omega⟩;subst a6;have jy:i6 p []:=⟨λe he=>(by cases he),by simp⟩;have ma:=vO aC jy;obtain⟨ys,amv,pV,pW,s6,sZ,a7,A0,xL⟩:=loop (ns:=ns) aC (List.range n) (xs:=[]) none none none none none (λe he=>by cases he) (by simp;omega);have bx:i6 p ys:=⟨a7,A0⟩;suffices aA:Mm [some (.ae (eg ns)),none,none,none,none,none,none,none,none,none,none]=some (.d4 (.bool true)) by
  unfold vU d9;simp only[dh,gZ,eJ,lg,u0,xC];exact congrArg (λo=>Option.bind o _) aA
 unfold Mm;refine p8 (t:=cv p) (by simp only[b9,args,aS,ah,kB,c0,e3,afC,xp]) ?_;simp only[kA,kz];refine kE (ε':=[some (.ae (eg ns)),some (.ae (cv p)),some (.obj .own 1 (ey p [])),none,none,none,none,none,none,none,none]) ?_ ?_
 ·simp only[n3,ox,args,aS,lX,kB,c0,e3,dh,gZ,JR,kA,kz];rfl
 refine kE (ε':=[some (.ae (eg ns)),some (.ae (cv p)),some (.obj .own 1 (ey p [])),some (.obj .own 1 (ey p [])),none,none,none,none,none,none,none]) ?_ ?_
 ·simp only[n3,ox,args,aS,lX,kB,c0,e3,dh,gZ,JR,kA,kz];rfl
 refine kE (ε':=[some (.ae (eg ns)),some (.ae (cv p)),some (.obj .own 1 (ey p [])),some (.obj .own 1 (ey p [])),some (.obj .own 1 (ey p [])),none,none,none,none,none,none]) ?_ ?_
 ·simp only[n3,ox,args,aS,lX,kB,c0,e3,dh,gZ,JR,kA,kz];rfl
 refine p8 (t:=A p []) ((cr (i:=4) (os:=ey p []) gg rfl).trans ma) ?_
 show seq _ _ (LE ns p [] [] none none none none none)=_
 refine kE (ε':=LE ns p ys ys amv pV pW s6 sZ) ?_ ?_
 ·have it:mK (ao oMod (b9 kD [(aS 0),(ah (.int 1))]) (ah (.int 11))) (LE ns p [] [] none none none none none)=some ((List.range n).map λ(k:Nat)=>PyData.int (k:Int)):=by
   have dO:ao oMod (b9 kD [(aS 0),(ah (.int 1))]) (ah (.int 11)) (LE ns p [] [] none none none none none)=some (.int (n:Int)):=by
    refine ll (x:=.int hO) ?_ rfl y
    simp only[b9,args,aS,ah,LE,kB,c0,e3,afD]
   rw[h2._z dO (by omega) (by omega)];unfold kY;simp
  show gR _ (cx 6) amB (LE ns p [] [] none none none none none)=_
  unfold gR;rw[it];exact xL
 refine p7 (uM ((cr (i:=2) (os:=ey p ys) gg rfl).trans (vO aC bx)) ((cr (i:=3) (os:=ey p ys) gg rfl).trans (vO aC bx)) (Dl aC bx)) ?_
 unfold cy;rw[ll (o:=oEq) (a:=hE gg [.o 4]) (b:=nm 5) (x:=A p []) (y:=A p []) ((cr (i:=4) (os:=ey p []) gg rfl).trans ma) rfl (aix (Dl aC jy))];rfl
end pf
end
end
section
namespace pf
open PySem PySem.Spec PyProof.Rows bh D aZ h2 tR
set_option hygiene false in
local macro_rules | `(unop% lk ($f, $gV, $ec, $n, $q, $s, $a, $b, $c, $d, $e, $g, $h)) => `(K.lookup $f = some ⟨$gV, $ec, .func (lU $n $q (nH $s) (fc $s) (bt $s) .none $a $b $c $d $e $g), $h⟩)
set_option hygiene false in
local macro_rules | `(binop% cd $c $q) => `(qZ K $c $q = true)
set_option hygiene false in
local macro_rules | `(unop% aw $c) => `(kv K (.ref $c) = true)
set_option hygiene false in
local macro_rules | `(unop% eX $c) => `(PySem.W.isFn K (.ref $c) = true)
set_option hygiene false in
local macro_rules | `(binop% ns $q $c) => `(PySem.W.nsIn K iX $q = some (some (.ref $c)))
set_option hygiene false in
local macro_rules | `(unop% zn $q) => `(PySem.W.nsIn K iX $q = some none)
set_option hygiene false in
local macro_rules | `(unop% fn ($C, $q, $c)) => `(j3 K (.ref $C) $q = some (some (.ref $c)))
set_option hygiene false in
local macro_rules | `(binop% jX $C $q) => `(j3 K (.ref $C) $q = some none)
local macro_rules | `(unop% mo $x) => `(($x).mono (by decide))
set_option hygiene false in
local macro_rules | `(unop% bV ($f $n $as*)) => `($f (P := l.prog) (w := w) (mg := mg) (base := base) (k := $n) $as*)
def all_mk{l:PySem.W.OpenLaw}{w:bZ}{K:a9}{h:bE}{mg:Str->Option aj}{bN bq cD f1 f2 hL f4 hv z1 f8 z2 amD FN zx zy zz zA zB FO zC zD zE zF zG zH zI zJ zK zL zM FP zN zO zP zQ zR FQ FR zS zT FT FU FV FW FX FY zU FZ zV zW zX zY zZ z0 F0 F1 t7 t6 pv Fu alY xz fO:ag}{abR V5 ab2 We acb Wq aco WB acA WN acG WT acH WU acI WV abS V6 abT V7 abU V8 abV V9 abW V_ abX V' abY Wa abZ Wb ab0 Wc ab1 Wd ab3 Wf ab4 Wg ab5 Wh ab6 Wi ab7 Wj ab8 Wk ab9 Wl ab_ Wm ab' Wn aca Wo acd Wr ace Ws acf Wt acg Wu ach Wv aci Ww acj Wx ack Wy acm Wz acn WA acp WC acq WD acr WE acs WG acu WH acv WI acw WJ acx WK acy WL acz WM acB WO acC WQ acD WR acE WS acF MR acL acK acJ:Option ag}{Bs hS aej aeu aeF aeL aeM aeN ad1 ad2 ad3 ad4 ad5 ad6 ad7 ad8 ad9 ad_ ad' aea aeb aec aed aee aef aeg aeh aei aek ael aem aen aeo aep aeq aer aes aet aev aew aex aey aez aeA aeB aeC aeD aeE aeG aeH aeI aeJ aeK aeQ aeP aeO:Array (Option aj)}{aa1 _D X0 acU MX W8 aba _O Ya ac5 M9 Xh abl _Z Yl adg Nj Xs abx aak Yw ads Nw XD abI aav YH adD NI XP abO aaA YM adI NM XU abP aaB YN adJ NN XW abQ aaC YO adK NO XX aa2 _E X1 acV MY W9 aa3 _F X2 acW MZ W_ aa4 _G X3 acX M0 W' aa5 _H X4 acY M1 Xa aa6 _I X5 acZ M3 Xb aa7 _J X6 ac0 M4 Xc aa8 _K X7 ac1 M5 Xd aa9 _L X8 ac2 M6 Xe aa_ _M X9 ac3 M7 Xf aa' _N X_ ac4 M8 Xg abb _P Yb ac6 M_ Xi abc _Q Yc ac7 M' Xj abd _R Yd ac8 Na Xk abe _S Ye ac9 Nb Xl abf _T Yf ac_ Nc Xm abg _U Yg ac' Nd Xn abh _V Yh ada Nf Xo abi _W Yi adb Ng Xp abj _X Yj ade Nh Xq abk _Y Yk adf Ni Xr abm aaa Ym adh Nk Xt abn aab Yn adi Nl Xu abo aac Yo adj Nm Xv abp aad Yp adk Nn Xw abq aae Yq adl Np Xx abr aaf Yr adm Nq Xy abt aag Ys adn Nr Xz abu aah Yt ado Nt XA abv aai Yu adp Nu XB abw aaj Yv adq Nv XC aby aal Yx adt Nx XE abz aam Yy adu Ny XF abA aan Yz adv Nz XG abB aao YA adw NA XH abC aap YB adx NB XI abD aaq YC ady NC XJ abE aar YD adz ND XK abF aas YE adA NF XM abG aat YF adB NG XN abH aau YG adC NH XO abJ aaw YI adE NJ XQ abK aax YJ adF NK XR abL aay YK adG NL XS abM aaz YL adH XT abN OO NV Pb Fx NT:aj}{JG JF afl afm afi afj aff afg:Tok}{aaP aaO aaN:Nat}(X:K.In h)(G:h.Ns iX mg)(ZH:mg "law"=some (.ref bN))(EC:binop%ns "Course" bq)(Jc:PySem.W.plainGet K bq Str.empty=true)(Gj:PySem.W.hasDictIn K bq=true)(Jg:PySem.W.plainOver K bq=true)(Jt:j3 K (.ref bq) "__setattr__"=some (some (.builtin "object.__setattr__")))(IA:PySem.W.makesIn K bq=true)(HD:unop%aw bq)(IL:binop%jX bq "plan")(IM:binop%jX bq "mode")(IT:binop%jX bq "left")(IU:binop%jX bq "came")(IV:binop%jX bq "lines")(IW:binop%jX bq "shunts")(IX:binop%jX bq "siren")(IY:binop%jX bq "alarms")(IZ:binop%jX bq "tries")(I0:binop%jX bq "locked")(IP:binop%jX bq "used")(IQ:binop%jX bq "past")(IS:binop%jX bq "told")(EB:binop%ns "Box" cD)(Jb:PySem.W.plainGet K cD Str.empty=true)(Gi:PySem.W.hasDictIn K cD=true)(Jf:PySem.W.plainOver K cD=true)(Js:j3 K (.ref cD) "__setattr__"=some (some (.builtin "object.__setattr__")))(Iz:PySem.W.makesIn K cD=true)(HC:unop%aw cD)(II:binop%jX cD "plan")(IJ:binop%jX cD "events")(IK:binop%jX cD "states")(a1:binop%ns "_law_drawn" f1)(b2:unop%lk (f1,aa1,abR,"_law_drawn","_law_drawn",CH,_D,X0,acU,V5,MX,W8,Bs))(cS:binop%cd MX "_law_drawn")(k1:unop%aw f1)(a2:binop%ns "_law_plan" f2)(b4:unop%lk (f2,aba,ab2,"_law_plan","_law_plan",yk,_O,Ya,ac5,We,M9,Xh,hS))(c5:binop%cd M9 "_law_plan")(k2:unop%aw f2)(ho:binop%ns "begun" hL)(w2:unop%lk (hL,abl,acb,"begun","begun",amo,_Z,Yl,adg,Wq,Nj,Xs,aej))(fH:binop%cd Nj "begun")(k3:unop%aw hL)(mb:unop%fn (cD,"__init__",f4))(lH:unop%eX f4)(AU:unop%lk (f4,abx,aco,"__init__","Box.__init__",B5,aak,Yw,ads,WB,Nw,XD,aeu))(gF:binop%cd Nw "Box.__init__")(lI:unop%aw f4)(al3:unop%fn (cD,"state",hv))(Hg:unop%eX hv)(Ij:unop%lk (hv,abI,acA,"state","Box.state",Cj,aav,YH,adD,WN,NI,XP,aeF))(jV:binop%cd NI "Box.state")(k5:unop%aw hv)(ly:binop%ns "shown" z1)(Ip:unop%lk (z1,abO,acG,"shown","shown",tA,aaA,YM,adI,WT,NM,XU,aeL))(zh:binop%cd NM "shown")(Hz:unop%aw z1)(m4:binop%ns "shown_rows" z1)(nZ:unop%fn (cD,"shown",f8))(Hh:unop%eX f8)(Iq:unop%lk (f8,abP,acH,"shown","Box.shown",Ck,aaB,YN,adJ,WU,NN,XW,aeM))(Fq:binop%cd NN "Box.shown")(AS:unop%aw f8)(n0:unop%fn (bq,"__init__",z2))(Hi:unop%eX z2)(Ir:unop%lk (z2,abQ,acI,"__init__","Course.__init__",u_,aaC,YO,adK,WV,NO,XX,aeN))(Fs:binop%cd NO "Course.__init__")(HA:unop%aw z2)(m3:unop%fn (bq,"tell",amD))(GR:unop%eX amD)(HE:unop%lk (amD,aa2,abS,"tell","Course.tell",B8,_E,X1,acV,V6,MY,W9,ad1))(EG:binop%cd MY "Course.tell")(Ao:unop%aw amD)(amA:binop%ns "kind_of" FN)(HF:unop%lk (FN,aa3,abT,"kind_of","kind_of",ya,_F,X2,acW,V7,MZ,W_,ad2))(EH:binop%cd MZ "kind_of")(Hm:unop%aw FN)(DY:unop%fn (bq,"be_loud",zx))(i12:unop%eX zx)(HG:unop%lk (zx,aa4,abU,"be_loud","Course.be_loud",BW,_G,X3,acX,V8,M0,W',ad3))(EI:binop%cd M0 "Course.be_loud")(Ap:unop%aw zx)(DZ:unop%fn (bq,"alarm",zy))(GS:unop%eX zy)(HH:unop%lk (zy,aa5,abV,"alarm","Course.alarm",B4,_H,X4,acY,V9,M1,Xa,ad4))(EJ:binop%cd M1 "Course.alarm")(Aq:unop%aw zy)(D0:unop%fn (bq,"come_in",zz))(GU:unop%eX zz)(HI:unop%lk (zz,aa6,abW,"come_in","Course.come_in",BV,_I,X5,acZ,V_,M3,Xb,ad5))(EK:binop%cd M3 "Course.come_in")(Ar:unop%aw zz)(D1:unop%fn (bq,"disturb",zA))(GV:unop%eX zA)(HJ:unop%lk (zA,aa7,abX,"disturb","Course.disturb",BU,_J,X6,ac0,V',M4,Xc,ad6))(EL:binop%cd M4 "Course.disturb")(As:unop%aw zA)(D2:unop%fn (bq,"line",zB))(GW:unop%eX zB)(HK:unop%lk (zB,aa8,abY,"line","Course.line",B9,_K,X7,ac1,Wa,M5,Xd,ad7))(EM:binop%cd M5 "Course.line")(Au:unop%aw zB)(D3:binop%ns "code_of" FO)(HL:unop%lk (FO,aa9,abZ,"code_of","code_of",CI,_L,X8,ac2,Wb,M6,Xe,ad8))(EN:binop%cd M6 "code_of")(Hn:unop%aw FO)(D4:unop%fn (bq,"is_used_up",zC))(GX:unop%eX zC)(HM:unop%lk (zC,aa_,ab0,"is_used_up","Course.is_used_up",BN,_M,X9,ac3,Wc,M7,Xf,ad9))(EO:binop%cd M7 "Course.is_used_up")(Av:unop%aw zC)(D5:unop%fn (bq,"take_wrong",zD))(GY:unop%eX zD)(HN:unop%lk (zD,aa',ab1,"take_wrong","Course.take_wrong",BL,_N,X_,ac4,Wd,M8,Xg,ad_))(EP:binop%cd M8 "Course.take_wrong")(Aw:unop%aw zD)(D6:unop%fn (bq,"is_untimely",zE))(GZ:unop%eX zE)(HO:unop%lk (zE,abb,ab3,"is_untimely","Course.is_untimely",BJ,_P,Yb,ac6,Wf,M_,Xi,ad'))(ER:binop%cd M_ "Course.is_untimely")(Ax:unop%aw zE)(D7:unop%fn (bq,"bare_zones",zF))(G0:unop%eX zF)(HP:unop%lk (zF,abc,ab4,"bare_zones","Course.bare_zones",u5,_Q,Yc,ac7,Wg,M',Xj,aea))(ES:binop%cd M' "Course.bare_zones")(Ay:unop%aw zF)(D8:unop%fn (bq,"what_is_against",zG))(G1:unop%eX zG)(HQ:unop%lk (zG,abd,ab5,"what_is_against","Course.what_is_against",BI,_R,Yd,ac8,Wh,Na,Xk,aeb))(ET:binop%cd Na "Course.what_is_against")(Az:unop%aw zG)(D9:unop%fn (bq,"end_leaving",zH))(G2:unop%eX zH)(HR:unop%lk (zH,abe,ab6,"end_leaving","Course.end_leaving",BK,_S,Ye,ac9,Wi,Nb,Xl,aec))(EU:binop%cd Nb "Course.end_leaving")(AA:unop%aw zH)(D_:unop%fn (bq,"do_set",zI))(G3:unop%eX zI)(HS:unop%lk (zI,abf,ab7,"do_set","Course.do_set",BZ,_T,Yf,ac_,Wj,Nc,Xm,aed))(EV:binop%cd Nc "Course.do_set")(AB:unop%aw zI)(D':unop%fn (bq,"do_unset",zJ))(G4:unop%eX zJ)(HT:unop%lk (zJ,abg,ab8,"do_unset","Course.do_unset",BR,_U,Yg,ac',Wk,Nd,Xn,aee))(EW:binop%cd Nd "Course.do_unset")(AD:unop%aw zJ)(Ea:unop%fn (bq,"do_deed",zK))(G5:unop%eX zK)(HU:unop%lk (zK,abh,ab9,"do_deed","Course.do_deed",BS,_V,Yh,ada,Wl,Nf,Xo,aef))(EX:binop%cd Nf "Course.do_deed")(AE:unop%aw zK)(Eb:unop%fn (bq,"take_right",zL))(G6:unop%eX zL)(HV:unop%lk (zL,abi,ab_,"take_right","Course.take_right",BM,_W,Yi,adb,Wm,Ng,Xp,aeg))(EY:binop%cd Ng "Course.take_right")(AF:unop%aw zL)(Ec:unop%fn (bq,"code",zM))(G7:unop%eX zM)(HW:unop%lk (zM,abj,ab',"code","Course.code",B_,_X,Yj,ade,Wn,Nh,Xq,aeh))(EZ:binop%cd Nh "Course.code")(AG:unop%aw zM)(Ed:binop%ns "lessened" FP)(HX:unop%lk (FP,abk,aca,"lessened","lessened",Cu,_Y,Yk,adf,Wo,Ni,Xr,aei))(E0:binop%cd Ni "lessened")(Ho:unop%aw FP)(Ee:unop%fn (bq,"count_down",zN))(G8:unop%eX zN)(HY:unop%lk (zN,abm,acd,"count_down","Course.count_down",BP,aaa,Ym,adh,Wr,Nk,Xt,aek))(E1:binop%cd Nk "Course.count_down")(AH:unop%aw zN)(Ef:unop%fn (bq,"end_coming",zO))(G9:unop%eX zO)(HZ:unop%lk (zO,abn,ace,"end_coming","Course.end_coming",BO,aab,Yn,adi,Ws,Nl,Xu,ael))(E2:binop%cd Nl "Course.end_coming")(AI:unop%aw zO)(Eg:unop%fn (bq,"end_time",zP))(G_:unop%eX zP)(H0:unop%lk (zP,abo,acf,"end_time","Course.end_time",BQ,aac,Yo,adj,Wt,Nm,Xv,aem))(E3:binop%cd Nm "Course.end_time")(AJ:unop%aw zP)(Eh:unop%fn (bq,"ticks",zQ))(G':unop%eX zQ)(H2:unop%lk (zQ,abp,acg,"ticks","Course.ticks",B2,aad,Yp,adk,Wu,Nn,Xw,aen))(E4:binop%cd Nn "Course.ticks")(AK:unop%aw zQ)(Ei:unop%fn (bq,"happen",zR))(Ha:unop%eX zR)(H3:unop%lk (zR,abq,ach,"happen","Course.happen",BY,aae,Yq,adl,Wv,Np,Xx,aeo))(E5:binop%cd Np "Course.happen")(AL:unop%aw zR)(Ej:binop%ns "course_of" FQ)(H4:unop%lk (FQ,abr,aci,"course_of","course_of",Cg,aaf,Yr,adm,Ww,Nq,Xy,aep))(E6:binop%cd Nq "course_of")(Hp:unop%aw FQ)(Ek:binop%ns "story" FR)(H5:unop%lk (FR,abt,acj,"story","story",C2,aag,Ys,adn,Wx,Nr,Xz,aeq))(E7:binop%cd Nr "story")(Hq:unop%aw FR)(El:unop%fn (cD,"row",zS))(Hb:unop%eX zS)(H6:unop%lk (zS,abu,ack,"row","Box.row",CJ,aah,Yt,ado,Wy,Nt,XA,aer))(E8:binop%cd Nt "Box.row")(AM:unop%aw zS)(Em:unop%fn (cD,"log",zT))(Hc:unop%eX zT)(H7:unop%lk (zT,abv,acm,"log","Box.log",CK,aai,Yu,adp,Wz,Nu,XB,aes))(E9:binop%cd Nu "Box.log")(AN:unop%aw zT)(En:binop%ns "_law_all_asked" FT)(H8:unop%lk (FT,abw,acn,"_law_all_asked","_law_all_asked",B7,aaj,Yv,adq,WA,Nv,XC,aet))(E_:binop%cd Nv "_law_all_asked")(Hr:unop%aw FT)(Eo:binop%ns "_law_cell_at" FU)(H9:unop%lk (FU,aby,acp,"_law_cell_at","_law_cell_at",Cf,aal,Yx,adt,WC,Nx,XE,aev))(Fb:binop%cd Nx "_law_cell_at")(Hs:unop%aw FU)(Ep:binop%ns "_law_mixed" FV)(H_:unop%lk (FV,abz,acq,"_law_mixed","_law_mixed",CF,aam,Yy,adu,WD,Ny,XF,aew))(Fc:binop%cd Ny "_law_mixed")(Ht:unop%aw FV)(Er:binop%ns "_law_event" FW)(H':unop%lk (FW,abA,acr,"_law_event","_law_event",CG,aan,Yz,adv,WE,Nz,XG,aex))(Fd:binop%cd Nz "_law_event")(Hu:unop%aw FW)(Es:binop%ns "_law_twice_told" FX)(Ia:unop%lk (FX,abB,acs,"_law_twice_told","_law_twice_told",nC,aao,YA,adw,WG,NA,XH,aey))(Fe:binop%cd NA "_law_twice_told")(Hv:unop%aw FX)(Et:binop%ns "words" FY)(Ib:unop%lk (FY,abC,acu,"words","words",yp,aap,YB,adx,WH,NB,XI,aez))(Ff:binop%cd NB "words")(Hw:unop%aw FY)(Eu:unop%fn (bq,"state",zU))(Hd:unop%eX zU)(Ic:unop%lk (zU,abD,acv,"state","Course.state",B3,aaq,YC,ady,WI,NC,XJ,aeA))(Fg:binop%cd NC "Course.state")(AO:unop%aw zU)(Ew:binop%ns "gone" FZ)(Ie:unop%lk (FZ,abE,acw,"gone","gone",C7,aar,YD,adz,WJ,ND,XK,aeB))(Fh:binop%cd ND "gone")(Hx:unop%aw FZ)(Ex:unop%fn (cD,"happen",zV))(He:unop%eX zV)(Ig:unop%lk (zV,abF,acx,"happen","Box.happen",Ca,aas,YE,adA,WK,NF,XM,aeC))(Fi:binop%cd NF "Box.happen")(AP:unop%aw zV)(Ey:unop%fn (cD,"ticks",zW))(Hf:unop%eX zW)(Ih:unop%lk (zW,abG,acy,"ticks","Box.ticks",Ci,aat,YF,adB,WL,NG,XN,aeD))(Fj:binop%cd NG "Box.ticks")(AQ:unop%aw zW)(y9:unop%fn (cD,"undo",zX))(Ah:unop%eX zX)(Ii:unop%lk (zX,abH,acz,"undo","Box.undo",amx,aau,YG,adC,WM,NH,XO,aeE))(Fl:binop%cd NH "Box.undo")(wX:unop%aw zX)(y_:unop%fn (cD,"need_zone",zY))(Ai:unop%eX zY)(Ik:unop%lk (zY,abJ,acB,"need_zone","Box.need_zone",xR,aaw,YI,adE,WO,NJ,XQ,aeG))(Fm:binop%cd NJ "Box.need_zone")(wY:unop%aw zY)(y':unop%fn (cD,"line",zZ))(Aj:unop%eX zZ)(Il:unop%lk (zZ,abK,acC,"line","Box.line",x5,aax,YJ,adF,WQ,NK,XR,aeH))(Fn:binop%cd NK "Box.line")(wZ:unop%aw zZ)(za:unop%fn (cD,"code",z0))(Ak:unop%eX z0)(Im:unop%lk (z0,abL,acD,"code","Box.code",x6,aay,YK,adG,WR,NL,XS,aeI))(Fo:binop%cd NL "Box.code")(w0:unop%aw z0)(Ez:binop%ns "_law_one_deed" F0)(AV:K.lookup F0=some ⟨abM,acE,.func (lU "_law_one_deed" "_law_one_deed" (nH al8) (fc al8) (bt al8) .none aaz YL adH WS (.ref Fu) XT),aeJ⟩)(zg:qZ K (.ref Fu) "_law_one_deed"=true)(AR:unop%aw F0)(EA:binop%ns "law" F1)(Io:unop%lk (F1,abN,acF,"law","law",amk,OO,NV,Pb,MR,Fx,NT,aeK))(Fp:binop%cd Fx "law")(Hy:unop%aw F1)(rq:unop%zn "enumerate")(ft:unop%zn "tuple")(o2:unop%zn "range")(lj:unop%zn "zip")(rp:unop%zn "dict")(rr:unop%zn "list")(ami:unop%zn "sorted")(tF:unop%zn "max")(nN:unop%zn "len")(rt:unop%zn "repr")(amd:PySem.W.nsIn K iX "WRONG_IN_A_ROW"=some (some (.int 3 JG)))(sf:PySem.W.nsIn K iX "TICKS_LOCKED"=some (some (.int 90 JF)))(wo:binop%ns "KINDS_SHUT_TO_SET" t7)(Jj:K.lookup t7=some ⟨.type "tuple",acL,.seq #[.str "day" afl,.str "once" afm] aaP,aeQ⟩)(wm:binop%ns "KINDS_LEFT_BY" t6)(Ji:K.lookup t6=some ⟨.type "tuple",acK,.seq #[.str "inner" afi,.str "way" afj] aaO,aeP⟩)(um:binop%ns "DEEDS_OF_ZONES" pv)(Jh:K.lookup pv=some ⟨.type "tuple",acJ,.seq #[.str "shunt" aff,.str "free" afg] aaN,aeO⟩)(F5:u4 K Fu 415=true)(IF:binop%ns "DoorError" alY)(IH:binop%ns "NoZone" xz)(IG:binop%ns "NoDeed" fO)(F8:L8 K alY=true)(Gb:Dr K alY xz=true)(Ga:Dr K alY fO=true):
  ∃fd:dV,(∀(s:aI) (v:aj),BindsTo s fd ⟨[v],[]⟩ [("_law_script",v)])/\∀base:bE,K.In base->base.Ns iX mg->nQ mg base->ez l.prog w K mg base di 18 bN fd ["_law_script"] (@spT (nv [(415,(("_law_one_deed":Str)++".<locals>.")++"<lambda>")]) K 1 vU):=by
 have e:=ZH.symm.trans (fP X G EA);cases e;refine⟨lU "law" "law" (nH amk) (fc amk) (bt amk) .none OO NV Pb MR Fx NT,λs v=>.of_eq rfl,λbase _ _ iw=>?_⟩;letI tt:cJ:=⟨[(415,(("_law_one_deed":Str)++".<locals>.")++"<lambda>")],λc=>match c with|0=>["plan","mode","left","came","lines","shunts","siren","alarms","tries","locked","used","past","told"]|1=>["plan","events","states"]|_=>[],λc=>match c with|0=>some bq|1=>some cD|_=>none⟩;have aU:fm K 0 bq ["plan","mode","left","came","lines","shunts","siren","alarms","tries","locked","used","past","told"]:=⟨rfl,rfl,⟨Jc,Gj,Jg,Jt⟩,by decide +kernel,λf hf=>by
  simp only[cm,ee,or_false] at hf;rcases hf with rfl|rfl|rfl|rfl|rfl|rfl|rfl|rfl|rfl|rfl|rfl|rfl|rfl
  ·exact IL
  ·exact IM
  ·exact IT
  ·exact IU
  ·exact IV
  ·exact IW
  ·exact IX
  ·exact IY
  ·exact IZ
  ·exact I0
  ·exact IP
  ·exact IQ
  ·exact IS,by decide⟩
 have cC:fm K 1 cD ["plan","events","states"]:=⟨rfl,rfl,⟨Jb,Gi,Jf,Js⟩,by decide +kernel,λf hf=>by
  simp only[cm,ee,or_false] at hf;rcases hf with rfl|rfl|rfl
  ·exact II
  ·exact IJ
  ·exact IK,by decide⟩
 replace rq:=oH X G rq;replace ft:=oH X G ft;replace o2:=oH X G o2;replace lj:=oH X G lj;replace rp:=oH X G rp;replace rr:=oH X G rr;replace ami:=oH X G ami;replace tF:=oH X G tF;replace nN:=oH X G nN;replace rt:=oH X G rt;have h4:al7 K mg alY xz fO:=⟨fP X G IF,fP X G IH,fP X G IG,F8⟩;have ke:=SI Gb;have eM:=SI Ga;replace amd:=fP X G amd;replace sf:=fP X G sf;replace wo:=fP X G wo;have afq:∃(o:Obj) (its:Array aj) (n:Nat),K.lookup t7=some o/\o.cls=.type "tuple"/\o.data=.seq its n/\its.size<=cG/\Vals ((["day","once"]:List Str).map V.str) its.toList:=⟨_,_,_,Jj,rfl,rfl,by show 2<=cG;decide,(.cons ⟨_,rfl⟩ (.cons ⟨_,rfl⟩ .nil))⟩;replace wm:=fP X G wm;have afp:∃(o:Obj) (its:Array aj) (n:Nat),K.lookup t6=some o/\o.cls=.type "tuple"/\o.data=.seq its n/\its.size<=cG/\Vals ((["inner","way"]:List Str).map V.str) its.toList:=⟨_,_,_,Ji,rfl,rfl,by show 2<=cG;decide,(.cons ⟨_,rfl⟩ (.cons ⟨_,rfl⟩ .nil))⟩;replace um:=fP X G um;have PH:∃(o:Obj) (its:Array aj) (n:Nat),K.lookup pv=some o/\o.cls=.type "tuple"/\o.data=.seq its n/\its.size<=cG/\Vals ((["shunt","free"]:List Str).map V.str) its.toList:=⟨_,_,_,Jh,rfl,rfl,by show 2<=cG;decide,(.cons ⟨_,rfl⟩ (.cons ⟨_,rfl⟩ .nil))⟩;have aY:=dp (st:=CH) b2 cS k1;have UR:=unop%bV (yi 0 aY (fP X G a1));have du:=dp (st:=yk) b4 c5 k2;have UW:=unop%bV (Lq 1 du (fP X G a2) rq (unop%mo UR) ft o2);have tT:=dp (st:=amo) w2 fH k3;have UM:=unop%bV (LL 0 tT (fP X G ho) ft);have nT:=dp (st:=B5) AU gF lI;have Ul:=unop%bV (af' 1 nT ⟨Iz,mb,lH,HC⟩ (fP X G EB) cC (unop%mo UM));have pa:=dp (st:=Cj) Ij jV k5;have DF:=unop%bV (rd 0 pa (⟨al3,Hg,k5⟩) cC);have MD:=dp (st:=tA) Ip zh Hz;have aln:=unop%bV (ajJ 0 MD (fP X G ly) ft lj);have UY:=unop%bV (Ku 0 MD (fP X G m4) ft lj);have pb:=dp (st:=Ck) Iq Fq AS;have Up:=unop%bV (KI 1 pb (⟨nZ,Hh,AS⟩) cC (unop%mo UY) (unop%mo DF));have VE:=dp (st:=u_) Ir Fs HA;have Us:=unop%bV (afT 0 VE ⟨IA,n0,Hi,HD⟩ (fP X G EC) aU rp rr lj);have U3:=dp (st:=B8) HE EG Ao;have mS:=unop%bV (g0 0 U3 (⟨m3,GR,Ao⟩) aU);have My:=dp (st:=ya) HF EH Hm;have yZ:=unop%bV (rh 0 My (fP X G amA));have MO:=Cr (P:=l.prog) (w:=w) (base:=base) (k:=0) My (fP X G amA) h4 ke;have U4:=dp (st:=BW) HG EI Ap;have Mv:=unop%bV (xO 0 U4 (⟨DY,i12,Ap⟩) aU);have U5:=dp (st:=B4) HH EJ Aq;have yY:=unop%bV (oQ 1 U5 (⟨DZ,GS,Aq⟩) aU (unop%mo Mv) (unop%mo mS));have U6:=dp (st:=BV) HI EK Ar;have Uu:=unop%bV (Ka 2 U6 (⟨D0,GU,Ar⟩) aU (unop%mo mS) (unop%mo yY));have U7:=dp (st:=BU) HJ EL As;have Uw:=unop%bV (J' 3 U7 (⟨D1,GV,As⟩) aU (unop%mo yZ) (unop%mo yY) (unop%mo mS) (unop%mo Uu));have U8:=dp (st:=B9) HK EM Au;have UG:=unop%bV (Kn 4 U8 (⟨D2,GW,Au⟩) aU (unop%mo mS) (unop%mo Uw));have U9:=dp (st:=CI) HL EN Hn;have UN:=unop%bV (Lc 0 U9 (fP X G D3));have U_:=dp (st:=BN) HM EO Av;have UE:=unop%bV (JZ 0 U_ (⟨D4,GX,Av⟩) aU);have U':=dp (st:=BL) HN EP Aw;have UJ:=unop%bV (JX 1 U' (⟨D5,GY,Aw⟩) aU (unop%mo mS) (unop%mo Mv) amd sf);have Va:=dp (st:=BJ) HO ER Ax
 have UD:=unop%bV (JW 1 Va (⟨D6,GZ,Ax⟩) aU (unop%mo yZ));have Vb:=dp (st:=u5) HP ES Ay;have Mu:=unop%bV (xI 0 Vb (⟨D7,G0,Ay⟩) aU);have Vc:=dp (st:=BI) HQ ET Az;have UL:=unop%bV (JV 2 Vc (⟨D8,G1,Az⟩) aU (unop%mo UD) (unop%mo Mu) wo afq);have Vd:=dp (st:=BK) HR EU AA;have Mw:=unop%bV (xF 2 Vd (⟨D9,G2,AA⟩) aU (unop%mo mS) (unop%mo Mu) (unop%mo yY) wm afp);have Ve:=dp (st:=BZ) HS EV AB;have Uy:=unop%bV (Kc 3 Ve (⟨D_,G3,AB⟩) aU (unop%mo mS) (unop%mo Mw));have Vf:=dp (st:=BR) HT EW AD;have Uz:=unop%bV (J6 1 Vf (⟨D',G4,AD⟩) aU (unop%mo mS));have Vg:=dp (st:=BS) HU EX AE;have Ux:=unop%bV (J_ 4 Vg (⟨Ea,G5,AE⟩) aU (unop%mo Uy) (unop%mo Uz) ami (unop%mo mS));have Vh:=dp (st:=BM) HV EY AF;have UI:=unop%bV (JY 5 Vh (⟨Eb,G6,AF⟩) aU (unop%mo UL) (unop%mo Ux) (unop%mo mS));have Vi:=dp (st:=B_) HW EZ AG;have Ut:=unop%bV (Ko 6 Vi (⟨Ec,G7,AG⟩) aU (unop%mo UN) (unop%mo mS) (unop%mo UE) (unop%mo UJ) (unop%mo UI));have Vj:=dp (st:=Cu) HX E0 Ho;have UX:=unop%bV (x_ 0 Vj (fP X G Ed) tF);have Vk:=dp (st:=BP) HY E1 AH;have Uv:=unop%bV (xH 1 Vk (⟨Ee,G8,AH⟩) aU (unop%mo UX));have Vl:=dp (st:=BO) HZ E2 AI;have UA:=unop%bV (J0 2 Vl (⟨Ef,G9,AI⟩) aU (unop%mo yY));have Vm:=dp (st:=BQ) H0 E3 AJ;have UB:=unop%bV (J5 3 Vm (⟨Eg,G_,AJ⟩) aU (unop%mo Mw) (unop%mo UA));have Vn:=dp (st:=B2) H2 E4 AK;have UK:=unop%bV (Ke 4 Vn (⟨Eh,G',AK⟩) aU (unop%mo Uv) (unop%mo UB));have Vo:=dp (st:=BY) H3 E5 AL;have UC:=unop%bV (Kb 7 Vo (⟨Ei,Ha,AL⟩) aU (unop%mo UG) (unop%mo Ut) (unop%mo UK));have Vp:=dp (st:=Cg) H4 E6 Hp;have DG:=unop%bV (tp 8 Vp (fP X G Ej) aU (unop%mo Us) (unop%mo UC));have Vq:=dp (st:=C2) H5 E7 Hq;have UZ:=unop%bV (LK 10 Vq (fP X G Ek) aU ft (unop%mo DG));have Vr:=dp (st:=CJ) H6 E8 AM;have Mt:=unop%bV (yj 0 Vr (⟨El,Hb,AM⟩) cC ft);have Vs:=dp (st:=CK) H7 E9 AN;have Uo:=unop%bV (Ld 11 Vs (⟨Em,Hc,AN⟩) cC (unop%mo UZ) (unop%mo Mt));have Vt:=dp (st:=B7) H8 E_ Hr;have UP:=unop%bV (mH 12 Vt (fP X G En) cC (unop%mo DF) (unop%mo Up) (unop%mo Uo) (unop%mo Mt));have Vu:=dp (st:=Cf) H9 Fb Hs;have UQ:=unop%bV (KG 0 Vu (fP X G Eo) nN);have Vv:=dp (st:=CF) H_ Fc Ht;have UT:=unop%bV (yh 1 Vv (fP X G Ep) (unop%mo UQ));have Vw:=dp (st:=CG) H' Fd Hu;have US:=unop%bV (Lb 0 Vw (fP X G Er) nN);have Vx:=dp (st:=nC) Ia Fe Hv;have Vy:=dp (st:=yp) Ib Ff Hw;have U0:=unop%bV (LJ 10 Vy (fP X G Et) aU ft (unop%mo DG));have Vz:=dp (st:=B3) Ic Fg AO;have UH:=unop%bV (Kf 0 Vz (⟨Eu,Hd,AO⟩) aU ft);have VA:=dp (st:=C7) Ie Fh Hx;have UO:=unop%bV (L9 10 VA (fP X G Ew) aU (unop%mo UH) (unop%mo DG));have VB:=dp (st:=Ca) Ig Fi AP;have vX:=unop%bV (p4 11 VB (⟨Ex,He,AP⟩) cC (unop%mo U0) (unop%mo UO) (unop%mo DF))
 have VC:=dp (st:=Ci) Ih Fj AQ;have Uq:=unop%bV (KH 12 VC (⟨Ey,Hf,AQ⟩) cC (unop%mo vX));have Mz:=dp (st:=amx) Ii Fl wX;have Ur:=unop%bV (KU 0 Mz (⟨y9,Ah,wX⟩) cC);have V2:=Kw (P:=l.prog) (w:=w) (mg:=mg) (base:=base) (k:=0) Mz (⟨y9,Ah,wX⟩) h4 eM cC;have MA:=dp (st:=xR) Ik Fm wY;have yX:=unop%bV (ti 1 MA (⟨y_,Ai,wY⟩) cC (unop%mo yZ));have DX:=va (P:=l.prog) (w:=w) (mg:=mg) (base:=base) (k:=1) MA (⟨y_,Ai,wY⟩) h4 ke cC (unop%mo yZ) (MO.mono (by decide));have MB:=dp (st:=x5) Il Fn wZ;have Un:=unop%bV (CA 12 MB (⟨y',Aj,wZ⟩) cC (unop%mo yX) (unop%mo vX));have V1:=Ce (P:=l.prog) (w:=w) (mg:=mg) (base:=base) (k:=12) MB (⟨y',Aj,wZ⟩) h4 ke cC (unop%mo yX) (unop%mo vX) (DX.mono (by decide));have MC:=dp (st:=x6) Im Fo w0;have Um:=unop%bV (KV 12 MC (⟨za,Ak,w0⟩) cC (unop%mo vX) (unop%mo yX) um PH);have V0:=Kx (P:=l.prog) (w:=w) (mg:=mg) (base:=base) (k:=12) MC (⟨za,Ak,w0⟩) h4 ke cC (unop%mo vX) (unop%mo yX) um PH (DX.mono (by decide));have alo:=dp (st:=al8) AV zg AR;have UU:=unop%bV (xZ 13 AV zg AR (fP X G Ez) F5 iw (by show _∈[(415,(("_law_one_deed":Str)++".<locals>.")++"<lambda>")];simp) (λp aC=>by have aC:p∈[(415,(("_law_one_deed":Str)++".<locals>.")++"<lambda>")]:=aC;simp only[cm,ee,or_false] at aC;rcases aC with rfl <;> first|(intro z;exact absurd z (by decide))|(intro _;rfl)) h4 ke eM (V0.mono (by decide)) (DX.mono (by decide)) (MO.mono (by decide)) (V1.mono (by decide)) (V2.mono (by decide)) cC (unop%mo US) Vx (fP X G Es) (unop%mo Uq) (unop%mo Ur) (unop%mo Un) (unop%mo Um));have VD:=dp (st:=amk) Io Fp Hy;exact ajE rfl (ale (k:=16) VD cC (unop%mo UW) (unop%mo Ul) (unop%mo UP) o2 (unop%mo UT) rt (unop%mo UU))
def walk{l:PySem.W.OpenLaw}{q:cA}{loose:List Str}{t5:(Str->Option aj)->bE->Prop}{nY:bZ->bE->Prop}{d:DefRec}{K:Params->a9}(a6:l.most=some 63)(wB:d.params.defaults=[])(hM:∀w:bZ,O2 (K w.params)=true)(Gd:∀(w:bZ) (h:bE),nY w h->(K w.params).In h)(ek:∀(w:bZ) (h:bE),nY w h->∀b∈[415],h.get? b=some (PySem.W.tabObj #[]))(wy:∀w:bZ,(([415]:List Nat).all λb=>((K w.params).lookup b).isNone)=true)(eZ:∀w:bZ,(([415]:List Nat).all λb=>(K w.params).any λp=>u4 (K w.params) p.1 b)=true)(F:∀(w:bZ) (mg:Str->Option aj) (bN:ag) (h:bE),(K w.params).In h->h.Ns iX mg->mg d.name=some (.ref bN) ->
   ∃fd:dV,(∀(s:aI) (u:aj),BindsTo s fd ⟨[u],[]⟩ [("_law_script",u)])/\∀base:bE,(K w.params).In base->base.Ns iX mg->nQ mg base->ez l.prog w (K w.params) mg base di 18 bN fd ["_law_script"] (@spT (nv [(415,(("_law_one_deed":Str)++".<locals>.")++"<lambda>")]) (K w.params) 1 vU)):
  PySem.W.WalkO q loose t5 nY l.row.toRowW d [] (λf vs=>PySem.call f vs):=
 ah2 (n:=63) (k:=18) (x:="_law_script") (ts:=[415]) (d6:=λ_=>di) (sp:=λw=>@spT (nv [(415,(("_law_one_deed":Str)++".<locals>.")++"<lambda>")]) (K w.params) 1 vU) a6 (by decide) wB ⟨rfl,by decide,by decide,rfl⟩ Gd ek (λw b U=>Option.isNone_iff_eq_none.mp (List.all_eq_true.mp (wy w) b U)) (λw b U=>by
  obtain⟨p,_,aC⟩:=List.any_eq_true.mp (List.all_eq_true.mp (eZ w) b U);exact⟨p.1,aC⟩) F (λw H a ns aB jY e9=>ahl (t:=nv [(415,(("_law_one_deed":Str)++".<locals>.")++"<lambda>")]) (λp aC=>by have aC:p∈[(415,(("_law_one_deed":Str)++".<locals>.")++"<lambda>")]:=aC;simp only[cm,ee,or_false] at aC;rcases aC with rfl <;> simp) jY (hM w) (aiC ns aB) e9) λ_ _ _ _ _ z=>z
end pf
open PySem PySem.W PyProof.Rows
set_option maxRecDepth 100000 in
set_option maxHeartbeats 0 in
theorem PySem.Challenge.cw_doorwatch_k42_whole_asked_twice_holds : PySem.Challenge.rw_doorwatch_k42_whole_asked_twice.Holds := by
 w_on;o_law;k_head;(case hw=>w_witness2)
 k_fill
 refine pf.walk (l:=PySem.Challenge.rw_doorwatch_k42_whole_asked_twice) rfl rfl ?L (λw h Y=>PySem.W.km_in_of Y) (λw h Y=>PySem.W.km_tabs_of Y) ?VL ?eh ?F
 case L=>
  intro w
  first|rfl|(with_unfolding_all rfl)|kernel_rfl
 case VL=>
  intro w
  first|rfl|(with_unfolding_all rfl)|kernel_rfl
 case eh=>
  intro w
  first|rfl|(with_unfolding_all rfl)|kernel_rfl
 case F=>
  intro w mg bN h kc G wH;refine' pf.all_mk kc G wH ?EC ?Jc ?Gj ?Jg ?Jt ?IA ?HD ?IL ?IM ?IT ?IU ?IV ?IW ?IX ?IY ?IZ ?I0 ?IP ?IQ ?IS ?EB ?Jb ?Gi ?Jf ?Js ?Iz ?HC ?II ?IJ ?IK ?a1 ?b2 ?cS ?k1 ?a2 ?b4 ?c5 ?k2 ?ho ?w2 ?fH ?k3 ?mb ?lH ?AU ?gF ?lI ?al3 ?Hg ?Ij ?jV ?k5 ?ly ?Ip ?zh ?Hz ?m4 ?nZ ?Hh ?Iq ?Fq ?AS ?n0 ?Hi ?Ir ?Fs ?HA ?m3 ?GR ?HE ?EG ?Ao ?amA ?HF ?EH ?Hm ?DY ?i12 ?HG ?EI ?Ap ?DZ ?GS ?HH ?EJ ?Aq ?D0 ?GU ?HI ?EK ?Ar ?D1 ?GV ?HJ ?EL ?As ?D2 ?GW ?HK ?EM ?Au ?D3 ?HL ?EN ?Hn ?D4 ?GX ?HM ?EO ?Av ?D5 ?GY ?HN ?EP ?Aw ?D6 ?GZ ?HO ?ER ?Ax ?D7 ?G0 ?HP ?ES ?Ay ?D8 ?G1 ?HQ ?ET ?Az ?D9 ?G2 ?HR ?EU ?AA ?D_ ?G3 ?HS ?EV ?AB ?D' ?G4 ?HT ?EW ?AD ?Ea ?G5 ?HU ?EX ?AE ?Eb ?G6 ?HV ?EY ?AF ?Ec ?G7 ?HW ?EZ ?AG ?Ed ?HX ?E0 ?Ho ?Ee ?G8 ?HY ?E1 ?AH ?Ef ?G9 ?HZ ?E2 ?AI ?Eg ?G_ ?H0 ?E3 ?AJ ?Eh ?G' ?H2 ?E4 ?AK ?Ei ?Ha ?H3 ?E5 ?AL ?Ej ?H4 ?E6 ?Hp ?Ek ?H5 ?E7 ?Hq ?El ?Hb ?H6 ?E8 ?AM ?Em ?Hc ?H7 ?E9 ?AN ?En ?H8 ?E_ ?Hr ?Eo ?H9 ?Fb ?Hs ?Ep ?H_ ?Fc ?Ht ?Er ?H' ?Fd ?Hu ?Es ?Ia ?Fe ?Hv ?Et ?Ib ?Ff ?Hw ?Eu ?Hd ?Ic ?Fg ?AO ?Ew ?Ie ?Fh ?Hx ?Ex ?He ?Ig ?Fi ?AP ?Ey ?Hf ?Ih ?Fj ?AQ ?y9 ?Ah ?Ii ?Fl ?wX ?y_ ?Ai ?Ik ?Fm ?wY ?y' ?Aj ?Il ?Fn ?wZ ?za ?Ak ?Im ?Fo ?w0 ?Ez ?AV ?zg ?AR ?EA ?Io ?Fp ?Hy ?rq ?ft ?o2 ?lj ?rp ?rr ?ami ?tF ?nN ?rt ?amd ?sf ?wo ?Jj ?wm ?Ji ?um ?Jh ?F5 ?IF ?IH ?IG ?F8 ?Gb ?Ga
  (case F5=>first|kernel_rfl|rfl|(with_unfolding_all rfl))
  (case F8=>first|kernel_rfl|rfl|(with_unfolding_all rfl))
  (case Gb=>first|kernel_rfl|rfl|(with_unfolding_all rfl))
  (case Ga=>first|kernel_rfl|rfl|(with_unfolding_all rfl))
  (case EC|Jc|Gj|Jg|Jt|IA|HD|IL|IM|IT|IU|IV|IW|IX|IY|IZ|I0|IP|IQ|IS|EB|Jb|Gi|Jf|Js|Iz|HC|II|IJ=>k_is)
  (case IK|a1|b2|cS|k1|a2|b4|c5|k2|ho|w2|fH|k3|mb|lH|AU|gF|lI|al3|Hg|Ij|jV|k5|ly|Ip|zh|Hz|m4|nZ|Hh|Iq|Fq|AS|n0|Hi|Ir|Fs|HA|m3|GR|HE|EG|Ao|amA|HF|EH|Hm|DY|i12|HG|EI|Ap|DZ|GS|HH|EJ|Aq=>k_is)
  (case D0|GU|HI|EK|Ar|D1|GV|HJ|EL|As|D2|GW|HK|EM|Au|D3|HL|EN|Hn|D4|GX|HM|EO|Av|D5|GY|HN|EP|Aw|D6|GZ|HO|ER|Ax|D7|G0|HP|ES|Ay|D8|G1|HQ|ET|Az|D9|G2|HR|EU|AA|D_|G3=>k_is)
  (case HS|EV|AB|D'|G4|HT|EW|AD|Ea|G5|HU|EX|AE|Eb|G6|HV|EY|AF|Ec|G7|HW|EZ|AG|Ed|HX|E0|Ho|Ee|G8|HY|E1|AH|Ef|G9|HZ|E2|AI|Eg|G_|H0|E3|AJ|Eh|G'|H2|E4|AK|Ei|Ha|H3|E5=>k_is)
  (case AL|Ej|H4|E6|Hp|Ek|H5|E7|Hq|El|Hb|H6|E8|AM|Em|Hc|H7|E9|AN|En|H8|E_|Hr|Eo|H9|Fb|Hs|Ep|H_|Fc|Ht|Er|H'|Fd|Hu|Es|Ia|Fe|Hv|Et|Ib|Ff|Hw|Eu|Hd|Ic|Fg|AO|Ew|Ie|Fh=>k_is)
  (case Hx|Ex|He|Ig|Fi|AP|Ey|Hf|Ih|Fj|AQ|y9|Ah|Ii|Fl|wX|y_|Ai|Ik|Fm|wY|y'|Aj|Il|Fn|wZ|za|Ak|Im|Fo|w0|Ez|AV|zg|AR|EA|Io|Fp|Hy|rq|ft|o2|lj|rp|rr|ami=>k_is)
  (case tF|nN|rt|amd|sf|wo|Jj|wm|Ji|um|Jh|IF|IH|IG=>k_is)
end
end
