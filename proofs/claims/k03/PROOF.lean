import PyProof.Rows.All
import Wide.All
import OpenK.AllK
import Wide.FinOn
import Lean
import PyProof.EqAt
import PyProof.EqKinds
import PyProof.TupleCall
import PyProof.P3Statements
import KE.KSortTup
import PyProof.AttrMissHeap
import PyProof.ZipIter
import PyProof.Draws
import PyProof.ListMulRoad
import Wide.Seal
import KE.KLam
import KE.KNest
import KE.KNestM
import KE.KIsAll
import PyProof.ExcArgs
import PyProof.ReprStr
import PyProof.FString
import PyProof.FitsInt
import KE.KMinKey
import KE.KIntText
import KE.IntTextText
import PySem.Challenge.RW_doorwatch_k03_lists_anywhere
set_option Elab.async false
set_option linter.all false
set_option compiler.extract_closed false
set_option genSizeOfSpec false
set_option maxRecDepth 100000
set_option maxHeartbeats 0
open PySem renaming Value → aj, Addr → ai, Around → cN, World → bY, Heap → bk, Expr → a8
open PySem.W renaming Frag → bc, keepIn → oi, codeIn → qU, fnOf → j_, mg_of → dj, mg_none_of → jd, kitOne → sv, codeHdIn → q2
open Option renaming bind_eq_some_iff → c0, map_eq_some_iff → gh, bind_some → br, map_some → c2
open PySem renaming wpAny_bind → aI, Shared → aG, wpAny_pure → bq, starEach → bQ, FuncData → e1, sizeLine → cV, mainGlobals → h9, Program → cH, wpAny → a4, wpAny_mono → g_, mem_of_lookup → aeG, wpAny_holding → qZ, backTo → gk, wpAny_Call_Name_kw → sr, wpAny_field → ib, wpAny_callSpecial?_slot → l1, wpAny_seqItems → pB, wpAny_pyIter_tuple → su, compareOp → fZ, codeAny_builtin → q0, wpAny_newObj_type → l2, codeAny_mono → m1, wpAny_call_entry → jL, wpAny_setField_rec → kY, behindInMarks → m2, wpAny_truthy_bool → m3, codeAny → ic, assignEach → l3, binaryOp → kZ, NameKind → ka, model → bh, foldedSetIterable → q1, rawInt → eU
open PySem.Heap renaming get?_push_of_some → cp, lt_size → cv, get?_push_size → eQ, size_push → gA, get?_update_other → q3
open List renaming mem_cons_of_mem → gz, mem_cons → bS, map_cons → eK, mem_cons_self → mV, replicate → jc, size_toArray → er, getElem?_eq_some_iff → e2, mem_map → ei, nodup_cons → u4, getElem?_eq_getElem → ft, length_cons → gi, mem_singleton → gj, mem_append → mW, length_map → ej, getElem?_map → kW, pairwise_cons → iz, map_nil → om, mem_append_right → mY, lookup_cons → l0, set_cons_zero → oo, set_cons_succ → oq, getElem?_append_right → u5, getElem?_append_left → yb, mem_of_getElem? → qW, append_nil → pz, zip_cons_cons → yc, length_append → qX, not_mem_nil → d8, getElem?_cons_zero → ha, getElem?_cons_succ → u_, length_nil → qY, map_map → iD
open Nat renaming le_refl → c_, lt_of_lt_of_le → g9, ne_of_lt → cX, ne_of_gt → mX, le_trans → j', zero_le → jK, le_succ → pA, le_add_right → hH
open PySem.Builtin.SmallTypes renaming nextOf → oj, ownedTupleIsFree → x9
open PySem.Builtin.Tuple renaming tupleExact → x_
open Function renaming comp_def → qV
open Bool renaming and_eq_true → cJ, false_eq_true → je
open PySem.PyData renaming depthAll → h_, canLayAll0 → iA, str → jf, eqv → fu, depth → jg
open PyProof.Rows renaming slot_tuple_getitem → x', callWith_type1 → u6
open PySem.Builtin.Slice renaming slicePlaces → ya
open Array renaming getElem?_eq_getElem → ot, length_toList → hG
open PySem.Around renaming under_plainId → u7
open False renaming elim → eL
open PySem.PassesOwn renaming never → mZ
open PySem.F renaming slot_tuple_iterator_next → yd
open Option.some renaming inj → ia
open Int renaming emod_nonneg → iC, emod_lt_of_pos → kX
namespace PySem.W.Fast
def tw7201907407113812066:=0
def tw4616361300165264490:=0
def tw16956056780644855588:=0
def tw17803582101283468743:=0
def tw5993428427994004076:=0
def tw281970544375433089:=0
def tw1293592104467841601:=0
def tw2737610181860479911:=0
def tw11683563166460682924:=0
def tw18182276193521988198:=0
def tw17515523422499012950:=0
def tw14012240133535750670:=0
def tw13979674853735214836:=0
def tw8432602345518459090:=0
def tw11791744569897532923:=0
def tw1797111247921369336:=0
def tw2370641130211788633:=0
def tw16728099474524807995:=0
def tw1855286764406846607:=0
def tw11888247726414433809:=0
def tw4532080558049368380:=0
def tw6125290468621898841:=0
def tw9930997732224714936:=0
def tw5361604472056724376:=0
def tw6172569985939964592:=0
def tw1388633028325850097:=0
def tw15455489278313344710:=0
def tw12039868062609328306:=0
def tw8147205675883520107:=0
def tw631493536821738616:=0
def tw3385126989279956116:=0
def tw14016059022294033015:=0
def tw2494357414198984270:=0
def tw6275048887703116461:=0
def tw5865744382696484431:=0
def tw7492825101976747795:=0
def tw10871606243613773154:=0
def tw18032199697959584824:=0
def tw13144175289572168742:=0
def tw13364621544364388272:=0
def tw13093050764683634630:=0
def tw2608044322660999861:=0
def tw11794507369213508873:=0
def tw7767732096617568668:=0
def tw4421445328780619791:=0
def tw3550605220918702821:=0
def tw16515051806290895257:=0
def tw3336658885806761365:=0
def tw12998003414654537856:=0
def tw7188489077368991779:=0
def tw16402713736602581565:=0
def tw244880054542426054:=0
def tw12148072744491595704:=0
def tw9729757810721629458:=0
def tw13853482096893327814:=0
def tw6289164905427405336:=0
def tw7810952887678429166:=0
def tw10196336553504222089:=0
def tw9708391239348744899:=0
def tw4360754375341692543:=0
def tw15092741817075677544:=0
def tw2067945398443827645:=0
def tw2914233591539882374:=0
def tw566503827168993332:=0
def tw11289608072013978604:=0
def tw2933852063273277559:=0
def tw17430223785688444178:=0
def tw10807134546144022116:=0
def tw8753986736458829027:=0
def tw9467056163592903535:=0
def tw5739899223121472358:=0
def tw6062193355498183583:=0
def tw15284105471057002274:=0
def tw3755791821292481537:=0
def tw1976005652299906547:=0
def tw8589006171368074938:=0
def tw7756548088088707807:=0
def tw5110723168472128711:=0
def tw419264785245836513:=0
def tw9467373484231593854:=0
def tw469662429807651995:=0
def tw8434209593073959707:=0
def tw9976570026094327559:=0
def tw15416139349027865309:=0
def tw7350215783931795458:=0
def tw15710408432215329313:=0
def tw4148574291625839036:=0
def tw16025791043487975663:=0
def tw730345596944817801:=0
def tw17469705278521663278:=0
def tw14252587324372450619:=0
def tw9521153427868069995:=0
def tw12543513097984905725:=0
def tw3715170829513419386:=0
def tw9515941812607071382:=0
def tw7780814016957549439:=0
def tw15756261660352356718:=0
def tw13417071349141370504:=0
def tw4637466814293009578:=0
def tw1054603095585000434:=0
def tw17588012640840854635:=0
end PySem.W.Fast
noncomputable section
section
namespace bu
open PySem PySem.Spec PyProof.Rows
abbrev Key:=Sum Int Str
def ro:Key->aj->Bool
|.inl k,v=>Value.isInt k v
|.inr x,v=>Value.isStrOf x v
def SS(w:bY):Key->Int
|.inl k=>hashInt k
|.inr x=>hashStr w x
def l5:∀{k:Key} {v:aj},ro k v=true->(∃i t,k=Sum.inl i/\v=Value.int i t)\/(∃x t,k=Sum.inr x/\v=Value.str x t)
|.inl i,v,h=>by
  obtain⟨t,e⟩:=Value.isInt_shape (k:=i) (v:=v) h;exact .inl ⟨i,t,rfl,e⟩
|.inr x,v,h=>by
  obtain⟨t,e⟩:=Value.isStrOf_shape (x:=x) (v:=v) h;exact .inr ⟨x,t,rfl,e⟩
def aac(i:Int)(t:Tok):ro (.inl i) (.int i t)=true:=by simp[ro,Value.isInt]
def aab(x:Str)(t:Tok):ro (.inr x) (.str x t)=true:=by simp[ro,Value.isStrOf]
def adf(a b:Int):decide ((Sum.inl a:Key)=Sum.inl b)=(a==b):=by
 by_cases e:a=b
 ·subst e;simp
 ·have h:¬(Sum.inl a:Key)=Sum.inl b:=λq=>e (Sum.inl.inj q);rw[decide_eq_false h];exact (beq_eq_false_iff_ne.mpr e).symm
def ada(a b:Str):decide ((Sum.inr a:Key)=Sum.inr b)=decide (a=b):=by
 by_cases e:a=b
 ·subst e;simp
 ·have h:¬(Sum.inr a:Key)=Sum.inr b:=λq=>e (Sum.inr.inj q);rw[decide_eq_false h,decide_eq_false e]
def ade(a:Int)(b:Str):decide ((Sum.inl a:Key)=Sum.inr b)=false:=decide_eq_false (λq=>nomatch q)
def adb(a:Str)(b:Int):decide ((Sum.inr a:Key)=Sum.inl b)=false:=decide_eq_false (λq=>nomatch q)
noncomputable def jN(prog:cH)(w:bY):PySem.KeyKind prog w Key where
 is:=ro
 hash:=SS w
 inj:=λv a b az ae=>by
  rcases l5 az with ⟨i,t,rfl,rfl⟩|⟨x,t,rfl,rfl⟩
  ·rcases l5 ae with ⟨j,u,rfl,e⟩|⟨y,u,rfl,e⟩
   ·injection e with aC _;rw[aC]
   ·exact nomatch e
  ·rcases l5 ae with ⟨j,u,rfl,e⟩|⟨y,u,rfl,e⟩
   ·exact nomatch e
   ·injection e with aC _;rw[aC]
 byValue:=λk v h=>by
  rcases l5 h with ⟨i,t,rfl,rfl⟩|⟨x,t,rfl,rfl⟩ <;> rfl
 pyHash:=λbj h=>by
  rcases l5 bj with ⟨i,t,rfl,rfl⟩|⟨x,t,rfl,rfl⟩
  ·exact wpAny_pyHash_int h
  ·exact wpAny_pyHash_str h
 eqBool:=λbw bj h=>by
  rcases l5 bw with ⟨i,t,rfl,rfl⟩|⟨x,t,rfl,rfl⟩
  ·rcases l5 bj with ⟨j,u,rfl,rfl⟩|⟨y,u,rfl,rfl⟩
   ·rw[adf] at h;exact wpAny_eqBool_int h
   ·rw[ade] at h;exact SeqAt.EqAt.int_str i t y u _ _ _ _ h
  ·rcases l5 bj with ⟨j,u,rfl,rfl⟩|⟨y,u,rfl,rfl⟩
   ·rw[adb] at h;exact SeqAt.EqAt.str_int x t j u _ _ _ _ h
   ·rw[ada] at h;exact wpAny_eqBool_str h
 «strs»:=λk x t v h=>by
  rcases l5 h with ⟨i,u,rfl,e⟩|⟨y,u,rfl,e⟩
  ·exact nomatch e
  ·injection e with aC _
   subst aC;cases v <;> rfl
def Kj(prog:cH)(w:bY)(k:Key)(v:aj):(jN prog w).is k v=ro k v:=rfl
def Zu(prog:cH)(w:bY)(i:Int)(t:Tok):(jN prog w).is (.inl i) (.int i t)=true:=aac i t
def Zt(prog:cH)(w:bY)(x:Str)(t:Tok):(jN prog w).is (.inr x) (.str x t)=true:=aab x t
end bu
namespace bu
open PySem PySem.Spec PyProof.Rows
inductive V where
|gb|bL (b:Bool)|int (i:Int)|str (x:Str)|wK (b:Array UInt8)|w7 (b:UInt64)|ref (a:ai)|ty (n:String)
 deriving DecidableEq
noncomputable def RelV:V->aj->Prop
|.gb,u=>u=Value.none
|.bL b,u=>u=Value.bool b
|.int i,u=>∃t,u=Value.int i t
|.str x,u=>∃t,u=Value.str x t
|.wK b,u=>∃t,u=Value.bytes b t
|.w7 b,u=>∃t,u=Value.float b t
|.ref a,u=>u=Value.ref a
|.ty n,u=>u=Value.type n
abbrev Vals:List V->List aj->Prop:=Paired RelV
theorem Vals.length{xs:List V}{us:List aj}(r:Vals xs us):xs.length=us.length:=Paired.length r
theorem Vals.get:∀{xs:List V} {us:List aj} {i:Nat} {x:V},Vals xs us->xs[i]?=some x->∃u,us[i]?=some u/\RelV x u
|_,_,_,_,.nil,e=>by simp at e
|_,_,0,_,.cons r _,e=>by simp at e;subst e;exact⟨_,rfl,r⟩
|_,_,i+1,x,.cons _ t,e=>by
  obtain⟨u,af,ao⟩:=Vals.get (i:=i) (x:=x) t (by simpa using e);exact⟨u,by simpa using af,ao⟩
theorem Vals.append:∀{xs ys:List V} {us ws:List aj},Vals xs us->Vals ys ws->Vals (xs++ys) (us++ws)
|_,_,_,_,.nil,s=>s
|_,_,_,_,.cons r t,s=>.cons r (Vals.append t s)
theorem Vals.take:∀{xs:List V} {us:List aj} (n:Nat),Vals xs us->Vals (xs.take n) (us.take n)
|_,_,0,_=>.nil
|_,_,_+1,.nil=>.nil
|_,_,n+1,.cons r t=>.cons r (Vals.take n t)
theorem Vals.drop:∀{xs:List V} {us:List aj} (n:Nat),Vals xs us->Vals (xs.drop n) (us.drop n)
|_,_,0,r=>r
|_,_,_+1,.nil=>.nil
|_,_,n+1,.cons _ t=>Vals.drop n t
def GQ:Option V->Option aj->Prop
|some v,some u=>RelV v u
|none,none=>True
|_,_=>False
def NS{zv:Type}:List (zv×V)->List (zv×aj)->Prop:=Paired λ(p:zv×V) (q:zv×aj)=>p.1=q.1/\RelV p.2 q.2
def eJ:Key->V
|.inl i=>.int i
|.inr x=>.str x
inductive el where
|lst (xs:List V)
|tup (xs:List V)
|lp (d5:List (Key×V))|wQ (d5:List (List Key×V))
|set (S:Int->Bool) (n:Nat)
|ins (C hX:ai) (fs:List (Str×V))
|own (x:ai)
|EK (fs:List (Str×V))
|met (f x:ai)
|kR (lo hi:Int)
|lC (o:Obj) (u:el)
|gN (ps:Array aj)
|ext (ng:bk->Prop)
abbrev aD:=ai->Option el
def upd(H:aD)(a:ai)(o:el):aD:=λb=>if b=a then some o else H b
def es{H:aD}{a:ai}{o:el}:upd H a o a=some o:=by unfold upd;rw[if_pos rfl]
def ck{H:aD}{a b:ai}{o:el}(h:b≠a):upd H a o b=H b:=by unfold upd;rw[if_neg h]
def fD{H:aD}{a b:ai}{o:el}(h:H a=some o)(h':H b=none):a≠b:=by
 intro e;subst e;rw[h] at h';cases h'
section
variable (P:cH)(w:bY)
noncomputable def jq(H:aD)(h:bk)(a:ai):el->Prop
|.lst xs=>xs.length<=cV/\∃(its:List aj) (n:Nat),Vals xs its/\h.get? a=some {cls:=.type "list",data:=.seq its.toArray n}
|.tup xs=>xs.length<=cV/\∃its:List aj,Vals xs its/\IsTup h a its.toArray
|.lp d5=>d5.length<=cV/\(a==sysModules)=false/\∃vs,NS d5 vs/\h.DictOf (jN P w) a vs
|.wQ d5=>d5.length<=cV/\(a==sysModules)=false/\∃xs:List (List Key×ai×aj),
   Paired (λ(p:List Key×V) (q:List Key×ai×aj)=>p.1=q.1/\H q.2.1=some (.tup (p.1.map eJ))/\RelV p.2 q.2.2) d5 xs /\
   ∃o av ep,h.get? a=some o/\o.ExactDict/\o.data=.dict av ep/\av.toList=xs.map (entryOfKey (tupleKind (jN P w)))/\(xs.map (·.1)).Nodup
|.set S n=>h.SetOf (intKind P w) a S n
|.ins C hX fs=>H hX=some (.own a)/\fs.length<=1000/\hX≠a/\h.get? a=some (PySem.W.instObj C hX) /\
   ∃mP,h.Ns1 hX mP/\(∀f,GQ (fs.lookup f) (mP f))/\PySem.Within mP (fs.map (·.1))
|.own _=>∃o,h.get? a=some o
|.EK fs=>∃mP,h.Ns1 a mP/\∀f,GQ (fs.lookup f) (mP f)
|.kR lo hi=>∃t u v,h.get? a=some {cls:=.type "range",data:=.fields #[.int lo t,.int hi u,.int 1 v]}
|.lC o u=>h.get? a=some o/\jq H h a u
|.gN ps=>h.get? a=some {cls:=.none,data:=.fields ps}
|.met f x=>h.get? a=some (PySem.W.methodObj (.ref f) (.ref x))
|.ext ng=>ng h/\(∃o,h.get? a=some o)/\∀af ao:bk,ng af->(∀o,af.get? a=some o->ao.get? a=some o)->ng ao
def e3(H:aD)(h:bk):Prop:=∀a o,H a=some o->jq P w H h a o
end
section
variable {P:cH}{w:bY}{H ah:aD}{h h':bk}{a:ai}{o:el}
theorem jq.lt(x:jq P w H h a o):a<h.objs.size:=by
 cases o with
|lst xs=>obtain⟨_,_,_,_,e⟩:=x;exact cv e
|tup xs=>obtain⟨_,_,_,p⟩:=x;exact p.lt
|lp d5=>obtain⟨_,_,_,_,o,_,_,e,_⟩:=x;exact cv e
|wQ d5=>obtain⟨_,_,_,_,o,_,_,e,_⟩:=x;exact cv e
|set S n=>obtain⟨o,_,_,_,e,_⟩:=x;exact cv e
|ins C hX fs=>obtain⟨_,_,_,e,_⟩:=x;exact cv e
|own y=>obtain⟨_,e⟩:=x;exact cv e
|EK fs=>obtain⟨_,⟨_,_,_,e,_⟩,_⟩:=x;exact cv e
|kR lo hi=>obtain⟨_,_,_,e⟩:=x;exact cv e
|lC dB u=>obtain⟨e,_⟩:=x;exact cv e
|gN ps=>exact cv (show h.get? a=some _ from x)
|met f y=>exact cv (show h.get? a=some _ from x)
|ext ng=>obtain⟨_,⟨_,e⟩,_⟩:=x;exact cv e
theorem Paired.IP{α β:Type}{F G:α->β->Prop}:∀{IL:List α} {l₂:List β},Paired F IL l₂->(∀a b,F a b->G a b)->Paired G IL l₂
|_,_,.nil,_=>.nil
|_,_,.cons r t,f=>.cons (f _ _ r) (Paired.IP t f)
def jq.lW(x:jq P w H h a o)(k:∀b u,(b=a\/H b=some (.own a))->h.get? b=some u->h'.get? b=some u)
  (aQ:∀b,H b=some (.own a)->ah b=some (.own a)) (aM:∀b xs,H b=some (.tup xs)->ah b=some (.tup xs)):jq P w ah h' a o:=by
 induction o with
|lst xs=>obtain⟨z,its,n,r,e⟩:=x;exact⟨z,its,n,r,k _ _ (.inl rfl) e⟩
|tup xs=>obtain⟨z,its,r,dB,e,c⟩:=x;exact⟨z,its,r,dB,k _ _ (.inl rfl) e,c⟩
|lp d5=>obtain⟨z,y,vs,r,dB,av,ep,e,c⟩:=x;exact⟨z,y,vs,r,dB,av,ep,k _ _ (.inl rfl) e,c⟩
|wQ d5=>
  obtain⟨z,y,xs,r,dB,av,ep,e,c⟩:=x;exact⟨z,y,xs,Paired.IP r λp q z=>⟨z.1,aM _ _ z.2.1,z.2.2⟩,dB,av,ep,k _ _ (.inl rfl) e,c⟩
|set S n=>obtain⟨dB,av,ep,t,e,c⟩:=x;exact⟨dB,av,ep,t,k _ _ (.inl rfl) e,c⟩
|ins C hX fs=>
  obtain⟨d,z,ne,e,mP,⟨gx,av,ep,aR,c⟩,r⟩:=x;exact⟨aQ _ d,z,ne,k _ _ (.inl rfl) e,mP,⟨gx,av,ep,k _ _ (.inr d) aR,c⟩,r⟩
|own y=>obtain⟨dB,e⟩:=x;exact⟨dB,k _ _ (.inl rfl) e⟩
|EK fs=>obtain⟨mP,⟨gx,av,ep,e,c⟩,r⟩:=x;exact⟨mP,⟨gx,av,ep,k _ _ (.inl rfl) e,c⟩,r⟩
|kR lo hi=>obtain⟨t,u,v,e⟩:=x;exact⟨t,u,v,k _ _ (.inl rfl) e⟩
|lC dB u cK=>obtain⟨e,q⟩:=x;exact⟨k _ _ (.inl rfl) e,cK q⟩
|gN ps=>
  have e:h.get? a=some {cls:=.none,data:=.fields ps}:=x;show h'.get? a=some {cls:=.none,data:=.fields ps};exact k a _ (.inl rfl) e
|met f y=>
  have e:h.get? a=some (PySem.W.methodObj (.ref f) (.ref y)):=x;show h'.get? a=some (PySem.W.methodObj (.ref f) (.ref y));exact k a _ (.inl rfl) e
|ext ng=>obtain⟨p,⟨o,e⟩,st⟩:=x;exact⟨st _ _ p λo q=>k _ _ (.inl rfl) q,⟨o,k _ _ (.inl rfl) e⟩,st⟩
theorem e3.lt(x:e3 P w H h)(e:H a=some o):a<h.objs.size:=(x a o e).lt
def e3.fresh(x:e3 P w H h)(e:h.objs.size<=a):H a=none:=by
 cases q:H a with
|none=>rfl
|some u=>exact absurd (g9 (x.lt q) e) (Nat.lt_irrefl _)
def e3.kept(x:e3 P w H h)(k:∀b u,h.get? b=some u->h'.get? b=some u):e3 P w H h':=λa o e=>
 (x a o e).lW (λb u _ q=>k b u q) (λ_ q=>q) λ_ _ q=>q
def e3.laid(x:e3 P w H h)(k:∀b u,h.get? b=some u->h'.get? b=some u)(aE:h.objs.size<=a)(new:jq P w (upd H a o) h' a o):e3 P w (upd H a o) h':=λb u e=>by
 have a_:=x.fresh aE;by_cases ae:b=a
 ·subst ae;rw[es] at e;cases e;exact new
 ·rw[ck ae] at e;exact (x b u e).lW (λc v _ q=>k c v q) (λc q=>by rw[ck (fD q a_)];exact q) λc xs q=>by rw[ck (fD q a_)];exact q
end
def fk(H:aD)(a:ai)(u:el):Prop:=H a=some u\/∃o,H a=some (.lC o u)
def fk.ok{P:cH}{w:bY}{H:aD}{h:bk}{a:ai}{u:el}(r:fk H a u)(x:e3 P w H h):jq P w H h a u:=by
 rcases r with r|⟨o,r⟩
 ·exact x a u r
 ·obtain⟨_,q⟩:=x a _ r;exact q
def wD:Option el->Prop
|some (.lst _)=>True
|some (.lp _)=>True
|some (.wQ _)=>True
|some (.set _ _)=>True
|some (.ins _ _ _)=>True
|some (.ext _)=>True
|_=>False
section
variable {P:cH}{w:bY}{H:aD}{h h':bk}{x e:ai}{d6:el}
def e3.write(ok:e3 P w H h)(kK:wD (H x))(he:e=x\/H e=some (.own x))(k:∀b u,b≠e->h.get? b=some u->h'.get? b=some u)(nT:∃u,h'.get? e=some u)
  (new:jq P w (upd H x d6) h' x d6):e3 P w (upd H x d6) h':=λb u q=>by
 have I1:∀c y,H c=some (.own y)->c≠x:=λc y r z=>by subst z;rw[r] at kK;exact kK
 have Ts:∀c xs,H c=some (.tup xs)->c≠x:=λc xs r z=>by subst z;rw[r] at kK;exact kK
 by_cases ae:b=x
 ·subst ae;rw[es] at q;cases q;exact new
 ·rw[ck ae] at q;by_cases qi:b=e
  ·have di:H b=some (.own x):=by
    rcases he with z|z
    ·exact absurd (qi.trans z) ae
    ·rw[qi];exact z
   rw[q] at di;cases di;obtain⟨v,bj⟩:=nT;exact⟨v,by rw[qi];exact bj⟩
  ·refine (ok b u q).lW (λc v au r=>k c v ?_ r) (λc r=>by rw[ck (I1 c b r)];exact r) λc xs r=>by rw[ck (Ts c xs r)];exact r
   rcases au with rfl|au
   ·exact qi
   ·rintro rfl;rcases he with z|z
    ·exact I1 c b au z
    ·rw[au] at z;cases z;exact ae rfl
end
structure eY(fs ex:List ai)(H ah:aD)(h h':bk):Prop where
 keep:∀b o,h.get? b=some o->H b=none->b∉fs->b∉ex->h'.get? b=some o
 slot:∀b o,h.get? b=some o->H b=none->b∈fs->b∉ex->∃bx,h'.get? b=some {o with slots:=bx}
 free:∀b o,h.get? b=some o->H b=none->b∉ex->ah b=none
 there:∀b o,h.get? b=some o->b∉ex->∃d6,h'.get? b=some d6
 od:∀b xs,H b=some (.tup xs)->ah b=some (.tup xs)
 mH:∀b o u,H b=some (.lC o u)->ah b=some (.lC o u)
 mS:∀b ps,H b=some (.gN ps)->∃more,ah b=some (.gN (ps++more))
section
variable {fs aea ex ad':List ai}{H H1 bt:aD}{h af ao h':bk}{a x e:ai}{o:el}
def eY.any(u:eY fs ex H H1 h af){b:ai}{dB:Obj}(q:h.get? b=some dB)(n:H b=none)(hx:b∉ex):∃bx,af.get? b=some {dB with slots:=bx}:=by
 by_cases ae:b∈fs
 ·exact u.slot b dB q n ae hx
 ·exact⟨dB.slots,u.keep b dB q n ae hx⟩
def eY.kept(k:∀b u,h.get? b=some u->h'.get? b=some u):eY fs ex H H h h':=
 ⟨λb dB q _ _ _=>k b dB q,λb dB q _ _ _=>⟨dB.slots,k b dB q⟩,λ_ _ _ n _=>n,λb dB q _=>⟨dB,k b dB q⟩,λ_ _ q=>q,λ_ _ _ q=>q,λ_ ps q=>⟨#[],by rw[q];simp⟩⟩
def eY.refl:eY fs ex H H h h:=eY.kept λ_ _ q=>q
def eY.laid(k:∀b u,h.get? b=some u->h'.get? b=some u)(aE:h.objs.size<=a)(a_:H a=none):eY fs ex H (upd H a o) h h' where
 keep:=λb u q _ _ _=>k b u q
 slot:=λb u q _ _ _=>⟨u.slots,k b u q⟩
 free:=λb u q n _=>by rw[ck (cX (g9 (cv q) aE))];exact n
 there:=λb u q _=>⟨u,k b u q⟩
 od:=λb xs q=>by rw[ck (fD q a_)];exact q
 mH:=λb u xs q=>by rw[ck (fD q a_)];exact q
 mS:=λb ps q=>⟨#[],by rw[ck (fD q a_),q];simp⟩
def eY.write(kK:wD (H x))(he:e=x\/H e=some (.own x))(k:∀b u,b≠e->h.get? b=some u->h'.get? b=some u)(nT:∃u,h'.get? e=some u):eY fs ex H (upd H x o) h h':=by
 have hx:∀b,H b=none->b≠x:=λb n z=>by subst z;rw[n] at kK;exact kK
 have ae:∀b,H b=none->b≠e:=λb n z=>by
  subst z;rcases he with r|r
  ·exact hx b n r
  ·rw[n] at r;cases r
 have hm:∀b u,H b=some u->¬wD (some u)->b≠x:=λb u q nm z=>by subst z;rw[q] at kK;exact nm kK
 refine⟨λb u q n _ _=>k b u (ae b n) q,λb u q n _ _=>⟨u.slots,k b u (ae b n) q⟩,λb u q n _=>by rw[ck (hx b n)];exact n,λb u q _=>?_,
  λb xs q=>by rw[ck (hm b _ q λz=>z)];exact q,λb u xs q=>by rw[ck (hm b _ q λz=>z)];exact q,λb ps q=>⟨#[],by rw[ck (hm b _ q λz=>z),q];simp⟩⟩
 by_cases qi:b=e
 ·subst qi;exact nT
 ·exact⟨u,k b u qi q⟩
end
def xS(h:bk)(H:aD):List ai:=(List.range h.objs.size).filter λa=>(H a).isSome
def mL(h:bk)(H:aD):bk:=PySem.W.hideAll h (xS h H)
def aaj(h:bk)(H:aD):(mL h H).objs.size=h.objs.size:=PySem.W.hideAll_size _ _
def abk{h:bk}{H:aD}{b:ai}{o:Obj}(e:h.get? b=some o)(n:H b=none):(mL h H).get? b=some o:=
 PySem.W.hideAll_get _ e λhm=>by
  have q:(H b).isSome=true:=(List.mem_filter.mp hm).2;rw[n] at q;simp at q
def abX{h:bk}{H:aD}{b:ai}{o:Obj}(e:(mL h H).get? b=some o):h.get? b=some o/\H b=none:=by
 have b7:h.get? b=some o:=PySem.W.of_hideAll (xS h H) e;refine⟨b7,?_⟩;cases q:H b with
|none=>rfl
|some x=>
  have hm:b∈xS h H:=List.mem_filter.mpr ⟨List.mem_range.mpr (cv b7),by simp[q]⟩;have z:(mL h H).get? b=none:=PySem.W.hideAll_none (xS h H) hm;rw[z] at e;cases e
def acj(g h:bk)(L:ai):List (ai×Obj):=(List.range h.objs.size).filterMap λa=>if a=L\/(g.get? a).isSome=true then none else (h.get? a).map λo=>(a,o)
def rest(g h:bk)(L d:ai):List (ai×Obj):=(acj g h L).filter λp=>decide (p.1≠d)
end bu
namespace bu
open PySem PySem.Spec PyProof.Rows
structure Mod(K:bc)(mg:Str->Option aj)(base:bk):Prop where
 r5:K.In base
 glob:base.Ns h9 mg
 blt:∃kJ,base.Ns builtinsNs kJ/\∀x:Str,x≠"__name__"->kJ x=bootBuiltins x
 nolimit:base.NoLimit
structure a5 where
 prog:cH
 w:bY
 K:bc
 mg:Str->Option aj
 base:bk
 A:cN
 N:List Str
 c7:aG
 aN:aD
 env:Env
 outer:List Env
 stack:List Env
 ex:List ai
 fn:Str->Bool
 calm:Bool
 dJ:List (ai×Obj)
 dv:aj->aG->Prop
def lB(l:List Env):List ai:=l.filterMap (·.frame)
abbrev a5.fs(X:a5):List ai:=lB X.outer
def oR(sc:Scope)(x:Str):Prop:=sc.names.lookup x=some .local\/sc.names.lookup x=some .cell\/sc.names.lookup x=some .free
def Loc(sc:Scope)(x:Str):Prop:=sc.names.lookup x=some .local\/sc.names.lookup x=some .cell
noncomputable def Look(env:Env)(h:bk)(m:Str->Option aj)(x:Str)(u:aj):Prop:=
 (env.kindOf x=some .local/\m x=some u)\/((env.kindOf x=some .cell\/env.kindOf x=some .free)/\∃c,env.cells.lookup x=some c/\h.IsCell c (some u))
structure a5.Ok(X:a5):Prop where
 mod:Mod X.K X.mg X.base
 kind:X.env.scope.kind=.function
 glob:X.env.globals=h9
 blt:X.env.builtins=builtinsNs
 above:X.c7.heap.objs.size<=X.env.locals
 inj:∀x y c,X.env.cells.lookup x=some c->X.env.cells.lookup y=some c->x=y
 has:∀x,(X.env.kindOf x=some .cell\/X.env.kindOf x=some .free)->∃c,X.env.cells.lookup x=some c
 tP:∀x c,X.fn x=true->X.env.cells.lookup x=some c->X.c7.heap.objs.size<=c
 hd:X.calm=true->X.A.handled=none
 frames:X.A.frames=some X.stack
 xO:X.stack=X.outer\/(X.stack=X.env::X.outer/\X.env.frame=some X.env.locals)
 w6:∀b∈X.ex,b≠X.env.locals/\∀x c,X.env.cells.lookup x=some c->c≠b
 bs:∀b o,X.base.get? b=some o->X.c7.heap.get? b=some o/\X.aN b=none
 oS:X.base.objs.size<=X.c7.heap.objs.size
 uJ:∀b o,X.base.get? b=some o->b∉X.ex
 tV:∀b∈X.ex,b∉X.fs
 kC:X.c7.heap.FunFrames X.base X.outer
 qe:∀b∈X.fs,X.aN b=none
structure Inv(X:a5)(ag:List (ai×Obj))(σ:List (Option V))(H:aD)(s:aG):Prop where
 ok:X.Ok
 os:s.os=X.c7.os
 bare:AllBare s.gens
 base:eY X.fs X.ex X.aN H X.c7.heap s.heap
 loc:∃m,s.heap.Ns X.env.locals m/\∀(i:Nat) (x:Str) (v:V),X.N[i]?=some x->σ[i]?=some (some v)->oR X.env.scope x->∃u,RelV v u/\Look X.env s.heap m x u
 cell:∀x c,X.env.cells.lookup x=some c->∃v,s.heap.IsCell c v
 free:H X.env.locals=none
 lA:∀x c,X.env.cells.lookup x=some c->H c=none
 pin:∀p∈X.dJ++ag,s.heap.get? p.1=some p.2/\H p.1=none/\p.1≠X.env.locals/\p.1∉X.fs/\∀v,p.2.data≠.cell v
 bP:e3 X.prog X.w H s.heap
 len:σ.length=X.N.length
section
variable {X:a5}{ag:List (ai×Obj)}{σ:List (Option V)}{H ah:aD}{s:aG}{h':bk}
def a5.Ok.Tn(ok:X.Ok){b:ai}{o:Obj}(e:X.base.get? b=some o):b∉X.fs:=λae=>by
 have:=(ok.kC.mem ae).1;rw[e] at this;cases this
theorem Inv.bs(I:Inv X ag σ H s):∀b o,X.base.get? b=some o->s.heap.get? b=some o/\H b=none:=λb o e=>
 ⟨I.base.keep b o (I.ok.bs b o e).1 (I.ok.bs b o e).2 (I.ok.Tn e) (I.ok.uJ b o e),I.base.free b o (I.ok.bs b o e).1 (I.ok.bs b o e).2 (I.ok.uJ b o e)⟩
def Inv.gF(I:Inv X ag σ H s):∀b o,X.base.get? b=some o->s.heap.get? b=some o:=λb o e=>(I.bs b o e).1
theorem Inv.mod(I:Inv X ag σ H s):Mod X.K X.mg X.base:=I.ok.mod
def Inv.aeD(I:Inv X ag σ H s):X.K.In s.heap:=I.ok.mod.r5.keeps I.gF
theorem Inv.lt(I:Inv X ag σ H s):X.env.locals<s.heap.objs.size:=let ⟨_,a_,_⟩:=I.loc;a_.lt
def Inv.kT(I:Inv X ag σ H s):X.c7.heap.objs.size<=s.heap.objs.size:=j' I.ok.above (Nat.le_of_lt I.lt)
def Inv.Tp(I:Inv X ag σ H s){a:ai}(h:s.heap.objs.size<=a):a∉X.fs:=λae=>by
 obtain⟨_,o,aQ,_⟩:=I.ok.kC.mem ae;exact absurd (g9 (cv aQ) (j' I.kT h)) (Nat.lt_irrefl _)
def Inv.qc(I:Inv X ag σ H s):∀x c,X.env.cells.lookup x=some c->c≠X.env.locals:=λx c e z=>by
 obtain⟨v,o,aQ,hd⟩:=I.cell x c e;obtain⟨m,⟨d6,av,ep,fS,B7,_⟩,_⟩:=I.loc;rw[z,fS] at aQ;cases aQ;rw[B7] at hd;cases hd
theorem Inv.kC(I:Inv X ag σ H s):s.heap.FunFrames X.base X.outer:=by
 have all:∀(l:List Env),(∀b∈lB l,b∈X.fs)->X.c7.heap.FunFrames X.base l->s.heap.FunFrames X.base l:=by
  intro l
  induction l with
  |nil=>intro _ _;trivial
  |cons env r cK=>
   intro aA aF;obtain⟨aV,⟨L,o,hf,a_,aQ,hd⟩,aw⟩:=aF;have eg:L∈X.fs:=aA L (by unfold lB;rw[List.filterMap_cons,hf];exact mV);obtain⟨bx,e⟩:=I.base.slot L o aQ (I.ok.qe L eg) eg λz=>I.ok.tV L z eg;exact⟨aV,⟨L,_,hf,a_,e,hd⟩,cK (λb ae=>aA b (by unfold lB;rw[List.filterMap_cons,hf];exact gz _ ae)) aw⟩
 exact all X.outer (λ_ ae=>ae) I.ok.kC
theorem Inv.stack(I:Inv X ag σ H s):s.heap.FunFrames X.base X.stack:=by
 rcases I.ok.xO with e|⟨e,hf⟩
 ·rw[e];exact I.kC
 ·rw[e];obtain⟨m,a_,_⟩:=I.loc;refine .cons (by rw[I.ok.kind];decide) hf a_ ?_ I.kC;exact Heap.get?_none_of_le (j' I.ok.oS I.ok.above)
def Inv.xP(I:Inv X ag σ H s):∀b∈lB X.stack,b∈X.env.locals::X.fs:=λb ae=>by
 rcases I.ok.xO with e|⟨e,hf⟩
 ·rw[e] at ae;exact gz _ ae
 ·rw[e] at ae;unfold lB at ae;rw[List.filterMap_cons,hf] at ae;exact ae
def Inv.Jp(I:Inv X ag σ H s):∀b∈lB X.stack,H b=none:=λb ae=>by
 rcases bS.mp (I.xP b ae) with e|ae
 ·rw[e];exact I.free
 ·obtain⟨_,o,aQ,_⟩:=I.ok.kC.mem ae;exact I.base.free b o aQ (I.ok.qe b ae) λz=>I.ok.tV b z ae
def Inv.step{g':Array GenState}{t':Nat}{d':Drawn}{ch:List ai}(I:Inv X ag σ H s)
  (o5:∀b∈ch,(b∈X.ex\/X.c7.heap.objs.size<=b)/\b≠X.env.locals/\(∀x c,X.env.cells.lookup x=some c->c≠b)/\∀p∈X.dJ++ag,p.1≠b)
  (keep:∀b o,b≠X.env.locals->b∉X.fs->b∉ch->s.heap.get? b=some o->H b=none->h'.get? b=some o)
  (slot:∀b o,b≠X.env.locals->b∈X.fs->b∉ch->s.heap.get? b=some o->H b=none->∃bx,h'.get? b=some {o with slots:=bx}) (free:∀b o,b∉ch->s.heap.get? b=some o->H b=none->ah b=none)
  (there:∀b o,b∉ch->s.heap.get? b=some o->∃d6,h'.get? b=some d6)
  (od:∀b xs,H b=some (.tup xs)->ah b=some (.tup xs)) (mH:∀b o u,H b=some (.lC o u)->ah b=some (.lC o u)) (mS:∀b ps,H b=some (.gN ps)->∃more,ah b=some (.gN (ps++more)))
  (ns:∀m,s.heap.Ns X.env.locals m->h'.Ns X.env.locals m) (bP:e3 X.prog X.w ah h') (aU:AllBare g'):
  Inv X ag σ ah {s with heap:=h',gens:=g',drawn:=d',toks:=t'}:=by
 have IV:∀b o,X.c7.heap.get? b=some o->b≠X.env.locals:=λb o e=>cX (g9 (cv e) I.ok.above);have qB:∀b o,X.c7.heap.get? b=some o->b∉X.ex->b∉ch:=λb o e hx ae=>by
  rcases (o5 b ae).1 with z|z
  ·exact hx z
  ·exact absurd (g9 (cv e) z) (Nat.lt_irrefl _)
 have cellK:∀x c,X.env.cells.lookup x=some c->∀v,s.heap.IsCell c v->h'.IsCell c v:=λx c e v ⟨o,aQ,hd⟩=>by
  have uI:c∉ch:=λz=>(o5 c z).2.2.1 x c e rfl;by_cases au:c∈X.fs
  ·obtain⟨bx,q⟩:=slot c o (I.qc x c e) au uI aQ (I.lA x c e);exact⟨_,q,hd⟩
  ·exact⟨o,keep c o (I.qc x c e) au uI aQ (I.lA x c e),hd⟩
 refine⟨I.ok,I.os,aU,⟨λb o e n ae hx=>?_,λb o e n ae hx=>?_,λb o e n hx=>?_,λb o e hx=>?_,λb xs e=>od b xs (I.base.od b xs e),λb o xs e=>mH b o xs (I.base.mH b o xs e),λb ps e=>?_⟩,?_,λx c e=>?_,?_,λx c e=>?_,λp aE=>?_,bP,I.len⟩
 ·exact keep b o (IV b o e) ae (qB b o e hx) (I.base.keep b o e n ae hx) (I.base.free b o e n hx)
 ·obtain⟨bx,aC⟩:=I.base.slot b o e n ae hx;obtain⟨Wh,aR⟩:=slot b _ (IV b o e) ae (qB b o e hx) aC (I.base.free b o e n hx);exact⟨Wh,aR⟩
 ·obtain⟨d6,aC⟩:=I.base.there b o e hx;exact free b d6 (qB b o e hx) aC (I.base.free b o e n hx)
 ·obtain⟨d6,aC⟩:=I.base.there b o e hx;exact there b d6 (qB b o e hx) aC
 ·obtain⟨h6,aC⟩:=I.base.mS b ps e;obtain⟨i_,aR⟩:=mS b _ aC;exact⟨h6++i_,by rw[aR,Array.append_assoc]⟩
 ·obtain⟨m,a_,aF⟩:=I.loc;refine⟨m,ns m a_,λi x v aC aR en=>?_⟩;obtain⟨u,r,l⟩:=aF i x v aC aR en;refine⟨u,r,?_⟩;rcases l with l|⟨k,c,e,z⟩
  ·exact .inl l
  ·exact .inr ⟨k,c,e,cellK x c e _ z⟩
 ·obtain⟨v,z⟩:=I.cell x c e;exact⟨v,cellK x c e v z⟩
 ·obtain⟨m,⟨o,_,_,aQ,_⟩,_⟩:=I.loc;exact free _ o (λz=>(o5 _ z).2.1 rfl) aQ I.free
 ·obtain⟨v,o,aQ,hd⟩:=I.cell x c e;exact free c o (λz=>(o5 c z).2.2.1 x c e rfl) aQ (I.lA x c e)
 ·obtain⟨e,n,ne,kL,d⟩:=I.pin p aE;have uI:p.1∉ch:=λz=>(o5 p.1 z).2.2.2 p aE rfl;exact⟨keep p.1 p.2 ne kL uI e n,free p.1 p.2 uI e n,ne,kL,d⟩
def Inv.un{t':Nat}(I:Inv X ag σ H s)(u:eY X.fs [] H ah s.heap h')(bP:e3 X.prog X.w ah h'):Inv X ag σ ah {s with heap:=h',toks:=t'}:=by
 obtain⟨m,⟨o,av,ep,aQ,r⟩,_⟩:=id I.loc;obtain⟨bx,eg⟩:=u.any aQ I.free (by simp);exact I.step (g':=s.gens) (d':=s.drawn) (ch:=[]) (λ_ z=>nomatch z) (λb o _ ae _ e n=>u.keep b o e n ae (by simp)) (λb o _ ae _ e n=>u.slot b o e n ae (by simp)) (λb o _ e n=>u.free b o e n (by simp)) (λb o _ e=>u.there b o e (by simp)) u.od u.mH u.mS (λn6 hm=>by
  obtain⟨d6,es',Bd,fS,bU⟩:=hm;rw[aQ] at fS;cases fS;exact⟨_,es',Bd,eg,bU⟩) bP I.bare
def Inv.call{g':Array GenState}{t':Nat}{d':Drawn}{ch:List ai}(I:Inv X ag σ H s)(u:eY (lB X.stack) ch H ah s.heap h')(bP:e3 X.prog X.w ah h')(aU:AllBare g')
  (o5:∀b∈ch,(b∈X.ex\/X.c7.heap.objs.size<=b)/\b≠X.env.locals/\(∀x c,X.env.cells.lookup x=some c->c≠b)/\∀p∈X.dJ++ag,p.1≠b):
  Inv X ag σ ah {s with heap:=h',gens:=g',drawn:=d',toks:=t'}:=by
 obtain⟨m,⟨o,av,ep,aQ,r⟩,_⟩:=id I.loc;obtain⟨bx,eg⟩:=u.any aQ I.free λz=>(o5 _ z).2.1 rfl;exact I.step (ch:=ch) o5 (λb o eg ae au e n=>u.keep b o e n (λz=>(bS.mp (I.xP b z)).elim eg ae) au) (λb o _ _ au e n=>u.any e n au) (λb o au e n=>u.free b o e n au) (λb o au e=>u.there b o e au) u.od u.mH u.mS (λn6 hm=>by
  obtain⟨d6,es',Bd,fS,bU⟩:=hm;rw[aQ] at fS;cases fS;exact⟨_,es',Bd,eg,bU⟩) bP aU
def Inv.turned{t':Nat}{it:ai}(I:Inv X ag σ H s)(k:∀b o,b≠it->s.heap.get? b=some o->h'.get? b=some o)(a_:H it=none)(eg:it≠X.env.locals)
  (af:it∈X.ex\/X.c7.heap.objs.size<=it) (ao:∀x c,X.env.cells.lookup x=some c->c≠it) (bA:∀p∈X.dJ++ag,p.1≠it):Inv X ag σ H {s with heap:=h',toks:=t'}:=by
 have IY:∀b u,H b=some u->b≠it:=λb u e z=>by rw[z,a_] at e;cases e
 refine I.step (g':=s.gens) (d':=s.drawn) (ch:=[it]) (λb ae=>?_) (λb o _ _ au e _=>k b o (λz=>au (by simp[z])) e) (λb o _ _ au e _=>⟨o.slots,k b o (λz=>au (by simp[z])) e⟩) (λ_ _ _ _ n=>n)
  (λb o au e=>⟨o,k b o (λz=>au (by simp[z])) e⟩) (λ_ _ e=>e) (λ_ _ _ e=>e) (λb ps e=>⟨#[],by rw[e];simp⟩) (λm hm=>?_) (λb u e=>?_) I.bare
 ·have e:b=it:=by simpa using ae
  subst e;exact⟨af,eg,ao,bA⟩
 ·obtain⟨o,av,ep,aQ,r⟩:=hm;exact⟨o,av,ep,k _ o (Ne.symm eg) aQ,r⟩
 ·refine (I.bP b u e).lW (λc v au q=>k c v ?_ q) (λ_ q=>q) λ_ _ q=>q
  rcases au with z|z
  ·rw[z];exact IY b u e
  ·exact IY c _ z
def Inv.tok(I:Inv X ag σ H s)(t:Nat):Inv X ag σ H {s with toks:=t}:=I.un (h':=s.heap) (t':=t) eY.refl I.bP
theorem Inv.kept{t':Nat}(I:Inv X ag σ H s)(k:∀b u,s.heap.get? b=some u->h'.get? b=some u):Inv X ag σ H {s with heap:=h',toks:=t'}:=I.un (eY.kept k) (I.bP.kept k)
theorem Inv.laid{a:ai}{o:el}{t':Nat}(I:Inv X ag σ H s)(k:∀b u,s.heap.get? b=some u->h'.get? b=some u)(aE:s.heap.objs.size<=a)(new:jq X.prog X.w (upd H a o) h' a o):
  Inv X ag σ (upd H a o) {s with heap:=h',toks:=t'}:=I.un (eY.laid k aE (I.bP.fresh aE)) (I.bP.laid k aE new)
theorem Inv.write{x e:ai}{o:el}{t':Nat}(I:Inv X ag σ H s)(kK:wD (H x))(he:e=x\/H e=some (.own x))(k:∀b u,b≠e->s.heap.get? b=some u->h'.get? b=some u)(nT:∃u,h'.get? e=some u)
  (new:jq X.prog X.w (upd H x o) h' x o):Inv X ag σ (upd H x o) {s with heap:=h',toks:=t'}:=I.un (eY.write kK he k nT) (I.bP.write kK he k nT new)
def Inv.I_{I9:List (ai×Obj)}(I:Inv X ag σ H s)(h:∀p∈I9,s.heap.get? p.1=some p.2/\H p.1=none/\p.1≠X.env.locals/\p.1∉X.fs/\∀v,p.2.data≠.cell v):Inv X I9 σ H s:=
 ⟨I.ok,I.os,I.bare,I.base,I.loc,I.cell,I.free,I.lA,λp aE=>(mW.mp aE).elim (λz=>I.pin p (List.mem_append_left _ z)) (h p),I.bP,I.len⟩
def Ld{N:List Str}(ea:N.Nodup){i j:Nat}{x:Str}(a:N[i]?=some x)(b:N[j]?=some x):i=j:=by
 obtain⟨af,aC⟩:=e2.mp a;obtain⟨ao,aR⟩:=e2.mp b;exact (List.getElem_inj ea).mp (aC.trans aR.symm)
def Ku{M:Model}{A:cN}{E:aj->aG->Prop}{i:Nat}{x:Str}{v:V}{u:aj}{Q:Unit->aG->Prop}(I:Inv X ag σ H s)(ea:X.N.Nodup)(hi:X.N[i]?=some x)(hx:Loc X.env.scope x)(r:RelV v u)
  (h:∀aZ,Inv X ag (σ.set i (some v)) H aZ->(∃a,Heap.SameBut a s.heap aZ.heap/\(a=X.env.locals\/X.env.cells.lookup x=some a))->Q () aZ) (hf:X.fn x=true\/X.env.scope.names.lookup x=some .local:=by first|exact .inl rfl|exact .inr rfl|assumption):a4 M A (storeName X.env x u) Q E s:=by
 obtain⟨m,a_,aF⟩:=id I.loc;have Q7:(X.env.scope.kind==.class || (X.env.scope.kind==.module && X.env.locals != X.env.globals))=false:=by rw[I.ok.kind];rfl
 have Ic:i<σ.length:=by rw[I.len];exact (e2.mp hi).1
 have qc:=I.qc;have tracked:∀{a:ai} {h':bk},(∃o,s.heap.get? a=some o/\H a=none)->Heap.SameBut a s.heap h'->e3 X.prog X.w H h':=λ{a h'} az aA b dB e=>by
  obtain⟨_,_,H'⟩:=az;refine (I.bP b dB e).lW (λc hF au q=>(aA.2 c ?_).trans q) (λ_ q=>q) λ_ _ q=>q;rintro rfl;rcases au with rfl|au
  ·rw[H'] at e;cases e
  ·rw[H'] at au;cases au
 rcases hx with aV|aV
 ·refine wpAny_storeName_local aV a_ (λh' Rt aA=>?_) Q7
  obtain⟨Tt,_,_,uq,_⟩:=id a_;refine h _ ⟨I.ok,I.os,I.bare,⟨λb o e n ae hx=>?_,λb o e n ae hx=>?_,I.base.free,λb o e hx=>?_,I.base.od,I.base.mH,I.base.mS⟩,⟨_,Rt,λj y gy aC aR en=>?_⟩,λy c e=>?_,I.free,I.lA,λp aE=>?_,tracked ⟨Tt,uq,I.free⟩ aA,by simpa using I.len⟩ ⟨_,aA,.inl rfl⟩
  ·exact (aA.2 b (cX (g9 (cv e) I.ok.above))).trans (I.base.keep b o e n ae hx)
  ·obtain⟨bx,aC⟩:=I.base.slot b o e n ae hx;exact⟨bx,(aA.2 b (cX (g9 (cv e) I.ok.above))).trans aC⟩
  ·obtain⟨d6,aC⟩:=I.base.there b o e hx;exact⟨d6,(aA.2 b (cX (g9 (cv e) I.ok.above))).trans aC⟩
  ·by_cases dG:j=i
   ·subst dG;rw[hi] at aC;cases aC;rw[List.getElem?_set_self Ic] at aR;cases aR;exact⟨u,r,.inl ⟨aV,by simp⟩⟩
   ·rw[List.getElem?_set_ne (Ne.symm dG)] at aR;obtain⟨xT,bU,q⟩:=aF j y gy aC aR en;refine⟨xT,bU,?_⟩;rcases q with ⟨k,e⟩|⟨k,c,e,z⟩
    ·refine .inl ⟨k,?_⟩
     have:y≠x:=λe=>dG (Ld ea aC (e▸hi));simp[this,e]
    ·exact .inr ⟨k,c,e,z.sameBut aA (qc y c e)⟩
  ·obtain⟨hF,z⟩:=I.cell y c e;exact⟨hF,z.sameBut aA (qc y c e)⟩
  ·obtain⟨e,n,ne,kL,d⟩:=I.pin p aE;exact⟨(aA.2 p.1 ne).trans e,n,ne,kL,d⟩
 ·have r0:X.fn x=true:=by
   rcases hf with z|z
   ·exact z
   ·rw[z] at aV;cases aV
  obtain⟨c,au⟩:=I.ok.has x (.inl aV);obtain⟨hF,z⟩:=I.cell x c au;refine wpAny_storeName_cell I.ok.kind aV au z (λh' b2 aA=>?_);obtain⟨gc,Im,Ry⟩:=id z;refine h {s with heap:=h'} ⟨I.ok,I.os,I.bare,⟨λb o e n ae hx=>?_,λb o e n ae hx=>?_,I.base.free,λb o e hx=>?_,I.base.od,I.base.mH,I.base.mS⟩,⟨m,a_.sameBut aA (Ne.symm (qc x c au)),λj y gy aC aR en=>?_⟩,λy bT e=>?_,I.free,I.lA,λp aE=>?_,tracked ⟨gc,Im,I.lA x c au⟩ aA,by simpa using I.len⟩ ⟨c,aA,.inr au⟩
  ·exact (aA.2 b (cX (g9 (cv e) (I.ok.tP x c r0 au)))).trans (I.base.keep b o e n ae hx)
  ·obtain⟨bx,aC⟩:=I.base.slot b o e n ae hx;exact⟨bx,(aA.2 b (cX (g9 (cv e) (I.ok.tP x c r0 au)))).trans aC⟩
  ·obtain⟨d6,aC⟩:=I.base.there b o e hx;exact⟨d6,(aA.2 b (cX (g9 (cv e) (I.ok.tP x c r0 au)))).trans aC⟩
  ·by_cases dG:j=i
   ·subst dG;rw[hi] at aC;cases aC;rw[List.getElem?_set_self Ic] at aR;cases aR;exact⟨u,r,.inr ⟨.inl aV,c,au,b2⟩⟩
   ·rw[List.getElem?_set_ne (Ne.symm dG)] at aR;obtain⟨xT,bU,q⟩:=aF j y gy aC aR en;refine⟨xT,bU,?_⟩;rcases q with q|⟨k,bT,e,fC⟩
    ·exact .inl q
    ·refine .inr ⟨k,bT,e,fC.sameBut aA ?_⟩
     rintro rfl;exact dG (Ld ea aC (I.ok.inj _ _ _ e au▸hi))
  ·by_cases H6:bT=c
   ·subst H6;exact⟨_,b2⟩
   ·obtain⟨sm,hc⟩:=I.cell y bT e;exact⟨sm,hc.sameBut aA H6⟩
  ·obtain⟨e,n,ne,kL,d⟩:=I.pin p aE;refine⟨(aA.2 p.1 ?_).trans e,n,ne,kL,d⟩;intro q;rw[q,Im] at e;have di:gc=p.2:=ia e;exact d hF (by rw[<- di];exact Ry)
def K6{M:Model}{A:cN}{E:aj->aG->Prop}{i:Nat}{x:Str}{v:V}{u:aj}{Q:Unit->aG->Prop}(I:Inv X ag σ H s)(ea:X.N.Nodup)(hi:X.N[i]?=some x)(hx:Loc X.env.scope x)(r:RelV v u)
  (h:∀aZ,Inv X ag (σ.set i (some v)) H aZ->Q () aZ) (hf:X.fn x=true\/X.env.scope.names.lookup x=some .local:=by first|exact .inl rfl|exact .inr rfl|assumption):a4 M A (storeName X.env x u) Q E s:=
 Ku I ea hi hx r (λaZ tC _=>h aZ tC) hf
end
abbrev hT:=aj->Option ai->aD->Prop
abbrev St:=List (Option V)
abbrev c5:=V->aD->Prop
abbrev TE:=St->aD->c5->Prop
abbrev TT:=St->aD->(Bool->aD->Prop)->Prop
abbrev fz:=St->aD->(List V->aD->Prop)->Prop
structure Ends where
 nx:St->aD->Prop
 dn:c5
 gF:St->aD->Prop:=λ_ _=>False
 b_:St->aD->Prop:=λ_ _=>False
abbrev hr:=Ends->St->aD->Prop
def gT(X:a5)(ag:List (ai×Obj))(σ:St)(Q:c5)(u:aj)(aZ:aG):Prop:=∃v ah,Inv X ag σ ah aZ/\RelV v u/\Q v ah
def zP(X:a5)(ag:List (ai×Obj))(σ:St)(Q:Bool->aD->Prop)(b:Bool)(aZ:aG):Prop:=∃ah,Inv X ag σ ah aZ/\Q b ah
def MI(X:a5)(ag:List (ai×Obj))(σ:St)(Q:List V->aD->Prop)(us:List aj)(aZ:aG):Prop:=∃vs ah,Inv X ag σ ah aZ/\Vals vs us/\Q vs ah
noncomputable def aeE(X:a5)(ag:List (ai×Obj))(D:Ends)(f:Flow)(aZ:aG):Prop:=
 match f with
|.next=>∃bI ah,Inv X ag bI ah aZ/\D.nx bI ah
|.brk=>∃bI ah,Inv X ag bI ah aZ/\D.gF bI ah
|.cont=>∃bI ah,Inv X ag bI ah aZ/\D.b_ bI ah
|.ret u=>∃v bI ah,Inv X ag bI ah aZ/\RelV v u/\D.dn v ah
noncomputable def b6(X:a5)(e:a8)(t:TE):Prop:=
 ∀(ag:List (ai×Obj)) (s:aG) (σ:St) (H:aD) (Q:c5),Inv X ag σ H s->t σ H Q->a4 (bh X.prog X.w) X.A (eval e X.env) (gT X ag σ Q) X.dv s
noncomputable def iR(X:a5)(e:a8)(t:TT):Prop:=
 ∀(ag:List (ai×Obj)) (s:aG) (σ:St) (H:aD) (Q:Bool->aD->Prop),Inv X ag σ H s->t σ H Q->a4 (bh X.prog X.w) X.A (isTrue e X.env (eval e X.env)) (zP X ag σ Q) X.dv s
noncomputable def lb(X:a5)(e:a8)(t:TT):Prop:=
 ∀(whole:Sem aj) (ag:List (ai×Obj)) (s:aG) (σ:St) (H:aD) (Q:Bool->aD->Prop),Inv X ag σ H s->t σ H Q->a4 (bh X.prog X.w) X.A (isTrue e X.env whole) (zP X ag σ Q) X.dv s
def lb.pt{X:a5}{e:a8}{t:TT}(h:lb X e t):iR X e t:=h _
noncomputable def hS(X:a5)(av:List a8)(t:fz):Prop:=
 ∀(pos:Pos) (ag:List (ai×Obj)) (s:aG) (σ:St) (H:aD) (Q:List V->aD->Prop),Inv X ag σ H s->t σ H Q->a4 (bh X.prog X.w) X.A (spliced (gk pos (bQ av X.env))) (MI X ag σ Q) X.dv s
noncomputable def mh(X:a5)(st:Stmt)(t:hr):Prop:=
 ∀(ag:List (ai×Obj)) (s:aG) (σ:St) (H:aD) (D:Ends),Inv X ag σ H s->t D σ H->a4 (bh X.prog X.w) X.A (exec st X.env) (aeE X ag D) X.dv s
noncomputable def gV(X:a5)(st:List Stmt)(t:hr):Prop:=
 ∀(ag:List (ai×Obj)) (s:aG) (σ:St) (H:aD) (D:Ends),Inv X ag σ H s->t D σ H->a4 (bh X.prog X.w) X.A (execs st X.env) (aeE X ag D) X.dv s
def ct{α:Type}{t:Sem α}{Q fF:α->aG->Prop}{M:Model}{A:cN}{E:aj->aG->Prop}{s:aG}(h:a4 M A t Q E s)(dF:∀a s,Q a s->fF a s):a4 M A t fF E s:=g_ h dF λ_ _ x=>x
end bu
namespace bu
open PySem PySem.Spec PyProof.Rows
section
variable {X:a5}
def uX(i:Nat):TE:=λσ H Q=>∃v,σ[i]?=some (some v)/\Q v H
def sg(v:V):TE:=λ_ H Q=>Q v H
def acN{i:Nat}{x:Str}{pos:Pos}(ea:X.N[i]?=some x)(bj:oR X.env.scope x)(hd:(x==("__debug__":Str))=false:=by decide)(eB:(x==("__classdict__":Str))=false:=by decide):b6 X (.Name x pos) (uX i):=by
 intro ag s σ H Q I h;obtain⟨v,e,h⟩:=h;obtain⟨m,a_,aF⟩:=I.loc;obtain⟨u,r,l⟩:=aF i x v ea e bj;have fin:gT X ag σ Q u s:=⟨v,H,I,r,h⟩;rcases l with ⟨aV,hm⟩|⟨aV,c,au,rY⟩
 ·exact wpAny_Name (wpAny_loadName_local I.ok.kind aV a_ hm fin) hd
 ·rcases aV with aV|aV
  ·exact wpAny_Name (wpAny_loadName_cell I.ok.kind aV au rY fin) hd
  ·exact wpAny_Name (wpAny_loadName_free I.ok.kind aV au rY fin eB) hd
def acU{i j pos}:b6 X (.Constant (.int i) j pos) (sg (.int i)):=λ_ _ _ H _ I h=>wpAny_Constant_int ⟨.int i,H,I.tok _,⟨_,rfl⟩,h⟩
def adP{b j pos}:b6 X (.Constant (.bool b) j pos) (sg (.bL b)):=λ_ _ _ H _ I h=>Constant_bool ⟨.bL b,H,I,rfl,h⟩
def acQ{j pos}:b6 X (.Constant .none j pos) (sg .gb):=λ_ _ _ H _ I h=>Constant_none ⟨.gb,H,I,rfl,h⟩
def acO{x j pos}:b6 X (.Constant (.str x) j pos) (sg (.str x)):=λ_ _ _ H _ I h=>Calls.Constant_str ⟨.str x,H,I.tok _,⟨_,rfl⟩,h⟩
def ee(X:a5)(x:Str):Prop:=X.env.kindOf x=some .globalImplicit
def F5{E:aj->aG->Prop}{ag:List (ai×Obj)}{s:aG}{σ:St}{H:aD}{x:Str}{u:aj}{pos:Pos}{Q:aj->aG->Prop}(I:Inv X ag σ H s)(aU:ee X x)(hm:X.mg x=some u)(h:Q u s)
  (hd:(x==("__debug__":Str))=false:=by decide):a4 (bh X.prog X.w) X.A (eval (.Name x pos) X.env) Q E s:=
 Calls.Name_function_global I.ok.kind aU (Calls.loadGlobal_global (by rw[I.ok.glob];exact I.mod.glob.keeps I.gF) hm h) hd
def pL{E:aj->aG->Prop}{ag:List (ai×Obj)}{s:aG}{σ:St}{H:aD}{x:Str}{u:aj}{pos:Pos}{Q:aj->aG->Prop}(I:Inv X ag σ H s)(aU:ee X x)(hm:X.mg x=none)(bj:bootBuiltins x=some u)(h:Q u s)
  (a_:x≠"__name__":=by decide) (hd:(x==("__debug__":Str))=false:=by decide):a4 (bh X.prog X.w) X.A (eval (.Name x pos) X.env) Q E s:=by
 obtain⟨kJ,af,ao⟩:=I.mod.blt;exact Calls.Name_function_global I.ok.kind aU (Calls.loadGlobal_builtin (by rw[I.ok.glob];exact I.mod.glob.keeps I.gF) hm (by rw[I.ok.blt];exact af.keeps I.gF) ((ao x a_).trans bj) h) hd
def LA{x:Str}{v:V}{u:aj}{pos:Pos}(aU:ee X x)(hm:X.mg x=some u)(r:RelV v u)(hd:(x==("__debug__":Str))=false:=by decide):b6 X (.Name x pos) (sg v):=
 λ_ _ _ H _ I h=>F5 I aU hm ⟨v,H,I,r,h⟩ hd
variable {a b:a8}{cg cM:TE}{pos:Pos}
noncomputable def wG(X:a5)(op:CmpOp)(a b:a8)(t:TE):Prop:=
 ∀(ag:List (ai×Obj)) (s:aG) (σ:St) (H:aD) (Q:c5),Inv X ag σ H s->t σ H Q ->
  a4 (bh X.prog X.w) X.A (eval a X.env) (λv cw=>a4 (bh X.prog X.w) X.A (eval b X.env) (λu j5=>a4 (bh X.prog X.w) X.A (fZ op v u) (gT X ag σ Q) X.dv j5) X.dv cw) X.dv s
def Le(b:a8){op:CmpOp}(h:op≠.In)(ao:op≠.NotIn):m2 op b=false:=by
 have aC:(op==CmpOp.In)=false:=by cases op <;> first|rfl|exact absurd rfl h
 have aR:(op==CmpOp.NotIn)=false:=by cases op <;> first|rfl|exact absurd rfl ao
 cases b <;> simp[m2,aC,aR]
def Xl(cg:TE):TE:=λσ H Q=>cg σ H λx H1=>Q (.bL (decide (x=.gb))) H1
def adz(cg:TE):TE:=λσ H Q=>cg σ H λx H1=>Q (.bL (!decide (x=.gb))) H1
def RelV.I0{x:V}{v:aj}(r:RelV x v):(v==Value.none)=decide (x=.gb):=by
 cases x with
|gb=>cases r;rfl
|bL _=>cases r;rfl
|int _=>obtain⟨t,rfl⟩:=r;rfl
|str _=>obtain⟨t,rfl⟩:=r;rfl
|wK _=>obtain⟨t,rfl⟩:=r;rfl
|w7 _=>obtain⟨t,rfl⟩:=r;rfl
|ref _=>cases r;rfl
|ty _=>cases r;rfl
def acY{j pos'}(az:b6 X a cg):wG X .Is a (.Constant .none j pos') (Xl cg):=by
 intro ag s σ H Q I h;refine ct (az ag s σ H _ I h) λv s1 ⟨x,H1,a7,a',aT⟩=>?_;exact Constant_none (is_none_gen ⟨.bL _,H1,a7,by rw[a'.I0];rfl,aT⟩)
def abS{j pos'}(az:b6 X a cg):wG X .IsNot a (.Constant .none j pos') (adz cg):=by
 intro ag s σ H Q I h;refine ct (az ag s σ H _ I h) λv s1 ⟨x,H1,a7,a',aT⟩=>?_;exact Constant_none (isnot_none_gen ⟨.bL _,H1,a7,by rw[a'.I0];rfl,aT⟩)
def Ex(t:TE):TT:=λσ H Q=>t σ H λx H1=>∃c,x=.bL c/\Q c H1
def acV{op:CmpOp}{t:TE}(h:wG X op a b t)(af:m2 op b=false:=by first|exact Le _ (by decide) (by decide)|rfl):b6 X (.Compare a [op] [b] pos) t:=λag s σ H Q I hw=>wpAny_Compare1 (h ag s σ H Q I hw) af
def acI{op:CmpOp}{t:TE}(h:wG X op a b t)(af:m2 op b=false:=by first|exact Le _ (by decide) (by decide)|rfl):iR X (.Compare a [op] [b] pos) (Ex t):=by
 intro ag s σ H Q I hw;refine wpAny_isTrue_Compare1 (ct (h ag s σ H _ I hw) λv s1 af=>ct af λu s2 ao=>ct ao λc s3 ⟨x,H1,a7,a',aT⟩=>?_) af;obtain⟨d,rfl,q⟩:=aT;cases a';exact m3 ⟨H1,a7,q⟩
def acG{e:a8}{t:TE}(h:b6 X e t)(he:∀whole,isTrue e X.env whole=(do let v <- whole;standAt e.pos;holding [v] (truthy v)):=by intro _;rfl):iR X e (Ex t):=by
 intro ag s σ H Q I hw;refine isTrue_plain (ct (h ag s σ H _ I hw) λv s1 ⟨x,H1,a7,a',aT⟩=>?_) (he _);obtain⟨d,rfl,q⟩:=aT;cases a';exact m3 ⟨H1,a7,q⟩
variable {jb xQ:TT}{rest:List a8}
def Xf(t u:TT):TT:=λσ H Q=>t σ H λc H1=>if c=true then u σ H1 Q else Q false H1
def Xp(t u:TT):TT:=λσ H Q=>t σ H λc H1=>if c=true then Q true H1 else u σ H1 Q
def Xo(t:TT):TT:=λσ H Q=>t σ H λc H1=>Q (!c) H1
def abI(az:iR X a jb):lb X (.BoolOp .And [a] pos) jb:=by
 intro u0 ag s σ H Q I h;refine isTrue_and (ct (az ag s σ H Q I h) λc s1 e=>?_);cases c with
|true=>exact isTrue_and_nil e
|false=>exact e
def acE(az:iR X a jb):lb X (.BoolOp .Or [a] pos) jb:=by
 intro u0 ag s σ H Q I h;refine isTrue_or (ct (az ag s σ H Q I h) λc s1 e=>?_);cases c with
|false=>exact isTrue_or_nil e
|true=>exact e
def acF(az:iR X a jb)(ae:lb X (.BoolOp .And (b::rest) pos) xQ):lb X (.BoolOp .And (a::b::rest) pos) (Xf jb xQ):=by
 intro u0 ag s σ H Q I h;refine isTrue_and (ct (az ag s σ H _ I h) λc s1 ⟨H1,a7,aT⟩=>?_);cases c with
|true=>exact ae u0 ag s1 σ H1 Q a7 aT
|false=>exact⟨H1,a7,aT⟩
def adJ(az:iR X a jb)(ae:lb X (.BoolOp .Or (b::rest) pos) xQ):lb X (.BoolOp .Or (a::b::rest) pos) (Xp jb xQ):=by
 intro u0 ag s σ H Q I h;refine isTrue_or (ct (az ag s σ H _ I h) λc s1 ⟨H1,a7,aT⟩=>?_);cases c with
|true=>exact⟨H1,a7,aT⟩
|false=>exact ae u0 ag s1 σ H1 Q a7 aT
def acH(az:iR X a jb):iR X (.UnaryOp .Not a pos) (Xo jb):=by
 intro ag s σ H Q I h;exact isTrue_not (az ag s σ H (λc H1=>Q (!c) H1) I h)
def adB(cg cM:TE):TE:=λσ H Q=>cg σ H λx H1=>∃c,x=.bL c/\if c=true then cM σ H1 Q else Q (.bL false) H1
def Xq(cg cM:TE):TE:=λσ H Q=>cg σ H λx H1=>∃c,x=.bL c/\if c=true then Q (.bL true) H1 else cM σ H1 Q
def ady(cg:TE):TE:=λσ H Q=>cg σ H λx H1=>∃c,x=.bL c/\Q (.bL (!c)) H1
def L2{op}{t:TE}(h:b6 X a t):b6 X (.BoolOp op [a] pos) t:=λag s σ H Q I hw=>BoolOp_one (h ag s σ H Q I hw)
def acX(az:b6 X a cg)(ae:b6 X (.BoolOp .And (b::rest) pos) cM):b6 X (.BoolOp .And (a::b::rest) pos) (adB cg cM):=by
 intro ag s σ H Q I h;refine BoolOp_and (ct (az ag s σ H _ I h) λv s1 ⟨x,H1,a7,a',aT⟩=>?_);obtain⟨c,rfl,aT⟩:=aT;cases a';refine m3 ?_;cases c with
|true=>exact ae ag s1 σ H1 Q a7 aT
|false=>exact⟨.bL false,H1,a7,rfl,aT⟩
def adN(az:b6 X a cg)(ae:b6 X (.BoolOp .Or (b::rest) pos) cM):b6 X (.BoolOp .Or (a::b::rest) pos) (Xq cg cM):=by
 intro ag s σ H Q I h;refine BoolOp_or (ct (az ag s σ H _ I h) λv s1 ⟨x,H1,a7,a',aT⟩=>?_);obtain⟨c,rfl,aT⟩:=aT;cases a';refine m3 ?_;cases c with
|false=>exact ae ag s1 σ H1 Q a7 aT
|true=>exact⟨.bL true,H1,a7,rfl,aT⟩
def acP(az:b6 X a cg):b6 X (.UnaryOp .Not a pos) (ady cg):=by
 intro ag s σ H Q I h;refine UnaryOp_ (ct (az ag s σ H _ I h) λv s1 ⟨x,H1,a7,a',aT⟩=>?_);obtain⟨c,rfl,aT⟩:=aT;cases a';exact not_of (m3 ⟨.bL (!c),H1,a7,rfl,aT⟩)
end
end bu
namespace bu
open PySem PySem.Spec PyProof.Rows
noncomputable def e5(K:bc)(H:aD)(a:ai)(xs:List V):Prop:=
 fk H a (.lst xs) \/
  ∃(o:Obj) (its:Array aj) (n:Nat),K.lookup a=some o/\o.cls=.type "list"/\o.dict=none/\o.data=.seq its n/\its.size<=cV/\Vals xs its.toList
noncomputable def cW(K:bc)(H:aD)(a:ai)(xs:List V):Prop:=
 fk H a (.tup xs) \/
  ∃(o:Obj) (its:Array aj) (n:Nat),K.lookup a=some o/\o.cls=.type "tuple"/\o.data=.seq its n/\its.size<=cV/\Vals xs its.toList
noncomputable def N6:aj->Option V
|.none=>some .gb
|.bool b=>some (.bL b)
|.int i _=>some (.int i)
|.str x _=>some (.str x)
|.bytes b _=>some (.wK b)
|.float b _=>some (.w7 b)
|.ref a=>some (.ref a)
|.type n=>some (.ty n)
|_=>none
def RelV.abs{x:V}{u:aj}(r:RelV x u):N6 u=some x:=by
 cases x with
|gb=>cases r;rfl
|bL _=>cases r;rfl
|int _=>obtain⟨t,rfl⟩:=r;rfl
|str _=>obtain⟨t,rfl⟩:=r;rfl
|wK _=>obtain⟨t,rfl⟩:=r;rfl
|w7 _=>obtain⟨t,rfl⟩:=r;rfl
|ref _=>cases r;rfl
|ty _=>cases r;rfl
def RelV.inj{x y:V}{u:aj}(r:RelV x u)(q:RelV y u):x=y:=ia (r.abs.symm.trans q.abs)
theorem Vals.inj:∀{xs ys:List V} {us:List aj},Vals xs us->Vals ys us->xs=ys
|_,_,_,.nil,.nil=>rfl
|_,_,_,.cons r t,.cons bU t'=>by rw[r.inj bU,Vals.inj t t']
section
variable {X:a5}{ag:List (ai×Obj)}{σ:St}{H:aD}{s:aG}{a:ai}{xs ys:List V}
def cW.of{K:bc}(h:H a=some (.tup xs)):cW K H a xs:=.inl (.inl h)
def Inv.list(I:Inv X ag σ H s)(h:e5 X.K H a xs):∃its:List aj,Vals xs its/\PlainL s.heap a its.toArray/\xs.length<=cV:=by
 rcases h with h|⟨o,its,n,aV,au,hd,aA,hz,r⟩
 ·obtain⟨z,its,n,r,e⟩:=h.ok I.bP;exact⟨its,r,⟨_,n,e,rfl,rfl,rfl⟩,z⟩
 ·refine⟨its.toList,r,⟨o,n,I.aeD a o aV,au,hd,by simpa using aA⟩,?_⟩
  have e:=r.length;simp only[hG] at e;omega
def Inv.tuple(I:Inv X ag σ H s)(h:cW X.K H a xs):∃its:List aj,Vals xs its/\IsTup s.heap a its.toArray/\xs.length<=cV:=by
 rcases h with h|⟨o,its,n,aV,au,aA,hz,r⟩
 ·obtain⟨z,its,r,p⟩:=h.ok I.bP;exact⟨its,r,p,z⟩
 ·refine⟨its.toList,r,⟨o,I.aeD a o aV,au,n,by simpa using aA⟩,?_⟩
  have e:=r.length;simp only[hG] at e;omega
def Inv.DV(I:Inv X ag σ H s)(h:e5 X.K H a xs)(h':e5 X.K H a ys):xs=ys:=by
 obtain⟨its,r,⟨o,n,e,_,_,d⟩,_⟩:=I.list h;obtain⟨its',bU,⟨d6,uF,b7,_,_,d'⟩,_⟩:=I.list h';rw[e] at b7;cases b7;rw[d] at d';injection d' with nJ _;have:its=its':=by simpa using congrArg Array.toList nJ
 subst this;exact r.inj bU
def Inv.EF(I:Inv X ag σ H s)(h:cW X.K H a xs)(h':cW X.K H a ys):xs=ys:=by
 obtain⟨its,r,⟨o,e,_,n,d⟩,_⟩:=I.tuple h;obtain⟨its',bU,⟨d6,b7,_,uF,d'⟩,_⟩:=I.tuple h';rw[e] at b7;cases b7;rw[d] at d';injection d' with nJ _;have:its=its':=by simpa using congrArg Array.toList nJ
 subst this;exact r.inj bU
end
abbrev a5.mU(X:a5)(E:aj->aG->Prop):a5:={X with dv:=E}
abbrev a5.hC(X:a5):a5:=X.mU λ_ _=>False
theorem a5.Ok.mU{X:a5}(ok:X.Ok)(E:aj->aG->Prop):(X.mU E).Ok:=
 ⟨ok.mod,ok.kind,ok.glob,ok.blt,ok.above,ok.inj,ok.has,ok.tP,ok.hd,ok.frames,ok.xO,ok.w6,ok.bs,ok.oS,ok.uJ,ok.tV,ok.kC,ok.qe⟩
def a5.Ok.px{X:a5}{E:aj->aG->Prop}(ok:(X.mU E).Ok):X.Ok:=
 ⟨ok.mod,ok.kind,ok.glob,ok.blt,ok.above,ok.inj,ok.has,ok.tP,ok.hd,ok.frames,ok.xO,ok.w6,ok.bs,ok.oS,ok.uJ,ok.tV,ok.kC,ok.qe⟩
section
variable {X:a5}{ag:List (ai×Obj)}{σ:St}{H:aD}{s:aG}{E:aj->aG->Prop}
theorem Inv.mU(I:Inv X ag σ H s)(E:aj->aG->Prop):Inv (X.mU E) ag σ H s:=⟨I.ok.mU E,I.os,I.bare,I.base,I.loc,I.cell,I.free,I.lA,I.pin,I.bP,I.len⟩
theorem Inv.px(I:Inv (X.mU E) ag σ H s):Inv X ag σ H s:=⟨I.ok.px,I.os,I.bare,I.base,I.loc,I.cell,I.free,I.lA,I.pin,I.bP,I.len⟩
theorem aeE.px{D:Ends}{f:Flow}{aZ:aG}(h:aeE (X.mU E) ag D f aZ):aeE X ag D f aZ:=by
 cases f with
|next=>obtain⟨bI,ah,I,q⟩:=h;exact⟨bI,ah,I.px,q⟩
|brk=>obtain⟨bI,ah,I,q⟩:=h;exact⟨bI,ah,I.px,q⟩
|cont=>obtain⟨bI,ah,I,q⟩:=h;exact⟨bI,ah,I.px,q⟩
|ret u=>obtain⟨v,bI,ah,I,r,q⟩:=h;exact⟨v,bI,ah,I.px,r,q⟩
theorem gV.hC{st:List Stmt}{t:hr}(h:gV X.hC st t):gV X st t:=λag s σ H D I hw=>
 g_ (h ag s σ H D (I.mU _) hw) (λ_ _ q=>q.px) λ_ _ z=>eL z
end
section
variable {X:a5}{st:Stmt}{rest:List Stmt}{t u:hr}{e:a8}{fb:TE}{pos:Pos}
def Mq:hr:=λD σ H=>D.nx σ H
def EB(t u:hr):hr:=λD σ H=>t {D with nx:=u D} σ H
def Ly:gV X [] Mq:=λ_ _ σ H _ I h=>wpAny_execs_nil ⟨σ,H,I,h⟩
def FL(af:mh X st t)(ao:gV X rest u):gV X (st::rest) (EB t u):=by
 intro ag s σ H D I h;refine wpAny_execs_cons (ct (af ag s σ H {D with nx:=u D} I h) λf s1 q=>?_);cases f with
|next=>
  obtain⟨bI,ah,tC,q⟩:=q;exact ao ag s1 bI ah D tC q
|ret v=>exact q
|brk=>exact q
|cont=>exact q
def FZ(af:mh X st t):gV X [st] t:=by
 intro ag s σ H D I h;refine wpAny_execs_cons (ct (af ag s σ H D I h) λf s1 q=>?_);cases f with
|next=>exact wpAny_execs_nil q
|ret v=>exact q
|brk=>exact q
|cont=>exact q
def EA(fb:TE):hr:=λD σ H=>fb σ H D.dn
def za(he:b6 X e fb):mh X (.Return (some e) pos) (EA fb):=by
 intro ag s σ H D I h;exact wpAny_Return_some (ct (he ag s σ H _ I h) λv s1 ⟨x,H1,a7,a',aT⟩=>⟨x,σ,H1,a7,a',aT⟩)
def Jx(c:TT)(t u:hr):hr:=λD σ H=>c σ H λb H1=>if b=true then t D σ H1 else u D σ H1
def Mu{c:a8}{a b:List Stmt}{tc:TT}(au:iR X c tc)(az:gV X a t)(ae:gV X b u):mh X (.If c a b pos) (Jx tc t u):=by
 intro ag s σ H D I h;refine wpAny_If (ct (au ag s σ H _ I h) λd s1 ⟨H1,a7,aT⟩=>?_);cases d with
|true=>exact az ag s1 σ H1 D a7 aT
|false=>exact ae ag s1 σ H1 D a7 aT
end
abbrev lg:=V->St->aD->(St->aD->Prop)->Prop
abbrev nB:=List V->St->aD->(St->aD->Prop)->Prop
noncomputable def oQ(X:a5)(target:a8)(t:lg):Prop:=
 ∀(ag:List (ai×Obj)) (s:aG) (σ:St) (H:aD) (v:V) (u:aj) (Q:St->aD->Prop),Inv X ag σ H s->RelV v u->t v σ H Q ->
  a4 (bh X.prog X.w) X.A (assign target X.env u) (λ_ aZ=>∃bI ah,Inv X ag bI ah aZ/\Q bI ah) X.dv s
noncomputable def pZ(X:a5)(ts:List a8)(t:nB):Prop:=
 ∀(ag:List (ai×Obj)) (s:aG) (σ:St) (H:aD) (vs:List V) (us:List aj) (Q:St->aD->Prop),Inv X ag σ H s->Vals vs us->t vs σ H Q ->
  a4 (bh X.prog X.w) X.A (assignInOrder ((l3 ts X.env).map (·.2)) us) (λ_ aZ=>∃bI ah,Inv X ag bI ah aZ/\Q bI ah) X.dv s
section
variable {X:a5}{pos:Pos}
def Gv(i:Nat):lg:=λv σ H Q=>Q (σ.set i (some v)) H
def abP{i:Nat}{x:Str}(ea:X.N.Nodup)(hi:X.N[i]?=some x)(hx:Loc X.env.scope x)(hf:X.fn x=true\/X.env.scope.names.lookup x=some .local:=by first|exact .inl rfl|exact .inr rfl|assumption):oQ X (.Name x pos) (Gv i):=by
 intro ag s σ H v u Q I r h;exact wpAny_assign_Name (K6 I ea hi hx r (λaZ tC=>⟨_,H,tC,h⟩) hf)
def QD:nB:=λvs σ H Q=>vs=[]/\Q σ H
def adY(t:lg)(u:nB):nB:=λvs σ H Q=>∃v r,vs=v::r/\t v σ H λbI ah=>u r bI ah Q
def abO:pZ X [] QD:=by
 intro ag s σ H vs us Q I r h;obtain⟨e,h⟩:=h;subst e;cases r;exact assignInOrder_nil ⟨σ,H,I,h⟩
def aa4{e:a8}{av:List a8}{t:lg}{u:nB}(af:oQ X e t)(ao:pZ X av u)
  (aA:(l3 (e::av) X.env).map (·.2)=assign e X.env::(l3 av X.env).map (·.2):=by rfl):pZ X (e::av) (adY t u):=by
 intro ag s σ H vs us Q I r h;obtain⟨v,EH,aC,h⟩:=h;subst aC;cases r with
|cons r jG=>
  rw[aA];refine assignInOrder_cons (ct (af ag s σ H _ _ _ I r h) λ_ s1 ⟨MH,H1,a7,aT⟩=>?_);exact ao ag s1 MH H1 _ _ Q a7 jG aT
def QE(K:bc)(n:Nat)(t:nB):lg:=λv σ H Q=>∃a xs,v=.ref a/\cW K H a xs/\xs.length=n/\t xs σ H Q
def acM{av:List a8}{k:Nat}{t:nB}{n:Nat}(au:X.calm=true)(h:pZ X av t)
  (a_:(l3 av X.env).length=n:=by rfl) (nZ:(l3 av X.env).findIdx? (·.1)=none:=by rfl):oQ X (.Tuple av k pos) (QE X.K n t):=by
 intro ag s σ H v u Q I r hw;obtain⟨a,xs,aC,a0,aF,hw⟩:=hw;subst aC;cases r;obtain⟨its,b3,aM,hz⟩:=I.tuple a0;refine assign_Tuple_tuple (I.ok.hd au) aM (by simp[a_,<- aF,b3.length]) nZ λh' hx=>?_;have a7:Inv X ag σ H {s with heap:=h'}:=I.kept (t':=s.toks) λb o e=>hx b o (cX (cv e)) e;exact h ag _ σ H xs _ Q a7 (by simpa using b3) hw
def Ew(fb:TE)(g:lg):hr:=λD σ H=>fb σ H λx H1=>g x σ H1 D.nx
def acK{b4 e:a8}{fb:TE}{g:lg}(he:b6 X e fb)(aU:oQ X b4 g)(aA:swapsWithSole [b4] e pos.line X.env=pure false:=by rfl)(hw:swappedStores [b4] e X.env=pure none:=by rfl)
  (af:(l3 [b4] X.env).map (·.2)=[assign b4 X.env]:=by rfl):mh X (.Assign [b4] e pos) (Ew fb g):=by
 intro ag s σ H D I h;refine wpAny_Assign_stores (ct (he ag s σ H _ I h) λv s1 ⟨x,H1,a7,a',aT⟩=>?_) aA hw;rw[af];exact ct (aU ag s1 σ H1 x v _ a7 a' aT) λ_ s2 q=>q
def L0{i:Nat}{x:Str}{e:a8}{fb:TE}{pos':Pos}(ea:X.N.Nodup)(hi:X.N[i]?=some x)(hx:Loc X.env.scope x)(he:b6 X e fb)(aA:swapsWith e (some (.Name x pos')) pos.line X.env=pure false:=by rfl)(hf:X.fn x=true\/X.env.scope.names.lookup x=some .local:=by first|exact .inl rfl|exact .inr rfl|assumption):
  mh X (.Assign [.Name x pos'] e pos) (Ew fb (Gv i)):=by
 intro ag s σ H D I h;refine wpAny_Assign_Name (ct (he ag s σ H _ I h) λv s1 ⟨y,H1,a7,a',aT⟩=>?_) aA;exact K6 a7 ea hi hx a' (λs2 b9=>⟨_,H1,b9,aT⟩) hf
end
structure iP where
 go:Nat->aD->Prop
 kb:Nat->aD->V->aD->Prop
 stop:Nat->aD->Prop
noncomputable def k5(X:a5)(ag:List (ai×Obj))(H:aD)(b:ai):Prop:=
 H b=none/\b≠X.env.locals/\b∉X.fs/\(b∈X.ex\/X.c7.heap.objs.size<=b)/\(∀x c,X.env.cells.lookup x=some c->c≠b)/\∀p∈X.dJ++ag,p.1≠b
def Inv.rW{X:a5}{ag:List (ai×Obj)}{σ:St}{H ah:aD}{s:aG}{b:ai}(I:Inv X ag σ H s)(ae:s.heap.objs.size<=b)(a_:ah b=none):k5 X ag ah b:=by
 refine⟨a_,mX (g9 I.lt ae),I.Tp ae,.inr (j' I.kT ae),λx c e z=>?_,λp aE z=>?_⟩
 ·obtain⟨v,q⟩:=I.cell x c e;exact absurd (g9 q.lt (by rw[z];exact ae)) (Nat.lt_irrefl _)
 ·exact absurd (g9 (cv (I.pin p aE).1) (by rw[z];exact ae)) (Nat.lt_irrefl _)
structure Turn(P:cH)(w:bY)(K:bc)(b4:a8)(J:iP)(bB:List ai)(it:ai)(g8:Nat->bk->Prop):Prop where
 mem:it∈bB
 obj:∀i h,g8 i h->∀b∈bB,∃o,h.get? b=some o/\∀v,o.data≠.cell v
 keep:∀i h h',g8 i h->(∀b∈bB,∀o,h.get? b=some o->h'.get? b=some o)->g8 i h'
 item:∀(X:a5),X.prog=P->X.w=w->X.K=K->X.calm=true->∀(i:Nat) (ag:List (ai×Obj)) (s:aG) (σ:St) (H:aD) (E:aj->aG->Prop),Inv X ag σ H s->(∀b∈bB,k5 X ag H b)->g8 i s.heap->J.go i H ->
  a4 (bh P w) X.A (pyNext (.ref it)) (λr s1=>∃u,r=some u /\
   a4 (bh P w) X.A (letOwnedTupleGo b4 (.ref it) u) (λ_ s2=>∃x ah,Inv X ag σ ah s2/\RelV x u/\J.kb i H x ah/\g8 (i+1) s2.heap/\∀b∈bB,ah b=none) E s1) E s
 done:∀(X:a5),X.prog=P->X.w=w->X.K=K->X.calm=true->∀(i:Nat) (ag:List (ai×Obj)) (s:aG) (σ:St) (H:aD) (E:aj->aG->Prop),Inv X ag σ H s->(∀b∈bB,k5 X ag H b)->g8 i s.heap->J.stop i H ->
  a4 (bh P w) X.A (pyNext (.ref it)) (λr s1=>r=none/\Inv X ag σ H s1) E s
 self:∀(A:cN) (i:Nat) (s:aG) (Q:aj->aG->Prop) (E:aj->aG->Prop),g8 i s.heap->Q (.ref it) s->a4 (bh P w) A (pyIter (.ref it)) Q E s
abbrev TI:=St->aD->(iP->aD->Prop)->Prop
noncomputable def GP(X:a5)(ag:List (ai×Obj))(σ:St)(b4:a8)(R:iP->aD->Prop)(CD:aj)(s2:aG):Prop:=
 ∃(it:ai) (bB:List ai) (g8:Nat->bk->Prop) (J:iP) (ah:aD),CD=.ref it/\Inv X ag σ ah s2/\Turn X.prog X.w X.K b4 J bB it g8/\g8 0 s2.heap/\(∀b∈bB,k5 X ag ah b)/\R J ah
noncomputable def k'(X:a5)(b4 iter:a8)(sq:TI):Prop:=
 ∀(ag:List (ai×Obj)) (s:aG) (σ:St) (H:aD) (R:iP->aD->Prop),Inv X ag σ H s->sq σ H R ->
  a4 (bh X.prog X.w) X.A (eval iter X.env) (λv s1=>a4 (bh X.prog X.w) X.A (pyIter v) (GP X ag σ b4 R) X.dv s1) X.dv s
def zq{M:Model}{A:cN}{E:aj->aG->Prop}{s:aG}{b4:a8}{it:ai}{u:aj}{o:Obj}{n:String}{vs:Array aj}{Q:Unit->aG->Prop}(aQ:s.heap.get? it=some o)(au:o.cls=.type n)(hd:o.data=.fields vs)
    (a_:["enumerate","zip","dict_itemiterator","dict_reverseitemiterator","odict_iterator","itertools.zip_longest","itertools.pairwise"].contains n=false) (dF:Q () s):a4 M A (letOwnedTupleGo b4 (.ref it) u) Q E s:=by
  unfold letOwnedTupleGo;cases b4 <;> first
    |exact bq dF
    | (cases u <;> first
        |exact bq dF
        | (refine aI (wpAny_load aQ ?_)
           rw[au,hd];show a4 M A (if (["enumerate","zip","dict_itemiterator","dict_reverseitemiterator","odict_iterator","itertools.zip_longest","itertools.pairwise"].contains n && vs[0]?==some (eU _))=true then _ else _) Q E s;rw[if_neg (by intro h;rw[a_,Bool.false_and] at h;cases h)];exact bq dF))
noncomputable def zI(K:bc)(a:ai):iP:=
 ⟨λi H=>∃xs x,e5 K H a xs/\xs[i]?=some x,λi H x ah=>ah=H/\∀xs,e5 K H a xs->xs[i]?=some x,λi H=>∃xs,e5 K H a xs/\xs.length<=i⟩
noncomputable def zJ(K:bc)(a:ai):iP:=
 ⟨λi H=>∃xs x,cW K H a xs/\xs[i]?=some x,λi H x ah=>ah=H/\∀xs,cW K H a xs->xs[i]?=some x,λi H=>∃xs,cW K H a xs/\xs.length<=i⟩
def wA(lo:Int)(n:Nat):iP:=⟨λi _=>i<n,λi H x ah=>ah=H/\x=.int (lo+i),λi _=>n<=i⟩
def _z{P:cH}{w:bY}{K:bc}{b4:a8}(a it:ai):Turn P w K b4 (zI K a) [it] it (λi h=>h.IsListIter it a i) where
 mem:=by simp
 obj:=λi h st b ae=>by
  have e:b=it:=by simpa using ae
  subst e;obtain⟨o,e,c,d⟩:=st;exact⟨o,e,λv z=>by rw[d] at z;cases z⟩
 keep:=λi h h' st k=>st.at λo e=>k it (by simp) o e
 item:=by
  intro X d2 hw eR au i ag s σ H E I hf st aU;subst d2 hw eR;obtain⟨xs,x,a0,hx⟩:=aU;obtain⟨its,b3,p,hz⟩:=I.list a0;obtain⟨u,bw,eD⟩:=b3.get hx;obtain⟨f0,f1,f2,e9,f4,e_⟩:=hf it (by simp);refine wpAny_pyNext_list_item st p.isList (x:=u) (by simpa using bw) λh' ix j2=>?_;have a7:Inv X ag σ H {s with heap:=h'}:=I.turned (t':=s.toks) (λb o ae e=>(j2.2 b ae).trans e) f0 f1 e9 f4 e_;obtain⟨o,e,c,d⟩:=id ix;exact⟨u,rfl,zq (s:={s with heap:=h'}) e c d (by decide) ⟨x,H,a7,eD,⟨rfl,λys bl=>by rw[I.DV bl a0];exact hx⟩,ix,λb ae=>(hf b ae).1⟩⟩
 done:=by
  intro X d2 hw eR au i ag s σ H E I hf st aU;subst d2 hw eR;obtain⟨xs,a0,hx⟩:=aU;obtain⟨its,b3,p,hz⟩:=I.list a0;obtain⟨f0,f1,f2,e9,f4,e_⟩:=hf it (by simp);have aF:=b3.length;exact wpAny_pyNext_list_end (I.ok.hd au) st p.isList (by simp;omega) λh' i0=>⟨rfl,I.turned (t':=s.toks) (λb o ae e=>i0 b o ae e) f0 f1 e9 f4 e_⟩
 self:=λ_ _ _ _ _ st h=>wpAny_pyIter_listiter st h
def ZI{P:cH}{w:bY}{K:bc}{b4:a8}(a it:ai):Turn P w K b4 (zJ K a) [it] it (λi h=>h.IsTupleIter it a i) where
 mem:=by simp
 obj:=λi h st b ae=>by
  have e:b=it:=by simpa using ae
  subst e;obtain⟨o,e,c,d⟩:=st;exact⟨o,e,λv z=>by rw[d] at z;cases z⟩
 keep:=λi h h' st k=>st.at λo e=>k it (by simp) o e
 item:=by
  intro X d2 hw eR au i ag s σ H E I hf st aU;subst d2 hw eR;obtain⟨xs,x,a0,hx⟩:=aU;obtain⟨its,b3,p,hz⟩:=I.tuple a0;obtain⟨u,bw,eD⟩:=b3.get hx;obtain⟨f0,f1,f2,e9,f4,e_⟩:=hf it (by simp);refine wpAny_pyNext_tuple_item st (show s.heap.IsTuple a its.toArray from p) (x:=u) (by simpa using bw) λh' ix j2=>?_;have a7:Inv X ag σ H {s with heap:=h'}:=I.turned (t':=s.toks) (λb o ae e=>(j2.2 b ae).trans e) f0 f1 e9 f4 e_;obtain⟨o,e,c,d⟩:=id ix;exact⟨u,rfl,zq (s:={s with heap:=h'}) e c d (by decide) ⟨x,H,a7,eD,⟨rfl,λys bl=>by rw[I.EF bl a0];exact hx⟩,ix,λb ae=>(hf b ae).1⟩⟩
 done:=by
  intro X d2 hw eR au i ag s σ H E I hf st aU;subst d2 hw eR;obtain⟨xs,a0,hx⟩:=aU;obtain⟨its,b3,p,hz⟩:=I.tuple a0;obtain⟨f0,f1,f2,e9,f4,e_⟩:=hf it (by simp);have aF:=b3.length;exact wpAny_pyNext_tuple_end (I.ok.hd au) st (show s.heap.IsTuple a its.toArray from p) (by simp;omega) λh' i0=>⟨rfl,I.turned (t':=s.toks) (λb o ae e=>i0 b o ae e) f0 f1 e9 f4 e_⟩
 self:=λ_ _ _ _ _ st h=>wpAny_pyIter_tupleiter st h
def ZJ{P:cH}{w:bY}{K:bc}{b4:a8}(it:ai)(lo:Int)(n:Nat):Turn P w K b4 (wA lo n) [it] it (λi h=>IsRangeIter h it (lo+(i:Nat)*1) ((n:Int) - (i:Nat)) 1) where
 mem:=by simp
 obj:=λi h st b ae=>by
  have e:b=it:=by simpa using ae
  subst e;exact⟨_,st,λv z=>by
   have fC:Data.fields _=Data.cell v:=z;cases fC⟩
 keep:=λi h h' st k=>k it (by simp) _ st
 item:=by
  intro X d2 hw eR au i ag s σ H E I hf st aU;subst d2 hw eR;obtain⟨f0,f1,f2,e9,f4,e_⟩:=hf it (by simp);have W:=Walks.range (prog:=X.prog) (w:=X.w) (I.ok.hd au) it lo 1 n;refine W.item i s _ _ aU st λv h' tk bj ix cG=>?_;obtain⟨t,rfl⟩:=bj;have a7:Inv X ag σ H {s with heap:=h',toks:=tk}:=I.turned (λb o ae e=>cG b o (by simpa using ae) e) f0 f1 e9 f4 e_;refine⟨_,rfl,zq (s:={s with heap:=h',toks:=tk}) (n:="range_iterator") ix rfl rfl (by decide) ⟨.int (lo+i),H,a7,⟨t,?_⟩,⟨rfl,rfl⟩,ix,λb ae=>(hf b ae).1⟩⟩;rw[Int.mul_one]
 done:=by
  intro X d2 hw eR au i ag s σ H E I hf st aU;subst d2 hw eR;obtain⟨f0,f1,f2,e9,f4,e_⟩:=hf it (by simp);exact wpAny_pyNext_range_end (I.ok.hd au) st (by have:n<=i:=aU;omega) λh' i0=>⟨rfl,I.turned (t':=s.toks) (λb o ae e=>i0 b o ae e) f0 f1 e9 f4 e_⟩
 self:=λ_ _ _ _ _ st h=>wpAny_pyIter_rangeiter st h
end bu
namespace bu
open PySem PySem.Spec PyProof.Rows
section
variable {X:a5}{b4:a8}
def aaY{ag:List (ai×Obj)}{σ:St}{H:aD}{s:aG}{R:iP->aD->Prop}{E:aj->aG->Prop}{lo hi:Int}{t u v:Tok}{tk:Nat}(I:Inv X ag σ H s)(af:-(2 ^ 62)<=lo)(ao:lo<2 ^ 62)(bA:-(2 ^ 62)<=hi)(c9:hi<2 ^ 62)
  (q:R (wA lo (hi - lo).toNat) H):a4 (bh X.prog X.w) X.A (pyIter (.ref s.heap.objs.size)) (GP X ag σ b4 R) E {s with heap:=s.heap.push {cls:=.type "range",data:=.fields #[.int lo t,.int hi u,.int 1 v]},toks:=tk}:=by
 refine wpAny_pyIter_range (IsRange.new ..) (small_one af ao bA c9) ?_
 have a7:Inv X ag σ H {s with heap:=s.heap.push {cls:=.type "range",data:=.fields #[.int lo t,.int hi u,.int 1 v]},toks:=tk}:=I.kept λb o e=>cp _ e;refine⟨(s.heap.push {cls:=.type "range",data:=.fields #[.int lo t,.int hi u,.int 1 v]}).objs.size,[(s.heap.push {cls:=.type "range",data:=.fields #[.int lo t,.int hi u,.int 1 v]}).objs.size],_,_,H,rfl,
  a7.kept (t':=tk) λb o e=>cp _ e,ZJ _ lo (hi - lo).toNat,?_,λb ae=>?_,q⟩
 ·have aC:lo+((0:Nat):Int)*1=lo:=by simp
  have aR:(((hi - lo).toNat:Nat):Int) - ((0:Nat):Int)=Builtin.Range.rangeSize lo hi 1:=by rw[rangeSize_one];split <;> omega
  show IsRangeIter _ _ (lo+((0:Nat):Int)*1) ((((hi - lo).toNat:Nat):Int) - ((0:Nat):Int)) 1
  rw[aC,aR];exact eQ _ rfl
 ·have e:b=(s.heap.push {cls:=.type "range",data:=.fields #[.int lo t,.int hi u,.int 1 v]}).objs.size:=by simpa using ae
  subst e;exact a7.rW (c_ _) (a7.bP.fresh (c_ _))
def adW(cg:fz):TI:=λσ H R=>cg σ H λvs H1=>∃j:Int,vs=[.int j]/\-(2 ^ 62)<=j/\j<2 ^ 62/\R (wA 0 j.toNat) H1
def _O{a:a8}{cg:fz}{p pos:Pos}(aU:ee X "range")(hm:X.mg "range"=none)(az:hS X [a] cg)(aA:bQ [a] X.env=[(false,eval a X.env)]:=by rfl):k' X b4 (.Call (.Name "range" p) [a] [] pos) (adW cg):=by
 intro ag s σ H R I h;refine Call_ (pL I aU hm boot_range (u6 (ct (az pos ag s σ H _ I h) λus s1 ⟨vs,H1,a7,a',aT⟩=>?_) aA rfl));obtain⟨j,e,aT,bg,q⟩:=aT;subst e;cases a' with
|cons r jG=>
  cases jG
  obtain⟨t,rfl⟩:=r;exact call_range_1 (aaY a7 (by omega) (by omega) aT bg (by simpa using q))
noncomputable def Xg(sq:TI)(g:lg)(cM:hr):hr:=λD σ H=>sq σ H λJ H1=>∃W:Nat->Nat->St->aD->Prop,(∃m,W 0 m σ H1)/\∀i m σ H,W i m σ H ->
 (J.stop i H/\D.nx σ H)\/(J.go i H/\∃N:St->aD->Prop,(∀bI ah,N bI ah->∃n6,n6<m/\W (i+1) n6 bI ah)/\∀x ah,J.kb i H x ah->g x σ ah λGw bt=>cM {D with nx:=N,b_:=N,gF:=D.nx} Gw bt)
def vL(bB:List ai)(h:bk):List (ai×Obj):=bB.filterMap λb=>(h.get? b).map λo=>(b,o)
def yC{bB:List ai}{h:bk}{b:ai}{o:Obj}(ae:b∈bB)(e:h.get? b=some o):(b,o)∈vL bB h:=List.mem_filterMap.mpr ⟨b,ae,by rw[e];rfl⟩
def _U{bB:List ai}{h:bk}{p:ai×Obj}(aE:p∈vL bB h):p.1∈bB/\h.get? p.1=some p.2:=by
 obtain⟨b,ae,e⟩:=List.mem_filterMap.mp aE;cases q:h.get? b with
|none=>rw[q] at e;cases e
|some o=>
  rw[q] at e;have b7:(b,o)=p:=ia e;subst b7;exact⟨ae,q⟩
def Inv.pinned{ag:List (ai×Obj)}{σ:St}{H:aD}{s:aG}{bB:List ai}(I:Inv X ag σ H s)(hf:∀b∈bB,k5 X ag H b)(aQ:∀b∈bB,∃o,s.heap.get? b=some o/\∀v,o.data≠.cell v):Inv X (ag++vL bB s.heap) σ H s:=
 I.I_ λp aE=>(mW.mp aE).elim (λz=>I.pin p (mY _ z)) λz=>by
  obtain⟨ae,e⟩:=_U z;obtain⟨f0,f1,f2,_⟩:=hf p.1 ae;obtain⟨o,b7,d⟩:=aQ p.1 ae;rw[e] at b7;cases b7;exact⟨e,f0,f1,f2,d⟩
def Inv.xW{ag cQ:List (ai×Obj)}{σ:St}{H:aD}{s:aG}(I:Inv X (ag++cQ) σ H s):Inv X ag σ H s:=I.I_ λp aE=>I.pin p (mY _ (List.mem_append_left _ aE))
def acJ{iter:a8}{body:List Stmt}{sq:TI}{g:lg}{cM:hr}{pos:Pos}(aE:PassesOwn (bh X.prog X.w) X.A X.env X.dv)(au:X.calm=true)(hi:k' X b4 iter sq)(aU:oQ X b4 g)(ae:gV X body cM)
  (aA:∀x,q1 iter X.env x=pure x:=by intro _;rfl):mh X (.For b4 iter body [] pos) (Xg sq g cM):=by
 intro ag s σ H D I h;refine wpAny_For (ct (hi ag s σ H _ I h) λv s1 af=>ct af λCD s2 ao=>?_) aA;obtain⟨it,bB,g8,J,bt,e,b9,T,j4,f2,W,⟨m0,og⟩,turn⟩:=ao;subst e;have qP:∀{ah:aD},(∀b∈bB,ah b=none)->∀b∈bB,k5 X ag ah b:=λa_ b ae=>⟨a_ b ae,(f2 b ae).2⟩;refine codeAny_forLoop_any (λn aZ=>∃i bI ah,Inv X ag bI ah aZ/\g8 i aZ.heap/\(∀b∈bB,ah b=none)/\W i n bI ah) ?_ m0 ⟨0,σ,bt,b9,j4,λb ae=>(f2 b ae).1,og⟩;rintro n s3 ⟨i,mb,dN,eN,uV,tY,EI⟩;rcases turn i n mb dN EI with ⟨stop,uL⟩|⟨go,N,ea,step⟩
 ·refine wpAny_passesOwn aE (ct (T.done X rfl rfl rfl au i ag s3 mb dN X.dv eN (qP tY) uV stop) λr s4 ⟨aw,k6⟩=>?_)
  subst aw;exact wpAny_execs_nil ⟨mb,dN,k6,uL⟩
 ·refine wpAny_passesOwn aE (ct (T.item X rfl rfl rfl au i ag s3 mb dN X.dv eN (qP tY) uV go) λr s4 ⟨u,aw,c9⟩=>?_)
  subst aw;refine wpAny_passesOwn aE (ct c9 λ_ s5 ⟨x,hp,oN,qK,EN,qO,BU⟩=>?_);have zF:=oN.pinned (qP BU) (T.obj _ _ qO);refine wpAny_passesOwn aE (ct (aU _ s5 mb hp x u _ zF qK (step x hp EN)) λ_ fq ⟨nf,oL,zG,VT⟩=>?_);refine wpAny_passesOwn aE (ct (ae _ fq nf oL _ zG VT) λf dC pj=>?_);have again:∀{js:St} {fQ:aD},Inv X (ag++vL bB s5.heap) js fQ dC->N js fQ->∃m,m<n/\∃i bI ah,Inv X ag bI ah dC/\g8 i dC.heap/\(∀b∈bB,ah b=none)/\W i m bI ah:=λ{js fQ} hq qA=>by
   obtain⟨n6,hm,X5⟩:=ea js fQ qA;refine⟨n6,hm,i+1,js,fQ,hq.xW,T.keep _ _ _ qO λb ae o e=>(hq.pin (b,o) (mY _ (mY _ (yC ae e)))).1,λb ae=>?_,X5⟩;obtain⟨o,e,d⟩:=T.obj _ _ qO b ae;exact (hq.pin (b,o) (mY _ (mY _ (yC ae e)))).2.1
  cases f with
  |next=>obtain⟨js,fQ,hq,qA⟩:=pj;exact again hq qA
  |cont=>obtain⟨js,fQ,hq,qA⟩:=pj;exact again hq qA
  |brk=>obtain⟨js,fQ,hq,pj⟩:=pj;exact⟨js,fQ,hq.xW,pj⟩
  |ret v=>obtain⟨kV,js,fQ,hq,qL,pj⟩:=pj;exact⟨kV,js,fQ,hq.xW,qL,pj⟩
end
end bu
namespace bu
open PySem PySem.Spec PyProof.Rows
abbrev eX:=V->V->aD->c5->Prop
noncomputable def d1(X:a5)(f:aj->aj->Sem aj)(r:eX):Prop:=
 ∀(ag:List (ai×Obj)) (s:aG) (σ:St) (H:aD) (x y:V) (v u:aj) (Q:c5),Inv X ag σ H s->RelV x v->RelV y u->r x y H Q ->
  a4 (bh X.prog X.w) X.A (f v u) (gT X ag σ Q) X.dv s
noncomputable def zQ(X:a5)(f:aj->Sem aj)(r:V->aD->c5->Prop):Prop:=
 ∀(ag:List (ai×Obj)) (s:aG) (σ:St) (H:aD) (x:V) (v:aj) (Q:c5),Inv X ag σ H s->RelV x v->r x H Q ->
  a4 (bh X.prog X.w) X.A (f v) (gT X ag σ Q) X.dv s
noncomputable def hl(X:a5)(f:aj)(r:List V->aD->c5->Prop):Prop:=
 ∀(ag:List (ai×Obj)) (s:aG) (σ:St) (H:aD) (xs:List V) (us:List aj) (Q:c5),Inv X ag σ H s->Vals xs us->r xs H Q ->
  a4 (bh X.prog X.w) X.A (call f us) (gT X ag σ Q) X.dv s
def qQ(r:eX)(cg cM:TE):TE:=λσ H Q=>cg σ H λx H1=>cM σ H1 λy bt=>r x y bt Q
def Xs(r:V->aD->c5->Prop)(cg:TE):TE:=λσ H Q=>cg σ H λx H1=>r x H1 Q
def uN(C:Int->Int->Prop)(g:Int->Int->V):eX:=λx y H Q=>∃i j,x=.int i/\y=.int j/\C i j/\Q (g i j) H
def jE(g:Int->Int->V):eX:=λx y H Q=>∃i j,x=.int i/\y=.int j/\Q (g i j) H
def Jg(g:Int->V):V->aD->c5->Prop:=λx H Q=>∃i,x=.int i/\Q (g i) H
section
variable {X:a5}{a b c:a8}{cg cM tc:TE}{pos:Pos}
def As(az:b6 X a cg)(ae:b6 X b cM){ag:List (ai×Obj)}{s:aG}{σ:St}{H:aD}{R:V->V->aD->Prop}(I:Inv X ag σ H s)
  (h:cg σ H λx H1=>cM σ H1 λy bt=>R x y bt) {Q:aj->aG->Prop} {f:aj->aj->Sem aj}
  (hf:∀v u s2 x y bt,Inv X ag σ bt s2->RelV x v->RelV y u->R x y bt->a4 (bh X.prog X.w) X.A (f v u) Q X.dv s2):
  a4 (bh X.prog X.w) X.A (eval a X.env) (λv cw=>a4 (bh X.prog X.w) X.A (eval b X.env) (λu j5=>a4 (bh X.prog X.w) X.A (f v u) Q X.dv j5) X.dv cw) X.dv s:=by
 refine ct (az ag s σ H _ I h) λv s1 ⟨x,H1,a7,a',aT⟩=>?_
 refine ct (ae ag s1 σ H1 _ a7 aT) λu s2 ⟨y,bt,b9,cL,bg⟩=>?_
 exact hf v u s2 x y bt b9 a' cL bg
def pQ{op:Operator}{r:eX}(aQ:d1 X (kZ op) r)(az:b6 X a cg)(ae:b6 X b cM):b6 X (.BinOp a op b pos) (qQ r cg cM):=by
 intro ag s σ H Q I h;exact wpAny_BinOp (As az ae I h λv u s2 x y bt b9 aS bz q=>aQ ag s2 σ bt x y v u Q b9 aS bz q)
def adM{op:UnaryOp}{r:V->aD->c5->Prop}(aQ:zQ X (unaryOp op) r)(az:b6 X a cg):b6 X (.UnaryOp op a pos) (Xs r cg):=by
 intro ag s σ H Q I h;exact UnaryOp_ (ct (az ag s σ H _ I h) λv s1 ⟨x,H1,a7,a',aT⟩=>aQ ag s1 σ H1 x v Q a7 a' aT)
def xx{f:aj->aj->Sem aj}{C:Int->Int->Prop}{g:Int->Int->Int}
  (rule:∀(i j:Int) (t u:Tok) (s:aG) (Q:aj->aG->Prop) (E:aj->aG->Prop),C i j->Q (.int (g i j) s.toks) {s with toks:=s.toks+1}->a4 (bh X.prog X.w) X.A (f (.int i t) (.int j u)) Q E s):
  d1 X f (uN C λi j=>.int (g i j)):=by
 intro ag s σ H x y v u Q I aS bz h;obtain⟨i,j,rfl,rfl,au,q⟩:=h;obtain⟨t,rfl⟩:=aS;obtain⟨t',rfl⟩:=bz;exact rule i j t t' s _ _ au ⟨.int (g i j),H,I.tok _,⟨_,rfl⟩,q⟩
def I7{f:aj->aj->Sem aj}{g:Int->Int->Int}
  (rule:∀(i j:Int) (t u:Tok) (s:aG) (Q:aj->aG->Prop) (E:aj->aG->Prop),Q (.int (g i j) s.toks) {s with toks:=s.toks+1}->a4 (bh X.prog X.w) X.A (f (.int i t) (.int j u)) Q E s):
  d1 X f (jE λi j=>.int (g i j)):=by
 intro ag s σ H x y v u Q I aS bz h;obtain⟨i,j,rfl,rfl,q⟩:=h;obtain⟨t,rfl⟩:=aS;obtain⟨t',rfl⟩:=bz;exact rule i j t t' s _ _ ⟨.int (g i j),H,I.tok _,⟨_,rfl⟩,q⟩
def xw{f:aj->aj->Sem aj}{g:Int->Int->Bool}
  (rule:∀(i j:Int) (t u:Tok) (s:aG) (Q:aj->aG->Prop) (E:aj->aG->Prop),Q (.bool (g i j)) s->a4 (bh X.prog X.w) X.A (f (.int i t) (.int j u)) Q E s):
  d1 X f (jE λi j=>.bL (g i j)):=by
 intro ag s σ H x y v u Q I aS bz h;obtain⟨i,j,rfl,rfl,q⟩:=h;obtain⟨t,rfl⟩:=aS;obtain⟨t',rfl⟩:=bz;exact rule i j t t' s _ _ ⟨.bL (g i j),H,I,rfl,q⟩
def MK(i j:Int):Prop:=0<j/\j<1073741824
def ML(i j:Int):Prop:=0<=j/\j<=1000000/\i.natAbs<2 ^ 64
def wq(i j:Int):Prop:=(-(2 ^ 64)<i/\i<2 ^ 64)\/(-(2 ^ 64)<j/\j<2 ^ 64)
def wq.ok{i j:Int}(h:wq i j):IntMulOk i j:=by
 rcases h with ⟨af,ao⟩|⟨af,ao⟩
 ·exact .of_left (intBits_le_64 af ao)
 ·exact .of_right (intBits_le_64 af ao)
def ac4:d1 X (kZ .Add) (jE λi j=>.int (i+j)):=I7 λ_ _ _ _ _ _ _ q=>add_int q
def acZ:d1 X (kZ .Sub) (jE λi j=>.int (i - j)):=I7 λ_ _ _ _ _ _ _ q=>sub_int q
def ac2:d1 X (kZ .Mult) (uN wq λi j=>.int (i*j)):=xx λ_ _ _ _ _ _ _ au q=>mul_int q au.ok
def abT:d1 X (kZ .FloorDiv) (uN MK λi j=>.int (i / j)):=xx λi j _ _ _ _ _ au q=>by
 have af:(0:Int)<j:=au.1;have ao:j<1073741824:=au.2;exact floordiv_int (by omega) (by rw[Int.fdiv_eq_ediv_of_nonneg i (by omega)];exact q) (.inl (PyProof.noPylong_small (by omega)))
def ac3:d1 X (kZ .Mod) (uN (λ_ j=>0<j) λi j=>.int (i % j)):=xx λi j _ _ _ _ _ au q=>by
 have af:(0:Int)<j:=au;exact mod_int' (by omega) (by rw[Int.fmod_eq_emod_of_nonneg i (by omega)];exact q)
def ac0:d1 X (kZ .Pow) (uN ML λi j=>.int (i ^ j.toNat)):=xx λ_ _ _ _ _ _ _ au q=>pow_int_small au.1 au.2.1 au.2.2 q
def X0{f:aj->Sem aj}{g:Int->Int}
  (rule:∀(i:Int) (t:Tok) (s:aG) (Q:aj->aG->Prop) (E:aj->aG->Prop),Q (.int (g i) s.toks) {s with toks:=s.toks+1}->a4 (bh X.prog X.w) X.A (f (.int i t)) Q E s):
  zQ X f (Jg λi=>.int (g i)):=by
 intro ag s σ H x v Q I aS h;obtain⟨i,rfl,q⟩:=h;obtain⟨t,rfl⟩:=aS;exact rule i t s _ _ ⟨.int (g i),H,I.tok _,⟨_,rfl⟩,q⟩
def acp:zQ X (unaryOp .USub) (Jg λi=>.int (-i)):=X0 λ_ _ _ _ _ q=>neg_int q
end
section
variable {X:a5}{a b c:a8}{cg cM tc:TE}{pos:Pos}
def vW{ag:List (ai×Obj)}{σ:St}{H:aD}{s:aG}{Q:c5}{k gu:Bool}(I:Inv X ag σ H s)(q:Q (.bL k) H)(e:k=gu):gT X ag σ Q (.bool gu) s:=by
 subst e;exact⟨.bL k,H,I,rfl,q⟩
def wa:d1 X (fZ .Lt) (jE λi j=>.bL (decide (i<j))):=xw λ_ _ _ _ _ _ _ q=>lt_int q
def zm:d1 X (fZ .LtE) (jE λi j=>.bL (decide (i<=j))):=xw λ_ _ _ _ _ _ _ q=>le_int q
def Gu:d1 X (fZ .Gt) (jE λi j=>.bL (decide (j<i))):=xw λ_ _ _ _ _ _ _ q=>gt_int q
def Mv:d1 X (fZ .GtE) (jE λi j=>.bL (decide (j<=i))):=xw λ_ _ _ _ _ _ _ q=>ge_int q
def vr:d1 X (fZ .Lt) (λx y H Q=>∃i j,x=.str i/\y=.str j/\Q (.bL (decide (i.cps.toList<j.cps.toList))) H):=by
 intro ag s σ H x y v u Q I aS bz h;obtain⟨i,j,rfl,rfl,q⟩:=h;obtain⟨t,rfl⟩:=aS;obtain⟨t',rfl⟩:=bz;exact lt_str (vW I q rfl)
def d1.or{f:aj->aj->Sem aj}{r bU:eX}(h:d1 X f r)(h':d1 X f bU):d1 X f (λx y H Q=>r x y H Q\/bU x y H Q):=by
 intro ag s σ H x y v u Q I aS bz q;rcases q with q|q
 ·exact h ag s σ H x y v u Q I aS bz q
 ·exact h' ag s σ H x y v u Q I aS bz q
def L8(b:a8){op:CmpOp}(h:op≠.In:=by decide)(ao:op≠.NotIn:=by decide):m2 op b=false:=by
 have aC:(op==CmpOp.In)=false:=by cases op <;> first|rfl|exact absurd rfl h
 have aR:(op==CmpOp.NotIn)=false:=by cases op <;> first|rfl|exact absurd rfl ao
 cases b <;> simp[m2,aC,aR]
def abQ{op:CmpOp}{r:eX}(aQ:d1 X (fZ op) r)(az:b6 X a cg)(ae:b6 X b cM)(hm:m2 op b=false):b6 X (.Compare a [op] [b] pos) (qQ r cg cM):=by
 intro ag s σ H Q I h;exact wpAny_Compare1 (As az ae I h λv u s2 x y bt b9 aS bz q=>aQ ag s2 σ bt x y v u Q b9 aS bz q) hm
def Mp(t:TE):TT:=λσ H Q=>t σ H λx ah=>∃k,x=.bL k/\Q k ah
def abJ{op:CmpOp}{r:eX}(aQ:d1 X (fZ op) r)(az:b6 X a cg)(ae:b6 X b cM)(hm:m2 op b=false):iR X (.Compare a [op] [b] pos) (Mp (qQ r cg cM)):=by
 intro ag s σ H Q I h;refine wpAny_isTrue_Compare1 (ct (az ag s σ H _ I h) λv s1 ⟨x,H1,a7,a',aT⟩=>ct (ae ag s1 σ H1 _ a7 aT) λu s2 ⟨y,bt,b9,cL,bg⟩=>
  ct (aQ ag s2 σ bt x y v u _ b9 a' cL bg) λc s3 ⟨z,dN,eN,i',k,e,c6⟩=>?_) hm
 subst e;cases i';exact m3 ⟨dN,eN,c6⟩
noncomputable def Ge(r bU:eX)(cg cM tc:TE):TE:=λσ H Q=>cg σ H λx H1=>cM σ H1 λy bt=>r x y bt λz dN=>∃k,z=.bL k /\
 (if k=true then tc σ dN λhF hP=>bU y hF hP Q else Q (.bL false) dN)
def aa6{op qG:CmpOp}{r bU:eX}(aQ:d1 X (fZ op) r)(fS:d1 X (fZ qG) bU)(az:b6 X a cg)(ae:b6 X b cM)(au:b6 X c tc)
  (hm:lastMarks [op,qG] [b,c]=false:=by with_unfolding_all rfl):b6 X (.Compare a [op,qG] [b,c] pos) (Ge r bU cg cM tc):=by
 intro ag s σ H Q I h;refine Compare_chain (ct (az ag s σ H _ I h) λv s1 ⟨x,H1,a7,a',aT⟩=>chain_link (ct (ae ag s1 σ H1 _ a7 aT) λu s2 ⟨y,bt,b9,cL,bg⟩=>
  ct (aQ ag s2 σ bt x y v u _ b9 a' cL bg) λd s3 ⟨z,dN,eN,i',k,e,c6⟩=>?_)) hm
 subst e;cases i';refine m3 ?_;cases k with
|false=>exact ite_ff ⟨.bL false,dN,eN,rfl,c6⟩
|true=>exact ite_tt (chain_last (ct (au ag s3 σ dN _ eN c6) λhF s4 ⟨fC,hP,k6,jD,kQ⟩=>fS ag s4 σ hP y fC u hF Q k6 cL jD kQ))
def aaZ{op qG:CmpOp}{r bU:eX}(aQ:d1 X (fZ op) r)(fS:d1 X (fZ qG) bU)(az:b6 X a cg)(ae:b6 X b cM)(au:b6 X c tc)
  (hm:lastMarks [op,qG] [b,c]=false:=by with_unfolding_all rfl):iR X (.Compare a [op,qG] [b,c] pos) (Mp (Ge r bU cg cM tc)):=by
 intro ag s σ H Q I h;refine isTrue_chain (ct (az ag s σ H _ I h) λv s1 ⟨x,H1,a7,a',aT⟩=>test_link (ct (ae ag s1 σ H1 _ a7 aT) λu s2 ⟨y,bt,b9,cL,bg⟩=>
  ct (aQ ag s2 σ bt x y v u _ b9 a' cL bg) λd s3 ⟨z,dN,eN,i',k,e,c6⟩=>?_)) hm
 subst e;cases i';refine m3 ?_;cases k with
|false=>
  obtain⟨gu,b7,di⟩:=c6;cases b7;exact ite_ff ⟨dN,eN,di⟩
|true=>
  refine ite_tt (test_last (ct (au ag s3 σ dN _ eN c6) λhF s4 ⟨fC,hP,k6,jD,kQ⟩=>ct (fS ag s4 σ hP y fC u hF _ k6 cL jD kQ) λd' s5 ⟨hc,hp,oN,qK,cU,aR,qJ⟩=>?_))
  subst aR;cases qK;exact m3 ⟨hp,oN,qJ⟩
def vR:(cV:Nat)<2 ^ 63:=by rw[sizeLine_eq];decide
def Z2:d1 X (kZ .Add) (λx y H Q=>∃i j,x=.str i/\y=.str j/\i.length+j.length<=cV/\Q (.str (i++j)) H):=by
 intro ag s σ H x y v u Q I aS bz h;obtain⟨i,j,rfl,rfl,hz,q⟩:=h;obtain⟨t,rfl⟩:=aS;obtain⟨t',rfl⟩:=bz;exact add_str (λt' tk=>⟨.str (i++j),H,I.tok _,⟨_,rfl⟩,q⟩) hz
def vals1{x:V}{us:List aj}(r:Vals [x] us):∃u,us=[u]/\RelV x u:=by
 cases r with
|cons a' cL=>cases cL;exact⟨_,rfl,a'⟩
def vals2{x y:V}{us:List aj}(r:Vals [x,y] us):∃u hF,us=[u,hF]/\RelV x u/\RelV y hF:=by
 cases r with
|cons a' cL=>
  cases cL with
  |cons i' jD=>cases jD;exact⟨_,_,rfl,a',i'⟩
def aax(au:X.calm=true):hl X (.builtin "max") (λxs H Q=>∃i j,xs=[.int i,.int j]/\Q (.int (if j > i then j else i)) H):=by
 intro ag s σ H xs us Q I r h;obtain⟨i,j,rfl,q⟩:=h;obtain⟨u,hF,rfl,⟨t,rfl⟩,⟨t',rfl⟩⟩:=vals2 r;refine max_two_ints (I.ok.hd au) λh' tk k=>⟨_,H,I.kept k,?_,q⟩;by_cases dG:j > i
 ·rw[if_pos dG,if_pos dG];exact⟨_,rfl⟩
 ·rw[if_neg dG,if_neg dG];exact⟨_,rfl⟩
def aaw(au:X.calm=true):hl X (.builtin "min") (λxs H Q=>∃i j,xs=[.int i,.int j]/\Q (.int (if j<i then j else i)) H):=by
 intro ag s σ H xs us Q I r h;obtain⟨i,j,rfl,q⟩:=h;obtain⟨u,hF,rfl,⟨t,rfl⟩,⟨t',rfl⟩⟩:=vals2 r;refine min_two_ints (I.ok.hd au) λh' tk k=>⟨_,H,I.kept k,?_,q⟩;by_cases dG:j<i
 ·rw[if_pos dG,if_pos dG];exact⟨_,rfl⟩
 ·rw[if_neg dG,if_neg dG];exact⟨_,rfl⟩
end
end bu
namespace bu
open PySem PySem.Spec PyProof.Rows
end bu
namespace bu
open PySem PySem.Spec PyProof.Rows
structure ef(k:Nat)(A:cN):Prop where
 hd:A.handled=none
 wV:A.depth+3*k+5<recursionLimit
 un:A.units+16*k+200<cLine
 dt:A.guards=some []
def ef.mono{j k:Nat}{A:cN}(r:ef k A)(h:j<=k):ef j A:=⟨r.hd,by have:=r.wV;omega,by have:=r.un;omega,r.dt⟩
theorem ef.deeper{k:Nat}{A:cN}(r:ef (k+1) A)(env:Env):ef k (A.deeper env):=
 ⟨r.hd,by have:=r.wV;show A.depth+1+3*k+5<_;omega,by have:=r.un;show A.units+3+16*k+200<_;omega,r.dt⟩
theorem ef.depth{k:Nat}{A:cN}(r:ef k A):A.depth<recursionLimit:=by have:=r.wV;omega
theorem ef.units{k:Nat}{A:cN}(r:ef k A):A.units+64<cLine:=by have:=r.un;omega
def xR:fz:=λ_ H Q=>Q [] H
def aeJ(cg:TE)(XO:fz):fz:=λσ H Q=>cg σ H λx H1=>XO σ H1 λxs bt=>Q (x::xs) bt
section
variable {X:a5}{e:a8}{av:List a8}{fb:TE}{t:fz}{pos:Pos}
def l_:hS X [] xR:=λ_ _ _ _ H Q I h=>Calls.spliced_nil ⟨[],H,I,.nil,h⟩
def iG(az:b6 X e fb)(aw:hS X av t)(aA:bQ (e::av) X.env=(false,eval e X.env)::bQ av X.env:=by rfl):hS X (e::av) (aeJ fb t):=by
 intro pos ag s σ H Q I h;rw[aA];show a4 _ _ (spliced ((false,eval e X.env)::gk pos (bQ av X.env))) _ _ s;refine Calls.spliced_cons (ct (az ag s σ H _ I h) λu s1 ⟨x,H1,a7,a',aT⟩=>?_);exact ct (aw pos ag s1 σ H1 _ a7 aT) λus s2 ⟨xs,bt,b9,cL,bg⟩=>⟨x::xs,bt,b9,.cons a' cL,bg⟩
def Jz(t:fz):TE:=λσ H Q=>t σ H λxs H1=>xs.length<=cV/\∀p,H1 p=none->Q (.ref p) (upd H1 p (.tup xs))
def Xn(t:fz):TE:=λσ H Q=>t σ H λxs H1=>xs.length<=cV/\∀p,H1 p=none->Q (.ref p) (upd H1 p (.lst xs))
def L1{a3}(h:hS X av t):b6 X (.Tuple av a3 pos) (Jz t):=by
 intro ag s σ H Q I a0;refine wpAny_Tuple_spliced (ct (h pos ag s σ H _ I a0) λus s1 ⟨xs,H1,a7,r,z,q⟩=>⟨by rw[<- r.length];exact z,?_⟩);have hf:H1 s1.heap.objs.size=none:=a7.bP.fresh (c_ _);refine⟨.ref s1.heap.objs.size,upd H1 s1.heap.objs.size (.tup xs),a7.laid (t':=s1.toks) (λb u e=>cp _ e) (c_ _) ?_,rfl,q _ hf⟩;exact⟨z,us,r,⟨_,eQ _ rfl,rfl,_,rfl⟩⟩
def acR(h:hS X av t):b6 X (.List av pos) (Xn t):=by
 intro ag s σ H Q I a0;refine wpAny_List_spliced (ct (h pos ag s σ H _ I a0) λus s1 ⟨xs,H1,a7,r,z,q⟩=>⟨by rw[<- r.length];exact z,?_⟩);have hf:H1 s1.heap.objs.size=none:=a7.bP.fresh (c_ _);refine⟨.ref s1.heap.objs.size,upd H1 s1.heap.objs.size (.lst xs),a7.laid (t':=s1.toks) (λb u e=>cp _ e) (c_ _) ?_,rfl,q _ hf⟩;exact⟨z,us,0,r,eQ _ rfl⟩
end
abbrev mq:=List V->aD->c5->hT->Prop
abbrev kn:=List Env->aD->aG->hT->aj->aG->Prop
structure ni(P:cH)(w:bY)(K:bc)(mg:Str->Option aj)(base:bk)(A:cN)(outer:List Env)(s:aG)(H:aD):Prop where
 frames:A.frames=some outer
 mod:Mod K mg base
 bs:∀b o,base.get? b=some o->s.heap.get? b=some o/\H b=none
 oS:base.objs.size<=s.heap.objs.size
 kC:s.heap.FunFrames base outer
 qe:∀b∈lB outer,H b=none
 bP:e3 P w H s.heap
 bare:AllBare s.gens
noncomputable def wo(outer:List Env)(P:cH)(w:bY)(H:aD)(s:aG)(Q:c5)(u:aj)(aZ:aG):Prop:=
 ∃v ah,aZ.os=s.os/\AllBare aZ.gens/\eY (lB outer) [] H ah s.heap aZ.heap/\e3 P w ah aZ.heap/\RelV v u/\Q v ah
noncomputable def pU(ed:kn)(outer:List Env)(P:cH)(w:bY)(H:aD)(s:aG)(Q:c5)(E:hT)(r:Result)(aZ:aG):Prop:=
 match r with
|.ok (.ret u)=>wo outer P w H s Q u aZ
|.ok _=>False
|.error e=>ed outer H s E e aZ
structure fP(P:cH)(w:bY)(K:bc)(mg:Str->Option aj)(base:bk)(ed:kn)(k:Nat)(f:ai)(fd:e1)(ps:List Str)(sp:mq):Prop where
 len:∀vs H Q E,sp vs H Q E->vs.length=ps.length
 run:∀(A:cN) (outer:List Env) (s:aG) (H:aD) (args:Args) (us:List aj) (vs:List V) (Q:c5) (E:hT),ef k A->ni P w K mg base A outer s H->BindsTo s fd args (ps.zip us)->Vals vs us->sp vs H Q E ->
  ic (bh P w) A (.call (.ref f) args) (pU ed outer P w H s Q E) s
theorem fP.mono{P:cH}{w:bY}{K:bc}{mg:Str->Option aj}{base:bk}{ed:kn}{j k:Nat}{f:ai}{fd:e1}{ps:List Str}{sp:mq}(F:fP P w K mg base ed j f fd ps sp)(h:j<=k):
  fP P w K mg base ed k f fd ps sp:=⟨F.len,λA outer s H args us vs Q E aw=>F.run A outer s H args us vs Q E (aw.mono h)⟩
def fP.imp{P:cH}{w:bY}{K:bc}{mg:Str->Option aj}{base:bk}{ed:kn}{k:Nat}{f:ai}{fd:e1}{ps:List Str}{sp Jl:mq}(F:fP P w K mg base ed k f fd ps sp)
  (h:∀vs H Q E,Jl vs H Q E->sp vs H Q E):fP P w K mg base ed k f fd ps Jl:=
 ⟨λvs H Q E q=>F.len vs H Q E (h _ _ _ _ q),λA outer s H args us vs Q E aw he ae bj aA=>F.run A outer s H args us vs Q E aw he ae bj (h _ _ _ _ aA)⟩
section
variable {X:a5}{ag:List (ai×Obj)}{σ:St}{H:aD}{s aZ:aG}
def Inv.w3(I:Inv X ag σ H s):ni X.prog X.w X.K X.mg X.base X.A X.stack s H:=
 ⟨I.ok.frames,I.ok.mod,I.bs,j' I.ok.oS I.kT,I.stack,I.Jp,I.bP,I.bare⟩
def Inv.after{Q:c5}{u:aj}(I:Inv X ag σ H s)(h:wo X.stack X.prog X.w H s Q u aZ):gT X ag σ Q u aZ:=by
 obtain⟨v,ah,os,bare,un,bP,r,q⟩:=h;obtain⟨b',g,d,t,iw⟩:=aZ;obtain rfl:iw=s.os:=os;exact⟨v,ah,I.call (h':=b') (g':=g) (d':=d) (t':=t) (ch:=[]) un bP bare (λb z=>absurd z (by simp)),r,q⟩
end
def adA(sp:mq)(oU:List V)(E:hT)(t:fz):TE:=λσ H Q=>t σ H λvs H1=>sp (vs++oU) H1 Q E
def Binds(K:bc)(fd:e1)(ps:List Str)(ds:List aj):Prop:=
 ∀(s:aG) (us:List aj),K.In s.heap->(us++ds).length=ps.length->BindsTo s fd ⟨us,[]⟩ (ps.zip (us++ds))
def Binds.all{K:bc}{fd:e1}{ps:List Str}(h:∀us:List aj,us.length=ps.length->bindArgs fd ⟨us,[]⟩=pure (ps.zip us)):Binds K fd ps []:=λs us _ aF=>by
 rw[pz] at aF ⊢;exact .of_eq (h us aF)
def Passes(ed:kn)(X:a5)(E:hT):Prop:=∀(ag:List (ai×Obj)) (σ:St) (H:aD) (s:aG) (e:aj) (aZ:aG),Inv X ag σ H s->ed X.stack H s E e aZ->X.dv e aZ
section
variable {X:a5}{ed:kn}{k:Nat}{f C:ai}{fd:e1}{ps:List Str}{sp:mq}{oU:List V}{ds:List aj}{E:hT}{x m:Str}{p pos apos:Pos}{e o:a8}{av:List a8}{cg:TE}{t:fz}
def acA{ag:List (ai×Obj)}{σ:St}{H:aD}{s:aG}{Q:c5}{us:List aj}{vs:List V}(F:fP X.prog X.w X.K X.mg X.base ed k f fd ps sp)(aw:ef k X.A)(ae:Binds X.K fd ps ds)(hd:Vals oU ds)(hx:Passes ed X E)
  (I:Inv X ag σ H s) (r:Vals vs us) (h:sp (vs++oU) H Q E):a4 (bh X.prog X.w) X.A (call (.ref f) us) (gT X ag σ Q) X.dv s:=by
 have cL:Vals (vs++oU) (us++ds):=r.append hd;have aF:(us++ds).length=ps.length:=by rw[<- cL.length];exact F.len _ _ _ _ h
 refine wpAny_call (m1 (F.run X.A X.stack s H ⟨us,[]⟩ (us++ds) (vs++oU) Q E aw I.w3 (ae s us I.aeD aF) cL h) λr aZ a0=>?_)
 cases r with
|error e=>exact hx ag σ H s e aZ I a0
|ok gr=>
  cases gr with
  |ret u=>exact I.after a0
  |next=>exact eL a0
  |brk=>exact eL a0
  |cont=>exact eL a0
def abR(F:fP X.prog X.w X.K X.mg X.base ed k f fd ps sp)(aw:ef k X.A)(aU:ee X x)(hm:X.mg x=some (.ref f))(aV:oi X.K (.ref f)=true)(ae:Binds X.K fd ps ds)(hd:Vals oU ds)(hx:Passes ed X E)
  (az:hS X (e::av) t) (g5:(x==("__debug__":Str))=false:=by decide) (he:bQ (e::av) X.env=(false,eval e X.env)::bQ av X.env:=by rfl) (hpl:(gk pos (bQ av X.env)).any (·.1)=false:=by rfl):
  b6 X (.Call (.Name x p) (e::av) [] pos) (adA sp oU E t):=by
 intro ag s σ H Q I h;refine sr (F5 I aU hm ?_ g5);refine PySem.W.callWith_K (h₀:=X.base) I.ok.mod.r5 aV (ct (az pos ag s σ H _ I h) λus s1 ⟨vs,H1,a7,r,q⟩=>⟨a7.aeD,?_⟩) he hpl;exact acA F aw ae hd hx a7 r q
end
structure c4(N P:List Str)(sc:Scope):Prop where
 kind:sc.kind=.function
 co:sc.isCoroutine=false
 gen:sc.isGenerator=false
 bF:N.Nodup
 pre:N.take P.length=P
 par:∀x∈P,sc.names.lookup x=some .local\/sc.names.lookup x=some .cell
 To:∀y∈sc.names,y.2≠.free
theorem KU{kindOf:Str->Option ka}{x:Str}:∀{binds:List (Str×aj)} {m:Str->Option aj},(∀v,(x,v)∉binds)->bindL kindOf binds m x=m x
  | [],_,_=>rfl
  | (n,v)::r,m,h=>by
    unfold bindL;rw[KU λw hw=>h w (gz _ hw)];split
    · have:x≠n:=by rintro rfl;exact h v mV
      simp[this]
    · rfl
theorem KW{kindOf:Str->Option ka}{x:Str}:∀{binds:List (Str×aj)} {m:Str->Option aj},(∀v,(x,v)∉binds)->bindC kindOf binds m x=m x
  | [],_,_=>rfl
  | (n,v)::r,m,h=>by
    unfold bindC;rw[KW λw hw=>h w (gz _ hw)];split
    · rfl
    · have:x≠n:=by rintro rfl;exact h v mV
      simp[this]
theorem KV{kindOf:Str->Option ka}{x:Str}{v:aj}:∀{P:List Str} {vs:List aj} {i:Nat} {m:Str->Option aj},P.Nodup->P[i]?=some x->vs[i]?=some v->kindOf x=some .local ->
  bindL kindOf (P.zip vs) m x=some v
| [],_,_,_,_,h,_,_=>by simp at h
|_::_,[],_,_,_,_,h,_=>by simp at h
|p::P,w::vs,0,m,bF,af,ao,aV=>by
  simp at af ao;subst af;subst ao;show bindL kindOf ((p,w)::P.zip vs) m p=_;unfold bindL;rw[KU λv bj=>(u4.mp bF).1 (List.of_mem_zip bj).1,if_pos aV];simp
|p::P,w::vs,i+1,m,bF,af,ao,aV=>by
  show bindL kindOf ((p,w)::P.zip vs) m x=_
  unfold bindL;exact KV (i:=i) (u4.mp bF).2 (by simpa using af) (by simpa using ao) aV
theorem KX{kindOf:Str->Option ka}{x:Str}{v:aj}:∀{P:List Str} {vs:List aj} {i:Nat} {m:Str->Option aj},P.Nodup->P[i]?=some x->vs[i]?=some v->kindOf x≠some .local ->
  bindC kindOf (P.zip vs) m x=some v
| [],_,_,_,_,h,_,_=>by simp at h
|_::_,[],_,_,_,_,h,_=>by simp at h
|p::P,w::vs,0,m,bF,af,ao,aV=>by
  simp at af ao;subst af;subst ao;show bindC kindOf ((p,w)::P.zip vs) m p=_;unfold bindC;rw[KW λv bj=>(u4.mp bF).1 (List.of_mem_zip bj).1,if_neg aV];simp
|p::P,w::vs,i+1,m,bF,af,ao,aV=>by
  show bindC kindOf ((p,w)::P.zip vs) m x=_
  unfold bindC;exact KX (i:=i) (u4.mp bF).2 (by simpa using af) (by simpa using ao) aV
def start(N:List Str)(vs:List V):St:=vs.map some++jc (N.length - vs.length) none
noncomputable def gG(ed:kn)(P:cH)(w:bY)(K:bc)(mg:Str->Option aj)(base:bk)(N:List Str)(qual:Str)(scope:Scope)(f:ai)(cd:aj)(A:cN)(outer:List Env)(s:aG)(H:aD)(E:hT):a5 where
 prog:=P
 w:=w
 K:=K
 mg:=mg
 base:=base
 A:=A.deeper (envOfC qual scope s.heap.objs.size f cd)
 N:=N
 c7:=s
 aN:=H
 env:=envOfC qual scope s.heap.objs.size f cd
 outer:=outer
 stack:=envOfC qual scope s.heap.objs.size f cd::outer
 ex:=[]
 calm:=true
 fn:=λ_=>true
 dJ:=[]
 dv:=λe aZ=>a4 (bh P w) (A.deeper (envOfC qual scope s.heap.objs.size f cd)) (leaving (envOfC qual scope s.heap.objs.size f cd) e) (λ_ uU=>ed outer H s E e uU) (λb7 uU=>ed outer H s E b7 uU) aZ
def Lo{sc:Scope}{n:Nat}{x:Str}(h:sc.names.lookup x=some .cell):∃c,(cellsFrom n sc.names []).lookup x=some c:=by
 have q:=PySem.W.cellsFrom_some sc.names n [] (.inl h);exact Option.isSome_iff_exists.mp q
def KL{ed:kn}{P:cH}{w:bY}{K:bc}{mg:Str->Option aj}{base:bk}{N ps:List Str}{qual:Str}{scope:Scope}{f:ai}{cd:aj}{A:cN}{outer:List Env}{s s1:aG}{H:aD}{E:hT}{us:List aj}{vs:List V}
  (S:c4 N ps scope) (hd:A.handled=none) (bG:ni P w K mg base A outer s H) (aF:vs.length=ps.length) (r:Vals vs us)
  (x:InCallC s s.heap.objs.size (bindL (envOfC qual scope s.heap.objs.size f cd).kindOf (ps.zip us) λ_=>none) (cellsFrom (s.heap.objs.size+1) scope.names []) (bindC (envOfC qual scope s.heap.objs.size f cd).kindOf (ps.zip us) λ_=>none) s1):
  Inv (gG ed P w K mg base N qual scope f cd A outer s H E) [] (start N vs) H s1:=by
 have hpl:ps.length<=N.length:=by have:=congrArg List.length S.pre;rw[List.length_take] at this;omega
 obtain⟨af,tk,rfl,aV⟩:=x.done;have n7:∀b:ai,b∉(gG ed P w K mg base N qual scope f cd A outer s H E).ex:=λb z=>absurd (show b∈([]:List ai) from z) (by simp);refine⟨⟨bG.mod,S.kind,rfl,rfl,c_ _,λy z c af ao=>?_,λy bl=>?_,λy c _ h=>?_,λ_=>hd,Around.frames_deeper bG.frames,.inr ⟨rfl,rfl⟩,λb z=>absurd z (n7 b),bG.bs,bG.oS,λb _ _=>n7 b,λb z=>absurd z (n7 b),bG.kC,bG.qe⟩,
  rfl,bG.bare,eY.kept aV,⟨_,x.toInCall.ns,λi y v af ao bA=>?_⟩,λy c h=>⟨_,x.cell y c h⟩,bG.bP.fresh (c_ _),λy c h=>?_,λp aE=>absurd (show p∈([]:List (ai×Obj)) from aE) (by simp),bG.bP.kept aV,?_⟩
 ·exact name_of_addr x.apart (aeG af) (aeG ao)
 ·have bl:scope.names.lookup y=some .cell\/scope.names.lookup y=some .free:=bl;rcases bl with bl|bl
  ·exact Lo bl
  ·exact absurd rfl (S.To _ (aeG bl))
 ·exact Nat.le_of_lt (x.above y c (aeG h))
 ·have hi:i<vs.length:=by
   unfold start at ao;by_cases hi:i<vs.length
   ·exact hi
   ·rw[u5 (by simpa using hi)] at ao;rw[List.getElem?_replicate] at ao;split at ao <;> cases ao
  have az:vs[i]?=some v:=by
   unfold start at ao;rw[yb (by simpa using hi),kW] at ao;cases e:vs[i]? with
   |none=>rw[e] at ao;cases ao
   |some a=>rw[e] at ao;cases ao;rfl
  obtain⟨u,bw,b3⟩:=r.get az;have aE:ps[i]?=some y:=by
   rw[<- S.pre,List.getElem?_take_of_lt (by omega)];exact af
  have IU:ps.Nodup:=by rw[<- S.pre];exact S.bF.sublist (List.take_sublist _ _)
  refine⟨u,b3,?_⟩
  rcases S.par y (qW aE) with k|k
  ·exact .inl ⟨k,KV IU aE bw k⟩
  ·obtain⟨c,e⟩:=Lo (n:=s.heap.objs.size+1) k;refine .inr ⟨.inl k,c,e,?_⟩;have q:=x.cell y c e;rw[KX IU aE bw (by show scope.names.lookup y≠_;rw[k];decide)] at q;exact q
 ·exact bG.bP.fresh (Nat.le_of_lt (x.above y c (aeG h)))
 ·unfold start;show _=N.length;rw[qX,ej,List.length_replicate];omega
def MB{ed:kn}{P:cH}{w:bY}{K:bc}{mg:Str->Option aj}{base:bk}{k:Nat}{f:ai}{name qual:Str}{params:Arguments}{body:List Stmt}{scope:Scope}{wR eJ doc pm cy b_ gc:aj}{an gx:Option ai}
  {jZ:Array (Option aj)} {N ps:List Str} {sp:mq} (lk:K.lookup f=some ⟨gc,gx,.func (j_ name qual params body scope wR eJ doc pm an cy b_),jZ⟩) (eB:qU K cy qual=true) (S:c4 N ps scope)
  (len:∀vs H Q E,sp vs H Q E->vs.length=ps.length)
  (ud:∀(A:cN) (outer:List Env) (s:aG) (H:aD) (vs:List V) (Q:c5) (E:hT),ef k (A.deeper (envOfC qual scope s.heap.objs.size f cy))->sp vs H Q E ->
   ∃t,gV (gG ed P w K mg base N qual scope f cy A outer s H E) body t/\t {nx:=λ_ ah=>Q .gb ah,dn:=Q} (start N vs) H):
  fP P w K mg base ed (k+1) f (j_ name qual params body scope wR eJ doc pm an cy b_) ps sp:=by
 refine⟨len,λA outer s H args us vs Q E aw bG ae r o'=>?_⟩
 have aF:=len _ _ _ _ o';have iQ:K.In s.heap:=bG.mod.r5.keeps λb o e=>(bG.bs b o e).1;have lim:s.heap.NoLimit:=bG.mod.nolimit.keeps λb o e=>(bG.bs b o e).1;have Cc:∀y∈ps.zip us,scope.names.lookup y.1=some .local\/(scope.names.lookup y.1=some .cell/\((cellsFrom (s.heap.objs.size+1) scope.names []).lookup y.1).isSome=true):=λ⟨n,v⟩ bl=>by
  rcases S.par n (List.of_mem_zip bl).1 with q|q
  ·exact .inl q
  ·exact .inr ⟨q,PySem.W.cellsFrom_some _ _ _ (.inl q)⟩
 refine codeAny_call_function aw.depth (iQ _ _ lk) rfl S.co S.gen rfl (PySem.W.codeRec_of iQ eB) (ae _ _ _ _ ?_)
 refine wpAny_newFunctionEnv_cells S.kind Cc λenv he s1 x=>?_
 subst he;refine⟨lim.keeps x.toInCall.keep,codeAny_func ?_⟩;obtain⟨t,aM,a0⟩:=ud A outer s H vs Q E (aw.deeper _) o';have I:Inv (gG ed P w K mg base N qual scope f cy A outer s H E) [] (start N vs) H s1:=KL S aw.hd bG aF r x;refine g_ (aM [] s1 (start N vs) H _ I a0) (λgr aZ aA=>?_) λe aZ aA=>aA;have fin:∀{bI:St} {ah:aD} {v:V} {u:aj},Inv (gG ed P w K mg base N qual scope f cy A outer s H E) [] bI ah aZ->RelV v u->Q v ah->wo outer P w H s Q u aZ:=
  λ{bI ah v u} J b3 q=>⟨v,ah,J.os,J.bare,J.base,J.bP,b3,q⟩
 cases gr with
|ret u=>
  obtain⟨v,bI,ah,J,b3,q⟩:=aA;exact fin J b3 q
|next=>
  obtain⟨bI,ah,J,q⟩:=aA;exact fin (v:=V.gb) (u:=Value.none) J rfl q
|brk=>
  obtain⟨_,_,_,q⟩:=aA;exact eL q
|cont=>
  obtain⟨_,_,_,q⟩:=aA;exact eL q
end bu
namespace bu
open PySem PySem.Spec PyProof.Rows
section
variable {X:a5}{x:Str}{p pos:Pos}{e:a8}{av:List a8}{t:fz}{id T:String}{r:List V->aD->c5->Prop}
def Ey(r:List V->aD->c5->Prop)(t:fz):TE:=λσ H Q=>t σ H λvs H1=>r vs H1 Q
def vA(au:hl X (.builtin id) r)(aU:ee X x)(hm:X.mg x=none)(bj:bootBuiltins x=some (.builtin id))(az:hS X (e::av) t)(a_:x≠"__name__":=by decide)(g5:(x==("__debug__":Str))=false:=by decide)
  (he:bQ (e::av) X.env=(false,eval e X.env)::bQ av X.env:=by rfl) (hpl:(gk pos (bQ av X.env)).any (·.1)=false:=by rfl):b6 X (.Call (.Name x p) (e::av) [] pos) (Ey r t):=by
 intro ag s σ H Q I h;refine sr (pL I aU hm bj ?_ a_ g5);exact PyProof.Rows.callWith_builtin1 (ct (az pos ag s σ H _ I h) λus s1 ⟨vs,H1,a7,a',aT⟩=>au ag s1 σ H1 vs us Q a7 a' aT) he hpl
def Fo(au:hl X (.type T) r)(aU:ee X x)(hm:X.mg x=none)(bj:bootBuiltins x=some (.type T))(az:hS X (e::av) t)(a_:x≠"__name__":=by decide)(g5:(x==("__debug__":Str))=false:=by decide)
  (he:bQ (e::av) X.env=(false,eval e X.env)::bQ av X.env:=by rfl) (hpl:(gk pos (bQ av X.env)).any (·.1)=false:=by rfl):b6 X (.Call (.Name x p) (e::av) [] pos) (Ey r t):=by
 intro ag s σ H Q I h;refine sr (pL I aU hm bj ?_ a_ g5);exact u6 (ct (az pos ag s σ H _ I h) λus s1 ⟨vs,H1,a7,a',aT⟩=>au ag s1 σ H1 vs us Q a7 a' aT) he hpl
end
end bu
namespace ez
open PySem PyProof.Rows
section
variable {prog:cH}{w:bY}{A:cN}{E:aj->aG->Prop}{s:aG}
def OT{t b:ai}{vs ws:List aj}{Q:aj->aG->Prop}(aM:IsTup s.heap t vs.toArray)(ae:IsTup s.heap b ws.toArray)(bj:vs≠[])
  (af:ws=[]->Q (.ref t) s) (ao:ws≠[]->Q (.ref s.heap.objs.size) {s with heap:=s.heap.push {cls:=.type "tuple",data:=.seq (vs++ws).toArray} })
  (hv:vs.length+ws.length<=cV):a4 (bh prog w) A (kZ .Add (.ref t) (.ref b)) Q E s:=by
 obtain⟨⟨cls,kz,data,bx⟩,aQ,au,n,hd⟩:=id aM;obtain⟨⟨A4,kA,data2,jH⟩,qm,lI,fp,hd2⟩:=id ae;simp only at au hd lI hd2;subst au hd lI hd2;have e:vs.toArray++ws.toArray=(vs++ws).toArray:=by simp
 by_cases hw:ws=[]
 ·exact concat_meets ⟨_,aQ,rfl⟩ ⟨_,qm,rfl⟩ noFill_tuple_add seq_tuple_add PySem.F.slot_tuple_add PySem.F.entry_tuple_add (PySem.F.args_tuple_add_2 _ _)
   (tuple_addW1 t b vs.toArray ws.toArray n fp kz kA bx jH (by simpa using bj) (by simp[hw])) ⟨aQ,qm,af hw⟩
 ·refine concat_meets ⟨_,aQ,rfl⟩ ⟨_,qm,rfl⟩ noFill_tuple_add seq_tuple_add PySem.F.slot_tuple_add PySem.F.entry_tuple_add (PySem.F.args_tuple_add_2 _ _)
   (tuple_addW2 t b vs.toArray ws.toArray n fp kz kA bx jH (by simpa using bj) (by simpa using hw) (by rw[er,er];exact hv)) ⟨aQ,qm,?_⟩
  rw[e];exact ao hw
def b0(n d:Nat):Option Int->Nat
|none=>d
|some v=>if v<0 then (v+(n:Int)).toNat else min v.toNat n
def vI(n d:Nat)(hd:d<=n)(o:Option Int):b0 n d o<=n:=by
 cases o with
|none=>exact hd
|some v=>
  show (if v<0 then (v+(n:Int)).toNat else min v.toNat n)<=n
  by_cases bj:v<0
  ·rw[if_pos bj];omega
  ·rw[if_neg bj];exact Nat.min_le_right _ _
def LO(v:Int)(n d:Nat):(if v<0 then max (v+(n:Int)) 0 else min v (n:Int))=((b0 n d (some v):Nat):Int):=by
 show (if v<0 then max (v+(n:Int)) 0 else min v (n:Int))=(((if v<0 then (v+(n:Int)).toNat else min v.toNat n):Nat):Int)
 by_cases bj:v<0
 ·simp only[if_pos bj];omega
 ·simp only[if_neg bj];omega
def _w(lo hi:Option Int)(n:Nat):Builtin.Slice.sliceAdjust lo hi 1 (n:Int)=(((b0 n 0 lo:Nat):Int),((b0 n n hi:Nat):Int)):=by
 have af:¬((1:Int)<0):=by omega
 unfold Builtin.Slice.sliceAdjust;simp only[af,if_false];refine Prod.ext ?_ ?_
 ·cases lo with
  |none=>rfl
  |some v=>exact LO v n 0
 ·cases hi with
  |none=>rfl
  |some v=>exact LO v n n
def Z0(i j:Nat):ya (i:Int) (j:Int) 1=j - i:=by
 unfold ya;have af:(1:Int) > 0:=by omega
 simp only[af,if_true,Int.ediv_one];split <;> omega
def Kc{v:aj}{o:Option Int}{Q:Option Int->aG->Prop}(p:IsPart v o)(h:Q o s):a4 (bh prog w) A (Builtin.Slice.slicePartIndex v) Q E s:=by
 cases p with
|none=>exact slicePart_none h
|int i t=>exact slicePart_int h
def Jk{bx:ai}{fK fc:aj}{lo hi:Option Int}{n:Nat}{Q:Int×Int×Nat->aG->Prop}(aA:s.heap.IsSliceOf bx fK fc .none)(cQ:IsPart fK lo)(pu:IsPart fc hi)
  (h:Q (((b0 n 0 lo:Nat):Int),1,b0 n n hi - b0 n 0 lo) s):a4 (bh prog w) A (Builtin.Slice.sliceApplied (.ref bx) (pure (n:Int))) Q E s:=by
 obtain⟨os,nV,xa,uh⟩:=id aA;unfold Builtin.Slice.sliceApplied Builtin.Slice.sliceFields;refine aI (aI (ib nV uh (x:=fK) rfl (aI (ib nV uh (x:=fc) rfl (aI (ib nV uh (x:=.none) rfl (bq ?_)))))));refine aI (slicePart_none ?_);show a4 _ _ (if ((1:Int)==0)=true then _ else _) _ _ s;rw[if_neg (by decide)];refine aI (Kc cQ (aI (Kc pu (aI (bq ?_)))));show a4 _ _ (match Builtin.Slice.sliceAdjust lo hi 1 (n:Int) with|(lo,hi)=>pure (lo,(1:Int),ya lo hi 1)) _ _ s;rw[_w lo hi n];show a4 _ _ (pure (((b0 n 0 lo:Nat):Int),(1:Int),ya ((b0 n 0 lo:Nat):Int) ((b0 n n hi:Nat):Int) 1)) _ _ s;rw[Z0];exact bq h
def aa2(xs:Array aj)(i k:Nat):((List.range k).filterMap λ(m:Nat)=>xs[((i:Int)+(m:Int)*1).toNat]?).toArray=((xs.toList.drop i).take k).toArray:=by
 have e:(λ(m:Nat)=>xs[((i:Int)+(m:Int)*1).toNat]?)=λm=>xs[i+m]?:=by
  funext m;have:((i:Int)+(m:Int)*1).toNat=i+m:=by omega
  rw[this]
 rw[e];have:=pick_run xs i k;rw[List.filterMap_map] at this;have aR:((λx=>xs[x]?) ∘ λx=>i+x)=λm=>xs[i+m]?:=rfl;rw[aR] at this;rw[this]
def QF{t bx:ai}{items:Array aj}{fK fc:aj}{lo hi:Option Int}{Q:aj->aG->Prop}(aM:IsTup s.heap t items)(aA:s.heap.IsSliceOf bx fK fc .none)(cQ:IsPart fK lo)(pu:IsPart fc hi)
  (hw:¬(b0 items.size 0 lo=0/\b0 items.size items.size hi=items.size))
  (h:Q (.ref s.heap.objs.size) {s with heap:=s.heap.push {cls:=.type "tuple",data:=.seq ((items.toList.drop (b0 items.size 0 lo)).take (b0 items.size items.size hi - b0 items.size 0 lo)).toArray} })
  (hv:items.size<=cV):a4 (bh prog w) A (getItem (.ref t) (.ref bx)) Q E s:=by
 have xg:sizeOk (.seq ((items.toList.drop (b0 items.size 0 lo)).take (b0 items.size items.size hi - b0 items.size 0 lo)).toArray):=by
  show ((items.toList.drop (b0 items.size 0 lo)).take (b0 items.size items.size hi - b0 items.size 0 lo)).toArray.size<=cV
  rw[er,List.length_take,List.length_drop,hG];omega
 have dG:b0 items.size items.size hi<=items.size:=vI _ _ (c_ _) hi;obtain⟨os,nV,xa,uh⟩:=id aA;have B0:s.TypeIs (.ref bx) "slice":=⟨os,nV,xa⟩;unfold getItem
 try with_reducible refine qZ ?_
 first|refine aI (bq ?_)|skip
 refine aI (wpAny_sequenceKey aM.typeIs (by decide) ?_)
 refine aI (l1 (name:=Str.ofString "__getitem__") aM.typeIs x'
  (jL x' aM.typeIs entry_tuple_getitem ?_ (args_tuple_getitem _ _)))
 show a4 _ _ (Builtin.Tuple.tupleItemsOf (.ref t) >>= _) _ _ s
 refine aI (tupleItemsOf_ aM ?_)
 refine aI (wpAny_typeOf B0 ?_)
 rw[if_pos (by decide)];refine aI (Jk aA cQ pu ?_);have Rw:¬((((b0 items.size 0 lo:Nat):Int)==0 && (1:Int)==1 && (b0 items.size items.size hi - b0 items.size 0 lo)==items.size)=true):=by
  intro q;rw[cJ,cJ] at q;have aT:((b0 items.size 0 lo:Nat):Int)=0:=eq_of_beq q.1.1;have bg:b0 items.size items.size hi - b0 items.size 0 lo=items.size:=eq_of_beq q.2;exact hw ⟨by omega,by omega⟩
 show a4 _ _ (if (((b0 items.size 0 lo:Nat):Int)==0 && (1:Int)==1 && (b0 items.size items.size hi - b0 items.size 0 lo)==items.size)=true then _ else _) _ _ s
 rw[if_neg Rw,aa2]
 first
  |exact aI (m:=x_ _) (l2 (bq ⟨_,rfl,bq h⟩) xg)
  |exact aI (m:=x_ _) (l2 (aI (bq (bq ⟨_,rfl,bq h⟩))) xg)
  |exact aI (aI (m:=x_ _) (l2 (bq (bq ⟨_,rfl,bq h⟩)) xg))
  |exact aI (aI (m:=x_ _) (l2 (bq ⟨_,rfl,bq h⟩) xg))
end
end ez
namespace bu
open PySem PySem.Spec PyProof.Rows
abbrev cR:=St->aD->(Option Int->aD->Prop)->Prop
noncomputable def ku(X:a5)(e:Option a8)(t:cR):Prop:=
 ∀(ag:List (ai×Obj)) (s:aG) (σ:St) (H:aD) (Q:Option Int->aD->Prop),Inv X ag σ H s->t σ H Q ->
  a4 (bh X.prog X.w) X.A (evalPart e X.env) (λu aZ=>∃o ah,Inv X ag σ ah aZ/\IsPart u o/\Q o ah) X.dv s
def abE:cR:=λ_ H Q=>Q none H
def adx(t:TE):cR:=λσ H Q=>t σ H λx H1=>∃i,x=.int i/\Q (some i) H1
section
variable {X:a5}{e:a8}{fb:TE}{lo hi:Option a8}{j6 th:cR}{pos dh:Pos}
def abL:ku X none abE:=by
 intro ag s σ H Q I h;rw[evalPart_none];exact bq ⟨none,H,I,.none,h⟩
def abK(h:b6 X e fb):ku X (some e) (adx fb):=by
 intro ag s σ H Q I hw;rw[evalPart_some];refine ct (h ag s σ H _ I hw) λu s1 ⟨x,H1,a7,a',aT⟩=>?_;obtain⟨i,rfl,q⟩:=aT;obtain⟨t,rfl⟩:=a';exact⟨some i,H1,a7,.int i t,q⟩
noncomputable def nA(X:a5)(r:V->Option Int->Option Int->aD->c5->Prop):Prop:=
 ∀(ag:List (ai×Obj)) (s:aG) (σ:St) (H:aD) (x:V) (v fK fc:aj) (lo hi:Option Int) (bx:ai) (Q:c5),Inv X ag σ H s->RelV x v->s.heap.IsSliceOf bx fK fc .none->IsPart fK lo->IsPart fc hi->r x lo hi H Q ->
  ∃T id,typeLookup (.type T) "__getitem__"=pure (some (.builtin id))/\s.TypeIs v T/\a4 (bh X.prog X.w) X.A (getItem v (.ref bx)) (gT X ag σ Q) X.dv s
def nA.or{r bU:V->Option Int->Option Int->aD->c5->Prop}(h:nA X r)(h':nA X bU):nA X (λx lo hi H Q=>r x lo hi H Q\/bU x lo hi H Q):=by
 intro ag s σ H x v fK fc lo hi bx Q I aS aA cQ pu q;rcases q with q|q
 ·exact h ag s σ H x v fK fc lo hi bx Q I aS aA cQ pu q
 ·exact h' ag s σ H x v fK fc lo hi bx Q I aS aA cQ pu q
def Xr(r:V->Option Int->Option Int->aD->c5->Prop)(fb:TE)(j6 th:cR):TE:=λσ H Q=>fb σ H λx H1=>j6 σ H1 λl bt=>th σ bt λu dN=>r x l u dN Q
def aa5{r:V->Option Int->Option Int->aD->c5->Prop}(aw:nA X r)(he:b6 X e fb)(aF:ku X lo j6)(bw:ku X hi th):b6 X (.Subscript e (.Slice lo hi none dh) pos) (Xr r fb j6 th):=by
 intro ag s σ H Q I h;refine Subscript_ (ct (he ag s σ H _ I h) λv s1 ⟨x,H1,a7,a',aT⟩=>?_);refine wpAny_Slice (ct (aF ag s1 σ H1 _ a7 aT) λfK s2 ⟨l,bt,b9,cQ,bg⟩=>ct (bw ag s2 σ bt _ b9 bg) λfc s3 ⟨u,dN,eN,pu,c6⟩=>?_);rw[evalPart_none];refine bq ?_;have k6:Inv X ag σ dN {s3 with heap:=s3.heap.push {cls:=.type "slice",data:=.fields #[fK,fc,.none]} }:=eN.kept (t':=s3.toks) λb dB q=>cp _ q;obtain⟨T,id,dQ,aM,aU⟩:=aw ag {s3 with heap:=s3.heap.push {cls:=.type "slice",data:=.fields #[fK,fc,.none]} } σ dN x v fK fc l u s3.heap.objs.size Q k6 a' (Heap.IsSliceOf.new ..) cQ pu c6;show a4 (bh X.prog X.w) X.A (subscriptTail e (.Slice lo hi none dh) v (.ref s3.heap.objs.size)) (gT X ag σ Q) X.dv {s3 with heap:=s3.heap.push {cls:=.type "slice",data:=.fields #[fK,fc,.none]} };exact tail_any (ops:=[.ref s3.heap.objs.size,v]) aM dQ aU (by with_unfolding_all rfl)
def ll(xs:List V)(lo hi:Option Int):List V:=(xs.drop (ez.b0 xs.length 0 lo)).take (ez.b0 xs.length xs.length hi - ez.b0 xs.length 0 lo)
def J7(xs:List V)(lo hi:Option Int):(ll xs lo hi).length<=xs.length:=by
 unfold ll;rw[List.length_take,List.length_drop];omega
noncomputable def V1(K:bc):V->Option Int->Option Int->aD->c5->Prop:=λx lo hi H Q=>∃a xs,x=.ref a/\cW K H a xs /\
 ¬(ez.b0 xs.length 0 lo=0/\ez.b0 xs.length xs.length hi=xs.length)/\∀p,H p=none->Q (.ref p) (upd H p (.tup (ll xs lo hi)))
def acs:nA X (V1 X.K):=by
 intro ag s σ H x v fK fc lo hi bx Q I aS aA cQ pu h;obtain⟨a,xs,rfl,hx,hw,q⟩:=h;cases aS;obtain⟨its,r,aM,hz⟩:=I.tuple hx;have hlen:its.toArray.size=xs.length:=by rw[er];exact r.length.symm
 refine⟨"tuple",_,PyProof.Rows.slot_tuple_getitem.lookup,aM.typeIs,?_⟩
 refine ez.QF aM aA cQ pu (by rw[hlen];exact hw) ?_ (by rw[hlen];exact hz)
 rw[hlen];refine⟨.ref s.heap.objs.size,_,I.laid (t':=s.toks) (o:=.tup (ll xs lo hi)) (λb dB q=>cp _ q) (c_ _) ?_,rfl,q _ (I.bP.fresh (c_ _))⟩;exact⟨j' (J7 xs lo hi) hz,_,(r.drop (ez.b0 xs.length 0 lo)).take (ez.b0 xs.length xs.length hi - ez.b0 xs.length 0 lo),IsTup.new _ _⟩
noncomputable def Mr(K:bc):eX:=λx y H Q=>∃a b xs ys,x=.ref a/\y=.ref b/\cW K H a xs/\cW K H b ys/\xs≠[]/\xs.length+ys.length<=cV /\
 (ys=[]->Q (.ref a) H)/\(ys≠[]->∀p,H p=none->Q (.ref p) (upd H p (.tup (xs++ys))))
def Vals.xr{xs:List V}{us:List aj}(r:Vals xs us):us=[] <-> xs=[]:=by
 cases r with
|nil=>simp
|cons _ _=>simp
def F2:d1 X (kZ .Add) (Mr X.K):=by
 intro ag s σ H x y v u Q I aS bz h;obtain⟨a,b,xs,ys,rfl,rfl,az,ae,hx,hz,aT,bg⟩:=h;cases aS;cases bz;obtain⟨its,a',j0,_⟩:=I.tuple az;obtain⟨iq,cL,dh,_⟩:=I.tuple ae;refine ez.OT j0 dh (λz=>hx (a'.xr.mp z)) (λz=>⟨.ref a,H,I,rfl,aT (cL.xr.mp z)⟩) (λz=>?_) (by rw[<- a'.length,<- cL.length];exact hz);refine⟨.ref s.heap.objs.size,_,I.laid (t':=s.toks) (o:=.tup (xs++ys)) (λb dB q=>cp _ q) (c_ _) ?_,rfl,bg (λw=>z (cL.xr.mpr w)) _ (I.bP.fresh (c_ _))⟩;exact⟨by rw[qX];exact hz,_,a'.append cL,IsTup.new _ _⟩
end
end bu
namespace bu
open PySem PySem.Spec PyProof.Rows
def pe(n:Nat)(i:Int):Option Nat:=if 0<=i then (if i<n then some i.toNat else none) else if -(n:Int)<=i then some (i+n).toNat else none
def tK{α:Type}(xs:List α)(i:Int):Option α:=(pe xs.length i).bind λj=>xs[j]?
def ab3{n:Nat}{i:Int}{j:Nat}(h:pe n i=some j):seqIndex? i n=some j/\j<n/\-(n:Int)<=i/\i<n:=by
 unfold pe at h;by_cases h0:0<=i
 ·rw[if_pos h0] at h;by_cases af:i<n
  ·rw[if_pos af] at h;have e:i.toNat=j:=ia h;exact⟨by rw[seqIndex_of h0 af,e],by omega,by omega,af⟩
  ·rw[if_neg af] at h;cases h
 ·rw[if_neg h0] at h;by_cases af:-(n:Int)<=i
  ·rw[if_pos af] at h;have e:(i+n).toNat=j:=ia h;exact⟨by rw[seqIndex_neg (by omega) af,e],by omega,af,by omega⟩
  ·rw[if_neg af] at h;cases h
def Ga{α:Type}{xs:List α}{i:Int}{v:α}(h:tK xs i=some v):∃j,seqIndex? i xs.length=some j/\xs[j]?=some v/\j<xs.length/\-(xs.length:Int)<=i/\i<xs.length:=by
 unfold tK at h;cases e:pe xs.length i with
|none=>rw[e] at h;cases h
|some j=>
  rw[e] at h;obtain⟨af,ao,bA,c9⟩:=ab3 e;exact⟨j,af,h,ao,bA,c9⟩
def Gb(b:a8):Prop:=∀o i,subscripted b false o i=operate [o,i] (getItem o i)
noncomputable def nr(X:a5)(r:eX):Prop:=
 ∀(value slice:a8) (ag:List (ai×Obj)) (s:aG) (σ:St) (H:aD) (x y:V) (v u:aj) (Q:c5),Inv X ag σ H s->RelV x v->RelV y u->r x y H Q ->
  subscripted slice false v u=operate [v,u] (getItem v u)->a4 (bh X.prog X.w) X.A (subscriptTail value slice v u) (gT X ag σ Q) X.dv s
section
variable {X:a5}{a b:a8}{cg cM:TE}{pos:Pos}
def nr.or{r bU:eX}(h:nr X r)(h':nr X bU):nr X (λx y H Q=>r x y H Q\/bU x y H Q):=by
 intro value slice ag s σ H x y v u Q I aS bz q aA;rcases q with q|q
 ·exact h value slice ag s σ H x y v u Q I aS bz q aA
 ·exact h' value slice ag s σ H x y v u Q I aS bz q aA
def adO{r:eX}(aw:nr X r)(az:b6 X a cg)(ae:b6 X b cM)(aA:Gb b):b6 X (.Subscript a b pos) (qQ r cg cM):=by
 intro ag s σ H Q I h;exact Subscript_ (As az ae I h λv u s2 x y bt b9 aS bz q=>aw a b ag s2 σ bt x y v u Q b9 aS bz q (aA _ _))
def Jd(K:bc):eX:=λx y H Q=>∃p xs i v,x=.ref p/\y=.int i/\e5 K H p xs/\tK xs i=some v/\Q v H
def Jf(K:bc):eX:=λx y H Q=>∃p xs i v,x=.ref p/\y=.int i/\cW K H p xs/\tK xs i=some v/\Q v H
def Je:eX:=λx y H Q=>∃z i c,x=.str z/\y=.int i/\z.length<=cV/\tK z.cps.toList i=some c/\Q (.str ⟨#[c]⟩) H
def ab2:nr X (Jd X.K):=by
 intro value slice ag s σ H x y v u Q I aS bz h aA;obtain⟨p,xs,i,z,rfl,rfl,a0,he,q⟩:=h;cases aS;obtain⟨t,rfl⟩:=bz;obtain⟨its,r,cQ,hz⟩:=I.list a0;obtain⟨j,af,ao,bA,c9,gI⟩:=Ga he;obtain⟨w,oX,qN⟩:=r.get ao;have aF:=r.length;have a_:=vR;have fin:gT X ag σ Q w s:=⟨z,H,I,qN,q⟩;by_cases h0:0<=i
 ·have dG:i.toNat=j:=by
   rw[seqIndex_of h0 gI] at af;exact ia af
  exact item_listR cQ.isList h0 (by omega) (by rw[dG];simpa using oX) fin aA
 ·have dG:(i+(its.toArray.size:Int)).toNat=j:=by
   rw[seqIndex_neg (by omega) c9] at af;rw[er,<- aF];exact ia af
  exact subscriptTail_builtinR (x:=w) cQ.isList.typeIs slot_list_getitem.lookup
   (wpAny_getItem_list_neg (Q:=λr aZ=>r=w/\gT X ag σ Q r aZ) cQ.isList (by omega) (by rw[er] <;> omega) (by omega) (by rw[dG];simpa using oX) ⟨rfl,fin⟩) aA
def adg:nr X (Jf X.K):=by
 intro value slice ag s σ H x y v u Q I aS bz h aA;obtain⟨p,xs,i,z,rfl,rfl,a0,he,q⟩:=h;cases aS;obtain⟨t,rfl⟩:=bz;obtain⟨its,r,cQ,hz⟩:=I.tuple a0;obtain⟨j,af,ao,bA,c9,gI⟩:=Ga he;obtain⟨w,oX,qN⟩:=r.get ao;have aF:=r.length;have a_:=vR;have fin:gT X ag σ Q w s:=⟨z,H,I,qN,q⟩;exact subscriptTail_builtinR (x:=w) cQ.typeIs slot_tuple_getitem.lookup
  (getItem_tuple (j:=j) (Q:=λr aZ=>r=w/\gT X ag σ Q r aZ) cQ (by omega) (by omega) (by rw[er,<- aF];exact af) (by simpa using oX) ⟨rfl,fin⟩) aA
def adh:nr X Je:=by
 intro value slice ag s σ H x y v u Q I aS bz h aA;obtain⟨z,i,c,rfl,rfl,hz,he,q⟩:=h;obtain⟨t,rfl⟩:=aS;obtain⟨t',rfl⟩:=bz;obtain⟨j,af,ao,bA,c9,gI⟩:=Ga he;have aF:z.cps.toList.length=z.length:=by simp[Str.length]
 rw[aF] at af c9 gI;have a_:=vR;exact tail_any (typeIs_str s z t) slot_str_getitem.lookup (getItem_str (c:=c) (by
  have aC:decide (i < -(2 ^ 63:Int))=false:=decide_eq_false (by omega);have aR:decide (i >= 2 ^ 63)=false:=decide_eq_false (by omega);rw[aC,aR,Bool.or_false]) (by rw[af];simpa using ao) ⟨.str ⟨#[c]⟩,H,I.tok _,⟨_,rfl⟩,q⟩) aA
def VY(K:bc):eX:=λx y H Q=>Jd K x y H Q\/Jf K x y H Q\/Je x y H Q
def adi:nr X (VY X.K):=ab2.or (adg.or adh)
def YD(lo hi:Option Int)(n:Nat):(sliceBounds lo hi none n).1=((ez.b0 n 0 lo:Nat):Int)/\(sliceBounds lo hi none n).2.1=((ez.b0 n n hi:Nat):Int)/\(sliceBounds lo hi none n).2.2=1:=by
 refine⟨?_,?_,rfl⟩
 ·cases lo with
  |none=>simp[sliceBounds,ez.b0]
  |some i=>
   simp only[sliceBounds,ez.b0,Option.getD_none,show (1:Int) > 0 by decide,if_true];by_cases h:i<0
   ·simp only[h,if_true] <;> omega
   ·simp only[h,if_false] <;> omega
 ·cases hi with
  |none=>simp[sliceBounds,ez.b0]
  |some i=>
   simp only[sliceBounds,ez.b0,Option.getD_none,show (1:Int) > 0 by decide,if_true];by_cases h:i<0
   ·simp only[h,if_true] <;> omega
   ·simp only[h,if_false] <;> omega
def Yq(its:List aj)(lo hi:Option Int):slicePick its.toArray lo hi none=((its.drop (ez.b0 its.length 0 lo)).take (ez.b0 its.length its.length hi - ez.b0 its.length 0 lo)).toArray:=by
 obtain⟨af,ao,bA⟩:=YD lo hi its.toArray.size;unfold slicePick;rw[af,ao,bA];simp only[sliceRange_one,pick_run,er] <;> rfl
def VZ(K:bc):V->Option Int->Option Int->aD->c5->Prop:=λx lo hi H Q=>∃a xs,x=.ref a/\e5 K H a xs/\∀p,H p=none->Q (.ref p) (upd H p (.lst (ll xs lo hi)))
def abF:nA X (VZ X.K):=by
 intro ag s σ H x v fK fc lo hi bx Q I aS aA cQ pu h;obtain⟨a,xs,rfl,hx,q⟩:=h;cases aS;obtain⟨its,r,aM,hz⟩:=I.list hx;have hlen:=r.length;refine⟨"list",_,slot_list_getitem.lookup,aM.isList.typeIs,?_⟩;refine wpAny_getItem_list_slice aM.isList aA cQ pu .none (by simp) ?_ (by rw[er] <;> omega);rw[Yq,<- hlen];refine⟨.ref s.heap.objs.size,_,I.laid (t':=s.toks) (o:=.lst (ll xs lo hi)) (λb dB q=>cp _ q) (c_ _) ?_,rfl,q _ (I.bP.fresh (c_ _))⟩;exact⟨j' (J7 xs lo hi) hz,_,0,(r.drop (ez.b0 xs.length 0 lo)).take (ez.b0 xs.length xs.length hi - ez.b0 xs.length 0 lo),eQ _ rfl⟩
def Y5:hl X (.builtin "len") (λxs H Q=>∃p ys,xs=[.ref p]/\(e5 X.K H p ys\/cW X.K H p ys)/\Q (.int ys.length) H):=by
 intro ag s σ H xs us Q I r h;obtain⟨p,ys,rfl,a0,q⟩:=h;obtain⟨u,rfl,aS⟩:=vals1 r;cases aS;have a_:=vR;rcases a0 with a0|a0
 ·obtain⟨its,bU,cQ,hz⟩:=I.list a0;have hlen:=bU.length;exact Calls.call_len_list cQ.isList (by simp only[er] <;> omega) ⟨.int ys.length,H,I.tok _,⟨s.toks+1,by rw[er,hlen]⟩,q⟩
 ·obtain⟨its,bU,cQ,hz⟩:=I.tuple a0;have hlen:=bU.length;exact len_tuple cQ (by simp only[er] <;> omega) ⟨.int ys.length,H,I.tok _,⟨s.toks+1,by rw[er,hlen]⟩,q⟩
def Y4:hl X (.builtin "len") (λxs H Q=>∃z,xs=[.str z]/\z.length<=cV/\Q (.int z.length) H):=by
 intro ag s σ H xs us Q I r h;obtain⟨z,rfl,hz,q⟩:=h;obtain⟨u,rfl,t,rfl⟩:=vals1 r;have a_:=vR;exact len_str (by omega) ⟨.int z.length,H,I.tok _,⟨_,rfl⟩,q⟩
def hl.or{f:aj}{r bU:List V->aD->c5->Prop}(h:hl X f r)(h':hl X f bU):hl X f (λxs H Q=>r xs H Q\/bU xs H Q):=by
 intro ag s σ H xs us Q I rs q;rcases q with q|q
 ·exact h ag s σ H xs us Q I rs q
 ·exact h' ag s σ H xs us Q I rs q
def Y3:hl X (.type "list") (λxs H Q=>∃p ys,xs=[.ref p]/\(e5 X.K H p ys\/cW X.K H p ys)/\∀l,H l=none->Q (.ref l) (upd H l (.lst ys))):=by
 intro ag s σ H xs us Q I r h;obtain⟨p,ys,rfl,a0,q⟩:=h;obtain⟨u,rfl,aS⟩:=vals1 r;cases aS;have fin:∀(its:List aj),Vals ys its->ys.length<=cV->∀(h':bk) (bT:Nat),(∀b d6,s.heap.get? b=some d6->h'.get? b=some d6) ->
   h'.get? s.heap.objs.size=some {cls:=.type "list",dict:=none,data:=.seq its.toArray bT,slots:=#[]}->gT X ag σ Q (.ref s.heap.objs.size) {s with heap:=h'}:=λits bU hz h' bT aK e=>
  ⟨.ref s.heap.objs.size,_,I.laid (t':=s.toks) aK (c_ _) (show jq X.prog X.w _ h' _ (.lst ys) from ⟨hz,its,bT,bU,e⟩),rfl,q _ (I.bP.fresh (c_ _))⟩
 rcases a0 with a0|a0
 ·obtain⟨its,bU,cQ,hz⟩:=I.list a0;have hlen:=bU.length;obtain⟨o,aQ,au,n,hd⟩:=cQ.isList;exact call_list_seq p (.inl rfl) aQ au hd (λh' bT aK e=>fin its bU hz h' bT aK e) (by simp only[er] <;> omega)
 ·obtain⟨its,bU,cQ,hz⟩:=I.tuple a0;have hlen:=bU.length;obtain⟨o,aQ,au,n,hd⟩:=cQ;exact call_list_seq p (.inr rfl) aQ au hd (λh' bT aK e=>fin its bU hz h' bT aK e) (by simp only[er] <;> omega)
def YA:hl X (.type "tuple") (λxs H Q=>∃p ys,xs=[.ref p]/\((e5 X.K H p ys/\∀l,H l=none->Q (.ref l) (upd H l (.tup ys)))\/(cW X.K H p ys/\Q (.ref p) H))):=by
 intro ag s σ H xs us Q I r h;obtain⟨p,ys,rfl,h⟩:=h;obtain⟨u,rfl,aS⟩:=vals1 r;cases aS;rcases h with ⟨a0,q⟩|⟨a0,q⟩
 ·obtain⟨its,bU,cQ,hz⟩:=I.list a0;have hlen:=bU.length;refine call_tuple_list cQ.isList (λh' aK=>?_) (by simp only[er] <;> omega);have a7:Inv X ag σ H {s with heap:=h'}:=I.kept (t':=s.toks) aK;have b9:Inv X ag σ (upd H h'.objs.size (.tup ys)) {s with heap:=h'.push {cls:=.type "tuple",data:=.seq its.toArray} }:=
   a7.laid (t':=s.toks) (λb o e=>cp _ e) (c_ _) (show jq X.prog X.w _ _ _ (.tup ys) from ⟨hz,its,bU,IsTup.new _ _⟩)
  exact⟨.ref h'.objs.size,_,b9,rfl,q _ (a7.bP.fresh (c_ _))⟩
 ·obtain⟨its,bU,cQ,hz⟩:=I.tuple a0;exact call_tuple_same cQ ⟨.ref p,H,I,rfl,q⟩
variable {o e:a8}{av:List a8}{to:TE}{t:fz}{name:Str}{apos A5:Pos}{T id:String}{r:V->List V->aD->c5->Prop}
end
end bu
namespace bu
open PySem PySem.Spec PyProof.Rows
noncomputable def NT(X:a5)(id:String)(r:V->List V->aD->c5->Prop):Prop:=
 ∀(ag:List (ai×Obj)) (s:aG) (σ:St) (H:aD) (x:V) (xs:List V) (v:aj) (us:List aj) (Q:c5),Inv X ag σ H s->RelV x v->Vals xs us->r x xs H Q ->
  a4 (bh X.prog X.w) X.A (call (.builtin id) (v::us)) (gT X ag σ Q) X.dv s
def Vals.one:∀{x:V} {us:List aj},Vals [x] us->∃u,us=[u]/\RelV x u
|_,_,.cons r .nil=>⟨_,rfl,r⟩
def Vals.two:∀{x y:V} {us:List aj},Vals [x,y] us->∃u v,us=[u,v]/\RelV x u/\RelV y v
|_,_,_,.cons r (.cons q .nil)=>⟨_,_,rfl,r,q⟩
section
variable {X:a5}{ag:List (ai×Obj)}{σ:St}{H:aD}{s:aG}{l b:ai}{xs ys zs:List V}
def Inv.SY{its its':List aj}{n:Nat}{f:Array aj->Array aj}{t':Nat}(I:Inv X ag σ H s)(fI:H l=some (.lst xs))
  (e:s.heap.get? l=some {cls:=.type "list",data:=.seq its.toArray n}) (hf:f its.toArray=its'.toArray) (bj:Vals ys its') (hz:ys.length<=cV):
  Inv X ag σ (upd H l (.lst ys)) {s with heap:=s.heap.update l (Obj.mapSeq f),toks:=t'}:=by
 have q:=PySem.IsL.update e f;rw[hf] at q;refine I.write (x:=l) (e:=l) (by rw[fI];exact trivial) (.inl rfl) (λgX u ae bw=>(q3 s.heap (Obj.mapSeq f) (Ne.symm ae)).trans bw) ⟨_,q⟩ ?_;exact⟨hz,its',_,bj,q⟩
def Inv.xo{its:List aj}{t':Nat}(I:Inv X ag σ H s)(bj:Vals ys its)(hz:ys.length<=cV):
  Inv X ag σ (upd H s.heap.objs.size (.lst ys)) {s with heap:=s.heap.push {cls:=.type "list",data:=.seq its.toArray},toks:=t'}:=
 I.laid (λ_ _ q=>cp _ q) (c_ _) ⟨hz,its,0,bj,eQ _ rfl⟩
theorem Inv.fresh(I:Inv X ag σ H s):H s.heap.objs.size=none:=I.bP.fresh (c_ _)
def Inv.S0(I:Inv X ag σ H s)(fI:H l=some (.lst xs)):xs.length<=cV/\∃(its:List aj) (n:Nat),Vals xs its/\xs.length=its.length/\s.heap.get? l=some {cls:=.type "list",data:=.seq its.toArray n}:=by
 obtain⟨z,its,n,r,e⟩:=I.bP l _ fI;exact⟨z,its,n,r,r.length,e⟩
end
section
variable {X:a5}
def abG:V->List V->aD->c5->Prop:=λx vs H Q=>∃l xs y,x=.ref l/\vs=[y]/\H l=some (.lst xs)/\xs.length<cV/\Q .gb (upd H l (.lst (xs++[y])))
def _X:NT X "list.append" abG:=by
 intro ag s σ H x vs v us Q I aS b3 h;obtain⟨l,xs,y,rfl,rfl,fI,hz,q⟩:=h;cases aS;obtain⟨u,rfl,eD⟩:=b3.one;obtain⟨z,its,n,r,aF,e⟩:=I.S0 fI;refine call_meets F.slot_list_append ⟨_,e,rfl⟩ F.entry_list_append (F.args_list_append_2 _ _) (PySem.list_append l its.toArray n u (by rw[er];omega)) ⟨e,?_⟩;refine⟨.gb,_,I.SY (its':=its++[u]) fI e (by simp) (r.append (.cons eD .nil)) ?_,rfl,q⟩;rw[qX,List.length_singleton];omega
end
end bu
namespace Gz
open PySem PySem.W PySem.Calls PyProof.Rows
def Yk{P:Params}{h:bk}:∀(ns:List Int) (vs:List aj),WellAll P h vs (ns.map WData.int)->IntsAre vs ns:=by
 intro ns
 induction ns with
|nil=>
  intro vs w;rw[om] at w;cases w;exact .nil
|cons n ns cK=>
  intro vs w;rw[eK] at w;cases w with
  |cons a b=>
   cases a
   exact .cons _ _ (cK _ b)
def _G{l:OpenLaw}{n:Nat}(a_:l.most=some n){P:Params}{h:bk}{args:List WData}{vals:List aj}
    (xd:l.row.toRowW.claim.pre args=true) (Cs:WellAll P h vals args):
    ∃a vs ns,vals=[Value.ref a]/\args=[WData.list (ns.map WData.int)]/\h.get? a=some {cls:=.type "list",data:=.seq vs.toArray}/\IntsAre vs ns/\ns.length<=n:=by
  have RF:WShape.hasAll [] args [.list .int]=true:=(pre_splitW xd).1;have au:l.pre.holds [] {args:=args}=true:=(pre_splitW xd).2;obtain⟨d,r,rfl,af,ao⟩:=hasAllW_cons RF;obtain rfl:=hasAllW_nil ao;obtain⟨xs,rfl,bA⟩:=hasW_list af;obtain⟨ns,rfl⟩:=items_int bA;have hlen:ns.length<=n:=by
    unfold OpenLaw.pre at au;have c9:(WTm.not (.lt (.lit (.int (n:Int))) (.len (.arg 0)))).holds [] {args:=[.list (ns.map .int)]}=true:=by
      have c9:=(holds_andW au).1;rw[a_] at c9;exact c9
    have gI:=condW_of c9 (w_not (w_lt w_lit (w_len_list (w_arg rfl))));rw[ej] at gI;refine Nat.le_of_not_lt λq=>?_;have di:(n:Int)<((ns.length:Nat):Int):=by omega
    first
      | (rw[decide_eq_true di] at gI;exact absurd gI (by decide))
      | (simp at gI;omega)
  cases Cs with
  |cons oh sm=>
    cases sm
    cases oh with
    |list aQ QW=>exact⟨_,_,ns,rfl,rfl,aQ,Yk ns _ QW,hlen⟩
def _N(l:OpenLaw)(args:List WData):l.row.toRowW.claim.post args (.bool true) args=true:=
 postW_of (r:=l.row.toRowW) (X:=(true==true))
  (show WShape.has [] (.bool true) .bool=true by first|rfl|decide|simp[WShape.has,WShape.arms,WShape.armsAll])
  (show (WTm.eq .res (.lit (.bool true))).value [] {args:=args,res:=some (.bool true),after:=args}=some (.bool (true==true)) from w_eq_bool (w_res rfl) w_lit) rfl
def OR{l:OpenLaw}{n:Nat}{q:cH}{loose:List Str}{rz:(Str->Option aj)->bk->Prop}{mr:bY->bk->Prop}{d:DefRec}
  (a_:l.most=some n) (ug:d.params.defaults=[])
  (call:∀(w:bY) (c7 cw:aG) (mg kJ:Str->Option aj) (bZ:ai) (o:Obj) (pm cd doc:aj) (a:ai) (vs:List aj) (ns:List Int),
   Ground q loose [] rz w c7 mg kJ cw.heap->mr w cw.heap ->
   cw.heap.get? bZ=some o->o.data=.func (docDef d.name d.params d.body d.scope pm cd doc)->cw.heap.CodeRec cd d.name->mg d.name=some (.ref bZ) ->
   cw.heap.get? a=some {cls:=.type "list",data:=.seq vs.toArray}->IntsAre vs ns->ns.length<=n->cw.gens=#[] ->
   ic (bh l.prog w) callerA (.call (.ref bZ) ⟨[.ref a],[]⟩) (λr aZ=>r=.ok (.ret (.bool true))/\OldK cw.heap aZ.heap/\aZ.os=cw.os/\AllBare aZ.gens) cw):
  WalkO q loose rz mr l.row.toRowW d [] (λf vs=>PySem.call f vs):=by
 intro w c7 cw mg kJ G Y bZ o pm cd doc wR eJ aQ hd eB i5 uo aU args vals as xd aef aem Cs xc;obtain rfl:wR=.none:=Dflts.none i5 ug;obtain rfl:eJ=.none:=Dflts.noKw i5;obtain⟨a,vs,ns,rfl,rfl,Ck,hints,hlen⟩:=_G a_ xd Cs;refine enter_call (m1 (call w c7 cw mg kJ bZ o pm cd doc a vs ns G Y aQ (fd_plain hd) eB uo Ck hints hlen aU) λr aZ a0=>?_);obtain⟨rfl,ao,bA,c9⟩:=a0;exact⟨.inl ⟨.bool true,.bool true,[],rfl,λ_=>rfl,.bool true,_N l _,λ_=>⟨List.Pairwise.nil,λ_ hm=>(nomatch hm)⟩⟩,ao,bA,c9⟩
end Gz
namespace bu
open PySem PySem.Spec PyProof.Rows
theorem Kr:∀{vs:List aj} {ns:List Int},IntsAre vs ns->Vals (ns.map V.int) vs
|_,_,.nil=>.nil
|_,_,.cons n t h=>.cons ⟨t,rfl⟩ (Kr h)
end bu
namespace bu
open PySem PySem.Spec PyProof.Rows
end bu
namespace bu
open PySem PySem.Spec PyProof.Rows
noncomputable def l7(s:Stmt):Arguments:=match s with
|.FunctionDef _ a _ _ _ _ _ _ _ _=>a
|_=>{posonlyargs:=[],args:=[],vararg:=none,kwonlyargs:=[],kw_defaults:=[],kwarg:=none,defaults:=[]}
def hb(s:Stmt):List Stmt:=match s with
|.FunctionDef _ _ b _ _ _ _ _ _ _=>b
|_=>[]
def bJ(s:Stmt):Scope:=match s with
|.FunctionDef _ _ _ _ _ _ sc _ _ _=>sc
|_=>{kind:=.function,names:=[],isGenerator:=false,isCoroutine:=false}
abbrev d9:kn:=λ_ _ _ _ _ _=>False
abbrev jS:hT:=λ_ _ _=>False
def adQ{X:a5}:Passes d9 X jS:=λ_ _ _ _ _ _ _ h=>h.elim
structure cO(K:bc)(x qual:Str)(st:Stmt)(f:ai)(fd:e1):Prop where
 ex:∃(gc:aj) (gx:Option ai) (eJ doc pm:aj) (an:Option ai) (cy b_:aj) (jZ:Array (Option aj)),
  fd=j_ x qual (l7 st) (hb st) (bJ st) .none eJ doc pm an cy b_/\K.lookup f=some ⟨gc,gx,.func fd,jZ⟩/\qU K cy qual=true
 aK:oi K (.ref f)=true
section
variable {P:cH}{w:bY}{K:bc}{mg:Str->Option aj}{base:bk}
def cO.ok{x qual:Str}{st:Stmt}{f:ai}{fd:e1}{N ps:List Str}{k:Nat}{sp:mq}(F:cO K x qual st f fd)(S:c4 N ps (bJ st))(len:∀vs H Q E,sp vs H Q E->vs.length=ps.length)
  (ud:∀(cy:aj) (A:cN) (outer:List Env) (s:aG) (H:aD) (vs:List V) (Q:c5) (E:hT),ef k (A.deeper (envOfC qual (bJ st) s.heap.objs.size f cy))->sp vs H Q E ->
   ∃t,gV (gG d9 P w K mg base N qual (bJ st) f cy A outer s H E).hC (hb st) t/\t {nx:=λ_ ah=>Q .gb ah,dn:=Q} (start N vs) H):fP P w K mg base d9 (k+1) f fd ps sp:=by
 obtain⟨gc,gx,eJ,doc,pm,an,cy,b_,jZ,rfl,lk,eB⟩:=F.ex;refine MB lk eB S len λA outer s H vs Q E aw o'=>?_;obtain⟨t,h,q⟩:=ud cy A outer s H vs Q E aw o';exact⟨t,h.hC,q⟩
def cO.binds{x qual:Str}{st:Stmt}{f:ai}{fd:e1}{ps:List Str}(F:cO K x qual st f fd)
  (h:∀(eJ doc pm:aj) (an:Option ai) (cy b_:aj) (us:List aj),us.length=ps.length->bindArgs (j_ x qual (l7 st) (hb st) (bJ st) .none eJ doc pm an cy b_) ⟨us,[]⟩=pure (ps.zip us)):Binds K fd ps []:=by
 obtain⟨gc,gx,eJ,doc,pm,an,cy,b_,jZ,rfl,lk,eB⟩:=F.ex;exact .all (h eJ doc pm an cy b_)
def dM{x qual:Str}{st:Stmt}{f:ai}{gc:aj}{gx an:Option ai}{jZ:Array (Option aj)}{eJ doc pm cy b_:aj}(l:K.lookup f=some ⟨gc,gx,.func (j_ x qual (l7 st) (hb st) (bJ st) .none eJ doc pm an cy b_),jZ⟩)
  (c:qU K cy qual=true) (k:oi K (.ref f)=true):cO K x qual st f (j_ x qual (l7 st) (hb st) (bJ st) .none eJ doc pm an cy b_):=⟨⟨gc,gx,eJ,doc,pm,an,cy,b_,jZ,rfl,l,c⟩,k⟩
end
section
variable {X:a5}
def sa(i:Nat){x:Str}{pos:Pos}(ea:X.N[i]?=some x:=by rfl)(bj:oR X.env.scope x:=by first|exact Or.inl rfl|exact Or.inr (Or.inl rfl)|exact Or.inr (Or.inr rfl))(hd:(x==("__debug__":Str))=false:=by decide)
  (eB:(x==("__classdict__":Str))=false:=by decide):b6 X (.Name x pos) (uX i):=acN ea bj hd eB
end
def ux{A B:Prop}(h:B):if false=true then A else B:=by
 rw[if_neg Bool.false_ne_true];exact h
def uy{A B:Prop}(h:A):if true=true then A else B:=by
 rw[if_pos rfl];exact h
def N1(H ah:aD):Prop:=∀b o,H b=some o->ah b=some o
end bu
end
section
namespace D
open PySem
abbrev T:=PyData
def dI(a:T):Bool:=a.canLay0 && decide (a.depth<=60)
def n8(as:List T):Bool:=iA as && decide (h_ as<=60)
abbrev Key:=Sum Int Str
inductive wC where
|n_|own|r6
 deriving DecidableEq
inductive bW where
|aa (t:T)|own (ts:List T)|hs (d5:List (Key×T))|obj (m:wC) (c:Nat) (fs:List bW)
abbrev Ev:=List (Option bW)
inductive Out where
|nx (ε:Ev)|dn (t:T)|gF (ε:Ev)|b_ (ε:Ev)|kS (t:T) (ε:Ev)|pn (s:bW)
abbrev aY:=Ev->Option T
abbrev ek:=Ev->Option Bool
abbrev ba:=Ev->Option Out
abbrev gU:=Ev->Option (List T)
abbrev f7:=T->Ev->Option Ev
def big:Nat:=16777216
noncomputable def bb:T->T->Option T
|.int i,.int j=>some (.int (i+j))
|.str x,.str y=>if x.length+y.length<=big then some (.str (x++y)) else none
|.tuple xs,.tuple ys=>if xs.length+ys.length<=big then some (.tuple (xs++ys)) else none
|.list xs,.list ys=>if xs.length+ys.length<=big then some (.list (xs++ys)) else none
|_,_=>none
def jB:T->T->Option T
|.int i,.int j=>some (.int (i - j))
|_,_=>none
def tn(i j:Int):Bool:=(decide (-(2 ^ 64)<i) && decide (i<2 ^ 64)) || (decide (-(2 ^ 64)<j) && decide (j<2 ^ 64))
def cZ:T->T->Option T
|.int i,.int j=>if tn i j then some (.int (i*j)) else none
|_,_=>none
def oDiv:T->T->Option T
|.int i,.int j=>if 0<j/\j<1073741824 then some (.int (i / j)) else none
|_,_=>none
def oMod:T->T->Option T
|.int i,.int j=>if 0<j then some (.int (i % j)) else none
|_,_=>none
def kM:T->Option T
|.int i=>some (.int (-i))
|_=>none
def e'(n:Nat)(i:Int):Option Nat:=if 0<=i then (if i<n then some i.toNat else none) else if -(n:Int)<=i then some (i+n).toNat else none
def eH{α:Type}(xs:List α)(i:Int):Option α:=(e' xs.length i).bind λj=>xs[j]?
noncomputable def ax:T->T->Option T
|.tuple xs,.int i=>eH xs i
|.list xs,.int i=>eH xs i
|.str x,.int i=>if x.length<=big then (eH x.cps.toList i).map λc=>.str ⟨#[c]⟩ else none
|_,_=>none
def oEq(a b:T):Option T:=if dI a && dI b then some (.bool (fu a b)) else none
def eC(a b:T):Option T:=if dI a && dI b then some (.bool (!PyData.eqv a b)) else none
def hD(a:T):Option T:=some (.bool (match a with|.none=>true|_=>false))
def fO(a:T):Option T:=some (.bool (match a with|.none=>false|_=>true))
def strLt(x y:Str):Bool:=decide (x.cps.toList<y.cps.toList)
def oLt:T->T->Option T
|.int i,.int j=>some (.bool (decide (i<j)))
|.str x,.str y=>some (.bool (strLt x y))
|_,_=>none
def oLe:T->T->Option T
|.int i,.int j=>some (.bool (decide (i<=j)))
|.str x,.str y=>some (.bool (!strLt y x))
|_,_=>none
def fU:T->T->Option T
|.int i,.int j=>some (.bool (decide (j<i)))
|.str x,.str y=>some (.bool (strLt y x))
|_,_=>none
def mQ:T->T->Option T
|.int i,.int j=>some (.bool (decide (j<=i)))
|.str x,.str y=>some (.bool (!strLt x y))
|_,_=>none
def lG(x:T)(ts:List T):Bool:=ts.any λy=>fu y x
noncomputable def gw(neg:Bool):T->T->Option T
|x,.tuple ys=>if dI x && n8 ys then some (.bool (if neg then !lG x ys else lG x ys)) else none
|x,.list ys=>if dI x && n8 ys then some (.bool (if neg then !lG x ys else lG x ys)) else none
|_,_=>none
def de:List T->Option T
| [.tuple xs]=>some (.int xs.length)
| [.list xs]=>some (.int xs.length)
| [.str x]=>if x.length<=big then some (.int x.length) else none
|_=>none
def lR:List T->Option T
| [.int i,.int j]=>some (.int (if j<i then j else i))
|_=>none
def lQ:List T->Option T
| [.int i,.int j]=>some (.int (if j > i then j else i))
|_=>none
def hI:List T->Option T
| [.tuple xs]=>some (.tuple xs)
| [.list xs]=>some (.tuple xs)
|_=>none
def iL:List T->Option T
| [.tuple xs]=>some (.list xs)
| [.list xs]=>some (.list xs)
|_=>none
def xu:List T->Option T
| [.int i]=>some (.int i)
| [.bool b]=>some (.int (if b then 1 else 0))
|_=>none
def b0(n d:Nat):Option Int->Nat
|none=>d
|some v=>(if v<0 then max (v+n) 0 else min v n).toNat
def eA{α:Type}(xs:List α)(lo hi:Option Int):List α:=(xs.drop (b0 xs.length 0 lo)).take (b0 xs.length xs.length hi - b0 xs.length 0 lo)
def r_(t:T)(lo hi:Option Int):Option T:=match t with
|.tuple xs=>some (.tuple (eA xs lo hi))
|.list xs=>some (.list (eA xs lo hi))
|_=>none
def intsOf:List T->Option (List Int)
| []=>some []
|.int i::ts=>(intsOf ts).map λr=>i::r
|_::_=>none
def strsOf:List T->Option (List Str)
| []=>some []
|.str x::ts=>(strsOf ts).map λr=>x::r
|_::_=>none
def insI(x:Int):List Int->List Int
| []=>[x]
|y::ys=>if x<=y then x::y::ys else y::insI x ys
def sortI:List Int->List Int
| []=>[]
|x::xs=>insI x (sortI xs)
def qt(x:Str):List Str->List Str
| []=>[x]
|y::ys=>if !strLt y x then x::y::ys else y::qt x ys
def hK:List Str->List Str
| []=>[]
|x::xs=>qt x (hK xs)
def dedup{α:Type}[DecidableEq α]:List α->List α
| []=>[]
|x::xs=>x::(dedup xs).filter λy=>decide (y≠x)
def keyOf:T->Option Key
|.int i=>some (.inl i)
|.str x=>some (.inr x)
|_=>none
def putD(d5:List (Key×T))(k:Key)(v:T):List (Key×T):=if d5.any (λp=>decide (p.1=k)) then d5.map λp=>if p.1=k then (k,v) else p else d5++[(k,v)]
def getD(d5:List (Key×T))(k:Key):Option T:=(d5.find? λp=>decide (p.1=k)).map (·.2)
def U(t:T):aY:=λ_=>some t
def nm(i:Nat):aY:=λε=>match ε[i]? with
|some (some (.aa t))=>some t
|some (some (.own ts))=>some (.list ts)
|_=>none
def ar(i:Nat):aY:=λε=>match ε[i]? with
|some (some (.aa t))=>some t
|_=>none
def bN(o:T->Option T)(f:aY):aY:=λε=>(f ε).bind o
def ab(o:T->T->Option T)(f g:aY):aY:=λε=>(f ε).bind λx=>(g ε).bind λy=>o x y
def args:List aY->Ev->Option (List T)
| [],_=>some []
|f::fs,ε=>(f ε).bind λt=>(args fs ε).map λts=>t::ts
def aq(o:List T->Option T)(fs:List aY):aY:=λε=>(args fs ε).bind o
def aJ(fs:List aY):aY:=λε=>(args fs ε).bind λts=>if ts.length<=big then some (.tuple ts) else none
def da(fs:List aY):aY:=λε=>(args fs ε).bind λts=>if ts.length<=big then some (.list ts) else none
def opt(f:aY):Ev->Option (Option Int):=λε=>(f ε).bind λt=>match t with|.int i=>some (some i)|_=>none
def optN:Ev->Option (Option Int):=λ_=>some none
def slice(f:aY)(lo hi:Ev->Option (Option Int)):aY:=λε=>(f ε).bind λt=>(lo ε).bind λl=>(hi ε).bind λh=>r_ t l h
def dr(f g:aY):aY:=λε=>(f ε).bind λt=>match t with|.bool true=>g ε|.bool false=>some (.bool false)|_=>none
def ph(f g:aY):aY:=λε=>(f ε).bind λt=>match t with|.bool false=>g ε|.bool true=>some (.bool true)|_=>none
def r9(f:aY):aY:=λε=>(f ε).bind λt=>match t with|.bool b=>some (.bool (!b))|_=>none
noncomputable def chain(o p:T->T->Option T)(f g h:aY):aY:=λε=>(f ε).bind λx=>(g ε).bind λy=>(o x y).bind λr=>match r with
|.bool true=>(h ε).bind λz=>p y z
|.bool false=>some (.bool false)
|_=>none
def aP(f:aY):ek:=λε=>(f ε).bind λt=>match t with|.bool b=>some b|_=>none
def j7(f:aY):ek:=λε=>(f ε).bind λt=>match t with|.list ts=>some (!ts.isEmpty)|.tuple ts=>some (!ts.isEmpty)|_=>none
def e6(f g:ek):ek:=λε=>(f ε).bind λb=>if b then g ε else some false
def cc(f g:ek):ek:=λε=>(f ε).bind λb=>if b then some true else g ε
def bD(f:ek):ek:=λε=>(f ε).map λb=>!b
def uw(c:ek)(f g:aY):aY:=λε=>(c ε).bind λb=>if b then f ε else g ε
def dd(b:Bool):ek:=λ_=>some b
def ofT(c:ek):aY:=λε=>(c ε).map .bool
def dT(f:aY):gU:=λε=>(f ε).bind λt=>match t with|.tuple ts=>some ts|.list ts=>some ts|_=>none
def hN(f:aY):gU:=λε=>(f ε).bind λt=>match t with|.tuple ts=>some ts|_=>none
def kR(lo hi:Int):List T:=(List.range (hi - lo).toNat).map λ(k:Nat)=>.int (lo+(k:Int))
def sW(i:Int):Bool:=decide (-(2 ^ 62)<=i) && decide (i<2 ^ 62)
def iI(f:aY):gU:=λε=>(f ε).bind λt=>match t with|.int j=>if sW j then some (kR 0 j) else none|_=>none
def enum(ts:List T):List T:=ts.zipIdx.map λp=>.tuple [.int p.2,p.1]
def fM(f:gU):gU:=λε=>(f ε).map enum
def aX(i:Nat):f7:=λt ε=>some (ε.set i (some (.aa t)))
def fG:List f7->List T->Ev->Option Ev
| [],[],ε=>some ε
|g::eo,t::ts,ε=>(g t ε).bind λε'=>fG eo ts ε'
|_,_,_=>none
def dg(eo:List f7):f7:=λt ε=>match t with|.tuple ts=>fG eo ts ε|_=>none
noncomputable def aeC(g:f7)(c:ek)(e:aY):List T->Ev->Option (List T)
| [],_=>some []
|t::ts,ε=>(g t ε).bind λkm=>(c km).bind λb=>if b then (e km).bind λy=>(aeC g c e ts km).map λys=>y::ys else aeC g c e ts km
def gD(own:Nat)(caps:List Nat)(ε:Ev):Ev:=jc own none++caps.map λi=>(ε[i]?).join
def comp(own:Nat)(caps:List Nat)(it:gU)(g:f7)(c:ek)(e:aY):aY:=λε=>(it ε).bind λts=>if ts.length<=big then (aeC g c e ts (gD own caps ε)).map .list else none
def skip:ba:=λε=>some (.nx ε)
def seq(a b:ba):ba:=λε=>(a ε).bind λo=>match o with|.nx ε'=>b ε'|o=>some o
def asg(i:Nat)(f:aY):ba:=λε=>(f ε).map λt=>.nx (ε.set i (some (.aa t)))
def iU(i:Nat)(f:aY):ba:=λε=>(f ε).bind λt=>match t with|.list ts=>some (.nx (ε.set i (some (.own ts))))|_=>none
def hV(g:f7)(f:aY):ba:=λε=>(f ε).bind λt=>(g t ε).map .nx
def aW(f:aY):ba:=λε=>(f ε).map .dn
def iff(c:ek)(a b:ba):ba:=λε=>(c ε).bind λx=>if x then a ε else b ε
def brk:ba:=λε=>some (.gF ε)
def cnt:ba:=λε=>some (.b_ ε)
noncomputable def forL(g:f7)(b:ba):List T->Ev->Option Out
| [],ε=>some (.nx ε)
|t::ts,ε=>(g t ε).bind λkm=>(b km).bind λo=>match o with
  |.nx iN=>forL g b ts iN
  |.b_ iN=>forL g b ts iN
  |.gF iN=>some (.nx iN)
  |.dn t=>some (.dn t)
  |.kS t iN=>some (.kS t iN)
  |.pn s=>some (.pn s)
def c1(it:gU)(g:f7)(b:ba):ba:=λε=>(it ε).bind λts=>forL g b ts ε
noncomputable def app(i:Nat)(f:aY):ba:=λε=>match ε[i]? with
|some (some (.own ts))=>(f ε).bind λt=>if ts.length<big then some (.nx (ε.set i (some (.own (ts++[t]))))) else none
|_=>none
noncomputable def ext(i:Nat)(f:aY):ba:=λε=>match ε[i]? with
|some (some (.own ts))=>(f ε).bind λt=>match t with
  |.list us=>if ts.length+us.length<=big then some (.nx (ε.set i (some (.own (ts++us))))) else none
  |_=>none
|_=>none
noncomputable def par(i j:Nat)(own:Bool)(f g:aY):ba:=λε=>(f ε).bind λt=>(g ε).bind λu=>if own then (match u with|.list us=>some (.nx ((ε.set i (some (.aa t))).set j (some (.own us))))|_=>none) else some (.nx ((ε.set i (some (.aa t))).set j (some (.aa u))))
noncomputable def bE(b:ba)(n:Nat)(as:List T):Option T:=(b ((as.map λt=>some (.aa t))++jc (n - as.length) none)).bind λo=>match o with
|.dn t=>some t
|.nx _=>some .none
|_=>none
end D
end
section
namespace D
open PySem PySem.Spec PyProof.Rows bu
section
mutual
noncomputable def Rep(K:bc)(F:ai->Prop)(H:aD):T->V->Prop
|.none,v=>v=.gb
|.bool b,v=>v=.bL b
|.int i,v=>v=.int i
|.str x,v=>v=.str x
|.dict _,_=>False
|.tuple ts,v=>∃a vs,v=.ref a/\cW K H a vs/\bf K F H ts vs
|.list ts,v=>∃a vs,v=.ref a/\F a/\fk H a (.lst vs)/\bf K F H ts vs
noncomputable def bf(K:bc)(F:ai->Prop)(H:aD):List T->List V->Prop
| [],vs=>vs=[]
|t::ts,vs=>∃v r,vs=v::r/\Rep K F H t v/\bf K F H ts r
end
section
variable {K:bc}{F aL:ai->Prop}{H ah:aD}
mutual
theorem Rep.keep(af:∀b xs,cW K H b xs->cW K ah b xs)(ao:∀b xs,F b->fk H b (.lst xs)->aL b/\fk ah b (.lst xs)):∀{t:T} {v:V},Rep K F H t v->Rep K aL ah t v
|.none,v,h=>by simpa [Rep] using h
|.bool _,v,h=>by simpa [Rep] using h
|.dict _,v,h=>by simp[Rep] at h
|.int _,v,h=>by simpa [Rep] using h
|.str _,v,h=>by simpa [Rep] using h
|.tuple ts,v,h=>by
  simp only[Rep] at h ⊢;obtain⟨a,vs,e,q,r⟩:=h;exact⟨a,vs,e,af _ _ q,bf.keep af ao r⟩
|.list ts,v,h=>by
  simp only[Rep] at h ⊢;obtain⟨a,vs,e,f,q,r⟩:=h;exact⟨a,vs,e,(ao _ _ f q).1,(ao _ _ f q).2,bf.keep af ao r⟩
theorem bf.keep(af:∀b xs,cW K H b xs->cW K ah b xs)(ao:∀b xs,F b->fk H b (.lst xs)->aL b/\fk ah b (.lst xs)):∀{ts:List T} {vs:List V},bf K F H ts vs->bf K aL ah ts vs
| [],vs,h=>by simpa [bf] using h
|t::ts,vs,h=>by
  simp only[bf] at h ⊢;obtain⟨v,r,e,q,z⟩:=h;exact⟨v,r,e,Rep.keep af ao q,bf.keep af ao z⟩
end
def bf.nil:bf K F H [] []:=by simp[bf]
def bf.cons{t:T}{v:V}{ts:List T}{vs:List V}(h:Rep K F H t v)(r:bf K F H ts vs):bf K F H (t::ts) (v::vs):=by
 simp only[bf];exact⟨v,vs,rfl,h,r⟩
theorem bf.length:∀{ts:List T} {vs:List V},bf K F H ts vs->ts.length=vs.length
| [],vs,h=>by
  simp only[bf] at h;subst h;rfl
|t::ts,vs,h=>by
  simp only[bf] at h;obtain⟨v,r,e,q,z⟩:=h;subst e;simp[bf.length z]
theorem bf.get:∀{ts:List T} {vs:List V} {i:Nat} {t:T},bf K F H ts vs->ts[i]?=some t->∃v,vs[i]?=some v/\Rep K F H t v
| [],vs,i,t,h,e=>by simp at e
|x::ts,vs,0,t,h,e=>by
  simp only[bf] at h;obtain⟨v,r,rfl,q,z⟩:=h;simp at e;subst e;exact⟨v,rfl,q⟩
|x::ts,vs,i+1,t,h,e=>by
  simp only[bf] at h;obtain⟨v,r,rfl,q,z⟩:=h;obtain⟨u,af,ao⟩:=bf.get (i:=i) (t:=t) z (by simpa using e);exact⟨u,by simpa using af,ao⟩
theorem bf.append:∀{ts us:List T} {vs ws:List V},bf K F H ts vs->bf K F H us ws->bf K F H (ts++us) (vs++ws)
| [],us,vs,ws,h,r=>by
  simp only[bf] at h;subst h;exact r
|t::ts,us,vs,ws,h,r=>by
  simp only[bf] at h;obtain⟨v,z,rfl,q,y⟩:=h;exact bf.cons q (bf.append y r)
theorem bf.take:∀{ts:List T} {vs:List V} (n:Nat),bf K F H ts vs->bf K F H (ts.take n) (vs.take n)
| [],vs,n,h=>by
  simp only[bf] at h;subst h;simpa using bf.nil
|t::ts,vs,0,h=>by simpa using bf.nil
|t::ts,vs,n+1,h=>by
  simp only[bf] at h;obtain⟨v,z,rfl,q,y⟩:=h;simpa using bf.cons q (bf.take n y)
theorem bf.drop:∀{ts:List T} {vs:List V} (n:Nat),bf K F H ts vs->bf K F H (ts.drop n) (vs.drop n)
| [],vs,n,h=>by
  simp only[bf] at h;subst h;simpa using bf.nil
|t::ts,vs,0,h=>by simpa using h
|t::ts,vs,n+1,h=>by
  simp only[bf] at h;obtain⟨v,z,rfl,q,y⟩:=h;simpa using bf.drop n y
end
class bX where
 cM:List (ai×Str)
 f9:Nat->List Str
 A3:Nat->Option ai
noncomputable def wI(H:aD)(b:ai)(q:Str):Prop:=∃ps:Array aj,H b=some (.gN ps)/\TriplesOk ps.toList/\∀pos iX,codeAmong pos ps.toList=some iX->∃c,iX=.ref c/\H c=some (.ext λh=>h.CodeRec (.ref c) q)
def ju [t:bX](H:aD):Prop:=∀p∈t.cM,wI H p.1 p.2
def wI.keep{H ah:aD}{b:ai}{q:Str}(h:wI H b q)(eh:∀a ps,H a=some (.gN ps)->ah a=some (.gN ps))(cU:∀a ng,H a=some (.ext ng)->ah a=some (.ext ng)):wI ah b q:=by
 obtain⟨ps,af,ao,bA⟩:=h;refine⟨ps,eh _ _ af,ao,λpos iX e=>?_⟩;obtain⟨c,aC,aR⟩:=bA pos iX e;exact⟨c,aC,cU _ _ aR⟩
variable [bX]
def me(u:el):Prop:=(∃xs,u=.lst xs)\/(∃xs,u=.lp xs)\/∃C hX fs,u=.ins C hX fs
def me.cases{P:Prop}{u:el}(h:me u)(af:∀xs,u=.lst xs->P)(ao:∀xs,u=.lp xs->P)(bA:∀C hX fs,u=.ins C hX fs->P):P:=by
 rcases h with ⟨xs,e⟩|⟨xs,e⟩|⟨C,hX,fs,e⟩
 ·exact af xs e
 ·exact ao xs e
 ·exact bA C hX fs e
def ju.JA{H:aD}(h:ju H){p:ai}{o:el}(aE:∀u,H p=some u->me u):ju (upd H p o):=λb ae=>
 (h b ae).keep (λa ps e=>by
  have nb:a≠p:=by
   rintro rfl;exact (aE _ e).cases (λ_ z=>by cases z) (λ_ z=>by cases z) (λ_ _ _ z=>by cases z)
  rw[ck nb];exact e) λa ng e=>by
  have nb:a≠p:=by
   rintro rfl;exact (aE _ e).cases (λ_ z=>by cases z) (λ_ z=>by cases z) (λ_ _ _ z=>by cases z)
  rw[ck nb];exact e
theorem ju.upd{H:aD}(h:ju H){p:ai}{o:el}(aE:∀u,H p=some u->(∃xs,u=.lst xs)\/∃xs,u=.lp xs):ju (upd H p o):=h.JA λu e=>by
 rcases aE u e with z|z
 ·exact .inl z
 ·exact .inr (.inl z)
def ju.new{H:aD}(h:ju H){p:ai}{o:el}(aE:H p=none):ju (bu.upd H p o):=h.upd λu e=>by rw[aE] at e;cases e
structure fj(F:ai->Prop)(H:aD):Prop where
 jV:∀a,F a->∃o,H a=some o
 mT:ju H
instance {F:ai->Prop}{H:aD}:CoeFun (fj F H) λ_=>∀a,F a->∃o,H a=some o:=⟨fj.jV⟩
def hk(H ah:aD):Prop:=∀b o,H b=some o->ah b=some o\/∃ps VQ,o=.gN ps/\ah b=some (.gN VQ)
def hk.refl(H:aD):hk H H:=λ_ _ h=>.inl h
def hk.ne{H ah:aD}(s:hk H ah){b:ai}{o:el}(e:H b=some o):∃u,ah b=some u:=by
 rcases s b o e with h|⟨_,_,_,h⟩
 ·exact⟨_,h⟩
 ·exact⟨_,h⟩
theorem hk.none{H ah:aD}(s:hk H ah){b:ai}(e:ah b=none):H b=none:=by
 cases z:H b with
|none=>rfl
|some o=>
  obtain⟨u,q⟩:=s.ne z;rw[e] at q;cases q
def hk.get{H ah:aD}(s:hk H ah){b:ai}{o:el}(e:H b=some o)(n:∀ps,o≠.gN ps:=by intro _ z;cases z):ah b=some o:=by
 rcases s b o e with h|⟨_,_,z,_⟩
 ·exact h
 ·exact absurd z (n _)
def hk.trans{H H1 bt:aD}(a:hk H H1)(b:hk H1 bt):hk H bt:=λc o h=>by
 rcases a c o h with q|⟨ps,VR,z,q⟩
 ·exact b c o q
 ·rcases b c _ q with bg|⟨_,VS,hc,bg⟩
  ·exact .inr ⟨ps,VR,z,bg⟩
  ·exact .inr ⟨ps,VS,z,bg⟩
structure Ext(F:ai->Prop)(H:aD)(aL:ai->Prop)(ah:aD):Prop where
 same:hk H ah
 sub:∀a,F a->aL a
 new:∀a,aL a->F a\/H a=none
 cB:fj aL ah
section
variable {K:bc}{F a6 d0:ai->Prop}{H H1 bt:aD}
theorem Ext.refl(d:fj F H):Ext F H F H:=⟨hk.refl H,λ_ h=>h,λ_ h=>.inl h,d⟩
theorem Ext.trans(a:Ext F H a6 H1)(b:Ext a6 H1 d0 bt):Ext F H d0 bt:=
 ⟨a.same.trans b.same,λx h=>b.sub x (a.sub x h),λx h=>(b.new x h).elim (λz=>a.new x z) λz=>.inr (a.same.none z),b.cB⟩
def fk.same{a:ai}{u:el}(s:hk H H1)(r:fk H a u)(n:∀ps,u≠.gN ps:=by intro _ z;cases z):fk H1 a u:=by
 rcases r with r|⟨o,r⟩
 ·exact .inl (s.get r n)
 ·exact .inr ⟨o,s.get r⟩
theorem cW.same{a:ai}{xs:List V}(s:hk H H1)(r:cW K H a xs):cW K H1 a xs:=by
 rcases r with r|r
 ·exact .inl (fk.same s r)
 ·exact .inr r
def Rep.ext{t:T}{v:V}(r:Rep K F H t v)(x:Ext F H a6 H1):Rep K a6 H1 t v:=r.keep (λ_ _ q=>cW.same x.same q) λb _ f q=>⟨x.sub b f,fk.same x.same q⟩
def bf.ext{t:List T}{v:List V}(r:bf K F H t v)(x:Ext F H a6 H1):bf K a6 H1 t v:=r.keep (λ_ _ q=>cW.same x.same q) λb _ f q=>⟨x.sub b f,fk.same x.same q⟩
def Ext.laid{p:ai}{o:el}(d:fj F H)(aE:H p=none):Ext F H F (upd H p o):=
 ⟨λb u q=>.inl (xJ aE o b u q),λ_ h=>h,λ_ h=>.inl h,⟨λa h=>by
  obtain⟨u,e⟩:=d a h;exact⟨u,xJ aE o a u e⟩,d.mT.new aE⟩⟩
where xJ {H:aD} {p:ai} (h:H p=none) (o:el):N1 H (upd H p o):=λb u q=>by rw[ck (fD q h)];exact q
def Ext.uC{p:ai}{o:el}(d:fj F H)(aE:H p=none):Ext F H (λa=>F a\/a=p) (upd H p o):=
 ⟨λb u q=>.inl (Ext.laid.xJ aE o b u q),λ_ h=>.inl h,λa h=>by
  rcases h with h|rfl
  ·exact .inl h
  ·exact .inr aE,⟨λa h=>by
  rcases h with h|rfl
  ·obtain⟨u,e⟩:=d a h;exact⟨u,Ext.laid.xJ aE o a u e⟩
  ·exact⟨o,es⟩,d.mT.new aE⟩⟩
end
structure eG(K:bc)(F:ai->Prop)(H:aD)(aL:ai->Prop)(ah:aD):Prop where
 tup:∀b xs,cW K H b xs->cW K ah b xs
 lst:∀b xs,F b->fk H b (.lst xs)->aL b/\fk ah b (.lst xs)
section
variable {K:bc}{F a6 d0:ai->Prop}{H H1 bt:aD}
def eG.refl:eG K F H F H:=⟨λ_ _ h=>h,λ_ _ f h=>⟨f,h⟩⟩
def eG.trans(a:eG K F H a6 H1)(b:eG K a6 H1 d0 bt):eG K F H d0 bt:=⟨λx xs h=>b.tup x xs (a.tup x xs h),λx xs f h=>b.lst x xs (a.lst x xs f h).1 (a.lst x xs f h).2⟩
def Ext.aK(x:Ext F H a6 H1):eG K F H a6 H1:=⟨λ_ _ q=>cW.same x.same q,λb _ f q=>⟨x.sub b f,fk.same x.same q⟩⟩
def Rep.aK{t:T}{v:V}(r:Rep K F H t v)(x:eG K F H a6 H1):Rep K a6 H1 t v:=r.keep x.tup x.lst
def bf.aK{t:List T}{v:List V}(r:bf K F H t v)(x:eG K F H a6 H1):bf K a6 H1 t v:=r.keep x.tup x.lst
end
def e4(K:bc)(O F:ai->Prop)(H:aD)(t:T)(v:V):Prop:=
 Rep K F H t v\/∃ts a vs,t=.list ts/\v=.ref a/\H a=some (.lst vs)/\bf K F H ts vs
section
variable {K:bc}{O F a6:ai->Prop}{H H1:aD}{v:V}
theorem e4.ext{t:T}(r:e4 K O F H t v)(x:Ext F H a6 H1):e4 K O a6 H1 t v:=by
 rcases r with r|⟨ts,a,vs,aC,aR,ik,r⟩
 ·exact .inl (r.ext x)
 ·exact .inr ⟨ts,a,vs,aC,aR,x.same.get ik,r.ext x⟩
theorem e4.gb(r:e4 K O F H .none v):v=.gb:=by
 rcases r with r|⟨ts,a,vs,aC,_⟩
 ·simpa [Rep] using r
 ·cases aC
theorem e4.bL{b:Bool}(r:e4 K O F H (.bool b) v):v=.bL b:=by
 rcases r with r|⟨ts,a,vs,aC,_⟩
 ·simpa [Rep] using r
 ·cases aC
theorem e4.int{i:Int}(r:e4 K O F H (.int i) v):v=.int i:=by
 rcases r with r|⟨ts,a,vs,aC,_⟩
 ·simpa [Rep] using r
 ·cases aC
theorem e4.str{x:Str}(r:e4 K O F H (.str x) v):v=.str x:=by
 rcases r with r|⟨ts,a,vs,aC,_⟩
 ·simpa [Rep] using r
 ·cases aC
def e4.tup{ts:List T}(r:e4 K O F H (.tuple ts) v):∃a vs,v=.ref a/\cW K H a vs/\bf K F H ts vs:=by
 rcases r with r|⟨ts,a,vs,aC,_⟩
 ·simpa [Rep] using r
 ·cases aC
theorem e4.lst{ts:List T}(r:e4 K O F H (.list ts) v):∃a vs,v=.ref a/\fk H a (.lst vs)/\bf K F H ts vs:=by
 rcases r with r|⟨us,a,vs,aC,aR,ik,r⟩
 ·simp only[Rep] at r;obtain⟨a,vs,e,_,q,z⟩:=r;exact⟨a,vs,e,q,z⟩
 ·cases aC
  exact⟨a,vs,aR,.inl ik,r⟩
end
def nz(K:bc)(F:ai->Prop)(H:aD):List (D.Key×T)->List (D.Key×V)->Prop
| [],vs=>vs=[]
|p::ts,vs=>∃v r,vs=(p.1,v)::r/\Rep K F H p.2 v/\nz K F H ts r
theorem nz.aK{K:bc}{F aL:ai->Prop}{H ah:aD}(x:eG K F H aL ah):∀{ts:List (D.Key×T)} {vs:List (D.Key×V)},nz K F H ts vs->nz K aL ah ts vs
| [],vs,h=>h
|p::ts,vs,h=>by
  obtain⟨v,r,e,q,z⟩:=h;exact⟨v,r,e,q.aK x,nz.aK x z⟩
structure jT where
 h:aD
 DU:ai
def ja:V->List ai
|.ref a=>[a]
|_=>[]
def oZ:bW->V->List ai
|.aa _,_=>[]
|_,v=>ja v
def jY:List bW->List V->List ai
|s::ss,v::vs=>oZ s v++jY ss vs
|_,_=>[]
def y8(H:aD):V->List V
|.ref a=>(match H a with
  |some (.ins _ _ d5)=>d5.map (·.2)
  |some (.lp d5)=>d5.map (·.2)
  |_=>[])
|_=>[]
def fA(H:aD):bW->V->List ai
|.aa _,_=>[]
|.own _,v=>ja v
|.hs _,v=>ja v
|.obj _ _ fs,v=>ja v++jY fs (y8 H v)
noncomputable def nd(H:aD)(a:ai)(c:Nat)(vs:List V):Prop:=vs.length<=(bX.f9 c).length/\match bX.A3 c with
|some C=>∃hX,H a=some (.ins C hX ((bX.f9 c).zip vs))
|none=>H a=some (.lp (((bX.f9 c).zip vs).map λp=>(.inr p.1,p.2)))
noncomputable def tv(K:bc)(F:ai->Prop)(H:aD):bW->V->Prop
|.aa t,v=>Rep K F H t v
|.own ts,v=>∃b us,v=.ref b/\H b=some (.lst us)/\bf K F H ts us
|.hs d5,v=>∃b us,v=.ref b/\H b=some (.lp us)/\nz K F H d5 us
|.obj _ _ _,_=>False
def ny(K:bc)(F:ai->Prop)(H:aD):List bW->List V->Prop
| [],vs=>vs=[]
|s::ss,vs=>∃v r,vs=v::r/\tv K F H s v/\ny K F H ss r
def NW(E:jT)(O F:ai->Prop)(m:wC)(b:ai):Prop:=¬F b/\match m with
|.n_=>E.h b≠none
|_=>O b
noncomputable def gS(K:bc)(E:jT)(O F:ai->Prop)(H:aD):bW->V->Prop
|.aa t,v=>Rep K F H t v
|.own ts,v=>∃a vs,v=.ref a/\¬F a/\O a/\H a=some (.lst vs)/\bf K F H ts vs
|.hs d5,v=>∃a vs,v=.ref a/\¬F a/\O a/\H a=some (.lp vs)/\nz K F H d5 vs
|.obj m c fs,v=>∃a vs,v=.ref a/\nd H a c vs/\ny K F H fs vs/\(a::jY fs vs).Nodup/\(∀b∈a::jY fs vs,NW E O F m b)/\(m=.r6->a=E.DU)
def bW.qu:bW->Bool
|.aa _=>false
|.obj .n_ _ _=>false
|_=>true
section
variable {K:bc}{F aL O GO:ai->Prop}{H ah:aD}{E:jT}
theorem FT{α β:Type}:∀{xs:List α} {ys:List β},ys.length<=xs.length->(xs.zip ys).map (·.2)=ys
|xs,[],_=>by simp
| [],y::ys,h=>by simp at h
|x::xs,y::ys,h=>by simp[FT (xs:=xs) (ys:=ys) (by simpa using h)]
def nd.vals{a:ai}{c:Nat}{vs:List V}(h:nd H a c vs):y8 H (.ref a)=vs:=by
 obtain⟨aF,h⟩:=h;unfold y8;split at h
 ·obtain⟨hX,e⟩:=h;simp only[e];exact FT aF
 ·simp only[h,iD];exact FT aF
def nd.mem{a:ai}{c:Nat}{vs:List V}(h:nd H a c vs):∃o,H a=some o/\me o:=by
 obtain⟨aF,h⟩:=h;split at h
 ·obtain⟨hX,e⟩:=h;exact⟨_,e,.inr (.inr ⟨_,_,_,rfl⟩)⟩
 ·exact⟨_,h,.inr (.inl ⟨_,rfl⟩)⟩
def nd.keep{a:ai}{c:Nat}{vs:List V}(h:nd H a c vs)(e:ah a=H a):nd ah a c vs:=by
 obtain⟨aF,h⟩:=h;refine⟨aF,?_⟩;rw[e];exact h
def s_{v:V}{b:ai}(h:b∈ja v):v=.ref b:=by
 unfold ja at h;split at h
 ·simp at h;rw[h]
 ·simp at h
theorem tv.at{s:bW}{v:V}{b:ai}(r:tv K F H s v)(h:b∈oZ s v):∃o,H b=some o/\me o:=by
 cases s with
|aa t=>simp[oZ] at h
|own ts=>
  obtain⟨gX,us,e,fR,_⟩:=r;have:=s_ h;rw[e] at this;cases this;exact⟨_,fR,.inl ⟨_,rfl⟩⟩
|hs ts=>
  obtain⟨gX,us,e,fR,_⟩:=r;have:=s_ h;rw[e] at this;cases this;exact⟨_,fR,.inr (.inl ⟨_,rfl⟩)⟩
|obj m c fs=>exact r.elim
theorem ny.at:∀{fs:List bW} {vs:List V} {b:ai},ny K F H fs vs->b∈jY fs vs->∃o,H b=some o/\me o
| [],vs,b,r,h=>by simp[jY] at h
|s::ss,vs,b,r,h=>by
  obtain⟨v,z,rfl,a',cL⟩:=r;rw[show jY (s::ss) (v::z)=oZ s v++jY ss z from rfl] at h;rcases mW.mp h with h|h
  ·exact a'.at h
  ·exact ny.at cL h
def vF{m:wC}{c:Nat}{fs:List bW}{a:ai}{vs:List V}(h:nd H a c vs):fA H (.obj m c fs) (.ref a)=a::jY fs vs:=by
 show ja (.ref a)++jY fs (y8 H (.ref a))=_
 rw[h.vals];rfl
theorem gS.at{s:bW}{v:V}{b:ai}(r:gS K E O F H s v)(h:b∈fA H s v):∃o,H b=some o/\me o:=by
 cases s with
|aa t=>simp[fA] at h
|own ts=>
  obtain⟨gX,us,e,_,_,fR,_⟩:=r;have:=s_ h;rw[e] at this;cases this;exact⟨_,fR,.inl ⟨_,rfl⟩⟩
|hs ts=>
  obtain⟨gX,us,e,_,_,fR,_⟩:=r;have:=s_ h;rw[e] at this;cases this;exact⟨_,fR,.inr (.inl ⟨_,rfl⟩)⟩
|obj m c fs=>
  obtain⟨a,vs,rfl,az,hf,_⟩:=r;rw[vF az] at h;rcases bS.mp h with rfl|h
  ·exact az.mem
  ·exact hf.at h
def gS.held{s:bW}{v:V}{b:ai}(r:gS K E O F H s v)(h:b∈fA H s v):¬F b/\(s.qu=true->O b)/\(s.qu=false->E.h b≠none):=by
 cases s with
|aa t=>simp[fA] at h
|own ts=>
  obtain⟨gX,us,e,n,o,fR,_⟩:=r;have:=s_ h;rw[e] at this;cases this;exact⟨n,λ_=>o,λz=>by cases z⟩
|hs ts=>
  obtain⟨gX,us,e,n,o,fR,_⟩:=r;have:=s_ h;rw[e] at this;cases this;exact⟨n,λ_=>o,λz=>by cases z⟩
|obj m c fs=>
  obtain⟨a,vs,rfl,az,hf,bF,D9,_⟩:=r;rw[vF az] at h;obtain⟨n,q⟩:=D9 b h;refine⟨n,λz=>?_,λz=>?_⟩
  ·cases m with
   |n_=>cases z
   |own=>exact q
   |r6=>exact q
  ·cases m with
   |n_=>exact q
   |own=>cases z
   |r6=>cases z
def tv.keep{s:bW}{v:V}(r:tv K F H s v)(aK:eG K F H aL ah)(b':∀b∈oZ s v,ah b=H b):tv K aL ah s v:=by
 cases s with
|aa t=>exact Rep.aK r aK
|own ts=>
  obtain⟨b,us,rfl,fR,z⟩:=r;exact⟨b,us,rfl,by rw[b' b (by simp[oZ,ja])];exact fR,z.aK aK⟩
|hs ts=>
  obtain⟨b,us,rfl,fR,z⟩:=r;exact⟨b,us,rfl,by rw[b' b (by simp[oZ,ja])];exact fR,nz.aK aK z⟩
|obj m c fs=>exact r.elim
theorem ny.keep:∀{fs:List bW} {vs:List V},ny K F H fs vs->eG K F H aL ah->(∀b∈jY fs vs,ah b=H b)->ny K aL ah fs vs
| [],vs,r,_,_=>r
|s::ss,vs,r,aK,b'=>by
  obtain⟨v,z,rfl,a',cL⟩:=r;rw[show jY (s::ss) (v::z)=oZ s v++jY ss z from rfl] at b';exact⟨v,z,rfl,a'.keep aK λb h=>b' b (mW.mpr (.inl h)),ny.keep cL aK λb h=>b' b (mW.mpr (.inr h))⟩
theorem gS.keep{s:bW}{v:V}(r:gS K E O F H s v)(aK:eG K F H aL ah)(b':∀b∈fA H s v,ah b=H b)(hf:∀b∈fA H s v,aL b->F b)(aQ:∀b∈fA H s v,O b->GO b):
  gS K E GO aL ah s v/\fA ah s v=fA H s v:=by
 cases s with
|aa t=>exact⟨Rep.aK r aK,rfl⟩
|own ts=>
  obtain⟨a,vs,rfl,n,o,fR,z⟩:=r;have m:a∈fA H (.own ts) (.ref a):=by simp[fA,ja]
  exact⟨⟨a,vs,rfl,λf=>n (hf a m f),aQ a m o,by rw[b' a m];exact fR,z.aK aK⟩,rfl⟩
|hs ts=>
  obtain⟨a,vs,rfl,n,o,fR,z⟩:=r;have m:a∈fA H (.hs ts) (.ref a):=by simp[fA,ja]
  exact⟨⟨a,vs,rfl,λf=>n (hf a m f),aQ a m o,by rw[b' a m];exact fR,nz.aK aK z⟩,rfl⟩
|obj m c fs=>
  obtain⟨a,vs,rfl,az,aw,bF,D9,DU⟩:=r;rw[vF az] at b' hf aQ;have H0:nd ah a c vs:=az.keep (b' a (by simp));refine⟨⟨a,vs,rfl,H0,aw.keep aK λb h=>b' b (gz _ h),bF,λb h=>?_,DU⟩,by rw[vF az,vF H0]⟩;obtain⟨n,q⟩:=D9 b h;refine⟨λf=>n (hf b h f),?_⟩;cases m with
  |n_=>exact q
  |own=>exact aQ b h q
  |r6=>exact aQ b h q
def gS.Bf{s:bW}{v:V}(r:gS K E O F H s v)(x:Ext F H aL ah):gS K E O aL ah s v/\fA ah s v=fA H s v:=
 r.keep x.aK (λb h=>by
  obtain⟨o,e,m⟩:=r.at h;rw[e];exact x.same.get e λps z=>by subst z;exact m.cases (λ_ z=>by cases z) (λ_ z=>by cases z) (λ_ _ _ z=>by cases z)) (λb h f=>by
  rcases x.new b f with z|z
  ·exact z
  ·obtain⟨o,e,_⟩:=r.at h;rw[z] at e;cases e) λ_ _ o=>o
def gS.ext{s:bW}{v:V}(r:gS K E O F H s v)(x:Ext F H aL ah):gS K E O aL ah s v:=(r.Bf x).1
end
structure c8(K:bc)(aO:ai->Prop)(E:jT)(O F:ai->Prop)(H:aD)(ε:Ev)(σ:bu.St):Prop where
 len:ε.length=σ.length
 val:∀(i:Nat) (s:bW),ε[i]?=some (some s)->∃v,σ[i]?=some (some v)/\gS K E O F H s v
 ne:∀(i j:Nat) (s u:bW) (v w:V),i≠j->ε[i]?=some (some s)->ε[j]?=some (some u)->s.qu=true->u.qu=true->σ[i]?=some (some v)->σ[j]?=some (some w)->∀a∈fA H s v,a∉fA H u w
 ent:Ext aO E.h F H
 o0:∀a,O a->E.h a=none
 fr:∀a,H a=none->O a
section
variable {K:bc}{aO O F a6:ai->Prop}{E:jT}{H H1:aD}{ε:Ev}{σ:bu.St}
theorem c8.cB(r:c8 K aO E O F H ε σ):fj F H:=r.ent.cB
theorem c8.ext(r:c8 K aO E O F H ε σ)(x:Ext F H a6 H1):c8 K aO E O a6 H1 ε σ:=
 ⟨r.len,λi s e=>by
  obtain⟨v,af,ao⟩:=r.val i s e;exact⟨v,af,ao.ext x⟩,λi j s u v w o6 aC aR du fa af ao=>by
  obtain⟨gy,g4,a'⟩:=r.val i s aC;obtain⟨hF,ht,cL⟩:=r.val j u aR;rw[af] at g4;rw[ao] at ht;cases g4;cases ht;rw[(a'.Bf x).2,(cL.Bf x).2];exact r.ne i j s u v w o6 aC aR du fa af ao,r.ent.trans x,r.o0,λa e=>r.fr a (x.same.none e)⟩
def get_set{α:Type}{l:List (Option α)}{i j:Nat}{x:Option α}{y:α}(h:(l.set i x)[j]?=some (some y)):(i=j/\x=some y/\j<l.length)\/(i≠j/\l[j]?=some (some y)):=by
 rw[List.getElem?_set] at h;by_cases e:i=j
 ·subst e;rw[if_pos rfl] at h;split at h
  next aF=>exact .inl ⟨rfl,ia h,aF⟩
  next=>cases h
 ·rw[if_neg e] at h;exact .inr ⟨e,h⟩
def FW{α:Type}{l:List (Option α)}{i:Nat}{x:Option α}(h:i<l.length):(l.set i x)[i]?=some x:=by
 rw[List.getElem?_set,if_pos rfl,if_pos h]
def yw{α:Type}{l:List (Option α)}{i j:Nat}{x:Option α}(h:i≠j):(l.set i x)[j]?=l[j]?:=by
 rw[List.getElem?_set,if_neg h]
def c8.setG{s:bW}{v:V}(r:c8 K aO E O F H ε σ)(i:Nat)(h:gS K E O F H s v)(fr:s.qu=true->∀(j:Nat) (u:bW) (w:V),i≠j->ε[j]?=some (some u)->u.qu=true->σ[j]?=some (some w)->∀a∈fA H s v,a∉fA H u w):
  c8 K aO E O F H (ε.set i (some s)) (σ.set i (some v)):=by
 refine⟨by simp[r.len],λj u e=>?_,λj k u w fc sl Ie aC aR du fa af ao=>?_,r.ent,r.o0,r.fr⟩
 ·rcases get_set e with ⟨rfl,b7,aF⟩|⟨ne,b7⟩
  ·cases b7
   exact⟨_,FW (by rw[<- r.len];exact aF),h⟩
  ·obtain⟨w,af,ao⟩:=r.val j u b7;exact⟨w,by rw[yw ne];exact af,ao⟩
 ·rcases get_set aC with ⟨rfl,b7,aF⟩|⟨ne1,qd⟩
  ·rcases get_set aR with ⟨rfl,_,_⟩|⟨ne2,oV⟩
   ·exact absurd rfl Ie
   ·rw[FW (by rw[<- r.len];exact aF)] at af;rw[yw ne2] at ao;cases af;cases b7;exact fr du k w sl ne2 oV fa ao
  ·rw[yw ne1] at af;rcases get_set aR with ⟨rfl,b7,aF⟩|⟨ne2,oV⟩
   ·rw[FW (by rw[<- r.len];exact aF)] at ao;cases ao;cases b7;intro a az ae;exact fr fa j u fc ne1 qd du af a ae az
   ·rw[yw ne2] at ao;exact r.ne j k u w fc sl Ie qd oV du fa af ao
theorem c8.set{t:T}{v:V}(r:c8 K aO E O F H ε σ)(i:Nat)(h:Rep K F H t v):c8 K aO E O F H (ε.set i (some (.aa t))) (σ.set i (some v)):=r.setG (s:=.aa t) i h λz=>by cases z
def ab1{x:ai}{o d6:el}(a_:¬F x)(hx:H x=some o)(hm:me o):eG K F H F (upd H x d6):=by
 refine⟨λb xs q=>?_,λb xs f q=>⟨f,?_⟩⟩
 ·rcases q with q|q
  ·refine .inl ?_
   have nb:b≠x:=by
    rintro rfl;rcases q with q|⟨_,q⟩ <;> (rw[hx] at q;cases q;exact hm.cases (λ_ z=>by cases z) (λ_ z=>by cases z) (λ_ _ _ z=>by cases z))
   rcases q with q|⟨u,q⟩
   ·exact .inl (by rw[ck nb];exact q)
   ·exact .inr ⟨u,by rw[ck nb];exact q⟩
  ·exact .inr q
 ·have nb:b≠x:=by
   rintro rfl;exact a_ f
  rcases q with q|⟨u,q⟩
  ·exact .inl (by rw[ck nb];exact q)
  ·exact .inr ⟨u,by rw[ck nb];exact q⟩
def abo{x:ai}{o d6:el}{h0:aD}(e:Ext aO h0 F H)(QG:h0 x=none)(a_:¬F x)(hx:H x=some o)(hm:me o):Ext aO h0 F (upd H x d6):=by
 refine⟨λb u q=>?_,e.sub,e.new,⟨λb f=>?_,e.cB.mT.JA λu z=>by rw[hx] at z;cases z;exact hm⟩⟩
 ·have nb:b≠x:=by
   rintro rfl;rw[QG] at q;cases q
  rw[ck nb];exact e.same b u q
 ·have nb:b≠x:=by
   rintro rfl;exact a_ f
  rw[ck nb];exact e.cB b f
end
def sj(K:bc)(f:aY):TE:=λσ H Q=>∃aO aN O F ε t,c8 K aO aN O F H ε σ/\f ε=some t/\∀v aL ah,Ext F H aL ah->e4 K O aL ah t v->Q v ah
def mR(K:bc)(f:aY):TE:=λσ H Q=>∃aO aN O F ε t,c8 K aO aN O F H ε σ/\f ε=some t/\∀v aL ah,Ext F H aL ah->Rep K aL ah t v->Q v ah
noncomputable def pw(K:bc)(f:aY):TE:=λσ H Q=>∃aO aN O F ε ts,c8 K aO aN O F H ε σ/\f ε=some (.list ts)/\∀a vs aL ah,Ext F H aL ah->H a=none->¬aL a->ah a=some (.lst vs)->bf K aL ah ts vs->Q (.ref a) ah
def uW(K:bc)(f:ek):TT:=λσ H Q=>∃aO aN O F ε b,c8 K aO aN O F H ε σ/\f ε=some b/\∀aL ah,Ext F H aL ah->Q b ah
def Jv(K:bc)(fs:List aY):fz:=λσ H Q=>∃aO aN O F ε ts,c8 K aO aN O F H ε σ/\args fs ε=some ts/\∀vs aL ah,Ext F H aL ah->Paired (e4 K O aL ah) ts vs->Q vs ah
def Xe(K:bc)(fs:List aY):fz:=λσ H Q=>∃aO aN O F ε ts,c8 K aO aN O F H ε σ/\args fs ε=some ts/\∀vs aL ah,Ext F H aL ah->bf K aL ah ts vs->Q vs ah
abbrev dU(X:a5)(e:a8)(f:aY):Prop:=b6 X e (sj X.K f)
abbrev cf(X:a5)(e:a8)(f:aY):Prop:=b6 X e (mR X.K f)
abbrev zO(X:a5)(e:a8)(f:aY):Prop:=b6 X e (pw X.K f)
abbrev jt(X:a5)(e:a8)(f:ek):Prop:=iR X e (uW X.K f)
abbrev p2(X:a5)(e:a8)(f:ek):Prop:=lb X e (uW X.K f)
abbrev nu(X:a5)(av:List a8)(fs:List aY):Prop:=hS X av (Jv X.K fs)
abbrev nv(X:a5)(av:List a8)(fs:List aY):Prop:=hS X av (Xe X.K fs)
def eu{X:a5}{e:a8}{t t':TE}(h:b6 X e t)(k:∀σ H Q,t' σ H Q->t σ H Q):b6 X e t':=λag s σ H Q I q=>h ag s σ H Q I (k σ H Q q)
def vZ{X:a5}{e:a8}{t t':TT}(h:iR X e t)(k:∀σ H Q,t' σ H Q->t σ H Q):iR X e t':=λag s σ H Q I q=>h ag s σ H Q I (k σ H Q q)
def Ml{X:a5}{e:a8}{t t':TT}(h:lb X e t)(k:∀σ H Q,t' σ H Q->t σ H Q):lb X e t':=λw ag s σ H Q I q=>h w ag s σ H Q I (k σ H Q q)
def zf{X:a5}{e:List a8}{t t':fz}(h:hS X e t)(k:∀σ H Q,t' σ H Q->t σ H Q):hS X e t':=λpos ag s σ H Q I q=>h pos ag s σ H Q I (k σ H Q q)
def tg{X:a5}{e:Stmt}{t t':hr}(h:mh X e t)(k:∀D σ H,t' D σ H->t D σ H):mh X e t':=λag s σ H D I q=>h ag s σ H D I (k D σ H q)
def LS{X:a5}{e:List Stmt}{t t':hr}(h:gV X e t)(k:∀D σ H,t' D σ H->t D σ H):gV X e t':=λag s σ H D I q=>h ag s σ H D I (k D σ H q)
section
variable {X:a5}{e:a8}{f:aY}
def ak(h:cf X e f):dU X e f:=eu h λσ H Q ⟨aO,aN,O,F,ε,t,r,e,k⟩=>⟨aO,aN,O,F,ε,t,r,e,λv aL ah x q=>k v aL ah x (.inl q)⟩
def IT(h:zO X e f)(hf:∀ε t,f ε=some t->∃ts,t=.list ts):cf X e f:=eu h λσ H Q ⟨aO,aN,O,F,ε,t,r,e,k⟩=>by
 obtain⟨ts,rfl⟩:=hf _ _ e;refine⟨aO,aN,O,F,ε,ts,r,e,λa vs aL ah x a_ kL az q=>?_⟩;have y:Ext F H (λb=>aL b\/b=a) ah:=⟨x.same,λb z=>.inl (x.sub b z),λb z=>by
  rcases z with z|rfl
  ·exact x.new b z
  ·exact .inr a_,⟨λb z=>by
  rcases z with z|rfl
  ·exact x.cB b z
  ·exact⟨_,az⟩,x.cB.mT⟩⟩
 refine k (.ref a) _ ah y ?_
 simp only[Rep];exact⟨a,vs,rfl,.inr rfl,.inl az,q.keep (λ_ _ z=>z) λb _ z w=>⟨.inl z,w⟩⟩
end
end
section
variable [bX]
section
variable {X:a5}{a b c e:a8}{f g h:aY}{pos:Pos}
def tl{t:T}{v:V}(he:b6 X e (sg v))(aw:∀F H,Rep X.K F H t v):cf X e (U t):=eu he λσ H Q ⟨aO,aN,O,F,ε,t',r,e,k⟩=>by
 cases e
 exact k v F H (Ext.refl r.cB) (aw _ _)
def aB{i j}:cf X (.Constant (.int i) j pos) (U (.int i)):=tl acU λ_ _=>by simp[Rep]
def eP{i j}:cf X (.Constant (.bool i) j pos) (U (.bool i)):=tl adP λ_ _=>by simp[Rep]
def bV{i j}:cf X (.Constant (.str i) j pos) (U (.str i)):=tl acO λ_ _=>by simp[Rep]
def aeL{j}:cf X (.Constant .none j pos) (U .none):=tl acQ λ_ _=>by simp[Rep]
def aH(i:Nat){x:Str}(ea:X.N[i]?=some x:=by rfl)(bj:oR X.env.scope x:=by first|exact Or.inl rfl|exact Or.inr (Or.inl rfl)|exact Or.inr (Or.inr rfl))(hd:(x==("__debug__":Str))=false:=by decide)
  (eB:(x==("__classdict__":Str))=false:=by decide):dU X (.Name x pos) (nm i):=eu (sa i ea bj hd eB) λσ H Q ⟨aO,aN,O,F,ε,t,r,e,k⟩=>by
 unfold nm at e;split at e
 next t' he=>
  cases e
  obtain⟨v,af,ao⟩:=r.val _ _ he;exact⟨v,af,k v F H (Ext.refl r.cB) (.inl ao)⟩
 next ts he=>
  cases e
  obtain⟨v,af,a,vs,rfl,n,h0,b',aw⟩:=r.val _ _ he;exact⟨_,af,k _ F H (Ext.refl r.cB) (.inr ⟨ts,a,vs,rfl,rfl,b',aw⟩)⟩
 next=>cases e
def bp(i:Nat){x:Str}(ea:X.N[i]?=some x:=by rfl)(bj:oR X.env.scope x:=by first|exact Or.inl rfl|exact Or.inr (Or.inl rfl)|exact Or.inr (Or.inr rfl))(hd:(x==("__debug__":Str))=false:=by decide)
  (eB:(x==("__classdict__":Str))=false:=by decide):cf X (.Name x pos) (ar i):=eu (sa i ea bj hd eB) λσ H Q ⟨aO,aN,O,F,ε,t,r,e,k⟩=>by
 unfold ar at e;split at e
 next t' he=>
  cases e
  obtain⟨v,af,ao⟩:=r.val _ _ he;exact⟨v,af,k v F H (Ext.refl r.cB) ao⟩
 next=>cases e
noncomputable def k8(K:bc)(o:T->T->Option T)(R:eX):Prop:=
 ∀(O F:ai->Prop) (H:aD) (x y t:T) (fe e0:V) (Q:c5),fj F H->e4 K O F H x fe->e4 K O F H y e0->o x y=some t ->
  (∀v aL ah,Ext F H aL ah->Rep K aL ah t v->Q v ah)->R fe e0 H Q
def oE{o:T->T->Option T}{R:eX}(h:k8 X.K o R):∀σ H Q,mR X.K (ab o f g) σ H Q->qQ R (sj X.K f) (sj X.K g) σ H Q:=by
 rintro σ H Q ⟨aO,aN,O,F,ε,t,r,e,k⟩;simp only[ab,c0] at e;obtain⟨x,ex,y,hY,jv⟩:=e;refine⟨aO,aN,O,F,ε,x,r,ex,λfe a6 H1 a3 aS=>⟨aO,aN,O,a6,ε,y,r.ext a3,hY,λe0 d0 bt cu bz=>?_⟩⟩;exact h O d0 bt x y t fe e0 Q cu.cB (aS.ext cu) bz jv λv aL ah dX c6=>k v aL ah ((a3.trans cu).trans dX) c6
def Inv.uD{ag:List (ai×Obj)}{σ:bu.St}{H:aD}{s:aG}{l:ai}{xs:List V}(I:Inv X ag σ H s)(fI:fk H l (.lst xs)):
  xs.length<=cV/\∃(its:List aj) (n:Nat),Vals xs its/\xs.length=its.length/\s.heap.get? l=some {cls:=.type "list",data:=.seq its.toArray n}:=by
 obtain⟨z,its,n,r,e⟩:=fI.ok I.bP;exact⟨z,its,n,r,r.length,e⟩
noncomputable def adC:eX:=λx y H Q=>∃l b xs zs,x=.ref l/\y=.ref b/\fk H l (.lst xs)/\fk H b (.lst zs)/\xs.length+zs.length<=cV/\∀p,H p=none->Q (.ref p) (upd H p (.lst (xs++zs)))
def abU:d1 X (kZ .Add) adC:=by
 intro ag s σ H x y v u Q I aS bz h;obtain⟨l,b,xs,zs,rfl,rfl,fI,QK,hz,q⟩:=h;cases aS;cases bz;obtain⟨z,its,n,r,aF,e⟩:=Inv.uD I fI;obtain⟨hc,iq,fp,cL,Ih,aR⟩:=Inv.uD I QK;refine PySem.P.add_list e aR ?_ (by rw[er,er];omega);have lx:its.toArray++iq.toArray=(its++iq).toArray:=by simp
 rw[lx];exact⟨.ref _,_,I.xo (t':=s.toks) (r.append cL) (by rw[qX];omega),rfl,q _ I.fresh⟩
def LX(K:bc):eX:=λx y H Q=>∃a b ys,x=.ref a/\y=.ref b/\cW K H a []/\cW K H b ys/\Q (.ref b) H
def FO:d1 X (kZ .Add) (LX X.K):=by
 intro ag s σ H x y v u Q I aS bz h;obtain⟨a,b,ys,rfl,rfl,az,ae,q⟩:=h;cases aS;cases bz;obtain⟨its,a',j0,_⟩:=I.tuple az;obtain⟨iq,cL,dh,_⟩:=I.tuple ae;have Bb:its=[]:=a'.xr.mpr rfl;subst Bb;obtain⟨⟨cls,kz,data,bx⟩,aQ,au,n,hd⟩:=id j0;obtain⟨⟨A4,kA,data2,jH⟩,qm,lI,fp,hd2⟩:=id dh;simp only at au hd lI hd2;subst au hd lI hd2;exact concat_meets ⟨_,aQ,rfl⟩ ⟨_,qm,rfl⟩ noFill_tuple_add seq_tuple_add PySem.F.slot_tuple_add PySem.F.entry_tuple_add (PySem.F.args_tuple_add_2 _ _)
   (tuple_addW0 a b ([]:List aj).toArray iq.toArray n fp kz kA bx jH (by simp)) ⟨aQ,qm,⟨.ref b,H,I,rfl,q⟩⟩
def m':cV=big:=by rw[sizeLine_eq];rfl
def fN(az:dU X a f)(ae:dU X b g):cf X (.BinOp a .Add b pos) (ab bb f g):=
 eu (pQ (ac4.or (Z2.or (FO.or (F2.or abU)))) az ae) (oE (by
  intro O F H x y t fe e0 Q d aS bz e k;unfold bb at e;split at e
  ·cases e
   rw[aS.int,bz.int];exact .inl ⟨_,_,rfl,rfl,k _ F H (Ext.refl d) (by simp[Rep])⟩
  ·split at e
   next hz=>
    cases e
    rw[aS.str,bz.str];exact .inr (.inl ⟨_,_,rfl,rfl,by rw[m'];exact hz,k _ F H (Ext.refl d) (by simp[Rep])⟩)
   next=>cases e
  ·split at e
   next xs ys hz=>
    cases e
    obtain⟨wJ,vs,rfl,aA,aw⟩:=aS.tup;obtain⟨GZ,ws,rfl,ip,kE⟩:=bz.tup;cases xs with
    |nil=>
     simp only[bf] at aw;subst aw;refine .inr (.inr (.inl ⟨_,_,_,rfl,rfl,aA,ip,k _ F H (Ext.refl d) ?_⟩));simp only[Rep];exact⟨_,_,rfl,ip,by simpa using kE⟩
    |cons x0 X9=>
     refine .inr (.inr (.inr (.inl ⟨_,_,_,_,rfl,rfl,aA,ip,?_,?_,λbG=>?_,λbG p aE=>?_⟩)))
     ·intro z;subst z;have:=aw.length;simp at this
     ·rw[m',<- aw.length,<- kE.length];exact hz
     ·refine k _ F H (Ext.refl d) ?_
      subst bG;have aC:ys=[]:=List.eq_nil_of_length_eq_zero (by rw[kE.length];rfl);subst aC;simp only[Rep];exact⟨_,_,rfl,aA,by simpa using aw⟩
     ·have a3:=Ext.laid (o:=.tup (vs++ws)) d aE;refine k _ F _ a3 ?_;simp only[Rep];exact⟨p,_,rfl,cW.of es,(aw.append kE).ext a3⟩
   next=>cases e
  ·split at e
   next xs ys hz=>
    cases e
    obtain⟨wJ,vs,rfl,aA,aw⟩:=aS.lst;obtain⟨GZ,ws,rfl,ip,kE⟩:=bz.lst;refine .inr (.inr (.inr (.inr ⟨_,_,_,_,rfl,rfl,aA,ip,by rw[m',<- aw.length,<- kE.length];exact hz,λp aE=>?_⟩)));have a3:=Ext.uC (o:=.lst (vs++ws)) d aE;refine k _ _ _ a3 ?_;simp only[Rep];exact⟨p,_,rfl,.inr rfl,.inl es,(aw.append kE).ext a3⟩
   next=>cases e
  ·cases e))
def adD(az:dU X a f)(ae:dU X b g):cf X (.BinOp a .Sub b pos) (ab jB f g):=
 eu (pQ acZ az ae) (oE (by
  intro O F H x y t fe e0 Q d aS bz e k;unfold jB at e;split at e
  ·cases e
   rw[aS.int,bz.int];exact⟨_,_,rfl,rfl,k _ F H (Ext.refl d) (by simp[Rep])⟩
  ·cases e))
def pP(az:dU X a f)(ae:dU X b g):cf X (.BinOp a .Mult b pos) (ab cZ f g):=
 eu (pQ ac2 az ae) (oE (by
  intro O F H x y t fe e0 Q d aS bz e k;unfold cZ at e;split at e
  ·split at e
   next hm=>
    cases e
    rw[aS.int,bz.int];refine⟨_,_,rfl,rfl,?_,k _ F H (Ext.refl d) (by simp[Rep])⟩;simpa [tn,wq] using hm
   next=>cases e
  ·cases e))
def f6(az:dU X a f)(ae:dU X b g):cf X (.BinOp a .FloorDiv b pos) (ab oDiv f g):=
 eu (pQ abT az ae) (oE (by
  intro O F H x y t fe e0 Q d aS bz e k;unfold oDiv at e;split at e
  ·split at e
   next hm=>
    cases e
    rw[aS.int,bz.int];exact⟨_,_,rfl,rfl,hm,k _ F H (Ext.refl d) (by simp[Rep])⟩
   next=>cases e
  ·cases e))
def ew(az:dU X a f)(ae:dU X b g):cf X (.BinOp a .Mod b pos) (ab oMod f g):=
 eu (pQ ac3 az ae) (oE (by
  intro O F H x y t fe e0 Q d aS bz e k;unfold oMod at e;split at e
  ·split at e
   next hm=>
    cases e
    rw[aS.int,bz.int];exact⟨_,_,rfl,rfl,hm,k _ F H (Ext.refl d) (by simp[Rep])⟩
   next=>cases e
  ·cases e))
def bo(az:dU X a f)(ae:dU X b g)(aA:Gb b:=by intro _ _;rfl):cf X (.Subscript a b pos) (ab ax f g):=
 eu (adO adi az ae aA) (oE (by
  intro O F H x y t fe e0 Q d aS bz e k;unfold ax at e;split at e
  ·obtain⟨wJ,vs,rfl,aA,aw⟩:=aS.tup;rw[bz.int];simp only[eH,c0] at e;obtain⟨j,dG,cm⟩:=e;obtain⟨v,bj,b3⟩:=aw.get cm;refine .inr (.inl ⟨_,_,_,v,rfl,rfl,aA,?_,k _ F H (Ext.refl d) b3⟩);rw[aw.length] at dG;show (pe _ _).bind _=_;rw[show pe vs.length _=some j from dG];exact bj
  ·obtain⟨wJ,vs,rfl,aA,aw⟩:=aS.lst;rw[bz.int];simp only[eH,c0] at e;obtain⟨j,dG,cm⟩:=e;obtain⟨v,bj,b3⟩:=aw.get cm;refine .inl ⟨_,_,_,v,rfl,rfl,.inl aA,?_,k _ F H (Ext.refl d) b3⟩;rw[aw.length] at dG;show (pe _ _).bind _=_;rw[show pe vs.length _=some j from dG];exact bj
  ·split at e
   next hz=>
    rw[aS.str,bz.int];simp only[gh] at e;obtain⟨c,au,rfl⟩:=e;exact .inr (.inr ⟨_,_,c,rfl,rfl,by rw[m'];exact hz,au,k _ F H (Ext.refl d) (by simp[Rep])⟩)
   next=>cases e
  ·cases e))
end
end
section
variable [bX]
noncomputable def wu(K:bc)(aO:ai->Prop)(aN:jT)(O F:ai->Prop)(H:aD)(D:Ends):Out->Prop
|.nx ε'=>∀bI aL ah,eG K F H aL ah->c8 K aO aN O aL ah ε' bI->D.nx bI ah
|.dn t=>∀v aL ah,Ext aO aN.h aL ah->Rep K aL ah t v->D.dn v ah
|.kS t ε'=>∀v bI aL ah,c8 K aO aN O aL ah ε' bI->Rep K aL ah t v->D.dn v ah
|.pn s=>∀a aL ah,Ext aO aN.h aL ah->gS K aN O aL ah s (.ref a)->D.dn (.ref a) ah
|.gF ε'=>∀bI aL ah,eG K F H aL ah->c8 K aO aN O aL ah ε' bI->D.gF bI ah
|.b_ ε'=>∀bI aL ah,eG K F H aL ah->c8 K aO aN O aL ah ε' bI->D.b_ bI ah
def Jy(K:bc)(g:ba):hr:=λD σ H=>∃aO aN O F ε o,c8 K aO aN O F H ε σ/\g ε=some o/\wu K aO aN O F H D o
abbrev mi(X:a5)(s:Stmt)(g:ba):Prop:=mh X s (Jy X.K g)
abbrev kr(X:a5)(s:List Stmt)(g:ba):Prop:=gV X s (Jy X.K g)
def wu.aK{K:bc}{aO O F a6:ai->Prop}{aN:jT}{H H1:aD}{D:Ends}{o:Out}(h:wu K aO aN O F H D o)(x:eG K F H a6 H1):wu K aO aN O a6 H1 D o:=by
 cases o with
|nx ε=>exact λbI aL ah k r=>h bI aL ah (x.trans k) r
|dn t=>exact h
|gF ε=>exact λbI aL ah k r=>h bI aL ah (x.trans k) r
|b_ ε=>exact λbI aL ah k r=>h bI aL ah (x.trans k) r
|kS t ε=>exact h
|pn s=>exact h
section
variable {X:a5}{e a b c:a8}{f:aY}{g g':ba}{d7:ek}{st:Stmt}{rest:List Stmt}{pos:Pos}
def dZ:kr X [] skip:=LS Ly λD σ H ⟨aO,aN,O,F,ε,o,r,e,k⟩=>by
 cases e
 exact k σ F H eG.refl r
def bR(h:mi X st g):kr X [st] g:=FZ h
def cC(af:mi X st g)(ao:kr X rest g'):kr X (st::rest) (seq g g'):=LS (FL af ao) λD σ H ⟨aO,aN,O,F,ε,o,r,e,k⟩=>by
 simp only[seq,c0] at e;obtain⟨du,aC,aR⟩:=e;refine⟨aO,aN,O,F,ε,du,r,aC,?_⟩;cases du with
|nx ε'=>exact λbI aL ah x bU=>⟨aO,aN,O,aL,ε',o,bU,aR,k.aK x⟩
|dn t=>
  cases aR
  exact k
|gF ε'=>
  cases aR
  exact k
|b_ ε'=>
  cases aR
  exact k
|kS t ε'=>
  cases aR
  exact k
|pn s=>
  cases aR
  exact k
def b5(h:cf X e f):mi X (.Return (some e) pos) (aW f):=tg (za h) λD σ H ⟨aO,aN,O,F,ε,o,r,e,k⟩=>by
 simp only[aW,gh] at e;obtain⟨t,cm,rfl⟩:=e;exact⟨aO,aN,O,F,ε,t,r,cm,λv aL ah x q=>k v aL ah (r.ent.trans x) q⟩
def acw(i:Nat){x:Str}{Tr:Pos}(ea:X.N[i]?=some x:=by rfl)(bj:oR X.env.scope x:=by first|exact Or.inl rfl|exact Or.inr (Or.inl rfl)|exact Or.inr (Or.inr rfl))(hd:(x==("__debug__":Str))=false:=by decide)
  (eB:(x==("__classdict__":Str))=false:=by decide):mi X (.Return (some (.Name x Tr)) pos) (aW (nm i)):=tg (za (sa i ea bj hd eB)) λD σ H ⟨aO,aN,O,F,ε,o,r,e,k⟩=>by
 simp only[aW,gh] at e;obtain⟨t,cm,rfl⟩:=e;unfold nm at cm;split at cm
 next t' he=>
  cases cm
  obtain⟨v,af,ao⟩:=r.val _ _ he;exact⟨v,af,k v F H r.ent ao⟩
 next ts he=>
  cases cm
  obtain⟨v,af,a,vs,rfl,n,h0,az,q⟩:=r.val _ _ he;have cu:=r.ent;have y:Ext aO aN.h (λb=>F b\/b=a) H:=⟨cu.same,λb z=>.inl (cu.sub b z),λb z=>by
   rcases z with z|rfl
   ·exact cu.new b z
   ·exact .inr (r.o0 _ h0),⟨λb z=>by
   rcases z with z|rfl
   ·exact cu.cB b z
   ·exact⟨_,az⟩,cu.cB.mT⟩⟩
  refine⟨_,af,k _ _ H y ?_⟩
  simp only[Rep];exact⟨a,vs,rfl,.inr rfl,.inl az,q.keep (λ_ _ z=>z) λb _ z w=>⟨.inl z,w⟩⟩
 next=>cases cm
def dW(au:jt X c d7)(az:kr X rest g){tT:List Stmt}(ae:kr X tT g'):mi X (.If c rest tT pos) (iff d7 g g'):=tg (Mu au az ae) λD σ H ⟨aO,aN,O,F,ε,o,r,e,k⟩=>by
 simp only[iff,c0] at e;obtain⟨b,i0,e⟩:=e;refine⟨aO,aN,O,F,ε,b,r,i0,λaL ah x=>?_⟩;cases b with
|true=>exact uy ⟨aO,aN,O,aL,ε,o,r.ext x,by simpa using e,k.aK x.aK⟩
|false=>exact ux ⟨aO,aN,O,aL,ε,o,r.ext x,by simpa using e,k.aK x.aK⟩
def fh(i:Nat){x:Str}{pos':Pos}(ea:X.N.Nodup)(he:cf X e f)(hi:X.N[i]?=some x:=by rfl)(hx:Loc X.env.scope x:=by first|exact Or.inl rfl|exact Or.inr rfl)
  (aA:swapsWith e (some (.Name x pos')) pos.line X.env=pure false:=by rfl) (hf:X.fn x=true\/X.env.scope.names.lookup x=some .local:=by first|exact .inl rfl|exact .inr rfl):
  mi X (.Assign [.Name x pos'] e pos) (asg i f):=tg (L0 ea hi hx he aA hf) λD σ H ⟨aO,aN,O,F,ε,o,r,e,k⟩=>by
 simp only[asg,gh] at e;obtain⟨t,cm,rfl⟩:=e;refine⟨aO,aN,O,F,ε,t,r,cm,λv aL ah x q=>?_⟩;exact k _ aL ah x.aK ((r.ext x).set i q)
def Xh(K:bc)(g:f7):lg:=λv σ H Q=>∃aO aN O F ε t ε',c8 K aO aN O F H ε σ/\Rep K F H t v/\g t ε=some ε'/\∀bI,c8 K aO aN O F H ε' bI->Q bI H
def Xi(K:bc)(eo:List f7):nB:=λvs σ H Q=>∃aO aN O F ε ts ε',c8 K aO aN O F H ε σ/\bf K F H ts vs/\fG eo ts ε=some ε'/\∀bI,c8 K aO aN O F H ε' bI->Q bI H
abbrev k_(X:a5)(e:a8)(g:f7):Prop:=oQ X e (Xh X.K g)
abbrev wH(X:a5)(av:List a8)(eo:List f7):Prop:=pZ X av (Xi X.K eo)
def Mn{X:a5}{e:a8}{t t':lg}(h:oQ X e t)(k:∀v σ H Q,t' v σ H Q->t v σ H Q):oQ X e t':=λag s σ H v u Q I r q=>h ag s σ H v u Q I r (k v σ H Q q)
def LU{X:a5}{e:List a8}{t t':nB}(h:pZ X e t)(k:∀v σ H Q,t' v σ H Q->t v σ H Q):pZ X e t':=λag s σ H v u Q I r q=>h ag s σ H v u Q I r (k v σ H Q q)
def d_(i:Nat){x:Str}(ea:X.N.Nodup)(hi:X.N[i]?=some x:=by rfl)(hx:Loc X.env.scope x:=by first|exact Or.inl rfl|exact Or.inr rfl)
  (hf:X.fn x=true\/X.env.scope.names.lookup x=some .local:=by first|exact .inl rfl|exact .inr rfl):k_ X (.Name x pos) (aX i):=Mn (abP ea hi hx hf) λv σ H Q ⟨aO,aN,O,F,ε,t,ε',r,q,e,k⟩=>by
 cases e
 exact k _ (r.set i q)
def rq:wH X [] []:=LU abO λvs σ H Q ⟨aO,aN,O,F,ε,ts,ε',r,q,e,k⟩=>by
 cases ts with
|nil=>
  cases e
  simp only[bf] at q;exact⟨q,k σ r⟩
|cons t ts=>cases e
def jl{av:List a8}{g:f7}{eo:List f7}(af:k_ X e g)(ao:wH X av eo)(aA:(l3 (e::av) X.env).map (·.2)=assign e X.env::(l3 av X.env).map (·.2):=by rfl):wH X (e::av) (g::eo):=
 LU (aa4 af ao aA) λvs σ H Q ⟨aO,aN,O,F,ε,ts,ε',r,q,e,k⟩=>by
 cases ts with
|nil=>cases e
|cons t ts=>
  simp only[fG,c0] at e;obtain⟨km,aC,aR⟩:=e;simp only[bf] at q;obtain⟨v,EH,rfl,aT,bg⟩:=q;exact⟨v,EH,rfl,aO,aN,O,F,ε,t,km,r,aT,aC,λMH a'=>⟨aO,aN,O,F,km,ts,ε',a',bg,aR,k⟩⟩
theorem Lg:∀{eo:List f7} {ts:List T} {ε ε':Ev},fG eo ts ε=some ε'->ts.length=eo.length
| [],[],_,_,_=>rfl
| [],_::_,_,_,h=>by cases h
|_::_,[],_,_,h=>by cases h
|g::eo,t::ts,ε,ε',h=>by
  simp only[fG,c0] at h;obtain⟨km,_,h⟩:=h;simp[Lg h]
def rp{av:List a8}{k:Nat}{eo:List f7}(h:wH X av eo)(au:X.calm=true:=by rfl)(a_:(l3 av X.env).length=eo.length:=by rfl)(nZ:(l3 av X.env).findIdx? (·.1)=none:=by rfl):
  k_ X (.Tuple av k pos) (dg eo):=Mn (acM au h a_ nZ) λv σ H Q ⟨aO,aN,O,F,ε,t,ε',r,q,e,k⟩=>by
 unfold dg at e;split at e
 next ts=>
  simp only[Rep] at q;obtain⟨a,vs,rfl,aA,aw⟩:=q;exact⟨a,vs,rfl,aA,by rw[<- aw.length];exact Lg e,aO,aN,O,F,ε,ts,ε',r,aw,e,k⟩
 next=>cases e
def acx{b4:a8}{g:f7}(he:cf X e f)(aU:k_ X b4 g)(aA:swapsWithSole [b4] e pos.line X.env=pure false:=by rfl)(hw:swappedStores [b4] e X.env=pure none:=by rfl)
  (af:(l3 [b4] X.env).map (·.2)=[assign b4 X.env]:=by rfl):mi X (.Assign [b4] e pos) (hV g f):=tg (acK he aU aA hw af) λD σ H ⟨aO,aN,O,F,ε,o,r,e,k⟩=>by
 simp only[hV,c0,gh] at e;obtain⟨t,cm,ε',lz,rfl⟩:=e;refine⟨aO,aN,O,F,ε,t,r,cm,λv aL ah x q=>?_⟩;exact⟨aO,aN,O,aL,ε,t,ε',r.ext x,q,lz,λbI bU=>k bI aL ah x.aK bU⟩
structure mf(K:bc)(J:iP)(a6:ai->Prop)(H1:aD)(ts:List T):Prop where
 go:∀i F H t,eG K a6 H1 F H->fj F H->ts[i]?=some t->J.go i H
 kb:∀i F H t x ah,eG K a6 H1 F H->fj F H->ts[i]?=some t->J.kb i H x ah->∃aL,Ext F H aL ah/\Rep K aL ah t x
 stop:∀i F H,eG K a6 H1 F H->ts.length<=i->J.stop i H
def Xj(K:bc)(f:gU):TI:=λσ H R=>∃aO aN O F ε ts,c8 K aO aN O F H ε σ/\f ε=some ts/\∀J aL ah,Ext F H aL ah->mf K J aL ah ts->R J ah
abbrev la(X:a5)(b4 e:a8)(f:gU):Prop:=k' X b4 e (Xj X.K f)
def v3{X:a5}{b4 e:a8}{t t':TI}(h:k' X b4 e t)(k:∀σ H R,t' σ H R->t σ H R):k' X b4 e t':=λag s σ H R I q=>h ag s σ H R I (k σ H R q)
def aae{K:bc}{a:ai}{a6:ai->Prop}{H1:aD}{ts:List T}{vs:List V}(bZ:a6 a)(aw:fk H1 a (.lst vs))(q:bf K a6 H1 ts vs):mf K (zI K a) a6 H1 ts where
 go:=λi F H t aK d e=>by
  obtain⟨v,af,_⟩:=q.get e;exact⟨vs,v,.inl (aK.lst _ _ bZ aw).2,af⟩
 kb:=λi F H t x ah aK d e y=>by
  obtain⟨rfl,y⟩:=y;obtain⟨v,af,ao⟩:=(q.aK aK).get e;have:=y vs (.inl (aK.lst _ _ bZ aw).2);rw[af] at this;cases this;exact⟨F,Ext.refl d,ao⟩
 stop:=λi F H aK aF=>⟨vs,.inl (aK.lst _ _ bZ aw).2,by rw[<- q.length];exact aF⟩
def abg{K:bc}{a:ai}{a6:ai->Prop}{H1:aD}{ts:List T}{vs:List V}(aw:cW K H1 a vs)(q:bf K a6 H1 ts vs):mf K (zJ K a) a6 H1 ts where
 go:=λi F H t aK d e=>by
  obtain⟨v,af,_⟩:=q.get e;exact⟨vs,v,aK.tup _ _ aw,af⟩
 kb:=λi F H t x ah aK d e y=>by
  obtain⟨rfl,y⟩:=y;obtain⟨v,af,ao⟩:=(q.aK aK).get e;have:=y vs (aK.tup _ _ aw);rw[af] at this;cases this;exact⟨F,Ext.refl d,ao⟩
 stop:=λi F H aK aF=>⟨vs,aK.tup _ _ aw,by rw[<- q.length];exact aF⟩
def FY(lo hi:Int):(kR lo hi).length=(hi - lo).toNat:=by simp[kR]
def abi{K:bc}{a6:ai->Prop}{H1:aD}(lo hi:Int):mf K (wA lo (hi - lo).toNat) a6 H1 (kR lo hi) where
 go:=λi F H t aK d e=>by
  have h:=(e2.mp e).1;rw[FY] at h;exact h
 kb:=λi F H t x ah aK d e y=>by
  obtain⟨rfl,rfl⟩:=y;refine⟨F,Ext.refl d,?_⟩;have h:=(e2.mp e).1;rw[FY] at h;unfold kR at e;rw[kW,List.getElem?_range h] at e;simp at e;subst e;simp[Rep]
 stop:=λi F H aK aF=>by
  rw[FY] at aF;exact aF
def Mb{b4 a:a8}{f:aY}{p pos:Pos}(hm:X.mg "range"=none)(az:dU X a f)(aU:ee X "range":=by rfl)(aA:bQ [a] X.env=[(false,eval a X.env)]:=by rfl)(fB:bQ [a] X.env=(false,eval a X.env)::bQ [] X.env:=by rfl):
  la X b4 (.Call (.Name "range" p) [a] [] pos) (iI f):=v3 (_O aU hm (iG az l_ fB) aA) λσ H R ⟨aO,aN,O,F,ε,ts,r,e,k⟩=>by
 simp only[iI,c0] at e;obtain⟨t,cm,e⟩:=e;split at e
 next j=>
  split at e
  next hz=>
   cases e
   refine⟨aO,aN,O,F,ε,_,r,cm,λv aL ah x q=>⟨j,by rw[q.int],?_,?_,k _ aL ah x (by simpa using abi 0 j)⟩⟩
   ·simp[sW] at hz;omega
   ·simp[sW] at hz;omega
  next=>cases e
 next=>cases e
def oI{b4 iter:a8}{body:List Stmt}{it:gU}{gH:f7}{p8:ba}(aE:PassesOwn (bh X.prog X.w) X.A X.env X.dv)(hi:la X b4 iter it)(aU:k_ X b4 gH)(ae:kr X body p8)(au:X.calm=true:=by rfl)
  (aA:∀x,q1 iter X.env x=pure x:=by intro _;rfl):mi X (.For b4 iter body [] pos) (c1 it gH p8):=tg (acJ aE au hi aU ae aA) λD σ H ⟨aO,aN,O,F,ε,o,r,e,k⟩=>by
 simp only[c1,c0] at e;obtain⟨ts,cm,e⟩:=e;refine⟨aO,aN,O,F,ε,ts,r,cm,λJ a6 H1 a3 ok=>?_⟩;refine⟨λi m bI ah=>m=ts.length - i/\i<=ts.length/\∃aL ε' ,eG X.K a6 H1 aL ah/\c8 X.K aO aN O aL ah ε' bI/\forL gH p8 (ts.drop i) ε'=some o,⟨_,rfl,jK _,a6,ε,eG.refl,r.ext a3,by simpa using e⟩,?_⟩;rintro i m bI ah ⟨rfl,mK,aL,ε',aK,bU,b7⟩;by_cases dz:i<ts.length
 ·have hd:ts.drop i=ts[i]::ts.drop (i+1):=List.drop_eq_getElem_cons dz;have uj:ts[i]?=some ts[i]:=ft dz;rw[hd] at b7;simp only[forL,c0] at b7;obtain⟨km,lz,du,i0,b7⟩:=b7;refine .inr ⟨ok.go i aL ah _ aK bU.cB uj,λGw bt=>∃n6,n6<ts.length - i/\(n6=ts.length - (i+1)/\i+1<=ts.length/\∃d0 iN,eG X.K a6 H1 d0 bt/\c8 X.K aO aN O d0 bt iN Gw/\forL gH p8 (ts.drop (i+1)) iN=some o),λ_ _ z=>z,λx bt y=>?_⟩;obtain⟨d0,cu,aS⟩:=ok.kb i aL ah _ x bt aK bU.cB uj y;refine⟨aO,aN,O,d0,ε',_,km,bU.ext cu,aS,lz,λmb i'=>⟨aO,aN,O,d0,km,du,i',i0,?_⟩⟩;have Dg:eG X.K a6 H1 d0 bt:=aK.trans cu.aK;cases du with
  |nx iN=>exact λGx ih hP h5 jD=>⟨_,by omega,rfl,dz,ih,iN,Dg.trans h5,jD,b7⟩
  |b_ iN=>exact λGx ih hP h5 jD=>⟨_,by omega,rfl,dz,ih,iN,Dg.trans h5,jD,b7⟩
  |gF iN=>
   cases b7
   exact λGx ih hP h5 jD=>k Gx ih hP ((a3.aK.trans Dg).trans h5) jD
  |dn t=>
   cases b7
   exact k
  |kS t iN=>
   cases b7
   exact k
  |pn s=>
   cases b7
   exact k
 ·have hd:ts.drop i=[]:=List.drop_eq_nil_of_le (by omega);rw[hd] at b7;cases b7;exact .inl ⟨ok.stop i aL ah aK (by omega),k bI aL ah (a3.aK.trans aK) bU⟩
end
end
section
variable [bX]
section
variable {X:a5}{a b c e:a8}{av:List a8}{f g h:aY}{fs:List aY}{d7 gt:ek}{pos p:Pos}
def fg:nu X [] []:=zf l_ λσ H Q ⟨aO,aN,O,F,ε,ts,r,e,k⟩=>by
 cases e
 exact k [] F H (Ext.refl r.cB) .nil
def eV(az:dU X e f)(aw:nu X av fs)(aA:bQ (e::av) X.env=(false,eval e X.env)::bQ av X.env:=by rfl):nu X (e::av) (f::fs):=zf (iG az aw aA) λσ H Q ⟨aO,aN,O,F,ε,ts,r,e,k⟩=>by
 simp only[args,c0,gh] at e;obtain⟨t,cm,us,gq,rfl⟩:=e;refine⟨aO,aN,O,F,ε,t,r,cm,λv a6 H1 a3 aT=>⟨aO,aN,O,a6,ε,us,r.ext a3,gq,λvs d0 bt cu bg=>?_⟩⟩;exact k _ d0 bt (a3.trans cu) (.cons (aT.ext cu) bg)
def a9:nv X [] []:=zf l_ λσ H Q ⟨aO,aN,O,F,ε,ts,r,e,k⟩=>by
 cases e
 exact k [] F H (Ext.refl r.cB) bf.nil
def ay(az:cf X e f)(aw:nv X av fs)(aA:bQ (e::av) X.env=(false,eval e X.env)::bQ av X.env:=by rfl):nv X (e::av) (f::fs):=zf (iG az aw aA) λσ H Q ⟨aO,aN,O,F,ε,ts,r,e,k⟩=>by
 simp only[args,c0,gh] at e;obtain⟨t,cm,us,gq,rfl⟩:=e;refine⟨aO,aN,O,F,ε,t,r,cm,λv a6 H1 a3 aT=>⟨aO,aN,O,a6,ε,us,r.ext a3,gq,λvs d0 bt cu bg=>?_⟩⟩;exact k _ d0 bt (a3.trans cu) (bf.cons (aT.ext cu) bg)
def dy{a3}(h:nv X av fs):cf X (.Tuple av a3 pos) (aJ fs):=eu (L1 h) λσ H Q ⟨aO,aN,O,F,ε,t,r,e,k⟩=>by
 simp only[aJ,c0] at e;obtain⟨ts,cm,e⟩:=e;split at e
 next hz=>
  cases e
  refine⟨aO,aN,O,F,ε,ts,r,cm,λvs a6 H1 a3 aT=>⟨by rw[m',<- aT.length];exact hz,λp aE=>?_⟩⟩
  have cu:=Ext.laid (o:=.tup vs) a3.cB aE;refine k _ a6 _ (a3.trans cu) ?_;simp only[Rep];exact⟨p,vs,rfl,cW.of es,aT.ext cu⟩
 next=>cases e
def adI(h:nv X av fs):zO X (.List av pos) (da fs):=eu (acR h) λσ H Q ⟨aO,aN,O,F,ε,us,r,e,k⟩=>by
 simp only[da,c0] at e;obtain⟨ts,cm,e⟩:=e;split at e
 next hz=>
  cases e
  refine⟨aO,aN,O,F,ε,_,r,cm,λvs a6 H1 a3 aT=>⟨by rw[m',<- aT.length];exact hz,λp aE=>?_⟩⟩
  have cu:=Ext.laid (o:=.lst vs) a3.cB aE;refine k p vs a6 _ (a3.trans cu) ?_ ?_ es (aT.ext cu)
  ·exact a3.same.none aE
  ·intro bB;obtain⟨o,jv⟩:=a3.cB p bB;rw[aE] at jv;cases jv
 next=>cases e
def vJ(h:nv X av fs):cf X (.List av pos) (da fs):=IT (adI h) λε t e=>by
 simp only[da,c0] at e;obtain⟨ts,cm,e⟩:=e;split at e
 ·cases e
  exact⟨_,rfl⟩
 ·cases e
mutual
theorem K_{F:ai->Prop}{ag:List (ai×Obj)}{σ:bu.St}{H:aD}{s:aG}(I:Inv X ag σ H s):∀{t:T} {v:V} {u:aj},Rep X.K F H t v->RelV v u->∃as,Reads s.heap u t as
|.none,v,u,h,r=>by
  simp only[Rep] at h;subst h;cases r;exact⟨_,.none⟩
|.bool b,v,u,h,r=>by
  simp only[Rep] at h;subst h;cases r;exact⟨_,.bool b⟩
|.int i,v,u,h,r=>by
  simp only[Rep] at h;subst h;obtain⟨t,rfl⟩:=r;exact⟨_,.int i t⟩
|.str x,v,u,h,r=>by
  simp only[Rep] at h;subst h;obtain⟨t,rfl⟩:=r;exact⟨_,.str x t⟩
|.dict _,v,u,h,r=>by simp[Rep] at h
|.tuple ts,v,u,h,r=>by
  simp only[Rep] at h;obtain⟨a,vs,rfl,aA,aw⟩:=h;cases r;obtain⟨its,b3,⟨o,af,ao,n,bA⟩,hz⟩:=I.tuple aA;obtain⟨as,jF⟩:=yT I aw b3;exact⟨_,.tuple af ao bA (by simpa using jF)⟩
|.list ts,v,u,h,r=>by
  simp only[Rep] at h;obtain⟨a,vs,rfl,bZ,aA,aw⟩:=h;cases r;obtain⟨z,its,n,b3,aF,e⟩:=Inv.uD I aA;obtain⟨as,jF⟩:=yT I aw b3;exact⟨_,.list e rfl rfl (by simpa using jF)⟩
theorem yT{F:ai->Prop}{ag:List (ai×Obj)}{σ:bu.St}{H:aD}{s:aG}(I:Inv X ag σ H s):∀{ts:List T} {vs:List V} {us:List aj},bf X.K F H ts vs->Vals vs us->∃as,ReadsAll s.heap us ts as
| [],vs,us,h,r=>by
  simp only[bf] at h;subst h;cases r;exact⟨_,.nil⟩
|t::ts,vs,us,h,r=>by
  simp only[bf] at h;obtain⟨v,EH,rfl,af,ao⟩:=h;cases r with
  |cons a' cL=>
   obtain⟨as,aT⟩:=K_ I af a';obtain⟨bs,bg⟩:=yT I ao cL;exact⟨_,.cons aT bg⟩
end
def q_{O F:ai->Prop}{ag:List (ai×Obj)}{σ:bu.St}{H:aD}{s:aG}(I:Inv X ag σ H s){t:T}{v:V}{u:aj}(h:e4 X.K O F H t v)(r:RelV v u):∃as,Reads s.heap u t as:=by
 rcases h with h|⟨ts,a,vs,rfl,rfl,az,h⟩
 ·exact K_ I h r
 ·cases r
  obtain⟨z,its,n,b3,aF,e⟩:=Inv.uD I (.inl az);obtain⟨as,jF⟩:=yT I h b3;exact⟨_,.list e rfl rfl (by simpa using jF)⟩
def vO{t:T}(h:dI t=true):t.canLay0=true/\t.depth<=60:=by
 simp only[dI,cJ,decide_eq_true_eq] at h;exact h
def ac6{t:List T}(h:n8 t=true):iA t=true/\h_ t<=60:=by
 simp only[n8,cJ,decide_eq_true_eq] at h;exact h
noncomputable def zk(K:bc)(n:Bool):eX:=λx y H Q=>∃(O F:ai->Prop) (s t:T),e4 K O F H s x/\e4 K O F H t y/\dI s=true/\dI t=true/\Q (.bL (if n then !PyData.eqv s t else fu s t)) H
def L4(bw:X.A.units+64<cLine):d1 X (fZ .Eq) (zk X.K false):=by
 intro ag s σ H x y v u Q I aS bz ⟨O,F,d,t,af,ao,du,fa,q⟩;obtain⟨as,jF⟩:=q_ I af aS;obtain⟨bs,qM⟩:=q_ I ao bz;obtain⟨dc,cE⟩:=vO du;obtain⟨eO,cF⟩:=vO fa;refine SeqAt.compareEq_reads jF qM dc eO (by have:=Nat.min_le_left d.depth t.depth;omega) ?_;exact⟨.bL _,H,I,rfl,q⟩
def ac1(bw:X.A.units+64<cLine):d1 X (fZ .NotEq) (zk X.K true):=by
 intro ag s σ H x y v u Q I aS bz ⟨O,F,d,t,af,ao,du,fa,q⟩;obtain⟨as,jF⟩:=q_ I af aS;obtain⟨bs,qM⟩:=q_ I ao bz;obtain⟨dc,cE⟩:=vO du;obtain⟨eO,cF⟩:=vO fa;refine SeqAt.compareNe_reads jF qM dc eO (by have:=Nat.min_le_left d.depth t.depth;omega) ?_;exact⟨.bL _,H,I,rfl,q⟩
def oJ{op:CmpOp}{R:eX}{o:T->T->Option T}(aQ:d1 X (fZ op) R)(ao:k8 X.K o R)(az:dU X a f)(ae:dU X b g)(hm:m2 op b=false:=by first|exact L8 _|rfl):cf X (.Compare a [op] [b] pos) (ab o f g):=eu (abQ aQ az ae hm) (oE ao)
def kh{op:CmpOp}{R:eX}{o:T->T->Option T}(aQ:d1 X (fZ op) R)(ao:k8 X.K o R)(az:dU X a f)(ae:dU X b g)(hm:m2 op b=false:=by first|exact L8 _|rfl):jt X (.Compare a [op] [b] pos) (aP (ab o f g)):=
 vZ (abJ aQ az ae hm) λσ H Q ⟨aO,aN,O,F,ε,b,r,e,k⟩=>by
 simp only[aP,c0] at e;obtain⟨t,cm,e⟩:=e;split at e
 ·cases e
  refine oE ao σ H _ ⟨aO,aN,O,F,ε,_,r,cm,λv aL ah x q=>?_⟩
  simp only[Rep] at q;exact⟨_,q,k aL ah x⟩
 ·cases e
def L6:k8 X.K oEq (zk X.K false):=by
  intro O F H x y t fe e0 Q d aS bz e k;unfold oEq at e;split at e
  next hz=>
   cases e
   rw[cJ] at hz;exact⟨O,F,x,y,aS,bz,hz.1,hz.2,k _ F H (Ext.refl d) (by simp[Rep])⟩
  next=>cases e
def ac5:k8 X.K eC (zk X.K true):=by
  intro O F H x y t fe e0 Q d aS bz e k;unfold eC at e;split at e
  next hz=>
   cases e
   rw[cJ] at hz;exact⟨O,F,x,y,aS,bz,hz.1,hz.2,k _ F H (Ext.refl d) (by simp[Rep])⟩
  next=>cases e
noncomputable def Jc(K:bc)(n:Bool):eX:=λx y H Q=>∃(O F:ai->Prop) (s:T) (ts:List T),e4 K O F H s x/\(e4 K O F H (.tuple ts) y\/e4 K O F H (.list ts) y)/\dI s=true/\n8 ts=true/\Q (.bL (if n then !lG s ts else lG s ts)) H
def pI(bw:X.A.units+64<cLine):d1 X (fZ .In) (Jc X.K false):=by
 intro ag s σ H x y v u Q I aS bz ⟨O,F,d,ts,af,ao,du,fa,q⟩;obtain⟨as,jF⟩:=q_ I af aS;obtain⟨dc,cE⟩:=vO du;obtain⟨eO,cF⟩:=ac6 fa;have hm:=Nat.min_le_left (h_ ts) d.depth;rcases ao with ao|ao
 ·obtain⟨bs,qM⟩:=q_ I ao bz;exact SeqAt.in_tuple_reads qM jF eO dc (by omega) ⟨.bL _,H,I,rfl,q⟩
 ·obtain⟨bs,qM⟩:=q_ I ao bz;exact SeqAt.in_list_reads qM jF eO dc (by omega) ⟨.bL _,H,I,rfl,q⟩
def pJ{n:Bool}:k8 X.K (gw n) (Jc X.K n):=by
 intro O F H x y t fe e0 Q d aS bz e k;unfold gw at e;split at e
 ·split at e
  next hz=>
   cases e
   rw[cJ] at hz;exact⟨O,F,x,_,aS,.inl bz,hz.1,hz.2,k _ F H (Ext.refl d) (by simp[Rep])⟩
  next=>cases e
 ·split at e
  next hz=>
   cases e
   rw[cJ] at hz;exact⟨O,F,x,_,aS,.inr bz,hz.1,hz.2,k _ F H (Ext.refl d) (by simp[Rep])⟩
  next=>cases e
 ·cases e
def vM:k8 X.K oLt (λx y H Q=>jE (λi j=>.bL (decide (i<j))) x y H Q\/∃i j,x=.str i/\y=.str j/\Q (.bL (decide (i.cps.toList<j.cps.toList))) H):=by
  intro O F H x y t fe e0 Q d aS bz e k;unfold oLt at e;split at e
  ·cases e
   rw[aS.int,bz.int];exact .inl ⟨_,_,rfl,rfl,k _ F H (Ext.refl d) (by simp[Rep])⟩
  ·cases e
   rw[aS.str,bz.str];exact .inr ⟨_,_,rfl,rfl,k _ F H (Ext.refl d) (by simp[Rep,strLt])⟩
  ·cases e
def yU:d1 X (fZ .LtE) (λx y H Q=>∃i j,x=.str i/\y=.str j/\Q (.bL (!strLt j i)) H):=by
 intro ag s σ H x y v u Q I aS bz ⟨i,j,aC,aR,q⟩;subst aC aR;obtain⟨t,rfl⟩:=aS;obtain⟨t',rfl⟩:=bz;exact PySem.P.le_str (vW I q (by simp[strLt]))
def KG:d1 X (fZ .GtE) (λx y H Q=>∃i j,x=.str i/\y=.str j/\Q (.bL (!strLt i j)) H):=by
 intro ag s σ H x y v u Q I aS bz ⟨i,j,aC,aR,q⟩;subst aC aR;obtain⟨t,rfl⟩:=aS;obtain⟨t',rfl⟩:=bz;exact PySem.P.ge_str (vW I q (by simp[strLt]))
def Fp:d1 X (fZ .Gt) (λx y H Q=>∃i j,x=.str i/\y=.str j/\Q (.bL (strLt j i)) H):=by
 intro ag s σ H x y v u Q I aS bz ⟨i,j,aC,aR,q⟩;subst aC aR;obtain⟨t,rfl⟩:=aS;obtain⟨t',rfl⟩:=bz;exact PySem.P.gt_str (vW I q (by simp[strLt]))
def zb:k8 X.K oLe (λx y H Q=>jE (λi j=>.bL (decide (i<=j))) x y H Q\/∃i j,x=.str i/\y=.str j/\Q (.bL (!strLt j i)) H):=by
 intro O F H x y t fe e0 Q d aS bz e k;unfold oLe at e;split at e
 ·cases e
  rw[aS.int,bz.int];exact .inl ⟨_,_,rfl,rfl,k _ F H (Ext.refl d) (by simp[Rep])⟩
 ·cases e
  rw[aS.str,bz.str];exact .inr ⟨_,_,rfl,rfl,k _ F H (Ext.refl d) (by simp[Rep])⟩
 ·cases e
def Gi:k8 X.K fU (λx y H Q=>jE (λi j=>.bL (decide (j<i))) x y H Q\/∃i j,x=.str i/\y=.str j/\Q (.bL (strLt j i)) H):=by
 intro O F H x y t fe e0 Q d aS bz e k;unfold fU at e;split at e
 ·cases e
  rw[aS.int,bz.int];exact .inl ⟨_,_,rfl,rfl,k _ F H (Ext.refl d) (by simp[Rep])⟩
 ·cases e
  rw[aS.str,bz.str];exact .inr ⟨_,_,rfl,rfl,k _ F H (Ext.refl d) (by simp[Rep])⟩
 ·cases e
def L5:k8 X.K mQ (λx y H Q=>jE (λi j=>.bL (decide (j<=i))) x y H Q\/∃i j,x=.str i/\y=.str j/\Q (.bL (!strLt i j)) H):=by
 intro O F H x y t fe e0 Q d aS bz e k;unfold mQ at e;split at e
 ·cases e
  rw[aS.int,bz.int];exact .inl ⟨_,_,rfl,rfl,k _ F H (Ext.refl d) (by simp[Rep])⟩
 ·cases e
  rw[aS.str,bz.str];exact .inr ⟨_,_,rfl,rfl,k _ F H (Ext.refl d) (by simp[Rep])⟩
 ·cases e
def y'(az:dU X a f)(ae:dU X b g)(au:dU X c h)(hm:lastMarks [.LtE,.LtE] [b,c]=false:=by with_unfolding_all rfl):cf X (.Compare a [.LtE,.LtE] [b,c] pos) (chain oLe oLe f g h):=
 eu (aa6 (zm.or yU) (zm.or yU) az ae au hm) λσ H Q ⟨aO,aN,O,F,ε,t,r,e,k⟩=>by
 simp only[chain,c0] at e;obtain⟨x,ex,y,hY,z,nN,e⟩:=e;refine⟨aO,aN,O,F,ε,x,r,ex,λfe a6 H1 a3 aS=>⟨aO,aN,O,a6,ε,y,r.ext a3,hY,λe0 d0 bt cu bz=>?_⟩⟩;refine zb (X:=X) O d0 bt x y z fe e0 _ cu.cB (aS.ext cu) bz nN λv ho dN dX c6=>?_;split at e
 ·simp only[Rep] at c6;subst c6;simp only[c0] at e;obtain⟨w,oX,ep⟩:=e;refine⟨true,rfl,uy ⟨aO,aN,O,ho,ε,w,((r.ext a3).ext cu).ext dX,oX,λsl ih hP gO qN=>?_⟩⟩;exact zb (X:=X) O ih hP y w t e0 sl _ gO.cB ((bz.ext dX).ext gO) qN ep λv iO hp j9 qJ=>k v iO hp ((((a3.trans cu).trans dX).trans gO).trans j9) qJ
 ·simp only[Rep] at c6;subst c6;cases e;exact⟨false,rfl,ux (k _ ho dN ((a3.trans cu).trans dX) (by simp[Rep]))⟩
 ·cases e
def Gr{j pos'}(az:dU X a f):cf X (.Compare a [.Is] [.Constant .none j pos'] pos) (bN hD f):=eu (acV (acY az)) λσ H Q ⟨aO,aN,O,F,ε,t,r,e,k⟩=>by
 simp only[bN,c0] at e;obtain⟨x,ex,e⟩:=e;cases e;refine⟨aO,aN,O,F,ε,x,r,ex,λv a6 H1 a3 aS=>k _ a6 H1 a3 ?_⟩;cases x with
|none=>rw[aS.gb];simp[Rep]
|bool b=>rw[aS.bL];simp[Rep]
|int b=>rw[aS.int];simp[Rep]
|str b=>rw[aS.str];simp[Rep]
|tuple b=>obtain⟨_,_,e,_⟩:=aS.tup;rw[e];simp[Rep]
|list b=>obtain⟨_,_,e,_⟩:=aS.lst;rw[e];simp[Rep]
|dict b=>rcases aS with aS|⟨_,_,_,z,_⟩;simp[Rep] at aS;cases z
def adF(az:dU X a f):cf X (.UnaryOp .USub a pos) (bN kM f):=eu (adM acp az) λσ H Q ⟨aO,aN,O,F,ε,t,r,e,k⟩=>by
 simp only[bN,c0] at e;obtain⟨x,ex,e⟩:=e;unfold kM at e;split at e
 ·cases e
  exact⟨aO,aN,O,F,ε,_,r,ex,λv a6 H1 a3 aS=>⟨_,aS.int,k _ a6 H1 a3 (by simp[Rep])⟩⟩
 ·cases e
noncomputable def NU(K:bc)(o:List T->Option T)(R:List V->aD->c5->Prop):Prop:=
 ∀(O F:ai->Prop) (H:aD) (ts:List T) (t:T) (vs:List V) (Q:c5),fj F H->Paired (e4 K O F H) ts vs->o ts=some t ->
  (∀v aL ah,Ext F H aL ah->Rep K aL ah t v->Q v ah)->R vs H Q
def sX{o:List T->Option T}{R:List V->aD->c5->Prop}(hR:NU X.K o R):∀σ H Q,mR X.K (aq o fs) σ H Q->Ey R (Jv X.K fs) σ H Q:=by
 rintro σ H Q ⟨aO,aN,O,F,ε,t,r,e,k⟩;simp only[aq,c0] at e;obtain⟨ts,cm,jv⟩:=e;exact⟨aO,aN,O,F,ε,ts,r,cm,λvs a6 H1 a3 q=>hR O a6 H1 ts t vs Q a3.cB q jv λv aL ah dX c6=>k v aL ah (a3.trans dX) c6⟩
def abB{u:aj}{r bU:List V->aD->c5->Prop}(af:hl X u r)(ao:hl X u bU):hl X u (λxs H Q=>r xs H Q\/bU xs H Q):=af.or ao
def jR(hm:X.mg "len"=none)(az:nu X (e::av) fs)(aU:ee X "len":=by rfl)(he:bQ (e::av) X.env=(false,eval e X.env)::bQ av X.env:=by rfl)(hpl:(gk pos (bQ av X.env)).any (·.1)=false:=by rfl):
  cf X (.Call (.Name "len" p) (e::av) [] pos) (aq de fs):=eu (vA (Y5.or Y4) aU hm PySem.boot_len az (he:=he) (hpl:=hpl)) (sX (by
 intro O F H ts t vs Q d q e k;unfold de at e;split at e
 ·cases e
  cases q with
  |cons aT bg=>
   cases bg
   obtain⟨a,ws,rfl,aA,aw⟩:=aT.tup;exact .inl ⟨a,ws,rfl,.inr aA,k _ F H (Ext.refl d) (by simp[Rep,aw.length])⟩
 ·cases e
  cases q with
  |cons aT bg=>
   cases bg
   obtain⟨a,ws,rfl,aA,aw⟩:=aT.lst;exact .inl ⟨a,ws,rfl,.inl (.inl aA),k _ F H (Ext.refl d) (by simp[Rep,aw.length])⟩
 ·split at e
  next hz=>
   cases e
   cases q with
   |cons aT bg=>
    cases bg
    exact .inr ⟨_,by rw[aT.str],by rw[m'];exact hz,k _ F H (Ext.refl d) (by simp[Rep])⟩
  next=>cases e
 ·cases e))
def adG(hm:X.mg "min"=none)(az:nu X (e::av) fs)(au:X.calm=true:=by rfl)(aU:ee X "min":=by rfl)(he:bQ (e::av) X.env=(false,eval e X.env)::bQ av X.env:=by rfl)(hpl:(gk pos (bQ av X.env)).any (·.1)=false:=by rfl):
  cf X (.Call (.Name "min" p) (e::av) [] pos) (aq lR fs):=eu (vA (aaw au) aU hm (by decide +kernel) az (he:=he) (hpl:=hpl)) (sX (by
 intro O F H ts t vs Q d q e k;unfold lR at e;split at e
 ·cases e
  cases q with
  |cons aT bg=>
   cases bg with
   |cons bg c6=>
    cases c6
    exact⟨_,_,by rw[aT.int,bg.int],k _ F H (Ext.refl d) (by simp[Rep])⟩
 ·cases e))
def adH(hm:X.mg "max"=none)(az:nu X (e::av) fs)(au:X.calm=true:=by rfl)(aU:ee X "max":=by rfl)(he:bQ (e::av) X.env=(false,eval e X.env)::bQ av X.env:=by rfl)(hpl:(gk pos (bQ av X.env)).any (·.1)=false:=by rfl):
  cf X (.Call (.Name "max" p) (e::av) [] pos) (aq lQ fs):=eu (vA (aax au) aU hm (by decide +kernel) az (he:=he) (hpl:=hpl)) (sX (by
 intro O F H ts t vs Q d q e k;unfold lQ at e;split at e
 ·cases e
  cases q with
  |cons aT bg=>
   cases bg with
   |cons bg c6=>
    cases c6
    exact⟨_,_,by rw[aT.int,bg.int],k _ F H (Ext.refl d) (by simp[Rep])⟩
 ·cases e))
def abH(hm:X.mg "tuple"=none)(az:nu X (e::av) fs)(aU:ee X "tuple":=by rfl)(he:bQ (e::av) X.env=(false,eval e X.env)::bQ av X.env:=by rfl)(hpl:(gk pos (bQ av X.env)).any (·.1)=false:=by rfl):
  cf X (.Call (.Name "tuple" p) (e::av) [] pos) (aq hI fs):=eu (Fo YA aU hm (by decide +kernel) az (he:=he) (hpl:=hpl)) (sX (by
 intro O F H ts t vs Q d q e k;unfold hI at e;split at e
 ·cases e
  cases q with
  |cons aT bg=>
   cases bg
   obtain⟨a,ws,rfl,aA,aw⟩:=aT.tup;refine⟨a,ws,rfl,.inr ⟨aA,k _ F H (Ext.refl d) ?_⟩⟩;simp only[Rep];exact⟨a,ws,rfl,aA,aw⟩
 ·cases e
  cases q with
  |cons aT bg=>
   cases bg
   obtain⟨a,ws,rfl,aA,aw⟩:=aT.lst;refine⟨a,ws,rfl,.inl ⟨.inl aA,λl aF=>?_⟩⟩;have a3:=Ext.laid (o:=.tup ws) d aF;refine k _ F _ a3 ?_;simp only[Rep];exact⟨l,ws,rfl,cW.of es,aw.ext a3⟩
 ·cases e))
def dx(h:dU X e f)(he:∀whole,isTrue e X.env whole=(do let v <- whole;standAt e.pos;holding [v] (truthy v)):=by intro _;rfl):jt X e (aP f):=vZ (acG h he) λσ H Q ⟨aO,aN,O,F,ε,b,r,e,k⟩=>by
 simp only[aP,c0] at e;obtain⟨t,cm,e⟩:=e;split at e
 ·cases e
  exact⟨aO,aN,O,F,ε,_,r,cm,λv a6 H1 a3 aS=>⟨_,aS.bL,k a6 H1 a3⟩⟩
 ·cases e
def acq{j pos'}(az:dU X a f):jt X (.Compare a [.IsNot] [.Constant .none j pos'] pos) (aP (bN fO f)):=vZ (acI (abS az)) λσ H Q ⟨aO,aN,O,F,ε,t,r,e,k⟩=>by
 simp only[aP,bN,fO,c0] at e;obtain⟨_,⟨x,ex,aC⟩,e⟩:=e;cases aC;cases e;refine⟨aO,aN,O,F,ε,x,r,ex,λv a6 H1 a3 aS=>⟨_,?_,k a6 H1 a3⟩⟩;cases x with
|none=>rw[aS.gb];simp
|bool b=>rw[aS.bL];simp
|int b=>rw[aS.int];simp
|str b=>rw[aS.str];simp
|tuple b=>obtain⟨_,_,e,_⟩:=aS.tup;rw[e];simp
|list b=>obtain⟨_,_,e,_⟩:=aS.lst;rw[e];simp
|dict b=>rcases aS with aS|⟨_,_,_,z,_⟩;simp[Rep] at aS;cases z
def dp(h:jt X e d7):jt X (.UnaryOp .Not e pos) (bD d7):=vZ (acH h) λσ H Q ⟨aO,aN,O,F,ε,b,r,e,k⟩=>by
 simp only[bD,gh] at e;obtain⟨c,ly,rfl⟩:=e;exact⟨aO,aN,O,F,ε,c,r,ly,λa6 H1 a3=>k a6 H1 a3⟩
def acm(h:jt X e d7):p2 X (.BoolOp .And [e] pos) d7:=abI h
def gE(h:jt X e d7):p2 X (.BoolOp .Or [e] pos) d7:=acE h
def w_and(h:jt X a d7)(ao:p2 X (.BoolOp .And (b::av) pos) gt):p2 X (.BoolOp .And (a::b::av) pos) (e6 d7 gt):=Ml (acF h ao) λσ H Q ⟨aO,aN,O,F,ε,b,r,e,k⟩=>by
 simp only[e6,c0] at e;obtain⟨c,ly,e⟩:=e;refine⟨aO,aN,O,F,ε,c,r,ly,λa6 H1 a3=>?_⟩;cases c with
|true=>exact uy ⟨aO,aN,O,a6,ε,b,r.ext a3,by simpa using e,λd0 bt cu=>k d0 bt (a3.trans cu)⟩
|false=>
  have:b=false:=by simpa using e.symm
  subst this;exact ux (k a6 H1 a3)
def w_or(h:jt X a d7)(ao:p2 X (.BoolOp .Or (b::av) pos) gt):p2 X (.BoolOp .Or (a::b::av) pos) (cc d7 gt):=Ml (adJ h ao) λσ H Q ⟨aO,aN,O,F,ε,b,r,e,k⟩=>by
 simp only[cc,c0] at e;obtain⟨c,ly,e⟩:=e;refine⟨aO,aN,O,F,ε,c,r,ly,λa6 H1 a3=>?_⟩;cases c with
|true=>
  have:b=true:=by simpa using e.symm
  subst this;exact uy (k a6 H1 a3)
|false=>exact ux ⟨aO,aN,O,a6,ε,b,r.ext a3,by simpa using e,λd0 bt cu=>k d0 bt (a3.trans cu)⟩
def gg(h:p2 X e d7):jt X e d7:=h.pt
end
end
section
variable [bX]
noncomputable def spT(K:bc)(n:Nat)(d:List T->Option T):mq:=λvs H Q _=>vs.length=n/\∃F ts t,fj F H/\bf K F H ts vs/\d ts=some t/\∀v aL ah,Ext F H aL ah->Rep K aL ah t v->Q v ah
section
variable {X:a5}{k n:Nat}{bZ:ai}{fd:e1}{ps:List Str}{d:List T->Option T}{x:Str}{p pos:Pos}{e:a8}{av:List a8}{fs:List aY}
def acD(F:fP X.prog X.w X.K X.mg X.base d9 k bZ fd ps (spT X.K n d))(aw:ef k X.A)(aU:ee X x)(hm:X.mg x=some (.ref bZ))(aV:oi X.K (.ref bZ)=true)(ae:Binds X.K fd ps [])
  (az:nv X (e::av) fs) (a_:fs.length=n:=by rfl) (g5:(x==("__debug__":Str))=false:=by decide) (he:bQ (e::av) X.env=(false,eval e X.env)::bQ av X.env:=by rfl) (hpl:(gk pos (bQ av X.env)).any (·.1)=false:=by rfl):
  cf X (.Call (.Name x p) (e::av) [] pos) (aq d fs):=eu (abR F aw aU hm aV ae .nil adQ az g5 he hpl) λσ H Q ⟨aO,aN,O,F,ε,t,r,e,k⟩=>by
 simp only[aq,c0] at e;obtain⟨ts,cm,tR⟩:=e;have aF:∀(eo:List aY) (us:List T),args eo ε=some us->us.length=eo.length:=by
  intro eo
  induction eo with
  |nil=>intro us e;cases e;rfl
  |cons g eo cK=>
   intro us e;simp only[args,c0,gh] at e;obtain⟨t,_,vs,ev,rfl⟩:=e;simp[cK vs ev]
 refine⟨aO,aN,O,F,ε,ts,r,cm,λvs a6 H1 a3 q=>⟨?_,a6,ts,t,a3.cB,by simpa using q,tR,λv aL ah cu bg=>k v aL ah (a3.trans cu) bg⟩⟩
 rw[pz,<- q.length,aF fs ts cm,a_]
end
section
variable {P:cH}{w:bY}{K:bc}{mg:Str->Option aj}{base:bk}
def Ki{F:ai->Prop}{H:aD}{ts:List T}{vs:List V}{N:List Str}(cB:fj F H)(q:bf K F H ts vs)(n:Nat):
  c8 K F ⟨H,0⟩ (λa=>H a=none) F H ((ts.map λt=>some (.aa t))++jc n none) (vs.map some++jc n none):=by
 have aa:∀(i:Nat) (s:bW),((ts.map λt=>some (bW.aa t))++jc n none)[i]?=some (some s)->∃t,s=.aa t/\ts[i]?=some t:=by
  intro i s e;by_cases hi:i<ts.length
  ·rw[yb (by simpa using hi),kW] at e;rw[ft hi] at e ⊢;simp at e;exact⟨_,e.symm,rfl⟩
  ·rw[u5 (by simpa using hi),List.getElem?_replicate] at e;split at e <;> cases e
 refine⟨by simp[q.length],λi s e=>?_,λi j s u v w o6 aC aR du=>?_,Ext.refl cB,λ_ h=>h,λ_ h=>h⟩
 ·obtain⟨t,rfl,aM⟩:=aa i s e;obtain⟨v,bj,b3⟩:=q.get aM;refine⟨v,?_,b3⟩;rw[yb (by have:=(e2.mp bj).1;simpa using this),kW,bj];rfl
 ·obtain⟨t,rfl,_⟩:=aa i s aC;cases du
def ado{x qual:Str}{st:Stmt}{f:ai}{fd:e1}{N ps:List Str}{k:Nat}{b:ba}(F:cO K x qual st f fd)(S:c4 N ps (bJ st))
  (ae:∀(cy:aj) (A:cN) (outer:List Env) (s:aG) (H:aD) (E:hT),ef k (A.deeper (envOfC qual (bJ st) s.heap.objs.size f cy)) ->
   kr (gG d9 P w K mg base N qual (bJ st) f cy A outer s H E).hC (hb st) b):
  fP P w K mg base d9 (k+1) f fd ps (spT K ps.length (bE b N.length)):=by
 refine F.ok S (λvs H Q E h=>h.1) λcy A outer s H vs Q E aw h=>⟨_,ae cy A outer s H E aw,?_⟩
 obtain⟨aF,F,ts,t,cB,q,e,lM⟩:=h;simp only[bE,c0] at e;obtain⟨o,jv,e⟩:=e;refine⟨F,⟨H,0⟩,λa=>H a=none,F,_,o,?_,jv,?_⟩
 ·have:=Ki (N:=N) cB q (N.length - ts.length);unfold bu.start;rw[q.length] at this ⊢;exact this
 ·cases o with
  |dn t'=>
   cases e
   exact λv aL ah x q=>lM v aL ah x q
  |nx ε'=>
   cases e
   exact λbI aL ah _ r=>lM _ aL ah r.ent (by simp[Rep])
  |gF _=>cases e
  |b_ _=>cases e
  |kS _ _=>cases e
  |pn _=>cases e
def aak{f:ai}{fd:e1}{ps:List Str}{k n:Nat}:fP P w K mg base d9 k f fd ps (spT K n λ_=>none):=by
 have no:∀vs H Q E,¬spT K n (λ_=>none) vs H Q E:=λvs H Q E h=>by
  obtain⟨_,_,_,_,_,_,e,_⟩:=h;cases e
 exact⟨λvs H Q E h=>absurd h (no vs H Q E),λA outer s H args us vs Q E _ _ _ _ h=>absurd h (no vs H Q E)⟩
end
end
section
variable [bX]
noncomputable def e7(env:Env):List (Str×ka)->List (Str×ai)->List (Str×ai)
| [],cs=>cs
|x::r,cs=>if x.2==.free then e7 env r ((x.1,(env.cells.lookup x.1).getD 0)::cs) else e7 env r cs
def JM{scope:Scope}{env:Env}(h:∀x∈scope.names,x.2=.free->∃c,env.cells.lookup x.1=some c):closureFor scope env=pure (e7 env scope.names []):=by
 have go:∀(l:List (Str×ka)) (cs:List (Str×ai)),(∀x∈l,x.2=.free->∃c,env.cells.lookup x.1=some c) ->
   (forIn l cs (λx r=>(if (x.2==NameKind.free)=true then do let a <- cellOf env x.1;pure (ForInStep.yield ((x.1,a)::r)) else pure (ForInStep.yield r)):_->_->Sem (ForInStep (List (Str×ai)))):Sem (List (Str×ai)))=pure (e7 env l cs):=by
  intro l
  induction l with
  |nil=>intro cs _;rfl
  |cons x r cK=>
   intro cs aF;rw[List.forIn_cons];have aw:=λy bl=>aF y (gz _ bl);by_cases k:x.2=.free
   ·obtain⟨c,au⟩:=aF x mV k;have aC:(x.2==NameKind.free)=true:=by simp[k]
    simp only[aC,if_true,cellOf,au,e7,Option.getD_some];exact cK _ aw
   ·have aC:(x.2==NameKind.free)=false:=by simpa using k
    simp only[aC,je,if_false,e7];exact cK _ aw
 have:=go scope.names [] h;simp only[closureFor];exact congrArg (λm=>m >>= λcs=>pure cs) this
theorem vt{env:Env}:∀{l:List (Str×ka)} {cs:List (Str×ai)},(∀x∈l,x.2=.free->∃c,env.cells.lookup x.1=some c)->(∀x c,cs.lookup x=some c->env.cells.lookup x=some c)->∀x c,(e7 env l cs).lookup x=some c->env.cells.lookup x=some c
| [],cs,_,h,x,c,e=>h x c e
|y::r,cs,aF,h,x,c,e=>by
  unfold e7 at e;have aw:=λz hz=>aF z (gz _ hz);split at e
  next k=>
   refine vt aw (λx c e=>?_) x c e
   rw[l0] at e;split at e
   next ae=>
    obtain⟨bT,au⟩:=aF y mV (by simpa using k);have:x=y.1:=by simpa using ae
    subst this;rw[au] at e ⊢;simpa using e
   next=>exact h x c e
  next=>exact vt aw h x c e
theorem sS{env:Env}:∀{l:List (Str×ka)} {cs:List (Str×ai)} {x:Str},((∃y∈l,y.2=.free/\y.1=x)\/∃c,cs.lookup x=some c)->∃c,(e7 env l cs).lookup x=some c
| [],cs,x,h=>by
  rcases h with ⟨y,bl,_⟩|h
  ·cases bl
  ·exact h
|y::r,cs,x,h=>by
  unfold e7;split
  next k=>
   refine sS ?_
   rcases h with ⟨z,hz,gu,e⟩|⟨c,h⟩
   ·rcases bS.mp hz with rfl|hz
    ·refine .inr ?_
     subst e;rw[l0];simp
    ·exact .inl ⟨z,hz,gu,e⟩
   ·refine .inr ?_
    rw[l0];split
    ·exact⟨_,rfl⟩
    ·exact⟨c,h⟩
  next k=>
   refine sS ?_
   rcases h with ⟨z,hz,gu,e⟩|h
   ·rcases bS.mp hz with rfl|hz
    ·exact absurd (by simpa using gu) k
    ·exact .inl ⟨z,hz,gu,e⟩
   ·exact .inr h
noncomputable def hg(X:a5)(tE:List Str)(scope:Scope)(cl:List (Str×ai))(C:ai)(c7:aG)(aN:aD)(bB:List ai)(dJ:List (ai×Obj)):a5 where
 prog:=X.prog
 w:=X.w
 K:=X.K
 mg:=X.mg
 base:=X.base
 A:=X.A
 N:=tE
 c7:=c7
 aN:=aN
 env:=compEnvC scope cl C X.env
 outer:=X.stack
 stack:=X.stack
 ex:=bB
 fn:=λ_=>false
 calm:=X.calm
 dJ:=dJ
 dv:=λ_ _=>False
noncomputable def p1(X:a5)(ifs:List a8)(hW:ek):Prop:=∀(ag:List (ai×Obj)) (s:aG) (σ:bu.St) (H:aD) (Q:Bool->aD->Prop),bu.Inv X ag σ H s->uW X.K hW σ H Q ->
 a4 (bh X.prog X.w) X.A (forIn ifs true λc r=>if r=true then do let ok <- isTrue c X.env (eval c X.env);pure (ForInStep.yield ok) else pure (ForInStep.yield r)) (zP X ag σ Q) X.dv s
def k2{X:a5}:p1 X [] (dd true):=λag s σ H Q I ⟨aO,aN,O,F,ε,b,r,e,k⟩=>by
 cases e
 exact wpAny_tests_nil ⟨H,I,k F H (Ext.refl r.cB)⟩
def y9{X:a5}{c:a8}{hW:ek}(h:jt X c hW):p1 X [c] hW:=λag s σ H Q I q=>wpAny_tests_one (h ag s σ H Q I q)
section
variable {prog:cH}{w:bY}{A:cN}{R:Result->aG->Prop}{s:aG}
def Y1{elt target iter:a8}{ifs:List a8}{scope:Scope}{pos:Pos}{it acc:aj}{env:Env}(I:Nat->aG->Prop)
  (turn:∀n s,I n s->a4 (bh prog w) A (pyNext it) (λr cw=>match r with
   |none=>R (.ok .next) cw
   |some v=>a4 (bh prog w) A (letOwnedTupleGo target it v) (λ_ Js=>a4 (bh prog w) A (assign target env v) (λ_ j5=>
     a4 (bh prog w) A (forIn ifs true λc r=>if r=true then do let ok <- isTrue c env (eval c env);pure (ForInStep.yield ok) else pure (ForInStep.yield r)) (λok Eu=>
      if ok=true then a4 (bh prog w) A (eval elt env) (λx Jt=>
       a4 (bh prog w) A (call (.builtin "list.append") [acc,x]) (λ_ Ju=>∃m,m<n/\I m Ju) (λ_ _=>False) Jt) (λ_ _=>False) Eu
      else ∃m,m<n/\I m Eu) (λ_ _=>False) j5) (λ_ _=>False) Js) (λ_ _=>False) cw) (λ_ _=>False) s)
  (n:Nat) (h:I n s):ic (bh prog w) A (.compLoop (.ListComp elt [⟨target,iter,ifs,0⟩] scope pos) 0 it acc env) R s:=by
 refine codeAny_loop rfl I (λn s lE=>?_) n h
 show a4 _ A ((compTurn (.ListComp elt [⟨target,iter,ifs,0⟩] scope pos) 0 it acc env).onRaise (λx=>do noteFrame x env;theTreesLotGoes x)) _ _ s
 refine wpAny_noted ?_
 rw[compTurn_list];refine aI (wpAny_standAt (aI (g_ (turn n s lE) (λr cw h4=>?_) λ_ _ h'=>h'.elim)));cases r with
|none=>exact bq h4
|some v=>
  refine aI (g_ h4 (λ_ Js RW=>?_) λ_ _ h'=>h'.elim)
  refine aI (g_ RW (λ_ j5 qq=>aI (g_ qq (λok Eu n1=>?_) λ_ _ h'=>h'.elim)) λ_ _ h'=>h'.elim)
  cases ok with
  |false=>exact bq ⟨rfl,n1⟩
  |true=>
   exact aI (aI (g_ n1 (λx Jt uu=>aI (g_ uu (λ_ Ju g6=>bq (bq ⟨rfl,g6⟩)) λ_ _ h'=>h'.elim)) λ_ _ h'=>h'.elim))
end
end
section
variable [bX]
theorem JI{env:Env}{k:ka}:∀{names:List (Str×ka)} {x:Str},names.lookup x=some k->∃gu,(names.map λ(n,k)=>if (k==NameKind.free && env.scope.kind==.function && env.kindOf n==some .cell) then (n,NameKind.cell) else (n,k)).lookup x=some gu/\(gu=k\/(k=.free/\gu=.cell))
  | [],x,h=>by simp at h
  | (n,j)::r,x,h=>by
    have cK:=@JI env k r x;show ∃gu,List.lookup x ((if (j==NameKind.free && env.scope.kind==.function && env.kindOf n==some .cell)=true then (n,NameKind.cell) else (n,j))::_)=some gu/\_;cases hx:x==n with
    |true=>
      simp only[l0,hx] at h;cases h;by_cases au:(k==NameKind.free && env.scope.kind==.function && env.kindOf n==some .cell)=true
      · rw[if_pos au]
        refine⟨.cell,by simp[l0,hx],.inr ⟨?_,rfl⟩⟩
        simp only[cJ] at au;simpa using au.1.1
      · rw[if_neg au]
        exact⟨k,by simp[l0,hx],.inl rfl⟩
    |false=>
      simp only[l0,hx] at h;obtain⟨gu,af,ao⟩:=cK h;refine⟨gu,?_,ao⟩;by_cases au:(j==NameKind.free && env.scope.kind==.function && env.kindOf n==some .cell)=true
      · rw[if_pos au];simp only[l0,hx];exact af
      · rw[if_neg au];simp only[l0,hx];exact af
def mem_lookup{names:List (Str×ka)}{x:Str}{k:ka}(h:names.lookup x=some k):∃y∈names,y.2=k/\y.1=x:=by
 induction names with
|nil=>simp at h
|cons y r cK=>
  rw[l0] at h;split at h
  next ae=>
   cases h
   exact⟨y,mV,rfl,by simpa using (beq_iff_eq.mp ae).symm⟩
  next=>
   obtain⟨z,hz,af,ao⟩:=cK h;exact⟨z,gz _ hz,af,ao⟩
def YK{scope:Scope}{env:Env}(rY:∀y∈scope.names,y.2≠.cell){x:Str}(h:(relabel scope env).names.lookup x=some .cell\/(relabel scope env).names.lookup x=some .free):∃y∈scope.names,y.2=.free/\y.1=x:=by
 have go:∀{k:ka},(relabel scope env).names.lookup x=some k->(k=.cell\/k=.free)->∃y∈scope.names,y.2=.free/\y.1=x:=λ{k} e aV=>by
  obtain⟨y,bl,af,ao⟩:=mem_lookup e;obtain⟨⟨n,j⟩,hz,aR⟩:=ei.mp (show y∈scope.names.map _ from bl);by_cases au:(j==NameKind.free && env.scope.kind==.function && env.kindOf n==some .cell)=true
  ·have en:(n,NameKind.cell)=y:=by
    have ik:(if (j==NameKind.free && env.scope.kind==.function && env.kindOf n==some .cell)=true then (n,NameKind.cell) else (n,j))=y:=aR
    rwa [if_pos au] at ik
   subst en;simp only[cJ] at au;exact⟨(n,j),hz,by simpa using au.1.1,ao⟩
  ·have en:(n,j)=y:=by
    have ik:(if (j==NameKind.free && env.scope.kind==.function && env.kindOf n==some .cell)=true then (n,NameKind.cell) else (n,j))=y:=aR
    rwa [if_neg au] at ik
   subst en;rcases aV with rfl|rfl
   ·exact absurd af (rY _ hz)
   ·exact⟨(n,j),hz,af,ao⟩
 rcases h with h|h
 ·exact go h (.inl rfl)
 ·exact go h (.inr rfl)
def c8.other{K:bc}{aO O F:ai->Prop}{E:jT}{H:aD}{ε:Ev}{σ:bu.St}{a:ai}{xs ys:List V}(r:c8 K aO E O F H ε σ)(a_:¬F a)(aQ:¬O a)(h0:E.h a=none)(az:H a=some (.lst xs)):
  eG K F H F (upd H a (.lst ys))/\c8 K aO E O F (upd H a (.lst ys)) ε σ:=by
 have hm:me (.lst xs):=.inl ⟨_,rfl⟩;have aK:eG K F H F (upd H a (.lst ys)):=ab1 a_ az hm;have keep:∀(u:bW) (w:V),gS K E O F H u w->gS K E O F (upd H a (.lst ys)) u w/\fA (upd H a (.lst ys)) u w=fA H u w:=by
  intro u w eD;refine eD.keep aK (λb ae=>ck ?_) (λ_ _ f=>f) λ_ _ o=>o;rintro rfl;cases jC:u.qu with
  |true=>exact aQ ((eD.held ae).2.1 jC)
  |false=>exact (eD.held ae).2.2 jC h0
 refine⟨aK,⟨r.len,λj u e=>?_,λi j s u v w o6 aC aR du fa af ao=>?_,abo r.ent h0 a_ az hm,r.o0,λb e=>r.fr b ?_⟩⟩
 ·obtain⟨v,af,ao⟩:=r.val j u e;exact⟨v,af,(keep u v ao).1⟩
 ·obtain⟨gy,g4,a'⟩:=r.val i s aC;obtain⟨hF,ht,cL⟩:=r.val j u aR;rw[af] at g4;rw[ao] at ht;cases g4;cases ht;rw[(keep s v a').2,(keep u w cL).2];exact r.ne i j s u v w o6 aC aR du fa af ao
 ·by_cases nb:b=a
  ·subst nb;rw[es] at e;cases e
  ·rwa [ck nb] at e
def zt(n:Nat)(caps:List Nat)(σ:bu.St):bu.St:=jc n none++caps.map λi=>(σ[i]?).join
def join_some{α:Type}{o:Option (Option α)}{x:α}(h:o.join=some x):o=some (some x):=by
 cases o with
|none=>cases h
|some o=>exact congrArg some h
def s6{α:Type}{n:Nat}{caps:List Nat}{l:List (Option α)}{i:Nat}{x:α}(h:(jc n none++caps.map λi=>(l[i]?).join)[i]?=some (some x)):∃j,n<=i/\caps[i - n]?=some j/\l[j]?=some (some x):=by
 by_cases hi:i<n
 ·rw[yb (by simpa using hi),List.getElem?_replicate] at h;rw[if_pos hi] at h;cases h
 ·rw[u5 (by simpa using hi),List.length_replicate,kW] at h;cases e:caps[i - n]? with
  |none=>
   rw[e] at h;cases h
  |some j=>
   rw[e] at h;exact⟨j,by omega,rfl,join_some (ia h)⟩
def ab6{α:Type}{n:Nat}{caps:List Nat}{l:List (Option α)}{i j:Nat}{x:α}(hi:n<=i)(au:caps[i - n]?=some j)(h:l[j]?=some (some x)):(jc n none++caps.map λi=>(l[i]?).join)[i]?=some (some x):=by
 rw[u5 (by simpa using hi),List.length_replicate,kW,au];simp[h]
def c8.aeN{K:bc}{aO O F:ai->Prop}{E:jT}{H:aD}{ε:Ev}{σ:bu.St}{D:ai}(r:c8 K aO E O F H ε σ)(n:Nat){caps:List Nat}(bF:caps.Nodup)(i5:H D=none):
  c8 K aO E (λa=>O a/\a≠D) F (upd H D (.lst [])) (gD n caps ε) (zt n caps σ):=by
 have x:=Ext.laid (o:=.lst []) r.cB i5;have keep:∀(u:bW) (w:V),gS K E O F H u w->gS K E (λa=>O a/\a≠D) F (upd H D (.lst [])) u w/\fA (upd H D (.lst [])) u w=fA H u w:=by
  intro u w eD;have nb:∀b∈fA H u w,b≠D:=λb ae z=>by
   obtain⟨o,e,_⟩:=eD.at ae;rw[z,i5] at e;cases e
  exact eD.keep x.aK (λb ae=>ck (nb b ae)) (λ_ _ f=>f) λb ae o=>⟨o,nb b ae⟩
 refine⟨by simp[gD,zt],λi s e=>?_,λi j s u v w o6 aC aR du fa af ao=>?_,r.ent.trans x,λa h=>r.o0 a h.1,λa h=>?_⟩
 ·obtain⟨j,a_,au,b7⟩:=s6 e;obtain⟨v,af,ao⟩:=r.val j s b7;exact⟨v,ab6 a_ au af,(keep s v ao).1⟩
 ·obtain⟨Cy,hi,ci,qd⟩:=s6 aC;obtain⟨n4,dG,HD,oV⟩:=s6 aR;obtain⟨cS,_,HC,g4⟩:=s6 (l:=σ) af;obtain⟨ir,_,HE,ht⟩:=s6 (l:=σ) ao;rw[ci] at HC;rw[HD] at HE;cases HC;cases HE;obtain⟨gy,aT,a'⟩:=r.val Cy s qd;obtain⟨hF,bg,cL⟩:=r.val n4 u oV;rw[g4] at aT;rw[ht] at bg;cases aT;cases bg;rw[(keep s v a').2,(keep u w cL).2];refine r.ne Cy n4 s u v w (λz=>?_) qd oV du fa g4 ht;subst z;obtain⟨cE,h6⟩:=e2.mp ci;obtain⟨cF,i_⟩:=e2.mp HD;have ne:i - n≠j - n:=by omega
  rcases Nat.lt_or_gt_of_ne ne with q|q
  ·exact (List.pairwise_iff_getElem.mp bF _ _ cE cF q) (h6.trans i_.symm)
  ·exact (List.pairwise_iff_getElem.mp bF _ _ cF cE q) (i_.trans h6.symm)
 ·have bF:a≠D:=by
   rintro rfl;rw[es] at h;cases h
  rw[ck bF] at h;exact⟨r.fr a h,bF⟩
end
section
variable [bX]
structure pV(X:a5)(scope:Scope)(own:List Str)(caps:List (Nat×Str)):Prop where
 kind:scope.kind=.function
 names:∀y∈scope.names,y.2=.local->scope.names.lookup y.1=some .local
 cell:∀y∈scope.names,y.2≠.cell
 free:∀y∈scope.names,y.2=.free->X.env.kindOf y.1=some .cell\/X.env.kindOf y.1=some .free
 aeN:∀p∈caps,X.N[p.1]?=some p.2/\scope.names.lookup p.2=some .free
 bF:(caps.map (·.1)).Nodup
 calm:X.calm=true
section
variable {X:a5}{b4 iter elt:a8}{ifs:List a8}{scope:Scope}{it:gU}{gH:f7}{hW:ek}{kB:aY}{pos:Pos}{own:List Str}{caps:List (Nat×Str)}
def y7{ag:List (ai×Obj)}{σ:bu.St}{bt:aD}{s2:aG}{bB:List ai}(S:pV X scope own caps)(b9:bu.Inv X ag σ bt s2)(f2:∀b∈bB,k5 X ag bt b)(kD:∀b∈bB,b<s2.heap.objs.size)(tE:List Str):
  (hg X tE scope (e7 X.env scope.names []) (s2.heap.push {cls:=.type "list",data:=.seq ([]:List aj).toArray}).objs.size {s2 with heap:=s2.heap.push {cls:=.type "list",data:=.seq ([]:List aj).toArray} } (upd bt s2.heap.objs.size (.lst [])) bB (X.dJ++ag)).Ok:=by
 have il:∀x∈scope.names,x.2=.free->∃c,X.env.cells.lookup x.1=some c:=λx hx aV=>b9.ok.has x.1 (S.free x hx aV);have qb:∀x c,(e7 X.env scope.names []).lookup x=some c->X.env.cells.lookup x=some c:=vt il (λx c e=>by simp at e);have eN:=b9.xo (its:=[]) (ys:=[]) (t':=s2.toks) .nil (jK _);have kT:(s2.heap.push {cls:=.type "list",data:=.seq ([]:List aj).toArray}).objs.size=s2.heap.objs.size+1:=gA ..;refine⟨b9.ok.mod,S.kind,b9.ok.glob,b9.ok.blt,c_ _,λx y c aC aR=>b9.ok.inj x y c (qb x c aC) (qb y c aR),λx hx=>?_,λx c h=>(by cases h),b9.ok.hd,b9.ok.frames,.inl rfl,λb ae=>⟨?_,λx c e=>(f2 b ae).2.2.2.2.1 x c (qb x c e)⟩,λb o e=>?_,?_,λb o e ae=>?_,λb ae hf=>?_,eN.stack,eN.Jp⟩
 ·exact sS (.inl (YK S.cell hx))
 ·show b≠(s2.heap.push {cls:=.type "list",data:=.seq ([]:List aj).toArray}).objs.size
  have h:=kD b ae;rw[kT];exact cX (Nat.lt_succ_of_lt h)
 ·obtain⟨af,ao⟩:=eN.bs b o e;exact⟨af,ao⟩
 ·have af:=j' b9.ok.oS b9.kT;show X.base.objs.size<=(s2.heap.push {cls:=.type "list",data:=.seq ([]:List aj).toArray}).objs.size;omega
 ·rcases (f2 b ae).2.2.2.1 with q|q
  ·exact b9.ok.uJ b o e q
  ·exact absurd (g9 (cv (b9.ok.bs b o e).1) q) (Nat.lt_irrefl _)
 ·rcases bS.mp (b9.xP b hf) with q|q
  ·exact (f2 b ae).2.1 q
  ·exact (f2 b ae).2.2.1 q
def abr{ag:List (ai×Obj)}{σ:bu.St}{bt:aD}{s2:aG}{bB:List ai}(S:pV X scope own caps)(b9:bu.Inv X ag σ bt s2)(f2:∀b∈bB,k5 X ag bt b)(kD:∀b∈bB,b<s2.heap.objs.size){h4:bk}{m:Str->Option aj}{tk:Nat}
  (o8:h4.Ns (s2.heap.push {cls:=.type "list",data:=.seq ([]:List aj).toArray}).objs.size m) (keep:∀b u,(s2.heap.push {cls:=.type "list",data:=.seq ([]:List aj).toArray}).get? b=some u->h4.get? b=some u):
  bu.Inv (hg X (own++caps.map (·.2)) scope (e7 X.env scope.names []) (s2.heap.push {cls:=.type "list",data:=.seq ([]:List aj).toArray}).objs.size {s2 with heap:=s2.heap.push {cls:=.type "list",data:=.seq ([]:List aj).toArray} } (upd bt s2.heap.objs.size (.lst [])) bB (X.dJ++ag)) []
   (zt own.length (caps.map (·.1)) σ) (upd bt s2.heap.objs.size (.lst [])) {s2 with heap:=h4,toks:=tk}:=by
 have il:∀x∈scope.names,x.2=.free->∃c,X.env.cells.lookup x.1=some c:=λx hx aV=>b9.ok.has x.1 (S.free x hx aV);have qb:∀x c,(e7 X.env scope.names []).lookup x=some c->X.env.cells.lookup x=some c:=vt il (λx c e=>by simp at e);have eN:=b9.xo (its:=[]) (ys:=[]) (t':=s2.toks) .nil (jK _);refine⟨y7 S b9 f2 kD _,rfl,b9.bare,eY.kept keep,⟨m,o8,λi x v af ao bj=>?_⟩,λx c e=>?_,?_,λx c e=>eN.lA x c (qb x c e),λp aE=>?_,eN.bP.kept keep,by simp[zt,hg]⟩
 ·obtain⟨j,a_,au,dG⟩:=s6 (l:=σ) ao;have hx:(caps.map (·.2))[i - own.length]?=some x:=by
   have:(own++caps.map (·.2))[i]?=some x:=af
   rwa [u5 a_] at this
  rw[kW] at au hx;cases ep:caps[i - own.length]? with
  |none=>rw[ep] at au;cases au
  |some p=>
   rw[ep] at au hx;cases au;cases hx;obtain⟨ea,hf⟩:=S.aeN p (qW ep);obtain⟨y,bl,eh,cU⟩:=mem_lookup hf;have aV:=S.free y bl eh;rw[cU] at aV;obtain⟨lN,aeh,Cd⟩:=eN.loc;have X3:oR X.env.scope p.2:=by
    rcases aV with aV|aV
    ·exact .inr (.inl aV)
    ·exact .inr (.inr aV)
   obtain⟨u,eD,S1⟩:=Cd p.1 p.2 v ea dG X3;refine⟨u,eD,.inr ⟨?_,?_⟩⟩
   ·obtain⟨gu,aC,aR⟩:=JI (env:=X.env) hf;rcases aR with rfl|⟨_,rfl⟩
    ·exact .inr aC
    ·exact .inl aC
   ·rcases S1 with ⟨q,_⟩|⟨_,c,au,rY⟩
    ·rcases aV with aV|aV
     ·rw[aV] at q;cases q
     ·rw[aV] at q;cases q
    ·obtain⟨bT,b2⟩:=sS (env:=X.env) (l:=scope.names) (cs:=[]) (x:=p.2) (.inl ⟨y,bl,eh,cU⟩);have:=qb _ _ b2;rw[au] at this;cases this;obtain⟨gc,aQ,hd⟩:=rY;exact⟨c,b2,gc,keep _ _ aQ,hd⟩
 ·obtain⟨v,gc,aQ,hd⟩:=eN.cell x c (qb x c e);exact⟨v,gc,keep _ _ aQ,hd⟩
 ·exact eN.bP.fresh (c_ _)
 ·have nW:p∈X.dJ++ag:=by simpa [hg] using aE
  obtain⟨af,ao,bA,c9,gI⟩:=eN.pin p nW;refine⟨keep _ _ af,ao,cX (cv af),λz=>?_,gI⟩;rcases bS.mp (b9.xP p.1 z) with q|q
  ·exact bA q
  ·exact c9 q
def _l{ag:List (ai×Obj)}{σ bI:bu.St}{bt ah:aD}{s2 aZ:aG}{bB:List ai}{tE:List Str}(b9:bu.Inv X ag σ bt s2)(f2:∀b∈bB,k5 X ag bt b)
  (J:bu.Inv (hg X tE scope (e7 X.env scope.names []) (s2.heap.push {cls:=.type "list",data:=.seq ([]:List aj).toArray}).objs.size {s2 with heap:=s2.heap.push {cls:=.type "list",data:=.seq ([]:List aj).toArray} } (upd bt s2.heap.objs.size (.lst [])) bB (X.dJ++ag)) [] bI ah aZ)
  {h':bk} (j2:Heap.SameBut (s2.heap.push {cls:=.type "list",data:=.seq ([]:List aj).toArray}).objs.size aZ.heap h'):bu.Inv X ag σ ah {aZ with heap:=h'}:=by
 have eN:=b9.xo (its:=[]) (ys:=[]) (t':=s2.toks) .nil (jK _);have u:=J.base;have free:ah (s2.heap.push {cls:=.type "list",data:=.seq ([]:List aj).toArray}).objs.size=none:=J.free;have old:∀b o,(s2.heap.push {cls:=.type "list",data:=.seq ([]:List aj).toArray}).get? b=some o->b≠(s2.heap.push {cls:=.type "list",data:=.seq ([]:List aj).toArray}).objs.size:=λb o e=>cX (cv e);have w5:∀b,b≠(s2.heap.push {cls:=.type "list",data:=.seq ([]:List aj).toArray}).objs.size->∀o,aZ.heap.get? b=some o->h'.get? b=some o:=λb ae o e=>j2.extBut b o ae e;have xV:eY (lB X.stack) bB (upd bt s2.heap.objs.size (.lst [])) ah (s2.heap.push {cls:=.type "list",data:=.seq ([]:List aj).toArray}) h':=by
  refine⟨λb o e n hf hx=>w5 b (old b o e) _ (u.keep b o e n hf hx),λb o e n hf hx=>?_,u.free,λb o e hx=>?_,u.od,u.mH,u.mS⟩
  ·obtain⟨bx,q⟩:=u.slot b o e n hf hx;exact⟨bx,w5 b (old b o e) _ q⟩
  ·obtain⟨d6,q⟩:=u.there b o e hx;exact⟨d6,w5 b (old b o e) _ q⟩
 have bP:e3 X.prog X.w ah h':=λb o e=>by
  refine (J.bP b o e).lW (λc v au q=>w5 c (λz=>?_) v q) (λ_ q=>q) λ_ _ q=>q
  rcases au with rfl|au
  ·rw[z,free] at e;cases e
  ·rw[z,free] at au;cases au
 have nV:=J.os;have Q0:=J.bare;obtain⟨b',g,d,t,os⟩:=aZ;obtain rfl:os=s2.os:=nV;have fin:=eN.call (h':=h') (g':=g) (d':=d) (t':=t) (ch:=bB) xV bP Q0 λb ae=>⟨(f2 b ae).2.2.2.1,(f2 b ae).2.1,(f2 b ae).2.2.2.2.1,(f2 b ae).2.2.2.2.2⟩;exact fin
def aaq{X':a5}{R:Result->aG->Prop}{J:iP}{bB:List ai}{CC D:ai}{g8:Nat->bk->Prop}{aO O a6:ai->Prop}{aN:jT}{bt:aD}{ts ys:List T}(hx:X'.dv=λ_ _=>False)(au:X'.calm=true)(aU:k_ X' b4 gH)(aM:p1 X' ifs hW)(he:cf X' elt kB)
  (T:Turn X'.prog X'.w X'.K b4 J bB CC g8) (qP:∀ah:aD,(∀b∈bB,ah b=none)->∀b∈bB,k5 X' [] ah b) (ok:mf X'.K J a6 bt ts) (H4:ts.length<=big) (qg:bt D=none) (mI:¬O D) (QN:aN.h D=none)
  (fin:∀bI ah aL s1 vs,bu.Inv X' [] bI ah s1->Ext a6 bt aL ah->ah D=some (.lst vs)->¬aL D->bf X'.K aL ah ys vs->R (.ok .next) s1)
  {s:aG} {σ:bu.St} {H:aD} {F:ai->Prop} {ε:Ev} (I:bu.Inv X' [] σ H s) (st:g8 0 s.heap) (fr:∀b∈bB,H b=none) (x:Ext a6 bt F H) (r:c8 X'.K aO aN O F H ε σ) (i5:H D=some (.lst [])) (S_:¬F D) (hY:aeC gH hW kB ts ε=some ys):
  ic (bh X'.prog X'.w) X'.A (.compLoop (.ListComp elt [⟨b4,iter,ifs,0⟩] scope pos) 0 (.ref CC) (.ref D) X'.env) R s:=by
 refine Y1 (λn aZ=>∃i bI ah aL ε' rL vs,n=ts.length - i/\i<=ts.length/\bu.Inv X' [] bI ah aZ/\g8 i aZ.heap/\(∀b∈bB,ah b=none)/\Ext a6 bt aL ah/\c8 X'.K aO aN O aL ah ε' bI/\ah D=some (.lst vs)/\¬aL D/\bf X'.K aL ah rL vs/\rL.length<=i /\
  ∃rest,aeC gH hW kB (ts.drop i) ε'=some rest/\ys=rL++rest) ?_ ts.length ⟨0,σ,H,F,ε,[],[],rfl,jK _,I,st,fr,x,r,i5,S_,bf.nil,c_ _,ys,by simpa using hY,by simp⟩
 rintro n s3 ⟨i,mb,dN,ho,ad7,rL,vs,rfl,hi,eN,uV,tY,dX,i',t_,DY,c6,Cd,rest,mF,av⟩;have kL:∀{ih:ai->Prop} {hP:aD} {iO:ai->Prop} {hp:aD} {o:el},Ext ih hP iO hp->hP D=some o->¬ih D->¬iO D:=λy e n z=>by
  rcases y.new D z with q|q
  ·exact n q
  ·rw[e] at q;cases q
 by_cases dz:i<ts.length
 ·have hd:ts.drop i=ts[i]::ts.drop (i+1):=List.drop_eq_getElem_cons dz;have uj:ts[i]?=some ts[i]:=ft dz;rw[hd] at mF;simp only[aeC,c0] at mF;obtain⟨tw,lz,b,i0,mF⟩:=mF;refine g_ (T.item X' rfl rfl rfl au i [] s3 mb dN (λ_ _=>False) eN (qP dN tY) uV (ok.go i ho dN _ dX.aK i'.cB uj)) (λb3 s4 ⟨u,aw,c9⟩=>?_) λ_ _ z=>z;subst aw;refine g_ c9 (λ_ s5 ⟨fY,hp,oN,qK,EN,qO,BU⟩=>?_) λ_ _ z=>z;obtain⟨iO,j9,aS⟩:=ok.kb i ho dN _ fY hp dX.aK i'.cB uj EN;have zF:=oN.pinned (qP hp BU) (T.obj _ _ qO);have mJ:=aU _ s5 mb hp fY u (λnf oL=>oL=hp/\c8 X'.K aO aN O iO hp tw nf) zF qK ⟨aO,aN,O,iO,ad7,_,tw,i'.ext j9,aS,lz,λnf uM=>⟨rfl,uM⟩⟩;rw[hx] at mJ;refine g_ mJ (λ_ fq ⟨nf,oL,zG,rP,uM⟩=>?_) λ_ _ z=>z;subst rP;have again:∀{js:bu.St} {fQ:aD} {dC:aG},bu.Inv X' ([]++vL bB s5.heap) js fQ dC->g8 (i+1) dC.heap/\(∀b∈bB,fQ b=none)/\bu.Inv X' [] js fQ dC:=λ{js fQ dC} hq=>by
   refine⟨T.keep _ _ _ qO λb ae o e=>(hq.pin (b,o) (mY _ (mY _ (yC ae e)))).1,λb ae=>?_,hq.xW⟩
   obtain⟨o,e,d⟩:=T.obj _ _ qO b ae;exact (hq.pin (b,o) (mY _ (mY _ (yC ae e)))).2.1
  have Iy:=aM _ fq nf oL (λgX fQ=>gX=b/\∃nk,Ext iO oL nk fQ) zG ⟨aO,aN,O,iO,tw,b,uM,i0,λnk fQ kV=>⟨rfl,nk,kV⟩⟩;rw[hx] at Iy;refine g_ Iy (λU6 dC ⟨fQ,hq,rQ,nk,kV⟩=>?_) λ_ _ z=>z;subst rQ;have u2:=j9.trans kV;have qL:=uM.ext kV;cases U6 with
  |false=>
   simp only[je,if_false] at mF ⊢;obtain⟨a1,a2,iT⟩:=again hq;exact⟨_,by omega,i+1,nf,fQ,nk,tw,rL,vs,rfl,dz,iT,a1,a2,dX.trans u2,qL,u2.same.get t_,kL u2 t_ DY,c6.ext u2,by omega,rest,mF,av⟩
  |true=>
   simp only[if_true,c0,gh] at mF ⊢;obtain⟨y,Qw,V3,Qs,rfl⟩:=mF;have nS:=he _ dC nf fQ (λv oM=>∃k4,Ext nk fQ k4 oM/\Rep X'.K k4 oM y v) hq ⟨aO,aN,O,nk,tw,y,qL,Qw,λv k4 oM qT Ed=>⟨k4,qT,Ed⟩⟩;rw[hx] at nS;refine g_ nS (λu8 d3 ⟨sk,oM,NN,VW,k4,qT,Ed⟩=>?_) λ_ _ z=>z;have x6:=u2.trans qT;have BX:=x6.same.get t_;have DZ:=kL x6 t_ DY;obtain⟨SV,VX⟩:=(qL.ext qT).other (ys:=vs++[sk]) DZ mI QN BX;have az:=_X (X:=X') _ d3 nf oM (.ref D) [sk] (.ref D) [u8] (λ_ zD=>zD=upd oM D (.lst (vs++[sk]))) NN rfl (.cons VW .nil) ⟨D,vs,sk,rfl,rfl,BX,by rw[m',<- c6.length];omega,rfl⟩;rw[hx] at az;refine g_ az (λu9 fW ⟨v9,zD,NO,aep,rR⟩=>?_) λ_ _ z=>z;subst rR;obtain⟨a1,a2,iT⟩:=again NO;have u3:Ext a6 bt k4 (upd oM D (.lst (vs++[sk]))):=by
    have y:=dX.trans x6;refine⟨λb o e=>?_,y.sub,y.new,⟨λb f=>?_,y.cB.mT.upd λu e=>.inl ⟨_,ia (e.symm.trans BX)⟩⟩⟩
    ·have nb:b≠D:=by
      rintro rfl;rw[qg] at e;cases e
     rw[ck nb];exact y.same b o e
    ·have nb:b≠D:=by
      rintro rfl;exact DZ f
     rw[ck nb];exact y.cB b f
   refine⟨_,by omega,i+1,nf,_,k4,tw,rL++[y],vs++[sk],rfl,dz,iT,a1,a2,u3,VX,es,DZ,((c6.ext x6).append (bf.cons Ed bf.nil)).aK SV,by simp;omega,V3,Qs,by rw[av];simp⟩
 ·have hd:ts.drop i=[]:=List.drop_eq_nil_of_le (by omega);rw[hd] at mF;cases mF;refine g_ (T.done X' rfl rfl rfl au i [] s3 mb dN (λ_ _=>False) eN (qP dN tY) uV (ok.stop i ho dN dX.aK (by omega))) (λb3 s4 ⟨aw,k6⟩=>?_) λ_ _ z=>z;subst aw;exact fin mb dN ho s4 vs k6 dX t_ DY (by rw[av,pz];exact c6)
structure After(X:a5)(ag:List (ai×Obj))(σ:bu.St)(F:ai->Prop)(H:aD)(ys:List T)(D C:ai)(ah:aD)(aL:ai->Prop)(s1:aG)(vs:List V):Prop where
 inv:∀h',Heap.SameBut C s1.heap h'->bu.Inv X ag σ ah {s1 with heap:=h'}
 ns:∃m,s1.heap.Ns C m
 free:ah C=none
 above:X.c7.heap.objs.size<=C
 cells:∀x c,X.env.cells.lookup x=some c->c≠C
 pin:∀p∈X.dJ++ag,p.1≠C
 loc:C≠X.env.locals
 new:H D=none
 ext:Ext F H aL ah
 kL:¬aL D
 lst:ah D=some (.lst vs)
 rep:bf X.K aL ah ys vs
def Lm{use:Option (aj->Sem Unit)}{Q:aj->aG->Prop}{dh:Pos}(S:pV X scope own caps)(hi:la X b4 iter it)
  (aU:∀cl C c7 aN bB dJ,k_ (hg X (own++caps.map (·.2)) scope cl C c7 aN bB dJ) b4 gH)
  (aM:∀cl C c7 aN bB dJ,p1 (hg X (own++caps.map (·.2)) scope cl C c7 aN bB dJ) ifs hW)
  (he:∀cl C c7 aN bB dJ,cf (hg X (own++caps.map (·.2)) scope cl C c7 aN bB dJ) elt kB)
  (aA:∀x,q1 iter X.env x=pure x) {ag:List (ai×Obj)} {s:aG} {σ:bu.St} {H:aD} {aO O F:ai->Prop} {aN:jT} {ε:Ev} {ys:List T} (I:bu.Inv X ag σ H s) (r:c8 X.K aO aN O F H ε σ)
  (e:comp own.length (caps.map (·.1)) it gH hW kB ε=some (.list ys)) (fin:∀D C ah aL s1 vs,After X ag σ F H ys D C ah aL s1 vs->compPost (bh X.prog X.w) X.A X.dv use Q (.ref D) C (.ok .next) s1):
  a4 (bh X.prog X.w) X.A (comprehension (.ListComp elt [⟨b4,iter,ifs,0⟩] scope pos) scope X.env dh (newList []) false (eval iter X.env) use) Q X.dv s:=by
 simp only[comp,c0] at e;obtain⟨ts,cm,e⟩:=e;split at e
 case isFalse=>cases e
 next H4=>
 simp only[gh] at e;obtain⟨aeB,hY,e⟩:=e;cases e;have il:∀x∈scope.names,x.2=.free->∃c,X.env.cells.lookup x.1=some c:=λx hx aV=>I.ok.has x.1 (S.free x hx aV);refine wpAny_comprehension_free rfl aA (JM il) S.kind S.names (ct (hi ag s σ H (λJ H1=>∃a6,Ext F H a6 H1/\mf X.K J a6 H1 ts) I ⟨aO,aN,O,F,ε,ts,r,cm,λJ a6 H1 a3 ok=>⟨a6,a3,ok⟩⟩) λv s1 af=>ct af λCD s2 ao=>?_);obtain⟨CC,bB,g8,J,bt,rfl,b9,T,j4,f2,a6,a3,ok⟩:=ao;have kD:∀b∈bB,b<s2.heap.objs.size:=λb ae=>by
  obtain⟨o,aQ,_⟩:=T.obj 0 _ j4 b ae;exact cv aQ
 have qg:bt s2.heap.objs.size=none:=b9.fresh;have i5:H s2.heap.objs.size=none:=a3.same.none qg;have kT:(s2.heap.push {cls:=.type "list",data:=.seq ([]:List aj).toArray}).objs.size=s2.heap.objs.size+1:=gA ..;refine wpAny_newList ?_ (jK _);refine wpAny_newFunctionEnv S.cell (by intro y bl;simp at bl) (λh4 Rx RE=>?_) S.kind;have keep:∀b u,(s2.heap.push {cls:=.type "list",data:=.seq ([]:List aj).toArray}).get? b=some u->h4.get? b=some u:=λb u e=>RE.extBut b u (cX (cv e)) (cp _ e);have k6:=abr (tk:=s2.toks+0) S b9 f2 kD Rx keep;have jD:=(r.ext a3).aeN (D:=s2.heap.objs.size) own.length S.bF qg;refine codeAny_compStart_list ?loop (T.self _ 0 _ _ _ (T.keep 0 _ _ j4 λb ae o e=>keep b o (cp _ e)) ?loop);refine aaq (X':=hg X (own++caps.map (·.2)) scope (e7 X.env scope.names []) (s2.heap.push {cls:=.type "list",data:=.seq ([]:List aj).toArray}).objs.size {s2 with heap:=s2.heap.push {cls:=.type "list",data:=.seq ([]:List aj).toArray} } (upd bt s2.heap.objs.size (.lst [])) bB (X.dJ++ag))
  rfl S.calm (aU _ _ _ _ _ _) (aM _ _ _ _ _ _) (he _ _ _ _ _ _) T (λah a_ b ae=>?_) ok H4 qg (λz=>z.2 rfl) (r.o0 _ (r.fr _ i5)) (λbI ah aL s1 vs zL fY QL S' di=>?_) k6 (T.keep 0 _ _ j4 λb ae o e=>keep b o (cp _ e)) (λb ae=>?_) (Ext.laid a3.cB qg) jD es ?_ hY
 ·have D7:=y7 S b9 f2 kD (own++caps.map (·.2));refine⟨a_ b ae,(D7.w6 b ae).1,D7.tV b ae,.inl ae,λx c e=>(D7.w6 b ae).2 x c e,λp aE=>?_⟩;have nW:p∈X.dJ++ag:=by simpa [hg] using aE
  exact (f2 b ae).2.2.2.2.2 p nW
 ·obtain⟨m,a_,_⟩:=id zL.loc;refine fin s2.heap.objs.size _ ah aL s1 vs ⟨λh' j2=>_l b9 f2 zL j2,⟨m,a_⟩,zL.free,?_,λx c e z=>?_,λp aE z=>?_,?_,i5,a3.trans fY,S',QL,di⟩
  ·rw[kT];exact Nat.le_succ_of_le b9.kT
  ·obtain⟨v,q⟩:=b9.cell x c e;have:=q.lt;rw[z,kT] at this;exact absurd this (Nat.not_lt.mpr (pA _))
  ·have:=cv (b9.pin p aE).1;rw[z,kT] at this;exact absurd this (Nat.not_lt.mpr (pA _))
  ·have:=b9.lt;rw[kT];exact mX (Nat.lt_succ_of_lt this)
 ·have:=(f2 b ae).1;rw[ck (cX (kD b ae))];exact this
 ·intro z;obtain⟨o,e⟩:=a3.cB _ z;rw[qg] at e;cases e
def acC(S:pV X scope own caps)(hi:la X b4 iter it)
  (aU:∀cl C c7 aN bB dJ,k_ (hg X (own++caps.map (·.2)) scope cl C c7 aN bB dJ) b4 gH)
  (aM:∀cl C c7 aN bB dJ,p1 (hg X (own++caps.map (·.2)) scope cl C c7 aN bB dJ) ifs hW)
  (he:∀cl C c7 aN bB dJ,cf (hg X (own++caps.map (·.2)) scope cl C c7 aN bB dJ) elt kB)
  (aA:∀x,q1 iter X.env x=pure x:=by intro _;rfl):zO X (.ListComp elt [⟨b4,iter,ifs,0⟩] scope pos) (comp own.length (caps.map (·.1)) it gH hW kB):=by
 intro ag s σ H Q I ⟨aO,aN,O,F,ε,ys,r,e,k⟩;rw[eval_ListComp];refine Lm S hi aU aM he aA I r e λD C ah aL s1 vs a=>?_;obtain⟨m,a_⟩:=a.ns;exact⟨m,a_,λh' j2=>⟨.ref D,ah,a.inv h' j2,rfl,k D vs aL ah a.ext a.new a.kL a.lst a.rep⟩⟩
def KR{ε:Ev}{n:Nat}{cs:List Nat}{t:T}(e:comp n cs it gH hW kB ε=some t):∃ts,t=.list ts:=by
 simp only[comp,c0] at e;obtain⟨ts,_,e⟩:=e;split at e
 ·simp only[gh] at e;obtain⟨ys,_,e⟩:=e;exact⟨ys,e.symm⟩
 ·cases e
def jj(S:pV X scope own caps)(hi:la X b4 iter it)
  (aU:∀cl C c7 aN bB dJ,k_ (hg X (own++caps.map (·.2)) scope cl C c7 aN bB dJ) b4 gH)
  (aM:∀cl C c7 aN bB dJ,p1 (hg X (own++caps.map (·.2)) scope cl C c7 aN bB dJ) ifs hW)
  (he:∀cl C c7 aN bB dJ,cf (hg X (own++caps.map (·.2)) scope cl C c7 aN bB dJ) elt kB)
  (aA:∀x,q1 iter X.env x=pure x:=by intro _;rfl):cf X (.ListComp elt [⟨b4,iter,ifs,0⟩] scope pos) (comp own.length (caps.map (·.1)) it gH hW kB):=
 IT (acC S hi aU aM he aA) λε t e=>KR e
def acy(i:Nat){x:Str}{kP Jn:Pos}(ea:X.N.Nodup)(S:pV X scope own caps)(hit:la X b4 iter it)
  (aU:∀cl C c7 aN bB dJ,k_ (hg X (own++caps.map (·.2)) scope cl C c7 aN bB dJ) b4 gH)
  (aM:∀cl C c7 aN bB dJ,p1 (hg X (own++caps.map (·.2)) scope cl C c7 aN bB dJ) ifs hW)
  (he:∀cl C c7 aN bB dJ,cf (hg X (own++caps.map (·.2)) scope cl C c7 aN bB dJ) elt kB)
  (hi:X.N[i]?=some x:=by rfl) (hx:Loc X.env.scope x:=by first|exact Or.inl rfl|exact Or.inr rfl)
  (RJ:swapsWith (.ListComp elt [⟨b4,iter,ifs,0⟩] scope pos) (some (.Name x kP)) Jn.line X.env=pure true:=by rfl)
  (hf:X.fn x=true\/X.env.scope.names.lookup x=some .local:=by first|exact .inl rfl|exact .inr rfl)
  (aA:∀x,q1 iter X.env x=pure x:=by intro _;rfl):
  mi X (.Assign [.Name x kP] (.ListComp elt [⟨b4,iter,ifs,0⟩] scope pos) Jn) (asg i (comp own.length (caps.map (·.1)) it gH hW kB)):=by
 intro ag s σ H D I ⟨aO,aN,O,F,ε,o,r,e,k⟩;simp only[asg,gh] at e;obtain⟨t,cm,rfl⟩:=e;obtain⟨ys,rfl⟩:=KR cm;rw[exec_Assign_Name_used _ _ _ _ RJ];refine aI (wpAny_standAt (aI ?_));show a4 _ X.A (do let _ <- comprehension (.ListComp elt [⟨b4,iter,ifs,0⟩] scope pos) scope X.env _ (newList []) false (eval iter X.env) (some (assign (.Name x kP) X.env))) _ _ s;refine aI (ct (Lm (use:=some (assign (.Name x kP) X.env)) (Q:=λ_ aZ=>aeE X ag D .next aZ) S hit aU aM he aA I r cm λaeF C ah aL s1 vs a=>?_) λ_ aZ a0=>bq (bq a0));have NP:=a.inv s1.heap (Heap.SameBut.refl ..);have NQ:bu.Inv X ag σ ah s1:=NP;show a4 _ X.A (assign (.Name x kP) X.env (.ref aeF)) _ _ _;refine wpAny_assign_Name (Ku (v:=.ref aeF) NQ ea hi hx rfl (λs2 b9 ⟨b,j2,ae⟩=>?_) hf);obtain⟨m,a_⟩:=a.ns;have nb:C≠b:=by
  rcases ae with rfl|ae
  ·exact a.loc
  ·exact (a.cells x b ae).symm
 refine⟨m,a_.sameBut j2 nb,λh' Wf=>?_⟩
 have eN:bu.Inv X ag (σ.set i (some (.ref aeF))) ah {s2 with heap:=h'}:=b9.turned (t':=s2.toks) (it:=C) (λb o ae e=>Wf.extBut b o ae e) a.free a.loc (.inr a.above) a.cells a.pin;refine⟨_,ah,eN,?_⟩;have y:Ext F H (λb=>aL b\/b=aeF) ah:=⟨a.ext.same,λb z=>.inl (a.ext.sub b z),λb z=>by
  rcases z with z|rfl
  ·exact a.ext.new b z
  ·exact .inr a.new,⟨λb z=>by
  rcases z with z|rfl
  ·exact a.ext.cB b z
  ·exact⟨_,a.lst⟩,a.ext.cB.mT⟩⟩
 refine k _ _ ah y.aK ((r.ext y).set i ?_)
 simp only[Rep];exact⟨aeF,vs,rfl,.inr rfl,.inl a.lst,a.rep.keep (λ_ _ z=>z) λb _ z w=>⟨.inl z,w⟩⟩
end
end
section
variable [bX]
open AutoSeq1 (wpAny_loadPart')
def X_(l:ai)(items:Array aj)(n:Nat)(wU:Option ai)(bx:Array (Option aj)):
  Meets (Builtin.«enumerate.__new__» ⟨[.type "enumerate",.ref l],[]⟩) (λ_ R s=>s.heap.get? l=some {cls:=.type "tuple",dict:=wU,data:=.seq items n,slots:=bx} /\
   R (.ok (.ret (.ref (s.heap.push {cls:=.type "tuple_iterator",data:=.fields #[.ref l,.int 0 0]}).objs.size)))
    {s with heap:=(s.heap.push {cls:=.type "tuple_iterator",data:=.fields #[.ref l,.int 0 0]}).push {cls:=.type "enumerate",data:=.fields #[.none,.bool false,.ref s.heap.objs.size,eU 0,.none,.none]} }):=
 .of_wp λprog w A R s h=>by
  obtain⟨aE,g,d,tk,os⟩:=s;obtain⟨aF,h⟩:=h;have i7:=sub_enumerate;have eg:Heap.IsTuple (Shared.heap ⟨aE,g,d,tk,os⟩) l items:=⟨_,aF,rfl,n,rfl⟩
  wp_walk using wpAny_loadPart' aF
  refine wpAny_stack_any λst=>bq ?_
  split
  ·rename_i c _ _ _ _ _
   cases (c==Value.type "enumerate")
   ·wp_walk using wpAny_loadPart' aF,su eg
    exact⟨_,rfl,h⟩
   ·wp_walk using wpAny_loadPart' aF,su eg
    exact⟨_,rfl,h⟩
  ·wp_walk using wpAny_loadPart' aF,su eg
   exact⟨_,rfl,h⟩
section
variable {prog:cH}{w:bY}{A:cN}{E:aj->aG->Prop}{s:aG}
def JE{l:ai}{items:Array aj}{Q:aj->aG->Prop}(eg:s.heap.IsTuple l items)
  (h:∀h',IsEnum h' (s.heap.objs.size+1) s.heap.objs.size 0 .none->h'.IsTupleIter s.heap.objs.size l 0->h'.objs.size=s.heap.objs.size+2 ->
   (∀b o,s.heap.get? b=some o->h'.get? b=some o)->Q (.ref (s.heap.objs.size+1)) {s with heap:=h'}):
  a4 (bh prog w) A (call (.type "enumerate") [.ref l]) Q E s:=by
 obtain⟨⟨c,wU,HH,bx⟩,aF,au,n,hd⟩:=eg;replace au:c=.type "tuple":=au;replace hd:HH=.seq items n:=hd;subst au hd;refine callType_new F.called_enumerate (by decide) (F.typeCall_enumerate_1 _) (F.newCall_enumerate_1 _) (λobj=>F.args_object_init_2 obj _) F.entry_enumerate_new
  (X_ l items n wU bx) ⟨aF,?_⟩
 have hz:(s.heap.push {cls:=.type "tuple_iterator",data:=.fields #[.ref l,.int 0 0]}).objs.size=s.heap.objs.size+1:=gA ..;show _/\_;rw[hz];have he:IsEnum ((s.heap.push {cls:=.type "tuple_iterator",data:=.fields #[.ref l,.int 0 0]}).push
   {cls:=.type "enumerate",data:=.fields #[.none,.bool false,.ref s.heap.objs.size,eU 0,.none,.none]}) (s.heap.objs.size+1) s.heap.objs.size 0 .none:=by
  have:=eQ (s.heap.push {cls:=.type "tuple_iterator",data:=.fields #[.ref l,.int 0 0]})
   (o:={cls:=.type "enumerate",data:=.fields #[.none,.bool false,.ref s.heap.objs.size,eU 0,.none,.none]}) rfl
  rw[hz] at this;exact this
 refine⟨⟨_,he,rfl⟩,h _ he ⟨_,cp _ (eQ _ rfl),rfl,rfl⟩ (by rw[gA,hz]) λb o x=>cp _ (cp _ x)⟩
def Yc{it l:ai}{i:Nat}{items}{x:aj}{Q:aj->aG->Prop}(hit:s.heap.IsTupleIter it l i)
  (aF:s.heap.IsTuple l items) (hx:items[i]?=some x)
  (dF:∀h',h'.IsTupleIter it l (i+1)->Heap.SameBut it s.heap h'->Q x {s with heap:=h'}):
  a4 (bh prog w) A (oj (.ref it)) Q E s:=by
 obtain⟨o,aQ,au,hd⟩:=id hit;obtain⟨ol,nU,_,nl,nQ⟩:=aF;unfold oj;refine aI (l1 (name:=Str.ofString "__next__") hit.typeIs yd
  (jL yd hit.typeIs F.entry_tuple_iterator_next ?_ (F.args_tuple_iterator_next_1 _)))
 show a4 _ _ (field (.ref it) 0 >>= _) _ _ s
 refine aI (ib aQ hd (x:=.ref l) rfl ?_)
 show a4 _ _ (if (Value.ref l==Value.none)=true then _ else _) _ _ s
 rw[if_neg (show ¬((Value.ref l==Value.none)=true) from Bool.false_ne_true)];show a4 _ _ (field (.ref it) 1 >>= _) _ _ s;refine aI (ib aQ hd (x:=.int i 0) rfl ?_);show a4 _ _ (seqItems? (.ref l) >>= _) _ _ s;refine aI (pB nU nQ ?_);simp only[Int.toNat_natCast,hx];refine aI (wpAny_setField aQ hd (by simp) (bq ⟨x,rfl,bq (dF _ ?_ (Heap.SameBut.update ..))⟩));exact⟨_,Heap.get?_update_self _ aQ (Obj.isFreed_of_fields (Obj.data_mapFields hd _)),(Obj.cls_mapFields ..).trans au,by
  rw[Obj.data_mapFields hd];simp[eU]⟩
def JF{it l:ai}{i:Nat}{items}{Q:aj->aG->Prop}(b':A.handled=none)
  (hit:s.heap.IsTupleIter it l i) (aF:s.heap.IsTuple l items) (hx:items[i]?=none)
  (fH:∀h' e,Heap.ExtBut it s.heap h'->(∃o,h'.get? e=some o/\o.cls=.type "StopIteration")->E (.ref e) {s with heap:=h'}):
  a4 (bh prog w) A (oj (.ref it)) Q E s:=by
 obtain⟨o,aQ,au,hd⟩:=id hit;obtain⟨ol,nU,_,nl,nQ⟩:=aF;unfold oj;refine aI (l1 (name:=Str.ofString "__next__") hit.typeIs yd
  (jL yd hit.typeIs F.entry_tuple_iterator_next ?_ (F.args_tuple_iterator_next_1 _)))
 show a4 _ _ (field (.ref it) 0 >>= _) _ _ s
 refine aI (ib aQ hd (x:=.ref l) rfl ?_)
 show a4 _ _ (if (Value.ref l==Value.none)=true then _ else _) _ _ s
 rw[if_neg (show ¬((Value.ref l==Value.none)=true) from Bool.false_ne_true)];show a4 _ _ (field (.ref it) 1 >>= _) _ _ s;refine aI (ib aQ hd (x:=.int i 0) rfl ?_);show a4 _ _ (seqItems? (.ref l) >>= _) _ _ s;refine aI (pB nU nQ ?_);simp only[Int.toNat_natCast,hx];refine aI (wpAny_rule (aI (wpAny_setField aQ hd (by simp) ?_)));show a4 _ _ (newExc (.type "StopIteration") [] >>= _) _ _ _;refine aI ?_;simp only[newExc,newTuple];refine aI (l2 ?_ (by size_fits));refine aI (m:=firstArgMember _ _) (wpAny_of_eq (a:=Value.none) (by first|rfl|(simp only[firstArgMember];rfl)) ?_);refine l2 ?_ (by size_fits);simp only[raiseNew];refine aI (wpAny_handled ?_)
 first|rw[show A.in1.handled=none from b']|rw[b']
 refine aI (bq (wpAny_throw ?_))
 exact fH _ _ (((Heap.SameBut.update ..).extBut.push _).push _) ⟨_,eQ _ rfl,rfl⟩
end
def J5{prog:cH}{w:bY}{A:cN}(b':A.handled=none)(it l:ai)(gJ:l≠it)(items:Array aj):
  Draws prog w A it [it,l] items.size (λi v=>items[i]?=some v) (λi h=>h.IsTupleIter it l i/\h.IsTuple l items) where
 live:=λ_ _ st=>let ⟨o,aQ,_⟩:=st.1;⟨o,aQ⟩
 frame:=λ_ _ _ st aV=>⟨st.1.at λo e=>aV it (by simp) o e,let ⟨o,aQ,r⟩:=st.2;⟨o,aV l (by simp) o aQ,r⟩⟩
 item:=λi s Q E hi st dF=>by
  refine Yc st.1 st.2 (x:=items[i]) (by simp[hi]) λh' Rf ip=>?_
  exact dF _ h' s.toks (by simp[hi]) ⟨Rf,st.2.extBut ip.extBut gJ⟩ ip
 done:=λs Q E st fH=>JF b' st.1 st.2 (by simp) fH
noncomputable def aeK(K:bc)(a:ai):iP:=
 ⟨λi H=>∃xs x,cW K H a xs/\xs[i]?=some x,λi H x ah=>∃p v,H p=none/\x=.ref p/\ah=upd H p (.tup [.int i,v])/\∀xs,cW K H a xs->xs[i]?=some v,λi H=>∃xs,cW K H a xs/\xs.length<=i⟩
def Ks{P:cH}{w:bY}{K:bc}{av:List a8}{k:Nat}{pos:Pos}(a it e:ai)(gJ:e≠it)(B3:a≠it)(B2:a≠e):Turn P w K (.Tuple av k pos) (aeK K a) [e,it] e (λi h=>(∃old,IsEnum h e it i old)/\h.IsTupleIter it a i) where
 mem:=by simp
 obj:=λi h st b ae=>by
  obtain⟨⟨old,he⟩,o,aQ,au,hd⟩:=st;rcases bS.mp ae with rfl|ae
  ·exact⟨_,he,λv z=>by
    have fC:Data.fields _=Data.cell v:=z;cases fC⟩
  ·have aC:b=it:=by simpa using ae
   subst aC;exact⟨o,aQ,λv z=>by rw[hd] at z;cases z⟩
 keep:=λi h h' st cG=>by
  obtain⟨⟨old,he⟩,j4⟩:=st;exact⟨⟨old,cG e (by simp) _ he⟩,j4.at λo q=>cG it (by simp) o q⟩
 item:=by
  intro X d2 hw eR au i ag s σ H E I hf st aU;subst d2 hw eR;obtain⟨xs,x,a0,hx⟩:=aU;obtain⟨its,b3,p,hz⟩:=I.tuple a0;obtain⟨u,bw,eD⟩:=b3.get hx;obtain⟨⟨old,he⟩,hit⟩:=st;obtain⟨f0,f1,f2,e9,f4,e_⟩:=hf e (by simp);obtain⟨i4,g1,g2,g3,lD,jw⟩:=hf it (by simp);have hi:i<its.toArray.size:=by
   rw[er];exact (e2.mp bw).1
  have Ci:e∉[it,a]:=by
   intro z;rcases bS.mp z with z|z
   ·exact gJ z
   ·have fC:e=a:=by simpa using z
    exact B2 fC.symm
  refine wpAny_pyNext_enum_itemD (J5 (A:=X.A.in1) (I.ok.hd au) it a B3 its.toArray) he ⟨hit,p⟩ hi gJ Ci λfY h' tk BY aQ ip dQ hv aV=>?_
  have ex:fY=u:=by
   have:=BY;rw[<- Array.getElem?_toList] at this;rw[show (its.toArray).toList=its from rfl,bw] at this;exact (ia this).symm
  subst ex;refine⟨_,rfl,wpAny_letOwnedTupleGo_enum aQ λao nS fB=>?_⟩;have ui:e<s.heap.objs.size:=cv he;have B_:it<s.heap.objs.size:=by obtain⟨o,fS,_⟩:=hit;exact cv fS
  have cU:∀b o,b≠e->b≠it->s.heap.get? b=some o->ao.get? b=some o:=λb o af bA q=>fB.extBut b o af (aV b o af bA q);have fr:H s.heap.objs.size=none:=I.bP.fresh (c_ _);have ub:ao.get? s.heap.objs.size=some {cls:=.type "tuple",data:=.seq #[.int i tk,fY]}:=fB.extBut _ _ (mX ui) dQ;have lO:∀b o,H b=some o->b≠e/\b≠it:=λb o q=>⟨λz=>(by rw[z,f0] at q;cases q),λz=>(by rw[z,i4] at q;cases q)⟩;have qo:e3 X.prog X.w (upd H s.heap.objs.size (.tup [.int i,x])) ao:=by
   intro b o q;by_cases ae:b=s.heap.objs.size
   ·subst ae;rw[es] at q;cases q;exact⟨by show 2<=cV;decide,[.int i tk,fY],.cons ⟨tk,rfl⟩ (.cons eD .nil),⟨_,ub,rfl,_,rfl⟩⟩
   ·rw[ck ae] at q;refine (I.bP b o q).lW (λc v b2 di=>cU c v ?_ ?_ di) (λc di=>?_) λc ys di=>?_
    ·rcases b2 with rfl|b2
     ·exact (lO _ _ q).1
     ·exact (lO _ _ b2).1
    ·rcases b2 with rfl|b2
     ·exact (lO _ _ q).2
     ·exact (lO _ _ b2).2
    ·rw[ck (fD di fr)];exact di
    ·rw[ck (fD di fr)];exact di
  have b9:bu.Inv X ag σ (upd H s.heap.objs.size (.tup [.int i,x])) {s with heap:=ao,toks:=tk+1}:=by
   refine I.step (g':=s.gens) (d':=s.drawn) (ch:=[e,it]) (λb ae=>?_) (λb o _ _ b2 q _=>cU b o (λz=>b2 (by simp[z])) (λz=>b2 (by simp[z])) q) (λb o _ _ b2 q _=>⟨o.slots,cU b o (λz=>b2 (by simp[z])) (λz=>b2 (by simp[z])) q⟩) (λb o _ q n=>?_)
    (λb o b2 q=>⟨o,cU b o (λz=>b2 (by simp[z])) (λz=>b2 (by simp[z])) q⟩) (λb ys q=>by rw[ck (fD q fr)];exact q) (λb o u q=>by rw[ck (fD q fr)];exact q) (λb ps q=>⟨#[],by rw[ck (fD q fr),q];simp⟩) (λm hm=>?_) qo I.bare
   ·rcases bS.mp ae with rfl|ae
    ·exact⟨e9,f1,f4,e_⟩
    ·have:b=it:=by simpa using ae
     subst this;exact⟨g3,g1,lD,jw⟩
   ·rw[ck (cX (cv q))];exact n
   ·obtain⟨o,es',ep,fS,r⟩:=hm;exact⟨o,es',ep,cU _ o (Ne.symm f1) (Ne.symm g1) fS,r⟩
  refine⟨.ref s.heap.objs.size,_,b9,rfl,⟨s.heap.objs.size,x,fr,rfl,rfl,λys bl=>by rw[I.EF bl a0];exact hx⟩,⟨⟨_,by simpa using nS⟩,ip.1.at λo q=>(fB.2 it gJ.symm).trans q⟩,λb ae=>?_⟩
  rcases bS.mp ae with rfl|ae
  ·rw[ck (cX ui)];exact f0
  ·have:b=it:=by simpa using ae
   subst this;rw[ck (cX B_)];exact i4
 done:=by
  intro X d2 hw eR au i ag s σ H E I hf st aU;subst d2 hw eR;obtain⟨xs,a0,hx⟩:=aU;obtain⟨its,b3,p,hz⟩:=I.tuple a0;obtain⟨⟨old,he⟩,hit⟩:=st;obtain⟨i4,g1,g2,g3,lD,jw⟩:=hf it (by simp);have dQ:s.TypeIs (.ref e) "enumerate":=⟨_,he,rfl⟩;have aF:=b3.length;unfold pyNext;refine aI (wpAny_attempt (l1 (name:=Str.ofString "__next__") dQ F.slot_enumerate_next
   (jL F.slot_enumerate_next dQ F.entry_enumerate_next ?_ (F.args_enumerate_next_1 _))))
  show a4 _ _ (field (.ref e) 2 >>= _) _ _ _
  refine aI (ib he rfl (x:=.ref it) rfl ?_)
  refine aI (JF (I.ok.hd au) hit (show s.heap.IsTuple a its.toArray from p) (by simp;omega) λh' x nR kF=>?_)
  obtain⟨o,aQ,b2⟩:=kF;refine aI (wpAny_isInstance (T:="StopIteration") (b:=true) ⟨o,aQ,b2⟩ isSubtype_stop ?_);exact bq ⟨rfl,I.turned (t':=s.toks) (λb o ae q=>nR b o ae q) i4 g1 g3 lD jw⟩
 self:=λ_ _ _ _ _ st h=>by
  obtain⟨⟨old,he⟩,_⟩:=st;exact wpAny_pyIter_enum he h
def R4(K:bc)(cg:fz):TI:=λσ H R=>cg σ H λvs H1=>∃a xs,vs=[.ref a]/\cW K H1 a xs/\R (aeK K a) H1
section
variable {X:a5}{av:List a8}{k:Nat}{p pos dh:Pos}{a:a8}{f:aY}
def abN{cg:fz}(aU:ee X "enumerate")(hm:X.mg "enumerate"=none)(az:hS X [a] cg)(aA:bQ [a] X.env=[(false,eval a X.env)]:=by rfl):k' X (.Tuple av k dh) (.Call (.Name "enumerate" p) [a] [] pos) (R4 X.K cg):=by
 intro ag s σ H R I h;refine Call_ (pL I aU hm PyProof.Rows.boot_enumerate (u6 (ct (az pos ag s σ H _ I h) λus s1 ⟨vs,H1,a7,a',aT⟩=>?_) aA rfl));obtain⟨a,xs,rfl,a0,q⟩:=aT;cases a' with
|cons r jG=>
  cases jG
  cases r
  obtain⟨its,b3,cQ,hz⟩:=a7.tuple a0;have o4:a<s1.heap.objs.size:=by obtain⟨o,aQ,_⟩:=cQ;exact cv aQ
  refine JE (show s1.heap.IsTuple a its.toArray from cQ) λh' he hit hv aV=>wpAny_pyIter_enum he ?_
  refine⟨s1.heap.objs.size+1,[s1.heap.objs.size+1,s1.heap.objs.size],_,_,H1,rfl,a7.kept (t':=s1.toks) aV,Ks a s1.heap.objs.size (s1.heap.objs.size+1) (Nat.succ_ne_self _) (cX o4) (cX (Nat.lt_succ_of_lt o4)),⟨⟨_,he⟩,hit⟩,λb ae=>?_,q⟩
  have eS:s1.heap.objs.size<=b:=by
   rcases bS.mp ae with rfl|ae
   ·exact pA _
   ·have:b=s1.heap.objs.size:=by simpa using ae
    rw[this];exact c_ _
  exact a7.rW eS (a7.bP.fresh eS)
def KJ{K:bc}{a:ai}{a6:ai->Prop}{H1:aD}{ts:List T}{vs:List V}(aw:cW K H1 a vs)(q:bf K a6 H1 ts vs):mf K (aeK K a) a6 H1 (enum ts) where
 go:=λi F H t aK d e=>by
  have hi:=(e2.mp e).1;simp only[enum,ej,List.length_zipIdx] at hi;obtain⟨v,af,_⟩:=q.get (ft hi);exact⟨vs,v,aK.tup _ _ aw,af⟩
 kb:=λi F H t x ah aK d e y=>by
  obtain⟨p,v,aE,rfl,rfl,y⟩:=y;have hi:=(e2.mp e).1;simp only[enum,ej,List.length_zipIdx] at hi;obtain⟨gy,af,ao⟩:=(q.aK aK).get (ft hi);have bA:=y vs (aK.tup _ _ aw);rw[af] at bA;cases bA;have a3:=Ext.laid (o:=.tup [.int i,v]) d aE;refine⟨F,a3,?_⟩;have cm:t=.tuple [.int i,ts[i]]:=by
   simp only[enum,kW,List.getElem?_zipIdx,ft hi] at e;simpa using e.symm
  subst cm;simp only[Rep];exact⟨p,_,rfl,cW.of es,bf.cons (by simp[Rep]) (bf.cons (ao.ext a3) bf.nil)⟩
 stop:=λi F H aK aF=>⟨vs,aK.tup _ _ aw,by
  simp only[enum,ej,List.length_zipIdx] at aF;rw[<- q.length];exact aF⟩
def zd(hm:X.mg "enumerate"=none)(az:cf X a f)(aU:ee X "enumerate":=by rfl)(aA:bQ [a] X.env=[(false,eval a X.env)]:=by rfl)(fB:bQ [a] X.env=(false,eval a X.env)::bQ [] X.env:=by rfl):
  la X (.Tuple av k dh) (.Call (.Name "enumerate" p) [a] [] pos) (fM (hN f)):=v3 (abN aU hm (iG az l_ fB) aA) λσ H R ⟨aO,aN,O,F,ε,ts,r,e,k⟩=>by
 simp only[fM,hN,gh,c0] at e;obtain⟨us,⟨t,cm,e⟩,rfl⟩:=e;split at e
 ·cases e
  refine⟨aO,aN,O,F,ε,_,r,cm,λv aL ah x q=>?_⟩
  simp only[Rep] at q;obtain⟨a,vs,rfl,aA,aw⟩:=q;exact⟨a,vs,rfl,aA,k _ aL ah x (KJ aA aw)⟩
 ·cases e
end
end
section
variable [bX]
structure Cl(P:cH)(w:bY)(K:bc)(mg:Str->Option aj)(base:bk)(x:Str)(k n:Nat)(d:List T->Option T):Prop where
 ex:∃bZ fd ps,fP P w K mg base d9 k bZ fd ps (spT K n d)/\mg x=some (.ref bZ)/\oi K (.ref bZ)=true/\Binds K fd ps []
section
variable {P:cH}{w:bY}{K:bc}{mg:Str->Option aj}{base:bk}{x:Str}{k n:Nat}{d:List T->Option T}
theorem Cl.mono{j:Nat}(c:Cl P w K mg base x j n d)(h:j<=k):Cl P w K mg base x k n d:=by
 obtain⟨bZ,fd,ps,F,r⟩:=c.ex;exact⟨bZ,fd,ps,F.mono h,r⟩
def Cl.mk'{bZ:ai}{fd:e1}{ps:List Str}(F:fP P w K mg base d9 k bZ fd ps (spT K n d))(m:mg x=some (.ref bZ))(aK:oi K (.ref bZ)=true)(b:Binds K fd ps []):Cl P w K mg base x k n d:=⟨bZ,fd,ps,F,m,aK,b⟩
end
section
variable {X:a5}{k n:Nat}{d:List T->Option T}{x:Str}{p pos:Pos}{e:a8}{av:List a8}{fs:List aY}
def bO(C:Cl X.prog X.w X.K X.mg X.base x k n d)(aw:ef k X.A)(az:nv X (e::av) fs)(aU:ee X x:=by rfl)(a_:fs.length=n:=by rfl)(g5:(x==("__debug__":Str))=false:=by decide)
  (he:bQ (e::av) X.env=(false,eval e X.env)::bQ av X.env:=by rfl) (hpl:(gk pos (bQ av X.env)).any (·.1)=false:=by rfl):cf X (.Call (.Name x p) (e::av) [] pos) (aq d fs):=by
 obtain⟨bZ,fd,ps,F,m,aK,b⟩:=C.ex;exact acD F aw aU m aK b az a_ g5 he hpl
def VU{i:Int}{t:Tok}(hm:X.mg x=some (.int i t))(aU:ee X x:=by rfl)(hd:(x==("__debug__":Str))=false:=by decide):cf X (.Name x pos) (U (.int i)):=tl (v:=.int i) (LA (v:=.int i) aU hm ⟨t,rfl⟩ hd) λ_ _=>by simp[Rep]
noncomputable def MD(scope sc:Scope)(N:List Str)(caps:List (Nat×Str)):Bool:=
 decide (scope.kind=.function) && scope.names.all (λy=>(decide (y.2≠.local) || decide (scope.names.lookup y.1=some .local)) && decide (y.2≠.cell) && (decide (y.2≠.free) || decide (sc.names.lookup y.1=some .cell) || decide (sc.names.lookup y.1=some .free)))
  && caps.all (λq=>decide (N[q.1]?=some q.2) && decide (scope.names.lookup q.2=some .free)) && decide ((caps.map (·.1)).Nodup)
def ads{scope sc:Scope}{own:List Str}{caps:List (Nat×Str)}(N:List Str)(o_:X.env.scope=sc)(ea:X.N=N)(au:X.calm=true)(h:MD scope sc N caps=true):pV X scope own caps:=by
 simp only[MD,cJ,List.all_eq_true,decide_eq_true_eq,Bool.or_eq_true] at h;obtain⟨⟨⟨af,ao⟩,bA⟩,c9⟩:=h;refine⟨af,λy bl aF=>?_,λy bl=>(ao y bl).1.2,λy bl hf=>?_,λq a0=>by rw[ea];exact bA q a0,c9,au⟩
 ·rcases (ao y bl).1.1 with z|z
  ·exact absurd aF z
  ·exact z
 ·have aV:X.env.kindOf y.1=sc.names.lookup y.1:=by rw[<- o_];rfl
  rw[aV];rcases (ao y bl).2 with (z|z)|z
  ·exact absurd hf z
  ·exact .inl z
  ·exact .inr z
end
def dY{P:cH}{w:bY}{K:bc}{mg:Str->Option aj}{base:bk}{x:Str}{st:Stmt}{f:ai}{fd:e1}{N ps:List Str}{k:Nat}{b:ba}(F:cO K x x st f fd)(S:c4 N ps (bJ st))(bd:Binds K fd ps [])(m:mg x=some (.ref f))
  (ae:∀(cy:aj) (A:cN) (outer:List Env) (s:aG) (H:aD) (E:hT),ef k (A.deeper (envOfC x (bJ st) s.heap.objs.size f cy)) ->
   kr (gG d9 P w K mg base N x (bJ st) f cy A outer s H E).hC (hb st) b):Cl P w K mg base x (k+1) ps.length (bE b N.length):=.mk' (ado F S ae) m F.aK bd
end
end D
end
section
namespace bu
open PySem PySem.Spec PyProof.Rows
end bu
end
section
namespace D
open PySem PySem.Spec PyProof.Rows bu
variable [bX]
section
variable {X:a5}{a b e:a8}{f g:aY}{pos:Pos}
variable {x:Str}{kP:Pos}
def adw{R:TE}{h:aY}(k:∀σ H Q,mR X.K h σ H Q->R σ H Q):∀σ H Q,uW X.K (aP h) σ H Q->bu.Ex R σ H Q:=λσ H Q ⟨aO,aN,O,F,ε,b,r,e,cG⟩=>by
 simp only[aP,c0] at e;obtain⟨t,cm,e⟩:=e;split at e
 ·cases e
  refine k σ H _ ⟨aO,aN,O,F,ε,_,r,cm,λv aL ah x q=>?_⟩
  simp only[Rep] at q;exact⟨_,q,cG aL ah x⟩
 ·cases e
end
end D
end
section
namespace D
open PySem
variable [bX]
def Rs(xs:Array Nat):Prop:=xs.toList.Pairwise (·<·)
def Cuts(xs:Array Nat)(j p:Nat):Prop:=p<=xs.size/\(∀i,i<p->∀y,xs.toList[i]?=some y->y<j)/\∀i,p<=i->∀y,xs.toList[i]?=some y->j<=y
def FX{xs:Array Nat}(h:Rs xs){i k a b:Nat}(Rc:i<=k)(az:xs.toList[i]?=some a)(ae:xs.toList[k]?=some b):a<=b:=by
 obtain⟨hi,rfl⟩:=e2.mp az;obtain⟨aV,rfl⟩:=e2.mp ae;rcases Nat.lt_or_eq_of_le Rc with q|q
 ·exact Nat.le_of_lt (List.pairwise_iff_getElem.mp h i k hi aV q)
 ·subst q;exact c_ _
theorem FQ{xs:Array Nat}(j:Nat)(h:Rs xs):∀fuel lo hi,hi - lo<=fuel->lo<=hi->hi<=xs.size->(∀i,i<lo->∀y,xs.toList[i]?=some y->y<j)->(∀i,hi<=i->∀y,xs.toList[i]?=some y->j<=y) ->
  Cuts xs j (SetTable.below.go xs j fuel lo hi)
|0,lo,hi,af,ao,bA,az,ae=>by
  have:lo=hi:=by omega
  subst this;exact⟨bA,az,ae⟩
|fuel+1,lo,hi,af,ao,bA,az,ae=>by
  unfold SetTable.below.go;by_cases c:lo<hi
  ·rw[if_pos c];have hm:(lo+hi) / 2<xs.size:=by omega
   have aU:xs.toList[(lo+hi) / 2]?=some (xs.getD ((lo+hi) / 2) j):=by
    rw[ft (by simpa using hm)];simp[Array.getD,hm]
   show Cuts xs j (if xs.getD ((lo+hi) / 2) j<j then SetTable.below.go xs j fuel ((lo+hi) / 2+1) hi else SetTable.below.go xs j fuel lo ((lo+hi) / 2))
   by_cases q:xs.getD ((lo+hi) / 2) j<j
   ·rw[if_pos q];exact FQ j h fuel _ hi (by omega) (by omega) bA (λi mK y bl=>Nat.lt_of_le_of_lt (FX h (Nat.le_of_lt_succ mK) bl aU) q) ae
   ·rw[if_neg q];exact FQ j h fuel lo _ (by omega) (by omega) (by omega) az λi mK y bl=>j' (Nat.le_of_not_lt q) (FX h mK aU bl)
  ·rw[if_neg c];have:lo=hi:=by omega
   subst this;exact⟨bA,az,ae⟩
def Ko{xs:Array Nat}(j:Nat)(h:Rs xs):Cuts xs j (SetTable.below xs j):=
 FQ j h xs.size 0 xs.size (by omega) (jK _) (c_ _) (λi z=>absurd z (Nat.not_lt_zero i)) λi z y e=>by
  rw[List.getElem?_eq_none (by simpa using z)] at e;cases e
def _J{xs:Array Nat}{j:Nat}(h:Rs xs)(n:xs[SetTable.below xs j]?≠some j):Rs (SetTable.insertAt xs (SetTable.below xs j) j):=by
 obtain⟨af,ao,bA⟩:=Ko j h;unfold Rs;rw[SetTable.toList_insertAt];generalize SetTable.below xs j=p at *;refine List.pairwise_append.mpr ⟨h.sublist (List.take_sublist _ _),iz.mpr ⟨λy bl=>?_,h.sublist (List.drop_sublist _ _)⟩,λa az b ae=>?_⟩
 ·obtain⟨i,hi⟩:=List.getElem?_of_mem bl;rw[List.getElem?_drop] at hi;have hle:j<=y:=bA _ (hH p i) y hi;refine Nat.lt_of_le_of_ne hle λe=>n ?_;subst e;rw[<- Array.getElem?_toList];have h0:p<xs.toList.length:=by
   have:=(e2.mp hi).1;omega
  have aE:xs.toList[p]?=some xs.toList[p]:=ft h0;have aT:=bA p (c_ _) _ aE;have bg:=FX h (hH p i) aE hi;rw[aE,Nat.le_antisymm bg aT]
 ·obtain⟨i,hi⟩:=List.getElem?_of_mem az;have dz:i<p:=by
   have:=(e2.mp hi).1;rw[List.length_take] at this;omega
  rw[List.getElem?_take_of_lt dz] at hi;have aed:=ao i dz a hi;rcases bS.mp ae with e|ae
  ·omega
  ·obtain⟨k,aV⟩:=List.getElem?_of_mem ae;rw[List.getElem?_drop] at aV;have:=bA _ (hH p k) b aV;omega
def Kv{t:SetTable}{j:Nat}(h:∀i,t.slot j≠.live i):t.place[SetTable.below t.place j]?≠some j:=λe=>by
 unfold SetTable.slot at h;dsimp only at h;rw[e] at h;simp at h
theorem FN{t:SetTable}{f:Nat->Int}{h:Int}:∀(n:Nat) (p:SetTable.Probe),(∀d,p.dummy=some d->t.slot d=.dummy)->∀j jV,SetTable.probe.go t f h n p=some (.empty j jV)->t.slot j=.empty/\∀d,jV=some d->t.slot d=.dummy
|0,p,aE,j,jV,e=>by cases e
|n+1,p,aE,j,jV,e=>by
  unfold SetTable.probe.go at e;have GW:∀q:SetTable.Probe,(t.advance q).dummy=q.dummy:=λq=>by
   unfold SetTable.advance;split <;> rfl
  split at e
  next q=>
   cases e
   exact⟨q,aE⟩
  next q=>exact FN n _ (λd z=>by rw[GW] at z;cases z;exact q) j jV e
  next i q=>
   split at e
   ·cases e
   ·exact FN n _ (λd z=>by rw[GW] at z;exact aE d z) j jV e
def Zz{t:SetTable}{h:Int}{j:Nat}{b:Bool}(e:t.freeSlot h=some (j,b)):t.place[SetTable.below t.place j]?≠some j:=by
 unfold SetTable.freeSlot at e;split at e
 next n4 jV q=>
  cases e
  obtain⟨af,ao⟩:=FN _ _ (λd z=>by cases z) _ _ q;cases jV with
  |none=>exact Kv λi z=>by rw[Option.getD_none,af] at z;cases z
  |some d=>exact Kv λi z=>by rw[Option.getD_some,ao d rfl] at z;cases z
 next=>cases e
def aaW(n:Nat):Rs (Array.range n):=by
 unfold Rs;simp only[Array.toList_range];exact List.pairwise_lt_range
def yv(t:SetTable)(n:Nat):Rs (t.standIn n).place/\(t.standIn n).led=t.led:=⟨aaW n,rfl⟩
def YM{t:SetTable}(h:Rs t.place)(n:Nat):Rs (t.orStandIn n).place/\(t.orStandIn n).led=t.led:=by
 unfold SetTable.orStandIn;split
 ·exact⟨h,rfl⟩
 ·exact yv t n
def _Y{t:SetTable}(h:Rs t.place)(av:Array (Int×aj))(k:Int)(x:aj):Rs (layNew t av k x).2.1.place/\(layNew t av k x).2.1.led=t.led:=by
 unfold layNew;split
 next slot j8 e=>
  have:=YM (t:=(t.put slot).1) (_J h (Zz e)) (SetTable.insertAt av (t.put slot).2 (k,x)).size;exact this
 next=>exact yv t _
def zev{t:SetTable}(av:Array (Int×aj))(n:Nat):Rs (relayAll t av n).2.1.place/\(relayAll t av n).2.1.led=t.led:=by
 unfold relayAll;split
 next t' order e=>
  dsimp only;split
  ·unfold SetTable.relaid SetTable.laid at e;simp only[Option.bind_eq_bind,c0,pure,Option.some.injEq,Prod.mk.injEq] at e;obtain⟨owner,_,rfl,_⟩:=e;refine⟨?_,rfl⟩;unfold Rs;dsimp only;rw[List.map_filterMap];refine List.Pairwise.sublist (l₂:=List.range (SetTable.sizeAbove n - 1+1)) ?_ List.pairwise_lt_range;generalize List.range (SetTable.sizeAbove n - 1+1)=l
   induction l with
   |nil=>exact .slnil
   |cons a r cK=>
    rw[List.filterMap_cons];cases q:owner.getD a none with
    |none=>simpa [q] using cK.cons a
    |some z=>simpa [q] using cK.cons₂ a
  ·exact yv t _
 next=>exact yv t _
end D
end
section
namespace D
open PySem PySem.Spec PyProof.Rows bu
section
variable [bX]
def F1{α β:Type}{R:α->β->Prop}{l f':List α}(p:f'.Perm l):∀{ks:List β},Paired R l ks->∃b8,Paired R f' b8/\b8.Perm ks:=by
 have key:∀{l f':List α},l.Perm f'->∀{ks:List β},Paired R l ks->∃b8,Paired R f' b8/\b8.Perm ks:=by
  intro l f' p
  induction p with
  |nil=>exact λh=>⟨_,h,.rfl⟩
  |cons x _ cK=>
   intro ks h;cases h with
   |cons a b=>
    obtain⟨b8,af,ao⟩:=cK b;exact⟨_,.cons a af,ao.cons _⟩
  |swap x y l=>
   intro ks h;cases h with
   |cons a b=>
    cases b with
    |cons c d=>exact⟨_,.cons c (.cons a d),.swap _ _ _⟩
  |trans _ _ cP cS=>
   intro ks h;obtain⟨eh,af,j0⟩:=cP h;obtain⟨cU,ao,dh⟩:=cS af;exact⟨cU,ao,dh.trans j0⟩
 exact λ{ks} h=>key p.symm h
theorem KD{α β:Type}{R:α->β->Prop}:∀{l f':List α} {ks b8:List β},Paired R l ks->Paired R f' b8->Paired R (l++f') (ks++b8)
|_,_,_,_,.nil,h=>h
|_,_,_,_,.cons a b,h=>.cons a (KD b h)
theorem s'{α β:Type}{R:α->β->Prop}:∀{l:List α} {ks:List β},Paired R l ks->l.length=ks.length
|_,_,.nil=>rfl
|_,_,.cons a b=>by simp[s' b]
theorem L3{α β:Type}{R:α->β->Prop}:∀{l:List α} {ks:List β},Paired R l ks->∀{i:Nat} {x:α},l[i]?=some x->∃k,ks[i]?=some k/\R x k
|_,_,.nil,i,x,e=>by simp at e
|_,_,.cons a b,0,x,e=>by
  simp at e;subst e;exact⟨_,rfl,a⟩
|_,_,.cons a b,i+1,x,e=>by
  simp only[u_] at e ⊢;exact L3 b e
def eW(w:bY):Bool:=w.params.followText "set-order"
section
variable {prog:cH}{w:bY}{K:Type}[DecidableEq K](knd:PySem.KeyKind prog w K)
def wy(e:Int×aj)(k:K):Prop:=knd.is k e.2=true
noncomputable def fl(h:bk)(a:ai)(ks:List K):Prop:=∃(av:Array (Int×aj)) (ep:Nat) (t:SetTable) (b8:List K),
 h.get? a=some {cls:=.type "set",dict:=none,data:=.set av ep t,slots:=#[]}/\ElemsOf knd av.toList/\Paired (wy knd) av.toList b8/\b8.Perm ks/\av.size<scanBound/\t.fits av.size=true/\t.led=!eW w/\Rs t.place
def gW(ks:List K)(k:K):List K:=if k∈ks then ks else ks++[k]
variable {knd}{A:cN}{E:aj->aG->Prop}{s:aG}
def fl.at'{h h':bk}{a:ai}{ks:List K}(x:fl knd h a ks)(k:∀o,h.get? a=some o->h'.get? a=some o):fl knd h' a ks:=by
 obtain⟨av,ep,t,b8,af,ao⟩:=x;exact⟨av,ep,t,b8,k _ af,ao⟩
def LG{l:List (Int×aj)}{ks:List K}(p:Paired (wy knd) l ks)(k:K):(∃e∈l,knd.is k e.2=true) <-> k∈ks:=by
 induction p with
|nil=>simp
| @cons e gu l ks a b cK=>
  simp only[bS,exists_eq_or_imp,cK];have:knd.is k e.2=true <-> k=gu:=by
   rw[KeyKind.is_eq_decide a k];simp
  rw[this]
def LZ{h:bk}{a:ai}{av es':Array (Int×aj)}{ep:Nat}{t t':SetTable}(aQ:h.get? a=some {cls:=.type "set",dict:=none,data:=.set av ep t,slots:=#[]}):
  (h.update a (Obj.putSet es' t')).get? a=some {cls:=.type "set",dict:=none,data:=.set es' (ep+1) t',slots:=#[]}:=by
 have:=Heap.get?_update_self (Obj.putSet es' t') aQ (by rw[putSet_of es' t' rfl];rfl);rw[putSet_of es' t' rfl] at this;exact this
def aaU{a:ai}{ks:List K}{k:K}{x:aj}{Q:Bool->aG->Prop}(Cb:knd.is k x=true)(o_:x.scannable=true)(cn:fl knd s.heap a ks)(Cq:ks.length+1<scanBound)
  (h:∀h' b,Heap.SameBut a s.heap h'->fl knd h' a (gW ks k)->Q b {s with heap:=h'}):a4 (bh prog w) A (setAddHashed a x (knd.hash k)) Q E s:=by
 obtain⟨av,ep,t,b8,aQ,lJ,mM,mN,ae,hf,r2,o9⟩:=id cn;have hlen:av.size=ks.length:=by rw[<- mN.length_eq,<- s' mM,hG]
 unfold setAddHashed setAddHashedIn;refine qZ (aI (wpAny_setState_of aQ rfl hf ?_));dsimp only;rw[byScan_of o_ ae lJ];simp only[↓reduceIte];unfold setAddByScan;refine aI ?_;refine aI (wpAny_rule ?_);refine aI (wpAny_setScan_of Cb aQ rfl hf lJ ?_);cases aw:List.findIdx? (λe=>knd.is k e.2) av.toList with
|some j=>
  dsimp only;obtain⟨dG,RC,_⟩:=List.findIdx?_eq_some_iff_getElem.mp aw;have aV:k∈ks:=mN.mem_iff.mp ((LG mM k).mp ⟨_,List.getElem_mem dG,RC⟩);refine bq (bq ?_);refine h s.heap _ (Heap.SameBut.refl a s.heap) ?_;rw[gW,if_pos aV];exact cn
|none=>
  dsimp only;have aV:k∉ks:=λz=>by
   obtain⟨e,he,q⟩:=(LG mM k).mpr (mN.mem_iff.mpr z);have:=List.findIdx?_eq_none_iff.mp aw e he;rw[q] at this;cases this
  have bG:gW ks k=ks++[k]:=if_neg aV;rw[bG] at h;have Rb:∀(b:Bool) {cw:aG} {fF:Unit->aG->Prop},fF () cw->a4 (bh prog w) A (match b with|true=>rule "set.scan.the-table-gave-way" | false=>pure ()) fF E cw:=
   λb cw fF a0=>by cases b <;> first|exact bq a0|exact wpAny_rule a0
  have cE:=layNew_perm t av (knd.hash k) x;have cF:=layNew_fits t av (knd.hash k) x;have jA:=_Y o9 av (knd.hash k) x;generalize eg:layNew t av (knd.hash k) x=L at cE cF jA ⊢;obtain⟨gp,t1,j8,aeb⟩:=L;dsimp only at cE cF jA ⊢;rw[Array.toList_push] at cE;have H8:ElemsOf knd gp.toList:=(lJ.push Cb o_).perm cE;obtain⟨IJ,Ip,Ij⟩:=F1 cE (KD mM (.cons (show wy knd (knd.hash k,x) k from Cb) .nil));have qk:IJ.Perm (ks++[k]):=Ij.trans (mN.append_right _);have r4:gp.size<scanBound:=by
   rw[<- hG,cE.length_eq,qX,hG,hlen];simpa using Cq
  refine aI (Rb _ ?_)
  have tail:∀(eE:SetTable) (g:Bool->Sem Unit),(∀(b:Bool) (cw:aG) (fF:Unit->aG->Prop),fF () cw->a4 (bh prog w) A (g b) fF E cw)->eE.fits gp.size=true->eE.led=!eW w->Rs eE.place ->
    a4 (bh prog w) A (do
     storeSet a gp eE
     if (!j8 && eE.tooFull)=true then do
       g (relayAll eE gp (SetTable.grown gp.size)).2.2
       storeSet a (relayAll eE gp (SetTable.grown gp.size)).1 (relayAll eE gp (SetTable.grown gp.size)).2.1
       pure (some true)
      else pure (some true)) (λr aZ=>a4 (bh prog w) A (match r with|some added=>pure added|none=>setAddHashedIn a x (knd.hash k) 99999) Q E aZ) E s:=by
   intro eE g aU f2 wO cL;refine aI (wpAny_storeSet_of aQ rfl ?_ (fits_of_scanBound r4));have Cj:=LZ (es':=gp) (t':=eE) aQ;have Jj:=Heap.SameBut.update s.heap a (Obj.putSet gp eE);split
   ·have a':=relayAll_perm eE gp (SetTable.grown gp.size);have ja:=relayAll_fits eE gp (SetTable.grown gp.size);have jG:=zev (t:=eE) gp (SetTable.grown gp.size);generalize relayAll eE gp (SetTable.grown gp.size)=N0 at a' ja jG ⊢;obtain⟨HP,t3,g2⟩:=N0;dsimp only at a' ja jG ⊢;obtain⟨Dh,RA,Ik⟩:=F1 a' Ip;have xh:HP.size<scanBound:=by
     rw[<- hG,a'.length_eq,hG];exact r4
    refine aI (aU _ _ _ ?_)
    refine aI (wpAny_storeSet_of Cj rfl ?_ (fits_of_scanBound xh))
    exact bq (bq (h _ _ (Jj.trans (Heap.SameBut.update _ a _)) ⟨HP,_,t3,Dh,LZ Cj,H8.perm a',RA,Ik.trans qk,xh,ja,jG.2.trans wO,jG.1⟩))
   ·exact bq (bq (h _ _ Jj ⟨gp,_,eE,IJ,Cj,H8,Ip,qk,r4,f2,wO,cL⟩))
  split
  ·refine aI ?_
   rw[hashByValue_scannable 8 o_];refine bq ?_;refine tail _ _ ?_ ?_ ?_ ?_
   ·intro b cw fF a0;cases b <;> first|exact bq a0|exact wpAny_rule a0
   ·split
    ·exact cF
    ·exact SetTable.fits_plain_off cF
   ·split
    ·exact jA.2.trans r2
    ·exact jA.2.trans r2
   ·split
    ·exact jA.1
    ·exact jA.1
  ·refine aI (bq ?_)
   simp only[↓reduceIte];refine tail _ _ ?_ cF (jA.2.trans r2) jA.1;intro b cw fF a0;cases b <;> first|exact bq a0|exact wpAny_rule a0
def abA(ks:List K)(k:K):(gW ks k).length<=ks.length+1:=by
 unfold gW;split <;> simp
def fx(ks:List K):List K:=ks.foldl gW []
theorem EV:∀(ks acc:List K),(ks.foldl gW acc).length<=acc.length+ks.length
| [],acc=>by simp
|k::ks,acc=>by
  rw[List.foldl_cons];have af:=EV ks (gW acc k);have ao:=abA acc k;simp only[gi];omega
def Yj{ks:List K}{i:Nat}{k:K}(e:ks[i]?=some k):fx (ks.take (i+1))=gW (fx (ks.take i)) k:=by
 obtain⟨h,rfl⟩:=e2.mp e;unfold fx;rw[List.take_succ_eq_append_getElem h,List.foldl_append];rfl
def hQ(knd:PySem.KeyKind prog w K)(v:aj)(k:K):Prop:=knd.is k v=true/\v.scannable=true
section
variable {R:Result->aG->Prop}{I:ai}{bB wr:List ai}{G:Array GenState->Array GenState->Prop}{St:Nat->aG->Prop}{items:Array aj}
def Kw(W:WalksS prog w A.in1 I bB wr G items.size (λi v=>items[i]?=some v) St)(S:ai)(nP:S∉bB){ks:List K}(bj:Paired (hQ knd) items.toList ks)(ae:items.size+1<scanBound):
  ∀(k i:Nat) (s:aG),items.size - i=k->i<=items.size->St i s->fl knd s.heap S (fx (ks.take i)) ->
   (∀aZ,Moved (S::wr) G s aZ->fl knd aZ.heap S (fx ks)->R (.ok (.ret .none)) aZ) ->
   ic (bh prog w) A (.builtin "set.update.loop" ⟨[.ref S,.ref I],[]⟩) R s:=by
 have HX:S∉wr:=λh=>nP (W.sub _ h);have i7:∀b∈wr,b∈S::wr:=λb ae=>gz _ ae;have hlen:items.size=ks.length:=by rw[<- s' bj,hG]
 intro k
 induction k with
|zero=>
  intro i s aV hi nZ cn hR;have B':i=items.size:=by omega
  subst B';refine q0 F.entry_set_update_loop ?_;rw[u7 F.plain_set_update_loop _];show a4 _ A.in1 (pyNext (.ref I) >>= _) _ _ s;refine aI (W.done s _ _ nZ λaZ hm=>?_);show a4 _ A.in1 (ret Value.none) _ _ aZ;rw[List.take_of_length_le (by omega)] at cn;exact bq (hR aZ (hm.mono i7) (cn.at' λo e=>hm.heap S _ HX e))
|succ k cK=>
  intro i s aV hi nZ cn hR;have dz:i<items.size:=by omega
  refine q0 F.entry_set_update_loop ?_
  rw[u7 F.plain_set_update_loop _];show a4 _ A.in1 (pyNext (.ref I) >>= _) _ _ s;refine aI (W.item i s _ _ dz nZ λv aZ d2 RI hm=>?_);obtain⟨key,Ri,Ig,Rj⟩:=L3 bj (by rw[Array.getElem?_toList];exact d2);have QR:fl knd aZ.heap S (fx (ks.take i)):=cn.at' λo e=>hm.heap S _ HX e;show a4 _ A.in1 (holding [v] (setAdd S v) >>= _) _ _ aZ;refine aI (qZ ?_);unfold setAdd;refine qZ ?_;refine aI (knd.pyHash (k:=key) Ig ?_);have Cq:(fx (ks.take i)).length+1<scanBound:=by
   have af:=EV (ks.take i) [];rw[List.length_take] at af;unfold fx;simp only[qY] at af;omega
  refine aaU (s:={aZ with toks:=aZ.toks+1}) Ig Rj QR Cq λh' b ur HV=>?_
  rw[<- Yj Ri] at HV;refine bq ⟨plainId_quiet F.plain_set_update_loop _,cK (i+1) _ (by omega) dz (W.frame _ aZ _ _ RI (pA _) λb ae o e=>?_) HV λuU Rp QQ=>?_⟩
  ·rw[ur.2 b (λh:b=S=>nP (by rw[<- h];exact ae))];exact e
  ·refine hR uU (Moved.trans W.gtrans ((hm.mono i7).then_heap (pA _) λb o ae e=>?_) Rp) QQ
   rw[ur.2 b (λh:b=S=>ae (by rw[h];exact mV))];exact e
end
def J8(a:aj){Q₁:aj->aG->Prop}
  (h:Q₁ (.ref s.heap.objs.size) {s with heap:=s.heap.push {cls:=.type "set",dict:=none,data:=.set #[] 0 (.fresh 0 0 (!eW w))} }):
  ic (bh prog w) A (.call (.builtin "set.__new__") ⟨[.type "set",a],[]⟩) (wants Q₁ E) s:=by
 refine codeAny_of_tree ?_
 show a4 _ A.in1 (do checkBuiltinCall "set.__new__" ⟨[.type "set",a],[]⟩;again (.builtin "set.__new__" ⟨[.type "set",a],[]⟩)) _ _ s
 refine aI (wpAny_of_eq (PySem.F.newCall_set_1 a) (bq ⟨plainId_quiet PySem.F.plain_set_new _,q0 PySem.F.entry_set_new ?_⟩))
 rw[u7 PySem.F.plain_set_new _];unfold Builtin.«set.__new__» Builtin.Frozenset.newClass;have i7:=sub_set_self;obtain⟨aE,g,d,tk,os⟩:=s;dsimp only
 wp_walk
 refine wpAny_askSetting (bq ?_)
 dsimp only;simp only[newObj];refine aI (wpAny_alloc (bq ?_));exact bq h
def LL{h:bk}:fl knd (h.push {cls:=.type "set",dict:=none,data:=.set #[] 0 (.fresh 0 0 (!eW w))}) h.objs.size []:=
 ⟨#[],0,_,[],eQ _ rfl,λe he=>by simp at he,.nil,.rfl,by decide,by rfl,rfl,List.Pairwise.nil⟩
set_option maxHeartbeats 3200000 in
def _m{l:ai}{items:Array aj}{ks:List K}{Q:aj->aG->Prop}
  (b':A.handled=none) (aF:s.heap.IsList l items) (hi:Paired (hQ knd) items.toList ks) (ae:items.size+1<scanBound)
  (h:∀(h':bk) (tk:Nat),fl knd h' s.heap.objs.size (fx ks)->(∀b o,b<s.heap.objs.size->s.heap.get? b=some o->h'.get? b=some o)->Q (.ref s.heap.objs.size) {s with heap:=h',toks:=tk}):
  a4 (bh prog w) A (call (.type "set") [.ref l]) Q E s:=by
 obtain⟨c,j6,Rr⟩:=PySem.F.called_set.mro;have Rq:=PySem.F.called_set.made;have i7:=PySem.F.called_set.sub;refine wpAny_call (codeAny_of_tree ?_);show a4 _ _ (callAny (.type "set") _) _ _ _;refine bq ⟨Code.quiet_builtin _ (by decide +kernel),q0 PySem.F.entry_type_call ?_⟩;rw[Around.under_plain (weight_type_call_type "set" [.ref l] []) rfl];have af:=PySem.F.called_set.notType;have ao:=PySem.F.called_set.canCreate;have Q9:=PySem.F.typeCall_set_1 (.ref l)
 repeat (any_goals (first|assumption|wp_step))
 refine m1 (J8 (.ref l) (E:=E) (Q₁:=λobj cw=>obj=.ref s.heap.objs.size/\cw={s with heap:=s.heap.push {cls:=.type "set",dict:=none,data:=.set #[] 0 (.fresh 0 0 (!eW w))} }) ⟨rfl,rfl⟩) λr cw aw=>?_
 cases r with
|error e=>exact aw
|ok gr=>
  cases gr with
  |ret obj=>
   obtain⟨rfl,rfl⟩:=aw;have cn:(s.heap.push {cls:=.type "set",dict:=none,data:=.set #[] 0 (.fresh 0 0 (!eW w))}).get? s.heap.objs.size=some {cls:=.type "set",dict:=none,data:=.set #[] 0 (.fresh 0 0 (!eW w))}:=eQ _ rfl;have dQ:Shared.TypeIs {s with heap:=s.heap.push {cls:=.type "set",dict:=none,data:=.set #[] 0 (.fresh 0 0 (!eW w))} } (.ref s.heap.objs.size) "set":=⟨_,cn,rfl⟩;have Rl:=PySem.F.called_set.init.lookup;have Q2:=PySem.F.called_set.init.bind (.ref s.heap.objs.size)
   repeat (any_goals (first|assumption|wp_step))
   refine m1 (codeAny_call_builtin (R:=wants (λr j5=>r=.none/\∃h' tk,j5={s with heap:=h',toks:=tk}/\fl knd h' s.heap.objs.size (fx ks) /\
     (∀b o,b<s.heap.objs.size->s.heap.get? b=some o->h'.get? b=some o)) E) PySem.F.called_set.init.plain PySem.F.entry_set_init (check_set_init_1 dQ ?_)) λEp j5 qp=>?_
   ·obtain⟨ol,nU,il,nl,nQ⟩:=aF;obtain⟨Ui,D3,U5,D8⟩:=ol;simp only at il nQ;subst il;subst nQ;have Cm:(s.heap.push {cls:=.type "set",dict:=none,data:=.set #[] 0 (.fresh 0 0 (!eW w))}).get? l=some {cls:=.type "list",dict:=D3,data:=.seq items nl,slots:=D8}:=cp _ nU;have RH:=PySem.F.sub_list_set;have RG:=PySem.F.sub_list_frozenset;have gJ:(Value.type "list"==Value.type "dict")=false:=by decide
    have h3:(s.heap.push {cls:=.type "set",dict:=none,data:=.set #[] 0 (.fresh 0 0 (!eW w))}).IsList l items:=⟨_,Cm,rfl,nl,rfl⟩;unfold Builtin.«set.__init__» noKeywords Builtin.Frozenset.updateFrom;generalize BZ:pyIter=k'
    wp_walk
    subst BZ;refine wpAny_pyIter_list h3 ?_;refine aI (wpAny_runValue ?_);have um:l<s.heap.objs.size:=cv nU;have B9:A.in1.in1.in1.handled=none:=by simp[b']
    have Cg:l≠(s.heap.push {cls:=.type "set",dict:=none,data:=.set #[] 0 (.fresh 0 0 (!eW w))}).objs.size:=by
     rw[gA];exact cX (Nat.lt_succ_of_lt um)
    have nP:s.heap.objs.size∉[(s.heap.push {cls:=.type "set",dict:=none,data:=.set #[] 0 (.fresh 0 0 (!eW w))}).objs.size,l]:=by
     rw[gA];simp only[bS,gj,d8,or_false,not_or];exact⟨cX (Nat.lt_succ_self _),mX um⟩
    refine Kw (knd:=knd) ((Walks.list B9 _ l Cg items).toS) s.heap.objs.size nP hi ae (items.size - 0) 0 _ (by omega) (jK _)
     ⟨⟨_,eQ _ rfl,rfl,rfl⟩,(h3.push _)⟩ ?o3 ?hR
    case o3=>
     refine fl.at' (LL (knd:=knd) (h:=s.heap)) λo e=>cp _ e
    case hR=>
     intro aZ hm h2;obtain⟨h',g',d',EE,iw⟩:=aZ;have lz:g'=s.gens:=hm.gens;have tR:d'=s.drawn:=hm.drawn;have jv:iw=s.os:=hm.os;subst lz;subst tR;subst jv;show a4 _ _ _ _ _ _;refine bq ?_;show a4 _ _ (ret Value.none) _ _ _;refine bq ⟨rfl,h',EE,rfl,h2,λb o ae e=>?_⟩;have B4:b≠s.heap.objs.size:=cX ae;have hu:b≠(s.heap.push {cls:=.type "set",dict:=none,data:=.set #[] 0 (.fresh 0 0 (!eW w))}).objs.size:=by
      rw[gA];exact cX (Nat.lt_succ_of_lt ae)
     exact hm.heap b o (by simp only[bS,gj,d8,or_false,not_or];exact⟨B4,hu⟩) (cp _ (cp _ e))
   ·cases Ep with
    |error e=>exact qp
    |ok BS=>
     cases BS with
     |ret r=>
      obtain⟨rfl,h',tk,rfl,h2,Ca⟩:=qp
      repeat (any_goals (first|assumption|wp_step))
      exact h _ _ h2 Ca
     |_=>exact qp.elim
  |_=>exact aw.elim
end
end
section
variable [bX]
def pC:Slot "set_iterator" "__next__" "set_iterator.__next__":=
 .of (owner:="set_iterator") (n:="__next__") (by rw[typeLookup_type,builtinLookup_eq_fast];kernel_rfl) (by decide +kernel) (by decide +kernel) (by decide +kernel)
  (by first|exact .inl (by decide +kernel)|exact .inr (by decide +kernel)) (by rw[isSubtype_type];kernel_rfl)
def JG:Slot "set_iterator" "__iter__" "set_iterator.__iter__":=
 .of (owner:="set_iterator") (n:="__iter__") (by rw[typeLookup_type,builtinLookup_eq_fast];kernel_rfl) (by decide +kernel) (by decide +kernel) (by decide +kernel)
  (by first|exact .inl (by decide +kernel)|exact .inr (by decide +kernel)) (by rw[isSubtype_type];kernel_rfl)
def EO:entryFor table "set_iterator.__next__"=some Builtin.«set_iterator.__next__»:=entryFor_of_tree (by kernel_rfl)
def J1:Manifest.owners.lookup (String.ofList ['r','o','t','a','r','e','t','i','_','t','e','s'].reverse)=some Manifest.sig_set_iterator:=by kernel_rfl
def EU(a:aj):argsOk "set_iterator.__next__" ⟨[a],[]⟩:=by
 unfold argsOk;rw[signature?_of (id:="set_iterator.__next__") (n:=['_','_','t','x','e','n','_','_']) (o:=['r','o','t','a','r','e','t','i','_','t','e','s']) (by kernel_rfl) J1]
 kernel_rfl
def Yo:entryFor table "set.__iter__"=some Builtin.«frozenset.__iter__»:=
 entryFor_alias (id':="frozenset.__iter__") (by kernel_rfl) (by decide +kernel) (by decide +kernel) (by kernel_rfl)
theorem EW{α:Type}:∀{l:List α} {i:Nat} {x:α},l[i]?=some x->(x::l.eraseIdx i).Perm l
| [],i,x,e=>by simp at e
|a::r,0,x,e=>by
  simp at e;subst e;exact .rfl
|a::r,i+1,x,e=>by
  simp only[u_] at e;rw[List.eraseIdx_cons_succ];exact (List.Perm.swap _ _ _).trans ((EW e).cons _)
theorem Lz{α:Type}(f:Nat->Nat):∀(n k:Nat) (l:List α) (out:Array α),l.length=n->(pickOrder.go f n k l out).toList.Perm (out.toList++l)
|0,k,l,out,e=>by
  rw[List.length_eq_zero_iff.mp e,pz];exact .rfl
|n+1,k,l,out,e=>by
  unfold pickOrder.go;have dz:f k % l.length<l.length:=Nat.mod_lt _ (by omega);rw[ft dz];dsimp only;have aE:=EW (ft dz);refine (Lz f n (k+1) _ _ ?_).trans ?_
  ·rw[List.length_eraseIdx];rw[if_pos dz,e];rfl
  ·rw[Array.toList_push,List.append_assoc];exact aE.append_left _
def Fn{α:Type}(f:Nat->Nat)(xs:Array α):(pickOrder f xs).toList.Perm xs.toList:=by
 have:=Lz f xs.size 0 xs.toList #[] (by simp);rw[show (#[]:Array α).toList++xs.toList=xs.toList from rfl] at this;exact this
section
variable {prog:cH}{w:bY}{A:cN}{E:aj->aG->Prop}{s:aG}
def ZG{src:Source}{n:Nat}{Q:Nat->aG->Prop}(a_:n≠0)(h:∀i,i<n->Q i {s with drawn:=s.drawn.bump src}):a4 (bh prog w) A (choose src n) Q E s:=λΓ p aeo=>by
 unfold choose;rw[Sem.wp_choose];exact⟨a_,h _ (Nat.mod_lt _ (Nat.pos_of_ne_zero a_))⟩
theorem JN{α:Type}:∀(n:Nat) (xs:List α) (s:aG) (Q:List α->aG->Prop),xs.length=n->(∀ys d,ys.Perm xs->Q ys {s with drawn:=d})->a4 (bh prog w) A (drawOrder n xs) Q E s
|0,xs,s,Q,e,h=>by
  rw[List.length_eq_zero_iff.mp e] at h ⊢;exact bq (h [] s.drawn .rfl)
|n+1,[],s,Q,e,h=>by simp at e
|n+1,x::xs,s,Q,e,h=>by
  unfold drawOrder;refine aI (ZG (by simp) λi hi=>?_);rw[ft hi];dsimp only;have aE:=EW (ft hi);refine aI (JN n _ _ _ ?_ λys d p=>?_)
  ·rw[List.length_eraseIdx];simp only[hi,if_true];simp at e ⊢;omega
  ·exact bq (h _ d ((p.cons _).trans aE))
end
def Kn{xs:Array Nat}(h:Rs xs){i:Nat}(hi:i<=xs.size)(bx:Nat)(h0:i=0->bx=0)(af:∀k,i=k+1->∃y,xs.toList[k]?=some y/\bx=y+1):SetTable.below xs bx=i:=by
 obtain⟨a,b,c⟩:=Ko bx h;generalize SetTable.below xs bx=p at *;rcases Nat.lt_trichotomy p i with q|q|q
 ·obtain⟨k,rfl⟩:∃k,i=k+1:=⟨i - 1,by omega⟩;obtain⟨y,aC,aR⟩:=af k rfl;have:=c k (by omega) y aC;omega
 ·exact q
 ·have dz:i<xs.toList.length:=by simp;omega
  have hx:xs.toList[i]?=some xs.toList[i]:=ft dz;have ao:=b i q _ hx;rcases Nat.eq_zero_or_pos i with z|z
  ·have:=h0 z;omega
  ·obtain⟨k,rfl⟩:∃k,i=k+1:=⟨i - 1,by omega⟩;obtain⟨y,aC,aR⟩:=af k rfl;have:=List.pairwise_iff_getElem.mp h k (k+1) (e2.mp aC).1 dz (by omega);obtain⟨_,rfl⟩:=e2.mp aC;omega
section
variable {prog:cH}{w:bY}{A:cN}{E:aj->aG->Prop}{s:aG}
def k3(h:bk)(a:ai)(av:Array (Int×aj))(ep:Nat)(t:SetTable):Prop:=h.get? a=some {cls:=.type "set",dict:=none,data:=.set av ep t,slots:=#[]}
def jo(h:bk)(I:ai)(fs:Array aj):Prop:=h.get? I=some {cls:=.type "set_iterator",dict:=none,data:=.fields fs,slots:=#[]}
def jo.typeIs{I:ai}{fs:Array aj}(h:jo s.heap I fs):s.TypeIs (.ref I) "set_iterator":=⟨_,h,rfl⟩
variable {a I:ai}{av:Array (Int×aj)}{ep:Nat}{t:SetTable}
def JW{bx i:Nat}{Q:Option (aj×Nat)->aG->Prop}(cn:k3 s.heap a av ep t)(hf:t.fits av.size=true)(ae:eW w=true)
  (h:Q (((pickOrder (w.params.setOrder a ep) av)[i]?).map λe=>(e.2,bx)) s):a4 (bh prog w) A (setNext a bx i ep) Q E s:=by
 unfold setNext setWalk setsByText;refine aI (wpAny_setState_of cn rfl hf ?_);dsimp only;refine aI (aI (wpAny_askSetting (bq ?_)));rw[show (bh prog w).w.params.followText "set-order"=true from ae];simp only[if_true];rw[if_neg (by simp)];refine aI (aI (wpAny_setState_of cn rfl hf ?_));dsimp only;refine aI (aI (wpAny_askSetting (bq ?_)));rw[show (bh prog w).w.params.followText "set-order"=true from ae];simp only[if_true];refine aI (wpAny_askSetting (bq (bq ?_)));exact h
def JX{bx i:Nat}{Q:Option (aj×Nat)->aG->Prop}(cn:k3 s.heap a av ep t)(hf:t.fits av.size=true)(ae:eW w=false)(aF:t.led=true)(hd:(!t.plain && decide (av.size > 1))=false)
  (h:Q (match av[SetTable.below t.place bx]?,t.place[SetTable.below t.place bx]? with|some (_,x),some j=>some (x,j+1)|_,_=>none) s):a4 (bh prog w) A (setNext a bx i ep) Q E s:=by
 unfold setNext setsByText;refine aI (wpAny_setState_of cn rfl hf ?_);dsimp only;refine aI (aI (wpAny_askSetting (bq ?_)));rw[show (bh prog w).w.params.followText "set-order"=false from ae];simp only[je,if_false];show a4 _ _ (if (!t.plain && decide (av.size > 1))=true then _ else _) _ _ _;rw[hd];simp only[je,if_false];show a4 _ _ ((if (!t.led && !av.isEmpty)=true then unsupported "set:maker-not-led" else pure ()) >>= _) _ _ _;rw[aF];simp only[Bool.not_true,Bool.false_and,je,if_false];exact aI (bq (bq h))
def JZ{bx i:Nat}{Q:Option aj->aG->Prop}(hit:jo s.heap I #[.int bx 0,.int i 0,.ref a,.int av.size 0,.int ep 0])(cn:k3 s.heap a av ep t)(hf:t.fits av.size=true){x:aj}{nx:Nat}
  (a_:∀(A:cN) (E:aj->aG->Prop) (Q:Option (aj×Nat)->aG->Prop),Q (some (x,nx)) s->a4 (bh prog w) A (setNext a bx i ep) Q E s)
  (dF:∀h',jo h' I #[.int nx 0,.int ((i+1:Nat):Int) 0,.ref a,.int av.size 0,.int ep 0]->Heap.SameBut I s.heap h'->Q (some x) {s with heap:=h'}):a4 (bh prog w) A (pyNext (.ref I)) Q E s:=by
 unfold pyNext;refine aI (wpAny_attempt (l1 (name:=Str.ofString "__next__") hit.typeIs pC (jL pC hit.typeIs EO ?_ (EU _))));unfold Builtin.«set_iterator.__next__»;refine aI (bq ?_);refine aI (wpAny_fieldsOf hit rfl ?_);dsimp only;refine aI (wpAny_setEntries_of cn rfl hf ?_);rw[if_neg (by simp)];simp only[Int.toNat_natCast];refine aI (a_ _ _ _ ?_);dsimp only;refine aI (kY hit (by simp) λaf aC bK=>?_);refine aI (kY aC (by simp) λao aR cq=>?_);refine bq ⟨_,rfl,bq (dF ao ?_ (bK.trans cq))⟩;exact aR
def ZY{Q:Option aj->aG->Prop}{s:aG}(b':A.handled=none)(dF:∀h',(∀b o,s.heap.get? b=some o->h'.get? b=some o)->Q none {s with heap:=h'}){B:Type}{fF:B->aG->Prop}:
  a4 (bh prog w) A.in1 (newExc (.type "StopIteration") [] >>= λe=>raiseNew e) fF (λe aZ=>a4 (bh prog w) A (isInstance e (.type "StopIteration") >>= λb=>if b=true then pure none else throw e) Q E aZ) s:=by
 refine aI ?_
 simp only[newExc,newTuple];refine aI (l2 ?_ (by size_fits));refine aI (m:=firstArgMember _ _) (wpAny_of_eq (a:=Value.none) (by first|rfl|(simp only[firstArgMember];rfl)) ?_);refine l2 ?_ (by size_fits);simp only[raiseNew];refine aI (wpAny_handled ?_);rw[show A.in1.handled=none from b'];refine aI (bq (wpAny_throw ?_));refine aI (wpAny_isInstance (T:="StopIteration") (b:=true) ⟨_,eQ _ rfl,rfl⟩ isSubtype_stop ?_);exact bq (dF _ λb o e=>cp _ (cp _ e))
def KH{Q:Option aj->aG->Prop}(b':A.handled=none)(dQ:s.TypeIs (.ref I) "set_iterator")
  (hm:∀{fF:Fin->aG->Prop} {kp:aj->aG->Prop},(∀h',Heap.SameBut I s.heap h'->a4 (bh prog w) A.in1 (newExc (.type "StopIteration") [] >>= λe=>raiseNew e) fF kp {s with heap:=h'})->a4 (bh prog w) A.in1 (Builtin.«set_iterator.__next__» ⟨[.ref I],[]⟩) fF kp s)
  (dF:∀h',Heap.ExtBut I s.heap h'->Q none {s with heap:=h'}):a4 (bh prog w) A (pyNext (.ref I)) Q E s:=by
 unfold pyNext;refine aI (wpAny_attempt (l1 (name:=Str.ofString "__next__") dQ pC (jL pC dQ EO ?_ (EU _))));refine hm λh' ae=>?_;exact ZY (s:={s with heap:=h'}) b' λao cU=>dF ao λb o eS e=>cU b o (ae.extBut b o eS e)
end
end
section
variable [bX]
def Yh:entryFor table "set_iterator.__iter__"=some Builtin.«dict_keyiterator.__iter__»:=
 entryFor_alias (id':="dict_keyiterator.__iter__") (by kernel_rfl) (by decide +kernel) (by decide +kernel) (by kernel_rfl)
def Ym(a:aj):argsOk "set_iterator.__iter__" ⟨[a],[]⟩:=by
 unfold argsOk;rw[signature?_of (id:="set_iterator.__iter__") (n:=['_','_','r','e','t','i','_','_']) (o:=['r','o','t','a','r','e','t','i','_','t','e','s']) (by kernel_rfl) J1]
 kernel_rfl
section
variable {prog:cH}{w:bY}{A:cN}{E:aj->aG->Prop}{s:aG}
variable {a I:ai}{av:Array (Int×aj)}{ep:Nat}{t:SetTable}
def E1{Q:aj->aG->Prop}(dQ:s.TypeIs (.ref I) "set_iterator")(h:Q (.ref I) s):a4 (bh prog w) A (pyIter (.ref I)) Q E s:=by
 refine wpAny_pyIter_slot dQ JG (jL JG dQ Yh ?_ (Ym _))
 show a4 _ _ (ret (.ref I)) _ _ s
 exact bq ⟨_,rfl,"set_iterator",_,dQ,pC.lookup,h⟩
def Lk{bx i:Nat}{Q:Option aj->aG->Prop}(b':A.handled=none)(hit:jo s.heap I #[.int bx 0,.int i 0,.ref a,.int av.size 0,.int ep 0])(cn:k3 s.heap a av ep t)(hf:t.fits av.size=true)
  (a_:∀(A:cN) (E:aj->aG->Prop) (Q:Option (aj×Nat)->aG->Prop),Q none s->a4 (bh prog w) A (setNext a bx i ep) Q E s)
  (dF:∀h',Heap.ExtBut I s.heap h'->Q none {s with heap:=h'}):a4 (bh prog w) A (pyNext (.ref I)) Q E s:=by
 refine KH b' hit.typeIs (λ{fF kp} aV=>?_) dF
 unfold Builtin.«set_iterator.__next__»;refine aI (bq ?_);refine aI (wpAny_fieldsOf hit rfl ?_);dsimp only;refine aI (wpAny_setEntries_of cn rfl hf ?_);rw[if_neg (by simp)];simp only[Int.toNat_natCast];refine aI (a_ _ _ _ ?_);dsimp only;refine aI (kY hit (by simp) λaf aC bK=>?_);exact aV af bK
def Places(h:bk)(tp:ai)(ps:List Nat):Prop:=h.get? tp=some {cls:=.type "tuple",dict:=none,data:=.seq (ps.map λ(i:Nat)=>eU i).toArray,slots:=#[]}
def _c{tp:ai}{i:Nat}{ps:List Nat}{p:Nat}{x:Int×aj}{Q:Option aj->aG->Prop}(hit:jo s.heap I #[.ref tp,.int i 0,.ref a,.int av.size 0,.int ep 0])(cn:k3 s.heap a av ep t)(hf:t.fits av.size=true)
  (aE:Places s.heap tp ps) (af:ps[i]?=some p) (ao:av[p]?=some x)
  (dF:∀h',jo h' I #[.ref tp,.int ((i+1:Nat):Int) 0,.ref a,.int av.size 0,.int ep 0]->Heap.SameBut I s.heap h'->Q (some x.2) {s with heap:=h'}):a4 (bh prog w) A (pyNext (.ref I)) Q E s:=by
 unfold pyNext;refine aI (wpAny_attempt (l1 (name:=Str.ofString "__next__") hit.typeIs pC (jL pC hit.typeIs EO ?_ (EU _))));unfold Builtin.«set_iterator.__next__»;refine aI (bq ?_);refine aI (wpAny_fieldsOf hit rfl ?_);dsimp only;refine aI (wpAny_setEntries_of cn rfl hf ?_);rw[if_neg (by simp)];unfold seqItems?;refine aI (aI (wpAny_load aE (bq ?_)));dsimp only;have aU:((ps.map λ(i:Nat)=>eU i).toArray)[i]?=some (.int p 0):=by
  simp[af,eU]
 simp only[Int.toNat_natCast];rw[aU];dsimp only;unfold setNextDrawn;refine aI (aI (wpAny_setState_of cn rfl hf ?_));dsimp only;simp only[Int.toNat_natCast,bne_self_eq_false,je,if_false,ao];refine bq ?_;refine aI (kY hit (by simp) λaf aC bK=>?_);exact bq ⟨_,rfl,bq (dF af aC bK)⟩
def aan{tp:ai}{i:Nat}{ps:List Nat}{Q:Option aj->aG->Prop}(b':A.handled=none)(hit:jo s.heap I #[.ref tp,.int i 0,.ref a,.int av.size 0,.int ep 0])(cn:k3 s.heap a av ep t)(hf:t.fits av.size=true)
  (aE:Places s.heap tp ps) (af:ps[i]?=none)
  (dF:∀h',Heap.ExtBut I s.heap h'->Q none {s with heap:=h'}):a4 (bh prog w) A (pyNext (.ref I)) Q E s:=by
 refine KH b' hit.typeIs (λ{fF kp} aV=>?_) dF
 unfold Builtin.«set_iterator.__next__»;refine aI (bq ?_);refine aI (wpAny_fieldsOf hit rfl ?_);dsimp only;refine aI (wpAny_setEntries_of cn rfl hf ?_);rw[if_neg (by simp)];unfold seqItems?;refine aI (aI (wpAny_load aE (bq ?_)));dsimp only;have aU:((ps.map λ(i:Nat)=>eU i).toArray)[i]?=none:=by
  have:=List.getElem?_eq_none_iff.mp af;simp[af]
 simp only[Int.toNat_natCast];rw[aU];dsimp only;refine aI (kY hit (by simp) λaf aC bK=>?_);refine aI (kY aC (by simp) λao aR cq=>?_);exact aV ao (bK.trans cq)
def xp(f:Nat->Nat)(av:Array (Int×aj)):List aj:=(pickOrder f av).toList.map (·.2)
def aaH(b':A.handled=none)(gJ:a≠I)(hf:t.fits av.size=true)(ae:eW w=true):
  Walks prog w A I [I,a] [I] av.size (λi v=>(xp (w.params.setOrder a ep) av)[i]?=some v) (λi h=>(∃bx:Nat,jo h I #[.int bx 0,.int i 0,.ref a,.int av.size 0,.int ep 0])/\k3 h a av ep t):=by
 have hv:(pickOrder (w.params.setOrder a ep) av).size=av.size:=by
  rw[<- hG,(Fn _ av).length_eq,hG]
 refine⟨λb ae=>by simp at ae;simp[ae],?_,?_,?_,?_⟩
 ·rintro i h h' ⟨⟨bx,x⟩,y⟩ aV;exact⟨⟨bx,aV I (by simp) _ x⟩,aV a (by simp) _ y⟩
 ·rintro i s Q E hi ⟨⟨bx,x⟩,y⟩ dF;have mK:i<(pickOrder (w.params.setOrder a ep) av).size:=by rw[hv];exact hi
  refine JZ (x:=((pickOrder (w.params.setOrder a ep) av)[i]).2) (nx:=bx) x y hf (λpT kp fF q=>JW y hf ae (by rw[ot mK];exact q)) λh' fY gX=>?_
  refine dF _ h' s.toks ?_ ⟨⟨bx,fY⟩,gX.extBut a _ gJ y⟩ λb o ae e=>gX.extBut b o (λh=>ae (by simp[h])) e
  unfold xp;rw[kW,Array.getElem?_toList,ot mK];rfl
 ·rintro s Q E ⟨⟨bx,x⟩,y⟩ dF;refine Lk b' x y hf (λpT kp fF q=>JW y hf ae (by rw[Array.getElem?_eq_none (by rw[hv];exact c_ _)];exact q)) λh' nR=>dF h' s.toks λb o ae e=>nR b o (λh=>ae (by simp[h])) e
 ·rintro i s Q E ⟨⟨bx,x⟩,y⟩ dF;exact E1 x.typeIs dF
def Mk(xs:Array Nat)(i bx:Nat):Prop:=(i=0->bx=0)/\∀k,i=k+1->∃y,xs.toList[k]?=some y/\bx=y+1
def aaJ(b':A.handled=none)(gJ:a≠I)(hf:t.fits av.size=true)(ae:eW w=false)(aF:t.led=true)(aw:Rs t.place)(hd:(!t.plain && decide (av.size > 1))=false):
  Walks prog w A I [I,a] [I] av.size (λi v=>(av.toList.map (·.2))[i]?=some v) (λi h=>(∃bx:Nat,Mk t.place i bx/\jo h I #[.int bx 0,.int i 0,.ref a,.int av.size 0,.int ep 0])/\k3 h a av ep t):=by
 have hv:t.place.size=av.size:=by
  simp only[SetTable.fits,cJ,beq_iff_eq] at hf;exact hf.1
 refine⟨λb ae=>by simp at ae;simp[ae],?_,?_,?_,?_⟩
 ·rintro i h h' ⟨⟨bx,o,x⟩,y⟩ aV;exact⟨⟨bx,o,aV I (by simp) _ x⟩,aV a (by simp) _ y⟩
 ·rintro i s Q E hi ⟨⟨bx,o,x⟩,y⟩ dF;have B5:=Kn aw (i:=i) (by omega) bx o.1 o.2;have lK:i<t.place.size:=by omega
  refine JZ (x:=(av[i]).2) (nx:=t.place[i]+1) x y hf (λpT kp fF q=>JX y hf ae aF hd (by rw[B5,ot hi,ot lK];exact q)) λh' fY gX=>?_
  refine dF _ h' s.toks (by simp[hi]) ⟨⟨_,⟨λz=>by omega,λk z=>?_⟩,fY⟩,gX.extBut a _ gJ y⟩ λb o ae e=>gX.extBut b o (λh=>ae (by simp[h])) e
  have:k=i:=by omega
  subst this;exact⟨t.place[k],by rw[Array.getElem?_toList,ot lK],rfl⟩
 ·rintro s Q E ⟨⟨bx,o,x⟩,y⟩ dF;have B5:=Kn aw (i:=av.size) (by omega) bx o.1 o.2;refine Lk b' x y hf (λpT kp fF q=>JX y hf ae aF hd (by rw[B5,Array.getElem?_eq_none (c_ _)];exact q)) λh' nR=>dF h' s.toks λb o ae e=>nR b o (λh=>ae (by simp[h])) e
 ·rintro i s Q E ⟨⟨bx,o,x⟩,y⟩ dF;exact E1 x.typeIs dF
def ZH{tp:ai}{ps:List Nat}(b':A.handled=none)(gJ:a≠I)(Rv:tp≠I)(hf:t.fits av.size=true)(r3:ps.Perm (List.range av.size)):
  Walks prog w A I [I,a,tp] [I] av.size (λi v=>(ps.map λp=>(av.getD p (0,.none)).2)[i]?=some v) (λi h=>jo h I #[.ref tp,.int i 0,.ref a,.int av.size 0,.int ep 0]/\k3 h a av ep t/\Places h tp ps):=by
 have Ce:ps.length=av.size:=by rw[r3.length_eq,List.length_range]
 refine⟨λb ae=>by simp at ae;simp[ae],?_,?_,?_,?_⟩
 ·rintro i h h' ⟨x,y,z⟩ aV;exact⟨aV I (by simp) _ x,aV a (by simp) _ y,aV tp (by simp) _ z⟩
 ·rintro i s Q E hi ⟨x,y,z⟩ dF;have lK:i<ps.length:=by omega
  have dz:ps[i]<av.size:=List.mem_range.mp (r3.mem_iff.mp (List.getElem_mem lK));refine _c x y hf z (ft lK) (ot dz) λh' fY gX=>?_;refine dF _ h' s.toks ?_ ⟨fY,gX.extBut a _ gJ y,gX.extBut tp _ Rv z⟩ λb o ae e=>gX.extBut b o (λh=>ae (by simp[h])) e;rw[kW,ft lK];simp[Array.getD,dz]
 ·rintro s Q E ⟨x,y,z⟩ dF;exact aan b' x y hf z (List.getElem?_eq_none (by omega)) λh' nR=>dF h' s.toks λb o ae e=>nR b o (λh=>ae (by simp[h])) e
 ·rintro i s Q E ⟨x,y,z⟩ dF;exact E1 x.typeIs dF
end
end
section
variable [bX]
section
variable {prog:cH}{w:bY}{K:Type}[DecidableEq K]{knd:PySem.KeyKind prog w K}{A:cN}{E:aj->aG->Prop}{s:aG}{a:ai}{ks:List K}
def F0{av:List (Int×aj)}{l:List (Int×aj)}{ks:List K}(lJ:ElemsOf knd av)(aE:Paired (wy knd) av ks)(aF:l.Perm av):∃b8,Paired (hQ knd) (l.map (·.2)) b8/\b8.Perm ks:=by
 obtain⟨b8,af,ao⟩:=F1 aF aE;refine⟨b8,?_,ao⟩;have H7:ElemsOf knd l:=lJ.perm aF;clear ao aF aE lJ
 induction af with
|nil=>exact .nil
|cons x y cK=>exact .cons ⟨x,H7.head.2⟩ (cK H7.tail)
theorem range_getD{α:Type}(d:α):∀(l:List α),(List.range l.length).map (λi=>l.getD i d)=l
| []=>rfl
|x::r=>by
  rw[gi,List.range_succ_eq_map,eK,iD];congr 1;exact range_getD d r
def fl.typeIs(h:fl knd s.heap a ks):s.TypeIs (.ref a) "set":=let ⟨_,_,_,_,h,_⟩:=h;⟨_,h,rfl⟩
def fl.lt{h:bk}(x:fl knd h a ks):a<h.objs.size:=let ⟨_,_,_,_,h,_⟩:=x;cv h
def ZZ{Q:aj->aG->Prop}(cn:fl knd s.heap a ks)
  (h:∀(I:ai) (h':bk) (d':Drawn) (vs:List aj) (b8:List K) (bB:List ai) (St:Nat->bk->Prop),Paired (hQ knd) vs b8->b8.Perm ks->(∀b o,s.heap.get? b=some o->h'.get? b=some o)->s.heap.objs.size<=I ->
   (∀b∈bB,b=a\/s.heap.objs.size<=b)->(∀A:cN,A.handled=none->Walks prog w A I bB [I] vs.length (λi v=>vs[i]?=some v) St)->St 0 h'->Q (.ref I) {s with heap:=h',drawn:=d'}):
  a4 (bh prog w) A (pyIter (.ref a)) Q E s:=by
 obtain⟨av,ep,t,b8,aQ,lJ,mM,mN,ae,hf,r2,o9⟩:=id cn;have dz:=cn.lt;refine wpAny_pyIter_slot cn.typeIs PySem.F.slot_set_iter (jL PySem.F.slot_set_iter cn.typeIs Yo ?_ (PySem.F.args_set_iter_1 _));unfold Builtin.«frozenset.__iter__»;refine aI (bq ?_);refine aI ?_;unfold Builtin.Frozenset.sizeOf;refine aI (wpAny_setEntries_of aQ rfl hf (bq ?_));refine aI ?_;unfold setDrawn;refine aI (wpAny_setState_of aQ rfl hf ?_);dsimp only;unfold setsByText;refine aI (aI (wpAny_askSetting (bq ?_)));refine bq ?_;show a4 _ _ (if (!(eW w) && (!t.plain && decide (av.size > 1)))=true then _ else _) _ _ _;have fin:∀(s1:aG) (first:aj) (nJ:Drawn) (vs:List aj) (bB:List ai) (St:Nat->bk->Prop),s1.heap.get? a=some {cls:=.type "set",dict:=none,data:=.set av ep t,slots:=#[]}->(∀b o,s.heap.get? b=some o->s1.heap.get? b=some o)->s1={s with heap:=s1.heap,drawn:=nJ} ->
   (∃b8,Paired (hQ knd) vs b8/\b8.Perm ks)->(∀b∈bB,b=a\/s.heap.objs.size<=b)->(∀A:cN,A.handled=none->Walks prog w A s1.heap.objs.size bB [s1.heap.objs.size] vs.length (λi v=>vs[i]?=some v) St) ->
   (∀ao,jo ao s1.heap.objs.size #[first,.int 0 0,.ref a,.int av.size 0,.int ep 0]->(∀b o,s1.heap.get? b=some o->ao.get? b=some o)->St 0 ao)->s.heap.objs.size<=s1.heap.objs.size ->
   a4 (bh prog w) A.in1 (do
    let e <- setEpoch a
    let v <- newFields "set_iterator" [first,eU 0,.ref a,eU av.size,eU e]
    ret v) (λfin aZ=>∃v,fin=.done (.ret v)/\∃GR r,aZ.TypeIs v GR/\typeLookup (.type GR) (Str.ofString "__next__")=pure (some r)/\Q v aZ) E s1:=by
  intro s1 first nJ vs bB St af ao bA c9 gI rX o2 QI;refine aI (wpAny_setEpoch_of af rfl hf ?_);refine aI ?_;unfold newFields;refine l2 ?_;obtain⟨Dh,QJ,QH⟩:=c9;refine bq ⟨_,rfl,"set_iterator",_,⟨_,eQ _ rfl,rfl⟩,pC.lookup,?_⟩;have:=h s1.heap.objs.size (s1.heap.push {cls:=.type "set_iterator",data:=.fields #[first,.int 0 0,.ref a,.int av.size 0,.int ep 0]}) nJ vs Dh bB St QJ QH (λb o e=>cp _ (ao b o e)) QI gI rX
   (o2 _ (eQ _ rfl) λb o e=>cp _ e)
  rw[bA];exact this
 have aC:s={s with heap:=s.heap,drawn:=s.drawn}:=rfl;have JB:∀{vs:List aj} {l:List (Int×aj)},vs=l.map (·.2)->l.Perm av.toList->vs.length=av.size:=λe p=>by
  rw[e,ej,p.length_eq,hG]
 by_cases hd:(!(eW w) && (!t.plain && decide (av.size > 1)))=true
 ·rw[if_pos hd];refine aI (JN _ _ _ _ (by simp) λps d r3=>?_);refine aI ?_;unfold newTuple;have Ce:ps.length=av.size:=by rw[r3.length_eq,List.length_range]
  have hz:=fits_of_scanBound ae;refine l2 ?_ (by show (List.map (λ(i:Nat)=>eU i) ps).toArray.size<=cV;simp[Ce];exact hz);have RB:(ps.map λp=>av.getD p (0,Value.none)).Perm av.toList:=by
   have:=(r3.map λp=>av.getD p (0,Value.none));refine this.trans (.of_eq ?_);have ao:=range_getD ((0:Int),Value.none) av.toList;rw[hG] at ao;rw[<- ao];simp[Array.getD_eq_getD_getElem?,List.getD_eq_getElem?_getD]
  refine fin {s with heap:=s.heap.push {cls:=.type "tuple",data:=.seq (List.map (λ(i:Nat)=>eU i) ps).toArray},drawn:=d} (.ref s.heap.objs.size) d (ps.map λp=>(av.getD p (0,.none)).2)
   [(s.heap.push {cls:=.type "tuple",data:=.seq (List.map (λ(i:Nat)=>eU i) ps).toArray}).objs.size,a,s.heap.objs.size] (λi h=>jo h (s.heap.push {cls:=.type "tuple",data:=.seq (List.map (λ(i:Nat)=>eU i) ps).toArray}).objs.size #[.ref s.heap.objs.size,.int i 0,.ref a,.int av.size 0,.int ep 0]/\k3 h a av ep t/\Places h s.heap.objs.size ps)
   (cp _ aQ) (λb o e=>cp _ e) rfl ?_ ?_ (λpT uk=>?_) (λao x k=>⟨x,k a _ (cp _ aQ),k _ _ (eQ _ rfl)⟩) (by rw[gA];exact pA _)
  ·have:=F0 lJ mM RB;rw[iD] at this;obtain⟨cU,aT,bg⟩:=this;exact⟨cU,aT,bg.trans mN⟩
  ·intro b eS;simp only[bS,d8,or_false] at eS;rcases eS with rfl|rfl|rfl
   ·right;rw[gA];exact pA _
   ·exact .inl rfl
   ·exact .inr (c_ _)
  ·have W:=ZH (prog:=prog) (w:=w) (A:=pT) (a:=a) (I:=(s.heap.push {cls:=.type "tuple",data:=.seq (List.map (λ(i:Nat)=>eU i) ps).toArray}).objs.size) (ep:=ep) (tp:=s.heap.objs.size) uk
    (by rw[gA];exact cX (Nat.lt_succ_of_lt dz)) (by rw[gA];exact cX (Nat.lt_succ_self _)) hf r3
   rw[ej,Ce];exact W
 ·rw[if_neg hd];refine aI (bq ?_);have kD:∀b∈[s.heap.objs.size,a],b=a\/s.heap.objs.size<=b:=λb eS=>by
   simp only[bS,d8,or_false] at eS;rcases eS with rfl|rfl
   ·exact .inr (c_ _)
   ·exact .inl rfl
  cases eS:eW w with
  |true=>
   refine fin s (eU 0) s.drawn (xp (w.params.setOrder a ep) av) [s.heap.objs.size,a] (λi h=>(∃bx:Nat,jo h s.heap.objs.size #[.int bx 0,.int i 0,.ref a,.int av.size 0,.int ep 0])/\k3 h a av ep t)
    aQ (λb o e=>e) rfl ?_ kD (λpT uk=>?_) (λao x k=>⟨⟨0,x⟩,k a _ aQ⟩) (c_ _)
   ·obtain⟨cU,aT,bg⟩:=F0 lJ mM (Fn (w.params.setOrder a ep) av);exact⟨cU,aT,bg.trans mN⟩
   ·rw[show (xp (w.params.setOrder a ep) av).length=av.size from JB rfl (Fn (w.params.setOrder a ep) av)];exact aaH uk (cX dz) hf eS
  |false=>
   rw[eS] at hd r2;have B7:(!t.plain && decide (av.size > 1))=false:=by simpa using hd
   refine fin s (eU 0) s.drawn (av.toList.map (·.2)) [s.heap.objs.size,a] (λi h=>(∃bx:Nat,Mk t.place i bx/\jo h s.heap.objs.size #[.int bx 0,.int i 0,.ref a,.int av.size 0,.int ep 0])/\k3 h a av ep t)
    aQ (λb o e=>e) rfl ?_ kD (λpT uk=>?_) (λao x k=>⟨⟨0,⟨λ_=>rfl,λk z=>by omega⟩,x⟩,k a _ aQ⟩) (c_ _)
   ·obtain⟨cU,aT,bg⟩:=F0 lJ mM .rfl;exact⟨cU,aT,bg.trans mN⟩
   ·rw[JB rfl .rfl];exact aaJ uk (cX dz) hf eS r2 o9 B7
def abj{r:ai}{Q:Bool->aG->Prop}(dQ:s.TypeIs (.ref r) "set")(h:Q false s):a4 (bh prog w) A (Builtin.List.listLengthHint (.ref r)) Q E s:=by
 unfold Builtin.List.listLengthHint;refine aI (wpAny_specialOf dQ PySem.F.slot_set_len.lookup ?_);generalize Ia:("set.__len__":String)=R7
 wp_delta
 rw[show splitId R7=some ("set","__len__") from by subst Ia;decide +kernel];subst Ia;refine aI (wpAny_isInstance (T:="set") (b:=true) dQ (by rw[isSubtype_type];kernel_rfl) ?_);refine wpAny_ite_split (λlF=>absurd lF (by decide)) (λ_=>?_);refine wpAny_ite_split (λ_=>?_) (λlF=>absurd (by decide +kernel) lF);refine aI (wpAny_typeOf dQ ?_);exact bq h
def _k{R:Result->aG->Prop}(b':A.handled=none)(o3:fl knd s.heap a ks)(S:ai)(HW:S≠a)(res:aj)(c₀:Nat)(cn:s.heap.get? S=some {cls:=.type "list",data:=.seq #[] c₀})
  (hR:∀h' tk d jU bT b8,(∀b o,b≠S->s.heap.get? b=some o->h'.get? b=some o)->h'.get? S=some {cls:=.type "list",dict:=none,data:=.seq jU bT,slots:=#[]}->Paired (hQ knd) jU.toList b8->b8.Perm ks->R (.ok (.ret res)) {s with heap:=h',toks:=tk,drawn:=d}):
  a4 (bh prog w) A.in1 (Builtin.List.listExtendWith (.ref S) (.ref a) res)
   (λfin aZ=>match fin with|.done f=>R (.ok f) aZ|.again bT=>bT.quiet=true/\ic (bh prog w) A bT R aZ) (λe aZ=>R (.error e) aZ) s:=by
 have hlen:ks.length<=cV:=by
  obtain⟨av,ep,t,b8,aQ,lJ,mM,mN,ae,_⟩:=o3;rw[<- mN.length_eq,<- s' mM,hG];exact fits_of_scanBound ae
 unfold Builtin.List.listExtendWith;refine aI (wpAny_typeOf (T:="set") o3.typeIs ?_);have af:Builtin.List.listSameRef (.ref S) (.ref a)=false:=by simp[Builtin.List.listSameRef,HW]
 have ao:(Value.type "set"==Value.type "list")=false:=by decide
 have bA:(Value.type "set"==Value.type "tuple")=false:=by decide
 simp only[af,ao,bA,Bool.or_false,je,if_false];refine aI (ZZ o3 λI h' d' vs b8 bB St bj aE aK lE kD W st=>?_);have aec:S≠I:=cX (g9 (cv cn) lE);have nP:S∉bB:=λz=>by
  rcases kD S z with q|q
  ·exact HW q
  ·exact Nat.lt_irrefl _ (g9 (cv cn) q)
 have aen:vs.length=ks.length:=by rw[s' bj,aE.length_eq]
 have key:∀(h:bk) (c₁ tk:Nat),St 0 h->(∀b o,b≠S->s.heap.get? b=some o->h.get? b=some o) ->
   h.get? S=some {cls:=.type "list",data:=.seq #[] c₁}->ic (bh prog w) A (.builtin "list.extend.loop" ⟨[.ref S,.ref I,res],[]⟩) R {s with heap:=h,toks:=tk,drawn:=d'}:=by
  intro h c₁ tk nZ aV qh;refine codeAny_extend_loopS (W A.in1 b').toS (by omega) S nP res vs.length 0 _ #[] c₁ rfl (jK _) nZ qh (ItemsOf.nil _) λaZ jU bT hm h2 H2=>?_;rw[Moved.eq_with hm];have QV:jU.toList=vs:=by
   refine List.ext_getElem? λi=>?_
   rw[Array.getElem?_toList];rcases Nat.lt_or_ge i jU.size with q|q
   ·rw[ot q,H2.2 i _ (ot q)]
   ·rw[Array.getElem?_eq_none q,List.getElem?_eq_none (by rw[<- H2.1];exact q)]
  refine hR aZ.heap aZ.toks d' jU bT b8 (λb o ae e=>hm.heap b o (λCf=>?_) (aV b o ae e)) h2 (QV▸bj) aE
  rcases bS.mp Cf with b7|Cf
  ·exact ae b7
  ·exact absurd (cv e) (by rw[gj.mp Cf];exact Nat.not_lt.mpr lE)
 have qh:=aK S _ cn;refine aI (qZ (abj (fl.typeIs (s:={s with heap:=h',drawn:=d'}) (o3.at' λo e=>aK _ o e)) ?_));refine wpAny_ite_split (λ_=>?_) (λ_=>bq ⟨plainId_quiet PySem.F.plain_extend_loop _,key _ c₀ _ st (λb o _ e=>aK b o e) qh⟩);refine aI (wpAny_rule ?_);refine aI ?_;show a4 _ _ (updateSeq S (·.push .none) >>= λ_=>updateSeq S (·.pop)) _ _ _;refine aI (wpAny_updateSeq qh rfl ?_);have HY:=Heap.get?_update_self (Obj.mapSeq (·.push Value.none)) qh rfl;refine wpAny_updateSeq (hz:=by seq_fits) HY rfl ?_;have QS:=Heap.get?_update_self (Obj.mapSeq (·.pop)) HY rfl;refine bq ⟨plainId_quiet PySem.F.plain_extend_loop _,key _ _ _ ?_ (λb o ae e=>?_) QS⟩
 ·refine (W A.in1 b').frame 0 _ _ st λb ae o e=>?_
  have H3:b≠S:=λh=>nP (h▸ae);exact (q3 _ _ (Ne.symm H3)).trans ((q3 _ _ (Ne.symm H3)).trans e)
 ·exact (q3 _ _ (Ne.symm ae)).trans ((q3 _ _ (Ne.symm ae)).trans (aK b o e))
def ZA{R:List aj->aG->Prop}(b':A.handled=none)(cn:fl knd s.heap a ks)
  (h:∀(h':bk) (tk:Nat) (d:Drawn) (vs:List aj) (b8:List K),(∀b o,s.heap.get? b=some o->h'.get? b=some o)->s.heap.objs.size<=h'.objs.size->Paired (hQ knd) vs b8->b8.Perm ks->R vs {s with heap:=h',toks:=tk,drawn:=d}):
  a4 (bh prog w) A (collect (.ref a)) R E s:=by
 have dz:=cn.lt;unfold collect;refine aI (wpAny_runValue (q0 entry_proto_collect' ?_));rw[u7 PySem.F.plain_proto_collect _];show a4 _ A.in1 (newList [] >>= λl=>again (.builtin "list.__iadd__" ⟨[l,.ref a],[]⟩)) _ _ s;refine aI (l2 ?_);refine bq ⟨plainId_quiet PySem.F.plain_list_iadd _,q0 entry_list_iadd' ?_⟩;rw[u7 PySem.F.plain_list_iadd _];have qh:(s.heap.push {cls:=.type "list",data:=.seq ([]:List aj).toArray}).get? s.heap.objs.size=some {cls:=.type "list",data:=.seq #[]}:=eQ _ rfl;show a4 _ A.in1 (Builtin.List.listExtendWith (.ref s.heap.objs.size) (.ref a) (.ref s.heap.objs.size)) _ _ _;have key:=_k (knd:=knd) (A:=A) (s:={s with heap:=s.heap.push {cls:=.type "list",data:=.seq ([]:List aj).toArray} }) (ks:=ks)
  (R:=λ(q:Result) (aZ:aG)=>∃(h':bk) (tk:Nat) (d:Drawn) (jU:Array aj) (bT:Nat) (b8:List K),q=.ok (.ret (.ref s.heap.objs.size))/\aZ={s with heap:=h',toks:=tk,drawn:=d} /\
   (∀b o,s.heap.get? b=some o->h'.get? b=some o)/\h'.get? s.heap.objs.size=some {cls:=.type "list",dict:=none,data:=.seq jU bT,slots:=#[]}/\Paired (hQ knd) jU.toList b8/\b8.Perm ks)
  b' (cn.at' λo e=>cp _ e) s.heap.objs.size (mX dz) (.ref s.heap.objs.size) 0 qh
  (λh' tk d jU bT b8 aV h2 bj aE=>⟨h',tk,d,jU,bT,b8,rfl,rfl,λb o e=>aV b o (cX (cv e)) (cp _ e),h2,bj,aE⟩)
 refine g_ key (λfin aZ x=>?_) λe aZ x=>?_
 ·cases fin with
  |done f=>
   obtain⟨h',tk,d,jU,bT,b8,e,rfl,aV,h2,bj,aE⟩:=x;cases e;show a4 _ A (load s.heap.objs.size >>= _) _ _ _;refine aI (wpAny_load h2 ?_);exact bq (h h' tk d _ b8 aV (Nat.le_of_lt (cv h2)) bj aE)
  |again c₁=>
   refine⟨x.1,m1 x.2 λq j5 y=>?_⟩
   obtain⟨h',tk,d,jU,bT,b8,rfl,rfl,aV,h2,bj,aE⟩:=y;show a4 _ A (load s.heap.objs.size >>= _) _ _ _;refine aI (wpAny_load h2 ?_);exact bq (h h' tk d _ b8 aV (Nat.le_of_lt (cv h2)) bj aE)
 ·obtain⟨_,_,_,_,_,_,b7,_⟩:=x;cases b7
end
end
section
variable [bX]
theorem EX{α:Type}{r:α->α->Prop}(GY:∀a b,r a b->r b a->a=b):∀{l m:List α},l.Perm m->l.Pairwise r->m.Pairwise r->l=m
| [],m,p,_,_=>(List.Perm.nil_eq p)
|a::l,m,p,af,ao=>by
  cases m with
  |nil=>exact absurd p.length_eq (by simp)
  |cons b m=>
   have lF:a=b:=by
    have az:a∈b::m:=p.mem_iff.mp (by simp);have ae:b∈a::l:=p.mem_iff.mpr (by simp);rcases bS.mp az with q|q
    ·exact q
    ·rcases bS.mp ae with z|z
     ·exact z.symm
     ·exact GY a b ((iz.mp af).1 b z) ((iz.mp ao).1 a q)
   subst lF;rw[EX GY (List.perm_cons a |>.mp p) (iz.mp af).2 (iz.mp ao).2]
theorem insI_perm(x:Int):∀l:List Int,(insI x l).Perm (x::l)
| []=>.rfl
|y::ys=>by
  unfold insI;split
  ·exact .rfl
  ·exact ((insI_perm x ys).cons y).trans (.swap _ _ _)
theorem sortI_perm:∀l:List Int,(sortI l).Perm l
| []=>.rfl
|x::xs=>(insI_perm x _).trans ((sortI_perm xs).cons x)
theorem LI(x:Int):∀{l:List Int},l.Pairwise (·<=·)->(insI x l).Pairwise (·<=·)
| [],_=>by simp[insI]
|y::ys,h=>by
  unfold insI;have h':=iz.mp h;split
  next q=>exact iz.mpr ⟨λz hz=>by
   rcases bS.mp hz with rfl|hz
   ·exact q
   ·exact Int.le_trans q (h'.1 z hz),h⟩
  next q=>exact iz.mpr ⟨λz hz=>by
   rcases bS.mp ((insI_perm x ys).mem_iff.mp hz) with rfl|hz
   ·omega
   ·exact h'.1 z hz,LI x h'.2⟩
theorem FJ:∀l:List Int,(sortI l).Pairwise (·<=·)
| []=>.nil
|x::xs=>LI x (FJ xs)
def K8{l m:List Int}(p:l.Perm m)(h:l.Pairwise (·<=·)):l=sortI m:=EX (λa b af ao=>Int.le_antisymm af ao) (p.trans (sortI_perm m).symm) h (FJ m)
def JV{l m:List Int}(p:l.Perm m):sortI l=sortI m:=K8 ((sortI_perm l).trans p) (FJ l)
abbrev fX(x y:Str):Prop:=strLt y x=false
def aaO(x y:Str):strLt x y=ltCps x.cps.toList y.cps.toList:=(ltCps_eq _ _).symm
def Ky{x y:Str}(h:strLt x y=true):fX x y:=by
 unfold fX strLt at *;simp only[decide_eq_true_eq,decide_eq_false_iff_not] at *;exact List.lt_asymm h
def Kx{x y z:Str}(af:fX x y)(ao:fX y z):fX x z:=by
 unfold fX strLt at *;simp only[decide_eq_false_iff_not] at *;exact List.not_lt.mpr (List.le_trans (List.not_lt.mp af) (List.not_lt.mp ao))
def K9{x y:Str}(af:fX x y)(ao:fX y x):x=y:=by
 unfold fX strLt at *;simp only[decide_eq_false_iff_not] at *;have e:x.cps.toList=y.cps.toList:=List.le_antisymm (List.not_lt.mp af) (List.not_lt.mp ao);cases x;cases y;simp only[Array.toList_inj] at e;exact congrArg _ e
def _I{x y:Str}(h:¬fX x y):strLt y x=true:=by
 unfold fX at h;simpa using h
theorem Fv(x:Str):∀l:List Str,(qt x l).Perm (x::l)
| []=>.rfl
|y::ys=>by
  unfold qt;split
  ·exact .rfl
  ·exact ((Fv x ys).cons y).trans (.swap _ _ _)
theorem sD:∀l:List Str,(hK l).Perm l
| []=>.rfl
|x::xs=>(Fv x _).trans ((sD xs).cons x)
theorem LH(x:Str):∀{l:List Str},l.Pairwise fX->(qt x l).Pairwise fX
| [],_=>by simp[qt]
|y::ys,h=>by
  unfold qt;have h':=iz.mp h;split
  next q=>
   have di:fX x y:=by simpa [fX] using q
   exact iz.mpr ⟨λz hz=>by
    rcases bS.mp hz with rfl|hz
    ·exact di
    ·exact Kx di (h'.1 z hz),h⟩
  next q=>
   have di:strLt y x=true:=by simpa using q
   exact iz.mpr ⟨λz hz=>by
    rcases bS.mp ((Fv x ys).mem_iff.mp hz) with rfl|hz
    ·exact Ky di
    ·exact h'.1 z hz,LH x h'.2⟩
theorem yZ:∀l:List Str,(hK l).Pairwise fX
| []=>.nil
|x::xs=>LH x (yZ xs)
def FI{l m:List Str}(p:l.Perm m)(h:l.Pairwise fX):l=hK m:=EX (λa b af ao=>K9 af ao) (p.trans (sD m).symm) h (yZ m)
def JU{l m:List Str}(p:l.Perm m):hK l=hK m:=FI ((sD l).trans p) (yZ l)
theorem Kf:∀(l:List Str) (p:Str),risingS p l=true->(p::l).Pairwise fX
| [],p,_=>by simp
|x::r,p,h=>by
  simp only[risingS,cJ,Bool.not_eq_true'] at h;have cK:=Kf r x h.2;have Iq:fX p x:=by
   unfold fX;rw[aaO];exact h.1
  refine iz.mpr ⟨λz hz=>?_,cK⟩
  rcases bS.mp hz with rfl|hz
  ·exact Iq
  ·exact Kx Iq ((iz.mp cK).1 z hz)
def ZM{l:List Str}(h:sortedS l=true):l.Pairwise fX:=by
 cases l with
|nil=>exact .nil
|cons x r=>exact Kf r x h
section
variable {K:Type}[DecidableEq K]
def abz{ks:List K}{k x:K}:x∈gW ks k <-> x∈ks\/x=k:=by
 unfold gW;split
 next h=>
  constructor
  ·exact .inl
  ·rintro (q|rfl)
   ·exact q
   ·exact h
 next=>simp
def _x{ks:List K}{k:K}(h:ks.Nodup):(gW ks k).Nodup:=by
 unfold gW;split
 ·exact h
 next q=>exact List.nodup_append.mpr ⟨h,by simp,λa az b ae=>by simp at ae;subst ae;rintro rfl;exact q az⟩
theorem foldl_addK:∀(ks acc:List K),acc.Nodup->(ks.foldl gW acc).Nodup/\∀x,x∈ks.foldl gW acc <-> x∈acc\/x∈ks
| [],acc,h=>⟨h,by simp⟩
|k::ks,acc,h=>by
  obtain⟨af,ao⟩:=foldl_addK ks (gW acc k) (_x h);refine⟨af,λx=>?_⟩;rw[List.foldl_cons,ao,abz,bS,or_assoc]
theorem yW{x:K}:∀{l:List K},x∈dedup l <-> x∈l
| []=>by simp[dedup]
|y::ys=>by
  unfold dedup;simp only[bS,List.mem_filter,yW (l:=ys),decide_eq_true_eq,ne_eq];by_cases e:x=y <;> simp[e]
theorem yu:∀(l:List K),(dedup l).Nodup
| []=>by simp[dedup]
|y::ys=>by
  unfold dedup;refine u4.mpr ⟨by simp,(yu ys).sublist List.filter_sublist⟩
def Yu{l m:List K}(af:l.Nodup)(ao:m.Nodup)(h:∀x,x∈l <-> x∈m):l.Perm m:=(List.perm_ext_iff_of_nodup af ao).mpr h
def JS(ks:List K):(fx ks).Perm (dedup ks):=by
 obtain⟨af,ao⟩:=foldl_addK ks [] .nil;exact Yu af (yu ks) λx=>by
  unfold fx;rw[ao,yW];simp
def Kq{J:Type}[DecidableEq J](f:J->K)(hf:∀a b,f a=f b->a=b)(l:List J):fx (l.map f)=(fx l).map f:=by
 have key:∀(l acc:List J),(l.map f).foldl gW (acc.map f)=(l.foldl gW acc).map f:=by
  intro l
  induction l with
  |nil=>intro acc;rfl
  |cons x r cK=>
   intro acc;rw[eK,List.foldl_cons,List.foldl_cons,<- cK];congr 1;unfold gW;have:f x∈acc.map f <-> x∈acc:=by
    rw[ei];exact⟨λ⟨a,az,e⟩=>hf a x e▸az,λh=>⟨x,h,rfl⟩⟩
   by_cases q:x∈acc
   ·rw[if_pos q,if_pos (this.mpr q)]
   ·rw[if_neg q,if_neg (λz=>q (this.mp z)),List.map_append];rfl
 exact key l []
end
end
section
variable [bX]
section
variable {prog:cH}{w:bY}{A:cN}{E:aj->aG->Prop}{s:aG}
inductive ry:List aj->List aj->Prop where
|D5 {vs out:List aj} {ns:List Int}:IntsAre vs ns->IntsAre out (sortI ns)->ry vs out
|D6 {vs out:List aj} {ss:List Str}:StrsAre vs ss->StrsAre out (hK ss)->ry vs out
def y1(vs:List aj):Prop:=vs.length<64/\((∃ns,IntsAre vs ns)\/∃ss,StrsAre vs ss)
def sortedHeap_at{h:bk}{a:ai}{vs:List aj}{n:Nat}{out:Array aj}(aQ:h.get? a=some (seqObj "list" vs.toArray n)):
  (∃e,(sortedHeap h a vs out).get? a=some (seqObj "list" out e))/\∀b o,b≠a->h.get? b=some o->(sortedHeap h a vs out).get? b=some o:=by
 have dz:=cv aQ;unfold sortedHeap;refine⟨?_,λb o ae e=>?_⟩
 ·have af:=get?_update_seq aQ (λ_=>(#[]:Array aj));have ao:=cp (seqObj "tuple" vs.toArray 0) af;have bA:=cp (seqObj "list" #[] 0) ao;exact⟨_,get?_update_seq bA (λ_=>out)⟩
 ·rw[q3 _ _ (Ne.symm ae)];exact cp _ (cp _ ((q3 _ _ (Ne.symm ae)).trans e))
def _E{a:ai}{vs:List aj}{n:Nat}{P:Fin->aG->Prop}(aQ:s.heap.get? a=some (seqObj "list" vs.toArray n))(aA:y1 vs)
  (h:∀out:Array aj,ry vs out.toList->P (.done (.ret .none)) {s with heap:=sortedHeap s.heap a vs out}):a4 (bh prog w) A (Builtin.«list.sort» ⟨[.ref a],[]⟩) P E s:=by
 obtain⟨HT,⟨ns,lE⟩|⟨ss,cn⟩⟩:=aA
 ·refine list_sort_tree aQ lE HT λout D1 a1 a2 iT=>h out (.D5 lE ?_)
  rw[<- K8 a2 iT];exact a1
 ·refine list_sort_treeK strKind_oneLt aQ cn.keysOf (λaez aeA rest e=>keyKind_strs (by rw[<- e];exact cn)) HT λix aE aA=>?_
  obtain⟨Et,af,ao,bA⟩:=sorted_out_str cn aE aA;refine h _ (.D6 cn ?_);rw[<- FI ao (ZM bA)];exact af
def Y9{r:ai}{C:List aj->Prop}{Q:aj->aG->Prop}
  (Q8:∀(kp:aj->aG->Prop) (R:List aj->aG->Prop),(∀h' tk d vs,(∀b o,s.heap.get? b=some o->h'.get? b=some o)->s.heap.objs.size<=h'.objs.size->C vs->R vs {s with heap:=h',toks:=tk,drawn:=d})->a4 (bh prog w) A.in1 (collect (.ref r)) R kp s)
  (t8:∀vs,C vs->y1 vs)
  (h:∀h' tk d D e vs out,C vs->ry vs out->(∀b o,s.heap.get? b=some o->h'.get? b=some o)->s.heap.objs.size<=D->h'.get? D=some (seqObj "list" out.toArray e)->Q (.ref D) {s with heap:=h',toks:=tk,drawn:=d}):
  a4 (bh prog w) A (call (.builtin "sorted") [.ref r]) Q E s:=by
 refine Calls.call_function_entry kind_sorted plain_sorted entry_sorted (args_sorted1 _) ?_
 unfold Builtin.«sorted»;refine aI (m:=checkCount "sorted" 1 1 _) (bq ?_);refine aI (Q8 _ _ λh' tk d vs aK hv c=>?_);have aA:=t8 vs c;have hz:vs.length<=cV:=by
  have:=aA.1;rw[sizeLine_eq];omega
 refine aI (wpAny_newList ?_ hz)
 have uq:(h'.push (seqObj "list" vs.toArray 0)).get? h'.objs.size=some (seqObj "list" vs.toArray 0):=eQ _ rfl;refine aI (qZ (jL slot_list_sort ⟨_,uq,rfl⟩ entry_list_sort (_E uq aA λout pv=>⟨_,rfl,?_⟩) (args_list_sort _)));obtain⟨⟨e,he⟩,aV⟩:=sortedHeap_at (out:=out) uq;refine bq ⟨_,rfl,?_⟩;exact h _ tk d h'.objs.size e vs out.toList c pv (λb o q=>aV b o (cX (cv (aK b o q))) (cp _ (aK b o q))) hv he
def ZL{K:Type}[DecidableEq K]{knd:PySem.KeyKind prog w K}{a:ai}{ks:List K}{Q:aj->aG->Prop}(b':A.handled=none)(cn:fl knd s.heap a ks)
  (t8:∀vs b8,Paired (hQ knd) vs b8->b8.Perm ks->y1 vs)
  (h:∀h' tk d D e vs out b8,Paired (hQ knd) vs b8->b8.Perm ks->ry vs out->(∀b o,s.heap.get? b=some o->h'.get? b=some o)->s.heap.objs.size<=D->h'.get? D=some (seqObj "list" out.toArray e)->Q (.ref D) {s with heap:=h',toks:=tk,drawn:=d}):
  a4 (bh prog w) A (call (.builtin "sorted") [.ref a]) Q E s:=by
 refine Y9 (C:=λvs=>∃b8,Paired (hQ knd) vs b8/\b8.Perm ks) (λkp R hR=>ZA b' cn λh' tk d vs b8 aK hz bj aE=>hR h' tk d vs aK hz ⟨b8,bj,aE⟩) (λvs ⟨b8,bj,aE⟩=>t8 vs b8 bj aE) λh' tk d D e vs out ⟨b8,bj,aE⟩ pv aK i5 he=>h h' tk d D e vs out b8 bj aE pv aK i5 he
end
section
variable {X:a5}{ag:List (ai×Obj)}{σ:bu.St}{H:aD}{s:aG}
def aag{a:ai}{o:el}{t':Nat}{d':Drawn}{h':bk}(I:Inv X ag σ H s)(k:∀b u,s.heap.get? b=some u->h'.get? b=some u)(aE:s.heap.objs.size<=a)(new:jq X.prog X.w (upd H a o) h' a o):
  Inv X ag σ (upd H a o) {s with heap:=h',toks:=t',drawn:=d'}:=
 I.call (ch:=[]) (g':=s.gens) (eY.laid k aE (I.bP.fresh aE)) (I.bP.laid k aE new) I.bare λ_ z=>nomatch z
theorem Fu:∀{us:List aj} {ns:List Int},IntsAre us ns->Vals (ns.map V.int) us
|_,_,.nil=>.nil
|_,_,.cons n t r=>.cons ⟨t,rfl⟩ (Fu r)
theorem Fl:∀{us:List aj} {ss:List Str},StrsAre us ss->Vals (ss.map V.str) us
|_,_,.nil=>.nil
|_,_,.cons n t r=>.cons ⟨t,rfl⟩ (Fl r)
theorem yG:∀{us:List aj} {ks:List bu.Key},Vals (ks.map eJ) us->Paired (hQ (jN X.prog X.w)) us ks
| [],[],_=>.nil
|_,.inl i::ks,.cons r rs=>by
  obtain⟨t,rfl⟩:=r;exact .cons ⟨Zu _ _ i t,rfl⟩ (yG rs)
|_,.inr x::ks,.cons r rs=>by
  obtain⟨t,rfl⟩:=r;exact .cons ⟨Zt _ _ x t,rfl⟩ (yG rs)
theorem Ft:∀{us:List aj} {ks:List bu.Key} {ns:List Int},Paired (hQ (jN X.prog X.w)) us ks->ks=ns.map Sum.inl->IntsAre us ns
|_,_,[],.nil,_=>.nil
|_,_,n::ns,.cons a b,e=>by
  cases e
  have a1:=a.1;rw[Kj] at a1;rcases l5 a1 with ⟨i,t,aC,rfl⟩|⟨x,t,aC,rfl⟩
  ·cases aC
   exact .cons _ t (Ft b rfl)
  ·cases aC
theorem Fs:∀{us:List aj} {ks:List bu.Key} {ss:List Str},Paired (hQ (jN X.prog X.w)) us ks->ks=ss.map Sum.inr->StrsAre us ss
|_,_,[],.nil,_=>.nil
|_,_,n::ns,.cons a b,e=>by
  cases e
  have a1:=a.1;rw[Kj] at a1;rcases l5 a1 with ⟨i,t,aC,rfl⟩|⟨x,t,aC,rfl⟩
  ·cases aC
  ·cases aC
   exact .cons _ t (Fs b rfl)
def yo{α β:Type}(f:α->β):∀{l:List α} {m:List β},m.Perm (l.map f)->∃f':List α,m=f'.map f/\f'.Perm l:=by
 intro l m p;generalize hx:l.map f=lf at p
 induction p generalizing l with
|nil=>
  rw[List.map_eq_nil_iff] at hx;subst hx;exact⟨[],rfl,.rfl⟩
|cons x _ cK=>
  cases l with
  |nil=>cases hx
  |cons a r=>
   simp only[eK,List.cons.injEq] at hx;obtain⟨f',e,q⟩:=cK hx.2;exact⟨a::f',by rw[eK,hx.1,e],q.cons a⟩
|swap x y r=>
  match l,hx with
  |a::b::bU,hx=>
   simp only[eK,List.cons.injEq] at hx;exact⟨b::a::bU,by rw[eK,eK,hx.1,hx.2.1,hx.2.2],.swap _ _ _⟩
|trans _ _ cP cS=>
  obtain⟨cE,aC,aT⟩:=cS hx;obtain⟨cF,aR,bg⟩:=cP aC.symm;exact⟨cF,aR,bg.trans aT⟩
def oc(X:a5)(l:ai)(ks:List bu.Key):el:=.ext λh=>fl (jN X.prog X.w) h l ks
def aav(au:X.calm=true):hl X (.type "set") (λxs H Q=>∃p ks,xs=[.ref p]/\e5 X.K H p (ks.map eJ)/\ks.length<64/\∀l,H l=none->Q (.ref l) (upd H l (oc X l (fx ks)))):=by
 intro ag s σ H xs us Q I r h;obtain⟨p,ks,rfl,a0,hz,q⟩:=h;obtain⟨u,rfl,aS⟩:=vals1 r;cases aS;obtain⟨its,bU,cQ,Cu⟩:=I.list a0;have hlen:=bU.length;rw[ej] at hlen;refine _m (knd:=jN X.prog X.w) (ks:=ks) (I.ok.hd au) cQ.isList (yG (by simpa using bU)) (by simp only[er];unfold scanBound;omega) λh' tk cn aK=>?_;refine⟨.ref s.heap.objs.size,_,I.laid (t':=tk) (o:=oc X s.heap.objs.size (fx ks)) (λb o e=>aK b o (cv e) e) (c_ _) ⟨cn,?_,λaf ao x k=>x.at' k⟩,rfl,q _ (I.bP.fresh (c_ _))⟩;obtain⟨av,ep,t,b8,aQ,_⟩:=cn;exact⟨_,aQ⟩
def tj(ks:List bu.Key)(ys:List V):Prop:=(∃ns:List Int,ks=ns.map Sum.inl/\ys=(sortI ns).map V.int)\/∃ss:List Str,ks=ss.map Sum.inr/\ys=(hK ss).map V.str
def aaR{vs out:List aj}{ks b8:List bu.Key}{ys:List V}(bj:Paired (hQ (jN X.prog X.w)) vs b8)(aE:b8.Perm ks)(pv:ry vs out)(aV:tj ks ys):Vals ys out:=by
 rcases aV with ⟨ns,rfl,rfl⟩|⟨ss,rfl,rfl⟩
 ·obtain⟨D1,rfl,nW⟩:=yo Sum.inl aE;have lE:=Ft bj rfl;cases pv with
  |D5 a b=>
   rename_i ms
   rw[<- JV nW,show D1=ms from ?_]
   ·exact Fu b
   ·rw[<- IntsAre.numsOf lE,<- IntsAre.numsOf a]
  |D6 a b=>
   cases a with
   |nil=>
    cases lE
    have:ns=[]:=List.Perm.eq_nil nW.symm;subst this;exact Fl b
   |cons x t _=>cases lE
 ·obtain⟨Et,rfl,nW⟩:=yo Sum.inr aE;have cn:=Fs bj rfl;cases pv with
  |D6 a b=>
   rename_i ms
   rw[<- JU nW,show Et=ms from ?_]
   ·exact Fl b
   ·rw[<- StrsAre.strs cn,<- StrsAre.strs a]
  |D5 a b=>
   cases a with
   |nil=>
    cases cn
    have:ss=[]:=List.Perm.eq_nil nW.symm;subst this;exact Fu b
   |cons x t _=>cases cn
def Yz{vs:List aj}{ks b8:List bu.Key}{ys:List V}(hz:ks.length<64)(bj:Paired (hQ (jN X.prog X.w)) vs b8)(aE:b8.Perm ks)(aV:tj ks ys):y1 vs:=by
 refine⟨by rw[s' bj,aE.length_eq];exact hz,?_⟩
 rcases aV with ⟨ns,rfl,_⟩|⟨ss,rfl,_⟩
 ·obtain⟨D1,rfl,_⟩:=yo Sum.inl aE;exact .inl ⟨_,Ft bj rfl⟩
 ·obtain⟨Et,rfl,_⟩:=yo Sum.inr aE;exact .inr ⟨_,Fs bj rfl⟩
def _F{ks:List bu.Key}{ys:List V}(h:tj ks ys):ys.length=ks.length:=by
 rcases h with ⟨ns,rfl,rfl⟩|⟨ss,rfl,rfl⟩
 ·simp[(sortI_perm ns).length_eq]
 ·simp[(sD ss).length_eq]
def Y2(au:X.calm=true):hl X (.builtin "sorted") (λxs H Q=>∃p ks ys,xs=[.ref p]/\H p=some (oc X p ks)/\ks.length<64/\tj ks ys/\∀l,H l=none->Q (.ref l) (upd H l (.lst ys))):=by
 intro ag s σ H xs us Q I r h;obtain⟨p,ks,ys,rfl,a0,hz,aV,q⟩:=h;obtain⟨u,rfl,aS⟩:=vals1 r;cases aS;have cn:fl (jN X.prog X.w) s.heap p ks:=(I.bP p _ a0).1;refine ZL (I.ok.hd au) cn (λvs b8 bj aE=>Yz hz bj aE aV) λh' tk d D e vs out b8 bj aE pv aK i5 he=>?_;exact⟨.ref D,_,aag I (o:=.lst ys) aK i5 ⟨by rw[_F aV,sizeLine_eq];omega,out,e,aaR bj aE pv aV,he⟩,rfl,q _ (I.bP.fresh i5)⟩
end
end
section
variable [bX]
theorem yV:∀{ts:List T} {ns:List Int},intsOf ts=some ns->ts=ns.map .int
| [],ns,e=>by
  cases e
  rfl
|t::ts,ns,e=>by
  unfold intsOf at e;split at e
  ·rename_i h
   cases h
  ·rename_i h
   cases h
   simp only[gh] at e;obtain⟨r,aC,rfl⟩:=e;rw[yV aC];rfl
  ·cases e
theorem yH:∀{ts:List T} {ss:List Str},strsOf ts=some ss->ts=ss.map .str
| [],ns,e=>by
  cases e
  rfl
|t::ts,ns,e=>by
  unfold strsOf at e;split at e
  ·rename_i h
   cases h
  ·rename_i h
   cases h
   simp only[gh] at e;obtain⟨r,aC,rfl⟩:=e;rw[yH aC];rfl
  ·cases e
section
variable {K:bc}{F:ai->Prop}{H:aD}
theorem Fm:∀(ns:List Int),bf K F H (ns.map .int) (ns.map V.int)
| []=>bf.nil
|n::ns=>bf.cons (by simp[Rep]) (Fm ns)
theorem KC:∀(ns:List Str),bf K F H (ns.map .str) (ns.map V.str)
| []=>bf.nil
|n::ns=>bf.cons (by simp[Rep]) (KC ns)
theorem Fb:∀{ns:List Int} {vs:List V},bf K F H (ns.map .int) vs->vs=ns.map V.int
| [],vs,h=>by simpa [bf] using h
|n::ns,vs,h=>by
  simp only[eK,bf,Rep] at h;obtain⟨v,r,rfl,rfl,z⟩:=h;rw[Fb z];rfl
theorem E':∀{ns:List Str} {vs:List V},bf K F H (ns.map .str) vs->vs=ns.map V.str
| [],vs,h=>by simpa [bf] using h
|n::ns,vs,h=>by
  simp only[eK,bf,Rep] at h;obtain⟨v,r,rfl,rfl,z⟩:=h;rw[E' z];rfl
end
noncomputable def m5:List T->Option T
| [.list xs]=>if xs.length<64 then
   match intsOf xs with
   |some ns=>some (.list ((sortI (dedup ns)).map .int))
   |none=>(strsOf xs).map λss=>.list ((hK (dedup ss)).map .str)
  else none
|_=>none
end
section
variable [bX]
section
variable {prog:cH}{w:bY}{K:Type}[DecidableEq K]{knd:PySem.KeyKind prog w K}{A:cN}{E:aj->aG->Prop}{s:aG}
set_option maxHeartbeats 3200000 in
def ZC{l:ai}{items:Array aj}{ks:List K}{Q:aj->aG->Prop}
  (b':A.handled=none) (aF:s.heap.IsTuple l items) (hi:Paired (hQ knd) items.toList ks) (ae:items.size+1<scanBound)
  (h:∀(h':bk) (tk:Nat),fl knd h' s.heap.objs.size (fx ks)->(∀b o,b<s.heap.objs.size->s.heap.get? b=some o->h'.get? b=some o)->Q (.ref s.heap.objs.size) {s with heap:=h',toks:=tk}):
  a4 (bh prog w) A (call (.type "set") [.ref l]) Q E s:=by
 obtain⟨c,j6,Rr⟩:=PySem.F.called_set.mro;have Rq:=PySem.F.called_set.made;have i7:=PySem.F.called_set.sub;refine wpAny_call (codeAny_of_tree ?_);show a4 _ _ (callAny (.type "set") _) _ _ _;refine bq ⟨Code.quiet_builtin _ (by decide +kernel),q0 PySem.F.entry_type_call ?_⟩;rw[Around.under_plain (weight_type_call_type "set" [.ref l] []) rfl];have af:=PySem.F.called_set.notType;have ao:=PySem.F.called_set.canCreate;have Q9:=PySem.F.typeCall_set_1 (.ref l)
 repeat (any_goals (first|assumption|wp_step))
 refine m1 (J8 (.ref l) (E:=E) (Q₁:=λobj cw=>obj=.ref s.heap.objs.size/\cw={s with heap:=s.heap.push {cls:=.type "set",dict:=none,data:=.set #[] 0 (.fresh 0 0 (!eW w))} }) ⟨rfl,rfl⟩) λr cw aw=>?_
 cases r with
|error e=>exact aw
|ok gr=>
  cases gr with
  |ret obj=>
   obtain⟨rfl,rfl⟩:=aw;have cn:(s.heap.push {cls:=.type "set",dict:=none,data:=.set #[] 0 (.fresh 0 0 (!eW w))}).get? s.heap.objs.size=some {cls:=.type "set",dict:=none,data:=.set #[] 0 (.fresh 0 0 (!eW w))}:=eQ _ rfl;have dQ:Shared.TypeIs {s with heap:=s.heap.push {cls:=.type "set",dict:=none,data:=.set #[] 0 (.fresh 0 0 (!eW w))} } (.ref s.heap.objs.size) "set":=⟨_,cn,rfl⟩;have Rl:=PySem.F.called_set.init.lookup;have Q2:=PySem.F.called_set.init.bind (.ref s.heap.objs.size)
   repeat (any_goals (first|assumption|wp_step))
   refine m1 (codeAny_call_builtin (R:=wants (λr j5=>r=.none/\∃h' tk,j5={s with heap:=h',toks:=tk}/\fl knd h' s.heap.objs.size (fx ks) /\
     (∀b o,b<s.heap.objs.size->s.heap.get? b=some o->h'.get? b=some o)) E) PySem.F.called_set.init.plain PySem.F.entry_set_init (check_set_init_1 dQ ?_)) λEp j5 qp=>?_
   ·obtain⟨ol,nU,il,nl,nQ⟩:=aF;obtain⟨Ui,D3,U5,D8⟩:=ol;simp only at il nQ;subst il;subst nQ;have Cm:(s.heap.push {cls:=.type "set",dict:=none,data:=.set #[] 0 (.fresh 0 0 (!eW w))}).get? l=some {cls:=.type "tuple",dict:=D3,data:=.seq items nl,slots:=D8}:=cp _ nU;have RH:=PySem.F.sub_tuple_set;have RG:=PySem.F.sub_tuple_frozenset;have gJ:(Value.type "tuple"==Value.type "dict")=false:=by decide
    have h3:(s.heap.push {cls:=.type "set",dict:=none,data:=.set #[] 0 (.fresh 0 0 (!eW w))}).IsTuple l items:=⟨_,Cm,rfl,nl,rfl⟩;unfold Builtin.«set.__init__» noKeywords Builtin.Frozenset.updateFrom;generalize BZ:pyIter=k'
    wp_walk
    subst BZ;refine su h3 ?_;refine aI (wpAny_runValue ?_);have um:l<s.heap.objs.size:=cv nU;have B9:A.in1.in1.in1.handled=none:=by simp[b']
    have Cg:l≠(s.heap.push {cls:=.type "set",dict:=none,data:=.set #[] 0 (.fresh 0 0 (!eW w))}).objs.size:=by
     rw[gA];exact cX (Nat.lt_succ_of_lt um)
    have nP:s.heap.objs.size∉[(s.heap.push {cls:=.type "set",dict:=none,data:=.set #[] 0 (.fresh 0 0 (!eW w))}).objs.size,l]:=by
     rw[gA];simp only[bS,gj,d8,or_false,not_or];exact⟨cX (Nat.lt_succ_self _),mX um⟩
    refine Kw (knd:=knd) ((Walks.tuple B9 _ l Cg items).toS) s.heap.objs.size nP hi ae (items.size - 0) 0 _ (by omega) (jK _)
     ⟨⟨_,eQ _ rfl,rfl,rfl⟩,(h3.push _)⟩ ?o3 ?hR
    case o3=>
     refine fl.at' (LL (knd:=knd) (h:=s.heap)) λo e=>cp _ e
    case hR=>
     intro aZ hm h2;obtain⟨h',g',d',EE,iw⟩:=aZ;have lz:g'=s.gens:=hm.gens;have tR:d'=s.drawn:=hm.drawn;have jv:iw=s.os:=hm.os;subst lz;subst tR;subst jv;show a4 _ _ _ _ _ _;refine bq ?_;show a4 _ _ (ret Value.none) _ _ _;refine bq ⟨rfl,h',EE,rfl,h2,λb o ae e=>?_⟩;have B4:b≠s.heap.objs.size:=cX ae;have hu:b≠(s.heap.push {cls:=.type "set",dict:=none,data:=.set #[] 0 (.fresh 0 0 (!eW w))}).objs.size:=by
      rw[gA];exact cX (Nat.lt_succ_of_lt ae)
     exact hm.heap b o (by simp only[bS,gj,d8,or_false,not_or];exact⟨B4,hu⟩) (cp _ (cp _ e))
   ·cases Ep with
    |error e=>exact qp
    |ok BS=>
     cases BS with
     |ret r=>
      obtain⟨rfl,h',tk,rfl,h2,Ca⟩:=qp
      repeat (any_goals (first|assumption|wp_step))
      exact h _ _ h2 Ca
     |_=>exact qp.elim
  |_=>exact aw.elim
end
end
section
variable [bX]
section
variable {X:a5}{a b e:a8}{av rest:List a8}{f g:aY}{fs:List aY}{p dh pos qH:Pos}
def gP{op:BoolOp}(h:cf X a f):cf X (.BoolOp op [a] pos) f:=L2 h
def Ms{op:BoolOp}(h:cf X a f):cf X (.BoolOp op [a] pos) f:=L2 h
def ec(az:cf X a f)(ae:cf X (.BoolOp .And (b::rest) pos) g):cf X (.BoolOp .And (a::b::rest) pos) (dr f g):=eu (acX az ae) λσ H Q ⟨aO,aN,O,F,ε,t,r,e,k⟩=>by
 simp only[dr,c0] at e;obtain⟨x,ex,e⟩:=e;refine⟨aO,aN,O,F,ε,x,r,ex,λv a6 H1 a3 aS=>?_⟩;split at e
 ·simp only[Rep] at aS;refine⟨true,aS,?_⟩;rw[if_pos rfl];exact⟨aO,aN,O,a6,ε,t,r.ext a3,e,λv aL ah cu q=>k v aL ah (a3.trans cu) q⟩
 ·cases e
  simp only[Rep] at aS;refine⟨false,aS,?_⟩;rw[if_neg (by decide)];exact k _ a6 H1 a3 (by simp[Rep])
 ·cases e
def Ej(az:cf X a f)(ae:cf X (.BoolOp .Or (b::rest) pos) g):cf X (.BoolOp .Or (a::b::rest) pos) (ph f g):=eu (adN az ae) λσ H Q ⟨aO,aN,O,F,ε,t,r,e,k⟩=>by
 simp only[ph,c0] at e;obtain⟨x,ex,e⟩:=e;refine⟨aO,aN,O,F,ε,x,r,ex,λv a6 H1 a3 aS=>?_⟩;split at e
 ·simp only[Rep] at aS;refine⟨false,aS,?_⟩;rw[if_neg (by decide)];exact⟨aO,aN,O,a6,ε,t,r.ext a3,e,λv aL ah cu q=>k v aL ah (a3.trans cu) q⟩
 ·cases e
  simp only[Rep] at aS;refine⟨true,aS,?_⟩;rw[if_pos rfl];exact k _ a6 H1 a3 (by simp[Rep])
 ·cases e
def Mt(az:cf X a f):cf X (.UnaryOp .Not a pos) (r9 f):=eu (acP az) λσ H Q ⟨aO,aN,O,F,ε,t,r,e,k⟩=>by
 simp only[r9,c0] at e;obtain⟨x,ex,e⟩:=e;refine⟨aO,aN,O,F,ε,x,r,ex,λv a6 H1 a3 aS=>?_⟩;split at e
 ·cases e
  simp only[Rep] at aS;exact⟨_,aS,k _ a6 H1 a3 (by simp[Rep])⟩
 ·cases e
def Gg(hm:X.mg "list"=none)(az:nu X (e::av) fs)(aU:ee X "list":=by rfl)(he:bQ (e::av) X.env=(false,eval e X.env)::bQ av X.env:=by rfl)(hpl:(gk pos (bQ av X.env)).any (·.1)=false:=by rfl):
  cf X (.Call (.Name "list" p) (e::av) [] pos) (aq iL fs):=eu (Fo Y3 aU hm (by decide +kernel) az (he:=he) (hpl:=hpl)) (sX (by
 intro O F H ts t vs Q d q e k;unfold iL at e;split at e
 ·cases e
  cases q with
  |cons aT bg=>
   cases bg
   obtain⟨kH,ws,rfl,aF,aw⟩:=aT.tup;refine⟨kH,ws,rfl,.inr aF,λl h3=>?_⟩;have a3:=Ext.uC (o:=.lst ws) d h3;refine k _ _ _ a3 ?_;simp only[Rep];exact⟨l,ws,rfl,.inr rfl,.inl es,aw.ext a3⟩
 ·cases e
  cases q with
  |cons aT bg=>
   cases bg
   obtain⟨kH,ws,rfl,aF,aw⟩:=aT.lst;refine⟨kH,ws,rfl,.inl (.inl aF),λl h3=>?_⟩;have a3:=Ext.uC (o:=.lst ws) d h3;refine k _ _ _ a3 ?_;simp only[Rep];exact⟨l,ws,rfl,.inr rfl,.inl es,aw.ext a3⟩
 ·cases e))
def si(K:bc)(f:Ev->Option (Option Int)):cR:=λσ H Q=>∃aO aN O F ε i,c8 K aO aN O F H ε σ/\f ε=some i/\∀aL ah,Ext F H aL ah->Q i ah
def Mm{x:Option a8}{t t':cR}(h:ku X x t)(k:∀σ H Q,t' σ H Q->t σ H Q):ku X x t':=λag s σ H Q I q=>h ag s σ H Q I (k σ H Q q)
def vQ:ku X none (si X.K optN):=Mm abL λσ H Q ⟨aO,aN,O,F,ε,i,r,e,k⟩=>by
 cases e
 exact k F H (Ext.refl r.cB)
def vP(h:dU X a f):ku X (some a) (si X.K (opt f)):=Mm (abK h) λσ H Q ⟨aO,aN,O,F,ε,i,r,e,k⟩=>by
 simp only[opt,c0] at e;obtain⟨x,ex,e⟩:=e;refine⟨aO,aN,O,F,ε,x,r,ex,λv a6 H1 a3 aS=>?_⟩;split at e
 ·cases e
  exact⟨_,aS.int,k a6 H1 a3⟩
 ·cases e
noncomputable def V2(K:bc):V->Option Int->Option Int->aD->c5->Prop:=λx lo hi H Q=>∃a xs,x=.ref a/\cW K H a xs/\(ez.b0 xs.length 0 lo=0/\ez.b0 xs.length xs.length hi=xs.length)/\Q (.ref a) H
def Ya{prog:cH}{w:bY}{A:cN}{E:aj->aG->Prop}{s:aG}{t bx:ai}{items:Array aj}{fK fc:aj}{lo hi:Option Int}{Q:aj->aG->Prop}(aM:IsTup s.heap t items)(aA:s.heap.IsSliceOf bx fK fc .none)(cQ:IsPart fK lo)(pu:IsPart fc hi)
  (hw:ez.b0 items.size 0 lo=0/\ez.b0 items.size items.size hi=items.size) (h:Q (.ref t) s):a4 (bh prog w) A (getItem (.ref t) (.ref bx)) Q E s:=by
 obtain⟨os,nV,xa,uh⟩:=id aA;have B0:s.TypeIs (.ref bx) "slice":=⟨os,nV,xa⟩;unfold getItem
 try with_reducible refine qZ ?_
 first|refine aI (bq ?_)|skip
 refine aI (wpAny_sequenceKey aM.typeIs (by decide) ?_)
 refine aI (l1 (name:=Str.ofString "__getitem__") aM.typeIs x'
  (jL x' aM.typeIs entry_tuple_getitem ?_ (args_tuple_getitem _ _)))
 show a4 _ _ (Builtin.Tuple.tupleItemsOf (.ref t) >>= _) _ _ s
 refine aI (tupleItemsOf_ aM ?_)
 refine aI (wpAny_typeOf B0 ?_)
 rw[if_pos (by decide)];refine aI (ez.Jk aA cQ pu ?_);rw[hw.1,hw.2];show a4 _ _ (if (((0:Nat):Int)==0 && (1:Int)==1 && (items.size - 0)==items.size)=true then _ else _) _ _ s;rw[if_pos (by simp)];unfold Builtin.Tuple.tupleIsExact;refine aI (aI (wpAny_typeOf aM.typeIs (bq ?_)));rw[if_pos (by decide)];refine aI (wpAny_rule ?_);exact bq ⟨_,rfl,bq h⟩
def aaT:nA X (V2 X.K):=by
 intro ag s σ H x v fK fc lo hi bx Q I aS aA cQ pu h;obtain⟨a,xs,rfl,hx,hw,q⟩:=h;cases aS;obtain⟨its,r,aM,hz⟩:=I.tuple hx;have hlen:its.toArray.size=xs.length:=by rw[er];exact r.length.symm
 refine⟨"tuple",_,PyProof.Rows.slot_tuple_getitem.lookup,aM.typeIs,?_⟩
 exact Ya aM aA cQ pu (by rw[hlen];exact hw) ⟨.ref a,H,I,rfl,q⟩
def acz(n d:Nat)(o:Option Int):D.b0 n d o=ez.b0 n d o:=by
 cases o with
|none=>rfl
|some v=>
  unfold D.b0 ez.b0;dsimp only;split <;> omega
def FK{K:bc}{F:ai->Prop}{H:aD}{ts:List T}{vs:List V}(h:bf K F H ts vs)(lo hi:Option Int):bf K F H (eA ts lo hi) (ll vs lo hi):=by
 unfold eA ll;simp only[acz,h.length];exact (h.drop _).take _
end
def m6:List T->Option T
| [.list xs]=>m5 [.list xs]
| [.tuple xs]=>m5 [.list xs]
|_=>none
section
variable {X:a5}{a e:a8}{f:aY}{p dh pos qH:Pos}
def aau(au:X.calm=true):hl X (.type "set") (λxs H Q=>∃p ks,xs=[.ref p]/\cW X.K H p (ks.map eJ)/\ks.length<64/\∀l,H l=none->Q (.ref l) (upd H l (oc X l (fx ks)))):=by
 intro ag s σ H xs us Q I r h;obtain⟨p,ks,rfl,a0,hz,q⟩:=h;obtain⟨u,rfl,aS⟩:=vals1 r;cases aS;obtain⟨its,bU,cQ,Cu⟩:=I.tuple a0;have hlen:=bU.length;rw[ej] at hlen;refine ZC (knd:=jN X.prog X.w) (ks:=ks) (I.ok.hd au) cQ (yG (by simpa using bU)) (by simp only[er];unfold scanBound;omega) λh' tk cn aK=>?_;refine⟨.ref s.heap.objs.size,_,I.laid (t':=tk) (o:=oc X s.heap.objs.size (fx ks)) (λb o e=>aK b o (cv e) e) (c_ _) ⟨cn,?_,λaf ao x k=>x.at' k⟩,rfl,q _ (I.bP.fresh (c_ _))⟩;obtain⟨av,ep,t,b8,aQ,_⟩:=cn;exact⟨_,aQ⟩
def acv(au:X.calm=true)(aM:X.mg "set"=none)(az:dU X a f)(mJ:ee X "set")(he:bQ [a] X.env=(false,eval a X.env)::bQ [] X.env)(Cn:(gk qH (bQ [] X.env)).any (·.1)=false):
  b6 X (.Call (.Name "set" dh) [a] [] qH) (λσ H Q=>∃aO aN O F ε xs,c8 X.K aO aN O F H ε σ/\(f ε=some (.list xs)\/f ε=some (.tuple xs))/\xs.length<64 /\
   ((∃ns,intsOf xs=some ns/\∀l aL ah,Ext F H aL ah->ah l=some (oc X l (fx (ns.map .inl)))->Q (.ref l) ah)\/∃ss,strsOf xs=some ss/\∀l aL ah,Ext F H aL ah->ah l=some (oc X l (fx (ss.map .inr)))->Q (.ref l) ah)):=
 eu (Fo (abB (aav au) (aau au)) mJ aM (by decide +kernel) (eV az fg he) (he:=he) (hpl:=Cn)) λσ H Q ⟨aO,aN,O,F,ε,xs,r,e,hz,h⟩=>by
 rcases e with e|e
 ·refine⟨aO,aN,O,F,ε,[.list xs],r,by simp[args,e],λvs a6 H1 a3 aT=>.inl ?_⟩
  cases aT with
  |cons aT bg=>
   cases bg
   obtain⟨kH,vs,rfl,aF,aw⟩:=aT.lst;rcases h with ⟨ns,a_,h⟩|⟨ss,a_,h⟩
   ·have:=yV a_;subst this;rw[Fb aw] at aF;exact⟨kH,ns.map .inl,rfl,by simpa [eJ,qV] using e5.I5 aF,by simpa using hz,λl h3=>h l a6 _ (a3.trans (Ext.laid a3.cB h3)) es⟩
   ·have:=yH a_;subst this;rw[E' aw] at aF;exact⟨kH,ss.map .inr,rfl,by simpa [eJ,qV] using e5.I5 aF,by simpa using hz,λl h3=>h l a6 _ (a3.trans (Ext.laid a3.cB h3)) es⟩
 ·refine⟨aO,aN,O,F,ε,[.tuple xs],r,by simp[args,e],λvs a6 H1 a3 aT=>.inr ?_⟩
  cases aT with
  |cons aT bg=>
   cases bg
   obtain⟨kH,vs,rfl,aF,aw⟩:=aT.tup;rcases h with ⟨ns,a_,h⟩|⟨ss,a_,h⟩
   ·have:=yV a_;subst this;rw[Fb aw] at aF;exact⟨kH,ns.map .inl,rfl,by simpa [eJ,qV] using aF,by simpa using hz,λl h3=>h l a6 _ (a3.trans (Ext.laid a3.cB h3)) es⟩
   ·have:=yH a_;subst this;rw[E' aw] at aF;exact⟨kH,ss.map .inr,rfl,by simpa [eJ,qV] using aF,by simpa using hz,λl h3=>h l a6 _ (a3.trans (Ext.laid a3.cB h3)) es⟩
where e5.I5 {K:bc} {H:aD} {a:ai} {xs:List V} (h:fk H a (.lst xs)):e5 K H a xs:=.inl h
def W8{ts:List T}{t:T}(e:m6 ts=some t):∃xs,(ts=[.list xs]\/ts=[.tuple xs])/\xs.length<64/\((∃ns,intsOf xs=some ns/\t=.list ((sortI (dedup ns)).map .int))\/∃ss,strsOf xs=some ss/\t=.list ((hK (dedup ss)).map .str)):=by
 have key:∀xs,m5 [.list xs]=some t->xs.length<64/\((∃ns,intsOf xs=some ns/\t=.list ((sortI (dedup ns)).map .int))\/∃ss,strsOf xs=some ss/\t=.list ((hK (dedup ss)).map .str)):=by
  intro xs e;unfold m5 at e;dsimp only at e;split at e
  next hz=>
   split at e
   next ns a_=>
    cases e
    exact⟨hz,.inl ⟨ns,a_,rfl⟩⟩
   next=>
    simp only[gh] at e;obtain⟨ss,aA,rfl⟩:=e;exact⟨hz,.inr ⟨ss,aA,rfl⟩⟩
  next=>cases e
 unfold m6 at e;split at e
 ·exact⟨_,.inl rfl,key _ e⟩
 ·exact⟨_,.inr rfl,key _ e⟩
 ·cases e
def JO(au:X.calm=true)(aA:X.mg "sorted"=none)(aM:X.mg "set"=none)(az:dU X a f)(aU:ee X "sorted":=by rfl)(mJ:ee X "set":=by rfl)
  (he:bQ [a] X.env=(false,eval a X.env)::bQ [] X.env:=by rfl) (nS:bQ [.Call (.Name "set" dh) [a] [] qH] X.env=(false,eval (.Call (.Name "set" dh) [a] [] qH) X.env)::bQ [] X.env:=by rfl)
  (hpl:(gk pos (bQ [] X.env)).any (·.1)=false:=by rfl) (Cn:(gk qH (bQ [] X.env)).any (·.1)=false:=by rfl):
  cf X (.Call (.Name "sorted" p) [.Call (.Name "set" dh) [a] [] qH] [] pos) (aq m6 [f]):=
 eu (vA (Y2 au) aU aA (by decide +kernel) (iG (acv au aM az mJ he Cn) l_ nS) (he:=nS) (hpl:=hpl)) λσ H Q ⟨aO,aN,O,F,ε,t,r,e,k⟩=>by
 simp only[aq,args,c0,gh] at e;obtain⟨ts,⟨t0,bG,us,gq,rfl⟩,e⟩:=e;cases gq;obtain⟨xs,hx,hz,h⟩:=W8 e;have QC:f ε=some (.list xs)\/f ε=some (.tuple xs):=by
  rcases hx with h|h
  ·cases h
   exact .inl bG
  ·cases h
   exact .inr bG
 have ln:∀{J:Type} (ns:List J) (g:J->bu.Key),ns.length<64->(fx (ns.map g)).length<64:=λns g h=>by
  have:=EV (ns.map g) [];simp only[qY,ej] at this;unfold fx;omega
 have fin:∀(ks:List bu.Key) (ys:List V) (rs:List T),ks.length<64->tj ks ys->(∀aL ah,bf X.K aL ah rs ys)->t=.list rs->∀l aL ah,Ext F H aL ah->ah l=some (oc X l ks) ->
   xR σ ah λxs bt=>∃p ks ys,(V.ref l::xs)=[.ref p]/\bt p=some (oc X p ks)/\ks.length<64/\tj ks ys/\∀l,bt l=none->Q (.ref l) (upd bt l (.lst ys)):=by
  intro ks ys rs af ao bA c9 l aL ah x aF;subst c9;refine⟨l,ks,ys,rfl,aF,af,ao,λcF Ih=>?_⟩;have dX:=Ext.uC (o:=.lst ys) x.cB Ih;refine k _ _ _ (x.trans dX) ?_;simp only[Rep];exact⟨cF,ys,rfl,.inr rfl,.inl es,bA _ _⟩
 refine⟨aO,aN,O,F,ε,xs,r,QC,hz,?_⟩
 rcases h with ⟨ns,a_,cm⟩|⟨ss,a_,cm⟩
 ·have Ct:=yV a_;refine .inl ⟨ns,a_,fin _ ((sortI (dedup ns)).map V.int) _ (ln ns _ (by rw[Ct] at hz;simpa using hz)) (.inl ⟨fx ns,Kq Sum.inl (λ_ _ h=>Sum.inl.inj h) ns,by rw[JV (JS ns)]⟩) (λ_ _=>Fm _) cm⟩
 ·have Ct:=yH a_;refine .inr ⟨ss,a_,fin _ ((hK (dedup ss)).map V.str) _ (ln ss _ (by rw[Ct] at hz;simpa using hz)) (.inr ⟨fx ss,Kq Sum.inr (λ_ _ h=>Sum.inr.inj h) ss,by rw[JU (JS ss)]⟩) (λ_ _=>KC _) cm⟩
end
end
end D
end
section
namespace D
open PySem PySem.W PyProof.Rows
structure NV(n:Nat)(lt:Nat->Nat->Bool):Prop where
 ad_:∀i j,lt i j=true->lt j i=false
 trans:∀i j k,lt i j=true->lt j k=true->lt i k=true
 aex:∀i j,i<n->j<n->i≠j->lt i j=true\/lt j i=true
def aeE(lt:Nat->Nat->Bool)(p:Array Nat)(m:Nat):Prop:=∀i j,i<j->j<m->lt (p.getD i 0) (p.getD j 0)=true
def nh(lt:Nat->Nat->Bool)(p:Array Nat)(m:Nat):Prop:=∀i j,i<j->j<m->lt (p.getD j 0) (p.getD i 0)=true
section
variable {n:Nat}{lt:Nat->Nat->Bool}(O:NV n lt)
include O
end
end D
end
section
namespace D
open PySem
variable [bX]
end D
end
section
namespace D
open PySem PySem.Spec PyProof.Rows bu
section
variable [bX]
open AutoSeq1 (wpAny_loadPart')
noncomputable def zH(K:bc)(a:ai):iP:=
 ⟨λi H=>∃xs x,e5 K H a xs/\xs[i]?=some x,λi H x ah=>∃p v,H p=none/\x=.ref p/\ah=upd H p (.tup [.int i,v])/\∀xs,e5 K H a xs->xs[i]?=some v,λi H=>∃xs,e5 K H a xs/\xs.length<=i⟩
def ZK{P:cH}{w:bY}{K:bc}{av:List a8}{k:Nat}{pos:Pos}(a it e:ai)(gJ:e≠it)(B3:a≠it)(B2:a≠e):Turn P w K (.Tuple av k pos) (zH K a) [e,it] e (λi h=>(∃old,IsEnum h e it i old)/\h.IsListIter it a i) where
 mem:=by simp
 obj:=λi h st b ae=>by
  obtain⟨⟨old,he⟩,o,aQ,au,hd⟩:=st;rcases bS.mp ae with rfl|ae
  ·exact⟨_,he,λv z=>by
    have fC:Data.fields _=Data.cell v:=z;cases fC⟩
  ·have aC:b=it:=by simpa using ae
   subst aC;exact⟨o,aQ,λv z=>by rw[hd] at z;cases z⟩
 keep:=λi h h' st cG=>by
  obtain⟨⟨old,he⟩,j4⟩:=st;exact⟨⟨old,cG e (by simp) _ he⟩,j4.at λo q=>cG it (by simp) o q⟩
 item:=by
  intro X d2 hw eR au i ag s σ H E I hf st aU;subst d2 hw eR;obtain⟨xs,x,a0,hx⟩:=aU;obtain⟨its,b3,p,hz⟩:=I.list a0;obtain⟨u,bw,eD⟩:=b3.get hx;obtain⟨⟨old,he⟩,hit⟩:=st;obtain⟨f0,f1,f2,e9,f4,e_⟩:=hf e (by simp);obtain⟨i4,g1,g2,g3,lD,jw⟩:=hf it (by simp);have hi:i<its.toArray.size:=by
   rw[er];exact (e2.mp bw).1
  have Ci:e∉[it,a]:=by
   intro z;rcases bS.mp z with z|z
   ·exact gJ z
   ·have fC:e=a:=by simpa using z
    exact B2 fC.symm
  refine wpAny_pyNext_enum_itemD (Draws.list (A:=X.A.in1) (I.ok.hd au) it a B3 its.toArray) he ⟨hit,p.isList⟩ hi gJ Ci λfY h' tk BY aQ ip dQ hv aV=>?_
  have ex:fY=u:=by
   have:=BY;rw[<- Array.getElem?_toList] at this;rw[show (its.toArray).toList=its from rfl,bw] at this;exact (ia this).symm
  subst ex;refine⟨_,rfl,wpAny_letOwnedTupleGo_enum aQ λao nS fB=>?_⟩;have ui:e<s.heap.objs.size:=cv he;have B_:it<s.heap.objs.size:=by obtain⟨o,fS,_⟩:=hit;exact cv fS
  have cU:∀b o,b≠e->b≠it->s.heap.get? b=some o->ao.get? b=some o:=λb o af bA q=>fB.extBut b o af (aV b o af bA q);have fr:H s.heap.objs.size=none:=I.bP.fresh (c_ _);have ub:ao.get? s.heap.objs.size=some {cls:=.type "tuple",data:=.seq #[.int i tk,fY]}:=fB.extBut _ _ (mX ui) dQ;have lO:∀b o,H b=some o->b≠e/\b≠it:=λb o q=>⟨λz=>(by rw[z,f0] at q;cases q),λz=>(by rw[z,i4] at q;cases q)⟩;have qo:e3 X.prog X.w (upd H s.heap.objs.size (.tup [.int i,x])) ao:=by
   intro b o q;by_cases ae:b=s.heap.objs.size
   ·subst ae;rw[es] at q;cases q;exact⟨by show 2<=cV;decide,[.int i tk,fY],.cons ⟨tk,rfl⟩ (.cons eD .nil),⟨_,ub,rfl,_,rfl⟩⟩
   ·rw[ck ae] at q;refine (I.bP b o q).lW (λc v b2 di=>cU c v ?_ ?_ di) (λc di=>?_) λc ys di=>?_
    ·rcases b2 with rfl|b2
     ·exact (lO _ _ q).1
     ·exact (lO _ _ b2).1
    ·rcases b2 with rfl|b2
     ·exact (lO _ _ q).2
     ·exact (lO _ _ b2).2
    ·rw[ck (fD di fr)];exact di
    ·rw[ck (fD di fr)];exact di
  have b9:bu.Inv X ag σ (upd H s.heap.objs.size (.tup [.int i,x])) {s with heap:=ao,toks:=tk+1}:=by
   refine I.step (g':=s.gens) (d':=s.drawn) (ch:=[e,it]) (λb ae=>?_) (λb o _ _ b2 q _=>cU b o (λz=>b2 (by simp[z])) (λz=>b2 (by simp[z])) q) (λb o _ _ b2 q _=>⟨o.slots,cU b o (λz=>b2 (by simp[z])) (λz=>b2 (by simp[z])) q⟩) (λb o _ q n=>?_)
    (λb o b2 q=>⟨o,cU b o (λz=>b2 (by simp[z])) (λz=>b2 (by simp[z])) q⟩) (λb ys q=>by rw[ck (fD q fr)];exact q) (λb o u q=>by rw[ck (fD q fr)];exact q) (λb ps q=>⟨#[],by rw[ck (fD q fr),q];simp⟩) (λm hm=>?_) qo I.bare
   ·rcases bS.mp ae with rfl|ae
    ·exact⟨e9,f1,f4,e_⟩
    ·have:b=it:=by simpa using ae
     subst this;exact⟨g3,g1,lD,jw⟩
   ·rw[ck (cX (cv q))];exact n
   ·obtain⟨o,es',ep,fS,r⟩:=hm;exact⟨o,es',ep,cU _ o (Ne.symm f1) (Ne.symm g1) fS,r⟩
  refine⟨.ref s.heap.objs.size,_,b9,rfl,⟨s.heap.objs.size,x,fr,rfl,rfl,λys bl=>by rw[I.DV bl a0];exact hx⟩,⟨⟨_,by simpa using nS⟩,ip.1.at λo q=>(fB.2 it gJ.symm).trans q⟩,λb ae=>?_⟩
  rcases bS.mp ae with rfl|ae
  ·rw[ck (cX ui)];exact f0
  ·have:b=it:=by simpa using ae
   subst this;rw[ck (cX B_)];exact i4
 done:=by
  intro X d2 hw eR au i ag s σ H E I hf st aU;subst d2 hw eR;obtain⟨xs,a0,hx⟩:=aU;obtain⟨its,b3,p,hz⟩:=I.list a0;obtain⟨⟨old,he⟩,hit⟩:=st;obtain⟨i4,g1,g2,g3,lD,jw⟩:=hf it (by simp);have dQ:s.TypeIs (.ref e) "enumerate":=⟨_,he,rfl⟩;have aF:=b3.length;unfold pyNext;refine aI (wpAny_attempt (l1 (name:=Str.ofString "__next__") dQ F.slot_enumerate_next
   (jL F.slot_enumerate_next dQ F.entry_enumerate_next ?_ (F.args_enumerate_next_1 _))))
  show a4 _ _ (field (.ref e) 2 >>= _) _ _ _
  refine aI (ib he rfl (x:=.ref it) rfl ?_)
  refine aI (wpAny_nextOf_list_end (I.ok.hd au) hit p.isList (by simp;omega) λh' x nR kF=>?_)
  obtain⟨o,aQ,b2⟩:=kF;refine aI (wpAny_isInstance (T:="StopIteration") (b:=true) ⟨o,aQ,b2⟩ isSubtype_stop ?_);exact bq ⟨rfl,I.turned (t':=s.toks) (λb o ae q=>nR b o ae q) i4 g1 g3 lD jw⟩
 self:=λ_ _ _ _ _ st h=>by
  obtain⟨⟨old,he⟩,_⟩:=st;exact wpAny_pyIter_enum he h
def R5(K:bc)(cg:fz):TI:=λσ H R=>cg σ H λvs H1=>∃a xs,vs=[.ref a]/\((cW K H1 a xs/\R (aeK K a) H1)\/(e5 K H1 a xs/\R (zH K a) H1))
section
variable {X:a5}{av:List a8}{k:Nat}{p pos dh:Pos}{a:a8}{f:aY}
def aa3{cg:fz}(aU:ee X "enumerate")(hm:X.mg "enumerate"=none)(az:hS X [a] cg)(aA:bQ [a] X.env=[(false,eval a X.env)]:=by rfl):k' X (.Tuple av k dh) (.Call (.Name "enumerate" p) [a] [] pos) (R5 X.K cg):=by
 intro ag s σ H R I h;refine Call_ (pL I aU hm PyProof.Rows.boot_enumerate (u6 (ct (az pos ag s σ H _ I h) λus s1 ⟨vs,H1,a7,a',aT⟩=>?_) aA rfl));obtain⟨a,xs,rfl,aT⟩:=aT;cases a' with
|cons r jG=>
  cases jG
  cases r
  have w8:∀b∈[s1.heap.objs.size+1,s1.heap.objs.size],s1.heap.objs.size<=b:=λb ae=>by
   rcases bS.mp ae with rfl|ae
   ·exact pA _
   ·have:b=s1.heap.objs.size:=by simpa using ae
    rw[this];exact c_ _
  rcases aT with ⟨a0,q⟩|⟨a0,q⟩
  ·obtain⟨its,b3,cQ,hz⟩:=a7.tuple a0;have o4:a<s1.heap.objs.size:=by obtain⟨o,aQ,_⟩:=cQ;exact cv aQ
   refine JE (show s1.heap.IsTuple a its.toArray from cQ) λh' he hit hv aV=>wpAny_pyIter_enum he ?_
   exact⟨s1.heap.objs.size+1,[s1.heap.objs.size+1,s1.heap.objs.size],_,_,H1,rfl,a7.kept (t':=s1.toks) aV,Ks a s1.heap.objs.size (s1.heap.objs.size+1) (Nat.succ_ne_self _) (cX o4) (cX (Nat.lt_succ_of_lt o4)),⟨⟨_,he⟩,hit⟩,λb ae=>a7.rW (w8 b ae) (a7.bP.fresh (w8 b ae)),q⟩
  ·obtain⟨its,b3,cQ,hz⟩:=a7.list a0;have o4:a<s1.heap.objs.size:=by obtain⟨o,n,aQ,_⟩:=cQ;exact cv aQ
   refine call_enumerate_list cQ.isList λh' he hit hv aV=>wpAny_pyIter_enum he ?_
   exact⟨s1.heap.objs.size+1,[s1.heap.objs.size+1,s1.heap.objs.size],_,_,H1,rfl,a7.kept (t':=s1.toks) aV,ZK a s1.heap.objs.size (s1.heap.objs.size+1) (Nat.succ_ne_self _) (cX o4) (cX (Nat.lt_succ_of_lt o4)),⟨⟨_,he⟩,hit⟩,λb ae=>a7.rW (w8 b ae) (a7.bP.fresh (w8 b ae)),q⟩
def _d{K:bc}{a:ai}{a6:ai->Prop}{H1:aD}{ts:List T}{vs:List V}(hf:a6 a)(aw:fk H1 a (.lst vs))(q:bf K a6 H1 ts vs):mf K (zH K a) a6 H1 (enum ts) where
 go:=λi F H t aK d e=>by
  have hi:=(e2.mp e).1;simp only[enum,ej,List.length_zipIdx] at hi;obtain⟨v,af,_⟩:=q.get (ft hi);exact⟨vs,v,.inl (aK.lst _ _ hf aw).2,af⟩
 kb:=λi F H t x ah aK d e y=>by
  obtain⟨p,v,aE,rfl,rfl,y⟩:=y;have hi:=(e2.mp e).1;simp only[enum,ej,List.length_zipIdx] at hi;obtain⟨gy,af,ao⟩:=(q.aK aK).get (ft hi);have bA:=y vs (.inl (aK.lst _ _ hf aw).2);rw[af] at bA;cases bA;have a3:=Ext.laid (o:=.tup [.int i,v]) d aE;refine⟨F,a3,?_⟩;have cm:t=.tuple [.int i,ts[i]]:=by
   simp only[enum,kW,List.getElem?_zipIdx,ft hi] at e;simpa using e.symm
  subst cm;simp only[Rep];exact⟨p,_,rfl,cW.of es,bf.cons (by simp[Rep]) (bf.cons (ao.ext a3) bf.nil)⟩
 stop:=λi F H aK aF=>⟨vs,.inl (aK.lst _ _ hf aw).2,by
  simp only[enum,ej,List.length_zipIdx] at aF;rw[<- q.length];exact aF⟩
def ab5(hm:X.mg "enumerate"=none)(az:cf X a f)(aU:ee X "enumerate":=by rfl)(aA:bQ [a] X.env=[(false,eval a X.env)]:=by rfl)(fB:bQ [a] X.env=(false,eval a X.env)::bQ [] X.env:=by rfl):
  la X (.Tuple av k dh) (.Call (.Name "enumerate" p) [a] [] pos) (fM (dT f)):=v3 (aa3 aU hm (iG az l_ fB) aA) λσ H R ⟨aO,aN,O,F,ε,ts,r,e,k⟩=>by
 simp only[fM,dT,gh,c0] at e;obtain⟨us,⟨t,cm,e⟩,rfl⟩:=e;split at e
 ·cases e
  refine⟨aO,aN,O,F,ε,_,r,cm,λv aL ah x q=>?_⟩
  simp only[Rep] at q;obtain⟨a,vs,rfl,aA,aw⟩:=q;exact⟨a,vs,rfl,.inl ⟨aA,k _ aL ah x (KJ aA aw)⟩⟩
 ·cases e
  refine⟨aO,aN,O,F,ε,_,r,cm,λv aL ah x q=>?_⟩
  simp only[Rep] at q;obtain⟨a,vs,rfl,hf,aA,aw⟩:=q;exact⟨a,vs,rfl,.inr ⟨.inl aA,k _ aL ah x (_d hf aA aw)⟩⟩
 ·cases e
end
end
section
variable [bX]
section
variable {K:bc}{F:ai->Prop}{H:aD}
theorem Kh:∀{bs:List Bool} {vs:List V},bf K F H (bs.map .bool) vs->vs=bs.map V.bL
| [],vs,h=>by simpa [bf] using h
|n::ns,vs,h=>by
  simp only[eK,bf,Rep] at h;obtain⟨v,r,rfl,rfl,z⟩:=h;rw[Kh z];rfl
end
end
section
variable [bX]
mutual
noncomputable def gv:T->T->Option Bool
|.int a,.int b=>some (decide (a<b))
|.tuple xs,.tuple ys=>qx xs ys
|_,_=>none
noncomputable def qx:List T->List T->Option Bool
| [],[]=>some false
| [],_::_=>some true
|_::_,[]=>some false
|x::xs,y::ys=>if fu x y then qx xs ys else gv x y
end
noncomputable def GN(A:cN)(s:aG)(y x:aj)(b:Bool):Prop:=
 ∀(prog:cH) (w:bY) (E:aj->aG->Prop) (Q:aj->aG->Prop),Q (.bool b) s->a4 (bh prog w) A (richCompare .Lt y x) Q E s
inductive nq(A:cN)(s:aG)(fin:Bool):List (aj×aj)->Bool->Prop
|nil:nq A s fin [] fin
|eq {y x:aj} {r:List (aj×aj)} {b:Bool}:SeqAt.EqAt A s y x true->nq A s fin r b->nq A s fin ((y,x)::r) b
|lt {y x:aj} {r:List (aj×aj)} {b:Bool}:SeqAt.EqAt A s y x false->GN A s y x b->nq A s fin ((y,x)::r) b
section
open PySem.SeqAt
open PySem.AutoSeq1 (wpAny_loadPart')
open PySem.MeetsSeq PySem.MeetsSeq2 PySem.MeetsSeq3
def YB(l b:ai)(items n3:Array aj)(n fp:Nat)(kz kA:Option ai)(bx jH:Array (Option aj))(z:Bool):
  Meets (Builtin.«tuple.__lt__» ⟨[.ref l,.ref b],[]⟩)
   (λA R s=>s.heap.get? l=some {cls:=.type "tuple",dict:=kz,data:=.seq items n,slots:=bx}/\s.heap.get? b=some {cls:=.type "tuple",dict:=kA,data:=.seq n3 fp,slots:=jH} /\
    nq A.in1 s (decide (items.size<n3.size)) (items.toList.zip n3.toList) z/\R (.ok (.ret (.bool z))) s):=
 .of_wp λprog w A R s h=>by
  obtain⟨aE,g,d,tk,os⟩:=s;obtain⟨aF,ae,aU,h⟩:=h;have f2:=AutoSeq1.sub_tuple_tuple
  wp_walk using wpAny_loadPart' aF,wpAny_loadPart' ae,wpAny_forIn_list _ (λrest b aZ=>b.1=none/\aZ=⟨aE,g,d,tk,os⟩/\nq A.in1 ⟨aE,g,d,tk,os⟩ (decide (items.size<n3.size)) rest z) _
  case turn=>
   rintro⟨y,x⟩ rest b aZ ⟨eS,rfl,h1⟩;cases h1 with
   |eq he h1=>
    refine aI (he prog w _ _ ?_)
    wp_walk
    exact⟨rfl,rfl,h1⟩
   |lt he dz=>
    refine aI (he prog w _ _ ?_)
    have Cp:=dz prog w
    wp_walk using Cp
    exact⟨_,rfl,h⟩
  case fin=>
   rintro⟨bK,cq⟩ aZ ⟨eS,rfl,h1⟩;simp only at eS;subst eS;cases h1
   wp_walk
   exact⟨_,rfl,by simpa [Builtin.Tuple.tupleCompareSizes] using h⟩
  case h=>
   exact⟨rfl,rfl,aU⟩
mutual
theorem abc:∀(nK db:T) (A:cN) (s:aG) (a b:aj) (as bs:List ai) (r:Bool),Reads s.heap a nK as->Reads s.heap b db bs->nK.canLay0=true->db.canLay0=true->A.units+min nK.depth db.depth<cLine->gv nK db=some r->GN A s a b r
|.int i,.int j,A,s,_,_,_,_,r,.int _ t,.int _ u,_,_,_,e=>by
  unfold gv at e;cases e;exact λprog w E Q q=>(PyProof.Rows.lt_int q:a4 (bh prog w) A (fZ .Lt (.int i t) (.int j u)) Q E s)
|.tuple xs,.tuple ys,A,s,_,_,_,_,r,.tuple (a:=l) (o:=o) (vs:=vs) (n:=n) af ao bA c9,.tuple (a:=f') (o:=d6) (vs:=uZ) (n:=uF) eh cU gM h5,az,ae,bw,e=>by
  unfold gv at e;simp only[PyData.canLay0] at az ae;simp only[jg] at bw;have h1:=good_reads xs ys A.in1 s vs.toList uZ.toList _ _ r c9 h5 az ae (room_in bw) e;obtain⟨cls,kz,data,bx⟩:=o;obtain⟨A4,kA,data2,jH⟩:=d6;simp only at ao bA cU gM;subst ao bA cU gM;rw[hG,hG] at h1;exact λprog w E Q q=>richCompare_meets_room (op:=.Lt) ⟨_,af,rfl⟩ ⟨_,eh,rfl⟩ PySem.F.slot_tuple_lt PySem.F.entry_tuple_lt (PySem.F.args_tuple_lt_2 _ _) (YB l f' vs uZ n uF kz kA bx jH r)
   ⟨af,eh,h1,show Value.bool r≠Value.notImplemented/\Q (.bool r) s from ⟨(λx=>nomatch x),q⟩⟩ (by omega)
|.none,_,_,_,_,_,_,_,_,_,_,_,_,_,e=>by simp[gv] at e
|.bool _,_,_,_,_,_,_,_,_,_,_,_,_,_,e=>by simp[gv] at e
|.str _,_,_,_,_,_,_,_,_,_,_,_,_,_,e=>by simp[gv] at e
|.list _,_,_,_,_,_,_,_,_,_,_,_,_,_,e=>by simp[gv] at e
|.dict _,_,_,_,_,_,_,_,_,_,_,_,_,_,e=>by simp[gv] at e
|.int _,.none,_,_,_,_,_,_,_,_,_,_,_,_,e=>by simp[gv] at e
|.int _,.bool _,_,_,_,_,_,_,_,_,_,_,_,_,e=>by simp[gv] at e
|.int _,.str _,_,_,_,_,_,_,_,_,_,_,_,_,e=>by simp[gv] at e
|.int _,.list _,_,_,_,_,_,_,_,_,_,_,_,_,e=>by simp[gv] at e
|.int _,.dict _,_,_,_,_,_,_,_,_,_,_,_,_,e=>by simp[gv] at e
|.int _,.tuple _,_,_,_,_,_,_,_,_,_,_,_,_,e=>by simp[gv] at e
|.tuple _,.none,_,_,_,_,_,_,_,_,_,_,_,_,e=>by simp[gv] at e
|.tuple _,.bool _,_,_,_,_,_,_,_,_,_,_,_,_,e=>by simp[gv] at e
|.tuple _,.str _,_,_,_,_,_,_,_,_,_,_,_,_,e=>by simp[gv] at e
|.tuple _,.list _,_,_,_,_,_,_,_,_,_,_,_,_,e=>by simp[gv] at e
|.tuple _,.dict _,_,_,_,_,_,_,_,_,_,_,_,_,e=>by simp[gv] at e
|.tuple _,.int _,_,_,_,_,_,_,_,_,_,_,_,_,e=>by simp[gv] at e
theorem good_reads:∀(xs ys:List T) (A:cN) (s:aG) (vs ws:List aj) (as bs:List ai) (r:Bool),ReadsAll s.heap vs xs as->ReadsAll s.heap ws ys bs->iA xs=true->iA ys=true->A.units+min (h_ xs) (h_ ys)<cLine->qx xs ys=some r->nq A s (decide (vs.length<ws.length)) (vs.zip ws) r
| [],[],A,s,_,_,_,_,r,.nil,.nil,_,_,_,e=>by
  unfold qx at e;cases e;exact .nil
| [],_::_,A,s,_,_,_,_,r,.nil,.cons _ _,_,_,_,e=>by
  unfold qx at e;cases e;exact nq.nil
|_::_,[],A,s,_,_,_,_,r,.cons _ _,.nil,_,_,_,e=>by
  unfold qx at e;cases e;exact nq.nil
|x::xs,y::ys,A,s,_,_,_,_,r,.cons a' cL,.cons aT bg,az,ae,bw,e=>by
  simp only[iA,cJ] at az ae;simp only[h_] at bw;unfold qx at e;have he:=eqAt_reads x y A s _ _ _ _ a' aT az.1 ae.1 (room_head bw);split at e
  next h=>
   rw[h] at he;have cK:=good_reads xs ys A s _ _ _ _ r cL bg az.2 ae.2 (room_tail bw) e;rw[yc];simp only[gi,Nat.add_lt_add_iff_right];exact .eq he cK
  next h=>
   rw[Bool.not_eq_true] at h;rw[h] at he;rw[yc];exact .lt he (abc x y A s _ _ _ _ r a' aT az.1 ae.1 (room_head bw) e)
end
end
end
end D
end
section
namespace D
open PySem
inductive Gy where
|v (f:aY)|o (i:Nat)
abbrev wx:=Ev->Option (T×Ev)
abbrev dq:=Ev->Option bW
def Tw(i:Nat)(ε:Ev):Option bW:=match ε[i]? with
|some (some (.obj m c fs))=>some (.obj m c fs)
|_=>none
noncomputable def Al:List Gy->Ev->Option (List bW)
| [],_=>some []
|.v f::as,ε=>(f ε).bind λt=>(Al as ε).map λss=>.aa t::ss
|.o i::as,ε=>(Tw i ε).bind λs=>(Al as ε).map λss=>s::ss
def V6:bW->bW
|.obj _ c fs=>.obj .n_ c fs
|s=>s
def kN(c i:Nat)(ε:Ev):Option (wC×List bW):=match ε[i]? with
|some (some (.obj m bT fs))=>if bT=c then some (m,fs) else none
|_=>none
def fld(c i j:Nat):aY:=λε=>(kN c i ε).bind λo=>match o.2[j]? with
|some (.aa t)=>some t
|some (.own ts)=>some (.list ts)
|_=>none
def rU(c i j:Nat):aY:=λε=>(kN c i ε).bind λo=>match o.2[j]? with
|some (.aa t)=>some t
|_=>none
def oY(c i j:Nat):Ev->Option (List (Key×T)):=λε=>(kN c i ε).bind λo=>match o.2[j]? with
|some (.hs d5)=>some d5
|_=>none
def rT(c i j:Nat):Ev->Option (List T):=λε=>(kN c i ε).bind λo=>match o.2[j]? with
|some (.own ts)=>some ts
|_=>none
def tW(c i j:Nat)(k:aY):aY:=λε=>(k ε).bind λt=>(keyOf t).bind λk=>(oY c i j ε).bind λd5=>getD d5 k
noncomputable def lV(c i j:Nat)(s:bW)(ε:Ev):Option Ev:=(kN c i ε).bind λo=>if o.1=.n_ then none else
 if j<o.2.length then some (ε.set i (some (.obj o.1 c (o.2.set j s)))) else if j=o.2.length then some (ε.set i (some (.obj o.1 c (o.2++[s])))) else none
def tI(c i j:Nat)(f:aY):ba:=λε=>(f ε).bind λt=>(lV c i j (.aa t) ε).map .nx
def wk(c i j:Nat)(f:aY):ba:=λε=>(f ε).bind λt=>match t with
|.list ts=>(lV c i j (.own ts) ε).map .nx
|_=>none
def rn:T->T->Option Int
|.int i,.int j=>some (i+j)
|_,_=>none
def tL(c i j:Nat)(f:aY):ba:=λε=>(rU c i j ε).bind λx=>(f ε).bind λy=>(rn x y).bind λz=>(lV c i j (.aa (.int z)) ε).map .nx
def tH(c i j:Nat)(f:aY):ba:=λε=>(f ε).bind λt=>(rT c i j ε).bind λts=>if ts.length<big then (lV c i j (.own (ts++[t])) ε).map .nx else none
noncomputable def v'(c i j:Nat)(k v:aY):ba:=λε=>(v ε).bind λv=>(k ε).bind λt=>(keyOf t).bind λk=>(oY c i j ε).bind λd5=>if d5.length<big then (lV c i j (.hs (putD d5 k v)) ε).map .nx else none
noncomputable def wi(c i j:Nat)(k v:aY):ba:=λε=>(k ε).bind λt=>(keyOf t).bind λk=>(oY c i j ε).bind λd5=>(getD d5 k).bind λx=>(v ε).bind λy=>(rn x y).bind λz=>if d5.length<big then (lV c i j (.hs (putD d5 k (.int z))) ε).map .nx else none
def tq(f g:gU):gU:=λε=>(f ε).bind λa=>(g ε).map λb=>List.zipWith (λx y=>.tuple [x,y]) a b
def wd(c:Nat)(d:List bW->Option T)(i:Nat)(fs:List aY):aY:=λε=>(kN c i ε).bind λo=>(args fs ε).bind λts=>d (.obj .n_ c o.2::ts.map .aa)
noncomputable def we(c:Nat)(d:List bW->Option (T×List bW))(i:Nat)(fs:List aY):wx:=λε=>(kN c i ε).bind λo=>if o.1=.n_ then none else (args fs ε).bind λts=>
 (d (.obj .r6 c o.2::ts.map .aa)).map λr=>(r.1,ε.set i (some (.obj o.1 c r.2)))
def tU(f:wx):ba:=λε=>(f ε).map λr=>.nx r.2
def uR(f:wx):ba:=λε=>(f ε).map λr=>.kS r.1 r.2
def uQ(f:aY):ba:=λε=>(f ε).map λt=>.kS t ε
def tJ(i:Nat)(f:wx):ba:=λε=>(f ε).map λr=>.nx (r.2.set i (some (.aa r.1)))
def v_:ba:=λε=>some (.kS .none ε)
def never:ba:=λ_=>none
def pH(n:Nat)(ss:List bW):Ev:=ss.map some++jc (n - ss.length) none
def uS(b:ba)(n:Nat)(ss:List bW):Option T:=(b (pH n ss)).bind λo=>match o with
|.dn t=>some t
|.nx _=>some .none
|_=>none
def ri(c p:Nat)(ε:Ev):Option (List bW):=match ε[p]? with
|some (some (.obj .r6 bT fs))=>if bT=c then some fs else none
|_=>none
noncomputable def runM(c p:Nat)(b:ba)(n:Nat)(ss:List bW):Option (T×List bW):=(b (pH n ss)).bind λo=>match o with
|.kS t ε=>(ri c p ε).map λfs=>(t,fs)
|.nx ε=>(ri c p ε).map λfs=>(.none,fs)
|_=>none
end D
end
section
namespace D
open PySem PySem.Spec PyProof.Rows bu
section
variable [bX]
section
variable {X:a5}{k n c C i j:Nat}{ns:List Str}{x m f:Str}{p pos apos:Pos}{o e:a8}{av:List a8}{fs:List aY}{rV:dq}
def ki(xs:List Str):List T:=xs.map .str
def uK{xs:List Str}{a:ai}(hm:X.mg x=some (.ref a))(aV:∃(o:Obj) (its:Array aj) (n:Nat),X.K.lookup a=some o/\o.cls=.type "tuple"/\o.data=.seq its n/\its.size<=cV/\Vals (xs.map V.str) its.toList)(aU:ee X x:=by rfl)(hd:(x==("__debug__":Str))=false:=by decide):cf X (.Name x pos) (U (.tuple (ki xs))):=
 tl (v:=.ref a) (LA (v:=.ref a) aU hm rfl hd) λF H=>by
  simp only[Rep];refine⟨a,xs.map V.str,rfl,.inr aV,?_⟩;unfold ki;clear hm aV aU hd
  induction xs with
  |nil=>exact bf.nil
  |cons y ys cK=>exact bf.cons (by simp[Rep]) cK
end
end
section
variable [bX]
open AutoSeq1 (wpAny_loadPart')
def hU(h:bk)(z TI cR:ai)(f0 f1:aj):Prop:=h.get? z=some {cls:=.type "zip",dict:=none,data:=.fields #[f0,f1,.bool false,.ref TI,.ref cR],slots:=#[]}
section
variable {prog:cH}{w:bY}{A:cN}{E:aj->aG->Prop}{s:aG}{z TI cR cP cS cE cF:ai}{k dR fp:Nat}{zM zN:Nat->aj->Prop}{mm mn:Nat->bk->Prop}{a b f1:aj}
def aaG{Q:aj->aG->Prop}(D:ZipApart z TI cR cP cS cE cF)(oK:Draws prog w A cP [cP,cE] dR zM mm)(pW:Draws prog w A cS [cS,cF] fp zN mn)(hz:hU s.heap z TI cR .none f1)(i6:IsPair s.heap TI (.ref cP) (.ref cS))(jx:IsPair s.heap cR a b)
  (s1:mm k s.heap) (s2:mn k s.heap) (af:k<dR) (ao:k<fp)
  (dF:∀h' x y tk,zM k x->zN k y->hU h' z TI cR (eU s.heap.objs.size) (.bool false)->IsPair h' cR x y->mm (k+1) h'->mn (k+1) h'->IsPair h' s.heap.objs.size x y->h'.objs.size=s.heap.objs.size+1 ->
   (∀c o,c≠z->c≠cR->c≠cP->c≠cS->s.heap.get? c=some o->h'.get? c=some o)->Q (.ref s.heap.objs.size) {s with heap:=h',toks:=tk}):
  a4 (bh prog w) A (Builtin.«zip.__next__» ⟨[.ref z],[]⟩) (λfin aZ=>∃v,fin=.done (.ret v)/\Q v aZ) E s:=by
 unfold hU at hz;refine aI (m:=field (.ref z) 2) (ib hz rfl (x:=.bool false) rfl (aI (m:=field (.ref z) 3) (ib hz rfl (x:=.ref TI) rfl (aI (pB i6 rfl ?_)))));refine aI (m:=x9 (.ref z)) ?_;unfold x9;refine aI (ib hz rfl (x:=.none) rfl (bq ?_));simp only[if_true];refine aI (wpAny_rule (aI (ib hz rfl (x:=.ref cR) rfl (aI (kY hz (by simp) λh4 pd i1=>?_)))));replace pd:hU h4 z TI cR .ellipsis f1:=pd;refine aI ?_;simp only[List.zipIdx_cons,List.zipIdx_nil,List.forIn_cons,List.forIn_nil];have xN:mm k h4:=oK.frame k _ _ s1 λc au o e=>by
  rcases bS.mp au with rfl|au
  ·exact i1.extBut _ _ D.i1z e
  ·rw[gj.mp au] at e ⊢;exact i1.extBut _ _ D.l1z e
 refine aI (aI (wpAny_onRaise (aI (m:=oj (.ref cP)) (oK.item k _ _ _ af xN λx qq tk kP t1 i2=>bq ?_))))
 have uc:IsPair qq cR a b:=i2.extBut _ _ D.TOi1 (i1.extBut _ _ D.TOz jx);refine aI (pB uc rfl (aI (wpAny_updateSeq_pair uc λn1 w_ i3=>?_)));replace w_:IsPair n1 cR x b:=w_;refine aI (wpAny_letGo (bq ?_));have j4:mn k n1:=pW.frame k _ _ s2 λc au o e=>by
  rcases bS.mp au with rfl|au
  ·exact i3.extBut _ _ D.TOi2.symm (i2.extBut _ _ D.i12.symm (i1.extBut _ _ D.i2z e))
  ·rw[gj.mp au] at e ⊢;exact i3.extBut _ _ D.l2TO (i2.extBut _ _ D.l2i1 (i1.extBut _ _ D.l2z e))
 refine aI (aI (wpAny_onRaise (aI (m:=oj (.ref cS)) (pW.item k _ _ _ ao j4 λy uu aew py eE nO=>bq ?_))))
 have HZ:IsPair uu cR x b:=nO.extBut _ _ D.TOi2 w_;refine aI (pB HZ rfl (aI (wpAny_updateSeq_pair HZ λg6 w' mG=>?_)));replace w':IsPair g6 cR x y:=w';refine aI (wpAny_letGo (bq (bq (aI (pB w' rfl (aI (wpAny_newTuple ?_)))))));have Jq:g6.objs.size=s.heap.objs.size:=by rw[mG.1,nO.1,i3.1,i2.1,i1.1]
 have IC:hU g6 z TI cR .ellipsis f1:=mG.extBut _ _ D.TOz.symm (nO.extBut _ _ D.i2z.symm (i3.extBut _ _ D.TOz.symm (i2.extBut _ _ D.i1z.symm pd)));have SU:∀c o,c≠z->c≠cR->c≠cP->c≠cS->s.heap.get? c=some o->g6.get? c=some o:=λc o dc eO iW mw e=>mG.extBut _ _ eO (nO.extBut _ _ mw (i3.extBut _ _ eO (i2.extBut _ _ iW (i1.extBut _ _ dc e))));have qS:mm (k+1) g6:=oK.frame _ _ _ t1 λc au o e=>by
  rcases bS.mp au with rfl|au
  ·exact mG.extBut _ _ D.TOi1.symm (nO.extBut _ _ D.i12 (i3.extBut _ _ D.TOi1.symm e))
  ·rw[gj.mp au] at e ⊢;exact mG.extBut _ _ D.l1TO (nO.extBut _ _ D.l1i2 (i3.extBut _ _ D.l1TO e))
 have xV:mn (k+1) g6:=pW.frame _ _ _ eE λc au o e=>by
  rcases bS.mp au with rfl|au
  ·exact mG.extBut _ _ D.TOi2.symm e
  ·rw[gj.mp au] at e ⊢;exact mG.extBut _ _ D.l2TO e
 have wj:z<g6.objs.size:=cv IC;refine aI (m:=Builtin.SmallTypes.ownedTupleHandOut (.ref z) (.ref g6.objs.size)) ?_;unfold Builtin.SmallTypes.ownedTupleHandOut;have RV:hU (g6.push {cls:=.type "tuple",data:=.seq #[x,y]}) z TI cR .ellipsis f1:=cp _ IC;refine aI (kY RV (by simp) λRX Cx Bg=>?_);replace Cx:hU RX z TI cR (eU g6.objs.size) f1:=Cx;refine kY Cx (by simp) λuv xi Bh=>?_;replace xi:hU uv z TI cR (eU g6.objs.size) (.bool false):=xi;have up:∀c o,c≠z->g6.get? c=some o->uv.get? c=some o:=λc o dc e=>Bh.extBut _ _ dc (Bg.extBut _ _ dc (cp _ e));have dQ:IsPair uv g6.objs.size x y:=Bh.extBut _ _ (mX wj) (Bg.extBut _ _ (mX wj) (eQ _ rfl));have Jr:uv.objs.size=g6.objs.size+1:=by rw[Bh.1,Bg.1,gA]
 rw[Jq] at xi dQ Jr;refine bq ⟨_,rfl,?_⟩;show Q (.ref g6.objs.size) _;rw[Jq];refine dF uv x y _ kP py xi (up _ _ D.TOz w') (oK.frame _ _ _ qS λc au o e=>?_) (pW.frame _ _ _ xV λc au o e=>?_) dQ Jr λc o dc eO iW mw e=>up c o dc (SU c o dc eO iW mw e)
 ·refine up c o ?_ e
  rcases bS.mp au with rfl|au
  ·exact D.i1z
  ·rw[gj.mp au];exact D.l1z
 ·refine up c o ?_ e
  rcases bS.mp au with rfl|au
  ·exact D.i2z
  ·rw[gj.mp au];exact D.l2z
def aaF{Q:Fin->aG->Prop}(D:ZipApart z TI cR cP cS cE cF)(oK:Draws prog w A cP [cP,cE] dR zM mm)(pW:Draws prog w A cS [cS,cF] fp zN mn)(hz:hU s.heap z TI cR .none f1)(i6:IsPair s.heap TI (.ref cP) (.ref cS))(jx:IsPair s.heap cR a b)
  (s1:mm k s.heap) (s2:mn k s.heap) (aV:k=dR\/(k<dR/\k=fp))
  (fH:∀h' e tk,(∀c o,c≠z->c≠cR->c≠cP->c≠cS->s.heap.get? c=some o->h'.get? c=some o)->(∃o,h'.get? e=some o/\o.cls=.type "StopIteration")->E (.ref e) {s with heap:=h',toks:=tk}):
  a4 (bh prog w) A (Builtin.«zip.__next__» ⟨[.ref z],[]⟩) Q E s:=by
 unfold hU at hz;refine aI (m:=field (.ref z) 2) (ib hz rfl (x:=.bool false) rfl (aI (m:=field (.ref z) 3) (ib hz rfl (x:=.ref TI) rfl (aI (pB i6 rfl ?_)))));refine aI (m:=x9 (.ref z)) ?_;unfold x9;refine aI (ib hz rfl (x:=.none) rfl (bq ?_));simp only[if_true];refine aI (wpAny_rule (aI (ib hz rfl (x:=.ref cR) rfl (aI (kY hz (by simp) λh4 pd i1=>?_)))));replace pd:hU h4 z TI cR .ellipsis f1:=pd;refine aI ?_;simp only[List.zipIdx_cons,List.zipIdx_nil,List.forIn_cons,List.forIn_nil];have xN:mm k h4:=oK.frame k _ _ s1 λc au o e=>by
  rcases bS.mp au with rfl|au
  ·exact i1.extBut _ _ D.i1z e
  ·rw[gj.mp au] at e ⊢;exact i1.extBut _ _ D.l1z e
 rcases aV with rfl|⟨af,rfl⟩
 ·refine aI (aI (wpAny_onRaise (aI (m:=oj (.ref cP)) (oK.done _ _ _ xN λqq e i2 he=>?_))))
  obtain⟨D4,qn,ue⟩:=he;have Cv:hU qq z TI cR .ellipsis f1:=i2 _ _ D.i1z.symm pd;have ne:e≠z:=λq=>by
   subst q;unfold hU at Cv;rw[Cv] at qn;cases qn;simp at ue
  exact kY Cv (by simp) λn1 _ i3=>fH n1 e _ (λc o dc _ iW _ q=>i3.extBut _ _ dc (i2 _ _ iW (i1.extBut _ _ dc q))) ⟨D4,i3.extBut _ _ ne qn,ue⟩
 ·refine aI (aI (wpAny_onRaise (aI (m:=oj (.ref cP)) (oK.item k _ _ _ af xN λx qq tk kP t1 i2=>bq ?_))))
  have uc:IsPair qq cR a b:=i2.extBut _ _ D.TOi1 (i1.extBut _ _ D.TOz jx);refine aI (pB uc rfl (aI (wpAny_updateSeq_pair uc λn1 w_ i3=>?_)));refine aI (wpAny_letGo (bq ?_));have j4:mn k n1:=pW.frame k _ _ s2 λc au o e=>by
   rcases bS.mp au with rfl|au
   ·exact i3.extBut _ _ D.TOi2.symm (i2.extBut _ _ D.i12.symm (i1.extBut _ _ D.i2z e))
   ·rw[gj.mp au] at e ⊢;exact i3.extBut _ _ D.l2TO (i2.extBut _ _ D.l2i1 (i1.extBut _ _ D.l2z e))
  refine aI (aI (wpAny_onRaise (aI (m:=oj (.ref cS)) (pW.done _ _ _ j4 λuu e nO he=>?_))))
  obtain⟨D4,qn,ue⟩:=he;have Cw:hU uu z TI cR .ellipsis f1:=nO _ _ D.i2z.symm (i3.extBut _ _ D.TOz.symm (i2.extBut _ _ D.i1z.symm pd));have ne:e≠z:=λq=>by
   subst q;unfold hU at Cw;rw[Cw] at qn;cases qn;simp at ue
  exact kY Cw (by simp) λg6 _ mG=>fH g6 e _ (λc o dc eO iW mw q=>mG.extBut _ _ dc (nO _ _ mw (i3.extBut _ _ eO (i2.extBut _ _ iW (i1.extBut _ _ dc q))))) ⟨D4,mG.extBut _ _ ne qn,ue⟩
end
end
section
variable [bX]
open AutoSeq1 (wpAny_loadPart')
def R8(b:Bool):String:=if b then "list_iterator" else "tuple_iterator"
def i9(b:Bool)(h:bk)(it l:ai)(i:Nat):Prop:=match b with
|true=>h.IsListIter it l i
|false=>h.IsTupleIter it l i
def hE(b:Bool)(h:bk)(l:ai)(xs:Array aj):Prop:=match b with
|true=>h.IsList l xs
|false=>h.IsTuple l xs
theorem i9.at{b:Bool}{h h':bk}{it l:ai}{i:Nat}(x:i9 b h it l i)(k:∀o,h.get? it=some o->h'.get? it=some o):i9 b h' it l i:=by
 cases b with
|true=>exact Heap.IsListIter.at x k
|false=>
  obtain⟨o,aQ,r⟩:=x;exact⟨o,k o aQ,r⟩
def i9.obj{b:Bool}{h:bk}{it l:ai}{i:Nat}(x:i9 b h it l i):∃o,h.get? it=some o/\∀v,o.data≠.cell v:=by
 cases b with
|true=>
  obtain⟨o,aQ,au,hd⟩:=x;exact⟨o,aQ,λv z=>by rw[hd] at z;cases z⟩
|false=>
  obtain⟨o,aQ,au,hd⟩:=x;exact⟨o,aQ,λv z=>by rw[hd] at z;cases z⟩
def hE.at{b:Bool}{h h':bk}{l:ai}{xs:Array aj}(x:hE b h l xs)(k:∀o,h.get? l=some o->h'.get? l=some o):hE b h' l xs:=by
 cases b with
|true=>
  obtain⟨o,aQ,r⟩:=x;exact⟨o,k o aQ,r⟩
|false=>
  obtain⟨o,aQ,r⟩:=x;exact⟨o,k o aQ,r⟩
def hE.lt{b:Bool}{h:bk}{l:ai}{xs:Array aj}(x:hE b h l xs):l<h.objs.size:=by
 cases b with
|true=>
  obtain⟨o,aQ,r⟩:=x;exact cv aQ
|false=>
  obtain⟨o,aQ,r⟩:=x;exact cv aQ
def y6{prog:cH}{w:bY}{A:cN}(b:Bool)(b':A.handled=none)(it l:ai)(gJ:l≠it)(xs:Array aj):
  Draws prog w A it [it,l] xs.size (λi v=>xs[i]?=some v) (λi h=>i9 b h it l i/\hE b h l xs):=by
 cases b with
|true=>exact Draws.list b' it l gJ xs
|false=>exact J5 b' it l gJ xs
abbrev wg(b:Bool)(l:ai):Obj:={cls:=.type (R8 b),data:=.fields #[.ref l,.int 0 0]}
abbrev _p(bK cq:Bool)(h:bk)(cE cF:ai):bk:=((h.push (wg bK cE)).push (wg cq cF)).push {cls:=.type "tuple",data:=.seq #[.ref h.objs.size,.ref (h.objs.size+1)]}
abbrev Lr(bK cq:Bool)(h:bk)(cE cF:ai):bk:=(_p bK cq h cE cF).push {cls:=.type "tuple",data:=.seq #[.none,.none]}
abbrev Ls(bK cq:Bool)(h:bk)(cE cF:ai):bk:=(Lr bK cq h cE cF).push {cls:=.type "zip",data:=.fields #[.none,.bool false,.bool false,.ref (h.objs.size+2),.ref (h.objs.size+3)]}
section
variable {prog:cH}{w:bY}{A:cN}{E:aj->aG->Prop}{s:aG}
def L'{b:Bool}{l:ai}{xs:Array aj}{Q:aj->aG->Prop}(aF:hE b s.heap l xs)(h:Q (.ref s.heap.objs.size) {s with heap:=s.heap.push (wg b l)}):a4 (bh prog w) A (pyIter (.ref l)) Q E s:=by
 cases b with
|true=>exact wpAny_pyIter_list aF h
|false=>exact su aF h
def _b(bK cq:Bool)(cE cF:ai)(xs ys:Array aj):
  Meets (Builtin.«zip.__new__» ⟨[.type "zip",.ref cE,.ref cF],[]⟩) (λ_ R s=>hE bK s.heap cE xs/\hE cq s.heap cF ys /\
   R (.ok (.ret (.ref (s.heap.objs.size+4)))) {s with heap:=Ls bK cq s.heap cE cF}):=
 .of_wp λprog w A R s h=>by
  obtain⟨aE,g,d,tk,os⟩:=s;obtain⟨af,ao,h⟩:=h;have i7:=sub_zip;have g4:hE bK (Shared.heap ⟨aE,g,d,tk,os⟩) cE xs:=af;have ht:hE cq (Shared.heap ⟨aE.push (wg bK cE),g,d,tk,os⟩) cF ys:=ao.at λo e=>cp _ e
  wp_walk using L' g4,L' ht
  refine⟨_,rfl,?_⟩
  simp only[gA] at h ⊢;exact h
def aat{bK cq:Bool}{cE cF:ai}{xs ys:Array aj}{Q:aj->aG->Prop}(af:hE bK s.heap cE xs)(ao:hE cq s.heap cF ys)
  (h:∀h',hU h' (s.heap.objs.size+4) (s.heap.objs.size+2) (s.heap.objs.size+3) .none (.bool false)->IsPair h' (s.heap.objs.size+2) (.ref s.heap.objs.size) (.ref (s.heap.objs.size+1))->IsPair h' (s.heap.objs.size+3) .none .none ->
   i9 bK h' s.heap.objs.size cE 0->i9 cq h' (s.heap.objs.size+1) cF 0->h'.objs.size=s.heap.objs.size+5->(∀c o,s.heap.get? c=some o->h'.get? c=some o)->Q (.ref (s.heap.objs.size+4)) {s with heap:=h'}):
  a4 (bh prog w) A (call (.type "zip") [.ref cE,.ref cF]) Q E s:=by
 have hi:∀(b:Bool) (h':bk) (it l:ai),h'.get? it=some (wg b l)->i9 b h' it l 0:=λb h' it l e=>by
  cases b with
  |true=>exact⟨_,e,rfl,rfl⟩
  |false=>exact⟨_,e,rfl,rfl⟩
 refine callType_new F.called_zip (by decide) (F.typeCall_zip_2 _ _) (F.newCall_zip_2 _ _) (λobj=>F.args_object_init_3 obj _ _) F.entry_zip_new (_b bK cq cE cF xs ys) ⟨af,ao,?_⟩
 have at_:∀(b':bk) (n:Nat) (o d6:Obj),b'.objs.size=n->o.isFreed=false->(b'.push o).get? n=some o:=λb' n o d6 e f=>by
  rw[<- e];exact eQ _ f
 have jw:(Ls bK cq s.heap cE cF).get? (s.heap.objs.size+4)=some _:=at_ (Lr bK cq s.heap cE cF) (s.heap.objs.size+4) _ default (by simp only[gA]) rfl;refine⟨⟨_,jw,rfl⟩,h _ jw ?_ ?_ ?_ ?_ (by simp only[gA]) λc o e=>cp _ (cp _ (cp _ (cp _ (cp _ e))))⟩
 ·exact cp _ (cp _ (at_ _ _ _ default (by simp only[gA]) rfl))
 ·exact cp _ (at_ _ _ _ default (by simp only[gA]) rfl)
 ·exact hi bK _ _ _ (cp _ (cp _ (cp _ (cp _ (eQ _ rfl)))))
 ·exact hi cq _ _ _ (cp _ (cp _ (cp _ (at_ _ _ _ default (by simp only[gA]) rfl))))
end
end
section
variable [bX]
def Y8{n cE cF:Nat}(af:cE<n)(ao:cF<n):ZipApart (n+4) (n+2) (n+3) n (n+1) cE cF:=by constructor <;> (show (_:Nat)≠_) <;> omega
end
section
variable [bX]
open AutoSeq1 (wpAny_loadPart')
noncomputable def Tv:T->T->Option T
|.tuple xs,.int k=>if 2<=k/\k<1000/\xs≠[]/\xs.length*k.toNat<=big then some (.tuple (jc k.toNat xs).flatten) else none
|.list xs,.int k=>if 0<=k/\k<1000/\xs.length*k.toNat<=big then some (.list (jc k.toNat xs).flatten) else none
|_,_=>none
end
section
variable [bX]
section
variable {X:a5}{a b c:a8}{f g h:aY}{pos:Pos}
def aas:∀σ H Q,mR X.K (chain oLe oLe f g h) σ H Q->Ge (λx y H Q=>jE (λi j=>.bL (decide (i<=j))) x y H Q\/∃i j,x=.str i/\y=.str j/\Q (.bL (!strLt j i)) H) (λx y H Q=>jE (λi j=>.bL (decide (i<=j))) x y H Q\/∃i j,x=.str i/\y=.str j/\Q (.bL (!strLt j i)) H) (sj X.K f) (sj X.K g) (sj X.K h) σ H Q:=
 λσ H Q ⟨aO,aN,O,F,ε,t,r,e,k⟩=>by
 simp only[chain,c0] at e;obtain⟨x,ex,y,hY,z,nN,e⟩:=e;refine⟨aO,aN,O,F,ε,x,r,ex,λfe a6 H1 a3 aS=>⟨aO,aN,O,a6,ε,y,r.ext a3,hY,λe0 d0 bt cu bz=>?_⟩⟩;refine zb (X:=X) O d0 bt x y z fe e0 _ cu.cB (aS.ext cu) bz nN λv ho dN dX c6=>?_;split at e
 ·simp only[Rep] at c6;subst c6;simp only[c0] at e;obtain⟨w,oX,ep⟩:=e;refine⟨true,rfl,uy ⟨aO,aN,O,ho,ε,w,((r.ext a3).ext cu).ext dX,oX,λsl ih hP gO qN=>?_⟩⟩;exact zb (X:=X) O ih hP y w t e0 sl _ gO.cB ((bz.ext dX).ext gO) qN ep λv iO hp j9 qJ=>k v iO hp ((((a3.trans cu).trans dX).trans gO).trans j9) qJ
 ·simp only[Rep] at c6;subst c6;cases e;exact⟨false,rfl,ux (k _ ho dN ((a3.trans cu).trans dX) (by simp[Rep]))⟩
 ·cases e
def s8(az:dU X a f)(ae:dU X b g)(au:dU X c h)(hm:lastMarks [.LtE,.LtE] [b,c]=false:=by with_unfolding_all rfl):jt X (.Compare a [.LtE,.LtE] [b,c] pos) (aP (chain oLe oLe f g h)):=
 vZ (aaZ (zm.or yU) (zm.or yU) az ae au hm) (adw aas)
end
end
section
abbrev t0:bX:=⟨[],λ_=>[],λ_=>none⟩
def dw(ns:List Int):T:=.list (ns.map .int)
def IZ(K:bc):Bool:=K.all λp=>match p.2.cls with
|.type t=>t != "list"
|_=>true
theorem J2{α β:Type}[BEq α][LawfulBEq α]{a:α}{b:β}:∀{l:List (α×β)},l.lookup a=some b->(a,b)∈l
  | [],h=>by cases h
  | (x,y)::l,h=>by
    rw[l0] at h;split at h
    next q=>
      cases h
      have:a=x:=by simpa using q
      subst this;simp
    next=>exact gz _ (J2 h)
end
section
variable [bX]
section
variable {X:a5}{av:List a8}{k:Nat}{p pos dh:Pos}{a b:a8}{f g:aY}
def v5(ts us:List T):List T:=List.zipWith (λx y=>.tuple [x,y]) ts us
end
end
section
variable [bX]
open PySem.W (kas_ask kas_sort kat_run kat_snds kat_lt kat_kind KatTups KatLex KatGo kas_item KasT)
def dQ(x:Str×List T):T:=.tuple (.str x.1::x.2)
section
variable {X:a5}{a b:a8}{f g:aY}{pos:Pos}
def My:T->T->Option T
|.tuple xs,.int k=>if 1<=k/\k<1000/\xs≠[]/\xs.length*k.toNat<=big then some (.tuple (jc k.toNat xs).flatten) else none
|_,_=>none
end
end
section
section
variable {prog:cH}{w:bY}{A:cN}{E:aj->aG->Prop}{s:aG}{nF:Array Keyed}
def Rz(nF:Array Keyed)(st ix:SortSt):Prop:=arrOf ix=arrOf st/\failedOf ix=none/\pendingOf ix=#[(0,nF.size,0)]
end
variable [bX]
end
section
def _v{pos:Pos}{c iX:aj}{a b:Int}(l:List aj)(h:TriplesOk l)(e:codeAmong pos (l++[eU a,eU b,c])=some iX):codeAmong pos l=some iX\/iX=c:=by
 fun_induction TriplesOk l with
|case1=>
  simp only[List.nil_append,codeAmong,eU] at e;split at e
  ·exact .inr (ia e).symm
  ·cases e
|case2 iS t gX u x rest cK=>
  simp only[List.cons_append,codeAmong] at e ⊢;split at e
  next au=>rw[if_pos au];exact .inl e
  next au=>rw[if_neg au];exact cK h e
|case3 _ _ _=>exact h.elim
noncomputable def mc(mg:Str->Option aj)(h:bk):Prop:=∃bm dB,mg "__builtins__"=some (.ref bm)/\bm≠builtinsNs/\h.get? bm=some dB/\dB.cls=.type "module"/\dB.dict=some builtinsNs/\dB.data=.plain
def n5(o:Obj)(q:ai):el:=.ext λh=>h.get? q=some o
def rI(c:ai)(q:Str):el:=.ext λh=>h.CodeRec (.ref c) q
variable [bX]
def abf{X:a5}{ag:List (ai×Obj)}{σ:bu.St}{H:aD}{s:aG}{params:Arguments}{body:a8}{scope:Scope}{kI:Pos}{c P:ai}{e7:List (Str×ai)}{Q:aj->aG->Prop}(I:Inv X ag σ H s)
  (rZ:X.env.code=.ref c) (C:PySem.W.CodeHd X.base c P) (lH:mc X.mg X.base) (uf:defaultsOf params X.env=([],[])) (il:closureFor scope X.env=pure e7)
  (d:ju H) (cM:(P,X.env.qual++"<lambda>")∈bX.cM) (un:∀p∈bX.cM,p.1=P->p.2=X.env.qual++"<lambda>")
  (h:∀(q bT:ai) (gZ:aj) (ah:aD) (aZ:aG),Inv X ag σ ah aZ->hk H ah->ju ah->H q=none->ah q=some (n5 (PySem.W.kla_obj "<lambda>" (X.env.qual++"<lambda>") params body scope e7 ((X.mg "__name__").getD .none) bT gZ) q) ->
   ah bT=some (rI bT (X.env.qual++"<lambda>"))->Q (.ref q) aZ):
  a4 (bh X.prog X.w) X.A (eval (.Lambda params body scope kI) X.env) Q X.dv s:=by
 obtain⟨ps,fI,aM,aU⟩:=d _ cM;have d2:s.heap.get? P=some (PySem.W.tabObj ps):=I.bP P _ fI;have ns:s.heap.Ns h9 X.mg:=I.ok.mod.glob.keeps I.gF;obtain⟨bm,dB,bK,cq,gY,mv,nG,iV⟩:=lH;have tM:=I.gF _ _ gY;have Ra:h9≠P:=λz=>by
  obtain⟨o,av,ep,e,hd,_⟩:=ns;rw[z,d2] at e;cases e;cases hd
 have QY:bm≠P:=λz=>by
  rw[z,d2] at tM;cases tM;cases mv
 have QX:bm≠h9:=λz=>by
  obtain⟨o,av,ep,e,hd,_⟩:=ns;rw[z,e] at tM;cases tM;rw[hd] at iV;cases iV
 have ae:s.heap.BuiltinsAt X.mg P:=⟨bm,dB,bK,cq,QX,QY,tM,mv,nG,iV⟩;have GA:=C.keeps I.gF;refine PySem.W.kla_eval uf ?_;cases hf:codeAmong kI ps.toList with
|some iX=>
  obtain⟨bT,rfl,b2⟩:=aU kI iX hf;refine PySem.W.kla_makeFunctionHit il I.ok.glob ns rZ GA d2 aM hf ae λgZ h' tk k hv=>?_;have fr:H h'.objs.size=none:=I.bP.fresh hv;refine h h'.objs.size bT gZ (upd H h'.objs.size (n5 _ h'.objs.size)) _ (I.laid (t':=tk) (λb u e=>cp _ (k b u e)) hv ⟨eQ _ rfl,⟨_,eQ _ rfl⟩,λaf ao aC aR=>aR _ aC⟩)
   (λb o e=>.inl (by rw[ck (fD e fr)];exact e)) (d.new fr) fr es (by rw[ck (fD b2 fr)];exact b2)
|none=>
  refine PySem.W.kla_makeFunction il I.ok.glob ns rZ GA d2 aM hf Ra ae λbT gZ h' tk hx r1 dz Iv n0=>?_
  have HR:H h'.objs.size=none:=I.bP.fresh (j' r1 (Nat.le_of_lt dz));have QB:H bT=none:=I.bP.fresh r1;have OV:bT≠h'.objs.size:=cX dz;have qB:∀b o,H b=some o->b≠bT:=λb o e=>fD e QB;have IW:∀b o,H b=some o->b≠h'.objs.size:=λb o e=>fD e HR;have NX:=qB P _ fI;have NZ:=IW P _ fI
  let ah:aD:=upd (upd (upd H P (.gN (ps++#[eU kI.line,eU kI.col,.ref bT]))) bT (rI bT (X.env.qual++"<lambda>"))) h'.objs.size (n5 (PySem.W.kla_obj "<lambda>" (X.env.qual++"<lambda>") params body scope e7 ((X.mg "__name__").getD .none) bT gZ) h'.objs.size)
  have HO:ah h'.objs.size=some (n5 (PySem.W.kla_obj "<lambda>" (X.env.qual++"<lambda>") params body scope e7 ((X.mg "__name__").getD .none) bT gZ) h'.objs.size):=es;have Ba:ah bT=some (rI bT (X.env.qual++"<lambda>")):=by show upd _ _ _ _=_;rw[ck OV,es]
  have w1:ah P=some (.gN (ps++#[eU kI.line,eU kI.col,.ref bT])):=by show upd _ _ _ _=_;rw[ck NZ,ck NX,es]
  have A':∀b,b≠P->b≠bT->b≠h'.objs.size->ah b=H b:=λb dR fp qz=>by show upd _ _ _ _=_;rw[ck qz,ck fp,ck dR]
  have nL:∀b o,H b=some o->b≠P->ah b=some o:=λb o e n=>by rw[A' b n (qB b o e) (IW b o e)];exact e
  have aK:∀b o,b≠P->s.heap.get? b=some o->(h'.push (PySem.W.kla_obj "<lambda>" (X.env.qual++"<lambda>") params body scope e7 ((X.mg "__name__").getD .none) bT gZ)).get? b=some o:=λb o n e=>cp _ (hx b o n e);have D0:∀b,H b=none->b≠P:=λb e z=>by rw[z,fI] at e;cases e
  have se:hk H ah:=λb o e=>by
   by_cases z:b=P
   ·subst z;rw[fI] at e;cases e;exact .inr ⟨_,_,rfl,w1⟩
   ·exact .inl (nL b o e z)
  refine h h'.objs.size bT gZ ah _ (I.un (t':=tk) ⟨λb o e n _ _=>aK b o (D0 b n) e,λb o e n _ _=>⟨o.slots,aK b o (D0 b n) e⟩,λb o e n _=>?_,λb o e _=>?_,λb xs e=>nL b _ e λz=>by (rw[z,fI] at e;cases e),λb o u e=>nL b _ e λz=>by (rw[z,fI] at e;cases e),λb Jb e=>?_⟩ λa o e=>?_) se (λp aE=>?_) HR HO Ba
  ·have lt:=cv e;rw[A' b (D0 b n) (cX (g9 lt r1)) (cX (Nat.lt_trans (g9 lt r1) dz))];exact n
  ·by_cases z:b=P
   ·subst z;exact⟨_,cp _ n0⟩
   ·exact⟨o,aK b o z e⟩
  ·by_cases z:b=P
   ·subst z;rw[fI] at e;cases e;exact⟨_,w1⟩
   ·exact⟨#[],by rw[nL b _ e z];simp⟩
  ·by_cases iF:a=h'.objs.size
   ·subst iF;rw[HO] at e;cases e;exact⟨eQ _ rfl,⟨_,eQ _ rfl⟩,λaf ao aC aR=>aR _ aC⟩
   by_cases hc:a=bT
   ·subst hc;rw[Ba] at e;cases e;refine⟨Iv.at λo e=>cp _ e,?_,λaf ao aC aR=>aC.at aR⟩;obtain⟨eO,o,vs,t,aR,aQ,_⟩:=Iv;cases aR;exact⟨o,cp _ aQ⟩
   by_cases kf:a=P
   ·subst kf;rw[w1] at e;cases e;exact cp _ n0
   ·rw[A' a kf hc iF] at e;refine (I.bP a o e).lW (λb u ae q=>aK b u ?_ q) (λb q=>nL b _ q λz=>by (rw[z,fI] at q;cases q)) λb xs q=>nL b _ q λz=>by (rw[z,fI] at q;cases q)
    rcases ae with rfl|ae
    ·exact kf
    ·exact λz=>by rw[z,fI] at ae;cases ae
  ·by_cases z:p.1=P
   ·have aR:=un p aE z;obtain⟨j0,dh⟩:=p;simp only at z aR;subst z aR;refine⟨_,w1,by rw[Array.toList_append];exact TriplesOk_snoc _ _ _ _ aM,λpos iX e=>?_⟩;rw[Array.toList_append] at e;rcases _v _ aM e with e|e
    ·obtain⟨eO,aC,aR⟩:=aU pos iX e;exact⟨eO,aC,nL _ _ aR λz=>by (rw[z,fI] at aR;cases aR)⟩
    ·exact⟨bT,e,Ba⟩
   ·obtain⟨Jb,aT,bg,c6⟩:=d p aE;refine⟨Jb,nL _ _ aT z,bg,λpos iX e=>?_⟩;obtain⟨eO,aC,aR⟩:=c6 pos iX e;exact⟨eO,aC,nL _ _ aR λz=>by (rw[z,fI] at aR;cases aR)⟩
end
section
variable [bX]
noncomputable def rS(qual:Str)(scope:Scope)(L q:ai)(cd:aj)(cl:List (Str×ai)):Env:=
 {scope:=scope,locals:=L,globals:=h9,cells:=cl,qual:=qual++".<locals>.",func:=some q,code:=cd,frame:=some L,builtins:=builtinsNs}
noncomputable def tQ(P:cH)(w:bY)(K:bc)(mg:Str->Option aj)(base:bk)(N:List Str)(qual:Str)(scope:Scope)(q:ai)(cd:aj)(cl:List (Str×ai))(A:cN)(outer:List Env)(s:aG)(H:aD):a5 where
 prog:=P
 w:=w
 K:=K
 mg:=mg
 base:=base
 A:=A.deeper (rS qual scope s.heap.objs.size q cd cl)
 N:=N
 c7:=s
 aN:=H
 env:=rS qual scope s.heap.objs.size q cd cl
 outer:=outer
 stack:=rS qual scope s.heap.objs.size q cd cl::outer
 ex:=[]
 calm:=true
 fn:=λ_=>false
 dJ:=[]
 dv:=λ_ _=>False
structure rt(N:List Str)(scope:Scope)(cl:List (Str×ai))(σ:bu.St)(H:aD)(h:bk):Prop where
 inj:∀x y c,cl.lookup x=some c->cl.lookup y=some c->x=y
 has:∀x,(scope.names.lookup x=some .cell\/scope.names.lookup x=some .free)->∃c,cl.lookup x=some c
 wM:∀x c,cl.lookup x=some c->(∃v,h.IsCell c v)/\H c=none
 len:σ.length=N.length
 val:∀(i:Nat) (x:Str) (v:V),N[i]?=some x->σ[i]?=some (some v)->oR scope x->∃u c,RelV v u/\scope.names.lookup x=some .free/\cl.lookup x=some c/\h.IsCell c (some u)
def J3{h h':bk}{c:ai}{v:Option aj}(x:h.IsCell c v)(k:∀b o,h.get? b=some o->h'.get? b=some o):h'.IsCell c v:=by
 obtain⟨o,aQ,hd⟩:=x;exact⟨o,k _ _ aQ,hd⟩
end
section
variable [bX]
def abm{P:cH}{w:bY}{K:bc}{mg:Str->Option aj}{base:bk}{k:Nat}{x qual:Str}{st:Stmt}{f:ai}{fd:e1}{N ps:List Str}{A:cN}{outer:List Env}{s:aG}{H:aD}{us:List aj}{vs:List V}{Q:c5}{E:hT}
  (F:cO K x qual st f fd) (S:c4 N ps (bJ st)) (bd:Binds K fd ps []) (aw:ef (k+1) A) (bG:ni P w K mg base A outer s H) (r:Vals vs us) (aF:vs.length=ps.length)
  (ud:∀cy:aj,ef k (A.deeper (envOfC qual (bJ st) s.heap.objs.size f cy))->∃t,gV (gG d9 P w K mg base N qual (bJ st) f cy A outer s H E).hC (hb st) t/\t {nx:=λ_ ah=>Q .gb ah,dn:=Q} (start N vs) H):
  ic (bh P w) A (.call (.ref f) ⟨us,[]⟩) (pU d9 outer P w H s Q E) s:=by
 obtain⟨gc,gx,eJ,doc,pm,an,cy,b_,jZ,rfl,lk,eB⟩:=F.ex;have RN:us.length=ps.length:=by rw[<- r.length];exact aF
 have iQ:K.In s.heap:=bG.mod.r5.keeps λb o e=>(bG.bs b o e).1;have lim:s.heap.NoLimit:=bG.mod.nolimit.keeps λb o e=>(bG.bs b o e).1;have ae:=bd s us iQ (by rw[pz];exact RN);rw[pz] at ae;have Cc:∀y∈ps.zip us,(bJ st).names.lookup y.1=some .local\/((bJ st).names.lookup y.1=some .cell/\((cellsFrom (s.heap.objs.size+1) (bJ st).names []).lookup y.1).isSome=true):=λ⟨n,v⟩ bl=>by
  rcases S.par n (List.of_mem_zip bl).1 with q|q
  ·exact .inl q
  ·exact .inr ⟨q,PySem.W.cellsFrom_some _ _ _ (.inl q)⟩
 refine codeAny_call_function aw.depth (iQ _ _ lk) rfl S.co S.gen rfl (PySem.W.codeRec_of iQ eB) (ae _ _ _ _ ?_)
 refine wpAny_newFunctionEnv_cells S.kind Cc λenv he s1 x=>?_
 subst he;refine⟨lim.keeps x.toInCall.keep,codeAny_func ?_⟩;obtain⟨t,aM,a0⟩:=ud cy (aw.deeper _);have I:Inv (gG d9 P w K mg base N qual (bJ st) f cy A outer s H E) [] (start N vs) H s1:=KL S aw.hd bG aF r x;refine g_ (aM.hC [] s1 (start N vs) H _ I a0) (λgr aZ aA=>?_) λe aZ aA=>aA;have fin:∀{bI:bu.St} {ah:aD} {v:V} {u:aj},Inv (gG d9 P w K mg base N qual (bJ st) f cy A outer s H E) [] bI ah aZ->RelV v u->Q v ah->wo outer P w H s Q u aZ:=
  λ{bI ah v u} J b3 q=>⟨v,ah,J.os,J.bare,J.base,J.bP,b3,q⟩
 cases gr with
|ret u=>
  obtain⟨v,bI,ah,J,b3,q⟩:=aA;exact fin J b3 q
|next=>
  obtain⟨bI,ah,J,q⟩:=aA;exact fin (v:=V.gb) (u:=Value.none) J rfl q
|brk=>
  obtain⟨_,_,_,q⟩:=aA;exact eL q
|cont=>
  obtain⟨_,_,_,q⟩:=aA;exact eL q
end
section
variable [bX]
def aaf{fs ex:List ai}{H ah:aD}{h h':bk}{c:ai}{v:Option aj}(u:eY fs ex H ah h h')(x:h.IsCell c v)(au:H c=none)(he:c∉ex):h'.IsCell c v:=by
 obtain⟨o,aQ,hd⟩:=x;by_cases hf:c∈fs
 ·obtain⟨bx,e⟩:=u.slot c o aQ au hf he;exact⟨_,e,hd⟩
 ·exact⟨o,u.keep c o aQ au hf he,hd⟩
end
section
def zu(ts:List ai)(H:aD):Prop:=(∀b,H b=none\/(∃o xs,H b=some (.lC o (.lst xs)))\/(b∈ts/\H b=some (.gN #[])))/\∀b∈ts,H b=some (.gN #[])
def _Z{P:cH}{w:bY}{K:bc}{mg kJ:Str->Option aj}{ed:kn}{k:Nat}{bZ a:ai}{fd:e1}{x:Str}{sp:mq}{cw:aG}{vs:List aj}{ns:List Int}{ts:List ai}
  (iQ:K.In cw.heap) (pb:∀b∈ts,cw.heap.get? b=some (PySem.W.tabObj #[])) (ua:∀b∈ts,K.lookup b=none) (eB:∀b∈ts,∃c,q2 K c b=true)
  (o8:cw.heap.Ns h9 mg) (ae:cw.heap.Ns builtinsNs kJ) (Q1:∀x:Str,x≠"__name__"->kJ x=bootBuiltins x) (Rm:cw.heap.NoLimit) (aU:cw.gens=#[])
  (az:cw.heap.get? a=some {cls:=.type "list",data:=.seq vs.toArray}) (hi:IntsAre vs ns) (aF:ns.length<=cV) (aw:ef k callerA)
  (lH:mc mg cw.heap) (F:∀base:bk,K.In base->base.Ns h9 mg->mc mg base->fP P w K mg base ed k bZ fd [x] sp) (Q3:∀(s:aG) (u:aj),BindsTo s fd ⟨[u],[]⟩ [(x,u)])
  (o':∀H:aD,zu ts H->e5 K H a (ns.map V.int)->sp [.ref a] H (λv _=>v=.bL true) λ_ _ _=>False)
  (BW:∀H e aZ,ed [] H cw (λ_ _ _=>False) e aZ->False):
  ic (bh P w) callerA (.call (.ref bZ) ⟨[.ref a],[]⟩) (λr aZ=>r=.ok (.ret (.bool true))/\OldK cw.heap aZ.heap/\aZ.os=cw.os/\AllBare aZ.gens) cw:=by
 have b3:=Kr hi;have SX:=hi.length;have nat:a∉ts:=λz=>by
  have:=pb a z;rw[az] at this;cases this
 have core:∀H:aD,zu ts H->e5 K H a (ns.map V.int)->e3 P w H cw.heap->(∀b,H b≠none->b=a\/b∈ts)->(H a≠none->K.lookup a=none) ->
   ic (bh P w) callerA (.call (.ref bZ) ⟨[.ref a],[]⟩) (λr aZ=>r=.ok (.ret (.bool true))/\OldK cw.heap aZ.heap/\aZ.os=cw.os/\AllBare aZ.gens) cw:=by
  intro H mI cn bP BV eR;have Aq:∀{b:ai} {o:Obj},cw.heap.get? b=some o->H b=none->(mL cw.heap H).get? b=some o:=λe n=>abk e n;have n7:∀{b:ai} {o:Obj} {av:Array DictEntry} {ep:Nat},cw.heap.get? b=some o->o.data=.dict av ep->H b=none:=λ{b o av ep} e d=>by
   cases q:H b with
   |none=>rfl
   |some u=>
    rcases BV b (by rw[q];simp) with b7|b7
    ·subst b7;rw[az] at e;cases e;have d':Data.seq vs.toArray _=Data.dict av ep:=d;cases d'
    ·rw[pb b b7] at e;cases e;have d':Data.fields _=Data.dict av ep:=d;cases d'
  have xt:∀{b:ai} {m:Str->Option aj},cw.heap.Ns b m->(mL cw.heap H).Ns b m:=λ{b m} ⟨o,av,ep,e,d,r⟩=>⟨o,av,ep,Aq e (n7 e d),d,r⟩;have HU:K.In (mL cw.heap H):=λb o e=>Aq (iQ b o e) (by
   cases q:H b with
   |none=>rfl
   |some u=>
    rcases BV b (by rw[q];simp) with b7|b7
    ·subst b7;rw[eR (by rw[q];simp)] at e;cases e
    ·rw[ua b b7] at e;cases e)
  have Q4:mc mg (mL cw.heap H):=by
   obtain⟨bm,dB,bK,cq,gY,mv,nG,iV⟩:=lH;refine⟨bm,dB,bK,cq,Aq gY ?_,mv,nG,iV⟩;cases q:H bm with
   |none=>rfl
   |some u=>
    rcases BV bm (by rw[q];simp) with b7|b7
    ·subst b7;rw[az] at gY;cases gY;cases iV
    ·rw[pb bm b7] at gY;cases gY;cases iV
  have QO:Mod K mg (mL cw.heap H):=⟨HU,xt o8,⟨kJ,xt ae,Q1⟩,let ⟨S8,af,ao⟩:=Rm;⟨S8,xt af,ao⟩⟩;have bG:ni P w K mg (mL cw.heap H) callerA [] cw H:=⟨rfl,QO,λb o e=>abX e,Nat.le_of_eq (aaj _ _),trivial,λb ae=>absurd (show b∈([]:List ai) from ae) (by simp),bP,.of_eq aU⟩;refine m1 ((F _ HU (xt o8) Q4).run callerA [] cw H ⟨[.ref a],[]⟩ [.ref a] [.ref a] _ _ aw bG (Q3 cw (.ref a)) (.cons rfl .nil) (o' H mI cn)) λr aZ h=>?_;cases r with
  |error e=>exact (BW H e aZ h).elim
  |ok gr=>
   cases gr with
   |next=>exact eL h
   |brk=>exact eL h
   |cont=>exact eL h
   |ret u=>
    obtain⟨v,ah,os,bare,un,Io,bU,q⟩:=h;have di:v=.bL true:=q;subst di;obtain rfl:u=Value.bool true:=bU;refine⟨rfl,⟨λb o e=>?_,λb o e=>un.there b o e (by simp)⟩,os,bare⟩;cases q:H b with
    |none=>exact .inl (un.keep b o e q (by intro z;exact absurd (show b∈([]:List ai) from z) (by simp)) (by simp))
    |some u=>
     rcases mI.1 b with z|⟨dB,xs,z⟩|⟨H5,z⟩
     ·rw[q] at z;cases z
     ·have hc:=un.mH b dB _ z;obtain⟨aC,_⟩:=bP b _ z;obtain⟨aR,_⟩:=Io b _ hc;rw[e] at aC;cases aC;exact .inl aR
     ·obtain⟨more,hc⟩:=un.mS b _ z;have aR:aZ.heap.get? b=some (PySem.W.tabObj (#[]++more)):=Io b _ hc;have aC:=pb b H5;rw[e] at aC;cases aC;obtain⟨c,au⟩:=eB b H5;exact .inr (.inl ⟨((PySem.W.codeHd_of_K iQ au).tab e).isCodeTable,rfl,#[],more,rfl,aR⟩)
 cases aV:K.lookup a with
|some o=>
  have e:=iQ a o aV;rw[az] at e;cases e;refine core (λb=>if b∈ts then some (.gN #[]) else none) ⟨λb=>?_,λb ae=>if_pos ae⟩ (.inr ⟨_,vs.toArray,_,aV,rfl,rfl,rfl,by rw[er,SX];exact aF,by simpa using b3⟩) (λb u z=>?_) (λb z=>?_) λz=>?_
  ·by_cases ae:b∈ts
   ·exact .inr (.inr ⟨ae,if_pos ae⟩)
   ·exact .inl (if_neg ae)
  ·by_cases ae:b∈ts
   ·have fC:=(if_pos ae).symm.trans z;cases fC;exact pb b ae
   ·have fC:=(if_neg ae).symm.trans z;cases fC
  ·by_cases ae:b∈ts
   ·exact .inr ae
   ·exact absurd (if_neg ae) z
  ·exact absurd (if_neg nat) z
|none=>
  refine core (λb=>if b=a then some (.lC {cls:=.type "list",data:=.seq vs.toArray} (.lst (ns.map V.int))) else if b∈ts then some (.gN #[]) else none) ⟨λb=>?_,λb ae=>?_⟩ (.inl (.inr ⟨{cls:=.type "list",data:=.seq vs.toArray},if_pos rfl⟩)) (λb u z=>?_) (λb z=>?_) λ_=>aV
  ·by_cases ae:b=a
   ·exact .inr (.inl ⟨_,_,if_pos ae⟩)
   ·by_cases hu:b∈ts
    ·exact .inr (.inr ⟨hu,(if_neg ae).trans (if_pos hu)⟩)
    ·exact .inl ((if_neg ae).trans (if_neg hu))
  ·have ne:b≠a:=λz=>nat (z▸ae);exact (if_neg ne).trans (if_pos ae)
  ·by_cases ae:b=a
   ·have fC:=(if_pos ae).symm.trans z;cases fC;subst ae;exact⟨az,by rw[ej];exact aF,vs,_,b3,az⟩
   ·by_cases hu:b∈ts
    ·have fC:=((if_neg ae).trans (if_pos hu)).symm.trans z;cases fC;exact pb b hu
    ·have fC:=((if_neg ae).trans (if_neg hu)).symm.trans z;cases fC
  ·by_cases ae:b=a
   ·exact .inl ae
   ·by_cases hu:b∈ts
    ·exact .inr hu
    ·exact absurd ((if_neg ae).trans (if_neg hu)) z
def aaI{l:PySem.W.OpenLaw}{n k:Nat}{q:cH}{loose:List Str}{rz:(Str->Option aj)->bk->Prop}{mr:bY->bk->Prop}{d:DefRec}{K:Params->bc}{ed:bY->kn}{sp:bY->mq}{x:Str}{ts:List ai}
  (a_:l.most=some n) (Ru:n<=cV) (ug:d.params.defaults=[]) (aw:ef k callerA)
  (B1:∀(w:bY) (h:bk),mr w h->(K w.params).In h) (dQ:∀(w:bY) (h:bk),mr w h->∀b∈ts,h.get? b=some (PySem.W.tabObj #[]))
  (ua:∀(w:bY),∀b∈ts,(K w.params).lookup b=none) (eB:∀(w:bY),∀b∈ts,∃c,q2 (K w.params) c b=true)
  (F:∀(w:bY) (mg:Str->Option aj) (bZ:ai) (h:bk),(K w.params).In h->h.Ns h9 mg->mg d.name=some (.ref bZ) ->
   ∃fd:e1,(∀(s:aG) (u:aj),BindsTo s fd ⟨[u],[]⟩ [(x,u)]) /\
    ∀base:bk,(K w.params).In base->base.Ns h9 mg->mc mg base->fP l.prog w (K w.params) mg base (ed w) k bZ fd [x] (sp w))
  (o':∀(w:bY) (H:aD) (a:ai) (ns:List Int),ns.length<=n->zu ts H->e5 (K w.params) H a (ns.map V.int)->sp w [.ref a] H (λv _=>v=.bL true) λ_ _ _=>False)
  (BW:∀(w:bY) (H:aD) (s:aG) (e:aj) (aZ:aG),ed w [] H s (λ_ _ _=>False) e aZ->False):
  PySem.W.WalkO q loose rz mr l.row.toRowW d [] (λf vs=>PySem.call f vs):=by
 refine Gz.OR a_ ug λw c7 cw mg kJ bZ o pm cd doc a vs ns G Y aQ hd aee uo Ck hints hlen aU=>?_
 have iQ:=B1 w _ Y;obtain⟨fd,ae,QM⟩:=F w mg bZ _ iQ G.T.g uo;exact _Z iQ (dQ w _ Y) (ua w) (eB w) G.T.g G.T.b G.T.builtins G.T.nolimit aU Ck hints (j' hlen Ru) aw G.T.bmain QM ae (λH mI cn=>o' w H a ns hlen mI cn) λH e aZ=>BW w H cw e aZ
def _D{t:bX}{K:bc}{H:aD}{a:ai}{ns:List Int}{d:List T->Option T}{ts:List ai}(pb:∀p∈t.cM,p.1∈ts)(mI:zu ts H)(eg:IZ K=true)(hd:d [dw ns]=some (.bool true))(cn:e5 K H a (ns.map V.int)):spT K 1 d [.ref a] H (λv _=>v=.bL true) λ_ _ _=>False:=by
 rcases cn with cn|⟨o,its,n,aV,au,_⟩
 ·refine⟨rfl,λb=>b=a,[dw ns],.bool true,⟨?_,λp aE=>⟨#[],mI.2 p.1 (pb p aE),trivial,λpos iX e=>by cases e⟩⟩,bf.cons ?_ bf.nil,hd,λv aL ah x r=>by simpa [Rep] using r⟩
  ·rintro b rfl;rcases cn with q|⟨u,q⟩
   ·exact⟨_,q⟩
   ·exact⟨_,q⟩
  ·simp only[dw,Rep];exact⟨a,_,rfl,rfl,cn,Fm ns⟩
 ·have:=List.all_eq_true.mp eg _ (J2 aV);simp[au] at this
end
section
variable [bX]
abbrev ad9:=Ev->Option (Bool×Ev)
end
section
variable [bX]
def ab7{P:cH}{w:bY}{K:bc}{mg:Str->Option aj}{base:bk}{x qual:Str}{st:Stmt}{f:ai}{gc:aj}{gx an:Option ai}{jZ:Array (Option aj)}{eJ doc pm cy b_:aj}{N ps:List Str}{k:Nat}{b:ba}
  (l:K.lookup f=some ⟨gc,gx,.func (j_ x qual (l7 st) (hb st) (bJ st) .none eJ doc pm an cy b_),jZ⟩) (eB:qU K cy qual=true) (S:c4 N ps (bJ st))
  (ae:∀(A:cN) (outer:List Env) (s:aG) (H:aD) (E:hT),ef k (A.deeper (envOfC qual (bJ st) s.heap.objs.size f cy)) ->
   kr (gG d9 P w K mg base N qual (bJ st) f cy A outer s H E).hC (hb st) b):
  fP P w K mg base d9 (k+1) f (j_ x qual (l7 st) (hb st) (bJ st) .none eJ doc pm an cy b_) ps (spT K ps.length (bE b N.length)):=by
 refine MB l eB S (λvs H Q E h=>h.1) λA outer s H vs Q E aw h=>⟨_,(ae A outer s H E aw).hC,?_⟩
 obtain⟨aF,F,ts,t,cB,q,e,lM⟩:=h;simp only[bE,c0] at e;obtain⟨o,jv,e⟩:=e;refine⟨F,⟨H,0⟩,λa=>H a=none,F,_,o,?_,jv,?_⟩
 ·have:=Ki (N:=N) cB q (N.length - ts.length);unfold bu.start;rw[q.length] at this ⊢;exact this
 ·cases o with
  |dn t'=>
   cases e
   exact λv aL ah x q=>lM v aL ah x q
  |nx ε'=>
   cases e
   exact λbI aL ah _ r=>lM _ aL ah r.ent (by simp[Rep])
  |gF _=>cases e
  |b_ _=>cases e
  |kS _ _=>cases e
  |pn _=>cases e
end
section
abbrev lX(cM:List (ai×Str)):bX:=⟨cM,λ_=>[],λ_=>none⟩
def ab8{t:bX}{cM:List (ai×Str)}(aM:t.cM=cM){P:cH}{w:bY}{K:bc}{mg:Str->Option aj}{base:bk}{k n:Nat}{f:ai}{fd:e1}{ps:List Str}{d:List T->Option T}(F:fP P w K mg base d9 k f fd ps (@spT t K n d)):fP P w K mg base d9 k f fd ps (@spT (lX cM) K n d):=by
 subst aM;have nJ:∀{F:ai->Prop} {H:aD},@fj (lX t.cM) F H->@fj t F H:=λ{F H} h=>@fj.mk t F H (@fj.jV (lX t.cM) F H h) (@fj.mT (lX t.cM) F H h);have wO:∀{F:ai->Prop} {H:aD},@fj t F H->@fj (lX t.cM) F H:=λ{F H} h=>@fj.mk (lX t.cM) F H (@fj.jV t F H h) (@fj.mT t F H h);refine F.imp λvs H Q E h=>?_;obtain⟨aF,F,ts,r,cB,q,e,lM⟩:=h;exact⟨aF,F,ts,r,nJ cB,q,e,λv aL ah x b3=>lM v aL ah (@Ext.mk (lX t.cM) F H aL ah (@Ext.same t F H aL ah x) (@Ext.sub t F H aL ah x) (@Ext.new t F H aL ah x) (wO (@Ext.cB t F H aL ah x))) b3⟩
end
end D
end
section
namespace D
open PySem PySem.Spec PySem.Calls PySem.W PyProof.Rows PySem.Builtin PySem.Builtin.ObjectAttr PySem.Builtin.Getset_descriptor
end D
end
section
namespace D
open PySem PySem.Spec PyProof.Rows bu
section
variable [bX]
abbrev pX:=Ev->Bool
def Wg(b:ba)(r:pX):pX:=λε=>match b ε with
|some (.nx ε')=>r ε'
|_=>false
def I6(f:aY):pX:=λε=>(f ε).isSome
def V8(r:pX)(n:Nat):List bW->Bool:=λss=>r (pH n ss)
def ad3(r:List bW->Bool)(as:List Gy):pX:=λε=>match Al as ε with
|some ss=>r (ss.map V6)
|none=>false
end
section

end
section
variable [bX]
noncomputable def adR(a:Str):T->Option T
|.str x=>if (reprText x).length<=10000/\a.length<=1000 then some (.str (Str.empty++a++reprText x)) else none
|.int i=>if i.natAbs<1000/\a.length<=1000 then some (.str (Str.empty++a++Str.ofString (toString i))) else none
|_=>none
end
section
variable [bX]
def abv{X:a5}{ag:List (ai×Obj)}{σ:bu.St}{H:aD}{s:aG}{scope:Scope}{y:Str}(I:Inv X ag σ H s)(ql:∀x∈scope.names,x.2≠.cell)(xc:∀x∈scope.names,x.2=.local->x.1=y)(bl:y∉X.N)(qj:∀x∈scope.names,x.2=.free->X.env.scope.names.lookup x.1=some .cell):
  rt X.N scope (e7 X.env scope.names []) σ H s.heap:=by
 have aF:∀x∈scope.names,x.2=.free->∃c,X.env.cells.lookup x.1=some c:=λx hx hf=>I.ok.has x.1 (.inl (qj x hx hf));have fr:∀x c,(e7 X.env scope.names []).lookup x=some c->X.env.cells.lookup x=some c:=vt aF λx c e=>by cases e
 refine⟨λx y c af ao=>I.ok.inj x y c (fr x c af) (fr y c ao),λx h=>?_,λx c h=>⟨I.cell x c (fr x c h),I.lA x c (fr x c h)⟩,I.len,λi x v af ao bA=>?_⟩
 ·rcases h with h|h
  ·obtain⟨y,bl,aC,aR⟩:=mem_lookup h;exact absurd aC (ql y bl)
  ·obtain⟨y,bl,aC,aR⟩:=mem_lookup h;exact sS (.inl ⟨y,bl,aC,aR⟩)
 ·have hf:scope.names.lookup x=some .free:=by
   rcases bA with h|h|h
   ·obtain⟨z,hz,aC,aR⟩:=mem_lookup h;have:=xc z hz aC;rw[aR] at this;exact absurd (this▸qW af) bl
   ·obtain⟨y,bl,aC,_⟩:=mem_lookup h;exact absurd aC (ql y bl)
   ·exact h
  obtain⟨y,bl,aC,aR⟩:=mem_lookup hf;have aV:X.env.scope.names.lookup x=some .cell:=by rw[<- aR];exact qj y bl aC
  obtain⟨m,_,bj⟩:=I.loc;obtain⟨u,eD,lk⟩:=bj i x v af ao (.inr (.inl aV));obtain⟨c,au⟩:=sS (env:=X.env) (l:=scope.names) (cs:=[]) (x:=x) (.inl ⟨y,bl,aC,aR⟩);refine⟨u,c,eD,hf,au,?_⟩;rcases lk with ⟨Rh,_⟩|⟨_,eO,lI,hx⟩
  ·have:X.env.scope.names.lookup x=some .local:=Rh;rw[aV] at this;cases this
  ·rw[fr x c au] at lI;cases lI;exact hx
def c8.OU{K:bc}{aO O F:ai->Prop}{E:jT}{H:aD}{ε:Ev}{σ:bu.St}{d:T}{v:V}(r:c8 K aO E O F H ε σ)(uO:Rep K F H d v):c8 K aO E O F H (some (.aa d)::ε) (some v::σ):=by
 refine⟨by simp[r.len],λi s e=>?_,λi j s u v1 oh o6 aC aR du fa af ao=>?_,r.ent,r.o0,r.fr⟩
 ·cases i with
  |zero=>
   simp at e;subst e;exact⟨v,rfl,uO⟩
  |succ i=>exact r.val i s (by simpa using e)
 ·cases i with
  |zero=>
   simp at aC;subst aC;cases du
  |succ i=>
   cases j with
   |zero=>
    simp at aR;subst aR;cases fa
   |succ j=>exact r.ne i j s u v1 oh (by omega) (by simpa using aC) (by simpa using aR) du fa (by simpa using af) (by simpa using ao)
section
variable {P:cH}{w:bY}{K:bc}{mg:Str->Option aj}{base:bk}{k:Nat}{q bT:ai}{N:List Str}{qual:Str}{scope:Scope}{cd:aj}{cl:List (Str×ai)}{A:cN}{outer:List Env}{s:aG}{H:aD}{σ:bu.St}{y:Str}
def _g{af:bk}{tk:Nat}{m:Str->Option aj}{v:V}{u:aj}(aV:scope.kind=.function)(hd:A.handled=none)(bG:ni P w K mg base A outer s H)(C:rt N scope cl σ H s.heap)(o8:af.Ns s.heap.objs.size m)(bl:scope.names.lookup y=some .local)(hm:m y=some u)(b3:RelV v u)(aK:∀b o,s.heap.get? b=some o->af.get? b=some o):
  Inv (tQ P w K mg base (y::N) qual scope q cd cl A outer s H) [] (some v::σ) H {s with heap:=af,toks:=tk}:=by
 have n7:∀b:ai,b∉(tQ P w K mg base (y::N) qual scope q cd cl A outer s H).ex:=λb z=>absurd (show b∈([]:List ai) from z) (by simp);refine⟨⟨bG.mod,aV,rfl,rfl,c_ _,C.inj,C.has,λy c hf _=>(by cases hf),λ_=>hd,Around.frames_deeper bG.frames,.inr ⟨rfl,rfl⟩,λb z=>absurd z (n7 b),bG.bs,bG.oS,λb _ _=>n7 b,λb z=>absurd z (n7 b),bG.kC,bG.qe⟩,
  rfl,bG.bare,eY.kept aK,⟨m,o8,λi x v1 g4 ao bA=>?_⟩,λy c h=>?_,bG.bP.fresh (c_ _),λy c h=>(C.wM y c h).2,λp aE=>absurd (show p∈([]:List (ai×Obj)) from aE) (by simp),bG.bP.kept aK,by
  show (some v::σ).length=(y::N).length
  simp[C.len]⟩
 ·replace g4:(y::N)[i]?=some x:=g4;cases i with
  |zero=>
   have aC:y=x:=by simpa using g4
   have aR:v=v1:=by simpa using ao
   subst aC aR;exact⟨u,b3,.inl ⟨bl,hm⟩⟩
  |succ i=>
   obtain⟨u,c,eD,hf,au,hx⟩:=C.val i x v1 (by simpa using g4) (by simpa using ao) bA;exact⟨u,eD,.inr ⟨.inr hf,c,au,J3 hx aK⟩⟩
 ·obtain⟨⟨v,bj⟩,_⟩:=C.wM y c h;exact⟨v,J3 bj aK⟩
def aaa{params:Arguments}{body:a8}{pm gZ:aj}{g:aY}{Q:c5}{Nc:hT}(aV:scope.kind=.function)(B6:scope.isCoroutine=false)(B8:scope.isGenerator=false)(ql:∀x∈scope.names,x.2≠.cell)(bl:scope.names.lookup y=some .local)
  (ae:∀(A:cN) (outer:List Env) (s:aG) (H:aD),ef k (A.deeper (rS qual scope s.heap.objs.size q (.ref bT) cl))->cf (tQ P w K mg base (y::N) qual scope q (.ref bT) cl A outer s H) body g)
  {u:aj} {v:V} (bd:bindArgs (PySem.W.kla_fn "<lambda>" qual params body scope cl pm (.ref bT) gZ) ⟨[u],[]⟩=pure [(y,u)])
  (aw:ef (k+1) A) (bG:ni P w K mg base A outer s H) (a0:H q=some (n5 (PySem.W.kla_obj "<lambda>" qual params body scope cl pm bT gZ) q)) (au:H bT=some (rI bT qual)) (C:rt N scope cl σ H s.heap) (b3:RelV v u)
  {aO O F:ai->Prop} {E:jT} {ε:Ev} {d t:T} (r:c8 K aO E O F H ε σ) (uO:Rep K F H d v) (e:g (some (.aa d)::ε)=some t) (lM:∀v aL ah,Ext F H aL ah->Rep K aL ah t v->Q v ah):
  ic (bh P w) A (.call (.ref q) ⟨[u],[]⟩) (pU d9 outer P w H s Q Nc) s:=by
 have Tq:s.heap.NoLimit:=bG.mod.nolimit.keeps λb o e=>(bG.bs b o e).1;refine PySem.W.kla_callFunE aw.depth (bG.bP q _ a0).1 rfl B6 B8 rfl (bG.bP bT _ au).1 ?_;rw[bd];refine bq (wpAny_newFunctionEnv ql (λx hx=>by rw[gj.mp hx];exact bl) (λh4 o8 ur=>⟨Tq.fresh _ ur,?_⟩) aV);have aK:∀b o,s.heap.get? b=some o->h4.get? b=some o:=λb o e=>ur.extBut b o (cX (cv e)) (cp _ e);show ic _ _ (.expr body (rS qual scope s.heap.objs.size q (.ref bT) cl)) _ _;refine PySem.W.kla_codeExpr ?_;have I:Inv (tQ P w K mg base (y::N) qual scope q (.ref bT) cl A outer s H) [] (some v::σ) H {s with heap:=h4,toks:=s.toks+([(y,u)]:List (Str×aj)).length}:=_g aV aw.hd bG C o8 bl (by simp) b3 aK;refine g_ (ae A outer s H (aw.deeper _) [] _ _ H (λv ah=>Q v ah) I ⟨aO,E,O,F,_,t,r.OU uO,e,λv aL ah x q=>lM v aL ah x q⟩) (λu aZ aA=>?_) λe aZ aA=>(show False from aA).elim;obtain⟨v,ah,J,b3,VV⟩:=aA;exact⟨v,ah,J.os,J.bare,J.base,J.bP,b3,VV⟩
end
end
section
variable [bX]
mutual
noncomputable def gs:T->T->Option Bool
|.int a,.int b=>some (decide (b<a))
|.tuple xs,.tuple ys=>qy xs ys
|_,_=>none
noncomputable def qy:List T->List T->Option Bool
| [],[]=>some false
| [],_::_=>some false
|_::_,[]=>some true
|x::xs,y::ys=>if fu x y then qy xs ys else gs x y
end
noncomputable def GL(A:cN)(s:aG)(y x:aj)(b:Bool):Prop:=
 ∀(prog:cH) (w:bY) (E:aj->aG->Prop) (Q:aj->aG->Prop),Q (.bool b) s->a4 (bh prog w) A (richCompare .Gt y x) Q E s
inductive GoodG(A:cN)(s:aG)(fin:Bool):List (aj×aj)->Bool->Prop
|nil:GoodG A s fin [] fin
|eq {y x:aj} {r:List (aj×aj)} {b:Bool}:SeqAt.EqAt A s y x true->GoodG A s fin r b->GoodG A s fin ((y,x)::r) b
|lt {y x:aj} {r:List (aj×aj)} {b:Bool}:SeqAt.EqAt A s y x false->GL A s y x b->GoodG A s fin ((y,x)::r) b
section
open PySem.SeqAt
open PySem.AutoSeq1 (wpAny_loadPart')
open PySem.MeetsSeq PySem.MeetsSeq2 PySem.MeetsSeq3
def YC(l b:ai)(items n3:Array aj)(n fp:Nat)(kz kA:Option ai)(bx jH:Array (Option aj))(z:Bool):
  Meets (Builtin.«tuple.__gt__» ⟨[.ref l,.ref b],[]⟩)
   (λA R s=>s.heap.get? l=some {cls:=.type "tuple",dict:=kz,data:=.seq items n,slots:=bx}/\s.heap.get? b=some {cls:=.type "tuple",dict:=kA,data:=.seq n3 fp,slots:=jH} /\
    GoodG A.in1 s (decide (n3.size<items.size)) (items.toList.zip n3.toList) z/\R (.ok (.ret (.bool z))) s):=
 .of_wp λprog w A R s h=>by
  obtain⟨aE,g,d,tk,os⟩:=s;obtain⟨aF,ae,aU,h⟩:=h;have f2:=AutoSeq1.sub_tuple_tuple
  wp_walk using wpAny_loadPart' aF,wpAny_loadPart' ae,wpAny_forIn_list _ (λrest b aZ=>b.1=none/\aZ=⟨aE,g,d,tk,os⟩/\GoodG A.in1 ⟨aE,g,d,tk,os⟩ (decide (n3.size<items.size)) rest z) _
  case turn=>
   rintro⟨y,x⟩ rest b aZ ⟨eS,rfl,h1⟩;cases h1 with
   |eq he h1=>
    refine aI (he prog w _ _ ?_)
    wp_walk
    exact⟨rfl,rfl,h1⟩
   |lt he dz=>
    refine aI (he prog w _ _ ?_)
    have Cp:=dz prog w
    wp_walk using Cp
    exact⟨_,rfl,h⟩
  case fin=>
   rintro⟨bK,cq⟩ aZ ⟨eS,rfl,h1⟩;simp only at eS;subst eS;cases h1
   wp_walk
   exact⟨_,rfl,by simpa [Builtin.Tuple.tupleCompareSizes] using h⟩
  case h=>
   exact⟨rfl,rfl,aU⟩
mutual
theorem abl:∀(nK db:T) (A:cN) (s:aG) (a b:aj) (as bs:List ai) (r:Bool),Reads s.heap a nK as->Reads s.heap b db bs->nK.canLay0=true->db.canLay0=true->A.units+min nK.depth db.depth<cLine->gs nK db=some r->GL A s a b r
|.int i,.int j,A,s,_,_,_,_,r,.int _ t,.int _ u,_,_,_,e=>by
  unfold gs at e;cases e;exact λprog w E Q q=>(PyProof.Rows.gt_int q:a4 (bh prog w) A (fZ .Gt (.int i t) (.int j u)) Q E s)
|.tuple xs,.tuple ys,A,s,_,_,_,_,r,.tuple (a:=l) (o:=o) (vs:=vs) (n:=n) af ao bA c9,.tuple (a:=f') (o:=d6) (vs:=uZ) (n:=uF) eh cU gM h5,az,ae,bw,e=>by
  unfold gs at e;simp only[PyData.canLay0] at az ae;simp only[jg] at bw;have h1:=goodG_reads xs ys A.in1 s vs.toList uZ.toList _ _ r c9 h5 az ae (room_in bw) e;obtain⟨cls,kz,data,bx⟩:=o;obtain⟨A4,kA,data2,jH⟩:=d6;simp only at ao bA cU gM;subst ao bA cU gM;rw[hG,hG] at h1;exact λprog w E Q q=>richCompare_meets_room (op:=.Gt) ⟨_,af,rfl⟩ ⟨_,eh,rfl⟩ PySem.F.slot_tuple_gt PySem.F.entry_tuple_gt (PySem.F.args_tuple_gt_2 _ _) (YC l f' vs uZ n uF kz kA bx jH r)
   ⟨af,eh,h1,show Value.bool r≠Value.notImplemented/\Q (.bool r) s from ⟨(λx=>nomatch x),q⟩⟩ (by omega)
|.none,_,_,_,_,_,_,_,_,_,_,_,_,_,e=>by simp[gs] at e
|.bool _,_,_,_,_,_,_,_,_,_,_,_,_,_,e=>by simp[gs] at e
|.str _,_,_,_,_,_,_,_,_,_,_,_,_,_,e=>by simp[gs] at e
|.list _,_,_,_,_,_,_,_,_,_,_,_,_,_,e=>by simp[gs] at e
|.dict _,_,_,_,_,_,_,_,_,_,_,_,_,_,e=>by simp[gs] at e
|.int _,.none,_,_,_,_,_,_,_,_,_,_,_,_,e=>by simp[gs] at e
|.int _,.bool _,_,_,_,_,_,_,_,_,_,_,_,_,e=>by simp[gs] at e
|.int _,.str _,_,_,_,_,_,_,_,_,_,_,_,_,e=>by simp[gs] at e
|.int _,.list _,_,_,_,_,_,_,_,_,_,_,_,_,e=>by simp[gs] at e
|.int _,.dict _,_,_,_,_,_,_,_,_,_,_,_,_,e=>by simp[gs] at e
|.int _,.tuple _,_,_,_,_,_,_,_,_,_,_,_,_,e=>by simp[gs] at e
|.tuple _,.none,_,_,_,_,_,_,_,_,_,_,_,_,e=>by simp[gs] at e
|.tuple _,.bool _,_,_,_,_,_,_,_,_,_,_,_,_,e=>by simp[gs] at e
|.tuple _,.str _,_,_,_,_,_,_,_,_,_,_,_,_,e=>by simp[gs] at e
|.tuple _,.list _,_,_,_,_,_,_,_,_,_,_,_,_,e=>by simp[gs] at e
|.tuple _,.dict _,_,_,_,_,_,_,_,_,_,_,_,_,e=>by simp[gs] at e
|.tuple _,.int _,_,_,_,_,_,_,_,_,_,_,_,_,e=>by simp[gs] at e
theorem goodG_reads:∀(xs ys:List T) (A:cN) (s:aG) (vs ws:List aj) (as bs:List ai) (r:Bool),ReadsAll s.heap vs xs as->ReadsAll s.heap ws ys bs->iA xs=true->iA ys=true->A.units+min (h_ xs) (h_ ys)<cLine->qy xs ys=some r->GoodG A s (decide (ws.length<vs.length)) (vs.zip ws) r
| [],[],A,s,_,_,_,_,r,.nil,.nil,_,_,_,e=>by
  unfold qy at e;cases e;exact .nil
| [],_::_,A,s,_,_,_,_,r,.nil,.cons _ _,_,_,_,e=>by
  unfold qy at e;cases e;exact GoodG.nil
|_::_,[],A,s,_,_,_,_,r,.cons _ _,.nil,_,_,_,e=>by
  unfold qy at e;cases e;exact GoodG.nil
|x::xs,y::ys,A,s,_,_,_,_,r,.cons a' cL,.cons aT bg,az,ae,bw,e=>by
  simp only[iA,cJ] at az ae;simp only[h_] at bw;unfold qy at e;have he:=eqAt_reads x y A s _ _ _ _ a' aT az.1 ae.1 (room_head bw);split at e
  next h=>
   rw[h] at he;have cK:=goodG_reads xs ys A s _ _ _ _ r cL bg az.2 ae.2 (room_tail bw) e;rw[yc];simp only[gi,Nat.add_lt_add_iff_right];exact .eq he cK
  next h=>
   rw[Bool.not_eq_true] at h;rw[h] at he;rw[yc];exact .lt he (abl x y A s _ _ _ _ r a' aT az.1 ae.1 (room_head bw) e)
end
end
end
section
variable [bX]
structure k9(X:a5)(e:a8)(f:aY):Prop where
 h:cf X e f
structure rv(X:a5)(av:List a8)(fs:List aY):Prop where
 h:nv X av fs
structure rx(X:a5)(st:Stmt)(g:ba):Prop where
 h:mi X st g
section
variable {X:a5}{e b:a8}{av:List a8}{f g:aY}{fs:List aY}{pos:Pos}
def hj:rv X [] []:=⟨a9⟩
def v7{a3}(h:rv X av fs):k9 X (.Tuple av a3 pos) (aJ fs):=⟨dy h.h⟩
end
end
end D
end
section
namespace D
open PySem
def fm(b_:String):T->Bool
|.int _=>b_=="int"
|.bool _=>b_=="int" || b_=="bool"
|.str _=>b_=="str"
|.tuple _=>b_=="tuple"
|.list _=>b_=="list"
|_=>false
def dH(b_:String):T->Option T
|.dict _=>none
|t=>some (.bool (fm b_ t))
def te(x:Str):Bool:=x.cps.toList.all λc=>decide (c<128)
def dV(c:Nat):T:=.str ⟨#[c]⟩
def cz(f:aY):gU:=λε=>(f ε).bind λt=>match t with
|.tuple ts=>some ts
|.list ts=>some ts
|.str x=>if te x then some (x.cps.toList.map dV) else none
|_=>none
def r'(t:T)(lo hi:Option Int):Option T:=match t with
|.str x=>if x.length<=big then some (.str ⟨(eA x.cps.toList lo hi).toArray⟩) else none
|t=>r_ t lo hi
def et(f:aY)(lo hi:Ev->Option (Option Int)):aY:=λε=>(f ε).bind λt=>(lo ε).bind λl=>(hi ε).bind λh=>r' t l h
def adS(i:Int):Bool:=decide (i.natAbs.log2<1920)
def W'(i:Int):Str:=Str.ofString (toString i)
def I4:List T->Option T
| [.str x]=>some (.str x)
| [.int i]=>if adS i then some (.str (W' i)) else none
|_=>none
def qF:List T->Option T
| [.str x]=>if x.length=1 then some (.int (x.cps.getD 0 0:Nat)) else none
|_=>none
def wc:T->T->Option T
|.int i,.int j=>if i=10/\0<=j/\j<=1000 then some (.int (10 ^ j.toNat)) else none
|_,_=>none
def bools:List T->Option (List Bool)
| []=>some []
|.bool b::ts=>(bools ts).map λr=>b::r
|_::_=>none
def jm:List T->Option T
| [.list xs]=>(bools xs).map λbs=>.bool (bs.all id)
|_=>none
def rg:T->T->Option T
|.bool b,.bool c=>some (.bool !(b==c))
|_,_=>none
end D
end
section
namespace D
open PySem PySem.Spec PyProof.Rows bu
section
variable [bX]
structure ru(b_:String):Prop where
 n:∀K:bc,sv K (.type "NoneType") (.type b_)=some false
 b:∀(K:bc) (b:Bool),sv K (.type "bool") (.type b_)=some (fm b_ (.bool b))
 i:∀(K:bc) (i:Int),sv K (.type "int") (.type b_)=some (fm b_ (.int i))
 s:∀(K:bc) (i:Str),sv K (.type "str") (.type b_)=some (fm b_ (.str i))
 t:∀(K:bc) (i:List T),sv K (.type "tuple") (.type b_)=some (fm b_ (.tuple i))
 l:∀(K:bc) (i:List T),sv K (.type "list") (.type b_)=some (fm b_ (.list i))
def Gm:ru "int":=⟨λ_=>rfl,λ_ _=>rfl,λ_ _=>rfl,λ_ _=>rfl,λ_ _=>rfl,λ_ _=>rfl⟩
def F6:ru "bool":=⟨λ_=>rfl,λ_ _=>rfl,λ_ _=>rfl,λ_ _=>rfl,λ_ _=>rfl,λ_ _=>rfl⟩
def vS:ru "str":=⟨λ_=>rfl,λ_ _=>rfl,λ_ _=>rfl,λ_ _=>rfl,λ_ _=>rfl,λ_ _=>rfl⟩
def oC:ru "tuple":=⟨λ_=>rfl,λ_ _=>rfl,λ_ _=>rfl,λ_ _=>rfl,λ_ _=>rfl,λ_ _=>rfl⟩
section
variable {X:a5}{e:a8}{f:aY}{fb:TE}{pos p dh p3:Pos}{f9:Str}{b_:String}
def Xk(K:bc)(b_:String)(fb:TE):TE:=λσ H Q=>fb σ H λx H1=>∃(O F:ai->Prop) (t:T),e4 K O F H1 t x/\Q (.bL (fm b_ t)) H1
def acT(pf:ru b_)(ae:bootBuiltins f9=some (.type b_))(hm:X.mg "isinstance"=none)(qk:X.mg f9=none)(he:b6 X e fb)(aU:ee X "isinstance":=by rfl)(mJ:ee X f9:=by rfl)(a_:f9≠"__name__":=by decide)(g5:(f9==("__debug__":Str))=false:=by decide)
  (aA:bQ [e,.Name f9 dh] X.env=(false,eval e X.env)::bQ [.Name f9 dh] X.env:=by rfl):
  b6 X (.Call (.Name "isinstance" p) [e,.Name f9 dh] [] pos) (Xk X.K b_ fb):=by
 intro ag s σ H Q I h;refine sr (pL I aU hm (u:=.builtin "isinstance") (by decide +kernel) ?_);refine PyProof.Rows.callWith_builtin1 ?_ aA rfl;rw[aA];show a4 _ _ (spliced ((false,eval e X.env)::gk pos (bQ [.Name f9 dh] X.env))) _ _ s;refine Calls.spliced_cons (ct (he ag s σ H _ I h) λu s1 ⟨x,H1,a7,a',aT⟩=>?_);show a4 _ _ (spliced ((false,eval (.Name f9 dh) X.env)::[])) _ _ s1;refine Calls.spliced_cons (pL a7 mJ qk ae (Calls.spliced_nil ?_) a_ g5);obtain⟨O,F,t,aS,q⟩:=aT;cases t with
|none=>
  rw[aS.gb] at a';cases a';exact PySem.W.kia_one PySem.W.kitx_none a7.aeD trivial (pf.n _) (λz=>nomatch z) λtk=>⟨.bL _,H1,a7.kept (t':=tk) λ_ _ z=>z,rfl,q⟩
|bool b=>
  rw[aS.bL] at a';cases a';exact PySem.W.kia_one PySem.W.kitx_bool a7.aeD trivial (pf.b _ b) (λz=>nomatch z) λtk=>⟨.bL _,H1,a7.kept (t':=tk) λ_ _ z=>z,rfl,q⟩
|int i=>
  rw[aS.int] at a';obtain⟨XN,rfl⟩:=a';exact PySem.W.kia_one PySem.W.kitx_int a7.aeD trivial (pf.i _ i) (λz=>nomatch z) λtk=>⟨.bL _,H1,a7.kept (t':=tk) λ_ _ z=>z,rfl,q⟩
|str i=>
  rw[aS.str] at a';obtain⟨XN,rfl⟩:=a';exact PySem.W.kia_one PySem.W.kitx_str a7.aeD trivial (pf.s _ i) (λz=>nomatch z) λtk=>⟨.bL _,H1,a7.kept (t':=tk) λ_ _ z=>z,rfl,q⟩
|tuple ts=>
  obtain⟨a,vs,rfl,aA,aw⟩:=aS.tup;cases a';obtain⟨its,r,aM,hz⟩:=a7.tuple aA;obtain⟨o,af,ao,_⟩:=aM;exact PySem.W.kia_one PySem.W.kitx_tuple a7.aeD ⟨o,af,ao⟩ (pf.t _ ts) (λz=>nomatch z) λtk=>⟨.bL _,H1,a7.kept (t':=tk) λ_ _ z=>z,rfl,q⟩
|list ts=>
  obtain⟨a,vs,rfl,aA,aw⟩:=aS.lst;cases a';obtain⟨_,its,n,r,aF,aC⟩:=Inv.uD a7 aA;exact PySem.W.kia_one PySem.W.kitx_list a7.aeD ⟨_,aC,rfl⟩ (pf.l _ ts) (λz=>nomatch z) λtk=>⟨.bL _,H1,a7.kept (t':=tk) λ_ _ z=>z,rfl,q⟩
|dict d=>rcases aS with aS|⟨_,_,_,z,_⟩;simp[Rep] at aS;cases z
def gQ(pf:ru b_)(ae:bootBuiltins f9=some (.type b_))(hm:X.mg "isinstance"=none)(qk:X.mg f9=none)(az:dU X e f)(aU:ee X "isinstance":=by rfl)(mJ:ee X f9:=by rfl)(a_:f9≠"__name__":=by decide)(g5:(f9==("__debug__":Str))=false:=by decide)
  (aA:bQ [e,.Name f9 dh] X.env=(false,eval e X.env)::bQ [.Name f9 dh] X.env:=by rfl):
  cf X (.Call (.Name "isinstance" p) [e,.Name f9 dh] [] pos) (bN (dH b_) f):=eu (acT pf ae hm qk az aU mJ a_ g5 aA) λσ H Q ⟨aO,aN,O,F,ε,t,r,e,k⟩=>by
 simp only[bN,c0] at e;obtain⟨x,ex,e⟩:=e;have b7:t=.bool (fm b_ x):=by
  cases x <;> first|exact (ia e).symm|cases e
 subst b7;exact⟨aO,aN,O,F,ε,_,r,ex,λv a6 H1 a3 aS=>⟨O,a6,x,aS,k _ a6 H1 a3 (by simp[Rep])⟩⟩
def Gn:bootBuiltins "int"=some (.type "int"):=by decide +kernel
def F':bootBuiltins "bool"=some (.type "bool"):=by decide +kernel
def vY:bootBuiltins "str"=some (.type "str"):=by decide +kernel
def oD:bootBuiltins "tuple"=some (.type "tuple"):=by decide +kernel
end
def tD(x:Str):iP:=⟨λi _=>i<x.cps.size,λi H v ah=>ah=H/\∃c,x.cps[i]?=some c/\v=.str ⟨#[c]⟩,λi _=>x.cps.size<=i⟩
def aaL{P:cH}{w:bY}{K:bc}{b4:a8}(x:Str)(t:Tok)(it:ai):Turn P w K b4 (tD x) [it] it (λi h=>h.IsStrIter it "str_ascii_iterator" x t i) where
 mem:=by simp
 obj:=λi h st b ae=>by
  have e:b=it:=by simpa using ae
  subst e;obtain⟨o,e,c,d⟩:=st;exact⟨o,e,λv z=>by rw[d] at z;cases z⟩
 keep:=λi h h' st k=>by
  obtain⟨o,e,c,d⟩:=st;exact⟨o,k it (by simp) o e,c,d⟩
 item:=by
  intro X d2 hw eR au i ag s σ H E I hf st aU;subst d2 hw eR;obtain⟨f0,f1,f2,e9,f4,e_⟩:=hf it (by simp);have hx:x.cps[i]?=some (x.cps[i]'aU):=ot aU;refine wpAny_pyNext_ascii_item st hx λh' ix j2=>?_;have a7:Inv X ag σ H {s with heap:=h',toks:=s.toks+1}:=I.turned (t':=s.toks+1) (λb o ae e=>(j2.2 b ae).trans e) f0 f1 e9 f4 e_;obtain⟨o,e,c,d⟩:=id ix;exact⟨_,rfl,zq (s:={s with heap:=h',toks:=s.toks+1}) e c d (by decide) ⟨.str _,H,a7,⟨_,rfl⟩,⟨rfl,_,hx,rfl⟩,ix,λb ae=>(hf b ae).1⟩⟩
 done:=by
  intro X d2 hw eR au i ag s σ H E I hf st aU;subst d2 hw eR;obtain⟨f0,f1,f2,e9,f4,e_⟩:=hf it (by simp);exact wpAny_pyNext_ascii_end (I.ok.hd au) st (Array.getElem?_eq_none aU) λh' i0=>⟨rfl,I.turned (t':=s.toks) (λb o ae e=>i0 b o ae e) f0 f1 e9 f4 e_⟩
 self:=λ_ _ _ _ _ st h=>wpAny_pyIter_striter_ascii st h
def aby{x:Str}(h:te x=true):strIterType x="str_ascii_iterator":=by
 unfold strIterType;rw[if_pos];rw[<- Array.all_toList];exact h
noncomputable def R3(K:bc)(j6:TE):TI:=λσ H R=>j6 σ H λx H1=>(∃a,x=.ref a/\(((∃xs,e5 K H1 a xs)/\R (zI K a) H1)\/((∃xs,cW K H1 a xs)/\R (zJ K a) H1)))\/∃z,x=.str z/\te z=true/\R (tD z) H1
section
variable {X:a5}{b4 l:a8}{j6:TE}{f:aY}
def Va(aF:b6 X l j6):k' X b4 l (R3 X.K j6):=by
 intro ag s σ H R I h;refine ct (aF ag s σ H _ I h) λv s1 ⟨x,H1,a7,a',q⟩=>?_;have bB:∀b∈[s1.heap.objs.size],k5 X ag H1 b:=λb ae=>by
  have e:b=s1.heap.objs.size:=by simpa using ae
  subst e;exact a7.rW (c_ _) (a7.bP.fresh (c_ _))
 rcases q with ⟨a,aC,q⟩|⟨z,aC,az,q⟩
 ·subst aC;cases a';rcases q with ⟨⟨xs,a0⟩,q⟩|⟨⟨xs,a0⟩,q⟩
  ·obtain⟨its,b3,p,hz⟩:=a7.list a0;refine wpAny_pyIter_list p.isList ?_;exact⟨s1.heap.objs.size,[s1.heap.objs.size],_,_,H1,rfl,a7.kept (t':=s1.toks) λb o e=>cp _ e,_z a _,⟨_,eQ _ rfl,rfl,rfl⟩,bB,q⟩
  ·obtain⟨its,b3,p,hz⟩:=a7.tuple a0;refine su (show s1.heap.IsTuple a its.toArray from p) ?_;exact⟨s1.heap.objs.size,[s1.heap.objs.size],_,_,H1,rfl,a7.kept (t':=s1.toks) λb o e=>cp _ e,ZI a _,⟨_,eQ _ rfl,rfl,rfl⟩,bB,q⟩
 ·subst aC;obtain⟨t,rfl⟩:=a';refine wpAny_pyIter_strU ?_;rw[aby az];exact⟨s1.heap.objs.size,[s1.heap.objs.size],_,_,H1,rfl,a7.kept (t':=s1.toks) λb o e=>cp _ e,aaL z t _,⟨_,eQ _ rfl,rfl,rfl⟩,bB,q⟩
def abh{K:bc}{a6:ai->Prop}{H1:aD}(x:Str):mf K (tD x) a6 H1 (x.cps.toList.map dV) where
 go:=λi F H t aK d e=>by
  have h:=(e2.mp e).1;simpa [tD] using h
 kb:=λi F H t v ah aK d e y=>by
  obtain⟨rfl,c,au,rfl⟩:=y;refine⟨F,Ext.refl d,?_⟩;rw[kW,Array.getElem?_toList,au] at e;cases e;simp[Rep,dV]
 stop:=λi F H aK aF=>by
  simpa [tD] using aF
def hy(aF:cf X l f):la X b4 l (cz f):=v3 (Va aF) λσ H R ⟨aO,aN,O,F,ε,ts,r,e,k⟩=>by
 simp only[cz,c0] at e;obtain⟨t,cm,e⟩:=e;split at e
 ·cases e
  refine⟨aO,aN,O,F,ε,_,r,cm,λv aL ah x q=>?_⟩
  simp only[Rep] at q;obtain⟨a,vs,rfl,aA,aw⟩:=q;exact .inl ⟨a,rfl,.inr ⟨⟨vs,aA⟩,k _ aL ah x (abg aA aw)⟩⟩
 ·cases e
  refine⟨aO,aN,O,F,ε,_,r,cm,λv aL ah x q=>?_⟩
  simp only[Rep] at q;obtain⟨a,vs,rfl,bZ,aA,aw⟩:=q;exact .inl ⟨a,rfl,.inl ⟨⟨vs,.inl aA⟩,k _ aL ah x (aae bZ aA aw)⟩⟩
 ·split at e
  next az=>
   cases e
   refine⟨aO,aN,O,F,ε,_,r,cm,λv aL ah x q=>?_⟩
   simp only[Rep] at q;subst q;exact .inr ⟨_,rfl,az,k _ aL ah x (abh _)⟩
  next=>cases e
 ·cases e
end
end
section
variable [bX]
def vI(n d:Nat)(hd:d<=n)(o:Option Int):D.b0 n d o<=n:=by
 cases o with
|none=>exact hd
|some v=>
  simp only[D.b0];split <;> omega
def acr(lo hi:Option Int)(n:Nat):Builtin.Str.strSliceIndices lo hi 1 n=sliceRange ((D.b0 n 0 lo:Nat):Int) ((D.b0 n n hi:Nat):Int) 1:=by
 unfold Builtin.Str.strSliceIndices;have af:∀(o:Option Int) (d:Nat),(match o with|none=>(d:Int)|some i=>(if (1:Int) > 0 then max 0 (min (if i<0 then i+(n:Int) else i) n) else max (-1) (min (if i<0 then i+(n:Int) else i) ((n:Int) - 1))))=((D.b0 n d o:Nat):Int):=by
  intro o d;cases o with
  |none=>rfl
  |some v=>
   simp only[D.b0];rw[if_pos (by decide)];split <;> omega
 have aC:=af lo 0;have aR:=af hi n;dsimp only;rw[if_pos (show (1:Int) > 0 by decide)] at *;rw[if_pos (show (1:Int) > 0 by decide)];exact congrFun (congr (congrArg sliceRange aC) aR) 1
def aaQ{α:Type}(l:List α)(lo hi:Option Int):(Builtin.Str.strSliceIndices lo hi 1 l.length).filterMap (λk=>l[k]?)=eA l lo hi/\(Builtin.Str.strSliceIndices lo hi 1 l.length).length=(eA l lo hi).length:=by
 rw[acr];have az:=vI l.length 0 (jK _) lo;have ae:=vI l.length l.length (c_ _) hi;unfold eA;generalize D.b0 l.length 0 lo=a at *;generalize D.b0 l.length l.length hi=b at *;have e:sliceRange (a:Int) (b:Int) 1=(List.range (b - a)).map λk=>a+k:=by
  unfold sliceRange;have ly:((if (1:Int) > 0 then (if (a:Int)<(b:Int) then ((b:Int) - (a:Int)+1 - 1) / 1 else 0) else (if (a:Int) > (b:Int) then ((a:Int) - (b:Int) - 1 - 1) / (-1) else 0)):Int).toNat=b - a:=by
   rw[if_pos (by decide)];split <;> omega
  dsimp only;rw[ly];congr 1;funext k;omega
 rw[e];by_cases lF:a<=b
 ·exact⟨StrLaws.picks l (b - a) a (by omega),by simp;omega⟩
 ·have z:b - a=0:=by omega
  rw[z];simp
def V0:V->Option Int->Option Int->aD->c5->Prop:=λx lo hi H Q=>∃z,x=.str z/\z.length<=cV/\Q (.str ⟨(eA z.cps.toList lo hi).toArray⟩) H
section
variable {X:a5}{a b e:a8}{av:List a8}{f g h:aY}{fs:List aY}{pos p dh apos A5:Pos}
def aap{α:Type}(l:List α)(lo hi:Option Int)(h:(eA l lo hi).length=l.length):eA l lo hi=l:=by
 unfold eA at h ⊢;have az:=vI l.length 0 (jK _) lo;generalize D.b0 l.length 0 lo=a at *;generalize D.b0 l.length l.length hi=b at *;rw[List.length_take,List.length_drop] at h;cases l with
|nil=>simp
|cons c r=>
  have:a=0:=by simp only[gi] at *;omega
  subst this;rw[List.drop_zero,List.take_of_length_le (by simp only[gi] at *;omega)]
def acu:nA X V0:=by
 intro ag s σ H x v fK fc lo hi bx Q I aS aA cQ pu h;obtain⟨z,rfl,IA,q⟩:=h;obtain⟨t,rfl⟩:=aS;refine⟨"str",_,slot_str_getitem.lookup,typeIs_str s z t,?_⟩;obtain⟨af,ao⟩:=aaQ z.cps.toList lo hi;have hlen:z.length=z.cps.toList.length:=by simp[Str.length]
 have key:∀l u:Option (Int×Tok),l.map (·.1)=lo->u.map (·.1)=hi->Made.post (sliceMade z t l u none) (gT X ag σ Q) s:=by
  intro l u tS gq;unfold sliceMade slicePicked;rw[tS,gq];dsimp only[Option.map_none,Option.getD_none];rw[hlen];split
  next hw=>
   have RP:(eA z.cps.toList lo hi).length=z.cps.toList.length:=by
    rw[<- ao];simpa using hw
   refine⟨.str z,H,I,⟨t,rfl⟩,?_⟩
   have:=aap _ _ _ RP;rw[this] at q;simpa using q
  next=>
   have e:(List.filterMap (λk=>z.cps[k]?) (Builtin.Str.strSliceIndices lo hi 1 z.cps.toList.length))=eA z.cps.toList lo hi:=by
    rw[<- af];congr 1;funext k;simp
   rw[e];refine⟨?_,⟨.str _,H,I.tok _,⟨_,rfl⟩,q⟩⟩;show (eA z.cps.toList lo hi).toArray.size<=cV;have:(eA z.cps.toList lo hi).length<=z.cps.toList.length:=by
    unfold eA;rw[List.length_take,List.length_drop];omega
   rw[er];omega
 obtain⟨o,aQ,au,hd⟩:=aA;cases cQ with
|none=>
  cases pu with
  |none=>exact wpAny_getItem_str_slice (l:=none) (u:=none) (st:=none) ⟨o,aQ,au,hd⟩ rfl (key _ _ rfl rfl)
  |int cS eE=>exact wpAny_getItem_str_slice (l:=none) (u:=some (cS,eE)) (st:=none) ⟨o,aQ,au,hd⟩ rfl (key _ _ rfl rfl)
|int cP t1=>
  cases pu with
  |none=>exact wpAny_getItem_str_slice (l:=some (cP,t1)) (u:=none) (st:=none) ⟨o,aQ,au,hd⟩ rfl (key _ _ rfl rfl)
  |int cS eE=>exact wpAny_getItem_str_slice (l:=some (cP,t1)) (u:=some (cS,eE)) (st:=none) ⟨o,aQ,au,hd⟩ rfl (key _ _ rfl rfl)
def aeI{lo hi:Option a8}{gr tX:Ev->Option (Option Int)}(az:dU X e f)(aF:ku X lo (si X.K gr))(bw:ku X hi (si X.K tX)):cf X (.Subscript e (.Slice lo hi none dh) pos) (et f gr tX):=eu (aa5 (((acs.or aaT).or abF).or acu) az aF bw) λσ H Q ⟨aO,aN,O,F,ε,t,r,e,k⟩=>by
 simp only[et,c0] at e;obtain⟨x,ex,l,tS,h,fR,e⟩:=e;refine⟨aO,aN,O,F,ε,x,r,ex,λv a6 H1 a3 aS=>⟨aO,aN,O,a6,ε,l,r.ext a3,tS,λd0 bt cu=>⟨aO,aN,O,d0,ε,h,(r.ext a3).ext cu,fR,λho dN dX=>?_⟩⟩⟩;have x5:=cu.trans dX;have lZ:=a3.trans x5;unfold r' at e;split at e
 ·split at e
  next hz=>
   cases e
   rw[(aS.ext x5).str];exact .inr ⟨_,rfl,by rw[m'];exact hz,k _ ho dN lZ (by simp[Rep])⟩
  next=>cases e
 unfold r_ at e;split at e
 ·cases e
  obtain⟨a,vs,rfl,aA,aw⟩:=(aS.ext x5).tup;by_cases hw:ez.b0 vs.length 0 l=0/\ez.b0 vs.length vs.length h=vs.length
  ·refine .inl (.inl (.inr ⟨a,vs,rfl,aA,hw,k _ ho dN lZ ?_⟩))
   simp only[Rep];refine⟨a,vs,rfl,aA,?_⟩;have:=FK aw l h;unfold ll at this;rw[hw.1,hw.2,List.drop_zero,Nat.sub_zero,List.take_length] at this;exact this
  ·refine .inl (.inl (.inl ⟨a,vs,rfl,aA,hw,λq a0=>?_⟩))
   have gO:=Ext.laid (o:=.tup (ll vs l h)) lZ.cB a0;refine k _ ho _ (lZ.trans gO) ?_;simp only[Rep];exact⟨q,_,rfl,cW.of es,(FK aw l h).ext gO⟩
 ·cases e
  obtain⟨a,vs,rfl,aA,aw⟩:=(aS.ext x5).lst;refine .inl (.inr ⟨a,vs,rfl,.inl aA,λq a0=>?_⟩);have gO:=Ext.uC (o:=.lst (ll vs l h)) lZ.cB a0;refine k _ _ _ (lZ.trans gO) ?_;simp only[Rep];exact⟨q,_,rfl,.inr rfl,.inl es,(FK aw l h).ext gO⟩
 ·cases e
end
end
section
variable [bX]
def kv(K:bc)(b:Bool)(H:aD)(a:ai)(xs:List V):Prop:=match b with
|true=>e5 K H a xs
|false=>cW K H a xs
def tF(K:bc)(F:ai->Prop)(H:aD)(b:Bool)(a:ai)(xs:List V):Prop:=match b with
|true=>F a/\fk H a (.lst xs)
|false=>cW K H a xs
def tF.aK{K:bc}{F a6:ai->Prop}{H H1:aD}{b:Bool}{a:ai}{xs:List V}(h:tF K F H b a xs)(k:eG K F H a6 H1):kv K b H1 a xs:=by
 cases b with
|true=>exact .inl (k.lst _ _ h.1 h.2).2
|false=>exact k.tup _ _ h
def Inv.sf{X:a5}{ag:List (ai×Obj)}{σ:bu.St}{H:aD}{s:aG}{b:Bool}{a:ai}{xs:List V}(I:Inv X ag σ H s)(h:kv X.K b H a xs):∃its:List aj,Vals xs its/\hE b s.heap a its.toArray/\xs.length<=cV:=by
 cases b with
|true=>
  obtain⟨its,r,p,z⟩:=I.list h;exact⟨its,r,p.isList,z⟩
|false=>exact I.tuple h
def Inv.Jo{X:a5}{ag:List (ai×Obj)}{σ:bu.St}{H:aD}{s:aG}{b:Bool}{a:ai}{xs ys:List V}(I:Inv X ag σ H s)(h:kv X.K b H a xs)(h':kv X.K b H a ys):xs=ys:=by
 cases b with
|true=>exact I.DV h h'
|false=>exact I.EF h h'
noncomputable def zK(K:bc)(bK cq:Bool)(a b:ai)(n m:Nat):iP:=
 ⟨λi H=>∃xs x ys y,kv K bK H a xs/\xs[i]?=some x/\kv K cq H b ys/\ys[i]?=some y/\xs.length=n/\ys.length=m,
  λi H x ah=>∃p u v,H p=none/\x=.ref p/\ah=upd H p (.tup [u,v])/\(∀xs,kv K bK H a xs->xs[i]?=some u)/\∀ys,kv K cq H b ys->ys[i]?=some v,
  λi H=>∃xs ys,kv K bK H a xs/\kv K cq H b ys/\xs.length=n/\ys.length=m/\(n<=i\/m<=i)⟩
noncomputable def N4(bK cq:Bool)(z TI cR cP cS cE cF:ai)(n m i:Nat)(h:bk):Prop:=hU h z TI cR .none (.bool false)/\IsPair h TI (.ref cP) (.ref cS)/\(∃a b,IsPair h cR a b)/\i9 bK h cP cE i/\i9 cq h cS cF i/\i<=n/\i<=m
def _y{bK cq:Bool}{P:cH}{w:bY}{K:bc}{av:List a8}{k:Nat}{pos:Pos}{z TI cR cP cS cE cF:ai}{n m:Nat}(D:ZipApart z TI cR cP cS cE cF):Turn P w K (.Tuple av k pos) (zK K bK cq cE cF n m) [z,TI,cR,cP,cS] z (N4 bK cq z TI cR cP cS cE cF n m) where
 mem:=by simp
 obj:=λi h st b ae=>by
  obtain⟨hz,i6,⟨a,c,jx⟩,af,ao,_⟩:=st;simp only[bS,d8,or_false] at ae;rcases ae with rfl|rfl|rfl|rfl|rfl
  ·exact⟨_,hz,λv q=>by cases (show Data.fields _=Data.cell v from q)⟩
  ·exact⟨_,i6,λv q=>by cases (show Data.seq _ _=Data.cell v from q)⟩
  ·exact⟨_,jx,λv q=>by cases (show Data.seq _ _=Data.cell v from q)⟩
  ·exact af.obj
  ·exact ao.obj
 keep:=λi h h' st cG=>by
  obtain⟨hz,i6,⟨a,c,jx⟩,af,ao,a_⟩:=st;exact⟨cG z (by simp) _ hz,cG TI (by simp) _ i6,⟨a,c,cG cR (by simp) _ jx⟩,af.at λo q=>cG cP (by simp) o q,ao.at λo q=>cG cS (by simp) o q,a_⟩
 item:=by
  intro X d2 hw eR au i ag s σ H E I hf st aU;subst d2 hw eR;obtain⟨xs,x,ys,y,mO,hx,nX,bl,a_,hm⟩:=aU;obtain⟨its,b3,j0,_⟩:=Inv.sf I mO;obtain⟨iq,uT,dh,_⟩:=Inv.sf I nX;obtain⟨u,bw,eD⟩:=b3.get hx;obtain⟨v,bj,V9⟩:=uT.get bl;obtain⟨hz,i6,⟨a,c,jx⟩,af,ao,B',Rd⟩:=st;have hi:i<its.toArray.size:=by
   rw[er];exact (e2.mp bw).1
  have dG:i<iq.toArray.size:=by
   rw[er];exact (e2.mp bj).1
  have Rn:=b3.length;have Ro:=uT.length;have dQ:s.TypeIs (.ref z) "zip":=⟨_,hz,rfl⟩;have wj:z<s.heap.objs.size:=cv hz;have N3:cR<s.heap.objs.size:=cv jx;have N2:TI<s.heap.objs.size:=cv i6;have R1:cP<s.heap.objs.size:=by obtain⟨o,e,_⟩:=af.obj;exact cv e
  have R2:cS<s.heap.objs.size:=by obtain⟨o,e,_⟩:=ao.obj;exact cv e
  have b':=I.ok.hd au;unfold pyNext;refine aI (wpAny_attempt (l1 (name:=Str.ofString "__next__") dQ F.slot_zip_next (jL F.slot_zip_next dQ F.entry_zip_next ?_ (F.args_zip_next_1 _))));refine aaG (mm:=λi h=>i9 bK h cP cE i/\hE bK h cE its.toArray) (mn:=λi h=>i9 cq h cS cF i/\hE cq h cF iq.toArray) D (y6 (A:=X.A.in1) bK b' cP cE D.l1i1 its.toArray) (y6 (A:=X.A.in1) cq b' cS cF D.l2i2 iq.toArray) hz i6 jx ⟨af,j0⟩ ⟨ao,dh⟩ hi dG λh' fY EM tk kP py Cu QT s1 s2 aE hv aK=>bq ?_;have ex:fY=u:=by
   rw[<- Array.getElem?_toList,show (its.toArray).toList=its from rfl,bw] at kP;exact (ia kP).symm
  have hY:EM=v:=by
   rw[<- Array.getElem?_toList,show (iq.toArray).toList=iq from rfl,bj] at py;exact (ia py).symm
  subst ex hY;refine⟨_,rfl,wpAny_letOwnedTupleGo_zip Cu λht xh fB=>?_⟩;have cU:∀b o,b≠z->b≠cR->b≠cP->b≠cS->s.heap.get? b=some o->ht.get? b=some o:=λb o bK cq gY mv q=>fB.extBut b o bK (aK b o bK cq gY mv q);have fr:H s.heap.objs.size=none:=I.bP.fresh (c_ _);have ub:ht.get? s.heap.objs.size=some {cls:=.type "tuple",data:=.seq #[fY,EM]}:=fB.extBut _ _ (mX wj) aE;obtain⟨q4,iF,hc,kf,ER,EY⟩:=hf z (by simp);obtain⟨o0,du,fa,qD,qE,D2⟩:=hf cR (by simp);obtain⟨f0,f1,f2,e9,f4,e_⟩:=hf cP (by simp);obtain⟨i4,g1,g2,g3,lD,jw⟩:=hf cS (by simp);obtain⟨t0,_⟩:=hf TI (by simp);have lO:∀b o,H b=some o->b≠z/\b≠cR/\b≠cP/\b≠cS:=λb o q=>⟨λe=>(by rw[e,q4] at q;cases q),λe=>(by rw[e,o0] at q;cases q),λe=>(by rw[e,f0] at q;cases q),λe=>(by rw[e,i4] at q;cases q)⟩;have gM:∀b o,b∉[z,cR,cP,cS]->s.heap.get? b=some o->ht.get? b=some o:=λb o ae q=>by
   simp only[bS,d8,or_false,not_or] at ae;exact cU b o ae.1 ae.2.1 ae.2.2.1 ae.2.2.2 q
  have uH:∀b o,H b=some o->b∉[z,cR,cP,cS]:=λb o q=>by
   simp only[bS,d8,or_false,not_or];exact lO b o q
  have qo:e3 X.prog X.w (upd H s.heap.objs.size (.tup [x,y])) ht:=by
   intro b o q;by_cases ae:b=s.heap.objs.size
   ·subst ae;rw[es] at q;cases q;exact⟨by show 2<=cV;decide,[fY,EM],.cons eD (.cons V9 .nil),⟨_,ub,rfl,_,rfl⟩⟩
   ·rw[ck ae] at q;refine (I.bP b o q).lW (λc v b2 di=>gM c v ?_ di) (λc di=>?_) λc ys di=>?_
    ·rcases b2 with rfl|b2
     ·exact uH _ _ q
     ·exact uH _ _ b2
    ·rw[ck (fD di fr)];exact di
    ·rw[ck (fD di fr)];exact di
  have b9:bu.Inv X ag σ (upd H s.heap.objs.size (.tup [x,y])) {s with heap:=ht,toks:=tk}:=by
   refine I.step (g':=s.gens) (d':=s.drawn) (ch:=[z,cR,cP,cS]) (λb ae=>?_) (λb o _ _ b2 q _=>gM b o b2 q) (λb o _ _ b2 q _=>⟨o.slots,gM b o b2 q⟩) (λb o _ q n=>?_)
    (λb o b2 q=>⟨o,gM b o b2 q⟩) (λb ys q=>by rw[ck (fD q fr)];exact q) (λb o u q=>by rw[ck (fD q fr)];exact q) (λb ps q=>⟨#[],by rw[ck (fD q fr),q];simp⟩) (λm hm=>?_) qo I.bare
   ·simp only[bS,d8,or_false] at ae;rcases ae with rfl|rfl|rfl|rfl
    ·exact⟨kf,iF,ER,EY⟩
    ·exact⟨qD,du,qE,D2⟩
    ·exact⟨e9,f1,f4,e_⟩
    ·exact⟨g3,g1,lD,jw⟩
   ·rw[ck (cX (cv q))];exact n
   ·obtain⟨o,es',ep,fS,r⟩:=hm;exact⟨o,es',ep,cU _ o (Ne.symm iF) (Ne.symm du) (Ne.symm f1) (Ne.symm g1) fS,r⟩
  refine⟨.ref s.heap.objs.size,_,b9,rfl,⟨s.heap.objs.size,x,y,fr,rfl,rfl,λws hw=>by rw[Inv.Jo I hw mO];exact hx,λws hw=>by rw[Inv.Jo I hw nX];exact bl⟩,⟨xh,fB.extBut _ _ D.TIz (aK _ _ D.TIz D.TITO D.TIi1 D.TIi2 i6),⟨_,_,fB.extBut _ _ D.TOz QT⟩,s1.1.at λo q=>fB.extBut _ _ D.i1z q,s2.1.at λo q=>fB.extBut _ _ D.i2z q,?_,?_⟩,λb ae=>?_⟩
  ·rw[er] at hi;omega
  ·rw[er] at dG;omega
  ·simp only[bS,d8,or_false] at ae;rcases ae with rfl|rfl|rfl|rfl|rfl
   ·rw[ck (cX wj)];exact q4
   ·rw[ck (cX N2)];exact t0
   ·rw[ck (cX N3)];exact o0
   ·rw[ck (cX R1)];exact f0
   ·rw[ck (cX R2)];exact i4
 done:=by
  intro X d2 hw eR au i ag s σ H E I hf st aU;subst d2 hw eR;obtain⟨xs,ys,mO,nX,a_,hm,aA⟩:=aU;obtain⟨its,b3,j0,_⟩:=Inv.sf I mO;obtain⟨iq,uT,dh,_⟩:=Inv.sf I nX;obtain⟨hz,i6,⟨a,c,jx⟩,af,ao,B',Rd⟩:=st;have Rn:=b3.length;have Ro:=uT.length;have dQ:s.TypeIs (.ref z) "zip":=⟨_,hz,rfl⟩;have b':=I.ok.hd au;have aV:i=its.toArray.size\/(i<its.toArray.size/\i=iq.toArray.size):=by
   rw[er,er];omega
  unfold pyNext;refine aI (wpAny_attempt (l1 (name:=Str.ofString "__next__") dQ F.slot_zip_next (jL F.slot_zip_next dQ F.entry_zip_next ?_ (F.args_zip_next_1 _))));refine aaF (mm:=λi h=>i9 bK h cP cE i/\hE bK h cE its.toArray) (mn:=λi h=>i9 cq h cS cF i/\hE cq h cF iq.toArray) D (y6 (A:=X.A.in1) bK b' cP cE D.l1i1 its.toArray) (y6 (A:=X.A.in1) cq b' cS cF D.l2i2 iq.toArray) hz i6 jx ⟨af,j0⟩ ⟨ao,dh⟩ aV λh' e tk aK he=>?_;obtain⟨o,aQ,b2⟩:=he;refine aI (wpAny_isInstance (T:="StopIteration") (b:=true) ⟨o,aQ,b2⟩ isSubtype_stop (bq ⟨rfl,?_⟩));obtain⟨q4,iF,hc,kf,ER,EY⟩:=hf z (by simp);obtain⟨o0,du,fa,qD,qE,D2⟩:=hf cR (by simp);obtain⟨f0,f1,f2,e9,f4,e_⟩:=hf cP (by simp);obtain⟨i4,g1,g2,g3,lD,jw⟩:=hf cS (by simp);have gM:∀b o,b∉[z,cR,cP,cS]->s.heap.get? b=some o->h'.get? b=some o:=λb o ae q=>by
   simp only[bS,d8,or_false,not_or] at ae;exact aK b o ae.1 ae.2.1 ae.2.2.1 ae.2.2.2 q
  have uH:∀b o,H b=some o->b∉[z,cR,cP,cS]:=λb o q=>by
   simp only[bS,d8,or_false,not_or];exact⟨λe=>(by rw[e,q4] at q;cases q),λe=>(by rw[e,o0] at q;cases q),λe=>(by rw[e,f0] at q;cases q),λe=>(by rw[e,i4] at q;cases q)⟩
  have qo:e3 X.prog X.w H h':=by
   intro b o q;refine (I.bP b o q).lW (λc v b2 di=>gM c v ?_ di) (λc di=>di) λc ys di=>di;rcases b2 with rfl|b2
   ·exact uH _ _ q
   ·exact uH _ _ b2
  refine I.step (g':=s.gens) (d':=s.drawn) (ch:=[z,cR,cP,cS]) (λb ae=>?_) (λb o _ _ b2 q _=>gM b o b2 q) (λb o _ _ b2 q _=>⟨o.slots,gM b o b2 q⟩) (λb o _ q n=>n)
    (λb o b2 q=>⟨o,gM b o b2 q⟩) (λb ys q=>q) (λb o u q=>q) (λb ps q=>⟨#[],by rw[q];simp⟩) (λm hm=>?_) qo I.bare
  ·simp only[bS,d8,or_false] at ae;rcases ae with rfl|rfl|rfl|rfl
   ·exact⟨kf,iF,ER,EY⟩
   ·exact⟨qD,du,qE,D2⟩
   ·exact⟨e9,f1,f4,e_⟩
   ·exact⟨g3,g1,lD,jw⟩
  ·obtain⟨o,es',ep,fS,r⟩:=hm;exact⟨o,es',ep,aK _ o (Ne.symm iF) (Ne.symm du) (Ne.symm f1) (Ne.symm g1) fS,r⟩
 self:=λ_ _ _ _ _ st h=>wpAny_pyIter_zip (f0:=.none) st.1 h
def R6(K:bc)(cg:fz):TI:=λσ H R=>cg σ H λvs H1=>∃bK cq a b xs ys,vs=[.ref a,.ref b]/\kv K bK H1 a xs/\kv K cq H1 b ys/\R (zK K bK cq a b xs.length ys.length) H1
section
variable {X:a5}{av:List a8}{k:Nat}{p pos dh:Pos}{a b:a8}{f g:aY}
def abM{cg:fz}(aU:ee X "zip")(hm:X.mg "zip"=none)(az:hS X [a,b] cg)(aA:bQ [a,b] X.env=(false,eval a X.env)::bQ [b] X.env)(hpl:(gk pos (bQ [b] X.env)).any (·.1)=false):k' X (.Tuple av k dh) (.Call (.Name "zip" p) [a,b] [] pos) (R6 X.K cg):=by
 intro ag s σ H R I h;refine Call_ (pL I aU hm PyProof.Rows.boot_zip (u6 (ct (az pos ag s σ H _ I h) λus s1 ⟨vs,H1,a7,a',aT⟩=>?_) aA hpl));obtain⟨bK,cq,cE,cF,xs,ys,rfl,mO,nX,q⟩:=aT;obtain⟨qS,xV,rfl,aC,aR⟩:=a'.two;cases aC;cases aR;obtain⟨its,b3,eh,_⟩:=Inv.sf a7 mO;obtain⟨iq,uT,cU,_⟩:=Inv.sf a7 nX;refine aat eh cU λh' IB i6 jx xb lK hv aV=>wpAny_pyIter_zip (f0:=.none) IB ?_;refine⟨s1.heap.objs.size+4,[s1.heap.objs.size+4,s1.heap.objs.size+2,s1.heap.objs.size+3,s1.heap.objs.size,s1.heap.objs.size+1],_,_,H1,rfl,a7.kept (t':=s1.toks) aV,_y (Y8 eh.lt cU.lt),⟨IB,i6,⟨_,_,jx⟩,xb,lK,jK _,jK _⟩,λb ae=>?_,q⟩;have eS:s1.heap.objs.size<=b:=by
  simp only[bS,d8,or_false] at ae;rcases ae with rfl|rfl|rfl|rfl|rfl
  ·exact hH _ _
  ·exact hH _ _
  ·exact hH _ _
  ·exact c_ _
  ·exact hH _ _
 exact a7.rW eS (a7.bP.fresh eS)
def aad{bK cq:Bool}{K:bc}{a b:ai}{a6:ai->Prop}{H1:aD}{ts us:List T}{vs ws:List V}(aw:tF K a6 H1 bK a vs)(q:bf K a6 H1 ts vs)(nY:tF K a6 H1 cq b ws)(bg:bf K a6 H1 us ws):mf K (zK K bK cq a b vs.length ws.length) a6 H1 (v5 ts us) where
 go:=λi F H t aK d e=>by
  have hi:=(e2.mp e).1;simp only[v5,List.length_zipWith] at hi;obtain⟨v,af,_⟩:=q.get (ft (show i<ts.length by omega));obtain⟨v2,ao,_⟩:=bg.get (ft (show i<us.length by omega));exact⟨vs,v,ws,v2,aw.aK aK,af,nY.aK aK,ao,rfl,rfl⟩
 kb:=λi F H t x ah aK d e y=>by
  obtain⟨p,v,v2,aE,rfl,rfl,iy,iB⟩:=y;have hi:=(e2.mp e).1;simp only[v5,List.length_zipWith] at hi;have xb:i<ts.length:=by omega
  have lK:i<us.length:=by omega
  obtain⟨gy,af,ao⟩:=(q.aK aK).get (ft xb);obtain⟨aey,bA,c9⟩:=(bg.aK aK).get (ft lK);have gI:=iy vs (aw.aK aK);rw[af] at gI;cases gI;have rX:=iB ws (nY.aK aK);rw[bA] at rX;cases rX;have a3:=Ext.laid (o:=.tup [v,v2]) d aE;refine⟨F,a3,?_⟩;have cm:t=.tuple [ts[i],us[i]]:=by
   rw[v5,List.getElem?_zipWith,ft xb,ft lK] at e;exact (ia e).symm
  subst cm;simp only[Rep];exact⟨p,_,rfl,cW.of es,bf.cons (ao.ext a3) (bf.cons (c9.ext a3) bf.nil)⟩
 stop:=λi F H aK aF=>⟨vs,ws,aw.aK aK,nY.aK aK,rfl,rfl,by
  simp only[v5,List.length_zipWith] at aF;rw[<- q.length,<- bg.length];omega⟩
def LW{K:bc}{F:ai->Prop}{H:aD}{t:T}{ts:List T}{v:V}(h:(match t with|.tuple ts=>some ts|.list ts=>some ts|_=>(none:Option (List T)))=some ts)(q:Rep K F H t v):∃b a vs,v=.ref a/\tF K F H b a vs/\bf K F H ts vs:=by
 split at h
 ·cases h
  simp only[Rep] at q;obtain⟨a,vs,rfl,aA,aw⟩:=q;exact⟨false,a,vs,rfl,aA,aw⟩
 ·cases h
  simp only[Rep] at q;obtain⟨a,vs,rfl,f,aA,aw⟩:=q;exact⟨true,a,vs,rfl,⟨f,aA⟩,aw⟩
 ·cases h
def adk(hm:X.mg "zip"=none)(az:cf X a f)(ae:cf X b g)(aU:ee X "zip":=by rfl)(aA:bQ [a,b] X.env=(false,eval a X.env)::bQ [b] X.env:=by rfl)(fB:bQ [b] X.env=(false,eval b X.env)::bQ [] X.env:=by rfl)(hpl:(gk pos (bQ [b] X.env)).any (·.1)=false:=by rfl):
  la X (.Tuple av k dh) (.Call (.Name "zip" p) [a,b] [] pos) (tq (dT f) (dT g)):=v3 (abM aU hm (iG az (iG ae l_ fB) aA) aA hpl) λσ H R ⟨aO,aN,O,F,ε,ts,r,e,k⟩=>by
 simp only[tq,dT,gh,c0] at e;obtain⟨xs,⟨t,cm,aC⟩,ys,⟨u,gq,aR⟩,rfl⟩:=e;refine⟨aO,aN,O,F,ε,_,r,cm,λv a6 H1 a3 aT=>⟨aO,aN,O,a6,ε,_,r.ext a3,gq,λw d0 bt cu bg=>?_⟩⟩;obtain⟨dc,a1,vs,rfl,Iw,xe⟩:=LW aC (aT.ext cu);obtain⟨eO,a2,ws,rfl,fB,nY⟩:=LW aR bg;exact⟨dc,eO,a1,a2,vs,ws,rfl,Iw.aK eG.refl,fB.aK eG.refl,k _ d0 bt (a3.trans cu) (aad Iw xe fB nY)⟩
end
end
section
variable [bX]
section
variable {X:a5}{a b e:a8}{av:List a8}{f g h:aY}{fs:List aY}{pos p dh apos A5:Pos}
def acB(az:dU X a f)(ae:dU X b g):cf X (.BinOp a .Pow b pos) (ab wc f g):=
 eu (pQ ac0 az ae) (oE (by
  intro O F H x y t fe e0 Q d aS bz e k;unfold wc at e;split at e
  ·split at e
   next hm=>
    cases e
    rw[aS.int,bz.int];obtain⟨rfl,af,ao⟩:=hm;exact⟨10,_,rfl,rfl,⟨af,by omega,by decide⟩,k _ F _ (Ext.refl d) (by simp[Rep])⟩
   next=>cases e
  ·cases e))
def _P:d1 X (fZ .IsNot) (λx y H Q=>∃b c,x=.bL b/\y=.bL c/\Q (.bL !(b==c)) H):=by
 intro ag s σ H x y v u Q I aS bz h;obtain⟨b,c,rfl,rfl,q⟩:=h;cases aS;cases bz;exact isnot_bool (vW I q rfl)
def _Q:k8 X.K rg (λx y H Q=>∃b c,x=.bL b/\y=.bL c/\Q (.bL !(b==c)) H):=by
 intro O F H x y t fe e0 Q d aS bz e k;unfold rg at e;split at e
 ·cases e
  exact⟨_,_,aS.bL,bz.bL,k _ F H (Ext.refl d) (by simp[Rep])⟩
 ·cases e
end
end
section
variable [bX]
theorem Lp:∀{ts:List T} {bs:List Bool},bools ts=some bs->ts=bs.map .bool
| [],bs,e=>by
  cases e
  rfl
|t::ts,bs,e=>by
  unfold bools at e;split at e
  ·rename_i h
   cases h
  ·rename_i h
   cases h
   simp only[gh] at e;obtain⟨r,aC,rfl⟩:=e;rw[Lp aC];rfl
  ·cases e
section
variable {X:a5}{e:a8}{av:List a8}{fs:List aY}{pos p:Pos}
def aay(au:X.calm=true):hl X (.builtin "all") (λxs H Q=>∃(p:ai) (bs:List Bool),xs=[.ref p]/\e5 X.K H p (bs.map V.bL)/\Q (.bL (bs.all id)) H):=by
 intro ag s σ H xs us Q I r h;obtain⟨p,bs,rfl,a0,q⟩:=h;obtain⟨u,rfl,aS⟩:=vals1 r;cases aS;obtain⟨its,bU,cQ,hz⟩:=I.list a0;have dz:p<s.heap.objs.size:=by obtain⟨o,n,aQ,_⟩:=cQ;exact cv aQ
 have hlen:its.length=bs.length:=by have:=bU.length;simpa using this.symm
 refine PySem.call_all_walk (wpAny_pyIter_list (items:=its.toArray) cQ.isList ?_)
 refine⟨_,[s.heap.objs.size,p],[s.heap.objs.size],_,_,_,(λi=>bs.getD i true),rfl,Walks.list (A:=X.A.in1) (I.ok.hd au) _ p (cX dz) its.toArray,⟨⟨_,eQ _ rfl,rfl,rfl⟩,cQ.isList.push _⟩,λi v aZ fF kp d2 QP=>?_,λh' tk aV=>?_⟩
 ·have hi:its[i]?=some v:=by simpa using d2
  have Ii:i<bs.length:=by rw[<- hlen];exact (e2.mp hi).1
  obtain⟨xT,aC,aR⟩:=bU.get (i:=i) (x:=V.bL bs[i]) (by simp[Ii]);rw[hi] at aC;cases aC;have oV:v=.bool bs[i]:=aR;subst oV;refine m3 ?_;have:bs.getD i true=bs[i]:=by simp[Ii]
  exact this▸QP
 ·have e:((List.range its.toArray.size).all λi=>bs.getD i true)=bs.all id:=by
   rw[er,hlen,Bool.eq_iff_iff,List.all_eq_true,List.all_eq_true];constructor
   ·intro h b ae;obtain⟨i,hi,rfl⟩:=List.getElem_of_mem ae;have:=h i (List.mem_range.mpr hi);have aR:bs.getD i true=bs[i]:=by simp[hi]
    rw[aR] at this;exact this
   ·intro h i hi;have mK:=List.mem_range.mp hi;have aR:bs.getD i true=bs[i]:=by simp[mK]
    rw[aR];exact h _ (List.getElem_mem mK)
  rw[e];exact⟨.bL (bs.all id),H,I.kept (t':=tk) λb o e=>aV b o (by simp only[gj];exact cX (cv e)) (cp _ e),rfl,q⟩
def tm(au:X.calm=true)(hm:X.mg "all"=none)(az:nu X (e::av) fs)(aU:ee X "all":=by rfl)(he:bQ (e::av) X.env=(false,eval e X.env)::bQ av X.env:=by rfl)(hpl:(gk pos (bQ av X.env)).any (·.1)=false:=by rfl):
  cf X (.Call (.Name "all" p) (e::av) [] pos) (aq jm fs):=eu (vA (aay au) aU hm (by decide +kernel) az (he:=he) (hpl:=hpl)) (sX (by
 intro O F H ts t vs Q d q e k;unfold jm at e;split at e
 ·simp only[gh] at e;obtain⟨bs,Bc,rfl⟩:=e;have:=Lp Bc;subst this;cases q with
  |cons aT bg=>
   cases bg
   obtain⟨kH,ws,rfl,aF,aw⟩:=aT.lst;have:=Kh aw;subst this;exact⟨kH,bs,rfl,.inl aF,k _ F H (Ext.refl d) (by simp[Rep])⟩
 ·cases e))
end
end
section
variable [bX]
def lC(i:Nat):ba:=λε=>match ε[i]? with
|some (some (.own ts))=>some (.nx (ε.set i (some (.aa (.list ts)))))
|_=>none
def adv(f:aY)(r:pX)(j:Nat):aY:=λε=>if r ε=true then some (.tuple [.str "refused",.int j]) else (f ε).map λt=>.tuple [.str "told",t]
end
section
variable [bX]
noncomputable def Mw:T->Option T
|.tuple xs=>some (.tuple xs.reverse)
|.list xs=>some (.list xs.reverse)
|.str x=>if x.length<=big then some (.str ⟨x.cps.toList.reverse.toArray⟩) else none
|_=>none
end
section
variable [bX]
def ac7:T->Option T
|.str x=>if x.length<=1000 then some (.str (Txt.upper x)) else none
|_=>none
def ac8:T->T->Option T
|.str x,.int i=>if i=2/\x.length<=1000 then some (.str (x++x)) else none
|_,_=>none
section
variable {X:a5}{a b:a8}{f g:aY}{p pos apos A5:Pos}
def Gp{av:List a8}{fs:List aY}(h:rv X av fs):k9 X (.List av pos) (da fs):=⟨vJ h.h⟩
end
end
section
variable [bX]
noncomputable def Mx:List T->Option T
| [.tuple ts]=>if (PyData.tuple ts).showable && !(PyData.tuple ts).hasDict && decide ((PyData.tuple ts).depth<=60) && decide ((PyData.tuple ts).shown.length<=1000000) then some (.str (PyData.tuple ts).shown) else none
|_=>none
end
section
variable [bX]
structure p0(X:a5)(e:a8)(f:aY):Prop where
 h:dU X e f
structure oP(X:a5)(b:List Stmt)(g:ba):Prop where
 h:kr X b g
def vK:a8->Bool
|.Starred ..=>false
|_=>true
section
variable {X:a5}{e a b c:a8}{av:List a8}{f g:aY}{fs:List aY}{d7:ek}{eo aA:ba}{st:Stmt}{rest tT:List Stmt}{pos:Pos}
def sC(h:vK e=true):bQ (e::av) X.env=(false,eval e X.env)::bQ av X.env:=by
 cases e <;> first|rfl|cases h
def dS(h:k9 X e f)(t:rv X av fs)(aE:vK e=true:=by rfl):rv X (e::av) (f::fs):=⟨ay h.h t.h (sC aE)⟩
def eb(h:cf X e f):k9 X e f:=⟨h⟩
def oe(h:k9 X e f):p0 X e f:=⟨ak h.h⟩
def xZ(h:dU X e f):p0 X e f:=⟨h⟩
def xY(az:p0 X a f)(ae:p0 X b g)(aE:Gb b:=by intro _ _;rfl):k9 X (.Subscript a b pos) (ab ax f g):=⟨bo az.h ae.h aE⟩
def v_add(az:p0 X a f)(ae:p0 X b g):k9 X (.BinOp a .Add b pos) (ab bb f g):=⟨fN az.h ae.h⟩
def X2{lo hi:Option a8}{gr tX:Ev->Option (Option Int)}{dh:Pos}(az:p0 X e f)(aF:ku X lo (si X.K gr))(bw:ku X hi (si X.K tX)):k9 X (.Subscript e (.Slice lo hi none dh) pos) (et f gr tX):=⟨aeI az.h aF bw⟩
def l9{x:Str}{k n:Nat}{d:List T->Option T}{p:Pos}(C:Cl X.prog X.w X.K X.mg X.base x k n d)(aw:ef k X.A)(az:rv X (e::av) fs)(aU:ee X x:=by rfl)(a_:fs.length=n:=by rfl)(g5:(x==("__debug__":Str))=false:=by decide)
  (aE:vK e=true:=by rfl) (hpl:(gk pos (bQ av X.env)).any (·.1)=false:=by rfl):k9 X (.Call (.Name x p) (e::av) [] pos) (aq d fs):=⟨bO C aw az.h aU a_ g5 (sC aE) hpl⟩
def rm(h:k9 X e f):rx X (.Return (some e) pos) (aW f):=⟨b5 h.h⟩
def xX(au:jt X c d7)(az:oP X rest eo)(ae:oP X tT aA):rx X (.If c rest tT pos) (iff d7 eo aA):=⟨dW au az.h ae.h⟩
def v8(i:Nat){x:Str}{pos':Pos}(ea:X.N.Nodup)(he:k9 X e f)(hi:X.N[i]?=some x:=by rfl)(hx:Loc X.env.scope x:=by first|exact Or.inl rfl|exact Or.inr rfl)
  (aA:swapsWith e (some (.Name x pos')) pos.line X.env=pure false:=by rfl) (hf:X.fn x=true\/X.env.scope.names.lookup x=some .local:=by first|exact .inl rfl|exact .inr rfl):
  rx X (.Assign [.Name x pos'] e pos) (asg i f):=⟨fh i ea he.h hi hx aA hf⟩
def Mo{b4 iter:a8}{body:List Stmt}{it:gU}{gH:f7}{p8:ba}(aE:PassesOwn (bh X.prog X.w) X.A X.env X.dv)(hi:la X b4 iter it)(aU:k_ X b4 gH)(ae:oP X body p8)(au:X.calm=true:=by rfl)
  (aA:∀x,q1 iter X.env x=pure x:=by intro _;rfl):rx X (.For b4 iter body [] pos) (c1 it gH p8):=⟨oI aE hi aU ae.h au aA⟩
def zg:oP X [] skip:=⟨dZ⟩
def oH(h:rx X st eo):oP X [st] eo:=⟨bR h.h⟩
def oF(h:rx X st eo)(t:oP X rest aA):oP X (st::rest) (seq eo aA):=⟨cC h.h t.h⟩
def EG(h:oP X rest eo):kr X rest eo:=h.h
end
end
section
variable [bX]
noncomputable def LV(X:a5)(bZ:ai)(jb:fz):TE:=λσ H Q=>jb σ H λvs H1=>∀(ag:List (ai×Obj)) (s:aG) (us:List aj),Inv X ag σ H1 s->Vals vs us->ic (bh X.prog X.w) X.A (.call (.ref bZ) ⟨us,[]⟩) (pU d9 X.stack X.prog X.w H1 s Q jS) s
def Lb{X:a5}{bZ:ai}{x:Str}{e:a8}{av:List a8}{p pos:Pos}{jb:fz}(az:hS X (e::av) jb)(hm:X.mg x=some (.ref bZ))(aK:oi X.K (.ref bZ)=true)(aU:ee X x:=by rfl)(g5:(x==("__debug__":Str))=false:=by decide)
  (he:bQ (e::av) X.env=(false,eval e X.env)::bQ av X.env:=by rfl) (hpl:(gk pos (bQ av X.env)).any (·.1)=false:=by rfl):b6 X (.Call (.Name x p) (e::av) [] pos) (LV X bZ jb):=by
 intro ag s σ H Q I h;refine sr (F5 I aU hm ?_ g5);refine PySem.W.callWith_K (h₀:=X.base) I.ok.mod.r5 aK ?_ he hpl;refine ct (az pos ag s σ H _ I h) λus s1 ⟨vs,H1,a7,a',q⟩=>⟨a7.aeD,?_⟩;refine wpAny_call (m1 (q ag s1 us a7 a') λr aZ a0=>?_);cases r with
|error e=>exact eL a0
|ok gr=>
  cases gr with
  |ret u=>exact a7.after a0
  |next=>exact eL a0
  |brk=>exact eL a0
  |cont=>exact eL a0
noncomputable def Jw(X:a5)(i j:Nat):TE:=λσ H Q=>∃q v,σ[i]?=some (some (.ref q))/\σ[j]?=some (some v)/\(∃(o:Obj) (fd:e1),H q=some (n5 o q)/\o.data=.func fd) /\
 ∀(ag:List (ai×Obj)) (s:aG) (u:aj),Inv X ag σ H s->RelV v u->ic (bh X.prog X.w) X.A (.call (.ref q) ⟨[u],[]⟩) (pU d9 X.stack X.prog X.w H s Q jS) s
def acW{X:a5}{i j:Nat}{x:Str}{e:a8}{p pos:Pos}(a_:b6 X (.Name x p) (uX i))(az:b6 X e (uX j))(he:bQ [e] X.env=(false,eval e X.env)::bQ [] X.env:=by rfl):b6 X (.Call (.Name x p) [e] [] pos) (Jw X i j):=by
 intro ag s σ H Q I ⟨q,v,a0,bj,⟨o,fd,aQ,Q'⟩,au⟩;refine sr (ct (a_ ag s σ H (λv H1=>v=.ref q/\H1=H) I ⟨.ref q,a0,rfl,rfl⟩) λw s1 ⟨y,H1,a7,bz,hY,fR⟩=>?_);subst hY;subst fR;cases bz;have bZ:∀{s1:aG},Inv X ag σ H1 s1->PySem.W.FnAt q s1.heap:=λ{s1} a7=>by
  have af:s1.heap.get? q=some o:=(a7.bP q _ aQ).1;obtain⟨c,wU,HH,bx⟩:=o;cases Q';exact⟨_,_,_,_,af⟩
 refine PySem.W.callWith_F (bZ a7) ?_ he rfl
 refine ct ((iG az l_ he) pos ag s1 σ H1 (λvs bt=>vs=[v]/\bt=H1) a7 ⟨v,bj,rfl,rfl⟩) λus s2 ⟨vs,bt,b9,cL,ev,fR⟩=>?_
 subst ev;subst fR;cases cL with
|cons eD jG=>
 cases jG
 refine⟨bZ b9,wpAny_call (m1 (au ag s2 _ b9 eD) λr aZ a0=>?_)⟩
 cases r with
|error e=>exact eL a0
|ok gr=>
  cases gr with
  |ret u=>exact b9.after a0
  |next=>exact eL a0
  |brk=>exact eL a0
  |cont=>exact eL a0
def wh:T->T->Option T
|.tuple xs,.tuple ys=>if xs.length+ys.length<=big then some (.tuple (xs++ys)) else none
|_,_=>none
abbrev Eo(K:bc):eX:=λx y H Q=>LX K x y H Q\/Mr K x y H Q
def Mg{K:bc}{F:ai->Prop}{H:aD}{x y t:T}{fe e0:V}{Q:c5}(d:fj F H)(aS:Rep K F H x fe)(bz:Rep K F H y e0)(e:wh x y=some t)(k:∀v aL ah,Ext F H aL ah->Rep K aL ah t v->Q v ah):Eo K fe e0 H Q:=by
 unfold wh at e;split at e
 next xs ys=>
  split at e
  next hz=>
   cases e
   simp only[Rep] at aS bz;obtain⟨wJ,vs,rfl,aA,aw⟩:=aS;obtain⟨GZ,ws,rfl,ip,kE⟩:=bz;cases xs with
   |nil=>
    simp only[bf] at aw;subst aw;refine .inl ⟨_,_,_,rfl,rfl,aA,ip,k _ F H (Ext.refl d) ?_⟩;simp only[Rep];exact⟨_,_,rfl,ip,by simpa using kE⟩
   |cons x0 X9=>
    refine .inr ⟨_,_,_,_,rfl,rfl,aA,ip,?_,?_,λbG=>?_,λbG p aE=>?_⟩
    ·intro z;subst z;have:=aw.length;simp at this
    ·rw[m',<- aw.length,<- kE.length];exact hz
    ·refine k _ F H (Ext.refl d) ?_
     subst bG;have aC:ys=[]:=List.eq_nil_of_length_eq_zero (by rw[kE.length];rfl);subst aC;simp only[Rep];exact⟨_,_,rfl,aA,by simpa using aw⟩
    ·have a3:=Ext.laid (o:=.tup (vs++ws)) d aE;refine k _ F _ a3 ?_;simp only[Rep];exact⟨p,_,rfl,cW.of es,(aw.append kE).ext a3⟩
  next=>cases e
 next=>cases e
abbrev xy:ek:=aP (ab oEq (nm 1) (aJ []))
abbrev D':aY:=ab ax (nm 1) (U (.int 0))
abbrev D_:aY:=et (nm 0) optN (opt (nm 3))
abbrev Eb:aY:=ab ax (nm 0) (nm 3)
abbrev Ea:aY:=et (nm 1) (opt (U (.int 1))) optN
abbrev Ec:aY:=et (nm 0) (opt (ab bb (nm 3) (U (.int 1)))) optN
noncomputable def qI(g:T->Option T):Nat->T->T->Option T
|0,_,_=>none
|n+1,t0,t1=>(xy [some (.aa t0),some (.aa t1),none,none]).bind λb=>if b=true then g t0 else
  (D' [some (.aa t0),some (.aa t1),none,none]).bind λi=>(D_ [some (.aa t0),some (.aa t1),none,some (.aa i)]).bind λa=>(Eb [some (.aa t0),some (.aa t1),none,some (.aa i)]).bind λxU=>(Ea [some (.aa t0),some (.aa t1),none,some (.aa i)]).bind λqS=>
   (qI g n xU qS).bind λm=>(wh a (.tuple [m])).bind λx=>(Ec [some (.aa t0),some (.aa t1),none,some (.aa i)]).bind λz=>wh x z
noncomputable def Ez(X:a5)(bZ:ai):hr:=EB (Jx (uW X.K xy) (EA (Jw X 2 0)) Mq) (EB (Ew (mR X.K D') (Gv 3)) (EA (qQ (Eo X.K) (qQ (Eo X.K) (mR X.K D_) (Jz (aeJ (LV X bZ (aeJ (mR X.K Eb) (aeJ (mR X.K Ea) (aeJ (uX 2) xR)))) xR))) (mR X.K Ec))))
def sP{K:bc}{F:ai->Prop}{H:aD}{t0 t1:T}{v0 v1:V}{sm:Option V}{pY:aD}{zA:ai->Prop}(x:Ext zA pY F H)(fV:Rep K F H t0 v0)(a':Rep K F H t1 v1):
  c8 K zA ⟨pY,0⟩ (λa=>pY a=none) F H [some (.aa t0),some (.aa t1),none,none] [some v0,some v1,sm,none]/\∀{i:T} {uY:V},Rep K F H i uY->c8 K zA ⟨pY,0⟩ (λa=>pY a=none) F H [some (.aa t0),some (.aa t1),none,some (.aa i)] [some v0,some v1,sm,some uY]:=by
 have fr:∀a,H a=none->pY a=none:=λa az=>by
  cases q:pY a with
  |none=>rfl
  |some o=>
   obtain⟨u,bw⟩:=x.same.ne q;rw[az] at bw;cases bw
 constructor
 ·refine⟨rfl,λi s e=>?_,λi j s u v w o6 aC aR du fa=>?_,x,λ_ h=>h,fr⟩
  ·match i,e with
   |0,e=>cases e;exact⟨v0,rfl,fV⟩
   |1,e=>cases e;exact⟨v1,rfl,a'⟩
   |2,e=>cases e
   |3,e=>cases e
   |n+4,e=>cases e
  ·match i,aC with
   |0,e=>cases e;cases du
   |1,e=>cases e;cases du
   |2,e=>cases e
   |3,e=>cases e
   |n+4,e=>cases e
 ·intro i uY sd;refine⟨rfl,λi s e=>?_,λi j s u v w o6 aC aR du fa=>?_,x,λ_ h=>h,fr⟩
  ·match i,e with
   |0,e=>cases e;exact⟨v0,rfl,fV⟩
   |1,e=>cases e;exact⟨v1,rfl,a'⟩
   |2,e=>cases e
   |3,e=>cases e;exact⟨uY,rfl,sd⟩
   |n+4,e=>cases e
  ·match i,aC with
   |0,e=>cases e;cases du
   |1,e=>cases e;cases du
   |2,e=>cases e
   |3,e=>cases e;cases du
   |n+4,e=>cases e
def adU{p q:Prop}(h:p):if true=true then p else q:=by rw[if_pos rfl];exact h
def adV{p q:Prop}(h:q):if false=true then p else q:=by rw[if_neg (by simp)];exact h
section
variable {P:cH}{w:bY}{K:bc}{mg:Str->Option aj}{base:bk}{x:Str}{st:Stmt}{bZ:ai}{fd:e1}{jJ iy iB m4:Str}{q:ai}{g:T->Option T}{tc:(ai->Prop)->aD->bk->Prop}{kl:Nat}
theorem La(tB:cO K x x st bZ fd)(S:c4 [jJ,iy,iB,m4] [jJ,iy,iB] (bJ st))(bd:Binds K fd [jJ,iy,iB] [])
  (xf:∀(cy:aj) (A:cN) (outer:List Env) (s:aG) (H:aD) (k:Nat),ef k (A.deeper (envOfC x (bJ st) s.heap.objs.size bZ cy))->gV (gG d9 P w K mg base [jJ,iy,iB,m4] x (bJ st) bZ cy A outer s H jS).hC (hb st) (Ez (gG d9 P w K mg base [jJ,iy,iB,m4] x (bJ st) bZ cy A outer s H jS).hC bZ))
  (ts:∀(F aL:ai->Prop) (H ah:aD) (h h':bk) (fs:List ai),Ext F H aL ah->eY fs [] H ah h h'->tc F H h->tc aL ah h')
  (r0:∀F H h,tc F H h->∃(o:Obj) (fd:e1),H q=some (n5 o q)/\o.data=.func fd)
  (call:∀(A:cN) (outer:List Env) (s:aG) (H:aD) (F:ai->Prop) (d t:T) (v:V) (u:aj) (Q:c5),ef (kl+1) A->ni P w K mg base A outer s H->fj F H->tc F H s.heap->Rep K F H d v->RelV v u->g d=some t->(∀gy aL ah,Ext F H aL ah->Rep K aL ah t gy->Q gy ah) ->
   ic (bh P w) A (.call (.ref q) ⟨[u],[]⟩) (pU d9 outer P w H s Q jS) s):
  ∀(n:Nat) (t0 t1 t:T),qI g n t0 t1=some t->∀(A:cN) (outer:List Env) (s:aG) (H:aD) (F:ai->Prop) (v0 v1:V) (us:List aj) (Q:c5),ef (kl+1+n) A->ni P w K mg base A outer s H->fj F H->tc F H s.heap->Rep K F H t0 v0->Rep K F H t1 v1->Vals [v0,v1,.ref q] us->(∀gy aL ah,Ext F H aL ah->Rep K aL ah t gy->Q gy ah) ->
   ic (bh P w) A (.call (.ref bZ) ⟨us,[]⟩) (pU d9 outer P w H s Q jS) s
|0,t0,t1,t,e=>by cases e
|n+1,t0,t1,t,e=>by
  intro A outer s H F v0 v1 us Q aw bG d pa fV a' vs cG;refine abm (k:=kl+1+n) (vs:=[v0,v1,.ref q]) tB S bd aw bG vs rfl λcy nY=>⟨_,xf cy A outer s H _ nY,?_⟩;simp only[qI,c0] at e;obtain⟨b,i0,e⟩:=e;have W9:start [jJ,iy,iB,m4] [v0,v1,.ref q]=[some v0,some v1,some (.ref q),none]:=rfl;rw[W9];refine⟨F,⟨H,0⟩,λa=>H a=none,F,_,b,(sP (Ext.refl d) fV a').1,i0,λa6 H1 a3=>?_⟩;have un:∀{ag:List (ai×Obj)} {σ:bu.St} {bt:aD} {s2:aG},Inv (gG d9 P w K mg base [jJ,iy,iB,m4] x (bJ st) bZ cy A outer s H jS).hC ag σ bt s2->eY (gG d9 P w K mg base [jJ,iy,iB,m4] x (bJ st) bZ cy A outer s H jS).hC.fs [] H bt s.heap s2.heap:=λ{ag σ bt s2} I=>I.base;cases b with
  |true=>
   rw[if_pos rfl] at e;refine adU ?_;refine⟨q,v0,rfl,rfl,?_,λag s2 u b9 eD=>?_⟩
   ·obtain⟨o,Qz,aQ,hd⟩:=r0 _ _ _ pa;refine⟨o,Qz,a3.same.get aQ,hd⟩
   ·exact call _ _ s2 H1 a6 t0 t v0 u Q (nY.mono (by omega)) b9.w3 a3.cB (ts _ _ _ _ _ _ _ a3 (un b9) pa) (fV.ext a3) eD e λgy aL ah cu b3=>cG gy aL ah (a3.trans cu) b3
  |false=>
   rw[if_neg (by simp)] at e;refine adV ?_;simp only[c0] at e;obtain⟨i,Bb,a,lx,xU,Qt,qS,Qu,m,em,fY,ex,z,nN,e⟩:=e;refine⟨F,⟨H,0⟩,λa=>H a=none,a6,_,i,(sP a3 (fV.ext a3) (a'.ext a3)).1,Bb,λuY d0 bt cu sd=>?_⟩;have x2:=a3.trans cu;refine⟨F,⟨H,0⟩,λa=>H a=none,d0,_,a,(sP x2 (fV.ext x2) (a'.ext x2)).2 sd,lx,λva ho dN dX jF=>?_⟩;have lZ:=x2.trans dX;refine⟨F,⟨H,0⟩,λa=>H a=none,ho,_,xU,(sP lZ (fV.ext lZ) (a'.ext lZ)).2 (sd.ext dX),Qt,λog ih hP gO V_=>?_⟩;have x3:=lZ.trans gO;refine⟨F,⟨H,0⟩,λa=>H a=none,ih,_,qS,(sP x3 (fV.ext x3) (a'.ext x3)).2 (sd.ext (dX.trans gO)),Qu,λoh iO hp j9 V'=>?_⟩;have EJ:=x3.trans j9;refine⟨_,rfl,λag s5 X1 oN X4=>?_⟩;refine La tB S bd xf ts r0 call n xU qS m em _ _ s5 hp iO og oh X1 _ nY oN.w3 EJ.cB (ts _ _ _ _ _ _ _ EJ (un oN) pa) (V_.ext j9) V' X4 λJC zB oL x7 V4=>?_;refine⟨by show 1<=cV;decide,λp aE=>?_⟩;have kV:=Ext.laid (o:=.tup [JC]) x7.cB aE;have dn:Rep K zB (upd oL p (.tup [JC])) (.tuple [m]) (.ref p):=by
    simp only[Rep];exact⟨p,_,rfl,cW.of es,bf.cons (V4.ext kV) bf.nil⟩
   refine Mg kV.cB (jF.ext (((gO.trans j9).trans x7).trans kV)) dn ex λfe k4 oM qT aS=>?_
   have x4:=((EJ.trans x7).trans kV).trans qT;refine⟨F,⟨H,0⟩,λa=>H a=none,k4,_,z,(sP x4 (fV.ext x4) (a'.ext x4)).2 (sd.ext (((((dX.trans gO).trans j9).trans x7).trans kV).trans qT)),nN,λvz GK zD u3 Wa=>?_⟩;exact Mg u3.cB (aS.ext u3) Wa e λgy aL ah EL b3=>cG gy aL ah ((x4.trans u3).trans EL) b3
end
noncomputable def Xm(X:a5)(params:Arguments)(body:a8)(scope:Scope):TE:=λσ H Q=>ju H/\∀(q bT:ai) (gZ:aj) (H1:aD),hk H H1->ju H1->H1 q=some (n5 (PySem.W.kla_obj "<lambda>" (X.env.qual++"<lambda>") params body scope (e7 X.env scope.names []) ((X.mg "__name__").getD .none) bT gZ) q) ->
 H1 bT=some (rI bT (X.env.qual++"<lambda>"))->Q (.ref q) H1
def acS{X:a5}{params:Arguments}{body:a8}{scope:Scope}{kI:Pos}{c ml:ai}(rZ:X.env.code=.ref c)(eB:q2 X.K c ml=true)(lH:mc X.mg X.base)(n0:(ml,X.env.qual++"<lambda>")∈bX.cM)(Cr:∀p∈bX.cM,p.1=ml->p.2=X.env.qual++"<lambda>")
  (qj:∀y∈scope.names,y.2=.free->X.env.scope.names.lookup y.1=some .cell) (uf:defaultsOf params X.env=([],[])):b6 X (.Lambda params body scope kI) (Xm X params body scope):=by
 intro ag s σ H Q I ⟨d,k⟩;have Na:=PySem.W.codeHd_of_K I.ok.mod.r5 eB;have aF:∀x∈scope.names,x.2=.free->∃c,X.env.cells.lookup x.1=some c:=λx hx hf=>I.ok.has x.1 (.inl (qj x hx hf));exact abf I rZ Na lH uf (JM aF) d n0 Cr λq bT gZ H1 s1 a7 se ED It a0 au=>⟨.ref q,H1,a7,rfl,k q bT gZ H1 se ED a0 au⟩
def xA(n:Nat)(f1 f2 g:aY):aY:=λε=>(f1 ε).bind λt0=>(f2 ε).bind λt1=>qI (λd=>g (some (.aa d)::ε)) n t0 t1
def acf{N:List Str}{scope:Scope}{cl:List (Str×ai)}{σ:bu.St}{H ah:aD}{h h':bk}{fs:List ai}(dc:rt N scope cl σ H h)(u:eY fs [] H ah h h'):rt N scope cl σ ah h':=by
 have aK:∀{a:ai} {v:Option aj},h.IsCell a v->H a=none->h'.IsCell a v:=λ{a v} z n=>aaf u z n (by intro z;exact absurd (show a∈([]:List ai) from z) (by simp));refine⟨dc.inj,dc.has,λx c hx=>?_,dc.len,λi x v af ao bA=>?_⟩
 ·obtain⟨⟨v,bj⟩,a_⟩:=dc.wM x c hx;refine⟨⟨v,aK bj a_⟩,?_⟩;obtain⟨o,aQ,_⟩:=bj;exact u.free c o aQ a_ (by simp)
 ·obtain⟨z,c,eD,hf,lI,hx⟩:=dc.val i x v af ao bA;exact⟨z,c,eD,hf,lI,aK hx (dc.wM x c lI).2⟩
def adE{X:a5}{k:Nat}(n:Nat){x:Str}{st:Stmt}{bZ:ai}{fd:e1}{jJ iy iB m4:Str}{aC aR:a8}{f1 f2 g:aY}{params:Arguments}{body:a8}{scope:Scope}{kI p pos:Pos}{c ml:ai}{uL y:Str}
  (tB:cO X.K x x st bZ fd) (S:c4 [jJ,iy,iB,m4] [jJ,iy,iB] (bJ st)) (bd:Binds X.K fd [jJ,iy,iB] []) (hm:X.mg x=some (.ref bZ))
  (xf:∀(cy:aj) (A:cN) (outer:List Env) (s:aG) (H:aD) (k:Nat),ef k (A.deeper (envOfC x (bJ st) s.heap.objs.size bZ cy))->gV (gG d9 X.prog X.w X.K X.mg X.base [jJ,iy,iB,m4] x (bJ st) bZ cy A outer s H jS).hC (hb st) (Ez (gG d9 X.prog X.w X.K X.mg X.base [jJ,iy,iB,m4] x (bJ st) bZ cy A outer s H jS).hC bZ))
  (af:cf X aC f1) (ao:cf X aR f2) (rZ:X.env.code=.ref c) (eB:q2 X.K c ml=true) (lH:mc X.mg X.base) (n0:(ml,uL)∈bX.cM) (Cr:∀p∈bX.cM,p.1=ml->p.2=uL) (aw:ef (k+1+n) X.A)
  (ae:∀(q bT:ai) (cl:List (Str×ai)) (A:cN) (outer:List Env) (s:aG) (H:aD),ef k (A.deeper (rS (X.env.qual++"<lambda>") scope s.heap.objs.size q (.ref bT) cl))->cf (tQ X.prog X.w X.K X.mg X.base (y::X.N) (X.env.qual++"<lambda>") scope q (.ref bT) cl A outer s H) body g)
  (o_:(decide (scope.kind=.function) && !scope.isCoroutine && !scope.isGenerator && decide (scope.names.lookup y=some .local) && decide (y∉X.N) && scope.names.all λz=>decide (z.2≠.cell) && (decide (z.2≠.local) || decide (z.1=y)))=true:=by rfl)
  (qj:(scope.names.all λy=>decide (y.2≠.free) || decide (X.env.scope.names.lookup y.1=some .cell))=true:=by rfl)
  (OS:∀(cl:List (Str×ai)) (pm:aj) (bT:ai) (gZ u:aj),bindArgs (PySem.W.kla_fn "<lambda>" (X.env.qual++"<lambda>") params body scope cl pm (.ref bT) gZ) ⟨[u],[]⟩=pure [(y,u)]:=by intros;rfl)
  (aU:ee X x:=by rfl) (g5:(x==("__debug__":Str))=false:=by decide) (uf:defaultsOf params X.env=([],[]):=by rfl)
  (j0:vK aC=true:=by rfl) (dh:vK aR=true:=by rfl)
  (hpl:(gk pos (bQ [aR,.Lambda params body scope kI] X.env)).any (·.1)=false:=by rfl) (It:X.env.qual++"<lambda>"=uL:=by rfl):
  cf X (.Call (.Name x p) [aC,aR,.Lambda params body scope kI] [] pos) (xA n f1 f2 g):=by
 subst It;simp only[cJ,Bool.or_eq_true,Bool.not_eq_true',decide_eq_true_eq,List.all_eq_true] at o_;obtain⟨⟨⟨⟨⟨aV,B6⟩,B8⟩,RS⟩,RR⟩,Il⟩:=o_;have ql:∀x∈scope.names,x.2≠.cell:=λx hx=>(Il x hx).1;have xc:∀x∈scope.names,x.2=.local->x.1=y:=λx hx aF=>by
  rcases (Il x hx).2 with z|z
  ·exact absurd aF z
  ·exact z
 simp only[List.all_eq_true,Bool.or_eq_true,decide_eq_true_eq] at qj;have H_:∀y∈scope.names,y.2=.free->X.env.scope.names.lookup y.1=some .cell:=λy bl hf=>by
  rcases qj y bl with z|z
  ·exact absurd hf z
  ·exact z
 refine eu (Lb (iG af (iG ao (iG (acS rZ eB lH n0 Cr H_ uf) l_ (sC rfl)) (sC dh)) (sC j0)) hm tB.aK aU g5 (sC j0) hpl) λσ H Q ⟨aO,E,O,F,ε,t,xB,e,cG⟩=>?_
 simp only[xA,c0] at e;obtain⟨t0,bG,t1,qd,cm⟩:=e;refine⟨aO,E,O,F,ε,t0,xB,bG,λv0 a6 H1 a3 fV=>⟨aO,E,O,a6,ε,t1,xB.ext a3,qd,λv1 d0 bt cu a'=>⟨(xB.ext (a3.trans cu)).cB.mT,λq bT gZ dN se ED a0 au=>λag s us I vs=>?_⟩⟩⟩;have dX:Ext d0 bt d0 dN:=⟨se,λ_ h=>h,λ_ h=>.inl h,⟨λa az=>by
  obtain⟨o,aQ⟩:=cu.cB.jV a az;exact se.ne aQ,ED⟩⟩
 exact La tB S bd xf (q:=q) (kl:=k) (g:=λd=>g (some (.aa d)::ε)) (tc:=λF H h=>c8 X.K aO E O F H ε σ/\H q=some (n5 (PySem.W.kla_obj "<lambda>" (X.env.qual++"<lambda>") params body scope (e7 X.env scope.names []) ((X.mg "__name__").getD .none) bT gZ) q)/\H bT=some (rI bT (X.env.qual++"<lambda>"))/\rt X.N scope (e7 X.env scope.names []) σ H h)
  (λF aL H ah h h' fs x u ⟨a1,a2,iT,nC⟩=>⟨a1.ext x,x.same.get a2,x.same.get iT,acf nC u⟩) (λF H h ⟨_,a2,_,_⟩=>⟨_,_,a2,rfl⟩)
  (λA outer aZ ah aL d t' v u fF RD bG cB pa uO eD lz lM=>aaa aV B6 B8 ql RS (ae q bT _) (OS _ _ _ _ _) RD bG pa.2.1 pa.2.2.1 pa.2.2.2 eD pa.1 uO lz lM)
  n t0 t1 t cm X.A X.stack s dN d0 v0 v1 us Q aw I.w3 dX.cB ⟨xB.ext ((a3.trans cu).trans dX),a0,au,abv I ql xc RR H_⟩ (fV.ext (cu.trans dX)) (a'.ext dX) vs λgy aL ah EL b3=>cG gy aL ah (((a3.trans cu).trans dX).trans EL) b3
end
end D
end
section
namespace b1
open D
def aaB:ba:=
  (seq (c1 (dT (ab ax (nm 0) (U (.int 0)))) (aX 2) (iff (aP (ab oEq (ab ax (nm 2) (U (.int 0))) (nm 1))) (aW (ab ax (nm 2) (U (.int 1)))) skip))
  never)
def KQ:List T->Option T:=bE aaB 3
noncomputable def ach:ba:=
  (seq (asg 1 (aq hI [(comp 1 [] (dT (ab ax (nm 0) (U (.int 0)))) (aX 0) (dd true) (U (.str "shut")))])) (seq (asg 2 (aq hI [(comp 1 [] (dT (ab ax (nm 0) (U (.int 1)))) (aX 0) (dd true) (U (.int 0)))])) (aW (aJ [(U (.str "off")),(U (.int 0)),(U .none),(ar 1),(aJ []),(U (.int 0)),(aJ []),(U (.int 0)),(U (.int 0)),(ar 2)]))))
def acb:List T->Option T:=bE ach 3
end b1
end
section
namespace b1
open D b1
def q9:ba:=
  (seq (iff (aP (ab oLt (nm 1) (aq de [(nm 0)]))) (aW (ab ax (nm 0) (nm 1))) skip) (aW (U (.int 0))))
def kc:List T->Option T:=bE q9 2
noncomputable def rb:ba:=
  (seq (asg 2 (ab oMod (ab cZ (ab bb (ab bb (aq kc [(ar 0),(ar 1)]) (ab cZ (U (.int 7919)) (nm 1))) (U (.int 1))) (U (.int 48271))) (U (.int 2147483647)))) (aW (ab oMod (ab bb (ab bb (ab cZ (nm 2) (nm 2)) (ab cZ (U (.int 7)) (nm 2))) (nm 1)) (U (.int 2147483629)))))
def fw:List T->Option T:=bE rb 3
noncomputable def rd:ba:=
  (seq (asg 2 (ab oMod (ab cZ (ab bb (ab bb (nm 0) (ab cZ (U (.int 104729)) (nm 1))) (U (.int 17))) (U (.int 69621))) (U (.int 2147483647)))) (aW (ab oMod (ab bb (ab bb (ab cZ (nm 2) (nm 2)) (ab cZ (U (.int 3)) (nm 2))) (nm 1)) (U (.int 2147483629)))))
def f3:List T->Option T:=bE rd 3
noncomputable def abx:ba:=
  (seq (asg 1 (aJ [])) (seq (c1 (fM (hN (aJ [(U (.str "a")),(U (.str "b")),(U (.str "back")),(U (.str "d")),(U (.str "hall")),(U (.str "r")),(U (.str "win")),(U (.str "z"))]))) (dg [(aX 2),(aX 3)]) (seq (asg 4 (ab oDiv (aq f3 [(ar 0),(ar 2)]) (U (.int 4)))) (iff (cc (aP (ab oLt (ab oMod (nm 4) (U (.int 8))) (ab bb (U (.int 3)) (ab oMod (nm 0) (U (.int 5)))))) (aP (ab oEq (nm 2) (ab oMod (ab oDiv (nm 0) (U (.int 8))) (U (.int 8)))))) (asg 1 (ab bb (nm 1) (aJ [(aJ [(ar 3),(ab ax (aJ [(U (.str "day")),(U (.str "inner")),(U (.str "once")),(U (.str "way")),(U (.str "way"))]) (ab oMod (ab oDiv (nm 4) (U (.int 8))) (U (.int 5))))])]))) skip))) (seq (asg 5 (aJ [])) (seq (c1 (fM (hN (aJ [(U (.str "0000")),(U (.str "1234")),(U (.str "4321")),(U (.str "7777")),(U (.str "9990")),(U (.str "9999"))]))) (dg [(aX 2),(aX 6)]) (seq (asg 4 (ab oDiv (aq f3 [(ar 0),(ab bb (U (.int 10)) (nm 2))]) (U (.int 4)))) (iff (cc (aP (ab fU (ab oMod (nm 4) (U (.int 3))) (U (.int 0)))) (aP (ab oEq (nm 2) (U (.int 1))))) (seq (asg 7 (aq hI [(comp 1 [4] (iI (U (.int 3))) (aX 0) (aP (ab fU (ab oMod (ab oDiv (nm 1) (ab ax (aJ [(U (.int 4)),(U (.int 16)),(U (.int 64))]) (nm 0))) (U (.int 4))) (U (.int 0)))) (ab ax (aJ [(U (.str "set")),(U (.str "shunt")),(U (.str "unset"))]) (nm 0)))])) (seq (asg 8 (ab ax (aJ [(U (.str "ann")),(U (.str "bo")),(U (.str "cy"))]) (ab oMod (ab oDiv (nm 4) (U (.int 256))) (U (.int 3))))) (asg 5 (ab bb (nm 5) (aJ [(aJ [(ar 6),(ar 8),(ar 7),(ab ax (aJ [(U (.int 0)),(U (.int 0)),(U (.int 1)),(U (.int 2)),(U (.int 9))]) (ab oMod (ab oDiv (nm 4) (U (.int 1024))) (U (.int 5))))])]))))) skip))) (seq (asg 4 (ab oDiv (aq f3 [(ar 0),(U (.int 20))]) (U (.int 4)))) (seq (asg 9 (aJ [(ab ax (aJ [(U (.int 0)),(U (.int 5)),(U (.int 30)),(U (.int 60))]) (ab oMod (nm 4) (U (.int 4)))),(ab ax (aJ [(U (.int 0)),(U (.int 4)),(U (.int 20)),(U (.int 60))]) (ab oMod (ab oDiv (nm 4) (U (.int 4))) (U (.int 4)))),(ab ax (aJ [(U (.int 1)),(U (.int 9)),(U (.int 120)),(U (.int 300))]) (ab oMod (ab oDiv (nm 4) (U (.int 16))) (U (.int 4))))])) (aW (aJ [(ar 1),(ar 5),(ar 9)]))))))))
def sR:List T->Option T:=bE abx 10
noncomputable def KZ:ba:=
  (seq (asg 2 (ab ax (ab ax (ab ax (nm 0) (U (.int 0))) (ab oMod (ab oDiv (nm 1) (U (.int 8))) (aq de [(ab ax (nm 0) (U (.int 0)))]))) (U (.int 0)))) (seq (asg 3 (ab oMod (nm 1) (U (.int 10)))) (seq (iff (aP (ab oLt (nm 3) (U (.int 5)))) (aW (aJ [(U (.str "line")),(ar 2),(ab ax (aJ [(U (.str "shut")),(U (.str "open")),(U (.str "open")),(U (.str "cut"))]) (ab oMod (ab oDiv (nm 1) (U (.int 512))) (U (.int 4))))])) skip) (seq (iff (aP (ab oLt (nm 3) (U (.int 7)))) (aW (aJ [(U (.str "ticks")),(ab bb (U (.int 1)) (ab oMod (ab oDiv (nm 1) (U (.int 64))) (ab ax (aJ [(U (.int 3)),(U (.int 40)),(U (.int 200))]) (ab oMod (ab oDiv (nm 1) (U (.int 4096))) (U (.int 3))))))])) skip) (seq (asg 4 (ab ax (ab ax (ab ax (nm 0) (U (.int 1))) (ab oMod (ab oDiv (nm 1) (U (.int 64))) (aq de [(ab ax (nm 0) (U (.int 1)))]))) (U (.int 0)))) (seq (iff (aP (ab oEq (ab oMod (ab oDiv (nm 1) (U (.int 65536))) (U (.int 4))) (U (.int 0)))) (asg 4 (ab ax (aJ [(U (.str "0001")),(U (.str "1111")),(U (.str "9999")),(U (.str "0000"))]) (ab oMod (ab oDiv (nm 1) (U (.int 512))) (U (.int 4))))) skip) (seq (asg 5 (ab ax (aJ [(U (.str "set")),(U (.str "set")),(U (.str "unset")),(U (.str "shunt")),(U (.str "free")),(U (.str "shunt"))]) (ab oMod (ab oDiv (nm 1) (U (.int 4096))) (U (.int 6))))) (seq (iff (aP (ab (gw false) (nm 5) (aJ [(U (.str "set")),(U (.str "unset"))]))) (aW (aJ [(U (.str "code")),(ar 4),(ar 5),(U .none)])) skip) (aW (aJ [(U (.str "code")),(ar 4),(ar 5),(ar 2)]))))))))))
def q':List T->Option T:=bE KZ 6
end b1
end
section
namespace dq
open D b1
noncomputable def vv:ba:=
  (seq (asg 1 (ab bb (U (.int 1)) (ab oMod (nm 0) (U (.int 7))))) (seq (asg 2 (aJ [])) (seq (c1 (iI (ab oMod (ab oDiv (nm 0) (U (.int 8))) (U (.int 11)))) (aX 3) (seq (asg 4 (ab oDiv (aq f3 [(ar 0),(ab bb (U (.int 50)) (nm 3))]) (U (.int 4)))) (seq (asg 5 (ab oMod (nm 4) (ab bb (nm 1) (U (.int 1))))) (seq (asg 6 (ab oMod (ab bb (ab bb (nm 5) (U (.int 1))) (ab oMod (ab oDiv (nm 4) (U (.int 8))) (nm 1))) (ab bb (nm 1) (U (.int 1))))) (seq (asg 7 (ab ax (aJ [(U .none),(U .none),(U (.str "a")),(U (.str "b")),(U (.str "back")),(U (.str "hall")),(U (.str "win"))]) (ab oMod (ab oDiv (nm 4) (U (.int 64))) (U (.int 7))))) (asg 2 (ab bb (nm 2) (aJ [(aJ [(aq lR [(nm 5),(nm 6)]),(aq lQ [(nm 5),(nm 6)]),(ar 7)])])))))))) (aW (aJ [(ar 1),(ar 2)])))))
def my:List T->Option T:=bE vv 8
def _s:ba:=
  (aW (dr (bN (dH "tuple") (nm 0)) (chain oLe oLe (nm 1) (aq de [(nm 0)]) (nm 2))))
def dE:List T->Option T:=bE _s 3
def acg:ba:=
  (aW (aq jm [(comp 2 [] (tq (dT (ar 0)) (dT (et (nm 0) (opt (U (.int 1))) optN))) (dg [(aX 0),(aX 1)]) (dd true) (ab oLt (nm 0) (nm 1)))]))
def l8:List T->Option T:=bE acg 1
noncomputable def K0:ba:=
  (seq (iff (cc (bD (aP (bN (dH "str") (nm 0)))) (bD (aP (chain oLe oLe (nm 1) (aq de [(nm 0)]) (nm 2))))) (aW (U (.bool false))) skip) (aW (aq jm [(comp 1 [3,4] (cz (ar 0)) (aX 0) (dd true) (chain oLe oLe (nm 1) (nm 0) (nm 2)))])))
def l6:List T->Option T:=bE K0 5
def aaE:ba:=
  (aW (aq l6 [(ar 0),(U (.int 1)),(U (.int 4)),(U (.str "a")),(U (.str "z"))]))
def pF:List T->Option T:=bE aaE 1
noncomputable def aaC:ba:=
  (aW (dr (aq dE [(ar 0),(U (.int 2)),(U (.int 2))]) (dr (aq pF [(ab ax (nm 0) (U (.int 0)))]) (ab (gw false) (ab ax (nm 0) (U (.int 1))) (U (.tuple (ki ["day","inner","once","way"])))))))
def sL:List T->Option T:=bE aaC 1
noncomputable def J':ba:=
  (seq (iff (cc (bD (aP (aq dE [(ar 0),(U (.int 1)),(U (.int 8))]))) (bD (aP (aq jm [(comp 1 [] (cz (ar 0)) (aX 0) (dd true) (aq sL [(ar 0)]))])))) (aW (U (.bool false))) skip) (aW (aq l8 [(comp 1 [] (cz (ar 0)) (aX 0) (dd true) (ab ax (nm 0) (U (.int 0))))])))
def vh:List T->Option T:=bE J' 1
def Y6:ba:=
  (aW (aq l6 [(ar 0),(U (.int 4)),(U (.int 4)),(U (.str "0")),(U (.str "9"))]))
def q6:List T->Option T:=bE Y6 1
noncomputable def Y7:ba:=
  (aW (dr (aq dE [(ar 0),(U (.int 0)),(U (.int 3))]) (dr (aq jm [(comp 1 [] (cz (ar 0)) (aX 0) (dd true) (ab (gw false) (nm 0) (U (.tuple (ki ["set","shunt","unset"])))))]) (aq l8 [(ar 0)]))))
def yp:List T->Option T:=bE Y7 1
def _r:ba:=
  (aW (dr (bN (dH "int") (nm 0)) (r9 (bN (dH "bool") (nm 0)))))
def sF:List T->Option T:=bE _r 1
def ZF:ba:=
  (aW (dr (aq sF [(ar 0)]) (chain oLe oLe (nm 1) (nm 0) (nm 2))))
def jh:List T->Option T:=bE ZF 3
noncomputable def K1:ba:=
  (seq (iff (bD (aP (aq dE [(ar 0),(U (.int 4)),(U (.int 4))]))) (aW (U (.bool false))) skip) (aW (dr (aq q6 [(ab ax (nm 0) (U (.int 0)))]) (dr (aq pF [(ab ax (nm 0) (U (.int 1)))]) (dr (aq yp [(ab ax (nm 0) (U (.int 2)))]) (aq jh [(ab ax (nm 0) (U (.int 3))),(U (.int 0)),(U (.int 9))]))))))
def sN:List T->Option T:=bE K1 1
noncomputable def Kb:ba:=
  (seq (iff (cc (bD (aP (aq dE [(ar 0),(U (.int 1)),(U (.int 6))]))) (bD (aP (aq jm [(comp 1 [] (cz (ar 0)) (aX 0) (dd true) (aq sN [(ar 0)]))])))) (aW (U (.bool false))) skip) (aW (aq l8 [(comp 1 [] (cz (ar 0)) (aX 0) (dd true) (ab ax (nm 0) (U (.int 0))))])))
def vj:List T->Option T:=bE Kb 1
noncomputable def Ka:ba:=
  (seq (iff (bD (aP (aq dE [(ar 0),(U (.int 3)),(U (.int 3))]))) (aW (U (.bool false))) skip) (aW (dr (aq jh [(ab ax (nm 0) (U (.int 0))),(U (.int 0)),(U (.int 60))]) (dr (aq jh [(ab ax (nm 0) (U (.int 1))),(U (.int 0)),(U (.int 60))]) (aq jh [(ab ax (nm 0) (U (.int 2))),(U (.int 1)),(U (.int 300))])))))
def vi:List T->Option T:=bE Ka 1
noncomputable def aaD:ba:=
  (aW (dr (aq dE [(ar 0),(U (.int 3)),(U (.int 3))]) (dr (aq vh [(ab ax (nm 0) (U (.int 0)))]) (dr (aq vj [(ab ax (nm 0) (U (.int 1)))]) (aq vi [(ab ax (nm 0) (U (.int 2)))])))))
def sM:List T->Option T:=bE aaD 1
noncomputable def JR:ba:=
  (seq (iff (cc (bD (aP (aq dE [(ar 1),(U (.int 3)),(U (.int 3))]))) (bD (aP (aq jh [(ab ax (nm 1) (U (.int 1))),(U (.int 1)),(ar 0)])))) (aW (U (.bool false))) skip) (aW (dr (aq jh [(ab ax (nm 1) (U (.int 0))),(U (.int 0)),(ab jB (ab ax (nm 1) (U (.int 1))) (U (.int 1)))]) (ph (bN hD (ab ax (nm 1) (U (.int 2)))) (aq pF [(ab ax (nm 1) (U (.int 2)))])))))
def ve:List T->Option T:=bE JR 2
noncomputable def Kp:ba:=
  (seq (iff (cc (bD (aP (aq dE [(ar 0),(U (.int 2)),(U (.int 2))]))) (cc (bD (aP (aq jh [(ab ax (nm 0) (U (.int 0))),(U (.int 1)),(U (.int 7))]))) (bD (aP (aq dE [(ab ax (nm 0) (U (.int 1))),(U (.int 0)),(U (.int 10))]))))) (aW (U (.bool false))) skip) (aW (aq jm [(comp 1 [0] (cz (ab ax (nm 0) (U (.int 1)))) (aX 0) (dd true) (aq ve [(ab ax (nm 1) (U (.int 0))),(ar 0)]))])))
def pD:List T->Option T:=bE Kp 1
def _u:ba:=
  (aW (ab (gw false) (nm 1) (comp 1 [] (cz (ab ax (nm 0) (U (.int 0)))) (aX 0) (dd true) (ab ax (nm 0) (U (.int 0))))))
def sH:List T->Option T:=bE _u 2
noncomputable def Yl:ba:=
  (aW (dr (aq dE [(ar 1),(U (.int 3)),(U (.int 3))]) (dr (ab oEq (ab ax (nm 1) (U (.int 0))) (U (.str "line"))) (dr (aq sH [(ar 0),(ab ax (nm 1) (U (.int 1)))]) (ab (gw false) (ab ax (nm 1) (U (.int 2))) (U (.tuple (ki ["shut","open","cut"]))))))))
def yi:List T->Option T:=bE Yl 2
noncomputable def JH:ba:=
  (seq (iff (cc (bD (aP (aq dE [(ar 1),(U (.int 4)),(U (.int 4))]))) (cc (aP (ab eC (ab ax (nm 1) (U (.int 0))) (U (.str "code")))) (bD (aP (aq q6 [(ab ax (nm 1) (U (.int 1)))]))))) (aW (U (.bool false))) skip) (seq (iff (aP (ab (gw false) (ab ax (nm 1) (U (.int 2))) (U (.tuple (ki ["set","unset"]))))) (aW (bN hD (ab ax (nm 1) (U (.int 3))))) skip) (aW (dr (ab (gw false) (ab ax (nm 1) (U (.int 2))) (U (.tuple (ki ["shunt","free"])))) (aq sH [(ar 0),(ab ax (nm 1) (U (.int 3)))])))))
def u':List T->Option T:=bE JH 2
noncomputable def Yi:ba:=
  (aW (dr (aq dE [(ar 0),(U (.int 2)),(U (.int 2))]) (dr (ab oEq (ab ax (nm 0) (U (.int 0))) (U (.str "ticks"))) (dr (aq sF [(ab ax (nm 0) (U (.int 1)))]) (ab mQ (ab ax (nm 0) (U (.int 1))) (U (.int 1)))))))
def yf:List T->Option T:=bE Yi 1
def _t:ba:=
  (aW (ph (aq yi [(ar 0),(ar 1)]) (ph (aq u' [(ar 0),(ar 1)]) (aq yf [(ar 1)]))))
def sG:List T->Option T:=bE _t 2
noncomputable def J9:ba:=
  (seq (iff (bD (aP (aq l6 [(ar 0),(U (.int 1)),(aq de [(nm 0)]),(U (.str "0")),(U (.str "9"))]))) (aW (U .none)) skip) (seq (asg 1 (U (.int 0))) (seq (c1 (cz (ar 0)) (aX 2) (asg 1 (ab jB (ab bb (ab cZ (nm 1) (U (.int 10))) (aq qF [(nm 2)])) (aq qF [(U (.str "0"))])))) (aW (nm 1)))))
def J6:List T->Option T:=bE J9 3
end dq
end
section
namespace kq
open D b1 dq
noncomputable def _n(rec:List T->Option T):ba:=
  (seq (iff (e6 (aP (ab fU (nm 2) (U (.int 0)))) (e6 (aP (bN (dH "tuple") (nm 0))) (e6 (aP (ab fU (aq de [(nm 0)]) (U (.int 0)))) (aP (ab fU (ab oMod (nm 1) (U (.int 6))) (U (.int 0))))))) (seq (asg 3 (ab oMod (ab oDiv (nm 1) (U (.int 6))) (aq de [(nm 0)]))) (seq (asg 4 (aq rec [(ab ax (nm 0) (nm 3)),(ab oDiv (aq f3 [(ar 1),(ar 2)]) (U (.int 4))),(ab jB (nm 2) (U (.int 1)))])) (aW (ab bb (ab bb (et (nm 0) optN (opt (nm 3))) (aJ [(ar 4)])) (et (nm 0) (opt (ab bb (nm 3) (U (.int 1)))) optN))))) skip) (seq (iff (e6 (aP (bN (dH "tuple") (nm 0))) (e6 (aP (ab fU (aq de [(nm 0)]) (U (.int 0)))) (aP (ab oEq (ab oMod (ab oDiv (nm 1) (U (.int 6))) (U (.int 2))) (U (.int 0)))))) (aW (ab ax (da [(aq iL [(nm 0)]),(et (nm 0) optN (opt (bN kM (U (.int 1))))),(ab bb (nm 0) (et (nm 0) (opt (bN kM (U (.int 1)))) optN)),(et (nm 0) (opt (U (.int 1))) optN),(bN Mw (nm 0)),(aJ [])]) (ab oMod (ab oDiv (nm 1) (U (.int 12))) (U (.int 6))))) skip) (seq (iff (e6 (aP (bN (dH "str") (nm 0))) (aP (ab oEq (ab oMod (ab oDiv (nm 1) (U (.int 6))) (U (.int 2))) (U (.int 0))))) (aW (ab ax (da [(ab bb (nm 0) (U (.str "a"))),(et (nm 0) (opt (U (.int 1))) optN),(ab bb (nm 0) (U (.str "1"))),(bN ac7 (nm 0)),(ab ac8 (nm 0) (U (.int 2))),(bN Mw (nm 0))]) (ab oMod (ab oDiv (nm 1) (U (.int 12))) (U (.int 6))))) skip) (seq (iff (e6 (aP (bN (dH "int") (nm 0))) (aP (ab oEq (ab oMod (ab oDiv (nm 1) (U (.int 6))) (U (.int 2))) (U (.int 0))))) (aW (ab ax (da [(aq I4 [(nm 0)]),(ab jB (U (.int 0)) (nm 0)),(ab bb (nm 0) (U (.int 1))),(ab oEq (nm 0) (U (.int 1))),(ab jB (nm 0) (U (.int 1))),(ab bb (nm 0) (U (.int 60)))]) (ab oMod (ab oDiv (nm 1) (U (.int 12))) (U (.int 6))))) skip) (seq (asg 5 (da [(U .none),(U (.bool true)),(U (.bool false)),(U (.int 0)),(U (.int 1)),(U (.int 7)),(U (.int 8)),(U (.int 60)),(U (.int 61)),(U (.int 301)),(bN kM (U (.int 1))),(U (.str "")),(U (.str "a")),(U (.str "set")),(U (.str "open")),(U (.str "1234")),(U (.str "way")),(aJ []),(da []),(aJ [(U (.str "a")),(U (.str "way"))])])) (aW (ab ax (nm 5) (ab oMod (ab oDiv (nm 1) (U (.int 6))) (U (.int 20))))))))))
def yE:Nat->List T->Option T
|0=>λ_=>none
|n+1=>bE (_n (yE n)) 6
noncomputable def FH:ba:=
  (seq (asg 1 (ab oMod (nm 0) (U (.int 3)))) (seq (asg 2 (aq hI [(comp 1 [] (iI (ab bb (U (.int 7)) (nm 1))) (aX 0) (dd true) (aJ [(ab ax (U (.str "abcdefghij")) (nm 0)),(U (.str "way"))]))])) (seq (asg 3 (aq hI [(comp 1 [] (iI (ab bb (U (.int 5)) (nm 1))) (aX 0) (dd true) (aJ [(aq I4 [(ab bb (U (.int 1000)) (nm 0))]),(U (.str "x")),(aJ []),(U (.int 0))]))])) (seq (asg 4 (aJ [(aJ [(U (.str "a")),(ab ax (aJ [(U (.str "day")),(U (.str "inner")),(U (.str "once")),(U (.str "way"))]) (ab oMod (ab oDiv (nm 0) (U (.int 4))) (U (.int 4))))])])) (seq (iU 5 (da [(aJ [(ar 2),(et (nm 3) optN (opt (U (.int 1)))),(aJ [(U (.int 0)),(U (.int 0)),(U (.int 1))])]),(aJ [(ar 4),(ar 3),(aJ [(U (.int 0)),(U (.int 0)),(U (.int 1))])]),(aJ [(ar 4),(et (nm 3) optN (opt (U (.int 1)))),(aJ [(ab bb (U (.int 59)) (nm 1)),(U (.int 0)),(U (.int 1))])])])) (seq (iU 5 (ab bb (nm 5) (da [(aJ [(ar 4),(et (nm 3) optN (opt (U (.int 1)))),(aJ [(U (.int 0)),(ab bb (U (.int 59)) (nm 1)),(U (.int 1))])]),(aJ [(ar 4),(et (nm 3) optN (opt (U (.int 1)))),(aJ [(U (.int 0)),(U (.int 0)),(ab bb (U (.int 299)) (nm 1))])])]))) (seq (app 5 (aJ [(ar 4),(et (nm 3) optN (opt (U (.int 1)))),(aJ [(U (.int 0)),(U (.int 0)),(ar 1)])])) (seq (app 5 (aJ [(ar 4),(aJ [(aJ [(U (.str "1234")),(U (.str "who")),(et (aJ [(U (.str "set")),(U (.str "shunt")),(U (.str "unset"))]) (opt (nm 1)) optN),(ab bb (U (.int 8)) (nm 1))])]),(aJ [(U (.int 0)),(U (.int 0)),(U (.int 1))])])) (seq (asg 6 (da [(aJ [(U (.str "set")),(U (.str "set"))]),(aJ [(U (.str "unset")),(U (.str "set"))]),(aJ [(U (.str "set")),(U (.str "unset"))]),(aJ [(U (.str "free"))]),(da [(U (.str "set"))]),(U (.str "set")),(aJ [(U (.int 5))]),(U .none)])) (seq (asg 6 (ab ax (nm 6) (ab oMod (ab oDiv (nm 0) (U (.int 64))) (U (.int 8))))) (seq (app 5 (aJ [(ar 4),(aJ [(aJ [(U (.str "1234")),(U (.str "who")),(ar 6),(U (.int 0))])]),(aJ [(U (.int 0)),(U (.int 0)),(U (.int 1))])])) (seq (app 5 (aJ [(aJ [(aJ [(ab bb (et (U (.str "abcd")) optN (opt (ab bb (U (.int 2)) (nm 1)))) (U (.str "e"))),(U (.str "way"))])]),(et (nm 3) optN (opt (U (.int 1)))),(aJ [(U (.int 0)),(U (.int 0)),(U (.int 1))])])) (aW (ab bb (nm 5) (da [(aJ [(aJ []),(et (nm 3) optN (opt (U (.int 1)))),(aJ [(U (.int 0)),(U (.int 0)),(U (.int 1))])]),(aJ [(ar 4),(aJ []),(aJ [(U (.int 0)),(U (.int 0)),(U (.int 1))])])])))))))))))))))
def Fw:List T->Option T:=bE FH 7
def _q:ba:=
  (aW (dr (bN (dH "int") (nm 0)) (dr (r9 (bN (dH "bool") (nm 0))) (chain oLe oLe (nm 1) (nm 0) (nm 2)))))
def gB:List T->Option T:=bE _q 3
def aaz:ba:=
  (aW (dr (bN (dH "tuple") (nm 0)) (ab oEq (aq de [(nm 0)]) (nm 1))))
def jM:List T->Option T:=bE aaz 2
def _o:ba:=
  (aW (dr (bN (dH "str") (nm 0)) (ab (gw false) (nm 0) (nm 1))))
def iE:List T->Option T:=bE _o 2
noncomputable def Lq:ba:=
  (seq (iff (cc (bD (aP (bN (dH "str") (nm 0)))) (bD (aP (chain oLe oLe (U (.int 1)) (aq de [(nm 0)]) (U (.int 4)))))) (aW (U (.bool false))) skip) (aW (ab oEq (comp 1 [] (cz (ar 0)) (aX 0) (bD (aP (chain oLe oLe (U (.str "a")) (nm 0) (U (.str "z"))))) (ar 0)) (da []))))
def ke:List T->Option T:=bE Lq 1
noncomputable def ZE:ba:=
  (aW (dr (bN (dH "str") (nm 0)) (dr (ab oEq (aq de [(nm 0)]) (U (.int 4))) (ab oEq (comp 1 [] (cz (ar 0)) (aX 0) (bD (aP (chain oLe oLe (U (.str "0")) (nm 0) (U (.str "9"))))) (ar 0)) (da [])))))
def q8:List T->Option T:=bE ZE 1
noncomputable def J_:ba:=
  (seq (iff (cc (bD (aP (aq jM [(ar 0),(U (.int 3))]))) (cc (bD (aP (bN (dH "tuple") (ab ax (nm 0) (U (.int 0)))))) (bD (aP (chain oLe oLe (U (.int 1)) (aq de [(ab ax (nm 0) (U (.int 0)))]) (U (.int 8))))))) (aW (U (.bool false))) skip) (seq (iff (cc (bD (aP (bN (dH "tuple") (ab ax (nm 0) (U (.int 1)))))) (cc (bD (aP (chain oLe oLe (U (.int 1)) (aq de [(ab ax (nm 0) (U (.int 1)))]) (U (.int 6))))) (bD (aP (aq jM [(ab ax (nm 0) (U (.int 2))),(U (.int 3))]))))) (aW (U (.bool false))) skip) (seq (c1 (cz (ab ax (nm 0) (U (.int 0)))) (aX 1) (seq (iff (cc (bD (aP (aq jM [(ar 1),(U (.int 2))]))) (bD (aP (aq ke [(ab ax (nm 1) (U (.int 0)))])))) (aW (U (.bool false))) skip) (iff (bD (aP (aq iE [(ab ax (nm 1) (U (.int 1))),(aJ [(U (.str "day")),(U (.str "inner")),(U (.str "once")),(U (.str "way"))])]))) (aW (U (.bool false))) skip))) (seq (c1 (cz (ab ax (nm 0) (U (.int 1)))) (aX 2) (seq (iff (cc (bD (aP (aq jM [(ar 2),(U (.int 4))]))) (cc (bD (aP (aq q8 [(ab ax (nm 2) (U (.int 0)))]))) (bD (aP (aq ke [(ab ax (nm 2) (U (.int 1)))]))))) (aW (U (.bool false))) skip) (seq (iff (cc (bD (aP (bN (dH "tuple") (ab ax (nm 2) (U (.int 2)))))) (bD (aP (aq gB [(ab ax (nm 2) (U (.int 3))),(U (.int 0)),(U (.int 9))])))) (aW (U (.bool false))) skip) (seq (iff (aP (ab eC (comp 1 [] (cz (ab ax (nm 2) (U (.int 2)))) (aX 0) (bD (aP (aq iE [(ar 0),(aJ [(U (.str "set")),(U (.str "shunt")),(U (.str "unset"))])]))) (ar 0)) (da []))) (aW (U (.bool false))) skip) (iff (aP (ab eC (aq iL [(ab ax (nm 2) (U (.int 2)))]) (aq m6 [(ab ax (nm 2) (U (.int 2)))]))) (aW (U (.bool false))) skip))))) (seq (c1 (cz (aJ [(comp 1 [] (cz (ab ax (nm 0) (U (.int 0)))) (aX 0) (dd true) (ab ax (nm 0) (U (.int 0)))),(comp 1 [] (cz (ab ax (nm 0) (U (.int 1)))) (aX 0) (dd true) (ab ax (nm 0) (U (.int 0))))])) (aX 3) (iff (aP (ab eC (nm 3) (aq m6 [(nm 3)]))) (aW (U (.bool false))) skip)) (seq (hV (dg [(aX 4),(aX 5),(aX 6)]) (ab ax (nm 0) (U (.int 2)))) (aW (dr (aq gB [(ar 4),(U (.int 0)),(U (.int 60))]) (dr (aq gB [(ar 5),(U (.int 0)),(U (.int 60))]) (aq gB [(ar 6),(U (.int 1)),(U (.int 300))]))))))))))
def ov:List T->Option T:=bE J_ 7
noncomputable def JQ:ba:=
  (seq (asg 2 (comp 1 [] (cz (ab ax (nm 0) (U (.int 0)))) (aX 0) (dd true) (ab ax (nm 0) (U (.int 0))))) (seq (iff (cc (bD (aP (bN (dH "tuple") (nm 1)))) (cc (aP (ab oEq (nm 1) (aJ []))) (bD (aP (bN (dH "str") (ab ax (nm 1) (U (.int 0)))))))) (aW (U (.bool false))) skip) (seq (iff (aP (ab oEq (ab ax (nm 1) (U (.int 0))) (U (.str "line")))) (aW (dr (ab oEq (aq de [(nm 1)]) (U (.int 3))) (dr (aq iE [(ab ax (nm 1) (U (.int 1))),(ar 2)]) (aq iE [(ab ax (nm 1) (U (.int 2))),(aJ [(U (.str "shut")),(U (.str "open")),(U (.str "cut"))])])))) skip) (seq (iff (aP (ab oEq (ab ax (nm 1) (U (.int 0))) (U (.str "ticks")))) (aW (dr (ab oEq (aq de [(nm 1)]) (U (.int 2))) (aq gB [(ab ax (nm 1) (U (.int 1))),(U (.int 1)),(ab wc (U (.int 10)) (U (.int 30)))]))) skip) (seq (iff (cc (aP (ab eC (ab ax (nm 1) (U (.int 0))) (U (.str "code")))) (cc (aP (ab eC (aq de [(nm 1)]) (U (.int 4)))) (bD (aP (aq q8 [(ab ax (nm 1) (U (.int 1)))]))))) (aW (U (.bool false))) skip) (seq (iff (aP (aq iE [(ab ax (nm 1) (U (.int 2))),(aJ [(U (.str "set")),(U (.str "unset"))])])) (aW (bN hD (ab ax (nm 1) (U (.int 3))))) skip) (aW (dr (aq iE [(ab ax (nm 1) (U (.int 2))),(aJ [(U (.str "shunt")),(U (.str "free"))])]) (aq iE [(ab ax (nm 1) (U (.int 3))),(ar 2)])))))))))
def ou:List T->Option T:=bE JQ 3
noncomputable def tu:ba:=
  (seq (asg 1 (aq fw [(ar 0),(U (.int 0))])) (seq (asg 2 (aq sR [(aq fw [(ar 0),(U (.int 1))])])) (seq (asg 3 (aq q' [(ar 2),(aq fw [(ar 0),(U (.int 2))])])) (seq (iff (cc (aP (ab rg (aq sM [(ar 2)]) (U (.bool true)))) (aP (ab rg (aq sG [(ar 2),(ar 3)]) (U (.bool true))))) (aW (U (.bool false))) skip) (seq (asg 4 (ar 2)) (seq (iff (aP (ab fU (ab oMod (nm 1) (U (.int 3))) (U (.int 0)))) (seq (asg 4 (aq (yE 20) [(ar 4),(aq fw [(ar 0),(U (.int 3))]),(ab oMod (ab oDiv (nm 1) (U (.int 4))) (U (.int 5)))])) (asg 3 (aq (yE 20) [(ar 3),(aq fw [(ar 0),(U (.int 4))]),(ab oMod (ab oDiv (nm 1) (U (.int 32))) (U (.int 2)))]))) skip) (seq (c1 (cz (ab bb (aq Fw [(aq fw [(ar 0),(U (.int 5))])]) (da [(ar 4),(ar 3)]))) (aX 5) (seq (asg 6 (aq sM [(ar 5)])) (iff (cc (bD (aP (bN (dH "bool") (nm 6)))) (aP (ab eC (nm 6) (aq ov [(ar 5)])))) (aW (U (.bool false))) skip))) (seq (asg 7 (da [(aJ [(U (.str "ticks")),(ab oMod (ab oDiv (nm 1) (U (.int 64))) (U (.int 3)))]),(aJ [(U (.str "ticks")),(U (.bool true))]),(aJ [(U (.str "line")),(U (.str "zzzz")),(U (.str "open"))])])) (seq (c1 (cz (ab bb (nm 7) (da [(ar 3),(aJ [(U (.str "code")),(U (.str "1234")),(U (.str "set")),(U (.str "a"))])]))) (aX 5) (seq (asg 6 (aq sG [(ar 2),(ar 5)])) (iff (cc (bD (aP (bN (dH "bool") (nm 6)))) (aP (ab eC (nm 6) (aq ou [(ar 2),(ar 5)])))) (aW (U (.bool false))) skip))) (aW (U (.bool true))))))))))))
def pR:List T->Option T:=bE tu 8
end kq
end
section
namespace k7
open D b1 dq kq
noncomputable def vp:ba:=
  (aW (aq hI [(aq m5 [(comp 1 [] (dT (ab ax (nm 0) (U (.int 1)))) (aX 0) (aP (bN fO (ab ax (nm 0) (U (.int 2))))) (ab ax (nm 0) (U (.int 2))))])]))
def yD:List T->Option T:=bE vp 1
noncomputable def FH:ba:=
  (seq (asg 1 (ab oMod (nm 0) (U (.int 3)))) (seq (asg 2 (da [(aJ [(ab bb (U (.int 6)) (nm 1)),(aJ [])]),(aJ [(ar 1),(aJ [])]),(aJ [(U (.int 3)),(ab Tv (aJ [(aJ [(U (.int 0)),(U (.int 1)),(U .none)])]) (ab bb (U (.int 9)) (nm 1)))]),(aJ [(U (.int 3)),(aJ [(aJ [(U (.int 0)),(ab bb (U (.int 2)) (nm 1)),(U (.str "a"))])])])])) (aW (ab bb (nm 2) (da [(aJ [(U (.int 3)),(aJ [(aJ [(ab jB (nm 1) (U (.int 1))),(U (.int 2)),(U (.str "a"))])])]),(aJ [(U (.int 3)),(aJ [(aJ [(U (.int 1)),(ar 1),(U .none)])])]),(aJ [(U (.int 3)),(aJ [(aJ [(U (.int 0)),(U (.int 1)),(ab bb (et (U (.str "abcd")) optN (opt (ab bb (U (.int 3)) (ab oMod (nm 1) (U (.int 2)))))) (U (.str "e")))])])])])))))
def Fw:List T->Option T:=bE FH 3
noncomputable def abw:ba:=
  (seq (c1 (dT (ab ax (nm 0) (U (.int 1)))) (aX 2) (iff (aP (ab oEq (ab ax (nm 2) (U (.int 0))) (nm 1))) (aW (ab ax (nm 2) (U (.int 1)))) skip)) (aW (U .none)))
def Ll:List T->Option T:=bE abw 3
noncomputable def JP:ba:=
  (seq (iff (cc (bD (aP (aq jM [(ar 0),(U (.int 2))]))) (bD (aP (aq gB [(ab ax (nm 0) (U (.int 0))),(U (.int 1)),(U (.int 7))])))) (aW (U (.bool false))) skip) (seq (iff (cc (bD (aP (bN (dH "tuple") (ab ax (nm 0) (U (.int 1)))))) (aP (ab fU (aq de [(ab ax (nm 0) (U (.int 1)))]) (U (.int 10))))) (aW (U (.bool false))) skip) (seq (c1 (cz (ab ax (nm 0) (U (.int 1)))) (aX 1) (seq (iff (cc (bD (aP (aq jM [(ar 1),(U (.int 3))]))) (cc (bD (aP (aq gB [(ab ax (nm 1) (U (.int 0))),(U (.int 0)),(ab ax (nm 0) (U (.int 0)))]))) (bD (aP (aq gB [(ab ax (nm 1) (U (.int 1))),(U (.int 0)),(ab ax (nm 0) (U (.int 0)))]))))) (aW (U (.bool false))) skip) (iff (cc (aP (ab mQ (ab ax (nm 1) (U (.int 0))) (ab ax (nm 1) (U (.int 1))))) (e6 (aP (bN fO (ab ax (nm 1) (U (.int 2))))) (bD (aP (aq ke [(ab ax (nm 1) (U (.int 2)))]))))) (aW (U (.bool false))) skip))) (aW (U (.bool true))))))
def mz:List T->Option T:=bE JP 2
noncomputable def ZX:pX:=
  (Wg (c1 (dT (ab ax (nm 0) (U (.int 0)))) (aX 2) (iff (aP (ab oEq (ab ax (nm 2) (U (.int 0))) (nm 1))) (aW (ab ax (nm 2) (U (.int 1)))) skip)) (I6 (bN (adR "no zone is called ") (nm 1))))
def _M:List bW->Bool:=V8 ZX 3
noncomputable def tu:ba:=
  (seq (asg 1 (aq fw [(ar 0),(U (.int 0))])) (seq (asg 2 (aq my [(aq fw [(ar 0),(U (.int 1))])])) (seq (asg 3 (aq sR [(aq fw [(ar 0),(U (.int 2))])])) (seq (iff (aP (ab rg (aq pD [(ar 2)]) (U (.bool true)))) (aW (U (.bool false))) skip) (seq (asg 4 (comp 1 [] (cz (ab ax (nm 2) (U (.int 1)))) (aX 0) (aP (bN fO (ab ax (nm 0) (U (.int 2))))) (ab ax (nm 0) (U (.int 2))))) (seq (iff (aP (ab eC (aq yD [(ar 2)]) (aq hI [(aq m6 [(nm 4)])]))) (aW (U (.bool false))) skip) (seq (c1 (cz (ab ax (nm 3) (U (.int 0)))) (dg [(aX 5),(aX 6)]) (iff (aP (ab eC (aq KQ [(ar 3),(ar 5)]) (nm 6))) (aW (U (.bool false))) skip)) (seq (c1 (cz (ab ax (nm 3) (U (.int 1)))) (dg [(aX 7),(aX 8),(aX 9),(aX 10)]) (iff (aP (ab eC (aq Ll [(ar 3),(ar 7)]) (nm 8))) (aW (U (.bool false))) skip)) (seq (iff (cc (aP (ab eC (adv (aq KQ [(ar 3),(U (.str "zzzz"))]) (ad3 _M [.v (ar 3),.v (U (.str "zzzz"))]) 0) (aJ [(U (.str "refused")),(U (.int 0))]))) (aP (bN fO (aq Ll [(ar 3),(U (.str "5555"))])))) (aW (U (.bool false))) skip) (seq (asg 11 (aJ [(U (.str "off")),(U (.int 0)),(U .none),(ab My (aJ [(U (.str "shut"))]) (aq de [(ab ax (nm 3) (U (.int 0)))])),(aJ []),(U (.int 0)),(aJ []),(U (.int 0)),(U (.int 0)),(ab My (aJ [(U (.int 0))]) (aq de [(ab ax (nm 3) (U (.int 1)))]))])) (seq (iff (aP (ab eC (aq Mx [(aq acb [(ar 3)])]) (aq Mx [(nm 11)]))) (aW (U (.bool false))) skip) (seq (asg 12 (ar 2)) (seq (iff (aP (ab fU (ab oMod (nm 1) (U (.int 3))) (U (.int 0)))) (asg 12 (aq (yE 20) [(ar 12),(aq fw [(ar 0),(U (.int 3))]),(ab oMod (ab oDiv (nm 1) (U (.int 4))) (U (.int 4)))])) skip) (seq (c1 (cz (ab bb (aq Fw [(aq fw [(ar 0),(U (.int 4))])]) (da [(ar 12)]))) (aX 13) (seq (asg 14 (aq pD [(ar 13)])) (iff (cc (bD (aP (bN (dH "bool") (nm 14)))) (aP (ab eC (nm 14) (aq mz [(ar 13)])))) (aW (U (.bool false))) skip))) (aW (U (.bool true)))))))))))))))))
def pR:List T->Option T:=bE tu 15
end k7
end
section
namespace nt
open D b1 dq kq k7
noncomputable def KY:ba:=
  (seq (iff (aP (ab oEq (nm 0) (U (.int 0)))) (aW (aq sM [(ar 2)])) skip) (seq (iff (aP (ab oEq (nm 0) (U (.int 1)))) (aW (aq pD [(ar 2)])) skip) (aW (aq sG [(ar 1),(ar 2)]))))
def pE:List T->Option T:=bE KY 3
noncomputable def yk(rec:List T->Option T):ba:=
  (seq (asg 2 (da [(ar 1)])) (seq (iff (aP (bN (dH "tuple") (nm 0))) (c1 (fM (hN (ar 0))) (dg [(aX 3),(aX 4)]) (asg 2 (ab bb (nm 2) (aq rec [(ar 4),(ab bb (nm 1) (aJ [(ar 3)]))])))) skip) (aW (nm 2))))
def l4:Nat->List T->Option T
|0=>λ_=>none
|n+1=>bE (yk (l4 n)) 5
noncomputable def E0:ba:=
  (seq (iff (aP (bN (dH "tuple") (nm 0))) (aW (ab ax (da [(aq iL [(nm 0)]),(aq iL [(nm 0)]),(ab bb (nm 0) (aJ [(U (.int 0))])),(et (nm 0) (opt (U (.int 1))) optN)]) (ab oMod (nm 1) (U (.int 4))))) skip) (seq (iff (aP (bN (dH "int") (nm 0))) (aW (ab ax (da [(ab bb (nm 0) (U (.int 400))),(bN kM (U (.int 1))),(U (.bool true)),(aJ [(ar 0)])]) (ab oMod (nm 1) (U (.int 4))))) skip) (aW (ab ax (da [(U (.str "")),(U .none),(aJ [(ar 0)]),(U (.str "zzzzz"))]) (ab oMod (nm 1) (U (.int 4)))))))
def vb:List T->Option T:=bE E0 2
def aaA:ba:=
  (aW (ab ax (aJ [(aq ov [(ar 2)]),(aq mz [(ar 2)]),(aq ou [(ar 1),(ar 2)])]) (nm 0)))
def sJ:List T->Option T:=bE aaA 3
noncomputable def tu:ba:=
  (seq (asg 1 (aq fw [(ar 0),(U (.int 0))])) (seq (asg 2 (aq sR [(aq fw [(ar 0),(U (.int 1))])])) (seq (asg 3 (aJ [(ar 2),(aq my [(aq fw [(ar 0),(U (.int 2))])]),(aq q' [(ar 2),(aq fw [(ar 0),(U (.int 3))])])])) (seq (c1 (fM (hN (ar 3))) (dg [(aX 4),(aX 5)]) (seq (iff (aP (ab rg (aq pE [(ar 4),(ar 2),(ar 5)]) (U (.bool true)))) (aW (U (.bool false))) skip) (c1 (fM (dT (aq (l4 20) [(ar 5),(aJ [])]))) (dg [(aX 6),(aX 7)]) (seq (asg 8 (xA 10 (ar 5) (ar 7) (aq vb [(ar 0),(ab oDiv (aq f3 [(ar 2),(ar 7)]) (U (.int 4)))]))) (seq (asg 9 (aq pE [(ar 4),(ar 2),(ar 8)])) (iff (cc (bD (aP (bN (dH "bool") (nm 9)))) (aP (ab eC (nm 9) (aq sJ [(ar 4),(ar 2),(ar 8)])))) (aW (U (.bool false))) skip)))))) (aW (U (.bool true)))))))
def pR:List T->Option T:=bE tu 10
end nt
end
section
namespace nt
open PySem PySem.Spec PyProof.Rows bu D b1 dq kq k7
variable [bX]
def top(i:Nat):Stmt:=PySem.Challenge.pw_doorwatch_k03_lists_anywhere.main.body.getD i (.Pass ⟨0,0,0,0⟩)
section
variable {P:cH}{w:bY}{K:bc}{mg:Str->Option aj}{base:bk}{k:Nat}{f:ai}{fd:e1}
def XW{α:Type}{us:List α}(h:us.length=1):∃a,us=[a]:=match us,h with|[a],_=>⟨_,rfl⟩
def XX{α:Type}{us:List α}(h:us.length=2):∃a b,us=[a,b]:=match us,h with|[a,b],_=>⟨_,_,rfl⟩
def XY{α:Type}{us:List α}(h:us.length=3):∃a b c,us=[a,b,c]:=match us,h with|[a,b,c],_=>⟨_,_,_,rfl⟩
def XZ{α:Type}{us:List α}(h:us.length=5):∃a b c d e,us=[a,b,c,d,e]:=match us,h with|[a,b,c,d,e],_=>⟨_,_,_,_,_,rfl⟩
set_option hygiene false in
local macro_rules | `(unop% bK $F) => `(cO.binds $F λ_ _ _ _ _ _ us aF => by obtain ⟨_, rfl⟩ := XW aF; rfl)
set_option hygiene false in
local macro_rules | `(unop% cq $F) => `(cO.binds $F λ_ _ _ _ _ _ us aF => by obtain ⟨_, _, rfl⟩ := XX aF; rfl)
set_option hygiene false in
local macro_rules | `(unop% gY $F) => `(cO.binds $F λ_ _ _ _ _ _ us aF => by obtain ⟨_, _, _, rfl⟩ := XY aF; rfl)
set_option hygiene false in
local macro_rules | `(unop% nG $F) => `(cO.binds $F λ_ _ _ _ _ _ us aF => by obtain ⟨_, _, _, _, _, rfl⟩ := XZ aF; rfl)
local macro_rules | `(unop% dK 0) => `(⟨rfl, rfl, rfl, by decide +kernel, rfl, by decide +kernel, by decide +kernel⟩)
set_option hygiene false in
local macro_rules | `(unop% lm $t) => `(λcy A outer s H E aw => $t)
local macro_rules | `(unop% df $t) => `(λ_ _ _ _ _ _ => $t)
local macro_rules | `(unop% bF $l) => `(show List.Nodup ($l : List Str) by decide +kernel)
local macro_rules | `(binop% co $s $l) => `(ads (sc := bJ $s) $l rfl rfl rfl (by decide +kernel))
set_option hygiene false in
local macro_rules | `(binop% nM $a $b) => `(kh (L4 (by exact aw.units)) L6 $a $b)
set_option hygiene false in
local macro_rules | `(binop% oW $a $b) => `(oJ (L4 (by exact aw.units)) L6 $a $b)
set_option hygiene false in
local macro_rules | `(binop% qC $a $b) => `(kh (ac1 (by exact aw.units)) ac5 $a $b)
abbrev yq:Stmt:=top 31
def YF:c4 ["_law_script","_law_k"] ["_law_script","_law_k"] (bJ yq):=unop%dK 0
def E7(F:cO K "_law_cell_at" "_law_cell_at" yq f fd)(m:mg "_law_cell_at"=some (.ref f))(d4:mg "len"=none):Cl P w K mg base "_law_cell_at" (k+1) 2 kc:=
 dY F YF (unop%cq F) m unop%lm
  (cC (dW (kh (wa.or vr) vM (aH 1) (ak (jR (by exact d4) (eV (aH 0) fg)))) (bR (b5 (bo (aH 0) (aH 1)))) dZ) (bR (b5 aB)))
abbrev yK:Stmt:=top 32
def Kd:c4 ["_law_script","_law_k","_law_drawn_here"] ["_law_script","_law_k"] (bJ yK):=unop%dK 0
def sO(F:cO K "_law_mixed" "_law_mixed" yK f fd)(m:mg "_law_mixed"=some (.ref f))(E7:Cl P w K mg base "_law_cell_at" k 2 kc):Cl P w K mg base "_law_mixed" (k+1) 2 fw:=
 dY F Kd (unop%cq F) m unop%lm
  (cC (fh 2 Kd.bF (ew (ak (pP (ak (fN (ak (fN (ak (bO E7 aw (ay (bp 0) (ay (bp 1) a9)))) (ak (pP (ak aB) (aH 1))))) (ak aB))) (ak aB))) (ak aB))) (bR (b5 (ew (ak (fN (ak (fN (ak (pP (aH 2) (aH 2))) (ak (pP (ak aB) (aH 2))))) (aH 1))) (ak aB)))))
abbrev yO:Stmt:=top 33
def Ke:c4 ["_law_number_here","_law_k","_law_drawn_here"] ["_law_number_here","_law_k"] (bJ yO):=unop%dK 0
def oA(F:cO K "_law_drawn" "_law_drawn" yO f fd)(m:mg "_law_drawn"=some (.ref f)) :Cl P w K mg base "_law_drawn" (k+1) 2 f3:=
 dY F Ke (unop%cq F) m unop%lm
  (cC (fh 2 Ke.bF (ew (ak (pP (ak (fN (ak (fN (aH 0) (ak (pP (ak aB) (aH 1))))) (ak aB))) (ak aB))) (ak aB))) (bR (b5 (ew (ak (fN (ak (fN (ak (pP (aH 2) (aH 2))) (ak (pP (ak aB) (aH 2))))) (aH 1))) (ak aB)))))
abbrev vx:Stmt:=top 34
def ji:c4 ["_law_number_here","_law_zones","_law_k","_law_name","_law_drawn_here","_law_codes","_law_figures_here","_law_rights","_law_who","_law_times"] ["_law_number_here"] (bJ vx):=unop%dK 0
def FP(F:cO K "_law_plan" "_law_plan" vx f fd)(m:mg "_law_plan"=some (.ref f))(hO:mg "enumerate"=none)(oA:Cl P w K mg base "_law_drawn" k 2 f3)(ey:mg "tuple"=none)(m_:mg "range"=none):Cl P w K mg base "_law_plan" (k+1) 1 sR:=
 dY F ji (unop%bK F) m unop%lm
  (cC (fh 1 ji.bF (dy a9)) (cC (oI mZ (zd hO (dy (ay bV (ay bV (ay bV (ay bV (ay bV (ay bV (ay bV (ay bV a9)))))))))) (rp (jl (d_ 2 ji.bF) (jl (d_ 3 ji.bF) rq))) (cC (fh 4 ji.bF (f6 (ak (bO oA aw (ay (bp 0) (ay (bp 2) a9)))) (ak aB))) (bR (dW (gg (w_or (kh (wa.or vr) vM (ak (ew (aH 4) (ak aB))) (ak (fN (ak aB) (ak (ew (aH 0) (ak aB)))))) (gE (binop%nM (aH 2) (ak (ew (ak (f6 (aH 0) (ak aB))) (ak aB))))))) (bR (fh 1 ji.bF (fN (aH 1) (ak (dy (ay (dy (ay (bp 3) (ay (bo (ak (dy (ay bV (ay bV (ay bV (ay bV (ay bV a9))))))) (ak (ew (ak (f6 (aH 4) (ak aB))) (ak aB)))) a9))) a9)))))) dZ)))) (cC (fh 5 ji.bF (dy a9)) (cC (oI mZ (zd hO (dy (ay bV (ay bV (ay bV (ay bV (ay bV (ay bV a9)))))))) (rp (jl (d_ 2 ji.bF) (jl (d_ 6 ji.bF) rq))) (cC (fh 4 ji.bF (f6 (ak (bO oA aw (ay (bp 0) (ay (fN (ak aB) (aH 2)) a9)))) (ak aB))) (bR (dW (gg (w_or (kh (Gu.or Fp) Gi (ak (ew (aH 4) (ak aB))) (ak aB)) (gE (binop%nM (aH 2) (ak aB))))) (cC (fh 7 ji.bF (abH ey (eV (ak (jj (own:=["_law_j"]) (caps:=[(4,"_law_drawn_here")]) (binop%co vx ["_law_number_here","_law_zones","_law_k","_law_name","_law_drawn_here","_law_codes","_law_figures_here","_law_rights","_law_who","_law_times"]) (Mb m_ (ak aB)) (unop%df (d_ 0 (unop%bF ["_law_j","_law_drawn_here"]))) (unop%df (y9 (kh (Gu.or Fp) Gi (ak (ew (ak (f6 (aH 1) (ak (bo (ak (dy (ay aB (ay aB (ay aB a9))))) (aH 0))))) (ak aB))) (ak aB)))) (unop%df (bo (ak (dy (ay bV (ay bV (ay bV a9))))) (aH 0))))) fg))) (cC (fh 8 ji.bF (bo (ak (dy (ay bV (ay bV (ay bV a9))))) (ak (ew (ak (f6 (aH 4) (ak aB))) (ak aB))))) (bR (fh 5 ji.bF (fN (aH 5) (ak (dy (ay (dy (ay (bp 6) (ay (bp 8) (ay (bp 7) (ay (bo (ak (dy (ay aB (ay aB (ay aB (ay aB (ay aB a9))))))) (ak (ew (ak (f6 (aH 4) (ak aB))) (ak aB)))) a9))))) a9)))))))) dZ)))) (cC (fh 4 ji.bF (f6 (ak (bO oA aw (ay (bp 0) (ay aB a9)))) (ak aB))) (cC (fh 9 ji.bF (dy (ay (bo (ak (dy (ay aB (ay aB (ay aB (ay aB a9)))))) (ak (ew (aH 4) (ak aB)))) (ay (bo (ak (dy (ay aB (ay aB (ay aB (ay aB a9)))))) (ak (ew (ak (f6 (aH 4) (ak aB))) (ak aB)))) (ay (bo (ak (dy (ay aB (ay aB (ay aB (ay aB a9)))))) (ak (ew (ak (f6 (aH 4) (ak aB))) (ak aB)))) a9))))) (bR (b5 (dy (ay (bp 1) (ay (bp 5) (ay (bp 9) a9))))))))))))
abbrev yL:Stmt:=top 43
def ow:c4 ["_law_number_here","_law_rooms","_law_openings","_law_k","_law_drawn_here","_law_one","_law_other","_law_zone"] ["_law_number_here"] (bJ yL):=unop%dK 0
def FA(F:cO K "_law_house" "_law_house" yL f fd)(m:mg "_law_house"=some (.ref f))(m_:mg "range"=none)(oA:Cl P w K mg base "_law_drawn" k 2 f3)(rk:mg "min"=none)(rj:mg "max"=none):Cl P w K mg base "_law_house" (k+1) 1 my:=
 dY F ow (unop%bK F) m unop%lm
  (cC (fh 1 ow.bF (fN (ak aB) (ak (ew (aH 0) (ak aB))))) (cC (fh 2 ow.bF (dy a9)) (cC (oI mZ (Mb m_ (ak (ew (ak (f6 (aH 0) (ak aB))) (ak aB)))) (d_ 3 ow.bF) (cC (fh 4 ow.bF (f6 (ak (bO oA aw (ay (bp 0) (ay (fN (ak aB) (aH 3)) a9)))) (ak aB))) (cC (fh 5 ow.bF (ew (aH 4) (ak (fN (aH 1) (ak aB))))) (cC (fh 6 ow.bF (ew (ak (fN (ak (fN (aH 5) (ak aB))) (ak (ew (ak (f6 (aH 4) (ak aB))) (aH 1))))) (ak (fN (aH 1) (ak aB))))) (cC (fh 7 ow.bF (bo (ak (dy (ay aeL (ay aeL (ay bV (ay bV (ay bV (ay bV (ay bV a9))))))))) (ak (ew (ak (f6 (aH 4) (ak aB))) (ak aB))))) (bR (fh 2 ow.bF (fN (aH 2) (ak (dy (ay (dy (ay (adG rk (eV (aH 5) (eV (aH 6) fg))) (ay (adH rj (eV (aH 5) (eV (aH 6) fg))) (ay (bp 7) a9)))) a9))))))))))) (bR (b5 (dy (ay (bp 1) (ay (bp 2) a9))))))))
abbrev yN:Stmt:=top 35
def sE:c4 ["_law_plan_here","_law_number_here","_law_zone","_law_kind","_law_figures_here","_law_deed"] ["_law_plan_here","_law_number_here"] (bJ yN):=unop%dK 0
def FC(F:cO K "_law_event" "_law_event" yN f fd)(m:mg "_law_event"=some (.ref f))(d4:mg "len"=none):Cl P w K mg base "_law_event" (k+1) 2 q':=
 dY F sE (unop%cq F) m unop%lm
  (cC (fh 2 sE.bF (bo (ak (bo (ak (bo (aH 0) (ak aB))) (ak (ew (ak (f6 (aH 1) (ak aB))) (ak (jR (by exact d4) (eV (ak (bo (aH 0) (ak aB))) fg))))))) (ak aB))) (cC (fh 3 sE.bF (ew (aH 1) (ak aB))) (cC (dW (kh (wa.or vr) vM (aH 3) (ak aB)) (bR (b5 (dy (ay bV (ay (bp 2) (ay (bo (ak (dy (ay bV (ay bV (ay bV (ay bV a9)))))) (ak (ew (ak (f6 (aH 1) (ak aB))) (ak aB)))) a9)))))) dZ) (cC (dW (kh (wa.or vr) vM (aH 3) (ak aB)) (bR (b5 (dy (ay bV (ay (fN (ak aB) (ak (ew (ak (f6 (aH 1) (ak aB))) (ak (bo (ak (dy (ay aB (ay aB (ay aB a9))))) (ak (ew (ak (f6 (aH 1) (ak aB))) (ak aB)))))))) a9))))) dZ) (cC (fh 4 sE.bF (bo (ak (bo (ak (bo (aH 0) (ak aB))) (ak (ew (ak (f6 (aH 1) (ak aB))) (ak (jR (by exact d4) (eV (ak (bo (aH 0) (ak aB))) fg))))))) (ak aB))) (cC (dW (binop%nM (ak (ew (ak (f6 (aH 1) (ak aB))) (ak aB))) (ak aB)) (bR (fh 4 sE.bF (bo (ak (dy (ay bV (ay bV (ay bV (ay bV a9)))))) (ak (ew (ak (f6 (aH 1) (ak aB))) (ak aB)))))) dZ) (cC (fh 5 sE.bF (bo (ak (dy (ay bV (ay bV (ay bV (ay bV (ay bV (ay bV a9)))))))) (ak (ew (ak (f6 (aH 1) (ak aB))) (ak aB))))) (cC (dW (kh (pI (by exact aw.units)) pJ (aH 5) (ak (dy (ay bV (ay bV a9))))) (bR (b5 (dy (ay bV (ay (bp 4) (ay (bp 5) (ay aeL a9))))))) dZ) (bR (b5 (dy (ay bV (ay (bp 4) (ay (bp 5) (ay (bp 2) a9)))))))))))))))
abbrev yA:Stmt:=top 3
def Zb:c4 ["thing","least","most"] ["thing","least","most"] (bJ yA):=unop%dK 0
def fv(F:cO K "is_tuple" "is_tuple" yA f fd)(m:mg "is_tuple"=some (.ref f))(cT:mg "isinstance"=none)(ey:mg "tuple"=none)(d4:mg "len"=none):Cl P w K mg base "is_tuple" (k+1) 3 dE:=
 dY F Zb (unop%gY F) m unop%lm
  (bR (b5 (ec (gQ oC oD cT ey (aH 0)) (gP (y' (aH 1) (ak (jR (by exact d4) (eV (aH 0) fg))) (aH 2))))))
abbrev vm:Stmt:=top 21
def Ze:c4 ["plan","name"] ["plan","name"] (bJ vm):=unop%dK 0
def vo(F:cO K "has_zone" "has_zone" vm f fd)(m:mg "has_zone"=some (.ref f)) :Cl P w K mg base "has_zone" (k+1) 2 sH:=
 dY F Ze (unop%cq F) m unop%lm
  (bR (b5 (oJ (pI (by exact aw.units)) pJ (aH 1) (ak (jj (own:=["zone"]) (caps:=[]) (binop%co vm ["plan","name"]) (hy (bo (aH 0) (ak aB))) (unop%df (d_ 0 (unop%bF ["zone"]))) (unop%df k2) (unop%df (bo (aH 0) (ak aB))))))))
abbrev yg:Stmt:=top 22
def Yd:c4 ["plan","thing"] ["plan","thing"] (bJ yg):=unop%dK 0
def ES(F:cO K "is_line_event" "is_line_event" yg f fd)(m:mg "is_line_event"=some (.ref f))(fv:Cl P w K mg base "is_tuple" k 3 dE)(vo:Cl P w K mg base "has_zone" k 2 sH){rD:ai}(S5:mg "LINES"=some (.ref rD))(XE:∃(o:Obj) (its:Array aj) (n:Nat),K.lookup rD=some o/\o.cls=.type "tuple"/\o.data=.seq its n/\its.size<=cV/\Vals ((["shut","open","cut"]:List Str).map V.str) its.toList):Cl P w K mg base "is_line_event" (k+1) 2 yi:=
 dY F Yd (unop%cq F) m unop%lm
  (bR (b5 (ec (bO fv aw (ay (bp 1) (ay aB (ay aB a9)))) (ec (binop%oW (ak (bo (aH 1) (ak aB))) (ak bV)) (ec (bO vo aw (ay (bp 0) (ay (bo (aH 1) (ak aB)) a9))) (gP (oJ (pI (by exact aw.units)) pJ (ak (bo (aH 1) (ak aB))) (ak (uK S5 XE)))))))))
abbrev vq:Stmt:=top 4
def ZR:c4 ["thing","least","most","first","last"] ["thing","least","most","first","last"] (bJ vq):=unop%dK 0
def vu(F:cO K "is_text" "is_text" vq f fd)(m:mg "is_text"=some (.ref f))(gn:mg "all"=none)(cT:mg "isinstance"=none)(d4:mg "len"=none)(hn:mg "str"=none):Cl P w K mg base "is_text" (k+1) 5 l6:=
 dY F ZR (unop%nG F) m unop%lm
  (cC (dW (gg (w_or (dp (dx (ak (gQ vS vY cT hn (aH 0))))) (gE (dp (s8 (aH 1) (ak (jR (by exact d4) (eV (aH 0) fg))) (aH 2)))))) (bR (b5 eP)) dZ) (bR (b5 (tm rfl gn (eV (ak (jj (own:=["sign"]) (caps:=[(3,"first"),(4,"last")]) (binop%co vq ["thing","least","most","first","last"]) (hy (bp 0)) (unop%df (d_ 0 (unop%bF ["sign","first","last"]))) (unop%df k2) (unop%df (y' (aH 1) (aH 0) (aH 2))))) fg)))))
abbrev yn:Stmt:=top 6
def Ys:c4 ["thing"] ["thing"] (bJ yn):=unop%dK 0
def vf(F:cO K "is_figures" "is_figures" yn f fd)(m:mg "is_figures"=some (.ref f))(vu:Cl P w K mg base "is_text" k 5 l6):Cl P w K mg base "is_figures" (k+1) 1 q6:=
 dY F Ys (unop%bK F) m unop%lm
  (bR (b5 (bO vu aw (ay (bp 0) (ay aB (ay aB (ay bV (ay bV a9))))))))
abbrev yh:Stmt:=top 23
def Ye:c4 ["plan","thing"] ["plan","thing"] (bJ yh):=unop%dK 0
def ET(F:cO K "is_code_event" "is_code_event" yh f fd)(m:mg "is_code_event"=some (.ref f))(vo:Cl P w K mg base "has_zone" k 2 sH)(fv:Cl P w K mg base "is_tuple" k 3 dE)(vf:Cl P w K mg base "is_figures" k 1 q6){rA:ai}(S2:mg "DEEDS_ALONE"=some (.ref rA))(Xt:∃(o:Obj) (its:Array aj) (n:Nat),K.lookup rA=some o/\o.cls=.type "tuple"/\o.data=.seq its n/\its.size<=cV/\Vals ((["set","unset"]:List Str).map V.str) its.toList){rB:ai}(S3:mg "DEEDS_OF_ZONES"=some (.ref rB))(Xw:∃(o:Obj) (its:Array aj) (n:Nat),K.lookup rB=some o/\o.cls=.type "tuple"/\o.data=.seq its n/\its.size<=cV/\Vals ((["shunt","free"]:List Str).map V.str) its.toList):Cl P w K mg base "is_code_event" (k+1) 2 u':=
 dY F Ye (unop%cq F) m unop%lm
  (cC (dW (gg (w_or (dp (dx (ak (bO fv aw (ay (bp 1) (ay aB (ay aB a9))))))) (w_or (binop%qC (ak (bo (aH 1) (ak aB))) (ak bV)) (gE (dp (dx (ak (bO vf aw (ay (bo (aH 1) (ak aB)) a9))))))))) (bR (b5 eP)) dZ) (cC (dW (kh (pI (by exact aw.units)) pJ (ak (bo (aH 1) (ak aB))) (ak (uK S2 Xt))) (bR (b5 (Gr (ak (bo (aH 1) (ak aB)))))) dZ) (bR (b5 (ec (oJ (pI (by exact aw.units)) pJ (ak (bo (aH 1) (ak aB))) (ak (uK S3 Xw))) (gP (bO vo aw (ay (bp 0) (ay (bo (aH 1) (ak aB)) a9)))))))))
abbrev yz:Stmt:=top 1
def Za:c4 ["thing"] ["thing"] (bJ yz):=unop%dK 0
def vn(F:cO K "is_whole" "is_whole" yz f fd)(m:mg "is_whole"=some (.ref f))(cT:mg "isinstance"=none)(kk:mg "int"=none)(kj:mg "bool"=none):Cl P w K mg base "is_whole" (k+1) 1 sF:=
 dY F Za (unop%bK F) m unop%lm
  (bR (b5 (ec (gQ Gm Gn cT kk (aH 0)) (gP (Mt (gQ F6 F' cT kj (aH 0)))))))
abbrev ye:Stmt:=top 24
def Yb:c4 ["thing"] ["thing"] (bJ ye):=unop%dK 0
def EP(F:cO K "is_ticks_event" "is_ticks_event" ye f fd)(m:mg "is_ticks_event"=some (.ref f))(fv:Cl P w K mg base "is_tuple" k 3 dE)(vn:Cl P w K mg base "is_whole" k 1 sF):Cl P w K mg base "is_ticks_event" (k+1) 1 yf:=
 dY F Yb (unop%bK F) m unop%lm
  (bR (b5 (ec (bO fv aw (ay (bp 0) (ay aB (ay aB a9)))) (ec (binop%oW (ak (bo (aH 0) (ak aB))) (ak bV)) (ec (bO vn aw (ay (bo (aH 0) (ak aB)) a9)) (gP (oJ (Mv.or KG) L5 (ak (bo (aH 0) (ak aB))) (ak aB))))))))
abbrev yB:Stmt:=top 25
def Zd:c4 ["plan","thing"] ["plan","thing"] (bJ yB):=unop%dK 0
def Fh(F:cO K "is_event" "is_event" yB f fd)(m:mg "is_event"=some (.ref f))(ES:Cl P w K mg base "is_line_event" k 2 yi)(ET:Cl P w K mg base "is_code_event" k 2 u')(EP:Cl P w K mg base "is_ticks_event" k 1 yf):Cl P w K mg base "is_event" (k+1) 2 sG:=
 dY F Zd (unop%cq F) m unop%lm
  (bR (b5 (Ej (bO ES aw (ay (bp 0) (ay (bp 1) a9))) (Ej (bO ET aw (ay (bp 0) (ay (bp 1) a9))) (Ms (bO EP aw (ay (bp 1) a9)))))))
abbrev vD:Stmt:=top 7
def aaV:c4 ["things"] ["things"] (bJ vD):=unop%dK 0
def rf(F:cO K "rises" "rises" vD f fd)(m:mg "rises"=some (.ref f))(gn:mg "all"=none)(rl:mg "zip"=none):Cl P w K mg base "rises" (k+1) 1 l8:=
 dY F aaV (unop%bK F) m unop%lm
  (bR (b5 (tm rfl gn (eV (ak (jj (own:=["one","other"]) (caps:=[]) (binop%co vD ["things"]) (adk rl (bp 0) (aeI (aH 0) (vP (ak aB)) vQ)) (unop%df (rp (jl (d_ 0 (unop%bF ["one","other"])) (jl (d_ 1 (unop%bF ["one","other"])) rq)))) (unop%df k2) (unop%df (oJ (wa.or vr) vM (aH 0) (aH 1))))) fg))))
abbrev yR:Stmt:=top 5
def ZT:c4 ["thing"] ["thing"] (bJ yR):=unop%dK 0
def ra(F:cO K "is_name" "is_name" yR f fd)(m:mg "is_name"=some (.ref f))(vu:Cl P w K mg base "is_text" k 5 l6):Cl P w K mg base "is_name" (k+1) 1 pF:=
 dY F ZT (unop%bK F) m unop%lm
  (bR (b5 (bO vu aw (ay (bp 0) (ay aB (ay aB (ay bV (ay bV a9))))))))
abbrev yP:Stmt:=top 14
def ZQ:c4 ["thing"] ["thing"] (bJ yP):=unop%dK 0
def FD(F:cO K "is_zone" "is_zone" yP f fd)(m:mg "is_zone"=some (.ref f))(fv:Cl P w K mg base "is_tuple" k 3 dE)(ra:Cl P w K mg base "is_name" k 1 pF){rC:ai}(S4:mg "KINDS"=some (.ref rC))(Xz:∃(o:Obj) (its:Array aj) (n:Nat),K.lookup rC=some o/\o.cls=.type "tuple"/\o.data=.seq its n/\its.size<=cV/\Vals ((["day","inner","once","way"]:List Str).map V.str) its.toList):Cl P w K mg base "is_zone" (k+1) 1 sL:=
 dY F ZQ (unop%bK F) m unop%lm
  (bR (b5 (ec (bO fv aw (ay (bp 0) (ay aB (ay aB a9)))) (ec (bO ra aw (ay (bo (aH 0) (ak aB)) a9)) (gP (oJ (pI (by exact aw.units)) pJ (ak (bo (aH 0) (ak aB))) (ak (uK S4 Xz))))))))
abbrev sz:Stmt:=top 15
def YH:c4 ["thing"] ["thing"] (bJ sz):=unop%dK 0
def E8(F:cO K "are_zones" "are_zones" sz f fd)(m:mg "are_zones"=some (.ref f))(rf:Cl P w K mg base "rises" k 1 l8)(fv:Cl P w K mg base "is_tuple" k 3 dE)(gn:mg "all"=none)(FD:Cl P w K mg base "is_zone" k 1 sL):Cl P w K mg base "are_zones" (k+1) 1 vh:=
 dY F YH (unop%bK F) m unop%lm
  (cC (dW (gg (w_or (dp (dx (ak (bO fv aw (ay (bp 0) (ay aB (ay aB a9))))))) (gE (dp (dx (ak (tm rfl gn (eV (ak (jj (own:=["zone"]) (caps:=[]) (binop%co sz ["thing"]) (hy (bp 0)) (unop%df (d_ 0 (unop%bF ["zone"]))) (unop%df k2) (unop%df (bO (by exact FD) (by exact aw) (ay (bp 0) a9))))) fg)))))))) (bR (b5 eP)) dZ) (bR (b5 (bO rf aw (ay (jj (own:=["zone"]) (caps:=[]) (binop%co sz ["thing"]) (hy (bp 0)) (unop%df (d_ 0 (unop%bF ["zone"]))) (unop%df k2) (unop%df (bo (aH 0) (ak aB)))) a9)))))
abbrev vd:Stmt:=top 16
def Yt:c4 ["thing"] ["thing"] (bJ vd):=unop%dK 0
def E5(F:cO K "are_rights" "are_rights" vd f fd)(m:mg "are_rights"=some (.ref f))(fv:Cl P w K mg base "is_tuple" k 3 dE)(gn:mg "all"=none)(rf:Cl P w K mg base "rises" k 1 l8){rE:ai}(S6:mg "RIGHTS"=some (.ref rE))(XI:∃(o:Obj) (its:Array aj) (n:Nat),K.lookup rE=some o/\o.cls=.type "tuple"/\o.data=.seq its n/\its.size<=cV/\Vals ((["set","shunt","unset"]:List Str).map V.str) its.toList):Cl P w K mg base "are_rights" (k+1) 1 yp:=
 dY F Yt (unop%bK F) m unop%lm
  (bR (b5 (ec (bO fv aw (ay (bp 0) (ay aB (ay aB a9)))) (ec (tm rfl gn (eV (ak (jj (own:=["right"]) (caps:=[]) (binop%co vd ["thing"]) (hy (bp 0)) (unop%df (d_ 0 (unop%bF ["right"]))) (unop%df k2) (unop%df (oJ (pI (by exact aw.units)) pJ (aH 0) (ak (uK (by exact S6) (by exact XI))))))) fg)) (gP (bO rf aw (ay (bp 0) a9)))))))
abbrev yr:Stmt:=top 2
def YG:c4 ["thing","least","most"] ["thing","least","most"] (bJ yr):=unop%dK 0
def k0(F:cO K "is_within" "is_within" yr f fd)(m:mg "is_within"=some (.ref f))(vn:Cl P w K mg base "is_whole" k 1 sF):Cl P w K mg base "is_within" (k+1) 3 jh:=
 dY F YG (unop%gY F) m unop%lm
  (bR (b5 (ec (bO vn aw (ay (bp 0) a9)) (gP (y' (aH 1) (aH 0) (aH 2))))))
abbrev yS:Stmt:=top 17
def ZU:c4 ["thing"] ["thing"] (bJ yS):=unop%dK 0
def FF(F:cO K "is_code" "is_code" yS f fd)(m:mg "is_code"=some (.ref f))(fv:Cl P w K mg base "is_tuple" k 3 dE)(vf:Cl P w K mg base "is_figures" k 1 q6)(ra:Cl P w K mg base "is_name" k 1 pF)(E5:Cl P w K mg base "are_rights" k 1 yp)(k0:Cl P w K mg base "is_within" k 3 jh):Cl P w K mg base "is_code" (k+1) 1 sN:=
 dY F ZU (unop%bK F) m unop%lm
  (cC (dW (dp (dx (ak (bO fv aw (ay (bp 0) (ay aB (ay aB a9))))))) (bR (b5 eP)) dZ) (bR (b5 (ec (bO vf aw (ay (bo (aH 0) (ak aB)) a9)) (ec (bO ra aw (ay (bo (aH 0) (ak aB)) a9)) (ec (bO E5 aw (ay (bo (aH 0) (ak aB)) a9)) (gP (bO k0 aw (ay (bo (aH 0) (ak aB)) (ay aB (ay aB a9)))))))))))
abbrev sA:Stmt:=top 18
def YJ:c4 ["thing"] ["thing"] (bJ sA):=unop%dK 0
def E_(F:cO K "are_codes" "are_codes" sA f fd)(m:mg "are_codes"=some (.ref f))(rf:Cl P w K mg base "rises" k 1 l8)(fv:Cl P w K mg base "is_tuple" k 3 dE)(gn:mg "all"=none)(FF:Cl P w K mg base "is_code" k 1 sN):Cl P w K mg base "are_codes" (k+1) 1 vj:=
 dY F YJ (unop%bK F) m unop%lm
  (cC (dW (gg (w_or (dp (dx (ak (bO fv aw (ay (bp 0) (ay aB (ay aB a9))))))) (gE (dp (dx (ak (tm rfl gn (eV (ak (jj (own:=["code"]) (caps:=[]) (binop%co sA ["thing"]) (hy (bp 0)) (unop%df (d_ 0 (unop%bF ["code"]))) (unop%df k2) (unop%df (bO (by exact FF) (by exact aw) (ay (bp 0) a9))))) fg)))))))) (bR (b5 eP)) dZ) (bR (b5 (bO rf aw (ay (jj (own:=["code"]) (caps:=[]) (binop%co sA ["thing"]) (hy (bp 0)) (unop%df (d_ 0 (unop%bF ["code"]))) (unop%df k2) (unop%df (bo (aH 0) (ak aB)))) a9)))))
abbrev yt:Stmt:=top 19
def YI:c4 ["thing"] ["thing"] (bJ yt):=unop%dK 0
def E9(F:cO K "are_times" "are_times" yt f fd)(m:mg "are_times"=some (.ref f))(fv:Cl P w K mg base "is_tuple" k 3 dE)(k0:Cl P w K mg base "is_within" k 3 jh):Cl P w K mg base "are_times" (k+1) 1 vi:=
 dY F YI (unop%bK F) m unop%lm
  (cC (dW (dp (dx (ak (bO fv aw (ay (bp 0) (ay aB (ay aB a9))))))) (bR (b5 eP)) dZ) (bR (b5 (ec (bO k0 aw (ay (bo (aH 0) (ak aB)) (ay aB (ay aB a9)))) (ec (bO k0 aw (ay (bo (aH 0) (ak aB)) (ay aB (ay aB a9)))) (gP (bO k0 aw (ay (bo (aH 0) (ak aB)) (ay aB (ay aB a9))))))))))
abbrev yQ:Stmt:=top 20
def ZS:c4 ["thing"] ["thing"] (bJ yQ):=unop%dK 0
def FE(F:cO K "is_plan" "is_plan" yQ f fd)(m:mg "is_plan"=some (.ref f))(fv:Cl P w K mg base "is_tuple" k 3 dE)(E8:Cl P w K mg base "are_zones" k 1 vh)(E_:Cl P w K mg base "are_codes" k 1 vj)(E9:Cl P w K mg base "are_times" k 1 vi):Cl P w K mg base "is_plan" (k+1) 1 sM:=
 dY F ZS (unop%bK F) m unop%lm
  (bR (b5 (ec (bO fv aw (ay (bp 0) (ay aB (ay aB a9)))) (ec (bO E8 aw (ay (bo (aH 0) (ak aB)) a9)) (ec (bO E_ aw (ay (bo (aH 0) (ak aB)) a9)) (gP (bO E9 aw (ay (bo (aH 0) (ak aB)) a9))))))))
abbrev ym:Stmt:=top 28
def Yr:c4 ["rooms","thing"] ["rooms","thing"] (bJ ym):=unop%dK 0
def E4(F:cO K "is_opening" "is_opening" ym f fd)(m:mg "is_opening"=some (.ref f))(k0:Cl P w K mg base "is_within" k 3 jh)(fv:Cl P w K mg base "is_tuple" k 3 dE)(ra:Cl P w K mg base "is_name" k 1 pF){EC:Tok}(qf:mg "OUTSIDE"=some (.int 0 EC)):Cl P w K mg base "is_opening" (k+1) 2 ve:=
 dY F Yr (unop%cq F) m unop%lm
  (cC (dW (gg (w_or (dp (dx (ak (bO fv aw (ay (bp 1) (ay aB (ay aB a9))))))) (gE (dp (dx (ak (bO k0 aw (ay (bo (aH 1) (ak aB)) (ay aB (ay (bp 0) a9)))))))))) (bR (b5 eP)) dZ) (bR (b5 (ec (bO k0 aw (ay (bo (aH 1) (ak aB)) (ay (VU qf) (ay (adD (ak (bo (aH 1) (ak aB))) (ak aB)) a9)))) (gP (Ej (Gr (ak (bo (aH 1) (ak aB)))) (Ms (bO ra aw (ay (bo (aH 1) (ak aB)) a9)))))))))
abbrev vl:Stmt:=top 29
def Zc:c4 ["thing"] ["thing"] (bJ vl):=unop%dK 0
def Fg(F:cO K "is_house" "is_house" vl f fd)(m:mg "is_house"=some (.ref f))(gn:mg "all"=none)(fv:Cl P w K mg base "is_tuple" k 3 dE)(k0:Cl P w K mg base "is_within" k 3 jh)(E4:Cl P w K mg base "is_opening" k 2 ve):Cl P w K mg base "is_house" (k+1) 1 pD:=
 dY F Zc (unop%bK F) m unop%lm
  (cC (dW (gg (w_or (dp (dx (ak (bO fv aw (ay (bp 0) (ay aB (ay aB a9))))))) (w_or (dp (dx (ak (bO k0 aw (ay (bo (aH 0) (ak aB)) (ay aB (ay aB a9))))))) (gE (dp (dx (ak (bO fv aw (ay (bo (aH 0) (ak aB)) (ay aB (ay aB a9))))))))))) (bR (b5 eP)) dZ) (bR (b5 (tm rfl gn (eV (ak (jj (own:=["opening"]) (caps:=[(0,"thing")]) (binop%co vl ["thing"]) (hy (bo (aH 0) (ak aB))) (unop%df (d_ 0 (unop%bF ["opening","thing"]))) (unop%df k2) (unop%df (bO (by exact E4) (by exact aw) (ay (bo (aH 1) (ak aB)) (ay (bp 0) a9)))))) fg)))))
abbrev yM:Stmt:=top 49
def ZP:c4 ["_law_kind","_law_plan_here","_law_thing"] ["_law_kind","_law_plan_here","_law_thing"] (bJ yM):=unop%dK 0
def yX(F:cO K "_law_found" "_law_found" yM f fd)(m:mg "_law_found"=some (.ref f))(Fh:Cl P w K mg base "is_event" k 2 sG)(FE:Cl P w K mg base "is_plan" k 1 sM)(Fg:Cl P w K mg base "is_house" k 1 pD):Cl P w K mg base "_law_found" (k+1) 3 pE:=
 dY F ZP (unop%gY F) m unop%lm
  (cC (dW (binop%nM (aH 0) (ak aB)) (bR (b5 (bO FE aw (ay (bp 2) a9)))) dZ) (cC (dW (binop%nM (aH 0) (ak aB)) (bR (b5 (bO Fg aw (ay (bp 2) a9)))) dZ) (bR (b5 (bO Fh aw (ay (bp 1) (ay (bp 2) a9)))))))
abbrev sx:Stmt:=top 45
def aeH:c4 ["_law_thing","_law_way","_law_found_here","_law_at","_law_part"] ["_law_thing","_law_way"] (bJ sx):=unop%dK 0
def JJ{K:bc}{f:ai}{fd:e1}(F:cO K "_law_places_in" "_law_places_in" sx f fd):Binds K fd ["_law_thing","_law_way"] []:=F.binds (ps:=["_law_thing","_law_way"]) λ_ _ _ _ _ _ us aF=>match us,aF with|[_,_],_=>rfl
def Yp{d:List T->Option T}(F:cO K "_law_places_in" "_law_places_in" sx f fd)(m:mg "_law_places_in"=some (.ref f))(sy:Cl P w K mg base "_law_places_in" k 2 d)(cT:mg "isinstance"=none)(ey:mg "tuple"=none)(hO:mg "enumerate"=none):Cl P w K mg base "_law_places_in" (k+1) 2 (bE (yk d) 5):=
 dY F aeH (JJ F) m unop%lm
  (cC (fh 2 aeH.bF (vJ (ay (bp 1) a9))) (cC (dW (dx (ak (gQ oC oD cT ey (aH 0)))) (bR (oI mZ (zd hO (bp 0)) (rp (jl (d_ 3 aeH.bF) (jl (d_ 4 aeH.bF) rq))) (bR (fh 2 aeH.bF (fN (aH 2) (ak (bO sy aw (ay (bp 4) (ay (fN (aH 1) (ak (dy (ay (bp 3) a9)))) a9))))))))) dZ) (bR (acw 2))))
theorem sy(F:cO K "_law_places_in" "_law_places_in" sx f fd)(m:mg "_law_places_in"=some (.ref f))(cT:mg "isinstance"=none)(ey:mg "tuple"=none)(hO:mg "enumerate"=none):∀n,Cl P w K mg base "_law_places_in" (k+n) 2 (l4 n)
|0=>.mk' aak m F.aK (JJ F)
|n+1=>Yp F m (sy F m cT ey hO  n) cT ey hO
abbrev ox:Stmt:=top 46
def JY:c4 ["_law_thing","_law_way","_law_change","_law_at"] ["_law_thing","_law_way","_law_change"] (bJ ox):=unop%dK 0
def ZD{K:bc}{f:ai}{fd:e1}(F:cO K "_law_put_at" "_law_put_at" ox f fd):Binds K fd ["_law_thing","_law_way","_law_change"] []:=F.binds (ps:=["_law_thing","_law_way","_law_change"]) λ_ _ _ _ _ _ us aF=>match us,aF with|[_,_,_],_=>rfl
def Zx{bZ:ai}(aK:oi K (.ref bZ)=true)(m:mg "_law_put_at"=some (.ref bZ))(cy:aj)(A:cN)(outer:List Env)(s:aG)(H:aD)(k:Nat)(aw:ef k (A.deeper (envOfC "_law_put_at" (bJ ox) s.heap.objs.size bZ cy))):gV (gG d9 P w K mg base ["_law_thing","_law_way","_law_change","_law_at"] "_law_put_at" (bJ ox) bZ cy A outer s H jS).hC (hb ox) (Ez (gG d9 P w K mg base ["_law_thing","_law_way","_law_change","_law_at"] "_law_put_at" (bJ ox) bZ cy A outer s H jS).hC bZ):=
 FL (Mu (binop%nM (aH 1) (ak (dy a9))) (FZ (za (acW (sa 2) (sa 0)))) Ly) (FL (L0 JY.bF rfl (Or.inl rfl) (bo (aH 1) (ak aB))) (FZ (za (pQ (FO.or F2) (pQ (FO.or F2) (aeI (aH 0) vQ (vP (aH 3))) (L1 (iG (Lb (iG (bo (aH 0) (aH 3)) (iG (aeI (aH 1) (vP (ak aB)) vQ) (iG (sa 2) l_))) m aK) l_))) (aeI (aH 0) (vP (ak (fN (aH 3) (ak aB)))) vQ)))))
abbrev yj:Stmt:=top 47
def Yn:c4 ["_law_thing","_law_number_here"] ["_law_thing","_law_number_here"] (bJ yj):=unop%dK 0
def EZ(F:cO K "_law_otherwise" "_law_otherwise" yj f fd)(m:mg "_law_otherwise"=some (.ref f))(cT:mg "isinstance"=none)(ey:mg "tuple"=none)(ma:mg "list"=none)(kk:mg "int"=none):Cl P w K mg base "_law_otherwise" (k+1) 2 vb:=
 dY F Yn (unop%cq F) m unop%lm
  (EG (oF (xX (dx (ak (gQ oC oD cT ey (aH 0)))) (oH (rm (xY (oe (Gp (dS (eb (Gg ma (eV (aH 0) fg))) (dS (eb (Gg ma (eV (aH 0) fg))) (dS (v_add (xZ (aH 0)) (oe (v7 (dS (eb aB) hj)))) (dS (X2 (xZ (aH 0)) (vP (ak aB)) vQ) hj)))))) (oe (eb (ew (aH 1) (ak aB))))))) zg)
(oF (xX (dx (ak (gQ Gm Gn cT kk (aH 0)))) (oH (rm (xY (oe (Gp (dS (v_add (xZ (aH 0)) (oe (eb aB))) (dS (eb (adF (ak aB))) (dS (eb eP) (dS (v7 (dS (eb (bp 0)) hj)) hj)))))) (oe (eb (ew (aH 1) (ak aB))))))) zg)
(oH (rm (xY (oe (Gp (dS (eb bV) (dS (eb aeL) (dS (v7 (dS (eb (bp 0)) hj)) (dS (eb bV) hj)))))) (oe (eb (ew (aH 1) (ak aB))))))))))
abbrev yy:Stmt:=top 36
def Y':c4 ["_law_thing","_law_low","_law_high"] ["_law_thing","_law_low","_law_high"] (bJ yy):=unop%dK 0
def k1(F:cO K "_law_number" "_law_number" yy f fd)(m:mg "_law_number"=some (.ref f))(cT:mg "isinstance"=none)(kk:mg "int"=none)(kj:mg "bool"=none):Cl P w K mg base "_law_number" (k+1) 3 gB:=
 dY F Y' (unop%gY F) m unop%lm
  (bR (b5 (ec (gQ Gm Gn cT kk (aH 0)) (ec (Mt (gQ F6 F' cT kj (aH 0))) (gP (y' (aH 1) (aH 0) (aH 2)))))))
abbrev yI:Stmt:=top 37
def ZN:c4 ["_law_thing","_law_many"] ["_law_thing","_law_many"] (bJ yI):=unop%dK 0
def oz(F:cO K "_law_tuple" "_law_tuple" yI f fd)(m:mg "_law_tuple"=some (.ref f))(cT:mg "isinstance"=none)(ey:mg "tuple"=none)(d4:mg "len"=none):Cl P w K mg base "_law_tuple" (k+1) 2 jM:=
 dY F ZN (unop%cq F) m unop%lm
  (bR (b5 (ec (gQ oC oD cT ey (aH 0)) (gP (binop%oW (ak (jR (by exact d4) (eV (aH 0) fg))) (aH 1))))))
abbrev yx:Stmt:=top 40
def Y_:c4 ["_law_thing","_law_some"] ["_law_thing","_law_some"] (bJ yx):=unop%dK 0
def m7(F:cO K "_law_one_of" "_law_one_of" yx f fd)(m:mg "_law_one_of"=some (.ref f))(cT:mg "isinstance"=none)(hn:mg "str"=none):Cl P w K mg base "_law_one_of" (k+1) 2 iE:=
 dY F Y_ (unop%cq F) m unop%lm
  (bR (b5 (ec (gQ vS vY cT hn (aH 0)) (gP (oJ (pI (by exact aw.units)) pJ (aH 0) (aH 1))))))
abbrev vw:Stmt:=top 38
def _H:c4 ["_law_thing"] ["_law_thing"] (bJ vw):=unop%dK 0
def sU(F:cO K "_law_word" "_law_word" vw f fd)(m:mg "_law_word"=some (.ref f))(cT:mg "isinstance"=none)(d4:mg "len"=none)(hn:mg "str"=none):Cl P w K mg base "_law_word" (k+1) 1 ke:=
 dY F _H (unop%bK F) m unop%lm
  (cC (dW (gg (w_or (dp (dx (ak (gQ vS vY cT hn (aH 0))))) (gE (dp (s8 (ak aB) (ak (jR (by exact d4) (eV (aH 0) fg))) (ak aB)))))) (bR (b5 eP)) dZ) (bR (b5 (binop%oW (ak (jj (own:=["_law_sign"]) (caps:=[]) (binop%co vw ["_law_thing"]) (hy (bp 0)) (unop%df (d_ 0 (unop%bF ["_law_sign"]))) (unop%df (y9 (dp (s8 (ak bV) (aH 0) (ak bV))))) (unop%df (bp 0)))) (ak (vJ a9))))))
abbrev vg:Stmt:=top 39
def YE:c4 ["_law_thing"] ["_law_thing"] (bJ vg):=unop%dK 0
def vk(F:cO K "_law_figures" "_law_figures" vg f fd)(m:mg "_law_figures"=some (.ref f))(cT:mg "isinstance"=none)(d4:mg "len"=none)(hn:mg "str"=none):Cl P w K mg base "_law_figures" (k+1) 1 q8:=
 dY F YE (unop%bK F) m unop%lm
  (bR (b5 (ec (gQ vS vY cT hn (aH 0)) (ec (binop%oW (ak (jR (by exact d4) (eV (aH 0) fg))) (ak aB)) (gP (binop%oW (ak (jj (own:=["_law_sign"]) (caps:=[]) (binop%co vg ["_law_thing"]) (hy (bp 0)) (unop%df (d_ 0 (unop%bF ["_law_sign"]))) (unop%df (y9 (dp (s8 (ak bV) (aH 0) (ak bV))))) (unop%df (bp 0)))) (ak (vJ a9))))))))
abbrev q7:Stmt:=top 41
def q5:c4 ["_law_thing","_law_zone","_law_code","_law_row","_law_leave","_law_come","_law_loud"] ["_law_thing"] (bJ q7):=unop%dK 0
def E6(F:cO K "_law_is_plan" "_law_is_plan" q7 f fd)(m:mg "_law_is_plan"=some (.ref f))(k1:Cl P w K mg base "_law_number" k 3 gB)(oz:Cl P w K mg base "_law_tuple" k 2 jM)(cT:mg "isinstance"=none)(ey:mg "tuple"=none)(m7:Cl P w K mg base "_law_one_of" k 2 iE)(ma:mg "list"=none)(pN:mg "sorted"=none)(d4:mg "len"=none)(sU:Cl P w K mg base "_law_word" k 1 ke)(vk:Cl P w K mg base "_law_figures" k 1 q8)(pM:mg "set"=none):Cl P w K mg base "_law_is_plan" (k+1) 1 ov:=
 dY F q5 (unop%bK F) m unop%lm
  (cC (dW (gg (w_or (dp (dx (ak (bO oz aw (ay (bp 0) (ay aB a9)))))) (w_or (dp (dx (ak (gQ oC oD cT ey (ak (bo (aH 0) (ak aB))))))) (gE (dp (s8 (ak aB) (ak (jR (by exact d4) (eV (ak (bo (aH 0) (ak aB))) fg))) (ak aB))))))) (bR (b5 eP)) dZ) (cC (dW (gg (w_or (dp (dx (ak (gQ oC oD cT ey (ak (bo (aH 0) (ak aB))))))) (w_or (dp (s8 (ak aB) (ak (jR (by exact d4) (eV (ak (bo (aH 0) (ak aB))) fg))) (ak aB))) (gE (dp (dx (ak (bO oz aw (ay (bo (aH 0) (ak aB)) (ay aB a9)))))))))) (bR (b5 eP)) dZ) (cC (oI mZ (hy (bo (aH 0) (ak aB))) (d_ 1 q5.bF) (cC (dW (gg (w_or (dp (dx (ak (bO oz aw (ay (bp 1) (ay aB a9)))))) (gE (dp (dx (ak (bO sU aw (ay (bo (aH 1) (ak aB)) a9)))))))) (bR (b5 eP)) dZ) (bR (dW (dp (dx (ak (bO m7 aw (ay (bo (aH 1) (ak aB)) (ay (dy (ay bV (ay bV (ay bV (ay bV a9))))) a9)))))) (bR (b5 eP)) dZ)))) (cC (oI mZ (hy (bo (aH 0) (ak aB))) (d_ 2 q5.bF) (cC (dW (gg (w_or (dp (dx (ak (bO oz aw (ay (bp 2) (ay aB a9)))))) (w_or (dp (dx (ak (bO vk aw (ay (bo (aH 2) (ak aB)) a9))))) (gE (dp (dx (ak (bO sU aw (ay (bo (aH 2) (ak aB)) a9))))))))) (bR (b5 eP)) dZ) (cC (dW (gg (w_or (dp (dx (ak (gQ oC oD cT ey (ak (bo (aH 2) (ak aB))))))) (gE (dp (dx (ak (bO k1 aw (ay (bo (aH 2) (ak aB)) (ay aB (ay aB a9)))))))))) (bR (b5 eP)) dZ) (cC (dW (binop%qC (ak (jj (own:=["_law_one"]) (caps:=[]) (binop%co q7 ["_law_thing","_law_zone","_law_code","_law_row","_law_leave","_law_come","_law_loud"]) (hy (bo (aH 2) (ak aB))) (unop%df (d_ 0 (unop%bF ["_law_one"]))) (unop%df (y9 (dp (dx (ak (bO (by exact m7) (by exact aw) (ay (bp 0) (ay (dy (ay bV (ay bV (ay bV a9)))) a9)))))))) (unop%df (bp 0)))) (ak (vJ a9))) (bR (b5 eP)) dZ) (bR (dW (binop%qC (ak (Gg ma (eV (ak (bo (aH 2) (ak aB))) fg))) (ak (JO rfl pN pM (ak (bo (aH 2) (ak aB)))))) (bR (b5 eP)) dZ)))))) (cC (oI mZ (hy (dy (ay (jj (own:=["_law_zone"]) (caps:=[]) (binop%co q7 ["_law_thing","_law_zone","_law_code","_law_row","_law_leave","_law_come","_law_loud"]) (hy (bo (aH 0) (ak aB))) (unop%df (d_ 0 (unop%bF ["_law_zone"]))) (unop%df k2) (unop%df (bo (aH 0) (ak aB)))) (ay (jj (own:=["_law_code"]) (caps:=[]) (binop%co q7 ["_law_thing","_law_zone","_law_code","_law_row","_law_leave","_law_come","_law_loud"]) (hy (bo (aH 0) (ak aB))) (unop%df (d_ 0 (unop%bF ["_law_code"]))) (unop%df k2) (unop%df (bo (aH 0) (ak aB)))) a9)))) (d_ 3 q5.bF) (bR (dW (binop%qC (aH 3) (ak (JO rfl pN pM (aH 3)))) (bR (b5 eP)) dZ))) (cC (acx (bo (aH 0) (ak aB)) (rp (jl (d_ 4 q5.bF) (jl (d_ 5 q5.bF) (jl (d_ 6 q5.bF) rq))))) (bR (b5 (ec (bO k1 aw (ay (bp 4) (ay aB (ay aB a9)))) (ec (bO k1 aw (ay (bp 5) (ay aB (ay aB a9)))) (gP (bO k1 aw (ay (bp 6) (ay aB (ay aB a9)))))))))))))))
abbrev yl:Stmt:=top 44
def JK:c4 ["_law_thing","_law_part"] ["_law_thing"] (bJ yl):=unop%dK 0
def E2(F:cO K "_law_is_house" "_law_is_house" yl f fd)(m:mg "_law_is_house"=some (.ref f))(oz:Cl P w K mg base "_law_tuple" k 2 jM)(k1:Cl P w K mg base "_law_number" k 3 gB)(cT:mg "isinstance"=none)(ey:mg "tuple"=none)(d4:mg "len"=none)(sU:Cl P w K mg base "_law_word" k 1 ke):Cl P w K mg base "_law_is_house" (k+1) 1 mz:=
 dY F JK (unop%bK F) m unop%lm
  (cC (dW (gg (w_or (dp (dx (ak (bO oz aw (ay (bp 0) (ay aB a9)))))) (gE (dp (dx (ak (bO k1 aw (ay (bo (aH 0) (ak aB)) (ay aB (ay aB a9)))))))))) (bR (b5 eP)) dZ) (cC (dW (gg (w_or (dp (dx (ak (gQ oC oD cT ey (ak (bo (aH 0) (ak aB))))))) (gE (kh (Gu.or Fp) Gi (ak (jR (by exact d4) (eV (ak (bo (aH 0) (ak aB))) fg))) (ak aB))))) (bR (b5 eP)) dZ) (cC (oI mZ (hy (bo (aH 0) (ak aB))) (d_ 1 JK.bF) (cC (dW (gg (w_or (dp (dx (ak (bO oz aw (ay (bp 1) (ay aB a9)))))) (w_or (dp (dx (ak (bO k1 aw (ay (bo (aH 1) (ak aB)) (ay aB (ay (bo (aH 0) (ak aB)) a9))))))) (gE (dp (dx (ak (bO k1 aw (ay (bo (aH 1) (ak aB)) (ay aB (ay (bo (aH 0) (ak aB)) a9))))))))))) (bR (b5 eP)) dZ) (bR (dW (gg (w_or (kh (Mv.or KG) L5 (ak (bo (aH 1) (ak aB))) (ak (bo (aH 1) (ak aB)))) (gE (gg (w_and (acq (ak (bo (aH 1) (ak aB)))) (acm (dp (dx (ak (bO sU aw (ay (bo (aH 1) (ak aB)) a9))))))))))) (bR (b5 eP)) dZ)))) (bR (b5 eP)))))
abbrev vc:Stmt:=top 42
def JL:c4 ["_law_plan_here","_law_thing","_law_names"] ["_law_plan_here","_law_thing"] (bJ vc):=unop%dK 0
def E3(F:cO K "_law_is_event" "_law_is_event" vc f fd)(m:mg "_law_is_event"=some (.ref f))(m7:Cl P w K mg base "_law_one_of" k 2 iE)(cT:mg "isinstance"=none)(ey:mg "tuple"=none)(k1:Cl P w K mg base "_law_number" k 3 gB)(d4:mg "len"=none)(vk:Cl P w K mg base "_law_figures" k 1 q8)(hn:mg "str"=none):Cl P w K mg base "_law_is_event" (k+1) 2 ou:=
 dY F JL (unop%cq F) m unop%lm
  (cC (acy 2 JL.bF (own:=["_law_zone"]) (caps:=[]) (binop%co vc ["_law_plan_here","_law_thing","_law_names"]) (hy (bo (aH 0) (ak aB))) (unop%df (d_ 0 (unop%bF ["_law_zone"]))) (unop%df k2) (unop%df (bo (aH 0) (ak aB)))) (cC (dW (gg (w_or (dp (dx (ak (gQ oC oD cT ey (aH 1))))) (w_or (binop%nM (aH 1) (ak (dy a9))) (gE (dp (dx (ak (gQ vS vY cT hn (ak (bo (aH 1) (ak aB))))))))))) (bR (b5 eP)) dZ) (cC (dW (binop%nM (ak (bo (aH 1) (ak aB))) (ak bV)) (bR (b5 (ec (binop%oW (ak (jR (by exact d4) (eV (aH 1) fg))) (ak aB)) (ec (bO m7 aw (ay (bo (aH 1) (ak aB)) (ay (bp 2) a9))) (gP (bO m7 aw (ay (bo (aH 1) (ak aB)) (ay (dy (ay bV (ay bV (ay bV a9)))) a9)))))))) dZ) (cC (dW (binop%nM (ak (bo (aH 1) (ak aB))) (ak bV)) (bR (b5 (ec (binop%oW (ak (jR (by exact d4) (eV (aH 1) fg))) (ak aB)) (gP (bO k1 aw (ay (bo (aH 1) (ak aB)) (ay aB (ay (acB (ak aB) (ak aB)) a9)))))))) dZ) (cC (dW (gg (w_or (binop%qC (ak (bo (aH 1) (ak aB))) (ak bV)) (w_or (binop%qC (ak (jR (by exact d4) (eV (aH 1) fg))) (ak aB)) (gE (dp (dx (ak (bO vk aw (ay (bo (aH 1) (ak aB)) a9))))))))) (bR (b5 eP)) dZ) (cC (dW (dx (ak (bO m7 aw (ay (bo (aH 1) (ak aB)) (ay (dy (ay bV (ay bV a9))) a9))))) (bR (b5 (Gr (ak (bo (aH 1) (ak aB)))))) dZ) (bR (b5 (ec (bO m7 aw (ay (bo (aH 1) (ak aB)) (ay (dy (ay bV (ay bV a9))) a9))) (gP (bO m7 aw (ay (bo (aH 1) (ak aB)) (ay (bp 2) a9)))))))))))))
abbrev yJ:Stmt:=top 48
def ZO:c4 ["_law_kind","_law_plan_here","_law_thing"] ["_law_kind","_law_plan_here","_law_thing"] (bJ yJ):=unop%dK 0
def Fz(F:cO K "_law_right" "_law_right" yJ f fd)(m:mg "_law_right"=some (.ref f))(E6:Cl P w K mg base "_law_is_plan" k 1 ov)(E2:Cl P w K mg base "_law_is_house" k 1 mz)(E3:Cl P w K mg base "_law_is_event" k 2 ou):Cl P w K mg base "_law_right" (k+1) 3 sJ:=
 dY F ZO (unop%gY F) m unop%lm
  (EG (oH (rm (xY (oe (v7 (dS (l9 E6 aw (dS (eb (bp 2)) hj)) (dS (l9 E2 aw (dS (eb (bp 2)) hj)) (dS (l9 E3 aw (dS (eb (bp 1)) (dS (eb (bp 2)) hj))) hj))))) (xZ (aH 0))))))
abbrev jQ:Stmt:=top 50
def m9:c4 ["_law_script","_law_number_here","_law_plan_here","_law_things","_law_kind","_law_thing","_law_at","_law_way","_law_bent","_law_found_here"] ["_law_script"] (bJ jQ):=unop%dK 0
def adZ{k:Nat}{f nH ml:ai}{gc:aj}{gx an:Option ai}{jZ:Array (Option aj)}{eJ doc pm b_:aj}(l:K.lookup f=some ⟨gc,gx,.func (j_ "law" "law" (l7 jQ) (hb jQ) (bJ jQ) .none eJ doc pm an (.ref nH) b_),jZ⟩)(eB:qU K (.ref nH) "law"=true)(t9:q2 K nH ml=true)(lH:mc mg base)(n0:bX.cM=[(ml,(("law":Str)++".<locals>.")++"<lambda>")])(sO:Cl P w K mg base "_law_mixed" k 2 fw)(FP:Cl P w K mg base "_law_plan" k 1 sR)(hO:mg "enumerate"=none)(FA:Cl P w K mg base "_law_house" k 1 my)(FC:Cl P w K mg base "_law_event" k 2 q')(yX:Cl P w K mg base "_law_found" k 3 pE)(sy:Cl P w K mg base "_law_places_in" k 2 (l4 20)){HQ:ai}{QA:e1}(zC:cO K "_law_put_at" "_law_put_at" ox HQ QA)(IM:mg "_law_put_at"=some (.ref HQ))(EZ:Cl P w K mg base "_law_otherwise" k 2 vb)(cT:mg "isinstance"=none)(Fz:Cl P w K mg base "_law_right" k 3 sJ)(oA:Cl P w K mg base "_law_drawn" k 2 f3)(kj:mg "bool"=none):fP P w K mg base d9 (k+12) f (j_ "law" "law" (l7 jQ) (hb jQ) (bJ jQ) .none eJ doc pm an (.ref nH) b_) ["_law_script"] (spT K 1 pR):=
 ab7 l eB m9 λA outer s H E aw=>
  (EG (oF (v8 1 m9.bF (l9 sO (aw.mono (hH _ 11)) (dS (eb (bp 0)) (dS (eb aB) hj))))
(oF (v8 2 m9.bF (l9 FP (aw.mono (hH _ 11)) (dS (l9 sO (aw.mono (hH _ 11)) (dS (eb (bp 0)) (dS (eb aB) hj))) hj)))
(oF (v8 3 m9.bF (v7 (dS (eb (bp 2)) (dS (l9 FA (aw.mono (hH _ 11)) (dS (l9 sO (aw.mono (hH _ 11)) (dS (eb (bp 0)) (dS (eb aB) hj))) hj)) (dS (l9 FC (aw.mono (hH _ 11)) (dS (eb (bp 2)) (dS (l9 sO (aw.mono (hH _ 11)) (dS (eb (bp 0)) (dS (eb aB) hj))) hj))) hj)))))
(oF (Mo mZ (zd hO (bp 3)) (rp (jl (d_ 4 m9.bF) (jl (d_ 5 m9.bF) rq))) (oF (xX (kh _P _Q (ak (bO yX (aw.mono (hH _ 11)) (ay (bp 4) (ay (bp 2) (ay (bp 5) a9))))) (ak eP)) (oH (rm (eb eP))) zg)
(oH (Mo mZ (ab5 hO (bO sy (aw.mono (hH _ 11)) (ay (bp 5) (ay (dy a9) a9)))) (rp (jl (d_ 6 m9.bF) (jl (d_ 7 m9.bF) rq))) (oF (v8 8 m9.bF (eb (adE 10 (y:="_law_part") zC JY (ZD zC) IM (λcy A outer s H k aw=>Zx zC.aK IM cy A outer s H k aw) (bp 5) (bp 7) rfl t9 lH (by rw[n0];exact gj.mpr rfl) (λp aE _=>by rw[n0,gj] at aE;rw[aE]) aw (λq eO cl A2 fa s2 bt Iu=>by exact (bO EZ Iu (ay (bp 0) (ay (f6 (ak (bO oA Iu (ay (bp 2) (ay (bp 7) a9)))) (ak aB)) a9)))))))
(oF (v8 9 m9.bF (l9 yX (aw.mono (hH _ 11)) (dS (eb (bp 4)) (dS (eb (bp 2)) (dS (eb (bp 8)) hj)))))
(oH (xX (gg (w_or (dp (dx (ak (gQ F6 F' cT kj (aH 9))))) (gE (binop%qC (aH 9) (ak (bO Fz (aw.mono (hH _ 11)) (ay (bp 4) (ay (bp 2) (ay (bp 8) a9))))))))) (oH (rm (eb eP))) zg))))))))
(oH (rm (eb eP))))))))
end
end nt
end
section
namespace dq
open D PySem
def ls(x:Str):List Nat:=x.cps.toList
def st(l:List Nat):Str:=⟨l.toArray⟩
def L9(x:Str):x.length=(ls x).length:=by simp[Str.length,ls]
def IH(c:Nat):List (List Nat)->List Nat
| []=>[]
| [p]=>p
|p::q::r=>p++c::IH c (q::r)
def asc(l:List Nat):Prop:=∀a∈l,a<128
def sI(x:Str):te x=true <-> asc (ls x):=by
 unfold te asc ls;rw[List.all_eq_true];constructor
 ·intro h a az;exact of_decide_eq_true (h a az)
 ·intro h a az;exact decide_eq_true (h a az)
def yY{x:Str}(h:asc (ls x)):PyData.strOk x=true:=by
 unfold PyData.strOk;rw[<- Array.all_toList,List.all_eq_true];intro a az;have:=h a az;exact decide_eq_true (by omega)
def aci{a b:List Nat}(h:asc b)(aA:∀x∈a,x∈b):asc a:=λx hx=>h x (aA x hx)
end dq
end
section
namespace D
open PySem
def y0(ss:List Str)(h:∀x∈ss,(jf x).canLay0=true):iA (ss.map .str)=true/\h_ (ss.map .str)<=1:=by
 induction ss with
|nil=>simp[iA,h_]
|cons n ns cK=>
  have af:=h n (by simp);have ao:=cK λx hx=>h x (by simp[hx]);simp[iA,h_,jg,af,ao]
theorem J4:∀(ns ms:List Str),PyData.eqvAll (ns.map .str) (ms.map .str)=decide (ns=ms)
| [],[]=>by simp[PyData.eqvAll]
| [],_::_=>by simp[PyData.eqvAll]
|_::_,[]=>by simp[PyData.eqvAll]
|n::ns,m::ms=>by simp[PyData.eqvAll,fu,J4 ns ms,Bool.beq_eq_decide_eq]
def Li(ns ms:List Str):fu (.tuple (ns.map .str)) (.tuple (ms.map .str))=decide (ns=ms):=by rw[fu,J4]
theorem Lf(n:Str):∀ns:List Str,lG (.str n) (ns.map .str)=decide (n∈ns)
| []=>by simp[lG]
|m::ns=>by
  have cK:=Lf n ns;unfold lG at cK ⊢;rw[eK,List.any_cons,cK];simp[fu,Bool.beq_eq_decide_eq,eq_comm]
def F3(n:Int):dI (.int n)=true:=by simp[dI,PyData.canLay0,jg]
def abW{x:Str}(h:(jf x).canLay0=true):dI (.str x)=true:=by simp[dI,jg,h]
def _T(ss:List Str)(h:∀x∈ss,(jf x).canLay0=true):n8 (ss.map .str)=true:=by
 have:=y0 ss h;simp[n8,this.1];omega
def abY(neg:Bool)(n:Str)(ns:List Str)(h0:(jf n).canLay0=true)(h:∀x∈ns,(jf x).canLay0=true):gw neg (.str n) (.tuple (ns.map .str))=some (.bool (if neg then !decide (n∈ns) else decide (n∈ns))):=by
 simp only[gw,abW h0,_T ns h,Lf,Bool.and_self,if_true]
end D
end
section
namespace b1
open D PySem
structure md where
 jX:Str
 jI:Str
 pl:List Str
 uses:Int
structure cA where
 fy:List (Str×Str)
 codes:List md
 leave:Int
 rJ:Int
 loud:Int
structure cY where
 mode:Str
 left:Int
 oT:Option Str
 lines:List (Str×Str)
 j3:List Str
 pq:Int
 lh:List Str
 tries:Int
 locked:Int
 used:List (Str×Int)
 past:Int
 told:List (Int×Str×Option Str)
def pg:Option Str->T
|none=>.none
|some x=>.str x
def e8(z:Str×Str):T:=.tuple [.str z.1,.str z.2]
def gm(c:md):T:=.tuple [.str c.jX,.str c.jI,.tuple (c.pl.map .str),.int c.uses]
def bM(p:cA):T:=.tuple [.tuple (p.fy.map e8),.tuple (p.codes.map gm),.tuple [.int p.leave,.int p.rJ,.int p.loud]]
def w2(w:Int×Str×Option Str):T:=.tuple [.int w.1,.str w.2.1,pg w.2.2]
def A8(l:List (Str×Str)):List (D.Key×T):=l.map λp=>(.inr p.1,.str p.2)
def A7(l:List (Str×Int)):List (D.Key×T):=l.map λp=>(.inr p.1,.int p.2)
noncomputable def encC(p:cA)(c:cY):List bW:=[.aa (bM p),.aa (.str c.mode),.aa (.int c.left),.aa (pg c.oT),.hs (A8 c.lines),.own (c.j3.map .str),.aa (.int c.pq),.own (c.lh.map .str),.aa (.int c.tries),.aa (.int c.locked),.hs (A7 c.used),.aa (.int c.past),.own (c.told.map w2)]
def Yx:¬(("off":Str)="leaving"):=by decide +kernel
def abb:¬(("off":Str)="on"):=by decide +kernel
def YT:¬(("off":Str)="coming"):=by decide +kernel
def Yy:¬(("leaving":Str)="off"):=by decide +kernel
def YV:¬(("leaving":Str)="on"):=by decide +kernel
def Yf:¬(("leaving":Str)="coming"):=by decide +kernel
def aba:¬(("on":Str)="off"):=by decide +kernel
def YS:¬(("on":Str)="leaving"):=by decide +kernel
def Zm:¬(("on":Str)="coming"):=by decide +kernel
def YZ:¬(("coming":Str)="off"):=by decide +kernel
def Yg:¬(("coming":Str)="leaving"):=by decide +kernel
def Zr:¬(("coming":Str)="on"):=by decide +kernel
def Zh:¬(("shut":Str)="open"):=by decide +kernel
def Z4:¬(("shut":Str)="cut"):=by decide +kernel
def Zl:¬(("open":Str)="shut"):=by decide +kernel
def Z6:¬(("open":Str)="cut"):=by decide +kernel
def Z':¬(("cut":Str)="shut"):=by decide +kernel
def _a:¬(("cut":Str)="open"):=by decide +kernel
def Zq:¬(("day":Str)="inner"):=by decide +kernel
def Z_:¬(("day":Str)="once"):=by decide +kernel
def _W:¬(("day":Str)="way"):=by decide +kernel
def Zp:¬(("inner":Str)="day"):=by decide +kernel
def YW:¬(("inner":Str)="once"):=by decide +kernel
def Zo:¬(("inner":Str)="way"):=by decide +kernel
def Z8:¬(("once":Str)="day"):=by decide +kernel
def YR:¬(("once":Str)="inner"):=by decide +kernel
def Z7:¬(("once":Str)="way"):=by decide +kernel
def _V:¬(("way":Str)="day"):=by decide +kernel
def Zf:¬(("way":Str)="inner"):=by decide +kernel
def Z3:¬(("way":Str)="once"):=by decide +kernel
def Zj:¬(("set":Str)="unset"):=by decide +kernel
def Zk:¬(("set":Str)="shunt"):=by decide +kernel
def Z5:¬(("set":Str)="free"):=by decide +kernel
def Zg:¬(("unset":Str)="set"):=by decide +kernel
def Yv:¬(("unset":Str)="shunt"):=by decide +kernel
def YN:¬(("unset":Str)="free"):=by decide +kernel
def Zi:¬(("shunt":Str)="set"):=by decide +kernel
def Yw:¬(("shunt":Str)="unset"):=by decide +kernel
def YQ:¬(("shunt":Str)="free"):=by decide +kernel
def Z9:¬(("free":Str)="set"):=by decide +kernel
def YX:¬(("free":Str)="unset"):=by decide +kernel
def YY:¬(("free":Str)="shunt"):=by decide +kernel
def Zn:¬(("line":Str)="code"):=by decide +kernel
def YU:¬(("line":Str)="ticks"):=by decide +kernel
def Zs:¬(("code":Str)="line"):=by decide +kernel
def Y0:¬(("code":Str)="ticks"):=by decide +kernel
def YO:¬(("ticks":Str)="line"):=by decide +kernel
def YP:¬(("ticks":Str)="code"):=by decide +kernel
def tell(w:Str)(n:Option Str)(c:cY):cY:={c with told:=c.told++[(c.past,w,n)]}
def Ar(p:cA)(c:cY):cY:={c with pq:=p.loud}
def tG(p:cA)(z:Str)(c:cY):cY:=if z∈c.lh then Ar p c else tell "alarm" (some z) {Ar p c with lh:=c.lh++[z]}
section
variable (p:cA)(c:cY)
def aeM:(encC p c).length=13:=rfl
def bG:(encC p c)[0]?=some (.aa (bM p)):=rfl
def aC:(encC p c)[1]?=some (.aa (.str c.mode)):=rfl
def aR:(encC p c)[2]?=some (.aa (.int c.left)):=rfl
def en:(encC p c)[3]?=some (.aa (pg c.oT)):=rfl
def ik:(encC p c)[4]?=some (.hs (A8 c.lines)):=rfl
def rO:(encC p c)[5]?=some (.own (c.j3.map .str)):=rfl
def rP:(encC p c)[6]?=some (.aa (.int c.pq)):=rfl
def rQ:(encC p c)[7]?=some (.own (c.lh.map .str)):=rfl
def wZ:(encC p c)[8]?=some (.aa (.int c.tries)):=rfl
def rR:(encC p c)[9]?=some (.aa (.int c.locked)):=rfl
def wW:(encC p c)[10]?=some (.hs (A7 c.used)):=rfl
def wX:(encC p c)[11]?=some (.aa (.int c.past)):=rfl
def wY:(encC p c)[12]?=some (.own (c.told.map w2)):=rfl
def s1(x:Str):(encC p c).set 1 (.aa (.str x))=encC p {c with mode:=x}:=rfl
def s2(x:Int):(encC p c).set 2 (.aa (.int x))=encC p {c with left:=x}:=rfl
def s3(x:Str):(encC p c).set 3 (.aa (.str x))=encC p {c with oT:=some x}:=rfl
def xF:(encC p c).set 3 (.aa .none)=encC p {c with oT:=none}:=rfl
def s4(l:List (Str×Str)):(encC p c).set 4 (.hs (A8 l))=encC p {c with lines:=l}:=rfl
def s5(l:List Str):(encC p c).set 5 (.own (l.map .str))=encC p {c with j3:=l}:=rfl
def xG:(encC p c).set 5 (.own [])=encC p {c with j3:=[]}:=rfl
def fq(x:Int):(encC p c).set 6 (.aa (.int x))=encC p {c with pq:=x}:=rfl
def dC(l:List Str):(encC p c).set 7 (.own (l.map .str))=encC p {c with lh:=l}:=rfl
def xI:(encC p c).set 7 (.own [])=encC p {c with lh:=[]}:=rfl
def xH(l:List Str)(z:Str):(encC p c).set 7 (.own (l.map .str++[.str z]))=encC p {c with lh:=l++[z]}:=by simp[encC]
def d3(x:Int):(encC p c).set 8 (.aa (.int x))=encC p {c with tries:=x}:=rfl
def fW(x:Int):(encC p c).set 9 (.aa (.int x))=encC p {c with locked:=x}:=rfl
def xC(l:List (Str×Int)):(encC p c).set 10 (.hs (A7 l))=encC p {c with used:=l}:=rfl
def xD(x:Int):(encC p c).set 11 (.aa (.int x))=encC p {c with past:=x}:=rfl
def xE(l:List (Int×Str×Option Str))(i:Int)(w:Str)(n:Option Str):(encC p c).set 12 (.own (l.map w2++[.tuple [.int i,.str w,pg n]]))=encC p {c with told:=l++[(i,w,n)]}:=by simp[encC,w2]
end
end b1
open D b1
open PySem hiding run fresh code
local macro_rules
| `(tactic| simp! [aeq,$xs,*] $[$l]?)=>`(tactic| simp[aeM,bG,aC,aR,en,ik,rO,rP,rQ,wZ,rR,wW,wX,wY,s1,s2,s3,xF,s4,s5,xG,fq,dC,xI,xH,d3,fW,xC,xD,xE,runM,uS,pH,ri,tU,we,wd,uQ,v_,uR,tI,wk,tL,tH,lV,kN,fld,rU,oY,rT,tW,v',wi,rn,never,tJ,uw,ki,bE,seq,iff,aP,j7,e6,cc,bD,dd,ofT,bN,ab,aq,args,U,nm,ar,aW,skip,asg,iU,hV,par,aJ,da,hD,fO,ax,eH,e',aX,dg,fG,dT,comp,gD,$xs,*] $[$l]?)
local macro_rules
| `(tactic| simp! [xM,$xs,*] $[$l]?)=>`(tactic| simp[bE,seq,iff,aP,j7,e6,cc,bD,dd,ofT,bN,ab,aq,args,U,nm,ar,aW,skip,asg,iU,hV,par,aJ,da,hD,fO,ax,eH,e',aX,dg,fG,dT,comp,gD,$xs,*] $[$l]?)
| `(tactic| simp! [xM] $[$l]?)=>`(tactic| simp[bE,seq,iff,aP,j7,e6,cc,bD,dd,ofT,bN,ab,aq,args,U,nm,ar,aW,skip,asg,iU,hV,par,aJ,da,hD,fO,ax,eH,e',aX,dg,fG,dT,comp,gD] $[$l]?)
local macro_rules
| `(tactic| simp! [aer,$xs,*] $[$l]?)=>`(tactic| simp[bb,jB,cZ,oDiv,oMod,kM,de,lR,lQ,hI,iL,xu,oLt,oLe,fU,mQ,big,aeM,bG,aC,aR,en,ik,rO,rP,rQ,wZ,rR,wW,wX,wY,s1,s2,s3,xF,s4,s5,xG,fq,dC,xI,xH,d3,fW,xC,xD,xE,runM,uS,pH,ri,tU,we,wd,uQ,v_,uR,tI,wk,tL,tH,lV,kN,fld,rU,oY,rT,tW,v',wi,rn,never,tJ,uw,ki,bE,seq,iff,aP,j7,e6,cc,bD,dd,ofT,bN,ab,aq,args,U,nm,ar,aW,skip,asg,iU,hV,par,aJ,da,hD,fO,ax,eH,e',aX,dg,fG,dT,comp,gD,$xs,*] $[$l]?)
local macro_rules
| `(tactic| simp! [aes,$xs,*] $[$l]?)=>`(tactic| simp[runM,uS,pH,ri,tU,we,wd,uQ,v_,uR,tI,wk,tL,tH,lV,kN,fld,rU,oY,rT,tW,v',wi,rn,never,tJ,uw,ki,bE,seq,iff,aP,j7,e6,cc,bD,dd,ofT,bN,ab,aq,args,U,nm,ar,aW,skip,asg,iU,hV,par,aJ,da,hD,fO,ax,eH,e',aX,dg,fG,dT,comp,gD,$xs,*] $[$l]?)
local macro_rules
| `(tactic| simp! [aet,$xs,*] $[$l]?)=>`(tactic| simp[aeM,bG,aC,aR,en,ik,rO,rP,rQ,wZ,rR,wW,wX,wY,s1,s2,s3,xF,s4,s5,xG,fq,dC,xI,xH,d3,fW,xC,xD,xE,runM,uS,pH,ri,tU,we,wd,uQ,v_,uR,tI,wk,tL,tH,lV,kN,fld,rU,oY,rT,tW,v',wi,rn,never,tJ,uw,ki,Yx,abb,YT,Yy,YV,Yf,aba,YS,Zm,YZ,Yg,Zr,Zh,Z4,Zl,Z6,Z',_a,Zq,Z_,_W,Zp,YW,Zo,Z8,YR,Z7,_V,Zf,Z3,Zj,Zk,Z5,Zg,Yv,YN,Zi,Yw,YQ,Z9,YX,YY,Zn,YU,Zs,Y0,YO,YP,bE,seq,iff,aP,j7,e6,cc,bD,dd,ofT,bN,ab,aq,args,U,nm,ar,aW,skip,asg,iU,hV,par,aJ,da,hD,fO,ax,eH,e',aX,dg,fG,dT,comp,gD,$xs,*] $[$l]?)
local macro_rules
| `(tactic| simp! [Jm,$xs,*] $[$l]?)=>`(tactic| simp[bb,jB,cZ,oDiv,oMod,kM,de,lR,lQ,hI,iL,xu,oLt,oLe,fU,mQ,big,bE,seq,iff,aP,j7,e6,cc,bD,dd,ofT,bN,ab,aq,args,U,nm,ar,aW,skip,asg,iU,hV,par,aJ,da,hD,fO,ax,eH,e',aX,dg,fG,dT,comp,gD,$xs,*] $[$l]?)
local macro_rules
| `(tactic| simp! [aeu,$xs,*] $[$l]?)=>`(tactic| simp[runM,uS,pH,ri,tU,we,wd,uQ,v_,uR,tI,wk,tL,tH,lV,kN,fld,rU,oY,rT,tW,v',wi,rn,never,tJ,uw,ki,$xs,*] $[$l]?)
local macro_rules
| `(tactic| simp! [aev,$xs,*] $[$l]?)=>`(tactic| simp[aeM,bG,aC,aR,en,ik,rO,rP,rQ,wZ,rR,wW,wX,wY,s1,s2,s3,xF,s4,s5,xG,fq,dC,xI,xH,d3,fW,xC,xD,xE,$xs,*] $[$l]?)
local macro_rules
| `(tactic| simp! [gf,$xs,*] $[$l]?)=>`(tactic| simp[bE,seq,iff,aP,j7,e6,cc,bD,dd,ofT,bN,ab,aq,args,U,nm,ar,aW,skip,asg,iU,hV,par,aJ,da,hD,fO,aX,dg,fG,dT,comp,gD,$xs,*] $[$l]?)
| `(tactic| simp! [gf] $[$l]?)=>`(tactic| simp[bE,seq,iff,aP,j7,e6,cc,bD,dd,ofT,bN,ab,aq,args,U,nm,ar,aW,skip,asg,iU,hV,par,aJ,da,hD,fO,aX,dg,fG,dT,comp,gD] $[$l]?)
namespace b1
open D PySem
def xv(x:Str):Prop:=(jf x).canLay0=true
def aa9(neg:Bool){n:Str}{ns:List Str}(h0:xv n)(h:∀x∈ns,xv x):gw neg (.str n) (.tuple (ns.map .str))=some (.bool (if neg then !decide (n∈ns) else decide (n∈ns))):=abY neg n ns h0 h
def kindOf(p:cA)(z:Str):Str:=((p.fy.find? λx=>decide (x.1=z)).map (·.2)).getD ""
def codeOf(p:cA)(f:Str):Option md:=p.codes.find? λk=>decide (k.jX=f)
def Gl(c:cY)(z:Str):Str:=(c.lines.lookup z).getD ""
def xK(l:List (Str×Str))(z w:Str):List (Str×Str):=l.map λp=>if p.1=z then (z,w) else p
def aco(c:cY)(f:Str):Int:=(c.used.lookup f).getD 0
def N7(l:List (Str×Int))(f:Str):List (Str×Int):=l.map λp=>if p.1=f then (f,p.2+1) else p
def bare(p:cA)(kinds:List Str)(c:cY):List Str:=((p.fy.filter λz=>decide (z.2∈kinds)).map (·.1)).filter λz=>decide (Gl c z≠"shut") && !decide (z∈c.j3)
def adt(p:cA)(z k:Str)(c:cY):cY:=if k≠"way"\/p.rJ<=0 then tG p z c else tell "coming" (some z) {c with mode:="coming",left:=p.rJ,oT:=some z}
noncomputable def aca(p:cA)(z w:Str)(c:cY):cY:=
 if kindOf p z="day" then tG p z c
 else if c.mode="off" then (if w="cut" then tell "fault" (some z) c else c)
 else if w="cut"\/kindOf p z="once" then tG p z c
 else if c.mode="on" then adt p z (kindOf p z) c else c
noncomputable def line(p:cA)(z w:Str)(c:cY):cY:=
 if w=Gl c z then c
 else if w="shut" then (if Gl c z="cut" then tell "mended" (some z) {c with lines:=xK c.lines z w} else {c with lines:=xK c.lines z w})
 else if z∈c.j3 then {c with lines:=xK c.lines z w} else aca p z w {c with lines:=xK c.lines z w}
def less(a n:Int):Int:=if 0 > a - n then 0 else a - n
def Fx(n:Int)(c:cY):cY:={c with past:=c.past+n,locked:=less c.locked n,pq:=less c.pq n,left:=less c.left n}
def lh(p:cA)(zs:List Str)(c:cY):cY:=zs.foldl (λc z=>tG p z c) c
def Km(p:cA)(c:cY):cY:=lh p (bare p ["inner","way"] (tell "on" none {c with mode:="on",left:=0})) (tell "on" none {c with mode:="on",left:=0})
def aao(p:cA)(c:cY):cY:=tG p (c.oT.getD "") {c with mode:="on",oT:=none}
def ab_(p:cA)(c:cY):cY:=if c.mode="leaving" then Km p c else aao p c
noncomputable def kU(p:cA)(n:Int)(c:cY):cY:=
 if n<1 then c else if (c.mode="leaving"\/c.mode="coming")/\c.left<=n then Fx (n - c.left) (ab_ p (Fx c.left c)) else Fx n c
def acn(k:md)(c:cY):Bool:=decide (k.uses≠0) && decide (k.uses<=aco c k.jX)
def JD(c:cY):cY:={tell "wrong" none c with tries:=c.tries+1}
def Kt(p:cA)(c:cY):cY:=if 3<=c.tries+1 then tell "attack" none (Ar p {JD c with tries:=0,locked:=90}) else JD c
noncomputable def aaK(p:cA)(d:Str)(z:Option Str)(c:cY):Bool:=
 if d="unset" then false else if c.mode≠"off" then true
 else if d="shunt" then decide (kindOf p (z.getD "")="day") || decide (z.getD ""∈c.j3)
 else decide (d="free") && !decide (z.getD ""∈c.j3)
noncomputable def ack(p:cA)(k:md)(d:Str)(z:Option Str)(c:cY):Option (Str×Str):=
 if (if d="free" then ("shunt":Str) else d)∉k.pl then some ("denied",k.jI)
 else if aaK p d z c then some ("no",k.jI)
 else if d="set"/\bare p ["day","once"] c≠[] then some ("open",(bare p ["day","once"] c).headD "") else none
def ad2(p:cA)(jI:Str)(c:cY):cY:=
 let dc:=tell "set" (some jI) {c with lh:=[],pq:=0,mode:="leaving",left:=p.leave}
 if p.leave<=0 then Km p dc else dc
def ab'(jI:Str)(c:cY):cY:=tell "unset" (some jI) {c with mode:="off",left:=0,pq:=0,oT:=none,j3:=[]}
noncomputable def adq(p:cA)(jI d:Str)(z:Option Str)(c:cY):cY:=
 if d="set" then ad2 p jI c else if d="unset" then ab' jI c
 else if d="shunt" then tell "shunt" z {c with j3:=hK (c.j3++[z.getD ""])}
 else tell "free" z {c with j3:=c.j3.erase (z.getD "")}
noncomputable def takeRight(p:cA)(k:md)(d:Str)(z:Option Str)(c:cY):cY:=match ack p k d z c with
|none=>adq p k.jI d z {c with used:=N7 c.used k.jX}
|some (w,n)=>tell w (some n) c
noncomputable def code(p:cA)(f d:Str)(z:Option Str)(c:cY):cY:=
 if 0<c.locked then tell "locked" none c else match codeOf p f with
  |none=>Kt p c
  |some k=>if acn k c then Kt p c else takeRight p k d z {c with tries:=0}
end b1
section
namespace b1
open D PySem
def vH:(2<=big)=True:=by simp[big]
def I6(p:cA)(d:Str)(z:Option Str):Prop:=(d="shunt"\/d="free")->∃x,z=some x/\x∈p.fy.map (·.1)
inductive nj where
|line (z w:Str)
|code (f d:Str) (z:Option Str)
|kU (n:Int)
def eZ:nj->T
|.line z w=>.tuple [.str "line",.str z,.str w]
|.code f d z=>.tuple [.str "code",.str f,.str d,pg z]
|.kU n=>.tuple [.str "ticks",.int n]
def adl(p:cA)(c:cY):nj->cY
|.line z w=>line p z w c
|.code f d z=>code p f d z c
|.kU n=>kU p n c
end b1
end
section
namespace b1
open D PySem
local instance:bX:=⟨[],λ_=>[],λ_=>none⟩
def run(p:cA)(c:cY)(av:List nj):cY:=av.foldl (adl p) c
def fresh(c:cY):cY:={c with past:=0,told:=[]}
end b1
end
section
namespace b1
open D PySem
local instance:bX:=⟨[],λ_=>[],λ_=>none⟩
def F_(ns:List Int)(k:Nat):kc [dw ns,.int k]=some (.int (ns.getD k 0)):=by
 by_cases h:k<ns.length
 ·have h':(k:Int)<(ns.length:Int):=by omega
  simp! [Jm,kc,q9,dw,h,h',List.getD]
 ·have h':¬(k:Int)<(ns.length:Int):=by omega
  simp! [Jm,kc,q9,dw,h,h',List.getD]
def iv{i j:Int}(h:-(2 ^ 64)<j/\j<2 ^ 64):cZ (.int i) (.int j)=some (.int (i*j)):=by
 unfold cZ tn;simp only[decide_eq_true h.1,decide_eq_true h.2,Bool.and_self,Bool.or_true,if_true]
def iH{i j:Int}(h:0<j):oMod (.int i) (.int j)=some (.int (i % j)):=if_pos h
def td{i j:Int}(h:0<j/\j<1073741824):oDiv (.int i) (.int j)=some (.int (i / j)):=if_pos h
def hh{i j:Int}:bb (.int i) (.int j)=some (.int (i+j)):=rfl
def dD{a b:ba}{ε ε':Ev}(h:a ε=some (.nx ε')):seq a b ε=b ε':=by
 unfold seq;rw[h];rfl
def uE(ns:List Int)(k:Nat):∃m:Int,0<=m/\fw [dw ns,.int k]=some (.int m):=by
 have au:=F_ ns k;have hd:0<=(ns.getD k 0+7919*(k:Int)+1)*48271 % 2147483647/\(ns.getD k 0+7919*(k:Int)+1)*48271 % 2147483647<2147483647:=⟨iC _ (by decide),kX _ (by decide)⟩;generalize hx:(ns.getD k 0+7919*(k:Int)+1)*48271 % 2147483647=d at hd;refine⟨(d*d+7*d+k) % 2147483629,iC _ (by decide),?_⟩;have bG:fw [dw ns,.int k]=(rb [some (.aa (dw ns)),some (.aa (.int k)),none]).bind λo=>match o with|.dn t=>some t|.nx _=>some .none|_=>none:=rfl
 have h6:cZ (.int 7919) (.int k)=some (.int (7919*k)):=by
  unfold cZ tn;simp
 have fo:ar 0 [some (.aa (dw ns)),some (.aa (.int k)),none]=some (dw ns):=rfl;have dR:ar 1 [some (.aa (dw ns)),some (.aa (.int k)),none]=some (.int k):=rfl;have DW:nm 1 [some (.aa (dw ns)),some (.aa (.int k)),none]=some (.int k):=rfl;have s1:asg 2 (ab oMod (ab cZ (ab bb (ab bb (aq kc [(ar 0),(ar 1)]) (ab cZ (U (.int 7919)) (nm 1))) (U (.int 1))) (U (.int 48271))) (U (.int 2147483647))) [some (.aa (dw ns)),some (.aa (.int k)),none]=some (.nx [some (.aa (dw ns)),some (.aa (.int k)),some (.aa (.int d))]):=by
  simp only[asg,ab,aq,args,fo,dR,DW,br,c2,au,U,h6,hh,iv (i:=ns.getD k 0+7919*(k:Int)+1) (j:=48271) (by decide),iH (j:=2147483647) (by decide),hx];rfl
 have i_:cZ (.int d) (.int d)=some (.int (d*d)):=iv (by omega);have lN:cZ (.int 7) (.int d)=some (.int (7*d)):=iv (by omega);rw[bG];unfold rb;rw[dD s1];have bg:nm 2 [some (.aa (dw ns)),some (.aa (.int k)),some (.aa (.int d))]=some (.int d):=rfl;have aT:nm 1 [some (.aa (dw ns)),some (.aa (.int k)),some (.aa (.int d))]=some (.int k):=rfl;simp only[aW,ab,bg,aT,br,c2,U,i_,lN,hh,iH (j:=2147483629) (by decide)]
def rM(n k:Int)(aV:-(2 ^ 64)<k/\k<2 ^ 64):∃m:Int,0<=m/\f3 [.int n,.int k]=some (.int m):=by
 have hd:0<=(n+104729*k+17)*69621 % 2147483647/\(n+104729*k+17)*69621 % 2147483647<2147483647:=⟨iC _ (by decide),kX _ (by decide)⟩;generalize hx:(n+104729*k+17)*69621 % 2147483647=d at hd;refine⟨(d*d+3*d+k) % 2147483629,iC _ (by decide),?_⟩;have bG:f3 [.int n,.int k]=(rd [some (.aa (.int n)),some (.aa (.int k)),none]).bind λo=>match o with|.dn t=>some t|.nx _=>some .none|_=>none:=rfl
 have h6:cZ (.int 104729) (.int k)=some (.int (104729*k)):=iv aV;have fo:nm 0 [some (.aa (.int n)),some (.aa (.int k)),none]=some (.int n):=rfl;have dR:nm 1 [some (.aa (.int n)),some (.aa (.int k)),none]=some (.int k):=rfl;have s1:asg 2 (ab oMod (ab cZ (ab bb (ab bb (nm 0) (ab cZ (U (.int 104729)) (nm 1))) (U (.int 17))) (U (.int 69621))) (U (.int 2147483647))) [some (.aa (.int n)),some (.aa (.int k)),none]=some (.nx [some (.aa (.int n)),some (.aa (.int k)),some (.aa (.int d))]):=by
  simp only[asg,ab,fo,dR,br,c2,U,h6,hh,iv (i:=n+104729*k+17) (j:=69621) (by decide),iH (j:=2147483647) (by decide),hx];rfl
 have i_:cZ (.int d) (.int d)=some (.int (d*d)):=iv (by omega);have lN:cZ (.int 3) (.int d)=some (.int (3*d)):=iv (by omega);rw[bG];unfold rd;rw[dD s1];have bg:nm 2 [some (.aa (.int n)),some (.aa (.int k)),some (.aa (.int d))]=some (.int d):=rfl;have aT:nm 1 [some (.aa (.int n)),some (.aa (.int k)),some (.aa (.int d))]=some (.int k):=rfl;simp only[aW,ab,bg,aT,br,c2,U,i_,lN,hh,iH (j:=2147483629) (by decide)]
def lP(a b:Int):oEq (.int a) (.int b)=some (.bool (decide (a=b))):=by
 unfold oEq;rw[F3,F3];by_cases e:a=b <;> simp[fu,e]
def divQ(m:Int)(j:Int)(h:0<j/\j<1073741824:=by decide):∃q,q=m / j/\oDiv (.int m) (.int j)=some (.int q):=⟨_,rfl,td h⟩
def modQ(m:Int)(j:Int)(h:0<j:=by decide):∃q,q=m % j/\0<=q/\q<j/\oMod (.int m) (.int j)=some (.int q):=⟨_,rfl,iC _ (by omega),kX _ h,iH h⟩
def xj{ts:List T}{j:Int}(h0:0<=j)(af:j<ts.length):∃t∈ts,ax (.tuple ts) (.int j)=some t:=by
 have dG:j.toNat<ts.length:=by omega
 refine⟨ts[j.toNat],List.getElem_mem dG,?_⟩
 simp only[ax,eH,e',if_pos h0,if_pos af,br];exact ft dG
def uA(ss:List Str){j:Int}(h0:0<=j)(af:j<ss.length):∃s∈ss,ax (.tuple (ss.map .str)) (.int j)=some (.str s):=by
 obtain⟨t,aM,e⟩:=xj (ts:=ss.map .str) h0 (by simpa using af);obtain⟨s,aA,rfl⟩:=ei.mp aM;exact⟨s,aA,e⟩
def uz(ss:List Int){j:Int}(h0:0<=j)(af:j<ss.length):∃s∈ss,ax (.tuple (ss.map .int)) (.int j)=some (.int s):=by
 obtain⟨t,aM,e⟩:=xj (ts:=ss.map .int) h0 (by simpa using af);obtain⟨s,aA,rfl⟩:=ei.mp aM;exact⟨s,aA,e⟩
def F7:(5<=big)=True:=by simp[big]
def sY:(4<=big)=True:=by simp[big]
def oB:(3<=big)=True:=by simp[big]
def Gf:(6<=big)=True:=by simp[big]
def abp:(8<=big)=True:=by simp[big]
def one_le:(1<=big)=True:=by simp[big]
noncomputable def ky:ba:=(seq (asg 4 (ab oDiv (aq f3 [(ar 0),(ar 2)]) (U (.int 4)))) (iff (cc (aP (ab oLt (ab oMod (nm 4) (U (.int 8))) (ab bb (U (.int 3)) (ab oMod (nm 0) (U (.int 5)))))) (aP (ab oEq (nm 2) (ab oMod (ab oDiv (nm 0) (U (.int 8))) (U (.int 8)))))) (asg 1 (ab bb (nm 1) (aJ [(aJ [(ar 3),(ab ax (aJ [(U (.str "day")),(U (.str "inner")),(U (.str "once")),(U (.str "way")),(U (.str "way"))]) (ab oMod (ab oDiv (nm 4) (U (.int 8))) (U (.int 5))))])]))) skip))
def mE(x:Int×Str):T:=.tuple [.int x.1,.str x.2]
def kinds:List Str:=["day","inner","once","way","way"]
theorem Fi(n:Int):∀(l:List (Int×Str)) (acc:List (Str×Str)) (s2 s3 s4:Option bW),(∀x∈l,0<=x.1/\x.1<100)->acc.length+l.length<=20->∃zs g7 lU h8,(zs.map (·.1)).Sublist (l.map (·.2))/\(∀z∈zs,z.2∈kinds)/\((∃x∈l,x.1=n / 8 % 8)->zs≠[]) /\
  forL (dg [(aX 2),(aX 3)]) ky (l.map mE) [some (.aa (.int n)),some (.aa (.tuple (acc.map e8))),s2,s3,s4,none,none,none,none,none]=some (.nx [some (.aa (.int n)),some (.aa (.tuple ((acc++zs).map e8))),g7,lU,h8,none,none,none,none,none])
| [],acc,s2,s3,s4,_,_=>⟨[],s2,s3,s4,.refl _,by simp,by simp,by simp[forL]⟩
|x::l,acc,s2,s3,s4,hx,aF=>by
  obtain⟨m,hm,iY⟩:=rM n x.1 (by have:=hx x mV;omega);obtain⟨q,a0,ij⟩:=divQ m 4;obtain⟨r,_,_,_,iZ⟩:=modQ q 8;obtain⟨bU,_,_,_,mA⟩:=modQ n 5;obtain⟨aT,mO,mB⟩:=divQ n 8;obtain⟨a',xe,_,_,mC⟩:=modQ aT 8;obtain⟨bg,nX,mD⟩:=divQ q 8;obtain⟨cL,_,h0,af,lr⟩:=modQ bg 5;obtain⟨s,aA,jW⟩:=uA kinds h0 af;simp only[kinds,eK,om] at jW;simp only[gi] at aF;have bK:acc.length+1<=big:=by unfold big;omega
  have kF:∀y∈l,0<=y.1/\y.1<100:=λy bl=>hx y (gz _ bl);by_cases au:r<3+bU\/x.1=a'
  ·obtain⟨zs,g7,lU,h8,cP,cS,qr,n2⟩:=Fi n l (acc++[(x.2,s)]) (some (.aa (.int x.1))) (some (.aa (.str x.2))) (some (.aa (.int q))) kF (by simp;omega);refine⟨(x.2,s)::zs,g7,lU,h8,by simpa using cP,λz hz=>?_,λ_=>by simp,?_⟩
   ·rcases bS.mp hz with rfl|hz
    ·exact aA
    ·exact cS z hz
   ·rw[eK,forL];have:ky [some (.aa (.int n)),some (.aa (.tuple (acc.map e8))),some (.aa (.int x.1)),some (.aa (.str x.2)),s4,none,none,none,none,none]=some (.nx [some (.aa (.int n)),some (.aa (.tuple ((acc++[(x.2,s)]).map e8))),some (.aa (.int x.1)),some (.aa (.str x.2)),some (.aa (.int q)),none,none,none,none,none]):=by
     by_cases b2:r<3+bU
     ·simp! [gf,ky,iY,ij,iZ,mA,mB,mC,mD,lr,jW,hh,oLt,b2,bb,bK,F7,vH,one_le,e8]
     ·have lq:oEq (.int x.1) (.int a')=some (.bool true):=by rw[lP,decide_eq_true (au.resolve_left b2)]
      simp! [gf,ky,iY,ij,iZ,mA,mB,mC,mD,lr,jW,hh,oLt,b2,lq,bb,bK,F7,vH,one_le,e8]
    simp only[mE,dg,fG,aX,br,oq,oo,this];simpa using n2
  ·obtain⟨zs,g7,lU,h8,cP,cS,qr,n2⟩:=Fi n l acc (some (.aa (.int x.1))) (some (.aa (.str x.2))) (some (.aa (.int q))) kF (by omega);refine⟨zs,g7,lU,h8,cP.cons _,cS,λ⟨y,bl,e⟩=>qr ?_,?_⟩
   ·rcases bS.mp bl with rfl|bl
    ·exact absurd (.inr (by rw[e,xe,mO])) au
    ·exact⟨y,bl,e⟩
   ·rw[eK,forL];have:ky [some (.aa (.int n)),some (.aa (.tuple (acc.map e8))),some (.aa (.int x.1)),some (.aa (.str x.2)),s4,none,none,none,none,none]=some (.nx [some (.aa (.int n)),some (.aa (.tuple (acc.map e8))),some (.aa (.int x.1)),some (.aa (.str x.2)),some (.aa (.int q)),none,none,none,none,none]):=by
     have g4:¬r<3+bU:=λz=>au (.inl z);have ht:¬x.1=a':=λz=>au (.inr z);simp! [gf,ky,iY,ij,iZ,mA,mB,mC,mD,lr,jW,hh,oLt,g4,ht,lP]
    simp only[mE,dg,fG,aX,br,oq,oo,this];exact n2
def V5:kR 0 3=[.int 0,.int 1,.int 2]:=by simp[kR,List.range_succ]
def qa:ek:=aP (ab fU (ab oMod (ab oDiv (nm 1) (ab ax (aJ [(U (.int 4)),(U (.int 16)),(U (.int 64))]) (nm 0))) (U (.int 4))) (U (.int 0)))
def lu:aY:=ab ax (aJ [(U (.str "set")),(U (.str "shunt")),(U (.str "unset"))]) (nm 0)
def f5:List Str:=["set","shunt","unset"]
def _L(q:Int)(ε:Ev)(h:(ε[4]?).join=some (.aa (.int q))):∃rs:List Str,rs.Sublist f5/\comp 1 [4] (iI (U (.int 3))) (aX 0) qa lu ε=some (.list (rs.map .str)):=by
 have key:∀j n4:Int,ax (.tuple [.int 4,.int 16,.int 64]) (.int j)=some (.int n4)->0<n4->n4<1073741824->∃b,qa [some (.aa (.int j)),some (.aa (.int q))]=some b:=by
  intro j n4 af ao bA;obtain⟨aT,_,iY⟩:=divQ q n4 ⟨ao,bA⟩;obtain⟨a',_,_,_,ij⟩:=modQ aT 4;exact⟨decide (0<a'),by simp! [gf,qa,af,iY,ij,fU,oB]⟩
 obtain⟨Am,jz⟩:=key 0 4 (by simp[ax,eH,e']) (by decide) (by decide);obtain⟨bK,eh⟩:=key 1 16 (by simp[ax,eH,e']) (by decide) (by decide);obtain⟨cq,cU⟩:=key 2 64 (by simp[ax,eH,e']) (by decide) (by decide);have fV:lu [some (.aa (.int 0)),some (.aa (.int q))]=some (.str "set"):=by simp! [xM,lu,oB]
 have a':lu [some (.aa (.int 1)),some (.aa (.int q))]=some (.str "shunt"):=by simp! [xM,lu,oB]
 have cL:lu [some (.aa (.int 2)),some (.aa (.int q))]=some (.str "unset"):=by simp! [xM,lu,oB]
 have rH:comp 1 [4] (iI (U (.int 3))) (aX 0) qa lu ε=(aeC (aX 0) qa lu [.int 0,.int 1,.int 2] [none,some (.aa (.int q))]).map .list:=by
  have s3:sW 3=true:=by decide
  simp[comp,iI,U,s3,V5,gD,h,oB]
 rw[rH];cases Am <;> cases bK <;> cases cq
 ·exact⟨[],by simp,by simp[aeC,aX,jz,eh,cU]⟩
 ·exact⟨["unset"],by decide,by simp[aeC,aX,jz,eh,cU,fV,a',cL]⟩
 ·exact⟨["shunt"],by decide,by simp[aeC,aX,jz,eh,cU,fV,a',cL]⟩
 ·exact⟨["shunt","unset"],by decide,by simp[aeC,aX,jz,eh,cU,fV,a',cL]⟩
 ·exact⟨["set"],by decide,by simp[aeC,aX,jz,eh,cU,fV,a',cL]⟩
 ·exact⟨["set","unset"],by decide,by simp[aeC,aX,jz,eh,cU,fV,a',cL]⟩
 ·exact⟨["set","shunt"],by decide,by simp[aeC,aX,jz,eh,cU,fV,a',cL]⟩
 ·exact⟨["set","shunt","unset"],by decide,by simp[aeC,aX,jz,eh,cU,fV,a',cL]⟩
noncomputable def lj:ba:=(seq (asg 4 (ab oDiv (aq f3 [(ar 0),(ab bb (U (.int 10)) (nm 2))]) (U (.int 4)))) (iff (cc (aP (ab fU (ab oMod (nm 4) (U (.int 3))) (U (.int 0)))) (aP (ab oEq (nm 2) (U (.int 1))))) (seq (asg 7 (aq hI [(comp 1 [4] (iI (U (.int 3))) (aX 0) qa lu)])) (seq (asg 8 (ab ax (aJ [(U (.str "ann")),(U (.str "bo")),(U (.str "cy"))]) (ab oMod (ab oDiv (nm 4) (U (.int 256))) (U (.int 3))))) (asg 5 (ab bb (nm 5) (aJ [(aJ [(ar 6),(ar 8),(ar 7),(ab ax (aJ [(U (.int 0)),(U (.int 0)),(U (.int 1)),(U (.int 2)),(U (.int 9))]) (ab oMod (ab oDiv (nm 4) (U (.int 1024))) (U (.int 5))))])]))))) skip))
def u1:List Str:=["ann","bo","cy"]
theorem Fd(n:Int)(s1 s3:Option bW):∀(l:List (Int×Str)) (acc:List md) (s2 s4 fq dC d3:Option bW),(∀x∈l,0<=x.1/\x.1<100)->acc.length+l.length<=20->∃ks g7 h8 n' oa ob,(ks.map (·.jX)).Sublist (l.map (·.2))/\(∀k∈ks,k.jI∈u1/\k.pl.Sublist f5/\k.uses∈([0,0,1,2,9]:List Int))/\((∃x∈l,x.1=1)->ks≠[]) /\
  forL (dg [(aX 2),(aX 6)]) lj (l.map mE) [some (.aa (.int n)),s1,s2,s3,s4,some (.aa (.tuple (acc.map gm))),fq,dC,d3,none]=some (.nx [some (.aa (.int n)),s1,g7,s3,h8,some (.aa (.tuple ((acc++ks).map gm))),n',oa,ob,none])
| [],acc,s2,s4,fq,dC,d3,_,_=>⟨[],s2,s4,fq,dC,d3,.refl _,by simp,by simp,by simp[forL]⟩
|x::l,acc,s2,s4,fq,dC,d3,hx,aF=>by
  obtain⟨m,hm,iY⟩:=rM n (10+x.1) (by have:=hx x mV;omega);obtain⟨q,a0,ij⟩:=divQ m 4;obtain⟨r,_,_,_,iZ⟩:=modQ q 3;obtain⟨aT,mO,mB⟩:=divQ q 256;obtain⟨a',xe,h0,af,mC⟩:=modQ aT 3;obtain⟨bg,nX,mD⟩:=divQ q 1024;obtain⟨cL,_,ao,bA,lr⟩:=modQ bg 5;obtain⟨s,aA,jW⟩:=uA u1 h0 af;obtain⟨u,bw,lq⟩:=uz [0,0,1,2,9] ao bA;simp only[u1,eK,om] at jW lq;simp only[gi] at aF;have bK:acc.length+1<=big:=by unfold big;omega
  have kF:∀y∈l,0<=y.1/\y.1<100:=λy bl=>hx y (gz _ bl);obtain⟨rs,o9,A9⟩:=_L q [some (.aa (.int n)),s1,some (.aa (.int x.1)),s3,some (.aa (.int q)),some (.aa (.tuple (acc.map gm))),some (.aa (.str x.2)),dC,d3,none] rfl;by_cases au:0<r\/x.1=1
  ·obtain⟨ks,g7,h8,n',oa,ob,cP,cS,qr,n2⟩:=Fd n s1 s3 l (acc++[(⟨x.2,s,rs,u⟩:md)]) (some (.aa (.int x.1))) (some (.aa (.int q))) (some (.aa (.str x.2))) (some (.aa (.tuple (rs.map .str)))) (some (.aa (.str s))) kF (by simp;omega);refine⟨⟨x.2,s,rs,u⟩::ks,g7,h8,n',oa,ob,by simpa using cP,λz hz=>?_,λ_=>by simp,?_⟩
   ·rcases bS.mp hz with rfl|hz
    ·exact⟨aA,o9,bw⟩
    ·exact cS z hz
   ·rw[eK,forL];have:lj [some (.aa (.int n)),s1,some (.aa (.int x.1)),s3,s4,some (.aa (.tuple (acc.map gm))),some (.aa (.str x.2)),dC,d3,none]=some (.nx [some (.aa (.int n)),s1,some (.aa (.int x.1)),s3,some (.aa (.int q)),some (.aa (.tuple ((acc++[(⟨x.2,s,rs,u⟩:md)]).map gm))),some (.aa (.str x.2)),some (.aa (.tuple (rs.map .str))),some (.aa (.str s)),none]):=by
     have Wb:asg 4 (ab oDiv (aq f3 [(ar 0),(ab bb (U (.int 10)) (nm 2))]) (U (.int 4))) [some (.aa (.int n)),s1,some (.aa (.int x.1)),s3,s4,some (.aa (.tuple (acc.map gm))),some (.aa (.str x.2)),dC,d3,none]=some (.nx [some (.aa (.int n)),s1,some (.aa (.int x.1)),s3,some (.aa (.int q)),some (.aa (.tuple (acc.map gm))),some (.aa (.str x.2)),dC,d3,none]):=by
      simp! [gf,hh,iY,ij]
     have g7:asg 7 (aq hI [(comp 1 [4] (iI (U (.int 3))) (aX 0) qa lu)]) [some (.aa (.int n)),s1,some (.aa (.int x.1)),s3,some (.aa (.int q)),some (.aa (.tuple (acc.map gm))),some (.aa (.str x.2)),dC,d3,none]=some (.nx [some (.aa (.int n)),s1,some (.aa (.int x.1)),s3,some (.aa (.int q)),some (.aa (.tuple (acc.map gm))),some (.aa (.str x.2)),some (.aa (.tuple (rs.map .str))),d3,none]):=by
      simp only[asg,aq,args,A9,br,c2,hI];rfl
     unfold lj;rw[dD Wb];have b_:cc (aP (ab fU (ab oMod (nm 4) (U (.int 3))) (U (.int 0)))) (aP (ab oEq (nm 2) (U (.int 1)))) [some (.aa (.int n)),s1,some (.aa (.int x.1)),s3,some (.aa (.int q)),some (.aa (.tuple (acc.map gm))),some (.aa (.str x.2)),dC,d3,none]=some true:=by
      by_cases b2:0<r
      ·simp! [gf,iZ,fU,b2]
      ·have rN:oEq (.int x.1) (.int 1)=some (.bool true):=by rw[lP,decide_eq_true (au.resolve_left b2)]
       simp! [gf,iZ,fU,b2,rN]
     simp only[iff,b_,br,if_true];rw[dD g7];simp! [gf,iZ,mB,mC,mD,lr,jW,lq,bb,bK,F7,sY,oB,one_le,gm]
    simp only[mE,dg,fG,aX,br,oq,oo,this];simpa using n2
  ·obtain⟨ks,g7,h8,n',oa,ob,cP,cS,qr,n2⟩:=Fd n s1 s3 l acc (some (.aa (.int x.1))) (some (.aa (.int q))) (some (.aa (.str x.2))) dC d3 kF (by omega);refine⟨ks,g7,h8,n',oa,ob,cP.cons _,cS,λ⟨y,bl,e⟩=>qr ?_,?_⟩
   ·rcases bS.mp bl with rfl|bl
    ·exact absurd (.inr e) au
    ·exact⟨y,bl,e⟩
   ·rw[eK,forL];have:lj [some (.aa (.int n)),s1,some (.aa (.int x.1)),s3,s4,some (.aa (.tuple (acc.map gm))),some (.aa (.str x.2)),dC,d3,none]=some (.nx [some (.aa (.int n)),s1,some (.aa (.int x.1)),s3,some (.aa (.int q)),some (.aa (.tuple (acc.map gm))),some (.aa (.str x.2)),dC,d3,none]):=by
     have g4:¬0<r:=λz=>au (.inl z);have rN:oEq (.int x.1) (.int 1)=some (.bool false):=by rw[lP,decide_eq_false λz=>au (.inr z)]
     simp! [gf,lj,iY,ij,iZ,hh,fU,g4,rN]
    simp only[mE,dg,fG,aX,br,oq,oo,this];exact n2
def jr:List (Int×Str):=[(0,"a"),(1,"b"),(2,"back"),(3,"d"),(4,"hall"),(5,"r"),(6,"win"),(7,"z")]
def nI:List (Int×Str):=[(0,"0000"),(1,"1234"),(2,"4321"),(3,"7777"),(4,"9990"),(5,"9999")]
structure nh(p:cA):Prop where
 zs:(p.fy.map (·.1)).Sublist (jr.map (·.2))
 _R:∀z∈p.fy,z.2∈kinds
 q4:p.fy≠[]
 cs:(p.codes.map (·.jX)).Sublist (nI.map (·.2))
 A3:∀k∈p.codes,k.jI∈u1/\k.pl.Sublist f5/\k.uses∈([0,0,1,2,9]:List Int)
 rH:p.codes≠[]
 j6:p.leave∈([0,5,30,60]:List Int)
 tc:p.rJ∈([0,4,20,60]:List Int)
 to:p.loud∈([1,9,120,300]:List Int)
def Vb(n:Int):∃p,nh p/\sR [.int n]=some (bM p):=by
 obtain⟨zs,s2,s3,s4,cP,cS,qr,n2⟩:=Fi n jr [] none none none (by decide) (by decide);have RT:zs≠[]:=qr (by
  have af:0<=n / 8 % 8:=iC _ (by decide);have ao:n / 8 % 8<8:=kX _ (by decide);generalize n / 8 % 8=r at af ao;have:r=0\/r=1\/r=2\/r=3\/r=4\/r=5\/r=6\/r=7:=by omega
  rcases this with rfl|rfl|rfl|rfl|rfl|rfl|rfl|rfl
  ·exact⟨(0,"a"),by simp[jr],rfl⟩
  ·exact⟨(1,"b"),by simp[jr],rfl⟩
  ·exact⟨(2,"back"),by simp[jr],rfl⟩
  ·exact⟨(3,"d"),by simp[jr],rfl⟩
  ·exact⟨(4,"hall"),by simp[jr],rfl⟩
  ·exact⟨(5,"r"),by simp[jr],rfl⟩
  ·exact⟨(6,"win"),by simp[jr],rfl⟩
  ·exact⟨(7,"z"),by simp[jr],rfl⟩)
 obtain⟨ks,eE,Xa,Xb,Xc,Xd,hA,ir,jy,iu⟩:=Fd n (some (.aa (.tuple (zs.map e8)))) s3 nI [] s2 s4 none none none (by decide) (by decide);have Rg:ks≠[]:=jy ⟨(1,"1234"),by simp[nI],rfl⟩;obtain⟨m,hm,iY⟩:=rM n 20 (by decide);obtain⟨q,a0,ij⟩:=divQ m 4;obtain⟨r,_,N5,a1,iZ⟩:=modQ q 4;obtain⟨aT,mO,mA⟩:=divQ q 4;obtain⟨a',_,Am,bK,mB⟩:=modQ aT 4;obtain⟨bg,nX,mC⟩:=divQ q 16;obtain⟨cL,_,rH,dc,mD⟩:=modQ bg 4;obtain⟨u,bw,lr⟩:=uz [0,5,30,60] N5 a1;obtain⟨v,bj,jW⟩:=uz [0,4,20,60] Am bK;obtain⟨w,hw,lq⟩:=uz [1,9,120,300] rH dc;simp only[eK,om] at lr jW lq;refine⟨⟨zs,ks,u,v,w⟩,⟨cP,cS,RT,hA,ir,Rg,bw,bj,hw⟩,?_⟩;have f1:c1 (fM (hN (aJ [(U (.str "a")),(U (.str "b")),(U (.str "back")),(U (.str "d")),(U (.str "hall")),(U (.str "r")),(U (.str "win")),(U (.str "z"))]))) (dg [(aX 2),(aX 3)]) ky [some (.aa (.int n)),some (.aa (.tuple [])),none,none,none,none,none,none,none,none]=some (.nx [some (.aa (.int n)),some (.aa (.tuple (zs.map e8))),s2,s3,s4,none,none,none,none,none]):=by
  have:(fM (hN (aJ [(U (.str "a")),(U (.str "b")),(U (.str "back")),(U (.str "d")),(U (.str "hall")),(U (.str "r")),(U (.str "win")),(U (.str "z"))]))) [some (.aa (.int n)),some (.aa (.tuple [])),none,none,none,none,none,none,none,none]=some (jr.map mE):=by
   simp[fM,hN,aJ,args,U,abp,enum,jr,mE,List.zipIdx]
  unfold c1;rw[this];exact n2
 have f2:c1 (fM (hN (aJ [(U (.str "0000")),(U (.str "1234")),(U (.str "4321")),(U (.str "7777")),(U (.str "9990")),(U (.str "9999"))]))) (dg [(aX 2),(aX 6)]) lj [some (.aa (.int n)),some (.aa (.tuple (zs.map e8))),s2,s3,s4,some (.aa (.tuple [])),none,none,none,none]=some (.nx [some (.aa (.int n)),some (.aa (.tuple (zs.map e8))),eE,s3,Xa,some (.aa (.tuple (ks.map gm))),Xb,Xc,Xd,none]):=by
  have:(fM (hN (aJ [(U (.str "0000")),(U (.str "1234")),(U (.str "4321")),(U (.str "7777")),(U (.str "9990")),(U (.str "9999"))]))) [some (.aa (.int n)),some (.aa (.tuple (zs.map e8))),s2,s3,s4,some (.aa (.tuple [])),none,none,none,none]=some (nI.map mE):=by
   simp[fM,hN,aJ,args,U,Gf,enum,nI,mE,List.zipIdx]
  unfold c1;rw[this];exact iu
 show bE (seq (asg 1 (aJ [])) (seq (c1 (fM (hN (aJ [(U (.str "a")),(U (.str "b")),(U (.str "back")),(U (.str "d")),(U (.str "hall")),(U (.str "r")),(U (.str "win")),(U (.str "z"))]))) (dg [(aX 2),(aX 3)]) ky)
  (seq (asg 5 (aJ [])) (seq (c1 (fM (hN (aJ [(U (.str "0000")),(U (.str "1234")),(U (.str "4321")),(U (.str "7777")),(U (.str "9990")),(U (.str "9999"))]))) (dg [(aX 2),(aX 6)]) lj) _)))) 10 [.int n]=_
 unfold bE;have i4:seq (asg 1 (aJ []))=λb=>seq (asg 1 (aJ [])) b:=rfl;have af:asg 1 (aJ []) [some (.aa (.int n)),none,none,none,none,none,none,none,none,none]=some (.nx [some (.aa (.int n)),some (.aa (.tuple [])),none,none,none,none,none,none,none,none]):=by simp[asg,aJ,args]
 have gI:asg 5 (aJ []) [some (.aa (.int n)),some (.aa (.tuple (zs.map e8))),s2,s3,s4,none,none,none,none,none]=some (.nx [some (.aa (.int n)),some (.aa (.tuple (zs.map e8))),s2,s3,s4,some (.aa (.tuple [])),none,none,none,none]):=by simp[asg,aJ,args]
 show (seq _ _ [some (.aa (.int n)),none,none,none,none,none,none,none,none,none]).bind _=_
 rw[dD af,dD f1,dD gI,dD f2];simp! [gf,iY,ij,iZ,mA,mB,mC,mD,lr,jW,lq,sY,oB,bM]
def nh.zl{p:cA}(h:nh p):p.fy.length<=8:=by simpa [jr] using h.zs.length_le
def nh.cl{p:cA}(h:nh p):p.codes.length<=6:=by simpa [nI] using h.cs.length_le
def Lc{l:List Str}(h:l.all (λx=>(jf x).canLay0)=true:=by decide +kernel){x:Str}(hx:x∈l):xv x:=List.all_eq_true.mp h x hx
end b1
end
section
namespace b1
open D PySem
def xl(p:cA):ax (bM p) (.int 0)=some (.tuple (p.fy.map e8)):=by simp[ax,eH,e',bM]
def R9(p:cA):ax (bM p) (.int 1)=some (.tuple (p.codes.map gm)):=by simp[ax,eH,e',bM]
def zo(z:Str×Str):ax (e8 z) (.int 0)=some (.str z.1):=by simp[ax,eH,e',e8]
def adT(k:md):ax (gm k) (.int 0)=some (.str k.jX):=by simp[ax,eH,e',gm]
def IS(m:Int){l:List T}(h:l≠[]):∃q:Int,0<=q/\q<l.length/\oMod (.int m) (.int l.length)=some (.int q):=by
 have aF:0<(l.length:Int):=by
  have:=List.length_pos_iff.mpr h;omega
 obtain⟨q,_,af,ao,e⟩:=modQ m l.length aF;exact⟨q,af,ao,e⟩
def tr:List Str:=["0000","1234","4321","7777","9990","9999","0001","1111","5555"]
noncomputable def tA(p:cA):nj->Prop
|.line z w=>z∈p.fy.map (·.1)/\w∈(["shut","open","open","cut"]:List Str)
|.code f d z=>f∈tr/\(((d="set"\/d="unset")/\z=none)\/((d="shunt"\/d="free")/\∃x,z=some x/\x∈p.fy.map (·.1)))
|.kU n=>1<=n/\n<=1000000000
def Qv{p:cA}(h:nh p)(n:Int):∃e,tA p e/\q' [bM p,.int n]=some (eZ e):=by
 obtain⟨aT,_,iY⟩:=divQ n 8;obtain⟨i,RY,cP,ij⟩:=IS (l:=p.fy.map e8) aT (by simpa using h.q4);obtain⟨t,aM,iZ⟩:=xj RY cP;obtain⟨z,hz,rfl⟩:=ei.mp aM;have r4:z.1∈p.fy.map (·.1):=ei.mpr ⟨z,hz,rfl⟩;obtain⟨k,_,_,_,mA⟩:=modQ n 10;obtain⟨bg,_,mB⟩:=divQ n 512;obtain⟨cL,_,gL,hA,mC⟩:=modQ bg 4;obtain⟨w,hw,mD⟩:=uA ["shut","open","open","cut"] gL hA;obtain⟨Qx,H9,lr⟩:=uA ["0001","1111","9999","0000"] gL hA;obtain⟨c6,_,jW⟩:=divQ n 64;obtain⟨kQ,_,lq⟩:=divQ n 4096;obtain⟨jD,_,jz,eh,A9⟩:=modQ kQ 3;obtain⟨u,bw,rN⟩:=uz [3,40,200] jz eh;have RL:0<u/\u<=200:=by
  simp at bw;omega
 obtain⟨i',_,kH,cE,Ql⟩:=modQ c6 u RL.1;obtain⟨Cy,RZ,R0,HJ⟩:=IS (l:=p.codes.map gm) c6 (by simpa using h.rH);obtain⟨t',RK,Qm⟩:=xj RZ R0;obtain⟨c,au,rfl⟩:=ei.mp RK;have Q6:c.jX∈tr:=by
  have:=h.cs.subset (ei.mpr ⟨c,au,rfl⟩);simp[nI,tr] at this ⊢;rcases this with q|q|q|q|q|q <;> simp[q]
 obtain⟨qJ,_,HK⟩:=divQ n 65536;obtain⟨qK,_,_,_,HL⟩:=modQ qJ 4;obtain⟨uM,_,m0,h6,HM⟩:=modQ kQ 6;obtain⟨d,hd,A_⟩:=uA ["set","set","unset","shunt","free","shunt"] m0 h6;simp only[eK,om] at mD lr rN A_;simp only[ej] at ij HJ;have wB:de [.tuple (p.fy.map e8)]=some (.int p.fy.length):=by simp[de]
 have bu:de [.tuple (p.codes.map gm)]=some (.int p.codes.length):=by simp[de]
 simp only[q',KZ,bE,eK,om,gi,qY,jc,List.cons_append,List.nil_append];by_cases af:k<5
 ·exact⟨.line z.1 w,⟨r4,hw⟩,by simp! [gf,xl,zo,iY,wB,ij,iZ,mA,oLt,af,mB,mC,mD,sY,oB,eZ]⟩
 ·by_cases ao:k<7
  ·exact⟨.kU (1+i'),⟨by omega,by omega⟩,by simp! [gf,xl,zo,iY,wB,ij,iZ,mA,oLt,af,ao,jW,lq,A9,rN,Ql,hh,oB,vH,eZ]⟩
  ·have gx:xv d:=Lc (l:=["set","set","unset","shunt","free","shunt"]) (hx:=hd);have Em:=aa9 false (n:=d) (ns:=["set","unset"]) gx (by
    intro k aV;exact Lc (l:=["set","unset"]) (hx:=aV))
   simp only[eK,om] at Em;obtain⟨f,hf,HN⟩:∃f∈tr,(iff (aP (ab oEq (ab oMod (ab oDiv (nm 1) (U (.int 65536))) (U (.int 4))) (U (.int 0)))) (asg 4 (ab ax (aJ [(U (.str "0001")),(U (.str "1111")),(U (.str "9999")),(U (.str "0000"))]) (ab oMod (ab oDiv (nm 1) (U (.int 512))) (U (.int 4))))) skip) [some (.aa (bM p)),some (.aa (.int n)),some (.aa (.str z.1)),some (.aa (.int k)),some (.aa (.str c.jX)),none]=some (.nx [some (.aa (bM p)),some (.aa (.int n)),some (.aa (.str z.1)),some (.aa (.int k)),some (.aa (.str f)),none]):=by
    by_cases bA:qK=0
    ·refine⟨Qx,?_,by simp! [gf,HK,HL,lP,bA,mB,mC,lr,sY]⟩
     simp[tr] at H9 ⊢;rcases H9 with q|q|q|q <;> simp[q]
    ·exact⟨c.jX,Q6,by simp! [gf,HK,HL,lP,bA]⟩
   have Jh:∀X:ba,iff (aP (ab oLt (nm 3) (U (.int 5)))) X skip [some (.aa (bM p)),some (.aa (.int n)),some (.aa (.str z.1)),some (.aa (.int k)),none,none]=some (.nx [some (.aa (bM p)),some (.aa (.int n)),some (.aa (.str z.1)),some (.aa (.int k)),none,none]):=λX=>by simp! [gf,oLt,af]
   have sB:∀X:ba,iff (aP (ab oLt (nm 3) (U (.int 7)))) X skip [some (.aa (bM p)),some (.aa (.int n)),some (.aa (.str z.1)),some (.aa (.int k)),none,none]=some (.nx [some (.aa (bM p)),some (.aa (.int n)),some (.aa (.str z.1)),some (.aa (.int k)),none,none]):=λX=>by simp! [gf,oLt,ao]
   have Ji:asg 4 (ab ax (ab ax (ab ax (nm 0) (U (.int 1))) (ab oMod (ab oDiv (nm 1) (U (.int 64))) (aq de [(ab ax (nm 0) (U (.int 1)))]))) (U (.int 0))) [some (.aa (bM p)),some (.aa (.int n)),some (.aa (.str z.1)),some (.aa (.int k)),none,none]=some (.nx [some (.aa (bM p)),some (.aa (.int n)),some (.aa (.str z.1)),some (.aa (.int k)),some (.aa (.str c.jX)),none]):=by simp! [gf,R9,bu,jW,HJ,Qm,adT]
   by_cases c9:d="set"\/d="unset"
   ·refine⟨.code f d none,⟨hf,.inl ⟨c9,rfl⟩⟩,?_⟩
    have En:gw false (.str d) (.tuple [.str "set",.str "unset"])=some (.bool true):=by
     rw[Em];simp[c9]
    have pre:∀B:ba,(seq (asg 2 (ab ax (ab ax (ab ax (nm 0) (U (.int 0))) (ab oMod (ab oDiv (nm 1) (U (.int 8))) (aq de [(ab ax (nm 0) (U (.int 0)))]))) (U (.int 0)))) (seq (asg 3 (ab oMod (nm 1) (U (.int 10)))) B)) [some (.aa (bM p)),some (.aa (.int n)),none,none,none,none]=B [some (.aa (bM p)),some (.aa (.int n)),some (.aa (.str z.1)),some (.aa (.int k)),none,none]:=by
     intro B;simp! [gf,xl,zo,iY,wB,ij,iZ,mA]
    rw[pre];rw[dD (Jh _),dD (sB _),dD Ji,dD HN];simp! [gf,lq,HM,A_,Gf,vH,En,sY,eZ,pg]
   ·refine⟨.code f d (some z.1),⟨hf,.inr ⟨?_,z.1,rfl,r4⟩⟩,?_⟩
    ·simp at hd;rcases hd with q|q|q|q|q
     ·exact absurd (.inl q) c9
     ·exact absurd (.inr q) c9
     ·exact .inl q
     ·exact .inr q
     ·exact .inl q
    have En:gw false (.str d) (.tuple [.str "set",.str "unset"])=some (.bool false):=by
     rw[Em];simp at c9;simp[c9]
    have pre:∀B:ba,(seq (asg 2 (ab ax (ab ax (ab ax (nm 0) (U (.int 0))) (ab oMod (ab oDiv (nm 1) (U (.int 8))) (aq de [(ab ax (nm 0) (U (.int 0)))]))) (U (.int 0)))) (seq (asg 3 (ab oMod (nm 1) (U (.int 10)))) B)) [some (.aa (bM p)),some (.aa (.int n)),none,none,none,none]=B [some (.aa (bM p)),some (.aa (.int n)),some (.aa (.str z.1)),some (.aa (.int k)),none,none]:=by
     intro B;simp! [gf,xl,zo,iY,wB,ij,iZ,mA]
    rw[pre];rw[dD (Jh _),dD (sB _),dD Ji,dD HN];simp! [gf,lq,HM,A_,Gf,vH,En,sY,eZ,pg]
end b1
end
section
namespace b1
open D PySem
end b1
end
section
namespace b1
open D PySem
def okN(d:Nat)(t:T):Prop:=t.canLay0=true/\t.depth<=d
theorem okN.dI{d:Nat}{t:T}(h:okN d t)(hd:d<=60:=by decide):dI t=true:=by
 unfold D.dI;rw[h.1,decide_eq_true (j' h.2 hd)];rfl
theorem y4{d:Nat}:∀{ts:List T},(∀t∈ts,okN d t)->iA ts=true/\h_ ts<=d
| [],_=>by simp[iA,h_]
|t::ts,h=>by
  obtain⟨af,ao⟩:=y4 λx hx=>h x (gz _ hx);obtain⟨bA,c9⟩:=h t mV;constructor
  ·rw[iA,bA,af];rfl
  ·rw[h_];omega
def _S{d:Nat}{ts:List T}(h:∀t∈ts,okN d t):okN (d+1) (.tuple ts):=by
 obtain⟨af,ao⟩:=y4 h;constructor
 ·rw[PyData.canLay0];exact af
 ·rw[jg];omega
def aa8{d:Nat}{ts:List T}(h:∀t∈ts,okN d t):okN (d+1) (.list ts):=by
 obtain⟨af,ao⟩:=y4 h;constructor
 ·rw[PyData.canLay0];exact af
 ·rw[jg];omega
def Tu{d:Nat}{t:T}(h:okN d t)(hd:d<=60:=by decide):eC t t=some (.bool false):=by
 unfold eC;rw[h.dI hd,PySem.SeqAt.eqv_refl t h.1];rfl
end b1
end
section
namespace dq
open D b1 PySem
section
variable {f g:aY}{d7 gt:ek}{ε:Ev}{a b:Bool}
def cD(hf:f ε=some (.bool a))(aU:a=true->g ε=some (.bool b)):dr f g ε=some (.bool (a && b)):=by
 cases a with
|true=>simp[dr,hf,aU rfl]
|false=>simp[dr,hf]
def Gs(hf:f ε=some (.bool a))(aU:a=false->g ε=some (.bool b)):ph f g ε=some (.bool (a || b)):=by
 cases a with
|false=>simp[ph,hf,aU rfl]
|true=>simp[ph,hf]
def Gk(hf:f ε=some (.bool a)):r9 f ε=some (.bool !a):=by simp[r9,hf]
def bH(hf:f ε=some (.bool a)):aP f ε=some a:=by simp[aP,hf]
def c3(hf:d7 ε=some a)(aU:a=false->gt ε=some b):cc d7 gt ε=some (a || b):=by
 cases a with
|false=>simp[cc,hf,aU rfl]
|true=>simp[cc,hf]
def adu(hf:d7 ε=some a)(aU:a=true->gt ε=some b):e6 d7 gt ε=some (a && b):=by
 cases a with
|true=>simp[e6,hf,aU rfl]
|false=>simp[e6,hf]
def cx(hf:d7 ε=some a):bD d7 ε=some !a:=by simp[bD,hf]
def dm{d:List T->Option T}{t:T}(h:f ε=some t):aq d [f] ε=d [t]:=by simp[aq,args,h]
def h7{d:List T->Option T}{t u:T}(h:f ε=some t)(ao:g ε=some u):aq d [f,g] ε=d [t,u]:=by simp[aq,args,h,ao]
def bC{o:T->T->Option T}{t u:T}(h:f ε=some t)(ao:g ε=some u):ab o f g ε=o t u:=by simp[ab,h,ao]
def dk{o:T->Option T}{t:T}(h:f ε=some t):bN o f ε=o t:=by simp[bN,h]
def hL{n:Nat}{as:List T}{r:Option T}(h:f ((as.map λt=>some (.aa t))++jc (n - as.length) none)=r):bE (aW f) n as=r:=by
 unfold bE aW;rw[h];cases r <;> rfl
def eM{d7:ek}{s1 s2:ba}(h:d7 ε=some a):seq (iff d7 s1 skip) s2 ε=if a=true then seq s1 s2 ε else s2 ε:=by
 cases a with
|true=>
  show (iff d7 s1 skip ε).bind _=_
  rw[show iff d7 s1 skip ε=s1 ε by simp[iff,h]];rfl
|false=>simp[seq,iff,h,skip]
def fE{f:aY}{s2:ba}{t:T}(h:f ε=some t):seq (aW f) s2 ε=some (.dn t):=by simp[seq,aW,h]
end
theorem MF{r:Ev}{e:aY}{f:T->T}:∀(ts:List T) (s0:Option bW),(∀t∈ts,e (some (.aa t)::r)=some (f t))->aeC (aX 0) (dd true) e ts (s0::r)=some (ts.map f)
| [],_,_=>rfl
|t::ts,s0,h=>by
  have af:=h t (by simp);have ao:=MF (f:=f) ts (some (.aa t)) λu bw=>h u (gz _ bw);simp[aeC,aX,dd,af,ao]
theorem Me{r:Ev}{c:ek}{e:aY}{p:T->Bool}{f:T->T}:∀(ts:List T) (s0:Option bW),(∀t∈ts,c (some (.aa t)::r)=some (p t))->(∀t∈ts,p t=true->e (some (.aa t)::r)=some (f t))->aeC (aX 0) c e ts (s0::r)=some ((ts.filter p).map f)
| [],_,_,_=>rfl
|t::ts,s0,au,h=>by
  have h0:=au t (by simp);have ao:=Me (p:=p) (f:=f) ts (some (.aa t)) (λu bw=>au u (gz _ bw)) λu bw=>h u (gz _ bw);cases aE:p t with
  |true=>
   have af:=h t (by simp) aE;rw[aE] at h0;simp[aeC,aX,h0,af,ao,aE]
  |false=>
   rw[aE] at h0;simp[aeC,aX,h0,ao,aE]
def vX{it:gU}{caps:List Nat}{e:aY}{f:T->T}{ε:Ev}{ts:List T}(hi:it ε=some ts)(aF:ts.length<=big)(h:∀t∈ts,e (some (.aa t)::caps.map λi=>(ε[i]?).join)=some (f t)):comp 1 caps it (aX 0) (dd true) e ε=some (.list (ts.map f)):=by
 simp only[comp,hi,br,if_pos aF];rw[show gD 1 caps ε=none::caps.map λi=>(ε[i]?).join from rfl,MF (f:=f) ts none h];rfl
def Md{it:gU}{caps:List Nat}{c:ek}{e:aY}{p:T->Bool}{f:T->T}{ε:Ev}{ts:List T}(hi:it ε=some ts)(aF:ts.length<=big)(au:∀t∈ts,c (some (.aa t)::caps.map λi=>(ε[i]?).join)=some (p t))(h:∀t∈ts,p t=true->e (some (.aa t)::caps.map λi=>(ε[i]?).join)=some (f t)):comp 1 caps it (aX 0) c e ε=some (.list ((ts.filter p).map f)):=by
 simp only[comp,hi,br,if_pos aF];rw[show gD 1 caps ε=none::caps.map λi=>(ε[i]?).join from rfl,Me (p:=p) (f:=f) ts none au h];rfl
theorem FG{α:Type}(f:α->Bool):∀l:List α,bools (l.map λx=>.bool (f x))=some (l.map f)
| []=>rfl
|x::l=>by simp[bools,FG f l]
def wm{it:gU}{caps:List Nat}{e:aY}{f:T->Bool}{ε:Ev}{ts:List T}(hi:it ε=some ts)(aF:ts.length<=big)(h:∀t∈ts,e (some (.aa t)::caps.map λi=>(ε[i]?).join)=some (.bool (f t))):aq jm [comp 1 caps it (aX 0) (dd true) e] ε=some (.bool (ts.all f)):=by
 rw[dm (vX (f:=λt=>.bool (f t)) hi aF h)];simp only[jm,FG,c2];simp[List.all_map]
mutual
noncomputable def dt:T->Bool
|.str x=>te x && decide (x.length<=1000000)
|.tuple ts=>o1 ts
|.list ts=>o1 ts
|.dict _=>false
|_=>true
noncomputable def o1:List T->Bool
| []=>true
|t::ts=>dt t && o1 ts
end
theorem y5:∀{ts:List T},o1 ts=true <-> ∀t∈ts,dt t=true
| []=>by simp[o1]
|t::ts=>by
  rw[o1,cJ,y5 (ts:=ts)];simp
mutual
theorem KS:∀{t:T},dt t=true->t.canLay0=true
|.str x,h=>by
  rw[dt,cJ] at h;rw[PyData.canLay0];exact yY ((sI x).mp h.1)
|.tuple ts,h=>by
  rw[dt] at h;rw[PyData.canLay0];exact Ff h
|.list ts,h=>by
  rw[dt] at h;rw[PyData.canLay0];exact Ff h
|.dict _,h=>by simp[dt] at h
|.none,_=>rfl
|.int _,_=>rfl
|.bool _,_=>rfl
theorem Ff:∀{ts:List T},o1 ts=true->iA ts=true
| [],_=>rfl
|t::ts,h=>by
  rw[o1,cJ] at h;rw[iA,KS h.1,Ff h.2];rfl
end
structure cI(d:Nat)(t:T):Prop where
 g:dt t=true
 d:t.depth<=d
theorem cI.okN{d:Nat}{t:T}(h:cI d t):b1.okN d t:=⟨KS h.g,h.d⟩
theorem cI.dI{d:Nat}{t:T}(h:cI d t)(hd:d<=60:=by decide):dI t=true:=h.okN.dI hd
def cI.le{d e:Nat}{t:T}(h:cI d t)(hd:d<=e):cI e t:=⟨h.g,j' h.d hd⟩
theorem KP:∀{ts:List T} {t:T},t∈ts->t.depth<=h_ ts
|u::ts,t,h=>by
  rw[h_];rcases bS.mp h with rfl|h
  ·omega
  ·have:=KP h;omega
def cI.tup{d:Nat}{ts:List T}(h:cI (d+1) (.tuple ts)):∀t∈ts,cI d t:=λt aM=>by
 have af:=h.g;have ao:=h.d;rw[dt] at af;rw[jg] at ao;have:=KP aM;exact⟨y5.mp af t aM,by omega⟩
def cI.IQ{d:Nat}{ts:List T}(h:∀t∈ts,cI d t):cI (d+1) (.tuple ts):=
 ⟨by rw[dt];exact y5.mpr λt aM=>(h t aM).g,(_S λt aM=>(h t aM).okN).2⟩
def cI.xq{d:Nat}{ts:List T}(h:∀t∈ts,cI d t):cI (d+1) (.list ts):=
 ⟨by rw[dt];exact y5.mpr λt aM=>(h t aM).g,(aa8 λt aM=>(h t aM).okN).2⟩
def ze{d:Nat}{x:Str}(h:asc (ls x))(aF:x.length<=1000000):cI d (.str x):=⟨by rw[dt,cJ];exact⟨(sI x).mpr h,decide_eq_true aF⟩,by rw[jg];omega⟩
def Mc{d:Nat}{i:Int}:cI d (.int i):=⟨rfl,by rw[jg];omega⟩
def adn{d:Nat}:cI d .none:=⟨rfl,by rw[jg];omega⟩
def LK{d:Nat}{b:Bool}:cI d (.bool b):=⟨rfl,by rw[jg];omega⟩
def m8:T->Bool
|.int _=>true
|_=>false
def c'(t:T)(lo hi:Int):Bool:=match t with
|.int i=>decide (lo<=i) && decide (i<=hi)
|_=>false
def cj(t:T)(lo hi:Int):Bool:=match t with
|.tuple ts=>decide (lo<=ts.length) && decide ((ts.length:Int)<=hi)
|_=>false
def gR(b_:String){t:T}(h:dt t=true):dH b_ t=some (.bool (fm b_ t)):=by
 cases t <;> first|rfl|simp[dt] at h
def K4{t:T}(h:dt t=true):sF [t]=some (.bool (m8 t)):=by
 refine hL ?_
 have aC:=gR "int" h;have aR:=gR "bool" h;refine (cD (a:=fm "int" t) (b:=!fm "bool" t) (by rw[dk (t:=t) rfl];exact aC) λ_=>Gk (by rw[dk (t:=t) rfl];exact aR)).trans ?_;cases t <;> first|rfl|simp[dt] at h
def sT{f g h:aY}{ε:Ev}{i j k:Int}(hf:f ε=some (.int i))(aU:g ε=some (.int j))(b':h ε=some (.int k)):chain oLe oLe f g h ε=some (.bool (decide (i<=j) && decide (j<=k))):=by
 simp only[chain,hf,aU,b',oLe,br];cases decide (i<=j) <;> rfl
def yF{t:T}{lo hi:Int}(h:dt t=true):jh [t,.int lo,.int hi]=some (.bool (c' t lo hi)):=by
 refine hL ?_
 have ae:m8 t=true->chain oLe oLe (nm 1) (nm 0) (nm 2) [some (.aa t),some (.aa (.int lo)),some (.aa (.int hi))]=some (.bool (c' t lo hi)):=by
  intro hw;cases t with
  |int i=>exact sT rfl rfl rfl
  |_=>simp[m8] at hw
 refine (cD (a:=m8 t) (b:=c' t lo hi) (by rw[dm (t:=t) rfl];exact K4 h) ae).trans ?_
 cases t <;> rfl
def kd{t:T}{lo hi:Int}(h:dt t=true):dE [t,.int lo,.int hi]=some (.bool (cj t lo hi)):=by
 refine hL ?_
 have ae:fm "tuple" t=true->chain oLe oLe (nm 1) (aq de [(nm 0)]) (nm 2) [some (.aa t),some (.aa (.int lo)),some (.aa (.int hi))]=some (.bool (cj t lo hi)):=by
  intro hw;cases t with
  |tuple ts=>exact sT rfl (by rw[dm (t:=.tuple ts) rfl];rfl) rfl
  |_=>simp[fm] at hw
 refine (cD (a:=fm "tuple" t) (b:=cj t lo hi) (by rw[dk (t:=t) rfl];exact gR _ h) ae).trans ?_
 cases t <;> rfl
noncomputable def kg(t:T)(lo hi:Int)(a b:Nat):Bool:=match t with
|.str x=>decide (lo<=x.length) && decide ((x.length:Int)<=hi) && (ls x).all λc=>decide (a<=c) && decide (c<=b)
|_=>false
def aaP(a b:Nat):strLt ⟨#[a]⟩ ⟨#[b]⟩=decide (a<b):=by
 simp[strLt,List.cons_lt_cons_iff]
def Ln{f g h:aY}{ε:Ev}{i j k:Nat}(hf:f ε=some (dV i))(aU:g ε=some (dV j))(b':h ε=some (dV k)):chain oLe oLe f g h ε=some (.bool (decide (i<=j) && decide (j<=k))):=by
 simp only[chain,hf,aU,b',oLe,dV,br,aaP];have aC:(!decide (j<i))=decide (i<=j):=by
  by_cases q:i<=j
  ·simp[q]
  ·simp[q];omega
 have aR:(!decide (k<j))=decide (j<=k):=by
  by_cases q:j<=k
  ·simp[q]
  ·simp[q];omega
 rw[aC,aR];cases decide (i<=j) <;> rfl
def FV{t:T}{lo hi:Int}{a b:Nat}(h:dt t=true):l6 [t,.int lo,.int hi,dV a,dV b]=some (.bool (kg t lo hi a b)):=by
 unfold l6 bE K0;show (seq _ _ [some (.aa t),some (.aa (.int lo)),some (.aa (.int hi)),some (.aa (dV a)),some (.aa (dV b))]).bind _=_;generalize i8:[some (bW.aa t),some (.aa (.int lo)),some (.aa (.int hi)),some (.aa (dV a)),some (.aa (dV b))]=ε;have h0:nm 0 ε=some t:=by subst i8;rfl
 have af:nm 1 ε=some (.int lo):=by subst i8;rfl
 have ao:nm 2 ε=some (.int hi):=by subst i8;rfl
 cases t with
|str x=>
  rw[dt,cJ] at h;have hx:=of_decide_eq_true h.2;have hle:chain oLe oLe (nm 1) (aq de [(nm 0)]) (nm 2) ε=some (.bool (decide (lo<=x.length) && decide ((x.length:Int)<=hi))):=sT af (by rw[dm h0];simp only[de];rw[if_pos (by unfold big;omega)]) ao;rw[eM (a:=!(decide (lo<=x.length) && decide ((x.length:Int)<=hi)))]
  ·cases a0:(decide (lo<=x.length) && decide ((x.length:Int)<=hi)) with
   |false=>
    simp only[Bool.not_false,if_true];rw[fE (t:=.bool false) rfl];simp only[br];simp only[kg,a0,Bool.false_and]
   |true=>
    simp only[Bool.not_true,je,if_false,aW];have:=wm (it:=cz (ar 0)) (caps:=[3,4]) (e:=chain oLe oLe (nm 1) (nm 0) (nm 2)) (f:=λt=>match t with|.str y=>decide (a<=y.cps.getD 0 0) && decide (y.cps.getD 0 0<=b)|_=>false) (ε:=ε) (ts:=(ls x).map dV) (by subst i8;simp[cz,ar,h.1,ls]) (by rw[ej,<- L9];unfold big;omega) (by
     intro t aM;obtain⟨c,au,rfl⟩:=ei.mp aM;subst i8;exact Ln rfl rfl rfl)
    rw[this];simp only[c2,br,kg,a0,Bool.true_and,List.all_map];rfl
  ·have e:cc (bD (aP (bN (dH "str") (nm 0)))) (bD (aP (chain oLe oLe (nm 1) (aq de [(nm 0)]) (nm 2)))) ε=some (false || !(decide (lo<=x.length) && decide ((x.length:Int)<=hi))):=
    c3 (a:=false) (cx (a:=true) (bH (by rw[dk h0];rfl))) λ_=>cx (bH hle)
   rw[e];rfl
|dict d=>simp[dt] at h
|_=>
  rw[eM (a:=true) (by
   refine c3 (a:=true) (b:=false) (cx (a:=false) (bH (by rw[dk h0];rfl))) λz=>by cases z)]
  rfl
def eF(t:T):Bool:=kg t 1 4 97 122
def g0(t:T):Bool:=kg t 4 4 48 57
def F4{t:T}(h:dt t=true):pF [t]=some (.bool (eF t)):=by
 refine hL ?_
 show aq l6 [_,_,_,_,_] _=_
 simp only[aq,args,ar,U,br,c2,eK,om,List.cons_append,ha];exact FV (a:=97) (b:=122) h
def Kl{t:T}(h:dt t=true):q6 [t]=some (.bool (g0 t)):=by
 refine hL ?_
 show aq l6 [_,_,_,_,_] _=_
 simp only[aq,args,ar,U,br,c2,eK,om,List.cons_append,ha];exact FV (a:=48) (b:=57) h
end dq
end
section
namespace dq
open D b1 PySem
def ff:List Str->Bool
|x::y::r=>strLt x y && ff (y::r)
|_=>true
theorem ME{r:Ev}{e:aY}{f:T->T->T}:∀(ps:List (T×T)) (s0 s1:Option bW),(∀p∈ps,e (some (.aa p.1)::some (.aa p.2)::r)=some (f p.1 p.2))->aeC (dg [aX 0,aX 1]) (dd true) e (ps.map λp=>.tuple [p.1,p.2]) (s0::s1::r)=some (ps.map λp=>f p.1 p.2)
| [],_,_,_=>rfl
|p::ps,s0,s1,h=>by
  have af:=h p (by simp);have ao:=ME (f:=f) ps (some (.aa p.1)) (some (.aa p.2)) λu bw=>h u (gz _ bw);simp[aeC,dg,fG,aX,dd,af,ao]
def zip_map(a b:List T):List.zipWith (λx y=>PyData.tuple [x,y]) a b=(a.zip b).map λp=>.tuple [p.1,p.2]:=by
 rw[List.zip,List.map_zipWith]
theorem KA:∀ss:List Str,(List.zipWith strLt ss ss.tail).all id=ff ss
| []=>rfl
| [x]=>rfl
|x::y::r=>by
  have:=KA (y::r);simp only[List.tail_cons] at this;simp only[List.tail_cons,List.zipWith_cons_cons,List.all_cons,ff,id,this]
def A6{α:Type}(l:List α):eA l (some 1) none=l.tail:=by
 unfold eA;cases l with
|nil=>rfl
|cons a r=>
  have aC:D.b0 (a::r).length 0 (some 1)=1:=by simp[D.b0];omega
  have aR:D.b0 (a::r).length (a::r).length none=(a::r).length:=rfl;rw[aC,aR];simp
def Es:T->Option (List T)
|.tuple ts=>some ts
|.list ts=>some ts
|_=>none
def LF{f:aY}{ε:Ev}{t:T}(h:f ε=some t):dT f ε=Es t:=by
 simp only[dT,h,br];cases t <;> rfl
def Kg{ss:List Str}{t u:T}(aM:Es t=some (ss.map .str))(bw:r' t (some 1) none=some u)(RM:Es u=some (ss.tail.map .str))(aF:ss.length<=big):l8 [t]=some (.bool (ff ss)):=by
 refine hL ?_
 have aC:tq (dT (ar 0)) (dT (et (nm 0) (opt (U (.int 1))) optN)) [some (.aa t)]=some (((ss.map jf).zip (ss.tail.map jf)).map λp=>.tuple [p.1,p.2]):=by
  simp only[tq];rw[LF (t:=t) rfl,LF (t:=u) (by simp only[et,nm,opt,optN,U,ha,br,bw]),aM,RM];simp only[br,c2,zip_map]
 show aq jm [_] [some (.aa t)]=_
 have aR:comp 2 [] (tq (dT (ar 0)) (dT (et (nm 0) (opt (U (.int 1))) optN))) (dg [(aX 0),(aX 1)]) (dd true) (ab oLt (nm 0) (nm 1)) [some (.aa t)]=some (.list ((List.zipWith strLt ss ss.tail).map .bool)):=by
  simp only[comp,aC,br];rw[if_pos (by simp;omega)];rw[show gD 2 [] [some (.aa t)]=[none,none] from rfl,ME (f:=λa b=>match a,b with|.str x,.str y=>.bool (strLt x y)|_,_=>.none) _ none none (by
   intro p aE;obtain⟨af,ao⟩:=List.of_mem_zip aE;obtain⟨x,_,ex⟩:=ei.mp af;obtain⟨y,_,hY⟩:=ei.mp ao;rw[<- ex,<- hY];rfl)]
  simp only[c2];congr 2;rw[List.zip_map,iD,List.map_zipWith,List.zip,List.map_zipWith];rfl
 rw[dm aR];have en:=FG (λx:Bool=>x) (List.zipWith strLt ss ss.tail);simp only[jm,en,c2,List.map_id'];rw[KA]
def ZV{ss:List Str}(aF:ss.length<=big):l8 [.list (ss.map .str)]=some (.bool (ff ss)):=
 Kg (u:=.list (ss.tail.map .str)) rfl (by simp only[r',r_,A6,List.map_tail]) rfl aF
def _K{ss:List Str}(aF:ss.length<=big):l8 [.tuple (ss.map .str)]=some (.bool (ff ss)):=
 Kg (u:=.tuple (ss.tail.map .str)) rfl (by simp only[r',r_,A6,List.map_tail]) rfl aF
def dA(ss:List Str)(t:T):Bool:=match t with
|.str x=>decide (x∈ss)
|_=>false
def LN(s:Str)(t:T):fu (.str s) t=match t with|.str x=>decide (s=x)|_=>false:=by
 cases t with
|str x=>
  rw[fu,Bool.eq_iff_iff];simp
|_=>simp[fu]
def KN(ss:List Str)(t:T):lG t (ss.map .str)=dA ss t:=by
 unfold lG dA;rw[List.any_map];cases t with
|str x=>
  simp only[qV,LN];rw[Bool.eq_iff_iff,List.any_eq_true,decide_eq_true_iff];constructor
  ·rintro⟨y,bl,e⟩;rw[<- of_decide_eq_true e];exact bl
  ·intro h;exact⟨x,h,decide_eq_true rfl⟩
|_=>simp[qV,LN]
def y0{ss:List Str}(h:∀s∈ss,asc (ls s)):n8 (ss.map .str)=true:=by
 unfold n8;have:=y4 (d:=0) (ts:=ss.map .str) λt aM=>by
  obtain⟨s,aA,rfl⟩:=ei.mp aM;exact⟨by rw[PyData.canLay0];exact yY (h s aA),by rw[jg];omega⟩
 rw[this.1,Bool.true_and];exact decide_eq_true (by omega)
def tb{ss:List Str}{t:T}{d:Nat}(h:∀s∈ss,asc (ls s))(aM:cI d t)(hd:d<=60:=by decide):gw false t (.tuple (ss.map .str))=some (.bool (dA ss t)):=by
 simp only[gw,aM.dI hd,y0 h,Bool.and_self,if_true,KN];rfl
def Ma{ss:List Str}{t:T}{d:Nat}(h:∀s∈ss,asc (ls s))(aM:cI d t)(hd:d<=60:=by decide):gw false t (.list (ss.map .str))=some (.bool (dA ss t)):=by
 simp only[gw,aM.dI hd,y0 h,Bool.and_self,if_true,KN];rfl
def OQ(ss:List Str):Bool:=ss.all λs=>(ls s).all λc=>decide (c<128)
def vG{ss:List Str}(h:OQ ss=true):∀s∈ss,asc (ls s):=λs aA a az=>of_decide_eq_true (List.all_eq_true.mp (List.all_eq_true.mp h s aA) a az)
def l':List Str:=["day","inner","once","way"]
def ta:List Str:=["shut","open","cut"]
def LR:∀s∈l',asc (ls s):=vG (by decide +kernel)
def FR:∀s∈f5,asc (ls s):=vG (by decide +kernel)
def LQ:∀s∈ta,asc (ls s):=vG (by decide +kernel)
def GS:∀s∈(["set","unset"]:List Str),asc (ls s):=vG (by decide +kernel)
def GU:∀s∈(["shunt","free"]:List Str),asc (ls s):=vG (by decide +kernel)
def fJ{a:T}{r:List T}:ax (.tuple (a::r)) (.int 0)=some a:=by
 simp only[ax,eH,e'];rw[if_pos (by decide),if_pos (by simp only[gi];omega)];rfl
def gK{a b:T}{r:List T}:ax (.tuple (a::b::r)) (.int 1)=some b:=by
 simp only[ax,eH,e'];rw[if_pos (by decide),if_pos (by simp only[gi];omega)];rfl
def kG{a b c:T}{r:List T}:ax (.tuple (a::b::c::r)) (.int 2)=some c:=by
 simp only[ax,eH,e'];rw[if_pos (by decide),if_pos (by simp only[gi];omega)];rfl
def xk{a b c d:T}{r:List T}:ax (.tuple (a::b::c::d::r)) (.int 3)=some d:=by
 simp only[ax,eH,e'];rw[if_pos (by decide),if_pos (by simp only[gi];omega)];rfl
def zh{t:T}{n:Nat}(h:cj t n n=true):∃ts,t=.tuple ts/\ts.length=n:=by
 cases t with
|tuple ts=>
  simp only[cj,cJ,decide_eq_true_eq] at h;exact⟨ts,rfl,by omega⟩
|_=>simp[cj] at h
def ti{t:T}(h:cj t 2 2=true):∃a b,t=.tuple [a,b]:=by
 obtain⟨ts,rfl,aF⟩:=zh (n:=2) h
 match ts,aF with
| [a,b],_=>exact⟨a,b,rfl⟩
def pO{t:T}(h:cj t 3 3=true):∃a b c,t=.tuple [a,b,c]:=by
 obtain⟨ts,rfl,aF⟩:=zh (n:=3) h
 match ts,aF with
| [a,b,c],_=>exact⟨a,b,c,rfl⟩
def zi{t:T}(h:cj t 4 4=true):∃a b c d,t=.tuple [a,b,c,d]:=by
 obtain⟨ts,rfl,aF⟩:=zh (n:=4) h
 match ts,aF with
| [a,b,c,d],_=>exact⟨a,b,c,d,rfl⟩
def iK(t:T):Bool:=match t with
|.tuple [a,b]=>eF a && dA l' b
|_=>false
def abD{d:Nat}{t:T}(h:cI (d+1) t)(hd:d<=59):sL [t]=some (.bool (iK t)):=by
 refine hL ?_
 have af:aq dE [(ar 0),(U (.int 2)),(U (.int 2))] [some (.aa t)]=some (.bool (cj t 2 2)):=by
  simp only[aq,args,ar,U,ha,br,c2];exact kd h.g
 cases ae:cj t 2 2 with
|false=>
  rw[ae] at af;refine (cD af (b:=false) λz=>by cases z).trans ?_;have:iK t=false:=by
   unfold iK;split
   ·simp[cj] at ae
   ·rfl
  rw[this];rfl
|true=>
  obtain⟨a,b,rfl⟩:=ti ae;have az:=h.tup a (by simp);have hu:=h.tup b (by simp);rw[ae] at af;refine (cD af λ_=>cD (a:=eF a) (b:=dA l' b) ?_ λ_=>?_).trans ?_
  ·rw[dm (t:=a) (by rw[bC rfl rfl];exact fJ)];exact F4 az.g
  ·rw[bC (t:=b) (u:=.tuple (l'.map .str)) (by rw[bC rfl rfl];exact gK) rfl];exact tb LR hu (by omega)
  ·rfl
def hZ(t:T):Str:=match t with
|.tuple (.str x::_)=>x
|_=>⟨#[]⟩
def jO(t:T):Bool:=match t with
|.tuple ts=>decide (1<=ts.length) && decide (ts.length<=8) && ts.all iK && ff (ts.map hZ)
|_=>false
def KI{t:T}(h:eF t=true):∃x,t=.str x:=by
 cases t with
|str x=>exact⟨x,rfl⟩
|_=>simp[eF,kg] at h
def abn{t:T}(h:g0 t=true):∃x,t=.str x:=by
 cases t with
|str x=>exact⟨x,rfl⟩
|_=>simp[g0,kg] at h
def Fj{t:T}(h:iK t=true):∃x k,t=.tuple [.str x,.str k]/\k∈l'/\eF (.str x)=true:=by
 unfold iK at h;split at h
 next a b=>
  rw[cJ] at h;obtain⟨x,rfl⟩:=KI h.1;cases b with
  |str k=>exact⟨x,k,rfl,of_decide_eq_true h.2,h.1⟩
  |_=>simp[dA] at h
 next=>cases h
def KO{ts:List T}{ε:Ev}(i8:ar 0 ε=some (.tuple ts))(aF:ts.length<=big)(h:∀t∈ts,∃x r,t=.tuple (.str x::r)):aq l8 [comp 1 [] (cz (ar 0)) (aX 0) (dd true) (ab ax (nm 0) (U (.int 0)))] ε=some (.bool (ff (ts.map hZ))):=by
 rw[dm (t:=.list ((ts.map hZ).map .str)) (by
  rw[iD];refine vX (f:=jf ∘ hZ) (ts:=ts) (by simp[cz,i8]) aF λt aM=>?_;obtain⟨x,r,rfl⟩:=h t aM;rw[bC rfl rfl];exact fJ)]
 exact ZV (by rw[ej];exact aF)
def Zy{d:Nat}{ts:List T}(h:cI (d+2) (.tuple ts))(hd:d<=50){ε:Ev}(i8:ar 0 ε=some (.tuple ts))(aF:ts.length<=big):aq jm [comp 1 [] (cz (ar 0)) (aX 0) (dd true) (aq sL [(ar 0)])] ε=some (.bool (ts.all iK)):=
 wm (by simp[cz,i8]) aF λt aM=>by
  rw[dm (t:=t) rfl];exact abD (h.tup t aM) (by omega)
def K2{d:Nat}{t:T}(h:cI (d+2) t)(hd:d<=50):vh [t]=some (.bool (jO t)):=by
 unfold vh bE J';show (seq _ _ [some (.aa t)]).bind _=_;have af:aq dE [(ar 0),(U (.int 1)),(U (.int 8))] [some (.aa t)]=some (.bool (cj t 1 8)):=by
  simp only[aq,args,ar,U,ha,br,c2];exact kd h.g
 cases ae:cj t 1 8 with
|false=>
  rw[ae] at af;rw[eM (a:=true) (c3 (a:=true) (b:=false) (cx (bH af)) λz=>by cases z),if_pos rfl,fE (t:=.bool false) rfl];have:jO t=false:=by
   unfold jO;split
   next ts=>
    have:(decide (1<=ts.length) && decide (ts.length<=8))=false:=by
     simp only[cj] at ae;rw[<- ae];congr 1 <;> (congr 1;apply propext;omega)
    rw[this];rfl
   next=>rfl
  rw[this];rfl
|true=>
  cases t with
  |tuple ts=>
   have aF:decide (1<=ts.length)=true/\decide (ts.length<=8)=true:=by
    simp only[cj,cJ,decide_eq_true_eq] at ae ⊢;omega
   have Rk:=of_decide_eq_true aF.2;have o7:ts.length<=big:=by unfold big;omega
   have au:cc (bD (aP (aq dE [(ar 0),(U (.int 1)),(U (.int 8))]))) (bD (aP (aq jm [(comp 1 [] (cz (ar 0)) (aX 0) (dd true) (aq sL [(ar 0)]))]))) [some (.aa (.tuple ts))]=some (false || !ts.all iK):=by
    rw[ae] at af;exact c3 (cx (bH af)) λ_=>cx (bH (Zy h hd rfl o7))
   rw[eM au];cases az:ts.all iK with
   |false=>
    rw[if_pos (by rfl),fE (t:=.bool false) rfl];simp only[jO,az,Bool.and_false,Bool.false_and];rfl
   |true=>
    rw[if_neg (by simp)];simp only[aW];rw[KO (ts:=ts) rfl o7 λt aM=>by
     obtain⟨x,k,rfl,_⟩:=Fj (List.all_eq_true.mp az t aM);exact⟨x,_,rfl⟩]
    simp only[jO,az,aF.1,aF.2,Bool.true_and];rfl
  |_=>simp[cj] at ae
end dq
end
section
namespace dq
open D b1 PySem
def qR(t:T):Str:=match t with
|.str x=>x
|_=>⟨#[]⟩
def ab4{ss:List Str}{t:T}(h:dA ss t=true):∃x,t=.str x/\x∈ss:=by
 cases t with
|str x=>exact⟨x,rfl,of_decide_eq_true h⟩
|_=>simp[dA] at h
def pG(t:T):Bool:=match t with
|.tuple ts=>decide (ts.length<=3) && (ts.all (dA f5) && ff (ts.map qR))
|_=>false
def ZW{d:Nat}{t:T}(h:cI (d+1) t)(hd:d<=50):yp [t]=some (.bool (pG t)):=by
 refine hL ?_
 have af:aq dE [(ar 0),(U (.int 0)),(U (.int 3))] [some (.aa t)]=some (.bool (cj t 0 3)):=by
  simp only[aq,args,ar,U,ha,br,c2];exact kd h.g
 cases t with
|tuple ts=>
  have e:cj (.tuple ts) 0 3=decide (ts.length<=3):=by
   simp only[cj];rw[decide_eq_true (show (0:Int)<=ts.length by omega),Bool.true_and];congr 1;apply propext;omega
  rw[e] at af;refine (cD af λaF=>?_).trans rfl;have Cd:=of_decide_eq_true aF;have o7:ts.length<=big:=by unfold big;omega
  refine cD (a:=ts.all (dA f5)) (wm (ts:=ts) rfl o7 λt aM=>?_) λaz=>?_
  ·rw[bC (t:=t) (u:=.tuple (f5.map .str)) rfl rfl];exact tb FR (h.tup t aM) (by omega)
  ·rw[dm (t:=.tuple ts) rfl];have aR:ts=(ts.map qR).map .str:=by
    rw[iD]
    conv=>lhs;rw[<- List.map_id ts]
    refine List.map_congr_left λt aM=>?_
    obtain⟨x,rfl,_⟩:=ab4 (List.all_eq_true.mp az t aM);rfl
   rw[aR];rw[_K (by rw[ej];exact o7),<- aR]
|_=>exact (cD (b:=false) af λz=>by cases z).trans rfl
def codeB(t:T):Bool:=match t with
|.tuple [f,w,r,u]=>g0 f && (eF w && (pG r && c' u 0 9))
|_=>false
def IE{f:aY}{ε:Ev}{s2:ba}(h:f ε=some (.bool false)):seq (iff (bD (aP f)) (aW (U (.bool false))) skip) s2 ε=some (.dn (.bool false)):=by
 rw[eM (cx (bH h)),if_pos (by rfl),fE (t:=.bool false) rfl]
def IF{f:aY}{ε:Ev}{s2:ba}(h:f ε=some (.bool true)):seq (iff (bD (aP f)) (aW (U (.bool false))) skip) s2 ε=s2 ε:=by
 rw[eM (cx (bH h)),if_neg (by simp)]
def abu{d:Nat}{t:T}(h:cI (d+2) t)(hd:d<=50):sN [t]=some (.bool (codeB t)):=by
 unfold sN bE K1;show (seq _ _ [some (.aa t)]).bind _=_;have af:aq dE [(ar 0),(U (.int 4)),(U (.int 4))] [some (.aa t)]=some (.bool (cj t 4 4)):=by
  simp only[aq,args,ar,U,ha,br,c2];exact kd h.g
 cases ae:cj t 4 4 with
|false=>
  rw[ae] at af;rw[IE af];have:codeB t=false:=by
   unfold codeB;split
   ·simp[cj] at ae
   ·rfl
  rw[this];rfl
|true=>
  rw[ae] at af;rw[IF af];obtain⟨f,w,r,u,rfl⟩:=zi ae;have hf:=h.tup f (by simp);have hw:=h.tup w (by simp);have aw:=h.tup r (by simp);have bw:=h.tup u (by simp);simp only[aW];rw[cD (a:=g0 f) (b:=eF w && (pG r && c' u 0 9)) (by rw[dm (t:=f) (by rw[bC rfl rfl];exact fJ)];exact Kl hf.g) λ_=>
   cD (by rw[dm (t:=w) (by rw[bC rfl rfl];exact gK)];exact F4 hw.g) λ_=>
   cD (by rw[dm (t:=r) (by rw[bC rfl rfl];exact kG)];exact ZW aw hd) λ_=>by
    simp only[aq,args,U,br,c2];rw[show ab ax (nm 0) (U (.int 3)) [some (.aa (.tuple [f,w,r,u]))]=some u from by rw[bC rfl rfl];exact xk];exact yF bw.g]
  rfl
def jP(t:T):Bool:=match t with
|.tuple ts=>decide (1<=ts.length) && decide (ts.length<=6) && ts.all codeB && ff (ts.map hZ)
|_=>false
def Fy{t:T}(h:codeB t=true):∃f w r u,t=.tuple [.str f,.str w,r,u]/\g0 (.str f)=true/\eF (.str w)=true/\pG r=true/\c' u 0 9=true:=by
 unfold codeB at h;split at h
 next f w r u=>
  simp only[cJ] at h;obtain⟨af,ao,bA,c9⟩:=h;obtain⟨x,rfl⟩:=abn af;obtain⟨y,rfl⟩:=KI ao;exact⟨x,y,r,u,rfl,af,ao,bA,c9⟩
 next=>cases h
def abt{d:Nat}{t:T}(h:cI (d+3) t)(hd:d<=50):vj [t]=some (.bool (jP t)):=by
 unfold vj bE Kb;show (seq _ _ [some (.aa t)]).bind _=_;have af:aq dE [(ar 0),(U (.int 1)),(U (.int 6))] [some (.aa t)]=some (.bool (cj t 1 6)):=by
  simp only[aq,args,ar,U,ha,br,c2];exact kd h.g
 cases ae:cj t 1 6 with
|false=>
  rw[ae] at af;rw[eM (a:=true) (c3 (a:=true) (b:=false) (cx (bH af)) λz=>by cases z),if_pos rfl,fE (t:=.bool false) rfl];have:jP t=false:=by
   unfold jP;split
   next ts=>
    have:(decide (1<=ts.length) && decide (ts.length<=6))=false:=by
     simp only[cj] at ae;rw[<- ae];congr 1 <;> (congr 1;apply propext;omega)
    rw[this];rfl
   next=>rfl
  rw[this];rfl
|true=>
  cases t with
  |tuple ts=>
   have aF:decide (1<=ts.length)=true/\decide (ts.length<=6)=true:=by
    simp only[cj,cJ,decide_eq_true_eq] at ae ⊢;omega
   have Rk:=of_decide_eq_true aF.2;have o7:ts.length<=big:=by unfold big;omega
   have au:cc (bD (aP (aq dE [(ar 0),(U (.int 1)),(U (.int 6))]))) (bD (aP (aq jm [(comp 1 [] (cz (ar 0)) (aX 0) (dd true) (aq sN [(ar 0)]))]))) [some (.aa (.tuple ts))]=some (false || !ts.all codeB):=by
    rw[ae] at af;exact c3 (cx (bH af)) λ_=>cx (bH (wm (ts:=ts) rfl o7 λt aM=>by
     rw[dm (t:=t) rfl];exact abu (h.tup t aM) hd))
   rw[eM au];cases az:ts.all codeB with
   |false=>
    rw[if_pos (by rfl),fE (t:=.bool false) rfl];simp only[jP,az,Bool.and_false,Bool.false_and];rfl
   |true=>
    rw[if_neg (by simp)];simp only[aW];rw[KO (ts:=ts) rfl o7 λt aM=>by
     obtain⟨x,w,r,u,rfl,_⟩:=Fy (List.all_eq_true.mp az t aM);exact⟨x,_,rfl⟩]
    simp only[jP,az,aF.1,aF.2,Bool.true_and];rfl
  |_=>simp[cj] at ae
def oG(t:T):Bool:=match t with
|.tuple [a,b,c]=>c' a 0 60 && (c' b 0 60 && c' c 1 300)
|_=>false
def x1{ε:Ev}{e:aY}{u:T}{lo hi:Int}(he:e ε=some u)(bw:dt u=true):aq jh [e,U (.int lo),U (.int hi)] ε=some (.bool (c' u lo hi)):=by
 simp only[aq,args,U,br,c2,he];exact yF bw
def aaM{d:Nat}{t:T}(h:cI (d+1) t):vi [t]=some (.bool (oG t)):=by
 unfold vi bE Ka;show (seq _ _ [some (.aa t)]).bind _=_;have af:aq dE [(ar 0),(U (.int 3)),(U (.int 3))] [some (.aa t)]=some (.bool (cj t 3 3)):=by
  simp only[aq,args,ar,U,ha,br,c2];exact kd h.g
 cases ae:cj t 3 3 with
|false=>
  rw[ae] at af;rw[IE af];have:oG t=false:=by
   unfold oG;split
   ·simp[cj] at ae
   ·rfl
  rw[this];rfl
|true=>
  rw[ae] at af;rw[IF af];obtain⟨a,b,c,rfl⟩:=pO ae;have az:=h.tup a (by simp);have ae:=h.tup b (by simp);have au:=h.tup c (by simp);simp only[aW];rw[cD (a:=c' a 0 60) (b:=c' b 0 60 && c' c 1 300) (x1 (by rw[bC rfl rfl];exact fJ) az.g) λ_=>
   cD (x1 (by rw[bC rfl rfl];exact gK) ae.g) λ_=>x1 (by rw[bC rfl rfl];exact kG) au.g]
  rfl
def hM(t:T):Bool:=match t with
|.tuple [z,c,m]=>jO z && (jP c && oG m)
|_=>false
def aa0{d:Nat}{t:T}(h:cI (d+4) t)(hd:d<=40):sM [t]=some (.bool (hM t)):=by
 refine hL ?_
 have af:aq dE [(ar 0),(U (.int 3)),(U (.int 3))] [some (.aa t)]=some (.bool (cj t 3 3)):=by
  simp only[aq,args,ar,U,ha,br,c2];exact kd h.g
 cases ae:cj t 3 3 with
|false=>
  rw[ae] at af;refine (cD af (b:=false) λz=>by cases z).trans ?_;have:hM t=false:=by
   unfold hM;split
   ·simp[cj] at ae
   ·rfl
  rw[this];rfl
|true=>
  obtain⟨z,c,m,rfl⟩:=pO ae;have hz:=h.tup z (by simp);have au:=h.tup c (by simp);have hm:=h.tup m (by simp);rw[ae] at af;refine (cD af λ_=>cD (a:=jO z) (b:=jP c && oG m) ?_ λ_=>cD ?_ λ_=>?_).trans rfl
  ·rw[dm (t:=z) (by rw[bC rfl rfl];exact fJ)];exact K2 (d:=d+1) hz (by omega)
  ·rw[dm (t:=c) (by rw[bC rfl rfl];exact gK)];exact abt au (by omega)
  ·rw[dm (t:=m) (by rw[bC rfl rfl];exact kG)];exact aaM hm
def nc(t:T):Bool:=match t with
|.none=>true
|_=>false
def ig(R:T)(t:T):Bool:=match R,t with
|.int r,.tuple [a,.int b,z]=>c' (.int b) 1 r && (c' a 0 (b - 1) && (nc z || eF z))
|_,_=>false
def MA{f:aY}{ε:Ev}{t:T}(h:f ε=some t):bN hD f ε=some (.bool (nc t)):=by
 rw[dk h];cases t <;> rfl
def Z1{d:Nat}{t:T}{r:Int}(h:cI (d+1) t):ve [.int r,t]=some (.bool (ig (.int r) t)):=by
 unfold ve bE JR;show (seq _ _ [some (.aa (.int r)),some (.aa t)]).bind _=_;have af:aq dE [(ar 1),(U (.int 3)),(U (.int 3))] [some (.aa (.int r)),some (.aa t)]=some (.bool (cj t 3 3)):=by
  simp only[aq,args,ar,U,ha,u_,br,c2];exact kd h.g
 cases ae:cj t 3 3 with
|false=>
  rw[ae] at af;rw[eM (a:=true) (c3 (a:=true) (b:=false) (cx (bH af)) λz=>by cases z),if_pos rfl,fE (t:=.bool false) rfl];have:ig (.int r) t=false:=by
   unfold ig;split
   ·simp[cj] at ae
   ·rfl
  rw[this];rfl
|true=>
  obtain⟨a,b,z,rfl⟩:=pO ae;have az:=h.tup a (by simp);have hu:=h.tup b (by simp);have hz:=h.tup z (by simp);rw[ae] at af;have hw:aq jh [(ab ax (nm 1) (U (.int 1))),(U (.int 1)),(ar 0)] [some (.aa (.int r)),some (.aa (.tuple [a,b,z]))]=some (.bool (c' b 1 r)):=by
   have e:ab ax (nm 1) (U (.int 1)) [some (.aa (.int r)),some (.aa (.tuple [a,b,z]))]=some b:=by rw[bC rfl rfl];exact gK
   simp only[aq,args,ar,br,c2,ha,e];exact yF hu.g
  have au:=c3 (cx (bH af)) λ_=>cx (bH hw);rw[eM au];cases a0:c' b 1 r with
  |false=>
   rw[if_pos (by rfl),fE (t:=.bool false) rfl];cases b with
   |int j=>simp only[ig,a0,Bool.false_and];rfl
   |_=>rfl
  |true=>
   rw[if_neg (by simp)];cases b with
   |int j=>
    simp only[aW];have bG:ab ax (nm 1) (U (.int 0)) [some (.aa (.int r)),some (.aa (.tuple [a,.int j,z]))]=some a:=by rw[bC rfl rfl];exact fJ
    have aC:ab ax (nm 1) (U (.int 1)) [some (.aa (.int r)),some (.aa (.tuple [a,.int j,z]))]=some (.int j):=by rw[bC rfl rfl];exact gK
    have aR:ab ax (nm 1) (U (.int 2)) [some (.aa (.int r)),some (.aa (.tuple [a,.int j,z]))]=some z:=by rw[bC rfl rfl];exact kG
    have av:ab jB (ab ax (nm 1) (U (.int 1))) (U (.int 1)) [some (.aa (.int r)),some (.aa (.tuple [a,.int j,z]))]=some (.int (j - 1)):=by rw[bC aC rfl];rfl
    rw[cD (a:=c' a 0 (j - 1)) (b:=nc z || eF z) (by
     simp only[aq,args,br,c2,bG,av];exact yF az.g) λ_=>Gs (MA aR) λ_=>by rw[dm aR];exact F4 hz.g]
    simp only[ig,a0,Bool.true_and];rfl
   |_=>simp[c'] at a0
def gC(t:T):Bool:=match t with
|.tuple [r,.tuple os]=>c' r 1 7 && (decide (os.length<=10) && os.all (ig r))
|_=>false
def aah{d:Nat}{t:T}(h:cI (d+3) t)(hd:d<=50):pD [t]=some (.bool (gC t)):=by
 unfold pD bE Kp;show (seq _ _ [some (.aa t)]).bind _=_;have af:aq dE [(ar 0),(U (.int 2)),(U (.int 2))] [some (.aa t)]=some (.bool (cj t 2 2)):=by
  simp only[aq,args,ar,U,ha,br,c2];exact kd h.g
 cases ae:cj t 2 2 with
|false=>
  rw[ae] at af;rw[eM (a:=true) (c3 (a:=true) (b:=false) (cx (bH af)) λz=>by cases z),if_pos rfl,fE (t:=.bool false) rfl];have:gC t=false:=by
   unfold gC;split
   ·simp[cj] at ae
   ·rfl
  rw[this];rfl
|true=>
  obtain⟨r,o,rfl⟩:=ti ae;have aw:=h.tup r (by simp);have aQ:=h.tup o (by simp);rw[ae] at af;have bG:ab ax (nm 0) (U (.int 0)) [some (.aa (.tuple [r,o]))]=some r:=by rw[bC rfl rfl];exact fJ
  have aC:ab ax (nm 0) (U (.int 1)) [some (.aa (.tuple [r,o]))]=some o:=by rw[bC rfl rfl];exact gK
  have bA:aq dE [(ab ax (nm 0) (U (.int 1))),(U (.int 0)),(U (.int 10))] [some (.aa (.tuple [r,o]))]=some (.bool (cj o 0 10)):=by
   simp only[aq,args,U,br,c2];rw[show ab ax (nm 0) (U (.int 1)) [some (.aa (.tuple [r,o]))]=some o from aC];exact kd aQ.g
  have au:=c3 (cx (bH af)) λ_=>c3 (cx (bH (x1 (lo:=1) (hi:=7) bG aw.g))) λ_=>cx (bH bA);rw[eM au];cases a0:(c' r 1 7 && cj o 0 10) with
  |false=>
   rw[if_pos (by
    rw[<- Bool.not_and,a0];rfl),fE (t:=.bool false) rfl]
   have:gC (.tuple [r,o])=false:=by
    unfold gC;split
    next bU iw b7=>
     cases b7
     have:cj (.tuple iw) 0 10=decide (iw.length<=10):=by
      simp only[cj];rw[decide_eq_true (show (0:Int)<=iw.length by omega),Bool.true_and];congr 1;apply propext;omega
     rw[this] at a0;rw[<- Bool.and_assoc,a0,Bool.false_and]
    next=>rfl
   rw[this];rfl
  |true=>
   rw[if_neg (by
    rw[<- Bool.not_and,a0];simp)]
   rw[cJ] at a0;cases o with
   |tuple os=>
    have aF:os.length<=10:=by
     have:=a0.2;simp only[cj,cJ,decide_eq_true_eq] at this;omega
    cases r with
    |int i=>
     simp only[aW];rw[wm (ts:=os) (f:=ig (.int i)) (by simp only[cz,aC,br]) (by unfold big;omega) λt aM=>by
      rw[h7 (t:=.int i) (u:=t) (by rw[bC rfl rfl];exact fJ) rfl];exact Z1 (aQ.tup t aM)]
     simp only[gC,a0.1,decide_eq_true aF,Bool.true_and];rfl
    |_=>simp[c'] at a0
   |_=>simp[cj] at a0
end dq
end
section
namespace dq
open D b1 PySem
def hJ(p:cA):List Str:=p.fy.map (·.1)
structure mj(p:cA):Prop where
 z:∀s∈hJ p,asc (ls s)
 l:p.fy.length<=1000
def K3{p:cA}(aE:mj p){d:Nat}{t:T}(aM:cI d t)(hd:d<=60):sH [bM p,t]=some (.bool (dA (hJ p) t)):=by
 refine hL ?_
 have e:comp 1 [] (cz (ab ax (nm 0) (U (.int 0)))) (aX 0) (dd true) (ab ax (nm 0) (U (.int 0))) [some (.aa (bM p)),some (.aa t)]=some (.list ((hJ p).map .str)):=by
  rw[vX (f:=λt=>.str (hZ t)) (ts:=p.fy.map e8) (by
   simp only[cz];rw[bC (t:=bM p) rfl rfl,show ax (bM p) (.int 0)=some (.tuple (p.fy.map e8)) from fJ];rfl) (by rw[ej];have:=aE.l;unfold big;omega) λt aM=>by
    obtain⟨z,_,rfl⟩:=ei.mp aM;rw[bC rfl rfl];exact fJ]
  simp only[iD,hJ];rfl
 show ab (gw false) (nm 1) _ [some (.aa (bM p)),some (.aa t)]=_
 rw[bC (t:=t) rfl e];exact Ma aE.z aM hd
def f_(s:Str)(t:T):Bool:=match t with
|.str x=>decide (x=s)
|_=>false
def Lj(s:Str)(t:T):fu t (.str s)=f_ s t:=by
 cases t with
|str x=>
  rw[fu,Bool.eq_iff_iff];simp[f_]
|_=>simp[fu,f_]
def w4{d:Nat}{f:aY}{ε:Ev}{t:T}{s:Str}(h:f ε=some t)(aM:cI d t)(aA:asc (ls s))(hd:d<=60:=by decide):ab oEq f (U (.str s)) ε=some (.bool (f_ s t)):=by
 rw[bC h rfl];simp only[oEq,aM.dI hd,show dI (.str s)=true from b1.okN.dI (d:=0) ⟨by rw[PyData.canLay0];exact yY aA,by rw[jg];omega⟩,Bool.and_self,if_true,Lj]
def IX{d:Nat}{f:aY}{ε:Ev}{t:T}{s:Str}(h:f ε=some t)(aM:cI d t)(aA:asc (ls s))(hd:d<=60:=by decide):ab eC f (U (.str s)) ε=some (.bool !(f_ s t)):=by
 rw[bC h rfl];simp only[eC,aM.dI hd,show dI (.str s)=true from b1.okN.dI (d:=0) ⟨by rw[PyData.canLay0];exact yY aA,by rw[jg];omega⟩,Bool.and_self,if_true,Lj]
def rr{s:Str}(h:((ls s).all λc=>decide (c<128))=true:=by decide +kernel):asc (ls s):=λa az=>of_decide_eq_true (List.all_eq_true.mp h a az)
def Mi:asc (ls "line"):=rr
def Mj:asc (ls "code"):=rr
def LP:asc (ls "ticks"):=rr
def jn(p:cA)(t:T):Bool:=match t with
|.tuple [a,z,w]=>f_ "line" a && (dA (hJ p) z && dA ta w)
|_=>false
def abd{p:cA}(aE:mj p){d:Nat}{t:T}(h:cI (d+1) t)(hd:d<=50):yi [bM p,t]=some (.bool (jn p t)):=by
 refine hL ?_
 have af:aq dE [(ar 1),(U (.int 3)),(U (.int 3))] [some (.aa (bM p)),some (.aa t)]=some (.bool (cj t 3 3)):=by
  simp only[aq,args,ar,U,ha,u_,br,c2];exact kd h.g
 cases ae:cj t 3 3 with
|false=>
  rw[ae] at af;refine (cD af (b:=false) λz=>by cases z).trans ?_;have:jn p t=false:=by
   unfold jn;split
   ·simp[cj] at ae
   ·rfl
  rw[this];rfl
|true=>
  obtain⟨a,z,w,rfl⟩:=pO ae;have az:=h.tup a (by simp);have hz:=h.tup z (by simp);have hw:=h.tup w (by simp);rw[ae] at af;refine (cD af λ_=>cD (w4 (t:=a) (by rw[bC rfl rfl];exact fJ) az Mi (by omega)) λ_=>cD (a:=dA (hJ p) z) ?_ λ_=>?_).trans rfl
  ·rw[h7 (t:=bM p) (u:=z) rfl (by rw[bC rfl rfl];exact gK)];exact K3 aE hz (by omega)
  ·rw[bC (t:=w) (u:=.tuple (ta.map .str)) (by rw[bC rfl rfl];exact kG) rfl];exact tb LQ hw (by omega)
noncomputable def ie(p:cA)(t:T):Bool:=match t with
|.tuple [a,f,e,z]=>f_ "code" a && (g0 f && (if dA ["set","unset"] e=true then nc z else dA ["shunt","free"] e && dA (hJ p) z))
|_=>false
def aar{p:cA}(aE:mj p){d:Nat}{t:T}(h:cI (d+1) t)(hd:d<=50):u' [bM p,t]=some (.bool (ie p t)):=by
 unfold u' bE JH;show (seq _ _ [some (.aa (bM p)),some (.aa t)]).bind _=_;have af:aq dE [(ar 1),(U (.int 4)),(U (.int 4))] [some (.aa (bM p)),some (.aa t)]=some (.bool (cj t 4 4)):=by
  simp only[aq,args,ar,U,ha,u_,br,c2];exact kd h.g
 cases ae:cj t 4 4 with
|false=>
  rw[ae] at af;rw[eM (a:=true) (c3 (a:=true) (b:=false) (cx (bH af)) λz=>by cases z),if_pos rfl,fE (t:=.bool false) rfl];have:ie p t=false:=by
   unfold ie;split
   ·simp[cj] at ae
   ·rfl
  rw[this];rfl
|true=>
  obtain⟨a,f,e,z,rfl⟩:=zi ae;have az:=h.tup a (by simp);have hf:=h.tup f (by simp);have he:=h.tup e (by simp);have hz:=h.tup z (by simp);rw[ae] at af;generalize i8:[some (bW.aa (bM p)),some (.aa (.tuple [a,f,e,z]))]=ε at *;have bG:ab ax (nm 1) (U (.int 0)) ε=some a:=by subst i8;rw[bC rfl rfl];exact fJ
  have aC:ab ax (nm 1) (U (.int 1)) ε=some f:=by subst i8;rw[bC rfl rfl];exact gK
  have aR:ab ax (nm 1) (U (.int 2)) ε=some e:=by subst i8;rw[bC rfl rfl];exact kG
  have en:ab ax (nm 1) (U (.int 3)) ε=some z:=by subst i8;rw[bC rfl rfl];exact xk
  have au:=c3 (cx (bH af)) λ_=>c3 (bH (IX bG az Mj (by omega))) λ_=>cx (bH (show aq q6 [(ab ax (nm 1) (U (.int 1)))] ε=some (.bool (g0 f)) by rw[dm aC];exact Kl hf.g));rw[eM au];cases a0:(f_ "code" a && g0 f) with
  |false=>
   rw[if_pos (by
    rw[<- Bool.not_and,a0];rfl),fE (t:=.bool false) rfl]
   simp only[ie];rw[<- Bool.and_assoc,a0,Bool.false_and];rfl
  |true=>
   rw[if_neg (by
    rw[<- Bool.not_and,a0];simp)]
   have aA:ab (gw false) (ab ax (nm 1) (U (.int 2))) (U (.tuple (ki ["set","unset"]))) ε=some (.bool (dA ["set","unset"] e)):=by
    rw[bC (t:=e) (u:=.tuple ((["set","unset"]:List Str).map .str)) aR rfl];exact tb GS he (by omega)
   rw[eM (bH aA)];simp only[ie];rw[<- Bool.and_assoc,a0,Bool.true_and];cases hi:dA ["set","unset"] e with
   |true=>
    rw[if_pos rfl,fE (MA en),if_pos rfl];rfl
   |false=>
    rw[if_neg (by simp),if_neg (by simp)];simp only[aW];rw[cD (a:=dA ["shunt","free"] e) (b:=dA (hJ p) z) (by
     rw[bC (t:=e) (u:=.tuple ((["shunt","free"]:List Str).map .str)) aR rfl];exact tb GU he (by omega)) λ_=>by
     rw[h7 (t:=bM p) (u:=z) (by subst i8;rfl) en];exact K3 aE hz (by omega)]
    rfl
def posB(t:T):Bool:=match t with
|.int i=>decide (1<=i)
|_=>false
def jk(t:T):Bool:=match t with
|.tuple [a,n]=>f_ "ticks" a && (m8 n && posB n)
|_=>false
def _B{d:Nat}{t:T}(h:cI (d+1) t)(hd:d<=50):yf [t]=some (.bool (jk t)):=by
 refine hL ?_
 have af:aq dE [(ar 0),(U (.int 2)),(U (.int 2))] [some (.aa t)]=some (.bool (cj t 2 2)):=by
  simp only[aq,args,ar,U,ha,br,c2];exact kd h.g
 cases ae:cj t 2 2 with
|false=>
  rw[ae] at af;refine (cD af (b:=false) λz=>by cases z).trans ?_;have:jk t=false:=by
   unfold jk;split
   ·simp[cj] at ae
   ·rfl
  rw[this];rfl
|true=>
  obtain⟨a,n,rfl⟩:=ti ae;have az:=h.tup a (by simp);have a_:=h.tup n (by simp);rw[ae] at af;refine (cD af λ_=>cD (w4 (t:=a) (by rw[bC rfl rfl];exact fJ) az LP (by omega)) λ_=>cD (a:=m8 n) (b:=posB n) ?_ λhw=>?_).trans rfl
  ·rw[dm (t:=n) (by rw[bC rfl rfl];exact gK)];exact K4 a_.g
  ·cases n with
   |int i=>
    rw[bC (t:=.int i) (u:=.int 1) (by rw[bC rfl rfl];exact gK) rfl];rfl
   |_=>simp[m8] at hw
def iJ(p:cA)(t:T):Bool:=jn p t || (ie p t || jk t)
def aal{p:cA}(aE:mj p){d:Nat}{t:T}(h:cI (d+1) t)(hd:d<=50):sG [bM p,t]=some (.bool (iJ p t)):=by
 refine hL ?_
 refine (Gs (a:=jn p t) (b:=ie p t || jk t) ?_ λ_=>Gs ?_ λ_=>?_).trans rfl
 ·rw[h7 (t:=bM p) (u:=t) rfl rfl];exact abd aE h hd
 ·rw[h7 (t:=bM p) (u:=t) rfl rfl];exact aar aE h hd
 ·rw[dm (t:=t) rfl];exact _B h hd
end dq
end
section
namespace dq
open D b1 PySem
def dig(l:List Nat):Prop:=NumText.AllDigits l
def HI(l:List Nat):Nat:=NumText.digitsVal l
end dq
end
section
namespace dO
open D
noncomputable def vp:ba:=
  (aW (aq hI [(aq m5 [(comp 1 [] (dT (ab ax (nm 0) (U (.int 1)))) (aX 0) (aP (bN fO (ab ax (nm 0) (U (.int 2))))) (ab ax (nm 0) (U (.int 2))))])]))
def yD:List T->Option T:=bE vp 1
def q9:ba:=
  (seq (iff (aP (ab oLt (nm 1) (aq de [(nm 0)]))) (aW (ab ax (nm 0) (nm 1))) skip) (aW (U (.int 0))))
def kc:List T->Option T:=bE q9 2
noncomputable def rb:ba:=
  (seq (asg 2 (ab oMod (ab cZ (ab bb (ab bb (aq kc [(ar 0),(ar 1)]) (ab cZ (U (.int 7919)) (nm 1))) (U (.int 1))) (U (.int 48271))) (U (.int 2147483647)))) (aW (ab oMod (ab bb (ab bb (ab cZ (nm 2) (nm 2)) (ab cZ (U (.int 7)) (nm 2))) (nm 1)) (U (.int 2147483629)))))
def fw:List T->Option T:=bE rb 3
noncomputable def rd:ba:=
  (seq (asg 2 (ab oMod (ab cZ (ab bb (ab bb (nm 0) (ab cZ (U (.int 104729)) (nm 1))) (U (.int 17))) (U (.int 69621))) (U (.int 2147483647)))) (aW (ab oMod (ab bb (ab bb (ab cZ (nm 2) (nm 2)) (ab cZ (U (.int 3)) (nm 2))) (nm 1)) (U (.int 2147483629)))))
def f3:List T->Option T:=bE rd 3
noncomputable def vv:ba:=
  (seq (asg 1 (ab bb (U (.int 1)) (ab oMod (nm 0) (U (.int 7))))) (seq (asg 2 (aJ [])) (seq (c1 (iI (ab oMod (ab oDiv (nm 0) (U (.int 8))) (U (.int 11)))) (aX 3) (seq (asg 4 (ab oDiv (aq f3 [(ar 0),(ab bb (U (.int 50)) (nm 3))]) (U (.int 4)))) (seq (asg 5 (ab oMod (nm 4) (ab bb (nm 1) (U (.int 1))))) (seq (asg 6 (ab oMod (ab bb (ab bb (nm 5) (U (.int 1))) (ab oMod (ab oDiv (nm 4) (U (.int 8))) (nm 1))) (ab bb (nm 1) (U (.int 1))))) (seq (asg 7 (ab ax (aJ [(U .none),(U .none),(U (.str "a")),(U (.str "b")),(U (.str "back")),(U (.str "hall")),(U (.str "win"))]) (ab oMod (ab oDiv (nm 4) (U (.int 64))) (U (.int 7))))) (asg 2 (ab bb (nm 2) (aJ [(aJ [(aq lR [(nm 5),(nm 6)]),(aq lQ [(nm 5),(nm 6)]),(ar 7)])])))))))) (aW (aJ [(ar 1),(ar 2)])))))
def my:List T->Option T:=bE vv 8
end dO
end
section
namespace NM
def N8(e:Int×Int)(x:Int):Option Int:=if e.1=x then some e.2 else if e.2=x then some e.1 else none
def Within(R:Int)(E:List (Int×Int)):Prop:=∀e∈E,0<=e.1/\e.1<=R/\0<=e.2/\e.2<=R
noncomputable def inner(h:Int):List (Int×Int)->List Int->List Int->List Int×List Int
| [],r,w=>(r,w)
|e::av,r,w=>match N8 e h with
  |some t=>if t∈r then inner h av r w else inner h av (r++[t]) (w++[t])
  |none=>inner h av r w
end NM
end
section
namespace dO
open PySem D
abbrev Op:=Int×Int×Option Str
def iM:Option Str->T
|none=>.none
|some x=>.str x
def kO(o:Op):T:=.tuple [.int o.1,.int o.2.1,iM o.2.2]
def eI(R:Int)(os:List Op):T:=.tuple [.int R,.tuple (os.map kO)]
def free(ns:List Str)(o:Op):Bool:=match o.2.2 with
|none=>true
|some x=>decide (x∈ns)
def lP(a b:Int):oEq (.int a) (.int b)=some (.bool (decide (a=b))):=by
 simp[oEq,F3,fu,Bool.beq_eq_decide_eq]
def dD{a b:ba}{ε ε':Ev}(h:a ε=some (.nx ε')):seq a b ε=b ε':=by
 simp only[seq,h,br]
theorem Fc:∀(os:List Op) (j:Option bW),aeC (aX 0) (aP (bN fO (ab ax (nm 0) (U (.int 2))))) (ab ax (nm 0) (U (.int 2))) (os.map kO) [j]=some ((os.filterMap (·.2.2)).map .str)
  | [],j=>rfl
  | (a,b,none)::os,j=>by
    have cK:=Fc os (some (.aa (kO (a,b,none))));simp[aeC,bE,seq,iff,aP,j7,e6,cc,bD,dd,ofT,bN,ab,aq,args,U,nm,ar,aW,skip,asg,iU,hV,par,aJ,da,hD,fO,ax,eH,e',aX,dg,fG,dT,comp,gD,kO,iM] at cK ⊢;exact cK
  | (a,b,some x)::os,j=>by
    have cK:=Fc os (some (.aa (kO (a,b,some x))));simp[aeC,bE,seq,iff,aP,j7,e6,cc,bD,dd,ofT,bN,ab,aq,args,U,nm,ar,aW,skip,asg,iU,hV,par,aJ,da,hD,fO,ax,eH,e',aX,dg,fG,dT,comp,gD,kO,iM] at cK ⊢;exact cK
def Gd(os:List Op):List Str:=hK (dedup (os.filterMap (·.2.2)))
def Zw:∀(ss:List Str),ss≠[]->intsOf (ss.map .str)=none
| [],h=>absurd rfl h
|x::r,_=>rfl
theorem JT:∀(ss:List Str),strsOf (ss.map .str)=some ss
| []=>rfl
|x::r=>by
  simp only[eK,strsOf,JT r];rfl
def K2{R:Int}{os:List Op}(aF:os.length<=10):yD [eI R os]=some (.tuple ((Gd os).map .str)):=by
 have hit:dT (ab ax (nm 0) (U (.int 1))) [some (.aa (eI R os))]=some (os.map kO):=by
  simp[dT,ab,nm,eI,ax,U,eH,e']
 have Q5:gD 1 [] [some (.aa (eI R os))]=[none]:=rfl;have au:comp 1 [] (dT (ab ax (nm 0) (U (.int 1)))) (aX 0) (aP (bN fO (ab ax (nm 0) (U (.int 2))))) (ab ax (nm 0) (U (.int 2))) [some (.aa (eI R os))]=some (.list ((os.filterMap (·.2.2)).map .str)):=by
  simp only[comp,hit,br,Q5,Fc,ej];rw[if_pos (by unfold big;omega)];rfl
 have hz:(os.filterMap (·.2.2)).length<64:=Nat.lt_of_le_of_lt (List.length_filterMap_le _ _) (by omega);have aA:m5 [.list ((os.filterMap (·.2.2)).map .str)]=some (.list ((Gd os).map .str)):=by
  unfold m5;simp only[ej];rw[if_pos hz];by_cases he:os.filterMap (·.2.2)=[]
  ·simp only[Gd,he];rfl
  ·rw[Zw _ he,JT];rfl
 have bG:yD [eI R os]=(vp [some (.aa (eI R os))]).bind λo=>match o with|.dn t=>some t|.nx _=>some .none|_=>none:=rfl
 rw[bG];simp only[vp,aW,aq,args,au,br,c2,aA,hI]
end dO
end
section
namespace dO
open PySem D
def wT(w:List Nat):T:=.tuple (w.map λ(k:Nat)=>PyData.int (k:Int))
end dO
end
section
namespace dO
open PySem D
def dw(ns:List Int):T:=.list (ns.map .int)
def F_(ns:List Int)(k:Nat):kc [dw ns,.int k]=some (.int (ns.getD k 0)):=by
 by_cases h:k<ns.length
 ·have h':(k:Int)<(ns.length:Int):=by omega
  simp[kc,q9,dw,bE,seq,iff,aP,j7,e6,cc,bD,dd,ofT,bN,ab,aq,args,U,nm,ar,aW,skip,asg,iU,hV,par,aJ,da,hD,fO,ax,eH,e',aX,dg,fG,dT,comp,gD,bb,jB,cZ,oDiv,oMod,kM,de,lR,lQ,hI,iL,xu,oLt,oLe,fU,mQ,big,h,h',List.getD]
 ·have h':¬(k:Int)<(ns.length:Int):=by omega
  simp[kc,q9,dw,bE,seq,iff,aP,j7,e6,cc,bD,dd,ofT,bN,ab,aq,args,U,nm,ar,aW,skip,asg,iU,hV,par,aJ,da,hD,fO,ax,eH,e',aX,dg,fG,dT,comp,gD,bb,jB,cZ,oDiv,oMod,kM,de,lR,lQ,hI,iL,xu,oLt,oLe,fU,mQ,big,h,h',List.getD]
def iv{i j:Int}(h:-(2 ^ 64)<j/\j<2 ^ 64):cZ (.int i) (.int j)=some (.int (i*j)):=by
 unfold cZ tn;simp only[decide_eq_true h.1,decide_eq_true h.2,Bool.and_self,Bool.or_true,if_true]
def iH{i j:Int}(h:0<j):oMod (.int i) (.int j)=some (.int (i % j)):=if_pos h
def td{i j:Int}(h:0<j/\j<1073741824):oDiv (.int i) (.int j)=some (.int (i / j)):=if_pos h
def hh{i j:Int}:bb (.int i) (.int j)=some (.int (i+j)):=rfl
def uE(ns:List Int)(k:Nat):∃m:Int,0<=m/\fw [dw ns,.int k]=some (.int m):=by
 have au:=F_ ns k;have hd:0<=(ns.getD k 0+7919*(k:Int)+1)*48271 % 2147483647/\(ns.getD k 0+7919*(k:Int)+1)*48271 % 2147483647<2147483647:=⟨iC _ (by decide),kX _ (by decide)⟩;generalize hx:(ns.getD k 0+7919*(k:Int)+1)*48271 % 2147483647=d at hd;refine⟨(d*d+7*d+k) % 2147483629,iC _ (by decide),?_⟩;have bG:fw [dw ns,.int k]=(rb [some (.aa (dw ns)),some (.aa (.int k)),none]).bind λo=>match o with|.dn t=>some t|.nx _=>some .none|_=>none:=rfl
 have h6:cZ (.int 7919) (.int k)=some (.int (7919*k)):=by
  unfold cZ tn;simp
 have fo:ar 0 [some (.aa (dw ns)),some (.aa (.int k)),none]=some (dw ns):=rfl;have dR:ar 1 [some (.aa (dw ns)),some (.aa (.int k)),none]=some (.int k):=rfl;have DW:nm 1 [some (.aa (dw ns)),some (.aa (.int k)),none]=some (.int k):=rfl;have s1:asg 2 (ab oMod (ab cZ (ab bb (ab bb (aq kc [(ar 0),(ar 1)]) (ab cZ (U (.int 7919)) (nm 1))) (U (.int 1))) (U (.int 48271))) (U (.int 2147483647))) [some (.aa (dw ns)),some (.aa (.int k)),none]=some (.nx [some (.aa (dw ns)),some (.aa (.int k)),some (.aa (.int d))]):=by
  simp only[asg,ab,aq,args,fo,dR,DW,br,c2,au,U,h6,hh,iv (i:=ns.getD k 0+7919*(k:Int)+1) (j:=48271) (by decide),iH (j:=2147483647) (by decide),hx];rfl
 have i_:cZ (.int d) (.int d)=some (.int (d*d)):=iv (by omega);have lN:cZ (.int 7) (.int d)=some (.int (7*d)):=iv (by omega);rw[bG];unfold rb;rw[dD s1];have bg:nm 2 [some (.aa (dw ns)),some (.aa (.int k)),some (.aa (.int d))]=some (.int d):=rfl;have aT:nm 1 [some (.aa (dw ns)),some (.aa (.int k)),some (.aa (.int d))]=some (.int k):=rfl;simp only[aW,ab,bg,aT,br,c2,U,i_,lN,hh,iH (j:=2147483629) (by decide)]
def rM(n k:Int)(aV:-(2 ^ 64)<k/\k<2 ^ 64):∃m:Int,0<=m/\f3 [.int n,.int k]=some (.int m):=by
 have hd:0<=(n+104729*k+17)*69621 % 2147483647/\(n+104729*k+17)*69621 % 2147483647<2147483647:=⟨iC _ (by decide),kX _ (by decide)⟩;generalize hx:(n+104729*k+17)*69621 % 2147483647=d at hd;refine⟨(d*d+3*d+k) % 2147483629,iC _ (by decide),?_⟩;have bG:f3 [.int n,.int k]=(rd [some (.aa (.int n)),some (.aa (.int k)),none]).bind λo=>match o with|.dn t=>some t|.nx _=>some .none|_=>none:=rfl
 have h6:cZ (.int 104729) (.int k)=some (.int (104729*k)):=iv aV;have fo:nm 0 [some (.aa (.int n)),some (.aa (.int k)),none]=some (.int n):=rfl;have dR:nm 1 [some (.aa (.int n)),some (.aa (.int k)),none]=some (.int k):=rfl;have s1:asg 2 (ab oMod (ab cZ (ab bb (ab bb (nm 0) (ab cZ (U (.int 104729)) (nm 1))) (U (.int 17))) (U (.int 69621))) (U (.int 2147483647))) [some (.aa (.int n)),some (.aa (.int k)),none]=some (.nx [some (.aa (.int n)),some (.aa (.int k)),some (.aa (.int d))]):=by
  simp only[asg,ab,fo,dR,br,c2,U,h6,hh,iv (i:=n+104729*k+17) (j:=69621) (by decide),iH (j:=2147483647) (by decide),hx];rfl
 have i_:cZ (.int d) (.int d)=some (.int (d*d)):=iv (by omega);have lN:cZ (.int 3) (.int d)=some (.int (3*d)):=iv (by omega);rw[bG];unfold rd;rw[dD s1];have bg:nm 2 [some (.aa (.int n)),some (.aa (.int k)),some (.aa (.int d))]=some (.int d):=rfl;have aT:nm 1 [some (.aa (.int n)),some (.aa (.int k)),some (.aa (.int d))]=some (.int k):=rfl;simp only[aW,ab,bg,aT,br,c2,U,i_,lN,hh,iH (j:=2147483629) (by decide)]
def names5:List Str:=["a","b","back","hall","win"]
def wF(R:Int)(o:Op):Prop:=0<=o.1/\o.1<o.2.1/\o.2.1<=R/\∀x,o.2.2=some x->x∈names5
structure Drawn(R:Int)(os:List Op):Prop where
 a':1<=R
 qL:R<=7
 len:os.length<=10
 ok:∀o∈os,wF R o
noncomputable def tO:ba:=(seq (asg 4 (ab oDiv (aq f3 [(ar 0),(ab bb (U (.int 50)) (nm 3))]) (U (.int 4)))) (seq (asg 5 (ab oMod (nm 4) (ab bb (nm 1) (U (.int 1))))) (seq (asg 6 (ab oMod (ab bb (ab bb (nm 5) (U (.int 1))) (ab oMod (ab oDiv (nm 4) (U (.int 8))) (nm 1))) (ab bb (nm 1) (U (.int 1))))) (seq (asg 7 (ab ax (aJ [(U .none),(U .none),(U (.str "a")),(U (.str "b")),(U (.str "back")),(U (.str "hall")),(U (.str "win"))]) (ab oMod (ab oDiv (nm 4) (U (.int 64))) (U (.int 7))))) (asg 2 (ab bb (nm 2) (aJ [(aJ [(aq lR [(nm 5),(nm 6)]),(aq lQ [(nm 5),(nm 6)]),(ar 7)])])))))))
def dP(n R:Int)(os:List Op)(jy iu hB fT eT:Option bW):Ev:=[some (.aa (.int n)),some (.aa (.int R)),some (.aa (.tuple (os.map kO))),jy,iu,hB,fT,eT]
def abC(i:Int)(h0:0<=i)(o2:i<7)(ε:Ev):∃z:Option Str,(aJ [(U .none),(U .none),(U (.str "a")),(U (.str "b")),(U (.str "back")),(U (.str "hall")),(U (.str "win"))] ε).bind (λt=>ax t (.int i))=some (iM z)/\∀x,z=some x->x∈names5:=by
 have au:i=0\/i=1\/i=2\/i=3\/i=4\/i=5\/i=6:=by omega
 have e:aJ [(U .none),(U .none),(U (.str "a")),(U (.str "b")),(U (.str "back")),(U (.str "hall")),(U (.str "win"))] ε=some (.tuple [.none,.none,.str "a",.str "b",.str "back",.str "hall",.str "win"]):=by
  simp[aJ,args,U,big]
 rw[e];rcases au with rfl|rfl|rfl|rfl|rfl|rfl|rfl
 ·exact⟨none,rfl,λx h=>by cases h⟩
 ·exact⟨none,rfl,λx h=>by cases h⟩
 ·exact⟨some "a",rfl,λx h=>by cases h;simp[names5]⟩
 ·exact⟨some "b",rfl,λx h=>by cases h;simp[names5]⟩
 ·exact⟨some "back",rfl,λx h=>by cases h;simp[names5]⟩
 ·exact⟨some "hall",rfl,λx h=>by cases h;simp[names5]⟩
 ·exact⟨some "win",rfl,λx h=>by cases h;simp[names5]⟩
def _h(n R:Int)(af:1<=R)(o2:R<=7)(os:List Op)(aF:os.length<1000)(k:Int)(aV:0<=k/\k<1000)(iu hB fT eT:Option bW):
  ∃o CE CF CG CH,wF R o/\tO (dP n R os (some (.aa (.int k))) iu hB fT eT)=some (.nx (dP n R (os++[o]) (some (.aa (.int k))) CE CF CG CH)):=by
 obtain⟨m,hm,hd⟩:=rM n (50+k) (by omega);have j1:0<=m / 4:=Int.ediv_nonneg hm (by decide);generalize a0:m / 4=q at j1;have s1:asg 4 (ab oDiv (aq f3 [(ar 0),(ab bb (U (.int 50)) (nm 3))]) (U (.int 4))) (dP n R os (some (.aa (.int k))) iu hB fT eT)=some (.nx (dP n R os (some (.aa (.int k))) (some (.aa (.int q))) hB fT eT)):=by
  have fo:ar 0 (dP n R os (some (.aa (.int k))) iu hB fT eT)=some (.int n):=rfl;have qz:nm 3 (dP n R os (some (.aa (.int k))) iu hB fT eT)=some (.int k):=rfl;simp only[asg,ab,aq,args,fo,qz,U,hh,br,c2,hd,td (j:=4) (by decide),a0];rfl
 have aej:0<=q % (R+1)/\q % (R+1)<R+1:=⟨iC _ (by omega),kX _ (by omega)⟩;have ael:0<=q / 8 % R/\q / 8 % R<R:=⟨iC _ (by omega),kX _ (by omega)⟩;have aei:(q % (R+1)+1+q / 8 % R) % (R+1)≠q % (R+1):=by
  generalize q % (R+1)=a at *;generalize q / 8 % R=b at *;intro e;by_cases c:a+1+b<R+1
  ·rw[Int.emod_eq_of_lt (by omega) c] at e;omega
  ·have:(a+1+b) % (R+1)=a+1+b - (R+1):=by
    rw[<- Int.sub_emod_right,Int.emod_eq_of_lt (by omega) (by omega)]
   omega
 have aek:0<=(q % (R+1)+1+q / 8 % R) % (R+1)/\(q % (R+1)+1+q / 8 % R) % (R+1)<R+1:=⟨iC _ (by omega),kX _ (by omega)⟩;have s2:asg 5 (ab oMod (nm 4) (ab bb (nm 1) (U (.int 1)))) (dP n R os (some (.aa (.int k))) (some (.aa (.int q))) hB fT eT)=some (.nx (dP n R os (some (.aa (.int k))) (some (.aa (.int q))) (some (.aa (.int (q % (R+1))))) fT eT)):=by
  have uG:nm 4 (dP n R os (some (.aa (.int k))) (some (.aa (.int q))) hB fT eT)=some (.int q):=rfl;have dR:nm 1 (dP n R os (some (.aa (.int k))) (some (.aa (.int q))) hB fT eT)=some (.int R):=rfl;simp only[asg,ab,uG,dR,U,hh,br,c2,iH (j:=R+1) (by omega)];rfl
 generalize q % (R+1)=one at *;have s3:asg 6 (ab oMod (ab bb (ab bb (nm 5) (U (.int 1))) (ab oMod (ab oDiv (nm 4) (U (.int 8))) (nm 1))) (ab bb (nm 1) (U (.int 1)))) (dP n R os (some (.aa (.int k))) (some (.aa (.int q))) (some (.aa (.int one))) fT eT)=some (.nx (dP n R os (some (.aa (.int k))) (some (.aa (.int q))) (some (.aa (.int one))) (some (.aa (.int ((one+1+q / 8 % R) % (R+1))))) eT)):=by
  have DX:nm 5 (dP n R os (some (.aa (.int k))) (some (.aa (.int q))) (some (.aa (.int one))) fT eT)=some (.int one):=rfl;have uG:nm 4 (dP n R os (some (.aa (.int k))) (some (.aa (.int q))) (some (.aa (.int one))) fT eT)=some (.int q):=rfl;have dR:nm 1 (dP n R os (some (.aa (.int k))) (some (.aa (.int q))) (some (.aa (.int one))) fT eT)=some (.int R):=rfl;simp only[asg,ab,DX,uG,dR,U,hh,br,c2,td (j:=8) (by decide),iH (j:=R) (by omega),iH (j:=R+1) (by omega)];rfl
 generalize (one+1+q / 8 % R) % (R+1)=gd at *;obtain⟨z,hz,RU⟩:=abC (q / 64 % 7) (iC _ (by decide)) (kX _ (by decide)) (dP n R os (some (.aa (.int k))) (some (.aa (.int q))) (some (.aa (.int one))) (some (.aa (.int gd))) eT);have s4:asg 7 (ab ax (aJ [(U .none),(U .none),(U (.str "a")),(U (.str "b")),(U (.str "back")),(U (.str "hall")),(U (.str "win"))]) (ab oMod (ab oDiv (nm 4) (U (.int 64))) (U (.int 7)))) (dP n R os (some (.aa (.int k))) (some (.aa (.int q))) (some (.aa (.int one))) (some (.aa (.int gd))) eT)=some (.nx (dP n R os (some (.aa (.int k))) (some (.aa (.int q))) (some (.aa (.int one))) (some (.aa (.int gd))) (some (.aa (iM z))))):=by
  have uG:nm 4 (dP n R os (some (.aa (.int k))) (some (.aa (.int q))) (some (.aa (.int one))) (some (.aa (.int gd))) eT)=some (.int q):=rfl;have hi:ab oMod (ab oDiv (nm 4) (U (.int 64))) (U (.int 7)) (dP n R os (some (.aa (.int k))) (some (.aa (.int q))) (some (.aa (.int one))) (some (.aa (.int gd))) eT)=some (.int (q / 64 % 7)):=by
   simp only[ab,uG,U,br,td (j:=64) (by decide),iH (j:=7) (by decide)]
  have b':ab ax (aJ [(U .none),(U .none),(U (.str "a")),(U (.str "b")),(U (.str "back")),(U (.str "hall")),(U (.str "win"))]) (ab oMod (ab oDiv (nm 4) (U (.int 64))) (U (.int 7))) (dP n R os (some (.aa (.int k))) (some (.aa (.int q))) (some (.aa (.int one))) (some (.aa (.int gd))) eT)=some (iM z):=by
   rw[<- hz];unfold ab at hi ⊢;simp only[hi,br]
  simp only[asg,b',c2];rfl
 refine⟨((if gd<one then gd else one),(if gd > one then gd else one),z),some (.aa (.int q)),some (.aa (.int one)),some (.aa (.int gd)),some (.aa (iM z)),⟨?_,?_,?_,RU⟩,?_⟩
 ·dsimp only;split <;> omega
 ·dsimp only;split <;> split <;> omega
 ·dsimp only;split <;> omega
 ·have s5:asg 2 (ab bb (nm 2) (aJ [(aJ [(aq lR [(nm 5),(nm 6)]),(aq lQ [(nm 5),(nm 6)]),(ar 7)])])) (dP n R os (some (.aa (.int k))) (some (.aa (.int q))) (some (.aa (.int one))) (some (.aa (.int gd))) (some (.aa (iM z))))=some (.nx (dP n R (os++[((if gd<one then gd else one),(if gd > one then gd else one),z)]) (some (.aa (.int k))) (some (.aa (.int q))) (some (.aa (.int one))) (some (.aa (.int gd))) (some (.aa (iM z))))):=by
   have DX:nm 5 (dP n R os (some (.aa (.int k))) (some (.aa (.int q))) (some (.aa (.int one))) (some (.aa (.int gd))) (some (.aa (iM z))))=some (.int one):=rfl;have S9:nm 6 (dP n R os (some (.aa (.int k))) (some (.aa (.int q))) (some (.aa (.int one))) (some (.aa (.int gd))) (some (.aa (iM z))))=some (.int gd):=rfl;have qA:ar 7 (dP n R os (some (.aa (.int k))) (some (.aa (.int q))) (some (.aa (.int one))) (some (.aa (.int gd))) (some (.aa (iM z))))=some (iM z):=rfl;have fp:nm 2 (dP n R os (some (.aa (.int k))) (some (.aa (.int q))) (some (.aa (.int one))) (some (.aa (.int gd))) (some (.aa (iM z))))=some (.tuple (os.map kO)):=rfl;have ae:(os.map kO).length+1<=16777216:=by simp;omega
   simp only[asg,ab,aq,aJ,args,DX,S9,qA,fp,br,c2,lR,lQ,bb,gi,qY,big];simp[ae,dP,kO];omega
  unfold tO;rw[dD s1,dD s2,dD s3,dD s4,s5]
theorem Kk(n R:Int)(af:1<=R)(o2:R<=7):∀(ks:List Int) (os:List Op) (jy iu hB fT eT:Option bW),(∀k∈ks,0<=k/\k<1000)->os.length+ks.length<1000->(∀o∈os,wF R o) ->
  ∃iw R_ CE CF CG CH,iw.length=os.length+ks.length/\(∀o∈iw,wF R o)/\forL (aX 3) tO (ks.map .int) (dP n R os jy iu hB fT eT)=some (.nx (dP n R iw R_ CE CF CG CH))
| [],os,jy,iu,hB,fT,eT,_,_,aQ=>⟨os,jy,iu,hB,fT,eT,rfl,aQ,rfl⟩
|k::ks,os,jy,iu,hB,fT,eT,aV,aF,aQ=>by
  simp only[gi] at aF;obtain⟨o,nC,nD,mu,nE,U_,aA⟩:=_h n R af o2 os (by omega) k (aV k (by simp)) iu hB fT eT;obtain⟨iw,gY,mv,nG,iV,p6,aC,aR,en⟩:=Kk n R af o2 ks (os++[o]) (some (.aa (.int k))) nC nD mu nE (λgu h=>aV gu (by simp[h])) (by simp;omega) λd6 h=>by
   rcases mW.mp h with q|q
   ·exact aQ d6 q
   ·simp at q;subst q;exact U_
  refine⟨iw,gY,mv,nG,iV,p6,by rw[aC];simp;omega,aR,?_⟩
  have bG:aX 3 (.int k) (dP n R os jy iu hB fT eT)=some (dP n R os (some (.aa (.int k))) iu hB fT eT):=rfl;simp only[eK,forL,bG,br,aA,en]
def aeP(n:Int)(a_:0<=n):∃R os,Drawn R os/\my [.int n]=some (eI R os):=by
 have hR:0<=n % 7/\n % 7<7:=⟨iC _ (by decide),kX _ (by decide)⟩;have ea:0<=n / 8 % 11/\n / 8 % 11<11:=⟨iC _ (by decide),kX _ (by decide)⟩;have s1:asg 1 (ab bb (U (.int 1)) (ab oMod (nm 0) (U (.int 7)))) [some (.aa (.int n)),none,none,none,none,none,none,none]=some (.nx [some (.aa (.int n)),some (.aa (.int (1+n % 7))),none,none,none,none,none,none]):=by
  have fo:nm 0 [some (.aa (.int n)),none,none,none,none,none,none,none]=some (.int n):=rfl;simp only[asg,ab,fo,U,br,c2,iH (j:=7) (by decide),hh];rfl
 have s2:asg 2 (aJ []) [some (.aa (.int n)),some (.aa (.int (1+n % 7))),none,none,none,none,none,none]=some (.nx (dP n (1+n % 7) [] none none none none none)):=by
  simp[asg,aJ,args,big,dP]
 have hit:iI (ab oMod (ab oDiv (nm 0) (U (.int 8))) (U (.int 11))) (dP n (1+n % 7) [] none none none none none)=some (((List.range (n / 8 % 11).toNat).map λ(k:Nat)=>(k:Int)).map .int):=by
  have fo:nm 0 (dP n (1+n % 7) [] none none none none none)=some (.int n):=rfl;have aA:sW (n / 8 % 11)=true:=by
   unfold sW;simp;omega
  simp only[iI,ab,fo,U,br,td (j:=8) (by decide),iH (j:=11) (by decide),aA,if_true,kR,Int.sub_zero,Int.zero_add,iD,qV]
 obtain⟨os,gY,mv,nG,iV,p6,aC,aR,en⟩:=Kk n (1+n % 7) (by omega) (by omega) ((List.range (n / 8 % 11).toNat).map λ(k:Nat)=>(k:Int)) [] none none none none none (λk aV=>by
  obtain⟨j,dG,rfl⟩:=ei.mp aV;have:=List.mem_range.mp dG;omega) (by simp;omega) (by simp)
 simp only[qY,ej,List.length_range] at aC;refine⟨1+n % 7,os,⟨by omega,by omega,by omega,aR⟩,?_⟩;have s3:c1 (iI (ab oMod (ab oDiv (nm 0) (U (.int 8))) (U (.int 11)))) (aX 3) tO (dP n (1+n % 7) [] none none none none none)=some (.nx (dP n (1+n % 7) os gY mv nG iV p6)):=by
  simp only[c1,hit,br];exact en
 have s4:seq (c1 (iI (ab oMod (ab oDiv (nm 0) (U (.int 8))) (U (.int 11)))) (aX 3) tO) (aW (aJ [(ar 1),(ar 2)])) (dP n (1+n % 7) [] none none none none none)=some (.dn (eI (1+n % 7) os)):=by
  rw[dD s3];simp[aW,aJ,args,ar,dP,big,eI]
 have bG:my [.int n]=(vv [some (.aa (.int n)),none,none,none,none,none,none,none]).bind λo=>match o with|.dn t=>some t|.nx _=>some .none|_=>none:=rfl
 rw[bG];unfold vv;rw[dD s1,dD s2];exact congrArg (λx:Option Out=>x.bind λo=>match o with|.dn t=>some t|.nx _=>some .none|_=>none) s4
end dO
end
section
namespace dq
open D b1 PySem
def V7(ps:List Str):List Nat:=IH 32 (ps.map ls)++[10]
def XU(rs:List (List Str)):List Nat:=(rs.map V7).flatten
def tx(rs:List (List Str)):Str:=st (XU rs)
theorem K5:∀ss:List Str,strsOf (ss.map .str)=some ss
| []=>rfl
|s::ss=>by simp[strsOf,K5 ss]
end dq
end
section
namespace dq
open D b1 PySem
structure Ow(o:dO.Op):Prop where
 a:0<=o.1/\o.1<1000000000
 b:0<=o.2.1/\o.2.1<1000000000
 z:∀x,o.2.2=some x->x.length<=100/\asc (ls x)
def ad0:f_ "ticks" (.str "ticks")=true:=by decide +kernel
def ad1:f_ "code" (.str "code")=true:=by decide +kernel
end dq
end
section
namespace dq
open D b1 PySem
def rK(p:Str):Bool:=decide (1<=p.length) && (ls p).all λc=>decide (48<=c) && decide (c<=57)
def I2(p:Str):T:=if rK p=true then .int (HI (ls p):Nat) else .none
def abq{p:Str}(h:rK p=true):dig (ls p)/\1<=p.length:=by
 rw[rK,cJ,List.all_eq_true] at h;exact⟨λc au=>by
  have:=h.2 c au;rw[cJ,decide_eq_true_eq,decide_eq_true_eq] at this;exact this,of_decide_eq_true h.1⟩
def p7:ba:=asg 1 (ab jB (ab bb (ab cZ (nm 1) (U (.int 10))) (aq qF [(nm 2)])) (aq qF [(U (.str "0"))]))
def aa_(a:Int)(c:Nat)(s0:Option bW):p7 [s0,some (.aa (.int a)),some (.aa (dV c))]=some (.nx [s0,some (.aa (.int (a*10+c - 48))),some (.aa (dV c))]):=by
 unfold p7 asg;have aC:ab cZ (nm 1) (U (.int 10)) [s0,some (.aa (.int a)),some (.aa (dV c))]=some (.int (a*10)):=by
  rw[bC (t:=.int a) rfl rfl];exact b1.iv (i:=a) (j:=10) ⟨by decide +kernel,by decide +kernel⟩
 have aR:aq qF [(nm 2)] [s0,some (.aa (.int a)),some (.aa (dV c))]=some (.int (c:Nat)):=by
  rw[dm (t:=dV c) rfl];rfl
 have en:ab bb (ab cZ (nm 1) (U (.int 10))) (aq qF [(nm 2)]) [s0,some (.aa (.int a)),some (.aa (dV c))]=some (.int (a*10+c)):=by
  rw[bC aC aR];rfl
 have ik:aq qF [(U (.str "0"))] [s0,some (.aa (.int a)),some (.aa (dV c))]=some (.int 48):=by
  rw[dm (t:=dV 48) rfl];rfl
 rw[bC en ik];rfl
def aa'(a c:Nat)(h:48<=c):((a:Int)*10+c - 48)=((a*10+(c - 48):Nat):Int):=by omega
def zj(acc c:Nat):Nat:=acc*10+(c - 48)
def abZ(a c:Nat)(l:List T)(s0 s2:Option bW)(h:48<=c):forL (aX 2) p7 (dV c::l) [s0,some (.aa (.int (a:Int))),s2]=forL (aX 2) p7 l [s0,some (.aa (.int ((zj a c:Nat):Int))),some (.aa (dV c))]:=by
 have aC:((a:Int)*10+(c:Int) - 48)=((zj a c:Nat):Int):=aa' a c h;have aR:=aa_ (a:Int) c s0;rw[aC] at aR;rw[forL,show aX 2 (dV c) [s0,some (.aa (.int (a:Int))),s2]=some [s0,some (.aa (.int (a:Int))),some (.aa (dV c))] from rfl,br,aR,br]
theorem LC:∀(l:List Nat) (a:Nat) (s0 s2:Option bW),dig l->∃g7,forL (aX 2) p7 (l.map dV) [s0,some (.aa (.int (a:Int))),s2]=some (.nx [s0,some (.aa (.int ((l.foldl zj a:Nat):Int))),g7])
| [],a,s0,s2,_=>⟨s2,rfl⟩
|c::l,a,s0,s2,h=>by
  have au:=h c (by simp);obtain⟨g7,e⟩:=LC l (zj a c) s0 (some (.aa (dV c))) λx hx=>h x (gz _ hx);refine⟨g7,?_⟩;rw[eK,abZ a c _ s0 s2 au.1,List.foldl_cons];exact e
def oy{p:Str}(aE:asc (ls p))(aF:p.length<=900000):J6 [.str p]=some (I2 p):=by
 unfold J6 bE J9;show (seq _ _ [some (.aa (.str p)),none,none]).bind _=_;have aU:dt (.str p)=true:=(ze (d:=0) aE (by omega)).g;have aC:aq l6 [(ar 0),(U (.int 1)),(aq de [(nm 0)]),(U (.str "0")),(U (.str "9"))] [some (.aa (.str p)),none,none]=some (.bool (rK p)):=by
  have bG:aq de [(nm 0)] [some (.aa (.str p)),none,none]=some (.int p.length):=by
   rw[dm (t:=.str p) rfl];simp only[de];rw[if_pos (by unfold big;omega)]
  simp only[aq,args] at bG ⊢;simp only[ar,U,ha,br,c2];simp only[nm,ha,br,c2] at bG ⊢;rw[bG];simp only[br,c2];have:=FV (t:=.str p) (lo:=1) (hi:=p.length) (a:=48) (b:=57) aU;rw[show ([.str p,.int 1,.int p.length,.str "0",.str "9"]:List T)=[.str p,.int 1,.int p.length,dV 48,dV 57] from rfl,this];simp only[kg,rK];rw[decide_eq_true (show (p.length:Int)<=p.length by omega),Bool.and_true];congr 3;congr 1;apply propext;omega
 rw[eM (cx (bH aC))];unfold I2;cases hd:rK p with
|false=>
  rw[if_pos (by rfl),fE (t:=.none) rfl,if_neg (by simp)];rfl
|true=>
  rw[if_neg (by simp),if_pos rfl];obtain⟨af,ao⟩:=abq hd;rw[b1.dD (ε':=[some (.aa (.str p)),some (.aa (.int 0)),none]) rfl];obtain⟨g7,aR⟩:=LC (ls p) 0 (some (.aa (.str p))) none af;have en:c1 (cz (ar 0)) (aX 2) p7 [some (.aa (.str p)),some (.aa (.int 0)),none]=some (.nx [some (.aa (.str p)),some (.aa (.int (HI (ls p):Nat))),g7]):=by
   unfold c1;rw[show cz (ar 0) [some (.aa (.str p)),some (.aa (.int 0)),none]=some ((ls p).map dV) by
    simp only[cz,ar,ha,br];rw[if_pos ((sI p).mpr aE)];rfl]
   exact aR
  show (seq (c1 (cz (ar 0)) (aX 2) p7) (aW (nm 1)) _).bind _=_
  rw[b1.dD en];rfl
def F9{α:Type}{l:List α}{a b:Option Int}{x:α}(h:x∈eA l a b):x∈l:=by
 unfold eA at h;exact List.mem_of_mem_drop (List.mem_of_mem_take h)
def wN{α:Type}(l:List α)(a b:Option Int):(eA l a b).length<=l.length:=by
 unfold eA;rw[List.length_take,List.length_drop];omega
end dq
end
section
namespace dq
open D b1 PySem
def sQ{x:Str}(h:eF (.str x)=true):1<=x.length/\x.length<=4/\∀c∈ls x,97<=c/\c<=122:=by
 simp only[eF,kg,cJ,decide_eq_true_eq,List.all_eq_true] at h;exact⟨by omega,by omega,h.2⟩
def sZ{x:Str}(h:g0 (.str x)=true):x.length=4/\∀c∈ls x,48<=c/\c<=57:=by
 simp only[g0,kg,cJ,decide_eq_true_eq,List.all_eq_true] at h;exact⟨by omega,h.2⟩
def vB{x:Str}(h:eF (.str x)=true):asc (ls x):=λa az=>by
 have:=(sQ h).2.2 a az;omega
def ac_{l:List Str}{x:Str}(n:Nat)(h:(l.all λs=>decide (s.length<=n))=true)(hx:x∈l):x.length<=n:=of_decide_eq_true (List.all_eq_true.mp h x hx)
structure Pv(p:cA):Prop where
 iF:1<=p.fy.length
 Fe:p.fy.length<=8
 zs:∀z∈p.fy,eF (.str z.1)=true/\z.2∈l'
 zr:ff (p.fy.map (·.1))=true
 dc:1<=p.codes.length
 mx:p.codes.length<=6
 cs:∀k∈p.codes,g0 (.str k.jX)=true/\eF (.str k.jI)=true/\k.pl.length<=3/\(∀r∈k.pl,r∈f5)/\ff k.pl=true/\0<=k.uses/\k.uses<=9
 cr:ff (p.codes.map (·.jX))=true
 t1:0<=p.leave/\p.leave<=60
 eE:0<=p.rJ/\p.rJ<=60
 t3:1<=p.loud/\p.loud<=300
structure zE(R:Int)(os:List dO.Op):Prop where
 r:1<=R/\R<=7
 l:os.length<=10
 o:∀o∈os,0<=o.1/\o.1<o.2.1/\o.2.1<=R/\∀x,o.2.2=some x->eF (.str x)=true
def hd(s:Str)(ps:List Str):Bool:=decide (ps.head?=some s)
end dq
end
section
namespace dq
open D b1 PySem
noncomputable def Be(p:cA):nj->Prop
|.line z w=>z∈hJ p/\w∈ta
|.code f d z=>g0 (.str f)=true/\((z=none/\d∈(["set","unset"]:List Str))\/∃x,z=some x/\x∈hJ p/\d∈(["shunt","free"]:List Str))
|.kU n=>1<=n
structure NY(p:cA):Prop where
 ok:mj p
 n:∀s∈hJ p,s.length<=4
end dq
end
section
namespace dq
open D b1 PySem
theorem vy:∀{ss:List Str},ss.Pairwise (λa b=>strLt a b=true)->ff ss=true
| [],_=>rfl
| [x],_=>rfl
|x::y::r,h=>by
  rw[iz] at h;simp only[ff,h.1 y (by simp),Bool.true_and];exact vy h.2
def pw_z:(jr.map (·.2)).Pairwise (λa b=>strLt a b=true):=by decide +kernel
def pw_c:(nI.map (·.2)).Pairwise (λa b=>strLt a b=true):=by decide +kernel
def pw_r:f5.Pairwise (λa b=>strLt a b=true):=by decide +kernel
def tf{l:List Str}{f:Str->Bool}(h:l.all f=true){x:Str}(hx:x∈l):f x=true:=List.all_eq_true.mp h x hx
def Ti:(jr.map (·.2)).all (λs=>eF (.str s))=true:=by decide +kernel
def Tf:(nI.map (·.2)).all (λs=>g0 (.str s))=true:=by decide +kernel
def Th:u1.all (λs=>eF (.str s))=true:=by decide +kernel
def Tg:kinds.all (λs=>decide (s∈l'))=true:=by decide +kernel
def adK{p:cA}(h:nh p):Pv p:=by
 refine⟨?_,h.zl,λz hz=>⟨?_,?_⟩,vy (pw_z.sublist h.zs),?_,h.cl,λk aV=>?_,vy (pw_c.sublist h.cs),?_,?_,?_⟩
 ·have:=List.length_pos_iff.mpr h.q4;omega
 ·exact tf Ti (h.zs.subset (ei.mpr ⟨z,hz,rfl⟩))
 ·exact of_decide_eq_true (tf Tg (h._R z hz))
 ·have:=List.length_pos_iff.mpr h.rH;omega
 ·obtain⟨af,ao,bA⟩:=h.A3 k aV;refine⟨tf Tf (h.cs.subset (ei.mpr ⟨k,aV,rfl⟩)),tf Th af,ao.length_le,λr aw=>ao.subset aw,vy (pw_r.sublist ao),?_,?_⟩
  ·simp only[bS,d8,or_false] at bA;omega
  ·simp only[bS,d8,or_false] at bA;omega
 ·have:=h.j6;simp only[bS,d8,or_false] at this;omega
 ·have:=h.tc;simp only[bS,d8,or_false] at this;omega
 ·have:=h.to;simp only[bS,d8,or_false] at this;omega
def acL{p:cA}(h:Pv p):NY p:=by
 refine⟨⟨λs aA=>?_,?_⟩,λs aA=>?_⟩
 ·obtain⟨z,hz,rfl⟩:=ei.mp aA;exact vB (h.zs z hz).1
 ·have:=h.Fe;omega
 ·obtain⟨z,hz,rfl⟩:=ei.mp aA;have:=sQ (h.zs z hz).1;omega
def adX{R:Int}{os:List dO.Op}(h:dO.Drawn R os):zE R os:=by
 refine⟨⟨h.a',h.qL⟩,h.len,λo aQ=>?_⟩
 obtain⟨af,ao,bA,c9⟩:=h.ok o aQ;refine⟨af,ao,bA,λx hx=>tf (l:=dO.names5) (f:=λs=>eF (.str s)) (by decide +kernel) (c9 x hx)⟩
def Qy:tr.all (λs=>g0 (.str s))=true:=by decide +kernel
def ab9{p:cA}{e:nj}(h:tA p e):Be p e:=by
 cases e with
|line z w=>
  refine⟨h.1,?_⟩
  have:=h.2;simp only[bS,d8,or_false] at this;rcases this with rfl|rfl|rfl|rfl
  ·decide
  ·decide
  ·decide
  ·decide
|code f d z=>
  refine⟨tf Qy h.1,?_⟩
  rcases h.2 with ⟨af,ao⟩|⟨af,x,ao,bA⟩
  ·refine .inl ⟨ao,?_⟩
   rcases af with rfl|rfl
   ·decide
   ·decide
  ·refine .inr ⟨x,ao,bA,?_⟩
   rcases af with rfl|rfl
   ·decide
   ·decide
|kU n=>exact h.1
def tA.tick{p:cA}{e:nj}(h:tA p e):∀n,e=.kU n->n<=1000000000:=λn Bc=>by
 subst Bc;exact h.2
def _i(n:Int):dq.my [.int n]=dO.my [.int n]:=rfl
end dq
end
section
namespace dq
open D b1 PySem
def U8(q:Str):Prop:=32∉ls q/\10∉ls q
structure Cl(ps:List Str):Prop where
 ne:ps≠[]
 p:∀q∈ps,U8 q
def aa1{p:cA}(h:Pv p):hM (bM p)=true:=by
 have hz:jO (.tuple (p.fy.map e8))=true:=by
  simp only[jO,cJ,decide_eq_true_eq,ej,List.all_eq_true];refine⟨⟨⟨h.iF,h.Fe⟩,λt aM=>?_⟩,?_⟩
  ·obtain⟨z,hz,rfl⟩:=ei.mp aM;obtain⟨af,ao⟩:=h.zs z hz;simp only[iK,e8,af,dA,decide_eq_true ao,Bool.and_self]
  ·rw[iD];exact h.zr
 have au:jP (.tuple (p.codes.map gm))=true:=by
  simp only[jP,cJ,decide_eq_true_eq,ej,List.all_eq_true];refine⟨⟨⟨h.dc,h.mx⟩,λt aM=>?_⟩,?_⟩
  ·obtain⟨k,aV,rfl⟩:=ei.mp aM;obtain⟨af,ao,bA,c9,gI,rX,o2⟩:=h.cs k aV;have aw:pG (.tuple (k.pl.map .str))=true:=by
    simp only[pG,cJ,decide_eq_true_eq,ej,List.all_eq_true];refine⟨bA,λt aM=>?_,?_⟩
    ·obtain⟨r,aw,rfl⟩:=ei.mp aM;exact decide_eq_true (c9 r aw)
    ·rw[iD,show qR ∘ jf=id from rfl,List.map_id];exact gI
   simp only[codeB,gm,af,ao,aw,c',decide_eq_true rX,decide_eq_true o2,Bool.and_self]
  ·rw[iD];exact h.cr
 have t1:=h.t1;have eE:=h.eE;have t3:=h.t3;simp only[hM,bM,hz,au,oG,c',decide_eq_true t1.1,decide_eq_true t1.2,decide_eq_true eE.1,decide_eq_true eE.2,decide_eq_true t3.1,decide_eq_true t3.2,Bool.and_self]
def aai{R:Int}{os:List dO.Op}(h:zE R os):gC (dO.eI R os)=true:=by
 have aw:=h.r;simp only[gC,dO.eI,c',decide_eq_true aw.1,decide_eq_true aw.2,Bool.and_self,Bool.true_and,cJ,decide_eq_true_eq,ej,List.all_eq_true];refine⟨h.l,λt aM=>?_⟩;obtain⟨o,aQ,rfl⟩:=ei.mp aM;obtain⟨af,ao,bA,c9⟩:=h.o o aQ;have hz:(nc (dO.iM o.2.2) || eF (dO.iM o.2.2))=true:=by
  cases hz:o.2.2 with
  |none=>rfl
  |some x=>
   rw[Bool.or_eq_true];exact .inr (c9 x hz)
 simp only[ig,dO.kO,c',hz,Bool.and_true,cJ,decide_eq_true_eq];omega
def aam{p:cA}{e:nj}(h:Be p e):iJ p (eZ e)=true:=by
 unfold iJ;cases e with
|line z w=>
  rw[Bool.or_eq_true];left;simp only[jn,eZ,dA,decide_eq_true h.1,decide_eq_true h.2,Bool.and_self,Bool.and_true];decide +kernel
|code f d z=>
  rw[Bool.or_eq_true,Bool.or_eq_true];right;left;obtain⟨af,ao⟩:=h;simp only[ie,eZ,af,Bool.true_and];rw[show f_ "code" (.str "code")=true from ad1,Bool.true_and];rcases ao with ⟨rfl,ao⟩|⟨x,rfl,bA,ao⟩
  ·rw[if_pos (show dA ["set","unset"] (.str d)=true from decide_eq_true ao)];rfl
  ·have a_:¬(dA ["set","unset"] (.str d)=true):=by
    intro a0;have Ir:=of_decide_eq_true (show decide (d∈(["set","unset"]:List Str))=true from a0);simp only[bS,d8,or_false] at Ir ao;rcases Ir with rfl|rfl <;> rcases ao with ao|ao <;> revert ao <;> decide +kernel
   rw[if_neg a_,cJ];exact⟨decide_eq_true ao,decide_eq_true bA⟩
|kU n=>
  rw[Bool.or_eq_true,Bool.or_eq_true];right;right;simp only[jk,eZ,m8,posB,Bool.true_and,cJ];exact⟨ad0,decide_eq_true h⟩
end dq
end
section
namespace dq
open D b1 PySem
def ne_self{d:Nat}{f g:aY}{ε:Ev}{t:T}(hf:f ε=some t)(aU:g ε=some t)(h:cI d t)(hd:d<=60:=by decide):aP (ab eC f g) ε=some false:=by
 refine bH ?_
 rw[bC hf aU];exact b1.Tu h.okN hd
def U'{d7 gt:ek}{ε:Ev}(af:d7 ε=some false)(ao:gt ε=some false):cc d7 gt ε=some false:=c3 (a:=false) (b:=false) af λ_=>ao
def vC{d7:ek}{s1 s2:ba}{ε:Ev}(h:d7 ε=some false):seq (iff d7 s1 skip) s2 ε=s2 ε:=by rw[eM h,if_neg (by simp)]
def lS{d:List T->Option T}{f g h:aY}{ε:Ev}{t u v:T}(af:f ε=some t)(ao:g ε=some u)(bA:h ε=some v):aq d [f,g,h] ε=d [t,u,v]:=by simp[aq,args,af,ao,bA]
def pS{i:Nat}{f:aY}{ε:Ev}{t:T}(h:f ε=some t):asg i f ε=some (.nx (ε.set i (some (.aa t)))):=by simp[asg,h]
end dq
end
section
namespace dq
open D b1 PySem
def add_l{f g:aY}{ε:Ev}{a b:List T}(hf:f ε=some (.list a))(aU:g ε=some (.list b))(aF:a.length+b.length<=1000000):ab bb f g ε=some (.list (a++b)):=by
 rw[bC hf aU];simp only[bb];rw[if_pos (by unfold big;omega)]
end dq
end
section
namespace kq
open D b1 dq PySem
local instance:bX:=⟨[],λ_=>[],λ_=>none⟩
def oy{t:T}{lo hi:Int}(h:dt t=true):gB [t,.int lo,.int hi]=some (.bool (c' t lo hi)):=by
 refine hL ?_
 show dr _ _ [some (.aa t),some (.aa (.int lo)),some (.aa (.int hi))]=_
 have aC:=gR "int" h;have aR:=gR "bool" h;cases t with
|int i=>
  refine (cD (a:=true) (b:=true && (decide (lo<=i) && decide (i<=hi))) (by rw[dk (t:=.int i) rfl];exact aC) λ_=>cD (Gk (a:=false) (by rw[dk (t:=.int i) rfl];exact aR)) λ_=>sT rfl rfl rfl).trans ?_
  simp[c']
|bool b=>
  exact (cD (a:=true) (b:=false) (by rw[dk (t:=.bool b) rfl];exact aC) λ_=>cD (a:=false) (b:=true) (Gk (a:=true) (by rw[dk (t:=.bool b) rfl];exact aR)) λz=>by cases z).trans rfl
|dict d=>simp[dt] at h
|none=>exact (cD (a:=false) (b:=true) (by rw[dk (t:=.none) rfl];exact aC) λz=>by cases z).trans rfl
|str x=>exact (cD (a:=false) (b:=true) (by rw[dk (t:=.str x) rfl];exact aC) λz=>by cases z).trans rfl
|tuple x=>exact (cD (a:=false) (b:=true) (by rw[dk (t:=.tuple x) rfl];exact aC) λz=>by cases z).trans rfl
|list x=>exact (cD (a:=false) (b:=true) (by rw[dk (t:=.list x) rfl];exact aC) λz=>by cases z).trans rfl
def lY(t:T)(n:Nat):Bool:=match t with
|.tuple ts=>decide (ts.length=n)
|_=>false
def _A{t:T}{n:Nat}(h:dt t=true):jM [t,.int (n:Int)]=some (.bool (lY t n)):=by
 refine hL ?_
 show dr _ _ [some (.aa t),some (.aa (.int (n:Int)))]=_
 have aC:=gR "tuple" h;cases t with
|tuple x=>
  refine (cD (a:=true) (b:=decide (x.length=n)) (by rw[dk (t:=.tuple x) rfl];exact aC) λ_=>?_).trans rfl
  rw[bC (t:=.int x.length) (u:=.int n) (by rw[dm (t:=.tuple x) rfl];rfl) rfl,b1.lP];congr 2;exact decide_eq_decide.mpr (by omega)
|dict d=>simp[dt] at h
|none=>exact (cD (a:=false) (b:=true) (by rw[dk (t:=.none) rfl];exact aC) λz=>by cases z).trans rfl
|bool x=>exact (cD (a:=false) (b:=true) (by rw[dk (t:=.bool x) rfl];exact aC) λz=>by cases z).trans rfl
|int x=>exact (cD (a:=false) (b:=true) (by rw[dk (t:=.int x) rfl];exact aC) λz=>by cases z).trans rfl
|str x=>exact (cD (a:=false) (b:=true) (by rw[dk (t:=.str x) rfl];exact aC) λz=>by cases z).trans rfl
|list x=>exact (cD (a:=false) (b:=true) (by rw[dk (t:=.list x) rfl];exact aC) λz=>by cases z).trans rfl
def Fq{t s:T}{ss:List Str}{d:Nat}(h:cI d t)(hd:d<=60)(aA:s=.tuple (ss.map .str)\/s=.list (ss.map .str))(az:∀x∈ss,asc (ls x)):iE [t,s]=some (.bool (dA ss t)):=by
 refine hL ?_
 show dr _ _ [some (.aa t),some (.aa s)]=_
 have aC:=gR "str" h.g;cases t with
|str x=>
  refine (cD (a:=true) (b:=dA ss (.str x)) (by rw[dk (t:=.str x) rfl];exact aC) λ_=>?_).trans rfl
  rw[bC (t:=.str x) (u:=s) rfl rfl];rcases aA with rfl|rfl
  ·exact tb az h hd
  ·exact Ma az h hd
|dict x=>have:=h.g;simp[dt] at this
|none=>exact (cD (a:=false) (b:=true) (by rw[dk (t:=.none) rfl];exact aC) λz=>by cases z).trans rfl
|bool x=>exact (cD (a:=false) (b:=true) (by rw[dk (t:=.bool x) rfl];exact aC) λz=>by cases z).trans rfl
|int x=>exact (cD (a:=false) (b:=true) (by rw[dk (t:=.int x) rfl];exact aC) λz=>by cases z).trans rfl
|tuple x=>exact (cD (a:=false) (b:=true) (by rw[dk (t:=.tuple x) rfl];exact aC) λz=>by cases z).trans rfl
|list x=>exact (cD (a:=false) (b:=true) (by rw[dk (t:=.list x) rfl];exact aC) λz=>by cases z).trans rfl
def Lx{ε:Ev}{x:Str}{a b:Nat}{ca cb:aY}(h0:ar 0 ε=some (.str x))(hx:asc (ls x))(aF:x.length<=1000000)(az:∀ε,ca ε=some (dV a))(ae:∀ε,cb ε=some (dV b)):ab oEq (comp 1 [] (cz (ar 0)) (aX 0) (bD (aP (chain oLe oLe ca (nm 0) cb))) (ar 0)) (da []) ε=some (.bool ((ls x).all λc=>decide (a<=c) && decide (c<=b))):=by
 have aC:comp 1 [] (cz (ar 0)) (aX 0) (bD (aP (chain oLe oLe ca (nm 0) cb))) (ar 0) ε=some (.list ((((ls x).map dV).filter λt=>match t with|.str y=>!(decide (a<=y.cps.getD 0 0) && decide (y.cps.getD 0 0<=b))|_=>false).map id)):=by
  refine Md (ts:=(ls x).map dV) (by simp[cz,h0,(sI x).mpr hx,ls]) (by rw[ej,<- L9];unfold big;omega) (λt aM=>?_) λt aM _=>rfl
  obtain⟨c,au,rfl⟩:=ei.mp aM;exact cx (bH (Ln (az _) rfl (ae _)))
 have aU:∀l:List Nat,asc l->dI (.list (l.map dV))=true:=λl aF=>by
  have:cI 1 (.list (l.map dV)):=cI.xq λt aM=>by
   obtain⟨c,au,rfl⟩:=ei.mp aM;exact ze (x:=⟨#[c]⟩) (λa az=>by
    have:a=c:=by simpa [ls] using az
    rw[this];exact aF c au) (by show (1:Nat)<=_;omega)
  exact this.dI (by omega)
 have aR:(((ls x).map dV).filter λt=>match t with|.str y=>!(decide (a<=y.cps.getD 0 0) && decide (y.cps.getD 0 0<=b))|_=>false).map id=((ls x).filter λc=>!(decide (a<=c) && decide (c<=b))).map dV:=by
  rw[List.map_id,List.filter_map];rfl
 rw[aR] at aC;rw[bC aC (u:=.list []) rfl];simp only[oEq];rw[aU _ (aci hx λy bl=>(List.mem_filter.mp bl).1),show dI (.list [])=true from rfl,Bool.and_self,if_pos rfl];congr 2;cases a0:(ls x).all λc=>decide (a<=c) && decide (c<=b) with
|true=>
  have:(ls x).filter (λc=>!(decide (a<=c) && decide (c<=b)))=[]:=by
   rw[List.filter_eq_nil_iff];intro c au;rw[List.all_eq_true.mp a0 c au];simp
  rw[this];rfl
|false=>
  have:(ls x).filter (λc=>!(decide (a<=c) && decide (c<=b)))≠[]:=by
   intro e;rw[List.filter_eq_nil_iff] at e;have:(ls x).all (λc=>decide (a<=c) && decide (c<=b))=true:=List.all_eq_true.mpr λc au=>by
    have:=e c au;simpa using this
   rw[a0] at this;cases this
  cases hz:(ls x).filter (λc=>!(decide (a<=c) && decide (c<=b))) with
  |nil=>exact absurd hz this
  |cons c r=>rfl
def FU{t:T}(h:dt t=true):ke [t]=some (.bool (eF t)):=by
 unfold ke bE Lq;show (seq _ _ [some (.aa t)]).bind _=_;cases t with
|str x=>
  rw[dt,cJ] at h;have hx:=(sI x).mp h.1;have aF:=of_decide_eq_true h.2;have hle:chain oLe oLe (U (.int 1)) (aq de [(nm 0)]) (U (.int 4)) [some (.aa (.str x))]=some (.bool (decide ((1:Int)<=x.length) && decide ((x.length:Int)<=4))):=sT rfl (by rw[dm (t:=.str x) rfl];simp only[de];rw[if_pos (by unfold big;omega)]) rfl;rw[eM (c3 (a:=false) (cx (a:=true) (bH rfl)) λ_=>cx (bH hle))];have aA:=Lx (ε:=[some (.aa (.str x))]) (a:=97) (b:=122) (ca:=U (.str "a")) (cb:=U (.str "z")) rfl hx aF (λ_=>rfl) (λ_=>rfl);cases a0:(decide ((1:Int)<=x.length) && decide ((x.length:Int)<=4)) with
  |false=>
   rw[if_pos (by rfl),fE (t:=.bool false) rfl];simp only[br,eF,kg,a0,Bool.false_and]
  |true=>
   rw[if_neg (by simp)];simp only[aW];rw[aA];simp only[c2,br,eF,kg,a0,Bool.true_and]
|dict d=>simp[dt] at h
|_=>
  rw[eM (a:=true) (by
   refine c3 (a:=true) (b:=false) (cx (a:=false) (bH rfl)) λz=>by cases z)]
  rfl
def LM{t:T}(h:dt t=true):q8 [t]=some (.bool (g0 t)):=by
 refine hL ?_
 show dr _ _ [some (.aa t)]=_
 have aC:=gR "str" h;cases t with
|str x=>
  rw[dt,cJ] at h;have hx:=(sI x).mp h.1;have aF:=of_decide_eq_true h.2;have aA:=Lx (ε:=[some (.aa (.str x))]) (a:=48) (b:=57) (ca:=U (.str "0")) (cb:=U (.str "9")) rfl hx aF (λ_=>rfl) (λ_=>rfl);refine (cD (a:=true) (b:=decide ((x.length:Int)=4) && (ls x).all λc=>decide (48<=c) && decide (c<=57)) (by rw[dk (t:=.str x) rfl];exact aC) λ_=>cD ?_ λ_=>aA).trans ?_
  ·rw[bC (t:=.int x.length) (u:=.int 4) (by rw[dm (t:=.str x) rfl];simp only[de];rw[if_pos (by unfold big;omega)]) rfl];exact b1.lP _ _
  ·simp only[Bool.true_and,g0,kg];congr 2;congr 1;rw[<- Bool.decide_and];exact decide_eq_decide.mpr (by omega)
|dict d=>simp[dt] at h
|none=>exact (cD (a:=false) (b:=true) (by rw[dk (t:=.none) rfl];exact aC) λz=>by cases z).trans rfl
|bool x=>exact (cD (a:=false) (b:=true) (by rw[dk (t:=.bool x) rfl];exact aC) λz=>by cases z).trans rfl
|int x=>exact (cD (a:=false) (b:=true) (by rw[dk (t:=.int x) rfl];exact aC) λz=>by cases z).trans rfl
|tuple x=>exact (cD (a:=false) (b:=true) (by rw[dk (t:=.tuple x) rfl];exact aC) λz=>by cases z).trans rfl
|list x=>exact (cD (a:=false) (b:=true) (by rw[dk (t:=.list x) rfl];exact aC) λz=>by cases z).trans rfl
theorem vV{g:f7}{body:ba}{P:T->Bool}{E:Option bW->Ev}(aU:∀t s,g t (E s)=some (E (some (.aa t)))):∀(ts:List T) (s:Option bW),(∀t∈ts,body (E (some (.aa t)))=if P t=true then some (.nx (E (some (.aa t)))) else some (.dn (.bool false))) ->
  (ts.all P=true/\∃aZ,forL g body ts (E s)=some (.nx (E aZ)))\/(ts.all P=false/\forL g body ts (E s)=some (.dn (.bool false)))
| [],s,_=>.inl ⟨rfl,s,rfl⟩
|t::ts,s,h=>by
  have af:=h t (by simp);cases aE:P t with
  |true=>
   rw[aE,if_pos rfl] at af;rcases vV aU ts (some (.aa t)) λu bw=>h u (gz _ bw) with ⟨a,aZ,e⟩|⟨a,e⟩
   ·refine .inl ⟨by rw[List.all_cons,aE,a];rfl,aZ,?_⟩
    rw[forL,aU,br,af,br];exact e
   ·refine .inr ⟨by rw[List.all_cons,aE,a];rfl,?_⟩
    rw[forL,aU,br,af,br];exact e
  |false=>
   rw[aE,if_neg (by simp)] at af;refine .inr ⟨by rw[List.all_cons,aE];rfl,?_⟩;rw[forL,aU,br,af,br]
def lt_trans{x y z:Str}(af:strLt x y=true)(ao:strLt y z=true):strLt x z=true:=by
 simp only[strLt,decide_eq_true_eq] at *;exact List.lt_trans af ao
def ac9(x:Str):strLt x x=false:=by
 simp only[strLt,decide_eq_false_iff_not];exact List.lt_irrefl _
theorem K':∀{ss:List Str},ff ss=true->ss.Pairwise (λa b=>strLt a b=true)
| [],_=>.nil
| [x],_=>by simp
|x::y::r,h=>by
  rw[ff,cJ] at h;have cK:=K' h.2;refine iz.mpr ⟨λz hz=>?_,cK⟩;rcases bS.mp hz with rfl|hz
  ·exact h.1
  ·exact lt_trans h.1 ((iz.mp cK).1 z hz)
def Kz(ss:List Str):hK (dedup ss)=ss <-> ff ss=true:=by
 constructor
 ·intro e;refine vy ?_;have af:ss.Pairwise fX:=e▸yZ (dedup ss);have ao:ss.Nodup:=by
   have:=(sD (dedup ss)).nodup_iff.mpr (yu ss);rw[e] at this;exact this
  refine (af.and ao).imp λ{a b} ⟨az,ae⟩=>?_
  cases a0:strLt a b with
  |true=>rfl
  |false=>
   exfalso
   apply ae;by_cases hz:fX b a
   ·exact K9 az hz
   ·have:=_I hz;rw[a0] at this;cases this
 ·intro h;have Ja:=K' h;have bF:ss.Nodup:=Ja.imp λ{a b} lF e=>by
   rw[e,ac9] at lF;cases lF
  have pm:ss.Perm (dedup ss):=by
   refine (List.perm_ext_iff_of_nodup bF (yu ss)).mpr λa=>?_
   exact yW.symm
  exact (FI pm (Ja.imp λ{a b} lF=>Ky lF)).symm
def K7{ts:List T}{ss:List Str}(h:ts=ss.map .str)(aF:ss.length<60){t:T}(aM:t=.list ts\/t=.tuple ts):m6 [t]=some (.list ((hK (dedup ss)).map .str)):=by
 have e:m6 [t]=m5 [.list ts]:=by rcases aM with rfl|rfl <;> rfl
 rw[e,h];simp only[m5];rw[if_pos (by rw[ej];omega)];cases ss with
|nil=>rfl
|cons x r=>
  rw[show intsOf ((x::r).map jf)=none from rfl];simp only[K5];rfl
def Li(a b:List Str):fu (.list (a.map .str)) (.list (b.map .str))=decide (a=b):=by
 rw[fu]
 induction a generalizing b with
|nil=>cases b <;> simp[PyData.eqvAll]
|cons x a cK=>
  cases b with
  |nil=>simp[PyData.eqvAll]
  |cons y b=>
   rw[eK,eK,PyData.eqvAll,cK,fu];simp only[List.cons.injEq,Bool.decide_and];rfl
def LJ{ss:List Str}(h:∀x∈ss,asc (ls x)/\x.length<=1000000):cI 1 (.list (ss.map .str)):=cI.xq λt aM=>by
 obtain⟨x,hx,rfl⟩:=ei.mp aM;exact ze (h x hx).1 (h x hx).2
def Lw{f g:aY}{ε:Ev}{ss:List Str}(h:∀x∈ss,asc (ls x)/\x.length<=1000000)(hf:f ε=some (.list (ss.map .str)))(aU:g ε=some (.list ((hK (dedup ss)).map .str))):aP (ab eC f g) ε=some !(ff ss):=by
 refine bH ?_
 have ao:∀x∈hK (dedup ss),asc (ls x)/\x.length<=1000000:=λx hx=>h x (yW.mp ((sD _).mem_iff.mp hx));rw[bC hf aU];simp only[eC,(LJ h).dI (by omega),(LJ ao).dI (by omega),Bool.and_self,if_true,Li];congr 3;cases aw:ff ss with
|true=>exact decide_eq_true ((Kz ss).mpr aw).symm
|false=>
  refine decide_eq_false λe=>?_
  have:=(Kz ss).mp e.symm;rw[aw] at this;cases this
def vU{c:ek}{ε:Ev}{b:Bool}(h:c ε=some b):iff c (aW (U (.bool false))) skip ε=if b=true then some (.dn (.bool false)) else some (.nx ε):=by
 simp only[iff,h,br];cases b <;> rfl
def fL{c:ek}{g:ba}{ε:Ev}{b:Bool}(h:c ε=some b):seq (iff c (aW (U (.bool false))) skip) g ε=if b=true then some (.dn (.bool false)) else g ε:=by
 rw[eM h];cases b with
|true=>rw[if_pos rfl,if_pos rfl,fE (t:=.bool false) rfl]
|false=>rfl
def pw{t:T}{n:Nat}(h:lY t n=true):cj t n n=true:=by
 cases t with
|tuple ts=>
  have:=of_decide_eq_true h;simp only[cj,cJ,decide_eq_true_eq];omega
|_=>cases h
def sh{t:T}{n:Nat}(h:lY t n=false):cj t n n=false:=by
 cases ae:cj t n n with
|false=>rfl
|true=>
  obtain⟨ts,rfl,aF⟩:=zh ae;rw[lY,decide_eq_false_iff_not] at h;exact absurd aF h
def sV{f:aY}{ε:Ev}{t:T}{i:Int}(n:Nat)(hi:i=(n:Int))(hf:f ε=some t)(h:dt t=true):aq jM [f,U (.int i)] ε=some (.bool (lY t n)):=by
 rw[hi,h7 hf (u:=.int (n:Int)) rfl];exact _A h
noncomputable def ky:ba:=(seq (iff (cc (bD (aP (aq jM [(ar 1),(U (.int 2))]))) (bD (aP (aq ke [(ab ax (nm 1) (U (.int 0)))])))) (aW (U (.bool false))) skip) (iff (bD (aP (aq iE [(ab ax (nm 1) (U (.int 1))),(aJ [(U (.str "day")),(U (.str "inner")),(U (.str "once")),(U (.str "way"))])]))) (aW (U (.bool false))) skip))
def ad4{s0:Option bW}{r:Ev}{t:T}{d:Nat}(h:cI (d+1) t)(hd:d<=50):ky (s0::some (.aa t)::r)=if iK t=true then some (.nx (s0::some (.aa t)::r)) else some (.dn (.bool false)):=by
 unfold ky;have af:=sV (f:=ar 1) (ε:=s0::some (.aa t)::r) (i:=2) 2 rfl rfl h.g;cases ae:lY t 2 with
|false=>
  rw[ae] at af;rw[fL (c3 (a:=true) (b:=false) (cx (bH af)) λz=>by cases z),if_pos (by rfl)];have:iK t=false:=by
   have ae:=sh ae;unfold iK;split
   ·simp[cj] at ae
   ·rfl
  rw[this,if_neg (by simp)]
|true=>
  rw[ae] at af;obtain⟨a,b,rfl⟩:=ti (pw ae);have az:=h.tup a (by simp);have eS:=h.tup b (by simp);have og:aq ke [(ab ax (nm 1) (U (.int 0)))] (s0::some (.aa (.tuple [a,b]))::r)=some (.bool (eF a)):=by rw[dm (t:=a) (by rw[bC (t:=.tuple [a,b]) (u:=.int 0) rfl rfl];exact fJ)];exact FU az.g
  have oh:aq iE [(ab ax (nm 1) (U (.int 1))),(aJ [(U (.str "day")),(U (.str "inner")),(U (.str "once")),(U (.str "way"))])] (s0::some (.aa (.tuple [a,b]))::r)=some (.bool (dA l' b)):=by
   rw[h7 (t:=b) (u:=.tuple (l'.map .str)) (by rw[bC (t:=.tuple [a,b]) (u:=.int 1) rfl rfl];exact gK) rfl];exact Fq eS (by omega) (.inl rfl) LR
  rw[fL (c3 (a:=false) (cx (bH af)) λ_=>cx (bH og)),vU (cx (bH oh))];simp only[iK,Bool.false_or];by_cases aT:eF a=true <;> by_cases bg:dA l' b=true <;> simp[aT,bg]
theorem Mh{ss:List Str}:∀{ts:List T},ts.all (dA ss)=true->∃xs:List Str,ts=xs.map .str/\∀x∈xs,x∈ss
| [],_=>⟨[],rfl,by simp⟩
|t::ts,h=>by
  rw[List.all_cons,cJ] at h;obtain⟨xs,rfl,hx⟩:=Mh h.2;cases t with
  |str x=>exact⟨x::xs,rfl,λy bl=>by
    rcases bS.mp bl with rfl|bl
    ·exact of_decide_eq_true h.1
    ·exact hx y bl⟩
  |_=>exact absurd h.1 (by simp[dA])
def Tj:(f5.all λa=>f5.all λb=>f5.all λc=>f5.all λd=>!(strLt a b && (strLt b c && strLt c d)))=true:=by decide +kernel
def _j{xs:List Str}(h:∀x∈xs,x∈f5)(aw:ff xs=true):xs.length<=3:=by
 match xs,h,aw with
| [],_,_=>simp
| [_],_,_=>simp
| [_,_],_,_=>simp
| [_,_,_],_,_=>simp
|a::b::c::d::r,h,aw=>
  exfalso
  simp only[ff,cJ] at aw;have af:=List.all_eq_true.mp (List.all_eq_true.mp (List.all_eq_true.mp (List.all_eq_true.mp Tj a (h a (by simp))) b (h b (by simp))) c (h c (by simp))) d (h d (by simp));rw[aw.1,aw.2.1,aw.2.2.1] at af;cases af
noncomputable def lj:ba:=(seq (iff (cc (bD (aP (aq jM [(ar 2),(U (.int 4))]))) (cc (bD (aP (aq q8 [(ab ax (nm 2) (U (.int 0)))]))) (bD (aP (aq ke [(ab ax (nm 2) (U (.int 1)))]))))) (aW (U (.bool false))) skip) (seq (iff (cc (bD (aP (bN (dH "tuple") (ab ax (nm 2) (U (.int 2)))))) (bD (aP (aq gB [(ab ax (nm 2) (U (.int 3))),(U (.int 0)),(U (.int 9))])))) (aW (U (.bool false))) skip) (seq (iff (aP (ab eC (comp 1 [] (cz (ab ax (nm 2) (U (.int 2)))) (aX 0) (bD (aP (aq iE [(ar 0),(aJ [(U (.str "set")),(U (.str "shunt")),(U (.str "unset"))])]))) (ar 0)) (da []))) (aW (U (.bool false))) skip) (iff (aP (ab eC (aq iL [(ab ax (nm 2) (U (.int 2)))]) (aq m6 [(ab ax (nm 2) (U (.int 2)))]))) (aW (U (.bool false))) skip))))
mutual
noncomputable def j8:T->Bool
|.tuple ts=>decide (ts.length<60) && so ts
|.list ts=>decide (ts.length<60) && so ts
|_=>true
noncomputable def so:List T->Bool
| []=>true
|t::ts=>j8 t && so ts
end
theorem y2:∀{ts:List T},so ts=true <-> ∀t∈ts,j8 t=true
| []=>by simp[so]
|t::ts=>by rw[so,cJ,y2];simp
def s7{ts:List T}(h:j8 (.tuple ts)=true):ts.length<60/\∀t∈ts,j8 t=true:=by
 rw[j8,cJ] at h;exact⟨of_decide_eq_true h.1,y2.mp h.2⟩
def ne_nil{d:Nat}{f:aY}{ε:Ev}{us:List T}(hf:f ε=some (.list us))(h:cI d (.list us))(hd:d<=60):aP (ab eC f (da [])) ε=some !us.isEmpty:=by
 refine bH ?_
 rw[bC hf (u:=.list []) rfl];simp only[eC,h.dI hd,show dI (.list [])=true from rfl,Bool.and_self,if_true];congr 2;cases us <;> rfl
def ad6{s0 s1:Option bW}{r:Ev}{t:T}{d:Nat}(h:cI (d+2) t)(hd:d<=50)(hw:j8 t=true):lj (s0::s1::some (.aa t)::r)=if codeB t=true then some (.nx (s0::s1::some (.aa t)::r)) else some (.dn (.bool false)):=by
 unfold lj;have af:=sV (f:=ar 2) (ε:=s0::s1::some (.aa t)::r) (i:=4) 4 rfl rfl h.g;cases ae:lY t 4 with
|false=>
  rw[ae] at af;rw[fL (c3 (a:=true) (b:=false) (cx (bH af)) λz=>by cases z),if_pos (by rfl)];have:codeB t=false:=by
   have ae:=sh ae;unfold codeB;split
   ·simp[cj] at ae
   ·rfl
  rw[this,if_neg (by simp)]
|true=>
  rw[ae] at af;obtain⟨f,w,q,u,rfl⟩:=zi (pw ae);have hf:=h.tup f (by simp);have RO:=h.tup w (by simp);have a0:=h.tup q (by simp);have bw:=h.tup u (by simp);have Iz:=(s7 hw).2 q (by simp);generalize fH:s0::s1::some (bW.aa (.tuple [f,w,q,u]))::r=E at *;have fp:nm 2 E=some (.tuple [f,w,q,u]):=by subst fH;rfl
  have gL:ab ax (nm 2) (U (.int 0)) E=some f:=by rw[bC fp (u:=.int 0) rfl];exact fJ
  have hA:ab ax (nm 2) (U (.int 1)) E=some w:=by rw[bC fp (u:=.int 1) rfl];exact gK
  have ir:ab ax (nm 2) (U (.int 2)) E=some q:=by rw[bC fp (u:=.int 2) rfl];exact kG
  have jy:ab ax (nm 2) (U (.int 3)) E=some u:=by rw[bC fp (u:=.int 3) rfl];exact xk
  rw[fL (c3 (a:=false) (cx (bH af)) λ_=>c3 (cx (bH (by rw[dm gL];exact LM hf.g))) λ_=>cx (bH (by rw[dm hA];exact FU RO.g)))];have EI:aq gB [(ab ax (nm 2) (U (.int 3))),(U (.int 0)),(U (.int 9))] E=some (.bool (c' u 0 9)):=by rw[lS jy (u:=.int 0) (v:=.int 9) rfl rfl];exact oy bw.g
  have Qo:=gR "tuple" a0.g;have eh:cc (bD (aP (bN (dH "tuple") (ab ax (nm 2) (U (.int 2)))))) (bD (aP (aq gB [(ab ax (nm 2) (U (.int 3))),(U (.int 0)),(U (.int 9))]))) E=some (!(fm "tuple" q) || !(c' u 0 9)):=c3 (cx (bH (by rw[dk ir];exact Qo))) λ_=>cx (bH EI);rw[fL eh];simp only[codeB];by_cases aT:g0 f=false
  ·simp[aT]
  rw[Bool.not_eq_false] at aT;by_cases bg:eF w=false
  ·simp[bg]
  rw[Bool.not_eq_false] at bg;by_cases c6:c' u 0 9=false
  ·simp[c6]
  rw[Bool.not_eq_false] at c6;simp only[aT,bg,c6,Bool.not_true,Bool.false_or,Bool.or_false,Bool.true_and,Bool.and_true,je,if_false];cases q with
  |tuple rs=>
   simp only[show fm "tuple" (.tuple rs)=true from rfl,Bool.not_true,je,if_false];have o9:=a0.tup;have dc:comp 1 [] (cz (ab ax (nm 2) (U (.int 2)))) (aX 0) (bD (aP (aq iE [(ar 0),(aJ [(U (.str "set")),(U (.str "shunt")),(U (.str "unset"))])]))) (ar 0) E=some (.list ((rs.filter λt=>!dA f5 t).map id)):=by
    refine Md (ts:=rs) (by simp only[cz,ir,br]) (by have:=(s7 Iz).1;unfold big;omega) (λt aM=>?_) λt _ _=>rfl
    refine cx (bH ?_)
    rw[h7 (t:=t) (u:=.tuple (f5.map .str)) rfl rfl];exact Fq (o9 t aM) (by omega) (.inl rfl) FR
   rw[List.map_id] at dc;rw[fL (ne_nil (d:=d+1) dc (cI.xq λt aM=>o9 t (List.mem_filter.mp aM).1) (by omega))];cases az:rs.all (dA f5) with
   |false=>
    have:(rs.filter λt=>!dA f5 t).isEmpty=false:=by
     cases he:(rs.filter λt=>!dA f5 t).isEmpty with
     |false=>rfl
     |true=>
      rw[List.isEmpty_iff,List.filter_eq_nil_iff] at he;have:rs.all (dA f5)=true:=List.all_eq_true.mpr λt aM=>by simpa using he t aM
      rw[az] at this;cases this
    rw[this];simp[pG,az]
   |true=>
    have:(rs.filter λt=>!dA f5 t).isEmpty=true:=by
     rw[List.isEmpty_iff,List.filter_eq_nil_iff];intro t aM;simp[List.all_eq_true.mp az t aM]
    rw[this];simp only[Bool.not_true,je,if_false];obtain⟨xs,rfl,hx⟩:=Mh az;have RQ:xs.length<60:=by have:=(s7 Iz).1;simpa using this
    rw[vU (Lw (ss:=xs) (λx kF=>⟨FR x (hx x kF),by have:=ac_ (l:=f5) 100 (by decide +kernel) (hx x kF);omega⟩) (by rw[dm ir];rfl) (by rw[dm ir];exact K7 rfl RQ (.inr rfl)))];have aR:(xs.map jf).map qR=xs:=by rw[iD];exact (List.map_congr_left λx _=>rfl).trans (List.map_id _)
    simp only[pG,az,aR,ej,Bool.true_and];cases aw:ff xs with
    |false=>simp
    |true=>
     have:=_j hx aw;simp[this]
  |dict x=>have:=a0.g;simp[dt] at this
  |_=>rfl
def y_{f g:ba}{ε:Ev}{t:T}(h:f ε=some (.dn t)):seq f g ε=some (.dn t):=by simp[seq,h]
def Mz{f:aY}{ε:Ev}{ts:List T}{lo hi:Int}(hf:f ε=some (.tuple ts)):chain oLe oLe (U (.int lo)) (aq de [f]) (U (.int hi)) ε=some (.bool (decide (lo<=ts.length) && decide ((ts.length:Int)<=hi))):=sT rfl (by rw[dm hf];rfl) rfl
def uP(t:T):Bool:=match t with
|.list ts=>ff (ts.map qR)
|_=>false
def Ap:ba:=iff (aP (ab eC (nm 3) (aq m6 [(nm 3)]))) (aW (U (.bool false))) skip
def MG{s0 s1 s2:Option bW}{r:Ev}{xs:List Str}(h:∀x∈xs,asc (ls x)/\x.length<=1000000)(aF:xs.length<60):Ap (s0::s1::s2::some (.aa (.list (xs.map .str)))::r)=if uP (.list (xs.map .str))=true then some (.nx (s0::s1::s2::some (.aa (.list (xs.map .str)))::r)) else some (.dn (.bool false)):=by
 unfold Ap;rw[vU (Lw (ss:=xs) h rfl (by rw[dm (t:=.list (xs.map .str)) rfl];exact K7 rfl aF (.inl rfl)))];have aR:(xs.map jf).map qR=xs:=by rw[iD];exact (List.map_congr_left λx _=>rfl).trans (List.map_id _)
 simp only[uP,aR];by_cases q:ff xs=true <;> simp[q]
def vE(t:T)(h:fm "tuple" t=true)(aU:dt t=true):∃ts,t=.tuple ts:=by
 cases t with
|tuple ts=>exact⟨ts,rfl⟩
|dict d=>simp[dt] at aU
|_=>cases h
def HS{f:aY}{ε:Ev}{zs:List T}{P:T->Bool}(hf:f ε=some (.tuple zs))(aF:zs.length<=100)(az:zs.all P=true)(d2:∀t,P t=true->∃x r,t=.tuple (.str x::r)):comp 1 [] (cz f) (aX 0) (dd true) (ab ax (nm 0) (U (.int 0))) ε=some (.list ((zs.map hZ).map .str)):=by
 rw[vX (ts:=zs) (f:=λt=>.str (hZ t)) (by simp only[cz,hf,br]) (by unfold big;omega) λt aM=>?_,iD]
 ·rfl
 ·obtain⟨x,r,rfl⟩:=d2 t (List.all_eq_true.mp az t aM);rw[bC (t:=.tuple (.str x::r)) (u:=.int 0) rfl rfl,fJ];rfl
def _e{d:Nat}{t:T}(h:cI (d+4) t)(hd:d<=40)(hw:j8 t=true):ov [t]=some (.bool (hM t)):=by
 unfold ov bE J_;show (seq _ _ [some (.aa t),none,none,none,none,none,none]).bind _=_;have af:=sV (f:=ar 0) (ε:=[some (.aa t),none,none,none,none,none,none]) (i:=3) 3 rfl rfl h.g;by_cases ae:lY t 3=false
 ·rw[ae] at af;rw[fL (c3 (a:=true) (b:=false) (cx (bH af)) λz=>by cases z),if_pos (by rfl)];have:hM t=false:=by
   have ae:=sh ae;unfold hM;split
   ·simp[cj] at ae
   ·rfl
  rw[this];rfl
 rw[Bool.not_eq_false] at ae;rw[ae] at af;obtain⟨z,c,m,rfl⟩:=pO (pw ae);have hz:=h.tup z (by simp);have au:=h.tup c (by simp);have hm:=h.tup m (by simp);have wz:=(s7 hw).2 z (by simp);have X6:=(s7 hw).2 c (by simp);have gL:∀r:Ev,ab ax (nm 0) (U (.int 0)) (some (.aa (.tuple [z,c,m]))::r)=some z:=λr=>by rw[bC (t:=.tuple [z,c,m]) (u:=.int 0) rfl rfl];exact fJ
 have hA:∀r:Ev,ab ax (nm 0) (U (.int 1)) (some (.aa (.tuple [z,c,m]))::r)=some c:=λr=>by rw[bC (t:=.tuple [z,c,m]) (u:=.int 1) rfl rfl];exact gK
 have ir:∀r:Ev,ab ax (nm 0) (U (.int 2)) (some (.aa (.tuple [z,c,m]))::r)=some m:=λr=>by rw[bC (t:=.tuple [z,c,m]) (u:=.int 2) rfl rfl];exact kG
 by_cases j1:fm "tuple" z=false
 ·rw[fL (c3 (a:=false) (cx (bH af)) λ_=>c3 (a:=true) (b:=false) (cx (a:=false) (bH (by rw[dk (gL _),gR "tuple" hz.g,j1]))) λz=>by cases z),if_pos (by rfl)];have:jO z=false:=by cases z <;> first|rfl|cases j1
  simp[hM,this]
 rw[Bool.not_eq_false] at j1;obtain⟨zs,rfl⟩:=vE z j1 hz.g;rw[fL (c3 (a:=false) (cx (bH af)) λ_=>c3 (a:=false) (cx (a:=true) (bH (by rw[dk (gL _),gR "tuple" hz.g,j1]))) λ_=>cx (bH (Mz (gL _))))];by_cases aT:(decide ((1:Int)<=zs.length) && decide ((zs.length:Int)<=8))=false
 ·rw[aT,if_pos (by rfl)];have:(decide (1<=zs.length) && decide (zs.length<=8))=false:=by
   rw[Bool.and_eq_false_iff,decide_eq_false_iff_not,decide_eq_false_iff_not] at aT ⊢;omega
  simp[hM,jO,this]
 rw[Bool.not_eq_false] at aT;rw[aT,if_neg (by simp)];have IA:1<=zs.length/\zs.length<=8:=by
  rw[cJ,decide_eq_true_eq,decide_eq_true_eq] at aT;omega
 by_cases bg:fm "tuple" c=false
 ·rw[fL (c3 (a:=true) (b:=false) (cx (a:=false) (bH (by rw[dk (hA _),gR "tuple" au.g,bg]))) λz=>by cases z),if_pos (by rfl)];have:jP c=false:=by cases c <;> first|rfl|cases bg
  simp[hM,this]
 rw[Bool.not_eq_false] at bg;obtain⟨cs,rfl⟩:=vE c bg au.g;rw[fL (c3 (a:=false) (cx (a:=true) (bH (by rw[dk (hA _),gR "tuple" au.g,bg]))) λ_=>c3 (cx (bH (Mz (hA _)))) λ_=>cx (bH (sV (i:=3) 3 rfl (ir _) hm.g)))];by_cases c6:(decide ((1:Int)<=cs.length) && decide ((cs.length:Int)<=6))=false
 ·rw[c6,if_pos (by rfl)];have:(decide (1<=cs.length) && decide (cs.length<=6))=false:=by
   rw[Bool.and_eq_false_iff,decide_eq_false_iff_not,decide_eq_false_iff_not] at c6 ⊢;omega
  simp[hM,jP,this]
 rw[Bool.not_eq_false] at c6;rw[c6];have il:1<=cs.length/\cs.length<=6:=by
  rw[cJ,decide_eq_true_eq,decide_eq_true_eq] at c6;omega
 by_cases kQ:lY m 3=false
 ·rw[kQ,if_pos (by rfl)];have:oG m=false:=by
   have ae:=sh kQ;unfold oG;split
   ·simp[cj] at ae
   ·rfl
  simp[hM,this]
 rw[Bool.not_eq_false] at kQ;rw[kQ,if_neg (by simp)];obtain⟨a,b,e,rfl⟩:=pO (pw kQ);have nN:jO (.tuple zs)=(zs.all iK && ff (zs.map hZ)):=by simp[jO,IA]
 have ly:jP (.tuple cs)=(cs.all codeB && ff (cs.map hZ)):=by simp[jP,il]
 have w0:hM (.tuple [.tuple zs,.tuple cs,.tuple [a,b,e]])=(jO (.tuple zs) && (jP (.tuple cs) && oG (.tuple [a,b,e]))):=rfl;rcases (vV (g:=aX 1) (body:=ky) (P:=iK) (E:=λs=>[some (.aa (.tuple [.tuple zs,.tuple cs,.tuple [a,b,e]])),s,none,none,none,none,none]) (λ_ _=>rfl) zs none λt aM=>ad4 (d:=d+1) (hz.tup t aM |>.le (by omega)) (by omega)).symm with ⟨rF,w9⟩|⟨rF,s1,w9⟩
 ·rw[y_ (t:=.bool false) (by unfold c1;simp only[cz];rw[gL];exact w9),w0,nN,rF];rfl
 rw[b1.dD (ε':=[some (.aa (.tuple [.tuple zs,.tuple cs,.tuple [a,b,e]])),s1,none,none,none,none,none]) (by unfold c1;simp only[cz];rw[gL];exact w9)];rcases (vV (g:=aX 2) (body:=lj) (P:=codeB) (E:=λs=>[some (.aa (.tuple [.tuple zs,.tuple cs,.tuple [a,b,e]])),s1,s,none,none,none,none]) (λ_ _=>rfl) cs none λt aM=>ad6 (d:=d) (au.tup t aM |>.le (by omega)) (by omega) ((s7 X6).2 t aM)).symm with ⟨ac,BR⟩|⟨ac,s2,BR⟩
 ·rw[y_ (t:=.bool false) (by unfold c1;simp only[cz];rw[hA];exact BR),w0,ly,ac];simp
 rw[b1.dD (ε':=[some (.aa (.tuple [.tuple zs,.tuple cs,.tuple [a,b,e]])),s1,s2,none,none,none,none]) (by unfold c1;simp only[cz];rw[hA];exact BR)];have QU:∀x∈zs.map hZ,asc (ls x)/\x.length<=1000000:=λx hx=>by
  obtain⟨t,aM,rfl⟩:=ei.mp hx;obtain⟨y,k,rfl,aV,bl⟩:=Fj (List.all_eq_true.mp rF t aM);have:=(sQ bl).2.1;exact⟨vB bl,by show y.length<=_;omega⟩
 have t8:∀x∈cs.map hZ,asc (ls x)/\x.length<=1000000:=λx hx=>by
  obtain⟨t,aM,rfl⟩:=ei.mp hx;obtain⟨f,w,r,u,rfl,hf,_⟩:=Fy (List.all_eq_true.mp ac t aM);have:=(sZ hf).1;exact⟨λc au=>by have:=(sZ hf).2 c au;omega,by show f.length<=_;omega⟩
 have f1:=HS (ε:=[some (.aa (.tuple [.tuple zs,.tuple cs,.tuple [a,b,e]])),s1,s2,none,none,none,none]) (gL _) (by omega) rF λt aM=>by
  obtain⟨y,k,rfl,_⟩:=Fj aM;exact⟨y,_,rfl⟩
 have f2:=HS (ε:=[some (.aa (.tuple [.tuple zs,.tuple cs,.tuple [a,b,e]])),s1,s2,none,none,none,none]) (hA _) (by omega) ac λt aM=>by
  obtain⟨f,w,r,u,rfl,_⟩:=Fy aM;exact⟨f,_,rfl⟩
 have Ib:cz (aJ [(comp 1 [] (cz (ab ax (nm 0) (U (.int 0)))) (aX 0) (dd true) (ab ax (nm 0) (U (.int 0)))),(comp 1 [] (cz (ab ax (nm 0) (U (.int 1)))) (aX 0) (dd true) (ab ax (nm 0) (U (.int 0))))]) [some (.aa (.tuple [.tuple zs,.tuple cs,.tuple [a,b,e]])),s1,s2,none,none,none,none]=some [.list ((zs.map hZ).map .str),.list ((cs.map hZ).map .str)]:=by
  rw[cz,aJ];simp only[args];rw[f1,f2];rfl
 have aR:∀l:List Str,(l.map jf).map qR=l:=λl=>by rw[iD];exact (List.map_congr_left λx _=>rfl).trans (List.map_id _)
 rcases (vV (g:=aX 3) (body:=Ap) (P:=uP) (E:=λs=>[some (.aa (.tuple [.tuple zs,.tuple cs,.tuple [a,b,e]])),s1,s2,s,none,none,none]) (λ_ _=>rfl) [.list ((zs.map hZ).map .str),.list ((cs.map hZ).map .str)] none λt aM=>by
  simp only[bS,d8,or_false] at aM;rcases aM with rfl|rfl
  ·exact MG QU (by simp;omega)
  ·exact MG t8 (by simp;omega)).symm with ⟨nF,fr⟩|⟨nF,s3,fr⟩
 ·rw[y_ (t:=.bool false) (by unfold c1;rw[Ib];exact fr),w0,nN,ly,rF,ac];simp only[List.all_cons,List.all_nil,uP,aR,Bool.and_true] at nF;simp only[Bool.true_and];rw[<- Bool.and_assoc,nF];rfl
 rw[b1.dD (ε':=[some (.aa (.tuple [.tuple zs,.tuple cs,.tuple [a,b,e]])),s1,s2,s3,none,none,none]) (by unfold c1;rw[Ib];exact fr)];rw[b1.dD (ε':=[some (.aa (.tuple [.tuple zs,.tuple cs,.tuple [a,b,e]])),s1,s2,s3,some (.aa a),some (.aa b),some (.aa e)]) (by unfold hV;rw[ir];rfl)];simp only[List.all_cons,List.all_nil,uP,aR,Bool.and_true,cJ] at nF;have az:=hm.tup a (by simp);have QZ:=hm.tup b (by simp);have he:=hm.tup e (by simp);simp only[aW];rw[cD (a:=c' a 0 60) (b:=c' b 0 60 && c' e 1 300) (by rw[lS (t:=a) (u:=.int 0) (v:=.int 60) rfl rfl rfl];exact oy az.g) λ_=>cD (by rw[lS (t:=b) (u:=.int 0) (v:=.int 60) rfl rfl rfl];exact oy QZ.g) λ_=>by rw[lS (t:=e) (u:=.int 1) (v:=.int 300) rfl rfl rfl];exact oy he.g];rw[w0,nN,ly,rF,ac,nF.1,nF.2];rfl
def IG{a:T}{r:List T}{f:aY}{ε:Ev}(h:f ε=some (.tuple (a::r))):ab ax f (U (.int 0)) ε=some a:=by rw[bC h (u:=.int 0) rfl];exact fJ
def L_{f:aY}{ε:Ev}{ts:List T}{i:Int}(n:Nat)(hi:i=(n:Int))(hf:f ε=some (.tuple ts)):ab oEq (aq de [f]) (U (.int i)) ε=some (.bool (decide (ts.length=n))):=by
 rw[bC (t:=.int ts.length) (u:=.int i) (by rw[dm hf];rfl) rfl,b1.lP];congr 2;exact decide_eq_decide.mpr (by omega)
def ac'{f:aY}{ε:Ev}{ts:List T}{i:Int}(n:Nat)(hi:i=(n:Int))(hf:f ε=some (.tuple ts)):ab eC (aq de [f]) (U (.int i)) ε=some (.bool !(decide (ts.length=n))):=by
 rw[bC (t:=.int ts.length) (u:=.int i) (by rw[dm hf];rfl) rfl];show some (PyData.bool !(((ts.length:Int)==i)))=_;congr 3;rw[Bool.eq_iff_iff];simp;omega
def wb{f g:aY}{ε:Ev}{t s:T}{ss:List Str}{d:Nat}(hf:f ε=some t)(aU:g ε=some s)(h:cI d t)(hd:d<=60)(aA:s=.tuple (ss.map .str)\/s=.list (ss.map .str))(az:∀x∈ss,asc (ls x)):aq iE [f,g] ε=some (.bool (dA ss t)):=by
 rw[h7 hf aU];exact Fq h hd aA az
def MC{p:cA}{a:T}{r:List T}(af:f_ "line" a=false)(ao:f_ "code" a=false)(bA:f_ "ticks" a=false):iJ p (.tuple (a::r))=false:=by
 have cE:jn p (.tuple (a::r))=false:=by
  unfold jn;split
  next iS z w e=>cases e;simp[af]
  next=>rfl
 have cF:ie p (.tuple (a::r))=false:=by
  unfold ie;split
  next iS f b7 z e=>cases e;simp[ao]
  next=>rfl
 have jA:jk (.tuple (a::r))=false:=by
  unfold jk;split
  next iS n e=>cases e;simp[bA]
  next=>rfl
 simp[iJ,cE,cF,jA]
def ab0{p:cA}{ts:List T}(h:ts.length≠3):jn p (.tuple ts)=false:=by
 unfold jn;split
 next iS z w e=>cases e;simp at h
 next=>rfl
def acd{p:cA}{ts:List T}(h:ts.length≠4):ie p (.tuple ts)=false:=by
 unfold ie;split
 next iS f b7 z e=>cases e;simp at h
 next=>rfl
def aaN{ts:List T}(h:ts.length≠2):jk (.tuple ts)=false:=by
 unfold jk;split
 next iS n e=>cases e;simp at h
 next=>rfl
def W5:¬(("line":Str)="code"):=by decide +kernel
def W6:¬(("line":Str)="ticks"):=by decide +kernel
def W_:¬(("ticks":Str)="code"):=by decide +kernel
def adL{ε:Ev}:ab wc (U (.int 10)) (U (.int 30)) ε=some (.int (10 ^ 30)):=by
 rw[bC (t:=.int 10) (u:=.int 30) rfl rfl];simp only[wc];rw[if_pos ⟨trivial,by decide,by decide⟩];rfl
def Zv{p:cA}(aE:mj p){d:Nat}{t:T}(h:cI (d+1) t)(hd:d<=50)(hi:∀a i,t=.tuple [a,.int i]->i<=10 ^ 30):ou [bM p,t]=some (.bool (iJ p t)):=by
 unfold ou bE JQ;show (seq _ _ [some (.aa (bM p)),some (.aa t),none]).bind _=_;have bG:comp 1 [] (cz (ab ax (nm 0) (U (.int 0)))) (aX 0) (dd true) (ab ax (nm 0) (U (.int 0))) [some (.aa (bM p)),some (.aa t),none]=some (.list ((hJ p).map .str)):=by
  rw[vX (f:=λt=>.str (hZ t)) (ts:=p.fy.map e8) (by
   simp only[cz];rw[bC (t:=bM p) rfl rfl,show ax (bM p) (.int 0)=some (.tuple (p.fy.map e8)) from fJ];rfl) (by rw[ej];have:=aE.l;unfold big;omega) λt aM=>by
    obtain⟨z,_,rfl⟩:=ei.mp aM;rw[bC rfl rfl];exact fJ]
  simp only[iD,hJ];rfl
 rw[b1.dD (pS bG)];simp only[oq,oo];by_cases j1:fm "tuple" t=false
 ·rw[fL (c3 (a:=true) (b:=false) (cx (a:=false) (bH (by rw[dk (t:=t) rfl,gR "tuple" h.g,j1]))) λz=>by cases z),if_pos (by rfl)];have:iJ p t=false:=by cases t <;> first|rfl|cases j1
  rw[this];rfl
 rw[Bool.not_eq_false] at j1;obtain⟨ts,rfl⟩:=vE t j1 h.g;generalize fH:[some (bW.aa (bM p)),some (.aa (.tuple ts)),some (.aa (.list ((hJ p).map .str)))]=E;have dR:nm 1 E=some (.tuple ts):=by subst fH;rfl
 have fp:ar 2 E=some (.list ((hJ p).map .str)):=by subst fH;rfl
 have jz:aP (bN (dH "tuple") (nm 1)) E=some true:=bH (by rw[dk dR,gR "tuple" h.g,j1]);have Df:ab oEq (nm 1) (aJ []) E=some (.bool ts.isEmpty):=by
  rw[bC dR (u:=.tuple []) rfl];simp only[oEq,h.dI (by omega),show dI (.tuple [])=true from rfl,Bool.and_self,if_true];cases ts <;> rfl
 cases ts with
|nil=>
  rw[fL (c3 (a:=false) (cx jz) λ_=>c3 (a:=true) (b:=false) (bH Df) λz=>by cases z),if_pos (by rfl)];rfl
|cons a r=>
  have az:=h.tup a (by simp);have gL:=IG dR;by_cases aT:fm "str" a=false
  ·rw[fL (c3 (a:=false) (cx jz) λ_=>c3 (a:=false) (bH Df) λ_=>cx (a:=false) (bH (by rw[dk gL,gR "str" az.g,aT]))),if_pos (by rfl)];have:∀s,f_ s a=false:=λs=>by cases a <;> first|rfl|cases aT
   rw[MC (this _) (this _) (this _)];rfl
  rw[Bool.not_eq_false] at aT;rw[fL (c3 (a:=false) (cx jz) λ_=>c3 (a:=false) (bH Df) λ_=>cx (a:=true) (bH (by rw[dk gL,gR "str" az.g,aT]))),if_neg (by simp)];have dc:=w4 gL az Mi (by omega);have eO:=w4 gL az LP (by omega);have iW:=IX gL az Mj (by omega);by_cases n9:f_ "line" a=true
  ·rw[eM (bH dc),n9,if_pos rfl];have x8:a=.str "line":=by
    cases a with
    |str x=>rw[of_decide_eq_true n9]
    |_=>cases n9
   have hc:ie p (.tuple (a::r))=false:=by
    unfold ie;split
    next iS f b7 z e=>cases e;rw[x8];simp[f_,W5]
    next=>rfl
   have kf:jk (.tuple (a::r))=false:=by
    unfold jk;split
    next iS n e=>cases e;rw[x8];simp[f_,W6]
    next=>rfl
   have eg:=L_ (i:=3) 3 rfl dR;by_cases lT:(a::r).length=3
   ·obtain⟨iS,z,w,e⟩:=pO (t:=.tuple (a::r)) (by simp only[cj,cJ,decide_eq_true_eq];omega);cases e;have hz:=h.tup z (by simp);have hw:=h.tup w (by simp);rw[fE (t:=.bool (true && (dA (hJ p) z && dA ta w))) (cD (by rw[eg,decide_eq_true lT]) λ_=>cD (wb (by rw[bC dR (u:=.int 1) rfl];exact gK) fp hz (by omega) (.inr rfl) aE.z) λ_=>wb (by rw[bC dR (u:=.int 2) rfl];exact kG) rfl hw (by omega) (.inl rfl) LQ)];simp only[iJ,hc,kf,jn,n9,Bool.true_and,Bool.or_false,br]
   ·rw[fE (t:=.bool (false && true)) (cD (by rw[eg,decide_eq_false lT]) λz=>by cases z)];simp only[iJ,hc,kf,ab0 lT,br];rfl
  rw[Bool.not_eq_true] at n9;rw[eM (bH dc),n9,if_neg (by simp)];by_cases pk:f_ "ticks" a=true
  ·rw[eM (bH eO),pk,if_pos rfl];have x8:a=.str "ticks":=by
    cases a with
    |str x=>rw[of_decide_eq_true pk]
    |_=>cases pk
   have hc:ie p (.tuple (a::r))=false:=by
    unfold ie;split
    next iS f b7 z e=>cases e;rw[x8];simp[f_,W_]
    next=>rfl
   have iF:jn p (.tuple (a::r))=false:=by
    unfold jn;split
    next iS z w e=>cases e;simp[n9]
    next=>rfl
   have eg:=L_ (i:=2) 2 rfl dR;by_cases lT:(a::r).length=2
   ·obtain⟨iS,n,e⟩:=ti (t:=.tuple (a::r)) (by simp only[cj,cJ,decide_eq_true_eq];omega);cases e;have a_:=h.tup n (by simp);rw[fE (t:=.bool (true && c' n 1 (10 ^ 30))) (cD (by rw[eg,decide_eq_true lT]) λ_=>by
     rw[lS (t:=n) (u:=.int 1) (v:=.int (10 ^ 30)) (by rw[bC dR (u:=.int 1) rfl];exact gK) rfl adL];exact oy a_.g)]
    have:c' n 1 (10 ^ 30)=(m8 n && posB n):=by
     cases n with
     |int i=>
      have:=hi a i rfl;simp only[c',m8,posB,Bool.true_and];rw[decide_eq_true this,Bool.and_true]
     |_=>rfl
    simp only[iJ,iF,hc,jk,pk,this,Bool.true_and,Bool.false_or,br]
   ·rw[fE (t:=.bool (false && true)) (cD (by rw[eg,decide_eq_false lT]) λz=>by cases z)];simp only[iJ,iF,hc,aaN lT,br];rfl
  rw[Bool.not_eq_true] at pk;rw[eM (bH eO),pk,if_neg (by simp)];by_cases sb:f_ "code" a=false
  ·rw[fL (c3 (a:=true) (b:=false) (bH (by rw[iW,sb];rfl)) λz=>by cases z),if_pos (by rfl),MC n9 sb pk];rfl
  rw[Bool.not_eq_false] at sb;have iF:jn p (.tuple (a::r))=false:=by
   unfold jn;split
   next iS z w e=>cases e;simp[n9]
   next=>rfl
  have kf:jk (.tuple (a::r))=false:=by
   unfold jk;split
   next iS n e=>cases e;simp[pk]
   next=>rfl
  have eg:=ac' (i:=4) 4 rfl dR;by_cases lT:(a::r).length=4
  ·obtain⟨iS,f,b7,z,e⟩:=zi (t:=.tuple (a::r)) (by simp only[cj,cJ,decide_eq_true_eq];omega);cases e;have hf:=h.tup f (by simp);have he:=h.tup b7 (by simp);have hz:=h.tup z (by simp);have hA:ab ax (nm 1) (U (.int 1)) E=some f:=by rw[bC dR (u:=.int 1) rfl];exact gK
   have ir:ab ax (nm 1) (U (.int 2)) E=some b7:=by rw[bC dR (u:=.int 2) rfl];exact kG
   have jy:ab ax (nm 1) (U (.int 3)) E=some z:=by rw[bC dR (u:=.int 3) rfl];exact xk
   rw[fL (c3 (a:=false) (bH (by rw[iW,sb];rfl)) λ_=>c3 (a:=false) (bH (by rw[eg,decide_eq_true lT];rfl)) λ_=>cx (bH (by rw[dm hA];exact LM hf.g)))];simp only[iJ,iF,kf,ie,sb,Bool.true_and,Bool.false_or,Bool.or_false];by_cases El:g0 f=false
   ·simp[El]
   rw[Bool.not_eq_false] at El;simp only[El,Bool.not_true,je,if_false,Bool.true_and];have du:=wb (g:=aJ [(U (.str "set")),(U (.str "unset"))]) (ss:=["set","unset"]) ir rfl he (by omega) (.inl rfl) GS;have fa:=wb (g:=aJ [(U (.str "shunt")),(U (.str "free"))]) (ss:=["shunt","free"]) ir rfl he (by omega) (.inl rfl) GU;have qD:=wb (ss:=hJ p) jy fp hz (by omega) (.inr rfl) aE.z;rw[eM (bH du)];by_cases Ek:dA ["set","unset"] b7=true
   ·rw[Ek,if_pos rfl,if_pos rfl,fE (t:=.bool (nc z)) (by rw[dk jy];cases z <;> rfl)];rfl
   ·rw[if_neg Ek,if_neg Ek];simp only[aW];rw[cD fa λ_=>qD];rfl
  ·rw[fL (c3 (a:=false) (bH (by rw[iW,sb];rfl)) λ_=>c3 (a:=true) (b:=false) (bH (by rw[eg,decide_eq_false lT];rfl)) λz=>by cases z),if_pos (by rfl)];simp only[iJ,iF,kf,acd lT];rfl
noncomputable def Src:Nat->T->Prop
|_,.int i=>0<=i/\i<=1000000000
|_,.str x=>asc (ls x)/\x.length<=10
|_,.none=>True
|d+1,.tuple ts=>ts.length<=10/\∀t∈ts,Src d t
|_,_=>False
structure Ok(d:Nat)(t:T):Prop where
 g:cI d t
 w:j8 t=true
 i:∀i,t=.int i->i<=10 ^ 30
 c:∀ts,t=.tuple ts->∀i,PyData.int i∈ts->i<=10 ^ 30
theorem Ok.le{d e:Nat}{t:T}(h:Ok d t)(hd:d<=e):Ok e t:=⟨h.g.le hd,h.w,h.i,h.c⟩
def vN{d:Nat}{ts:List T}(h:∀t∈ts,Ok d t)(aF:ts.length<60):Ok (d+1) (.tuple ts):=
 ⟨cI.IQ λt aM=>(h t aM).g,by rw[j8,cJ];exact⟨decide_eq_true aF,y2.mpr λt aM=>(h t aM).w⟩,λi e=>(by cases e),λus e i hi=>(by cases e;exact (h _ hi).i i rfl)⟩
def L7{d:Nat}{ts:List T}(h:∀t∈ts,Ok d t)(aF:ts.length<60):Ok (d+1) (.list ts):=
 ⟨cI.xq λt aM=>(h t aM).g,by rw[j8,cJ];exact⟨decide_eq_true aF,y2.mpr λt aM=>(h t aM).w⟩,λi e=>(by cases e),λus e=>(by cases e)⟩
def zc{d:Nat}{i:Int}(h:i<=10 ^ 30):Ok d (.int i):=⟨Mc,rfl,λj e=>(by cases e;exact h),λus e=>(by cases e)⟩
def Gj{d:Nat}{x:Str}(h:asc (ls x))(aF:x.length<=1000000):Ok d (.str x):=⟨ze h aF,rfl,λj e=>(by cases e),λus e=>(by cases e)⟩
def LB{d:Nat}:Ok d .none:=⟨adn,rfl,λj e=>(by cases e),λus e=>(by cases e)⟩
def abV{d:Nat}{b:Bool}:Ok d (.bool b):=⟨LK,rfl,λj e=>(by cases e),λus e=>(by cases e)⟩
def Qn:(1000000060:Int)<=10 ^ 30:=by decide +kernel
def Lv{d:Nat}{i:Int}(h:Src d (.int i)):0<=i/\i<=1000000000:=by cases d <;> exact h
def Lu{d:Nat}{x:Str}(h:Src d (.str x)):asc (ls x)/\x.length<=10:=by cases d <;> exact h
def pK{d:Nat}{i:Int}(h:0<=i/\i<=1000000000):Src d (.int i):=by cases d <;> exact h
def rh{d:Nat}{x:Str}(h:asc (ls x)/\x.length<=10):Src d (.str x):=by cases d <;> exact h
def LD{d:Nat}:Src d .none:=by cases d <;> exact trivial
theorem s9:∀{d:Nat} {t:T},Src d t->Ok (d+1) t
|d,.int i,h=>zc (Int.le_trans (Lv h).2 (Int.le_trans (by omega) Qn))
|d,.str x,h=>Gj (Lu h).1 (by have:=(Lu h).2;omega)
|d,.none,_=>LB
|d+1,.tuple ts,h=>vN (λt aM=>s9 (h.2 t aM)) (by have:=h.1;omega)
|0,.tuple ts,h=>by simp[Src] at h
|d,.bool _,h=>by cases d <;> simp[Src] at h
|d,.list _,h=>by cases d <;> simp[Src] at h
|d,.dict _,h=>by cases d <;> simp[Src] at h
def wN{α:Type}(l:List α)(a b:Option Int):(eA l a b).length<=l.length:=by
 unfold eA;rw[List.length_take,List.length_drop];omega
def adj{L:List T}{k:Int}(h0:0<=k)(h:k<L.length):∃u∈L,ax (.list L) (.int k)=some u:=by
 obtain⟨n,rfl⟩:∃n:Nat,k=n:=⟨k.toNat,by omega⟩;have a_:n<L.length:=by omega
 refine⟨L[n],List.getElem_mem _,?_⟩
 simp only[ax,eH,e'];rw[if_pos (by omega),if_pos (by omega)];exact ft a_
def pick{ε:Ev}{fs:List aY}{L:List T}{g:aY}{k:Int}{d:Nat}(aF:args fs ε=some L)(a_:L.length<=100)(aU:g ε=some (.int k))(h0:0<=k)(aV:k<L.length)(aQ:∀u∈L,Ok d u):∃u,ab ax (da fs) g ε=some u/\Ok d u:=by
 obtain⟨u,bw,e⟩:=adj h0 aV;refine⟨u,?_,aQ u bw⟩;rw[bC (t:=.list L) (u:=.int k) (by
  simp only[da,aF,br];rw[if_pos (by unfold big;omega)]) aU]
 exact e
def S7{f:aY}{ε:Ev}{a k b:Int}(hf:f ε=some (.int a))(e:oMod (.int a) (.int k)=some (.int b)):ab oMod f (U (.int k)) ε=some (.int b):=by rw[bC hf rfl];exact e
def PF{f:aY}{ε:Ev}{a k b:Int}(hf:f ε=some (.int a))(e:oDiv (.int a) (.int k)=some (.int b)):ab oDiv f (U (.int k)) ε=some (.int b):=by rw[bC hf rfl];exact e
def Qr{f:aY}{ε:Ev}{a k:Int}(hf:f ε=some (.int a)):aP (ab oEq f (U (.int k))) ε=some (decide (a=k)):=bH (by rw[bC hf (u:=.int k) rfl];exact b1.lP _ _)
def y3{f:aY}{ε:Ev}{ts:List T}{lo hi:Ev->Option (Option Int)}{a b:Option Int}(hf:f ε=some (.tuple ts))(af:lo ε=some a)(ao:hi ε=some b):et f lo hi ε=some (.tuple (eA ts a b)):=by
 simp only[et,hf,af,ao,br,r',r_]
def GV{f g:aY}{ε:Ev}{a b:List T}(hf:f ε=some (.tuple a))(aU:g ε=some (.tuple b))(aF:a.length+b.length<=1000000):ab bb f g ε=some (.tuple (a++b)):=by
 rw[bC hf aU];simp only[bb];rw[if_pos (by unfold big;omega)]
def zp(c:String){f:aY}{ε:Ev}{t:T}(hf:f ε=some t)(h:dt t=true):aP (bN (dH c) f) ε=some (fm c t):=bH (by rw[dk hf];exact gR c h)
def Gq{d:Nat}{x:Str}(af:((ls x).all λc=>decide (c<128))=true:=by decide +kernel)(ao:x.length<=10:=by decide +kernel):Src d (.str x):=rh ⟨rr af,ao⟩
def vT{d:Nat}{x:Str}{l:List Str}(h:(l.all λq=>(ls q).all (λc=>decide (c<128)) && decide (q.length<=10))=true)(hx:x∈l):Src d (.str x):=by
 have:=List.all_eq_true.mp h x hx;rw[cJ] at this;exact rh ⟨rr this.1,of_decide_eq_true this.2⟩
def aaS{p:cA}(wV:nh p)(h:Pv p):Src 4 (bM p):=by
 refine⟨by simp,λt aM=>?_⟩
 simp only[bS,d8,or_false] at aM;have nm:∀{d:Nat} {x:Str},eF (.str x)=true->Src d (.str x):=λhx=>rh ⟨vB hx,by have:=(sQ hx).2.1;omega⟩;rcases aM with rfl|rfl|rfl
 ·refine⟨by rw[ej];have:=h.Fe;omega,λt aM=>?_⟩
  obtain⟨z,hz,rfl⟩:=ei.mp aM;have:=h.zs z hz;refine⟨by simp,λt aM=>?_⟩;simp only[bS,d8,or_false] at aM;rcases aM with rfl|rfl
  ·exact nm this.1
  ·exact vT (l:=l') (by decide +kernel) this.2
 ·refine⟨by rw[ej];have:=h.mx;omega,λt aM=>?_⟩
  obtain⟨k,aV,rfl⟩:=ei.mp aM;obtain⟨eh,cU,gM,h5,_,uB,xm⟩:=h.cs k aV;refine⟨by simp,λt aM=>?_⟩;simp only[bS,d8,or_false] at aM;rcases aM with rfl|rfl|rfl|rfl
  ·exact rh ⟨λc au=>by have:=(sZ eh).2 c au;omega,by have:=(sZ eh).1;omega⟩
  ·exact nm cU
  ·refine⟨by rw[ej];omega,λt aM=>?_⟩
   obtain⟨r,aw,rfl⟩:=ei.mp aM;exact vT (l:=f5) (by decide +kernel) (h5 r aw)
  ·exact pK ⟨uB,by omega⟩
 ·refine⟨by simp,λt aM=>?_⟩
  simp only[bS,d8,or_false] at aM;have t1:=h.t1;have eE:=h.eE;have t3:=h.t3;rcases aM with rfl|rfl|rfl
  ·exact pK ⟨t1.1,by omega⟩
  ·exact pK ⟨eE.1,by omega⟩
  ·exact pK ⟨by omega,by omega⟩
def _C{p:cA}(h:Pv p){e:nj}(he:Be p e)(aM:∀n,e=.kU n->n<=1000000000):Src 1 (eZ e):=by
 have I3:∀{d:Nat} {x:Str},x∈hJ p->Src d (.str x):=λhx=>by
  obtain⟨z,hz,rfl⟩:=ei.mp hx;have:=(h.zs z hz).1;exact rh ⟨vB this,by have:=(sQ this).2.1;omega⟩
 cases e with
|line z w=>
  refine⟨by simp,λt hm=>?_⟩
  simp only[bS,d8,or_false] at hm;rcases hm with rfl|rfl|rfl
  ·exact Gq
  ·exact I3 he.1
  ·exact vT (l:=ta) (by decide +kernel) he.2
|kU n=>
  refine⟨by simp,λt hm=>?_⟩
  simp only[bS,d8,or_false] at hm;have af:1<=n:=he;rcases hm with rfl|rfl
  ·exact Gq
  ·exact pK ⟨by omega,aM n rfl⟩
|code f d z=>
  refine⟨by simp,λt hm=>?_⟩
  simp only[bS,d8,or_false] at hm;have af:Src 0 (.str f):=rh ⟨λc au=>by have:=(sZ he.1).2 c au;omega,by have:=(sZ he.1).1;omega⟩;have ao:Src 0 (.str d)/\Src 0 (pg z):=by
   rcases he.2 with ⟨rfl,hd⟩|⟨x,rfl,hx,hd⟩
   ·exact⟨vT (l:=["set","unset"]) (by decide +kernel) hd,LD⟩
   ·exact⟨vT (l:=["shunt","free"]) (by decide +kernel) hd,I3 hx⟩
  rcases hm with rfl|rfl|rfl|rfl
  ·exact Gq
  ·exact af
  ·exact ao.1
  ·exact ao.2
def Nb(d:Nat)(f:aY)(ε:Ev):Prop:=∃u,f ε=some u/\Ok d u
theorem y7{d:Nat}{it:gU}{e:aY}{ε:Ev}:∀{ts:List T} (s:Option bW),(∀t∈ts,Nb d e [some (.aa t)])->∃us,aeC (aX 0) (dd true) e ts [s]=some us/\us.length=ts.length/\∀u∈us,Ok d u
| [],s,_=>⟨[],rfl,rfl,by simp⟩
|t::ts,s,h=>by
  obtain⟨u,af,ao⟩:=h t (by simp);obtain⟨us,g1,g2,g3⟩:=y7 (it:=it) (ε:=ε) (ts:=ts) (some (.aa t)) λv bj=>h v (gz _ bj);refine⟨u::us,?_,by simp[g2],λv bj=>?_⟩
  ·rw[aeC,show aX 0 t [s]=some [some (.aa t)] from rfl];simp only[br,dd,if_true,af];rw[g1];rfl
  ·rcases bS.mp bj with rfl|bj
   ·exact ao
   ·exact g3 v bj
end kq
end
section
namespace dq
open D b1 PySem
mutual
noncomputable def nb:T->Bool
|.bool _=>false
|.dict _=>false
|.tuple ts=>r8 ts
|.list ts=>r8 ts
|_=>true
noncomputable def r8:List T->Bool
| []=>true
|t::ts=>nb t && r8 ts
end
mutual
theorem adp:∀{t u:T},nb t=true->nb u=true->fu t u=true->t=u
|.none,u,_,_,h=>by cases u <;> simp[fu] at h;rfl
|.bool _,_,h,_,_=>by simp[nb] at h
|.dict _,_,h,_,_=>by simp[nb] at h
|.int i,u,_,bw,h=>by
  cases u <;> simp[fu] at h
  ·simp[nb] at bw
  ·rw[h]
|.str x,u,_,_,h=>by
  cases u <;> simp[fu] at h
  rw[h]
|.list xs,u,aM,bw,h=>by
  cases u <;> simp only[fu,je] at h
  rw[nb] at aM bw;rw[F8 aM bw h]
|.tuple xs,u,aM,bw,h=>by
  cases u <;> simp only[fu,je] at h
  rw[nb] at aM bw;rw[F8 aM bw h]
theorem F8:∀{ts us:List T},r8 ts=true->r8 us=true->PyData.eqvAll ts us=true->ts=us
| [],[],_,_,_=>rfl
| [],_::_,_,_,h=>by simp[PyData.eqvAll] at h
|_::_,[],_,_,h=>by simp[PyData.eqvAll] at h
|t::ts,u::us,aM,bw,h=>by
  rw[r8,cJ] at aM bw;rw[PyData.eqvAll,cJ] at h;rw[adp aM.1 bw.1 h.1,F8 aM.2 bw.2 h.2]
end
end dq
end
section
namespace k7
open D b1 dq kq PySem
local instance:bX:=⟨[],λ_=>[],λ_=>none⟩
noncomputable def kx:ba:=(seq (iff (cc (bD (aP (aq jM [(ar 1),(U (.int 3))]))) (cc (bD (aP (aq gB [(ab ax (nm 1) (U (.int 0))),(U (.int 0)),(ab ax (nm 0) (U (.int 0)))]))) (bD (aP (aq gB [(ab ax (nm 1) (U (.int 1))),(U (.int 0)),(ab ax (nm 0) (U (.int 0)))]))))) (aW (U (.bool false))) skip) (iff (cc (aP (ab mQ (ab ax (nm 1) (U (.int 0))) (ab ax (nm 1) (U (.int 1))))) (e6 (aP (bN fO (ab ax (nm 1) (U (.int 2))))) (bD (aP (aq ke [(ab ax (nm 1) (U (.int 2)))]))))) (aW (U (.bool false))) skip))
def aa7{R i j:Int}{z:T}:ig (.int R) (.tuple [.int i,.int j,z])=((c' (.int i) 0 R && c' (.int j) 0 R) && (!(decide (j<=i)) && (nc z || eF z))):=by
 simp only[ig,c'];generalize (nc z || eF z)=c;rw[Bool.eq_iff_iff];simp only[cJ,decide_eq_true_eq,Bool.not_eq_true',decide_eq_false_iff_not];constructor
 ·rintro⟨⟨a1,a2⟩,⟨iT,nC⟩,nD⟩;exact⟨⟨⟨iT,by omega⟩,by omega,a2⟩,by omega,nD⟩
 ·rintro⟨⟨⟨iT,nC⟩,a1,a2⟩,mu,nD⟩;exact⟨⟨by omega,a2⟩,⟨iT,by omega⟩,nD⟩
def ad5{R:Int}{os t:T}{d:Nat}(h:cI (d+1) t):kx [some (.aa (.tuple [.int R,os])),some (.aa t)]=if ig (.int R) t=true then some (.nx [some (.aa (.tuple [.int R,os])),some (.aa t)]) else some (.dn (.bool false)):=by
 unfold kx;generalize fH:[some (bW.aa (.tuple [.int R,os])),some (.aa t)]=E;have fo:nm 0 E=some (.tuple [.int R,os]):=by subst fH;rfl
 have dR:nm 1 E=some t:=by subst fH;rfl
 have v1:ar 1 E=some t:=by subst fH;rfl
 have af:=sV (i:=3) 3 rfl v1 h.g;have fV:=IG fo;cases ae:lY t 3 with
|false=>
  rw[ae] at af;rw[fL (c3 (a:=true) (b:=false) (cx (bH af)) λz=>by cases z),if_pos (by rfl)];have:ig (.int R) t=false:=by
   have ae:=sh ae;unfold ig;split
   ·simp[cj] at ae
   ·rfl
  rw[this,if_neg (by simp)]
|true=>
  rw[ae] at af;obtain⟨a,b,z,rfl⟩:=pO (pw ae);have az:=h.tup a (by simp);have eS:=h.tup b (by simp);have hz:=h.tup z (by simp);have gL:ab ax (nm 1) (U (.int 0)) E=some a:=by rw[bC dR (u:=.int 0) rfl];exact fJ
  have hA:ab ax (nm 1) (U (.int 1)) E=some b:=by rw[bC dR (u:=.int 1) rfl];exact gK
  have ir:ab ax (nm 1) (U (.int 2)) E=some z:=by rw[bC dR (u:=.int 2) rfl];exact kG
  have og:aq gB [(ab ax (nm 1) (U (.int 0))),(U (.int 0)),(ab ax (nm 0) (U (.int 0)))] E=some (.bool (c' a 0 R)):=by
   rw[lS (u:=.int 0) gL rfl fV];exact oy az.g
  have oh:aq gB [(ab ax (nm 1) (U (.int 1))),(U (.int 0)),(ab ax (nm 0) (U (.int 0)))] E=some (.bool (c' b 0 R)):=by
   rw[lS (u:=.int 0) hA rfl fV];exact oy eS.g
  rw[fL (c3 (a:=false) (cx (bH af)) λ_=>c3 (cx (bH og)) λ_=>cx (bH oh))];by_cases Cz:∃i,a=.int i
  ·obtain⟨i,rfl⟩:=Cz;by_cases CA:∃j,b=.int j
   ·obtain⟨j,rfl⟩:=CA;rw[aa7];have r1:ab mQ (ab ax (nm 1) (U (.int 0))) (ab ax (nm 1) (U (.int 1))) E=some (.bool (decide (j<=i))):=by rw[bC gL hA];rfl
    have a_:bN fO (ab ax (nm 1) (U (.int 2))) E=some (.bool !(nc z)):=by rw[dk ir];cases z <;> rfl
    have hw:aq ke [(ab ax (nm 1) (U (.int 2)))] E=some (.bool (eF z)):=by rw[dm ir];exact FU hz.g
    rw[vU (c3 (bH r1) λ_=>adu (bH a_) λ_=>cx (bH hw))];generalize c' (.int i) 0 R=a3;generalize c' (.int j) 0 R=cu;generalize decide (j<=i)=dX;generalize nc z=gO;generalize eF z=j9;cases a3 <;> cases cu <;> cases dX <;> cases gO <;> cases j9 <;> rfl
   ·have q:c' b 0 R=false:=by
     cases b with
     |int j=>exact absurd ⟨j,rfl⟩ CA
     |_=>rfl
    have bg:ig (.int R) (.tuple [.int i,b,z])=false:=by
     cases b with
     |int j=>exact absurd ⟨j,rfl⟩ CA
     |_=>rfl
    rw[q,bg,if_pos (by simp),if_neg (by simp)]
  ·have q:c' a 0 R=false:=by
    cases a with
    |int j=>exact absurd ⟨j,rfl⟩ Cz
    |_=>rfl
   have bg:ig (.int R) (.tuple [a,b,z])=false:=by
    cases b with
    |int j=>
     have:c' a 0 (j - 1)=false:=by
      cases a with
      |int j=>exact absurd ⟨j,rfl⟩ Cz
      |_=>rfl
     simp only[ig,this,Bool.false_and,Bool.and_false]
    |_=>rfl
   rw[q,bg,if_pos (by simp),if_neg (by simp)]
def SW{d:Nat}{t:T}(h:cI (d+3) t)(hd:d<=50):mz [t]=some (.bool (gC t)):=by
 unfold mz bE JP;show (seq _ _ [some (.aa t),none]).bind _=_;have af:=sV (f:=ar 0) (ε:=[some (.aa t),none]) (i:=2) 2 rfl rfl h.g;cases ae:lY t 2 with
|false=>
  rw[ae] at af;rw[fL (c3 (a:=true) (b:=false) (cx (bH af)) λz=>by cases z),if_pos (by rfl)];have:gC t=false:=by
   have ae:=sh ae;unfold gC;split
   ·simp[cj] at ae
   ·rfl
  rw[this];rfl
|true=>
  rw[ae] at af;obtain⟨r,o,rfl⟩:=ti (pw ae);have aw:=h.tup r (by simp);have aQ:=h.tup o (by simp);have bG:ab ax (nm 0) (U (.int 0)) [some (.aa (.tuple [r,o])),none]=some r:=by rw[bC rfl rfl];exact fJ
  have aC:ab ax (nm 0) (U (.int 1)) [some (.aa (.tuple [r,o])),none]=some o:=by rw[bC rfl rfl];exact gK
  have og:aq gB [(ab ax (nm 0) (U (.int 0))),(U (.int 1)),(U (.int 7))] [some (.aa (.tuple [r,o])),none]=some (.bool (c' r 1 7)):=by
   rw[lS (u:=.int 1) (v:=.int 7) bG rfl rfl];exact oy aw.g
  rw[fL (c3 (a:=false) (cx (bH af)) λ_=>cx (bH og))];by_cases aT:c' r 1 7=false
  ·rw[aT,if_pos (by rfl)];have:gC (.tuple [r,o])=false:=by
    unfold gC;split
    next bU iw b7=>
     cases b7
     rw[aT];rfl
    next=>rfl
   rw[this];rfl
  rw[Bool.not_eq_false] at aT;rw[aT,if_neg (by simp)];obtain⟨R,rfl⟩:∃R,r=.int R:=by
   cases r with
   |int j=>exact⟨j,rfl⟩
   |_=>cases aT
  by_cases bg:fm "tuple" o=false
  ·rw[fL (c3 (a:=true) (b:=false) (cx (a:=false) (bH (by rw[dk aC,gR "tuple" aQ.g,bg]))) λz=>by cases z),if_pos (by rfl)];have:gC (.tuple [.int R,o])=false:=by
    cases o with
    |tuple os=>cases bg
    |_=>rfl
   rw[this];rfl
  rw[Bool.not_eq_false] at bg;obtain⟨os,rfl⟩:=vE o bg aQ.g;have aF:ab fU (aq de [(ab ax (nm 0) (U (.int 1)))]) (U (.int 10)) [some (.aa (.tuple [.int R,.tuple os])),none]=some (.bool (decide ((10:Int)<os.length))):=by
   rw[bC (t:=.int os.length) (u:=.int 10) (by rw[dm aC];rfl) rfl];rfl
  rw[fL (c3 (a:=false) (cx (a:=true) (bH (by rw[dk aC,gR "tuple" aQ.g,bg]))) λ_=>bH aF)];by_cases c6:os.length<=10
  ·rw[decide_eq_false (show ¬(10:Int)<os.length by omega),if_neg (by simp)];have it:cz (ab ax (nm 0) (U (.int 1))) [some (.aa (.tuple [.int R,.tuple os])),none]=some os:=by
    simp only[cz,aC,br]
   rcases vV (E:=λs=>[some (.aa (.tuple [.int R,.tuple os])),s]) (P:=ig (.int R)) (g:=aX 1) (body:=kx) (λt s=>rfl) os none (λt aM=>ad5 (aQ.tup t aM)) with ⟨a,aZ,e⟩|⟨a,e⟩
   ·have rV:c1 (cz (ab ax (nm 0) (U (.int 1)))) (aX 1) kx [some (.aa (.tuple [.int R,.tuple os])),none]=some (.nx [some (.aa (.tuple [.int R,.tuple os])),aZ]):=by
     unfold c1;rw[it];exact e
    unfold kx at rV;rw[b1.dD rV];simp only[gC,aT,a,decide_eq_true c6,Bool.and_self];rfl
   ·have rV:c1 (cz (ab ax (nm 0) (U (.int 1)))) (aX 1) kx [some (.aa (.tuple [.int R,.tuple os])),none]=some (.dn (.bool false)):=by
     unfold c1;rw[it];exact e
    unfold kx at rV;rw[y_ rV];simp only[gC,aT,a,Bool.and_false];rfl
  ·rw[decide_eq_true (show (10:Int)<os.length by omega),if_pos (by rfl)];simp only[gC,decide_eq_false c6,Bool.false_and,Bool.and_false];rfl
def W7{R:Int}{os:List dO.Op}(h:zE R os):Src 3 (dO.eI R os):=by
 refine⟨by simp,λt aM=>?_⟩
 simp only[bS,d8,or_false] at aM;have aw:=h.r;rcases aM with rfl|rfl
 ·exact pK ⟨by omega,by omega⟩
 ·refine⟨by rw[ej];exact h.l,λt aM=>?_⟩
  obtain⟨⟨a,b,z⟩,hm,rfl⟩:=ei.mp aM;obtain⟨du,fa,qD,qE⟩:=h.o _ hm;simp only at du fa qD qE;refine⟨by simp,λt aM=>?_⟩;simp only[bS,d8,or_false] at aM;rcases aM with rfl|rfl|rfl
  ·exact pK ⟨du,by omega⟩
  ·exact pK ⟨by omega,by omega⟩
  ·cases z with
   |none=>exact LD
   |some x=>exact rh ⟨vB (qE x rfl),by have:=(sQ (qE x rfl)).2.1;omega⟩
def rG:ba:=(seq (asg 14 (aq pD [(ar 13)])) (iff (cc (bD (aP (bN (dH "bool") (nm 14)))) (aP (ab eC (nm 14) (aq mz [(ar 13)])))) (aW (U (.bool false))) skip))
end k7
end
section
namespace nt
open D b1 dq kq PySem
local instance:bX:=⟨[],λ_=>[],λ_=>none⟩
def Path:T->List Nat->Prop
|_,[]=>True
|.tuple ts,i::r=>∃u,ts[i]?=some u/\Path u r
|_,_::_=>False
def wT(ws:List Nat):T:=.tuple (ws.map λ(i:Nat)=>.int (i:Int))
def cnt:Nat->Nat
|0=>1
|d+1=>1+10*cnt d
def tN(n:Nat):ba:=(asg 2 (ab bb (nm 2) (aq (l4 n) [(ar 4),(ab bb (nm 1) (aJ [(ar 3)]))])))
theorem J0{n:Nat}{t0:T}{ws:List Nat}{c:Nat}(hw:ws.length<=20):∀(ts:List T) (k:Nat) (L:List T) (s3 s4:Option bW),(∀(i:Nat) (u:T),ts[i]?=some u->∃M,l4 n [u,wT (ws++[k+i])]=some (.list M)/\M.length<=c/\∀w∈M,∃r,w=wT (ws++(k+i)::r)/\Path u r/\r.length<=20)->L.length+ts.length*c<=1000000 ->
  ∃oO lU h8,forL (dg [(aX 3),(aX 4)]) (tN n) ((ts.zipIdx k).map λq=>.tuple [.int q.2,q.1]) [some (.aa t0),some (.aa (wT ws)),some (.aa (.list L)),s3,s4]=some (.nx [some (.aa t0),some (.aa (wT ws)),some (.aa (.list oO)),lU,h8])/\oO.length<=L.length+ts.length*c/\∀w∈oO,w∈L\/∃i u r,ts[i]?=some u/\w=wT (ws++(k+i)::r)/\Path u r/\r.length<=20
| [],k,L,s3,s4,_,_=>⟨L,s3,s4,rfl,by simp,λw hw=>.inl hw⟩
|u::ts,k,L,s3,s4,h,aF=>by
  obtain⟨M,em,lm,hm⟩:=h 0 u rfl;simp only[gi,Nat.add_mul,Nat.one_mul] at aF;obtain⟨oO,lU,h8,e,f',h'⟩:=J0 (t0:=t0) (c:=c) hw ts (k+1) (L++M) (some (.aa (.int (k:Int)))) (some (.aa u)) (λi v bj=>by
   have:=h (i+1) v (by simpa using bj);rw[show k+1+i=k+(i+1) by omega];exact this) (by rw[qX];omega)
  refine⟨oO,lU,h8,?_,?_,λw hw=>?_⟩
  ·rw[List.zipIdx_cons,eK,forL,show dg [(aX 3),(aX 4)] (.tuple [.int ((k:Nat):Int),u]) [some (.aa t0),some (.aa (wT ws)),some (.aa (.list L)),s3,s4]=some [some (.aa t0),some (.aa (wT ws)),some (.aa (.list L)),some (.aa (.int (k:Int))),some (.aa u)] from rfl,br];have aC:tN n [some (.aa t0),some (.aa (wT ws)),some (.aa (.list L)),some (.aa (.int (k:Int))),some (.aa u)]=some (.nx [some (.aa t0),some (.aa (wT ws)),some (.aa (.list (L++M))),some (.aa (.int (k:Int))),some (.aa u)]):=by
    unfold tN;have lx:ab bb (nm 1) (aJ [(ar 3)]) [some (.aa t0),some (.aa (wT ws)),some (.aa (.list L)),some (.aa (.int (k:Int))),some (.aa u)]=some (wT (ws++[k])):=by
     rw[GV (a:=ws.map λ(i:Nat)=>.int (i:Int)) (b:=[.int (k:Int)]) rfl rfl (by simp;omega)];simp[wT]
    rw[pS (t:=.list (L++M)) (add_l (a:=L) (b:=M) rfl (by rw[h7 (t:=u) rfl lx];exact em) (by omega))];rfl
   rw[aC,br];exact e
  ·rw[qX] at f';simp only[gi,Nat.add_mul,Nat.one_mul];omega
  ·rcases h' w hw with q|⟨i,v,r,bj,rfl,aE,r7⟩
   ·rcases mW.mp q with q|q
    ·exact .inl q
    ·obtain⟨r,rfl,aE,r7⟩:=hm w q;exact .inr ⟨0,u,r,rfl,rfl,aE,r7⟩
   ·exact .inr ⟨i+1,v,r,by simpa using bj,by rw[show k+1+i=k+(i+1) by omega],aE,r7⟩
theorem IK:∀{d:Nat} {t:T} {r:List Nat},Src d t->Path t r->r.length<=d
|_,_,[],_,_=>by simp
|0,.tuple ts,i::r,aA,_=>by simp[Src] at aA
|d+1,.tuple ts,i::r,aA,aE=>by
  obtain⟨u,bw,aE⟩:=aE;have:=IK (aA.2 u (qW bw)) aE;simp only[gi];omega
|_,.int _,_::_,_,aE=>eL aE
|_,.str _,_::_,_,aE=>eL aE
|_,.none,_::_,_,aE=>eL aE
|_,.bool _,_::_,_,aE=>eL aE
|_,.list _,_::_,_,aE=>eL aE
|_,.dict _,_::_,_,aE=>eL aE
def Mf:∀{d:Nat},d<=4->cnt d<=11111
|0,_=>by decide
|1,_=>by decide
|2,_=>by decide
|3,_=>by decide
|4,_=>by decide
def ace:∀d:Nat,1<=cnt d
|0=>c_ _
|d+1=>by simp[cnt]
theorem places:∀(n d:Nat) (t:T) (ws:List Nat),Src d t->d<n->d<=4->ws.length+d<=20->∃L,l4 n [t,wT ws]=some (.list L)/\L.length<=cnt d/\∀w∈L,∃r,w=wT (ws++r)/\Path t r/\r.length<=d
|0,_,_,_,_,h,_,_=>absurd h (Nat.not_lt_zero _)
|n+1,d,t,ws,aA,a_,hd,hw=>by
  have bP:=s9 aA;have dc:=ace d;show ∃L,(yk (l4 n) [some (.aa t),some (.aa (wT ws)),none,none,none]).bind _=some (PyData.list L)/\_;unfold yk;rw[b1.dD (pS (t:=.list [wT ws]) rfl)];simp only[oq,oo];have base:∀{s3 s4:Option bW},(aW (nm 2) [some (.aa t),some (.aa (wT ws)),some (.aa (.list [wT ws])),s3,s4]).bind (λo=>match o with|.dn t=>some t|.nx _=>some .none|_=>none)=some (.list [wT ws]):=rfl;by_cases it:fm "tuple" t=true
  ·obtain⟨ts,rfl⟩:=vE t it bP.g.g;cases d with
   |zero=>simp[Src] at aA
   |succ d=>
    have eO:=Mf (show d<=4 by omega);have qs:aP (bN (dH "tuple") (nm 0)) [some (.aa (.tuple ts)),some (.aa (wT ws)),some (.aa (.list [wT ws])),none,none]=some true:=by
     rw[zp "tuple" (t:=.tuple ts) rfl bP.g.g,it]
    have aF:=aA.1;obtain⟨oO,lU,h8,e,f',h'⟩:=J0 (n:=n) (t0:=.tuple ts) (ws:=ws) (c:=cnt d) (by omega) ts 0 [wT ws] none none (λi u bw=>by
     obtain⟨M,em,lm,hm⟩:=places n d u (ws++[0+i]) (aA.2 u (qW bw)) (by omega) (by omega) (by simp;omega);refine⟨M,em,lm,λw hw=>?_⟩;obtain⟨r,rfl,aE,r7⟩:=hm w hw;exact⟨r,by rw[List.append_assoc];rfl,aE,by omega⟩) (by
     have:ts.length*cnt d<=10*cnt d:=Nat.mul_le_mul_right _ aF;simp only[gi,qY];omega)
    refine⟨oO,?_,?_,λw hw=>?_⟩
    ·have st:iff (aP (bN (dH "tuple") (nm 0))) (c1 (fM (hN (ar 0))) (dg [(aX 3),(aX 4)]) (tN n)) skip [some (.aa (.tuple ts)),some (.aa (wT ws)),some (.aa (.list [wT ws])),none,none]=some (.nx [some (.aa (.tuple ts)),some (.aa (wT ws)),some (.aa (.list oO)),lU,h8]):=by
      unfold iff;rw[qs];simp only[br,if_true];unfold c1;rw[show fM (hN (ar 0)) [some (.aa (.tuple ts)),some (.aa (wT ws)),some (.aa (.list [wT ws])),none,none]=some ((ts.zipIdx 0).map λq=>.tuple [.int q.2,q.1]) from rfl];exact e
     unfold tN at st;rw[b1.dD st];rfl
    ·have:ts.length*cnt d<=10*cnt d:=Nat.mul_le_mul_right _ aF;simp only[gi,qY] at f';simp only[cnt];omega
    ·rcases h' w hw with q|⟨i,u,r,bw,rfl,aE,r7⟩
     ·rw[gj.mp q];exact⟨[],by rw[pz],by simp[Path],by simp⟩
     ·refine⟨i::r,by rw[show 0+i=i by omega],⟨u,bw,aE⟩,?_⟩
      obtain⟨M,em,lm,hm⟩:=places n d u (ws++[i]) (aA.2 u (qW bw)) (by omega) (by omega) (by simp;omega);exact IK aA ⟨u,bw,aE⟩
  ·rw[Bool.not_eq_true] at it;have qs:aP (bN (dH "tuple") (nm 0)) [some (.aa t),some (.aa (wT ws)),some (.aa (.list [wT ws])),none,none]=some false:=by
    rw[zp "tuple" (t:=t) rfl bP.g.g,it]
   rw[vC qs];exact⟨[wT ws],rfl,dc,λw hw=>⟨[],by rw[gj.mp hw,pz],by cases t <;> simp[Path],by simp⟩⟩
def YL{d:Nat}{t:T}(m:Int)(aA:Src d t):∃u,vb [t,.int m]=some u/\Ok (d+2) u:=by
 have bP:=s9 aA;obtain⟨h5,_,qv,qw,Qq⟩:=modQ m 4;show ∃u,(E0 [some (.aa t),some (.aa (.int m))]).bind _=some u/\_;unfold E0;generalize fH:[some (bW.aa t),some (.aa (.int m))]=E;have fo:nm 0 E=some t:=by subst fH;rfl
 have v0:ar 0 E=some t:=by subst fH;rfl
 have dR:nm 1 E=some (.int m):=by subst fH;rfl
 have CB:ab oMod (nm 1) (U (.int 4)) E=some (.int h5):=S7 dR Qq;have qs:=zp "tuple" fo bP.g.g;have ID:=zp "int" fo bP.g.g;have one:∀{d:Nat} {u:T},Ok d u->Ok (d+1) (.tuple [u]):=λh=>vN (λy bl=>by rw[gj.mp bl];exact h) (by simp);have mt:aJ [(ar 0)] E=some (.tuple [t]):=by simp only[aJ,args,v0,br,c2];rfl
 have other:fm "tuple" t=false->fm "int" t=false->∃u,(seq (iff (aP (bN (dH "tuple") (nm 0))) (aW (ab ax (da [(aq iL [(nm 0)]),(aq iL [(nm 0)]),(ab bb (nm 0) (aJ [(U (.int 0))])),(et (nm 0) (opt (U (.int 1))) optN)]) (ab oMod (nm 1) (U (.int 4))))) skip) (seq (iff (aP (bN (dH "int") (nm 0))) (aW (ab ax (da [(ab bb (nm 0) (U (.int 400))),(bN kM (U (.int 1))),(U (.bool true)),(aJ [(ar 0)])]) (ab oMod (nm 1) (U (.int 4))))) skip)
  (aW (ab ax (da [(U (.str "")),(U .none),(aJ [(ar 0)]),(U (.str "zzzzz"))]) (ab oMod (nm 1) (U (.int 4)))))) E).bind (λo=>match o with|.dn t=>some t|.nx _=>some .none|_=>none)=some u/\Ok (d+2) u:=λaf ao=>by
  rw[vC (by rw[qs,af]),vC (by rw[ID,ao])];obtain⟨u,gq,jC⟩:=pick (d:=d+2) (fs:=[(U (.str "")),(U .none),(aJ [(ar 0)]),(U (.str "zzzzz"))]) (L:=[.str "",.none,.tuple [t],.str "zzzzz"]) (by
   simp only[args,mt,br,c2];rfl) (by simp) CB qv (by simpa using qw) (λu bw=>by
   simp only[bS,d8,or_false] at bw;rcases bw with rfl|rfl|rfl|rfl
   ·exact Gj rr (by decide +kernel)
   ·exact LB
   ·exact (one bP).le (by omega)
   ·exact Gj rr (by decide +kernel))
  refine⟨u,?_,jC⟩
  simp only[aW,gq];rfl
 cases t with
|none=>exact other rfl rfl
|str x=>exact other rfl rfl
|bool b=>cases d <;> simp[Src] at aA
|list b=>cases d <;> simp[Src] at aA
|dict b=>cases d <;> simp[Src] at aA
|int i=>
  have hi:=Lv aA;rw[vC (by rw[qs];rfl),eM (a:=true) (by rw[ID];rfl),if_pos rfl];obtain⟨u,gq,jC⟩:=pick (d:=d+2) (fs:=[(ab bb (nm 0) (U (.int 400))),(bN kM (U (.int 1))),(U (.bool true)),(aJ [(ar 0)])]) (L:=[.int (i+400),.int (-1),.bool true,.tuple [.int i]]) (by
   have lx:ab bb (nm 0) (U (.int 400)) E=some (.int (i+400)):=by rw[bC fo (u:=.int 400) rfl];rfl
   simp only[args,mt,lx,br,c2];rfl) (by simp) CB qv (by simpa using qw) (λu bw=>by
   simp only[bS,d8,or_false] at bw;rcases bw with rfl|rfl|rfl|rfl
   ·exact zc (Int.le_trans (show i+400<=1000000400 by omega) (by decide +kernel))
   ·exact zc (by decide +kernel)
   ·exact abV
   ·exact (one bP).le (by omega))
  refine⟨u,?_,jC⟩
  rw[fE gq];rfl
|tuple ts=>
  cases d with
  |zero=>simp[Src] at aA
  |succ d=>
  have aF:=aA.1;have i7:∀y∈ts,Ok (d+1) y:=λy bl=>s9 (aA.2 y bl);rw[eM (a:=true) (by rw[qs];rfl),if_pos rfl];have tS:aq iL [(nm 0)] E=some (.list ts):=by rw[dm fo];rfl
  have lx:ab bb (nm 0) (aJ [(U (.int 0))]) E=some (.tuple (ts++[.int 0])):=GV fo rfl (by simp;omega);have av:et (nm 0) (opt (U (.int 1))) optN E=some (.tuple (eA ts (some 1) none)):=y3 fo rfl rfl;obtain⟨u,gq,jC⟩:=pick (d:=d+1+2) (fs:=[(aq iL [(nm 0)]),(aq iL [(nm 0)]),(ab bb (nm 0) (aJ [(U (.int 0))])),(et (nm 0) (opt (U (.int 1))) optN)]) (L:=[.list ts,.list ts,.tuple (ts++[.int 0]),.tuple (eA ts (some 1) none)]) (by
   simp only[args,tS,lx,av,br,c2]) (by simp) CB qv (by simpa using qw) (λu bw=>by
   simp only[bS,d8,or_false] at bw;rcases bw with rfl|rfl|rfl|rfl
   ·exact (L7 i7 (by omega)).le (by omega)
   ·exact (L7 i7 (by omega)).le (by omega)
   ·refine (vN (d:=d+1) (λy bl=>?_) (by simp;omega)).le (by omega)
    rcases mW.mp bl with bl|bl
    ·exact i7 y bl
    ·rw[gj.mp bl];exact zc (by decide +kernel)
   ·exact (vN (d:=d+1) (λy bl=>i7 y (F9 bl)) (by have:=kq.wN ts (some 1) none;omega)).le (by omega))
  refine⟨u,?_,jC⟩
  rw[fE gq];rfl
def adm(ws:List Nat):cI 1 (wT ws):=cI.IQ λt aM=>by
 obtain⟨i,_,rfl⟩:=ei.mp aM;exact Mc
theorem LY{g:T->Option T}(aU:∀d t,Src d t->∃u,g t=some u/\Ok (d+2) u):∀(n d:Nat) (t:T) (r:List Nat),Src d t->Path t r->r.length<n->∃u,qI g n t (wT r)=some u/\Ok (d+2) u
|0,_,_,_,_,_,h=>absurd h (Nat.not_lt_zero _)
|n+1,d,t,[],aA,_,_=>by
  obtain⟨u,gq,jC⟩:=aU d t aA;refine⟨u,?_,jC⟩;have c:xy [some (.aa t),some (.aa (wT [])),none,none]=some true:=rfl;unfold qI;rw[c];simp only[br,if_true];exact gq
|n+1,d,t,i::r,aA,aE,a_=>by
  cases t with
  |tuple ts=>
   cases d with
   |zero=>simp[Src] at aA
   |succ d=>
   obtain⟨v,bj,aE⟩:=aE;simp only[gi] at a_;have aF:=aA.1;have hi:i<ts.length:=(e2.mp bj).1;obtain⟨m,em,U9⟩:=LY aU n d v r (aA.2 v (qW bj)) aE (by omega);have i7:∀y∈ts,Ok (d+1) y:=λy bl=>s9 (aA.2 y bl);have c:xy [some (.aa (.tuple ts)),some (.aa (wT (i::r))),none,none]=some false:=by
    refine bH ?_
    rw[bC (t:=wT (i::r)) (u:=.tuple []) rfl rfl];simp only[oEq,(adm (i::r)).dI (by omega),show dI (.tuple [])=true from rfl,Bool.and_self,if_true];rfl
   have aC:D' [some (.aa (.tuple ts)),some (.aa (wT (i::r))),none,none]=some (.int (i:Int)):=by
    show ab ax (nm 1) (U (.int 0)) _=_
    rw[bC (t:=wT (i::r)) (u:=.int 0) rfl rfl];exact fJ
   generalize fH:[some (bW.aa (.tuple ts)),some (.aa (wT (i::r))),none,some (.aa (.int (i:Int)))]=E;have fo:nm 0 E=some (.tuple ts):=by subst fH;rfl
   have dR:nm 1 E=some (wT (i::r)):=by subst fH;rfl
   have qz:nm 3 E=some (.int (i:Int)):=by subst fH;rfl
   have aR:D_ E=some (.tuple (eA ts none (some (i:Int)))):=y3 fo rfl (by simp only[opt,qz];rfl);have en:Eb E=some v:=by
    show ab ax (nm 0) (nm 3) _=_
    rw[bC fo qz];simp only[ax,eH,e'];rw[if_pos (by omega),if_pos (by omega)];exact bj
   have ik:Ea E=some (wT r):=by
    show et (nm 1) (opt (U (.int 1))) optN _=_
    rw[y3 (ts:=(i::r).map λ(j:Nat)=>.int (j:Int)) (a:=some 1) (b:=none) dR rfl rfl,A6];rfl
   have rO:Ec E=some (.tuple (eA ts (some ((i:Int)+1)) none)):=by
    have lx:ab bb (nm 3) (U (.int 1)) E=some (.int ((i:Int)+1)):=by rw[bC qz (u:=.int 1) rfl];rfl
    exact y3 fo (by simp only[opt,lx];rfl) rfl
   have cE:=kq.wN ts none (some (i:Int));have cF:=kq.wN ts (some ((i:Int)+1)) none;refine⟨.tuple (eA ts none (some (i:Int))++[m]++eA ts (some ((i:Int)+1)) none),?_,?_⟩
   ·unfold qI;rw[c];simp only[br,je,if_false];rw[aC];simp only[br,fH];rw[aR,en,ik,rO];simp only[br];rw[em];simp only[br,wh];rw[if_pos (by unfold big;simp;omega)];simp only[br];rw[if_pos (by unfold big;simp;omega)]
   ·refine (vN (d:=d+2) (λy bl=>?_) (by simp;omega)).le (by omega)
    rcases mW.mp bl with bl|bl
    ·rcases mW.mp bl with bl|bl
     ·exact (i7 y (F9 bl)).le (by omega)
     ·rw[gj.mp bl];exact U9
    ·exact (i7 y (F9 bl)).le (by omega)
  |int _=>exact eL aE
  |str _=>exact eL aE
  |none=>exact eL aE
  |bool _=>exact eL aE
  |list _=>exact eL aE
  |dict _=>exact eL aE
def judge(p:cA)(k:Nat)(t:T):Bool:=if k=0 then hM t else if k=1 then gC t else iJ p t
def Lh{p:cA}(aE:mj p){k:Nat}(aV:k<=2){t:T}(h:Ok 6 t):pE [.int (k:Int),bM p,t]=some (.bool (judge p k t)):=by
 unfold pE bE KY;show (seq _ _ [some (.aa (.int (k:Int))),some (.aa (bM p)),some (.aa t)]).bind _=_;have c:∀j:Int,aP (ab oEq (nm 0) (U (.int j))) [some (.aa (.int (k:Int))),some (.aa (bM p)),some (.aa t)]=some (decide ((k:Int)=j)):=λj=>Qr rfl;by_cases h0:k=0
 ·subst h0;rw[eM (c 0),decide_eq_true (by rfl),if_pos rfl,fE (t:=.bool (hM t)) (by rw[dm (t:=t) rfl];exact aa0 (d:=2) h.g (by omega))];rfl
 rw[eM (c 0),decide_eq_false (by omega),if_neg (by simp)];by_cases af:k=1
 ·subst af;rw[eM (c 1),decide_eq_true (by rfl),if_pos rfl,fE (t:=.bool (gC t)) (by rw[dm (t:=t) rfl];exact aah (d:=3) h.g (by omega))];rfl
 rw[eM (c 1),decide_eq_false (by omega),if_neg (by simp)];simp only[aW];rw[h7 (t:=bM p) (u:=t) rfl rfl,aal aE (d:=5) h.g (by omega)];simp only[judge,if_neg h0,if_neg af];rfl
def aaX{p:cA}(aE:mj p){k:Nat}(aV:k<=2){t:T}(h:Ok 6 t):sJ [.int (k:Int),bM p,t]=some (.bool (judge p k t)):=by
 unfold sJ;refine hL ?_;show ab ax (aJ [(aq ov [(ar 2)]),(aq k7.mz [(ar 2)]),(aq ou [(ar 1),(ar 2)])]) (nm 0) [some (.aa (.int (k:Int))),some (.aa (bM p)),some (.aa t)]=_;have aC:aq ov [(ar 2)] [some (.aa (.int (k:Int))),some (.aa (bM p)),some (.aa t)]=some (.bool (hM t)):=by rw[dm (t:=t) rfl];exact _e (d:=2) h.g (by omega) h.w
 have aR:aq k7.mz [(ar 2)] [some (.aa (.int (k:Int))),some (.aa (bM p)),some (.aa t)]=some (.bool (gC t)):=by rw[dm (t:=t) rfl];exact k7.SW (d:=3) h.g (by omega)
 have en:aq ou [(ar 1),(ar 2)] [some (.aa (.int (k:Int))),some (.aa (bM p)),some (.aa t)]=some (.bool (iJ p t)):=by rw[h7 (t:=bM p) (u:=t) rfl rfl];exact Zv aE (d:=5) h.g (by omega) λa i e=>h.c _ e i (by simp)
 have em:aJ [(aq ov [(ar 2)]),(aq k7.mz [(ar 2)]),(aq ou [(ar 1),(ar 2)])] [some (.aa (.int (k:Int))),some (.aa (bM p)),some (.aa t)]=some (.tuple [.bool (hM t),.bool (gC t),.bool (iJ p t)]):=by
  simp only[aJ,args,aC,aR,en,br,c2];rfl
 rw[bC em (u:=.int (k:Int)) rfl]
 match k,aV with
|0,_=>exact fJ
|1,_=>exact gK
|2,_=>exact kG
def tZ:aY:=aq vb [(ar 0),(ab oDiv (aq f3 [(ar 2),(ar 7)]) (U (.int 4)))]
noncomputable def rG:ba:=(seq (asg 8 (xA 10 (ar 5) (ar 7) tZ)) (seq (asg 9 (aq pE [(ar 4),(ar 2),(ar 8)])) (iff (cc (bD (aP (bN (dH "bool") (nm 9)))) (aP (ab eC (nm 9) (aq sJ [(ar 4),(ar 2),(ar 8)])))) (aW (U (.bool false))) skip)))
noncomputable def LE(ns:List Int)(m0:Int)(p:cA)(th:T)(k:Nat)(t:T)(fq dC d3 fW:Option bW):Ev:=[some (.aa (dw ns)),some (.aa (.int m0)),some (.aa (bM p)),some (.aa th),some (.aa (.int (k:Int))),some (.aa t),fq,dC,d3,fW]
theorem inner{ns:List Int}{m0:Int}{p:cA}(aE:mj p){th:T}{k:Nat}(aV:k<=2){d:Nat}{t:T}(aA:Src d t)(hd:d<=4):∀(L:List T) (j:Nat) (fq dC d3 fW:Option bW),(∀w∈L,∃r,w=wT r/\Path t r/\r.length<=d)->j+L.length<=1000000->∃n' oa ob Er,forL (dg [(aX 6),(aX 7)]) rG ((L.zipIdx j).map λq=>.tuple [.int q.2,q.1]) (LE ns m0 p th k t fq dC d3 fW)=some (.nx (LE ns m0 p th k t n' oa ob Er))
| [],j,fq,dC,d3,fW,_,_=>⟨fq,dC,d3,fW,rfl⟩
|w::L,j,fq,dC,d3,fW,h,aF=>by
  simp only[gi] at aF;obtain⟨r,rfl,pr,r7⟩:=h w (by simp);obtain⟨x,hx,ex⟩:=b1.rM m0 (j:Int) (by omega);obtain⟨y,_,hY⟩:=divQ x 4;obtain⟨u,gq,jC⟩:=LY (g:=λq=>tZ (some (.aa q)::LE ns m0 p th k t (some (.aa (.int (j:Int)))) (some (.aa (wT r))) d3 fW)) (λd q a0=>by
   obtain⟨u,gq,jC⟩:=YL y a0;refine⟨u,?_,jC⟩;show tZ _=_;unfold tZ;have aC:aq f3 [(ar 2),(ar 7)] (some (.aa q)::LE ns m0 p th k t (some (.aa (.int (j:Int)))) (some (.aa (wT r))) d3 fW)=some (.int x):=by
    rw[h7 (t:=.int m0) (u:=.int (j:Int)) rfl rfl];exact ex
   rw[h7 (t:=q) (u:=.int y) rfl (PF aC hY)];exact gq) 10 d t r aA pr (by omega)
  have I8:Ok 6 u:=jC.le (by omega);obtain⟨mu,nE,p4,p5,cK⟩:=inner (ns:=ns) (m0:=m0) aE (th:=th) aV aA hd L (j+1) (some (.aa (.int (j:Int)))) (some (.aa (wT r))) (some (.aa u)) (some (.aa (.bool (judge p k u)))) (λw hw=>h w (gz _ hw)) (by omega);refine⟨mu,nE,p4,p5,?_⟩;rw[List.zipIdx_cons,eK,forL,show dg [(aX 6),(aX 7)] (.tuple [.int ((j:Nat):Int),wT r]) (LE ns m0 p th k t fq dC d3 fW)=some (LE ns m0 p th k t (some (.aa (.int (j:Int)))) (some (.aa (wT r))) d3 fW) from rfl,br];have aC:rG (LE ns m0 p th k t (some (.aa (.int (j:Int)))) (some (.aa (wT r))) d3 fW)=some (.nx (LE ns m0 p th k t (some (.aa (.int (j:Int)))) (some (.aa (wT r))) (some (.aa u)) (some (.aa (.bool (judge p k u)))))):=by
   unfold rG;rw[b1.dD (pS (t:=u) gq)];show seq _ _ (LE ns m0 p th k t (some (.aa (.int (j:Int)))) (some (.aa (wT r))) (some (.aa u)) fW)=_;rw[b1.dD (pS (t:=.bool (judge p k u)) (by rw[lS (t:=.int (k:Int)) (u:=bM p) (v:=u) rfl rfl rfl];exact Lh aE aV I8))];show iff _ _ _ (LE ns m0 p th k t (some (.aa (.int (j:Int)))) (some (.aa (wT r))) (some (.aa u)) (some (.aa (.bool (judge p k u)))))=_;rw[vU (U' (cx (a:=true) (bH rfl)) (ne_self (d:=0) (t:=.bool (judge p k u)) rfl (by rw[lS (t:=.int (k:Int)) (u:=bM p) (v:=u) rfl rfl rfl];exact aaX aE aV I8) LK)),if_neg (by simp)]
  rw[aC,br];exact cK
noncomputable def kx:ba:=(seq (iff (aP (ab rg (aq pE [(ar 4),(ar 2),(ar 5)]) (U (.bool true)))) (aW (U (.bool false))) skip) (c1 (fM (dT (aq (l4 20) [(ar 5),(aJ [])]))) (dg [(aX 6),(aX 7)]) rG))
def Gh{ns:List Int}{m0:Int}{p:cA}(aE:mj p){th:T}{k:Nat}(aV:k<=2){d:Nat}{t:T}(aA:Src d t)(hd:d<=4)(aM:judge p k t=true)(fq dC d3 fW:Option bW):∃n' oa ob Er,kx (LE ns m0 p th k t fq dC d3 fW)=some (.nx (LE ns m0 p th k t n' oa ob Er)):=by
 have U7:Ok 6 t:=(s9 aA).le (by omega);obtain⟨L,Qp,lL,eg⟩:=places 20 d t [] aA (by omega) hd (by simp;omega);have mw:=Mf hd;obtain⟨mu,nE,p4,p5,e⟩:=inner (ns:=ns) (m0:=m0) aE (th:=th) aV aA hd L 0 fq dC d3 fW (λw hw=>by simpa using eg w hw) (by omega);refine⟨mu,nE,p4,p5,?_⟩;unfold kx;rw[vC (bH (a:=false) (by
  rw[bC (t:=.bool true) (u:=.bool true) (by rw[lS (t:=.int (k:Int)) (u:=bM p) (v:=t) rfl rfl rfl,Lh aE aV U7,aM]) rfl];rfl))]
 unfold c1;have it:fM (dT (aq (l4 20) [(ar 5),(aJ [])])) (LE ns m0 p th k t fq dC d3 fW)=some ((L.zipIdx 0).map λq=>.tuple [.int q.2,q.1]):=by
  have:aq (l4 20) [(ar 5),(aJ [])] (LE ns m0 p th k t fq dC d3 fW)=some (.list L):=by
   rw[h7 (t:=t) (u:=wT []) rfl rfl];exact Qp
  simp only[fM,dT,this,br,c2];rfl
 rw[it];exact e
def abe(ns:List Int)(h:ns.length<=63):pR [dw ns]=some (.bool true):=by
 obtain⟨m0,aeg,x0⟩:=b1.uE ns 0;obtain⟨h6,Ij,a3⟩:=b1.uE ns 1;obtain⟨i_,qk,cu⟩:=b1.uE ns 2;obtain⟨lN,Ik,dX⟩:=b1.uE ns 3;obtain⟨p,aE,X8⟩:=b1.Vb h6;obtain⟨R,os,Qk,X7⟩:=dO.aeP i_ (by omega);obtain⟨e,he,dv⟩:=b1.Qv aE lN;have bj:=adK aE;have Co:=acL bj;have nT:=ab9 he;have b':=adX Qk;have We:=aaS aE bj;have Wc:=_C bj nT (tA.tick he);have Wd:=k7.W7 b';unfold pR bE tu;show (seq _ _ [some (.aa (dw ns)),none,none,none,none,none,none,none,none,none]).bind _=_;have S:∀(j m:Int) (r:Ev),fw [dw ns,.int j]=some (.int m)->aq fw [(ar 0),(U (.int j))] (some (.aa (dw ns))::r)=some (.int m):=λj m r e=>by
  rw[h7 (t:=dw ns) (u:=.int j) rfl rfl];exact e
 rw[b1.dD (pS (S 0 m0 _ x0))];simp only[oq,oo];rw[b1.dD (pS (t:=bM p) (by rw[dm (S 1 h6 _ a3),X8]))];simp only[oq,oo];rw[b1.dD (pS (t:=.tuple [bM p,dO.eI R os,eZ e]) (by
  have a1:aq my [(aq fw [(ar 0),(U (.int 2))])] [some (.aa (dw ns)),some (.aa (.int m0)),some (.aa (bM p)),none,none,none,none,none,none,none]=some (dO.eI R os):=by rw[dm (S 2 i_ _ cu),_i,X7]
  have a2:aq q' [(ar 2),(aq fw [(ar 0),(U (.int 3))])] [some (.aa (dw ns)),some (.aa (.int m0)),some (.aa (bM p)),none,none,none,none,none,none,none]=some (eZ e):=by rw[h7 (t:=bM p) rfl (S 3 lN _ dX),dv]
  simp only[aJ,args,a1,a2,br,c2];rfl))]
 simp only[oq,oo];obtain⟨iV,p6,An,Ao,aC⟩:=Gh (ns:=ns) (m0:=m0) Co.ok (th:=.tuple [bM p,dO.eI R os,eZ e]) (k:=0) (by omega) We (by omega) (by simp only[judge,if_true];exact aa1 bj) none none none none;obtain⟨mx,p9,p_,p',aR⟩:=Gh (ns:=ns) (m0:=m0) Co.ok (th:=.tuple [bM p,dO.eI R os,eZ e]) (k:=1) (by omega) Wd (by omega) (by simp only[judge];exact aai b') iV p6 An Ao;obtain⟨PB,PC,PD,PE,en⟩:=Gh (ns:=ns) (m0:=m0) Co.ok (th:=.tuple [bM p,dO.eI R os,eZ e]) (k:=2) (by omega) Wc (by omega) (by simp only[judge];exact aam nT) mx p9 p_ p';have st:c1 (fM (hN (ar 3))) (dg [(aX 4),(aX 5)]) kx [some (.aa (dw ns)),some (.aa (.int m0)),some (.aa (bM p)),some (.aa (.tuple [bM p,dO.eI R os,eZ e])),none,none,none,none,none,none]=some (.nx (LE ns m0 p (.tuple [bM p,dO.eI R os,eZ e]) 2 (eZ e) PB PC PD PE)):=by
  unfold c1;rw[show fM (hN (ar 3)) [some (.aa (dw ns)),some (.aa (.int m0)),some (.aa (bM p)),some (.aa (.tuple [bM p,dO.eI R os,eZ e])),none,none,none,none,none,none]=some [.tuple [.int 0,bM p],.tuple [.int 1,dO.eI R os],.tuple [.int 2,eZ e]] from rfl];simp only[br];rw[forL,show dg [(aX 4),(aX 5)] (.tuple [.int 0,bM p]) [some (.aa (dw ns)),some (.aa (.int m0)),some (.aa (bM p)),some (.aa (.tuple [bM p,dO.eI R os,eZ e])),none,none,none,none,none,none]=some (LE ns m0 p (.tuple [bM p,dO.eI R os,eZ e]) 0 (bM p) none none none none) from rfl,br,aC,br];show forL _ _ _ _=_;rw[forL,show dg [(aX 4),(aX 5)] (.tuple [.int 1,dO.eI R os]) (LE ns m0 p (.tuple [bM p,dO.eI R os,eZ e]) 0 (bM p) iV p6 An Ao)=some (LE ns m0 p (.tuple [bM p,dO.eI R os,eZ e]) 1 (dO.eI R os) iV p6 An Ao) from rfl,br,aR,br];show forL _ _ _ _=_;rw[forL,show dg [(aX 4),(aX 5)] (.tuple [.int 2,eZ e]) (LE ns m0 p (.tuple [bM p,dO.eI R os,eZ e]) 1 (dO.eI R os) mx p9 p_ p')=some (LE ns m0 p (.tuple [bM p,dO.eI R os,eZ e]) 2 (eZ e) mx p9 p_ p') from rfl,br,en,br];rfl
 unfold kx rG tZ at st;rw[b1.dD st];rfl
end nt
end
end
section
namespace nt
open PySem PySem.Spec PyProof.Rows bu D b1 dq kq k7
set_option hygiene false in
local macro_rules | `(unop% lk ($f, $gc, $gx, $n, $q, $s, $a, $b, $c, $d, $e, $g, $h)) => `(K.lookup $f = some ⟨$gc, $gx, .func (j_ $n $q (l7 $s) (hb $s) (bJ $s) .none $a $b $c $d $e $g), $h⟩)
set_option hygiene false in
local macro_rules | `(binop% cd $c $q) => `(qU K $c $q = true)
set_option hygiene false in
local macro_rules | `(unop% aK $c) => `(oi K (.ref $c) = true)
set_option hygiene false in
local macro_rules | `(unop% fi $c) => `(PySem.W.isFn K (.ref $c) = true)
set_option hygiene false in
local macro_rules | `(binop% ns $q $c) => `(PySem.W.nsIn K h9 $q = some (some (.ref $c)))
set_option hygiene false in
local macro_rules | `(unop% zn $q) => `(PySem.W.nsIn K h9 $q = some none)
set_option hygiene false in
local macro_rules | `(unop% fn ($C, $q, $c)) => `(PySem.W.findIn K (.ref $C) $q = some (some (.ref $c)))
set_option hygiene false in
local macro_rules | `(binop% w9 $C $q) => `(PySem.W.findIn K (.ref $C) $q = some none)
local macro_rules | `(unop% mo $x) => `(($x).mono (by decide))
set_option hygiene false in
local macro_rules | `(unop% cG ($f $n $as*)) => `($f (P := l.prog) (w := w) (mg := mg) (base := base) (k := $n) $as*)
def all_mk{l:PySem.W.OpenLaw}{w:bY}{K:bc}{h:bk}{mg:Str->Option aj}{bZ f1 f2 e9 f4 e_ BO BP f8 BQ Bi Bj Bk Bl Bm Bn Bo Bp Bq Br Bs Bt Bu Bv Bw Bx By Bz BA BB BC BD BE BF BG BH BI BJ BK BL BM BN rD rA rB rC rE nH:ai}{Uj N9 Uu Oi UG Oy UR OJ UU OL UW OM UX ON UY OO UZ OP Uk N_ Ul N' Um Oa Un Ob Uo Oc Up Od Uq Oe Ur Of Us Og Ut Oh Uv Oj Uw Ol Ux Om Uy Oo Uz Oq UA Ot UB Ou UC Ov UD aeO UE Ox UH Oz UI OA UJ OB UK OC UL OD UM OE UN OF UO OG UP OH UQ OI US OK UT GX U3 U0 U1 U2 U4:Option ai}{Wi jH WE WR WU WV WW WX WY Wj Wk Wl Wm Wn Wo Wq Wr Ws Wt Wu Wv Ww Wx Wy Wz WA WB WC WD WG WH WI WJ WK WL WM WN WO WQ WS WT W3 WZ W0 W2 W4:Array (Option aj)}{Tx R' PG Vc G0 OW TM Sl PS Vn G' O7 TZ Sx P4 Vy Hk Pg T' SK Qd VJ Hv Pt Uc SN Qf VL Hx Pw Ud SO Qg VM Hy Px Ue SP Qh VN Hz Py Ug SQ Qi VO HA Pz Uh SR Qj VP HB PA Tz Sa PH Vd G1 OX TA Sb PI Ve G2 OY TB Sd PJ Vf G3 OZ TC Se PK Vg G4 O0 TF Sf PL Vh G5 O1 TG Sg PM Vi G6 O2 TH Sh PN Vj G7 O3 TJ Si PO Vk G8 O4 TK Sj PQ Vl G9 O5 TL Sk PR Vm G_ O6 TN Sm PT Vo Ha O8 TO Sn PU Vp Hb O9 TP So PV Vq Hc O_ TQ Sp PW Vr Hd O' TR Sq PX Vs He Pa TS Sr PY Vt Hf Pb TU Ss PZ Vu Hg Pc TV Su P0 Vv Hh Pd TX Sv P1 Vw Hi Pe TY Sw P2 Vx Hj Pf T1 Sy P5 Vz Hl Ph T2 Sz P6 VA Hm Pj T3 SA P7 VB Hn Pk T4 SD P8 VC Ho Pl T5 SE P9 VD Hp Pm T6 SF P_ VE Hq Pn T7 SG P' VF Hr Po T8 SH Qa VG Hs Pp T9 SI Qb VH Ht Pq T_ SJ Qc VI Hu Pr Ua SM Qe VK Hw Pu Ub II HG I' HF:aj}{XF XG XH Xu Xv Xx Xy XA XB XC XD XJ XK XM EC:Tok}{Td Ta Tb Tc Te:Nat}(X:K.In h)(G:h.Ns h9 mg)(Q_:mg "law"=some (.ref bZ))(a1:binop%ns "_law_cell_at" f1)(cE:unop%lk (f1,Tx,Uj,"_law_cell_at","_law_cell_at",yq,R',PG,Vc,N9,G0,OW,Wi))(dc:binop%cd G0 "_law_cell_at")(eh:unop%aK f1)(a2:binop%ns "_law_mixed" f2)(cF:unop%lk (f2,TM,Uu,"_law_mixed","_law_mixed",yK,Sl,PS,Vn,Oi,G',O7,jH))(eO:binop%cd G' "_law_mixed")(cU:unop%aK f2)(iT:binop%ns "_law_drawn" e9)(jA:unop%lk (e9,TZ,UG,"_law_drawn","_law_drawn",yO,Sx,P4,Vy,Oy,Hk,Pg,WE))(iW:binop%cd Hk "_law_drawn")(gM:unop%aK e9)(nC:binop%ns "_law_plan" f4)(DN:unop%lk (f4,T',UR,"_law_plan","_law_plan",vx,SK,Qd,VJ,OJ,Hv,Pt,WR))(mw:binop%cd Hv "_law_plan")(h5:unop%aK f4)(nD:binop%ns "_law_house" e_)(DP:unop%lk (e_,Uc,UU,"_law_house","_law_house",yL,SN,Qf,VL,OL,Hx,Pw,WU))(A1:binop%cd Hx "_law_house")(uB:unop%aK e_)(mu:binop%ns "_law_event" BO)(DQ:unop%lk (BO,Ud,UW,"_law_event","_law_event",yN,SO,Qg,VM,OM,Hy,Px,WV))(mx:binop%cd Hy "_law_event")(xm:unop%aK BO)(nE:binop%ns "is_tuple" BP)(DR:unop%lk (BP,Ue,UX,"is_tuple","is_tuple",yA,SP,Qh,VN,ON,Hz,Py,WW))(p9:binop%cd Hz "is_tuple")(Dc:unop%aK BP)(p4:binop%ns "has_zone" f8)(DS:unop%lk (f8,Ug,UY,"has_zone","has_zone",vm,SQ,Qi,VO,OO,HA,Pz,WX))(p_:binop%cd HA "has_zone")(Dd:unop%aK f8)(p5:binop%ns "is_line_event" BQ)(DT:unop%lk (BQ,Uh,UZ,"is_line_event","is_line_event",yg,SR,Qj,VP,OP,HB,PA,WY))(p':binop%cd HB "is_line_event")(De:unop%aK BQ)(zR:binop%ns "is_text" Bi)(Di:unop%lk (Bi,Tz,Uk,"is_text","is_text",vq,Sa,PH,Vd,N_,G1,OX,Wj))(Au:binop%cd G1 "is_text")(CI:unop%aK Bi)(zS:binop%ns "is_figures" Bj)(Dj:unop%lk (Bj,TA,Ul,"is_figures","is_figures",yn,Sb,PI,Ve,N',G2,OY,Wk))(Av:binop%cd G2 "is_figures")(CJ:unop%aK Bj)(zT:binop%ns "is_code_event" Bk)(Dk:unop%lk (Bk,TB,Um,"is_code_event","is_code_event",yh,Sd,PJ,Vf,Oa,G3,OZ,Wl))(Aw:binop%cd G3 "is_code_event")(CK:unop%aK Bk)(zU:binop%ns "is_whole" Bl)(Dl:unop%lk (Bl,TC,Un,"is_whole","is_whole",yz,Se,PK,Vg,Ob,G4,O0,Wm))(Ax:binop%cd G4 "is_whole")(CL:unop%aK Bl)(zV:binop%ns "is_ticks_event" Bm)(Dm:unop%lk (Bm,TF,Uo,"is_ticks_event","is_ticks_event",ye,Sf,PL,Vh,Oc,G5,O1,Wn))(Ay:binop%cd G5 "is_ticks_event")(CM:unop%aK Bm)(zW:binop%ns "is_event" Bn)(Dn:unop%lk (Bn,TG,Up,"is_event","is_event",yB,Sg,PM,Vi,Od,G6,O2,Wo))(Az:binop%cd G6 "is_event")(CN:unop%aK Bn)(zX:binop%ns "rises" Bo)(Dp:unop%lk (Bo,TH,Uq,"rises","rises",vD,Sh,PN,Vj,Oe,G7,O3,Wq))(AA:binop%cd G7 "rises")(CO:unop%aK Bo)(zY:binop%ns "is_name" Bp)(Dq:unop%lk (Bp,TJ,Ur,"is_name","is_name",yR,Si,PO,Vk,Of,G8,O4,Wr))(AB:binop%cd G8 "is_name")(CP:unop%aK Bp)(zZ:binop%ns "is_zone" Bq)(Dr:unop%lk (Bq,TK,Us,"is_zone","is_zone",yP,Sj,PQ,Vl,Og,G9,O5,Ws))(AD:binop%cd G9 "is_zone")(CQ:unop%aK Bq)(z0:binop%ns "are_zones" Br)(Ds:unop%lk (Br,TL,Ut,"are_zones","are_zones",sz,Sk,PR,Vm,Oh,G_,O6,Wt))(AE:binop%cd G_ "are_zones")(CR:unop%aK Br)(z1:binop%ns "are_rights" Bs)(Dt:unop%lk (Bs,TN,Uv,"are_rights","are_rights",vd,Sm,PT,Vo,Oj,Ha,O8,Wu))(AF:binop%cd Ha "are_rights")(CS:unop%aK Bs)(z2:binop%ns "is_within" Bt)(Du:unop%lk (Bt,TO,Uw,"is_within","is_within",yr,Sn,PU,Vp,Ol,Hb,O9,Wv))(AG:binop%cd Hb "is_within")(CT:unop%aK Bt)(z3:binop%ns "is_code" Bu)(Dv:unop%lk (Bu,TP,Ux,"is_code","is_code",yS,So,PV,Vq,Om,Hc,O_,Ww))(AH:binop%cd Hc "is_code")(CU:unop%aK Bu)(z4:binop%ns "are_codes" Bv)(Dw:unop%lk (Bv,TQ,Uy,"are_codes","are_codes",sA,Sp,PW,Vr,Oo,Hd,O',Wx))(AI:binop%cd Hd "are_codes")(CV:unop%aK Bv)(z5:binop%ns "are_times" Bw)(Dx:unop%lk (Bw,TR,Uz,"are_times","are_times",yt,Sq,PX,Vs,Oq,He,Pa,Wy))(AJ:binop%cd He "are_times")(CW:unop%aK Bw)(z6:binop%ns "is_plan" Bx)(Dy:unop%lk (Bx,TS,UA,"is_plan","is_plan",yQ,Sr,PY,Vt,Ot,Hf,Pb,Wz))(AK:binop%cd Hf "is_plan")(CX:unop%aK Bx)(z7:binop%ns "is_opening" By)(Dz:unop%lk (By,TU,UB,"is_opening","is_opening",ym,Ss,PZ,Vu,Ou,Hg,Pc,WA))(AL:binop%cd Hg "is_opening")(CY:unop%aK By)(z8:binop%ns "is_house" Bz)(DA:unop%lk (Bz,TV,UC,"is_house","is_house",vl,Su,P0,Vv,Ov,Hh,Pd,WB))(AM:binop%cd Hh "is_house")(CZ:unop%aK Bz)(z9:binop%ns "_law_found" BA)(DB:unop%lk (BA,TX,UD,"_law_found","_law_found",yM,Sv,P1,Vw,aeO,Hi,Pe,WC))(AN:binop%cd Hi "_law_found")(C0:unop%aK BA)(z_:binop%ns "_law_places_in" BB)(DC:unop%lk (BB,TY,UE,"_law_places_in","_law_places_in",sx,Sw,P2,Vx,Ox,Hj,Pf,WD))(AO:binop%cd Hj "_law_places_in")(C1:unop%aK BB)(z':binop%ns "_law_put_at" BC)(DD:unop%lk (BC,T1,UH,"_law_put_at","_law_put_at",ox,Sy,P5,Vz,Oz,Hl,Ph,WG))(AP:binop%cd Hl "_law_put_at")(C2:unop%aK BC)(Aa:binop%ns "_law_otherwise" BD)(DE:unop%lk (BD,T2,UI,"_law_otherwise","_law_otherwise",yj,Sz,P6,VA,OA,Hm,Pj,WH))(AQ:binop%cd Hm "_law_otherwise")(C3:unop%aK BD)(Ab:binop%ns "_law_number" BE)(DF:unop%lk (BE,T3,UJ,"_law_number","_law_number",yy,SA,P7,VB,OB,Hn,Pk,WI))(AR:binop%cd Hn "_law_number")(C4:unop%aK BE)(Ac:binop%ns "_law_tuple" BF)(DG:unop%lk (BF,T4,UK,"_law_tuple","_law_tuple",yI,SD,P8,VC,OC,Ho,Pl,WJ))(AS:binop%cd Ho "_law_tuple")(C5:unop%aK BF)(Ad:binop%ns "_law_one_of" BG)(DH:unop%lk (BG,T5,UL,"_law_one_of","_law_one_of",yx,SE,P9,VD,OD,Hp,Pm,WK))(AU:binop%cd Hp "_law_one_of")(C6:unop%aK BG)(Ae:binop%ns "_law_word" BH)(DI:unop%lk (BH,T6,UM,"_law_word","_law_word",vw,SF,P_,VE,OE,Hq,Pn,WL))(AV:binop%cd Hq "_law_word")(C7:unop%aK BH)(Af:binop%ns "_law_figures" BI)(DJ:unop%lk (BI,T7,UN,"_law_figures","_law_figures",vg,SG,P',VF,OF,Hr,Po,WM))(AW:binop%cd Hr "_law_figures")(C8:unop%aK BI)(Ag:binop%ns "_law_is_plan" BJ)(DK:unop%lk (BJ,T8,UO,"_law_is_plan","_law_is_plan",q7,SH,Qa,VG,OG,Hs,Pp,WN))(AX:binop%cd Hs "_law_is_plan")(C9:unop%aK BJ)(Ah:binop%ns "_law_is_house" BK)(DL:unop%lk (BK,T9,UP,"_law_is_house","_law_is_house",yl,SI,Qb,VH,OH,Ht,Pq,WO))(AY:binop%cd Ht "_law_is_house")(C_:unop%aK BK)(Ai:binop%ns "_law_is_event" BL)(DM:unop%lk (BL,T_,UQ,"_law_is_event","_law_is_event",vc,SJ,Qc,VI,OI,Hu,Pr,WQ))(AZ:binop%cd Hu "_law_is_event")(C':unop%aK BL)(Aj:binop%ns "_law_right" BM)(DO:unop%lk (BM,Ua,US,"_law_right","_law_right",yJ,SM,Qe,VK,OK,Hw,Pu,WS))(A0:binop%cd Hw "_law_right")(qv:unop%aK BM)(Ak:binop%ns "law" BN)(xn:K.lookup BN=some ⟨Ub,UT,.func (j_ "law" "law" (l7 jQ) (hb jQ) (bJ jQ) .none II HG I' GX (.ref nH) HF),WT⟩)(wL:qU K (.ref nH) "law"=true)(qw:unop%aK BN)(d4:unop%zn "len")(hO:unop%zn "enumerate")(ey:unop%zn "tuple")(m_:unop%zn "range")(rk:unop%zn "min")(rj:unop%zn "max")(cT:unop%zn "isinstance")(gn:unop%zn "all")(hn:unop%zn "str")(kk:unop%zn "int")(kj:unop%zn "bool")(rl:unop%zn "zip")(ma:unop%zn "list")(pN:unop%zn "sorted")(pM:unop%zn "set")(t6:binop%ns "LINES" rD)(Eh:K.lookup rD=some ⟨.type "tuple",U3,.seq #[.str "shut" XF,.str "open" XG,.str "cut" XH] Td,W3⟩)(t2:binop%ns "DEEDS_ALONE" rA)(Ee:K.lookup rA=some ⟨.type "tuple",U0,.seq #[.str "set" Xu,.str "unset" Xv] Ta,WZ⟩)(t4:binop%ns "DEEDS_OF_ZONES" rB)(Ef:K.lookup rB=some ⟨.type "tuple",U1,.seq #[.str "shunt" Xx,.str "free" Xy] Tb,W0⟩)(t5:binop%ns "KINDS" rC)(Eg:K.lookup rC=some ⟨.type "tuple",U2,.seq #[.str "day" XA,.str "inner" XB,.str "once" XC,.str "way" XD] Tc,W2⟩)(t7:binop%ns "RIGHTS" rE)(Ei:K.lookup rE=some ⟨.type "tuple",U4,.seq #[.str "set" XJ,.str "shunt" XK,.str "unset" XM] Te,W4⟩)(qf:PySem.W.nsIn K h9 "OUTSIDE"=some (some (.int 0 EC)))(t9:q2 K nH 277=true):
  ∃fd:e1,(∀(s:aG) (v:aj),BindsTo s fd ⟨[v],[]⟩ [("_law_script",v)])/\∀base:bk,K.In base->base.Ns h9 mg->mc mg base->fP l.prog w K mg base d9 32 bZ fd ["_law_script"] (@spT (lX [(277,(("law":Str)++".<locals>.")++"<lambda>")]) K 1 pR):=by
 have e:=Q_.symm.trans (dj X G Ak);cases e;refine⟨j_ "law" "law" (l7 jQ) (hb jQ) (bJ jQ) .none II HG I' GX (.ref nH) HF,λs v=>.of_eq rfl,λbase _ _ lH=>?_⟩;letI tt:bX:=⟨[(277,(("law":Str)++".<locals>.")++"<lambda>")],λc=>match c with  | _=>[],λc=>match c with  | _=>none⟩;replace d4:=jd X G d4;replace hO:=jd X G hO;replace ey:=jd X G ey;replace m_:=jd X G m_;replace rk:=jd X G rk;replace rj:=jd X G rj;replace cT:=jd X G cT;replace gn:=jd X G gn;replace hn:=jd X G hn;replace kk:=jd X G kk;replace kj:=jd X G kj;replace rl:=jd X G rl;replace ma:=jd X G ma;replace pN:=jd X G pN;replace pM:=jd X G pM;replace t6:=dj X G t6;have XS:∃(o:Obj) (its:Array aj) (n:Nat),K.lookup rD=some o/\o.cls=.type "tuple"/\o.data=.seq its n/\its.size<=cV/\Vals ((["shut","open","cut"]:List Str).map V.str) its.toList:=⟨_,_,_,Eh,rfl,rfl,by show 3<=cV;decide,(.cons ⟨_,rfl⟩ (.cons ⟨_,rfl⟩ (.cons ⟨_,rfl⟩ .nil)))⟩;replace t2:=dj X G t2;have XP:∃(o:Obj) (its:Array aj) (n:Nat),K.lookup rA=some o/\o.cls=.type "tuple"/\o.data=.seq its n/\its.size<=cV/\Vals ((["set","unset"]:List Str).map V.str) its.toList:=⟨_,_,_,Ee,rfl,rfl,by show 2<=cV;decide,(.cons ⟨_,rfl⟩ (.cons ⟨_,rfl⟩ .nil))⟩;replace t4:=dj X G t4;have XQ:∃(o:Obj) (its:Array aj) (n:Nat),K.lookup rB=some o/\o.cls=.type "tuple"/\o.data=.seq its n/\its.size<=cV/\Vals ((["shunt","free"]:List Str).map V.str) its.toList:=⟨_,_,_,Ef,rfl,rfl,by show 2<=cV;decide,(.cons ⟨_,rfl⟩ (.cons ⟨_,rfl⟩ .nil))⟩;replace t5:=dj X G t5;have XR:∃(o:Obj) (its:Array aj) (n:Nat),K.lookup rC=some o/\o.cls=.type "tuple"/\o.data=.seq its n/\its.size<=cV/\Vals ((["day","inner","once","way"]:List Str).map V.str) its.toList:=⟨_,_,_,Eg,rfl,rfl,by show 4<=cV;decide,(.cons ⟨_,rfl⟩ (.cons ⟨_,rfl⟩ (.cons ⟨_,rfl⟩ (.cons ⟨_,rfl⟩ .nil))))⟩;replace t7:=dj X G t7;have XT:∃(o:Obj) (its:Array aj) (n:Nat),K.lookup rE=some o/\o.cls=.type "tuple"/\o.data=.seq its n/\its.size<=cV/\Vals ((["set","shunt","unset"]:List Str).map V.str) its.toList:=⟨_,_,_,Ei,rfl,rfl,by show 3<=cV;decide,(.cons ⟨_,rfl⟩ (.cons ⟨_,rfl⟩ (.cons ⟨_,rfl⟩ .nil)))⟩;replace qf:=dj X G qf;have a6:=dM (st:=yq) cE dc eh;have MZ:=unop%cG (E7 0 a6 (dj X G a1) d4);have d0:=dM (st:=yK) cF eO cU;have M7:=unop%cG (sO 1 d0 (dj X G a2) (unop%mo MZ));have ho:=dM (st:=yO) jA iW gM;have zx:=unop%cG (oA 0 ho (dj X G iT));have ih:=dM (st:=vx) DN mw h5;have M_:=unop%cG (FP 1 ih (dj X G nC) hO (unop%mo zx) ey m_);have iO:=dM (st:=yL) DP A1 uB;have M3:=unop%cG (FA 1 iO (dj X G nD) m_ (unop%mo zx) rk rj);have zB:=dM (st:=yN) DQ mx xm;have M0:=unop%cG (FC 0 zB (dj X G mu) d4);have nk:=dM (st:=yA) DR p9 Dc;have ko:=unop%cG (fv 0 nk (dj X G nE) cT ey d4);have k4:=dM (st:=vm) DS p_ Dd;have GB:=unop%cG (vo 0 k4 (dj X G p4));have GK:=dM (st:=yg) DT p' De;have MU:=unop%cG (ES 1 GK (dj X G p5) (unop%mo ko) (unop%mo GB) t6 XS);have Nd:=dM (st:=vq) Di Au CI;have GD:=unop%cG (vu 0 Nd (dj X G zR) gn cT d4 hn);have Nf:=dM (st:=yn) Dj Av CJ;have GC:=unop%cG (vf 1 Nf (dj X G zS) (unop%mo GD));have Ng:=dM (st:=yh) Dk Aw CK;have MR:=unop%cG (ET 2 Ng (dj X G zT) (unop%mo GB) (unop%mo ko) (unop%mo GC) t2 XP t4 XQ);have Nh:=dM (st:=yz) Dl Ax CL;have GF:=unop%cG (vn 0 Nh (dj X G zU) cT kk kj)
 have Ni:=dM (st:=ye) Dm Ay CM;have MX:=unop%cG (EP 1 Ni (dj X G zV) (unop%mo ko) (unop%mo GF));have Nj:=dM (st:=yB) Dn Az CN;have MS:=unop%cG (Fh 3 Nj (dj X G zW) (unop%mo MU) (unop%mo MR) (unop%mo MX));have Nk:=dM (st:=vD) Dp AA CO;have zz:=unop%cG (rf 0 Nk (dj X G zX) gn rl);have Nl:=dM (st:=yR) Dq AB CP;have zw:=unop%cG (ra 1 Nl (dj X G zY) (unop%mo GD));have Nm:=dM (st:=yP) Dr AD CQ;have MY:=unop%cG (FD 2 Nm (dj X G zZ) (unop%mo ko) (unop%mo zw) t5 XR);have Nn:=dM (st:=sz) Ds AE CR;have MP:=unop%cG (E8 3 Nn (dj X G z0) (unop%mo zz) (unop%mo ko) gn (unop%mo MY));have Np:=dM (st:=vd) Dt AF CS;have MN:=unop%cG (E5 1 Np (dj X G z1) (unop%mo ko) gn (unop%mo zz) t7 XT);have Nq:=dM (st:=yr) Du AG CT;have wt:=unop%cG (k0 1 Nq (dj X G z2) (unop%mo GF));have Nr:=dM (st:=yS) Dv AH CU;have MQ:=unop%cG (FF 2 Nr (dj X G z3) (unop%mo ko) (unop%mo GC) (unop%mo zw) (unop%mo MN) (unop%mo wt));have Nt:=dM (st:=sA) Dw AI CV;have MM:=unop%cG (E_ 3 Nt (dj X G z4) (unop%mo zz) (unop%mo ko) gn (unop%mo MQ));have Nu:=dM (st:=yt) Dx AJ CW;have MO:=unop%cG (E9 2 Nu (dj X G z5) (unop%mo ko) (unop%mo wt));have Nv:=dM (st:=yQ) Dy AK CX;have MW:=unop%cG (FE 4 Nv (dj X G z6) (unop%mo ko) (unop%mo MP) (unop%mo MM) (unop%mo MO));have Nw:=dM (st:=ym) Dz AL CY;have MV:=unop%cG (E4 2 Nw (dj X G z7) (unop%mo wt) (unop%mo ko) (unop%mo zw) qf);have Nx:=dM (st:=vl) DA AM CZ;have MT:=unop%cG (Fg 3 Nx (dj X G z8) gn (unop%mo ko) (unop%mo wt) (unop%mo MV));have Ny:=dM (st:=yM) DB AN C0;have M1:=unop%cG (yX 5 Ny (dj X G z9) (unop%mo MS) (unop%mo MW) (unop%mo MT));have Nz:=dM (st:=sx) DC AO C1;have M9:=unop%cG (sy 0 Nz (dj X G z_) cT ey hO 20);have NA:=dM (st:=ox) DD AP C2;have NB:=dM (st:=yj) DE AQ C3;have M8:=unop%cG (EZ 0 NB (dj X G Aa) cT ey ma kk);have NC:=dM (st:=yy) DF AR C4;have zy:=unop%cG (k1 0 NC (dj X G Ab) cT kk kj);have ND:=dM (st:=yI) DG AS C5;have GI:=unop%cG (oz 0 ND (dj X G Ac) cT ey d4);have NF:=dM (st:=yx) DH AU C6;have GH:=unop%cG (m7 0 NF (dj X G Ad) cT hn);have NG:=dM (st:=vw) DI AV C7;have GJ:=unop%cG (sU 0 NG (dj X G Ae) cT d4 hn);have NH:=dM (st:=vg) DJ AW C8;have GG:=unop%cG (vk 0 NH (dj X G Af) cT d4 hn);have NI:=dM (st:=q7) DK AX C9;have M6:=unop%cG (E6 1 NI (dj X G Ag) (unop%mo zy) (unop%mo GI) cT ey (unop%mo GH) ma pN d4 (unop%mo GJ) (unop%mo GG) pM);have NJ:=dM (st:=yl) DL AY C_;have M5:=unop%cG (E2 1 NJ (dj X G Ah) (unop%mo GI) (unop%mo zy) cT ey d4 (unop%mo GJ));have NK:=dM (st:=vc) DM AZ C';have M4:=unop%cG (E3 1 NK (dj X G Ai) (unop%mo GH) cT ey (unop%mo zy) d4 (unop%mo GG) hn);have NL:=dM (st:=yJ) DO A0 qv;have M':=unop%cG (Fz 2 NL (dj X G Aj) (unop%mo M6) (unop%mo M5) (unop%mo M4));have ad8:=dM (st:=jQ) xn wL qw;exact ab8 rfl (adZ (k:=20) xn wL t9 lH rfl (unop%mo M7) (unop%mo M_) hO (unop%mo M3) (unop%mo M0) (unop%mo M1) (unop%mo M9) NA (dj X G z') (unop%mo M8) cT (unop%mo M') (unop%mo zx) kj)
def walk{l:PySem.W.OpenLaw}{q:cH}{loose:List Str}{rz:(Str->Option aj)->bk->Prop}{mr:bY->bk->Prop}{d:DefRec}{K:Params->bc}(a_:l.most=some 63)(ug:d.params.defaults=[])(eg:∀w:bY,IZ (K w.params)=true)(B1:∀(w:bY) (h:bk),mr w h->(K w.params).In h)(dQ:∀(w:bY) (h:bk),mr w h->∀b∈[277],h.get? b=some (PySem.W.tabObj #[]))(ua:∀w:bY,(([277]:List Nat).all λb=>((K w.params).lookup b).isNone)=true)(eB:∀w:bY,(([277]:List Nat).all λb=>(K w.params).any λp=>q2 (K w.params) p.1 b)=true)(F:∀(w:bY) (mg:Str->Option aj) (bZ:ai) (h:bk),(K w.params).In h->h.Ns h9 mg->mg d.name=some (.ref bZ) ->
   ∃fd:e1,(∀(s:aG) (u:aj),BindsTo s fd ⟨[u],[]⟩ [("_law_script",u)])/\∀base:bk,(K w.params).In base->base.Ns h9 mg->mc mg base->fP l.prog w (K w.params) mg base d9 32 bZ fd ["_law_script"] (@spT (lX [(277,(("law":Str)++".<locals>.")++"<lambda>")]) (K w.params) 1 pR)):
  PySem.W.WalkO q loose rz mr l.row.toRowW d [] (λf vs=>PySem.call f vs):=
 aaI (n:=63) (k:=32) (x:="_law_script") (ts:=[277]) (ed:=λ_=>d9) (sp:=λw=>@spT (lX [(277,(("law":Str)++".<locals>.")++"<lambda>")]) (K w.params) 1 pR) a_ (by decide) ug ⟨rfl,by decide,by decide,rfl⟩ B1 dQ (λw b ae=>Option.isNone_iff_eq_none.mp (List.all_eq_true.mp (ua w) b ae)) (λw b ae=>by
  obtain⟨p,_,aE⟩:=List.any_eq_true.mp (List.all_eq_true.mp (eB w) b ae);exact⟨p.1,aE⟩) F (λw H a ns aF mI cn=>_D (t:=lX [(277,(("law":Str)++".<locals>.")++"<lambda>")]) (λp aE=>by have aE:p∈[(277,(("law":Str)++".<locals>.")++"<lambda>")]:=aE;simp only[bS,d8,or_false] at aE;rcases aE with rfl <;> simp) mI (eg w) (abe ns aF) cn) λ_ _ _ _ _ z=>z
end nt
open PySem PySem.W PyProof.Rows
set_option maxRecDepth 100000 in
set_option maxHeartbeats 0 in
theorem PySem.Challenge.cw_doorwatch_k03_lists_anywhere_holds : PySem.Challenge.rw_doorwatch_k03_lists_anywhere.Holds := by
 w_on;o_law;k_head;(case hw=>w_witness2)
 k_fill
 refine nt.walk (l:=PySem.Challenge.rw_doorwatch_k03_lists_anywhere) rfl rfl ?L (λw h Y=>PySem.W.km_in_of Y) (λw h Y=>PySem.W.km_tabs_of Y) ?NR ?MJ ?F
 case L=>
  intro w
  first|rfl|(with_unfolding_all rfl)|kernel_rfl
 case NR=>
  intro w
  first|rfl|(with_unfolding_all rfl)|kernel_rfl
 case MJ=>
  intro w
  first|rfl|(with_unfolding_all rfl)|kernel_rfl
 case F=>
  intro w mg bZ h iQ G uo;refine' nt.all_mk iQ G uo ?a1 ?cE ?dc ?eh ?a2 ?cF ?eO ?cU ?iT ?jA ?iW ?gM ?nC ?DN ?mw ?h5 ?nD ?DP ?A1 ?uB ?mu ?DQ ?mx ?xm ?nE ?DR ?p9 ?Dc ?p4 ?DS ?p_ ?Dd ?p5 ?DT ?p' ?De ?zR ?Di ?Au ?CI ?zS ?Dj ?Av ?CJ ?zT ?Dk ?Aw ?CK ?zU ?Dl ?Ax ?CL ?zV ?Dm ?Ay ?CM ?zW ?Dn ?Az ?CN ?zX ?Dp ?AA ?CO ?zY ?Dq ?AB ?CP ?zZ ?Dr ?AD ?CQ ?z0 ?Ds ?AE ?CR ?z1 ?Dt ?AF ?CS ?z2 ?Du ?AG ?CT ?z3 ?Dv ?AH ?CU ?z4 ?Dw ?AI ?CV ?z5 ?Dx ?AJ ?CW ?z6 ?Dy ?AK ?CX ?z7 ?Dz ?AL ?CY ?z8 ?DA ?AM ?CZ ?z9 ?DB ?AN ?C0 ?z_ ?DC ?AO ?C1 ?z' ?DD ?AP ?C2 ?Aa ?DE ?AQ ?C3 ?Ab ?DF ?AR ?C4 ?Ac ?DG ?AS ?C5 ?Ad ?DH ?AU ?C6 ?Ae ?DI ?AV ?C7 ?Af ?DJ ?AW ?C8 ?Ag ?DK ?AX ?C9 ?Ah ?DL ?AY ?C_ ?Ai ?DM ?AZ ?C' ?Aj ?DO ?A0 ?qv ?Ak ?xn ?wL ?qw ?d4 ?hO ?ey ?m_ ?rk ?rj ?cT ?gn ?hn ?kk ?kj ?rl ?ma ?pN ?pM ?t6 ?Eh ?t2 ?Ee ?t4 ?Ef ?t5 ?Eg ?t7 ?Ei ?qf ?t9
  (case t9=>first|kernel_rfl|rfl|(with_unfolding_all rfl))
  (case a1|cE|dc|eh|a2|cF|eO|cU|iT|jA|iW|gM|nC|DN|mw|h5|nD|DP|A1|uB|mu|DQ|mx|xm|nE|DR|p9|Dc|p4|DS|p_|Dd|p5|DT|p'|De|zR|Di|Au|CI|zS|Dj|Av|CJ|zT|Dk|Aw|CK|zU|Dl|Ax|CL|zV|Dm|Ay|CM|zW=>k_is)
  (case Dn|Az|CN|zX|Dp|AA|CO|zY|Dq|AB|CP|zZ|Dr|AD|CQ|z0|Ds|AE|CR|z1|Dt|AF|CS|z2|Du|AG|CT|z3|Dv|AH|CU|z4|Dw|AI|CV|z5|Dx|AJ|CW|z6|Dy|AK|CX|z7|Dz|AL|CY|z8|DA|AM|CZ=>k_is)
  (case z9|DB|AN|C0|z_|DC|AO|C1|z'|DD|AP|C2|Aa|DE|AQ|C3|Ab|DF|AR|C4|Ac|DG|AS|C5|Ad|DH|AU|C6|Ae|DI|AV|C7|Af|DJ|AW|C8|Ag|DK|AX|C9|Ah|DL|AY|C_|Ai|DM|AZ|C'|Aj|DO|A0=>k_is)
  (case qv|Ak|xn|wL|qw|d4|hO|ey|m_|rk|rj|cT|gn|hn|kk|kj|rl|ma|pN|pM|t6|Eh|t2|Ee|t4|Ef|t5|Eg|t7|Ei=>k_is)
  (case qf=>k_is)
end
end
